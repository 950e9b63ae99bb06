import PyProof.Rows.All
import Wide.All
import OpenK.AllK
import Wide.FinOn
import Lean
import PyProof.EqAt
import PyProof.EqKinds
import PyProof.TupleCall
import PyProof.EqLayable
import KE.KSortTup
import PyProof.AttrMissHeap
import KE.KDictOf
import KE.KDictSum
import PyProof.Rows.SortWalk
import PyProof.NeKinds
import PyProof.DictWalks
import KE.KMinBuiltin
import PyProof.DictRoadsH
import Wide.Seal
import KE.KDictLaws
import KE.KDictSum
import KE.KDictLaws
import PyProof.DictFindH
import PyProof.DictRoadsH
import PyProof.WalksMore
import PyProof.Draws
import PyProof.EnumMake
import PyProof.TupleIter
import KE.KLam
import KE.KNestM
import PyProof.ListRange
import PySem.Challenge.RW_nightbook_k72_all_places_tried
set_option Elab.async false
set_option linter.all false
set_option maxRecDepth 100000
set_option maxHeartbeats 4000000
set_option exponentiation.threshold 40000
open List renaming length_map→aC,getElem?_eq_getElem→aD,mem_cons_self→aG,mem_cons_of_mem→aJ,getD_eq_getElem?_getD→aK,mem_singleton→aM,getElem?_map→aO,getElem?_eq_none→aP,mem_range→aQ,size_toArray→aU,map_cons→aV,mem_cons→aY,range→aZ,length_cons→bf,replicate→bA,getElem?_set_ne→bD,mem_append_right→bF,length_range→bH,length_append→bK,length_replicate→bO,length_eq_zero_iff→bR,mem_append_left→bW,mem_map→bY,all_eq_true→cB,map_append→cC,getElem?_append_right→cF,append_nil→cH,replicate_succ→cJ,mem_append→cL,length_set→cM,getElem?_append_left→cR,getElem?_set_self→cT,lookup_cons→cX,getElem_mem→cY,nil_append→dF,map_map→dI,ext_getElem?→dN,pairwise_cons→dW,getElem?_of_mem→dZ,getElem?_mapIdx→d7,not_mem_nil→d9,map_nil→eF,getElem?_eq_some_iff→eU,getElem?_drop→eY,toArray→eZ,mem_of_getElem?→fj,getElem?_replicate→fH,flatten_cons→fJ,getElem?_range→fO,length_take→fY,length_singleton→gh,mem_of_find?_eq_some→gj,pairwise_iff_getElem→gq,nodup_cons→gB,map_congr_left→gP,find?_eq_none→ig,mem_filter→iH,find?_cons→iJ,reverse_cons→iU,append_assoc→iV,pairwise_map→iW,ext_getElem→jh,drop_eq_getElem_cons→jm,length_nil→jx,mem_filterMap→jz,range'→jB,mem_singleton_self→jC,getElem?_cons_succ→jD,getElem?_set→jM,drop_eq_nil_of_le→jN,getElem_map→j9,length→kZ,foldl_cons→lq,filterMap_cons→lF,map→mK,getElem_range→mL,length_drop→nD,filter_cons→nH,of_mem_zip→o8,find?_some→o9,forIn_cons→o_,length_filter_le→pC,mem_iff_getElem?→pD,nodup_nil→pI,pairwise_append→pL,getElem_of_mem→qt,length_reverse→qu,length_pos_iff→qw,any_cons→qz,perm_nil→qH,length_range'→rA,length_mapIdx→rB,getElem?_take→rC,zip_cons_cons→rD,take_add_one→sy,nodup_append→sG,lookup→uL,foldl→vJ
open Nat renaming reduceLeDiff→aj,reduceEqDiff→ak,reduceAdd→ao,reduceLT→aq,le_refl→aL,ne_of_lt→aR,le_trans→aW,lt_of_lt_of_le→bJ,zero_le→cZ,le_of_lt→dj,lt_or_ge→dw,lt_irrefl→dO,lt_succ_self→d8,zero_add→fQ,ne_of_gt→jL,lt_succ_of_lt→jO,mul_le_mul_left→lG,mul_comm→lK,lt_trans→lM,pow_succ→lO,not_lt→mJ,le_add_right→nG,succ_le_succ→nJ,min_le_left→pA,pow_le_pow_right→pK,mul_le_mul_right→pN,mul_le_mul→pO,mul_assoc→qJ,lt_of_le_of_lt→q_,succ_mul→rW,lt_of_succ_lt→su,succ→sH
open Int renaming reduceEq→au,reduceLT→aA,reduceLE→aB,toNat_natCast→cO,emod_lt_of_pos→iw,emod_nonneg→jy,zero_add→lN,le_antisymm→pq,le_trans→rY,sub_zero→rZ
open Option renaming bind_some→aN,some→b_,map_some→iI,bind_eq_some_iff→nF,isSome_map→sE
open Bool renaming and_eq_true→bw,false_ne_true→cg,false_eq_true→iu,not_true→iQ,and_eq_true_iff→jc,or_eq_true→lu,true_and→nj,and_eq_false_iff→pB,false_and→pH,not_false→pJ
open Array renaming length_toList→bI,getElem?_eq_none→eG,getElem?_toList→eV,getD_eq_getD_getElem?→fU,getElem?_eq_getElem→jq,perm_iff_toList_perm→mH,forIn_toList→rm
theorem dTr {p:Prop} [Decidable p] (h:p):decide p=true:=decide_eq_true h
theorem dFa {p:Prop} [Decidable p] (h:¬ p):decide p=false:=decide_eq_false h
theorem lMp {α β:Type} {f:α→β} {l:List α}:(l.map f).length=l.length:=aC f

namespace L2
open PySem PySem.Spec PyProof.Rows
abbrev Key:=Sum Int Str
def vK:Key→Value→Bool
 | .inl k,v=>Value.isInt k v
 | .inr x,v=>Value.isStrOf x v
def Y5 (w:World):Key→Int
 | .inl k=>hashInt k
 | .inr x=>hashStr w x
theorem fW:∀ {k:Key} {v:Value},vK k v=true→(∃ i t,k=Sum.inl i∧v=Value.int i t)∨(∃ x t,k=Sum.inr x∧v=Value.str x t)
 | .inl i,v,h=>by
  obtain ⟨t,e⟩:=Value.isInt_shape (k:=i) (v:=v) h
  exact .inl ⟨i,t,rfl,e⟩
 | .inr x,v,h=>by
  obtain ⟨t,e⟩:=Value.isStrOf_shape (x:=x) (v:=v) h
  exact .inr ⟨x,t,rfl,e⟩
theorem H_ (i:Int) (t:Tok):vK (.inl i) (.int i t)=true:=by simp [vK,Value.isInt]
theorem Ia (x:Str) (t:Tok):vK (.inr x) (.str x t)=true:=by simp [vK,Value.isStrOf]
theorem Tr (a b:Int):decide ((Sum.inl a:Key)=Sum.inl b)=(a == b):=by
 by_cases e:a=b
 ·subst e;simp
 ·have h:¬ (Sum.inl a:Key)=Sum.inl b:=fun q=>e (Sum.inl.inj q)
  rw [dFa h]
  exact (beq_eq_false_iff_ne.mpr e).symm
theorem Tt (a b:Str):decide ((Sum.inr a:Key)=Sum.inr b)=decide (a=b):=by
 by_cases e:a=b
 ·subst e;simp
 ·have h:¬ (Sum.inr a:Key)=Sum.inr b:=fun q=>e (Sum.inr.inj q)
  rw [dFa h,dFa e]
theorem Tv (a:Int) (b:Str):decide ((Sum.inl a:Key)=Sum.inr b)=false:=dFa (fun q=>nomatch q)
theorem Tw (a:Str) (b:Int):decide ((Sum.inr a:Key)=Sum.inl b)=false:=dFa (fun q=>nomatch q)
def bV (prog:Program) (w:World):PySem.KeyKind prog w Key where
 is:=vK
 hash:=Y5 w
 inj:=fun v a b ha hb=>by
  rcases fW ha with ⟨i,t,rfl,rfl⟩ | ⟨x,t,rfl,rfl⟩
  ·rcases fW hb with ⟨j,u,rfl,e⟩ | ⟨y,u,rfl,e⟩
   ·injection e with e1 _;rw [e1]
   ·exact nomatch e
  ·rcases fW hb with ⟨j,u,rfl,e⟩ | ⟨y,u,rfl,e⟩
   ·exact nomatch e
   ·injection e with e1 _;rw [e1]
 byValue:=fun k v h=>by
  rcases fW h with ⟨i,t,rfl,rfl⟩ | ⟨x,t,rfl,rfl⟩ <;> rfl
 pyHash:=fun hv h=>by
  rcases fW hv with ⟨i,t,rfl,rfl⟩ | ⟨x,t,rfl,rfl⟩
  ·exact wpAny_pyHash_int h
  ·exact wpAny_pyHash_str h
 eqBool:=fun hu hv h=>by
  rcases fW hu with ⟨i,t,rfl,rfl⟩ | ⟨x,t,rfl,rfl⟩
  ·rcases fW hv with ⟨j,u,rfl,rfl⟩ | ⟨y,u,rfl,rfl⟩
   ·rw [Tr] at h;exact wpAny_eqBool_int h
   ·rw [Tv] at h;exact SeqAt.EqAt.int_str i t y u _ _ _ _ h
  ·rcases fW hv with ⟨j,u,rfl,rfl⟩ | ⟨y,u,rfl,rfl⟩
   ·rw [Tw] at h;exact SeqAt.EqAt.str_int x t j u _ _ _ _ h
   ·rw [Tt] at h;exact wpAny_eqBool_str h
 «strs»:=fun k x t v h=>by
  rcases fW h with ⟨i,u,rfl,e⟩ | ⟨y,u,rfl,e⟩
  ·exact nomatch e
  ·injection e with e1 _
   subst e1
   cases v <;> rfl
theorem vL (prog:Program) (w:World) (k:Key) (v:Value):(bV prog w).is k v=vK k v:=rfl
theorem Bk (prog:Program) (w:World) (i:Int) (t:Tok):(bV prog w).is (.inl i) (.int i t)=true:=H_ i t
theorem Bm (prog:Program) (w:World) (x:Str) (t:Tok):(bV prog w).is (.inr x) (.str x t)=true:=Ia x t
end L2
variable {us:List Value} {a b:Addr} {P:Program} {w:World} {h:Heap}
namespace L2
open PySem PySem.Spec PyProof.Rows
inductive V where
 | non | bl (b:Bool) | int (i:Int) | str (x:Str) | byt (b:Array UInt8) | flt (b:UInt64) | ref (a:Addr) | ty (n:String)
 deriving DecidableEq
def RelV:V→Value→Prop
 | .non,u=>u=Value.none
 | .bl b,u=>u=Value.bool b
 | .int i,u=>∃ t,u=Value.int i t
 | .str x,u=>∃ t,u=Value.str x t
 | .byt b,u=>∃ t,u=Value.bytes b t
 | .flt b,u=>∃ t,u=Value.float b t
 | .ref a,u=>u=Value.ref a
 | .ty n,u=>u=Value.type n
abbrev Vals:List V→List Value→Prop:=Paired RelV
theorem Vals.length {xs:List V} (r:Vals xs us):xs.length=us.length:=Paired.length r
theorem Vals.get:∀ {xs:List V} {us:List Value} {i:Nat} {x:V},Vals xs us→xs[i]? = some x→∃ u,us[i]? = some u∧RelV x u
 | _,_,_,_,.nil,e=>by simp at e
 | _,_,0,_,.cons r _,e=>by simp at e;subst e;exact ⟨_,rfl,r⟩
 | _,_,i + 1,x,.cons _ t,e=>by
  obtain ⟨u,h1,h2⟩:=Vals.get (i:=i) (x:=x) t (by simpa using e)
  exact ⟨u,by simpa using h1,h2⟩
theorem Vals.set {x:V} {u:Value} (r:RelV x u):∀ {xs:List V} {us:List Value} (i:Nat),Vals xs us→Vals (xs.set i x) (us.set i u)
 | _,_,_,.nil=>.nil
 | _,_,0,.cons _ t=>.cons r t
 | _,_,i + 1,.cons q t=>.cons q (Vals.set r i t)
theorem Vals.append:∀ {xs ys:List V} {us ws:List Value},Vals xs us→Vals ys ws→Vals (xs++ys) (us++ws)
 | _,_,_,_,.nil,s=>s
 | _,_,_,_,.cons r t,s=>.cons r (Vals.append t s)
theorem Vals.take:∀ {xs:List V} {us:List Value} (n:Nat),Vals xs us→Vals (xs.take n) (us.take n)
 | _,_,0,_=>.nil
 | _,_,_ + 1,.nil=>.nil
 | _,_,n + 1,.cons r t=>.cons r (Vals.take n t)
theorem Vals.drop:∀ {xs:List V} {us:List Value} (n:Nat),Vals xs us→Vals (xs.drop n) (us.drop n)
 | _,_,0,r=>r
 | _,_,_ + 1,.nil=>.nil
 | _,_,n + 1,.cons _ t=>Vals.drop n t
def tX:Option V→Option Value→Prop
 | some v,some u=>RelV v u
 | none,none=>True
 | _,_=>False
def KV {κ:Type}:List (κ × V)→List (κ × Value)→Prop:=Paired fun (p:κ × V) (q:κ × Value)=>p.1=q.1∧RelV p.2 q.2
def kV:Key→V
 | .inl i=>.int i
 | .inr x=>.str x
inductive HO where
 /-- a list -/
 | lst (xs:List V)
 /-- a tuple (never changes) -/
 | tup (xs:List V)
 /-- a dict whose keys are ints and texts;one whose keys are tuples of ints and texts (the empty one is both) -/
 | dK (kvs:List (Key × V)) | dT (kvs:List (List Key × V))
 /-- a set of ints: its members,its size -/
 | set (S:Int→Bool) (n:Nat)
 /-- an instance of the class at C,its dict at dx,its attributes -/
 | ins (C dx:Addr) (fs:List (Str × V))
 /-- the dict of the instance at x -/
 | own (x:Addr)
 /-- the dict of an exception -/
 | xd (fs:List (Str × V))
 /-- a bound method,f of x -/
 | met (f x:Addr)
 /-- a range object lo,lo + 1,.. below hi -/
 | rng (lo hi:Int)
 /-- a thing that is known to the object (the script;a dict while a loop walks it): read,never written while it is so -/
 | frz (o:Obj) (u:HO)
 /-- a code object's table -/
 | tbl (q:Str) (p:Pos)
 /-- any other thing,by what is true of its one object (a def of one's own: SetO a S n:=HO.ext fun h=>..) -/
 | ext (φ:Heap→Prop)
abbrev Hp:=Addr→Option HO
def upd (H:Hp) (a:Addr) (o:HO):Hp:=fun b=>if b=a then some o else H b
theorem bM {H:Hp} {o:HO}:upd H a o a=some o:=by unfold upd;rw [if_pos rfl]
theorem bB {H:Hp} {o:HO} (h:b ≠ a):upd H a o b=H b:=by unfold upd;rw [if_neg h]
theorem O6 {H:Hp} {o u:HO}:upd (upd H a o) a u=upd H a u:=by
 funext b;unfold upd;split <;> rfl
theorem fZ {H:Hp} {o u:HO} (h:H a=some o) (h':H b=some u) (d:o ≠ u):a ≠ b:=by
 intro e;subst e;rw [h] at h';exact d (b_.inj h')
theorem iy {H:Hp} {o:HO} (h:H a=some o) (h':H b=none):a ≠ b:=by
 intro e;subst e;rw [h] at h';cases h'
section
variable (P:Program) (w:World)
def fu (H:Hp) (h:Heap) (a:Addr):HO→Prop
 | .lst xs=>xs.length ≤ sizeLine∧∃ (its:List Value) (n:Nat),Vals xs its∧h.get? a=some { cls:=.type "list", data:=.seq its.toArray n }
 | .tup xs=>xs.length ≤ sizeLine∧∃ its:List Value,Vals xs its∧IsTup h a its.toArray
 | .dK kvs=>kvs.length ≤ sizeLine∧(a == sysModules)=false∧∃ vs,KV kvs vs∧h.DictOf (bV P w) a vs
 | .dT kvs=>kvs.length ≤ sizeLine∧(a == sysModules)=false∧∃ xs:List (List Key × Addr × Value),
  Paired (fun (p:List Key × V) (q:List Key × Addr × Value)=>p.1=q.1∧H q.2.1=some (.tup (p.1.map kV))∧RelV p.2 q.2.2) kvs xs ∧
  ∃ o es ep,h.get? a=some o∧o.ExactDict∧o.data = .dict es ep∧es.toList=xs.map (entryOfKey (tupleKind (bV P w)))∧(xs.map (·.1)).Nodup
 | .set S n=>h.SetOf (intKind P w) a S n
 | .ins C dx fs=>H dx=some (.own a)∧fs.length ≤ 1000∧dx ≠ a∧h.get? a=some (PySem.W.instObj C dx) ∧
  ∃ mA,h.Ns1 dx mA∧(∀ f,tX (fs.lookup f) (mA f))∧PySem.Within mA (fs.map (·.1))
 | .own _=>∃ o,h.get? a=some o
 | .xd fs=>∃ mA,h.Ns1 a mA∧∀ f,tX (fs.lookup f) (mA f)
 | .rng lo hi=>∃ t u v,h.get? a=some { cls:=.type "range", data:=.fields #[.int lo t,.int hi u,.int 1 v] }
 | .frz o u=>h.get? a=some o∧fu H h a u
 | .tbl q p=>∃ ps,h.get? a=some { cls:=.none,data:=.fields ps }∧(ps = #[]∨∃ c',ps = #[rawInt p.line,rawInt p.col,.ref c']∧H c'=some (.own a)∧h.CodeRec (.ref c') q)
 | .met f x=>h.get? a=some (PySem.W.methodObj (.ref f) (.ref x))
 | .ext φ=>φ h∧(∃ o,h.get? a=some o)∧∀ h1 h2:Heap,φ h1→(∀ o,h1.get? a=some o→h2.get? a=some o)→φ h2
def HOk (H:Hp) (h:Heap):Prop:=∀ a o,H a=some o→fu P w H h a o
end
section
variable {P:Program} {w:World} {H H':Hp} {h h':Heap} {a:Addr} {o:HO}
theorem fu.lt (x:fu P w H h a o):a < h.objs.size:=by
 cases o with
 | lst xs=>obtain ⟨_,_,_,_,e⟩:=x;exact Heap.lt_size e
 | tup xs=>obtain ⟨_,_,_,p⟩:=x;exact p.lt
 | dK kvs=>obtain ⟨_,_,_,_,o,_,_,e,_⟩:=x;exact Heap.lt_size e
 | dT kvs=>obtain ⟨_,_,_,_,o,_,_,e,_⟩:=x;exact Heap.lt_size e
 | set S n=>obtain ⟨o,_,_,_,e,_⟩:=x;exact Heap.lt_size e
 | ins C dx fs=>obtain ⟨_,_,_,e,_⟩:=x;exact Heap.lt_size e
 | own y=>obtain ⟨_,e⟩:=x;exact Heap.lt_size e
 | xd fs=>obtain ⟨_,⟨_,_,_,e,_⟩,_⟩:=x;exact Heap.lt_size e
 | rng lo hi=>obtain ⟨_,_,_,e⟩:=x;exact Heap.lt_size e
 | frz ob u=>obtain ⟨e,_⟩:=x;exact Heap.lt_size e
 | tbl q p=>obtain ⟨_,e,_⟩:=x;exact Heap.lt_size e
 | met f y=>exact Heap.lt_size (show h.get? a=some _ from x)
 | ext φ=>obtain ⟨_,⟨_,e⟩,_⟩:=x;exact Heap.lt_size e
theorem Paired.mapP {α β:Type} {F G:α→β→Prop}:∀ {l₁:List α} {l₂:List β},Paired F l₁ l₂→(∀ a b,F a b→G a b)→Paired G l₁ l₂
 | _,_,.nil,_=>.nil
 | _,_,.cons r t,f=>.cons (f _ _ r) (Paired.mapP t f)
theorem fu.stay (x:fu P w H h a o) (k:∀ b u,(b=a∨H b=some (.own a))→h.get? b=some u→h'.get? b=some u)
 (ho:∀ b,H b=some (.own a)→H' b=some (.own a)) (ht:∀ b xs,H b=some (.tup xs)→H' b=some (.tup xs)):fu P w H' h' a o:=by
 induction o with
 | lst xs=>obtain ⟨z,its,n,r,e⟩:=x;exact ⟨z,its,n,r,k _ _ (.inl rfl) e⟩
 | tup xs=>obtain ⟨z,its,r,ob,e,c⟩:=x;exact ⟨z,its,r,ob,k _ _ (.inl rfl) e,c⟩
 | dK kvs=>obtain ⟨z,y,vs,r,ob,es,ep,e,c⟩:=x;exact ⟨z,y,vs,r,ob,es,ep,k _ _ (.inl rfl) e,c⟩
 | dT kvs =>
  obtain ⟨z,y,xs,r,ob,es,ep,e,c⟩:=x
  exact ⟨z,y,xs,Paired.mapP r fun p q z=>⟨z.1,ht _ _ z.2.1,z.2.2⟩,ob,es,ep,k _ _ (.inl rfl) e,c⟩
 | set S n=>obtain ⟨ob,es,ep,t,e,c⟩:=x;exact ⟨ob,es,ep,t,k _ _ (.inl rfl) e,c⟩
 | ins C dx fs =>
  obtain ⟨d,z,ne,e,mA,⟨od,es,ep,e2,c⟩,r⟩:=x
  exact ⟨ho _ d,z,ne,k _ _ (.inl rfl) e,mA,⟨od,es,ep,k _ _ (.inr d) e2,c⟩,r⟩
 | own y=>obtain ⟨ob,e⟩:=x;exact ⟨ob,k _ _ (.inl rfl) e⟩
 | xd fs=>obtain ⟨mA,⟨od,es,ep,e,c⟩,r⟩:=x;exact ⟨mA,⟨od,es,ep,k _ _ (.inl rfl) e,c⟩,r⟩
 | rng lo hi=>obtain ⟨t,u,v,e⟩:=x;exact ⟨t,u,v,k _ _ (.inl rfl) e⟩
 | frz ob u ih=>obtain ⟨e,q⟩:=x;exact ⟨k _ _ (.inl rfl) e,ih q⟩
 | tbl q p =>
  obtain ⟨ps,e,z⟩:=x
  refine ⟨ps,k a _ (.inl rfl) e,?_⟩
  rcases z with z | ⟨c',z1,z2,z3⟩
  ·exact .inl z
  ·obtain ⟨c,oc,vs,tq,hc,hoc,hdc,hq⟩:=z3
   have hc':c'=c:=by injection hc
   exact .inr ⟨c',z1,ho _ z2,c,oc,vs,tq,hc,k _ _ (.inr (hc' ▸ z2)) hoc,hdc,hq⟩
 | met f y =>
  have e:h.get? a=some (PySem.W.methodObj (.ref f) (.ref y)):=x
  show h'.get? a=some (PySem.W.methodObj (.ref f) (.ref y))
  exact k a _ (.inl rfl) e
 | ext φ=>obtain ⟨p,⟨o,e⟩,st⟩:=x;exact ⟨st _ _ p fun o q=>k _ _ (.inl rfl) q,⟨o,k _ _ (.inl rfl) e⟩,st⟩
theorem HOk.lt (x:HOk P w H h) (e:H a=some o):a < h.objs.size:=(x a o e).lt
theorem HOk.fresh (x:HOk P w H h) (e:h.objs.size ≤ a):H a=none:=by
 cases q:H a with
 | none=>rfl
 | some u=>exact absurd (bJ (x.lt q) e) (dO _)
theorem HOk.kept (x:HOk P w H h) (k:∀ b u,h.get? b=some u→h'.get? b=some u):HOk P w H h':=fun a o e =>
 (x a o e).stay (fun b u _ q=>k b u q) (fun _ q=>q) fun _ _ q=>q
theorem HOk.laid (x:HOk P w H h) (k:∀ b u,h.get? b=some u→h'.get? b=some u) (hp:h.objs.size ≤ a) (new:fu P w (upd H a o) h' a o):HOk P w (upd H a o) h':=fun b u e=>by
 have hn:=x.fresh hp
 by_cases hb:b=a
 ·subst hb;rw [bM] at e;cases e;exact new
 ·rw [bB hb] at e
  exact (x b u e).stay (fun c v _ q=>k c v q) (fun c q=>by rw [bB (iy q hn)];exact q) fun c xs q=>by rw [bB (iy q hn)];exact q
end
def Rd (H:Hp) (a:Addr) (u:HO):Prop:=H a=some u∨∃ o,H a=some (.frz o u)
theorem Rd.ok {H:Hp} {u:HO} (r:Rd H a u) (x:HOk P w H h):fu P w H h a u:=by
 rcases r with r | ⟨o,r⟩
 ·exact x a u r
 ·obtain ⟨_,q⟩:=x a _ r
  exact q
def Mut:Option HO→Prop
 | some (.lst _)=>True
 | some (.dK _)=>True
 | some (.dT _)=>True
 | some (.set _ _)=>True
 | some (.ins _ _ _)=>True
 | some (.ext _)=>True
 | _=>False
section
variable {P:Program} {w:World} {H:Hp} {h h':Heap} {x e:Addr} {o':HO}
theorem HOk.write (ok:HOk P w H h) (mu:Mut (H x)) (he:e=x∨H e=some (.own x)) (k:∀ b u,b ≠ e→h.get? b=some u→h'.get? b=some u) (heo:∃ u,h'.get? e=some u)
 (new:fu P w (upd H x o') h' x o'):HOk P w (upd H x o') h':=fun b u q=>by
 have nown:∀ c y,H c=some (.own y)→c ≠ x:=fun c y r z=>by subst z;rw [r] at mu;exact mu
 have ntup:∀ c xs,H c=some (.tup xs)→c ≠ x:=fun c xs r z=>by subst z;rw [r] at mu;exact mu
 by_cases hb:b=x
 ·subst hb;rw [bM] at q;cases q;exact new
 ·rw [bB hb] at q
  by_cases hbe:b=e
  ·have q':H b=some (.own x):=by
    rcases he with z | z
    ·exact absurd (hbe.trans z) hb
    ·rw [hbe];exact z
   rw [q] at q';cases q'
   obtain ⟨v,hv⟩:=heo
   exact ⟨v,by rw [hbe];exact hv⟩
  ·refine (ok b u q).stay (fun c v hc r=>k c v ?_ r) (fun c r=>by rw [bB (nown c b r)];exact r) fun c xs r=>by rw [bB (ntup c xs r)];exact r
   rcases hc with rfl | hc
   ·exact hbe
   ·rintro rfl
    rcases he with z | z
    ·exact nown c b hc z
    ·rw [hc] at z;cases z;exact hb rfl
end
structure Un (fs ex:List Addr) (H H':Hp) (h h':Heap):Prop where
 keep:∀ b o,h.get? b=some o→H b=none→b ∉ fs→b ∉ ex→h'.get? b=some o
 slot:∀ b o,h.get? b=some o→H b=none→b ∈ fs→b ∉ ex→∃ sl,h'.get? b=some { o with slots:=sl }
 free:∀ b o,h.get? b=some o→H b=none→b ∉ ex→H' b=none
 there:∀ b o,h.get? b=some o→b ∉ ex→∃ o',h'.get? b=some o'
 tups:∀ b xs,H b=some (.tup xs)→H' b=some (.tup xs)
 frzs:∀ b o u,H b=some (.frz o u)→H' b=some (.frz o u)
 tbls:∀ b q p,H b=some (.tbl q p)→H' b=some (.tbl q p)
section
variable {fs fs' ex ex':List Addr} {H H1 H2:Hp} {h h1 h2 h':Heap} {a x e:Addr} {o:HO}
theorem Un.any (u:Un fs ex H H1 h h1) {b:Addr} {ob:Obj} (q:h.get? b=some ob) (n:H b=none) (hx:b ∉ ex):∃ sl,h1.get? b=some { ob with slots:=sl }:=by
 by_cases hb:b ∈ fs
 ·exact u.slot b ob q n hb hx
 ·exact ⟨ob.slots,u.keep b ob q n hb hx⟩
theorem Un.kept (k:∀ b u,h.get? b=some u→h'.get? b=some u):Un fs ex H H h h' :=
 ⟨fun b ob q _ _ _=>k b ob q,fun b ob q _ _ _=>⟨ob.slots,k b ob q⟩,fun _ _ _ n _=>n,fun b ob q _=>⟨ob,k b ob q⟩,fun _ _ q=>q,fun _ _ _ q=>q,fun _ _ _ q=>q⟩
theorem Un.refl:Un fs ex H H h h:=Un.kept fun _ _ q=>q
theorem Un.laid (k:∀ b u,h.get? b=some u→h'.get? b=some u) (hp:h.objs.size ≤ a) (hn:H a=none):Un fs ex H (upd H a o) h h' where
 keep:=fun b u q _ _ _=>k b u q
 slot:=fun b u q _ _ _=>⟨u.slots,k b u q⟩
 free:=fun b u q n _=>by rw [bB (aR (bJ (Heap.lt_size q) hp))];exact n
 there:=fun b u q _=>⟨u,k b u q⟩
 tups:=fun b xs q=>by rw [bB (iy q hn)];exact q
 frzs:=fun b u xs q=>by rw [bB (iy q hn)];exact q
 tbls:=fun b q p e=>by rw [bB (iy e hn)];exact e
theorem Un.write (mu:Mut (H x)) (he:e=x∨H e=some (.own x)) (k:∀ b u,b ≠ e→h.get? b=some u→h'.get? b=some u) (heo:∃ u,h'.get? e=some u):Un fs ex H (upd H x o) h h':=by
 have hx:∀ b,H b=none→b ≠ x:=fun b n z=>by subst z;rw [n] at mu;exact mu
 have hb:∀ b,H b=none→b ≠ e:=fun b n z=>by
  subst z
  rcases he with r | r
  ·exact hx b n r
  ·rw [n] at r;cases r
 have hm:∀ b u,H b=some u→¬ Mut (some u)→b ≠ x:=fun b u q nm z=>by subst z;rw [q] at mu;exact nm mu
 refine ⟨fun b u q n _ _=>k b u (hb b n) q,fun b u q n _ _=>⟨u.slots,k b u (hb b n) q⟩,fun b u q n _=>by rw [bB (hx b n)];exact n,fun b u q _=>?_,
  fun b xs q=>by rw [bB (hm b _ q fun z=>z)];exact q,fun b u xs q=>by rw [bB (hm b _ q fun z=>z)];exact q,fun b q p e=>by rw [bB (hm b _ e fun z=>z)];exact e⟩
 by_cases hbe:b=e
 ·subst hbe;exact heo
 ·exact ⟨u,k b u hbe q⟩
end
def trk (h:Heap) (H:Hp):List Addr:=(aZ h.objs.size).filter fun a=>(H a).isSome
def zq (h:Heap) (H:Hp):Heap:=PySem.W.hideAll h (trk h H)
theorem Ie (h:Heap) (H:Hp):(zq h H).objs.size=h.objs.size:=PySem.W.hideAll_size _ _
theorem JX {H:Hp} {o:Obj} (e:h.get? b=some o) (n:H b=none):(zq h H).get? b=some o :=
 PySem.W.hideAll_get _ e fun hm=>by
  have q:(H b).isSome=true:=(iH.mp hm).2
  rw [n] at q;simp at q
theorem O7 {H:Hp} {o:Obj} (e:(zq h H).get? b=some o):h.get? b=some o∧H b=none:=by
 have e':h.get? b=some o:=PySem.W.of_hideAll (trk h H) e
 refine ⟨e',?_⟩
 cases q:H b with
 | none=>rfl
 | some x =>
  have hm:b ∈ trk h H:=iH.mpr ⟨aQ.mpr (Heap.lt_size e'),by simp [q]⟩
  have z:(zq h H).get? b=none:=PySem.W.hideAll_none (trk h H) hm
  rw [z] at e;cases e
def jP (g h:Heap) (L:Addr):List (Addr × Obj):=(aZ h.objs.size).filterMap fun a=>if a=L∨(g.get? a).isSome=true then none else (h.get? a).map fun o=>(a,o)
theorem uM {g:Heap} {L:Addr} {o:Obj} (h1:a ≠ L) (h2:g.get? a=none) (h3:h.get? a=some o):(a,o) ∈ jP g h L :=
 jz.mpr ⟨a,aQ.mpr (Heap.lt_size h3),by simp [h1,h2,h3]⟩
theorem vM {g:Heap} {L:Addr} {p:Addr × Obj} (hp:p ∈ jP g h L):p.1 ≠ L∧g.get? p.1=none∧h.get? p.1=some p.2:=by
 obtain ⟨b,_,e⟩:=jz.mp hp
 split at e
 ·cases e
 ·rename_i hn
  cases q:h.get? b with
  | none=>rw [q] at e;simp at e
  | some u =>
   rw [q] at e
   simp only [iI,b_.injEq] at e
   subst e
   refine ⟨fun z=>hn (.inl z),?_,q⟩
   show g.get? b=none
   cases r:g.get? b with
   | none=>rfl
   | some v=>exact (hn (.inr (by simp [r]))).elim
theorem vN {g:Heap} {L:Addr}:News g L h (jP g h L):=fun p hp=>let ⟨a,b,c⟩:=vM hp;⟨c,a,b⟩
end L2
variable {t' i:Nat} {ch:List Addr} {it:Addr} {o:L2.HO} {N:List Str} {M:Model} {A:Around} {E:Value→Shared→Prop} {x:Str} {v:L2.V} {e:Expr} {s:Shared}
namespace L2
open PySem PySem.Spec PyProof.Rows
structure Mod (K:PySem.W.Frag) (mg:Str→Option Value) (base:Heap):Prop where
 kin:K.In base
 glob:base.Ns mainGlobals mg
 blt:∃ mb,base.Ns builtinsNs mb∧∀ x:Str,x ≠ "__name__" → mb x=bootBuiltins x
 nolimit:base.NoLimit
 bm:∃ bm ob,mg "__builtins__" = some (.ref bm)∧bm ≠ builtinsNs∧base.get? bm=some ob∧ob.cls = .type "module" ∧ ob.dict=some builtinsNs∧ob.data = .plain
structure Cx where
 prog:Program
 w:World
 K:PySem.W.Frag
 mg:Str→Option Value
 base:Heap
 A:Around
 N:List Str
 s₀:Shared
 H₀:Hp
 env:Env
 outer:List Env
 stack:List Env
 ex:List Addr
 fn:Str→Bool
 calm:Bool
 pn:List (Addr × Obj)
 xe:Value→Shared→Prop
def frs (l:List Env):List Addr:=l.filterMap (·.frame)
abbrev Cx.fs (X:Cx):List Addr:=frs X.outer
def Vis (sc:Scope) (x:Str):Prop:=sc.names.lookup x=some .local∨sc.names.lookup x=some .cell∨sc.names.lookup x=some .free
def Loc (sc:Scope) (x:Str):Prop:=sc.names.lookup x=some .local∨sc.names.lookup x=some .cell
def Look (env:Env) (h:Heap) (m:Str→Option Value) (x:Str) (u:Value):Prop :=
 (env.kindOf x=some .local∧m x=some u)∨((env.kindOf x=some .cell∨env.kindOf x=some .free)∧∃ c,env.cells.lookup x=some c∧h.IsCell c (some u))
structure Cx.Ok (X:Cx):Prop where
 mod:Mod X.K X.mg X.base
 kind:X.env.scope.kind = .function
 glob:X.env.globals=mainGlobals
 blt:X.env.builtins=builtinsNs
 above:X.s₀.heap.objs.size ≤ X.env.locals
 inj:∀ x y c,X.env.cells.lookup x=some c→X.env.cells.lookup y=some c→x=y
 has:∀ x,(X.env.kindOf x=some .cell∨X.env.kindOf x=some .free)→∃ c,X.env.cells.lookup x=some c
 cab:∀ x c,X.fn x=true→X.env.cells.lookup x=some c→X.s₀.heap.objs.size ≤ c
 hd:X.calm=true→X.A.handled=none
 frames:X.A.frames=some X.stack
 stk:X.stack=X.outer∨(X.stack=X.env :: X.outer∧X.env.frame=some X.env.locals)
 exf:∀ b ∈ X.ex,b ≠ X.env.locals∧∀ x c,X.env.cells.lookup x=some c→c ≠ b
 bs:∀ b o,X.base.get? b=some o→X.s₀.heap.get? b=some o∧X.H₀ b=none
 bsz:X.base.objs.size ≤ X.s₀.heap.objs.size
 noex:∀ b o,X.base.get? b=some o→b ∉ X.ex
 exfs:∀ b ∈ X.ex,b ∉ X.fs
 funs:X.s₀.heap.FunFrames X.base X.outer
 frf:∀ b ∈ X.fs,X.H₀ b=none
structure Inv (X:Cx) (pins:List (Addr × Obj)) (σ:List (Option V)) (H:Hp) (s:Shared):Prop where
 ok:X.Ok
 os:s.os=X.s₀.os
 bare:AllBare s.gens
 base:Un X.fs X.ex X.H₀ H X.s₀.heap s.heap
 loc:∃ m,s.heap.Ns X.env.locals m∧∀ (i:Nat) (x:Str) (v:V),X.N[i]? = some x→σ[i]? = some (some v)→Vis X.env.scope x→∃ u,RelV v u∧Look X.env s.heap m x u
 cell:∀ x c,X.env.cells.lookup x=some c→∃ v,s.heap.IsCell c v
 free:H X.env.locals=none
 freeC:∀ x c,X.env.cells.lookup x=some c→H c=none
 pin:∀ p ∈ X.pn++pins,s.heap.get? p.1=some p.2∧H p.1=none∧p.1 ≠ X.env.locals∧p.1 ∉ X.fs∧∀ v,p.2.data ≠ .cell v
 hok:HOk X.prog X.w H s.heap
 len:σ.length=X.N.length
section
variable {X:Cx} {pins:List (Addr × Obj)} {σ:List (Option V)} {H H':Hp} {s:Shared} {h':Heap}
theorem Cx.Ok.nofr (ok:X.Ok) {b:Addr} {o:Obj} (e:X.base.get? b=some o):b ∉ X.fs:=fun hb=>by
 have:=(ok.funs.mem hb).1
 rw [e] at this;cases this
theorem Inv.bs (I:Inv X pins σ H s):∀ b o,X.base.get? b=some o→s.heap.get? b=some o∧H b=none:=fun b o e =>
 ⟨I.base.keep b o (I.ok.bs b o e).1 (I.ok.bs b o e).2 (I.ok.nofr e) (I.ok.noex b o e),I.base.free b o (I.ok.bs b o e).1 (I.ok.bs b o e).2 (I.ok.noex b o e)⟩
theorem Inv.bk (I:Inv X pins σ H s):∀ b o,X.base.get? b=some o→s.heap.get? b=some o:=fun b o e=>(I.bs b o e).1
theorem Inv.mod (I:Inv X pins σ H s):Mod X.K X.mg X.base:=I.ok.mod
theorem Inv.kIn (I:Inv X pins σ H s):X.K.In s.heap:=I.ok.mod.kin.keeps I.bk
theorem Inv.lt (I:Inv X pins σ H s):X.env.locals < s.heap.objs.size:=let ⟨_,hn,_⟩:=I.loc;hn.lt
theorem Inv.sz (I:Inv X pins σ H s):X.s₀.heap.objs.size ≤ s.heap.objs.size:=aW I.ok.above (dj I.lt)
theorem Inv.nofs (I:Inv X pins σ H s) {a:Addr} (h:s.heap.objs.size ≤ a):a ∉ X.fs:=fun hb=>by
 obtain ⟨_,o,ho,_⟩:=I.ok.funs.mem hb
 exact absurd (bJ (Heap.lt_size ho) (aW I.sz h)) (dO _)
theorem Inv.cne (I:Inv X pins σ H s):∀ x c,X.env.cells.lookup x=some c→c ≠ X.env.locals:=fun x c e z=>by
 obtain ⟨v,o,ho,hd⟩:=I.cell x c e
 obtain ⟨m,⟨o',es,ep,ho',hd',_⟩,_⟩:=I.loc
 rw [z,ho'] at ho;cases ho;rw [hd'] at hd;cases hd
theorem Inv.funs (I:Inv X pins σ H s):s.heap.FunFrames X.base X.outer:=by
 have all:∀ (l:List Env),(∀ b ∈ frs l,b ∈ X.fs)→X.s₀.heap.FunFrames X.base l→s.heap.FunFrames X.base l:=by
  intro l
  induction l with
  | nil=>intro _ _;trivial
  | cons env r ih =>
   intro hs hl
   obtain ⟨hk,⟨L,o,hf,hn,ho,hd⟩,hr⟩:=hl
   have hL:L ∈ X.fs:=hs L (by unfold frs;rw [lF,hf];exact aG)
   obtain ⟨sl,e⟩:=I.base.slot L o ho (I.ok.frf L hL) hL fun z=>I.ok.exfs L z hL
   exact ⟨hk,⟨L,_,hf,hn,e,hd⟩,ih (fun b hb=>hs b (by unfold frs;rw [lF,hf];exact aJ _ hb)) hr⟩
 exact all X.outer (fun _ hb=>hb) I.ok.funs
theorem Inv.stack (I:Inv X pins σ H s):s.heap.FunFrames X.base X.stack:=by
 rcases I.ok.stk with e | ⟨e,hf⟩
 ·rw [e];exact I.funs
 ·rw [e]
  obtain ⟨m,hn,_⟩:=I.loc
  refine .cons (by rw [I.ok.kind];decide) hf hn ?_ I.funs
  exact Heap.get?_none_of_le (aW I.ok.bsz I.ok.above)
theorem Inv.stkSub (I:Inv X pins σ H s):∀ b ∈ frs X.stack,b ∈ X.env.locals :: X.fs:=fun b hb=>by
 rcases I.ok.stk with e | ⟨e,hf⟩
 ·rw [e] at hb;exact aJ _ hb
 ·rw [e] at hb
  unfold frs at hb
  rw [lF,hf] at hb
  exact hb
theorem Inv.stkFree (I:Inv X pins σ H s):∀ b ∈ frs X.stack,H b=none:=fun b hb=>by
 rcases aY.mp (I.stkSub b hb) with e | hb
 ·rw [e];exact I.free
 ·obtain ⟨_,o,ho,_⟩:=I.ok.funs.mem hb
  exact I.base.free b o ho (I.ok.frf b hb) fun z=>I.ok.exfs b z hb
theorem Inv.step {g':Array GenState} {d':Drawn} (I:Inv X pins σ H s)
 (hch:∀ b ∈ ch,(b ∈ X.ex∨X.s₀.heap.objs.size ≤ b)∧b ≠ X.env.locals∧(∀ x c,X.env.cells.lookup x=some c→c ≠ b)∧∀ p ∈ X.pn++pins,p.1 ≠ b)
 (keep:∀ b o,b ≠ X.env.locals→b ∉ X.fs→b ∉ ch→s.heap.get? b=some o→H b=none→h'.get? b=some o)
 (slot:∀ b o,b ≠ X.env.locals→b ∈ X.fs→b ∉ ch→s.heap.get? b=some o→H b=none→∃ sl,h'.get? b=some { o with slots:=sl }) (free:∀ b o,b ∉ ch→s.heap.get? b=some o→H b=none→H' b=none)
 (there:∀ b o,b ∉ ch→s.heap.get? b=some o→∃ o',h'.get? b=some o')
 (tups:∀ b xs,H b=some (.tup xs)→H' b=some (.tup xs)) (frzs:∀ b o u,H b=some (.frz o u)→H' b=some (.frz o u)) (tbls:∀ b q p,H b=some (.tbl q p)→H' b=some (.tbl q p))
 (ns:∀ m,s.heap.Ns X.env.locals m→h'.Ns X.env.locals m) (hok:HOk X.prog X.w H' h') (hg:AllBare g') :
 Inv X pins σ H' { s with heap:=h',gens:=g',drawn:=d',toks:=t' }:=by
 have neL:∀ b o,X.s₀.heap.get? b=some o→b ≠ X.env.locals:=fun b o e=>aR (bJ (Heap.lt_size e) I.ok.above)
 have neC:∀ b o,X.s₀.heap.get? b=some o→b ∉ X.ex→b ∉ ch:=fun b o e hx hb=>by
  rcases (hch b hb).1 with z | z
  ·exact hx z
  ·exact absurd (bJ (Heap.lt_size e) z) (dO _)
 have cellK:∀ x c,X.env.cells.lookup x=some c→∀ v,s.heap.IsCell c v→h'.IsCell c v:=fun x c e v ⟨o,ho,hd⟩=>by
  have nch:c ∉ ch:=fun z=>(hch c z).2.2.1 x c e rfl
  by_cases hc:c ∈ X.fs
  ·obtain ⟨sl,q⟩:=slot c o (I.cne x c e) hc nch ho (I.freeC x c e)
   exact ⟨_,q,hd⟩
  ·exact ⟨o,keep c o (I.cne x c e) hc nch ho (I.freeC x c e),hd⟩
 refine ⟨I.ok,I.os,hg,⟨fun b o e n hb hx=>?_,fun b o e n hb hx=>?_,fun b o e n hx=>?_,fun b o e hx=>?_,fun b xs e=>tups b xs (I.base.tups b xs e),fun b o xs e=>frzs b o xs (I.base.frzs b o xs e),fun b q p e=>tbls b q p (I.base.tbls b q p e)⟩,?_,fun x c e=>?_,?_,fun x c e=>?_,fun p hp=>?_,hok,I.len⟩
 ·exact keep b o (neL b o e) hb (neC b o e hx) (I.base.keep b o e n hb hx) (I.base.free b o e n hx)
 ·obtain ⟨sl,e1⟩:=I.base.slot b o e n hb hx
  obtain ⟨sl',e2⟩:=slot b _ (neL b o e) hb (neC b o e hx) e1 (I.base.free b o e n hx)
  exact ⟨sl',e2⟩
 ·obtain ⟨o',e1⟩:=I.base.there b o e hx
  exact free b o' (neC b o e hx) e1 (I.base.free b o e n hx)
 ·obtain ⟨o',e1⟩:=I.base.there b o e hx
  exact there b o' (neC b o e hx) e1
 ·obtain ⟨m,hn,hl⟩:=I.loc
  refine ⟨m,ns m hn,fun i x v e1 e2 e3=>?_⟩
  obtain ⟨u,r,l⟩:=hl i x v e1 e2 e3
  refine ⟨u,r,?_⟩
  rcases l with l | ⟨k,c,e,z⟩
  ·exact .inl l
  ·exact .inr ⟨k,c,e,cellK x c e _ z⟩
 ·obtain ⟨v,z⟩:=I.cell x c e
  exact ⟨v,cellK x c e v z⟩
 ·obtain ⟨m,⟨o,_,_,ho,_⟩,_⟩:=I.loc
  exact free _ o (fun z=>(hch _ z).2.1 rfl) ho I.free
 ·obtain ⟨v,o,ho,hd⟩:=I.cell x c e
  exact free c o (fun z=>(hch c z).2.2.1 x c e rfl) ho (I.freeC x c e)
 ·obtain ⟨e,n,ne,nf,d⟩:=I.pin p hp
  have nch:p.1 ∉ ch:=fun z=>(hch p.1 z).2.2.2 p hp rfl
  exact ⟨keep p.1 p.2 ne nf nch e n,free p.1 p.2 nch e n,ne,nf,d⟩
theorem Inv.un (I:Inv X pins σ H s) (u:Un X.fs [] H H' s.heap h') (hok:HOk X.prog X.w H' h'):Inv X pins σ H' { s with heap:=h',toks:=t' }:=by
 obtain ⟨m,⟨o,es,ep,ho,r⟩,_⟩:=id I.loc
 obtain ⟨sl,hL⟩:=u.any ho I.free (by simp)
 exact I.step (g':=s.gens) (d':=s.drawn) (ch:=[]) (fun _ z=>nomatch z) (fun b o _ hb _ e n=>u.keep b o e n hb (by simp)) (fun b o _ hb _ e n=>u.slot b o e n hb (by simp)) (fun b o _ e n=>u.free b o e n (by simp)) (fun b o _ e=>u.there b o e (by simp)) u.tups u.frzs u.tbls (fun m' hm=>by
  obtain ⟨o',es',ep',ho',r'⟩:=hm
  rw [ho] at ho';cases ho'
  exact ⟨_,es',ep',hL,r'⟩) hok I.bare
theorem Inv.call {g':Array GenState} {d':Drawn} (I:Inv X pins σ H s) (u:Un (frs X.stack) ch H H' s.heap h') (hok:HOk X.prog X.w H' h') (hg:AllBare g')
 (hch:∀ b ∈ ch,(b ∈ X.ex∨X.s₀.heap.objs.size ≤ b)∧b ≠ X.env.locals∧(∀ x c,X.env.cells.lookup x=some c→c ≠ b)∧∀ p ∈ X.pn++pins,p.1 ≠ b) :
 Inv X pins σ H' { s with heap:=h',gens:=g',drawn:=d',toks:=t' }:=by
 obtain ⟨m,⟨o,es,ep,ho,r⟩,_⟩:=id I.loc
 obtain ⟨sl,hL⟩:=u.any ho I.free fun z=>(hch _ z).2.1 rfl
 exact I.step (ch:=ch) hch (fun b o hL hb hc e n=>u.keep b o e n (fun z=>(aY.mp (I.stkSub b z)).elim hL hb) hc) (fun b o _ _ hc e n=>u.any e n hc) (fun b o hc e n=>u.free b o e n hc) (fun b o hc e=>u.there b o e hc) u.tups u.frzs u.tbls (fun m' hm=>by
  obtain ⟨o',es',ep',ho',r'⟩:=hm
  rw [ho] at ho';cases ho'
  exact ⟨_,es',ep',hL,r'⟩) hok hg
theorem Inv.turned (I:Inv X pins σ H s) (k:∀ b o,b ≠ it→s.heap.get? b=some o→h'.get? b=some o) (hn:H it=none) (hL:it ≠ X.env.locals)
 (h1:it ∈ X.ex∨X.s₀.heap.objs.size ≤ it) (h2:∀ x c,X.env.cells.lookup x=some c→c ≠ it) (h3:∀ p ∈ X.pn++pins,p.1 ≠ it):Inv X pins σ H { s with heap:=h',toks:=t' }:=by
 have nit:∀ b u,H b=some u→b ≠ it:=fun b u e z=>by rw [z,hn] at e;cases e
 refine I.step (g':=s.gens) (d':=s.drawn) (ch:=[it]) (fun b hb=>?_) (fun b o _ _ hc e _=>k b o (fun z=>hc (by simp [z])) e) (fun b o _ _ hc e _=>⟨o.slots,k b o (fun z=>hc (by simp [z])) e⟩) (fun _ _ _ _ n=>n)
  (fun b o hc e=>⟨o,k b o (fun z=>hc (by simp [z])) e⟩) (fun _ _ e=>e) (fun _ _ _ e=>e) (fun _ _ _ e=>e) (fun m hm=>?_) (fun b u e=>?_) I.bare
 ·have e:b=it:=by simpa using hb
  subst e
  exact ⟨h1,hL,h2,h3⟩
 ·obtain ⟨o,es,ep,ho,r⟩:=hm
  exact ⟨o,es,ep,k _ o (Ne.symm hL) ho,r⟩
 ·refine (I.hok b u e).stay (fun c v hc q=>k c v ?_ q) (fun _ q=>q) fun _ _ q=>q
  rcases hc with z | z
  ·rw [z];exact nit b u e
  ·exact nit c _ z
theorem Inv.tok (I:Inv X pins σ H s) (t:Nat):Inv X pins σ H { s with toks:=t }:=I.un (h':=s.heap) (t':=t) Un.refl I.hok
theorem Inv.kept (I:Inv X pins σ H s) (k:∀ b u,s.heap.get? b=some u→h'.get? b=some u):Inv X pins σ H { s with heap:=h',toks:=t' }:=I.un (Un.kept k) (I.hok.kept k)
theorem Inv.laid (I:Inv X pins σ H s) (k:∀ b u,s.heap.get? b=some u→h'.get? b=some u) (hp:s.heap.objs.size ≤ a) (new:fu X.prog X.w (upd H a o) h' a o) :
 Inv X pins σ (upd H a o) { s with heap:=h',toks:=t' }:=I.un (Un.laid k hp (I.hok.fresh hp)) (I.hok.laid k hp new)
theorem Inv.write {x e:Addr} (I:Inv X pins σ H s) (mu:Mut (H x)) (he:e=x∨H e=some (.own x)) (k:∀ b u,b ≠ e→s.heap.get? b=some u→h'.get? b=some u) (heo:∃ u,h'.get? e=some u)
 (new:fu X.prog X.w (upd H x o) h' x o):Inv X pins σ (upd H x o) { s with heap:=h',toks:=t' }:=I.un (Un.write mu he k heo) (I.hok.write mu he k heo new)
theorem Inv.pins_of {pins':List (Addr × Obj)} (I:Inv X pins σ H s) (h:∀ p ∈ pins',s.heap.get? p.1=some p.2∧H p.1=none∧p.1 ≠ X.env.locals∧p.1 ∉ X.fs∧∀ v,p.2.data ≠ .cell v):Inv X pins' σ H s :=
 ⟨I.ok,I.os,I.bare,I.base,I.loc,I.cell,I.free,I.freeC,fun p hp=>(cL.mp hp).elim (fun z=>I.pin p (bW _ z)) (h p),I.hok,I.len⟩
theorem Bo (hN:N.Nodup) {i j:Nat} {x:Str} (a:N[i]? = some x) (b:N[j]? = some x):i=j:=by
 obtain ⟨h1,e1⟩:=eU.mp a
 obtain ⟨h2,e2⟩:=eU.mp b
 exact (List.getElem_inj hN).mp (e1.trans e2.symm)
theorem Ig {u:Value} {Q:Unit→Shared→Prop} (I:Inv X pins σ H s) (hN:X.N.Nodup) (hi:X.N[i]? = some x) (hx:Loc X.env.scope x) (r:RelV v u)
 (h:∀ s',Inv X pins (σ.set i (some v)) H s'→(∃ a,Heap.SameBut a s.heap s'.heap∧(a=X.env.locals∨X.env.cells.lookup x=some a))→Q () s') (hf:X.fn x=true∨X.env.scope.names.lookup x=some .local:=by first | exact .inl rfl | exact .inr rfl | assumption):wpAny M A (storeName X.env x u) Q E s:=by
 obtain ⟨m,hn,hl⟩:=id I.loc
 have hcls:(X.env.scope.kind == .class || (X.env.scope.kind == .module && X.env.locals != X.env.globals))=false:=by rw [I.ok.kind];rfl
 have hiσ:i < σ.length:=by rw [I.len];exact (eU.mp hi).1
 have cne:=I.cne
 have tracked:∀ {a:Addr} {h':Heap},(∃ o,s.heap.get? a=some o∧H a=none)→Heap.SameBut a s.heap h'→HOk X.prog X.w H h':=fun {a h'} ha hs b ob e=>by
  obtain ⟨_,_,hfree⟩:=ha
  refine (I.hok b ob e).stay (fun c w' hc q=>(hs.2 c ?_).trans q) (fun _ q=>q) fun _ _ q=>q
  rintro rfl
  rcases hc with rfl | hc
  ·rw [hfree] at e;cases e
  ·rw [hfree] at hc;cases hc
 rcases hx with hk | hk
 ·refine wpAny_storeName_local hk hn (fun h' hn' hs=>?_) hcls
  obtain ⟨oL,_,_,hoL,_⟩:=id hn
  refine h _ ⟨I.ok,I.os,I.bare,⟨fun b o e n hb hx=>?_,fun b o e n hb hx=>?_,I.base.free,fun b o e hx=>?_,I.base.tups,I.base.frzs,I.base.tbls⟩,⟨_,hn',fun j y v' e1 e2 e3=>?_⟩,fun y c e=>?_,I.free,I.freeC,fun p hp=>?_,tracked ⟨oL,hoL,I.free⟩ hs,by simpa using I.len⟩ ⟨_,hs,.inl rfl⟩
  ·exact (hs.2 b (aR (bJ (Heap.lt_size e) I.ok.above))).trans (I.base.keep b o e n hb hx)
  ·obtain ⟨sl,e1⟩:=I.base.slot b o e n hb hx
   exact ⟨sl,(hs.2 b (aR (bJ (Heap.lt_size e) I.ok.above))).trans e1⟩
  ·obtain ⟨o',e1⟩:=I.base.there b o e hx
   exact ⟨o',(hs.2 b (aR (bJ (Heap.lt_size e) I.ok.above))).trans e1⟩
  ·by_cases hj:j=i
   ·subst hj
    rw [hi] at e1;cases e1
    rw [cT hiσ] at e2
    cases e2
    exact ⟨u,r,.inl ⟨hk,by simp⟩⟩
   ·rw [bD (Ne.symm hj)] at e2
    obtain ⟨u',r',q⟩:=hl j y v' e1 e2 e3
    refine ⟨u',r',?_⟩
    rcases q with ⟨k,e⟩ | ⟨k,c,e,z⟩
    ·refine .inl ⟨k,?_⟩
     have:y ≠ x:=fun e=>hj (Bo hN e1 (e ▸ hi))
     simp [this,e]
    ·exact .inr ⟨k,c,e,z.sameBut hs (cne y c e)⟩
  ·obtain ⟨w',z⟩:=I.cell y c e
   exact ⟨w',z.sameBut hs (cne y c e)⟩
  ·obtain ⟨e,n,ne,nf,d⟩:=I.pin p hp
   exact ⟨(hs.2 p.1 ne).trans e,n,ne,nf,d⟩
 ·have hfn:X.fn x=true:=by
   rcases hf with z | z
   ·exact z
   ·rw [z] at hk;cases hk
  obtain ⟨c,hc⟩:=I.ok.has x (.inl hk)
  obtain ⟨w',z⟩:=I.cell x c hc
  refine wpAny_storeName_cell I.ok.kind hk hc z (fun h' hc' hs=>?_)
  obtain ⟨oc,hoc,hocd⟩:=id z
  refine h { s with heap:=h' } ⟨I.ok,I.os,I.bare,⟨fun b o e n hb hx=>?_,fun b o e n hb hx=>?_,I.base.free,fun b o e hx=>?_,I.base.tups,I.base.frzs,I.base.tbls⟩,⟨m,hn.sameBut hs (Ne.symm (cne x c hc)),fun j y v' e1 e2 e3=>?_⟩,fun y c' e=>?_,I.free,I.freeC,fun p hp=>?_,tracked ⟨oc,hoc,I.freeC x c hc⟩ hs,by simpa using I.len⟩ ⟨c,hs,.inr hc⟩
  ·exact (hs.2 b (aR (bJ (Heap.lt_size e) (I.ok.cab x c hfn hc)))).trans (I.base.keep b o e n hb hx)
  ·obtain ⟨sl,e1⟩:=I.base.slot b o e n hb hx
   exact ⟨sl,(hs.2 b (aR (bJ (Heap.lt_size e) (I.ok.cab x c hfn hc)))).trans e1⟩
  ·obtain ⟨o',e1⟩:=I.base.there b o e hx
   exact ⟨o',(hs.2 b (aR (bJ (Heap.lt_size e) (I.ok.cab x c hfn hc)))).trans e1⟩
  ·by_cases hj:j=i
   ·subst hj
    rw [hi] at e1;cases e1
    rw [cT hiσ] at e2
    cases e2
    exact ⟨u,r,.inr ⟨.inl hk,c,hc,hc'⟩⟩
   ·rw [bD (Ne.symm hj)] at e2
    obtain ⟨u',r',q⟩:=hl j y v' e1 e2 e3
    refine ⟨u',r',?_⟩
    rcases q with q | ⟨k,c',e,z'⟩
    ·exact .inl q
    ·refine .inr ⟨k,c',e,z'.sameBut hs ?_⟩
     rintro rfl
     exact hj (Bo hN e1 (I.ok.inj _ _ _ e hc ▸ hi))
  ·by_cases hcc:c'=c
   ·subst hcc;exact ⟨_,hc'⟩
   ·obtain ⟨w2,z2⟩:=I.cell y c' e
    exact ⟨w2,z2.sameBut hs hcc⟩
  ·obtain ⟨e,n,ne,nf,d⟩:=I.pin p hp
   refine ⟨(hs.2 p.1 ?_).trans e,n,ne,nf,d⟩
   intro q
   rw [q,hoc] at e
   have q':oc=p.2:=b_.inj e
   exact d w' (by rw [← q'];exact hocd)
theorem Bp {u:Value} {Q:Unit→Shared→Prop} (I:Inv X pins σ H s) (hN:X.N.Nodup) (hi:X.N[i]? = some x) (hx:Loc X.env.scope x) (r:RelV v u)
 (h:∀ s',Inv X pins (σ.set i (some v)) H s'→Q () s') (hf:X.fn x=true∨X.env.scope.names.lookup x=some .local:=by first | exact .inl rfl | exact .inr rfl | assumption):wpAny M A (storeName X.env x u) Q E s :=
 Ig I hN hi hx r (fun s' I' _=>h s' I') hf
end
abbrev XK:=Value→Option Addr→Hp→Prop
abbrev St:=List (Option V)
abbrev VK:=V→Hp→Prop
abbrev TE:=St→Hp→VK→Prop
abbrev TT:=St→Hp→(Bool→Hp→Prop)→Prop
abbrev TA:=St→Hp→(List V→Hp→Prop)→Prop
structure Ends where
 nx:St→Hp→Prop
 rt:VK
 bk:St→Hp→Prop:=fun _ _=>False
 ct:St→Hp→Prop:=fun _ _=>False
abbrev TS:=Ends→St→Hp→Prop
def EP (X:Cx) (pins:List (Addr × Obj)) (σ:St) (Q:VK) (u:Value) (s':Shared):Prop:=∃ v H',Inv X pins σ H' s'∧RelV v u∧Q v H'
def TP (X:Cx) (pins:List (Addr × Obj)) (σ:St) (Q:Bool→Hp→Prop) (b:Bool) (s':Shared):Prop:=∃ H',Inv X pins σ H' s'∧Q b H'
def AP (X:Cx) (pins:List (Addr × Obj)) (σ:St) (Q:List V→Hp→Prop) (us:List Value) (s':Shared):Prop:=∃ vs H',Inv X pins σ H' s'∧Vals vs us∧Q vs H'
def SP (X:Cx) (pins:List (Addr × Obj)) (D:Ends) (f:Flow) (s':Shared):Prop :=
 match f with
 | .next=>∃ σ' H',Inv X pins σ' H' s'∧D.nx σ' H'
 | .brk=>∃ σ' H',Inv X pins σ' H' s'∧D.bk σ' H'
 | .cont=>∃ σ' H',Inv X pins σ' H' s'∧D.ct σ' H'
 | .ret u=>∃ v σ' H',Inv X pins σ' H' s'∧RelV v u∧D.rt v H'
def PE (X:Cx) (e:Expr) (t:TE):Prop :=
 ∀ (pins:List (Addr × Obj)) (s:Shared) (σ:St) (H:Hp) (Q:VK),Inv X pins σ H s→t σ H Q→wpAny (model X.prog X.w) X.A (eval e X.env) (EP X pins σ Q) X.xe s
def PT (X:Cx) (e:Expr) (t:TT):Prop :=
 ∀ (pins:List (Addr × Obj)) (s:Shared) (σ:St) (H:Hp) (Q:Bool→Hp→Prop),Inv X pins σ H s→t σ H Q→wpAny (model X.prog X.w) X.A (isTrue e X.env (eval e X.env)) (TP X pins σ Q) X.xe s
def PW (X:Cx) (e:Expr) (t:TT):Prop :=
 ∀ (whole:Sem Value) (pins:List (Addr × Obj)) (s:Shared) (σ:St) (H:Hp) (Q:Bool→Hp→Prop),Inv X pins σ H s→t σ H Q→wpAny (model X.prog X.w) X.A (isTrue e X.env whole) (TP X pins σ Q) X.xe s
theorem PW.pt {X:Cx} {t:TT} (h:PW X e t):PT X e t:=h _
def PA (X:Cx) (es:List Expr) (t:TA):Prop :=
 ∀ (pos:Pos) (pins:List (Addr × Obj)) (s:Shared) (σ:St) (H:Hp) (Q:List V→Hp→Prop),Inv X pins σ H s→t σ H Q→wpAny (model X.prog X.w) X.A (spliced (backTo pos (starEach es X.env))) (AP X pins σ Q) X.xe s
def PS (X:Cx) (st:Stmt) (t:TS):Prop :=
 ∀ (pins:List (Addr × Obj)) (s:Shared) (σ:St) (H:Hp) (D:Ends),Inv X pins σ H s→t D σ H→wpAny (model X.prog X.w) X.A (exec st X.env) (SP X pins D) X.xe s
def PSs (X:Cx) (st:List Stmt) (t:TS):Prop :=
 ∀ (pins:List (Addr × Obj)) (s:Shared) (σ:St) (H:Hp) (D:Ends),Inv X pins σ H s→t D σ H→wpAny (model X.prog X.w) X.A (execs st X.env) (SP X pins D) X.xe s
theorem thn {α:Type} {t:Sem α} {Q Q':α→Shared→Prop} (h:wpAny M A t Q E s) (hQ:∀ a s,Q a s→Q' a s):wpAny M A t Q' E s:=wpAny_mono h hQ fun _ _ x=>x
end L2
variable {pos:Pos} {pins:List (Addr × Obj)} {H:L2.Hp} {Q:Value→Shared→Prop} {op:CmpOp}
namespace L2
open PySem PySem.Spec PyProof.Rows
section
variable {X:Cx}
def Y6 (i:Nat):TE:=fun σ H Q=>∃ v,σ[i]? = some (some v)∧Q v H
def tC (v:V):TE:=fun _ H Q=>Q v H
theorem oh (hN:X.N[i]? = some x) (hv:Vis X.env.scope x) (hd:(x == ("__debug__" : Str))=false:=by decide) (hcd:(x == ("__classdict__" : Str))=false:=by decide):PE X (.Name x pos) (Y6 i):=by
 intro pins s σ H Q I h
 obtain ⟨v,e,h⟩:=h
 obtain ⟨m,hn,hl⟩:=I.loc
 obtain ⟨u,r,l⟩:=hl i x v hN e hv
 have fin:EP X pins σ Q u s:=⟨v,H,I,r,h⟩
 rcases l with ⟨hk,hm⟩ | ⟨hk,c,hc,hcell⟩
 ·exact wpAny_Name (wpAny_loadName_local I.ok.kind hk hn hm fin) hd
 ·rcases hk with hk | hk
  ·exact wpAny_Name (wpAny_loadName_cell I.ok.kind hk hc hcell fin) hd
  ·exact wpAny_Name (wpAny_loadName_free I.ok.kind hk hc hcell fin hcd) hd
theorem Tz {i j pos}:PE X (.Constant (.int i) j pos) (tC (.int i)):=fun _ _ _ H _ I h=>wpAny_Constant_int ⟨.int i,H,I.tok _,⟨_,rfl⟩,h⟩
theorem WK {b j pos}:PE X (.Constant (.bool b) j pos) (tC (.bl b)):=fun _ _ _ H _ I h=>Constant_bool ⟨.bl b,H,I,rfl,h⟩
theorem TF {j pos}:PE X (.Constant .none j pos) (tC .non):=fun _ _ _ H _ I h=>Constant_none ⟨.non,H,I,rfl,h⟩
theorem TJ {x j pos}:PE X (.Constant (.str x) j pos) (tC (.str x)):=fun _ _ _ H _ I h=>Calls.Constant_str ⟨.str x,H,I.tok _,⟨_,rfl⟩,h⟩
def Gl (X:Cx) (x:Str):Prop:=X.env.kindOf x=some .globalImplicit
theorem Gj {σ:St} {u:Value} (I:Inv X pins σ H s) (hg:Gl X x) (hm:X.mg x=some u) (h:Q u s)
 (hd:(x == ("__debug__" : Str))=false:=by decide):wpAny (model X.prog X.w) X.A (eval (.Name x pos) X.env) Q E s :=
 Calls.Name_function_global I.ok.kind hg (Calls.loadGlobal_global (by rw [I.ok.glob];exact I.mod.glob.keeps I.bk) hm h) hd
theorem lA {σ:St} {u:Value} (I:Inv X pins σ H s) (hg:Gl X x) (hm:X.mg x=none) (hv:bootBuiltins x=some u) (h:Q u s)
 (hn:x ≠ "__name__" := by decide) (hd:(x == ("__debug__" : Str))=false:=by decide):wpAny (model X.prog X.w) X.A (eval (.Name x pos) X.env) Q E s:=by
 obtain ⟨mb,h1,h2⟩:=I.mod.blt
 exact Calls.Name_function_global I.ok.kind hg (Calls.loadGlobal_builtin (by rw [I.ok.glob];exact I.mod.glob.keeps I.bk) hm (by rw [I.ok.blt];exact h1.keeps I.bk) ((h2 x hn).trans hv) h) hd
theorem O8 {u:Value} (hg:Gl X x) (hm:X.mg x=some u) (r:RelV v u) (hd:(x == ("__debug__" : Str))=false:=by decide):PE X (.Name x pos) (tC v) :=
 fun _ _ _ H _ I h=>Gj I hg hm ⟨v,H,I,r,h⟩ hd
theorem O9 {u:Value} (hg:Gl X x) (hm:X.mg x=none) (hv:bootBuiltins x=some u) (r:RelV v u) (hn:x ≠ "__name__" := by decide) (hd:(x == ("__debug__" : Str))=false:=by decide):PE X (.Name x pos) (tC v) :=
 fun _ _ _ H _ I h=>lA I hg hm hv ⟨v,H,I,r,h⟩ hn hd
variable {a b:Expr} {ta tb:TE} {pos:Pos}
def PC (X:Cx) (op:CmpOp) (a b:Expr) (t:TE):Prop :=
 ∀ (pins:List (Addr × Obj)) (s:Shared) (σ:St) (H:Hp) (Q:VK),Inv X pins σ H s→t σ H Q →
  wpAny (model X.prog X.w) X.A (eval a X.env) (fun v s₁=>wpAny (model X.prog X.w) X.A (eval b X.env) (fun u s₂=>wpAny (model X.prog X.w) X.A (compareOp op v u) (EP X pins σ Q) X.xe s₂) X.xe s₁) X.xe s
theorem Bq (b:Expr) {op:CmpOp} (h:op ≠ .In) (h2:op ≠ .NotIn):behindInMarks op b=false:=by
 have e1:(op == CmpOp.In)=false:=by cases op <;> first | rfl | exact absurd rfl h
 have e2:(op == CmpOp.NotIn)=false:=by cases op <;> first | rfl | exact absurd rfl h2
 cases b <;> simp [behindInMarks,e1,e2]
def Y7 (ta:TE):TE:=fun σ H Q=>ta σ H fun x H1=>Q (.bl (decide (x = .non))) H1
def WL (ta:TE):TE:=fun σ H Q=>ta σ H fun x H1=>Q (.bl (!decide (x = .non))) H1
theorem RelV.none_iff {x:V} {v:Value} (r:RelV x v):(v == Value.none)=decide (x = .non):=by
 cases x with
 | non=>cases r;rfl
 | bl _=>cases r;rfl
 | int _=>obtain ⟨t,rfl⟩:=r;rfl
 | str _=>obtain ⟨t,rfl⟩:=r;rfl
 | byt _=>obtain ⟨t,rfl⟩:=r;rfl
 | flt _=>obtain ⟨t,rfl⟩:=r;rfl
 | ref _=>cases r;rfl
 | ty _=>cases r;rfl
theorem TQ {j pos'} (ha:PE X a ta):PC X .Is a (.Constant .none j pos') (Y7 ta):=by
 intro pins s σ H Q I h
 refine thn (ha pins s σ H _ I h) fun v s1 ⟨x,H1,I1,r1,q1⟩=>?_
 exact Constant_none (is_none_gen ⟨.bl _,H1,I1,by rw [r1.none_iff];rfl,q1⟩)
theorem O_ {j pos'} (ha:PE X a ta):PC X .IsNot a (.Constant .none j pos') (WL ta):=by
 intro pins s σ H Q I h
 refine thn (ha pins s σ H _ I h) fun v s1 ⟨x,H1,I1,r1,q1⟩=>?_
 exact Constant_none (isnot_none_gen ⟨.bl _,H1,I1,by rw [r1.none_iff];rfl,q1⟩)
def tB (t:TE):TT:=fun σ H Q=>t σ H fun x H1=>∃ c,x = .bl c∧Q c H1
theorem JZ {t:TE} (h:PC X op a b t) (h1:behindInMarks op b=false:=by first | exact Bq _ (by decide) (by decide) | rfl):PE X (.Compare a [op] [b] pos) t:=fun pins s σ H Q I hw=>wpAny_Compare1 (h pins s σ H Q I hw) h1
theorem J0 {t:TE} (h:PC X op a b t) (h1:behindInMarks op b=false:=by first | exact Bq _ (by decide) (by decide) | rfl):PT X (.Compare a [op] [b] pos) (tB t):=by
 intro pins s σ H Q I hw
 refine wpAny_isTrue_Compare1 (thn (h pins s σ H _ I hw) fun v s1 h1=>thn h1 fun u s2 h2=>thn h2 fun c s3 ⟨x,H1,I1,r1,q1⟩=>?_) h1
 obtain ⟨d,rfl,q⟩:=q1
 cases r1
 exact wpAny_truthy_bool ⟨H1,I1,q⟩
theorem TX {t:TE} (h:PE X e t) (he:∀ whole,isTrue e X.env whole=(do let v ← whole;standAt e.pos;holding [v] (truthy v)):=by intro _;rfl):PT X e (tB t):=by
 intro pins s σ H Q I hw
 refine isTrue_plain (thn (h pins s σ H _ I hw) fun v s1 ⟨x,H1,I1,r1,q1⟩=>?_) (he _)
 obtain ⟨d,rfl,q⟩:=q1
 cases r1
 exact wpAny_truthy_bool ⟨H1,I1,q⟩
variable {tA tB':TT} {rest:List Expr}
def Ec (t u:TT):TT:=fun σ H Q=>t σ H fun c H1=>if c=true then u σ H1 Q else Q false H1
def tOr (t u:TT):TT:=fun σ H Q=>t σ H fun c H1=>if c=true then Q true H1 else u σ H1 Q
def jd (t:TT):TT:=fun σ H Q=>t σ H fun c H1=>Q (!c) H1
theorem Pa (ha:PT X a tA):PW X (.BoolOp .And [a] pos) tA:=by
 intro wh pins s σ H Q I h
 refine isTrue_and (thn (ha pins s σ H Q I h) fun c s1 e=>?_)
 cases c with
 | true=>exact isTrue_and_nil e
 | false=>exact e
theorem TY (ha:PT X a tA):PW X (.BoolOp .Or [a] pos) tA:=by
 intro wh pins s σ H Q I h
 refine isTrue_or (thn (ha pins s σ H Q I h) fun c s1 e=>?_)
 cases c with
 | false=>exact isTrue_or_nil e
 | true=>exact e
theorem T3 (ha:PT X a tA) (hb:PW X (.BoolOp .And (b :: rest) pos) tB'):PW X (.BoolOp .And (a :: b :: rest) pos) (Ec tA tB'):=by
 intro wh pins s σ H Q I h
 refine isTrue_and (thn (ha pins s σ H _ I h) fun c s1 ⟨H1,I1,q1⟩=>?_)
 cases c with
 | true=>exact hb wh pins s1 σ H1 Q I1 q1
 | false=>exact ⟨H1,I1,q1⟩
theorem WM (ha:PT X a tA) (hb:PW X (.BoolOp .Or (b :: rest) pos) tB'):PW X (.BoolOp .Or (a :: b :: rest) pos) (tOr tA tB'):=by
 intro wh pins s σ H Q I h
 refine isTrue_or (thn (ha pins s σ H _ I h) fun c s1 ⟨H1,I1,q1⟩=>?_)
 cases c with
 | true=>exact ⟨H1,I1,q1⟩
 | false=>exact hb wh pins s1 σ H1 Q I1 q1
theorem T4 (ha:PT X a tA):PT X (.UnaryOp .Not a pos) (jd tA):=by
 intro pins s σ H Q I h
 exact isTrue_not (ha pins s σ H (fun c H1=>Q (!c) H1) I h)
def WQ (ta tb:TE):TE:=fun σ H Q=>ta σ H fun x H1=>∃ c,x = .bl c∧if c=true then tb σ H1 Q else Q (.bl false) H1
def Y8 (ta tb:TE):TE:=fun σ H Q=>ta σ H fun x H1=>∃ c,x = .bl c∧if c=true then Q (.bl true) H1 else tb σ H1 Q
def WR (ta:TE):TE:=fun σ H Q=>ta σ H fun x H1=>∃ c,x = .bl c∧Q (.bl (!c)) H1
theorem T5 {op} {t:TE} (h:PE X a t):PE X (.BoolOp op [a] pos) t:=fun pins s σ H Q I hw=>BoolOp_one (h pins s σ H Q I hw)
theorem T6 (ha:PE X a ta) (hb:PE X (.BoolOp .And (b :: rest) pos) tb):PE X (.BoolOp .And (a :: b :: rest) pos) (WQ ta tb):=by
 intro pins s σ H Q I h
 refine BoolOp_and (thn (ha pins s σ H _ I h) fun v s1 ⟨x,H1,I1,r1,q1⟩=>?_)
 obtain ⟨c,rfl,q1⟩:=q1
 cases r1
 refine wpAny_truthy_bool ?_
 cases c with
 | true=>exact hb pins s1 σ H1 Q I1 q1
 | false=>exact ⟨.bl false,H1,I1,rfl,q1⟩
theorem WT (ha:PE X a ta) (hb:PE X (.BoolOp .Or (b :: rest) pos) tb):PE X (.BoolOp .Or (a :: b :: rest) pos) (Y8 ta tb):=by
 intro pins s σ H Q I h
 refine BoolOp_or (thn (ha pins s σ H _ I h) fun v s1 ⟨x,H1,I1,r1,q1⟩=>?_)
 obtain ⟨c,rfl,q1⟩:=q1
 cases r1
 refine wpAny_truthy_bool ?_
 cases c with
 | false=>exact hb pins s1 σ H1 Q I1 q1
 | true=>exact ⟨.bl true,H1,I1,rfl,q1⟩
theorem T7 (ha:PE X a ta):PE X (.UnaryOp .Not a pos) (WR ta):=by
 intro pins s σ H Q I h
 refine UnaryOp_ (thn (ha pins s σ H _ I h) fun v s1 ⟨x,H1,I1,r1,q1⟩=>?_)
 obtain ⟨c,rfl,q1⟩:=q1
 cases r1
 exact not_of (wpAny_truthy_bool ⟨.bl (!c),H1,I1,rfl,q1⟩)
def tIf (t:TT) (ta tb:TE):TE:=fun σ H Q=>t σ H fun c H1=>if c=true then ta σ H1 Q else tb σ H1 Q
theorem J1 {c:Expr} (hc:PT X c tA) (ha:PE X a ta) (hb:PE X b tb):PE X (.IfExp c a b pos) (tIf tA ta tb):=by
 intro pins s σ H Q I h
 refine wpAny_IfExp (thn (hc pins s σ H _ I h) fun d s1 ⟨H1,I1,q1⟩=>?_)
 cases d with
 | true=>exact ha pins s1 σ H1 Q I1 q1
 | false=>exact hb pins s1 σ H1 Q I1 q1
end
end L2
variable {K:PySem.W.Frag} {X:L2.Cx} {es:List Expr} {n:Nat} {tg:Expr} {pos':Pos} {H':L2.Hp}
namespace L2
open PySem PySem.Spec PyProof.Rows
def SqL (K:PySem.W.Frag) (H:Hp) (a:Addr) (xs:List V):Prop :=
 Rd H a (.lst xs) ∨
  ∃ (o:Obj) (its:Array Value) (n:Nat),K.lookup a=some o∧o.cls = .type "list" ∧ o.dict=none∧o.data = .seq its n∧its.size ≤ sizeLine∧Vals xs its.toList
def SqT (K:PySem.W.Frag) (H:Hp) (a:Addr) (xs:List V):Prop :=
 Rd H a (.tup xs) ∨
  ∃ (o:Obj) (its:Array Value) (n:Nat),K.lookup a=some o∧o.cls = .type "tuple" ∧ o.data = .seq its n∧its.size ≤ sizeLine∧Vals xs its.toList
def Y9:Value→Option V
 | .none=>some .non
 | .bool b=>some (.bl b)
 | .int i _=>some (.int i)
 | .str x _=>some (.str x)
 | .bytes b _=>some (.byt b)
 | .float b _=>some (.flt b)
 | .ref a=>some (.ref a)
 | .type n=>some (.ty n)
 | _=>none
theorem RelV.abs {x:V} {u:Value} (r:RelV x u):Y9 u=some x:=by
 cases x with
 | non=>cases r;rfl
 | bl _=>cases r;rfl
 | int _=>obtain ⟨t,rfl⟩:=r;rfl
 | str _=>obtain ⟨t,rfl⟩:=r;rfl
 | byt _=>obtain ⟨t,rfl⟩:=r;rfl
 | flt _=>obtain ⟨t,rfl⟩:=r;rfl
 | ref _=>cases r;rfl
 | ty _=>cases r;rfl
theorem RelV.inj {x y:V} {u:Value} (r:RelV x u) (q:RelV y u):x=y:=b_.inj (r.abs.symm.trans q.abs)
theorem Vals.inj:∀ {xs ys:List V} {us:List Value},Vals xs us→Vals ys us→xs=ys
 | _,_,_,.nil,.nil=>rfl
 | _,_,_,.cons r t,.cons r' t'=>by rw [r.inj r',Vals.inj t t']
section
variable {X:Cx} {pins:List (Addr × Obj)} {σ:St} {H:Hp} {s:Shared} {a:Addr} {xs ys:List V}
theorem SqL.of (h:H a=some (.lst xs)):SqL K H a xs:=.inl (.inl h)
theorem Inv.list (I:Inv X pins σ H s) (h:SqL X.K H a xs):∃ its:List Value,Vals xs its∧PlainL s.heap a its.toArray∧xs.length ≤ sizeLine:=by
 rcases h with h | ⟨o,its,n,hk,hc,hd,hs,hz,r⟩
 ·obtain ⟨z,its,n,r,e⟩:=h.ok I.hok
  exact ⟨its,r,⟨_,n,e,rfl,rfl,rfl⟩,z⟩
 ·refine ⟨its.toList,r,⟨o,n,I.kIn a o hk,hc,hd,by simpa using hs⟩,?_⟩
  have e:=r.length
  simp only [bI] at e
  omega
theorem Inv.tuple (I:Inv X pins σ H s) (h:SqT X.K H a xs):∃ its:List Value,Vals xs its∧IsTup s.heap a its.toArray∧xs.length ≤ sizeLine:=by
 rcases h with h | ⟨o,its,n,hk,hc,hs,hz,r⟩
 ·obtain ⟨z,its,r,p⟩:=h.ok I.hok
  exact ⟨its,r,p,z⟩
 ·refine ⟨its.toList,r,⟨o,I.kIn a o hk,hc,n,by simpa using hs⟩,?_⟩
  have e:=r.length
  simp only [bI] at e
  omega
theorem Inv.list_inj (I:Inv X pins σ H s) (h:SqL X.K H a xs) (h':SqL X.K H a ys):xs=ys:=by
 obtain ⟨its,r,⟨o,n,e,_,_,d⟩,_⟩:=I.list h
 obtain ⟨its',r',⟨o',n',e',_,_,d'⟩,_⟩:=I.list h'
 rw [e] at e';cases e'
 rw [d] at d'
 injection d' with d1 _
 have:its=its':=by simpa using congrArg Array.toList d1
 subst this
 exact r.inj r'
theorem Inv.tuple_inj (I:Inv X pins σ H s) (h:SqT X.K H a xs) (h':SqT X.K H a ys):xs=ys:=by
 obtain ⟨its,r,⟨o,e,_,n,d⟩,_⟩:=I.tuple h
 obtain ⟨its',r',⟨o',e',_,n',d'⟩,_⟩:=I.tuple h'
 rw [e] at e';cases e'
 rw [d] at d'
 injection d' with d1 _
 have:its=its':=by simpa using congrArg Array.toList d1
 subst this
 exact r.inj r'
end
abbrev Cx.wish (X:Cx) (E:Value→Shared→Prop):Cx:={ X with xe:=E }
abbrev Cx.nox (X:Cx):Cx:=X.wish fun _ _=>False
theorem Cx.Ok.wish (ok:X.Ok) (E:Value→Shared→Prop):(X.wish E).Ok :=
 ⟨ok.mod,ok.kind,ok.glob,ok.blt,ok.above,ok.inj,ok.has,ok.cab,ok.hd,ok.frames,ok.stk,ok.exf,ok.bs,ok.bsz,ok.noex,ok.exfs,ok.funs,ok.frf⟩
theorem Cx.Ok.unwish (ok:(X.wish E).Ok):X.Ok :=
 ⟨ok.mod,ok.kind,ok.glob,ok.blt,ok.above,ok.inj,ok.has,ok.cab,ok.hd,ok.frames,ok.stk,ok.exf,ok.bs,ok.bsz,ok.noex,ok.exfs,ok.funs,ok.frf⟩
section
variable {X:Cx} {pins:List (Addr × Obj)} {σ:St} {H:Hp} {s:Shared} {E:Value→Shared→Prop}
theorem Inv.wish (I:Inv X pins σ H s) (E:Value→Shared→Prop):Inv (X.wish E) pins σ H s:=⟨I.ok.wish E,I.os,I.bare,I.base,I.loc,I.cell,I.free,I.freeC,I.pin,I.hok,I.len⟩
theorem Inv.unwish (I:Inv (X.wish E) pins σ H s):Inv X pins σ H s:=⟨I.ok.unwish,I.os,I.bare,I.base,I.loc,I.cell,I.free,I.freeC,I.pin,I.hok,I.len⟩
theorem SP.unwish {D:Ends} {f:Flow} {s':Shared} (h:SP (X.wish E) pins D f s'):SP X pins D f s':=by
 cases f with
 | next=>obtain ⟨σ',H',I,q⟩:=h;exact ⟨σ',H',I.unwish,q⟩
 | brk=>obtain ⟨σ',H',I,q⟩:=h;exact ⟨σ',H',I.unwish,q⟩
 | cont=>obtain ⟨σ',H',I,q⟩:=h;exact ⟨σ',H',I.unwish,q⟩
 | ret u=>obtain ⟨v,σ',H',I,r,q⟩:=h;exact ⟨v,σ',H',I.unwish,r,q⟩
theorem PSs.nox {st:List Stmt} {t:TS} (h:PSs X.nox st t):PSs X st t:=fun pins s σ H D I hw =>
 wpAny_mono (h pins s σ H D (I.wish _) hw) (fun _ _ q=>q.unwish) fun _ _ z=>False.elim z
end
section
variable {X:Cx} {st:Stmt} {rest:List Stmt} {t u:TS} {e:Expr} {te:TE} {pos:Pos}
def WW:TS:=fun D σ H=>D.nx σ H
def Y_ (t u:TS):TS:=fun D σ H=>t { D with nx:=u D } σ H
theorem Pb:PSs X [] WW:=fun _ _ σ H _ I h=>wpAny_execs_nil ⟨σ,H,I,h⟩
theorem J2 (h1:PS X st t) (h2:PSs X rest u):PSs X (st :: rest) (Y_ t u):=by
 intro pins s σ H D I h
 refine wpAny_execs_cons (thn (h1 pins s σ H { D with nx:=u D } I h) fun f s1 q=>?_)
 cases f with
 | next =>
  obtain ⟨σ',H',I',q⟩:=q
  exact h2 pins s1 σ' H' D I' q
 | ret v=>exact q
 | brk=>exact q
 | cont=>exact q
theorem Pg (h1:PS X st t):PSs X [st] t:=by
 intro pins s σ H D I h
 refine wpAny_execs_cons (thn (h1 pins s σ H D I h) fun f s1 q=>?_)
 cases f with
 | next=>exact wpAny_execs_nil q
 | ret v=>exact q
 | brk=>exact q
 | cont=>exact q
theorem Inv.quiet {σ:St} (I:Inv X pins σ H s):interactive X.env=false:=by simp [interactive,I.ok.kind]
def WX (te:TE):TS:=fun D σ H=>te σ H fun _ H1=>D.nx σ H1
theorem vg (he:PE X e te) (hs:swapsWith e none pos.line X.env=pure false:=by rfl):PS X (.Expr e pos) (WX te):=by
 intro pins s σ H D I h
 exact wpAny_Expr_any (thn (he pins s σ H _ I h) fun v s1 ⟨x,H1,I1,r1,q1⟩=>⟨σ,H1,I1,q1⟩) I.quiet hs
def Za (te:TE):TS:=fun D σ H=>te σ H D.rt
theorem J3 (he:PE X e te):PS X (.Return (some e) pos) (Za te):=by
 intro pins s σ H D I h
 exact wpAny_Return_some (thn (he pins s σ H _ I h) fun v s1 ⟨x,H1,I1,r1,q1⟩=>⟨x,σ,H1,I1,r1,q1⟩)
def Zb (c:TT) (t u:TS):TS:=fun D σ H=>c σ H fun b H1=>if b=true then t D σ H1 else u D σ H1
theorem WY {c:Expr} {a b:List Stmt} {tc:TT} (hc:PT X c tc) (ha:PSs X a t) (hb:PSs X b u):PS X (.If c a b pos) (Zb tc t u):=by
 intro pins s σ H D I h
 refine wpAny_If (thn (hc pins s σ H _ I h) fun d s1 ⟨H1,I1,q1⟩=>?_)
 cases d with
 | true=>exact ha pins s1 σ H1 D I1 q1
 | false=>exact hb pins s1 σ H1 D I1 q1
def T8:TS:=fun _ _ _=>False
theorem J4:PS X st T8:=fun _ _ _ _ _ _ h=>h.elim
end
abbrev TG:=V→St→Hp→(St→Hp→Prop)→Prop
abbrev TGs:=List V→St→Hp→(St→Hp→Prop)→Prop
def PG (X:Cx) (target:Expr) (t:TG):Prop :=
 ∀ (pins:List (Addr × Obj)) (s:Shared) (σ:St) (H:Hp) (v:V) (u:Value) (Q:St→Hp→Prop),Inv X pins σ H s→RelV v u→t v σ H Q →
  wpAny (model X.prog X.w) X.A (assign target X.env u) (fun _ s'=>∃ σ' H',Inv X pins σ' H' s'∧Q σ' H') X.xe s
def PGs (X:Cx) (ts:List Expr) (t:TGs):Prop :=
 ∀ (pins:List (Addr × Obj)) (s:Shared) (σ:St) (H:Hp) (vs:List V) (us:List Value) (Q:St→Hp→Prop),Inv X pins σ H s→Vals vs us→t vs σ H Q →
  wpAny (model X.prog X.w) X.A (assignInOrder ((assignEach ts X.env).map (·.2)) us) (fun _ s'=>∃ σ' H',Inv X pins σ' H' s'∧Q σ' H') X.xe s
abbrev T9:=V→V→V→Hp→(Hp→Prop)→Prop
def W0 (X:Cx) (t:T9):Prop :=
 ∀ (pins:List (Addr × Obj)) (s:Shared) (σ:St) (H:Hp) (o i v:V) (ov iv u:Value) (Q:Hp→Prop),Inv X pins σ H s→RelV o ov→RelV i iv→RelV v u→t o i v H Q →
  wpAny (model X.prog X.w) X.A (setItem ov iv u) (fun _ s'=>∃ H',Inv X pins σ H' s'∧Q H') X.xe s
section
variable {X:Cx} {pos:Pos}
def SJ (i:Nat):TG:=fun v σ H Q=>Q (σ.set i (some v)) H
theorem Ph (hN:X.N.Nodup) (hi:X.N[i]? = some x) (hx:Loc X.env.scope x) (hf:X.fn x=true∨X.env.scope.names.lookup x=some .local:=by first | exact .inl rfl | exact .inr rfl | assumption):PG X (.Name x pos) (SJ i):=by
 intro pins s σ H v u Q I r h
 exact wpAny_assign_Name (Bp I hN hi hx r (fun s' I'=>⟨_,H,I',h⟩) hf)
def Zc:TGs:=fun vs σ H Q=>vs=[]∧Q σ H
def W2 (t:TG) (u:TGs):TGs:=fun vs σ H Q=>∃ v r,vs=v :: r∧t v σ H fun σ' H'=>u r σ' H' Q
theorem Pj:PGs X [] Zc:=by
 intro pins s σ H vs us Q I r h
 obtain ⟨e,h⟩:=h
 subst e
 cases r
 exact assignInOrder_nil ⟨σ,H,I,h⟩
theorem J5 {t:TG} {u:TGs} (h1:PG X e t) (h2:PGs X es u)
 (hs:(assignEach (e :: es) X.env).map (·.2)=assign e X.env :: (assignEach es X.env).map (·.2):=by rfl):PGs X (e :: es) (W2 t u):=by
 intro pins s σ H vs us Q I r h
 obtain ⟨v,vr,e1,h⟩:=h
 subst e1
 cases r with
 | cons r rr =>
  rw [hs]
  refine assignInOrder_cons (thn (h1 pins s σ H _ _ _ I r h) fun _ s1 ⟨σ1,H1,I1,q1⟩=>?_)
  exact h2 pins s1 σ1 H1 _ _ Q I1 rr q1
def Zd (K:PySem.W.Frag) (n:Nat) (t:TGs):TG:=fun v σ H Q=>∃ a xs,v = .ref a∧SqT K H a xs∧xs.length=n∧t xs σ H Q
theorem T_ {k:Nat} {t:TGs} (hc:X.calm=true) (h:PGs X es t)
 (hn:(assignEach es X.env).length=n:=by rfl) (hst:(assignEach es X.env).findIdx? (·.1)=none:=by rfl):PG X (.Tuple es k pos) (Zd X.K n t):=by
 intro pins s σ H v u Q I r hw
 obtain ⟨a,xs,e1,hq,hl,hw⟩:=hw
 subst e1
 cases r
 obtain ⟨its,rv,ht,hz⟩:=I.tuple hq
 refine assign_Tuple_tuple (I.ok.hd hc) ht (by simp [hn,← hl,rv.length]) hst fun h' hx=>?_
 have I1:Inv X pins σ H { s with heap:=h' }:=I.kept (t':=s.toks) fun b o e=>hx b o (aR (Heap.lt_size e)) e
 exact h pins _ σ H xs _ Q I1 (by simpa using rv) hw
def xP (to ti:TE) (t:T9):TG:=fun v σ H Q=>to σ H fun o H1=>ti σ H1 fun i H2=>t o i v H2 fun H3=>Q σ H3
theorem Ua {o i:Expr} {to ti:TE} {t:T9} (ho:PE X o to) (hi:PE X i ti) (hs:W0 X t)
 (ha:∀ v,assign (.Subscript o i pos) X.env v=(do
  let ov ← holding [v] (eval o X.env)
  let iv ← holding [v,ov] (eval i X.env)
  standAt pos
  holding [v,ov,iv] (setItem ov iv v)
  release [v,ov,iv] []):=by intro _;rfl):PG X (.Subscript o i pos) (xP to ti t):=by
 intro pins s σ H v u Q I r h
 rw [ha]
 refine wpAny_bind (wpAny_holding (thn (ho pins s σ H _ I h) fun ov s1 ⟨x,H1,I1,r1,q1⟩=>?_))
 refine wpAny_bind (wpAny_holding (thn (hi pins s1 σ H1 _ I1 q1) fun iv s2 ⟨y,H2,I2,r2,q2⟩=>?_))
 refine wpAny_bind (wpAny_standAt (wpAny_bind (wpAny_holding (thn (hs pins s2 σ H2 x y v ov iv u _ I2 r1 r2 r q2) fun _ s3 ⟨H3,I3,q3⟩=>?_))))
 exact wpAny_release ⟨σ,H3,I3,q3⟩
def W3 (te:TE) (g:TG):TS:=fun D σ H=>te σ H fun x H1=>g x σ H1 D.nx
theorem J6 {te:TE} {g:TG} (he:PE X e te) (hg:PG X tg g) (hs:swapsWithSole [tg] e pos.line X.env=pure false:=by rfl) (hw:swappedStores [tg] e X.env=pure none:=by rfl)
 (h1:(assignEach [tg] X.env).map (·.2)=[assign tg X.env]:=by rfl):PS X (.Assign [tg] e pos) (W3 te g):=by
 intro pins s σ H D I h
 refine wpAny_Assign_stores (thn (he pins s σ H _ I h) fun v s1 ⟨x,H1,I1,r1,q1⟩=>?_) hs hw
 rw [h1]
 exact thn (hg pins s1 σ H1 x v _ I1 r1 q1) fun _ s2 q=>q
theorem Ed {te:TE} (hN:X.N.Nodup) (hi:X.N[i]? = some x) (hx:Loc X.env.scope x) (he:PE X e te) (hs:swapsWith e (some (.Name x pos')) pos.line X.env=pure false:=by rfl) (hf:X.fn x=true∨X.env.scope.names.lookup x=some .local:=by first | exact .inl rfl | exact .inr rfl | assumption) :
 PS X (.Assign [.Name x pos'] e pos) (W3 te (SJ i)):=by
 intro pins s σ H D I h
 refine wpAny_Assign_Name (thn (he pins s σ H _ I h) fun v s1 ⟨y,H1,I1,r1,q1⟩=>?_) hs
 exact Bp I1 hN hi hx r1 (fun s2 I2=>⟨_,H1,I2,q1⟩) hf
end
section
variable {X:Cx} {pos:Pos}
end
structure It where
 go:Nat→Hp→Prop
 yld:Nat→Hp→V→Hp→Prop
 stop:Nat→Hp→Prop
def tY (X:Cx) (pins:List (Addr × Obj)) (H:Hp) (b:Addr):Prop :=
 H b=none∧b ≠ X.env.locals∧b ∉ X.fs∧(b ∈ X.ex∨X.s₀.heap.objs.size ≤ b)∧(∀ x c,X.env.cells.lookup x=some c→c ≠ b)∧∀ p ∈ X.pn++pins,p.1 ≠ b
theorem Inv.fpOk {σ:St} (I:Inv X pins σ H s) (hb:s.heap.objs.size ≤ b) (hn:H' b=none):tY X pins H' b:=by
 refine ⟨hn,jL (bJ I.lt hb),I.nofs hb,.inr (aW I.sz hb),fun x c e z=>?_,fun p hp z=>?_⟩
 ·obtain ⟨v,q⟩:=I.cell x c e
  exact absurd (bJ q.lt (by rw [z];exact hb)) (dO _)
 ·exact absurd (bJ (Heap.lt_size (I.pin p hp).1) (by rw [z];exact hb)) (dO _)
structure Turn (P:Program) (w:World) (K:PySem.W.Frag) (tg:Expr) (J:It) (fp:List Addr) (it:Addr) (tn:Nat→Heap→Prop):Prop where
 mem:it ∈ fp
 obj:∀ i h,tn i h→∀ b ∈ fp,∃ o,h.get? b=some o∧∀ v,o.data ≠ .cell v
 keep:∀ i h h',tn i h→(∀ b ∈ fp,∀ o,h.get? b=some o→h'.get? b=some o)→tn i h'
 item:∀ (X:Cx),X.prog=P→X.w=w→X.K=K→X.calm=true→∀ (i:Nat) (pins:List (Addr × Obj)) (s:Shared) (σ:St) (H:Hp) (E:Value→Shared→Prop),Inv X pins σ H s→(∀ b ∈ fp,tY X pins H b)→tn i s.heap→J.go i H →
  wpAny (model P w) X.A (pyNext (.ref it)) (fun r s1=>∃ u,r=some u ∧
   wpAny (model P w) X.A (letOwnedTupleGo tg (.ref it) u) (fun _ s2=>∃ x H',Inv X pins σ H' s2∧RelV x u∧J.yld i H x H'∧tn (i + 1) s2.heap∧∀ b ∈ fp,H' b=none) E s1) E s
 done:∀ (X:Cx),X.prog=P→X.w=w→X.K=K→X.calm=true→∀ (i:Nat) (pins:List (Addr × Obj)) (s:Shared) (σ:St) (H:Hp) (E:Value→Shared→Prop),Inv X pins σ H s→(∀ b ∈ fp,tY X pins H b)→tn i s.heap→J.stop i H →
  wpAny (model P w) X.A (pyNext (.ref it)) (fun r s1=>r=none∧Inv X pins σ H s1) E s
 self:∀ (A:Around) (i:Nat) (s:Shared) (Q:Value→Shared→Prop) (E:Value→Shared→Prop),tn i s.heap→Q (.ref it) s→wpAny (model P w) A (pyIter (.ref it)) Q E s
abbrev TI:=St→Hp→(It→Hp→Prop)→Prop
def PIE (X:Cx) (pins:List (Addr × Obj)) (σ:St) (tg:Expr) (R:It→Hp→Prop) (itv:Value) (s2:Shared):Prop :=
 ∃ (it:Addr) (fp:List Addr) (tn:Nat→Heap→Prop) (J:It) (H':Hp),itv = .ref it∧Inv X pins σ H' s2∧Turn X.prog X.w X.K tg J fp it tn∧tn 0 s2.heap∧(∀ b ∈ fp,tY X pins H' b)∧R J H'
def PI (X:Cx) (tg iter:Expr) (wi:TI):Prop :=
 ∀ (pins:List (Addr × Obj)) (s:Shared) (σ:St) (H:Hp) (R:It→Hp→Prop),Inv X pins σ H s→wi σ H R →
  wpAny (model X.prog X.w) X.A (eval iter X.env) (fun v s1=>wpAny (model X.prog X.w) X.A (pyIter v) (PIE X pins σ tg R) X.xe s1) X.xe s
theorem yh {u:Value} {o:Obj} {n:String} {vs:Array Value} {Q:Unit→Shared→Prop} (ho:s.heap.get? it=some o) (hc:o.cls = .type n) (hd:o.data = .fields vs)
 (hn:["enumerate", "zip", "dict_itemiterator", "dict_reverseitemiterator", "odict_iterator", "itertools.zip_longest", "itertools.pairwise"].contains n=false) (hQ:Q () s):wpAny M A (letOwnedTupleGo tg (.ref it) u) Q E s:=by
 unfold letOwnedTupleGo
 cases tg <;> first
  | exact wpAny_pure hQ
  | (cases u <;> first
   | exact wpAny_pure hQ
   | (refine wpAny_bind (wpAny_load ho ?_)
      rw [hc,hd]
      show wpAny M A (if (["enumerate", "zip", "dict_itemiterator", "dict_reverseitemiterator", "odict_iterator", "itertools.zip_longest", "itertools.pairwise"].contains n && vs[0]? == some (rawInt _))=true then _ else _) Q E s
      rw [if_neg (by intro h;rw [hn,pH] at h;cases h)]
      exact wpAny_pure hQ))
def Itl (K:PySem.W.Frag) (a:Addr):It :=
 ⟨fun i H=>∃ xs x,SqL K H a xs∧xs[i]? = some x,fun i H x H'=>H'=H∧∀ xs,SqL K H a xs→xs[i]? = some x,fun i H=>∃ xs,SqL K H a xs∧xs.length ≤ i⟩
def Itt (K:PySem.W.Frag) (a:Addr):It :=
 ⟨fun i H=>∃ xs x,SqT K H a xs∧xs[i]? = some x,fun i H x H'=>H'=H∧∀ xs,SqT K H a xs→xs[i]? = some x,fun i H=>∃ xs,SqT K H a xs∧xs.length ≤ i⟩
def Itr (lo:Int) (n:Nat):It:=⟨fun i _=>i < n,fun i H x H'=>H'=H∧x = .int (lo + i),fun i _=>n ≤ i⟩
theorem Ih (a it:Addr):Turn P w K tg (Itl K a) [it] it (fun i h=>h.IsListIter it a i) where
 mem:=by simp
 obj:=fun i h st b hb=>by
  have e:b=it:=by simpa using hb
  subst e
  obtain ⟨o,e,c,d⟩:=st
  exact ⟨o,e,fun v z=>by rw [d] at z;cases z⟩
 keep:=fun i h h' st k=>st.at fun o e=>k it (by simp) o e
 item:=by
  intro X hP hw hK hc i pins s σ H E I hf st hg
  subst hP hw hK
  obtain ⟨xs,x,hq,hx⟩:=hg
  obtain ⟨its,rv,p,hz⟩:=I.list hq
  obtain ⟨u,hu,ru⟩:=rv.get hx
  obtain ⟨f0,f1,f2,f3,f4,f5⟩:=hf it (by simp)
  refine wpAny_pyNext_list_item st p.isList (x:=u) (by simpa using hu) fun h' st' sb=>?_
  have I1:Inv X pins σ H { s with heap:=h' }:=I.turned (t':=s.toks) (fun b o hb e=>(sb.2 b hb).trans e) f0 f1 f3 f4 f5
  obtain ⟨o,e,c,d⟩:=id st'
  exact ⟨u,rfl,yh (s:={ s with heap:=h' }) e c d (by decide) ⟨x,H,I1,ru,⟨rfl,fun ys hy=>by rw [I.list_inj hy hq];exact hx⟩,st',fun b hb=>(hf b hb).1⟩⟩
 done:=by
  intro X hP hw hK hc i pins s σ H E I hf st hg
  subst hP hw hK
  obtain ⟨xs,hq,hx⟩:=hg
  obtain ⟨its,rv,p,hz⟩:=I.list hq
  obtain ⟨f0,f1,f2,f3,f4,f5⟩:=hf it (by simp)
  have hl:=rv.length
  exact wpAny_pyNext_list_end (I.ok.hd hc) st p.isList (by simp;omega) fun h' eb=>⟨rfl,I.turned (t':=s.toks) (fun b o hb e=>eb b o hb e) f0 f1 f3 f4 f5⟩
 self:=fun _ _ _ _ _ st h=>wpAny_pyIter_listiter st h
theorem Ef (a it:Addr):Turn P w K tg (Itt K a) [it] it (fun i h=>h.IsTupleIter it a i) where
 mem:=by simp
 obj:=fun i h st b hb=>by
  have e:b=it:=by simpa using hb
  subst e
  obtain ⟨o,e,c,d⟩:=st
  exact ⟨o,e,fun v z=>by rw [d] at z;cases z⟩
 keep:=fun i h h' st k=>st.at fun o e=>k it (by simp) o e
 item:=by
  intro X hP hw hK hc i pins s σ H E I hf st hg
  subst hP hw hK
  obtain ⟨xs,x,hq,hx⟩:=hg
  obtain ⟨its,rv,p,hz⟩:=I.tuple hq
  obtain ⟨u,hu,ru⟩:=rv.get hx
  obtain ⟨f0,f1,f2,f3,f4,f5⟩:=hf it (by simp)
  refine wpAny_pyNext_tuple_item st (show s.heap.IsTuple a its.toArray from p) (x:=u) (by simpa using hu) fun h' st' sb=>?_
  have I1:Inv X pins σ H { s with heap:=h' }:=I.turned (t':=s.toks) (fun b o hb e=>(sb.2 b hb).trans e) f0 f1 f3 f4 f5
  obtain ⟨o,e,c,d⟩:=id st'
  exact ⟨u,rfl,yh (s:={ s with heap:=h' }) e c d (by decide) ⟨x,H,I1,ru,⟨rfl,fun ys hy=>by rw [I.tuple_inj hy hq];exact hx⟩,st',fun b hb=>(hf b hb).1⟩⟩
 done:=by
  intro X hP hw hK hc i pins s σ H E I hf st hg
  subst hP hw hK
  obtain ⟨xs,hq,hx⟩:=hg
  obtain ⟨its,rv,p,hz⟩:=I.tuple hq
  obtain ⟨f0,f1,f2,f3,f4,f5⟩:=hf it (by simp)
  have hl:=rv.length
  exact wpAny_pyNext_tuple_end (I.ok.hd hc) st (show s.heap.IsTuple a its.toArray from p) (by simp;omega) fun h' eb=>⟨rfl,I.turned (t':=s.toks) (fun b o hb e=>eb b o hb e) f0 f1 f3 f4 f5⟩
 self:=fun _ _ _ _ _ st h=>wpAny_pyIter_tupleiter st h
theorem Eh (it:Addr) (lo:Int) (n:Nat):Turn P w K tg (Itr lo n) [it] it (fun i h=>IsRangeIter h it (lo + (i:Nat) * 1) ((n:Int) - (i:Nat)) 1) where
 mem:=by simp
 obj:=fun i h st b hb=>by
  have e:b=it:=by simpa using hb
  subst e
  exact ⟨_,st,fun v z=>by
   have z':Data.fields _=Data.cell v:=z
   cases z'⟩
 keep:=fun i h h' st k=>k it (by simp) _ st
 item:=by
  intro X hP hw hK hc i pins s σ H E I hf st hg
  subst hP hw hK
  obtain ⟨f0,f1,f2,f3,f4,f5⟩:=hf it (by simp)
  have W:=Walks.range (prog:=X.prog) (w:=X.w) (I.ok.hd hc) it lo 1 n
  refine W.item i s _ _ hg st fun v h' tk hv st' kk=>?_
  obtain ⟨t,rfl⟩:=hv
  have I1:Inv X pins σ H { s with heap:=h',toks:=tk }:=I.turned (fun b o hb e=>kk b o (by simpa using hb) e) f0 f1 f3 f4 f5
  refine ⟨_,rfl,yh (s:={ s with heap:=h',toks:=tk }) (n := "range_iterator") st' rfl rfl (by decide) ⟨.int (lo + i),H,I1,⟨t,?_⟩,⟨rfl,rfl⟩,st',fun b hb=>(hf b hb).1⟩⟩
  rw [Int.mul_one]
 done:=by
  intro X hP hw hK hc i pins s σ H E I hf st hg
  subst hP hw hK
  obtain ⟨f0,f1,f2,f3,f4,f5⟩:=hf it (by simp)
  exact wpAny_pyNext_range_end (I.ok.hd hc) st (by have:n ≤ i:=hg;omega) fun h' eb=>⟨rfl,I.turned (t':=s.toks) (fun b o hb e=>eb b o hb e) f0 f1 f3 f4 f5⟩
 self:=fun _ _ _ _ _ st h=>wpAny_pyIter_rangeiter st h
end L2
variable {tl:L2.TE} {p:Pos} {fp:List Addr} {iter:Expr}
namespace L2
open PySem PySem.Spec PyProof.Rows
section
variable {X:Cx} {tg:Expr}
def W4 (K:PySem.W.Frag) (tl:TE):TI:=fun σ H R=>tl σ H fun x H1=>∃ a,x = .ref a∧(∃ xs,SqL K H1 a xs)∧R (Itl K a) H1
def Pk (K:PySem.W.Frag) (tl:TE):TI:=fun σ H R=>tl σ H fun x H1=>∃ a,x = .ref a∧(∃ xs,SqT K H1 a xs)∧R (Itt K a) H1
theorem Gk {l:Expr} (hl:PE X l tl):PI X tg l (W4 X.K tl):=by
 intro pins s σ H R I h
 refine thn (hl pins s σ H _ I h) fun v s1 ⟨x,H1,I1,r1,q1⟩=>?_
 obtain ⟨a,e,⟨xs,hq⟩,q⟩:=q1
 subst e
 cases r1
 obtain ⟨its,rv,p,hz⟩:=I1.list hq
 refine wpAny_pyIter_list p.isList ?_
 refine ⟨s1.heap.objs.size,[s1.heap.objs.size],_,_,H1,rfl,I1.kept (t':=s1.toks) fun b o e=>Heap.get?_push_of_some _ e,Ih a _,⟨_,Heap.get?_push_size _ rfl,rfl,rfl⟩,fun b hb=>?_,q⟩
 have e:b=s1.heap.objs.size:=by simpa using hb
 subst e
 exact I1.fpOk (aL _) (I1.hok.fresh (aL _))
theorem Ei {l:Expr} (hl:PE X l tl):PI X tg l (Pk X.K tl):=by
 intro pins s σ H R I h
 refine thn (hl pins s σ H _ I h) fun v s1 ⟨x,H1,I1,r1,q1⟩=>?_
 obtain ⟨a,e,⟨xs,hq⟩,q⟩:=q1
 subst e
 cases r1
 obtain ⟨its,rv,p,hz⟩:=I1.tuple hq
 refine wpAny_pyIter_tuple (show s1.heap.IsTuple a its.toArray from p) ?_
 refine ⟨s1.heap.objs.size,[s1.heap.objs.size],_,_,H1,rfl,I1.kept (t':=s1.toks) fun b o e=>Heap.get?_push_of_some _ e,Ef a _,⟨_,Heap.get?_push_size _ rfl,rfl,rfl⟩,fun b hb=>?_,q⟩
 have e:b=s1.heap.objs.size:=by simpa using hb
 subst e
 exact I1.fpOk (aL _) (I1.hok.fresh (aL _))
theorem J7 {σ:St} {R:It→Hp→Prop} {lo hi:Int} {t u v:Tok} {tk:Nat} (I:Inv X pins σ H s) (h1 : -(2 ^ 62) ≤ lo) (h2:lo < 2 ^ 62) (h3 : -(2 ^ 62) ≤ hi) (h4:hi < 2 ^ 62)
 (q:R (Itr lo (hi - lo).toNat) H):wpAny (model X.prog X.w) X.A (pyIter (.ref s.heap.objs.size)) (PIE X pins σ tg R) E { s with heap:=s.heap.push { cls:=.type "range", data:=.fields #[.int lo t,.int hi u,.int 1 v] },toks:=tk }:=by
 refine wpAny_pyIter_range (IsRange.new ..) (small_one h1 h2 h3 h4) ?_
 have I1:Inv X pins σ H { s with heap:=s.heap.push { cls:=.type "range", data:=.fields #[.int lo t,.int hi u,.int 1 v] },toks:=tk }:=I.kept fun b o e=>Heap.get?_push_of_some _ e
 refine ⟨(s.heap.push { cls:=.type "range", data:=.fields #[.int lo t,.int hi u,.int 1 v] }).objs.size,[(s.heap.push { cls:=.type "range", data:=.fields #[.int lo t,.int hi u,.int 1 v] }).objs.size],_,_,H,rfl,
  I1.kept (t':=tk) fun b o e=>Heap.get?_push_of_some _ e,Eh _ lo (hi - lo).toNat,?_,fun b hb=>?_,q⟩
 ·have e1:lo + ((0:Nat):Int) * 1=lo:=by simp
  have e2:(((hi - lo).toNat:Nat):Int) - ((0:Nat):Int)=Builtin.Range.rangeSize lo hi 1:=by rw [rangeSize_one];split <;> omega
  show IsRangeIter _ _ (lo + ((0:Nat):Int) * 1) ((((hi - lo).toNat:Nat):Int) - ((0:Nat):Int)) 1
  rw [e1,e2]
  exact Heap.get?_push_size _ rfl
 ·have e:b=(s.heap.push { cls:=.type "range", data:=.fields #[.int lo t,.int hi u,.int 1 v] }).objs.size:=by simpa using hb
  subst e
  exact I1.fpOk (aL _) (I1.hok.fresh (aL _))
def W5 (ta:TA):TI:=fun σ H R=>ta σ H fun vs H1=>∃ j:Int,vs=[.int j]∧-(2 ^ 62) ≤ j∧j < 2 ^ 62∧R (Itr 0 j.toNat) H1
theorem Ii {a:Expr} {ta:TA} (hg:Gl X "range") (hm:X.mg "range" = none) (ha:PA X [a] ta) (hs:starEach [a] X.env=[(false,eval a X.env)]:=by rfl):PI X tg (.Call (.Name "range" p) [a] [] pos) (W5 ta):=by
 intro pins s σ H R I h
 refine Call_ (lA I hg hm boot_range (PyProof.Rows.callWith_type1 (thn (ha pos pins s σ H _ I h) fun us s1 ⟨vs,H1,I1,r1,q1⟩=>?_) hs rfl))
 obtain ⟨j,e,q1,q2,q⟩:=q1
 subst e
 cases r1 with
 | cons r rr =>
  cases rr
  obtain ⟨t,rfl⟩:=r
  exact call_range_1 (J7 I1 (by omega) (by omega) q1 q2 (by simpa using q))
def Ze (wi:TI) (g:TG) (tb:TS):TS:=fun D σ H=>wi σ H fun J H1=>∃ W:Nat→Nat→St→Hp→Prop,(∃ m,W 0 m σ H1)∧∀ i m σ H,W i m σ H →
 (J.stop i H∧D.nx σ H)∨(J.go i H∧∃ N:St→Hp→Prop,(∀ σ' H',N σ' H'→∃ m',m' < m∧W (i + 1) m' σ' H')∧∀ x H',J.yld i H x H'→g x σ H' fun σ2 H2=>tb { D with nx:=N,ct:=N,bk:=D.nx } σ2 H2)
def vO (fp:List Addr) (h:Heap):List (Addr × Obj):=fp.filterMap fun b=>(h.get? b).map fun o=>(b,o)
theorem ou {o:Obj} (hb:b ∈ fp) (e:h.get? b=some o):(b,o) ∈ vO fp h:=jz.mpr ⟨b,hb,by rw [e];rfl⟩
theorem Ij {p:Addr × Obj} (hp:p ∈ vO fp h):p.1 ∈ fp∧h.get? p.1=some p.2:=by
 obtain ⟨b,hb,e⟩:=jz.mp hp
 cases q:h.get? b with
 | none=>rw [q] at e;cases e
 | some o =>
  rw [q] at e
  have e':(b,o)=p:=b_.inj e
  subst e'
  exact ⟨hb,q⟩
theorem Inv.pinned {σ:St} (I:Inv X pins σ H s) (hf:∀ b ∈ fp,tY X pins H b) (ho:∀ b ∈ fp,∃ o,s.heap.get? b=some o∧∀ v,o.data ≠ .cell v):Inv X (pins++vO fp s.heap) σ H s :=
 I.pins_of fun p hp=>(cL.mp hp).elim (fun z=>I.pin p (bF _ z)) fun z=>by
  obtain ⟨hb,e⟩:=Ij z
  obtain ⟨f0,f1,f2,_⟩:=hf p.1 hb
  obtain ⟨o,e',d⟩:=ho p.1 hb
  rw [e] at e';cases e'
  exact ⟨e,f0,f1,f2,d⟩
theorem Inv.unpinned {pl:List (Addr × Obj)} {σ:St} (I:Inv X (pins++pl) σ H s):Inv X pins σ H s:=I.pins_of fun p hp=>I.pin p (bF _ (bW _ hp))
theorem Ub {body:List Stmt} {wi:TI} {g:TG} {tb:TS} (hp:PassesOwn (model X.prog X.w) X.A X.env X.xe) (hc:X.calm=true) (hi:PI X tg iter wi) (hg:PG X tg g) (hb:PSs X body tb)
 (hs:∀ x,foldedSetIterable iter X.env x=pure x:=by intro _;rfl):PS X (.For tg iter body [] pos) (Ze wi g tb):=by
 intro pins s σ H D I h
 refine wpAny_For (thn (hi pins s σ H _ I h) fun v s1 h1=>thn h1 fun itv s2 h2=>?_) hs
 obtain ⟨it,fp,tn,J,H2,e,I2,T,st2,f2,W,⟨m0,w0⟩,turn⟩:=h2
 subst e
 have stat:∀ {H':Hp},(∀ b ∈ fp,H' b=none)→∀ b ∈ fp,tY X pins H' b:=fun hn b hb=>⟨hn b hb,(f2 b hb).2⟩
 refine codeAny_forLoop_any (fun n s'=>∃ i σ' H',Inv X pins σ' H' s'∧tn i s'.heap∧(∀ b ∈ fp,H' b=none)∧W i n σ' H') ?_ m0 ⟨0,σ,H2,I2,st2,fun b hb=>(f2 b hb).1,w0⟩
 rintro n s3 ⟨i,σ3,H3,I3,st3,fr3,w3⟩
 rcases turn i n σ3 H3 w3 with ⟨stop,qn⟩ | ⟨go,N,hN,step⟩
 ·refine wpAny_passesOwn hp (thn (T.done X rfl rfl rfl hc i pins s3 σ3 H3 X.xe I3 (stat fr3) st3 stop) fun r s4 ⟨hr,I4⟩=>?_)
  subst hr
  exact wpAny_execs_nil ⟨σ3,H3,I4,qn⟩
 ·refine wpAny_passesOwn hp (thn (T.item X rfl rfl rfl hc i pins s3 σ3 H3 X.xe I3 (stat fr3) st3 go) fun r s4 ⟨u,hr,h4⟩=>?_)
  subst hr
  refine wpAny_passesOwn hp (thn h4 fun _ s5 ⟨x,H5,I5,r5,y5,st5,fr5⟩=>?_)
  have I5':=I5.pinned (stat fr5) (T.obj _ _ st5)
  refine wpAny_passesOwn hp (thn (hg _ s5 σ3 H5 x u _ I5' r5 (step x H5 y5)) fun _ s6 ⟨σ6,H6,I6,q6⟩=>?_)
  refine wpAny_passesOwn hp (thn (hb _ s6 σ6 H6 _ I6 q6) fun f s7 q7=>?_)
  have again:∀ {σ7:St} {H7:Hp},Inv X (pins++vO fp s5.heap) σ7 H7 s7→N σ7 H7→∃ m,m < n∧∃ i σ' H',Inv X pins σ' H' s7∧tn i s7.heap∧(∀ b ∈ fp,H' b=none)∧W i m σ' H':=fun {σ7 H7} I7 n7=>by
   obtain ⟨m',hm,w7⟩:=hN σ7 H7 n7
   refine ⟨m',hm,i + 1,σ7,H7,I7.unpinned,T.keep _ _ _ st5 fun b hb o e=>(I7.pin (b,o) (bF _ (bF _ (ou hb e)))).1,fun b hb=>?_,w7⟩
   obtain ⟨o,e,d⟩:=T.obj _ _ st5 b hb
   exact (I7.pin (b,o) (bF _ (bF _ (ou hb e)))).2.1
  cases f with
  | next=>obtain ⟨σ7,H7,I7,n7⟩:=q7;exact again I7 n7
  | cont=>obtain ⟨σ7,H7,I7,n7⟩:=q7;exact again I7 n7
  | brk=>obtain ⟨σ7,H7,I7,q7⟩:=q7;exact ⟨σ7,H7,I7.unpinned,q7⟩
  | ret v=>obtain ⟨x7,σ7,H7,I7,r7,q7⟩:=q7;exact ⟨x7,σ7,H7,I7.unpinned,r7,q7⟩
end
end L2
variable {op':CmpOp}
namespace L2
open PySem PySem.Spec PyProof.Rows
abbrev R2:=V→V→Hp→VK→Prop
def OpR (X:Cx) (f:Value→Value→Sem Value) (r:R2):Prop :=
 ∀ (pins:List (Addr × Obj)) (s:Shared) (σ:St) (H:Hp) (x y:V) (v u:Value) (Q:VK),Inv X pins σ H s→RelV x v→RelV y u→r x y H Q →
  wpAny (model X.prog X.w) X.A (f v u) (EP X pins σ Q) X.xe s
def UnR (X:Cx) (f:Value→Sem Value) (r:V→Hp→VK→Prop):Prop :=
 ∀ (pins:List (Addr × Obj)) (s:Shared) (σ:St) (H:Hp) (x:V) (v:Value) (Q:VK),Inv X pins σ H s→RelV x v→r x H Q →
  wpAny (model X.prog X.w) X.A (f v) (EP X pins σ Q) X.xe s
def jY (X:Cx) (f:Value) (r:List V→Hp→VK→Prop):Prop :=
 ∀ (pins:List (Addr × Obj)) (s:Shared) (σ:St) (H:Hp) (xs:List V) (us:List Value) (Q:VK),Inv X pins σ H s→Vals xs us→r xs H Q →
  wpAny (model X.prog X.w) X.A (call f us) (EP X pins σ Q) X.xe s
def tOp (r:R2) (ta tb:TE):TE:=fun σ H Q=>ta σ H fun x H1=>tb σ H1 fun y H2=>r x y H2 Q
def tUn (r:V→Hp→VK→Prop) (ta:TE):TE:=fun σ H Q=>ta σ H fun x H1=>r x H1 Q
def rI (C:Int→Int→Prop) (g:Int→Int→V):R2:=fun x y H Q=>∃ i j,x = .int i∧y = .int j∧C i j∧Q (g i j) H
def rI0 (g:Int→Int→V):R2:=fun x y H Q=>∃ i j,x = .int i∧y = .int j∧Q (g i j) H
def rU (g:Int→V):V→Hp→VK→Prop:=fun x H Q=>∃ i,x = .int i∧Q (g i) H
section
variable {X:Cx} {a b c:Expr} {ta tb tc:TE} {pos:Pos}
theorem Uc (ha:PE X a ta) (hb:PE X b tb) {pins:List (Addr × Obj)} {s:Shared} {σ:St} {H:Hp} {R:V→V→Hp→Prop} (I:Inv X pins σ H s)
 (h:ta σ H fun x H1=>tb σ H1 fun y H2=>R x y H2) {Q:Value→Shared→Prop} {f:Value→Value→Sem Value}
 (hf:∀ v u s2 x y H2,Inv X pins σ H2 s2→RelV x v→RelV y u→R x y H2→wpAny (model X.prog X.w) X.A (f v u) Q X.xe s2) :
 wpAny (model X.prog X.w) X.A (eval a X.env) (fun v s₁=>wpAny (model X.prog X.w) X.A (eval b X.env) (fun u s₂=>wpAny (model X.prog X.w) X.A (f v u) Q X.xe s₂) X.xe s₁) X.xe s:=by
 refine thn (ha pins s σ H _ I h) fun v s1 ⟨x,H1,I1,r1,q1⟩=>?_
 refine thn (hb pins s1 σ H1 _ I1 q1) fun u s2 ⟨y,H2,I2,r2,q2⟩=>?_
 exact hf v u s2 x y H2 I2 r1 r2 q2
theorem SM {op:Operator} {r:R2} (ho:OpR X (binaryOp op) r) (ha:PE X a ta) (hb:PE X b tb):PE X (.BinOp a op b pos) (tOp r ta tb):=by
 intro pins s σ H Q I h
 exact wpAny_BinOp (Uc ha hb I h fun v u s2 x y H2 I2 rx ry q=>ho pins s2 σ H2 x y v u Q I2 rx ry q)
theorem W6 {op:UnaryOp} {r:V→Hp→VK→Prop} (ho:UnR X (unaryOp op) r) (ha:PE X a ta):PE X (.UnaryOp op a pos) (tUn r ta):=by
 intro pins s σ H Q I h
 exact UnaryOp_ (thn (ha pins s σ H _ I h) fun v s1 ⟨x,H1,I1,r1,q1⟩=>ho pins s1 σ H1 x v Q I1 r1 q1)
theorem opI {f:Value→Value→Sem Value} {C:Int→Int→Prop} {g:Int→Int→Int}
 (rule:∀ (i j:Int) (t u:Tok) (s:Shared) (Q:Value→Shared→Prop) (E:Value→Shared→Prop),C i j→Q (.int (g i j) s.toks) { s with toks:=s.toks + 1 }→wpAny (model X.prog X.w) X.A (f (.int i t) (.int j u)) Q E s) :
 OpR X f (rI C fun i j=>.int (g i j)):=by
 intro pins s σ H x y v u Q I rx ry h
 obtain ⟨i,j,rfl,rfl,hc,q⟩:=h
 obtain ⟨t,rfl⟩:=rx
 obtain ⟨t',rfl⟩:=ry
 exact rule i j t t' s _ _ hc ⟨.int (g i j),H,I.tok _,⟨_,rfl⟩,q⟩
theorem W7 {f:Value→Value→Sem Value} {g:Int→Int→Int}
 (rule:∀ (i j:Int) (t u:Tok) (s:Shared) (Q:Value→Shared→Prop) (E:Value→Shared→Prop),Q (.int (g i j) s.toks) { s with toks:=s.toks + 1 }→wpAny (model X.prog X.w) X.A (f (.int i t) (.int j u)) Q E s) :
 OpR X f (rI0 fun i j=>.int (g i j)):=by
 intro pins s σ H x y v u Q I rx ry h
 obtain ⟨i,j,rfl,rfl,q⟩:=h
 obtain ⟨t,rfl⟩:=rx
 obtain ⟨t',rfl⟩:=ry
 exact rule i j t t' s _ _ ⟨.int (g i j),H,I.tok _,⟨_,rfl⟩,q⟩
theorem Pn {f:Value→Value→Sem Value} {g:Int→Int→Bool}
 (rule:∀ (i j:Int) (t u:Tok) (s:Shared) (Q:Value→Shared→Prop) (E:Value→Shared→Prop),Q (.bool (g i j)) s→wpAny (model X.prog X.w) X.A (f (.int i t) (.int j u)) Q E s) :
 OpR X f (rI0 fun i j=>.bl (g i j)):=by
 intro pins s σ H x y v u Q I rx ry h
 obtain ⟨i,j,rfl,rfl,q⟩:=h
 obtain ⟨t,rfl⟩:=rx
 obtain ⟨t',rfl⟩:=ry
 exact rule i j t t' s _ _ ⟨.bl (g i j),H,I,rfl,q⟩
def Ud (i j:Int):Prop:=0 ≤ j∧j ≤ 1000000∧i.natAbs < 2 ^ 64
theorem fB:OpR X (binaryOp .Add) (rI0 fun i j=>.int (i + j)):=W7 fun _ _ _ _ _ _ _ q=>add_int q
theorem zu:OpR X (binaryOp .Sub) (rI0 fun i j=>.int (i - j)):=W7 fun _ _ _ _ _ _ _ q=>sub_int q
theorem kW:OpR X (binaryOp .Mod) (rI (fun _ j=>j ≠ 0) fun i j=>.int (i.fmod j)):=opI fun _ _ _ _ _ _ _ hc q=>mod_int' hc q
theorem Ue:OpR X (binaryOp .Pow) (rI Ud fun i j=>.int (i ^ j.toNat)):=opI fun _ _ _ _ _ _ _ hc q=>pow_int_small hc.1 hc.2.1 hc.2.2 q
theorem unI {f:Value→Sem Value} {g:Int→Int}
 (rule:∀ (i:Int) (t:Tok) (s:Shared) (Q:Value→Shared→Prop) (E:Value→Shared→Prop),Q (.int (g i) s.toks) { s with toks:=s.toks + 1 }→wpAny (model X.prog X.w) X.A (f (.int i t)) Q E s) :
 UnR X f (rU fun i=>.int (g i)):=by
 intro pins s σ H x v Q I rx h
 obtain ⟨i,rfl,q⟩:=h
 obtain ⟨t,rfl⟩:=rx
 exact rule i t s _ _ ⟨.int (g i),H,I.tok _,⟨_,rfl⟩,q⟩
theorem Ug:UnR X (unaryOp .USub) (rU fun i=>.int (-i)):=unI fun _ _ _ _ _ q=>neg_int q
end
section
variable {X:Cx} {a b c:Expr} {ta tb tc:TE} {pos:Pos}
theorem Br:OpR X (compareOp .Lt) (rI0 fun i j=>.bl (decide (i < j))):=Pn fun _ _ _ _ _ _ _ q=>lt_int q
theorem jZ:OpR X (compareOp .LtE) (rI0 fun i j=>.bl (decide (i ≤ j))):=Pn fun _ _ _ _ _ _ _ q=>le_int q
theorem yj:OpR X (compareOp .Gt) (rI0 fun i j=>.bl (decide (j < i))):=Pn fun _ _ _ _ _ _ _ q=>gt_int q
theorem SN:OpR X (compareOp .GtE) (rI0 fun i j=>.bl (decide (j ≤ i))):=Pn fun _ _ _ _ _ _ _ q=>ge_int q
theorem dJ (b:Expr) {op:CmpOp} (h:op ≠ .In:=by decide) (h2:op ≠ .NotIn:=by decide):behindInMarks op b=false:=by
 have e1:(op == CmpOp.In)=false:=by cases op <;> first | rfl | exact absurd rfl h
 have e2:(op == CmpOp.NotIn)=false:=by cases op <;> first | rfl | exact absurd rfl h2
 cases b <;> simp [behindInMarks,e1,e2]
theorem Pq {r:R2} (ho:OpR X (compareOp op) r) (ha:PE X a ta) (hb:PE X b tb) (hm:behindInMarks op b=false):PE X (.Compare a [op] [b] pos) (tOp r ta tb):=by
 intro pins s σ H Q I h
 exact wpAny_Compare1 (Uc ha hb I h fun v u s2 x y H2 I2 rx ry q=>ho pins s2 σ H2 x y v u Q I2 rx ry q) hm
def SQ (t:TE):TT:=fun σ H Q=>t σ H fun x H'=>∃ k,x = .bl k∧Q k H'
theorem Pr {r:R2} (ho:OpR X (compareOp op) r) (ha:PE X a ta) (hb:PE X b tb) (hm:behindInMarks op b=false):PT X (.Compare a [op] [b] pos) (SQ (tOp r ta tb)):=by
 intro pins s σ H Q I h
 refine wpAny_isTrue_Compare1 (thn (ha pins s σ H _ I h) fun v s1 ⟨x,H1,I1,r1,q1⟩=>thn (hb pins s1 σ H1 _ I1 q1) fun u s2 ⟨y,H2,I2,r2,q2⟩ =>
  thn (ho pins s2 σ H2 x y v u _ I2 r1 r2 q2) fun c s3 ⟨z,H3,I3,r3,k,e,q3⟩=>?_) hm
 subst e
 cases r3
 exact wpAny_truthy_bool ⟨H3,I3,q3⟩
def J8 (r r':R2) (ta tb tc:TE):TE:=fun σ H Q=>ta σ H fun x H1=>tb σ H1 fun y H2=>r x y H2 fun z H3=>∃ k,z = .bl k ∧
 (if k=true then tc σ H3 fun w' H4=>r' y w' H4 Q else Q (.bl false) H3)
theorem J9 {r r':R2} (ho:OpR X (compareOp op) r) (ho':OpR X (compareOp op') r') (ha:PE X a ta) (hb:PE X b tb) (hc:PE X c tc)
 (hm:lastMarks [op,op'] [b,c]=false:=by with_unfolding_all rfl):PE X (.Compare a [op,op'] [b,c] pos) (J8 r r' ta tb tc):=by
 intro pins s σ H Q I h
 refine Compare_chain (thn (ha pins s σ H _ I h) fun v s1 ⟨x,H1,I1,r1,q1⟩=>chain_link (thn (hb pins s1 σ H1 _ I1 q1) fun u s2 ⟨y,H2,I2,r2,q2⟩ =>
  thn (ho pins s2 σ H2 x y v u _ I2 r1 r2 q2) fun d s3 ⟨z,H3,I3,r3,k,e,q3⟩=>?_)) hm
 subst e
 cases r3
 refine wpAny_truthy_bool ?_
 cases k with
 | false=>exact ite_ff ⟨.bl false,H3,I3,rfl,q3⟩
 | true=>exact ite_tt (chain_last (thn (hc pins s3 σ H3 _ I3 q3) fun w' s4 ⟨z',H4,I4,r4,q4⟩=>ho' pins s4 σ H4 y z' u w' Q I4 r2 r4 q4))
theorem J_ {r r':R2} (ho:OpR X (compareOp op) r) (ho':OpR X (compareOp op') r') (ha:PE X a ta) (hb:PE X b tb) (hc:PE X c tc)
 (hm:lastMarks [op,op'] [b,c]=false:=by with_unfolding_all rfl):PT X (.Compare a [op,op'] [b,c] pos) (SQ (J8 r r' ta tb tc)):=by
 intro pins s σ H Q I h
 refine isTrue_chain (thn (ha pins s σ H _ I h) fun v s1 ⟨x,H1,I1,r1,q1⟩=>test_link (thn (hb pins s1 σ H1 _ I1 q1) fun u s2 ⟨y,H2,I2,r2,q2⟩ =>
  thn (ho pins s2 σ H2 x y v u _ I2 r1 r2 q2) fun d s3 ⟨z,H3,I3,r3,k,e,q3⟩=>?_)) hm
 subst e
 cases r3
 refine wpAny_truthy_bool ?_
 cases k with
 | false =>
  obtain ⟨k',e',q'⟩:=q3
  cases e'
  exact ite_ff ⟨H3,I3,q'⟩
 | true =>
  refine ite_tt (test_last (thn (hc pins s3 σ H3 _ I3 q3) fun w' s4 ⟨z',H4,I4,r4,q4⟩=>thn (ho' pins s4 σ H4 y z' u w' _ I4 r2 r4 q4) fun d' s5 ⟨z2,H5,I5,r5,k2,e2,q5⟩=>?_))
  subst e2
  cases r5
  exact wpAny_truthy_bool ⟨H5,I5,q5⟩
theorem tZ:(sizeLine:Nat) < 2 ^ 63:=by rw [sizeLine_eq];decide
theorem vals1 {x:V} (r:Vals [x] us):∃ u,us=[u]∧RelV x u:=by
 cases r with
 | cons r1 r2=>cases r2;exact ⟨_,rfl,r1⟩
theorem vals2 {x y:V} (r:Vals [x,y] us):∃ u w',us=[u,w']∧RelV x u∧RelV y w':=by
 cases r with
 | cons r1 r2 =>
  cases r2 with
  | cons r3 r4=>cases r4;exact ⟨_,_,rfl,r1,r3⟩
theorem yp (hc:X.calm=true):jY X (.builtin "max") (fun xs H Q=>∃ i j,xs=[.int i,.int j]∧Q (.int (if j > i then j else i)) H):=by
 intro pins s σ H xs us Q I r h
 obtain ⟨i,j,rfl,q⟩:=h
 obtain ⟨u,w',rfl,⟨t,rfl⟩,⟨t',rfl⟩⟩:=vals2 r
 refine max_two_ints (I.ok.hd hc) fun h' tk k=>⟨_,H,I.kept k,?_,q⟩
 by_cases hj:j > i
 ·rw [if_pos hj,if_pos hj];exact ⟨_,rfl⟩
 ·rw [if_neg hj,if_neg hj];exact ⟨_,rfl⟩
theorem t_ (hc:X.calm=true):jY X (.builtin "min") (fun xs H Q=>∃ i j,xs=[.int i,.int j]∧Q (.int (if j < i then j else i)) H):=by
 intro pins s σ H xs us Q I r h
 obtain ⟨i,j,rfl,q⟩:=h
 obtain ⟨u,w',rfl,⟨t,rfl⟩,⟨t',rfl⟩⟩:=vals2 r
 refine min_two_ints (I.ok.hd hc) fun h' tk k=>⟨_,H,I.kept k,?_,q⟩
 by_cases hj:j < i
 ·rw [if_pos hj,if_pos hj];exact ⟨_,rfl⟩
 ·rw [if_neg hj,if_neg hj];exact ⟨_,rfl⟩
theorem Ik:jY X (.type "int") (fun xs H Q=>(∃ i,xs=[.int i]∧Q (.int i) H)∨∃ k,xs=[.bl k]∧Q (.int (if k then 1 else 0)) H):=by
 intro pins s σ H xs us Q I r h
 rcases h with ⟨i,rfl,q⟩ | ⟨k,rfl,q⟩
 ·obtain ⟨u,rfl,t,rfl⟩:=vals1 r
  exact call_int_int ⟨.int i,H,I,⟨_,rfl⟩,q⟩
 ·obtain ⟨u,rfl,r1⟩:=vals1 r
  cases r1
  exact call_int_bool ⟨.int (if k then 1 else 0),H,I.tok _,⟨_,rfl⟩,q⟩
end
end L2
namespace L2
open PySem PySem.Spec PyProof.Rows
structure ObjM (h:Heap) (x dx C:Addr) (mA:Str→Option Value):Prop where
 obj:h.get? x=some (PySem.W.instObj C dx)
 ns:h.Ns1 dx mA
 ne:dx ≠ x
theorem Il {dx:Addr} {mA:Str→Option Value} (n:h.Ns1 dx mA):∃ od,h.get? dx=some od∧∀ name,PySem.W.lookIn name od=some (mA name):=by
 obtain ⟨o,es,ep,ho,hd,hk,_,hm⟩:=n
 refine ⟨o,ho,fun name=>?_⟩
 have e:=hm name
 unfold nsFind findBy at e
 rw [← Array.find?_toList] at e
 unfold PySem.W.lookIn
 rw [hd]
 dsimp only
 split
 ·rename_i y q
  rw [q] at e
  exact congrArg some e
 ·rename_i q
  rw [q] at e
  have a:es.toList.any (·.refKey)=false:=by
   rw [List.any_eq_false]
   intro y hy
   obtain ⟨z,t,hkey⟩:=hk y (Array.mem_toList_iff.mp hy)
   simp [DictEntry.refKey,hkey]
  have a':¬ es.toList.any (·.refKey)=true:=by rw [a];exact cg
  rw [if_neg a']
  exact congrArg some e
theorem ObjM.look {x dx C:Addr} {mA:Str→Option Value} (I:ObjM h x dx C mA):∃ od,PySem.W.InstAt h x (PySem.W.instObj C dx) C (some od)∧∀ name,PySem.W.lookIn name od=some (mA name) :=
 let ⟨od,ho,hl⟩:=Il I.ns
 ⟨od,⟨I.obj,rfl,rfl,ho⟩,hl⟩
section
variable {prog:Program} {w:World} {A:Around} {E:Value→Shared→Prop} {s:Shared} {K:PySem.W.Frag} {x dx C f:Addr} {mA:Str→Option Value} {name:Str} {v:Value}
end
theorem tX.some_of {o:Option Value} (r:tX (some v) o):∃ u,o=some u∧RelV v u:=by
 cases o with
 | none=>exact (show False from r).elim
 | some u=>exact ⟨u,rfl,r⟩
section
variable {P:Program} {w:World} {H H':Hp} {h h':Heap} {a C dx:Addr} {fs fs':List (Str × V)}
theorem Pu (hok:HOk P w H h) (e:H a=some (.ins C dx fs)):∃ mA,ObjM h a dx C mA∧(∀ f,tX (fs.lookup f) (mA f))∧PySem.Within mA (fs.map (·.1))∧fs.length ≤ 1000∧H dx=some (.own a):=by
 obtain ⟨d,z,ne,ob,mA,n,r,q⟩:=(show fu P w H h a (.ins C dx fs) from hok a _ e)
 exact ⟨mA,⟨ob,n,ne⟩,r,q,z,d⟩
end
structure Cls (K:PySem.W.Frag) (C:Addr):Prop where
 pg:PySem.W.plainGet K C Str.empty=true
 hd:PySem.W.hasDictIn K C=true
 po:PySem.W.plainOver K C=true
 sa:PySem.W.findIn K (.ref C) "__setattr__" = some (some (.builtin "object.__setattr__"))
theorem Cls.get {C:Addr} (c:Cls K C) (f:Str):PySem.W.plainGet K C f=true:=c.pg
structure Con (K:PySem.W.Frag) (C:Addr) (f:Str) (v:V) (u:Value):Prop where
 at_:PySem.W.findIn K (.ref C) f=some (some u)
 rel:RelV v u
 get:PySem.W.specialIn K u "__get__" = some none
 cp:PySem.W.copiedNames.contains f=false
structure Meth (K:PySem.W.Frag) (C:Addr) (m:Str) (f:Addr):Prop where
 at_:PySem.W.findIn K (.ref C) m=some (some (.ref f))
 fn:PySem.W.isFn K (.ref f)=true
 kp:PySem.W.keepIn K (.ref f)=true
section
variable {X:Cx} {pins:List (Addr × Obj)} {σ:St} {H:Hp} {s:Shared} {a C dx:Addr} {fs:List (Str × V)} {f:Str} {v:V} {A:Around} {E:Value→Shared→Prop}
end
section
variable {X:Cx} {o e value:Expr} {f:Str} {pos pos' tpos:Pos} {ta tv:TE}
end
section
variable {X:Cx} {pins:List (Addr × Obj)} {σ:St} {H:Hp} {s:Shared} {A:Around} {E:Value→Shared→Prop} {Q:Value→Shared→Prop} {c:Value} {b:Bool}
inductive TyOf (K:PySem.W.Frag) (H:Hp):V→Value→Prop where
 | non:TyOf K H .non (.type "NoneType")
 | bl (x:Bool):TyOf K H (.bl x) (.type "bool")
 | int (i:Int):TyOf K H (.int i) (.type "int")
 | str (x:Str):TyOf K H (.str x) (.type "str")
 | flt (x:UInt64):TyOf K H (.flt x) (.type "float")
 | lst {a:Addr} {xs:List V} (e:H a=some (.lst xs)):TyOf K H (.ref a) (.type "list")
 | frz {a:Addr} {o:Obj} {xs:List V} (e:H a=some (.frz o (.lst xs))):TyOf K H (.ref a) (.type "list")
 | tup {a:Addr} {xs:List V} (e:H a=some (.tup xs)):TyOf K H (.ref a) (.type "tuple")
 | dK {a:Addr} {kvs:List (Key × V)} (e:H a=some (.dK kvs)):TyOf K H (.ref a) (.type "dict")
 | dT {a:Addr} {kvs:List (List Key × V)} (e:H a=some (.dT kvs)):TyOf K H (.ref a) (.type "dict")
 | ins {a C dx:Addr} {fs:List (Str × V)} (e:H a=some (.ins C dx fs)) (cl:Cls K C) (ha:PySem.W.findIn K (.ref C) "__class__" = some (some (.builtin "object.__class__")))
  (hn:PySem.W.specialIn K (.builtin "object.__class__") "__get__" = some (some (.builtin "getset_descriptor.__get__"))) (htk:PySem.W.takesIn K (.builtin "object.__class__")=some true)
  (hm:PySem.W.mroIn K C (.type "object")=some true):TyOf K H (.ref a) (.ref C)
theorem yq {x:V} {u t:Value} (I:Inv X pins σ H s) (rx:RelV x u) (ty:TyOf X.K H x t) (e:PySem.W.kitOne X.K t c=some b) (h:∀ tk,Q (.bool b) { s with toks:=tk }) :
 wpAny (model X.prog X.w) A (call (.builtin "isinstance") [u,c]) Q E s:=by
 cases ty with
 | non=>cases (show u=Value.none from rx);exact PySem.W.kia_one PySem.W.kitx_none I.kIn True.intro e (fun z=>nomatch z) h
 | bl y=>cases (show u=Value.bool y from rx);exact PySem.W.kia_one PySem.W.kitx_bool I.kIn True.intro e (fun z=>nomatch z) h
 | int i=>obtain ⟨t,q⟩:=(show ∃ t,u=Value.int i t from rx);cases q;exact PySem.W.kia_one PySem.W.kitx_int I.kIn True.intro e (fun z=>nomatch z) h
 | str y=>obtain ⟨t,q⟩:=(show ∃ t,u=Value.str y t from rx);cases q;exact PySem.W.kia_one PySem.W.kitx_str I.kIn True.intro e (fun z=>nomatch z) h
 | flt y=>obtain ⟨t,q⟩:=(show ∃ t,u=Value.float y t from rx);cases q;exact PySem.W.kia_one PySem.W.kitx_float I.kIn True.intro e (fun z=>nomatch z) h
 | @lst a xs ea =>
  cases (show u=Value.ref a from rx)
  obtain ⟨_,_,n,_,h1⟩:=(show fu X.prog X.w H s.heap a (.lst xs) from I.hok a _ ea)
  exact PySem.W.kia_one PySem.W.kitx_list I.kIn ⟨_,h1,rfl⟩ e (fun z=>nomatch z) h
 | @frz a ob xs ea =>
  cases (show u=Value.ref a from rx)
  obtain ⟨_,_,_,n,_,h1⟩:=(show fu X.prog X.w H s.heap a (.frz ob (.lst xs)) from I.hok a _ ea)
  exact PySem.W.kia_one PySem.W.kitx_list I.kIn ⟨_,h1,rfl⟩ e (fun z=>nomatch z) h
 | @tup a xs ea =>
  cases (show u=Value.ref a from rx)
  obtain ⟨_,_,_,p⟩:=(show fu X.prog X.w H s.heap a (.tup xs) from I.hok a _ ea)
  obtain ⟨o,h1,h2,_⟩:=p
  exact PySem.W.kia_one PySem.W.kitx_tuple I.kIn ⟨o,h1,h2⟩ e (fun z=>nomatch z) h
 | @dK a kvs ea =>
  cases (show u=Value.ref a from rx)
  obtain ⟨_,_,vs,_,p⟩:=(show fu X.prog X.w H s.heap a (.dK kvs) from I.hok a _ ea)
  obtain ⟨o,es,ep,h1,h2,_⟩:=p
  exact PySem.W.kia_one PySem.W.kitx_dict I.kIn ⟨o,h1,h2.1⟩ e (fun z=>nomatch z) h
 | @dT a kvs ea =>
  cases (show u=Value.ref a from rx)
  obtain ⟨_,_,xs,_,o,es,ep,h1,h2,_⟩:=(show fu X.prog X.w H s.heap a (.dT kvs) from I.hok a _ ea)
  exact PySem.W.kia_one PySem.W.kitx_dict I.kIn ⟨o,h1,h2.1⟩ e (fun z=>nomatch z) h
 | @ins a C dx fs ea cl ha hn htk hm =>
  cases (show u=Value.ref a from rx)
  obtain ⟨mA,O,_⟩:=Pu I.hok ea
  obtain ⟨od,J,_⟩:=O.look
  exact PySem.W.kia_one (PySem.W.kitx_own (cl.get _) cl.hd ha hn htk hm) I.kIn J e (fun z=>nomatch z) h
end
end L2
variable {j:Nat} {mg:Str→Option Value} {base:Heap} {f:Addr} {fd:FuncData} {ps:List Str} {vs:List L2.V} {cd pm ct oc:Value} {an od:Option Addr}
namespace L2
open PySem PySem.Spec PyProof.Rows
structure Room (k:Nat) (A:Around):Prop where
 hd:A.handled=none
 dp:A.depth + 3 * k + 5 < recursionLimit
 un:A.units + 16 * k + 200 < cLine
theorem Room.mono {k:Nat} (r:Room k A) (h:j ≤ k):Room j A:=⟨r.hd,by have:=r.dp;omega,by have:=r.un;omega⟩
theorem Room.deeper {k:Nat} (r:Room (k + 1) A) (env:Env):Room k (A.deeper env) :=
 ⟨r.hd,by have:=r.dp;show A.depth + 1 + 3 * k + 5 < _;omega,by have:=r.un;show A.units + 3 + 16 * k + 200 < _;omega⟩
theorem Room.depth {k:Nat} (r:Room k A):A.depth < recursionLimit:=by have:=r.dp;omega
theorem Room.units {k:Nat} (r:Room k A):A.units + 64 < cLine:=by have:=r.un;omega
def Zf:TA:=fun _ H Q=>Q [] H
def W8 (ta:TE) (tr:TA):TA:=fun σ H Q=>ta σ H fun x H1=>tr σ H1 fun xs H2=>Q (x :: xs) H2
section
variable {X:Cx} {e:Expr} {es:List Expr} {te:TE} {t:TA} {pos:Pos}
theorem lB:PA X [] Zf:=fun _ _ _ _ H Q I h=>Calls.spliced_nil ⟨[],H,I,.nil,h⟩
theorem iz (ha:PE X e te) (hr:PA X es t) (hs:starEach (e :: es) X.env=(false,eval e X.env) :: starEach es X.env:=by rfl):PA X (e :: es) (W8 te t):=by
 intro pos pins s σ H Q I h
 rw [hs]
 show wpAny _ _ (spliced ((false,eval e X.env) :: backTo pos (starEach es X.env))) _ _ s
 refine Calls.spliced_cons (thn (ha pins s σ H _ I h) fun u s1 ⟨x,H1,I1,r1,q1⟩=>?_)
 exact thn (hr pos pins s1 σ H1 _ I1 q1) fun us s2 ⟨xs,H2,I2,r2,q2⟩=>⟨x :: xs,H2,I2,.cons r1 r2,q2⟩
def Zg (t:TA):TE:=fun σ H Q=>t σ H fun xs H1=>xs.length ≤ sizeLine∧∀ p,H1 p=none→Q (.ref p) (upd H1 p (.tup xs))
def Zh (t:TA):TE:=fun σ H Q=>t σ H fun xs H1=>xs.length ≤ sizeLine∧∀ p,H1 p=none→Q (.ref p) (upd H1 p (.lst xs))
theorem Uh {x1} (h:PA X es t):PE X (.Tuple es x1 pos) (Zg t):=by
 intro pins s σ H Q I hq
 refine wpAny_Tuple_spliced (thn (h pos pins s σ H _ I hq) fun us s1 ⟨xs,H1,I1,r,z,q⟩=>⟨by rw [← r.length];exact z,?_⟩)
 have hf:H1 s1.heap.objs.size=none:=I1.hok.fresh (aL _)
 refine ⟨.ref s1.heap.objs.size,upd H1 s1.heap.objs.size (.tup xs),I1.laid (t':=s1.toks) (fun b u e=>Heap.get?_push_of_some _ e) (aL _) ?_,rfl,q _ hf⟩
 exact ⟨z,us,r,⟨_,Heap.get?_push_size _ rfl,rfl,_,rfl⟩⟩
theorem Ka (h:PA X es t):PE X (.List es pos) (Zh t):=by
 intro pins s σ H Q I hq
 refine wpAny_List_spliced (thn (h pos pins s σ H _ I hq) fun us s1 ⟨xs,H1,I1,r,z,q⟩=>⟨by rw [← r.length];exact z,?_⟩)
 have hf:H1 s1.heap.objs.size=none:=I1.hok.fresh (aL _)
 refine ⟨.ref s1.heap.objs.size,upd H1 s1.heap.objs.size (.lst xs),I1.laid (t':=s1.toks) (fun b u e=>Heap.get?_push_of_some _ e) (aL _) ?_,rfl,q _ hf⟩
 exact ⟨z,us,0,r,Heap.get?_push_size _ rfl⟩
end
abbrev Sp:=List V→Hp→VK→XK→Prop
abbrev CXT:=List Env→Hp→Shared→XK→Value→Shared→Prop
structure Env0 (P:Program) (w:World) (K:PySem.W.Frag) (mg:Str→Option Value) (base:Heap) (A:Around) (outer:List Env) (s:Shared) (H:Hp):Prop where
 frames:A.frames=some outer
 mod:Mod K mg base
 bs:∀ b o,base.get? b=some o→s.heap.get? b=some o∧H b=none
 bsz:base.objs.size ≤ s.heap.objs.size
 funs:s.heap.FunFrames base outer
 frf:∀ b ∈ frs outer,H b=none
 hok:HOk P w H s.heap
 bare:AllBare s.gens
def CE (outer:List Env) (P:Program) (w:World) (H:Hp) (s:Shared) (Q:VK) (u:Value) (s':Shared):Prop :=
 ∃ v H',s'.os=s.os∧AllBare s'.gens∧Un (frs outer) [] H H' s.heap s'.heap∧HOk P w H' s'.heap∧RelV v u∧Q v H'
def CR (CX:CXT) (outer:List Env) (P:Program) (w:World) (H:Hp) (s:Shared) (Q:VK) (E:XK) (r:Result) (s':Shared):Prop :=
 match r with
 | .ok (.ret u)=>CE outer P w H s Q u s'
 | .ok _=>False
 | .error e=>CX outer H s E e s'
structure FnOk (P:Program) (w:World) (K:PySem.W.Frag) (mg:Str→Option Value) (base:Heap) (CX:CXT) (k:Nat) (f:Addr) (fd:FuncData) (ps:List Str) (sp:Sp):Prop where
 len:∀ vs H Q E,sp vs H Q E→vs.length=ps.length
 run:∀ (A:Around) (outer:List Env) (s:Shared) (H:Hp) (args:Args) (us:List Value) (vs:List V) (Q:VK) (E:XK),Room k A→Env0 P w K mg base A outer s H→BindsTo s fd args (ps.zip us)→Vals vs us→sp vs H Q E →
  codeAny (model P w) A (.call (.ref f) args) (CR CX outer P w H s Q E) s
theorem FnOk.mono {CX:CXT} {k:Nat} {sp:Sp} (F:FnOk P w K mg base CX j f fd ps sp) (h:j ≤ k) :
 FnOk P w K mg base CX k f fd ps sp:=⟨F.len,fun A outer s H args us vs Q E hr=>F.run A outer s H args us vs Q E (hr.mono h)⟩
theorem FnOk.imp {CX:CXT} {k:Nat} {sp sp':Sp} (F:FnOk P w K mg base CX k f fd ps sp)
 (h:∀ vs H Q E,sp' vs H Q E→sp vs H Q E):FnOk P w K mg base CX k f fd ps sp' :=
 ⟨fun vs H Q E q=>F.len vs H Q E (h _ _ _ _ q),fun A outer s H args us vs Q E hr he hb hv hs=>F.run A outer s H args us vs Q E hr he hb hv (h _ _ _ _ hs)⟩
section
variable {X:Cx} {pins:List (Addr × Obj)} {σ:St} {H:Hp} {s s':Shared}
theorem Inv.env0 (I:Inv X pins σ H s):Env0 X.prog X.w X.K X.mg X.base X.A X.stack s H :=
 ⟨I.ok.frames,I.ok.mod,I.bs,aW I.ok.bsz I.sz,I.stack,I.stkFree,I.hok,I.bare⟩
theorem Inv.after {Q:VK} {u:Value} (I:Inv X pins σ H s) (h:CE X.stack X.prog X.w H s Q u s'):EP X pins σ Q u s':=by
 obtain ⟨v,H',os,bare,un,hok,r,q⟩:=h
 obtain ⟨hh,g,d,t,os'⟩:=s'
 obtain rfl:os'=s.os:=os
 exact ⟨v,H',I.call (h':=hh) (g':=g) (d':=d) (t':=t) (ch:=[]) un hok bare (fun b z=>absurd z (by simp)),r,q⟩
end
def SX (sp:Sp) (dvs:List V) (E:XK) (t:TA):TE:=fun σ H Q=>t σ H fun vs H1=>sp (vs++dvs) H1 Q E
def Binds (K:PySem.W.Frag) (fd:FuncData) (ps:List Str) (ds:List Value):Prop :=
 ∀ (s:Shared) (us:List Value),K.In s.heap→(us++ds).length=ps.length→BindsTo s fd ⟨us,[]⟩ (ps.zip (us++ds))
theorem Binds.all (h:∀ us:List Value,us.length=ps.length→bindArgs fd ⟨us,[]⟩=pure (ps.zip us)):Binds K fd ps []:=fun s us _ hl=>by
 rw [cH] at hl ⊢
 exact .of_eq (h us hl)
def Passes (CX:CXT) (X:Cx) (E:XK):Prop:=∀ (pins:List (Addr × Obj)) (σ:St) (H:Hp) (s:Shared) (e:Value) (s':Shared),Inv X pins σ H s→CX X.stack H s E e s'→X.xe e s'
section
variable {X:Cx} {CX:CXT} {k:Nat} {f C:Addr} {fd:FuncData} {ps:List Str} {sp:Sp} {dvs:List V} {ds:List Value} {E:XK} {x m:Str} {p pos apos:Pos} {e o:Expr} {es:List Expr} {ta:TE} {t:TA}
theorem Ui {σ:St} {Q:VK} (F:FnOk X.prog X.w X.K X.mg X.base CX k f fd ps sp) (hr:Room k X.A) (hb:Binds X.K fd ps ds) (hd:Vals dvs ds) (hx:Passes CX X E)
 (I:Inv X pins σ H s) (r:Vals vs us) (h:sp (vs++dvs) H Q E):wpAny (model X.prog X.w) X.A (call (.ref f) us) (EP X pins σ Q) X.xe s:=by
 have r2:Vals (vs++dvs) (us++ds):=r.append hd
 have hl:(us++ds).length=ps.length:=by rw [← r2.length];exact F.len _ _ _ _ h
 refine wpAny_call (codeAny_mono (F.run X.A X.stack s H ⟨us,[]⟩ (us++ds) (vs++dvs) Q E hr I.env0 (hb s us I.kIn hl) r2 h) fun r s' hq=>?_)
 cases r with
 | error e=>exact hx pins σ H s e s' I hq
 | ok fl =>
  cases fl with
  | ret u=>exact I.after hq
  | next=>exact False.elim hq
  | brk=>exact False.elim hq
  | cont=>exact False.elim hq
theorem Px (F:FnOk X.prog X.w X.K X.mg X.base CX k f fd ps sp) (hr:Room k X.A) (hg:Gl X x) (hm:X.mg x=some (.ref f)) (hk:PySem.W.keepIn X.K (.ref f)=true) (hb:Binds X.K fd ps ds) (hd:Vals dvs ds) (hx:Passes CX X E)
 (ha:PA X (e :: es) t) (hdb:(x == ("__debug__" : Str))=false:=by decide) (he:starEach (e :: es) X.env=(false,eval e X.env) :: starEach es X.env:=by rfl) (hpl:(backTo pos (starEach es X.env)).any (·.1)=false:=by rfl) :
 PE X (.Call (.Name x p) (e :: es) [] pos) (SX sp dvs E t):=by
 intro pins s σ H Q I h
 refine wpAny_Call_Name_kw (Gj I hg hm ?_ hdb)
 refine PySem.W.callWith_K (h₀:=X.base) I.ok.mod.kin hk (thn (ha pos pins s σ H _ I h) fun us s1 ⟨vs,H1,I1,r,q⟩=>⟨I1.kIn,?_⟩) he hpl
 exact Ui F hr hb hd hx I1 r q
structure Mk (K:PySem.W.Frag) (C f:Addr):Prop where
 makes:PySem.W.makesIn K C=true
 init:PySem.W.findIn K (.ref C) "__init__" = some (some (.ref f))
 fn:PySem.W.isFn K (.ref f)=true
 kp:PySem.W.keepIn K (.ref C)=true
end
section
variable {X:Cx} {CX:CXT} {k:Nat} {f C:Addr} {fd:FuncData} {ps ks:List Str} {sp:Sp} {E:XK} {x m:Str} {p pos apos kpos:Pos} {e o:Expr} {es:List Expr} {kws:List Keyword} {te ta:TE} {t tk:TA} {nm:Option Str}
structure KBinds (K:PySem.W.Frag) (fd:FuncData) (ps ks:List Str) (g:List Value→List Value→List Value) (gV:List V→List V→List V):Prop where
 to:∀ (s:Shared) (us ws:List Value),K.In s.heap→(g us ws).length=ps.length→BindsTo s fd ⟨us,ks.zip ws⟩ (ps.zip (g us ws))
 rel:∀ {vs:List V} {us:List Value} {zs:List V} {ws:List Value},Vals vs us→Vals zs ws→Vals (gV vs zs) (g us ws)
variable {g:List Value→List Value→List Value} {gV:List V→List V→List V}
end
structure FnScope (N P:List Str) (sc:Scope):Prop where
 kind:sc.kind = .function
 co:sc.isCoroutine=false
 gen:sc.isGenerator=false
 nd:N.Nodup
 pre:N.take P.length=P
 par:∀ x ∈ P,sc.names.lookup x=some .local∨sc.names.lookup x=some .cell
 nofree:∀ y ∈ sc.names,y.2 ≠ .free
theorem yr {kindOf:Str→Option NameKind}:∀ {binds:List (Str × Value)} {m:Str→Option Value},(∀ v,(x,v) ∉ binds)→bindL kindOf binds m x=m x
 | [],_,_=>rfl
 | (n,v) :: r,m,h=>by
  unfold bindL
  rw [yr fun w hw=>h w (aJ _ hw)]
  split
  ·have:x ≠ n:=by rintro rfl;exact h v aG
   simp [this]
  ·rfl
theorem yt {kindOf:Str→Option NameKind}:∀ {binds:List (Str × Value)} {m:Str→Option Value},(∀ v,(x,v) ∉ binds)→bindC kindOf binds m x=m x
 | [],_,_=>rfl
 | (n,v) :: r,m,h=>by
  unfold bindC
  rw [yt fun w hw=>h w (aJ _ hw)]
  split
  ·rfl
  ·have:x ≠ n:=by rintro rfl;exact h v aG
   simp [this]
theorem yu {kindOf:Str→Option NameKind} {v:Value}:∀ {P:List Str} {vs:List Value} {i:Nat} {m:Str→Option Value},P.Nodup→P[i]? = some x→vs[i]? = some v→kindOf x=some .local →
 bindL kindOf (P.zip vs) m x=some v
 | [],_,_,_,_,h,_,_=>by simp at h
 | _ :: _,[],_,_,_,_,h,_=>by simp at h
 | p :: P,w :: vs,0,m,nd,h1,h2,hk=>by
  simp at h1 h2;subst h1;subst h2
  show bindL kindOf ((p,w) :: P.zip vs) m p=_
  unfold bindL
  rw [yr fun v hv=>(gB.mp nd).1 (o8 hv).1,if_pos hk]
  simp
 | p :: P,w :: vs,i + 1,m,nd,h1,h2,hk=>by
  show bindL kindOf ((p,w) :: P.zip vs) m x=_
  unfold bindL
  exact yu (i:=i) (gB.mp nd).2 (by simpa using h1) (by simpa using h2) hk
theorem yw {kindOf:Str→Option NameKind} {v:Value}:∀ {P:List Str} {vs:List Value} {i:Nat} {m:Str→Option Value},P.Nodup→P[i]? = some x→vs[i]? = some v→kindOf x ≠ some .local →
 bindC kindOf (P.zip vs) m x=some v
 | [],_,_,_,_,h,_,_=>by simp at h
 | _ :: _,[],_,_,_,_,h,_=>by simp at h
 | p :: P,w :: vs,0,m,nd,h1,h2,hk=>by
  simp at h1 h2;subst h1;subst h2
  show bindC kindOf ((p,w) :: P.zip vs) m p=_
  unfold bindC
  rw [yt fun v hv=>(gB.mp nd).1 (o8 hv).1,if_neg hk]
  simp
 | p :: P,w :: vs,i + 1,m,nd,h1,h2,hk=>by
  show bindC kindOf ((p,w) :: P.zip vs) m x=_
  unfold bindC
  exact yw (i:=i) (gB.mp nd).2 (by simpa using h1) (by simpa using h2) hk
def start (N:List Str) (vs:List V):St:=vs.map some++bA (N.length - vs.length) none
def Bt (CX:CXT) (P:Program) (w:World) (K:PySem.W.Frag) (mg:Str→Option Value) (base:Heap) (N:List Str) (qual:Str) (scope:Scope) (f:Addr) (cd:Value) (A:Around) (outer:List Env) (s:Shared) (H:Hp) (E:XK):Cx where
 prog:=P
 w:=w
 K:=K
 mg:=mg
 base:=base
 A:=A.deeper (envOfC qual scope s.heap.objs.size f cd)
 N:=N
 s₀:=s
 H₀:=H
 env:=envOfC qual scope s.heap.objs.size f cd
 outer:=outer
 stack:=envOfC qual scope s.heap.objs.size f cd :: outer
 ex:=[]
 calm:=true
 fn:=fun _=>true
 pn:=[]
 xe:=fun e s'=>wpAny (model P w) (A.deeper (envOfC qual scope s.heap.objs.size f cd)) (leaving (envOfC qual scope s.heap.objs.size f cd) e) (fun _ s''=>CX outer H s E e s'') (fun e' s''=>CX outer H s E e' s'') s'
theorem Bu {sc:Scope} (h:sc.names.lookup x=some .cell):∃ c,(cellsFrom n sc.names []).lookup x=some c:=by
 have q:=PySem.W.cellsFrom_some sc.names n [] (.inl h)
 exact Option.isSome_iff_exists.mp q
theorem Im {CX:CXT} {qual:Str} {scope:Scope} {outer:List Env} {s1:Shared} {E:XK}
 (S:FnScope N ps scope) (hd:A.handled=none) (e0:Env0 P w K mg base A outer s H) (hl:vs.length=ps.length) (r:Vals vs us)
 (x:InCallC s s.heap.objs.size (bindL (envOfC qual scope s.heap.objs.size f cd).kindOf (ps.zip us) fun _=>none) (cellsFrom (s.heap.objs.size + 1) scope.names []) (bindC (envOfC qual scope s.heap.objs.size f cd).kindOf (ps.zip us) fun _=>none) s1) :
 Inv (Bt CX P w K mg base N qual scope f cd A outer s H E) [] (start N vs) H s1:=by
 have hpl:ps.length ≤ N.length:=by have:=congrArg kZ S.pre;rw [fY] at this;omega
 obtain ⟨h1,tk,rfl,hk⟩:=x.done
 have noA:∀ b:Addr,b ∉ (Bt CX P w K mg base N qual scope f cd A outer s H E).ex:=fun b z=>absurd (show b ∈ ([]:List Addr) from z) (by simp)
 refine ⟨⟨e0.mod,S.kind,rfl,rfl,aL _,fun y z c h1 h2=>?_,fun y hy=>?_,fun y c _ h=>?_,fun _=>hd,Around.frames_deeper e0.frames,.inr ⟨rfl,rfl⟩,fun b z=>absurd z (noA b),e0.bs,e0.bsz,fun b _ _=>noA b,fun b z=>absurd z (noA b),e0.funs,e0.frf⟩,
  rfl,e0.bare,Un.kept hk,⟨_,x.toInCall.ns,fun i y v h1 h2 h3=>?_⟩,fun y c h=>⟨_,x.cell y c h⟩,e0.hok.fresh (aL _),fun y c h=>?_,fun p hp=>absurd (show p ∈ ([]:List (Addr × Obj)) from hp) (by simp),e0.hok.kept hk,?_⟩
 ·exact name_of_addr x.apart (PySem.mem_of_lookup h1) (PySem.mem_of_lookup h2)
 ·have hy:scope.names.lookup y=some .cell∨scope.names.lookup y=some .free:=hy
  rcases hy with hy | hy
  ·exact Bu hy
  ·exact absurd rfl (S.nofree _ (PySem.mem_of_lookup hy))
 ·exact dj (x.above y c (PySem.mem_of_lookup h))
 ·have hi:i < vs.length:=by
   unfold start at h2
   by_cases hi:i < vs.length
   ·exact hi
   ·rw [cF (by simpa using hi)] at h2
    rw [fH] at h2
    split at h2 <;> cases h2
  have ha:vs[i]? = some v:=by
   unfold start at h2
   rw [cR (by simpa using hi),aO] at h2
   cases e:vs[i]? with
   | none=>rw [e] at h2;cases h2
   | some a=>rw [e] at h2;cases h2;rfl
  obtain ⟨u,hu,rv⟩:=r.get ha
  have hp:ps[i]? = some y:=by
   rw [← S.pre,List.getElem?_take_of_lt (by omega)];exact h1
  have ndP:ps.Nodup:=by rw [← S.pre];exact S.nd.sublist (List.take_sublist _ _)
  refine ⟨u,rv,?_⟩
  rcases S.par y (fj hp) with k | k
  ·exact .inl ⟨k,yu ndP hp hu k⟩
  ·obtain ⟨c,e⟩:=Bu (n:=s.heap.objs.size + 1) k
   refine .inr ⟨.inl k,c,e,?_⟩
   have q:=x.cell y c e
   rw [yw ndP hp hu (by show scope.names.lookup y ≠ _;rw [k];decide)] at q
   exact q
 ·exact e0.hok.fresh (dj (x.above y c (PySem.mem_of_lookup h)))
 ·unfold start
  show _=N.length
  rw [bK,aC,bO]
  omega
theorem S5 {CX:CXT} {k:Nat} {name qual:Str} {params:Arguments} {body:List Stmt} {scope:Scope} {dV kV doc cdv:Value}
 {osl:Array (Option Value)} {sp:Sp} (lk:K.lookup f=some ⟨oc,od,.func (PySem.W.fnOf name qual params body scope dV kV doc pm an cdv ct),osl⟩) (hcd:PySem.W.codeIn K cdv qual=true) (S:FnScope N ps scope)
 (len:∀ vs H Q E,sp vs H Q E→vs.length=ps.length)
 (hbody:∀ (A:Around) (outer:List Env) (s:Shared) (H:Hp) (vs:List V) (Q:VK) (E:XK),Room k (A.deeper (envOfC qual scope s.heap.objs.size f cdv))→sp vs H Q E →
  ∃ t,PSs (Bt CX P w K mg base N qual scope f cdv A outer s H E) body t∧t { nx:=fun _ H'=>Q .non H',rt:=Q } (start N vs) H) :
 FnOk P w K mg base CX (k + 1) f (PySem.W.fnOf name qual params body scope dV kV doc pm an cdv ct) ps sp:=by
 refine ⟨len,fun A outer s H args us vs Q E hr e0 hb r hsp=>?_⟩
 have hl:=len _ _ _ _ hsp
 have KX:K.In s.heap:=e0.mod.kin.keeps fun b o e=>(e0.bs b o e).1
 have lim:s.heap.NoLimit:=e0.mod.nolimit.keeps fun b o e=>(e0.bs b o e).1
 have hkind:∀ y ∈ ps.zip us,scope.names.lookup y.1=some .local∨(scope.names.lookup y.1=some .cell∧((cellsFrom (s.heap.objs.size + 1) scope.names []).lookup y.1).isSome=true):=fun ⟨n,v⟩ hy=>by
  rcases S.par n (o8 hy).1 with q | q
  ·exact .inl q
  ·exact .inr ⟨q,PySem.W.cellsFrom_some _ _ _ (.inl q)⟩
 refine codeAny_call_function hr.depth (KX _ _ lk) rfl S.co S.gen rfl (PySem.W.codeRec_of KX hcd) (hb _ _ _ _ ?_)
 refine wpAny_newFunctionEnv_cells S.kind hkind fun env he s1 x=>?_
 subst he
 refine ⟨lim.keeps x.toInCall.keep,codeAny_func ?_⟩
 obtain ⟨t,ht,hq⟩:=hbody A outer s H vs Q E (hr.deeper _) hsp
 have I:Inv (Bt CX P w K mg base N qual scope f cdv A outer s H E) [] (start N vs) H s1:=Im S hr.hd e0 hl r x
 refine wpAny_mono (ht [] s1 (start N vs) H _ I hq) (fun fl s' hs=>?_) fun e s' hs=>hs
 have fin:∀ {σ':St} {H':Hp} {v:V} {u:Value},Inv (Bt CX P w K mg base N qual scope f cdv A outer s H E) [] σ' H' s'→RelV v u→Q v H'→CE outer P w H s Q u s' :=
  fun {σ' H' v u} J rv q=>⟨v,H',J.os,J.bare,J.base,J.hok,rv,q⟩
 cases fl with
 | ret u =>
  obtain ⟨v,σ',H',J,rv,q⟩:=hs
  exact fin J rv q
 | next =>
  obtain ⟨σ',H',J,q⟩:=hs
  exact fin (v:=V.non) (u:=Value.none) J rfl q
 | brk =>
  obtain ⟨_,_,_,q⟩:=hs
  exact False.elim q
 | cont =>
  obtain ⟨_,_,_,q⟩:=hs
  exact False.elim q
end L2
namespace L2
open PySem PySem.Spec PyProof.Rows
section
variable {X:Cx} {x:Str} {p pos:Pos} {e:Expr} {es:List Expr} {t:TA} {id T:String} {r:List V→Hp→VK→Prop}
def tCB (r:List V→Hp→VK→Prop) (t:TA):TE:=fun σ H Q=>t σ H fun vs H1=>r vs H1 Q
theorem pP (hc:jY X (.builtin id) r) (hg:Gl X x) (hm:X.mg x=none) (hv:bootBuiltins x=some (.builtin id)) (ha:PA X (e :: es) t) (hn:x ≠ "__name__" := by decide) (hdb:(x == ("__debug__" : Str))=false:=by decide)
 (he:starEach (e :: es) X.env=(false,eval e X.env) :: starEach es X.env:=by rfl) (hpl:(backTo pos (starEach es X.env)).any (·.1)=false:=by rfl):PE X (.Call (.Name x p) (e :: es) [] pos) (tCB r t):=by
 intro pins s σ H Q I h
 refine wpAny_Call_Name_kw (lA I hg hm hv ?_ hn hdb)
 exact PyProof.Rows.callWith_builtin1 (thn (ha pos pins s σ H _ I h) fun us s1 ⟨vs,H1,I1,r1,q1⟩=>hc pins s1 σ H1 vs us Q I1 r1 q1) he hpl
theorem mz (hc:jY X (.type T) r) (hg:Gl X x) (hm:X.mg x=none) (hv:bootBuiltins x=some (.type T)) (ha:PA X (e :: es) t) (hn:x ≠ "__name__" := by decide) (hdb:(x == ("__debug__" : Str))=false:=by decide)
 (he:starEach (e :: es) X.env=(false,eval e X.env) :: starEach es X.env:=by rfl) (hpl:(backTo pos (starEach es X.env)).any (·.1)=false:=by rfl):PE X (.Call (.Name x p) (e :: es) [] pos) (tCB r t):=by
 intro pins s σ H Q I h
 refine wpAny_Call_Name_kw (lA I hg hm hv ?_ hn hdb)
 exact PyProof.Rows.callWith_type1 (thn (ha pos pins s σ H _ I h) fun us s1 ⟨vs,H1,I1,r1,q1⟩=>hc pins s1 σ H1 vs us Q I1 r1 q1) he hpl
end
end L2
variable {vl vu:Value} {lo hi:Option Int}
namespace HT
open PySem PyProof.Rows
section
open PySem.SeqAt
open PySem.AutoSeq1 (wpAny_loadPart')
open PySem.MeetsSeq PySem.MeetsSeq2 PySem.MeetsSeq3
end
section
variable {prog:Program} {w:World} {A:Around} {E:Value→Shared→Prop} {s:Shared}
def sIx (n d:Nat):Option Int→Nat
 | none=>d
 | some v=>if v < 0 then (v + (n:Int)).toNat else min v.toNat n
theorem Uj (n d:Nat) (hd:d ≤ n) (o:Option Int):sIx n d o ≤ n:=by
 cases o with
 | none=>exact hd
 | some v =>
  show (if v < 0 then (v + (n:Int)).toNat else min v.toNat n) ≤ n
  by_cases hv:v < 0
  ·rw [if_pos hv];omega
  ·rw [if_neg hv];exact Nat.min_le_right _ _
theorem Gm (v:Int) (n d:Nat):(if v < 0 then max (v + (n:Int)) 0 else min v (n:Int))=((sIx n d (some v):Nat):Int):=by
 show (if v < 0 then max (v + (n:Int)) 0 else min v (n:Int))=(((if v < 0 then (v + (n:Int)).toNat else min v.toNat n):Nat):Int)
 by_cases hv:v < 0
 ·simp only [if_pos hv];omega
 ·simp only [if_neg hv];omega
theorem Ej (lo hi:Option Int) (n:Nat):Builtin.Slice.sliceAdjust lo hi 1 (n:Int)=(((sIx n 0 lo:Nat):Int),((sIx n n hi:Nat):Int)):=by
 have h1:¬ ((1:Int) < 0):=by omega
 unfold Builtin.Slice.sliceAdjust
 simp only [h1,if_false]
 refine Prod.ext ?_ ?_
 ·cases lo with
  | none=>rfl
  | some v=>exact Gm v n 0
 ·cases hi with
  | none=>rfl
  | some v=>exact Gm v n n
theorem rE (i j:Nat):Builtin.Slice.slicePlaces (i:Int) (j:Int) 1=j - i:=by
 unfold Builtin.Slice.slicePlaces
 have h1:(1:Int) > 0:=by omega
 simp only [h1,if_true,Int.ediv_one]
 split <;> omega
theorem vQ {v:Value} {o:Option Int} {Q:Option Int→Shared→Prop} (p:IsPart v o) (h:Q o s):wpAny (model prog w) A (Builtin.Slice.slicePartIndex v) Q E s:=by
 cases p with
 | none=>exact slicePart_none h
 | int i t=>exact slicePart_int h
theorem nM {sl:Addr} {Q:Int × Int × Nat→Shared→Prop} (hs:s.heap.IsSliceOf sl vl vu .none) (pl:IsPart vl lo) (pu:IsPart vu hi)
 (h:Q (((sIx n 0 lo:Nat):Int),1,sIx n n hi - sIx n 0 lo) s):wpAny (model prog w) A (Builtin.Slice.sliceApplied (.ref sl) (pure (n:Int))) Q E s:=by
 obtain ⟨os,hos,hcs,hds⟩:=id hs
 unfold Builtin.Slice.sliceApplied Builtin.Slice.sliceFields
 refine wpAny_bind (wpAny_bind (wpAny_field hos hds (x:=vl) rfl (wpAny_bind (wpAny_field hos hds (x:=vu) rfl (wpAny_bind (wpAny_field hos hds (x:=.none) rfl (wpAny_pure ?_)))))))
 refine wpAny_bind (slicePart_none ?_)
 show wpAny _ _ (if ((1:Int) == 0)=true then _ else _) _ _ s
 rw [if_neg (by decide)]
 refine wpAny_bind (vQ pl (wpAny_bind (vQ pu (wpAny_bind (wpAny_pure ?_)))))
 show wpAny _ _ (match Builtin.Slice.sliceAdjust lo hi 1 (n:Int) with | (lo,hi)=>pure (lo,(1:Int),Builtin.Slice.slicePlaces lo hi 1)) _ _ s
 rw [Ej lo hi n]
 show wpAny _ _ (pure (((sIx n 0 lo:Nat):Int),(1:Int),Builtin.Slice.slicePlaces ((sIx n 0 lo:Nat):Int) ((sIx n n hi:Nat):Int) 1)) _ _ s
 rw [rE]
 exact wpAny_pure h
theorem Kc (xs:Array Value) (i k:Nat):((aZ k).filterMap fun (m:Nat)=>xs[((i:Int) + (m:Int) * 1).toNat]?).toArray=((xs.toList.drop i).take k).toArray:=by
 have e:(fun (m:Nat)=>xs[((i:Int) + (m:Int) * 1).toNat]?)=fun m=>xs[i + m]?:=by
  funext m
  have:((i:Int) + (m:Int) * 1).toNat=i + m:=by omega
  rw [this]
 rw [e]
 have:=pick_run xs i k
 rw [List.filterMap_map] at this
 have e2:((fun x=>xs[x]?) ∘ fun x=>i + x)=fun m=>xs[i + m]?:=rfl
 rw [e2] at this
 rw [this]
theorem sI {t sl:Addr} {items:Array Value} (ht:IsTup s.heap t items) (hs:s.heap.IsSliceOf sl vl vu .none) (pl:IsPart vl lo) (pu:IsPart vu hi)
 (hw:¬ (sIx items.size 0 lo=0∧sIx items.size items.size hi=items.size))
 (h:Q (.ref s.heap.objs.size) { s with heap:=s.heap.push { cls:=.type "tuple", data:=.seq ((items.toList.drop (sIx items.size 0 lo)).take (sIx items.size items.size hi - sIx items.size 0 lo)).toArray } })
 (hsz:items.size ≤ sizeLine):wpAny (model prog w) A (getItem (.ref t) (.ref sl)) Q E s:=by
 have htake:sizeOk (.seq ((items.toList.drop (sIx items.size 0 lo)).take (sIx items.size items.size hi - sIx items.size 0 lo)).toArray):=by
  show ((items.toList.drop (sIx items.size 0 lo)).take (sIx items.size items.size hi - sIx items.size 0 lo)).toArray.size ≤ sizeLine
  rw [aU,fY,nD,bI]
  omega
 have hj:sIx items.size items.size hi ≤ items.size:=Uj _ _ (aL _) hi
 obtain ⟨os,hos,hcs,hds⟩:=id hs
 have hTs:s.TypeIs (.ref sl) "slice" := ⟨os,hos,hcs⟩
 unfold getItem
 try with_reducible refine wpAny_holding ?_
 first | refine wpAny_bind (wpAny_pure ?_) | skip
 refine wpAny_bind (wpAny_sequenceKey ht.typeIs (by decide) ?_)
 refine wpAny_bind (wpAny_callSpecial?_slot (name:=Str.ofString "__getitem__") ht.typeIs PyProof.Rows.slot_tuple_getitem
  (wpAny_call_entry PyProof.Rows.slot_tuple_getitem ht.typeIs entry_tuple_getitem ?_ (args_tuple_getitem _ _)))
 show wpAny _ _ (Builtin.Tuple.tupleItemsOf (.ref t) >>= _) _ _ s
 refine wpAny_bind (tupleItemsOf_ ht ?_)
 refine wpAny_bind (wpAny_typeOf hTs ?_)
 rw [if_pos (by decide)]
 refine wpAny_bind (nM hs pl pu ?_)
 have hno:¬ ((((sIx items.size 0 lo:Nat):Int) == 0 && (1:Int) == 1 && (sIx items.size items.size hi - sIx items.size 0 lo) == items.size)=true):=by
  intro q
  rw [bw,bw] at q
  have q1:((sIx items.size 0 lo:Nat):Int)=0:=eq_of_beq q.1.1
  have q2:sIx items.size items.size hi - sIx items.size 0 lo=items.size:=eq_of_beq q.2
  exact hw ⟨by omega,by omega⟩
 show wpAny _ _ (if (((sIx items.size 0 lo:Nat):Int) == 0 && (1:Int) == 1 && (sIx items.size items.size hi - sIx items.size 0 lo) == items.size)=true then _ else _) _ _ s
 rw [if_neg hno,Kc]
 first
  | exact wpAny_bind (m:=Builtin.Tuple.tupleExact _) (wpAny_newObj_type (wpAny_pure ⟨_,rfl,wpAny_pure h⟩) htake)
  | exact wpAny_bind (m:=Builtin.Tuple.tupleExact _) (wpAny_newObj_type (wpAny_bind (wpAny_pure (wpAny_pure ⟨_,rfl,wpAny_pure h⟩))) htake)
  | exact wpAny_bind (wpAny_bind (m:=Builtin.Tuple.tupleExact _) (wpAny_newObj_type (wpAny_pure (wpAny_pure ⟨_,rfl,wpAny_pure h⟩)) htake))
  | exact wpAny_bind (wpAny_bind (m:=Builtin.Tuple.tupleExact _) (wpAny_newObj_type (wpAny_pure ⟨_,rfl,wpAny_pure h⟩) htake))
end
end HT
namespace L2
open PySem PySem.Spec PyProof.Rows
abbrev TO:=St→Hp→(Option Int→Hp→Prop)→Prop
def PO (X:Cx) (e:Option Expr) (t:TO):Prop :=
 ∀ (pins:List (Addr × Obj)) (s:Shared) (σ:St) (H:Hp) (Q:Option Int→Hp→Prop),Inv X pins σ H s→t σ H Q →
  wpAny (model X.prog X.w) X.A (evalPart e X.env) (fun u s'=>∃ o H',Inv X pins σ H' s'∧IsPart u o∧Q o H') X.xe s
def Py:TO:=fun _ H Q=>Q none H
def W9 (t:TE):TO:=fun σ H Q=>t σ H fun x H1=>∃ i,x = .int i∧Q (some i) H1
section
variable {X:Cx} {e:Expr} {te:TE} {lo hi:Option Expr} {tl th:TO} {pos p2:Pos}
theorem Pz:PO X none Py:=by
 intro pins s σ H Q I h
 rw [evalPart_none]
 exact wpAny_pure ⟨none,H,I,.none,h⟩
theorem PB (h:PE X e te):PO X (some e) (W9 te):=by
 intro pins s σ H Q I hw
 rw [evalPart_some]
 refine thn (h pins s σ H _ I hw) fun u s1 ⟨x,H1,I1,r1,q1⟩=>?_
 obtain ⟨i,rfl,q⟩:=q1
 obtain ⟨t,rfl⟩:=r1
 exact ⟨some i,H1,I1,.int i t,q⟩
def SlR (X:Cx) (r:V→Option Int→Option Int→Hp→VK→Prop):Prop :=
 ∀ (pins:List (Addr × Obj)) (s:Shared) (σ:St) (H:Hp) (x:V) (v vl vu:Value) (lo hi:Option Int) (sl:Addr) (Q:VK),Inv X pins σ H s→RelV x v→s.heap.IsSliceOf sl vl vu .none→IsPart vl lo→IsPart vu hi→r x lo hi H Q →
  ∃ T id,typeLookup (.type T) "__getitem__" = pure (some (.builtin id))∧s.TypeIs v T∧wpAny (model X.prog X.w) X.A (getItem v (.ref sl)) (EP X pins σ Q) X.xe s
theorem SlR.or {r r':V→Option Int→Option Int→Hp→VK→Prop} (h:SlR X r) (h':SlR X r'):SlR X (fun x lo hi H Q=>r x lo hi H Q∨r' x lo hi H Q):=by
 intro pins s σ H x v vl vu lo hi sl Q I rx hs pl pu q
 rcases q with q | q
 ·exact h pins s σ H x v vl vu lo hi sl Q I rx hs pl pu q
 ·exact h' pins s σ H x v vl vu lo hi sl Q I rx hs pl pu q
def tSl (r:V→Option Int→Option Int→Hp→VK→Prop) (te:TE) (tl th:TO):TE:=fun σ H Q=>te σ H fun x H1=>tl σ H1 fun l H2=>th σ H2 fun u H3=>r x l u H3 Q
theorem Bv {r:V→Option Int→Option Int→Hp→VK→Prop} (hr:SlR X r) (he:PE X e te) (hl:PO X lo tl) (hu:PO X hi th):PE X (.Subscript e (.Slice lo hi none p2) pos) (tSl r te tl th):=by
 intro pins s σ H Q I h
 refine Subscript_ (thn (he pins s σ H _ I h) fun v s1 ⟨x,H1,I1,r1,q1⟩=>?_)
 refine wpAny_Slice (thn (hl pins s1 σ H1 _ I1 q1) fun vl s2 ⟨l,H2,I2,pl,q2⟩=>thn (hu pins s2 σ H2 _ I2 q2) fun vu s3 ⟨u,H3,I3,pu,q3⟩=>?_)
 rw [evalPart_none]
 refine wpAny_pure ?_
 have I4:Inv X pins σ H3 { s3 with heap:=s3.heap.push { cls:=.type "slice", data:=.fields #[vl,vu,.none] } }:=I3.kept (t':=s3.toks) fun b ob q=>Heap.get?_push_of_some _ q
 obtain ⟨T,id,hT,ht,hg⟩:=hr pins { s3 with heap:=s3.heap.push { cls:=.type "slice", data:=.fields #[vl,vu,.none] } } σ H3 x v vl vu l u s3.heap.objs.size Q I4 r1 (Heap.IsSliceOf.new ..) pl pu q3
 show wpAny (model X.prog X.w) X.A (subscriptTail e (.Slice lo hi none p2) v (.ref s3.heap.objs.size)) (EP X pins σ Q) X.xe { s3 with heap:=s3.heap.push { cls:=.type "slice", data:=.fields #[vl,vu,.none] } }
 exact tail_any (ops:=[.ref s3.heap.objs.size,v]) ht hT hg (by with_unfolding_all rfl)
def Bw (xs:List V) (lo hi:Option Int):List V:=(xs.drop (HT.sIx xs.length 0 lo)).take (HT.sIx xs.length xs.length hi - HT.sIx xs.length 0 lo)
theorem uN (xs:List V) (lo hi:Option Int):(Bw xs lo hi).length ≤ xs.length:=by
 unfold Bw
 rw [fY,nD]
 omega
def Zi (K:PySem.W.Frag):V→Option Int→Option Int→Hp→VK→Prop:=fun x lo hi H Q=>∃ a xs,x = .ref a∧SqT K H a xs ∧
 ¬ (HT.sIx xs.length 0 lo=0∧HT.sIx xs.length xs.length hi=xs.length)∧∀ p,H p=none→Q (.ref p) (upd H p (.tup (Bw xs lo hi)))
theorem Uk:SlR X (Zi X.K):=by
 intro pins s σ H x v vl vu lo hi sl Q I rx hs pl pu h
 obtain ⟨a,xs,rfl,hx,hw,q⟩:=h
 cases rx
 obtain ⟨its,r,ht,hz⟩:=I.tuple hx
 have hlen:its.toArray.size=xs.length:=by rw [aU];exact r.length.symm
 refine ⟨"tuple", _,PyProof.Rows.slot_tuple_getitem.lookup,ht.typeIs,?_⟩
 refine HT.sI ht hs pl pu (by rw [hlen];exact hw) ?_ (by rw [hlen];exact hz)
 rw [hlen]
 refine ⟨.ref s.heap.objs.size,_,I.laid (t':=s.toks) (o:=.tup (Bw xs lo hi)) (fun b ob q=>Heap.get?_push_of_some _ q) (aL _) ?_,rfl,q _ (I.hok.fresh (aL _))⟩
 exact ⟨aW (uN xs lo hi) hz,_,(r.drop (HT.sIx xs.length 0 lo)).take (HT.sIx xs.length xs.length hi - HT.sIx xs.length 0 lo),IsTup.new _ _⟩
end
end L2
variable {r r':L2.R2} {xs:List L2.V} {T:String}
namespace L2
open PySem PySem.Spec PyProof.Rows
def ixN (n:Nat) (i:Int):Option Nat:=if 0 ≤ i then (if i < n then some i.toNat else none) else if -(n:Int) ≤ i then some (i + n).toNat else none
def atI {α:Type} (xs:List α) (i:Int):Option α:=(ixN xs.length i).bind fun j=>xs[j]?
theorem Gn {i:Int} (h:ixN n i=some j):seqIndex? i n=some j∧j < n∧-(n:Int) ≤ i∧i < n:=by
 unfold ixN at h
 by_cases h0:0 ≤ i
 ·rw [if_pos h0] at h
  by_cases h1:i < n
  ·rw [if_pos h1] at h
   have e:i.toNat=j:=b_.inj h
   exact ⟨by rw [seqIndex_of h0 h1,e],by omega,by omega,h1⟩
  ·rw [if_neg h1] at h;cases h
 ·rw [if_neg h0] at h
  by_cases h1 : -(n:Int) ≤ i
  ·rw [if_pos h1] at h
   have e:(i + n).toNat=j:=b_.inj h
   exact ⟨by rw [seqIndex_neg (by omega) h1,e],by omega,h1,by omega⟩
  ·rw [if_neg h1] at h;cases h
theorem vh {α:Type} {xs:List α} {i:Int} {v:α} (h:atI xs i=some v):∃ j,seqIndex? i xs.length=some j∧xs[j]? = some v∧j < xs.length∧-(xs.length:Int) ≤ i∧i < xs.length:=by
 unfold atI at h
 cases e:ixN xs.length i with
 | none=>rw [e] at h;cases h
 | some j =>
  rw [e] at h
  obtain ⟨h1,h2,h3,h4⟩:=Gn e
  exact ⟨j,h1,h,h2,h3,h4⟩
def zx (b:Expr):Prop:=∀ o i,subscripted b false o i=operate [o,i] (getItem o i)
def IxR (X:Cx) (r:R2):Prop :=
 ∀ (value slice:Expr) (pins:List (Addr × Obj)) (s:Shared) (σ:St) (H:Hp) (x y:V) (v u:Value) (Q:VK),Inv X pins σ H s→RelV x v→RelV y u→r x y H Q →
  subscripted slice false v u=operate [v,u] (getItem v u)→wpAny (model X.prog X.w) X.A (subscriptTail value slice v u) (EP X pins σ Q) X.xe s
def MtR (X:Cx) (id:String) (r:V→List V→Hp→VK→Prop):Prop :=
 ∀ (pins:List (Addr × Obj)) (s:Shared) (σ:St) (H:Hp) (x:V) (xs:List V) (v:Value) (us:List Value) (Q:VK),Inv X pins σ H s→RelV x v→Vals xs us→r x xs H Q →
  wpAny (model X.prog X.w) X.A (call (.builtin id) (v :: us)) (EP X pins σ Q) X.xe s
section
variable {X:Cx} {a b:Expr} {ta tb:TE} {pos:Pos}
theorem IxR.or (h:IxR X r) (h':IxR X r'):IxR X (fun x y H Q=>r x y H Q∨r' x y H Q):=by
 intro value slice pins s σ H x y v u Q I rx ry q hs
 rcases q with q | q
 ·exact h value slice pins s σ H x y v u Q I rx ry q hs
 ·exact h' value slice pins s σ H x y v u Q I rx ry q hs
theorem W_ (hr:IxR X r) (ha:PE X a ta) (hb:PE X b tb) (hs:zx b):PE X (.Subscript a b pos) (tOp r ta tb):=by
 intro pins s σ H Q I h
 exact Subscript_ (Uc ha hb I h fun v u s2 x y H2 I2 rx ry q=>hr a b pins s2 σ H2 x y v u Q I2 rx ry q (hs _ _))
def Xa (K:PySem.W.Frag):R2:=fun x y H Q=>∃ p xs i v,x = .ref p∧y = .int i∧SqL K H p xs∧atI xs i=some v∧Q v H
def Xb (K:PySem.W.Frag):R2:=fun x y H Q=>∃ p xs i v,x = .ref p∧y = .int i∧SqT K H p xs∧atI xs i=some v∧Q v H
def Xc:R2:=fun x y H Q=>∃ z i c,x = .str z∧y = .int i∧z.length ≤ sizeLine∧atI z.cps.toList i=some c∧Q (.str ⟨#[c]⟩) H
theorem PJ:IxR X (Xa X.K):=by
 intro value slice pins s σ H x y v u Q I rx ry h hs
 obtain ⟨p,xs,i,z,rfl,rfl,hq,he,q⟩:=h
 cases rx
 obtain ⟨t,rfl⟩:=ry
 obtain ⟨its,r,pl,hz⟩:=I.list hq
 obtain ⟨j,h1,h2,h3,h4,h5⟩:=vh he
 obtain ⟨w,ew,rw'⟩:=r.get h2
 have hl:=r.length
 have hn:=tZ
 have fin:EP X pins σ Q w s:=⟨z,H,I,rw',q⟩
 by_cases h0:0 ≤ i
 ·have hj:i.toNat=j:=by
   rw [seqIndex_of h0 h5] at h1
   exact b_.inj h1
  exact item_listR pl.isList h0 (by omega) (by rw [hj];simpa using ew) fin hs
 ·have hj:(i + (its.toArray.size:Int)).toNat=j:=by
   rw [seqIndex_neg (by omega) h4] at h1
   rw [aU,← hl]
   exact b_.inj h1
  exact subscriptTail_builtinR (x:=w) pl.isList.typeIs slot_list_getitem.lookup
   (wpAny_getItem_list_neg (Q:=fun r s'=>r=w∧EP X pins σ Q r s') pl.isList (by omega) (by rw [aU] <;> omega) (by omega) (by rw [hj];simpa using ew) ⟨rfl,fin⟩) hs
theorem Ul:IxR X (Xb X.K):=by
 intro value slice pins s σ H x y v u Q I rx ry h hs
 obtain ⟨p,xs,i,z,rfl,rfl,hq,he,q⟩:=h
 cases rx
 obtain ⟨t,rfl⟩:=ry
 obtain ⟨its,r,pl,hz⟩:=I.tuple hq
 obtain ⟨j,h1,h2,h3,h4,h5⟩:=vh he
 obtain ⟨w,ew,rw'⟩:=r.get h2
 have hl:=r.length
 have hn:=tZ
 have fin:EP X pins σ Q w s:=⟨z,H,I,rw',q⟩
 exact subscriptTail_builtinR (x:=w) pl.typeIs slot_tuple_getitem.lookup
  (getItem_tuple (j:=j) (Q:=fun r s'=>r=w∧EP X pins σ Q r s') pl (by omega) (by omega) (by rw [aU,← hl];exact h1) (by simpa using ew) ⟨rfl,fin⟩) hs
theorem Um:IxR X Xc:=by
 intro value slice pins s σ H x y v u Q I rx ry h hs
 obtain ⟨z,i,c,rfl,rfl,hz,he,q⟩:=h
 obtain ⟨t,rfl⟩:=rx
 obtain ⟨t',rfl⟩:=ry
 obtain ⟨j,h1,h2,h3,h4,h5⟩:=vh he
 have hl:z.cps.toList.length=z.length:=by simp [Str.length]
 rw [hl] at h1 h4 h5
 have hn:=tZ
 exact tail_any (typeIs_str s z t) slot_str_getitem.lookup (getItem_str (c:=c) (by
  have e1:decide (i < -(2 ^ 63:Int))=false:=dFa (by omega)
  have e2:decide (i ≥ 2 ^ 63)=false:=dFa (by omega)
  rw [e1,e2,Bool.or_false]) (by rw [h1];simpa using h2) ⟨.str ⟨#[c]⟩,H,I.tok _,⟨_,rfl⟩,q⟩) hs
def rIx (K:PySem.W.Frag):R2:=fun x y H Q=>Xa K x y H Q∨Xb K x y H Q∨Xc x y H Q
theorem Uo:IxR X (rIx X.K):=PJ.or (Ul.or Um)
theorem Ek (its:List Value) (n j:Nat) (u:Value):Obj.mapSeq (·.setIfInBounds j u) { cls:=.type "list", data:=.seq its.toArray n } = { cls:=.type "list", data:=.seq (its.set j u).toArray n }:=by
 simp [Obj.mapSeq]
theorem Inv.lst {pins:List (Addr × Obj)} {σ:St} {H:Hp} {s:Shared} {p:Addr} {xs:List V} (I:Inv X pins σ H s) (h:H p=some (.lst xs)) :
 ∃ (its:List Value) (n:Nat),Vals xs its∧s.heap.get? p=some { cls:=.type "list", data:=.seq its.toArray n }∧xs.length ≤ sizeLine:=by
 obtain ⟨z,its,n,r,e⟩:=I.hok p _ h
 exact ⟨its,n,r,e,z⟩
theorem Inv.lstUpd {σ:St} {p:Addr} {ys:List V} {its its':List Value} {n':Nat} {f:Obj→Obj} (I:Inv X pins σ H s) (h:H p=some (.lst xs))
 (ho:s.heap.get? p=some { cls:=.type "list", data:=.seq its.toArray n }) (hf:f { cls:=.type "list", data:=.seq its.toArray n } = { cls:=.type "list", data:=.seq its'.toArray n' }) (r:Vals ys its') (hz:ys.length ≤ sizeLine) (t:Nat) :
 Inv X pins σ (upd H p (.lst ys)) { s with heap:=s.heap.update p f,toks:=t }:=by
 have e:(s.heap.update p f).get? p=some { cls:=.type "list", data:=.seq its'.toArray n' }:=by
  rw [Heap.get?_update_self f ho (by rw [hf] <;> rfl),hf]
 refine I.write (x:=p) (e:=p) (by rw [h];trivial) (.inl rfl) (fun b u hb q=>(Heap.get?_update_other _ _ (Ne.symm hb)).trans q) ⟨_,e⟩ ?_
 exact ⟨hz,its',n',r,e⟩
def Xd:V→V→V→Hp→(Hp→Prop)→Prop:=fun o i v H Q=>∃ p xs k j,o = .ref p∧i = .int k∧H p=some (.lst xs)∧ixN xs.length k=some j∧Q (upd H p (.lst (xs.set j v)))
theorem set_list:W0 X Xd:=by
 intro pins s σ H o i v ov iv u Q I ro ri rv h
 obtain ⟨p,xs,k,j,rfl,rfl,hp,hj,q⟩:=h
 cases ro
 obtain ⟨t,rfl⟩:=ri
 obtain ⟨its,n,r,ho,hz⟩:=I.lst hp
 obtain ⟨h1,h2,h3,h4⟩:=Gn hj
 have hl:=r.length
 have hn:=tZ
 have I':Inv X pins σ (upd H p (.lst (xs.set j v))) { s with heap:=s.heap.update p (Obj.mapSeq (·.setIfInBounds j u)) } :=
  I.lstUpd hp ho (Ek its n j u) (r.set rv j) (by rw [cM];exact hz) s.toks
 by_cases h0:0 ≤ k
 ·have hk:k.toNat=j:=by
   rw [seqIndex_of h0 h4] at h1
   exact b_.inj h1
  exact PySem.W.ki_setAt ho h0 (by omega) (by rw [aU,← hl];exact h4) (by rw [hk];exact ⟨_,I',q⟩)
 ·have hk:(k + (its.toArray.size:Int)).toNat=j:=by
   rw [seqIndex_neg (by omega) h3] at h1
   rw [aU,← hl]
   exact b_.inj h1
  exact PySem.W.ki_setBack ho (by omega) (by rw [aU,← hl];exact h3) (by omega) (by rw [hk];exact ⟨_,I',q⟩)
theorem zy (lo hi:Option Int) (n:Nat):(sliceBounds lo hi none n).1=((HT.sIx n 0 lo:Nat):Int)∧(sliceBounds lo hi none n).2.1=((HT.sIx n n hi:Nat):Int)∧(sliceBounds lo hi none n).2.2=1:=by
 refine ⟨?_,?_,rfl⟩
 ·cases lo with
  | none=>simp [sliceBounds,HT.sIx]
  | some i =>
   simp only [sliceBounds,HT.sIx,Option.getD_none,show (1:Int) > 0 by decide,if_true]
   by_cases h:i < 0
   ·simp only [h,if_true] <;> omega
   ·simp only [h,if_false] <;> omega
 ·cases hi with
  | none=>simp [sliceBounds,HT.sIx]
  | some i =>
   simp only [sliceBounds,HT.sIx,Option.getD_none,show (1:Int) > 0 by decide,if_true]
   by_cases h:i < 0
   ·simp only [h,if_true] <;> omega
   ·simp only [h,if_false] <;> omega
theorem xQ (its:List Value) (lo hi:Option Int):slicePick its.toArray lo hi none=((its.drop (HT.sIx its.length 0 lo)).take (HT.sIx its.length its.length hi - HT.sIx its.length 0 lo)).toArray:=by
 obtain ⟨h1,h2,h3⟩:=zy lo hi its.toArray.size
 unfold slicePick
 rw [h1,h2,h3]
 simp only [sliceRange_one,pick_run,aU] <;> rfl
def Zj (K:PySem.W.Frag):V→Option Int→Option Int→Hp→VK→Prop:=fun x lo hi H Q=>∃ a xs,x = .ref a∧SqL K H a xs∧∀ p,H p=none→Q (.ref p) (upd H p (.lst (Bw xs lo hi)))
theorem PK:SlR X (Zj X.K):=by
 intro pins s σ H x v vl vu lo hi sl Q I rx hs pl pu h
 obtain ⟨a,xs,rfl,hx,q⟩:=h
 cases rx
 obtain ⟨its,r,ht,hz⟩:=I.list hx
 have hlen:=r.length
 refine ⟨"list", _,slot_list_getitem.lookup,ht.isList.typeIs,?_⟩
 refine wpAny_getItem_list_slice ht.isList hs pl pu .none (by simp) ?_ (by rw [aU] <;> omega)
 rw [xQ,← hlen]
 refine ⟨.ref s.heap.objs.size,_,I.laid (t':=s.toks) (o:=.lst (Bw xs lo hi)) (fun b ob q=>Heap.get?_push_of_some _ q) (aL _) ?_,rfl,q _ (I.hok.fresh (aL _))⟩
 exact ⟨aW (uN xs lo hi) hz,_,0,(r.drop (HT.sIx xs.length 0 lo)).take (HT.sIx xs.length xs.length hi - HT.sIx xs.length 0 lo),Heap.get?_push_size _ rfl⟩
theorem bQ:jY X (.builtin "len") (fun xs H Q=>∃ p ys,xs=[.ref p]∧(SqL X.K H p ys∨SqT X.K H p ys)∧Q (.int ys.length) H):=by
 intro pins s σ H xs us Q I r h
 obtain ⟨p,ys,rfl,hq,q⟩:=h
 obtain ⟨u,rfl,rx⟩:=vals1 r
 cases rx
 have hn:=tZ
 rcases hq with hq | hq
 ·obtain ⟨its,r',pl,hz⟩:=I.list hq
  have hlen:=r'.length
  exact Calls.call_len_list pl.isList (by simp only [aU] <;> omega) ⟨.int ys.length,H,I.tok _,⟨s.toks + 1,by rw [aU,hlen]⟩,q⟩
 ·obtain ⟨its,r',pl,hz⟩:=I.tuple hq
  have hlen:=r'.length
  exact len_tuple pl (by simp only [aU] <;> omega) ⟨.int ys.length,H,I.tok _,⟨s.toks + 1,by rw [aU,hlen]⟩,q⟩
theorem zA:jY X (.type "list") (fun xs H Q=>∃ p ys,xs=[.ref p]∧(SqL X.K H p ys∨SqT X.K H p ys)∧∀ l,H l=none→Q (.ref l) (upd H l (.lst ys))):=by
 intro pins s σ H xs us Q I r h
 obtain ⟨p,ys,rfl,hq,q⟩:=h
 obtain ⟨u,rfl,rx⟩:=vals1 r
 cases rx
 have fin:∀ (its:List Value),Vals ys its→ys.length ≤ sizeLine→∀ (h':Heap) (c':Nat),(∀ b o',s.heap.get? b=some o'→h'.get? b=some o') →
  h'.get? s.heap.objs.size=some { cls:=.type "list", dict:=none,data:=.seq its.toArray c',slots:=#[] }→EP X pins σ Q (.ref s.heap.objs.size) { s with heap:=h' }:=fun its r' hz h' c' kp e =>
  ⟨.ref s.heap.objs.size,_,I.laid (t':=s.toks) kp (aL _) (show fu X.prog X.w _ h' _ (.lst ys) from ⟨hz,its,c',r',e⟩),rfl,q _ (I.hok.fresh (aL _))⟩
 rcases hq with hq | hq
 ·obtain ⟨its,r',pl,hz⟩:=I.list hq
  have hlen:=r'.length
  obtain ⟨o,ho,hc,n,hd⟩:=pl.isList
  exact call_list_seq p (.inl rfl) ho hc hd (fun h' c' kp e=>fin its r' hz h' c' kp e) (by simp only [aU] <;> omega)
 ·obtain ⟨its,r',pl,hz⟩:=I.tuple hq
  have hlen:=r'.length
  obtain ⟨o,ho,hc,n,hd⟩:=pl
  exact call_list_seq p (.inr rfl) ho hc hd (fun h' c' kp e=>fin its r' hz h' c' kp e) (by simp only [aU] <;> omega)
theorem qM:jY X (.type "tuple") (fun xs H Q=>∃ p ys,xs=[.ref p]∧((SqL X.K H p ys∧∀ l,H l=none→Q (.ref l) (upd H l (.tup ys)))∨(SqT X.K H p ys∧Q (.ref p) H))):=by
 intro pins s σ H xs us Q I r h
 obtain ⟨p,ys,rfl,h⟩:=h
 obtain ⟨u,rfl,rx⟩:=vals1 r
 cases rx
 rcases h with ⟨hq,q⟩ | ⟨hq,q⟩
 ·obtain ⟨its,r',pl,hz⟩:=I.list hq
  have hlen:=r'.length
  refine call_tuple_list pl.isList (fun h' kp=>?_) (by simp only [aU] <;> omega)
  have I1:Inv X pins σ H { s with heap:=h' }:=I.kept (t':=s.toks) kp
  have I2:Inv X pins σ (upd H h'.objs.size (.tup ys)) { s with heap:=h'.push { cls:=.type "tuple", data:=.seq its.toArray } } :=
   I1.laid (t':=s.toks) (fun b o e=>Heap.get?_push_of_some _ e) (aL _) (show fu X.prog X.w _ _ _ (.tup ys) from ⟨hz,its,r',IsTup.new _ _⟩)
  exact ⟨.ref h'.objs.size,_,I2,rfl,q _ (I1.hok.fresh (aL _))⟩
 ·obtain ⟨its,r',pl,hz⟩:=I.tuple hq
  exact call_tuple_same pl ⟨.ref p,H,I,rfl,q⟩
def tyV (K:PySem.W.Frag) (T:String) (x:V) (H:Hp):Prop:=match x with
 | .str _=>T = "str"
 | .int _=>T = "int"
 | .ref p=>(T = "list" ∧ ∃ xs,SqL K H p xs)∨(T = "tuple" ∧ ∃ o,K.lookup p=some o∧o.cls = .type "tuple" ∧ o.dict=none) ∨
  (T = "dict" ∧ ((∃ kvs,H p=some (.dK kvs))∨∃ kvs,H p=some (.dT kvs)))∨(T = "set" ∧ ∃ S n,H p=some (.set S n))
 | _=>False
theorem Uq {σ:St} {x:V} {v:Value} (I:Inv X pins σ H s) (r:RelV x v) (ty:tyV X.K T x H) :
 s.TypeIs v T∧∀ a,v = .ref a→∃ ob,s.heap.get? a=some ob∧ob.dict=none:=by
 cases x with
 | str z =>
  obtain ⟨t,rfl⟩:=r
  cases (show T = "str" from ty)
  exact ⟨typeIs_str s z t,fun _ e=>nomatch e⟩
 | int i =>
  obtain ⟨t,rfl⟩:=r
  cases (show T = "int" from ty)
  exact ⟨typeIs_int s i t,fun _ e=>nomatch e⟩
 | ref p =>
  cases r
  rcases ty with ⟨rfl,xs,hq⟩ | ⟨rfl,o,hk,hc,hd⟩ | ⟨rfl,hk⟩ | ⟨rfl,S,n,hk⟩
  ·obtain ⟨its,_,pl,_⟩:=I.list hq
   refine ⟨pl.isList.typeIs,fun a e=>?_⟩
   cases e
   obtain ⟨o,n,e,c,hd,_⟩:=pl
   exact ⟨o,e,hd⟩
  ·refine ⟨⟨o,I.kIn p o hk,hc⟩,fun a e=>?_⟩
   cases e
   exact ⟨o,I.kIn _ o hk,hd⟩
  ·have z:∃ o,s.heap.get? p=some o∧o.ExactDict:=by
    rcases hk with ⟨kvs,hk⟩ | ⟨kvs,hk⟩
    ·obtain ⟨_,_,_,_,o,_,_,e,ex,_⟩:=I.hok p _ hk
     exact ⟨o,e,ex⟩
    ·obtain ⟨_,_,_,_,o,_,_,e,ex,_⟩:=I.hok p _ hk
     exact ⟨o,e,ex⟩
   obtain ⟨o,e,ex⟩:=z
   refine ⟨⟨o,e,ex.1⟩,fun a e2=>?_⟩
   cases e2
   exact ⟨o,e,ex.2.1⟩
  ·obtain ⟨o,_,_,_,e,ex,_⟩:=I.hok p _ hk
   refine ⟨⟨o,e,ex.1⟩,fun a e2=>?_⟩
   cases e2
   exact ⟨o,e,ex.2.1⟩
 | _=>exact False.elim ty
def tBM (K:PySem.W.Frag) (T:String) (r:V→List V→Hp→VK→Prop) (to:TE) (t:TA):TE:=fun σ H Q=>to σ H fun x H1=>tyV K T x H1∧t σ H1 fun xs H2=>r x xs H2 Q
variable {o e:Expr} {es:List Expr} {to:TE} {t:TA} {name:Str} {apos cpos:Pos} {T id:String} {r:V→List V→Hp→VK→Prop}
theorem S6 (pa:PlainAttrs T) (slot:Slot T name id) (hty:typeOf (.builtin id)=pure (.type "method_descriptor")) (hm:MtR X id r) (ho:PE X o to) (ha:PA X (e :: es) t)
 (hbase:attributeBase o name X.env (eval o X.env)=eval o X.env:=by rfl)
 (hfew:((backTo cpos (starEach (e :: es) X.env)).all (fun x=>!x.1) && (backToKw cpos (keywordEach [] X.env)).all (fun x=>x.1.isSome)
  && decide ((e :: es).length + ([]:List Keyword).length + (if ([]:List Keyword).isEmpty then 0 else 1) < 30))=true:=by rfl)
 (hline:(apos.endLine == cpos.line)=true:=by rfl) (hs:starEach (e :: es) X.env=(false,eval e X.env) :: starEach es X.env:=by rfl) (hplain:(backTo cpos (starEach es X.env)).any (·.1)=false:=by rfl) :
 PE X (.Call (.Attribute o name apos) (e :: es) [] cpos) (tBM X.K T r to t):=by
 intro pins s σ H Q I h
 refine wpAny_Call_method_late hbase hfew hline rfl (thn (ho pins s σ H _ I h) fun v s1 ⟨x,H1,I1,r1,ty,q1⟩=>?_)
 obtain ⟨h1,h2⟩:=Uq I1 r1 ty
 refine ⟨T,id,pa,slot,hty,h1,h2,?_⟩
 have hA:=ha cpos pins s1 σ H1 _ I1 q1
 rw [hs] at hA ⊢
 refine Calls.callWith_builtin (by show (false || (backTo cpos (starEach es X.env)).any (·.1))=false;rw [hplain] <;> rfl) (Calls.evalArgs_plain ?_)
 exact thn hA fun us s2 ⟨vs,H2,I2,r2,q2⟩=>hm pins s2 σ H2 x vs v us Q I2 r1 r2 q2
/- xs.append(e),list.index on a module's tuple .. are MtR facts of 06m -/
end
end L2
namespace L2
open PySem PySem.Spec PyProof.Rows
def MtM (X:Cx) (id:String) (r:V→List V→Hp→VK→Prop):Prop :=
 ∀ (pins:List (Addr × Obj)) (s:Shared) (σ:St) (H:Hp) (x:V) (xs:List V) (v:Value) (us:List Value) (Q:VK),Inv X pins σ H s→RelV x v→Vals xs us→r x xs H Q →
  wpAny (model X.prog X.w) X.A (call (.builtin id) (v :: us)) (EP X pins σ Q) X.xe s
theorem Vals.one:∀ {x:V} {us:List Value},Vals [x] us→∃ u,us=[u]∧RelV x u
 | _,_,.cons r .nil=>⟨_,rfl,r⟩
theorem Vals.zero:∀ {us:List Value},Vals [] us→us=[]
 | _,.nil=>rfl
theorem Vals.dropLast (h:Vals xs us):Vals xs.dropLast us.dropLast:=by
 induction h with
 | nil=>exact .nil
 | cons r t ih =>
  cases t with
  | nil=>exact .nil
  | cons q t'=>exact .cons r ih
theorem Vals.reverse (h:Vals xs us):Vals xs.reverse us.reverse:=by
 induction h with
 | nil=>exact .nil
 | cons r t ih=>rw [iU,iU];exact Vals.append ih (.cons r .nil)
theorem Vals.rep (h:Vals xs us):∀ k:Nat,Vals (bA k xs).flatten (bA k us).flatten
 | 0=>.nil
 | k + 1=>by
  rw [cJ,cJ,fJ,fJ]
  exact Vals.append h (Vals.rep h k)
theorem foldl_rep (its:List Value):∀ (k:Nat) (acc:List Value),
 vJ (fun x1 x2=>x1++x2) acc.toArray (bA k its.toArray)=(acc++(bA k its).flatten).toArray
 | 0,acc=>by simp
 | k + 1,acc=>by
  have e:acc.toArray++its.toArray=(acc++its).toArray:=by simp
  have e2:(acc++its)++(bA k its).flatten=acc++(bA (k + 1) its).flatten:=by
   rw [cJ,fJ,iV]
  rw [← e2,← foldl_rep its k (acc++its),← e,cJ,lq]
section
variable {X:Cx} {pins:List (Addr × Obj)} {σ:St} {H:Hp} {s:Shared} {l b:Addr} {xs ys zs:List V}
theorem Inv.lset {its its':List Value} {f:Array Value→Array Value} (I:Inv X pins σ H s) (hH:H l=some (.lst xs))
 (e:s.heap.get? l=some { cls:=.type "list", data:=.seq its.toArray n }) (hf:f its.toArray=its'.toArray) (hv:Vals ys its') (hz:ys.length ≤ sizeLine) :
 Inv X pins σ (upd H l (.lst ys)) { s with heap:=s.heap.update l (Obj.mapSeq f),toks:=t' }:=by
 have q:=PySem.IsL.update e f
 rw [hf] at q
 refine I.write (x:=l) (e:=l) (by rw [hH];exact trivial) (.inl rfl) (fun b' u hb hu=>(Heap.get?_update_other s.heap (Obj.mapSeq f) (Ne.symm hb)).trans hu) ⟨_,q⟩ ?_
 exact ⟨hz,its',_,hv,q⟩
theorem Inv.lnew {its:List Value} (I:Inv X pins σ H s) (hv:Vals ys its) (hz:ys.length ≤ sizeLine) :
 Inv X pins σ (upd H s.heap.objs.size (.lst ys)) { s with heap:=s.heap.push { cls:=.type "list", data:=.seq its.toArray },toks:=t' } :=
 I.laid (fun _ _ q=>Heap.get?_push_of_some _ q) (aL _) ⟨hz,its,0,hv,Heap.get?_push_size _ rfl⟩
theorem Inv.fresh (I:Inv X pins σ H s):H s.heap.objs.size=none:=I.hok.fresh (aL _)
theorem Inv.lstM (I:Inv X pins σ H s) (hH:H l=some (.lst xs)):xs.length ≤ sizeLine∧∃ (its:List Value) (n:Nat),Vals xs its∧xs.length=its.length∧s.heap.get? l=some { cls:=.type "list", data:=.seq its.toArray n }:=by
 obtain ⟨z,its,n,r,e⟩:=I.hok l _ hH
 exact ⟨z,its,n,r,r.length,e⟩
theorem Ke (h:n ≤ sizeLine):Builtin.List.listTooLong n=false:=by
 unfold Builtin.List.listTooLong
 exact dFa (by omega)
end
section
variable {X:Cx}
def PN:V→List V→Hp→VK→Prop:=fun x vs H Q=>∃ l xs y,x = .ref l∧vs=[y]∧H l=some (.lst xs)∧xs.length < sizeLine∧Q .non (upd H l (.lst (xs++[y])))
theorem uc:MtM X "list.append" PN:=by
 intro pins s σ H x vs v us Q I rx rv h
 obtain ⟨l,xs,y,rfl,rfl,hH,hz,q⟩:=h
 cases rx
 obtain ⟨u,rfl,ru⟩:=rv.one
 obtain ⟨z,its,n,r,hl,e⟩:=I.lstM hH
 refine call_meets F.slot_list_append ⟨_,e,rfl⟩ F.entry_list_append (F.args_list_append_2 _ _) (PySem.list_append l its.toArray n u (by rw [aU];omega)) ⟨e,?_⟩
 refine ⟨.non,_,I.lset (its':=its++[u]) hH e (by simp) (r.append (.cons ru .nil)) ?_,rfl,q⟩
 rw [bK,gh]
 omega
def Zk:R2:=fun x y H Q=>∃ l k xs,x = .ref l∧y = .int k∧H l=some (.lst xs)∧-(2 ^ 63) ≤ k∧k < 2 ^ 63∧xs.length * k.toNat ≤ sizeLine ∧
 ∀ p,H p=none→Q (.ref p) (upd H p (.lst (bA k.toNat xs).flatten))
theorem len_rep {α:Type} (xs:List α) (k:Nat):(bA k xs).flatten.length=k * xs.length:=by
 induction k with
 | zero=>simp
 | succ k ih=>rw [cJ,fJ,bK,ih,rW,Nat.add_comm]
theorem Ur:OpR X (binaryOp .Mult) Zk:=by
 intro pins s σ H x y v u Q I rx ry h
 obtain ⟨l,k,xs,rfl,rfl,hH,h1,h2,hz,q⟩:=h
 cases rx
 obtain ⟨t,rfl⟩:=ry
 obtain ⟨z,its,n,r,hl,e⟩:=I.lstM hH
 have hlen:its.toArray.size * k.toNat ≤ sizeLine:=by rw [aU,← hl];exact hz
 have hcap:¬ its.toArray.size * k.toNat > (2 ^ 63 - 1) / 8:=by
  have:(sizeLine:Nat) ≤ (2 ^ 63 - 1) / 8:=by decide
  omega
 have hfit:¬ (!Builtin.List.listFitsIndex k)=true:=by
  rw [fitsIndex_both h1 h2]
  exact cg
 have hlong:¬ Builtin.List.listTooLong (its.toArray.size * k.toNat)=true:=by
  rw [Ke hlen]
  exact cg
 have hnew:vJ (fun x1 x2=>x1++x2) #[] (bA (if its.toArray.isEmpty=true then 0 else k.toNat) its.toArray)=(bA k.toNat its).flatten.toArray:=by
  have f0:∀ m:Nat,vJ (fun x1 x2=>x1++x2) #[] (bA m its.toArray)=(bA m its).flatten.toArray:=fun m=>by
   have:=foldl_rep its m []
   rw [dF] at this
   exact this
  rw [f0]
  cases its with
  | nil=>simp
  | cons a r'=>rw [if_neg (by simp)]
 refine wpAny_binaryOp_repeat_ref (T := "list") (U := "int") (by decide) ⟨_,e,rfl⟩ (fun s'=>typeIs_int s' k t) noFill_list_mul F.fills_int_mul F.slot_int_rmul repeat_list F.slot_int_index.lookup
  (call_meets F.slot_int_rmul (typeIs_int s k t) F.entry_int_rmul (F.args_int_rmul_2 _ _) (int___rmul___int_list k t l its.toArray n)
   ⟨e,rfl,⟨_,e,rfl⟩,call_meets F.slot_list_mul ⟨_,e,rfl⟩ F.entry_list_mul (F.args_list_mul_2 _ _) (AutoListH.list___mul___list_int_3 l its.toArray n k t hfit hcap hlong) ⟨e,?_⟩⟩)
 rw [hnew]
 exact ⟨.ref _,_,I.lnew (t':=s.toks) (r.rep k.toNat) (by rw [len_rep,lK];exact hz),rfl,q _ I.fresh⟩
end
section
variable {prog:Program} {w:World} {A:Around} {E:Value→Shared→Prop} {s:Shared}
set_option maxRecDepth 100000 in
end
section
variable {X:Cx}
end
end L2
variable {XP:(Str→Option Value)→Heap→Prop} {YP:World→Heap→Prop} {m:Str→Option Value}
namespace Att
open PySem PySem.W PySem.Calls PyProof.Rows
theorem uX {P:Params}:∀ (ns:List Int) (vs:List Value),WellAll P h vs (ns.map WData.int)→IntsAre vs ns:=by
 intro ns
 induction ns with
 | nil =>
  intro vs w
  rw [eF] at w
  cases w
  exact .nil
 | cons n ns ih =>
  intro vs w
  rw [aV] at w
  cases w with
  | cons a b =>
   cases a
   exact .cons _ _ (ih _ b)
theorem Io {l:OpenLaw} (hn:l.most=some n) {P:Params} {h:Heap} {args:List WData} {vals:List Value}
 (hpre:l.row.toRowW.claim.pre args=true) (hwl:WellAll P h vals args) :
 ∃ a vs ns,vals=[Value.ref a]∧args=[WData.list (ns.map WData.int)]∧h.get? a=some { cls:=.type "list", data:=.seq vs.toArray }∧IntsAre vs ns∧ns.length ≤ n:=by
 have hsh:WShape.hasAll [] args [.list .int]=true:=(pre_splitW hpre).1
 have hc:l.pre.holds [] { args:=args }=true:=(pre_splitW hpre).2
 obtain ⟨d,r,rfl,h1,h2⟩:=hasAllW_cons hsh
 obtain rfl:=hasAllW_nil h2
 obtain ⟨xs,rfl,h3⟩:=hasW_list h1
 obtain ⟨ns,rfl⟩:=items_int h3
 have hlen:ns.length ≤ n:=by
  unfold OpenLaw.pre at hc
  have h4:(WTm.not (.lt (.lit (.int (n:Int))) (.len (.arg 0)))).holds [] { args:=[.list (ns.map .int)] }=true:=by
   have h4:=(holds_andW hc).1
   rw [hn] at h4
   exact h4
  have h5:=condW_of h4 (w_not (w_lt w_lit (w_len_list (w_arg rfl))))
  rw [aC] at h5
  refine Nat.le_of_not_lt fun q=>?_
  have q':(n:Int) < ((ns.length:Nat):Int):=by omega
  first
   | (rw [dTr q'] at h5;exact absurd h5 (by decide))
   | (simp at h5;omega)
 cases hwl with
 | cons w1 w2 =>
  cases w2
  cases w1 with
  | list ho hall=>exact ⟨_,_,ns,rfl,rfl,ho,uX ns _ hall,hlen⟩
theorem Ir (l:OpenLaw) (args:List WData):l.row.toRowW.claim.post args (.bool true) args=true :=
 postW_of (r:=l.row.toRowW) (X:=(true == true))
  (show WShape.has [] (.bool true) .bool=true by first | rfl | decide | simp [WShape.has,WShape.arms,WShape.armsAll])
  (show (WTm.eq .res (.lit (.bool true))).value [] { args:=args,res:=some (.bool true),after:=args }=some (.bool (true == true)) from w_eq_bool (w_res rfl) w_lit) rfl
theorem Bx {l:OpenLaw} {q:Program} {loose:List Str} {d:DefRec}
 (hn:l.most=some n) (hdf:d.params.defaults=[])
 (call:∀ (w:World) (s₀ s₁:Shared) (mg mb:Str→Option Value) (fa:Addr) (o:Obj) (pm cd doc:Value) (a:Addr) (vs:List Value) (ns:List Int),
  Ground q loose [] XP w s₀ mg mb s₁.heap→YP w s₁.heap →
  s₁.heap.get? fa=some o→o.data = .func (docDef d.name d.params d.body d.scope pm cd doc)→s₁.heap.CodeRec cd d.name→mg d.name=some (.ref fa) →
  s₁.heap.get? a=some { cls:=.type "list", data:=.seq vs.toArray }→IntsAre vs ns→ns.length ≤ n→s₁.gens = #[] →
  codeAny (model l.prog w) callerA (.call (.ref fa) ⟨[.ref a],[]⟩) (fun r s'=>r = .ok (.ret (.bool true))∧OldK s₁.heap s'.heap∧s'.os=s₁.os∧AllBare s'.gens) s₁) :
 WalkO q loose XP YP l.row.toRowW d [] (fun f vs=>PySem.call f vs):=by
 intro w s₀ s₁ mg mb G Y fa o pm cd doc dV kV ho hd hcd hD hmg hg args vals as hpre hlay hrd hwl hlo
 obtain rfl:dV = .none:=Dflts.none hD hdf
 obtain rfl:kV = .none:=Dflts.noKw hD
 obtain ⟨a,vs,ns,rfl,rfl,hobj,hints,hlen⟩:=Io hn hpre hwl
 refine enter_call (codeAny_mono (call w s₀ s₁ mg mb fa o pm cd doc a vs ns G Y ho (fd_plain hd) hcd hmg hobj hints hlen hg) fun r s' hq=>?_)
 obtain ⟨rfl,h2,h3,h4⟩:=hq
 exact ⟨.inl ⟨.bool true,.bool true,[],rfl,fun _=>rfl,.bool true,Ir l _,fun _=>⟨List.Pairwise.nil,fun _ hm=>(nomatch hm)⟩⟩,h2,h3,h4⟩
section
variable {prog:Program} {w:World} {A:Around} {E:Value→Shared→Prop} {s:Shared} {K:Frag}
def jt (h:Heap):Heap:={ h with objs:=#[] }
theorem oA (h:Heap) (b:Addr):(jt h).get? b=none:=by
 cases e:(jt h).get? b with
 | none=>rfl
 | some o=>exact absurd (Heap.lt_size e) (Nat.not_lt_zero _)
theorem El {L:Addr} (n:h.Ns L m):Fr (jt h) L h m :=
 ⟨n,fun b o e=>(by rw [oA] at e;cases e),cZ _⟩
end
end Att
variable {CX:L2.CXT} {sp:L2.Sp} {ns:List Int}
namespace L2
open PySem PySem.Spec PyProof.Rows
theorem nO:∀ {vs:List Value} {ns:List Int},IntsAre vs ns→Vals (ns.map V.int) vs
 | _,_,.nil=>.nil
 | _,_,.cons n t h=>.cons ⟨t,rfl⟩ (nO h)
def Only (H:Hp):Prop:=∀ b,H b=none∨∃ o xs,H b=some (.frz o (.lst xs))
def vR (ts:List (Addr × Str × Pos)) (H:Hp):Hp:=fun b=>match ts.find? (fun t=>t.1 == b) with
 | some t=>some (.tbl t.2.1 t.2.2)
 | none=>H b
theorem Kf (ts:List (Addr × Str × Pos)) (H:Hp) (b:Addr):(vR ts H b=H b∧∀ t ∈ ts,t.1 ≠ b)∨∃ t ∈ ts,t.1=b∧vR ts H b=some (.tbl t.2.1 t.2.2):=by
 unfold vR
 cases e:ts.find? (fun t=>t.1 == b) with
 | none=>exact .inl ⟨rfl,fun t ht z=>by have:=ig.mp e t ht;simp [z] at this⟩
 | some t =>
  have h1:=gj e
  have h2:=o9 e
  exact .inr ⟨t,h1,by simpa using h2,rfl⟩
theorem Kg {mb:Str→Option Value} {k:Nat} {fa:Addr} {s₁:Shared} {vs:List Value}
 (KX:K.In s₁.heap) (hns:s₁.heap.Ns mainGlobals mg) (hb:s₁.heap.Ns builtinsNs mb) (hbb:∀ x:Str,x ≠ "__name__" → mb x=bootBuiltins x) (hlim:s₁.heap.NoLimit) (hbm:∃ bm ob,mg "__builtins__" = some (.ref bm)∧bm ≠ builtinsNs∧s₁.heap.get? bm=some ob∧ob.cls = .type "module" ∧ ob.dict=some builtinsNs∧ob.data = .plain) (hg:s₁.gens = #[])
 (ha:s₁.heap.get? a=some { cls:=.type "list", data:=.seq vs.toArray }) (hi:IntsAre vs ns) (hl:ns.length ≤ sizeLine) (hr:Room k callerA)
 (F:∀ base:Heap,K.In base→base.Ns mainGlobals mg→FnOk P w K mg base CX k fa fd [x] sp) (hbind:∀ (s:Shared) (u:Value),BindsTo s fd ⟨[u],[]⟩ [(x,u)])
 (ts:List (Addr × Str × Pos)) (hts:∀ t ∈ ts,s₁.heap.get? t.1=some { cls:=.none,data:=.fields #[] }) (hCT:∀ t ∈ ts,isCodeTable s₁.heap t.1) (hKt:∀ t ∈ ts,K.lookup t.1=none) (htu:∀ t ∈ ts,∀ t' ∈ ts,t.1=t'.1→t=t')
 (hsp:∀ H:Hp,(∀ t ∈ ts,H t.1=some (.tbl t.2.1 t.2.2))→SqL K H a (ns.map V.int)→sp [.ref a] H (fun v _=>v = .bl true) fun _ _ _=>False)
 (hCX:∀ H e s',CX [] H s₁ (fun _ _ _=>False) e s'→False) :
 codeAny (model P w) callerA (.call (.ref fa) ⟨[.ref a],[]⟩) (fun r s'=>r = .ok (.ret (.bool true))∧OldK s₁.heap s'.heap∧s'.os=s₁.os∧AllBare s'.gens) s₁:=by
 have rv:=nO hi
 have lenV:=hi.length
 have core:∀ H:Hp,(∀ b,H b=none∨(∃ o xs,H b=some (.frz o (.lst xs)))∨∃ t ∈ ts,t.1=b∧H b=some (.tbl t.2.1 t.2.2))→(∀ t ∈ ts,H t.1=some (.tbl t.2.1 t.2.2))→SqL K H a (ns.map V.int)→HOk P w H s₁.heap→(∀ b,H b ≠ none→b=a∨∃ t ∈ ts,t.1=b)→(H a ≠ none→K.lookup a=none) →
  codeAny (model P w) callerA (.call (.ref fa) ⟨[.ref a],[]⟩) (fun r s'=>r = .ok (.ret (.bool true))∧OldK s₁.heap s'.heap∧s'.os=s₁.os∧AllBare s'.gens) s₁:=by
  intro H hO hT hS hok hA hK
  have base_of:∀ {b:Addr} {o:Obj},s₁.heap.get? b=some o→H b=none→(zq s₁.heap H).get? b=some o:=fun e n=>JX e n
  have noA:∀ {b:Addr} {o:Obj} {es:Array DictEntry} {ep:Nat},s₁.heap.get? b=some o→o.data = .dict es ep→H b=none:=fun {b o es ep} e d=>by
   cases q:H b with
   | none=>rfl
   | some u =>
    rcases hA b (by rw [q];simp) with e' | ⟨t,ht,e'⟩
    case inr =>
     subst e'
     rw [hts t ht] at e;cases e
     have d':Data.fields #[]=Data.dict es ep:=d
     cases d'
    subst e'
    rw [ha] at e;cases e
    have d':Data.seq vs.toArray _=Data.dict es ep:=d
    cases d'
  have nsK:∀ {b:Addr} {m:Str→Option Value},s₁.heap.Ns b m→(zq s₁.heap H).Ns b m:=fun {b m} ⟨o,es,ep,e,d,r⟩=>⟨o,es,ep,base_of e (noA e d),d,r⟩
  have hKb:K.In (zq s₁.heap H):=fun b o e=>base_of (KX b o e) (by
   cases q:H b with
   | none=>rfl
   | some u =>
    rcases hA b (by rw [q];simp) with e' | ⟨t,ht,e'⟩
    ·subst e'
     rw [hK (by rw [q];simp)] at e;cases e
    ·subst e'
     rw [hKt t ht] at e;cases e)
  have hM:Mod K mg (zq s₁.heap H):=⟨hKb,nsK hns,⟨mb,nsK hb,hbb⟩,let ⟨mc,h1,h2⟩:=hlim;⟨mc,nsK h1,h2⟩,let ⟨bm,ob,g1,g2,g3,g4,g5,g6⟩:=hbm;⟨bm,ob,g1,g2,base_of g3 (by
   cases q:H bm with
   | none=>rfl
   | some u =>
    rcases hA bm (by rw [q];simp) with e' | ⟨t,ht,e'⟩
    ·rw [e',ha] at g3;cases g3
     have z:Value.type "list" = Value.type "module" := g4
     injection z with z
     exact absurd z (by decide)
    ·rw [← e',hts t ht] at g3;cases g3
     cases g4),g4,g5,g6⟩⟩
  have e0:Env0 P w K mg (zq s₁.heap H) callerA [] s₁ H:=⟨rfl,hM,fun b o e=>O7 e,Nat.le_of_eq (Ie _ _),trivial,fun b hb=>absurd (show b ∈ ([]:List Addr) from hb) (by simp),hok,.of_eq hg⟩
  refine codeAny_mono ((F _ hKb (nsK hns)).run callerA [] s₁ H ⟨[.ref a],[]⟩ [.ref a] [.ref a] _ _ hr e0 (hbind s₁ (.ref a)) (.cons rfl .nil) (hsp H hT hS)) fun r s' h=>?_
  cases r with
  | error e=>exact (hCX H e s' h).elim
  | ok fl =>
   cases fl with
   | next=>exact False.elim h
   | brk=>exact False.elim h
   | cont=>exact False.elim h
   | ret u =>
    obtain ⟨v,H',os,bare,un,hok',r',q⟩:=h
    have q':v = .bl true:=q
    subst q'
    obtain rfl:u=Value.bool true:=r'
    refine ⟨rfl,⟨fun b o e=>?_,fun b o e=>un.there b o e (by simp)⟩,os,bare⟩
    cases q:H b with
    | none=>exact .inl <| un.keep b o e q (by intro z;exact absurd (show b ∈ ([]:List Addr) from z) (by simp)) (by simp)
    | some u =>
     rcases hO b with z | ⟨ob,xs,z⟩ | ⟨t,ht,rfl,z⟩
     case inr.inr =>
      have z2:=un.tbls _ _ _ z
      obtain ⟨ps,e2,_⟩:=hok' _ _ z2
      rw [hts t ht] at e;cases e
      exact .inr (.inl ⟨hCT t ht,rfl,#[],ps,rfl,by rw [e2];simp⟩)
     ·rw [q] at z;cases z
     ·have z2:=un.frzs b ob _ z
      obtain ⟨e1,_⟩:=hok b _ z
      obtain ⟨e2,_⟩:=hok' b _ z2
      rw [e] at e1;cases e1
      exact .inl e2
 have core1:∀ H:Hp,Only H→SqL K H a (ns.map V.int)→HOk P w H s₁.heap→(∀ b,H b ≠ none→b=a)→(H a ≠ none→K.lookup a=none) →
  codeAny (model P w) callerA (.call (.ref fa) ⟨[.ref a],[]⟩) (fun r s'=>r = .ok (.ret (.bool true))∧OldK s₁.heap s'.heap∧s'.os=s₁.os∧AllBare s'.gens) s₁:=by
  intro H hO hS hok hA hK
  have na:∀ t ∈ ts,t.1 ≠ a:=fun t ht z=>by
   have z2:=hts t ht
   rw [z,ha] at z2
   cases z2
  have cs:∀ b,(vR ts H b=H b∧∀ t ∈ ts,t.1 ≠ b)∨∃ t ∈ ts,t.1=b∧vR ts H b=some (.tbl t.2.1 t.2.2):=Kf ts H
  have la:vR ts H a=H a:=by
   rcases cs a with z | ⟨t,ht,z,_⟩
   ·exact z.1
   ·exact absurd z (na t ht)
  have noown:∀ b x,H b ≠ some (.own x):=fun b x z=>by rcases hO b with y | ⟨_,_,y⟩ <;> (rw [y] at z;cases z)
  have notup:∀ b x,H b ≠ some (.tup x):=fun b x z=>by rcases hO b with y | ⟨_,_,y⟩ <;> (rw [y] at z;cases z)
  refine core (vR ts H) (fun b=>?_) (fun t ht=>?_) ?_ (fun b u z=>?_) (fun b z=>?_) (fun z=>hK (by rw [← la];exact z))
  ·rcases cs b with z | ⟨t,ht,z1,z2⟩
   ·rcases hO b with y | y
    ·exact .inl (z.1.trans y)
    ·obtain ⟨o,xs,y⟩:=y
     exact .inr (.inl ⟨o,xs,z.1.trans y⟩)
   ·exact .inr (.inr ⟨t,ht,z1,z2⟩)
  ·rcases cs t.1 with z | ⟨t',ht',z1,z2⟩
   ·exact absurd rfl (z.2 t ht)
   ·have:=htu t' ht' t ht z1
    subst this
    exact z2
  ·rcases hS with (z | ⟨o,z⟩) | z
   ·exact .inl (.inl (by rw [la];exact z))
   ·exact .inl (.inr ⟨o,by rw [la];exact z⟩)
   ·exact .inr z
  ·rcases cs b with y | ⟨t,ht,z1,z2⟩
   ·rw [y.1] at z
    exact (hok b u z).stay (fun _ _ _ q=>q) (fun c q=>absurd q (noown c b)) fun c xs q=>absurd q (notup c xs)
   ·rw [z2] at z
    cases z
    subst z1
    exact ⟨#[],hts t ht,.inl rfl⟩
  ·rcases cs b with y | ⟨t,ht,z1,z2⟩
   ·exact .inl (hA b (by rw [← y.1];exact z))
   ·exact .inr ⟨t,ht,z1⟩
 cases hk:K.lookup a with
 | some o =>
  have e:=KX a o hk
  rw [ha] at e
  cases e
  refine core1 (fun _=>none) (fun _=>.inl rfl) (.inr ⟨_,vs.toArray,_,hk,rfl,rfl,rfl,by rw [aU,lenV];exact hl,by simpa using rv⟩) (fun b u z=>by have z':(none:Option HO)=some u:=z;cases z') (fun b z=>absurd rfl z) fun z=>absurd rfl z
 | none =>
  refine core1 (fun b=>if b=a then some (.frz { cls:=.type "list", data:=.seq vs.toArray } (.lst (ns.map V.int))) else none) (fun b=>?_) (.inl (.inr ⟨{ cls:=.type "list", data:=.seq vs.toArray },if_pos rfl⟩)) (fun b u z=>?_) (fun b z=>?_) fun _=>hk
  ·by_cases hb:b=a
   ·exact .inr ⟨_,_,if_pos hb⟩
   ·exact .inl (if_neg hb)
  ·by_cases hb:b=a
   ·have z':=(if_pos hb).symm.trans z
    cases z'
    subst hb
    exact ⟨ha,by rw [aC];exact hl,vs,_,rv,ha⟩
   ·have z':=(if_neg hb).symm.trans z
    cases z'
  ·by_cases hb:b=a
   ·exact hb
   ·exact absurd (if_neg hb) z
end L2
namespace L2
open PySem PySem.Spec PyProof.Rows
abbrev KOf (_:K.In h):PySem.W.Frag:=K
theorem PX {l:PySem.W.OpenLaw} {k:Nat} {q:Program} {loose:List Str} {d:DefRec} {K:Params→PySem.W.Frag} {CX:World→CXT} {sp:World→Sp}
 (hn:l.most=some n) (hn2:n ≤ sizeLine) (hdf:d.params.defaults=[]) (hr:Room k callerA)
 (hY:∀ (w:World) (h:Heap),YP w h→(K w.params).In h)
 (F:∀ (w:World) (mg:Str→Option Value) (fa:Addr) (h:Heap),(K w.params).In h→h.Ns mainGlobals mg→mg d.name=some (.ref fa) →
  ∃ fd:FuncData,(∀ (s:Shared) (u:Value),BindsTo s fd ⟨[u],[]⟩ [(x,u)]) ∧
   ∀ base:Heap,(K w.params).In base→base.Ns mainGlobals mg→FnOk l.prog w (K w.params) mg base (CX w) k fa fd [x] (sp w))
 (ts:List (Addr × Str × Pos)) (hts:∀ (w:World) (h:Heap),YP w h→(∀ t ∈ ts,h.get? t.1=some { cls:=.none,data:=.fields #[] })∧(∀ t ∈ ts,isCodeTable h t.1)∧∀ t ∈ ts,(K w.params).lookup t.1=none) (htu:∀ t ∈ ts,∀ t' ∈ ts,t.1=t'.1→t=t')
 (hsp:∀ (w:World) (H:Hp) (a:Addr) (ns:List Int),ns.length ≤ n→(∀ t ∈ ts,H t.1=some (.tbl t.2.1 t.2.2))→SqL (K w.params) H a (ns.map V.int)→sp w [.ref a] H (fun v _=>v = .bl true) fun _ _ _=>False)
 (hCX:∀ (w:World) (H:Hp) (s:Shared) (e:Value) (s':Shared),CX w [] H s (fun _ _ _=>False) e s'→False) :
 PySem.W.WalkO q loose XP YP l.row.toRowW d [] (fun f vs=>PySem.call f vs):=by
 refine Att.Bx hn hdf fun w s₀ s₁ mg mb fa o pm cd doc a vs ns G Y ho hd hcd hmg hobj hints hlen hg=>?_
 have KX:=hY w _ Y
 obtain ⟨fd,hb,hF⟩:=F w mg fa _ KX G.T.g hmg
 exact Kg KX G.T.g G.T.b G.T.builtins G.T.nolimit G.T.bmain hg hobj hints (aW hlen hn2) hr hF hb ts (hts w _ Y).1 (hts w _ Y).2.1 (hts w _ Y).2.2 htu (fun H hO hS=>hsp w H a ns hlen hO hS) fun H e s'=>hCX w H s₁ e s'
theorem Kh {l:PySem.W.OpenLaw} {k:Nat} {q:Program} {loose:List Str} {d:DefRec} {K:Params→PySem.W.Frag} {sp:PySem.W.Frag→Sp}
 (hn:l.most=some n) (hn2:n ≤ sizeLine) (hdf:d.params.defaults=[]) (hr:Room k callerA)
 (hY:∀ (w:World) (h:Heap),YP w h→(K w.params).In h)
 (F:∀ (w:World) (mg:Str→Option Value) (fa:Addr) (h:Heap),(K w.params).In h→h.Ns mainGlobals mg→mg d.name=some (.ref fa) →
  ∃ fd:FuncData,(∀ (s:Shared) (u:Value),BindsTo s fd ⟨[u],[]⟩ [(x,u)]) ∧
   ∀ base:Heap,(K w.params).In base→base.Ns mainGlobals mg→FnOk l.prog w (K w.params) mg base CX k fa fd [x] (sp (K w.params)))
 (ts:List (Addr × Str × Pos)) (hts:∀ (w:World) (h:Heap),YP w h→(∀ t ∈ ts,h.get? t.1=some { cls:=.none,data:=.fields #[] })∧(∀ t ∈ ts,isCodeTable h t.1)∧∀ t ∈ ts,(K w.params).lookup t.1=none) (htu:∀ t ∈ ts,∀ t' ∈ ts,t.1=t'.1→t=t')
 (hsp:∀ (K:PySem.W.Frag) (H:Hp) (a:Addr) (ns:List Int),ns.length ≤ n→(∀ t ∈ ts,H t.1=some (.tbl t.2.1 t.2.2))→SqL K H a (ns.map V.int)→sp K [.ref a] H (fun v _=>v = .bl true) fun _ _ _=>False)
 (hCX:∀ (H:Hp) (s:Shared) (e:Value) (s':Shared),CX [] H s (fun _ _ _=>False) e s'→False) :
 PySem.W.WalkO q loose XP YP l.row.toRowW d [] (fun f vs=>PySem.call f vs) :=
 PX (K:=K) (CX:=fun _=>CX) (sp:=fun w=>sp (K w.params)) hn hn2 hdf hr hY F ts hts htu (fun w H a ns h1 h2 h3=>hsp (K w.params) H a ns h1 h2 h3) fun _ H s e s'=>hCX H s e s'
end L2
/- THE LAST THEOREM (shape;LID,My.* are yours):
   My.Adr: a structure of the addresses that your layer names (classes,functions);My.Txt K t: a structure (Prop) of the equations over K;
   My.txt_mk:{K} {implicit addresses ..} (e1:nsIn K mainGlobals "law" = some (some (.ref f))) (e2:K.lookup f=some ⟨oc,od,.func (fnOf "law" "law" params body scope dV kV doc pm an cdv ct),sl⟩) (e3:codeIn K cdv "law" = true) .. : ∃ t,My.Txt K t
set_option maxRecDepth 100000 in
set_option maxHeartbeats 0 in
(the tactic k_is has no namespace: write k_is) -/
variable {H1:L2.Hp}
namespace L2
open PySem PySem.Spec PyProof.Rows
def m5 (s:Stmt):Arguments:=match s with
 | .FunctionDef _ a _ _ _ _ _ _ _ _=>a
 | _=>{ posonlyargs:=[],args:=[],vararg:=none,kwonlyargs:=[],kw_defaults:=[],kwarg:=none,defaults:=[] }
def iB (s:Stmt):List Stmt:=match s with
 | .FunctionDef _ _ b _ _ _ _ _ _ _=>b
 | _=>[]
def bG (s:Stmt):Scope:=match s with
 | .FunctionDef _ _ _ _ _ _ sc _ _ _=>sc
 | _=>{ kind:=.function,names:=[],isGenerator:=false,isCoroutine:=false }
abbrev CX0:CXT:=fun _ _ _ _ _ _=>False
abbrev E0:XK:=fun _ _ _=>False
theorem Xe:Passes CX0 X E0:=fun _ _ _ _ _ _ _ h=>h.elim
structure Fun (K:PySem.W.Frag) (x qual:Str) (st:Stmt) (f:Addr) (fd:FuncData):Prop where
 ex:∃ (oc:Value) (od:Option Addr) (kV doc pm:Value) (an:Option Addr) (cdv ct:Value) (osl:Array (Option Value)),
  fd=PySem.W.fnOf x qual (m5 st) (iB st) (bG st) .none kV doc pm an cdv ct∧K.lookup f=some ⟨oc,od,.func fd,osl⟩∧PySem.W.codeIn K cdv qual=true
 kp:PySem.W.keepIn K (.ref f)=true
section
variable {P:Program} {w:World} {K:PySem.W.Frag} {mg:Str→Option Value} {base:Heap}
end
section
variable {X:Cx}
end
theorem xR {A B:Prop} (h:B):if false=true then A else B:=by
 rw [if_neg cg]
 exact h
theorem xT {A B:Prop} (h:A):if true=true then A else B:=by
 rw [if_pos rfl]
 exact h
def Same (H H':Hp):Prop:=∀ b o,H b=some o→H' b=some o
theorem Same.refl (H:Hp):Same H H:=fun _ _ h=>h
theorem Same.trans {H2:Hp} (a:Same H H1) (b:Same H1 H2):Same H H2:=fun c o h=>b c o (a c o h)
theorem Same.free (e:Same H H') {l:Addr} (h:H' l=Option.none):H l=Option.none:=by
 cases q:H l with
 | none=>rfl
 | some o =>
  rw [e l o q] at h
  cases h
theorem Same.seq (e:Same H H') (h:SqL K H a xs):SqL K H' a xs:=by
 rcases h with (h | ⟨o,h⟩) | h
 ·exact .inl (.inl (e _ _ h))
 ·exact .inl (.inr ⟨o,e _ _ h⟩)
 ·exact .inr h
end L2
namespace My
open PySem PySem.Spec PyProof.Rows L2
abbrev St:=L2.St
theorem cN {p:Addr} (h:H p=none) (o:HO):Same H (upd H p o):=fun b u q=>by rw [bB (iy q h)];exact q
structure Df (K:PySem.W.Frag) (mg:Str→Option Value) (x:Str) (st:Stmt) (ps:List Str):Prop where
 ex:∃ (f:Addr) (fd:FuncData),Fun K x x st f fd∧Binds K fd ps []∧mg x=some (.ref f)
structure Has (P:Program) (w:World) (K:PySem.W.Frag) (mg:Str→Option Value) (base:Heap) (n:Nat) (x:Str) (ps:List Str) (sp:Sp):Prop where
 ex:∃ (f:Addr) (fd:FuncData),FnOk P w K mg base CX0 n f fd ps sp∧Binds K fd ps []∧PySem.W.keepIn K (.ref f)=true∧mg x=some (.ref f)
section
variable {P:Program} {w:World} {K:PySem.W.Frag} {mg:Str→Option Value} {base:Heap} {x:Str} {ps N:List Str} {sp:Sp} {st:Stmt} {k n:Nat}
theorem Has.mono (h:Has P w K mg base k x ps sp) (l:k ≤ n):Has P w K mg base n x ps sp:=by
 obtain ⟨f,fd,F,b,kp,m⟩:=h.ex
 exact ⟨f,fd,F.mono l,b,kp,m⟩
end
section
variable {X:Cx} {x:Str} {ps:List Str} {sp:Sp} {n:Nat} {p pos:Pos} {e:Expr} {es:List Expr} {t:TA}
theorem BJ (h:Has X.prog X.w X.K X.mg X.base n x ps sp) (hr:Room n X.A) (ha:PA X (e :: es) t) (hg:Gl X x:=by rfl) (hdb:(x == ("__debug__" : Str))=false:=by decide)
 (he:starEach (e :: es) X.env=(false,eval e X.env) :: starEach es X.env:=by rfl) (hpl:(backTo pos (starEach es X.env)).any (·.1)=false:=by rfl) :
 PE X (.Call (.Name x p) (e :: es) [] pos) (SX sp [] E0 t):=by
 obtain ⟨f,fd,F,b,kp,m⟩:=h.ex
 exact Px F hr hg m kp b .nil Xe ha hdb he hpl
end
mutual
inductive RdV (K:PySem.W.Frag) (H:Hp):V→PyData→Prop
 | non:RdV K H .non .none
 | bl (b:Bool):RdV K H (.bl b) (.bool b)
 | int (i:Int):RdV K H (.int i) (.int i)
 | str (x:Str):RdV K H (.str x) (.str x)
 | lst {a:Addr} {xs:List V} {ds:List PyData}:SqL K H a xs→RdVs K H xs ds→RdV K H (.ref a) (.list ds)
 | tup {a:Addr} {xs:List V} {ds:List PyData}:SqT K H a xs→RdVs K H xs ds→RdV K H (.ref a) (.tuple ds)
inductive RdVs (K:PySem.W.Frag) (H:Hp):List V→List PyData→Prop
 | nil:RdVs K H [] []
 | cons {v:V} {d:PyData} {vs:List V} {ds:List PyData}:RdV K H v d→RdVs K H vs ds→RdVs K H (v :: vs) (d :: ds)
end
section
variable {X:Cx} {pins:List (Addr × Obj)} {σ:St} {H:Hp} {s:Shared}
mutual
theorem RdV.reads (I:Inv X pins σ H s):∀ {v:V} {d:PyData},RdV X.K H v d→∀ {u:Value},RelV v u→∃ as,Reads s.heap u d as
 | _,_,.non,_,r=>by cases r;exact ⟨_,.none⟩
 | _,_,.bl b,_,r=>by cases r;exact ⟨_,.bool b⟩
 | _,_,.int i,_,r=>by obtain ⟨t,rfl⟩:=r;exact ⟨_,.int i t⟩
 | _,_,.str x,_,r=>by obtain ⟨t,rfl⟩:=r;exact ⟨_,.str x t⟩
 | _,_,.lst h q,_,r=>by
  cases r
  obtain ⟨its,rv,⟨o,n,e,c,_,d⟩,_⟩:=I.list h
  obtain ⟨as,z⟩:=RdVs.reads I q rv
  exact ⟨_,.list e c d (by simpa using z)⟩
 | _,_,.tup h q,_,r=>by
  cases r
  obtain ⟨its,rv,⟨o,e,c,n,d⟩,_⟩:=I.tuple h
  obtain ⟨as,z⟩:=RdVs.reads I q rv
  exact ⟨_,.tuple e c d (by simpa using z)⟩
theorem RdVs.reads (I:Inv X pins σ H s):∀ {vs:List V} {ds:List PyData},RdVs X.K H vs ds→∀ {us:List Value},Vals vs us→∃ as,ReadsAll s.heap us ds as
 | _,_,.nil,_,r=>by cases r;exact ⟨_,.nil⟩
 | _,_,.cons h q,_,r=>by
  cases r with
  | cons r1 r2 =>
   obtain ⟨as,z⟩:=RdV.reads I h r1
   obtain ⟨bs,y⟩:=RdVs.reads I q r2
   exact ⟨_,.cons z y⟩
end
end
section
variable {X:Cx}
def Xf (K:PySem.W.Frag):R2:=fun x y H Q=>∃ da db,RdV K H x da∧RdV K H y db∧SeqAt.shaped da=true∧SeqAt.shaped db=true∧Q (.bl (PyData.eqv da db)) H
def Xg (K:PySem.W.Frag):R2:=fun x y H Q=>∃ da db,RdV K H x da∧RdV K H y db∧SeqAt.shaped da=true∧SeqAt.shaped db=true∧Q (.bl (!PyData.eqv da db)) H
theorem oE (hu:X.A.units + 64 < cLine):OpR X (compareOp .Eq) (Xf X.K):=by
 intro pins s σ H x y v u Q I rx ry h
 obtain ⟨da,db,ha,hb,sa,sb,q⟩:=h
 obtain ⟨as,za⟩:=ha.reads I rx
 obtain ⟨bs,zb⟩:=hb.reads I ry
 exact SeqAt.compareEq_shaped za zb sa sb hu ⟨.bl _,H,I,rfl,q⟩
theorem rF (hu:X.A.units + 64 < cLine):OpR X (compareOp .NotEq) (Xg X.K):=by
 intro pins s σ H x y v u Q I rx ry h
 obtain ⟨da,db,ha,hb,sa,sb,q⟩:=h
 obtain ⟨as,za⟩:=ha.reads I rx
 obtain ⟨bs,zb⟩:=hb.reads I ry
 exact SeqAt.compareNe_shaped za zb sa sb hu ⟨.bl _,H,I,rfl,q⟩
end
def isT (c T:String):Bool:=T == c || (T == "bool" && c == "int")
section
variable {K:PySem.W.Frag}
theorem Us (h:c = "int" ∨ c = "bool" ∨ c = "tuple" ∨ c = "list" ∨ c = "str") (g:T = "NoneType" ∨ T = "bool" ∨ T = "int" ∨ T = "str" ∨ T = "list" ∨ T = "tuple" ∨ T = "dict") :
 PySem.W.kitOne K (.type T) (.type c)=some (isT c T):=by
 rcases h with rfl | rfl | rfl | rfl | rfl <;> rcases g with rfl | rfl | rfl | rfl | rfl | rfl | rfl <;> kernel_rfl
end
section
variable {X:Cx}
end
theorem big {σ:St} (I:Inv X pins σ H s):sysModules < s.heap.objs.size:=by
 have h:mainGlobals < s.heap.objs.size:=(I.mod.glob.keeps I.bk).lt
 exact lM (by decide) h
theorem Kl (h:Heap) (hb:sysModules < h.objs.size):fu P w H (h.push { cls:=.type "dict", data:=.dict #[] }) h.objs.size (.dK []) :=
 ⟨cZ _,beq_eq_false_iff_ne.mpr (Ne.symm (aR hb)),[],.nil,Heap.DictOf.new h⟩
def Ut:TE:=fun _ H Q=>∀ p,H p=none→Q (.ref p) (upd H p (.dK []))
theorem Km:PE X (.Dict [] [] pos) Ut:=fun pins s σ H Q I h =>
 wpAny_Dict_empty ⟨.ref s.heap.objs.size,_,I.laid (a:=s.heap.objs.size) (o:=.dK []) (t':=s.toks) (fun _ _ q=>Heap.get?_push_of_some _ q) (aL _) (Kl s.heap (big I)),rfl,h _ (I.hok.fresh (aL _))⟩
end My
namespace My
open PySem PySem.Spec PyProof.Rows L2
section
variable {X:Cx} {a b c d:Expr} {ta tb tc td:TE} {pos:Pos}
def P0 (r r' r'':R2) (ta tb tc td:TE):TE:=fun σ H Q=>ta σ H fun x H1=>tb σ H1 fun y H2=>r x y H2 fun z H3=>∃ k,z = .bl k ∧
 (if k=true then tc σ H3 fun w' H4=>r' y w' H4 fun z' H5=>∃ k',z' = .bl k'∧(if k'=true then td σ H5 fun v' H6=>r'' w' v' H6 Q else Q (.bl false) H5) else Q (.bl false) H3)
theorem Iu {op'':CmpOp} {r'':R2} (ho:OpR X (compareOp op) r) (ho':OpR X (compareOp op') r') (ho'':OpR X (compareOp op'') r'') (ha:PE X a ta) (hb:PE X b tb) (hc:PE X c tc) (hd:PE X d td)
 (hm:lastMarks [op,op',op''] [b,c,d]=false:=by with_unfolding_all rfl):PE X (.Compare a [op,op',op''] [b,c,d] pos) (P0 r r' r'' ta tb tc td):=by
 intro pins s σ H Q I h
 refine Compare_chain (thn (ha pins s σ H _ I h) fun v s1 ⟨x,H1,I1,r1,q1⟩=>chain_link (thn (hb pins s1 σ H1 _ I1 q1) fun u s2 ⟨y,H2,I2,r2,q2⟩ =>
  thn (ho pins s2 σ H2 x y v u _ I2 r1 r2 q2) fun d s3 ⟨z,H3,I3,r3,k,e,q3⟩=>?_)) hm
 subst e
 cases r3
 refine wpAny_truthy_bool ?_
 cases k with
 | false=>exact ite_ff ⟨.bl false,H3,I3,rfl,q3⟩
 | true =>
  refine ite_tt (chain_link (thn (hc pins s3 σ H3 _ I3 q3) fun w' s4 ⟨z',H4,I4,r4,q4⟩=>thn (ho' pins s4 σ H4 y z' u w' _ I4 r2 r4 q4) fun d' s5 ⟨z2,H5,I5,r5,k2,e2,q5⟩=>?_))
  subst e2
  cases r5
  refine wpAny_truthy_bool ?_
  cases k2 with
  | false=>exact ite_ff ⟨.bl false,H5,I5,rfl,q5⟩
  | true=>exact ite_tt (chain_last (thn (hd pins s5 σ H5 _ I5 q5) fun w3 s6 ⟨z3,H6,I6,r6,q6⟩=>ho'' pins s6 σ H6 z' z3 w' w3 Q I6 r4 r6 q6))
end
structure Blt (mg:Str→Option Value):Prop where
 len_:mg "len" = none
 range_:mg "range" = none
 abs_:mg "abs" = none
 isinstance_:mg "isinstance" = none
 int_:mg "int" = none
 bool_:mg "bool" = none
 tuple_:mg "tuple" = none
 max_:mg "max" = none
 min_:mg "min" = none
end My
namespace My
open PySem PySem.Spec PyProof.Rows L2
abbrev cx (P:Program) (w:World) (K:PySem.W.Frag) (mg:Str→Option Value) (base:Heap) (N:List Str) (x:Str) (st:Stmt) (f:Addr) (cdv:Value) (A:Around) (outer:List Env) (s:Shared) (H:Hp) (E:XK):Cx :=
 (Bt CX0 P w K mg base N x (bG st) f cdv A outer s H E).nox
end My
variable {env:Env}
namespace My
open PySem PySem.Spec PyProof.Rows L2
def oF (env:Env):List (Str × NameKind)→List (Str × Addr)→List (Str × Addr)
 | [],cs=>cs
 | (n,k) :: r,cs=>if (k == NameKind.free)=true then oF env r ((n,(env.cells.lookup n).getD 0) :: cs) else oF env r cs
theorem rG:∀ (l:List (Str × NameKind)) (cs:List (Str × Addr)),(∀ x ∈ l,x.2 = .free→∃ c,env.cells.lookup x.1=some c) →
 (forIn l cs fun (x:Str × NameKind) (r:List (Str × Addr))=>(if (x.2 == NameKind.free)=true then (do let c ← cellOf env x.1;pure (ForInStep.yield ((x.1,c) :: r))) else pure (ForInStep.yield r):Sem (ForInStep (List (Str × Addr)))))=pure (oF env l cs)
 | [],_,_=>rfl
 | (n,k) :: r,cs,h=>by
  rw [o_]
  by_cases hk:(k == NameKind.free)=true
  ·obtain ⟨c,hc⟩:=h (n,k) aG (beq_iff_eq.mp hk)
   have hc':cellOf env n=pure c:=by
    unfold cellOf
    rw [show env.cells.lookup n=some c from hc]
   show (do let x ← (if (k == NameKind.free)=true then (do let c ← cellOf env n;pure (ForInStep.yield ((n,c) :: cs))) else pure (ForInStep.yield cs):Sem (ForInStep (List (Str × Addr))));_)=_
   rw [if_pos hk,hc']
   have ih:=rG r ((n,c) :: cs) fun x hx=>h x (aJ _ hx)
   rw [oF,if_pos hk,show env.cells.lookup n=some c from hc]
   exact ih
  ·show (do let x ← (if (k == NameKind.free)=true then (do let c ← cellOf env n;pure (ForInStep.yield ((n,c) :: cs))) else pure (ForInStep.yield cs):Sem (ForInStep (List (Str × Addr))));_)=_
   rw [if_neg hk]
   have ih:=rG r cs fun x hx=>h x (aJ _ hx)
   rw [oF,if_neg hk]
   exact ih
theorem Em {scope:Scope} (h:∀ x ∈ scope.names,x.2 = .free→∃ c,env.cells.lookup x.1=some c):closureFor scope env=pure (oF env scope.names []):=by
 have z:=rG (env:=env) scope.names [] h
 show (forIn scope.names [] fun (x:Str × NameKind) (r:List (Str × Addr))=>(if (x.2 == NameKind.free)=true then (do let c ← cellOf env x.1;pure (ForInStep.yield ((x.1,c) :: r))) else pure (ForInStep.yield r):Sem (ForInStep (List (Str × Addr))))) >>= (fun cs=>pure cs)=_
 rw [z]
 rfl
theorem vU:∀ (l:List (Str × NameKind)) (cs:List (Str × Addr)),(∀ x ∈ l,x.2 = .free→∃ c,env.cells.lookup x.1=some c)→(∀ x c,cs.lookup x=some c→env.cells.lookup x=some c) →
 ∀ x c,(oF env l cs).lookup x=some c→env.cells.lookup x=some c
 | [],_,_,hc,x,c,e=>hc x c e
 | (n,k) :: r,cs,h,hc,x,c,e=>by
  rw [oF] at e
  by_cases hk:(k == NameKind.free)=true
  ·rw [if_pos hk] at e
   obtain ⟨d,hd⟩:=h (n,k) aG (beq_iff_eq.mp hk)
   refine vU r _ (fun x hx=>h x (aJ _ hx)) (fun y c' e'=>?_) x c e
   rw [cX] at e'
   cases hy:y == n with
   | true =>
    rw [hy] at e'
    have:y=n:=beq_iff_eq.mp hy
    subst this
    rw [show env.cells.lookup y=some d from hd] at e' ⊢
    exact e'
   | false =>
    rw [hy] at e'
    exact hc y c' e'
  ·rw [if_neg hk] at e
   exact vU r cs (fun x hx=>h x (aJ _ hx)) hc x c e
theorem pQ:∀ (l:List (Str × NameKind)) (cs:List (Str × Addr)) (x:Str),((x,NameKind.free) ∈ l∨∃ c,cs.lookup x=some c)→∃ c,(oF env l cs).lookup x=some c
 | [],_,x,h=>by
  rcases h with h | h
  ·exact absurd h (by simp)
  ·exact h
 | (n,k) :: r,cs,x,h=>by
  rw [oF]
  by_cases hk:(k == NameKind.free)=true
  ·rw [if_pos hk]
   refine pQ r _ x ?_
   by_cases e:x=n
   ·subst e
    exact .inr ⟨_,by rw [cX,beq_self_eq_true]⟩
   ·rcases h with h | ⟨c,h⟩
    ·rcases aY.mp h with h | h
     ·exact absurd (congrArg Prod.fst h) e
     ·exact .inl h
    ·exact .inr ⟨c,by rw [cX,beq_eq_false_iff_ne.mpr e];exact h⟩
  ·rw [if_neg hk]
   refine pQ r cs x ?_
   rcases h with h | h
   ·rcases aY.mp h with h | h
    ·have:k = .free:=(congrArg Prod.snd h).symm
     subst this
     exact absurd rfl hk
    ·exact .inl h
   ·exact .inr h
abbrev blk (X:Cx) (N':List Str) (scope:Scope) (cl:List (Str × Addr)) (C:Addr) (s3:Shared) (H3:Hp) (fp:List Addr):Cx :=
 { X with N:=N',s₀:=s3,H₀:=H3,env:=compEnvC scope cl C X.env,outer:=X.stack,ex:=fp,fn:=fun _=>false,xe:=fun _ _=>False }
def vV (N:List Str) (kinds sn:List (Str × NameKind)):List Str→List Nat→Bool
 | [],[]=>true
 | x :: V,j :: ix=>(N[j]? == some x) && ((kinds.lookup x == some NameKind.cell) && ((sn.lookup x == some NameKind.free) && vV N kinds sn V ix))
 | _,_=>false
def pF (t:Nat) (ix:List Nat) (σ:St):St:=bA t none++ix.map fun j=>(σ[j]?).getD none
theorem vW {kinds sn:List (Str × NameKind)}:∀ {V:List Str} {ix:List Nat},vV N kinds sn V ix=true→ix.length=V.length∧∀ (k:Nat) (x:Str),V[k]? = some x→∃ j,ix[k]? = some j∧N[j]? = some x∧kinds.lookup x=some .cell∧sn.lookup x=some .free
 | [],[],_=>⟨rfl,fun k x h=>by simp at h⟩
 | x :: V,j :: ix,h=>by
  rw [vV,bw,bw,bw] at h
  obtain ⟨h1,h2,h3,h4⟩:=h
  obtain ⟨l,r⟩:=vW h4
  refine ⟨by simp [l],fun k y hy=>?_⟩
  cases k with
  | zero =>
   simp at hy
   subst hy
   exact ⟨j,rfl,beq_iff_eq.mp h1,beq_iff_eq.mp h2,beq_iff_eq.mp h3⟩
  | succ k=>exact r k y (by simpa using hy)
 | [],_ :: _,h=>by simp [vV] at h
 | _ :: _,[],h=>by simp [vV] at h
theorem sJ {env:Env} (hf:env.scope.kind = .function):∀ {names:List (Str × NameKind)} {x:Str},names.lookup x=some .free→env.kindOf x=some .cell →
 (names.map fun (n,k)=>if (k == NameKind.free && env.scope.kind == .function && env.kindOf n == some .cell) then (n,NameKind.cell) else (n,k)).lookup x=some .cell
 | [],_,h,_=>by simp at h
 | (n,k) :: r,x,h,hc=>by
  have ih:=@sJ env hf r x
  show uL x ((if (k == NameKind.free && env.scope.kind == .function && env.kindOf n == some .cell)=true then (n,NameKind.cell) else (n,k)) :: _)=_
  cases hx:x == n with
  | true =>
   have e:x=n:=beq_iff_eq.mp hx
   subst e
   simp only [cX,hx] at h
   cases h
   rw [if_pos (by rw [hf,hc];rfl)]
   simp [cX]
  | false =>
   simp only [cX,hx] at h
   by_cases hq:(k == NameKind.free && env.scope.kind == .function && env.kindOf n == some .cell)=true
   ·rw [if_pos hq];simp only [cX,hx];exact ih h hc
   ·rw [if_neg hq];simp only [cX,hx];exact ih h hc
theorem oG {env:Env}:∀ {names:List (Str × NameKind)} {x:Str} {k:NameKind},(∀ y ∈ names,y.2 ≠ .cell)→(k = .cell∨k = .free) →
 (names.map fun (n,k)=>if (k == NameKind.free && env.scope.kind == .function && env.kindOf n == some .cell) then (n,NameKind.cell) else (n,k)).lookup x=some k→(x,NameKind.free) ∈ names
 | [],_,_,_,_,h=>by simp at h
 | (n,k') :: r,x,k,hc,hk,h=>by
  have ih:=@oG env r x k (fun y hy=>hc y (aJ _ hy)) hk
  have h':uL x ((if (k' == NameKind.free && env.scope.kind == .function && env.kindOf n == some .cell)=true then (n,NameKind.cell) else (n,k')) :: (r.map fun (n,k)=>if (k == NameKind.free && env.scope.kind == .function && env.kindOf n == some .cell) then (n,NameKind.cell) else (n,k)))=some k:=h
  by_cases hq:(k' == NameKind.free && env.scope.kind == .function && env.kindOf n == some .cell)=true
  ·rw [if_pos hq] at h'
   have kf:k' = .free:=by
    rw [bw,bw] at hq
    exact beq_iff_eq.mp hq.1.1
   cases hx:x == n with
   | true =>
    have e:x=n:=beq_iff_eq.mp hx
    subst e
    subst kf
    exact aG
   | false =>
    simp only [cX,hx] at h'
    exact aJ _ (ih h')
  ·rw [if_neg hq] at h'
   cases hx:x == n with
   | true =>
    have e:x=n:=beq_iff_eq.mp hx
    subst e
    simp only [cX,hx] at h'
    cases h'
    rcases hk with hk | hk
    ·exact absurd hk (hc _ aG)
    ·subst hk
     exact aG
   | false =>
    simp only [cX,hx] at h'
    exact aJ _ (ih h')
section
variable {X:Cx} {pins:List (Addr × Obj)} {σ:St} {H:Hp} {s:Shared}
theorem Inv.forget {σ':St} (I:Inv X pins σ H s) (hl:σ'.length=X.N.length) (h:∀ (i:Nat) (v:V),σ'[i]? = some (some v)→σ[i]? = some (some v)):Inv X pins σ' H s:=by
 obtain ⟨m,hn,hx⟩:=I.loc
 exact ⟨I.ok,I.os,I.bare,I.base,⟨m,hn,fun i x v e1 e2 e3=>hx i x v e1 (h i v e2) e3⟩,I.cell,I.free,I.freeC,I.pin,I.hok,hl⟩
end
end My
variable {prog:Program} {R:Result→Shared→Prop} {ix:List Nat}
namespace My
open PySem PySem.Spec PyProof.Rows L2
theorem BK {elt target:Expr} {ifs:List Expr} {scope:Scope} {it acc:Value} (I:Nat→Shared→Prop)
 (turn:∀ n s,I n s→wpAny (model prog w) A (pyNext it) (fun r s₁=>match r with
  | none=>R (.ok .next) s₁
  | some v=>wpAny (model prog w) A (letOwnedTupleGo target it v) (fun _ s₁'=>wpAny (model prog w) A (assign target env v) (fun _ s₂ =>
   wpAny (model prog w) A (forIn ifs true fun c r=>if r=true then do let ok ← isTrue c env (eval c env);pure (ForInStep.yield ok) else pure (ForInStep.yield r)) (fun ok s₃ =>
    if ok=true then wpAny (model prog w) A (eval elt env) (fun x s₄ =>
     wpAny (model prog w) A (call (.builtin "list.append") [acc,x]) (fun _ s₅=>∃ m,m < n∧I m s₅) (fun _ _=>False) s₄) (fun _ _=>False) s₃
    else ∃ m,m < n∧I m s₃) (fun _ _=>False) s₂) (fun _ _=>False) s₁') (fun _ _=>False) s₁) (fun _ _=>False) s)
 (n:Nat) (h:I n s) :
 codeAny (model prog w) A (.compLoop (.ListComp elt [⟨target,iter,ifs,0⟩] scope pos) 0 it acc env) R s:=by
 refine codeAny_loop rfl I (fun n s hI=>?_) n h
 show wpAny _ A ((compTurn (.ListComp elt [⟨target,iter,ifs,0⟩] scope pos) 0 it acc env).onRaise (fun x=>do noteFrame x env;theTreesLotGoes x)) _ _ s
 refine wpAny_noted ?_
 rw [compTurn_list]
 refine wpAny_bind (wpAny_standAt (wpAny_bind (wpAny_mono (turn n s hI) (fun r s₁ h₁=>?_) fun _ _ h'=>h'.elim)))
 cases r with
 | none=>exact wpAny_pure h₁
 | some v =>
  refine wpAny_bind (wpAny_mono h₁ (fun _ s₁' h₁'=>?_) fun _ _ h'=>h'.elim)
  refine wpAny_bind (wpAny_mono h₁' (fun _ s₂ h₂=>wpAny_bind (wpAny_mono h₂ (fun ok s₃ h₃=>?_) fun _ _ h'=>h'.elim)) fun _ _ h'=>h'.elim)
  cases ok with
  | false=>exact wpAny_pure ⟨rfl,h₃⟩
  | true =>
   exact wpAny_bind (wpAny_bind (wpAny_mono h₃ (fun x s₄ h₄=>wpAny_bind (wpAny_mono h₄ (fun _ s₅ h₅=>wpAny_pure (wpAny_pure ⟨rfl,h₅⟩)) fun _ _ h'=>h'.elim)) fun _ _ h'=>h'.elim))
section
variable {X:Cx} {pins:List (Addr × Obj)} {σ:St} {H:Hp}
theorem Iv {T V:List Str} {scope:Scope} {s3:Shared} {h₁:Heap} {tk:Nat}
 (I:Inv X pins σ H s3) (hf:∀ b ∈ fp,tY X pins H b) (ho:∀ b ∈ fp,∃ o,s3.heap.get? b=some o)
 (hk:scope.kind = .function) (hcell:∀ y ∈ scope.names,y.2 ≠ .cell) (hfr:∀ x ∈ scope.names,x.2 = .free→x.1 ∈ V) (hB:vV X.N X.env.scope.names scope.names V ix=true)
 (hns:h₁.Ns s3.heap.objs.size m) (keep:∀ b o,s3.heap.get? b=some o→h₁.get? b=some o) :
 Inv (blk X (T++V) scope (oF X.env scope.names []) s3.heap.objs.size s3 H fp) pins (pF T.length ix σ) H { s3 with heap:=h₁,toks:=tk }:=by
 obtain ⟨lV,capV⟩:=vW hB
 have hcl:∀ x ∈ scope.names,x.2 = .free→∃ c,X.env.cells.lookup x.1=some c:=fun x hx e=>by
  obtain ⟨k,ek⟩:=dZ (hfr x hx e)
  obtain ⟨j,_,_,hc,_⟩:=capV k _ ek
  exact I.ok.has _ (.inl hc)
 have sub:=vU (env:=X.env) scope.names [] hcl (fun x c e=>by simp at e)
 have stkSub:∀ b,b ∈ frs X.stack→b=X.env.locals∨b ∈ X.fs:=fun b z=>aY.mp (I.stkSub b z)
 have lt:∀ b o,s3.heap.get? b=some o→b ≠ s3.heap.objs.size:=fun b o e=>aR (Heap.lt_size e)
 have cellK:∀ c v,s3.heap.IsCell c v→h₁.IsCell c v:=fun c v ⟨o,e,d⟩=>⟨o,keep c o e,d⟩
 refine ⟨⟨I.ok.mod,hk,I.ok.glob,I.ok.blt,aL _,fun x y c e1 e2=>I.ok.inj x y c (sub x c e1) (sub y c e2),fun x hx=>?_,fun x c hx=>?_,I.ok.hd,I.ok.frames,.inl rfl,fun b hb=>⟨?_,fun x c e=>?_⟩,I.bs,aW I.ok.bsz I.sz,fun b o e hb=>?_,fun b hb z=>?_,I.stack,I.stkFree⟩,
  rfl,I.bare,Un.kept keep,⟨m,hns,fun i x v e1 e2 e3=>?_⟩,fun x c e=>?_,I.hok.fresh (aL _),fun x c e=>I.freeC x c (sub x c e),fun p hp=>?_,I.hok.kept keep,?_⟩
 ·rcases hx with hx | hx
  ·exact pQ _ _ x (.inl (oG hcell (.inl rfl) hx))
  ·exact pQ _ _ x (.inl (oG hcell (.inr rfl) hx))
 ·exact absurd hx (by simp)
 ·obtain ⟨o,e⟩:=ho b hb
  exact lt b o e
 ·exact (hf b hb).2.2.2.2.1 x c (sub x c e)
 ·rcases (hf b hb).2.2.2.1 with z | z
  ·exact I.ok.noex b o e z
  ·exact absurd (bJ (Heap.lt_size e) (aW I.ok.bsz z)) (dO _)
 ·rcases stkSub b z with z | z
  ·exact (hf b hb).2.1 z
  ·exact (hf b hb).2.2.1 z
 ·by_cases hi:i < T.length
  ·have e2':(bA T.length none++ix.map fun j=>(σ[j]?).getD none)[i]? = some (some v):=e2
   rw [cR (by rw [bO];exact hi),fH,if_pos hi] at e2'
   exact absurd e2' (by simp)
  ·have e1':(T++V)[i]? = some x:=e1
   rw [cF (by omega)] at e1'
   obtain ⟨j,hj,hN,hc,hfree⟩:=capV _ x e1'
   have e2':(bA T.length none++ix.map fun j=>(σ[j]?).getD none)[i]? = some (some v):=e2
   rw [cF (by rw [bO];omega),bO,aO,hj] at e2'
   have e2'':(σ[j]?).getD none=some v:=by simpa using e2'
   have e3':σ[j]? = some (some v):=by
    cases q:σ[j]? with
    | none=>rw [q] at e2'';exact absurd e2'' (by simp)
    | some o=>rw [q] at e2'';simp at e2'';rw [e2'']
   obtain ⟨m0,hn0,hl⟩:=I.loc
   obtain ⟨u,r,l⟩:=hl j x v hN e3' (.inr (.inl hc))
   rcases l with ⟨z,_⟩ | ⟨_,c,ec,hcell'⟩
   ·have z':X.env.scope.names.lookup x=some .local:=z
    rw [hc] at z'
    exact absurd z' (by simp)
   ·obtain ⟨c',ec'⟩:=pQ (env:=X.env) scope.names [] x (.inl (PySem.mem_of_lookup hfree))
    have:c'=c:=by
     have q:=sub x c' ec'
     rw [ec] at q
     exact (b_.inj q).symm
    subst this
    exact ⟨u,r,.inr ⟨.inl (sJ I.ok.kind hfree hc),c',ec',cellK _ _ hcell'⟩⟩
 ·obtain ⟨v,z⟩:=I.cell x c (sub x c e)
  exact ⟨v,cellK c v z⟩
 ·obtain ⟨e,n,ne,nf,d⟩:=I.pin p hp
  refine ⟨keep _ _ e,n,lt _ _ e,fun z=>?_,d⟩
  rcases stkSub p.1 z with z | z
  ·exact ne z
  ·exact nf z
 ·show (bA T.length none++ix.map fun j=>(σ[j]?).getD none).length=(T++V).length
  rw [bK,bO,aC,bK,lV]
theorem Ko {N':List Str} {scope:Scope} {cl:List (Str × Addr)} {pins':List (Addr × Obj)} {σ':St} {H3:Hp} {s3 s':Shared} (I3:Inv X pins σ H3 s3) (hf:∀ b ∈ fp,tY X pins H3 b)
 (I':Inv (blk X N' scope cl s3.heap.objs.size s3 H3 fp) pins' σ' H' s'):Inv X pins σ H' s'∧tY X pins H' s3.heap.objs.size:=by
 have fr:H' s3.heap.objs.size=none:=I'.free
 refine ⟨?_,I3.fpOk (aL _) fr⟩
 have os:s'.os=s3.os:=I'.os
 have u:Un (frs X.stack) fp H3 H' s3.heap s'.heap:=I'.base
 have ho:=I'.hok
 have hb:=I'.bare
 obtain ⟨hh,g,d,t,os'⟩:=s'
 obtain rfl:os'=s3.os:=os
 exact I3.call (h':=hh) (g':=g) (d':=d) (t':=t) (ch:=fp) u ho hb fun b hb'=>⟨(hf b hb').2.2.2.1,(hf b hb').2.1,(hf b hb').2.2.2.2.1,(hf b hb').2.2.2.2.2⟩
end
def PTs (X:Cx) (ifs:List Expr) (t:TT):Prop :=
 ∀ (pins:List (Addr × Obj)) (s:Shared) (σ:St) (H:Hp) (Q:Bool→Hp→Prop),Inv X pins σ H s→t σ H Q →
  wpAny (model X.prog X.w) X.A (forIn ifs true fun c r=>if r=true then do let ok ← isTrue c X.env (eval c X.env);pure (ForInStep.yield ok) else pure (ForInStep.yield r)) (TP X pins σ Q) X.xe s
def j_:TT:=fun _ H Q=>Q true H
theorem P_:PTs X [] j_:=fun _ _ _ H _ I h=>wpAny_tests_nil ⟨H,I,h⟩
theorem Gq {c:Expr} {t:TT} (h:PT X c t):PTs X [c] t:=fun pins s σ H Q I q=>wpAny_tests_one (h pins s σ H Q I q)
def BL (wi:TI) (g:TG) (tt:TT) (te:TE) (t:Nat) (cap:St→St):TE:=fun σ H Q=>wi σ H fun J H1=>∀ D,H1 D=none→∃ W:Nat→Nat→List V→Hp→Prop,(∃ m,W 0 m [] (upd H1 D (.lst []))) ∧
 ∀ i m xs H2,W i m xs H2→H2 D=some (.lst xs)∧((J.stop i H2∧Q (.ref D) H2)∨(J.go i H2∧xs.length < sizeLine∧∀ x H3,J.yld i H2 x H3→g x (cap σ) H3 fun σ4 H4=>σ4.drop t=(cap σ).drop t ∧
  tt σ4 H4 fun b H5=>if b=true then te σ4 H5 fun v H6=>H6 D=some (.lst xs)∧∃ m',m' < m∧W (i + 1) m' (xs++[v]) (upd H6 D (.lst (xs++[v]))) else ∃ m',m' < m∧W (i + 1) m' xs H5))
section
variable {X:Cx} {elt tg iter:Expr} {ifs:List Expr} {scope:Scope} {pos:Pos} {T V:List Str} {ix:List Nat} {wi:TI} {g:TG} {tt:TT} {te:TE}
theorem Iw (hc:X.calm=true) (hi:PI X tg iter wi)
 (hg:∀ cl C s3 H3 fp,PG (blk X (T++V) scope cl C s3 H3 fp) tg g) (ht:∀ cl C s3 H3 fp,PTs (blk X (T++V) scope cl C s3 H3 fp) ifs tt) (he:∀ cl C s3 H3 fp,PE (blk X (T++V) scope cl C s3 H3 fp) elt te)
 (hB:vV X.N X.env.scope.names scope.names V ix=true) (hk:scope.kind = .function) (hcell:∀ y ∈ scope.names,y.2 ≠ .cell) (hnames:∀ x ∈ scope.names,x.2 = .local→scope.names.lookup x.1=some .local)
 (hfr:∀ x ∈ scope.names,x.2 = .free→x.1 ∈ V) (hs:∀ x,foldedSetIterable iter X.env x=pure x) {p:Pos}
 {pins:List (Addr × Obj)} {s:Shared} {σ:St} {H:Hp} (I:Inv X pins σ H s) {use:Option (Value→Sem Unit)} {Qp:Value→Shared→Prop} {Qv:VK} (h:BL wi g tt te T.length (pF T.length ix) σ H Qv)
 (fin:∀ (D C:Addr) (H':Hp) (s':Shared) (m:Str→Option Value),Inv X pins σ H' s'→tY X pins H' C→s'.heap.Ns C m→Qv (.ref D) H'→compPost (model X.prog X.w) X.A X.xe use Qp (.ref D) C (.ok .next) s') :
 wpAny (model X.prog X.w) X.A (comprehension (.ListComp elt [⟨tg,iter,ifs,0⟩] scope pos) scope X.env p (newList []) false (eval iter X.env) use) Qp X.xe s:=by
 obtain ⟨lV,capV⟩:=vW hB
 have hcl:∀ x ∈ scope.names,x.2 = .free→∃ c,X.env.cells.lookup x.1=some c:=fun x hx e=>by
  obtain ⟨k,ek⟩:=dZ (hfr x hx e)
  obtain ⟨j,_,_,hc',_⟩:=capV k _ ek
  exact I.ok.has _ (.inl hc')
 refine wpAny_comprehension_free rfl hs (Em hcl) hk hnames ?_
 refine thn (hi pins s σ H _ I h) fun v s1 h1=>thn h1 fun itv s2 h2=>?_
 obtain ⟨it,fp,tn,J,H2,e,I2,Tn,st2,f2,R⟩:=h2
 subst e
 refine wpAny_newObj_type (hd:=by size_fits) ?_
 have hD:H2 s2.heap.objs.size=none:=I2.hok.fresh (aL _)
 have I3:Inv X pins σ (upd H2 s2.heap.objs.size (.lst [])) { s2 with heap:=s2.heap.push { cls:=.type "list", dict:=none,data:=.seq ([]:List Value).toArray } } :=
  I2.laid (t':=s2.toks) (fun b o e=>Heap.get?_push_of_some _ e) (aL _) ⟨cZ _,[],0,.nil,Heap.get?_push_size _ rfl⟩
 obtain ⟨W,⟨m0,w0⟩,turn⟩:=R s2.heap.objs.size hD
 generalize hs3:({ s2 with heap:=s2.heap.push { cls:=.type "list", dict:=none,data:=.seq ([]:List Value).toArray } }:Shared)=s3 at I3 ⊢
 have st3:tn 0 s3.heap:=by
  rw [← hs3]
  exact Tn.keep 0 s2.heap _ st2 fun b hb o e=>Heap.get?_push_of_some _ e
 have f3:∀ b ∈ fp,tY X pins (upd H2 s2.heap.objs.size (.lst [])) b:=fun b hb=>by
  obtain ⟨z0,z1⟩:=f2 b hb
  refine ⟨?_,z1⟩
  obtain ⟨o,eo,_⟩:=Tn.obj 0 _ st2 b hb
  rw [bB (aR (Heap.lt_size eo))]
  exact z0
 generalize hH3:upd H2 s2.heap.objs.size (.lst [])=H3 at I3 f3 w0
 generalize hDn:s2.heap.objs.size=D at turn
 refine wpAny_newFunctionEnv hcell (by intro y hy;simp at hy) (fun h₁ hns₁ hsb₁=>?_) hk
 have keep:∀ b o,s3.heap.get? b=some o→h₁.get? b=some o:=fun b o e=>hsb₁.extBut b o (aR (Heap.lt_size e)) (Heap.get?_push_of_some _ e)
 have I4:=Iv (T:=T) (tk:=s3.toks + ([]:List (Str × Value)).length) I3 f3 (fun b hb=>let ⟨o,eo,_⟩:=Tn.obj 0 _ st3 b hb;⟨o,eo⟩) hk hcell hfr hB hns₁ keep
 have st4:tn 0 h₁:=Tn.keep 0 _ _ st3 fun b hb o e=>keep b o e
 have loop:codeAny (model X.prog X.w) X.A (.compLoop (.ListComp elt [⟨tg,iter,ifs,0⟩] scope pos) 0 (.ref it) (.ref D) (compEnvC scope (oF X.env scope.names []) s3.heap.objs.size X.env))
  (compPost (model X.prog X.w) X.A X.xe use Qp (.ref D) s3.heap.objs.size) { s3 with heap:=h₁,toks:=s3.toks + ([]:List (Str × Value)).length }:=by
  refine BK (fun n s'=>∃ i xs H',Inv (blk X (T++V) scope (oF X.env scope.names []) s3.heap.objs.size s3 H3 fp) pins (pF T.length ix σ) H' s'∧tn i s'.heap∧(∀ b ∈ fp,H' b=none)∧W i n xs H') ?_ m0
   ⟨0,[],H3,I4,st4,fun b hb=>(f3 b hb).1,w0⟩
  rintro n s5 ⟨i,xs,H5,I5,st5,fr5,w5⟩
  have stat:∀ {H':Hp} {pins':List (Addr × Obj)} {σ':St} {s':Shared},Inv (blk X (T++V) scope (oF X.env scope.names []) s3.heap.objs.size s3 H3 fp) pins σ' H' s'→(∀ b ∈ fp,H' b=none)→∀ b ∈ fp,tY (blk X (T++V) scope (oF X.env scope.names []) s3.heap.objs.size s3 H3 fp) pins H' b:=fun I' hn b hb=>by
   obtain ⟨x1,x2⟩:=I'.ok.exf b hb
   refine ⟨hn b hb,x1,I'.ok.exfs b hb,.inl hb,x2,fun q hq=>?_⟩
   exact (f3 b hb).2.2.2.2.2 q hq
  obtain ⟨hD5,r5⟩:=turn i n xs H5 w5
  rcases r5 with ⟨stop,q⟩ | ⟨go,hz,step⟩
  ·refine thn (Tn.done (blk X (T++V) scope (oF X.env scope.names []) s3.heap.objs.size s3 H3 fp) rfl rfl rfl hc i pins s5 _ H5 _ I5 (stat (pins':=pins) I5 fr5) st5 stop) fun r s6 ⟨hr,I6⟩=>?_
   subst hr
   obtain ⟨Ib,fC⟩:=Ko I3 f3 I6
   obtain ⟨m,hn,_⟩:=I6.loc
   exact fin D _ H5 s6 m Ib fC hn q
  ·refine thn (Tn.item (blk X (T++V) scope (oF X.env scope.names []) s3.heap.objs.size s3 H3 fp) rfl rfl rfl hc i pins s5 _ H5 _ I5 (stat (pins':=pins) I5 fr5) st5 go) fun r s6 ⟨u,hr,h6⟩=>?_
   subst hr
   refine thn h6 fun _ s7 ⟨x,H7,I7,rx,y7,st7,fr7⟩=>?_
   have I7':=I7.pinned (stat (pins':=pins) I7 fr7) (Tn.obj _ _ st7)
   refine thn (hg _ _ _ _ _ _ s7 _ H7 x u _ I7' rx (step x H7 y7)) fun _ s8 ⟨σ8,H8,I8,k8,q8⟩=>?_
   have again:∀ {H9:Hp} {s9:Shared},Inv (blk X (T++V) scope (oF X.env scope.names []) s3.heap.objs.size s3 H3 fp) (pins++vO fp s7.heap) σ8 H9 s9 →
    Inv (blk X (T++V) scope (oF X.env scope.names []) s3.heap.objs.size s3 H3 fp) pins (pF T.length ix σ) H9 s9∧tn (i + 1) s9.heap∧∀ b ∈ fp,H9 b=none:=fun {H9 s9} I9=>by
    refine ⟨Inv.forget I9.unpinned I4.len fun j v e=>?_,Tn.keep _ _ _ st7 fun b hb o e=>(I9.pin (b,o) (bF _ (bF _ (ou hb e)))).1,fun b hb=>?_⟩
    ·by_cases hj:j < T.length
     ·have e':(bA T.length none++ix.map fun j=>(σ[j]?).getD none)[j]? = some (some v):=e
      rw [cR (by rw [bO];exact hj),fH,if_pos hj] at e'
      exact absurd e' (by simp)
     ·have ej:j=T.length + (j - T.length):=by omega
      rw [ej,← eY] at e ⊢
      rw [k8]
      exact e
    ·obtain ⟨o,e,d⟩:=Tn.obj _ _ st7 b hb
     exact (I9.pin (b,o) (bF _ (bF _ (ou hb e)))).2.1
   refine thn (ht _ _ _ _ _ _ s8 σ8 H8 _ I8 q8) fun ok s9 ⟨H9,I9,q9⟩=>?_
   cases ok with
   | false =>
    obtain ⟨m',lm,w9⟩:=q9
    obtain ⟨a1,a2,a3⟩:=again I9
    exact ⟨m',lm,i + 1,xs,H9,a1,a2,a3,w9⟩
   | true =>
    refine thn (he _ _ _ _ _ _ s9 σ8 H9 _ I9 q9) fun y s10 ⟨v,H10,I10,ry,hD10,m',lm,w10⟩=>?_
    refine thn (uc _ s10 σ8 H10 (.ref D) [v] (.ref D) [y] (fun _ Hn=>Hn=upd H10 D (.lst (xs++[v]))) I10 rfl (.cons ry .nil) ⟨D,xs,v,rfl,rfl,hD10,hz,rfl⟩) fun _ s11 ⟨_,H11,I11,_,e11⟩=>?_
    subst e11
    obtain ⟨a1,a2,a3⟩:=again I11
    exact ⟨m',lm,i + 1,_,_,a1,a2,a3,w10⟩
 exact codeAny_compStart_list loop (Tn.self _ 0 _ _ _ st4 loop)
theorem zB (hc:X.calm=true) (T V:List Str) (ix:List Nat) (hi:PI X tg iter wi)
 (hg:∀ cl C s3 H3 fp,PG (blk X (T++V) scope cl C s3 H3 fp) tg g) (ht:∀ cl C s3 H3 fp,PTs (blk X (T++V) scope cl C s3 H3 fp) ifs tt) (he:∀ cl C s3 H3 fp,PE (blk X (T++V) scope cl C s3 H3 fp) elt te)
 (hB:vV X.N X.env.scope.names scope.names V ix=true:=by rfl) (hk:scope.kind = .function:=by rfl) (hcell:∀ y ∈ scope.names,y.2 ≠ .cell:=by decide +kernel)
 (hnames:∀ x ∈ scope.names,x.2 = .local→scope.names.lookup x.1=some .local:=by decide +kernel)
 (hfr:∀ x ∈ scope.names,x.2 = .free→x.1 ∈ V:=by decide +kernel) (hs:∀ x,foldedSetIterable iter X.env x=pure x:=by intro _;rfl) :
 PE X (.ListComp elt [⟨tg,iter,ifs,0⟩] scope pos) (BL wi g tt te T.length (pF T.length ix)):=by
 intro pins s σ H Q I h
 rw [eval_ListComp]
 refine Iw (use:=none) hc hi hg ht he hB hk hcell hnames hfr hs I h fun D C H' s' m I' fC hn q=>⟨m,hn,fun h' sb=>⟨.ref D,H',?_,rfl,q⟩⟩
 obtain ⟨z0,z1,z2,z3,z4,z5⟩:=fC
 exact I'.turned (t':=s'.toks) (fun b o hb e=>sb.extBut b o hb e) z0 z1 z3 z4 z5
end
section
variable {X:Cx} {K:PySem.W.Frag}
end
end My
namespace D3
open PySem
abbrev D:=PyData
inductive U where
 | d (x:D)
 | x (c f:Str) (v:D)
abbrev DS:=List (Option U)
inductive Oc where
 | nx (δ:DS)
 | rt (d:D)
 | bk (δ:DS)
 | ct (δ:DS)
 | ex (c f:Str) (v:D)
abbrev FE:=DS→Option D
abbrev FA:=DS→Option (List D)
abbrev FT:=DS→Option Bool
abbrev FS:=DS→Option Oc
abbrev FG:=D→DS→Option DS
mutual
def flat:D→Bool
 | .none=>true
 | .bool _=>true
 | .int _=>true
 | .str _=>true
 | .list _=>false
 | .tuple xs=>flats xs
 | .dict _=>false
def flats:List D→Bool
 | []=>true
 | x :: r=>flat x && flats r
end
mutual
def nl:D→Nat
 | .none=>0
 | .bool _=>0
 | .int _=>0
 | .str _=>0
 | .list xs=>nls xs + 1
 | .tuple xs=>nls xs
 | .dict _=>1
def nls:List D→Nat
 | []=>0
 | x :: r=>nl x + nls r
end
def fl1:D→Bool
 | .list xs=>flats xs
 | d=>flat d
def aF (i:Nat):FE:=fun δ=>match δ[i]? with
 | some (some (.d x))=>some x
 | _=>none
def dC (d:D):FE:=fun _=>some d
def dOp (g:D→D→Option D) (fa fb:FE):FE:=fun δ=>(fa δ).bind fun x=>(fb δ).bind fun y=>g x y
def dUn (g:D→Option D) (fa:FE):FE:=fun δ=>(fa δ).bind g
def bC:FA:=fun _=>some []
def aH (fa:FE) (fr:FA):FA:=fun δ=>(fa δ).bind fun x=>(fr δ).bind fun r=>some (x :: r)
def dTup (fa:FA):FE:=fun δ=>(fa δ).bind fun l=>if l.length ≤ sizeLine then some (.tuple l) else none
def mO (fa:FA):FE:=fun δ=>(fa δ).bind fun l=>if l.length ≤ sizeLine then some (.list l) else none
def dCall (F:List D→Option D) (fa:FA):FE:=fun δ=>(fa δ).bind F
def mQ (fa:FE):FE:=fun δ=>(fa δ).bind fun d=>if flat d=true then some d else none
def dN1 (fa:FE):FE:=fun δ=>(fa δ).bind fun d=>if decide (nl d ≤ 1)=true then some d else none
def En (fa:FE):FE:=fun δ=>(fa δ).bind fun d=>if fl1 d=true then some d else none
def rH (fa fb:FE):FE:=fun δ=>(fa δ).bind fun x=>match x with
 | .bool true=>fb δ
 | .bool false=>some (.bool false)
 | _=>none
def dOr (fa fb:FE):FE:=fun δ=>(fa δ).bind fun x=>match x with
 | .bool true=>some (.bool true)
 | .bool false=>fb δ
 | _=>none
def Kp (fa:FE):FE:=fun δ=>(fa δ).bind fun x=>match x with
 | .bool b=>some (.bool (!b))
 | _=>none
def dIf (c:FT) (fa fb:FE):FE:=fun δ=>(c δ).bind fun b=>if b=true then fa δ else fb δ
def bU (fa:FE):FT:=fun δ=>(fa δ).bind fun x=>match x with
 | .bool b=>some b
 | _=>none
def Ec (a b:FT):FT:=fun δ=>(a δ).bind fun x=>if x=true then b δ else some false
def tOr (a b:FT):FT:=fun δ=>(a δ).bind fun x=>if x=true then some true else b δ
def jd (a:FT):FT:=fun δ=>(a δ).map fun x=>!x
def fK:FS:=fun δ=>some (.nx δ)
def cA (a b:FS):FS:=fun δ=>(a δ).bind fun o=>match o with
 | .nx δ'=>b δ'
 | o=>some o
def Xh (i:Nat) (fe:FE):FS:=fun δ=>(fe δ).bind fun d=>some (.nx (δ.set i (some (.d d))))
def sIf (c:FT) (a b:FS):FS:=fun δ=>(c δ).bind fun t=>if t=true then a δ else b δ
def dG (fe:FE):FS:=fun δ=>(fe δ).bind fun d=>some (.rt d)
def Xi:FS:=fun _=>some (.rt .none)
def yx (fe:FE):FS:=fun δ=>(fe δ).bind fun _=>some (.nx δ)
def sBk:FS:=fun δ=>some (.bk δ)
def sCt:FS:=fun δ=>some (.ct δ)
def gN (i:Nat):FG:=fun d δ=>some (δ.set i (some (.d d)))
def jE:List D→DS→Option DS:=fun l δ=>match l with
 | []=>some δ
 | _=>none
def cP (g:FG) (r:List D→DS→Option DS):List D→DS→Option DS:=fun l δ=>match l with
 | d :: l'=>(g d δ).bind fun δ'=>r l' δ'
 | []=>none
def Kq (fe:FE) (g:FG):FS:=fun δ=>(fe δ).bind fun d=>(g d δ).bind fun δ'=>some (.nx δ')
def gO (g:FG) (b:FS):List D→DS→Option Oc
 | [],δ=>some (.nx δ)
 | d :: r,δ=>(g d δ).bind fun δ1=>(b δ1).bind fun o=>match o with
  | .nx δ'=>gO g b r δ'
  | .ct δ'=>gO g b r δ'
  | .bk δ'=>some (.nx δ')
  | .rt v=>some (.rt v)
  | .ex c f v=>some (.ex c f v)
def mR (fi:FA) (g:FG) (b:FS):FS:=fun δ=>(fi δ).bind fun l=>gO g b l δ
open Classical in
def fnD (p q:Nat) (b:FS):List D→Option D:=fun ds=>if ds.length=p then match b (ds.map (fun d=>some (.d d))++bA q none) with
    | some (.rt d)=>some d
    | some (.nx _)=>some .none
    | _=>none
 else none
def iK (t:Nat) (ix:List Nat) (δ:DS):DS:=bA t none++ix.map fun j=>(δ[j]?).getD none
def iY (g:FG) (c:FT) (e:FE) (δ:DS):List D→Option (List D)
 | []=>some []
 | d :: r=>(g d δ).bind fun δ1=>(c δ1).bind fun b=>if b=true then (e δ1).bind fun x=>(iY g c e δ r).bind fun l=>some (x :: l) else iY g c e δ r
def ju (fi:FA) (g:FG) (c:FT) (e:FE) (t:Nat) (ix:List Nat):FE:=fun δ=>(fi δ).bind fun l=>if l.length ≤ 100000 then (iY g c e (iK t ix δ) l).bind fun r=>some (.list r) else none
def j_:FT:=fun _=>some true
def gI (g:Int→Int→Option D):D→D→Option D:=fun x y=>match x,y with
 | .int i,.int j=>g i j
 | _,_=>none
def pIx (n:Nat) (i:Int):Option Nat:=if 0 ≤ i then (if i < n then some i.toNat else none) else if -(n:Int) ≤ i then some (i + n).toNat else none
def pAt (xs:List D) (i:Int):Option D:=(pIx xs.length i).bind fun j=>xs[j]?
def isT (c T:String):Bool:=T == c || (T == "bool" && c == "int")
def cj (i:Nat) (fe:FE):FS:=fun δ=>if i < δ.length then Xh i fe δ else none
def gw:D→D→Option D:=gI fun i j=>some (.int (i + j))
def xP:D→D→Option D:=gI fun i j=>some (.int (i - j))
def vX (i j:Int):Bool:=decide (i.natAbs < 2 ^ 64) || decide (j.natAbs < 2 ^ 64) || (decide (i.natAbs < 2 ^ 30000) && decide (j.natAbs < 2 ^ 30000))
def oH:D→D→Option D:=gI fun i j=>if vX i j=true then some (.int (i * j)) else none
def Eo (_ j:Int):Bool:=decide (j ≠ 0) && decide (j.natAbs < 2 ^ 9000)
def uY:D→D→Option D:=gI fun i j=>if Eo i j=true then some (.int (i.fdiv j)) else none
def oJ:D→D→Option D:=gI fun i j=>if decide (j ≠ 0)=true then some (.int (i.fmod j)) else none
def Uu (i j:Int):Bool:=decide (0 ≤ j) && decide (j ≤ 1000) && decide (i.natAbs < 2 ^ 64)
def Uv:D→D→Option D:=gI fun i j=>if Uu i j=true then some (.int (i ^ j.toNat)) else none
def gLt:D→D→Option D:=gI fun i j=>some (.bool (decide (i < j)))
def gLe:D→D→Option D:=gI fun i j=>some (.bool (decide (i ≤ j)))
def gGt:D→D→Option D:=gI fun i j=>some (.bool (decide (j < i)))
def gGe:D→D→Option D:=gI fun i j=>some (.bool (decide (j ≤ i)))
def gEq:D→D→Option D:=fun x y=>if (SeqAt.shaped x && SeqAt.shaped y)=true then some (.bool (PyData.eqv x y)) else none
def gNe:D→D→Option D:=fun x y=>if (SeqAt.shaped x && SeqAt.shaped y)=true then some (.bool (!PyData.eqv x y)) else none
def gNl (i:Nat):FG:=fun d δ=>if i < δ.length then gN i d δ else none
def gTn (n:Nat) (g:List D→DS→Option DS):FG:=fun d δ=>match d with
 | .tuple l=>if l.length=n then g l δ else none
 | _=>none
def uZ (i:Nat) (f:FE):FS:=fun δ=>(aF i δ).bind fun x=>(f δ).bind fun d=>match x with
 | .list l=>if l.length < 1000000 then some (.nx (δ.set i (some (.d (.list (l++[d])))))) else none
 | _=>none
def Kr (i:Nat) (fk f:FE):FS:=fun δ=>(f δ).bind fun d=>(aF i δ).bind fun x=>(fk δ).bind fun k=>match x,k with
 | .list l,.int j=>(pIx l.length j).bind fun n=>some (.nx (δ.set i (some (.d (.list (l.set n d))))))
 | _,_=>none
def putAt (x:D) (n:Nat) (d:D):D:=match x with
 | .list l=>.list (l.set n d)
 | .tuple l=>.tuple (l.set n d)
 | x=>x
def asList:D→Option (List D)
 | .list l=>some l
 | _=>none
def rJ (f:FE):FA:=fun δ=>(f δ).bind asList
def eX (lo hi:Int):List D:=(aZ (hi - lo).toNat).map fun (k:Nat)=>.int (lo + (k:Int))
def vY (i:Int):Bool:=decide (-(2 ^ 62) ≤ i) && decide (i < 2 ^ 62)
def nQ (fa:FA):FA:=fun δ=>(fa δ).bind fun l=>match l with
 | [.int j]=>if vY j=true then some (eX 0 j) else none
 | _=>none
def S7 (fa:FA):FA:=fun δ=>(fa δ).bind fun l=>match l with
 | [.int i,.int j]=>if (vY i && vY j)=true then some (eX i j) else none
 | _=>none
def gIx:D→D→Option D:=fun x y=>match x,y with
 | .list l,.int i=>pAt l i
 | .tuple l,.int i=>pAt l i
 | _,_=>none
def kh (g g':D→D→Option D) (fa fb fc:FE):FE:=fun δ=>(fa δ).bind fun x=>(fb δ).bind fun y=>(g x y).bind fun z=>match z with
 | .bool true=>(fc δ).bind fun w=>g' y w
 | .bool false=>some (.bool false)
 | _=>none
def vm (g g' g'':D→D→Option D) (fa fb fc fd:FE):FE:=fun δ=>(fa δ).bind fun x=>(fb δ).bind fun y=>(g x y).bind fun z=>match z with
 | .bool true=>(fc δ).bind fun w=>(g' y w).bind fun z'=>match z' with
  | .bool true=>(fd δ).bind fun u=>g'' w u
  | .bool false=>some (.bool false)
  | _=>none
 | .bool false=>some (.bool false)
 | _=>none
def isNone:D→Bool
 | .none=>true
 | _=>false
def Iz:D→Option D:=fun x=>some (.bool (isNone x))
def Ks:D→Option D:=fun x=>some (.bool (!isNone x))
def gH:List D→Option D
 | [.list l]=>some (.int l.length)
 | [.tuple l]=>some (.int l.length)
 | _=>none
def dg:List D→Option (List Int)
 | []=>some []
 | .int i :: r=>(dg r).map (i :: ·)
 | _=>none
def Xj:List D→Option D
 | [.list l]=>(dg l).map fun ns=>.int ns.sum
 | _=>none
def mxI (i:Int) (r:List Int):Int:=r.foldl (fun a b=>if a < b then b else a) i
def yC:List D→Option D
 | [.list l]=>match dg l with
  | some (i :: r)=>some (.int (mxI i r))
  | _=>none
 | _=>none
def insI (x:Int):List Int→List Int
 | []=>[x]
 | y :: r=>if x ≤ y then x :: y :: r else y :: insI x r
def IK:List Int→List Int
 | []=>[]
 | x :: r=>insI x (IK r)
def Ep:List D→Option D
 | [.int i]=>some (.int i)
 | [.bool b]=>some (.int (if b then 1 else 0))
 | _=>none
def Zm:List D→Option D
 | [.int i]=>some (.int (if i < 0 then -i else i))
 | _=>none
def BP:List D→Option D
 | [.int i,.int j]=>some (.int (if j > i then j else i))
 | _=>none
def vZ:List D→Option D
 | [.int i,.int j]=>some (.int (if j < i then j else i))
 | _=>none
def tyD:D→String
 | .none => "NoneType"
 | .bool _ => "bool"
 | .int _ => "int"
 | .str _ => "str"
 | .list _ => "list"
 | .tuple _ => "tuple"
 | .dict _ => "dict"
def gIs (c:String):D→Option D:=fun d=>some (.bool (isT c (tyD d)))
def Er:D→Option D
 | .int i=>some (.int (-i))
 | _=>none
def Zn:D→D→Option D:=fun x y=>match x,y with
 | .list l,.list m=>if l.length + m.length ≤ 1000000 then some (.list (l++m)) else none
 | _,_=>none
def Qa:D→D→Option D:=fun x y=>match x,y with
 | .list l,.int k=>if l.length * k.toNat ≤ 1000000∧-(2 ^ 63) ≤ k∧k < 2 ^ 63 then some (.list (bA k.toNat l).flatten) else none
 | _,_=>none
def yD:D→Option D
 | .list l=>some (.list l)
 | .tuple l=>some (.list l)
 | _=>none
abbrev FO:=DS→Option (Option Int)
def Ku:FO:=fun _=>some none
def lH (f:FE):FO:=fun δ=>(f δ).bind fun x=>match x with
 | .int i=>some (some i)
 | _=>none
def pSx (n d:Nat):Option Int→Nat
 | none=>d
 | some i=>if i < 0 then (i + n).toNat else min i.toNat n
def cutD (xs:List D) (lo hi:Option Int):List D:=(xs.drop (pSx xs.length 0 lo)).take (pSx xs.length xs.length hi - pSx xs.length 0 lo)
def dSl (f:FE) (lo hi:FO):FE:=fun δ=>(f δ).bind fun x=>(lo δ).bind fun a=>(hi δ).bind fun b=>match x with
 | .list l=>some (.list (cutD l a b))
 | _=>none
def Xk (i j:Nat) (fa:FA):FS:=fun δ=>(fa δ).bind fun l=>match l with
 | [x,y]=>if i < δ.length∧j < δ.length then some (.nx ((δ.set i (some (.d x))).set j (some (.d y)))) else none
 | _=>none
def jQ (l:List D):List D:=l.mapIdx fun i x=>.tuple [.int (i:Int),x]
def BR (f:FE):FA:=fun δ=>(f δ).bind fun d=>match d with
 | .list l=>some (jQ l)
 | _=>none
def gA:List D→Option (List Bool)
 | []=>some []
 | .bool b :: r=>(gA r).map (b :: ·)
 | _=>none
def u6:List D→Option D
 | [.list l]=>(gA l).map fun bs=>.bool (bs.all id)
 | _=>none
def jR:List D→List D→List D
 | x :: r,y :: s=>.tuple [x,y] :: jR r s
 | _,_=>[]
def Qc (f g:FE):FA:=fun δ=>(f δ).bind fun d=>(g δ).bind fun e=>match d,e with
 | .list l,.list m=>some (jR l m)
 | _,_=>none
def Qd (f:FE):FA:=fun δ=>(f δ).bind fun d=>match d with
 | .list l=>some l.reverse
 | _=>none
def yE:D→Option D
 | .bool b=>some (.bool (!b))
 | _=>none
theorem sO:∀ (r:List Int) (i:Int),mxI i r ∈ i :: r∧∀ a ∈ i :: r,a ≤ mxI i r
 | [],i=>⟨aG,fun a h=>by rw [aM.mp h];exact Int.le_refl _⟩
 | b :: r,i=>by
  have ih:=sO r (if i < b then b else i)
  have e:mxI i (b :: r)=mxI (if i < b then b else i) r:=rfl
  rw [e]
  constructor
  ·rcases aY.mp ih.1 with z | z
   ·rw [z]
    split <;> simp
   ·exact aJ _ (aJ _ z)
  ·intro a h
   have h0:=ih.2 _ aG
   have hb:i ≤ (if i < b then b else i)∧b ≤ (if i < b then b else i):=by split <;> omega
   rcases aY.mp h with rfl | h
   ·exact rY hb.1 h0
   ·rcases aY.mp h with rfl | h
    ·exact rY hb.2 h0
    ·exact ih.2 a (aJ _ h)
theorem insI_perm (x:Int):∀ l,(insI x l).Perm (x :: l)
 | []=>.refl _
 | y :: r=>by
  unfold insI
  split
  ·exact .refl _
  ·exact ((insI_perm x r).cons y).trans (.swap x y r)
theorem ud:∀ l,(IK l).Perm l
 | []=>.refl _
 | x :: r=>(insI_perm x _).trans ((ud r).cons x)
theorem uO (x:Int):∀ l,l.Pairwise (· ≤ ·)→(insI x l).Pairwise (· ≤ ·)
 | [],_=>by simp [insI]
 | y :: r,h=>by
  obtain ⟨h1,h2⟩:=dW.mp h
  unfold insI
  split
  ·next c =>
   refine dW.mpr ⟨fun a ha=>?_,h⟩
   rcases aY.mp ha with rfl | z
   ·exact c
   ·exact rY c (h1 a z)
  ·next c =>
   refine dW.mpr ⟨fun a ha=>?_,uO x r h2⟩
   rcases aY.mp ((insI_perm x r).mem_iff.mp ha) with rfl | z
   ·omega
   ·exact h1 a z
theorem uP:∀ l,(IK l).Pairwise (· ≤ ·)
 | []=>.nil
 | x :: r=>uO x _ (uP r)
end D3
variable {u:L2.HO} {kvs:List (D3.D × D3.D)} {d y:D3.D} {ds:List D3.D} {pl:Bool} {as:List Addr} {δ:D3.DS} {L:List Nat}
namespace D3
open PySem PySem.Spec PyProof.Rows L2 My
abbrev Ok:=Addr→Prop
abbrev St:=L2.St
class Chg (u:HO):Prop where
 ch:(∃ xs,u = .lst xs)∨(∃ kvs,u = .dK kvs)∨∃ kvs,u = .dT kvs
instance (xs:List V):Chg (.lst xs):=⟨.inl ⟨xs,rfl⟩⟩
instance (kvs:List (Key × V)):Chg (.dK kvs):=⟨.inr (.inl ⟨kvs,rfl⟩)⟩
instance (kvs:List (List Key × V)):Chg (.dT kvs):=⟨.inr (.inr ⟨kvs,rfl⟩)⟩
theorem Chg.frz {o:Obj} {u:HO} (h:Chg (.frz o u)):False:=by
 rcases h.ch with ⟨_,z⟩ | ⟨_,z⟩ | ⟨_,z⟩ <;> cases z
theorem Chg.tup {xs:List V} (h:Chg (.tup xs)):False:=by
 rcases h.ch with ⟨_,z⟩ | ⟨_,z⟩ | ⟨_,z⟩ <;> cases z
def Chd (o:Option HO):Prop:=∃ u,o=some u∧Chg u
theorem Chd.ne {o:Option HO} (h:Chd o):o ≠ none:=by
 obtain ⟨u,rfl,_⟩:=h
 simp
def SqK (K:PySem.W.Frag) (H:Hp) (a:Addr) (xs:List V):Prop:=(∃ o,H a=some (.frz o (.lst xs))) ∨
 ∃ (o:Obj) (its:Array Value) (n:Nat),K.lookup a=some o∧o.cls = .type "list" ∧ o.dict=none∧o.data = .seq its n∧its.size ≤ sizeLine∧Vals xs its.toList
theorem SqK.sq (h:SqK K H a xs):SqL K H a xs:=by
 rcases h with ⟨o,h⟩ | h
 ·exact .inl (.inr ⟨o,h⟩)
 ·exact .inr h
def gC (H:Hp) (a:Addr) (xs:List V):Prop:=H a=some (.tup xs)
theorem gC.sq (h:gC H a xs):SqT K H a xs:=.inl (.inl h)
theorem gC.same (e:Same H H') (h:gC H a xs):gC H' a xs:=e _ _ h
theorem gC.upd [cu:Chg u] (h:H a=some u) (q:gC H b xs):gC (upd H a o) b xs:=by
 unfold gC
 rw [bB (fZ q h (by intro z;subst z;exact cu.tup))]
 exact q
def dk0:List (D × D)→List (Key × V)
 | []=>[]
 | (.int i,.int j) :: r=>(.inl i,.int j) :: dk0 r
 | (.int i,.bool true) :: r=>(.inl i,.bl true) :: dk0 r
 | _ :: r=>(.inl 0,.non) :: dk0 r
def tkK:List D→Option (List Key)
 | []=>some []
 | .int i :: r=>(tkK r).map (.inl i :: ·)
 | _=>none
def tkD:List (D × D)→Option (List (List Key × V))
 | []=>some []
 | (.tuple l,.bool true) :: r=>(tkK l).bind fun k=>(tkD r).map ((k,.bl true) :: ·)
 | _=>none
def dh0 (kvs:List (D × D)):HO:=match kvs with
 | []=>.dK []
 | q :: r=>match tkD (q :: r) with
  | some ts=>.dT ts
  | none=>.dK (dk0 (q :: r))
theorem Kv (kvs:List (D × D)):(∃ ks,dh0 kvs = .dK ks)∨∃ ks,dh0 kvs = .dT ks:=by
 cases kvs with
 | nil=>exact .inl ⟨_,rfl⟩
 | cons q r =>
  unfold dh0
  dsimp only
  split
  ·exact .inr ⟨_,rfl⟩
  ·exact .inl ⟨_,rfl⟩
instance (kvs:List (D × D)):Chg (dh0 kvs):=⟨by
 rcases Kv kvs with ⟨ks,z⟩ | ⟨ks,z⟩
 ·exact .inr (.inl ⟨ks,z⟩)
 ·exact .inr (.inr ⟨ks,z⟩)⟩
def scV:D→V
 | .int i=>.int i
 | _=>.non
def scs:List D→Bool
 | []=>true
 | .int _ :: r=>scs r
 | .none :: r=>scs r
 | _=>false
def TV (H:Hp) (v:V) (d:D):Prop:=(v = .non∧d = .none)∨∃ b ds,v = .ref b∧d = .tuple ds∧gC H b (ds.map scV)∧scs ds=true
inductive TVs (H:Hp):List (Key × V)→List (D × D)→Prop
 | nil:TVs H [] []
 | cons {i:Int} {v:V} {d:D} {r:List (Key × V)} {r':List (D × D)}:TV H v d→TVs H r r'→TVs H ((.inl i,v) :: r) ((.int i,d) :: r')
theorem TV.imp (h:∀ b xs,gC H b xs→gC H' b xs) {v:V} {d:D} (q:TV H v d):TV H' v d:=by
 rcases q with q | ⟨b,ds,h1,h2,h3,h4⟩
 ·exact .inl q
 ·exact .inr ⟨b,ds,h1,h2,h _ _ h3,h4⟩
theorem TVs.imp (h:∀ b xs,gC H b xs→gC H' b xs) {ks:List (Key × V)} {kvs:List (D × D)} (q:TVs H ks kvs):TVs H' ks kvs:=by
 induction q with
 | nil=>exact .nil
 | cons t _ ih=>exact .cons (t.imp h) ih
def xU:List (D × D)→Bool
 | []=>true
 | (_,.int _) :: r=>xU r
 | (_,.bool _) :: r=>xU r
 | _=>false
def TW (H:Hp) (v:V) (m:List Int) (z:Int):Prop:=∃ b c,v = .ref b∧gC H b [.ref c,.int z]∧gC H c (m.map V.int)
inductive TTs (H:Hp):List (List Key × V)→List (D × D)→Prop
 | nil:TTs H [] []
 | cons {k m:List Int} {z:Int} {v:V} {r:List (List Key × V)} {r':List (D × D)}:TW H v m z→TTs H r r'→TTs H ((k.map Sum.inl,v) :: r) ((.tuple (k.map .int),.tuple [.tuple (m.map .int),.int z]) :: r')
theorem TTs.imp (h:∀ b xs,gC H b xs→gC H' b xs) {ks:List (List Key × V)} {kvs:List (D × D)} (q:TTs H ks kvs):TTs H' ks kvs:=by
 induction q with
 | nil=>exact .nil
 | cons t _ ih =>
  obtain ⟨b,c,h1,h2,h3⟩:=t
  exact .cons ⟨b,c,h1,h _ _ h2,h _ _ h3⟩ ih
def DH (H:Hp) (u:HO) (kvs:List (D × D)):Prop:=(xU kvs=true∧u=dh0 kvs)∨(∃ ks,u = .dK ks∧TVs H ks kvs)∨∃ q ks,u = .dT (q :: ks)∧TTs H (q :: ks) kvs
theorem DH.imp (h:∀ b xs,gC H b xs→gC H' b xs) {u:HO} {kvs:List (D × D)} (q:DH H u kvs):DH H' u kvs:=by
 rcases q with q | ⟨ks,q1,q2⟩ | ⟨k,ks,q1,q2⟩
 ·exact .inl q
 ·exact .inr (.inl ⟨ks,q1,q2.imp h⟩)
 ·exact .inr (.inr ⟨k,ks,q1,q2.imp h⟩)
theorem DH.same (q:DH H u kvs) (e:Same H H'):DH H' u kvs:=q.imp fun _ _ h=>gC.same e h
theorem DH.upd {u':HO} [cu:Chg u] {kvs:List (D × D)} (q:DH H u' kvs) (h:H a=some u):DH (upd H a o) u' kvs:=q.imp fun _ _ z=>gC.upd h z
theorem DH.or (q:DH H u kvs):(∃ ks,u = .dK ks)∨∃ ks,u = .dT ks:=by
 rcases q with ⟨_,rfl⟩ | ⟨ks,rfl,_⟩ | ⟨k,ks,rfl,_⟩
 ·exact Kv kvs
 ·exact .inl ⟨ks,rfl⟩
 ·exact .inr ⟨_,rfl⟩
theorem DH.chg (q:DH H u kvs):Chg u:=⟨.inr q.or⟩
theorem DH.old (q:DH H u kvs) (h:xU kvs=true):u=dh0 kvs:=by
 rcases q with q | ⟨ks,rfl,q⟩ | ⟨k,ks,rfl,q⟩
 ·exact q.2
 ·cases q with
  | nil=>rfl
  | cons t _ =>
   rcases t with ⟨_,rfl⟩ | ⟨_,_,_,rfl,_,_⟩ <;> cases h
 ·cases q with
  | cons _ _=>cases h
mutual
inductive RA (K:PySem.W.Frag) (ok:Ok) (pl:Bool) (H:Hp):V→D→Prop
 | non:RA K ok pl H .non .none
 | bl (b:Bool):RA K ok pl H (.bl b) (.bool b)
 | int (i:Int):RA K ok pl H (.int i) (.int i)
 | str (x:Str):RA K ok pl H (.str x) (.str x)
 | lst {a:Addr} {xs:List V} {ds:List D}:H a=some (.lst xs)→ok a→RAs K ok pl H xs ds→RA K ok pl H (.ref a) (.list ds)
 | lsk {a:Addr} {xs:List V} {ds:List D}:SqK K H a xs→pl=true→RAs K ok pl H xs ds→RA K ok pl H (.ref a) (.list ds)
 | tup {a:Addr} {xs:List V} {ds:List D}:gC H a xs→RAs K ok pl H xs ds→RA K ok pl H (.ref a) (.tuple ds)
 | dic {a:Addr} {u:HO} {kvs:List (D × D)}:H a=some u→DH H u kvs→ok a→RA K ok pl H (.ref a) (.dict kvs)
 | dik {a:Addr} {u:HO} {kvs:List (D × D)} {o:Obj}:H a=some (.frz o u)→DH H u kvs→pl=true→RA K ok pl H (.ref a) (.dict kvs)
inductive RAs (K:PySem.W.Frag) (ok:Ok) (pl:Bool) (H:Hp):List V→List D→Prop
 | nil:RAs K ok pl H [] []
 | cons {v:V} {d:D} {vs:List V} {ds:List D}:RA K ok pl H v d→RAs K ok pl H vs ds→RAs K ok pl H (v :: vs) (d :: ds)
end
section
variable {K:PySem.W.Frag} {ok ok':Ok} {pl pl':Bool} {H H':Hp}
theorem RA.ind {P:V→D→Prop} {Q:List V→List D→Prop} (c1:P .non .none) (c2:∀ b,P (.bl b) (.bool b)) (c3:∀ i,P (.int i) (.int i)) (c4:∀ x,P (.str x) (.str x))
 (c5:∀ {a:Addr} {xs:List V} {ds:List D},H a=some (.lst xs)→ok a→Q xs ds→P (.ref a) (.list ds)) (c6:∀ {a:Addr} {xs:List V} {ds:List D},SqK K H a xs→pl=true→Q xs ds→P (.ref a) (.list ds)) (c7:∀ {a:Addr} {xs:List V} {ds:List D},gC H a xs→Q xs ds→P (.ref a) (.tuple ds))
 (c8:∀ {a:Addr} {u:HO} {kvs:List (D × D)},H a=some u→DH H u kvs→ok a→P (.ref a) (.dict kvs)) (c9:∀ {a:Addr} {u:HO} {kvs:List (D × D)} {o:Obj},H a=some (.frz o u)→DH H u kvs→pl=true→P (.ref a) (.dict kvs)) (c10:Q [] []) (c11:∀ {v:V} {d:D} {vs:List V} {ds:List D},P v d→Q vs ds→Q (v :: vs) (d :: ds)) :
 (∀ {v:V} {d:D},RA K ok pl H v d→P v d)∧∀ {v:List V} {d:List D},RAs K ok pl H v d→Q v d :=
 ⟨fun h=>RA.rec (motive_1:=fun v d _=>P v d) (motive_2:=fun v d _=>Q v d) c1 c2 c3 c4 (fun h o _ q=>c5 h o q) (fun h o _ q=>c6 h o q) (fun h _ q=>c7 h q) (fun h g o=>c8 h g o) (fun h g o=>c9 h g o) c10 (fun _ _ a q=>c11 a q) h,
  fun h=>RAs.rec (motive_1:=fun v d _=>P v d) (motive_2:=fun v d _=>Q v d) c1 c2 c3 c4 (fun h o _ q=>c5 h o q) (fun h o _ q=>c6 h o q) (fun h _ q=>c7 h q) (fun h g o=>c8 h g o) (fun h g o=>c9 h g o) c10 (fun _ _ a q=>c11 a q) h⟩
theorem RA.imp2 (ho:∀ a,ok a→ok' a) (hp:pl=true→pl'=true):(∀ {v:V} {d:D},RA K ok pl H v d→RA K ok' pl' H v d)∧∀ {v:List V} {d:List D},RAs K ok pl H v d→RAs K ok' pl' H v d :=
 RA.ind .non .bl .int .str (fun h o q=>.lst h (ho _ o) q) (fun h o q=>.lsk h (hp o) q) (fun h q=>.tup h q) (fun h g o=>.dic h g (ho _ o)) (fun h g o=>.dik h g (hp o)) .nil .cons
theorem RA.imp (ho:∀ a,ok a→ok' a) (hp:pl=true→pl'=true) {v:V} {d:D} (h:RA K ok pl H v d):RA K ok' pl' H v d:=(RA.imp2 ho hp).1 h
theorem RAs.imp (ho:∀ a,ok a→ok' a) (hp:pl=true→pl'=true) {v:List V} {d:List D} (h:RAs K ok pl H v d):RAs K ok' pl' H v d:=(RA.imp2 ho hp).2 h
theorem SqK.same (e:Same H H') (h:SqK K H a xs):SqK K H' a xs:=by
 rcases h with ⟨o,h⟩ | h
 ·exact .inl ⟨o,e _ _ h⟩
 ·exact .inr h
theorem RA.same2 (e:Same H H'):(∀ {v:V} {d:D},RA K ok pl H v d→RA K ok pl H' v d)∧∀ {v:List V} {d:List D},RAs K ok pl H v d→RAs K ok pl H' v d :=
 RA.ind .non .bl .int .str (fun h o q=>.lst (e _ _ h) o q) (fun h o q=>.lsk (h.same e) o q) (fun h q=>.tup (gC.same e h) q) (fun h g o=>.dic (e _ _ h) (g.same e) o) (fun h g o=>.dik (e _ _ h) (g.same e) o) .nil .cons
theorem RA.same (e:Same H H') {v:V} {d:D} (h:RA K ok pl H v d):RA K ok pl H' v d:=(RA.same2 e).1 h
theorem RAs.same (e:Same H H') {v:List V} {d:List D} (h:RAs K ok pl H v d):RAs K ok pl H' v d:=(RA.same2 e).2 h
theorem RA.flat2:(∀ {v:V} {d:D},RA K ok pl H v d→flat d=true→RA K ok' pl' H v d)∧∀ {v:List V} {d:List D},RAs K ok pl H v d→flats d=true→RAs K ok' pl' H v d :=
 RA.ind (fun _=>.non) (fun b _=>.bl b) (fun i _=>.int i) (fun x _=>.str x) (fun _ _ _ h=>by simp [D3.flat] at h) (fun _ _ _ h=>by simp [D3.flat] at h) (fun t q h=>.tup t (q (by simpa [D3.flat] using h))) (fun _ _ _ h=>by simp [D3.flat] at h) (fun _ _ _ h=>by simp [D3.flat] at h) (fun _=>.nil) fun a q h=>by
  rw [flats,bw] at h
  exact .cons (a h.1) (q h.2)
theorem RA.flat (hf:flat d=true) (h:RA K ok pl H v d):RA K ok' pl' H v d:=RA.flat2.1 h hf
theorem RAs.flat {v:List V} {d:List D} (hf:flats d=true) (h:RAs K ok pl H v d):RAs K ok' pl' H v d:=RA.flat2.2 h hf
theorem SqK.upd [cu:Chg u] (h:H a=some u) (q:SqK K H b xs):SqK K (upd H a o) b xs:=by
 rcases q with ⟨o',q⟩ | q
 ·refine .inl ⟨o',?_⟩
  rw [bB (fZ q h (by intro z;subst z;first | exact cu.frz | exact cu.tup))]
  exact q
 ·exact .inr q
theorem RA.upd2 [cu:Chg u] (h:H a=some u) (na:¬ ok a):(∀ {v:V} {d:D},RA K ok pl H v d→RA K ok pl (upd H a o) v d)∧∀ {v:List V} {d:List D},RAs K ok pl H v d→RAs K ok pl (upd H a o) v d :=
 RA.ind .non .bl .int .str (fun e k q=>.lst (by rw [bB (by intro z;subst z;exact na k)];exact e) k q) (fun e k q=>.lsk (e.upd h) k q) (fun e q=>.tup (gC.upd h e) q) (fun e g k=>.dic (by rw [bB (by intro z;subst z;exact na k)];exact e) (g.upd h) k) (fun e g k=>.dik (by rw [bB (fZ e h (by intro z;subst z;exact cu.frz))];exact e) (g.upd h) k) .nil .cons
theorem RA.upd [cu:Chg u] (h:H a=some u) (na:¬ ok a) {v:V} {d:D} (r:RA K ok pl H v d):RA K ok pl (upd H a o) v d:=(RA.upd2 h na).1 r
theorem RAs.upd [cu:Chg u] (h:H a=some u) (na:¬ ok a) {v:List V} {d:List D} (r:RAs K ok pl H v d):RAs K ok pl (upd H a o) v d:=(RA.upd2 h na).2 r
theorem RA.track2:(∀ {v:V} {d:D},RA K ok pl H v d→RA K (fun b=>ok b∧H b ≠ none) pl H v d)∧∀ {v:List V} {d:List D},RAs K ok pl H v d→RAs K (fun b=>ok b∧H b ≠ none) pl H v d :=
 RA.ind .non .bl .int .str (fun e k q=>.lst e ⟨k,by rw [e];simp⟩ q) (fun e k q=>.lsk e k q) (fun e q=>.tup e q) (fun e g k=>.dic e g ⟨k,by rw [e];simp⟩) (fun e g k=>.dik e g k) .nil .cons
theorem RA.track (h:RA K ok pl H v d):RA K (fun b=>ok b∧H b ≠ none) pl H v d:=RA.track2.1 h
theorem RAs.track {v:List V} {d:List D} (h:RAs K ok pl H v d):RAs K (fun b=>ok b∧H b ≠ none) pl H v d:=RA.track2.2 h
theorem RAs.length:∀ {v:List V} {d:List D},RAs K ok pl H v d→v.length=d.length
 | _,_,.nil=>rfl
 | _,_,.cons _ q=>by simp [RAs.length q]
theorem RAs.get:∀ {v:List V} {d:List D} {i:Nat} {x:D},RAs K ok pl H v d→d[i]? = some x→∃ y,v[i]? = some y∧RA K ok pl H y x
 | _,_,_,_,.nil,h=>by simp at h
 | _,_,0,_,.cons a _,h=>by simp at h;subst h;exact ⟨_,rfl,a⟩
 | _,_,i + 1,_,.cons _ q,h=>by
  obtain ⟨y,e,r⟩:=RAs.get (i:=i) q (by simpa using h)
  exact ⟨y,by simpa using e,r⟩
theorem RAs.append:∀ {v v':List V} {d d':List D},RAs K ok pl H v d→RAs K ok pl H v' d'→RAs K ok pl H (v++v') (d++d')
 | _,_,_,_,.nil,q=>q
 | _,_,_,_,.cons a r,q=>.cons a (RAs.append r q)
theorem RAs.set {x:V} (r:RA K ok pl H x y):∀ {v:List V} {d:List D} (i:Nat),RAs K ok pl H v d→RAs K ok pl H (v.set i x) (d.set i y)
 | _,_,_,.nil=>.nil
 | _,_,0,.cons _ q=>.cons r q
 | _,_,i + 1,.cons a q=>.cons a (RAs.set r i q)
theorem RAs.take:∀ {v:List V} {d:List D} (n:Nat),RAs K ok pl H v d→RAs K ok pl H (v.take n) (d.take n)
 | _,_,0,_=>by simp;exact .nil
 | _,_,_ + 1,.nil=>.nil
 | _,_,n + 1,.cons a q=>.cons a (RAs.take n q)
theorem RAs.drop:∀ {v:List V} {d:List D} (n:Nat),RAs K ok pl H v d→RAs K ok pl H (v.drop n) (d.drop n)
 | _,_,0,q=>q
 | _,_,_ + 1,.nil=>.nil
 | _,_,n + 1,.cons _ q=>RAs.drop n q
theorem RAs.reverse:∀ {v:List V} {d:List D},RAs K ok pl H v d→RAs K ok pl H v.reverse d.reverse
 | _,_,.nil=>.nil
 | _,_,.cons a q=>by
  rw [iU,iU]
  exact (RAs.reverse q).append (.cons a .nil)
theorem RA.rd2:(∀ {v:V} {d:D},RA K ok pl H v d→d.canLay0=true→RdV K H v d)∧∀ {v:List V} {d:List D},RAs K ok pl H v d→PyData.canLayAll0 d=true→RdVs K H v d :=
 RA.ind (fun _=>.non) (fun b _=>.bl b) (fun i _=>.int i) (fun x _=>.str x) (fun e _ q h=>.lst (SqL.of e) (q (by simpa [PyData.canLay0] using h))) (fun e _ q h=>.lst e.sq (q (by simpa [PyData.canLay0] using h))) (fun e q h=>.tup e.sq (q (by simpa [PyData.canLay0] using h))) (fun _ _ _ h=>by simp [PyData.canLay0] at h) (fun _ _ _ h=>by simp [PyData.canLay0] at h) (fun _=>.nil) fun a q h=>by
  rw [PyData.canLayAll0,bw] at h
  exact .cons (a h.1) (q h.2)
theorem RA.rd (hf:d.canLay0=true) (h:RA K ok pl H v d):RdV K H v d:=RA.rd2.1 h hf
theorem RA.intE {i:Int} (h:RA K ok pl H v (.int i)):v = .int i:=by cases h;rfl
theorem RA.blE {b:Bool} (h:RA K ok pl H v (.bool b)):v = .bl b:=by cases h;rfl
theorem RA.lstE (h:RA K ok pl H v (.list ds)):∃ a xs,v = .ref a∧SqL K H a xs∧RAs K ok pl H xs ds:=by
 cases h with
 | lst e k q=>exact ⟨_,_,rfl,SqL.of e,q⟩
 | lsk e k q=>exact ⟨_,_,rfl,e.sq,q⟩
theorem RA.dicU (h:RA K ok pl H v (.dict kvs)):∃ a u,v = .ref a∧L2.Rd H a u∧DH H u kvs:=by
 cases h with
 | dic e g k=>exact ⟨_,_,rfl,.inl e,g⟩
 | dik e g k=>exact ⟨_,_,rfl,.inr ⟨_,e⟩,g⟩
theorem RA.dicE (h:RA K ok pl H v (.dict kvs)) (ho:xU kvs=true):∃ a,v = .ref a∧L2.Rd H a (dh0 kvs):=by
 obtain ⟨a,u,h1,h2,h3⟩:=h.dicU
 rw [h3.old ho] at h2
 exact ⟨a,h1,h2⟩
theorem RA.tupE (h:RA K ok pl H v (.tuple ds)):∃ a xs,v = .ref a∧SqT K H a xs∧RAs K ok pl H xs ds:=by
 cases h with
 | tup e q=>exact ⟨_,_,rfl,e.sq,q⟩
theorem RA.tupE0 (h:RA K ok pl H v (.tuple ds)):∃ a xs,v = .ref a∧gC H a xs∧RAs K ok pl H xs ds:=by
 cases h with
 | tup e q=>exact ⟨_,_,rfl,e,q⟩
end
inductive Fl where
 | A
 | O
 | L
 | N
 | M
 deriving DecidableEq
def isN:Option Fl→Bool
 | some .N=>true
 | some .M=>true
 | _=>false
mutual
inductive RT (K:PySem.W.Frag) (H:Hp):V→D→List Addr→Prop
 | non:RT K H .non .none []
 | bl (b:Bool):RT K H (.bl b) (.bool b) []
 | int (i:Int):RT K H (.int i) (.int i) []
 | str (x:Str):RT K H (.str x) (.str x) []
 | lst {a:Addr} {xs:List V} {ds:List D} {as:List Addr}:H a=some (.lst xs)→RTs K H xs ds as→RT K H (.ref a) (.list ds) (a :: as)
 | tup {a:Addr} {xs:List V} {ds:List D} {as:List Addr}:gC H a xs→RTs K H xs ds as→RT K H (.ref a) (.tuple ds) as
 | dic {a:Addr} {u:HO} {kvs:List (D × D)}:H a=some u→DH H u kvs→RT K H (.ref a) (.dict kvs) [a]
inductive RTs (K:PySem.W.Frag) (H:Hp):List V→List D→List Addr→Prop
 | nil:RTs K H [] [] []
 | cons {v:V} {d:D} {vs:List V} {ds:List D} {as bs:List Addr}:RT K H v d as→RTs K H vs ds bs→RTs K H (v :: vs) (d :: ds) (as++bs)
end
section
variable {K:PySem.W.Frag} {H H':Hp}
theorem RT.ind {P:V→D→List Addr→Prop} {Q:List V→List D→List Addr→Prop} (c1:P .non .none []) (c2:∀ b,P (.bl b) (.bool b) []) (c3:∀ i,P (.int i) (.int i) []) (c4:∀ x,P (.str x) (.str x) [])
 (c5:∀ {a:Addr} {xs:List V} {ds:List D} {as:List Addr},H a=some (.lst xs)→Q xs ds as→P (.ref a) (.list ds) (a :: as)) (c7:∀ {a:Addr} {xs:List V} {ds:List D} {as:List Addr},gC H a xs→Q xs ds as→P (.ref a) (.tuple ds) as)
 (c8:∀ {a:Addr} {u:HO} {kvs:List (D × D)},H a=some u→DH H u kvs→P (.ref a) (.dict kvs) [a]) (c10:Q [] [] []) (c11:∀ {v:V} {d:D} {vs:List V} {ds:List D} {as bs:List Addr},P v d as→Q vs ds bs→Q (v :: vs) (d :: ds) (as++bs)) :
 (∀ {v:V} {d:D} {as:List Addr},RT K H v d as→P v d as)∧∀ {v:List V} {d:List D} {as:List Addr},RTs K H v d as→Q v d as :=
 ⟨fun h=>RT.rec (motive_1:=fun v d as _=>P v d as) (motive_2:=fun v d as _=>Q v d as) c1 c2 c3 c4 (fun h _ q=>c5 h q) (fun h _ q=>c7 h q) (fun h g=>c8 h g) c10 (fun _ _ a q=>c11 a q) h,
  fun h=>RTs.rec (motive_1:=fun v d as _=>P v d as) (motive_2:=fun v d as _=>Q v d as) c1 c2 c3 c4 (fun h _ q=>c5 h q) (fun h _ q=>c7 h q) (fun h g=>c8 h g) c10 (fun _ _ a q=>c11 a q) h⟩
theorem RT.ra2 {ok:Ok}:(∀ {v:V} {d:D} {as:List Addr},RT K H v d as→(∀ a ∈ as,ok a)→RA K ok pl H v d)∧∀ {v:List V} {d:List D} {as:List Addr},RTs K H v d as→(∀ a ∈ as,ok a)→RAs K ok pl H v d :=
 RT.ind (fun _=>.non) (fun b _=>.bl b) (fun i _=>.int i) (fun x _=>.str x) (fun e q h=>.lst e (h _ aG) (q fun a ha=>h a (aJ _ ha))) (fun e q h=>.tup e (q h)) (fun e g h=>.dic e g (h _ aG)) (fun _=>.nil) fun e q h=>.cons (e fun a ha=>h a (bW _ ha)) (q fun a ha=>h a (bF _ ha))
theorem RT.ra {ok:Ok} (r:RT K H v d as) (h:∀ a ∈ as,ok a):RA K ok pl H v d:=RT.ra2.1 r h
theorem RT.same2 (s:Same H H'):(∀ {v:V} {d:D} {as:List Addr},RT K H v d as→RT K H' v d as)∧∀ {v:List V} {d:List D} {as:List Addr},RTs K H v d as→RTs K H' v d as :=
 RT.ind .non .bl .int .str (fun e q=>.lst (s _ _ e) q) (fun e q=>.tup (gC.same s e) q) (fun e g=>.dic (s _ _ e) (g.same s)) .nil .cons
theorem RT.same (s:Same H H') {v:V} {d:D} {as:List Addr} (h:RT K H v d as):RT K H' v d as:=(RT.same2 s).1 h
theorem RT.upd2 [cu:Chg u] (h:H a=some u):(∀ {v:V} {d:D} {as:List Addr},RT K H v d as→a ∉ as→RT K (upd H a o) v d as)∧∀ {v:List V} {d:List D} {as:List Addr},RTs K H v d as→a ∉ as→RTs K (upd H a o) v d as :=
 RT.ind (fun _=>.non) (fun b _=>.bl b) (fun i _=>.int i) (fun x _=>.str x) (fun e q na=>.lst (by rw [bB (fun z=>na (by rw [← z];exact aG))];exact e) (q fun z=>na (aJ _ z))) (fun e q na=>.tup (gC.upd h e) (q na)) (fun e g na=>.dic (by rw [bB (fun z=>na (by rw [← z];exact aG))];exact e) (g.upd h)) (fun _=>.nil) fun e q na=>.cons (e fun z=>na (bW _ z)) (q fun z=>na (bF _ z))
theorem RT.upd [cu:Chg u] (h:H a=some u) {v:V} {d:D} {as:List Addr} (na:a ∉ as) (r:RT K H v d as):RT K (upd H a o) v d as:=(RT.upd2 h).1 r na
theorem RT.chd2:(∀ {v:V} {d:D} {as:List Addr},RT K H v d as→∀ a ∈ as,Chd (H a))∧∀ {v:List V} {d:List D} {as:List Addr},RTs K H v d as→∀ a ∈ as,Chd (H a) :=
 RT.ind (fun _ h=>by cases h) (fun _ _ h=>by cases h) (fun _ _ h=>by cases h) (fun _ _ h=>by cases h) (fun e q a h=>by
  rcases aY.mp h with rfl | z
  ·exact ⟨_,e,inferInstance⟩
  ·exact q a z) (fun _ q=>q) (fun e g a h=>by rw [aM.mp h];exact ⟨_,e,g.chg⟩) (fun _ h=>by cases h) fun e q a h=>by
  rcases cL.mp h with z | z
  ·exact e a z
  ·exact q a z
theorem RT.chd (r:RT K H v d as):∀ a ∈ as,Chd (H a):=RT.chd2.1 r
theorem RTs.chd {v:List V} {d:List D} (r:RTs K H v d as):∀ a ∈ as,Chd (H a):=RT.chd2.2 r
theorem RT.tracked (h:RT K H v d as) (a:Addr) (ha:a ∈ as):H a ≠ none:=(h.chd a ha).ne
theorem RA.rt2 {ok:Ok}:(∀ {v:V} {d:D},RA K ok false H v d→∃ as,RT K H v d as∧as.length=nl d∧∀ a ∈ as,ok a)∧∀ {v:List V} {d:List D},RAs K ok false H v d→∃ as,RTs K H v d as∧as.length=nls d∧∀ a ∈ as,ok a :=
 RA.ind ⟨[],.non,rfl,fun _ h=>by cases h⟩ (fun b=>⟨[],.bl b,rfl,fun _ h=>by cases h⟩) (fun i=>⟨[],.int i,rfl,fun _ h=>by cases h⟩) (fun x=>⟨[],.str x,rfl,fun _ h=>by cases h⟩) (fun e k q=>by
  obtain ⟨as,h1,h2,h3⟩:=q
  refine ⟨_ :: as,.lst e h1,by rw [bf,h2,nl],fun a ha=>?_⟩
  rcases aY.mp ha with rfl | z
  ·exact k
  ·exact h3 a z) (fun _ k _=>by cases k) (fun e q=>by
  obtain ⟨as,h1,h2,h3⟩:=q
  exact ⟨as,.tup e h1,by rw [h2,nl],h3⟩) (fun e g k=>⟨[_],.dic e g,by simp [nl],fun a ha=>by rw [aM.mp ha];exact k⟩) (fun _ _ k=>by cases k) ⟨[],.nil,rfl,fun _ h=>by cases h⟩ fun e q=>by
  obtain ⟨as,h1,h2,h3⟩:=e
  obtain ⟨bs,g1,g2,g3⟩:=q
  refine ⟨as++bs,.cons h1 g1,by rw [bK,h2,g2,nls],fun a ha=>?_⟩
  rcases cL.mp ha with z | z
  ·exact h3 a z
  ·exact g3 a z
theorem RA.rt {ok:Ok} (h:RA K ok false H v d):∃ as,RT K H v d as∧as.length=nl d∧∀ a ∈ as,ok a:=RA.rt2.1 h
end
def tabs:List (Addr × Str × Pos):=[(149, "turns.<locals>.<lambda>", ⟨51,42,51,72⟩)]
def Tb (H:Hp):Prop:=∀ t ∈ tabs,H t.1=some (.tbl t.2.1 t.2.2)
theorem Tb.same (t:Tb H) (s:Same H H'):Tb H':=fun x hx=>s _ _ (t x hx)
structure Gh where
 H0:Hp
 HF:Hp
 pk:Nat→Option Addr
 pn:Nat→List Addr
 tb:Tb H0
structure Ow where
 s:Nat→Option Addr
 n:Nat→List Addr:=fun _=>[]
instance:CoeFun Ow (fun _=>Nat→Option Addr):=⟨Ow.s⟩
abbrev ow0:Ow:=⟨fun _=>none,fun _=>[]⟩
def okA (ow:Ow):Ok:=fun a=>(∀ i,ow i ≠ some a)∧∀ i,a ∉ ow.n i
structure Rel (K:PySem.W.Frag) (fl:List Fl) (G:Gh) (ow:Ow) (σ:St) (H:Hp) (δ:DS):Prop where
 s0:Same G.H0 G.HF
 s1:Same G.HF H
 len:σ.length=δ.length
 own:∀ i a,ow i=some a→G.H0 a=none∧((fl[i]? = some .O∧G.HF a=none)∨(fl[i]? = some .L∧∃ xs,G.HF a=some (.lst xs))) ∧
  ∃ xs ds,σ[i]? = some (some (.ref a))∧H a=some (.lst xs)∧RAs K (okA ow) true H xs ds∧δ[i]? = some (some (.d (.list ds)))
 inj:∀ i j a,ow i=some a→ow j=some a→i=j
 pin:∀ i,fl[i]? = some .L→ow i=G.pk i
 dat:∀ i d,δ[i]? = some (some (.d d))→isN fl[i]? = false→ow i=none→∃ v,σ[i]? = some (some v)∧RA K (okA ow) true H v d
 oo:∀ i d,δ[i]? = some (some (.d d))→isN fl[i]? = false→fl[i]? ≠ some .A→ow i=none→flat d=true
 nt:∀ i a,a ∈ ow.n i→G.H0 a=none∧Chd (H a)∧((fl[i]? = some .N∧G.HF a=none)∨fl[i]? = some .M)
 nd:∀ i j a,a ∈ ow.n i→a ∈ ow.n j→i=j
 ns:∀ i j a,a ∈ ow.n i→ow j ≠ some a
 np:∀ i,fl[i]? = some .M→ow.n i=G.pn i
 nr:∀ i d,isN fl[i]? = true→δ[i]? = some (some (.d d))→∃ v,σ[i]? = some (some v)∧RT K H v d (ow.n i)∧(ow.n i).Nodup
theorem Rel.tb {fl:List Fl} {G:Gh} {ow:Ow} {σ:St} (R:Rel K fl G ow σ H δ):Tb H:=G.tb.same (R.s0.trans R.s1)
theorem Rel.same0 {fl:List Fl} {G:Gh} {ow:Ow} {σ:St} (R:Rel K fl G ow σ H δ):Same G.H0 H:=R.s0.trans R.s1
theorem Rel.grow {fl:List Fl} {G:Gh} {ow:Ow} {σ:St} (R:Rel K fl G ow σ H δ) (e:Same H H'):Rel K fl G ow σ H' δ :=
 ⟨R.s0,R.s1.trans e,R.len,fun i a h=>by
  obtain ⟨h0,hf,xs,ds,h1,h2,h3,h4⟩:=R.own i a h
  exact ⟨h0,hf,xs,ds,h1,e _ _ h2,h3.same e,h4⟩,R.inj,R.pin,fun i d h1 hn h2=>by
  obtain ⟨v,h3,h4⟩:=R.dat i d h1 hn h2
  exact ⟨v,h3,h4.same e⟩,R.oo,fun i a h=>by
  obtain ⟨h1,h2,h3⟩:=R.nt i a h
  exact ⟨h1,(let ⟨u,z,c⟩:=h2;⟨u,e _ _ z,c⟩),h3⟩,R.nd,R.ns,R.np,fun i d h1 h2=>by
  obtain ⟨v,h3,h4,h5⟩:=R.nr i d h1 h2
  exact ⟨v,h3,h4.same e,h5⟩⟩
inductive Kd where
 | P
 | B (L:List Nat)
 | A
 | R
 | F
 | C
 | FC
 | T
def ok1:Ok:=fun _=>True
def ok0:Ok:=fun _=>False
def okN (H:Hp):Ok:=fun a=>H a=none
def Rs (K:PySem.W.Frag) (H0:Hp) (ow:Ow) (Hb H:Hp):Kd→V→D→Prop
 | .P,v,d=>RA K ok1 true H v d
 | .B L,v,d=>RA K (okA ow) true H v d∨∃ i ∈ L,∃ a xs ds,ow i=some a∧v = .ref a∧d = .list ds∧H a=some (.lst xs)∧RAs K (okA ow) true H xs ds
 | .A,v,d=>RA K (okA ow) true H v d
 | .R,v,d=>RA K (okN H0) false H v d
 | .F,v,d=>(flat d=true∧RA K ok0 false H v d)∨∃ a xs ds,v = .ref a∧d = .list ds∧Hb a=none∧H a=some (.lst xs)∧RAs K (fun b=>okA ow b∧b ≠ a) true H xs ds
 | .C,v,d=>RA K (okN Hb) false H v d
 | .T,v,d=>∃ as,RT K H v d as∧as.Nodup∧∀ a ∈ as,Hb a=none
 | .FC,v,d=>(flat d=true∧RA K ok0 false H v d)∨∃ a xs ds,v = .ref a∧d = .list ds∧Hb a=none∧H a=some (.lst xs)∧RAs K (fun b=>okN Hb b∧b ≠ a) false H xs ds
section
variable {K:PySem.W.Frag} {Hb H H':Hp} {fl:List Fl} {G:Gh} {ow:Ow} {σ:St} {δ:DS} {v:V} {d:D}
theorem zE (R:Rel K fl G ow σ Hb δ) {a:Addr} (h:Hb a=none):okA ow a:=⟨fun i e=>(by
 obtain ⟨_,_,xs,_,_,h2,_⟩:=R.own i a e
 rw [h] at h2
 cases h2),fun i e=>(R.nt i a e).2.1.ne h⟩
theorem Xl (R:Rel K fl G ow σ Hb δ) {a:Addr} (h:Hb a=none):okN G.H0 a:=R.same0.free h
theorem Rs.FC_F (R:Rel K fl G ow σ Hb δ) (h:Rs K G.H0 ow Hb H .FC v d):Rs K G.H0 ow Hb H .F v d:=by
 rcases h with h | ⟨a,xs,ds,h1,h2,h3,h4,h5⟩
 ·exact .inl h
 ·exact .inr ⟨a,xs,ds,h1,h2,h3,h4,h5.imp (fun b z=>⟨zE R z.1,z.2⟩) (fun _=>rfl)⟩
theorem Rs.FC_C (h:Rs K G.H0 ow Hb H .FC v d):Rs K G.H0 ow Hb H .C v d:=by
 rcases h with h | ⟨a,xs,ds,rfl,rfl,h3,h4,h5⟩
 ·exact RA.flat h.1 h.2
 ·exact .lst h4 h3 (h5.imp (fun b z=>z.1) (fun z=>z))
theorem Rs.F_A (R:Rel K fl G ow σ Hb δ) (h:Rs K G.H0 ow Hb H .F v d):Rs K G.H0 ow Hb H .A v d:=by
 rcases h with h | ⟨a,xs,ds,rfl,rfl,h3,h4,h5⟩
 ·exact RA.flat h.1 h.2
 ·exact .lst h4 (zE R h3) (h5.imp (fun b z=>z.1) (fun z=>z))
theorem Rs.C_A (R:Rel K fl G ow σ Hb δ) (h:Rs K G.H0 ow Hb H .C v d):Rs K G.H0 ow Hb H .A v d:=RA.imp (fun _ z=>zE R z) (fun _=>rfl) h
theorem Rs.C_R (R:Rel K fl G ow σ Hb δ) (h:Rs K G.H0 ow Hb H .C v d):Rs K G.H0 ow Hb H .R v d:=RA.imp (fun _ z=>Xl R z) (fun z=>z) h
theorem Rs.A_B (L:List Nat) (h:Rs K G.H0 ow Hb H .A v d):Rs K G.H0 ow Hb H (.B L) v d:=.inl h
theorem Rs.B_P (h:Rs K G.H0 ow Hb H (.B L) v d):Rs K G.H0 ow Hb H .P v d:=by
 rcases h with h | ⟨i,_,a,xs,ds,_,rfl,rfl,h4,h5⟩
 ·exact RA.imp (fun _ _=>trivial) (fun z=>z) h
 ·exact .lst h4 trivial (h5.imp (fun _ _=>trivial) (fun z=>z))
theorem Rs.P_flat (hf:flat d=true) (h:Rs K G.H0 ow Hb H .P v d):Rs K G.H0 ow Hb H .FC v d:=.inl ⟨hf,RA.flat hf h⟩
end
def tD (K:PySem.W.Frag) (fl:List Fl) (k:Kd) (f:FE):TE:=fun σ H Q=>∃ G ow δ d,Rel K fl G ow σ H δ∧f δ=some d∧∀ v H',Same H H'→Rs K G.H0 ow H H' k v d→Q v H'
abbrev DE (X:Cx) (fl:List Fl) (k:Kd) (e:Expr) (f:FE):Prop:=PE X e (tD X.K fl k f)
def tDA (K:PySem.W.Frag) (fl:List Fl) (f:FA):TA:=fun σ H Q=>∃ G ow δ ds,Rel K fl G ow σ H δ∧f δ=some ds∧∀ vs H',Same H H'→RAs K ok1 true H' vs ds→Q vs H'
abbrev DA (X:Cx) (fl:List Fl) (es:List Expr) (f:FA):Prop:=PA X es (tDA X.K fl f)
def tDT (K:PySem.W.Frag) (fl:List Fl) (f:FT):TT:=fun σ H Q=>∃ G ow δ b,Rel K fl G ow σ H δ∧f δ=some b∧∀ H',Same H H'→Q b H'
abbrev DT (X:Cx) (fl:List Fl) (e:Expr) (f:FT):Prop:=PT X e (tDT X.K fl f)
abbrev DW (X:Cx) (fl:List Fl) (e:Expr) (f:FT):Prop:=PW X e (tDT X.K fl f)
def Es (K:PySem.W.Frag) (fl:List Fl) (G:Gh) (Dn:Ends):Oc→Prop
 | .nx δ'=>∀ ow' σ' H',Rel K fl G ow' σ' H' δ'→Dn.nx σ' H'
 | .rt d=>∀ v H',Same G.H0 H'→RA K (okN G.H0) false H' v d→Dn.rt v H'
 | .bk δ'=>∀ ow' σ' H',Rel K fl G ow' σ' H' δ'→Dn.bk σ' H'
 | .ct δ'=>∀ ow' σ' H',Rel K fl G ow' σ' H' δ'→Dn.ct σ' H'
 | .ex _ _ d=>∀ v H',Same G.H0 H'→RA K ok1 true H' v d→Dn.rt v H'
def tDS (K:PySem.W.Frag) (fl:List Fl) (f:FS):TS:=fun Dn σ H=>∃ G ow δ o,Rel K fl G ow σ H δ∧f δ=some o∧Es K fl G Dn o
abbrev DS1 (X:Cx) (fl:List Fl) (s:Stmt) (f:FS):Prop:=PS X s (tDS X.K fl f)
abbrev DSs (X:Cx) (fl:List Fl) (s:List Stmt) (f:FS):Prop:=PSs X s (tDS X.K fl f)
def tDG (K:PySem.W.Frag) (fl:List Fl) (tg:List Nat) (g:FG):TG:=fun v σ H Q=>∃ G ow δ d δ',Rel K fl G ow σ H δ∧RA K (okA ow) true H v d∧g d δ=some δ'∧∀ σ',Rel K fl G ow σ' H δ'→(∀ j,j ∉ tg→σ'[j]? = σ[j]?)→Q σ' H
abbrev DG (X:Cx) (fl:List Fl) (tg:List Nat) (e:Expr) (g:FG):Prop:=PG X e (tDG X.K fl tg g)
section
variable {X:Cx} {e:Expr} {es:List Expr} {st:Stmt} {sts:List Stmt}
theorem PE.imp {t t':TE} (h:PE X e t) (i:∀ σ H Q,t' σ H Q→t σ H Q):PE X e t':=fun pins s σ H Q I q=>h pins s σ H Q I (i σ H Q q)
theorem PT.imp {t t':TT} (h:PT X e t) (i:∀ σ H Q,t' σ H Q→t σ H Q):PT X e t':=fun pins s σ H Q I q=>h pins s σ H Q I (i σ H Q q)
theorem PW.imp {t t':TT} (h:PW X e t) (i:∀ σ H Q,t' σ H Q→t σ H Q):PW X e t':=fun w pins s σ H Q I q=>h w pins s σ H Q I (i σ H Q q)
theorem PA.imp {t t':TA} (h:PA X es t) (i:∀ σ H Q,t' σ H Q→t σ H Q):PA X es t':=fun p pins s σ H Q I q=>h p pins s σ H Q I (i σ H Q q)
theorem PS.imp {t t':TS} (h:PS X st t) (i:∀ D σ H,t' D σ H→t D σ H):PS X st t':=fun pins s σ H D I q=>h pins s σ H D I (i D σ H q)
theorem PSs.imp {t t':TS} (h:PSs X sts t) (i:∀ D σ H,t' D σ H→t D σ H):PSs X sts t':=fun pins s σ H D I q=>h pins s σ H D I (i D σ H q)
theorem PG.imp {t t':TG} (h:PG X e t) (i:∀ v σ H Q,t' v σ H Q→t v σ H Q):PG X e t':=fun pins s σ H v u Q I r q=>h pins s σ H v u Q I r (i v σ H Q q)
end
end D3
namespace D3
open PySem PySem.Spec PyProof.Rows L2 My
section
variable {X:Cx} {fl:List Fl} {e a b c:Expr} {es:List Expr} {k:Kd} {f fa fb fc:FE} {pos:Pos}
theorem m6 (h:aF i δ=some d):δ[i]? = some (some (.d d)):=by
 unfold aF at h
 split at h
 ·next x e=>rw [e];cases h;rfl
 ·cases h
theorem v5 (i:Nat) {x:Str} (hN:X.N[i]? = some x:=by rfl) (hv:Vis X.env.scope x:=by first | exact Or.inl rfl | exact Or.inr (Or.inl rfl) | exact Or.inr (Or.inr rfl)) (hd:(x == ("__debug__" : Str))=false:=by decide)
 (hcd:(x == ("__classdict__" : Str))=false:=by decide) (hn:isN fl[i]? = false:=by rfl):DE X fl (.B [i]) (.Name x pos) (aF i):=by
 refine PE.imp (oh hN hv hd hcd) fun σ H Q h=>?_
 obtain ⟨G,ow,δ,d,R,hf,q⟩:=h
 have e:=m6 hf
 cases ho:ow i with
 | none =>
  obtain ⟨v,h1,h2⟩:=R.dat i d e hn ho
  exact ⟨v,h1,q v H (Same.refl H) (.inl h2)⟩
 | some a =>
  obtain ⟨h0,_,xs,ds,h1,h2,h3,h4⟩:=R.own i a ho
  rw [e] at h4
  cases h4
  exact ⟨_,h1,q _ H (Same.refl H) (.inr ⟨i,aM.mpr rfl,a,xs,ds,ho,rfl,rfl,h2,h3⟩)⟩
theorem zF (i:Nat) (hfl:fl[i]? = some .A) {x:Str} (hN:X.N[i]? = some x:=by rfl) (hv:Vis X.env.scope x:=by first | exact Or.inl rfl | exact Or.inr (Or.inl rfl) | exact Or.inr (Or.inr rfl)) (hd:(x == ("__debug__" : Str))=false:=by decide)
 (hcd:(x == ("__classdict__" : Str))=false:=by decide):DE X fl .A (.Name x pos) (aF i):=by
 refine PE.imp (oh hN hv hd hcd) fun σ H Q h=>?_
 obtain ⟨G,ow,δ,d,R,hf,q⟩:=h
 have e:=m6 hf
 cases ho:ow i with
 | none =>
  obtain ⟨v,h1,h2⟩:=R.dat i d e (by rw [hfl];rfl) ho
  exact ⟨v,h1,q v H (Same.refl H) h2⟩
 | some a =>
  obtain ⟨h0,hz,_⟩:=R.own i a ho
  rw [hfl] at hz
  rcases hz with ⟨z,_⟩ | ⟨z,_⟩ <;> cases z
theorem zG (i:Nat) (hfl:fl[i]? ≠ some .A) {x:Str} (hN:X.N[i]? = some x:=by rfl) (hv:Vis X.env.scope x:=by first | exact Or.inl rfl | exact Or.inr (Or.inl rfl) | exact Or.inr (Or.inr rfl)) (hd:(x == ("__debug__" : Str))=false:=by decide)
 (hcd:(x == ("__classdict__" : Str))=false:=by decide) (hn:isN fl[i]? = false:=by rfl):DE X fl .R (.Name x pos) (En (aF i)):=by
 refine PE.imp (oh hN hv hd hcd) fun σ H Q h=>?_
 obtain ⟨G,ow,δ,d,R,hf,q⟩:=h
 unfold En at hf
 cases hv':aF i δ with
 | none=>rw [hv'] at hf;cases hf
 | some d' =>
  rw [hv',aN] at hf
  by_cases hc:fl1 d'=true
  ·rw [if_pos hc] at hf
   cases hf
   have e:=m6 hv'
   cases ho:ow i with
   | none =>
    obtain ⟨v,h1,h2⟩:=R.dat i d e hn ho
    exact ⟨v,h1,q v H (Same.refl H) (RA.flat (R.oo i d e hn hfl ho) h2)⟩
   | some a =>
    obtain ⟨h0,_,xs,ds,h1,h2,h3,h4⟩:=R.own i a ho
    rw [e] at h4
    cases h4
    exact ⟨_,h1,q _ H (Same.refl H) (.lst h2 h0 (RAs.flat hc h3))⟩
  ·rw [if_neg hc] at hf
   cases hf
theorem m7 {k':Kd} (h:DE X fl k e f) (hc:∀ (Hb H:Hp) (G:Gh) (ow:Ow) (σ:St) (δ:DS) (v:V) (d:D),Rel X.K fl G ow σ Hb δ→Rs X.K G.H0 ow Hb H k v d→Rs X.K G.H0 ow Hb H k' v d):DE X fl k' e f:=by
 refine PE.imp h fun σ H Q h=>?_
 obtain ⟨G,ow,δ,d,R,hf,q⟩:=h
 exact ⟨G,ow,δ,d,R,hf,fun v H' s r=>q v H' s (hc _ _ G ow σ δ v d R r)⟩
theorem Kw {k':Kd} {p:D→Bool} (h:DE X fl k e f) (hc:∀ (Hb H:Hp) (G:Gh) (ow:Ow) (σ:St) (δ:DS) (v:V) (d:D),p d=true→Rel X.K fl G ow σ Hb δ→Rs X.K G.H0 ow Hb H k v d→Rs X.K G.H0 ow Hb H k' v d) :
 DE X fl k' e (fun δ=>(f δ).bind fun d=>if p d=true then some d else none):=by
 refine PE.imp h fun σ H Q h=>?_
 obtain ⟨G,ow,δ,d,R,hf,q⟩:=h
 dsimp only at hf
 cases hv:f δ with
 | none=>rw [hv] at hf;cases hf
 | some d' =>
  rw [hv,aN] at hf
  by_cases hp:p d'=true
  ·rw [if_pos hp] at hf
   cases hf
   exact ⟨G,ow,δ,d,R,hv,fun v H' s r=>q v H' s (hc _ _ G ow σ δ v d hp R r)⟩
  ·rw [if_neg hp] at hf
   cases hf
theorem rK (h:DE X fl .FC e f):DE X fl .F e f:=m7 h fun _ _ _ _ _ _ _ _ R r=>r.FC_F R
theorem mU (h:DE X fl .FC e f):DE X fl .C e f:=m7 h fun _ _ _ _ _ _ _ _ R r=>r.FC_C
theorem yF (h:DE X fl .F e f):DE X fl .A e f:=m7 h fun _ _ _ _ _ _ _ _ R r=>r.F_A R
theorem mV (h:DE X fl .C e f):DE X fl .A e f:=m7 h fun _ _ _ _ _ _ _ _ R r=>r.C_A R
theorem uQ (h:DE X fl .C e f):DE X fl .R e f:=m7 h fun _ _ _ _ _ _ _ _ R r=>r.C_R R
theorem m8 (h:DE X fl .A e f):DE X fl (.B []) e f:=m7 h fun _ _ _ _ _ _ _ _ R r=>Rs.A_B [] r
theorem yG (h:DE X fl (.B L) e f):DE X fl .P e f:=m7 h fun _ _ _ _ _ _ _ _ R r=>r.B_P
theorem oK (h:DE X fl .P e f):DE X fl .FC e (mQ f):=Kw h fun _ _ _ _ _ _ _ _ hf R r=>r.P_flat hf
theorem fL (h:DE X fl .FC e f):DE X fl .A e f:=yF (rK h)
theorem cD (h:DE X fl .FC e f):DE X fl .R e f:=uQ (mU h)
theorem cI (h:DE X fl .A e f):DE X fl .P e f:=yG (m8 h)
theorem f9 (h:DE X fl .C e f):DE X fl .P e f:=cI (mV h)
theorem bh (h:DE X fl .FC e f):DE X fl .P e f:=cI (fL h)
theorem Gs (h:DE X fl .F e f):DE X fl .P e f:=cI (yF h)
theorem v7 (h:PE X e (tC v)) (hf:flat d=true) (hr:∀ H,RA X.K ok0 false H v d):DE X fl .FC e (dC d):=by
 refine PE.imp h fun σ H Q h=>?_
 obtain ⟨G,ow,δ,d',R,hd,q⟩:=h
 cases hd
 exact q v H (Same.refl H) (.inl ⟨hf,hr H⟩)
theorem zH {i j pos}:DE X fl .FC (.Constant (.int i) j pos) (dC (.int i)):=v7 Tz rfl fun _=>.int _
theorem jF {b j pos}:DE X fl .FC (.Constant (.bool b) j pos) (dC (.bool b)):=v7 WK rfl fun _=>.bl _
theorem zJ {j pos}:DE X fl .FC (.Constant .none j pos) (dC .none):=v7 TF rfl fun _=>.non
theorem zK {x j pos}:DE X fl .FC (.Constant (.str x) j pos) (dC (.str x)):=v7 TJ rfl fun _=>.str _
theorem zL {i:Int} (h:∃ t,X.mg x=some (.int i t)) (hg:Gl X x:=by rfl) (hd:(x == ("__debug__" : Str))=false:=by decide):DE X fl .FC (.Name x pos) (dC (.int i)):=by
 obtain ⟨t,h⟩:=h
 exact v7 (O8 (v:=.int i) hg h ⟨t,rfl⟩ hd) rfl fun _=>.int _
def BrO (K:PySem.W.Frag) (r:R2) (g:D→D→Option D):Prop:=∀ (H:Hp) (x y:V) (dx dy d:D) (Q:VK),RA K ok1 true H x dx→RA K ok1 true H y dy→g dx dy=some d→(∀ v,flat d=true→RA K ok0 false H v d→Q v H)→r x y H Q
theorem BW {g:D→D→Option D} (h:dOp g fa fb δ=some d):∃ x y,fa δ=some x∧fb δ=some y∧g x y=some d:=by
 unfold dOp at h
 cases ha:fa δ with
 | none=>rw [ha] at h;cases h
 | some x =>
  rw [ha,aN] at h
  cases hb:fb δ with
  | none=>rw [hb] at h;cases h
  | some y =>
   rw [hb,aN] at h
   exact ⟨x,y,rfl,rfl,h⟩
theorem bind1 {α β:Type} {x:Option α} {g:α→Option β} {d:β} (h:x.bind g=some d):∃ y,x=some y∧g y=some d:=by
 cases x with
 | none=>cases h
 | some y=>exact ⟨y,rfl,h⟩
theorem uf {g:D→D→Option D} {σ:St} {Q:VK} (hb:BrO X.K r g) (h:tD X.K fl .FC (dOp g fa fb) σ H Q):tOp r (tD X.K fl .P fa) (tD X.K fl .P fb) σ H Q:=by
 obtain ⟨G,ow,δ,d,R,hf,q⟩:=h
 obtain ⟨x,y,e1,e2,e3⟩:=BW hf
 refine ⟨G,ow,δ,x,R,e1,fun v H1 s1 r1=>⟨G,ow,δ,y,R.grow s1,e2,fun u H2 s2 r2=>?_⟩⟩
 exact hb H2 v u x y d Q (RA.same s2 r1) r2 e3 fun z hz rz=>q z H2 (s1.trans s2) (.inl ⟨hz,rz⟩)
theorem cQ {op:Operator} {g:D→D→Option D} (ho:OpR X (binaryOp op) r) (hb:BrO X.K r g) (h1:DE X fl .P a fa) (h2:DE X fl .P b fb):DE X fl .FC (.BinOp a op b pos) (dOp g fa fb) :=
 PE.imp (SM ho h1 h2) fun _ _ _ h=>uf hb h
theorem nq {g:D→D→Option D} (ho:OpR X (compareOp op) r) (hb:BrO X.K r g) (h1:DE X fl .P a fa) (h2:DE X fl .P b fb) (hm:behindInMarks op b=false):DE X fl .FC (.Compare a [op] [b] pos) (dOp g fa fb) :=
 PE.imp (Pq ho h1 h2 hm) fun _ _ _ h=>uf hb h
theorem fM {g:D→D→Option D} (ho:OpR X (compareOp op) r) (hb:BrO X.K r g) (h1:DE X fl .P a fa) (h2:DE X fl .P b fb) (hm:behindInMarks op b=false):DT X fl (.Compare a [op] [b] pos) (bU (dOp g fa fb)):=by
 refine PT.imp (Pr ho h1 h2 hm) fun σ H Q h=>?_
 obtain ⟨G,ow,δ,c,R,hf,q⟩:=h
 obtain ⟨d,e1,e2⟩:=bind1 hf
 cases d <;> first | (cases e2;done) | skip
 cases e2
 refine uf (fl:=fl) (fa:=fa) (fb:=fb) hb ⟨G,ow,δ,_,R,e1,fun v H' s r=>?_⟩
 obtain rfl:=(Rs.FC_C r).blE
 exact ⟨_,rfl,q H' s⟩
theorem iT (h:DE X fl .P e f) (he:∀ whole,isTrue e X.env whole=(do let v ← whole;standAt e.pos;holding [v] (truthy v)):=by intro _;rfl):DT X fl e (bU f):=by
 refine PT.imp (TX h he) fun σ H Q h=>?_
 obtain ⟨G,ow,δ,c,R,hf,q⟩:=h
 obtain ⟨d,e1,e2⟩:=bind1 hf
 cases d <;> first | (cases e2;done) | skip
 cases e2
 refine ⟨G,ow,δ,_,R,e1,fun v H' s r=>?_⟩
 obtain rfl:=RA.blE r
 exact ⟨_,rfl,q H' s⟩
theorem yH {h:Int→Int→V} {g:Int→Int→D} (hf:∀ i j,flat (g i j)=true) (hr:∀ H i j,RA K ok0 false H (h i j) (g i j)):BrO K (rI0 h) (gI fun i j=>some (g i j)):=by
 intro H x y dx dy d Q rx ry e q
 unfold gI at e
 split at e
 ·next i j =>
  cases e
  exact ⟨i,j,rx.intE,ry.intE,q _ (hf i j) (hr H i j)⟩
 ·cases e
theorem Qe {C:Int→Int→Prop} {h:Int→Int→V} {g:Int→Int→D} {c:Int→Int→Bool} (hc:∀ i j,c i j=true→C i j) (hf:∀ i j,flat (g i j)=true) (hr:∀ H i j,RA K ok0 false H (h i j) (g i j)) :
 BrO K (rI C h) (gI fun i j=>if c i j=true then some (g i j) else none):=by
 intro H x y dx dy d Q rx ry e q
 unfold gI at e
 split at e
 ·next i j =>
  dsimp only at e
  by_cases z:c i j=true
  ·rw [if_pos z] at e
   cases e
   exact ⟨i,j,rx.intE,ry.intE,hc i j z,q _ (hf i j) (hr H i j)⟩
  ·rw [if_neg z] at e
   cases e
 ·cases e
end
section
variable {X:Cx} {K:PySem.W.Frag}
theorem Qf {i j:Int} (h:vX i j=true):IntMulOk i j:=by
 unfold vX at h
 rw [lu,lu,bw] at h
 rcases h with (h | h) | ⟨h1,h2⟩
 ·exact IntMulOk.of_left (PySem.intBits_le_iff.mpr (of_decide_eq_true h))
 ·exact IntMulOk.of_right (PySem.intBits_le_iff.mpr (of_decide_eq_true h))
 ·exact PySem.IntMulOk.of_le (PySem.intBits_le_iff.mpr (of_decide_eq_true h1)) (PySem.intBits_le_iff.mpr (of_decide_eq_true h2)) (by decide)
theorem lQ:OpR X (binaryOp .Mult) (rI (fun i j=>vX i j=true) fun i j=>.int (i * j)):=opI fun _ _ _ _ _ _ _ hc q=>mul_int q (Qf hc)
theorem zM:OpR X (binaryOp .FloorDiv) (rI (fun i j=>Eo i j=true) fun i j=>.int (i.fdiv j)):=opI fun i j _ _ _ _ _ hc q=>by
 unfold Eo at hc
 rw [bw] at hc
 have h1:=of_decide_eq_true hc.1
 have h2:=of_decide_eq_true hc.2
 refine floordiv_int h1 q (.inl (PyProof.noPylong_of_log2 ?_))
 exact (Nat.log2_lt (by omega)).mpr h2
theorem Qg {i j:Int} (h:Uu i j=true):Ud i j:=by
 unfold Uu at h
 rw [bw,bw] at h
 have h1:=of_decide_eq_true h.1.1
 have h2:=of_decide_eq_true h.1.2
 exact ⟨h1,by omega,of_decide_eq_true h.2⟩
theorem gY:BrO K (rI0 fun i j=>.int (i + j)) gw:=yH (fun _ _=>rfl) fun _ _ _=>.int _
theorem Gu:BrO K (rI0 fun i j=>.int (i - j)) xP:=yH (fun _ _=>rfl) fun _ _ _=>.int _
theorem sU:BrO K (rI (fun i j=>vX i j=true) fun i j=>.int (i * j)) oH:=Qe (fun _ _ h=>h) (fun _ _=>rfl) fun _ _ _=>.int _
theorem Ky:BrO K (rI (fun i j=>Eo i j=true) fun i j=>.int (i.fdiv j)) uY:=Qe (fun _ _ h=>h) (fun _ _=>rfl) fun _ _ _=>.int _
theorem qQ:BrO K (rI (fun _ j=>j ≠ 0) fun i j=>.int (i.fmod j)) oJ:=Qe (fun _ _ h=>of_decide_eq_true h) (fun _ _=>rfl) fun _ _ _=>.int _
theorem Xm:BrO K (rI Ud fun i j=>.int (i ^ j.toNat)) Uv:=Qe (fun _ _ h=>Qg h) (fun _ _=>rfl) fun _ _ _=>.int _
theorem b_lt:BrO K (rI0 fun i j=>.bl (decide (i < j))) gLt:=yH (fun _ _=>rfl) fun _ _ _=>.bl _
theorem pG:BrO K (rI0 fun i j=>.bl (decide (i ≤ j))) gLe:=yH (fun _ _=>rfl) fun _ _ _=>.bl _
theorem IV:BrO K (rI0 fun i j=>.bl (decide (j < i))) gGt:=yH (fun _ _=>rfl) fun _ _ _=>.bl _
theorem Xn:BrO K (rI0 fun i j=>.bl (decide (j ≤ i))) gGe:=yH (fun _ _=>rfl) fun _ _ _=>.bl _
theorem zN:BrO K (Xf K) gEq:=by
 intro H x y dx dy d Q rx ry e q
 unfold gEq at e
 by_cases z:(SeqAt.shaped dx && SeqAt.shaped dy)=true
 ·rw [if_pos z] at e
  cases e
  rw [bw] at z
  exact ⟨dx,dy,rx.rd (SeqAt.canLay_of_shaped z.1),ry.rd (SeqAt.canLay_of_shaped z.2),z.1,z.2,q _ rfl (.bl _)⟩
 ·rw [if_neg z] at e
  cases e
theorem Et:BrO K (Xg K) gNe:=by
 intro H x y dx dy d Q rx ry e q
 unfold gNe at e
 by_cases z:(SeqAt.shaped dx && SeqAt.shaped dy)=true
 ·rw [if_pos z] at e
  cases e
  rw [bw] at z
  exact ⟨dx,dy,rx.rd (SeqAt.canLay_of_shaped z.1),ry.rd (SeqAt.canLay_of_shaped z.2),z.1,z.2,q _ rfl (.bl _)⟩
 ·rw [if_neg z] at e
  cases e
end
end D3
variable {G:D3.Gh} {ow:D3.Ow}
namespace D3
open PySem PySem.Spec PyProof.Rows L2 My
section
variable {X:Cx} {fl:List Fl} {e a b c:Expr} {es:List Expr} {st:Stmt} {sts body orelse:List Stmt} {k:Kd} {f fa fb fc:FE} {fs gs:FS} {ft gt:FT} {pos:Pos}
theorem Es.nx_imp {Dn:Ends} {N:St→Hp→Prop} {o:Oc} (h:Es K fl G Dn o) (hn:∀ δ',o ≠ .nx δ'):Es K fl G { Dn with nx:=N } o:=by
 cases o with
 | nx δ'=>exact absurd rfl (hn δ')
 | rt d=>exact h
 | bk δ'=>exact h
 | ct δ'=>exact h
 | ex c f v=>exact h
theorem cU:DSs X fl [] fK:=PSs.imp Pb fun Dn σ H h=>by
 obtain ⟨G,ow,δ,o,R,hf,q⟩:=h
 cases hf
 exact q ow σ H R
theorem aX (h1:DS1 X fl st fs) (h2:DSs X fl sts gs):DSs X fl (st :: sts) (cA fs gs):=PSs.imp (J2 h1 h2) fun Dn σ H h=>by
 obtain ⟨G,ow,δ,o,R,hf,q⟩:=h
 obtain ⟨o1,e1,e2⟩:=bind1 hf
 refine ⟨G,ow,δ,o1,R,e1,?_⟩
 cases o1 with
 | nx δ'=>exact fun ow' σ' H' R'=>⟨G,ow',δ',o,R',e2,q⟩
 | rt d=>cases e2;exact Es.nx_imp q (fun _ z=>by cases z)
 | bk d=>cases e2;exact Es.nx_imp q (fun _ z=>by cases z)
 | ct d=>cases e2;exact Es.nx_imp q (fun _ z=>by cases z)
 | ex c f v=>cases e2;exact q
theorem bx (h1:DS1 X fl st fs):DSs X fl [st] fs:=PSs.imp (Pg h1) fun _ _ _ h=>h
theorem bZ (h:DE X fl .R e f):DS1 X fl (.Return (some e) pos) (dG f):=PS.imp (J3 h) fun Dn σ H h=>by
 obtain ⟨G,ow,δ,o,R,hf,q⟩:=h
 obtain ⟨d,e1,e2⟩:=bind1 hf
 cases e2
 exact ⟨G,ow,δ,d,R,e1,fun v H' s r=>q v H' (R.same0.trans s) r⟩
theorem zO (h:DE X fl .P e f) (hs:swapsWith e none pos.line X.env=pure false:=by rfl):DS1 X fl (.Expr e pos) (yx f):=PS.imp (vg h hs) fun Dn σ H h=>by
 obtain ⟨G,ow,δ,o,R,hf,q⟩:=h
 obtain ⟨d,e1,e2⟩:=bind1 hf
 cases e2
 exact ⟨G,ow,δ,d,R,e1,fun v H' s r=>q ow σ H' (R.grow s)⟩
theorem gb (hc:DT X fl c ft) (h1:DSs X fl body fs) (h2:DSs X fl orelse gs):DS1 X fl (.If c body orelse pos) (sIf ft fs gs):=PS.imp (WY hc h1 h2) fun Dn σ H h=>by
 obtain ⟨G,ow,δ,o,R,hf,q⟩:=h
 obtain ⟨t,e1,e2⟩:=bind1 hf
 refine ⟨G,ow,δ,t,R,e1,fun H' s=>?_⟩
 cases t with
 | true=>exact xT ⟨G,ow,δ,o,R.grow s,e2,q⟩
 | false=>exact xR ⟨G,ow,δ,o,R.grow s,e2,q⟩
theorem gD {α:Type} {l:List (Option α)} {x y:α} (h:(l.set i (some x))[j]? = some (some y)):(j=i∧x=y)∨(j ≠ i∧l[j]? = some (some y)):=by
 rw [jM] at h
 by_cases e:i=j
 ·subst e
  rw [if_pos rfl] at h
  by_cases z:i < l.length
  ·rw [if_pos z] at h
   cases h
   exact .inl ⟨rfl,rfl⟩
  ·rw [if_neg z] at h
   cases h
 ·rw [if_neg e] at h
  exact .inr ⟨fun z=>e z.symm,h⟩
theorem Rel.o7 {σ:St} (R:Rel K fl G ow σ H δ) (hfl:fl[i]? = some .A) (hi:i < σ.length) (r:RA K (okA ow) true H v d) :
 Rel K fl G ow (σ.set i (some v)) H (δ.set i (some (.d d))):=by
 have no:∀ a,ow i ≠ some a:=fun a z=>by
  obtain ⟨_,hz,_⟩:=R.own i a z
  rw [hfl] at hz
  rcases hz with ⟨z,_⟩ | ⟨z,_⟩ <;> cases z
 refine ⟨R.s0,R.s1,by rw [cM,cM];exact R.len,fun j a h=>?_,R.inj,R.pin,fun j d' h1 hn h2=>?_,fun j d' h1 hn h2 h3=>?_,R.nt,R.nd,R.ns,R.np,fun j d' hn h1=>?_⟩
 ·have hj:j ≠ i:=fun z=>no a (z ▸ h)
  obtain ⟨h0,hf,xs,ds,h1,h2,h3,h4⟩:=R.own j a h
  exact ⟨h0,hf,xs,ds,by rw [bD (Ne.symm hj)];exact h1,h2,h3,by rw [bD (Ne.symm hj)];exact h4⟩
 ·rcases gD h1 with ⟨rfl,e⟩ | ⟨hj,e⟩
  ·cases e
   exact ⟨v,by rw [cT hi],r⟩
  ·obtain ⟨v',h3,h4⟩:=R.dat j d' e hn h2
   exact ⟨v',by rw [bD (Ne.symm hj)];exact h3,h4⟩
 ·rcases gD h1 with ⟨rfl,e⟩ | ⟨hj,e⟩
  ·exact absurd hfl h2
  ·exact R.oo j d' e hn h2 h3
 ·rcases gD h1 with ⟨rfl,e⟩ | ⟨hj,e⟩
  ·rw [hfl] at hn;cases hn
  ·obtain ⟨v',h3,h4⟩:=R.nr j d' hn e
   exact ⟨v',by rw [bD (Ne.symm hj)];exact h3,h4⟩
def nR (ow:Ow) (i:Nat) (a:Option Addr):Ow:=⟨fun j=>if j=i then a else ow j,ow.n⟩
theorem gF {a:Option Addr}:nR ow i a i=a:=if_pos rfl
theorem dR {a:Option Addr} (h:j ≠ i):nR ow i a j=ow j:=if_neg h
theorem Rel.setO {σ:St} (R:Rel K fl G ow σ H δ) (s:Same H H') (hfl:fl[i]? = some .O) (hi:i < σ.length) (r:Rs K G.H0 ow H H' .F v d) :
 ∃ ow',Rel K fl G ow' (σ.set i (some v)) H' (δ.set i (some (.d d))):=by
 have R':=R.grow s
 have sub0:∀ b,okA ow b→okA (nR ow i none) b:=fun b z=>⟨fun j e=>by
  by_cases hj:j=i
  ·subst hj;rw [gF] at e;cases e
  ·rw [dR hj] at e;exact z.1 j e,z.2⟩
 have nrs:∀ j d',isN fl[j]? = true→(δ.set i (some (.d d)))[j]? = some (some (.d d'))→∃ v',(σ.set i (some v))[j]? = some (some v')∧RT K H' v' d' (ow.n j)∧(ow.n j).Nodup:=fun j d' hn h1=>by
  rcases gD h1 with ⟨rfl,e⟩ | ⟨hj,e⟩
  ·rw [hfl] at hn;cases hn
  ·obtain ⟨v',h3,h4⟩:=R'.nr j d' hn e
   exact ⟨v',by rw [bD (Ne.symm hj)];exact h3,h4⟩
 rcases r with ⟨hfd,r⟩ | ⟨a,xs,ds,rfl,rfl,ha,hx,hr⟩
 ·refine ⟨nR ow i none,R'.s0,R'.s1,by rw [cM,cM];exact R.len,fun j a h=>?_,fun j j' a h h'=>?_,fun j h=>?_,fun j d' h1 hn h2=>?_,fun j d' h1 hn h2 h3=>?_,R'.nt,R'.nd,fun j j' a h h'=>?_,R'.np,nrs⟩
  ·have hj:j ≠ i:=fun z=>by subst z;rw [gF] at h;cases h
   rw [dR hj] at h
   obtain ⟨h0,hf,xs,ds,h1,h2,h3,h4⟩:=R'.own j a h
   exact ⟨h0,hf,xs,ds,by rw [bD (Ne.symm hj)];exact h1,h2,h3.imp sub0 (fun z=>z),by rw [bD (Ne.symm hj)];exact h4⟩
  ·have hj:j ≠ i:=fun z=>by subst z;rw [gF] at h;cases h
   have hj':j' ≠ i:=fun z=>by subst z;rw [gF] at h';cases h'
   rw [dR hj] at h
   rw [dR hj'] at h'
   exact R.inj j j' a h h'
  ·have hj:j ≠ i:=fun z=>by subst z;rw [hfl] at h;cases h
   rw [dR hj]
   exact R.pin j h
  ·rcases gD h1 with ⟨rfl,e⟩ | ⟨hj,e⟩
   ·cases e
    exact ⟨v,by rw [cT hi],RA.flat hfd r⟩
   ·rw [dR hj] at h2
    obtain ⟨v',h3,h4⟩:=R'.dat j d' e hn h2
    exact ⟨v',by rw [bD (Ne.symm hj)];exact h3,h4.imp sub0 (fun z=>z)⟩
  ·rcases gD h1 with ⟨rfl,e⟩ | ⟨hj,e⟩
   ·cases e
    exact hfd
   ·rw [dR hj] at h3
    exact R.oo j d' e hn h2 h3
  ·by_cases hj:j'=i
   ·subst hj;rw [gF] at h';cases h'
   ·rw [dR hj] at h';exact R.ns j j' a h h'
 ·have sub:∀ b,okA ow b∧b ≠ a→okA (nR ow i (some a)) b:=fun b z=>⟨fun j e=>by
   by_cases hj:j=i
   ·subst hj;rw [gF] at e;exact z.2 (b_.inj e).symm
   ·rw [dR hj] at e;exact z.1.1 j e,z.1.2⟩
  have old:∀ {v:V} {d:D},RA K (okA ow) true H v d→RA K (okA (nR ow i (some a))) true H' v d:=fun r=>(r.track.imp (fun b z=>sub b ⟨z.1,fun e=>z.2 (e ▸ ha)⟩) (fun z=>z)).same s
  have olds:∀ {v:List V} {d:List D},RAs K (okA ow) true H v d→RAs K (okA (nR ow i (some a))) true H' v d:=fun r=>(r.track.imp (fun b z=>sub b ⟨z.1,fun e=>z.2 (e ▸ ha)⟩) (fun z=>z)).same s
  have nota:∀ j,ow j ≠ some a:=fun j z=>by
   obtain ⟨_,_,_,_,_,h2,_⟩:=R.own j a z
   rw [ha] at h2
   cases h2
  have hF:G.HF a=none:=R.s1.free ha
  refine ⟨nR ow i (some a),R'.s0,R'.s1,by rw [cM,cM];exact R.len,fun j b h=>?_,fun j j' b h h'=>?_,fun j h=>?_,fun j d' h1 hn h2=>?_,fun j d' h1 hn h2 h3=>?_,R'.nt,R'.nd,fun j j' b h h'=>?_,R'.np,nrs⟩
  ·by_cases hj:j=i
   ·subst hj
    rw [gF] at h
    cases h
    exact ⟨R.same0.free ha,.inl ⟨hfl,hF⟩,xs,ds,by rw [cT hi],hx,hr.imp sub (fun z=>z),by rw [cT (by rw [← R.len];exact hi)]⟩
   ·rw [dR hj] at h
    obtain ⟨h0,hf,ys,ds',h1,h2,h3,h4⟩:=R.own j b h
    exact ⟨h0,hf,ys,ds',by rw [bD (Ne.symm hj)];exact h1,s _ _ h2,olds h3,by rw [bD (Ne.symm hj)];exact h4⟩
  ·by_cases hj:j=i
   ·by_cases hj':j'=i
    ·rw [hj,hj']
    ·subst hj
     rw [gF] at h
     cases h
     rw [dR hj'] at h'
     exact absurd h' (nota j')
   ·rw [dR hj] at h
    by_cases hj':j'=i
    ·subst hj'
     rw [gF] at h'
     cases h'
     exact absurd h (nota j)
    ·rw [dR hj'] at h'
     exact R.inj j j' b h h'
  ·have hj:j ≠ i:=fun z=>by subst z;rw [hfl] at h;cases h
   rw [dR hj]
   exact R.pin j h
  ·rcases gD h1 with ⟨rfl,e⟩ | ⟨hj,e⟩
   ·rw [gF] at h2;cases h2
   ·rw [dR hj] at h2
    obtain ⟨v',h3,h4⟩:=R.dat j d' e hn h2
    exact ⟨v',by rw [bD (Ne.symm hj)];exact h3,old h4⟩
  ·rcases gD h1 with ⟨rfl,e⟩ | ⟨hj,e⟩
   ·rw [gF] at h3;cases h3
   ·rw [dR hj] at h3
    exact R.oo j d' e hn h2 h3
  ·by_cases hj:j'=i
   ·subst hj
    rw [gF] at h'
    cases h'
    exact (R.nt j a h).2.1.ne ha
   ·rw [dR hj] at h';exact R.ns j j' b h h'
theorem Rel.mut {σ:St} {a:Addr} {ys:List V} (R:Rel K fl G ow σ H δ) (hfl:fl[i]? = some .O) (ho:ow i=some a) (r:RAs K (okA ow) true H ys ds) :
 Rel K fl G ow σ (upd H a (.lst ys)) (δ.set i (some (.d (.list ds)))):=by
 obtain ⟨h0,hz,xs,ds0,e1,e2,e3,e4⟩:=R.own i a ho
 have na:¬ okA ow a:=fun z=>z.1 i ho
 have hF:G.HF a=none:=by
  rcases hz with ⟨_,z⟩ | ⟨z,_⟩
  ·exact z
  ·rw [hfl] at z;cases z
 have hi:i < δ.length:=by
  rcases dw i δ.length with z | z
  ·exact z
  ·rw [aP z] at e4;cases e4
 refine ⟨R.s0,fun b o hb=>?_,by rw [cM];exact R.len,fun j b h=>?_,R.inj,R.pin,fun j d' h1 hn h2=>?_,fun j d' h1 hn h2 h3=>?_,fun j b h=>?_,R.nd,R.ns,R.np,fun j d' hn h1=>?_⟩
 ·rw [bB (fun z=>by subst z;rw [hF] at hb;cases hb)]
  exact R.s1 b o hb
 ·by_cases hj:j=i
  ·subst hj
   rw [ho] at h
   cases h
   exact ⟨h0,hz,ys,ds,e1,bM,r.upd e2 na,by rw [cT hi]⟩
  ·obtain ⟨h0',hf',zs,ds',h1,h2,h3,h4⟩:=R.own j b h
   have hb:b ≠ a:=fun z=>hj (R.inj j i a (z ▸ h) ho)
   exact ⟨h0',hf',zs,ds',h1,by rw [bB hb];exact h2,h3.upd e2 na,by rw [bD (Ne.symm hj)];exact h4⟩
 ·rcases gD h1 with ⟨rfl,e⟩ | ⟨hj,e⟩
  ·rw [ho] at h2;cases h2
  ·obtain ⟨v',h3,h4⟩:=R.dat j d' e hn h2
   exact ⟨v',h3,h4.upd e2 na⟩
 ·rcases gD h1 with ⟨rfl,e⟩ | ⟨hj,e⟩
  ·rw [ho] at h3;cases h3
  ·exact R.oo j d' e hn h2 h3
 ·obtain ⟨g1,g2,g3⟩:=R.nt j b h
  refine ⟨g1,?_,g3⟩
  by_cases hb:b=a
  ·rw [hb,bM];exact ⟨_,rfl,inferInstance⟩
  ·rw [bB hb];exact g2
 ·rcases gD h1 with ⟨rfl,e⟩ | ⟨hj,e⟩
  ·rw [hfl] at hn;cases hn
  ·obtain ⟨v',h3,h4,h5⟩:=R.nr j d' hn e
   exact ⟨v',h3,h4.upd e2 (fun z=>R.ns j i a z ho),h5⟩
theorem vp {σ:St} (R:Rel K fl G ow σ H δ) (h:i < δ.length):i < σ.length:=by rw [R.len];exact h
theorem Qh (hfl:fl[i]? = some .A) (hN:X.N.Nodup) (hi:X.N[i]? = some x) (hv:X.env.scope.names.lookup x=some .local∨X.env.scope.names.lookup x=some .cell) (h:DE X fl .A e f)
 (hs:swapsWith e (some (.Name x pos')) pos.line X.env=pure false:=by rfl) (hfn:X.fn x=true∨X.env.scope.names.lookup x=some .local:=by first | exact .inl rfl | exact .inr rfl) :
 DS1 X fl (.Assign [.Name x pos'] e pos) (cj i f):=PS.imp (Ed (i:=i) hN hi hv h hs hfn) fun Dn σ H h=>by
 obtain ⟨G,ow,δ,o,R,hf,q⟩:=h
 unfold cj at hf
 by_cases hl:i < δ.length
 ·rw [if_pos hl] at hf
  obtain ⟨d,e1,e2⟩:=bind1 hf
  cases e2
  exact ⟨G,ow,δ,d,R,e1,fun v H' s r=>q ow _ H' ((R.grow s).o7 hfl (vp R hl) r)⟩
 ·rw [if_neg hl] at hf
  cases hf
theorem p7 (hfl:fl[i]? = some .O) (hN:X.N.Nodup) (hi:X.N[i]? = some x) (hv:X.env.scope.names.lookup x=some .local∨X.env.scope.names.lookup x=some .cell) (h:DE X fl .F e f)
 (hs:swapsWith e (some (.Name x pos')) pos.line X.env=pure false:=by rfl) (hfn:X.fn x=true∨X.env.scope.names.lookup x=some .local:=by first | exact .inl rfl | exact .inr rfl) :
 DS1 X fl (.Assign [.Name x pos'] e pos) (cj i f):=PS.imp (Ed (i:=i) hN hi hv h hs hfn) fun Dn σ H h=>by
 obtain ⟨G,ow,δ,o,R,hf,q⟩:=h
 unfold cj at hf
 by_cases hl:i < δ.length
 ·rw [if_pos hl] at hf
  obtain ⟨d,e1,e2⟩:=bind1 hf
  cases e2
  refine ⟨G,ow,δ,d,R,e1,fun v H' s r=>?_⟩
  obtain ⟨ow',R'⟩:=R.setO s hfl (vp R hl) r
  exact q ow' _ H' R'
 ·rw [if_neg hl] at hf
  cases hf
theorem Qi (hfl:fl[i]? = some .A) (hN:X.N.Nodup) (hi:X.N[i]? = some x) (hv:X.env.scope.names.lookup x=some .local∨X.env.scope.names.lookup x=some .cell)
 (hfn:X.fn x=true∨X.env.scope.names.lookup x=some .local:=by first | exact .inl rfl | exact .inr rfl):DG X fl [i] (.Name x pos) (gNl i) :=
 PG.imp (Ph (i:=i) hN hi hv hfn) fun v σ H Q h=>by
 obtain ⟨G,ow,δ,d,δ',R,r,hf,q⟩:=h
 unfold gNl at hf
 by_cases hl:i < δ.length
 ·rw [if_pos hl] at hf
  cases hf
  exact q _ (R.o7 hfl (vp R hl) r) fun j hj=>bD (fun z=>hj (by rw [z];exact aM.mpr rfl))
 ·rw [if_neg hl] at hf
  cases hf
def Zo (K:PySem.W.Frag) (fl:List Fl) (tg:List Nat) (g:List D→DS→Option DS):TGs:=fun vs σ H Q=>∃ G ow δ ds δ',Rel K fl G ow σ H δ∧RAs K (okA ow) true H vs ds∧g ds δ=some δ'∧∀ σ',Rel K fl G ow σ' H δ'→(∀ j,j ∉ tg→σ'[j]? = σ[j]?)→Q σ' H
theorem PGs.imp {t t':TGs} (h:PGs X es t) (i:∀ v σ H Q,t' v σ H Q→t v σ H Q):PGs X es t':=fun pins s σ H v u Q I r q=>h pins s σ H v u Q I r (i v σ H Q q)
abbrev DGs (X:Cx) (fl:List Fl) (tg:List Nat) (es:List Expr) (g:List D→DS→Option DS):Prop:=PGs X es (Zo X.K fl tg g)
theorem p8:DGs X fl [] [] jE:=PGs.imp Pj fun vs σ H Q h=>by
 obtain ⟨G,ow,δ,ds,δ',R,r,hf,q⟩:=h
 cases r with
 | nil=>cases hf;exact ⟨rfl,q σ R fun _ _=>rfl⟩
 | cons _ _=>cases hf
theorem gR {tg tg':List Nat} {g:FG} {gs:List D→DS→Option DS} (h1:DG X fl tg e g) (h2:DGs X fl tg' es gs) (hs:(assignEach (e :: es) X.env).map (·.2)=assign e X.env :: (assignEach es X.env).map (·.2):=by rfl) :
 DGs X fl (tg++tg') (e :: es) (cP g gs):=PGs.imp (J5 h1 h2 hs) fun vs σ H Q h=>by
 obtain ⟨G,ow,δ,ds,δ',R,r,hf,q⟩:=h
 cases r with
 | nil=>cases hf
 | cons r1 r2 =>
  obtain ⟨δ1,e1,e2⟩:=bind1 hf
  refine ⟨_,_,rfl,G,ow,δ,_,δ1,R,r1,e1,fun σ' R' k1=>⟨G,ow,δ1,_,δ',R',r2,e2,fun σ'' R'' k2=>q σ'' R'' fun j hj=>?_⟩⟩
  rw [k2 j fun z=>hj (bF _ z),k1 j fun z=>hj (bW _ z)]
theorem ug {tg:List Nat} {gs:List D→DS→Option DS} {k:Nat} (hc:X.calm=true) (h:DGs X fl tg es gs) (hn:(assignEach es X.env).length=n:=by rfl) (hst:(assignEach es X.env).findIdx? (·.1)=none:=by rfl) :
 DG X fl tg (.Tuple es k pos) (gTn n gs):=PG.imp (T_ (n:=n) hc h hn hst) fun v σ H Q h=>by
 obtain ⟨G,ow,δ,d,δ',R,r,hf,q⟩:=h
 unfold gTn at hf
 split at hf
 ·next l =>
  by_cases z:l.length=n
  ·rw [if_pos z] at hf
   obtain ⟨a,xs,rfl,hx,hr⟩:=r.tupE
   exact ⟨a,xs,rfl,hx,by rw [hr.length];exact z,G,ow,δ,l,δ',R,hr,hf,q⟩
  ·rw [if_neg z] at hf
   cases hf
 ·cases hf
theorem Uw {tg:List Nat} {g:FG} {t:Expr} (h:DE X fl .A e f) (hg:DG X fl tg t g) (hs:swapsWithSole [t] e pos.line X.env=pure false:=by rfl) (hw:swappedStores [t] e X.env=pure none:=by rfl)
 (h1:(assignEach [t] X.env).map (·.2)=[assign t X.env]:=by rfl):DS1 X fl (.Assign [t] e pos) (Kq f g):=PS.imp (J6 h hg hs hw h1) fun Dn σ H h=>by
 obtain ⟨G,ow,δ,o,R,hf,q⟩:=h
 obtain ⟨d,e1,e2⟩:=bind1 hf
 obtain ⟨δ',e3,e4⟩:=bind1 e2
 cases e4
 exact ⟨G,ow,δ,d,R,e1,fun v H' s r=>⟨G,ow,δ,d,δ',R.grow s,r,e3,fun σ' R' _=>q ow σ' H' R'⟩⟩
end
end D3
variable {l:List D3.D} {vpos apos cpos:Pos} {fk:D3.FE} {Hb:L2.Hp} {fa:D3.FA} {δ':D3.DS}
namespace D3
open PySem PySem.Spec PyProof.Rows L2 My
section
variable {X:Cx} {fl:List Fl} {e a b c:Expr} {es:List Expr} {st:Stmt} {sts body orelse:List Stmt} {k:Kd} {f fa fb fc:FE} {fs gs:FS} {ft gt:FT} {pos:Pos}
theorem Eu {σ:St} (R:Rel K fl G ow σ H δ) (hfl:fl[i]? = some .O) (h:aF i δ=some (.list l)) :
 ∃ a xs,ow i=some a∧σ[i]? = some (some (.ref a))∧H a=some (.lst xs)∧RAs K (okA ow) true H xs l:=by
 have e:=m6 h
 cases ho:ow i with
 | none =>
  have z:=R.oo i _ e (by rw [hfl];rfl) (by rw [hfl];simp) ho
  simp [flat] at z
 | some a =>
  obtain ⟨h0,_,xs,ds,h1,h2,h3,h4⟩:=R.own i a ho
  rw [e] at h4
  cases h4
  exact ⟨a,xs,rfl,h1,h2,h3⟩
theorem qb (hfl:fl[i]? = some .O) (h:DE X fl .A e f) (hN:X.N[i]? = some x) (hv:Vis X.env.scope x:=by first | exact Or.inl rfl | exact Or.inr (Or.inl rfl) | exact Or.inr (Or.inr rfl)) (hd:(x == ("__debug__" : Str))=false:=by decide)
 (hcd:(x == ("__classdict__" : Str))=false:=by decide)
 (hs:swapsWith (.Call (.Attribute (.Name x vpos) "append" apos) [e] [] cpos) none pos.line X.env=pure false:=by rfl)
 (hbase:attributeBase (.Name x vpos) "append" X.env (eval (.Name x vpos) X.env)=eval (.Name x vpos) X.env:=by rfl)
 (hfew:((backTo cpos (starEach [e] X.env)).all (fun x=>!x.1) && (backToKw cpos (keywordEach [] X.env)).all (fun x=>x.1.isSome)
  && decide (([e]:List Expr).length + ([]:List Keyword).length + (if ([]:List Keyword).isEmpty then 0 else 1) < 30))=true:=by rfl)
 (hline:(apos.endLine == cpos.line)=true:=by rfl) (hst:starEach [e] X.env=(false,eval e X.env) :: starEach [] X.env:=by rfl) (hplain:(backTo cpos (starEach [] X.env)).any (·.1)=false:=by rfl) :
 DS1 X fl (.Expr (.Call (.Attribute (.Name x vpos) "append" apos) [e] [] cpos) pos) (uZ i f) :=
 PS.imp (vg (S6 PySem.F.plainAttrs_list PySem.F.slot_list_append PySem.F.type_list_append uc (oh hN hv hd hcd) (iz h lB hst) hbase hfew hline hst hplain) hs) fun Dn σ H h=>by
 obtain ⟨G,ow,δ,o,R,hf,q⟩:=h
 obtain ⟨x,e1,hf1⟩:=bind1 hf
 obtain ⟨d,e2,hf2⟩:=bind1 hf1
 clear hf hf1
 have hf:=hf2
 clear hf2
 split at hf
 case h_2=>cases hf
 next l =>
 by_cases hl:l.length < 1000000
 ·rw [if_pos hl] at hf
  cases hf
  obtain ⟨a,xs,ho,h1,h2,h3⟩:=Eu R hfl e1
  refine ⟨_,h1,.inl ⟨rfl,_,SqL.of h2⟩,G,ow,δ,d,R,e2,fun v H' s r=>?_⟩
  have R':=R.grow s
  refine ⟨a,xs,v,rfl,rfl,s _ _ h2,by rw [h3.length];exact lM hl (by decide),?_⟩
  exact q ow σ _ (R'.mut hfl ho ((h3.same s).append (.cons r .nil)))
 ·rw [if_neg hl] at hf
  cases hf
theorem Ux {spos:Pos} {ke:Expr} (hfl:fl[i]? = some .O) (h:DE X fl .A e f) (hk:DE X fl .P ke fk) (hN:X.N[i]? = some x) (hv:Vis X.env.scope x:=by first | exact Or.inl rfl | exact Or.inr (Or.inl rfl) | exact Or.inr (Or.inr rfl)) (hd:(x == ("__debug__" : Str))=false:=by decide)
 (hcd:(x == ("__classdict__" : Str))=false:=by decide) (ha:∀ v,assign (.Subscript (.Name x vpos) ke spos) X.env v=(do
  let ov ← holding [v] (eval (.Name x vpos) X.env)
  let iv ← holding [v,ov] (eval ke X.env)
  standAt spos
  holding [v,ov,iv] (setItem ov iv v)
  release [v,ov,iv] []):=by intro _;rfl)
 (hs:swapsWithSole [.Subscript (.Name x vpos) ke spos] e pos.line X.env=pure false:=by rfl) (hw:swappedStores [.Subscript (.Name x vpos) ke spos] e X.env=pure none:=by rfl)
 (h1:(assignEach [.Subscript (.Name x vpos) ke spos] X.env).map (·.2)=[assign (.Subscript (.Name x vpos) ke spos) X.env]:=by rfl) :
 DS1 X fl (.Assign [.Subscript (.Name x vpos) ke spos] e pos) (Kr i fk f) :=
 PS.imp (J6 h (Ua (oh hN hv hd hcd) hk set_list ha) hs hw h1) fun Dn σ H h=>by
 obtain ⟨G,ow,δ,o,R,hf,q⟩:=h
 obtain ⟨d,e2,hf1⟩:=bind1 hf
 obtain ⟨x,e1,hf2⟩:=bind1 hf1
 obtain ⟨k,e3,hf3⟩:=bind1 hf2
 clear hf hf1 hf2
 have hf:=hf3
 clear hf3
 split at hf
 case h_2=>cases hf
 next l j =>
 obtain ⟨n,e4,e5⟩:=bind1 hf
 cases e5
 obtain ⟨a,xs,ho,h1,h2,h3⟩:=Eu R hfl e1
 refine ⟨G,ow,δ,d,R,e2,fun v H' s r=>⟨_,h1,G,ow,δ,_,R.grow s,e3,fun u H2 s2 r2=>?_⟩⟩
 obtain rfl:=RA.intE r2
 have R2:=R.grow (s.trans s2)
 refine ⟨a,xs,j,n,rfl,rfl,(s.trans s2) _ _ h2,by rw [h3.length];exact e4,?_⟩
 exact q ow σ _ (R2.mut hfl ho (RAs.set (RA.same s2 r) n (h3.same (s.trans s2))))
def S8 (K:PySem.W.Frag) (ow:Ow) (L:List Nat) (H1:Hp) (J:It) (l:List D):Prop:=∀ H2:Hp,(∀ b o,H1 b=some o→(∀ i,ow i=some b→i ∈ L)→(∀ i,b ∉ ow.n i)→H2 b=some o)→∀ i:Nat,
 (∀ d,l[i]? = some d→J.go i H2∧∀ x H3,J.yld i H2 x H3→Same H2 H3∧RA K (fun b=>okA ow b∧H1 b ≠ none) true H3 x d)∧(l.length ≤ i→J.stop i H2)
def tDI (K:PySem.W.Frag) (fl:List Fl) (L:List Nat) (fi:FA):TI:=fun σ H R'=>∃ G ow δ l,Rel K fl G ow σ H δ∧fi δ=some l∧∀ J H1,Same H H1→S8 K ow L H1 J l→R' J H1
abbrev DI (X:Cx) (fl:List Fl) (L:List Nat) (tg iter:Expr) (fi:FA):Prop:=PI X tg iter (tDI X.K fl L fi)
theorem PI.imp {t t':TI} (h:PI X tg iter t) (i:∀ σ H R',t' σ H R'→t σ H R'):PI X tg iter t':=fun pins s σ H R' I q=>h pins s σ H R' I (i σ H R' q)
section
variable {K:PySem.W.Frag} {ok:Ok} {pl:Bool} {H1 H2:Hp} {ow:Ow} {L:List Nat}
theorem nm {b:Addr} (hl:∀ i b,ow i=some b→∃ xs,H1 b=some (.lst xs)) (h:H1 b=some o) (hn:∀ xs,o ≠ .lst xs):∀ i,ow i=some b→i ∈ L:=fun i e=>by
 obtain ⟨xs,z⟩:=hl i b e
 rw [h] at z
 exact absurd (b_.inj z) (hn xs)
theorem nm2 {b:Addr} (hl:∀ i b,b ∈ ow.n i→Chd (H1 b)) (h:H1 b=some o) (hn:Chg o→False):∀ i,b ∉ ow.n i:=fun i e=>by
 obtain ⟨u,z,c⟩:=hl i b e
 rw [h] at z
 cases z
 exact hn c
mutual
theorem RA.keep (hk:∀ b o,H1 b=some o→(∀ i,ow i=some b→i ∈ L)→(∀ i,b ∉ ow.n i)→H2 b=some o) (hl:∀ i b,ow i=some b→∃ xs,H1 b=some (.lst xs)) (hm:∀ i b,b ∈ ow.n i→Chd (H1 b)) (ho:∀ b,ok b→okA ow b):∀ {v:V} {d:D},RA K ok pl H1 v d→RA K ok pl H2 v d
 | _,_,.non=>.non
 | _,_,.bl b=>.bl b
 | _,_,.int i=>.int i
 | _,_,.str x=>.str x
 | _,_,.lst e k q=>.lst (hk _ _ e (fun i z=>absurd z ((ho _ k).1 i)) (ho _ k).2) k (RAs.keep hk hl hm ho q)
 | _,_,.lsk e k q=>.lsk (by
  rcases e with ⟨o,e⟩ | e
  ·exact .inl ⟨o,hk _ _ e (nm hl e (by intro xs z;cases z)) (nm2 hm e Chg.frz)⟩
  ·exact .inr e) k (RAs.keep hk hl hm ho q)
 | _,_,.tup e q=>.tup (hk _ _ e (nm hl e (by intro xs z;cases z)) (nm2 hm e Chg.tup)) (RAs.keep hk hl hm ho q)
 | _,_,.dic e g k=>.dic (hk _ _ e (fun i z=>absurd z ((ho _ k).1 i)) (ho _ k).2) (g.imp fun _ _ t=>hk _ _ t (nm hl t (by intro xs z;cases z)) (nm2 hm t Chg.tup)) k
 | _,_,.dik e g k=>.dik (hk _ _ e (nm hl e (by intro xs z;cases z)) (nm2 hm e Chg.frz)) (g.imp fun _ _ t=>hk _ _ t (nm hl t (by intro xs z;cases z)) (nm2 hm t Chg.tup)) k
theorem RAs.keep (hk:∀ b o,H1 b=some o→(∀ i,ow i=some b→i ∈ L)→(∀ i,b ∉ ow.n i)→H2 b=some o) (hl:∀ i b,ow i=some b→∃ xs,H1 b=some (.lst xs)) (hm:∀ i b,b ∈ ow.n i→Chd (H1 b)) (ho:∀ b,ok b→okA ow b):∀ {v:List V} {d:List D},RAs K ok pl H1 v d→RAs K ok pl H2 v d
 | _,_,.nil=>.nil
 | _,_,.cons e q=>.cons (RA.keep hk hl hm ho e) (RAs.keep hk hl hm ho q)
end
end
theorem Rel.ownL {σ:St} (R:Rel K fl G ow σ H δ):∀ i b,ow i=some b→∃ xs,H b=some (.lst xs):=fun i b e=>by
 obtain ⟨_,_,xs,_,_,h2,_⟩:=R.own i b e
 exact ⟨xs,h2⟩
theorem Rel.ownC {σ:St} (R:Rel K fl G ow σ H δ):∀ i b,b ∈ ow.n i→Chd (H b):=fun i b e=>(R.nt i b e).2.1
theorem uh {σ:St} (R:Rel K fl G ow σ H δ) (r:Rs K G.H0 ow Hb H (.B L) v (.list l)):∃ a xs,v = .ref a∧SqL K H a xs ∧
 ∀ H2:Hp,(∀ b o,H b=some o→(∀ i,ow i=some b→i ∈ L)→(∀ i,b ∉ ow.n i)→H2 b=some o)→SqL K H2 a xs∧RAs K (fun b=>okA ow b∧H b ≠ none) true H2 xs l:=by
 rcases r with r | ⟨i,hi,a,xs,ds,ho,rfl,e,hx,hr⟩
 ·cases r with
  | lst e k q=>exact ⟨_,_,rfl,SqL.of e,fun H2 hk=>⟨SqL.of (hk _ _ e (fun i z=>absurd z (k.1 i)) k.2),RAs.keep hk R.ownL R.ownC (fun b z=>z.1) q.track⟩⟩
  | lsk e k q=>exact ⟨_,_,rfl,e.sq,fun H2 hk=>⟨SqK.sq (by
   rcases e with ⟨o,e⟩ | e
   ·exact .inl ⟨o,hk _ _ e (nm R.ownL e (by intro xs z;cases z)) (nm2 R.ownC e Chg.frz)⟩
   ·exact .inr e),RAs.keep hk R.ownL R.ownC (fun b z=>z.1) q.track⟩⟩
 ·cases e
  exact ⟨a,xs,rfl,SqL.of hx,fun H2 hk=>⟨SqL.of (hk _ _ hx (fun j z=>by rw [R.inj j i a z ho];exact hi) (fun j z=>R.ns j i a z ho)),RAs.keep hk R.ownL R.ownC (fun b z=>z.1) hr.track⟩⟩
theorem kY (h:DE X fl (.B L) e f):DI X fl L tg e (rJ f):=PI.imp (Gk h) fun σ H R' h=>by
 obtain ⟨G,ow,δ,l,R,hf,q⟩:=h
 obtain ⟨d,e1,e2⟩:=bind1 hf
 cases d <;> first | (cases e2;done) | skip
 cases e2
 refine ⟨G,ow,δ,_,R,e1,fun v H1 s r=>?_⟩
 obtain ⟨a,xs,rfl,hx,keep⟩:=uh (R.grow s) r
 refine ⟨a,rfl,⟨xs,hx⟩,q _ _ s fun H2 k2 i=>?_⟩
 obtain ⟨k3,k4⟩:=keep H2 k2
 refine ⟨fun d hd=>?_,fun hl=>⟨xs,k3,by rw [k4.length];exact hl⟩⟩
 obtain ⟨y,hy,ry⟩:=k4.get hd
 refine ⟨⟨xs,y,k3,hy⟩,fun x H3 hyl=>?_⟩
 obtain ⟨e,hz⟩:=hyl
 subst e
 have:some y=some x:=hy.symm.trans (hz xs k3)
 cases this
 exact ⟨Same.refl _,ry⟩
theorem Kz (lo hi:Int):(eX lo hi).length=(hi - lo).toNat:=by simp [eX]
theorem KC (lo hi:Int):S8 K ow L H1 (Itr lo (hi - lo).toNat) (eX lo hi):=by
 intro H2 _ i
 refine ⟨fun d hd=>?_,fun hl=>by rw [Kz] at hl;exact hl⟩
 unfold eX at hd
 rw [aO] at hd
 by_cases hi':i < (hi - lo).toNat
 ·rw [fO hi'] at hd
  cases hd
  refine ⟨hi',fun x H3 hy=>?_⟩
  obtain ⟨e,e2⟩:=hy
  subst e e2
  exact ⟨Same.refl _,.int _⟩
 ·rw [aP (by simpa using hi')] at hd
  cases hd
theorem Gv {i:Int} (h:vY i=true) : -(2 ^ 62) ≤ i∧i < 2 ^ 62:=by
 unfold vY at h
 rw [bw] at h
 exact ⟨of_decide_eq_true h.1,of_decide_eq_true h.2⟩
theorem ji {fa:FA} (hg:Gl X "range") (hm:X.mg "range" = none) (h:DA X fl [a] fa) (hs:starEach [a] X.env=[(false,eval a X.env)]:=by rfl):DI X fl L tg (.Call (.Name "range" p) [a] [] pos) (nQ fa) :=
 PI.imp (Ii hg hm h hs) fun σ H R' h=>by
 obtain ⟨G,ow,δ,l,R,hf,q⟩:=h
 obtain ⟨ds,e1,e2⟩:=bind1 hf
 split at e2
 ·next j =>
  by_cases z:vY j=true
  ·rw [if_pos z] at e2
   cases e2
   refine ⟨G,ow,δ,_,R,e1,fun vs H1 s r=>?_⟩
   cases r with
   | cons r1 r2 =>
    cases r2
    obtain rfl:=r1.intE
    refine ⟨j,rfl,(Gv z).1,(Gv z).2,?_⟩
    have w:=KC (K:=X.K) (ow:=ow) (L:=L) (H1:=H1) 0 j
    rw [rZ] at w
    exact q _ _ s w
  ·rw [if_neg z] at e2
   cases e2
 ·cases e2
def lock (L:List Nat) (fl:List Fl):List Fl:=fl.mapIdx fun i x=>if x = .O∧i ∈ L then .L else x
theorem k_:(lock L fl)[i]? = (fl[i]?).map fun x=>if x = .O∧i ∈ L then .L else x:=by
 unfold lock
 rw [d7]
theorem KD:(lock L fl)[i]? = some .A↔fl[i]? = some .A:=by
 rw [k_]
 cases h:fl[i]? with
 | none=>simp
 | some x =>
  cases x <;> simp
  by_cases z:i ∈ L <;> simp [z]
theorem Ew (h:(lock L fl)[i]? = some .O):fl[i]? = some .O∧i ∉ L:=by
 rw [k_] at h
 cases e:fl[i]? with
 | none=>rw [e] at h;simp at h
 | some x =>
  rw [e] at h
  cases x <;> simp at h
  by_cases z:i ∈ L
  ·simp [z] at h
  ·exact ⟨rfl,z⟩
theorem Ey (h:fl[i]? = some .L):(lock L fl)[i]? = some .L:=by
 rw [k_,h]
 simp
theorem Gw (h:fl[i]? = some .O) (hi:i ∈ L):(lock L fl)[i]? = some .L:=by
 rw [k_,h]
 simp [hi]
theorem Gx (h:fl[i]? = some .O) (hi:i ∉ L):(lock L fl)[i]? = some .O:=by
 rw [k_,h]
 simp [hi]
theorem zP:(lock L fl)[i]? = some .N↔fl[i]? = some .N:=by
 rw [k_]
 cases h:fl[i]? with
 | none=>simp
 | some x =>
  cases x <;> simp
  by_cases z:i ∈ L <;> simp [z]
theorem Ez:(lock L fl)[i]? = some .M↔fl[i]? = some .M:=by
 rw [k_]
 cases h:fl[i]? with
 | none=>simp
 | some x =>
  cases x <;> simp
  by_cases z:i ∈ L <;> simp [z]
theorem nU:isN (lock L fl)[i]? = isN fl[i]?:=by
 rw [k_]
 cases h:fl[i]? with
 | none=>rfl
 | some x =>
  cases x <;> simp [isN]
  by_cases z:i ∈ L <;> simp [z]
def Let (fl':List Fl) (ow:Ow) (b:Addr):Prop:=(∃ j,ow j=some b∧fl'[j]? = some .O)∨∃ j,b ∈ ow.n j∧fl'[j]? = some .N
open Classical in
noncomputable def ghL (fl':List Fl) (G:Gh) (ow:Ow) (H:Hp):Gh:=⟨G.H0,fun b=>if Let fl' ow b then none else H b,ow,ow.n,G.tb⟩
open Classical in
theorem oM {fl':List Fl} {b:Addr} (h:¬ Let fl' ow b):(ghL fl' G ow H).HF b=H b:=by
 unfold ghL
 dsimp only
 rw [if_neg h]
open Classical in
theorem EY {fl':List Fl} {b:Addr} (h:Let fl' ow b):(ghL fl' G ow H).HF b=none:=by
 unfold ghL
 dsimp only
 rw [if_pos h]
theorem Rel.lock {σ:St} (L:List Nat) (R:Rel K fl G ow σ H δ):Rel K (lock L fl) (ghL (lock L fl) G ow H) ow σ H δ:=by
 refine ⟨fun b o hb=>?_,fun b o hb=>?_,R.len,fun i a h=>?_,R.inj,fun i h=>rfl,fun i d h1 hn h2=>R.dat i d h1 (by rw [nU] at hn;exact hn) h2,fun i d h1 hn h2 h3=>R.oo i d h1 (by rw [nU] at hn;exact hn) (fun z=>h2 (KD.mpr z)) h3,fun i a h=>?_,R.nd,R.ns,fun i h=>rfl,fun i d hn h1=>R.nr i d (by rw [nU] at hn;exact hn) h1⟩
 ·have hb':G.H0 b=some o:=hb
  rw [oM]
  ·exact R.same0 b o hb'
  ·rintro (⟨j,e,_⟩ | ⟨j,e,_⟩)
   ·have:=(R.own j b e).1
    rw [hb'] at this
    cases this
   ·have:=(R.nt j b e).1
    rw [hb'] at this
    cases this
 ·by_cases z:Let (D3.lock L fl) ow b
  ·rw [EY z] at hb;cases hb
  ·rw [oM z] at hb;exact hb
 ·obtain ⟨h0,hf,xs,ds,h1,h2,h3,h4⟩:=R.own i a h
  refine ⟨h0,?_,xs,ds,h1,h2,h3,h4⟩
  have out:(D3.lock L fl)[i]? = some .L→(ghL (D3.lock L fl) G ow H).HF a=H a:=fun hl=>oM (by
   rintro (⟨j,e,hj⟩ | ⟨j,e,hj⟩)
   ·rw [R.inj j i a e h,hl] at hj
    cases hj
   ·exact R.ns j i a e h)
  rcases hf with ⟨hf,_⟩ | ⟨hf,_⟩
  ·by_cases hi:i ∈ L
   ·exact .inr ⟨Gw hf hi,xs,by rw [out (Gw hf hi)];exact h2⟩
   ·exact .inl ⟨Gx hf hi,EY (.inl ⟨i,h,Gx hf hi⟩)⟩
  ·exact .inr ⟨Ey hf,xs,by rw [out (Ey hf)];exact h2⟩
 ·obtain ⟨g1,g2,g3⟩:=R.nt i a h
  refine ⟨g1,g2,?_⟩
  rcases g3 with ⟨z,_⟩ | z
  ·exact .inl ⟨zP.mpr z,EY (.inr ⟨i,h,zP.mpr z⟩)⟩
  ·exact .inr (Ez.mpr z)
theorem Rel.unlock {ow':Ow} {σ σ':St} (R:Rel K fl G ow σ H δ) (R':Rel K (D3.lock L fl) (ghL (D3.lock L fl) G ow H) ow' σ' H' δ'):Rel K fl G ow' σ' H' δ':=by
 have sub:Same G.HF (ghL (D3.lock L fl) G ow H).HF:=fun b o hb=>by
  rw [oM]
  ·exact R.s1 b o hb
  ·rintro (⟨j,e,hj⟩ | ⟨j,e,hj⟩)
   ·rcases (R.own j b e).2.1 with ⟨_,z⟩ | ⟨z,_⟩
    ·rw [hb] at z;cases z
    ·have:=(Ew hj).1
     rw [z] at this
     cases this
   ·rcases (R.nt j b e).2.2 with ⟨_,z⟩ | z
    ·rw [hb] at z;cases z
    ·have:=zP.mp hj
     rw [z] at this
     cases this
 refine ⟨R.s0,sub.trans R'.s1,R'.len,fun i a h=>?_,R'.inj,fun i h=>?_,fun i d h1 hn h2=>R'.dat i d h1 (by rw [nU];exact hn) h2,fun i d h1 hn h2 h3=>R'.oo i d h1 (by rw [nU];exact hn) (fun z=>h2 (KD.mp z)) h3,fun i a h=>?_,R'.nd,R'.ns,fun i h=>?_,fun i d hn h1=>R'.nr i d (by rw [nU];exact hn) h1⟩
 ·obtain ⟨h0,hf,rest⟩:=R'.own i a h
  refine ⟨h0,?_,rest⟩
  rcases hf with ⟨hf,hz⟩ | ⟨hf,_⟩
  ·exact .inl ⟨(Ew hf).1,sub.free hz⟩
  ·have e:ow' i=ow i:=R'.pin i hf
   rw [e] at h
   exact (R.own i a h).2.1
 ·have e:ow' i=ow i:=R'.pin i (Ey h)
  rw [e]
  exact R.pin i h
 ·obtain ⟨g1,g2,g3⟩:=R'.nt i a h
  rcases g3 with ⟨z,hz⟩ | z
  ·exact ⟨g1,g2,.inl ⟨zP.mp z,sub.free hz⟩⟩
  ·exact ⟨g1,g2,.inr (Ez.mp z)⟩
 ·have e:ow'.n i=ow.n i:=R'.np i (Ez.mpr h)
  rw [e]
  exact R.np i h
theorem je {T:List Nat} {fi:FA} {g:FG} (hp:PassesOwn (model X.prog X.w) X.A X.env X.xe) (hc:X.calm=true) (hi:DI X fl L tg iter fi) (hg:DG X (lock L fl) T tg g) (hb:DSs X (lock L fl) body fs)
 (hs:∀ x,foldedSetIterable iter X.env x=pure x:=by intro _;rfl):DS1 X fl (.For tg iter body [] pos) (mR fi g fs):=PS.imp (Ub hp hc hi hg hb hs) fun Dn σ H h=>by
 obtain ⟨G,ow,δ,o,R0,hf,q⟩:=h
 obtain ⟨l,e1,e2⟩:=bind1 hf
 refine ⟨G,ow,δ,l,R0,e1,fun J H1 s wk=>?_⟩
 have R1:=R0.grow s
 have RL:=R1.lock L
 refine ⟨fun i m σ' H'=>m=l.length - i∧∃ ow' δ',Rel X.K (lock L fl) (ghL (lock L fl) G ow H1) ow' σ' H' δ'∧gO g fs (l.drop i) δ'=some o,⟨_,rfl,ow,δ,RL,by simpa using e2⟩,?_⟩
 rintro i m σ' H' ⟨rfl,ow',δ',R',hd⟩
 have kept:∀ b o,H1 b=some o→(∀ i,ow i=some b→i ∈ L)→(∀ i,b ∉ ow.n i)→H' b=some o:=fun b o hb hl hn=>R'.s1 b o (by
  rw [oM]
  ·exact hb
  ·rintro (⟨j,e,hj⟩ | ⟨j,e,_⟩)
   ·exact (Ew hj).2 (hl j e)
   ·exact hn j e)
 obtain ⟨w1,w2⟩:=wk H' kept i
 by_cases hlt:i < l.length
 ·have hdrop:l.drop i=l[i] :: l.drop (i + 1):=jm hlt
  rw [hdrop,gO] at hd
  obtain ⟨δ1,e3,hd⟩:=bind1 hd
  obtain ⟨o1,e4,hd⟩:=bind1 hd
  obtain ⟨go,yl⟩:=w1 l[i] (aD hlt)
  refine .inr ⟨go,fun σ' H'=>∃ ow' δ',Rel X.K (lock L fl) (ghL (lock L fl) G ow H1) ow' σ' H' δ'∧gO g fs (l.drop (i + 1)) δ'=some o,fun σ2 H2 ⟨ow2,δ2,R2,h2⟩=>⟨l.length - (i + 1),by omega,rfl,ow2,δ2,R2,h2⟩,fun x H3 hy=>?_⟩
  obtain ⟨s3,r3⟩:=yl x H3 hy
  have sub:∀ b,okA ow b∧H1 b ≠ none→okA ow' b:=fun b z=>by
   obtain ⟨z1,z2⟩:=z
   refine ⟨fun j e=>?_,fun j e=>?_⟩
   ·rcases (R'.own j b e).2.1 with ⟨_,hz⟩ | ⟨hz,_⟩
    ·have:(ghL (lock L fl) G ow H1).HF b=H1 b:=oM (by rintro (⟨j',e',_⟩ | ⟨j',e',_⟩);exact z1.1 j' e';exact z1.2 j' e')
     rw [this] at hz
     exact z2 hz
    ·have e':ow' j=ow j:=R'.pin j hz
     rw [e'] at e
     exact z1.1 j e
   ·rcases (R'.nt j b e).2.2 with ⟨_,hz⟩ | w
    ·have:(ghL (lock L fl) G ow H1).HF b=H1 b:=oM (by rintro (⟨j',e',_⟩ | ⟨j',e',_⟩);exact z1.1 j' e';exact z1.2 j' e')
     rw [this] at hz
     exact z2 hz
    ·have e':ow'.n j=ow.n j:=R'.np j w
     rw [e'] at e
     exact z1.2 j e
  refine ⟨_,ow',δ',_,δ1,R'.grow s3,r3.imp sub (fun z=>z),e3,fun σ4 R4 _=>⟨_,ow',δ1,o1,R4,e4,?_⟩⟩
  ·cases o1 with
   | nx δ2=>exact fun ow2 σ2 H2 R2=>⟨ow2,δ2,R2,hd⟩
   | ct δ2=>exact fun ow2 σ2 H2 R2=>⟨ow2,δ2,R2,hd⟩
   | bk δ2=>cases hd;exact fun ow2 σ2 H2 R2=>q ow2 σ2 H2 (R1.unlock R2)
   | rt d=>cases hd;exact q
   | ex c f v=>cases hd;exact q
 ·have e:l.drop i=[]:=jN (by omega)
  rw [e,gO] at hd
  cases hd
  exact .inl ⟨w2 (by omega),q ow' σ' H' (R1.unlock R')⟩
end
end D3
variable {g':D3.D→D3.D→Option D3.D}
namespace D3
open PySem PySem.Spec PyProof.Rows L2 My
def notStar:Expr→Bool
 | .Starred _ _=>false
 | _=>true
theorem lR (h:notStar e=true):starEach (e :: es) env=(false,eval e env) :: starEach es env:=by
 cases e <;> first | rfl | cases h
theorem KH (h:es.all notStar=true):(backTo pos (starEach es env)).any (·.1)=false:=by
 induction es with
 | nil=>rfl
 | cons e es ih =>
  rw [List.all_cons,bw] at h
  rw [lR h.1]
  have:=ih h.2
  unfold backTo at this ⊢
  rw [aV,qz,this]
  rfl
def isR:Kd→Bool
 | .P=>true
 | .A=>true
 | .R=>true
 | .C=>true
 | _=>false
def KJ (H0:Hp) (ow:Ow) (Hb:Hp):Kd→Ok
 | .P=>ok1
 | .A=>okA ow
 | .R=>okN H0
 | _=>okN Hb
def Uy:Kd→Bool
 | .P=>true
 | .A=>true
 | _=>false
section
variable {K:PySem.W.Frag} {H0 Hb Hc H:Hp} {ow:Ow} {v:V} {d:D} {k:Kd}
theorem Rs.ra (hk:isR k=true) (h:Rs K H0 ow Hb H k v d):RA K (KJ H0 ow Hb k) (Uy k) H v d:=by
 cases k <;> first | exact h | cases hk
theorem Rs.of_ra (hk:isR k=true) (h:RA K (KJ H0 ow Hb k) (Uy k) H v d):Rs K H0 ow Hb H k v d:=by
 cases k <;> first | exact h | cases hk
theorem IW (s:Same Hb Hc) (hk:isR k=true):∀ a,KJ H0 ow Hc k a→KJ H0 ow Hb k a:=fun a z=>by
 cases k <;> first | exact z | exact s.free z | cases hk
theorem Rs.of_flat (hf:flat d=true) (h:RA K ok0 false H v d):Rs K H0 ow Hb H k v d:=by
 cases k with
 | P=>exact RA.flat hf h
 | B L=>exact .inl (RA.flat hf h)
 | A=>exact RA.flat hf h
 | R=>exact RA.flat hf h
 | F=>exact .inl ⟨hf,h⟩
 | C=>exact RA.flat hf h
 | FC=>exact .inl ⟨hf,h⟩
 | T =>
  obtain ⟨as,h1,_,h3⟩:=RA.rt h
  cases as with
  | nil=>exact ⟨[],h1,.nil,fun _ z=>by cases z⟩
  | cons a r=>exact (h3 a aG).elim
theorem Rs.back (s:Same Hb Hc) (h:Rs K H0 ow Hc H k v d):Rs K H0 ow Hb H k v d:=by
 cases k with
 | P=>exact h
 | B L=>exact h
 | A=>exact h
 | R=>exact h
 | F =>
  rcases h with h | ⟨a,xs,ds,h1,h2,h3,h4⟩
  ·exact .inl h
  ·exact .inr ⟨a,xs,ds,h1,h2,s.free h3,h4⟩
 | C=>exact RA.imp (fun a z=>s.free z) (fun z=>z) h
 | FC =>
  rcases h with h | ⟨a,xs,ds,h1,h2,h3,h4,h5⟩
  ·exact .inl h
  ·exact .inr ⟨a,xs,ds,h1,h2,s.free h3,h4,h5.imp (fun b z=>⟨s.free z.1,z.2⟩) (fun z=>z)⟩
 | T =>
  obtain ⟨as,h1,h2,h3⟩:=h
  exact ⟨as,h1,h2,fun a z=>s.free (h3 a z)⟩
end
def tDB (K:PySem.W.Frag) (fl:List Fl) (k:Kd) (f:FA):TA:=fun σ H Q=>∃ G ow δ ds,Rel K fl G ow σ H δ∧f δ=some ds∧∀ vs H',Same H H'→RAs K (KJ G.H0 ow H k) (Uy k) H' vs ds→Q vs H'
abbrev DB (X:Cx) (fl:List Fl) (k:Kd) (es:List Expr) (f:FA):Prop:=PA X es (tDB X.K fl k f)
section
variable {X:Cx} {fl:List Fl} {e a b c:Expr} {es rest:List Expr} {k:Kd} {f fa fb fc:FE} {ft gt:FT} {pos:Pos}
theorem Uz:DB X fl k [] bC:=PA.imp lB fun σ H Q h=>by
 obtain ⟨G,ow,δ,ds,R,hf,q⟩:=h
 cases hf
 exact q [] H (Same.refl H) .nil
theorem Qj {fr:FA} (hk:isR k=true) (h:DE X fl k e f) (hr:DB X fl k es fr) (hs:starEach (e :: es) X.env=(false,eval e X.env) :: starEach es X.env:=by exact lR rfl):DB X fl k (e :: es) (aH f fr):=PA.imp (iz h hr hs) fun σ H Q h=>by
 obtain ⟨G,ow,δ,ds,R,hf,q⟩:=h
 obtain ⟨d,e1,hf⟩:=bind1 hf
 obtain ⟨r,e2,hf⟩:=bind1 hf
 cases hf
 refine ⟨G,ow,δ,d,R,e1,fun v H1 s1 r1=>⟨G,ow,δ,r,R.grow s1,e2,fun vs H2 s2 r2=>?_⟩⟩
 exact q _ H2 (s1.trans s2) (.cons ((r1.ra hk).same s2) (r2.imp (IW s1 hk) (fun z=>z)))
theorem sV (h:DB X fl .P es fa'):DA X fl es fa':=PA.imp h fun σ H Q h=>by
 obtain ⟨G,ow,δ,ds,R,hf,q⟩:=h
 exact ⟨G,ow,δ,ds,R,hf,fun vs H' s r=>q vs H' s r⟩
theorem rM {x1} {fa:FA} (hk:isR k=true) (h:DB X fl k es fa):DE X fl k (.Tuple es x1 pos) (dTup fa):=PE.imp (Uh h) fun σ H Q h=>by
 obtain ⟨G,ow,δ,d,R,hf,q⟩:=h
 obtain ⟨l,e1,e2⟩:=bind1 hf
 by_cases z:l.length ≤ sizeLine
 ·rw [if_pos z] at e2
  cases e2
  refine ⟨G,ow,δ,l,R,e1,fun vs H' s r=>⟨by rw [r.length];exact z,fun p hp=>?_⟩⟩
  have g:=cN hp (.tup vs)
  exact q _ _ (s.trans g) (Rs.of_ra hk (.tup bM (r.same g)))
 ·rw [if_neg z] at e2
  cases e2
theorem Gy {fa:FA} (h:DB X fl .A es fa):DE X fl .F (.List es pos) (mO fa):=PE.imp (Ka h) fun σ H Q h=>by
 obtain ⟨G,ow,δ,d,R,hf,q⟩:=h
 obtain ⟨l,e1,e2⟩:=bind1 hf
 by_cases z:l.length ≤ sizeLine
 ·rw [if_pos z] at e2
  cases e2
  refine ⟨G,ow,δ,l,R,e1,fun vs H' s r=>⟨by rw [r.length];exact z,fun p hp=>?_⟩⟩
  have g:=cN hp (.lst vs)
  exact q _ _ (s.trans g) (.inr ⟨p,vs,l,rfl,rfl,s.free hp,bM,(r.track.imp (fun b w=>⟨w.1,fun e=>w.2 (e ▸ hp)⟩) (fun z=>z)).same g⟩)
 ·rw [if_neg z] at e2
  cases e2
theorem iZ {fa:FA} (h:DB X fl .C es fa):DE X fl .FC (.List es pos) (mO fa):=PE.imp (Ka h) fun σ H Q h=>by
 obtain ⟨G,ow,δ,d,R,hf,q⟩:=h
 obtain ⟨l,e1,e2⟩:=bind1 hf
 by_cases z:l.length ≤ sizeLine
 ·rw [if_pos z] at e2
  cases e2
  refine ⟨G,ow,δ,l,R,e1,fun vs H' s r=>⟨by rw [r.length];exact z,fun p hp=>?_⟩⟩
  have g:=cN hp (.lst vs)
  exact q _ _ (s.trans g) (.inr ⟨p,vs,l,rfl,rfl,s.free hp,bM,(r.track.imp (fun b w=>⟨w.1,fun e=>w.2 (e ▸ hp)⟩) (fun z=>z)).same g⟩)
 ·rw [if_neg z] at e2
  cases e2
theorem RAs.at {ok:Ok} {i:Int} (r:RAs K ok pl H vs l) (h:pAt l i=some d):∃ v,atI vs i=some v∧RA K ok pl H v d:=by
 unfold pAt at h
 unfold atI
 obtain ⟨j,e1,e2⟩:=bind1 h
 obtain ⟨y,e3,ry⟩:=r.get e2
 exact ⟨y,by rw [r.length,show ixN l.length i=some j from e1];exact e3,ry⟩
theorem Xo (ha:DE X fl (.B L) a fa) (hb:DE X fl .P b fb) (hs:zx b):DE X fl .A (.Subscript a b pos) (dOp gIx fa fb):=PE.imp (W_ Uo ha hb hs) fun σ H Q h=>by
 obtain ⟨G,ow,δ,d,R,hf,q⟩:=h
 obtain ⟨x,y,e1,e2,e3⟩:=BW hf
 refine ⟨G,ow,δ,x,R,e1,fun v H1 s1 r1=>⟨G,ow,δ,y,R.grow s1,e2,fun u H2 s2 r2=>?_⟩⟩
 unfold gIx at e3
 split at e3
 ·next l i =>
  obtain rfl:=RA.intE r2
  rcases r1 with r1 | ⟨i',_,p,xs,ds,ho,rfl,ez,hx,hr⟩
  ·obtain ⟨p,xs,rfl,hx,hr⟩:=RA.lstE (RA.same s2 r1)
   obtain ⟨z,ez,rz⟩:=hr.at e3
   exact .inl ⟨p,xs,i,z,rfl,rfl,hx,ez,q z H2 (s1.trans s2) rz⟩
  ·cases ez
   obtain ⟨z,ez,rz⟩:=(hr.same s2).at e3
   exact .inl ⟨p,xs,i,z,rfl,rfl,SqL.of (s2 _ _ hx),ez,q z H2 (s1.trans s2) rz⟩
 ·next l i =>
  obtain rfl:=RA.intE r2
  rcases r1 with r1 | ⟨i',_,p,xs,ds,ho,rfl,ez,hx,hr⟩
  ·obtain ⟨p,xs,rfl,hx,hr⟩:=RA.tupE (RA.same s2 r1)
   obtain ⟨z,ez,rz⟩:=hr.at e3
   exact .inr (.inl ⟨p,xs,i,z,rfl,rfl,hx,ez,q z H2 (s1.trans s2) rz⟩)
  ·cases ez
 ·cases e3
theorem mW {op:BoolOp} (h:DE X fl k a f):DE X fl k (.BoolOp op [a] pos) f:=T5 h
theorem lC (h1:DE X fl .P a fa) (h2:DE X fl k (.BoolOp .And (b :: rest) pos) fb):DE X fl k (.BoolOp .And (a :: b :: rest) pos) (rH fa fb):=PE.imp (T6 h1 h2) fun σ H Q h=>by
 obtain ⟨G,ow,δ,d,R,hf,q⟩:=h
 obtain ⟨x,e1,e2⟩:=bind1 hf
 refine ⟨G,ow,δ,x,R,e1,fun v H1 s1 r1=>?_⟩
 split at e2
 ·obtain rfl:=RA.blE r1
  exact ⟨true,rfl,xT ⟨G,ow,δ,d,R.grow s1,e2,fun u H2 s2 r2=>q u H2 (s1.trans s2) (r2.back s1)⟩⟩
 ·obtain rfl:=RA.blE r1
  cases e2
  exact ⟨false,rfl,xR (q _ H1 s1 (Rs.of_flat rfl (.bl _)))⟩
 ·cases e2
theorem Xp (h1:DE X fl .P a fa) (h2:DE X fl k (.BoolOp .Or (b :: rest) pos) fb):DE X fl k (.BoolOp .Or (a :: b :: rest) pos) (dOr fa fb):=PE.imp (WT h1 h2) fun σ H Q h=>by
 obtain ⟨G,ow,δ,d,R,hf,q⟩:=h
 obtain ⟨x,e1,e2⟩:=bind1 hf
 refine ⟨G,ow,δ,x,R,e1,fun v H1 s1 r1=>?_⟩
 split at e2
 ·obtain rfl:=RA.blE r1
  cases e2
  exact ⟨true,rfl,xT (q _ H1 s1 (Rs.of_flat rfl (.bl _)))⟩
 ·obtain rfl:=RA.blE r1
  exact ⟨false,rfl,xR ⟨G,ow,δ,d,R.grow s1,e2,fun u H2 s2 r2=>q u H2 (s1.trans s2) (r2.back s1)⟩⟩
 ·cases e2
theorem KN (h1:DE X fl .P a fa):DE X fl .FC (.UnaryOp .Not a pos) (Kp fa):=PE.imp (T7 h1) fun σ H Q h=>by
 obtain ⟨G,ow,δ,d,R,hf,q⟩:=h
 obtain ⟨x,e1,e2⟩:=bind1 hf
 refine ⟨G,ow,δ,x,R,e1,fun v H1 s1 r1=>?_⟩
 split at e2
 ·next c =>
  obtain rfl:=RA.blE r1
  cases e2
  exact ⟨c,rfl,q _ H1 s1 (Rs.of_flat rfl (.bl _))⟩
 ·cases e2
theorem Xq (hc:DT X fl c ft) (h1:DE X fl k a fa) (h2:DE X fl k b fb):DE X fl k (.IfExp c a b pos) (dIf ft fa fb):=PE.imp (J1 hc h1 h2) fun σ H Q h=>by
 obtain ⟨G,ow,δ,d,R,hf,q⟩:=h
 obtain ⟨t,e1,e2⟩:=bind1 hf
 refine ⟨G,ow,δ,t,R,e1,fun H1 s1=>?_⟩
 cases t with
 | true=>exact xT ⟨G,ow,δ,d,R.grow s1,e2,fun u H2 s2 r2=>q u H2 (s1.trans s2) (r2.back s1)⟩
 | false=>exact xR ⟨G,ow,δ,d,R.grow s1,e2,fun u H2 s2 r2=>q u H2 (s1.trans s2) (r2.back s1)⟩
theorem jf (h:DT X fl a ft):DT X fl (.UnaryOp .Not a pos) (jd ft):=PT.imp (T4 h) fun σ H Q h=>by
 obtain ⟨G,ow,δ,t,R,hf,q⟩:=h
 unfold jd at hf
 cases e:ft δ with
 | none=>rw [e] at hf;cases hf
 | some x =>
  rw [e] at hf
  cases hf
  exact ⟨G,ow,δ,x,R,e,fun H' s=>q H' s⟩
theorem Gz (h:DT X fl a ft):DW X fl (.BoolOp .And [a] pos) ft:=Pa h
theorem mX (h:DT X fl a ft):DW X fl (.BoolOp .Or [a] pos) ft:=TY h
theorem KQ (h1:DT X fl a ft) (h2:DW X fl (.BoolOp .And (b :: rest) pos) gt):DW X fl (.BoolOp .And (a :: b :: rest) pos) (Ec ft gt):=PW.imp (T3 h1 h2) fun σ H Q h=>by
 obtain ⟨G,ow,δ,t,R,hf,q⟩:=h
 obtain ⟨x,e1,e2⟩:=bind1 hf
 refine ⟨G,ow,δ,x,R,e1,fun H1 s1=>?_⟩
 cases x with
 | true=>exact xT ⟨G,ow,δ,t,R.grow s1,e2,fun H2 s2=>q H2 (s1.trans s2)⟩
 | false=>cases e2;exact xR (q H1 s1)
theorem nW (h1:DT X fl a ft) (h2:DW X fl (.BoolOp .Or (b :: rest) pos) gt):DW X fl (.BoolOp .Or (a :: b :: rest) pos) (tOr ft gt):=PW.imp (WM h1 h2) fun σ H Q h=>by
 obtain ⟨G,ow,δ,t,R,hf,q⟩:=h
 obtain ⟨x,e1,e2⟩:=bind1 hf
 refine ⟨G,ow,δ,x,R,e1,fun H1 s1=>?_⟩
 cases x with
 | true=>cases e2;exact xT (q H1 s1)
 | false=>exact xR ⟨G,ow,δ,t,R.grow s1,e2,fun H2 s2=>q H2 (s1.trans s2)⟩
theorem um (h:DW X fl a ft):DT X fl a ft:=PW.pt h
theorem BX {g:D→D→Option D} (ho:OpR X (compareOp op) r) (ho':OpR X (compareOp op') r') (hb:BrO X.K r g) (hb':BrO X.K r' g') (h1:DE X fl .P a fa) (h2:DE X fl .P b fb) (h3:DE X fl .P c fc)
 (hm:lastMarks [op,op'] [b,c]=false:=by with_unfolding_all rfl):DE X fl .FC (.Compare a [op,op'] [b,c] pos) (kh g g' fa fb fc):=PE.imp (J9 ho ho' h1 h2 h3 hm) fun σ H Q h=>by
 obtain ⟨G,ow,δ,d,R,hf,q⟩:=h
 obtain ⟨x,e1,hf⟩:=bind1 hf
 obtain ⟨y,e2,hf⟩:=bind1 hf
 obtain ⟨z,e3,hf⟩:=bind1 hf
 refine ⟨G,ow,δ,x,R,e1,fun v H1 s1 r1=>⟨G,ow,δ,y,R.grow s1,e2,fun u H2 s2 r2=>?_⟩⟩
 refine hb H2 v u x y z _ (RA.same s2 r1) r2 e3 fun zv hz rz=>?_
 split at hf
 ·obtain rfl:=rz.blE
  obtain ⟨w,e4,e5⟩:=bind1 hf
  refine ⟨true,rfl,xT ⟨G,ow,δ,w,R.grow (s1.trans s2),e4,fun wv H3 s3 r3=>?_⟩⟩
  exact hb' H3 u wv y w d Q (RA.same s3 r2) r3 e5 fun z hz rz=>q z H3 (s1.trans (s2.trans s3)) (.inl ⟨hz,rz⟩)
 ·obtain rfl:=rz.blE
  cases hf
  exact ⟨false,rfl,xR (q _ H2 (s1.trans s2) (.inl ⟨rfl,.bl _⟩))⟩
 ·cases hf
theorem I_ {op'':CmpOp} {r'':R2} {g g'':D→D→Option D} {d:Expr} {fd:FE} (ho:OpR X (compareOp op) r) (ho':OpR X (compareOp op') r') (ho'':OpR X (compareOp op'') r'') (hb:BrO X.K r g) (hb':BrO X.K r' g') (hb'':BrO X.K r'' g'') (h1:DE X fl .P a fa) (h2:DE X fl .P b fb) (h3:DE X fl .P c fc) (h4:DE X fl .P d fd)
 (hm:lastMarks [op,op',op''] [b,c,d]=false:=by with_unfolding_all rfl):DE X fl .FC (.Compare a [op,op',op''] [b,c,d] pos) (vm g g' g'' fa fb fc fd):=PE.imp (Iu ho ho' ho'' h1 h2 h3 h4 hm) fun σ H Q h=>by
 obtain ⟨G,ow,δ,dd,R,hf,q⟩:=h
 obtain ⟨x,e1,hf⟩:=bind1 hf
 obtain ⟨y,e2,hf⟩:=bind1 hf
 obtain ⟨z,e3,hf⟩:=bind1 hf
 refine ⟨G,ow,δ,x,R,e1,fun v H1 s1 r1=>⟨G,ow,δ,y,R.grow s1,e2,fun u H2 s2 r2=>?_⟩⟩
 refine hb H2 v u x y z _ (RA.same s2 r1) r2 e3 fun zv hz rz=>?_
 split at hf
 ·obtain rfl:=rz.blE
  obtain ⟨w,e4,hf⟩:=bind1 hf
  obtain ⟨z',e5,hf⟩:=bind1 hf
  refine ⟨true,rfl,xT ⟨G,ow,δ,w,R.grow (s1.trans s2),e4,fun wv H3 s3 r3=>?_⟩⟩
  refine hb' H3 u wv y w z' _ (RA.same s3 r2) r3 e5 fun zv' hz' rz'=>?_
  split at hf
  ·obtain rfl:=rz'.blE
   obtain ⟨t,e6,e7⟩:=bind1 hf
   refine ⟨true,rfl,xT ⟨G,ow,δ,t,R.grow (s1.trans (s2.trans s3)),e6,fun tv H4 s4 r4=>?_⟩⟩
   exact hb'' H4 wv tv w t dd Q (RA.same s4 r3) r4 e7 fun z hz rz=>q z H4 (s1.trans (s2.trans (s3.trans s4))) (.inl ⟨hz,rz⟩)
  ·obtain rfl:=rz'.blE
   cases hf
   exact ⟨false,rfl,xR (q _ H3 (s1.trans (s2.trans s3)) (.inl ⟨rfl,.bl _⟩))⟩
  ·cases hf
 ·obtain rfl:=rz.blE
  cases hf
  exact ⟨false,rfl,xR (q _ H2 (s1.trans s2) (.inl ⟨rfl,.bl _⟩))⟩
 ·cases hf
theorem KR {ok:Ok} (r:RA K ok pl H v d):decide (v = .non)=isNone d:=by
 cases r <;> rfl
theorem Qk {j pos'} (h:DE X fl .P a f):DE X fl .FC (.Compare a [.IsNot] [.Constant .none j pos'] pos) (dUn Ks f):=PE.imp (JZ (O_ h)) fun σ H Q h=>by
 obtain ⟨G,ow,δ,d,R,hf,q⟩:=h
 obtain ⟨x,e1,e2⟩:=bind1 hf
 cases e2
 refine ⟨G,ow,δ,x,R,e1,fun v H1 s1 r1=>?_⟩
 show Q (.bl (!decide (v = .non))) H1
 rw [KR (RA.same (Same.refl H1) r1)]
 exact q _ H1 s1 (.inl ⟨rfl,.bl _⟩)
def BrC (K:PySem.W.Frag) (r:List V→Hp→VK→Prop) (g:List D→Option D):Prop:=∀ (H:Hp) (xs:List V) (ds:List D) (d:D) (Q:VK),RAs K ok1 true H xs ds→g ds=some d→(∀ v,flat d=true→RA K ok0 false H v d→Q v H)→r xs H Q
theorem dh {id:String} {r:List V→Hp→VK→Prop} {g:List D→Option D} {fa:FA} (hc:jY X (.builtin id) r) (hb:BrC X.K r g) (hg:Gl X x) (hm:X.mg x=none) (hv:bootBuiltins x=some (.builtin id)) (ha:DB X fl .P (e :: es) fa) (hn:x ≠ "__name__" := by decide) (hdb:(x == ("__debug__" : Str))=false:=by decide)
 (he:starEach (e :: es) X.env=(false,eval e X.env) :: starEach es X.env:=by exact lR rfl) (hpl:(backTo pos (starEach es X.env)).any (·.1)=false:=by exact KH rfl):DE X fl .FC (.Call (.Name x p) (e :: es) [] pos) (dCall g fa) :=
 PE.imp (pP hc hg hm hv ha hn hdb he hpl) fun σ H Q h=>by
 obtain ⟨G,ow,δ,d,R,hf,q⟩:=h
 obtain ⟨ds,e1,e2⟩:=bind1 hf
 exact ⟨G,ow,δ,ds,R,e1,fun vs H' s r'=>hb H' vs ds d Q r' e2 fun v hv rv=>q v H' s (.inl ⟨hv,rv⟩)⟩
theorem gU:BrC K (fun xs H Q=>∃ p ys,xs=[.ref p]∧(SqL K H p ys∨SqT K H p ys)∧Q (.int ys.length) H) gH:=by
 intro H xs ds d Q r e q
 unfold gH at e
 split at e
 ·next l =>
  cases e
  cases r with
  | cons r1 r2 =>
   cases r2
   obtain ⟨a,ys,rfl,hx,hr⟩:=r1.lstE
   refine ⟨a,ys,rfl,.inl hx,?_⟩
   rw [hr.length]
   exact q _ rfl (.int _)
 ·next l =>
  cases e
  cases r with
  | cons r1 r2 =>
   cases r2
   obtain ⟨a,ys,rfl,hx,hr⟩:=r1.tupE
   refine ⟨a,ys,rfl,.inr hx,?_⟩
   rw [hr.length]
   exact q _ rfl (.int _)
 ·cases e
theorem KY:BrC K (fun xs H Q=>∃ i j,xs=[.int i,.int j]∧Q (.int (if j > i then j else i)) H) BP:=by
 intro H xs ds d Q r e q
 unfold BP at e
 split at e
 ·cases e
  cases r with
  | cons r1 r2 =>
   cases r2 with
   | cons r2 r3 =>
    cases r3
    obtain rfl:=r1.intE
    obtain rfl:=r2.intE
    exact ⟨_,_,rfl,q _ rfl (.int _)⟩
 ·cases e
theorem E_:BrC K (fun xs H Q=>∃ i j,xs=[.int i,.int j]∧Q (.int (if j < i then j else i)) H) vZ:=by
 intro H xs ds d Q r e q
 unfold vZ at e
 split at e
 ·cases e
  cases r with
  | cons r1 r2 =>
   cases r2 with
   | cons r2 r3 =>
    cases r3
    obtain rfl:=r1.intE
    obtain rfl:=r2.intE
    exact ⟨_,_,rfl,q _ rfl (.int _)⟩
 ·cases e
theorem Ql (d:D):tyD d = "NoneType" ∨ tyD d = "bool" ∨ tyD d = "int" ∨ tyD d = "str" ∨ tyD d = "list" ∨ tyD d = "tuple" ∨ tyD d = "dict" := by
 cases d <;> simp [tyD]
def Zq (K:PySem.W.Frag):List V→Hp→VK→Prop:=fun xs H Q=>∃ x c d,xs=[x,.ty c]∧(c = "int" ∨ c = "bool" ∨ c = "tuple" ∨ c = "list" ∨ c = "str")∧RA K ok1 true H x d∧Q (.bl (isT c (tyD d))) H
theorem KZ:jY X (.builtin "isinstance") (Zq X.K):=by
 intro pins s σ H xs us Q I r h
 obtain ⟨x,c,d,rfl,hc,ra,q⟩:=h
 obtain ⟨u,w',rfl,rx,rc⟩:=vals2 r
 cases rc
 have kn:=Us (K:=X.K) hc (Ql d)
 have fin:∀ tk,EP X pins σ Q (.bool (isT c (tyD d))) { s with toks:=tk }:=fun tk=>⟨.bl _,H,I.tok _,rfl,q⟩
 cases ra with
 | non=>cases (show u=Value.none from rx);exact PySem.W.kia_one PySem.W.kitx_none I.kIn True.intro kn (fun z=>nomatch z) fin
 | bl b=>cases (show u=Value.bool b from rx);exact PySem.W.kia_one PySem.W.kitx_bool I.kIn True.intro kn (fun z=>nomatch z) fin
 | int i=>obtain ⟨t,z⟩:=(show ∃ t,u=Value.int i t from rx);cases z;exact PySem.W.kia_one PySem.W.kitx_int I.kIn True.intro kn (fun z=>nomatch z) fin
 | str y=>obtain ⟨t,z⟩:=(show ∃ t,u=Value.str y t from rx);cases z;exact PySem.W.kia_one PySem.W.kitx_str I.kIn True.intro kn (fun z=>nomatch z) fin
 | @lst a xs ds e k q' =>
  cases (show u=Value.ref a from rx)
  obtain ⟨its,_,⟨o,n,e1,e2,_⟩,_⟩:=I.list (SqL.of e)
  exact PySem.W.kia_one PySem.W.kitx_list I.kIn ⟨_,e1,e2⟩ kn (fun z=>nomatch z) fin
 | @lsk a xs ds e k q' =>
  cases (show u=Value.ref a from rx)
  obtain ⟨its,_,⟨o,n,e1,e2,_⟩,_⟩:=I.list e.sq
  exact PySem.W.kia_one PySem.W.kitx_list I.kIn ⟨_,e1,e2⟩ kn (fun z=>nomatch z) fin
 | @tup a xs ds e q' =>
  cases (show u=Value.ref a from rx)
  obtain ⟨its,_,⟨o,e1,e2,_⟩,_⟩:=I.tuple e.sq
  exact PySem.W.kia_one PySem.W.kitx_tuple I.kIn ⟨_,e1,e2⟩ kn (fun z=>nomatch z) fin
 | @dic a u0 kvs e g k =>
  rcases g.or with ⟨ks,z⟩ | ⟨ks,z⟩
  ·rw [z] at e;exact yq I rx (TyOf.dK e) kn fin
  ·rw [z] at e;exact yq I rx (TyOf.dT e) kn fin
 | @dik a u0 kvs ob e g k =>
  cases (show u=Value.ref a from rx)
  have ob:=(show fu X.prog X.w H s.heap a u0 from (show L2.Rd H a u0 from .inr ⟨_,e⟩).ok I.hok)
  rcases g.or with ⟨ks,z⟩ | ⟨ks,z⟩
  ·rw [z] at ob
   obtain ⟨_,_,vs,_,dd⟩:=ob
   obtain ⟨o1,_,_,h1,h2,_⟩:=dd
   exact PySem.W.kia_one PySem.W.kitx_dict I.kIn ⟨_,h1,h2.1⟩ kn (fun z=>nomatch z) fin
  ·rw [z] at ob
   obtain ⟨_,_,xs,_,o1,_,_,h1,h2,_⟩:=ob
   exact PySem.W.kia_one PySem.W.kitx_dict I.kIn ⟨_,h1,h2.1⟩ kn (fun z=>nomatch z) fin
theorem kj {p':Pos} (hc:T = "int" ∨ T = "bool" ∨ T = "tuple" ∨ T = "list" ∨ T = "str") (h:DE X fl .P a f) (hg:Gl X "isinstance") (hm:X.mg "isinstance" = none) (hg':Gl X x) (hm':X.mg x=none) (hv':bootBuiltins x=some (.type T))
 (hn':x ≠ "__name__" := by decide) (hd':(x == ("__debug__" : Str))=false:=by decide)
 (he:starEach [a,.Name x p'] X.env=(false,eval a X.env) :: starEach [.Name x p'] X.env:=by rfl) (he2:starEach [.Name x p'] X.env=(false,eval (.Name x p') X.env) :: starEach [] X.env:=by rfl) (hpl:(backTo pos (starEach [.Name x p'] X.env)).any (·.1)=false:=by rfl) :
 DE X fl .FC (.Call (.Name "isinstance" p) [a,.Name x p'] [] pos) (dUn (gIs T) f) :=
 PE.imp (pP KZ hg hm boot_isinstance (iz h (iz (O9 (v:=.ty T) hg' hm' hv' rfl hn' hd') lB he2) he) (by decide) (by decide) he hpl) fun σ H Q h=>by
 obtain ⟨G,ow,δ,d,R,hf,q⟩:=h
 obtain ⟨x,e1,e2⟩:=bind1 hf
 cases e2
 exact ⟨G,ow,δ,x,R,e1,fun v H1 s1 r1=>⟨v,T,x,rfl,hc,r1,q _ H1 s1 (.inl ⟨rfl,.bl _⟩)⟩⟩
theorem zQ (h:DE X fl .P a f):DE X fl .FC (.UnaryOp .USub a pos) (dUn Er f):=PE.imp (W6 Ug h) fun σ H Q h=>by
 obtain ⟨G,ow,δ,d,R,hf,q⟩:=h
 obtain ⟨x,e1,e2⟩:=bind1 hf
 refine ⟨G,ow,δ,x,R,e1,fun v H1 s1 r1=>?_⟩
 unfold Er at e2
 split at e2
 ·cases e2
  obtain rfl:=RA.intE r1
  exact ⟨_,rfl,q _ H1 s1 (.inl ⟨rfl,.int _⟩)⟩
 ·cases e2
end
def spD (K:PySem.W.Frag) (F:List D→Option D):Sp:=fun vs H Q _=>∃ ds d,(Tb H∧RAs K ok1 true H vs ds)∧F ds=some d∧∀ v H',Same H H'→RA K (okN H) false H' v d→Q v H'
section
variable {P:Program} {w:World} {K:PySem.W.Frag} {mg:Str→Option Value} {base:Heap} {x:Str} {ps N:List Str} {st:Stmt} {k n:Nat} {fs:FS} {fl:List Fl}
theorem kE (p:Nat) (hp:∀ i,i < p→fl[i]? = some .A) (hl:ds.length=p) (hN:p ≤ N.length) (r':Tb H∧RAs K ok1 true H vs ds) :
 Rel K fl ⟨H,H,fun _=>none,fun _=>[],r'.1⟩ ow0 (L2.start N vs) H (ds.map (fun d=>some (.d d))++bA (N.length - p) none):=by
 have r:=r'.2
 have hv:vs.length=p:=by rw [r.length];exact hl
 have get:∀ i d,(ds.map (fun d=>some (U.d d))++bA (N.length - p) none)[i]? = some (some (.d d))→i < p∧ds[i]? = some d:=fun i d h=>by
  by_cases hi:i < p
  ·rw [cR (by rw [aC,hl];exact hi),aO] at h
   cases e:ds[i]? with
   | none=>rw [e] at h;cases h
   | some z=>rw [e] at h;cases h;exact ⟨hi,rfl⟩
  ·rw [cF (by rw [aC,hl];omega),fH] at h
   split at h <;> cases h
 refine ⟨Same.refl H,Same.refl H,?_,fun i a h=>(by cases h),fun i j a h=>(by cases h),fun i h=>rfl,fun i d h _ _=>?_,fun i d h _ h2 _=>?_,fun i a h=>(by cases h),fun i j a h=>(by cases h),fun i j a h=>(by cases h),fun i h=>rfl,fun i d hn h=>?_⟩
 ·unfold L2.start
  simp only [bK,aC,bO,hv,hl]
 ·obtain ⟨hi,e⟩:=get i d h
  obtain ⟨v,e1,e2⟩:=r.get e
  refine ⟨v,?_,e2.imp (fun _ _=>⟨fun i z=>(by cases z),fun i z=>(by cases z)⟩) (fun z=>z)⟩
  unfold L2.start
  rw [cR (by rw [aC,hv];exact hi),aO,e1]
  rfl
 ·exact absurd (hp i (get i d h).1) h2
 ·rw [hp i (get i d h).1] at hn
  cases hn
end
section
variable {X:Cx} {fl:List Fl} {e:Expr} {es:List Expr} {pos p:Pos} {x:Str} {ps:List Str} {n:Nat} {F:List D→Option D} {fa:FA}
theorem bN (h:Has X.prog X.w X.K X.mg X.base n x ps (spD X.K F)) (hr:Room n X.A) (ha:DB X fl .P (e :: es) fa) (hg:Gl X x:=by rfl) (hdb:(x == ("__debug__" : Str))=false:=by decide)
 (he:starEach (e :: es) X.env=(false,eval e X.env) :: starEach es X.env:=by exact lR rfl) (hpl:(backTo pos (starEach es X.env)).any (·.1)=false:=by exact KH rfl) :
 DE X fl .C (.Call (.Name x p) (e :: es) [] pos) (dCall F fa):=PE.imp (BJ h hr ha hg hdb he hpl) fun σ H Q h=>by
 obtain ⟨G,ow,δ,d,R,hf,q⟩:=h
 obtain ⟨ds,e1,e2⟩:=bind1 hf
 refine ⟨G,ow,δ,ds,R,e1,fun vs H' s r=>?_⟩
 show spD X.K F (vs++[]) H' Q E0
 rw [cH]
 exact ⟨ds,d,⟨R.tb.same s,r⟩,e2,fun v H2 s2 r2=>q v H2 (s.trans s2) (RA.imp (fun a z=>s.free z) (fun z=>z) r2)⟩
end
end D3
variable {fh:D3.FO} {st:Stmt}
namespace D3
open PySem PySem.Spec PyProof.Rows L2 My
section
variable {X:Cx} {fl fl':List Fl} {e a b c elt tg iter:Expr} {es ifs:List Expr} {k:Kd} {f fa fb fc:FE} {ft gt:FT} {pos:Pos} {scope:Scope} {ix L TT:List Nat} {fi:FA} {g:FG}
theorem oN:PTs X [] (tDT X.K fl D3.j_):=fun pins s σ H Q I h=>by
 obtain ⟨G,ow,δ,b,R,hf,q⟩:=h
 cases hf
 exact P_ pins s σ H Q I (q H (Same.refl H))
theorem zR {σ:St} (t:Nat) (ix:List Nat) (hfl:∀ i,i < t + ix.length→fl'[i]? = some .A) (R:Rel K fl G ow σ H δ) (s:Same H H1) :
 Rel K fl' ⟨H,H,fun _=>none,fun _=>[],R.tb⟩ ow0 (pF t ix σ) H1 (iK t ix δ):=by
 have get:∀ i d,(iK t ix δ)[i]? = some (some (.d d))→i < t + ix.length∧∃ j,ix[i - t]? = some j∧t ≤ i∧δ[j]? = some (some (.d d)):=fun i d h=>by
  unfold iK at h
  by_cases hi:i < t
  ·rw [cR (by rw [bO];exact hi),fH,if_pos hi] at h
   cases h
  ·rw [cF (by rw [bO];omega),bO,aO] at h
   cases e:ix[i - t]? with
   | none=>rw [e] at h;cases h
   | some j =>
    rw [e] at h
    have hl:i - t < ix.length:=by
     rcases dw (i - t) ix.length with z | z
     ·exact z
     ·rw [aP z] at e;cases e
    refine ⟨by omega,j,rfl,by omega,?_⟩
    have h':(δ[j]?).getD none=some (.d d):=by simpa using h
    cases q:δ[j]? with
    | none=>rw [q] at h';cases h'
    | some o=>rw [q] at h';simp at h';rw [h']
 refine ⟨Same.refl H,s,?_,fun i a h=>(by cases h),fun i j a h=>(by cases h),fun i h=>rfl,fun i d h _ _=>?_,fun i d h _ h2 _=>absurd (hfl i (get i d h).1) h2,fun i a h=>(by cases h),fun i j a h=>(by cases h),fun i j a h=>(by cases h),fun i h=>rfl,fun i d hn h=>(by rw [hfl i (get i d h).1] at hn;cases hn)⟩
 ·unfold pF iK
  simp
 ·obtain ⟨hi,j,ej,ht,ed⟩:=get i d h
  have key:∃ v,σ[j]? = some (some v)∧RA K ok1 true H v d:=by
   cases hN:isN fl[j]? with
   | true =>
    obtain ⟨v,h1,h2,_⟩:=R.nr j d hN ed
    exact ⟨v,h1,h2.ra fun _ _=>trivial⟩
   | false =>
   cases ho:ow j with
   | none =>
    obtain ⟨v,h1,h2⟩:=R.dat j d ed hN ho
    exact ⟨v,h1,h2.imp (fun _ _=>trivial) (fun z=>z)⟩
   | some a =>
    obtain ⟨_,_,xs,ds,h1,h2,h3,h4⟩:=R.own j a ho
    rw [ed] at h4
    cases h4
    exact ⟨_,h1,.lst h2 trivial (h3.imp (fun _ _=>trivial) (fun z=>z))⟩
  obtain ⟨v,h1,h2⟩:=key
  refine ⟨v,?_,(h2.imp (fun _ _=>⟨fun i z=>(by cases z),fun i z=>(by cases z)⟩) (fun z=>z)).same s⟩
  unfold pF
  rw [cF (by rw [bO];omega),bO,aO,ej]
  show some ((σ[j]?).getD none)=_
  rw [h1]
  rfl
theorem BZ {σ:St} {H:Hp} {Q:VK} {t:Nat} (hfl:∀ i,i < t + ix.length→fl'[i]? = some .A) (htg:∀ j ∈ TT,j < t)
 (h:tD X.K fl .FC (ju fi g ft f t ix) σ H Q):BL (tDI X.K fl L fi) (tDG X.K fl' TT g) (tDT X.K fl' ft) (tD X.K fl' .C f) t (pF t ix) σ H Q:=by
 obtain ⟨G,ow,δ,d,R,hf,q⟩:=h
 obtain ⟨l,e1,e2⟩:=bind1 hf
 by_cases hl:l.length ≤ 100000
 case neg=>rw [if_neg hl] at e2;cases e2
 rw [if_pos hl] at e2
 obtain ⟨r,e3,e4⟩:=bind1 e2
 cases e4
 refine ⟨G,ow,δ,l,R,e1,fun J H1 s1 wk Dl hD=>?_⟩
 have R1:=R.grow s1
 let okD:Ok:=fun b=>okN H b∧b ≠ Dl
 refine ⟨fun i m xs H2=>m=l.length - i∧H2 Dl=some (.lst xs)∧Same H1 H2∧xs.length ≤ i∧i ≤ l.length∧∃ ds rest,RAs X.K okD false H2 xs ds∧iY g ft f (iK t ix δ) (l.drop i)=some rest∧r=ds++rest,
  ⟨_,rfl,bM,cN hD _,aL _,cZ _,[],r,.nil,by simpa using e3,rfl⟩,?_⟩
 rintro i m xs H2 ⟨rfl,hDl,s2,hxl,hil,ds,rest,hr,hc,rfl⟩
 refine ⟨hDl,?_⟩
 obtain ⟨w1,w2⟩:=wk H2 (fun b o hb _ _=>s2 b o hb) i
 by_cases hlt:i < l.length
 ·have hdrop:l.drop i=l[i] :: l.drop (i + 1):=jm hlt
  rw [hdrop,iY] at hc
  obtain ⟨δ1,e5,hc⟩:=bind1 hc
  obtain ⟨bb,e6,hc⟩:=bind1 hc
  obtain ⟨go,yl⟩:=w1 l[i] (aD hlt)
  refine .inr ⟨go,q_ (aW hxl (aW hil hl)) (by decide),fun x H3 hy=>?_⟩
  obtain ⟨s3,r3⟩:=yl x H3 hy
  have s13:=s2.trans s3
  have Rb:=(zR t ix hfl R1 (Same.refl H1)).grow s13
  refine ⟨_,_,_,_,δ1,Rb,r3.imp (fun _ _=>⟨fun i z=>(by cases z),fun i z=>(by cases z)⟩) (fun z=>z),e5,fun σ4 R4 keep4=>⟨?_,?_⟩⟩
  ·apply dN
   intro n
   rw [eY,eY]
   exact keep4 (t + n) fun z=>absurd (htg _ z) (by omega)
  ·refine ⟨_,_,δ1,bb,R4,e6,fun H5 s5=>?_⟩
   cases bb with
   | false =>
    rw [if_neg cg] at hc ⊢
    have s35:=s3.trans s5
    exact ⟨l.length - (i + 1),by omega,rfl,s35 _ _ hDl,s2.trans s35,by omega,hlt,ds,rest,hr.same s35,hc,rfl⟩
   | true =>
    rw [if_pos rfl] at hc ⊢
    obtain ⟨y,e7,hc⟩:=bind1 hc
    obtain ⟨l',e8,hc⟩:=bind1 hc
    cases hc
    refine ⟨_,_,δ1,y,R4.grow s5,e7,fun v H6 s6 r6=>?_⟩
    have s35:=s3.trans s5
    have s36:=s35.trans s6
    refine ⟨s36 _ _ hDl,l.length - (i + 1),by omega,rfl,bM,?_,by rw [bK,gh];omega,hlt,ds++[y],l',?_,e8,by simp⟩
    ·intro b o hb
     rw [bB (fun z=>by subst z;rw [hD] at hb;cases hb)]
     exact (s2.trans s36) b o hb
    ·have nd:¬ okD Dl:=fun z=>z.2 rfl
     have s05:Same H H5:=s1.trans (s2.trans s35)
     have ry:RA X.K okD false H6 v y:=RA.imp (fun b z=>⟨s05.free z,fun e=>by subst e;rw [okN,s35 _ _ hDl] at z;cases z⟩) (fun z=>z) r6
     exact ((hr.same s36).append (.cons ry .nil)).upd (s36 _ _ hDl) nd
 ·have ed:l.drop i=[]:=jN (by omega)
  rw [ed,iY] at hc
  cases hc
  refine .inl ⟨w2 (by omega),?_⟩
  rw [cH] at q
  exact q (.ref Dl) H2 (s1.trans s2) (.inr ⟨Dl,xs,ds,rfl,rfl,s1.free hD,hDl,hr⟩)
theorem m9 (hc:X.calm=true) (T Vn:List Str) (ix:List Nat) (hi:DI X fl L tg iter fi)
 (hg:∀ cl C s3 H3 fp,DG (blk X (T++Vn) scope cl C s3 H3 fp) fl' TT tg g) (ht:∀ cl C s3 H3 fp,PTs (blk X (T++Vn) scope cl C s3 H3 fp) ifs (tDT X.K fl' ft)) (he:∀ cl C s3 H3 fp,DE (blk X (T++Vn) scope cl C s3 H3 fp) fl' .C elt f)
 (hfl:∀ i,i < T.length + ix.length→fl'[i]? = some .A:=by decide) (htg:∀ j ∈ TT,j < T.length:=by decide)
 (hB:vV X.N X.env.scope.names scope.names Vn ix=true:=by rfl) (hk:scope.kind = .function:=by rfl) (hcell:∀ y ∈ scope.names,y.2 ≠ .cell:=by decide +kernel)
 (hnames:∀ x ∈ scope.names,x.2 = .local→scope.names.lookup x.1=some .local:=by decide +kernel)
 (hfr:∀ x ∈ scope.names,x.2 = .free→x.1 ∈ Vn:=by decide +kernel) (hs:∀ x,foldedSetIterable iter X.env x=pure x:=by intro _;rfl) :
 DE X fl .FC (.ListComp elt [⟨tg,iter,ifs,0⟩] scope pos) (ju fi g ft f T.length ix) :=
 PE.imp (zB hc T Vn ix hi hg ht he hB hk hcell hnames hfr hs) fun _ _ _ h=>BZ hfl htg h
theorem GC {p:Addr} (s:Same H H1) (hp:H1 p=none) (r:RAs K (okA ow) true H1 vs l):Rs K G.H0 ow H (upd H1 p (.lst vs)) .F (.ref p) (.list l) :=
 .inr ⟨p,vs,l,rfl,rfl,s.free hp,bM,(r.track.imp (fun b w=>⟨w.1,fun e=>w.2 (e ▸ hp)⟩) (fun z=>z)).same (cN hp _)⟩
theorem v8 {H0:Hp} (r:Rs K H0 ow Hb H (.B L) v (.list l)):∃ a xs,v = .ref a∧SqL K H a xs∧RAs K (okA ow) true H xs l:=by
 rcases r with r | ⟨i,hi,a,xs,ds,ho,rfl,e,hx,hr⟩
 ·exact r.lstE
 ·cases e
  exact ⟨a,xs,rfl,SqL.of hx,hr⟩
theorem RAs.rep {ok:Ok} (r:RAs K ok pl H vs l):∀ n:Nat,RAs K ok pl H (bA n vs).flatten (bA n l).flatten
 | 0=>.nil
 | n + 1=>by
  rw [cJ,cJ,fJ,fJ]
  exact r.append (RAs.rep r n)
theorem UG (h1:DE X fl .F a fa) (h2:DE X fl .P b fb):DE X fl .F (.BinOp a .Mult b pos) (dOp Qa fa fb):=PE.imp (SM Ur h1 h2) fun σ H Q h=>by
 obtain ⟨G,ow,δ,d,R,hf,q⟩:=h
 obtain ⟨x,y,e1,e2,e3⟩:=BW hf
 refine ⟨G,ow,δ,x,R,e1,fun v H1 s1 r1=>⟨G,ow,δ,y,R.grow s1,e2,fun u H2 s2 r2=>?_⟩⟩
 unfold Qa at e3
 split at e3
 ·next l k =>
  by_cases z:l.length * k.toNat ≤ 1000000∧-(2 ^ 63) ≤ k∧k < 2 ^ 63
  ·rw [if_pos z] at e3
   cases e3
   obtain rfl:=RA.intE r2
   rcases r1 with ⟨hz,_⟩ | ⟨p,xs,ds,rfl,ez,h3,h4,h5⟩
   ·simp [flat] at hz
   ·cases ez
    refine ⟨p,k,xs,rfl,rfl,s2 _ _ h4,z.2.1,z.2.2,?_,fun pn hp=>q _ _ ((s1.trans s2).trans (cN hp _)) (GC (G:=G) (s1.trans s2) hp (((h5.imp (fun b w=>w.1) (fun z=>z)).same s2).rep _))⟩
    rw [h5.length]
    exact aW z.1 (by decide)
  ·rw [if_neg z] at e3
   cases e3
 ·cases e3
theorem GD (h:DE X fl (.B L) a f) (hg:Gl X "list") (hm:X.mg "list" = none)
 (he:starEach [a] X.env=(false,eval a X.env) :: starEach [] X.env:=by rfl) (hpl:(backTo pos (starEach [] X.env)).any (·.1)=false:=by rfl):DE X fl .F (.Call (.Name "list" p) [a] [] pos) (dUn yD f) :=
 PE.imp (mz zA hg hm boot_list (iz h lB he) (by decide) (by decide) he hpl) fun σ H Q h=>by
 obtain ⟨G,ow,δ,d,R,hf,q⟩:=h
 obtain ⟨x,e1,e2⟩:=bind1 hf
 refine ⟨G,ow,δ,x,R,e1,fun v H1 s1 r1=>?_⟩
 unfold yD at e2
 split at e2
 ·cases e2
  obtain ⟨p,xs,rfl,hx,hr⟩:=v8 r1
  exact ⟨p,xs,rfl,.inl hx,fun pn hp=>q _ _ (s1.trans (cN hp _)) (GC (G:=G) s1 hp hr)⟩
 ·cases e2
  rcases r1 with r1 | ⟨i,hi,a,xs,ds,ho,rfl,e,hx,hr⟩
  ·obtain ⟨p,xs,rfl,hx,hr⟩:=r1.tupE
   exact ⟨p,xs,rfl,.inr hx,fun pn hp=>q _ _ (s1.trans (cN hp _)) (GC (G:=G) s1 hp hr)⟩
  ·cases e
 ·cases e2
def tDO (K:PySem.W.Frag) (fl:List Fl) (f:FO):TO:=fun σ H Q=>∃ G ow δ o,Rel K fl G ow σ H δ∧f δ=some o∧∀ H',Same H H'→Q o H'
theorem PO.imp {o:Option Expr} {t t':TO} (h:PO X o t) (i:∀ σ H Q,t' σ H Q→t σ H Q):PO X o t':=fun pins s σ H Q I q=>h pins s σ H Q I (i σ H Q q)
theorem Qm:PO X none (tDO X.K fl Ku):=PO.imp Pz fun σ H Q h=>by
 obtain ⟨G,ow,δ,o,R,hf,q⟩:=h
 cases hf
 exact q H (Same.refl H)
theorem oO (h:DE X fl .P e f):PO X (some e) (tDO X.K fl (lH f)):=PO.imp (PB h) fun σ H Q h=>by
 obtain ⟨G,ow,δ,o,R,hf,q⟩:=h
 obtain ⟨d,e1,e2⟩:=bind1 hf
 split at e2
 ·cases e2
  refine ⟨G,ow,δ,_,R,e1,fun v H1 s1 r1=>?_⟩
  obtain rfl:=RA.intE r1
  exact ⟨_,rfl,q H1 s1⟩
 ·cases e2
theorem zT (n d:Nat) (o:Option Int):HT.sIx n d o=pSx n d o:=by
 cases o <;> rfl
theorem RAs.cut {ok:Ok} (r:RAs K ok pl H vs l) (lo hi:Option Int):RAs K ok pl H (Bw vs lo hi) (cutD l lo hi):=by
 unfold Bw cutD
 rw [r.length,zT,zT]
 exact (r.drop _).take _
theorem K1 {lo hi:Option Expr} {p2:Pos} {fl1:FO} (h:DE X fl (.B L) a f) (h1:PO X lo (tDO X.K fl fl1)) (h2:PO X hi (tDO X.K fl fh)):DE X fl .F (.Subscript a (.Slice lo hi none p2) pos) (dSl f fl1 fh):=PE.imp (Bv PK h h1 h2) fun σ H Q h=>by
 obtain ⟨G,ow,δ,d,R,hf,q⟩:=h
 obtain ⟨x,e1,hf⟩:=bind1 hf
 obtain ⟨o1,e2,hf⟩:=bind1 hf
 obtain ⟨o2,e3,e4⟩:=bind1 hf
 refine ⟨G,ow,δ,x,R,e1,fun v H1 s1 r1=>⟨G,ow,δ,o1,R.grow s1,e2,fun H2 s2=>⟨G,ow,δ,o2,R.grow (s1.trans s2),e3,fun H3 s3=>?_⟩⟩⟩
 split at e4
 ·cases e4
  obtain ⟨p,xs,rfl,hx,hr⟩:=v8 r1
  have s13:=s2.trans s3
  exact ⟨p,xs,rfl,s13.seq hx,fun pn hp=>q _ _ ((s1.trans s13).trans (cN hp _)) (GC (G:=G) (s1.trans s13) hp ((hr.same s13).cut o1 o2))⟩
 ·cases e4
theorem B_:DS1 X fl st (fun _=>none):=PS.imp J4 fun Dn σ H h=>by
 obtain ⟨G,ow,δ,o,R,hf,q⟩:=h
 cases hf
end
end D3
variable {elts:List Expr} {tpos:Pos}
namespace D3
open PySem PySem.Spec PyProof.Rows L2 My
section
variable {X:Cx} {pins:List (Addr × Obj)} {σ:St} {H:Hp} {s:Shared} {h':Heap}
theorem Inv.turnedL (I:Inv X pins σ H s) (k:∀ b o,b ∉ ch→s.heap.get? b=some o→h'.get? b=some o) (hf:∀ b ∈ ch,tY X pins H b):Inv X pins σ H { s with heap:=h',toks:=t' }:=by
 have nit:∀ b u,H b=some u→b ∉ ch:=fun b u e z=>by rw [(hf b z).1] at e;cases e
 refine I.step (g':=s.gens) (d':=s.drawn) (ch:=ch) (fun b hb=>?_) (fun b o _ _ hc e _=>k b o hc e) (fun b o _ _ hc e _=>⟨o.slots,k b o hc e⟩) (fun _ _ _ _ n=>n)
  (fun b o hc e=>⟨o,k b o hc e⟩) (fun _ _ e=>e) (fun _ _ _ e=>e) (fun _ _ _ e=>e) (fun m hm=>?_) (fun b u e=>?_) I.bare
 ·obtain ⟨f0,f1,f2,f3,f4,f5⟩:=hf b hb
  exact ⟨f3,f1,f4,f5⟩
 ·obtain ⟨o,es,ep,ho,r⟩:=hm
  exact ⟨o,es,ep,k _ o (fun z=>(hf _ z).2.1 rfl) ho,r⟩
 ·refine (I.hok b u e).stay (fun c v hc q=>k c v ?_ q) (fun _ q=>q) fun _ _ q=>q
  rcases hc with z | z
  ·rw [z];exact nit b u e
  ·exact nit c _ z
end
def Ite (K:PySem.W.Frag) (a:Addr):It :=
 ⟨fun i H=>∃ xs x,SqL K H a xs∧xs[i]? = some x,fun i H x H'=>∃ p y,H p=none∧H'=upd H p (.tup [.int i,y])∧x = .ref p∧∀ xs,SqL K H a xs→xs[i]? = some y,fun i H=>∃ xs,SqL K H a xs∧xs.length ≤ i⟩
theorem Ja {x1} (a it:Addr) :
 Turn P w K (.Tuple elts x1 tpos) (Ite K a) [it + 1,it] (it + 1) (fun i h=>∃ old,IsEnum h (it + 1) it (i:Int) old∧h.IsListIter it a i) where
 mem:=by simp
 obj:=fun i h st b hb=>by
  obtain ⟨old,he,o,e,c,d⟩:=st
  rcases aY.mp hb with z | z
  ·subst z
   exact ⟨_,he,fun v z=>by cases z⟩
  ·have z:b=it:=by simpa using z
   subst z
   exact ⟨o,e,fun v z=>by rw [d] at z;cases z⟩
 keep:=fun i h h' st k=>by
  obtain ⟨old,he,hi⟩:=st
  exact ⟨old,k _ (by simp) _ he,hi.at fun o e=>k it (by simp) o e⟩
 item:=by
  intro X hP hw hK hc i pins s σ H E I hf st hg
  subst hP hw hK
  obtain ⟨xs,x,hq,hx⟩:=hg
  obtain ⟨its,rv,p,hz⟩:=I.list hq
  obtain ⟨u,hu,ru⟩:=rv.get hx
  obtain ⟨old,he,hi⟩:=st
  have fe:=hf (it + 1) (by simp)
  have fi:=hf it (by simp)
  have hlt:it + 1 < s.heap.objs.size:=Heap.lt_size he
  refine wpAny_pyNext_enum_item he hi p.isList (x:=u) (by simpa using hu) (Nat.succ_ne_self it) fun h1 ho hi1 ht hsz hk=>?_
  refine ⟨_,rfl,wpAny_letOwnedTupleGo_enum ho fun h2 he2 hs2=>?_⟩
  replace hs2:Heap.SameBut (it + 1) h1 h2:=hs2
  have hn:H s.heap.objs.size=none:=I.hok.fresh (aL _)
  have I0:Inv X pins σ (upd H s.heap.objs.size (.tup [.int (i:Int),x])) { s with heap:=s.heap.push { cls:=.type "tuple", data:=.seq #[.int (i:Int) s.toks,u] } } :=
   I.laid (t':=s.toks) (fun b o e=>Heap.get?_push_of_some _ e) (aL _) ⟨show 2 ≤ sizeLine by decide,[.int (i:Int) s.toks,u],.cons ⟨_,rfl⟩ (.cons ru .nil),⟨_,Heap.get?_push_size _ rfl,rfl,_,rfl⟩⟩
  have ne:∀ b,b ∈ [it + 1,it]→b ≠ s.heap.objs.size:=fun b hb=>by
   rcases aY.mp hb with w' | w'
   ·rw [w'];exact aR hlt
   ·rw [show b=it by simpa using w'];exact aR (su hlt)
  have I1:Inv X pins σ (upd H s.heap.objs.size (.tup [.int (i:Int),x])) { s with heap:=h2,toks:=s.toks + 1 }:=by
   refine Inv.turnedL (s:={ s with heap:=s.heap.push { cls:=.type "tuple", data:=.seq #[.int (i:Int) s.toks,u] } }) (ch:=[it + 1,it]) I0 (fun b o hb e=>?_) fun b hb=>⟨by rw [bB (ne b hb)];exact (hf b hb).1,(hf b hb).2⟩
   have b1:b ≠ it + 1:=fun z=>hb (by simp [z])
   have b2:b ≠ it:=fun z=>hb (by simp [z])
   rcases Heap.get?_push_cases e with ⟨e1,e2⟩ | e1
   ·subst e1 e2
    exact (hs2.2 _ b1).trans ht
   ·exact (hs2.2 _ b1).trans (hk b o b1 b2 e1)
  refine ⟨.ref s.heap.objs.size,_,I1,rfl,⟨_,x,hn,rfl,rfl,fun ys hy=>by rw [I.list_inj hy hq];exact hx⟩,⟨_,he2,hi1.at fun o e=>(hs2.2 _ (aR (d8 it))).trans e⟩,fun b hb=>?_⟩
  rw [bB (ne b hb)]
  exact (hf b hb).1
 done:=by
  intro X hP hw hK hc i pins s σ H E I hf st hg
  subst hP hw hK
  obtain ⟨xs,hq,hx⟩:=hg
  obtain ⟨its,rv,p,hz⟩:=I.list hq
  obtain ⟨old,he,hi⟩:=st
  have hl:=rv.length
  refine wpAny_pyNext_enum_end (I.ok.hd hc) he hi p.isList (by simp;omega) fun h' eb=>⟨rfl,Inv.turnedL (t':=s.toks) (ch:=[it + 1,it]) I (fun b o hb e=>eb b o (fun z=>hb (by simp [z])) e) hf⟩
 self:=fun _ _ _ _ _ st h=>by
  obtain ⟨old,he,_⟩:=st
  exact wpAny_pyIter_enum he h
section
variable {X:Cx} {fl:List Fl} {a:Expr} {f:FE} {pos:Pos}
def Xr (K:PySem.W.Frag) (tl:TE):TI:=fun σ H R=>tl σ H fun x H1=>∃ a,x = .ref a∧(∃ xs,SqL K H1 a xs)∧R (Ite K a) H1
theorem Qn {x1} (hg:Gl X "enumerate") (hm:X.mg "enumerate" = none) (hl:PE X a tl) (he:starEach [a] X.env=(false,eval a X.env) :: starEach [] X.env:=by rfl)
 (hpl:(backTo pos (starEach [] X.env)).any (·.1)=false:=by rfl):PI X (.Tuple elts x1 tpos) (.Call (.Name "enumerate" p) [a] [] pos) (Xr X.K tl):=by
 intro pins s σ H R I h
 refine wpAny_Call_Name_kw (lA I hg hm boot_enumerate (PyProof.Rows.callWith_type1 (thn ((iz hl lB he) pos pins s σ H (fun vs H1=>match vs with | [x]=>∃ a,x = .ref a∧(∃ xs,SqL X.K H1 a xs)∧R (Ite X.K a) H1 | _=>False) I h) fun us s1 ⟨vs,H1,I1,r1,q1⟩=>?_) he hpl))
 cases r1 with
 | nil=>exact q1.elim
 | cons r rr =>
  cases rr with
  | cons _ _=>exact q1.elim
  | nil =>
  obtain ⟨l,e,⟨xs,hq⟩,q⟩:=q1
  subst e
  cases r
  obtain ⟨its,rv,pl,hz⟩:=I1.list hq
  refine call_enumerate_list pl.isList fun h' he' hi' hsz hk=>?_
  have I2:Inv X pins σ H1 { s1 with heap:=h' }:=I1.kept (t':=s1.toks) hk
  refine wpAny_pyIter_enum (s:={ s1 with heap:=h' }) he' ?_
  refine ⟨s1.heap.objs.size + 1,[s1.heap.objs.size + 1,s1.heap.objs.size],_,_,H1,rfl,I2,Ja l s1.heap.objs.size,⟨_,he',hi'⟩,fun b hb=>?_,q⟩
  have hb':s1.heap.objs.size ≤ b:=by
   rcases aY.mp hb with z | z
   ·rw [z];exact Nat.le_succ _
   ·rw [show b=s1.heap.objs.size by simpa using z];exact aL _
  exact I1.fpOk hb' (I1.hok.fresh hb')
theorem GF {x1} (h:DE X fl (.B L) a f) (hg:Gl X "enumerate") (hm:X.mg "enumerate" = none) (he:starEach [a] X.env=(false,eval a X.env) :: starEach [] X.env:=by rfl)
 (hpl:(backTo pos (starEach [] X.env)).any (·.1)=false:=by rfl):DI X fl L (.Tuple elts x1 tpos) (.Call (.Name "enumerate" p) [a] [] pos) (BR f):=PI.imp (Qn hg hm h he hpl) fun σ H R' h=>by
 obtain ⟨G,ow,δ,l,R,hf,q⟩:=h
 obtain ⟨d,e1,e2⟩:=bind1 hf
 cases d <;> first | (cases e2;done) | skip
 next l0 =>
 cases e2
 refine ⟨G,ow,δ,_,R,e1,fun v H1 s r=>?_⟩
 obtain ⟨a,xs,rfl,hx,keep⟩:=uh (R.grow s) r
 refine ⟨a,rfl,⟨xs,hx⟩,q _ _ s fun H2 k2 i=>?_⟩
 obtain ⟨k3,k4⟩:=keep H2 k2
 refine ⟨fun d hd=>?_,fun hl=>⟨xs,k3,by rw [k4.length];simpa [jQ] using hl⟩⟩
 have hd':(l0[i]?).map (fun x=>PyData.tuple [.int (i:Int),x])=some d:=by
  have:=hd
  unfold jQ at this
  rw [d7] at this
  exact this
 cases e:l0[i]? with
 | none=>rw [e] at hd';cases hd'
 | some x0 =>
  rw [e] at hd'
  cases hd'
  obtain ⟨y,hy,ry⟩:=k4.get e
  refine ⟨⟨xs,y,k3,hy⟩,fun x H3 hyl=>?_⟩
  obtain ⟨p,y',hp,rfl,rfl,hz⟩:=hyl
  have:some y=some y':=hy.symm.trans (hz xs k3)
  cases this
  have g:=cN hp (.tup [.int (i:Int),y])
  exact ⟨g,.tup bM (.cons (.int _) (.cons (ry.same g) .nil))⟩
end
structure Bl (mg:Str→Option Value):Prop where
 len_:mg "len" = none
 range_:mg "range" = none
 abs_:mg "abs" = none
 isinstance_:mg "isinstance" = none
 int_:mg "int" = none
 bool_:mg "bool" = none
 tuple_:mg "tuple" = none
 list_:mg "list" = none
 str_:mg "str" = none
 max_:mg "max" = none
 min_:mg "min" = none
 sorted_:mg "sorted" = none
 sum_:mg "sum" = none
 reversed_:mg "reversed" = none
 enumerate_:mg "enumerate" = none
 zip_:mg "zip" = none
 set_:mg "set" = none
 any_:mg "any" = none
 all_:mg "all" = none
 dict_:mg "dict" = none
end D3
variable {dc:Value} {sl:Array (Option Value)}
namespace D3
open PySem PySem.Spec PyProof.Rows L2 My
structure FunD (K:PySem.W.Frag) (x:Str) (st:Stmt) (f:Addr) (fd:FuncData):Prop where
 ex:∃ (oc:Value) (od:Option Addr) (dV kV doc pm:Value) (an:Option Addr) (cdv ct:Value) (osl:Array (Option Value)),
  fd=PySem.W.fnOf x x (m5 st) (iB st) (bG st) dV kV doc pm an cdv ct∧K.lookup f=some ⟨oc,od,.func fd,osl⟩∧PySem.W.codeIn K cdv x=true
 kp:PySem.W.keepIn K (.ref f)=true
structure Dg (K:PySem.W.Frag) (mg:Str→Option Value) (x:Str) (st:Stmt) (ps:List Str):Prop where
 ex:∃ (f:Addr) (fd:FuncData),FunD K x st f fd∧Binds K fd ps []∧mg x=some (.ref f)
theorem fD {kV:Value} (X:K.In h) (G:h.Ns mainGlobals mg)
 (hb:∀ (kV doc pm:Value) (an:Option Addr) (cdv ct:Value) (us:List Value),us.length=ps.length→bindArgs (PySem.W.fnOf x x (m5 st) (iB st) (bG st) .none kV doc pm an cdv ct) ⟨us,[]⟩=pure (ps.zip us))
 (a:PySem.W.nsIn K mainGlobals x=some (some (.ref f))) (l:K.lookup f=some ⟨oc,od,.func (PySem.W.fnOf x x (m5 st) (iB st) (bG st) .none kV dc pm an cd ct),sl⟩) (c:PySem.W.codeIn K cd x=true) (k:PySem.W.keepIn K (.ref f)=true):Dg K mg x st ps :=
 ⟨_,_,⟨⟨oc,od,.none,kV,dc,pm,an,cd,ct,sl,rfl,l,c⟩,k⟩,.all (hb kV dc pm an cd ct),PySem.W.mg_of X G a⟩
structure Dl (K:PySem.W.Frag) (mg:Str→Option Value) (x y:Str) (st:Stmt):Prop where
 ex:∃ (f:Addr) (fd:FuncData),FunD K x st f fd∧(∀ (s:Shared) (u:Value),BindsTo s fd ⟨[u],[]⟩ [(y,u)])∧mg x=some (.ref f)
theorem Xu {kV:Value} {y:Str} (X:K.In h) (G:h.Ns mainGlobals mg)
 (hb:∀ (kV doc pm:Value) (an:Option Addr) (cdv ct:Value) (u:Value),bindArgs (PySem.W.fnOf x x (m5 st) (iB st) (bG st) .none kV doc pm an cdv ct) ⟨[u],[]⟩=pure [(y,u)])
 (a:PySem.W.nsIn K mainGlobals x=some (some (.ref f))) (l:K.lookup f=some ⟨oc,od,.func (PySem.W.fnOf x x (m5 st) (iB st) (bG st) .none kV dc pm an cd ct),sl⟩) (c:PySem.W.codeIn K cd x=true) (k:PySem.W.keepIn K (.ref f)=true):Dl K mg x y st :=
 ⟨_,_,⟨⟨oc,od,.none,kV,dc,pm,an,cd,ct,sl,rfl,l,c⟩,k⟩,fun s u=>.of_eq (hb kV dc pm an cd ct u),PySem.W.mg_of X G a⟩
section
variable {P:Program} {w:World} {K:PySem.W.Frag} {mg:Str→Option Value} {base:Heap} {x:Str} {ps N:List Str} {st:Stmt} {k n:Nat} {fs:FS} {fl:List Fl}
theorem FunD.ok (F:FunD K x st f fd) (S:FnScope N ps (bG st)) (len:∀ vs H Q E,sp vs H Q E→vs.length=ps.length)
 (hbody:∀ (cdv:Value) (A:Around) (outer:List Env) (s:Shared) (H:Hp) (vs:List V) (Q:VK) (E:XK),Room k (A.deeper (envOfC x (bG st) s.heap.objs.size f cdv))→sp vs H Q E →
  ∃ t,PSs (Bt CX0 P w K mg base N x (bG st) f cdv A outer s H E).nox (iB st) t∧t { nx:=fun _ H'=>Q .non H',rt:=Q } (L2.start N vs) H):FnOk P w K mg base CX0 (k + 1) f fd ps sp:=by
 obtain ⟨oc,od,dV,kV,doc,pm,an,cdv,ct,osl,rfl,lk,hcd⟩:=F.ex
 refine S5 lk hcd S len fun A outer s H vs Q E hr hsp=>?_
 obtain ⟨t,h,q⟩:=hbody cdv A outer s H vs Q E hr hsp
 exact ⟨t,h.nox,q⟩
theorem K3 (Fn:FunD K x st f fd) (S:FnScope N ps (bG st)) (hp:∀ i,i < ps.length→fl[i]? = some .A) (hN:ps.length ≤ N.length)
 (hbody:∀ (f:Addr) (cdv:Value) (A:Around) (outer:List Env) (s:Shared) (H:Hp) (E:XK),Room k (A.deeper (envOfC x (bG st) s.heap.objs.size f cdv))→DSs (cx P w K mg base N x st f cdv A outer s H E) fl (iB st) fs) :
 FnOk P w K mg base CX0 (k + 1) f fd ps (spD K (fnD ps.length (N.length - ps.length) fs)):=by
 refine Fn.ok S (fun vs H Q E h=>?_) (fun cdv A outer s H vs Q E hr h=>?_)
 ·obtain ⟨ds,d,r,hf,_⟩:=h
  unfold fnD at hf
  by_cases z:ds.length=ps.length
  ·rw [r.2.length];exact z
  ·rw [if_neg z] at hf;cases hf
 ·obtain ⟨ds,d,r,hf,q⟩:=h
  refine ⟨_,hbody f cdv A outer s H E hr,?_⟩
  unfold fnD at hf
  by_cases z:ds.length=ps.length
  ·rw [if_pos z] at hf
   split at hf
   ·next d' e =>
    cases hf
    exact ⟨_,_,_,_,kE ps.length hp z hN r,e,fun v H' s r=>q v H' s r⟩
   ·next δ' e =>
    cases hf
    exact ⟨_,_,_,_,kE ps.length hp z hN r,e,fun ow' σ' H' R'=>q .non H' R'.same0 .non⟩
   ·cases hf
  ·rw [if_neg z] at hf;cases hf
theorem fP (Dd:Dg K mg x st ps) (S:FnScope N ps (bG st)) (hp:∀ i,i < ps.length→fl[i]? = some .A) (hN:ps.length ≤ N.length)
 (hbody:∀ (f:Addr) (cdv:Value) (A:Around) (outer:List Env) (s:Shared) (H:Hp) (E:XK),Room k (A.deeper (envOfC x (bG st) s.heap.objs.size f cdv))→DSs (cx P w K mg base N x st f cdv A outer s H E) fl (iB st) fs) :
 Has P w K mg base (k + 1) x ps (spD K (fnD ps.length (N.length - ps.length) fs)):=by
 obtain ⟨f,fd,Fn,b,m⟩:=Dd.ex
 exact ⟨f,fd,K3 Fn S hp hN hbody,b,Fn.kp,m⟩
end
def K4 (K:PySem.W.Frag):Sp:=fun vs H Q _=>∃ (a:Addr) (ns:List Int),Tb H∧vs=[.ref a]∧SqL K H a (ns.map V.int)∧ns.length ≤ 63∧∀ H',Q (.bl true) H'
theorem oR {ok:Ok}:∀ ns:List Int,RAs K ok pl H (ns.map V.int) (ns.map PyData.int)
 | []=>.nil
 | n :: r=>.cons (.int n) (oR r)
theorem Qo {F:List D→Option D} (hF:∀ ns:List Int,ns.length ≤ 63→F [.list (ns.map .int)]=some (.bool true)) (vs:List V) (H:Hp) (Q:VK) (E:XK) (h:K4 K vs H Q E):spD K F vs H Q E:=by
 obtain ⟨a,ns,tb,rfl,hS,hl,q⟩:=h
 refine ⟨_,_,⟨tb,.cons ?_ .nil⟩,hF ns hl,fun v H' s r=>?_⟩
 ·rcases hS with (h | ⟨o,h⟩) | h
  ·exact .lst h trivial (oR ns)
  ·exact .lsk (.inl ⟨o,h⟩) rfl (oR ns)
  ·exact .lsk (.inr h) rfl (oR ns)
 ·obtain rfl:=r.blE
  exact q H'
end D3
namespace D3
open PySem PySem.Spec PyProof.Rows L2 My
section
variable {prog:Program} {w:World} {A:Around} {E:Value→Shared→Prop} {s:Shared}
end
section
variable {X:Cx} {fl:List Fl} {a:Expr} {f:FE} {pos p p2 pos2:Pos}
end
section
variable {X:Cx} {fl:List Fl} {a b:Expr} {pos p p2 pos2:Pos} {fa:FA}
theorem GJ {f:Nat→V}:∀ (us:List Value) (k:Nat),(∀ j v,us[j]? = some v→RelV (f (k + j)) v)→Vals ((jB k us.length).map f) us
 | [],_,_=>.nil
 | u :: r,k,h=>by
  rw [bf,List.range'_succ,aV]
  refine .cons (h 0 u rfl) (GJ r (k + 1) fun j v hj=>?_)
  have:=h (j + 1) v (by simpa using hj)
  rw [show k + 1 + j=k + (j + 1) by omega]
  exact this
theorem K5 {ok:Ok} (lo:Int):∀ (n k:Nat),RAs K ok pl H ((jB k n).map fun (j:Nat)=>V.int (lo + (j:Int))) ((jB k n).map fun (j:Nat)=>PyData.int (lo + (j:Int)))
 | 0,_=>.nil
 | n + 1,k=>by
  rw [List.range'_succ,aV,aV]
  exact .cons (.int _) (K5 lo n (k + 1))
end
end D3
namespace D3
open PySem PySem.Spec PyProof.Rows L2 My
section
variable {X:Cx}
theorem sW:∀ {ns:List Int} {its:List Value},Vals (ns.map V.int) its→IntsAre its ns
 | [],_,.nil=>.nil
 | n :: r,_,.cons h t=>by
  obtain ⟨k,rfl⟩:=h
  exact .cons _ _ (sW t)
theorem sX {ok:Ok}:∀ {l:List D} {ns:List Int} {ys:List V},dg l=some ns→RAs K ok pl H ys l→ys=ns.map V.int
 | [],_,_,e,.nil=>by cases e;rfl
 | d :: r,ns,_,e,.cons h t=>by
  cases d <;> first | (cases e;done) | skip
  obtain rfl:=h.intE
  cases e2:dg r with
  | none=>rw [dg,e2] at e;cases e
  | some m =>
   rw [dg,e2] at e
   cases e
   rw [sX e2 t]
   rfl
theorem S9:BrC K (fun xs H Q=>∃ (p:Addr) (ns:List Int),xs=[.ref p]∧SqL K H p (ns.map V.int)∧Q (.int ns.sum) H) Xj:=by
 intro H xs ds d Q r e q
 unfold Xj at e
 split at e
 ·next l =>
  cases e2:dg l with
  | none=>rw [e2] at e;cases e
  | some ns =>
   rw [e2] at e
   cases e
   cases r with
   | cons r1 r2 =>
    cases r2
    obtain ⟨a,ys,rfl,hx,hr⟩:=r1.lstE
    obtain rfl:=sX e2 hr
    exact ⟨a,ns,rfl,hx,q _ rfl (.int _)⟩
 ·cases e
theorem yI (hc:X.calm=true):jY X (.builtin "max") (fun xs H Q=>∃ (p:Addr) (i:Int) (r:List Int),xs=[.ref p]∧SqL X.K H p ((i :: r).map V.int)∧Q (.int (mxI i r)) H):=by
 intro pins s σ H xs us Q I r h
 obtain ⟨p,i,r0,rfl,hx,q⟩:=h
 obtain ⟨u,rfl,rx⟩:=vals1 r
 cases rx
 obtain ⟨its,rvs,pl,hz⟩:=I.list hx
 have hi:=sW rvs
 obtain ⟨xs,e⟩:=hi.allInts.items
 have hns:i :: r0=xs.toList.map (·.1):=by rw [← hi.numsOf,← nums_intItems,← e]
 have hsz:0 < xs.size:=by
  have h3:0 < (i :: r0).length:=by simp
  rw [hns,aC,bI] at h3;exact h3
 have hl:s.heap.IsList p (intItems xs):=e ▸ pl.isList
 refine max_intList (I.ok.hd hc) hl hsz fun v h' tk hv hk=>?_
 obtain ⟨t,rfl⟩:=intItems_at hv
 obtain ⟨h1,h2⟩:=argBest_gt (numAt xs) (xs.size - 1)
 have m1:numAt xs (argBest (fun i j=>decide (numAt xs i > numAt xs j)) (xs.size - 1)) ∈ i :: r0:=by
  rw [hns,numAt_eq];exact getD_mem (by rw [aC,bI];omega)
 have m2:∀ a ∈ i :: r0,a ≤ numAt xs (argBest (fun i j=>decide (numAt xs i > numAt xs j)) (xs.size - 1)):=fun a ha=>by
  rw [hns] at ha
  obtain ⟨j,hj,rfl⟩:=mem_getD ha
  rw [aC,bI] at hj
  rw [← numAt_eq];exact h2 j (by omega)
 have sp:=sO r0 i
 have eq:numAt xs (argBest (fun i j=>decide (numAt xs i > numAt xs j)) (xs.size - 1))=mxI i r0:=pq (sp.2 _ m1) (m2 _ sp.1)
 rw [eq]
 exact ⟨.int _,H,I.kept hk,⟨_,rfl⟩,q⟩
theorem K6:BrC K (fun xs H Q=>∃ (p:Addr) (i:Int) (r:List Int),xs=[.ref p]∧SqL K H p ((i :: r).map V.int)∧Q (.int (mxI i r)) H) yC:=by
 intro H xs ds d Q r e q
 unfold yC at e
 split at e
 ·next l =>
  split at e
  ·next i r0 e2 =>
   cases e
   cases r with
   | cons r1 r2 =>
    cases r2
    obtain ⟨a,ys,rfl,hx,hr⟩:=r1.lstE
    obtain rfl:=sX e2 hr
    exact ⟨a,i,r0,rfl,hx,q _ rfl (.int _)⟩
  ·cases e
 ·cases e
theorem yJ:∀ {l m:List Int},l.Perm m→l.Pairwise (· ≤ ·)→m.Pairwise (· ≤ ·)→l=m
 | [],m,p,_,_=>p.nil_eq
 | a :: l,m,p,h1,h2=>by
  cases m with
  | nil=>exact absurd p.length_eq (by simp)
  | cons b m =>
   obtain ⟨a1,a2⟩:=dW.mp h1
   obtain ⟨b1,b2⟩:=dW.mp h2
   have e:a=b:=by
    have x1:a ∈ b :: m:=p.mem_iff.mp aG
    have x2:b ∈ a :: l:=p.mem_iff.mpr aG
    rcases aY.mp x1 with z | z
    ·exact z
    ·rcases aY.mp x2 with y | y
     ·exact y.symm
     ·exact pq (a1 b y) (b1 a z)
   subst e
   rw [yJ (List.Perm.cons_inv p) a2 b2]
theorem nO:∀ {ns:List Int} {its:List Value},IntsAre its ns→Vals (ns.map V.int) its
 | _,_,.nil=>.nil
 | _,_,.cons n t r=>.cons ⟨t,rfl⟩ (nO r)
end
end D3
namespace D3
open PySem PySem.Spec PyProof.Rows L2 My
def gK (n:Nat) (us ws:List α):List α:=if ws.length=n then us++ws else []
structure HasD (P:Program) (w:World) (K:PySem.W.Frag) (mg:Str→Option Value) (base:Heap) (n:Nat) (x:Str) (ps:List Str) (sp:Sp) (dvs:List V) (ks:List Str):Prop where
 ex:∃ (f:Addr) (fd:FuncData) (ds:List Value),FnOk P w K mg base CX0 n f fd ps sp∧Binds K fd ps ds∧Vals dvs ds∧KBinds K fd ps ks (gK ks.length) (gK ks.length)∧PySem.W.keepIn K (.ref f)=true∧mg x=some (.ref f)
structure DgD (K:PySem.W.Frag) (mg:Str→Option Value) (x:Str) (st:Stmt) (ps:List Str) (dvs:List V) (ks:List Str):Prop where
 ex:∃ (f:Addr) (fd:FuncData) (ds:List Value),FunD K x st f fd∧Binds K fd ps ds∧Vals dvs ds∧KBinds K fd ps ks (gK ks.length) (gK ks.length)∧mg x=some (.ref f)
section
variable {P:Program} {w:World} {K:PySem.W.Frag} {mg:Str→Option Value} {base:Heap} {x:Str} {ps N ks:List Str} {st:Stmt} {k n:Nat} {fs:FS} {fl:List Fl} {dvs:List V}
end
section
variable {X:Cx} {fl:List Fl} {e ke:Expr} {es:List Expr} {pos p kpos:Pos} {x kn:Str} {ps:List Str} {n:Nat} {F:List D→Option D} {fa:FA} {fk:FE} {i:Int} {dvs:List V}
theorem UJ:BrC K (fun xs H Q=>(∃ i,xs=[.int i]∧Q (.int i) H)∨∃ k,xs=[.bl k]∧Q (.int (if k then 1 else 0)) H) Ep:=by
 intro H xs ds d Q r e q
 unfold Ep at e
 split at e
 ·cases e
  cases r with
  | cons r1 r2 =>
   cases r2
   obtain rfl:=r1.intE
   exact .inl ⟨_,rfl,q _ rfl (.int _)⟩
 ·cases e
  cases r with
  | cons r1 r2 =>
   cases r2
   obtain rfl:=r1.blE
   exact .inr ⟨_,rfl,q _ rfl (.int _)⟩
 ·cases e
theorem K7 {j pos'} {a:Expr} {f:FE} (h:DE X fl .P a f):DT X fl (.Compare a [.Is] [.Constant .none j pos'] pos) (bU (dUn Iz f)):=PT.imp (J0 (TQ h)) fun σ H Q h=>by
 obtain ⟨G,ow,δ,c,R,hf,q⟩:=h
 obtain ⟨d,e1,e2⟩:=bind1 hf
 obtain ⟨x,e3,e4⟩:=bind1 e1
 cases e4
 cases e2
 refine ⟨G,ow,δ,x,R,e3,fun v H1 s1 r1=>?_⟩
 refine ⟨decide (v = .non),rfl,?_⟩
 rw [KR (RA.same (Same.refl H1) r1)]
 exact q H1 s1
theorem Qq (ha:DB X fl .P [e] fa) (hg:Gl X "int") (hm:X.mg "int" = none)
 (he:starEach [e] X.env=(false,eval e X.env) :: starEach [] X.env:=by rfl) (hpl:(backTo pos (starEach [] X.env)).any (·.1)=false:=by rfl):DE X fl .FC (.Call (.Name "int" p) [e] [] pos) (dCall Ep fa) :=
 PE.imp (mz Ik hg hm boot_int ha (by decide) (by decide) he hpl) fun σ H Q h=>by
 obtain ⟨G,ow,δ,d,R,hf,q⟩:=h
 obtain ⟨ds,e1,e2⟩:=bind1 hf
 exact ⟨G,ow,δ,ds,R,e1,fun vs H' s r'=>UJ H' vs ds d Q r' e2 fun v hv rv=>q v H' s (.inl ⟨hv,rv⟩)⟩
end
end D3
variable {z i1 i2 l1 l2:Addr} {k1 k2:Nat} {ys:Array Value} {ta:L2.TE}
namespace D3
open PySem PySem.Spec PyProof.Rows L2 My
section
variable {X:Cx}
theorem Ca:∀ {bs:List Bool} {its:List Value},Vals (bs.map V.bl) its→its=bs.map Value.bool
 | [],_,.nil=>rfl
 | b :: r,_,.cons h t=>by
  cases h
  rw [Ca t]
  rfl
theorem all_range (bs:List Bool):(aZ bs.length).all (fun i=>bs.getD i false)=bs.all id:=by
 rw [Bool.eq_iff_iff,cB,cB]
 constructor
 ·intro h b hb
  obtain ⟨i,hi,rfl⟩:=qt hb
  have:=h i (aQ.mpr hi)
  rw [aK,aD hi] at this
  exact this
 ·intro h i hi
  have hi:=aQ.mp hi
  rw [aK,aD hi]
  exact h _ (cY hi)
theorem Cd (bs:List Bool):TruthOf prog w A (fun i v=>(bs.map Value.bool).toArray[i]? = some v) (fun i=>bs.getD i false):=by
 intro i v s Q E hv hQ
 have hv':(bs.map Value.bool)[i]? = some v:=by simpa using hv
 rw [aO] at hv'
 cases e:bs[i]? with
 | none=>rw [e] at hv';cases hv'
 | some b =>
  rw [e] at hv'
  cases hv'
  have eb:bs.getD i false=b:=by rw [aK,e];rfl
  have hQ':Q (bs.getD i false) s:=hQ
  rw [eb] at hQ'
  exact wpAny_truthy_bool hQ'
theorem qd (hc:X.calm=true):jY X (.builtin "all") (fun xs H Q=>∃ (p:Addr) (bs:List Bool),xs=[.ref p]∧SqL X.K H p (bs.map V.bl)∧Q (.bl (bs.all id)) H):=by
 intro pins s σ H xs us Q I r h
 obtain ⟨p,bs,rfl,hx,q⟩:=h
 obtain ⟨u,rfl,rx⟩:=vals1 r
 cases rx
 obtain ⟨its,rvs,pl,hz⟩:=I.list hx
 obtain rfl:=Ca rvs
 have hl:s.heap.IsList p (bs.map Value.bool).toArray:=pl.isList
 have hlt:p < s.heap.objs.size:=by obtain ⟨_,e,_⟩:=id hl;exact Heap.lt_size e
 refine call_all_walk (wpAny_pyIter_list hl ?_)
 refine ⟨_,_,_,_,_,_,_,rfl,Walks.list (A:=X.A.in1) (I.ok.hd hc) _ p (aR hlt) (bs.map Value.bool).toArray,⟨⟨_,Heap.get?_push_size _ rfl,rfl,rfl⟩,hl.push _⟩,Cd bs,fun h' tk hk=>?_⟩
 have e:(bs.map Value.bool).toArray.size=bs.length:=by simp
 rw [e,all_range]
 exact ⟨.bl _,H,I.kept (old_kept hk),rfl,q⟩
theorem yK {ok:Ok}:∀ {l:List D} {bs:List Bool} {ys:List V},gA l=some bs→RAs K ok pl H ys l→ys=bs.map V.bl
 | [],_,_,e,.nil=>by cases e;rfl
 | d :: r,bs,_,e,.cons h t=>by
  cases d <;> first | (cases e;done) | skip
  obtain rfl:=h.blE
  cases e2:gA r with
  | none=>rw [gA,e2] at e;cases e
  | some m =>
   rw [gA,e2] at e
   cases e
   rw [yK e2 t]
   rfl
theorem yL:BrC K (fun xs H Q=>∃ (p:Addr) (bs:List Bool),xs=[.ref p]∧SqL K H p (bs.map V.bl)∧Q (.bl (bs.all id)) H) u6:=by
 intro H xs ds d Q r e q
 unfold u6 at e
 split at e
 ·next l =>
  cases e2:gA l with
  | none=>rw [e2] at e;cases e
  | some bs =>
   rw [e2] at e
   cases e
   cases r with
   | cons r1 r2 =>
    cases r2
    obtain ⟨a,ys,rfl,hx,hr⟩:=r1.lstE
    obtain rfl:=yK e2 hr
    exact ⟨a,bs,rfl,hx,q _ rfl (.bl _)⟩
 ·cases e
end
section
variable {X:Cx} {fl:List Fl} {a:Expr} {f:FE} {pos:Pos} {ta:TE}
theorem Qs {j pos'} (ha:PE X a ta):PC X .IsNot a (.Constant (.bool true) j pos') (fun σ H Q=>ta σ H fun x H1=>∃ b,x = .bl b∧Q (.bl (!b)) H1):=by
 intro pins s σ H Q I h
 refine thn (ha pins s σ H _ I h) fun v s1 ⟨x,H1,I1,r1,q1⟩=>?_
 obtain ⟨b,rfl,q⟩:=q1
 cases r1
 refine Constant_bool ?_
 cases b
 ·exact wpAny_pure ⟨.bl true,H1,I1,rfl,q⟩
 ·exact wpAny_pure ⟨.bl false,H1,I1,rfl,q⟩
end
section
variable {X:Cx} {fl:List Fl} {a b c:Expr} {f fa fb fc:FE} {pos:Pos}
theorem v9 {g:D→D→Option D} (ho:OpR X (compareOp op) r) (ho':OpR X (compareOp op') r') (hb:BrO X.K r g) (hb':BrO X.K r' g') (h1:DE X fl .P a fa) (h2:DE X fl .P b fb) (h3:DE X fl .P c fc)
 (hm:lastMarks [op,op'] [b,c]=false:=by with_unfolding_all rfl):DT X fl (.Compare a [op,op'] [b,c] pos) (bU (kh g g' fa fb fc)):=PT.imp (J_ ho ho' h1 h2 h3 hm) fun σ H Q h=>by
 obtain ⟨G,ow,δ,bb,R,hf,q⟩:=h
 obtain ⟨d,hf,hd⟩:=bind1 hf
 have hd':d = .bool bb:=by cases d <;> first | (cases hd;rfl) | (cases hd;done)
 subst hd'
 obtain ⟨x,e1,hf⟩:=bind1 hf
 obtain ⟨y,e2,hf⟩:=bind1 hf
 obtain ⟨z,e3,hf⟩:=bind1 hf
 refine ⟨G,ow,δ,x,R,e1,fun v H1 s1 r1=>⟨G,ow,δ,y,R.grow s1,e2,fun u H2 s2 r2=>?_⟩⟩
 refine hb H2 v u x y z _ (RA.same s2 r1) r2 e3 fun zv hz rz=>?_
 split at hf
 ·obtain rfl:=rz.blE
  obtain ⟨w,e4,e5⟩:=bind1 hf
  refine ⟨true,rfl,xT ⟨G,ow,δ,w,R.grow (s1.trans s2),e4,fun wv H3 s3 r3=>?_⟩⟩
  refine hb' H3 u wv y w _ _ (RA.same s3 r2) r3 e5 fun z hz rz=>?_
  obtain rfl:=rz.blE
  exact ⟨_,rfl,q H3 (s1.trans (s2.trans s3))⟩
 ·obtain rfl:=rz.blE
  cases hf
  exact ⟨false,rfl,xR ⟨_,rfl,q H2 (s1.trans s2)⟩⟩
 ·cases hf
theorem Qt {j pos'} (h:DE X fl .P a f):DT X fl (.Compare a [.IsNot] [.Constant (.bool true) j pos'] pos) (bU (dUn yE f)):=PT.imp (J0 (Qs h)) fun σ H Q h=>by
 obtain ⟨G,ow,δ,bb,R,hf,q⟩:=h
 obtain ⟨d,hf,hd⟩:=bind1 hf
 obtain ⟨x,e1,e2⟩:=bind1 hf
 cases x <;> first | (cases e2;done) | skip
 cases e2
 cases hd
 refine ⟨G,ow,δ,_,R,e1,fun v H1 s1 r1=>?_⟩
 obtain rfl:=RA.blE r1
 exact ⟨_,rfl,_,rfl,q H1 s1⟩
end
def Itz (K:PySem.W.Frag) (a b:Addr):It :=
 ⟨fun i H=>∃ xs ys x y,SqL K H a xs∧SqL K H b ys∧xs[i]? = some x∧ys[i]? = some y,
  fun i H x H'=>∃ p u v,H p=none∧H'=upd H p (.tup [u,v])∧x = .ref p∧(∀ xs,SqL K H a xs→xs[i]? = some u)∧∀ ys,SqL K H b ys→ys[i]? = some v,
  fun i H=>∃ xs ys,SqL K H a xs∧SqL K H b ys∧(xs.length ≤ i∨ys.length ≤ i)⟩
theorem uo {TI TO:Addr} {f0 a b:Value} {x y:Value} {xs:Array Value} (hz:IsZip h z TI TO f0) (hTI:IsPair h TI x y) (hTO:IsPair h TO a b) (h1:h.IsListIter i1 l1 k1) (h2:h.IsListIter i2 l2 k2) (hl1:h.IsList l1 xs) (hl2:h.IsList l2 ys) (nT:TI ≠ TO) (ni:i1 ≠ i2) :
 ZipApart z TI TO i1 i2 l1 l2:=by
 obtain ⟨o1,e1,c1,d1⟩:=h1
 obtain ⟨o2,e2,c2,d2⟩:=h2
 obtain ⟨p1,g1,k1,m1⟩:=hl1
 obtain ⟨p2,g2,k2,m2⟩:=hl2
 have ne:∀ {u v:Addr} {o o':Obj},h.get? u=some o→h.get? v=some o'→o.cls ≠ o'.cls→u ≠ v:=fun e e' n z=>by
  subst z
  rw [e] at e'
  cases e'
  exact n rfl
 exact ⟨ne hTI hz (by simp),ne hTO hz (by simp),ne e1 hz (by rw [c1];simp),ne e2 hz (by rw [c2];simp),nT,ne hTI e1 (by rw [c1];simp),ne hTI e2 (by rw [c2];simp),ne hTO e1 (by rw [c1];simp),ne hTO e2 (by rw [c2];simp),ni,
  ne g1 hz (by rw [k1];simp),ne g1 hTO (by rw [k1];simp),ne g1 e1 (by rw [k1,c1];simp),ne g1 e2 (by rw [k1,c2];simp),ne g2 hz (by rw [k2];simp),ne g2 hTO (by rw [k2];simp),ne g2 e1 (by rw [k2,c1];simp),ne g2 e2 (by rw [k2,c2];simp)⟩
theorem K8 {x1} (a b z TI TO i1 i2:Addr) (nT:TI ≠ TO) (ni:i1 ≠ i2) :
 Turn P w K (.Tuple elts x1 tpos) (Itz K a b) [z,TI,TO,i1,i2] z (fun i h=>IsZip h z TI TO .none∧IsPair h TI (.ref i1) (.ref i2)∧(∃ u v,IsPair h TO u v)∧h.IsListIter i1 a i∧h.IsListIter i2 b i) where
 mem:=by simp
 obj:=fun i h st c hc=>by
  obtain ⟨hz,hTI,⟨u,v,hTO⟩,⟨o1,e1,c1,d1⟩,⟨o2,e2,c2,d2⟩⟩:=st
  simp only [aY,aM,d9,or_false] at hc
  rcases hc with rfl | rfl | rfl | rfl | rfl
  ·exact ⟨_,hz,fun v z=>by cases z⟩
  ·exact ⟨_,hTI,fun v z=>by cases z⟩
  ·exact ⟨_,hTO,fun v z=>by cases z⟩
  ·exact ⟨o1,e1,fun v z=>by rw [d1] at z;cases z⟩
  ·exact ⟨o2,e2,fun v z=>by rw [d2] at z;cases z⟩
 keep:=fun i h h' st k=>by
  obtain ⟨hz,hTI,⟨u,v,hTO⟩,h1,h2⟩:=st
  exact ⟨k _ (by simp) _ hz,k _ (by simp) _ hTI,⟨u,v,k _ (by simp) _ hTO⟩,h1.at fun o e=>k i1 (by simp) o e,h2.at fun o e=>k i2 (by simp) o e⟩
 item:=by
  intro X hP hw hK hc i pins s σ H E I hf st hg
  subst hP hw hK
  obtain ⟨xs,ys,x,y,hqa,hqb,hx,hy⟩:=hg
  obtain ⟨itsa,rva,pa,hza⟩:=I.list hqa
  obtain ⟨itsb,rvb,pb,hzb⟩:=I.list hqb
  obtain ⟨ua,hua,rua⟩:=rva.get hx
  obtain ⟨ub,hub,rub⟩:=rvb.get hy
  obtain ⟨hz,hTI,⟨u,v,hTO⟩,h1,h2⟩:=st
  have D:=uo hz hTI hTO h1 h2 pa.isList pb.isList nT ni
  have lts:∀ c ∈ [z,TI,TO,i1,i2],c < s.heap.objs.size:=fun c hc=>by
   simp only [aY,aM,d9,or_false] at hc
   rcases hc with rfl | rfl | rfl | rfl | rfl
   ·exact Heap.lt_size hz
   ·exact Heap.lt_size hTI
   ·exact Heap.lt_size hTO
   ·obtain ⟨o,e,_⟩:=h1;exact Heap.lt_size e
   ·obtain ⟨o,e,_⟩:=h2;exact Heap.lt_size e
  refine wpAny_pyNext_zip_item D hz hTI hTO h1 h2 pa.isList pb.isList (x:=ua) (y:=ub) (by simpa using hua) (by simpa using hub) fun hh g1 g2 g3 g4 g5 g6 g7=>?_
  refine ⟨_,rfl,wpAny_letOwnedTupleGo_zip g1 fun hh2 e1 e2=>?_⟩
  replace e2:Heap.SameBut z hh hh2:=e2
  have hn:H s.heap.objs.size=none:=I.hok.fresh (aL _)
  have I0:Inv X pins σ (upd H s.heap.objs.size (.tup [x,y])) { s with heap:=s.heap.push { cls:=.type "tuple", data:=.seq #[ua,ub] } } :=
   I.laid (t':=s.toks) (fun b o e=>Heap.get?_push_of_some _ e) (aL _) ⟨show 2 ≤ sizeLine by decide,[ua,ub],.cons rua (.cons rub .nil),⟨_,Heap.get?_push_size _ rfl,rfl,_,rfl⟩⟩
  have ne:∀ c,c ∈ [z,TI,TO,i1,i2]→c ≠ s.heap.objs.size:=fun c hc=>aR (lts c hc)
  have I1:Inv X pins σ (upd H s.heap.objs.size (.tup [x,y])) { s with heap:=hh2,toks:=s.toks }:=by
   refine Inv.turnedL (s:={ s with heap:=s.heap.push { cls:=.type "tuple", data:=.seq #[ua,ub] } }) (ch:=[z,TI,TO,i1,i2]) I0 (fun c o hc e=>?_) fun c hc=>⟨by rw [bB (ne c hc)];exact (hf c hc).1,(hf c hc).2⟩
   have b1:c ≠ z:=fun q=>hc (by simp [q])
   have b2:c ≠ TO:=fun q=>hc (by simp [q])
   have b3:c ≠ i1:=fun q=>hc (by simp [q])
   have b4:c ≠ i2:=fun q=>hc (by simp [q])
   rcases Heap.get?_push_cases e with ⟨e3,e4⟩ | e3
   ·subst e3 e4
    exact (e2.2 _ b1).trans g5
   ·exact (e2.2 _ b1).trans (g7 c o b1 b2 b3 b4 e3)
  refine ⟨.ref s.heap.objs.size,_,I1,rfl,⟨_,x,y,hn,rfl,rfl,fun zs hz'=>by rw [I.list_inj hz' hqa];exact hx,fun zs hz'=>by rw [I.list_inj hz' hqb];exact hy⟩,⟨e1,(e2.2 _ D.TIz).trans (g7 _ _ D.TIz D.TITO D.TIi1 D.TIi2 hTI),⟨_,_,(e2.2 _ D.TOz).trans g2⟩,g3.at fun o e=>(e2.2 _ D.i1z).trans e,g4.at fun o e=>(e2.2 _ D.i2z).trans e⟩,fun c hc=>?_⟩
  rw [bB (ne c hc)]
  exact (hf c hc).1
 done:=by
  intro X hP hw hK hc i pins s σ H E I hf st hg
  subst hP hw hK
  obtain ⟨xs,ys,hqa,hqb,hx⟩:=hg
  obtain ⟨itsa,rva,pa,hza⟩:=I.list hqa
  obtain ⟨itsb,rvb,pb,hzb⟩:=I.list hqb
  obtain ⟨hz,hTI,⟨u,v,hTO⟩,h1,h2⟩:=st
  have D:=uo hz hTI hTO h1 h2 pa.isList pb.isList nT ni
  have la:=rva.length
  have lb:=rvb.length
  refine wpAny_pyNext_zip_end (I.ok.hd hc) D hz hTI hTO h1 h2 pa.isList pb.isList ?_ fun h' eb=>⟨rfl,Inv.turnedL (t':=s.toks) (ch:=[z,TI,TO,i1,i2]) I (fun c o hc e=>eb c o (fun q=>hc (by simp [q])) (fun q=>hc (by simp [q])) (fun q=>hc (by simp [q])) (fun q=>hc (by simp [q])) e) hf⟩
  rcases hx with hx | hx
  ·exact .inl (by simp;omega)
  ·exact .inr (by simp;omega)
 self:=fun _ _ _ _ _ st h=>wpAny_pyIter_zip st.1 h
section
variable {X:Cx} {fl:List Fl} {a b:Expr} {f g:FE} {pos:Pos}
def Zr (K:PySem.W.Frag) (ta tb:TE):TI:=fun σ H R=>ta σ H fun x H1=>tb σ H1 fun y H2=>∃ p q,x = .ref p∧y = .ref q∧(∃ xs,SqL K H2 p xs)∧(∃ ys,SqL K H2 q ys)∧R (Itz K p q) H2
theorem boot_zip:bootBuiltins "zip" = some (.type "zip"):=by decide +kernel
theorem UL {x1} {tb:TE} (hg:Gl X "zip") (hm:X.mg "zip" = none) (ha:PE X a ta) (hb:PE X b tb) (he:starEach [a,b] X.env=(false,eval a X.env) :: starEach [b] X.env:=by rfl) (he2:starEach [b] X.env=(false,eval b X.env) :: starEach [] X.env:=by rfl)
 (hpl:(backTo pos (starEach [b] X.env)).any (·.1)=false:=by rfl):PI X (.Tuple elts x1 tpos) (.Call (.Name "zip" p) [a,b] [] pos) (Zr X.K ta tb):=by
 intro pins s σ H R I h
 refine wpAny_Call_Name_kw (lA I hg hm boot_zip (PyProof.Rows.callWith_type1 (thn ((iz ha (iz hb lB he2) he) pos pins s σ H (fun vs H1=>match vs with | [x,y]=>∃ p q,x = .ref p∧y = .ref q∧(∃ xs,SqL X.K H1 p xs)∧(∃ ys,SqL X.K H1 q ys)∧R (Itz X.K p q) H1 | _=>False) I h) fun us s1 ⟨vs,H1,I1,r1,q1⟩=>?_) he hpl))
 cases r1 with
 | nil=>exact q1.elim
 | cons r rr =>
  cases rr with
  | nil=>exact q1.elim
  | cons r' rr' =>
  cases rr' with
  | cons _ _=>exact q1.elim
  | nil =>
  obtain ⟨l,m,e,e',⟨xs,hq⟩,⟨ys,hq'⟩,q⟩:=q1
  subst e e'
  cases r
  cases r'
  obtain ⟨its,rv,pl,hz⟩:=I1.list hq
  obtain ⟨its',rv',pl',hz'⟩:=I1.list hq'
  refine call_zip_2 pl.isList pl'.isList fun h' g1 g2 g3 g4 g5 g6 hk=>?_
  have I2:Inv X pins σ H1 { s1 with heap:=h' }:=I1.kept (t':=s1.toks) hk
  refine wpAny_pyIter_zip (s:={ s1 with heap:=h' }) g1 ?_
  refine ⟨s1.heap.objs.size + 4,[s1.heap.objs.size + 4,s1.heap.objs.size + 2,s1.heap.objs.size + 3,s1.heap.objs.size,s1.heap.objs.size + 1],_,_,H1,rfl,I2,K8 l m (s1.heap.objs.size + 4) (s1.heap.objs.size + 2) (s1.heap.objs.size + 3) s1.heap.objs.size (s1.heap.objs.size + 1) (aR (d8 _)) (aR (d8 _)),⟨g1,g2,⟨_,_,g3⟩,g4,g5⟩,fun b hb=>?_,q⟩
  have hb':s1.heap.objs.size ≤ b:=by
   simp only [aY,aM,d9,or_false] at hb
   rcases hb with rfl | rfl | rfl | rfl | rfl <;> omega
  exact I1.fpOk hb' (I1.hok.fresh hb')
theorem wg:∀ (l m:List D) (i:Nat),(jR l m)[i]? = (l[i]?).bind fun x=>(m[i]?).map fun y=>PyData.tuple [x,y]
 | [],_,i=>by simp [jR]
 | _ :: _,[],i=>by cases i <;> simp [jR]
 | x :: l,y :: m,0=>by simp [jR]
 | x :: l,y :: m,i + 1=>by simp [jR,wg l m i]
theorem pR:∀ (l m:List D),(jR l m).length=min l.length m.length
 | [],_=>by simp [jR]
 | _ :: _,[]=>by simp [jR]
 | x :: l,y :: m=>by simp [jR,pR l m]
theorem RsB.same (e:Same H H') (h:Rs K G.H0 ow Hb H (.B L) v d):Rs K G.H0 ow Hb H' (.B L) v d:=by
 rcases h with h | ⟨i,hi,a,xs,ds,h1,h2,h3,h4,h5⟩
 ·exact .inl (RA.same e h)
 ·exact .inr ⟨i,hi,a,xs,ds,h1,h2,h3,e _ _ h4,h5.same e⟩
theorem UW {x1} {L1 L2:List Nat} (ha:DE X fl (.B L1) a f) (hb:DE X fl (.B L2) b g) (hg:Gl X "zip") (hm:X.mg "zip" = none) (hL:L=L1++L2:=by rfl)
 (he:starEach [a,b] X.env=(false,eval a X.env) :: starEach [b] X.env:=by rfl) (he2:starEach [b] X.env=(false,eval b X.env) :: starEach [] X.env:=by rfl)
 (hpl:(backTo pos (starEach [b] X.env)).any (·.1)=false:=by rfl):DI X fl L (.Tuple elts x1 tpos) (.Call (.Name "zip" p) [a,b] [] pos) (Qc f g):=PI.imp (UL hg hm ha hb he he2 hpl) fun σ H R' h=>by
 subst hL
 obtain ⟨G,ow,δ,l,R,hf,q⟩:=h
 obtain ⟨d,e1,hf⟩:=bind1 hf
 obtain ⟨d',e2,hf⟩:=bind1 hf
 obtain ⟨l0,rfl⟩:∃ l0,d = .list l0:=by cases d <;> first | exact ⟨_,rfl⟩ | (cases hf;done)
 obtain ⟨m0,rfl⟩:∃ m0,d' = .list m0:=by cases d' <;> first | exact ⟨_,rfl⟩ | (cases hf;done)
 cases hf
 refine ⟨G,ow,δ,_,R,e1,fun v H1 s1 r1=>⟨G,ow,δ,_,R.grow s1,e2,fun v' H2 s2 r2=>?_⟩⟩
 have r1':=RsB.same s2 r1
 obtain ⟨pa,xs,rfl,hx,keepa⟩:=uh ((R.grow s1).grow s2) r1'
 obtain ⟨pb,ys,rfl,hy,keepb⟩:=uh ((R.grow s1).grow s2) r2
 refine ⟨pa,pb,rfl,rfl,⟨xs,hx⟩,⟨ys,hy⟩,q _ _ (s1.trans s2) fun H3 k3 i=>?_⟩
 obtain ⟨a1,a2⟩:=keepa H3 fun b o e z=>k3 b o e fun i w=>bW _ (z i w)
 obtain ⟨b1,b2⟩:=keepb H3 fun b o e z=>k3 b o e fun i w=>bF _ (z i w)
 refine ⟨fun d hd=>?_,fun hl=>⟨xs,ys,a1,b1,?_⟩⟩
 ·rw [wg] at hd
  cases ea:l0[i]? with
  | none=>rw [ea] at hd;cases hd
  | some x0 =>
   cases eb:m0[i]? with
   | none=>rw [ea,eb] at hd;cases hd
   | some y0 =>
    rw [ea,eb] at hd
    cases hd
    obtain ⟨x,hx1,rx⟩:=a2.get ea
    obtain ⟨y,hy1,ry⟩:=b2.get eb
    refine ⟨⟨xs,ys,x,y,a1,b1,hx1,hy1⟩,fun z H4 hyl=>?_⟩
    obtain ⟨p',u,v,hp,rfl,rfl,hu,hv⟩:=hyl
    have eu:some x=some u:=hx1.symm.trans (hu xs a1)
    have ev:some y=some v:=hy1.symm.trans (hv ys b1)
    cases eu
    cases ev
    have gg:=cN hp (.tup [x,y])
    exact ⟨gg,.tup bM (.cons (rx.same gg) (.cons (ry.same gg) .nil))⟩
 ·rw [pR] at hl
  rw [a2.length,b2.length]
  omega
end
end D3
namespace D3
open PySem PySem.Spec PyProof.Rows L2 My
section
variable {X:Cx} {fl:List Fl} {e a b c:Expr} {es rest:List Expr} {k:Kd} {f fa fb fc:FE} {ft gt:FT} {pos:Pos}
theorem Qu:DE X fl .T (.Dict [] [] pos) (dC (.dict [])):=PE.imp Km fun σ H Q h=>by
 obtain ⟨G,ow,δ,d,R,hf,q⟩:=h
 cases hf
 intro p hp
 exact q _ _ (cN hp _) ⟨[p],.dic bM (.inl ⟨rfl,rfl⟩),gB.mpr ⟨d9,.nil⟩,fun x hx=>by rw [aM.mp hx];exact hp⟩
theorem K9 (i:Nat) (hn:isN fl[i]? = true) {x:Str} (hN:X.N[i]? = some x:=by rfl) (hv:Vis X.env.scope x:=by first | exact Or.inl rfl | exact Or.inr (Or.inl rfl) | exact Or.inr (Or.inr rfl)) (hd:(x == ("__debug__" : Str))=false:=by decide)
 (hcd:(x == ("__classdict__" : Str))=false:=by decide):DE X fl .R (.Name x pos) (aF i):=by
 refine PE.imp (oh hN hv hd hcd) fun σ H Q h=>?_
 obtain ⟨G,ow,δ,d,R,hf,q⟩:=h
 obtain ⟨v,h1,h2,_⟩:=R.nr i d hn (m6 hf)
 exact ⟨v,h1,q v H (Same.refl H) (h2.ra fun a ha=>(R.nt i a ha).1)⟩
end
section
variable {K:PySem.W.Frag} {fl:List Fl}
def owN (ow:Ow) (i:Nat) (as:List Addr):Ow:=⟨ow.s,fun j=>if j=i then as else ow.n j⟩
theorem kI:(owN ow i as).n i=as:=if_pos rfl
theorem jA (h:j ≠ i):(owN ow i as).n j=ow.n j:=if_neg h
theorem Rel.setN {σ:St} (R:Rel K fl G ow σ H δ) (s:Same H H') (hfl:fl[i]? = some .N) (hi:i < σ.length) (r:Rs K G.H0 ow H H' .T v d) :
 ∃ ow',Rel K fl G ow' (σ.set i (some v)) H' (δ.set i (some (.d d))):=by
 have R':=R.grow s
 obtain ⟨as,h1,h2,h3⟩:=r
 have no:∀ a,ow i ≠ some a:=fun a z=>by
  obtain ⟨_,hz,_⟩:=R.own i a z
  rw [hfl] at hz
  rcases hz with ⟨z,_⟩ | ⟨z,_⟩ <;> cases z
 have sub:∀ b,okA ow b∧H b ≠ none→okA (owN ow i as) b:=fun b z=>⟨z.1.1,fun j e=>by
  by_cases hj:j=i
  ·subst hj
   rw [kI] at e
   exact z.2 (h3 b e)
  ·rw [jA hj] at e
   exact z.1.2 j e⟩
 have old:∀ {v:V} {d:D},RA K (okA ow) true H v d→RA K (okA (owN ow i as)) true H' v d:=fun r=>(r.track.imp sub (fun z=>z)).same s
 have olds:∀ {v:List V} {d:List D},RAs K (okA ow) true H v d→RAs K (okA (owN ow i as)) true H' v d:=fun r=>(r.track.imp sub (fun z=>z)).same s
 refine ⟨owN ow i as,R'.s0,R'.s1,by rw [cM,cM];exact R.len,fun j a h=>?_,R.inj,R.pin,fun j d' g1 gn g2=>?_,fun j d' g1 gn g2 g3=>?_,fun j a h=>?_,fun j j' a h h'=>?_,fun j j' a h=>?_,fun j h=>?_,fun j d' gn g1=>?_⟩
 ·have hj:j ≠ i:=fun z=>no a (z ▸ h)
  obtain ⟨h0,hf,xs,ds,g1,g2,g3,g4⟩:=R.own j a h
  exact ⟨h0,hf,xs,ds,by rw [bD (Ne.symm hj)];exact g1,s _ _ g2,olds g3,by rw [bD (Ne.symm hj)];exact g4⟩
 ·rcases gD g1 with ⟨rfl,e⟩ | ⟨hj,e⟩
  ·rw [hfl] at gn;cases gn
  ·obtain ⟨v',g3,g4⟩:=R.dat j d' e gn g2
   exact ⟨v',by rw [bD (Ne.symm hj)];exact g3,old g4⟩
 ·rcases gD g1 with ⟨rfl,e⟩ | ⟨hj,e⟩
  ·rw [hfl] at gn;cases gn
  ·exact R.oo j d' e gn g2 g3
 ·by_cases hj:j=i
  ·subst hj
   rw [kI] at h
   exact ⟨R.same0.free (h3 a h),h1.chd a h,.inl ⟨hfl,R.s1.free (h3 a h)⟩⟩
  ·rw [jA hj] at h
   exact R'.nt j a h
 ·by_cases hj:j=i
  ·by_cases hj':j'=i
   ·rw [hj,hj']
   ·subst hj
    rw [kI] at h
    rw [jA hj'] at h'
    exact absurd (h3 a h) (R.nt j' a h').2.1.ne
  ·rw [jA hj] at h
   by_cases hj':j'=i
   ·subst hj'
    rw [kI] at h'
    exact absurd (h3 a h') (R.nt j a h).2.1.ne
   ·rw [jA hj'] at h'
    exact R.nd j j' a h h'
 ·by_cases hj:j=i
  ·subst hj
   rw [kI] at h
   exact fun z=>by
    obtain ⟨_,_,_,_,_,g2,_⟩:=R.own j' a z
    rw [h3 a h] at g2
    cases g2
  ·rw [jA hj] at h
   exact R.ns j j' a h
 ·have hj:j ≠ i:=fun z=>by subst z;rw [hfl] at h;cases h
  rw [jA hj]
  exact R.np j h
 ·rcases gD g1 with ⟨rfl,e⟩ | ⟨hj,e⟩
  ·cases e
   exact ⟨v,by rw [cT hi],by rw [kI];exact h1,by rw [kI];exact h2⟩
  ·obtain ⟨v',g3,g4⟩:=R'.nr j d' gn e
   exact ⟨v',by rw [bD (Ne.symm hj)];exact g3,by rw [jA hj];exact g4⟩
theorem Rel.mutN {σ:St} {u':HO} [cu:Chg u] [cu':Chg u'] {d:D} {v:V} {as:List Addr} (R:Rel K fl G ow σ H δ) (hfl:fl[i]? = some .N) (hi:i < δ.length) (ha:a ∈ ow.n i) (hx:H a=some u) (hv:σ[i]? = some (some v))
 (hr:RT K (upd H a u') v d as) (hs:∀ b ∈ as,b ∈ ow.n i) (hd:as.Nodup):∃ ow',Rel K fl G ow' σ (upd H a u') (δ.set i (some (.d d))):=by
 have na:¬ okA ow a:=fun z=>z.2 i ha
 have hF:G.HF a=none:=by
  rcases (R.nt i a ha).2.2 with ⟨_,z⟩ | z
  ·exact z
  ·rw [hfl] at z;cases z
 have no:∀ a,ow i ≠ some a:=fun a z=>by
  obtain ⟨_,hz,_⟩:=R.own i a z
  rw [hfl] at hz
  rcases hz with ⟨z,_⟩ | ⟨z,_⟩ <;> cases z
 have sub:∀ b,okA ow b→okA (owN ow i as) b:=fun b z=>⟨z.1,fun j e=>by
  by_cases hj:j=i
  ·subst hj
   rw [kI] at e
   exact z.2 j (hs b e)
  ·rw [jA hj] at e
   exact z.2 j e⟩
 have tr:∀ b,Chd (H b)→Chd (upd H a u' b):=fun b z=>by
  by_cases hb:b=a
  ·rw [hb,bM];exact ⟨_,rfl,cu'⟩
  ·rw [bB hb];exact z
 refine ⟨owN ow i as,R.s0,fun b o hb=>?_,by rw [cM];exact R.len,fun j b h=>?_,R.inj,R.pin,fun j d' g1 gn g2=>?_,fun j d' g1 gn g2 g3=>?_,fun j b h=>?_,fun j j' b h h'=>?_,fun j j' b h=>?_,fun j h=>?_,fun j d' gn g1=>?_⟩
 ·rw [bB (fun z=>by subst z;rw [hF] at hb;cases hb)]
  exact R.s1 b o hb
 ·have hj:j ≠ i:=fun z=>no b (z ▸ h)
  obtain ⟨h0,hf,zs,ds,g1,g2,g3,g4⟩:=R.own j b h
  have hb:b ≠ a:=fun z=>R.ns i j a ha (z ▸ h)
  exact ⟨h0,hf,zs,ds,g1,by rw [bB hb];exact g2,(g3.upd hx na).imp sub (fun z=>z),by rw [bD (Ne.symm hj)];exact g4⟩
 ·rcases gD g1 with ⟨rfl,e⟩ | ⟨hj,e⟩
  ·rw [hfl] at gn;cases gn
  ·obtain ⟨v',g3,g4⟩:=R.dat j d' e gn g2
   exact ⟨v',g3,(g4.upd hx na).imp sub (fun z=>z)⟩
 ·rcases gD g1 with ⟨rfl,e⟩ | ⟨hj,e⟩
  ·rw [hfl] at gn;cases gn
  ·exact R.oo j d' e gn g2 g3
 ·by_cases hj:j=i
  ·subst hj
   rw [kI] at h
   obtain ⟨g1,g2,g3⟩:=R.nt j b (hs b h)
   exact ⟨g1,tr b g2,g3⟩
  ·rw [jA hj] at h
   obtain ⟨g1,g2,g3⟩:=R.nt j b h
   exact ⟨g1,tr b g2,g3⟩
 ·have old:∀ j b,b ∈ (owN ow i as).n j→b ∈ ow.n j:=fun j b h=>by
   by_cases hj:j=i
   ·subst hj;rw [kI] at h;exact hs b h
   ·rw [jA hj] at h;exact h
  exact R.nd j j' b (old j b h) (old j' b h')
 ·by_cases hj:j=i
  ·subst hj;rw [kI] at h;exact R.ns j j' b (hs b h)
  ·rw [jA hj] at h;exact R.ns j j' b h
 ·have hj:j ≠ i:=fun z=>by subst z;rw [hfl] at h;cases h
  rw [jA hj]
  exact R.np j h
 ·rcases gD g1 with ⟨rfl,e⟩ | ⟨hj,e⟩
  ·cases e
   exact ⟨v,hv,by rw [kI];exact hr,by rw [kI];exact hd⟩
  ·obtain ⟨v',g3,g4,g5⟩:=R.nr j d' gn e
   exact ⟨v',g3,by rw [jA hj];exact g4.upd hx (fun z=>hj (R.nd j i a z ha)),by rw [jA hj];exact g5⟩
end
section
variable {K:PySem.W.Frag} {H:Hp}
end
section
variable {X:Cx} {fl:List Fl} {e ke:Expr} {f fk:FE} {pos:Pos}
theorem Qw (hfl:fl[i]? = some .N) (hN:X.N.Nodup) (hi:X.N[i]? = some x) (hv:X.env.scope.names.lookup x=some .local∨X.env.scope.names.lookup x=some .cell) (h:DE X fl .T e f)
 (hs:swapsWith e (some (.Name x pos')) pos.line X.env=pure false:=by rfl) (hfn:X.fn x=true∨X.env.scope.names.lookup x=some .local:=by first | exact .inl rfl | exact .inr rfl) :
 DS1 X fl (.Assign [.Name x pos'] e pos) (cj i f):=PS.imp (Ed (i:=i) hN hi hv h hs hfn) fun Dn σ H h=>by
 obtain ⟨G,ow,δ,o,R,hf,q⟩:=h
 unfold cj at hf
 by_cases hl:i < δ.length
 ·rw [if_pos hl] at hf
  obtain ⟨d,e1,e2⟩:=bind1 hf
  cases e2
  refine ⟨G,ow,δ,d,R,e1,fun v H' s r=>?_⟩
  obtain ⟨ow',R'⟩:=R.setN s hfl (vp R hl) r
  exact q ow' _ H' R'
 ·rw [if_neg hl] at hf
  cases hf
end
end D3
variable {fe:D3.FE}
namespace D3
open PySem
def wj:List D→Option D
 | [.int hi]=>if (-(2 ^ 62) ≤ hi∧hi < 2 ^ 62)∧(hi - 0).toNat ≤ 1000000 then some (.list (eX 0 hi)) else none
 | _=>none
theorem Qx {hi:Int} (h:0 ≤ hi) (h':hi ≤ 1000000):wj [.int hi]=some (.list (eX 0 hi)):=by
 show (if (-(2 ^ 62) ≤ hi∧hi < 2 ^ 62)∧(hi - 0).toNat ≤ 1000000 then some (PyData.list (eX 0 hi)) else none)=_
 rw [if_pos ⟨⟨by omega,by omega⟩,by omega⟩]
def iiD:List (D × D)→Option (List (Int × Int))
 | []=>some []
 | (.int i,.int j) :: r=>(iiD r).map ((i,j) :: ·)
 | _=>none
def S_:D→Option (List D)
 | .list l=>some l
 | .tuple l=>some l
 | _=>none
def qSq (x:Option D):Option (List D):=x.bind S_
def Qy (f:FE):FA:=fun δ=>(f δ).bind S_
theorem Xv {f:FE}:Qy f δ=qSq (f δ):=rfl
theorem U0:qSq (some (.list l))=some l:=rfl
theorem U3:qSq (some (.tuple l))=some l:=rfl
def uR:D→Option D
 | .list l=>some (.tuple l)
 | .tuple l=>some (.tuple l)
 | _=>none
theorem zU:uR (.list l)=some (.tuple l):=rfl
def qRL (a:Option D):Option Oc:=match a with
 | some d=>some (.ex "" "" d)
 | none=>none
def sY (fe:FE):FS:=fun δ=>(fe δ).bind fun d=>some (.ex "" "" d)
theorem K_:sY fe δ=qRL (fe δ):=by
 unfold sY qRL
 cases fe δ <;> rfl
theorem Ce:qRL (some d)=some (.ex "" "" d):=rfl
def Qz (o:Option Oc):Option D:=match o with
 | some (.rt d)=>some d
 | some (.ex _ _ d)=>some d
 | some (.nx _)=>some .none
 | _=>none
def fnL (p q:Nat) (b:FS):List D→Option D:=fun ds=>if ds.length=p then Qz (b (ds.map (fun d=>some (.d d))++bA q none)) else none
theorem La {p q:Nat} {b:FS}:fnL p q b ds=if ds.length=p then Qz (b (ds.map (fun d=>some (.d d))++bA q none)) else none:=rfl
theorem Cg {c f:Str}:Qz (some (.ex c f d))=some d:=rfl
end D3
namespace D3
open PySem PySem.Spec PyProof.Rows L2 My
section
variable {X:Cx}
end
section
variable {X:Cx} {fl:List Fl} {e ke:Expr} {f fk:FE} {pos:Pos}
end
section
variable {X:Cx} {fl:List Fl} {a:Expr} {pos p p2 pos2:Pos} {fa:FA}
end
end D3
variable {qs:List (Int × Int)}
namespace D3
open PySem PySem.Spec PyProof.Rows L2 My
section
variable {X:Cx} {pins:List (Addr × Obj)} {σ:L2.St} {H:Hp} {s:Shared}
theorem Lb:∀ {kvs:List (D × D)} {qs:List (Int × Int)},iiD kvs=some qs→dk0 kvs=qs.map fun q=>(.inl q.1,.int q.2)
 | [],_,e=>by cases e;rfl
 | (k,v) :: r,qs,e=>by
  unfold iiD at e
  split at e
  ·next h=>cases h
  ·next i j r' h =>
   cases h
   cases e3:iiD r with
   | none=>rw [e3] at e;cases e
   | some q2 =>
    rw [e3] at e
    cases e
    rw [dk0,Lb e3]
    rfl
  ·cases e
theorem Ld:∀ {kvs:List (D × D)} {qs:List (Int × Int)},iiD kvs=some qs→xU kvs=true
 | [],_,_=>rfl
 | (a,b) :: r,qs,h=>by
  unfold iiD at h
  split at h
  ·next e=>cases e
  ·next e =>
   cases e
   cases e3:iiD r with
   | none=>rw [e3] at h;cases h
   | some S=>exact (show xU r=true from Ld e3)
  ·cases h
theorem U4 (h:iiD kvs=some qs):dh0 kvs = .dK (dk0 kvs):=by
 cases kvs with
 | nil=>rfl
 | cons q r =>
  obtain ⟨k,v⟩:=q
  unfold dh0
  cases k with
  | int i=>rfl
  | _=>unfold iiD at h;cases h
end
section
variable {X:Cx} {K:PySem.W.Frag}
end
section
variable {X:Cx} {fl:List Fl} {es:List Expr} {pos:Pos}
end
section
variable {X:Cx} {fl:List Fl} {e:Expr} {f:FE}
theorem Xw {l:Expr} {t1 t2:TI} (h1:PI X tg l t1) (h2:PI X tg l t2):PI X tg l (fun σ H R=>t1 σ H R∨t2 σ H R):=fun pins s σ H R I h=>by
 rcases h with h | h
 ·exact h1 pins s σ H R I h
 ·exact h2 pins s σ H R I h
theorem Le {σ:St} (R:Rel K fl G ow σ H δ) (r:Rs K G.H0 ow Hb H (.B L) v (.tuple l)):∃ a xs,v = .ref a∧SqT K H a xs ∧
 ∀ H2:Hp,(∀ b o,H b=some o→(∀ i,ow i=some b→i ∈ L)→(∀ i,b ∉ ow.n i)→H2 b=some o)→SqT K H2 a xs∧RAs K (fun b=>okA ow b∧H b ≠ none) true H2 xs l:=by
 rcases r with r | ⟨i,hi,a,xs,ds,ho,rfl,e,hx,hr⟩
 ·cases r with
  | tup e q =>
   refine ⟨_,_,rfl,e.sq,fun H2 hk=>⟨?_,RAs.keep hk R.ownL R.ownC (fun b z=>z.1) q.track⟩⟩
   exact .inl (.inl (hk _ _ e (nm R.ownL e (by intro xs z;cases z)) (nm2 R.ownC e Chg.tup)))
 ·cases e
theorem U5 (h:DE X fl (.B L) e f):DI X fl L tg e (Qy f):=PI.imp (Xw (Gk h) (Ei h)) fun σ H R' h=>by
 obtain ⟨G,ow,δ,l,R,hf,q⟩:=h
 obtain ⟨d,e1,e2⟩:=bind1 hf
 cases d with
 | list l' =>
  cases e2
  refine .inl ⟨G,ow,δ,_,R,e1,fun v H1 s r=>?_⟩
  obtain ⟨a,xs,rfl,hx,keep⟩:=uh (R.grow s) r
  refine ⟨a,rfl,⟨xs,hx⟩,q _ _ s fun H2 k2 i=>?_⟩
  obtain ⟨k3,k4⟩:=keep H2 k2
  refine ⟨fun d hd=>?_,fun hl=>⟨xs,k3,by rw [k4.length];exact hl⟩⟩
  obtain ⟨y,hy,ry⟩:=k4.get hd
  refine ⟨⟨xs,y,k3,hy⟩,fun x H3 hyl=>?_⟩
  obtain ⟨e,hz⟩:=hyl
  subst e
  have:some y=some x:=hy.symm.trans (hz xs k3)
  cases this
  exact ⟨Same.refl _,ry⟩
 | tuple l' =>
  cases e2
  refine .inr ⟨G,ow,δ,_,R,e1,fun v H1 s r=>?_⟩
  obtain ⟨a,xs,rfl,hx,keep⟩:=Le (R.grow s) r
  refine ⟨a,rfl,⟨xs,hx⟩,q _ _ s fun H2 k2 i=>?_⟩
  obtain ⟨k3,k4⟩:=keep H2 k2
  refine ⟨fun d hd=>?_,fun hl=>⟨xs,k3,by rw [k4.length];exact hl⟩⟩
  obtain ⟨y,hy,ry⟩:=k4.get hd
  refine ⟨⟨xs,y,k3,hy⟩,fun x H3 hyl=>?_⟩
  obtain ⟨e,hz⟩:=hyl
  subst e
  have:some y=some x:=hy.symm.trans (hz xs k3)
  cases this
  exact ⟨Same.refl _,ry⟩
 | none=>cases e2
 | bool _=>cases e2
 | int _=>cases e2
 | str _=>cases e2
 | dict _=>cases e2
end
section
variable {X:Cx} {fl:List Fl} {a:Expr} {f:FE} {pos p:Pos}
theorem GK (h:DE X fl (.B L) a f) (hg:Gl X "tuple") (hm:X.mg "tuple" = none)
 (he:starEach [a] X.env=(false,eval a X.env) :: starEach [] X.env:=by exact lR rfl) (hpl:(backTo pos (starEach [] X.env)).any (·.1)=false:=by rfl):DE X fl .A (.Call (.Name "tuple" p) [a] [] pos) (dUn uR f) :=
 PE.imp (mz qM hg hm boot_tuple (iz h lB he) (by decide) (by decide) he hpl) fun σ H Q h=>by
 obtain ⟨G,ow,δ,d,R,hf,q⟩:=h
 obtain ⟨x,e1,e2⟩:=bind1 hf
 refine ⟨G,ow,δ,x,R,e1,fun v H1 s1 r1=>?_⟩
 unfold uR at e2
 split at e2
 ·cases e2
  obtain ⟨p,xs,rfl,hx,hr⟩:=v8 r1
  exact ⟨p,xs,rfl,.inl ⟨hx,fun pn hp=>q _ _ (s1.trans (cN hp _)) (.tup bM (hr.same (cN hp _)))⟩⟩
 ·cases e2
  rcases r1 with r1 | ⟨i,hi,a,xs,ds,ho,rfl,e,hx,hr⟩
  ·obtain ⟨p,xs,rfl,hx,hr⟩:=r1.tupE0
   exact ⟨p,xs,rfl,.inr ⟨hx.sq,q _ _ s1 (.tup hx hr)⟩⟩
  ·cases e
 ·cases e2
theorem QB (h:DE X fl .C a f) (hg:Gl X "tuple") (hm:X.mg "tuple" = none)
 (he:starEach [a] X.env=(false,eval a X.env) :: starEach [] X.env:=by exact lR rfl) (hpl:(backTo pos (starEach [] X.env)).any (·.1)=false:=by rfl):DE X fl .C (.Call (.Name "tuple" p) [a] [] pos) (dUn uR f) :=
 PE.imp (mz qM hg hm boot_tuple (iz h lB he) (by decide) (by decide) he hpl) fun σ H Q h=>by
 obtain ⟨G,ow,δ,d,R,hf,q⟩:=h
 obtain ⟨x,e1,e2⟩:=bind1 hf
 refine ⟨G,ow,δ,x,R,e1,fun v H1 s1 r1=>?_⟩
 unfold uR at e2
 split at e2
 ·cases e2
  obtain ⟨p,xs,rfl,hx,hr⟩:=RA.lstE r1
  exact ⟨p,xs,rfl,.inl ⟨hx,fun pn hp=>q _ _ (s1.trans (cN hp _)) (.tup bM (hr.same (cN hp _)))⟩⟩
 ·cases e2
  obtain ⟨p,xs,rfl,hx,hr⟩:=RA.tupE0 r1
  exact ⟨p,xs,rfl,.inr ⟨hx.sq,q _ _ s1 (.tup hx hr)⟩⟩
 ·cases e2
end
section
variable {X:Cx} {fl:List Fl} {a b:Expr} {fa fb:FE} {pos:Pos}
end
end D3
namespace D3
open PySem PySem.Spec PyProof.Rows L2 My
section
variable {X:Cx} {K:PySem.W.Frag}
end
def Itv (K:PySem.W.Frag) (a:Addr) (n:Nat):It :=
 ⟨fun i H=>i < n∧∃ xs x,SqL K H a xs∧xs.length=n∧xs[n - 1 - i]? = some x,fun i H x H'=>H'=H∧∀ xs,SqL K H a xs→xs[n - 1 - i]? = some x,fun i _=>n ≤ i⟩
theorem Lf (a it:Addr) (n:Nat):Turn P w K tg (Itv K a n) [it] it (fun i h=>i ≤ n∧h.IsRevIter it a ((n:Int) - 1 - (i:Int))) where
 mem:=by simp
 obj:=fun i h st b hb=>by
  have e:b=it:=by simpa using hb
  subst e
  obtain ⟨_,o,e,c,d⟩:=st
  exact ⟨o,e,fun v z=>by rw [d] at z;cases z⟩
 keep:=fun i h h' st k=>⟨st.1,st.2.at fun o e=>k it (by simp) o e⟩
 item:=by
  intro X hP hw hK hc i pins s σ H E I hf st hg
  subst hP hw hK
  obtain ⟨hi,xs,x,hq,hn,hx⟩:=hg
  obtain ⟨its,rv,p,hz⟩:=I.list hq
  obtain ⟨u,hu,ru⟩:=rv.get hx
  obtain ⟨f0,f1,f2,f3,f4,f5⟩:=hf it (by simp)
  have st2:=st.2
  rw [show (n:Int) - 1 - (i:Int)=((n - 1 - i:Nat):Int) by omega] at st2
  refine wpAny_pyNext_rev_item st2 p.isList (x:=u) (by simpa using hu) fun h' st' sb=>?_
  rw [show ((n - 1 - i:Nat):Int) - 1=(n:Int) - 1 - ((i + 1:Nat):Int) by omega] at st'
  have I1:Inv X pins σ H { s with heap:=h' }:=I.turned (t':=s.toks) (fun b o hb e=>(sb.2 b hb).trans e) f0 f1 f3 f4 f5
  obtain ⟨o,e,c,d⟩:=id st'
  exact ⟨u,rfl,yh (s:={ s with heap:=h' }) e c d (by decide) ⟨x,H,I1,ru,⟨rfl,fun ys hy=>by rw [I.list_inj hy hq];exact hx⟩,⟨by omega,st'⟩,fun b hb=>(hf b hb).1⟩⟩
 done:=by
  intro X hP hw hK hc i pins s σ H E I hf st hg
  subst hP hw hK
  obtain ⟨f0,f1,f2,f3,f4,f5⟩:=hf it (by simp)
  have hg:n ≤ i:=hg
  have st2:=st.2
  have st1:=st.1
  rw [show (n:Int) - 1 - (i:Int) = -1 by omega] at st2
  exact wpAny_pyNext_rev_end (I.ok.hd hc) st2 fun h' eb=>⟨rfl,I.turned (t':=s.toks) (fun b o hb e=>eb b o hb e) f0 f1 f3 f4 f5⟩
 self:=fun _ _ _ _ _ st h=>wpAny_pyIter_revIter st.2 h
section
variable {X:Cx} {fl:List Fl} {a:Expr} {f:FE} {pos:Pos}
def Zt (K:PySem.W.Frag) (ta:TE):TI:=fun σ H R=>ta σ H fun x H1=>∃ p xs,x = .ref p∧SqL K H1 p xs∧R (Itv K p xs.length) H1
theorem U6 (hg:Gl X "reversed") (hm:X.mg "reversed" = none) (ha:PE X a ta) (he:starEach [a] X.env=(false,eval a X.env) :: starEach [] X.env:=by rfl)
 (hpl:(backTo pos (starEach [] X.env)).any (·.1)=false:=by rfl):PI X tg (.Call (.Name "reversed" p) [a] [] pos) (Zt X.K ta):=by
 intro pins s σ H R I h
 refine wpAny_Call_Name_kw (lA I hg hm boot_reversed (PyProof.Rows.callWith_type1 (thn ((iz ha lB he) pos pins s σ H (fun vs H1=>match vs with | [x]=>∃ p xs,x = .ref p∧SqL X.K H1 p xs∧R (Itv X.K p xs.length) H1 | _=>False) I h) fun us s1 ⟨vs,H1,I1,r1,q1⟩=>?_) he hpl))
 cases r1 with
 | nil=>exact q1.elim
 | cons r rr =>
  cases rr with
  | cons _ _=>exact q1.elim
  | nil =>
  obtain ⟨l,xs,e,hq,q⟩:=q1
  subst e
  cases r
  obtain ⟨its,rv,pl,hz⟩:=I1.list hq
  have hl:=rv.length
  refine call_reversed_list pl.isList ?_
  have I2:Inv X pins σ H1 { s1 with heap:=s1.heap.push (revObj l ((its.toArray.size:Int) - 1)) }:=I1.kept (t':=s1.toks) fun b o e=>Heap.get?_push_of_some _ e
  have it0:(s1.heap.push (revObj l ((its.toArray.size:Int) - 1))).IsRevIter s1.heap.objs.size l ((its.toArray.size:Int) - 1):=⟨_,Heap.get?_push_size _ rfl,rfl,rfl⟩
  refine wpAny_pyIter_revIter (s:={ s1 with heap:=s1.heap.push (revObj l ((its.toArray.size:Int) - 1)) }) it0 ?_
  have it1:=it0
  rw [show (its.toArray.size:Int) - 1=(xs.length:Int) - 1 - ((0:Nat):Int) by rw [aU];omega] at it1
  refine ⟨s1.heap.objs.size,[s1.heap.objs.size],_,_,H1,rfl,I2,Lf l s1.heap.objs.size xs.length,⟨cZ _,by rw [show (xs.length:Int) - 1 - ((0:Nat):Int)=(its.toArray.size:Int) - 1 by rw [aU];omega];exact it0⟩,fun b hb=>?_,q⟩
  have e:b=s1.heap.objs.size:=by simpa using hb
  subst e
  exact I1.fpOk (aL _) (I1.hok.fresh (aL _))
theorem U7 (h:DE X fl (.B L) a f) (hg:Gl X "reversed") (hm:X.mg "reversed" = none) (he:starEach [a] X.env=(false,eval a X.env) :: starEach [] X.env:=by rfl)
 (hpl:(backTo pos (starEach [] X.env)).any (·.1)=false:=by rfl):DI X fl L tg (.Call (.Name "reversed" p) [a] [] pos) (Qd f):=PI.imp (U6 hg hm h he hpl) fun σ H R' h=>by
 obtain ⟨G,ow,δ,l,R,hf,q⟩:=h
 obtain ⟨d,e1,e2⟩:=bind1 hf
 obtain ⟨l0,rfl⟩:∃ l0,d = .list l0:=by cases d <;> first | exact ⟨_,rfl⟩ | (cases e2;done)
 cases e2
 refine ⟨G,ow,δ,_,R,e1,fun v H1 s r=>?_⟩
 obtain ⟨a,xs,rfl,hx,keep⟩:=uh (R.grow s) r
 refine ⟨a,xs,rfl,hx,q _ _ s fun H2 k2 i=>?_⟩
 obtain ⟨k3,k4⟩:=keep H2 k2
 have kl:=k4.length
 refine ⟨fun d hd=>?_,fun hl=>by rw [qu] at hl;show xs.length ≤ i;omega⟩
 have hi:i < l0.length:=by
  have:=(eU.mp hd).1
  rwa [qu] at this
 rw [List.getElem?_reverse hi] at hd
 obtain ⟨y,hy,ry⟩:=k4.get hd
 rw [← kl] at hy
 refine ⟨⟨by omega,xs,y,k3,rfl,hy⟩,fun x H3 hyl=>?_⟩
 obtain ⟨e,hz⟩:=hyl
 subst e
 have:some y=some x:=hy.symm.trans (hz xs k3)
 cases this
 exact ⟨Same.refl _,ry⟩
end
def spL (K:PySem.W.Frag) (F:List D→Option D):Sp:=fun vs H Q _=>∃ ds d,(Tb H∧RAs K ok1 true H vs ds)∧F ds=some d∧∀ v H',Same H H'→RA K ok1 true H' v d→Q v H'
section
variable {X:Cx} {fl:List Fl} {e:Expr} {es:List Expr} {f:FE} {pos p:Pos} {x:Str} {n:Nat} {F:List D→Option D} {fa:FA}
theorem vq (h:DE X fl .P e f):DS1 X fl (.Return (some e) pos) (sY f):=PS.imp (J3 h) fun Dn σ H h=>by
 obtain ⟨G,ow,δ,o,R,hf,q⟩:=h
 obtain ⟨d,e1,e2⟩:=bind1 hf
 cases e2
 exact ⟨G,ow,δ,d,R,e1,fun v H' s r=>q v H' (R.same0.trans s) r⟩
theorem Xx (hA:(fl.all fun x=>decide (x = .A))=true) (h:DE X fl .P e f):DE X fl .A e f:=m7 h fun Hb H G ow σ δ v d R r=>by
 have hA':∀ (i:Nat) (c:Fl),fl[i]? = some c→c=Fl.A:=fun i c e=>by simpa using cB.mp hA c (fj e)
 have ok:∀ a,okA ow a:=fun a=>by
  constructor
  ·intro i z
   rcases (R.own i a z).2.1 with ⟨w,_⟩ | ⟨w,_⟩
   ·cases hA' i _ w
   ·cases hA' i _ w
  ·intro i z
   rcases (R.nt i a z).2.2 with ⟨w,_⟩ | w
   ·cases hA' i _ w
   ·cases hA' i _ w
 exact RA.imp (fun a _=>ok a) (fun z=>z) r
theorem Ci (h:Has X.prog X.w X.K X.mg X.base n x ps (spL X.K F)) (hr:Room n X.A) (ha:DB X fl .P (e :: es) fa) (hg:Gl X x:=by rfl) (hdb:(x == ("__debug__" : Str))=false:=by decide)
 (he:starEach (e :: es) X.env=(false,eval e X.env) :: starEach es X.env:=by exact lR rfl) (hpl:(backTo pos (starEach es X.env)).any (·.1)=false:=by exact KH rfl) :
 DE X fl .P (.Call (.Name x p) (e :: es) [] pos) (dCall F fa):=PE.imp (BJ h hr ha hg hdb he hpl) fun σ H Q h=>by
 obtain ⟨G,ow,δ,d,R,hf,q⟩:=h
 obtain ⟨ds,e1,e2⟩:=bind1 hf
 refine ⟨G,ow,δ,ds,R,e1,fun vs H' s r=>?_⟩
 show spL X.K F (vs++[]) H' Q E0
 rw [cH]
 exact ⟨ds,d,⟨R.tb.same s,r⟩,e2,fun v H2 s2 r2=>q v H2 (s.trans s2) r2⟩
end
section
variable {P:Program} {w:World} {K:PySem.W.Frag} {mg:Str→Option Value} {base:Heap} {x:Str} {ps N:List Str} {st:Stmt} {k n:Nat} {fs:FS} {fl:List Fl}
theorem QC (Fn:FunD K x st f fd) (S:FnScope N ps (bG st)) (hp:∀ i,i < ps.length→fl[i]? = some .A) (hN:ps.length ≤ N.length)
 (hbody:∀ (f:Addr) (cdv:Value) (A:Around) (outer:List Env) (s:Shared) (H:Hp) (E:XK),Room k (A.deeper (envOfC x (bG st) s.heap.objs.size f cdv))→DSs (cx P w K mg base N x st f cdv A outer s H E) fl (iB st) fs) :
 FnOk P w K mg base CX0 (k + 1) f fd ps (spL K (fnL ps.length (N.length - ps.length) fs)):=by
 refine Fn.ok S (fun vs H Q E h=>?_) (fun cdv A outer s H vs Q E hr h=>?_)
 ·obtain ⟨ds,d,r,hf,_⟩:=h
  unfold fnL at hf
  by_cases z:ds.length=ps.length
  ·rw [r.2.length];exact z
  ·rw [if_neg z] at hf;cases hf
 ·obtain ⟨ds,d,r,hf,q⟩:=h
  refine ⟨_,hbody f cdv A outer s H E hr,?_⟩
  unfold fnL Qz at hf
  by_cases z:ds.length=ps.length
  ·rw [if_pos z] at hf
   split at hf
   ·next d' e =>
    cases hf
    exact ⟨_,_,_,_,kE ps.length hp z hN r,e,fun v H' s r=>q v H' s (RA.imp (fun _ _=>trivial) (fun _=>rfl) r)⟩
   ·next c' f' d' e =>
    cases hf
    exact ⟨_,_,_,_,kE ps.length hp z hN r,e,fun v H' s r=>q v H' s r⟩
   ·next δ' e =>
    cases hf
    exact ⟨_,_,_,_,kE ps.length hp z hN r,e,fun ow' σ' H' R'=>q .non H' R'.same0 .non⟩
   ·cases hf
  ·rw [if_neg z] at hf;cases hf
theorem Lg (Dd:Dg K mg x st ps) (S:FnScope N ps (bG st)) (hp:∀ i,i < ps.length→fl[i]? = some .A) (hN:ps.length ≤ N.length)
 (hbody:∀ (f:Addr) (cdv:Value) (A:Around) (outer:List Env) (s:Shared) (H:Hp) (E:XK),Room k (A.deeper (envOfC x (bG st) s.heap.objs.size f cdv))→DSs (cx P w K mg base N x st f cdv A outer s H E) fl (iB st) fs) :
 Has P w K mg base (k + 1) x ps (spL K (fnL ps.length (N.length - ps.length) fs)):=by
 obtain ⟨f,fd,Fn,b,m⟩:=Dd.ex
 exact ⟨f,fd,QC Fn S hp hN hbody,b,Fn.kp,m⟩
end
section
variable {P:Program} {w:World} {K:PySem.W.Frag} {mg:Str→Option Value} {base:Heap} {x:Str} {ps:List Str} {st:Stmt} {n:Nat}
end
end D3
namespace D3
open PySem PySem.Spec PyProof.Rows L2 My
section
variable {K:PySem.W.Frag} {fl flA:List Fl} {G:Gh} {ow:Ow} {σ σ':St} {H H1:Hp} {δ:DS} {T:List Nat}
end
section
variable {X:Cx} {fl flA:List Fl} {e:Expr} {es:List Expr} {f:FE} {fa:FA} {pos:Pos}
end
section
variable {X:Cx} {fl:List Fl} {pos:Pos}
end
end D3
namespace XS
open PySem PySem.W PyProof.Rows
def dB {α:Type} (lt:Nat→Nat→Bool):KasT α→α
 | .ret a=>a
 | .ask i j k=>dB lt (k (lt i j))
def mY {α:Type} (n:Nat) (R:α→Prop):KasT α→Prop
 | .ret a=>R a
 | .ask i j k=>i < n∧j < n∧∀ b,mY n R (k b)
section
variable {α β:Type} {n:Nat} {R:α→Prop} {R':β→Prop} {lt:Nat→Nat→Bool}
theorem mC (f:α→KasT β):∀ t:KasT α,dB lt (t.bind f)=dB lt (f (dB lt t))
 | .ret _=>rfl
 | .ask _ _ k=>mC f (k _)
theorem mD {f:α→KasT β} (hf:∀ a,R a→mY n R' (f a)):∀ t:KasT α,mY n R t→mY n R' (t.bind f)
 | .ret a,h=>hf a h
 | .ask _ _ k,h=>⟨h.1,h.2.1,fun b=>mD hf (k b) (h.2.2 b)⟩
theorem Cj:∀ t:KasT α,mY n R t→R (dB lt t)
 | .ret _,h=>h
 | .ask _ _ k,h=>Cj (k _) (h.2.2 _)
theorem zV {cmp:Nat→Nat→(Bool→Shared→Prop)→Shared→Prop} {G:α→Shared→Prop} (hc:∀ i j C,i < n→j < n→C (lt i j) s→cmp i j C s) :
 ∀ t:KasT α,mY n R t→G (dB lt t) s→t.kasWp cmp G s
 | .ret _,_,q=>q
 | .ask _ _ k,h,q=>hc _ _ _ h.1 h.2.1 (zV hc (k _) (h.2.2 _) q)
end
def good (n:Nat) (p:Array Nat):Prop:=p.Perm (aZ n).toArray
section
variable {n:Nat} {p:Array Nat}
theorem good.mem (g:good n p) {x:Nat} (h:x ∈ p.toList):x < n:=by
 have:x ∈ (aZ n):=by
  have:=(mH.mp g).mem_iff.mp h
  simpa using this
 exact aQ.mp this
theorem good.get (g:good n p) (h0:0 < n) (i:Nat):p.getD i 0 < n:=by
 unfold Array.getD
 split
 ·exact g.mem (by simp)
 ·exact h0
theorem good.rev (g:good n p) (i j:Nat):good n (kas_rev p i j):=(mirror_perm _ _ _ _).trans g
theorem good.bub (g:good n p) (i j:Nat):good n (bubble p i j):=(bubble_perm _ _ _).trans g
theorem wu (h0:0 < n) (g:good n p):∀ f a,mY n (fun _=>True) (kas_asc p f a)
 | 0,a=>trivial
 | f + 1,a=>⟨g.get h0 _,g.get h0 _,fun b=>by
  cases b
  ·exact wu h0 g f (a + 1)
  ·trivial⟩
theorem qe (h0:0 < n):∀ f (p:Array Nat) a q,good n p→mY n (fun r=>good n r.1) (kas_desc f p a q)
 | 0,p,a,q,g=>g
 | f + 1,p,a,q,g=>by
  refine ⟨g.get h0 _,g.get h0 _,fun b=>?_⟩
  cases b
  ·refine ⟨g.get h0 _,g.get h0 _,fun c=>?_⟩
   cases c
   ·exact qe h0 f p (a + 1) (q + 1) g
   ·exact g
  ·show mY n _ (if q > 0 then _ else _)
   split
   ·exact qe h0 f _ _ _ (g.rev _ _)
   ·exact qe h0 f _ _ _ g
theorem wA (h0:0 < n) (g:good n p) (a m:Nat):mY n (fun r=>good n r.2) (kas_tail3 a m p):=by
 unfold kas_tail3
 refine mD (R:=fun _=>True) (fun c _=>?_) _ (wu h0 (g.rev _ _) _ _)
 show good n (kas_rev p 0 a)
 exact g.rev _ _
theorem yM (h0:0 < n) (g:good n p) (a m:Nat):mY n (fun r=>good n r.2) (kas_descPart a m p) :=
 mD (R:=fun r=>good n r.1) (fun r h=>by
  split
  ·exact wA h0 (good.rev h _ _) _ _
  ·exact wA h0 h _ _) _ (qe h0 _ _ _ _ g)
theorem Fb (h0:0 < n) (g:good n p) (m:Nat):mY n (fun r=>good n r.2) (kas_count m p) :=
 mD (R:=fun _=>True) (fun a _=>by
  split
  ·exact g
  ·split
   ·refine ⟨g.get h0 _,g.get h0 _,fun b=>?_⟩
    cases b
    ·exact yM h0 (g.rev _ _) _ _
    ·exact g
   ·exact yM h0 g _ _) _ (wu h0 g _ _)
theorem rN (h0:0 < n) (g:good n p) (k:Nat):∀ f l r,mY n (fun _=>True) (kas_place p k f l r)
 | 0,l,r=>trivial
 | f + 1,l,r=>by
  unfold kas_place
  split
  ·trivial
  ·refine ⟨g.get h0 _,g.get h0 _,fun b=>?_⟩
   cases b
   ·exact rN h0 g k f _ _
   ·exact rN h0 g k f _ _
theorem Ck (h0:0 < n):∀ f (p:Array Nat) k,good n p→mY n (good n) (kas_bin f p k)
 | 0,p,k,g=>g
 | f + 1,p,k,g=>mD (R:=fun _=>True) (fun l _=>Ck h0 f _ _ (g.bub _ _)) _ (rN h0 g k _ _ _)
theorem uq (h0:0 < n):mY n (good n) (kas_sort n) :=
 mD (R:=fun r=>good n r.2) (fun r h=>by
  split
  ·exact Ck h0 _ _ _ h
  ·exact h) _ (Fb h0 (Array.Perm.refl _) n)
end
def qx (n:Nat) (lt:Nat→Nat→Bool):List Nat:=(dB lt (kas_sort n)).toList
theorem jw (h0:0 < n) (lt:Nat→Nat→Bool):(qx n lt).Perm (aZ n):=by
 have:good n (dB lt (kas_sort n)):=Cj _ (uq h0)
 have:=mH.mp this
 simpa [qx] using this
open D3
def Lh:List D→Option (List (Int × Int))
 | []=>some []
 | .tuple [.int i,.int j] :: r=>(Lh r).map ((i,j) :: ·)
 | _=>none
def Li:List D→Option D
 | [.list l]=>(Lh l).bind fun qs=>if l.length ≤ 1000∧(qs.map (·.1)).Nodup then some (.dict (qs.map fun q=>(.int q.1,.int q.2))) else none
 | _=>none
end XS
variable {h':Heap}
namespace XS
open PySem PySem.Spec PySem.W PyProof.Rows L2 My D3
theorem yN (x:fu P w H h a o):∃ u,h.get? a=some u:=by
 cases o with
 | lst xs=>obtain ⟨_,_,_,_,e⟩:=x;exact ⟨_,e⟩
 | tup xs=>obtain ⟨_,_,_,u,e,_⟩:=x;exact ⟨_,e⟩
 | dK kvs=>obtain ⟨_,_,_,_,u,_,_,e,_⟩:=x;exact ⟨_,e⟩
 | dT kvs=>obtain ⟨_,_,_,_,u,_,_,e,_⟩:=x;exact ⟨_,e⟩
 | set S n=>obtain ⟨u,_,_,_,e,_⟩:=x;exact ⟨_,e⟩
 | ins C dx fs=>obtain ⟨_,_,_,e,_⟩:=x;exact ⟨_,e⟩
 | own y=>exact x
 | xd fs=>obtain ⟨_,⟨u,_,_,e,_⟩,_⟩:=x;exact ⟨_,e⟩
 | met f y=>exact ⟨_,x⟩
 | rng lo hi=>obtain ⟨_,_,_,e⟩:=x;exact ⟨_,e⟩
 | frz u v=>exact ⟨_,x.1⟩
 | tbl q p=>obtain ⟨_,e,_⟩:=x;exact ⟨_,e⟩
 | ext φ=>exact x.2.1
section
variable {X:Cx} {pins:List (Addr × Obj)} {σ:L2.St} {H:Hp} {s:Shared}
theorem U8 {L:Addr} {m':Str→Option Value} (a:h.Ns L m) (b:h.Ns L m'):m=m':=by
 obtain ⟨o,es,ep,e,d,_,f⟩:=a
 obtain ⟨o',es',ep',e',d',_,f'⟩:=b
 rw [e] at e';cases e'
 rw [d] at d';cases d'
 funext x
 rw [← f,← f']
theorem GP {D:Addr} (I:Inv X pins σ H s) (hm:s.heap.Ns X.env.locals m) (hm':h'.Ns X.env.locals m) (k:∀ b u,b ≠ X.env.locals→s.heap.get? b=some u→h'.get? b=some u)
 (hD:s.heap.get? D=none) (new:fu X.prog X.w (upd H D o) h' D o):Inv X pins σ (upd H D o) { s with heap:=h' }:=by
 have hn:H D=none:=by
  cases e:H D with
  | none=>rfl
  | some u =>
   obtain ⟨w,hw⟩:=yN (I.hok D u e)
   rw [hD] at hw;cases hw
 have ne:∀ {b u},H b=some u→b ≠ D:=fun e=>iy e hn
 refine I.step (g':=s.gens) (d':=s.drawn) (t':=s.toks) (ch:=[]) (fun b hb=>by cases hb) (fun b u hL _ _ e _=>k b u hL e) (fun b u hL _ _ e _=>⟨u.slots,k b u hL e⟩) (fun b u _ e n=>?_) (fun b u _ e=>?_)
  (fun b xs e=>by rw [bB (ne e)];exact e) (fun b u v e=>by rw [bB (ne e)];exact e) (fun b q p e=>by rw [bB (ne e)];exact e) (fun m2 h2=>by rw [← U8 hm h2];exact hm') (fun b u e=>?_) I.bare
 ·rw [bB (fun z=>by rw [z,hD] at e;cases e)];exact n
 ·by_cases z:b=X.env.locals
  ·obtain ⟨w,_,_,hw,_⟩:=hm'
   exact ⟨w,by rw [z];exact hw⟩
  ·exact ⟨u,k b u z e⟩
 ·by_cases z:b=D
  ·subst z
   rw [bM] at e
   cases e
   exact new
  ·rw [bB z] at e
   refine (I.hok b u e).stay (fun c w hc q=>k c w (fun y=>?_) q) (fun c q=>by rw [bB (ne q)];exact q) fun c xs q=>by rw [bB (ne q)];exact q
   rcases hc with rfl | y2
   ·rw [y,I.free] at e;cases e
   ·rw [y,I.free] at y2;cases y2
end
section
variable {prog:Program} {w:World} {A:Around} {E:Value→Shared→Prop} {s:Shared}
end
end XS
namespace XS
open PySem PySem.Spec PySem.W PyProof.Rows L2 My D3
def Xy (K:PySem.W.Frag) (H:Hp) (y:V) (q:Int × Int):Prop:=∃ a,y = .ref a∧SqT K H a [.int q.1,.int q.2]
abbrev Prs (K:PySem.W.Frag) (H:Hp):List V→List (Int × Int)→Prop:=Paired (Xy K H)
section
variable {X:Cx} {pins:List (Addr × Obj)} {σ:L2.St} {H:Hp} {s:Shared}
theorem QD (I:Inv X pins σ H s) {y:V} {u:Value} {q:Int × Int} (h:Xy X.K H y q) (r:RelV y u):∃ a t1 t2,u = .ref a∧IsTup s.heap a #[.int q.1 t1,.int q.2 t2]:=by
 obtain ⟨a,rfl,hq⟩:=h
 cases r
 obtain ⟨its,rr,p,_⟩:=I.tuple hq
 cases rr with
 | cons r1 rr=>cases rr with
  | cons r2 rr =>
   cases rr
   obtain ⟨t1,rfl⟩:=r1
   obtain ⟨t2,rfl⟩:=r2
   exact ⟨a,t1,t2,rfl,p⟩
end
end XS
namespace XS
open PySem PySem.Spec PySem.W PyProof.Rows L2 My D3
section
variable {prog:Program} {w:World} {A:Around} {E:Value→Shared→Prop} {s:Shared}
theorem Lj {v:Value} {P:PySem.Fin→Shared→Prop} (ho:s.heap.get? a=some (seqObj "list" #[v] n))
 (h:∀ h' c,(∀ b u,b ≠ a→s.heap.get? b=some u→h'.get? b=some u)→h'.get? a=some (seqObj "list" #[v] c)→P (.done (.ret .none)) { s with heap:=h' }) :
 wpAny (model prog w) A (Builtin.«list.sort» ⟨[.ref a],[]⟩) P E s:=by
 obtain ⟨g1,e1⟩:∃ g1,g1=s.heap.update a (Obj.mapSeq fun _=>(#[]:Array Value)):=⟨_,rfl⟩
 obtain ⟨c1,h1⟩:∃ c,g1.get? a=some (seqObj "list" #[] c):=⟨_,by rw [e1];exact get?_update_seq ho fun _=>#[]⟩
 have k1:∀ b u,b ≠ a→s.heap.get? b=some u→g1.get? b=some u:=fun b u z q=>by rw [e1];exact (Heap.get?_update_ne _ _ _ _ z).trans q
 rw [list_sort_plain]
 refine wpAny_bind (listItems_at ho rfl ?_)
 refine wpAny_bind (listUpdate_at ho rfl ?_ (show 1 ≤ sizeLine by decide) (cZ _))
 rw [← e1]
 refine wpAny_bind (seqEpoch_at h1 rfl ?_)
 refine wpAny_bind (wpAny_newTuple ?_ (show 1 ≤ sizeLine by decide))
 refine wpAny_bind (wpAny_newList ?_ (cZ _))
 refine wpAny_holding ?_
 obtain ⟨g2,e2⟩:∃ g2,g2=(g1.push (seqObj "tuple" #[v] 0)).push (seqObj "list" #[] 0):=⟨_,rfl⟩
 show wpAny (model prog w) A _ P E { s with heap:=(g1.push (seqObj "tuple" #[v] 0)).push (seqObj "list" #[] 0) }
 rw [← e2]
 have h2:g2.get? a=some (seqObj "list" #[] c1):=by rw [e2];exact Heap.get?_push_of_some _ (Heap.get?_push_of_some _ h1)
 have k2:∀ b u,b ≠ a→s.heap.get? b=some u→g2.get? b=some u:=fun b u z q=>by rw [e2];exact Heap.get?_push_of_some _ (Heap.get?_push_of_some _ (k1 b u z q))
 have two:(#[v]:Array Value).size < 2:=d8 1
 have srt:(arrOf (SortSt.mk' general' ((#[v]:Array Value).zip #[v]) #[] 7 none)).map (·.2) = #[v]:=by
  show ((#[v]:Array Value).zip #[v]).map (·.2) = #[v]
  simp
 dsimp only
 rw [if_pos two,if_pos two]
 refine wpAny_bind (wpAny_pure ?_)
 refine wpAny_bind (wpAny_pure ?_)
 dsimp only
 rw [srt]
 refine wpAny_bind (seqEpoch_at h2 rfl ?_)
 refine wpAny_bind (listUpdate_at h2 rfl ?_ (cZ _) (show 1 ≤ sizeLine + 1 by decide))
 show wpAny _ _ (if (c1 != c1)=true then _ else ret Value.none) P E _
 rw [if_neg (by simp)]
 refine wpAny_pure (h _ _ (fun b u z q=>(Heap.get?_update_ne _ _ _ _ z).trans (k2 b u z q)) (get?_update_seq h2 _))
end
section
variable {X:Cx}
end
end XS
namespace XS
open PySem PySem.Spec PySem.W PyProof.Rows L2 My D3
section
variable {K:PySem.W.Frag} {H:Hp}
theorem Lk:∀ {l:List D} {qs:List (Int × Int)} {ys:List V},Lh l=some qs→RAs K ok1 true H ys l→Prs K H ys qs∧l=qs.map fun q=>.tuple [.int q.1,.int q.2]
 | [],qs,ys,e,r=>by
  cases e;cases r;exact ⟨.nil,rfl⟩
 | d :: l,qs,ys,e,r=>by
  cases r with
  | cons r1 r2 =>
   unfold Lh at e
   split at e
   ·next h=>cases h
   ·next i j t h =>
    cases h
    cases e3:Lh l with
    | none=>rw [e3] at e;cases e
    | some q2 =>
     rw [e3] at e
     cases e
     obtain ⟨p,el⟩:=Lk e3 r2
     obtain ⟨a,xs,rfl,hs,hr⟩:=r1.tupE
     cases hr with
     | cons h1 hr=>cases hr with
      | cons h2 hr =>
       cases hr
       obtain rfl:=h1.intE
       obtain rfl:=h2.intE
       exact ⟨.cons ⟨a,rfl,hs⟩ p,by rw [aV,← el]⟩
   ·cases e
theorem Cm:∀ {l:List D},flats l=true→∀ i,flat (l.getD i .none)=true
 | [],_,i=>by simp [flat]
 | d :: l,h,0=>by rw [flats,bw] at h;exact h.1
 | d :: l,h,i + 1=>by
  rw [flats,bw] at h
  simpa using Cm h.2 i
theorem GQ:∀ {ys:List V} {l:List D} {ok:Ok} {pl:Bool},RAs K ok pl H ys l→∀ i,RA K ok pl H (ys.getD i .non) (l.getD i .none)
 | _,_,_,_,.nil,i=>by simp;exact .non
 | _,_,_,_,.cons a b,0=>a
 | _,_,_,_,.cons a b,i + 1=>by simpa using GQ b i
end
end XS
variable {I:Addr} {its:Array Value}
namespace XS
open PySem PySem.Spec PySem.W PyProof.Rows
section
variable {prog:Program} {w:World} {A:Around} {E:Value→Shared→Prop} {s:Shared}
theorem QF:typeLookup (.type "list") "keys" = pure none:=by rw [typeLookup_type,builtinLookup_eq_fast];kernel_rfl
theorem yO {xs:Array Value} {k:Nat} {Q:Option Value→Shared→Prop} (hx:s.heap.get? a=some { cls:=.type "list", dict:=none,data:=.seq xs k,slots:=sl }) (hA:A.handled=none)
 (h:∀ h' tk,(∀ b o,s.heap.get? b=some o→h'.get? b=some o)→Q none { s with heap:=h',toks:=tk }):wpAny (model prog w) A (getAttr? (.ref a) "keys") Q E s:=by
 obtain ⟨hp,g,d,tk,os⟩:=s
 have hT:∀ tk',(⟨hp,g,d,tk',os⟩:Shared).TypeIs (.ref a) "list" := fun _=>⟨_,hx,rfl⟩
 have f1:=sub_AttributeError
 have f3:=F.slot_list_getattribute.lookup
 have f4:=F.slot_list_getattribute.bind (.ref a)
 have f5:=am_list_getattr_none
 unfold getAttr? getAttrBy? getAttrBy
 repeat (any_goals (first | assumption | exact hT _ | ((with_reducible show wpAny _ _ (call (Value.builtin "list.__getattribute__") _ _) _ _ _);refine call_meets F.slot_list_getattribute (hT _) am_entry_list_getattribute (F.args_list_getattribute_2 _ _) (meets_getattribute_miss_list a xs k sl "keys" _ QF (by decide) (by decide)) ⟨hx,hA,fun h' tk' e hx'=>?_⟩) | wp_step))
 obtain ⟨t',u',he⟩:=hx'.there
 show wpAny _ _ (getattributeRaised _ _ _ _ _ _ _) _ _ _
 unfold getattributeRaised
 repeat (any_goals (first | assumption | wp_step))
 exact h _ _ hx'.keeps
theorem qg:entryFor table "dict.update.loop" = some Builtin.«dict.update.loop»:=entryFor_of_tree (by kernel_rfl)
theorem jG:plainId "dict.update.loop" = true:=by decide +kernel
structure PL (h:Heap) (D I l:Addr) (its:Array Value) (vs:List (L2.Key × Value)) (i:Nat):Prop where
 iter:h.IsListIter I l i
 lst:h.IsList l its
 prs:∀ (j:Nat) (u:Value),its[j]? = some u→∃ (a:Addr) (n:Int) (t:Tok) (v:Value),u=Value.ref a∧IsTup h a #[Value.int n t,v]∧vs[j]? = some (Sum.inl n,v)∧a ≠ D∧a ≠ I
 ne:l ≠ D∧l ≠ I∧D ≠ I
theorem Ln {D l:Addr} {vs:List (L2.Key × Value)} (hA:A.handled=none) (hn:(vs.map (·.1)).Nodup) (hz:vs.length=its.size) (hs:its.size ≤ 1000) :
 ∀ (m i:Nat) (tk:Tok) (s:Shared),its.size - i=m→i ≤ its.size→PL s.heap D I l its vs i→s.heap.DictOf (L2.bV prog w) D (vs.take i) →
  (∀ h' tk,(∀ b o,b ≠ D→b ≠ I→s.heap.get? b=some o→h'.get? b=some o)→h'.DictOf (L2.bV prog w) D vs→R (.ok (.ret .none)) { s with heap:=h',toks:=tk }) →
  codeAny (model prog w) A (.builtin "dict.update.loop" ⟨[.ref D,.ref I,.int i tk,.none],[]⟩) R s:=by
 intro m
 induction m with
 | zero =>
  intro i tk s hm hi P hd hR
  have e:i=its.size:=by omega
  subst e
  refine codeAny_builtin qg ?_
  rw [Around.under_plainId jG _]
  have:its[its.size]? = none:=by simp
  show wpAny _ A.in1 (pyNext (.ref I) >>= _) _ _ s
  refine wpAny_bind (wpAny_pyNext_list_end (by simpa using hA) P.iter P.lst this fun h' hx=>?_)
  show wpAny _ A.in1 (Builtin.Dict.addKeywords D [] >>= _) _ _ _
  refine wpAny_bind (wpAny_pure (wpAny_pure ?_))
  have hx':h'.DictOf (L2.bV prog w) D vs:=by
   have:=hd.extBut hx P.ne.2.2
   rwa [← hz,List.take_length] at this
  exact hR h' s.toks (fun b o _ z q=>hx b o z q) hx'
 | succ m ih =>
  intro i tk s hm hi P hd hR
  have hlt:i < its.size:=by omega
  obtain ⟨u,hu⟩:∃ u,its[i]? = some u:=⟨its[i],by simp [hlt]⟩
  obtain ⟨a,n,t,v,rfl,hp,hv,na,ni⟩:=P.prs i u hu
  refine codeAny_builtin qg ?_
  rw [Around.under_plainId jG _]
  show wpAny _ A.in1 (pyNext (.ref I) >>= _) _ _ s
  refine wpAny_bind (wpAny_pyNext_list_item P.iter P.lst hu fun h1 it1 sb1=>?_)
  have k1:∀ b,b ≠ I→h1.get? b=s.heap.get? b:=fun b z=>sb1.2 b z
  have hp1:IsTup h1 a #[.int n t,v]:=by
   obtain ⟨o,e,c⟩:=hp
   exact ⟨o,(k1 a ni).trans e,c⟩
  have hd1:h1.DictOf (L2.bV prog w) D (vs.take i):=hd.sameBut sb1 P.ne.2.2
  show wpAny _ A.in1 (holding [Value.ref a] _ >>= _) _ _ _
  refine wpAny_bind (wpAny_holding ?_)
  have hs1:(vs.take i).length ≤ sizeLine:=by
   rw [fY]
   exact aW (pA _ _) (aW (dj hlt) (aW hs (by decide)))
  have hnew:stored (vs.take i) (Sum.inl n) v=vs.take (i + 1):=by
   have hi2:i < vs.length:=by omega
   have hv2:vs[i]=(Sum.inl n,v):=by
    have:=aD hi2
    rw [hv] at this
    exact (b_.inj this).symm
   have no:¬ ((vs.take i).any fun kv=>decide (kv.1=Sum.inl n))=true:=by
    intro z
    obtain ⟨kv,hk,e⟩:=List.any_eq_true.mp z
    have e:=of_decide_eq_true e
    obtain ⟨j,hj,e2⟩:=List.mem_iff_getElem.mp hk
    have hj':j < i:=by
     have:j < (vs.take i).length:=hj
     rw [fY] at this
     omega
    have e3:vs[j]=kv:=by
     rw [← e2,List.getElem_take]
    have:=gq.mp hn j i (by rw [aC];omega) (by rw [aC];exact hi2) hj'
    apply this
    rw [j9,j9,e3,hv2,e]
   unfold stored
   rw [if_neg no,sy,hv]
   rfl
  obtain ⟨o2,e2,c2,n2,d2⟩:=id hp1
  have hT:Shared.TypeIs { s with heap:=h1 } (.ref a) "tuple" := ⟨o2,e2,c2⟩
  refine wpAny_bind (wpAny_tryCatch ?_)
  unfold Builtin.Dict.pairItems
  refine wpAny_bind (wpAny_typeOf hT ?_)
  rw [if_pos (by decide)]
  refine wpAny_bind (wpAny_seqItems e2 d2 (wpAny_pure ?_))
  show wpAny _ _ (holding [Value.int n t,v] (dictSet D (.int n t) v)) _ _ _
  refine wpAny_holding (wpAny_dictSet_pairs (knd:=L2.bV prog w) (k:=Sum.inl n) (hsz:=hs1) (by show Value.isInt n (.int n t)=true;simp [Value.isInt]) hd1 fun h2 dd sb2=>?_)
  rw [hnew] at dd
  refine wpAny_pure ⟨plainId_quiet jG _,?_⟩
  have k2:∀ b o,b ≠ D→b ≠ I→s.heap.get? b=some o→h2.get? b=some o:=fun b o z1 z2 q=>(sb2.2 b z1).trans ((k1 b z2).trans q)
  have tup2:∀ b x,b ≠ D→b ≠ I→IsTup s.heap b x→IsTup h2 b x:=fun b x z1 z2 ⟨o,e,c⟩=>⟨o,k2 b o z1 z2 e,c⟩
  refine ih (i + 1) 0 _ (by omega) (by omega) ⟨?_,?_,fun j u hj=>?_,P.ne⟩ dd fun h3 tk3 k3 d3=>?_
  ·obtain ⟨o,e,c⟩:=it1
   exact ⟨o,(sb2.2 I (Ne.symm P.ne.2.2)).trans e,c⟩
  ·obtain ⟨o,e,c⟩:=P.lst
   exact ⟨o,k2 l o P.ne.1 P.ne.2.1 e,c⟩
  ·obtain ⟨a',n',t',v',rfl,q1,q2,q3,q4⟩:=P.prs j u hj
   exact ⟨a',n',t',v',rfl,tup2 a' _ q3 q4 q1,q2,q3,q4⟩
  ·exact hR h3 tk3 (fun b o z1 z2 q=>k3 b o z1 z2 (k2 b o z1 z2 q)) d3
end
end XS
namespace XS
open PySem PySem.Spec PySem.W PyProof.Rows
section
variable {prog:Program} {w:World} {A:Around} {E:Value→Shared→Prop} {s:Shared}
theorem zW {l:Addr} {vs:List (L2.Key × Value)} (hA:A.handled=none) (hl:s.heap.get? l=some { cls:=.type "list", dict:=none,data:=.seq its n,slots:=sl })
 (hp:∀ (j:Nat) (u:Value),its[j]? = some u→∃ (a:Addr) (n:Int) (t:Tok) (v:Value),u=Value.ref a∧IsTup s.heap a #[Value.int n t,v]∧vs[j]? = some (Sum.inl n,v)) (hn:(vs.map (·.1)).Nodup) (hz:vs.length=its.size) (hs:its.size ≤ 1000)
 (h:∀ h' tk,h'.DictOf (L2.bV prog w) s.heap.objs.size vs→(∀ b o,s.heap.get? b=some o→h'.get? b=some o)→Q (.ref s.heap.objs.size) { s with heap:=h',toks:=tk }) :
 wpAny (model prog w) A (PySem.call (.type "dict") [.ref l]) Q E s:=by
 refine callType_codes (Q₁:=fun obj s₁=>obj = .ref s.heap.objs.size∧s₁ = { s with heap:=s.heap.push { cls:=.type "dict", data:=.dict #[] } }) F.kt_called_dict (F.kt_typeCall_dict_1 _) F.entry_dict_init (kt_code_dict_new _ ⟨rfl,rfl⟩) ?_
 rintro obj s₁ ⟨rfl,rfl⟩
 obtain ⟨g,eg⟩:∃ g,g=s.heap.push { cls:=.type "dict", data:=.dict #[] }:=⟨_,rfl⟩
 rw [← eg]
 have dn:g.DictOf (L2.bV prog w) s.heap.objs.size []:=by rw [eg];exact Heap.DictOf.new s.heap
 have kg:∀ b o,s.heap.get? b=some o→g.get? b=some o:=fun b o q=>by rw [eg];exact Heap.get?_push_of_some _ q
 have lg:=kg _ _ hl
 have hT:Shared.TypeIs { s with heap:=g } (.ref l) "list" := ⟨_,lg,rfl⟩
 refine ⟨dn.typeIs,F.args_dict_init_2 _ _,?_⟩
 unfold Builtin.«dict.__init__»
 refine wpAny_bind ?_
 unfold Builtin.Dict.selfAndRest
 refine wpAny_bind (wpAny_notOrdered_dict dn.typeIs ?_)
 show wpAny _ _ (pure (s.heap.objs.size,[Value.ref l])) _ _ _
 refine wpAny_pure ?_
 show wpAny _ _ (Builtin.Dict.updateFrom "dict.__init__" s.heap.objs.size (.ref l) [] .none) _ _ _
 unfold Builtin.Dict.updateFrom
 refine wpAny_bind (wpAny_typeOf hT ?_)
 rw [if_pos (by decide)]
 have hA2:A.in1.in1.handled=none:=by simpa using hA
 refine wpAny_bind (yO (s:={ s with heap:=g }) lg hA2 fun h1 tk1 k1=>?_)
 rw [if_pos (by rfl)]
 refine wpAny_bind (wpAny_rule ?_)
 have l1:h1.get? l=_:=k1 _ _ lg
 have il:h1.IsList l its:=⟨_,l1,rfl,n,rfl⟩
 refine wpAny_bind (wpAny_pyIter_list (s:={ s with heap:=h1,toks:=tk1 }) il ?_)
 refine wpAny_pure ⟨plainId_quiet jG _,?_⟩
 obtain ⟨g2,eg2⟩:∃ g2,g2=h1.push { cls:=.type "list_iterator", data:=.fields #[.ref l,.int 0 0] }:=⟨_,rfl⟩
 have k2:∀ b o,s.heap.get? b=some o→g2.get? b=some o:=fun b o q=>by rw [eg2];exact Heap.get?_push_of_some _ (k1 _ _ (kg _ _ q))
 have old:∀ b o,s.heap.get? b=some o→b ≠ s.heap.objs.size∧b ≠ h1.objs.size:=fun b o q=>by
  have lt:=Heap.lt_size q
  have lt2:=Heap.lt_size (k1 _ _ (kg _ _ q))
  exact ⟨aR lt,aR lt2⟩
 have dne:s.heap.objs.size ≠ h1.objs.size:=by
  obtain ⟨o,_,_,e,_⟩:=dn
  exact aR (Heap.lt_size (k1 _ _ e))
 have dd:g2.DictOf (L2.bV prog w) s.heap.objs.size (vs.take 0):=by
  obtain ⟨o,es,ep,e,r⟩:=dn
  exact ⟨o,es,ep,by rw [eg2];exact Heap.get?_push_of_some _ (k1 _ _ e),r⟩
 have o1:=old _ _ hl
 show codeAny (model prog w) A.in1 (Code.builtin "dict.update.loop" ⟨[Value.ref s.heap.objs.size,Value.ref h1.objs.size,Value.int ((0:Nat):Int) 0,Value.none],[]⟩) _ { s with heap:=h1.push { cls:=.type "list_iterator", data:=.fields #[.ref l,.int 0 0] },toks:=tk1 }
 rw [← eg2]
 refine Ln (s:={ s with heap:=g2,toks:=tk1 }) (A:=A.in1) (by simpa using hA) hn hz hs its.size 0 0 rfl (cZ _) ⟨⟨_,by rw [eg2];exact Heap.get?_push_size _ rfl,rfl,rfl⟩,⟨_,k2 _ _ hl,rfl,n,rfl⟩,fun j u hj=>?_,⟨o1.1,o1.2,dne⟩⟩ dd fun h3 tk3 k3 d3=>?_
 ·obtain ⟨a,m,t,v,rfl,⟨o,e,c⟩,q⟩:=hp j u hj
  have o2:=old _ _ e
  exact ⟨a,m,t,v,rfl,⟨o,k2 _ _ e,c⟩,q,o2.1,o2.2⟩
 ·exact ⟨rfl,h h3 tk3 d3 fun b o q=>k3 b o (old b o q).1 (old b o q).2 (k2 b o q)⟩
end
end XS
variable {fl:List D3.Fl}
namespace XS
open PySem PySem.Spec PySem.W PyProof.Rows L2 My D3
theorem GR:∀ {ys:List V} {qs:List (Int × Int)},Prs K H ys qs→ys.length=qs.length
 | _,_,.nil=>rfl
 | _,_,.cons _ r=>by simp [GR r]
section
variable {X:Cx} {pins:List (Addr × Obj)} {σ:L2.St} {H:Hp} {s:Shared}
theorem Cp (I:L2.Inv X pins σ H s):∀ {ys:List V} {us:List Value} {qs:List (Int × Int)},Prs X.K H ys qs→Vals ys us→∃ vs:List (L2.Key × Value),vs.length=us.length∧(vs.map (·.1))=qs.map (fun q=>Sum.inl q.1)∧KV (qs.map fun q=>(Sum.inl q.1,V.int q.2)) vs ∧
 ∀ (j:Nat) (u:Value),us[j]? = some u→∃ (a:Addr) (n:Int) (t:Tok) (v:Value),u=Value.ref a∧IsTup s.heap a #[Value.int n t,v]∧vs[j]? = some (Sum.inl n,v)
 | _,_,_,.nil,.nil=>⟨[],rfl,rfl,.nil,fun j u h=>by simp at h⟩
 | _,_,_,.cons p ps,.cons r rs=>by
  obtain ⟨vs,h1,h2,h3,h4⟩:=Cp I ps rs
  obtain ⟨a,t1,t2,rfl,ht⟩:=QD I p r
  refine ⟨(Sum.inl _,.int _ t2) :: vs,by simp [h1],by simp [h2],.cons ⟨rfl,⟨t2,rfl⟩⟩ h3,fun j u hj=>?_⟩
  cases j with
  | zero =>
   simp at hj
   subst hj
   exact ⟨a,_,t1,_,rfl,ht,rfl⟩
  | succ j=>exact h4 j u (by simpa using hj)
theorem Fd (hA:X.A.handled=none):jY X (.type "dict") (fun xs H Q=>∃ (p:Addr) (ys:List V) (qs:List (Int × Int)),xs=[.ref p]∧SqL X.K H p ys∧ys.length ≤ 1000∧Prs X.K H ys qs∧(qs.map (·.1)).Nodup∧∀ l,H l=none→Q (.ref l) (upd H l (.dK (qs.map fun q=>(Sum.inl q.1,V.int q.2))))):=by
 intro pins s σ H xs us Q I r h
 obtain ⟨p,ys,qs,rfl,hx,hl,hp,hn,q⟩:=h
 obtain ⟨u,rfl,rx⟩:=vals1 r
 cases rx
 obtain ⟨its,rvs,pl,hz⟩:=I.list hx
 obtain ⟨⟨c,d,dt,sl⟩,n,e,rfl,rfl,rfl⟩:=pl
 obtain ⟨vs,v1,v2,v3,v4⟩:=Cp I hp rvs
 have len:its.length=ys.length:=rvs.length.symm
 have nd:(vs.map (·.1)).Nodup:=by
  rw [v2]
  have:List.Pairwise (· ≠ ·) ((qs.map (·.1)).map (Sum.inl:Int→L2.Key)):=List.Pairwise.map (S:=(· ≠ ·)) (Sum.inl:Int→L2.Key) (fun a b ne e=>ne (Sum.inl.inj e)) hn
  rwa [dI] at this
 refine zW (vs:=vs) hA e (fun j u hj=>v4 j u (by simpa using hj)) nd (by simpa using v1) (by simp;omega) fun h' tk dd k=>?_
 have hq:H s.heap.objs.size=none:=I.hok.fresh (aL _)
 have I2:=I.laid (h':=h') (t':=tk) (a:=s.heap.objs.size) (o:=.dK (qs.map fun q=>(Sum.inl q.1,V.int q.2))) k (aL _)
  ⟨by rw [aC,← GR hp];exact aW hl (by decide),beq_eq_false_iff_ne.mpr (Ne.symm (aR (big I))),vs,v3,dd⟩
 exact ⟨.ref _,_,I2,rfl,q _ hq⟩
end
theorem GX:∀ qs:List (Int × Int),dk0 (qs.map fun q=>(.int q.1,.int q.2))=qs.map fun q=>(Sum.inl q.1,V.int q.2)
 | []=>rfl
 | q :: qs=>by rw [aV,dk0,GX qs];rfl
theorem GZ:∀ qs:List (Int × Int),xU (qs.map fun q=>((.int q.1,.int q.2):D × D))=true
 | []=>rfl
 | _ :: r=>GZ r
theorem QG (qs:List (Int × Int)):dh0 (qs.map fun q=>(.int q.1,.int q.2)) = .dK (qs.map fun q=>(Sum.inl q.1,V.int q.2)):=by
 cases qs with
 | nil=>rfl
 | cons q r=>exact congrArg HO.dK (GX (q :: r))
theorem Lp (hA:X.A.handled=none) (ha:DB X fl .P [e] fa) (hg:Gl X "dict") (hm:X.mg "dict" = none)
 (he:starEach [e] X.env=(false,eval e X.env) :: starEach [] X.env:=by rfl) (hpl:(backTo pos (starEach [] X.env)).any (·.1)=false:=by rfl):DE X fl .C (.Call (.Name "dict" p) [e] [] pos) (dCall Li fa) :=
 PE.imp (mz (Fd hA) hg hm (show bootBuiltins "dict" = some (.type "dict") by decide +kernel) ha (by decide) (by decide) he hpl) fun σ H Q h=>by
 obtain ⟨G,ow,δ,d,R,hf,q⟩:=h
 obtain ⟨ds,e1,e2⟩:=bind1 hf
 refine ⟨G,ow,δ,ds,R,e1,fun vs H' sm r'=>?_⟩
 unfold Li at e2
 split at e2
 ·next l =>
  obtain ⟨qs,e4,e5⟩:=bind1 e2
  by_cases hc:l.length ≤ 1000∧(qs.map (·.1)).Nodup
  ·rw [if_pos hc] at e5
   cases e5
   cases r' with
   | cons r1 r2 =>
    cases r2
    obtain ⟨a,ys,rfl,hx,hr⟩:=r1.lstE
    obtain ⟨hp,hl⟩:=Lk e4 hr
    refine ⟨a,ys,qs,rfl,hx,by rw [hr.length];exact hc.1,hp,hc.2,fun l0 hn=>q _ _ (sm.trans (cN hn _)) (.dic bM (.inl ⟨GZ qs,?_⟩) (sm.free hn))⟩
    rw [QG]
  ·rw [if_neg hc] at e5;cases e5
 ·cases e2
end XS
namespace XS
open PySem PySem.Spec PySem.W PyProof.Rows L2 My D3
section
variable {X:Cx} {fl:List Fl} {a:Expr} {f:FE} {pos:Pos} {ta:TE}
end
end XS
namespace D3
open PySem
def Lq:D→Option (List (Int × Int))
 | .dict kvs=>iiD kvs
 | _=>none
def Cq (f:FE):FA:=fun δ=>(f δ).bind fun x=>(Lq x).map fun qs=>qs.map fun q=>.int q.1
end D3
namespace D3
open PySem
end D3
namespace D3
open PySem
end D3
namespace D3
open PySem
end D3
namespace D3
open PySem
end D3
namespace D3
open PySem
def dsT (S:List (List Int)):D:=.dict (S.map fun k=>(.tuple (k.map .int),.bool true))
def tsD:List (D × D)→Option (List (List Int))
 | []=>some []
 | (.tuple l,.bool true) :: r=>(dg l).bind fun k=>(tsD r).map (k :: ·)
 | _=>none
def Zu:D→Option (List (List Int))
 | .dict kvs=>tsD kvs
 | _=>none
def xV:D→Option (List Int)
 | .tuple l=>dg l
 | _=>none
def lU (S:List (List Int)) (k:List Int):List (List Int):=if k ∈ S then S else S++[k]
theorem G3:∀ ns:List Int,dg (ns.map PyData.int)=some ns
 | []=>rfl
 | n :: r=>by
  rw [aV,dg,G3 r]
  rfl
theorem G4:∀ S:List (List Int),tsD (S.map fun k=>((.tuple (k.map .int),.bool true):D × D))=some S
 | []=>rfl
 | k :: S=>by
  rw [aV,tsD,G4 S,G3]
  rfl
end D3
namespace D3
open PySem
end D3
namespace D3
open PySem
end D3
namespace D3
open PySem
end D3
namespace D3
open PySem
end D3
namespace D3
open PySem
abbrev Tte:=List Int × List Int × Int
def u9:List (D × D)→Option (List Tte)
 | []=>some []
 | (.tuple l,.tuple [.tuple m,.int z]) :: r=>(dg l).bind fun k=>(dg m).bind fun v=>(u9 r).map ((k,v,z) :: ·)
 | _=>none
def Jb:D→Option (List Tte)
 | .dict kvs=>u9 kvs
 | _=>none
def rwD (k:List Int):D:=.tuple (k.map .int)
def ttV (q:List Int × Int):D:=.tuple [rwD q.1,.int q.2]
def ttP (S:List Tte):List (D × D):=S.map fun q=>(rwD q.1,ttV q.2)
def dtt (S:List Tte):D:=.dict (ttP S)
def nu (S:List Tte) (k:List Int):Option (List Int × Int):=(S.find? fun q=>decide (q.1=k)).map (·.2)
def rO:D→D→Option D:=fun x y=>(Jb x).bind fun S=>(xV y).bind fun k=>(nu S k).map ttV
def Jc:D→Option (List Int × Int)
 | .tuple [.tuple m,.int z]=>(dg m).map (·,z)
 | _=>none
def oU (S:List Tte) (k:List Int) (v:List Int × Int):List Tte:=if (nu S k).isSome=true then S else S++[(k,v)]
def ur (i:Nat) (fk fv:FE):FS:=fun δ=>(aF i δ).bind fun x=>(fk δ).bind fun y=>(fv δ).bind fun z=>(Jb x).bind fun S=>(xV y).bind fun k=>(Jc z).bind fun v=>if S.length < 1000000 then some (.nx (δ.set i (some (.d (dtt (oU S k v)))))) else none
theorem lW:∀ ns:List Int,dg (ns.map PyData.int)=some ns
 | []=>rfl
 | n :: r=>by
  rw [aV,dg,lW r]
  rfl
theorem zX:∀ S:List Tte,u9 (ttP S)=some S
 | []=>rfl
 | q :: S=>by
  show (dg (q.1.map PyData.int)).bind (fun k=>(dg (q.2.1.map PyData.int)).bind fun v=>(u9 (ttP S)).map ((k,v,q.2.2) :: ·))=_
  rw [lW,aN,lW,aN,zX S]
  rfl
theorem oV:∀ {l:List D} {k:List Int},dg l=some k→l=k.map PyData.int
 | [],k,h=>by cases h;rfl
 | d :: l,k,h=>by
  cases d with
  | int i =>
   unfold dg at h
   cases e:dg l with
   | none=>rw [e] at h;cases h
   | some r =>
    rw [e] at h
    cases h
    rw [oV e]
    rfl
  | _=>unfold dg at h;cases h
theorem zY:∀ {kvs:List (D × D)} {S:List Tte},u9 kvs=some S→kvs=ttP S
 | [],S,h=>by cases h;rfl
 | (a,b) :: r,S,h=>by
  unfold u9 at h
  split at h
  ·next e=>cases e
  ·next e =>
   cases e
   obtain ⟨k,e1,h⟩:=nF.mp h
   obtain ⟨v,e2,h⟩:=nF.mp h
   cases e3:u9 r with
   | none=>rw [e3] at h;cases h
   | some S' =>
    rw [e3] at h
    cases h
    rw [oV e1,oV e2,zY e3]
    rfl
  ·cases h
theorem Cr (S:List Tte):Jb (dtt S)=some S:=zX S
theorem zZ {x:D} {S:List Tte} (h:Jb x=some S):x=dtt S:=by
 cases x with
 | dict kvs=>rw [zY (show u9 kvs=some S from h)];rfl
 | _=>cases h
theorem QH {x:D} {v:List Int × Int} (h:Jc x=some v):x=ttV v:=by
 unfold Jc at h
 split at h
 ·next m z =>
  cases e:dg m with
  | none=>rw [e] at h;cases h
  | some k =>
   rw [e] at h
   cases h
   rw [oV e]
   rfl
 ·cases h
end D3
namespace D3
open PySem
def Jd:List Int→List Int→Bool
 | [],[]=>false
 | [],_ :: _=>true
 | _ :: _,[]=>false
 | x :: xs,y :: ys=>if x=y then Jd xs ys else decide (x < y)
def j8:D→Option (List (List Int))
 | .dict kvs=>match u9 kvs with
  | some S=>some (S.map (·.1))
  | none=>tsD kvs
 | _=>none
def Cu:D→D→Option D:=fun y x=>(j8 x).bind fun S=>(xV y).map fun k=>.bool (decide (k ∈ S))
def Je (f:FE) (fl fh:FO):FE:=fun δ=>(f δ).bind fun x=>(fl δ).bind fun lo=>(fh δ).bind fun hi=>match x with
 | .tuple l=>if flats l=true then some (.tuple (cutD l lo hi)) else none
 | _=>none
def Cv:List D→Option D
 | [.tuple l]=>match dg l with
  | some (i :: r)=>some (.int (mxI i r))
  | _=>none
 | _=>none
def Fe (f:FE):FA:=fun δ=>(f δ).bind fun x=>match x with
 | .tuple l=>some (jQ l)
 | _=>none
def Lr (fx:FE):FA:=fun δ=>(fx δ).bind fun x=>(j8 x).map fun S=>S.map rwD
def G5 (fx:FE):FA:=fun δ=>(fx δ).bind fun x=>(j8 x).bind fun S=>if S=[] then none else some (S.map rwD)
def uw:D→D→Option D:=fun x y=>match x,y with
 | .list l,.list m=>if l.length ≤ 1000 then some (.list (jR l m)) else none
 | _,_=>none
def rpD:List D→Option (List (List Int))
 | []=>some []
 | .tuple [.tuple l,.bool true] :: r=>(dg l).bind fun k=>(rpD r).map (k :: ·)
 | _=>none
def wC:List D→Option D
 | [.list l]=>(rpD l).bind fun ks=>if l.length ≤ 1000 then some (dsT (ks.foldl lU [])) else none
 | _=>none
def G6 (i j:Nat):FS:=fun δ=>(aF j δ).bind fun d=>(aF i (δ.set j none)).bind fun x=>match x with
 | .list l=>if l.length < 1000000 then some (.nx ((δ.set j none).set i (some (.d (.list (l++[d])))))) else none
 | _=>none
end D3
namespace L2
open PySem PySem.Spec PyProof.Rows
section
variable {κ:Type} [DecidableEq κ]
def lX (kvs:List (κ × V)) (k:κ):Option V:=(kvs.find? fun kv=>decide (kv.1=k)).map (·.2)
def putK (kvs:List (κ × V)) (k:κ) (v:V):List (κ × V) :=
 if (kvs.any fun kv=>decide (kv.1=k))=true then kvs.map (fun kv=>if kv.1=k then (kv.1,v) else kv) else kvs++[(k,v)]
theorem pU {p:κ × V} {r:List (κ × V)} {k:κ} (e:p.1=k):lX (p :: r) k=some p.2:=by simp [lX,iJ,e]
theorem pW {p:κ × V} {r:List (κ × V)} {k:κ} (e:¬ p.1=k):lX (p :: r) k=lX r k:=by simp [lX,iJ,e]
theorem Cw (k:κ):∀ kvs:List (κ × V),(kvs.any fun kv=>decide (kv.1=k))=(lX kvs k).isSome
 | []=>rfl
 | p :: r=>by
  rw [qz]
  by_cases e:p.1=k
  ·simp only [pU e,dTr e,Bool.true_or,Option.isSome_some]
  ·rw [pW e,dFa e,Bool.false_or];exact Cw k r
theorem tX.isSome_eq {o:Option V} {u:Option Value} (r:tX o u):o.isSome=u.isSome:=by
 cases o with
 | none=>cases u with
  | none=>rfl
  | some _=>exact (show False from r).elim
 | some _=>cases u with
  | none=>exact (show False from r).elim
  | some _=>rfl
theorem tX.getD {o:Option V} {u:Option Value} {d:V} {d':Value} (r:tX o u) (rd:RelV d d'):RelV (o.getD d) (u.getD d'):=by
 cases o with
 | none=>cases u with
  | none=>exact rd
  | some _=>exact (show False from r).elim
 | some _=>cases u with
  | none=>exact (show False from r).elim
  | some _=>exact r
theorem KV.val {kvs:List (κ × V)} {vs:List (κ × Value)} (r:KV kvs vs) (k:κ):tX (lX kvs k) (valueAt vs k):=by
 unfold KV at r
 induction r with
 | nil=>exact True.intro
 | @cons p q ps qs h t ih =>
  obtain ⟨h1,h2⟩:=h
  by_cases e:p.1=k
  ·have e':q.1=k:=h1.symm.trans e
   have b:valueAt (q :: qs) k=some q.2:=by simp [valueAt,iJ,e']
   rw [pU e,b];exact h2
  ·have e':¬ q.1=k:=fun z=>e (h1.trans z)
   have b:valueAt (q :: qs) k=valueAt qs k:=by simp [valueAt,iJ,e']
   rw [pW e,b];exact ih
theorem KV.keys {kvs:List (κ × V)} {vs:List (κ × Value)} (r:KV kvs vs):kvs.map (·.1)=vs.map (·.1):=by
 unfold KV at r
 induction r with
 | nil=>rfl
 | cons h t ih=>rw [aV,aV,ih,h.1]
theorem KV.length {kvs:List (κ × V)} {vs:List (κ × Value)} (r:KV kvs vs):kvs.length=vs.length:=Paired.length r
end
theorem Ls {k:Key} {u:Value} (r:RelV (kV k) u):(bV P w).is k u=true:=by
 cases k with
 | inl i=>obtain ⟨t,e⟩:=(show ∃ t,u=Value.int i t from r);subst e;exact Bk P w i t
 | inr x=>obtain ⟨t,e⟩:=(show ∃ t,u=Value.str x t from r);subst e;exact Bm P w x t
theorem yP:∀ {ks:List Key} {us:List Value},Vals (ks.map kV) us→ItemsAre (bV P w) ks us
 | [],_,r=>by rw [eF] at r;cases r;exact .nil
 | k :: ks,_,r=>by
  rw [aV] at r
  cases r with
  | cons h t=>exact .cons (Ls h) (yP t)
abbrev KT (H:Hp):List (List Key × V)→List (List Key × Addr × Value)→Prop:=Paired fun p q=>p.1=q.1∧H q.2.1=some (.tup (p.1.map kV))∧RelV p.2 q.2.2
theorem KT.val {kvs:List (List Key × V)} {xs:List (List Key × Addr × Value)} (r:KT H kvs xs) (k:List Key):tX (lX kvs k) ((atKey xs k).map (·.2)):=by
 induction r with
 | nil=>exact True.intro
 | @cons p q ps qs h t ih =>
  obtain ⟨h1,_,h2⟩:=h
  by_cases e:p.1=k
  ·have e':q.1=k:=h1.symm.trans e
   have b:atKey (q :: qs) k=some q.2:=by simp [atKey,iJ,e']
   rw [pU e,b];exact h2
  ·have e':¬ q.1=k:=fun z=>e (h1.trans z)
   have b:atKey (q :: qs) k=atKey qs k:=by simp [atKey,iJ,e']
   rw [pW e,b];exact ih
theorem KT.repl {kvs:List (List Key × V)} {xs:List (List Key × Addr × Value)} (r:KT H kvs xs) (k:List Key) {y:V} {u:Value} (ry:RelV y u) :
 KT H (kvs.map fun kv=>if kv.1=k then (kv.1,y) else kv) (xs.map (putAt k u)):=by
 induction r with
 | nil=>exact .nil
 | @cons p q ps qs h t ih =>
  rw [aV,aV]
  refine .cons ?_ ih
  obtain ⟨h1,h2,h3⟩:=h
  unfold putAt
  by_cases e:p.1=k
  ·rw [if_pos e,if_pos (h1.symm.trans e)];exact ⟨h1,h2,ry⟩
  ·rw [if_neg e,if_neg (fun z=>e (h1.trans z))];exact ⟨h1,h2,h3⟩
theorem KT.put {kvs:List (List Key × V)} {xs:List (List Key × Addr × Value)} (r:KT H kvs xs) (k:List Key) {b:Addr} {y:V} {u:Value} (hb:H b=some (.tup (k.map kV))) (ry:RelV y u) :
 KT H (putK kvs k y) (storedH xs k b u):=by
 have e:(kvs.any fun kv=>decide (kv.1=k))=(atKey xs k).isSome:=by
  rw [Cw,(r.val k).isSome_eq,sE]
 unfold putK storedH
 rw [e]
 by_cases q:(atKey xs k).isSome=true
 ·rw [if_pos q,if_pos q];exact r.repl k ry
 ·rw [if_neg q,if_neg q];exact Paired.snoc r ⟨rfl,hb,ry⟩
theorem KT.keeps {kvs:List (List Key × V)} {xs:List (List Key × Addr × Value)} (r:KT H kvs xs) (ht:∀ b ys,H b=some (.tup ys)→H' b=some (.tup ys)):KT H' kvs xs :=
 Paired.mapP r fun _ _ z=>⟨z.1,ht _ _ z.2.1,z.2.2⟩
section
variable {P:Program} {w:World} {H:Hp} {h:Heap} {a:Addr}
theorem Tc (ok:HOk P w H h) (e:Rd H a u):fu P w H h a u:=e.ok ok
theorem sZ {kvs:List (Key × V)} (ok:HOk P w H h) (e:Rd H a (.dK kvs)):kvs.length ≤ sizeLine∧(a == sysModules)=false∧∃ vs,KV kvs vs∧h.DictOf (bV P w) a vs :=
 show fu P w H h a (.dK kvs) from Tc ok e
theorem Xz {kvs:List (Key × V)} (ok:HOk P w H h) (e:H a=some (.dK kvs)):kvs.length ≤ sizeLine∧(a == sysModules)=false∧∃ vs,KV kvs vs∧h.DictOf (bV P w) a vs:=sZ ok (.inl e)
theorem ux {ks:List Key} (ok:HOk P w H h) (e:H a=some (.tup (ks.map kV))):(tupleKind (bV P w)).is h ks a:=by
 obtain ⟨_,its,r,o,h1,h2,n,h3⟩:=(show fu P w H h a (.tup (ks.map kV)) from ok a _ e)
 exact ⟨o,its.toArray,n,h1,h2,h3,by simpa using yP r⟩
theorem uT {kvs:List (List Key × V)} (ok:HOk P w H h) (e:Rd H a (.dT kvs)):kvs.length ≤ sizeLine∧(a == sysModules)=false ∧
 ∃ xs,KT H kvs xs∧h.DictOfH (tupleKind (bV P w)) a xs:=by
 obtain ⟨z,y,xs,r,o,es,ep,h1,h2,h3,h4,h5⟩:=(show fu P w H h a (.dT kvs) from Tc ok e)
 refine ⟨z,y,xs,r,o,es,ep,h1,h2,h3,h4,fun x hx=>?_,h5⟩
 have all:∀ {l:List (List Key × V)} {m:List (List Key × Addr × Value)},KT H l m→∀ x ∈ m,(tupleKind (bV P w)).is h x.1 x.2.1:=by
  intro l m q
  induction q with
  | nil=>intro x hx;exact nomatch hx
  | @cons p q ps qs hq t ih =>
   intro x hx
   rcases aY.mp hx with e | hx
   ·subst e
    exact ux ok (by rw [← hq.1];exact hq.2.1)
   ·exact ih x hx
 exact all r x hx
theorem XC {kvs:List (List Key × V)} (ok:HOk P w H h) (e:H a=some (.dT kvs)):kvs.length ≤ sizeLine∧(a == sysModules)=false ∧
 ∃ xs,KT H kvs xs∧h.DictOfH (tupleKind (bV P w)) a xs:=uT ok (.inl e)
end
def z_ (H:Hp) (a:Addr) (y:V) (r:Option V):Prop :=
 (∃ kvs k,Rd H a (.dK kvs)∧y=kV k∧r=lX kvs k)∨∃ kvs k b,Rd H a (.dT kvs)∧y = .ref b∧H b=some (.tup (k.map kV))∧r=lX kvs k
def QJ (H:Hp) (a:Addr) (y v:V) (H':Hp):Prop :=
 (∃ kvs k,H a=some (.dK kvs)∧y=kV k∧kvs.length < sizeLine∧H'=upd H a (.dK (putK kvs k v))) ∨
 ∃ kvs k b,H a=some (.dT kvs)∧y = .ref b∧H b=some (.tup (k.map kV))∧kvs.length < sizeLine∧H'=upd H a (.dT (putK kvs k v))
theorem z_.k {kvs:List (Key × V)} {k:Key} (e:H a=some (.dK kvs)):z_ H a (kV k) (lX kvs k):=.inl ⟨kvs,k,.inl e,rfl,rfl⟩
theorem z_.t {kvs:List (List Key × V)} {k:List Key} (e:H a=some (.dT kvs)) (eb:H b=some (.tup (k.map kV))):z_ H a (.ref b) (lX kvs k):=.inr ⟨kvs,k,b,.inl e,rfl,eb,rfl⟩
theorem QJ.k {kvs:List (Key × V)} {k:Key} (e:H a=some (.dK kvs)) (hl:kvs.length < sizeLine):QJ H a (kV k) v (upd H a (.dK (putK kvs k v))):=.inl ⟨kvs,k,e,rfl,hl,rfl⟩
theorem QJ.t {kvs:List (List Key × V)} {k:List Key} (e:H a=some (.dT kvs)) (eb:H b=some (.tup (k.map kV))) (hl:kvs.length < sizeLine) :
 QJ H a (.ref b) v (upd H a (.dT (putK kvs k v))):=.inr ⟨kvs,k,b,e,rfl,eb,hl,rfl⟩
section
variable {X:Cx} {pins:List (Addr × Obj)} {σ:St} {H:Hp} {s:Shared} {a:Addr} {y v:V} {u r:Value} {o:Option V} {A:Around} {E:Value→Shared→Prop}
theorem Jf (hu:A.units + 1 < cLine) (I:Inv X pins σ H s) (g:z_ H a y (some v)) (ry:RelV y u) (h:∀ w' s',Inv X pins σ H s'→RelV v w'→Q w' s') :
 wpAny (model X.prog X.w) A (getItem (.ref a) u) Q E s:=by
 rcases g with ⟨kvs,k,e,ey,l⟩ | ⟨kvs,k,b,e,ey,eb,l⟩
 ·subst ey
  obtain ⟨z,hd,vs,rel,dd⟩:=sZ I.hok e
  obtain ⟨w',hw,rw'⟩:=tX.some_of (v:=v) (o:=valueAt vs k) (by rw [l];exact rel.val k)
  exact wpAny_getItem_of (Ls ry) dd.mapOf hw (h w' _ (I.tok _) rw')
 ·subst ey
  cases (show u=Value.ref b from ry)
  obtain ⟨z,hd,xs,rel,dd⟩:=uT I.hok e
  obtain ⟨w',hw,rw'⟩:=tX.some_of (v:=v) (o:=(atKey xs k).map (·.2)) (by rw [l];exact rel.val k)
  obtain ⟨p,hp,hp2⟩:=Option.map_eq_some_iff.mp hw
  refine wpAny_getItem_heap (tupleKind_room_in1 hu) (ux I.hok eb) dd hp ?_
  rw [hp2]
  exact h w' _ (I.tok _) rw'
theorem Zv (hu:A.units + 1 < cLine) (I:Inv X pins σ H s) (g:z_ H a y o) (ry:RelV y u) (h:∀ s',Inv X pins σ H s'→Q (.bool o.isSome) s') :
 wpAny (model X.prog X.w) A (compareOp .In u (.ref a)) Q E s:=by
 rcases g with ⟨kvs,k,e,ey,l⟩ | ⟨kvs,k,b,e,ey,eb,l⟩
 ·subst ey
  obtain ⟨z,hd,vs,rel,dd⟩:=sZ I.hok e
  refine wpAny_in_of (Ls ry) hd dd.mapOf ?_
  rw [← (rel.val k).isSome_eq,← l]
  exact h _ (I.tok _)
 ·subst ey
  cases (show u=Value.ref b from ry)
  obtain ⟨z,hd,xs,rel,dd⟩:=uT I.hok e
  refine wpAny_in_heap (tupleKind_room_in1 hu) (ux I.hok eb) hd dd ?_
  have q:=(rel.val k).isSome_eq
  rw [sE] at q
  rw [← q,← l]
  exact h _ (I.tok _)
theorem G7 {ob:HO} (I:Inv X pins σ H s) (mu:Mut (H a)) (hs:Heap.SameBut a s.heap h') (he:∃ q,h'.get? a=some q) (new:fu X.prog X.w (upd H a ob) h' a ob) :
 Inv X pins σ (upd H a ob) { s with heap:=h',toks:=t' } :=
 I.write (x:=a) (e:=a) mu (.inl rfl) (fun b q hb z=>(hs.2 b hb).trans z) he new
end
section
variable {X:Cx} {pins:List (Addr × Obj)} {σ:St} {H:Hp} {s:Shared} {a:Addr} {kvs:List (Key × V)} {k:Key} {u:Value} {A:Around} {E:Value→Shared→Prop}
theorem XF (I:Inv X pins σ H s) (e:Rd H a (.dK kvs)) (h:∀ t s',Inv X pins σ H s'→Q (.int kvs.length t) s'):wpAny (model X.prog X.w) A (call (.builtin "len") [.ref a]) Q E s:=by
 obtain ⟨z,hd,vs,rel,dd⟩:=sZ I.hok e
 refine call_len_dict hd dd (by rw [← rel.length];rw [sizeLine_eq] at z;omega) ?_
 rw [← rel.length]
 exact h _ _ (I.tok _)
end
def U9 (i:Expr):Prop:=∀ ov iv,subscripted i false ov iv=operate [ov,iv] (getItem ov iv)
theorem QK {value slice:Expr} {id:String}
 (hl:typeLookup (.type T) "__getitem__" = pure (some (.builtin id))) (hs:U9 slice)
 (h:wpAny (model prog w) A (eval value env) (fun o s₁=>wpAny (model prog w) A (eval slice env) (fun i s₂=>s₂.TypeIs o T∧wpAny (model prog w) A (getItem o i) Q E s₂) E s₁) E s) :
 wpAny (model prog w) A (eval (.Subscript value slice pos) env) Q E s:=by
 refine Subscript_ (wpAny_mono h (fun o s₁ h₁=>wpAny_mono h₁ (fun i s₂ h₂=>?_) fun _ _ x=>x) fun _ _ x=>x)
 obtain ⟨hT,h₂⟩:=h₂
 unfold subscriptTail
 refine wpAny_bind ?_
 rw [getitemInPython_of_ne hT.not_modules]
 refine wpAny_bind (wpAny_specialOf hT hl ?_)
 have fin:wpAny (model prog w) A (subscripted slice false o i) (fun r s₃=>wpAny (model prog w) A (letTemporaryGo value o r >>= fun _=>pure r) Q E s₃) E s₂:=by
  rw [hs o i]
  exact wpAny_operating (wpAny_mono h₂ (fun r s₃ h₃=>wpAny_bind (wpAny_letTemporaryGo (wpAny_pure h₃))) fun _ _ x=>x)
 first
  | exact wpAny_pure (wpAny_bind fin)
  | exact wpAny_bind (wpAny_pure (wpAny_bind fin))
  | exact wpAny_bind fin
theorem Cy {σ:St} {y:V} {o:Option V} (I:Inv X pins σ H s) (g:z_ H a y o):s.TypeIs (.ref a) "dict" := by
 rcases g with ⟨kvs,k,e,_,_⟩ | ⟨kvs,k,b,e,_,_,_⟩
 ·obtain ⟨_,_,vs,_,dd⟩:=sZ I.hok e
  exact dd.typeIs
 ·obtain ⟨_,_,xs,_,dd⟩:=uT I.hok e
  exact dd.typeIs
def XH (td ty:TE):TE:=fun σ H Q=>td σ H fun x H1=>ty σ H1 fun y H2=>∃ a v,x = .ref a∧z_ H2 a y (some v)∧Q v H2
section
variable {X:Cx} {o i e value:Expr} {pos pos' tpos:Pos} {td ty tv:TE}
theorem QL (hu:X.A.units + 1 < cLine) (ho:PE X o td) (hi:PE X i ty) (hs:U9 i):PE X (.Subscript o i pos) (XH td ty):=by
 intro pins s σ H Q I h
 refine QK PySem.F.slot_dict_getitem.lookup hs (thn (ho pins s σ H _ I h) fun u s1 ⟨x,H1,I1,rx,q1⟩=>thn (hi pins s1 σ H1 _ I1 q1) fun iv s2 ⟨y,H2,I2,ry,a,v,ex,g,q2⟩=>?_)
 subst ex
 obtain rfl:u=Value.ref a:=rx
 exact ⟨Cy I2 g,Jf hu I2 g ry fun w' s3 I3 rw'=>⟨v,H2,I3,rw',q2⟩⟩
end
section
variable {X:Cx} {pos:Pos}
end
structure M1 (X:Cx) (o:Expr) (m:Str) (apos:Pos) (e:Expr) (cpos:Pos):Prop where
 base:attributeBase o m X.env (eval o X.env)=eval o X.env
 few:((backTo cpos (starEach [e] X.env)).all (fun x=>!x.1) && (backToKw cpos (keywordEach [] X.env)).all (fun x=>x.1.isSome)
  && decide (([e]:List Expr).length + ([]:List Keyword).length + (if ([]:List Keyword).isEmpty then 0 else 1) < 30))=true
 line:(apos.endLine == cpos.line)=true
 trees:backTo cpos (starEach [e] X.env)=[(false,eval e X.env)]
structure M2 (X:Cx) (o:Expr) (m:Str) (apos:Pos) (e f:Expr) (cpos:Pos):Prop where
 base:attributeBase o m X.env (eval o X.env)=eval o X.env
 few:((backTo cpos (starEach [e,f] X.env)).all (fun x=>!x.1) && (backToKw cpos (keywordEach [] X.env)).all (fun x=>x.1.isSome)
  && decide (([e,f]:List Expr).length + ([]:List Keyword).length + (if ([]:List Keyword).isEmpty then 0 else 1) < 30))=true
 line:(apos.endLine == cpos.line)=true
 trees:backTo cpos (starEach [e,f] X.env)=[(false,eval e X.env),(false,eval f X.env)]
def IsD (H:Hp) (a:Addr):Prop:=(∃ kvs,Rd H a (.dK kvs))∨∃ kvs,Rd H a (.dT kvs)
theorem U_ {σ:St} (I:Inv X pins σ H s) (d:IsD H a) :
 s.TypeIs (.ref a) "dict" ∧ (∀ b,Value.ref a = .ref b→∃ ob,s.heap.get? b=some ob∧ob.dict=none)∧(a == sysModules)=false:=by
 rcases d with ⟨kvs,e⟩ | ⟨kvs,e⟩
 ·obtain ⟨_,hd,vs,_,dd⟩:=sZ I.hok e
  refine ⟨dd.typeIs,fun b q=>?_,hd⟩
  cases q
  obtain ⟨ob,_,_,h1,h2,_⟩:=dd
  exact ⟨ob,h1,h2.2.1⟩
 ·obtain ⟨_,hd,xs,_,dd⟩:=uT I.hok e
  refine ⟨dd.typeIs,fun b q=>?_,hd⟩
  cases q
  obtain ⟨ob,_,_,h1,h2,_⟩:=dd
  exact ⟨ob,h1,h2.2.1⟩
section
variable {X:Cx} {pins:List (Addr × Obj)} {σ:St} {H:Hp} {s:Shared} {a:Addr} {y d:V} {u r:Value} {o:Option V} {A:Around} {E:Value→Shared→Prop}
end
section
variable {X:Cx} {o e f:Expr} {apos cpos:Pos} {td ty tx:TE}
end
section
variable {X:Cx} {pins:List (Addr × Obj)} {σ:St} {H:Hp} {s:Shared} {a:Addr} {kvs:List (Key × V)} {A:Around} {E:Value→Shared→Prop}
end
section
variable {X:Cx} {pins:List (Addr × Obj)} {σ:St} {H:Hp} {s:Shared} {a:Addr} {y:V} {u:Value} {A:Around} {E:Value→Shared→Prop}
end
section
variable {κ:Type} [DecidableEq κ]
end
end L2
namespace XK
open PySem PySem.Spec PyProof.Rows L2 My D3
section
variable {K:PySem.W.Frag} {H:Hp}
theorem QM (s:Same H H') (h:L2.Rd H a u):L2.Rd H' a u:=by
 rcases h with h | ⟨o,h⟩
 ·exact .inl (s _ _ h)
 ·exact .inr ⟨o,s _ _ h⟩
theorem Lw {ok:Ok} {x:D} (e:Lq x=some qs) (r:RA K ok pl H v x):∃ a,v = .ref a∧L2.Rd H a (.dK (qs.map fun q=>(.inl q.1,.int q.2))):=by
 cases x with
 | dict kvs =>
  obtain ⟨a,rfl,h⟩:=r.dicE (Ld e)
  rw [U4 e,Lb e] at h
  exact ⟨a,rfl,h⟩
 | none=>cases e
 | bool _=>cases e
 | int _=>cases e
 | str _=>cases e
 | list _=>cases e
 | tuple _=>cases e
end
section
variable {X:Cx} {fl:List Fl} {e a b c ke:Expr} {f fa fb fc fk:FE} {pos:Pos}
def Zw:R2:=fun x y H Q=>∃ p o,y = .ref p∧z_ H p x o∧Q (.bl o.isSome) H
theorem Va (hu:X.A.units + 64 < cLine):OpR X (compareOp .In) Zw:=by
 intro pins s σ H x y v u Q I rx ry h
 obtain ⟨p,o,rfl,g,q⟩:=h
 obtain rfl:u=Value.ref p:=ry
 exact Zv (by omega) I g rx fun s' I'=>⟨.bl o.isSome,H,I',rfl,q⟩
theorem G8:∀ (l:List Value) (ns:List Int),l.length=ns.length→(∀ (j:Nat) (v:Value),l[j]? = some v→∃ n t,ns[j]? = some n∧v=Value.int n t)→IntsAre l ns
 | [],[],_,_=>.nil
 | [],_ :: _,h,_=>by simp at h
 | _ :: _,[],h,_=>by simp at h
 | v :: l,n :: ns,h,g=>by
  obtain ⟨n',t,e1,e2⟩:=g 0 v rfl
  cases e1
  subst e2
  exact .cons _ _ (G8 l ns (by simpa using h) fun j v hv=>by simpa using g (j + 1) v (by simpa using hv))
end
end XK
namespace XK
open PySem PySem.Spec PyProof.Rows L2 My D3
theorem hu1 (h:n + 64 < cLine):n + 1 < cLine:=by omega
abbrev dkI (qs:List (Int × Int)):List (Key × V):=qs.map fun q=>(.inl q.1,.int q.2)
section
variable {K:PySem.W.Frag} {fl:List Fl}
end
section
variable {X:Cx} {fl:List Fl} {e a b c ke:Expr} {f fa fb fc fk:FE} {pos:Pos}
end
end XK
namespace XK
open PySem PySem.Spec PyProof.Rows L2 My D3
def Aa (X:Cx) (a:Addr):Prop:=(∀ xs,X.H₀ a ≠ some (.tup xs))∧(∀ o u,X.H₀ a ≠ some (.frz o u))∧∀ q p,X.H₀ a ≠ some (.tbl q p)
section
variable {X:Cx} {pins:List (Addr × Obj)} {σ:L2.St} {H H':Hp} {s:Shared} {a:Addr} {kvs:List (Key × V)} {o:Obj}
theorem tu (I:L2.Inv X pins σ H s) (h:H a=some (.dK kvs)):Aa X a :=
 ⟨fun xs z=>(by rw [I.base.tups a xs z] at h;cases h),fun o u z=>(by rw [I.base.frzs a o u z] at h;cases h),fun q p z=>(by
  rw [I.base.tbls a q p z] at h;cases h)⟩
theorem Ab (I:L2.Inv X pins σ H s) (hn:Aa X a) (ha:H a ≠ none) (hb:∀ b,b ≠ a→H' b=H b) (hok:HOk X.prog X.w H' s.heap):L2.Inv X pins σ H' s:=by
 have no:∀ b,H b=none→H' b=none:=fun b z=>by
  rw [hb b (fun e=>ha (by rw [← e];exact z))]
  exact z
 refine ⟨I.ok,I.os,I.bare,⟨I.base.keep,I.base.slot,fun b o e n hx=>no b (I.base.free b o e n hx),I.base.there,fun b xs e=>?_,fun b o u e=>?_,fun b q p e=>?_⟩,I.loc,I.cell,no _ I.free,fun x c e=>no _ (I.freeC x c e),fun p hp=>?_,hok,I.len⟩
 ·rw [hb b (fun z=>hn.1 xs (by rw [← z];exact e))]
  exact I.base.tups b xs e
 ·rw [hb b (fun z=>hn.2.1 o u (by rw [← z];exact e))]
  exact I.base.frzs b o u e
 ·rw [hb b (fun z=>hn.2.2 q p (by rw [← z];exact e))]
  exact I.base.tbls b q p e
 ·obtain ⟨h1,h2,h3⟩:=I.pin p hp
  exact ⟨h1,no _ h2,h3⟩
theorem Ac (I:L2.Inv X pins σ H s) (h:H a=some (.dK kvs)) (ho:s.heap.get? a=some o):L2.Inv X pins σ (upd H a (.frz o (.dK kvs))) s:=by
 have mu:Mut (H a):=by rw [h];exact True.intro
 refine Ab I (tu I h) (by rw [h];simp) (fun b hb=>bB hb) (I.hok.write mu (.inl rfl) (fun _ _ _ q=>q) ⟨o,ho⟩ ⟨ho,?_⟩)
 exact (I.hok a _ h).stay (fun _ _ _ q=>q) (fun b q=>by rw [bB (fZ q h (by intro z;cases z))];exact q) (fun b xs q=>by rw [bB (fZ q h (by intro z;cases z))];exact q)
theorem wD (I:L2.Inv X pins σ H s) (hn:Aa X a) (h:H a=some (.frz o (.dK kvs))):L2.Inv X pins σ (upd H a (.dK kvs)) s:=by
 have st:∀ b u,fu X.prog X.w H s.heap b u→fu X.prog X.w (upd H a (.dK kvs)) s.heap b u:=fun b u z =>
  z.stay (fun _ _ _ q=>q) (fun c q=>by rw [bB (fZ q h (by intro z;cases z))];exact q) (fun c xs q=>by rw [bB (fZ q h (by intro z;cases z))];exact q)
 refine Ab I hn (by rw [h];simp) (fun b hb=>bB hb) fun b u e=>?_
 by_cases hb:b=a
 ·subst hb
  rw [bM] at e
  cases e
  exact st _ _ (I.hok b _ h).2
 ·rw [bB hb] at e
  exact st b u (I.hok b u e)
end
def Itk (o:Obj) (a:Addr) (kvs:List (Key × V)):It :=
 ⟨fun i H=>H a=some (.frz o (.dK kvs))∧i < kvs.length,fun i H x H'=>H'=H∧∃ k v,kvs[i]? = some (k,v)∧x=kV k,fun i H=>H a=some (.frz o (.dK kvs))∧kvs.length ≤ i⟩
theorem wF {σ:L2.St} {kvs:List (Key × V)} {o:Obj} {es:Array DictEntry} {ep:Nat} (I:L2.Inv X pins σ H s) (h:H a=some (.frz o (.dK kvs))) (hd:o.data = .dict es ep) :
 ∃ vs,KV kvs vs∧s.heap.DictAt (bV X.prog X.w) a vs ep:=by
 obtain ⟨ho,_,_,vs,rel,o',es',ep',e',c1,c2,c3⟩:=I.hok a _ h
 rw [ho] at e'
 cases e'
 rw [hd] at c2
 cases c2
 exact ⟨vs,rel,o,es,ho,c1,hd,c3⟩
theorem Vb {k:Key} {v:Value} (h:(bV P w).is k v=true):RelV (kV k) v:=by
 rw [vL] at h
 rcases fW h with ⟨i,t,rfl,rfl⟩ | ⟨x,t,rfl,rfl⟩
 ·exact ⟨t,rfl⟩
 ·exact ⟨t,rfl⟩
theorem Cz (o:Obj) (a it:Addr) (kvs:List (Key × V)) {es:Array DictEntry} {ep:Nat} (hd:o.data = .dict es ep):Turn P w K tg (Itk o a kvs) [it] it (fun i h=>h.IsKeyIter it a i kvs.length ep) where
 mem:=by simp
 obj:=fun i h st b hb=>by
  have e:b=it:=by simpa using hb
  subst e
  obtain ⟨o,e,c,d⟩:=st
  exact ⟨o,e,fun v z=>by rw [d] at z;cases z⟩
 keep:=fun i h h' st k=>by
  obtain ⟨o,e,r⟩:=st
  exact ⟨o,k it (by simp) o e,r⟩
 item:=by
  intro X hP hw hK hc i pins s σ H E I hf st hg
  subst hP hw hK
  obtain ⟨hq,hi⟩:=hg
  obtain ⟨vs,rel,dat⟩:=wF I hq hd
  have ln:=rel.length
  rw [ln] at hi
  obtain ⟨f0,f1,f2,f3,f4,f5⟩:=hf it (by simp)
  obtain ⟨⟨k,x⟩,hx⟩:∃ p,vs[i]? = some p:=⟨vs[i],by simp [hi]⟩
  have hk:∃ v,kvs[i]? = some (k,v):=by
   have e1:(vs.map (·.1))[i]? = some k:=by rw [aO,hx];rfl
   rw [← rel.keys,aO] at e1
   cases e2:kvs[i]? with
   | none=>rw [e2] at e1;cases e1
   | some p =>
    rw [e2] at e1
    obtain ⟨k',v⟩:=p
    have:k'=k:=by simpa using e1
    subst this
    exact ⟨v,rfl⟩
  obtain ⟨v,hk⟩:=hk
  rw [ln] at st
  refine wpAny_pyNext_dict_item st dat hx fun key h' hkey hit' hs'=>?_
  have I1:L2.Inv X pins σ H { s with heap:=h' }:=I.turned (t':=s.toks) (fun b o hb e=>(hs'.2 b hb).trans e) f0 f1 f3 f4 f5
  obtain ⟨oi,e,c,d⟩:=id hit'
  exact ⟨key,rfl,yh (s:={ s with heap:=h' }) e c d (by decide) ⟨kV k,H,I1,Vb hkey,⟨rfl,k,v,hk,rfl⟩,by rw [ln];exact hit',fun b hb=>(hf b hb).1⟩⟩
 done:=by
  intro X hP hw hK hc i pins s σ H E I hf st hg
  subst hP hw hK
  obtain ⟨hq,hi⟩:=hg
  obtain ⟨vs,rel,dat⟩:=wF I hq hd
  have ln:=rel.length
  rw [ln] at st hi
  obtain ⟨f0,f1,f2,f3,f4,f5⟩:=hf it (by simp)
  exact wpAny_pyNext_dict_end (I.ok.hd hc) st dat (aP hi) fun h' eb=>⟨rfl,I.turned (t':=s.toks) (fun b o hb e=>eb b o hb e) f0 f1 f3 f4 f5⟩
 self:=fun _ _ _ _ _ st h=>wpAny_pyIter_keyiter st h
def XM (X:Cx) (tl:TE):TI:=fun σ H R=>tl σ H fun x H1=>∃ a kvs,x = .ref a∧((H1 a=some (.dK kvs)∧∀ o,Aa X a→R (Itk o a kvs) (upd H1 a (.frz o (.dK kvs))))∨∃ o,H1 a=some (.frz o (.dK kvs))∧R (Itk o a kvs) H1)
theorem Vc {l:Expr} (hl:PE X l tl):PI X tg l (XM X tl):=by
 intro pins s σ H R I h
 refine thn (hl pins s σ H _ I h) fun v s1 ⟨x,H1,I1,r1,q1⟩=>?_
 obtain ⟨a,kvs,e,q⟩:=q1
 subst e
 cases r1
 have rd:L2.Rd H1 a (.dK kvs):=q.elim (fun z=>.inl z.1) (fun ⟨o,z,_⟩=>.inr ⟨o,z⟩)
 obtain ⟨_,lo,vs,rel,ob,es,ep,eo,c1,hd,c3⟩:=sZ I1.hok rd
 have dat:s1.heap.DictAt (bV X.prog X.w) a vs ep:=⟨ob,es,eo,c1,hd,c3⟩
 refine wpAny_pyIter_dict lo dat ?_
 have Ip:L2.Inv X pins σ H1 { s1 with heap:=s1.heap.push { cls:=.type "dict_keyiterator", data:=.fields #[.ref a,.int 0 0,.int vs.length 0,.int ep 0] } }:=I1.kept (t':=s1.toks) fun b o e=>Heap.get?_push_of_some _ e
 have st:(s1.heap.push { cls:=.type "dict_keyiterator", data:=.fields #[.ref a,.int 0 0,.int vs.length 0,.int ep 0] }).IsKeyIter s1.heap.objs.size a 0 kvs.length ep:=⟨_,Heap.get?_push_size _ rfl,rfl,by rw [rel.length];rfl⟩
 have fr:H1 s1.heap.objs.size=none:=I1.hok.fresh (aL _)
 rcases q with ⟨hq,q⟩ | ⟨o,hq,q⟩
 ·refine ⟨s1.heap.objs.size,[s1.heap.objs.size],_,_,_,rfl,Ac Ip hq (Heap.get?_push_of_some _ eo),Cz ob a _ kvs hd,st,fun b hb=>?_,q ob (tu I1 hq)⟩
  have e:b=s1.heap.objs.size:=by simpa using hb
  subst e
  refine I1.fpOk (aL _) ?_
  rw [bB (fun z=>by rw [z,hq] at fr;cases fr)]
  exact fr
 ·have eq:ob=o:=by
   have:=(I1.hok a _ hq).1
   rw [eo] at this
   exact b_.inj this
  subst eq
  refine ⟨s1.heap.objs.size,[s1.heap.objs.size],_,_,_,rfl,Ip,Cz ob a _ kvs hd,st,fun b hb=>?_,q⟩
  have e:b=s1.heap.objs.size:=by simpa using hb
  subst e
  exact I1.fpOk (aL _) fr
section
variable {K:PySem.W.Frag} {H:Hp} {a:Addr} {kvs:List (Key × V)} {o:Obj}
mutual
theorem wG {ok:Ok} (h:H a=some (.dK kvs)):∀ {v:V} {d:D},RA K ok true H v d→RA K ok true (upd H a (.frz o (.dK kvs))) v d
 | _,_,.non=>.non
 | _,_,.bl b=>.bl b
 | _,_,.int i=>.int i
 | _,_,.str x=>.str x
 | _,_,.lst e k q=>.lst (by rw [bB (fZ e h (by intro z;cases z))];exact e) k (lY h q)
 | _,_,.lsk e k q=>.lsk (by
  rcases e with ⟨o',e⟩ | e
  ·exact .inl ⟨o',by rw [bB (fZ e h (by intro z;cases z))];exact e⟩
  ·exact .inr e) k (lY h q)
 | _,_,.tup e q=>.tup (by unfold gC;rw [bB (fZ e h (by intro z;cases z))];exact e) (lY h q)
 | _,_,.dic (a:=b) e g k=>by
  by_cases hb:b=a
  ·subst hb
   have g':=g.upd (o:=.frz o (.dK kvs)) h
   rw [h] at e
   exact .dik (by rw [bM];injection e with e;rw [e]) g' rfl
  ·exact .dic (by rw [bB hb];exact e) (g.upd h) k
 | _,_,.dik e g k=>.dik (by rw [bB (fZ e h (by intro z;cases z))];exact e) (g.upd h) k
theorem lY {ok:Ok} (h:H a=some (.dK kvs)):∀ {v:List V} {d:List D},RAs K ok true H v d→RAs K ok true (upd H a (.frz o (.dK kvs))) v d
 | _,_,.nil=>.nil
 | _,_,.cons e q=>.cons (wG h e) (lY h q)
end
mutual
theorem Ad {ok:Ok} (h:H a=some (.frz o (.dK kvs))):∀ {v:V} {d:D},RA K ok false H v d→RA K ok false (upd H a (.dK kvs)) v d
 | _,_,.non=>.non
 | _,_,.bl b=>.bl b
 | _,_,.int i=>.int i
 | _,_,.str x=>.str x
 | _,_,.lst e k q=>.lst (by rw [bB (fZ e h (by intro z;cases z))];exact e) k (jT h q)
 | _,_,.lsk e k q=>by cases k
 | _,_,.tup e q=>.tup (by unfold gC;rw [bB (fZ e h (by intro z;cases z))];exact e) (jT h q)
 | _,_,.dic e g k=>.dic (by rw [bB (fZ e h (by intro z;rcases g.or with ⟨ks,y⟩ | ⟨ks,y⟩ <;> (rw [y] at z;cases z)))];exact e) (g.imp fun _ _ t=>by unfold gC;rw [bB (fZ t h (by intro z;cases z))];exact t) k
 | _,_,.dik e _ k=>by cases k
theorem jT {ok:Ok} (h:H a=some (.frz o (.dK kvs))):∀ {v:List V} {d:List D},RAs K ok false H v d→RAs K ok false (upd H a (.dK kvs)) v d
 | _,_,.nil=>.nil
 | _,_,.cons e q=>.cons (Ad h e) (jT h q)
end
end
section
variable {X:Cx} {fl fl':List Fl} {e b c elt tg iter:Expr} {es ifs:List Expr} {k:Kd} {f fa fb fc fx:FE} {ft gt:FT} {pos:Pos} {scope:Scope} {ix L TT:List Nat} {fi:FA} {g:FG}
theorem tE {σ:L2.St} {Q:VK} {t:Nat} {r:List D} {J:It} {Dl:Addr} {tb:Tb H1} (htg:∀ j ∈ TT,j < t) (R:Rel X.K fl' ⟨H1,H1,fun _=>none,fun _=>[],tb⟩ ow0 (pF t ix σ) H1 (iK t ix δ))
 (hl:l.length ≤ 100000) (e3:iY g ft f (iK t ix δ) l=some r) (hD:H1 Dl=none)
 (wk:∀ H2,Same H1 H2→∀ i:Nat,(∀ d,l[i]? = some d→J.go i H2∧∀ x H3,J.yld i H2 x H3→Same H2 H3∧RA X.K ok1 true H3 x d)∧(l.length ≤ i→J.stop i H2))
 (q:∀ H2 xs,Same H1 H2→H2 Dl=some (.lst xs)→RAs X.K (fun b=>okN H1 b∧b ≠ Dl) false H2 xs r→Q (.ref Dl) H2) :
 ∃ W:Nat→Nat→List V→Hp→Prop,(∃ m,W 0 m [] (upd H1 Dl (.lst []))) ∧
  ∀ i m xs H2,W i m xs H2→H2 Dl=some (.lst xs)∧((J.stop i H2∧Q (.ref Dl) H2)∨(J.go i H2∧xs.length < sizeLine∧∀ x H3,J.yld i H2 x H3→tDG X.K fl' TT g x (pF t ix σ) H3 fun σ4 H4=>σ4.drop t=(pF t ix σ).drop t ∧
   tDT X.K fl' ft σ4 H4 fun b H5=>if b=true then tD X.K fl' .C f σ4 H5 fun v H6=>H6 Dl=some (.lst xs)∧∃ m',m' < m∧W (i + 1) m' (xs++[v]) (upd H6 Dl (.lst (xs++[v]))) else ∃ m',m' < m∧W (i + 1) m' xs H5)):=by
 let okD:Ok:=fun b=>okN H1 b∧b ≠ Dl
 refine ⟨fun i m xs H2=>m=l.length - i∧H2 Dl=some (.lst xs)∧Same H1 H2∧xs.length ≤ i∧i ≤ l.length∧∃ ds rest,RAs X.K okD false H2 xs ds∧iY g ft f (iK t ix δ) (l.drop i)=some rest∧r=ds++rest,
  ⟨_,rfl,bM,cN hD _,aL _,cZ _,[],r,.nil,by simpa using e3,rfl⟩,?_⟩
 rintro i m xs H2 ⟨rfl,hDl,s2,hxl,hil,ds,rest,hr,hc,rfl⟩
 refine ⟨hDl,?_⟩
 obtain ⟨w1,w2⟩:=wk H2 s2 i
 by_cases hlt:i < l.length
 ·have hdrop:l.drop i=l[i] :: l.drop (i + 1):=jm hlt
  rw [hdrop,iY] at hc
  obtain ⟨δ1,e5,hc⟩:=bind1 hc
  obtain ⟨bb,e6,hc⟩:=bind1 hc
  obtain ⟨go,yl⟩:=w1 l[i] (aD hlt)
  refine .inr ⟨go,q_ (aW hxl (aW hil hl)) (by decide),fun x H3 hy=>?_⟩
  obtain ⟨s3,r3⟩:=yl x H3 hy
  have s13:=s2.trans s3
  have Rb:=R.grow s13
  refine ⟨_,_,_,_,δ1,Rb,r3.imp (fun _ _=>⟨fun i z=>(by cases z),fun i z=>(by cases z)⟩) (fun z=>z),e5,fun σ4 R4 keep4=>⟨?_,?_⟩⟩
  ·apply dN
   intro n
   rw [eY,eY]
   exact keep4 (t + n) fun z=>absurd (htg _ z) (by omega)
  ·refine ⟨_,_,δ1,bb,R4,e6,fun H5 s5=>?_⟩
   cases bb with
   | false =>
    rw [if_neg cg] at hc ⊢
    have s35:=s3.trans s5
    exact ⟨l.length - (i + 1),by omega,rfl,s35 _ _ hDl,s2.trans s35,by omega,hlt,ds,rest,hr.same s35,hc,rfl⟩
   | true =>
    rw [if_pos rfl] at hc ⊢
    obtain ⟨y,e7,hc⟩:=bind1 hc
    obtain ⟨l',e8,hc⟩:=bind1 hc
    cases hc
    refine ⟨_,_,δ1,y,R4.grow s5,e7,fun v H6 s6 r6=>?_⟩
    have s35:=s3.trans s5
    have s36:=s35.trans s6
    refine ⟨s36 _ _ hDl,l.length - (i + 1),by omega,rfl,bM,?_,by rw [bK,gh];omega,hlt,ds++[y],l',?_,e8,by simp⟩
    ·intro b o hb
     rw [bB (fun z=>by subst z;rw [hD] at hb;cases hb)]
     exact (s2.trans s36) b o hb
    ·have nd:¬ okD Dl:=fun z=>z.2 rfl
     have s05:Same H1 H5:=s2.trans s35
     have ry:RA X.K okD false H6 v y:=RA.imp (fun b z=>⟨s05.free z,fun e=>by subst e;rw [okN,s35 _ _ hDl] at z;cases z⟩) (fun z=>z) r6
     exact ((hr.same s36).append (.cons ry .nil)).upd (s36 _ _ hDl) nd
 ·have ed:l.drop i=[]:=jN (by omega)
  rw [ed,iY] at hc
  cases hc
  refine .inl ⟨w2 (by omega),?_⟩
  rw [cH] at q
  exact q H2 xs s2 hDl hr
theorem Lx {o:Obj} (h:H1 a=some (.frz o (.dK (dkI qs)))):∀ H2,Same H1 H2→∀ i:Nat,(∀ d,(qs.map fun q=>(.int q.1:D))[i]? = some d→(Itk o a (dkI qs)).go i H2∧∀ x H3,(Itk o a (dkI qs)).yld i H2 x H3→Same H2 H3∧RA K ok1 true H3 x d)∧((qs.map fun q=>(.int q.1:D)).length ≤ i→(Itk o a (dkI qs)).stop i H2):=by
 intro H2 s2 i
 refine ⟨fun d hd=>?_,fun hi=>⟨s2 _ _ h,by simpa using hi⟩⟩
 rw [aO] at hd
 cases e:qs[i]? with
 | none=>rw [e] at hd;cases hd
 | some p =>
  rw [e] at hd
  cases hd
  have hi:i < qs.length:=by
   rcases dw i qs.length with z | z
   ·exact z
   ·rw [aP z] at e;cases e
  refine ⟨⟨s2 _ _ h,by simpa using hi⟩,fun x H3 hy=>?_⟩
  obtain ⟨rfl,k,v,hk,rfl⟩:=hy
  rw [aO,e] at hk
  cases hk
  exact ⟨Same.refl _,.int _⟩
def G9 (X:Cx) (Q:VK):VK:=fun v H2=>Q v H2∨∃ a o kvs,Aa X a∧H2 a=some (.frz o (.dK kvs))∧Q v (upd H2 a (.dK kvs))
theorem QS {σ:L2.St} {H:Hp} {Q:VK} {T:List Str} (hfl:∀ i,i < T.length + ix.length→fl'[i]? = some .A) (htg:∀ j ∈ TT,j < T.length) (h:tD X.K fl .FC (ju (Cq fx) g ft f T.length ix) σ H Q) :
 BL (XM X (tD X.K fl .P fx)) (tDG X.K fl' TT g) (tDT X.K fl' ft) (tD X.K fl' .C f) T.length (pF T.length ix) σ H (G9 X Q):=by
 obtain ⟨G,ow,δ,d,R,hf,q⟩:=h
 obtain ⟨l,e1,e2⟩:=bind1 hf
 by_cases hl:l.length ≤ 100000
 case neg=>rw [if_neg hl] at e2;cases e2
 rw [if_pos hl] at e2
 obtain ⟨r,e3,e4⟩:=bind1 e2
 cases e4
 obtain ⟨x,e5,e6⟩:=bind1 e1
 cases e7:Lq x with
 | none=>rw [e7] at e6;cases e6
 | some qs =>
 rw [e7] at e6
 cases e6
 refine ⟨G,ow,δ,x,R,e5,fun v H1 s1 r1=>?_⟩
 have R1:=R.grow s1
 have C1:=zR (fl':=fl') T.length ix hfl R1 (Same.refl H1)
 obtain ⟨a,rfl,hr⟩:=Lw e7 r1
 refine ⟨a,dkI qs,rfl,?_⟩
 rcases hr with hr | ⟨o,hr⟩
 ·refine .inl ⟨hr,fun o lo Dl hD=>?_⟩
  have hDa:Dl ≠ a:=fun z=>by rw [z,bM] at hD;cases hD
  have tb2:Tb (upd H1 a (.frz o (.dK (dkI qs)))):=fun t ht=>by rw [bB (fZ (C1.tb t ht) hr (by simp))];exact C1.tb t ht
  have C2:Rel X.K fl' ⟨upd H1 a (.frz o (.dK (dkI qs))),upd H1 a (.frz o (.dK (dkI qs))),fun _=>none,fun _=>[],tb2⟩ ow0 (pF T.length ix σ) (upd H1 a (.frz o (.dK (dkI qs)))) (iK T.length ix δ):=by
   refine ⟨Same.refl _,Same.refl _,C1.len,fun i b h=>(by cases h),fun i j b h=>(by cases h),fun i h=>rfl,fun i d h1 hn h2=>?_,C1.oo,fun i b h=>(by cases h),fun i j b h=>(by cases h),fun i j b h=>(by cases h),fun i h=>rfl,fun i d hn h1=>?_⟩
   ·obtain ⟨v,h3,h4⟩:=C1.dat i d h1 hn h2
    exact ⟨v,h3,wG hr h4⟩
   ·have hi:i < T.length + ix.length:=by
     have h2:i < (iK T.length ix δ).length:=by
      rcases dw i (iK T.length ix δ).length with z | z
      ·exact z
      ·rw [aP z] at h1;cases h1
     unfold iK at h2
     simpa using h2
    rw [hfl i hi] at hn
    cases hn
  refine tE (Q:=G9 X Q) htg C2 hl e3 hD (Lx bM) fun H2 xs s2 hDl rs=>Or.inr ⟨a,o,dkI qs,lo,s2 _ _ bM,?_⟩
  have sm:Same H (upd H2 a (.dK (dkI qs))):=fun b u hb=>by
   by_cases z:b=a
   ·subst z
    have:=s1 _ _ hb
    rw [hr] at this
    rw [bM]
    exact this
   ·rw [bB z]
    exact s2 b u (by rw [bB z];exact s1 b u hb)
  refine q _ _ sm (.inr ⟨Dl,xs,r,rfl,rfl,s1.free (by rw [bB hDa] at hD;exact hD),by rw [bB hDa];exact hDl,?_⟩)
  refine (jT (s2 _ _ bM) rs).imp (fun b z=>⟨?_,z.2⟩) (fun z=>z)
  have z1:=z.1
  unfold okN at z1 ⊢
  have hb:b ≠ a:=fun w=>by rw [w,bM] at z1;cases z1
  rw [bB hb] at z1
  exact s1.free z1
 ·refine .inr ⟨o,hr,fun Dl hD=>?_⟩
  have C2:Rel X.K fl' ⟨H1,H1,fun _=>none,fun _=>[],C1.tb⟩ ow0 (pF T.length ix σ) H1 (iK T.length ix δ):=C1
  refine tE (Q:=G9 X Q) htg C2 hl e3 hD (Lx hr) fun H2 xs s2 hDl rs=>Or.inl (q _ _ (s1.trans s2) (.inr ⟨Dl,xs,r,rfl,rfl,s1.free hD,hDl,rs.imp (fun b z=>⟨s1.free z.1,z.2⟩) (fun z=>z)⟩))
theorem Ly (hc:X.calm=true) (T Vn:List Str) (ix:List Nat) (hi:DE X fl .P iter fx)
 (hg:∀ cl C s3 H3 fp,DG (blk X (T++Vn) scope cl C s3 H3 fp) fl' TT tg g) (ht:∀ cl C s3 H3 fp,PTs (blk X (T++Vn) scope cl C s3 H3 fp) ifs (tDT X.K fl' ft)) (he:∀ cl C s3 H3 fp,DE (blk X (T++Vn) scope cl C s3 H3 fp) fl' .C elt f)
 (hfl:∀ i,i < T.length + ix.length→fl'[i]? = some .A:=by decide) (htg:∀ j ∈ TT,j < T.length:=by decide)
 (hB:vV X.N X.env.scope.names scope.names Vn ix=true:=by rfl) (hk:scope.kind = .function:=by rfl) (hcell:∀ y ∈ scope.names,y.2 ≠ .cell:=by decide +kernel)
 (hnames:∀ x ∈ scope.names,x.2 = .local→scope.names.lookup x.1=some .local:=by decide +kernel)
 (hfr:∀ x ∈ scope.names,x.2 = .free→x.1 ∈ Vn:=by decide +kernel) (hs:∀ x,foldedSetIterable iter X.env x=pure x:=by intro _;rfl) :
 DE X fl .FC (.ListComp elt [⟨tg,iter,ifs,0⟩] scope pos) (ju (Cq fx) g ft f T.length ix):=by
 intro pins s σ H Q I h
 have run:=zB (g:=tDG X.K fl' TT g) (tt:=tDT X.K fl' ft) (te:=tD X.K fl' .C f) (pos:=pos) hc T Vn ix (Vc hi) hg ht he hB hk hcell hnames hfr hs pins s σ H (G9 X Q) I (QS hfl htg h)
 refine thn run fun v s' ⟨x,H2,I2,rx,hq⟩=>?_
 rcases hq with hq | ⟨a,o,kvs,lo,ha,hq⟩
 ·exact ⟨x,H2,I2,rx,hq⟩
 ·exact ⟨x,_,wD I2 lo ha,rx,hq⟩
end
end XK
variable {a0:Addr} {o0:Obj}
namespace XK
open PySem PyProof.Rows
theorem CG {Q:Option Obj→Shared→Prop} (h:Q (s.heap.get? a) s):wpAny M A (loadIfAlive a) Q E s:=fun _ _ _=>h
abbrev wH (h:Heap) (z a0 TI TO:Addr) (b:Bool):Prop :=
 h.get? z=some { cls:=.type "zip", dict:=none,data:=.fields #[rawInt a0,.bool b,.bool false,.ref TI,.ref TO],slots:=#[] }
section
variable {prog:Program} {w:World} {A:Around} {E:Value→Shared→Prop} {s:Shared}
theorem wI {TI TO:Addr} {b:Bool} {Q:Bool→Shared→Prop} (hz:wH s.heap z a0 TI TO b) (h0:s.heap.get? a0=some o0) (hQ:∀ h',wH h' z a0 TI TO true→Heap.SameBut z s.heap h'→Q false { s with heap:=h' }) :
 wpAny (model prog w) A (Builtin.SmallTypes.ownedTupleIsFree (.ref z)) Q E s:=by
 unfold Builtin.SmallTypes.ownedTupleIsFree
 refine wpAny_bind (wpAny_field hz rfl (x:=rawInt a0) rfl ?_)
 show wpAny _ _ (loadIfAlive ((a0:Int)).toNat >>= _) _ _ _
 refine wpAny_bind (CG ?_)
 rw [cO,h0]
 show wpAny _ _ (field (.ref z) 1 >>= _) _ _ _
 refine wpAny_bind (wpAny_field hz rfl (x:=.bool b) rfl ?_)
 cases b with
 | true =>
  show wpAny _ _ (pure false) _ _ _
  exact wpAny_pure (hQ s.heap hz ⟨rfl,fun _ _=>rfl⟩)
 | false =>
  show wpAny _ _ (setField (.ref z) 1 (.bool true) >>= _) _ _ _
  refine wpAny_bind (wpAny_setField_rec hz (by simp) fun h₁ hz₁ hs₁=>wpAny_pure (hQ h₁ hz₁ hs₁))
theorem Lz {TI TO:Addr} {xs:Array Value} {x y:Value} {b:Bool} (D:ZipApart z TI TO i1 i2 l1 l2)
 (hz:wH s.heap z a0 TI TO b) (h0:s.heap.get? a0=some o0) (hTI:IsPair s.heap TI (.ref i1) (.ref i2))
 (h1:s.heap.IsListIter i1 l1 k1) (h2:s.heap.IsListIter i2 l2 k2) (hl1:s.heap.IsList l1 xs) (hl2:s.heap.IsList l2 ys) (hx:xs[k1]? = some x) (hy:ys[k2]? = some y)
 (hQ:∀ h',wH h' z a0 TI TO true→h'.IsListIter i1 l1 (k1 + 1)→h'.IsListIter i2 l2 (k2 + 1)→IsPair h' s.heap.objs.size x y →
  (∀ c o,c ≠ z→c ≠ i1→c ≠ i2→s.heap.get? c=some o→h'.get? c=some o)→Q (.ref s.heap.objs.size) { s with heap:=h' }) :
 wpAny (model prog w) A (Builtin.«zip.__next__» ⟨[.ref z],[]⟩) (fun fin s'=>∃ v,fin = .done (.ret v)∧Q v s') E s:=by
 show wpAny _ _ (field (.ref z) 2 >>= _) _ _ _
 refine wpAny_bind (wpAny_field hz rfl (x:=.bool false) rfl ?_)
 show wpAny _ _ (field (.ref z) 3 >>= _) _ _ _
 refine wpAny_bind (wpAny_field hz rfl (x:=.ref TI) rfl ?_)
 refine wpAny_bind (wpAny_seqItems hTI rfl ?_)
 show wpAny _ _ (Builtin.SmallTypes.ownedTupleIsFree (.ref z) >>= _) _ _ _
 refine wpAny_bind (wI hz h0 fun h₁ hz₁ hs₁=>?_)
 simp only [iu,if_false]
 refine wpAny_bind ?_
 simp only [← rm,o_,List.forIn_nil]
 refine wpAny_bind (wpAny_bind (wpAny_holding ?_))
 show wpAny _ _ (Builtin.SmallTypes.nextOf (.ref i1) >>= _) _ _ _
 refine wpAny_bind (wpAny_nextOf_list_item (h1.extBut hs₁.extBut D.i1z) (hl1.extBut hs₁.extBut D.l1z) hx fun h₂ h1₂ hs₂=>wpAny_pure (wpAny_pure ?_))
 refine wpAny_bind (wpAny_bind (wpAny_holding ?_))
 show wpAny _ _ (Builtin.SmallTypes.nextOf (.ref i2) >>= _) _ _ _
 refine wpAny_bind (wpAny_nextOf_list_item ((h2.extBut hs₁.extBut D.i2z).extBut hs₂.extBut D.i12.symm) ((hl2.extBut hs₁.extBut D.l2z).extBut hs₂.extBut D.l2i1) hy fun h₃ h2₃ hs₃=>wpAny_pure (wpAny_pure (wpAny_pure ?_)))
 show wpAny _ _ (newTuple [x,y] >>= _) _ _ _
 refine wpAny_bind (wpAny_newTuple (wpAny_pure ⟨_,rfl,?_⟩))
 have hsz:h₃.objs.size=s.heap.objs.size:=by rw [hs₃.1,hs₂.1,hs₁.1]
 show Q (.ref h₃.objs.size) _
 have k3:∀ c o,c ≠ z→c ≠ i1→c ≠ i2→s.heap.get? c=some o→h₃.get? c=some o:=fun c o c1 c3 c4 e=>hs₃.extBut _ _ c4 (hs₂.extBut _ _ c3 (hs₁.extBut _ _ c1 e))
 have hz₃:wH h₃ z a0 TI TO true:=hs₃.extBut _ _ D.i2z.symm (hs₂.extBut _ _ D.i1z.symm hz₁)
 have up:∀ c o,h₃.get? c=some o→(h₃.push { cls:=.type "tuple", data:=.seq #[x,y] }).get? c=some o:=fun c o e=>Heap.get?_push_of_some _ e
 rw [hsz]
 refine hQ _ (up _ _ hz₃) (((h1₂.extBut hs₃.extBut D.i12)).at fun o e=>up _ o e) (h2₃.at fun o e=>up _ o e) ?_ fun c o c1 c3 c4 e=>up c o (k3 c o c1 c3 c4 e)
 rw [← hsz]
 exact Heap.get?_push_size _ rfl
theorem LC {TI TO:Addr} {xs:Array Value} {b:Bool} {Q:Fin→Shared→Prop} (hh:A.handled=none) (D:ZipApart z TI TO i1 i2 l1 l2)
 (hz:wH s.heap z a0 TI TO b) (h0:s.heap.get? a0=some o0) (hTI:IsPair s.heap TI (.ref i1) (.ref i2))
 (h1:s.heap.IsListIter i1 l1 k1) (h2:s.heap.IsListIter i2 l2 k2) (hl1:s.heap.IsList l1 xs) (hl2:s.heap.IsList l2 ys) (hend:xs[k1]? = none∨ys[k2]? = none)
 (hE:∀ h' e,(∀ c o,c ≠ z→c ≠ i1→c ≠ i2→s.heap.get? c=some o→h'.get? c=some o)→(∃ o,h'.get? e=some o∧o.cls = .type "StopIteration")→E (.ref e) { s with heap:=h' }) :
 wpAny (model prog w) A (Builtin.«zip.__next__» ⟨[.ref z],[]⟩) Q E s:=by
 show wpAny _ _ (field (.ref z) 2 >>= _) _ _ _
 refine wpAny_bind (wpAny_field hz rfl (x:=.bool false) rfl ?_)
 show wpAny _ _ (field (.ref z) 3 >>= _) _ _ _
 refine wpAny_bind (wpAny_field hz rfl (x:=.ref TI) rfl ?_)
 refine wpAny_bind (wpAny_seqItems hTI rfl ?_)
 show wpAny _ _ (Builtin.SmallTypes.ownedTupleIsFree (.ref z) >>= _) _ _ _
 refine wpAny_bind (wI hz h0 fun h₁ hz₁ hs₁=>?_)
 simp only [iu,if_false]
 refine wpAny_bind ?_
 simp only [← rm,o_,List.forIn_nil]
 refine wpAny_bind (wpAny_bind (wpAny_holding ?_))
 show wpAny _ _ (Builtin.SmallTypes.nextOf (.ref i1) >>= _) _ _ _
 cases hx:xs[k1]? with
 | none =>
  refine wpAny_bind (wpAny_nextOf_list_end hh (h1.extBut hs₁.extBut D.i1z) (hl1.extBut hs₁.extBut D.l1z) hx fun h₂ e hs₂ he=>?_)
  exact hE h₂ e (fun c o c1 c3 _ x=>hs₂ _ _ c3 (hs₁.extBut _ _ c1 x)) he
 | some x =>
  have hy:ys[k2]? = none:=by rcases hend with h | h;rw [hx] at h;cases h;exact h
  refine wpAny_bind (wpAny_nextOf_list_item (h1.extBut hs₁.extBut D.i1z) (hl1.extBut hs₁.extBut D.l1z) hx fun h₂ h1₂ hs₂=>wpAny_pure (wpAny_pure ?_))
  refine wpAny_bind (wpAny_bind (wpAny_holding ?_))
  show wpAny _ _ (Builtin.SmallTypes.nextOf (.ref i2) >>= _) _ _ _
  refine wpAny_bind (wpAny_nextOf_list_end hh ((h2.extBut hs₁.extBut D.i2z).extBut hs₂.extBut D.i12.symm) ((hl2.extBut hs₁.extBut D.l2z).extBut hs₂.extBut D.l2i1) hy fun h₄ e hs₄ he=>?_)
  exact hE h₄ e (fun c o c1 c3 c4 x=>hs₄ _ _ c4 (hs₂.extBut _ _ c3 (hs₁.extBut _ _ c1 x))) he
theorem Jg {TI TO:Addr} {xs:Array Value} {x y:Value} {b:Bool} {Q:Option Value→Shared→Prop} (D:ZipApart z TI TO i1 i2 l1 l2)
 (hz:wH s.heap z a0 TI TO b) (h0:s.heap.get? a0=some o0) (hTI:IsPair s.heap TI (.ref i1) (.ref i2))
 (h1:s.heap.IsListIter i1 l1 k1) (h2:s.heap.IsListIter i2 l2 k2) (hl1:s.heap.IsList l1 xs) (hl2:s.heap.IsList l2 ys) (hx:xs[k1]? = some x) (hy:ys[k2]? = some y)
 (hQ:∀ h',wH h' z a0 TI TO true→h'.IsListIter i1 l1 (k1 + 1)→h'.IsListIter i2 l2 (k2 + 1)→IsPair h' s.heap.objs.size x y →
  (∀ c o,c ≠ z→c ≠ i1→c ≠ i2→s.heap.get? c=some o→h'.get? c=some o)→Q (some (.ref s.heap.objs.size)) { s with heap:=h' }) :
 wpAny (model prog w) A (pyNext (.ref z)) Q E s:=by
 have hT:s.TypeIs (.ref z) "zip" := ⟨_,hz,rfl⟩
 unfold pyNext
 exact wpAny_bind (wpAny_attempt (wpAny_callSpecial?_slot (name:=Str.ofString "__next__") hT F.slot_zip_next
  (wpAny_call_entry F.slot_zip_next hT F.entry_zip_next (Lz D hz h0 hTI h1 h2 hl1 hl2 hx hy fun h' a1 a2 a3 a4 a5=>wpAny_pure (hQ h' a1 a2 a3 a4 a5)) (F.args_zip_next_1 _))))
theorem Jh {TI TO:Addr} {xs:Array Value} {b:Bool} {Q:Option Value→Shared→Prop} (hh:A.handled=none) (D:ZipApart z TI TO i1 i2 l1 l2)
 (hz:wH s.heap z a0 TI TO b) (h0:s.heap.get? a0=some o0) (hTI:IsPair s.heap TI (.ref i1) (.ref i2))
 (h1:s.heap.IsListIter i1 l1 k1) (h2:s.heap.IsListIter i2 l2 k2) (hl1:s.heap.IsList l1 xs) (hl2:s.heap.IsList l2 ys) (hend:xs[k1]? = none∨ys[k2]? = none)
 (hQ:∀ h',(∀ c o,c ≠ z→c ≠ i1→c ≠ i2→s.heap.get? c=some o→h'.get? c=some o)→Q none { s with heap:=h' }):wpAny (model prog w) A (pyNext (.ref z)) Q E s:=by
 have hT:s.TypeIs (.ref z) "zip" := ⟨_,hz,rfl⟩
 unfold pyNext
 refine wpAny_bind (wpAny_attempt (wpAny_callSpecial?_slot (name:=Str.ofString "__next__") hT F.slot_zip_next
  (wpAny_call_entry F.slot_zip_next hT F.entry_zip_next (LC hh D hz h0 hTI h1 h2 hl1 hl2 hend fun h' e hk he=>?_) (F.args_zip_next_1 _))))
 obtain ⟨o,ho,hc⟩:=he
 refine wpAny_bind (wpAny_isInstance (T := "StopIteration") (b:=true) ⟨o,ho,hc⟩ isSubtype_stop ?_)
 exact wpAny_pure (hQ _ hk)
end
end XK
namespace XK
open PySem PyProof.Rows
structure LZ (h:Heap) (base:Nat) (z TI TO i1 i2 l1 l2 S:Addr) (xs ys:Array Value) (i:Nat) (acc:Array Value):Prop where
 ti:IsPair h TI (.ref i1) (.ref i2)
 j1:h.IsListIter i1 l1 i
 j2:h.IsListIter i2 l2 i
 q1:h.IsList l1 xs
 q2:h.IsList l2 ys
 zz:(i=0∧IsZip h z TI TO .none∧∃ a b,IsPair h TO a b)∨∃ a0 b o0,base ≤ a0∧wH h z a0 TI TO b∧h.get? a0=some o0
 sz:base ≤ h.objs.size
 al:acc.size=i
 ac:∀ j,j < i→∃ a x y,acc[j]? = some (.ref a)∧base ≤ a∧xs[j]? = some x∧ys[j]? = some y∧IsPair h a x y
 inj:∀ (j j':Nat) (a:Addr),acc[j]? = some (.ref a)→acc[j']? = some (.ref a)→j=j'
 ss:∃ c,h.get? S=some { cls:=.type "list", dict:=none,data:=.seq acc c,slots:=#[] }
section
variable {prog:Program} {w:World} {A:Around} {R:Result→Shared→Prop} {z TI TO i1 i2 l1 l2 S:Addr} {xs ys:Array Value} {base:Nat}
theorem QT (hh:A.in1.handled=none) (D:ZipApart z TI TO i1 i2 l1 l2) (res:Value) (hb:∀ c,c ∈ [z,TI,TO,i1,i2,l1,l2,S]→c < base) (hS:S ∉ [z,TI,TO,i1,i2,l1,l2]) (hn:xs.size ≤ sizeLine) :
 ∀ (k i:Nat) (s:Shared) (acc:Array Value),min xs.size ys.size - i=k→i ≤ min xs.size ys.size→LZ s.heap base z TI TO i1 i2 l1 l2 S xs ys i acc →
 (∀ h' acc',(∀ c o,c ∉ [z,TO,i1,i2,S]→s.heap.get? c=some o→h'.get? c=some o)→acc'.size=min xs.size ys.size →
  (∀ j,j < min xs.size ys.size→∃ a x y,acc'[j]? = some (.ref a)∧base ≤ a∧xs[j]? = some x∧ys[j]? = some y∧IsPair h' a x y)→(∀ (j j':Nat) (a:Addr),acc'[j]? = some (.ref a)→acc'[j']? = some (.ref a)→j=j') →
  (∃ c,h'.get? S=some { cls:=.type "list", dict:=none,data:=.seq acc' c,slots:=#[] })→R (.ok (.ret res)) { s with heap:=h' }) →
 codeAny (model prog w) A (.builtin "list.extend.loop" ⟨[.ref S,.ref z,res],[]⟩) R s:=by
 have hSz:S ≠ z:=fun e=>hS (by simp [e])
 have hST:S ≠ TI:=fun e=>hS (by simp [e])
 have hSO:S ≠ TO:=fun e=>hS (by simp [e])
 have hS1:S ≠ i1:=fun e=>hS (by simp [e])
 have hS2:S ≠ i2:=fun e=>hS (by simp [e])
 have hSl:S ≠ l1:=fun e=>hS (by simp [e])
 have hSm:S ≠ l2:=fun e=>hS (by simp [e])
 have ne:∀ c,c ∈ [z,TI,TO,i1,i2,l1,l2,S]→∀ a:Addr,base ≤ a→a ≠ c:=fun c hc a ha q=>mJ.mpr ha (by rw [q];exact hb c hc)
 intro k
 induction k with
 | zero =>
  intro i s acc hk hi L hR
  have hin:i=min xs.size ys.size:=by omega
  have hend:xs[i]? = none∨ys[i]? = none:=by
   rcases Nat.le_total xs.size ys.size with z | z
   ·exact .inl (eG (by omega))
   ·exact .inr (eG (by omega))
  refine codeAny_builtin F.entry_extend_loop ?_
  rw [Around.under_plainId F.plain_extend_loop _]
  show wpAny _ A.in1 (pyNext (.ref z) >>= _) _ _ s
  have fin:∀ h',(∀ c o,c ≠ z→c ≠ TO→c ≠ i1→c ≠ i2→s.heap.get? c=some o→h'.get? c=some o)→R (.ok (.ret res)) { s with heap:=h' }:=fun h' hk'=>by
   have up:∀ a o,base ≤ a→s.heap.get? a=some o→h'.get? a=some o:=fun a o ha e=>hk' a o (ne z (by simp) _ ha) (ne TO (by simp) _ ha) (ne i1 (by simp) _ ha) (ne i2 (by simp) _ ha) e
   obtain ⟨c,hc⟩:=L.ss
   have hc':=hk' S _ hSz hSO hS1 hS2 hc
   refine hR h' acc (fun c o hc e=>hk' c o (fun q=>hc (by simp [q])) (fun q=>hc (by simp [q])) (fun q=>hc (by simp [q])) (fun q=>hc (by simp [q])) e) (by rw [L.al];exact hin) (fun j hj=>?_) L.inj ⟨c,hc'⟩
   ·obtain ⟨a,x,y,h1,h2,h3,h4,h5⟩:=L.ac j (by omega)
    exact ⟨a,x,y,h1,h2,h3,h4,up a _ h2 h5⟩
  rcases L.zz with ⟨h0,hz,a,b,hTO⟩ | ⟨a0,b,o0,_,hz,h0⟩
  ·exact wpAny_bind (wpAny_pyNext_zip_end hh D hz L.ti hTO L.j1 L.j2 L.q1 L.q2 hend fun h' hk'=>wpAny_pure (fin h' hk'))
  ·exact wpAny_bind (Jh hh D hz h0 L.ti L.j1 L.j2 L.q1 L.q2 hend fun h' hk'=>wpAny_pure (fin h' fun c o c1 _ c3 c4 e=>hk' c o c1 c3 c4 e))
 | succ k ih =>
  intro i s acc hk hi L hR
  have hlt:i < min xs.size ys.size:=by omega
  obtain ⟨x,hx⟩:∃ x,xs[i]? = some x:=⟨_,jq (by omega)⟩
  obtain ⟨y,hy⟩:∃ y,ys[i]? = some y:=⟨_,jq (by omega)⟩
  refine codeAny_builtin F.entry_extend_loop ?_
  rw [Around.under_plainId F.plain_extend_loop _]
  show wpAny _ A.in1 (pyNext (.ref z) >>= _) _ _ s
  have step:∀ (h':Heap),(∃ a0 b o0,base ≤ a0∧wH h' z a0 TI TO b∧h'.get? a0=some o0)→h'.IsListIter i1 l1 (i + 1)→h'.IsListIter i2 l2 (i + 1)→IsPair h' s.heap.objs.size x y →
   (∀ c o,c ≠ z→c ≠ TO→c ≠ i1→c ≠ i2→s.heap.get? c=some o→h'.get? c=some o) →
   wpAny (model prog w) A.in1 (updateSeq S (·.push (.ref s.heap.objs.size)) >>= fun _=>again (.builtin "list.extend.loop" ⟨[.ref S,.ref z,res],[]⟩)) (fun fin s'=>match fin with | .done f=>R (.ok f) s' | .again c'=>c'.quiet=true∧codeAny (model prog w) A c' R s') (fun e s'=>R (.error e) s') { s with heap:=h' }:=fun h' g1 g3 g4 g5 g7=>by
   obtain ⟨c,hc⟩:=L.ss
   have hc':=g7 S _ hSz hSO hS1 hS2 hc
   have up:∀ a o,base ≤ a→s.heap.get? a=some o→h'.get? a=some o:=fun a o ha e=>g7 a o (ne z (by simp) _ ha) (ne TO (by simp) _ ha) (ne i1 (by simp) _ ha) (ne i2 (by simp) _ ha) e
   have oth:∀ b o,b ≠ S→h'.get? b=some o→(h'.update S (Obj.mapSeq (·.push (.ref s.heap.objs.size)))).get? b=some o:=fun b o hb e=>(Heap.get?_update_other _ _ (Ne.symm hb)).trans e
   refine wpAny_bind ?_
   refine wpAny_updateSeq hc' rfl (wpAny_pure ⟨plainId_quiet F.plain_extend_loop _,ih (i + 1) _ (acc.push (.ref s.heap.objs.size)) (by omega) (by omega) ⟨?_,?_,?_,?_,?_,?_,?_,?_,?_,?_,?_⟩ fun h'' acc' hk'' e2 e3 e4 e5=>?_⟩)
    (by rw [L.al];omega) (by show (acc.push _).size ≤ sizeLine + 1;rw [Array.size_push,L.al];omega)
   ·exact oth _ _ (Ne.symm hST) (g7 _ _ D.TIz D.TITO D.TIi1 D.TIi2 L.ti)
   ·exact g3.at fun o e=>oth _ o (Ne.symm hS1) e
   ·exact g4.at fun o e=>oth _ o (Ne.symm hS2) e
   ·obtain ⟨o,ho,r⟩:=L.q1
    exact ⟨o,oth _ _ (Ne.symm hSl) (g7 _ _ D.l1z D.l1TO D.l1i1 D.l1i2 ho),r⟩
   ·obtain ⟨o,ho,r⟩:=L.q2
    exact ⟨o,oth _ _ (Ne.symm hSm) (g7 _ _ D.l2z D.l2TO D.l2i1 D.l2i2 ho),r⟩
   ·obtain ⟨a0,b,o0,k1,k2,k3⟩:=g1
    exact .inr ⟨a0,b,o0,k1,oth _ _ (Ne.symm hSz) k2,oth _ _ (ne S (by simp) _ k1) k3⟩
   ·show base ≤ (h'.update S _).objs.size
    rw [Heap.size_update]
    exact aW L.sz (dj (Heap.lt_size g5))
   ·rw [Array.size_push,L.al]
   ·intro j hj
    by_cases q:j=i
    ·subst q
     exact ⟨_,x,y,by rw [← L.al];simp,L.sz,hx,hy,oth _ _ (ne S (by simp) _ L.sz) g5⟩
    ·obtain ⟨a,x',y',k1,k2,k3,k4,k5⟩:=L.ac j (by omega)
     refine ⟨a,x',y',?_,k2,k3,k4,oth _ _ (ne S (by simp) _ k2) (up a _ k2 k5)⟩
     rw [Array.getElem?_push_lt (by rw [L.al];omega)]
     rw [jq (by rw [L.al];omega)] at k1
     exact k1
   ·have lt:∀ (j:Nat) (a:Addr),acc[j]? = some (.ref a)→a < s.heap.objs.size∧j < i:=fun j a e=>by
     have hj:j < i:=by
      rcases dw j acc.size with q | q
      ·rw [L.al] at q;exact q
      ·rw [eG q] at e;cases e
     obtain ⟨a',x',y',k1,k2,k3,k4,k5⟩:=L.ac j hj
     rw [e] at k1
     cases k1
     exact ⟨Heap.lt_size k5,hj⟩
    have cs:∀ (j:Nat) (a:Addr),(acc.push (.ref s.heap.objs.size))[j]? = some (.ref a)→(acc[j]? = some (.ref a))∨(j=i∧a=s.heap.objs.size):=fun j a e=>by
     rw [Array.getElem?_push] at e
     by_cases q:j=acc.size
     ·rw [if_pos q] at e
      cases e
      exact .inr ⟨by rw [q,L.al],rfl⟩
     ·rw [if_neg q] at e
      exact .inl e
    intro j j' a e e'
    rcases cs j a e with q | ⟨q,r⟩ <;> rcases cs j' a e' with q' | ⟨q',r'⟩
    ·exact L.inj j j' a q q'
    ·exact absurd (lt j a q).1 (by rw [r'];exact dO _)
    ·exact absurd (lt j' a q').1 (by rw [r];exact dO _)
    ·rw [q,q']
   ·exact ⟨_,Heap.get?_update_self _ hc' rfl⟩
   ·exact hR h'' acc' (fun c o hc e=>hk'' c o hc (oth c o (fun q=>hc (by simp [q])) (g7 c o (fun q=>hc (by simp [q])) (fun q=>hc (by simp [q])) (fun q=>hc (by simp [q])) (fun q=>hc (by simp [q])) e))) e2 e3 e4 e5
  rcases L.zz with ⟨h0,hz,a,b,hTO⟩ | ⟨a0,b,o0,hb0,hz,h0⟩
  ·refine wpAny_bind (wpAny_pyNext_zip_item D hz L.ti hTO L.j1 L.j2 L.q1 L.q2 hx hy fun h' g1 g2 g3 g4 g5 g6 g7=>?_)
   exact step h' ⟨s.heap.objs.size,false,_,L.sz,g1,g5⟩ g3 g4 g5 g7
  ·refine wpAny_bind (Jg D hz h0 L.ti L.j1 L.j2 L.q1 L.q2 hx hy fun h' g1 g3 g4 g5 g7=>?_)
   exact step h' ⟨a0,true,o0,hb0,g1,g7 a0 o0 (ne z (by simp) _ hb0) (ne i1 (by simp) _ hb0) (ne i2 (by simp) _ hb0) h0⟩ g3 g4 g5 fun c o c1 _ c3 c4 e=>g7 c o c1 c3 c4 e
end
end XK
namespace XK
open PySem PyProof.Rows
theorem Fg:typeLookup (.type "zip") "__len__" = pure none:=by rw [typeLookup_type,builtinLookup_eq_fast];kernel_rfl
theorem CJ:typeLookup (.type "zip") "__length_hint__" = pure none:=by rw [typeLookup_type,builtinLookup_eq_fast];kernel_rfl
section
variable {prog:Program} {w:World} {A:Around} {E:Value→Shared→Prop} {s:Shared}
theorem LK {Q:Bool→Shared→Prop} (hT:s.TypeIs (.ref z) "zip") (h:Q true s):wpAny (model prog w) A (Builtin.List.listLengthHint (.ref z)) Q E s:=by
 unfold Builtin.List.listLengthHint
 refine wpAny_bind (wpAny_specialOf hT Fg ?_)
 show wpAny _ A (specialOf (Value.ref z) (Str.ofString "__length_hint__") >>= _) _ _ _
 exact wpAny_bind (wpAny_specialOf hT CJ (wpAny_pure h))
theorem LQ {TI TO:Addr} {xs:Array Value} {a b:Value} (hh:A.handled=none) (D:ZipApart z TI TO i1 i2 l1 l2) (hz:IsZip s.heap z TI TO .none) (hTI:IsPair s.heap TI (.ref i1) (.ref i2)) (hTO:IsPair s.heap TO a b)
 (h1:s.heap.IsListIter i1 l1 0) (h2:s.heap.IsListIter i2 l2 0) (hl1:s.heap.IsList l1 xs) (hl2:s.heap.IsList l2 ys) (hn:xs.size ≤ sizeLine)
 (hQ:∀ h' acc c,(∀ c o,c ∉ [z,TO,i1,i2]→s.heap.get? c=some o→h'.get? c=some o)→acc.size=min xs.size ys.size →
  (∀ j,j < min xs.size ys.size→∃ a x y,acc[j]? = some (.ref a)∧s.heap.objs.size < a∧xs[j]? = some x∧ys[j]? = some y∧IsPair h' a x y)→(∀ (j j':Nat) (a:Addr),acc[j]? = some (.ref a)→acc[j']? = some (.ref a)→j=j') →
  h'.get? s.heap.objs.size=some { cls:=.type "list", dict:=none,data:=.seq acc c,slots:=#[] }→Q (.ref s.heap.objs.size) { s with heap:=h' }) :
 wpAny (model prog w) A (call (.type "list") [.ref z]) Q E s:=by
 refine callType_codes (Q₁:=fun obj s₁=>obj = .ref s.heap.objs.size∧s₁ = { s with heap:=s.heap.push { cls:=.type "list", data:=.seq #[] } }) PySem.F.called_list (PySem.F.typeCall_list_1 _) PySem.F.entry_list_init (code_list_new _ ⟨rfl,rfl⟩) fun obj s₁ g=>?_
 obtain ⟨rfl,rfl⟩:=g
 have hS:(s.heap.push { cls:=.type "list", data:=.seq #[] }).get? s.heap.objs.size=some { cls:=.type "list", data:=.seq #[] }:=Heap.get?_push_size _ rfl
 refine ⟨⟨_,hS,rfl⟩,PySem.F.args_list_init_2 _ _,?_⟩
 show wpAny _ _ (do let old ← Builtin.List.listItems (.ref s.heap.objs.size);Builtin.List.listUpdate (.ref s.heap.objs.size) (fun _=>#[]);letGo old.toList.reverse;Builtin.List.listExtendWith (.ref s.heap.objs.size) (.ref z) .none) _ _ _
 refine wpAny_bind ?_
 unfold Builtin.List.listItems
 refine wpAny_bind (wpAny_seqItems hS rfl (wpAny_pure ?_))
 show wpAny _ _ (updateSeq s.heap.objs.size (fun _=>#[]) >>= fun _=>letGo (#[]:Array Value).toList.reverse >>= fun _=>Builtin.List.listExtendWith (.ref s.heap.objs.size) (.ref z) .none) _ _ _
 refine wpAny_bind (wpAny_updateSeq hS rfl ?_)
 have hS2:=Heap.get?_update_self (Obj.mapSeq (fun _=>(#[]:Array Value))) hS rfl
 refine wpAny_bind (wpAny_letGo ?_)
 have old:∀ c o,s.heap.get? c=some o→c ≠ s.heap.objs.size:=fun c o e=>aR (Heap.lt_size e)
 have k2:∀ c o,s.heap.get? c=some o→((s.heap.push { cls:=.type "list", data:=.seq #[] }).update s.heap.objs.size (Obj.mapSeq (fun _=>(#[]:Array Value)))).get? c=some o:=fun c o e =>
  (Heap.get?_update_other _ _ (Ne.symm (old c o e))).trans (Heap.get?_push_of_some _ e)
 have hsz2:((s.heap.push { cls:=.type "list", data:=.seq #[] }).update s.heap.objs.size (Obj.mapSeq (fun _=>(#[]:Array Value)))).objs.size=s.heap.objs.size + 1:=by rw [Heap.size_update,Heap.size_push]
 generalize (s.heap.push { cls:=.type "list", data:=.seq #[] }).update s.heap.objs.size (Obj.mapSeq (fun _=>(#[]:Array Value)))=hp at hS2 k2 hsz2
 unfold Builtin.List.listExtendWith
 refine wpAny_bind (wpAny_typeOf (T := "zip") ⟨_,k2 _ _ hz,rfl⟩ ?_)
 have e1:Builtin.List.listSameRef (.ref s.heap.objs.size) (.ref z)=false:=by simp [Builtin.List.listSameRef,Ne.symm (old z _ hz)]
 have e2:(Value.type "zip" == Value.type "list")=false:=by decide
 have e3:(Value.type "zip" == Value.type "tuple")=false:=by decide
 simp only [e1,e2,e3,Bool.or_false,iu,if_false]
 refine wpAny_bind (wpAny_pyIter_zip (k2 _ _ hz) ?_)
 refine wpAny_bind (wpAny_holding (LK ⟨_,k2 _ _ hz,rfl⟩ ?_))
 rw [if_pos (Bool.true_or _)]
 refine wpAny_bind (wpAny_rule ?_)
 refine wpAny_bind ?_
 show wpAny _ _ (updateSeq s.heap.objs.size (·.push .none) >>= fun _=>updateSeq s.heap.objs.size (·.pop)) _ _ _
 refine wpAny_bind (wpAny_updateSeq hS2 rfl ?_)
 have hS3:=Heap.get?_update_self (Obj.mapSeq (·.push Value.none)) hS2 rfl
 refine wpAny_updateSeq (hz:=by seq_fits) hS3 rfl ?_
 have hS4:=Heap.get?_update_self (Obj.mapSeq (·.pop)) hS3 rfl
 have k4:∀ c o,s.heap.get? c=some o→((hp.update s.heap.objs.size (Obj.mapSeq (·.push Value.none))).update s.heap.objs.size (Obj.mapSeq (·.pop))).get? c=some o:=fun c o e =>
  (Heap.get?_update_other _ _ (Ne.symm (old c o e))).trans ((Heap.get?_update_other _ _ (Ne.symm (old c o e))).trans (k2 c o e))
 have hsz4:((hp.update s.heap.objs.size (Obj.mapSeq (·.push Value.none))).update s.heap.objs.size (Obj.mapSeq (·.pop))).objs.size=s.heap.objs.size + 1:=by rw [Heap.size_update,Heap.size_update,hsz2]
 generalize (hp.update s.heap.objs.size (Obj.mapSeq (·.push Value.none))).update s.heap.objs.size (Obj.mapSeq (·.pop))=hq at hS4 k4 hsz4
 have lt:∀ c ∈ [z,TI,TO,i1,i2,l1,l2],c < s.heap.objs.size:=fun c hc=>by
  simp only [aY,aM,d9,or_false] at hc
  rcases hc with rfl | rfl | rfl | rfl | rfl | rfl | rfl
  ·exact Heap.lt_size hz
  ·exact Heap.lt_size hTI
  ·exact Heap.lt_size hTO
  ·obtain ⟨o,e,_⟩:=h1;exact Heap.lt_size e
  ·obtain ⟨o,e,_⟩:=h2;exact Heap.lt_size e
  ·obtain ⟨o,e,_⟩:=hl1;exact Heap.lt_size e
  ·obtain ⟨o,e,_⟩:=hl2;exact Heap.lt_size e
 refine wpAny_pure ⟨plainId_quiet PySem.F.plain_extend_loop _,QT (base:=s.heap.objs.size + 1) (A:=A.in1) (xs:=xs) (ys:=ys) hh D .none (fun c hc=>?_) (fun hc=>dO _ (lt _ hc)) hn _ 0 _ #[] rfl (cZ _) ⟨k4 _ _ hTI,h1.at fun o e=>k4 _ o e,h2.at fun o e=>k4 _ o e,?_,?_,.inl ⟨rfl,k4 _ _ hz,a,b,k4 _ _ hTO⟩,by rw [hsz4];exact aL _,rfl,fun j hj=>absurd hj (Nat.not_lt_zero _),fun j j' c e=>by simp at e,⟨_,hS4⟩⟩ fun h' acc' kk f1 f2 f3 f4=>?_⟩
 ·have hc':c ∈ [z,TI,TO,i1,i2,l1,l2]∨c=s.heap.objs.size:=by
   simp only [aY,aM,d9,or_false] at hc ⊢
   rcases hc with h | h | h | h | h | h | h | h <;> simp [h]
  rcases hc' with h | h
  ·exact jO (lt c h)
  ·rw [h];exact d8 _
 ·obtain ⟨o,ho,r⟩:=hl1
  exact ⟨o,k4 _ _ ho,r⟩
 ·obtain ⟨o,ho,r⟩:=hl2
  exact ⟨o,k4 _ _ ho,r⟩
 ·obtain ⟨c,f4⟩:=f4
  refine ⟨rfl,hQ h' acc' c (fun d o hd e=>kk d o (fun q=>?_) (k4 d o e)) f1 f2 f3 f4⟩
  simp only [aY,aM,d9,or_false] at q hd
  rcases q with q | q | q | q | q
  ·exact hd (.inl q)
  ·exact hd (.inr (.inl q))
  ·exact hd (.inr (.inr (.inl q)))
  ·exact hd (.inr (.inr (.inr q)))
  ·exact old d o e q
end
end XK
namespace XK
open PySem PySem.Spec PyProof.Rows L2 My D3
theorem LR {σ:L2.St} (I:L2.Inv X pins σ H s) (k:∀ b u,s.heap.get? b=some u→h'.get? b=some u) (hb:∀ b,b < s.heap.objs.size→H' b=H b) (hok:HOk X.prog X.w H' h') :
 L2.Inv X pins σ H' { s with heap:=h',toks:=t' }:=I.un {
 keep:=fun b u q _ _ _=>k b u q
 slot:=fun b u q _ _ _=>⟨u.slots,k b u q⟩
 free:=fun b u q n _=>by rw [hb b (Heap.lt_size q)];exact n
 there:=fun b u q _=>⟨u,k b u q⟩
 tups:=fun b xs q=>by rw [hb b (I.hok.lt q)];exact q
 frzs:=fun b u xs q=>by rw [hb b (I.hok.lt q)];exact q
 tbls:=fun b q p e=>by rw [hb b (I.hok.lt e)];exact e } hok
section
variable {X:Cx} {fl:List Fl} {a b:Expr} {f g:FE} {p p2 pos pos2:Pos}
end
end XK
namespace XK
open PySem PyProof.Rows
section
variable {prog:Program} {w:World} {A:Around} {R:Result→Shared→Prop} {I:Addr} {fp wr:List Addr} {n:Nat} {P:Nat→Value→Prop} {St:Nat→Heap→Prop} {kw:List (Str × Value)}
end
section
variable {prog:Program} {w:World} {A:Around} {E:Value→Shared→Prop} {s:Shared}
end
end XK
namespace XK
open PySem PySem.Spec PyProof.Rows L2 My D3
section
variable {X:Cx} {fl:List Fl} {e z:Expr} {fa:FA} {fz:FE} {p pos kpos:Pos}
variable {a:Expr} {f:FE} {ta:TE}
end
end XK
namespace XK
open PySem PySem.Spec PyProof.Rows L2 My D3
section
variable {K:PySem.W.Frag} {H:Hp}
end
section
variable {X:Cx} {fl:List Fl} {e k1 k2:Expr} {f f1 f2:FE} {pos:Pos}
end
end XK
namespace XK
open PySem PySem.Spec PyProof.Rows L2 My D3
section
variable {X:Cx}
end
end XK
namespace XT
open PySem PySem.Spec PyProof.Rows L2 My D3 XK
def dtI (S:List (List Int)):List (List Key × V):=S.map fun k=>(k.map .inl,.bl true)
theorem CK:∀ {l:List D} {k:List Int},dg l=some k→tkK l=some (k.map .inl)
 | [],k,h=>by cases h;rfl
 | d :: l,k,h=>by
  cases d with
  | int i =>
   unfold dg at h
   cases e:dg l with
   | none=>rw [e] at h;cases h
   | some r =>
    rw [e] at h
    cases h
    rw [tkK,CK e]
    rfl
  | _=>unfold dg at h;cases h
theorem L_:∀ {kvs:List (D × D)} {S:List (List Int)},tsD kvs=some S→tkD kvs=some (dtI S)
 | [],S,h=>by cases h;rfl
 | (a,b) :: r,S,h=>by
  unfold tsD at h
  split at h
  ·next e=>cases e
  ·next l r' e =>
   cases e
   obtain ⟨k,e1,e2⟩:=bind1 h
   cases e3:tsD r with
   | none=>rw [e3] at e2;cases e2
   | some S' =>
    rw [e3] at e2
    cases e2
    rw [tkD,CK e1,L_ e3]
    rfl
  ·cases h
theorem Vd {S:List (List Int)} (h:tsD kvs=some S) (hS:S ≠ []):kvs ≠ []:=fun z=>by
 subst z
 cases h
 exact hS rfl
theorem Fi:∀ {kvs:List (D × D)} {S:List (List Int)},tsD kvs=some S→xU kvs=true
 | [],_,_=>rfl
 | (a,b) :: r,S,h=>by
  unfold tsD at h
  split at h
  ·next e=>cases e
  ·next e =>
   cases e
   cases e3:tsD r with
   | none=>simp [e3] at h
   | some S=>exact (show xU r=true from Fi e3)
  ·cases h
theorem Ma {S:List (List Int)} (h:tsD kvs=some S) (hS:S ≠ []):dh0 kvs = .dT (dtI S):=by
 have:=Vd h hS
 cases kvs with
 | nil=>exact absurd rfl this
 | cons q r =>
  unfold dh0
  dsimp only
  rw [L_ h]
theorem wJ {ok:Ok}:∀ {xs:List V} {l:List D} {k:List Int},RAs K ok pl H xs l→dg l=some k→xs=(k.map Sum.inl).map kV
 | _,_,k,.nil,h=>by cases h;rfl
 | _,_,k,.cons (d:=d) a q,h=>by
  cases d with
  | int i =>
   unfold dg at h
   cases e:dg _ with
   | none=>rw [e] at h;cases h
   | some r =>
    rw [e] at h
    cases h
    rw [a.intE,wJ q e]
    rfl
  | _=>unfold dg at h;cases h
theorem vC {ok:Ok} {k:List Int} (e:xV y=some k) (r:RA K ok pl H v y):∃ b,v = .ref b∧H b=some (.tup ((k.map Sum.inl).map kV)):=by
 cases y with
 | tuple l =>
  obtain ⟨b,xs,rfl,h1,h2⟩:=r.tupE0
  rw [← wJ h2 e]
  exact ⟨b,rfl,h1⟩
 | _=>cases e
theorem QV {ok:Ok} {x:D} {S:List (List Int)} (e:Zu x=some S) (hS:S ≠ []) (r:RA K ok pl H v x):∃ a,v = .ref a∧L2.Rd H a (.dT (dtI S)):=by
 cases x with
 | dict kvs =>
  obtain ⟨a,rfl,h⟩:=r.dicE (Fi e)
  rw [Ma e hS] at h
  exact ⟨a,rfl,h⟩
 | _=>cases e
theorem vD:∀ {k k':List Int},k.map (Sum.inl:Int→Key)=k'.map Sum.inl→k=k'
 | [],[],_=>rfl
 | [],_ :: _,h=>by cases h
 | _ :: _,[],h=>by cases h
 | a :: k,b :: k',h=>by
  rw [aV,aV] at h
  injection h with h1 h2
  injection h1 with h1
  rw [h1,vD h2]
theorem Ve (S:List (List Int)) (k:List Int):putK (dtI S) (k.map Sum.inl) (.bl true)=dtI (lU S k):=by
 unfold putK lU dtI
 have e:((S.map fun k=>((k.map Sum.inl,V.bl true):List Key × V)).any fun q=>decide (q.1=k.map Sum.inl))=decide (k ∈ S):=by
  induction S with
  | nil=>rfl
  | cons q S ih =>
   rw [aV,qz,ih]
   by_cases h:q=k
   ·subst h;simp
   ·have h2:¬ k=q:=fun z=>h z.symm
    have h3:¬ q.map (Sum.inl:Int→Key)=k.map Sum.inl:=fun z=>h (vD z)
    simp [h2,h3]
 rw [e]
 by_cases h:k ∈ S
 ·rw [dTr h,if_pos rfl,if_pos h,dI]
  refine gP fun q _=>?_
  show (if q.map Sum.inl=k.map Sum.inl then (q.map Sum.inl,V.bl true) else (q.map Sum.inl,V.bl true))=_
  split <;> rfl
 ·rw [dFa h,if_neg cg,if_neg h,cC]
  rfl
section
variable {K:PySem.W.Frag} {fl:List Fl}
end
section
variable {X:Cx} {fl:List Fl} {e a b c ke:Expr} {f fa fb fc fk:FE} {pos:Pos}
end
end XT
namespace XT
open PySem PySem.Spec PyProof.Rows L2 My D3 XK
end XT
namespace XV
open PySem PySem.Spec PyProof.Rows L2 My D3
section
variable {K:PySem.W.Frag} {fl:List Fl}
theorem wK {k:Nat} (h:(δ.set j none)[k]? = some (some (.d d))):k ≠ j∧δ[k]? = some (some (.d d)):=by
 by_cases z:k=j
 ·subst z
  rw [jM] at h
  rw [if_pos rfl] at h
  split at h <;> cases h
 ·rw [bD (Ne.symm z)] at h
  exact ⟨z,h⟩
theorem give {σ:L2.St} (R:Rel K fl G ow σ H δ) (hfl:fl[j]? = some .O) (hd:aF j δ=some d) :
 Rel K fl G (nR ow j none) σ H (δ.set j none)∧∃ v,σ[j]? = some (some v)∧RA K (okA (nR ow j none)) true H v d:=by
 have e:=m6 hd
 have sub:∀ b,okA ow b→okA (nR ow j none) b:=fun b z=>⟨fun k q=>by
  by_cases hk:k=j
  ·subst hk;rw [gF] at q;cases q
  ·rw [dR hk] at q;exact z.1 k q,z.2⟩
 have own':∀ k a,nR ow j none k=some a→k ≠ j∧ow k=some a:=fun k a q=>by
  by_cases hk:k=j
  ·subst hk;rw [gF] at q;cases q
  ·rw [dR hk] at q;exact ⟨hk,q⟩
 have none':∀ k,nR ow j none k=none→k ≠ j→ow k=none:=fun k q hk=>by rw [dR hk] at q;exact q
 refine ⟨⟨R.s0,R.s1,by rw [cM];exact R.len,fun k a h=>?_,fun k l a h1 h2=>R.inj k l a (own' k a h1).2 (own' l a h2).2,fun k h=>?_,fun k d' h hn h2=>?_,fun k d' h hn h2 h3=>?_,R.nt,R.nd,fun k l a h1 h2=>R.ns k l a h1 (own' l a h2).2,R.np,fun k d' hn h=>?_⟩,?_⟩
 ·obtain ⟨hk,h⟩:=own' k a h
  obtain ⟨h0,hf,xs,ds,h1,h2,h3,h4⟩:=R.own k a h
  exact ⟨h0,hf,xs,ds,h1,h2,h3.imp sub (fun z=>z),by rw [bD (Ne.symm hk)];exact h4⟩
 ·have hk:k ≠ j:=fun z=>by rw [z,hfl] at h;cases h
  rw [dR hk]
  exact R.pin k h
 ·obtain ⟨hk,h⟩:=wK h
  obtain ⟨v,h3,h4⟩:=R.dat k d' h hn (none' k h2 hk)
  exact ⟨v,h3,h4.imp sub (fun z=>z)⟩
 ·obtain ⟨hk,h⟩:=wK h
  exact R.oo k d' h hn h2 (none' k h3 hk)
 ·obtain ⟨hk,h⟩:=wK h
  exact R.nr k d' hn h
 ·cases ho:ow j with
  | none =>
   obtain ⟨v,h1,h2⟩:=R.dat j d e (by rw [hfl];rfl) ho
   exact ⟨v,h1,h2.imp sub (fun z=>z)⟩
  | some a =>
   obtain ⟨h0,hf,xs,ds,h1,h2,h3,h4⟩:=R.own j a ho
   rw [e] at h4
   cases h4
   refine ⟨_,h1,.lst h2 ⟨fun k q=>?_,fun k q=>R.ns k j a q ho⟩ (h3.imp sub (fun z=>z))⟩
   obtain ⟨hk,q⟩:=own' k a q
   exact hk (R.inj k j a q ho)
end
end XV
namespace XB
open PySem PySem.Spec PyProof.Rows L2 My D3 XK
section
variable {K:PySem.W.Frag} {fl:List Fl}
end
section
variable {X:Cx} {fl:List Fl} {e a b c ke:Expr} {f fa fb fc fk:FE} {pos:Pos}
end
end XB
namespace XB
open PySem PySem.Spec PyProof.Rows L2 My D3 XK
section
variable {X:Cx} {fl:List Fl} {e:Expr} {pos:Pos}
theorem Ae (hc:X.calm=true):jY X (.builtin "sorted") (fun xs H Q=>∃ (p:Addr) (ks:List (Key × V)) (is:List Int),xs=[.ref p]∧L2.Rd H p (.dK ks)∧ks.map (·.1)=is.map Sum.inl∧is.length < 64∧∀ l,H l=none→Q (.ref l) (upd H l (.lst ((IK is).map V.int)))):=by
 intro pins s σ H xs us Q I r h
 obtain ⟨p,ks,is,rfl,hx,hK,h64,q⟩:=h
 obtain ⟨u,rfl,rx⟩:=vals1 r
 cases rx
 obtain ⟨_,hd,vs,rel,dd⟩:=sZ I.hok hx
 obtain ⟨ep,hat⟩:=dd.dictAt
 have hv:vs.map (·.1)=is.map Sum.inl:=by rw [← rel.keys];exact hK
 have hlen:vs.length=is.length:=by
  have:=congrArg kZ hv
  rwa [aC,aC] at this
 refine Calls.call_function_entry kind_sorted plain_sorted entry_sorted (args_sorted1 _) ?_
 unfold Builtin.«sorted»
 refine wpAny_bind (m:=checkCount "sorted" 1 1 _) (wpAny_pure ?_)
 refine wpAny_bind (PySem.W.kdu_collect (A:=X.A.in1) (PySem.W.kdl_dict (knd:=bV X.prog X.w) (kvs:=vs) (ep:=ep) hd) (I.ok.hd hc) hat (by rw [hlen];exact aW (dj h64) (by decide)) fun h' tk acc hk hacc=>?_)
 have hl:acc.toList.length=is.length:=by rw [bI,hacc.1,hlen]
 have hI:IntsAre acc.toList is:=G8 _ _ hl fun j v hv'=>by
  obtain ⟨k,x,hkx,his⟩:=hacc.2 j v (by rw [← eV];exact hv')
  have e1:(vs.map (·.1))[j]? = some k:=by rw [aO,hkx];rfl
  rw [hv,aO] at e1
  cases e2:is[j]? with
  | none=>rw [e2] at e1;cases e1
  | some i =>
   rw [e2] at e1
   have e3:k=Sum.inl i:=by
    cases e1
    rfl
   subst e3
   rw [vL] at his
   obtain ⟨t,rfl⟩:∃ t,v=Value.int i t:=Value.isInt_shape his
   exact ⟨i,t,rfl,rfl⟩
 have I1:L2.Inv X pins σ H { s with heap:=h',toks:=tk }:=I.kept hk
 refine wpAny_bind (wpAny_newList ?_ (by rw [hl];exact aW (dj h64) (by decide)))
 have hoL:(h'.push (seqObj "list" acc.toList.toArray 0)).get? h'.objs.size=some (seqObj "list" acc.toList.toArray 0):=Heap.get?_push_size _ rfl
 show wpAny _ _ _ _ _ { s with heap:=h'.push (seqObj "list" acc.toList.toArray 0),toks:=tk }
 refine wpAny_bind (wpAny_holding (wpAny_call_entry slot_list_sort ⟨_,hoL,rfl⟩ entry_list_sort (list_sort_tree hoL hI (by rw [hl];exact h64) fun out ns' a1 a2 a3=>⟨_,rfl,?_⟩) (args_list_sort _)))
 refine wpAny_pure ⟨_,rfl,?_⟩
 obtain rfl:=yJ (a2.trans (ud _).symm) a3 (uP _)
 obtain ⟨e,he⟩:=sortedHeap_at (out:=out) hoL
 have hn:H h'.objs.size=none:=I1.hok.fresh (aL _)
 have ll:(IK is).length=is.length:=(ud _).length_eq
 have I2:=I1.laid (h':=sortedHeap (h'.push (seqObj "list" acc.toList.toArray 0)) h'.objs.size acc.toList out) (t':=tk) (a:=h'.objs.size) (o:=.lst ((IK is).map V.int)) (fun b u e=>by
  have hlt:=Heap.lt_size e
  rw [sortedHeap_old (aR hlt) (by rw [size_push'];exact jO hlt)]
  exact Heap.get?_push_of_some _ e) (aL _)
  ⟨by rw [aC,ll];exact aW (dj h64) (by decide),out.toList,e,D3.nO a1,by simpa [seqObj] using he⟩
 exact ⟨.ref _,_,I2,rfl,q _ hn⟩
end
end XB
namespace XD
open PySem PySem.Spec PyProof.Rows L2 My D3 XK
section
variable {X:Cx} {fl:List Fl} {e a b c ke ve:Expr} {f fa fb fc fk fv:FE} {pos:Pos}
end
section
variable {K:PySem.W.Frag} {fl:List Fl}
end
section
variable {X:Cx} {pins:List (Addr × Obj)} {σ:L2.St} {H:Hp} {s:Shared} {a:Addr} {kvs:List (Key × V)} {k:Key} {z:V} {u r:Value} {A:Around} {E:Value→Shared→Prop}
end
section
variable {X:Cx} {o e f:Expr} {apos cpos:Pos} {td ty tx:TE}
end
section
variable {X:Cx} {fl:List Fl} {ke ve:Expr} {fk fv:FE} {pos:Pos}
theorem set_same (h:δ[i]? = some (some (.d y))):δ.set i (some (.d y))=δ:=by
 apply dN
 intro j
 rw [jM]
 split
 ·next z =>
  subst z
  split
  ·exact h.symm
  ·next z=>rw [aP (Nat.le_of_not_lt z)] at h;cases h
 ·rfl
end
end XD
namespace TD
open PySem PySem.Spec PyProof.Rows
section
variable {prog:Program} {w:World} {A:Around} {E:Value→Shared→Prop} {s:Shared} {d it:Addr} {es:Array DictEntry} {i ep:Nat}
def uy (h:Heap) (d:Addr) (es:Array DictEntry) (ep:Nat):Prop:=∃ o,h.get? d=some o∧o.ExactDict∧o.data = .dict es ep
theorem uy.typ (m:uy s.heap d es ep):s.TypeIs (.ref d) "dict" := let ⟨o,h1,h2,_⟩:=m;⟨o,h1,h2.1⟩
theorem uy.kept (m:uy h d es ep) (k:∀ o,h.get? d=some o→h'.get? d=some o):uy h' d es ep:=let ⟨o,h1,r⟩:=m;⟨o,k o h1,r⟩
theorem Mf (lo:(d == sysModules)=false) (m:uy s.heap d es ep) (q:Q (.ref s.heap.objs.size) { s with heap:=s.heap.push { cls:=.type "dict_keyiterator", data:=.fields #[.ref d,.int 0 0,.int es.size 0,.int ep 0] } }) :
 wpAny (model prog w) A (pyIter (.ref d)) Q E s:=by
 obtain ⟨o,h1,h2,h3⟩:=id m
 refine wpAny_pyIter_slot m.typ F.slot_dict_iter (wpAny_call_entry F.slot_dict_iter m.typ F.entry_dict_iter ?_ (F.args_dict_iter_1 _))
 unfold Builtin.«dict.__iter__» Builtin.Dict.dictSlotNone
 refine wpAny_bind (wpAny_bind (wpAny_notOrdered_dict m.typ (wpAny_pure (a:=Value.ref d) ?_)))
 show wpAny _ _ (Builtin.Dict.showsAll d >>= _) _ _ s
 unfold Builtin.Dict.showsAll
 rw [if_neg (by rw [lo];exact cg)]
 refine wpAny_bind (wpAny_pure (wpAny_bind (wpAny_dictEntries h1 h3 (wpAny_bind (wpAny_dictEpoch h1 h3 (wpAny_bind (wpAny_newObj_type (wpAny_pure ⟨_,rfl, "dict_keyiterator", _,⟨_,Heap.get?_push_size _ rfl,rfl⟩,F.slot_dict_keyiterator_next.lookup,?_⟩))))))))
 simpa [rawInt] using q
theorem Mg {Q:Option Value→Shared→Prop} {e:DictEntry} (g:s.heap.IsKeyIter it d i es.size ep) (m:uy s.heap d es ep) (hx:es[i]? = some e)
 (q:∀ h',h'.IsKeyIter it d (i + 1) es.size ep→Heap.SameBut it s.heap h'→Q (some e.key) { s with heap:=h' }):wpAny (model prog w) A (pyNext (.ref it)) Q E s:=by
 obtain ⟨o,ho,hc,hd⟩:=id g
 obtain ⟨od,h1,h2,h3⟩:=id m
 have ty:=g.typeIs
 unfold pyNext
 refine wpAny_bind (wpAny_attempt (wpAny_callSpecial?_slot (name:=Str.ofString "__next__") ty F.slot_dict_keyiterator_next (wpAny_call_entry F.slot_dict_keyiterator_next ty F.entry_dict_keyiterator_next ?_ (F.args_dict_keyiterator_next_1 _))))
 refine wpAny_bind (wpAny_pure (wpAny_bind (wpAny_bind ?_)))
 first | refine wpAny_bind (wpAny_typeNameOfWhole_keyiter ty (wpAny_pure (wpAny_bind (wpAny_fieldsOf ho hd ?_)))) | refine wpAny_bind (wpAny_typeNameOf_keyiter ty (wpAny_pure (wpAny_bind (wpAny_fieldsOf ho hd ?_))))
 simp only [show Builtin.Dict_items.ownsTuple "dict_keyiterator" = false by decide,iu,if_false]
 show wpAny _ _ (if (Value.ref d == Value.none)=true then _ else _) _ _ s
 rw [if_neg (show ¬ ((Value.ref d == Value.none)=true) from cg)]
 refine wpAny_bind (wpAny_pure (wpAny_bind (wpAny_dictEntries h1 h3 ?_)))
 rw [if_neg (by simp)]
 refine wpAny_bind (wpAny_pure (wpAny_bind (wpAny_dictEpoch h1 h3 ?_)))
 rw [if_neg (by simp)]
 refine wpAny_pure ?_
 simp only [show ¬ ((i:Int) < 0) from by omega,if_false,cO,hx]
 refine wpAny_bind ?_
 first | refine wpAny_bind (wpAny_typeNameOfWhole_keyiter ty (wpAny_pure (wpAny_bind (wpAny_isOneOf_keyiter ty ?_)))) | refine wpAny_bind (wpAny_typeNameOf_keyiter ty (wpAny_pure (wpAny_bind (wpAny_isOneOf_keyiter ty ?_))))
 show wpAny _ _ (setField (.ref it) 1 (rawInt ((i:Int) + 1)) >>= _) _ _ s
 refine wpAny_bind (wpAny_setField ho hd (by simp) ?_)
 have g':(s.heap.update it (Obj.mapFields (·.setIfInBounds 1 (rawInt ((i:Int) + 1))))).IsKeyIter it d (i + 1) es.size ep :=
  ⟨_,Heap.get?_update_self _ ho (Obj.isFreed_of_fields (Obj.data_mapFields hd _)),(Obj.cls_mapFields ..).trans hc,by rw [Obj.data_mapFields hd];simp [rawInt]⟩
 refine wpAny_bind (wpAny_holding (wpAny_bind (wpAny_isOneOf_keyiter (s:={ s with heap:=s.heap.update it (Obj.mapFields (·.setIfInBounds 1 (rawInt ((i:Int) + 1)))) }) g'.typeIs ?_)))
 show wpAny _ _ (pure e.key) _ _ _
 exact wpAny_pure (wpAny_pure ⟨_,rfl,wpAny_pure (q _ g' (Heap.SameBut.update ..))⟩)
theorem Mh {Q:Option Value→Shared→Prop} (hh:A.handled=none) (g:s.heap.IsKeyIter it d i es.size ep) (m:uy s.heap d es ep) (hx:es[i]? = none)
 (q:∀ h',Heap.ExtBut it s.heap h'→Q none { s with heap:=h' }):wpAny (model prog w) A (pyNext (.ref it)) Q E s:=by
 obtain ⟨o,ho,hc,hd⟩:=id g
 obtain ⟨od,h1,h2,h3⟩:=id m
 have ty:=g.typeIs
 unfold pyNext
 refine wpAny_bind (wpAny_attempt (wpAny_callSpecial?_slot (name:=Str.ofString "__next__") ty F.slot_dict_keyiterator_next (wpAny_call_entry F.slot_dict_keyiterator_next ty F.entry_dict_keyiterator_next ?_ (F.args_dict_keyiterator_next_1 _))))
 refine wpAny_bind (wpAny_pure (wpAny_bind (wpAny_bind ?_)))
 first | refine wpAny_bind (wpAny_typeNameOfWhole_keyiter ty (wpAny_pure (wpAny_bind (wpAny_fieldsOf ho hd ?_)))) | refine wpAny_bind (wpAny_typeNameOf_keyiter ty (wpAny_pure (wpAny_bind (wpAny_fieldsOf ho hd ?_))))
 simp only [show Builtin.Dict_items.ownsTuple "dict_keyiterator" = false by decide,iu,if_false]
 show wpAny _ _ (if (Value.ref d == Value.none)=true then _ else _) _ _ s
 rw [if_neg (show ¬ ((Value.ref d == Value.none)=true) from cg)]
 refine wpAny_bind (wpAny_pure (wpAny_bind (wpAny_dictEntries h1 h3 ?_)))
 rw [if_neg (by simp)]
 refine wpAny_bind (wpAny_pure (wpAny_bind (wpAny_dictEpoch h1 h3 ?_)))
 rw [if_neg (by simp)]
 refine wpAny_pure ?_
 simp only [show ¬ ((i:Int) < 0) from by omega,if_false,cO,hx]
 refine wpAny_bind ?_
 first | refine wpAny_bind (wpAny_typeNameOfWhole_keyiter ty (wpAny_pure ?_)) | refine wpAny_bind (wpAny_typeNameOf_keyiter ty (wpAny_pure ?_))
 refine wpAny_bind (m:=setField (.ref it) 0 .none) (wpAny_setField ho hd (by simp) ?_)
 refine wpAny_bind (m:=newExc (.type "StopIteration") []) ?_
 simp only [newExc,newTuple]
 refine wpAny_bind (wpAny_newObj_type (wpAny_bind (m:=firstArgMember _ _) (wpAny_of_eq (a:=Value.none) (by first | rfl | (simp only [firstArgMember];rfl)) (wpAny_newObj_type ?_ (by size_fits)))) (by size_fits))
 simp only [raiseNew]
 refine wpAny_bind (wpAny_handled ?_)
 rw [show A.in1.handled=none from hh]
 refine wpAny_bind (wpAny_pure (wpAny_throw ?_))
 refine wpAny_bind (wpAny_isInstance (b:=true) ⟨_,Heap.get?_push_size _ rfl,rfl⟩ isSubtype_stop (wpAny_pure ?_))
 exact q _ (((Heap.SameBut.update ..).extBut.push _).push _)
theorem XQ (hh:A.handled=none) (I d:Addr) (hne:d ≠ I) (es:Array DictEntry) (ep:Nat):Walks prog w A I [I,d] [I] es.size (fun i v=>∃ e,es[i]? = some e∧v=e.key) (fun i h=>h.IsKeyIter I d i es.size ep∧uy h d es ep) where
 sub:=fun b hb=>by simp at hb;simp [hb]
 frame:=fun _ _ _ st hk=>⟨st.1.at fun o e=>hk I (by simp) o e,st.2.kept fun o e=>hk d (by simp) o e⟩
 item:=fun i s Q E hi st hQ=>Mg (e:=es[i]) st.1 st.2 (by simp [hi]) fun h' g hs=>hQ _ h' s.toks ⟨es[i],by simp [hi],rfl⟩ ⟨g,st.2.kept fun o e=>hs.extBut d o hne e⟩ fun b o hb e=>hs.extBut b o (fun h=>hb (by simp [h])) e
 done:=fun s Q E st hQ=>Mh hh st.1 st.2 (by simp) fun h' he=>hQ h' s.toks fun b o hb e=>he b o (fun h=>hb (by simp [h])) e
 self:=fun _ _ _ _ st hQ=>wpAny_pyIter_keyiter st.1 hQ
theorem QW (lo:(d == sysModules)=false):W.KdlSrc prog w "dict" d d es.size (fun i v=>∃ e,es[i]? = some e∧v=e.key) (fun h=>uy h d es ep) where
 type:=fun _ m=>m.typ
 there:=fun _ m=>let ⟨_,h1,_⟩:=m;⟨Heap.lt_size h1,Heap.lt_size h1⟩
 keep:=fun _ _ m hk=>m.kept fun o e=>hk d (.inl rfl) o e
 notList:=by decide
 notTuple:=by decide
 hint:=fun _ _ _ _ m hq=>W.kdl_hint_dict m.typ hq
 iter:=fun A s hh m=>⟨_,_,(fun _ _ q=>Mf lo m q),XQ hh _ d (let ⟨_,h1,_⟩:=m;aR (Heap.lt_size h1)) es ep,⟨⟨_,Heap.get?_push_size _ rfl,rfl,rfl⟩,m.kept fun o e=>Heap.get?_push_of_some _ e⟩⟩
theorem QX (lo:(d == sysModules)=false) (m:uy s.heap d es ep) (fit:(es.size:Int) < 2 ^ 63) (q:∀ t tk,Q (.int es.size t) { s with toks:=tk }):wpAny (model prog w) A (call (.builtin "len") [.ref d]) Q E s:=by
 obtain ⟨o,h1,h2,h3⟩:=id m
 refine Calls.call_function_entry kind_len plain_len entry_len (args_len1 _) ?_
 unfold Builtin.«len»
 refine wpAny_bind (m:=oneArg "len" _) (wpAny_pure (wpAny_bind (m:=callSpecial? (.ref d) (Str.ofString "__len__")) (wpAny_callSpecial?_slot (name:=Str.ofString "__len__") m.typ F.slot_dict_len (wpAny_call_entry F.slot_dict_len m.typ F.entry_dict_len ?_ (F.args_dict_len_1 _)))))
 refine wpAny_bind (m:=dictSize d) ?_
 unfold dictSize
 refine wpAny_bind (wpAny_dictEntries h1 h3 (wpAny_pure (wpAny_bind (m:=Builtin.Dict.pendingCount d) (wpAny_pendingCount_other lo ?_))))
 refine wpAny_bind (wpAny_mkInt (wpAny_pure ⟨_,rfl,?_⟩))
 rw [Nat.add_zero]
 refine wpAny_bind (wpAny_holding (wpAny_pure (wpAny_bind (wpAny_letGo ?_))))
 show wpAny _ _ (if ((es.size:Nat):Int) < 0 then _ else _) _ _ _
 rw [if_neg (by omega)]
 show wpAny _ _ (if ((es.size:Nat):Int) ≥ 2 ^ 63 then _ else _) _ _ _
 rw [if_neg (by omega)]
 exact wpAny_bind (wpAny_mkInt (wpAny_pure ⟨_,rfl,q _ _⟩))
end
section
variable {prog:Program} {w:World} {K:Type} [DecidableEq K] {knd:HeapKind prog w K} {A:Around} {E:Value→Shared→Prop} {s:Shared} {d a:Addr} {xs:List (K × Addr × Value)} {k:K} {v:Value}
theorem Mi (hu:knd.room A.in1) (hkey:knd.is s.heap k a) (lo:(d == sysModules)=false) (m:s.heap.DictOfH knd d xs) (hz:xs.length ≤ sizeLine)
 (h1:∀ p tk,atKey xs k=some p→Q p.2 { s with toks:=tk }) (h2:∀ h' tk,atKey xs k=none→h'.DictOfH knd d (xs++[(k,a,v)])→Heap.SameBut d s.heap h'→Q v { s with heap:=h',toks:=tk }) :
 wpAny (model prog w) A (call (.builtin "dict.setdefault") [.ref d,.ref a,v]) Q E s:=by
 have ty:=m.typeIs
 obtain ⟨o,es,ep,ho,hc,hd,he,his,hn⟩:=m
 refine wpAny_call_entry F.slot_dict_setdefault ty F.entry_dict_setdefault ?_ (F.args_dict_setdefault_3 _ _ _)
 unfold Builtin.«dict.setdefault» Builtin.Dict.keyAndDefault
 refine wpAny_bind (wpAny_bind (wpAny_notOrdered_dict ty (wpAny_pure (a:=(d,Value.ref a,some v)) ?_)))
 show wpAny _ _ (if (d == sysModules)=true then _ else (dictSetDefault d (.ref a) v >>= _)) _ _ s
 rw [if_neg (by rw [lo];exact cg)]
 refine wpAny_bind ?_
 unfold dictSetDefault
 try with_reducible refine wpAny_holding ?_
 refine wpAny_bind (knd.pyHash hu hkey (wpAny_bind (wpAny_dictFind_heap (s:={ s with toks:=s.toks + knd.draws k }) hu hkey ho hd he his hn (fun hno=>?_) fun j p hj=>?_)))
 ·have nk:=atKey_none_of_get hno
  have hnot:=not_mem_keys_of_get hno
  refine wpAny_bind (wpAny_rule (wpAny_bind (wpAny_updateDictKeys (hz:=by have e:=size_of_entries he;omega) (s:={ s with toks:=s.toks + knd.draws k }) ho hd (wpAny_pure (wpAny_pure ⟨_,rfl,h2 _ _ nk ⟨_,_,ep + 1,Heap.get?_update_self _ ho (Obj.isFreed_of_dict (Obj.data_mapDictKeys hd _)),hc.mapDictKeys _,Obj.data_mapDictKeys hd _,?_,?_,?_⟩ (Heap.SameBut.update ..)⟩)))))
  ·simp [he,entryOfKey]
  ·intro x hx
   rcases cL.mp hx with hx | hx
   ·exact knd.keeps (his x hx) ho hd (.update ..)
   ·rw [aM.mp hx]
    exact knd.keeps hkey ho hd (.update ..)
  ·rw [cC,sG]
   exact ⟨hn,by simp,fun x hx y hy=>by
    rw [show y=k by simpa using hy]
    exact fun e=>hnot (e ▸ hx)⟩
 ·refine wpAny_bind (wpAny_dictEntries (s:={ s with toks:=s.toks + knd.draws k }) ho hd ?_)
  rw [entry_at he j,hj]
  exact wpAny_bind (wpAny_rule (wpAny_pure (wpAny_pure ⟨_,rfl,h1 p _ (atKey_of_get hn hj)⟩)))
end
end TD
namespace XJ
open PySem D3 XS
def ltR (ks:List (List Int)) (i j:Nat):Bool:=Jd (ks.getD i []) (ks.getD j [])
def lD (ks:List (List Int)):List Nat:=if ks.length ≤ 1 then aZ ks.length else qx ks.length (ltR ks)
def dH (ks:List (List Int)):List (List Int):=(lD ks).map fun i=>ks.getD i []
def oW:List D→Option D
 | [x]=>(j8 x).bind fun ks=>if ks.length < 64∧(ks.all fun k=>!k.isEmpty)=true then some (.list ((dH ks).map rwD)) else none
 | _=>none
def uU:List D→Option D
 | [x]=>(j8 x).map fun ks=>.int (ks.length:Int)
 | _=>none
end XJ
variable {S:List D3.Tte}
namespace XJ
open PySem PySem.Spec PyProof.Rows L2 My D3 XK XT XD
theorem CN:∀ k:List Int,flats (k.map PyData.int)=true
 | []=>rfl
 | i :: k=>by rw [aV,flats,CN k];rfl
theorem QZ (q:List Int × Int):flat (ttV q)=true:=by
 show (flats (q.1.map PyData.int) && true)=true
 rw [CN]
 rfl
theorem tw_ra {ok:Ok} {q:List Int × Int} (t:TW H v q.1 q.2):RA K ok pl H v (ttV q):=by
 obtain ⟨b,c,rfl,h1,h2⟩:=t
 exact .tup h1 (.cons (.tup h2 (oR _)) (.cons (.int _) .nil))
theorem tG (k:List Int):mK kV (k.map Sum.inl)=k.map V.int:=by
 rw [dI]
 rfl
theorem G_ {ok:Ok}:∀ {xs:List V} {k:List Int},RAs K ok pl H xs (k.map PyData.int)→xs=k.map V.int
 | _,[],.nil=>rfl
 | _,i :: k,.cons a q=>by rw [a.intE,G_ q];rfl
theorem XR {ok:Ok} {q:List Int × Int} (r:RA K ok pl H v (ttV q)):TW H v q.1 q.2:=by
 obtain ⟨b,xs,rfl,h1,h2⟩:=r.tupE0
 cases h2 with
 | cons r1 r2 =>
 cases r2 with
 | cons r2 r3 =>
 cases r3
 obtain ⟨c,ys,rfl,h3,h4⟩:=r1.tupE0
 rw [G_ h4] at h3
 obtain rfl:=r2.intE
 exact ⟨b,c,rfl,h1,h3⟩
theorem Td (g:DH H u (ttP S)):(S=[]∧u = .dK [])∨∃ q ks,u = .dT (q :: ks)∧TTs H (q :: ks) (ttP S):=by
 rcases g with ⟨g1,g2⟩ | ⟨ks,rfl,g⟩ | g
 ·cases S with
  | nil=>exact .inl ⟨rfl,g2⟩
  | cons q S=>exact absurd g1 cg
 ·cases S with
  | nil=>cases g;exact .inl ⟨rfl,rfl⟩
  | cons q S=>cases g
 ·exact .inr g
theorem Hf {ok:Ok} {x:D} (e:Jb x=some S) (r:RA K ok pl H v x):∃ a,v = .ref a∧((S=[]∧L2.Rd H a (.dK []))∨∃ q ks,L2.Rd H a (.dT (q :: ks))∧TTs H (q :: ks) (ttP S)):=by
 obtain rfl:=zZ e
 obtain ⟨a,u,rfl,h2,g⟩:=RA.dicU (kvs:=ttP S) r
 rcases Td g with ⟨h,rfl⟩ | ⟨q,ks,rfl,t⟩
 ·exact ⟨a,rfl,.inl ⟨h,h2⟩⟩
 ·exact ⟨a,rfl,.inr ⟨q,ks,h2,t⟩⟩
theorem Af:∀ {S:List Tte} {ks:List (List Key × V)} (k:List Int),TTs H ks (ttP S)→(nu S k=none∧lX ks (k.map Sum.inl)=none)∨∃ p v,nu S k=some p∧lX ks (k.map Sum.inl)=some v∧TW H v p.1 p.2
 | [],_,k,h=>by cases h;exact .inl ⟨rfl,rfl⟩
 | q :: S,ks,k,h=>by
  obtain ⟨v,r,rfl,t,rr⟩:∃ v r,ks=(q.1.map Sum.inl,v) :: r∧TW H v q.2.1 q.2.2∧TTs H r (ttP S):=by
   generalize hg:ttP (q :: S)=g at h
   cases h with
   | nil=>cases hg
   | cons t r =>
    rename_i k' m z v r0 r1
    have hg:(rwD q.1,ttV q.2) :: ttP S=_:=hg
    injection hg with h1 h2
    injection h1 with h1 h3
    have e1:q.1=k':=by
     have:=congrArg (fun d=>xV d) h1
     simpa [rwD,xV,lW] using this
    have e2:q.2=(m,z):=by
     have:=congrArg (fun d=>Jc d) h3
     have this:q.2.1=m∧q.2.2=z:=by simpa [ttV,rwD,Jc,lW] using this
     exact Prod.ext this.1 this.2
    subst e1
    rw [e2]
    exact ⟨v,r0,rfl,t,h2 ▸ r⟩
  by_cases e:q.1=k
  ·refine .inr ⟨q.2,v,?_,pU (by rw [e]),t⟩
   simp [nu,e]
  ·rw [pW (fun z=>e (vD z))]
   have:nu (q :: S) k=nu S k:=by simp [nu,e]
   rw [this]
   exact Af k rr
theorem Mj {p:List Int × Int} {k:List Int} (t:TW H v p.1 p.2):∀ {S:List Tte} {ks:List (List Key × V)},TTs H ks (ttP S)→TTs H (ks++[(k.map Sum.inl,v)]) (ttP (S++[(k,p)])):=by
 intro S ks h
 rw [show ttP (S++[(k,p)])=ttP S++[(rwD k,ttV p)] by unfold ttP;rw [cC];rfl]
 generalize ttP S=g at h ⊢
 induction h with
 | nil=>exact .cons t .nil
 | cons t' _ ih=>exact .cons t' ih
theorem Q0 {ks:List (List Key × V)} (h:TTs H ks (ttP S)):ks.length=S.length:=by
 have:ks.length=(ttP S).length:=by
  generalize ttP S=g at h ⊢
  induction h with
  | nil=>rfl
  | cons _ _ ih=>rw [bf,bf,ih]
 rw [this,ttP,aC]
section
variable {X:Cx} {fl:List Fl} {e a b:Expr} {fa fb fk fv:FE} {pos:Pos}
theorem CP (hu:X.A.units + 1 < cLine) (ha:DE X fl .P a fa) (hb:DE X fl .P b fb) (hs:U9 b):DE X fl .FC (.Subscript a b pos) (dOp rO fa fb):=PE.imp (QL hu ha hb hs) fun σ H Q h=>by
 obtain ⟨G,ow,δ,d,R,hf,q⟩:=h
 obtain ⟨x,y,e1,e2,e3⟩:=BW hf
 refine ⟨G,ow,δ,x,R,e1,fun v H1 s1 r1=>⟨G,ow,δ,y,R.grow s1,e2,fun u H2 s2 r2=>?_⟩⟩
 obtain ⟨S,e4,e5⟩:=bind1 e3
 obtain ⟨k,e6,e7⟩:=bind1 e5
 obtain ⟨b',rfl,hb'⟩:=vC e6 r2
 obtain ⟨p,rfl,hp⟩:=Hf e4 r1
 cases e8:nu S k with
 | none=>rw [e8] at e7;cases e7
 | some z =>
  rw [e8] at e7
  cases e7
  rcases hp with ⟨rfl,_⟩ | ⟨q1,ks,hp,t⟩
  ·cases e8
  ·have t:=t.imp fun _ _ z=>gC.same s2 z
   rcases Af k t with ⟨h1,_⟩ | ⟨z',w,h1,h2,h3⟩
   ·rw [h1] at e8;cases e8
   ·rw [h1] at e8
    cases e8
    exact ⟨p,w,rfl,.inr ⟨_,_,b',QM s2 hp,rfl,hb',h2.symm⟩,q _ H2 (s1.trans s2) (.inl ⟨QZ z,tw_ra h3⟩)⟩
end
section
variable {K:PySem.W.Frag} {fl:List Fl}
theorem Vf {σ:L2.St} {x:D} (R:Rel K fl G ow σ H δ) (hfl:fl[i]? = some .N) (hx:aF i δ=some x) (hq:Jb x=some S) :
 ∃ a,σ[i]? = some (some (.ref a))∧((S=[]∧H a=some (.dK []))∨∃ q ks,H a=some (.dT (q :: ks))∧TTs H (q :: ks) (ttP S))∧∀ H',Same H H'→∀ q' ks' S',TTs H' (q' :: ks') (ttP S')→∃ ow',Rel K fl G ow' σ (upd H' a (.dT (q' :: ks'))) (δ.set i (some (.d (dtt S')))):=by
 have e:=m6 hx
 have hi:i < δ.length:=by
  rcases dw i δ.length with z | z
  ·exact z
  ·rw [aP z] at e;cases e
 obtain ⟨v,h1,h2,h3⟩:=R.nr i x (by rw [hfl];rfl) e
 generalize hN:ow.n i=as at h2 h3
 obtain rfl:=zZ hq
 have h2:RT K H v (.dict (ttP S)) as:=h2
 cases h2 with
 | dic ha hg =>
  rename_i a u
  have fin:∀ H',Same H H'→∀ q' ks' S',TTs H' (q' :: ks') (ttP S')→∃ ow',Rel K fl G ow' σ (upd H' a (.dT (q' :: ks'))) (δ.set i (some (.d (dtt S')))):=fun H' s q' ks' S' t'=>by
   have:=hg.chg
   refine (R.grow s).mutN (as:=[a]) hfl hi (by rw [hN];exact jC _) (s _ _ ha) h1 ?_ (fun b hb=>by rw [hN];exact hb) (gB.mpr ⟨d9,.nil⟩)
   exact .dic bM (.inr (.inr ⟨q',ks',rfl,t'.imp fun _ _ z=>gC.upd (s _ _ ha) z⟩))
  rcases Td hg with ⟨h,rfl⟩ | ⟨q,ks,rfl,t⟩
  ·exact ⟨a,h1,.inl ⟨h,ha⟩,fin⟩
  ·exact ⟨a,h1,.inr ⟨q,ks,ha,t⟩,fin⟩
end
section
variable {X:Cx} {pins:List (Addr × Obj)} {σ:L2.St} {H:Hp} {s:Shared} {a b:Addr} {kvs:List (List Key × V)} {k:List Key} {z:V} {u r:Value} {A:Around} {E:Value→Shared→Prop}
theorem Vg (I:L2.Inv X pins σ H s) (e:H a=some (.dK [])):L2.Inv X pins σ (upd H a (.dT [])) s:=by
 obtain ⟨_,hd,vs,rel,o,es,ep,h1,h2,h3,h4,h5,h6⟩:=Xz I.hok e
 cases rel
 have he:es.toList=[]:=by
  have:=h5.length
  exact bR.mp this
 exact G7 (h':=s.heap) (t':=s.toks) I (by rw [e];exact True.intro) (.refl a s.heap) ⟨o,h1⟩ ⟨cZ _,hd,[],.nil,o,es,ep,h1,h2,h3,he,pI⟩
theorem Ml (hu:A.units + 1 < cLine) (I:L2.Inv X pins σ H s) (e:H a=some (.dT kvs)) (hl:kvs.length < sizeLine) (eb:H b=some (.tup (mK kV k))) (rz:RelV z r)
 (h1:∀ v w' s',lX kvs k=some v→L2.Inv X pins σ H s'→RelV v w'→Q w' s') (h2:∀ s',lX kvs k=none→L2.Inv X pins σ (upd H a (.dT (kvs++[(k,z)]))) s'→Q r s') :
 wpAny (model X.prog X.w) A (call (.builtin "dict.setdefault") [.ref a,.ref b,r]) Q E s:=by
 obtain ⟨z0,hd,xs,rel,dd⟩:=XC I.hok e
 have lx:xs.length=kvs.length:=(Paired.length rel).symm
 refine TD.Mi (tupleKind_room_in1 hu) (ux I.hok eb) hd dd (by rw [lx];exact z0) (fun p tk hp=>?_) fun h' tk hp dd' hs=>?_
 ·have q:=rel.val k
  rw [hp] at q
  cases e1:lX kvs k with
  | none=>rw [e1] at q;cases q
  | some v =>
   rw [e1] at q
   exact h1 v _ _ e1 (I.tok _) q
 ·have q:=rel.val k
  rw [hp] at q
  have e1:lX kvs k=none:=by
   cases e1:lX kvs k with
   | none=>rfl
   | some v=>rw [e1] at q;cases q
  obtain ⟨o,es,ep,hq,g2,g3,g4,_,g5⟩:=dd'
  refine h2 _ e1 (G7 I (by rw [e];exact True.intro) hs ⟨o,hq⟩ ⟨by rw [bK];exact hl,hd,_,KT.keeps (Paired.snoc rel ⟨rfl,eb,rz⟩) fun c ys ec=>?_,o,es,ep,hq,g2,g3,g4,g5⟩)
  rw [bB (fZ ec e (fun z=>nomatch z))]
  exact ec
end
def X3 (td ty tx:TE):TE:=fun σ H Q=>td σ H fun x H1=>∃ a,x = .ref a∧IsD H1 a∧ty σ H1 fun y H2=>tx σ H2 fun z H3=>∃ k b,y = .ref b∧H3 b=some (.tup (mK kV k)) ∧
 ((H3 a=some (.dK [])∧Q z (upd H3 a (.dT [(k,z)])))∨∃ kvs,H3 a=some (.dT kvs)∧kvs.length < sizeLine∧(∀ v,lX kvs k=some v→Q v H3)∧(lX kvs k=none→Q z (upd H3 a (.dT (kvs++[(k,z)])))))
section
variable {X:Cx} {o e f:Expr} {apos cpos:Pos} {td ty tx:TE}
theorem Q5 (hu:X.A.units + 1 < cLine) (ho:PE X o td) (he:PE X e ty) (hf:PE X f tx) (m:M2 X o "setdefault" apos e f cpos):PE X (.Call (.Attribute o "setdefault" apos) [e,f] [] cpos) (X3 td ty tx):=by
 intro pins s σ H Q I h
 refine wpAny_Call_method m.base m.few m.line PySem.F.plainAttrs_dict PySem.F.slot_dict_setdefault PySem.F.type_dict_setdefault (thn (ho pins s σ H _ I h) fun u s1 ⟨x,H1,I1,rx,a,ex,d,q1⟩=>?_)
 subst ex
 obtain rfl:u=Value.ref a:=rx
 obtain ⟨t1,t2,_⟩:=U_ I1 d
 refine ⟨t1,t2,?_⟩
 rw [m.trees]
 refine Calls.callWith_builtin rfl (Calls.evalArgs_plain (Calls.spliced_cons (thn (he pins s1 σ H1 _ I1 q1) fun iv s2 ⟨y,H2,I2,ry,q2⟩ =>
  Calls.spliced_cons (thn (hf pins s2 σ H2 _ I2 q2) fun fv s3 ⟨z,H3,I3,rz,k,b,ey,eb,q3⟩=>Calls.spliced_nil ?_))))
 subst ey
 obtain rfl:iv=Value.ref b:=ry
 rcases q3 with ⟨ea,q⟩ | ⟨kvs,ea,hl,q3,q4⟩
 ·have I4:=Vg I3 ea
  have hb:upd H3 a (.dT []) b=some (.tup (mK kV k)):=by
   rw [bB (fZ eb ea (fun z=>nomatch z))]
   exact eb
  exact Ml hu I4 bM (show 0 < sizeLine by decide) hb rz (fun v w' s4 l _ _=>by cases l) fun s4 _ I5=>by
   rw [O6] at I5
   exact ⟨z,_,I5,rz,q⟩
 ·exact Ml hu I3 ea hl eb rz (fun v w' s4 l I4 rw'=>⟨v,H3,I4,rw',q3 v l⟩) fun s4 l I4=>⟨z,_,I4,rz,q4 l⟩
end
section
variable {X:Cx} {fl:List Fl} {ke ve:Expr} {fk fv:FE} {pos:Pos}
theorem Mp (hu:X.A.units + 1 < cLine) (hfl:fl[i]? = some .N) (hk:DE X fl .P ke fk) (hw:DE X fl .P ve fv) (hN:X.N[i]? = some x) (hm:M2 X (.Name x vpos) "setdefault" apos ke ve cpos) (hv:Vis X.env.scope x:=by first | exact Or.inl rfl | exact Or.inr (Or.inl rfl) | exact Or.inr (Or.inr rfl)) (hd:(x == ("__debug__" : Str))=false:=by decide)
 (hcd:(x == ("__classdict__" : Str))=false:=by decide) (hs:swapsWith (.Call (.Attribute (.Name x vpos) "setdefault" apos) [ke,ve] [] cpos) none pos.line X.env=pure false:=by rfl) :
 DS1 X fl (.Expr (.Call (.Attribute (.Name x vpos) "setdefault" apos) [ke,ve] [] cpos) pos) (ur i fk fv):=PS.imp (vg (Q5 hu (oh hN hv hd hcd) hk hw hm) hs) fun Dn σ H hh=>by
 obtain ⟨G,ow,δ,o,R,hf,q⟩:=hh
 obtain ⟨y,e1,hg⟩:=bind1 hf
 clear hf
 obtain ⟨kk,e2,hf⟩:=bind1 hg
 clear hg
 obtain ⟨zz,e3,hg⟩:=bind1 hf
 clear hf
 obtain ⟨S,e4,hf⟩:=bind1 hg
 clear hg
 obtain ⟨k,e5,hg⟩:=bind1 hf
 clear hf
 obtain ⟨p0,e6,hf⟩:=bind1 hg
 clear hg
 by_cases hc:S.length < 1000000
 case neg=>rw [if_neg hc] at hf;cases hf
 rw [if_pos hc] at hf
 cases hf
 obtain ⟨p,h1,h2,h4⟩:=Vf R hfl e1 e4
 have isd:IsD H p:=by
  rcases h2 with ⟨_,h⟩ | ⟨_,_,h,_⟩
  ·exact .inl ⟨_,.inl h⟩
  ·exact .inr ⟨_,.inl h⟩
 refine ⟨_,h1,p,rfl,isd,G,ow,δ,_,R,e2,fun u H1 s1 r1=>⟨G,ow,δ,_,R.grow s1,e3,fun w H2 s2 r2=>?_⟩⟩
 obtain ⟨b,rfl,hb⟩:=vC e5 r1
 rw [QH e6] at r2
 have t2:TW H2 w p0.1 p0.2:=XR r2
 have s12:=s1.trans s2
 refine ⟨k.map Sum.inl,b,rfl,s2 _ _ hb,?_⟩
 rcases h2 with ⟨rfl,h⟩ | ⟨q1,ks,h,t⟩
 ·refine .inl ⟨s12 _ _ h,?_⟩
  obtain ⟨ow',R'⟩:=h4 H2 s12 (k.map Sum.inl,w) [] [(k,p0)] (.cons t2 .nil)
  exact q ow' σ _ R'
 ·have h3':TTs H2 (q1 :: ks) (ttP S):=t.imp fun _ _ z=>gC.same s12 z
  refine .inr ⟨q1 :: ks,s12 _ _ h,by rw [Q0 t];exact lM hc (by decide),fun v hv'=>?_,fun hv'=>?_⟩
  ·have hx:oU S k p0=S:=by
    unfold oU
    rcases Af k h3' with ⟨_,b⟩ | ⟨d,v',a,b,_⟩
    ·rw [b] at hv';cases hv'
    ·rw [if_pos (by rw [a];rfl)]
   rw [hx] at q
   rw [← zZ e4,set_same (m6 e1)] at q
   exact q ow σ _ (R.grow s12)
  ·have hx:oU S k p0=S++[(k,p0)]:=by
    unfold oU
    rcases Af k h3' with ⟨a,_⟩ | ⟨d,v',a,b,_⟩
    ·rw [if_neg (by rw [a];simp)]
    ·rw [b] at hv';cases hv'
   rw [hx] at q
   obtain ⟨ow',R'⟩:=h4 H2 s12 q1 (ks++[(k.map Sum.inl,w)]) (S++[(k,p0)]) (by
    have:=Mj (k:=k) t2 h3'
    rw [List.cons_append] at this
    exact this)
   exact q ow' σ _ R'
end
end XJ
namespace XJ
open PySem PySem.Spec PySem.W PyProof.Rows L2 My D3 XK XT XD XS
section
variable {prog:Program} {w:World} {A:Around} {E:Value→Shared→Prop} {s:Shared}
theorem Hg {fin:Bool} {C:Bool→Shared→Prop}:∀ (a b:List Int) (u v:List Value) (i:Nat),IntsAre u a→IntsAre v b→(fin=decide (a.length < b.length))→C (Jd a b) s→KatLex prog w A true fin C (u.zip v) i s
 | [],[],_,_,_,.nil,.nil,hf,q=>by
  refine kat_nil ?_
  rw [hf]
  exact q
 | [],y :: ys,_,_,_,.nil,.cons _ _ _,hf,q=>by
  refine kat_nil ?_
  rw [hf,dTr (by simp)]
  exact q
 | x :: xs,[],_,_,_,.cons _ _ _,.nil,hf,q=>by
  refine kat_nil ?_
  rw [hf,dFa (by simp)]
  exact q
 | x :: xs,y :: ys,_,_,i,.cons _ t1 h1,.cons _ t2 h2,hf,q=>by
  refine kat_cons (wpAny_eqBool_int (kat_go (fun e=>?_) fun e=>?_))
  ·have e:=beq_iff_eq.mp e
   subst e
   refine kat_yes (Hg xs ys _ _ (i + 1) h1 h2 (by rw [hf];simp) ?_)
   simpa [Jd] using q
  ·have e:x ≠ y:=by
    intro z;subst z;simp at e
   have q':C (decide (x < y)) s:=by simpa [Jd,e] using q
   refine kat_no ?_
   cases i with
   | zero=>exact oneLt_int q'
   | succ i=>exact kat_one _ _ (lt_int (by simpa [PySem.W.BoolBack] using q'))
theorem Vh {x y:Addr} {a b:List Int} {u v:List Value} {C:Bool→Shared→Prop} (hx:IsTup s.heap x u.toArray) (hy:IsTup s.heap y v.toArray) (hu:IntsAre u a) (hv:IntsAre v b) (q:C (Jd a b) s):wpAny (model prog w) A (keyLt' (tuples' true) (.ref x) (.ref y)) C E s:=by
 obtain ⟨ox,ex,_,nx,dx⟩:=hx
 obtain ⟨oy,ey,_,ny,dy⟩:=hy
 refine kat_lt ex dx ey dy ?_
 have:=Hg (prog:=prog) (w:=w) (A:=A) (s:=s) (fin:=decide (u.toArray.size < v.toArray.size)) (C:=C) a b u v 0 hu hv (by rw [aU,aU,hu.length,hv.length]) q
 simpa using this
end
section
variable {X:Cx} {fl:List Fl} {e:Expr} {pos:Pos}
theorem Hh {K:Type}:∀ {kvs:List (List L2.Key × V)} {xs:List (List L2.Key × Addr × Value)} {ks:List (List Int)},KT H kvs xs→kvs.map (·.1)=ks.map (fun k=>k.map Sum.inl)→∀ (j:Nat) (b:Addr) (k:List Int),(xs.map (·.2.1))[j]? = some b→ks[j]? = some k→H b=some (.tup (k.map V.int))
 | _,_,[],.nil,_,j,b,k,h,_=>by simp at h
 | _,_,_ :: _,.nil,h0,_,_,_,_,_=>by simp at h0
 | _,_,[],.cons _ _,h0,_,_,_,_,_=>by simp at h0
 | _,_,k0 :: ks,.cons (a:=p) (b:=q) h t,h0,0,b,k,h1,h2=>by
  simp at h0 h1 h2
  obtain ⟨h3,_⟩:=h0
  subst h1 h2
  have:=h.2.1
  rw [h3] at this
  rw [this,tG]
 | _,_,k0 :: ks,.cons (a:=p) (b:=q) h t,h0,j + 1,b,k,h1,h2=>by
  simp at h0
  exact Hh (K:=K) t (by simpa using h0.2) j b k (by simpa using h1) (by simpa using h2)
theorem Ag (hc:X.calm=true):jY X (.builtin "sorted") (fun xs H Q=>∃ (p:Addr) (kvs:List (List L2.Key × V)) (ks:List (List Int)),xs=[.ref p]∧L2.Rd H p (.dT kvs)∧kvs.map (·.1)=ks.map (fun k=>k.map Sum.inl)∧ks.length < 64∧(∀ k ∈ ks,k ≠ []) ∧
 ∀ (l:Addr) (bs:List Addr),H l=none→bs.length=ks.length→(∀ (j:Nat) (b:Addr) (k:List Int),bs[j]? = some b→ks[j]? = some k→H b=some (.tup (k.map V.int)))→Q (.ref l) (upd H l (.lst ((lD ks).map fun i=>V.ref (bs.getD i 0))))):=by
 intro pins s σ H xs us Q I r h
 obtain ⟨p,kvs,ks,rfl,hx,hK,h64,hne,q⟩:=h
 obtain ⟨u,rfl,rx⟩:=vals1 r
 cases rx
 obtain ⟨_,hd,ents,rel,dd⟩:=uT I.hok hx
 obtain ⟨o,es,ep,h1,h2,h3,h4,_,_⟩:=dd
 have raw:TD.uy s.heap p es ep:=⟨o,h1,h2,h3⟩
 have le:ents.length=ks.length:=by
  have a:=Paired.length rel
  have b:=congrArg kZ hK
  rw [aC,aC] at b
  omega
 have ez:es.size=ks.length:=by rw [← bI,h4,aC,le]
 have bl:(ents.map (·.2.1)).length=ks.length:=by rw [aC,le]
 have hb:=Hh (K:=Unit) rel hK
 have q:=fun l hn=>q l (ents.map (·.2.1)) hn bl hb
 refine Calls.call_function_entry kind_sorted plain_sorted entry_sorted (args_sorted1 _) ?_
 unfold Builtin.«sorted»
 refine wpAny_bind (m:=checkCount "sorted" 1 1 _) (wpAny_pure ?_)
 refine wpAny_bind (PySem.W.kdu_collect (A:=X.A.in1) (TD.QW (es:=es) (ep:=ep) hd) (I.ok.hd hc) raw (by rw [ez];exact aW (dj h64) (by decide)) fun h' tk acc hk hacc=>?_)
 have ea:acc.toList=(ents.map (·.2.1)).map Value.ref:=by
  apply dN
  intro j
  cases ej:acc.toList[j]? with
  | none =>
   have:acc.toList.length ≤ j:=List.getElem?_eq_none_iff.mp ej
   rw [bI,hacc.1,ez,← bl] at this
   rw [aP (by rw [aC];exact this)]
  | some v =>
   obtain ⟨e,he,rfl⟩:=hacc.2 j v (by rw [← eV];exact ej)
   rw [← eV,h4,aO] at he
   rw [dI,aO]
   cases ex:ents[j]? with
   | none=>rw [ex] at he;cases he
   | some x=>rw [ex] at he;cases he;rfl
 have I1:L2.Inv X pins σ H { s with heap:=h',toks:=tk }:=I.kept hk
 generalize hB:ents.map (·.2.1)=bs at *
 rw [ea]
 have vl:(bs.map Value.ref).length=ks.length:=by rw [aC,bl]
 have hn:H h'.objs.size=none:=I1.hok.fresh (aL _)
 have gv:∀ i,RelV (V.ref (bs.getD i 0)) ((bs.map Value.ref).getD i (.ref 0)):=fun i=>by
  show (bs.map Value.ref).getD i (.ref 0)=Value.ref (bs.getD i 0)
  rw [aK,aO,aK]
  cases bs[i]? <;> rfl
 refine wpAny_bind (wpAny_newList ?_ (by rw [vl];exact aW (dj h64) (by decide)))
 have hoL:(h'.push (seqObj "list" (bs.map Value.ref).toArray 0)).get? h'.objs.size=some (seqObj "list" (bs.map Value.ref).toArray 0):=Heap.get?_push_size _ rfl
 show wpAny _ _ _ _ _ { s with heap:=h'.push (seqObj "list" (bs.map Value.ref).toArray 0),toks:=tk }
 have srtl:(lD ks).length=ks.length:=by
  unfold lD
  split
  ·rw [bH]
  ·rw [(jw (n:=ks.length) (by omega) (ltR ks)).length_eq,bH]
 have new:∀ (h2:Heap) (c:Nat),h2.get? h'.objs.size=some (seqObj "list" (eZ ((lD ks).map fun i=>(bs.map Value.ref).getD i (.ref 0))) c)→fu X.prog X.w (upd H h'.objs.size (.lst ((lD ks).map fun i=>V.ref (bs.getD i 0)))) h2 h'.objs.size (.lst ((lD ks).map fun i=>V.ref (bs.getD i 0))):=fun h2 c hg=>by
  refine ⟨by rw [aC,srtl];exact aW (dj h64) (by decide),_,c,?_,hg⟩
  generalize lD ks=l
  induction l with
  | nil=>exact .nil
  | cons i l ih=>exact .cons (gv i) ih
 refine wpAny_bind (wpAny_holding (wpAny_call_entry slot_list_sort ⟨_,hoL,rfl⟩ entry_list_sort ?body (args_list_sort _)))
 case body =>
  by_cases h2:2 ≤ ks.length
  ·obtain ⟨m,hm,_⟩:=id I1.loc
   have lt0:∀ y ∈ jP (Att.jt h') h' X.env.locals,y.1 < h'.objs.size:=fun y hy=>Heap.lt_size (vN (g:=Att.jt h') y hy).1
   have hL:X.env.locals < h'.objs.size:=(Att.El hm).ns.lt
   have kp:∀ b o,h'.get? b=some o→(h'.push (seqObj "list" (bs.map Value.ref).toArray 0)).get? b=some o:=fun b o e=>Heap.get?_push_of_some _ e
   refine kat_list_sort (h₀:=Att.jt h') (L:=X.env.locals) (m:=m) (news:=jP (Att.jt h') h' X.env.locals) ((Att.El hm).kept kp) (vN.grown kp) hoL (jL hL) (Att.oA _ _) (fun y hy=>aR (lt0 y hy)) (by rw [vl];exact h2) (by rw [vl];exact h64) fun e1 h3 F' N'=>?_
   have kept:∀ {h'':Heap} {nw:List (Addr × Obj)},News (Att.jt h') X.env.locals h'' nw→(∀ y ∈ jP (Att.jt h') h' X.env.locals,y ∈ nw)→∀ b o,b ≠ X.env.locals→h'.get? b=some o→h''.get? b=some o:=fun N hs b o hb e=>(N (b,o) (hs _ (uM hb (Att.oA _ _) e))).1
   have kt:∀ a items,IsTup h' a items→IsTup h3 a items:=fun a items ⟨o,e,c,n,d⟩=>⟨o,kept N' (fun y hy=>aJ _ hy) a o (fun z=>by
    obtain ⟨o2,es,ep,e2,d2,_⟩:=hm
    rw [z] at e
    rw [show h'.get? X.env.locals=some o2 from e2] at e;cases e
    rw [d2] at d;cases d) e,c,n,d⟩
   have row:∀ i,i < ks.length→∃ u,(bs.map Value.ref).getD i .none = .ref (bs.getD i 0)∧IsTup h3 (bs.getD i 0) (eZ u)∧IntsAre u (ks.getD i []):=fun i hi=>by
    have e1:bs[i]? = some (bs.getD i 0):=by rw [aK,aD (by omega)];rfl
    have e2:ks[i]? = some (ks.getD i []):=by rw [aK,aD hi];rfl
    obtain ⟨its,rr,pt,_⟩:=I1.tuple (.inl (.inl (hb i _ _ e1 e2)))
    refine ⟨its,?_,kt _ _ pt,sW rr⟩
    rw [aK,aO,e1]
    rfl
   have tups:∀ l:List Nat,(∀ i ∈ l,i < ks.length)→∃ fs,KatTups h3 (l.map fun i=>(bs.map Value.ref).getD i .none) fs∧fs.length=l.length∧∀ v ∈ fs,∃ i t,v = .int i t:=fun l=>by
    induction l with
    | nil=>exact fun _=>⟨[],trivial,rfl,fun _ h=>by cases h⟩
    | cons i l ih =>
     intro hl
     obtain ⟨fs,f1,f2,f3⟩:=ih fun j hj=>hl j (aJ _ hj)
     have hi:=hl i aG
     obtain ⟨u,e,⟨o,g1,g2,n,g3⟩,hu⟩:=row i hi
     have nk:ks.getD i [] ≠ []:=by
      rw [aK,aD hi]
      exact hne _ (cY hi)
     generalize ks.getD i []=kk at hu nk
     cases hu with
     | nil=>exact absurd rfl nk
     | cons x t hu =>
      refine ⟨.int x t :: fs,⟨⟨_,o,_,n,e,g1,g2,g3,rfl⟩,f1⟩,by simp [f2],fun v hv=>?_⟩
      rcases aY.mp hv with rfl | hv
      ·exact ⟨_,_,rfl⟩
      ·exact f3 v hv
   obtain ⟨fs,f1,f2,f3⟩:=tups (aZ ks.length) fun i hi=>aQ.mp hi
   have all:(aZ ks.length).map (fun i=>(bs.map Value.ref).getD i .none)=bs.map Value.ref:=by
    apply jh
    ·rw [aC,bH,vl]
    ·intro j g1 g2
     rw [j9,mL,aK,aD g2]
     rfl
   rw [all] at f1
   refine kat_kind (T:=.type "int") f1 (by rw [f2,bH];omega) (fun v hv=>?_) rfl ?_
   ·obtain ⟨i,t,rfl⟩:=f3 v hv
    exact fun A Q E s _ q=>wpAny_pure q
   refine zV (n:=(bs.map Value.ref).length) (lt:=ltR ks) (R:=good (bs.map Value.ref).length) (fun i j C hi hj hC=>?_) _ (uq (by omega)) ?_
   ·obtain ⟨u1,x1,y1,z1⟩:=row i (by rw [← vl];exact hi)
    obtain ⟨u2,x2,y2,z2⟩:=row j (by rw [← vl];exact hj)
    unfold kas_ask
    rw [x1,x2]
    exact Vh y1 y2 z1 z2 hC
   ·refine KasFin.intro F' N' (.head fun y hy=>aR (lt0 y hy)) fun h4 c F2 N2=>⟨_,rfl,wpAny_pure ⟨_,rfl,?_⟩⟩
    have hD:h'.get? h'.objs.size=none:=Heap.get?_none_of_le (aL _)
    have od:(dB (ltR ks) (kas_sort (bs.map Value.ref).length)).toList=lD ks:=by
     unfold lD
     rw [if_neg (by omega),vl]
     rfl
    have hg:=(N2 _ (aG ..)).1
    rw [od] at hg
    have hg:h4.get? h'.objs.size=some (seqObj "list" (eZ ((lD ks).map fun i=>(bs.map Value.ref).getD i (.ref 0))) c):=by
     have ee:((lD ks).map fun i=>(bs.map Value.ref).getD i Value.none)=(lD ks).map fun i=>(bs.map Value.ref).getD i (.ref 0):=gP fun i hi=>?_
     ·rw [← ee]
      exact hg
     have hi:i < ks.length:=by
      unfold lD at hi
      rw [if_neg (by omega)] at hi
      exact aQ.mp ((jw (n:=ks.length) (by omega) (ltR ks)).mem_iff.mp hi)
     rw [aK,aK,aD (by rw [vl];exact hi)]
     rfl
    exact ⟨.ref _,_,GP (s:={ s with heap:=h',toks:=tk }) (h':=h4) I1 hm F2.ns (kept N2 fun y hy=>aJ _ hy) hD (new h4 c hg),rfl,q _ hn⟩
  ·have h01:ks.length=0∨ks.length=1:=by omega
   have sr:lD ks=aZ ks.length:=by unfold lD;rw [if_pos (by omega)]
   rcases h01 with h0 | h1
   ·have b0:bs=[]:=bR.mp (by omega)
    subst b0
    refine list_sort_tree (ns:=[]) hoL .nil (by decide) fun out ns' a1 a2 a3=>⟨_,rfl,wpAny_pure ⟨_,rfl,?_⟩⟩
    obtain rfl:=qH.mp a2
    have oe:out.toList=[]:=bR.mp a1.length
    obtain ⟨c,he⟩:=sortedHeap_at (out:=out) hoL
    have I2:=I1.laid (h':=sortedHeap (h'.push (seqObj "list" (([]:List Addr).map Value.ref).toArray 0)) h'.objs.size (([]:List Addr).map Value.ref) out) (t':=tk) (a:=h'.objs.size) (o:=.lst ((lD ks).map fun i=>V.ref (([]:List Addr).getD i 0))) (fun b u e=>by
     have hlt:=Heap.lt_size e
     rw [sortedHeap_old (aR hlt) (by rw [size_push'];exact jO hlt)]
     exact Heap.get?_push_of_some _ e) (aL _) (new _ c (by
      rw [sr,h0]
      have:out = #[]:=Array.toList_inj.mp oe
      rw [this] at he ⊢
      exact he))
    exact ⟨.ref _,_,I2,rfl,q _ hn⟩
   ·obtain ⟨b0,rfl⟩:=List.length_eq_one_iff.mp (show bs.length=1 by omega)
    refine Lj (v:=.ref b0) hoL fun h3 c k e=>⟨_,rfl,wpAny_pure ⟨_,rfl,?_⟩⟩
    have I2:=I1.laid (h':=h3) (t':=tk) (a:=h'.objs.size) (o:=.lst ((lD ks).map fun i=>V.ref ([b0].getD i 0))) (fun b u e=>k b u (aR (Heap.lt_size e)) (Heap.get?_push_of_some _ e)) (aL _) (new _ c (by
     rw [sr,h1]
     exact e))
    exact ⟨.ref _,_,I2,rfl,q _ hn⟩
end
end XJ
namespace XJ
open PySem PySem.Spec PySem.W PyProof.Rows L2 My D3 XK XT XD XS
theorem Hi {ks:List (List L2.Key × V)} (h:TTs H ks (ttP S)):ks.map (·.1)=(S.map (·.1)).map fun k=>k.map Sum.inl:=by
 induction S generalizing ks with
 | nil=>cases h;rfl
 | cons q S ih =>
  generalize hg:ttP (q :: S)=g at h
  cases h with
  | nil=>cases hg
  | cons t r =>
   rename_i k' m z v r0 r1
   have hg:(rwD q.1,ttV q.2) :: ttP S=_:=hg
   injection hg with h1 h2
   injection h1 with h1 h3
   have e1:q.1=k':=by
    have:=congrArg (fun d=>xV d) h1
    simpa [rwD,xV,lW] using this
   subst e1
   rw [aV,aV,aV,ih (h2 ▸ r)]
theorem tH {ok:Ok} {x:D} {S:List (List Int)} (e:j8 x=some S) (r:RA K ok pl H v x):∃ a,v = .ref a∧((S=[]∧L2.Rd H a (.dK []))∨(S ≠ []∧∃ kvs,L2.Rd H a (.dT kvs)∧kvs.map (·.1)=S.map fun k=>k.map Sum.inl)):=by
 cases x with
 | dict kvs =>
  unfold j8 at e
  dsimp only at e
  cases e1:u9 kvs with
  | some T =>
   rw [e1] at e
   cases e
   obtain ⟨a,rfl,h⟩:=Hf (x:=.dict kvs) e1 r
   refine ⟨a,rfl,?_⟩
   rcases h with ⟨rfl,h⟩ | ⟨q,ks,h,t⟩
   ·exact .inl ⟨rfl,h⟩
   ·exact .inr ⟨(fun z=>by
     have:=Hi t
     rw [z] at this
     cases this),_,h,Hi t⟩
  | none =>
   rw [e1] at e
   have e:tsD kvs=some S:=e
   by_cases hS:S=[]
   ·subst hS
    cases kvs with
    | nil=>cases e1
    | cons q r0 =>
     exfalso
     unfold tsD at e
     split at e
     ·next z=>cases z
     ·obtain ⟨k,_,e2⟩:=bind1 e
      cases e3:tsD r0 with
      | none=>simp_all
      | some S'=>simp_all
     ·cases e
   ·obtain ⟨a,rfl,h⟩:=QV (x:=.dict kvs) e hS r
    refine ⟨a,rfl,.inr ⟨hS,_,h,?_⟩⟩
    unfold dtI
    rw [dI]
    rfl
 | _=>cases e
section
variable {X:Cx} {fl:List Fl} {e:Expr} {pos:Pos}
theorem wL (hc:X.calm=true) {fa:FA} {p:Pos} (ha:DB X fl .P [e] fa) (hg:Gl X "sorted") (hm:X.mg "sorted" = none)
 (he:starEach [e] X.env=(false,eval e X.env) :: starEach [] X.env:=by rfl) (hpl:(backTo pos (starEach [] X.env)).any (·.1)=false:=by rfl):DE X fl .FC (.Call (.Name "sorted" p) [e] [] pos) (dCall oW fa):=by
 have bs:bootBuiltins "sorted" = some (.builtin "sorted"):=by decide +kernel
 intro pins s σ H Q I h
 obtain ⟨G,ow,δ,d,R,hf,q⟩:=h
 obtain ⟨ds,e1,e2⟩:=bind1 hf
 unfold oW at e2
 split at e2
 case h_2=>cases e2
 next x =>
 obtain ⟨ks,e3,e4⟩:=bind1 e2
 by_cases hk:ks.length < 64∧(ks.all fun k=>!k.isEmpty)=true
 case neg=>rw [if_neg hk] at e4;cases e4
 rw [if_pos hk] at e4
 cases e4
 by_cases h0:ks=[]
 ·subst h0
  refine pP (XB.Ae hc) hg hm bs ha (by decide) (by decide) he hpl pins s σ H Q I ⟨G,ow,δ,_,R,e1,fun vs H' sm r'=>?_⟩
  cases r' with
  | cons r1 r2 =>
   cases r2
   obtain ⟨a,rfl,hx⟩:=tH e3 r1
   have hx:L2.Rd H' a (.dK []):=by
    rcases hx with ⟨_,h⟩ | ⟨z,_⟩
    ·exact h
    ·exact absurd rfl z
   exact ⟨a,[],[],rfl,hx,rfl,by decide,fun l hn=>q _ _ (sm.trans (cN hn _)) (.inr ⟨_,_,_,rfl,rfl,sm.free hn,bM,.nil⟩)⟩
 ·refine pP (Ag hc) hg hm bs ha (by decide) (by decide) he hpl pins s σ H Q I ⟨G,ow,δ,_,R,e1,fun vs H' sm r'=>?_⟩
  cases r' with
  | cons r1 r2 =>
   cases r2
   obtain ⟨a,rfl,hx⟩:=tH e3 r1
   rcases hx with ⟨z,_⟩ | ⟨_,kvs,h,hK⟩
   ·exact absurd z h0
   refine ⟨a,kvs,ks,rfl,h,hK,hk.1,fun k hk'=>?_,fun l bs hn bl hb=>q _ _ (sm.trans (cN hn _)) (.inr ⟨_,_,_,rfl,rfl,sm.free hn,bM,?_⟩)⟩
   ·have:=cB.mp hk.2 k hk'
    intro z
    subst z
    cases this
   ·have rng:∀ i ∈ lD ks,i < ks.length:=fun i hi=>by
     unfold lD at hi
     split at hi
     ·exact aQ.mp hi
     ·exact aQ.mp ((jw (n:=ks.length) (by omega) (ltR ks)).mem_iff.mp hi)
    unfold dH
    rw [dI]
    have hb2:∀ i,i < ks.length→upd H' l (.lst ((lD ks).map fun i=>V.ref (bs.getD i 0))) (bs.getD i 0)=some (.tup ((ks.getD i []).map V.int)):=fun i hi=>by
     have e1:bs[i]? = some (bs.getD i 0):=by rw [aK,aD (by omega)];rfl
     have e2:ks[i]? = some (ks.getD i []):=by rw [aK,aD hi];rfl
     exact cN hn _ _ _ (hb i _ _ e1 e2)
    generalize upd H' l (.lst ((lD ks).map fun i=>V.ref (bs.getD i 0)))=Hx at hb2
    generalize lD ks=is at rng
    induction is with
    | nil=>exact .nil
    | cons i is ih=>exact .cons (.tup (hb2 i (rng i aG)) (oR _)) (ih fun j hj=>rng j (aJ _ hj))
theorem Ji:jY X (.builtin "len") (fun xs H Q=>∃ (p:Addr),xs=[.ref p]∧((∃ kvs,L2.Rd H p (.dK kvs)∧Q (.int kvs.length) H)∨∃ kvs,L2.Rd H p (.dT kvs)∧Q (.int kvs.length) H)):=by
 intro pins s σ H xs us Q I r h
 obtain ⟨p,rfl,h⟩:=h
 obtain ⟨u,rfl,rx⟩:=vals1 r
 cases rx
 rcases h with ⟨kvs,hx,q⟩ | ⟨kvs,hx,q⟩
 ·exact XF I hx fun t s' I'=>⟨.int _,H,I',⟨t,rfl⟩,q⟩
 ·obtain ⟨z,hd,ents,rel,dd⟩:=uT I.hok hx
  obtain ⟨o,es,ep,h1,h2,h3,h4,_,_⟩:=dd
  have ez:es.size=kvs.length:=by rw [← bI,h4,aC,(Paired.length rel).symm]
  refine TD.QX hd ⟨o,h1,h2,h3⟩ (by rw [ez];rw [sizeLine_eq] at z;omega) fun t tk=>?_
  rw [ez]
  exact ⟨.int _,H,I.tok tk,⟨t,rfl⟩,q⟩
theorem Ah (ha:DB X fl .P [e] fa) (hg:Gl X "len") (hm:X.mg "len" = none)
 (he:starEach [e] X.env=(false,eval e X.env) :: starEach [] X.env:=by rfl) (hpl:(backTo pos (starEach [] X.env)).any (·.1)=false:=by rfl):DE X fl .FC (.Call (.Name "len" p) [e] [] pos) (dCall uU fa) :=
 PE.imp (pP Ji hg hm (show bootBuiltins "len" = some (.builtin "len") by decide +kernel) ha (by decide) (by decide) he hpl) fun σ H Q h=>by
 obtain ⟨G,ow,δ,d,R,hf,q⟩:=h
 obtain ⟨ds,e1,e2⟩:=bind1 hf
 refine ⟨G,ow,δ,ds,R,e1,fun vs H' s r'=>?_⟩
 unfold uU at e2
 split at e2
 case h_2=>cases e2
 next x =>
 cases e3:j8 x with
 | none=>rw [e3] at e2;cases e2
 | some ks =>
  rw [e3] at e2
  cases e2
  cases r' with
  | cons r1 r2 =>
   cases r2
   obtain ⟨a,rfl,hx⟩:=tH e3 r1
   rcases hx with ⟨rfl,h⟩ | ⟨_,kvs,h,hK⟩
   ·exact ⟨a,rfl,.inl ⟨_,h,q _ _ s (.inl ⟨rfl,.int _⟩)⟩⟩
   ·refine ⟨a,rfl,.inr ⟨_,h,?_⟩⟩
    have:kvs.length=ks.length:=by
     have:=congrArg kZ hK
     rwa [aC,aC] at this
    rw [this]
    exact q _ _ s (.inl ⟨rfl,.int _⟩)
end
def X4 (n:Bool):R2:=fun x y H Q=>∃ p b k,y = .ref p∧x = .ref b∧H b=some (.tup (mK kV k))∧((L2.Rd H p (.dK [])∧Q (.bl n) H)∨∃ kvs,L2.Rd H p (.dT kvs)∧Q (.bl (n ^^ (lX kvs k).isSome)) H)
theorem Q6 (ok:HOk P w H h) (e:L2.Rd H a (.dK [])):(a == sysModules)=false∧h.DictOfH (tupleKind (bV P w)) a []:=by
 obtain ⟨_,hd,vs,rel,o,es,ep,h1,h2,h3,h4,h5,h6⟩:=sZ ok e
 cases rel
 have he:es.toList=[]:=by
  have:=h5.length
  exact bR.mp this
 exact ⟨hd,o,es,ep,h1,h2,h3,he,(fun x hx=>by cases hx),pI⟩
theorem Vi (hu:X.A.units + 64 < cLine):OpR X (compareOp .In) (X4 false):=by
 intro pins s σ H x y v u Q I rx ry h
 obtain ⟨p,b,k,rfl,rfl,hb,h⟩:=h
 rcases h with ⟨h,q⟩ | ⟨kvs,h,q⟩
 ·obtain rfl:u=Value.ref p:=ry
  obtain rfl:v=Value.ref b:=rx
  obtain ⟨hd,dd⟩:=Q6 I.hok h
  exact wpAny_in_heap (tupleKind_room_in1 (by omega)) (ux I.hok hb) hd dd ⟨.bl false,H,I.tok _,rfl,q⟩
 ·exact Va hu pins s σ H _ _ v u Q I rx ry ⟨p,lX kvs k,rfl,.inr ⟨_,_,b,h,rfl,hb,rfl⟩,by simpa using q⟩
theorem CQ:∀ {kvs:List (List L2.Key × V)} {S:List (List Int)} (k:List Int),kvs.map (·.1)=S.map (fun k=>k.map Sum.inl)→(lX kvs (k.map Sum.inl)).isSome=decide (k ∈ S)
 | [],[],k,_=>rfl
 | [],_ :: _,_,h=>by cases h
 | _ :: _,[],_,h=>by cases h
 | q :: kvs,k0 :: S,k,h=>by
  rw [aV,aV] at h
  injection h with h1 h2
  by_cases e:k0=k
  ·subst e
   rw [pU h1]
   simp
  ·rw [pW (fun z=>e (vD (h1.symm.trans z))),CQ k h2]
   have e2:¬ k=k0:=fun z=>e z.symm
   simp [e2]
theorem X5:BrO K (X4 false) Cu:=by
 intro H x y dx dy d Q rx ry e q
 obtain ⟨S,e4,e5⟩:=bind1 e
 cases e6:xV dx with
 | none=>rw [e6] at e5;cases e5
 | some k =>
  rw [e6] at e5
  cases e5
  obtain ⟨b,rfl,hb⟩:=vC e6 rx
  obtain ⟨a,rfl,hx⟩:=tH e4 ry
  refine ⟨a,b,_,rfl,rfl,hb,?_⟩
  rcases hx with ⟨rfl,h⟩ | ⟨_,kvs,h,hK⟩
  ·exact .inl ⟨h,q _ rfl (.bl _)⟩
  ·refine .inr ⟨kvs,h,?_⟩
   rw [CQ k hK,Bool.false_xor]
   exact q _ rfl (.bl _)
end XJ
namespace XJ
open PySem PySem.Spec PyProof.Rows L2 My D3 XK XT XD
section
variable {X:Cx} {pins:List (Addr × Obj)} {σ:L2.St} {H H':Hp} {s:Shared} {a:Addr} {kvs:List (List L2.Key × V)} {o:Obj}
theorem tu (I:L2.Inv X pins σ H s) (h:H a=some (.dT kvs)):Aa X a :=
 ⟨fun xs z=>(by rw [I.base.tups a xs z] at h;cases h),fun o u z=>(by rw [I.base.frzs a o u z] at h;cases h),fun q p z=>(by
  rw [I.base.tbls a q p z] at h;cases h)⟩
theorem Ac (I:L2.Inv X pins σ H s) (h:H a=some (.dT kvs)) (ho:s.heap.get? a=some o):L2.Inv X pins σ (upd H a (.frz o (.dT kvs))) s:=by
 have mu:Mut (H a):=by rw [h];exact True.intro
 refine Ab I (tu I h) (by rw [h];simp) (fun b hb=>bB hb) (I.hok.write mu (.inl rfl) (fun _ _ _ q=>q) ⟨o,ho⟩ ⟨ho,?_⟩)
 exact (I.hok a _ h).stay (fun _ _ _ q=>q) (fun b q=>by rw [bB (fZ q h (by intro z;cases z))];exact q) (fun b xs q=>by rw [bB (fZ q h (by intro z;cases z))];exact q)
theorem wD (I:L2.Inv X pins σ H s) (hn:Aa X a) (h:H a=some (.frz o (.dT kvs))):L2.Inv X pins σ (upd H a (.dT kvs)) s:=by
 have st:∀ b u,fu X.prog X.w H s.heap b u→fu X.prog X.w (upd H a (.dT kvs)) s.heap b u:=fun b u z =>
  z.stay (fun _ _ _ q=>q) (fun c q=>by rw [bB (fZ q h (by intro z;cases z))];exact q) (fun c xs q=>by rw [bB (fZ q h (by intro z;cases z))];exact q)
 refine Ab I hn (by rw [h];simp) (fun b hb=>bB hb) fun b u e=>?_
 by_cases hb:b=a
 ·subst hb
  rw [bM] at e
  cases e
  exact st _ _ (I.hok b _ h).2
 ·rw [bB hb] at e
  exact st b u (I.hok b u e)
end
def Itt (o:Obj) (a:Addr) (kvs:List (List L2.Key × V)):It :=
 ⟨fun i H=>H a=some (.frz o (.dT kvs))∧i < kvs.length,fun i H x H'=>H'=H∧∃ k v b,kvs[i]? = some (k,v)∧x = .ref b∧H b=some (.tup (mK kV k)),fun i H=>H a=some (.frz o (.dT kvs))∧kvs.length ≤ i⟩
theorem wF {σ:L2.St} {kvs:List (List L2.Key × V)} {o:Obj} {es:Array DictEntry} {ep:Nat} (I:L2.Inv X pins σ H s) (h:H a=some (.frz o (.dT kvs))) (hd:o.data = .dict es ep) :
 ∃ xs,KT H kvs xs∧TD.uy s.heap a es ep∧es.toList=xs.map (entryOfKey (tupleKind (bV X.prog X.w))):=by
 obtain ⟨ho,_,_,xs,rel,o',es',ep',e',c1,c2,c3,_⟩:=I.hok a _ h
 rw [ho] at e'
 cases e'
 rw [hd] at c2
 cases c2
 exact ⟨xs,rel,⟨o,ho,c1,hd⟩,c3⟩
theorem Mq:∀ {kvs:List (List L2.Key × V)} {xs:List (List L2.Key × Addr × Value)},KT H kvs xs→∀ {i:Nat} {x:List L2.Key × Addr × Value},xs[i]? = some x→∃ k v,kvs[i]? = some (k,v)∧H x.2.1=some (.tup (mK kV k))
 | _,_,.nil,i,x,h=>by simp at h
 | _,_,.cons (a:=p) (b:=q) h t,0,x,hx=>by
  simp at hx
  subst hx
  exact ⟨p.1,p.2,rfl,h.2.1⟩
 | _,_,.cons h t,i + 1,x,hx=>Mq t (i:=i) (by simpa using hx)
theorem CT (o:Obj) (a it:Addr) (kvs:List (List L2.Key × V)) {es:Array DictEntry} {ep:Nat} (hd:o.data = .dict es ep):Turn P w K tg (Itt o a kvs) [it] it (fun i h=>h.IsKeyIter it a i kvs.length ep) where
 mem:=by simp
 obj:=fun i h st b hb=>by
  have e:b=it:=by simpa using hb
  subst e
  obtain ⟨o,e,c,d⟩:=st
  exact ⟨o,e,fun v z=>by rw [d] at z;cases z⟩
 keep:=fun i h h' st k=>by
  obtain ⟨o,e,r⟩:=st
  exact ⟨o,k it (by simp) o e,r⟩
 item:=by
  intro X hP hw hK hc i pins s σ H E I hf st hg
  subst hP hw hK
  obtain ⟨hq,hi⟩:=hg
  obtain ⟨xs,rel,dat,he⟩:=wF I hq hd
  have ln:kvs.length=xs.length:=Paired.length rel
  have le:es.size=xs.length:=by rw [← bI,he,aC]
  obtain ⟨f0,f1,f2,f3,f4,f5⟩:=hf it (by simp)
  obtain ⟨x,hx⟩:∃ p,xs[i]? = some p:=⟨xs[i],by simp [ln ▸ hi]⟩
  obtain ⟨k,v,hk,hb⟩:=Mq rel hx
  have hes:es[i]? = some (entryOfKey (tupleKind (bV X.prog X.w)) x):=by rw [← eV,he,aO,hx];rfl
  rw [ln,← le] at st
  refine TD.Mg st dat hes fun h' hit' hs'=>?_
  have I1:L2.Inv X pins σ H { s with heap:=h' }:=I.turned (t':=s.toks) (fun b o hb e=>(hs'.2 b hb).trans e) f0 f1 f3 f4 f5
  obtain ⟨oi,e,c,d⟩:=id hit'
  exact ⟨_,rfl,yh (s:={ s with heap:=h' }) e c d (by decide) ⟨.ref x.2.1,H,I1,rfl,⟨rfl,k,v,_,hk,rfl,hb⟩,by rw [ln,← le];exact hit',fun b hb=>(hf b hb).1⟩⟩
 done:=by
  intro X hP hw hK hc i pins s σ H E I hf st hg
  subst hP hw hK
  obtain ⟨hq,hi⟩:=hg
  obtain ⟨xs,rel,dat,he⟩:=wF I hq hd
  have ln:kvs.length=xs.length:=Paired.length rel
  have le:es.size=xs.length:=by rw [← bI,he,aC]
  rw [ln,← le] at st hi
  obtain ⟨f0,f1,f2,f3,f4,f5⟩:=hf it (by simp)
  exact TD.Mh (I.ok.hd hc) st dat (eG hi) fun h' eb=>⟨rfl,I.turned (t':=s.toks) (fun b o hb e=>eb b o hb e) f0 f1 f3 f4 f5⟩
 self:=fun _ _ _ _ _ st h=>wpAny_pyIter_keyiter st h
def Pk (X:Cx) (tl:TE):TI:=fun σ H R=>tl σ H fun x H1=>∃ a kvs,x = .ref a∧((H1 a=some (.dT kvs)∧∀ o,Aa X a→R (Itt o a kvs) (upd H1 a (.frz o (.dT kvs))))∨∃ o,H1 a=some (.frz o (.dT kvs))∧R (Itt o a kvs) H1)
theorem Ei {l:Expr} (hl:PE X l tl):PI X tg l (Pk X tl):=by
 intro pins s σ H R I h
 refine thn (hl pins s σ H _ I h) fun v s1 ⟨x,H1,I1,r1,q1⟩=>?_
 obtain ⟨a,kvs,e,q⟩:=q1
 subst e
 cases r1
 have rd:L2.Rd H1 a (.dT kvs):=q.elim (fun z=>.inl z.1) (fun ⟨o,z,_⟩=>.inr ⟨o,z⟩)
 obtain ⟨_,lo,vs,rel,ob,es,ep,eo,c1,hd,c3,_⟩:=uT I1.hok rd
 have le:es.size=kvs.length:=by rw [← bI,c3,aC,(Paired.length rel).symm]
 refine TD.Mf lo ⟨ob,eo,c1,hd⟩ ?_
 have Ip:L2.Inv X pins σ H1 { s1 with heap:=s1.heap.push { cls:=.type "dict_keyiterator", data:=.fields #[.ref a,.int 0 0,.int es.size 0,.int ep 0] } }:=I1.kept (t':=s1.toks) fun b o e=>Heap.get?_push_of_some _ e
 have st:(s1.heap.push { cls:=.type "dict_keyiterator", data:=.fields #[.ref a,.int 0 0,.int es.size 0,.int ep 0] }).IsKeyIter s1.heap.objs.size a 0 kvs.length ep:=⟨_,Heap.get?_push_size _ rfl,rfl,by rw [← le];rfl⟩
 have fr:H1 s1.heap.objs.size=none:=I1.hok.fresh (aL _)
 rcases q with ⟨hq,q⟩ | ⟨o,hq,q⟩
 ·refine ⟨s1.heap.objs.size,[s1.heap.objs.size],_,_,_,rfl,Ac Ip hq (Heap.get?_push_of_some _ eo),CT ob a _ kvs hd,st,fun b hb=>?_,q ob (tu I1 hq)⟩
  have e:b=s1.heap.objs.size:=by simpa using hb
  subst e
  refine I1.fpOk (aL _) ?_
  rw [bB (fun z=>by rw [z,hq] at fr;cases fr)]
  exact fr
 ·have eq:ob=o:=by
   have:=(I1.hok a _ hq).1
   rw [eo] at this
   exact b_.inj this
  subst eq
  refine ⟨s1.heap.objs.size,[s1.heap.objs.size],_,_,_,rfl,Ip,CT ob a _ kvs hd,st,fun b hb=>?_,q⟩
  have e:b=s1.heap.objs.size:=by simpa using hb
  subst e
  exact I1.fpOk (aL _) fr
section
variable {K:PySem.W.Frag} {H:Hp} {a:Addr} {kvs:List (List L2.Key × V)} {o:Obj}
mutual
theorem wG {ok:Ok} (h:H a=some (.dT kvs)):∀ {v:V} {d:D},RA K ok true H v d→RA K ok true (upd H a (.frz o (.dT kvs))) v d
 | _,_,.non=>.non
 | _,_,.bl b=>.bl b
 | _,_,.int i=>.int i
 | _,_,.str x=>.str x
 | _,_,.lst e k q=>.lst (by rw [bB (fZ e h (by intro z;cases z))];exact e) k (lY h q)
 | _,_,.lsk e k q=>.lsk (by
  rcases e with ⟨o',e⟩ | e
  ·exact .inl ⟨o',by rw [bB (fZ e h (by intro z;cases z))];exact e⟩
  ·exact .inr e) k (lY h q)
 | _,_,.tup e q=>.tup (by unfold gC;rw [bB (fZ e h (by intro z;cases z))];exact e) (lY h q)
 | _,_,.dic (a:=b) e g k=>by
  by_cases hb:b=a
  ·subst hb
   have g':=g.upd (o:=.frz o (.dT kvs)) h
   rw [h] at e
   exact .dik (by rw [bM];injection e with e;rw [e]) g' rfl
  ·exact .dic (by rw [bB hb];exact e) (g.upd h) k
 | _,_,.dik e g k=>.dik (by rw [bB (fZ e h (by intro z;cases z))];exact e) (g.upd h) k
theorem lY {ok:Ok} (h:H a=some (.dT kvs)):∀ {v:List V} {d:List D},RAs K ok true H v d→RAs K ok true (upd H a (.frz o (.dT kvs))) v d
 | _,_,.nil=>.nil
 | _,_,.cons e q=>.cons (wG h e) (lY h q)
end
mutual
theorem Ad {ok:Ok} (h:H a=some (.frz o (.dT kvs))):∀ {v:V} {d:D},RA K ok false H v d→RA K ok false (upd H a (.dT kvs)) v d
 | _,_,.non=>.non
 | _,_,.bl b=>.bl b
 | _,_,.int i=>.int i
 | _,_,.str x=>.str x
 | _,_,.lst e k q=>.lst (by rw [bB (fZ e h (by intro z;cases z))];exact e) k (jT h q)
 | _,_,.lsk e k q=>by cases k
 | _,_,.tup e q=>.tup (by unfold gC;rw [bB (fZ e h (by intro z;cases z))];exact e) (jT h q)
 | _,_,.dic e g k=>.dic (by rw [bB (fZ e h (by intro z;rcases g.or with ⟨ks,y⟩ | ⟨ks,y⟩ <;> (rw [y] at z;cases z)))];exact e) (g.imp fun _ _ t=>by unfold gC;rw [bB (fZ t h (by intro z;cases z))];exact t) k
 | _,_,.dik e _ k=>by cases k
theorem jT {ok:Ok} (h:H a=some (.frz o (.dT kvs))):∀ {v:List V} {d:List D},RAs K ok false H v d→RAs K ok false (upd H a (.dT kvs)) v d
 | _,_,.nil=>.nil
 | _,_,.cons e q=>.cons (Ad h e) (jT h q)
end
end
section
variable {X:Cx} {fl fl':List Fl} {e b c elt tg iter:Expr} {es ifs:List Expr} {k:Kd} {f fa fb fc fx:FE} {ft gt:FT} {pos:Pos} {scope:Scope} {ix L TT:List Nat} {fi:FA} {g:FG}
theorem Mr {o:Obj} {kvs:List (List L2.Key × V)} {S:List (List Int)} (hK:kvs.map (·.1)=S.map fun k=>k.map Sum.inl) (h:H1 a=some (.frz o (.dT kvs))):∀ H2,Same H1 H2→∀ i:Nat,(∀ d,(S.map rwD)[i]? = some d→(Itt o a kvs).go i H2∧∀ x H3,(Itt o a kvs).yld i H2 x H3→Same H2 H3∧RA K ok1 true H3 x d)∧((S.map rwD).length ≤ i→(Itt o a kvs).stop i H2):=by
 intro H2 s2 i
 have ln:kvs.length=S.length:=by
  have:=congrArg kZ hK
  rwa [aC,aC] at this
 refine ⟨fun d hd=>?_,fun hi=>⟨s2 _ _ h,by rw [ln];simpa using hi⟩⟩
 rw [aO] at hd
 cases e:S[i]? with
 | none=>rw [e] at hd;cases hd
 | some k0 =>
  rw [e] at hd
  cases hd
  have hi:i < S.length:=by
   rcases dw i S.length with z | z
   ·exact z
   ·rw [aP z] at e;cases e
  refine ⟨⟨s2 _ _ h,by omega⟩,fun x H3 hy=>?_⟩
  obtain ⟨rfl,k,v,b,hk,rfl,hb⟩:=hy
  have ek:k=k0.map Sum.inl:=by
   have:=congrArg (fun l=>l[i]?) hK
   simp only [aO,hk,e,iI,b_.injEq] at this
   exact this
  subst ek
  rw [tG] at hb
  exact ⟨Same.refl _,.tup hb (oR _)⟩
def Hj (X:Cx) (Q:VK):VK:=fun v H2=>Q v H2∨∃ a o kvs,Aa X a∧H2 a=some (.frz o (.dT kvs))∧Q v (upd H2 a (.dT kvs))
theorem Q7 {σ:L2.St} {H:Hp} {Q:VK} {T:List Str} (hfl:∀ i,i < T.length + ix.length→fl'[i]? = some .A) (htg:∀ j ∈ TT,j < T.length) (h:tD X.K fl .FC (ju (G5 fx) g ft f T.length ix) σ H Q) :
 BL (Pk X (tD X.K fl .P fx)) (tDG X.K fl' TT g) (tDT X.K fl' ft) (tD X.K fl' .C f) T.length (pF T.length ix) σ H (Hj X Q):=by
 obtain ⟨G,ow,δ,d,R,hf,q⟩:=h
 obtain ⟨l,e1,e2⟩:=bind1 hf
 by_cases hl:l.length ≤ 100000
 case neg=>rw [if_neg hl] at e2;cases e2
 rw [if_pos hl] at e2
 obtain ⟨r,e3,e4⟩:=bind1 e2
 cases e4
 obtain ⟨x,e5,e6⟩:=bind1 e1
 cases e7:j8 x with
 | none=>rw [e7] at e6;cases e6
 | some qs =>
 rw [e7,aN] at e6
 by_cases hne:qs=[]
 ·rw [if_pos hne] at e6;cases e6
 rw [if_neg hne] at e6
 cases e6
 refine ⟨G,ow,δ,x,R,e5,fun v H1 s1 r1=>?_⟩
 have R1:=R.grow s1
 have C1:=zR (fl':=fl') T.length ix hfl R1 (Same.refl H1)
 obtain ⟨a,rfl,hr⟩:=tH e7 r1
 rcases hr with ⟨z,_⟩ | ⟨_,kvs,hr,hK⟩
 ·exact absurd z hne
 refine ⟨a,kvs,rfl,?_⟩
 rcases hr with hr | ⟨o,hr⟩
 ·refine .inl ⟨hr,fun o lo Dl hD=>?_⟩
  have hDa:Dl ≠ a:=fun z=>by rw [z,bM] at hD;cases hD
  have tb2:Tb (upd H1 a (.frz o (.dT kvs))):=fun t ht=>by rw [bB (fZ (C1.tb t ht) hr (by simp))];exact C1.tb t ht
  have C2:Rel X.K fl' ⟨upd H1 a (.frz o (.dT kvs)),upd H1 a (.frz o (.dT kvs)),fun _=>none,fun _=>[],tb2⟩ ow0 (pF T.length ix σ) (upd H1 a (.frz o (.dT kvs))) (iK T.length ix δ):=by
   refine ⟨Same.refl _,Same.refl _,C1.len,fun i b h=>(by cases h),fun i j b h=>(by cases h),fun i h=>rfl,fun i d h1 hn h2=>?_,C1.oo,fun i b h=>(by cases h),fun i j b h=>(by cases h),fun i j b h=>(by cases h),fun i h=>rfl,fun i d hn h1=>?_⟩
   ·obtain ⟨v,h3,h4⟩:=C1.dat i d h1 hn h2
    exact ⟨v,h3,wG hr h4⟩
   ·have hi:i < T.length + ix.length:=by
     have h2:i < (iK T.length ix δ).length:=by
      rcases dw i (iK T.length ix δ).length with z | z
      ·exact z
      ·rw [aP z] at h1;cases h1
     unfold iK at h2
     simpa using h2
    rw [hfl i hi] at hn
    cases hn
  refine tE (Q:=Hj X Q) htg C2 hl e3 hD (Mr hK bM) fun H2 xs s2 hDl rs=>Or.inr ⟨a,o,kvs,lo,s2 _ _ bM,?_⟩
  have sm:Same H (upd H2 a (.dT kvs)):=fun b u hb=>by
   by_cases z:b=a
   ·subst z
    have:=s1 _ _ hb
    rw [hr] at this
    rw [bM]
    exact this
   ·rw [bB z]
    exact s2 b u (by rw [bB z];exact s1 b u hb)
  refine q _ _ sm (.inr ⟨Dl,xs,r,rfl,rfl,s1.free (by rw [bB hDa] at hD;exact hD),by rw [bB hDa];exact hDl,?_⟩)
  refine (jT (s2 _ _ bM) rs).imp (fun b z=>⟨?_,z.2⟩) (fun z=>z)
  have z1:=z.1
  unfold okN at z1 ⊢
  have hb:b ≠ a:=fun w=>by rw [w,bM] at z1;cases z1
  rw [bB hb] at z1
  exact s1.free z1
 ·refine .inr ⟨o,hr,fun Dl hD=>?_⟩
  have C2:Rel X.K fl' ⟨H1,H1,fun _=>none,fun _=>[],C1.tb⟩ ow0 (pF T.length ix σ) H1 (iK T.length ix δ):=C1
  refine tE (Q:=Hj X Q) htg C2 hl e3 hD (Mr hK hr) fun H2 xs s2 hDl rs=>Or.inl (q _ _ (s1.trans s2) (.inr ⟨Dl,xs,r,rfl,rfl,s1.free hD,hDl,rs.imp (fun b z=>⟨s1.free z.1,z.2⟩) (fun z=>z)⟩))
theorem Ms {x:D} (h:j8 x=some []):x = .dict []:=by
 cases x with
 | dict kvs =>
  cases kvs with
  | nil=>rfl
  | cons q r =>
   exfalso
   unfold j8 at h
   dsimp only at h
   split at h
   ·next S e =>
    have hS:S=[]:=by
     injection h with h
     exact List.map_eq_nil_iff.mp h
    subst hS
    have:=zY e
    cases this
   ·unfold tsD at h
    split at h
    ·next z=>cases z
    ·obtain ⟨k,_,e2⟩:=bind1 h
     cases e3:tsD r with
     | none=>simp_all
     | some S'=>simp_all
    ·cases h
 | _=>cases h
theorem Mt (hc:X.calm=true) (T Vn:List Str) (ix:List Nat) (hi:DE X fl .P iter fx)
 (hg:∀ cl C s3 H3 fp,DG (blk X (T++Vn) scope cl C s3 H3 fp) fl' TT tg g) (ht:∀ cl C s3 H3 fp,PTs (blk X (T++Vn) scope cl C s3 H3 fp) ifs (tDT X.K fl' ft)) (he:∀ cl C s3 H3 fp,DE (blk X (T++Vn) scope cl C s3 H3 fp) fl' .C elt f)
 (hfl:∀ i,i < T.length + ix.length→fl'[i]? = some .A:=by decide) (htg:∀ j ∈ TT,j < T.length:=by decide)
 (hB:vV X.N X.env.scope.names scope.names Vn ix=true:=by rfl) (hk:scope.kind = .function:=by rfl) (hcell:∀ y ∈ scope.names,y.2 ≠ .cell:=by decide +kernel)
 (hnames:∀ x ∈ scope.names,x.2 = .local→scope.names.lookup x.1=some .local:=by decide +kernel)
 (hfr:∀ x ∈ scope.names,x.2 = .free→x.1 ∈ Vn:=by decide +kernel) (hs:∀ x,foldedSetIterable iter X.env x=pure x:=by intro _;rfl) :
 DE X fl .FC (.ListComp elt [⟨tg,iter,ifs,0⟩] scope pos) (ju (Lr fx) g ft f T.length ix):=by
 intro pins s σ H Q I h
 obtain ⟨G,ow,δ,d,R,hf,q⟩:=h
 obtain ⟨l,e1,e2⟩:=bind1 hf
 obtain ⟨x,e5,e6⟩:=bind1 e1
 cases e7:j8 x with
 | none=>rw [e7] at e6;cases e6
 | some S =>
 rw [e7] at e6
 cases e6
 by_cases hS:S=[]
 ·subst hS
  have hx:x = .dict []:=Ms e7
  have h':ju (Cq fx) g ft f T.length ix δ=some d:=by
   unfold ju
   rw [show Cq fx δ=some [] by unfold Cq;rw [e5,hx];rfl]
   exact e2
  exact Ly hc T Vn ix hi hg ht he hfl htg hB hk hcell hnames hfr hs pins s σ H Q I ⟨G,ow,δ,d,R,h',q⟩
 have h':ju (G5 fx) g ft f T.length ix δ=some d:=by
  unfold ju
  rw [show G5 fx δ=some (S.map rwD) by unfold G5;rw [e5,aN,e7,aN,if_neg hS]]
  exact e2
 have run:=zB (g:=tDG X.K fl' TT g) (tt:=tDT X.K fl' ft) (te:=tD X.K fl' .C f) (pos:=pos) hc T Vn ix (Ei hi) hg ht he hB hk hcell hnames hfr hs pins s σ H (Hj X Q) I (Q7 hfl htg ⟨G,ow,δ,d,R,h',q⟩)
 refine thn run fun v s' ⟨x,H2,I2,rx,hq⟩=>?_
 rcases hq with hq | ⟨a,o,kvs,lo,ha,hq⟩
 ·exact ⟨x,H2,I2,rx,hq⟩
 ·exact ⟨x,_,wD I2 lo ha,rx,hq⟩
end
end XJ
namespace HT
open PySem PySem.Spec PyProof.Rows L2
section
variable {prog:Program} {w:World} {A:Around} {E:Value→Shared→Prop} {s:Shared}
theorem Q8 {t sl:Addr} {items:Array Value} (ht:IsTup s.heap t items) (hs:s.heap.IsSliceOf sl vl vu .none) (pl:IsPart vl lo) (pu:IsPart vu hi)
 (hw:sIx items.size 0 lo=0∧sIx items.size items.size hi=items.size) (h:Q (.ref t) s):wpAny (model prog w) A (getItem (.ref t) (.ref sl)) Q E s:=by
 obtain ⟨os,hos,hcs,hds⟩:=id hs
 have ty:s.TypeIs (.ref sl) "slice" := ⟨os,hos,hcs⟩
 unfold getItem
 try with_reducible refine wpAny_holding ?_
 first | refine wpAny_bind (wpAny_pure ?_) | skip
 refine wpAny_bind (wpAny_sequenceKey ht.typeIs (by decide) (wpAny_bind (wpAny_callSpecial?_slot (name:=Str.ofString "__getitem__") ht.typeIs PyProof.Rows.slot_tuple_getitem (wpAny_call_entry PyProof.Rows.slot_tuple_getitem ht.typeIs entry_tuple_getitem ?_ (args_tuple_getitem _ _)))))
 refine wpAny_bind (m:=Builtin.Tuple.tupleItemsOf (.ref t)) (tupleItemsOf_ ht (wpAny_bind (wpAny_typeOf ty ?_)))
 rw [if_pos (by decide)]
 refine wpAny_bind (nM hs pl pu ?_)
 have yes:(((sIx items.size 0 lo:Nat):Int) == 0 && (1:Int) == 1 && (sIx items.size items.size hi - sIx items.size 0 lo) == items.size)=true:=by
  rw [hw.1,hw.2]
  simp
 show wpAny _ _ (if (((sIx items.size 0 lo:Nat):Int) == 0 && (1:Int) == 1 && (sIx items.size items.size hi - sIx items.size 0 lo) == items.size)=true then _ else _) _ _ s
 rw [if_pos yes]
 unfold Builtin.Tuple.tupleIsExact
 refine wpAny_bind (wpAny_bind (wpAny_typeOf ht.typeIs (wpAny_pure ?_)))
 rw [if_pos (by decide)]
 exact wpAny_bind (wpAny_rule (wpAny_pure ⟨_,rfl,wpAny_pure h⟩))
end
end HT
namespace D3
open PySem PySem.Spec PyProof.Rows L2 My
def Zx (K:PySem.W.Frag):V→Option Int→Option Int→Hp→VK→Prop:=fun x lo hi H Q=>∃ a xs,x = .ref a∧SqT K H a xs∧HT.sIx xs.length 0 lo=0∧HT.sIx xs.length xs.length hi=xs.length∧Q (.ref a) H
theorem Mu:SlR X (Zx X.K):=by
 intro pins s σ H x v vl vu lo hi sl Q I rx hs pl pu h
 obtain ⟨a,xs,rfl,hx,h1,h2,q⟩:=h
 cases rx
 obtain ⟨its,r,ht,hz⟩:=I.tuple hx
 have hlen:its.toArray.size=xs.length:=by rw [aU];exact r.length.symm
 exact ⟨"tuple", _,PyProof.Rows.slot_tuple_getitem.lookup,ht.typeIs,HT.Q8 ht hs pl pu (by rw [hlen];exact ⟨h1,h2⟩) ⟨.ref a,H,I,rfl,q⟩⟩
section
variable {X:Cx} {fl:List Fl} {a e:Expr} {f:FE} {pos:Pos}
theorem uz (h:flats l=true) (lo hi:Option Int):flats (cutD l lo hi)=true:=by
 have dr:∀ (n:Nat) (l:List D),flats l=true→flats (l.drop n)=true:=fun n=>by
  induction n with
  | zero=>exact fun l h=>h
  | succ n ih =>
   intro l h
   cases l with
   | nil=>rfl
   | cons d l=>rw [flats,bw] at h;exact ih l h.2
 have tk:∀ (n:Nat) (l:List D),flats l=true→flats (l.take n)=true:=fun n=>by
  induction n with
  | zero=>exact fun l h=>by simp [flats]
  | succ n ih =>
   intro l h
   cases l with
   | nil=>rfl
   | cons d l =>
    rw [flats,bw] at h
    rw [List.take_succ_cons,flats,bw]
    exact ⟨h.1,ih l h.2⟩
 exact tk _ _ (dr _ _ h)
theorem Vj {lo hi:Option Expr} {p2:Pos} {fl1:FO} (h:DE X fl .P a f) (h1:PO X lo (tDO X.K fl fl1)) (h2:PO X hi (tDO X.K fl fh)):DE X fl .FC (.Subscript a (.Slice lo hi none p2) pos) (Je f fl1 fh):=PE.imp (Bv (Mu.or Uk) h h1 h2) fun σ H Q h=>by
 obtain ⟨G,ow,δ,d,R,hf,q⟩:=h
 obtain ⟨x,e1,hf⟩:=bind1 hf
 obtain ⟨o1,e2,hf⟩:=bind1 hf
 obtain ⟨o2,e3,e4⟩:=bind1 hf
 refine ⟨G,ow,δ,x,R,e1,fun v H1 s1 r1=>⟨G,ow,δ,o1,R.grow s1,e2,fun H2 s2=>⟨G,ow,δ,o2,R.grow (s1.trans s2),e3,fun H3 s3=>?_⟩⟩⟩
 obtain ⟨l,rfl⟩:∃ l,x = .tuple l:=by
  cases x <;> first | exact ⟨_,rfl⟩ | cases e4
 dsimp only at e4
 by_cases hfl:flats l=true
 case neg=>rw [if_neg hfl] at e4;cases e4
 rw [if_pos hfl] at e4
 cases e4
 obtain ⟨p,xs,rfl,hx,hr⟩:=r1.tupE0
 have s13:=s2.trans s3
 have ln:xs.length=l.length:=hr.length
 have hx3:gC H3 p xs:=gC.same s13 hx
 have hr3:=hr.same s13
 by_cases hw:HT.sIx xs.length 0 o1=0∧HT.sIx xs.length xs.length o2=xs.length
 ·refine .inl ⟨p,xs,rfl,.inl (.inl hx3),hw.1,hw.2,q _ _ (s1.trans s13) (.inl ⟨uz hfl o1 o2,?_⟩)⟩
  have:cutD l o1 o2=l:=by
   unfold cutD
   rw [← ln,← zT,← zT,hw.1,hw.2,ln]
   simp
  rw [this]
  exact .tup hx3 (RAs.flat hfl hr3)
 ·refine .inr ⟨p,xs,rfl,.inl (.inl hx3),hw,fun pn hp=>q _ _ ((s1.trans s13).trans (cN hp _)) (.inl ⟨uz hfl o1 o2,?_⟩)⟩
  exact .tup (show gC _ _ _ from bM) (RAs.flat (uz hfl o1 o2) ((hr3.same (cN hp _)).cut o1 o2))
theorem Jj (hc:X.calm=true):jY X (.builtin "max") (fun xs H Q=>∃ (p:Addr) (i:Int) (r:List Int),xs=[.ref p]∧SqT X.K H p ((i :: r).map V.int)∧Q (.int (mxI i r)) H):=by
 intro pins s σ H xs us Q I r h
 obtain ⟨p,i,r0,rfl,hx,q⟩:=h
 obtain ⟨u,rfl,rx⟩:=vals1 r
 cases rx
 obtain ⟨its,rvs,pl,hz⟩:=I.tuple hx
 have hi:=sW rvs
 obtain ⟨xs,e⟩:=hi.allInts.items
 have hns:i :: r0=xs.toList.map (·.1):=by rw [← hi.numsOf,← nums_intItems,← e]
 have hsz:0 < xs.size:=by
  have h3:0 < (i :: r0).length:=by simp
  rw [hns,aC,bI] at h3;exact h3
 have hl:s.heap.IsTuple p (intItems xs):=by
  rw [← e]
  obtain ⟨o,g1,g2,n,g3⟩:=pl
  exact ⟨o,g1,g2,n,g3⟩
 have hlt:p < s.heap.objs.size:=by obtain ⟨o,g1,_⟩:=hl;exact Heap.lt_size g1
 refine call_max_walk (wpAny_pyIter_tuple hl ?_)
 refine ⟨_,_,_,_,_,_,_,rfl,Walks.tuple (A:=X.A.in1) (I.ok.hd hc) _ p (aR hlt) (intItems xs),⟨⟨_,Heap.get?_push_size _ rfl,rfl,rfl⟩,hl.push _⟩,fun b hb=>?_,by simpa [intItems] using hsz,CmpOf.ints_gt (numAt xs) (fun _ _=>intItems_at),fun v h' tk hP hk=>?_⟩
 ·show b < (s.heap.push _).objs.size
  rw [Heap.size_push]
  simp at hb
  rcases hb with rfl | rfl
  ·exact d8 _
  ·exact jO hlt
 have hv:(intItems xs)[argBest (fun i j=>decide (numAt xs i > numAt xs j)) (xs.size - 1)]? = some v:=by simpa [intItems] using hP
 obtain ⟨t,rfl⟩:=intItems_at hv
 obtain ⟨h1,h2⟩:=argBest_gt (numAt xs) (xs.size - 1)
 have m1:numAt xs (argBest (fun i j=>decide (numAt xs i > numAt xs j)) (xs.size - 1)) ∈ i :: r0:=by
  rw [hns,numAt_eq];exact getD_mem (by rw [aC,bI];omega)
 have m2:∀ a ∈ i :: r0,a ≤ numAt xs (argBest (fun i j=>decide (numAt xs i > numAt xs j)) (xs.size - 1)):=fun a ha=>by
  rw [hns] at ha
  obtain ⟨j,hj,rfl⟩:=mem_getD ha
  rw [aC,bI] at hj
  rw [← numAt_eq];exact h2 j (by omega)
 have sp:=sO r0 i
 have eq:numAt xs (argBest (fun i j=>decide (numAt xs i > numAt xs j)) (xs.size - 1))=mxI i r0:=pq (sp.2 _ m1) (m2 _ sp.1)
 rw [eq]
 exact ⟨.int _,H,I.kept fun b o eb=>hk b o (fun z=>by
  rw [aM.mp z] at eb
  exact absurd (Heap.lt_size eb) (dO _)) (Heap.get?_push_of_some _ eb),⟨_,rfl⟩,q⟩
theorem Vk:BrC K (fun xs H Q=>∃ (p:Addr) (i:Int) (r:List Int),xs=[.ref p]∧SqT K H p ((i :: r).map V.int)∧Q (.int (mxI i r)) H) Cv:=by
 intro H xs ds d Q r e q
 unfold Cv at e
 split at e
 ·next l =>
  split at e
  ·next i r0 e2 =>
   cases e
   cases r with
   | cons r1 r2 =>
    cases r2
    obtain ⟨a,ys,rfl,hx,hr⟩:=r1.tupE
    obtain rfl:=sX e2 hr
    exact ⟨a,i,r0,rfl,hx,q _ rfl (.int _)⟩
  ·cases e
 ·cases e
theorem Vl {j pos'} (ha:PE X a ta):PC X .Is a (.Constant (.bool false) j pos') (fun σ H Q=>ta σ H fun x H1=>∃ b,x = .bl b∧Q (.bl (!b)) H1):=by
 intro pins s σ H Q I h
 refine thn (ha pins s σ H _ I h) fun v s1 ⟨x,H1,I1,r1,q1⟩=>?_
 obtain ⟨b,rfl,q⟩:=q1
 cases r1
 refine Constant_bool ?_
 cases b
 ·exact wpAny_pure ⟨.bl true,H1,I1,rfl,q⟩
 ·exact wpAny_pure ⟨.bl false,H1,I1,rfl,q⟩
theorem Vm {j pos'} (h:DE X fl .P a f):DE X fl .FC (.Compare a [.Is] [.Constant (.bool false) j pos'] pos) (dUn yE f):=PE.imp (JZ (Vl h)) fun σ H Q h=>by
 obtain ⟨G,ow,δ,d,R,hf,q⟩:=h
 obtain ⟨x,e1,e2⟩:=bind1 hf
 cases x <;> first | (cases e2;done) | skip
 cases e2
 refine ⟨G,ow,δ,_,R,e1,fun v H1 s1 r1=>?_⟩
 obtain rfl:=RA.blE r1
 exact ⟨_,rfl,q _ H1 s1 (.inl ⟨rfl,.bl _⟩)⟩
end
end D3
namespace TE2
open PySem PySem.Spec PyProof.Rows
section
variable {prog:Program} {w:World} {A:Around} {E:Value→Shared→Prop} {s:Shared} {it t:Addr} {i:Nat} {items:Array Value}
theorem Q9 {x:Value} (g:s.heap.IsTupleIter it t i) (ht:s.heap.IsTuple t items) (hx:items[i]? = some x) (q:∀ h',h'.IsTupleIter it t (i + 1)→Heap.SameBut it s.heap h'→Q x { s with heap:=h' }):wpAny (model prog w) A (Builtin.SmallTypes.nextOf (.ref it)) Q E s:=by
 obtain ⟨o,ho,hc,hd⟩:=id g
 obtain ⟨ol,h1,_,nl,h2⟩:=ht
 unfold Builtin.SmallTypes.nextOf
 refine wpAny_bind (wpAny_callSpecial?_slot (name:=Str.ofString "__next__") g.typeIs F.slot_tuple_iterator_next (wpAny_call_entry F.slot_tuple_iterator_next g.typeIs F.entry_tuple_iterator_next ?_ (F.args_tuple_iterator_next_1 _)))
 refine wpAny_bind (m:=field (.ref it) 0) (wpAny_field ho hd (x:=.ref t) rfl ?_)
 show wpAny _ _ (if (Value.ref t == Value.none)=true then _ else _) _ _ s
 rw [if_neg (show ¬ ((Value.ref t == Value.none)=true) from cg)]
 refine wpAny_bind (m:=field (.ref it) 1) (wpAny_field ho hd (x:=.int i 0) rfl (wpAny_bind (m:=seqItems? (.ref t)) (wpAny_seqItems h1 h2 ?_)))
 simp only [cO,hx]
 refine wpAny_bind (wpAny_setField ho hd (by simp) (wpAny_pure ⟨x,rfl,wpAny_pure (q _ ⟨_,Heap.get?_update_self _ ho (Obj.isFreed_of_fields (Obj.data_mapFields hd _)),(Obj.cls_mapFields ..).trans hc,?_⟩ (Heap.SameBut.update ..))⟩))
 rw [Obj.data_mapFields hd];simp [rawInt]
theorem Mv (hh:A.handled=none) (g:s.heap.IsTupleIter it t i) (ht:s.heap.IsTuple t items) (hx:items[i]? = none)
 (q:∀ h' e,Heap.ExtBut it s.heap h'→(∃ o,h'.get? e=some o∧o.cls = .type "StopIteration")→E (.ref e) { s with heap:=h' }):wpAny (model prog w) A (Builtin.SmallTypes.nextOf (.ref it)) Q E s:=by
 obtain ⟨o,ho,hc,hd⟩:=id g
 obtain ⟨ol,h1,_,nl,h2⟩:=ht
 unfold Builtin.SmallTypes.nextOf
 refine wpAny_bind (wpAny_callSpecial?_slot (name:=Str.ofString "__next__") g.typeIs F.slot_tuple_iterator_next (wpAny_call_entry F.slot_tuple_iterator_next g.typeIs F.entry_tuple_iterator_next ?_ (F.args_tuple_iterator_next_1 _)))
 refine wpAny_bind (m:=field (.ref it) 0) (wpAny_field ho hd (x:=.ref t) rfl ?_)
 show wpAny _ _ (if (Value.ref t == Value.none)=true then _ else _) _ _ s
 rw [if_neg (show ¬ ((Value.ref t == Value.none)=true) from cg)]
 refine wpAny_bind (m:=field (.ref it) 1) (wpAny_field ho hd (x:=.int i 0) rfl (wpAny_bind (m:=seqItems? (.ref t)) (wpAny_seqItems h1 h2 ?_)))
 simp only [cO,hx]
 refine wpAny_bind (wpAny_rule (wpAny_bind (wpAny_setField ho hd (by simp) ?_)))
 refine wpAny_bind (m:=newExc (.type "StopIteration") []) ?_
 simp only [newExc,newTuple]
 refine wpAny_bind (wpAny_newObj_type (wpAny_bind (m:=firstArgMember _ _) (wpAny_of_eq (a:=Value.none) (by first | rfl | (simp only [firstArgMember];rfl)) (wpAny_newObj_type ?_ (by size_fits)))) (by size_fits))
 simp only [raiseNew]
 refine wpAny_bind (wpAny_handled ?_)
 rw [show A.in1.handled=none from hh]
 refine wpAny_bind (wpAny_pure (wpAny_throw ?_))
 exact q _ _ (((Heap.SameBut.update ..).extBut.push _).push _) ⟨_,Heap.get?_push_size _ rfl,rfl⟩
theorem draws (hh:A.handled=none) (it t:Addr) (hne:t ≠ it) (items:Array Value):Draws prog w A it [it,t] items.size (fun i v=>items[i]? = some v) (fun i h=>h.IsTupleIter it t i∧h.IsTuple t items) where
 live:=fun _ _ st=>let ⟨o,ho,_⟩:=st.1;⟨o,ho⟩
 frame:=fun _ _ _ st hk=>⟨st.1.at fun o e=>hk it (by simp) o e,st.2.at fun o e=>hk t (by simp) o e⟩
 item:=fun i s Q E hi st hQ=>Q9 st.1 st.2 (x:=items[i]) (by simp [hi]) fun h' g hs=>hQ _ h' s.toks (by simp [hi]) ⟨g,st.2.extBut hs.extBut hne⟩ hs
 done:=fun s Q E st hE=>Mv hh st.1 st.2 (by simp) hE
end
open AutoSeq1 (wpAny_loadPart')
theorem Mw (l:Addr) (items:Array Value) (n:Nat) (dct:Option Addr) (sl:Array (Option Value)) :
 Meets (Builtin.«enumerate.__new__» ⟨[.type "enumerate", .ref l],[]⟩) (fun _ R s=>s.heap.get? l=some { cls:=.type "tuple", dict:=dct,data:=.seq items n,slots:=sl } ∧
  R (.ok (.ret (.ref (s.heap.push { cls:=.type "tuple_iterator", data:=.fields #[.ref l,.int 0 0] }).objs.size)))
   { s with heap:=(s.heap.push { cls:=.type "tuple_iterator", data:=.fields #[.ref l,.int 0 0] }).push { cls:=.type "enumerate", data:=.fields #[.none,.bool false,.ref s.heap.objs.size,rawInt 0,.none,.none] } }) :=
 .of_wp fun prog w A R s h=>by
  obtain ⟨hp,g,d,tk,os⟩:=s;obtain ⟨hl,h⟩:=h
  have hsub:=sub_enumerate
  have hT:Heap.IsTuple (Shared.heap ⟨hp,g,d,tk,os⟩) l items:=⟨_,hl,rfl,n,rfl⟩
  wp_walk using wpAny_loadPart' hl
  refine wpAny_stack_any fun st=>wpAny_pure ?_
  split
  ·rename_i c _ _ _ _ _
   cases (c == Value.type "enumerate") <;> (wp_walk using wpAny_loadPart' hl,wpAny_pyIter_tuple hT;exact ⟨_,rfl,h⟩)
  ·wp_walk using wpAny_loadPart' hl,wpAny_pyIter_tuple hT
   exact ⟨_,rfl,h⟩
section
variable {prog:Program} {w:World} {A:Around} {E:Value→Shared→Prop} {s:Shared}
theorem Jk {l:Addr} {items:Array Value} (hT:s.heap.IsTuple l items)
 (h:∀ h',IsEnum h' (s.heap.objs.size + 1) s.heap.objs.size 0 .none→h'.IsTupleIter s.heap.objs.size l 0→h'.objs.size=s.heap.objs.size + 2→(∀ b o,s.heap.get? b=some o→h'.get? b=some o)→Q (.ref (s.heap.objs.size + 1)) { s with heap:=h' }) :
 wpAny (model prog w) A (call (.type "enumerate") [.ref l]) Q E s:=by
 obtain ⟨⟨c,dct,dt,sl⟩,hl,hc,n,hd⟩:=hT
 replace hc:c = .type "tuple" := hc
 replace hd:dt = .seq items n:=hd
 subst hc hd
 refine callType_new F.called_enumerate (by decide) (F.typeCall_enumerate_1 _) (F.newCall_enumerate_1 _) (fun obj=>F.args_object_init_2 obj _) F.entry_enumerate_new (Mw l items n dct sl) ⟨hl,?_⟩
 have hz:(s.heap.push { cls:=.type "tuple_iterator", data:=.fields #[.ref l,.int 0 0] }).objs.size=s.heap.objs.size + 1:=Heap.size_push ..
 show _∧_
 rw [hz]
 have he:IsEnum ((s.heap.push { cls:=.type "tuple_iterator", data:=.fields #[.ref l,.int 0 0] }).push { cls:=.type "enumerate", data:=.fields #[.none,.bool false,.ref s.heap.objs.size,rawInt 0,.none,.none] }) (s.heap.objs.size + 1) s.heap.objs.size 0 .none:=by
  have:=Heap.get?_push_size (s.heap.push { cls:=.type "tuple_iterator", data:=.fields #[.ref l,.int 0 0] }) (o:={ cls:=.type "enumerate", data:=.fields #[.none,.bool false,.ref s.heap.objs.size,rawInt 0,.none,.none] }) rfl
  rw [hz] at this;exact this
 exact ⟨⟨_,he,rfl⟩,h _ he ⟨_,Heap.get?_push_of_some _ (Heap.get?_push_size _ rfl),rfl,rfl⟩ (by rw [Heap.size_push,hz]) fun b o x=>Heap.get?_push_of_some _ (Heap.get?_push_of_some _ x)⟩
theorem Q_ {e t:Addr} {items:Array Value} {old:Value} {Q:Option Value→Shared→Prop} (hh:A.handled=none) (hne:t ≠ it) (he:IsEnum s.heap e it (i:Int) old) (hi:s.heap.IsTupleIter it t i) (ht:s.heap.IsTuple t items) (hx:items[i]? = none)
 (q:∀ h',Heap.ExtBut it s.heap h'→Q none { s with heap:=h' }):wpAny (model prog w) A (pyNext (.ref e)) Q E s:=by
 have ty:s.TypeIs (.ref e) "enumerate" := ⟨_,he,rfl⟩
 unfold pyNext
 refine wpAny_bind (wpAny_attempt (wpAny_callSpecial?_slot (name:=Str.ofString "__next__") ty F.slot_enumerate_next (wpAny_call_entry F.slot_enumerate_next ty F.entry_enumerate_next ?_ (F.args_enumerate_next_1 _))))
 refine wpAny_bind (m:=field (.ref e) 2) (wpAny_field he rfl (x:=.ref it) rfl (wpAny_bind (Mv (A:=A.in1) hh hi ht hx fun h' x he' hx'=>?_)))
 obtain ⟨o,ho,hc⟩:=hx'
 exact wpAny_bind (wpAny_isInstance (T := "StopIteration") (b:=true) ⟨o,ho,hc⟩ isSubtype_stop (wpAny_pure (q _ he')))
end
end TE2
namespace D3
open PySem PySem.Spec PyProof.Rows L2 My
def ItT (K:PySem.W.Frag) (a:Addr):It :=
 ⟨fun i H=>∃ xs x,SqT K H a xs∧xs[i]? = some x,fun i H x H'=>∃ p y,H p=none∧H'=upd H p (.tup [.int i,y])∧x = .ref p∧∀ xs,SqT K H a xs→xs[i]? = some y,fun i H=>∃ xs,SqT K H a xs∧xs.length ≤ i⟩
theorem Fj {x1} (a it:Addr) :
 Turn P w K (.Tuple elts x1 tpos) (ItT K a) [it + 1,it] (it + 1) (fun i h=>∃ old,IsEnum h (it + 1) it (i:Int) old∧h.IsTupleIter it a i) where
 mem:=by simp
 obj:=fun i h st b hb=>by
  obtain ⟨old,he,o,e,c,d⟩:=st
  rcases aY.mp hb with z | z
  ·subst z
   exact ⟨_,he,fun v z=>by cases z⟩
  ·have z:b=it:=by simpa using z
   subst z
   exact ⟨o,e,fun v z=>by rw [d] at z;cases z⟩
 keep:=fun i h h' st k=>by
  obtain ⟨old,he,hi⟩:=st
  exact ⟨old,k _ (by simp) _ he,hi.at fun o e=>k it (by simp) o e⟩
 item:=by
  intro X hP hw hK hc i pins s σ H E I hf st hg
  subst hP hw hK
  obtain ⟨xs,x,hq,hx⟩:=hg
  obtain ⟨its,rv,p,hz⟩:=I.tuple hq
  obtain ⟨u,hu,ru⟩:=rv.get hx
  obtain ⟨old,he,hi⟩:=st
  have fe:=hf (it + 1) (by simp)
  have fi:=hf it (by simp)
  have hlt:it + 1 < s.heap.objs.size:=Heap.lt_size he
  have il:i < its.toArray.size:=by
   rw [aU]
   rcases dw i its.length with z | z
   ·exact z
   ·rw [aP z] at hu;cases hu
  have pt:s.heap.IsTuple a its.toArray:=by
   obtain ⟨o,g1,g2,n,g3⟩:=p
   exact ⟨o,g1,g2,n,g3⟩
  have hne:a ≠ it:=fun z=>by
   obtain ⟨o,g1,g2,_⟩:=p
   obtain ⟨o2,g3,g4,_⟩:=id hi
   rw [z,g3] at g1
   cases g1
   rw [g4] at g2
   exact absurd g2 (by decide)
  have hne1:a ≠ it + 1:=fun z=>by
   obtain ⟨o,g1,g2,_⟩:=p
   rw [z,he] at g1
   cases g1
   exact absurd (show Value.type "enumerate" = Value.type "tuple" from g2) (by decide)
  refine wpAny_pyNext_enum_itemD (TE2.draws (A:=X.A.in1) (I.ok.hd hc) it a hne its.toArray) he ⟨hi,pt⟩ il (Nat.succ_ne_self it) (by simp [Ne.symm hne1]) fun x' h1 tk hx' ho st1 ht hsz hk=>?_
  have hi1:=st1.1
  obtain rfl:x'=u:=by
   have:its.toArray[i]? = some u:=by simpa using hu
   rw [this] at hx'
   exact (b_.inj hx').symm
  have hk:∀ b o,b ≠ it + 1→b ≠ it→s.heap.get? b=some o→h1.get? b=some o:=hk
  refine ⟨_,rfl,wpAny_letOwnedTupleGo_enum ho fun h2 he2 hs2=>?_⟩
  replace hs2:Heap.SameBut (it + 1) h1 h2:=hs2
  have hn:H s.heap.objs.size=none:=I.hok.fresh (aL _)
  have I0:Inv X pins σ (upd H s.heap.objs.size (.tup [.int (i:Int),x])) { s with heap:=s.heap.push { cls:=.type "tuple", data:=.seq #[.int (i:Int) tk,x'] } } :=
   I.laid (t':=s.toks) (fun b o e=>Heap.get?_push_of_some _ e) (aL _) ⟨show 2 ≤ sizeLine by decide,[.int (i:Int) tk,x'],.cons ⟨_,rfl⟩ (.cons ru .nil),⟨_,Heap.get?_push_size _ rfl,rfl,_,rfl⟩⟩
  have ne:∀ b,b ∈ [it + 1,it]→b ≠ s.heap.objs.size:=fun b hb=>by
   rcases aY.mp hb with w' | w'
   ·rw [w'];exact aR hlt
   ·rw [show b=it by simpa using w'];exact aR (su hlt)
  have I1:Inv X pins σ (upd H s.heap.objs.size (.tup [.int (i:Int),x])) { s with heap:=h2,toks:=tk + 1 }:=by
   refine Inv.turnedL (s:={ s with heap:=s.heap.push { cls:=.type "tuple", data:=.seq #[.int (i:Int) tk,x'] } }) (ch:=[it + 1,it]) I0 (fun b o hb e=>?_) fun b hb=>⟨by rw [bB (ne b hb)];exact (hf b hb).1,(hf b hb).2⟩
   have b1:b ≠ it + 1:=fun z=>hb (by simp [z])
   have b2:b ≠ it:=fun z=>hb (by simp [z])
   rcases Heap.get?_push_cases e with ⟨e1,e2⟩ | e1
   ·subst e1 e2
    exact (hs2.2 _ b1).trans ht
   ·exact (hs2.2 _ b1).trans (hk b o b1 b2 e1)
  refine ⟨.ref s.heap.objs.size,_,I1,rfl,⟨_,x,hn,rfl,rfl,fun ys hy=>by rw [I.tuple_inj hy hq];exact hx⟩,⟨_,he2,hi1.at fun o e=>(hs2.2 _ (aR (d8 it))).trans e⟩,fun b hb=>?_⟩
  rw [bB (ne b hb)]
  exact (hf b hb).1
 done:=by
  intro X hP hw hK hc i pins s σ H E I hf st hg
  subst hP hw hK
  obtain ⟨xs,hq,hx⟩:=hg
  obtain ⟨its,rv,p,hz⟩:=I.tuple hq
  obtain ⟨old,he,hi⟩:=st
  have hl:=rv.length
  have pt:s.heap.IsTuple a its.toArray:=by
   obtain ⟨o,g1,g2,n,g3⟩:=p
   exact ⟨o,g1,g2,n,g3⟩
  have hne:a ≠ it:=fun z=>by
   obtain ⟨o,g1,g2,_⟩:=p
   obtain ⟨o2,g3,g4,_⟩:=id hi
   rw [z,g3] at g1
   cases g1
   rw [g4] at g2
   exact absurd g2 (by decide)
  refine TE2.Q_ (I.ok.hd hc) hne he hi pt (by simp;omega) fun h' eb=>⟨rfl,Inv.turnedL (t':=s.toks) (ch:=[it + 1,it]) I (fun b o hb e=>eb b o (fun z=>hb (by simp [z])) e) hf⟩
 self:=fun _ _ _ _ _ st h=>by
  obtain ⟨old,he,_⟩:=st
  exact wpAny_pyIter_enum he h
section
variable {X:Cx} {fl:List Fl} {a:Expr} {f:FE} {pos:Pos}
def Vo (K:PySem.W.Frag) (tl:TE):TI:=fun σ H R=>tl σ H fun x H1=>∃ a,x = .ref a∧(∃ xs,SqT K H1 a xs)∧R (ItT K a) H1
theorem Mx {x1} (hg:Gl X "enumerate") (hm:X.mg "enumerate" = none) (hl:PE X a tl) (he:starEach [a] X.env=(false,eval a X.env) :: starEach [] X.env:=by rfl)
 (hpl:(backTo pos (starEach [] X.env)).any (·.1)=false:=by rfl):PI X (.Tuple elts x1 tpos) (.Call (.Name "enumerate" p) [a] [] pos) (Vo X.K tl):=by
 intro pins s σ H R I h
 refine wpAny_Call_Name_kw (lA I hg hm boot_enumerate (PyProof.Rows.callWith_type1 (thn ((iz hl lB he) pos pins s σ H (fun vs H1=>match vs with | [x]=>∃ a,x = .ref a∧(∃ xs,SqT X.K H1 a xs)∧R (ItT X.K a) H1 | _=>False) I h) fun us s1 ⟨vs,H1,I1,r1,q1⟩=>?_) he hpl))
 cases r1 with
 | nil=>exact q1.elim
 | cons r rr =>
  cases rr with
  | cons _ _=>exact q1.elim
  | nil =>
  obtain ⟨l,e,⟨xs,hq⟩,q⟩:=q1
  subst e
  cases r
  obtain ⟨its,rv,pl,hz⟩:=I1.tuple hq
  have pt:s1.heap.IsTuple l its.toArray:=by
   obtain ⟨o,g1,g2,n,g3⟩:=pl
   exact ⟨o,g1,g2,n,g3⟩
  refine TE2.Jk pt fun h' he' hi' hsz hk=>?_
  have I2:Inv X pins σ H1 { s1 with heap:=h' }:=I1.kept (t':=s1.toks) hk
  refine wpAny_pyIter_enum (s:={ s1 with heap:=h' }) he' ?_
  refine ⟨s1.heap.objs.size + 1,[s1.heap.objs.size + 1,s1.heap.objs.size],_,_,H1,rfl,I2,Fj l s1.heap.objs.size,⟨_,he',hi'⟩,fun b hb=>?_,q⟩
  have hb':s1.heap.objs.size ≤ b:=by
   rcases aY.mp hb with z | z
   ·rw [z];exact Nat.le_succ _
   ·rw [show b=s1.heap.objs.size by simpa using z];exact aL _
  exact I1.fpOk hb' (I1.hok.fresh hb')
theorem Mz {x1} (h:DE X fl (.B L) a f) (hg:Gl X "enumerate") (hm:X.mg "enumerate" = none) (he:starEach [a] X.env=(false,eval a X.env) :: starEach [] X.env:=by rfl)
 (hpl:(backTo pos (starEach [] X.env)).any (·.1)=false:=by rfl):DI X fl L (.Tuple elts x1 tpos) (.Call (.Name "enumerate" p) [a] [] pos) (Fe f):=PI.imp (Mx hg hm h he hpl) fun σ H R' h=>by
 obtain ⟨G,ow,δ,l,R,hf,q⟩:=h
 obtain ⟨d,e1,e2⟩:=bind1 hf
 cases d <;> first | (cases e2;done) | skip
 next l0 =>
 cases e2
 refine ⟨G,ow,δ,_,R,e1,fun v H1 s r=>?_⟩
 obtain ⟨a,xs,rfl,hx,keep⟩:=Le (R.grow s) r
 refine ⟨a,rfl,⟨xs,hx⟩,q _ _ s fun H2 k2 i=>?_⟩
 obtain ⟨k3,k4⟩:=keep H2 k2
 refine ⟨fun d hd=>?_,fun hl=>⟨xs,k3,by rw [k4.length];simpa [jQ] using hl⟩⟩
 have hd':(l0[i]?).map (fun x=>PyData.tuple [.int (i:Int),x])=some d:=by
  have:=hd
  unfold jQ at this
  rw [d7] at this
  exact this
 cases e:l0[i]? with
 | none=>rw [e] at hd';cases hd'
 | some x0 =>
  rw [e] at hd'
  cases hd'
  obtain ⟨y,hy,ry⟩:=k4.get e
  refine ⟨⟨xs,y,k3,hy⟩,fun x H3 hyl=>?_⟩
  obtain ⟨p,y',hp,rfl,rfl,hz⟩:=hyl
  have:some y=some y':=hy.symm.trans (hz xs k3)
  cases this
  have g:=cN hp (.tup [.int (i:Int),y])
  exact ⟨g,.tup bM (.cons (.int _) (.cons (ry.same g) .nil))⟩
end
end D3
namespace XK
open PySem PySem.Spec PyProof.Rows L2 My D3
theorem Te {P:Nat→Addr→V→V→Prop}:∀ n,(∀ j,j < n→∃ a i k,P j a i k)→∃ ts:List (Addr × V × V),ts.length=n∧∀ j t,ts[j]? = some t→P j t.1 t.2.1 t.2.2
 | 0,_=>⟨[],rfl,fun j t h=>by simp at h⟩
 | n + 1,h=>by
  obtain ⟨ts,h1,h2⟩:=Te n fun j hj=>h j (by omega)
  obtain ⟨a,i,k,hp⟩:=h n (by omega)
  refine ⟨ts++[(a,i,k)],by simp [h1],fun j t e=>?_⟩
  by_cases hj:j < ts.length
  ·rw [cR hj] at e
   exact h2 j t e
  ·rw [cF (by omega)] at e
   have hj':j - ts.length=0:=by
    rcases Nat.eq_zero_or_pos (j - ts.length) with z | z
    ·exact z
    ·rw [aP (by simp;omega)] at e;cases e
   rw [hj'] at e
   cases e
   rw [show j=n by omega]
   exact hp
def wM (H:Hp) (S:Addr) (vs:List V) (ts:List (Addr × V × V)):Hp:=fun b=>if b=S then some (.lst vs) else match ts.find? (fun t=>decide (t.1=b)) with
 | some t=>some (.tup [t.2.1,t.2.2])
 | none=>H b
theorem MF {S:Addr} {ts:List (Addr × V × V)}:wM H S vs ts S=some (.lst vs):=by unfold wM;rw [if_pos rfl]
theorem MJ {S:Addr} {ts:List (Addr × V × V)} (hi:∀ (j j':Nat) (t t':Addr × V × V),ts[j]? = some t→ts[j']? = some t'→t.1=t'.1→j=j') {t:Addr × V × V} (ht:t ∈ ts) (hS:t.1 ≠ S):wM H S vs ts t.1=some (.tup [t.2.1,t.2.2]):=by
 unfold wM
 rw [if_neg hS]
 cases e:ts.find? (fun u=>decide (u.1=t.1)) with
 | none =>
  have:=ig.mp e t ht
  simp at this
 | some t' =>
  have h1:=gj e
  have h2:t'.1=t.1:=of_decide_eq_true (o9 (p:=fun u:Addr × V × V=>decide (u.1=t.1)) e)
  obtain ⟨j,hj⟩:=dZ ht
  obtain ⟨j',hj'⟩:=dZ h1
  have:=hi j j' t t' hj hj' h2.symm
  subst this
  rw [hj] at hj'
  cases hj'
  rfl
theorem MK {S:Addr} {ts:List (Addr × V × V)} (h1:b ≠ S) (h2:∀ t ∈ ts,t.1 ≠ b):wM H S vs ts b=H b:=by
 unfold wM
 rw [if_neg h1,ig.mpr fun t ht=>by simp [h2 t ht]]
theorem MN {ok:Ok}:∀ {vs:List V} {ds:List D},vs.length=ds.length→(∀ (j:Nat) (v:V) (d:D),vs[j]? = some v→ds[j]? = some d→RA K ok pl H v d)→RAs K ok pl H vs ds
 | [],[],_,_=>.nil
 | [],_ :: _,h,_=>by cases h
 | _ :: _,[],h,_=>by cases h
 | v :: vs,d :: ds,h,g=>.cons (g 0 v d rfl rfl) (MN (sH.inj h) fun j u e h1 h2=>g (j + 1) u e h1 h2)
theorem pR:∀ l m:List D,(jR l m).length=min l.length m.length
 | [],m=>by simp [jR]
 | _ :: _,[]=>by simp [jR]
 | a :: l,b :: m=>by
  show (jR l m).length + 1=_
  rw [pR l m,bf,bf]
  omega
section
variable {X:Cx} {fl:List Fl} {a b:Expr} {f g:FE} {p p2 pos pos2:Pos}
theorem MP {L1 L2:List Nat} (ha:DE X fl (.B L1) a f) (hb:DE X fl (.B L2) b g) (hc:X.calm=true) (hg:Gl X "list") (hm:X.mg "list" = none) (hg2:Gl X "zip") (hm2:X.mg "zip" = none)
 (he:starEach [a,b] X.env=(false,eval a X.env) :: starEach [b] X.env:=by rfl) (heb:starEach [b] X.env=(false,eval b X.env) :: starEach [] X.env:=by rfl) (hpl:(backTo pos2 (starEach [b] X.env)).any (·.1)=false:=by rfl)
 (he2:starEach [.Call (.Name "zip" p2) [a,b] [] pos2] X.env=(false,eval (.Call (.Name "zip" p2) [a,b] [] pos2) X.env) :: starEach [] X.env:=by rfl) (hpl2:(backTo pos (starEach [] X.env)).any (·.1)=false:=by rfl) :
 DE X fl .F (.Call (.Name "list" p) [.Call (.Name "zip" p2) [a,b] [] pos2] [] pos) (dOp uw f g):=by
 intro pins s σ H Q I hq
 obtain ⟨G,ow,δ,d,R,hf,q⟩:=hq
 obtain ⟨x,y,e1,e2,e3⟩:=BW hf
 unfold uw at e3
 split at e3
 case h_2=>cases e3
 next l m =>
 by_cases hl:l.length ≤ 1000
 case neg=>rw [if_neg hl] at e3;cases e3
 rw [if_pos hl] at e3
 cases e3
 refine wpAny_Call_Name_kw (lA I hg hm boot_list (PyProof.Rows.callWith_type1 ?_ he2 hpl2))
 rw [he2]
 show wpAny _ _ (spliced ((false,eval (.Call (.Name "zip" p2) [a,b] [] pos2) X.env) :: backTo pos (starEach [] X.env))) _ _ s
 refine Calls.spliced_cons ?_
 refine wpAny_Call_Name_kw (lA I hg2 hm2 D3.boot_zip (PyProof.Rows.callWith_type1 (thn ((iz ha (iz hb lB heb) he) pos2 pins s σ H (fun vs H1=>∃ v u,vs=[v,u]∧Same H H1∧(∃ l1 xs,v = .ref l1∧SqL X.K H1 l1 xs∧RAs X.K (okA ow) true H1 xs l)∧∃ l2 ys,u = .ref l2∧SqL X.K H1 l2 ys∧RAs X.K (okA ow) true H1 ys m) I
  ⟨G,ow,δ,_,R,e1,fun v H1 s1 r1=>⟨G,ow,δ,_,R.grow s1,e2,fun u H2 s2 r2=>⟨v,u,rfl,s1.trans s2,(let ⟨l1,xs,e,hx,hr⟩:=v8 r1;⟨l1,xs,e,s2.seq hx,hr.same s2⟩),v8 r2⟩⟩⟩) fun us s1 ⟨vs,H1,I1,r1,v,u,ev,s01,rv,ru⟩=>?_) he hpl))
 subst ev
 obtain ⟨l1,xs,rfl,hx,hr⟩:=rv
 obtain ⟨l2,ys,rfl,hy,hr'⟩:=ru
 cases r1 with
 | cons ra rb =>
 cases rb with
 | cons rb rc =>
 cases rc
 cases ra
 cases rb
 obtain ⟨its,rvs,pl,hz⟩:=I1.list hx
 obtain ⟨its',rvs',pl',hz'⟩:=I1.list hy
 have il:its.length=xs.length:=rvs.length.symm
 have il':its'.length=ys.length:=rvs'.length.symm
 have xl:xs.length=l.length:=hr.length
 have yl:ys.length=m.length:=hr'.length
 refine call_zip_2 pl.isList pl'.isList fun h' g1 g2 g3 g4 g5 g6 hk=>?_
 refine Calls.spliced_nil ?_
 have q1:h'.IsList l1 its.toArray:=by
  obtain ⟨o,ho,r⟩:=pl.isList
  exact ⟨o,hk _ _ ho,r⟩
 have q2:h'.IsList l2 its'.toArray:=by
  obtain ⟨o,ho,r⟩:=pl'.isList
  exact ⟨o,hk _ _ ho,r⟩
 have Dz:=uo g1 g2 g3 g4 g5 q1 q2 (aR (d8 _)) (aR (d8 _))
 refine LQ (s:={ s1 with heap:=h' }) (I1.ok.hd hc) Dz g1 g2 g3 g4 g5 q1 q2 (by rw [aU,il,xl];exact aW hl (by decide)) fun h'' acc c kk f1 f2 f3 f4=>?_
 replace kk:∀ c o,c ∉ [s1.heap.objs.size + 4,s1.heap.objs.size + 3,s1.heap.objs.size,s1.heap.objs.size + 1]→h'.get? c=some o→h''.get? c=some o:=kk
 replace f4:h''.get? h'.objs.size=some { cls:=.type "list", dict:=none,data:=.seq acc c,slots:=#[] }:=f4
 replace f2:∀ j,j < min its.toArray.size its'.toArray.size→∃ a x y,acc[j]? = some (.ref a)∧h'.objs.size < a∧its.toArray[j]? = some x∧its'.toArray[j]? = some y∧IsPair h'' a x y:=f2
 have fr:∀ c,s1.heap.objs.size ≤ c→H1 c=none:=fun c hc=>I1.hok.fresh hc
 have kept:∀ b u,s1.heap.get? b=some u→h''.get? b=some u:=fun b u e=>kk b u (fun z=>by
  have hlt:=Heap.lt_size e
  simp only [aY,aM,d9,or_false] at z
  rcases z with z | z | z | z <;> rw [z] at hlt
  ·exact mJ.mpr (nG _ _) hlt
  ·exact mJ.mpr (nG _ _) hlt
  ·exact dO _ hlt
  ·exact mJ.mpr (nG _ _) hlt) (hk b u e)
 have sS:s1.heap.objs.size ≤ h'.objs.size:=by rw [g6];omega
 simp only [aU,il,il'] at f1 f2
 obtain ⟨ts,tl,tp⟩:=Te (P:=fun j a i k=>acc[j]? = some (.ref a)∧h'.objs.size < a∧xs[j]? = some i∧ys[j]? = some k∧∃ u v,IsPair h'' a u v∧RelV i u∧RelV k v) (min xs.length ys.length) (fun j hj=>by
  obtain ⟨a,x,y,k1,k2,k3,k4,k5⟩:=f2 j hj
  have hn1:j < xs.length:=by omega
  have hn2:j < ys.length:=by omega
  obtain ⟨u1,w1,r1⟩:=rvs.get (aD hn1)
  obtain ⟨u2,w2,r2⟩:=rvs'.get (aD hn2)
  have ex:x=u1:=by
   have:its[j]? = some x:=by simpa using k3
   rw [w1] at this
   exact (b_.inj this).symm
  have ey:y=u2:=by
   have:its'[j]? = some y:=by simpa using k4
   rw [w2] at this
   exact (b_.inj this).symm
  subst ex ey
  exact ⟨a,xs[j],ys[j],k1,k2,aD hn1,aD hn2,x,y,k5,r1,r2⟩)
 have inj:∀ (j j':Nat) (t t':Addr × V × V),ts[j]? = some t→ts[j']? = some t'→t.1=t'.1→j=j':=fun j j' t t' h1 h2 h3=>by
  have a1:=(tp j t h1).1
  have a2:=(tp j' t' h2).1
  rw [← h3] at a2
  exact f3 j j' t.1 a1 a2
 have tgt:∀ t ∈ ts,h'.objs.size < t.1∧∃ u v,IsPair h'' t.1 u v∧RelV t.2.1 u∧RelV t.2.2 v:=fun t ht=>by
  obtain ⟨j,hj⟩:=dZ ht
  obtain ⟨_,k2,_,_,k5⟩:=tp j t hj
  exact ⟨k2,k5⟩
 have accL:acc.toList=ts.map fun t=>Value.ref t.1:=by
  apply dN
  intro j
  rw [eV,aO]
  by_cases hj:j < ts.length
  ·rw [aD hj]
   exact (tp j _ (aD hj)).1
  ·rw [aP (by omega),eG (by omega)]
   rfl
 have tn:∀ t ∈ ts,t.1 ≠ h'.objs.size:=fun t ht=>jL (tgt t ht).1
 have low:∀ b,b < s1.heap.objs.size→wM H1 h'.objs.size (ts.map fun t=>V.ref t.1) ts b=H1 b:=fun b hb=>MK (fun z=>by rw [z] at hb;exact mJ.mpr sS hb) fun t ht z=>by
  have:=(tgt t ht).1
  rw [z] at this
  exact mJ.mpr sS (lM this hb)
 have hok:HOk X.prog X.w (wM H1 h'.objs.size (ts.map fun t=>V.ref t.1) ts) h'':=fun b u e=>by
  by_cases hbS:b=h'.objs.size
  ·subst hbS
   rw [MF] at e
   cases e
   refine ⟨by rw [aC,tl];exact aW (aW (pA _ _) (by rw [xl];exact hl)) (by decide),acc.toList,c,?_,by simpa using f4⟩
   rw [accL]
   clear tp tl inj tgt accL tn low
   induction ts with
   | nil=>exact .nil
   | cons t ts ih=>exact .cons rfl ih
  ·by_cases hbt:∃ t ∈ ts,t.1=b
   ·obtain ⟨t,ht,rfl⟩:=hbt
    rw [MJ inj ht (tn t ht)] at e
    cases e
    obtain ⟨_,v1,v2,k5,k6,k7⟩:=tgt t ht
    exact ⟨show 2 ≤ sizeLine by decide,[v1,v2],.cons k6 (.cons k7 .nil),⟨_,k5,rfl,_,rfl⟩⟩
   ·rw [MK hbS fun t ht z=>hbt ⟨t,ht,z⟩] at e
    exact (I1.hok b u e).stay (fun c v _ r=>kept c v r) (fun c r=>by rw [low c (I1.hok.lt r)];exact r) fun c xs r=>by rw [low c (I1.hok.lt r)];exact r
 have sm:Same H1 (wM H1 h'.objs.size (ts.map fun t=>V.ref t.1) ts):=fun b u e=>by rw [low b (I1.hok.lt e)];exact e
 have I2:=LR (t':=s1.toks) I1 kept low hok
 have sz:Same H1 (wM H1 h'.objs.size (ts.map fun t=>V.ref t.1) ts):=sm
 have hrz:RAs X.K (fun b=>okA ow b∧b ≠ h'.objs.size) true (wM H1 h'.objs.size (ts.map fun t=>V.ref t.1) ts) (ts.map fun t=>V.ref t.1) (jR l m):=by
  have hp:=fr _ sS
  have r1:=(hr.track.imp (ok':=fun b=>okA ow b∧b ≠ h'.objs.size) (fun b w=>⟨w.1,fun e=>w.2 (e ▸ hp)⟩) (fun z=>z)).same sm
  have r2:=(hr'.track.imp (ok':=fun b=>okA ow b∧b ≠ h'.objs.size) (fun b w=>⟨w.1,fun e=>w.2 (e ▸ hp)⟩) (fun z=>z)).same sm
  have zln:(jR l m).length=ts.length:=by rw [tl,xl,yl,pR]
  refine MN (by rw [aC,zln]) fun j v d hv hd=>?_
  rw [aO] at hv
  cases et:ts[j]? with
  | none=>rw [et] at hv;cases hv
  | some t =>
   rw [et] at hv
   cases hv
   obtain ⟨_,_,k3,k4,_⟩:=tp j t et
   have lj:j < l.length:=by
    rw [← xl]
    rcases dw j xs.length with z | z
    ·exact z
    ·rw [aP z] at k3;cases k3
   have mj:j < m.length:=by
    rw [← yl]
    rcases dw j ys.length with z | z
    ·exact z
    ·rw [aP z] at k4;cases k4
   rw [wg,aD lj,aD mj] at hd
   cases hd
   obtain ⟨y1,g1,g2⟩:=r1.get (aD lj)
   obtain ⟨y2,g3,g4⟩:=r2.get (aD mj)
   rw [k3] at g1
   rw [k4] at g3
   cases g1
   cases g3
   exact .tup (MJ inj (fj et) (tn t (fj et))) (.cons g2 (.cons g4 .nil))
 refine ⟨.ref h'.objs.size,_,I2,rfl,q _ _ (s01.trans sm) (.inr ⟨h'.objs.size,_,_,rfl,rfl,s01.free (fr _ sS),MF,hrz⟩)⟩
end
end XK
namespace XJ
open PySem PySem.Spec PySem.W PyProof.Rows XS
def lJ (vs:List (List L2.Key × Addr × Value)):List (List L2.Key × Addr × Value):=vs.foldl (fun xs e=>storedH xs e.1 e.2.1 e.2.2) []
theorem Fo (vs:List (List L2.Key × Addr × Value)) (e:List L2.Key × Addr × Value):lJ (vs++[e])=storedH (lJ vs) e.1 e.2.1 e.2.2:=by
 unfold lJ
 rw [List.foldl_append]
 rfl
theorem CV (xs:List (List L2.Key × Addr × Value)) (k:List L2.Key) (a:Addr) (v:Value):(storedH xs k a v).length ≤ xs.length + 1:=by
 cases h:atKey xs k with
 | none=>rw [storedH_new h];simp
 | some p=>rw [storedH_old h];simp
theorem Jl:∀ vs:List (List L2.Key × Addr × Value),(lJ vs).length ≤ vs.length:=fun vs=>by
 have:∀ (vs acc:List (List L2.Key × Addr × Value)),(vs.foldl (fun xs e=>storedH xs e.1 e.2.1 e.2.2) acc).length ≤ acc.length + vs.length:=fun vs=>by
  induction vs with
  | nil=>exact fun acc=>aL _
  | cons e vs ih =>
   intro acc
   have h1:=ih (storedH acc e.1 e.2.1 e.2.2)
   have h2:=CV acc e.1 e.2.1 e.2.2
   rw [lq,bf]
   omega
 simpa [lJ] using this vs []
theorem Jm:∀ (vs:List (List L2.Key × Addr × Value)) (x:List L2.Key × Addr × Value),x ∈ lJ vs→∃ e ∈ vs,e.2.1=x.2.1:=fun vs x=>by
 have:∀ (vs acc:List (List L2.Key × Addr × Value)),x ∈ vs.foldl (fun xs e=>storedH xs e.1 e.2.1 e.2.2) acc→(∃ e ∈ vs,e.2.1=x.2.1)∨∃ e ∈ acc,e.2.1=x.2.1:=fun vs=>by
  induction vs with
  | nil=>exact fun acc h=>.inr ⟨x,h,rfl⟩
  | cons e vs ih =>
   intro acc h
   rcases ih _ h with ⟨e',h1,h2⟩ | ⟨e',h1,h2⟩
   ·exact .inl ⟨e',aJ _ h1,h2⟩
   ·have h1:e' ∈ storedH acc e.1 e.2.1 e.2.2:=h1
    cases hk:atKey acc e.1 with
    | none =>
     rw [storedH_new hk] at h1
     rcases cL.mp h1 with h1 | h1
     ·exact .inr ⟨e',h1,h2⟩
     ·rw [aM.mp h1] at h2
      exact .inl ⟨e,aG,h2⟩
    | some p =>
     rw [storedH_old hk] at h1
     obtain ⟨e0,h3,rfl⟩:=bY.mp h1
     refine .inr ⟨e0,h3,?_⟩
     unfold putAt at h2
     split at h2 <;> exact h2
 intro h
 rcases this vs [] h with h | ⟨_,h,_⟩
 ·exact h
 ·cases h
section
variable {prog:Program} {w:World} {A:Around} {E:Value→Shared→Prop} {s:Shared}
theorem tK {k:List L2.Key} (z:(tupleKind (L2.bV prog w)).is h k b) (kp:∀ o,h.get? b=some o→h'.get? b=some o):(tupleKind (L2.bV prog w)).is h' k b:=by
 obtain ⟨o,its,n,h1,r⟩:=z
 exact ⟨o,its,n,kp o h1,r⟩
theorem wN {D:Addr} {xs:List (List L2.Key × Addr × Value)} (d:h.DictOfH (tupleKind (L2.bV prog w)) D xs) (kp:∀ b o,b ≠ I→h.get? b=some o→h'.get? b=some o) (hD:D ≠ I) (far:∀ x ∈ xs,x.2.1 ≠ I):h'.DictOfH (tupleKind (L2.bV prog w)) D xs:=by
 obtain ⟨o,es,ep,h1,h2,h3,h4,h5,h6⟩:=d
 exact ⟨o,es,ep,kp D o hD h1,h2,h3,h4,fun x hx=>tK (h5 x hx) fun o q=>kp _ o (far x hx) q,h6⟩
structure PR (prog:Program) (w:World) (h:Heap) (D I l:Addr) (its:Array Value) (vs:List (List L2.Key × Addr × Value)) (i:Nat):Prop where
 iter:h.IsListIter I l i
 lst:h.IsList l its
 prs:∀ (j:Nat) (u:Value),its[j]? = some u→∃ (a b:Addr) (k:List L2.Key) (v:Value),u=Value.ref a∧IsTup h a #[Value.ref b,v]∧vs[j]? = some (k,b,v)∧a ≠ D∧a ≠ I∧(tupleKind (L2.bV prog w)).is h k b∧b ≠ D∧b ≠ I
 ne:l ≠ D∧l ≠ I∧D ≠ I
theorem CW {D l:Addr} {vs:List (List L2.Key × Addr × Value)} (P:PR prog w h D I l its vs i) (hz:vs.length=its.size):∀ x ∈ lJ (vs.take i),x.2.1 ≠ I:=fun x hx=>by
 obtain ⟨e,he,ee⟩:=Jm _ x hx
 obtain ⟨j,hj⟩:=dZ (List.mem_of_mem_take he)
 have jl:j < its.size:=by
  rw [← hz]
  rcases dw j vs.length with z | z
  ·exact z
  ·rw [aP z] at hj;cases hj
 obtain ⟨a,b,k,v,_,_,h3,_,_,_,_,h8⟩:=P.prs j its[j] (by simp [jl])
 rw [hj] at h3
 cases h3
 rw [← ee]
 exact h8
theorem M4 {D l:Addr} {vs:List (List L2.Key × Addr × Value)} (hA:A.handled=none) (hroom:(tupleKind (L2.bV prog w)).room A.in1) (hz:vs.length=its.size) (hs:its.size ≤ 1000) :
 ∀ (m i:Nat) (tk:Tok) (s:Shared),its.size - i=m→i ≤ its.size→PR prog w s.heap D I l its vs i→s.heap.DictOfH (tupleKind (L2.bV prog w)) D (lJ (vs.take i)) →
  (∀ h' tk,(∀ b o,b ≠ D→b ≠ I→s.heap.get? b=some o→h'.get? b=some o)→h'.DictOfH (tupleKind (L2.bV prog w)) D (lJ vs)→R (.ok (.ret .none)) { s with heap:=h',toks:=tk }) →
  codeAny (model prog w) A (.builtin "dict.update.loop" ⟨[.ref D,.ref I,.int i tk,.none],[]⟩) R s:=by
 intro m
 induction m with
 | zero =>
  intro i tk s hm hi P hd hR
  have e:i=its.size:=by omega
  subst e
  refine codeAny_builtin qg ?_
  rw [Around.under_plainId jG _]
  have:its[its.size]? = none:=by simp
  show wpAny _ A.in1 (pyNext (.ref I) >>= _) _ _ s
  refine wpAny_bind (wpAny_pyNext_list_end (by simpa using hA) P.iter P.lst this fun h' hx=>?_)
  show wpAny _ A.in1 (Builtin.Dict.addKeywords D [] >>= _) _ _ _
  refine wpAny_bind (wpAny_pure (wpAny_pure ?_))
  have hx':h'.DictOfH (tupleKind (L2.bV prog w)) D (lJ vs):=by
   have:=wN hd (fun b o z q=>hx b o z q) P.ne.2.2 (CW P hz)
   rwa [← hz,List.take_length] at this
  exact hR h' s.toks (fun b o _ z q=>hx b o z q) hx'
 | succ m ih =>
  intro i tk s hm hi P hd hR
  have hlt:i < its.size:=by omega
  obtain ⟨u,hu⟩:∃ u,its[i]? = some u:=⟨its[i],by simp [hlt]⟩
  obtain ⟨a,b0,k0,v,rfl,hp,hv,na,ni,hk0,nb,nbi⟩:=P.prs i u hu
  refine codeAny_builtin qg ?_
  rw [Around.under_plainId jG _]
  show wpAny _ A.in1 (pyNext (.ref I) >>= _) _ _ s
  refine wpAny_bind (wpAny_pyNext_list_item P.iter P.lst hu fun h1 it1 sb1=>?_)
  have k1:∀ b,b ≠ I→h1.get? b=s.heap.get? b:=fun b z=>sb1.2 b z
  have hp1:IsTup h1 a #[.ref b0,v]:=by
   obtain ⟨o,e,c⟩:=hp
   exact ⟨o,(k1 a ni).trans e,c⟩
  have hd1:h1.DictOfH (tupleKind (L2.bV prog w)) D (lJ (vs.take i)):=wN hd (fun b o z q=>(k1 b z).trans q) P.ne.2.2 (CW P hz)
  have hk1:(tupleKind (L2.bV prog w)).is h1 k0 b0:=tK hk0 fun o q=>(k1 b0 nbi).trans q
  show wpAny _ A.in1 (holding [Value.ref a] _ >>= _) _ _ _
  refine wpAny_bind (wpAny_holding ?_)
  have hs1:(lJ (vs.take i)).length ≤ sizeLine:=by
   refine aW (Jl _) ?_
   rw [fY]
   exact aW (pA _ _) (aW (dj hlt) (aW hs (by decide)))
  have hnew:storedH (lJ (vs.take i)) k0 b0 v=lJ (vs.take (i + 1)):=by
   rw [sy,hv]
   exact (Fo (vs.take i) (k0,b0,v)).symm
  obtain ⟨o2,e2,c2,n2,d2⟩:=id hp1
  have hT:Shared.TypeIs { s with heap:=h1 } (.ref a) "tuple" := ⟨o2,e2,c2⟩
  refine wpAny_bind (wpAny_tryCatch ?_)
  unfold Builtin.Dict.pairItems
  refine wpAny_bind (wpAny_typeOf hT ?_)
  rw [if_pos (by decide)]
  refine wpAny_bind (wpAny_seqItems e2 d2 (wpAny_pure ?_))
  show wpAny _ _ (holding [Value.ref b0,v] (dictSet D (.ref b0) v)) _ _ _
  refine wpAny_holding (wpAny_dictSet_heap (hsz:=hs1) hroom hk1 hd1 fun h2 dd sb2=>?_)
  rw [hnew] at dd
  refine wpAny_pure ⟨plainId_quiet jG _,?_⟩
  have k2:∀ b o,b ≠ D→b ≠ I→s.heap.get? b=some o→h2.get? b=some o:=fun b o z1 z2 q=>(sb2.2 b z1).trans ((k1 b z2).trans q)
  have tup2:∀ b x,b ≠ D→b ≠ I→IsTup s.heap b x→IsTup h2 b x:=fun b x z1 z2 ⟨o,e,c⟩=>⟨o,k2 b o z1 z2 e,c⟩
  refine ih (i + 1) 0 _ (by omega) (by omega) ⟨?_,?_,fun j u hj=>?_,P.ne⟩ dd fun h3 tk3 k3 d3=>?_
  ·obtain ⟨o,e,c⟩:=it1
   exact ⟨o,(sb2.2 I (Ne.symm P.ne.2.2)).trans e,c⟩
  ·obtain ⟨o,e,c⟩:=P.lst
   exact ⟨o,k2 l o P.ne.1 P.ne.2.1 e,c⟩
  ·obtain ⟨a',b',kk',v',rfl,q1,q2,q3,q4,q5,q6,q7⟩:=P.prs j u hj
   exact ⟨a',b',kk',v',rfl,tup2 a' _ q3 q4 q1,q2,q3,q4,tK q5 fun o q=>k2 b' o q6 q7 q,q6,q7⟩
  ·exact hR h3 tk3 (fun b o z1 z2 q=>k3 b o z1 z2 (k2 b o z1 z2 q)) d3
theorem Ai {l:Addr} {vs:List (List L2.Key × Addr × Value)} (hA:A.handled=none) (hl:s.heap.get? l=some { cls:=.type "list", dict:=none,data:=.seq its n,slots:=sl })
 (hp:∀ (j:Nat) (u:Value),its[j]? = some u→∃ (a b:Addr) (k:List L2.Key) (v:Value),u=Value.ref a∧IsTup s.heap a #[Value.ref b,v]∧vs[j]? = some (k,b,v)∧(tupleKind (L2.bV prog w)).is s.heap k b) (hu:(tupleKind (L2.bV prog w)).room A.in1.in1) (hz:vs.length=its.size) (hs:its.size ≤ 1000)
 (h:∀ h' tk,h'.DictOfH (tupleKind (L2.bV prog w)) s.heap.objs.size (lJ vs)→(∀ b o,s.heap.get? b=some o→h'.get? b=some o)→Q (.ref s.heap.objs.size) { s with heap:=h',toks:=tk }) :
 wpAny (model prog w) A (PySem.call (.type "dict") [.ref l]) Q E s:=by
 refine callType_codes (Q₁:=fun obj s₁=>obj = .ref s.heap.objs.size∧s₁ = { s with heap:=s.heap.push { cls:=.type "dict", data:=.dict #[] } }) F.kt_called_dict (F.kt_typeCall_dict_1 _) F.entry_dict_init (kt_code_dict_new _ ⟨rfl,rfl⟩) ?_
 rintro obj s₁ ⟨rfl,rfl⟩
 obtain ⟨g,eg⟩:∃ g,g=s.heap.push { cls:=.type "dict", data:=.dict #[] }:=⟨_,rfl⟩
 rw [← eg]
 have dn:g.DictOf (L2.bV prog w) s.heap.objs.size []:=by rw [eg];exact Heap.DictOf.new s.heap
 have kg:∀ b o,s.heap.get? b=some o→g.get? b=some o:=fun b o q=>by rw [eg];exact Heap.get?_push_of_some _ q
 have lg:=kg _ _ hl
 have hT:Shared.TypeIs { s with heap:=g } (.ref l) "list" := ⟨_,lg,rfl⟩
 refine ⟨dn.typeIs,F.args_dict_init_2 _ _,?_⟩
 unfold Builtin.«dict.__init__»
 refine wpAny_bind ?_
 unfold Builtin.Dict.selfAndRest
 refine wpAny_bind (wpAny_notOrdered_dict dn.typeIs ?_)
 show wpAny _ _ (pure (s.heap.objs.size,[Value.ref l])) _ _ _
 refine wpAny_pure ?_
 show wpAny _ _ (Builtin.Dict.updateFrom "dict.__init__" s.heap.objs.size (.ref l) [] .none) _ _ _
 unfold Builtin.Dict.updateFrom
 refine wpAny_bind (wpAny_typeOf hT ?_)
 rw [if_pos (by decide)]
 have hA2:A.in1.in1.handled=none:=by simpa using hA
 refine wpAny_bind (yO (s:={ s with heap:=g }) lg hA2 fun h1 tk1 k1=>?_)
 rw [if_pos (by rfl)]
 refine wpAny_bind (wpAny_rule ?_)
 have l1:h1.get? l=_:=k1 _ _ lg
 have il:h1.IsList l its:=⟨_,l1,rfl,n,rfl⟩
 refine wpAny_bind (wpAny_pyIter_list (s:={ s with heap:=h1,toks:=tk1 }) il ?_)
 refine wpAny_pure ⟨plainId_quiet jG _,?_⟩
 obtain ⟨g2,eg2⟩:∃ g2,g2=h1.push { cls:=.type "list_iterator", data:=.fields #[.ref l,.int 0 0] }:=⟨_,rfl⟩
 have k2:∀ b o,s.heap.get? b=some o→g2.get? b=some o:=fun b o q=>by rw [eg2];exact Heap.get?_push_of_some _ (k1 _ _ (kg _ _ q))
 have old:∀ b o,s.heap.get? b=some o→b ≠ s.heap.objs.size∧b ≠ h1.objs.size:=fun b o q=>by
  have lt:=Heap.lt_size q
  have lt2:=Heap.lt_size (k1 _ _ (kg _ _ q))
  exact ⟨aR lt,aR lt2⟩
 have dne:s.heap.objs.size ≠ h1.objs.size:=by
  obtain ⟨o,_,_,e,_⟩:=dn
  exact aR (Heap.lt_size (k1 _ _ e))
 have dd:g2.DictOfH (tupleKind (L2.bV prog w)) s.heap.objs.size (lJ (vs.take 0)):=by
  have dn':g.DictOfH (tupleKind (L2.bV prog w)) s.heap.objs.size []:=by rw [eg];exact Heap.DictOfH.new s.heap
  obtain ⟨o,es,ep,e,r1,r2,r3,r4,r5⟩:=dn'
  exact ⟨o,es,ep,by rw [eg2];exact Heap.get?_push_of_some _ (k1 _ _ e),r1,r2,r3,(fun x hx=>by cases hx),r5⟩
 have o1:=old _ _ hl
 show codeAny (model prog w) A.in1 (Code.builtin "dict.update.loop" ⟨[Value.ref s.heap.objs.size,Value.ref h1.objs.size,Value.int ((0:Nat):Int) 0,Value.none],[]⟩) _ { s with heap:=h1.push { cls:=.type "list_iterator", data:=.fields #[.ref l,.int 0 0] },toks:=tk1 }
 rw [← eg2]
 refine M4 (s:={ s with heap:=g2,toks:=tk1 }) (A:=A.in1) (by simpa using hA) hu hz hs its.size 0 0 rfl (cZ _) ⟨⟨_,by rw [eg2];exact Heap.get?_push_size _ rfl,rfl,rfl⟩,⟨_,k2 _ _ hl,rfl,n,rfl⟩,fun j u hj=>?_,⟨o1.1,o1.2,dne⟩⟩ dd fun h3 tk3 k3 d3=>?_
 ·obtain ⟨a,b,k,v,rfl,⟨o,e,c⟩,q,hk⟩:=hp j u hj
  have o2:=old _ _ e
  have o3:b ≠ s.heap.objs.size∧b ≠ h1.objs.size:=by
   obtain ⟨ob,_,_,eb,_⟩:=id hk
   exact old _ _ eb
  exact ⟨a,b,k,v,rfl,⟨o,k2 _ _ e,c⟩,q,o2.1,o2.2,tK hk fun o q=>k2 b o q,o3.1,o3.2⟩
 ·exact ⟨rfl,h h3 tk3 d3 fun b o q=>k3 b o (old b o q).1 (old b o q).2 (k2 b o q)⟩
end
end XJ
namespace XJ
open PySem PySem.Spec PySem.W PyProof.Rows L2 My D3 XK XT XD XS
def Vp (K:PySem.W.Frag) (H:Hp) (y:V) (k:List Int):Prop:=∃ a b,y = .ref a∧gC H a [.ref b,.bl true]∧H b=some (.tup (k.map V.int))
theorem Tf {ok:Ok}:∀ {l:List D} {ks:List (List Int)} {ys:List V},rpD l=some ks→RAs K ok pl H ys l→Paired (Vp K H) ys ks
 | [],ks,_,e,.nil=>by cases e;exact .nil
 | d :: l,ks,_,e,.cons a q=>by
  unfold rpD at e
  split at e
  ·next z=>cases z
  ·next m r z =>
   cases z
   obtain ⟨k,e1,e2⟩:=bind1 e
   cases e3:rpD l with
   | none=>rw [e3] at e2;cases e2
   | some ks' =>
    rw [e3] at e2
    cases e2
    obtain ⟨p,xs,rfl,h1,h2⟩:=a.tupE0
    cases h2 with
    | cons r1 r2 =>
    cases r2 with
    | cons r2 r3 =>
    cases r3
    obtain rfl:=r2.blE
    obtain ⟨b,rfl,hb⟩:=vC (y:=.tuple m) (k:=k) e1 r1
    rw [tG] at hb
    exact .cons ⟨p,b,rfl,h1,hb⟩ (Tf e3 q)
  ·cases e
theorem Hl:∀ (es:List (List Int × Addr)) (S:List (List Int)) (xs:List (List L2.Key × Addr × Value)),(∀ e ∈ es,H e.2=some (.tup (e.1.map V.int)))→KT H (dtI S) xs →
 KT H (dtI ((es.map (·.1)).foldl lU S)) ((es.map fun e=>((e.1.map Sum.inl,e.2,Value.bool true):List L2.Key × Addr × Value)).foldl (fun xs e=>storedH xs e.1 e.2.1 e.2.2) xs)
 | [],S,xs,_,h=>h
 | e :: es,S,xs,hb,h=>by
  refine Hl es (lU S e.1) (storedH xs (e.1.map Sum.inl) e.2 (.bool true)) (fun e' he=>hb e' (aJ _ he)) ?_
  rw [← Ve]
  exact KT.put h _ (by rw [tG];exact hb e aG) rfl
theorem Ra (S:List (List Int)) (k:List Int):lU S k ≠ []:=by
 unfold lU
 split
 ·intro z
  subst z
  rename_i h
  cases h
 ·simp
theorem CZ:∀ (ks:List (List Int)) (S:List (List Int)),(ks ≠ []∨S ≠ [])→ks.foldl lU S ≠ []
 | [],S,h=>by
  rcases h with h | h
  ·exact absurd rfl h
  ·exact h
 | k :: ks,S,_=>CZ ks (lU S k) (.inr (Ra S k))
theorem yQ:∀ (ks:List (List Int)) (S:List (List Int)),(ks.foldl lU S).length ≤ S.length + ks.length
 | [],S=>aL _
 | k :: ks,S=>by
  have h1:=yQ ks (lU S k)
  have h2:(lU S k).length ≤ S.length + 1:=by
   unfold lU
   split <;> simp
  rw [lq,bf]
  omega
section
variable {X:Cx}
theorem Ho {σ:L2.St} (I:L2.Inv X pins σ H s):∀ {ys:List V} {us:List Value} {ks:List (List Int)},Paired (Vp X.K H) ys ks→Vals ys us→∃ es:List (List Int × Addr),es.length=us.length∧es.map (·.1)=ks∧(∀ e ∈ es,H e.2=some (.tup (e.1.map V.int))) ∧
 ∀ (j:Nat) (u:Value),us[j]? = some u→∃ (a:Addr) (e:List Int × Addr),u=Value.ref a∧es[j]? = some e∧IsTup s.heap a #[Value.ref e.2,Value.bool true]
 | _,_,_,.nil,.nil=>⟨[],rfl,rfl,(fun e h=>by cases h),(fun j u h=>by simp at h)⟩
 | _,_,_,.cons (b:=k) p ps,.cons r rs=>by
  obtain ⟨es,h1,h2,h3,h4⟩:=Ho I ps rs
  obtain ⟨a,b,rfl,ht,hb⟩:=p
  cases r
  obtain ⟨its,rr,pt,_⟩:=I.tuple (.inl (.inl ht))
  refine ⟨(k,b) :: es,by simp [h1],by simp [h2],fun e he=>?_,fun j u hj=>?_⟩
  ·rcases aY.mp he with rfl | he
   ·exact hb
   ·exact h3 e he
  ·cases j with
   | zero =>
    simp at hj
    subst hj
    cases rr with
    | cons r1 rr =>
    cases rr with
    | cons r2 rr =>
    cases rr
    cases r1
    cases r2
    exact ⟨a,(k,b),rfl,rfl,pt⟩
   | succ j=>exact h4 j u (by simpa using hj)
theorem rm2 (hu:A.units + 64 < cLine):(tupleKind (L2.bV P w)).room A.in1.in1:=tupleKind_room_in1 (A:=A.in1) (by
 have:A.in1.units ≤ A.units + 1:=by
  first | exact aL _ | (unfold Around.in1;simp)
 omega)
theorem Fp (hu:X.A.units + 64 < cLine) (hA:X.A.handled=none):jY X (.type "dict") (fun xs H Q=>∃ (p:Addr) (ys:List V) (ks:List (List Int)),xs=[.ref p]∧SqL X.K H p ys∧ys.length ≤ 1000∧Paired (Vp X.K H) ys ks∧∀ l,H l=none→Q (.ref l) (upd H l (.dT (dtI (ks.foldl lU []))))):=by
 intro pins s σ H xs us Q I r h
 obtain ⟨p,ys,ks,rfl,hx,hl,hp,q⟩:=h
 obtain ⟨u,rfl,rx⟩:=vals1 r
 cases rx
 obtain ⟨its,rvs,pl,hz⟩:=I.list hx
 obtain ⟨⟨c,d,dt,sl⟩,n,e,rfl,rfl,rfl⟩:=pl
 obtain ⟨es,v1,v2,v3,v4⟩:=Ho I hp rvs
 have len:its.length=ys.length:=rvs.length.symm
 have hq:H s.heap.objs.size=none:=I.hok.fresh (aL _)
 refine Ai (vs:=es.map fun e=>(e.1.map Sum.inl,e.2,Value.bool true)) hA e (fun j u hj=>?_) (rm2 hu) (by simpa using v1) (by simp;omega) fun h' tk dd k=>?_
 ·obtain ⟨a,e,rfl,h1,h2⟩:=v4 j u (by simpa using hj)
  refine ⟨a,e.2,e.1.map Sum.inl,.bool true,rfl,h2,by rw [aO,h1];rfl,ux I.hok ?_⟩
  rw [tG]
  exact v3 e (fj h1)
 ·have kt:=Hl (H:=H) es [] [] v3 .nil
  rw [v2] at kt
  obtain ⟨o,ens,ep,g1,g2,g3,g4,g5,g6⟩:=dd
  have I2:=I.laid (h':=h') (t':=tk) (a:=s.heap.objs.size) (o:=.dT (dtI (ks.foldl lU []))) k (aL _)
   ⟨by
    have z:=yQ ks []
    have kl:ks.length=ys.length:=hp.length.symm
    unfold dtI
    rw [aC]
    refine aW z ?_
    rw [jx,fQ,kl]
    exact aW hl (by decide),beq_eq_false_iff_ne.mpr (Ne.symm (aR (big I))),_,KT.keeps kt fun c ys' ec=>by rw [bB (iy ec hq)];exact ec,o,ens,ep,g1,g2,g3,g4,g6⟩
  exact ⟨.ref _,_,I2,rfl,q _ hq⟩
theorem M5 (hu:X.A.units + 64 < cLine) (hA:X.A.handled=none) (ha:DB X fl .P [e] fa) (hg:Gl X "dict") (hm:X.mg "dict" = none)
 (he:starEach [e] X.env=(false,eval e X.env) :: starEach [] X.env:=by rfl) (hpl:(backTo pos (starEach [] X.env)).any (·.1)=false:=by rfl):DE X fl .C (.Call (.Name "dict" p) [e] [] pos) (dCall wC fa):=by
 intro pins s σ H Q I h
 obtain ⟨G,ow,δ,d,R,hf,q⟩:=h
 obtain ⟨ds,e1,e2⟩:=bind1 hf
 unfold wC at e2
 split at e2
 case h_2=>cases e2
 next l =>
 obtain ⟨ks,e4,e5⟩:=bind1 e2
 by_cases hc:l.length ≤ 1000
 case neg=>rw [if_neg hc] at e5;cases e5
 rw [if_pos hc] at e5
 cases e5
 by_cases h0:ks=[]
 ·subst h0
  have hl:l=[]:=by
   cases l with
   | nil=>rfl
   | cons d l =>
    exfalso
    unfold rpD at e4
    split at e4
    ·next z=>cases z
    ·obtain ⟨k,_,e6⟩:=bind1 e4
     cases e7:rpD l with
     | none=>simp_all
     | some ks'=>simp_all
    ·cases e4
  subst hl
  exact Lp hA ha hg hm he hpl pins s σ H Q I ⟨G,ow,δ,_,R,by unfold dCall;rw [e1];rfl,q⟩
 ·refine mz (Fp hu hA) hg hm (show bootBuiltins "dict" = some (.type "dict") by decide +kernel) ha (by decide) (by decide) he hpl pins s σ H Q I ⟨G,ow,δ,_,R,e1,fun vs H' sm r'=>?_⟩
  cases r' with
  | cons r1 r2 =>
   cases r2
   obtain ⟨a,ys,rfl,hx,hr⟩:=r1.lstE
   have hne:=CZ ks [] (.inl h0)
   refine ⟨a,ys,ks,rfl,hx,by rw [hr.length];exact hc,Tf e4 hr,fun l0 hn=>q _ _ (sm.trans (cN hn _)) (.dic bM (.inl ⟨Fi (G4 _),?_⟩) (sm.free hn))⟩
   rw [Ma (G4 _) hne]
end
end XJ
namespace XV
open PySem PySem.Spec PyProof.Rows L2 My D3
theorem Rc {y:Str} {py:Pos} (hfl:fl[i]? = some .O) (hfj:fl[j]? = some .O) (hN:X.N[i]? = some x) (hj:X.N[j]? = some y) (hv:Vis X.env.scope x:=by first | exact Or.inl rfl | exact Or.inr (Or.inl rfl) | exact Or.inr (Or.inr rfl)) (hd:(x == ("__debug__" : Str))=false:=by decide)
 (hcd:(x == ("__classdict__" : Str))=false:=by decide) (hvj:Vis X.env.scope y:=by first | exact Or.inl rfl | exact Or.inr (Or.inl rfl) | exact Or.inr (Or.inr rfl)) (hdj:(y == ("__debug__" : Str))=false:=by decide) (hcdj:(y == ("__classdict__" : Str))=false:=by decide)
 (hs:swapsWith (.Call (.Attribute (.Name x vpos) "append" apos) [.Name y py] [] cpos) none pos.line X.env=pure false:=by rfl)
 (hbase:attributeBase (.Name x vpos) "append" X.env (eval (.Name x vpos) X.env)=eval (.Name x vpos) X.env:=by rfl)
 (hfew:((backTo cpos (starEach [.Name y py] X.env)).all (fun x=>!x.1) && (backToKw cpos (keywordEach [] X.env)).all (fun x=>x.1.isSome)
  && decide (([.Name y py]:List Expr).length + ([]:List Keyword).length + (if ([]:List Keyword).isEmpty then 0 else 1) < 30))=true:=by rfl)
 (hline:(apos.endLine == cpos.line)=true:=by rfl) (hst:starEach [.Name y py] X.env=(false,eval (.Name y py) X.env) :: starEach [] X.env:=by rfl) (hplain:(backTo cpos (starEach [] X.env)).any (·.1)=false:=by rfl) :
 DS1 X fl (.Expr (.Call (.Attribute (.Name x vpos) "append" apos) [.Name y py] [] cpos) pos) (G6 i j) :=
 PS.imp (vg (S6 PySem.F.plainAttrs_list PySem.F.slot_list_append PySem.F.type_list_append uc (oh hN hv hd hcd) (iz (oh hj hvj hdj hcdj) lB hst) hbase hfew hline hst hplain) hs) fun Dn σ H h=>by
 obtain ⟨G,ow,δ,o,R,hf,q⟩:=h
 obtain ⟨d,e1,hf1⟩:=bind1 hf
 obtain ⟨x,e2,hf2⟩:=bind1 hf1
 clear hf hf1
 split at hf2
 case h_2=>cases hf2
 next l =>
 by_cases hl:l.length < 1000000
 case neg=>rw [if_neg hl] at hf2;cases hf2
 rw [if_pos hl] at hf2
 cases hf2
 obtain ⟨R',v,g1,g2⟩:=give R hfj e1
 obtain ⟨a,xs,ho,h1,h2,h3⟩:=Eu R' hfl e2
 exact ⟨_,h1,.inl ⟨rfl,_,SqL.of h2⟩,v,g1,a,xs,v,rfl,rfl,h2,by rw [h3.length];exact lM hl (by decide),q _ σ _ (R'.mut hfl ho (h3.append (.cons g2 .nil)))⟩
end XV
namespace XL
open PySem PySem.Spec PySem.W PyProof.Rows L2 My D3
abbrev Jo (x y:Str) (p1 p2 p3 p4 p5:Pos) (kd:Nat):Expr:=.Subscript (.Subscript (.Name x p1) (.Name y p2) p3) (.Constant (.int 0) kd p4) p5
section
variable {prog:Program} {w:World} {A:Around} {R:Result→Shared→Prop} {s:Shared} {f c' a b cell:Addr} {nm q x y:Str} {params:Arguments} {scope:Scope} {pm ctv:Value} {p1 p2 p3 p4 p5:Pos} {kd:Nat} {i k:Int} {j:Nat} {t t':Tok} {its its2:Array Value}
theorem M6 {x:Value} (hl:s.heap.IsList a its) (hlo : -(its.size:Int) ≤ i) (hhi:i < its.size) (hsz:its.size ≤ sizeLine) (hsx:seqIndex? i its.size=some j) (hi:its[j]? = some x) (h:Q x s) :
 wpAny (model prog w) A (getItem (.ref a) (.int i t)) Q E s:=by
 have hn:=tZ
 by_cases h0:0 ≤ i
 ·have hj:i.toNat=j:=by
   rw [seqIndex_of h0 hhi] at hsx
   exact b_.inj hsx
  exact wpAny_getItem_list hl h0 (by omega) (by rw [hj];exact hi) h
 ·have hj:(i + (its.size:Int)).toNat=j:=by
   rw [seqIndex_neg (by omega) hlo] at hsx
   exact b_.inj hsx
  exact wpAny_getItem_list_neg hl (by omega) hlo (by omega) (by rw [hj];exact hi) h
theorem Rf (ho:s.heap.get? f=some (kla_obj nm q params (Jo x y p1 p2 p3 p4 p5 kd) scope [(x,cell)] pm c' ctv)) (hcd:s.heap.CodeRec (.ref c') q) (hroom:A.depth < recursionLimit) (hlim:s.heap.NoLimit)
 (hbind:∀ u,bindArgs (kla_fn nm q params (Jo x y p1 p2 p3 p4 p5 kd) scope [(x,cell)] pm (.ref c') ctv) ⟨[u],[]⟩=pure [(y,u)])
 (hco:scope.isCoroutine=false) (hgen:scope.isGenerator=false) (hk:scope.kind = .function) (hcell:∀ z ∈ scope.names,z.2 ≠ .cell) (hy:scope.names.lookup y=some .local) (hx:scope.names.lookup x=some .free)
 (hxd:(x == ("__debug__" : Str))=false) (hyd:(y == ("__debug__" : Str))=false) (hxc:(x == ("__classdict__" : Str))=false)
 (hc:s.heap.IsCell cell (some (.ref a))) (hl:s.heap.IsList a its) (hlo : -(its.size:Int) ≤ i) (hhi:i < its.size) (hsz:its.size ≤ sizeLine) (hsx:seqIndex? i its.size=some j) (hi:its[j]? = some (.ref b)) (ht:IsTup s.heap b its2) (hk0:its2[0]? = some (.int k t'))
 (h:∀ h' tk,(∀ b o,s.heap.get? b=some o→h'.get? b=some o)→R (.ok (.ret (.int k t'))) { s with heap:=h',toks:=tk }) :
 codeAny (model prog w) A (.call (.ref f) ⟨[.int i t],[]⟩) R s:=by
 refine kla_callFunE hroom ho rfl hco hgen rfl hcd ?_
 rw [hbind]
 refine wpAny_pure (wpAny_newFunctionEnv hcell (fun z hz=>?_) (fun h₁ hns hsb=>⟨hlim.fresh _ hsb,?_⟩) hk)
 ·rw [aM.mp hz]
  exact hy
 have hk₁:∀ b o,s.heap.get? b=some o→h₁.get? b=some o:=fun b o e=>hsb.extBut b o (aR (Heap.lt_size e)) (Heap.get?_push_of_some _ e)
 refine kla_codeExpr ?_
 have hl':h₁.IsList a its:=by
  obtain ⟨o,e1,e2⟩:=hl
  exact ⟨o,hk₁ _ _ e1,e2⟩
 have ht':IsTup h₁ b its2:=by
  obtain ⟨o,e1,e2⟩:=ht
  exact ⟨o,hk₁ _ _ e1,e2⟩
 refine Subscript_ ?_
 refine Subscript_ ?_
 refine wpAny_Name ?_ hxd
 refine wpAny_loadName_free (c:=cell) (v:=.ref a) hk hx ?_ ?_ ?_ hxc
 ·show uL x [(x,cell)]=some cell
  simp
 ·obtain ⟨o,e1,e2⟩:=hc
  exact ⟨o,hk₁ _ _ e1,e2⟩
 refine wpAny_Name ?_ hyd
 refine wpAny_loadName_local (v:=.int i t) hk hy hns ?_ ?_
 ·simp
 refine subscriptTail_builtin (T := "list") (id := "list.__getitem__") ?_ PySem.F.slot_list_getitem.lookup ?_
 ·obtain ⟨o,e1,e2,_⟩:=hl'
  exact ⟨o,e1,e2⟩
 refine M6 hl' hlo hhi hsz hsx hi ?_
 refine wpAny_Constant_int ?_
 refine kba_turn (value':=PySem.Expr.Name (PySem.Str.ofString "_") ⟨0,0,0,0⟩) (fun _=>rfl) ?_
 refine subscriptTail_builtin (T := "tuple") (id := "tuple.__getitem__") ?_ PySem.F.slot_tuple_getitem.lookup ?_
 ·obtain ⟨o,e1,e2,_⟩:=ht'
  exact ⟨o,e1,e2⟩
 refine PyProof.Rows.getItem_tuple (j:=0) (x:=.int k t') ht' (by decide) (by decide) ?_ hk0 ?_
 ·have:0 < its2.size:=by
   rcases dw 0 its2.size with z | z
   ·exact z
   ·rw [eG z] at hk0;cases hk0
  unfold seqIndex?
  have h2:(0:Int) < (its2.size:Int):=by omega
  show (if (decide ((0:Int) ≤ 0) && decide ((0:Int) < (its2.size:Int)))=true then some (0:Int).toNat else none)=some 0
  rw [dTr (Int.le_refl 0),dTr h2]
  rfl
 ·exact h h₁ _ hk₁
end
section
variable {M:Model} {A:Around} {E:Value→Shared→Prop} {s:Shared} {params:Arguments} {body:Expr} {scope:Scope} {env:Env} {c P:Addr} {pos:Pos} {mg:Str→Option Value} {clos:List (Str × Addr)} {Q:Value→Shared→Prop} {q:Str}
abbrev ent (pos:Pos) (c':Addr):Array Value:=#[rawInt pos.line,rawInt pos.col,.ref c']
theorem M7 (hq:env.qual ++ "<lambda>" = q) (hdef:defaultsOf params env=([],[])) (hcl:closureFor scope env=pure clos) (hge0:env.globals=mainGlobals) (hg:s.heap.Ns mainGlobals mg) (hcode:env.code = .ref c) (C:CodeHd s.heap c P) (hgP:mainGlobals ≠ P) (hb:s.heap.BuiltinsAt mg P)
 (hT:∃ ps,s.heap.get? P=some (tabObj ps)∧(ps = #[]∨∃ c',ps=ent pos c'∧s.heap.CodeRec (.ref c') q))
 (h:∀ f c' ctv h' tk,(∀ b o,b ≠ P→s.heap.get? b=some o→h'.get? b=some o)→h'.get? P=some (tabObj (ent pos c'))→(s.heap.get? P=some (tabObj (ent pos c'))∨(s.heap.get? P=some (tabObj #[])∧s.heap.objs.size ≤ c'∧c' ≠ f))→s.heap.objs.size ≤ f →
  h'.get? f=some (kla_obj "<lambda>" q params body scope clos ((mg "__name__").getD .none) c' ctv)→h'.CodeRec (.ref c') q→Q (.ref f) { s with heap:=h',toks:=tk }) :
 wpAny M A (eval (.Lambda params body scope pos) env) Q E s:=by
 refine kla_eval hdef ?_
 rw [hq]
 obtain ⟨ps,hP,z | ⟨c',z,hr⟩⟩:=hT
 ·subst z
  refine kla_makeFunction (mg:=mg) hcl hge0 hg hcode C hP trivial rfl hgP hb fun c' ctv h' tk hx hge hlt hrec htb=>?_
  have up:∀ b o,h'.get? b=some o→(h'.push (kla_obj "<lambda>" q params body scope clos ((mg "__name__").getD .none) c' ctv)).get? b=some o:=fun b o e=>Heap.get?_push_of_some _ e
  obtain ⟨c2,oc,vs,tq,e1,e2,e3⟩:=hrec
  refine h h'.objs.size c' ctv _ tk (fun b o hb e=>up b o (hx b o hb e)) (up _ _ (by rw [htb];rfl)) (.inr ⟨hP,hge,aR hlt⟩) (aW hge (dj hlt)) (Heap.get?_push_size _ rfl) ⟨c2,oc,vs,tq,e1,up _ _ e2,e3⟩
 ·subst z
  have ha:codeAmong pos (ent pos c').toList=some (.ref c'):=by simp [codeAmong,rawInt]
  refine kla_makeFunctionHit (mg:=mg) hcl hge0 hg hcode C hP trivial ha hb fun ctv h' tk hk hsz=>?_
  have up:∀ b o,s.heap.get? b=some o→(h'.push (kla_obj "<lambda>" q params body scope clos ((mg "__name__").getD .none) c' ctv)).get? b=some o:=fun b o e=>Heap.get?_push_of_some _ (hk b o e)
  obtain ⟨c2,oc,vs,tq,e1,e2,e3⟩:=hr
  exact h h'.objs.size c' ctv _ tk (fun b o _ e=>up b o e) (up _ _ hP) (.inl hP) hsz (Heap.get?_push_size _ rfl) ⟨c2,oc,vs,tq,e1,up _ _ e2,e3⟩
end
end XL
namespace XL
open PySem PySem.Spec PySem.W PyProof.Rows L2 My D3 XS
section
variable {prog:Program} {w:World} {A:Around} {h₀:Heap} {L kS:Addr} {m:Str→Option Value} {f:Value} {nw:List (Addr × Obj)}
def Hq (prog:Program) (w:World) (A:Around) (nw:List (Addr × Obj)) (f v:Value) (k:Int):Prop :=
 ∃ t,∀ (s:Shared) (R:Result→Shared→Prop),(∀ p ∈ nw,s.heap.get? p.1=some p.2)→s.heap.NoLimit→(∀ h' tk,(∀ b o,s.heap.get? b=some o→h'.get? b=some o)→R (.ok (.ret (.int k t))) { s with heap:=h',toks:=tk }) →
  codeAny (model prog w) A (.call f ⟨[v],[]⟩) R s
theorem C_ {Fin:List Value→Nat→Shared→Prop} (hne:∀ y ∈ nw,y.1 ≠ kS) (hlim:∀ s:Shared,(∀ p ∈ nw,s.heap.get? p.1=some p.2)→s.heap.NoLimit):∀ (vs:List Value) (ns:List Int) (ks:List Value) (e:Nat) (s:Shared),Paired (fun v k=>Hq prog w A nw f v k) vs ns →
 Fr h₀ L s.heap m→News h₀ L s.heap ((kS,seqObj "list" (eZ ks) e) :: nw) →
 (∀ ks' e' s',Fr h₀ L s'.heap m→News h₀ L s'.heap ((kS,seqObj "list" (eZ (ks++ks')) e') :: nw)→s'.gens=s.gens→s'.drawn=s.drawn→s'.os=s.os→Paired (fun (v:Value) (k:Int)=>∃ t,v = .int k t) ks' ns→Fin (ks++ks') e' s') →
 KatKeys prog w A h₀ L m kS f Fin vs ks e s
 | [],_,ks,e,s,p,F,N,h=>by
  cases p
  have:=h [] e s F (by rw [cH];exact N) rfl rfl rfl .nil
  rw [cH] at this
  exact this
 | v :: vs,_,ks,e,s,p,F,N,h=>by
  cases p with
  | cons p1 p2 =>
  rename_i k ns
  obtain ⟨t,c⟩:=p1
  have hnw:∀ p ∈ nw,s.heap.get? p.1=some p.2:=fun p hp=>(N p (aJ _ hp)).1
  refine KatKeys.cons (wpAny_call (c s _ hnw (hlim s hnw) fun h' tk hk=>?_))
  have F':Fr h₀ L h' m:=⟨F.ns.keeps hk,fun b o z=>hk b o (F.keep b o z),F.above⟩
  have N':News h₀ L h' ((kS,seqObj "list" (eZ ks) e) :: nw):=fun p hp=>⟨hk _ _ (N p hp).1,(N p hp).2⟩
  refine KatBack.intro (s:={ s with heap:=h',toks:=tk }) F' N' (.head hne) fun h2 e2 F2 N2=>?_
  refine C_ hne hlim vs ns (ks++[.int k t]) e2 { s with heap:=h2,toks:=tk } p2 F2 N2 fun ks' e' s' F3 N3 g1 g2 g3 q=>?_
  have z:=h (.int k t :: ks') e' s' F3 (by rw [show ks++.int k t :: ks'=ks++[.int k t]++ks' by simp];exact N3) g1 g2 g3 (.cons ⟨t,rfl⟩ q)
  rw [show ks++.int k t :: ks'=ks++[.int k t]++ks' by simp] at z
  exact z
end
section
variable {prog:Program} {w:World} {A:Around} {E:Value→Shared→Prop} {s:Shared} {h₀:Heap} {L l fa:Addr} {m:Str→Option Value} {vs:List Value} {ns:List Int} {news:List (Addr × Obj)} {Q:Value→Shared→Prop}
def ltK (ns:List Int) (i j:Nat):Bool:=decide (ns.getD i 0 < ns.getD j 0)
theorem Fq (a b:Value):argsOk "sorted" ⟨[a],[(Str.ofString "key", b)]⟩:=by unfold argsOk;kernel_rfl
theorem Dc (a b:Value):argsOk "list.sort" ⟨[a],[(Str.ofString "key", b)]⟩:=by unfold argsOk;kernel_rfl
theorem ints_of:∀ {ks:List Value} {ns:List Int},Paired (fun (v:Value) (k:Int)=>∃ t,v = .int k t) ks ns→IntsAre ks ns
 | _,_,.nil=>.nil
 | _,_,.cons p q=>by
  obtain ⟨t,rfl⟩:=p
  exact .cons _ _ (ints_of q)
theorem Aj:∀ {ks:List Value} {ns:List Int},Paired (fun (v:Value) (k:Int)=>∃ t,v = .int k t) ks ns→∀ i,i < ks.length→∃ t,ks.getD i .none = .int (ns.getD i 0) t
 | _,_,.nil,i,h=>by cases h
 | _,_,.cons p q,0,h=>by obtain ⟨t,rfl⟩:=p;exact ⟨t,rfl⟩
 | _,_,.cons p q,i + 1,h=>by
  obtain ⟨t,e⟩:=Aj q i (by simpa using h)
  exact ⟨t,by simpa using e⟩
theorem yR {α β:Type} {R:α→β→Prop}:∀ {l:List α} {r:List β},Paired R l r→∀ {i:Nat} {a:α} {b:β},l[i]? = some a→r[i]? = some b→R a b
 | _,_,.nil,i,a,b,h,_=>by simp at h
 | _,_,.cons p q,0,a,b,h1,h2=>by
  simp at h1 h2
  subst h1 h2
  exact p
 | _,_,.cons p q,i + 1,a,b,h1,h2=>yR q (i:=i) (by simpa using h1) (by simpa using h2)
end
end XL
namespace XS
open PySem D3
def qW (l:List D) (ns:List Int):List D:=if l.length ≤ 1 then l else (qx l.length fun i j=>decide (ns.getD i 0 < ns.getD j 0)).map fun i=>l.getD i .none
def Ak (fa fe:FE) (ix:List Nat):FE:=fun δ=>(fa δ).bind fun x=>match x with
 | .list l=>if l.length < 64∧flats l=true then (iY (gNl 0) D3.j_ fe (iK 1 ix δ) l).bind fun ks=>(dg ks).map fun ns=>.list (qW l ns) else none
 | _=>none
def dK0:FE:=fun δ=>match δ with
 | [some (.d (.int z)),some (.d (.list ds))]=>(pAt ds z).bind fun t=>match t with
  | .tuple (.int n :: _)=>some (.int n)
  | _=>none
 | _=>none
def qSK (x:Option D) (k:List D→Option (List D)):Option D:=match x with
 | some (.list l)=>if l.length < 64∧flats l=true then (k l).bind fun ks=>(dg ks).map fun ns=>.list (qW l ns) else none
 | _=>none
theorem Rg {fa:FE}:Ak fa fe ix δ=qSK (fa δ) (iY (gNl 0) D3.j_ fe (iK 1 ix δ)):=by
 unfold Ak qSK
 cases fa δ with
 | none=>rfl
 | some d=>cases d <;> rfl
theorem Jp {ks:List D} {k:List D→Option (List D)} (h1:l.length < 64) (h2:flats l=true) (h3:k l=some ks) (h4:dg ks=some ns):qSK (some (.list l)) k=some (.list (qW l ns)):=by
 unfold qSK
 dsimp only
 rw [if_pos ⟨h1,h2⟩,h3,aN,h4]
 rfl
end XS
variable {c:Addr}
namespace XL
open PySem PySem.Spec PySem.W PyProof.Rows L2 My D3 XS
section
variable {X:Cx} {pins:List (Addr × Obj)} {σ:L2.St} {H:Hp} {s:Shared} {h':Heap} {P c':Addr} {q:Str} {lp:Pos} {tk:Nat}
theorem Rh (I:Inv X pins σ H s) (hT:H P=some (.tbl q lp)) (kp:∀ b o,b ≠ P→s.heap.get? b=some o→h'.get? b=some o) (hP:h'.get? P=some (tabObj (ent lp c')))
 (hor:s.heap.get? P=some (tabObj (ent lp c'))∨(s.heap.get? P=some (tabObj #[])∧s.heap.objs.size ≤ c')) (hrec:h'.CodeRec (.ref c') q) :
 ∃ H2,Inv X pins σ H2 { s with heap:=h',toks:=tk }∧Same H H2:=by
 rcases hor with z | ⟨z,hge⟩
 ·refine ⟨H,I.kept fun b o e=>?_,fun _ _ e=>e⟩
  by_cases hb:b=P
  ·subst hb
   rw [z] at e;cases e
   exact hP
  ·exact kp b o hb e
 ·have hn:H c'=none:=I.hok.fresh hge
  have ne:∀ {b u},H b=some u→b ≠ c':=fun e=>iy e hn
  have nP:∀ {b},H b=none→b ≠ P:=fun e y=>by rw [y,hT] at e;cases e
  refine ⟨upd H c' (.own P),?_,cN hn _⟩
  refine I.step (g':=s.gens) (d':=s.drawn) (ch:=[]) (fun b hb=>by cases hb) (fun b u _ _ _ e n=>kp b u (nP n) e) (fun b u _ _ _ e n=>⟨u.slots,kp b u (nP n) e⟩) (fun b u _ e n=>?_) (fun b u _ e=>?_)
   (fun b xs e=>by rw [bB (ne e)];exact e) (fun b u v e=>by rw [bB (ne e)];exact e) (fun b q p e=>by rw [bB (ne e)];exact e) (fun m ⟨o,es,ep,e,r⟩=>⟨o,es,ep,kp _ o (nP I.free) e,r⟩) (fun b u e=>?_) I.bare
  ·rw [bB (aR (bJ (Heap.lt_size e) hge))];exact n
  ·by_cases hb:b=P
   ·exact ⟨_,by rw [hb];exact hP⟩
   ·exact ⟨u,kp b u hb e⟩
  ·by_cases hb:b=c'
   ·subst hb
    rw [bM] at e
    cases e
    obtain ⟨c2,oc,vs,tq,e1,e2,_⟩:=hrec
    cases e1
    exact ⟨_,e2⟩
   ·rw [bB hb] at e
    by_cases hbP:b=P
    ·subst hbP
     rw [hT] at e;cases e
     exact ⟨_,hP,.inr ⟨c',rfl,bM,hrec⟩⟩
    ·refine (I.hok b u e).stay (fun c w hc y=>kp c w (fun y2=>?_) y) (fun c y=>by rw [bB (ne y)];exact y) fun c xs y=>by rw [bB (ne y)];exact y
     rcases hc with rfl | y3
     ·exact hbP y2
     ·rw [y2,hT] at y3;cases y3
end
theorem yS:∀ {ys:List V} {vs:List Value},Vals ys vs→∀ i,RelV (ys.getD i .non) (vs.getD i .none)
 | _,_,.nil,i=>by simp;rfl
 | _,_,.cons r rs,0=>r
 | _,_,.cons r rs,i + 1=>by simpa using yS rs i
theorem yU {δ0:DS}:∀ {l ks:List D} {ns:List Int},iY (gNl 0) D3.j_ fe δ0 l=some ks→dg ks=some ns→Paired (fun d n=>∃ δ1,gNl 0 d δ0=some δ1∧fe δ1=some (.int n)) l ns
 | [],ks,ns,h1,h2=>by
  cases h1
  cases h2
  exact .nil
 | d :: l,ks,ns,h1,h2=>by
  unfold iY at h1
  obtain ⟨δ1,e1,h1⟩:=bind1 h1
  obtain ⟨b,e2,h1⟩:=bind1 h1
  cases e2
  rw [if_pos rfl] at h1
  obtain ⟨x,e3,h1⟩:=bind1 h1
  obtain ⟨r,e4,h1⟩:=bind1 h1
  cases h1
  cases x with
  | int n =>
   have h2':(dg r).bind (fun m=>some (n :: m))=some ns:=by
    cases e5:dg r with
    | none=>unfold dg at h2;rw [e5] at h2;cases h2
    | some m=>unfold dg at h2;rw [e5] at h2;cases h2;rfl
   obtain ⟨m,e5,e6⟩:=bind1 h2'
   cases e6
   exact .cons ⟨δ1,e1,e3⟩ (yU e4 e5)
  | _=>unfold dg at h2;cases h2
theorem Hr {ok:Ok} {S:D→Int→Prop} {R:Value→Int→Prop} (f:∀ y d v n,RA K ok pl H y d→RelV y v→S d n→R v n):∀ {ys:List V} {l:List D} {vs:List Value} {ns:List Int},RAs K ok pl H ys l→Vals ys vs→Paired S l ns→Paired R vs ns
 | _,_,_,_,.nil,.nil,.nil=>.nil
 | _,_,_,_,.cons a b,.cons c d,.cons e g=>.cons (f _ _ _ _ a c e) (Hr f b d g)
structure LamAt (X:Cx) (P:Addr) (q:Str) (lp:Pos):Prop where
 cd:∃ c,X.env.code = .ref c∧codeHdIn X.K c P=true
 qn:X.env.qual ++ "<lambda>" = q
 tb:(P,q,lp) ∈ tabs
section
variable {X:Cx} {fl:List Fl} {e:Expr} {fa:FE} {p pos kpos lp p1 p2 p3 p4 p5:Pos} {x y q:Str} {P:Addr} {kd i k:Nat} {params:Arguments} {scope:Scope}
theorem Vq {δ0 δ1:DS} {n:Int} {u:Option U} (h0:δ0=[none,u]) (h1:gNl 0 d δ0=some δ1) (h2:dK0 δ1=some (.int n)):∃ z ds r,d = .int z∧u=some (.d (.list ds))∧pAt ds z=some (.tuple (.int n :: r)):=by
 subst h0
 cases h1
 unfold dK0 at h2
 split at h2
 ·next z ds e =>
  cases e
  obtain ⟨t,e1,e2⟩:=bind1 h2
  split at e2
  ·next m r=>cases e2;exact ⟨z,ds,r,rfl,rfl,e1⟩
  ·cases e2
 ·cases h2
end
theorem Ri {K:Frag} {P:Addr} {q:Str} {lp:Pos} (KX:K.In h) (hP:h.get? P=some (tabObj #[])) (hc:codeHdIn K c P=true) (hn:K.lookup P=none) :
 (∀ t ∈ [(P,q,lp)],h.get? t.1=some { cls:=.none,data:=.fields #[] })∧(∀ t ∈ [(P,q,lp)],isCodeTable h t.1)∧∀ t ∈ [(P,q,lp)],K.lookup t.1=none :=
 ⟨fun t ht=>by rw [aM.mp ht];exact hP,fun t ht=>by rw [aM.mp ht];exact ((codeHd_of_K KX hc).tab hP).isCodeTable,fun t ht=>by rw [aM.mp ht];exact hn⟩
theorem M8 {P:Addr} {q:Str} {lp:Pos}:∀ t ∈ [(P,q,lp)],∀ t' ∈ [(P,q,lp)],t.1=t'.1→t=t':=fun t ht t' ht' _=>(aM.mp ht).trans (aM.mp ht').symm
theorem M9 {scope:Scope} {y:Str} (hn:scope.names=[(y,.local),(x,.free)]) (h:env.cells.lookup x=some c):closureFor scope env=pure [(x,c)]:=by
 unfold closureFor
 rw [hn]
 simp [cellOf,h]
section
variable {P:Program} {w:World} {K:PySem.W.Frag} {mg:Str→Option Value} {base:Heap} {x:Str} {ps N:List Str} {st:Stmt} {k n:Nat} {fs:FS} {fl:List Fl} {Pt:Addr} {q:Str} {lp:Pos}
structure DgT (K:PySem.W.Frag) (mg:Str→Option Value) (x:Str) (st:Stmt) (ps:List Str) (Pt:Addr) (q:Str) (lp:Pos):Prop where
 ex:∃ (f:Addr) (fd:FuncData) (c:Addr),FunD K x st f fd∧Binds K fd ps []∧mg x=some (.ref f)∧fd.code = .ref c∧codeHdIn K c Pt=true
 tb:(Pt,q,lp) ∈ tabs
theorem Vr {kV:Value} (X:K.In h) (G:h.Ns mainGlobals mg)
 (hb:∀ (kV doc pm:Value) (an:Option Addr) (cdv ct:Value) (us:List Value),us.length=ps.length→bindArgs (PySem.W.fnOf x x (m5 st) (iB st) (bG st) .none kV doc pm an cdv ct) ⟨us,[]⟩=pure (ps.zip us))
 (a:PySem.W.nsIn K mainGlobals x=some (some (.ref f))) (l:K.lookup f=some ⟨oc,od,.func (PySem.W.fnOf x x (m5 st) (iB st) (bG st) .none kV dc pm an (.ref c) ct),sl⟩) (ci:PySem.W.codeIn K (.ref c) x=true) (k:PySem.W.keepIn K (.ref f)=true)
 (hd:codeHdIn K c Pt=true) (tb:(Pt,q,lp) ∈ tabs):DgT K mg x st ps Pt q lp :=
 ⟨⟨_,_,c,⟨⟨oc,od,.none,kV,dc,pm,an,.ref c,ct,sl,rfl,l,ci⟩,k⟩,.all (hb kV dc pm an (.ref c) ct),PySem.W.mg_of X G a,rfl,hd⟩,tb⟩
theorem okT (F:FunD K x st f fd) (hcd:fd.code = .ref c) (S:FnScope N ps (bG st)) (len:∀ vs H Q E,sp vs H Q E→vs.length=ps.length)
 (hbody:∀ (A:Around) (outer:List Env) (s:Shared) (H:Hp) (vs:List V) (Q:VK) (E:XK),Room k (A.deeper (envOfC x (bG st) s.heap.objs.size f (.ref c)))→sp vs H Q E →
  ∃ t,PSs (Bt CX0 P w K mg base N x (bG st) f (.ref c) A outer s H E).nox (iB st) t∧t { nx:=fun _ H'=>Q .non H',rt:=Q } (L2.start N vs) H):FnOk P w K mg base CX0 (k + 1) f fd ps sp:=by
 obtain ⟨oc,od,dV,kV,doc,pm,an,cdv,ct,osl,rfl,lk,hcd'⟩:=F.ex
 have e:cdv = .ref c:=hcd
 subst e
 refine S5 lk hcd' S len fun A outer s H vs Q E hr hsp=>?_
 obtain ⟨t,h,q⟩:=hbody A outer s H vs Q E hr hsp
 exact ⟨t,h.nox,q⟩
theorem Vs (Dd:DgT K mg x st ps Pt q lp) (S:FnScope N ps (bG st)) (hp:∀ i,i < ps.length→fl[i]? = some .A) (hN:ps.length ≤ N.length)
 (hbody:∀ (f c:Addr) (A:Around) (outer:List Env) (s:Shared) (H:Hp) (E:XK),codeHdIn K c Pt=true→Room k (A.deeper (envOfC x (bG st) s.heap.objs.size f (.ref c)))→DSs (cx P w K mg base N x st f (.ref c) A outer s H E) fl (iB st) fs) :
 Has P w K mg base (k + 1) x ps (spD K (fnD ps.length (N.length - ps.length) fs)):=by
 obtain ⟨f,fd,c,Fn,b,m,hcd,hhd⟩:=Dd.ex
 refine ⟨f,fd,?_,b,Fn.kp,m⟩
 refine okT Fn hcd S (fun vs H Q E h=>?_) (fun A outer s H vs Q E hr h=>?_)
 ·obtain ⟨ds,d,r,hf,_⟩:=h
  unfold fnD at hf
  by_cases z:ds.length=ps.length
  ·rw [r.2.length];exact z
  ·rw [if_neg z] at hf;cases hf
 ·obtain ⟨ds,d,r,hf,q⟩:=h
  refine ⟨_,hbody f c A outer s H E hhd hr,?_⟩
  unfold fnD at hf
  by_cases z:ds.length=ps.length
  ·rw [if_pos z] at hf
   split at hf
   ·next d' e =>
    cases hf
    exact ⟨_,_,_,_,kE ps.length hp z hN r,e,fun v H' s r=>q v H' s r⟩
   ·next δ' e =>
    cases hf
    exact ⟨_,_,_,_,kE ps.length hp z hN r,e,fun ow' σ' H' R'=>q .non H' R'.same0 .non⟩
   ·cases hf
  ·rw [if_neg z] at hf;cases hf
end
end XL
namespace XL
open PySem PySem.Spec PySem.W PyProof.Rows L2 My D3 XS
section
variable {prog:Program} {w:World} {A:Around} {E:Value→Shared→Prop} {s:Shared} {r fa L:Addr} {t u v:Tok} {n:Nat} {hi:Int} {h₀:Heap} {m:Str→Option Value} {ns:List Int} {news:List (Addr × Obj)} {Q:Value→Shared→Prop}
def yV (vs:List Value):Prop:=∀ (j:Nat) (x:Value),vs[j]? = some x→∃ t,x = .int (j:Int) t
theorem M_ {R:List Value→Shared→Prop} (hh:A.handled=none) (hr:IsRange s.heap r 0 hi 1 t u v) (sm:Builtin.Range.small 0 hi 1=true) (hn:Builtin.Range.rangeSize 0 hi 1=n) (h64:n < 64)
 (h:∀ h' tk vs,(∀ b o,s.heap.get? b=some o→h'.get? b=some o)→vs.length=n→yV vs→R vs { s with heap:=h',toks:=tk }):wpAny (model prog w) A (collect (.ref r)) R E s:=by
 unfold collect
 refine wpAny_bind (wpAny_runValue (codeAny_builtin F.entry_proto_collect ?_))
 rw [Around.under_plainId F.plain_proto_collect _]
 refine wpAny_bind (m:=newList []) (wpAny_newObj_type (wpAny_pure ⟨plainId_quiet F.plain_list_iadd _,codeAny_builtin F.entry_list_iadd ?_⟩))
 rw [Around.under_plainId F.plain_list_iadd _]
 refine wpAny_mono (wpAny_extend_range (A:=A) (s:={ s with heap:=s.heap.push (seqObj "list" #[] 0) }) (R:=fun q s'=>q = .ok (.ret (.ref s.heap.objs.size))∧∃ h' tk acc c,s' = { s with heap:=h',toks:=tk }∧(∀ b o,s.heap.get? b=some o→h'.get? b=some o)∧h'.get? s.heap.objs.size=some (seqObj "list" acc c)∧acc.toList.length=n∧yV acc.toList)
  hh (Heap.get?_push_of_some _ hr) sm hn (by omega) s.heap.objs.size (.ref s.heap.objs.size) 0 (Heap.get?_push_size _ rfl) fun h' tk acc c k1 k2 k3=>⟨rfl,h',tk,acc,c,rfl,fun b o e=>k1 b o (aR (Heap.lt_size e)) (Heap.get?_push_of_some _ e),k2,by rw [bI];exact k3.1,fun j x hx=>by
   obtain ⟨t,rfl⟩:=k3.2 j x (by rw [← eV];exact hx)
   exact ⟨t,by rw [lN,Int.mul_one]⟩⟩) (fun fin s' x=>?_) fun e s' x=>by cases x.1
 cases fin with
 | done f =>
  obtain ⟨e,h',tk,acc,c,rfl,k1,k2,k3,k4⟩:=x
  cases e
  exact wpAny_bind (m:=load s.heap.objs.size) (wpAny_load k2 (wpAny_pure (h h' tk _ k1 k3 k4)))
 | again c1 =>
  refine ⟨x.1,codeAny_mono x.2 fun q s2 y=>?_⟩
  obtain ⟨rfl,h',tk,acc,c,rfl,k1,k2,k3,k4⟩:=y
  exact wpAny_bind (m:=load s.heap.objs.size) (wpAny_load k2 (wpAny_pure (h h' tk _ k1 k3 k4)))
theorem Rj (hh:A.handled=none) (F:Fr h₀ L s.heap m) (N:News h₀ L s.heap news) (hr:IsRange s.heap r 0 hi 1 t u v) (sm:Builtin.Range.small 0 hi 1=true) (hn:Builtin.Range.rangeSize 0 hi 1=n) (h64:n < 64)
 (hc:∀ vs,vs.length=n→yV vs→Paired (fun v k=>Hq prog w A.in1.in1 news (.ref fa) v k) vs ns) (hlim:∀ s:Shared,(∀ p ∈ news,s.heap.get? p.1=some p.2)→s.heap.NoLimit)
 (h:∀ D h' e tk vs,vs.length=n→yV vs→Fr h₀ L h' m→News h₀ L h' ((D,seqObj "list" (eZ (if n ≤ 1 then vs else (qx n (ltK ns)).map fun i=>vs.getD i Value.none)) e) :: news)→(∀ q ∈ news,q.1 < D)→Q (.ref D) { s with heap:=h',toks:=tk }) :
 wpAny (model prog w) A (call (.builtin "sorted") [.ref r] [(Str.ofString "key", .ref fa)]) Q E s:=by
 refine call_function_entry_kw kind_sorted plain_sorted entry_sorted (Fq _ _) ?_
 unfold Builtin.«sorted»
 refine wpAny_bind (m:=checkCount "sorted" 1 1 _) (wpAny_pure ?_)
 refine wpAny_bind (M_ (A:=A.in1) hh hr sm hn h64 fun h1 tk vs k1 lv rv=>?_)
 refine wpAny_bind (wpAny_newList ?_ (by rw [lv,sizeLine_eq];omega))
 have hoL:(h1.push (seqObj "list" vs.toArray 0)).get? h1.objs.size=some (seqObj "list" vs.toArray 0):=Heap.get?_push_size _ rfl
 have kp:∀ b o,s.heap.get? b=some o→(h1.push (seqObj "list" vs.toArray 0)).get? b=some o:=fun b o e=>Heap.get?_push_of_some _ (k1 b o e)
 have lt0:∀ q ∈ news,q.1 < h1.objs.size:=fun q hq=>Heap.lt_size (k1 _ _ (N q hq).1)
 have hL:L < h1.objs.size:=(F.kept k1).ns.lt
 have hA:=F.above
 have F1:=F.kept kp
 have N1:=N.grown kp
 have hcv:=hc vs lv rv
 have d0:h₀.get? h1.objs.size=none:=Heap.get?_none_of_le (aW F.above (dj hL))
 show wpAny _ _ _ _ _ { s with heap:=h1.push (seqObj "list" vs.toArray 0),toks:=tk }
 refine wpAny_bind (wpAny_holding (wpAny_call_entry_kw slot_list_sort ⟨_,hoL,rfl⟩ entry_list_sort ?body (Dc _ _)))
 case body =>
  rw [ksk_t1]
  by_cases h2:n ≤ 1
  ·refine ksk_sort (kz:=ns) (b:=false) (s:={ s with heap:=h1.push (seqObj "list" vs.toArray 0),toks:=tk }) F1 N1 hoL (jL hL) d0 (fun p hp=>aR (lt0 p hp)) hcv.length.symm (by omega) (fun i v k hv hk hp tk own F' N'=>?_) fun h' tk out c F' N' ko=>⟨_,rfl,wpAny_pure ⟨_,rfl,?_⟩⟩
   ·obtain ⟨t,z⟩:=yR hcv hv hk
    have hnw:∀ p ∈ news,hp.get? p.1=some p.2:=fun p q=>(N' p (bW _ q)).1
    refine wpAny_call (z { s with heap:=hp,toks:=tk } _ hnw (hlim { s with heap:=hp,toks:=tk } hnw) fun h2 tk2 hk2=>?_)
    exact ⟨h2,tk2,t,rfl,rfl,⟨F'.ns.keeps hk2,fun b o z=>hk2 b o (F'.keep b o z),F'.above⟩,fun p q=>⟨hk2 _ _ (N' p q).1,(N' p q).2⟩⟩
   ·obtain ⟨ps,hp,ho,_⟩:=ko
    have e:out.toList=vs:=by
     cases hcv with
     | nil =>
      have hp:ps.Perm []:=hp
      rw [qH.mp hp] at ho
      exact ho
     | cons p q =>
      cases q with
      | nil =>
       have hp:ps.Perm [(_,_)]:=hp
       rw [List.perm_singleton.mp hp] at ho
       exact ho
      | cons _ _=>simp at lv;omega
    have e2:out=vs.toArray:=Array.toList_inj.mp (e.trans (by simp))
    rw [e2] at N'
    exact h _ h' c tk vs lv rv F' (by rw [if_pos h2];exact N') lt0
  ·refine kat_keyed (b:=false) (s:={ s with heap:=h1.push (seqObj "list" vs.toArray 0),toks:=tk }) F1 N1 hoL (jL hL) d0 (fun p hp=>aR (lt0 p hp)) (by omega) (by omega) fun kS e1 h' F' N' lt1 lt2=>?_
   have hne:∀ y ∈ (h1.objs.size,seqObj "list" #[] e1) :: news,y.1 ≠ kS:=fun y hy=>by
    rcases aY.mp hy with rfl | z
    ·exact aR lt1
    ·exact aR (lt2 y z)
   have hc':Paired (fun v k=>Hq prog w A.in1.in1 ((h1.objs.size,seqObj "list" #[] e1) :: news) (.ref fa) v k) vs ns:=Paired.mapP hcv fun v k ⟨t,z⟩=>⟨t,fun s R q1 q2 q3=>z s R (fun p hp=>q1 p (aJ _ hp)) q2 q3⟩
   refine C_ (kS:=kS) hne (fun s q=>hlim s fun p hp=>q p (aJ _ hp)) vs ns [] 0 _ hc' F' N' fun ks e s' F2 N2 g1 g2 g3 pk=>?_
   have lk:ks.length=vs.length:=pk.length.trans hcv.length.symm
   rw [dF] at N2 ⊢
   rw [ksk_kind (ints_of pk) (by rw [aU,lk];omega)]
   refine wpAny_pure ?_
   refine zV (n:=vs.length) (lt:=ltK ns) (R:=good vs.length) (fun i j C hi hj hC=>?_) _ (uq (by omega)) ?_
   ·obtain ⟨t1,q1⟩:=Aj pk i (by rw [lk];exact hi)
    obtain ⟨t2,q2⟩:=Aj pk j (by rw [lk];exact hj)
    unfold kas_ask
    show wpAny _ _ (keyLt' oneType' (ks.getD i Value.none) (ks.getD j Value.none)) _ _ _
    rw [q1,q2]
    exact kat_lt_int hC
   ·obtain ⟨hp,gn,dr,tk',os⟩:=s'
    simp only at g1 g2 g3 F2 N2
    subst g1 g2 g3
    refine KatFin.intro F2 N2 (.head hne) fun h3 c3 F3 N3=>?_
    refine KasFin.intro F3 N3 (.tail (jL lt1) (.head fun y hy=>aR (lt0 y hy))) fun h4 c4 F4 N4=>⟨_,rfl,wpAny_pure ⟨_,rfl,?_⟩⟩
    exact h _ h4 c4 tk' vs lv rv F4 (fun p hp=>by
     rw [if_neg h2,← lv] at hp
     exact N4 p (aJ _ hp)) lt0
end
section
variable {X:Cx} {fl:List Fl} {e:Expr} {fb:FA} {p pos kpos lp p1 p2 p3 p4 p5 pr posr:Pos} {x y q:Str} {P:Addr} {kd i k:Nat} {params:Arguments} {scope:Scope}
theorem Ft (hl:LamAt X P q lp) (hr:Room k X.A) (hcm:X.calm=true) (ha:DB X fl .P [e] fb) (hg:Gl X "sorted") (hm:X.mg "sorted" = none) (hg2:Gl X "range") (hm2:X.mg "range" = none)
 (hix:X.N[i]? = some x) (hfl:fl[i]? = some .A) (hcell:X.env.kindOf x=some .cell)
 (hdef:defaultsOf params X.env=([],[])) (hcl:∀ c,X.env.cells.lookup x=some c→closureFor scope X.env=pure [(x,c)])
 (hbind:∀ (cl:List (Str × Addr)) (pm:Value) (c':Addr) (ctv u:Value),bindArgs (kla_fn "<lambda>" q params (Jo x y p1 p2 p3 p4 p5 kd) scope cl pm (.ref c') ctv) ⟨[u],[]⟩=pure [(y,u)])
 (hco:scope.isCoroutine=false) (hgen:scope.isGenerator=false) (hk:scope.kind = .function) (hcells:∀ z ∈ scope.names,z.2 ≠ .cell) (hy:scope.names.lookup y=some .local) (hxf:scope.names.lookup x=some .free)
 (hxd:(x == ("__debug__" : Str))=false) (hyd:(y == ("__debug__" : Str))=false) (hxc:(x == ("__classdict__" : Str))=false)
 (he:backTo pos (starEach [Expr.Call (.Name "range" pr) [e] [] posr] X.env)=(false,eval (Expr.Call (.Name "range" pr) [e] [] posr) X.env) :: backTo pos (starEach [] X.env)) (hpl:(backTo pos (starEach [Expr.Call (.Name "range" pr) [e] [] posr] X.env)).any (·.1)=false)
 (hs:starEach [e] X.env=(false,eval e X.env) :: starEach [] X.env:=by exact lR rfl)
 : DE X fl .FC (.Call (.Name "sorted" p) [.Call (.Name "range" pr) [e] [] posr] [⟨some (Str.ofString "key"),.Lambda params (Jo x y p1 p2 p3 p4 p5 kd) scope lp,kpos⟩] pos) (Ak (dCall wj fb) dK0 [i]):=by
 have bs:bootBuiltins "sorted" = some (.builtin "sorted"):=by decide +kernel
 intro pins s σ H Q I hq
 obtain ⟨G,ow,δ,d,R,hf,q0⟩:=hq
 obtain ⟨xd,e1,hf1⟩:=bind1 hf
 obtain ⟨ds0,e0,e1b⟩:=bind1 e1
 unfold wj at e1b
 split at e1b
 case h_2=>cases e1b
 next hi =>
 by_cases z:(-(2 ^ 62) ≤ hi∧hi < 2 ^ 62)∧(hi - 0).toNat ≤ 1000000
 case neg=>rw [if_neg z] at e1b;cases e1b
 rw [if_pos z] at e1b
 cases e1b
 obtain ⟨⟨z3,z4⟩,z5⟩:=z
 have el:eX 0 hi=(jB 0 (hi - 0).toNat).map fun (j:Nat)=>PyData.int (0 + (j:Int)):=by
  unfold eX
  rw [List.range_eq_range']
 have ll:(eX 0 hi).length=(hi - 0).toNat:=by rw [el,aC,rA]
 have ra0:∀ Hx:Hp,RAs X.K ok1 true Hx ((jB 0 (hi - 0).toNat).map fun (j:Nat)=>V.int (0 + (j:Int))) (eX 0 hi):=fun Hx=>by rw [el];exact K5 0 _ 0
 generalize eX 0 hi=l at *
 dsimp only at hf1
 by_cases hc:l.length < 64∧flats l=true
 case neg=>rw [if_neg hc] at hf1;cases hf1
 rw [if_pos hc] at hf1
 obtain ⟨ks,e2,hf2⟩:=bind1 hf1
 cases e3:dg ks with
 | none=>rw [e3] at hf2;cases hf2
 | some ns =>
 rw [e3] at hf2
 cases hf2
 refine wpAny_Call_Name_kw (lA I hg hm bs ?_)
 refine PyProof.Rows.callWith_kw ?_ he hpl rfl rfl
 rw [he]
 refine Calls.spliced_cons ?_
 refine Call_ (lA I hg2 hm2 boot_range (PyProof.Rows.callWith_type1 (thn (ha posr pins s σ H (fun vs H1=>Same H H1∧RAs X.K ok1 true H1 vs [.int hi]) I ⟨G,ow,δ,_,R,e0,fun vs H' s' r'=>⟨s',r'⟩⟩) fun us s0 ⟨vs,H1,I0,r1,sm1,ra⟩=>?_) hs rfl))
 cases ra with
 | cons ra1 ra2 =>
 cases ra2
 obtain rfl:=ra1.intE
 cases r1 with
 | cons c1 c2 =>
 cases c2
 obtain ⟨t0,rfl⟩:=c1
 refine call_range_1 ?_
 refine Calls.spliced_nil ?_
 have hsz:Builtin.Range.rangeSize 0 hi 1=(((hi - 0).toNat:Nat):Int):=by rw [rangeSize_one];split <;> omega
 have smr:Builtin.Range.small 0 hi 1=true:=small_one (by decide) (by decide) z3 z4
 obtain ⟨ta,tb,tc,hrg⟩:∃ ta tb tc,IsRange (s0.heap.push { cls:=.type "range", data:=.fields #[.int 0 s0.toks,.int hi t0,.int 1 (s0.toks + 1)] }) s0.heap.objs.size 0 hi 1 ta tb tc:=⟨_,_,_,IsRange.new ..⟩
 generalize hra:s0.heap.objs.size=ra at *
 have I1:L2.Inv X pins σ H1 { s0 with heap:=s0.heap.push { cls:=.type "range", data:=.fields #[.int 0 s0.toks,.int hi t0,.int 1 (s0.toks + 1)] },toks:=s0.toks + 2 }:=I0.kept fun b o e=>Heap.get?_push_of_some _ e
 show wpAny _ _ _ _ _ { s0 with heap:=s0.heap.push { cls:=.type "range", data:=.fields #[.int 0 s0.toks,.int hi t0,.int 1 (s0.toks + 1)] },toks:=s0.toks + 2 }
 generalize es1:({ s0 with heap:=s0.heap.push { cls:=.type "range", data:=.fields #[.int 0 s0.toks,.int hi t0,.int 1 (s0.toks + 1)] },toks:=s0.toks + 2 }:Shared)=s1 at *
 have hrg:IsRange s1.heap ra 0 hi 1 ta tb tc:=by rw [← es1];exact hrg
 have R1:=R.grow sm1
 have hT:H1 P=some (.tbl q lp):=R1.tb _ hl.tb
 obtain ⟨c,hcx⟩:=I1.ok.has x (.inl hcell)
 obtain ⟨cc,hcode,hhd⟩:=hl.cd
 have KX:=I1.kIn
 have hgl:s1.heap.Ns mainGlobals X.mg:=I1.mod.glob.keeps I1.bk
 have hgP:mainGlobals ≠ P:=fun z=>by
  obtain ⟨o,_,_,g1,_⟩:=I1.mod.glob
  have:=(I1.bs _ _ g1).2
  rw [z,hT] at this;cases this
 have hbm:s1.heap.BuiltinsAt X.mg P:=by
  obtain ⟨bm,ob,g1,g2,g3,g4,g5,g6⟩:=I1.mod.bm
  refine ⟨bm,ob,g1,g2,fun z=>?_,fun z=>?_,I1.bk _ _ g3,g4,g5,g6⟩
  ·obtain ⟨o,_,_,k1,k2,_⟩:=I1.mod.glob
   rw [z,k1] at g3;cases g3
   rw [k2] at g6;cases g6
  ·have:=(I1.bs _ _ g3).2
   rw [z,hT] at this;cases this
 have hTT:∃ ps,s1.heap.get? P=some (tabObj ps)∧(ps = #[]∨∃ c',ps=ent lp c'∧s1.heap.CodeRec (.ref c') q):=by
  obtain ⟨ps,g1,g2⟩:=I1.hok P _ hT
  refine ⟨ps,g1,?_⟩
  rcases g2 with g | ⟨c',g,_,g3⟩
  ·exact .inl g
  ·exact .inr ⟨c',g,g3⟩
 show wpAny _ _ (evalAll [do let v ← eval (.Lambda params (Jo x y p1 p2 p3 p4 p5 kd) scope lp) X.env;standAt pos;pure v]) _ _ s1
 refine wpAny_evalAll_cons (wpAny_bind ?_)
 refine M7 (mg:=X.mg) hl.qn hdef (hcl c hcx) I1.ok.glob hgl hcode (codeHd_of_K KX hhd) hgP hbm hTT fun f c' ctv h' tk kp hP' hor hfs hfo hrec=>wpAny_bind (wpAny_standAt (wpAny_pure ?_))
 refine wpAny_evalAll_nil ?_
 show wpAny _ _ (PySem.call (.builtin "sorted") [.ref ra] [(Str.ofString "key", .ref f)]) _ _ _
 obtain ⟨H2,I2,sm2⟩:=Rh (tk:=tk) I1 hT kp hP' (hor.imp (fun z=>z) fun z=>⟨z.1,z.2.1⟩) hrec
 have R2:=R1.grow sm2
 have hrg2:IsRange h' ra 0 hi 1 ta tb tc:=by
  refine kp ra _ (fun y=>?_) hrg
  obtain ⟨ps,g1,_⟩:=hTT
  have hrg':=hrg
  rw [y] at hrg'
  have hrg':s1.heap.get? P=_:=hrg'
  rw [g1] at hrg'
  cases hrg'
 have rva:∀ vs:List Value,vs.length=(hi - 0).toNat→yV vs→Vals ((jB 0 (hi - 0).toNat).map fun (j:Nat)=>V.int (0 + (j:Int))) vs:=fun vs lv rv=>by
  have:=GJ (f:=fun j:Nat=>V.int (0 + (j:Int))) vs 0 fun j v hj=>by
   obtain ⟨tt,e⟩:=rv j v hj
   rw [fQ]
   exact ⟨tt,by rw [e,lN]⟩
  rw [lv] at this
  exact this
 obtain ⟨m,hmm,hlk⟩:=id I2.loc
 have notL:∀ {b:Addr} {o:Obj},h'.get? b=some o→(∀ es ep,o.data ≠ .dict es ep)→b ≠ X.env.locals:=fun {b o} g1 g2 z=>by
  obtain ⟨o2,es,ep,k1,k2,_⟩:=hmm
  rw [← z] at k1
  rw [show h'.get? b=some o2 from k1] at g1;cases g1
  exact g2 _ _ k2
 have mem:∀ {b:Addr} {o:Obj},h'.get? b=some o→b ≠ X.env.locals→(b,o) ∈ jP (Att.jt h') h' X.env.locals:=fun g1 g2=>uM g2 (Att.oA _ _) g1
 have hlim:∀ s':Shared,(∀ p ∈ jP (Att.jt h') h' X.env.locals,s'.heap.get? p.1=some p.2)→s'.heap.NoLimit:=fun s' hk'=>I2.ok.mod.nolimit.keeps fun b o g=>hk' (b,o) (mem (I2.bk b o g) (aR (bJ (Heap.lt_size (I2.ok.bs b o g).1) I2.ok.above)))
 have calls:∀ vs:List Value,vs.length=(hi - 0).toNat→yV vs→Paired (fun v n=>Hq X.prog X.w X.A.in1.in1 (jP (Att.jt h') h' X.env.locals) (.ref f) v n) vs ns:=fun vs lv rv=>by
  refine Hr (S:=fun d n=>∃ δ1,gNl 0 d (iK 1 [i] δ)=some δ1∧dK0 δ1=some (.int n)) (fun y0 d v n r1 r2 ⟨δ1,g1,g2⟩=>?_) (ra0 H2) (rva vs lv rv) (yU e2 e3)
  obtain ⟨z,ds,r,rfl,g4,g5⟩:=Vq (u:=(δ[i]?).getD none) rfl g1 g2
  obtain rfl:=r1.intE
  obtain ⟨t0,rfl⟩:=r2
  have g6:δ[i]? = some (some (.d (.list ds))):=by
   cases g7:δ[i]? with
   | none=>rw [g7] at g4;cases g4
   | some u=>rw [g7] at g4;exact congrArg some g4
  have own0:ow i=none:=by
   cases g7:ow i with
   | none=>rfl
   | some b =>
    obtain ⟨_,g8,_⟩:=R2.own i b g7
    rw [hfl] at g8
    rcases g8 with ⟨g8,_⟩ | ⟨g8,_⟩ <;> cases g8
  obtain ⟨v0,k1,k2⟩:=R2.dat i _ g6 (by rw [hfl];rfl) own0
  obtain ⟨b,xs,rfl,k3,k4⟩:=k2.lstE
  obtain ⟨v1,k5,k6⟩:=k4.at g5
  obtain ⟨b2,ws,rfl,k7,k8⟩:=k6.tupE
  cases k8 with
  | cons k9 k10 =>
  obtain rfl:=k9.intE
  obtain ⟨it2,rv2,pl2,hz2⟩:=I2.list k3
  obtain ⟨it3,rv3,pl3,_⟩:=I2.tuple k7
  obtain ⟨j,j1,j2,j3,j4,j5⟩:=vh k5
  obtain ⟨w1,j6,j7⟩:=rv2.get j2
  cases j7
  cases rv3 with
  | cons r3 rv3 =>
  obtain ⟨t3,rfl⟩:=r3
  have l2:=rv2.length
  obtain ⟨u,u1,u2⟩:=hlk i x _ hix k1 (.inr (.inl hcell))
  cases u1
  rcases u2 with ⟨u3,_⟩ | ⟨_,cl,u4,u5⟩
  ·have:some NameKind.cell=some NameKind.local:=hcell.symm.trans u3
   cases this
  have:cl=c:=by rw [hcx] at u4;exact (b_.inj u4).symm
  subst this
  refine ⟨t3,fun s' R' hk' hlim' hR=>?_⟩
  have kk:∀ {b:Addr} {o:Obj},h'.get? b=some o→(∀ es ep,o.data ≠ .dict es ep)→s'.heap.get? b=some o:=fun g1 g2=>hk' _ (mem g1 (notL g1 g2))
  have f1:s'.heap.get? f=some (kla_obj "<lambda>" q params (Jo x y p1 p2 p3 p4 p5 kd) scope [(x,cl)] ((X.mg "__name__").getD .none) c' ctv):=kk hfo (fun _ _ z=>by cases z)
  have f2:s'.heap.CodeRec (.ref c') q:=by
   obtain ⟨c2,oc,vs2,tq,w1,w2,w3,w4⟩:=hrec
   exact ⟨c2,oc,vs2,tq,w1,kk w2 (fun _ _ z=>by rw [w3] at z;cases z),w3,w4⟩
  have f3:s'.heap.IsCell cl (some (.ref b)):=by
   obtain ⟨o,w1,w2⟩:=u5
   exact ⟨o,kk w1 (fun _ _ z=>by rw [w2] at z;cases z),w2⟩
  have f4:s'.heap.IsList b it2.toArray:=by
   obtain ⟨o,w1,w2,w3,w4⟩:=pl2.isList
   exact ⟨o,kk w1 (fun _ _ z=>by rw [w4] at z;cases z),w2,w3,w4⟩
  have f5:∀ {it5:Array Value},IsTup h' b2 it5→IsTup s'.heap b2 it5:=fun ⟨o,w1,w2,w3,w4⟩=>⟨o,kk w1 (fun _ _ z=>by rw [w4] at z;cases z),w2,w3,w4⟩
  exact Rf (i:=z) (j:=j) (its:=it2.toArray) f1 f2 (by have:=hr.dp;show X.A.depth < _;omega) hlim' (fun u=>hbind _ _ _ _ u) hco hgen hk hcells hy hxf hxd hyd hxc f3 f4 (by rw [aU,← l2];exact j4) (by rw [aU,← l2];exact j5)
   (by rw [aU,← l2];exact hz2) (by rw [aU,← l2];exact j1) (by simpa using j6) (f5 pl3) (by simp) hR
 have fin:∀ (D:Addr) (h3:Heap) (ec tk3:Nat) (is:List V) (ds:List D3.D) (vo:List Value),Vals is vo→is.length ≤ sizeLine→(∀ (Hx:Hp),RAs X.K ok0 false Hx is ds) →
  qW l ns=ds→Fr (Att.jt h') X.env.locals h3 m→News (Att.jt h') X.env.locals h3 ((D,seqObj "list" (eZ vo) ec) :: jP (Att.jt h') h' X.env.locals)→(∀ z ∈ jP (Att.jt h') h' X.env.locals,z.1 < D) →
  EP X pins σ Q (.ref D) { s1 with heap:=h3,toks:=tk3 }:=fun D h3 ec tk3 is ds vo v1 v2 v3 v4 F3 N3 lt=>by
  have kept3:∀ b o,b ≠ X.env.locals→h'.get? b=some o→h3.get? b=some o:=fun b o hb g=>(N3 (b,o) (aJ _ (mem g hb))).1
  have hD:h'.get? D=none:=by
   cases g:h'.get? D with
   | none=>rfl
   | some o =>
    by_cases z:D=X.env.locals
    ·exact absurd z (N3 _ (aG ..)).2.1
    ·exact absurd (lt (D,o) (mem g z)) (dO _)
  have hn:H2 D=none:=by
   cases g:H2 D with
   | none=>rfl
   | some u =>
    obtain ⟨w,hw⟩:=yN (I2.hok D u g)
    rw [show h'.get? D=some w from hw] at hD;cases hD
  have new:fu X.prog X.w (upd H2 D (.lst is)) h3 D (.lst is):=⟨v2,vo,ec,v1,(N3 _ (aG ..)).1⟩
  have J:=GP (s:={ s1 with heap:=h',toks:=tk }) (h':=h3) I2 hmm F3.ns kept3 hD new
  refine ⟨.ref D,_,J.tok tk3,rfl,q0 _ _ ((sm1.trans sm2).trans (cN hn _)) (.inr ⟨D,is,ds,rfl,(by show PyData.list (qW l ns)=_;rw [v4]),(sm1.trans sm2).free hn,bM,?_⟩)⟩
  exact (v3 _).imp (fun _ z=>z.elim) (fun z=>z)
 refine Rj (I.ok.hd hcm) (Att.El hmm) vN hrg2 smr hsz (by omega) calls hlim fun D h3 ec tk3 vs lv rv F3 N3 lt=>?_
 by_cases h1:(hi - 0).toNat ≤ 1
 ·rw [if_pos h1] at N3
  exact fin D h3 ec tk3 _ l vs (rva vs lv rv) (by rw [aC,rA];exact aW h1 (by decide)) (fun Hx=>RAs.flat hc.2 (ra0 Hx)) (by unfold qW;rw [if_pos (by omega)]) F3 N3 lt
 ·rw [if_neg h1] at N3
  have eo:qW l ns=(qx (hi - 0).toNat (ltK ns)).map fun i=>l.getD i .none:=by unfold qW;rw [if_neg (by omega),ll];rfl
  have pm:=jw (n:=(hi - 0).toNat) (by omega) (ltK ns)
  refine fin D h3 ec tk3 ((qx (hi - 0).toNat (ltK ns)).map fun i=>((jB 0 (hi - 0).toNat).map fun (j:Nat)=>V.int (0 + (j:Int))).getD i .non) _ _ ?_ ?_ ?_ eo F3 N3 lt
  ·have rvs:=rva vs lv rv
   generalize qx (hi - 0).toNat (ltK ns)=is
   induction is with
   | nil=>exact .nil
   | cons i is ih=>exact .cons (yS rvs i) ih
  ·rw [aC,pm.length_eq,bH]
   exact aW (dj (ll ▸ hc.1)) (by decide)
  ·intro Hx
   have r:=ra0 Hx
   generalize qx (hi - 0).toNat (ltK ns)=is
   induction is with
   | nil=>exact .nil
   | cons i is ih=>exact .cons (RA.flat (Cm hc.2 i) (GQ r i)) ih
end
end XL
namespace D3
open PySem PySem.Spec PyProof.Rows L2 My
section
variable {X:Cx} {fl:List Fl} {e a b:Expr} {es:List Expr} {f fa fb:FE} {fr:FA} {k:Kd} {pos:Pos}
theorem vA (i:Nat) {x:Str} (hfl:fl[i]? = some .A:=by rfl) (hN:X.N[i]? = some x:=by rfl) (hv:Vis X.env.scope x:=by first | exact Or.inl rfl | exact Or.inr (Or.inl rfl) | exact Or.inr (Or.inr rfl)) (hd:(x == ("__debug__" : Str))=false:=by decide)
 (hcd:(x == ("__classdict__" : Str))=false:=by decide):DE X fl .A (.Name x pos) (aF i):=zF i hfl hN hv hd hcd
theorem vP (i:Nat) {x:Str} (hfl:fl[i]? = some .A:=by rfl) (hN:X.N[i]? = some x:=by rfl) (hv:Vis X.env.scope x:=by first | exact Or.inl rfl | exact Or.inr (Or.inl rfl) | exact Or.inr (Or.inr rfl)) (hd:(x == ("__debug__" : Str))=false:=by decide)
 (hcd:(x == ("__classdict__" : Str))=false:=by decide):DE X fl .P (.Name x pos) (aF i):=cI (zF i hfl hN hv hd hcd)
theorem vB (i:Nat) {x:Str} (hfl:fl[i]? = some .A:=by rfl) (hN:X.N[i]? = some x:=by rfl) (hv:Vis X.env.scope x:=by first | exact Or.inl rfl | exact Or.inr (Or.inl rfl) | exact Or.inr (Or.inr rfl)) (hd:(x == ("__debug__" : Str))=false:=by decide)
 (hcd:(x == ("__classdict__" : Str))=false:=by decide):DE X fl (.B []) (.Name x pos) (aF i):=m8 (zF i hfl hN hv hd hcd)
theorem iP {i j pos}:DE X fl .P (.Constant (.int i) j pos) (dC (.int i)):=bh zH
theorem iC {i j pos}:DE X fl .C (.Constant (.int i) j pos) (dC (.int i)):=mU zH
theorem dz:DB X fl k [] bC:=Uz
theorem dq (h:DE X fl k e f) (hr:DB X fl k es fr) (hk:isR k=true:=by rfl) (hs:starEach (e :: es) X.env=(false,eval e X.env) :: starEach es X.env:=by exact lR rfl):DB X fl k (e :: es) (aH f fr):=Qj hk h hr hs
theorem dx (ha:DE X fl (.B L) a fa) (hb:DE X fl .P b fb) (hs:zx b:=by exact fun _ _=>rfl):DE X fl .A (.Subscript a b pos) (dOp gIx fa fb):=Xo ha hb hs
theorem sA (hN:X.N.Nodup) (h:DE X fl .A e f) (hfl:fl[i]? = some .A:=by rfl) (hi:X.N[i]? = some x:=by rfl) (hv:X.env.scope.names.lookup x=some .local∨X.env.scope.names.lookup x=some .cell:=by first | exact Or.inl rfl | exact Or.inr rfl)
 (hs:swapsWith e (some (.Name x pos')) pos.line X.env=pure false:=by rfl) (hfn:X.fn x=true∨X.env.scope.names.lookup x=some .local:=by first | exact .inl rfl | exact .inr rfl) :
 DS1 X fl (.Assign [.Name x pos'] e pos) (cj i f):=Qh hfl hN hi hv h hs hfn
theorem gN' (hN:X.N.Nodup) (hfl:fl[i]? = some .A:=by rfl) (hi:X.N[i]? = some x:=by rfl) (hv:X.env.scope.names.lookup x=some .local∨X.env.scope.names.lookup x=some .cell:=by first | exact Or.inl rfl | exact Or.inr rfl)
 (hfn:X.fn x=true∨X.env.scope.names.lookup x=some .local:=by first | exact .inl rfl | exact .inr rfl):DG X fl [i] (.Name x pos) (gNl i):=Qi hfl hN hi hv hfn
end
theorem fsc {P:List Str} {sc:Scope} (a:sc.kind = .function:=by rfl) (b:sc.isCoroutine=false:=by rfl) (c:sc.isGenerator=false:=by rfl) (d:N.Nodup:=by decide +kernel) (e:N.take P.length=P:=by rfl) (f:∀ x ∈ P,sc.names.lookup x=some .local∨sc.names.lookup x=some .cell:=by decide +kernel) (g:∀ y ∈ sc.names,y.2 ≠ .free:=by decide +kernel):FnScope N P sc:=⟨a,b,c,d,e,f,g⟩
end D3
namespace D3
open PySem
def qS (o:Option Oc) (b:FS):Option Oc:=match o with
 | some (.nx δ)=>b δ
 | some o=>some o
 | none=>none
def qI (o:Option Bool) (a b:FS) (δ:DS):Option Oc:=match o with
 | some true=>a δ
 | some false=>b δ
 | none=>none
def qO (g:D→D→Option D) (a b:Option D):Option D:=match a,b with
 | some x,some y=>g x y
 | _,_=>none
def qU (g:D→Option D) (a:Option D):Option D:=match a with
 | some x=>g x
 | none=>none
def qC (a:Option D) (r:Option (List D)):Option (List D):=match a,r with
 | some x,some l=>some (x :: l)
 | _,_=>none
def qF (F:List D→Option D) (l:Option (List D)):Option D:=match l with
 | some l=>F l
 | none=>none
def qR (a:Option D):Option Oc:=match a with
 | some d=>some (.rt d)
 | none=>none
def Vt (i:Nat) (a:Option D) (δ:DS):Option Oc:=match a with
 | some d=>if i < δ.length then some (.nx (δ.set i (some (.d d)))) else none
 | none=>none
def Jq (a:Option D) (fb:FE) (δ:DS):Option D:=match a with
 | some (.bool true)=>fb δ
 | some (.bool false)=>some (.bool false)
 | _=>none
def qOr (a:Option D) (fb:FE) (δ:DS):Option D:=match a with
 | some (.bool true)=>some (.bool true)
 | some (.bool false)=>fb δ
 | _=>none
def qN (a:Option D):Option D:=match a with
 | some (.bool b)=>some (.bool (!b))
 | _=>none
def qB (a:Option D):Option Bool:=match a with
 | some (.bool b)=>some b
 | _=>none
def qTA (a:Option Bool) (b:FT) (δ:DS):Option Bool:=match a with
 | some true=>b δ
 | some false=>some false
 | none=>none
def qTO (a:Option Bool) (b:FT) (δ:DS):Option Bool:=match a with
 | some true=>some true
 | some false=>b δ
 | none=>none
def qTN (a:Option Bool):Option Bool:=match a with
 | some b=>some (!b)
 | none=>none
def qE (a:Option Bool) (fa fb:FE) (δ:DS):Option D:=match a with
 | some true=>fa δ
 | some false=>fb δ
 | none=>none
def qL (a:Option D):Option (List D):=match a with
 | some (.list l)=>some l
 | _=>none
def Vu (a:Option (List D)) (g:FG) (b:FS) (δ:DS):Option Oc:=match a with
 | some l=>gO g b l δ
 | none=>none
def qD (a:Option DS):Option Oc:=match a with
 | some δ=>some (.nx δ)
 | none=>none
def qG (a:Option D) (g:FG) (δ:DS):Option DS:=match a with
 | some d=>g d δ
 | none=>none
def qGs (a:Option DS) (r:List D→DS→Option DS) (l:List D):Option DS:=match a with
 | some δ=>r l δ
 | none=>none
def qT (a:Option (List D)):Option D:=match a with
 | some l=>if l.length ≤ sizeLine then some (.tuple l) else none
 | none=>none
def qK (a:Option (List D)):Option D:=match a with
 | some l=>if l.length ≤ sizeLine then some (.list l) else none
 | none=>none
def qFl (p:D→Bool) (a:Option D):Option D:=match a with
 | some d=>if p d=true then some d else none
 | none=>none
def qA (i:Nat) (x a:Option D) (δ:DS):Option Oc:=match x,a with
 | some (.list l),some d=>if l.length < 1000000 then some (.nx (δ.set i (some (.d (.list (l++[d])))))) else none
 | _,_=>none
def qP (i:Nat) (a x k:Option D) (δ:DS):Option Oc:=match a,x,k with
 | some d,some (.list l),some (.int j)=>(pIx l.length j).bind fun n=>some (.nx (δ.set i (some (.d (.list (l.set n d))))))
 | _,_,_=>none
def qCh (g':D→D→Option D) (z:Option D) (y:Option D) (fc:FE) (δ:DS):Option D:=match z with
 | some (.bool true)=>qO g' y (fc δ)
 | some (.bool false)=>some (.bool false)
 | _=>none
def qFn (o:Option Oc):Option D:=match o with
 | some (.rt d)=>some d
 | some (.nx _)=>some .none
 | _=>none
def qCo (a:Option (List D)) (g:FG) (c:FT) (e:FE) (t:Nat) (ix:List Nat) (δ:DS):Option D:=match a with
 | some l=>if l.length ≤ 100000 then (match iY g c e (iK t ix δ) l with | some r=>some (.list r) | none=>none) else none
 | none=>none
section
variable {a b:FS} {c c':FT} {fa fb fc:FE} {fr:FA} {δ:DS} {g:D→D→Option D} {h:D→Option D} {F:List D→Option D} {i:Nat} {G:FG} {d:D}
theorem X6:cA a b δ=qS (a δ) b:=by
 unfold cA qS
 cases a δ with
 | none=>rfl
 | some o=>cases o <;> rfl
theorem Nb:qS (some (.nx δ')) b=b δ':=rfl
theorem Nf:qS (some (.rt d)) b=some (.rt d):=rfl
theorem Ng:qS (some (.bk δ')) b=some (.bk δ'):=rfl
theorem Nh:qS (some (.ct δ')) b=some (.ct δ'):=rfl
theorem X7:fK δ=some (.nx δ):=rfl
theorem Zy:sBk δ=some (.bk δ):=rfl
theorem Zz:sCt δ=some (.ct δ):=rfl
theorem ZC:sIf c a b δ=qI (c δ) a b δ:=by
 unfold sIf qI
 cases c δ with
 | none=>rfl
 | some t=>cases t <;> rfl
theorem Vv:qI (some true) a b δ=a δ:=rfl
theorem Vw:qI (some false) a b δ=b δ:=rfl
theorem v_op:dOp g fa fb δ=qO g (fa δ) (fb δ):=by
 unfold dOp qO
 cases fa δ <;> cases fb δ <;> rfl
theorem Vx {x:D}:qO g (some x) (some y)=g x y:=rfl
theorem ZD:dUn h fa δ=qU h (fa δ):=by
 unfold dUn qU
 cases fa δ <;> rfl
theorem Vy {x:D}:qU h (some x)=h x:=rfl
theorem Vz:bC δ=some []:=rfl
theorem Rm:aH fa fr δ=qC (fa δ) (fr δ):=by
 unfold aH qC
 cases fa δ <;> cases fr δ <;> rfl
theorem Jr {x:D}:qC (some x) (some l)=some (x :: l):=rfl
theorem VB:dCall F fr δ=qF F (fr δ):=by
 unfold dCall qF
 cases fr δ <;> rfl
theorem Ni:qF F (some l)=F l:=rfl
theorem X8:dG fa δ=qR (fa δ):=by
 unfold dG qR
 cases fa δ <;> rfl
theorem Rn:qR (some d)=some (.rt d):=rfl
theorem VD:Xi δ=some (.rt .none):=rfl
theorem X_:cj i fa δ=Vt i (fa δ) δ:=by
 unfold cj Xh Vt
 cases fa δ with
 | none=>simp
 | some d=>rfl
theorem Ro:Vt i (some d) δ=if i < δ.length then some (.nx (δ.set i (some (.d d)))) else none:=rfl
theorem v_c:dC d δ=some d:=rfl
theorem v_and:rH fa fb δ=Jq (fa δ) fb δ:=by
 unfold rH Jq
 cases fa δ with
 | none=>rfl
 | some x =>
  cases x <;> try rfl
  next b=>cases b <;> rfl
theorem Rp:Jq (some (.bool true)) fb δ=fb δ:=rfl
theorem Rq:Jq (some (.bool false)) fb δ=some (.bool false):=rfl
theorem v_or:dOr fa fb δ=qOr (fa δ) fb δ:=by
 unfold dOr qOr
 cases fa δ with
 | none=>rfl
 | some x =>
  cases x <;> try rfl
  next b=>cases b <;> rfl
theorem VF:qOr (some (.bool true)) fb δ=some (.bool true):=rfl
theorem VG:qOr (some (.bool false)) fb δ=fb δ:=rfl
theorem v_not:Kp fa δ=qN (fa δ):=by
 unfold Kp qN
 cases fa δ with
 | none=>rfl
 | some x=>cases x <;> rfl
theorem Rr {b:Bool}:qN (some (.bool b))=some (.bool (!b)):=rfl
theorem ZF:bU fa δ=qB (fa δ):=by
 unfold bU qB
 cases fa δ with
 | none=>rfl
 | some x=>cases x <;> rfl
theorem VH {b:Bool}:qB (some (.bool b))=some b:=rfl
theorem VJ:D3.Ec c c' δ=qTA (c δ) c' δ:=by
 unfold D3.Ec qTA
 cases c δ with
 | none=>rfl
 | some t=>cases t <;> rfl
theorem Nj:qTA (some true) c δ=c δ:=rfl
theorem Nk:qTA (some false) c δ=some false:=rfl
theorem Yb:D3.tOr c c' δ=qTO (c δ) c' δ:=by
 unfold D3.tOr qTO
 cases c δ with
 | none=>rfl
 | some t=>cases t <;> rfl
theorem Rt:qTO (some true) c δ=some true:=rfl
theorem Ru:qTO (some false) c δ=c δ:=rfl
theorem VL:D3.jd c δ=qTN (c δ):=by
 unfold D3.jd qTN
 cases c δ <;> rfl
theorem Nm {b:Bool}:qTN (some b)=some (!b):=rfl
theorem v_ite:dIf c fa fb δ=qE (c δ) fa fb δ:=by
 unfold dIf qE
 cases c δ with
 | none=>rfl
 | some t=>cases t <;> rfl
theorem Rv:qE (some true) fa fb δ=fa δ:=rfl
theorem Rw:qE (some false) fa fb δ=fb δ:=rfl
theorem Yc:rJ fa δ=qL (fa δ):=by
 unfold rJ qL asList
 cases fa δ with
 | none=>rfl
 | some x=>cases x <;> rfl
theorem Rx:qL (some (.list l))=some l:=rfl
theorem Yd:mR fr G b δ=Vu (fr δ) G b δ:=by
 unfold mR Vu
 cases fr δ <;> rfl
theorem Ry:Vu (some l) G b δ=gO G b l δ:=rfl
theorem Js:gO G b [] δ=some (.nx δ):=rfl
theorem Ye:Kq fa G δ=qD (qG (fa δ) G δ):=by
 unfold Kq qG qD
 cases fa δ with
 | none=>rfl
 | some d =>
  dsimp only [aN]
  cases G d δ <;> rfl
theorem Rz:qG (some d) G δ=G d δ:=rfl
theorem RB:qD (some δ')=some (.nx δ'):=rfl
theorem ZG:gNl i d δ=if i < δ.length then some (δ.set i (some (.d d))) else none:=rfl
theorem ZJ {gs:List D→DS→Option DS}:gTn n gs (.tuple l) δ=if l.length=n then gs l δ else none:=rfl
theorem Yg:jE [] δ=some δ:=rfl
theorem Yh {gs:List D→DS→Option DS}:cP G gs (d :: l) δ=qGs (G d δ) gs l:=by
 show (G d δ).bind (fun δ'=>gs l δ')=qGs (G d δ) gs l
 cases G d δ <;> rfl
theorem RD {gs:List D→DS→Option DS}:qGs (some δ') gs l=gs l δ':=rfl
theorem Yi:dTup fr δ=qT (fr δ):=by
 unfold dTup qT
 cases fr δ <;> rfl
theorem RG:qT (some l)=if l.length ≤ sizeLine then some (.tuple l) else none:=rfl
theorem ZK:mO fr δ=qK (fr δ):=by
 unfold mO qK
 cases fr δ <;> rfl
theorem VN:qK (some l)=if l.length ≤ sizeLine then some (.list l) else none:=rfl
theorem VP:mQ fa δ=qFl flat (fa δ):=by
 unfold mQ qFl
 cases fa δ <;> rfl
theorem Yj:En fa δ=qFl fl1 (fa δ):=by
 unfold En qFl
 cases fa δ <;> rfl
theorem VR {p:D→Bool}:qFl p (some d)=if p d=true then some d else none:=rfl
theorem Yk:uZ i fa δ=qA i (aF i δ) (fa δ) δ:=by
 unfold uZ qA
 cases aF i δ with
 | none=>rfl
 | some x =>
  cases fa δ with
  | none=>cases x <;> rfl
  | some d=>cases x <;> rfl
theorem RJ:qA i (some (.list l)) (some d) δ=if l.length < 1000000 then some (.nx (δ.set i (some (.d (.list (l++[d])))))) else none:=rfl
theorem Yl:Kr i fk fa δ=qP i (fa δ) (aF i δ) (fk δ) δ:=by
 unfold Kr qP
 cases fa δ with
 | none=>rfl
 | some d =>
  cases aF i δ with
  | none=>rfl
  | some x =>
   cases fk δ with
   | none=>cases x <;> rfl
   | some k=>cases x <;> cases k <;> rfl
theorem RK {j:Int}:qP i (some d) (some (.list l)) (some (.int j)) δ=(pIx l.length j).bind fun n=>some (.nx (δ.set i (some (.d (.list (l.set n d)))))):=rfl
theorem RM:kh g g' fa fb fc δ=qCh g' (qO g (fa δ) (fb δ)) (fb δ) fc δ:=by
 unfold kh qCh qO
 cases fa δ with
 | none=>rfl
 | some x =>
  cases fb δ with
  | none=>rfl
  | some y =>
   dsimp only [aN]
   cases g x y with
   | none=>rfl
   | some z =>
    cases z <;> try rfl
    next b =>
    cases b with
    | false=>rfl
    | true=>dsimp only [aN];cases fc δ <;> rfl
theorem Jt {y:Option D}:qCh g' (some (.bool true)) y fc δ=qO g' y (fc δ):=rfl
theorem Ju {y:Option D}:qCh g' (some (.bool false)) y fc δ=some (.bool false):=rfl
theorem Ym {p q:Nat}:fnD p q b ds=if ds.length=p then qFn (b (ds.map (fun d=>some (.d d))++bA q none)) else none:=by
 unfold fnD qFn
 rfl
theorem RN:qFn (some (.rt d))=some d:=rfl
theorem RP:qFn (some (.nx δ'))=some .none:=rfl
theorem V0 {t:Nat}:ju fr G c fa t ix δ=qCo (fr δ) G c fa t ix δ:=by
 unfold ju qCo
 cases fr δ with
 | none=>rfl
 | some l =>
  dsimp only [aN]
  by_cases z:l.length ≤ 100000
  ·rw [if_pos z,if_pos z]
   cases iY G c fa (iK t ix δ) l <;> rfl
  ·rw [if_neg z,if_neg z]
theorem Nq {t:Nat}:qCo (some l) G c fa t ix δ=if l.length ≤ 100000 then (match iY G c fa (iK t ix δ) l with | some r=>some (.list r) | none=>none) else none:=rfl
theorem Yn:D3.j_ δ=some true:=rfl
theorem V1 {r:DS} {x:D}:aF 0 (some (.d x) :: r)=some x:=rfl
theorem V2 {r:DS} {y:Option U}:aF (i + 1) (y :: r)=aF i r:=rfl
end
section
variable {i j:Int} {l m:List D} {d:D}
theorem Yo:gw (.int i) (.int j)=some (.int (i + j)):=rfl
theorem Yp:xP (.int i) (.int j)=some (.int (i - j)):=rfl
theorem ZL:gLt (.int i) (.int j)=some (.bool (decide (i < j))):=rfl
theorem ZM:gLe (.int i) (.int j)=some (.bool (decide (i ≤ j))):=rfl
theorem ZP:gGt (.int i) (.int j)=some (.bool (decide (j < i))):=rfl
theorem ZQ:gGe (.int i) (.int j)=some (.bool (decide (j ≤ i))):=rfl
theorem Yq:gEq (.int i) (.int j)=some (.bool (decide (i=j))):=rfl
theorem Yr:gNe (.int i) (.int j)=some (.bool (!decide (i=j))):=rfl
theorem Ys:gH [.list l]=some (.int l.length):=rfl
theorem V3:gH [.tuple l]=some (.int l.length):=rfl
theorem qj:∀ ns:List Int,dg (ns.map .int)=some ns
 | []=>rfl
 | n :: r=>by rw [aV,dg,qj r];rfl
theorem Yt:Zm [.int i]=some (.int (if i < 0 then -i else i)):=rfl
theorem Yu:BP [.int i,.int j]=some (.int (if j > i then j else i)):=rfl
theorem Yv:vZ [.int i,.int j]=some (.int (if j < i then j else i)):=rfl
theorem Yw:Er (.int i)=some (.int (-i)):=rfl
theorem ZR:gIx (.list l) (.int i)=pAt l i:=rfl
theorem Yx:gIx (.tuple l) (.int i)=pAt l i:=rfl
theorem Yy:Zn (.list l) (.list m)=if l.length + m.length ≤ 1000000 then some (.list (l++m)) else none:=rfl
theorem V4:yD (.list l)=some (.list l):=rfl
theorem RQ:yD (.tuple l)=some (.list l):=rfl
theorem Yz:pAt (d :: l) 0=some d:=by
 unfold pAt pIx
 rw [if_pos (by decide),if_pos (by simp)]
 rfl
end
def V5 (i j:Nat) (a:Option (List D)) (δ:DS):Option Oc:=match a with
 | some l=>match l with
  | [x,y]=>if i < δ.length∧j < δ.length then some (.nx ((δ.set i (some (.d x))).set j (some (.d y)))) else none
  | _=>none
 | none=>none
def qY (a:Option (List D)):Option (List D):=match a with
 | some l=>match l with
  | [.int j]=>if vY j=true then some (eX 0 j) else none
  | _=>none
 | none=>none
def Tg (a:Option (List D)):Option (List D):=match a with
 | some l=>match l with
  | [.int i,.int j]=>if (vY i && vY j)=true then some (eX i j) else none
  | _=>none
 | none=>none
def qSl (x:Option D) (a b:Option (Option Int)):Option D:=match x,a,b with
 | some (.list l),some a,some b=>some (.list (cutD l a b))
 | _,_,_=>none
def qOP (x:Option D):Option (Option Int):=match x with
 | some (.int i)=>some (some i)
 | _=>none
def qEn (x:Option D):Option (List D):=match x with
 | some (.list l)=>some (jQ l)
 | _=>none
section
variable {a b:FS} {fa:FE} {fr:FA} {δ:DS} {i j:Nat} {g:FG}
theorem YB:Xk i j fr δ=V5 i j (fr δ) δ:=by
 unfold Xk V5
 cases fr δ with
 | none=>rfl
 | some l=>rfl
theorem RV {x:D}:V5 i j (some [x,y]) δ=if i < δ.length∧j < δ.length then some (.nx ((δ.set i (some (.d x))).set j (some (.d y)))) else none:=rfl
theorem V6:nQ fr δ=qY (fr δ):=by
 unfold nQ qY
 cases fr δ with
 | none=>rfl
 | some l=>rfl
theorem Dh {k:Int} (h : -(2 ^ 62) ≤ k) (h2:k < 2 ^ 62):qY (some [.int k])=some (eX 0 k):=by
 show (if vY k=true then some (eX 0 k) else none)=_
 rw [if_pos]
 unfold vY
 rw [dTr h,dTr h2]
 rfl
theorem V7:S7 fr δ=Tg (fr δ):=by
 unfold S7 Tg
 cases fr δ with
 | none=>rfl
 | some l=>rfl
theorem ZS {lo hi:FO}:dSl fa lo hi δ=qSl (fa δ) (lo δ) (hi δ):=by
 unfold dSl qSl
 cases fa δ with
 | none=>rfl
 | some x =>
  dsimp only [aN]
  cases lo δ with
  | none=>cases x <;> rfl
  | some p =>
   dsimp only [aN]
   cases hi δ with
   | none=>cases x <;> rfl
   | some r=>cases x <;> rfl
theorem V8 {p r:Option Int}:qSl (some (.list l)) (some p) (some r)=some (.list (cutD l p r)):=rfl
theorem ZV:Ku δ=some none:=rfl
theorem ZW:lH fa δ=qOP (fa δ):=by
 unfold lH qOP
 cases fa δ with
 | none=>rfl
 | some x=>cases x <;> rfl
theorem V9 {k:Int}:qOP (some (.int k))=some (some k):=rfl
theorem V_:BR fa δ=qEn (fa δ):=by
 unfold BR qEn
 cases fa δ with
 | none=>rfl
 | some x=>cases x <;> rfl
theorem Nr:qEn (some (.list l))=some (jQ l):=rfl
theorem lZ (Inv:Nat→DS→Prop):∀ (l:List D) (δ:DS),Inv 0 δ→(∀ i d δ,l[i]? = some d→Inv i δ→∃ δ1 δ',g d δ=some δ1∧(b δ1=some (.nx δ')∨b δ1=some (.ct δ'))∧Inv (i + 1) δ')→∃ δ',gO g b l δ=some (.nx δ')∧Inv l.length δ':=by
 have key:∀ (l:List D) (k:Nat) (δ:DS),Inv k δ→(∀ i d δ,l[i]? = some d→Inv (k + i) δ→∃ δ1 δ',g d δ=some δ1∧(b δ1=some (.nx δ')∨b δ1=some (.ct δ'))∧Inv (k + i + 1) δ')→∃ δ',gO g b l δ=some (.nx δ')∧Inv (k + l.length) δ':=by
  intro l
  induction l with
  | nil=>exact fun k δ h _=>⟨δ,rfl,h⟩
  | cons d r ih =>
   intro k δ h hs
   obtain ⟨δ1,δ',e1,e2,e3⟩:=hs 0 d δ rfl h
   obtain ⟨δ2,e4,e5⟩:=ih (k + 1) δ' e3 fun i d' δ'' hd hi=>by
    have:=hs (i + 1) d' δ'' (by simpa using hd) (by rw [show k + (i + 1)=k + 1 + i by omega];exact hi)
    rw [show k + (i + 1) + 1=k + 1 + i + 1 by omega] at this
    exact this
   refine ⟨δ2,?_,by rw [bf,show k + (r.length + 1)=k + 1 + r.length by omega];exact e5⟩
   rw [gO,e1,aN]
   rcases e2 with e2 | e2
   ·rw [e2];exact e4
   ·rw [e2];exact e4
 intro l δ h hs
 have:=key l 0 δ h fun i d δ hd hi=>by
  have:=hs i d δ hd (by rw [fQ] at hi;exact hi)
  rw [fQ]
  exact this
 rw [fQ] at this
 exact this
end
def qX (a:Option D) (δ:DS):Option Oc:=match a with
 | some _=>some (.nx δ)
 | none=>none
theorem Wa {fa:FE}:yx fa δ=qX (fa δ) δ:=by
 unfold yx qX
 cases fa δ <;> rfl
theorem Nt:qX (some d) δ=some (.nx δ):=rfl
theorem Nu {g g'':D→D→Option D} {fa fb fc fd:FE}:vm g g' g'' fa fb fc fd δ=Jq (qO g (fa δ) (fb δ)) (kh g' g'' fb fc fd) δ:=by
 unfold vm Jq kh qO
 cases fa δ with
 | none=>rfl
 | some x =>
  cases fb δ with
  | none=>rfl
  | some y =>
   dsimp only [aN]
   cases g x y with
   | none=>rfl
   | some z =>
    cases z <;> try rfl
    next b=>cases b <;> rfl
def qZ (a b:Option D):Option (List D):=match a,b with
 | some (.list l),some (.list m)=>some (jR l m)
 | _,_=>none
theorem YC {f g:FE}:Qc f g δ=qZ (f δ) (g δ):=by
 unfold Qc qZ
 cases f δ with
 | none=>rfl
 | some x =>
  cases g δ with
  | none=>cases x <;> rfl
  | some y=>cases x <;> cases y <;> rfl
theorem RW {m:List D}:qZ (some (.list l)) (some (.list m))=some (jR l m):=rfl
theorem ZX {fa:FE}:dN1 fa δ=qFl (fun d=>decide (nl d ≤ 1)) (fa δ):=by
 unfold dN1 qFl
 cases fa δ <;> rfl
theorem YD:flat .none=true:=rfl
theorem Z0 {b:Bool}:flat (.bool b)=true:=rfl
theorem f_int {i:Int}:flat (.int i)=true:=rfl
theorem YF:flat (.str x)=true:=rfl
theorem YG:flat (.list l)=false:=rfl
theorem f_tup:flat (.tuple l)=flats l:=rfl
theorem YH:flats []=true:=rfl
theorem Wb:flats (d :: l)=(flat d && flats l):=rfl
theorem Wc:fl1 .none=true:=rfl
theorem YJ {b:Bool}:fl1 (.bool b)=true:=rfl
theorem Wd {i:Int}:fl1 (.int i)=true:=rfl
theorem Wf:fl1 (.str x)=true:=rfl
theorem Wg:fl1 (.list l)=flats l:=rfl
theorem Wh:fl1 (.tuple l)=flats l:=rfl
theorem Z1 {c:String}:gIs c d=some (.bool (isT c (tyD d))):=rfl
theorem YK:Iz d=some (.bool (isNone d)):=rfl
theorem Wj:Ks d=some (.bool (!isNone d)):=rfl
theorem YL:isNone .none=true:=rfl
theorem Z2 {b:Bool}:isNone (.bool b)=false:=rfl
theorem YM {i:Int}:isNone (.int i)=false:=rfl
theorem YQ:isNone (.str x)=false:=rfl
theorem YS:isNone (.list l)=false:=rfl
theorem YT:isNone (.tuple l)=false:=rfl
theorem YW {l:List (D × D)}:isNone (.dict l)=false:=rfl
def EVL:=And.intro @YD <| And.intro @Z0 <| And.intro @f_int <| And.intro @YF <| And.intro @YG <| And.intro @f_tup <| And.intro @YH <| And.intro @Wb <| And.intro @Wc <| And.intro @YJ <| And.intro @Wd <| And.intro @Wf <| And.intro @Wg <| And.intro @Wh <| And.intro @Z1 <| And.intro @YK <| And.intro @Wj <| And.intro @YL <| And.intro @Z2 <| And.intro @YM <| And.intro @YQ <| And.intro @YS <| And.intro @YT <| And.intro @YW <| And.intro @bf.{0} <| And.intro @jx.{0} <| And.intro @aV.{0,0} <| And.intro @eF.{0,0} <| And.intro @cJ.{0} <| And.intro @List.replicate_zero.{0} <| And.intro @List.cons_append.{0} <| And.intro @dF.{0} <| And.intro @cH.{0} <| And.intro @List.set_cons_zero.{0} <| And.intro @List.set_cons_succ.{0} <| And.intro @fQ <| And.intro @if_true.{1} <| And.intro @decide_true <| And.intro @decide_false <| And.intro @Int.cast_ofNat_Int <| And.intro @iQ <| And.intro @pJ <| @Bool.and_self
def EV:=And.intro EVL <| And.intro @ZX <| And.intro @YC <| And.intro @RW <| And.intro @Wa <| And.intro @Nt <| And.intro @Nu <| And.intro @X6 (And.intro @Nb (And.intro @Nf (And.intro @Ng (And.intro @Nh (And.intro @X7 (And.intro @Zy (And.intro @Zz (And.intro @ZC (And.intro @Vv (And.intro @Vw (And.intro @v_op (And.intro @Vx (And.intro @ZD (And.intro @Vy (And.intro @Vz (And.intro @Rm (And.intro @Jr (And.intro @VB (And.intro @Ni (And.intro @X8 (And.intro @Rn (And.intro @VD (And.intro @X_ (And.intro @Ro (And.intro @v_c (And.intro @v_and (And.intro @Rp (And.intro @Rq (And.intro @v_or (And.intro @VF (And.intro @VG (And.intro @v_not (And.intro @Rr (And.intro @ZF (And.intro @VH (And.intro @VJ (And.intro @Nj (And.intro @Nk (And.intro @Yb (And.intro @Rt (And.intro @Ru (And.intro @VL (And.intro @Nm (And.intro @v_ite (And.intro @Rv (And.intro @Rw (And.intro @Yc (And.intro @Rx (And.intro @Yd (And.intro @Ry (And.intro @Js (And.intro @Ye (And.intro @Rz (And.intro @RB (And.intro @ZG (And.intro @ZJ (And.intro @Yg (And.intro @Yh (And.intro @RD (And.intro @Yi (And.intro @RG (And.intro @ZK (And.intro @VN (And.intro @VP (And.intro @Yj (And.intro @VR (And.intro @Yk (And.intro @RJ (And.intro @Yl (And.intro @RK (And.intro @RM (And.intro @Jt (And.intro @Ju (And.intro @Ym (And.intro @RN (And.intro @RP (And.intro @V0 (And.intro @Nq (And.intro @Yn (And.intro @V1 (And.intro @V2 (And.intro @Yo (And.intro @Yp (And.intro @ZL (And.intro @ZM (And.intro @ZP (And.intro @ZQ (And.intro @Yq (And.intro @Yr (And.intro @Ys (And.intro @V3 (And.intro @Yt (And.intro @Yu (And.intro @Yv (And.intro @Yw (And.intro @ZR (And.intro @Yx (And.intro @Yy (And.intro @V4 (And.intro @RQ (And.intro @Yz (And.intro @YB (And.intro @RV (And.intro @V6 (And.intro @V7 (And.intro @ZS (And.intro @V8 (And.intro @ZV (And.intro @ZW (And.intro @V9 (And.intro @V_ @Nr)))))))))))))))))))))))))))))))))))))))))))))))))))))))))))))))))))))))))))))))))))))))))))))))))))))))))))))))
end D3
namespace My
def m_ (ns:List Int) (i:Int):Int :=
 if i < (ns.length:Int) then ns.getD i.toNat 0 % 1000000007
 else if ns=[] then 7919 * i + 5000011
 else ns.getD (i * 7 % (ns.length:Int)).toNat 0 % 1000000007 + 7919 * i
def divs (n:Int):Nat→Int
 | 0=>n
 | k + 1=>divs n k / 1000003
def Hs (c i k m:Int):Int :=
 (((c + 65537 * i + 3) * (1299709 + 15485863 * k) % 2147483629 * ((c + 65537 * i + 3) * (1299709 + 15485863 * k) % 2147483629) % 1500450271 + 104729) *
  ((c + 65537 * i + 3) * (1299709 + 15485863 * k) % 2147483629 * ((c + 65537 * i + 3) * (1299709 + 15485863 * k) % 2147483629) % 1500450271 + 104729)) % 715827883 / 64 % m
def jr (ns:List Int) (i k m:Int):Int :=
 if i < (ns.length:Int)∧10 ^ 40 ≤ ns.getD i.toNat 0∧0 < divs (ns.getD i.toNat 0) k.toNat then divs (ns.getD i.toNat 0) k.toNat % 1000003 % m
 else Hs (m_ ns i) i k m
theorem jH (ns:List Int) (i k:Int) {m:Int} (h:0 < m):0 ≤ jr ns i k m∧jr ns i k m < m:=by
 unfold jr Hs
 split
 ·exact ⟨jy _ (by omega),iw _ h⟩
 ·exact ⟨jy _ (by omega),iw _ h⟩
theorem Jw {i k m:Int} (h1:i < (ns.length:Int)) (h2:10 ^ 40 ≤ ns.getD i.toNat 0) (h3:0 < divs (ns.getD i.toNat 0) k.toNat) :
 jr ns i k m=divs (ns.getD i.toNat 0) k.toNat % 1000003 % m:=by
 unfold jr
 rw [if_pos ⟨h1,h2,h3⟩]
theorem rP {i k m:Int} (h:¬ (i < (ns.length:Int)∧10 ^ 40 ≤ ns.getD i.toNat 0∧0 < divs (ns.getD i.toNat 0) k.toNat)) :
 jr ns i k m=Hs (m_ ns i) i k m:=by
 unfold jr
 rw [if_neg h]
end My
namespace Com
open PySem D3
noncomputable def dX:List D→Option D:=fnD 1 0 (dG (rH (dUn (gIs "int") (aF 0)) (Kp (dUn (gIs "bool") (aF 0)))))
noncomputable def gZ:List D→Option D:=fnD 2 0 (cA (sIf (bU (dOp gLt (aF 1) (dCall gH (aH (aF 0) (bC))))) (dG (dOp oJ (dOp gIx (aF 0) (aF 1)) (dC (.int 1000000007)))) (fK))
 (cA (sIf (bU (dOp gEq (aF 0) (mO (bC)))) (dG (dOp gw (dOp oH (dC (.int 7919)) (aF 1)) (dC (.int 5000011)))) (fK))
 (dG (dOp gw (dOp oJ (dOp gIx (aF 0) (dOp oJ (dOp oH (aF 1) (dC (.int 7))) (dCall gH (aH (aF 0) (bC))))) (dC (.int 1000000007))) (dOp oH (dC (.int 7919)) (aF 1))))))
noncomputable def bT:List D→Option D:=fnD 4 2 (cA (sIf (D3.Ec (bU (dOp gLt (aF 1) (dCall gH (aH (aF 0) (bC))))) (bU (dOp gGe (dOp gIx (aF 0) (aF 1)) (dOp Uv (dC (.int 10)) (dC (.int 40)))))) (cA (cj 4 (dOp gIx (aF 0) (aF 1)))
 (cA (mR (nQ (aH (aF 2) (bC))) (gNl 5) (cj 4 (dOp uY (aF 4) (dC (.int 1000003)))))
 (sIf (bU (dOp gGt (aF 4) (dC (.int 0)))) (dG (dOp oJ (dOp oJ (aF 4) (dC (.int 1000003))) (aF 3))) (fK)))) (fK))
 (cA (cj 4 (dOp oJ (dOp oH (dOp gw (dOp gw (dCall gZ (aH (aF 0) (aH (aF 1) (bC)))) (dOp oH (dC (.int 65537)) (aF 1))) (dC (.int 3))) (dOp gw (dC (.int 1299709)) (dOp oH (dC (.int 15485863)) (aF 2)))) (dC (.int 2147483629))))
 (cA (cj 4 (dOp gw (dOp oJ (dOp oH (aF 4) (aF 4)) (dC (.int 1500450271))) (dC (.int 104729))))
 (dG (dOp oJ (dOp uY (dOp oJ (dOp oH (aF 4) (aF 4)) (dC (.int 715827883))) (dC (.int 64))) (aF 3))))))
noncomputable def iD:List D→Option D:=fnD 1 0 (dG (rH (dUn (gIs "int") (aF 0)) (Kp (dUn (gIs "bool") (aF 0)))))
noncomputable def jU:List D→Option D:=fnD 2 2 (cA (cj 2 (dCall BP (aH (dOp gIx (aF 0) (dC (.int 0))) (aH (dOp gIx (aF 1) (dC (.int 0))) (bC)))))
 (cA (cj 3 (dCall vZ (aH (dOp gIx (aF 0) (dC (.int 1))) (aH (dOp gIx (aF 1) (dC (.int 1))) (bC)))))
 (cA (sIf (bU (dOp gGe (aF 2) (aF 3))) (dG (dC (.none))) (fK))
 (dG (dTup (aH (mQ (aF 2)) (aH (mQ (aF 3)) (bC))))))))
noncomputable def mq:List D→Option D:=fnD 2 0 (dG (dUn Ks (dCall jU (aH (aF 0) (aH (aF 1) (bC))))))
noncomputable def jg:List D→Option D:=fnD 2 4 (cA (cj 2 (dCall bT (aH (aF 0) (aH (dC (.int 1)) (aH (dC (.int 0)) (aH (dC (.int 380)) (bC)))))))
 (cA (cj 3 (mO (bC)))
 (cA (mR (nQ (aH (aF 1) (bC))) (gNl 4) (cA (cj 5 (dCall bT (aH (aF 0) (aH (dC (.int 2)) (aH (aF 4) (aH (dC (.int 9)) (bC)))))))
 (uZ 3 (dOp gIx (mO (aH (dC (.int 0)) (aH (dOp xP (dOp gw (aF 2) (aF 5)) (dC (.int 5))) (bC)))) (dCall Ep (aH (dOp gGt (aF 5) (dC (.int 4))) (bC)))))))
 (dG (En (aF 3))))))
noncomputable def eO:List D→Option D:=fnD 1 0 (dG (dTup (aH (mQ (dOp gIx (aF 0) (dC (.int 0)))) (aH (mQ (dOp gIx (aF 0) (dC (.int 1)))) (bC)))))
noncomputable def eH:List D→Option D:=fnD 3 0 (dG (rH (dCall dX (aH (aF 0) (bC))) (kh gLe gLe (aF 1) (aF 0) (aF 2))))
noncomputable def eN:List D→Option D:=fnD 3 0 (cA (sIf (bU (aF 2)) (dG (mQ (dOp gIx (aF 1) (dC (.int 1))))) (fK))
 (dG (mQ (dIf (bU (dOp gLe (aF 0) (dOp gIx (aF 1) (dC (.int 0))))) (dC (.int 0)) (aF 0)))))
noncomputable def dU:List D→Option D:=fnD 4 0 (cA (sIf (D3.tOr (bU (dOp gLe (dOp gIx (aF 0) (dC (.int 1))) (dOp gIx (aF 2) (dC (.int 0))))) (bU (dOp gLe (dOp gIx (aF 2) (dC (.int 1))) (dOp gIx (aF 0) (dC (.int 0)))))) (dG (dC (.bool true))) (fK))
 (dG (dOr (dOp gLe (dOp gw (aF 1) (dOp gIx (aF 0) (dC (.int 2)))) (aF 3)) (dOp gLe (dOp gw (aF 3) (dOp gIx (aF 2) (dC (.int 2)))) (aF 1)))))
noncomputable def fX:List D→Option D:=fnD 3 6 (cA (sIf (D3.tOr (D3.jd (bU (dUn (gIs "list") (aF 2)))) (bU (dOp gNe (dCall gH (aH (aF 2) (bC))) (dCall gH (aH (aF 1) (bC)))))) (dG (dC (.bool false))) (fK))
 (cA (mR (nQ (aH (dCall gH (aH (aF 1) (bC))) (bC))) (gNl 3) (cA (cj 4 (dOp gIx (aF 2) (aF 3)))
 (cA (Kq (dOp gIx (aF 1) (aF 3)) (gTn 3 (cP (gNl 5) (cP (gNl 6) (cP (gNl 7) (jE))))))
 (cA (sIf (D3.tOr (D3.jd (bU (dCall iD (aH (aF 4) (bC))))) (D3.jd (bU (kh gLe gLe (dC (.int 0)) (aF 4) (dOp xP (dCall gH (aH (aF 0) (bC))) (aF 7)))))) (dG (dC (.bool false))) (fK))
 (sIf (bU (dOp gGt (dCall yC (aH (dSl (aF 0) (lH (aF 4)) (lH (dOp gw (aF 4) (aF 7)))) (bC))) (aF 5))) (dG (dC (.bool false))) (fK))))))
 (cA (mR (nQ (aH (dCall gH (aH (aF 1) (bC))) (bC))) (gNl 3) (mR (nQ (aH (aF 3) (bC))) (gNl 8) (sIf (D3.jd (bU (dCall dU (aH (dOp gIx (aF 1) (aF 8)) (aH (dOp gIx (aF 2) (aF 8)) (aH (dOp gIx (aF 1) (aF 3)) (aH (dOp gIx (aF 2) (aF 3)) (bC)))))))) (dG (dC (.bool false))) (fK))))
 (dG (dC (.bool true))))))
noncomputable def g_:List D→Option D:=fnD 3 0 (cA (sIf (D3.jd (bU (kh gLe gLe (dC (.int 0)) (aF 2) (dOp xP (dCall gH (aH (aF 0) (bC))) (dOp gIx (aF 1) (dC (.int 2))))))) (dG (dC (.bool false))) (fK))
 (dG (dOp gLe (dCall yC (aH (dSl (aF 0) (lH (aF 2)) (lH (dOp gw (aF 2) (dOp gIx (aF 1) (dC (.int 2)))))) (bC))) (dOp gIx (aF 1) (dC (.int 0))))))
noncomputable def cG:List D→Option D:=fnD 4 0 (dG (dOp gLt (dCall BP (aH (aF 1) (aH (aF 3) (bC)))) (dCall vZ (aH (dOp gw (aF 1) (dOp gIx (aF 0) (dC (.int 2)))) (aH (dOp gw (aF 3) (dOp gIx (aF 2) (dC (.int 2)))) (bC))))))
noncomputable def h_:List D→Option D:=fnD 3 1 (cA (mR (nQ (aH (aF 2) (bC))) (gNl 3) (sIf (bU (dCall mq (aH (dCall eO (aH (dOp gIx (aF 0) (aF 2)) (bC))) (aH (dCall eO (aH (dOp gIx (aF 0) (aF 3)) (bC))) (bC))))) (sIf (bU (dCall cG (aH (dOp gIx (aF 0) (aF 2)) (aH (dOp gIx (aF 1) (aF 2)) (aH (dOp gIx (aF 0) (aF 3)) (aH (dOp gIx (aF 1) (aF 3)) (bC))))))) (dG (dC (.bool false))) (fK)) (fK)))
 (dG (dC (.bool true))))
noncomputable def gJ:List D→Option D:=fnD 3 5 (cA (cj 3 (dCall bT (aH (aF 0) (aH (dC (.int 1)) (aH (dC (.int 0)) (aH (dC (.int 380)) (bC)))))))
 (cA (cj 4 (mO (bC)))
 (cA (mR (nQ (aH (aF 2) (bC))) (gNl 5) (cA (cj 6 (dOp gw (aF 3) (dCall bT (aH (aF 0) (aH (dOp gw (dC (.int 3)) (aF 5)) (aH (dC (.int 0)) (aH (dC (.int 7)) (bC))))))))
 (cA (cj 7 (dOp gw (dC (.int 1)) (dCall bT (aH (aF 0) (aH (dOp gw (dC (.int 3)) (aF 5)) (aH (dC (.int 2)) (aH (aF 1) (bC))))))))
 (cA (sIf (bU (dOp gEq (dCall bT (aH (aF 0) (aH (dOp gw (dC (.int 3)) (aF 5)) (aH (dC (.int 3)) (aH (dC (.int 16)) (bC)))))) (dC (.int 0)))) (cj 7 (dCall vZ (aH (dC (.int 6)) (aH (dOp gw (aF 1) (dC (.int 1))) (bC))))) (fK))
 (uZ 4 (dTup (aH (aF 6) (aH (dOp gw (dOp gw (aF 6) (dC (.int 1))) (dCall bT (aH (aF 0) (aH (dOp gw (dC (.int 3)) (aF 5)) (aH (dC (.int 1)) (aH (dC (.int 6)) (bC))))))) (aH (aF 7) (bC))))))))))
 (dG (En (aF 4))))))
end Com
namespace Com
open PySem D3 My
theorem tL {i:Int} (h0:0 ≤ i) (h1:i < ns.length):pAt (ns.map PyData.int) i=some (.int (ns.getD i.toNat 0)):=by
 unfold pAt pIx
 rw [aC,if_pos h0,if_pos h1,aN,aO]
 have h:i.toNat < ns.length:=by omega
 rw [aD h]
 simp [List.getD,h]
theorem Al {k:Nat}:pAt l (k:Int)=l[k]?:=by
 unfold pAt pIx
 rw [if_pos (by omega)]
 by_cases h:k < l.length
 ·rw [if_pos (by omega),aN]
  simp
 ·rw [if_neg (by omega),aP (by omega)]
  rfl
theorem at0 {a:D}:pAt (a :: l) 0=some a:=Al (k:=0)
theorem at1 {a b:D}:pAt (a :: b :: l) 1=some b:=Al (k:=1)
theorem xW {i j:Int} (h:0 < j):oJ (.int i) (.int j)=some (.int (i % j)):=by
 show (if decide (j ≠ 0)=true then some (PyData.int (i.fmod j)) else none)=_
 rw [if_pos (dTr (by omega)),Int.fmod_eq_emod_of_nonneg i (by omega)]
theorem Nv {j:Int} (h:j.natAbs < 2 ^ 64):j.natAbs < 2 ^ 9000:=bJ h (pK (by decide) (by decide))
theorem Z4 {i j:Int} (h:0 < j) (h2:j.natAbs < 2 ^ 9000):uY (.int i) (.int j)=some (.int (i / j)):=by
 show (if Eo i j=true then some (PyData.int (i.fdiv j)) else none)=_
 have e:Eo i j=true:=by
  unfold Eo
  rw [bw]
  exact ⟨dTr (by omega),dTr h2⟩
 rw [if_pos e,Int.fdiv_eq_ediv_of_nonneg i (by omega)]
theorem Wk {i j:Int} (h:0 < j) (h2:j < 18446744073709551616):uY (.int i) (.int j)=some (.int (i / j)):=Z4 h (Nv (by omega))
theorem mulL {i j:Int} (h1 : -18446744073709551616 < i) (h2:i < 18446744073709551616):oH (.int i) (.int j)=some (.int (i * j)):=by
 show (if vX i j=true then some (PyData.int (i * j)) else none)=_
 have e:vX i j=true:=by
  unfold vX
  rw [dTr (show i.natAbs < 2 ^ 64 by omega)]
  rfl
 rw [if_pos e]
theorem mulR {i j:Int} (h1 : -18446744073709551616 < j) (h2:j < 18446744073709551616):oH (.int i) (.int j)=some (.int (i * j)):=by
 show (if vX i j=true then some (PyData.int (i * j)) else none)=_
 have e:vX i j=true:=by
  unfold vX
  rw [dTr (show j.natAbs < 2 ^ 64 by omega),Bool.or_true]
  rfl
 rw [if_pos e]
theorem Ti:Uv (.int 10) (.int 40)=some (.int (10 ^ 40)):=rfl
theorem sz (h:n ≤ 1000000):n ≤ sizeLine:=aW h (by decide)
theorem shaped_ints (ns:List Int):SeqAt.shaped (.list (ns.map PyData.int))=true:=by
 have h1:∀ ns:List Int,PyData.canLayAll0 (ns.map PyData.int)=true:=fun ns=>by
  induction ns with
  | nil=>rfl
  | cons a r ih=>simp [PyData.canLayAll0,PyData.canLay0,ih]
 have h2:∀ ns:List Int,PyData.depthAll (ns.map PyData.int) ≤ 1:=fun ns=>by
  induction ns with
  | nil=>simp [PyData.depthAll]
  | cons a r ih=>simp [PyData.depthAll,PyData.depth];omega
 unfold SeqAt.shaped
 rw [bw]
 refine ⟨by simp [PyData.canLay0,h1],dTr ?_⟩
 have:=h2 ns
 simp only [PyData.depth]
 omega
theorem eq_empty (ns:List Int):gEq (.list (ns.map PyData.int)) (.list [])=some (.bool (decide (ns=[]))):=by
 unfold gEq
 rw [shaped_ints ns]
 cases ns with
 | nil=>rfl
 | cons a r=>rfl
theorem Jx {i:Int} (h0:0 ≤ i):gZ [.list (ns.map .int),.int i]=some (.int (m_ ns i)):=by
 unfold gZ m_
 by_cases h:i < (ns.length:Int)
 ·rw [if_pos h]
  simp only [EV,reduceIte,ao,aq,aj,ak,au,aA,aB,lMp,dTr h,tL h0 h,xW (show (0:Int) < 1000000007 by decide)]
 ·rw [if_neg h]
  by_cases hn:ns=[]
  ·rw [if_pos hn]
   simp only [EV,reduceIte,ao,aq,aj,ak,au,aA,aB,lMp,dFa h,eq_empty,dTr hn,cZ,mulL (show (-18446744073709551616:Int) < 7919 by decide) (show (7919:Int) < 18446744073709551616 by decide)]
  ·rw [if_neg hn]
   have hl:0 < ns.length:=by
    cases ns with
    | nil=>exact absurd rfl hn
    | cons _ _=>simp
   have h7:0 ≤ i * 7 % (ns.length:Int):=jy _ (by omega)
   have h8:i * 7 % (ns.length:Int) < (ns.length:Int):=iw _ (by omega)
   simp only [EV,reduceIte,ao,aq,aj,ak,au,aA,aB,lMp,dFa h,eq_empty,dFa hn,cZ,mulL (show (-18446744073709551616:Int) < 7919 by decide) (show (7919:Int) < 18446744073709551616 by decide),mulR (show (-18446744073709551616:Int) < 7 by decide) (show (7:Int) < 18446744073709551616 by decide),xW (show (0:Int) < 1000000007 by decide),xW (show (0:Int) < ns.length by omega),tL h7 h8]
theorem yW {l:D} {i k m:D} (n:Int):∀ (js:List D) (c:Nat) (y:Option U),(∀ j ∈ js,∃ x,j = .int x)→∃ y',gO (gNl 5) (cj 4 (dOp uY (aF 4) (dC (.int 1000003)))) js [some (.d l),some (.d i),some (.d k),some (.d m),some (.d (.int (divs n c))),y] =
 some (.nx [some (.d l),some (.d i),some (.d k),some (.d m),some (.d (.int (divs n (c + js.length)))),y'])
 | [],c,y,_=>⟨y,rfl⟩
 | j :: js,c,y,h=>by
  obtain ⟨y',e⟩:=yW (l:=l) (i:=i) (k:=k) (m:=m) n js (c + 1) (some (.d j)) fun j' hj=>h j' (aJ _ hj)
  refine ⟨y',?_⟩
  rw [gO]
  simp only [EV,reduceIte,ao,aq,aj,ak,au,aA,aB,Wk (show (0:Int) < 1000003 by decide) (show (1000003:Int) < 18446744073709551616 by decide),aN]
  rw [show c + (js.length + 1)=c + 1 + js.length by omega,← e]
  rfl
theorem Jy (lo hi:Int):∀ j ∈ eX lo hi,∃ x,j = .int x:=by
 intro j hj
 unfold eX at hj
 obtain ⟨k,_,rfl⟩:=bY.mp hj
 exact ⟨_,rfl⟩
theorem nY {i k m:Int} (h0:0 ≤ i) (hk0:0 ≤ k) (hk:k ≤ 1000) (hm:0 < m):bT [.list (ns.map .int),.int i,.int k,.int m]=some (.int (jr ns i k m)):=by
 have rest:∀ x y:Option U,qFn ((cA (cj 4 (dOp oJ (dOp oH (dOp gw (dOp gw (dCall gZ (aH (aF 0) (aH (aF 1) (bC)))) (dOp oH (dC (.int 65537)) (aF 1))) (dC (.int 3))) (dOp gw (dC (.int 1299709)) (dOp oH (dC (.int 15485863)) (aF 2)))) (dC (.int 2147483629))))
  (cA (cj 4 (dOp gw (dOp oJ (dOp oH (aF 4) (aF 4)) (dC (.int 1500450271))) (dC (.int 104729))))
  (dG (dOp oJ (dOp uY (dOp oJ (dOp oH (aF 4) (aF 4)) (dC (.int 715827883))) (dC (.int 64))) (aF 3))))) [some (.d (.list (ns.map .int))),some (.d (.int i)),some (.d (.int k)),some (.d (.int m)),x,y])=some (.int (Hs (m_ ns i) i k m)):=by
  intro x y
  have b1:0 ≤ (m_ ns i + 65537 * i + 3) * (1299709 + 15485863 * k) % 2147483629:=jy _ (by decide)
  have b2:(m_ ns i + 65537 * i + 3) * (1299709 + 15485863 * k) % 2147483629 < 2147483629:=iw _ (by decide)
  have b3:0 ≤ (m_ ns i + 65537 * i + 3) * (1299709 + 15485863 * k) % 2147483629 * ((m_ ns i + 65537 * i + 3) * (1299709 + 15485863 * k) % 2147483629) % 1500450271:=jy _ (by decide)
  have b4:(m_ ns i + 65537 * i + 3) * (1299709 + 15485863 * k) % 2147483629 * ((m_ ns i + 65537 * i + 3) * (1299709 + 15485863 * k) % 2147483629) % 1500450271 < 1500450271:=iw _ (by decide)
  simp only [EV,reduceIte,ao,aq,aj,ak,au,aA,aB,Jx h0,mulL (show (-18446744073709551616:Int) < 65537 by decide) (show (65537:Int) < 18446744073709551616 by decide),mulL (show (-18446744073709551616:Int) < 15485863 by decide) (show (15485863:Int) < 18446744073709551616 by decide),
   mulR (i:=m_ ns i + 65537 * i + 3) (show (-18446744073709551616:Int) < 1299709 + 15485863 * k by omega) (show 1299709 + 15485863 * k < (18446744073709551616:Int) by omega),xW (show (0:Int) < 2147483629 by decide)]
  simp only [mulL (show (-18446744073709551616:Int) < (m_ ns i + 65537 * i + 3) * (1299709 + 15485863 * k) % 2147483629 by omega) (show (m_ ns i + 65537 * i + 3) * (1299709 + 15485863 * k) % 2147483629 < (18446744073709551616:Int) by omega)]
  simp only [EV,reduceIte,ao,aq,aj,ak,au,aA,aB,xW (show (0:Int) < 1500450271 by decide)]
  rw [mulL (by omega) (by omega)]
  simp only [EV,reduceIte,ao,aq,aj,ak,au,aA,aB,xW (show (0:Int) < 715827883 by decide),Wk (show (0:Int) < 64 by decide) (show (64:Int) < 18446744073709551616 by decide),xW hm]
  rfl
 unfold bT
 rw [Ym]
 simp only [EV,reduceIte,ao,aq,aj,ak,au,aA,aB]
 by_cases h:i < (ns.length:Int)
 ·by_cases h2:10 ^ 40 ≤ ns.getD i.toNat 0
  ·simp only [EV,reduceIte,ao,aq,aj,ak,au,aA,aB,lMp,dTr h,tL h0 h,Ti,dTr h2]
   obtain ⟨y',e⟩:=yW (l:=.list (ns.map .int)) (i:=.int i) (k:=.int k) (m:=.int m) (ns.getD i.toNat 0) (eX 0 k) 0 none (Jy 0 k)
   have el:0 + (eX 0 k).length=k.toNat:=by simp [eX]
   rw [el] at e
   have e':gO (gNl 5) (cj 4 (dOp uY (aF 4) (dC (.int 1000003)))) (eX 0 k) [some (.d (.list (ns.map .int))),some (.d (.int i)),some (.d (.int k)),some (.d (.int m)),some (.d (.int (ns.getD i.toNat 0))),none] =
    some (.nx [some (.d (.list (ns.map .int))),some (.d (.int i)),some (.d (.int k)),some (.d (.int m)),some (.d (.int (divs (ns.getD i.toNat 0) k.toNat))),y']):=e
   rw [Dh (by omega) (by omega)]
   simp only [EV,reduceIte,ao,aq,aj,ak,au,aA,aB,e']
   by_cases h3:0 < divs (ns.getD i.toNat 0) k.toNat
   ·simp only [EV,reduceIte,ao,aq,aj,ak,au,aA,aB,dTr h3,xW (show (0:Int) < 1000003 by decide),xW hm]
    rw [Jw h h2 h3]
   ·simp only [EV,reduceIte,ao,aq,aj,ak,au,aA,aB,dFa h3]
    rw [rP (fun z=>h3 z.2.2)]
    have:=rest (some (.d (.int (divs (ns.getD i.toNat 0) k.toNat)))) y'
    simp only [EV,reduceIte,ao,aq,aj,ak,au,aA,aB] at this
    exact this
  ·simp only [EV,reduceIte,ao,aq,aj,ak,au,aA,aB,lMp,dTr h,tL h0 h,Ti,dFa h2]
   rw [rP (fun z=>h2 z.2.1)]
   have:=rest none none
   simp only [EV,reduceIte,ao,aq,aj,ak,au,aA,aB] at this
   exact this
 ·simp only [EV,reduceIte,ao,aq,aj,ak,au,aA,aB,lMp,dFa h]
  rw [rP (fun z=>h z.1)]
  have:=rest none none
  simp only [EV,reduceIte,ao,aq,aj,ak,au,aA,aB] at this
  exact this
end Com
namespace Com
open PySem D3 My
theorem Wl {α:Type} {g:FG} {c:FT} {e:FE} (f:α→D) (p:α→Bool) (h:α→D):∀ l:List α,(∀ s ∈ l,∃ δ1,g (f s) δ=some δ1∧c δ1=some (p s)∧(p s=true→e δ1=some (h s)))→iY g c e δ (l.map f)=some ((l.filter p).map h)
 | [],_=>rfl
 | s :: r,hs=>by
  obtain ⟨δ1,e1,e2,e3⟩:=hs s aG
  have ih:=Wl f p h r fun x hx=>hs x (aJ _ hx)
  rw [aV,iY,e1,aN,e2,aN]
  by_cases c:p s=true
  ·rw [if_pos c,e3 c,aN,ih,nH,if_pos c]
   rfl
  ·rw [if_neg c,ih,nH,if_neg c]
theorem u_ {α:Type} {g:FG} {c:FT} {e:FE} (f:α→D) (h:α→D):∀ l:List α,(∀ s ∈ l,∃ δ1,g (f s) δ=some δ1∧c δ1=some true∧e δ1=some (h s))→iY g c e δ (l.map f)=some (l.map h)
 | [],_=>rfl
 | s :: r,hs=>by
  obtain ⟨δ1,e1,e2,e3⟩:=hs s aG
  rw [aV,iY,e1,aN,e2,aN,if_pos rfl,e3,aN,u_ f h r fun x hx=>hs x (aJ _ hx)]
  rfl
theorem uD {α:Type} (f:α→D) (h:∀ a,flat (f a)=true):∀ l:List α,flats (l.map f)=true
 | []=>rfl
 | a :: r=>by rw [aV,flats,h,uD f h r];rfl
theorem oX (l:List Int):flats (l.map PyData.int)=true:=uD _ (fun _=>rfl) l
theorem Am {m:Int}:(eX 0 m).length=m.toNat:=by unfold eX;rw [aC,bH,rZ]
theorem isList:D3.isT "list" "list" = true:=rfl
mutual
theorem eqv_refl:∀ d:D,d.canLay0=true→PyData.eqv d d=true
 | .none,_=>by simp [PyData.eqv]
 | .bool b,_=>by simp [PyData.eqv]
 | .int i,_=>by simp [PyData.eqv]
 | .str x,_=>by simp [PyData.eqv]
 | .list l,h=>by
  have:=eqvAll_refl l (by simpa [PyData.canLay0] using h)
  simpa [PyData.eqv] using this
 | .tuple l,h=>by
  have:=eqvAll_refl l (by simpa [PyData.canLay0] using h)
  simpa [PyData.eqv] using this
 | .dict l,h=>by simp [PyData.canLay0] at h
theorem eqvAll_refl:∀ l:List D,PyData.canLayAll0 l=true→PyData.eqvAll l l=true
 | [],_=>by simp [PyData.eqvAll]
 | d :: r,h=>by
  rw [PyData.canLayAll0,bw] at h
  rw [PyData.eqvAll,eqv_refl d h.1,eqvAll_refl r h.2]
  rfl
end
def ly (n:Nat) (d:D):Prop:=d.canLay0=true∧d.depth ≤ n
def lys (n:Nat) (l:List D):Prop:=PyData.canLayAll0 l=true∧PyData.depthAll l ≤ n
theorem Ht {m:Nat} (h:ly n d) (l:n ≤ m):ly m d:=⟨h.1,aW h.2 l⟩
theorem RX:lys n []:=⟨by simp [PyData.canLayAll0],by simp [PyData.depthAll]⟩
theorem Nx (h:ly n d) (q:lys n l):lys n (d :: l) :=
 ⟨by rw [PyData.canLayAll0,h.1,q.1];rfl,by have:=h.2;have:=q.2;simp only [PyData.depthAll];omega⟩
theorem tM {α:Type} (f:α→D) (h:∀ a,ly n (f a)):∀ l:List α,lys n (l.map f)
 | []=>RX
 | a :: r=>Nx (h a) (tM f h r)
theorem Ao (h:lys n l):ly (n + 1) (.list l):=⟨by simp [PyData.canLay0,h.1],by have:=h.2;simp only [PyData.depth];omega⟩
theorem Wm (h:lys n l):ly (n + 1) (.tuple l):=⟨by simp [PyData.canLay0,h.1],by have:=h.2;simp only [PyData.depth];omega⟩
theorem Ny {i:Int}:ly (n + 1) (.int i):=⟨rfl,by simp [PyData.depth]⟩
theorem ql (h:ly 60 d):SeqAt.shaped d=true:=by
 unfold SeqAt.shaped
 rw [bw]
 exact ⟨h.1,dTr (by have:=h.2;omega)⟩
theorem eq_self (h:ly 60 d):gEq d d=some (.bool true):=by
 unfold gEq
 rw [ql h,eqv_refl d h.1]
 rfl
end Com
namespace Com
open PySem D3 My
def q (t b:Int):Rat:=mkRat t b.toNat
end Com
namespace Com
open PySem D3 My
def sm (k:Nat) (x:Int):Prop:=x.natAbs < 2 ^ k
end Com
namespace Com
open PySem D3 My
theorem Hu {k:Nat} (h:k < n):pIx n (k:Int)=some k:=by
 unfold pIx
 rw [if_pos (by omega),if_pos (by omega)]
 rfl
structure Tb where
 N:Nat
 w:Nat→Int
 B:Int
def sumTo (f:Nat→Int):Nat→Int
 | 0=>0
 | n + 1=>sumTo f n + f n
structure TbOk (t:Tb) (k:Nat):Prop where
 B0:0 < t.B
 Bs:sm (7 * k + 1) t.B
 w0:∀ j,0 ≤ t.w j
 wB:∀ j,t.w j ≤ t.B
 wz:∀ j,t.N ≤ j→t.w j=0
 N1:1 ≤ t.N
 N4:t.N ≤ 1 + 4 * k
 sum:sumTo t.w t.N=t.B
end Com
namespace Com
open PySem D3 My
end Com
namespace Com
open PySem D3 My
theorem sm1 (k:Nat) {x:Int} (h:x.natAbs ≤ 1):sm (k + 1) x:=by
 unfold sm
 rw [lO]
 have:=Nat.one_le_two_pow (n:=k)
 omega
structure bd (k:Nat) (a:Rat):Prop where
 n:sm k a.num
 d:sm k (a.den:Int)
end Com
namespace Com
open PySem D3 My
theorem pX {g:FG} {b:FS} (Inv:Nat→DS→Prop) {v:D} (n:Nat):∀ (l:List D) (δ:DS),Inv 0 δ→n < l.length→(∀ i d δ,i < n→l[i]? = some d→Inv i δ→∃ δ1 δ',g d δ=some δ1∧b δ1=some (.nx δ')∧Inv (i + 1) δ') →
 (∀ d δ,l[n]? = some d→Inv n δ→∃ δ1,g d δ=some δ1∧b δ1=some (.rt v))→gO g b l δ=some (.rt v):=by
 have key:∀ (n:Nat) (l:List D) (k:Nat) (δ:DS),Inv k δ→n < l.length→(∀ i d δ,i < n→l[i]? = some d→Inv (k + i) δ→∃ δ1 δ',g d δ=some δ1∧b δ1=some (.nx δ')∧Inv (k + i + 1) δ') →
  (∀ d δ,l[n]? = some d→Inv (k + n) δ→∃ δ1,g d δ=some δ1∧b δ1=some (.rt v))→gO g b l δ=some (.rt v):=by
  intro n
  induction n with
  | zero =>
   intro l k δ h0 hn _ hr
   cases l with
   | nil=>simp at hn
   | cons d r =>
    obtain ⟨δ1,e1,e2⟩:=hr d δ rfl h0
    rw [gO,e1,aN,e2]
    rfl
  | succ n ih =>
   intro l k δ h0 hn hs hr
   cases l with
   | nil=>simp at hn
   | cons d r =>
    obtain ⟨δ1,δ',e1,e2,e3⟩:=hs 0 d δ (by omega) rfl h0
    rw [gO,e1,aN,e2]
    refine ih r (k + 1) δ' e3 (by simpa using hn) (fun i d' δ'' hi hd hI=>?_) (fun d' δ'' hd hI=>hr d' δ'' (by simpa using hd) (by rw [show k + (n + 1)=k + 1 + n by omega];exact hI))
    have:=hs (i + 1) d' δ'' (by omega) (by simpa using hd) (by rw [show k + (i + 1)=k + 1 + i by omega];exact hI)
    rw [show k + (i + 1) + 1=k + 1 + i + 1 by omega] at this
    exact this
 intro l δ h0 hn hs hr
 refine key n l 0 δ h0 hn (fun i d δ hi hd hI=>?_) (fun d δ hd hI=>hr d δ hd (by rw [fQ] at hI;exact hI))
 have:=hs i d δ hi hd (by rw [fQ] at hI;exact hI)
 rw [fQ]
 exact this
theorem iG {hi:Int} (h:(eX 0 hi)[i]? = some d):(i:Int) < hi∧d = .int (i:Int):=by
 unfold eX at h
 rw [aO] at h
 by_cases hi':i < (hi - 0).toNat
 ·rw [fO hi'] at h
  cases h
  refine ⟨by omega,?_⟩
  show PyData.int (0 + (i:Int))=_
  rw [lN]
 ·rw [aP (by simpa using hi')] at h
  cases h
end Com
namespace XS
open PySem PySem.W PyProof.Rows
structure Weak (lt:Nat→Nat→Bool):Prop where
 irr:∀ a,lt a a=false
 tr:∀ a b c,lt a b=true→lt b c=true→lt a c=true
 nt:∀ a b c,lt a c=true→lt a b=true∨lt b c=true
def Rk (lt:Nat→Nat→Bool) (a b:Nat):Prop:=lt a b=true∨(lt b a=false∧a < b)
section
variable {lt:Nat→Nat→Bool} {p:Array Nat} {n:Nat}
theorem Weak.not (W:Weak lt) {a b c:Nat} (h1:lt a b=false) (h2:lt b c=false):lt a c=false:=by
 cases q:lt a c with
 | false=>rfl
 | true =>
  rcases W.nt a b c q with z | z
  ·rw [z] at h1;cases h1
  ·rw [z] at h2;cases h2
theorem Rk.trans (W:Weak lt) {a b c:Nat} (h1:Rk lt a b) (h2:Rk lt b c):Rk lt a c:=by
 rcases h1 with h1 | ⟨h1,l1⟩
 ·rcases h2 with h2 | ⟨h2,l2⟩
  ·exact .inl (W.tr _ _ _ h1 h2)
  ·rcases W.nt a c b h1 with z | z
   ·exact .inl z
   ·rw [z] at h2;cases h2
 ·rcases h2 with h2 | ⟨h2,l2⟩
  ·rcases W.nt b a c h2 with z | z
   ·rw [z] at h1;cases h1
   ·exact .inl z
  ·exact .inr ⟨W.not h2 h1,by omega⟩
abbrev ga (p:Array Nat) (i:Nat):Nat:=p.getD i 0
def Asc (lt:Nat→Nat→Bool) (p:Array Nat) (m:Nat):Prop:=∀ i j,i < j→j < m→Rk lt (ga p i) (ga p j)
structure Run (lt:Nat→Nat→Bool) (n:Nat) (p:Array Nat) (m:Nat):Prop where
 asc:Asc lt p m
 rest:∀ k,m ≤ k→k < n→ga p k=k
 low:∀ k,k < m→ga p k < m
theorem Run.snoc (W:Weak lt) {a:Nat} (R:Run lt n p a) (h1:1 ≤ a) (ha:a < n) (h:lt (ga p a) (ga p (a - 1))=false):Run lt n p (a + 1):=by
 have ea:=R.rest a (aL _) ha
 have la:=R.low (a - 1) (by omega)
 have st:Rk lt (ga p (a - 1)) (ga p a):=.inr ⟨h,by omega⟩
 refine ⟨fun i j hij hj=>?_,fun k hk hn=>R.rest k (by omega) hn,fun k hk=>?_⟩
 ·by_cases z:j < a
  ·exact R.asc i j hij z
  ·have:j=a:=by omega
   subst this
   by_cases y:i=j - 1
   ·rw [y];exact st
   ·exact (R.asc i (j - 1) (by omega) (by omega)).trans W st
 ·by_cases z:k < a
  ·have:=R.low k z;omega
  ·have:k=a:=by omega
   subst this
   omega
theorem Fv (W:Weak lt):∀ (f a:Nat),Run lt n p a→1 ≤ a→a + f ≤ n→Run lt n p (dB lt (kas_asc p f a))∧a ≤ dB lt (kas_asc p f a)∧dB lt (kas_asc p f a) ≤ a + f∧(dB lt (kas_asc p f a) < a + f→lt (ga p (dB lt (kas_asc p f a))) (ga p (dB lt (kas_asc p f a) - 1))=true)
 | 0,a,R,h1,hf=>⟨R,aL _,aL _,fun z=>by
  have z:a < a + 0:=z
  omega⟩
 | f + 1,a,R,h1,hf=>by
  have e:dB lt (kas_asc p (f + 1) a)=dB lt (if lt (ga p a) (ga p (a - 1))=true then .ret a else kas_asc p f (a + 1)):=rfl
  rw [e]
  by_cases c:lt (ga p a) (ga p (a - 1))=true
  ·rw [if_pos c]
   exact ⟨R,aL _,by show a ≤ a + (f + 1);omega,fun _=>c⟩
  ·rw [if_neg c]
   obtain ⟨q1,q2,q3,q4⟩:=Fv W f (a + 1) (R.snoc W h1 (by omega) (by simpa using c)) (by omega) (by omega)
   exact ⟨q1,by omega,by omega,fun z=>q4 (by omega)⟩
theorem wO (W:Weak lt) {k:Nat} (R:Run lt n p k):∀ (f l r:Nat),l ≤ r→r ≤ k→r - l ≤ f→(∀ i,i < l→lt (ga p k) (ga p i)=false)→(∀ i,r ≤ i→i < k→lt (ga p k) (ga p i)=true) →
 dB lt (kas_place p k f l r) ≤ k∧(∀ i,i < dB lt (kas_place p k f l r)→lt (ga p k) (ga p i)=false)∧(∀ i,dB lt (kas_place p k f l r) ≤ i→i < k→lt (ga p k) (ga p i)=true)
 | 0,l,r,h1,h2,h3,h4,h5=>by
  have:l=r:=by omega
  subst this
  exact ⟨h2,h4,h5⟩
 | f + 1,l,r,h1,h2,h3,h4,h5=>by
  by_cases z:l ≥ r
  ·have:l=r:=by omega
   subst this
   have e:kas_place p k (f + 1) l l = .ret l:=by unfold kas_place;rw [if_pos z]
   rw [e]
   exact ⟨h2,h4,h5⟩
  ·have e:dB lt (kas_place p k (f + 1) l r)=dB lt (if lt (ga p k) (ga p ((l + r) / 2))=true then kas_place p k f l ((l + r) / 2) else kas_place p k f ((l + r) / 2 + 1) r):=by
    conv=>lhs;unfold kas_place
    rw [if_neg z]
    rfl
   rw [e]
   have m1:l ≤ (l + r) / 2:=by omega
   have m2:(l + r) / 2 < r:=by omega
   by_cases c:lt (ga p k) (ga p ((l + r) / 2))=true
   ·rw [if_pos c]
    refine wO W R f l ((l + r) / 2) m1 (by omega) (by omega) h4 fun i hi hk=>?_
    by_cases y:i=(l + r) / 2
    ·rw [y];exact c
    ·rcases R.asc ((l + r) / 2) i (by omega) hk with q | ⟨q,_⟩
     ·exact W.tr _ _ _ c q
     ·rcases W.nt _ (ga p i) _ c with w | w
      ·exact w
      ·rw [w] at q;cases q
   ·rw [if_neg c]
    have c:lt (ga p k) (ga p ((l + r) / 2))=false:=by simpa using c
    refine wO W R f ((l + r) / 2 + 1) r (by omega) h2 (by omega) (fun i hi=>?_) h5
    by_cases y:i=(l + r) / 2
    ·rw [y];exact c
    ·cases q:lt (ga p k) (ga p i) with
     | false=>rfl
     | true =>
      rcases R.asc i ((l + r) / 2) (by omega) (by omega) with w | ⟨w,_⟩
      ·rw [W.tr _ _ _ q w] at c;cases c
      ·rcases W.nt _ (ga p ((l + r) / 2)) _ q with w2 | w2
       ·rw [w2] at c;cases c
       ·rw [w2] at w;cases w
theorem Wn {k l:Nat} (hk:k < p.size) (hl:l ≤ k) (i:Nat):ga (bubble p k (k - l)) i=if i=l then ga p k else if l < i∧i ≤ k then ga p (i - 1) else ga p i:=by
 have e:=getElem?_bubble hk (k - l) (by omega) i
 rw [show k - (k - l)=l by omega] at e
 have g:∀ (q:Array Nat) (i:Nat),ga q i=(q[i]?).getD 0:=fun q i=>by simp [ga,fU]
 rw [g,e,g p k,g p (i - 1),g p i]
 by_cases c1:i=l
 ·rw [if_pos c1,if_pos c1]
 ·rw [if_neg c1,if_neg c1]
  by_cases c2:l < i∧i ≤ k
  ·rw [if_pos c2,if_pos c2]
  ·rw [if_neg c2,if_neg c2]
theorem Nz (W:Weak lt) (hs:p.size=n) {k l:Nat} (R:Run lt n p k) (hk:k < n) (hl:l ≤ k) (h1:∀ i,i < l→lt (ga p k) (ga p i)=false) (h2:∀ i,l ≤ i→i < k→lt (ga p k) (ga p i)=true):Run lt n (bubble p k (k - l)) (k + 1):=by
 have ek:=R.rest k (aL _) hk
 have B:=Wn (p:=p) (k:=k) (by omega) hl
 refine ⟨fun i j hij hj=>?_,fun m hm hn=>?_,fun m hm=>?_⟩
 ·rw [B,B]
  by_cases c1:i=l
  ·rw [if_pos c1,if_neg (by omega),if_pos (by omega)]
   exact .inl (h2 (j - 1) (by omega) (by omega))
  ·rw [if_neg c1]
   by_cases c2:j=l
   ·rw [if_pos c2,if_neg (by omega)]
    exact .inr ⟨h1 i (by omega),by rw [ek];exact R.low i (by omega)⟩
   ·rw [if_neg c2]
    by_cases c3:l < i∧i ≤ k
    ·rw [if_pos c3,if_pos (by omega)]
     exact R.asc _ _ (by omega) (by omega)
    ·rw [if_neg c3]
     by_cases c4:l < j∧j ≤ k
     ·rw [if_pos c4]
      exact R.asc _ _ (by omega) (by omega)
     ·rw [if_neg c4]
      exact R.asc _ _ hij (by omega)
 ·rw [B,if_neg (by omega),if_neg (by omega)]
  exact R.rest m (by omega) hn
 ·rw [B]
  split
  ·omega
  ·split
   ·have:=R.low (m - 1) (by omega);omega
   ·have:=R.low m (by omega);omega
theorem NK (W:Weak lt):∀ (f:Nat) (p:Array Nat) (k:Nat),p.size=n→Run lt n p k→k + f=n→Run lt n (dB lt (kas_bin f p k)) n
 | 0,p,k,hs,R,h=>by
  have:k=n:=by omega
  subst this
  exact R
 | f + 1,p,k,hs,R,h=>by
  have e:dB lt (kas_bin (f + 1) p k)=dB lt (kas_bin f (bubble p k (k - dB lt (kas_place p k k 0 k))) (k + 1)):=mC _ _
  rw [e]
  obtain ⟨q1,q2,q3⟩:=wO W R k 0 k (cZ _) (aL _) (by omega) (fun i hi=>by omega) (fun i h1 h2=>by omega)
  exact NK W f _ (k + 1) (by rw [bubble_size];exact hs) (Nz W hs R (by omega) q1 q2 q3) (by omega)
end
end XS
namespace XS
open PySem PySem.W PyProof.Rows
section
variable {lt:Nat→Nat→Bool} {p p':Array Nat} {n a q:Nat}
theorem Rk.nr (W:Weak lt) {a b:Nat} (h:Rk lt a b):lt b a=false:=by
 rcases h with h | ⟨h,_⟩
 ·cases z:lt b a with
  | false=>rfl
  | true=>have:=W.tr _ _ _ h z;rw [W.irr] at this;cases this
 ·exact h
theorem Fw (hj:j ≤ p.size) (k:Nat):ga (kas_rev p i j) k=if i ≤ k∧k < j then ga p (i + j - 1 - k) else ga p k:=by
 have e:=getElem?_mirror_all (i:=i) hj k
 have g:∀ (q:Array Nat) (i:Nat),ga q i=(q[i]?).getD 0:=fun q i=>by simp [ga,fU]
 rw [g,g p (i + j - 1 - k),g p k]
 unfold kas_rev
 rw [e]
 by_cases c:i ≤ k∧k < j
 ·rw [if_pos c,if_pos c]
 ·rw [if_neg c,if_neg c]
theorem wQ (i j:Nat):(kas_rev p i j).size=p.size:=mirror_size _ _ _ _
structure Dn (lt:Nat→Nat→Bool) (n:Nat) (p:Array Nat) (a q:Nat):Prop where
 le:q + 1 ≤ a
 desc:∀ i j,i < j→j < a - (q + 1)→Rk lt (ga p j) (ga p i)
 strict:∀ i j,i < a - (q + 1)→a - (q + 1) ≤ j→j < a→lt (ga p j) (ga p i)=true
 run:∀ i j,a - (q + 1) ≤ i→i < j→j < a→lt (ga p i) (ga p j)=false∧lt (ga p j) (ga p i)=false∧ga p i < ga p j
 rest:∀ k,a ≤ k→k < n→ga p k=k
 low:∀ k,k < a→ga p k < a
structure Desc (lt:Nat→Nat→Bool) (n:Nat) (p:Array Nat) (a:Nat):Prop where
 desc:∀ i j,i < j→j < a→Rk lt (ga p j) (ga p i)
 rest:∀ k,a ≤ k→k < n→ga p k=k
 low:∀ k,k < a→ga p k < a
theorem Dn.turn (D:Dn lt n p a q) (h:∀ k,ga p' k=if a - (q + 1) ≤ k∧k < a then ga p (a - (q + 1) + a - 1 - k) else ga p k):Desc lt n p' a:=by
 have l:=D.le
 refine ⟨fun i j hij hj=>?_,fun k hk hn=>?_,fun k hk=>?_⟩
 ·by_cases c:j < a - (q + 1)
  ·rw [h,h,if_neg (by omega),if_neg (by omega)]
   exact D.desc i j hij c
  ·rw [h j,if_pos (by omega),h i]
   by_cases e:i < a - (q + 1)
   ·rw [if_neg (by omega)]
    exact .inl (D.strict _ _ e (by omega) (by omega))
   ·rw [if_pos (by omega)]
    obtain ⟨x,y,z⟩:=D.run (a - (q + 1) + a - 1 - j) (a - (q + 1) + a - 1 - i) (by omega) (by omega) (by omega)
    exact .inr ⟨y,z⟩
 ·rw [h,if_neg (by omega)];exact D.rest k hk hn
 ·rw [h]
  split
  ·exact D.low _ (by omega)
  ·exact D.low _ hk
theorem Desc.up (D:Desc lt n p a) (ha:a < n) (h:∀ i,i < a→lt (ga p a) (ga p i)=true):Dn lt n p (a + 1) 0:=by
 refine ⟨by omega,fun i j hij hj=>D.desc i j hij (by omega),fun i j hi h1 h2=>?_,fun i j h1 h2 h3=>by omega,fun k hk hn=>D.rest k (by omega) hn,fun k hk=>?_⟩
 ·have:j=a:=by omega
  subst this
  exact h i (by omega)
 ·by_cases z:k < a
  ·have:=D.low k z;omega
  ·have:k=a:=by omega
   subst this
   rw [D.rest k (aL _) ha];omega
def turned (p:Array Nat) (a q:Nat):Array Nat:=if q > 0 then kas_rev p (a - (q + 1)) a else p
theorem qm (hs:p.size=n) (ha:a ≤ n) (l:q + 1 ≤ a) (k:Nat):ga (turned p a q) k=if a - (q + 1) ≤ k∧k < a then ga p (a - (q + 1) + a - 1 - k) else ga p k:=by
 unfold turned
 by_cases c:q > 0
 ·rw [if_pos c];exact Fw (by omega) k
 ·rw [if_neg c]
  by_cases e:a - (q + 1) ≤ k∧k < a
  ·rw [if_pos e,show a - (q + 1) + a - 1 - k=k by omega]
  ·rw [if_neg e]
theorem uV:(turned p a q).size=p.size:=by
 unfold turned
 split
 ·exact wQ _ _
 ·rfl
theorem Dn.below (W:Weak lt) (D:Dn lt n p a q) (hs:p.size=n) (ha:a < n) (h:lt (ga p a) (ga p (a - 1))=true) (i:Nat) (hi:i < a):lt (ga (turned p a q) a) (ga (turned p a q) i)=true:=by
 have l:=D.le
 have all:∀ i,i < a→lt (ga p a) (ga p i)=true:=fun i hi=>by
  by_cases c:i < a - (q + 1)
  ·exact W.tr _ _ _ h (D.strict i (a - 1) c (by omega) (by omega))
  ·by_cases e:i=a - 1
   ·rw [e];exact h
   ·rcases W.nt _ (ga p i) _ h with w | w
    ·exact w
    ·rw [(D.run i (a - 1) (by omega) (by omega) (by omega)).1] at w;cases w
 rw [qm hs (by omega) l,if_neg (by omega),qm hs (by omega) l]
 split
 ·exact all _ (by omega)
 ·exact all _ hi
theorem Dn.same (W:Weak lt) (D:Dn lt n p a q) (ha:a < n) (h1:lt (ga p a) (ga p (a - 1))=false) (h2:lt (ga p (a - 1)) (ga p a)=false):Dn lt n p (a + 1) (q + 1):=by
 have l:=D.le
 have ea:=D.rest a (aL _) ha
 refine ⟨by omega,fun i j hij hj=>D.desc i j hij (by omega),fun i j hi q1 q2=>?_,fun i j q1 q2 q3=>?_,fun k hk hn=>D.rest k (by omega) hn,fun k hk=>?_⟩
 ·by_cases z:j < a
  ·exact D.strict i j (by omega) (by omega) z
  ·have:j=a:=by omega
   subst this
   rcases W.nt _ (ga p j) _ (D.strict i (j - 1) (by omega) (by omega) (by omega)) with w | w
   ·rw [w] at h2;cases h2
   ·exact w
 ·by_cases z:j < a
  ·exact D.run i j (by omega) q2 z
  ·have:j=a:=by omega
   subst this
   have lo:=D.low i (by omega)
   by_cases e:i=j - 1
   ·subst e
    exact ⟨h2,h1,by omega⟩
   ·obtain ⟨x,y,_⟩:=D.run i (j - 1) (by omega) (by omega) (by omega)
    exact ⟨W.not x h2,W.not h1 y,by omega⟩
 ·by_cases z:k < a
  ·have:=D.low k z;omega
  ·have:k=a:=by omega
   subst this
   omega
theorem Aq (W:Weak lt):∀ (f:Nat) (p:Array Nat) (a q:Nat),p.size=n→Dn lt n p a q→a + f ≤ n →
 (dB lt (kas_desc f p a q)).1.size=n∧Dn lt n (dB lt (kas_desc f p a q)).1 (dB lt (kas_desc f p a q)).2.1 (dB lt (kas_desc f p a q)).2.2∧(dB lt (kas_desc f p a q)).2.1 ≤ n
 | 0,p,a,q,hs,D,h=>⟨hs,D,h⟩
 | f + 1,p,a,q,hs,D,h=>by
  have e:dB lt (kas_desc (f + 1) p a q)=dB lt (if lt (ga p a) (ga p (a - 1))=true then (if q > 0 then kas_desc f (kas_rev p (a - (q + 1)) a) (a + 1) 0 else kas_desc f p (a + 1) 0) else .ask (ga p (a - 1)) (ga p a) fun d=>if d=true then .ret (p,a,q) else kas_desc f p (a + 1) (q + 1)):=rfl
  rw [e]
  by_cases c:lt (ga p a) (ga p (a - 1))=true
  ·rw [if_pos c]
   have e2:(if q > 0 then kas_desc f (kas_rev p (a - (q + 1)) a) (a + 1) 0 else kas_desc f p (a + 1) 0)=kas_desc f (turned p a q) (a + 1) 0:=by
    unfold turned
    split <;> rfl
   rw [e2]
   exact Aq W f (turned p a q) (a + 1) 0 (by rw [uV];exact hs) ((D.turn (qm hs (by omega) D.le)).up (by omega) (D.below W hs (by omega) c)) (by omega)
  ·rw [if_neg c]
   have e3:dB lt (.ask (ga p (a - 1)) (ga p a) fun d=>if d=true then .ret (p,a,q) else kas_desc f p (a + 1) (q + 1))=dB lt (if lt (ga p (a - 1)) (ga p a)=true then .ret (p,a,q) else kas_desc f p (a + 1) (q + 1)):=rfl
   rw [e3]
   by_cases d:lt (ga p (a - 1)) (ga p a)=true
   ·rw [if_pos d]
    exact ⟨hs,D,by show a ≤ n;omega⟩
   ·rw [if_neg d]
    exact Aq W f p (a + 1) (q + 1) hs (D.same W (by omega) (by simpa using c) (by simpa using d)) (by omega)
theorem RZ (W:Weak lt) (hs:p.size=n) (D:Desc lt n p a) (h1:1 ≤ a) (ha:a ≤ n) :
 (dB lt (kas_tail3 a n p)).2.size=n∧Run lt n (dB lt (kas_tail3 a n p)).2 (dB lt (kas_tail3 a n p)).1∧1 ≤ (dB lt (kas_tail3 a n p)).1∧(dB lt (kas_tail3 a n p)).1 ≤ n:=by
 have e:dB lt (kas_tail3 a n p)=(dB lt (kas_asc (kas_rev p 0 a) (n - a) a),kas_rev p 0 a):=mC _ _
 rw [e]
 have B:=Fw (p:=p) (i:=0) (j:=a) (by omega)
 have R:Run lt n (kas_rev p 0 a) a:=by
  refine ⟨fun i j hij hj=>?_,fun k hk hn=>?_,fun k hk=>?_⟩
  ·rw [B,B,if_pos (by omega),if_pos (by omega)]
   exact D.desc _ _ (by omega) (by omega)
  ·rw [B,if_neg (by omega)];exact D.rest k hk hn
  ·rw [B,if_pos (by omega)];exact D.low _ (by omega)
 obtain ⟨q1,q2,q3,_⟩:=Fv W (n - a) a R h1 (by omega)
 exact ⟨by rw [wQ];exact hs,q1,by show 1 ≤ dB lt _;omega,by show dB lt _ ≤ n;omega⟩
theorem Hv (W:Weak lt) (hs:p.size=n) (D:Dn lt n p (a + 1) 0) (ha:a < n) :
 (dB lt (kas_descPart a n p)).2.size=n∧Run lt n (dB lt (kas_descPart a n p)).2 (dB lt (kas_descPart a n p)).1∧1 ≤ (dB lt (kas_descPart a n p)).1∧(dB lt (kas_descPart a n p)).1 ≤ n:=by
 obtain ⟨q1,q2,q3⟩:=Aq W (n - (a + 1)) p (a + 1) 0 hs D (by omega)
 have e:dB lt (kas_descPart a n p)=dB lt (kas_tail3 (dB lt (kas_desc (n - (a + 1)) p (a + 1) 0)).2.1 n (turned (dB lt (kas_desc (n - (a + 1)) p (a + 1) 0)).1 (dB lt (kas_desc (n - (a + 1)) p (a + 1) 0)).2.1 (dB lt (kas_desc (n - (a + 1)) p (a + 1) 0)).2.2)):=by
  refine (mC _ _).trans ?_
  unfold turned
  split <;> rfl
 rw [e]
 have l:=q2.le
 exact RZ W (by rw [uV];exact q1) (q2.turn (qm q1 q3 l)) (by omega) q3
theorem NP (W:Weak lt) (hs:p.size=n) (hn:1 ≤ n) (R:Run lt n p 1) :
 (dB lt (kas_count n p)).2.size=n∧Run lt n (dB lt (kas_count n p)).2 (dB lt (kas_count n p)).1∧1 ≤ (dB lt (kas_count n p)).1∧(dB lt (kas_count n p)).1 ≤ n:=by
 obtain ⟨q1,q2,q3,q4⟩:=Fv W (n - 1) 1 R (aL _) (by omega)
 have e:dB lt (kas_count n p)=_:=mC _ _
 rw [e]
 clear e
 generalize dB lt (kas_asc p (n - 1) 1)=m at q1 q2 q3 q4 ⊢
 by_cases c:(m == n)=true
 ·rw [if_pos c];exact ⟨hs,q1,q2,by show m ≤ n;omega⟩
 ·rw [if_neg c]
  have c:m < n:=by
   have:¬ m=n:=by simpa using c
   omega
  have dn:=q4 (by omega)
  have st:∀ p',(∀ k,ga p' k=if 0 ≤ k∧k < m then ga p (0 + m - 1 - k) else ga p k)→lt (ga p 0) (ga p (m - 1))=false→Dn lt n p' (m + 1) 0:=fun p' B z=>by
   have D:Desc lt n p' m:=by
    refine ⟨fun i j hij hj=>?_,fun k hk hn=>?_,fun k hk=>?_⟩
    ·rw [B,B,if_pos (by omega),if_pos (by omega)]
     exact q1.asc _ _ (by omega) (by omega)
    ·rw [B,if_neg (by omega)];exact q1.rest k hk hn
    ·rw [B,if_pos (by omega)];exact q1.low _ (by omega)
   have all:∀ i,i < m→lt (ga p m) (ga p i)=true:=fun i hi=>by
    rcases W.nt _ (ga p i) _ dn with w | w
    ·exact w
    ·by_cases y:i=0
     ·subst y;rw [z] at w;cases w
     ·rcases W.nt _ (ga p 0) _ w with v | v
      ·rw [(q1.asc 0 i (by omega) hi).nr W] at v;cases v
      ·rw [z] at v;cases v
   refine D.up c fun i hi=>?_
   rw [B,if_neg (by omega),B,if_pos (by omega)]
   exact all _ (by omega)
  by_cases g:m > 1
  ·rw [if_pos g]
   show _∧Run lt n (dB lt (if lt (ga p 0) (ga p (m - 1))=true then .ret (m,p) else kas_descPart m n (kas_rev p 0 m))).2 (dB lt (if lt (ga p 0) (ga p (m - 1))=true then .ret (m,p) else kas_descPart m n (kas_rev p 0 m))).1∧_
   by_cases z:lt (ga p 0) (ga p (m - 1))=true
   ·have e:dB lt (.ask (ga p 0) (ga p (m - 1)) fun c=>if c=true then .ret (m,p) else kas_descPart m n (kas_rev p 0 m))=(m,p):=by
     show dB lt (if lt (ga p 0) (ga p (m - 1))=true then .ret (m,p) else kas_descPart m n (kas_rev p 0 m))=_
     rw [if_pos z];rfl
    rw [e,if_pos z]
    exact ⟨hs,q1,q2,by show m ≤ n;omega⟩
   ·have e:dB lt (.ask (ga p 0) (ga p (m - 1)) fun c=>if c=true then .ret (m,p) else kas_descPart m n (kas_rev p 0 m))=dB lt (kas_descPart m n (kas_rev p 0 m)):=by
     show dB lt (if lt (ga p 0) (ga p (m - 1))=true then .ret (m,p) else kas_descPart m n (kas_rev p 0 m))=_
     rw [if_neg z]
    rw [e,if_neg z]
    exact Hv W (by rw [wQ];exact hs) (st _ (Fw (by omega)) (by simpa using z)) c
  ·rw [if_neg g]
   have:m=1:=by omega
   subst this
   refine Hv W hs (st p (fun k=>?_) (W.irr _)) c
   split
   ·rw [show 0 + 1 - 1 - k=k by omega]
   ·rfl
theorem R3 (W:Weak lt) (hn:1 ≤ n):Run lt n (dB lt (kas_sort n)) n:=by
 have gr:∀ k,k < n→ga (eZ (aZ n)) k=k:=fun k hk=>by
  simp [ga,fU,hk]
 obtain ⟨q1,q2,q3,q4⟩:=NP (p:=eZ (aZ n)) W (by simp) hn ⟨fun i j h1 h2=>by omega,fun k hk h=>gr k h,fun k hk=>by rw [gr k (by omega)];exact hk⟩
 have e:dB lt (kas_sort n)=_:=mC _ _
 rw [e]
 clear e
 generalize dB lt (kas_count n (eZ (aZ n)))=r at q1 q2 q3 q4 ⊢
 by_cases c:r.1 < n
 ·rw [if_pos c,show max r.1 1=r.1 by omega]
  exact NK W _ _ _ q1 q2 (by omega)
 ·rw [if_neg c]
  have:r.1=n:=by omega
  rw [← this]
  rw [← this] at q2
  exact q2
theorem Fx (W:Weak lt) (hn:1 ≤ n):(qx n lt).Pairwise (Rk lt):=by
 have R:=R3 W hn
 have z:(qx n lt).length=n:=by
  have:=(jw (n:=n) (by omega) lt).length_eq
  simpa using this
 rw [gq]
 intro i j hi hj hij
 have:=R.asc i j hij (by omega)
 have g:∀ k (h:k < (qx n lt).length),ga (dB lt (kas_sort n)) k=(qx n lt)[k]:=fun k h=>by
  unfold qx at h ⊢
  have h':k < (dB lt (kas_sort n)).size:=by simpa using h
  simp [ga,fU,h']
 rw [g i hi,g j hj] at this
 exact this
end
end XS
namespace XS
theorem NQ {k:Nat→Int}:Weak fun i j=>decide (k i < k j):=by
 refine ⟨fun a=>?_,fun a b c h1 h2=>?_,fun a b c h=>?_⟩
 ·simp
 ·simp only [decide_eq_true_eq] at *;omega
 ·simp only [decide_eq_true_eq] at *;omega
end XS
namespace Com
open PySem D3 My XS
theorem YX {k:Nat→Int} (h:Rk (fun i j=>decide (k i < k j)) i j):k i ≤ k j:=by
 rcases h with z | ⟨z,_⟩
 ·have z:=of_decide_eq_true z;omega
 ·have z:=of_decide_eq_false z;omega
theorem NT {l:List Nat} {lt:Nat→Nat→Bool} (h0:0 < l.length):((qx l.length lt).map fun i=>l.getD i 0).Perm l:=by
 have e:(aZ l.length).map (fun i=>l.getD i 0)=l:=by
  apply dN
  intro i
  rw [aO]
  by_cases h:i < l.length
  ·rw [fO h,aD h,iI,aK,aD h]
   rfl
  ·rw [aP (by simpa using h),aP (by omega)]
   rfl
 have:=(jw h0 lt).map (fun i=>l.getD i 0)
 rw [e] at this
 exact this
theorem Fy (l:List Nat) (f:Nat→Int):∃ L':List Nat,qW (l.map fun p:Nat=>PyData.int (p:Int)) (l.map f)=L'.map (fun p:Nat=>PyData.int (p:Int))∧L'.Perm l∧L'.Pairwise fun a b=>f a ≤ f b:=by
 unfold qW
 rw [aC]
 by_cases h1:l.length ≤ 1
 ·rw [if_pos h1]
  refine ⟨l,rfl,List.Perm.refl _,?_⟩
  match l,h1 with
  | [],_=>exact .nil
  | [_],_=>simp
 ·rw [if_neg h1]
  have gd:∀ i,i < l.length→(l.map f).getD i 0=f (l.getD i 0):=fun i hi=>by
   rw [aK,aO,aK,aD hi]
   rfl
  refine ⟨(qx l.length fun i j=>decide ((l.map f).getD i 0 < (l.map f).getD j 0)).map fun i=>l.getD i 0,?_,NT (by omega),?_⟩
  ·rw [dI]
   apply gP
   intro i hi
   have hi':=aQ.mp ((jw (n:=l.length) (by omega) _).mem_iff.mp hi)
   rw [aK,aO,aD hi']
   show _=PyData.int ((l.getD i 0:Nat):Int)
   rw [aK,aD hi']
   rfl
  ·rw [iW]
   have W:Weak fun i j=>decide ((l.map f).getD i 0 < (l.map f).getD j 0):=NQ
   refine List.Pairwise.imp_of_mem ?_ (Fx W (by omega))
   intro i j hi hj hr
   have hi':=aQ.mp ((jw (n:=l.length) (by omega) _).mem_iff.mp hi)
   have hj':=aQ.mp ((jw (n:=l.length) (by omega) _).mem_iff.mp hj)
   have:=YX (k:=fun i=>(l.map f).getD i 0) hr
   rw [gd i hi',gd j hj'] at this
   exact this
end Com
namespace Com
open PySem D3 My
def r6 (x:Int):Prop:=0 ≤ x∧x < 1000000
abbrev Wi:=Int × Int × Int
def wiD (w:Wi):D:=.tuple [.int w.1,.int w.2.1,.int w.2.2]
end Com
namespace Com
open PySem D3 My
theorem gW {α:Type} (f:α→D) {l:List α} (x:α) {i:Int} (h0:0 ≤ i) (h1:i < l.length):pAt (l.map f) i=some (f (l.getD i.toNat x)):=by
 have hk:i.toNat < l.length:=by omega
 obtain ⟨k,rfl⟩:∃ k:Nat,i=(k:Int):=⟨i.toNat,by omega⟩
 rw [Al,aO,aK]
 simp only [cO] at hk ⊢
 rw [aD hk]
 rfl
end Com
namespace Com
open PySem D3 My
theorem Jz (fs:List Int):jQ (fs.map .int)=(aZ fs.length).map fun k:Nat=>PyData.tuple [.int (k:Int),.int (fs.getD k 0)]:=by
 unfold jQ
 apply dN
 intro i
 rw [d7,aO,aO]
 by_cases h:i < fs.length
 ·have e:fs.getD i 0=fs[i]:=by rw [aK,aD h];rfl
  rw [fO h,aD h,iI,iI,iI,e]
 ·rw [aP (by simpa using h),aP (by simpa using h)]
  rfl
end Com
namespace Com
open PySem D3 My
theorem nZ (P:Nat→Bool):∀ n,(∃ m,m < n∧P m=true∧∀ i,i < m→P i=false)∨∀ i,i < n→P i=false
 | 0=>.inr fun i h=>by omega
 | n + 1=>by
  rcases nZ P n with ⟨m,h1,h2,h3⟩ | h
  ·exact .inl ⟨m,by omega,h2,h3⟩
  ·cases c:P n with
   | true=>exact .inl ⟨n,by omega,c,h⟩
   | false =>
    refine .inr fun i hi=>?_
    by_cases e:i=n
    ·rw [e];exact c
    ·exact h i (by omega)
end Com
variable {row held:List Int}
namespace Sd
abbrev Gp:=Int × Int × Nat
abbrev Pl:=Gp × Nat
def gok (g:Gp):Prop:=0 ≤ g.1∧g.1 < g.2.1∧1 ≤ g.2.2
def inn (p:Pl) (r:Nat):Prop:=p.2 ≤ r∧r < p.2 + p.1.2.2
def fits (row:List Int) (g:Gp) (s:Nat):Prop:=s + g.2.2 ≤ row.length∧∀ r,s ≤ r→r < s + g.2.2→row.getD r 0 ≤ g.1
def cell (g:Gp) (s r:Nat) (e:Int):Int:=if s ≤ r∧r < s + g.2.2 then g.2.1 else if e ≤ g.1 then 0 else e
def put (row:List Int) (g:Gp) (s:Nat):List Int:=row.mapIdx (cell g s)
theorem jV (row:List Int) (g:Gp) (s:Nat):(put row g s).length=row.length:=by unfold put;rw [rB]
theorem tO {g:Gp} {s r:Nat} (h:r < row.length):(put row g s).getD r 0=cell g s r (row.getD r 0):=by
 unfold put
 rw [aK,d7,aK,aD h]
 rfl
def Run:List Int→List Pl→List Int→Prop
 | row,[],out=>out=row
 | row,p :: ps,out=>fits row p.1 p.2∧Run (put row p.1 p.2) ps out
def Jv (held:List Int) (done:List Pl) (row:List Int):Prop:=row.length=held.length∧∀ r,r < held.length→∀ x:Int,0 ≤ x→(∀ p ∈ done,p.1.1 ≤ x) →
 (row.getD r 0 ≤ x↔held.getD r 0 ≤ x∧∀ p ∈ done,inn p r→p.1.2.1 ≤ x)
theorem Jv.nil (held:List Int):Jv held [] held:=⟨rfl,fun r _ x _ _=>⟨fun h=>⟨h,fun p hp=>by cases hp⟩,fun h=>h.1⟩⟩
theorem Jv.step {done:List Pl} {p:Pl} (h:Jv held done row) (ok:gok p.1) (asc:∀ q ∈ done,q.1.1 ≤ p.1.1) (ft:fits row p.1 p.2):Jv held (done++[p]) (put row p.1 p.2):=by
 obtain ⟨hl,hj⟩:=h
 obtain ⟨o1,o2,_⟩:=ok
 refine ⟨(jV _ _ _).trans hl,fun r hr x x0 hx=>?_⟩
 have xp:p.1.1 ≤ x:=hx p (bF _ (aM.mpr rfl))
 have xd:∀ q ∈ done,q.1.1 ≤ x:=fun q hq=>hx q (bW _ hq)
 have j1:=hj r hr x x0 xd
 rw [tO (by omega)]
 have all:(∀ q ∈ done++[p],inn q r→q.1.2.1 ≤ x)↔(∀ q ∈ done,inn q r→q.1.2.1 ≤ x)∧(inn p r→p.1.2.1 ≤ x):=by
  constructor
  ·exact fun z=>⟨fun q hq=>z q (bW _ hq),z p (bF _ (aM.mpr rfl))⟩
  ·rintro ⟨z1,z2⟩ q hq
   rcases cL.mp hq with k | k
   ·exact z1 q k
   ·rw [aM.mp k];exact z2
 rw [all]
 unfold cell
 by_cases c:p.2 ≤ r∧r < p.2 + p.1.2.2
 ·rw [if_pos c]
  have f1:=ft.2 r c.1 c.2
  have j2:=(hj r hr p.1.1 o1 asc).mp f1
  constructor
  ·exact fun z=>⟨by have:=j2.1;omega,fun q hq hi=>by have:=j2.2 q hq hi;omega,fun _=>z⟩
  ·exact fun z=>z.2.2 c
 ·rw [if_neg c]
  have e:((if row.getD r 0 ≤ p.1.1 then 0 else row.getD r 0) ≤ x)↔row.getD r 0 ≤ x:=by split <;> omega
  rw [e,j1]
  exact ⟨fun z=>⟨z.1,z.2,fun y=>absurd y c⟩,fun z=>⟨z.1,z.2.1⟩⟩
def apart (p q:Pl):Prop:=p.1.2.1 ≤ q.1.1∨q.1.2.1 ≤ p.1.1∨p.2 + p.1.2.2 ≤ q.2∨q.2 + q.1.2.2 ≤ p.2
def home (held:List Int) (p:Pl):Prop:=fits held p.1 p.2
theorem NZ {done:List Pl} {p:Pl} (h:Jv held done row) (ok:gok p.1) (okd:∀ q ∈ done,gok q.1∧q.1.1 ≤ p.1.1) (hd:∀ q ∈ done,q.2 + q.1.2.2 ≤ held.length) :
 fits row p.1 p.2↔home held p∧∀ q ∈ done,apart q p:=by
 obtain ⟨hl,hj⟩:=h
 have j:=fun r hr=>hj r hr p.1.1 ok.1 fun q hq=>(okd q hq).2
 unfold home fits
 rw [hl]
 constructor
 ·rintro ⟨f1,f2⟩
  refine ⟨⟨f1,fun r r1 r2=>((j r (by omega)).mp (f2 r r1 r2)).1⟩,fun q hq=>?_⟩
  unfold apart
  apply Classical.byContradiction
  intro no
  have no:¬ q.1.2.1 ≤ p.1.1∧¬ p.1.2.1 ≤ q.1.1∧¬ q.2 + q.1.2.2 ≤ p.2∧¬ p.2 + p.1.2.2 ≤ q.2:=by omega
  have s1:=ok.2.2
  have s2:=(okd q hq).1.2.2
  by_cases k:q.2 ≤ p.2
  ·have:=((j p.2 (by omega)).mp (f2 p.2 (aL _) (by omega))).2 q hq ⟨k,by omega⟩
   omega
  ·have hq2:=hd q hq
   have:=((j q.2 (by omega)).mp (f2 q.2 (by omega) (by omega))).2 q hq ⟨aL _,by omega⟩
   omega
 ·rintro ⟨⟨f1,f2⟩,ap⟩
  refine ⟨f1,fun r r1 r2=>(j r (by omega)).mpr ⟨f2 r r1 r2,fun q hq hi=>?_⟩⟩
  have a:=ap q hq
  have o:=okd q hq
  have o2:=ok.2.1
  have o3:=o.1.2.1
  unfold apart at a
  unfold inn at hi
  omega
def Sit (held:List Int) (ps:List Pl):Prop:=(∀ p ∈ ps,home held p)∧ps.Pairwise apart
theorem rQ:∀ {ps done:List Pl} {row:List Int},Jv held done row→(∀ p ∈ done,home held p)→(∀ p ∈ done++ps,gok p.1)→(done++ps).Pairwise (fun p q=>p.1.1 ≤ q.1.1) →
 ((∃ out,Run row ps out∧Jv held (done++ps) out)↔(∀ p ∈ ps,home held p)∧(∀ q ∈ done,∀ p ∈ ps,apart q p)∧ps.Pairwise apart)
 | [],done,row,j,_,_,_=>by
  constructor
  ·exact fun _=>⟨fun p hp=>(by cases hp),fun q _ p hp=>(by cases hp),.nil⟩
  ·exact fun _=>⟨row,rfl,by rw [cH];exact j⟩
 | p :: ps,done,row,j,hd,ok,asc=>by
  have okp:=ok p (bF _ aG)
  have a1:∀ q ∈ done,q.1.1 ≤ p.1.1:=fun q hq=>(pL.mp asc).2.2 q hq p aG
  have fi:=NZ j okp (fun q hq=>⟨ok q (bW _ hq),a1 q hq⟩) (fun q hq=>(hd q hq).1)
  have e:done++p :: ps=(done++[p])++ps:=by rw [iV];rfl
  constructor
  ·rintro ⟨out,⟨f,r⟩,jo⟩
   obtain ⟨f1,f2⟩:=fi.mp f
   have ih:=(rQ (ps:=ps) (done:=done++[p]) (j.step okp a1 f) (fun q hq=>by
    rcases cL.mp hq with k | k
    ·exact hd q k
    ·rw [aM.mp k];exact f1) (e ▸ ok) (e ▸ asc)).mp ⟨out,r,e ▸ jo⟩
   refine ⟨fun q hq=>?_,fun q hq x hx=>?_,dW.mpr ⟨fun x hx=>ih.2.1 p (bF _ (aM.mpr rfl)) x hx,ih.2.2⟩⟩
   ·rcases aY.mp hq with rfl | k
    ·exact f1
    ·exact ih.1 q k
   ·rcases aY.mp hx with rfl | k
    ·exact f2 q hq
    ·exact ih.2.1 q (bW _ hq) x k
  ·rintro ⟨h1,h2,h3⟩
   obtain ⟨h4,h5⟩:=dW.mp h3
   have f:=fi.mpr ⟨h1 p aG,fun q hq=>h2 q hq p aG⟩
   obtain ⟨out,r,jo⟩:=(rQ (ps:=ps) (done:=done++[p]) (j.step okp a1 f) (fun q hq=>by
    rcases cL.mp hq with k | k
    ·exact hd q k
    ·rw [aM.mp k];exact h1 p aG) (e ▸ ok) (e ▸ asc)).mpr ⟨fun q hq=>h1 q (aJ _ hq),fun q hq x hx=>by
     rcases cL.mp hq with k | k
     ·exact h2 q k x (aJ _ hx)
     ·rw [aM.mp k];exact h4 x hx,h5⟩
   exact ⟨out,⟨f,r⟩,e ▸ jo⟩
theorem Hw {ps:List Pl} (ok:∀ p ∈ ps,gok p.1) (asc:ps.Pairwise fun p q=>p.1.1 ≤ q.1.1):(∃ out,Run held ps out)↔Sit held ps:=by
 have h:=rQ (ps:=ps) (done:=[]) (Jv.nil held) (fun p hp=>by cases hp) (by rw [dF];exact ok) (by rw [dF];exact asc)
 constructor
 ·rintro ⟨out,r⟩
  have jo:Jv held ([]++ps) out:=by
   have go:∀ {ps done:List Pl} {row out:List Int},Jv held done row→(∀ p ∈ done++ps,gok p.1)→(done++ps).Pairwise (fun p q=>p.1.1 ≤ q.1.1)→Run row ps out→Jv held (done++ps) out:=by
    intro ps
    induction ps with
    | nil =>
     intro done row out j _ _ r
     have:out=row:=r
     rw [cH,this]
     exact j
    | cons p ps ih =>
     intro done row out j ok asc r
     have e:done++p :: ps=(done++[p])++ps:=by rw [iV];rfl
     have a1:∀ q ∈ done,q.1.1 ≤ p.1.1:=fun q hq=>(pL.mp asc).2.2 q hq p aG
     rw [e]
     exact ih (j.step (ok p (bF _ aG)) a1 r.1) (e ▸ ok) (e ▸ asc) r.2
   exact go (Jv.nil held) (by rw [dF];exact ok) (by rw [dF];exact asc) r
  obtain ⟨h1,_,h3⟩:=h.mp ⟨out,r,jo⟩
  exact ⟨h1,h3⟩
 ·rintro ⟨h1,h3⟩
  obtain ⟨out,r,_⟩:=h.mpr ⟨h1,(fun q hq=>by cases hq),h3⟩
  exact ⟨out,r⟩
end Sd
namespace K72
open PySem D3
noncomputable abbrev dX:List D→Option D:=Com.dX
noncomputable abbrev eH:List D→Option D:=Com.eH
noncomputable def fG:List D→Option D:=fnD 1 0 (dG (dCall u6 (aH (ju (Qy (aF 0)) (gNl 0) (j_) (dCall dX (aH (aF 0) (bC))) 1 []) (bC))))
noncomputable def d_:List D→Option D:=fnD 2 0 (dG (rH (dUn (gIs "tuple") (aF 0)) (rH (dOp gEq (dCall gH (aH (aF 0) (bC))) (aF 1)) (dCall fG (aH (aF 0) (bC))))))
noncomputable def n6:List D→Option D:=fnD 1 0 (dG (dCall d_ (aH (aF 0) (aH (dC (.int 2)) (bC)))))
noncomputable def iM:List D→Option D:=fnD 1 0 (dG (rH (dUn (gIs "list") (aF 0)) (dCall fG (aH (aF 0) (bC)))))
noncomputable def jW:List D→Option D:=fnD 1 0 (dG (rH (dCall n6 (aH (aF 0) (bC))) (vm gLe gLt gLe (dC (.int 0)) (dOp gIx (aF 0) (dC (.int 0))) (dOp gIx (aF 0) (dC (.int 1))) (dC (.int 400)))))
noncomputable abbrev eO:List D→Option D:=Com.eO
noncomputable abbrev jU:List D→Option D:=Com.jU
noncomputable abbrev mq:List D→Option D:=Com.mq
noncomputable def kJ:List D→Option D:=fnD 1 0 (cA (sIf (D3.tOr (D3.jd (bU (dUn (gIs "tuple") (aF 0)))) (bU (dOp gNe (dCall gH (aH (aF 0) (bC))) (dC (.int 3))))) (dG (dC (.bool false))) (fK))
 (dG (rH (dCall jW (aH (dCall eO (aH (aF 0) (bC))) (bC))) (dCall eH (aH (dOp gIx (aF 0) (dC (.int 2))) (aH (dC (.int 1)) (aH (dC (.int 6)) (bC))))))))
noncomputable def cV:List D→Option D:=fnD 1 2 (mR (BR (aF 0)) (gTn 2 (cP (gNl 1) (cP (gNl 2) (jE)))) (sIf (D3.jd (bU (dCall kJ (aH (aF 2) (bC))))) ((fun _=>none)) (fK)))
noncomputable def gQ:List D→Option D:=fnD 1 0 (dG (XS.Ak (dCall wj (aH (dCall gH (aH (aF 0) (bC))) (bC))) XS.dK0 [0]))
noncomputable def jJ:List D→Option D:=fnD 2 1 (cA (cj 2 (dOp xP (dCall gH (aH (aF 0) (bC))) (dOp gIx (aF 1) (dC (.int 2)))))
 (dG (ju (nQ (aH (dOp gw (aF 2) (dC (.int 1))) (bC))) (gNl 0) (bU (dOp gLe (dCall Cv (aH (Je (aF 2) (lH (aF 0)) (lH (dOp gw (aF 0) (dOp gIx (aF 1) (dC (.int 2)))))) (bC))) (dOp gIx (aF 1) (dC (.int 0))))) (mQ (aF 0)) 1 [1,0])))
noncomputable abbrev eN:List D→Option D:=Com.eN
noncomputable def gG:List D→Option D:=fnD 3 1 (cA (cj 3 (dOp gw (aF 2) (dOp gIx (aF 1) (dC (.int 2)))))
 (dG (dUn uR (ju (Fe (aF 0)) (gTn 2 (cP (gNl 0) (cP (gNl 1) (jE)))) (j_) (dCall eN (aH (aF 1) (aH (aF 2) (aH (kh gLe gLt (aF 3) (aF 0) (aF 4)) (bC))))) 2 [1,2,3]))))
noncomputable def eE:List D→Option D:=fnD 2 3 (cA (cj 2 (dC (.dict [])))
 (cA (mR (rJ (aF 0)) (gNl 3) (mR (rJ (dCall jJ (aH (aF 3) (aH (aF 1) (bC))))) (gNl 4) (ur 2 (dCall gG (aH (aF 3) (aH (aF 1) (aH (aF 4) (bC))))) (dTup (aH (aF 3) (aH (aF 4) (bC)))))))
 (dG (aF 2))))
noncomputable def jj:List D→Option D:=fnL 2 4 (cA (cj 2 (mO (bC)))
 (cA (cj 3 (mO (aH (dUn uR (aF 0)) (bC))))
 (cA (mR (rJ (dCall gQ (aH (aF 1) (bC)))) (gNl 4) (cA (cj 5 (dCall eE (aH (aF 3) (aH (dOp gIx (aF 1) (aF 4)) (bC)))))
 (cA (uZ 2 (aF 5))
 (cA (sIf (bU (dOp gGt (dCall XJ.uU (aH (aF 5) (bC))) (dC (.int 400)))) ((fun _=>none)) (fK))
 (cA (sIf (bU (dOp gEq (dCall XJ.uU (aH (aF 5) (bC))) (dC (.int 0)))) (sY (aF 2)) (fK))
 (cj 3 (dCall XJ.oW (aH (aF 5) (bC)))))))))
 (sY (aF 2)))))
noncomputable def jK:List D→Option D:=fnD 2 4 (cA (cj 2 (dOp Qa (mO (aH (dC (.none)) (bC))) (dCall gH (aH (aF 1) (bC)))))
 (cA (cj 3 (dC (.none)))
 (cA (mR (Qd (dOp uw (dCall gQ (aH (aF 1) (bC))) (aF 0))) (gTn 2 (cP (gNl 4) (cP (gNl 5) (jE)))) (cA (sIf (bU (dUn Iz (aF 3))) (cj 3 (dOp gIx (dCall XJ.oW (aH (aF 5) (bC))) (dC (.int 0)))) (fK))
 (cA (Kr 2 (aF 4) (dOp gIx (dOp rO (aF 5) (aF 3)) (dC (.int 1))))
 (cj 3 (dOp gIx (dOp rO (aF 5) (aF 3)) (dC (.int 0)))))))
 (dG (En (aF 2))))))
noncomputable def dD:List D→Option D:=fnD 2 1 (cA (cj 2 (dCall jj (aH (aF 0) (aH (aF 1) (bC)))))
 (cA (sIf (D3.Ec (bU (dOp gGt (dCall gH (aH (aF 2) (bC))) (dC (.int 0)))) (bU (dOp gEq (dCall XJ.uU (aH (dOp gIx (aF 2) (dUn Er (dC (.int 1)))) (bC))) (dC (.int 0))))) (dG (dTup (aH (dC (.str "none")) (aH (ju (rJ (aF 2)) (gNl 0) (j_) (dCall XJ.oW (aH (aF 0) (bC))) 1 []) (bC))))) (fK))
 (dG (dTup (aH (dC (.str "laid")) (aH (dCall jK (aH (aF 2) (aH (aF 1) (bC)))) (bC)))))))
noncomputable def uE:List D→Option D:=fnD 2 0 (cA (yx (dCall cV (aH (aF 1) (bC))))
 (dG (dCall dD (aH (aF 0) (aH (aF 1) (bC))))))
noncomputable abbrev g_:List D→Option D:=Com.g_
noncomputable abbrev cG:List D→Option D:=Com.cG
noncomputable abbrev h_:List D→Option D:=Com.h_
noncomputable def mF:List D→Option D:=fnD 3 2 (cA (yx (dCall cV (aH (aF 1) (bC))))
 (cA (sIf (D3.tOr (D3.jd (bU (dCall iM (aH (aF 2) (bC))))) (bU (dOp gNe (dCall gH (aH (aF 2) (bC))) (dCall gH (aH (aF 1) (bC)))))) (dG (dC (.bool false))) (fK))
 (cA (mR (BR (aF 1)) (gTn 2 (cP (gNl 3) (cP (gNl 4) (jE)))) (sIf (D3.tOr (D3.jd (bU (dCall g_ (aH (aF 0) (aH (aF 4) (aH (dOp gIx (aF 2) (aF 3)) (bC))))))) (D3.jd (bU (dCall h_ (aH (aF 1) (aH (aF 2) (aH (aF 3) (bC)))))))) (dG (dC (.bool false))) (fK)))
 (dG (dC (.bool true))))))
noncomputable def gM:List D→Option D:=fnD 2 0 (dG (rH (dUn (gIs "list") (aF 0)) (dCall u6 (aH (ju (rJ (aF 0)) (gNl 0) (j_) (dCall d_ (aH (aF 0) (aH (aF 1) (bC)))) 1 [1]) (bC)))))
noncomputable def kO:List D→Option D:=fnD 2 1 (cA (cj 2 (dCall wC (aH (ju (rJ (aF 0)) (gNl 0) (j_) (mQ (dTup (aH (aF 0) (aH (dC (.bool true)) (bC))))) 1 []) (bC))))
 (dG (dCall u6 (aH (ju (Lr (aF 1)) (gNl 0) (j_) (dOp Cu (aF 0) (aF 1)) 1 [2]) (bC)))))
noncomputable def iR:List D→Option D:=fnD 3 3 (cA (yx (dCall cV (aH (aF 1) (bC))))
 (cA (sIf (D3.tOr (D3.jd (bU (dUn (gIs "list") (aF 2)))) (D3.jd (bU (kh gLe gLe (dC (.int 1)) (dCall gH (aH (aF 2) (bC))) (dCall gH (aH (aF 1) (bC))))))) (dG (dC (.bool false))) (fK))
 (cA (sIf (D3.tOr (D3.jd (bU (dCall u6 (aH (ju (rJ (aF 2)) (gNl 0) (j_) (dCall gM (aH (aF 0) (aH (dCall gH (aH (aF 1) (bC))) (bC)))) 1 [0]) (bC))))) (bU (dOp gGt (dCall gH (aH (dOp gIx (aF 2) (dUn Er (dC (.int 1)))) (bC))) (dC (.int 0))))) (dG (dC (.bool false))) (fK))
 (cA (cj 3 (mO (aH (dUn uR (aF 0)) (bC))))
 (cA (mR (Qc (dCall gQ (aH (aF 1) (bC))) (aF 2)) (gTn 2 (cP (gNl 4) (cP (gNl 5) (jE)))) (cA (sIf (D3.jd (bU (dCall kO (aH (aF 5) (aH (dCall eE (aH (aF 3) (aH (dOp gIx (aF 1) (aF 4)) (bC)))) (bC)))))) (dG (dC (.bool false))) (fK))
 (cj 3 (aF 5))))
 (dG (dC (.bool true))))))))
noncomputable abbrev gZ:List D→Option D:=Com.gZ
noncomputable abbrev bT:List D→Option D:=Com.bT
noncomputable abbrev iD:List D→Option D:=Com.iD
noncomputable abbrev dU:List D→Option D:=Com.dU
noncomputable abbrev fX:List D→Option D:=Com.fX
noncomputable abbrev jg:List D→Option D:=Com.jg
noncomputable abbrev gJ:List D→Option D:=Com.gJ
noncomputable def jk:List D→Option D:=fnL 2 8 (cA (cj 2 (mO (bC)))
 (cA (cj 3 (dC (.int 1)))
 (cA (mR (rJ (aF 1)) (gNl 4) (cj 3 (dOp oH (aF 3) (dCall gH (aH (aF 0) (bC))))))
 (cA (mR (nQ (aH (aF 3) (bC))) (gNl 5) (cA (cj 6 (mO (bC)))
 (cA (cj 7 (aF 5))
 (cA (mR (rJ (aF 1)) (gNl 4) (cA (uZ 6 (dOp oJ (aF 7) (dCall gH (aH (aF 0) (bC)))))
 (cj 7 (dOp uY (aF 7) (dCall gH (aH (aF 0) (bC)))))))
 (cA (cj 8 (dCall fX (aH (aF 0) (aH (aF 1) (aH (aF 6) (bC))))))
 (cA (cj 9 (dCall mF (aH (aF 0) (aH (aF 1) (aH (aF 6) (bC))))))
 (cA (sIf (D3.tOr (D3.jd (bU (dUn (gIs "bool") (aF 9)))) (bU (dOp gNe (aF 9) (aF 8)))) (sY (dC (.none))) (fK))
 (sIf (bU (aF 8)) (G6 2 6) (fK)))))))))
 (sY (aF 2))))))
noncomputable def Hy:List D→Option D:=fnD 1 5 (cA (cj 1 (dOp gw (dC (.int 1)) (dCall bT (aH (aF 0) (aH (dC (.int 0)) (aH (dC (.int 0)) (aH (dC (.int 3)) (bC))))))))
 (cA (cj 2 (dCall jg (aH (aF 0) (aH (aF 1) (bC)))))
 (cA (cj 3 (dCall gJ (aH (aF 0) (aH (aF 1) (aH (dCall bT (aH (aF 0) (aH (dC (.int 0)) (aH (dC (.int 1)) (aH (dC (.int 5)) (bC)))))) (bC))))))
 (cA (cj 4 (dCall jk (aH (aF 2) (aH (aF 3) (bC)))))
 (cA (cj 5 (dCall uE (aH (dUn yD (aF 2)) (aH (dUn yD (aF 3)) (bC)))))
 (cA (sIf (D3.tOr (bU (dUn Iz (aF 4))) (D3.tOr (D3.jd (bU (dUn (gIs "tuple") (aF 5)))) (bU (dOp gNe (dCall gH (aH (aF 5) (bC))) (dC (.int 2)))))) (dG (dC (.bool false))) (fK))
 (cA (sIf (bU (dOp gNe (aF 4) (mO (bC)))) (dG (rH (dOp gEq (dOp gIx (aF 5) (dC (.int 0))) (dC (.str "laid"))) (rH (dCall fX (aH (aF 2) (aH (aF 3) (aH (dOp gIx (aF 5) (dC (.int 1))) (bC))))) (dUn yE (dCall iR (aH (aF 2) (aH (aF 3) (aH (mO (aH (mO (bC)) (bC))) (bC))))))))) (fK))
 (cA (sIf (D3.tOr (bU (dOp gNe (dOp gIx (aF 5) (dC (.int 0))) (dC (.str "none")))) (D3.tOr (D3.jd (bU (dUn (gIs "list") (dOp gIx (aF 5) (dC (.int 1)))))) (bU (dUn yE (dCall iR (aH (aF 2) (aH (aF 3) (aH (dOp gIx (aF 5) (dC (.int 1))) (bC))))))))) (dG (dC (.bool false))) (fK))
 (dG (rH (dOp gEq (ju (rJ (dSl (dOp gIx (aF 5) (dC (.int 1))) Ku (lH (dUn Er (dC (.int 1)))))) (gNl 0) (bU (dOp gEq (aF 0) (mO (bC)))) (mQ (aF 0)) 1 []) (mO (bC))) (dOp gEq (dOp gIx (dOp gIx (aF 5) (dC (.int 1))) (dUn Er (dC (.int 1)))) (mO (bC)))))))))))))
end K72
variable {g:Com.Wi} {gs:List Com.Wi} {hs:List Int} {rows:List (List Int)} {ts:List Nat}
namespace K72
open PySem D3 My Com
def isI:D→Bool
 | .int _=>true
 | _=>false
theorem wh (d:D):Com.dX [d]=some (.bool (isI d)):=by
 unfold Com.dX
 cases d <;> rfl
def two:D→Bool
 | .tuple [x,y]=>isI x && isI y
 | _=>false
theorem all2 (x y:D):fG [.tuple [x,y]]=some (.bool (isI x && isI y)):=by
 have C:=u_ (g:=(gNl 0)) (c:=(D3.j_)) (e:=(dCall dX (aH (aF 0) (bC)))) (δ:=[none]) (fun d:D=>d) (fun d=>.bool (isI d)) [x,y] (fun d _=>⟨[some (.d d)],rfl,rfl,by simp only [EV,reduceIte,ao,aq,aj,ak,au,aA,aB,wh]⟩)
 have C:iY (gNl 0) (D3.j_) (dCall dX (aH (aF 0) (bC))) [none] [x,y]=some [.bool (isI x),.bool (isI y)]:=C
 have ca:∀ a:Option U,iK 1 [] [a]=[none]:=fun _=>rfl
 have ga:u6 [.list [.bool (isI x),.bool (isI y)]]=some (.bool (isI x && isI y)):=by cases isI x <;> cases isI y <;> rfl
 unfold fG
 simp only [EV,reduceIte,ao,aq,aj,ak,au,aA,aB,Xv,U3,show 2 ≤ 100000 by decide,ca,C,ga]
theorem len2 (h:l.length=2):∃ x y,l=[x,y]:=by
 match l,h with
 | [x,y],_=>exact ⟨x,y,rfl⟩
theorem two_no (h:¬ l.length=2):two (.tuple l)=false:=by
 match l,h with
 | [],_=>rfl
 | [_],_=>rfl
 | [_,_],h=>exact absurd rfl h
 | _ :: _ :: _ :: _,_=>rfl
theorem isTup:D3.isT "tuple" "tuple" = true:=by decide
theorem wU (d:D):n6 [d]=some (.bool (two d)):=by
 have T:d_ [d,.int 2]=some (.bool (two d)):=by
  unfold d_
  cases d with
  | tuple l =>
   by_cases h:l.length=2
   ·obtain ⟨x,y,rfl⟩:=len2 h
    simp only [EV,reduceIte,ao,aq,aj,ak,au,aA,aB,tyD,isTup,show gH [PyData.tuple [x,y]]=some (.int 2) from rfl,show gEq (.int 2) (.int 2)=some (.bool true) from rfl,all2]
    rfl
   ·have gl:gH [PyData.tuple l]=some (.int (l.length:Int)):=rfl
    rw [two_no h]
    simp only [EV,reduceIte,ao,aq,aj,ak,au,aA,aB,tyD,isTup,gl,dFa (show ¬ (l.length:Int)=2 by omega)]
  | _=>rfl
 unfold n6
 simp only [EV,reduceIte,ao,aq,aj,ak,au,aA,aB,T]
theorem tw (a b:Int):two (.tuple [.int a,.int b])=true:=rfl
def stB (a b:Int):Bool:=decide (0 ≤ a) && (decide (a < b) && decide (b ≤ 400))
theorem Di (a b:Int):jW [.tuple [.int a,.int b]]=some (.bool (stB a b)):=by
 unfold jW stB
 by_cases c:0 ≤ a
 ·by_cases c2:a < b
  ·simp only [EV,reduceIte,ao,aq,aj,ak,au,aA,aB,wU,tw,at0,at1,dTr c,dTr c2]
   rfl
  ·simp only [EV,reduceIte,ao,aq,aj,ak,au,aA,aB,wU,tw,at0,at1,dTr c,dFa c2]
   rfl
 ·simp only [EV,reduceIte,ao,aq,aj,ak,au,aA,aB,wU,tw,at0,at1,dFa c]
  rfl
structure grOk (g:Wi):Prop where
 f:0 ≤ g.1
 b:g.1 < g.2.1
 n:g.2.1 ≤ 400
 s:1 ≤ g.2.2
 t:g.2.2 ≤ 6
theorem oY (g:Wi):Com.eO [wiD g]=some (.tuple [.int g.1,.int g.2.1]):=by
 unfold Com.eO wiD
 simp only [EV,reduceIte,ao,aq,aj,ak,au,aA,aB,at0,at1,sz (show 2 ≤ 1000000 by decide)]
theorem JB (h:grOk g):kJ [wiD g]=some (.bool true):=by
 have S:=Di g.1 g.2.1
 rw [show stB g.1 g.2.1=true by unfold stB;rw [dTr h.f,dTr h.b,dTr h.n];rfl] at S
 have W:Com.eH [.int g.2.2,.int 1,.int 6]=some (.bool true):=by
  unfold Com.eH
  simp only [EV,reduceIte,ao,aq,aj,ak,au,aA,aB,wh,isI,dTr h.s,dTr h.t]
 have N:=oY g
 have i2:gIx (wiD g) (.int 2)=some (.int g.2.2):=rfl
 unfold kJ
 simp only [EV,reduceIte,ao,aq,aj,ak,au,aA,aB,show D3.isT "tuple" (tyD (wiD g))=true from rfl,show gH [wiD g]=some (.int 3) from rfl,show gNe (.int 3) (.int 3)=some (.bool false) from rfl,iQ,N,S,i2,W]
theorem mG (h:∀ g ∈ gs,grOk g):cV [.list (gs.map wiD)]=some .none:=by
 unfold cV
 simp only [EV,reduceIte,ao,aq,aj,ak,au,aA,aB]
 obtain ⟨δ',e,y0,y1,rfl⟩:=lZ (g:=(gTn 2 (cP (gNl 1) (cP (gNl 2) (jE))))) (b:=(sIf (D3.jd (bU (dCall kJ (aH (aF 2) (bC))))) ((fun _=>none)) (fK))) (fun _ δ=>∃ y1 y2:Option U,δ=[some (.d (.list (gs.map wiD))),y1,y2]) (jQ (gs.map wiD)) [some (.d (.list (gs.map wiD))),none,none] ⟨none,none,rfl⟩
  (by
   rintro i d δ hd ⟨y1,y2,rfl⟩
   unfold jQ at hd
   rw [d7,aO] at hd
   cases hw:gs[i]? with
   | none=>rw [hw] at hd;cases hd
   | some w =>
    rw [hw] at hd
    cases hd
    refine ⟨_,_,rfl,.inl ?_,some (.d (.int (i:Int))),some (.d (wiD w)),rfl⟩
    simp only [EV,reduceIte,ao,aq,aj,ak,au,aA,aB,JB (h w (fj hw))])
 rw [e]
 simp only [EV,reduceIte,ao,aq,aj,ak,au,aA,aB]
def meB (g k:Wi):Bool:=decide ((if k.1 > g.1 then k.1 else g.1) < (if k.2.1 < g.2.1 then k.2.1 else g.2.1))
theorem uF (g k:Wi):Com.mq [.tuple [.int g.1,.int g.2.1],.tuple [.int k.1,.int k.2.1]]=some (.bool (meB g k)):=by
 unfold meB
 by_cases h:(if k.1 > g.1 then k.1 else g.1) ≥ (if k.2.1 < g.2.1 then k.2.1 else g.2.1)
 ·have S:Com.jU [.tuple [.int g.1,.int g.2.1],.tuple [.int k.1,.int k.2.1]]=some .none:=by
   unfold Com.jU
   simp only [EV,reduceIte,ao,aq,aj,ak,au,aA,aB,at0,at1,dTr h]
  unfold Com.mq
  simp only [EV,reduceIte,ao,aq,aj,ak,au,aA,aB,S]
  rw [dFa (by omega)]
 ·have S:Com.jU [.tuple [.int g.1,.int g.2.1],.tuple [.int k.1,.int k.2.1]]=some (.tuple [.int (if k.1 > g.1 then k.1 else g.1),.int (if k.2.1 < g.2.1 then k.2.1 else g.2.1)]):=by
   unfold Com.jU
   simp only [EV,reduceIte,ao,aq,aj,ak,au,aA,aB,at0,at1,dFa h,sz (show 2 ≤ 1000000 by decide)]
  unfold Com.mq
  simp only [EV,reduceIte,ao,aq,aj,ak,au,aA,aB,S]
  rw [dTr (by omega)]
def coB (g:Wi) (p:Int) (k:Wi) (q:Int):Bool:=decide ((if q > p then q else p) < (if q + k.2.2 < p + g.2.2 then q + k.2.2 else p + g.2.2))
theorem wV (g k:Wi) (p q:Int):Com.cG [wiD g,.int p,wiD k,.int q]=some (.bool (coB g p k q)):=by
 have i1:gIx (wiD g) (.int 2)=some (.int g.2.2):=rfl
 have i2:gIx (wiD k) (.int 2)=some (.int k.2.2):=rfl
 unfold Com.cG
 simp only [EV,reduceIte,ao,aq,aj,ak,au,aA,aB,i1,i2]
 rfl
def apB (g:Wi) (p:Int) (k:Wi) (q:Int):Bool:=(decide (g.2.1 ≤ k.1) || decide (k.2.1 ≤ g.1)) || (decide (p + g.2.2 ≤ q) || decide (q + k.2.2 ≤ p))
theorem JC (g k:Wi) (p q:Int):Com.dU [wiD g,.int p,wiD k,.int q]=some (.bool (apB g p k q)):=by
 have i0:gIx (wiD g) (.int 0)=some (.int g.1):=rfl
 have i1:gIx (wiD g) (.int 1)=some (.int g.2.1):=rfl
 have i2:gIx (wiD g) (.int 2)=some (.int g.2.2):=rfl
 have j0:gIx (wiD k) (.int 0)=some (.int k.1):=rfl
 have j1:gIx (wiD k) (.int 1)=some (.int k.2.1):=rfl
 have j2:gIx (wiD k) (.int 2)=some (.int k.2.2):=rfl
 unfold Com.dU
 by_cases c1:g.2.1 ≤ k.1
 ·have ap:apB g p k q=true:=by unfold apB;rw [dTr c1];rfl
  rw [ap]
  simp only [EV,reduceIte,ao,aq,aj,ak,au,aA,aB,i0,i1,i2,j0,j1,j2,dTr c1]
 ·by_cases c2:k.2.1 ≤ g.1
  ·have ap:apB g p k q=true:=by unfold apB;rw [dTr c2];simp
   rw [ap]
   simp only [EV,reduceIte,ao,aq,aj,ak,au,aA,aB,i0,i1,i2,j0,j1,j2,dFa c1,dTr c2]
  ·by_cases c3:p + g.2.2 ≤ q
   ·have ap:apB g p k q=true:=by unfold apB;rw [dTr c3];simp
    rw [ap]
    simp only [EV,reduceIte,ao,aq,aj,ak,au,aA,aB,i0,i1,i2,j0,j1,j2,dFa c1,dFa c2,dTr c3]
   ·have ap:apB g p k q=decide (q + k.2.2 ≤ p):=by unfold apB;rw [dFa c1,dFa c2,dFa c3];rfl
    rw [ap]
    simp only [EV,reduceIte,ao,aq,aj,ak,au,aA,aB,i0,i1,i2,j0,j1,j2,dFa c1,dFa c2,dFa c3]
theorem uG {k:Wi} {p q:Int} (hg:grOk g) (hk:grOk k):apB k q g p = !(meB g k && coB g p k q):=by
 have a1:=hg.b;have a2:=hk.b;have a3:=hg.s;have a4:=hk.s
 unfold apB meB coB
 rw [Bool.eq_iff_iff]
 simp only [lu,Bool.not_eq_true',pB,decide_eq_true_eq,decide_eq_false_iff_not]
 constructor
 ·intro h
  by_cases z:(if k.1 > g.1 then k.1 else g.1) < (if k.2.1 < g.2.1 then k.2.1 else g.2.1)
  ·right
   intro y
   split at z <;> split at z <;> split at y <;> split at y <;> omega
  ·left;exact z
 ·intro h
  rcases h with h | h
  ·left
   split at h <;> split at h <;> omega
  ·right
   split at h <;> split at h <;> omega
section
variable {gs:List Wi} {ps:List Int}
def gat (gs:List Wi) (i:Nat):Wi:=gs.getD i (0,0,0)
def beB (gs:List Wi) (ps:List Int) (i:Nat):Bool:=(aZ i).all fun j=>!(meB (gat gs i) (gat gs j) && coB (gat gs i) (ps.getD i 0) (gat gs j) (ps.getD j 0))
noncomputable abbrev Wo:=sIf (bU (dCall mq (aH (dCall eO (aH (dOp gIx (aF 0) (aF 2)) (bC))) (aH (dCall eO (aH (dOp gIx (aF 0) (aF 3)) (bC))) (bC))))) (sIf (bU (dCall cG (aH (dOp gIx (aF 0) (aF 2)) (aH (dOp gIx (aF 1) (aF 2)) (aH (dOp gIx (aF 0) (aF 3)) (aH (dOp gIx (aF 1) (aF 3)) (bC))))))) (dG (dC (.bool false))) (fK)) (fK)
theorem pY (hi:i < gs.length) (hj:j < i) (pl:ps.length=gs.length):(Wo) [some (.d (.list (gs.map wiD))),some (.d (.list (ps.map .int))),some (.d (.int (i:Int))),some (.d (.int (j:Int)))] =
 if (meB (gat gs i) (gat gs j) && coB (gat gs i) (ps.getD i 0) (gat gs j) (ps.getD j 0))=false then some (.nx [some (.d (.list (gs.map wiD))),some (.d (.list (ps.map .int))),some (.d (.int (i:Int))),some (.d (.int (j:Int)))]) else some (.rt (.bool false)):=by
 have e1:=gW wiD (l:=gs) (0,0,0) (i:=(i:Int)) (by omega) (by omega)
 have e2:=gW wiD (l:=gs) (0,0,0) (i:=(j:Int)) (by omega) (by omega)
 have e3:=gW PyData.int (l:=ps) 0 (i:=(i:Int)) (by omega) (by omega)
 have e4:=gW PyData.int (l:=ps) 0 (i:=(j:Int)) (by omega) (by omega)
 rw [cO] at e1 e2 e3 e4
 have e1:pAt (gs.map wiD) (i:Int)=some (wiD (gat gs i)):=e1
 have e2:pAt (gs.map wiD) (j:Int)=some (wiD (gat gs j)):=e2
 cases m:meB (gat gs i) (gat gs j) with
 | false =>
  rw [pH,if_pos rfl]
  simp only [EV,reduceIte,ao,aq,aj,ak,au,aA,aB,e1,e2,oY,uF,m]
 | true =>
  rw [nj]
  cases c:coB (gat gs i) (ps.getD i 0) (gat gs j) (ps.getD j 0) with
  | false =>
   rw [if_pos rfl]
   simp only [EV,reduceIte,ao,aq,aj,ak,au,aA,aB,e1,e2,e3,e4,oY,uF,m,wV,c]
  | true =>
   rw [if_neg (by decide)]
   simp only [EV,reduceIte,ao,aq,aj,ak,au,aA,aB,e1,e2,e3,e4,oY,uF,m,wV,c]
theorem Fz (hi:i < gs.length) (pl:ps.length=gs.length) (hl:gs.length ≤ 1000):Com.h_ [.list (gs.map wiD),.list (ps.map .int),.int (i:Int)]=some (.bool (beB gs ps i)):=by
 have rr:qY (some [.int (i:Int)])=some (eX 0 (i:Int)):=Dh (by omega) (by omega)
 have rl:(eX 0 (i:Int)).length=i:=by unfold eX;rw [aC,bH];omega
 unfold Com.h_
 rcases nZ (fun j=>meB (gat gs i) (gat gs j) && coB (gat gs i) (ps.getD i 0) (gat gs j) (ps.getD j 0)) i with ⟨m,hm,hp,hn⟩ | hn
 ·have bad:beB gs ps i=false:=by
   cases q:beB gs ps i with
   | false=>rfl
   | true =>
    have:=cB.mp q m (aQ.mpr hm)
    rw [hp] at this
    cases this
  have e:=pX (g:=(gNl 3)) (b:=Wo) (fun _ δ=>∃ y,δ=[some (.d (.list (gs.map wiD))),some (.d (.list (ps.map .int))),some (.d (.int (i:Int))),y]) (v:=.bool false) m (eX 0 (i:Int))
   [some (.d (.list (gs.map wiD))),some (.d (.list (ps.map .int))),some (.d (.int (i:Int))),none] ⟨none,rfl⟩ (by rw [rl];exact hm)
   (by
    rintro j d δ hj hd ⟨y,rfl⟩
    obtain ⟨hk,rfl⟩:=iG hd
    refine ⟨_,_,rfl,?_,some (.d (.int (j:Int))),rfl⟩
    refine (pY hi (by omega) pl).trans ?_
    rw [if_pos (hn j hj)])
   (by
    rintro d δ hd ⟨y,rfl⟩
    obtain ⟨hk,rfl⟩:=iG hd
    refine ⟨_,rfl,?_⟩
    refine (pY hi hm pl).trans ?_
    rw [if_neg (by simpa using hp)])
  simp only [EV,reduceIte,ao,aq,aj,ak,au,aA,aB,rr,e]
  rw [bad]
 ·have gd:beB gs ps i=true:=by
   unfold beB
   rw [cB]
   intro j hj
   have:=hn j (aQ.mp hj)
   rw [this]
   rfl
  obtain ⟨δ',e,y,rfl⟩:=lZ (g:=(gNl 3)) (b:=Wo) (fun _ δ=>∃ y,δ=[some (.d (.list (gs.map wiD))),some (.d (.list (ps.map .int))),some (.d (.int (i:Int))),y]) (eX 0 (i:Int))
   [some (.d (.list (gs.map wiD))),some (.d (.list (ps.map .int))),some (.d (.int (i:Int))),none] ⟨none,rfl⟩
   (by
    rintro j d δ hd ⟨y,rfl⟩
    obtain ⟨hk,rfl⟩:=iG hd
    refine ⟨_,_,rfl,.inl ?_,some (.d (.int (j:Int))),rfl⟩
    refine (pY hi (by omega) pl).trans ?_
    rw [if_pos (hn j (by omega))])
  simp only [EV,reduceIte,ao,aq,aj,ak,au,aA,aB,rr,e]
  rw [gd]
end
theorem Wq {a b:Int} (h0:0 ≤ a) (h1:a ≤ b) (h2:b ≤ l.length):cutD l (some a) (some b)=(l.drop a.toNat).take (b - a).toNat:=by
 unfold cutD
 have e1:pSx l.length 0 (some a)=a.toNat:=by
  show (if a < 0 then _ else _)=_
  rw [if_neg (by omega)]
  omega
 have e2:pSx l.length l.length (some b)=b.toNat:=by
  show (if b < 0 then _ else _)=_
  rw [if_neg (by omega)]
  omega
 rw [e1,e2,show b.toNat - a.toNat=(b - a).toNat by omega]
def mx:List Int→Int
 | []=>0
 | x :: r=>mxI x r
theorem Ar {l:List Int} (h:l ≠ []):yC [.list (l.map .int)]=some (.int (mx l)):=by
 cases l with
 | nil=>exact absurd rfl h
 | cons x r =>
  show (match dg ((x :: r).map .int) with | some (i :: r)=>some (PyData.int (mxI i r)) | _=>none)=_
  rw [qj]
  rfl
def sli (hs:List Int) (p s:Int):List Int:=(hs.drop p.toNat).take s.toNat
def roB (hs:List Int) (g:Wi) (p:Int):Bool:=(decide (0 ≤ p) && decide (p ≤ (hs.length:Int) - g.2.2)) && decide (mx (sli hs p g.2.2) ≤ g.1)
theorem wW {p s:Int} (h0:0 ≤ p) (h1:p ≤ (hs.length:Int) - s) (h2:1 ≤ s):sli hs p s ≠ []:=by
 intro z
 have:=congrArg kZ z
 unfold sli at this
 rw [fY,nD] at this
 simp at this
 omega
theorem vG {p s:Int} (h0:0 ≤ p) (h1:p ≤ (hs.length:Int) - s) (h2:1 ≤ s):cutD (hs.map PyData.int) (some p) (some (p + s))=(sli hs p s).map .int:=by
 rw [Wq h0 (by omega) (by rw [aC];omega),show p + s - p=s by omega]
 unfold sli
 rw [List.map_take,List.map_drop]
theorem JD (hg:grOk g) (p:Int):Com.g_ [.list (hs.map .int),wiD g,.int p]=some (.bool (roB hs g p)):=by
 have i0:gIx (wiD g) (.int 0)=some (.int g.1):=rfl
 have i2:gIx (wiD g) (.int 2)=some (.int g.2.2):=rfl
 unfold Com.g_
 by_cases c1:0 ≤ p
 ·by_cases c2:p ≤ (hs.length:Int) - g.2.2
  ·have r:roB hs g p=decide (mx (sli hs p g.2.2) ≤ g.1):=by unfold roB;rw [dTr c1,dTr c2];rfl
   rw [r]
   simp only [EV,reduceIte,ao,aq,aj,ak,au,aA,aB,i0,i2,lMp,dTr c1,dTr c2,vG c1 c2 hg.s,Ar (wW c1 c2 hg.s)]
  ·have r:roB hs g p=false:=by unfold roB;rw [dTr c1,dFa c2];rfl
   rw [r]
   simp only [EV,reduceIte,ao,aq,aj,ak,au,aA,aB,i0,i2,lMp,dTr c1,dFa c2]
 ·have r:roB hs g p=false:=by unfold roB;rw [dFa c1];rfl
  rw [r]
  simp only [EV,reduceIte,ao,aq,aj,ak,au,aA,aB,i0,i2,lMp,dFa c1]
section
variable {hs:List Int} {gs:List Wi} {ps:List Int}
def N5 (hs:List Int) (gs:List Wi) (ps:List Int) (i:Nat):Bool:=roB hs (gat gs i) (ps.getD i 0) && beB gs ps i
def laB (hs:List Int) (gs:List Wi) (ps:List Int):Bool:=decide (ps.length=gs.length) && (aZ gs.length).all (N5 hs gs ps)
theorem oZ (h:∀ g ∈ gs,grOk g) (hi:i < gs.length):grOk (gat gs i):=by
 unfold gat
 rw [aK,aD hi]
 exact h _ (cY hi)
theorem lE {cs:List Int} (hl:cs.length ≤ 1000):iM [.list (cs.map .int)]=some (.bool true):=by
 have C1:=u_ (g:=(gNl 0)) (c:=(D3.j_)) (e:=(dCall dX (aH (aF 0) (bC)))) (δ:=[none]) PyData.int (fun _=>.bool true) cs (fun p h=>⟨[some (.d (.int p))],rfl,rfl,by simp only [EV,reduceIte,ao,aq,aj,ak,au,aA,aB,wh];rfl⟩)
 have ca:∀ a:Option U,iK 1 [] [a]=[none]:=fun _=>rfl
 have ga:u6 [.list (cs.map fun _=>PyData.bool true)]=some (.bool true):=by
  have:gA (cs.map fun _=>PyData.bool true)=some (cs.map fun _=>true):=by
   induction cs with
   | nil=>rfl
   | cons a r ih=>rw [aV,gA,ih (by simp at hl;omega) (u_ (g:=(gNl 0)) (c:=(D3.j_)) (e:=(dCall dX (aH (aF 0) (bC)))) (δ:=[none]) PyData.int (fun _=>.bool true) r (fun p h=>⟨[some (.d (.int p))],rfl,rfl,by simp only [EV,reduceIte,ao,aq,aj,ak,au,aA,aB,wh];rfl⟩))];rfl
  show (gA _).map _=_
  rw [this]
  simp
 have W:fG [.list (cs.map .int)]=some (.bool true):=by
  unfold fG
  simp only [EV,reduceIte,ao,aq,aj,ak,au,aA,aB,Xv,U0,lMp,show cs.length ≤ 100000 by omega,ca,C1,ga]
 unfold iM
 simp only [EV,reduceIte,ao,aq,aj,ak,au,aA,aB,show D3.isT "list" (tyD (.list (cs.map .int)))=true from rfl,W]
noncomputable abbrev Wr:=sIf (D3.tOr (D3.jd (bU (dCall g_ (aH (aF 0) (aH (aF 4) (aH (dOp gIx (aF 2) (aF 3)) (bC))))))) (D3.jd (bU (dCall h_ (aH (aF 1) (aH (aF 2) (aH (aF 3) (bC)))))))) (dG (dC (.bool false))) (fK)
theorem uH (h:∀ g ∈ gs,grOk g) (hl:gs.length ≤ 1000) (pl:ps.length=gs.length) {i:Nat} (hi:i < gs.length):(Wr) [some (.d (.list (hs.map .int))),some (.d (.list (gs.map wiD))),some (.d (.list (ps.map .int))),some (.d (.int (i:Int))),some (.d (wiD (gat gs i)))] =
 if N5 hs gs ps i=true then some (.nx [some (.d (.list (hs.map .int))),some (.d (.list (gs.map wiD))),some (.d (.list (ps.map .int))),some (.d (.int (i:Int))),some (.d (wiD (gat gs i)))]) else some (.rt (.bool false)):=by
 have e3:=gW PyData.int (l:=ps) 0 (i:=(i:Int)) (by omega) (by omega)
 rw [cO] at e3
 have R:=JD (hs:=hs) (oZ h hi) (ps.getD i 0)
 have B:=Fz hi pl hl
 unfold N5
 cases r:roB hs (gat gs i) (ps.getD i 0) with
 | false =>
  rw [pH,if_neg (by decide)]
  simp only [EV,reduceIte,ao,aq,aj,ak,au,aA,aB,e3,R,r]
 | true =>
  rw [nj]
  cases b:beB gs ps i with
  | false =>
   rw [if_neg (by decide)]
   simp only [EV,reduceIte,ao,aq,aj,ak,au,aA,aB,e3,R,r,B,b]
  | true =>
   rw [if_pos rfl]
   simp only [EV,reduceIte,ao,aq,aj,ak,au,aA,aB,e3,R,r,B,b]
theorem wX (hd:(jQ (gs.map wiD))[i]? = some d):i < gs.length∧d = .tuple [.int (i:Int),wiD (gat gs i)]:=by
 unfold jQ at hd
 rw [d7,aO] at hd
 cases hw:gs[i]? with
 | none=>rw [hw] at hd;cases hd
 | some w =>
  rw [hw] at hd
  cases hd
  obtain ⟨hi,_⟩:=eU.mp hw
  refine ⟨hi,?_⟩
  unfold gat
  rw [aK,hw]
  rfl
theorem N6 (h:∀ g ∈ gs,grOk g) (hl:gs.length ≤ 1000) (pl':ps.length ≤ 1000):mF [.list (hs.map .int),.list (gs.map wiD),.list (ps.map .int)]=some (.bool (laB hs gs ps)):=by
 unfold mF
 by_cases pl:ps.length=gs.length
 case neg =>
  have bad:laB hs gs ps=false:=by unfold laB;rw [dFa pl];rfl
  rw [bad]
  have ne:gNe (.int (ps.length:Int)) (.int (gs.length:Int))=some (.bool true):=by
   show some (PyData.bool (!PyData.eqv (.int (ps.length:Int)) (.int (gs.length:Int))))=_
   simp [PyData.eqv]
   omega
  simp only [EV,reduceIte,ao,aq,aj,ak,au,aA,aB,mG h,lE pl',lMp,ne]
 have ne:gNe (.int (ps.length:Int)) (.int (gs.length:Int))=some (.bool false):=by
  rw [pl]
  show some (PyData.bool (!PyData.eqv (.int (gs.length:Int)) (.int (gs.length:Int))))=_
  simp [PyData.eqv]
 have el:(jQ (gs.map wiD)).length=gs.length:=by unfold jQ;rw [rB,aC]
 rcases nZ (fun i=>!N5 hs gs ps i) gs.length with ⟨m,hm,hp,hn⟩ | hn
 ·have bad:laB hs gs ps=false:=by
   cases q:laB hs gs ps with
   | false=>rfl
   | true =>
    unfold laB at q
    have:=cB.mp (jc.mp q).2 m (aQ.mpr hm)
    rw [this] at hp
    cases hp
  have e:=pX (g:=(gTn 2 (cP (gNl 3) (cP (gNl 4) (jE))))) (b:=Wr) (fun _ δ=>∃ y z,δ=[some (.d (.list (hs.map .int))),some (.d (.list (gs.map wiD))),some (.d (.list (ps.map .int))),y,z]) (v:=.bool false) m (jQ (gs.map wiD))
   [some (.d (.list (hs.map .int))),some (.d (.list (gs.map wiD))),some (.d (.list (ps.map .int))),none,none] ⟨none,none,rfl⟩ (by rw [el];exact hm)
   (by
    rintro j d δ hj hd ⟨y,z,rfl⟩
    obtain ⟨hk,rfl⟩:=wX hd
    refine ⟨_,_,rfl,?_,some (.d (.int (j:Int))),some (.d (wiD (gat gs j))),rfl⟩
    refine (uH h hl pl hk).trans ?_
    rw [if_pos (by simpa using hn j hj)])
   (by
    rintro d δ hd ⟨y,z,rfl⟩
    obtain ⟨hk,rfl⟩:=wX hd
    refine ⟨_,rfl,?_⟩
    refine (uH h hl pl hm).trans ?_
    rw [if_neg (by simpa using hp)])
  simp only [EV,reduceIte,ao,aq,aj,ak,au,aA,aB,mG h,lE pl',lMp,ne,e]
  rw [bad]
 ·have gd:laB hs gs ps=true:=by
   unfold laB
   rw [dTr pl,nj,cB]
   intro j hj
   simpa using hn j (aQ.mp hj)
  obtain ⟨δ',e,y,z,rfl⟩:=lZ (g:=(gTn 2 (cP (gNl 3) (cP (gNl 4) (jE))))) (b:=Wr) (fun _ δ=>∃ y z,δ=[some (.d (.list (hs.map .int))),some (.d (.list (gs.map wiD))),some (.d (.list (ps.map .int))),y,z]) (jQ (gs.map wiD))
   [some (.d (.list (hs.map .int))),some (.d (.list (gs.map wiD))),some (.d (.list (ps.map .int))),none,none] ⟨none,none,rfl⟩
   (by
    rintro j d δ hd ⟨y,z,rfl⟩
    obtain ⟨hk,rfl⟩:=wX hd
    refine ⟨_,_,rfl,.inl ?_,some (.d (.int (j:Int))),some (.d (wiD (gat gs j))),rfl⟩
    refine (uH h hl pl hk).trans ?_
    rw [if_pos (by simpa using hn j hk)])
  simp only [EV,reduceIte,ao,aq,aj,ak,au,aA,aB,mG h,lE pl',lMp,ne,e]
  rw [gd]
noncomputable abbrev Ws:=cA (cj 4 (dOp gIx (aF 2) (aF 3))) (cA (Kq (dOp gIx (aF 1) (aF 3)) (gTn 3 (cP (gNl 5) (cP (gNl 6) (cP (gNl 7) (jE)))))) (cA (sIf (D3.tOr (D3.jd (bU (dCall iD (aH (aF 4) (bC))))) (D3.jd (bU (kh gLe gLe (dC (.int 0)) (aF 4) (dOp xP (dCall gH (aH (aF 0) (bC))) (aF 7)))))) (dG (dC (.bool false))) (fK)) (sIf (bU (dOp gGt (dCall yC (aH (dSl (aF 0) (lH (aF 4)) (lH (dOp gw (aF 4) (aF 7)))) (bC))) (aF 5))) (dG (dC (.bool false))) (fK))))
theorem wY (h:∀ g ∈ gs,grOk g) (pl:ps.length=gs.length) {i:Nat} (hi:i < gs.length) (y4 y5 y6 y7 y8:Option U):∃ z4 z5 z6 z7,(Ws) [some (.d (.list (hs.map .int))),some (.d (.list (gs.map wiD))),some (.d (.list (ps.map .int))),some (.d (.int (i:Int))),y4,y5,y6,y7,y8] =
 if roB hs (gat gs i) (ps.getD i 0)=true then some (.nx [some (.d (.list (hs.map .int))),some (.d (.list (gs.map wiD))),some (.d (.list (ps.map .int))),some (.d (.int (i:Int))),z4,z5,z6,z7,y8]) else some (.rt (.bool false)):=by
 have e1:=gW wiD (l:=gs) (0,0,0) (i:=(i:Int)) (by omega) (by omega)
 have e3:=gW PyData.int (l:=ps) 0 (i:=(i:Int)) (by omega) (by omega)
 rw [cO] at e1 e3
 have e1:pAt (gs.map wiD) (i:Int)=some (.tuple [.int (gat gs i).1,.int (gat gs i).2.1,.int (gat gs i).2.2]):=e1
 have hg:=oZ h hi
 have lw:Com.iD [.int (ps.getD i 0)]=some (.bool true):=rfl
 refine ⟨some (.d (.int (ps.getD i 0))),some (.d (.int (gat gs i).1)),some (.d (.int (gat gs i).2.1)),some (.d (.int (gat gs i).2.2)),?_⟩
 by_cases c1:0 ≤ ps.getD i 0
 ·by_cases c2:ps.getD i 0 ≤ (hs.length:Int) - (gat gs i).2.2
  ·have r:roB hs (gat gs i) (ps.getD i 0)=decide (mx (sli hs (ps.getD i 0) (gat gs i).2.2) ≤ (gat gs i).1):=by unfold roB;rw [dTr c1,dTr c2];rfl
   rw [r]
   by_cases c3:mx (sli hs (ps.getD i 0) (gat gs i).2.2) ≤ (gat gs i).1
   ·rw [dTr c3,if_pos rfl]
    simp only [EV,reduceIte,ao,aq,aj,ak,au,aA,aB,e1,e3,lw,lMp,dTr c1,dTr c2,vG c1 c2 hg.s,Ar (wW c1 c2 hg.s),dFa (show ¬ mx (sli hs (ps.getD i 0) (gat gs i).2.2) > (gat gs i).1 by omega)]
   ·rw [dFa c3,if_neg (by decide)]
    simp only [EV,reduceIte,ao,aq,aj,ak,au,aA,aB,e1,e3,lw,lMp,dTr c1,dTr c2,vG c1 c2 hg.s,Ar (wW c1 c2 hg.s),dTr (show mx (sli hs (ps.getD i 0) (gat gs i).2.2) > (gat gs i).1 by omega)]
  ·have r:roB hs (gat gs i) (ps.getD i 0)=false:=by unfold roB;rw [dTr c1,dFa c2];rfl
   rw [r,if_neg (by decide)]
   simp only [EV,reduceIte,ao,aq,aj,ak,au,aA,aB,e1,e3,lw,lMp,dTr c1,dFa c2]
 ·have r:roB hs (gat gs i) (ps.getD i 0)=false:=by unfold roB;rw [dFa c1];rfl
  rw [r,if_neg (by decide)]
  simp only [EV,reduceIte,ao,aq,aj,ak,au,aA,aB,e1,e3,lw,lMp,dFa c1]
theorem Av (h:∀ g ∈ gs,grOk g) (pl:ps.length=gs.length) {i j:Nat} (hi:i < gs.length) (hj:j < i) (y4 y5 y6 y7:Option U):(sIf (D3.jd (bU (dCall dU (aH (dOp gIx (aF 1) (aF 8)) (aH (dOp gIx (aF 2) (aF 8)) (aH (dOp gIx (aF 1) (aF 3)) (aH (dOp gIx (aF 2) (aF 3)) (bC)))))))) (dG (dC (.bool false))) (fK)) [some (.d (.list (hs.map .int))),some (.d (.list (gs.map wiD))),some (.d (.list (ps.map .int))),some (.d (.int (i:Int))),y4,y5,y6,y7,some (.d (.int (j:Int)))] =
 if (meB (gat gs i) (gat gs j) && coB (gat gs i) (ps.getD i 0) (gat gs j) (ps.getD j 0))=false then some (.nx [some (.d (.list (hs.map .int))),some (.d (.list (gs.map wiD))),some (.d (.list (ps.map .int))),some (.d (.int (i:Int))),y4,y5,y6,y7,some (.d (.int (j:Int)))]) else some (.rt (.bool false)):=by
 have e1:=gW wiD (l:=gs) (0,0,0) (i:=(i:Int)) (by omega) (by omega)
 have e2:=gW wiD (l:=gs) (0,0,0) (i:=(j:Int)) (by omega) (by omega)
 have e3:=gW PyData.int (l:=ps) 0 (i:=(i:Int)) (by omega) (by omega)
 have e4:=gW PyData.int (l:=ps) 0 (i:=(j:Int)) (by omega) (by omega)
 rw [cO] at e1 e2 e3 e4
 have e1:pAt (gs.map wiD) (i:Int)=some (wiD (gat gs i)):=e1
 have e2:pAt (gs.map wiD) (j:Int)=some (wiD (gat gs j)):=e2
 have A:=JC (gat gs j) (gat gs i) (ps.getD j 0) (ps.getD i 0)
 rw [uG (oZ h hi) (oZ h (show j < gs.length by omega))] at A
 cases m:meB (gat gs i) (gat gs j) && coB (gat gs i) (ps.getD i 0) (gat gs j) (ps.getD j 0) with
 | false =>
  rw [m] at A
  rw [if_pos rfl]
  simp only [EV,reduceIte,ao,aq,aj,ak,au,aA,aB,e1,e2,e3,e4,A,pJ]
 | true =>
  rw [m] at A
  rw [if_neg (by decide)]
  simp only [EV,reduceIte,ao,aq,aj,ak,au,aA,aB,e1,e2,e3,e4,A,iQ]
theorem Wt (h:∀ g ∈ gs,grOk g) (pl:ps.length=gs.length) {i:Nat} (hi:i < gs.length) (y4 y5 y6 y7 y8:Option U):(∃ z8,beB gs ps i=true∧gO (gNl 8) (sIf (D3.jd (bU (dCall dU (aH (dOp gIx (aF 1) (aF 8)) (aH (dOp gIx (aF 2) (aF 8)) (aH (dOp gIx (aF 1) (aF 3)) (aH (dOp gIx (aF 2) (aF 3)) (bC)))))))) (dG (dC (.bool false))) (fK)) (eX 0 (i:Int)) [some (.d (.list (hs.map .int))),some (.d (.list (gs.map wiD))),some (.d (.list (ps.map .int))),some (.d (.int (i:Int))),y4,y5,y6,y7,y8]=some (.nx [some (.d (.list (hs.map .int))),some (.d (.list (gs.map wiD))),some (.d (.list (ps.map .int))),some (.d (.int (i:Int))),y4,y5,y6,y7,z8]))∨(beB gs ps i=false∧gO (gNl 8) (sIf (D3.jd (bU (dCall dU (aH (dOp gIx (aF 1) (aF 8)) (aH (dOp gIx (aF 2) (aF 8)) (aH (dOp gIx (aF 1) (aF 3)) (aH (dOp gIx (aF 2) (aF 3)) (bC)))))))) (dG (dC (.bool false))) (fK)) (eX 0 (i:Int)) [some (.d (.list (hs.map .int))),some (.d (.list (gs.map wiD))),some (.d (.list (ps.map .int))),some (.d (.int (i:Int))),y4,y5,y6,y7,y8]=some (.rt (.bool false))):=by
 have rl:(eX 0 (i:Int)).length=i:=by unfold eX;rw [aC,bH];omega
 rcases nZ (fun j=>meB (gat gs i) (gat gs j) && coB (gat gs i) (ps.getD i 0) (gat gs j) (ps.getD j 0)) i with ⟨m,hm,hp,hn⟩ | hn
 ·right
  constructor
  ·cases q:beB gs ps i with
   | false=>rfl
   | true =>
    have:=cB.mp q m (aQ.mpr hm)
    rw [hp] at this
    cases this
  ·exact pX (fun _ δ=>∃ y8:Option U,δ=[some (.d (.list (hs.map .int))),some (.d (.list (gs.map wiD))),some (.d (.list (ps.map .int))),some (.d (.int (i:Int))),y4,y5,y6,y7,y8]) m (eX 0 (i:Int)) _ ⟨y8,rfl⟩ (by rw [rl];exact hm)
    (by
     rintro j d δ hj hd ⟨y8,rfl⟩
     obtain ⟨hk,rfl⟩:=iG hd
     refine ⟨_,_,rfl,?_,some (.d (.int (j:Int))),rfl⟩
     refine (Av h pl hi (by omega) y4 y5 y6 y7).trans ?_
     rw [if_pos (hn j hj)])
    (by
     rintro d δ hd ⟨y8,rfl⟩
     obtain ⟨hk,rfl⟩:=iG hd
     refine ⟨_,rfl,?_⟩
     refine (Av h pl hi hm y4 y5 y6 y7).trans ?_
     rw [if_neg (by simpa using hp)])
 ·left
  obtain ⟨δ',e,z8,rfl⟩:=lZ (g:=gNl 8) (b:=(sIf (D3.jd (bU (dCall dU (aH (dOp gIx (aF 1) (aF 8)) (aH (dOp gIx (aF 2) (aF 8)) (aH (dOp gIx (aF 1) (aF 3)) (aH (dOp gIx (aF 2) (aF 3)) (bC)))))))) (dG (dC (.bool false))) (fK))) (fun _ δ=>∃ y8:Option U,δ=[some (.d (.list (hs.map .int))),some (.d (.list (gs.map wiD))),some (.d (.list (ps.map .int))),some (.d (.int (i:Int))),y4,y5,y6,y7,y8]) (eX 0 (i:Int)) _ ⟨y8,rfl⟩
   (by
    rintro j d δ hd ⟨y8,rfl⟩
    obtain ⟨hk,rfl⟩:=iG hd
    refine ⟨_,_,rfl,.inl ?_,some (.d (.int (j:Int))),rfl⟩
    refine (Av h pl hi (by omega) y4 y5 y6 y7).trans ?_
    rw [if_pos (hn j (by omega))])
  refine ⟨z8,?_,e⟩
  unfold beB
  rw [cB]
  intro j hj
  have:=hn j (aQ.mp hj)
  rw [this]
  rfl
theorem Aw:laB hs gs ps=true↔ps.length=gs.length∧(∀ i,i < gs.length→roB hs (gat gs i) (ps.getD i 0)=true)∧∀ i,i < gs.length→beB gs ps i=true:=by
 unfold laB N5
 rw [bw,decide_eq_true_eq,cB]
 constructor
 ·rintro ⟨h1,h2⟩
  refine ⟨h1,fun i hi=>?_,fun i hi=>?_⟩
  ·exact (jc.mp (h2 i (aQ.mpr hi))).1
  ·exact (jc.mp (h2 i (aQ.mpr hi))).2
 ·rintro ⟨h1,h2,h3⟩
  exact ⟨h1,fun i hi=>jc.mpr ⟨h2 i (aQ.mp hi),h3 i (aQ.mp hi)⟩⟩
theorem wZ (h:¬ (ps.length=gs.length∧(∀ i,i < gs.length→roB hs (gat gs i) (ps.getD i 0)=true)∧∀ i,i < gs.length→beB gs ps i=true)):laB hs gs ps=false:=by
 cases q:laB hs gs ps with
 | false=>rfl
 | true=>exact absurd (Aw.mp q) h
noncomputable abbrev R5:=mR (nQ (aH (aF 3) (bC))) (gNl 8) (sIf (D3.jd (bU (dCall dU (aH (dOp gIx (aF 1) (aF 8)) (aH (dOp gIx (aF 2) (aF 8)) (aH (dOp gIx (aF 1) (aF 3)) (aH (dOp gIx (aF 2) (aF 3)) (bC)))))))) (dG (dC (.bool false))) (fK))
theorem Dj (h:∀ g ∈ gs,grOk g) (hl:gs.length ≤ 1000):Com.fX [.list (hs.map .int),.list (gs.map wiD),.list (ps.map .int)]=some (.bool (laB hs gs ps)):=by
 have il:D3.isT "list" (tyD (.list (ps.map .int)))=true:=rfl
 have rr:qY (some [.int (gs.length:Int)])=some (eX 0 (gs.length:Int)):=Dh (by omega) (by omega)
 have rl:(eX 0 (gs.length:Int)).length=gs.length:=by unfold eX;rw [aC,bH];omega
 unfold Com.fX
 by_cases pl:ps.length=gs.length
 case neg =>
  rw [wZ (fun z=>pl z.1)]
  have ne:gNe (.int (ps.length:Int)) (.int (gs.length:Int))=some (.bool true):=by
   show some (PyData.bool (!PyData.eqv (.int (ps.length:Int)) (.int (gs.length:Int))))=_
   simp [PyData.eqv]
   omega
  simp only [EV,reduceIte,ao,aq,aj,ak,au,aA,aB,il,iQ,lMp,ne]
 have ne:gNe (.int (ps.length:Int)) (.int (gs.length:Int))=some (.bool false):=by
  rw [pl]
  show some (PyData.bool (!PyData.eqv (.int (gs.length:Int)) (.int (gs.length:Int))))=_
  simp [PyData.eqv]
 rcases nZ (fun i=>!roB hs (gat gs i) (ps.getD i 0)) gs.length with ⟨m,hm,hp,hn⟩ | hn
 ·rw [wZ (fun z=>by have:=z.2.1 m hm;rw [this] at hp;cases hp)]
  have e:=pX (g:=(gNl 3)) (b:=Ws) (fun _ δ=>∃ y3 y4 y5 y6 y7,δ=[some (.d (.list (hs.map .int))),some (.d (.list (gs.map wiD))),some (.d (.list (ps.map .int))),y3,y4,y5,y6,y7,none]) (v:=.bool false) m (eX 0 (gs.length:Int)) [some (.d (.list (hs.map .int))),some (.d (.list (gs.map wiD))),some (.d (.list (ps.map .int))),none,none,none,none,none,none] ⟨none,none,none,none,none,rfl⟩ (by rw [rl];exact hm)
   (by
    rintro j d δ hj hd ⟨y3,y4,y5,y6,y7,rfl⟩
    obtain ⟨hk,rfl⟩:=iG hd
    obtain ⟨z4,z5,z6,z7,ez⟩:=wY (hs:=hs) h pl (show j < gs.length by omega) y4 y5 y6 y7 none
    rw [if_pos (by simpa using hn j hj)] at ez
    exact ⟨_,_,rfl,ez,some (.d (.int (j:Int))),z4,z5,z6,z7,rfl⟩)
   (by
    rintro d δ hd ⟨y3,y4,y5,y6,y7,rfl⟩
    obtain ⟨hk,rfl⟩:=iG hd
    obtain ⟨z4,z5,z6,z7,ez⟩:=wY (hs:=hs) h pl hm y4 y5 y6 y7 none
    rw [if_neg (by simpa using hp)] at ez
    exact ⟨_,rfl,ez⟩)
  simp only [EV,reduceIte,ao,aq,aj,ak,au,aA,aB,il,iQ,lMp,ne,rr,e]
 ·obtain ⟨δ',e,y3,y4,y5,y6,y7,rfl⟩:=lZ (g:=(gNl 3)) (b:=Ws) (fun _ δ=>∃ y3 y4 y5 y6 y7,δ=[some (.d (.list (hs.map .int))),some (.d (.list (gs.map wiD))),some (.d (.list (ps.map .int))),y3,y4,y5,y6,y7,none]) (eX 0 (gs.length:Int)) [some (.d (.list (hs.map .int))),some (.d (.list (gs.map wiD))),some (.d (.list (ps.map .int))),none,none,none,none,none,none] ⟨none,none,none,none,none,rfl⟩
   (by
    rintro j d δ hd ⟨y3,y4,y5,y6,y7,rfl⟩
    obtain ⟨hk,rfl⟩:=iG hd
    obtain ⟨z4,z5,z6,z7,ez⟩:=wY (hs:=hs) h pl (show j < gs.length by omega) y4 y5 y6 y7 none
    rw [if_pos (by simpa using hn j (by omega))] at ez
    exact ⟨_,_,rfl,.inl ez,some (.d (.int (j:Int))),z4,z5,z6,z7,rfl⟩)
  have OB:∀ (j:Nat) (y8:Option U),j < gs.length→(∃ z8,beB gs ps j=true∧(R5) [some (.d (.list (hs.map .int))),some (.d (.list (gs.map wiD))),some (.d (.list (ps.map .int))),some (.d (.int (j:Int))),y4,y5,y6,y7,y8]=some (.nx [some (.d (.list (hs.map .int))),some (.d (.list (gs.map wiD))),some (.d (.list (ps.map .int))),some (.d (.int (j:Int))),y4,y5,y6,y7,z8]))∨(beB gs ps j=false∧(R5) [some (.d (.list (hs.map .int))),some (.d (.list (gs.map wiD))),some (.d (.list (ps.map .int))),some (.d (.int (j:Int))),y4,y5,y6,y7,y8]=some (.rt (.bool false))):=fun j y8 hj=>by
   have rj:qY (some [.int (j:Int)])=some (eX 0 (j:Int)):=Dh (by omega) (by omega)
   rcases Wt (hs:=hs) h pl hj y4 y5 y6 y7 y8 with ⟨z8,b,ez⟩ | ⟨b,ez⟩
   ·refine .inl ⟨z8,b,?_⟩
    simp only [EV,reduceIte,ao,aq,aj,ak,au,aA,aB,rj,ez]
   ·refine .inr ⟨b,?_⟩
    simp only [EV,reduceIte,ao,aq,aj,ak,au,aA,aB,rj,ez]
  rcases nZ (fun i=>!beB gs ps i) gs.length with ⟨m,hm,hp,hn2⟩ | hn2
  ·rw [wZ (fun z=>by have:=z.2.2 m hm;rw [this] at hp;cases hp)]
   have e2:=pX (g:=(gNl 3)) (b:=R5) (fun _ δ=>∃ y3 y8,δ=[some (.d (.list (hs.map .int))),some (.d (.list (gs.map wiD))),some (.d (.list (ps.map .int))),y3,y4,y5,y6,y7,y8]) (v:=.bool false) m (eX 0 (gs.length:Int)) [some (.d (.list (hs.map .int))),some (.d (.list (gs.map wiD))),some (.d (.list (ps.map .int))),y3,y4,y5,y6,y7,none] ⟨y3,none,rfl⟩ (by rw [rl];exact hm)
    (by
     rintro j d δ hj hd ⟨y3,y8,rfl⟩
     obtain ⟨hk,rfl⟩:=iG hd
     rcases OB j y8 (by omega) with ⟨z8,b,ez⟩ | ⟨b,ez⟩
     ·exact ⟨_,_,rfl,ez,some (.d (.int (j:Int))),z8,rfl⟩
     ·have:=hn2 j hj;rw [b] at this;cases this)
    (by
     rintro d δ hd ⟨y3,y8,rfl⟩
     obtain ⟨hk,rfl⟩:=iG hd
     rcases OB m y8 hm with ⟨z8,b,ez⟩ | ⟨b,ez⟩
     ·rw [b] at hp;cases hp
     ·exact ⟨_,rfl,ez⟩)
   simp only [EV,reduceIte,ao,aq,aj,ak,au,aA,aB,il,iQ,lMp,ne,rr,e,e2]
  ·rw [Aw.mpr ⟨pl,fun i hi=>by simpa using hn i hi,fun i hi=>by simpa using hn2 i hi⟩]
   obtain ⟨δ2,e2,z3,z8,rfl⟩:=lZ (g:=(gNl 3)) (b:=R5) (fun _ δ=>∃ y3 y8,δ=[some (.d (.list (hs.map .int))),some (.d (.list (gs.map wiD))),some (.d (.list (ps.map .int))),y3,y4,y5,y6,y7,y8]) (eX 0 (gs.length:Int)) [some (.d (.list (hs.map .int))),some (.d (.list (gs.map wiD))),some (.d (.list (ps.map .int))),y3,y4,y5,y6,y7,none] ⟨y3,none,rfl⟩
    (by
     rintro j d δ hd ⟨y3,y8,rfl⟩
     obtain ⟨hk,rfl⟩:=iG hd
     rcases OB j y8 (by omega) with ⟨z8,b,ez⟩ | ⟨b,ez⟩
     ·exact ⟨_,_,rfl,.inl ez,some (.d (.int (j:Int))),z8,rfl⟩
     ·have:=hn2 j (by omega);rw [b] at this;cases this)
   simp only [EV,reduceIte,ao,aq,aj,ak,au,aA,aB,il,iQ,lMp,ne,rr,e,e2]
end
def gp (g:Wi):Sd.Gp:=(g.1,g.2.1,g.2.2.toNat)
theorem N7 {l:List Int} (h:l ≠ []):Cv [.tuple (l.map .int)]=some (.int (mx l)):=by
 cases l with
 | nil=>exact absurd rfl h
 | cons x r =>
  show (match dg ((x :: r).map .int) with | some (i :: r)=>some (PyData.int (mxI i r)) | _=>none)=_
  rw [qj]
  rfl
def stN (row:List Int) (g:Wi):List Nat:=(aZ ((row.length:Int) - g.2.2 + 1).toNat).filter fun s=>decide (mx (sli row (s:Int) g.2.2) ≤ g.1)
theorem R6 {f:FE} {fl:FO} (h:f δ=some (.tuple l)) (h1:fl δ=some lo) (h2:fh δ=some hi) (hf:flats l=true):Je f fl fh δ=some (.tuple (cutD l lo hi)):=by
 unfold Je
 rw [h,aN,h1,aN,h2,aN]
 dsimp only
 rw [if_pos hf]
theorem FJ (hg:1 ≤ g.2.2) (hg2:g.2.2 ≤ 6) (hl:row.length ≤ 1000):jJ [rwD row,wiD g]=some (.list ((stN row g).map fun s:Nat=>PyData.int (s:Int))):=by
 have i0:gIx (wiD g) (.int 0)=some (.int g.1):=rfl
 have i2:gIx (wiD g) (.int 2)=some (.int g.2.2):=rfl
 have C:=Wl (g:=(gNl 0)) (c:=(bU (dOp gLe (dCall Cv (aH (Je (aF 2) (lH (aF 0)) (lH (dOp gw (aF 0) (dOp gIx (aF 1) (dC (.int 2)))))) (bC))) (dOp gIx (aF 1) (dC (.int 0)))))) (e:=(mQ (aF 0))) (δ:=[none,some (.d (wiD g)),some (.d (rwD row))]) (fun s:Nat=>PyData.int (s:Int)) (fun s=>decide (mx (sli row (s:Int) g.2.2) ≤ g.1)) (fun s:Nat=>PyData.int (s:Int)) (aZ ((row.length:Int) - g.2.2 + 1).toNat) (fun s hs=>by
  have hs:=aQ.mp hs
  have c1:(s:Int) ≤ (row.length:Int) - g.2.2:=by omega
  refine ⟨[some (.d (.int (s:Int))),some (.d (wiD g)),some (.d (rwD row))],rfl,?_,fun _=>rfl⟩
  have sl:Je (aF 2) (lH (aF 0)) (lH (dOp gw (aF 0) (dOp gIx (aF 1) (dC (.int 2))))) [some (.d (.int (s:Int))),some (.d (wiD g)),some (.d (rwD row))]=some (.tuple ((sli row (s:Int) g.2.2).map .int)):=by
   rw [R6 (l:=row.map .int) (lo:=some (s:Int)) (hi:=some ((s:Int) + g.2.2)) rfl rfl rfl (oX _),vG (by omega) c1 hg]
  simp only [EV,reduceIte,ao,aq,aj,ak,au,aA,aB,sl,N7 (wW (by omega) c1 hg),i0])
 have ca:∀ a b c:Option U,iK 1 [1,0] [a,b,c]=[none,b,a]:=fun _ _ _=>rfl
 have rg:∀ k:Int,-(2 ^ 62) ≤ k→k < 2 ^ 62→qY (some [.int k])=some ((aZ k.toNat).map fun s:Nat=>PyData.int (s:Int)):=fun k h1 h2=>by
  rw [Dh h1 h2]
  unfold eX
  rw [rZ]
  congr 1
  exact gP fun s _=>by rw [lN]
 have ln:gH [rwD row]=some (.int (row.length:Int)):=by
  show some (PyData.int ((row.map PyData.int).length:Int))=_
  rw [aC]
 have rg:=rg ((row.length:Int) - g.2.2 + 1) (by omega) (by omega)
 have ll:((aZ ((row.length:Int) - g.2.2 + 1).toNat).map fun s:Nat=>PyData.int (s:Int)).length ≤ 100000:=by
  rw [aC,bH]
  omega
 unfold jJ
 simp only [EV,reduceIte,ao,aq,aj,ak,au,aA,aB,ln,i2,ca,rg,C,ll]
 rfl
def nbI (g:Wi) (e:Int) (b:Bool):Int:=if b=true then g.2.1 else if e ≤ g.1 then 0 else e
theorem yX (g:Wi) (e:Int) (b:Bool):eN [.int e,wiD g,.bool b]=some (.int (nbI g e b)):=by
 have i0:gIx (wiD g) (.int 0)=some (.int g.1):=rfl
 have i1:gIx (wiD g) (.int 1)=some (.int g.2.1):=rfl
 show Com.eN _=_
 unfold Com.eN nbI
 cases b with
 | true =>
  simp only [EV,reduceIte,ao,aq,aj,ak,au,aA,aB,i1]
 | false =>
  by_cases c:e ≤ g.1
  ·simp only [EV,reduceIte,ao,aq,aj,ak,au,aA,aB,i0,dTr c]
   rw [if_neg (by decide),if_pos c]
  ·simp only [EV,reduceIte,ao,aq,aj,ak,au,aA,aB,i0,dFa c]
   rw [if_neg (by decide),if_neg c]
theorem FN {s:Nat} (hg:1 ≤ g.2.2) (hg2:g.2.2 ≤ 6) (hl:row.length ≤ 1000):gG [rwD row,wiD g,.int (s:Int)]=some (rwD (Sd.put row (gp g) s)):=by
 have i2:gIx (wiD g) (.int 2)=some (.int g.2.2):=rfl
 have en:jQ (row.map .int)=(aZ row.length).map fun k:Nat=>PyData.tuple [.int (k:Int),.int (row.getD k 0)]:=Jz row
 have fe:Fe (aF 0) [some (.d (rwD row)),some (.d (wiD g)),some (.d (.int (s:Int))),some (.d (.int ((s:Int) + g.2.2)))]=some ((aZ row.length).map fun k:Nat=>PyData.tuple [.int (k:Int),.int (row.getD k 0)]):=by
  rw [← en]
  rfl
 have C:=u_ (g:=(gTn 2 (cP (gNl 0) (cP (gNl 1) (jE))))) (c:=(D3.j_)) (e:=(dCall eN (aH (aF 1) (aH (aF 2) (aH (kh gLe gLt (aF 3) (aF 0) (aF 4)) (bC)))))) (δ:=[none,none,some (.d (wiD g)),some (.d (.int (s:Int))),some (.d (.int ((s:Int) + g.2.2)))]) (fun k:Nat=>PyData.tuple [.int (k:Int),.int (row.getD k 0)]) (fun k:Nat=>PyData.int (Sd.cell (gp g) s k (row.getD k 0))) (aZ row.length) (fun k hk=>by
  refine ⟨[some (.d (.int (k:Int))),some (.d (.int (row.getD k 0))),some (.d (wiD g)),some (.d (.int (s:Int))),some (.d (.int ((s:Int) + g.2.2)))],rfl,rfl,?_⟩
  have cl:∀ b:Bool,(b=true↔s ≤ k∧k < s + g.2.2.toNat)→nbI g (row.getD k 0) b=Sd.cell (gp g) s k (row.getD k 0):=fun b hb=>by
   unfold nbI Sd.cell gp
   dsimp only
   by_cases c:s ≤ k∧k < s + g.2.2.toNat
   ·rw [if_pos (hb.mpr c),if_pos c]
   ·rw [if_neg (fun z=>c (hb.mp z)),if_neg c]
  by_cases c1:(s:Int) ≤ (k:Int)
  ·rw [← cl (decide ((k:Int) < (s:Int) + g.2.2)) (by rw [decide_eq_true_iff];omega)]
   simp only [EV,reduceIte,ao,aq,aj,ak,au,aA,aB,dTr c1,yX]
  ·rw [← cl false (by constructor <;> intro z;cases z;omega)]
   simp only [EV,reduceIte,ao,aq,aj,ak,au,aA,aB,dFa c1,yX])
 have ca:∀ a b c d:Option U,iK 2 [1,2,3] [a,b,c,d]=[none,none,b,c,d]:=fun _ _ _ _=>rfl
 have pu:Sd.put row (gp g) s=(aZ row.length).map fun k=>Sd.cell (gp g) s k (row.getD k 0):=by
  unfold Sd.put
  apply jh
  ·simp
  ·intro k h1 h2
   have h1:k < row.length:=by simpa using h1
   rw [List.getElem_mapIdx,j9,mL,aK,aD h1]
   rfl
 have ll:((aZ row.length).map fun k:Nat=>PyData.tuple [.int (k:Int),.int (row.getD k 0)]).length ≤ 100000:=by
  rw [aC,bH];omega
 unfold gG
 simp only [EV,reduceIte,ao,aq,aj,ak,au,aA,aB,i2,fe,ca,C,ll,zU]
 rw [pu]
 unfold rwD
 rw [dI]
 rfl
def tQ (g:Wi) (row:List Int) (S:List Tte) (ss:List Nat):List Tte:=ss.foldl (fun S s=>oU S (Sd.put row (gp g) s) (row,(s:Int))) S
def dM (g:Wi) (rows:List (List Int)) (S:List Tte):List Tte:=rows.foldl (fun S row=>tQ g row S (stN row g)) S
theorem Dk (S:List Tte) (k:List Int) (v:List Int × Int):(oU S k v).length ≤ S.length + 1:=by
 unfold oU
 split <;> simp
theorem tR (g:Wi) (row:List Int):∀ (ss:List Nat) (S:List Tte),(tQ g row S ss).length ≤ S.length + ss.length
 | [],S=>aL _
 | s :: ss,S=>by
  have h1:=tR g row ss (oU S (Sd.put row (gp g) s) (row,(s:Int)))
  have h2:=Dk S (Sd.put row (gp g) s) (row,(s:Int))
  show (tQ g row (oU S (Sd.put row (gp g) s) (row,(s:Int))) ss).length ≤ _
  rw [bf]
  omega
theorem Hz (row:List Int) (g:Wi) (hg:1 ≤ g.2.2):(stN row g).length ≤ row.length:=by
 unfold stN
 refine aW (pC _ _) ?_
 rw [bH]
 omega
theorem nA {g:FG} {b:FS} {r:List D} {δ1:DS} (h1:g d δ=some δ1) (h2:b δ1=some (.nx δ')):gO g b (d :: r) δ=gO g b r δ':=by
 rw [gO,h1,aN,h2]
 rfl
theorem Ax (k:List Int):xV (rwD k)=some k:=lW k
theorem R7 (v:List Int × Int):Jc (ttV v)=some v:=by
 show (dg (v.1.map PyData.int)).map (·,v.2)=_
 rw [lW]
 rfl
theorem R8 {fv:FE} {k:List Int} {v:List Int × Int} (h0:aF i δ=some (dtt S)) (h1:fk δ=some (rwD k)) (h2:fv δ=some (ttV v)) (hl:S.length < 1000000):ur i fk fv δ=some (.nx (δ.set i (some (.d (dtt (oU S k v)))))):=by
 unfold ur
 rw [h0,aN,h1,aN,h2,aN,Cr,aN,Ax,aN,R7,aN,if_pos hl]
theorem w6 (hg:1 ≤ g.2.2) (hg2:g.2.2 ≤ 6) (hl:row.length ≤ 1000) (a:Option U):∀ (ss:List Nat) (S:List Tte) (u:Option U),S.length + ss.length < 1000000 →
 ∃ u',gO (gNl 4) (ur 2 (dCall gG (aH (aF 3) (aH (aF 1) (aH (aF 4) (bC))))) (dTup (aH (aF 3) (aH (aF 4) (bC))))) (ss.map fun s:Nat=>PyData.int (s:Int)) [a,some (.d (wiD g)),some (.d (dtt S)),some (.d (rwD row)),u]=some (.nx [a,some (.d (wiD g)),some (.d (dtt (tQ g row S ss))),some (.d (rwD row)),u'])
 | [],S,u,_=>⟨u,rfl⟩
 | s :: ss,S,u,hS=>by
  rw [bf] at hS
  have b:=FN (row:=row) (g:=g) (s:=s) hg hg2 hl
  have h1:(dCall gG (aH (aF 3) (aH (aF 1) (aH (aF 4) (bC))))) [a,some (.d (wiD g)),some (.d (dtt S)),some (.d (rwD row)),some (.d (.int (s:Int)))]=some (rwD (Sd.put row (gp g) s)):=by
   simp only [EV,reduceIte,ao,aq,aj,ak,au,aA,aB,b]
  have h2:(dTup (aH (aF 3) (aH (aF 4) (bC)))) [a,some (.d (wiD g)),some (.d (dtt S)),some (.d (rwD row)),some (.d (.int (s:Int)))]=some (ttV (row,(s:Int))):=by
   simp only [EV,reduceIte,ao,aq,aj,ak,au,aA,aB,Com.sz (show 2 ≤ 1000000 by decide)]
   rfl
  have st:=R8 (i:=2) (S:=S) rfl h1 h2 (by omega)
  have dl:=Dk S (Sd.put row (gp g) s) (row,(s:Int))
  obtain ⟨u',e⟩:=w6 hg hg2 hl a ss (oU S (Sd.put row (gp g) s) (row,(s:Int))) (some (.d (.int (s:Int)))) (by omega)
  exact ⟨u',(nA rfl st).trans e⟩
noncomputable abbrev Wu:=mR (rJ (dCall jJ (aH (aF 3) (aH (aF 1) (bC))))) (gNl 4) (ur 2 (dCall gG (aH (aF 3) (aH (aF 1) (aH (aF 4) (bC))))) (dTup (aH (aF 3) (aH (aF 4) (bC)))))
theorem xg (hg:1 ≤ g.2.2) (hg2:g.2.2 ≤ 6) (a:Option U):∀ (rows:List (List Int)) (S:List Tte) (u v:Option U),(∀ r ∈ rows,r.length ≤ 100)→S.length + 100 * rows.length < 1000000 →
 ∃ u' v',gO (gNl 3) Wu (rows.map rwD) [a,some (.d (wiD g)),some (.d (dtt S)),u,v]=some (.nx [a,some (.d (wiD g)),some (.d (dtt (dM g rows S))),u',v'])
 | [],S,u,v,_,_=>⟨u,v,rfl⟩
 | row :: rows,S,u,v,hr,hS=>by
  rw [bf] at hS
  have rl:=hr row aG
  have st:=FJ (row:=row) (g:=g) hg hg2 (by omega)
  have sl:=Hz row g hg
  obtain ⟨u',e⟩:=w6 (g:=g) (row:=row) hg hg2 (by omega) a (stN row g) S v (by omega)
  have il:=tR g row (stN row g) S
  have ll:((stN row g).map fun s:Nat=>PyData.int (s:Int)).length ≤ 100000:=by rw [aC];omega
  have b1:Wu [a,some (.d (wiD g)),some (.d (dtt S)),some (.d (rwD row)),v]=some (.nx [a,some (.d (wiD g)),some (.d (dtt (tQ g row S (stN row g)))),some (.d (rwD row)),u']):=by
   simp only [EV,reduceIte,ao,aq,aj,ak,au,aA,aB,st]
   exact e
  obtain ⟨u2,v2,e2⟩:=xg hg hg2 a rows (tQ g row S (stN row g)) (some (.d (rwD row))) u' (fun r h=>hr r (aJ _ h)) (by omega)
  exact ⟨u2,v2,(nA rfl b1).trans e2⟩
theorem Dm (hg:1 ≤ g.2.2) (hg2:g.2.2 ≤ 6) (hr:∀ r ∈ rows,r.length ≤ 100) (hl:rows.length ≤ 1000):eE [.list (rows.map rwD),wiD g]=some (dtt (dM g rows [])):=by
 obtain ⟨u,v,e⟩:=xg (g:=g) hg hg2 (some (.d (.list (rows.map rwD)))) rows [] none none hr (by simp;omega)
 have e:gO (gNl 3) Wu (rows.map rwD) [some (.d (.list (rows.map rwD))),some (.d (wiD g)),some (.d (.dict [])),none,none]=some (.nx [some (.d (.list (rows.map rwD))),some (.d (wiD g)),some (.d (dtt (dM g rows []))),u,v]):=e
 have ll:(rows.map rwD).length ≤ 100000:=by rw [aC];omega
 unfold eE
 simp only [EV,reduceIte,ao,aq,aj,ak,au,aA,aB]
 rw [e]
 simp only [EV,reduceIte,ao,aq,aj,ak,au,aA,aB]
def bL (S:List Tte):List (List Int):=S.map (·.1)
def lv:List (List Int)→List Wi→List (List Tte)
 | _,[]=>[]
 | rows,g :: gs=>dM g rows [] :: if dM g rows []=[] then [] else lv (XJ.dH (bL (dM g rows []))) gs
theorem jX (rows:List (List Int)):lv rows []=[]:=by unfold lv;rfl
theorem fV (rows:List (List Int)) (g:Wi) (gs:List Wi):lv rows (g :: gs)=dM g rows [] :: if dM g rows []=[] then [] else lv (XJ.dH (bL (dM g rows []))) gs:=by conv=>lhs;unfold lv
def Few (L:List (List Tte)):Prop:=∀ S ∈ L,S.length < 64∧∀ k ∈ bL S,k ≠ []∧k.length ≤ 100
theorem xq (S:List Tte):j8 (dtt S)=some (bL S):=by
 show (match u9 (ttP S) with | some S'=>some (mK (fun q:Tte=>q.1) S') | none=>tsD (ttP S))=_
 rw [zX]
 rfl
theorem Ay (S:List Tte):XJ.uU [dtt S]=some (.int (S.length:Int)):=by
 show (j8 (dtt S)).map (fun ks=>PyData.int (ks.length:Int))=_
 rw [xq]
 show some (PyData.int ((bL S).length:Int))=_
 unfold bL
 rw [aC]
theorem xr (h:S.length < 64) (hk:∀ k ∈ bL S,k ≠ []):XJ.oW [dtt S]=some (.list ((XJ.dH (bL S)).map rwD)):=by
 show (j8 (dtt S)).bind _=_
 rw [xq,aN,if_pos]
 refine ⟨by unfold bL;rw [aC];exact h,cB.mpr fun k hk'=>?_⟩
 have:=hk k hk'
 cases k with
 | nil=>exact absurd rfl this
 | cons _ _=>rfl
theorem JF (ks:List (List Int)):(XJ.lD ks).Perm (aZ ks.length):=by
 unfold XJ.lD
 split
 ·exact .refl _
 ·exact XS.jw (n:=ks.length) (by omega) (XJ.ltR ks)
theorem dY (ks:List (List Int)):(XJ.dH ks).Perm ks:=by
 unfold XJ.dH
 refine ((JF ks).map _).trans ?_
 have:(aZ ks.length).map (fun i=>ks.getD i [])=ks:=by
  apply jh
  ·simp
  ·intro i h1 h2
   simp [h2]
 rw [this]
theorem FP (h:i < gs.length):pAt (gs.map wiD) (i:Int)=some (wiD (gat gs i)):=by
 rw [gW wiD (0,0,0) (by omega) (by omega)]
 rfl
def gOk (g:Wi):Prop:=1 ≤ g.2.2∧g.2.2 ≤ 6
noncomputable abbrev JG:=cA (cj 5 (dCall eE (aH (aF 3) (aH (dOp gIx (aF 1) (aF 4)) (bC))))) (cA (uZ 2 (aF 5)) (cA (sIf (bU (dOp gGt (dCall XJ.uU (aH (aF 5) (bC))) (dC (.int 400)))) ((fun _=>none)) (fK)) (cA (sIf (bU (dOp gEq (dCall XJ.uU (aH (aF 5) (bC))) (dC (.int 0)))) (sY (aF 2)) (fK)) (cj 3 (dCall XJ.oW (aH (aF 5) (bC)))))))
theorem Dp (hg:∀ g ∈ gs,gOk g) (a:Option U):∀ (ts:List Nat) (rows:List (List Int)) (acc:List (List Tte)) (u v:Option U),(∀ t ∈ ts,t < gs.length)→rows.length ≤ 1000→(∀ r ∈ rows,r.length ≤ 100)→acc.length + ts.length ≤ 1000→Few (lv rows (ts.map (gat gs))) →
 (∃ r' u' v',gO (gNl 4) JG (ts.map fun t:Nat=>PyData.int (t:Int)) [a,some (.d (.list (gs.map wiD))),some (.d (.list (acc.map dtt))),some (.d (.list (rows.map rwD))),u,v]=some (.nx [a,some (.d (.list (gs.map wiD))),some (.d (.list ((acc++lv rows (ts.map (gat gs))).map dtt))),r',u',v'])) ∨
 gO (gNl 4) JG (ts.map fun t:Nat=>PyData.int (t:Int)) [a,some (.d (.list (gs.map wiD))),some (.d (.list (acc.map dtt))),some (.d (.list (rows.map rwD))),u,v]=some (.ex "" "" (.list ((acc++lv rows (ts.map (gat gs))).map dtt)))
 | [],rows,acc,u,v,_,_,_,_,_=>.inl ⟨_,_,_,by simp only [eF,jX,cH];exact rfl⟩
 | t :: ts,rows,acc,u,v,ht,hl,hr,ha,hf=>by
  rw [bf] at ha
  have tl:=ht t aG
  have gk:gOk (gat gs t):=by
   unfold gat
   rw [aK,aD tl]
   exact hg _ (cY tl)
  have rb:=Dm (g:=gat gs t) (rows:=rows) gk.1 gk.2 hr hl
  rw [show (t :: ts).map (gat gs)=gat gs t :: ts.map (gat gs) from rfl,fV] at hf ⊢
  generalize hS:dM (gat gs t) rows []=S at rb hf ⊢
  obtain ⟨f1,f2⟩:=hf S aG
  have ts1:=xr f1 fun k hk=>(f2 k hk).1
  have tn:=Ay S
  have al:(acc.map dtt).length < 1000000:=by rw [aC];omega
  have n4:decide ((S.length:Int) > 400)=false:=dFa (by omega)
  have ga:=FP tl
  by_cases c:S=[]
  ·subst c
   refine .inr ?_
   rw [if_pos rfl,aV]
   have z4:decide ((([]:List Tte).length:Int)=0)=true:=rfl
   have b1:JG [a,some (.d (.list (gs.map wiD))),some (.d (.list (acc.map dtt))),some (.d (.list (rows.map rwD))),some (.d (.int (t:Int))),v]=some (.ex "" "" (.list ((acc++[[]]).map dtt))):=by
    simp only [EV,reduceIte,ao,aq,aj,ak,au,aA,aB,ga,rb,al,tn,n4,z4]
    rw [cC]
    rfl
   rw [gO,show (gNl 4) (.int (t:Int)) [a,some (.d (.list (gs.map wiD))),some (.d (.list (acc.map dtt))),some (.d (.list (rows.map rwD))),u,v]=some [a,some (.d (.list (gs.map wiD))),some (.d (.list (acc.map dtt))),some (.d (.list (rows.map rwD))),some (.d (.int (t:Int))),v] from rfl,aN,b1]
   rfl
  ·rw [if_neg c] at hf ⊢
   have z4:decide ((S.length:Int)=0)=false:=dFa (by
    have:S.length ≠ 0:=fun z=>c (bR.mp z)
    omega)
   have pm:=dY (bL S)
   have b1:JG [a,some (.d (.list (gs.map wiD))),some (.d (.list (acc.map dtt))),some (.d (.list (rows.map rwD))),some (.d (.int (t:Int))),v]=some (.nx [a,some (.d (.list (gs.map wiD))),some (.d (.list ((acc++[S]).map dtt))),some (.d (.list ((XJ.dH (bL S)).map rwD))),some (.d (.int (t:Int))),some (.d (dtt S))]):=by
    simp only [EV,reduceIte,ao,aq,aj,ak,au,aA,aB,ga,rb,al,tn,n4,z4,ts1]
    rw [cC]
    rfl
   have ih:=Dp hg a ts (XJ.dH (bL S)) (acc++[S]) (some (.d (.int (t:Int)))) (some (.d (dtt S))) (fun q hq=>ht q (aJ _ hq)) (by rw [pm.length_eq];unfold bL;rw [aC];omega) (fun r hr=>(f2 r (pm.mem_iff.mp hr)).2) (by rw [bK];simp;omega) (fun S' h'=>hf S' (aJ _ h'))
   rw [show acc++[S]++lv (XJ.dH (bL S)) (ts.map (gat gs))=acc++S :: lv (XJ.dH (bL S)) (ts.map (gat gs)) by simp] at ih
   rw [aV]
   rcases ih with ⟨r',u',v',ih⟩ | ih
   ·exact .inl ⟨r',u',v',(nA rfl b1).trans ih⟩
   ·exact .inr ((nA rfl b1).trans ih)
theorem JH (hl:gs.length < 64):∃ ts:List Nat,gQ [.list (gs.map wiD)]=some (.list (ts.map fun t:Nat=>PyData.int (t:Int)))∧ts.Perm (aZ gs.length)∧ts.Pairwise fun a b=>(gat gs a).1 ≤ (gat gs b).1:=by
 obtain ⟨L,e,pm,pw⟩:=Fy (aZ gs.length) (fun t=>(gat gs t).1)
 have rl:eX 0 (gs.length:Int)=(aZ gs.length).map fun p:Nat=>PyData.int (p:Int):=by
  unfold eX
  rw [show ((gs.length:Int) - 0).toNat=gs.length by omega]
  exact gP fun k _=>by rw [lN]
 have lr:wj [.int (gs.length:Int)]=some (.list ((aZ gs.length).map fun p:Nat=>PyData.int (p:Int))):=by
  rw [← rl]
  exact Qx (by omega) (by omega)
 have C2:iY (gNl 0) D3.j_ XS.dK0 (iK 1 [0] [some (.d (.list (gs.map wiD)))]) ((aZ gs.length).map fun p:Nat=>PyData.int (p:Int))=some (((aZ gs.length).map fun t=>(gat gs t).1).map PyData.int):=by
  rw [dI]
  exact u_ (fun p:Nat=>PyData.int (p:Int)) (fun p:Nat=>PyData.int (gat gs p).1) _ fun p hp=>⟨[some (.d (.int (p:Int))),some (.d (.list (gs.map wiD)))],rfl,rfl,by
   show (pAt (gs.map wiD) (p:Int)).bind _=_
   rw [FP (aQ.mp hp)]
   rfl⟩
 have V:=XS.Jp (l:=(aZ gs.length).map fun p:Nat=>PyData.int (p:Int)) (k:=iY (gNl 0) D3.j_ XS.dK0 (iK 1 [0] [some (.d (.list (gs.map wiD)))])) (by rw [aC,bH];exact hl) (by
  have:∀ l:List Nat,flats (l.map fun p:Nat=>PyData.int (p:Int))=true:=fun l=>by
   induction l with
   | nil=>rfl
   | cons _ _ ih=>rw [aV,flats,ih];rfl
  exact this _) C2 (qj _)
 refine ⟨L,?_,pm,pw⟩
 rw [← e]
 unfold gQ
 simp only [EV,reduceIte,ao,aq,aj,ak,au,aA,aB,lMp,lr,XS.Rg,V]
def inT (gs:List Wi) (ts:List Nat):List Wi:=ts.map (gat gs)
theorem all_gen (hg:∀ g ∈ gs,gOk g) (hl:gs.length < 64) (wl:hs.length ≤ 100) (ht:gQ [.list (gs.map wiD)]=some (.list (ts.map fun t:Nat=>PyData.int (t:Int)))) (pm:ts.Perm (aZ gs.length)) (hf:Few (lv [hs] (inT gs ts))) :
 jj [.list (hs.map .int),.list (gs.map wiD)]=some (.list ((lv [hs] (inT gs ts)).map dtt)):=by
 have tl:ts.length=gs.length:=by rw [pm.length_eq,bH]
 have L:=Dp hg (some (.d (.list (hs.map .int)))) ts [hs] [] none none (fun t h=>aQ.mp (pm.mem_iff.mp h)) (by simp) (fun r hr=>by rw [aM.mp hr];exact wl) (by simp;omega) hf
 have ll:(ts.map fun t:Nat=>PyData.int (t:Int)).length ≤ 100000:=by rw [aC];omega
 have L:(∃ r' u' v',gO (gNl 4) JG (ts.map fun t:Nat=>PyData.int (t:Int)) [some (.d (.list (hs.map .int))),some (.d (.list (gs.map wiD))),some (.d (.list [])),some (.d (.list [.tuple (hs.map .int)])),none,none]=some (.nx [some (.d (.list (hs.map .int))),some (.d (.list (gs.map wiD))),some (.d (.list ((lv [hs] (inT gs ts)).map dtt))),r',u',v'])) ∨
  gO (gNl 4) JG (ts.map fun t:Nat=>PyData.int (t:Int)) [some (.d (.list (hs.map .int))),some (.d (.list (gs.map wiD))),some (.d (.list [])),some (.d (.list [.tuple (hs.map .int)])),none,none]=some (.ex "" "" (.list ((lv [hs] (inT gs ts)).map dtt))):=L
 unfold jj
 simp only [EV,reduceIte,ao,aq,aj,ak,au,aA,aB,La,zU,cZ,Com.sz (show 1 ≤ 1000000 by decide),ht]
 rcases L with ⟨r',u',v',L⟩ | L
 ·rw [L]
  simp only [EV,reduceIte,ao,aq,aj,ak,au,aA,aB,La,Cg,K_,Ce]
 ·rw [L]
  rfl
theorem yZ {k:List Int}:nu S k=none↔k ∉ bL S:=by
 unfold nu bL
 rw [Option.map_eq_none_iff,ig]
 constructor
 ·intro h z
  obtain ⟨q,hq,e⟩:=bY.mp z
  exact h q hq (by simp [e])
 ·intro h q hq z
  exact h (bY.mpr ⟨q,hq,of_decide_eq_true z⟩)
theorem vH {k:List Int} {v:List Int × Int}:(k ∈ bL S∧oU S k v=S)∨(k ∉ bL S∧oU S k v=S++[(k,v)]):=by
 unfold oU
 by_cases h:k ∈ bL S
 ·refine .inl ⟨h,if_pos ?_⟩
  cases e:nu S k with
  | none=>exact absurd h (yZ.mp e)
  | some _=>rfl
 ·refine .inr ⟨h,if_neg ?_⟩
  rw [yZ.mpr h]
  decide
theorem N8 {k:List Int} {v:List Int × Int} {q:Tte} (h:q ∈ S):q ∈ oU S k v:=by
 rcases vH (S:=S) (k:=k) (v:=v) with ⟨_,e⟩ | ⟨_,e⟩ <;> rw [e]
 ·exact h
 ·exact bW _ h
theorem N_ {k:List Int} {v:List Int × Int} {q:Tte} (h:q ∈ oU S k v):q ∈ S∨q=(k,v):=by
 rcases vH (S:=S) (k:=k) (v:=v) with ⟨_,e⟩ | ⟨_,e⟩ <;> rw [e] at h
 ·exact .inl h
 ·rcases cL.mp h with h | h
  ·exact .inl h
  ·exact .inr (aM.mp h)
theorem Oa (S:List Tte) (k:List Int) (v:List Int × Int):k ∈ bL (oU S k v):=by
 rcases vH (S:=S) (k:=k) (v:=v) with ⟨h,e⟩ | ⟨_,e⟩ <;> rw [e]
 ·exact h
 ·exact bY.mpr ⟨_,bF _ (jC _),rfl⟩
theorem R9 {k:List Int} {v:List Int × Int} (h:(bL S).Nodup):(bL (oU S k v)).Nodup:=by
 rcases vH (S:=S) (k:=k) (v:=v) with ⟨_,e⟩ | ⟨hk,e⟩ <;> rw [e]
 ·exact h
 ·unfold bL at h hk ⊢
  rw [cC,sG]
  refine ⟨h,by simp,fun a ha b hb=>?_⟩
  rw [show b=k by simpa using hb]
  intro z
  exact hk (z ▸ ha)
section
variable {g:Wi}
theorem xu {q:Tte}:∀ (ss:List Nat) (S:List Tte),q ∈ S→q ∈ tQ g row S ss
 | [],_,h=>h
 | _ :: ss,_,h=>xu ss _ (N8 h)
theorem Dq {q:Tte}:∀ (ss:List Nat) (S:List Tte),q ∈ tQ g row S ss→q ∈ S∨∃ s ∈ ss,q=(Sd.put row (gp g) s,(row,(s:Int)))
 | [],_,h=>.inl h
 | s :: ss,S,h=>by
  rcases Dq ss _ h with h | ⟨t,ht,e⟩
  ·rcases N_ h with h | h
   ·exact .inl h
   ·exact .inr ⟨s,aG,h⟩
  ·exact .inr ⟨t,aJ _ ht,e⟩
theorem Dr:∀ (ss:List Nat) (S:List Tte),∀ s ∈ ss,Sd.put row (gp g) s ∈ bL (tQ g row S ss)
 | [],_,s,h=>by cases h
 | t :: ss,S,s,h=>by
  rcases aY.mp h with rfl | h
  ·obtain ⟨q,hq,e⟩:=bY.mp (Oa S (Sd.put row (gp g) s) (row,(s:Int)))
   exact bY.mpr ⟨q,xu ss _ hq,e⟩
  ·exact Dr ss _ s h
theorem HB:∀ (ss:List Nat) (S:List Tte),(bL S).Nodup→(bL (tQ g row S ss)).Nodup
 | [],_,h=>h
 | _ :: ss,_,h=>HB ss _ (R9 h)
theorem Ds {q:Tte}:∀ (rows:List (List Int)) (S:List Tte),q ∈ S→q ∈ dM g rows S
 | [],_,h=>h
 | _ :: rows,_,h=>Ds rows _ (xu _ _ h)
theorem n8 {q:Tte}:∀ (rows:List (List Int)) (S:List Tte),q ∈ dM g rows S→q ∈ S∨∃ row ∈ rows,∃ s ∈ stN row g,q=(Sd.put row (gp g) s,(row,(s:Int)))
 | [],_,h=>.inl h
 | row :: rows,S,h=>by
  rcases n8 rows _ h with h | ⟨r,hr,z⟩
  ·rcases Dq _ _ h with h | z
   ·exact .inl h
   ·exact .inr ⟨row,aG,z⟩
  ·exact .inr ⟨r,aJ _ hr,z⟩
theorem Dt:∀ (rows:List (List Int)) (S:List Tte),∀ row ∈ rows,∀ s ∈ stN row g,Sd.put row (gp g) s ∈ bL (dM g rows S)
 | [],_,_,h,_,_=>by cases h
 | r :: rows,S,row,h,s,hs=>by
  rcases aY.mp h with rfl | h
  ·obtain ⟨q,hq,e⟩:=bY.mp (Dr (stN row g) S s hs)
   exact bY.mpr ⟨q,Ds rows _ hq,e⟩
  ·exact Dt rows _ row h s hs
theorem HD:∀ (rows:List (List Int)) (S:List Tte),(bL S).Nodup→(bL (dM g rows S)).Nodup
 | [],_,h=>h
 | _ :: rows,_,h=>HD rows _ (HB _ _ h)
theorem YZ {l:List Int} (h:l ≠ []) {z:Int}:mx l ≤ z↔∀ x ∈ l,x ≤ z:=by
 cases l with
 | nil=>exact absurd rfl h
 | cons a r =>
  have sp:=sO r a
  constructor
  ·intro hz x hx
   have:=sp.2 x hx
   show x ≤ z
   have hz:mxI a r ≤ z:=hz
   omega
  ·exact fun hz=>hz _ sp.1
theorem qp {s:Nat} (hg:gOk g):s ∈ stN row g↔Sd.fits row (gp g) s:=by
 have g1:=hg.1
 unfold stN Sd.fits gp
 dsimp only
 rw [iH,aQ,decide_eq_true_iff]
 have sl:∀ (c:(s:Int) ≤ (row.length:Int) - g.2.2),(mx (sli row (s:Int) g.2.2) ≤ g.1↔∀ r,s ≤ r→r < s + g.2.2.toNat→row.getD r 0 ≤ g.1):=fun c=>by
  rw [YZ (wW (by omega) c g1)]
  unfold sli
  rw [show ((s:Int)).toNat=s by omega]
  constructor
  ·intro h r h1 h2
   refine h _ ?_
   rw [pD]
   refine ⟨r - s,?_⟩
   rw [rC,if_pos (by omega),eY,show s + (r - s)=r by omega,aK,aD (by omega)]
   rfl
  ·intro h x hx
   obtain ⟨j,hj⟩:=pD.mp hx
   rw [rC] at hj
   by_cases c2:j < g.2.2.toNat
   ·rw [if_pos c2,eY] at hj
    have:=h (s + j) (by omega) (by omega)
    rw [aK,hj] at this
    exact this
   ·rw [if_neg c2] at hj;cases hj
 constructor
 ·rintro ⟨h1,h2⟩
  have c:(s:Int) ≤ (row.length:Int) - g.2.2:=by omega
  exact ⟨by omega,(sl c).mp h2⟩
 ·rintro ⟨h1,h2⟩
  have c:(s:Int) ≤ (row.length:Int) - g.2.2:=by omega
  exact ⟨by omega,(sl c).mpr h2⟩
end
theorem HJ:∀ (gs:List Wi) (rows:List (List Int)),(∀ g ∈ gs,gOk g)→[] ∈ lv rows gs→∀ row ∈ rows,¬ ∃ (ss:List Nat) (out:List Int),ss.length=gs.length∧Sd.Run row ((gs.map gp).zip ss) out
 | [],rows,_,h,_,_=>by rw [jX] at h;cases h
 | g :: gs,rows,hg,h,row,hr=>by
  rintro ⟨ss,out,hl,run⟩
  cases ss with
  | nil=>cases hl
  | cons s ss =>
   have run:Sd.fits row (gp g) s∧Sd.Run (Sd.put row (gp g) s) ((gs.map gp).zip ss) out:=run
   have hk:=Dt (g:=g) rows [] row hr s ((qp (hg g aG)).mpr run.1)
   rw [fV] at h
   by_cases c:dM g rows []=[]
   ·rw [c] at hk
    cases hk
   ·rw [if_neg c] at h
    rcases aY.mp h with h | h
    ·exact c h.symm
    ·exact HJ gs _ (fun g' h'=>hg g' (aJ _ h')) h _ ((dY _).mem_iff.mpr hk) ⟨ss,out,sH.inj hl,run.2⟩
def bk:List (List Tte)→List Int→Option (List Int × List Nat)
 | [],row=>some (row,[])
 | S :: L,row=>match bk L row with
  | some (r,ss)=>match nu S r with
   | some (p,z)=>some (p,z.toNat :: ss)
   | none=>none
  | none=>none
theorem JK {k:List Int} (h:k ∈ bL S):∃ v,nu S k=some v∧(k,v) ∈ S:=by
 unfold nu
 cases e:S.find? fun q=>decide (q.1=k) with
 | none =>
  obtain ⟨q,hq,z⟩:=bY.mp h
  exact absurd (ig.mp e q hq) (by simp [z])
 | some q =>
  refine ⟨q.2,rfl,?_⟩
  have h1:=gj e
  have h2:q.1=k:=of_decide_eq_true (o9 (p:=fun q:Tte=>decide (q.1=k)) e)
  rw [← h2]
  exact h1
def uW:List (List Tte)→List (List Int)→List (List Int)
 | [],rows=>rows
 | [S],_=>bL S
 | _ :: S :: L,rows=>uW (S :: L) rows
theorem rR (S:List Tte) (L:List (List Tte)) (rows:List (List Int)):uW (S :: L) rows=uW L (bL S):=by
 induction L generalizing S rows with
 | nil=>rfl
 | cons T L ih =>
  show uW (T :: L) rows=uW (T :: L) (bL S)
  rw [ih,ih]
theorem Ob:∀ (gs:List Wi) (rows:List (List Int)),(∀ g ∈ gs,gOk g)→[] ∉ lv rows gs→∀ row ∈ uW (lv rows gs) rows,∃ (r0:List Int) (ss:List Nat),bk (lv rows gs) row=some (r0,ss)∧r0 ∈ rows∧ss.length=gs.length∧Sd.Run r0 ((gs.map gp).zip ss) row
 | [],rows,_,_,row,h=>⟨row,[],by rw [jX];rfl,by rw [jX] at h;exact h,rfl,rfl⟩
 | g :: gs,rows,hg,hn,row,h=>by
  rw [fV] at hn h ⊢
  have c:dM g rows [] ≠ []:=fun z=>hn (by rw [z];exact aG)
  rw [if_neg c] at hn h ⊢
  rw [rR] at h
  have pm:=dY (bL (dM g rows []))
  have h':row ∈ uW (lv (XJ.dH (bL (dM g rows []))) gs) (XJ.dH (bL (dM g rows []))):=by
   cases hL:lv (XJ.dH (bL (dM g rows []))) gs with
   | nil =>
    rw [hL] at h
    exact pm.mem_iff.mpr h
   | cons T L =>
    rw [hL,rR] at h
    rw [rR]
    exact h
  obtain ⟨r1,ss,e,hr1,hl,run⟩:=Ob gs _ (fun g' h'=>hg g' (aJ _ h')) (fun z=>hn (aJ _ z)) row h'
  obtain ⟨v,e2,hv⟩:=JK (pm.mem_iff.mp hr1)
  rcases n8 rows [] hv with z | ⟨r0,hr0,s,hs,eq⟩
  ·cases z
  ·injection eq with q1 q2
   subst q2
   refine ⟨r0,s :: ss,?_,hr0,by rw [bf,bf,hl],?_⟩
   ·unfold bk
    rw [e]
    dsimp only
    rw [e2]
    rfl
   ·show Sd.fits r0 (gp g) s∧Sd.Run (Sd.put r0 (gp g) s) ((gs.map gp).zip ss) row
    rw [← q1]
    exact ⟨(qp (hg g aG)).mp hs,run⟩
def o7:List D→List Nat→List Nat→List D
 | P,t :: ts,s :: ss=>(o7 P ts ss).set t (.int (s:Int))
 | P,_,_=>P
theorem tU:∀ (P:List D) (ts ss:List Nat),(o7 P ts ss).length=P.length
 | P,t :: ts,s :: ss=>by rw [o7,cM,tU]
 | P,[],_=>by unfold o7;rfl
 | P,_ :: _,[]=>by unfold o7;rfl
def zpr (ts:List Nat) (L:List (List Tte)):List D:=(ts.zip L).map fun q=>PyData.tuple [.int (q.1:Int),dtt q.2]
theorem Od {r:List Int} {v:List Int × Int} (h:nu S r=some v):rO (dtt S) (rwD r)=some (ttV v):=by
 unfold rO
 rw [Cr,aN,Ax,aN,h]
 rfl
def uI (S:List Tte):List Int:=(XJ.dH (bL S)).getD 0 []
def Du:List (List Tte)→List Int
 | []=>[]
 | [S]=>uI S
 | _ :: S :: L=>Du (S :: L)
theorem JL (S T:List Tte) (L:List (List Tte)):Du (S :: T :: L)=Du (T :: L):=rfl
noncomputable abbrev Oe:=cA (sIf (bU (dUn Iz (aF 3))) (cj 3 (dOp gIx (dCall XJ.oW (aH (aF 5) (bC))) (dC (.int 0)))) (fK)) (cA (Kr 2 (aF 4) (dOp gIx (dOp rO (aF 5) (aF 3)) (dC (.int 1)))) (cj 3 (dOp gIx (dOp rO (aF 5) (aF 3)) (dC (.int 0)))))
theorem zc {a b:Option U} {n:Nat}:∀ (ts:List Nat) (L:List (List Tte)) (P:List D) (r0:List Int) (ss:List Nat) (u v:Option U) (m:List D),L ≠ []→ts.length=L.length→(∀ t ∈ ts,t < P.length)→Few L→(∀ S ∈ L,S ≠ []∧∀ q ∈ S,0 ≤ q.2.2)→bk L (Du L)=some (r0,ss) →
 ∃ u' v',gO (gTn 2 (cP (gNl 4) (cP (gNl 5) (jE)))) Oe ((zpr ts L).reverse++m) [a,b,some (.d (.list P)),some (.d .none),u,v]=gO (gTn 2 (cP (gNl 4) (cP (gNl 5) (jE)))) Oe m [a,b,some (.d (.list (o7 P ts ss))),some (.d (rwD r0)),u',v']
 | [],L,P,r0,ss,u,v,m,hL,hl,_,_,_,_=>by
  cases L with
  | nil=>exact absurd rfl hL
  | cons _ _=>cases hl
 | t :: ts,[],P,r0,ss,u,v,m,hL,_,_,_,_,_=>absurd rfl hL
 | t :: ts,S :: L,P,r0,ss,u,v,m,_,hl,ht,hf,hz,hb=>by
  have hl:ts.length=L.length:=sH.inj hl
  have tl:=ht t aG
  obtain ⟨f1,f2⟩:=hf S aG
  obtain ⟨z1,z2⟩:=hz S aG
  have zr:(zpr (t :: ts) (S :: L)).reverse++m=(zpr ts L).reverse++(PyData.tuple [.int (t:Int),dtt S] :: m):=by
   unfold zpr
   rw [rD,aV,iU,iV]
   rfl
  rw [zr]
  have kv:∀ {r:List Int} {v:List Int × Int},nu S r=some v→0 ≤ v.2:=fun {r v} h=>by
   unfold nu at h
   cases e:S.find? fun q=>decide (q.1=r) with
   | none=>rw [e] at h;cases h
   | some q =>
    rw [e] at h
    cases h
    exact z2 q (gj e)
  have i1:∀ v:List Int × Int,gIx (ttV v) (.int 1)=some (.int v.2):=fun _=>rfl
  have i0:∀ v:List Int × Int,gIx (ttV v) (.int 0)=some (rwD v.1):=fun _=>rfl
  have nn:isNone .none=true:=rfl
  have nr:∀ r:List Int,isNone (rwD r)=false:=fun _=>rfl
  have g1:∀ (x:Option U) (Q:List D) (u v:Option U),(gTn 2 (cP (gNl 4) (cP (gNl 5) (jE)))) (PyData.tuple [.int (t:Int),dtt S]) [a,b,some (.d (.list Q)),x,u,v]=some [a,b,some (.d (.list Q)),x,some (.d (.int (t:Int))),some (.d (dtt S))]:=fun _ _ _ _=>rfl
  by_cases c:L=[]
  ·subst c
   obtain rfl:ts=[]:=bR.mp hl
   have hb:(match nu S (uI S) with | some (p,z)=>some (p,z.toNat :: []) | none=>none)=some (r0,ss):=hb
   cases hk:nu S (uI S) with
   | none=>rw [hk] at hb;cases hb
   | some w =>
    rw [hk] at hb
    cases hb
    have w0:=kv hk
    have gt:=Od hk
    have so:=xr f1 fun k hk=>(f2 k hk).1
    have rl:0 < (XJ.dH (bL S)).length:=by
     rw [(dY _).length_eq]
     unfold bL
     rw [aC]
     exact qw.mpr z1
    have fa:pAt ((XJ.dH (bL S)).map rwD) 0=some (rwD (uI S)):=by
     rw [gW rwD [] (by omega) (by omega)]
     rfl
    have px:=Hu tl
    have b1:Oe [a,b,some (.d (.list P)),some (.d .none),some (.d (.int (t:Int))),some (.d (dtt S))]=some (.nx [a,b,some (.d (.list (P.set t (.int w.2)))),some (.d (rwD w.1)),some (.d (.int (t:Int))),some (.d (dtt S))]):=by
     simp only [EV,reduceIte,ao,aq,aj,ak,au,aA,aB,nn,so,fa,gt,i1,i0,px,aN]
    refine ⟨some (.d (.int (t:Int))),some (.d (dtt S)),(nA (g1 _ _ _ _) b1).trans ?_⟩
    rw [o7,show o7 P [] []=P by unfold o7;rfl,show ((w.2.toNat:Nat):Int)=w.2 by omega]
  ·obtain ⟨T,L',rfl⟩:=List.exists_cons_of_ne_nil c
   rw [JL] at hb
   unfold bk at hb
   cases hbk:bk (T :: L') (Du (T :: L')) with
   | none=>rw [hbk] at hb;cases hb
   | some q =>
    obtain ⟨r1,ss1⟩:=q
    rw [hbk] at hb
    dsimp only at hb
    cases hk:nu S r1 with
    | none=>rw [hk] at hb;cases hb
    | some w =>
     rw [hk] at hb
     cases hb
     have w0:=kv hk
     have gt:=Od hk
     obtain ⟨u1,v1,e⟩:=zc (a:=a) (b:=b) (n:=n) ts (T :: L') P r1 ss1 u v (PyData.tuple [.int (t:Int),dtt S] :: m) (by simp) hl (fun q hq=>ht q (aJ _ hq)) (fun S' h'=>hf S' (aJ _ h')) (fun S' h'=>hz S' (aJ _ h')) hbk
     have px:pIx (o7 P ts ss1).length (t:Int)=some t:=Hu (by rw [tU];exact tl)
     have b1:Oe [a,b,some (.d (.list (o7 P ts ss1))),some (.d (rwD r1)),some (.d (.int (t:Int))),some (.d (dtt S))]=some (.nx [a,b,some (.d (.list ((o7 P ts ss1).set t (.int w.2)))),some (.d (rwD w.1)),some (.d (.int (t:Int))),some (.d (dtt S))]):=by
      simp only [EV,reduceIte,ao,aq,aj,ak,au,aA,aB,nr,gt,i1,i0,px,aN]
     refine ⟨some (.d (.int (t:Int))),some (.d (dtt S)),e.trans ((nA (g1 _ _ _ _) b1).trans ?_)⟩
     rw [o7,show ((w.2.toNat:Nat):Int)=w.2 by omega]
theorem Dv {P:List D}:∀ (ts ss:List Nat),ts.length=ss.length→∀ i,i ∈ ts→i < P.length→(o7 P ts ss)[i]? = some (.int ((ss.getD (ts.idxOf i) 0:Nat):Int))
 | [],_,_,i,h,_=>by cases h
 | _ :: _,[],h,_,_,_=>by cases h
 | t :: ts,s :: ss,hl,i,hi,hp=>by
  rw [o7,jM]
  by_cases c:t=i
  ·subst c
   rw [if_pos rfl,if_pos (by rw [tU];exact hp)]
   simp
  ·rw [if_neg c]
   rcases aY.mp hi with z | hi
   ·exact absurd z.symm c
   ·rw [Dv ts ss (sH.inj hl) i hi hp]
    have c2:(t == i)=false:=by simpa using c
    rw [List.idxOf_cons,c2]
    rfl
def xG (n:Nat) (ts ss:List Nat):List Int:=(aZ n).map fun i=>((ss.getD (ts.idxOf i) 0:Nat):Int)
theorem R_ {ss:List Nat} (pm:ts.Perm (aZ n)) (hl:ts.length=ss.length):o7 (bA n .none) ts ss=(xG n ts ss).map .int:=by
 apply dN
 intro i
 unfold xG
 rw [dI,aO]
 by_cases c:i < n
 ·rw [Dv ts ss hl i (pm.mem_iff.mpr (aQ.mpr c)) (by simpa using c),fO c]
  rfl
 ·rw [aP (by rw [tU,bO];omega),aP (by rw [bH];omega)]
  rfl
theorem HN:∀ (ts:List Nat) (L:List (List Tte)),jR (ts.map fun t:Nat=>PyData.int (t:Int)) (L.map dtt)=zpr ts L
 | [],_=>by simp [jR,zpr]
 | _ :: _,[]=>by simp [jR,zpr]
 | t :: ts,S :: L=>by
  show PyData.tuple [.int (t:Int),dtt S] :: jR (ts.map fun t:Nat=>PyData.int (t:Int)) (L.map dtt)=_
  rw [HN ts L]
  rfl
theorem Y0 {k:Nat} (h:k ≤ 1000):Qa (.list [.none]) (.int (k:Int))=some (.list (bA k .none)):=by
 show (if [PyData.none].length * ((k:Int)).toNat ≤ 1000000∧-(2 ^ 63) ≤ (k:Int)∧(k:Int) < 2 ^ 63 then some (PyData.list (bA ((k:Int)).toNat [PyData.none]).flatten) else none)=_
 rw [if_pos ⟨by simp;omega,by omega,by omega⟩,show ((k:Int)).toNat=k by omega]
 congr 2
 induction k with
 | zero=>rfl
 | succ k ih=>rw [cJ,fJ,ih (by omega),cJ];rfl
section
variable {gs:List Wi} {ts:List Nat} {L:List (List Tte)}
theorem rE {r0:List Int} {ss:List Nat} (hl:gs.length < 64) (ht:gQ [.list (gs.map wiD)]=some (.list (ts.map fun t:Nat=>PyData.int (t:Int)))) (pm:ts.Perm (aZ gs.length)) (ll:ts.length=L.length) (ls:ts.length=ss.length) (hf:Few L) (hz:∀ S ∈ L,S ≠ []∧∀ q ∈ S,0 ≤ q.2.2) (hb:L ≠ []→bk L (Du L)=some (r0,ss)) :
 jK [.list (L.map dtt),.list (gs.map wiD)]=some (.list ((xG gs.length ts ss).map .int)):=by
 have tl:ts.length=gs.length:=by rw [pm.length_eq,bH]
 have rp:=Y0 (k:=gs.length) (by omega)
 have zp:uw (.list (ts.map fun t:Nat=>PyData.int (t:Int))) (.list (L.map dtt))=some (.list (zpr ts L)):=by
  show (if (ts.map fun t:Nat=>PyData.int (t:Int)).length ≤ 1000 then some (PyData.list (jR _ _)) else none)=_
  rw [if_pos (by rw [aC];omega),HN]
 have re:Qd (dOp uw (dCall gQ (aH (aF 1) (bC))) (aF 0)) [some (.d (.list (L.map dtt))),some (.d (.list (gs.map wiD))),some (.d (.list (bA gs.length .none))),some (.d .none),none,none]=some (zpr ts L).reverse:=by
  unfold Qd
  have:(dOp uw (dCall gQ (aH (aF 1) (bC))) (aF 0)) [some (.d (.list (L.map dtt))),some (.d (.list (gs.map wiD))),some (.d (.list (bA gs.length .none))),some (.d .none),none,none]=some (.list (zpr ts L)):=by
   simp only [EV,reduceIte,ao,aq,aj,ak,au,aA,aB,ht,zp]
  rw [this]
  rfl
 have fl:flats ((xG gs.length ts ss).map PyData.int)=true:=oX _
 have lo:∃ r' u' v',gO (gTn 2 (cP (gNl 4) (cP (gNl 5) (jE)))) Oe (zpr ts L).reverse [some (.d (.list (L.map dtt))),some (.d (.list (gs.map wiD))),some (.d (.list (bA gs.length .none))),some (.d .none),none,none]=some (.nx [some (.d (.list (L.map dtt))),some (.d (.list (gs.map wiD))),some (.d (.list ((xG gs.length ts ss).map .int))),r',u',v']):=by
  by_cases c:L=[]
  ·subst c
   have t0:ts=[]:=bR.mp ll
   have g0:gs=[]:=bR.mp (by rw [← tl,t0];rfl)
   subst t0 g0
   exact ⟨_,_,_,rfl⟩
  ·obtain ⟨u',v',e⟩:=zc (a:=some (.d (.list (L.map dtt)))) (b:=some (.d (.list (gs.map wiD)))) (n:=0) ts L (bA gs.length .none) r0 ss none none [] c ll (fun t h=>by rw [bO];exact aQ.mp (pm.mem_iff.mp h)) hf hz (hb c)
   rw [cH,R_ pm ls] at e
   exact ⟨_,_,_,e⟩
 obtain ⟨r',u',v',lo⟩:=lo
 unfold jK
 simp only [EV,reduceIte,ao,aq,aj,ak,au,aA,aB,lMp,Com.sz (show 1 ≤ 1000000 by decide),rp,re]
 rw [lo]
 simp only [EV,reduceIte,ao,aq,aj,ak,au,aA,aB,fl]
end
theorem Og:∀ (gs:List Wi) (rows:List (List Int)),[] ∉ lv rows gs→(lv rows gs).length=gs.length
 | [],rows,_=>by rw [jX];rfl
 | g :: gs,rows,h=>by
  rw [fV] at h ⊢
  have c:dM g rows [] ≠ []:=fun z=>h (by rw [z];exact aG)
  rw [if_neg c] at h ⊢
  rw [bf,bf,Og gs _ fun z=>h (aJ _ z)]
theorem FQ:∀ (gs:List Wi) (rows:List (List Int)),[] ∈ lv rows gs→∃ L',lv rows gs=L'++[[]]∧[] ∉ L'
 | [],rows,h=>by rw [jX] at h;cases h
 | g :: gs,rows,h=>by
  rw [fV] at h ⊢
  by_cases c:dM g rows []=[]
  ·rw [if_pos c,c]
   exact ⟨[],rfl,by simp⟩
  ·rw [if_neg c] at h ⊢
   rcases aY.mp h with h | h
   ·exact absurd h.symm c
   ·obtain ⟨L',e,hn⟩:=FQ gs _ h
    rw [e]
    refine ⟨dM g rows [] :: L',rfl,fun z=>?_⟩
    rcases aY.mp z with z | z
    ·exact c z.symm
    ·exact hn z
theorem Oh:∀ (gs:List Wi) (rows:List (List Int)) (S:List Tte),S ∈ lv rows gs→∀ q ∈ S,0 ≤ q.2.2
 | [],rows,S,h,_,_=>by rw [jX] at h;cases h
 | g :: gs,rows,S,h,q,hq=>by
  rw [fV] at h
  rcases aY.mp h with rfl | h
  ·rcases n8 rows [] hq with z | ⟨r,_,s,_,e⟩
   ·cases z
   ·rw [e]
    show (0:Int) ≤ (s:Int)
    omega
  ·by_cases c:dM g rows []=[]
   ·rw [if_pos c] at h;cases h
   ·rw [if_neg c] at h
    exact Oh gs _ S h q hq
theorem JM (h:S ≠ []):uI S ∈ bL S:=by
 have rl:0 < (XJ.dH (bL S)).length:=by
  rw [(dY _).length_eq]
  unfold bL
  rw [aC]
  exact qw.mpr h
 refine (dY _).mem_iff.mp ?_
 unfold uI
 rw [aK,aD rl]
 exact cY rl
theorem Dw:∀ (L:List (List Tte)) (rows:List (List Int)),L ≠ []→[] ∉ L→Du L ∈ uW L rows
 | [],_,h,_=>absurd rfl h
 | [S],rows,_,hn=>JM fun z=>hn (by rw [z];exact aG)
 | _ :: S :: L,rows,_,hn=>Dw (S :: L) rows (by simp) fun z=>hn (aJ _ z)
theorem vI:pAt (l++[d]) (-1)=some d:=by
 unfold pAt pIx
 simp
 rw [if_pos (by omega),aN,show (-1 + ((l.length:Int) + 1)).toNat=l.length by omega,cF (aL _)]
 simp
section
variable {gs:List Wi} {ts:List Nat} {hs:List Int}
theorem Sg (hg:∀ g ∈ gs,gOk g) (hl:gs.length < 64) (wl:hs.length ≤ 100) (ht:gQ [.list (gs.map wiD)]=some (.list (ts.map fun t:Nat=>PyData.int (t:Int)))) (pm:ts.Perm (aZ gs.length)) (hf:Few (lv [hs] (inT gs ts))) (hn:[] ∈ lv [hs] (inT gs ts)) :
 dD [.list (hs.map .int),.list (gs.map wiD)]=some (.tuple [.str "none", .list ((lv [hs] (inT gs ts)).map fun S=>PyData.list ((XJ.dH (bL S)).map rwD))]):=by
 have al:=all_gen hg hl wl ht pm hf
 obtain ⟨L',e,_⟩:=FQ _ _ hn
 generalize hL:lv [hs] (inT gs ts)=L at al hf e ⊢
 have tn:=Ay []
 have pe:pAt (L.map dtt) (-1)=some (dtt []):=by
  rw [e,cC]
  exact vI
 have ln:decide (((L.map dtt).length:Int) > 0)=true:=dTr (by rw [e];simp)
 have C:=u_ (g:=(gNl 0)) (c:=(D3.j_)) (e:=(dCall XJ.oW (aH (aF 0) (bC)))) (δ:=[none]) dtt (fun S=>PyData.list ((XJ.dH (bL S)).map rwD)) L (fun S hS=>by
  refine ⟨[some (.d (dtt S))],rfl,rfl,?_⟩
  have so:=xr (hf S hS).1 fun k hk=>((hf S hS).2 k hk).1
  simp only [EV,reduceIte,ao,aq,aj,ak,au,aA,aB,so])
 have ca:∀ a b c:Option U,iK 1 [] [a,b,c]=[none]:=fun _ _ _=>rfl
 have z0:decide (((([]:List Tte).length:Nat):Int)=0)=true:=rfl
 have ll:(L.map dtt).length ≤ 100000:=by
  have:L.length ≤ gs.length:=by
   rw [← hL]
   have:∀ (gs:List Wi) (rows:List (List Int)),(lv rows gs).length ≤ gs.length:=fun gs=>by
    induction gs with
    | nil=>exact fun rows=>by rw [jX];exact aL _
    | cons g gs ih =>
     intro rows
     rw [fV,bf,bf]
     split
     ·simp
     ·exact nJ (ih _)
   refine aW (this _ _) ?_
   unfold inT
   rw [aC,pm.length_eq,bH]
   exact aL _
  rw [aC]
  omega
 unfold dD
 simp only [EV,reduceIte,ao,aq,aj,ak,au,aA,aB,al,ln,pe,tn,z0,ll,ca,C,Com.sz (show 2 ≤ 1000000 by decide)]
theorem Oi (hg:∀ g ∈ gs,gOk g) (hl:gs.length < 64) (wl:hs.length ≤ 100) (ht:gQ [.list (gs.map wiD)]=some (.list (ts.map fun t:Nat=>PyData.int (t:Int)))) (pm:ts.Perm (aZ gs.length)) (hf:Few (lv [hs] (inT gs ts))) (hn:[] ∉ lv [hs] (inT gs ts)) :
 ∃ (ss:List Nat) (out:List Int),ss.length=ts.length∧Sd.Run hs (((inT gs ts).map gp).zip ss) out∧dD [.list (hs.map .int),.list (gs.map wiD)]=some (.tuple [.str "laid", .list ((xG gs.length ts ss).map .int)]):=by
 have al:=all_gen hg hl wl ht pm hf
 have tl:ts.length=gs.length:=by rw [pm.length_eq,bH]
 have Ll:=Og _ _ hn
 have it:(inT gs ts).length=ts.length:=by unfold inT;rw [aC]
 have gk:∀ g ∈ inT gs ts,gOk g:=fun g h=>by
  obtain ⟨t,h1,rfl⟩:=bY.mp h
  have:=aQ.mp (pm.mem_iff.mp h1)
  unfold gat
  rw [aK,aD this]
  exact hg _ (cY this)
 have way:∃ (ss:List Nat) (out:List Int),ss.length=ts.length∧Sd.Run hs (((inT gs ts).map gp).zip ss) out∧(lv [hs] (inT gs ts) ≠ []→bk (lv [hs] (inT gs ts)) (Du (lv [hs] (inT gs ts)))=some (hs,ss)):=by
  by_cases c:lv [hs] (inT gs ts)=[]
  ·have t0:ts=[]:=bR.mp (by rw [← it,← Ll,c];rfl)
   subst t0
   exact ⟨[],hs,rfl,rfl,fun z=>absurd c z⟩
  ·obtain ⟨r0,ss,e,hr,hl',run⟩:=Ob _ _ gk hn _ (Dw _ [hs] c hn)
   rw [aM.mp hr] at e run
   exact ⟨ss,_,hl'.trans it,run,fun _=>e⟩
 obtain ⟨ss,out,sl,run,hb⟩:=way
 have pl:=rE hl ht pm (by rw [Ll,it]) sl.symm hf (fun S h=>⟨fun z=>hn (z ▸ h),Oh _ _ S h⟩) hb
 refine ⟨ss,out,sl,run,?_⟩
 generalize hL:lv [hs] (inT gs ts)=L at al hf hn pl Ll
 unfold dD
 by_cases c:L=[]
 ·subst c
  have al:jj [.list (hs.map .int),.list (gs.map wiD)]=some (.list []):=al
  have pl:jK [.list [],.list (gs.map wiD)]=some (.list ((xG gs.length ts ss).map .int)):=pl
  have ln:decide (((([]:List D).length:Nat):Int) > 0)=false:=rfl
  simp only [EV,reduceIte,ao,aq,aj,ak,au,aA,aB,al,ln,pl,Com.sz (show 2 ≤ 1000000 by decide)]
 ·obtain ⟨L',S,rfl⟩:∃ L' S,L=L'++[S]:=⟨L.dropLast,L.getLast c,(List.dropLast_concat_getLast c).symm⟩
  have ln:decide ((((L'++[S]).map dtt).length:Int) > 0)=true:=dTr (by simp)
  have pe:pAt ((L'++[S]).map dtt) (-1)=some (dtt S):=by
   rw [cC]
   exact vI
  have tn:=Ay S
  have z0:decide ((S.length:Int)=0)=false:=dFa fun z=>hn (by
   have:S=[]:=bR.mp (by omega)
   rw [this]
   simp)
  simp only [EV,reduceIte,ao,aq,aj,ak,au,aA,aB,al,ln,pe,tn,z0,pl,Com.sz (show 2 ≤ 1000000 by decide)]
end
def pr (gs:List Wi) (ts ss:List Nat) (t:Nat):Sd.Pl:=(gp (gat gs t),ss.getD (ts.idxOf t) 0)
theorem Oj:∀ (ts ss:List Nat),ts.Nodup→ts.length=ss.length→((inT gs ts).map gp).zip ss=ts.map (pr gs ts ss)
 | ts,ss,nd,hl=>by
  unfold inT
  rw [dI]
  apply dN
  intro i
  rw [aO]
  by_cases hi:i < ts.length
  ·have hs:i < ss.length:=by omega
   rw [List.getElem?_zip_eq_some.mpr ⟨(by rw [aO,aD hi];rfl:(ts.map (gp ∘ gat gs))[i]? = some (gp (gat gs ts[i]),ss[i]).1),(aD hs:ss[i]? = some (gp (gat gs ts[i]),ss[i]).2)⟩,aD hi]
   have ix:ts.idxOf ts[i]=i:=List.Nodup.idxOf_getElem nd i hi
   show _=some (gp (gat gs ts[i]),ss.getD (ts.idxOf ts[i]) 0)
   rw [ix,aK,aD hs]
   rfl
  ·rw [aP (by simp;omega),aP (by omega)]
   rfl
theorem FW {p q:Sd.Pl} (h:Sd.apart p q):Sd.apart q p:=by
 unfold Sd.apart at h ⊢
 rcases h with h | h | h | h
 ·exact .inr (.inl h)
 ·exact .inl h
 ·exact .inr (.inr (.inr h))
 ·exact .inr (.inr (.inl h))
theorem Dy {l m:List Sd.Pl} (p:l.Perm m) (h:Sd.Sit hs l):Sd.Sit hs m :=
 ⟨fun x hx=>h.1 x (p.mem_iff.mpr hx),p.pairwise h.2 fun {x y} z=>FW z⟩
def std (gs:List Wi) (f:Nat→Nat):List Sd.Pl:=(aZ gs.length).map fun i=>(gp (gat gs i),f i)
theorem DK {s:Nat} (hg:gOk g):roB hs g (s:Int)=true↔Sd.home hs (gp g,s):=by
 have:=qp (g:=g) (row:=hs) (s:=s) hg
 unfold Sd.home
 rw [← this]
 unfold roB stN
 rw [iH,aQ,bw,bw,decide_eq_true_iff,decide_eq_true_iff]
 have:=hg.1
 constructor
 ·rintro ⟨⟨h1,h2⟩,h3⟩
  exact ⟨by omega,h3⟩
 ·rintro ⟨h1,h3⟩
  exact ⟨⟨by omega,by omega⟩,h3⟩
theorem HS {k:Wi} {p q:Nat} (hg:gOk g) (hk:gOk k):apB g (p:Int) k (q:Int)=true↔Sd.apart (gp g,p) (gp k,q):=by
 have:=hg.1
 have:=hk.1
 unfold apB Sd.apart gp
 simp only [lu,decide_eq_true_iff]
 constructor
 ·rintro ((h | h) | (h | h))
  ·exact .inl h
  ·exact .inr (.inl h)
  ·exact .inr (.inr (.inl (by omega)))
  ·exact .inr (.inr (.inr (by omega)))
 ·rintro (h | h | h | h)
  ·exact .inl (.inl h)
  ·exact .inl (.inr h)
  ·exact .inr (.inl (by omega))
  ·exact .inr (.inr (by omega))
theorem Ol (hg:∀ g ∈ gs,grOk g∧gOk g) (f:Nat→Nat):laB hs gs ((aZ gs.length).map fun i=>((f i:Nat):Int))=true↔Sd.Sit hs (std gs f):=by
 have gk:∀ i,i < gs.length→grOk (gat gs i)∧gOk (gat gs i):=fun i hi=>by
  unfold gat
  rw [aK,aD hi]
  exact hg _ (cY hi)
 have gd:∀ i,i < gs.length→((aZ gs.length).map fun i=>((f i:Nat):Int)).getD i 0=((f i:Nat):Int):=fun i hi=>by
  rw [aK,aO,fO hi]
  rfl
 rw [Aw]
 unfold Sd.Sit std
 constructor
 ·rintro ⟨_,h1,h2⟩
  refine ⟨fun p hp=>?_,?_⟩
  ·obtain ⟨i,hi,rfl⟩:=bY.mp hp
   have hi:=aQ.mp hi
   have:=h1 i hi
   rw [gd i hi] at this
   exact (DK (gk i hi).2).mp this
  ·rw [iW,gq]
   intro i j hi hj hij
   simp only [mL]
   have hi:i < gs.length:=by simpa using hi
   have hj:j < gs.length:=by simpa using hj
   have:=h2 j hj
   unfold beB at this
   have:=cB.mp this i (aQ.mpr hij)
   rw [gd j hj,gd i hi,← uG (gk j hj).1 (gk i hi).1] at this
   exact (HS (gk i hi).2 (gk j hj).2).mp this
 ·rintro ⟨h1,h2⟩
  refine ⟨by simp,fun i hi=>?_,fun j hj=>?_⟩
  ·rw [gd i hi]
   exact (DK (gk i hi).2).mpr (h1 _ (bY.mpr ⟨i,aQ.mpr hi,rfl⟩))
  ·unfold beB
   refine cB.mpr fun i hi=>?_
   have hij:=aQ.mp hi
   have hi:i < gs.length:=by omega
   rw [gd j hj,gd i hi,← uG (gk j hj).1 (gk i hi).1]
   refine (HS (gk i hi).2 (gk j hj).2).mpr ?_
   rw [iW,gq] at h2
   have:=h2 i j (by simpa using hi) (by simpa using hj) hij
   simpa using this
section
variable {gs:List Wi} {ts:List Nat} {hs:List Int}
theorem Wv (h:grOk g):Sd.gok (gp g):=by
 have a:=h.f
 have b:=h.b
 have c:=h.s
 unfold Sd.gok gp
 exact ⟨a,b,by dsimp only;omega⟩
theorem HW (hg:∀ g ∈ gs,grOk g∧gOk g) (pm:ts.Perm (aZ gs.length)) {f:Nat→Nat}:∀ p ∈ ts.map (fun t=>((gp (gat gs t),f t):Sd.Pl)),Sd.gok p.1:=fun p hp=>by
 obtain ⟨t,h,rfl⟩:=bY.mp hp
 have:=aQ.mp (pm.mem_iff.mp h)
 refine Wv (g:=gat gs t) ?_
 unfold gat
 rw [aK,aD this]
 exact (hg _ (cY this)).1
theorem DN (pw:ts.Pairwise fun a b=>(gat gs a).1 ≤ (gat gs b).1) {f:Nat→Nat}:(ts.map (fun t=>((gp (gat gs t),f t):Sd.Pl))).Pairwise fun p q=>p.1.1 ≤ q.1.1:=by
 rw [iW]
 exact pw
theorem DP (pm:ts.Perm (aZ gs.length)) (f:Nat→Nat):(ts.map (fun t=>((gp (gat gs t),f t):Sd.Pl))).Perm (std gs f):=pm.map _
theorem Tj:∀ (ts:List Nat) (f:Nat→Nat),((inT gs ts).map gp).zip (ts.map f)=ts.map (fun t=>((gp (gat gs t),f t):Sd.Pl))
 | [],_=>rfl
 | t :: ts,f=>by
  show (gp (gat gs t),f t) :: ((inT gs ts).map gp).zip (ts.map f)=_
  rw [Tj ts f]
  rfl
theorem JN (hg:∀ g ∈ gs,grOk g∧gOk g) (pm:ts.Perm (aZ gs.length)) (pw:ts.Pairwise fun a b=>(gat gs a).1 ≤ (gat gs b).1) (hn:[] ∈ lv [hs] (inT gs ts)) (f:Nat→Nat):laB hs gs ((aZ gs.length).map fun i=>((f i:Nat):Int))=false:=by
 cases e:laB hs gs ((aZ gs.length).map fun i=>((f i:Nat):Int)) with
 | false=>rfl
 | true =>
  exfalso
  have st:=Dy (DP pm f).symm ((Ol hg f).mp e)
  obtain ⟨out,run⟩:=(Sd.Hw (HW hg pm) (DN pw)).mpr st
  rw [← Tj] at run
  have gk:∀ g ∈ inT gs ts,gOk g:=fun g h=>by
   obtain ⟨t,h1,rfl⟩:=bY.mp h
   have:=aQ.mp (pm.mem_iff.mp h1)
   unfold gat
   rw [aK,aD this]
   exact (hg _ (cY this)).2
  refine HJ _ _ gk hn hs (jC _) ⟨ts.map f,out,?_,run⟩
  unfold inT
  rw [aC,aC]
theorem JQ (hg:∀ g ∈ gs,grOk g∧gOk g) (pm:ts.Perm (aZ gs.length)) (pw:ts.Pairwise fun a b=>(gat gs a).1 ≤ (gat gs b).1) {ss:List Nat} {out:List Int} (sl:ss.length=ts.length) (run:Sd.Run hs (((inT gs ts).map gp).zip ss) out):laB hs gs (xG gs.length ts ss)=true:=by
 have nd:ts.Nodup:=pm.nodup_iff.mpr List.nodup_range
 rw [Oj ts ss nd sl.symm] at run
 have st:=(Sd.Hw (HW hg pm (f:=fun t=>ss.getD (ts.idxOf t) 0)) (DN pw)).mp ⟨out,run⟩
 exact (Ol hg fun i=>ss.getD (ts.idxOf i) 0).mpr (Dy (DP pm _) st)
end
theorem Om {S:List (List Int)} {k x:List Int}:x ∈ lU S k↔x ∈ S∨x=k:=by
 unfold lU
 split
 ·rename_i h
  exact ⟨.inl,fun z=>z.elim id fun e=>e ▸ h⟩
 ·simp
theorem zf:∀ (ks S:List (List Int)) (x:List Int),x ∈ ks.foldl lU S↔x ∈ S∨x ∈ ks
 | [],S,x=>by simp
 | k :: ks,S,x=>by
  rw [lq,zf ks,Om,aY]
  constructor
  ·rintro ((h | h) | h)
   ·exact .inl h
   ·exact .inr (.inl h)
   ·exact .inr (.inr h)
  ·rintro (h | h | h)
   ·exact .inl (.inl h)
   ·exact .inl (.inr h)
   ·exact .inr h
theorem Oo (T:List (List Int)):j8 (dsT T)=some T:=by
 unfold dsT j8
 dsimp only
 cases T with
 | nil=>rfl
 | cons k T =>
  have:u9 ((k :: T).map fun k=>((.tuple (k.map .int),.bool true):D × D))=none:=rfl
  rw [this]
  exact G4 (k :: T)
theorem HX:∀ rows:List (List Int),rpD (rows.map fun r=>PyData.tuple [rwD r,.bool true])=some rows
 | []=>rfl
 | r :: rows=>by
  show (dg (r.map PyData.int)).bind (fun k=>(rpD (rows.map fun r=>PyData.tuple [rwD r,.bool true])).map (k :: ·))=_
  rw [lW,aN,HX rows]
  rfl
theorem Sh (hl:rows.length ≤ 1000) (sl:S.length ≤ 1000):kO [.list (rows.map rwD),dtt S]=some (.bool ((bL S).all fun k=>decide (k ∈ rows))):=by
 have C1:=u_ (g:=(gNl 0)) (c:=(D3.j_)) (e:=(mQ (dTup (aH (aF 0) (aH (dC (.bool true)) (bC)))))) (δ:=[none]) rwD (fun r=>PyData.tuple [rwD r,.bool true]) rows (fun r _=>by
  refine ⟨[some (.d (rwD r))],rfl,rfl,?_⟩
  have fl:flat (PyData.tuple [rwD r,.bool true])=true:=by
   show (flats (r.map PyData.int) && true)=true
   rw [oX]
   rfl
  simp only [EV,reduceIte,ao,aq,aj,ak,au,aA,aB,Com.sz (show 2 ≤ 1000000 by decide),fl])
 have ca:∀ a b c:Option U,iK 1 [] [a,b,c]=[none]:=fun _ _ _=>rfl
 have gd:wC [.list (rows.map fun r=>PyData.tuple [rwD r,.bool true])]=some (dsT (rows.foldl lU [])):=by
  unfold wC
  dsimp only
  rw [HX,aN,if_pos (by rw [aC];exact hl)]
 have C2:=u_ (g:=(gNl 0)) (c:=(D3.j_)) (e:=(dOp Cu (aF 0) (aF 1))) (δ:=[none,some (.d (dsT (rows.foldl lU [])))]) rwD (fun k=>PyData.bool (decide (k ∈ rows))) (bL S) (fun k _=>by
  refine ⟨[some (.d (rwD k)),some (.d (dsT (rows.foldl lU [])))],rfl,rfl,?_⟩
  have gi:Cu (rwD k) (dsT (rows.foldl lU []))=some (.bool (decide (k ∈ rows))):=by
   unfold Cu
   rw [Oo,aN,Ax]
   show some (PyData.bool (decide (k ∈ rows.foldl lU [])))=_
   congr 2
   rw [decide_eq_decide,zf]
   simp
  simp only [EV,reduceIte,ao,aq,aj,ak,au,aA,aB,gi])
 have cb:∀ a b c:Option U,iK 1 [2] [a,b,c]=[none,c]:=fun _ _ _=>rfl
 have fr:Lr (aF 1) [some (.d (.list (rows.map rwD))),some (.d (dtt S)),some (.d (dsT (rows.foldl lU [])))]=some ((bL S).map rwD):=by
  show (j8 (dtt S)).map _=_
  rw [xq]
  rfl
 have l1:(rows.map rwD).length ≤ 100000:=by rw [aC];omega
 have l2:((bL S).map rwD).length ≤ 100000:=by unfold bL;rw [aC,aC];omega
 have ab:u6 [.list ((bL S).map fun k=>PyData.bool (decide (k ∈ rows)))]=some (.bool ((bL S).all fun k=>decide (k ∈ rows))):=by
  have:∀ l:List (List Int),gA (l.map fun k=>PyData.bool (decide (k ∈ rows)))=some (l.map fun k=>decide (k ∈ rows)):=fun l=>by
   induction l with
   | nil=>rfl
   | cons a r ih=>rw [aV,gA,ih];rfl
  show (gA _).map _=_
  rw [this]
  simp [List.all_map]
 unfold kO
 simp only [EV,reduceIte,ao,aq,aj,ak,au,aA,aB,l1,ca,C1,gd,fr,l2,cb,C2,ab]
theorem Oq {r:List Int} (hl:r.length ≤ 1000):fG [rwD r]=some (.bool true):=by
 have C:=u_ (g:=(gNl 0)) (c:=(D3.j_)) (e:=(dCall dX (aH (aF 0) (bC)))) (δ:=[none]) PyData.int (fun _=>.bool true) r (fun x _=>by
  refine ⟨[some (.d (.int x))],rfl,rfl,?_⟩
  have w:=wh (.int x)
  have w:dX [.int x]=some (.bool true):=w
  simp only [EV,reduceIte,ao,aq,aj,ak,au,aA,aB,w])
 have ca:∀ a:Option U,iK 1 [] [a]=[none]:=fun _=>rfl
 have fs:Qy (aF 0) [some (.d (rwD r))]=some (r.map .int):=rfl
 have ll:(r.map PyData.int).length ≤ 100000:=by rw [aC];omega
 have ab:u6 [.list (r.map fun _=>PyData.bool true)]=some (.bool true):=by
  have:∀ l:List Int,gA (l.map fun _=>PyData.bool true)=some (l.map fun _=>true):=fun l=>by
   induction l with
   | nil=>rfl
   | cons a r ih=>rw [aV,gA,ih];rfl
  show (gA _).map _=_
  rw [this]
  simp
 unfold fG
 simp only [EV,reduceIte,ao,aq,aj,ak,au,aA,aB,fs,ll,ca,C,ab]
theorem Ww {r:List Int} (hl:r.length ≤ 1000):d_ [rwD r,.int (r.length:Int)]=some (.bool true):=by
 have ty:D3.isT "tuple" (tyD (rwD r))=true:=isTup
 have ln:gH [rwD r]=some (.int (r.length:Int)):=by
  show some (PyData.int ((r.map PyData.int).length:Int))=_
  rw [aC]
 have d:decide ((r.length:Int)=(r.length:Int))=true:=by simp
 unfold d_
 simp only [EV,reduceIte,ao,aq,aj,ak,au,aA,aB,ty,ln,d,Oq hl]
theorem Ot {w:Nat} (hw:∀ r ∈ rows,r.length=w) (wl:w ≤ 1000) (hl:rows.length ≤ 1000):gM [.list (rows.map rwD),.int (w:Int)]=some (.bool true):=by
 have C:=u_ (g:=(gNl 0)) (c:=(D3.j_)) (e:=(dCall d_ (aH (aF 0) (aH (aF 1) (bC))))) (δ:=[none,some (.d (.int (w:Int)))]) rwD (fun _=>.bool true) rows (fun r hr=>by
  refine ⟨[some (.d (rwD r)),some (.d (.int (w:Int)))],rfl,rfl,?_⟩
  have t:=Ww (r:=r) (by rw [hw r hr];exact wl)
  rw [hw r hr] at t
  simp only [EV,reduceIte,ao,aq,aj,ak,au,aA,aB,t])
 have ca:∀ a b:Option U,iK 1 [1] [a,b]=[none,b]:=fun _ _=>rfl
 have ty:D3.isT "list" (tyD (.list (rows.map rwD)))=true:=(by decide:D3.isT "list" "list" = true)
 have ll:(rows.map rwD).length ≤ 100000:=by rw [aC];omega
 have ab:u6 [.list (rows.map fun _=>PyData.bool true)]=some (.bool true):=by
  have:∀ l:List (List Int),gA (l.map fun _=>PyData.bool true)=some (l.map fun _=>true):=fun l=>by
   induction l with
   | nil=>rfl
   | cons a r ih=>rw [aV,gA,ih];rfl
  show (gA _).map _=_
  rw [this]
  simp
 unfold gM
 simp only [EV,reduceIte,ao,aq,aj,ak,au,aA,aB,ty,ll,ca,C,ab]
def uJ (gs:List Wi):List (List Int)→List Nat→List (List (List Int))→Bool
 | ah,t :: ts,R :: Rs=>((bL (dM (gat gs t) ah [])).all fun k=>decide (k ∈ R)) && uJ gs R ts Rs
 | _,_,_=>true
def rlD (R:List (List Int)):D:=.list (R.map rwD)
noncomputable abbrev Sq:=cA (sIf (D3.jd (bU (dCall kO (aH (aF 5) (aH (dCall eE (aH (aF 3) (aH (dOp gIx (aF 1) (aF 4)) (bC)))) (bC)))))) (dG (dC (.bool false))) (fK)) (cj 3 (aF 5))
theorem zj (hg:∀ g ∈ gs,gOk g) (a b:Option U):∀ (ts:List Nat) (Rs:List (List (List Int))) (ah:List (List Int)) (u v:Option U),(∀ t ∈ ts,t < gs.length)→ah.length ≤ 1000→(∀ r ∈ ah,r.length ≤ 100)→(∀ R ∈ Rs,R.length ≤ 1000∧∀ r ∈ R,r.length ≤ 100)→(∀ t ∈ ts,∀ ah',(ah'=ah∨ah' ∈ Rs)→(dM (gat gs t) ah' []).length ≤ 1000) →
 (uJ gs ah ts Rs=true∧∃ δ',gO (gTn 2 (cP (gNl 4) (cP (gNl 5) (jE)))) Sq ((ts.zip Rs).map fun q=>PyData.tuple [.int (q.1:Int),rlD q.2]) [a,some (.d (.list (gs.map wiD))),b,some (.d (rlD ah)),u,v]=some (.nx δ')) ∨
 (uJ gs ah ts Rs=false∧gO (gTn 2 (cP (gNl 4) (cP (gNl 5) (jE)))) Sq ((ts.zip Rs).map fun q=>PyData.tuple [.int (q.1:Int),rlD q.2]) [a,some (.d (.list (gs.map wiD))),b,some (.d (rlD ah)),u,v]=some (.rt (.bool false)))
 | [],Rs,ah,u,v,_,_,_,_,_=>.inl ⟨by unfold uJ;rfl,_,by simp only [List.zip_nil_left,eF];exact rfl⟩
 | _ :: _,[],ah,u,v,_,_,_,_,_=>.inl ⟨by unfold uJ;rfl,_,by simp only [List.zip_nil_right,eF];exact rfl⟩
 | t :: ts,R :: Rs,ah,u,v,ht,hl,hr,hR,hS=>by
  have tl:=ht t aG
  have gk:gOk (gat gs t):=by
   unfold gat
   rw [aK,aD tl]
   exact hg _ (cY tl)
  have rb:eE [rlD ah,wiD (gat gs t)]=_:=Dm (g:=gat gs t) (rows:=ah) gk.1 gk.2 hr hl
  have ha:kO [rlD R,dtt (dM (gat gs t) ah [])]=_:=Sh (rows:=R) (S:=dM (gat gs t) ah []) (hR R aG).1 (hS t aG ah (.inl rfl))
  have ga:=FP tl
  rw [rD,aV,uJ]
  cases c:(bL (dM (gat gs t) ah [])).all fun k=>decide (k ∈ R) with
  | false =>
   rw [c] at ha
   refine .inr ⟨rfl,?_⟩
   have b1:Sq [a,some (.d (.list (gs.map wiD))),b,some (.d (rlD ah)),some (.d (.int (t:Int))),some (.d (rlD R))]=some (.rt (.bool false)):=by
    simp only [EV,reduceIte,ao,aq,aj,ak,au,aA,aB,ga,rb,ha]
   rw [gO,show (gTn 2 (cP (gNl 4) (cP (gNl 5) (jE)))) (PyData.tuple [.int (t:Int),rlD R]) [a,some (.d (.list (gs.map wiD))),b,some (.d (rlD ah)),u,v]=some [a,some (.d (.list (gs.map wiD))),b,some (.d (rlD ah)),some (.d (.int (t:Int))),some (.d (rlD R))] from rfl,aN,b1]
   rfl
  | true =>
   rw [c] at ha
   have b1:Sq [a,some (.d (.list (gs.map wiD))),b,some (.d (rlD ah)),some (.d (.int (t:Int))),some (.d (rlD R))]=some (.nx [a,some (.d (.list (gs.map wiD))),b,some (.d (rlD R)),some (.d (.int (t:Int))),some (.d (rlD R))]):=by
    simp only [EV,reduceIte,ao,aq,aj,ak,au,aA,aB,ga,rb,ha]
   have ih:=zj hg a b ts Rs R (some (.d (.int (t:Int)))) (some (.d (rlD R))) (fun q hq=>ht q (aJ _ hq)) (hR R aG).1 (hR R aG).2 (fun R' h'=>hR R' (aJ _ h')) (fun q hq ah' h'=>hS q (aJ _ hq) ah' (.inr (h'.elim (fun e=>e ▸ aG) (aJ _))))
   rw [nj]
   rcases ih with ⟨e1,δ',e2⟩ | ⟨e1,e2⟩
   ·exact .inl ⟨e1,δ',(nA rfl b1).trans e2⟩
   ·exact .inr ⟨e1,(nA rfl b1).trans e2⟩
section
variable {gs:List Wi} {ts:List Nat} {hs:List Int} {Rs:List (List (List Int))}
theorem FZ:∀ (ts:List Nat) (Rs:List (List (List Int))),jR (ts.map fun t:Nat=>PyData.int (t:Int)) (Rs.map rlD)=(ts.zip Rs).map fun q=>PyData.tuple [.int (q.1:Int),rlD q.2]
 | [],_=>by simp [jR]
 | _ :: _,[]=>by simp [jR]
 | t :: ts,R :: Rs=>by
  show PyData.tuple [.int (t:Int),rlD R] :: jR (ts.map fun t:Nat=>PyData.int (t:Int)) (Rs.map rlD)=_
  rw [FZ ts Rs]
  rfl
theorem DQ (hg:∀ g ∈ gs,grOk g∧gOk g) (hl:gs.length < 64) (wl:hs.length ≤ 100) (ht:gQ [.list (gs.map wiD)]=some (.list (ts.map fun t:Nat=>PyData.int (t:Int)))) (pm:ts.Perm (aZ gs.length))
 (h1:Rs.length < gs.length) (hw:∀ R ∈ Rs++[[]],R.length ≤ 1000∧∀ r ∈ R,r.length=hs.length) (hS:∀ t ∈ ts,∀ ah',(ah'=[hs]∨ah' ∈ Rs++[[]])→(dM (gat gs t) ah' []).length ≤ 1000) :
 iR [.list (hs.map .int),.list (gs.map wiD),.list ((Rs++[[]]).map rlD)]=some (.bool (uJ gs [hs] ts (Rs++[[]]))):=by
 have ck:cV [.list (gs.map wiD)]=some .none:=mG fun g h=>(hg g h).1
 have ty:D3.isT "list" (tyD (.list ((Rs++[[]]).map rlD)))=true:=(by decide:D3.isT "list" "list" = true)
 have L:=zj (fun g h=>(hg g h).2) (some (.d (.list (hs.map .int)))) (some (.d (.list ((Rs++[[]]).map rlD)))) ts (Rs++[[]]) [hs] none none (fun t h=>aQ.mp (pm.mem_iff.mp h)) (by simp) (fun r hr=>by rw [aM.mp hr];exact wl) (fun R h=>⟨(hw R h).1,fun r hr=>by rw [(hw R h).2 r hr];exact wl⟩) hS
 have c1:decide ((1:Int) ≤ (((Rs++[[]]).map rlD).length:Int))=true:=dTr (by simp;omega)
 have c2:decide ((((Rs++[[]]).map rlD).length:Int) ≤ ((gs.map wiD).length:Int))=true:=dTr (by simp;omega)
 have C:=u_ (g:=(gNl 0)) (c:=(D3.j_)) (e:=(dCall gM (aH (aF 0) (aH (dCall gH (aH (aF 1) (bC))) (bC))))) (δ:=[none,some (.d (.list (hs.map .int)))]) rlD (fun _=>PyData.bool true) (Rs++[[]]) (fun R hR=>by
  refine ⟨[some (.d (rlD R)),some (.d (.list (hs.map .int)))],rfl,rfl,?_⟩
  have r:gM [rlD R,.int (hs.length:Int)]=some (.bool true):=Ot (hw R hR).2 (by omega) (hw R hR).1
  simp only [EV,reduceIte,ao,aq,aj,ak,au,aA,aB,lMp,r])
 have ca:∀ a b c d e f:Option U,iK 1 [0] [a,b,c,d,e,f]=[none,a]:=fun _ _ _ _ _ _=>rfl
 have ab:u6 [.list ((Rs++[[]]).map fun _=>PyData.bool true)]=some (.bool true):=by
  have:∀ l:List (List (List Int)),gA (l.map fun _=>PyData.bool true)=some (l.map fun _=>true):=fun l=>by
   induction l with
   | nil=>rfl
   | cons a r ih=>rw [aV,gA,ih];rfl
  show (gA _).map _=_
  rw [this]
  simp
 have ll:((Rs++[[]]).map rlD).length ≤ 100000:=by simp;omega
 have pe:pAt ((Rs++[[]]).map rlD) (-1)=some (rlD []):=by
  rw [cC]
  exact vI
 have ln:gH [rlD []]=some (.int 0):=rfl
 have d0:decide ((0:Int) > 0)=false:=rfl
 have rh:rlD [hs] = .list [.tuple (hs.map .int)]:=rfl
 rw [rh] at L
 unfold iR
 rcases L with ⟨e1,δ',e2⟩ | ⟨e1,e2⟩
 ·simp only [EV,reduceIte,ao,aq,aj,ak,au,aA,aB,ck,ty,c1,c2,ll,ca,C,ab,pe,ln,d0,zU,Com.sz (show 1 ≤ 1000000 by decide),ht,FZ,e2]
  rw [e1]
 ·simp only [EV,reduceIte,ao,aq,aj,ak,au,aA,aB,ck,ty,c1,c2,ll,ca,C,ab,pe,ln,d0,zU,Com.sz (show 1 ≤ 1000000 by decide),ht,FZ,e2]
  rw [e1]
end
theorem DR (gs:List Wi):∀ (ts:List Nat) (rows:List (List Int)),uJ gs rows ts ((lv rows (inT gs ts)).map fun S=>XJ.dH (bL S))=true
 | [],rows=>by unfold uJ;rfl
 | t :: ts,rows=>by
  rw [show inT gs (t :: ts)=gat gs t :: inT gs ts from rfl,fV,aV,uJ,bw]
  refine ⟨cB.mpr fun k hk=>dTr ((dY _).mem_iff.mpr hk),?_⟩
  split
  ·cases ts <;> (unfold uJ;rfl)
  ·exact DR gs ts _
theorem n_ {w:Nat}:∀ (gs:List Wi) (rows:List (List Int)),(∀ r ∈ rows,r.length=w)→∀ S ∈ lv rows gs,∀ k ∈ bL S,k.length=w
 | [],rows,_,S,h,_,_=>by rw [jX] at h;cases h
 | g :: gs,rows,hr,S,h,k,hk=>by
  have beh:∀ k ∈ bL (dM g rows []),k.length=w:=fun k hk=>by
   obtain ⟨q,hq,rfl⟩:=bY.mp hk
   rcases n8 rows [] hq with z | ⟨r,h1,s,_,e⟩
   ·cases z
   ·rw [e]
    exact (Sd.jV _ _ _).trans (hr r h1)
  rw [fV] at h
  rcases aY.mp h with rfl | h
  ·exact beh k hk
  ·by_cases c:dM g rows []=[]
   ·rw [if_pos c] at h;cases h
   ·rw [if_neg c] at h
    exact n_ gs _ (fun r h1=>beh r ((dY _).mem_iff.mp h1)) S h k hk
theorem Ou {t:Nat} (h:[] ∉ lv [hs] (inT gs (t :: ts))):dM (gat gs t) [hs] [] ≠ []:=fun z=>h (by
 rw [show inT gs (t :: ts)=gat gs t :: inT gs ts from rfl,fV,z]
 exact aG)
theorem JR {t:Nat} (h:dM (gat gs t) [hs] [] ≠ []):uJ gs [hs] (t :: ts) [[]]=false:=by
 rw [uJ,pB]
 left
 cases e:dM (gat gs t) [hs] [] with
 | nil=>exact absurd e h
 | cons q S =>
  unfold bL
  rw [aV,List.all_cons]
  rfl
theorem pZ {w:Nat} (hg:1 ≤ g.2.2):∀ (rows:List (List Int)) (S:List Tte),(∀ r ∈ rows,r.length=w)→(dM g rows S).length ≤ S.length + rows.length * w
 | [],S,_=>by simp [dM]
 | row :: rows,S,h=>by
  have h1:=tR g row (stN row g) S
  have h2:=Hz row g hg
  have h3:=pZ hg rows (tQ g row S (stN row g)) fun r hr=>h r (aJ _ hr)
  have h4:=h row aG
  show (dM g rows (tQ g row S (stN row g))).length ≤ _
  rw [bf,rW]
  omega
theorem tV {w:Nat}:∀ (gs:List Wi) (rows:List (List Int)),(∀ g ∈ gs,gOk g)→(∀ r ∈ rows,r.length=w)→∀ (i:Nat) (S:List Tte),(lv rows gs)[i]? = some S→S.length ≤ rows.length * w ^ (i + 1)
 | [],rows,_,_,i,S,h=>by rw [jX] at h;simp at h
 | g :: gs,rows,hg,hr,i,S,h=>by
  have b:=pZ (g:=g) (w:=w) (hg g aG).1 rows [] hr
  rw [fV] at h
  cases i with
  | zero =>
   simp at h
   subst h
   simpa using b
  | succ i =>
   rw [jD] at h
   by_cases c:dM g rows []=[]
   ·rw [if_pos c] at h;simp at h
   ·rw [if_neg c] at h
    have pm:=dY (bL (dM g rows []))
    have wd:∀ r ∈ XJ.dH (bL (dM g rows [])),r.length=w:=fun r h1=>by
     have:=n_ (w:=w) (g :: gs) rows hr (dM g rows []) (by rw [fV];exact aG) r (pm.mem_iff.mp h1)
     exact this
    have ih:=tV gs _ (fun g' h'=>hg g' (aJ _ h')) wd i S h
    have l1:(XJ.dH (bL (dM g rows []))).length=(dM g rows []).length:=by
     rw [pm.length_eq]
     unfold bL
     rw [aC]
    rw [l1] at ih
    refine aW ih ?_
    rw [lO w (i + 1),lK (w ^ (i + 1)) w,← qJ]
    refine pN _ ?_
    simpa using b
theorem tW (S:List Tte):(bL S).length=S.length:=by unfold bL;rw [aC]
theorem zm {c:Nat}:∀ (rows:List (List Int)) (S:List Tte),(∀ r ∈ rows,(stN r g).length ≤ c)→(dM g rows S).length ≤ S.length + rows.length * c
 | [],S,_=>by simp [dM]
 | row :: rows,S,h=>by
  have h1:=tR g row (stN row g) S
  have h2:=h row aG
  have h3:=zm rows (tQ g row S (stN row g)) fun r hr=>h r (aJ _ hr)
  show (dM g rows (tQ g row S (stN row g))).length ≤ _
  rw [bf,rW]
  omega
theorem Ov {s:Nat} (hg:1 ≤ g.2.2) (hs:s < row.length) (h:s ∉ stN row g):(stN row g).length ≤ row.length - 1:=by
 have nd:(s :: stN row g).Nodup:=gB.mpr ⟨h,by unfold stN;exact List.Nodup.sublist List.filter_sublist List.nodup_range⟩
 have sub:s :: stN row g ⊆ aZ row.length:=fun x hx=>by
  rcases aY.mp hx with rfl | hx
  ·exact aQ.mpr hs
  ·unfold stN at hx
   have:=aQ.mp (iH.mp hx).1
   exact aQ.mpr (by omega)
 have:=List.Nodup.length_le_of_subset nd sub
 rw [bf,bH] at this
 omega
theorem two_few {k:Wi} (hw:hs.length ≤ 3) (hg:grOk g∧gOk g) (hk:gOk k) (asc:g.1 ≤ k.1):(dM k (XJ.dH (bL (dM g [hs] []))) []).length ≤ 6:=by
 have pm:=dY (bL (dM g [hs] []))
 have mem:∀ r ∈ XJ.dH (bL (dM g [hs] [])),∃ s,Sd.fits hs (gp g) s∧r=Sd.put hs (gp g) s:=fun r hr=>by
  obtain ⟨q,hq,rfl⟩:=bY.mp (pm.mem_iff.mp hr)
  rcases n8 [hs] [] hq with z | ⟨r0,h0,s,h1,e⟩
  ·cases z
  ·rw [aM.mp h0] at h1 e
   exact ⟨s,(qp hg.2).mp h1,by rw [e]⟩
 have n1:(XJ.dH (bL (dM g [hs] []))).length ≤ 3:=by
  rw [pm.length_eq]
  unfold bL
  rw [aC]
  have:=pZ (g:=g) (w:=hs.length) hg.2.1 [hs] [] (fun r hr=>by rw [aM.mp hr])
  simp at this
  omega
 have gs1:1 ≤ g.2.2.toNat:=by have:=hg.2.1;omega
 by_cases c:g.2.1 ≤ k.1
 ·have key:∀ x ∈ bL (dM k (XJ.dH (bL (dM g [hs] []))) []),x ∈ (aZ hs.length).map fun s=>Sd.put hs (gp k) s:=fun x hx=>by
   obtain ⟨q,hq,rfl⟩:=bY.mp hx
   rcases n8 _ [] hq with z | ⟨r,h0,s',h1,e⟩
   ·cases z
   ·obtain ⟨s,ft,rfl⟩:=mem r h0
    have f2:=(qp hk).mp h1
    rw [e]
    refine bY.mpr ⟨s',aQ.mpr ?_,?_⟩
    ·have:=f2.1
     rw [Sd.jV] at this
     have k1:1 ≤ (gp k).2.2:=by have:=hk.1;show 1 ≤ k.2.2.toNat;omega
     omega
    ·apply jh
     ·rw [Sd.jV,Sd.jV,Sd.jV]
     ·intro i h1 h2
      have hi:i < hs.length:=by rw [Sd.jV] at h1;exact h1
      have e1:=Sd.tO (row:=hs) (g:=gp k) (s:=s') hi
      have e2:=Sd.tO (row:=Sd.put hs (gp g) s) (g:=gp k) (s:=s') (r:=i) (by rw [Sd.jV];exact hi)
      have e3:=Sd.tO (row:=hs) (g:=gp g) (s:=s) hi
      have gd:∀ {l:List Int} (h:i < l.length),l[i]=l.getD i 0:=fun {l} h=>by
       rw [aK,aD h]
       rfl
      rw [gd h1,gd h2,e1,e2,e3]
      have in1:s ≤ i∧i < s + (gp g).2.2→hs.getD i 0 ≤ g.1:=fun z=>ft.2 i z.1 z.2
      unfold Sd.cell
      have a1:(gp g).1=g.1:=rfl
      have a2:(gp g).2.1=g.2.1:=rfl
      have a3:(gp k).1=k.1:=rfl
      rw [a1,a2,a3]
      by_cases d1:s' ≤ i∧i < s' + (gp k).2.2
      ·rw [if_pos d1,if_pos d1]
      ·rw [if_neg d1,if_neg d1]
       by_cases d2:s ≤ i∧i < s + (gp g).2.2
       ·rw [if_pos d2,if_pos c,if_pos (by have:=in1 d2;omega)]
       ·rw [if_neg d2]
        by_cases d3:hs.getD i 0 ≤ g.1
        ·have k0:(0:Int) ≤ k.1:=by have:=hg.1.f;omega
         rw [if_pos d3,if_pos k0,if_pos (by omega)]
        ·rw [if_neg d3]
  have nd:=HD (g:=k) (XJ.dH (bL (dM g [hs] []))) [] pI
  have:=List.Nodup.length_le_of_subset nd key
  rw [tW,aC,bH] at this
  omega
 ·have:=zm (g:=k) (c:=2) (XJ.dH (bL (dM g [hs] []))) [] fun r hr=>by
   obtain ⟨s,ft,rfl⟩:=mem r hr
   have sl:s < (Sd.put hs (gp g) s).length:=by
    rw [Sd.jV]
    have:=ft.1
    have:(gp g).2.2=g.2.2.toNat:=rfl
    omega
   have:=Ov (g:=k) (row:=Sd.put hs (gp g) s) (s:=s) hk.1 sl fun z=>by
    have f2:=(qp hk).mp z
    have k1:1 ≤ (gp k).2.2:=by have:=hk.1;show 1 ≤ k.2.2.toNat;omega
    have:=f2.2 s (aL _) (by omega)
    rw [Sd.tO (by rw [Sd.jV] at sl;exact sl)] at this
    unfold Sd.cell at this
    rw [if_pos ⟨aL _,by have:(gp g).2.2=g.2.2.toNat:=rfl;omega⟩] at this
    have this:g.2.1 ≤ k.1:=this
    exact c this
   rw [Sd.jV] at this
   omega
  simp at this
  omega
theorem Ss (h1:1 ≤ hs.length) (hw:hs.length ≤ 3):∀ (gs:List Wi),gs.length ≤ 4→(∀ g ∈ gs,grOk g∧gOk g)→gs.Pairwise (fun a b=>a.1 ≤ b.1)→Few (lv [hs] gs):=by
 intro gs hl hg asc S hS
 have wd:=n_ (w:=hs.length) gs [hs] (fun r hr=>by rw [aM.mp hr]) S hS
 refine ⟨?_,fun k hk=>⟨fun z=>by have:=wd k hk;rw [z] at this;simp at this;omega,by rw [wd k hk];omega⟩⟩
 have gk:∀ g ∈ gs,gOk g:=fun g h=>(hg g h).2
 have w1:∀ r ∈ [hs],r.length=hs.length:=fun r hr=>by rw [aM.mp hr]
 obtain ⟨i,hi⟩:=dZ hS
 match gs,hl,hg,asc,gk,hi with
 | [],_,_,_,_,hi=>rw [jX] at hi;simp at hi
 | [g],_,_,_,gk,hi =>
  have c:=tV [g] [hs] gk w1 i S hi
  have il:i < 1:=by
   rcases dw i 1 with z | z
   ·exact z
   ·rw [aP (by rw [fV,jX];split <;> simpa using z)] at hi;cases hi
  obtain rfl:i=0:=by omega
  simp at c
  omega
 | g :: k :: rest,hl,hg,asc,gk,hi =>
  have a1:g.1 ≤ k.1:=(dW.mp asc).1 k aG
  have tf:=two_few (hs:=hs) (g:=g) (k:=k) hw (hg g aG) (gk k (aJ _ aG)) a1
  cases i with
  | zero =>
   have c:=tV _ [hs] gk w1 0 S hi
   simp at c
   omega
  | succ i =>
   rw [fV] at hi
   rw [jD] at hi
   by_cases c:dM g [hs] []=[]
   ·rw [if_pos c] at hi;simp at hi
   rw [if_neg c,fV] at hi
   generalize hR:XJ.dH (bL (dM g [hs] []))=R at tf hi
   have wR:∀ r ∈ R,r.length=hs.length:=fun r hr=>by
    rw [← hR] at hr
    exact n_ (w:=hs.length) [g] [hs] w1 (dM g [hs] []) (by rw [fV];exact aG) r ((dY _).mem_iff.mp hr)
   cases i with
   | zero =>
    simp at hi
    subst hi
    omega
   | succ i =>
    rw [jD] at hi
    by_cases c2:dM k R []=[]
    ·rw [if_pos c2] at hi;simp at hi
    rw [if_neg c2] at hi
    have pm:=dY (bL (dM k R []))
    have l1:(XJ.dH (bL (dM k R []))).length=(dM k R []).length:=by rw [pm.length_eq,tW]
    have cn:=tV rest (XJ.dH (bL (dM k R []))) (fun g' h'=>gk g' (aJ _ (aJ _ h'))) (fun r hr=>by
     exact n_ (w:=hs.length) [k] R wR (dM k R []) (by rw [fV];exact aG) r (pm.mem_iff.mp hr)) i S hi
    have rl:rest.length ≤ 2:=by simpa using hl
    have ii:i < 2:=by
     have hlen:∀ (gs:List Wi) (rows:List (List Int)),(lv rows gs).length ≤ gs.length:=fun gs=>by
      induction gs with
      | nil=>exact fun rows=>by rw [jX];exact aL _
      | cons g gs ih =>
       intro rows
       rw [fV,bf,bf]
       split
       ·simp
       ·exact nJ (ih _)
     have:=hlen rest (XJ.dH (bL (dM k R [])))
     rcases dw i (lv (XJ.dH (bL (dM k R []))) rest).length with z | z
     ·omega
     ·rw [aP z] at hi;cases hi
    rw [l1] at cn
    have pw:hs.length ^ (i + 1) ≤ 9:=by
     have:i=0∨i=1:=by omega
     have h3:hs.length=1∨hs.length=2∨hs.length=3:=by omega
     rcases this with rfl | rfl <;> rcases h3 with h3 | h3 | h3 <;> rw [h3] <;> decide
    have:=pO tf pw
    omega
def mZ (w:Nat):Nat→Nat→List Nat
 | 0,_=>[]
 | n + 1,x=>x % w :: mZ w n (x / w)
noncomputable abbrev Y4:=cA (uZ 6 (dOp oJ (aF 7) (dCall gH (aH (aF 0) (bC))))) (cj 7 (dOp uY (aF 7) (dCall gH (aH (aF 0) (bC)))))
theorem DX {w:Nat} (hw:hs.length=w) (w1:1 ≤ w) (w3:w ≤ 100) (a1 a2 a3 a5 a8 a9:Option U):∀ (gs:List Wi) (P:List Nat) (x:Nat) (u:Option U),P.length + gs.length ≤ 1000→x ≤ 1000000 →
 ∃ u' x',gO (gNl 4) Y4 (gs.map wiD) [some (.d (.list (hs.map .int))),a1,a2,a3,u,a5,some (.d (.list (P.map fun p:Nat=>PyData.int (p:Int)))),some (.d (.int (x:Int))),a8,a9] =
  some (.nx [some (.d (.list (hs.map .int))),a1,a2,a3,u',a5,some (.d (.list ((P++mZ w gs.length x).map fun p:Nat=>PyData.int (p:Int)))),some (.d (.int (x':Int))),a8,a9])
 | [],P,x,u,_,_=>⟨u,(x:Int),by rw [show mZ w ([]:List Wi).length x=[] from rfl,cH];rfl⟩
 | g :: gs,P,x,u,hl,hx=>by
  rw [bf] at hl
  have gm:oJ (.int (x:Int)) (.int (w:Int))=some (.int ((x % w:Nat):Int)):=by
   rw [xW (by omega)]
   rfl
  have gd:uY (.int (x:Int)) (.int (w:Int))=some (.int ((x / w:Nat):Int)):=by
   rw [Wk (i:=(x:Int)) (j:=(w:Int)) (by omega) (by omega)]
   rfl
  have al:P.length < 1000000:=by omega
  have b1:Y4 [some (.d (.list (hs.map .int))),a1,a2,a3,some (.d (wiD g)),a5,some (.d (.list (P.map fun p:Nat=>PyData.int (p:Int)))),some (.d (.int (x:Int))),a8,a9]=some (.nx [some (.d (.list (hs.map .int))),a1,a2,a3,some (.d (wiD g)),a5,some (.d (.list ((P++[x % w]).map fun p:Nat=>PyData.int (p:Int)))),some (.d (.int ((x / w:Nat):Int))),a8,a9]):=by
   simp only [EV,reduceIte,ao,aq,aj,ak,au,aA,aB,lMp,hw,gm,gd,al]
   rw [cC]
   rfl
  obtain ⟨u',x',e⟩:=DX hw w1 w3 a1 a2 a3 a5 a8 a9 gs (P++[x % w]) (x / w) (some (.d (wiD g))) (by rw [bK];simp;omega) (aW (Nat.div_le_self _ _) hx)
  refine ⟨u',x',(nA rfl b1).trans ?_⟩
  rw [e,bf,show mZ w (gs.length + 1) x=x % w :: mZ w gs.length (x / w) from rfl,iV]
  rfl
def plD (P:List Nat):D:=.list (P.map fun p:Nat=>PyData.int (p:Int))
def inI (P:List Nat):List Int:=P.map fun p:Nat=>(p:Int)
theorem Ox (P:List Nat):(P.map fun p:Nat=>PyData.int (p:Int))=(inI P).map .int:=by
 unfold inI
 rw [dI]
 rfl
theorem xH (w:Nat):∀ n x:Nat,(mZ w n x).length=n
 | 0,_=>rfl
 | n + 1,x=>by
  show (x % w :: mZ w n (x / w)).length=_
  rw [bf,xH w n]
theorem DY (w:Nat):∀ P:List Nat,(∀ p ∈ P,p < w)→∃ x,x < w ^ P.length∧mZ w P.length x=P
 | [],_=>⟨0,by simp,rfl⟩
 | p :: P,h=>by
  obtain ⟨x,h1,h2⟩:=DY w P fun q hq=>h q (aJ _ hq)
  have hp:=h p aG
  refine ⟨p + w * x,?_,?_⟩
  ·rw [bf,lO]
   have:w * (x + 1) ≤ w * w ^ P.length:=lG w h1
   rw [Nat.mul_succ] at this
   rw [lK (w ^ P.length) w]
   omega
  ·show (p + w * x) % w :: mZ w P.length ((p + w * x) / w)=_
   rw [Nat.add_mul_mod_self_left,Nat.mod_eq_of_lt hp,Nat.add_mul_div_left _ _ (by omega),Nat.div_eq_of_lt hp,fQ,h2]
def i_ (hs:List Int) (gs:List Wi) (w i:Nat):List (List Nat):=((aZ i).map (mZ w gs.length)).filter fun P=>laB hs gs (inI P)
theorem JT (hs:List Int) (gs:List Wi) (w i:Nat):i_ hs gs w (i + 1)=i_ hs gs w i++if laB hs gs (inI (mZ w gs.length i))=true then [mZ w gs.length i] else []:=by
 unfold i_
 rw [List.range_succ,cC,List.filter_append]
 congr 1
 rw [aV,eF,nH]
 rfl
theorem Oz (hs:List Int) (gs:List Wi) (w i:Nat):(i_ hs gs w i).length ≤ i:=by
 unfold i_
 refine aW (pC _ _) ?_
 rw [aC,bH]
 exact aL _
theorem Tp (b:Bool):gNe (.bool b) (.bool b)=some (.bool false):=by cases b <;> rfl
section
variable {gs:List Wi} {hs:List Int}
noncomputable abbrev Wx:=cj 3 (dOp oH (aF 3) (dCall gH (aH (aF 0) (bC))))
theorem D_ {w:Nat} (hw:hs.length=w) (w3:w ≤ 3) (a1 a2 a5 a6 a7 a8 a9:Option U):∀ (gs:List Wi) (x:Nat) (u:Option U),x * 3 ^ gs.length ≤ 1000000 →
 ∃ u',gO (gNl 4) Wx (gs.map wiD) [some (.d (.list (hs.map .int))),a1,a2,some (.d (.int (x:Int))),u,a5,a6,a7,a8,a9] =
  some (.nx [some (.d (.list (hs.map .int))),a1,a2,some (.d (.int ((x * w ^ gs.length:Nat):Int))),u',a5,a6,a7,a8,a9])
 | [],x,u,_=>⟨u,by rw [jx,Nat.pow_zero,Nat.mul_one];rfl⟩
 | g :: gs,x,u,hx=>by
  rw [bf,lO] at hx
  have x1:x ≤ 1000000:=by
   have:x * 1 ≤ x * (3 ^ gs.length * 3):=lG x (by have:0 < 3 ^ gs.length:=Nat.pow_pos (by decide);omega)
   omega
  have gm:oH (.int (x:Int)) (.int (w:Int))=some (.int ((x * w:Nat):Int)):=by
   rw [mulL (by omega) (by omega),Int.natCast_mul]
  have b1:Wx [some (.d (.list (hs.map .int))),a1,a2,some (.d (.int (x:Int))),some (.d (wiD g)),a5,a6,a7,a8,a9]=some (.nx [some (.d (.list (hs.map .int))),a1,a2,some (.d (.int ((x * w:Nat):Int))),some (.d (wiD g)),a5,a6,a7,a8,a9]):=by
   simp only [EV,reduceIte,ao,aq,aj,ak,au,aA,aB,lMp,hw,gm]
  obtain ⟨u',e⟩:=D_ hw w3 a1 a2 a5 a6 a7 a8 a9 gs (x * w) (some (.d (wiD g))) (by
   refine aW ?_ hx
   rw [qJ,lK (3 ^ gs.length) 3]
   exact lG x (pN _ w3))
  refine ⟨u',(nA rfl b1).trans ?_⟩
  rw [e,bf,lO,qJ,lK w]
noncomputable abbrev Tq:=cA (cj 6 (mO (bC))) (cA (cj 7 (aF 5)) (cA (mR (rJ (aF 1)) (gNl 4) (cA (uZ 6 (dOp oJ (aF 7) (dCall gH (aH (aF 0) (bC))))) (cj 7 (dOp uY (aF 7) (dCall gH (aH (aF 0) (bC))))))) (cA (cj 8 (dCall fX (aH (aF 0) (aH (aF 1) (aH (aF 6) (bC)))))) (cA (cj 9 (dCall mF (aH (aF 0) (aH (aF 1) (aH (aF 6) (bC)))))) (cA (sIf (D3.tOr (D3.jd (bU (dUn (gIs "bool") (aF 9)))) (bU (dOp gNe (aF 9) (aF 8)))) (sY (dC (.none))) (fK)) (sIf (bU (aF 8)) (G6 2 6) (fK)))))))
theorem Ga {w:Nat} (hg:∀ g ∈ gs,grOk g) (hw:hs.length=w) (w1:1 ≤ w) (w3:w ≤ 100) (gl:gs.length ≤ 500) {i:Nat} (hi:i ≤ 1000) (am y4 y6 y7 y8 y9:Option U):∃ z4 z6 z7 z8 z9,Tq [some (.d (.list (hs.map .int))),some (.d (.list (gs.map wiD))),some (.d (.list ((i_ hs gs w i).map plD))),am,y4,some (.d (.int (i:Int))),y6,y7,y8,y9] =
 some (.nx [some (.d (.list (hs.map .int))),some (.d (.list (gs.map wiD))),some (.d (.list ((i_ hs gs w (i + 1)).map plD))),am,z4,some (.d (.int (i:Int))),z6,z7,z8,z9]):=by
 obtain ⟨u',x',e⟩:=DX hw w1 w3 (some (.d (.list (gs.map wiD)))) (some (.d (.list ((i_ hs gs w i).map plD)))) am (some (.d (.int (i:Int)))) y8 y9 gs [] i y4 (by simp;omega) (by omega)
 rw [eF,dF] at e
 have dl:=xH w gs.length i
 have gs1:=JT hs gs w i
 have gl2:=Oz hs gs w i
 have dp:(mZ w gs.length i).map (fun p:Nat=>PyData.int (p:Int))=(inI (mZ w gs.length i)).map .int:=Ox _
 have il:(inI (mZ w gs.length i)).length ≤ 1000:=by unfold inI;rw [aC,dl];omega
 have S:=Dj (hs:=hs) (ps:=inI (mZ w gs.length i)) hg (by omega)
 have L:=N6 (hs:=hs) (ps:=inI (mZ w gs.length i)) hg (by omega) il
 have pd:plD (mZ w gs.length i) = .list ((inI (mZ w gs.length i)).map .int):=by unfold plD;rw [Ox]
 rw [dp] at e
 generalize mZ w gs.length i=P at *
 have tb:∀ b:Bool,D3.isT "bool" (tyD (.bool b))=true:=fun b=>(by decide:D3.isT "bool" "bool" = true)
 have al:((i_ hs gs w i).map plD).length < 1000000:=by rw [aC];omega
 cases c:laB hs gs (inI P) with
 | true =>
  rw [c] at S L
  rw [if_pos c] at gs1
  rw [gs1,cC,aV,eF,pd]
  refine ⟨u',none,some (.d (.int (x':Int))),some (.d (.bool true)),some (.d (.bool true)),?_⟩
  have ag:∀ (a b d f g h k m n:Option U) (q:D),G6 2 6 [a,b,some (.d (.list ((i_ hs gs w i).map plD))),d,f,g,some (.d q),h,k,m]=some (.nx [a,b,some (.d (.list ((i_ hs gs w i).map plD++[q]))),d,f,g,none,h,k,m]):=fun a b d f g h k m n q=>by
   show (if ((i_ hs gs w i).map plD).length < 1000000 then _ else _)=_
   rw [if_pos al]
   rfl
  have ag:=fun a b d f g h k m q=>ag a b d f g h k m none q
  simp only [EV,reduceIte,ao,aq,aj,ak,au,aA,aB,e,S,L,tb,Tp,ag,Com.sz (show 0 ≤ 1000000 by decide)]
 | false =>
  rw [c] at S L
  rw [if_neg (by rw [c];decide),cH] at gs1
  rw [gs1]
  refine ⟨u',some (.d (.list ((inI P).map .int))),some (.d (.int (x':Int))),some (.d (.bool false)),some (.d (.bool false)),?_⟩
  simp only [EV,reduceIte,ao,aq,aj,ak,au,aA,aB,e,S,L,tb,Tp,Com.sz (show 0 ≤ 1000000 by decide)]
theorem JV {w:Nat} (hg:∀ g ∈ gs,grOk g) (hw:hs.length=w) (w1:1 ≤ w) (w3:w ≤ 3) (gl:gs.length ≤ 4):jk [.list (hs.map .int),.list (gs.map wiD)]=some (.list ((i_ hs gs w (w ^ gs.length)).map plD)):=by
 have p3:3 ^ gs.length ≤ 81:=pK (by decide) gl
 have pw:w ^ gs.length ≤ 81:=aW (Nat.pow_le_pow_left w3 _) p3
 obtain ⟨u',e⟩:=D_ hw w3 (some (.d (.list (gs.map wiD)))) (some (.d (.list []))) none none none none none gs 1 none (by omega)
 rw [Nat.one_mul] at e
 have e:gO (gNl 4) Wx (gs.map wiD) [some (.d (.list (hs.map .int))),some (.d (.list (gs.map wiD))),some (.d (.list [])),some (.d (.int 1)),none,none,none,none,none,none]=_:=e
 generalize w ^ gs.length=N at *
 have rr:qY (some [.int (N:Int)])=some (eX 0 (N:Int)):=Dh (by omega) (by omega)
 obtain ⟨δ',e2,z4,z5,z6,z7,z8,z9,rfl⟩:=lZ (g:=(gNl 5)) (b:=Tq) (fun i δ=>∃ (y4 y5 y6 y7 y8 y9:Option U),δ=[some (.d (.list (hs.map .int))),some (.d (.list (gs.map wiD))),some (.d (.list ((i_ hs gs w i).map plD))),some (.d (.int (N:Int))),y4,y5,y6,y7,y8,y9]) (eX 0 (N:Int))
  [some (.d (.list (hs.map .int))),some (.d (.list (gs.map wiD))),some (.d (.list [])),some (.d (.int (N:Int))),u',none,none,none,none,none] ⟨u',none,none,none,none,none,rfl⟩
  (by
   rintro i d δ hd ⟨y4,y5,y6,y7,y8,y9,rfl⟩
   obtain ⟨hk,rfl⟩:=iG hd
   obtain ⟨z4,z6,z7,z8,z9,ez⟩:=Ga hg hw w1 (by omega) (by omega) (i:=i) (by omega) (some (.d (.int (N:Int)))) y4 y6 y7 y8 y9
   exact ⟨_,_,rfl,.inl ez,z4,some (.d (.int (i:Int))),z6,z7,z8,z9,rfl⟩)
 rw [Am,cO] at e2
 unfold jk
 simp only [EV,reduceIte,ao,aq,aj,ak,au,aA,aB,La,Cg,K_,Ce,e,rr,e2,Com.sz (show 0 ≤ 1000000 by decide)]
end
theorem OD (ns:List Int) {w:Int} (w0:1 ≤ w) (w1:w ≤ 6):∃ hs:List Int,(hs.length:Int)=w∧Com.jg [.list (ns.map .int),.int w]=some (.list (hs.map .int)):=by
 have rr:qY (some [.int w])=some (eX 0 w):=Dh (by omega) (by omega)
 have P1:Com.bT [.list (ns.map .int),.int 1,.int 0,.int 380]=some (.int (jr ns 1 0 380)):=nY (by decide) (by decide) (by decide) (by decide)
 generalize jr ns 1 0 380=b at P1
 obtain ⟨δ',e,hs,z4,z5,lh,rfl⟩:=lZ (g:=(gNl 4)) (b:=(cA (cj 5 (dCall bT (aH (aF 0) (aH (dC (.int 2)) (aH (aF 4) (aH (dC (.int 9)) (bC))))))) (uZ 3 (dOp gIx (mO (aH (dC (.int 0)) (aH (dOp xP (dOp gw (aF 2) (aF 5)) (dC (.int 5))) (bC)))) (dCall Ep (aH (dOp gGt (aF 5) (dC (.int 4))) (bC))))))) (fun i δ=>∃ (hs:List Int) (y4 y5:Option U),hs.length=i∧δ=[some (.d (.list (ns.map .int))),some (.d (.int w)),some (.d (.int b)),some (.d (.list (hs.map .int))),y4,y5]) (eX 0 w) [some (.d (.list (ns.map .int))),some (.d (.int w)),some (.d (.int b)),some (.d (.list [])),none,none] ⟨[],none,none,rfl,rfl⟩
  (by
   rintro i d δ hd ⟨hs,y4,y5,li,rfl⟩
   obtain ⟨hk,rfl⟩:=iG hd
   have P:Com.bT [.list (ns.map .int),.int 2,.int (i:Int),.int 9]=some (.int (jr ns 2 (i:Int) 9)):=nY (by decide) (by omega) (by omega) (by decide)
   generalize jr ns 2 (i:Int) 9=x at P
   have ma:∀ v:Int,(hs++[v]).map PyData.int=hs.map PyData.int++[.int v]:=fun v=>by rw [cC];rfl
   by_cases c:x > 4
   ·refine ⟨_,_,rfl,.inl ?_,hs++[b + x - 5],some (.d (.int (i:Int))),some (.d (.int x)),by rw [bK,li];rfl,rfl⟩
    rw [ma]
    simp only [EV,reduceIte,ao,aq,aj,ak,au,aA,aB,P,dTr c,show Ep [.bool true]=some (.int 1) from rfl,at1,Com.sz (show 2 ≤ 1000000 by decide),lMp,show hs.length < 1000000 by omega]
   ·refine ⟨_,_,rfl,.inl ?_,hs++[0],some (.d (.int (i:Int))),some (.d (.int x)),by rw [bK,li];rfl,rfl⟩
    rw [ma]
    simp only [EV,reduceIte,ao,aq,aj,ak,au,aA,aB,P,dFa c,show Ep [.bool false]=some (.int 0) from rfl,at0,Com.sz (show 2 ≤ 1000000 by decide),lMp,show hs.length < 1000000 by omega])
 refine ⟨hs,by rw [lh,Am];omega,?_⟩
 unfold Com.jg
 simp only [EV,reduceIte,ao,aq,aj,ak,au,aA,aB,P1,rr,e,oX,Com.sz (show 0 ≤ 1000000 by decide)]
theorem Gb (ns:List Int) {w m:Int} (w0:1 ≤ w) (w1:w ≤ 3) (m0:0 ≤ m) (m1:m ≤ 16):∃ gs:List Wi,(gs.length:Int)=m∧(∀ g ∈ gs,grOk g∧gOk g)∧Com.gJ [.list (ns.map .int),.int w,.int m]=some (.list (gs.map wiD)):=by
 have rr:qY (some [.int m])=some (eX 0 m):=Dh (by omega) (by omega)
 have P1:Com.bT [.list (ns.map .int),.int 1,.int 0,.int 380]=some (.int (jr ns 1 0 380)):=nY (by decide) (by decide) (by decide) (by decide)
 have B:=jH ns 1 0 (m:=380) (by decide)
 generalize jr ns 1 0 380=b at P1 B
 obtain ⟨δ',e,gs,z5,z6,z7,lh,hg,rfl⟩:=lZ (g:=(gNl 5)) (b:=(cA (cj 6 (dOp gw (aF 3) (dCall bT (aH (aF 0) (aH (dOp gw (dC (.int 3)) (aF 5)) (aH (dC (.int 0)) (aH (dC (.int 7)) (bC)))))))) (cA (cj 7 (dOp gw (dC (.int 1)) (dCall bT (aH (aF 0) (aH (dOp gw (dC (.int 3)) (aF 5)) (aH (dC (.int 2)) (aH (aF 1) (bC)))))))) (cA (sIf (bU (dOp gEq (dCall bT (aH (aF 0) (aH (dOp gw (dC (.int 3)) (aF 5)) (aH (dC (.int 3)) (aH (dC (.int 16)) (bC)))))) (dC (.int 0)))) (cj 7 (dCall vZ (aH (dC (.int 6)) (aH (dOp gw (aF 1) (dC (.int 1))) (bC))))) (fK)) (uZ 4 (dTup (aH (aF 6) (aH (dOp gw (dOp gw (aF 6) (dC (.int 1))) (dCall bT (aH (aF 0) (aH (dOp gw (dC (.int 3)) (aF 5)) (aH (dC (.int 1)) (aH (dC (.int 6)) (bC))))))) (aH (aF 7) (bC)))))))))) (fun i δ=>∃ (gs:List Wi) (y5 y6 y7:Option U),gs.length=i∧(∀ g ∈ gs,grOk g∧gOk g)∧δ=[some (.d (.list (ns.map .int))),some (.d (.int w)),some (.d (.int m)),some (.d (.int b)),some (.d (.list (gs.map wiD))),y5,y6,y7]) (eX 0 m) [some (.d (.list (ns.map .int))),some (.d (.int w)),some (.d (.int m)),some (.d (.int b)),some (.d (.list [])),none,none,none] ⟨[],none,none,none,rfl,by simp,rfl⟩
  (by
   rintro i d δ hd ⟨gs,y5,y6,y7,li,hg,rfl⟩
   obtain ⟨hk,rfl⟩:=iG hd
   have P:∀ k m:Int,0 ≤ k→k ≤ 1000→0 < m→Com.bT [.list (ns.map .int),.int (3 + (i:Int)),.int k,.int m]=some (.int (jr ns (3 + (i:Int)) k m)):=fun k m a b c=>nY (by omega) a b c
   have A0:=P 0 7 (by decide) (by decide) (by decide)
   have r0:=jH ns (3 + (i:Int)) 0 (m:=7) (by decide)
   generalize jr ns (3 + (i:Int)) 0 7=x at A0 r0
   have A2:=P 2 w (by decide) (by decide) (by omega)
   have r2:=jH ns (3 + (i:Int)) 2 (m:=w) (by omega)
   generalize jr ns (3 + (i:Int)) 2 w=s at A2 r2
   have A3:=P 3 16 (by decide) (by decide) (by decide)
   generalize jr ns (3 + (i:Int)) 3 16=t at A3
   have A1:=P 1 6 (by decide) (by decide) (by decide)
   have r1:=jH ns (3 + (i:Int)) 1 (m:=6) (by decide)
   generalize jr ns (3 + (i:Int)) 1 6=y at A1 r1
   have ok:∀ z:Int,1 ≤ z→z ≤ 6→∀ g ∈ gs++[(b + x,b + x + 1 + y,z)],grOk g∧gOk g:=fun z z1 z2 g hm=>by
    rcases cL.mp hm with hm | hm
    ·exact hg g hm
    ·rw [aM.mp hm]
     exact ⟨⟨by show 0 ≤ b + x;omega,by show b + x < b + x + 1 + y;omega,by show b + x + 1 + y ≤ 400;omega,z1,z2⟩,z1,z2⟩
   have ma:∀ z:Int,(gs++[(b + x,b + x + 1 + y,z)]).map wiD=gs.map wiD++[.tuple [.int (b + x),.int (b + x + 1 + y),.int z]]:=fun v=>by rw [cC];rfl
   by_cases c:t=0
   ·refine ⟨_,_,rfl,.inl ?_,gs++[(b + x,b + x + 1 + y,if w + 1 < 6 then w + 1 else 6)],some (.d (.int (i:Int))),some (.d (.int (b + x))),some (.d (.int (if w + 1 < 6 then w + 1 else 6))),by rw [bK,li];rfl,ok _ (by split <;> omega) (by split <;> omega),rfl⟩
    rw [ma]
    simp only [EV,reduceIte,ao,aq,aj,ak,au,aA,aB,A0,A1,A2,A3,dTr c,Com.sz (show 3 ≤ 1000000 by decide),lMp,show gs.length < 1000000 by omega]
   ·refine ⟨_,_,rfl,.inl ?_,gs++[(b + x,b + x + 1 + y,1 + s)],some (.d (.int (i:Int))),some (.d (.int (b + x))),some (.d (.int (1 + s))),by rw [bK,li];rfl,ok _ (by omega) (by omega),rfl⟩
    rw [ma]
    simp only [EV,reduceIte,ao,aq,aj,ak,au,aA,aB,A0,A1,A2,A3,dFa c,Com.sz (show 3 ≤ 1000000 by decide),lMp,show gs.length < 1000000 by omega])
 refine ⟨gs,by rw [lh,Am];omega,hg,?_⟩
 unfold Com.gJ
 simp only [EV,reduceIte,ao,aq,aj,ak,au,aA,aB,P1,rr,e,uD wiD (fun _=>rfl),Com.sz (show 0 ≤ 1000000 by decide)]
section
variable {gs:List Wi} {ts:List Nat} {hs:List Int}
theorem Sv {w:Nat} (hg:∀ g ∈ gs,grOk g) (hw:hs.length=w) {P:List Nat} (h:laB hs gs (inI P)=true):i_ hs gs w (w ^ gs.length) ≠ []:=by
 obtain ⟨l,ro,_⟩:=Aw.mp h
 have pl:P.length=gs.length:=by unfold inI at l;rw [aC] at l;exact l
 have lt:∀ p ∈ P,p < w:=fun p hp=>by
  obtain ⟨i,hi,rfl⟩:=qt hp
  have r:=ro i (by omega)
  have gm:=oZ hg (show i < gs.length by omega)
  unfold roB at r
  rw [bw,bw,decide_eq_true_iff,decide_eq_true_iff] at r
  have e:(inI P).getD i 0=(P[i]:Int):=by
   unfold inI
   rw [aK,aO,aD hi]
   rfl
  rw [e] at r
  have:=gm.s
  omega
 obtain ⟨x,h1,h2⟩:=DY w P lt
 rw [pl] at h1 h2
 have:P ∈ i_ hs gs w (w ^ gs.length):=by
  unfold i_
  rw [iH]
  exact ⟨bY.mpr ⟨x,aQ.mpr h1,h2⟩,h⟩
 intro z
 rw [z] at this
 cases this
theorem Sw {w:Nat} {N:Nat} (h:∀ f:Nat→Nat,laB hs gs ((aZ gs.length).map fun i=>((f i:Nat):Int))=false):i_ hs gs w N=[]:=by
 unfold i_
 rw [List.filter_eq_nil_iff]
 intro P hP
 obtain ⟨x,_,rfl⟩:=bY.mp hP
 have e:inI (mZ w gs.length x)=(aZ gs.length).map fun i=>(((mZ w gs.length x).getD i 0:Nat):Int):=by
  unfold inI
  apply jh
  ·simp [xH]
  ·intro i h1 h2
   have hl:i < (mZ w gs.length x).length:=by rw [aC] at h1;exact h1
   simp [hl]
 rw [e,h]
 decide
theorem Wy (n:Nat) (ts ss:List Nat):xG n ts ss=inI ((aZ n).map fun i=>ss.getD (ts.idxOf i) 0):=by
 unfold xG inI
 rw [dI]
 rfl
theorem HY {r:D} (hg:∀ g ∈ gs,grOk g) (h:dD [.list (hs.map .int),.list (gs.map wiD)]=some r):uE [.list (hs.map .int),.list (gs.map wiD)]=some r:=by
 have ck:cV [.list (gs.map wiD)]=some .none:=mG hg
 unfold uE
 simp only [EV,reduceIte,ao,aq,aj,ak,au,aA,aB,ck,h]
theorem OJ:iR [.list (hs.map .int),.list [],.list [.list []]]=some (.bool false):=by
 have ck:cV [.list []]=some .none:=mG (gs:=[]) (by simp)
 have ty:D3.isT "list" (tyD (.list [.list []]))=true:=(by decide:D3.isT "list" "list" = true)
 have c1:decide ((1:Int) ≤ (([PyData.list []]:List D).length:Int))=true:=rfl
 have c2:decide ((([PyData.list []]:List D).length:Int) ≤ (([]:List D).length:Int))=false:=rfl
 unfold iR
 simp only [EV,reduceIte,ao,aq,aj,ak,au,aA,aB,ck,ty,c1,c2]
theorem O1 (G:List (List Nat)):gNe (.list (G.map plD)) (.list [])=some (.bool (!G.isEmpty)):=by
 have l1:∀ P:List Nat,ly 5 (plD P):=fun P=>Ht (Ao (tM (n:=1) (fun p:Nat=>PyData.int (p:Int)) (fun _=>Ny) P)) (by decide)
 have l2:ly 60 (.list (G.map plD)):=Ht (Ao (tM plD l1 G)) (by decide)
 unfold gNe
 rw [ql l2,show SeqAt.shaped (.list [])=true from rfl]
 cases G <;> simp [PyData.eqv,PyData.eqvAll]
theorem Sx (R:List (List Int)):gEq (rlD R) (.list [])=some (.bool R.isEmpty):=by
 have l1:∀ P:List Int,ly 5 (rwD P):=fun P=>Ht (Wm (tM (n:=1) PyData.int (fun _=>Ny) P)) (by decide)
 have l2:ly 60 (.list (R.map rwD)):=Ht (Ao (tM rwD l1 R)) (by decide)
 unfold gEq rlD
 rw [ql l2,show SeqAt.shaped (.list [])=true from rfl]
 cases R <;> simp [PyData.eqv,PyData.eqvAll]
end
theorem ne_str {s:Str} (h:PyData.canLay0 (.str s)=true):gNe (.str s) (.str s)=some (.bool false):=by
 have e:=Com.eq_self (d:=.str s) ⟨h,by simp [PyData.depth]⟩
 have sh:=ql (d:=.str s) ⟨h,by simp [PyData.depth]⟩
 unfold gEq at e
 unfold gNe
 rw [sh] at e ⊢
 have tt:(true && true)=true:=rfl
 rw [if_pos tt] at e ⊢
 have e:=PyData.bool.inj (b_.inj e)
 rw [e]
 rfl
theorem O2 (l:List D) (d:D):cutD (l++[d]) none (some (-1))=l:=by
 have e:pSx (l++[d]).length (l++[d]).length (some (-1))=l.length:=by
  unfold pSx
  rw [bK,gh]
  simp
  omega
 have e0:pSx (l++[d]).length 0 none=0:=rfl
 unfold cutD
 rw [e,e0,List.drop_zero,Nat.sub_zero,List.take_left]
theorem O3 (ns:List Int) (h:ns.length ≤ 63):Hy [.list (ns.map .int)]=some (.bool true):=by
 have PA:∀ k m:Int,0 ≤ k→k ≤ 1000→0 < m→Com.bT [.list (ns.map .int),.int 0,.int k,.int m]=some (.int (jr ns 0 k m)):=fun k m a b c=>nY (by decide) a b c
 have A0:=PA 0 3 (by decide) (by decide) (by decide)
 have r0:=jH ns 0 0 (m:=3) (by decide)
 generalize jr ns 0 0 3=w at A0 r0
 have A1:=PA 1 5 (by decide) (by decide) (by decide)
 have r1:=jH ns 0 1 (m:=5) (by decide)
 generalize jr ns 0 1 5=m at A1 r1
 obtain ⟨hs,lh,K⟩:=OD ns (w:=1 + w) (by omega) (by omega)
 obtain ⟨gs,lg,hg,Gr⟩:=Gb ns (w:=1 + w) (m:=m) (by omega) (by omega) (by omega) (by omega)
 have go:∀ g ∈ gs,grOk g:=fun g h=>(hg g h).1
 have go2:∀ g ∈ gs,gOk g:=fun g h=>(hg g h).2
 have T:=JV (hs:=hs) go rfl (by omega) (by omega) (by omega)
 obtain ⟨ts,ht,pm,pw⟩:=JH (gs:=gs) (by omega)
 have tl:ts.length=gs.length:=by rw [pm.length_eq,bH]
 have it:(inT gs ts).length=gs.length:=by unfold inT;rw [aC,tl]
 have gk:∀ g ∈ inT gs ts,grOk g∧gOk g:=fun g h=>by
  obtain ⟨t,h1,rfl⟩:=bY.mp h
  have:=aQ.mp (pm.mem_iff.mp h1)
  unfold gat
  rw [aK,aD this]
  exact hg _ (cY this)
 have fw:Few (lv [hs] (inT gs ts)):=Ss (by omega) (by omega) (inT gs ts) (by omega) gk (by unfold inT;exact iW.mpr pw)
 have t2:D3.isT "tuple" "tuple" = true:=isTup
 have ty:∀ a b:D,D3.isT "tuple" (tyD (.tuple [a,b]))=true:=fun _ _=>isTup
 have n2:decide ((([.none,.none]:List D).length:Int) ≠ 2)=false:=rfl
 have l2:∀ a b:D,gH [.tuple [a,b]]=some (.int 2):=fun _ _=>rfl
 have i0:∀ a b:D,gIx (.tuple [a,b]) (.int 0)=some a:=fun _ _=>rfl
 have i1:∀ a b:D,gIx (.tuple [a,b]) (.int 1)=some b:=fun _ _=>rfl
 have nn:∀ l:List D,Iz (.list l)=some (.bool false):=fun _=>rfl
 have ne2:gNe (.int 2) (.int 2)=some (.bool false):=rfl
 by_cases hn:[] ∈ lv [hs] (inT gs ts)
 ·have L:=HY go (Sg go2 (by omega) (by omega) ht pm fw hn)
  have gn:i_ hs gs hs.length (hs.length ^ gs.length)=[]:=Sw (JN hg pm pw hn)
  rw [gn] at T
  have Np:=O1 []
  obtain ⟨L',e,nL⟩:=FQ _ _ hn
  have ck:=DR gs ts [hs]
  have r00:XJ.dH (bL [])=[]:=qH.mp (dY [])
  have wd:=n_ (w:=hs.length) (inT gs ts) [hs] (fun r hr=>by rw [aM.mp hr])
  have ll:(lv [hs] (inT gs ts)).length ≤ gs.length:=by
   have:∀ (gs:List Wi) (rows:List (List Int)),(lv rows gs).length ≤ gs.length:=fun gs=>by
    induction gs with
    | nil=>exact fun rows=>by rw [jX];exact aL _
    | cons g gs ih =>
     intro rows
     rw [fV,bf,bf]
     split
     ·simp
     ·exact nJ (ih _)
   rw [← it]
   exact this _ _
  generalize lv [hs] (inT gs ts)=Lv at *
  subst e
  rw [cC,aV,eF,r00] at ck L
  rw [bK,gh] at ll
  have hw:∀ R ∈ L'.map (fun S=>XJ.dH (bL S))++[[]],R.length ≤ 63∧∀ r ∈ R,r.length=hs.length:=fun R hR=>by
   rcases cL.mp hR with hR | hR
   ·obtain ⟨S,hS,rfl⟩:=bY.mp hR
    have hS':S ∈ L'++[[]]:=bW _ hS
    have p:=dY (bL S)
    refine ⟨?_,fun r hr=>wd S hS' r (p.mem_iff.mp hr)⟩
    have:=(fw S hS').1
    rw [p.length_eq,tW]
    omega
   ·rw [aM.mp hR]
    exact ⟨by simp,by simp⟩
  have N:=DQ (Rs:=L'.map fun S=>XJ.dH (bL S)) hg (by omega) (by omega) ht pm (by rw [aC];omega) (fun R hR=>⟨by have:=(hw R hR).1;omega,(hw R hR).2⟩) (fun t ht' ah ha=>by
   have tm:=aQ.mp (pm.mem_iff.mp ht')
   have g1:1 ≤ (gat gs t).2.2:=(oZ go tm).s
   have:ah.length ≤ 63∧∀ r ∈ ah,r.length=hs.length:=by
    rcases ha with rfl | ha
    ·exact ⟨by simp,fun r hr=>by rw [aM.mp hr]⟩
    ·exact hw ah ha
   have b:=pZ (w:=hs.length) g1 ah [] this.2
   have:ah.length * hs.length ≤ 63 * 3:=pO this.1 (by omega)
   rw [jx] at b
   omega)
  rw [ck,cC,aV,eF,dI] at N
  have N:iR [.list (hs.map .int),.list (gs.map wiD),.list (L'.map (fun S=>PyData.list ((XJ.dH (bL S)).map rwD))++[.list []])]=some (.bool true):=N
  have L:uE [.list (hs.map .int),.list (gs.map wiD)]=some (.tuple [.str "none", .list (L'.map (fun S=>PyData.list ((XJ.dH (bL S)).map rwD))++[.list []])]):=L
  have C:=Wl (g:=(gNl 0)) (c:=(bU (dOp gEq (aF 0) (mO (bC))))) (e:=(mQ (aF 0))) (δ:=[none]) (fun S=>PyData.list ((XJ.dH (bL S)).map rwD)) (fun _=>false) (fun _=>PyData.none) L' (fun S hS=>by
   refine ⟨[some (.d (rlD (XJ.dH (bL S))))],rfl,?_,fun z=>by cases z⟩
   have q:=Sx (XJ.dH (bL S))
   have:(XJ.dH (bL S)).isEmpty=false:=by
    have p:=(dY (bL S)).length_eq
    rw [tW] at p
    cases c:XJ.dH (bL S) with
    | nil =>
     rw [c] at p
     exact absurd (bR.mp p.symm ▸ hS) nL
    | cons _ _=>rfl
   rw [this] at q
   simp only [EV,reduceIte,ao,aq,aj,ak,au,aA,aB,q,Com.sz (show 0 ≤ 1000000 by decide)])
  rw [show L'.filter (fun _=>false)=[] by simp,eF] at C
  have ca:∀ a b c d f g:Option U,iK 1 [] [a,b,c,d,f,g]=[none]:=fun _ _ _ _ _ _=>rfl
  have fl:(L'.map fun S=>PyData.list ((XJ.dH (bL S)).map rwD)).length ≤ 100000:=by rw [aC];omega
  generalize hM:(L'.map fun S=>PyData.list ((XJ.dH (bL S)).map rwD))=M at *
  have tl':∀ l:List D,D3.isT "list" (tyD (.list l))=true:=fun _=>(by decide:D3.isT "list" "list" = true)
  have ci:=O2 M (.list [])
  have pe:pAt (M++[.list []]) (-1)=some (.list []):=vI
  have q0:gEq (.list []) (.list [])=some (.bool true):=rfl
  have Np:gNe (.list []) (.list [])=some (.bool false):=rfl
  have n1:=ne_str (s := "none") (by rw [PyData.canLay0];decide +kernel)
  have T:jk [.list (hs.map .int),.list (gs.map wiD)]=some (.list []):=T
  have g1:yE (.bool true)=some (.bool false):=rfl
  unfold Hy
  simp only [EV,reduceIte,ao,aq,aj,ak,au,aA,aB,A0,A1,K,Gr,T,L,nn,ty,ne2,Np,i0,i1,n1,tl',N,g1,ci,fl,ca,C,q0,pe,Com.sz (show 0 ≤ 1000000 by decide)]
 ·obtain ⟨ss,out,sl,run,L⟩:=Oi go2 (by omega) (by omega) ht pm fw hn
  have L:=HY go L
  have la:=JQ hg pm pw sl run
  have S:=Dj (hs:=hs) (ps:=xG gs.length ts ss) go (by omega)
  rw [la] at S
  rw [Wy] at la
  have gn:=Sv go rfl la
  have Np:=O1 (i_ hs gs hs.length (hs.length ^ gs.length))
  have ie:(i_ hs gs hs.length (hs.length ^ gs.length)).isEmpty=false:=by
   cases c:i_ hs gs hs.length (hs.length ^ gs.length) with
   | nil=>exact absurd c gn
   | cons _ _=>rfl
  rw [ie] at Np
  have N:iR [.list (hs.map .int),.list (gs.map wiD),.list [.list []]]=some (.bool false):=by
   cases ts with
   | nil =>
    have:gs=[]:=bR.mp tl.symm
    subst this
    exact OJ
   | cons t ts =>
    have N:=DQ (Rs:=[]) (hs:=hs) hg (by omega) (by omega) ht pm (by rw [← tl];simp) (fun R hR=>by rw [dF,aM] at hR;rw [hR];exact ⟨by simp,by simp⟩) (fun t ht' ah ha=>by
     have tm:=aQ.mp (pm.mem_iff.mp ht')
     have g1:1 ≤ (gat gs t).2.2:=(oZ go tm).s
     have:ah.length ≤ 63∧∀ r ∈ ah,r.length=hs.length:=by
      rcases ha with rfl | ha
      ·exact ⟨by simp,fun r hr=>by rw [aM.mp hr]⟩
      ·rw [dF,aM] at ha
       rw [ha]
       exact ⟨by simp,by simp⟩
     have b:=pZ (w:=hs.length) g1 ah [] this.2
     have:ah.length * hs.length ≤ 63 * 3:=pO this.1 (by omega)
     rw [jx] at b
     omega)
    rw [dF,JR (Ou hn)] at N
    exact N
  have g1:yE (.bool false)=some (.bool true):=rfl
  have q1:gEq (.str "laid") (.str "laid")=some (.bool true):=Com.eq_self ⟨by rw [PyData.canLay0];decide +kernel,by simp [PyData.depth]⟩
  generalize i_ hs gs hs.length (hs.length ^ gs.length)=Gd at *
  unfold Hy
  simp only [EV,reduceIte,ao,aq,aj,ak,au,aA,aB,A0,A1,K,Gr,T,L,nn,ty,ne2,Np,pJ,i0,i1,q1,S,N,g1,Com.sz (show 0 ≤ 1000000 by decide),Com.sz (show 1 ≤ 1000000 by decide)]
end K72
namespace K72
open PySem PySem.Spec PyProof.Rows L2 My D3 XS XK
def top (i:Nat):Stmt:=PySem.Challenge.pw_nightbook_k72_all_places_tried.main.body.getD i (.Pass ⟨0,0,0,0⟩)
section
seal PE PT PW PA PS PSs PG PGs PI PO PTs
variable {P:Program} {w:World} {K:PySem.W.Frag} {mg:Str→Option Value} {base:Heap} {n:Nat}
theorem Ea (D:Dg K mg "is_whole" (top 5) ["thing"]) (B:Bl mg):Has P w K mg base (n + 1) "is_whole" ["thing"] (spD K dX):=by
 have sc:FnScope ["thing"] ["thing"] (bG (top 5)):=fsc
 exact fP (fl:=[.A]) D sc (by decide) (by decide) fun f cdv A outer s H E hr=>bx (bZ (cD (lC (bh (kj (T := "int") (by decide) (vP 0) (by rfl) B.isinstance_ (by rfl) B.int_ PyProof.Rows.boot_int)) (mW (KN (bh (kj (T := "bool") (by decide) (vP 0) (by rfl) B.isinstance_ (by rfl) B.bool_ PyProof.Rows.boot_bool)))))))
theorem rT (D:Dg K mg "is_whole_within" (top 6) ["thing", "least", "most"]) (B:Bl mg) (his_whole:Has P w K mg base n "is_whole" ["thing"] (spD K dX)):Has P w K mg base (n + 1) "is_whole_within" ["thing", "least", "most"] (spD K eH):=by
 have sc:FnScope ["thing", "least", "most"] ["thing", "least", "most"] (bG (top 6)):=fsc
 exact fP (fl:=[.A,.A,.A]) D sc (by decide) (by decide) fun f cdv A outer s H E hr=>bx (bZ (cD (lC (f9 (bN his_whole hr (dq (vP 0) dz))) (mW (BX jZ jZ pG pG (vP 1) (vP 0) (vP 2))))))
theorem Az (D:Dg K mg "all_whole" (top 7) ["things"]) (B:Bl mg) (his_whole:Has P w K mg base n "is_whole" ["thing"] (spD K dX)):Has P w K mg base (n + 1) "all_whole" ["things"] (spD K fG):=by
 have sc:FnScope ["things"] ["things"] (bG (top 7)):=fsc
 exact fP (fl:=[.A]) D sc (by decide) (by decide) fun f cdv A outer s H E hr=>bx (bZ (cD (dh (qd rfl) yL (by rfl) B.all_ (show bootBuiltins "all" = some (.builtin "all") by decide +kernel) (dq (bh (m9 (L:=[]) (fl':=[.A]) rfl ["thing"] [] [] (U5 (vB 0)) (fun _ _ _ _ _=>gN' (i:=0) (show (["thing"]:List Str).Nodup by decide +kernel)) (fun _ _ _ _ _=>oN) (fun _ _ _ _ _=>bN his_whole hr (dq (vP 0) dz)))) dz))))
theorem xJ (D:Dg K mg "is_tuple_of" (top 8) ["thing", "many"]) (B:Bl mg) (hall_whole:Has P w K mg base n "all_whole" ["things"] (spD K fG)):Has P w K mg base (n + 1) "is_tuple_of" ["thing", "many"] (spD K d_):=by
 have sc:FnScope ["thing", "many"] ["thing", "many"] (bG (top 8)):=fsc
 exact fP (fl:=[.A,.A]) D sc (by decide) (by decide) fun f cdv A outer s H E hr=>bx (bZ (uQ (lC (bh (kj (T := "tuple") (by decide) (vP 0) (by rfl) B.isinstance_ (by rfl) B.tuple_ PyProof.Rows.boot_tuple)) (lC (bh (nq (oE hr.units) zN (bh (dh bQ gU (by rfl) B.len_ PySem.boot_len (dq (vP 0) dz))) (vP 1) (dJ _))) (mW (bN hall_whole hr (dq (vP 0) dz)))))))
theorem Ge (D:Dg K mg "is_pair" (top 9) ["thing"]) (B:Bl mg) (his_tuple_of:Has P w K mg base n "is_tuple_of" ["thing", "many"] (spD K d_)):Has P w K mg base (n + 1) "is_pair" ["thing"] (spD K n6):=by
 have sc:FnScope ["thing"] ["thing"] (bG (top 9)):=fsc
 exact fP (fl:=[.A]) D sc (by decide) (by decide) fun f cdv A outer s H E hr=>bx (bZ (uQ (bN his_tuple_of hr (dq (vP 0) (dq iP dz)))))
theorem uK (D:Dg K mg "is_whole_list" (top 10) ["thing"]) (B:Bl mg) (hall_whole:Has P w K mg base n "all_whole" ["things"] (spD K fG)):Has P w K mg base (n + 1) "is_whole_list" ["thing"] (spD K iM):=by
 have sc:FnScope ["thing"] ["thing"] (bG (top 10)):=fsc
 exact fP (fl:=[.A]) D sc (by decide) (by decide) fun f cdv A outer s H E hr=>bx (bZ (uQ (lC (bh (kj (T := "list") (by decide) (vP 0) (by rfl) B.isinstance_ (by rfl) B.list_ PyProof.Rows.boot_list)) (mW (bN hall_whole hr (dq (vP 0) dz))))))
theorem xX (D:Dg K mg "is_stretch" (top 13) ["thing"]) (B:Bl mg) (his_pair:Has P w K mg base n "is_pair" ["thing"] (spD K n6)) (gNIGHTS:∃ t,mg "NIGHTS" = some (.int 400 t)):Has P w K mg base (n + 1) "is_stretch" ["thing"] (spD K jW):=by
 have sc:FnScope ["thing"] ["thing"] (bG (top 13)):=fsc
 exact fP (fl:=[.A]) D sc (by decide) (by decide) fun f cdv A outer s H E hr=>bx (bZ (cD (lC (f9 (bN his_pair hr (dq (vP 0) dz))) (mW (I_ jZ Br jZ pG b_lt pG iP (cI (dx (vB 0) iP)) (cI (dx (vB 0) iP)) (bh (zL gNIGHTS)))))))
theorem A_ (D:Dg K mg "nights_of" (top 14) ["stay"]) (B:Bl mg):Has P w K mg base (n + 1) "nights_of" ["stay"] (spD K eO):=by
 have sc:FnScope ["stay"] ["stay"] (bG (top 14)):=fsc
 exact fP (fl:=[.A]) D sc (by decide) (by decide) fun f cdv A outer s H E hr=>bx (bZ (rM rfl (dq (cD (oK (cI (dx (vB 0) iP)))) (dq (cD (oK (cI (dx (vB 0) iP)))) dz))))
theorem JW (D:Dg K mg "shared" (top 15) ["one", "other"]) (B:Bl mg):Has P w K mg base (n + 1) "shared" ["one", "other"] (spD K jU):=by
 have sc:FnScope ["one", "other", "first", "behind"] ["one", "other"] (bG (top 15)):=fsc
 exact fP (fl:=[.A,.A,.A,.A]) D sc (by decide) (by decide) fun f cdv A outer s H E hr=>aX (sA (i:=2) sc.nd (fL (dh (yp rfl) KY (by rfl) B.max_ PyProof.Rows.boot_max (dq (cI (dx (vB 0) iP)) (dq (cI (dx (vB 1) iP)) dz)))))
  (aX (sA (i:=3) sc.nd (fL (dh (t_ rfl) E_ (by rfl) B.min_ PyProof.Rows.boot_min (dq (cI (dx (vB 0) iP)) (dq (cI (dx (vB 1) iP)) dz)))))
  (aX (gb (fM SN Xn (vP 2) (vP 3) (dJ _)) (bx (bZ (cD (zJ)))) (cU))
  (bx (bZ (rM rfl (dq (cD (oK (vP 2))) (dq (cD (oK (vP 3))) dz)))))))
theorem O4 (D:Dg K mg "meets" (top 16) ["one", "other"]) (B:Bl mg) (hshared:Has P w K mg base n "shared" ["one", "other"] (spD K jU)):Has P w K mg base (n + 1) "meets" ["one", "other"] (spD K mq):=by
 have sc:FnScope ["one", "other"] ["one", "other"] (bG (top 16)):=fsc
 exact fP (fl:=[.A,.A]) D sc (by decide) (by decide) fun f cdv A outer s H E hr=>bx (bZ (cD (Qk (f9 (bN hshared hr (dq (vP 0) (dq (vP 1) dz)))))))
theorem Eb (D:Dg K mg "is_group" (top 20) ["thing"]) (B:Bl mg) (his_whole_within:Has P w K mg base n "is_whole_within" ["thing", "least", "most"] (spD K eH)) (his_stretch:Has P w K mg base n "is_stretch" ["thing"] (spD K jW)) (hnights_of:Has P w K mg base n "nights_of" ["stay"] (spD K eO)) (gMOST_OF_A_GROUP:∃ t,mg "MOST_OF_A_GROUP" = some (.int 6 t)):Has P w K mg base (n + 1) "is_group" ["thing"] (spD K kJ):=by
 have sc:FnScope ["thing"] ["thing"] (bG (top 20)):=fsc
 exact fP (fl:=[.A]) D sc (by decide) (by decide) fun f cdv A outer s H E hr=>aX (gb (um (nW (jf (iT (bh (kj (T := "tuple") (by decide) (vP 0) (by rfl) B.isinstance_ (by rfl) B.tuple_ PyProof.Rows.boot_tuple)))) (mX (fM (rF hr.units) Et (bh (dh bQ gU (by rfl) B.len_ PySem.boot_len (dq (vP 0) dz))) iP (dJ _))))) (bx (bZ (cD (jF)))) (cU))
  (bx (bZ (uQ (lC (f9 (bN his_stretch hr (dq (f9 (bN hnights_of hr (dq (vP 0) dz))) dz))) (mW (bN his_whole_within hr (dq (cI (dx (vB 0) iP)) (dq iP (dq (bh (zL gMOST_OF_A_GROUP)) dz)))))))))
theorem vd (D:Dg K mg "check_groups" (top 21) ["groups"]) (B:Bl mg) (his_group:Has P w K mg base n "is_group" ["thing"] (spD K kJ)):Has P w K mg base (n + 1) "check_groups" ["groups"] (spD K cV):=by
 have sc:FnScope ["groups", "at", "group"] ["groups"] (bG (top 21)):=fsc
 exact fP (fl:=[.A,.A,.A]) D sc (by decide) (by decide) fun f cdv A outer s H E hr=>bx (je (L:=[]) PassesOwn.never rfl (GF (vB 0) (by rfl) B.enumerate_) (ug rfl (gR (gN' (i:=1) sc.nd) (gR (gN' (i:=2) sc.nd) (p8)))) (bx (gb (jf (iT (f9 (bN his_group hr (dq (vP 2) dz))))) (bx (B_)) (cU))))
theorem O5 {Pt:Addr} (D:XL.DgT K mg "turns" (top 22) ["groups"] Pt "turns.<locals>.<lambda>" ⟨51,42,51,72⟩) (B:Bl mg):Has P w K mg base (n + 1) "turns" ["groups"] (spD K gQ):=by
 have sc:FnScope ["groups"] ["groups"] (bG (top 22)):=fsc
 exact XL.Vs (fl:=[.A]) D sc (by decide) (by decide) fun f c A outer s H E hcd hr=>bx (bZ (cD (XL.Ft (i:=0) ⟨⟨_,rfl,hcd⟩,rfl,D.tb⟩ hr rfl (dq (bh (dh bQ gU (by rfl) B.len_ PySem.boot_len (dq (vP 0) dz))) dz) (by rfl) B.sorted_ (by rfl) B.range_ rfl rfl rfl rfl (fun _ h=>XL.M9 rfl h) (fun _ _ _ _ _=>rfl) rfl rfl rfl (by decide +kernel) rfl rfl (by decide) (by decide) (by decide) rfl rfl)))
theorem Ba (D:Dg K mg "starts_in" (top 23) ["row", "group"]) (B:Bl mg):Has P w K mg base (n + 1) "starts_in" ["row", "group"] (spD K jJ):=by
 have sc:FnScope ["row", "group", "last"] ["row", "group"] (bG (top 23)):=fsc
 exact fP (fl:=[.A,.A,.A]) D sc (by decide) (by decide) fun f cdv A outer s H E hr=>aX (sA (i:=2) sc.nd (fL (cQ zu Gu (bh (dh bQ gU (by rfl) B.len_ PySem.boot_len (dq (vP 0) dz))) (cI (dx (vB 1) iP)))))
  (bx (bZ (cD (m9 (L:=[]) (fl':=[.A,.A,.A]) rfl ["start"] ["group", "row"] [1,0] (ji (by rfl) B.range_ (sV (dq (bh (cQ fB gY (vP 2) iP)) dz))) (fun _ _ _ _ _=>gN' (i:=0) (show (["start", "group", "row"]:List Str).Nodup by decide +kernel)) (fun _ _ _ _ _=>Gq (fM jZ pG (bh (dh (Jj rfl) Vk (by rfl) B.max_ PyProof.Rows.boot_max (dq (bh (Vj (vP 2) (oO (vP 0)) (oO (bh (cQ fB gY (vP 0) (cI (dx (vB 1) iP))))))) dz))) (cI (dx (vB 1) iP)) (dJ _))) (fun _ _ _ _ _=>mU (oK (vP 0)))))))
theorem vf (D:Dg K mg "night_behind" (top 24) ["since", "group", "is_own"]) (B:Bl mg):Has P w K mg base (n + 1) "night_behind" ["since", "group", "is_own"] (spD K eN):=by
 have sc:FnScope ["since", "group", "is_own"] ["since", "group", "is_own"] (bG (top 24)):=fsc
 exact fP (fl:=[.A,.A,.A]) D sc (by decide) (by decide) fun f cdv A outer s H E hr=>aX (gb (iT (vP 2)) (bx (bZ (cD (oK (cI (dx (vB 1) iP)))))) (cU))
  (bx (bZ (cD (oK (cI (Xq (fM jZ pG (vP 0) (cI (dx (vB 1) iP)) (dJ _)) (fL (zH)) (vA 0)))))))
theorem xY (D:Dg K mg "row_behind" (top 25) ["row", "group", "start"]) (B:Bl mg) (hnight_behind:Has P w K mg base n "night_behind" ["since", "group", "is_own"] (spD K eN)):Has P w K mg base (n + 1) "row_behind" ["row", "group", "start"] (spD K gG):=by
 have sc:FnScope ["row", "group", "start", "behind"] ["row", "group", "start"] (bG (top 25)):=fsc
 exact fP (fl:=[.A,.A,.A,.A]) D sc (by decide) (by decide) fun f cdv A outer s H E hr=>aX (sA (i:=3) sc.nd (fL (cQ fB gY (vP 2) (cI (dx (vB 1) iP)))))
  (bx (bZ (uQ (QB (mU (m9 (L:=[]) (fl':=[.A,.A,.A,.A,.A]) rfl ["room", "since"] ["group", "start", "behind"] [1,2,3] (Mz (vB 0) (by rfl) B.enumerate_) (fun _ _ _ _ _=>ug rfl (gR (gN' (i:=0) (show (["room", "since", "group", "start", "behind"]:List Str).Nodup by decide +kernel)) (gR (gN' (i:=1) (show (["room", "since", "group", "start", "behind"]:List Str).Nodup by decide +kernel)) (p8)))) (fun _ _ _ _ _=>oN) (fun _ _ _ _ _=>bN hnight_behind hr (dq (vP 1) (dq (vP 2) (dq (bh (BX jZ Br pG b_lt (vP 3) (vP 0) (vP 4))) dz)))))) (by rfl) B.tuple_))))
theorem xK (D:Dg K mg "rows_behind" (top 26) ["rows", "group"]) (B:Bl mg) (hstarts_in:Has P w K mg base n "starts_in" ["row", "group"] (spD K jJ)) (hrow_behind:Has P w K mg base n "row_behind" ["row", "group", "start"] (spD K gG)):Has P w K mg base (n + 1) "rows_behind" ["rows", "group"] (spD K eE):=by
 have sc:FnScope ["rows", "group", "found", "row", "start"] ["rows", "group"] (bG (top 26)):=fsc
 exact fP (fl:=[.A,.A,.N,.A,.A]) D sc (by decide) (by decide) fun f cdv A outer s H E hr=>aX (Qw (i:=2) rfl sc.nd rfl (by first | exact Or.inl rfl | exact Or.inr rfl) (Qu))
  (aX (je (L:=[]) PassesOwn.never rfl (kY (vB 0)) (gN' (i:=3) sc.nd) (bx (je (L:=[]) PassesOwn.never rfl (kY (m8 (mV (bN hstarts_in hr (dq (vP 3) (dq (vP 1) dz)))))) (gN' (i:=4) sc.nd) (bx (XJ.Mp (i:=2) (XK.hu1 hr.units) rfl (f9 (bN hrow_behind hr (dq (vP 3) (dq (vP 1) (dq (vP 4) dz))))) (cI (rM rfl (dq (vA 3) (dq (vA 4) dz)))) rfl ⟨rfl,rfl,rfl,rfl⟩)))))
  (bx (bZ (K9 2 rfl))))
theorem xZ (D:Dg K mg "all_behind" (top 27) ["held", "groups"]) (B:Bl mg) (hturns:Has P w K mg base n "turns" ["groups"] (spD K gQ)) (hrows_behind:Has P w K mg base n "rows_behind" ["rows", "group"] (spD K eE)) (gMOST_ROWS:∃ t,mg "MOST_ROWS" = some (.int 400 t)):Has P w K mg base (n + 1) "all_behind" ["held", "groups"] (spL K jj):=by
 have sc:FnScope ["held", "groups", "found", "rows", "place", "behind"] ["held", "groups"] (bG (top 27)):=fsc
 exact Lg (fl:=[.A,.A,.O,.A,.A,.A]) D sc (by decide) (by decide) fun f cdv A outer s H E hr=>aX (p7 (i:=2) rfl sc.nd rfl (by first | exact Or.inl rfl | exact Or.inr rfl) (rK (iZ dz)))
  (aX (sA (i:=3) sc.nd (yF (Gy (dq (GK (vB 0) (by rfl) B.tuple_) dz))))
  (aX (je (L:=[]) PassesOwn.never rfl (kY (m8 (mV (bN hturns hr (dq (vP 1) dz))))) (gN' (i:=4) sc.nd) (aX (sA (i:=5) sc.nd (mV (bN hrows_behind hr (dq (vP 3) (dq (cI (dx (vB 1) (vP 4))) dz)))))
  (aX (qb (i:=2) rfl (vA 5) rfl)
  (aX (gb (fM yj IV (bh (XJ.Ah (dq (vP 5) dz) (by rfl) B.len_)) (bh (zL gMOST_ROWS)) (dJ _)) (bx (B_)) (cU))
  (aX (gb (fM (oE hr.units) zN (bh (XJ.Ah (dq (vP 5) dz) (by rfl) B.len_)) iP (dJ _)) (bx (vq (yG (v5 2)))) (cU))
  (bx (sA (i:=3) sc.nd (fL (XJ.wL rfl (dq (vP 5) dz) (by rfl) B.sorted_)))))))))
  (bx (vq (yG (v5 2))))))
theorem Bb (D:Dg K mg "places_by" (top 28) ["found", "groups"]) (B:Bl mg) (hturns:Has P w K mg base n "turns" ["groups"] (spD K gQ)):Has P w K mg base (n + 1) "places_by" ["found", "groups"] (spD K jK):=by
 have sc:FnScope ["found", "groups", "places", "row", "place", "behind"] ["found", "groups"] (bG (top 28)):=fsc
 exact fP (fl:=[.A,.A,.O,.A,.A,.A]) D sc (by decide) (by decide) fun f cdv A outer s H E hr=>aX (p7 (i:=2) rfl sc.nd rfl (by first | exact Or.inl rfl | exact Or.inr rfl) (UG (rK (iZ (dq (mU (zJ)) dz))) (bh (dh bQ gU (by rfl) B.len_ PySem.boot_len (dq (vP 1) dz)))))
  (aX (sA (i:=3) sc.nd (fL (zJ)))
  (aX (je (L:=[]) PassesOwn.never rfl (U7 (m8 (yF (XK.MP (m8 (mV (bN hturns hr (dq (vP 1) dz)))) (vB 0) rfl (by rfl) B.list_ (by rfl) B.zip_))) (by rfl) B.reversed_) (ug rfl (gR (gN' (i:=4) sc.nd) (gR (gN' (i:=5) sc.nd) (p8)))) (aX (gb (K7 (vP 3)) (bx (sA (i:=3) sc.nd (dx (m8 (fL (XJ.wL rfl (dq (vP 5) dz) (by rfl) B.sorted_))) iP))) (cU))
  (aX (Ux (i:=2) rfl (dx (m8 (fL (XJ.CP (XK.hu1 hr.units) (vP 5) (vP 3) (fun _ _=>rfl)))) iP) (vP 4) rfl)
  (bx (sA (i:=3) sc.nd (dx (m8 (fL (XJ.CP (XK.hu1 hr.units) (vP 5) (vP 3) (fun _ _=>rfl)))) iP))))))
  (bx (bZ (zG 2 (by decide))))))
theorem qy (D:Dg K mg "laid_as_they_are" (top 29) ["held", "groups"]) (B:Bl mg) (hall_behind:Has P w K mg base n "all_behind" ["held", "groups"] (spL K jj)) (hplaces_by:Has P w K mg base n "places_by" ["found", "groups"] (spD K jK)):Has P w K mg base (n + 1) "laid_as_they_are" ["held", "groups"] (spD K dD):=by
 have sc:FnScope ["held", "groups", "found"] ["held", "groups"] (bG (top 29)):=fsc
 exact fP (fl:=[.A,.A,.A]) D sc (by decide) (by decide) fun f cdv A outer s H E hr=>aX (sA (i:=2) sc.nd (Xx rfl (Ci hall_behind hr (dq (vP 0) (dq (vP 1) dz)))))
  (aX (gb (um (KQ (fM yj IV (bh (dh bQ gU (by rfl) B.len_ PySem.boot_len (dq (vP 2) dz))) iP (dJ _)) (Gz (fM (oE hr.units) zN (bh (XJ.Ah (dq (cI (dx (vB 2) (bh (zQ iP)))) dz) (by rfl) B.len_)) iP (dJ _))))) (bx (bZ (rM rfl (dq (cD (zK)) (dq (cD (m9 (L:=[]) (fl':=[.A]) rfl ["behind"] [] [] (kY (vB 2)) (fun _ _ _ _ _=>gN' (i:=0) (show (["behind"]:List Str).Nodup by decide +kernel)) (fun _ _ _ _ _=>oN) (fun _ _ _ _ _=>mU (XJ.wL rfl (dq (vP 0) dz) (by rfl) B.sorted_)))) dz))))) (cU))
  (bx (bZ (rM rfl (dq (cD (zK)) (dq (uQ (bN hplaces_by hr (dq (vP 2) (dq (vP 1) dz)))) dz))))))
theorem Sy (D:Dg K mg "laid" (top 30) ["held", "groups"]) (B:Bl mg) (hcheck_groups:Has P w K mg base n "check_groups" ["groups"] (spD K cV)) (hlaid_as_they_are:Has P w K mg base n "laid_as_they_are" ["held", "groups"] (spD K dD)):Has P w K mg base (n + 1) "laid" ["held", "groups"] (spD K uE):=by
 have sc:FnScope ["held", "groups"] ["held", "groups"] (bG (top 30)):=fsc
 exact fP (fl:=[.A,.A]) D sc (by decide) (by decide) fun f cdv A outer s H E hr=>aX (zO (f9 (bN hcheck_groups hr (dq (vP 1) dz))))
  (bx (bZ (uQ (bN hlaid_as_they_are hr (dq (vP 0) (dq (vP 1) dz))))))
theorem Bc (D:Dg K mg "has_rooms" (top 31) ["held", "group", "start"]) (B:Bl mg):Has P w K mg base (n + 1) "has_rooms" ["held", "group", "start"] (spD K g_):=by
 have sc:FnScope ["held", "group", "start"] ["held", "group", "start"] (bG (top 31)):=fsc
 exact fP (fl:=[.A,.A,.A]) D sc (by decide) (by decide) fun f cdv A outer s H E hr=>aX (gb (jf (v9 jZ jZ pG pG iP (vP 2) (bh (cQ zu Gu (bh (dh bQ gU (by rfl) B.len_ PySem.boot_len (dq (vP 0) dz))) (cI (dx (vB 1) iP)))))) (bx (bZ (cD (jF)))) (cU))
  (bx (bZ (cD (nq jZ pG (bh (dh (yI rfl) K6 (by rfl) B.max_ PyProof.Rows.boot_max (dq (Gs (K1 (vB 0) (oO (vP 2)) (oO (bh (cQ fB gY (vP 2) (cI (dx (vB 1) iP))))))) dz))) (cI (dx (vB 1) iP)) (dJ _)))))
theorem nC (D:Dg K mg "have_a_room_in_common" (top 32) ["one", "start", "other", "other_start"]) (B:Bl mg):Has P w K mg base (n + 1) "have_a_room_in_common" ["one", "start", "other", "other_start"] (spD K cG):=by
 have sc:FnScope ["one", "start", "other", "other_start"] ["one", "start", "other", "other_start"] (bG (top 32)):=fsc
 exact fP (fl:=[.A,.A,.A,.A]) D sc (by decide) (by decide) fun f cdv A outer s H E hr=>bx (bZ (cD (nq Br b_lt (bh (dh (yp rfl) KY (by rfl) B.max_ PyProof.Rows.boot_max (dq (vP 1) (dq (vP 3) dz)))) (bh (dh (t_ rfl) E_ (by rfl) B.min_ PyProof.Rows.boot_min (dq (bh (cQ fB gY (vP 1) (cI (dx (vB 0) iP)))) (dq (bh (cQ fB gY (vP 3) (cI (dx (vB 2) iP)))) dz)))) (dJ _))))
theorem Bd (D:Dg K mg "is_beside" (top 33) ["groups", "places", "place"]) (B:Bl mg) (hnights_of:Has P w K mg base n "nights_of" ["stay"] (spD K eO)) (hmeets:Has P w K mg base n "meets" ["one", "other"] (spD K mq)) (hhave_a_room_in_common:Has P w K mg base n "have_a_room_in_common" ["one", "start", "other", "other_start"] (spD K cG)):Has P w K mg base (n + 1) "is_beside" ["groups", "places", "place"] (spD K h_):=by
 have sc:FnScope ["groups", "places", "place", "other"] ["groups", "places", "place"] (bG (top 33)):=fsc
 exact fP (fl:=[.A,.A,.A,.A]) D sc (by decide) (by decide) fun f cdv A outer s H E hr=>aX (je (L:=[]) PassesOwn.never rfl (ji (by rfl) B.range_ (sV (dq (vP 2) dz))) (gN' (i:=3) sc.nd) (bx (gb (iT (f9 (bN hmeets hr (dq (f9 (bN hnights_of hr (dq (cI (dx (vB 0) (vP 2))) dz))) (dq (f9 (bN hnights_of hr (dq (cI (dx (vB 0) (vP 3))) dz))) dz))))) (bx (gb (iT (f9 (bN hhave_a_room_in_common hr (dq (cI (dx (vB 0) (vP 2))) (dq (cI (dx (vB 1) (vP 2))) (dq (cI (dx (vB 0) (vP 3))) (dq (cI (dx (vB 1) (vP 3))) dz))))))) (bx (bZ (cD (jF)))) (cU))) (cU))))
  (bx (bZ (cD (jF))))
theorem Gf (D:Dg K mg "is_laid" (top 34) ["held", "groups", "thing"]) (B:Bl mg) (his_whole_list:Has P w K mg base n "is_whole_list" ["thing"] (spD K iM)) (hcheck_groups:Has P w K mg base n "check_groups" ["groups"] (spD K cV)) (hhas_rooms:Has P w K mg base n "has_rooms" ["held", "group", "start"] (spD K g_)) (his_beside:Has P w K mg base n "is_beside" ["groups", "places", "place"] (spD K h_)):Has P w K mg base (n + 1) "is_laid" ["held", "groups", "thing"] (spD K mF):=by
 have sc:FnScope ["held", "groups", "thing", "place", "group"] ["held", "groups", "thing"] (bG (top 34)):=fsc
 exact fP (fl:=[.A,.A,.A,.A,.A]) D sc (by decide) (by decide) fun f cdv A outer s H E hr=>aX (zO (f9 (bN hcheck_groups hr (dq (vP 1) dz))))
  (aX (gb (um (nW (jf (iT (f9 (bN his_whole_list hr (dq (vP 2) dz))))) (mX (fM (rF hr.units) Et (bh (dh bQ gU (by rfl) B.len_ PySem.boot_len (dq (vP 2) dz))) (bh (dh bQ gU (by rfl) B.len_ PySem.boot_len (dq (vP 1) dz))) (dJ _))))) (bx (bZ (cD (jF)))) (cU))
  (aX (je (L:=[]) PassesOwn.never rfl (GF (vB 1) (by rfl) B.enumerate_) (ug rfl (gR (gN' (i:=3) sc.nd) (gR (gN' (i:=4) sc.nd) (p8)))) (bx (gb (um (nW (jf (iT (f9 (bN hhas_rooms hr (dq (vP 0) (dq (vP 4) (dq (cI (dx (vB 2) (vP 3))) dz))))))) (mX (jf (iT (f9 (bN his_beside hr (dq (vP 1) (dq (vP 2) (dq (vP 3) dz)))))))))) (bx (bZ (cD (jF)))) (cU))))
  (bx (bZ (cD (jF))))))
theorem xM (D:Dg K mg "is_row_list" (top 35) ["thing", "many"]) (B:Bl mg) (his_tuple_of:Has P w K mg base n "is_tuple_of" ["thing", "many"] (spD K d_)):Has P w K mg base (n + 1) "is_row_list" ["thing", "many"] (spD K gM):=by
 have sc:FnScope ["thing", "many"] ["thing", "many"] (bG (top 35)):=fsc
 exact fP (fl:=[.A,.A]) D sc (by decide) (by decide) fun f cdv A outer s H E hr=>bx (bZ (cD (lC (bh (kj (T := "list") (by decide) (vP 0) (by rfl) B.isinstance_ (by rfl) B.list_ PyProof.Rows.boot_list)) (mW (dh (qd rfl) yL (by rfl) B.all_ (show bootBuiltins "all" = some (.builtin "all") by decide +kernel) (dq (bh (m9 (L:=[]) (fl':=[.A,.A]) rfl ["row"] ["many"] [1] (kY (vB 0)) (fun _ _ _ _ _=>gN' (i:=0) (show (["row", "many"]:List Str).Nodup by decide +kernel)) (fun _ _ _ _ _=>oN) (fun _ _ _ _ _=>bN his_tuple_of hr (dq (vP 0) (dq (vP 1) dz))))) dz))))))
theorem Gg (D:Dg K mg "has_all" (top 36) ["rows", "needed"]) (B:Bl mg):Has P w K mg base (n + 1) "has_all" ["rows", "needed"] (spD K kO):=by
 have sc:FnScope ["rows", "needed", "known"] ["rows", "needed"] (bG (top 36)):=fsc
 exact fP (fl:=[.A,.A,.A]) D sc (by decide) (by decide) fun f cdv A outer s H E hr=>aX (sA (i:=2) sc.nd (mV (XJ.M5 hr.units hr.hd (dq (bh (m9 (L:=[]) (fl':=[.A]) rfl ["row"] [] [] (kY (vB 0)) (fun _ _ _ _ _=>gN' (i:=0) (show (["row"]:List Str).Nodup by decide +kernel)) (fun _ _ _ _ _=>oN) (fun _ _ _ _ _=>mU (oK (cI (rM rfl (dq (vA 0) (dq (fL (jF)) dz)))))))) dz) (by rfl) B.dict_)))
  (bx (bZ (cD (dh (qd rfl) yL (by rfl) B.all_ (show bootBuiltins "all" = some (.builtin "all") by decide +kernel) (dq (bh (XJ.Mt (fl':=[.A,.A]) rfl ["row"] ["known"] [2] (vP 1) (fun _ _ _ _ _=>gN' (i:=0) (show (["row", "known"]:List Str).Nodup by decide +kernel)) (fun _ _ _ _ _=>oN) (fun _ _ _ _ _=>mU (nq (XJ.Vi hr.units) XJ.X5 (vP 0) (vP 1) (by with_unfolding_all rfl))))) dz)))))
theorem Gi (D:Dg K mg "is_none" (top 37) ["held", "groups", "thing"]) (B:Bl mg) (hcheck_groups:Has P w K mg base n "check_groups" ["groups"] (spD K cV)) (hturns:Has P w K mg base n "turns" ["groups"] (spD K gQ)) (hrows_behind:Has P w K mg base n "rows_behind" ["rows", "group"] (spD K eE)) (his_row_list:Has P w K mg base n "is_row_list" ["thing", "many"] (spD K gM)) (hhas_all:Has P w K mg base n "has_all" ["rows", "needed"] (spD K kO)):Has P w K mg base (n + 1) "is_none" ["held", "groups", "thing"] (spD K iR):=by
 have sc:FnScope ["held", "groups", "thing", "ahead", "place", "rows"] ["held", "groups", "thing"] (bG (top 37)):=fsc
 exact fP (fl:=[.A,.A,.A,.A,.A,.A]) D sc (by decide) (by decide) fun f cdv A outer s H E hr=>aX (zO (f9 (bN hcheck_groups hr (dq (vP 1) dz))))
  (aX (gb (um (nW (jf (iT (bh (kj (T := "list") (by decide) (vP 2) (by rfl) B.isinstance_ (by rfl) B.list_ PyProof.Rows.boot_list)))) (mX (jf (v9 jZ jZ pG pG iP (bh (dh bQ gU (by rfl) B.len_ PySem.boot_len (dq (vP 2) dz))) (bh (dh bQ gU (by rfl) B.len_ PySem.boot_len (dq (vP 1) dz)))))))) (bx (bZ (cD (jF)))) (cU))
  (aX (gb (um (nW (jf (iT (bh (dh (qd rfl) yL (by rfl) B.all_ (show bootBuiltins "all" = some (.builtin "all") by decide +kernel) (dq (bh (m9 (L:=[]) (fl':=[.A,.A]) rfl ["rows"] ["held"] [0] (kY (vB 2)) (fun _ _ _ _ _=>gN' (i:=0) (show (["rows", "held"]:List Str).Nodup by decide +kernel)) (fun _ _ _ _ _=>oN) (fun _ _ _ _ _=>bN his_row_list hr (dq (vP 0) (dq (bh (dh bQ gU (by rfl) B.len_ PySem.boot_len (dq (vP 1) dz))) dz))))) dz))))) (mX (fM yj IV (bh (dh bQ gU (by rfl) B.len_ PySem.boot_len (dq (cI (dx (vB 2) (bh (zQ iP)))) dz))) iP (dJ _))))) (bx (bZ (cD (jF)))) (cU))
  (aX (sA (i:=3) sc.nd (yF (Gy (dq (GK (vB 0) (by rfl) B.tuple_) dz))))
  (aX (je (L:=[]) PassesOwn.never rfl (UW (L1:=[]) (L2:=[]) (m8 (mV (bN hturns hr (dq (vP 1) dz)))) (vB 2) (by rfl) B.zip_) (ug rfl (gR (gN' (i:=4) sc.nd) (gR (gN' (i:=5) sc.nd) (p8)))) (aX (gb (jf (iT (f9 (bN hhas_all hr (dq (vP 5) (dq (f9 (bN hrows_behind hr (dq (vP 3) (dq (cI (dx (vB 1) (vP 4))) dz)))) dz)))))) (bx (bZ (cD (jF)))) (cU))
  (bx (sA (i:=3) sc.nd (vA 5)))))
  (bx (bZ (cD (jF))))))))
theorem Bf (D:Dg K mg "_law_cell" (top 39) ["_law_script", "_law_at"]) (B:Bl mg):Has P w K mg base (n + 1) "_law_cell" ["_law_script", "_law_at"] (spD K gZ):=by
 have sc:FnScope ["_law_script", "_law_at"] ["_law_script", "_law_at"] (bG (top 39)):=fsc
 exact fP (fl:=[.A,.A]) D sc (by decide) (by decide) fun f cdv A outer s H E hr=>aX (gb (fM Br b_lt (vP 1) (bh (dh bQ gU (by rfl) B.len_ PySem.boot_len (dq (vP 0) dz))) (dJ _)) (bx (bZ (cD (cQ kW qQ (cI (dx (vB 0) (vP 1))) iP)))) (cU))
  (aX (gb (fM (oE hr.units) zN (vP 0) (bh (iZ dz)) (dJ _)) (bx (bZ (cD (cQ fB gY (bh (cQ lQ sU iP (vP 1))) iP)))) (cU))
  (bx (bZ (cD (cQ fB gY (bh (cQ kW qQ (cI (dx (vB 0) (bh (cQ kW qQ (bh (cQ lQ sU (vP 1) iP)) (bh (dh bQ gU (by rfl) B.len_ PySem.boot_len (dq (vP 0) dz))))))) iP)) (bh (cQ lQ sU iP (vP 1))))))))
theorem Bg (D:Dg K mg "_law_part" (top 40) ["_law_script", "_law_at", "_law_k", "_law_many"]) (B:Bl mg) (h_law_cell:Has P w K mg base n "_law_cell" ["_law_script", "_law_at"] (spD K gZ)):Has P w K mg base (n + 1) "_law_part" ["_law_script", "_law_at", "_law_k", "_law_many"] (spD K bT):=by
 have sc:FnScope ["_law_script", "_law_at", "_law_k", "_law_many", "_law_number", "_law_j"] ["_law_script", "_law_at", "_law_k", "_law_many"] (bG (top 40)):=fsc
 exact fP (fl:=[.A,.A,.A,.A,.A,.A]) D sc (by decide) (by decide) fun f cdv A outer s H E hr=>aX (gb (um (KQ (fM Br b_lt (vP 1) (bh (dh bQ gU (by rfl) B.len_ PySem.boot_len (dq (vP 0) dz))) (dJ _)) (Gz (fM SN Xn (cI (dx (vB 0) (vP 1))) (bh (cQ Ue Xm iP iP)) (dJ _))))) (aX (sA (i:=4) sc.nd (dx (vB 0) (vP 1)))
  (aX (je (L:=[]) PassesOwn.never rfl (ji (by rfl) B.range_ (sV (dq (vP 2) dz))) (gN' (i:=5) sc.nd) (bx (sA (i:=4) sc.nd (fL (cQ zM Ky (vP 4) iP)))))
  (bx (gb (fM yj IV (vP 4) iP (dJ _)) (bx (bZ (cD (cQ kW qQ (bh (cQ kW qQ (vP 4) iP)) (vP 3))))) (cU))))) (cU))
  (aX (sA (i:=4) sc.nd (fL (cQ kW qQ (bh (cQ lQ sU (bh (cQ fB gY (bh (cQ fB gY (f9 (bN h_law_cell hr (dq (vP 0) (dq (vP 1) dz)))) (bh (cQ lQ sU iP (vP 1))))) iP)) (bh (cQ fB gY iP (bh (cQ lQ sU iP (vP 2))))))) iP)))
  (aX (sA (i:=4) sc.nd (fL (cQ fB gY (bh (cQ kW qQ (bh (cQ lQ sU (vP 4) (vP 4))) iP)) iP)))
  (bx (bZ (cD (cQ kW qQ (bh (cQ zM Ky (bh (cQ kW qQ (bh (cQ lQ sU (vP 4) (vP 4))) iP)) iP)) (vP 3)))))))
theorem yc (D:Dg K mg "_law_whole" (top 41) ["_law_found"]) (B:Bl mg):Has P w K mg base (n + 1) "_law_whole" ["_law_found"] (spD K iD):=by
 have sc:FnScope ["_law_found"] ["_law_found"] (bG (top 41)):=fsc
 exact fP (fl:=[.A]) D sc (by decide) (by decide) fun f cdv A outer s H E hr=>bx (bZ (cD (lC (bh (kj (T := "int") (by decide) (vP 0) (by rfl) B.isinstance_ (by rfl) B.int_ PyProof.Rows.boot_int)) (mW (KN (bh (kj (T := "bool") (by decide) (vP 0) (by rfl) B.isinstance_ (by rfl) B.bool_ PyProof.Rows.boot_bool)))))))
theorem yd (D:Dg K mg "_law_apart" (top 42) ["_law_one", "_law_place", "_law_other", "_law_there"]) (B:Bl mg):Has P w K mg base (n + 1) "_law_apart" ["_law_one", "_law_place", "_law_other", "_law_there"] (spD K dU):=by
 have sc:FnScope ["_law_one", "_law_place", "_law_other", "_law_there"] ["_law_one", "_law_place", "_law_other", "_law_there"] (bG (top 42)):=fsc
 exact fP (fl:=[.A,.A,.A,.A]) D sc (by decide) (by decide) fun f cdv A outer s H E hr=>aX (gb (um (nW (fM jZ pG (cI (dx (vB 0) iP)) (cI (dx (vB 2) iP)) (dJ _)) (mX (fM jZ pG (cI (dx (vB 2) iP)) (cI (dx (vB 0) iP)) (dJ _))))) (bx (bZ (cD (jF)))) (cU))
  (bx (bZ (cD (Xp (bh (nq jZ pG (bh (cQ fB gY (vP 1) (cI (dx (vB 0) iP)))) (vP 3) (dJ _))) (mW (nq jZ pG (bh (cQ fB gY (vP 3) (cI (dx (vB 2) iP)))) (vP 1) (dJ _)))))))
theorem Bh (D:Dg K mg "_law_sits" (top 43) ["_law_held_here", "_law_groups_here", "_law_places"]) (B:Bl mg) (h_law_whole:Has P w K mg base n "_law_whole" ["_law_found"] (spD K iD)) (h_law_apart:Has P w K mg base n "_law_apart" ["_law_one", "_law_place", "_law_other", "_law_there"] (spD K dU)):Has P w K mg base (n + 1) "_law_sits" ["_law_held_here", "_law_groups_here", "_law_places"] (spD K fX):=by
 have sc:FnScope ["_law_held_here", "_law_groups_here", "_law_places", "_law_at", "_law_place", "_law_first", "_law_behind", "_law_size", "_law_k"] ["_law_held_here", "_law_groups_here", "_law_places"] (bG (top 43)):=fsc
 exact fP (fl:=[.A,.A,.A,.A,.A,.A,.A,.A,.A]) D sc (by decide) (by decide) fun f cdv A outer s H E hr=>aX (gb (um (nW (jf (iT (bh (kj (T := "list") (by decide) (vP 2) (by rfl) B.isinstance_ (by rfl) B.list_ PyProof.Rows.boot_list)))) (mX (fM (rF hr.units) Et (bh (dh bQ gU (by rfl) B.len_ PySem.boot_len (dq (vP 2) dz))) (bh (dh bQ gU (by rfl) B.len_ PySem.boot_len (dq (vP 1) dz))) (dJ _))))) (bx (bZ (cD (jF)))) (cU))
  (aX (je (L:=[]) PassesOwn.never rfl (ji (by rfl) B.range_ (sV (dq (bh (dh bQ gU (by rfl) B.len_ PySem.boot_len (dq (vP 1) dz))) dz))) (gN' (i:=3) sc.nd) (aX (sA (i:=4) sc.nd (dx (vB 2) (vP 3)))
  (aX (Uw (dx (vB 1) (vP 3)) (ug rfl (gR (gN' (i:=5) sc.nd) (gR (gN' (i:=6) sc.nd) (gR (gN' (i:=7) sc.nd) (p8))))))
  (aX (gb (um (nW (jf (iT (f9 (bN h_law_whole hr (dq (vP 4) dz))))) (mX (jf (v9 jZ jZ pG pG iP (vP 4) (bh (cQ zu Gu (bh (dh bQ gU (by rfl) B.len_ PySem.boot_len (dq (vP 0) dz))) (vP 7)))))))) (bx (bZ (cD (jF)))) (cU))
  (bx (gb (fM yj IV (bh (dh (yI rfl) K6 (by rfl) B.max_ PyProof.Rows.boot_max (dq (Gs (K1 (vB 0) (oO (vP 4)) (oO (bh (cQ fB gY (vP 4) (vP 7)))))) dz))) (vP 5) (dJ _)) (bx (bZ (cD (jF)))) (cU)))))))
  (aX (je (L:=[]) PassesOwn.never rfl (ji (by rfl) B.range_ (sV (dq (bh (dh bQ gU (by rfl) B.len_ PySem.boot_len (dq (vP 1) dz))) dz))) (gN' (i:=3) sc.nd) (bx (je (L:=[]) PassesOwn.never rfl (ji (by rfl) B.range_ (sV (dq (vP 3) dz))) (gN' (i:=8) sc.nd) (bx (gb (jf (iT (f9 (bN h_law_apart hr (dq (cI (dx (vB 1) (vP 8))) (dq (cI (dx (vB 2) (vP 8))) (dq (cI (dx (vB 1) (vP 3))) (dq (cI (dx (vB 2) (vP 3))) dz)))))))) (bx (bZ (cD (jF)))) (cU))))))
  (bx (bZ (cD (jF))))))
theorem Bj (D:Dg K mg "_law_held" (top 44) ["_law_script", "_law_wide"]) (B:Bl mg) (h_law_part:Has P w K mg base n "_law_part" ["_law_script", "_law_at", "_law_k", "_law_many"] (spD K bT)):Has P w K mg base (n + 1) "_law_held" ["_law_script", "_law_wide"] (spD K jg):=by
 have sc:FnScope ["_law_script", "_law_wide", "_law_base", "_law_held_here", "_law_room", "_law_number"] ["_law_script", "_law_wide"] (bG (top 44)):=fsc
 exact fP (fl:=[.A,.A,.A,.O,.A,.A]) D sc (by decide) (by decide) fun f cdv A outer s H E hr=>aX (sA (i:=2) sc.nd (mV (bN h_law_part hr (dq (vP 0) (dq iP (dq iP (dq iP dz)))))))
  (aX (p7 (i:=3) rfl sc.nd rfl (by first | exact Or.inl rfl | exact Or.inr rfl) (rK (iZ dz)))
  (aX (je (L:=[]) PassesOwn.never rfl (ji (by rfl) B.range_ (sV (dq (vP 1) dz))) (gN' (i:=4) sc.nd) (aX (sA (i:=5) sc.nd (mV (bN h_law_part hr (dq (vP 0) (dq iP (dq (vP 4) (dq iP dz)))))))
  (bx (qb (i:=3) rfl (dx (m8 (fL (iZ (dq iC (dq (mU (cQ zu Gu (bh (cQ fB gY (vP 2) (vP 5))) iP)) dz))))) (bh (Qq (dq (bh (nq yj IV (vP 5) iP (dJ _))) dz) (by rfl) B.int_))) rfl))))
  (bx (bZ (zG 3 (by decide))))))
theorem xO (D:Dg K mg "_law_groups" (top 45) ["_law_script", "_law_wide", "_law_many"]) (B:Bl mg) (h_law_part:Has P w K mg base n "_law_part" ["_law_script", "_law_at", "_law_k", "_law_many"] (spD K bT)):Has P w K mg base (n + 1) "_law_groups" ["_law_script", "_law_wide", "_law_many"] (spD K gJ):=by
 have sc:FnScope ["_law_script", "_law_wide", "_law_many", "_law_base", "_law_groups_here", "_law_k", "_law_first", "_law_size"] ["_law_script", "_law_wide", "_law_many"] (bG (top 45)):=fsc
 exact fP (fl:=[.A,.A,.A,.A,.O,.A,.A,.A]) D sc (by decide) (by decide) fun f cdv A outer s H E hr=>aX (sA (i:=3) sc.nd (mV (bN h_law_part hr (dq (vP 0) (dq iP (dq iP (dq iP dz)))))))
  (aX (p7 (i:=4) rfl sc.nd rfl (by first | exact Or.inl rfl | exact Or.inr rfl) (rK (iZ dz)))
  (aX (je (L:=[]) PassesOwn.never rfl (ji (by rfl) B.range_ (sV (dq (vP 2) dz))) (gN' (i:=5) sc.nd) (aX (sA (i:=6) sc.nd (fL (cQ fB gY (vP 3) (f9 (bN h_law_part hr (dq (vP 0) (dq (bh (cQ fB gY iP (vP 5))) (dq iP (dq iP dz)))))))))
  (aX (sA (i:=7) sc.nd (fL (cQ fB gY iP (f9 (bN h_law_part hr (dq (vP 0) (dq (bh (cQ fB gY iP (vP 5))) (dq iP (dq (vP 1) dz)))))))))
  (aX (gb (fM (oE hr.units) zN (f9 (bN h_law_part hr (dq (vP 0) (dq (bh (cQ fB gY iP (vP 5))) (dq iP (dq iP dz)))))) iP (dJ _)) (bx (sA (i:=7) sc.nd (fL (dh (t_ rfl) E_ (by rfl) B.min_ PyProof.Rows.boot_min (dq iP (dq (bh (cQ fB gY (vP 1) iP)) dz)))))) (cU))
  (bx (qb (i:=4) rfl (rM rfl (dq (vA 6) (dq (fL (cQ fB gY (bh (cQ fB gY (vP 6) iP)) (f9 (bN h_law_part hr (dq (vP 0) (dq (bh (cQ fB gY iP (vP 5))) (dq iP (dq iP dz)))))))) (dq (vA 7) dz)))) rfl))))))
  (bx (bZ (zG 4 (by decide))))))
theorem yg (D:Dg K mg "_law_tried" (top 46) ["_law_held_here", "_law_groups_here"]) (B:Bl mg) (his_laid:Has P w K mg base n "is_laid" ["held", "groups", "thing"] (spD K mF)) (h_law_sits:Has P w K mg base n "_law_sits" ["_law_held_here", "_law_groups_here", "_law_places"] (spD K fX)):Has P w K mg base (n + 1) "_law_tried" ["_law_held_here", "_law_groups_here"] (spL K jk):=by
 have sc:FnScope ["_law_held_here", "_law_groups_here", "_law_good", "_law_amount", "_law_group", "_law_number", "_law_places", "_law_rest", "_law_right", "_law_told"] ["_law_held_here", "_law_groups_here"] (bG (top 46)):=fsc
 exact Lg (fl:=[.A,.A,.O,.A,.A,.A,.O,.A,.A,.A]) D sc (by decide) (by decide) fun f cdv A outer s H E hr=>aX (p7 (i:=2) rfl sc.nd rfl (by first | exact Or.inl rfl | exact Or.inr rfl) (rK (iZ dz)))
  (aX (sA (i:=3) sc.nd (fL (zH)))
  (aX (je (L:=[]) PassesOwn.never rfl (kY (vB 1)) (gN' (i:=4) sc.nd) (bx (sA (i:=3) sc.nd (fL (cQ lQ sU (vP 3) (bh (dh bQ gU (by rfl) B.len_ PySem.boot_len (dq (vP 0) dz))))))))
  (aX (je (L:=[]) PassesOwn.never rfl (ji (by rfl) B.range_ (sV (dq (vP 3) dz))) (gN' (i:=5) sc.nd) (aX (p7 (i:=6) rfl sc.nd rfl (by first | exact Or.inl rfl | exact Or.inr rfl) (rK (iZ dz)))
  (aX (sA (i:=7) sc.nd (vA 5))
  (aX (je (L:=[]) PassesOwn.never rfl (kY (vB 1)) (gN' (i:=4) sc.nd) (aX (qb (i:=6) rfl (fL (cQ kW qQ (vP 7) (bh (dh bQ gU (by rfl) B.len_ PySem.boot_len (dq (vP 0) dz))))) rfl)
  (bx (sA (i:=7) sc.nd (fL (cQ zM Ky (vP 7) (bh (dh bQ gU (by rfl) B.len_ PySem.boot_len (dq (vP 0) dz)))))))))
  (aX (sA (i:=8) sc.nd (mV (bN h_law_sits hr (dq (vP 0) (dq (vP 1) (dq (yG (v5 6)) dz))))))
  (aX (sA (i:=9) sc.nd (mV (bN his_laid hr (dq (vP 0) (dq (vP 1) (dq (yG (v5 6)) dz))))))
  (aX (gb (um (nW (jf (iT (bh (kj (T := "bool") (by decide) (vP 9) (by rfl) B.isinstance_ (by rfl) B.bool_ PyProof.Rows.boot_bool)))) (mX (fM (rF hr.units) Et (vP 9) (vP 8) (dJ _))))) (bx (vq (bh (zJ)))) (cU))
  (bx (gb (iT (vP 8)) (bx (XV.Rc (i:=2) (j:=6) rfl rfl rfl rfl)) (cU))))))))))
  (bx (vq (yG (v5 2)))))))
theorem Wz (Fn:FunD K "law" (top 47) f fd) (B:Bl mg) (hlaid:Has P w K mg base n "laid" ["held", "groups"] (spD K uE)) (his_none:Has P w K mg base n "is_none" ["held", "groups", "thing"] (spD K iR)) (h_law_part:Has P w K mg base n "_law_part" ["_law_script", "_law_at", "_law_k", "_law_many"] (spD K bT)) (h_law_sits:Has P w K mg base n "_law_sits" ["_law_held_here", "_law_groups_here", "_law_places"] (spD K fX)) (h_law_held:Has P w K mg base n "_law_held" ["_law_script", "_law_wide"] (spD K jg)) (h_law_groups:Has P w K mg base n "_law_groups" ["_law_script", "_law_wide", "_law_many"] (spD K gJ)) (h_law_tried:Has P w K mg base n "_law_tried" ["_law_held_here", "_law_groups_here"] (spL K jk)):FnOk P w K mg base CX0 (n + 1) f fd ["_law_script"] (spD K Hy):=by
 have sc:FnScope ["_law_script", "_law_wide", "_law_held_here", "_law_groups_here", "_law_good", "_law_found"] ["_law_script"] (bG (top 47)):=fsc
 exact K3 (fl:=[.A,.A,.A,.A,.A,.A]) Fn sc (by decide) (by decide) fun f cdv A outer s H E hr=>aX (sA (i:=1) sc.nd (fL (cQ fB gY iP (f9 (bN h_law_part hr (dq (vP 0) (dq iP (dq iP (dq iP dz)))))))))
  (aX (sA (i:=2) sc.nd (mV (bN h_law_held hr (dq (vP 0) (dq (vP 1) dz)))))
  (aX (sA (i:=3) sc.nd (mV (bN h_law_groups hr (dq (vP 0) (dq (vP 1) (dq (f9 (bN h_law_part hr (dq (vP 0) (dq iP (dq iP (dq iP dz)))))) dz))))))
  (aX (sA (i:=4) sc.nd (Xx rfl (Ci h_law_tried hr (dq (vP 2) (dq (vP 3) dz)))))
  (aX (sA (i:=5) sc.nd (mV (bN hlaid hr (dq (Gs (GD (vB 2) (by rfl) B.list_)) (dq (Gs (GD (vB 3) (by rfl) B.list_)) dz)))))
  (aX (gb (um (nW (K7 (vP 4)) (nW (jf (iT (bh (kj (T := "tuple") (by decide) (vP 5) (by rfl) B.isinstance_ (by rfl) B.tuple_ PyProof.Rows.boot_tuple)))) (mX (fM (rF hr.units) Et (bh (dh bQ gU (by rfl) B.len_ PySem.boot_len (dq (vP 5) dz))) iP (dJ _)))))) (bx (bZ (cD (jF)))) (cU))
  (aX (gb (fM (rF hr.units) Et (vP 4) (bh (iZ dz)) (dJ _)) (bx (bZ (cD (lC (bh (nq (oE hr.units) zN (cI (dx (vB 5) iP)) (bh (zK)) (dJ _))) (lC (f9 (bN h_law_sits hr (dq (vP 2) (dq (vP 3) (dq (cI (dx (vB 5) iP)) dz))))) (mW (Vm (f9 (bN his_none hr (dq (vP 2) (dq (vP 3) (dq (bh (iZ (dq (mU (iZ dz)) dz))) dz)))))))))))) (cU))
  (aX (gb (um (nW (fM (rF hr.units) Et (cI (dx (vB 5) iP)) (bh (zK)) (dJ _)) (nW (jf (iT (bh (kj (T := "list") (by decide) (cI (dx (vB 5) iP)) (by rfl) B.isinstance_ (by rfl) B.list_ PyProof.Rows.boot_list)))) (mX (Qt (f9 (bN his_none hr (dq (vP 2) (dq (vP 3) (dq (cI (dx (vB 5) iP)) dz)))))))))) (bx (bZ (cD (jF)))) (cU))
  (bx (bZ (cD (lC (bh (nq (oE hr.units) zN (bh (m9 (L:=[]) (fl':=[.A]) rfl ["_law_rows"] [] [] (kY (m8 (yF (K1 (m8 (dx (vB 5) iP)) Qm (oO (bh (zQ iP))))))) (fun _ _ _ _ _=>gN' (i:=0) (show (["_law_rows"]:List Str).Nodup by decide +kernel)) (fun _ _ _ _ _=>Gq (fM (oE hr.units) zN (vP 0) (bh (iZ dz)) (dJ _))) (fun _ _ _ _ _=>mU (oK (vP 0))))) (bh (iZ dz)) (dJ _))) (mW (nq (oE hr.units) zN (cI (dx (m8 (dx (vB 5) iP)) (bh (zQ iP)))) (bh (iZ dz)) (dJ _))))))))))))))
end
end K72
namespace D3
theorem len0 {p:List PySem.Value→Prop} (h:p []):∀ us,us.length=0→p us:=fun us hl=>by
 cases us with
 | nil=>exact h
 | cons _ _=>cases hl
theorem cW {p:List PySem.Value→Prop} (h:∀ a us,us.length=n→p (a :: us)):∀ us,us.length=n + 1→p us:=fun us hl=>by
 cases us with
 | nil=>cases hl
 | cons a r=>exact h a r (sH.inj hl)
end D3
namespace K72
open PySem L2 My D3
structure Txt (K:PySem.W.Frag) (mg:Str→Option Value):Prop where
 d_is_whole:Dg K mg "is_whole" (top 5) ["thing"]
 d_is_whole_within:Dg K mg "is_whole_within" (top 6) ["thing", "least", "most"]
 d_all_whole:Dg K mg "all_whole" (top 7) ["things"]
 d_is_tuple_of:Dg K mg "is_tuple_of" (top 8) ["thing", "many"]
 d_is_pair:Dg K mg "is_pair" (top 9) ["thing"]
 d_is_whole_list:Dg K mg "is_whole_list" (top 10) ["thing"]
 d_is_stretch:Dg K mg "is_stretch" (top 13) ["thing"]
 d_nights_of:Dg K mg "nights_of" (top 14) ["stay"]
 d_shared:Dg K mg "shared" (top 15) ["one", "other"]
 d_meets:Dg K mg "meets" (top 16) ["one", "other"]
 d_is_group:Dg K mg "is_group" (top 20) ["thing"]
 d_check_groups:Dg K mg "check_groups" (top 21) ["groups"]
 d_turns:XL.DgT K mg "turns" (top 22) ["groups"] 149 "turns.<locals>.<lambda>" ⟨51,42,51,72⟩
 d_starts_in:Dg K mg "starts_in" (top 23) ["row", "group"]
 d_night_behind:Dg K mg "night_behind" (top 24) ["since", "group", "is_own"]
 d_row_behind:Dg K mg "row_behind" (top 25) ["row", "group", "start"]
 d_rows_behind:Dg K mg "rows_behind" (top 26) ["rows", "group"]
 d_all_behind:Dg K mg "all_behind" (top 27) ["held", "groups"]
 d_places_by:Dg K mg "places_by" (top 28) ["found", "groups"]
 d_laid_as_they_are:Dg K mg "laid_as_they_are" (top 29) ["held", "groups"]
 d_laid:Dg K mg "laid" (top 30) ["held", "groups"]
 d_has_rooms:Dg K mg "has_rooms" (top 31) ["held", "group", "start"]
 d_have_a_room_in_common:Dg K mg "have_a_room_in_common" (top 32) ["one", "start", "other", "other_start"]
 d_is_beside:Dg K mg "is_beside" (top 33) ["groups", "places", "place"]
 d_is_laid:Dg K mg "is_laid" (top 34) ["held", "groups", "thing"]
 d_is_row_list:Dg K mg "is_row_list" (top 35) ["thing", "many"]
 d_has_all:Dg K mg "has_all" (top 36) ["rows", "needed"]
 d_is_none:Dg K mg "is_none" (top 37) ["held", "groups", "thing"]
 d__law_cell:Dg K mg "_law_cell" (top 39) ["_law_script", "_law_at"]
 d__law_part:Dg K mg "_law_part" (top 40) ["_law_script", "_law_at", "_law_k", "_law_many"]
 d__law_whole:Dg K mg "_law_whole" (top 41) ["_law_found"]
 d__law_apart:Dg K mg "_law_apart" (top 42) ["_law_one", "_law_place", "_law_other", "_law_there"]
 d__law_sits:Dg K mg "_law_sits" (top 43) ["_law_held_here", "_law_groups_here", "_law_places"]
 d__law_held:Dg K mg "_law_held" (top 44) ["_law_script", "_law_wide"]
 d__law_groups:Dg K mg "_law_groups" (top 45) ["_law_script", "_law_wide", "_law_many"]
 d__law_tried:Dg K mg "_law_tried" (top 46) ["_law_held_here", "_law_groups_here"]
 d_law:Dl K mg "law" "_law_script" (top 47)
 blt:Bl mg
 c_NIGHTS:∃ t,mg "NIGHTS" = some (.int 400 t)
 c_MOST_OF_A_GROUP:∃ t,mg "MOST_OF_A_GROUP" = some (.int 6 t)
 c_MOST_ROWS:∃ t,mg "MOST_ROWS" = some (.int 400 t)
theorem WD (T:Txt K mg) {f:Addr} {fd:FuncData} (F:FunD K "law" (top 47) f fd):FnOk P w K mg base CX0 65 f fd ["_law_script"] (K4 K):=by
 have h_is_whole:=Ea (P:=P) (w:=w) (base:=base) (n:=0) T.d_is_whole T.blt
 have h_nights_of:=A_ (P:=P) (w:=w) (base:=base) (n:=0) T.d_nights_of T.blt
 have h_shared:=JW (P:=P) (w:=w) (base:=base) (n:=0) T.d_shared T.blt
 have h_turns:=O5 (P:=P) (w:=w) (base:=base) (n:=0) T.d_turns T.blt
 have h_starts_in:=Ba (P:=P) (w:=w) (base:=base) (n:=0) T.d_starts_in T.blt
 have h_night_behind:=vf (P:=P) (w:=w) (base:=base) (n:=0) T.d_night_behind T.blt
 have h_has_rooms:=Bc (P:=P) (w:=w) (base:=base) (n:=0) T.d_has_rooms T.blt
 have h_have_a_room_in_common:=nC (P:=P) (w:=w) (base:=base) (n:=0) T.d_have_a_room_in_common T.blt
 have h_has_all:=Gg (P:=P) (w:=w) (base:=base) (n:=0) T.d_has_all T.blt
 have h__law_cell:=Bf (P:=P) (w:=w) (base:=base) (n:=0) T.d__law_cell T.blt
 have h__law_whole:=yc (P:=P) (w:=w) (base:=base) (n:=0) T.d__law_whole T.blt
 have h__law_apart:=yd (P:=P) (w:=w) (base:=base) (n:=0) T.d__law_apart T.blt
 have h_is_whole_within:=rT (P:=P) (w:=w) (base:=base) (n:=1) T.d_is_whole_within T.blt (h_is_whole.mono (by decide))
 have h_all_whole:=Az (P:=P) (w:=w) (base:=base) (n:=1) T.d_all_whole T.blt (h_is_whole.mono (by decide))
 have h_meets:=O4 (P:=P) (w:=w) (base:=base) (n:=1) T.d_meets T.blt (h_shared.mono (by decide))
 have h_row_behind:=xY (P:=P) (w:=w) (base:=base) (n:=1) T.d_row_behind T.blt (h_night_behind.mono (by decide))
 have h_places_by:=Bb (P:=P) (w:=w) (base:=base) (n:=1) T.d_places_by T.blt (h_turns.mono (by decide))
 have h__law_part:=Bg (P:=P) (w:=w) (base:=base) (n:=1) T.d__law_part T.blt (h__law_cell.mono (by decide))
 have h__law_sits:=Bh (P:=P) (w:=w) (base:=base) (n:=1) T.d__law_sits T.blt (h__law_whole.mono (by decide)) (h__law_apart.mono (by decide))
 have h_is_tuple_of:=xJ (P:=P) (w:=w) (base:=base) (n:=2) T.d_is_tuple_of T.blt (h_all_whole.mono (by decide))
 have h_is_whole_list:=uK (P:=P) (w:=w) (base:=base) (n:=2) T.d_is_whole_list T.blt (h_all_whole.mono (by decide))
 have h_rows_behind:=xK (P:=P) (w:=w) (base:=base) (n:=2) T.d_rows_behind T.blt (h_starts_in.mono (by decide)) (h_row_behind.mono (by decide))
 have h_is_beside:=Bd (P:=P) (w:=w) (base:=base) (n:=2) T.d_is_beside T.blt (h_nights_of.mono (by decide)) (h_meets.mono (by decide)) (h_have_a_room_in_common.mono (by decide))
 have h__law_held:=Bj (P:=P) (w:=w) (base:=base) (n:=2) T.d__law_held T.blt (h__law_part.mono (by decide))
 have h__law_groups:=xO (P:=P) (w:=w) (base:=base) (n:=2) T.d__law_groups T.blt (h__law_part.mono (by decide))
 have h_is_pair:=Ge (P:=P) (w:=w) (base:=base) (n:=3) T.d_is_pair T.blt (h_is_tuple_of.mono (by decide))
 have h_all_behind:=xZ (P:=P) (w:=w) (base:=base) (n:=3) T.d_all_behind T.blt (h_turns.mono (by decide)) (h_rows_behind.mono (by decide)) T.c_MOST_ROWS
 have h_is_row_list:=xM (P:=P) (w:=w) (base:=base) (n:=3) T.d_is_row_list T.blt (h_is_tuple_of.mono (by decide))
 have h_is_stretch:=xX (P:=P) (w:=w) (base:=base) (n:=4) T.d_is_stretch T.blt (h_is_pair.mono (by decide)) T.c_NIGHTS
 have h_laid_as_they_are:=qy (P:=P) (w:=w) (base:=base) (n:=4) T.d_laid_as_they_are T.blt (h_all_behind.mono (by decide)) (h_places_by.mono (by decide))
 have h_is_group:=Eb (P:=P) (w:=w) (base:=base) (n:=5) T.d_is_group T.blt (h_is_whole_within.mono (by decide)) (h_is_stretch.mono (by decide)) (h_nights_of.mono (by decide)) T.c_MOST_OF_A_GROUP
 have h_check_groups:=vd (P:=P) (w:=w) (base:=base) (n:=6) T.d_check_groups T.blt (h_is_group.mono (by decide))
 have h_laid:=Sy (P:=P) (w:=w) (base:=base) (n:=7) T.d_laid T.blt (h_check_groups.mono (by decide)) (h_laid_as_they_are.mono (by decide))
 have h_is_laid:=Gf (P:=P) (w:=w) (base:=base) (n:=7) T.d_is_laid T.blt (h_is_whole_list.mono (by decide)) (h_check_groups.mono (by decide)) (h_has_rooms.mono (by decide)) (h_is_beside.mono (by decide))
 have h_is_none:=Gi (P:=P) (w:=w) (base:=base) (n:=7) T.d_is_none T.blt (h_check_groups.mono (by decide)) (h_turns.mono (by decide)) (h_rows_behind.mono (by decide)) (h_is_row_list.mono (by decide)) (h_has_all.mono (by decide))
 have h__law_tried:=yg (P:=P) (w:=w) (base:=base) (n:=8) T.d__law_tried T.blt (h_is_laid.mono (by decide)) (h__law_sits.mono (by decide))
 exact ((Wz (P:=P) (w:=w) (base:=base) (n:=9) F T.blt (h_laid.mono (by decide)) (h_is_none.mono (by decide)) (h__law_part.mono (by decide)) (h__law_sits.mono (by decide)) (h__law_held.mono (by decide)) (h__law_groups.mono (by decide)) (h__law_tried.mono (by decide))).mono (by decide)).imp (Qo K72.O3)
end K72
def PySem.W.Fast.tw4784216626535329253:=0
def PySem.W.Fast.tw16895792520722465219:=0
def PySem.W.Fast.tw3391636105883185344:=0
def PySem.W.Fast.tw6551730572629219595:=0
def PySem.W.Fast.tw18385526926771242821:=0
def PySem.W.Fast.tw1444566381345286348:=0
def PySem.W.Fast.tw6013893978344333276:=0
def PySem.W.Fast.tw4262701325415200815:=0
def PySem.W.Fast.tw15559983871554383204:=0
def PySem.W.Fast.tw17977722206556128058:=0
def PySem.W.Fast.tw5537251669567926447:=0
def PySem.W.Fast.tw11438415517074257824:=0
def PySem.W.Fast.tw13926045236956662055:=0
def PySem.W.Fast.tw14573771062549939525:=0
def PySem.W.Fast.tw15426379124810667523:=0
open PySem PySem.W PyProof.Rows
set_option maxRecDepth 100000 in
set_option maxHeartbeats 0 in
theorem PySem.Challenge.cw_nightbook_k72_all_places_tried_holds : PySem.Challenge.rw_nightbook_k72_all_places_tried.Holds := by
 w_on;o_law;k_head;(case hw=>w_witness2)
 k_fill
 refine L2.Kh (l:=PySem.Challenge.rw_nightbook_k72_all_places_tried) (n:=63) (k:=65) (x := "_law_script") (CX:=L2.CX0) (sp:=D3.K4) rfl (by decide) rfl ⟨rfl,by decide,by decide⟩ (fun w h Y=>PySem.W.km_in_of Y) ?F D3.tabs (fun w h Y=>XL.Ri (c:=153) (PySem.W.km_in_of Y) (PySem.W.km_tabs_of Y _ (aG)) (by kernel_rfl) (by kernel_rfl)) XL.M8 ?S ?C
 case F =>
  intro w mg fa h KX G hmg
  have T:K72.Txt (L2.KOf KX) mg:=by
   dsimp only [L2.KOf]
   have d_is_whole:D3.Dg (L2.KOf KX) mg "is_whole" (K72.top 5) ["thing"]:=by
    dsimp only [L2.KOf]
    refine' D3.fD KX G ?b ?a ?l ?c ?k
    (case a=>k_is);(case l=>k_is);(case c=>k_is);(case k=>k_is)
    (case b=>exact fun _ _ _ _ _ _=>D3.cW fun _=>D3.len0 rfl)
   have d_is_whole_within:D3.Dg (L2.KOf KX) mg "is_whole_within" (K72.top 6) ["thing", "least", "most"]:=by
    dsimp only [L2.KOf]
    refine' D3.fD KX G ?b ?a ?l ?c ?k
    (case a=>k_is);(case l=>k_is);(case c=>k_is);(case k=>k_is)
    (case b=>exact fun _ _ _ _ _ _=>D3.cW fun _=>D3.cW fun _=>D3.cW fun _=>D3.len0 rfl)
   have d_all_whole:D3.Dg (L2.KOf KX) mg "all_whole" (K72.top 7) ["things"]:=by
    dsimp only [L2.KOf]
    refine' D3.fD KX G ?b ?a ?l ?c ?k
    (case a=>k_is);(case l=>k_is);(case c=>k_is);(case k=>k_is)
    (case b=>exact fun _ _ _ _ _ _=>D3.cW fun _=>D3.len0 rfl)
   have d_is_tuple_of:D3.Dg (L2.KOf KX) mg "is_tuple_of" (K72.top 8) ["thing", "many"]:=by
    dsimp only [L2.KOf]
    refine' D3.fD KX G ?b ?a ?l ?c ?k
    (case a=>k_is);(case l=>k_is);(case c=>k_is);(case k=>k_is)
    (case b=>exact fun _ _ _ _ _ _=>D3.cW fun _=>D3.cW fun _=>D3.len0 rfl)
   have d_is_pair:D3.Dg (L2.KOf KX) mg "is_pair" (K72.top 9) ["thing"]:=by
    dsimp only [L2.KOf]
    refine' D3.fD KX G ?b ?a ?l ?c ?k
    (case a=>k_is);(case l=>k_is);(case c=>k_is);(case k=>k_is)
    (case b=>exact fun _ _ _ _ _ _=>D3.cW fun _=>D3.len0 rfl)
   have d_is_whole_list:D3.Dg (L2.KOf KX) mg "is_whole_list" (K72.top 10) ["thing"]:=by
    dsimp only [L2.KOf]
    refine' D3.fD KX G ?b ?a ?l ?c ?k
    (case a=>k_is);(case l=>k_is);(case c=>k_is);(case k=>k_is)
    (case b=>exact fun _ _ _ _ _ _=>D3.cW fun _=>D3.len0 rfl)
   have d_is_stretch:D3.Dg (L2.KOf KX) mg "is_stretch" (K72.top 13) ["thing"]:=by
    dsimp only [L2.KOf]
    refine' D3.fD KX G ?b ?a ?l ?c ?k
    (case a=>k_is);(case l=>k_is);(case c=>k_is);(case k=>k_is)
    (case b=>exact fun _ _ _ _ _ _=>D3.cW fun _=>D3.len0 rfl)
   have d_nights_of:D3.Dg (L2.KOf KX) mg "nights_of" (K72.top 14) ["stay"]:=by
    dsimp only [L2.KOf]
    refine' D3.fD KX G ?b ?a ?l ?c ?k
    (case a=>k_is);(case l=>k_is);(case c=>k_is);(case k=>k_is)
    (case b=>exact fun _ _ _ _ _ _=>D3.cW fun _=>D3.len0 rfl)
   have d_shared:D3.Dg (L2.KOf KX) mg "shared" (K72.top 15) ["one", "other"]:=by
    dsimp only [L2.KOf]
    refine' D3.fD KX G ?b ?a ?l ?c ?k
    (case a=>k_is);(case l=>k_is);(case c=>k_is);(case k=>k_is)
    (case b=>exact fun _ _ _ _ _ _=>D3.cW fun _=>D3.cW fun _=>D3.len0 rfl)
   have d_meets:D3.Dg (L2.KOf KX) mg "meets" (K72.top 16) ["one", "other"]:=by
    dsimp only [L2.KOf]
    refine' D3.fD KX G ?b ?a ?l ?c ?k
    (case a=>k_is);(case l=>k_is);(case c=>k_is);(case k=>k_is)
    (case b=>exact fun _ _ _ _ _ _=>D3.cW fun _=>D3.cW fun _=>D3.len0 rfl)
   have d_is_group:D3.Dg (L2.KOf KX) mg "is_group" (K72.top 20) ["thing"]:=by
    dsimp only [L2.KOf]
    refine' D3.fD KX G ?b ?a ?l ?c ?k
    (case a=>k_is);(case l=>k_is);(case c=>k_is);(case k=>k_is)
    (case b=>exact fun _ _ _ _ _ _=>D3.cW fun _=>D3.len0 rfl)
   have d_check_groups:D3.Dg (L2.KOf KX) mg "check_groups" (K72.top 21) ["groups"]:=by
    dsimp only [L2.KOf]
    refine' D3.fD KX G ?b ?a ?l ?c ?k
    (case a=>k_is);(case l=>k_is);(case c=>k_is);(case k=>k_is)
    (case b=>exact fun _ _ _ _ _ _=>D3.cW fun _=>D3.len0 rfl)
   have d_turns:XL.DgT (L2.KOf KX) mg "turns" (K72.top 22) ["groups"] 149 "turns.<locals>.<lambda>" ⟨51,42,51,72⟩:=by
    dsimp only [L2.KOf]
    refine' XL.Vr KX G ?b ?a ?l ?c ?k ?h ?t
    (case a=>k_is);(case l=>k_is);(case c=>k_is);(case k=>k_is);(case h=>kernel_rfl);(case t=>exact aG)
    (case b=>exact fun _ _ _ _ _ _=>D3.cW fun _=>D3.len0 rfl)
   have d_starts_in:D3.Dg (L2.KOf KX) mg "starts_in" (K72.top 23) ["row", "group"]:=by
    dsimp only [L2.KOf]
    refine' D3.fD KX G ?b ?a ?l ?c ?k
    (case a=>k_is);(case l=>k_is);(case c=>k_is);(case k=>k_is)
    (case b=>exact fun _ _ _ _ _ _=>D3.cW fun _=>D3.cW fun _=>D3.len0 rfl)
   have d_night_behind:D3.Dg (L2.KOf KX) mg "night_behind" (K72.top 24) ["since", "group", "is_own"]:=by
    dsimp only [L2.KOf]
    refine' D3.fD KX G ?b ?a ?l ?c ?k
    (case a=>k_is);(case l=>k_is);(case c=>k_is);(case k=>k_is)
    (case b=>exact fun _ _ _ _ _ _=>D3.cW fun _=>D3.cW fun _=>D3.cW fun _=>D3.len0 rfl)
   have d_row_behind:D3.Dg (L2.KOf KX) mg "row_behind" (K72.top 25) ["row", "group", "start"]:=by
    dsimp only [L2.KOf]
    refine' D3.fD KX G ?b ?a ?l ?c ?k
    (case a=>k_is);(case l=>k_is);(case c=>k_is);(case k=>k_is)
    (case b=>exact fun _ _ _ _ _ _=>D3.cW fun _=>D3.cW fun _=>D3.cW fun _=>D3.len0 rfl)
   have d_rows_behind:D3.Dg (L2.KOf KX) mg "rows_behind" (K72.top 26) ["rows", "group"]:=by
    dsimp only [L2.KOf]
    refine' D3.fD KX G ?b ?a ?l ?c ?k
    (case a=>k_is);(case l=>k_is);(case c=>k_is);(case k=>k_is)
    (case b=>exact fun _ _ _ _ _ _=>D3.cW fun _=>D3.cW fun _=>D3.len0 rfl)
   have d_all_behind:D3.Dg (L2.KOf KX) mg "all_behind" (K72.top 27) ["held", "groups"]:=by
    dsimp only [L2.KOf]
    refine' D3.fD KX G ?b ?a ?l ?c ?k
    (case a=>k_is);(case l=>k_is);(case c=>k_is);(case k=>k_is)
    (case b=>exact fun _ _ _ _ _ _=>D3.cW fun _=>D3.cW fun _=>D3.len0 rfl)
   have d_places_by:D3.Dg (L2.KOf KX) mg "places_by" (K72.top 28) ["found", "groups"]:=by
    dsimp only [L2.KOf]
    refine' D3.fD KX G ?b ?a ?l ?c ?k
    (case a=>k_is);(case l=>k_is);(case c=>k_is);(case k=>k_is)
    (case b=>exact fun _ _ _ _ _ _=>D3.cW fun _=>D3.cW fun _=>D3.len0 rfl)
   have d_laid_as_they_are:D3.Dg (L2.KOf KX) mg "laid_as_they_are" (K72.top 29) ["held", "groups"]:=by
    dsimp only [L2.KOf]
    refine' D3.fD KX G ?b ?a ?l ?c ?k
    (case a=>k_is);(case l=>k_is);(case c=>k_is);(case k=>k_is)
    (case b=>exact fun _ _ _ _ _ _=>D3.cW fun _=>D3.cW fun _=>D3.len0 rfl)
   have d_laid:D3.Dg (L2.KOf KX) mg "laid" (K72.top 30) ["held", "groups"]:=by
    dsimp only [L2.KOf]
    refine' D3.fD KX G ?b ?a ?l ?c ?k
    (case a=>k_is);(case l=>k_is);(case c=>k_is);(case k=>k_is)
    (case b=>exact fun _ _ _ _ _ _=>D3.cW fun _=>D3.cW fun _=>D3.len0 rfl)
   have d_has_rooms:D3.Dg (L2.KOf KX) mg "has_rooms" (K72.top 31) ["held", "group", "start"]:=by
    dsimp only [L2.KOf]
    refine' D3.fD KX G ?b ?a ?l ?c ?k
    (case a=>k_is);(case l=>k_is);(case c=>k_is);(case k=>k_is)
    (case b=>exact fun _ _ _ _ _ _=>D3.cW fun _=>D3.cW fun _=>D3.cW fun _=>D3.len0 rfl)
   have d_have_a_room_in_common:D3.Dg (L2.KOf KX) mg "have_a_room_in_common" (K72.top 32) ["one", "start", "other", "other_start"]:=by
    dsimp only [L2.KOf]
    refine' D3.fD KX G ?b ?a ?l ?c ?k
    (case a=>k_is);(case l=>k_is);(case c=>k_is);(case k=>k_is)
    (case b=>exact fun _ _ _ _ _ _=>D3.cW fun _=>D3.cW fun _=>D3.cW fun _=>D3.cW fun _=>D3.len0 rfl)
   have d_is_beside:D3.Dg (L2.KOf KX) mg "is_beside" (K72.top 33) ["groups", "places", "place"]:=by
    dsimp only [L2.KOf]
    refine' D3.fD KX G ?b ?a ?l ?c ?k
    (case a=>k_is);(case l=>k_is);(case c=>k_is);(case k=>k_is)
    (case b=>exact fun _ _ _ _ _ _=>D3.cW fun _=>D3.cW fun _=>D3.cW fun _=>D3.len0 rfl)
   have d_is_laid:D3.Dg (L2.KOf KX) mg "is_laid" (K72.top 34) ["held", "groups", "thing"]:=by
    dsimp only [L2.KOf]
    refine' D3.fD KX G ?b ?a ?l ?c ?k
    (case a=>k_is);(case l=>k_is);(case c=>k_is);(case k=>k_is)
    (case b=>exact fun _ _ _ _ _ _=>D3.cW fun _=>D3.cW fun _=>D3.cW fun _=>D3.len0 rfl)
   have d_is_row_list:D3.Dg (L2.KOf KX) mg "is_row_list" (K72.top 35) ["thing", "many"]:=by
    dsimp only [L2.KOf]
    refine' D3.fD KX G ?b ?a ?l ?c ?k
    (case a=>k_is);(case l=>k_is);(case c=>k_is);(case k=>k_is)
    (case b=>exact fun _ _ _ _ _ _=>D3.cW fun _=>D3.cW fun _=>D3.len0 rfl)
   have d_has_all:D3.Dg (L2.KOf KX) mg "has_all" (K72.top 36) ["rows", "needed"]:=by
    dsimp only [L2.KOf]
    refine' D3.fD KX G ?b ?a ?l ?c ?k
    (case a=>k_is);(case l=>k_is);(case c=>k_is);(case k=>k_is)
    (case b=>exact fun _ _ _ _ _ _=>D3.cW fun _=>D3.cW fun _=>D3.len0 rfl)
   have d_is_none:D3.Dg (L2.KOf KX) mg "is_none" (K72.top 37) ["held", "groups", "thing"]:=by
    dsimp only [L2.KOf]
    refine' D3.fD KX G ?b ?a ?l ?c ?k
    (case a=>k_is);(case l=>k_is);(case c=>k_is);(case k=>k_is)
    (case b=>exact fun _ _ _ _ _ _=>D3.cW fun _=>D3.cW fun _=>D3.cW fun _=>D3.len0 rfl)
   have d__law_cell:D3.Dg (L2.KOf KX) mg "_law_cell" (K72.top 39) ["_law_script", "_law_at"]:=by
    dsimp only [L2.KOf]
    refine' D3.fD KX G ?b ?a ?l ?c ?k
    (case a=>k_is);(case l=>k_is);(case c=>k_is);(case k=>k_is)
    (case b=>exact fun _ _ _ _ _ _=>D3.cW fun _=>D3.cW fun _=>D3.len0 rfl)
   have d__law_part:D3.Dg (L2.KOf KX) mg "_law_part" (K72.top 40) ["_law_script", "_law_at", "_law_k", "_law_many"]:=by
    dsimp only [L2.KOf]
    refine' D3.fD KX G ?b ?a ?l ?c ?k
    (case a=>k_is);(case l=>k_is);(case c=>k_is);(case k=>k_is)
    (case b=>exact fun _ _ _ _ _ _=>D3.cW fun _=>D3.cW fun _=>D3.cW fun _=>D3.cW fun _=>D3.len0 rfl)
   have d__law_whole:D3.Dg (L2.KOf KX) mg "_law_whole" (K72.top 41) ["_law_found"]:=by
    dsimp only [L2.KOf]
    refine' D3.fD KX G ?b ?a ?l ?c ?k
    (case a=>k_is);(case l=>k_is);(case c=>k_is);(case k=>k_is)
    (case b=>exact fun _ _ _ _ _ _=>D3.cW fun _=>D3.len0 rfl)
   have d__law_apart:D3.Dg (L2.KOf KX) mg "_law_apart" (K72.top 42) ["_law_one", "_law_place", "_law_other", "_law_there"]:=by
    dsimp only [L2.KOf]
    refine' D3.fD KX G ?b ?a ?l ?c ?k
    (case a=>k_is);(case l=>k_is);(case c=>k_is);(case k=>k_is)
    (case b=>exact fun _ _ _ _ _ _=>D3.cW fun _=>D3.cW fun _=>D3.cW fun _=>D3.cW fun _=>D3.len0 rfl)
   have d__law_sits:D3.Dg (L2.KOf KX) mg "_law_sits" (K72.top 43) ["_law_held_here", "_law_groups_here", "_law_places"]:=by
    dsimp only [L2.KOf]
    refine' D3.fD KX G ?b ?a ?l ?c ?k
    (case a=>k_is);(case l=>k_is);(case c=>k_is);(case k=>k_is)
    (case b=>exact fun _ _ _ _ _ _=>D3.cW fun _=>D3.cW fun _=>D3.cW fun _=>D3.len0 rfl)
   have d__law_held:D3.Dg (L2.KOf KX) mg "_law_held" (K72.top 44) ["_law_script", "_law_wide"]:=by
    dsimp only [L2.KOf]
    refine' D3.fD KX G ?b ?a ?l ?c ?k
    (case a=>k_is);(case l=>k_is);(case c=>k_is);(case k=>k_is)
    (case b=>exact fun _ _ _ _ _ _=>D3.cW fun _=>D3.cW fun _=>D3.len0 rfl)
   have d__law_groups:D3.Dg (L2.KOf KX) mg "_law_groups" (K72.top 45) ["_law_script", "_law_wide", "_law_many"]:=by
    dsimp only [L2.KOf]
    refine' D3.fD KX G ?b ?a ?l ?c ?k
    (case a=>k_is);(case l=>k_is);(case c=>k_is);(case k=>k_is)
    (case b=>exact fun _ _ _ _ _ _=>D3.cW fun _=>D3.cW fun _=>D3.cW fun _=>D3.len0 rfl)
   have d__law_tried:D3.Dg (L2.KOf KX) mg "_law_tried" (K72.top 46) ["_law_held_here", "_law_groups_here"]:=by
    dsimp only [L2.KOf]
    refine' D3.fD KX G ?b ?a ?l ?c ?k
    (case a=>k_is);(case l=>k_is);(case c=>k_is);(case k=>k_is)
    (case b=>exact fun _ _ _ _ _ _=>D3.cW fun _=>D3.cW fun _=>D3.len0 rfl)
   have d_law:D3.Dl (L2.KOf KX) mg "law" "_law_script" (K72.top 47):=by
    dsimp only [L2.KOf]
    refine' D3.Xu KX G ?b ?a ?l ?c ?k
    (case a=>k_is);(case l=>k_is);(case c=>k_is);(case k=>k_is)
    (case b=>exact fun _ _ _ _ _ _ u=>rfl)
   have gU:mg "len" = none:=by
    refine' PySem.W.mg_none_of KX G ?z
    (case z=>k_is)
   have b_range:mg "range" = none:=by
    refine' PySem.W.mg_none_of KX G ?z
    (case z=>k_is)
   have b_abs:mg "abs" = none:=by
    refine' PySem.W.mg_none_of KX G ?z
    (case z=>k_is)
   have b_isinstance:mg "isinstance" = none:=by
    refine' PySem.W.mg_none_of KX G ?z
    (case z=>k_is)
   have b_int:mg "int" = none:=by
    refine' PySem.W.mg_none_of KX G ?z
    (case z=>k_is)
   have b_bool:mg "bool" = none:=by
    refine' PySem.W.mg_none_of KX G ?z
    (case z=>k_is)
   have b_tuple:mg "tuple" = none:=by
    refine' PySem.W.mg_none_of KX G ?z
    (case z=>k_is)
   have b_list:mg "list" = none:=by
    refine' PySem.W.mg_none_of KX G ?z
    (case z=>k_is)
   have b_str:mg "str" = none:=by
    refine' PySem.W.mg_none_of KX G ?z
    (case z=>k_is)
   have b_max:mg "max" = none:=by
    refine' PySem.W.mg_none_of KX G ?z
    (case z=>k_is)
   have b_min:mg "min" = none:=by
    refine' PySem.W.mg_none_of KX G ?z
    (case z=>k_is)
   have b_sorted:mg "sorted" = none:=by
    refine' PySem.W.mg_none_of KX G ?z
    (case z=>k_is)
   have S9:mg "sum" = none:=by
    refine' PySem.W.mg_none_of KX G ?z
    (case z=>k_is)
   have b_reversed:mg "reversed" = none:=by
    refine' PySem.W.mg_none_of KX G ?z
    (case z=>k_is)
   have b_enumerate:mg "enumerate" = none:=by
    refine' PySem.W.mg_none_of KX G ?z
    (case z=>k_is)
   have b_zip:mg "zip" = none:=by
    refine' PySem.W.mg_none_of KX G ?z
    (case z=>k_is)
   have b_set:mg "set" = none:=by
    refine' PySem.W.mg_none_of KX G ?z
    (case z=>k_is)
   have b_any:mg "any" = none:=by
    refine' PySem.W.mg_none_of KX G ?z
    (case z=>k_is)
   have yL:mg "all" = none:=by
    refine' PySem.W.mg_none_of KX G ?z
    (case z=>k_is)
   have b_dict:mg "dict" = none:=by
    refine' PySem.W.mg_none_of KX G ?z
    (case z=>k_is)
   have c_NIGHTS:∃ t,mg "NIGHTS" = some (.int 400 t):=by
    refine' ⟨?t_NIGHTS,PySem.W.mg_of KX G ?z⟩
    (case z=>rfl)
   have c_MOST_OF_A_GROUP:∃ t,mg "MOST_OF_A_GROUP" = some (.int 6 t):=by
    refine' ⟨?t_MOST_OF_A_GROUP,PySem.W.mg_of KX G ?z⟩
    (case z=>rfl)
   have c_MOST_ROWS:∃ t,mg "MOST_ROWS" = some (.int 400 t):=by
    refine' ⟨?t_MOST_ROWS,PySem.W.mg_of KX G ?z⟩
    (case z=>rfl)
   exact ⟨d_is_whole,d_is_whole_within,d_all_whole,d_is_tuple_of,d_is_pair,d_is_whole_list,d_is_stretch,d_nights_of,d_shared,d_meets,d_is_group,d_check_groups,d_turns,d_starts_in,d_night_behind,d_row_behind,d_rows_behind,d_all_behind,d_places_by,d_laid_as_they_are,d_laid,d_has_rooms,d_have_a_room_in_common,d_is_beside,d_is_laid,d_is_row_list,d_has_all,d_is_none,d__law_cell,d__law_part,d__law_whole,d__law_apart,d__law_sits,d__law_held,d__law_groups,d__law_tried,d_law,⟨gU,b_range,b_abs,b_isinstance,b_int,b_bool,b_tuple,b_list,b_str,b_max,b_min,b_sorted,S9,b_reversed,b_enumerate,b_zip,b_set,b_any,yL,b_dict⟩,c_NIGHTS,c_MOST_OF_A_GROUP,c_MOST_ROWS⟩
  obtain ⟨f,fd,F,b,m⟩:=T.d_law.ex
  have e0:=hmg.symm.trans m
  cases e0
  exact ⟨fd,b,fun base kb nb=>K72.WD T F⟩
 case S=>exact fun K H a ns hl hO hS=>⟨a,ns,hO,rfl,hS,hl,fun _=>rfl⟩
 case C=>exact fun _ _ _ _ z=>z
