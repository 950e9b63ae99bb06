import PyProof.Rows.All
import Wide.All
import OpenK.AllK
import Wide.FinOn
import Lean
import PyProof.EqAt
import PyProof.EqKinds
import PyProof.TupleCall
import PyProof.EqLayable
import KE.KSortTup
import PyProof.AttrMissHeap
import KE.KDictOf
import KE.KDictSum
import PyProof.Rows.SortWalk
import PyProof.NeKinds
import PyProof.DictWalks
import KE.KMinBuiltin
import PyProof.DictRoadsH
import Wide.Seal
import KE.KDictLaws
import KE.KDictSum
import KE.KDictLaws
import PyProof.DictFindH
import PyProof.DictRoadsH
import PyProof.WalksMore
import PyProof.Draws
import PyProof.EnumMake
import PyProof.TupleIter
import KE.KLam
import KE.KNestM
import PyProof.ListRange
import PySem.Challenge.RW_nightbook_k75_lists_looked_at
set_option Elab.async false
set_option linter.all false
set_option maxRecDepth 100000
set_option maxHeartbeats 4000000
set_option exponentiation.threshold 40000
open List renaming length_map→aC,replicate→aG,mem_cons_of_mem→aH,mem_cons_self→aJ,getD_eq_getElem?_getD→aM,mem_singleton→aN,getElem?_eq_getElem→aO,map_cons→aP,getElem?_map→aR,size_toArray→aU,length_append→aW,range→aX,mem_cons→aZ,length_replicate→bD,length_take→bG,getElem?_eq_none→bH,getElem?_set_ne→bI,mem_append→bK,length_cons→bM,mem_range→bO,mem_append_right→bQ,mem_map→bT,length_range→bY,replicate_succ→bZ,mem_append_left→cC,getElem?_append_right→cD,length_drop→cN,length_eq_zero_iff→cO,getElem?_append_left→cQ,map_append→cT,getElem?_set_self→dw,length_set→dD,lookup_cons→dF,mem_of_mem_take→dH,nodup_cons→dJ,all_eq_true→dN,map_congr_left→dU,getElem?_drop→eE,getElem?_replicate→eF,not_mem_nil→eG,mem_singleton_self→eN,flatten_cons→eO,getElem?_range→fu,mem_filter→fB,append_nil→fD,getElem_mem→fK,map_map→fO,toArray→fP,getElem?_mapIdx→fW,mem_of_mem_drop→fX,ext_getElem?→gb,filter_cons_of_neg→gh,filter_cons_of_pos→gj,length_nil→gD,length_singleton→ig,foldl_cons→iG,nil_append→iH,map_nil→iI,getLast?_concat→iJ,map_take→iV,pairwise_cons→jq,filter_eq_nil_iff→jt,find?_cons→jB,dropLast_concat_getLast→jC,map_drop→jH,count_append→jL,mem_of_getElem?→jP,filter_cons→jV,map_id'→jW,getElem?_eq_some_iff→jZ,drop_eq_getElem_cons→j8,exists_mem_of_ne_nil→j9,map→kE,mem_filterMap→kY,filter_append→kZ,mem_replicate→k_,length→lB,range'→lC,reverse_cons→lH,append_assoc→lJ,drop_eq_nil_of_le→lK,eraseIdx_eq_take_drop_succ→mD,getElem_map→mF,cons_append→mG,any_cons→mW,getElem?_of_mem→m6,filterMap_cons→nC,getElem_of_mem→nD,pairwise_iff_getElem→oR,nodup_append→oV,getElem?_take_of_lt→o_,sum_cons→pA,ext_getElem→pH,length_eq_one_iff→p8,drop_of_length_le→qb,of_mem_zip→qJ,length_filter_le→qQ,mem_iff_getElem?→qW,take_append_drop→qY,mem_iff_getElem→rm,length_reverse→sG,all_cons→sJ,find?_eq_none→sW,getElem_range→sY,length_range'→sZ,getElem?_take→tu,filter_filter→tE,map_replicate→tG,getElem?_set→tX,getElem_take→tZ,take_add_one→t_,foldl_append→ud,lookup→vq,foldl→wM
open Nat renaming reduceLeDiff→aj,reduceEqDiff→ak,reduceAdd→ao,reduceLT→aq,le_refl→aL,ne_of_lt→aQ,le_trans→bh,lt_of_lt_of_le→bU,zero_le→cY,le_of_lt→dj,lt_or_ge→d_,lt_irrefl→gP,lt_succ_self→je,le_succ→jk,zero_add→lO,ne_of_gt→nJ,lt_succ_of_lt→oU,lt_trans→pZ,min_le_left→qM,lt_of_le_of_lt→sX,lt_of_succ_lt→tY
open Int renaming reduceEq→au,reduceLT→aA,reduceLE→aB,emod_lt_of_pos→jr,toNat_natCast→jK,zero_add→jU,emod_nonneg→kJ,eq_ofNat_of_zero_le→pI,sub_zero→p7,le_trans→tW
open Option renaming bind_some→aK,some→cJ,map_some→iD,isSome_iff_exists→kj,bind_eq_some_iff→pG,isSome_map→uc
open Bool renaming and_eq_true→aY,false_ne_true→cg,not_true→cV,false_and→dY,true_and→gQ,and_false→g_,not_false→jf,eq_iff_iff→nj,false_eq_true→n_,and_true→pq
open Array renaming length_toList→cj,getD_eq_getD_getElem?→gM,getElem?_toList→iu,getElem?_eq_none→lN,perm_iff_toList_perm→oh,getElem?_eq_getElem→oO,toList_inj→pF
theorem dTr {p:Prop} [Decidable p] (h:p):decide p=true:=decide_eq_true h
theorem dFa {p:Prop} [Decidable p] (h:¬ p):decide p=false:=decide_eq_false h
theorem lMp {α β:Type} {f:α→β} {l:List α}:(l.map f).length=l.length:=aC f

namespace L2
open PySem PySem.Spec PyProof.Rows
abbrev Key:=Sum Int Str
def wN:Key→Value→Bool
 | .inl k,v=>Value.isInt k v
 | .inr x,v=>Value.isStrOf x v
def Zo (w:World):Key→Int
 | .inl k=>hashInt k
 | .inr x=>hashStr w x
theorem gU:∀ {k:Key} {v:Value},wN k v=true→(∃ i t,k=Sum.inl i∧v=Value.int i t)∨(∃ x t,k=Sum.inr x∧v=Value.str x t)
 | .inl i,v,h=>by
  obtain ⟨t,e⟩:=Value.isInt_shape (k:=i) (v:=v) h
  exact .inl ⟨i,t,rfl,e⟩
 | .inr x,v,h=>by
  obtain ⟨t,e⟩:=Value.isStrOf_shape (x:=x) (v:=v) h
  exact .inr ⟨x,t,rfl,e⟩
theorem JD (i:Int) (t:Tok):wN (.inl i) (.int i t)=true:=by simp [wN,Value.isInt]
theorem JF (x:Str) (t:Tok):wN (.inr x) (.str x t)=true:=by simp [wN,Value.isStrOf]
theorem Uo (a b:Int):decide ((Sum.inl a:Key)=Sum.inl b)=(a == b):=by
 by_cases e:a=b
 ·subst e;simp
 ·have h:¬ (Sum.inl a:Key)=Sum.inl b:=fun q=>e (Sum.inl.inj q)
  rw [dFa h]
  exact (beq_eq_false_iff_ne.mpr e).symm
theorem Uq (a b:Str):decide ((Sum.inr a:Key)=Sum.inr b)=decide (a=b):=by
 by_cases e:a=b
 ·subst e;simp
 ·have h:¬ (Sum.inr a:Key)=Sum.inr b:=fun q=>e (Sum.inr.inj q)
  rw [dFa h,dFa e]
theorem Ur (a:Int) (b:Str):decide ((Sum.inl a:Key)=Sum.inr b)=false:=dFa (fun q=>nomatch q)
theorem Us (a:Str) (b:Int):decide ((Sum.inr a:Key)=Sum.inl b)=false:=dFa (fun q=>nomatch q)
def bV (prog:Program) (w:World):PySem.KeyKind prog w Key where
 is:=wN
 hash:=Zo w
 inj:=fun v a b ha hb=>by
  rcases gU ha with ⟨i,t,rfl,rfl⟩ | ⟨x,t,rfl,rfl⟩
  ·rcases gU hb with ⟨j,u,rfl,e⟩ | ⟨y,u,rfl,e⟩
   ·injection e with e1 _;rw [e1]
   ·exact nomatch e
  ·rcases gU hb with ⟨j,u,rfl,e⟩ | ⟨y,u,rfl,e⟩
   ·exact nomatch e
   ·injection e with e1 _;rw [e1]
 byValue:=fun k v h=>by
  rcases gU h with ⟨i,t,rfl,rfl⟩ | ⟨x,t,rfl,rfl⟩ <;> rfl
 pyHash:=fun hv h=>by
  rcases gU hv with ⟨i,t,rfl,rfl⟩ | ⟨x,t,rfl,rfl⟩
  ·exact wpAny_pyHash_int h
  ·exact wpAny_pyHash_str h
 eqBool:=fun hu hv h=>by
  rcases gU hu with ⟨i,t,rfl,rfl⟩ | ⟨x,t,rfl,rfl⟩
  ·rcases gU hv with ⟨j,u,rfl,rfl⟩ | ⟨y,u,rfl,rfl⟩
   ·rw [Uo] at h;exact wpAny_eqBool_int h
   ·rw [Ur] at h;exact SeqAt.EqAt.int_str i t y u _ _ _ _ h
  ·rcases gU hv with ⟨j,u,rfl,rfl⟩ | ⟨y,u,rfl,rfl⟩
   ·rw [Us] at h;exact SeqAt.EqAt.str_int x t j u _ _ _ _ h
   ·rw [Uq] at h;exact wpAny_eqBool_str h
 «strs»:=fun k x t v h=>by
  rcases gU h with ⟨i,u,rfl,e⟩ | ⟨y,u,rfl,e⟩
  ·exact nomatch e
  ·injection e with e1 _
   subst e1
   cases v <;> rfl
theorem wO (prog:Program) (w:World) (k:Key) (v:Value):(bV prog w).is k v=wN k v:=rfl
theorem CQ (prog:Program) (w:World) (i:Int) (t:Tok):(bV prog w).is (.inl i) (.int i t)=true:=JD i t
theorem CT (prog:Program) (w:World) (x:Str) (t:Tok):(bV prog w).is (.inr x) (.str x t)=true:=JF x t
end L2
variable {us:List Value} {a b:Addr} {P:Program} {w:World} {h:Heap}
namespace L2
open PySem PySem.Spec PyProof.Rows
inductive V where
 | non | bl (b:Bool) | int (i:Int) | str (x:Str) | byt (b:Array UInt8) | flt (b:UInt64) | ref (a:Addr) | ty (n:String)
 deriving DecidableEq
def RelV:V→Value→Prop
 | .non,u=>u=Value.none
 | .bl b,u=>u=Value.bool b
 | .int i,u=>∃ t,u=Value.int i t
 | .str x,u=>∃ t,u=Value.str x t
 | .byt b,u=>∃ t,u=Value.bytes b t
 | .flt b,u=>∃ t,u=Value.float b t
 | .ref a,u=>u=Value.ref a
 | .ty n,u=>u=Value.type n
abbrev Vals:List V→List Value→Prop:=Paired RelV
theorem Vals.length {xs:List V} (r:Vals xs us):xs.length=us.length:=Paired.length r
theorem Vals.get:∀ {xs:List V} {us:List Value} {i:Nat} {x:V},Vals xs us→xs[i]? = some x→∃ u,us[i]? = some u∧RelV x u
 | _,_,_,_,.nil,e=>by simp at e
 | _,_,0,_,.cons r _,e=>by simp at e;subst e;exact ⟨_,rfl,r⟩
 | _,_,i + 1,x,.cons _ t,e=>by
  obtain ⟨u,h1,h2⟩:=Vals.get (i:=i) (x:=x) t (by simpa using e)
  exact ⟨u,by simpa using h1,h2⟩
theorem Vals.set {x:V} {u:Value} (r:RelV x u):∀ {xs:List V} {us:List Value} (i:Nat),Vals xs us→Vals (xs.set i x) (us.set i u)
 | _,_,_,.nil=>.nil
 | _,_,0,.cons _ t=>.cons r t
 | _,_,i + 1,.cons q t=>.cons q (Vals.set r i t)
theorem Vals.append:∀ {xs ys:List V} {us ws:List Value},Vals xs us→Vals ys ws→Vals (xs++ys) (us++ws)
 | _,_,_,_,.nil,s=>s
 | _,_,_,_,.cons r t,s=>.cons r (Vals.append t s)
theorem Vals.take:∀ {xs:List V} {us:List Value} (n:Nat),Vals xs us→Vals (xs.take n) (us.take n)
 | _,_,0,_=>.nil
 | _,_,_ + 1,.nil=>.nil
 | _,_,n + 1,.cons r t=>.cons r (Vals.take n t)
theorem Vals.drop:∀ {xs:List V} {us:List Value} (n:Nat),Vals xs us→Vals (xs.drop n) (us.drop n)
 | _,_,0,r=>r
 | _,_,_ + 1,.nil=>.nil
 | _,_,n + 1,.cons _ t=>Vals.drop n t
def Ai:Option V→Option Value→Prop
 | some v,some u=>RelV v u
 | none,none=>True
 | _,_=>False
def KV {κ:Type}:List (κ × V)→List (κ × Value)→Prop:=Paired fun (p:κ × V) (q:κ × Value)=>p.1=q.1∧RelV p.2 q.2
def kV:Key→V
 | .inl i=>.int i
 | .inr x=>.str x
inductive HO where
 /-- a list -/
 | lst (xs:List V)
 /-- a tuple (never changes) -/
 | tup (xs:List V)
 /-- a dict whose keys are ints and texts;one whose keys are tuples of ints and texts (the empty one is both) -/
 | dK (kvs:List (Key × V)) | dT (kvs:List (List Key × V))
 /-- a set of ints: its members,its size -/
 | set (S:Int→Bool) (n:Nat)
 /-- an instance of the class at C,its dict at dx,its attributes -/
 | ins (C dx:Addr) (fs:List (Str × V))
 /-- the dict of the instance at x -/
 | own (x:Addr)
 /-- the dict of an exception -/
 | xd (fs:List (Str × V))
 /-- a bound method,f of x -/
 | met (f x:Addr)
 /-- a range object lo,lo + 1,.. below hi -/
 | rng (lo hi:Int)
 /-- a thing that is known to the object (the script;a dict while a loop walks it): read,never written while it is so -/
 | frz (o:Obj) (u:HO)
 /-- a code object's table -/
 | tbl (q:Str) (p:Pos)
 /-- any other thing,by what is true of its one object (a def of one's own: SetO a S n:=HO.ext fun h=>..) -/
 | ext (φ:Heap→Prop)
abbrev Hp:=Addr→Option HO
def upd (H:Hp) (a:Addr) (o:HO):Hp:=fun b=>if b=a then some o else H b
theorem bN {H:Hp} {o:HO}:upd H a o a=some o:=by unfold upd;rw [if_pos rfl]
theorem bx {H:Hp} {o:HO} (h:b ≠ a):upd H a o b=H b:=by unfold upd;rw [if_neg h]
theorem Hv {H:Hp} {o u:HO}:upd (upd H a o) a u=upd H a u:=by
 funext b;unfold upd;split <;> rfl
theorem gH {H:Hp} {o u:HO} (h:H a=some o) (h':H b=some u) (d:o ≠ u):a ≠ b:=by
 intro e;subst e;rw [h] at h';exact d (cJ.inj h')
theorem ju {H:Hp} {o:HO} (h:H a=some o) (h':H b=none):a ≠ b:=by
 intro e;subst e;rw [h] at h';cases h'
section
variable (P:Program) (w:World)
def fG (H:Hp) (h:Heap) (a:Addr):HO→Prop
 | .lst xs=>xs.length ≤ sizeLine∧∃ (its:List Value) (n:Nat),Vals xs its∧h.get? a=some { cls:=.type "list", data:=.seq its.toArray n }
 | .tup xs=>xs.length ≤ sizeLine∧∃ its:List Value,Vals xs its∧IsTup h a its.toArray
 | .dK kvs=>kvs.length ≤ sizeLine∧(a == sysModules)=false∧∃ vs,KV kvs vs∧h.DictOf (bV P w) a vs
 | .dT kvs=>kvs.length ≤ sizeLine∧(a == sysModules)=false∧∃ xs:List (List Key × Addr × Value),
  Paired (fun (p:List Key × V) (q:List Key × Addr × Value)=>p.1=q.1∧H q.2.1=some (.tup (p.1.map kV))∧RelV p.2 q.2.2) kvs xs ∧
  ∃ o es ep,h.get? a=some o∧o.ExactDict∧o.data = .dict es ep∧es.toList=xs.map (entryOfKey (tupleKind (bV P w)))∧(xs.map (·.1)).Nodup
 | .set S n=>h.SetOf (intKind P w) a S n
 | .ins C dx fs=>H dx=some (.own a)∧fs.length ≤ 1000∧dx ≠ a∧h.get? a=some (PySem.W.instObj C dx) ∧
  ∃ mA,h.Ns1 dx mA∧(∀ f,Ai (fs.lookup f) (mA f))∧PySem.Within mA (fs.map (·.1))
 | .own _=>∃ o,h.get? a=some o
 | .xd fs=>∃ mA,h.Ns1 a mA∧∀ f,Ai (fs.lookup f) (mA f)
 | .rng lo hi=>∃ t u v,h.get? a=some { cls:=.type "range", data:=.fields #[.int lo t,.int hi u,.int 1 v] }
 | .frz o u=>h.get? a=some o∧fG H h a u
 | .tbl q p=>∃ ps,h.get? a=some { cls:=.none,data:=.fields ps }∧(ps = #[]∨∃ c',ps = #[rawInt p.line,rawInt p.col,.ref c']∧H c'=some (.own a)∧h.CodeRec (.ref c') q)
 | .met f x=>h.get? a=some (PySem.W.methodObj (.ref f) (.ref x))
 | .ext φ=>φ h∧(∃ o,h.get? a=some o)∧∀ h1 h2:Heap,φ h1→(∀ o,h1.get? a=some o→h2.get? a=some o)→φ h2
def HOk (H:Hp) (h:Heap):Prop:=∀ a o,H a=some o→fG P w H h a o
end
section
variable {P:Program} {w:World} {H H':Hp} {h h':Heap} {a:Addr} {o:HO}
theorem fG.lt (x:fG P w H h a o):a < h.objs.size:=by
 cases o with
 | lst xs=>obtain ⟨_,_,_,_,e⟩:=x;exact Heap.lt_size e
 | tup xs=>obtain ⟨_,_,_,p⟩:=x;exact p.lt
 | dK kvs=>obtain ⟨_,_,_,_,o,_,_,e,_⟩:=x;exact Heap.lt_size e
 | dT kvs=>obtain ⟨_,_,_,_,o,_,_,e,_⟩:=x;exact Heap.lt_size e
 | set S n=>obtain ⟨o,_,_,_,e,_⟩:=x;exact Heap.lt_size e
 | ins C dx fs=>obtain ⟨_,_,_,e,_⟩:=x;exact Heap.lt_size e
 | own y=>obtain ⟨_,e⟩:=x;exact Heap.lt_size e
 | xd fs=>obtain ⟨_,⟨_,_,_,e,_⟩,_⟩:=x;exact Heap.lt_size e
 | rng lo hi=>obtain ⟨_,_,_,e⟩:=x;exact Heap.lt_size e
 | frz ob u=>obtain ⟨e,_⟩:=x;exact Heap.lt_size e
 | tbl q p=>obtain ⟨_,e,_⟩:=x;exact Heap.lt_size e
 | met f y=>exact Heap.lt_size (show h.get? a=some _ from x)
 | ext φ=>obtain ⟨_,⟨_,e⟩,_⟩:=x;exact Heap.lt_size e
theorem Paired.mapP {α β:Type} {F G:α→β→Prop}:∀ {l₁:List α} {l₂:List β},Paired F l₁ l₂→(∀ a b,F a b→G a b)→Paired G l₁ l₂
 | _,_,.nil,_=>.nil
 | _,_,.cons r t,f=>.cons (f _ _ r) (Paired.mapP t f)
theorem fG.stay (x:fG P w H h a o) (k:∀ b u,(b=a∨H b=some (.own a))→h.get? b=some u→h'.get? b=some u)
 (ho:∀ b,H b=some (.own a)→H' b=some (.own a)) (ht:∀ b xs,H b=some (.tup xs)→H' b=some (.tup xs)):fG P w H' h' a o:=by
 induction o with
 | lst xs=>obtain ⟨z,its,n,r,e⟩:=x;exact ⟨z,its,n,r,k _ _ (.inl rfl) e⟩
 | tup xs=>obtain ⟨z,its,r,ob,e,c⟩:=x;exact ⟨z,its,r,ob,k _ _ (.inl rfl) e,c⟩
 | dK kvs=>obtain ⟨z,y,vs,r,ob,es,ep,e,c⟩:=x;exact ⟨z,y,vs,r,ob,es,ep,k _ _ (.inl rfl) e,c⟩
 | dT kvs =>
  obtain ⟨z,y,xs,r,ob,es,ep,e,c⟩:=x
  exact ⟨z,y,xs,Paired.mapP r fun p q z=>⟨z.1,ht _ _ z.2.1,z.2.2⟩,ob,es,ep,k _ _ (.inl rfl) e,c⟩
 | set S n=>obtain ⟨ob,es,ep,t,e,c⟩:=x;exact ⟨ob,es,ep,t,k _ _ (.inl rfl) e,c⟩
 | ins C dx fs =>
  obtain ⟨d,z,ne,e,mA,⟨od,es,ep,e2,c⟩,r⟩:=x
  exact ⟨ho _ d,z,ne,k _ _ (.inl rfl) e,mA,⟨od,es,ep,k _ _ (.inr d) e2,c⟩,r⟩
 | own y=>obtain ⟨ob,e⟩:=x;exact ⟨ob,k _ _ (.inl rfl) e⟩
 | xd fs=>obtain ⟨mA,⟨od,es,ep,e,c⟩,r⟩:=x;exact ⟨mA,⟨od,es,ep,k _ _ (.inl rfl) e,c⟩,r⟩
 | rng lo hi=>obtain ⟨t,u,v,e⟩:=x;exact ⟨t,u,v,k _ _ (.inl rfl) e⟩
 | frz ob u ih=>obtain ⟨e,q⟩:=x;exact ⟨k _ _ (.inl rfl) e,ih q⟩
 | tbl q p =>
  obtain ⟨ps,e,z⟩:=x
  refine ⟨ps,k a _ (.inl rfl) e,?_⟩
  rcases z with z | ⟨c',z1,z2,z3⟩
  ·exact .inl z
  ·obtain ⟨c,oc,vs,tq,hc,hoc,hdc,hq⟩:=z3
   have hc':c'=c:=by injection hc
   exact .inr ⟨c',z1,ho _ z2,c,oc,vs,tq,hc,k _ _ (.inr (hc' ▸ z2)) hoc,hdc,hq⟩
 | met f y =>
  have e:h.get? a=some (PySem.W.methodObj (.ref f) (.ref y)):=x
  show h'.get? a=some (PySem.W.methodObj (.ref f) (.ref y))
  exact k a _ (.inl rfl) e
 | ext φ=>obtain ⟨p,⟨o,e⟩,st⟩:=x;exact ⟨st _ _ p fun o q=>k _ _ (.inl rfl) q,⟨o,k _ _ (.inl rfl) e⟩,st⟩
theorem HOk.lt (x:HOk P w H h) (e:H a=some o):a < h.objs.size:=(x a o e).lt
theorem HOk.fresh (x:HOk P w H h) (e:h.objs.size ≤ a):H a=none:=by
 cases q:H a with
 | none=>rfl
 | some u=>exact absurd (bU (x.lt q) e) (gP _)
theorem HOk.kept (x:HOk P w H h) (k:∀ b u,h.get? b=some u→h'.get? b=some u):HOk P w H h':=fun a o e =>
 (x a o e).stay (fun b u _ q=>k b u q) (fun _ q=>q) fun _ _ q=>q
theorem HOk.laid (x:HOk P w H h) (k:∀ b u,h.get? b=some u→h'.get? b=some u) (hp:h.objs.size ≤ a) (new:fG P w (upd H a o) h' a o):HOk P w (upd H a o) h':=fun b u e=>by
 have hn:=x.fresh hp
 by_cases hb:b=a
 ·subst hb;rw [bN] at e;cases e;exact new
 ·rw [bx hb] at e
  exact (x b u e).stay (fun c v _ q=>k c v q) (fun c q=>by rw [bx (ju q hn)];exact q) fun c xs q=>by rw [bx (ju q hn)];exact q
end
def Rd (H:Hp) (a:Addr) (u:HO):Prop:=H a=some u∨∃ o,H a=some (.frz o u)
theorem Rd.ok {H:Hp} {u:HO} (r:Rd H a u) (x:HOk P w H h):fG P w H h a u:=by
 rcases r with r | ⟨o,r⟩
 ·exact x a u r
 ·obtain ⟨_,q⟩:=x a _ r
  exact q
def Mut:Option HO→Prop
 | some (.lst _)=>True
 | some (.dK _)=>True
 | some (.dT _)=>True
 | some (.set _ _)=>True
 | some (.ins _ _ _)=>True
 | some (.ext _)=>True
 | _=>False
section
variable {P:Program} {w:World} {H:Hp} {h h':Heap} {x e:Addr} {o':HO}
theorem HOk.write (ok:HOk P w H h) (mu:Mut (H x)) (he:e=x∨H e=some (.own x)) (k:∀ b u,b ≠ e→h.get? b=some u→h'.get? b=some u) (heo:∃ u,h'.get? e=some u)
 (new:fG P w (upd H x o') h' x o'):HOk P w (upd H x o') h':=fun b u q=>by
 have nown:∀ c y,H c=some (.own y)→c ≠ x:=fun c y r z=>by subst z;rw [r] at mu;exact mu
 have ntup:∀ c xs,H c=some (.tup xs)→c ≠ x:=fun c xs r z=>by subst z;rw [r] at mu;exact mu
 by_cases hb:b=x
 ·subst hb;rw [bN] at q;cases q;exact new
 ·rw [bx hb] at q
  by_cases hbe:b=e
  ·have q':H b=some (.own x):=by
    rcases he with z | z
    ·exact absurd (hbe.trans z) hb
    ·rw [hbe];exact z
   rw [q] at q';cases q'
   obtain ⟨v,hv⟩:=heo
   exact ⟨v,by rw [hbe];exact hv⟩
  ·refine (ok b u q).stay (fun c v hc r=>k c v ?_ r) (fun c r=>by rw [bx (nown c b r)];exact r) fun c xs r=>by rw [bx (ntup c xs r)];exact r
   rcases hc with rfl | hc
   ·exact hbe
   ·rintro rfl
    rcases he with z | z
    ·exact nown c b hc z
    ·rw [hc] at z;cases z;exact hb rfl
end
structure Un (fs ex:List Addr) (H H':Hp) (h h':Heap):Prop where
 keep:∀ b o,h.get? b=some o→H b=none→b ∉ fs→b ∉ ex→h'.get? b=some o
 slot:∀ b o,h.get? b=some o→H b=none→b ∈ fs→b ∉ ex→∃ sl,h'.get? b=some { o with slots:=sl }
 free:∀ b o,h.get? b=some o→H b=none→b ∉ ex→H' b=none
 there:∀ b o,h.get? b=some o→b ∉ ex→∃ o',h'.get? b=some o'
 tups:∀ b xs,H b=some (.tup xs)→H' b=some (.tup xs)
 frzs:∀ b o u,H b=some (.frz o u)→H' b=some (.frz o u)
 tbls:∀ b q p,H b=some (.tbl q p)→H' b=some (.tbl q p)
section
variable {fs fs' ex ex':List Addr} {H H1 H2:Hp} {h h1 h2 h':Heap} {a x e:Addr} {o:HO}
theorem Un.any (u:Un fs ex H H1 h h1) {b:Addr} {ob:Obj} (q:h.get? b=some ob) (n:H b=none) (hx:b ∉ ex):∃ sl,h1.get? b=some { ob with slots:=sl }:=by
 by_cases hb:b ∈ fs
 ·exact u.slot b ob q n hb hx
 ·exact ⟨ob.slots,u.keep b ob q n hb hx⟩
theorem Un.kept (k:∀ b u,h.get? b=some u→h'.get? b=some u):Un fs ex H H h h' :=
 ⟨fun b ob q _ _ _=>k b ob q,fun b ob q _ _ _=>⟨ob.slots,k b ob q⟩,fun _ _ _ n _=>n,fun b ob q _=>⟨ob,k b ob q⟩,fun _ _ q=>q,fun _ _ _ q=>q,fun _ _ _ q=>q⟩
theorem Un.refl:Un fs ex H H h h:=Un.kept fun _ _ q=>q
theorem Un.laid (k:∀ b u,h.get? b=some u→h'.get? b=some u) (hp:h.objs.size ≤ a) (hn:H a=none):Un fs ex H (upd H a o) h h' where
 keep:=fun b u q _ _ _=>k b u q
 slot:=fun b u q _ _ _=>⟨u.slots,k b u q⟩
 free:=fun b u q n _=>by rw [bx (aQ (bU (Heap.lt_size q) hp))];exact n
 there:=fun b u q _=>⟨u,k b u q⟩
 tups:=fun b xs q=>by rw [bx (ju q hn)];exact q
 frzs:=fun b u xs q=>by rw [bx (ju q hn)];exact q
 tbls:=fun b q p e=>by rw [bx (ju e hn)];exact e
theorem Un.write (mu:Mut (H x)) (he:e=x∨H e=some (.own x)) (k:∀ b u,b ≠ e→h.get? b=some u→h'.get? b=some u) (heo:∃ u,h'.get? e=some u):Un fs ex H (upd H x o) h h':=by
 have hx:∀ b,H b=none→b ≠ x:=fun b n z=>by subst z;rw [n] at mu;exact mu
 have hb:∀ b,H b=none→b ≠ e:=fun b n z=>by
  subst z
  rcases he with r | r
  ·exact hx b n r
  ·rw [n] at r;cases r
 have hm:∀ b u,H b=some u→¬ Mut (some u)→b ≠ x:=fun b u q nm z=>by subst z;rw [q] at mu;exact nm mu
 refine ⟨fun b u q n _ _=>k b u (hb b n) q,fun b u q n _ _=>⟨u.slots,k b u (hb b n) q⟩,fun b u q n _=>by rw [bx (hx b n)];exact n,fun b u q _=>?_,
  fun b xs q=>by rw [bx (hm b _ q fun z=>z)];exact q,fun b u xs q=>by rw [bx (hm b _ q fun z=>z)];exact q,fun b q p e=>by rw [bx (hm b _ e fun z=>z)];exact e⟩
 by_cases hbe:b=e
 ·subst hbe;exact heo
 ·exact ⟨u,k b u hbe q⟩
end
def trk (h:Heap) (H:Hp):List Addr:=(aX h.objs.size).filter fun a=>(H a).isSome
def Aj (h:Heap) (H:Hp):Heap:=PySem.W.hideAll h (trk h H)
theorem JG (h:Heap) (H:Hp):(Aj h H).objs.size=h.objs.size:=PySem.W.hideAll_size _ _
theorem K1 {H:Hp} {o:Obj} (e:h.get? b=some o) (n:H b=none):(Aj h H).get? b=some o :=
 PySem.W.hideAll_get _ e fun hm=>by
  have q:(H b).isSome=true:=(fB.mp hm).2
  rw [n] at q;simp at q
theorem Qj {H:Hp} {o:Obj} (e:(Aj h H).get? b=some o):h.get? b=some o∧H b=none:=by
 have e':h.get? b=some o:=PySem.W.of_hideAll (trk h H) e
 refine ⟨e',?_⟩
 cases q:H b with
 | none=>rfl
 | some x =>
  have hm:b ∈ trk h H:=fB.mpr ⟨bO.mpr (Heap.lt_size e'),by simp [q]⟩
  have z:(Aj h H).get? b=none:=PySem.W.hideAll_none (trk h H) hm
  rw [z] at e;cases e
def kO (g h:Heap) (L:Addr):List (Addr × Obj):=(aX h.objs.size).filterMap fun a=>if a=L∨(g.get? a).isSome=true then none else (h.get? a).map fun o=>(a,o)
theorem oW {g:Heap} {L:Addr} {o:Obj} (h1:a ≠ L) (h2:g.get? a=none) (h3:h.get? a=some o):(a,o) ∈ kO g h L :=
 kY.mpr ⟨a,bO.mpr (Heap.lt_size h3),by simp [h1,h2,h3]⟩
theorem wQ {g:Heap} {L:Addr} {p:Addr × Obj} (hp:p ∈ kO g h L):p.1 ≠ L∧g.get? p.1=none∧h.get? p.1=some p.2:=by
 obtain ⟨b,_,e⟩:=kY.mp hp
 split at e
 ·cases e
 ·rename_i hn
  cases q:h.get? b with
  | none=>rw [q] at e;simp at e
  | some u =>
   rw [q] at e
   simp only [iD,cJ.injEq] at e
   subst e
   refine ⟨fun z=>hn (.inl z),?_,q⟩
   show g.get? b=none
   cases r:g.get? b with
   | none=>rfl
   | some v=>exact (hn (.inr (by simp [r]))).elim
theorem uf {g:Heap} {L:Addr}:News g L h (kO g h L):=fun p hp=>let ⟨a,b,c⟩:=wQ hp;⟨c,a,b⟩
end L2
variable {t' i:Nat} {ch:List Addr} {it:Addr} {o:L2.HO} {N:List Str} {M:Model} {A:Around} {E:Value→Shared→Prop} {x:Str} {v:L2.V} {e:Expr} {s:Shared}
namespace L2
open PySem PySem.Spec PyProof.Rows
structure Mod (K:PySem.W.Frag) (mg:Str→Option Value) (base:Heap):Prop where
 kin:K.In base
 glob:base.Ns mainGlobals mg
 blt:∃ mb,base.Ns builtinsNs mb∧∀ x:Str,x ≠ "__name__" → mb x=bootBuiltins x
 nolimit:base.NoLimit
 bm:∃ bm ob,mg "__builtins__" = some (.ref bm)∧bm ≠ builtinsNs∧base.get? bm=some ob∧ob.cls = .type "module" ∧ ob.dict=some builtinsNs∧ob.data = .plain
structure Cx where
 prog:Program
 w:World
 K:PySem.W.Frag
 mg:Str→Option Value
 base:Heap
 A:Around
 N:List Str
 s₀:Shared
 H₀:Hp
 env:Env
 outer:List Env
 stack:List Env
 ex:List Addr
 fn:Str→Bool
 calm:Bool
 pn:List (Addr × Obj)
 xe:Value→Shared→Prop
def frs (l:List Env):List Addr:=l.filterMap (·.frame)
abbrev Cx.fs (X:Cx):List Addr:=frs X.outer
def Vis (sc:Scope) (x:Str):Prop:=sc.names.lookup x=some .local∨sc.names.lookup x=some .cell∨sc.names.lookup x=some .free
def Loc (sc:Scope) (x:Str):Prop:=sc.names.lookup x=some .local∨sc.names.lookup x=some .cell
def Look (env:Env) (h:Heap) (m:Str→Option Value) (x:Str) (u:Value):Prop :=
 (env.kindOf x=some .local∧m x=some u)∨((env.kindOf x=some .cell∨env.kindOf x=some .free)∧∃ c,env.cells.lookup x=some c∧h.IsCell c (some u))
structure Cx.Ok (X:Cx):Prop where
 mod:Mod X.K X.mg X.base
 kind:X.env.scope.kind = .function
 glob:X.env.globals=mainGlobals
 blt:X.env.builtins=builtinsNs
 above:X.s₀.heap.objs.size ≤ X.env.locals
 inj:∀ x y c,X.env.cells.lookup x=some c→X.env.cells.lookup y=some c→x=y
 has:∀ x,(X.env.kindOf x=some .cell∨X.env.kindOf x=some .free)→∃ c,X.env.cells.lookup x=some c
 cab:∀ x c,X.fn x=true→X.env.cells.lookup x=some c→X.s₀.heap.objs.size ≤ c
 hd:X.calm=true→X.A.handled=none
 frames:X.A.frames=some X.stack
 stk:X.stack=X.outer∨(X.stack=X.env :: X.outer∧X.env.frame=some X.env.locals)
 exf:∀ b ∈ X.ex,b ≠ X.env.locals∧∀ x c,X.env.cells.lookup x=some c→c ≠ b
 bs:∀ b o,X.base.get? b=some o→X.s₀.heap.get? b=some o∧X.H₀ b=none
 bsz:X.base.objs.size ≤ X.s₀.heap.objs.size
 noex:∀ b o,X.base.get? b=some o→b ∉ X.ex
 exfs:∀ b ∈ X.ex,b ∉ X.fs
 funs:X.s₀.heap.FunFrames X.base X.outer
 frf:∀ b ∈ X.fs,X.H₀ b=none
structure Inv (X:Cx) (pins:List (Addr × Obj)) (σ:List (Option V)) (H:Hp) (s:Shared):Prop where
 ok:X.Ok
 os:s.os=X.s₀.os
 bare:AllBare s.gens
 base:Un X.fs X.ex X.H₀ H X.s₀.heap s.heap
 loc:∃ m,s.heap.Ns X.env.locals m∧∀ (i:Nat) (x:Str) (v:V),X.N[i]? = some x→σ[i]? = some (some v)→Vis X.env.scope x→∃ u,RelV v u∧Look X.env s.heap m x u
 cell:∀ x c,X.env.cells.lookup x=some c→∃ v,s.heap.IsCell c v
 free:H X.env.locals=none
 freeC:∀ x c,X.env.cells.lookup x=some c→H c=none
 pin:∀ p ∈ X.pn++pins,s.heap.get? p.1=some p.2∧H p.1=none∧p.1 ≠ X.env.locals∧p.1 ∉ X.fs∧∀ v,p.2.data ≠ .cell v
 hok:HOk X.prog X.w H s.heap
 len:σ.length=X.N.length
section
variable {X:Cx} {pins:List (Addr × Obj)} {σ:List (Option V)} {H H':Hp} {s:Shared} {h':Heap}
theorem Cx.Ok.nofr (ok:X.Ok) {b:Addr} {o:Obj} (e:X.base.get? b=some o):b ∉ X.fs:=fun hb=>by
 have:=(ok.funs.mem hb).1
 rw [e] at this;cases this
theorem Inv.bs (I:Inv X pins σ H s):∀ b o,X.base.get? b=some o→s.heap.get? b=some o∧H b=none:=fun b o e =>
 ⟨I.base.keep b o (I.ok.bs b o e).1 (I.ok.bs b o e).2 (I.ok.nofr e) (I.ok.noex b o e),I.base.free b o (I.ok.bs b o e).1 (I.ok.bs b o e).2 (I.ok.noex b o e)⟩
theorem Inv.bk (I:Inv X pins σ H s):∀ b o,X.base.get? b=some o→s.heap.get? b=some o:=fun b o e=>(I.bs b o e).1
theorem Inv.mod (I:Inv X pins σ H s):Mod X.K X.mg X.base:=I.ok.mod
theorem Inv.kIn (I:Inv X pins σ H s):X.K.In s.heap:=I.ok.mod.kin.keeps I.bk
theorem Inv.lt (I:Inv X pins σ H s):X.env.locals < s.heap.objs.size:=let ⟨_,hn,_⟩:=I.loc;hn.lt
theorem Inv.sz (I:Inv X pins σ H s):X.s₀.heap.objs.size ≤ s.heap.objs.size:=bh I.ok.above (dj I.lt)
theorem Inv.nofs (I:Inv X pins σ H s) {a:Addr} (h:s.heap.objs.size ≤ a):a ∉ X.fs:=fun hb=>by
 obtain ⟨_,o,ho,_⟩:=I.ok.funs.mem hb
 exact absurd (bU (Heap.lt_size ho) (bh I.sz h)) (gP _)
theorem Inv.cne (I:Inv X pins σ H s):∀ x c,X.env.cells.lookup x=some c→c ≠ X.env.locals:=fun x c e z=>by
 obtain ⟨v,o,ho,hd⟩:=I.cell x c e
 obtain ⟨m,⟨o',es,ep,ho',hd',_⟩,_⟩:=I.loc
 rw [z,ho'] at ho;cases ho;rw [hd'] at hd;cases hd
theorem Inv.funs (I:Inv X pins σ H s):s.heap.FunFrames X.base X.outer:=by
 have all:∀ (l:List Env),(∀ b ∈ frs l,b ∈ X.fs)→X.s₀.heap.FunFrames X.base l→s.heap.FunFrames X.base l:=by
  intro l
  induction l with
  | nil=>intro _ _;trivial
  | cons env r ih =>
   intro hs hl
   obtain ⟨hk,⟨L,o,hf,hn,ho,hd⟩,hr⟩:=hl
   have hL:L ∈ X.fs:=hs L (by unfold frs;rw [nC,hf];exact aJ)
   obtain ⟨sl,e⟩:=I.base.slot L o ho (I.ok.frf L hL) hL fun z=>I.ok.exfs L z hL
   exact ⟨hk,⟨L,_,hf,hn,e,hd⟩,ih (fun b hb=>hs b (by unfold frs;rw [nC,hf];exact aH _ hb)) hr⟩
 exact all X.outer (fun _ hb=>hb) I.ok.funs
theorem Inv.stack (I:Inv X pins σ H s):s.heap.FunFrames X.base X.stack:=by
 rcases I.ok.stk with e | ⟨e,hf⟩
 ·rw [e];exact I.funs
 ·rw [e]
  obtain ⟨m,hn,_⟩:=I.loc
  refine .cons (by rw [I.ok.kind];decide) hf hn ?_ I.funs
  exact Heap.get?_none_of_le (bh I.ok.bsz I.ok.above)
theorem Inv.stkSub (I:Inv X pins σ H s):∀ b ∈ frs X.stack,b ∈ X.env.locals :: X.fs:=fun b hb=>by
 rcases I.ok.stk with e | ⟨e,hf⟩
 ·rw [e] at hb;exact aH _ hb
 ·rw [e] at hb
  unfold frs at hb
  rw [nC,hf] at hb
  exact hb
theorem Inv.stkFree (I:Inv X pins σ H s):∀ b ∈ frs X.stack,H b=none:=fun b hb=>by
 rcases aZ.mp (I.stkSub b hb) with e | hb
 ·rw [e];exact I.free
 ·obtain ⟨_,o,ho,_⟩:=I.ok.funs.mem hb
  exact I.base.free b o ho (I.ok.frf b hb) fun z=>I.ok.exfs b z hb
theorem Inv.step {g':Array GenState} {d':Drawn} (I:Inv X pins σ H s)
 (hch:∀ b ∈ ch,(b ∈ X.ex∨X.s₀.heap.objs.size ≤ b)∧b ≠ X.env.locals∧(∀ x c,X.env.cells.lookup x=some c→c ≠ b)∧∀ p ∈ X.pn++pins,p.1 ≠ b)
 (keep:∀ b o,b ≠ X.env.locals→b ∉ X.fs→b ∉ ch→s.heap.get? b=some o→H b=none→h'.get? b=some o)
 (slot:∀ b o,b ≠ X.env.locals→b ∈ X.fs→b ∉ ch→s.heap.get? b=some o→H b=none→∃ sl,h'.get? b=some { o with slots:=sl }) (free:∀ b o,b ∉ ch→s.heap.get? b=some o→H b=none→H' b=none)
 (there:∀ b o,b ∉ ch→s.heap.get? b=some o→∃ o',h'.get? b=some o')
 (tups:∀ b xs,H b=some (.tup xs)→H' b=some (.tup xs)) (frzs:∀ b o u,H b=some (.frz o u)→H' b=some (.frz o u)) (tbls:∀ b q p,H b=some (.tbl q p)→H' b=some (.tbl q p))
 (ns:∀ m,s.heap.Ns X.env.locals m→h'.Ns X.env.locals m) (hok:HOk X.prog X.w H' h') (hg:AllBare g') :
 Inv X pins σ H' { s with heap:=h',gens:=g',drawn:=d',toks:=t' }:=by
 have neL:∀ b o,X.s₀.heap.get? b=some o→b ≠ X.env.locals:=fun b o e=>aQ (bU (Heap.lt_size e) I.ok.above)
 have neC:∀ b o,X.s₀.heap.get? b=some o→b ∉ X.ex→b ∉ ch:=fun b o e hx hb=>by
  rcases (hch b hb).1 with z | z
  ·exact hx z
  ·exact absurd (bU (Heap.lt_size e) z) (gP _)
 have cellK:∀ x c,X.env.cells.lookup x=some c→∀ v,s.heap.IsCell c v→h'.IsCell c v:=fun x c e v ⟨o,ho,hd⟩=>by
  have nch:c ∉ ch:=fun z=>(hch c z).2.2.1 x c e rfl
  by_cases hc:c ∈ X.fs
  ·obtain ⟨sl,q⟩:=slot c o (I.cne x c e) hc nch ho (I.freeC x c e)
   exact ⟨_,q,hd⟩
  ·exact ⟨o,keep c o (I.cne x c e) hc nch ho (I.freeC x c e),hd⟩
 refine ⟨I.ok,I.os,hg,⟨fun b o e n hb hx=>?_,fun b o e n hb hx=>?_,fun b o e n hx=>?_,fun b o e hx=>?_,fun b xs e=>tups b xs (I.base.tups b xs e),fun b o xs e=>frzs b o xs (I.base.frzs b o xs e),fun b q p e=>tbls b q p (I.base.tbls b q p e)⟩,?_,fun x c e=>?_,?_,fun x c e=>?_,fun p hp=>?_,hok,I.len⟩
 ·exact keep b o (neL b o e) hb (neC b o e hx) (I.base.keep b o e n hb hx) (I.base.free b o e n hx)
 ·obtain ⟨sl,e1⟩:=I.base.slot b o e n hb hx
  obtain ⟨sl',e2⟩:=slot b _ (neL b o e) hb (neC b o e hx) e1 (I.base.free b o e n hx)
  exact ⟨sl',e2⟩
 ·obtain ⟨o',e1⟩:=I.base.there b o e hx
  exact free b o' (neC b o e hx) e1 (I.base.free b o e n hx)
 ·obtain ⟨o',e1⟩:=I.base.there b o e hx
  exact there b o' (neC b o e hx) e1
 ·obtain ⟨m,hn,hl⟩:=I.loc
  refine ⟨m,ns m hn,fun i x v e1 e2 e3=>?_⟩
  obtain ⟨u,r,l⟩:=hl i x v e1 e2 e3
  refine ⟨u,r,?_⟩
  rcases l with l | ⟨k,c,e,z⟩
  ·exact .inl l
  ·exact .inr ⟨k,c,e,cellK x c e _ z⟩
 ·obtain ⟨v,z⟩:=I.cell x c e
  exact ⟨v,cellK x c e v z⟩
 ·obtain ⟨m,⟨o,_,_,ho,_⟩,_⟩:=I.loc
  exact free _ o (fun z=>(hch _ z).2.1 rfl) ho I.free
 ·obtain ⟨v,o,ho,hd⟩:=I.cell x c e
  exact free c o (fun z=>(hch c z).2.2.1 x c e rfl) ho (I.freeC x c e)
 ·obtain ⟨e,n,ne,nf,d⟩:=I.pin p hp
  have nch:p.1 ∉ ch:=fun z=>(hch p.1 z).2.2.2 p hp rfl
  exact ⟨keep p.1 p.2 ne nf nch e n,free p.1 p.2 nch e n,ne,nf,d⟩
theorem Inv.un (I:Inv X pins σ H s) (u:Un X.fs [] H H' s.heap h') (hok:HOk X.prog X.w H' h'):Inv X pins σ H' { s with heap:=h',toks:=t' }:=by
 obtain ⟨m,⟨o,es,ep,ho,r⟩,_⟩:=id I.loc
 obtain ⟨sl,hL⟩:=u.any ho I.free (by simp)
 exact I.step (g':=s.gens) (d':=s.drawn) (ch:=[]) (fun _ z=>nomatch z) (fun b o _ hb _ e n=>u.keep b o e n hb (by simp)) (fun b o _ hb _ e n=>u.slot b o e n hb (by simp)) (fun b o _ e n=>u.free b o e n (by simp)) (fun b o _ e=>u.there b o e (by simp)) u.tups u.frzs u.tbls (fun m' hm=>by
  obtain ⟨o',es',ep',ho',r'⟩:=hm
  rw [ho] at ho';cases ho'
  exact ⟨_,es',ep',hL,r'⟩) hok I.bare
theorem Inv.call {g':Array GenState} {d':Drawn} (I:Inv X pins σ H s) (u:Un (frs X.stack) ch H H' s.heap h') (hok:HOk X.prog X.w H' h') (hg:AllBare g')
 (hch:∀ b ∈ ch,(b ∈ X.ex∨X.s₀.heap.objs.size ≤ b)∧b ≠ X.env.locals∧(∀ x c,X.env.cells.lookup x=some c→c ≠ b)∧∀ p ∈ X.pn++pins,p.1 ≠ b) :
 Inv X pins σ H' { s with heap:=h',gens:=g',drawn:=d',toks:=t' }:=by
 obtain ⟨m,⟨o,es,ep,ho,r⟩,_⟩:=id I.loc
 obtain ⟨sl,hL⟩:=u.any ho I.free fun z=>(hch _ z).2.1 rfl
 exact I.step (ch:=ch) hch (fun b o hL hb hc e n=>u.keep b o e n (fun z=>(aZ.mp (I.stkSub b z)).elim hL hb) hc) (fun b o _ _ hc e n=>u.any e n hc) (fun b o hc e n=>u.free b o e n hc) (fun b o hc e=>u.there b o e hc) u.tups u.frzs u.tbls (fun m' hm=>by
  obtain ⟨o',es',ep',ho',r'⟩:=hm
  rw [ho] at ho';cases ho'
  exact ⟨_,es',ep',hL,r'⟩) hok hg
theorem Inv.turned (I:Inv X pins σ H s) (k:∀ b o,b ≠ it→s.heap.get? b=some o→h'.get? b=some o) (hn:H it=none) (hL:it ≠ X.env.locals)
 (h1:it ∈ X.ex∨X.s₀.heap.objs.size ≤ it) (h2:∀ x c,X.env.cells.lookup x=some c→c ≠ it) (h3:∀ p ∈ X.pn++pins,p.1 ≠ it):Inv X pins σ H { s with heap:=h',toks:=t' }:=by
 have nit:∀ b u,H b=some u→b ≠ it:=fun b u e z=>by rw [z,hn] at e;cases e
 refine I.step (g':=s.gens) (d':=s.drawn) (ch:=[it]) (fun b hb=>?_) (fun b o _ _ hc e _=>k b o (fun z=>hc (by simp [z])) e) (fun b o _ _ hc e _=>⟨o.slots,k b o (fun z=>hc (by simp [z])) e⟩) (fun _ _ _ _ n=>n)
  (fun b o hc e=>⟨o,k b o (fun z=>hc (by simp [z])) e⟩) (fun _ _ e=>e) (fun _ _ _ e=>e) (fun _ _ _ e=>e) (fun m hm=>?_) (fun b u e=>?_) I.bare
 ·have e:b=it:=by simpa using hb
  subst e
  exact ⟨h1,hL,h2,h3⟩
 ·obtain ⟨o,es,ep,ho,r⟩:=hm
  exact ⟨o,es,ep,k _ o (Ne.symm hL) ho,r⟩
 ·refine (I.hok b u e).stay (fun c v hc q=>k c v ?_ q) (fun _ q=>q) fun _ _ q=>q
  rcases hc with z | z
  ·rw [z];exact nit b u e
  ·exact nit c _ z
theorem Inv.tok (I:Inv X pins σ H s) (t:Nat):Inv X pins σ H { s with toks:=t }:=I.un (h':=s.heap) (t':=t) Un.refl I.hok
theorem Inv.kept (I:Inv X pins σ H s) (k:∀ b u,s.heap.get? b=some u→h'.get? b=some u):Inv X pins σ H { s with heap:=h',toks:=t' }:=I.un (Un.kept k) (I.hok.kept k)
theorem Inv.laid (I:Inv X pins σ H s) (k:∀ b u,s.heap.get? b=some u→h'.get? b=some u) (hp:s.heap.objs.size ≤ a) (new:fG X.prog X.w (upd H a o) h' a o) :
 Inv X pins σ (upd H a o) { s with heap:=h',toks:=t' }:=I.un (Un.laid k hp (I.hok.fresh hp)) (I.hok.laid k hp new)
theorem Inv.write {x e:Addr} (I:Inv X pins σ H s) (mu:Mut (H x)) (he:e=x∨H e=some (.own x)) (k:∀ b u,b ≠ e→s.heap.get? b=some u→h'.get? b=some u) (heo:∃ u,h'.get? e=some u)
 (new:fG X.prog X.w (upd H x o) h' x o):Inv X pins σ (upd H x o) { s with heap:=h',toks:=t' }:=I.un (Un.write mu he k heo) (I.hok.write mu he k heo new)
theorem Inv.pins_of {pins':List (Addr × Obj)} (I:Inv X pins σ H s) (h:∀ p ∈ pins',s.heap.get? p.1=some p.2∧H p.1=none∧p.1 ≠ X.env.locals∧p.1 ∉ X.fs∧∀ v,p.2.data ≠ .cell v):Inv X pins' σ H s :=
 ⟨I.ok,I.os,I.bare,I.base,I.loc,I.cell,I.free,I.freeC,fun p hp=>(bK.mp hp).elim (fun z=>I.pin p (cC _ z)) (h p),I.hok,I.len⟩
theorem CW (hN:N.Nodup) {i j:Nat} {x:Str} (a:N[i]? = some x) (b:N[j]? = some x):i=j:=by
 obtain ⟨h1,e1⟩:=jZ.mp a
 obtain ⟨h2,e2⟩:=jZ.mp b
 exact (List.getElem_inj hN).mp (e1.trans e2.symm)
theorem zq {u:Value} {Q:Unit→Shared→Prop} (I:Inv X pins σ H s) (hN:X.N.Nodup) (hi:X.N[i]? = some x) (hx:Loc X.env.scope x) (r:RelV v u)
 (h:∀ s',Inv X pins (σ.set i (some v)) H s'→(∃ a,Heap.SameBut a s.heap s'.heap∧(a=X.env.locals∨X.env.cells.lookup x=some a))→Q () s') (hf:X.fn x=true∨X.env.scope.names.lookup x=some .local:=by first | exact .inl rfl | exact .inr rfl | assumption):wpAny M A (storeName X.env x u) Q E s:=by
 obtain ⟨m,hn,hl⟩:=id I.loc
 have hcls:(X.env.scope.kind == .class || (X.env.scope.kind == .module && X.env.locals != X.env.globals))=false:=by rw [I.ok.kind];rfl
 have hiσ:i < σ.length:=by rw [I.len];exact (jZ.mp hi).1
 have cne:=I.cne
 have tracked:∀ {a:Addr} {h':Heap},(∃ o,s.heap.get? a=some o∧H a=none)→Heap.SameBut a s.heap h'→HOk X.prog X.w H h':=fun {a h'} ha hs b ob e=>by
  obtain ⟨_,_,hfree⟩:=ha
  refine (I.hok b ob e).stay (fun c w' hc q=>(hs.2 c ?_).trans q) (fun _ q=>q) fun _ _ q=>q
  rintro rfl
  rcases hc with rfl | hc
  ·rw [hfree] at e;cases e
  ·rw [hfree] at hc;cases hc
 rcases hx with hk | hk
 ·refine wpAny_storeName_local hk hn (fun h' hn' hs=>?_) hcls
  obtain ⟨oL,_,_,hoL,_⟩:=id hn
  refine h _ ⟨I.ok,I.os,I.bare,⟨fun b o e n hb hx=>?_,fun b o e n hb hx=>?_,I.base.free,fun b o e hx=>?_,I.base.tups,I.base.frzs,I.base.tbls⟩,⟨_,hn',fun j y v' e1 e2 e3=>?_⟩,fun y c e=>?_,I.free,I.freeC,fun p hp=>?_,tracked ⟨oL,hoL,I.free⟩ hs,by simpa using I.len⟩ ⟨_,hs,.inl rfl⟩
  ·exact (hs.2 b (aQ (bU (Heap.lt_size e) I.ok.above))).trans (I.base.keep b o e n hb hx)
  ·obtain ⟨sl,e1⟩:=I.base.slot b o e n hb hx
   exact ⟨sl,(hs.2 b (aQ (bU (Heap.lt_size e) I.ok.above))).trans e1⟩
  ·obtain ⟨o',e1⟩:=I.base.there b o e hx
   exact ⟨o',(hs.2 b (aQ (bU (Heap.lt_size e) I.ok.above))).trans e1⟩
  ·by_cases hj:j=i
   ·subst hj
    rw [hi] at e1;cases e1
    rw [dw hiσ] at e2
    cases e2
    exact ⟨u,r,.inl ⟨hk,by simp⟩⟩
   ·rw [bI (Ne.symm hj)] at e2
    obtain ⟨u',r',q⟩:=hl j y v' e1 e2 e3
    refine ⟨u',r',?_⟩
    rcases q with ⟨k,e⟩ | ⟨k,c,e,z⟩
    ·refine .inl ⟨k,?_⟩
     have:y ≠ x:=fun e=>hj (CW hN e1 (e ▸ hi))
     simp [this,e]
    ·exact .inr ⟨k,c,e,z.sameBut hs (cne y c e)⟩
  ·obtain ⟨w',z⟩:=I.cell y c e
   exact ⟨w',z.sameBut hs (cne y c e)⟩
  ·obtain ⟨e,n,ne,nf,d⟩:=I.pin p hp
   exact ⟨(hs.2 p.1 ne).trans e,n,ne,nf,d⟩
 ·have hfn:X.fn x=true:=by
   rcases hf with z | z
   ·exact z
   ·rw [z] at hk;cases hk
  obtain ⟨c,hc⟩:=I.ok.has x (.inl hk)
  obtain ⟨w',z⟩:=I.cell x c hc
  refine wpAny_storeName_cell I.ok.kind hk hc z (fun h' hc' hs=>?_)
  obtain ⟨oc,hoc,hocd⟩:=id z
  refine h { s with heap:=h' } ⟨I.ok,I.os,I.bare,⟨fun b o e n hb hx=>?_,fun b o e n hb hx=>?_,I.base.free,fun b o e hx=>?_,I.base.tups,I.base.frzs,I.base.tbls⟩,⟨m,hn.sameBut hs (Ne.symm (cne x c hc)),fun j y v' e1 e2 e3=>?_⟩,fun y c' e=>?_,I.free,I.freeC,fun p hp=>?_,tracked ⟨oc,hoc,I.freeC x c hc⟩ hs,by simpa using I.len⟩ ⟨c,hs,.inr hc⟩
  ·exact (hs.2 b (aQ (bU (Heap.lt_size e) (I.ok.cab x c hfn hc)))).trans (I.base.keep b o e n hb hx)
  ·obtain ⟨sl,e1⟩:=I.base.slot b o e n hb hx
   exact ⟨sl,(hs.2 b (aQ (bU (Heap.lt_size e) (I.ok.cab x c hfn hc)))).trans e1⟩
  ·obtain ⟨o',e1⟩:=I.base.there b o e hx
   exact ⟨o',(hs.2 b (aQ (bU (Heap.lt_size e) (I.ok.cab x c hfn hc)))).trans e1⟩
  ·by_cases hj:j=i
   ·subst hj
    rw [hi] at e1;cases e1
    rw [dw hiσ] at e2
    cases e2
    exact ⟨u,r,.inr ⟨.inl hk,c,hc,hc'⟩⟩
   ·rw [bI (Ne.symm hj)] at e2
    obtain ⟨u',r',q⟩:=hl j y v' e1 e2 e3
    refine ⟨u',r',?_⟩
    rcases q with q | ⟨k,c',e,z'⟩
    ·exact .inl q
    ·refine .inr ⟨k,c',e,z'.sameBut hs ?_⟩
     rintro rfl
     exact hj (CW hN e1 (I.ok.inj _ _ _ e hc ▸ hi))
  ·by_cases hcc:c'=c
   ·subst hcc;exact ⟨_,hc'⟩
   ·obtain ⟨w2,z2⟩:=I.cell y c' e
    exact ⟨w2,z2.sameBut hs hcc⟩
  ·obtain ⟨e,n,ne,nf,d⟩:=I.pin p hp
   refine ⟨(hs.2 p.1 ?_).trans e,n,ne,nf,d⟩
   intro q
   rw [q,hoc] at e
   have q':oc=p.2:=cJ.inj e
   exact d w' (by rw [← q'];exact hocd)
theorem CZ {u:Value} {Q:Unit→Shared→Prop} (I:Inv X pins σ H s) (hN:X.N.Nodup) (hi:X.N[i]? = some x) (hx:Loc X.env.scope x) (r:RelV v u)
 (h:∀ s',Inv X pins (σ.set i (some v)) H s'→Q () s') (hf:X.fn x=true∨X.env.scope.names.lookup x=some .local:=by first | exact .inl rfl | exact .inr rfl | assumption):wpAny M A (storeName X.env x u) Q E s :=
 zq I hN hi hx r (fun s' I' _=>h s' I') hf
end
abbrev XK:=Value→Option Addr→Hp→Prop
abbrev St:=List (Option V)
abbrev VK:=V→Hp→Prop
abbrev TE:=St→Hp→VK→Prop
abbrev TT:=St→Hp→(Bool→Hp→Prop)→Prop
abbrev TA:=St→Hp→(List V→Hp→Prop)→Prop
structure Ends where
 nx:St→Hp→Prop
 rt:VK
 bk:St→Hp→Prop:=fun _ _=>False
 ct:St→Hp→Prop:=fun _ _=>False
abbrev TS:=Ends→St→Hp→Prop
def EP (X:Cx) (pins:List (Addr × Obj)) (σ:St) (Q:VK) (u:Value) (s':Shared):Prop:=∃ v H',Inv X pins σ H' s'∧RelV v u∧Q v H'
def TP (X:Cx) (pins:List (Addr × Obj)) (σ:St) (Q:Bool→Hp→Prop) (b:Bool) (s':Shared):Prop:=∃ H',Inv X pins σ H' s'∧Q b H'
def AP (X:Cx) (pins:List (Addr × Obj)) (σ:St) (Q:List V→Hp→Prop) (us:List Value) (s':Shared):Prop:=∃ vs H',Inv X pins σ H' s'∧Vals vs us∧Q vs H'
def SP (X:Cx) (pins:List (Addr × Obj)) (D:Ends) (f:Flow) (s':Shared):Prop :=
 match f with
 | .next=>∃ σ' H',Inv X pins σ' H' s'∧D.nx σ' H'
 | .brk=>∃ σ' H',Inv X pins σ' H' s'∧D.bk σ' H'
 | .cont=>∃ σ' H',Inv X pins σ' H' s'∧D.ct σ' H'
 | .ret u=>∃ v σ' H',Inv X pins σ' H' s'∧RelV v u∧D.rt v H'
def PE (X:Cx) (e:Expr) (t:TE):Prop :=
 ∀ (pins:List (Addr × Obj)) (s:Shared) (σ:St) (H:Hp) (Q:VK),Inv X pins σ H s→t σ H Q→wpAny (model X.prog X.w) X.A (eval e X.env) (EP X pins σ Q) X.xe s
def PT (X:Cx) (e:Expr) (t:TT):Prop :=
 ∀ (pins:List (Addr × Obj)) (s:Shared) (σ:St) (H:Hp) (Q:Bool→Hp→Prop),Inv X pins σ H s→t σ H Q→wpAny (model X.prog X.w) X.A (isTrue e X.env (eval e X.env)) (TP X pins σ Q) X.xe s
def PW (X:Cx) (e:Expr) (t:TT):Prop :=
 ∀ (whole:Sem Value) (pins:List (Addr × Obj)) (s:Shared) (σ:St) (H:Hp) (Q:Bool→Hp→Prop),Inv X pins σ H s→t σ H Q→wpAny (model X.prog X.w) X.A (isTrue e X.env whole) (TP X pins σ Q) X.xe s
theorem PW.pt {X:Cx} {t:TT} (h:PW X e t):PT X e t:=h _
def PA (X:Cx) (es:List Expr) (t:TA):Prop :=
 ∀ (pos:Pos) (pins:List (Addr × Obj)) (s:Shared) (σ:St) (H:Hp) (Q:List V→Hp→Prop),Inv X pins σ H s→t σ H Q→wpAny (model X.prog X.w) X.A (spliced (backTo pos (starEach es X.env))) (AP X pins σ Q) X.xe s
def PS (X:Cx) (st:Stmt) (t:TS):Prop :=
 ∀ (pins:List (Addr × Obj)) (s:Shared) (σ:St) (H:Hp) (D:Ends),Inv X pins σ H s→t D σ H→wpAny (model X.prog X.w) X.A (exec st X.env) (SP X pins D) X.xe s
def PSs (X:Cx) (st:List Stmt) (t:TS):Prop :=
 ∀ (pins:List (Addr × Obj)) (s:Shared) (σ:St) (H:Hp) (D:Ends),Inv X pins σ H s→t D σ H→wpAny (model X.prog X.w) X.A (execs st X.env) (SP X pins D) X.xe s
theorem thn {α:Type} {t:Sem α} {Q Q':α→Shared→Prop} (h:wpAny M A t Q E s) (hQ:∀ a s,Q a s→Q' a s):wpAny M A t Q' E s:=wpAny_mono h hQ fun _ _ x=>x
end L2
variable {pos:Pos} {pins:List (Addr × Obj)} {H:L2.Hp} {Q:Value→Shared→Prop}
namespace L2
open PySem PySem.Spec PyProof.Rows
section
variable {X:Cx}
def Zq (i:Nat):TE:=fun σ H Q=>∃ v,σ[i]? = some (some v)∧Q v H
def tC (v:V):TE:=fun _ H Q=>Q v H
theorem qd (hN:X.N[i]? = some x) (hv:Vis X.env.scope x) (hd:(x == ("__debug__" : Str))=false:=by decide) (hcd:(x == ("__classdict__" : Str))=false:=by decide):PE X (.Name x pos) (Zq i):=by
 intro pins s σ H Q I h
 obtain ⟨v,e,h⟩:=h
 obtain ⟨m,hn,hl⟩:=I.loc
 obtain ⟨u,r,l⟩:=hl i x v hN e hv
 have fin:EP X pins σ Q u s:=⟨v,H,I,r,h⟩
 rcases l with ⟨hk,hm⟩ | ⟨hk,c,hc,hcell⟩
 ·exact wpAny_Name (wpAny_loadName_local I.ok.kind hk hn hm fin) hd
 ·rcases hk with hk | hk
  ·exact wpAny_Name (wpAny_loadName_cell I.ok.kind hk hc hcell fin) hd
  ·exact wpAny_Name (wpAny_loadName_free I.ok.kind hk hc hcell fin hcd) hd
theorem Ut {i j pos}:PE X (.Constant (.int i) j pos) (tC (.int i)):=fun _ _ _ H _ I h=>wpAny_Constant_int ⟨.int i,H,I.tok _,⟨_,rfl⟩,h⟩
theorem TX {b j pos}:PE X (.Constant (.bool b) j pos) (tC (.bl b)):=fun _ _ _ H _ I h=>Constant_bool ⟨.bl b,H,I,rfl,h⟩
theorem Uu {j pos}:PE X (.Constant .none j pos) (tC .non):=fun _ _ _ H _ I h=>Constant_none ⟨.non,H,I,rfl,h⟩
theorem Uv {x j pos}:PE X (.Constant (.str x) j pos) (tC (.str x)):=fun _ _ _ H _ I h=>Calls.Constant_str ⟨.str x,H,I.tok _,⟨_,rfl⟩,h⟩
def Gl (X:Cx) (x:Str):Prop:=X.env.kindOf x=some .globalImplicit
theorem Hw {σ:St} {u:Value} (I:Inv X pins σ H s) (hg:Gl X x) (hm:X.mg x=some u) (h:Q u s)
 (hd:(x == ("__debug__" : Str))=false:=by decide):wpAny (model X.prog X.w) X.A (eval (.Name x pos) X.env) Q E s :=
 Calls.Name_function_global I.ok.kind hg (Calls.loadGlobal_global (by rw [I.ok.glob];exact I.mod.glob.keeps I.bk) hm h) hd
theorem ou {σ:St} {u:Value} (I:Inv X pins σ H s) (hg:Gl X x) (hm:X.mg x=none) (hv:bootBuiltins x=some u) (h:Q u s)
 (hn:x ≠ "__name__" := by decide) (hd:(x == ("__debug__" : Str))=false:=by decide):wpAny (model X.prog X.w) X.A (eval (.Name x pos) X.env) Q E s:=by
 obtain ⟨mb,h1,h2⟩:=I.mod.blt
 exact Calls.Name_function_global I.ok.kind hg (Calls.loadGlobal_builtin (by rw [I.ok.glob];exact I.mod.glob.keeps I.bk) hm (by rw [I.ok.blt];exact h1.keeps I.bk) ((h2 x hn).trans hv) h) hd
theorem Qk {u:Value} (hg:Gl X x) (hm:X.mg x=some u) (r:RelV v u) (hd:(x == ("__debug__" : Str))=false:=by decide):PE X (.Name x pos) (tC v) :=
 fun _ _ _ H _ I h=>Hw I hg hm ⟨v,H,I,r,h⟩ hd
theorem Ql {u:Value} (hg:Gl X x) (hm:X.mg x=none) (hv:bootBuiltins x=some u) (r:RelV v u) (hn:x ≠ "__name__" := by decide) (hd:(x == ("__debug__" : Str))=false:=by decide):PE X (.Name x pos) (tC v) :=
 fun _ _ _ H _ I h=>ou I hg hm hv ⟨v,H,I,r,h⟩ hn hd
variable {a b:Expr} {ta tb:TE} {pos:Pos}
def tB (t:TE):TT:=fun σ H Q=>t σ H fun x H1=>∃ c,x = .bl c∧Q c H1
theorem Uw {t:TE} (h:PE X e t) (he:∀ whole,isTrue e X.env whole=(do let v ← whole;standAt e.pos;holding [v] (truthy v)):=by intro _;rfl):PT X e (tB t):=by
 intro pins s σ H Q I hw
 refine isTrue_plain (thn (h pins s σ H _ I hw) fun v s1 ⟨x,H1,I1,r1,q1⟩=>?_) (he _)
 obtain ⟨d,rfl,q⟩:=q1
 cases r1
 exact wpAny_truthy_bool ⟨H1,I1,q⟩
variable {tA tB':TT} {rest:List Expr}
def Gb (t u:TT):TT:=fun σ H Q=>t σ H fun c H1=>if c=true then u σ H1 Q else Q false H1
def tOr (t u:TT):TT:=fun σ H Q=>t σ H fun c H1=>if c=true then Q true H1 else u σ H1 Q
def mH (t:TT):TT:=fun σ H Q=>t σ H fun c H1=>Q (!c) H1
theorem Qm (ha:PT X a tA):PW X (.BoolOp .And [a] pos) tA:=by
 intro wh pins s σ H Q I h
 refine isTrue_and (thn (ha pins s σ H Q I h) fun c s1 e=>?_)
 cases c with
 | true=>exact isTrue_and_nil e
 | false=>exact e
theorem Ux (ha:PT X a tA):PW X (.BoolOp .Or [a] pos) tA:=by
 intro wh pins s σ H Q I h
 refine isTrue_or (thn (ha pins s σ H Q I h) fun c s1 e=>?_)
 cases c with
 | false=>exact isTrue_or_nil e
 | true=>exact e
theorem Uy (ha:PT X a tA) (hb:PW X (.BoolOp .And (b :: rest) pos) tB'):PW X (.BoolOp .And (a :: b :: rest) pos) (Gb tA tB'):=by
 intro wh pins s σ H Q I h
 refine isTrue_and (thn (ha pins s σ H _ I h) fun c s1 ⟨H1,I1,q1⟩=>?_)
 cases c with
 | true=>exact hb wh pins s1 σ H1 Q I1 q1
 | false=>exact ⟨H1,I1,q1⟩
theorem Xd (ha:PT X a tA) (hb:PW X (.BoolOp .Or (b :: rest) pos) tB'):PW X (.BoolOp .Or (a :: b :: rest) pos) (tOr tA tB'):=by
 intro wh pins s σ H Q I h
 refine isTrue_or (thn (ha pins s σ H _ I h) fun c s1 ⟨H1,I1,q1⟩=>?_)
 cases c with
 | true=>exact ⟨H1,I1,q1⟩
 | false=>exact hb wh pins s1 σ H1 Q I1 q1
theorem Uz (ha:PT X a tA):PT X (.UnaryOp .Not a pos) (mH tA):=by
 intro pins s σ H Q I h
 exact isTrue_not (ha pins s σ H (fun c H1=>Q (!c) H1) I h)
def Xe (ta tb:TE):TE:=fun σ H Q=>ta σ H fun x H1=>∃ c,x = .bl c∧if c=true then tb σ H1 Q else Q (.bl false) H1
def Xf (ta:TE):TE:=fun σ H Q=>ta σ H fun x H1=>∃ c,x = .bl c∧Q (.bl (!c)) H1
theorem UG {op} {t:TE} (h:PE X a t):PE X (.BoolOp op [a] pos) t:=fun pins s σ H Q I hw=>BoolOp_one (h pins s σ H Q I hw)
theorem UJ (ha:PE X a ta) (hb:PE X (.BoolOp .And (b :: rest) pos) tb):PE X (.BoolOp .And (a :: b :: rest) pos) (Xe ta tb):=by
 intro pins s σ H Q I h
 refine BoolOp_and (thn (ha pins s σ H _ I h) fun v s1 ⟨x,H1,I1,r1,q1⟩=>?_)
 obtain ⟨c,rfl,q1⟩:=q1
 cases r1
 refine wpAny_truthy_bool ?_
 cases c with
 | true=>exact hb pins s1 σ H1 Q I1 q1
 | false=>exact ⟨.bl false,H1,I1,rfl,q1⟩
theorem UL (ha:PE X a ta):PE X (.UnaryOp .Not a pos) (Xf ta):=by
 intro pins s σ H Q I h
 refine UnaryOp_ (thn (ha pins s σ H _ I h) fun v s1 ⟨x,H1,I1,r1,q1⟩=>?_)
 obtain ⟨c,rfl,q1⟩:=q1
 cases r1
 exact not_of (wpAny_truthy_bool ⟨.bl (!c),H1,I1,rfl,q1⟩)
def tIf (t:TT) (ta tb:TE):TE:=fun σ H Q=>t σ H fun c H1=>if c=true then ta σ H1 Q else tb σ H1 Q
theorem K3 {c:Expr} (hc:PT X c tA) (ha:PE X a ta) (hb:PE X b tb):PE X (.IfExp c a b pos) (tIf tA ta tb):=by
 intro pins s σ H Q I h
 refine wpAny_IfExp (thn (hc pins s σ H _ I h) fun d s1 ⟨H1,I1,q1⟩=>?_)
 cases d with
 | true=>exact ha pins s1 σ H1 Q I1 q1
 | false=>exact hb pins s1 σ H1 Q I1 q1
end
end L2
variable {K:PySem.W.Frag} {X:L2.Cx} {es:List Expr} {n:Nat} {tg:Expr} {pos':Pos} {H':L2.Hp}
namespace L2
open PySem PySem.Spec PyProof.Rows
def SqL (K:PySem.W.Frag) (H:Hp) (a:Addr) (xs:List V):Prop :=
 Rd H a (.lst xs) ∨
  ∃ (o:Obj) (its:Array Value) (n:Nat),K.lookup a=some o∧o.cls = .type "list" ∧ o.dict=none∧o.data = .seq its n∧its.size ≤ sizeLine∧Vals xs its.toList
def SqT (K:PySem.W.Frag) (H:Hp) (a:Addr) (xs:List V):Prop :=
 Rd H a (.tup xs) ∨
  ∃ (o:Obj) (its:Array Value) (n:Nat),K.lookup a=some o∧o.cls = .type "tuple" ∧ o.data = .seq its n∧its.size ≤ sizeLine∧Vals xs its.toList
def Zr:Value→Option V
 | .none=>some .non
 | .bool b=>some (.bl b)
 | .int i _=>some (.int i)
 | .str x _=>some (.str x)
 | .bytes b _=>some (.byt b)
 | .float b _=>some (.flt b)
 | .ref a=>some (.ref a)
 | .type n=>some (.ty n)
 | _=>none
theorem RelV.abs {x:V} {u:Value} (r:RelV x u):Zr u=some x:=by
 cases x with
 | non=>cases r;rfl
 | bl _=>cases r;rfl
 | int _=>obtain ⟨t,rfl⟩:=r;rfl
 | str _=>obtain ⟨t,rfl⟩:=r;rfl
 | byt _=>obtain ⟨t,rfl⟩:=r;rfl
 | flt _=>obtain ⟨t,rfl⟩:=r;rfl
 | ref _=>cases r;rfl
 | ty _=>cases r;rfl
theorem RelV.inj {x y:V} {u:Value} (r:RelV x u) (q:RelV y u):x=y:=cJ.inj (r.abs.symm.trans q.abs)
theorem Vals.inj:∀ {xs ys:List V} {us:List Value},Vals xs us→Vals ys us→xs=ys
 | _,_,_,.nil,.nil=>rfl
 | _,_,_,.cons r t,.cons r' t'=>by rw [r.inj r',Vals.inj t t']
section
variable {X:Cx} {pins:List (Addr × Obj)} {σ:St} {H:Hp} {s:Shared} {a:Addr} {xs ys:List V}
theorem SqL.of (h:H a=some (.lst xs)):SqL K H a xs:=.inl (.inl h)
theorem Inv.list (I:Inv X pins σ H s) (h:SqL X.K H a xs):∃ its:List Value,Vals xs its∧PlainL s.heap a its.toArray∧xs.length ≤ sizeLine:=by
 rcases h with h | ⟨o,its,n,hk,hc,hd,hs,hz,r⟩
 ·obtain ⟨z,its,n,r,e⟩:=h.ok I.hok
  exact ⟨its,r,⟨_,n,e,rfl,rfl,rfl⟩,z⟩
 ·refine ⟨its.toList,r,⟨o,n,I.kIn a o hk,hc,hd,by simpa using hs⟩,?_⟩
  have e:=r.length
  simp only [cj] at e
  omega
theorem Inv.tuple (I:Inv X pins σ H s) (h:SqT X.K H a xs):∃ its:List Value,Vals xs its∧IsTup s.heap a its.toArray∧xs.length ≤ sizeLine:=by
 rcases h with h | ⟨o,its,n,hk,hc,hs,hz,r⟩
 ·obtain ⟨z,its,r,p⟩:=h.ok I.hok
  exact ⟨its,r,p,z⟩
 ·refine ⟨its.toList,r,⟨o,I.kIn a o hk,hc,n,by simpa using hs⟩,?_⟩
  have e:=r.length
  simp only [cj] at e
  omega
theorem Inv.list_inj (I:Inv X pins σ H s) (h:SqL X.K H a xs) (h':SqL X.K H a ys):xs=ys:=by
 obtain ⟨its,r,⟨o,n,e,_,_,d⟩,_⟩:=I.list h
 obtain ⟨its',r',⟨o',n',e',_,_,d'⟩,_⟩:=I.list h'
 rw [e] at e';cases e'
 rw [d] at d'
 injection d' with d1 _
 have:its=its':=by simpa using congrArg Array.toList d1
 subst this
 exact r.inj r'
theorem Inv.tuple_inj (I:Inv X pins σ H s) (h:SqT X.K H a xs) (h':SqT X.K H a ys):xs=ys:=by
 obtain ⟨its,r,⟨o,e,_,n,d⟩,_⟩:=I.tuple h
 obtain ⟨its',r',⟨o',e',_,n',d'⟩,_⟩:=I.tuple h'
 rw [e] at e';cases e'
 rw [d] at d'
 injection d' with d1 _
 have:its=its':=by simpa using congrArg Array.toList d1
 subst this
 exact r.inj r'
end
abbrev Cx.wish (X:Cx) (E:Value→Shared→Prop):Cx:={ X with xe:=E }
abbrev Cx.nox (X:Cx):Cx:=X.wish fun _ _=>False
theorem Cx.Ok.wish (ok:X.Ok) (E:Value→Shared→Prop):(X.wish E).Ok :=
 ⟨ok.mod,ok.kind,ok.glob,ok.blt,ok.above,ok.inj,ok.has,ok.cab,ok.hd,ok.frames,ok.stk,ok.exf,ok.bs,ok.bsz,ok.noex,ok.exfs,ok.funs,ok.frf⟩
theorem Cx.Ok.unwish (ok:(X.wish E).Ok):X.Ok :=
 ⟨ok.mod,ok.kind,ok.glob,ok.blt,ok.above,ok.inj,ok.has,ok.cab,ok.hd,ok.frames,ok.stk,ok.exf,ok.bs,ok.bsz,ok.noex,ok.exfs,ok.funs,ok.frf⟩
section
variable {X:Cx} {pins:List (Addr × Obj)} {σ:St} {H:Hp} {s:Shared} {E:Value→Shared→Prop}
theorem Inv.wish (I:Inv X pins σ H s) (E:Value→Shared→Prop):Inv (X.wish E) pins σ H s:=⟨I.ok.wish E,I.os,I.bare,I.base,I.loc,I.cell,I.free,I.freeC,I.pin,I.hok,I.len⟩
theorem Inv.unwish (I:Inv (X.wish E) pins σ H s):Inv X pins σ H s:=⟨I.ok.unwish,I.os,I.bare,I.base,I.loc,I.cell,I.free,I.freeC,I.pin,I.hok,I.len⟩
theorem SP.unwish {D:Ends} {f:Flow} {s':Shared} (h:SP (X.wish E) pins D f s'):SP X pins D f s':=by
 cases f with
 | next=>obtain ⟨σ',H',I,q⟩:=h;exact ⟨σ',H',I.unwish,q⟩
 | brk=>obtain ⟨σ',H',I,q⟩:=h;exact ⟨σ',H',I.unwish,q⟩
 | cont=>obtain ⟨σ',H',I,q⟩:=h;exact ⟨σ',H',I.unwish,q⟩
 | ret u=>obtain ⟨v,σ',H',I,r,q⟩:=h;exact ⟨v,σ',H',I.unwish,r,q⟩
theorem PSs.nox {st:List Stmt} {t:TS} (h:PSs X.nox st t):PSs X st t:=fun pins s σ H D I hw =>
 wpAny_mono (h pins s σ H D (I.wish _) hw) (fun _ _ q=>q.unwish) fun _ _ z=>False.elim z
end
section
variable {X:Cx} {st:Stmt} {rest:List Stmt} {t u:TS} {e:Expr} {te:TE} {pos:Pos}
def Xg:TS:=fun D σ H=>D.nx σ H
def Zt (t u:TS):TS:=fun D σ H=>t { D with nx:=u D } σ H
theorem Qn:PSs X [] Xg:=fun _ _ σ H _ I h=>wpAny_execs_nil ⟨σ,H,I,h⟩
theorem K4 (h1:PS X st t) (h2:PSs X rest u):PSs X (st :: rest) (Zt t u):=by
 intro pins s σ H D I h
 refine wpAny_execs_cons (thn (h1 pins s σ H { D with nx:=u D } I h) fun f s1 q=>?_)
 cases f with
 | next =>
  obtain ⟨σ',H',I',q⟩:=q
  exact h2 pins s1 σ' H' D I' q
 | ret v=>exact q
 | brk=>exact q
 | cont=>exact q
theorem Qo (h1:PS X st t):PSs X [st] t:=by
 intro pins s σ H D I h
 refine wpAny_execs_cons (thn (h1 pins s σ H D I h) fun f s1 q=>?_)
 cases f with
 | next=>exact wpAny_execs_nil q
 | ret v=>exact q
 | brk=>exact q
 | cont=>exact q
theorem Inv.quiet {σ:St} (I:Inv X pins σ H s):interactive X.env=false:=by simp [interactive,I.ok.kind]
def Xh (te:TE):TS:=fun D σ H=>te σ H fun _ H1=>D.nx σ H1
theorem Ak (he:PE X e te) (hs:swapsWith e none pos.line X.env=pure false:=by rfl):PS X (.Expr e pos) (Xh te):=by
 intro pins s σ H D I h
 exact wpAny_Expr_any (thn (he pins s σ H _ I h) fun v s1 ⟨x,H1,I1,r1,q1⟩=>⟨σ,H1,I1,q1⟩) I.quiet hs
def Zu (te:TE):TS:=fun D σ H=>te σ H D.rt
theorem K5 (he:PE X e te):PS X (.Return (some e) pos) (Zu te):=by
 intro pins s σ H D I h
 exact wpAny_Return_some (thn (he pins s σ H _ I h) fun v s1 ⟨x,H1,I1,r1,q1⟩=>⟨x,σ,H1,I1,r1,q1⟩)
def Zv (c:TT) (t u:TS):TS:=fun D σ H=>c σ H fun b H1=>if b=true then t D σ H1 else u D σ H1
theorem Xi {c:Expr} {a b:List Stmt} {tc:TT} (hc:PT X c tc) (ha:PSs X a t) (hb:PSs X b u):PS X (.If c a b pos) (Zv tc t u):=by
 intro pins s σ H D I h
 refine wpAny_If (thn (hc pins s σ H _ I h) fun d s1 ⟨H1,I1,q1⟩=>?_)
 cases d with
 | true=>exact ha pins s1 σ H1 D I1 q1
 | false=>exact hb pins s1 σ H1 D I1 q1
def UW:TS:=fun _ _ _=>False
theorem K6:PS X st UW:=fun _ _ _ _ _ _ h=>h.elim
end
abbrev TG:=V→St→Hp→(St→Hp→Prop)→Prop
abbrev TGs:=List V→St→Hp→(St→Hp→Prop)→Prop
def PG (X:Cx) (target:Expr) (t:TG):Prop :=
 ∀ (pins:List (Addr × Obj)) (s:Shared) (σ:St) (H:Hp) (v:V) (u:Value) (Q:St→Hp→Prop),Inv X pins σ H s→RelV v u→t v σ H Q →
  wpAny (model X.prog X.w) X.A (assign target X.env u) (fun _ s'=>∃ σ' H',Inv X pins σ' H' s'∧Q σ' H') X.xe s
def PGs (X:Cx) (ts:List Expr) (t:TGs):Prop :=
 ∀ (pins:List (Addr × Obj)) (s:Shared) (σ:St) (H:Hp) (vs:List V) (us:List Value) (Q:St→Hp→Prop),Inv X pins σ H s→Vals vs us→t vs σ H Q →
  wpAny (model X.prog X.w) X.A (assignInOrder ((assignEach ts X.env).map (·.2)) us) (fun _ s'=>∃ σ' H',Inv X pins σ' H' s'∧Q σ' H') X.xe s
abbrev U0:=V→V→V→Hp→(Hp→Prop)→Prop
def Qq (X:Cx) (t:U0):Prop :=
 ∀ (pins:List (Addr × Obj)) (s:Shared) (σ:St) (H:Hp) (o i v:V) (ov iv u:Value) (Q:Hp→Prop),Inv X pins σ H s→RelV o ov→RelV i iv→RelV v u→t o i v H Q →
  wpAny (model X.prog X.w) X.A (setItem ov iv u) (fun _ s'=>∃ H',Inv X pins σ H' s'∧Q H') X.xe s
section
variable {X:Cx} {pos:Pos}
def K7 (i:Nat):TG:=fun v σ H Q=>Q (σ.set i (some v)) H
theorem Qs (hN:X.N.Nodup) (hi:X.N[i]? = some x) (hx:Loc X.env.scope x) (hf:X.fn x=true∨X.env.scope.names.lookup x=some .local:=by first | exact .inl rfl | exact .inr rfl | assumption):PG X (.Name x pos) (K7 i):=by
 intro pins s σ H v u Q I r h
 exact wpAny_assign_Name (CZ I hN hi hx r (fun s' I'=>⟨_,H,I',h⟩) hf)
def Zw:TGs:=fun vs σ H Q=>vs=[]∧Q σ H
def Xj (t:TG) (u:TGs):TGs:=fun vs σ H Q=>∃ v r,vs=v :: r∧t v σ H fun σ' H'=>u r σ' H' Q
theorem Qt:PGs X [] Zw:=by
 intro pins s σ H vs us Q I r h
 obtain ⟨e,h⟩:=h
 subst e
 cases r
 exact assignInOrder_nil ⟨σ,H,I,h⟩
theorem K8 {t:TG} {u:TGs} (h1:PG X e t) (h2:PGs X es u)
 (hs:(assignEach (e :: es) X.env).map (·.2)=assign e X.env :: (assignEach es X.env).map (·.2):=by rfl):PGs X (e :: es) (Xj t u):=by
 intro pins s σ H vs us Q I r h
 obtain ⟨v,vr,e1,h⟩:=h
 subst e1
 cases r with
 | cons r rr =>
  rw [hs]
  refine assignInOrder_cons (thn (h1 pins s σ H _ _ _ I r h) fun _ s1 ⟨σ1,H1,I1,q1⟩=>?_)
  exact h2 pins s1 σ1 H1 _ _ Q I1 rr q1
def Zx (K:PySem.W.Frag) (n:Nat) (t:TGs):TG:=fun v σ H Q=>∃ a xs,v = .ref a∧SqT K H a xs∧xs.length=n∧t xs σ H Q
theorem U3 {k:Nat} {t:TGs} (hc:X.calm=true) (h:PGs X es t)
 (hn:(assignEach es X.env).length=n:=by rfl) (hst:(assignEach es X.env).findIdx? (·.1)=none:=by rfl):PG X (.Tuple es k pos) (Zx X.K n t):=by
 intro pins s σ H v u Q I r hw
 obtain ⟨a,xs,e1,hq,hl,hw⟩:=hw
 subst e1
 cases r
 obtain ⟨its,rv,ht,hz⟩:=I.tuple hq
 refine assign_Tuple_tuple (I.ok.hd hc) ht (by simp [hn,← hl,rv.length]) hst fun h' hx=>?_
 have I1:Inv X pins σ H { s with heap:=h' }:=I.kept (t':=s.toks) fun b o e=>hx b o (aQ (Heap.lt_size e)) e
 exact h pins _ σ H xs _ Q I1 (by simpa using rv) hw
def yL (to ti:TE) (t:U0):TG:=fun v σ H Q=>to σ H fun o H1=>ti σ H1 fun i H2=>t o i v H2 fun H3=>Q σ H3
theorem K9 {o i:Expr} {to ti:TE} {t:U0} (ho:PE X o to) (hi:PE X i ti) (hs:Qq X t)
 (ha:∀ v,assign (.Subscript o i pos) X.env v=(do
  let ov ← holding [v] (eval o X.env)
  let iv ← holding [v,ov] (eval i X.env)
  standAt pos
  holding [v,ov,iv] (setItem ov iv v)
  release [v,ov,iv] []):=by intro _;rfl):PG X (.Subscript o i pos) (yL to ti t):=by
 intro pins s σ H v u Q I r h
 rw [ha]
 refine wpAny_bind (wpAny_holding (thn (ho pins s σ H _ I h) fun ov s1 ⟨x,H1,I1,r1,q1⟩=>?_))
 refine wpAny_bind (wpAny_holding (thn (hi pins s1 σ H1 _ I1 q1) fun iv s2 ⟨y,H2,I2,r2,q2⟩=>?_))
 refine wpAny_bind (wpAny_standAt (wpAny_bind (wpAny_holding (thn (hs pins s2 σ H2 x y v ov iv u _ I2 r1 r2 r q2) fun _ s3 ⟨H3,I3,q3⟩=>?_))))
 exact wpAny_release ⟨σ,H3,I3,q3⟩
def U4 (te:TE) (g:TG):TS:=fun D σ H=>te σ H fun x H1=>g x σ H1 D.nx
theorem Gd {te:TE} {g:TG} (he:PE X e te) (hg:PG X tg g) (hs:swapsWithSole [tg] e pos.line X.env=pure false:=by rfl) (hw:swappedStores [tg] e X.env=pure none:=by rfl)
 (h1:(assignEach [tg] X.env).map (·.2)=[assign tg X.env]:=by rfl):PS X (.Assign [tg] e pos) (U4 te g):=by
 intro pins s σ H D I h
 refine wpAny_Assign_stores (thn (he pins s σ H _ I h) fun v s1 ⟨x,H1,I1,r1,q1⟩=>?_) hs hw
 rw [h1]
 exact thn (hg pins s1 σ H1 x v _ I1 r1 q1) fun _ s2 q=>q
theorem Ge {te:TE} (hN:X.N.Nodup) (hi:X.N[i]? = some x) (hx:Loc X.env.scope x) (he:PE X e te) (hs:swapsWith e (some (.Name x pos')) pos.line X.env=pure false:=by rfl) (hf:X.fn x=true∨X.env.scope.names.lookup x=some .local:=by first | exact .inl rfl | exact .inr rfl | assumption) :
 PS X (.Assign [.Name x pos'] e pos) (U4 te (K7 i)):=by
 intro pins s σ H D I h
 refine wpAny_Assign_Name (thn (he pins s σ H _ I h) fun v s1 ⟨y,H1,I1,r1,q1⟩=>?_) hs
 exact CZ I1 hN hi hx r1 (fun s2 I2=>⟨_,H1,I2,q1⟩) hf
end
section
variable {X:Cx} {pos:Pos}
end
structure It where
 go:Nat→Hp→Prop
 yld:Nat→Hp→V→Hp→Prop
 stop:Nat→Hp→Prop
def uN (X:Cx) (pins:List (Addr × Obj)) (H:Hp) (b:Addr):Prop :=
 H b=none∧b ≠ X.env.locals∧b ∉ X.fs∧(b ∈ X.ex∨X.s₀.heap.objs.size ≤ b)∧(∀ x c,X.env.cells.lookup x=some c→c ≠ b)∧∀ p ∈ X.pn++pins,p.1 ≠ b
theorem Inv.fpOk {σ:St} (I:Inv X pins σ H s) (hb:s.heap.objs.size ≤ b) (hn:H' b=none):uN X pins H' b:=by
 refine ⟨hn,nJ (bU I.lt hb),I.nofs hb,.inr (bh I.sz hb),fun x c e z=>?_,fun p hp z=>?_⟩
 ·obtain ⟨v,q⟩:=I.cell x c e
  exact absurd (bU q.lt (by rw [z];exact hb)) (gP _)
 ·exact absurd (bU (Heap.lt_size (I.pin p hp).1) (by rw [z];exact hb)) (gP _)
structure Turn (P:Program) (w:World) (K:PySem.W.Frag) (tg:Expr) (J:It) (fp:List Addr) (it:Addr) (tn:Nat→Heap→Prop):Prop where
 mem:it ∈ fp
 obj:∀ i h,tn i h→∀ b ∈ fp,∃ o,h.get? b=some o∧∀ v,o.data ≠ .cell v
 keep:∀ i h h',tn i h→(∀ b ∈ fp,∀ o,h.get? b=some o→h'.get? b=some o)→tn i h'
 item:∀ (X:Cx),X.prog=P→X.w=w→X.K=K→X.calm=true→∀ (i:Nat) (pins:List (Addr × Obj)) (s:Shared) (σ:St) (H:Hp) (E:Value→Shared→Prop),Inv X pins σ H s→(∀ b ∈ fp,uN X pins H b)→tn i s.heap→J.go i H →
  wpAny (model P w) X.A (pyNext (.ref it)) (fun r s1=>∃ u,r=some u ∧
   wpAny (model P w) X.A (letOwnedTupleGo tg (.ref it) u) (fun _ s2=>∃ x H',Inv X pins σ H' s2∧RelV x u∧J.yld i H x H'∧tn (i + 1) s2.heap∧∀ b ∈ fp,H' b=none) E s1) E s
 done:∀ (X:Cx),X.prog=P→X.w=w→X.K=K→X.calm=true→∀ (i:Nat) (pins:List (Addr × Obj)) (s:Shared) (σ:St) (H:Hp) (E:Value→Shared→Prop),Inv X pins σ H s→(∀ b ∈ fp,uN X pins H b)→tn i s.heap→J.stop i H →
  wpAny (model P w) X.A (pyNext (.ref it)) (fun r s1=>r=none∧Inv X pins σ H s1) E s
 self:∀ (A:Around) (i:Nat) (s:Shared) (Q:Value→Shared→Prop) (E:Value→Shared→Prop),tn i s.heap→Q (.ref it) s→wpAny (model P w) A (pyIter (.ref it)) Q E s
abbrev TI:=St→Hp→(It→Hp→Prop)→Prop
def PIE (X:Cx) (pins:List (Addr × Obj)) (σ:St) (tg:Expr) (R:It→Hp→Prop) (itv:Value) (s2:Shared):Prop :=
 ∃ (it:Addr) (fp:List Addr) (tn:Nat→Heap→Prop) (J:It) (H':Hp),itv = .ref it∧Inv X pins σ H' s2∧Turn X.prog X.w X.K tg J fp it tn∧tn 0 s2.heap∧(∀ b ∈ fp,uN X pins H' b)∧R J H'
def PI (X:Cx) (tg iter:Expr) (wi:TI):Prop :=
 ∀ (pins:List (Addr × Obj)) (s:Shared) (σ:St) (H:Hp) (R:It→Hp→Prop),Inv X pins σ H s→wi σ H R →
  wpAny (model X.prog X.w) X.A (eval iter X.env) (fun v s1=>wpAny (model X.prog X.w) X.A (pyIter v) (PIE X pins σ tg R) X.xe s1) X.xe s
theorem C_ {u:Value} {o:Obj} {n:String} {vs:Array Value} {Q:Unit→Shared→Prop} (ho:s.heap.get? it=some o) (hc:o.cls = .type n) (hd:o.data = .fields vs)
 (hn:["enumerate", "zip", "dict_itemiterator", "dict_reverseitemiterator", "odict_iterator", "itertools.zip_longest", "itertools.pairwise"].contains n=false) (hQ:Q () s):wpAny M A (letOwnedTupleGo tg (.ref it) u) Q E s:=by
 unfold letOwnedTupleGo
 cases tg <;> first
  | exact wpAny_pure hQ
  | (cases u <;> first
   | exact wpAny_pure hQ
   | (refine wpAny_bind (wpAny_load ho ?_)
      rw [hc,hd]
      show wpAny M A (if (["enumerate", "zip", "dict_itemiterator", "dict_reverseitemiterator", "odict_iterator", "itertools.zip_longest", "itertools.pairwise"].contains n && vs[0]? == some (rawInt _))=true then _ else _) Q E s
      rw [if_neg (by intro h;rw [hn,dY] at h;cases h)]
      exact wpAny_pure hQ))
def Itl (K:PySem.W.Frag) (a:Addr):It :=
 ⟨fun i H=>∃ xs x,SqL K H a xs∧xs[i]? = some x,fun i H x H'=>H'=H∧∀ xs,SqL K H a xs→xs[i]? = some x,fun i H=>∃ xs,SqL K H a xs∧xs.length ≤ i⟩
def Itt (K:PySem.W.Frag) (a:Addr):It :=
 ⟨fun i H=>∃ xs x,SqT K H a xs∧xs[i]? = some x,fun i H x H'=>H'=H∧∀ xs,SqT K H a xs→xs[i]? = some x,fun i H=>∃ xs,SqT K H a xs∧xs.length ≤ i⟩
def Itr (lo:Int) (n:Nat):It:=⟨fun i _=>i < n,fun i H x H'=>H'=H∧x = .int (lo + i),fun i _=>n ≤ i⟩
theorem JH (a it:Addr):Turn P w K tg (Itl K a) [it] it (fun i h=>h.IsListIter it a i) where
 mem:=by simp
 obj:=fun i h st b hb=>by
  have e:b=it:=by simpa using hb
  subst e
  obtain ⟨o,e,c,d⟩:=st
  exact ⟨o,e,fun v z=>by rw [d] at z;cases z⟩
 keep:=fun i h h' st k=>st.at fun o e=>k it (by simp) o e
 item:=by
  intro X hP hw hK hc i pins s σ H E I hf st hg
  subst hP hw hK
  obtain ⟨xs,x,hq,hx⟩:=hg
  obtain ⟨its,rv,p,hz⟩:=I.list hq
  obtain ⟨u,hu,ru⟩:=rv.get hx
  obtain ⟨f0,f1,f2,f3,f4,f5⟩:=hf it (by simp)
  refine wpAny_pyNext_list_item st p.isList (x:=u) (by simpa using hu) fun h' st' sb=>?_
  have I1:Inv X pins σ H { s with heap:=h' }:=I.turned (t':=s.toks) (fun b o hb e=>(sb.2 b hb).trans e) f0 f1 f3 f4 f5
  obtain ⟨o,e,c,d⟩:=id st'
  exact ⟨u,rfl,C_ (s:={ s with heap:=h' }) e c d (by decide) ⟨x,H,I1,ru,⟨rfl,fun ys hy=>by rw [I.list_inj hy hq];exact hx⟩,st',fun b hb=>(hf b hb).1⟩⟩
 done:=by
  intro X hP hw hK hc i pins s σ H E I hf st hg
  subst hP hw hK
  obtain ⟨xs,hq,hx⟩:=hg
  obtain ⟨its,rv,p,hz⟩:=I.list hq
  obtain ⟨f0,f1,f2,f3,f4,f5⟩:=hf it (by simp)
  have hl:=rv.length
  exact wpAny_pyNext_list_end (I.ok.hd hc) st p.isList (by simp;omega) fun h' eb=>⟨rfl,I.turned (t':=s.toks) (fun b o hb e=>eb b o hb e) f0 f1 f3 f4 f5⟩
 self:=fun _ _ _ _ _ st h=>wpAny_pyIter_listiter st h
theorem Gf (a it:Addr):Turn P w K tg (Itt K a) [it] it (fun i h=>h.IsTupleIter it a i) where
 mem:=by simp
 obj:=fun i h st b hb=>by
  have e:b=it:=by simpa using hb
  subst e
  obtain ⟨o,e,c,d⟩:=st
  exact ⟨o,e,fun v z=>by rw [d] at z;cases z⟩
 keep:=fun i h h' st k=>st.at fun o e=>k it (by simp) o e
 item:=by
  intro X hP hw hK hc i pins s σ H E I hf st hg
  subst hP hw hK
  obtain ⟨xs,x,hq,hx⟩:=hg
  obtain ⟨its,rv,p,hz⟩:=I.tuple hq
  obtain ⟨u,hu,ru⟩:=rv.get hx
  obtain ⟨f0,f1,f2,f3,f4,f5⟩:=hf it (by simp)
  refine wpAny_pyNext_tuple_item st (show s.heap.IsTuple a its.toArray from p) (x:=u) (by simpa using hu) fun h' st' sb=>?_
  have I1:Inv X pins σ H { s with heap:=h' }:=I.turned (t':=s.toks) (fun b o hb e=>(sb.2 b hb).trans e) f0 f1 f3 f4 f5
  obtain ⟨o,e,c,d⟩:=id st'
  exact ⟨u,rfl,C_ (s:={ s with heap:=h' }) e c d (by decide) ⟨x,H,I1,ru,⟨rfl,fun ys hy=>by rw [I.tuple_inj hy hq];exact hx⟩,st',fun b hb=>(hf b hb).1⟩⟩
 done:=by
  intro X hP hw hK hc i pins s σ H E I hf st hg
  subst hP hw hK
  obtain ⟨xs,hq,hx⟩:=hg
  obtain ⟨its,rv,p,hz⟩:=I.tuple hq
  obtain ⟨f0,f1,f2,f3,f4,f5⟩:=hf it (by simp)
  have hl:=rv.length
  exact wpAny_pyNext_tuple_end (I.ok.hd hc) st (show s.heap.IsTuple a its.toArray from p) (by simp;omega) fun h' eb=>⟨rfl,I.turned (t':=s.toks) (fun b o hb e=>eb b o hb e) f0 f1 f3 f4 f5⟩
 self:=fun _ _ _ _ _ st h=>wpAny_pyIter_tupleiter st h
theorem Gg (it:Addr) (lo:Int) (n:Nat):Turn P w K tg (Itr lo n) [it] it (fun i h=>IsRangeIter h it (lo + (i:Nat) * 1) ((n:Int) - (i:Nat)) 1) where
 mem:=by simp
 obj:=fun i h st b hb=>by
  have e:b=it:=by simpa using hb
  subst e
  exact ⟨_,st,fun v z=>by
   have z':Data.fields _=Data.cell v:=z
   cases z'⟩
 keep:=fun i h h' st k=>k it (by simp) _ st
 item:=by
  intro X hP hw hK hc i pins s σ H E I hf st hg
  subst hP hw hK
  obtain ⟨f0,f1,f2,f3,f4,f5⟩:=hf it (by simp)
  have W:=Walks.range (prog:=X.prog) (w:=X.w) (I.ok.hd hc) it lo 1 n
  refine W.item i s _ _ hg st fun v h' tk hv st' kk=>?_
  obtain ⟨t,rfl⟩:=hv
  have I1:Inv X pins σ H { s with heap:=h',toks:=tk }:=I.turned (fun b o hb e=>kk b o (by simpa using hb) e) f0 f1 f3 f4 f5
  refine ⟨_,rfl,C_ (s:={ s with heap:=h',toks:=tk }) (n := "range_iterator") st' rfl rfl (by decide) ⟨.int (lo + i),H,I1,⟨t,?_⟩,⟨rfl,rfl⟩,st',fun b hb=>(hf b hb).1⟩⟩
  rw [Int.mul_one]
 done:=by
  intro X hP hw hK hc i pins s σ H E I hf st hg
  subst hP hw hK
  obtain ⟨f0,f1,f2,f3,f4,f5⟩:=hf it (by simp)
  exact wpAny_pyNext_range_end (I.ok.hd hc) st (by have:n ≤ i:=hg;omega) fun h' eb=>⟨rfl,I.turned (t':=s.toks) (fun b o hb e=>eb b o hb e) f0 f1 f3 f4 f5⟩
 self:=fun _ _ _ _ _ st h=>wpAny_pyIter_rangeiter st h
end L2
variable {tl:L2.TE} {p:Pos} {fp:List Addr} {iter:Expr}
namespace L2
open PySem PySem.Spec PyProof.Rows
section
variable {X:Cx} {tg:Expr}
def Xk (K:PySem.W.Frag) (tl:TE):TI:=fun σ H R=>tl σ H fun x H1=>∃ a,x = .ref a∧(∃ xs,SqL K H1 a xs)∧R (Itl K a) H1
def Qu (K:PySem.W.Frag) (tl:TE):TI:=fun σ H R=>tl σ H fun x H1=>∃ a,x = .ref a∧(∃ xs,SqT K H1 a xs)∧R (Itt K a) H1
theorem Hy {l:Expr} (hl:PE X l tl):PI X tg l (Xk X.K tl):=by
 intro pins s σ H R I h
 refine thn (hl pins s σ H _ I h) fun v s1 ⟨x,H1,I1,r1,q1⟩=>?_
 obtain ⟨a,e,⟨xs,hq⟩,q⟩:=q1
 subst e
 cases r1
 obtain ⟨its,rv,p,hz⟩:=I1.list hq
 refine wpAny_pyIter_list p.isList ?_
 refine ⟨s1.heap.objs.size,[s1.heap.objs.size],_,_,H1,rfl,I1.kept (t':=s1.toks) fun b o e=>Heap.get?_push_of_some _ e,JH a _,⟨_,Heap.get?_push_size _ rfl,rfl,rfl⟩,fun b hb=>?_,q⟩
 have e:b=s1.heap.objs.size:=by simpa using hb
 subst e
 exact I1.fpOk (aL _) (I1.hok.fresh (aL _))
theorem Gi {l:Expr} (hl:PE X l tl):PI X tg l (Qu X.K tl):=by
 intro pins s σ H R I h
 refine thn (hl pins s σ H _ I h) fun v s1 ⟨x,H1,I1,r1,q1⟩=>?_
 obtain ⟨a,e,⟨xs,hq⟩,q⟩:=q1
 subst e
 cases r1
 obtain ⟨its,rv,p,hz⟩:=I1.tuple hq
 refine wpAny_pyIter_tuple (show s1.heap.IsTuple a its.toArray from p) ?_
 refine ⟨s1.heap.objs.size,[s1.heap.objs.size],_,_,H1,rfl,I1.kept (t':=s1.toks) fun b o e=>Heap.get?_push_of_some _ e,Gf a _,⟨_,Heap.get?_push_size _ rfl,rfl,rfl⟩,fun b hb=>?_,q⟩
 have e:b=s1.heap.objs.size:=by simpa using hb
 subst e
 exact I1.fpOk (aL _) (I1.hok.fresh (aL _))
theorem K_ {σ:St} {R:It→Hp→Prop} {lo hi:Int} {t u v:Tok} {tk:Nat} (I:Inv X pins σ H s) (h1 : -(2 ^ 62) ≤ lo) (h2:lo < 2 ^ 62) (h3 : -(2 ^ 62) ≤ hi) (h4:hi < 2 ^ 62)
 (q:R (Itr lo (hi - lo).toNat) H):wpAny (model X.prog X.w) X.A (pyIter (.ref s.heap.objs.size)) (PIE X pins σ tg R) E { s with heap:=s.heap.push { cls:=.type "range", data:=.fields #[.int lo t,.int hi u,.int 1 v] },toks:=tk }:=by
 refine wpAny_pyIter_range (IsRange.new ..) (small_one h1 h2 h3 h4) ?_
 have I1:Inv X pins σ H { s with heap:=s.heap.push { cls:=.type "range", data:=.fields #[.int lo t,.int hi u,.int 1 v] },toks:=tk }:=I.kept fun b o e=>Heap.get?_push_of_some _ e
 refine ⟨(s.heap.push { cls:=.type "range", data:=.fields #[.int lo t,.int hi u,.int 1 v] }).objs.size,[(s.heap.push { cls:=.type "range", data:=.fields #[.int lo t,.int hi u,.int 1 v] }).objs.size],_,_,H,rfl,
  I1.kept (t':=tk) fun b o e=>Heap.get?_push_of_some _ e,Gg _ lo (hi - lo).toNat,?_,fun b hb=>?_,q⟩
 ·have e1:lo + ((0:Nat):Int) * 1=lo:=by simp
  have e2:(((hi - lo).toNat:Nat):Int) - ((0:Nat):Int)=Builtin.Range.rangeSize lo hi 1:=by rw [rangeSize_one];split <;> omega
  show IsRangeIter _ _ (lo + ((0:Nat):Int) * 1) ((((hi - lo).toNat:Nat):Int) - ((0:Nat):Int)) 1
  rw [e1,e2]
  exact Heap.get?_push_size _ rfl
 ·have e:b=(s.heap.push { cls:=.type "range", data:=.fields #[.int lo t,.int hi u,.int 1 v] }).objs.size:=by simpa using hb
  subst e
  exact I1.fpOk (aL _) (I1.hok.fresh (aL _))
def Xl (ta:TA):TI:=fun σ H R=>ta σ H fun vs H1=>∃ j:Int,vs=[.int j]∧-(2 ^ 62) ≤ j∧j < 2 ^ 62∧R (Itr 0 j.toNat) H1
theorem JK {a:Expr} {ta:TA} (hg:Gl X "range") (hm:X.mg "range" = none) (ha:PA X [a] ta) (hs:starEach [a] X.env=[(false,eval a X.env)]:=by rfl):PI X tg (.Call (.Name "range" p) [a] [] pos) (Xl ta):=by
 intro pins s σ H R I h
 refine Call_ (ou I hg hm boot_range (PyProof.Rows.callWith_type1 (thn (ha pos pins s σ H _ I h) fun us s1 ⟨vs,H1,I1,r1,q1⟩=>?_) hs rfl))
 obtain ⟨j,e,q1,q2,q⟩:=q1
 subst e
 cases r1 with
 | cons r rr =>
  cases rr
  obtain ⟨t,rfl⟩:=r
  exact call_range_1 (K_ I1 (by omega) (by omega) q1 q2 (by simpa using q))
def Zy (wi:TI) (g:TG) (tb:TS):TS:=fun D σ H=>wi σ H fun J H1=>∃ W:Nat→Nat→St→Hp→Prop,(∃ m,W 0 m σ H1)∧∀ i m σ H,W i m σ H →
 (J.stop i H∧D.nx σ H)∨(J.go i H∧∃ N:St→Hp→Prop,(∀ σ' H',N σ' H'→∃ m',m' < m∧W (i + 1) m' σ' H')∧∀ x H',J.yld i H x H'→g x σ H' fun σ2 H2=>tb { D with nx:=N,ct:=N,bk:=D.nx } σ2 H2)
def wR (fp:List Addr) (h:Heap):List (Addr × Obj):=fp.filterMap fun b=>(h.get? b).map fun o=>(b,o)
theorem qe {o:Obj} (hb:b ∈ fp) (e:h.get? b=some o):(b,o) ∈ wR fp h:=kY.mpr ⟨b,hb,by rw [e];rfl⟩
theorem JL {p:Addr × Obj} (hp:p ∈ wR fp h):p.1 ∈ fp∧h.get? p.1=some p.2:=by
 obtain ⟨b,hb,e⟩:=kY.mp hp
 cases q:h.get? b with
 | none=>rw [q] at e;cases e
 | some o =>
  rw [q] at e
  have e':(b,o)=p:=cJ.inj e
  subst e'
  exact ⟨hb,q⟩
theorem Inv.pinned {σ:St} (I:Inv X pins σ H s) (hf:∀ b ∈ fp,uN X pins H b) (ho:∀ b ∈ fp,∃ o,s.heap.get? b=some o∧∀ v,o.data ≠ .cell v):Inv X (pins++wR fp s.heap) σ H s :=
 I.pins_of fun p hp=>(bK.mp hp).elim (fun z=>I.pin p (bQ _ z)) fun z=>by
  obtain ⟨hb,e⟩:=JL z
  obtain ⟨f0,f1,f2,_⟩:=hf p.1 hb
  obtain ⟨o,e',d⟩:=ho p.1 hb
  rw [e] at e';cases e'
  exact ⟨e,f0,f1,f2,d⟩
theorem Inv.unpinned {pl:List (Addr × Obj)} {σ:St} (I:Inv X (pins++pl) σ H s):Inv X pins σ H s:=I.pins_of fun p hp=>I.pin p (bQ _ (cC _ hp))
theorem U5 {body:List Stmt} {wi:TI} {g:TG} {tb:TS} (hp:PassesOwn (model X.prog X.w) X.A X.env X.xe) (hc:X.calm=true) (hi:PI X tg iter wi) (hg:PG X tg g) (hb:PSs X body tb)
 (hs:∀ x,foldedSetIterable iter X.env x=pure x:=by intro _;rfl):PS X (.For tg iter body [] pos) (Zy wi g tb):=by
 intro pins s σ H D I h
 refine wpAny_For (thn (hi pins s σ H _ I h) fun v s1 h1=>thn h1 fun itv s2 h2=>?_) hs
 obtain ⟨it,fp,tn,J,H2,e,I2,T,st2,f2,W,⟨m0,w0⟩,turn⟩:=h2
 subst e
 have stat:∀ {H':Hp},(∀ b ∈ fp,H' b=none)→∀ b ∈ fp,uN X pins H' b:=fun hn b hb=>⟨hn b hb,(f2 b hb).2⟩
 refine codeAny_forLoop_any (fun n s'=>∃ i σ' H',Inv X pins σ' H' s'∧tn i s'.heap∧(∀ b ∈ fp,H' b=none)∧W i n σ' H') ?_ m0 ⟨0,σ,H2,I2,st2,fun b hb=>(f2 b hb).1,w0⟩
 rintro n s3 ⟨i,σ3,H3,I3,st3,fr3,w3⟩
 rcases turn i n σ3 H3 w3 with ⟨stop,qn⟩ | ⟨go,N,hN,step⟩
 ·refine wpAny_passesOwn hp (thn (T.done X rfl rfl rfl hc i pins s3 σ3 H3 X.xe I3 (stat fr3) st3 stop) fun r s4 ⟨hr,I4⟩=>?_)
  subst hr
  exact wpAny_execs_nil ⟨σ3,H3,I4,qn⟩
 ·refine wpAny_passesOwn hp (thn (T.item X rfl rfl rfl hc i pins s3 σ3 H3 X.xe I3 (stat fr3) st3 go) fun r s4 ⟨u,hr,h4⟩=>?_)
  subst hr
  refine wpAny_passesOwn hp (thn h4 fun _ s5 ⟨x,H5,I5,r5,y5,st5,fr5⟩=>?_)
  have I5':=I5.pinned (stat fr5) (T.obj _ _ st5)
  refine wpAny_passesOwn hp (thn (hg _ s5 σ3 H5 x u _ I5' r5 (step x H5 y5)) fun _ s6 ⟨σ6,H6,I6,q6⟩=>?_)
  refine wpAny_passesOwn hp (thn (hb _ s6 σ6 H6 _ I6 q6) fun f s7 q7=>?_)
  have again:∀ {σ7:St} {H7:Hp},Inv X (pins++wR fp s5.heap) σ7 H7 s7→N σ7 H7→∃ m,m < n∧∃ i σ' H',Inv X pins σ' H' s7∧tn i s7.heap∧(∀ b ∈ fp,H' b=none)∧W i m σ' H':=fun {σ7 H7} I7 n7=>by
   obtain ⟨m',hm,w7⟩:=hN σ7 H7 n7
   refine ⟨m',hm,i + 1,σ7,H7,I7.unpinned,T.keep _ _ _ st5 fun b hb o e=>(I7.pin (b,o) (bQ _ (bQ _ (qe hb e)))).1,fun b hb=>?_,w7⟩
   obtain ⟨o,e,d⟩:=T.obj _ _ st5 b hb
   exact (I7.pin (b,o) (bQ _ (bQ _ (qe hb e)))).2.1
  cases f with
  | next=>obtain ⟨σ7,H7,I7,n7⟩:=q7;exact again I7 n7
  | cont=>obtain ⟨σ7,H7,I7,n7⟩:=q7;exact again I7 n7
  | brk=>obtain ⟨σ7,H7,I7,q7⟩:=q7;exact ⟨σ7,H7,I7.unpinned,q7⟩
  | ret v=>obtain ⟨x7,σ7,H7,I7,r7,q7⟩:=q7;exact ⟨x7,σ7,H7,I7.unpinned,r7,q7⟩
end
end L2
variable {op op':CmpOp}
namespace L2
open PySem PySem.Spec PyProof.Rows
abbrev R2:=V→V→Hp→VK→Prop
def OpR (X:Cx) (f:Value→Value→Sem Value) (r:R2):Prop :=
 ∀ (pins:List (Addr × Obj)) (s:Shared) (σ:St) (H:Hp) (x y:V) (v u:Value) (Q:VK),Inv X pins σ H s→RelV x v→RelV y u→r x y H Q →
  wpAny (model X.prog X.w) X.A (f v u) (EP X pins σ Q) X.xe s
def UnR (X:Cx) (f:Value→Sem Value) (r:V→Hp→VK→Prop):Prop :=
 ∀ (pins:List (Addr × Obj)) (s:Shared) (σ:St) (H:Hp) (x:V) (v:Value) (Q:VK),Inv X pins σ H s→RelV x v→r x H Q →
  wpAny (model X.prog X.w) X.A (f v) (EP X pins σ Q) X.xe s
def lQ (X:Cx) (f:Value) (r:List V→Hp→VK→Prop):Prop :=
 ∀ (pins:List (Addr × Obj)) (s:Shared) (σ:St) (H:Hp) (xs:List V) (us:List Value) (Q:VK),Inv X pins σ H s→Vals xs us→r xs H Q →
  wpAny (model X.prog X.w) X.A (call f us) (EP X pins σ Q) X.xe s
def tOp (r:R2) (ta tb:TE):TE:=fun σ H Q=>ta σ H fun x H1=>tb σ H1 fun y H2=>r x y H2 Q
def tUn (r:V→Hp→VK→Prop) (ta:TE):TE:=fun σ H Q=>ta σ H fun x H1=>r x H1 Q
def rI (C:Int→Int→Prop) (g:Int→Int→V):R2:=fun x y H Q=>∃ i j,x = .int i∧y = .int j∧C i j∧Q (g i j) H
def rI0 (g:Int→Int→V):R2:=fun x y H Q=>∃ i j,x = .int i∧y = .int j∧Q (g i j) H
def rU (g:Int→V):V→Hp→VK→Prop:=fun x H Q=>∃ i,x = .int i∧Q (g i) H
section
variable {X:Cx} {a b c:Expr} {ta tb tc:TE} {pos:Pos}
theorem U6 (ha:PE X a ta) (hb:PE X b tb) {pins:List (Addr × Obj)} {s:Shared} {σ:St} {H:Hp} {R:V→V→Hp→Prop} (I:Inv X pins σ H s)
 (h:ta σ H fun x H1=>tb σ H1 fun y H2=>R x y H2) {Q:Value→Shared→Prop} {f:Value→Value→Sem Value}
 (hf:∀ v u s2 x y H2,Inv X pins σ H2 s2→RelV x v→RelV y u→R x y H2→wpAny (model X.prog X.w) X.A (f v u) Q X.xe s2) :
 wpAny (model X.prog X.w) X.A (eval a X.env) (fun v s₁=>wpAny (model X.prog X.w) X.A (eval b X.env) (fun u s₂=>wpAny (model X.prog X.w) X.A (f v u) Q X.xe s₂) X.xe s₁) X.xe s:=by
 refine thn (ha pins s σ H _ I h) fun v s1 ⟨x,H1,I1,r1,q1⟩=>?_
 refine thn (hb pins s1 σ H1 _ I1 q1) fun u s2 ⟨y,H2,I2,r2,q2⟩=>?_
 exact hf v u s2 x y H2 I2 r1 r2 q2
theorem La {op:Operator} {r:R2} (ho:OpR X (binaryOp op) r) (ha:PE X a ta) (hb:PE X b tb):PE X (.BinOp a op b pos) (tOp r ta tb):=by
 intro pins s σ H Q I h
 exact wpAny_BinOp (U6 ha hb I h fun v u s2 x y H2 I2 rx ry q=>ho pins s2 σ H2 x y v u Q I2 rx ry q)
theorem Xm {op:UnaryOp} {r:V→Hp→VK→Prop} (ho:UnR X (unaryOp op) r) (ha:PE X a ta):PE X (.UnaryOp op a pos) (tUn r ta):=by
 intro pins s σ H Q I h
 exact UnaryOp_ (thn (ha pins s σ H _ I h) fun v s1 ⟨x,H1,I1,r1,q1⟩=>ho pins s1 σ H1 x v Q I1 r1 q1)
theorem opI {f:Value→Value→Sem Value} {C:Int→Int→Prop} {g:Int→Int→Int}
 (rule:∀ (i j:Int) (t u:Tok) (s:Shared) (Q:Value→Shared→Prop) (E:Value→Shared→Prop),C i j→Q (.int (g i j) s.toks) { s with toks:=s.toks + 1 }→wpAny (model X.prog X.w) X.A (f (.int i t) (.int j u)) Q E s) :
 OpR X f (rI C fun i j=>.int (g i j)):=by
 intro pins s σ H x y v u Q I rx ry h
 obtain ⟨i,j,rfl,rfl,hc,q⟩:=h
 obtain ⟨t,rfl⟩:=rx
 obtain ⟨t',rfl⟩:=ry
 exact rule i j t t' s _ _ hc ⟨.int (g i j),H,I.tok _,⟨_,rfl⟩,q⟩
theorem Xn {f:Value→Value→Sem Value} {g:Int→Int→Int}
 (rule:∀ (i j:Int) (t u:Tok) (s:Shared) (Q:Value→Shared→Prop) (E:Value→Shared→Prop),Q (.int (g i j) s.toks) { s with toks:=s.toks + 1 }→wpAny (model X.prog X.w) X.A (f (.int i t) (.int j u)) Q E s) :
 OpR X f (rI0 fun i j=>.int (g i j)):=by
 intro pins s σ H x y v u Q I rx ry h
 obtain ⟨i,j,rfl,rfl,q⟩:=h
 obtain ⟨t,rfl⟩:=rx
 obtain ⟨t',rfl⟩:=ry
 exact rule i j t t' s _ _ ⟨.int (g i j),H,I.tok _,⟨_,rfl⟩,q⟩
theorem Qw {f:Value→Value→Sem Value} {g:Int→Int→Bool}
 (rule:∀ (i j:Int) (t u:Tok) (s:Shared) (Q:Value→Shared→Prop) (E:Value→Shared→Prop),Q (.bool (g i j)) s→wpAny (model X.prog X.w) X.A (f (.int i t) (.int j u)) Q E s) :
 OpR X f (rI0 fun i j=>.bl (g i j)):=by
 intro pins s σ H x y v u Q I rx ry h
 obtain ⟨i,j,rfl,rfl,q⟩:=h
 obtain ⟨t,rfl⟩:=rx
 obtain ⟨t',rfl⟩:=ry
 exact rule i j t t' s _ _ ⟨.bl (g i j),H,I,rfl,q⟩
def U7 (i j:Int):Prop:=0 ≤ j∧j ≤ 1000000∧i.natAbs < 2 ^ 64
theorem dO:OpR X (binaryOp .Add) (rI0 fun i j=>.int (i + j)):=Xn fun _ _ _ _ _ _ _ q=>add_int q
theorem Al:OpR X (binaryOp .Sub) (rI0 fun i j=>.int (i - j)):=Xn fun _ _ _ _ _ _ _ q=>sub_int q
theorem nM:OpR X (binaryOp .Mod) (rI (fun _ j=>j ≠ 0) fun i j=>.int (i.fmod j)):=opI fun _ _ _ _ _ _ _ hc q=>mod_int' hc q
theorem U8:OpR X (binaryOp .Pow) (rI U7 fun i j=>.int (i ^ j.toNat)):=opI fun _ _ _ _ _ _ _ hc q=>pow_int_small hc.1 hc.2.1 hc.2.2 q
theorem unI {f:Value→Sem Value} {g:Int→Int}
 (rule:∀ (i:Int) (t:Tok) (s:Shared) (Q:Value→Shared→Prop) (E:Value→Shared→Prop),Q (.int (g i) s.toks) { s with toks:=s.toks + 1 }→wpAny (model X.prog X.w) X.A (f (.int i t)) Q E s) :
 UnR X f (rU fun i=>.int (g i)):=by
 intro pins s σ H x v Q I rx h
 obtain ⟨i,rfl,q⟩:=h
 obtain ⟨t,rfl⟩:=rx
 exact rule i t s _ _ ⟨.int (g i),H,I.tok _,⟨_,rfl⟩,q⟩
theorem U9:UnR X (unaryOp .USub) (rU fun i=>.int (-i)):=unI fun _ _ _ _ _ q=>neg_int q
end
section
variable {X:Cx} {a b c:Expr} {ta tb tc:TE} {pos:Pos}
theorem Dc:OpR X (compareOp .Lt) (rI0 fun i j=>.bl (decide (i < j))):=Qw fun _ _ _ _ _ _ _ q=>lt_int q
theorem pJ:OpR X (compareOp .LtE) (rI0 fun i j=>.bl (decide (i ≤ j))):=Qw fun _ _ _ _ _ _ _ q=>le_int q
theorem Lb:OpR X (compareOp .Gt) (rI0 fun i j=>.bl (decide (j < i))):=Qw fun _ _ _ _ _ _ _ q=>gt_int q
theorem Xo:OpR X (compareOp .GtE) (rI0 fun i j=>.bl (decide (j ≤ i))):=Qw fun _ _ _ _ _ _ _ q=>ge_int q
theorem dZ (b:Expr) {op:CmpOp} (h:op ≠ .In:=by decide) (h2:op ≠ .NotIn:=by decide):behindInMarks op b=false:=by
 have e1:(op == CmpOp.In)=false:=by cases op <;> first | rfl | exact absurd rfl h
 have e2:(op == CmpOp.NotIn)=false:=by cases op <;> first | rfl | exact absurd rfl h2
 cases b <;> simp [behindInMarks,e1,e2]
theorem Qx {r:R2} (ho:OpR X (compareOp op) r) (ha:PE X a ta) (hb:PE X b tb) (hm:behindInMarks op b=false):PE X (.Compare a [op] [b] pos) (tOp r ta tb):=by
 intro pins s σ H Q I h
 exact wpAny_Compare1 (U6 ha hb I h fun v u s2 x y H2 I2 rx ry q=>ho pins s2 σ H2 x y v u Q I2 rx ry q) hm
def TY (t:TE):TT:=fun σ H Q=>t σ H fun x H'=>∃ k,x = .bl k∧Q k H'
theorem Qy {r:R2} (ho:OpR X (compareOp op) r) (ha:PE X a ta) (hb:PE X b tb) (hm:behindInMarks op b=false):PT X (.Compare a [op] [b] pos) (TY (tOp r ta tb)):=by
 intro pins s σ H Q I h
 refine wpAny_isTrue_Compare1 (thn (ha pins s σ H _ I h) fun v s1 ⟨x,H1,I1,r1,q1⟩=>thn (hb pins s1 σ H1 _ I1 q1) fun u s2 ⟨y,H2,I2,r2,q2⟩ =>
  thn (ho pins s2 σ H2 x y v u _ I2 r1 r2 q2) fun c s3 ⟨z,H3,I3,r3,k,e,q3⟩=>?_) hm
 subst e
 cases r3
 exact wpAny_truthy_bool ⟨H3,I3,q3⟩
def Ld (r r':R2) (ta tb tc:TE):TE:=fun σ H Q=>ta σ H fun x H1=>tb σ H1 fun y H2=>r x y H2 fun z H3=>∃ k,z = .bl k ∧
 (if k=true then tc σ H3 fun w' H4=>r' y w' H4 Q else Q (.bl false) H3)
theorem Le {r r':R2} (ho:OpR X (compareOp op) r) (ho':OpR X (compareOp op') r') (ha:PE X a ta) (hb:PE X b tb) (hc:PE X c tc)
 (hm:lastMarks [op,op'] [b,c]=false:=by with_unfolding_all rfl):PE X (.Compare a [op,op'] [b,c] pos) (Ld r r' ta tb tc):=by
 intro pins s σ H Q I h
 refine Compare_chain (thn (ha pins s σ H _ I h) fun v s1 ⟨x,H1,I1,r1,q1⟩=>chain_link (thn (hb pins s1 σ H1 _ I1 q1) fun u s2 ⟨y,H2,I2,r2,q2⟩ =>
  thn (ho pins s2 σ H2 x y v u _ I2 r1 r2 q2) fun d s3 ⟨z,H3,I3,r3,k,e,q3⟩=>?_)) hm
 subst e
 cases r3
 refine wpAny_truthy_bool ?_
 cases k with
 | false=>exact ite_ff ⟨.bl false,H3,I3,rfl,q3⟩
 | true=>exact ite_tt (chain_last (thn (hc pins s3 σ H3 _ I3 q3) fun w' s4 ⟨z',H4,I4,r4,q4⟩=>ho' pins s4 σ H4 y z' u w' Q I4 r2 r4 q4))
theorem Lf {r r':R2} (ho:OpR X (compareOp op) r) (ho':OpR X (compareOp op') r') (ha:PE X a ta) (hb:PE X b tb) (hc:PE X c tc)
 (hm:lastMarks [op,op'] [b,c]=false:=by with_unfolding_all rfl):PT X (.Compare a [op,op'] [b,c] pos) (TY (Ld r r' ta tb tc)):=by
 intro pins s σ H Q I h
 refine isTrue_chain (thn (ha pins s σ H _ I h) fun v s1 ⟨x,H1,I1,r1,q1⟩=>test_link (thn (hb pins s1 σ H1 _ I1 q1) fun u s2 ⟨y,H2,I2,r2,q2⟩ =>
  thn (ho pins s2 σ H2 x y v u _ I2 r1 r2 q2) fun d s3 ⟨z,H3,I3,r3,k,e,q3⟩=>?_)) hm
 subst e
 cases r3
 refine wpAny_truthy_bool ?_
 cases k with
 | false =>
  obtain ⟨k',e',q'⟩:=q3
  cases e'
  exact ite_ff ⟨H3,I3,q'⟩
 | true =>
  refine ite_tt (test_last (thn (hc pins s3 σ H3 _ I3 q3) fun w' s4 ⟨z',H4,I4,r4,q4⟩=>thn (ho' pins s4 σ H4 y z' u w' _ I4 r2 r4 q4) fun d' s5 ⟨z2,H5,I5,r5,k2,e2,q5⟩=>?_))
  subst e2
  cases r5
  exact wpAny_truthy_bool ⟨H5,I5,q5⟩
theorem uO:(sizeLine:Nat) < 2 ^ 63:=by rw [sizeLine_eq];decide
theorem vals1 {x:V} (r:Vals [x] us):∃ u,us=[u]∧RelV x u:=by
 cases r with
 | cons r1 r2=>cases r2;exact ⟨_,rfl,r1⟩
theorem vals2 {x y:V} (r:Vals [x,y] us):∃ u w',us=[u,w']∧RelV x u∧RelV y w':=by
 cases r with
 | cons r1 r2 =>
  cases r2 with
  | cons r3 r4=>cases r4;exact ⟨_,_,rfl,r1,r3⟩
theorem JM (hc:X.calm=true):lQ X (.builtin "max") (fun xs H Q=>∃ i j,xs=[.int i,.int j]∧Q (.int (if j > i then j else i)) H):=by
 intro pins s σ H xs us Q I r h
 obtain ⟨i,j,rfl,q⟩:=h
 obtain ⟨u,w',rfl,⟨t,rfl⟩,⟨t',rfl⟩⟩:=vals2 r
 refine max_two_ints (I.ok.hd hc) fun h' tk k=>⟨_,H,I.kept k,?_,q⟩
 by_cases hj:j > i
 ·rw [if_pos hj,if_pos hj];exact ⟨_,rfl⟩
 ·rw [if_neg hj,if_neg hj];exact ⟨_,rfl⟩
theorem JN (hc:X.calm=true):lQ X (.builtin "min") (fun xs H Q=>∃ i j,xs=[.int i,.int j]∧Q (.int (if j < i then j else i)) H):=by
 intro pins s σ H xs us Q I r h
 obtain ⟨i,j,rfl,q⟩:=h
 obtain ⟨u,w',rfl,⟨t,rfl⟩,⟨t',rfl⟩⟩:=vals2 r
 refine min_two_ints (I.ok.hd hc) fun h' tk k=>⟨_,H,I.kept k,?_,q⟩
 by_cases hj:j < i
 ·rw [if_pos hj,if_pos hj];exact ⟨_,rfl⟩
 ·rw [if_neg hj,if_neg hj];exact ⟨_,rfl⟩
theorem JQ:lQ X (.type "int") (fun xs H Q=>(∃ i,xs=[.int i]∧Q (.int i) H)∨∃ k,xs=[.bl k]∧Q (.int (if k then 1 else 0)) H):=by
 intro pins s σ H xs us Q I r h
 rcases h with ⟨i,rfl,q⟩ | ⟨k,rfl,q⟩
 ·obtain ⟨u,rfl,t,rfl⟩:=vals1 r
  exact call_int_int ⟨.int i,H,I,⟨_,rfl⟩,q⟩
 ·obtain ⟨u,rfl,r1⟩:=vals1 r
  cases r1
  exact call_int_bool ⟨.int (if k then 1 else 0),H,I.tok _,⟨_,rfl⟩,q⟩
end
end L2
namespace L2
open PySem PySem.Spec PyProof.Rows
structure ObjM (h:Heap) (x dx C:Addr) (mA:Str→Option Value):Prop where
 obj:h.get? x=some (PySem.W.instObj C dx)
 ns:h.Ns1 dx mA
 ne:dx ≠ x
theorem JR {dx:Addr} {mA:Str→Option Value} (n:h.Ns1 dx mA):∃ od,h.get? dx=some od∧∀ name,PySem.W.lookIn name od=some (mA name):=by
 obtain ⟨o,es,ep,ho,hd,hk,_,hm⟩:=n
 refine ⟨o,ho,fun name=>?_⟩
 have e:=hm name
 unfold nsFind findBy at e
 rw [← Array.find?_toList] at e
 unfold PySem.W.lookIn
 rw [hd]
 dsimp only
 split
 ·rename_i y q
  rw [q] at e
  exact congrArg some e
 ·rename_i q
  rw [q] at e
  have a:es.toList.any (·.refKey)=false:=by
   rw [List.any_eq_false]
   intro y hy
   obtain ⟨z,t,hkey⟩:=hk y (Array.mem_toList_iff.mp hy)
   simp [DictEntry.refKey,hkey]
  have a':¬ es.toList.any (·.refKey)=true:=by rw [a];exact cg
  rw [if_neg a']
  exact congrArg some e
theorem ObjM.look {x dx C:Addr} {mA:Str→Option Value} (I:ObjM h x dx C mA):∃ od,PySem.W.InstAt h x (PySem.W.instObj C dx) C (some od)∧∀ name,PySem.W.lookIn name od=some (mA name) :=
 let ⟨od,ho,hl⟩:=JR I.ns
 ⟨od,⟨I.obj,rfl,rfl,ho⟩,hl⟩
section
variable {prog:Program} {w:World} {A:Around} {E:Value→Shared→Prop} {s:Shared} {K:PySem.W.Frag} {x dx C f:Addr} {mA:Str→Option Value} {name:Str} {v:Value}
end
section
variable {P:Program} {w:World} {H H':Hp} {h h':Heap} {a C dx:Addr} {fs fs':List (Str × V)}
theorem Qz (hok:HOk P w H h) (e:H a=some (.ins C dx fs)):∃ mA,ObjM h a dx C mA∧(∀ f,Ai (fs.lookup f) (mA f))∧PySem.Within mA (fs.map (·.1))∧fs.length ≤ 1000∧H dx=some (.own a):=by
 obtain ⟨d,z,ne,ob,mA,n,r,q⟩:=(show fG P w H h a (.ins C dx fs) from hok a _ e)
 exact ⟨mA,⟨ob,n,ne⟩,r,q,z,d⟩
end
structure Cls (K:PySem.W.Frag) (C:Addr):Prop where
 pg:PySem.W.plainGet K C Str.empty=true
 hd:PySem.W.hasDictIn K C=true
 po:PySem.W.plainOver K C=true
 sa:PySem.W.findIn K (.ref C) "__setattr__" = some (some (.builtin "object.__setattr__"))
theorem Cls.get {C:Addr} (c:Cls K C) (f:Str):PySem.W.plainGet K C f=true:=c.pg
structure Con (K:PySem.W.Frag) (C:Addr) (f:Str) (v:V) (u:Value):Prop where
 at_:PySem.W.findIn K (.ref C) f=some (some u)
 rel:RelV v u
 get:PySem.W.specialIn K u "__get__" = some none
 cp:PySem.W.copiedNames.contains f=false
structure Meth (K:PySem.W.Frag) (C:Addr) (m:Str) (f:Addr):Prop where
 at_:PySem.W.findIn K (.ref C) m=some (some (.ref f))
 fn:PySem.W.isFn K (.ref f)=true
 kp:PySem.W.keepIn K (.ref f)=true
section
variable {X:Cx} {pins:List (Addr × Obj)} {σ:St} {H:Hp} {s:Shared} {a C dx:Addr} {fs:List (Str × V)} {f:Str} {v:V} {A:Around} {E:Value→Shared→Prop}
end
section
variable {X:Cx} {o e value:Expr} {f:Str} {pos pos' tpos:Pos} {ta tv:TE}
end
section
variable {X:Cx} {pins:List (Addr × Obj)} {σ:St} {H:Hp} {s:Shared} {A:Around} {E:Value→Shared→Prop} {Q:Value→Shared→Prop} {c:Value} {b:Bool}
inductive TyOf (K:PySem.W.Frag) (H:Hp):V→Value→Prop where
 | non:TyOf K H .non (.type "NoneType")
 | bl (x:Bool):TyOf K H (.bl x) (.type "bool")
 | int (i:Int):TyOf K H (.int i) (.type "int")
 | str (x:Str):TyOf K H (.str x) (.type "str")
 | flt (x:UInt64):TyOf K H (.flt x) (.type "float")
 | lst {a:Addr} {xs:List V} (e:H a=some (.lst xs)):TyOf K H (.ref a) (.type "list")
 | frz {a:Addr} {o:Obj} {xs:List V} (e:H a=some (.frz o (.lst xs))):TyOf K H (.ref a) (.type "list")
 | tup {a:Addr} {xs:List V} (e:H a=some (.tup xs)):TyOf K H (.ref a) (.type "tuple")
 | dK {a:Addr} {kvs:List (Key × V)} (e:H a=some (.dK kvs)):TyOf K H (.ref a) (.type "dict")
 | dT {a:Addr} {kvs:List (List Key × V)} (e:H a=some (.dT kvs)):TyOf K H (.ref a) (.type "dict")
 | ins {a C dx:Addr} {fs:List (Str × V)} (e:H a=some (.ins C dx fs)) (cl:Cls K C) (ha:PySem.W.findIn K (.ref C) "__class__" = some (some (.builtin "object.__class__")))
  (hn:PySem.W.specialIn K (.builtin "object.__class__") "__get__" = some (some (.builtin "getset_descriptor.__get__"))) (htk:PySem.W.takesIn K (.builtin "object.__class__")=some true)
  (hm:PySem.W.mroIn K C (.type "object")=some true):TyOf K H (.ref a) (.ref C)
theorem zu {x:V} {u t:Value} (I:Inv X pins σ H s) (rx:RelV x u) (ty:TyOf X.K H x t) (e:PySem.W.kitOne X.K t c=some b) (h:∀ tk,Q (.bool b) { s with toks:=tk }) :
 wpAny (model X.prog X.w) A (call (.builtin "isinstance") [u,c]) Q E s:=by
 cases ty with
 | non=>cases (show u=Value.none from rx);exact PySem.W.kia_one PySem.W.kitx_none I.kIn True.intro e (fun z=>nomatch z) h
 | bl y=>cases (show u=Value.bool y from rx);exact PySem.W.kia_one PySem.W.kitx_bool I.kIn True.intro e (fun z=>nomatch z) h
 | int i=>obtain ⟨t,q⟩:=(show ∃ t,u=Value.int i t from rx);cases q;exact PySem.W.kia_one PySem.W.kitx_int I.kIn True.intro e (fun z=>nomatch z) h
 | str y=>obtain ⟨t,q⟩:=(show ∃ t,u=Value.str y t from rx);cases q;exact PySem.W.kia_one PySem.W.kitx_str I.kIn True.intro e (fun z=>nomatch z) h
 | flt y=>obtain ⟨t,q⟩:=(show ∃ t,u=Value.float y t from rx);cases q;exact PySem.W.kia_one PySem.W.kitx_float I.kIn True.intro e (fun z=>nomatch z) h
 | @lst a xs ea =>
  cases (show u=Value.ref a from rx)
  obtain ⟨_,_,n,_,h1⟩:=(show fG X.prog X.w H s.heap a (.lst xs) from I.hok a _ ea)
  exact PySem.W.kia_one PySem.W.kitx_list I.kIn ⟨_,h1,rfl⟩ e (fun z=>nomatch z) h
 | @frz a ob xs ea =>
  cases (show u=Value.ref a from rx)
  obtain ⟨_,_,_,n,_,h1⟩:=(show fG X.prog X.w H s.heap a (.frz ob (.lst xs)) from I.hok a _ ea)
  exact PySem.W.kia_one PySem.W.kitx_list I.kIn ⟨_,h1,rfl⟩ e (fun z=>nomatch z) h
 | @tup a xs ea =>
  cases (show u=Value.ref a from rx)
  obtain ⟨_,_,_,p⟩:=(show fG X.prog X.w H s.heap a (.tup xs) from I.hok a _ ea)
  obtain ⟨o,h1,h2,_⟩:=p
  exact PySem.W.kia_one PySem.W.kitx_tuple I.kIn ⟨o,h1,h2⟩ e (fun z=>nomatch z) h
 | @dK a kvs ea =>
  cases (show u=Value.ref a from rx)
  obtain ⟨_,_,vs,_,p⟩:=(show fG X.prog X.w H s.heap a (.dK kvs) from I.hok a _ ea)
  obtain ⟨o,es,ep,h1,h2,_⟩:=p
  exact PySem.W.kia_one PySem.W.kitx_dict I.kIn ⟨o,h1,h2.1⟩ e (fun z=>nomatch z) h
 | @dT a kvs ea =>
  cases (show u=Value.ref a from rx)
  obtain ⟨_,_,xs,_,o,es,ep,h1,h2,_⟩:=(show fG X.prog X.w H s.heap a (.dT kvs) from I.hok a _ ea)
  exact PySem.W.kia_one PySem.W.kitx_dict I.kIn ⟨o,h1,h2.1⟩ e (fun z=>nomatch z) h
 | @ins a C dx fs ea cl ha hn htk hm =>
  cases (show u=Value.ref a from rx)
  obtain ⟨mA,O,_⟩:=Qz I.hok ea
  obtain ⟨od,J,_⟩:=O.look
  exact PySem.W.kia_one (PySem.W.kitx_own (cl.get _) cl.hd ha hn htk hm) I.kIn J e (fun z=>nomatch z) h
end
end L2
variable {mg:Str→Option Value} {base:Heap} {f:Addr} {fd:FuncData} {ps:List Str} {vs:List L2.V} {cd pm ct oc:Value} {an od:Option Addr}
namespace L2
open PySem PySem.Spec PyProof.Rows
structure Room (k:Nat) (A:Around):Prop where
 hd:A.handled=none
 dp:A.depth + 3 * k + 5 < recursionLimit
 un:A.units + 16 * k + 200 < cLine
theorem Room.mono {j k:Nat} (r:Room k A) (h:j ≤ k):Room j A:=⟨r.hd,by have:=r.dp;omega,by have:=r.un;omega⟩
theorem Room.deeper {k:Nat} (r:Room (k + 1) A) (env:Env):Room k (A.deeper env) :=
 ⟨r.hd,by have:=r.dp;show A.depth + 1 + 3 * k + 5 < _;omega,by have:=r.un;show A.units + 3 + 16 * k + 200 < _;omega⟩
theorem Room.depth {k:Nat} (r:Room k A):A.depth < recursionLimit:=by have:=r.dp;omega
theorem Room.units {k:Nat} (r:Room k A):A.units + 64 < cLine:=by have:=r.un;omega
def Zz:TA:=fun _ H Q=>Q [] H
def Xp (ta:TE) (tr:TA):TA:=fun σ H Q=>ta σ H fun x H1=>tr σ H1 fun xs H2=>Q (x :: xs) H2
section
variable {X:Cx} {e:Expr} {es:List Expr} {te:TE} {t:TA} {pos:Pos}
theorem pB:PA X [] Zz:=fun _ _ _ _ H Q I h=>Calls.spliced_nil ⟨[],H,I,.nil,h⟩
theorem kW (ha:PE X e te) (hr:PA X es t) (hs:starEach (e :: es) X.env=(false,eval e X.env) :: starEach es X.env:=by rfl):PA X (e :: es) (Xp te t):=by
 intro pos pins s σ H Q I h
 rw [hs]
 show wpAny _ _ (spliced ((false,eval e X.env) :: backTo pos (starEach es X.env))) _ _ s
 refine Calls.spliced_cons (thn (ha pins s σ H _ I h) fun u s1 ⟨x,H1,I1,r1,q1⟩=>?_)
 exact thn (hr pos pins s1 σ H1 _ I1 q1) fun us s2 ⟨xs,H2,I2,r2,q2⟩=>⟨x :: xs,H2,I2,.cons r1 r2,q2⟩
def ZC (t:TA):TE:=fun σ H Q=>t σ H fun xs H1=>xs.length ≤ sizeLine∧∀ p,H1 p=none→Q (.ref p) (upd H1 p (.tup xs))
def ZD (t:TA):TE:=fun σ H Q=>t σ H fun xs H1=>xs.length ≤ sizeLine∧∀ p,H1 p=none→Q (.ref p) (upd H1 p (.lst xs))
theorem U_ {x1} (h:PA X es t):PE X (.Tuple es x1 pos) (ZC t):=by
 intro pins s σ H Q I hq
 refine wpAny_Tuple_spliced (thn (h pos pins s σ H _ I hq) fun us s1 ⟨xs,H1,I1,r,z,q⟩=>⟨by rw [← r.length];exact z,?_⟩)
 have hf:H1 s1.heap.objs.size=none:=I1.hok.fresh (aL _)
 refine ⟨.ref s1.heap.objs.size,upd H1 s1.heap.objs.size (.tup xs),I1.laid (t':=s1.toks) (fun b u e=>Heap.get?_push_of_some _ e) (aL _) ?_,rfl,q _ hf⟩
 exact ⟨z,us,r,⟨_,Heap.get?_push_size _ rfl,rfl,_,rfl⟩⟩
theorem Lg (h:PA X es t):PE X (.List es pos) (ZD t):=by
 intro pins s σ H Q I hq
 refine wpAny_List_spliced (thn (h pos pins s σ H _ I hq) fun us s1 ⟨xs,H1,I1,r,z,q⟩=>⟨by rw [← r.length];exact z,?_⟩)
 have hf:H1 s1.heap.objs.size=none:=I1.hok.fresh (aL _)
 refine ⟨.ref s1.heap.objs.size,upd H1 s1.heap.objs.size (.lst xs),I1.laid (t':=s1.toks) (fun b u e=>Heap.get?_push_of_some _ e) (aL _) ?_,rfl,q _ hf⟩
 exact ⟨z,us,0,r,Heap.get?_push_size _ rfl⟩
end
abbrev Sp:=List V→Hp→VK→XK→Prop
abbrev CXT:=List Env→Hp→Shared→XK→Value→Shared→Prop
structure Env0 (P:Program) (w:World) (K:PySem.W.Frag) (mg:Str→Option Value) (base:Heap) (A:Around) (outer:List Env) (s:Shared) (H:Hp):Prop where
 frames:A.frames=some outer
 mod:Mod K mg base
 bs:∀ b o,base.get? b=some o→s.heap.get? b=some o∧H b=none
 bsz:base.objs.size ≤ s.heap.objs.size
 funs:s.heap.FunFrames base outer
 frf:∀ b ∈ frs outer,H b=none
 hok:HOk P w H s.heap
 bare:AllBare s.gens
def CE (outer:List Env) (P:Program) (w:World) (H:Hp) (s:Shared) (Q:VK) (u:Value) (s':Shared):Prop :=
 ∃ v H',s'.os=s.os∧AllBare s'.gens∧Un (frs outer) [] H H' s.heap s'.heap∧HOk P w H' s'.heap∧RelV v u∧Q v H'
def CR (CX:CXT) (outer:List Env) (P:Program) (w:World) (H:Hp) (s:Shared) (Q:VK) (E:XK) (r:Result) (s':Shared):Prop :=
 match r with
 | .ok (.ret u)=>CE outer P w H s Q u s'
 | .ok _=>False
 | .error e=>CX outer H s E e s'
structure FnOk (P:Program) (w:World) (K:PySem.W.Frag) (mg:Str→Option Value) (base:Heap) (CX:CXT) (k:Nat) (f:Addr) (fd:FuncData) (ps:List Str) (sp:Sp):Prop where
 len:∀ vs H Q E,sp vs H Q E→vs.length=ps.length
 run:∀ (A:Around) (outer:List Env) (s:Shared) (H:Hp) (args:Args) (us:List Value) (vs:List V) (Q:VK) (E:XK),Room k A→Env0 P w K mg base A outer s H→BindsTo s fd args (ps.zip us)→Vals vs us→sp vs H Q E →
  codeAny (model P w) A (.call (.ref f) args) (CR CX outer P w H s Q E) s
theorem FnOk.mono {CX:CXT} {j k:Nat} {sp:Sp} (F:FnOk P w K mg base CX j f fd ps sp) (h:j ≤ k) :
 FnOk P w K mg base CX k f fd ps sp:=⟨F.len,fun A outer s H args us vs Q E hr=>F.run A outer s H args us vs Q E (hr.mono h)⟩
theorem FnOk.imp {CX:CXT} {k:Nat} {sp sp':Sp} (F:FnOk P w K mg base CX k f fd ps sp)
 (h:∀ vs H Q E,sp' vs H Q E→sp vs H Q E):FnOk P w K mg base CX k f fd ps sp' :=
 ⟨fun vs H Q E q=>F.len vs H Q E (h _ _ _ _ q),fun A outer s H args us vs Q E hr he hb hv hs=>F.run A outer s H args us vs Q E hr he hb hv (h _ _ _ _ hs)⟩
section
variable {X:Cx} {pins:List (Addr × Obj)} {σ:St} {H:Hp} {s s':Shared}
theorem Inv.env0 (I:Inv X pins σ H s):Env0 X.prog X.w X.K X.mg X.base X.A X.stack s H :=
 ⟨I.ok.frames,I.ok.mod,I.bs,bh I.ok.bsz I.sz,I.stack,I.stkFree,I.hok,I.bare⟩
theorem Inv.after {Q:VK} {u:Value} (I:Inv X pins σ H s) (h:CE X.stack X.prog X.w H s Q u s'):EP X pins σ Q u s':=by
 obtain ⟨v,H',os,bare,un,hok,r,q⟩:=h
 obtain ⟨hh,g,d,t,os'⟩:=s'
 obtain rfl:os'=s.os:=os
 exact ⟨v,H',I.call (h':=hh) (g':=g) (d':=d) (t':=t) (ch:=[]) un hok bare (fun b z=>absurd z (by simp)),r,q⟩
end
def T3 (sp:Sp) (dvs:List V) (E:XK) (t:TA):TE:=fun σ H Q=>t σ H fun vs H1=>sp (vs++dvs) H1 Q E
def Binds (K:PySem.W.Frag) (fd:FuncData) (ps:List Str) (ds:List Value):Prop :=
 ∀ (s:Shared) (us:List Value),K.In s.heap→(us++ds).length=ps.length→BindsTo s fd ⟨us,[]⟩ (ps.zip (us++ds))
theorem Binds.all (h:∀ us:List Value,us.length=ps.length→bindArgs fd ⟨us,[]⟩=pure (ps.zip us)):Binds K fd ps []:=fun s us _ hl=>by
 rw [fD] at hl ⊢
 exact .of_eq (h us hl)
def Passes (CX:CXT) (X:Cx) (E:XK):Prop:=∀ (pins:List (Addr × Obj)) (σ:St) (H:Hp) (s:Shared) (e:Value) (s':Shared),Inv X pins σ H s→CX X.stack H s E e s'→X.xe e s'
section
variable {X:Cx} {CX:CXT} {k:Nat} {f C:Addr} {fd:FuncData} {ps:List Str} {sp:Sp} {dvs:List V} {ds:List Value} {E:XK} {x m:Str} {p pos apos:Pos} {e o:Expr} {es:List Expr} {ta:TE} {t:TA}
theorem Va {σ:St} {Q:VK} (F:FnOk X.prog X.w X.K X.mg X.base CX k f fd ps sp) (hr:Room k X.A) (hb:Binds X.K fd ps ds) (hd:Vals dvs ds) (hx:Passes CX X E)
 (I:Inv X pins σ H s) (r:Vals vs us) (h:sp (vs++dvs) H Q E):wpAny (model X.prog X.w) X.A (call (.ref f) us) (EP X pins σ Q) X.xe s:=by
 have r2:Vals (vs++dvs) (us++ds):=r.append hd
 have hl:(us++ds).length=ps.length:=by rw [← r2.length];exact F.len _ _ _ _ h
 refine wpAny_call (codeAny_mono (F.run X.A X.stack s H ⟨us,[]⟩ (us++ds) (vs++dvs) Q E hr I.env0 (hb s us I.kIn hl) r2 h) fun r s' hq=>?_)
 cases r with
 | error e=>exact hx pins σ H s e s' I hq
 | ok fl =>
  cases fl with
  | ret u=>exact I.after hq
  | next=>exact False.elim hq
  | brk=>exact False.elim hq
  | cont=>exact False.elim hq
theorem QB (F:FnOk X.prog X.w X.K X.mg X.base CX k f fd ps sp) (hr:Room k X.A) (hg:Gl X x) (hm:X.mg x=some (.ref f)) (hk:PySem.W.keepIn X.K (.ref f)=true) (hb:Binds X.K fd ps ds) (hd:Vals dvs ds) (hx:Passes CX X E)
 (ha:PA X (e :: es) t) (hdb:(x == ("__debug__" : Str))=false:=by decide) (he:starEach (e :: es) X.env=(false,eval e X.env) :: starEach es X.env:=by rfl) (hpl:(backTo pos (starEach es X.env)).any (·.1)=false:=by rfl) :
 PE X (.Call (.Name x p) (e :: es) [] pos) (T3 sp dvs E t):=by
 intro pins s σ H Q I h
 refine wpAny_Call_Name_kw (Hw I hg hm ?_ hdb)
 refine PySem.W.callWith_K (h₀:=X.base) I.ok.mod.kin hk (thn (ha pos pins s σ H _ I h) fun us s1 ⟨vs,H1,I1,r,q⟩=>⟨I1.kIn,?_⟩) he hpl
 exact Va F hr hb hd hx I1 r q
structure Mk (K:PySem.W.Frag) (C f:Addr):Prop where
 makes:PySem.W.makesIn K C=true
 init:PySem.W.findIn K (.ref C) "__init__" = some (some (.ref f))
 fn:PySem.W.isFn K (.ref f)=true
 kp:PySem.W.keepIn K (.ref C)=true
end
section
variable {X:Cx} {CX:CXT} {k:Nat} {f C:Addr} {fd:FuncData} {ps ks:List Str} {sp:Sp} {E:XK} {x m:Str} {p pos apos kpos:Pos} {e o:Expr} {es:List Expr} {kws:List Keyword} {te ta:TE} {t tk:TA} {nm:Option Str}
structure KBinds (K:PySem.W.Frag) (fd:FuncData) (ps ks:List Str) (g:List Value→List Value→List Value) (gV:List V→List V→List V):Prop where
 to:∀ (s:Shared) (us ws:List Value),K.In s.heap→(g us ws).length=ps.length→BindsTo s fd ⟨us,ks.zip ws⟩ (ps.zip (g us ws))
 rel:∀ {vs:List V} {us:List Value} {zs:List V} {ws:List Value},Vals vs us→Vals zs ws→Vals (gV vs zs) (g us ws)
variable {g:List Value→List Value→List Value} {gV:List V→List V→List V}
end
structure FnScope (N P:List Str) (sc:Scope):Prop where
 kind:sc.kind = .function
 co:sc.isCoroutine=false
 gen:sc.isGenerator=false
 nd:N.Nodup
 pre:N.take P.length=P
 par:∀ x ∈ P,sc.names.lookup x=some .local∨sc.names.lookup x=some .cell
 nofree:∀ y ∈ sc.names,y.2 ≠ .free
theorem zx {kindOf:Str→Option NameKind}:∀ {binds:List (Str × Value)} {m:Str→Option Value},(∀ v,(x,v) ∉ binds)→bindL kindOf binds m x=m x
 | [],_,_=>rfl
 | (n,v) :: r,m,h=>by
  unfold bindL
  rw [zx fun w hw=>h w (aH _ hw)]
  split
  ·have:x ≠ n:=by rintro rfl;exact h v aJ
   simp [this]
  ·rfl
theorem zy {kindOf:Str→Option NameKind}:∀ {binds:List (Str × Value)} {m:Str→Option Value},(∀ v,(x,v) ∉ binds)→bindC kindOf binds m x=m x
 | [],_,_=>rfl
 | (n,v) :: r,m,h=>by
  unfold bindC
  rw [zy fun w hw=>h w (aH _ hw)]
  split
  ·rfl
  ·have:x ≠ n:=by rintro rfl;exact h v aJ
   simp [this]
theorem zA {kindOf:Str→Option NameKind} {v:Value}:∀ {P:List Str} {vs:List Value} {i:Nat} {m:Str→Option Value},P.Nodup→P[i]? = some x→vs[i]? = some v→kindOf x=some .local →
 bindL kindOf (P.zip vs) m x=some v
 | [],_,_,_,_,h,_,_=>by simp at h
 | _ :: _,[],_,_,_,_,h,_=>by simp at h
 | p :: P,w :: vs,0,m,nd,h1,h2,hk=>by
  simp at h1 h2;subst h1;subst h2
  show bindL kindOf ((p,w) :: P.zip vs) m p=_
  unfold bindL
  rw [zx fun v hv=>(dJ.mp nd).1 (qJ hv).1,if_pos hk]
  simp
 | p :: P,w :: vs,i + 1,m,nd,h1,h2,hk=>by
  show bindL kindOf ((p,w) :: P.zip vs) m x=_
  unfold bindL
  exact zA (i:=i) (dJ.mp nd).2 (by simpa using h1) (by simpa using h2) hk
theorem zB {kindOf:Str→Option NameKind} {v:Value}:∀ {P:List Str} {vs:List Value} {i:Nat} {m:Str→Option Value},P.Nodup→P[i]? = some x→vs[i]? = some v→kindOf x ≠ some .local →
 bindC kindOf (P.zip vs) m x=some v
 | [],_,_,_,_,h,_,_=>by simp at h
 | _ :: _,[],_,_,_,_,h,_=>by simp at h
 | p :: P,w :: vs,0,m,nd,h1,h2,hk=>by
  simp at h1 h2;subst h1;subst h2
  show bindC kindOf ((p,w) :: P.zip vs) m p=_
  unfold bindC
  rw [zy fun v hv=>(dJ.mp nd).1 (qJ hv).1,if_neg hk]
  simp
 | p :: P,w :: vs,i + 1,m,nd,h1,h2,hk=>by
  show bindC kindOf ((p,w) :: P.zip vs) m x=_
  unfold bindC
  exact zB (i:=i) (dJ.mp nd).2 (by simpa using h1) (by simpa using h2) hk
def start (N:List Str) (vs:List V):St:=vs.map some++aG (N.length - vs.length) none
def Dh (CX:CXT) (P:Program) (w:World) (K:PySem.W.Frag) (mg:Str→Option Value) (base:Heap) (N:List Str) (qual:Str) (scope:Scope) (f:Addr) (cd:Value) (A:Around) (outer:List Env) (s:Shared) (H:Hp) (E:XK):Cx where
 prog:=P
 w:=w
 K:=K
 mg:=mg
 base:=base
 A:=A.deeper (envOfC qual scope s.heap.objs.size f cd)
 N:=N
 s₀:=s
 H₀:=H
 env:=envOfC qual scope s.heap.objs.size f cd
 outer:=outer
 stack:=envOfC qual scope s.heap.objs.size f cd :: outer
 ex:=[]
 calm:=true
 fn:=fun _=>true
 pn:=[]
 xe:=fun e s'=>wpAny (model P w) (A.deeper (envOfC qual scope s.heap.objs.size f cd)) (leaving (envOfC qual scope s.heap.objs.size f cd) e) (fun _ s''=>CX outer H s E e s'') (fun e' s''=>CX outer H s E e' s'') s'
theorem Di {sc:Scope} (h:sc.names.lookup x=some .cell):∃ c,(cellsFrom n sc.names []).lookup x=some c:=by
 have q:=PySem.W.cellsFrom_some sc.names n [] (.inl h)
 exact kj.mp q
theorem JT {CX:CXT} {qual:Str} {scope:Scope} {outer:List Env} {s1:Shared} {E:XK}
 (S:FnScope N ps scope) (hd:A.handled=none) (e0:Env0 P w K mg base A outer s H) (hl:vs.length=ps.length) (r:Vals vs us)
 (x:InCallC s s.heap.objs.size (bindL (envOfC qual scope s.heap.objs.size f cd).kindOf (ps.zip us) fun _=>none) (cellsFrom (s.heap.objs.size + 1) scope.names []) (bindC (envOfC qual scope s.heap.objs.size f cd).kindOf (ps.zip us) fun _=>none) s1) :
 Inv (Dh CX P w K mg base N qual scope f cd A outer s H E) [] (start N vs) H s1:=by
 have hpl:ps.length ≤ N.length:=by have:=congrArg lB S.pre;rw [bG] at this;omega
 obtain ⟨h1,tk,rfl,hk⟩:=x.done
 have noA:∀ b:Addr,b ∉ (Dh CX P w K mg base N qual scope f cd A outer s H E).ex:=fun b z=>absurd (show b ∈ ([]:List Addr) from z) (by simp)
 refine ⟨⟨e0.mod,S.kind,rfl,rfl,aL _,fun y z c h1 h2=>?_,fun y hy=>?_,fun y c _ h=>?_,fun _=>hd,Around.frames_deeper e0.frames,.inr ⟨rfl,rfl⟩,fun b z=>absurd z (noA b),e0.bs,e0.bsz,fun b _ _=>noA b,fun b z=>absurd z (noA b),e0.funs,e0.frf⟩,
  rfl,e0.bare,Un.kept hk,⟨_,x.toInCall.ns,fun i y v h1 h2 h3=>?_⟩,fun y c h=>⟨_,x.cell y c h⟩,e0.hok.fresh (aL _),fun y c h=>?_,fun p hp=>absurd (show p ∈ ([]:List (Addr × Obj)) from hp) (by simp),e0.hok.kept hk,?_⟩
 ·exact name_of_addr x.apart (PySem.mem_of_lookup h1) (PySem.mem_of_lookup h2)
 ·have hy:scope.names.lookup y=some .cell∨scope.names.lookup y=some .free:=hy
  rcases hy with hy | hy
  ·exact Di hy
  ·exact absurd rfl (S.nofree _ (PySem.mem_of_lookup hy))
 ·exact dj (x.above y c (PySem.mem_of_lookup h))
 ·have hi:i < vs.length:=by
   unfold start at h2
   by_cases hi:i < vs.length
   ·exact hi
   ·rw [cD (by simpa using hi)] at h2
    rw [eF] at h2
    split at h2 <;> cases h2
  have ha:vs[i]? = some v:=by
   unfold start at h2
   rw [cQ (by simpa using hi),aR] at h2
   cases e:vs[i]? with
   | none=>rw [e] at h2;cases h2
   | some a=>rw [e] at h2;cases h2;rfl
  obtain ⟨u,hu,rv⟩:=r.get ha
  have hp:ps[i]? = some y:=by
   rw [← S.pre,o_ (by omega)];exact h1
  have ndP:ps.Nodup:=by rw [← S.pre];exact S.nd.sublist (List.take_sublist _ _)
  refine ⟨u,rv,?_⟩
  rcases S.par y (jP hp) with k | k
  ·exact .inl ⟨k,zA ndP hp hu k⟩
  ·obtain ⟨c,e⟩:=Di (n:=s.heap.objs.size + 1) k
   refine .inr ⟨.inl k,c,e,?_⟩
   have q:=x.cell y c e
   rw [zB ndP hp hu (by show scope.names.lookup y ≠ _;rw [k];decide)] at q
   exact q
 ·exact e0.hok.fresh (dj (x.above y c (PySem.mem_of_lookup h)))
 ·unfold start
  show _=N.length
  rw [aW,aC,bD]
  omega
theorem T4 {CX:CXT} {k:Nat} {name qual:Str} {params:Arguments} {body:List Stmt} {scope:Scope} {dV kV doc cdv:Value}
 {osl:Array (Option Value)} {sp:Sp} (lk:K.lookup f=some ⟨oc,od,.func (PySem.W.fnOf name qual params body scope dV kV doc pm an cdv ct),osl⟩) (hcd:PySem.W.codeIn K cdv qual=true) (S:FnScope N ps scope)
 (len:∀ vs H Q E,sp vs H Q E→vs.length=ps.length)
 (hbody:∀ (A:Around) (outer:List Env) (s:Shared) (H:Hp) (vs:List V) (Q:VK) (E:XK),Room k (A.deeper (envOfC qual scope s.heap.objs.size f cdv))→sp vs H Q E →
  ∃ t,PSs (Dh CX P w K mg base N qual scope f cdv A outer s H E) body t∧t { nx:=fun _ H'=>Q .non H',rt:=Q } (start N vs) H) :
 FnOk P w K mg base CX (k + 1) f (PySem.W.fnOf name qual params body scope dV kV doc pm an cdv ct) ps sp:=by
 refine ⟨len,fun A outer s H args us vs Q E hr e0 hb r hsp=>?_⟩
 have hl:=len _ _ _ _ hsp
 have KX:K.In s.heap:=e0.mod.kin.keeps fun b o e=>(e0.bs b o e).1
 have lim:s.heap.NoLimit:=e0.mod.nolimit.keeps fun b o e=>(e0.bs b o e).1
 have hkind:∀ y ∈ ps.zip us,scope.names.lookup y.1=some .local∨(scope.names.lookup y.1=some .cell∧((cellsFrom (s.heap.objs.size + 1) scope.names []).lookup y.1).isSome=true):=fun ⟨n,v⟩ hy=>by
  rcases S.par n (qJ hy).1 with q | q
  ·exact .inl q
  ·exact .inr ⟨q,PySem.W.cellsFrom_some _ _ _ (.inl q)⟩
 refine codeAny_call_function hr.depth (KX _ _ lk) rfl S.co S.gen rfl (PySem.W.codeRec_of KX hcd) (hb _ _ _ _ ?_)
 refine wpAny_newFunctionEnv_cells S.kind hkind fun env he s1 x=>?_
 subst he
 refine ⟨lim.keeps x.toInCall.keep,codeAny_func ?_⟩
 obtain ⟨t,ht,hq⟩:=hbody A outer s H vs Q E (hr.deeper _) hsp
 have I:Inv (Dh CX P w K mg base N qual scope f cdv A outer s H E) [] (start N vs) H s1:=JT S hr.hd e0 hl r x
 refine wpAny_mono (ht [] s1 (start N vs) H _ I hq) (fun fl s' hs=>?_) fun e s' hs=>hs
 have fin:∀ {σ':St} {H':Hp} {v:V} {u:Value},Inv (Dh CX P w K mg base N qual scope f cdv A outer s H E) [] σ' H' s'→RelV v u→Q v H'→CE outer P w H s Q u s' :=
  fun {σ' H' v u} J rv q=>⟨v,H',J.os,J.bare,J.base,J.hok,rv,q⟩
 cases fl with
 | ret u =>
  obtain ⟨v,σ',H',J,rv,q⟩:=hs
  exact fin J rv q
 | next =>
  obtain ⟨σ',H',J,q⟩:=hs
  exact fin (v:=V.non) (u:=Value.none) J rfl q
 | brk =>
  obtain ⟨_,_,_,q⟩:=hs
  exact False.elim q
 | cont =>
  obtain ⟨_,_,_,q⟩:=hs
  exact False.elim q
end L2
namespace L2
open PySem PySem.Spec PyProof.Rows
section
variable {X:Cx} {x:Str} {p pos:Pos} {e:Expr} {es:List Expr} {t:TA} {id T:String} {r:List V→Hp→VK→Prop}
def tCB (r:List V→Hp→VK→Prop) (t:TA):TE:=fun σ H Q=>t σ H fun vs H1=>r vs H1 Q
theorem oA (hc:lQ X (.builtin id) r) (hg:Gl X x) (hm:X.mg x=none) (hv:bootBuiltins x=some (.builtin id)) (ha:PA X (e :: es) t) (hn:x ≠ "__name__" := by decide) (hdb:(x == ("__debug__" : Str))=false:=by decide)
 (he:starEach (e :: es) X.env=(false,eval e X.env) :: starEach es X.env:=by rfl) (hpl:(backTo pos (starEach es X.env)).any (·.1)=false:=by rfl):PE X (.Call (.Name x p) (e :: es) [] pos) (tCB r t):=by
 intro pins s σ H Q I h
 refine wpAny_Call_Name_kw (ou I hg hm hv ?_ hn hdb)
 exact PyProof.Rows.callWith_builtin1 (thn (ha pos pins s σ H _ I h) fun us s1 ⟨vs,H1,I1,r1,q1⟩=>hc pins s1 σ H1 vs us Q I1 r1 q1) he hpl
theorem nU (hc:lQ X (.type T) r) (hg:Gl X x) (hm:X.mg x=none) (hv:bootBuiltins x=some (.type T)) (ha:PA X (e :: es) t) (hn:x ≠ "__name__" := by decide) (hdb:(x == ("__debug__" : Str))=false:=by decide)
 (he:starEach (e :: es) X.env=(false,eval e X.env) :: starEach es X.env:=by rfl) (hpl:(backTo pos (starEach es X.env)).any (·.1)=false:=by rfl):PE X (.Call (.Name x p) (e :: es) [] pos) (tCB r t):=by
 intro pins s σ H Q I h
 refine wpAny_Call_Name_kw (ou I hg hm hv ?_ hn hdb)
 exact PyProof.Rows.callWith_type1 (thn (ha pos pins s σ H _ I h) fun us s1 ⟨vs,H1,I1,r1,q1⟩=>hc pins s1 σ H1 vs us Q I1 r1 q1) he hpl
end
end L2
variable {vl vu:Value} {lo hi:Option Int}
namespace HT
open PySem PyProof.Rows
section
open PySem.SeqAt
open PySem.AutoSeq1 (wpAny_loadPart')
open PySem.MeetsSeq PySem.MeetsSeq2 PySem.MeetsSeq3
end
section
variable {prog:Program} {w:World} {A:Around} {E:Value→Shared→Prop} {s:Shared}
def sIx (n d:Nat):Option Int→Nat
 | none=>d
 | some v=>if v < 0 then (v + (n:Int)).toNat else min v.toNat n
theorem Vb (n d:Nat) (hd:d ≤ n) (o:Option Int):sIx n d o ≤ n:=by
 cases o with
 | none=>exact hd
 | some v =>
  show (if v < 0 then (v + (n:Int)).toNat else min v.toNat n) ≤ n
  by_cases hv:v < 0
  ·rw [if_pos hv];omega
  ·rw [if_neg hv];exact Nat.min_le_right _ _
theorem Hz (v:Int) (n d:Nat):(if v < 0 then max (v + (n:Int)) 0 else min v (n:Int))=((sIx n d (some v):Nat):Int):=by
 show (if v < 0 then max (v + (n:Int)) 0 else min v (n:Int))=(((if v < 0 then (v + (n:Int)).toNat else min v.toNat n):Nat):Int)
 by_cases hv:v < 0
 ·simp only [if_pos hv];omega
 ·simp only [if_neg hv];omega
theorem Gj (lo hi:Option Int) (n:Nat):Builtin.Slice.sliceAdjust lo hi 1 (n:Int)=(((sIx n 0 lo:Nat):Int),((sIx n n hi:Nat):Int)):=by
 have h1:¬ ((1:Int) < 0):=by omega
 unfold Builtin.Slice.sliceAdjust
 simp only [h1,if_false]
 refine Prod.ext ?_ ?_
 ·cases lo with
  | none=>rfl
  | some v=>exact Hz v n 0
 ·cases hi with
  | none=>rfl
  | some v=>exact Hz v n n
theorem Gk (i j:Nat):Builtin.Slice.slicePlaces (i:Int) (j:Int) 1=j - i:=by
 unfold Builtin.Slice.slicePlaces
 have h1:(1:Int) > 0:=by omega
 simp only [h1,if_true,Int.ediv_one]
 split <;> omega
theorem wU {v:Value} {o:Option Int} {Q:Option Int→Shared→Prop} (p:IsPart v o) (h:Q o s):wpAny (model prog w) A (Builtin.Slice.slicePartIndex v) Q E s:=by
 cases p with
 | none=>exact slicePart_none h
 | int i t=>exact slicePart_int h
theorem pK {sl:Addr} {Q:Int × Int × Nat→Shared→Prop} (hs:s.heap.IsSliceOf sl vl vu .none) (pl:IsPart vl lo) (pu:IsPart vu hi)
 (h:Q (((sIx n 0 lo:Nat):Int),1,sIx n n hi - sIx n 0 lo) s):wpAny (model prog w) A (Builtin.Slice.sliceApplied (.ref sl) (pure (n:Int))) Q E s:=by
 obtain ⟨os,hos,hcs,hds⟩:=id hs
 unfold Builtin.Slice.sliceApplied Builtin.Slice.sliceFields
 refine wpAny_bind (wpAny_bind (wpAny_field hos hds (x:=vl) rfl (wpAny_bind (wpAny_field hos hds (x:=vu) rfl (wpAny_bind (wpAny_field hos hds (x:=.none) rfl (wpAny_pure ?_)))))))
 refine wpAny_bind (slicePart_none ?_)
 show wpAny _ _ (if ((1:Int) == 0)=true then _ else _) _ _ s
 rw [if_neg (by decide)]
 refine wpAny_bind (wU pl (wpAny_bind (wU pu (wpAny_bind (wpAny_pure ?_)))))
 show wpAny _ _ (match Builtin.Slice.sliceAdjust lo hi 1 (n:Int) with | (lo,hi)=>pure (lo,(1:Int),Builtin.Slice.slicePlaces lo hi 1)) _ _ s
 rw [Gj lo hi n]
 show wpAny _ _ (pure (((sIx n 0 lo:Nat):Int),(1:Int),Builtin.Slice.slicePlaces ((sIx n 0 lo:Nat):Int) ((sIx n n hi:Nat):Int) 1)) _ _ s
 rw [Gk]
 exact wpAny_pure h
theorem Lh (xs:Array Value) (i k:Nat):((aX k).filterMap fun (m:Nat)=>xs[((i:Int) + (m:Int) * 1).toNat]?).toArray=((xs.toList.drop i).take k).toArray:=by
 have e:(fun (m:Nat)=>xs[((i:Int) + (m:Int) * 1).toNat]?)=fun m=>xs[i + m]?:=by
  funext m
  have:((i:Int) + (m:Int) * 1).toNat=i + m:=by omega
  rw [this]
 rw [e]
 have:=pick_run xs i k
 rw [List.filterMap_map] at this
 have e2:((fun x=>xs[x]?) ∘ fun x=>i + x)=fun m=>xs[i + m]?:=rfl
 rw [e2] at this
 rw [this]
theorem ug {t sl:Addr} {items:Array Value} (ht:IsTup s.heap t items) (hs:s.heap.IsSliceOf sl vl vu .none) (pl:IsPart vl lo) (pu:IsPart vu hi)
 (hw:¬ (sIx items.size 0 lo=0∧sIx items.size items.size hi=items.size))
 (h:Q (.ref s.heap.objs.size) { s with heap:=s.heap.push { cls:=.type "tuple", data:=.seq ((items.toList.drop (sIx items.size 0 lo)).take (sIx items.size items.size hi - sIx items.size 0 lo)).toArray } })
 (hsz:items.size ≤ sizeLine):wpAny (model prog w) A (getItem (.ref t) (.ref sl)) Q E s:=by
 have htake:sizeOk (.seq ((items.toList.drop (sIx items.size 0 lo)).take (sIx items.size items.size hi - sIx items.size 0 lo)).toArray):=by
  show ((items.toList.drop (sIx items.size 0 lo)).take (sIx items.size items.size hi - sIx items.size 0 lo)).toArray.size ≤ sizeLine
  rw [aU,bG,cN,cj]
  omega
 have hj:sIx items.size items.size hi ≤ items.size:=Vb _ _ (aL _) hi
 obtain ⟨os,hos,hcs,hds⟩:=id hs
 have hTs:s.TypeIs (.ref sl) "slice" := ⟨os,hos,hcs⟩
 unfold getItem
 try with_reducible refine wpAny_holding ?_
 first | refine wpAny_bind (wpAny_pure ?_) | skip
 refine wpAny_bind (wpAny_sequenceKey ht.typeIs (by decide) ?_)
 refine wpAny_bind (wpAny_callSpecial?_slot (name:=Str.ofString "__getitem__") ht.typeIs PyProof.Rows.slot_tuple_getitem
  (wpAny_call_entry PyProof.Rows.slot_tuple_getitem ht.typeIs entry_tuple_getitem ?_ (args_tuple_getitem _ _)))
 show wpAny _ _ (Builtin.Tuple.tupleItemsOf (.ref t) >>= _) _ _ s
 refine wpAny_bind (tupleItemsOf_ ht ?_)
 refine wpAny_bind (wpAny_typeOf hTs ?_)
 rw [if_pos (by decide)]
 refine wpAny_bind (pK hs pl pu ?_)
 have hno:¬ ((((sIx items.size 0 lo:Nat):Int) == 0 && (1:Int) == 1 && (sIx items.size items.size hi - sIx items.size 0 lo) == items.size)=true):=by
  intro q
  rw [aY,aY] at q
  have q1:((sIx items.size 0 lo:Nat):Int)=0:=eq_of_beq q.1.1
  have q2:sIx items.size items.size hi - sIx items.size 0 lo=items.size:=eq_of_beq q.2
  exact hw ⟨by omega,by omega⟩
 show wpAny _ _ (if (((sIx items.size 0 lo:Nat):Int) == 0 && (1:Int) == 1 && (sIx items.size items.size hi - sIx items.size 0 lo) == items.size)=true then _ else _) _ _ s
 rw [if_neg hno,Lh]
 first
  | exact wpAny_bind (m:=Builtin.Tuple.tupleExact _) (wpAny_newObj_type (wpAny_pure ⟨_,rfl,wpAny_pure h⟩) htake)
  | exact wpAny_bind (m:=Builtin.Tuple.tupleExact _) (wpAny_newObj_type (wpAny_bind (wpAny_pure (wpAny_pure ⟨_,rfl,wpAny_pure h⟩))) htake)
  | exact wpAny_bind (wpAny_bind (m:=Builtin.Tuple.tupleExact _) (wpAny_newObj_type (wpAny_pure (wpAny_pure ⟨_,rfl,wpAny_pure h⟩)) htake))
  | exact wpAny_bind (wpAny_bind (m:=Builtin.Tuple.tupleExact _) (wpAny_newObj_type (wpAny_pure ⟨_,rfl,wpAny_pure h⟩) htake))
end
end HT
namespace L2
open PySem PySem.Spec PyProof.Rows
abbrev TO:=St→Hp→(Option Int→Hp→Prop)→Prop
def PO (X:Cx) (e:Option Expr) (t:TO):Prop :=
 ∀ (pins:List (Addr × Obj)) (s:Shared) (σ:St) (H:Hp) (Q:Option Int→Hp→Prop),Inv X pins σ H s→t σ H Q →
  wpAny (model X.prog X.w) X.A (evalPart e X.env) (fun u s'=>∃ o H',Inv X pins σ H' s'∧IsPart u o∧Q o H') X.xe s
def QC:TO:=fun _ H Q=>Q none H
def Xq (t:TE):TO:=fun σ H Q=>t σ H fun x H1=>∃ i,x = .int i∧Q (some i) H1
section
variable {X:Cx} {e:Expr} {te:TE} {lo hi:Option Expr} {tl th:TO} {pos p2:Pos}
theorem QD:PO X none QC:=by
 intro pins s σ H Q I h
 rw [evalPart_none]
 exact wpAny_pure ⟨none,H,I,.none,h⟩
theorem QF (h:PE X e te):PO X (some e) (Xq te):=by
 intro pins s σ H Q I hw
 rw [evalPart_some]
 refine thn (h pins s σ H _ I hw) fun u s1 ⟨x,H1,I1,r1,q1⟩=>?_
 obtain ⟨i,rfl,q⟩:=q1
 obtain ⟨t,rfl⟩:=r1
 exact ⟨some i,H1,I1,.int i t,q⟩
def SlR (X:Cx) (r:V→Option Int→Option Int→Hp→VK→Prop):Prop :=
 ∀ (pins:List (Addr × Obj)) (s:Shared) (σ:St) (H:Hp) (x:V) (v vl vu:Value) (lo hi:Option Int) (sl:Addr) (Q:VK),Inv X pins σ H s→RelV x v→s.heap.IsSliceOf sl vl vu .none→IsPart vl lo→IsPart vu hi→r x lo hi H Q →
  ∃ T id,typeLookup (.type T) "__getitem__" = pure (some (.builtin id))∧s.TypeIs v T∧wpAny (model X.prog X.w) X.A (getItem v (.ref sl)) (EP X pins σ Q) X.xe s
theorem SlR.or {r r':V→Option Int→Option Int→Hp→VK→Prop} (h:SlR X r) (h':SlR X r'):SlR X (fun x lo hi H Q=>r x lo hi H Q∨r' x lo hi H Q):=by
 intro pins s σ H x v vl vu lo hi sl Q I rx hs pl pu q
 rcases q with q | q
 ·exact h pins s σ H x v vl vu lo hi sl Q I rx hs pl pu q
 ·exact h' pins s σ H x v vl vu lo hi sl Q I rx hs pl pu q
def tSl (r:V→Option Int→Option Int→Hp→VK→Prop) (te:TE) (tl th:TO):TE:=fun σ H Q=>te σ H fun x H1=>tl σ H1 fun l H2=>th σ H2 fun u H3=>r x l u H3 Q
theorem Dj {r:V→Option Int→Option Int→Hp→VK→Prop} (hr:SlR X r) (he:PE X e te) (hl:PO X lo tl) (hu:PO X hi th):PE X (.Subscript e (.Slice lo hi none p2) pos) (tSl r te tl th):=by
 intro pins s σ H Q I h
 refine Subscript_ (thn (he pins s σ H _ I h) fun v s1 ⟨x,H1,I1,r1,q1⟩=>?_)
 refine wpAny_Slice (thn (hl pins s1 σ H1 _ I1 q1) fun vl s2 ⟨l,H2,I2,pl,q2⟩=>thn (hu pins s2 σ H2 _ I2 q2) fun vu s3 ⟨u,H3,I3,pu,q3⟩=>?_)
 rw [evalPart_none]
 refine wpAny_pure ?_
 have I4:Inv X pins σ H3 { s3 with heap:=s3.heap.push { cls:=.type "slice", data:=.fields #[vl,vu,.none] } }:=I3.kept (t':=s3.toks) fun b ob q=>Heap.get?_push_of_some _ q
 obtain ⟨T,id,hT,ht,hg⟩:=hr pins { s3 with heap:=s3.heap.push { cls:=.type "slice", data:=.fields #[vl,vu,.none] } } σ H3 x v vl vu l u s3.heap.objs.size Q I4 r1 (Heap.IsSliceOf.new ..) pl pu q3
 show wpAny (model X.prog X.w) X.A (subscriptTail e (.Slice lo hi none p2) v (.ref s3.heap.objs.size)) (EP X pins σ Q) X.xe { s3 with heap:=s3.heap.push { cls:=.type "slice", data:=.fields #[vl,vu,.none] } }
 exact tail_any (ops:=[.ref s3.heap.objs.size,v]) ht hT hg (by with_unfolding_all rfl)
def Dk (xs:List V) (lo hi:Option Int):List V:=(xs.drop (HT.sIx xs.length 0 lo)).take (HT.sIx xs.length xs.length hi - HT.sIx xs.length 0 lo)
theorem vC (xs:List V) (lo hi:Option Int):(Dk xs lo hi).length ≤ xs.length:=by
 unfold Dk
 rw [bG,cN]
 omega
def ZF (K:PySem.W.Frag):V→Option Int→Option Int→Hp→VK→Prop:=fun x lo hi H Q=>∃ a xs,x = .ref a∧SqT K H a xs ∧
 ¬ (HT.sIx xs.length 0 lo=0∧HT.sIx xs.length xs.length hi=xs.length)∧∀ p,H p=none→Q (.ref p) (upd H p (.tup (Dk xs lo hi)))
theorem Vc:SlR X (ZF X.K):=by
 intro pins s σ H x v vl vu lo hi sl Q I rx hs pl pu h
 obtain ⟨a,xs,rfl,hx,hw,q⟩:=h
 cases rx
 obtain ⟨its,r,ht,hz⟩:=I.tuple hx
 have hlen:its.toArray.size=xs.length:=by rw [aU];exact r.length.symm
 refine ⟨"tuple", _,PyProof.Rows.slot_tuple_getitem.lookup,ht.typeIs,?_⟩
 refine HT.ug ht hs pl pu (by rw [hlen];exact hw) ?_ (by rw [hlen];exact hz)
 rw [hlen]
 refine ⟨.ref s.heap.objs.size,_,I.laid (t':=s.toks) (o:=.tup (Dk xs lo hi)) (fun b ob q=>Heap.get?_push_of_some _ q) (aL _) ?_,rfl,q _ (I.hok.fresh (aL _))⟩
 exact ⟨bh (vC xs lo hi) hz,_,(r.drop (HT.sIx xs.length 0 lo)).take (HT.sIx xs.length xs.length hi - HT.sIx xs.length 0 lo),IsTup.new _ _⟩
end
end L2
variable {r r':L2.R2} {xs:List L2.V}
namespace L2
open PySem PySem.Spec PyProof.Rows
def ixN (n:Nat) (i:Int):Option Nat:=if 0 ≤ i then (if i < n then some i.toNat else none) else if -(n:Int) ≤ i then some (i + n).toNat else none
def atI {α:Type} (xs:List α) (i:Int):Option α:=(ixN xs.length i).bind fun j=>xs[j]?
theorem HB {i:Int} {j:Nat} (h:ixN n i=some j):seqIndex? i n=some j∧j < n∧-(n:Int) ≤ i∧i < n:=by
 unfold ixN at h
 by_cases h0:0 ≤ i
 ·rw [if_pos h0] at h
  by_cases h1:i < n
  ·rw [if_pos h1] at h
   have e:i.toNat=j:=cJ.inj h
   exact ⟨by rw [seqIndex_of h0 h1,e],by omega,by omega,h1⟩
  ·rw [if_neg h1] at h;cases h
 ·rw [if_neg h0] at h
  by_cases h1 : -(n:Int) ≤ i
  ·rw [if_pos h1] at h
   have e:(i + n).toNat=j:=cJ.inj h
   exact ⟨by rw [seqIndex_neg (by omega) h1,e],by omega,h1,by omega⟩
  ·rw [if_neg h1] at h;cases h
theorem v9 {α:Type} {xs:List α} {i:Int} {v:α} (h:atI xs i=some v):∃ j,seqIndex? i xs.length=some j∧xs[j]? = some v∧j < xs.length∧-(xs.length:Int) ≤ i∧i < xs.length:=by
 unfold atI at h
 cases e:ixN xs.length i with
 | none=>rw [e] at h;cases h
 | some j =>
  rw [e] at h
  obtain ⟨h1,h2,h3,h4⟩:=HB e
  exact ⟨j,h1,h,h2,h3,h4⟩
def Am (b:Expr):Prop:=∀ o i,subscripted b false o i=operate [o,i] (getItem o i)
def IxR (X:Cx) (r:R2):Prop :=
 ∀ (value slice:Expr) (pins:List (Addr × Obj)) (s:Shared) (σ:St) (H:Hp) (x y:V) (v u:Value) (Q:VK),Inv X pins σ H s→RelV x v→RelV y u→r x y H Q →
  subscripted slice false v u=operate [v,u] (getItem v u)→wpAny (model X.prog X.w) X.A (subscriptTail value slice v u) (EP X pins σ Q) X.xe s
def MtR (X:Cx) (id:String) (r:V→List V→Hp→VK→Prop):Prop :=
 ∀ (pins:List (Addr × Obj)) (s:Shared) (σ:St) (H:Hp) (x:V) (xs:List V) (v:Value) (us:List Value) (Q:VK),Inv X pins σ H s→RelV x v→Vals xs us→r x xs H Q →
  wpAny (model X.prog X.w) X.A (call (.builtin id) (v :: us)) (EP X pins σ Q) X.xe s
section
variable {X:Cx} {a b:Expr} {ta tb:TE} {pos:Pos}
theorem IxR.or (h:IxR X r) (h':IxR X r'):IxR X (fun x y H Q=>r x y H Q∨r' x y H Q):=by
 intro value slice pins s σ H x y v u Q I rx ry q hs
 rcases q with q | q
 ·exact h value slice pins s σ H x y v u Q I rx ry q hs
 ·exact h' value slice pins s σ H x y v u Q I rx ry q hs
theorem Xr (hr:IxR X r) (ha:PE X a ta) (hb:PE X b tb) (hs:Am b):PE X (.Subscript a b pos) (tOp r ta tb):=by
 intro pins s σ H Q I h
 exact Subscript_ (U6 ha hb I h fun v u s2 x y H2 I2 rx ry q=>hr a b pins s2 σ H2 x y v u Q I2 rx ry q (hs _ _))
def Xu (K:PySem.W.Frag):R2:=fun x y H Q=>∃ p xs i v,x = .ref p∧y = .int i∧SqL K H p xs∧atI xs i=some v∧Q v H
def Xv (K:PySem.W.Frag):R2:=fun x y H Q=>∃ p xs i v,x = .ref p∧y = .int i∧SqT K H p xs∧atI xs i=some v∧Q v H
def Xw:R2:=fun x y H Q=>∃ z i c,x = .str z∧y = .int i∧z.length ≤ sizeLine∧atI z.cps.toList i=some c∧Q (.str ⟨#[c]⟩) H
theorem QG:IxR X (Xu X.K):=by
 intro value slice pins s σ H x y v u Q I rx ry h hs
 obtain ⟨p,xs,i,z,rfl,rfl,hq,he,q⟩:=h
 cases rx
 obtain ⟨t,rfl⟩:=ry
 obtain ⟨its,r,pl,hz⟩:=I.list hq
 obtain ⟨j,h1,h2,h3,h4,h5⟩:=v9 he
 obtain ⟨w,ew,rw'⟩:=r.get h2
 have hl:=r.length
 have hn:=uO
 have fin:EP X pins σ Q w s:=⟨z,H,I,rw',q⟩
 by_cases h0:0 ≤ i
 ·have hj:i.toNat=j:=by
   rw [seqIndex_of h0 h5] at h1
   exact cJ.inj h1
  exact item_listR pl.isList h0 (by omega) (by rw [hj];simpa using ew) fin hs
 ·have hj:(i + (its.toArray.size:Int)).toNat=j:=by
   rw [seqIndex_neg (by omega) h4] at h1
   rw [aU,← hl]
   exact cJ.inj h1
  exact subscriptTail_builtinR (x:=w) pl.isList.typeIs slot_list_getitem.lookup
   (wpAny_getItem_list_neg (Q:=fun r s'=>r=w∧EP X pins σ Q r s') pl.isList (by omega) (by rw [aU] <;> omega) (by omega) (by rw [hj];simpa using ew) ⟨rfl,fin⟩) hs
theorem Vd:IxR X (Xv X.K):=by
 intro value slice pins s σ H x y v u Q I rx ry h hs
 obtain ⟨p,xs,i,z,rfl,rfl,hq,he,q⟩:=h
 cases rx
 obtain ⟨t,rfl⟩:=ry
 obtain ⟨its,r,pl,hz⟩:=I.tuple hq
 obtain ⟨j,h1,h2,h3,h4,h5⟩:=v9 he
 obtain ⟨w,ew,rw'⟩:=r.get h2
 have hl:=r.length
 have hn:=uO
 have fin:EP X pins σ Q w s:=⟨z,H,I,rw',q⟩
 exact subscriptTail_builtinR (x:=w) pl.typeIs slot_tuple_getitem.lookup
  (getItem_tuple (j:=j) (Q:=fun r s'=>r=w∧EP X pins σ Q r s') pl (by omega) (by omega) (by rw [aU,← hl];exact h1) (by simpa using ew) ⟨rfl,fin⟩) hs
theorem Ve:IxR X Xw:=by
 intro value slice pins s σ H x y v u Q I rx ry h hs
 obtain ⟨z,i,c,rfl,rfl,hz,he,q⟩:=h
 obtain ⟨t,rfl⟩:=rx
 obtain ⟨t',rfl⟩:=ry
 obtain ⟨j,h1,h2,h3,h4,h5⟩:=v9 he
 have hl:z.cps.toList.length=z.length:=by simp [Str.length]
 rw [hl] at h1 h4 h5
 have hn:=uO
 exact tail_any (typeIs_str s z t) slot_str_getitem.lookup (getItem_str (c:=c) (by
  have e1:decide (i < -(2 ^ 63:Int))=false:=dFa (by omega)
  have e2:decide (i ≥ 2 ^ 63)=false:=dFa (by omega)
  rw [e1,e2,Bool.or_false]) (by rw [h1];simpa using h2) ⟨.str ⟨#[c]⟩,H,I.tok _,⟨_,rfl⟩,q⟩) hs
def rIx (K:PySem.W.Frag):R2:=fun x y H Q=>Xu K x y H Q∨Xv K x y H Q∨Xw x y H Q
theorem Vf:IxR X (rIx X.K):=QG.or (Vd.or Ve)
theorem Gm (its:List Value) (n j:Nat) (u:Value):Obj.mapSeq (·.setIfInBounds j u) { cls:=.type "list", data:=.seq its.toArray n } = { cls:=.type "list", data:=.seq (its.set j u).toArray n }:=by
 simp [Obj.mapSeq]
theorem Inv.lst {pins:List (Addr × Obj)} {σ:St} {H:Hp} {s:Shared} {p:Addr} {xs:List V} (I:Inv X pins σ H s) (h:H p=some (.lst xs)) :
 ∃ (its:List Value) (n:Nat),Vals xs its∧s.heap.get? p=some { cls:=.type "list", data:=.seq its.toArray n }∧xs.length ≤ sizeLine:=by
 obtain ⟨z,its,n,r,e⟩:=I.hok p _ h
 exact ⟨its,n,r,e,z⟩
theorem Inv.lstUpd {σ:St} {p:Addr} {ys:List V} {its its':List Value} {n':Nat} {f:Obj→Obj} (I:Inv X pins σ H s) (h:H p=some (.lst xs))
 (ho:s.heap.get? p=some { cls:=.type "list", data:=.seq its.toArray n }) (hf:f { cls:=.type "list", data:=.seq its.toArray n } = { cls:=.type "list", data:=.seq its'.toArray n' }) (r:Vals ys its') (hz:ys.length ≤ sizeLine) (t:Nat) :
 Inv X pins σ (upd H p (.lst ys)) { s with heap:=s.heap.update p f,toks:=t }:=by
 have e:(s.heap.update p f).get? p=some { cls:=.type "list", data:=.seq its'.toArray n' }:=by
  rw [Heap.get?_update_self f ho (by rw [hf] <;> rfl),hf]
 refine I.write (x:=p) (e:=p) (by rw [h];trivial) (.inl rfl) (fun b u hb q=>(Heap.get?_update_other _ _ (Ne.symm hb)).trans q) ⟨_,e⟩ ?_
 exact ⟨hz,its',n',r,e⟩
def Xx:V→V→V→Hp→(Hp→Prop)→Prop:=fun o i v H Q=>∃ p xs k j,o = .ref p∧i = .int k∧H p=some (.lst xs)∧ixN xs.length k=some j∧Q (upd H p (.lst (xs.set j v)))
theorem set_list:Qq X Xx:=by
 intro pins s σ H o i v ov iv u Q I ro ri rv h
 obtain ⟨p,xs,k,j,rfl,rfl,hp,hj,q⟩:=h
 cases ro
 obtain ⟨t,rfl⟩:=ri
 obtain ⟨its,n,r,ho,hz⟩:=I.lst hp
 obtain ⟨h1,h2,h3,h4⟩:=HB hj
 have hl:=r.length
 have hn:=uO
 have I':Inv X pins σ (upd H p (.lst (xs.set j v))) { s with heap:=s.heap.update p (Obj.mapSeq (·.setIfInBounds j u)) } :=
  I.lstUpd hp ho (Gm its n j u) (r.set rv j) (by rw [dD];exact hz) s.toks
 by_cases h0:0 ≤ k
 ·have hk:k.toNat=j:=by
   rw [seqIndex_of h0 h4] at h1
   exact cJ.inj h1
  exact PySem.W.ki_setAt ho h0 (by omega) (by rw [aU,← hl];exact h4) (by rw [hk];exact ⟨_,I',q⟩)
 ·have hk:(k + (its.toArray.size:Int)).toNat=j:=by
   rw [seqIndex_neg (by omega) h3] at h1
   rw [aU,← hl]
   exact cJ.inj h1
  exact PySem.W.ki_setBack ho (by omega) (by rw [aU,← hl];exact h3) (by omega) (by rw [hk];exact ⟨_,I',q⟩)
theorem Ao (lo hi:Option Int) (n:Nat):(sliceBounds lo hi none n).1=((HT.sIx n 0 lo:Nat):Int)∧(sliceBounds lo hi none n).2.1=((HT.sIx n n hi:Nat):Int)∧(sliceBounds lo hi none n).2.2=1:=by
 refine ⟨?_,?_,rfl⟩
 ·cases lo with
  | none=>simp [sliceBounds,HT.sIx]
  | some i =>
   simp only [sliceBounds,HT.sIx,Option.getD_none,show (1:Int) > 0 by decide,if_true]
   by_cases h:i < 0
   ·simp only [h,if_true] <;> omega
   ·simp only [h,if_false] <;> omega
 ·cases hi with
  | none=>simp [sliceBounds,HT.sIx]
  | some i =>
   simp only [sliceBounds,HT.sIx,Option.getD_none,show (1:Int) > 0 by decide,if_true]
   by_cases h:i < 0
   ·simp only [h,if_true] <;> omega
   ·simp only [h,if_false] <;> omega
theorem yM (its:List Value) (lo hi:Option Int):slicePick its.toArray lo hi none=((its.drop (HT.sIx its.length 0 lo)).take (HT.sIx its.length its.length hi - HT.sIx its.length 0 lo)).toArray:=by
 obtain ⟨h1,h2,h3⟩:=Ao lo hi its.toArray.size
 unfold slicePick
 rw [h1,h2,h3]
 simp only [sliceRange_one,pick_run,aU] <;> rfl
def ZG (K:PySem.W.Frag):V→Option Int→Option Int→Hp→VK→Prop:=fun x lo hi H Q=>∃ a xs,x = .ref a∧SqL K H a xs∧∀ p,H p=none→Q (.ref p) (upd H p (.lst (Dk xs lo hi)))
theorem QH:SlR X (ZG X.K):=by
 intro pins s σ H x v vl vu lo hi sl Q I rx hs pl pu h
 obtain ⟨a,xs,rfl,hx,q⟩:=h
 cases rx
 obtain ⟨its,r,ht,hz⟩:=I.list hx
 have hlen:=r.length
 refine ⟨"list", _,slot_list_getitem.lookup,ht.isList.typeIs,?_⟩
 refine wpAny_getItem_list_slice ht.isList hs pl pu .none (by simp) ?_ (by rw [aU] <;> omega)
 rw [yM,← hlen]
 refine ⟨.ref s.heap.objs.size,_,I.laid (t':=s.toks) (o:=.lst (Dk xs lo hi)) (fun b ob q=>Heap.get?_push_of_some _ q) (aL _) ?_,rfl,q _ (I.hok.fresh (aL _))⟩
 exact ⟨bh (vC xs lo hi) hz,_,0,(r.drop (HT.sIx xs.length 0 lo)).take (HT.sIx xs.length xs.length hi - HT.sIx xs.length 0 lo),Heap.get?_push_size _ rfl⟩
theorem cG:lQ X (.builtin "len") (fun xs H Q=>∃ p ys,xs=[.ref p]∧(SqL X.K H p ys∨SqT X.K H p ys)∧Q (.int ys.length) H):=by
 intro pins s σ H xs us Q I r h
 obtain ⟨p,ys,rfl,hq,q⟩:=h
 obtain ⟨u,rfl,rx⟩:=vals1 r
 cases rx
 have hn:=uO
 rcases hq with hq | hq
 ·obtain ⟨its,r',pl,hz⟩:=I.list hq
  have hlen:=r'.length
  exact Calls.call_len_list pl.isList (by simp only [aU] <;> omega) ⟨.int ys.length,H,I.tok _,⟨s.toks + 1,by rw [aU,hlen]⟩,q⟩
 ·obtain ⟨its,r',pl,hz⟩:=I.tuple hq
  have hlen:=r'.length
  exact len_tuple pl (by simp only [aU] <;> omega) ⟨.int ys.length,H,I.tok _,⟨s.toks + 1,by rw [aU,hlen]⟩,q⟩
theorem Aq:lQ X (.type "list") (fun xs H Q=>∃ p ys,xs=[.ref p]∧(SqL X.K H p ys∨SqT X.K H p ys)∧∀ l,H l=none→Q (.ref l) (upd H l (.lst ys))):=by
 intro pins s σ H xs us Q I r h
 obtain ⟨p,ys,rfl,hq,q⟩:=h
 obtain ⟨u,rfl,rx⟩:=vals1 r
 cases rx
 have fin:∀ (its:List Value),Vals ys its→ys.length ≤ sizeLine→∀ (h':Heap) (c':Nat),(∀ b o',s.heap.get? b=some o'→h'.get? b=some o') →
  h'.get? s.heap.objs.size=some { cls:=.type "list", dict:=none,data:=.seq its.toArray c',slots:=#[] }→EP X pins σ Q (.ref s.heap.objs.size) { s with heap:=h' }:=fun its r' hz h' c' kp e =>
  ⟨.ref s.heap.objs.size,_,I.laid (t':=s.toks) kp (aL _) (show fG X.prog X.w _ h' _ (.lst ys) from ⟨hz,its,c',r',e⟩),rfl,q _ (I.hok.fresh (aL _))⟩
 rcases hq with hq | hq
 ·obtain ⟨its,r',pl,hz⟩:=I.list hq
  have hlen:=r'.length
  obtain ⟨o,ho,hc,n,hd⟩:=pl.isList
  exact call_list_seq p (.inl rfl) ho hc hd (fun h' c' kp e=>fin its r' hz h' c' kp e) (by simp only [aU] <;> omega)
 ·obtain ⟨its,r',pl,hz⟩:=I.tuple hq
  have hlen:=r'.length
  obtain ⟨o,ho,hc,n,hd⟩:=pl
  exact call_list_seq p (.inr rfl) ho hc hd (fun h' c' kp e=>fin its r' hz h' c' kp e) (by simp only [aU] <;> omega)
theorem sO:lQ X (.type "tuple") (fun xs H Q=>∃ p ys,xs=[.ref p]∧((SqL X.K H p ys∧∀ l,H l=none→Q (.ref l) (upd H l (.tup ys)))∨(SqT X.K H p ys∧Q (.ref p) H))):=by
 intro pins s σ H xs us Q I r h
 obtain ⟨p,ys,rfl,h⟩:=h
 obtain ⟨u,rfl,rx⟩:=vals1 r
 cases rx
 rcases h with ⟨hq,q⟩ | ⟨hq,q⟩
 ·obtain ⟨its,r',pl,hz⟩:=I.list hq
  have hlen:=r'.length
  refine call_tuple_list pl.isList (fun h' kp=>?_) (by simp only [aU] <;> omega)
  have I1:Inv X pins σ H { s with heap:=h' }:=I.kept (t':=s.toks) kp
  have I2:Inv X pins σ (upd H h'.objs.size (.tup ys)) { s with heap:=h'.push { cls:=.type "tuple", data:=.seq its.toArray } } :=
   I1.laid (t':=s.toks) (fun b o e=>Heap.get?_push_of_some _ e) (aL _) (show fG X.prog X.w _ _ _ (.tup ys) from ⟨hz,its,r',IsTup.new _ _⟩)
  exact ⟨.ref h'.objs.size,_,I2,rfl,q _ (I1.hok.fresh (aL _))⟩
 ·obtain ⟨its,r',pl,hz⟩:=I.tuple hq
  exact call_tuple_same pl ⟨.ref p,H,I,rfl,q⟩
def tyV (K:PySem.W.Frag) (T:String) (x:V) (H:Hp):Prop:=match x with
 | .str _=>T = "str"
 | .int _=>T = "int"
 | .ref p=>(T = "list" ∧ ∃ xs,SqL K H p xs)∨(T = "tuple" ∧ ∃ o,K.lookup p=some o∧o.cls = .type "tuple" ∧ o.dict=none) ∨
  (T = "dict" ∧ ((∃ kvs,H p=some (.dK kvs))∨∃ kvs,H p=some (.dT kvs)))∨(T = "set" ∧ ∃ S n,H p=some (.set S n))
 | _=>False
theorem Vg {σ:St} {T:String} {x:V} {v:Value} (I:Inv X pins σ H s) (r:RelV x v) (ty:tyV X.K T x H) :
 s.TypeIs v T∧∀ a,v = .ref a→∃ ob,s.heap.get? a=some ob∧ob.dict=none:=by
 cases x with
 | str z =>
  obtain ⟨t,rfl⟩:=r
  cases (show T = "str" from ty)
  exact ⟨typeIs_str s z t,fun _ e=>nomatch e⟩
 | int i =>
  obtain ⟨t,rfl⟩:=r
  cases (show T = "int" from ty)
  exact ⟨typeIs_int s i t,fun _ e=>nomatch e⟩
 | ref p =>
  cases r
  rcases ty with ⟨rfl,xs,hq⟩ | ⟨rfl,o,hk,hc,hd⟩ | ⟨rfl,hk⟩ | ⟨rfl,S,n,hk⟩
  ·obtain ⟨its,_,pl,_⟩:=I.list hq
   refine ⟨pl.isList.typeIs,fun a e=>?_⟩
   cases e
   obtain ⟨o,n,e,c,hd,_⟩:=pl
   exact ⟨o,e,hd⟩
  ·refine ⟨⟨o,I.kIn p o hk,hc⟩,fun a e=>?_⟩
   cases e
   exact ⟨o,I.kIn _ o hk,hd⟩
  ·have z:∃ o,s.heap.get? p=some o∧o.ExactDict:=by
    rcases hk with ⟨kvs,hk⟩ | ⟨kvs,hk⟩
    ·obtain ⟨_,_,_,_,o,_,_,e,ex,_⟩:=I.hok p _ hk
     exact ⟨o,e,ex⟩
    ·obtain ⟨_,_,_,_,o,_,_,e,ex,_⟩:=I.hok p _ hk
     exact ⟨o,e,ex⟩
   obtain ⟨o,e,ex⟩:=z
   refine ⟨⟨o,e,ex.1⟩,fun a e2=>?_⟩
   cases e2
   exact ⟨o,e,ex.2.1⟩
  ·obtain ⟨o,_,_,_,e,ex,_⟩:=I.hok p _ hk
   refine ⟨⟨o,e,ex.1⟩,fun a e2=>?_⟩
   cases e2
   exact ⟨o,e,ex.2.1⟩
 | _=>exact False.elim ty
def tBM (K:PySem.W.Frag) (T:String) (r:V→List V→Hp→VK→Prop) (to:TE) (t:TA):TE:=fun σ H Q=>to σ H fun x H1=>tyV K T x H1∧t σ H1 fun xs H2=>r x xs H2 Q
variable {o e:Expr} {es:List Expr} {to:TE} {t:TA} {name:Str} {apos cpos:Pos} {T id:String} {r:V→List V→Hp→VK→Prop}
theorem Xy (pa:PlainAttrs T) (slot:Slot T name id) (hty:typeOf (.builtin id)=pure (.type "method_descriptor")) (hm:MtR X id r) (ho:PE X o to) (ha:PA X (e :: es) t)
 (hbase:attributeBase o name X.env (eval o X.env)=eval o X.env:=by rfl)
 (hfew:((backTo cpos (starEach (e :: es) X.env)).all (fun x=>!x.1) && (backToKw cpos (keywordEach [] X.env)).all (fun x=>x.1.isSome)
  && decide ((e :: es).length + ([]:List Keyword).length + (if ([]:List Keyword).isEmpty then 0 else 1) < 30))=true:=by rfl)
 (hline:(apos.endLine == cpos.line)=true:=by rfl) (hs:starEach (e :: es) X.env=(false,eval e X.env) :: starEach es X.env:=by rfl) (hplain:(backTo cpos (starEach es X.env)).any (·.1)=false:=by rfl) :
 PE X (.Call (.Attribute o name apos) (e :: es) [] cpos) (tBM X.K T r to t):=by
 intro pins s σ H Q I h
 refine wpAny_Call_method_late hbase hfew hline rfl (thn (ho pins s σ H _ I h) fun v s1 ⟨x,H1,I1,r1,ty,q1⟩=>?_)
 obtain ⟨h1,h2⟩:=Vg I1 r1 ty
 refine ⟨T,id,pa,slot,hty,h1,h2,?_⟩
 have hA:=ha cpos pins s1 σ H1 _ I1 q1
 rw [hs] at hA ⊢
 refine Calls.callWith_builtin (by show (false || (backTo cpos (starEach es X.env)).any (·.1))=false;rw [hplain] <;> rfl) (Calls.evalArgs_plain ?_)
 exact thn hA fun us s2 ⟨vs,H2,I2,r2,q2⟩=>hm pins s2 σ H2 x vs v us Q I2 r1 r2 q2
/- xs.append(e),list.index on a module's tuple .. are MtR facts of 06m -/
end
end L2
namespace L2
open PySem PySem.Spec PyProof.Rows
def MtM (X:Cx) (id:String) (r:V→List V→Hp→VK→Prop):Prop :=
 ∀ (pins:List (Addr × Obj)) (s:Shared) (σ:St) (H:Hp) (x:V) (xs:List V) (v:Value) (us:List Value) (Q:VK),Inv X pins σ H s→RelV x v→Vals xs us→r x xs H Q →
  wpAny (model X.prog X.w) X.A (call (.builtin id) (v :: us)) (EP X pins σ Q) X.xe s
theorem Vals.one:∀ {x:V} {us:List Value},Vals [x] us→∃ u,us=[u]∧RelV x u
 | _,_,.cons r .nil=>⟨_,rfl,r⟩
theorem Vals.zero:∀ {us:List Value},Vals [] us→us=[]
 | _,.nil=>rfl
theorem Vals.dropLast (h:Vals xs us):Vals xs.dropLast us.dropLast:=by
 induction h with
 | nil=>exact .nil
 | cons r t ih =>
  cases t with
  | nil=>exact .nil
  | cons q t'=>exact .cons r ih
theorem Vals.eraseIdx:∀ {xs:List V} {us:List Value} (i:Nat),Vals xs us→Vals (xs.eraseIdx i) (us.eraseIdx i)
 | _,_,_,.nil=>.nil
 | _,_,0,.cons _ t=>t
 | _,_,i + 1,.cons r t=>.cons r (Vals.eraseIdx i t)
theorem Vals.reverse (h:Vals xs us):Vals xs.reverse us.reverse:=by
 induction h with
 | nil=>exact .nil
 | cons r t ih=>rw [lH,lH];exact Vals.append ih (.cons r .nil)
theorem Vals.rep (h:Vals xs us):∀ k:Nat,Vals (aG k xs).flatten (aG k us).flatten
 | 0=>.nil
 | k + 1=>by
  rw [bZ,bZ,eO,eO]
  exact Vals.append h (Vals.rep h k)
theorem foldl_rep (its:List Value):∀ (k:Nat) (acc:List Value),
 wM (fun x1 x2=>x1++x2) acc.toArray (aG k its.toArray)=(acc++(aG k its).flatten).toArray
 | 0,acc=>by simp
 | k + 1,acc=>by
  have e:acc.toArray++its.toArray=(acc++its).toArray:=by simp
  have e2:(acc++its)++(aG k its).flatten=acc++(aG (k + 1) its).flatten:=by
   rw [bZ,eO,lJ]
  rw [← e2,← foldl_rep its k (acc++its),← e,bZ,iG]
section
variable {X:Cx} {pins:List (Addr × Obj)} {σ:St} {H:Hp} {s:Shared} {l b:Addr} {xs ys zs:List V}
theorem Inv.lset {its its':List Value} {f:Array Value→Array Value} (I:Inv X pins σ H s) (hH:H l=some (.lst xs))
 (e:s.heap.get? l=some { cls:=.type "list", data:=.seq its.toArray n }) (hf:f its.toArray=its'.toArray) (hv:Vals ys its') (hz:ys.length ≤ sizeLine) :
 Inv X pins σ (upd H l (.lst ys)) { s with heap:=s.heap.update l (Obj.mapSeq f),toks:=t' }:=by
 have q:=PySem.IsL.update e f
 rw [hf] at q
 refine I.write (x:=l) (e:=l) (by rw [hH];exact trivial) (.inl rfl) (fun b' u hb hu=>(Heap.get?_update_other s.heap (Obj.mapSeq f) (Ne.symm hb)).trans hu) ⟨_,q⟩ ?_
 exact ⟨hz,its',_,hv,q⟩
theorem Inv.lnew {its:List Value} (I:Inv X pins σ H s) (hv:Vals ys its) (hz:ys.length ≤ sizeLine) :
 Inv X pins σ (upd H s.heap.objs.size (.lst ys)) { s with heap:=s.heap.push { cls:=.type "list", data:=.seq its.toArray },toks:=t' } :=
 I.laid (fun _ _ q=>Heap.get?_push_of_some _ q) (aL _) ⟨hz,its,0,hv,Heap.get?_push_size _ rfl⟩
theorem Inv.fresh (I:Inv X pins σ H s):H s.heap.objs.size=none:=I.hok.fresh (aL _)
theorem Inv.lstM (I:Inv X pins σ H s) (hH:H l=some (.lst xs)):xs.length ≤ sizeLine∧∃ (its:List Value) (n:Nat),Vals xs its∧xs.length=its.length∧s.heap.get? l=some { cls:=.type "list", data:=.seq its.toArray n }:=by
 obtain ⟨z,its,n,r,e⟩:=I.hok l _ hH
 exact ⟨z,its,n,r,r.length,e⟩
theorem Li (h:n ≤ sizeLine):Builtin.List.listTooLong n=false:=by
 unfold Builtin.List.listTooLong
 exact dFa (by omega)
end
section
variable {X:Cx}
def QJ:V→List V→Hp→VK→Prop:=fun x vs H Q=>∃ l xs y,x = .ref l∧vs=[y]∧H l=some (.lst xs)∧xs.length < sizeLine∧Q .non (upd H l (.lst (xs++[y])))
theorem zE:MtM X "list.append" QJ:=by
 intro pins s σ H x vs v us Q I rx rv h
 obtain ⟨l,xs,y,rfl,rfl,hH,hz,q⟩:=h
 cases rx
 obtain ⟨u,rfl,ru⟩:=rv.one
 obtain ⟨z,its,n,r,hl,e⟩:=I.lstM hH
 refine call_meets F.slot_list_append ⟨_,e,rfl⟩ F.entry_list_append (F.args_list_append_2 _ _) (PySem.list_append l its.toArray n u (by rw [aU];omega)) ⟨e,?_⟩
 refine ⟨.non,_,I.lset (its':=its++[u]) hH e (by simp) (r.append (.cons ru .nil)) ?_,rfl,q⟩
 rw [aW,ig]
 omega
def ZJ:R2:=fun x y H Q=>∃ l k xs,x = .ref l∧y = .int k∧H l=some (.lst xs)∧-(2 ^ 63) ≤ k∧k < 2 ^ 63∧xs.length * k.toNat ≤ sizeLine ∧
 ∀ p,H p=none→Q (.ref p) (upd H p (.lst (aG k.toNat xs).flatten))
theorem len_rep {α:Type} (xs:List α) (k:Nat):(aG k xs).flatten.length=k * xs.length:=by
 induction k with
 | zero=>simp
 | succ k ih=>rw [bZ,eO,aW,ih,Nat.succ_mul,Nat.add_comm]
theorem Vh:OpR X (binaryOp .Mult) ZJ:=by
 intro pins s σ H x y v u Q I rx ry h
 obtain ⟨l,k,xs,rfl,rfl,hH,h1,h2,hz,q⟩:=h
 cases rx
 obtain ⟨t,rfl⟩:=ry
 obtain ⟨z,its,n,r,hl,e⟩:=I.lstM hH
 have hlen:its.toArray.size * k.toNat ≤ sizeLine:=by rw [aU,← hl];exact hz
 have hcap:¬ its.toArray.size * k.toNat > (2 ^ 63 - 1) / 8:=by
  have:(sizeLine:Nat) ≤ (2 ^ 63 - 1) / 8:=by decide
  omega
 have hfit:¬ (!Builtin.List.listFitsIndex k)=true:=by
  rw [fitsIndex_both h1 h2]
  exact cg
 have hlong:¬ Builtin.List.listTooLong (its.toArray.size * k.toNat)=true:=by
  rw [Li hlen]
  exact cg
 have hnew:wM (fun x1 x2=>x1++x2) #[] (aG (if its.toArray.isEmpty=true then 0 else k.toNat) its.toArray)=(aG k.toNat its).flatten.toArray:=by
  have f0:∀ m:Nat,wM (fun x1 x2=>x1++x2) #[] (aG m its.toArray)=(aG m its).flatten.toArray:=fun m=>by
   have:=foldl_rep its m []
   rw [iH] at this
   exact this
  rw [f0]
  cases its with
  | nil=>simp
  | cons a r'=>rw [if_neg (by simp)]
 refine wpAny_binaryOp_repeat_ref (T := "list") (U := "int") (by decide) ⟨_,e,rfl⟩ (fun s'=>typeIs_int s' k t) noFill_list_mul F.fills_int_mul F.slot_int_rmul repeat_list F.slot_int_index.lookup
  (call_meets F.slot_int_rmul (typeIs_int s k t) F.entry_int_rmul (F.args_int_rmul_2 _ _) (int___rmul___int_list k t l its.toArray n)
   ⟨e,rfl,⟨_,e,rfl⟩,call_meets F.slot_list_mul ⟨_,e,rfl⟩ F.entry_list_mul (F.args_list_mul_2 _ _) (AutoListH.list___mul___list_int_3 l its.toArray n k t hfit hcap hlong) ⟨e,?_⟩⟩)
 rw [hnew]
 exact ⟨.ref _,_,I.lnew (t':=s.toks) (r.rep k.toNat) (by rw [len_rep,Nat.mul_comm];exact hz),rfl,q _ I.fresh⟩
end
section
variable {prog:Program} {w:World} {A:Around} {E:Value→Shared→Prop} {s:Shared}
set_option maxRecDepth 100000 in
end
section
variable {X:Cx}
end
end L2
variable {XP:(Str→Option Value)→Heap→Prop} {YP:World→Heap→Prop} {m:Str→Option Value}
namespace Att
open PySem PySem.W PySem.Calls PyProof.Rows
theorem vR {P:Params}:∀ (ns:List Int) (vs:List Value),WellAll P h vs (ns.map WData.int)→IntsAre vs ns:=by
 intro ns
 induction ns with
 | nil =>
  intro vs w
  rw [iI] at w
  cases w
  exact .nil
 | cons n ns ih =>
  intro vs w
  rw [aP] at w
  cases w with
  | cons a b =>
   cases a
   exact .cons _ _ (ih _ b)
theorem JV {l:OpenLaw} (hn:l.most=some n) {P:Params} {h:Heap} {args:List WData} {vals:List Value}
 (hpre:l.row.toRowW.claim.pre args=true) (hwl:WellAll P h vals args) :
 ∃ a vs ns,vals=[Value.ref a]∧args=[WData.list (ns.map WData.int)]∧h.get? a=some { cls:=.type "list", data:=.seq vs.toArray }∧IntsAre vs ns∧ns.length ≤ n:=by
 have hsh:WShape.hasAll [] args [.list .int]=true:=(pre_splitW hpre).1
 have hc:l.pre.holds [] { args:=args }=true:=(pre_splitW hpre).2
 obtain ⟨d,r,rfl,h1,h2⟩:=hasAllW_cons hsh
 obtain rfl:=hasAllW_nil h2
 obtain ⟨xs,rfl,h3⟩:=hasW_list h1
 obtain ⟨ns,rfl⟩:=items_int h3
 have hlen:ns.length ≤ n:=by
  unfold OpenLaw.pre at hc
  have h4:(WTm.not (.lt (.lit (.int (n:Int))) (.len (.arg 0)))).holds [] { args:=[.list (ns.map .int)] }=true:=by
   have h4:=(holds_andW hc).1
   rw [hn] at h4
   exact h4
  have h5:=condW_of h4 (w_not (w_lt w_lit (w_len_list (w_arg rfl))))
  rw [aC] at h5
  refine Nat.le_of_not_lt fun q=>?_
  have q':(n:Int) < ((ns.length:Nat):Int):=by omega
  first
   | (rw [dTr q'] at h5;exact absurd h5 (by decide))
   | (simp at h5;omega)
 cases hwl with
 | cons w1 w2 =>
  cases w2
  cases w1 with
  | list ho hall=>exact ⟨_,_,ns,rfl,rfl,ho,vR ns _ hall,hlen⟩
theorem JW (l:OpenLaw) (args:List WData):l.row.toRowW.claim.post args (.bool true) args=true :=
 postW_of (r:=l.row.toRowW) (X:=(true == true))
  (show WShape.has [] (.bool true) .bool=true by first | rfl | decide | simp [WShape.has,WShape.arms,WShape.armsAll])
  (show (WTm.eq .res (.lit (.bool true))).value [] { args:=args,res:=some (.bool true),after:=args }=some (.bool (true == true)) from w_eq_bool (w_res rfl) w_lit) rfl
theorem Dm {l:OpenLaw} {q:Program} {loose:List Str} {d:DefRec}
 (hn:l.most=some n) (hdf:d.params.defaults=[])
 (call:∀ (w:World) (s₀ s₁:Shared) (mg mb:Str→Option Value) (fa:Addr) (o:Obj) (pm cd doc:Value) (a:Addr) (vs:List Value) (ns:List Int),
  Ground q loose [] XP w s₀ mg mb s₁.heap→YP w s₁.heap →
  s₁.heap.get? fa=some o→o.data = .func (docDef d.name d.params d.body d.scope pm cd doc)→s₁.heap.CodeRec cd d.name→mg d.name=some (.ref fa) →
  s₁.heap.get? a=some { cls:=.type "list", data:=.seq vs.toArray }→IntsAre vs ns→ns.length ≤ n→s₁.gens = #[] →
  codeAny (model l.prog w) callerA (.call (.ref fa) ⟨[.ref a],[]⟩) (fun r s'=>r = .ok (.ret (.bool true))∧OldK s₁.heap s'.heap∧s'.os=s₁.os∧AllBare s'.gens) s₁) :
 WalkO q loose XP YP l.row.toRowW d [] (fun f vs=>PySem.call f vs):=by
 intro w s₀ s₁ mg mb G Y fa o pm cd doc dV kV ho hd hcd hD hmg hg args vals as hpre hlay hrd hwl hlo
 obtain rfl:dV = .none:=Dflts.none hD hdf
 obtain rfl:kV = .none:=Dflts.noKw hD
 obtain ⟨a,vs,ns,rfl,rfl,hobj,hints,hlen⟩:=JV hn hpre hwl
 refine enter_call (codeAny_mono (call w s₀ s₁ mg mb fa o pm cd doc a vs ns G Y ho (fd_plain hd) hcd hmg hobj hints hlen hg) fun r s' hq=>?_)
 obtain ⟨rfl,h2,h3,h4⟩:=hq
 exact ⟨.inl ⟨.bool true,.bool true,[],rfl,fun _=>rfl,.bool true,JW l _,fun _=>⟨List.Pairwise.nil,fun _ hm=>(nomatch hm)⟩⟩,h2,h3,h4⟩
section
variable {prog:Program} {w:World} {A:Around} {E:Value→Shared→Prop} {s:Shared} {K:Frag}
def jg (h:Heap):Heap:={ h with objs:=#[] }
theorem mJ (h:Heap) (b:Addr):(jg h).get? b=none:=by
 cases e:(jg h).get? b with
 | none=>rfl
 | some o=>exact absurd (Heap.lt_size e) (Nat.not_lt_zero _)
theorem Ar {L:Addr} (n:h.Ns L m):Fr (jg h) L h m :=
 ⟨n,fun b o e=>(by rw [mJ] at e;cases e),cY _⟩
end
end Att
variable {CX:L2.CXT} {sp:L2.Sp} {ns:List Int}
namespace L2
open PySem PySem.Spec PyProof.Rows
theorem nW:∀ {vs:List Value} {ns:List Int},IntsAre vs ns→Vals (ns.map V.int) vs
 | _,_,.nil=>.nil
 | _,_,.cons n t h=>.cons ⟨t,rfl⟩ (nW h)
def Only (H:Hp):Prop:=∀ b,H b=none∨∃ o xs,H b=some (.frz o (.lst xs))
def wV (ts:List (Addr × Str × Pos)) (H:Hp):Hp:=fun b=>match ts.find? (fun t=>t.1 == b) with
 | some t=>some (.tbl t.2.1 t.2.2)
 | none=>H b
theorem Lj (ts:List (Addr × Str × Pos)) (H:Hp) (b:Addr):(wV ts H b=H b∧∀ t ∈ ts,t.1 ≠ b)∨∃ t ∈ ts,t.1=b∧wV ts H b=some (.tbl t.2.1 t.2.2):=by
 unfold wV
 cases e:ts.find? (fun t=>t.1 == b) with
 | none=>exact .inl ⟨rfl,fun t ht z=>by have:=sW.mp e t ht;simp [z] at this⟩
 | some t =>
  have h1:=List.mem_of_find?_eq_some e
  have h2:=List.find?_some e
  exact .inr ⟨t,h1,by simpa using h2,rfl⟩
theorem Lk {mb:Str→Option Value} {k:Nat} {fa:Addr} {s₁:Shared} {vs:List Value}
 (KX:K.In s₁.heap) (hns:s₁.heap.Ns mainGlobals mg) (hb:s₁.heap.Ns builtinsNs mb) (hbb:∀ x:Str,x ≠ "__name__" → mb x=bootBuiltins x) (hlim:s₁.heap.NoLimit) (hbm:∃ bm ob,mg "__builtins__" = some (.ref bm)∧bm ≠ builtinsNs∧s₁.heap.get? bm=some ob∧ob.cls = .type "module" ∧ ob.dict=some builtinsNs∧ob.data = .plain) (hg:s₁.gens = #[])
 (ha:s₁.heap.get? a=some { cls:=.type "list", data:=.seq vs.toArray }) (hi:IntsAre vs ns) (hl:ns.length ≤ sizeLine) (hr:Room k callerA)
 (F:∀ base:Heap,K.In base→base.Ns mainGlobals mg→FnOk P w K mg base CX k fa fd [x] sp) (hbind:∀ (s:Shared) (u:Value),BindsTo s fd ⟨[u],[]⟩ [(x,u)])
 (ts:List (Addr × Str × Pos)) (hts:∀ t ∈ ts,s₁.heap.get? t.1=some { cls:=.none,data:=.fields #[] }) (hCT:∀ t ∈ ts,isCodeTable s₁.heap t.1) (hKt:∀ t ∈ ts,K.lookup t.1=none) (htu:∀ t ∈ ts,∀ t' ∈ ts,t.1=t'.1→t=t')
 (hsp:∀ H:Hp,(∀ t ∈ ts,H t.1=some (.tbl t.2.1 t.2.2))→SqL K H a (ns.map V.int)→sp [.ref a] H (fun v _=>v = .bl true) fun _ _ _=>False)
 (hCX:∀ H e s',CX [] H s₁ (fun _ _ _=>False) e s'→False) :
 codeAny (model P w) callerA (.call (.ref fa) ⟨[.ref a],[]⟩) (fun r s'=>r = .ok (.ret (.bool true))∧OldK s₁.heap s'.heap∧s'.os=s₁.os∧AllBare s'.gens) s₁:=by
 have rv:=nW hi
 have lenV:=hi.length
 have core:∀ H:Hp,(∀ b,H b=none∨(∃ o xs,H b=some (.frz o (.lst xs)))∨∃ t ∈ ts,t.1=b∧H b=some (.tbl t.2.1 t.2.2))→(∀ t ∈ ts,H t.1=some (.tbl t.2.1 t.2.2))→SqL K H a (ns.map V.int)→HOk P w H s₁.heap→(∀ b,H b ≠ none→b=a∨∃ t ∈ ts,t.1=b)→(H a ≠ none→K.lookup a=none) →
  codeAny (model P w) callerA (.call (.ref fa) ⟨[.ref a],[]⟩) (fun r s'=>r = .ok (.ret (.bool true))∧OldK s₁.heap s'.heap∧s'.os=s₁.os∧AllBare s'.gens) s₁:=by
  intro H hO hT hS hok hA hK
  have base_of:∀ {b:Addr} {o:Obj},s₁.heap.get? b=some o→H b=none→(Aj s₁.heap H).get? b=some o:=fun e n=>K1 e n
  have noA:∀ {b:Addr} {o:Obj} {es:Array DictEntry} {ep:Nat},s₁.heap.get? b=some o→o.data = .dict es ep→H b=none:=fun {b o es ep} e d=>by
   cases q:H b with
   | none=>rfl
   | some u =>
    rcases hA b (by rw [q];simp) with e' | ⟨t,ht,e'⟩
    case inr =>
     subst e'
     rw [hts t ht] at e;cases e
     have d':Data.fields #[]=Data.dict es ep:=d
     cases d'
    subst e'
    rw [ha] at e;cases e
    have d':Data.seq vs.toArray _=Data.dict es ep:=d
    cases d'
  have nsK:∀ {b:Addr} {m:Str→Option Value},s₁.heap.Ns b m→(Aj s₁.heap H).Ns b m:=fun {b m} ⟨o,es,ep,e,d,r⟩=>⟨o,es,ep,base_of e (noA e d),d,r⟩
  have hKb:K.In (Aj s₁.heap H):=fun b o e=>base_of (KX b o e) (by
   cases q:H b with
   | none=>rfl
   | some u =>
    rcases hA b (by rw [q];simp) with e' | ⟨t,ht,e'⟩
    ·subst e'
     rw [hK (by rw [q];simp)] at e;cases e
    ·subst e'
     rw [hKt t ht] at e;cases e)
  have hM:Mod K mg (Aj s₁.heap H):=⟨hKb,nsK hns,⟨mb,nsK hb,hbb⟩,let ⟨mc,h1,h2⟩:=hlim;⟨mc,nsK h1,h2⟩,let ⟨bm,ob,g1,g2,g3,g4,g5,g6⟩:=hbm;⟨bm,ob,g1,g2,base_of g3 (by
   cases q:H bm with
   | none=>rfl
   | some u =>
    rcases hA bm (by rw [q];simp) with e' | ⟨t,ht,e'⟩
    ·rw [e',ha] at g3;cases g3
     have z:Value.type "list" = Value.type "module" := g4
     injection z with z
     exact absurd z (by decide)
    ·rw [← e',hts t ht] at g3;cases g3
     cases g4),g4,g5,g6⟩⟩
  have e0:Env0 P w K mg (Aj s₁.heap H) callerA [] s₁ H:=⟨rfl,hM,fun b o e=>Qj e,Nat.le_of_eq (JG _ _),trivial,fun b hb=>absurd (show b ∈ ([]:List Addr) from hb) (by simp),hok,.of_eq hg⟩
  refine codeAny_mono ((F _ hKb (nsK hns)).run callerA [] s₁ H ⟨[.ref a],[]⟩ [.ref a] [.ref a] _ _ hr e0 (hbind s₁ (.ref a)) (.cons rfl .nil) (hsp H hT hS)) fun r s' h=>?_
  cases r with
  | error e=>exact (hCX H e s' h).elim
  | ok fl =>
   cases fl with
   | next=>exact False.elim h
   | brk=>exact False.elim h
   | cont=>exact False.elim h
   | ret u =>
    obtain ⟨v,H',os,bare,un,hok',r',q⟩:=h
    have q':v = .bl true:=q
    subst q'
    obtain rfl:u=Value.bool true:=r'
    refine ⟨rfl,⟨fun b o e=>?_,fun b o e=>un.there b o e (by simp)⟩,os,bare⟩
    cases q:H b with
    | none=>exact .inl <| un.keep b o e q (by intro z;exact absurd (show b ∈ ([]:List Addr) from z) (by simp)) (by simp)
    | some u =>
     rcases hO b with z | ⟨ob,xs,z⟩ | ⟨t,ht,rfl,z⟩
     case inr.inr =>
      have z2:=un.tbls _ _ _ z
      obtain ⟨ps,e2,_⟩:=hok' _ _ z2
      rw [hts t ht] at e;cases e
      exact .inr (.inl ⟨hCT t ht,rfl,#[],ps,rfl,by rw [e2];simp⟩)
     ·rw [q] at z;cases z
     ·have z2:=un.frzs b ob _ z
      obtain ⟨e1,_⟩:=hok b _ z
      obtain ⟨e2,_⟩:=hok' b _ z2
      rw [e] at e1;cases e1
      exact .inl e2
 have core1:∀ H:Hp,Only H→SqL K H a (ns.map V.int)→HOk P w H s₁.heap→(∀ b,H b ≠ none→b=a)→(H a ≠ none→K.lookup a=none) →
  codeAny (model P w) callerA (.call (.ref fa) ⟨[.ref a],[]⟩) (fun r s'=>r = .ok (.ret (.bool true))∧OldK s₁.heap s'.heap∧s'.os=s₁.os∧AllBare s'.gens) s₁:=by
  intro H hO hS hok hA hK
  have na:∀ t ∈ ts,t.1 ≠ a:=fun t ht z=>by
   have z2:=hts t ht
   rw [z,ha] at z2
   cases z2
  have cs:∀ b,(wV ts H b=H b∧∀ t ∈ ts,t.1 ≠ b)∨∃ t ∈ ts,t.1=b∧wV ts H b=some (.tbl t.2.1 t.2.2):=Lj ts H
  have la:wV ts H a=H a:=by
   rcases cs a with z | ⟨t,ht,z,_⟩
   ·exact z.1
   ·exact absurd z (na t ht)
  have noown:∀ b x,H b ≠ some (.own x):=fun b x z=>by rcases hO b with y | ⟨_,_,y⟩ <;> (rw [y] at z;cases z)
  have notup:∀ b x,H b ≠ some (.tup x):=fun b x z=>by rcases hO b with y | ⟨_,_,y⟩ <;> (rw [y] at z;cases z)
  refine core (wV ts H) (fun b=>?_) (fun t ht=>?_) ?_ (fun b u z=>?_) (fun b z=>?_) (fun z=>hK (by rw [← la];exact z))
  ·rcases cs b with z | ⟨t,ht,z1,z2⟩
   ·rcases hO b with y | y
    ·exact .inl (z.1.trans y)
    ·obtain ⟨o,xs,y⟩:=y
     exact .inr (.inl ⟨o,xs,z.1.trans y⟩)
   ·exact .inr (.inr ⟨t,ht,z1,z2⟩)
  ·rcases cs t.1 with z | ⟨t',ht',z1,z2⟩
   ·exact absurd rfl (z.2 t ht)
   ·have:=htu t' ht' t ht z1
    subst this
    exact z2
  ·rcases hS with (z | ⟨o,z⟩) | z
   ·exact .inl (.inl (by rw [la];exact z))
   ·exact .inl (.inr ⟨o,by rw [la];exact z⟩)
   ·exact .inr z
  ·rcases cs b with y | ⟨t,ht,z1,z2⟩
   ·rw [y.1] at z
    exact (hok b u z).stay (fun _ _ _ q=>q) (fun c q=>absurd q (noown c b)) fun c xs q=>absurd q (notup c xs)
   ·rw [z2] at z
    cases z
    subst z1
    exact ⟨#[],hts t ht,.inl rfl⟩
  ·rcases cs b with y | ⟨t,ht,z1,z2⟩
   ·exact .inl (hA b (by rw [← y.1];exact z))
   ·exact .inr ⟨t,ht,z1⟩
 cases hk:K.lookup a with
 | some o =>
  have e:=KX a o hk
  rw [ha] at e
  cases e
  refine core1 (fun _=>none) (fun _=>.inl rfl) (.inr ⟨_,vs.toArray,_,hk,rfl,rfl,rfl,by rw [aU,lenV];exact hl,by simpa using rv⟩) (fun b u z=>by have z':(none:Option HO)=some u:=z;cases z') (fun b z=>absurd rfl z) fun z=>absurd rfl z
 | none =>
  refine core1 (fun b=>if b=a then some (.frz { cls:=.type "list", data:=.seq vs.toArray } (.lst (ns.map V.int))) else none) (fun b=>?_) (.inl (.inr ⟨{ cls:=.type "list", data:=.seq vs.toArray },if_pos rfl⟩)) (fun b u z=>?_) (fun b z=>?_) fun _=>hk
  ·by_cases hb:b=a
   ·exact .inr ⟨_,_,if_pos hb⟩
   ·exact .inl (if_neg hb)
  ·by_cases hb:b=a
   ·have z':=(if_pos hb).symm.trans z
    cases z'
    subst hb
    exact ⟨ha,by rw [aC];exact hl,vs,_,rv,ha⟩
   ·have z':=(if_neg hb).symm.trans z
    cases z'
  ·by_cases hb:b=a
   ·exact hb
   ·exact absurd (if_neg hb) z
end L2
namespace L2
open PySem PySem.Spec PyProof.Rows
abbrev KOf (_:K.In h):PySem.W.Frag:=K
theorem QK {l:PySem.W.OpenLaw} {k:Nat} {q:Program} {loose:List Str} {d:DefRec} {K:Params→PySem.W.Frag} {CX:World→CXT} {sp:World→Sp}
 (hn:l.most=some n) (hn2:n ≤ sizeLine) (hdf:d.params.defaults=[]) (hr:Room k callerA)
 (hY:∀ (w:World) (h:Heap),YP w h→(K w.params).In h)
 (F:∀ (w:World) (mg:Str→Option Value) (fa:Addr) (h:Heap),(K w.params).In h→h.Ns mainGlobals mg→mg d.name=some (.ref fa) →
  ∃ fd:FuncData,(∀ (s:Shared) (u:Value),BindsTo s fd ⟨[u],[]⟩ [(x,u)]) ∧
   ∀ base:Heap,(K w.params).In base→base.Ns mainGlobals mg→FnOk l.prog w (K w.params) mg base (CX w) k fa fd [x] (sp w))
 (ts:List (Addr × Str × Pos)) (hts:∀ (w:World) (h:Heap),YP w h→(∀ t ∈ ts,h.get? t.1=some { cls:=.none,data:=.fields #[] })∧(∀ t ∈ ts,isCodeTable h t.1)∧∀ t ∈ ts,(K w.params).lookup t.1=none) (htu:∀ t ∈ ts,∀ t' ∈ ts,t.1=t'.1→t=t')
 (hsp:∀ (w:World) (H:Hp) (a:Addr) (ns:List Int),ns.length ≤ n→(∀ t ∈ ts,H t.1=some (.tbl t.2.1 t.2.2))→SqL (K w.params) H a (ns.map V.int)→sp w [.ref a] H (fun v _=>v = .bl true) fun _ _ _=>False)
 (hCX:∀ (w:World) (H:Hp) (s:Shared) (e:Value) (s':Shared),CX w [] H s (fun _ _ _=>False) e s'→False) :
 PySem.W.WalkO q loose XP YP l.row.toRowW d [] (fun f vs=>PySem.call f vs):=by
 refine Att.Dm hn hdf fun w s₀ s₁ mg mb fa o pm cd doc a vs ns G Y ho hd hcd hmg hobj hints hlen hg=>?_
 have KX:=hY w _ Y
 obtain ⟨fd,hb,hF⟩:=F w mg fa _ KX G.T.g hmg
 exact Lk KX G.T.g G.T.b G.T.builtins G.T.nolimit G.T.bmain hg hobj hints (bh hlen hn2) hr hF hb ts (hts w _ Y).1 (hts w _ Y).2.1 (hts w _ Y).2.2 htu (fun H hO hS=>hsp w H a ns hlen hO hS) fun H e s'=>hCX w H s₁ e s'
theorem Ln {l:PySem.W.OpenLaw} {k:Nat} {q:Program} {loose:List Str} {d:DefRec} {K:Params→PySem.W.Frag} {sp:PySem.W.Frag→Sp}
 (hn:l.most=some n) (hn2:n ≤ sizeLine) (hdf:d.params.defaults=[]) (hr:Room k callerA)
 (hY:∀ (w:World) (h:Heap),YP w h→(K w.params).In h)
 (F:∀ (w:World) (mg:Str→Option Value) (fa:Addr) (h:Heap),(K w.params).In h→h.Ns mainGlobals mg→mg d.name=some (.ref fa) →
  ∃ fd:FuncData,(∀ (s:Shared) (u:Value),BindsTo s fd ⟨[u],[]⟩ [(x,u)]) ∧
   ∀ base:Heap,(K w.params).In base→base.Ns mainGlobals mg→FnOk l.prog w (K w.params) mg base CX k fa fd [x] (sp (K w.params)))
 (ts:List (Addr × Str × Pos)) (hts:∀ (w:World) (h:Heap),YP w h→(∀ t ∈ ts,h.get? t.1=some { cls:=.none,data:=.fields #[] })∧(∀ t ∈ ts,isCodeTable h t.1)∧∀ t ∈ ts,(K w.params).lookup t.1=none) (htu:∀ t ∈ ts,∀ t' ∈ ts,t.1=t'.1→t=t')
 (hsp:∀ (K:PySem.W.Frag) (H:Hp) (a:Addr) (ns:List Int),ns.length ≤ n→(∀ t ∈ ts,H t.1=some (.tbl t.2.1 t.2.2))→SqL K H a (ns.map V.int)→sp K [.ref a] H (fun v _=>v = .bl true) fun _ _ _=>False)
 (hCX:∀ (H:Hp) (s:Shared) (e:Value) (s':Shared),CX [] H s (fun _ _ _=>False) e s'→False) :
 PySem.W.WalkO q loose XP YP l.row.toRowW d [] (fun f vs=>PySem.call f vs) :=
 QK (K:=K) (CX:=fun _=>CX) (sp:=fun w=>sp (K w.params)) hn hn2 hdf hr hY F ts hts htu (fun w H a ns h1 h2 h3=>hsp (K w.params) H a ns h1 h2 h3) fun _ H s e s'=>hCX H s e s'
end L2
/- THE LAST THEOREM (shape;LID,My.* are yours):
   My.Adr: a structure of the addresses that your layer names (classes,functions);My.Txt K t: a structure (Prop) of the equations over K;
   My.txt_mk:{K} {implicit addresses ..} (e1:nsIn K mainGlobals "law" = some (some (.ref f))) (e2:K.lookup f=some ⟨oc,od,.func (fnOf "law" "law" params body scope dV kV doc pm an cdv ct),sl⟩) (e3:codeIn K cdv "law" = true) .. : ∃ t,My.Txt K t
set_option maxRecDepth 100000 in
set_option maxHeartbeats 0 in
(the tactic k_is has no namespace: write k_is) -/
variable {H1:L2.Hp}
namespace L2
open PySem PySem.Spec PyProof.Rows
def oX (s:Stmt):Arguments:=match s with
 | .FunctionDef _ a _ _ _ _ _ _ _ _=>a
 | _=>{ posonlyargs:=[],args:=[],vararg:=none,kwonlyargs:=[],kw_defaults:=[],kwarg:=none,defaults:=[] }
def jw (s:Stmt):List Stmt:=match s with
 | .FunctionDef _ _ b _ _ _ _ _ _ _=>b
 | _=>[]
def bJ (s:Stmt):Scope:=match s with
 | .FunctionDef _ _ _ _ _ _ sc _ _ _=>sc
 | _=>{ kind:=.function,names:=[],isGenerator:=false,isCoroutine:=false }
abbrev CX0:CXT:=fun _ _ _ _ _ _=>False
abbrev E0:XK:=fun _ _ _=>False
theorem Xz:Passes CX0 X E0:=fun _ _ _ _ _ _ _ h=>h.elim
structure Fun (K:PySem.W.Frag) (x qual:Str) (st:Stmt) (f:Addr) (fd:FuncData):Prop where
 ex:∃ (oc:Value) (od:Option Addr) (kV doc pm:Value) (an:Option Addr) (cdv ct:Value) (osl:Array (Option Value)),
  fd=PySem.W.fnOf x qual (oX st) (jw st) (bJ st) .none kV doc pm an cdv ct∧K.lookup f=some ⟨oc,od,.func fd,osl⟩∧PySem.W.codeIn K cdv qual=true
 kp:PySem.W.keepIn K (.ref f)=true
section
variable {P:Program} {w:World} {K:PySem.W.Frag} {mg:Str→Option Value} {base:Heap}
end
section
variable {X:Cx}
end
theorem Av {A B:Prop} (h:B):if false=true then A else B:=by
 rw [if_neg cg]
 exact h
theorem Aw {A B:Prop} (h:A):if true=true then A else B:=by
 rw [if_pos rfl]
 exact h
def Same (H H':Hp):Prop:=∀ b o,H b=some o→H' b=some o
theorem Same.refl (H:Hp):Same H H:=fun _ _ h=>h
theorem Same.trans {H2:Hp} (a:Same H H1) (b:Same H1 H2):Same H H2:=fun c o h=>b c o (a c o h)
theorem Same.free (e:Same H H') {l:Addr} (h:H' l=Option.none):H l=Option.none:=by
 cases q:H l with
 | none=>rfl
 | some o =>
  rw [e l o q] at h
  cases h
theorem Same.seq (e:Same H H') (h:SqL K H a xs):SqL K H' a xs:=by
 rcases h with (h | ⟨o,h⟩) | h
 ·exact .inl (.inl (e _ _ h))
 ·exact .inl (.inr ⟨o,e _ _ h⟩)
 ·exact .inr h
end L2
namespace My
open PySem PySem.Spec PyProof.Rows L2
abbrev St:=L2.St
theorem cH {p:Addr} (h:H p=none) (o:HO):Same H (upd H p o):=fun b u q=>by rw [bx (ju q h)];exact q
structure Df (K:PySem.W.Frag) (mg:Str→Option Value) (x:Str) (st:Stmt) (ps:List Str):Prop where
 ex:∃ (f:Addr) (fd:FuncData),Fun K x x st f fd∧Binds K fd ps []∧mg x=some (.ref f)
structure Has (P:Program) (w:World) (K:PySem.W.Frag) (mg:Str→Option Value) (base:Heap) (n:Nat) (x:Str) (ps:List Str) (sp:Sp):Prop where
 ex:∃ (f:Addr) (fd:FuncData),FnOk P w K mg base CX0 n f fd ps sp∧Binds K fd ps []∧PySem.W.keepIn K (.ref f)=true∧mg x=some (.ref f)
section
variable {P:Program} {w:World} {K:PySem.W.Frag} {mg:Str→Option Value} {base:Heap} {x:Str} {ps N:List Str} {sp:Sp} {st:Stmt} {k n:Nat}
theorem Has.mono (h:Has P w K mg base k x ps sp) (l:k ≤ n):Has P w K mg base n x ps sp:=by
 obtain ⟨f,fd,F,b,kp,m⟩:=h.ex
 exact ⟨f,fd,F.mono l,b,kp,m⟩
end
section
variable {X:Cx} {x:Str} {ps:List Str} {sp:Sp} {n:Nat} {p pos:Pos} {e:Expr} {es:List Expr} {t:TA}
theorem Dp (h:Has X.prog X.w X.K X.mg X.base n x ps sp) (hr:Room n X.A) (ha:PA X (e :: es) t) (hg:Gl X x:=by rfl) (hdb:(x == ("__debug__" : Str))=false:=by decide)
 (he:starEach (e :: es) X.env=(false,eval e X.env) :: starEach es X.env:=by rfl) (hpl:(backTo pos (starEach es X.env)).any (·.1)=false:=by rfl) :
 PE X (.Call (.Name x p) (e :: es) [] pos) (T3 sp [] E0 t):=by
 obtain ⟨f,fd,F,b,kp,m⟩:=h.ex
 exact QB F hr hg m kp b .nil Xz ha hdb he hpl
end
mutual
inductive RdV (K:PySem.W.Frag) (H:Hp):V→PyData→Prop
 | non:RdV K H .non .none
 | bl (b:Bool):RdV K H (.bl b) (.bool b)
 | int (i:Int):RdV K H (.int i) (.int i)
 | str (x:Str):RdV K H (.str x) (.str x)
 | lst {a:Addr} {xs:List V} {ds:List PyData}:SqL K H a xs→RdVs K H xs ds→RdV K H (.ref a) (.list ds)
 | tup {a:Addr} {xs:List V} {ds:List PyData}:SqT K H a xs→RdVs K H xs ds→RdV K H (.ref a) (.tuple ds)
inductive RdVs (K:PySem.W.Frag) (H:Hp):List V→List PyData→Prop
 | nil:RdVs K H [] []
 | cons {v:V} {d:PyData} {vs:List V} {ds:List PyData}:RdV K H v d→RdVs K H vs ds→RdVs K H (v :: vs) (d :: ds)
end
section
variable {X:Cx} {pins:List (Addr × Obj)} {σ:St} {H:Hp} {s:Shared}
mutual
theorem RdV.reads (I:Inv X pins σ H s):∀ {v:V} {d:PyData},RdV X.K H v d→∀ {u:Value},RelV v u→∃ as,Reads s.heap u d as
 | _,_,.non,_,r=>by cases r;exact ⟨_,.none⟩
 | _,_,.bl b,_,r=>by cases r;exact ⟨_,.bool b⟩
 | _,_,.int i,_,r=>by obtain ⟨t,rfl⟩:=r;exact ⟨_,.int i t⟩
 | _,_,.str x,_,r=>by obtain ⟨t,rfl⟩:=r;exact ⟨_,.str x t⟩
 | _,_,.lst h q,_,r=>by
  cases r
  obtain ⟨its,rv,⟨o,n,e,c,_,d⟩,_⟩:=I.list h
  obtain ⟨as,z⟩:=RdVs.reads I q rv
  exact ⟨_,.list e c d (by simpa using z)⟩
 | _,_,.tup h q,_,r=>by
  cases r
  obtain ⟨its,rv,⟨o,e,c,n,d⟩,_⟩:=I.tuple h
  obtain ⟨as,z⟩:=RdVs.reads I q rv
  exact ⟨_,.tuple e c d (by simpa using z)⟩
theorem RdVs.reads (I:Inv X pins σ H s):∀ {vs:List V} {ds:List PyData},RdVs X.K H vs ds→∀ {us:List Value},Vals vs us→∃ as,ReadsAll s.heap us ds as
 | _,_,.nil,_,r=>by cases r;exact ⟨_,.nil⟩
 | _,_,.cons h q,_,r=>by
  cases r with
  | cons r1 r2 =>
   obtain ⟨as,z⟩:=RdV.reads I h r1
   obtain ⟨bs,y⟩:=RdVs.reads I q r2
   exact ⟨_,.cons z y⟩
end
end
section
variable {X:Cx}
def Vi (K:PySem.W.Frag):R2:=fun x y H Q=>∃ da db,RdV K H x da∧RdV K H y db∧SeqAt.shaped da=true∧SeqAt.shaped db=true∧Q (.bl (PyData.eqv da db)) H
def Vj (K:PySem.W.Frag):R2:=fun x y H Q=>∃ da db,RdV K H x da∧RdV K H y db∧SeqAt.shaped da=true∧SeqAt.shaped db=true∧Q (.bl (!PyData.eqv da db)) H
theorem mK (hu:X.A.units + 64 < cLine):OpR X (compareOp .Eq) (Vi X.K):=by
 intro pins s σ H x y v u Q I rx ry h
 obtain ⟨da,db,ha,hb,sa,sb,q⟩:=h
 obtain ⟨as,za⟩:=ha.reads I rx
 obtain ⟨bs,zb⟩:=hb.reads I ry
 exact SeqAt.compareEq_shaped za zb sa sb hu ⟨.bl _,H,I,rfl,q⟩
theorem tH (hu:X.A.units + 64 < cLine):OpR X (compareOp .NotEq) (Vj X.K):=by
 intro pins s σ H x y v u Q I rx ry h
 obtain ⟨da,db,ha,hb,sa,sb,q⟩:=h
 obtain ⟨as,za⟩:=ha.reads I rx
 obtain ⟨bs,zb⟩:=hb.reads I ry
 exact SeqAt.compareNe_shaped za zb sa sb hu ⟨.bl _,H,I,rfl,q⟩
end
def isT (c T:String):Bool:=T == c || (T == "bool" && c == "int")
section
variable {K:PySem.W.Frag}
theorem Vk (h:c = "int" ∨ c = "bool" ∨ c = "tuple" ∨ c = "list" ∨ c = "str") (g:T = "NoneType" ∨ T = "bool" ∨ T = "int" ∨ T = "str" ∨ T = "list" ∨ T = "tuple" ∨ T = "dict") :
 PySem.W.kitOne K (.type T) (.type c)=some (isT c T):=by
 rcases h with rfl | rfl | rfl | rfl | rfl <;> rcases g with rfl | rfl | rfl | rfl | rfl | rfl | rfl <;> kernel_rfl
end
section
variable {X:Cx}
end
theorem big {σ:St} (I:Inv X pins σ H s):sysModules < s.heap.objs.size:=by
 have h:mainGlobals < s.heap.objs.size:=(I.mod.glob.keeps I.bk).lt
 exact pZ (by decide) h
theorem Lp (h:Heap) (hb:sysModules < h.objs.size):fG P w H (h.push { cls:=.type "dict", data:=.dict #[] }) h.objs.size (.dK []) :=
 ⟨cY _,beq_eq_false_iff_ne.mpr (Ne.symm (aQ hb)),[],.nil,Heap.DictOf.new h⟩
def Vl:TE:=fun _ H Q=>∀ p,H p=none→Q (.ref p) (upd H p (.dK []))
theorem Lq:PE X (.Dict [] [] pos) Vl:=fun pins s σ H Q I h =>
 wpAny_Dict_empty ⟨.ref s.heap.objs.size,_,I.laid (a:=s.heap.objs.size) (o:=.dK []) (t':=s.toks) (fun _ _ q=>Heap.get?_push_of_some _ q) (aL _) (Lp s.heap (big I)),rfl,h _ (I.hok.fresh (aL _))⟩
end My
namespace My
open PySem PySem.Spec PyProof.Rows L2
section
variable {X:Cx} {a b c d:Expr} {ta tb tc td:TE} {pos:Pos}
def QL (r r' r'':R2) (ta tb tc td:TE):TE:=fun σ H Q=>ta σ H fun x H1=>tb σ H1 fun y H2=>r x y H2 fun z H3=>∃ k,z = .bl k ∧
 (if k=true then tc σ H3 fun w' H4=>r' y w' H4 fun z' H5=>∃ k',z' = .bl k'∧(if k'=true then td σ H5 fun v' H6=>r'' w' v' H6 Q else Q (.bl false) H5) else Q (.bl false) H3)
theorem JX {op'':CmpOp} {r'':R2} (ho:OpR X (compareOp op) r) (ho':OpR X (compareOp op') r') (ho'':OpR X (compareOp op'') r'') (ha:PE X a ta) (hb:PE X b tb) (hc:PE X c tc) (hd:PE X d td)
 (hm:lastMarks [op,op',op''] [b,c,d]=false:=by with_unfolding_all rfl):PE X (.Compare a [op,op',op''] [b,c,d] pos) (QL r r' r'' ta tb tc td):=by
 intro pins s σ H Q I h
 refine Compare_chain (thn (ha pins s σ H _ I h) fun v s1 ⟨x,H1,I1,r1,q1⟩=>chain_link (thn (hb pins s1 σ H1 _ I1 q1) fun u s2 ⟨y,H2,I2,r2,q2⟩ =>
  thn (ho pins s2 σ H2 x y v u _ I2 r1 r2 q2) fun d s3 ⟨z,H3,I3,r3,k,e,q3⟩=>?_)) hm
 subst e
 cases r3
 refine wpAny_truthy_bool ?_
 cases k with
 | false=>exact ite_ff ⟨.bl false,H3,I3,rfl,q3⟩
 | true =>
  refine ite_tt (chain_link (thn (hc pins s3 σ H3 _ I3 q3) fun w' s4 ⟨z',H4,I4,r4,q4⟩=>thn (ho' pins s4 σ H4 y z' u w' _ I4 r2 r4 q4) fun d' s5 ⟨z2,H5,I5,r5,k2,e2,q5⟩=>?_))
  subst e2
  cases r5
  refine wpAny_truthy_bool ?_
  cases k2 with
  | false=>exact ite_ff ⟨.bl false,H5,I5,rfl,q5⟩
  | true=>exact ite_tt (chain_last (thn (hd pins s5 σ H5 _ I5 q5) fun w3 s6 ⟨z3,H6,I6,r6,q6⟩=>ho'' pins s6 σ H6 z' z3 w' w3 Q I6 r4 r6 q6))
end
structure Blt (mg:Str→Option Value):Prop where
 len_:mg "len" = none
 range_:mg "range" = none
 abs_:mg "abs" = none
 isinstance_:mg "isinstance" = none
 int_:mg "int" = none
 bool_:mg "bool" = none
 tuple_:mg "tuple" = none
 max_:mg "max" = none
 min_:mg "min" = none
end My
namespace My
open PySem PySem.Spec PyProof.Rows L2
abbrev cx (P:Program) (w:World) (K:PySem.W.Frag) (mg:Str→Option Value) (base:Heap) (N:List Str) (x:Str) (st:Stmt) (f:Addr) (cdv:Value) (A:Around) (outer:List Env) (s:Shared) (H:Hp) (E:XK):Cx :=
 (Dh CX0 P w K mg base N x (bJ st) f cdv A outer s H E).nox
end My
variable {env:Env}
namespace My
open PySem PySem.Spec PyProof.Rows L2
def qg (env:Env):List (Str × NameKind)→List (Str × Addr)→List (Str × Addr)
 | [],cs=>cs
 | (n,k) :: r,cs=>if (k == NameKind.free)=true then qg env r ((n,(env.cells.lookup n).getD 0) :: cs) else qg env r cs
theorem tK:∀ (l:List (Str × NameKind)) (cs:List (Str × Addr)),(∀ x ∈ l,x.2 = .free→∃ c,env.cells.lookup x.1=some c) →
 (forIn l cs fun (x:Str × NameKind) (r:List (Str × Addr))=>(if (x.2 == NameKind.free)=true then (do let c ← cellOf env x.1;pure (ForInStep.yield ((x.1,c) :: r))) else pure (ForInStep.yield r):Sem (ForInStep (List (Str × Addr)))))=pure (qg env l cs)
 | [],_,_=>rfl
 | (n,k) :: r,cs,h=>by
  rw [List.forIn_cons]
  by_cases hk:(k == NameKind.free)=true
  ·obtain ⟨c,hc⟩:=h (n,k) aJ (beq_iff_eq.mp hk)
   have hc':cellOf env n=pure c:=by
    unfold cellOf
    rw [show env.cells.lookup n=some c from hc]
   show (do let x ← (if (k == NameKind.free)=true then (do let c ← cellOf env n;pure (ForInStep.yield ((n,c) :: cs))) else pure (ForInStep.yield cs):Sem (ForInStep (List (Str × Addr))));_)=_
   rw [if_pos hk,hc']
   have ih:=tK r ((n,c) :: cs) fun x hx=>h x (aH _ hx)
   rw [qg,if_pos hk,show env.cells.lookup n=some c from hc]
   exact ih
  ·show (do let x ← (if (k == NameKind.free)=true then (do let c ← cellOf env n;pure (ForInStep.yield ((n,c) :: cs))) else pure (ForInStep.yield cs):Sem (ForInStep (List (Str × Addr))));_)=_
   rw [if_neg hk]
   have ih:=tK r cs fun x hx=>h x (aH _ hx)
   rw [qg,if_neg hk]
   exact ih
theorem Gn {scope:Scope} (h:∀ x ∈ scope.names,x.2 = .free→∃ c,env.cells.lookup x.1=some c):closureFor scope env=pure (qg env scope.names []):=by
 have z:=tK (env:=env) scope.names [] h
 show (forIn scope.names [] fun (x:Str × NameKind) (r:List (Str × Addr))=>(if (x.2 == NameKind.free)=true then (do let c ← cellOf env x.1;pure (ForInStep.yield ((x.1,c) :: r))) else pure (ForInStep.yield r):Sem (ForInStep (List (Str × Addr))))) >>= (fun cs=>pure cs)=_
 rw [z]
 rfl
theorem wW:∀ (l:List (Str × NameKind)) (cs:List (Str × Addr)),(∀ x ∈ l,x.2 = .free→∃ c,env.cells.lookup x.1=some c)→(∀ x c,cs.lookup x=some c→env.cells.lookup x=some c) →
 ∀ x c,(qg env l cs).lookup x=some c→env.cells.lookup x=some c
 | [],_,_,hc,x,c,e=>hc x c e
 | (n,k) :: r,cs,h,hc,x,c,e=>by
  rw [qg] at e
  by_cases hk:(k == NameKind.free)=true
  ·rw [if_pos hk] at e
   obtain ⟨d,hd⟩:=h (n,k) aJ (beq_iff_eq.mp hk)
   refine wW r _ (fun x hx=>h x (aH _ hx)) (fun y c' e'=>?_) x c e
   rw [dF] at e'
   cases hy:y == n with
   | true =>
    rw [hy] at e'
    have:y=n:=beq_iff_eq.mp hy
    subst this
    rw [show env.cells.lookup y=some d from hd] at e' ⊢
    exact e'
   | false =>
    rw [hy] at e'
    exact hc y c' e'
  ·rw [if_neg hk] at e
   exact wW r cs (fun x hx=>h x (aH _ hx)) hc x c e
theorem rA:∀ (l:List (Str × NameKind)) (cs:List (Str × Addr)) (x:Str),((x,NameKind.free) ∈ l∨∃ c,cs.lookup x=some c)→∃ c,(qg env l cs).lookup x=some c
 | [],_,x,h=>by
  rcases h with h | h
  ·exact absurd h (by simp)
  ·exact h
 | (n,k) :: r,cs,x,h=>by
  rw [qg]
  by_cases hk:(k == NameKind.free)=true
  ·rw [if_pos hk]
   refine rA r _ x ?_
   by_cases e:x=n
   ·subst e
    exact .inr ⟨_,by rw [dF,beq_self_eq_true]⟩
   ·rcases h with h | ⟨c,h⟩
    ·rcases aZ.mp h with h | h
     ·exact absurd (congrArg Prod.fst h) e
     ·exact .inl h
    ·exact .inr ⟨c,by rw [dF,beq_eq_false_iff_ne.mpr e];exact h⟩
  ·rw [if_neg hk]
   refine rA r cs x ?_
   rcases h with h | h
   ·rcases aZ.mp h with h | h
    ·have:k = .free:=(congrArg Prod.snd h).symm
     subst this
     exact absurd rfl hk
    ·exact .inl h
   ·exact .inr h
abbrev blk (X:Cx) (N':List Str) (scope:Scope) (cl:List (Str × Addr)) (C:Addr) (s3:Shared) (H3:Hp) (fp:List Addr):Cx :=
 { X with N:=N',s₀:=s3,H₀:=H3,env:=compEnvC scope cl C X.env,outer:=X.stack,ex:=fp,fn:=fun _=>false,xe:=fun _ _=>False }
def uP (N:List Str) (kinds sn:List (Str × NameKind)):List Str→List Nat→Bool
 | [],[]=>true
 | x :: V,j :: ix=>(N[j]? == some x) && ((kinds.lookup x == some NameKind.cell) && ((sn.lookup x == some NameKind.free) && uP N kinds sn V ix))
 | _,_=>false
def qj (t:Nat) (ix:List Nat) (σ:St):St:=aG t none++ix.map fun j=>(σ[j]?).getD none
theorem wX {kinds sn:List (Str × NameKind)}:∀ {V:List Str} {ix:List Nat},uP N kinds sn V ix=true→ix.length=V.length∧∀ (k:Nat) (x:Str),V[k]? = some x→∃ j,ix[k]? = some j∧N[j]? = some x∧kinds.lookup x=some .cell∧sn.lookup x=some .free
 | [],[],_=>⟨rfl,fun k x h=>by simp at h⟩
 | x :: V,j :: ix,h=>by
  rw [uP,aY,aY,aY] at h
  obtain ⟨h1,h2,h3,h4⟩:=h
  obtain ⟨l,r⟩:=wX h4
  refine ⟨by simp [l],fun k y hy=>?_⟩
  cases k with
  | zero =>
   simp at hy
   subst hy
   exact ⟨j,rfl,beq_iff_eq.mp h1,beq_iff_eq.mp h2,beq_iff_eq.mp h3⟩
  | succ k=>exact r k y (by simpa using hy)
 | [],_ :: _,h=>by simp [uP] at h
 | _ :: _,[],h=>by simp [uP] at h
theorem uh {env:Env} (hf:env.scope.kind = .function):∀ {names:List (Str × NameKind)} {x:Str},names.lookup x=some .free→env.kindOf x=some .cell →
 (names.map fun (n,k)=>if (k == NameKind.free && env.scope.kind == .function && env.kindOf n == some .cell) then (n,NameKind.cell) else (n,k)).lookup x=some .cell
 | [],_,h,_=>by simp at h
 | (n,k) :: r,x,h,hc=>by
  have ih:=@uh env hf r x
  show vq x ((if (k == NameKind.free && env.scope.kind == .function && env.kindOf n == some .cell)=true then (n,NameKind.cell) else (n,k)) :: _)=_
  cases hx:x == n with
  | true =>
   have e:x=n:=beq_iff_eq.mp hx
   subst e
   simp only [dF,hx] at h
   cases h
   rw [if_pos (by rw [hf,hc];rfl)]
   simp [dF]
  | false =>
   simp only [dF,hx] at h
   by_cases hq:(k == NameKind.free && env.scope.kind == .function && env.kindOf n == some .cell)=true
   ·rw [if_pos hq];simp only [dF,hx];exact ih h hc
   ·rw [if_neg hq];simp only [dF,hx];exact ih h hc
theorem ql {env:Env}:∀ {names:List (Str × NameKind)} {x:Str} {k:NameKind},(∀ y ∈ names,y.2 ≠ .cell)→(k = .cell∨k = .free) →
 (names.map fun (n,k)=>if (k == NameKind.free && env.scope.kind == .function && env.kindOf n == some .cell) then (n,NameKind.cell) else (n,k)).lookup x=some k→(x,NameKind.free) ∈ names
 | [],_,_,_,_,h=>by simp at h
 | (n,k') :: r,x,k,hc,hk,h=>by
  have ih:=@ql env r x k (fun y hy=>hc y (aH _ hy)) hk
  have h':vq x ((if (k' == NameKind.free && env.scope.kind == .function && env.kindOf n == some .cell)=true then (n,NameKind.cell) else (n,k')) :: (r.map fun (n,k)=>if (k == NameKind.free && env.scope.kind == .function && env.kindOf n == some .cell) then (n,NameKind.cell) else (n,k)))=some k:=h
  by_cases hq:(k' == NameKind.free && env.scope.kind == .function && env.kindOf n == some .cell)=true
  ·rw [if_pos hq] at h'
   have kf:k' = .free:=by
    rw [aY,aY] at hq
    exact beq_iff_eq.mp hq.1.1
   cases hx:x == n with
   | true =>
    have e:x=n:=beq_iff_eq.mp hx
    subst e
    subst kf
    exact aJ
   | false =>
    simp only [dF,hx] at h'
    exact aH _ (ih h')
  ·rw [if_neg hq] at h'
   cases hx:x == n with
   | true =>
    have e:x=n:=beq_iff_eq.mp hx
    subst e
    simp only [dF,hx] at h'
    cases h'
    rcases hk with hk | hk
    ·exact absurd hk (hc _ aJ)
    ·subst hk
     exact aJ
   | false =>
    simp only [dF,hx] at h'
    exact aH _ (ih h')
section
variable {X:Cx} {pins:List (Addr × Obj)} {σ:St} {H:Hp} {s:Shared}
theorem Inv.forget {σ':St} (I:Inv X pins σ H s) (hl:σ'.length=X.N.length) (h:∀ (i:Nat) (v:V),σ'[i]? = some (some v)→σ[i]? = some (some v)):Inv X pins σ' H s:=by
 obtain ⟨m,hn,hx⟩:=I.loc
 exact ⟨I.ok,I.os,I.bare,I.base,⟨m,hn,fun i x v e1 e2 e3=>hx i x v e1 (h i v e2) e3⟩,I.cell,I.free,I.freeC,I.pin,I.hok,hl⟩
end
end My
variable {ix:List Nat} {spos:Pos}
namespace My
open PySem PySem.Spec PyProof.Rows L2
theorem Dq {prog:Program} {R:Result→Shared→Prop} {elt target:Expr} {ifs:List Expr} {scope:Scope} {it acc:Value} (I:Nat→Shared→Prop)
 (turn:∀ n s,I n s→wpAny (model prog w) A (pyNext it) (fun r s₁=>match r with
  | none=>R (.ok .next) s₁
  | some v=>wpAny (model prog w) A (letOwnedTupleGo target it v) (fun _ s₁'=>wpAny (model prog w) A (assign target env v) (fun _ s₂ =>
   wpAny (model prog w) A (forIn ifs true fun c r=>if r=true then do let ok ← isTrue c env (eval c env);pure (ForInStep.yield ok) else pure (ForInStep.yield r)) (fun ok s₃ =>
    if ok=true then wpAny (model prog w) A (eval elt env) (fun x s₄ =>
     wpAny (model prog w) A (call (.builtin "list.append") [acc,x]) (fun _ s₅=>∃ m,m < n∧I m s₅) (fun _ _=>False) s₄) (fun _ _=>False) s₃
    else ∃ m,m < n∧I m s₃) (fun _ _=>False) s₂) (fun _ _=>False) s₁') (fun _ _=>False) s₁) (fun _ _=>False) s)
 (n:Nat) (h:I n s) :
 codeAny (model prog w) A (.compLoop (.ListComp elt [⟨target,iter,ifs,0⟩] scope pos) 0 it acc env) R s:=by
 refine codeAny_loop rfl I (fun n s hI=>?_) n h
 show wpAny _ A ((compTurn (.ListComp elt [⟨target,iter,ifs,0⟩] scope pos) 0 it acc env).onRaise (fun x=>do noteFrame x env;theTreesLotGoes x)) _ _ s
 refine wpAny_noted ?_
 rw [compTurn_list]
 refine wpAny_bind (wpAny_standAt (wpAny_bind (wpAny_mono (turn n s hI) (fun r s₁ h₁=>?_) fun _ _ h'=>h'.elim)))
 cases r with
 | none=>exact wpAny_pure h₁
 | some v =>
  refine wpAny_bind (wpAny_mono h₁ (fun _ s₁' h₁'=>?_) fun _ _ h'=>h'.elim)
  refine wpAny_bind (wpAny_mono h₁' (fun _ s₂ h₂=>wpAny_bind (wpAny_mono h₂ (fun ok s₃ h₃=>?_) fun _ _ h'=>h'.elim)) fun _ _ h'=>h'.elim)
  cases ok with
  | false=>exact wpAny_pure ⟨rfl,h₃⟩
  | true =>
   exact wpAny_bind (wpAny_bind (wpAny_mono h₃ (fun x s₄ h₄=>wpAny_bind (wpAny_mono h₄ (fun _ s₅ h₅=>wpAny_pure (wpAny_pure ⟨rfl,h₅⟩)) fun _ _ h'=>h'.elim)) fun _ _ h'=>h'.elim))
section
variable {X:Cx} {pins:List (Addr × Obj)} {σ:St} {H:Hp}
theorem JZ {T V:List Str} {scope:Scope} {s3:Shared} {h₁:Heap} {tk:Nat}
 (I:Inv X pins σ H s3) (hf:∀ b ∈ fp,uN X pins H b) (ho:∀ b ∈ fp,∃ o,s3.heap.get? b=some o)
 (hk:scope.kind = .function) (hcell:∀ y ∈ scope.names,y.2 ≠ .cell) (hfr:∀ x ∈ scope.names,x.2 = .free→x.1 ∈ V) (hB:uP X.N X.env.scope.names scope.names V ix=true)
 (hns:h₁.Ns s3.heap.objs.size m) (keep:∀ b o,s3.heap.get? b=some o→h₁.get? b=some o) :
 Inv (blk X (T++V) scope (qg X.env scope.names []) s3.heap.objs.size s3 H fp) pins (qj T.length ix σ) H { s3 with heap:=h₁,toks:=tk }:=by
 obtain ⟨lV,capV⟩:=wX hB
 have hcl:∀ x ∈ scope.names,x.2 = .free→∃ c,X.env.cells.lookup x.1=some c:=fun x hx e=>by
  obtain ⟨k,ek⟩:=m6 (hfr x hx e)
  obtain ⟨j,_,_,hc,_⟩:=capV k _ ek
  exact I.ok.has _ (.inl hc)
 have sub:=wW (env:=X.env) scope.names [] hcl (fun x c e=>by simp at e)
 have stkSub:∀ b,b ∈ frs X.stack→b=X.env.locals∨b ∈ X.fs:=fun b z=>aZ.mp (I.stkSub b z)
 have lt:∀ b o,s3.heap.get? b=some o→b ≠ s3.heap.objs.size:=fun b o e=>aQ (Heap.lt_size e)
 have cellK:∀ c v,s3.heap.IsCell c v→h₁.IsCell c v:=fun c v ⟨o,e,d⟩=>⟨o,keep c o e,d⟩
 refine ⟨⟨I.ok.mod,hk,I.ok.glob,I.ok.blt,aL _,fun x y c e1 e2=>I.ok.inj x y c (sub x c e1) (sub y c e2),fun x hx=>?_,fun x c hx=>?_,I.ok.hd,I.ok.frames,.inl rfl,fun b hb=>⟨?_,fun x c e=>?_⟩,I.bs,bh I.ok.bsz I.sz,fun b o e hb=>?_,fun b hb z=>?_,I.stack,I.stkFree⟩,
  rfl,I.bare,Un.kept keep,⟨m,hns,fun i x v e1 e2 e3=>?_⟩,fun x c e=>?_,I.hok.fresh (aL _),fun x c e=>I.freeC x c (sub x c e),fun p hp=>?_,I.hok.kept keep,?_⟩
 ·rcases hx with hx | hx
  ·exact rA _ _ x (.inl (ql hcell (.inl rfl) hx))
  ·exact rA _ _ x (.inl (ql hcell (.inr rfl) hx))
 ·exact absurd hx (by simp)
 ·obtain ⟨o,e⟩:=ho b hb
  exact lt b o e
 ·exact (hf b hb).2.2.2.2.1 x c (sub x c e)
 ·rcases (hf b hb).2.2.2.1 with z | z
  ·exact I.ok.noex b o e z
  ·exact absurd (bU (Heap.lt_size e) (bh I.ok.bsz z)) (gP _)
 ·rcases stkSub b z with z | z
  ·exact (hf b hb).2.1 z
  ·exact (hf b hb).2.2.1 z
 ·by_cases hi:i < T.length
  ·have e2':(aG T.length none++ix.map fun j=>(σ[j]?).getD none)[i]? = some (some v):=e2
   rw [cQ (by rw [bD];exact hi),eF,if_pos hi] at e2'
   exact absurd e2' (by simp)
  ·have e1':(T++V)[i]? = some x:=e1
   rw [cD (by omega)] at e1'
   obtain ⟨j,hj,hN,hc,hfree⟩:=capV _ x e1'
   have e2':(aG T.length none++ix.map fun j=>(σ[j]?).getD none)[i]? = some (some v):=e2
   rw [cD (by rw [bD];omega),bD,aR,hj] at e2'
   have e2'':(σ[j]?).getD none=some v:=by simpa using e2'
   have e3':σ[j]? = some (some v):=by
    cases q:σ[j]? with
    | none=>rw [q] at e2'';exact absurd e2'' (by simp)
    | some o=>rw [q] at e2'';simp at e2'';rw [e2'']
   obtain ⟨m0,hn0,hl⟩:=I.loc
   obtain ⟨u,r,l⟩:=hl j x v hN e3' (.inr (.inl hc))
   rcases l with ⟨z,_⟩ | ⟨_,c,ec,hcell'⟩
   ·have z':X.env.scope.names.lookup x=some .local:=z
    rw [hc] at z'
    exact absurd z' (by simp)
   ·obtain ⟨c',ec'⟩:=rA (env:=X.env) scope.names [] x (.inl (PySem.mem_of_lookup hfree))
    have:c'=c:=by
     have q:=sub x c' ec'
     rw [ec] at q
     exact (cJ.inj q).symm
    subst this
    exact ⟨u,r,.inr ⟨.inl (uh I.ok.kind hfree hc),c',ec',cellK _ _ hcell'⟩⟩
 ·obtain ⟨v,z⟩:=I.cell x c (sub x c e)
  exact ⟨v,cellK c v z⟩
 ·obtain ⟨e,n,ne,nf,d⟩:=I.pin p hp
  refine ⟨keep _ _ e,n,lt _ _ e,fun z=>?_,d⟩
  rcases stkSub p.1 z with z | z
  ·exact ne z
  ·exact nf z
 ·show (aG T.length none++ix.map fun j=>(σ[j]?).getD none).length=(T++V).length
  rw [aW,bD,aC,aW,lV]
theorem Lr {N':List Str} {scope:Scope} {cl:List (Str × Addr)} {pins':List (Addr × Obj)} {σ':St} {H3:Hp} {s3 s':Shared} (I3:Inv X pins σ H3 s3) (hf:∀ b ∈ fp,uN X pins H3 b)
 (I':Inv (blk X N' scope cl s3.heap.objs.size s3 H3 fp) pins' σ' H' s'):Inv X pins σ H' s'∧uN X pins H' s3.heap.objs.size:=by
 have fr:H' s3.heap.objs.size=none:=I'.free
 refine ⟨?_,I3.fpOk (aL _) fr⟩
 have os:s'.os=s3.os:=I'.os
 have u:Un (frs X.stack) fp H3 H' s3.heap s'.heap:=I'.base
 have ho:=I'.hok
 have hb:=I'.bare
 obtain ⟨hh,g,d,t,os'⟩:=s'
 obtain rfl:os'=s3.os:=os
 exact I3.call (h':=hh) (g':=g) (d':=d) (t':=t) (ch:=fp) u ho hb fun b hb'=>⟨(hf b hb').2.2.2.1,(hf b hb').2.1,(hf b hb').2.2.2.2.1,(hf b hb').2.2.2.2.2⟩
end
def PTs (X:Cx) (ifs:List Expr) (t:TT):Prop :=
 ∀ (pins:List (Addr × Obj)) (s:Shared) (σ:St) (H:Hp) (Q:Bool→Hp→Prop),Inv X pins σ H s→t σ H Q →
  wpAny (model X.prog X.w) X.A (forIn ifs true fun c r=>if r=true then do let ok ← isTrue c X.env (eval c X.env);pure (ForInStep.yield ok) else pure (ForInStep.yield r)) (TP X pins σ Q) X.xe s
def jx:TT:=fun _ H Q=>Q true H
theorem QM:PTs X [] jx:=fun _ _ _ H _ I h=>wpAny_tests_nil ⟨H,I,h⟩
theorem wg {c:Expr} {t:TT} (h:PT X c t):PTs X [c] t:=fun pins s σ H Q I q=>wpAny_tests_one (h pins s σ H Q I q)
def zF (wi:TI) (g:TG) (tt:TT) (te:TE) (t:Nat) (cap:St→St):TE:=fun σ H Q=>wi σ H fun J H1=>∀ D,H1 D=none→∃ W:Nat→Nat→List V→Hp→Prop,(∃ m,W 0 m [] (upd H1 D (.lst []))) ∧
 ∀ i m xs H2,W i m xs H2→H2 D=some (.lst xs)∧((J.stop i H2∧Q (.ref D) H2)∨(J.go i H2∧xs.length < sizeLine∧∀ x H3,J.yld i H2 x H3→g x (cap σ) H3 fun σ4 H4=>σ4.drop t=(cap σ).drop t ∧
  tt σ4 H4 fun b H5=>if b=true then te σ4 H5 fun v H6=>H6 D=some (.lst xs)∧∃ m',m' < m∧W (i + 1) m' (xs++[v]) (upd H6 D (.lst (xs++[v]))) else ∃ m',m' < m∧W (i + 1) m' xs H5))
section
variable {X:Cx} {elt tg iter:Expr} {ifs:List Expr} {scope:Scope} {pos:Pos} {T V:List Str} {ix:List Nat} {wi:TI} {g:TG} {tt:TT} {te:TE}
theorem zG (hc:X.calm=true) (hi:PI X tg iter wi)
 (hg:∀ cl C s3 H3 fp,PG (blk X (T++V) scope cl C s3 H3 fp) tg g) (ht:∀ cl C s3 H3 fp,PTs (blk X (T++V) scope cl C s3 H3 fp) ifs tt) (he:∀ cl C s3 H3 fp,PE (blk X (T++V) scope cl C s3 H3 fp) elt te)
 (hB:uP X.N X.env.scope.names scope.names V ix=true) (hk:scope.kind = .function) (hcell:∀ y ∈ scope.names,y.2 ≠ .cell) (hnames:∀ x ∈ scope.names,x.2 = .local→scope.names.lookup x.1=some .local)
 (hfr:∀ x ∈ scope.names,x.2 = .free→x.1 ∈ V) (hs:∀ x,foldedSetIterable iter X.env x=pure x) {p:Pos}
 {pins:List (Addr × Obj)} {s:Shared} {σ:St} {H:Hp} (I:Inv X pins σ H s) {use:Option (Value→Sem Unit)} {Qp:Value→Shared→Prop} {Qv:VK} (h:zF wi g tt te T.length (qj T.length ix) σ H Qv)
 (fin:∀ (D C:Addr) (H':Hp) (s':Shared) (m:Str→Option Value),Inv X pins σ H' s'→uN X pins H' C→s'.heap.Ns C m→Qv (.ref D) H'→compPost (model X.prog X.w) X.A X.xe use Qp (.ref D) C (.ok .next) s') :
 wpAny (model X.prog X.w) X.A (comprehension (.ListComp elt [⟨tg,iter,ifs,0⟩] scope pos) scope X.env p (newList []) false (eval iter X.env) use) Qp X.xe s:=by
 obtain ⟨lV,capV⟩:=wX hB
 have hcl:∀ x ∈ scope.names,x.2 = .free→∃ c,X.env.cells.lookup x.1=some c:=fun x hx e=>by
  obtain ⟨k,ek⟩:=m6 (hfr x hx e)
  obtain ⟨j,_,_,hc',_⟩:=capV k _ ek
  exact I.ok.has _ (.inl hc')
 refine wpAny_comprehension_free rfl hs (Gn hcl) hk hnames ?_
 refine thn (hi pins s σ H _ I h) fun v s1 h1=>thn h1 fun itv s2 h2=>?_
 obtain ⟨it,fp,tn,J,H2,e,I2,Tn,st2,f2,R⟩:=h2
 subst e
 refine wpAny_newObj_type (hd:=by size_fits) ?_
 have hD:H2 s2.heap.objs.size=none:=I2.hok.fresh (aL _)
 have I3:Inv X pins σ (upd H2 s2.heap.objs.size (.lst [])) { s2 with heap:=s2.heap.push { cls:=.type "list", dict:=none,data:=.seq ([]:List Value).toArray } } :=
  I2.laid (t':=s2.toks) (fun b o e=>Heap.get?_push_of_some _ e) (aL _) ⟨cY _,[],0,.nil,Heap.get?_push_size _ rfl⟩
 obtain ⟨W,⟨m0,w0⟩,turn⟩:=R s2.heap.objs.size hD
 generalize hs3:({ s2 with heap:=s2.heap.push { cls:=.type "list", dict:=none,data:=.seq ([]:List Value).toArray } }:Shared)=s3 at I3 ⊢
 have st3:tn 0 s3.heap:=by
  rw [← hs3]
  exact Tn.keep 0 s2.heap _ st2 fun b hb o e=>Heap.get?_push_of_some _ e
 have f3:∀ b ∈ fp,uN X pins (upd H2 s2.heap.objs.size (.lst [])) b:=fun b hb=>by
  obtain ⟨z0,z1⟩:=f2 b hb
  refine ⟨?_,z1⟩
  obtain ⟨o,eo,_⟩:=Tn.obj 0 _ st2 b hb
  rw [bx (aQ (Heap.lt_size eo))]
  exact z0
 generalize hH3:upd H2 s2.heap.objs.size (.lst [])=H3 at I3 f3 w0
 generalize hDn:s2.heap.objs.size=D at turn
 refine wpAny_newFunctionEnv hcell (by intro y hy;simp at hy) (fun h₁ hns₁ hsb₁=>?_) hk
 have keep:∀ b o,s3.heap.get? b=some o→h₁.get? b=some o:=fun b o e=>hsb₁.extBut b o (aQ (Heap.lt_size e)) (Heap.get?_push_of_some _ e)
 have I4:=JZ (T:=T) (tk:=s3.toks + ([]:List (Str × Value)).length) I3 f3 (fun b hb=>let ⟨o,eo,_⟩:=Tn.obj 0 _ st3 b hb;⟨o,eo⟩) hk hcell hfr hB hns₁ keep
 have st4:tn 0 h₁:=Tn.keep 0 _ _ st3 fun b hb o e=>keep b o e
 have loop:codeAny (model X.prog X.w) X.A (.compLoop (.ListComp elt [⟨tg,iter,ifs,0⟩] scope pos) 0 (.ref it) (.ref D) (compEnvC scope (qg X.env scope.names []) s3.heap.objs.size X.env))
  (compPost (model X.prog X.w) X.A X.xe use Qp (.ref D) s3.heap.objs.size) { s3 with heap:=h₁,toks:=s3.toks + ([]:List (Str × Value)).length }:=by
  refine Dq (fun n s'=>∃ i xs H',Inv (blk X (T++V) scope (qg X.env scope.names []) s3.heap.objs.size s3 H3 fp) pins (qj T.length ix σ) H' s'∧tn i s'.heap∧(∀ b ∈ fp,H' b=none)∧W i n xs H') ?_ m0
   ⟨0,[],H3,I4,st4,fun b hb=>(f3 b hb).1,w0⟩
  rintro n s5 ⟨i,xs,H5,I5,st5,fr5,w5⟩
  have stat:∀ {H':Hp} {pins':List (Addr × Obj)} {σ':St} {s':Shared},Inv (blk X (T++V) scope (qg X.env scope.names []) s3.heap.objs.size s3 H3 fp) pins σ' H' s'→(∀ b ∈ fp,H' b=none)→∀ b ∈ fp,uN (blk X (T++V) scope (qg X.env scope.names []) s3.heap.objs.size s3 H3 fp) pins H' b:=fun I' hn b hb=>by
   obtain ⟨x1,x2⟩:=I'.ok.exf b hb
   refine ⟨hn b hb,x1,I'.ok.exfs b hb,.inl hb,x2,fun q hq=>?_⟩
   exact (f3 b hb).2.2.2.2.2 q hq
  obtain ⟨hD5,r5⟩:=turn i n xs H5 w5
  rcases r5 with ⟨stop,q⟩ | ⟨go,hz,step⟩
  ·refine thn (Tn.done (blk X (T++V) scope (qg X.env scope.names []) s3.heap.objs.size s3 H3 fp) rfl rfl rfl hc i pins s5 _ H5 _ I5 (stat (pins':=pins) I5 fr5) st5 stop) fun r s6 ⟨hr,I6⟩=>?_
   subst hr
   obtain ⟨Ib,fC⟩:=Lr I3 f3 I6
   obtain ⟨m,hn,_⟩:=I6.loc
   exact fin D _ H5 s6 m Ib fC hn q
  ·refine thn (Tn.item (blk X (T++V) scope (qg X.env scope.names []) s3.heap.objs.size s3 H3 fp) rfl rfl rfl hc i pins s5 _ H5 _ I5 (stat (pins':=pins) I5 fr5) st5 go) fun r s6 ⟨u,hr,h6⟩=>?_
   subst hr
   refine thn h6 fun _ s7 ⟨x,H7,I7,rx,y7,st7,fr7⟩=>?_
   have I7':=I7.pinned (stat (pins':=pins) I7 fr7) (Tn.obj _ _ st7)
   refine thn (hg _ _ _ _ _ _ s7 _ H7 x u _ I7' rx (step x H7 y7)) fun _ s8 ⟨σ8,H8,I8,k8,q8⟩=>?_
   have again:∀ {H9:Hp} {s9:Shared},Inv (blk X (T++V) scope (qg X.env scope.names []) s3.heap.objs.size s3 H3 fp) (pins++wR fp s7.heap) σ8 H9 s9 →
    Inv (blk X (T++V) scope (qg X.env scope.names []) s3.heap.objs.size s3 H3 fp) pins (qj T.length ix σ) H9 s9∧tn (i + 1) s9.heap∧∀ b ∈ fp,H9 b=none:=fun {H9 s9} I9=>by
    refine ⟨Inv.forget I9.unpinned I4.len fun j v e=>?_,Tn.keep _ _ _ st7 fun b hb o e=>(I9.pin (b,o) (bQ _ (bQ _ (qe hb e)))).1,fun b hb=>?_⟩
    ·by_cases hj:j < T.length
     ·have e':(aG T.length none++ix.map fun j=>(σ[j]?).getD none)[j]? = some (some v):=e
      rw [cQ (by rw [bD];exact hj),eF,if_pos hj] at e'
      exact absurd e' (by simp)
     ·have ej:j=T.length + (j - T.length):=by omega
      rw [ej,← eE] at e ⊢
      rw [k8]
      exact e
    ·obtain ⟨o,e,d⟩:=Tn.obj _ _ st7 b hb
     exact (I9.pin (b,o) (bQ _ (bQ _ (qe hb e)))).2.1
   refine thn (ht _ _ _ _ _ _ s8 σ8 H8 _ I8 q8) fun ok s9 ⟨H9,I9,q9⟩=>?_
   cases ok with
   | false =>
    obtain ⟨m',lm,w9⟩:=q9
    obtain ⟨a1,a2,a3⟩:=again I9
    exact ⟨m',lm,i + 1,xs,H9,a1,a2,a3,w9⟩
   | true =>
    refine thn (he _ _ _ _ _ _ s9 σ8 H9 _ I9 q9) fun y s10 ⟨v,H10,I10,ry,hD10,m',lm,w10⟩=>?_
    refine thn (zE _ s10 σ8 H10 (.ref D) [v] (.ref D) [y] (fun _ Hn=>Hn=upd H10 D (.lst (xs++[v]))) I10 rfl (.cons ry .nil) ⟨D,xs,v,rfl,rfl,hD10,hz,rfl⟩) fun _ s11 ⟨_,H11,I11,_,e11⟩=>?_
    subst e11
    obtain ⟨a1,a2,a3⟩:=again I11
    exact ⟨m',lm,i + 1,_,_,a1,a2,a3,w10⟩
 exact codeAny_compStart_list loop (Tn.self _ 0 _ _ _ st4 loop)
theorem Ax (hc:X.calm=true) (T V:List Str) (ix:List Nat) (hi:PI X tg iter wi)
 (hg:∀ cl C s3 H3 fp,PG (blk X (T++V) scope cl C s3 H3 fp) tg g) (ht:∀ cl C s3 H3 fp,PTs (blk X (T++V) scope cl C s3 H3 fp) ifs tt) (he:∀ cl C s3 H3 fp,PE (blk X (T++V) scope cl C s3 H3 fp) elt te)
 (hB:uP X.N X.env.scope.names scope.names V ix=true:=by rfl) (hk:scope.kind = .function:=by rfl) (hcell:∀ y ∈ scope.names,y.2 ≠ .cell:=by decide +kernel)
 (hnames:∀ x ∈ scope.names,x.2 = .local→scope.names.lookup x.1=some .local:=by decide +kernel)
 (hfr:∀ x ∈ scope.names,x.2 = .free→x.1 ∈ V:=by decide +kernel) (hs:∀ x,foldedSetIterable iter X.env x=pure x:=by intro _;rfl) :
 PE X (.ListComp elt [⟨tg,iter,ifs,0⟩] scope pos) (zF wi g tt te T.length (qj T.length ix)):=by
 intro pins s σ H Q I h
 rw [eval_ListComp]
 refine zG (use:=none) hc hi hg ht he hB hk hcell hnames hfr hs I h fun D C H' s' m I' fC hn q=>⟨m,hn,fun h' sb=>⟨.ref D,H',?_,rfl,q⟩⟩
 obtain ⟨z0,z1,z2,z3,z4,z5⟩:=fC
 exact I'.turned (t':=s'.toks) (fun b o hb e=>sb.extBut b o hb e) z0 z1 z3 z4 z5
theorem QS (hN:X.N.Nodup) (hi':X.N[i]? = some x) (hx:X.env.scope.names.lookup x=some .local) (hc:X.calm=true) (T V:List Str) (ix:List Nat) (hi:PI X tg iter wi)
 (hg:∀ cl C s3 H3 fp,PG (blk X (T++V) scope cl C s3 H3 fp) tg g) (ht:∀ cl C s3 H3 fp,PTs (blk X (T++V) scope cl C s3 H3 fp) ifs tt) (he:∀ cl C s3 H3 fp,PE (blk X (T++V) scope cl C s3 H3 fp) elt te)
 (hsw:swapsWith (.ListComp elt [⟨tg,iter,ifs,0⟩] scope pos) (some (.Name x pos')) spos.line X.env=pure true:=by rfl)
 (hB:uP X.N X.env.scope.names scope.names V ix=true:=by rfl) (hk:scope.kind = .function:=by rfl) (hcell:∀ y ∈ scope.names,y.2 ≠ .cell:=by decide +kernel)
 (hnames:∀ x ∈ scope.names,x.2 = .local→scope.names.lookup x.1=some .local:=by decide +kernel)
 (hfr:∀ x ∈ scope.names,x.2 = .free→x.1 ∈ V:=by decide +kernel) (hs:∀ x,foldedSetIterable iter X.env x=pure x:=by intro _;rfl) :
 PS X (.Assign [.Name x pos'] (.ListComp elt [⟨tg,iter,ifs,0⟩] scope pos) spos) (U4 (zF wi g tt te T.length (qj T.length ix)) (K7 i)):=by
 intro pins s σ H D I h
 rw [exec_Assign_Name_used _ _ _ _ hsw]
 refine wpAny_bind (wpAny_standAt (wpAny_bind ?_))
 show wpAny _ X.A (do let _ ← comprehension (.ListComp elt [⟨tg,iter,ifs,0⟩] scope pos) scope X.env _ (newList []) false (eval iter X.env) (some (assign (.Name x pos') X.env))) _ _ s
 refine wpAny_bind (wpAny_mono (zG (use:=some (assign (.Name x pos') X.env)) (Qp:=fun _ s'=>SP X pins D .next s') hc hi hg ht he hB hk hcell hnames hfr hs I h fun A' C H' s' m I' fC hn q=>?_) (fun _ s' hq=>wpAny_pure (wpAny_pure hq)) fun _ _ e=>e)
 obtain ⟨z0,z1,z2,z3,z4,z5⟩:=fC
 refine wpAny_assign_Name (zq I' hN hi' (.inl hx) (v:=.ref A') rfl (fun s'' I'' ⟨a,sb,ha⟩=>⟨m,hn.sameBut sb ?_,fun h' sb'=>⟨_,H',?_,q⟩⟩) (.inr hx))
 ·rcases ha with ha | ha
  ·rw [ha];exact z1
  ·exact Ne.symm (z4 x a ha)
 ·exact I''.turned (t':=s''.toks) (fun b o hb e=>sb'.extBut b o hb e) z0 z1 z3 z4 z5
end
section
variable {X:Cx} {K:PySem.W.Frag}
end
end My
namespace D3
open PySem
abbrev D:=PyData
inductive U where
 | d (x:D)
 | x (c f:Str) (v:D)
abbrev DS:=List (Option U)
inductive Oc where
 | nx (δ:DS)
 | rt (d:D)
 | bk (δ:DS)
 | ct (δ:DS)
 | ex (c f:Str) (v:D)
abbrev FE:=DS→Option D
abbrev FA:=DS→Option (List D)
abbrev FT:=DS→Option Bool
abbrev FS:=DS→Option Oc
abbrev FG:=D→DS→Option DS
mutual
def flat:D→Bool
 | .none=>true
 | .bool _=>true
 | .int _=>true
 | .str _=>true
 | .list _=>false
 | .tuple xs=>flats xs
 | .dict _=>false
def flats:List D→Bool
 | []=>true
 | x :: r=>flat x && flats r
end
mutual
def nl:D→Nat
 | .none=>0
 | .bool _=>0
 | .int _=>0
 | .str _=>0
 | .list xs=>nls xs + 1
 | .tuple xs=>nls xs
 | .dict _=>1
def nls:List D→Nat
 | []=>0
 | x :: r=>nl x + nls r
end
def fl1:D→Bool
 | .list xs=>flats xs
 | d=>flat d
def aD (i:Nat):FE:=fun δ=>match δ[i]? with
 | some (some (.d x))=>some x
 | _=>none
def dC (d:D):FE:=fun _=>some d
def dOp (g:D→D→Option D) (fa fb:FE):FE:=fun δ=>(fa δ).bind fun x=>(fb δ).bind fun y=>g x y
def dUn (g:D→Option D) (fa:FE):FE:=fun δ=>(fa δ).bind g
def bw:FA:=fun _=>some []
def aF (fa:FE) (fr:FA):FA:=fun δ=>(fa δ).bind fun x=>(fr δ).bind fun r=>some (x :: r)
def dTup (fa:FA):FE:=fun δ=>(fa δ).bind fun l=>if l.length ≤ sizeLine then some (.tuple l) else none
def eU (fa:FA):FE:=fun δ=>(fa δ).bind fun l=>if l.length ≤ sizeLine then some (.list l) else none
def dCall (F:List D→Option D) (fa:FA):FE:=fun δ=>(fa δ).bind F
def i_ (fa:FE):FE:=fun δ=>(fa δ).bind fun d=>if flat d=true then some d else none
def dN1 (fa:FE):FE:=fun δ=>(fa δ).bind fun d=>if decide (nl d ≤ 1)=true then some d else none
def wY (fa:FE):FE:=fun δ=>(fa δ).bind fun d=>if fl1 d=true then some d else none
def vU (fa fb:FE):FE:=fun δ=>(fa δ).bind fun x=>match x with
 | .bool true=>fb δ
 | .bool false=>some (.bool false)
 | _=>none
def dOr (fa fb:FE):FE:=fun δ=>(fa δ).bind fun x=>match x with
 | .bool true=>some (.bool true)
 | .bool false=>fb δ
 | _=>none
def Lw (fa:FE):FE:=fun δ=>(fa δ).bind fun x=>match x with
 | .bool b=>some (.bool (!b))
 | _=>none
def dIf (c:FT) (fa fb:FE):FE:=fun δ=>(c δ).bind fun b=>if b=true then fa δ else fb δ
def cI (fa:FE):FT:=fun δ=>(fa δ).bind fun x=>match x with
 | .bool b=>some b
 | _=>none
def Gb (a b:FT):FT:=fun δ=>(a δ).bind fun x=>if x=true then b δ else some false
def tOr (a b:FT):FT:=fun δ=>(a δ).bind fun x=>if x=true then some true else b δ
def mH (a:FT):FT:=fun δ=>(a δ).map fun x=>!x
def iK:FS:=fun δ=>some (.nx δ)
def cF (a b:FS):FS:=fun δ=>(a δ).bind fun o=>match o with
 | .nx δ'=>b δ'
 | o=>some o
def XC (i:Nat) (fe:FE):FS:=fun δ=>(fe δ).bind fun d=>some (.nx (δ.set i (some (.d d))))
def sIf (c:FT) (a b:FS):FS:=fun δ=>(c δ).bind fun t=>if t=true then a δ else b δ
def fJ (fe:FE):FS:=fun δ=>(fe δ).bind fun d=>some (.rt d)
def XF:FS:=fun _=>some (.rt .none)
def HD (fe:FE):FS:=fun δ=>(fe δ).bind fun _=>some (.nx δ)
def sBk:FS:=fun δ=>some (.bk δ)
def sCt:FS:=fun δ=>some (.ct δ)
def gN (i:Nat):FG:=fun d δ=>some (δ.set i (some (.d d)))
def nF:List D→DS→Option DS:=fun l δ=>match l with
 | []=>some δ
 | _=>none
def d7 (g:FG) (r:List D→DS→Option DS):List D→DS→Option DS:=fun l δ=>match l with
 | d :: l'=>(g d δ).bind fun δ'=>r l' δ'
 | []=>none
def QT (fe:FE) (g:FG):FS:=fun δ=>(fe δ).bind fun d=>(g d δ).bind fun δ'=>some (.nx δ')
def jD (g:FG) (b:FS):List D→DS→Option Oc
 | [],δ=>some (.nx δ)
 | d :: r,δ=>(g d δ).bind fun δ1=>(b δ1).bind fun o=>match o with
  | .nx δ'=>jD g b r δ'
  | .ct δ'=>jD g b r δ'
  | .bk δ'=>some (.nx δ')
  | .rt v=>some (.rt v)
  | .ex c f v=>some (.ex c f v)
def rB (fi:FA) (g:FG) (b:FS):FS:=fun δ=>(fi δ).bind fun l=>jD g b l δ
open Classical in
def fnD (p q:Nat) (b:FS):List D→Option D:=fun ds=>if ds.length=p then match b (ds.map (fun d=>some (.d d))++aG q none) with
    | some (.rt d)=>some d
    | some (.nx _)=>some .none
    | _=>none
 else none
def iw (t:Nat) (ix:List Nat) (δ:DS):DS:=aG t none++ix.map fun j=>(δ[j]?).getD none
def jM (g:FG) (c:FT) (e:FE) (δ:DS):List D→Option (List D)
 | []=>some []
 | d :: r=>(g d δ).bind fun δ1=>(c δ1).bind fun b=>if b=true then (e δ1).bind fun x=>(jM g c e δ r).bind fun l=>some (x :: l) else jM g c e δ r
def gW (fi:FA) (g:FG) (c:FT) (e:FE) (t:Nat) (ix:List Nat):FE:=fun δ=>(fi δ).bind fun l=>if l.length ≤ 100000 then (jM g c e (iw t ix δ) l).bind fun r=>some (.list r) else none
def jx:FT:=fun _=>some true
def gI (g:Int→Int→Option D):D→D→Option D:=fun x y=>match x,y with
 | .int i,.int j=>g i j
 | _,_=>none
def pIx (n:Nat) (i:Int):Option Nat:=if 0 ≤ i then (if i < n then some i.toNat else none) else if -(n:Int) ≤ i then some (i + n).toNat else none
def pAt (xs:List D) (i:Int):Option D:=(pIx xs.length i).bind fun j=>xs[j]?
def isT (c T:String):Bool:=T == c || (T == "bool" && c == "int")
def b_ (i:Nat) (fe:FE):FS:=fun δ=>if i < δ.length then XC i fe δ else none
def eV:D→D→Option D:=gI fun i j=>some (.int (i + j))
def yL:D→D→Option D:=gI fun i j=>some (.int (i - j))
def wZ (i j:Int):Bool:=decide (i.natAbs < 2 ^ 64) || decide (j.natAbs < 2 ^ 64) || (decide (i.natAbs < 2 ^ 30000) && decide (j.natAbs < 2 ^ 30000))
def sH:D→D→Option D:=gI fun i j=>if wZ i j=true then some (.int (i * j)) else none
def Gq (_ j:Int):Bool:=decide (j ≠ 0) && decide (j.natAbs < 2 ^ 9000)
def Dr:D→D→Option D:=gI fun i j=>if Gq i j=true then some (.int (i.fdiv j)) else none
def tL:D→D→Option D:=gI fun i j=>if decide (j ≠ 0)=true then some (.int (i.fmod j)) else none
def Vm (i j:Int):Bool:=decide (0 ≤ j) && decide (j ≤ 1000) && decide (i.natAbs < 2 ^ 64)
def Vo:D→D→Option D:=gI fun i j=>if Vm i j=true then some (.int (i ^ j.toNat)) else none
def gLt:D→D→Option D:=gI fun i j=>some (.bool (decide (i < j)))
def gLe:D→D→Option D:=gI fun i j=>some (.bool (decide (i ≤ j)))
def gGt:D→D→Option D:=gI fun i j=>some (.bool (decide (j < i)))
def gGe:D→D→Option D:=gI fun i j=>some (.bool (decide (j ≤ i)))
def gEq:D→D→Option D:=fun x y=>if (SeqAt.shaped x && SeqAt.shaped y)=true then some (.bool (PyData.eqv x y)) else none
def gNe:D→D→Option D:=fun x y=>if (SeqAt.shaped x && SeqAt.shaped y)=true then some (.bool (!PyData.eqv x y)) else none
def gNl (i:Nat):FG:=fun d δ=>if i < δ.length then gN i d δ else none
def gTn (n:Nat) (g:List D→DS→Option DS):FG:=fun d δ=>match d with
 | .tuple l=>if l.length=n then g l δ else none
 | _=>none
def vV (i:Nat) (f:FE):FS:=fun δ=>(aD i δ).bind fun x=>(f δ).bind fun d=>match x with
 | .list l=>if l.length < 1000000 then some (.nx (δ.set i (some (.d (.list (l++[d])))))) else none
 | _=>none
def QV (i:Nat) (fk f:FE):FS:=fun δ=>(f δ).bind fun d=>(aD i δ).bind fun x=>(fk δ).bind fun k=>match x,k with
 | .list l,.int j=>(pIx l.length j).bind fun n=>some (.nx (δ.set i (some (.d (.list (l.set n d))))))
 | _,_=>none
def putAt (x:D) (n:Nat) (d:D):D:=match x with
 | .list l=>.list (l.set n d)
 | .tuple l=>.tuple (l.set n d)
 | x=>x
def asList:D→Option (List D)
 | .list l=>some l
 | _=>none
def rC (f:FE):FA:=fun δ=>(f δ).bind asList
def jy (lo hi:Int):List D:=(aX (hi - lo).toNat).map fun (k:Nat)=>.int (lo + (k:Int))
def w6 (i:Int):Bool:=decide (-(2 ^ 62) ≤ i) && decide (i < 2 ^ 62)
def sS (fa:FA):FA:=fun δ=>(fa δ).bind fun l=>match l with
 | [.int j]=>if w6 j=true then some (jy 0 j) else none
 | _=>none
def T5 (fa:FA):FA:=fun δ=>(fa δ).bind fun l=>match l with
 | [.int i,.int j]=>if (w6 i && w6 j)=true then some (jy i j) else none
 | _=>none
def gIx:D→D→Option D:=fun x y=>match x,y with
 | .list l,.int i=>pAt l i
 | .tuple l,.int i=>pAt l i
 | _,_=>none
def oE (g g':D→D→Option D) (fa fb fc:FE):FE:=fun δ=>(fa δ).bind fun x=>(fb δ).bind fun y=>(g x y).bind fun z=>match z with
 | .bool true=>(fc δ).bind fun w=>g' y w
 | .bool false=>some (.bool false)
 | _=>none
def wj (g g' g'':D→D→Option D) (fa fb fc fd:FE):FE:=fun δ=>(fa δ).bind fun x=>(fb δ).bind fun y=>(g x y).bind fun z=>match z with
 | .bool true=>(fc δ).bind fun w=>(g' y w).bind fun z'=>match z' with
  | .bool true=>(fd δ).bind fun u=>g'' w u
  | .bool false=>some (.bool false)
  | _=>none
 | .bool false=>some (.bool false)
 | _=>none
def isNone:D→Bool
 | .none=>true
 | _=>false
def ZK:D→Option D:=fun x=>some (.bool (isNone x))
def XH:D→Option D:=fun x=>some (.bool (!isNone x))
def jj:List D→Option D
 | [.list l]=>some (.int l.length)
 | [.tuple l]=>some (.int l.length)
 | _=>none
def dh:List D→Option (List Int)
 | []=>some []
 | .int i :: r=>(dh r).map (i :: ·)
 | _=>none
def XM:List D→Option D
 | [.list l]=>(dh l).map fun ns=>.int ns.sum
 | _=>none
def mxI (i:Int) (r:List Int):Int:=r.foldl (fun a b=>if a < b then b else a) i
def ab2:List D→Option D
 | [.list l]=>match dh l with
  | some (i :: r)=>some (.int (mxI i r))
  | _=>none
 | _=>none
def insI (x:Int):List Int→List Int
 | []=>[x]
 | y :: r=>if x ≤ y then x :: y :: r else y :: insI x r
def yN:List Int→List Int
 | []=>[]
 | x :: r=>insI x (yN r)
def Lx:List D→Option D
 | [.list l]=>(dh l).bind fun ns=>if ns.length < 64 then some (.list ((yN ns).map .int)) else none
 | _=>none
def vW:List D→Option D
 | [.int i]=>some (.int i)
 | [.bool b]=>some (.int (if b then 1 else 0))
 | _=>none
def ZL:List D→Option D
 | [.int i]=>some (.int (if i < 0 then -i else i))
 | _=>none
def HJ:List D→Option D
 | [.int i,.int j]=>some (.int (if j > i then j else i))
 | _=>none
def Ds:List D→Option D
 | [.int i,.int j]=>some (.int (if j < i then j else i))
 | _=>none
def tyD:D→String
 | .none => "NoneType"
 | .bool _ => "bool"
 | .int _ => "int"
 | .str _ => "str"
 | .list _ => "list"
 | .tuple _ => "tuple"
 | .dict _ => "dict"
def gIs (c:String):D→Option D:=fun d=>some (.bool (isT c (tyD d)))
def Gr:D→Option D
 | .int i=>some (.int (-i))
 | _=>none
def fQ:D→D→Option D:=fun x y=>match x,y with
 | .list l,.list m=>if l.length + m.length ≤ 1000000 then some (.list (l++m)) else none
 | _,_=>none
def pL:D→D→Option D:=fun x y=>match x,y with
 | .list l,.int k=>if l.length * k.toNat ≤ 1000000∧-(2 ^ 63) ≤ k∧k < 2 ^ 63 then some (.list (aG k.toNat l).flatten) else none
 | _,_=>none
def vD:D→Option D
 | .list l=>some (.list l)
 | .tuple l=>some (.list l)
 | _=>none
def HN:D→Option D
 | .list l=>some (.list l.reverse)
 | _=>none
abbrev FO:=DS→Option (Option Int)
def jN:FO:=fun _=>some none
def eX (f:FE):FO:=fun δ=>(f δ).bind fun x=>match x with
 | .int i=>some (some i)
 | _=>none
def pSx (n d:Nat):Option Int→Nat
 | none=>d
 | some i=>if i < 0 then (i + n).toNat else min i.toNat n
def cutD (xs:List D) (lo hi:Option Int):List D:=(xs.drop (pSx xs.length 0 lo)).take (pSx xs.length xs.length hi - pSx xs.length 0 lo)
def dSl (f:FE) (lo hi:FO):FE:=fun δ=>(f δ).bind fun x=>(lo δ).bind fun a=>(hi δ).bind fun b=>match x with
 | .list l=>some (.list (cutD l a b))
 | _=>none
def XQ (i j:Nat) (fa:FA):FS:=fun δ=>(fa δ).bind fun l=>match l with
 | [x,y]=>if i < δ.length∧j < δ.length then some (.nx ((δ.set i (some (.d x))).set j (some (.d y)))) else none
 | _=>none
def pN (l:List D):List D:=l.mapIdx fun i x=>.tuple [.int (i:Int),x]
def HS (f:FE):FA:=fun δ=>(f δ).bind fun d=>match d with
 | .list l=>some (pN l)
 | _=>none
def gF:List D→Option (List Bool)
 | []=>some []
 | .bool b :: r=>(gF r).map (b :: ·)
 | _=>none
def uQ:List D→Option D
 | [.list l]=>(gF l).map fun bs=>.bool (bs.all id)
 | _=>none
def pC:List D→List D→List D
 | x :: r,y :: s=>.tuple [x,y] :: pC r s
 | _,_=>[]
def Ly (f g:FE):FA:=fun δ=>(f δ).bind fun d=>(g δ).bind fun e=>match d,e with
 | .list l,.list m=>some (pC l m)
 | _,_=>none
theorem xg:∀ (r:List Int) (i:Int),mxI i r ∈ i :: r∧∀ a ∈ i :: r,a ≤ mxI i r
 | [],i=>⟨aJ,fun a h=>by rw [aN.mp h];exact Int.le_refl _⟩
 | b :: r,i=>by
  have ih:=xg r (if i < b then b else i)
  have e:mxI i (b :: r)=mxI (if i < b then b else i) r:=rfl
  rw [e]
  constructor
  ·rcases aZ.mp ih.1 with z | z
   ·rw [z]
    split <;> simp
   ·exact aH _ (aH _ z)
  ·intro a h
   have h0:=ih.2 _ aJ
   have hb:i ≤ (if i < b then b else i)∧b ≤ (if i < b then b else i):=by split <;> omega
   rcases aZ.mp h with rfl | h
   ·exact tW hb.1 h0
   ·rcases aZ.mp h with rfl | h
    ·exact tW hb.2 h0
    ·exact ih.2 a (aH _ h)
theorem insI_perm (x:Int):∀ l,(insI x l).Perm (x :: l)
 | []=>.refl _
 | y :: r=>by
  unfold insI
  split
  ·exact .refl _
  ·exact ((insI_perm x r).cons y).trans (.swap x y r)
theorem pO:∀ l,(yN l).Perm l
 | []=>.refl _
 | x :: r=>(insI_perm x _).trans ((pO r).cons x)
theorem vG (x:Int):∀ l,l.Pairwise (· ≤ ·)→(insI x l).Pairwise (· ≤ ·)
 | [],_=>by simp [insI]
 | y :: r,h=>by
  obtain ⟨h1,h2⟩:=jq.mp h
  unfold insI
  split
  ·next c =>
   refine jq.mpr ⟨fun a ha=>?_,h⟩
   rcases aZ.mp ha with rfl | z
   ·exact c
   ·exact tW c (h1 a z)
  ·next c =>
   refine jq.mpr ⟨fun a ha=>?_,vG x r h2⟩
   rcases aZ.mp ((insI_perm x r).mem_iff.mp ha) with rfl | z
   ·omega
   ·exact h1 a z
theorem rD:∀ l,(yN l).Pairwise (· ≤ ·)
 | []=>.nil
 | x :: r=>vG x _ (rD r)
end D3
variable {u:L2.HO} {kvs:List (D3.D × D3.D)} {d y:D3.D} {ds:List D3.D} {pl:Bool} {as:List Addr} {δ:D3.DS} {L:List Nat}
namespace D3
open PySem PySem.Spec PyProof.Rows L2 My
abbrev Ok:=Addr→Prop
abbrev St:=L2.St
class Chg (u:HO):Prop where
 ch:(∃ xs,u = .lst xs)∨(∃ kvs,u = .dK kvs)∨∃ kvs,u = .dT kvs
instance (xs:List V):Chg (.lst xs):=⟨.inl ⟨xs,rfl⟩⟩
instance (kvs:List (Key × V)):Chg (.dK kvs):=⟨.inr (.inl ⟨kvs,rfl⟩)⟩
instance (kvs:List (List Key × V)):Chg (.dT kvs):=⟨.inr (.inr ⟨kvs,rfl⟩)⟩
theorem Chg.frz {o:Obj} {u:HO} (h:Chg (.frz o u)):False:=by
 rcases h.ch with ⟨_,z⟩ | ⟨_,z⟩ | ⟨_,z⟩ <;> cases z
theorem Chg.tup {xs:List V} (h:Chg (.tup xs)):False:=by
 rcases h.ch with ⟨_,z⟩ | ⟨_,z⟩ | ⟨_,z⟩ <;> cases z
def Chd (o:Option HO):Prop:=∃ u,o=some u∧Chg u
theorem Chd.ne {o:Option HO} (h:Chd o):o ≠ none:=by
 obtain ⟨u,rfl,_⟩:=h
 simp
def SqK (K:PySem.W.Frag) (H:Hp) (a:Addr) (xs:List V):Prop:=(∃ o,H a=some (.frz o (.lst xs))) ∨
 ∃ (o:Obj) (its:Array Value) (n:Nat),K.lookup a=some o∧o.cls = .type "list" ∧ o.dict=none∧o.data = .seq its n∧its.size ≤ sizeLine∧Vals xs its.toList
theorem SqK.sq (h:SqK K H a xs):SqL K H a xs:=by
 rcases h with ⟨o,h⟩ | h
 ·exact .inl (.inr ⟨o,h⟩)
 ·exact .inr h
def iW (H:Hp) (a:Addr) (xs:List V):Prop:=H a=some (.tup xs)
theorem iW.sq (h:iW H a xs):SqT K H a xs:=.inl (.inl h)
theorem iW.same (e:Same H H') (h:iW H a xs):iW H' a xs:=e _ _ h
theorem iW.upd [cu:Chg u] (h:H a=some u) (q:iW H b xs):iW (upd H a o) b xs:=by
 unfold iW
 rw [bx (gH q h (by intro z;subst z;exact cu.tup))]
 exact q
def dk0:List (D × D)→List (Key × V)
 | []=>[]
 | (.int i,.int j) :: r=>(.inl i,.int j) :: dk0 r
 | (.int i,.bool true) :: r=>(.inl i,.bl true) :: dk0 r
 | _ :: r=>(.inl 0,.non) :: dk0 r
def tkK:List D→Option (List Key)
 | []=>some []
 | .int i :: r=>(tkK r).map (.inl i :: ·)
 | _=>none
def tkD:List (D × D)→Option (List (List Key × V))
 | []=>some []
 | (.tuple l,.bool true) :: r=>(tkK l).bind fun k=>(tkD r).map ((k,.bl true) :: ·)
 | _=>none
def dh0 (kvs:List (D × D)):HO:=match kvs with
 | []=>.dK []
 | q :: r=>match tkD (q :: r) with
  | some ts=>.dT ts
  | none=>.dK (dk0 (q :: r))
theorem Lz (kvs:List (D × D)):(∃ ks,dh0 kvs = .dK ks)∨∃ ks,dh0 kvs = .dT ks:=by
 cases kvs with
 | nil=>exact .inl ⟨_,rfl⟩
 | cons q r =>
  unfold dh0
  dsimp only
  split
  ·exact .inr ⟨_,rfl⟩
  ·exact .inl ⟨_,rfl⟩
instance (kvs:List (D × D)):Chg (dh0 kvs):=⟨by
 rcases Lz kvs with ⟨ks,z⟩ | ⟨ks,z⟩
 ·exact .inr (.inl ⟨ks,z⟩)
 ·exact .inr (.inr ⟨ks,z⟩)⟩
def scV:D→V
 | .int i=>.int i
 | _=>.non
def scs:List D→Bool
 | []=>true
 | .int _ :: r=>scs r
 | .none :: r=>scs r
 | _=>false
def TV (H:Hp) (v:V) (d:D):Prop:=(v = .non∧d = .none)∨∃ b ds,v = .ref b∧d = .tuple ds∧iW H b (ds.map scV)∧scs ds=true
inductive TVs (H:Hp):List (Key × V)→List (D × D)→Prop
 | nil:TVs H [] []
 | cons {i:Int} {v:V} {d:D} {r:List (Key × V)} {r':List (D × D)}:TV H v d→TVs H r r'→TVs H ((.inl i,v) :: r) ((.int i,d) :: r')
theorem TV.imp (h:∀ b xs,iW H b xs→iW H' b xs) {v:V} {d:D} (q:TV H v d):TV H' v d:=by
 rcases q with q | ⟨b,ds,h1,h2,h3,h4⟩
 ·exact .inl q
 ·exact .inr ⟨b,ds,h1,h2,h _ _ h3,h4⟩
theorem TVs.imp (h:∀ b xs,iW H b xs→iW H' b xs) {ks:List (Key × V)} {kvs:List (D × D)} (q:TVs H ks kvs):TVs H' ks kvs:=by
 induction q with
 | nil=>exact .nil
 | cons t _ ih=>exact .cons (t.imp h) ih
def xq:List (D × D)→Bool
 | []=>true
 | (_,.int _) :: r=>xq r
 | (_,.bool _) :: r=>xq r
 | _=>false
def TW (H:Hp) (v:V) (m:List Int) (z:Int):Prop:=∃ b c,v = .ref b∧iW H b [.ref c,.int z]∧iW H c (m.map V.int)
inductive TTs (H:Hp):List (List Key × V)→List (D × D)→Prop
 | nil:TTs H [] []
 | cons {k m:List Int} {z:Int} {v:V} {r:List (List Key × V)} {r':List (D × D)}:TW H v m z→TTs H r r'→TTs H ((k.map Sum.inl,v) :: r) ((.tuple (k.map .int),.tuple [.tuple (m.map .int),.int z]) :: r')
theorem TTs.imp (h:∀ b xs,iW H b xs→iW H' b xs) {ks:List (List Key × V)} {kvs:List (D × D)} (q:TTs H ks kvs):TTs H' ks kvs:=by
 induction q with
 | nil=>exact .nil
 | cons t _ ih =>
  obtain ⟨b,c,h1,h2,h3⟩:=t
  exact .cons ⟨b,c,h1,h _ _ h2,h _ _ h3⟩ ih
def DH (H:Hp) (u:HO) (kvs:List (D × D)):Prop:=(xq kvs=true∧u=dh0 kvs)∨(∃ ks,u = .dK ks∧TVs H ks kvs)∨∃ q ks,u = .dT (q :: ks)∧TTs H (q :: ks) kvs
theorem DH.imp (h:∀ b xs,iW H b xs→iW H' b xs) {u:HO} {kvs:List (D × D)} (q:DH H u kvs):DH H' u kvs:=by
 rcases q with q | ⟨ks,q1,q2⟩ | ⟨k,ks,q1,q2⟩
 ·exact .inl q
 ·exact .inr (.inl ⟨ks,q1,q2.imp h⟩)
 ·exact .inr (.inr ⟨k,ks,q1,q2.imp h⟩)
theorem DH.same (q:DH H u kvs) (e:Same H H'):DH H' u kvs:=q.imp fun _ _ h=>iW.same e h
theorem DH.upd {u':HO} [cu:Chg u] {kvs:List (D × D)} (q:DH H u' kvs) (h:H a=some u):DH (upd H a o) u' kvs:=q.imp fun _ _ z=>iW.upd h z
theorem DH.or (q:DH H u kvs):(∃ ks,u = .dK ks)∨∃ ks,u = .dT ks:=by
 rcases q with ⟨_,rfl⟩ | ⟨ks,rfl,_⟩ | ⟨k,ks,rfl,_⟩
 ·exact Lz kvs
 ·exact .inl ⟨ks,rfl⟩
 ·exact .inr ⟨_,rfl⟩
theorem DH.chg (q:DH H u kvs):Chg u:=⟨.inr q.or⟩
theorem DH.old (q:DH H u kvs) (h:xq kvs=true):u=dh0 kvs:=by
 rcases q with q | ⟨ks,rfl,q⟩ | ⟨k,ks,rfl,q⟩
 ·exact q.2
 ·cases q with
  | nil=>rfl
  | cons t _ =>
   rcases t with ⟨_,rfl⟩ | ⟨_,_,_,rfl,_,_⟩ <;> cases h
 ·cases q with
  | cons _ _=>cases h
mutual
inductive RA (K:PySem.W.Frag) (ok:Ok) (pl:Bool) (H:Hp):V→D→Prop
 | non:RA K ok pl H .non .none
 | bl (b:Bool):RA K ok pl H (.bl b) (.bool b)
 | int (i:Int):RA K ok pl H (.int i) (.int i)
 | str (x:Str):RA K ok pl H (.str x) (.str x)
 | lst {a:Addr} {xs:List V} {ds:List D}:H a=some (.lst xs)→ok a→RAs K ok pl H xs ds→RA K ok pl H (.ref a) (.list ds)
 | lsk {a:Addr} {xs:List V} {ds:List D}:SqK K H a xs→pl=true→RAs K ok pl H xs ds→RA K ok pl H (.ref a) (.list ds)
 | tup {a:Addr} {xs:List V} {ds:List D}:iW H a xs→RAs K ok pl H xs ds→RA K ok pl H (.ref a) (.tuple ds)
 | dic {a:Addr} {u:HO} {kvs:List (D × D)}:H a=some u→DH H u kvs→ok a→RA K ok pl H (.ref a) (.dict kvs)
 | dik {a:Addr} {u:HO} {kvs:List (D × D)} {o:Obj}:H a=some (.frz o u)→DH H u kvs→pl=true→RA K ok pl H (.ref a) (.dict kvs)
inductive RAs (K:PySem.W.Frag) (ok:Ok) (pl:Bool) (H:Hp):List V→List D→Prop
 | nil:RAs K ok pl H [] []
 | cons {v:V} {d:D} {vs:List V} {ds:List D}:RA K ok pl H v d→RAs K ok pl H vs ds→RAs K ok pl H (v :: vs) (d :: ds)
end
section
variable {K:PySem.W.Frag} {ok ok':Ok} {pl pl':Bool} {H H':Hp}
theorem RA.ind {P:V→D→Prop} {Q:List V→List D→Prop} (c1:P .non .none) (c2:∀ b,P (.bl b) (.bool b)) (c3:∀ i,P (.int i) (.int i)) (c4:∀ x,P (.str x) (.str x))
 (c5:∀ {a:Addr} {xs:List V} {ds:List D},H a=some (.lst xs)→ok a→Q xs ds→P (.ref a) (.list ds)) (c6:∀ {a:Addr} {xs:List V} {ds:List D},SqK K H a xs→pl=true→Q xs ds→P (.ref a) (.list ds)) (c7:∀ {a:Addr} {xs:List V} {ds:List D},iW H a xs→Q xs ds→P (.ref a) (.tuple ds))
 (c8:∀ {a:Addr} {u:HO} {kvs:List (D × D)},H a=some u→DH H u kvs→ok a→P (.ref a) (.dict kvs)) (c9:∀ {a:Addr} {u:HO} {kvs:List (D × D)} {o:Obj},H a=some (.frz o u)→DH H u kvs→pl=true→P (.ref a) (.dict kvs)) (c10:Q [] []) (c11:∀ {v:V} {d:D} {vs:List V} {ds:List D},P v d→Q vs ds→Q (v :: vs) (d :: ds)) :
 (∀ {v:V} {d:D},RA K ok pl H v d→P v d)∧∀ {v:List V} {d:List D},RAs K ok pl H v d→Q v d :=
 ⟨fun h=>RA.rec (motive_1:=fun v d _=>P v d) (motive_2:=fun v d _=>Q v d) c1 c2 c3 c4 (fun h o _ q=>c5 h o q) (fun h o _ q=>c6 h o q) (fun h _ q=>c7 h q) (fun h g o=>c8 h g o) (fun h g o=>c9 h g o) c10 (fun _ _ a q=>c11 a q) h,
  fun h=>RAs.rec (motive_1:=fun v d _=>P v d) (motive_2:=fun v d _=>Q v d) c1 c2 c3 c4 (fun h o _ q=>c5 h o q) (fun h o _ q=>c6 h o q) (fun h _ q=>c7 h q) (fun h g o=>c8 h g o) (fun h g o=>c9 h g o) c10 (fun _ _ a q=>c11 a q) h⟩
theorem RA.imp2 (ho:∀ a,ok a→ok' a) (hp:pl=true→pl'=true):(∀ {v:V} {d:D},RA K ok pl H v d→RA K ok' pl' H v d)∧∀ {v:List V} {d:List D},RAs K ok pl H v d→RAs K ok' pl' H v d :=
 RA.ind .non .bl .int .str (fun h o q=>.lst h (ho _ o) q) (fun h o q=>.lsk h (hp o) q) (fun h q=>.tup h q) (fun h g o=>.dic h g (ho _ o)) (fun h g o=>.dik h g (hp o)) .nil .cons
theorem RA.imp (ho:∀ a,ok a→ok' a) (hp:pl=true→pl'=true) {v:V} {d:D} (h:RA K ok pl H v d):RA K ok' pl' H v d:=(RA.imp2 ho hp).1 h
theorem RAs.imp (ho:∀ a,ok a→ok' a) (hp:pl=true→pl'=true) {v:List V} {d:List D} (h:RAs K ok pl H v d):RAs K ok' pl' H v d:=(RA.imp2 ho hp).2 h
theorem SqK.same (e:Same H H') (h:SqK K H a xs):SqK K H' a xs:=by
 rcases h with ⟨o,h⟩ | h
 ·exact .inl ⟨o,e _ _ h⟩
 ·exact .inr h
theorem RA.same2 (e:Same H H'):(∀ {v:V} {d:D},RA K ok pl H v d→RA K ok pl H' v d)∧∀ {v:List V} {d:List D},RAs K ok pl H v d→RAs K ok pl H' v d :=
 RA.ind .non .bl .int .str (fun h o q=>.lst (e _ _ h) o q) (fun h o q=>.lsk (h.same e) o q) (fun h q=>.tup (iW.same e h) q) (fun h g o=>.dic (e _ _ h) (g.same e) o) (fun h g o=>.dik (e _ _ h) (g.same e) o) .nil .cons
theorem RA.same (e:Same H H') {v:V} {d:D} (h:RA K ok pl H v d):RA K ok pl H' v d:=(RA.same2 e).1 h
theorem RAs.same (e:Same H H') {v:List V} {d:List D} (h:RAs K ok pl H v d):RAs K ok pl H' v d:=(RA.same2 e).2 h
theorem RA.flat2:(∀ {v:V} {d:D},RA K ok pl H v d→flat d=true→RA K ok' pl' H v d)∧∀ {v:List V} {d:List D},RAs K ok pl H v d→flats d=true→RAs K ok' pl' H v d :=
 RA.ind (fun _=>.non) (fun b _=>.bl b) (fun i _=>.int i) (fun x _=>.str x) (fun _ _ _ h=>by simp [D3.flat] at h) (fun _ _ _ h=>by simp [D3.flat] at h) (fun t q h=>.tup t (q (by simpa [D3.flat] using h))) (fun _ _ _ h=>by simp [D3.flat] at h) (fun _ _ _ h=>by simp [D3.flat] at h) (fun _=>.nil) fun a q h=>by
  rw [flats,aY] at h
  exact .cons (a h.1) (q h.2)
theorem RA.flat (hf:flat d=true) (h:RA K ok pl H v d):RA K ok' pl' H v d:=RA.flat2.1 h hf
theorem RAs.flat {v:List V} {d:List D} (hf:flats d=true) (h:RAs K ok pl H v d):RAs K ok' pl' H v d:=RA.flat2.2 h hf
theorem SqK.upd [cu:Chg u] (h:H a=some u) (q:SqK K H b xs):SqK K (upd H a o) b xs:=by
 rcases q with ⟨o',q⟩ | q
 ·refine .inl ⟨o',?_⟩
  rw [bx (gH q h (by intro z;subst z;first | exact cu.frz | exact cu.tup))]
  exact q
 ·exact .inr q
theorem RA.upd2 [cu:Chg u] (h:H a=some u) (na:¬ ok a):(∀ {v:V} {d:D},RA K ok pl H v d→RA K ok pl (upd H a o) v d)∧∀ {v:List V} {d:List D},RAs K ok pl H v d→RAs K ok pl (upd H a o) v d :=
 RA.ind .non .bl .int .str (fun e k q=>.lst (by rw [bx (by intro z;subst z;exact na k)];exact e) k q) (fun e k q=>.lsk (e.upd h) k q) (fun e q=>.tup (iW.upd h e) q) (fun e g k=>.dic (by rw [bx (by intro z;subst z;exact na k)];exact e) (g.upd h) k) (fun e g k=>.dik (by rw [bx (gH e h (by intro z;subst z;exact cu.frz))];exact e) (g.upd h) k) .nil .cons
theorem RA.upd [cu:Chg u] (h:H a=some u) (na:¬ ok a) {v:V} {d:D} (r:RA K ok pl H v d):RA K ok pl (upd H a o) v d:=(RA.upd2 h na).1 r
theorem RAs.upd [cu:Chg u] (h:H a=some u) (na:¬ ok a) {v:List V} {d:List D} (r:RAs K ok pl H v d):RAs K ok pl (upd H a o) v d:=(RA.upd2 h na).2 r
theorem RA.track2:(∀ {v:V} {d:D},RA K ok pl H v d→RA K (fun b=>ok b∧H b ≠ none) pl H v d)∧∀ {v:List V} {d:List D},RAs K ok pl H v d→RAs K (fun b=>ok b∧H b ≠ none) pl H v d :=
 RA.ind .non .bl .int .str (fun e k q=>.lst e ⟨k,by rw [e];simp⟩ q) (fun e k q=>.lsk e k q) (fun e q=>.tup e q) (fun e g k=>.dic e g ⟨k,by rw [e];simp⟩) (fun e g k=>.dik e g k) .nil .cons
theorem RA.track (h:RA K ok pl H v d):RA K (fun b=>ok b∧H b ≠ none) pl H v d:=RA.track2.1 h
theorem RAs.track {v:List V} {d:List D} (h:RAs K ok pl H v d):RAs K (fun b=>ok b∧H b ≠ none) pl H v d:=RA.track2.2 h
theorem RAs.length:∀ {v:List V} {d:List D},RAs K ok pl H v d→v.length=d.length
 | _,_,.nil=>rfl
 | _,_,.cons _ q=>by simp [RAs.length q]
theorem RAs.get:∀ {v:List V} {d:List D} {i:Nat} {x:D},RAs K ok pl H v d→d[i]? = some x→∃ y,v[i]? = some y∧RA K ok pl H y x
 | _,_,_,_,.nil,h=>by simp at h
 | _,_,0,_,.cons a _,h=>by simp at h;subst h;exact ⟨_,rfl,a⟩
 | _,_,i + 1,_,.cons _ q,h=>by
  obtain ⟨y,e,r⟩:=RAs.get (i:=i) q (by simpa using h)
  exact ⟨y,by simpa using e,r⟩
theorem RAs.append:∀ {v v':List V} {d d':List D},RAs K ok pl H v d→RAs K ok pl H v' d'→RAs K ok pl H (v++v') (d++d')
 | _,_,_,_,.nil,q=>q
 | _,_,_,_,.cons a r,q=>.cons a (RAs.append r q)
theorem RAs.set {x:V} (r:RA K ok pl H x y):∀ {v:List V} {d:List D} (i:Nat),RAs K ok pl H v d→RAs K ok pl H (v.set i x) (d.set i y)
 | _,_,_,.nil=>.nil
 | _,_,0,.cons _ q=>.cons r q
 | _,_,i + 1,.cons a q=>.cons a (RAs.set r i q)
theorem RAs.take:∀ {v:List V} {d:List D} (n:Nat),RAs K ok pl H v d→RAs K ok pl H (v.take n) (d.take n)
 | _,_,0,_=>by simp;exact .nil
 | _,_,_ + 1,.nil=>.nil
 | _,_,n + 1,.cons a q=>.cons a (RAs.take n q)
theorem RAs.drop:∀ {v:List V} {d:List D} (n:Nat),RAs K ok pl H v d→RAs K ok pl H (v.drop n) (d.drop n)
 | _,_,0,q=>q
 | _,_,_ + 1,.nil=>.nil
 | _,_,n + 1,.cons _ q=>RAs.drop n q
theorem RAs.reverse:∀ {v:List V} {d:List D},RAs K ok pl H v d→RAs K ok pl H v.reverse d.reverse
 | _,_,.nil=>.nil
 | _,_,.cons a q=>by
  rw [lH,lH]
  exact (RAs.reverse q).append (.cons a .nil)
theorem RA.rd2:(∀ {v:V} {d:D},RA K ok pl H v d→d.canLay0=true→RdV K H v d)∧∀ {v:List V} {d:List D},RAs K ok pl H v d→PyData.canLayAll0 d=true→RdVs K H v d :=
 RA.ind (fun _=>.non) (fun b _=>.bl b) (fun i _=>.int i) (fun x _=>.str x) (fun e _ q h=>.lst (SqL.of e) (q (by simpa [PyData.canLay0] using h))) (fun e _ q h=>.lst e.sq (q (by simpa [PyData.canLay0] using h))) (fun e q h=>.tup e.sq (q (by simpa [PyData.canLay0] using h))) (fun _ _ _ h=>by simp [PyData.canLay0] at h) (fun _ _ _ h=>by simp [PyData.canLay0] at h) (fun _=>.nil) fun a q h=>by
  rw [PyData.canLayAll0,aY] at h
  exact .cons (a h.1) (q h.2)
theorem RA.rd (hf:d.canLay0=true) (h:RA K ok pl H v d):RdV K H v d:=RA.rd2.1 h hf
theorem RA.intE {i:Int} (h:RA K ok pl H v (.int i)):v = .int i:=by cases h;rfl
theorem RA.blE {b:Bool} (h:RA K ok pl H v (.bool b)):v = .bl b:=by cases h;rfl
theorem RA.lstE (h:RA K ok pl H v (.list ds)):∃ a xs,v = .ref a∧SqL K H a xs∧RAs K ok pl H xs ds:=by
 cases h with
 | lst e k q=>exact ⟨_,_,rfl,SqL.of e,q⟩
 | lsk e k q=>exact ⟨_,_,rfl,e.sq,q⟩
theorem RA.dicU (h:RA K ok pl H v (.dict kvs)):∃ a u,v = .ref a∧L2.Rd H a u∧DH H u kvs:=by
 cases h with
 | dic e g k=>exact ⟨_,_,rfl,.inl e,g⟩
 | dik e g k=>exact ⟨_,_,rfl,.inr ⟨_,e⟩,g⟩
theorem RA.dicE (h:RA K ok pl H v (.dict kvs)) (ho:xq kvs=true):∃ a,v = .ref a∧L2.Rd H a (dh0 kvs):=by
 obtain ⟨a,u,h1,h2,h3⟩:=h.dicU
 rw [h3.old ho] at h2
 exact ⟨a,h1,h2⟩
theorem RA.tupE (h:RA K ok pl H v (.tuple ds)):∃ a xs,v = .ref a∧SqT K H a xs∧RAs K ok pl H xs ds:=by
 cases h with
 | tup e q=>exact ⟨_,_,rfl,e.sq,q⟩
theorem RA.tupE0 (h:RA K ok pl H v (.tuple ds)):∃ a xs,v = .ref a∧iW H a xs∧RAs K ok pl H xs ds:=by
 cases h with
 | tup e q=>exact ⟨_,_,rfl,e,q⟩
end
inductive Fl where
 | A
 | O
 | L
 | N
 | M
 deriving DecidableEq
def isN:Option Fl→Bool
 | some .N=>true
 | some .M=>true
 | _=>false
mutual
inductive RT (K:PySem.W.Frag) (H:Hp):V→D→List Addr→Prop
 | non:RT K H .non .none []
 | bl (b:Bool):RT K H (.bl b) (.bool b) []
 | int (i:Int):RT K H (.int i) (.int i) []
 | str (x:Str):RT K H (.str x) (.str x) []
 | lst {a:Addr} {xs:List V} {ds:List D} {as:List Addr}:H a=some (.lst xs)→RTs K H xs ds as→RT K H (.ref a) (.list ds) (a :: as)
 | tup {a:Addr} {xs:List V} {ds:List D} {as:List Addr}:iW H a xs→RTs K H xs ds as→RT K H (.ref a) (.tuple ds) as
 | dic {a:Addr} {u:HO} {kvs:List (D × D)}:H a=some u→DH H u kvs→RT K H (.ref a) (.dict kvs) [a]
inductive RTs (K:PySem.W.Frag) (H:Hp):List V→List D→List Addr→Prop
 | nil:RTs K H [] [] []
 | cons {v:V} {d:D} {vs:List V} {ds:List D} {as bs:List Addr}:RT K H v d as→RTs K H vs ds bs→RTs K H (v :: vs) (d :: ds) (as++bs)
end
section
variable {K:PySem.W.Frag} {H H':Hp}
theorem RT.ind {P:V→D→List Addr→Prop} {Q:List V→List D→List Addr→Prop} (c1:P .non .none []) (c2:∀ b,P (.bl b) (.bool b) []) (c3:∀ i,P (.int i) (.int i) []) (c4:∀ x,P (.str x) (.str x) [])
 (c5:∀ {a:Addr} {xs:List V} {ds:List D} {as:List Addr},H a=some (.lst xs)→Q xs ds as→P (.ref a) (.list ds) (a :: as)) (c7:∀ {a:Addr} {xs:List V} {ds:List D} {as:List Addr},iW H a xs→Q xs ds as→P (.ref a) (.tuple ds) as)
 (c8:∀ {a:Addr} {u:HO} {kvs:List (D × D)},H a=some u→DH H u kvs→P (.ref a) (.dict kvs) [a]) (c10:Q [] [] []) (c11:∀ {v:V} {d:D} {vs:List V} {ds:List D} {as bs:List Addr},P v d as→Q vs ds bs→Q (v :: vs) (d :: ds) (as++bs)) :
 (∀ {v:V} {d:D} {as:List Addr},RT K H v d as→P v d as)∧∀ {v:List V} {d:List D} {as:List Addr},RTs K H v d as→Q v d as :=
 ⟨fun h=>RT.rec (motive_1:=fun v d as _=>P v d as) (motive_2:=fun v d as _=>Q v d as) c1 c2 c3 c4 (fun h _ q=>c5 h q) (fun h _ q=>c7 h q) (fun h g=>c8 h g) c10 (fun _ _ a q=>c11 a q) h,
  fun h=>RTs.rec (motive_1:=fun v d as _=>P v d as) (motive_2:=fun v d as _=>Q v d as) c1 c2 c3 c4 (fun h _ q=>c5 h q) (fun h _ q=>c7 h q) (fun h g=>c8 h g) c10 (fun _ _ a q=>c11 a q) h⟩
theorem RT.ra2 {ok:Ok}:(∀ {v:V} {d:D} {as:List Addr},RT K H v d as→(∀ a ∈ as,ok a)→RA K ok pl H v d)∧∀ {v:List V} {d:List D} {as:List Addr},RTs K H v d as→(∀ a ∈ as,ok a)→RAs K ok pl H v d :=
 RT.ind (fun _=>.non) (fun b _=>.bl b) (fun i _=>.int i) (fun x _=>.str x) (fun e q h=>.lst e (h _ aJ) (q fun a ha=>h a (aH _ ha))) (fun e q h=>.tup e (q h)) (fun e g h=>.dic e g (h _ aJ)) (fun _=>.nil) fun e q h=>.cons (e fun a ha=>h a (cC _ ha)) (q fun a ha=>h a (bQ _ ha))
theorem RT.ra {ok:Ok} (r:RT K H v d as) (h:∀ a ∈ as,ok a):RA K ok pl H v d:=RT.ra2.1 r h
theorem RT.same2 (s:Same H H'):(∀ {v:V} {d:D} {as:List Addr},RT K H v d as→RT K H' v d as)∧∀ {v:List V} {d:List D} {as:List Addr},RTs K H v d as→RTs K H' v d as :=
 RT.ind .non .bl .int .str (fun e q=>.lst (s _ _ e) q) (fun e q=>.tup (iW.same s e) q) (fun e g=>.dic (s _ _ e) (g.same s)) .nil .cons
theorem RT.same (s:Same H H') {v:V} {d:D} {as:List Addr} (h:RT K H v d as):RT K H' v d as:=(RT.same2 s).1 h
theorem RT.upd2 [cu:Chg u] (h:H a=some u):(∀ {v:V} {d:D} {as:List Addr},RT K H v d as→a ∉ as→RT K (upd H a o) v d as)∧∀ {v:List V} {d:List D} {as:List Addr},RTs K H v d as→a ∉ as→RTs K (upd H a o) v d as :=
 RT.ind (fun _=>.non) (fun b _=>.bl b) (fun i _=>.int i) (fun x _=>.str x) (fun e q na=>.lst (by rw [bx (fun z=>na (by rw [← z];exact aJ))];exact e) (q fun z=>na (aH _ z))) (fun e q na=>.tup (iW.upd h e) (q na)) (fun e g na=>.dic (by rw [bx (fun z=>na (by rw [← z];exact aJ))];exact e) (g.upd h)) (fun _=>.nil) fun e q na=>.cons (e fun z=>na (cC _ z)) (q fun z=>na (bQ _ z))
theorem RT.upd [cu:Chg u] (h:H a=some u) {v:V} {d:D} {as:List Addr} (na:a ∉ as) (r:RT K H v d as):RT K (upd H a o) v d as:=(RT.upd2 h).1 r na
theorem RT.chd2:(∀ {v:V} {d:D} {as:List Addr},RT K H v d as→∀ a ∈ as,Chd (H a))∧∀ {v:List V} {d:List D} {as:List Addr},RTs K H v d as→∀ a ∈ as,Chd (H a) :=
 RT.ind (fun _ h=>by cases h) (fun _ _ h=>by cases h) (fun _ _ h=>by cases h) (fun _ _ h=>by cases h) (fun e q a h=>by
  rcases aZ.mp h with rfl | z
  ·exact ⟨_,e,inferInstance⟩
  ·exact q a z) (fun _ q=>q) (fun e g a h=>by rw [aN.mp h];exact ⟨_,e,g.chg⟩) (fun _ h=>by cases h) fun e q a h=>by
  rcases bK.mp h with z | z
  ·exact e a z
  ·exact q a z
theorem RT.chd (r:RT K H v d as):∀ a ∈ as,Chd (H a):=RT.chd2.1 r
theorem RTs.chd {v:List V} {d:List D} (r:RTs K H v d as):∀ a ∈ as,Chd (H a):=RT.chd2.2 r
theorem RT.tracked (h:RT K H v d as) (a:Addr) (ha:a ∈ as):H a ≠ none:=(h.chd a ha).ne
theorem RA.rt2 {ok:Ok}:(∀ {v:V} {d:D},RA K ok false H v d→∃ as,RT K H v d as∧as.length=nl d∧∀ a ∈ as,ok a)∧∀ {v:List V} {d:List D},RAs K ok false H v d→∃ as,RTs K H v d as∧as.length=nls d∧∀ a ∈ as,ok a :=
 RA.ind ⟨[],.non,rfl,fun _ h=>by cases h⟩ (fun b=>⟨[],.bl b,rfl,fun _ h=>by cases h⟩) (fun i=>⟨[],.int i,rfl,fun _ h=>by cases h⟩) (fun x=>⟨[],.str x,rfl,fun _ h=>by cases h⟩) (fun e k q=>by
  obtain ⟨as,h1,h2,h3⟩:=q
  refine ⟨_ :: as,.lst e h1,by rw [bM,h2,nl],fun a ha=>?_⟩
  rcases aZ.mp ha with rfl | z
  ·exact k
  ·exact h3 a z) (fun _ k _=>by cases k) (fun e q=>by
  obtain ⟨as,h1,h2,h3⟩:=q
  exact ⟨as,.tup e h1,by rw [h2,nl],h3⟩) (fun e g k=>⟨[_],.dic e g,by simp [nl],fun a ha=>by rw [aN.mp ha];exact k⟩) (fun _ _ k=>by cases k) ⟨[],.nil,rfl,fun _ h=>by cases h⟩ fun e q=>by
  obtain ⟨as,h1,h2,h3⟩:=e
  obtain ⟨bs,g1,g2,g3⟩:=q
  refine ⟨as++bs,.cons h1 g1,by rw [aW,h2,g2,nls],fun a ha=>?_⟩
  rcases bK.mp ha with z | z
  ·exact h3 a z
  ·exact g3 a z
theorem RA.rt {ok:Ok} (h:RA K ok false H v d):∃ as,RT K H v d as∧as.length=nl d∧∀ a ∈ as,ok a:=RA.rt2.1 h
end
def tabs:List (Addr × Str × Pos):=[(109, "turns.<locals>.<lambda>", ⟨36,42,36,72⟩)]
def Tb (H:Hp):Prop:=∀ t ∈ tabs,H t.1=some (.tbl t.2.1 t.2.2)
theorem Tb.same (t:Tb H) (s:Same H H'):Tb H':=fun x hx=>s _ _ (t x hx)
structure Gh where
 H0:Hp
 HF:Hp
 pk:Nat→Option Addr
 pn:Nat→List Addr
 tb:Tb H0
structure Ow where
 s:Nat→Option Addr
 n:Nat→List Addr:=fun _=>[]
instance:CoeFun Ow (fun _=>Nat→Option Addr):=⟨Ow.s⟩
abbrev ow0:Ow:=⟨fun _=>none,fun _=>[]⟩
def okA (ow:Ow):Ok:=fun a=>(∀ i,ow i ≠ some a)∧∀ i,a ∉ ow.n i
structure Rel (K:PySem.W.Frag) (fl:List Fl) (G:Gh) (ow:Ow) (σ:St) (H:Hp) (δ:DS):Prop where
 s0:Same G.H0 G.HF
 s1:Same G.HF H
 len:σ.length=δ.length
 own:∀ i a,ow i=some a→G.H0 a=none∧((fl[i]? = some .O∧G.HF a=none)∨(fl[i]? = some .L∧∃ xs,G.HF a=some (.lst xs))) ∧
  ∃ xs ds,σ[i]? = some (some (.ref a))∧H a=some (.lst xs)∧RAs K (okA ow) true H xs ds∧δ[i]? = some (some (.d (.list ds)))
 inj:∀ i j a,ow i=some a→ow j=some a→i=j
 pin:∀ i,fl[i]? = some .L→ow i=G.pk i
 dat:∀ i d,δ[i]? = some (some (.d d))→isN fl[i]? = false→ow i=none→∃ v,σ[i]? = some (some v)∧RA K (okA ow) true H v d
 oo:∀ i d,δ[i]? = some (some (.d d))→isN fl[i]? = false→fl[i]? ≠ some .A→ow i=none→flat d=true
 nt:∀ i a,a ∈ ow.n i→G.H0 a=none∧Chd (H a)∧((fl[i]? = some .N∧G.HF a=none)∨fl[i]? = some .M)
 nd:∀ i j a,a ∈ ow.n i→a ∈ ow.n j→i=j
 ns:∀ i j a,a ∈ ow.n i→ow j ≠ some a
 np:∀ i,fl[i]? = some .M→ow.n i=G.pn i
 nr:∀ i d,isN fl[i]? = true→δ[i]? = some (some (.d d))→∃ v,σ[i]? = some (some v)∧RT K H v d (ow.n i)∧(ow.n i).Nodup
theorem Rel.tb {fl:List Fl} {G:Gh} {ow:Ow} {σ:St} (R:Rel K fl G ow σ H δ):Tb H:=G.tb.same (R.s0.trans R.s1)
theorem Rel.same0 {fl:List Fl} {G:Gh} {ow:Ow} {σ:St} (R:Rel K fl G ow σ H δ):Same G.H0 H:=R.s0.trans R.s1
theorem Rel.grow {fl:List Fl} {G:Gh} {ow:Ow} {σ:St} (R:Rel K fl G ow σ H δ) (e:Same H H'):Rel K fl G ow σ H' δ :=
 ⟨R.s0,R.s1.trans e,R.len,fun i a h=>by
  obtain ⟨h0,hf,xs,ds,h1,h2,h3,h4⟩:=R.own i a h
  exact ⟨h0,hf,xs,ds,h1,e _ _ h2,h3.same e,h4⟩,R.inj,R.pin,fun i d h1 hn h2=>by
  obtain ⟨v,h3,h4⟩:=R.dat i d h1 hn h2
  exact ⟨v,h3,h4.same e⟩,R.oo,fun i a h=>by
  obtain ⟨h1,h2,h3⟩:=R.nt i a h
  exact ⟨h1,(let ⟨u,z,c⟩:=h2;⟨u,e _ _ z,c⟩),h3⟩,R.nd,R.ns,R.np,fun i d h1 h2=>by
  obtain ⟨v,h3,h4,h5⟩:=R.nr i d h1 h2
  exact ⟨v,h3,h4.same e,h5⟩⟩
inductive Kd where
 | P
 | B (L:List Nat)
 | A
 | R
 | F
 | C
 | FC
 | T
def ok1:Ok:=fun _=>True
def ok0:Ok:=fun _=>False
def okN (H:Hp):Ok:=fun a=>H a=none
def Rs (K:PySem.W.Frag) (H0:Hp) (ow:Ow) (Hb H:Hp):Kd→V→D→Prop
 | .P,v,d=>RA K ok1 true H v d
 | .B L,v,d=>RA K (okA ow) true H v d∨∃ i ∈ L,∃ a xs ds,ow i=some a∧v = .ref a∧d = .list ds∧H a=some (.lst xs)∧RAs K (okA ow) true H xs ds
 | .A,v,d=>RA K (okA ow) true H v d
 | .R,v,d=>RA K (okN H0) false H v d
 | .F,v,d=>(flat d=true∧RA K ok0 false H v d)∨∃ a xs ds,v = .ref a∧d = .list ds∧Hb a=none∧H a=some (.lst xs)∧RAs K (fun b=>okA ow b∧b ≠ a) true H xs ds
 | .C,v,d=>RA K (okN Hb) false H v d
 | .T,v,d=>∃ as,RT K H v d as∧as.Nodup∧∀ a ∈ as,Hb a=none
 | .FC,v,d=>(flat d=true∧RA K ok0 false H v d)∨∃ a xs ds,v = .ref a∧d = .list ds∧Hb a=none∧H a=some (.lst xs)∧RAs K (fun b=>okN Hb b∧b ≠ a) false H xs ds
section
variable {K:PySem.W.Frag} {Hb H H':Hp} {fl:List Fl} {G:Gh} {ow:Ow} {σ:St} {δ:DS} {v:V} {d:D}
theorem Ay (R:Rel K fl G ow σ Hb δ) {a:Addr} (h:Hb a=none):okA ow a:=⟨fun i e=>(by
 obtain ⟨_,_,xs,_,_,h2,_⟩:=R.own i a e
 rw [h] at h2
 cases h2),fun i e=>(R.nt i a e).2.1.ne h⟩
theorem XR (R:Rel K fl G ow σ Hb δ) {a:Addr} (h:Hb a=none):okN G.H0 a:=R.same0.free h
theorem Rs.FC_F (R:Rel K fl G ow σ Hb δ) (h:Rs K G.H0 ow Hb H .FC v d):Rs K G.H0 ow Hb H .F v d:=by
 rcases h with h | ⟨a,xs,ds,h1,h2,h3,h4,h5⟩
 ·exact .inl h
 ·exact .inr ⟨a,xs,ds,h1,h2,h3,h4,h5.imp (fun b z=>⟨Ay R z.1,z.2⟩) (fun _=>rfl)⟩
theorem Rs.FC_C (h:Rs K G.H0 ow Hb H .FC v d):Rs K G.H0 ow Hb H .C v d:=by
 rcases h with h | ⟨a,xs,ds,rfl,rfl,h3,h4,h5⟩
 ·exact RA.flat h.1 h.2
 ·exact .lst h4 h3 (h5.imp (fun b z=>z.1) (fun z=>z))
theorem Rs.F_A (R:Rel K fl G ow σ Hb δ) (h:Rs K G.H0 ow Hb H .F v d):Rs K G.H0 ow Hb H .A v d:=by
 rcases h with h | ⟨a,xs,ds,rfl,rfl,h3,h4,h5⟩
 ·exact RA.flat h.1 h.2
 ·exact .lst h4 (Ay R h3) (h5.imp (fun b z=>z.1) (fun z=>z))
theorem Rs.C_A (R:Rel K fl G ow σ Hb δ) (h:Rs K G.H0 ow Hb H .C v d):Rs K G.H0 ow Hb H .A v d:=RA.imp (fun _ z=>Ay R z) (fun _=>rfl) h
theorem Rs.C_R (R:Rel K fl G ow σ Hb δ) (h:Rs K G.H0 ow Hb H .C v d):Rs K G.H0 ow Hb H .R v d:=RA.imp (fun _ z=>XR R z) (fun z=>z) h
theorem Rs.A_B (L:List Nat) (h:Rs K G.H0 ow Hb H .A v d):Rs K G.H0 ow Hb H (.B L) v d:=.inl h
theorem Rs.B_P (h:Rs K G.H0 ow Hb H (.B L) v d):Rs K G.H0 ow Hb H .P v d:=by
 rcases h with h | ⟨i,_,a,xs,ds,_,rfl,rfl,h4,h5⟩
 ·exact RA.imp (fun _ _=>trivial) (fun z=>z) h
 ·exact .lst h4 trivial (h5.imp (fun _ _=>trivial) (fun z=>z))
theorem Rs.P_flat (hf:flat d=true) (h:Rs K G.H0 ow Hb H .P v d):Rs K G.H0 ow Hb H .FC v d:=.inl ⟨hf,RA.flat hf h⟩
theorem Rs.F_fl1 (hf:fl1 d=true) (h:Rs K G.H0 ow Hb H .F v d):Rs K G.H0 ow Hb H .FC v d:=by
 rcases h with h | ⟨a,xs,ds,h1,h2,h3,h4,h5⟩
 ·exact .inl h
 ·subst h2
  exact .inr ⟨a,xs,ds,h1,rfl,h3,h4,RAs.flat hf h5⟩
end
def tD (K:PySem.W.Frag) (fl:List Fl) (k:Kd) (f:FE):TE:=fun σ H Q=>∃ G ow δ d,Rel K fl G ow σ H δ∧f δ=some d∧∀ v H',Same H H'→Rs K G.H0 ow H H' k v d→Q v H'
abbrev DE (X:Cx) (fl:List Fl) (k:Kd) (e:Expr) (f:FE):Prop:=PE X e (tD X.K fl k f)
def tDA (K:PySem.W.Frag) (fl:List Fl) (f:FA):TA:=fun σ H Q=>∃ G ow δ ds,Rel K fl G ow σ H δ∧f δ=some ds∧∀ vs H',Same H H'→RAs K ok1 true H' vs ds→Q vs H'
abbrev DA (X:Cx) (fl:List Fl) (es:List Expr) (f:FA):Prop:=PA X es (tDA X.K fl f)
def tDT (K:PySem.W.Frag) (fl:List Fl) (f:FT):TT:=fun σ H Q=>∃ G ow δ b,Rel K fl G ow σ H δ∧f δ=some b∧∀ H',Same H H'→Q b H'
abbrev DT (X:Cx) (fl:List Fl) (e:Expr) (f:FT):Prop:=PT X e (tDT X.K fl f)
abbrev DW (X:Cx) (fl:List Fl) (e:Expr) (f:FT):Prop:=PW X e (tDT X.K fl f)
def Gs (K:PySem.W.Frag) (fl:List Fl) (G:Gh) (Dn:Ends):Oc→Prop
 | .nx δ'=>∀ ow' σ' H',Rel K fl G ow' σ' H' δ'→Dn.nx σ' H'
 | .rt d=>∀ v H',Same G.H0 H'→RA K (okN G.H0) false H' v d→Dn.rt v H'
 | .bk δ'=>∀ ow' σ' H',Rel K fl G ow' σ' H' δ'→Dn.bk σ' H'
 | .ct δ'=>∀ ow' σ' H',Rel K fl G ow' σ' H' δ'→Dn.ct σ' H'
 | .ex _ _ d=>∀ v H',Same G.H0 H'→RA K ok1 true H' v d→Dn.rt v H'
def tDS (K:PySem.W.Frag) (fl:List Fl) (f:FS):TS:=fun Dn σ H=>∃ G ow δ o,Rel K fl G ow σ H δ∧f δ=some o∧Gs K fl G Dn o
abbrev DS1 (X:Cx) (fl:List Fl) (s:Stmt) (f:FS):Prop:=PS X s (tDS X.K fl f)
abbrev DSs (X:Cx) (fl:List Fl) (s:List Stmt) (f:FS):Prop:=PSs X s (tDS X.K fl f)
def tDG (K:PySem.W.Frag) (fl:List Fl) (tg:List Nat) (g:FG):TG:=fun v σ H Q=>∃ G ow δ d δ',Rel K fl G ow σ H δ∧RA K (okA ow) true H v d∧g d δ=some δ'∧∀ σ',Rel K fl G ow σ' H δ'→(∀ j,j ∉ tg→σ'[j]? = σ[j]?)→Q σ' H
abbrev DG (X:Cx) (fl:List Fl) (tg:List Nat) (e:Expr) (g:FG):Prop:=PG X e (tDG X.K fl tg g)
section
variable {X:Cx} {e:Expr} {es:List Expr} {st:Stmt} {sts:List Stmt}
theorem PE.imp {t t':TE} (h:PE X e t) (i:∀ σ H Q,t' σ H Q→t σ H Q):PE X e t':=fun pins s σ H Q I q=>h pins s σ H Q I (i σ H Q q)
theorem PT.imp {t t':TT} (h:PT X e t) (i:∀ σ H Q,t' σ H Q→t σ H Q):PT X e t':=fun pins s σ H Q I q=>h pins s σ H Q I (i σ H Q q)
theorem PW.imp {t t':TT} (h:PW X e t) (i:∀ σ H Q,t' σ H Q→t σ H Q):PW X e t':=fun w pins s σ H Q I q=>h w pins s σ H Q I (i σ H Q q)
theorem PA.imp {t t':TA} (h:PA X es t) (i:∀ σ H Q,t' σ H Q→t σ H Q):PA X es t':=fun p pins s σ H Q I q=>h p pins s σ H Q I (i σ H Q q)
theorem PS.imp {t t':TS} (h:PS X st t) (i:∀ D σ H,t' D σ H→t D σ H):PS X st t':=fun pins s σ H D I q=>h pins s σ H D I (i D σ H q)
theorem PSs.imp {t t':TS} (h:PSs X sts t) (i:∀ D σ H,t' D σ H→t D σ H):PSs X sts t':=fun pins s σ H D I q=>h pins s σ H D I (i D σ H q)
theorem PG.imp {t t':TG} (h:PG X e t) (i:∀ v σ H Q,t' v σ H Q→t v σ H Q):PG X e t':=fun pins s σ H v u Q I r q=>h pins s σ H v u Q I r (i v σ H Q q)
end
end D3
variable {j:Int}
namespace D3
open PySem PySem.Spec PyProof.Rows L2 My
section
variable {X:Cx} {fl:List Fl} {e a b c:Expr} {es:List Expr} {k:Kd} {f fa fb fc:FE} {pos:Pos}
theorem mX (h:aD i δ=some d):δ[i]? = some (some (.d d)):=by
 unfold aD at h
 split at h
 ·next x e=>rw [e];cases h;rfl
 ·cases h
theorem xr (i:Nat) {x:Str} (hN:X.N[i]? = some x:=by rfl) (hv:Vis X.env.scope x:=by first | exact Or.inl rfl | exact Or.inr (Or.inl rfl) | exact Or.inr (Or.inr rfl)) (hd:(x == ("__debug__" : Str))=false:=by decide)
 (hcd:(x == ("__classdict__" : Str))=false:=by decide) (hn:isN fl[i]? = false:=by rfl):DE X fl (.B [i]) (.Name x pos) (aD i):=by
 refine PE.imp (qd hN hv hd hcd) fun σ H Q h=>?_
 obtain ⟨G,ow,δ,d,R,hf,q⟩:=h
 have e:=mX hf
 cases ho:ow i with
 | none =>
  obtain ⟨v,h1,h2⟩:=R.dat i d e hn ho
  exact ⟨v,h1,q v H (Same.refl H) (.inl h2)⟩
 | some a =>
  obtain ⟨h0,_,xs,ds,h1,h2,h3,h4⟩:=R.own i a ho
  rw [e] at h4
  cases h4
  exact ⟨_,h1,q _ H (Same.refl H) (.inr ⟨i,aN.mpr rfl,a,xs,ds,ho,rfl,rfl,h2,h3⟩)⟩
theorem Az (i:Nat) (hfl:fl[i]? = some .A) {x:Str} (hN:X.N[i]? = some x:=by rfl) (hv:Vis X.env.scope x:=by first | exact Or.inl rfl | exact Or.inr (Or.inl rfl) | exact Or.inr (Or.inr rfl)) (hd:(x == ("__debug__" : Str))=false:=by decide)
 (hcd:(x == ("__classdict__" : Str))=false:=by decide):DE X fl .A (.Name x pos) (aD i):=by
 refine PE.imp (qd hN hv hd hcd) fun σ H Q h=>?_
 obtain ⟨G,ow,δ,d,R,hf,q⟩:=h
 have e:=mX hf
 cases ho:ow i with
 | none =>
  obtain ⟨v,h1,h2⟩:=R.dat i d e (by rw [hfl];rfl) ho
  exact ⟨v,h1,q v H (Same.refl H) h2⟩
 | some a =>
  obtain ⟨h0,hz,_⟩:=R.own i a ho
  rw [hfl] at hz
  rcases hz with ⟨z,_⟩ | ⟨z,_⟩ <;> cases z
theorem HW (i:Nat) (hfl:fl[i]? ≠ some .A) {x:Str} (hN:X.N[i]? = some x:=by rfl) (hv:Vis X.env.scope x:=by first | exact Or.inl rfl | exact Or.inr (Or.inl rfl) | exact Or.inr (Or.inr rfl)) (hd:(x == ("__debug__" : Str))=false:=by decide)
 (hcd:(x == ("__classdict__" : Str))=false:=by decide) (hn:isN fl[i]? = false:=by rfl):DE X fl .R (.Name x pos) (wY (aD i)):=by
 refine PE.imp (qd hN hv hd hcd) fun σ H Q h=>?_
 obtain ⟨G,ow,δ,d,R,hf,q⟩:=h
 unfold wY at hf
 cases hv':aD i δ with
 | none=>rw [hv'] at hf;cases hf
 | some d' =>
  rw [hv',aK] at hf
  by_cases hc:fl1 d'=true
  ·rw [if_pos hc] at hf
   cases hf
   have e:=mX hv'
   cases ho:ow i with
   | none =>
    obtain ⟨v,h1,h2⟩:=R.dat i d e hn ho
    exact ⟨v,h1,q v H (Same.refl H) (RA.flat (R.oo i d e hn hfl ho) h2)⟩
   | some a =>
    obtain ⟨h0,_,xs,ds,h1,h2,h3,h4⟩:=R.own i a ho
    rw [e] at h4
    cases h4
    exact ⟨_,h1,q _ H (Same.refl H) (.lst h2 h0 (RAs.flat hc h3))⟩
  ·rw [if_neg hc] at hf
   cases hf
theorem nO {k':Kd} (h:DE X fl k e f) (hc:∀ (Hb H:Hp) (G:Gh) (ow:Ow) (σ:St) (δ:DS) (v:V) (d:D),Rel X.K fl G ow σ Hb δ→Rs X.K G.H0 ow Hb H k v d→Rs X.K G.H0 ow Hb H k' v d):DE X fl k' e f:=by
 refine PE.imp h fun σ H Q h=>?_
 obtain ⟨G,ow,δ,d,R,hf,q⟩:=h
 exact ⟨G,ow,δ,d,R,hf,fun v H' s r=>q v H' s (hc _ _ G ow σ δ v d R r)⟩
theorem Dt {k':Kd} {p:D→Bool} (h:DE X fl k e f) (hc:∀ (Hb H:Hp) (G:Gh) (ow:Ow) (σ:St) (δ:DS) (v:V) (d:D),p d=true→Rel X.K fl G ow σ Hb δ→Rs X.K G.H0 ow Hb H k v d→Rs X.K G.H0 ow Hb H k' v d) :
 DE X fl k' e (fun δ=>(f δ).bind fun d=>if p d=true then some d else none):=by
 refine PE.imp h fun σ H Q h=>?_
 obtain ⟨G,ow,δ,d,R,hf,q⟩:=h
 dsimp only at hf
 cases hv:f δ with
 | none=>rw [hv] at hf;cases hf
 | some d' =>
  rw [hv,aK] at hf
  by_cases hp:p d'=true
  ·rw [if_pos hp] at hf
   cases hf
   exact ⟨G,ow,δ,d,R,hv,fun v H' s r=>q v H' s (hc _ _ G ow σ δ v d hp R r)⟩
  ·rw [if_neg hp] at hf
   cases hf
theorem oF (h:DE X fl .FC e f):DE X fl .F e f:=nO h fun _ _ _ _ _ _ _ _ R r=>r.FC_F R
theorem iB (h:DE X fl .FC e f):DE X fl .C e f:=nO h fun _ _ _ _ _ _ _ _ R r=>r.FC_C
theorem cM (h:DE X fl .F e f):DE X fl .A e f:=nO h fun _ _ _ _ _ _ _ _ R r=>r.F_A R
theorem kI (h:DE X fl .C e f):DE X fl .A e f:=nO h fun _ _ _ _ _ _ _ _ R r=>r.C_A R
theorem zH (h:DE X fl .C e f):DE X fl .R e f:=nO h fun _ _ _ _ _ _ _ _ R r=>r.C_R R
theorem cX (h:DE X fl .A e f):DE X fl (.B []) e f:=nO h fun _ _ _ _ _ _ _ _ R r=>Rs.A_B [] r
theorem LC (h:DE X fl (.B L) e f):DE X fl .P e f:=nO h fun _ _ _ _ _ _ _ _ R r=>r.B_P
theorem mL (h:DE X fl .P e f):DE X fl .FC e (i_ f):=Dt h fun _ _ _ _ _ _ _ _ hf R r=>r.P_flat hf
theorem Vp (h:DE X fl .F e f):DE X fl .FC e (wY f):=Dt h fun _ _ _ _ _ _ _ _ hf R r=>r.F_fl1 hf
theorem gG (h:DE X fl .FC e f):DE X fl .A e f:=cM (oF h)
theorem dB (h:DE X fl .FC e f):DE X fl .R e f:=zH (iB h)
theorem gJ (h:DE X fl .A e f):DE X fl .P e f:=LC (cX h)
theorem jE (h:DE X fl .C e f):DE X fl .P e f:=gJ (kI h)
theorem bf (h:DE X fl .FC e f):DE X fl .P e f:=gJ (gG h)
theorem zJ (h:DE X fl .F e f):DE X fl .P e f:=gJ (cM h)
theorem xu (h:PE X e (tC v)) (hf:flat d=true) (hr:∀ H,RA X.K ok0 false H v d):DE X fl .FC e (dC d):=by
 refine PE.imp h fun σ H Q h=>?_
 obtain ⟨G,ow,δ,d',R,hd,q⟩:=h
 cases hd
 exact q v H (Same.refl H) (.inl ⟨hf,hr H⟩)
theorem A_ {i j pos}:DE X fl .FC (.Constant (.int i) j pos) (dC (.int i)):=xu Ut rfl fun _=>.int _
theorem lU {b j pos}:DE X fl .FC (.Constant (.bool b) j pos) (dC (.bool b)):=xu TX rfl fun _=>.bl _
theorem Gu {j pos}:DE X fl .FC (.Constant .none j pos) (dC .none):=xu Uu rfl fun _=>.non
theorem Vq {x j pos}:DE X fl .FC (.Constant (.str x) j pos) (dC (.str x)):=xu Uv rfl fun _=>.str _
theorem HX {i:Int} (h:∃ t,X.mg x=some (.int i t)) (hg:Gl X x:=by rfl) (hd:(x == ("__debug__" : Str))=false:=by decide):DE X fl .FC (.Name x pos) (dC (.int i)):=by
 obtain ⟨t,h⟩:=h
 exact xu (Qk (v:=.int i) hg h ⟨t,rfl⟩ hd) rfl fun _=>.int _
def BrO (K:PySem.W.Frag) (r:R2) (g:D→D→Option D):Prop:=∀ (H:Hp) (x y:V) (dx dy d:D) (Q:VK),RA K ok1 true H x dx→RA K ok1 true H y dy→g dx dy=some d→(∀ v,flat d=true→RA K ok0 false H v d→Q v H)→r x y H Q
theorem HY {g:D→D→Option D} (h:dOp g fa fb δ=some d):∃ x y,fa δ=some x∧fb δ=some y∧g x y=some d:=by
 unfold dOp at h
 cases ha:fa δ with
 | none=>rw [ha] at h;cases h
 | some x =>
  rw [ha,aK] at h
  cases hb:fb δ with
  | none=>rw [hb] at h;cases h
  | some y =>
   rw [hb,aK] at h
   exact ⟨x,y,rfl,rfl,h⟩
theorem bind1 {α β:Type} {x:Option α} {g:α→Option β} {d:β} (h:x.bind g=some d):∃ y,x=some y∧g y=some d:=by
 cases x with
 | none=>cases h
 | some y=>exact ⟨y,rfl,h⟩
theorem uR {g:D→D→Option D} {σ:St} {Q:VK} (hb:BrO X.K r g) (h:tD X.K fl .FC (dOp g fa fb) σ H Q):tOp r (tD X.K fl .P fa) (tD X.K fl .P fb) σ H Q:=by
 obtain ⟨G,ow,δ,d,R,hf,q⟩:=h
 obtain ⟨x,y,e1,e2,e3⟩:=HY hf
 refine ⟨G,ow,δ,x,R,e1,fun v H1 s1 r1=>⟨G,ow,δ,y,R.grow s1,e2,fun u H2 s2 r2=>?_⟩⟩
 exact hb H2 v u x y d Q (RA.same s2 r1) r2 e3 fun z hz rz=>q z H2 (s1.trans s2) (.inl ⟨hz,rz⟩)
theorem cU {op:Operator} {g:D→D→Option D} (ho:OpR X (binaryOp op) r) (hb:BrO X.K r g) (h1:DE X fl .P a fa) (h2:DE X fl .P b fb):DE X fl .FC (.BinOp a op b pos) (dOp g fa fb) :=
 PE.imp (La ho h1 h2) fun _ _ _ h=>uR hb h
theorem tM {g:D→D→Option D} (ho:OpR X (compareOp op) r) (hb:BrO X.K r g) (h1:DE X fl .P a fa) (h2:DE X fl .P b fb) (hm:behindInMarks op b=false):DE X fl .FC (.Compare a [op] [b] pos) (dOp g fa fb) :=
 PE.imp (Qx ho h1 h2 hm) fun _ _ _ h=>uR hb h
theorem fL {g:D→D→Option D} (ho:OpR X (compareOp op) r) (hb:BrO X.K r g) (h1:DE X fl .P a fa) (h2:DE X fl .P b fb) (hm:behindInMarks op b=false):DT X fl (.Compare a [op] [b] pos) (cI (dOp g fa fb)):=by
 refine PT.imp (Qy ho h1 h2 hm) fun σ H Q h=>?_
 obtain ⟨G,ow,δ,c,R,hf,q⟩:=h
 obtain ⟨d,e1,e2⟩:=bind1 hf
 cases d <;> first | (cases e2;done) | skip
 cases e2
 refine uR (fl:=fl) (fa:=fa) (fb:=fb) hb ⟨G,ow,δ,_,R,e1,fun v H' s r=>?_⟩
 obtain rfl:=(Rs.FC_C r).blE
 exact ⟨_,rfl,q H' s⟩
theorem kh (h:DE X fl .P e f) (he:∀ whole,isTrue e X.env whole=(do let v ← whole;standAt e.pos;holding [v] (truthy v)):=by intro _;rfl):DT X fl e (cI f):=by
 refine PT.imp (Uw h he) fun σ H Q h=>?_
 obtain ⟨G,ow,δ,c,R,hf,q⟩:=h
 obtain ⟨d,e1,e2⟩:=bind1 hf
 cases d <;> first | (cases e2;done) | skip
 cases e2
 refine ⟨G,ow,δ,_,R,e1,fun v H' s r=>?_⟩
 obtain rfl:=RA.blE r
 exact ⟨_,rfl,q H' s⟩
theorem zK {h:Int→Int→V} {g:Int→Int→D} (hf:∀ i j,flat (g i j)=true) (hr:∀ H i j,RA K ok0 false H (h i j) (g i j)):BrO K (rI0 h) (gI fun i j=>some (g i j)):=by
 intro H x y dx dy d Q rx ry e q
 unfold gI at e
 split at e
 ·next i j =>
  cases e
  exact ⟨i,j,rx.intE,ry.intE,q _ (hf i j) (hr H i j)⟩
 ·cases e
theorem QW {C:Int→Int→Prop} {h:Int→Int→V} {g:Int→Int→D} {c:Int→Int→Bool} (hc:∀ i j,c i j=true→C i j) (hf:∀ i j,flat (g i j)=true) (hr:∀ H i j,RA K ok0 false H (h i j) (g i j)) :
 BrO K (rI C h) (gI fun i j=>if c i j=true then some (g i j) else none):=by
 intro H x y dx dy d Q rx ry e q
 unfold gI at e
 split at e
 ·next i j =>
  dsimp only at e
  by_cases z:c i j=true
  ·rw [if_pos z] at e
   cases e
   exact ⟨i,j,rx.intE,ry.intE,hc i j z,q _ (hf i j) (hr H i j)⟩
  ·rw [if_neg z] at e
   cases e
 ·cases e
end
section
variable {X:Cx} {K:PySem.W.Frag}
theorem QX {i:Int} (h:wZ i j=true):IntMulOk i j:=by
 unfold wZ at h
 rw [Bool.or_eq_true,Bool.or_eq_true,aY] at h
 rcases h with (h | h) | ⟨h1,h2⟩
 ·exact IntMulOk.of_left (PySem.intBits_le_iff.mpr (of_decide_eq_true h))
 ·exact IntMulOk.of_right (PySem.intBits_le_iff.mpr (of_decide_eq_true h))
 ·exact PySem.IntMulOk.of_le (PySem.intBits_le_iff.mpr (of_decide_eq_true h1)) (PySem.intBits_le_iff.mpr (of_decide_eq_true h2)) (by decide)
theorem oY:OpR X (binaryOp .Mult) (rI (fun i j=>wZ i j=true) fun i j=>.int (i * j)):=opI fun _ _ _ _ _ _ _ hc q=>mul_int q (QX hc)
theorem H_:OpR X (binaryOp .FloorDiv) (rI (fun i j=>Gq i j=true) fun i j=>.int (i.fdiv j)):=opI fun i j _ _ _ _ _ hc q=>by
 unfold Gq at hc
 rw [aY] at hc
 have h1:=of_decide_eq_true hc.1
 have h2:=of_decide_eq_true hc.2
 refine floordiv_int h1 q (.inl (PyProof.noPylong_of_log2 ?_))
 exact (Nat.log2_lt (by omega)).mpr h2
theorem QZ {i:Int} (h:Vm i j=true):U7 i j:=by
 unfold Vm at h
 rw [aY,aY] at h
 have h1:=of_decide_eq_true h.1.1
 have h2:=of_decide_eq_true h.1.2
 exact ⟨h1,by omega,of_decide_eq_true h.2⟩
theorem gq:BrO K (rI0 fun i j=>.int (i + j)) eV:=zK (fun _ _=>rfl) fun _ _ _=>.int _
theorem Ia:BrO K (rI0 fun i j=>.int (i - j)) yL:=zK (fun _ _=>rfl) fun _ _ _=>.int _
theorem vH:BrO K (rI (fun i j=>wZ i j=true) fun i j=>.int (i * j)) sH:=QW (fun _ _ h=>h) (fun _ _=>rfl) fun _ _ _=>.int _
theorem T6:BrO K (rI (fun i j=>Gq i j=true) fun i j=>.int (i.fdiv j)) Dr:=QW (fun _ _ h=>h) (fun _ _=>rfl) fun _ _ _=>.int _
theorem um:BrO K (rI (fun _ j=>j ≠ 0) fun i j=>.int (i.fmod j)) tL:=QW (fun _ _ h=>of_decide_eq_true h) (fun _ _=>rfl) fun _ _ _=>.int _
theorem X3:BrO K (rI U7 fun i j=>.int (i ^ j.toNat)) Vo:=QW (fun _ _ h=>QZ h) (fun _ _=>rfl) fun _ _ _=>.int _
theorem b_lt:BrO K (rI0 fun i j=>.bl (decide (i < j))) gLt:=zK (fun _ _=>rfl) fun _ _ _=>.bl _
theorem uT:BrO K (rI0 fun i j=>.bl (decide (i ≤ j))) gLe:=zK (fun _ _=>rfl) fun _ _ _=>.bl _
theorem Vr:BrO K (rI0 fun i j=>.bl (decide (j < i))) gGt:=zK (fun _ _=>rfl) fun _ _ _=>.bl _
theorem ZM:BrO K (rI0 fun i j=>.bl (decide (j ≤ i))) gGe:=zK (fun _ _=>rfl) fun _ _ _=>.bl _
theorem vX:BrO K (Vi K) gEq:=by
 intro H x y dx dy d Q rx ry e q
 unfold gEq at e
 by_cases z:(SeqAt.shaped dx && SeqAt.shaped dy)=true
 ·rw [if_pos z] at e
  cases e
  rw [aY] at z
  exact ⟨dx,dy,rx.rd (SeqAt.canLay_of_shaped z.1),ry.rd (SeqAt.canLay_of_shaped z.2),z.1,z.2,q _ rfl (.bl _)⟩
 ·rw [if_neg z] at e
  cases e
theorem J0:BrO K (Vj K) gNe:=by
 intro H x y dx dy d Q rx ry e q
 unfold gNe at e
 by_cases z:(SeqAt.shaped dx && SeqAt.shaped dy)=true
 ·rw [if_pos z] at e
  cases e
  rw [aY] at z
  exact ⟨dx,dy,rx.rd (SeqAt.canLay_of_shaped z.1),ry.rd (SeqAt.canLay_of_shaped z.2),z.1,z.2,q _ rfl (.bl _)⟩
 ·rw [if_neg z] at e
  cases e
end
end D3
variable {G:D3.Gh} {ow:D3.Ow}
namespace D3
open PySem PySem.Spec PyProof.Rows L2 My
section
variable {X:Cx} {fl:List Fl} {e a b c:Expr} {es:List Expr} {st:Stmt} {sts body orelse:List Stmt} {k:Kd} {f fa fb fc:FE} {fs gs:FS} {ft gt:FT} {pos:Pos}
theorem Gs.nx_imp {Dn:Ends} {N:St→Hp→Prop} {o:Oc} (h:Gs K fl G Dn o) (hn:∀ δ',o ≠ .nx δ'):Gs K fl G { Dn with nx:=N } o:=by
 cases o with
 | nx δ'=>exact absurd rfl (hn δ')
 | rt d=>exact h
 | bk δ'=>exact h
 | ct δ'=>exact h
 | ex c f v=>exact h
theorem cZ:DSs X fl [] iK:=PSs.imp Qn fun Dn σ H h=>by
 obtain ⟨G,ow,δ,o,R,hf,q⟩:=h
 cases hf
 exact q ow σ H R
theorem aV (h1:DS1 X fl st fs) (h2:DSs X fl sts gs):DSs X fl (st :: sts) (cF fs gs):=PSs.imp (K4 h1 h2) fun Dn σ H h=>by
 obtain ⟨G,ow,δ,o,R,hf,q⟩:=h
 obtain ⟨o1,e1,e2⟩:=bind1 hf
 refine ⟨G,ow,δ,o1,R,e1,?_⟩
 cases o1 with
 | nx δ'=>exact fun ow' σ' H' R'=>⟨G,ow',δ',o,R',e2,q⟩
 | rt d=>cases e2;exact Gs.nx_imp q (fun _ z=>by cases z)
 | bk d=>cases e2;exact Gs.nx_imp q (fun _ z=>by cases z)
 | ct d=>cases e2;exact Gs.nx_imp q (fun _ z=>by cases z)
 | ex c f v=>cases e2;exact q
theorem bC (h1:DS1 X fl st fs):DSs X fl [st] fs:=PSs.imp (Qo h1) fun _ _ _ h=>h
theorem cP (h:DE X fl .R e f):DS1 X fl (.Return (some e) pos) (fJ f):=PS.imp (K5 h) fun Dn σ H h=>by
 obtain ⟨G,ow,δ,o,R,hf,q⟩:=h
 obtain ⟨d,e1,e2⟩:=bind1 hf
 cases e2
 exact ⟨G,ow,δ,d,R,e1,fun v H' s r=>q v H' (R.same0.trans s) r⟩
theorem Q0 (h:DE X fl .P e f) (hs:swapsWith e none pos.line X.env=pure false:=by rfl):DS1 X fl (.Expr e pos) (HD f):=PS.imp (Ak h hs) fun Dn σ H h=>by
 obtain ⟨G,ow,δ,o,R,hf,q⟩:=h
 obtain ⟨d,e1,e2⟩:=bind1 hf
 cases e2
 exact ⟨G,ow,δ,d,R,e1,fun v H' s r=>q ow σ H' (R.grow s)⟩
theorem gY (hc:DT X fl c ft) (h1:DSs X fl body fs) (h2:DSs X fl orelse gs):DS1 X fl (.If c body orelse pos) (sIf ft fs gs):=PS.imp (Xi hc h1 h2) fun Dn σ H h=>by
 obtain ⟨G,ow,δ,o,R,hf,q⟩:=h
 obtain ⟨t,e1,e2⟩:=bind1 hf
 refine ⟨G,ow,δ,t,R,e1,fun H' s=>?_⟩
 cases t with
 | true=>exact Aw ⟨G,ow,δ,o,R.grow s,e2,q⟩
 | false=>exact Av ⟨G,ow,δ,o,R.grow s,e2,q⟩
theorem iM {α:Type} {l:List (Option α)} {j:Nat} {x y:α} (h:(l.set i (some x))[j]? = some (some y)):(j=i∧x=y)∨(j ≠ i∧l[j]? = some (some y)):=by
 rw [tX] at h
 by_cases e:i=j
 ·subst e
  rw [if_pos rfl] at h
  by_cases z:i < l.length
  ·rw [if_pos z] at h
   cases h
   exact .inl ⟨rfl,rfl⟩
  ·rw [if_neg z] at h
   cases h
 ·rw [if_neg e] at h
  exact .inr ⟨fun z=>e z.symm,h⟩
theorem Rel.setA {σ:St} (R:Rel K fl G ow σ H δ) (hfl:fl[i]? = some .A) (hi:i < σ.length) (r:RA K (okA ow) true H v d) :
 Rel K fl G ow (σ.set i (some v)) H (δ.set i (some (.d d))):=by
 have no:∀ a,ow i ≠ some a:=fun a z=>by
  obtain ⟨_,hz,_⟩:=R.own i a z
  rw [hfl] at hz
  rcases hz with ⟨z,_⟩ | ⟨z,_⟩ <;> cases z
 refine ⟨R.s0,R.s1,by rw [dD,dD];exact R.len,fun j a h=>?_,R.inj,R.pin,fun j d' h1 hn h2=>?_,fun j d' h1 hn h2 h3=>?_,R.nt,R.nd,R.ns,R.np,fun j d' hn h1=>?_⟩
 ·have hj:j ≠ i:=fun z=>no a (z ▸ h)
  obtain ⟨h0,hf,xs,ds,h1,h2,h3,h4⟩:=R.own j a h
  exact ⟨h0,hf,xs,ds,by rw [bI (Ne.symm hj)];exact h1,h2,h3,by rw [bI (Ne.symm hj)];exact h4⟩
 ·rcases iM h1 with ⟨rfl,e⟩ | ⟨hj,e⟩
  ·cases e
   exact ⟨v,by rw [dw hi],r⟩
  ·obtain ⟨v',h3,h4⟩:=R.dat j d' e hn h2
   exact ⟨v',by rw [bI (Ne.symm hj)];exact h3,h4⟩
 ·rcases iM h1 with ⟨rfl,e⟩ | ⟨hj,e⟩
  ·exact absurd hfl h2
  ·exact R.oo j d' e hn h2 h3
 ·rcases iM h1 with ⟨rfl,e⟩ | ⟨hj,e⟩
  ·rw [hfl] at hn;cases hn
  ·obtain ⟨v',h3,h4⟩:=R.nr j d' hn e
   exact ⟨v',by rw [bI (Ne.symm hj)];exact h3,h4⟩
def vI (ow:Ow) (i:Nat) (a:Option Addr):Ow:=⟨fun j=>if j=i then a else ow j,ow.n⟩
theorem jF {a:Option Addr}:vI ow i a i=a:=if_pos rfl
theorem fY {j:Nat} {a:Option Addr} (h:j ≠ i):vI ow i a j=ow j:=if_neg h
theorem Rel.setO {σ:St} (R:Rel K fl G ow σ H δ) (s:Same H H') (hfl:fl[i]? = some .O) (hi:i < σ.length) (r:Rs K G.H0 ow H H' .F v d) :
 ∃ ow',Rel K fl G ow' (σ.set i (some v)) H' (δ.set i (some (.d d))):=by
 have R':=R.grow s
 have sub0:∀ b,okA ow b→okA (vI ow i none) b:=fun b z=>⟨fun j e=>by
  by_cases hj:j=i
  ·subst hj;rw [jF] at e;cases e
  ·rw [fY hj] at e;exact z.1 j e,z.2⟩
 have nrs:∀ j d',isN fl[j]? = true→(δ.set i (some (.d d)))[j]? = some (some (.d d'))→∃ v',(σ.set i (some v))[j]? = some (some v')∧RT K H' v' d' (ow.n j)∧(ow.n j).Nodup:=fun j d' hn h1=>by
  rcases iM h1 with ⟨rfl,e⟩ | ⟨hj,e⟩
  ·rw [hfl] at hn;cases hn
  ·obtain ⟨v',h3,h4⟩:=R'.nr j d' hn e
   exact ⟨v',by rw [bI (Ne.symm hj)];exact h3,h4⟩
 rcases r with ⟨hfd,r⟩ | ⟨a,xs,ds,rfl,rfl,ha,hx,hr⟩
 ·refine ⟨vI ow i none,R'.s0,R'.s1,by rw [dD,dD];exact R.len,fun j a h=>?_,fun j j' a h h'=>?_,fun j h=>?_,fun j d' h1 hn h2=>?_,fun j d' h1 hn h2 h3=>?_,R'.nt,R'.nd,fun j j' a h h'=>?_,R'.np,nrs⟩
  ·have hj:j ≠ i:=fun z=>by subst z;rw [jF] at h;cases h
   rw [fY hj] at h
   obtain ⟨h0,hf,xs,ds,h1,h2,h3,h4⟩:=R'.own j a h
   exact ⟨h0,hf,xs,ds,by rw [bI (Ne.symm hj)];exact h1,h2,h3.imp sub0 (fun z=>z),by rw [bI (Ne.symm hj)];exact h4⟩
  ·have hj:j ≠ i:=fun z=>by subst z;rw [jF] at h;cases h
   have hj':j' ≠ i:=fun z=>by subst z;rw [jF] at h';cases h'
   rw [fY hj] at h
   rw [fY hj'] at h'
   exact R.inj j j' a h h'
  ·have hj:j ≠ i:=fun z=>by subst z;rw [hfl] at h;cases h
   rw [fY hj]
   exact R.pin j h
  ·rcases iM h1 with ⟨rfl,e⟩ | ⟨hj,e⟩
   ·cases e
    exact ⟨v,by rw [dw hi],RA.flat hfd r⟩
   ·rw [fY hj] at h2
    obtain ⟨v',h3,h4⟩:=R'.dat j d' e hn h2
    exact ⟨v',by rw [bI (Ne.symm hj)];exact h3,h4.imp sub0 (fun z=>z)⟩
  ·rcases iM h1 with ⟨rfl,e⟩ | ⟨hj,e⟩
   ·cases e
    exact hfd
   ·rw [fY hj] at h3
    exact R.oo j d' e hn h2 h3
  ·by_cases hj:j'=i
   ·subst hj;rw [jF] at h';cases h'
   ·rw [fY hj] at h';exact R.ns j j' a h h'
 ·have sub:∀ b,okA ow b∧b ≠ a→okA (vI ow i (some a)) b:=fun b z=>⟨fun j e=>by
   by_cases hj:j=i
   ·subst hj;rw [jF] at e;exact z.2 (cJ.inj e).symm
   ·rw [fY hj] at e;exact z.1.1 j e,z.1.2⟩
  have old:∀ {v:V} {d:D},RA K (okA ow) true H v d→RA K (okA (vI ow i (some a))) true H' v d:=fun r=>(r.track.imp (fun b z=>sub b ⟨z.1,fun e=>z.2 (e ▸ ha)⟩) (fun z=>z)).same s
  have olds:∀ {v:List V} {d:List D},RAs K (okA ow) true H v d→RAs K (okA (vI ow i (some a))) true H' v d:=fun r=>(r.track.imp (fun b z=>sub b ⟨z.1,fun e=>z.2 (e ▸ ha)⟩) (fun z=>z)).same s
  have nota:∀ j,ow j ≠ some a:=fun j z=>by
   obtain ⟨_,_,_,_,_,h2,_⟩:=R.own j a z
   rw [ha] at h2
   cases h2
  have hF:G.HF a=none:=R.s1.free ha
  refine ⟨vI ow i (some a),R'.s0,R'.s1,by rw [dD,dD];exact R.len,fun j b h=>?_,fun j j' b h h'=>?_,fun j h=>?_,fun j d' h1 hn h2=>?_,fun j d' h1 hn h2 h3=>?_,R'.nt,R'.nd,fun j j' b h h'=>?_,R'.np,nrs⟩
  ·by_cases hj:j=i
   ·subst hj
    rw [jF] at h
    cases h
    exact ⟨R.same0.free ha,.inl ⟨hfl,hF⟩,xs,ds,by rw [dw hi],hx,hr.imp sub (fun z=>z),by rw [dw (by rw [← R.len];exact hi)]⟩
   ·rw [fY hj] at h
    obtain ⟨h0,hf,ys,ds',h1,h2,h3,h4⟩:=R.own j b h
    exact ⟨h0,hf,ys,ds',by rw [bI (Ne.symm hj)];exact h1,s _ _ h2,olds h3,by rw [bI (Ne.symm hj)];exact h4⟩
  ·by_cases hj:j=i
   ·by_cases hj':j'=i
    ·rw [hj,hj']
    ·subst hj
     rw [jF] at h
     cases h
     rw [fY hj'] at h'
     exact absurd h' (nota j')
   ·rw [fY hj] at h
    by_cases hj':j'=i
    ·subst hj'
     rw [jF] at h'
     cases h'
     exact absurd h (nota j)
    ·rw [fY hj'] at h'
     exact R.inj j j' b h h'
  ·have hj:j ≠ i:=fun z=>by subst z;rw [hfl] at h;cases h
   rw [fY hj]
   exact R.pin j h
  ·rcases iM h1 with ⟨rfl,e⟩ | ⟨hj,e⟩
   ·rw [jF] at h2;cases h2
   ·rw [fY hj] at h2
    obtain ⟨v',h3,h4⟩:=R.dat j d' e hn h2
    exact ⟨v',by rw [bI (Ne.symm hj)];exact h3,old h4⟩
  ·rcases iM h1 with ⟨rfl,e⟩ | ⟨hj,e⟩
   ·rw [jF] at h3;cases h3
   ·rw [fY hj] at h3
    exact R.oo j d' e hn h2 h3
  ·by_cases hj:j'=i
   ·subst hj
    rw [jF] at h'
    cases h'
    exact (R.nt j a h).2.1.ne ha
   ·rw [fY hj] at h';exact R.ns j j' b h h'
theorem Rel.mut {σ:St} {a:Addr} {ys:List V} (R:Rel K fl G ow σ H δ) (hfl:fl[i]? = some .O) (ho:ow i=some a) (r:RAs K (okA ow) true H ys ds) :
 Rel K fl G ow σ (upd H a (.lst ys)) (δ.set i (some (.d (.list ds)))):=by
 obtain ⟨h0,hz,xs,ds0,e1,e2,e3,e4⟩:=R.own i a ho
 have na:¬ okA ow a:=fun z=>z.1 i ho
 have hF:G.HF a=none:=by
  rcases hz with ⟨_,z⟩ | ⟨z,_⟩
  ·exact z
  ·rw [hfl] at z;cases z
 have hi:i < δ.length:=by
  rcases d_ i δ.length with z | z
  ·exact z
  ·rw [bH z] at e4;cases e4
 refine ⟨R.s0,fun b o hb=>?_,by rw [dD];exact R.len,fun j b h=>?_,R.inj,R.pin,fun j d' h1 hn h2=>?_,fun j d' h1 hn h2 h3=>?_,fun j b h=>?_,R.nd,R.ns,R.np,fun j d' hn h1=>?_⟩
 ·rw [bx (fun z=>by subst z;rw [hF] at hb;cases hb)]
  exact R.s1 b o hb
 ·by_cases hj:j=i
  ·subst hj
   rw [ho] at h
   cases h
   exact ⟨h0,hz,ys,ds,e1,bN,r.upd e2 na,by rw [dw hi]⟩
  ·obtain ⟨h0',hf',zs,ds',h1,h2,h3,h4⟩:=R.own j b h
   have hb:b ≠ a:=fun z=>hj (R.inj j i a (z ▸ h) ho)
   exact ⟨h0',hf',zs,ds',h1,by rw [bx hb];exact h2,h3.upd e2 na,by rw [bI (Ne.symm hj)];exact h4⟩
 ·rcases iM h1 with ⟨rfl,e⟩ | ⟨hj,e⟩
  ·rw [ho] at h2;cases h2
  ·obtain ⟨v',h3,h4⟩:=R.dat j d' e hn h2
   exact ⟨v',h3,h4.upd e2 na⟩
 ·rcases iM h1 with ⟨rfl,e⟩ | ⟨hj,e⟩
  ·rw [ho] at h3;cases h3
  ·exact R.oo j d' e hn h2 h3
 ·obtain ⟨g1,g2,g3⟩:=R.nt j b h
  refine ⟨g1,?_,g3⟩
  by_cases hb:b=a
  ·rw [hb,bN];exact ⟨_,rfl,inferInstance⟩
  ·rw [bx hb];exact g2
 ·rcases iM h1 with ⟨rfl,e⟩ | ⟨hj,e⟩
  ·rw [hfl] at hn;cases hn
  ·obtain ⟨v',h3,h4,h5⟩:=R.nr j d' hn e
   exact ⟨v',h3,h4.upd e2 (fun z=>R.ns j i a z ho),h5⟩
theorem uo {σ:St} (R:Rel K fl G ow σ H δ) (h:i < δ.length):i < σ.length:=by rw [R.len];exact h
theorem Q5 (hfl:fl[i]? = some .A) (hN:X.N.Nodup) (hi:X.N[i]? = some x) (hv:X.env.scope.names.lookup x=some .local∨X.env.scope.names.lookup x=some .cell) (h:DE X fl .A e f)
 (hs:swapsWith e (some (.Name x pos')) pos.line X.env=pure false:=by rfl) (hfn:X.fn x=true∨X.env.scope.names.lookup x=some .local:=by first | exact .inl rfl | exact .inr rfl) :
 DS1 X fl (.Assign [.Name x pos'] e pos) (b_ i f):=PS.imp (Ge (i:=i) hN hi hv h hs hfn) fun Dn σ H h=>by
 obtain ⟨G,ow,δ,o,R,hf,q⟩:=h
 unfold b_ at hf
 by_cases hl:i < δ.length
 ·rw [if_pos hl] at hf
  obtain ⟨d,e1,e2⟩:=bind1 hf
  cases e2
  exact ⟨G,ow,δ,d,R,e1,fun v H' s r=>q ow _ H' ((R.grow s).setA hfl (uo R hl) r)⟩
 ·rw [if_neg hl] at hf
  cases hf
theorem uq (hfl:fl[i]? = some .O) (hN:X.N.Nodup) (hi:X.N[i]? = some x) (hv:X.env.scope.names.lookup x=some .local∨X.env.scope.names.lookup x=some .cell) (h:DE X fl .F e f)
 (hs:swapsWith e (some (.Name x pos')) pos.line X.env=pure false:=by rfl) (hfn:X.fn x=true∨X.env.scope.names.lookup x=some .local:=by first | exact .inl rfl | exact .inr rfl) :
 DS1 X fl (.Assign [.Name x pos'] e pos) (b_ i f):=PS.imp (Ge (i:=i) hN hi hv h hs hfn) fun Dn σ H h=>by
 obtain ⟨G,ow,δ,o,R,hf,q⟩:=h
 unfold b_ at hf
 by_cases hl:i < δ.length
 ·rw [if_pos hl] at hf
  obtain ⟨d,e1,e2⟩:=bind1 hf
  cases e2
  refine ⟨G,ow,δ,d,R,e1,fun v H' s r=>?_⟩
  obtain ⟨ow',R'⟩:=R.setO s hfl (uo R hl) r
  exact q ow' _ H' R'
 ·rw [if_neg hl] at hf
  cases hf
theorem Q6 (hfl:fl[i]? = some .A) (hN:X.N.Nodup) (hi:X.N[i]? = some x) (hv:X.env.scope.names.lookup x=some .local∨X.env.scope.names.lookup x=some .cell)
 (hfn:X.fn x=true∨X.env.scope.names.lookup x=some .local:=by first | exact .inl rfl | exact .inr rfl):DG X fl [i] (.Name x pos) (gNl i) :=
 PG.imp (Qs (i:=i) hN hi hv hfn) fun v σ H Q h=>by
 obtain ⟨G,ow,δ,d,δ',R,r,hf,q⟩:=h
 unfold gNl at hf
 by_cases hl:i < δ.length
 ·rw [if_pos hl] at hf
  cases hf
  exact q _ (R.setA hfl (uo R hl) r) fun j hj=>bI (fun z=>hj (by rw [z];exact aN.mpr rfl))
 ·rw [if_neg hl] at hf
  cases hf
def ZP (K:PySem.W.Frag) (fl:List Fl) (tg:List Nat) (g:List D→DS→Option DS):TGs:=fun vs σ H Q=>∃ G ow δ ds δ',Rel K fl G ow σ H δ∧RAs K (okA ow) true H vs ds∧g ds δ=some δ'∧∀ σ',Rel K fl G ow σ' H δ'→(∀ j,j ∉ tg→σ'[j]? = σ[j]?)→Q σ' H
theorem PGs.imp {t t':TGs} (h:PGs X es t) (i:∀ v σ H Q,t' v σ H Q→t v σ H Q):PGs X es t':=fun pins s σ H v u Q I r q=>h pins s σ H v u Q I r (i v σ H Q q)
abbrev DGs (X:Cx) (fl:List Fl) (tg:List Nat) (es:List Expr) (g:List D→DS→Option DS):Prop:=PGs X es (ZP X.K fl tg g)
theorem ur:DGs X fl [] [] nF:=PGs.imp Qt fun vs σ H Q h=>by
 obtain ⟨G,ow,δ,ds,δ',R,r,hf,q⟩:=h
 cases r with
 | nil=>cases hf;exact ⟨rfl,q σ R fun _ _=>rfl⟩
 | cons _ _=>cases hf
theorem jQ {tg tg':List Nat} {g:FG} {gs:List D→DS→Option DS} (h1:DG X fl tg e g) (h2:DGs X fl tg' es gs) (hs:(assignEach (e :: es) X.env).map (·.2)=assign e X.env :: (assignEach es X.env).map (·.2):=by rfl) :
 DGs X fl (tg++tg') (e :: es) (d7 g gs):=PGs.imp (K8 h1 h2 hs) fun vs σ H Q h=>by
 obtain ⟨G,ow,δ,ds,δ',R,r,hf,q⟩:=h
 cases r with
 | nil=>cases hf
 | cons r1 r2 =>
  obtain ⟨δ1,e1,e2⟩:=bind1 hf
  refine ⟨_,_,rfl,G,ow,δ,_,δ1,R,r1,e1,fun σ' R' k1=>⟨G,ow,δ1,_,δ',R',r2,e2,fun σ'' R'' k2=>q σ'' R'' fun j hj=>?_⟩⟩
  rw [k2 j fun z=>hj (bQ _ z),k1 j fun z=>hj (cC _ z)]
theorem xG {tg:List Nat} {gs:List D→DS→Option DS} {k:Nat} (hc:X.calm=true) (h:DGs X fl tg es gs) (hn:(assignEach es X.env).length=n:=by rfl) (hst:(assignEach es X.env).findIdx? (·.1)=none:=by rfl) :
 DG X fl tg (.Tuple es k pos) (gTn n gs):=PG.imp (U3 (n:=n) hc h hn hst) fun v σ H Q h=>by
 obtain ⟨G,ow,δ,d,δ',R,r,hf,q⟩:=h
 unfold gTn at hf
 split at hf
 ·next l =>
  by_cases z:l.length=n
  ·rw [if_pos z] at hf
   obtain ⟨a,xs,rfl,hx,hr⟩:=r.tupE
   exact ⟨a,xs,rfl,hx,by rw [hr.length];exact z,G,ow,δ,l,δ',R,hr,hf,q⟩
  ·rw [if_neg z] at hf
   cases hf
 ·cases hf
theorem Vs {tg:List Nat} {g:FG} {t:Expr} (h:DE X fl .A e f) (hg:DG X fl tg t g) (hs:swapsWithSole [t] e pos.line X.env=pure false:=by rfl) (hw:swappedStores [t] e X.env=pure none:=by rfl)
 (h1:(assignEach [t] X.env).map (·.2)=[assign t X.env]:=by rfl):DS1 X fl (.Assign [t] e pos) (QT f g):=PS.imp (Gd h hg hs hw h1) fun Dn σ H h=>by
 obtain ⟨G,ow,δ,o,R,hf,q⟩:=h
 obtain ⟨d,e1,e2⟩:=bind1 hf
 obtain ⟨δ',e3,e4⟩:=bind1 e2
 cases e4
 exact ⟨G,ow,δ,d,R,e1,fun v H' s r=>⟨G,ow,δ,d,δ',R.grow s,r,e3,fun σ' R' _=>q ow σ' H' R'⟩⟩
end
end D3
variable {l:List D3.D} {vpos:Pos} {fk:D3.FE} {Hb:L2.Hp} {fa:D3.FA} {δ':D3.DS}
namespace D3
open PySem PySem.Spec PyProof.Rows L2 My
section
variable {X:Cx} {fl:List Fl} {e a b c:Expr} {es:List Expr} {st:Stmt} {sts body orelse:List Stmt} {k:Kd} {f fa fb fc:FE} {fs gs:FS} {ft gt:FT} {pos:Pos}
theorem LK {σ:St} (R:Rel K fl G ow σ H δ) (hfl:fl[i]? = some .O) (h:aD i δ=some (.list l)) :
 ∃ a xs,ow i=some a∧σ[i]? = some (some (.ref a))∧H a=some (.lst xs)∧RAs K (okA ow) true H xs l:=by
 have e:=mX h
 cases ho:ow i with
 | none =>
  have z:=R.oo i _ e (by rw [hfl];rfl) (by rw [hfl];simp) ho
  simp [flat] at z
 | some a =>
  obtain ⟨h0,_,xs,ds,h1,h2,h3,h4⟩:=R.own i a ho
  rw [e] at h4
  cases h4
  exact ⟨a,xs,rfl,h1,h2,h3⟩
theorem nY {apos cpos:Pos} (hfl:fl[i]? = some .O) (h:DE X fl .A e f) (hN:X.N[i]? = some x) (hv:Vis X.env.scope x:=by first | exact Or.inl rfl | exact Or.inr (Or.inl rfl) | exact Or.inr (Or.inr rfl)) (hd:(x == ("__debug__" : Str))=false:=by decide)
 (hcd:(x == ("__classdict__" : Str))=false:=by decide)
 (hs:swapsWith (.Call (.Attribute (.Name x vpos) "append" apos) [e] [] cpos) none pos.line X.env=pure false:=by rfl)
 (hbase:attributeBase (.Name x vpos) "append" X.env (eval (.Name x vpos) X.env)=eval (.Name x vpos) X.env:=by rfl)
 (hfew:((backTo cpos (starEach [e] X.env)).all (fun x=>!x.1) && (backToKw cpos (keywordEach [] X.env)).all (fun x=>x.1.isSome)
  && decide (([e]:List Expr).length + ([]:List Keyword).length + (if ([]:List Keyword).isEmpty then 0 else 1) < 30))=true:=by rfl)
 (hline:(apos.endLine == cpos.line)=true:=by rfl) (hst:starEach [e] X.env=(false,eval e X.env) :: starEach [] X.env:=by rfl) (hplain:(backTo cpos (starEach [] X.env)).any (·.1)=false:=by rfl) :
 DS1 X fl (.Expr (.Call (.Attribute (.Name x vpos) "append" apos) [e] [] cpos) pos) (vV i f) :=
 PS.imp (Ak (Xy PySem.F.plainAttrs_list PySem.F.slot_list_append PySem.F.type_list_append zE (qd hN hv hd hcd) (kW h pB hst) hbase hfew hline hst hplain) hs) fun Dn σ H h=>by
 obtain ⟨G,ow,δ,o,R,hf,q⟩:=h
 obtain ⟨x,e1,hf1⟩:=bind1 hf
 obtain ⟨d,e2,hf2⟩:=bind1 hf1
 clear hf hf1
 have hf:=hf2
 clear hf2
 split at hf
 case h_2=>cases hf
 next l =>
 by_cases hl:l.length < 1000000
 ·rw [if_pos hl] at hf
  cases hf
  obtain ⟨a,xs,ho,h1,h2,h3⟩:=LK R hfl e1
  refine ⟨_,h1,.inl ⟨rfl,_,SqL.of h2⟩,G,ow,δ,d,R,e2,fun v H' s r=>?_⟩
  have R':=R.grow s
  refine ⟨a,xs,v,rfl,rfl,s _ _ h2,by rw [h3.length];exact pZ hl (by decide),?_⟩
  exact q ow σ _ (R'.mut hfl ho ((h3.same s).append (.cons r .nil)))
 ·rw [if_neg hl] at hf
  cases hf
theorem Vt {ke:Expr} (hfl:fl[i]? = some .O) (h:DE X fl .A e f) (hk:DE X fl .P ke fk) (hN:X.N[i]? = some x) (hv:Vis X.env.scope x:=by first | exact Or.inl rfl | exact Or.inr (Or.inl rfl) | exact Or.inr (Or.inr rfl)) (hd:(x == ("__debug__" : Str))=false:=by decide)
 (hcd:(x == ("__classdict__" : Str))=false:=by decide) (ha:∀ v,assign (.Subscript (.Name x vpos) ke spos) X.env v=(do
  let ov ← holding [v] (eval (.Name x vpos) X.env)
  let iv ← holding [v,ov] (eval ke X.env)
  standAt spos
  holding [v,ov,iv] (setItem ov iv v)
  release [v,ov,iv] []):=by intro _;rfl)
 (hs:swapsWithSole [.Subscript (.Name x vpos) ke spos] e pos.line X.env=pure false:=by rfl) (hw:swappedStores [.Subscript (.Name x vpos) ke spos] e X.env=pure none:=by rfl)
 (h1:(assignEach [.Subscript (.Name x vpos) ke spos] X.env).map (·.2)=[assign (.Subscript (.Name x vpos) ke spos) X.env]:=by rfl) :
 DS1 X fl (.Assign [.Subscript (.Name x vpos) ke spos] e pos) (QV i fk f) :=
 PS.imp (Gd h (K9 (qd hN hv hd hcd) hk set_list ha) hs hw h1) fun Dn σ H h=>by
 obtain ⟨G,ow,δ,o,R,hf,q⟩:=h
 obtain ⟨d,e2,hf1⟩:=bind1 hf
 obtain ⟨x,e1,hf2⟩:=bind1 hf1
 obtain ⟨k,e3,hf3⟩:=bind1 hf2
 clear hf hf1 hf2
 have hf:=hf3
 clear hf3
 split at hf
 case h_2=>cases hf
 next l j =>
 obtain ⟨n,e4,e5⟩:=bind1 hf
 cases e5
 obtain ⟨a,xs,ho,h1,h2,h3⟩:=LK R hfl e1
 refine ⟨G,ow,δ,d,R,e2,fun v H' s r=>⟨_,h1,G,ow,δ,_,R.grow s,e3,fun u H2 s2 r2=>?_⟩⟩
 obtain rfl:=RA.intE r2
 have R2:=R.grow (s.trans s2)
 refine ⟨a,xs,j,n,rfl,rfl,(s.trans s2) _ _ h2,by rw [h3.length];exact e4,?_⟩
 exact q ow σ _ (R2.mut hfl ho (RAs.set (RA.same s2 r) n (h3.same (s.trans s2))))
def T7 (K:PySem.W.Frag) (ow:Ow) (L:List Nat) (H1:Hp) (J:It) (l:List D):Prop:=∀ H2:Hp,(∀ b o,H1 b=some o→(∀ i,ow i=some b→i ∈ L)→(∀ i,b ∉ ow.n i)→H2 b=some o)→∀ i:Nat,
 (∀ d,l[i]? = some d→J.go i H2∧∀ x H3,J.yld i H2 x H3→Same H2 H3∧RA K (fun b=>okA ow b∧H1 b ≠ none) true H3 x d)∧(l.length ≤ i→J.stop i H2)
def tDI (K:PySem.W.Frag) (fl:List Fl) (L:List Nat) (fi:FA):TI:=fun σ H R'=>∃ G ow δ l,Rel K fl G ow σ H δ∧fi δ=some l∧∀ J H1,Same H H1→T7 K ow L H1 J l→R' J H1
abbrev DI (X:Cx) (fl:List Fl) (L:List Nat) (tg iter:Expr) (fi:FA):Prop:=PI X tg iter (tDI X.K fl L fi)
theorem PI.imp {t t':TI} (h:PI X tg iter t) (i:∀ σ H R',t' σ H R'→t σ H R'):PI X tg iter t':=fun pins s σ H R' I q=>h pins s σ H R' I (i σ H R' q)
section
variable {K:PySem.W.Frag} {ok:Ok} {pl:Bool} {H1 H2:Hp} {ow:Ow} {L:List Nat}
theorem nm {b:Addr} (hl:∀ i b,ow i=some b→∃ xs,H1 b=some (.lst xs)) (h:H1 b=some o) (hn:∀ xs,o ≠ .lst xs):∀ i,ow i=some b→i ∈ L:=fun i e=>by
 obtain ⟨xs,z⟩:=hl i b e
 rw [h] at z
 exact absurd (cJ.inj z) (hn xs)
theorem nm2 {b:Addr} (hl:∀ i b,b ∈ ow.n i→Chd (H1 b)) (h:H1 b=some o) (hn:Chg o→False):∀ i,b ∉ ow.n i:=fun i e=>by
 obtain ⟨u,z,c⟩:=hl i b e
 rw [h] at z
 cases z
 exact hn c
mutual
theorem RA.keep (hk:∀ b o,H1 b=some o→(∀ i,ow i=some b→i ∈ L)→(∀ i,b ∉ ow.n i)→H2 b=some o) (hl:∀ i b,ow i=some b→∃ xs,H1 b=some (.lst xs)) (hm:∀ i b,b ∈ ow.n i→Chd (H1 b)) (ho:∀ b,ok b→okA ow b):∀ {v:V} {d:D},RA K ok pl H1 v d→RA K ok pl H2 v d
 | _,_,.non=>.non
 | _,_,.bl b=>.bl b
 | _,_,.int i=>.int i
 | _,_,.str x=>.str x
 | _,_,.lst e k q=>.lst (hk _ _ e (fun i z=>absurd z ((ho _ k).1 i)) (ho _ k).2) k (RAs.keep hk hl hm ho q)
 | _,_,.lsk e k q=>.lsk (by
  rcases e with ⟨o,e⟩ | e
  ·exact .inl ⟨o,hk _ _ e (nm hl e (by intro xs z;cases z)) (nm2 hm e Chg.frz)⟩
  ·exact .inr e) k (RAs.keep hk hl hm ho q)
 | _,_,.tup e q=>.tup (hk _ _ e (nm hl e (by intro xs z;cases z)) (nm2 hm e Chg.tup)) (RAs.keep hk hl hm ho q)
 | _,_,.dic e g k=>.dic (hk _ _ e (fun i z=>absurd z ((ho _ k).1 i)) (ho _ k).2) (g.imp fun _ _ t=>hk _ _ t (nm hl t (by intro xs z;cases z)) (nm2 hm t Chg.tup)) k
 | _,_,.dik e g k=>.dik (hk _ _ e (nm hl e (by intro xs z;cases z)) (nm2 hm e Chg.frz)) (g.imp fun _ _ t=>hk _ _ t (nm hl t (by intro xs z;cases z)) (nm2 hm t Chg.tup)) k
theorem RAs.keep (hk:∀ b o,H1 b=some o→(∀ i,ow i=some b→i ∈ L)→(∀ i,b ∉ ow.n i)→H2 b=some o) (hl:∀ i b,ow i=some b→∃ xs,H1 b=some (.lst xs)) (hm:∀ i b,b ∈ ow.n i→Chd (H1 b)) (ho:∀ b,ok b→okA ow b):∀ {v:List V} {d:List D},RAs K ok pl H1 v d→RAs K ok pl H2 v d
 | _,_,.nil=>.nil
 | _,_,.cons e q=>.cons (RA.keep hk hl hm ho e) (RAs.keep hk hl hm ho q)
end
end
theorem Rel.ownL {σ:St} (R:Rel K fl G ow σ H δ):∀ i b,ow i=some b→∃ xs,H b=some (.lst xs):=fun i b e=>by
 obtain ⟨_,_,xs,_,_,h2,_⟩:=R.own i b e
 exact ⟨xs,h2⟩
theorem Rel.ownC {σ:St} (R:Rel K fl G ow σ H δ):∀ i b,b ∈ ow.n i→Chd (H b):=fun i b e=>(R.nt i b e).2.1
theorem xH {σ:St} (R:Rel K fl G ow σ H δ) (r:Rs K G.H0 ow Hb H (.B L) v (.list l)):∃ a xs,v = .ref a∧SqL K H a xs ∧
 ∀ H2:Hp,(∀ b o,H b=some o→(∀ i,ow i=some b→i ∈ L)→(∀ i,b ∉ ow.n i)→H2 b=some o)→SqL K H2 a xs∧RAs K (fun b=>okA ow b∧H b ≠ none) true H2 xs l:=by
 rcases r with r | ⟨i,hi,a,xs,ds,ho,rfl,e,hx,hr⟩
 ·cases r with
  | lst e k q=>exact ⟨_,_,rfl,SqL.of e,fun H2 hk=>⟨SqL.of (hk _ _ e (fun i z=>absurd z (k.1 i)) k.2),RAs.keep hk R.ownL R.ownC (fun b z=>z.1) q.track⟩⟩
  | lsk e k q=>exact ⟨_,_,rfl,e.sq,fun H2 hk=>⟨SqK.sq (by
   rcases e with ⟨o,e⟩ | e
   ·exact .inl ⟨o,hk _ _ e (nm R.ownL e (by intro xs z;cases z)) (nm2 R.ownC e Chg.frz)⟩
   ·exact .inr e),RAs.keep hk R.ownL R.ownC (fun b z=>z.1) q.track⟩⟩
 ·cases e
  exact ⟨a,xs,rfl,SqL.of hx,fun H2 hk=>⟨SqL.of (hk _ _ hx (fun j z=>by rw [R.inj j i a z ho];exact hi) (fun j z=>R.ns j i a z ho)),RAs.keep hk R.ownL R.ownC (fun b z=>z.1) hr.track⟩⟩
theorem lX (h:DE X fl (.B L) e f):DI X fl L tg e (rC f):=PI.imp (Hy h) fun σ H R' h=>by
 obtain ⟨G,ow,δ,l,R,hf,q⟩:=h
 obtain ⟨d,e1,e2⟩:=bind1 hf
 cases d <;> first | (cases e2;done) | skip
 cases e2
 refine ⟨G,ow,δ,_,R,e1,fun v H1 s r=>?_⟩
 obtain ⟨a,xs,rfl,hx,keep⟩:=xH (R.grow s) r
 refine ⟨a,rfl,⟨xs,hx⟩,q _ _ s fun H2 k2 i=>?_⟩
 obtain ⟨k3,k4⟩:=keep H2 k2
 refine ⟨fun d hd=>?_,fun hl=>⟨xs,k3,by rw [k4.length];exact hl⟩⟩
 obtain ⟨y,hy,ry⟩:=k4.get hd
 refine ⟨⟨xs,y,k3,hy⟩,fun x H3 hyl=>?_⟩
 obtain ⟨e,hz⟩:=hyl
 subst e
 have:some y=some x:=hy.symm.trans (hz xs k3)
 cases this
 exact ⟨Same.refl _,ry⟩
theorem LQ (lo hi:Int):(jy lo hi).length=(hi - lo).toNat:=by simp [jy]
theorem LR (lo hi:Int):T7 K ow L H1 (Itr lo (hi - lo).toNat) (jy lo hi):=by
 intro H2 _ i
 refine ⟨fun d hd=>?_,fun hl=>by rw [LQ] at hl;exact hl⟩
 unfold jy at hd
 rw [aR] at hd
 by_cases hi':i < (hi - lo).toNat
 ·rw [fu hi'] at hd
  cases hd
  refine ⟨hi',fun x H3 hy=>?_⟩
  obtain ⟨e,e2⟩:=hy
  subst e e2
  exact ⟨Same.refl _,.int _⟩
 ·rw [bH (by simpa using hi')] at hd
  cases hd
theorem Ie {i:Int} (h:w6 i=true) : -(2 ^ 62) ≤ i∧i < 2 ^ 62:=by
 unfold w6 at h
 rw [aY] at h
 exact ⟨of_decide_eq_true h.1,of_decide_eq_true h.2⟩
theorem nZ {fa:FA} (hg:Gl X "range") (hm:X.mg "range" = none) (h:DA X fl [a] fa) (hs:starEach [a] X.env=[(false,eval a X.env)]:=by rfl):DI X fl L tg (.Call (.Name "range" p) [a] [] pos) (sS fa) :=
 PI.imp (JK hg hm h hs) fun σ H R' h=>by
 obtain ⟨G,ow,δ,l,R,hf,q⟩:=h
 obtain ⟨ds,e1,e2⟩:=bind1 hf
 split at e2
 ·next j =>
  by_cases z:w6 j=true
  ·rw [if_pos z] at e2
   cases e2
   refine ⟨G,ow,δ,_,R,e1,fun vs H1 s r=>?_⟩
   cases r with
   | cons r1 r2 =>
    cases r2
    obtain rfl:=r1.intE
    refine ⟨j,rfl,(Ie z).1,(Ie z).2,?_⟩
    have w:=LR (K:=X.K) (ow:=ow) (L:=L) (H1:=H1) 0 j
    rw [p7] at w
    exact q _ _ s w
  ·rw [if_neg z] at e2
   cases e2
 ·cases e2
def lock (L:List Nat) (fl:List Fl):List Fl:=fl.mapIdx fun i x=>if x = .O∧i ∈ L then .L else x
theorem m7:(lock L fl)[i]? = (fl[i]?).map fun x=>if x = .O∧i ∈ L then .L else x:=by
 unfold lock
 rw [fW]
theorem L_:(lock L fl)[i]? = some .A↔fl[i]? = some .A:=by
 rw [m7]
 cases h:fl[i]? with
 | none=>simp
 | some x =>
  cases x <;> simp
  by_cases z:i ∈ L <;> simp [z]
theorem Gv (h:(lock L fl)[i]? = some .O):fl[i]? = some .O∧i ∉ L:=by
 rw [m7] at h
 cases e:fl[i]? with
 | none=>rw [e] at h;simp at h
 | some x =>
  rw [e] at h
  cases x <;> simp at h
  by_cases z:i ∈ L
  ·simp [z] at h
  ·exact ⟨rfl,z⟩
theorem Gw (h:fl[i]? = some .L):(lock L fl)[i]? = some .L:=by
 rw [m7,h]
 simp
theorem Ig (h:fl[i]? = some .O) (hi:i ∈ L):(lock L fl)[i]? = some .L:=by
 rw [m7,h]
 simp [hi]
theorem Ih (h:fl[i]? = some .O) (hi:i ∉ L):(lock L fl)[i]? = some .O:=by
 rw [m7,h]
 simp [hi]
theorem Ba:(lock L fl)[i]? = some .N↔fl[i]? = some .N:=by
 rw [m7]
 cases h:fl[i]? with
 | none=>simp
 | some x =>
  cases x <;> simp
  by_cases z:i ∈ L <;> simp [z]
theorem Gx:(lock L fl)[i]? = some .M↔fl[i]? = some .M:=by
 rw [m7]
 cases h:fl[i]? with
 | none=>simp
 | some x =>
  cases x <;> simp
  by_cases z:i ∈ L <;> simp [z]
theorem pP:isN (lock L fl)[i]? = isN fl[i]?:=by
 rw [m7]
 cases h:fl[i]? with
 | none=>rfl
 | some x =>
  cases x <;> simp [isN]
  by_cases z:i ∈ L <;> simp [z]
def Let (fl':List Fl) (ow:Ow) (b:Addr):Prop:=(∃ j,ow j=some b∧fl'[j]? = some .O)∨∃ j,b ∈ ow.n j∧fl'[j]? = some .N
open Classical in
noncomputable def ghL (fl':List Fl) (G:Gh) (ow:Ow) (H:Hp):Gh:=⟨G.H0,fun b=>if Let fl' ow b then none else H b,ow,ow.n,G.tb⟩
open Classical in
theorem qm {fl':List Fl} {b:Addr} (h:¬ Let fl' ow b):(ghL fl' G ow H).HF b=H b:=by
 unfold ghL
 dsimp only
 rw [if_neg h]
open Classical in
theorem Gy {fl':List Fl} {b:Addr} (h:Let fl' ow b):(ghL fl' G ow H).HF b=none:=by
 unfold ghL
 dsimp only
 rw [if_pos h]
theorem Rel.lock {σ:St} (L:List Nat) (R:Rel K fl G ow σ H δ):Rel K (lock L fl) (ghL (lock L fl) G ow H) ow σ H δ:=by
 refine ⟨fun b o hb=>?_,fun b o hb=>?_,R.len,fun i a h=>?_,R.inj,fun i h=>rfl,fun i d h1 hn h2=>R.dat i d h1 (by rw [pP] at hn;exact hn) h2,fun i d h1 hn h2 h3=>R.oo i d h1 (by rw [pP] at hn;exact hn) (fun z=>h2 (L_.mpr z)) h3,fun i a h=>?_,R.nd,R.ns,fun i h=>rfl,fun i d hn h1=>R.nr i d (by rw [pP] at hn;exact hn) h1⟩
 ·have hb':G.H0 b=some o:=hb
  rw [qm]
  ·exact R.same0 b o hb'
  ·rintro (⟨j,e,_⟩ | ⟨j,e,_⟩)
   ·have:=(R.own j b e).1
    rw [hb'] at this
    cases this
   ·have:=(R.nt j b e).1
    rw [hb'] at this
    cases this
 ·by_cases z:Let (D3.lock L fl) ow b
  ·rw [Gy z] at hb;cases hb
  ·rw [qm z] at hb;exact hb
 ·obtain ⟨h0,hf,xs,ds,h1,h2,h3,h4⟩:=R.own i a h
  refine ⟨h0,?_,xs,ds,h1,h2,h3,h4⟩
  have out:(D3.lock L fl)[i]? = some .L→(ghL (D3.lock L fl) G ow H).HF a=H a:=fun hl=>qm (by
   rintro (⟨j,e,hj⟩ | ⟨j,e,hj⟩)
   ·rw [R.inj j i a e h,hl] at hj
    cases hj
   ·exact R.ns j i a e h)
  rcases hf with ⟨hf,_⟩ | ⟨hf,_⟩
  ·by_cases hi:i ∈ L
   ·exact .inr ⟨Ig hf hi,xs,by rw [out (Ig hf hi)];exact h2⟩
   ·exact .inl ⟨Ih hf hi,Gy (.inl ⟨i,h,Ih hf hi⟩)⟩
  ·exact .inr ⟨Gw hf,xs,by rw [out (Gw hf)];exact h2⟩
 ·obtain ⟨g1,g2,g3⟩:=R.nt i a h
  refine ⟨g1,g2,?_⟩
  rcases g3 with ⟨z,_⟩ | z
  ·exact .inl ⟨Ba.mpr z,Gy (.inr ⟨i,h,Ba.mpr z⟩)⟩
  ·exact .inr (Gx.mpr z)
theorem Rel.unlock {ow':Ow} {σ σ':St} (R:Rel K fl G ow σ H δ) (R':Rel K (D3.lock L fl) (ghL (D3.lock L fl) G ow H) ow' σ' H' δ'):Rel K fl G ow' σ' H' δ':=by
 have sub:Same G.HF (ghL (D3.lock L fl) G ow H).HF:=fun b o hb=>by
  rw [qm]
  ·exact R.s1 b o hb
  ·rintro (⟨j,e,hj⟩ | ⟨j,e,hj⟩)
   ·rcases (R.own j b e).2.1 with ⟨_,z⟩ | ⟨z,_⟩
    ·rw [hb] at z;cases z
    ·have:=(Gv hj).1
     rw [z] at this
     cases this
   ·rcases (R.nt j b e).2.2 with ⟨_,z⟩ | z
    ·rw [hb] at z;cases z
    ·have:=Ba.mp hj
     rw [z] at this
     cases this
 refine ⟨R.s0,sub.trans R'.s1,R'.len,fun i a h=>?_,R'.inj,fun i h=>?_,fun i d h1 hn h2=>R'.dat i d h1 (by rw [pP];exact hn) h2,fun i d h1 hn h2 h3=>R'.oo i d h1 (by rw [pP];exact hn) (fun z=>h2 (L_.mp z)) h3,fun i a h=>?_,R'.nd,R'.ns,fun i h=>?_,fun i d hn h1=>R'.nr i d (by rw [pP];exact hn) h1⟩
 ·obtain ⟨h0,hf,rest⟩:=R'.own i a h
  refine ⟨h0,?_,rest⟩
  rcases hf with ⟨hf,hz⟩ | ⟨hf,_⟩
  ·exact .inl ⟨(Gv hf).1,sub.free hz⟩
  ·have e:ow' i=ow i:=R'.pin i hf
   rw [e] at h
   exact (R.own i a h).2.1
 ·have e:ow' i=ow i:=R'.pin i (Gw h)
  rw [e]
  exact R.pin i h
 ·obtain ⟨g1,g2,g3⟩:=R'.nt i a h
  rcases g3 with ⟨z,hz⟩ | z
  ·exact ⟨g1,g2,.inl ⟨Ba.mp z,sub.free hz⟩⟩
  ·exact ⟨g1,g2,.inr (Gx.mp z)⟩
 ·have e:ow'.n i=ow.n i:=R'.np i (Gx.mpr h)
  rw [e]
  exact R.np i h
theorem nq {T:List Nat} {fi:FA} {g:FG} (hp:PassesOwn (model X.prog X.w) X.A X.env X.xe) (hc:X.calm=true) (hi:DI X fl L tg iter fi) (hg:DG X (lock L fl) T tg g) (hb:DSs X (lock L fl) body fs)
 (hs:∀ x,foldedSetIterable iter X.env x=pure x:=by intro _;rfl):DS1 X fl (.For tg iter body [] pos) (rB fi g fs):=PS.imp (U5 hp hc hi hg hb hs) fun Dn σ H h=>by
 obtain ⟨G,ow,δ,o,R0,hf,q⟩:=h
 obtain ⟨l,e1,e2⟩:=bind1 hf
 refine ⟨G,ow,δ,l,R0,e1,fun J H1 s wk=>?_⟩
 have R1:=R0.grow s
 have RL:=R1.lock L
 refine ⟨fun i m σ' H'=>m=l.length - i∧∃ ow' δ',Rel X.K (lock L fl) (ghL (lock L fl) G ow H1) ow' σ' H' δ'∧jD g fs (l.drop i) δ'=some o,⟨_,rfl,ow,δ,RL,by simpa using e2⟩,?_⟩
 rintro i m σ' H' ⟨rfl,ow',δ',R',hd⟩
 have kept:∀ b o,H1 b=some o→(∀ i,ow i=some b→i ∈ L)→(∀ i,b ∉ ow.n i)→H' b=some o:=fun b o hb hl hn=>R'.s1 b o (by
  rw [qm]
  ·exact hb
  ·rintro (⟨j,e,hj⟩ | ⟨j,e,_⟩)
   ·exact (Gv hj).2 (hl j e)
   ·exact hn j e)
 obtain ⟨w1,w2⟩:=wk H' kept i
 by_cases hlt:i < l.length
 ·have hdrop:l.drop i=l[i] :: l.drop (i + 1):=j8 hlt
  rw [hdrop,jD] at hd
  obtain ⟨δ1,e3,hd⟩:=bind1 hd
  obtain ⟨o1,e4,hd⟩:=bind1 hd
  obtain ⟨go,yl⟩:=w1 l[i] (aO hlt)
  refine .inr ⟨go,fun σ' H'=>∃ ow' δ',Rel X.K (lock L fl) (ghL (lock L fl) G ow H1) ow' σ' H' δ'∧jD g fs (l.drop (i + 1)) δ'=some o,fun σ2 H2 ⟨ow2,δ2,R2,h2⟩=>⟨l.length - (i + 1),by omega,rfl,ow2,δ2,R2,h2⟩,fun x H3 hy=>?_⟩
  obtain ⟨s3,r3⟩:=yl x H3 hy
  have sub:∀ b,okA ow b∧H1 b ≠ none→okA ow' b:=fun b z=>by
   obtain ⟨z1,z2⟩:=z
   refine ⟨fun j e=>?_,fun j e=>?_⟩
   ·rcases (R'.own j b e).2.1 with ⟨_,hz⟩ | ⟨hz,_⟩
    ·have:(ghL (lock L fl) G ow H1).HF b=H1 b:=qm (by rintro (⟨j',e',_⟩ | ⟨j',e',_⟩);exact z1.1 j' e';exact z1.2 j' e')
     rw [this] at hz
     exact z2 hz
    ·have e':ow' j=ow j:=R'.pin j hz
     rw [e'] at e
     exact z1.1 j e
   ·rcases (R'.nt j b e).2.2 with ⟨_,hz⟩ | w
    ·have:(ghL (lock L fl) G ow H1).HF b=H1 b:=qm (by rintro (⟨j',e',_⟩ | ⟨j',e',_⟩);exact z1.1 j' e';exact z1.2 j' e')
     rw [this] at hz
     exact z2 hz
    ·have e':ow'.n j=ow.n j:=R'.np j w
     rw [e'] at e
     exact z1.2 j e
  refine ⟨_,ow',δ',_,δ1,R'.grow s3,r3.imp sub (fun z=>z),e3,fun σ4 R4 _=>⟨_,ow',δ1,o1,R4,e4,?_⟩⟩
  ·cases o1 with
   | nx δ2=>exact fun ow2 σ2 H2 R2=>⟨ow2,δ2,R2,hd⟩
   | ct δ2=>exact fun ow2 σ2 H2 R2=>⟨ow2,δ2,R2,hd⟩
   | bk δ2=>cases hd;exact fun ow2 σ2 H2 R2=>q ow2 σ2 H2 (R1.unlock R2)
   | rt d=>cases hd;exact q
   | ex c f v=>cases hd;exact q
 ·have e:l.drop i=[]:=lK (by omega)
  rw [e,jD] at hd
  cases hd
  exact .inl ⟨w2 (by omega),q ow' σ' H' (R1.unlock R')⟩
end
end D3
variable {g':D3.D→D3.D→Option D3.D}
namespace D3
open PySem PySem.Spec PyProof.Rows L2 My
def notStar:Expr→Bool
 | .Starred _ _=>false
 | _=>true
theorem mY (h:notStar e=true):starEach (e :: es) env=(false,eval e env) :: starEach es env:=by
 cases e <;> first | rfl | cases h
theorem Ii (h:es.all notStar=true):(backTo pos (starEach es env)).any (·.1)=false:=by
 induction es with
 | nil=>rfl
 | cons e es ih =>
  rw [sJ,aY] at h
  rw [mY h.1]
  have:=ih h.2
  unfold backTo at this ⊢
  rw [aP,mW,this]
  rfl
def isR:Kd→Bool
 | .P=>true
 | .A=>true
 | .R=>true
 | .C=>true
 | _=>false
def Ma (H0:Hp) (ow:Ow) (Hb:Hp):Kd→Ok
 | .P=>ok1
 | .A=>okA ow
 | .R=>okN H0
 | _=>okN Hb
def Vu:Kd→Bool
 | .P=>true
 | .A=>true
 | _=>false
section
variable {K:PySem.W.Frag} {H0 Hb Hc H:Hp} {ow:Ow} {v:V} {d:D} {k:Kd}
theorem Rs.ra (hk:isR k=true) (h:Rs K H0 ow Hb H k v d):RA K (Ma H0 ow Hb k) (Vu k) H v d:=by
 cases k <;> first | exact h | cases hk
theorem Rs.of_ra (hk:isR k=true) (h:RA K (Ma H0 ow Hb k) (Vu k) H v d):Rs K H0 ow Hb H k v d:=by
 cases k <;> first | exact h | cases hk
theorem J1 (s:Same Hb Hc) (hk:isR k=true):∀ a,Ma H0 ow Hc k a→Ma H0 ow Hb k a:=fun a z=>by
 cases k <;> first | exact z | exact s.free z | cases hk
theorem Rs.of_flat (hf:flat d=true) (h:RA K ok0 false H v d):Rs K H0 ow Hb H k v d:=by
 cases k with
 | P=>exact RA.flat hf h
 | B L=>exact .inl (RA.flat hf h)
 | A=>exact RA.flat hf h
 | R=>exact RA.flat hf h
 | F=>exact .inl ⟨hf,h⟩
 | C=>exact RA.flat hf h
 | FC=>exact .inl ⟨hf,h⟩
 | T =>
  obtain ⟨as,h1,_,h3⟩:=RA.rt h
  cases as with
  | nil=>exact ⟨[],h1,.nil,fun _ z=>by cases z⟩
  | cons a r=>exact (h3 a aJ).elim
theorem Rs.back (s:Same Hb Hc) (h:Rs K H0 ow Hc H k v d):Rs K H0 ow Hb H k v d:=by
 cases k with
 | P=>exact h
 | B L=>exact h
 | A=>exact h
 | R=>exact h
 | F =>
  rcases h with h | ⟨a,xs,ds,h1,h2,h3,h4⟩
  ·exact .inl h
  ·exact .inr ⟨a,xs,ds,h1,h2,s.free h3,h4⟩
 | C=>exact RA.imp (fun a z=>s.free z) (fun z=>z) h
 | FC =>
  rcases h with h | ⟨a,xs,ds,h1,h2,h3,h4,h5⟩
  ·exact .inl h
  ·exact .inr ⟨a,xs,ds,h1,h2,s.free h3,h4,h5.imp (fun b z=>⟨s.free z.1,z.2⟩) (fun z=>z)⟩
 | T =>
  obtain ⟨as,h1,h2,h3⟩:=h
  exact ⟨as,h1,h2,fun a z=>s.free (h3 a z)⟩
end
def tDB (K:PySem.W.Frag) (fl:List Fl) (k:Kd) (f:FA):TA:=fun σ H Q=>∃ G ow δ ds,Rel K fl G ow σ H δ∧f δ=some ds∧∀ vs H',Same H H'→RAs K (Ma G.H0 ow H k) (Vu k) H' vs ds→Q vs H'
abbrev DB (X:Cx) (fl:List Fl) (k:Kd) (es:List Expr) (f:FA):Prop:=PA X es (tDB X.K fl k f)
section
variable {X:Cx} {fl:List Fl} {e a b c:Expr} {es rest:List Expr} {k:Kd} {f fa fb fc:FE} {ft gt:FT} {pos:Pos}
theorem Vv:DB X fl k [] bw:=PA.imp pB fun σ H Q h=>by
 obtain ⟨G,ow,δ,ds,R,hf,q⟩:=h
 cases hf
 exact q [] H (Same.refl H) .nil
theorem Q7 {fr:FA} (hk:isR k=true) (h:DE X fl k e f) (hr:DB X fl k es fr) (hs:starEach (e :: es) X.env=(false,eval e X.env) :: starEach es X.env:=by exact mY rfl):DB X fl k (e :: es) (aF f fr):=PA.imp (kW h hr hs) fun σ H Q h=>by
 obtain ⟨G,ow,δ,ds,R,hf,q⟩:=h
 obtain ⟨d,e1,hf⟩:=bind1 hf
 obtain ⟨r,e2,hf⟩:=bind1 hf
 cases hf
 refine ⟨G,ow,δ,d,R,e1,fun v H1 s1 r1=>⟨G,ow,δ,r,R.grow s1,e2,fun vs H2 s2 r2=>?_⟩⟩
 exact q _ H2 (s1.trans s2) (.cons ((r1.ra hk).same s2) (r2.imp (J1 s1 hk) (fun z=>z)))
theorem zL (h:DB X fl .P es fa'):DA X fl es fa':=PA.imp h fun σ H Q h=>by
 obtain ⟨G,ow,δ,ds,R,hf,q⟩:=h
 exact ⟨G,ow,δ,ds,R,hf,fun vs H' s r=>q vs H' s r⟩
theorem uU {x1} {fa:FA} (hk:isR k=true) (h:DB X fl k es fa):DE X fl k (.Tuple es x1 pos) (dTup fa):=PE.imp (U_ h) fun σ H Q h=>by
 obtain ⟨G,ow,δ,d,R,hf,q⟩:=h
 obtain ⟨l,e1,e2⟩:=bind1 hf
 by_cases z:l.length ≤ sizeLine
 ·rw [if_pos z] at e2
  cases e2
  refine ⟨G,ow,δ,l,R,e1,fun vs H' s r=>⟨by rw [r.length];exact z,fun p hp=>?_⟩⟩
  have g:=cH hp (.tup vs)
  exact q _ _ (s.trans g) (Rs.of_ra hk (.tup bN (r.same g)))
 ·rw [if_neg z] at e2
  cases e2
theorem fU {fa:FA} (h:DB X fl .A es fa):DE X fl .F (.List es pos) (eU fa):=PE.imp (Lg h) fun σ H Q h=>by
 obtain ⟨G,ow,δ,d,R,hf,q⟩:=h
 obtain ⟨l,e1,e2⟩:=bind1 hf
 by_cases z:l.length ≤ sizeLine
 ·rw [if_pos z] at e2
  cases e2
  refine ⟨G,ow,δ,l,R,e1,fun vs H' s r=>⟨by rw [r.length];exact z,fun p hp=>?_⟩⟩
  have g:=cH hp (.lst vs)
  exact q _ _ (s.trans g) (.inr ⟨p,vs,l,rfl,rfl,s.free hp,bN,(r.track.imp (fun b w=>⟨w.1,fun e=>w.2 (e ▸ hp)⟩) (fun z=>z)).same g⟩)
 ·rw [if_neg z] at e2
  cases e2
theorem dW {fa:FA} (h:DB X fl .C es fa):DE X fl .FC (.List es pos) (eU fa):=PE.imp (Lg h) fun σ H Q h=>by
 obtain ⟨G,ow,δ,d,R,hf,q⟩:=h
 obtain ⟨l,e1,e2⟩:=bind1 hf
 by_cases z:l.length ≤ sizeLine
 ·rw [if_pos z] at e2
  cases e2
  refine ⟨G,ow,δ,l,R,e1,fun vs H' s r=>⟨by rw [r.length];exact z,fun p hp=>?_⟩⟩
  have g:=cH hp (.lst vs)
  exact q _ _ (s.trans g) (.inr ⟨p,vs,l,rfl,rfl,s.free hp,bN,(r.track.imp (fun b w=>⟨w.1,fun e=>w.2 (e ▸ hp)⟩) (fun z=>z)).same g⟩)
 ·rw [if_neg z] at e2
  cases e2
theorem RAs.at {ok:Ok} {i:Int} (r:RAs K ok pl H vs l) (h:pAt l i=some d):∃ v,atI vs i=some v∧RA K ok pl H v d:=by
 unfold pAt at h
 unfold atI
 obtain ⟨j,e1,e2⟩:=bind1 h
 obtain ⟨y,e3,ry⟩:=r.get e2
 exact ⟨y,by rw [r.length,show ixN l.length i=some j from e1];exact e3,ry⟩
theorem X4 (ha:DE X fl (.B L) a fa) (hb:DE X fl .P b fb) (hs:Am b):DE X fl .A (.Subscript a b pos) (dOp gIx fa fb):=PE.imp (Xr Vf ha hb hs) fun σ H Q h=>by
 obtain ⟨G,ow,δ,d,R,hf,q⟩:=h
 obtain ⟨x,y,e1,e2,e3⟩:=HY hf
 refine ⟨G,ow,δ,x,R,e1,fun v H1 s1 r1=>⟨G,ow,δ,y,R.grow s1,e2,fun u H2 s2 r2=>?_⟩⟩
 unfold gIx at e3
 split at e3
 ·next l i =>
  obtain rfl:=RA.intE r2
  rcases r1 with r1 | ⟨i',_,p,xs,ds,ho,rfl,ez,hx,hr⟩
  ·obtain ⟨p,xs,rfl,hx,hr⟩:=RA.lstE (RA.same s2 r1)
   obtain ⟨z,ez,rz⟩:=hr.at e3
   exact .inl ⟨p,xs,i,z,rfl,rfl,hx,ez,q z H2 (s1.trans s2) rz⟩
  ·cases ez
   obtain ⟨z,ez,rz⟩:=(hr.same s2).at e3
   exact .inl ⟨p,xs,i,z,rfl,rfl,SqL.of (s2 _ _ hx),ez,q z H2 (s1.trans s2) rz⟩
 ·next l i =>
  obtain rfl:=RA.intE r2
  rcases r1 with r1 | ⟨i',_,p,xs,ds,ho,rfl,ez,hx,hr⟩
  ·obtain ⟨p,xs,rfl,hx,hr⟩:=RA.tupE (RA.same s2 r1)
   obtain ⟨z,ez,rz⟩:=hr.at e3
   exact .inr (.inl ⟨p,xs,i,z,rfl,rfl,hx,ez,q z H2 (s1.trans s2) rz⟩)
  ·cases ez
 ·cases e3
theorem rE {op:BoolOp} (h:DE X fl k a f):DE X fl k (.BoolOp op [a] pos) f:=UG h
theorem qp (h1:DE X fl .P a fa) (h2:DE X fl k (.BoolOp .And (b :: rest) pos) fb):DE X fl k (.BoolOp .And (a :: b :: rest) pos) (vU fa fb):=PE.imp (UJ h1 h2) fun σ H Q h=>by
 obtain ⟨G,ow,δ,d,R,hf,q⟩:=h
 obtain ⟨x,e1,e2⟩:=bind1 hf
 refine ⟨G,ow,δ,x,R,e1,fun v H1 s1 r1=>?_⟩
 split at e2
 ·obtain rfl:=RA.blE r1
  exact ⟨true,rfl,Aw ⟨G,ow,δ,d,R.grow s1,e2,fun u H2 s2 r2=>q u H2 (s1.trans s2) (r2.back s1)⟩⟩
 ·obtain rfl:=RA.blE r1
  cases e2
  exact ⟨false,rfl,Av (q _ H1 s1 (Rs.of_flat rfl (.bl _)))⟩
 ·cases e2
theorem Mf (h1:DE X fl .P a fa):DE X fl .FC (.UnaryOp .Not a pos) (Lw fa):=PE.imp (UL h1) fun σ H Q h=>by
 obtain ⟨G,ow,δ,d,R,hf,q⟩:=h
 obtain ⟨x,e1,e2⟩:=bind1 hf
 refine ⟨G,ow,δ,x,R,e1,fun v H1 s1 r1=>?_⟩
 split at e2
 ·next c =>
  obtain rfl:=RA.blE r1
  cases e2
  exact ⟨c,rfl,q _ H1 s1 (Rs.of_flat rfl (.bl _))⟩
 ·cases e2
theorem X5 (hc:DT X fl c ft) (h1:DE X fl k a fa) (h2:DE X fl k b fb):DE X fl k (.IfExp c a b pos) (dIf ft fa fb):=PE.imp (K3 hc h1 h2) fun σ H Q h=>by
 obtain ⟨G,ow,δ,d,R,hf,q⟩:=h
 obtain ⟨t,e1,e2⟩:=bind1 hf
 refine ⟨G,ow,δ,t,R,e1,fun H1 s1=>?_⟩
 cases t with
 | true=>exact Aw ⟨G,ow,δ,d,R.grow s1,e2,fun u H2 s2 r2=>q u H2 (s1.trans s2) (r2.back s1)⟩
 | false=>exact Av ⟨G,ow,δ,d,R.grow s1,e2,fun u H2 s2 r2=>q u H2 (s1.trans s2) (r2.back s1)⟩
theorem lq (h:DT X fl a ft):DT X fl (.UnaryOp .Not a pos) (mH ft):=PT.imp (Uz h) fun σ H Q h=>by
 obtain ⟨G,ow,δ,t,R,hf,q⟩:=h
 unfold mH at hf
 cases e:ft δ with
 | none=>rw [e] at hf;cases hf
 | some x =>
  rw [e] at hf
  cases hf
  exact ⟨G,ow,δ,x,R,e,fun H' s=>q H' s⟩
theorem Ij (h:DT X fl a ft):DW X fl (.BoolOp .And [a] pos) ft:=Qm h
theorem uV (h:DT X fl a ft):DW X fl (.BoolOp .Or [a] pos) ft:=Ux h
theorem Mg (h1:DT X fl a ft) (h2:DW X fl (.BoolOp .And (b :: rest) pos) gt):DW X fl (.BoolOp .And (a :: b :: rest) pos) (Gb ft gt):=PW.imp (Uy h1 h2) fun σ H Q h=>by
 obtain ⟨G,ow,δ,t,R,hf,q⟩:=h
 obtain ⟨x,e1,e2⟩:=bind1 hf
 refine ⟨G,ow,δ,x,R,e1,fun H1 s1=>?_⟩
 cases x with
 | true=>exact Aw ⟨G,ow,δ,t,R.grow s1,e2,fun H2 s2=>q H2 (s1.trans s2)⟩
 | false=>cases e2;exact Av (q H1 s1)
theorem zM (h1:DT X fl a ft) (h2:DW X fl (.BoolOp .Or (b :: rest) pos) gt):DW X fl (.BoolOp .Or (a :: b :: rest) pos) (tOr ft gt):=PW.imp (Xd h1 h2) fun σ H Q h=>by
 obtain ⟨G,ow,δ,t,R,hf,q⟩:=h
 obtain ⟨x,e1,e2⟩:=bind1 hf
 refine ⟨G,ow,δ,x,R,e1,fun H1 s1=>?_⟩
 cases x with
 | true=>cases e2;exact Aw (q H1 s1)
 | false=>exact Av ⟨G,ow,δ,t,R.grow s1,e2,fun H2 s2=>q H2 (s1.trans s2)⟩
theorem Du (h:DW X fl a ft):DT X fl a ft:=PW.pt h
theorem Dv {g:D→D→Option D} (ho:OpR X (compareOp op) r) (ho':OpR X (compareOp op') r') (hb:BrO X.K r g) (hb':BrO X.K r' g') (h1:DE X fl .P a fa) (h2:DE X fl .P b fb) (h3:DE X fl .P c fc)
 (hm:lastMarks [op,op'] [b,c]=false:=by with_unfolding_all rfl):DE X fl .FC (.Compare a [op,op'] [b,c] pos) (oE g g' fa fb fc):=PE.imp (Le ho ho' h1 h2 h3 hm) fun σ H Q h=>by
 obtain ⟨G,ow,δ,d,R,hf,q⟩:=h
 obtain ⟨x,e1,hf⟩:=bind1 hf
 obtain ⟨y,e2,hf⟩:=bind1 hf
 obtain ⟨z,e3,hf⟩:=bind1 hf
 refine ⟨G,ow,δ,x,R,e1,fun v H1 s1 r1=>⟨G,ow,δ,y,R.grow s1,e2,fun u H2 s2 r2=>?_⟩⟩
 refine hb H2 v u x y z _ (RA.same s2 r1) r2 e3 fun zv hz rz=>?_
 split at hf
 ·obtain rfl:=rz.blE
  obtain ⟨w,e4,e5⟩:=bind1 hf
  refine ⟨true,rfl,Aw ⟨G,ow,δ,w,R.grow (s1.trans s2),e4,fun wv H3 s3 r3=>?_⟩⟩
  exact hb' H3 u wv y w d Q (RA.same s3 r2) r3 e5 fun z hz rz=>q z H3 (s1.trans (s2.trans s3)) (.inl ⟨hz,rz⟩)
 ·obtain rfl:=rz.blE
  cases hf
  exact ⟨false,rfl,Av (q _ H2 (s1.trans s2) (.inl ⟨rfl,.bl _⟩))⟩
 ·cases hf
theorem J2 {op'':CmpOp} {r'':R2} {g g'':D→D→Option D} {d:Expr} {fd:FE} (ho:OpR X (compareOp op) r) (ho':OpR X (compareOp op') r') (ho'':OpR X (compareOp op'') r'') (hb:BrO X.K r g) (hb':BrO X.K r' g') (hb'':BrO X.K r'' g'') (h1:DE X fl .P a fa) (h2:DE X fl .P b fb) (h3:DE X fl .P c fc) (h4:DE X fl .P d fd)
 (hm:lastMarks [op,op',op''] [b,c,d]=false:=by with_unfolding_all rfl):DE X fl .FC (.Compare a [op,op',op''] [b,c,d] pos) (wj g g' g'' fa fb fc fd):=PE.imp (JX ho ho' ho'' h1 h2 h3 h4 hm) fun σ H Q h=>by
 obtain ⟨G,ow,δ,dd,R,hf,q⟩:=h
 obtain ⟨x,e1,hf⟩:=bind1 hf
 obtain ⟨y,e2,hf⟩:=bind1 hf
 obtain ⟨z,e3,hf⟩:=bind1 hf
 refine ⟨G,ow,δ,x,R,e1,fun v H1 s1 r1=>⟨G,ow,δ,y,R.grow s1,e2,fun u H2 s2 r2=>?_⟩⟩
 refine hb H2 v u x y z _ (RA.same s2 r1) r2 e3 fun zv hz rz=>?_
 split at hf
 ·obtain rfl:=rz.blE
  obtain ⟨w,e4,hf⟩:=bind1 hf
  obtain ⟨z',e5,hf⟩:=bind1 hf
  refine ⟨true,rfl,Aw ⟨G,ow,δ,w,R.grow (s1.trans s2),e4,fun wv H3 s3 r3=>?_⟩⟩
  refine hb' H3 u wv y w z' _ (RA.same s3 r2) r3 e5 fun zv' hz' rz'=>?_
  split at hf
  ·obtain rfl:=rz'.blE
   obtain ⟨t,e6,e7⟩:=bind1 hf
   refine ⟨true,rfl,Aw ⟨G,ow,δ,t,R.grow (s1.trans (s2.trans s3)),e6,fun tv H4 s4 r4=>?_⟩⟩
   exact hb'' H4 wv tv w t dd Q (RA.same s4 r3) r4 e7 fun z hz rz=>q z H4 (s1.trans (s2.trans (s3.trans s4))) (.inl ⟨hz,rz⟩)
  ·obtain rfl:=rz'.blE
   cases hf
   exact ⟨false,rfl,Av (q _ H3 (s1.trans (s2.trans s3)) (.inl ⟨rfl,.bl _⟩))⟩
  ·cases hf
 ·obtain rfl:=rz.blE
  cases hf
  exact ⟨false,rfl,Av (q _ H2 (s1.trans s2) (.inl ⟨rfl,.bl _⟩))⟩
 ·cases hf
def BrC (K:PySem.W.Frag) (r:List V→Hp→VK→Prop) (g:List D→Option D):Prop:=∀ (H:Hp) (xs:List V) (ds:List D) (d:D) (Q:VK),RAs K ok1 true H xs ds→g ds=some d→(∀ v,flat d=true→RA K ok0 false H v d→Q v H)→r xs H Q
theorem fH {id:String} {r:List V→Hp→VK→Prop} {g:List D→Option D} {fa:FA} (hc:lQ X (.builtin id) r) (hb:BrC X.K r g) (hg:Gl X x) (hm:X.mg x=none) (hv:bootBuiltins x=some (.builtin id)) (ha:DB X fl .P (e :: es) fa) (hn:x ≠ "__name__" := by decide) (hdb:(x == ("__debug__" : Str))=false:=by decide)
 (he:starEach (e :: es) X.env=(false,eval e X.env) :: starEach es X.env:=by exact mY rfl) (hpl:(backTo pos (starEach es X.env)).any (·.1)=false:=by exact Ii rfl):DE X fl .FC (.Call (.Name x p) (e :: es) [] pos) (dCall g fa) :=
 PE.imp (oA hc hg hm hv ha hn hdb he hpl) fun σ H Q h=>by
 obtain ⟨G,ow,δ,d,R,hf,q⟩:=h
 obtain ⟨ds,e1,e2⟩:=bind1 hf
 exact ⟨G,ow,δ,ds,R,e1,fun vs H' s r'=>hb H' vs ds d Q r' e2 fun v hv rv=>q v H' s (.inl ⟨hv,rv⟩)⟩
theorem j_:BrC K (fun xs H Q=>∃ p ys,xs=[.ref p]∧(SqL K H p ys∨SqT K H p ys)∧Q (.int ys.length) H) jj:=by
 intro H xs ds d Q r e q
 unfold jj at e
 split at e
 ·next l =>
  cases e
  cases r with
  | cons r1 r2 =>
   cases r2
   obtain ⟨a,ys,rfl,hx,hr⟩:=r1.lstE
   refine ⟨a,ys,rfl,.inl hx,?_⟩
   rw [hr.length]
   exact q _ rfl (.int _)
 ·next l =>
  cases e
  cases r with
  | cons r1 r2 =>
   cases r2
   obtain ⟨a,ys,rfl,hx,hr⟩:=r1.tupE
   refine ⟨a,ys,rfl,.inr hx,?_⟩
   rw [hr.length]
   exact q _ rfl (.int _)
 ·cases e
theorem Vw:BrC K (fun xs H Q=>∃ i j,xs=[.int i,.int j]∧Q (.int (if j > i then j else i)) H) HJ:=by
 intro H xs ds d Q r e q
 unfold HJ at e
 split at e
 ·cases e
  cases r with
  | cons r1 r2 =>
   cases r2 with
   | cons r2 r3 =>
    cases r3
    obtain rfl:=r1.intE
    obtain rfl:=r2.intE
    exact ⟨_,_,rfl,q _ rfl (.int _)⟩
 ·cases e
theorem Vx:BrC K (fun xs H Q=>∃ i j,xs=[.int i,.int j]∧Q (.int (if j < i then j else i)) H) Ds:=by
 intro H xs ds d Q r e q
 unfold Ds at e
 split at e
 ·cases e
  cases r with
  | cons r1 r2 =>
   cases r2 with
   | cons r2 r3 =>
    cases r3
    obtain rfl:=r1.intE
    obtain rfl:=r2.intE
    exact ⟨_,_,rfl,q _ rfl (.int _)⟩
 ·cases e
theorem Q8 (d:D):tyD d = "NoneType" ∨ tyD d = "bool" ∨ tyD d = "int" ∨ tyD d = "str" ∨ tyD d = "list" ∨ tyD d = "tuple" ∨ tyD d = "dict" := by
 cases d <;> simp [tyD]
def ZQ (K:PySem.W.Frag):List V→Hp→VK→Prop:=fun xs H Q=>∃ x c d,xs=[x,.ty c]∧(c = "int" ∨ c = "bool" ∨ c = "tuple" ∨ c = "list" ∨ c = "str")∧RA K ok1 true H x d∧Q (.bl (isT c (tyD d))) H
theorem Mh:lQ X (.builtin "isinstance") (ZQ X.K):=by
 intro pins s σ H xs us Q I r h
 obtain ⟨x,c,d,rfl,hc,ra,q⟩:=h
 obtain ⟨u,w',rfl,rx,rc⟩:=vals2 r
 cases rc
 have kn:=Vk (K:=X.K) hc (Q8 d)
 have fin:∀ tk,EP X pins σ Q (.bool (isT c (tyD d))) { s with toks:=tk }:=fun tk=>⟨.bl _,H,I.tok _,rfl,q⟩
 cases ra with
 | non=>cases (show u=Value.none from rx);exact PySem.W.kia_one PySem.W.kitx_none I.kIn True.intro kn (fun z=>nomatch z) fin
 | bl b=>cases (show u=Value.bool b from rx);exact PySem.W.kia_one PySem.W.kitx_bool I.kIn True.intro kn (fun z=>nomatch z) fin
 | int i=>obtain ⟨t,z⟩:=(show ∃ t,u=Value.int i t from rx);cases z;exact PySem.W.kia_one PySem.W.kitx_int I.kIn True.intro kn (fun z=>nomatch z) fin
 | str y=>obtain ⟨t,z⟩:=(show ∃ t,u=Value.str y t from rx);cases z;exact PySem.W.kia_one PySem.W.kitx_str I.kIn True.intro kn (fun z=>nomatch z) fin
 | @lst a xs ds e k q' =>
  cases (show u=Value.ref a from rx)
  obtain ⟨its,_,⟨o,n,e1,e2,_⟩,_⟩:=I.list (SqL.of e)
  exact PySem.W.kia_one PySem.W.kitx_list I.kIn ⟨_,e1,e2⟩ kn (fun z=>nomatch z) fin
 | @lsk a xs ds e k q' =>
  cases (show u=Value.ref a from rx)
  obtain ⟨its,_,⟨o,n,e1,e2,_⟩,_⟩:=I.list e.sq
  exact PySem.W.kia_one PySem.W.kitx_list I.kIn ⟨_,e1,e2⟩ kn (fun z=>nomatch z) fin
 | @tup a xs ds e q' =>
  cases (show u=Value.ref a from rx)
  obtain ⟨its,_,⟨o,e1,e2,_⟩,_⟩:=I.tuple e.sq
  exact PySem.W.kia_one PySem.W.kitx_tuple I.kIn ⟨_,e1,e2⟩ kn (fun z=>nomatch z) fin
 | @dic a u0 kvs e g k =>
  rcases g.or with ⟨ks,z⟩ | ⟨ks,z⟩
  ·rw [z] at e;exact zu I rx (TyOf.dK e) kn fin
  ·rw [z] at e;exact zu I rx (TyOf.dT e) kn fin
 | @dik a u0 kvs ob e g k =>
  cases (show u=Value.ref a from rx)
  have ob:=(show fG X.prog X.w H s.heap a u0 from (show L2.Rd H a u0 from .inr ⟨_,e⟩).ok I.hok)
  rcases g.or with ⟨ks,z⟩ | ⟨ks,z⟩
  ·rw [z] at ob
   obtain ⟨_,_,vs,_,dd⟩:=ob
   obtain ⟨o1,_,_,h1,h2,_⟩:=dd
   exact PySem.W.kia_one PySem.W.kitx_dict I.kIn ⟨_,h1,h2.1⟩ kn (fun z=>nomatch z) fin
  ·rw [z] at ob
   obtain ⟨_,_,xs,_,o1,_,_,h1,h2,_⟩:=ob
   exact PySem.W.kia_one PySem.W.kitx_dict I.kIn ⟨_,h1,h2.1⟩ kn (fun z=>nomatch z) fin
theorem lY {T:String} {p':Pos} (hc:T = "int" ∨ T = "bool" ∨ T = "tuple" ∨ T = "list" ∨ T = "str") (h:DE X fl .P a f) (hg:Gl X "isinstance") (hm:X.mg "isinstance" = none) (hg':Gl X x) (hm':X.mg x=none) (hv':bootBuiltins x=some (.type T))
 (hn':x ≠ "__name__" := by decide) (hd':(x == ("__debug__" : Str))=false:=by decide)
 (he:starEach [a,.Name x p'] X.env=(false,eval a X.env) :: starEach [.Name x p'] X.env:=by rfl) (he2:starEach [.Name x p'] X.env=(false,eval (.Name x p') X.env) :: starEach [] X.env:=by rfl) (hpl:(backTo pos (starEach [.Name x p'] X.env)).any (·.1)=false:=by rfl) :
 DE X fl .FC (.Call (.Name "isinstance" p) [a,.Name x p'] [] pos) (dUn (gIs T) f) :=
 PE.imp (oA Mh hg hm boot_isinstance (kW h (kW (Ql (v:=.ty T) hg' hm' hv' rfl hn' hd') pB he2) he) (by decide) (by decide) he hpl) fun σ H Q h=>by
 obtain ⟨G,ow,δ,d,R,hf,q⟩:=h
 obtain ⟨x,e1,e2⟩:=bind1 hf
 cases e2
 exact ⟨G,ow,δ,x,R,e1,fun v H1 s1 r1=>⟨v,T,x,rfl,hc,r1,q _ H1 s1 (.inl ⟨rfl,.bl _⟩)⟩⟩
theorem Bb (h:DE X fl .P a f):DE X fl .FC (.UnaryOp .USub a pos) (dUn Gr f):=PE.imp (Xm U9 h) fun σ H Q h=>by
 obtain ⟨G,ow,δ,d,R,hf,q⟩:=h
 obtain ⟨x,e1,e2⟩:=bind1 hf
 refine ⟨G,ow,δ,x,R,e1,fun v H1 s1 r1=>?_⟩
 unfold Gr at e2
 split at e2
 ·cases e2
  obtain rfl:=RA.intE r1
  exact ⟨_,rfl,q _ H1 s1 (.inl ⟨rfl,.int _⟩)⟩
 ·cases e2
end
def spD (K:PySem.W.Frag) (F:List D→Option D):Sp:=fun vs H Q _=>∃ ds d,(Tb H∧RAs K ok1 true H vs ds)∧F ds=some d∧∀ v H',Same H H'→RA K (okN H) false H' v d→Q v H'
section
variable {P:Program} {w:World} {K:PySem.W.Frag} {mg:Str→Option Value} {base:Heap} {x:Str} {ps N:List Str} {st:Stmt} {k n:Nat} {fs:FS} {fl:List Fl}
theorem mO (p:Nat) (hp:∀ i,i < p→fl[i]? = some .A) (hl:ds.length=p) (hN:p ≤ N.length) (r':Tb H∧RAs K ok1 true H vs ds) :
 Rel K fl ⟨H,H,fun _=>none,fun _=>[],r'.1⟩ ow0 (L2.start N vs) H (ds.map (fun d=>some (.d d))++aG (N.length - p) none):=by
 have r:=r'.2
 have hv:vs.length=p:=by rw [r.length];exact hl
 have get:∀ i d,(ds.map (fun d=>some (U.d d))++aG (N.length - p) none)[i]? = some (some (.d d))→i < p∧ds[i]? = some d:=fun i d h=>by
  by_cases hi:i < p
  ·rw [cQ (by rw [aC,hl];exact hi),aR] at h
   cases e:ds[i]? with
   | none=>rw [e] at h;cases h
   | some z=>rw [e] at h;cases h;exact ⟨hi,rfl⟩
  ·rw [cD (by rw [aC,hl];omega),eF] at h
   split at h <;> cases h
 refine ⟨Same.refl H,Same.refl H,?_,fun i a h=>(by cases h),fun i j a h=>(by cases h),fun i h=>rfl,fun i d h _ _=>?_,fun i d h _ h2 _=>?_,fun i a h=>(by cases h),fun i j a h=>(by cases h),fun i j a h=>(by cases h),fun i h=>rfl,fun i d hn h=>?_⟩
 ·unfold L2.start
  simp only [aW,aC,bD,hv,hl]
 ·obtain ⟨hi,e⟩:=get i d h
  obtain ⟨v,e1,e2⟩:=r.get e
  refine ⟨v,?_,e2.imp (fun _ _=>⟨fun i z=>(by cases z),fun i z=>(by cases z)⟩) (fun z=>z)⟩
  unfold L2.start
  rw [cQ (by rw [aC,hv];exact hi),aR,e1]
  rfl
 ·exact absurd (hp i (get i d h).1) h2
 ·rw [hp i (get i d h).1] at hn
  cases hn
end
section
variable {X:Cx} {fl:List Fl} {e:Expr} {es:List Expr} {pos p:Pos} {x:Str} {ps:List Str} {n:Nat} {F:List D→Option D} {fa:FA}
theorem bW (h:Has X.prog X.w X.K X.mg X.base n x ps (spD X.K F)) (hr:Room n X.A) (ha:DB X fl .P (e :: es) fa) (hg:Gl X x:=by rfl) (hdb:(x == ("__debug__" : Str))=false:=by decide)
 (he:starEach (e :: es) X.env=(false,eval e X.env) :: starEach es X.env:=by exact mY rfl) (hpl:(backTo pos (starEach es X.env)).any (·.1)=false:=by exact Ii rfl) :
 DE X fl .C (.Call (.Name x p) (e :: es) [] pos) (dCall F fa):=PE.imp (Dp h hr ha hg hdb he hpl) fun σ H Q h=>by
 obtain ⟨G,ow,δ,d,R,hf,q⟩:=h
 obtain ⟨ds,e1,e2⟩:=bind1 hf
 refine ⟨G,ow,δ,ds,R,e1,fun vs H' s r=>?_⟩
 show spD X.K F (vs++[]) H' Q E0
 rw [fD]
 exact ⟨ds,d,⟨R.tb.same s,r⟩,e2,fun v H2 s2 r2=>q v H2 (s.trans s2) (RA.imp (fun a z=>s.free z) (fun z=>z) r2)⟩
end
end D3
variable {fh:D3.FO} {st:Stmt}
namespace D3
open PySem PySem.Spec PyProof.Rows L2 My
section
variable {X:Cx} {fl fl':List Fl} {e a b c elt tg iter:Expr} {es ifs:List Expr} {k:Kd} {f fa fb fc:FE} {ft gt:FT} {pos:Pos} {scope:Scope} {ix L TT:List Nat} {fi:FA} {g:FG}
theorem lZ:PTs X [] (tDT X.K fl D3.jx):=fun pins s σ H Q I h=>by
 obtain ⟨G,ow,δ,b,R,hf,q⟩:=h
 cases hf
 exact QM pins s σ H Q I (q H (Same.refl H))
theorem Bc {σ:St} (t:Nat) (ix:List Nat) (hfl:∀ i,i < t + ix.length→fl'[i]? = some .A) (R:Rel K fl G ow σ H δ) (s:Same H H1) :
 Rel K fl' ⟨H,H,fun _=>none,fun _=>[],R.tb⟩ ow0 (qj t ix σ) H1 (iw t ix δ):=by
 have get:∀ i d,(iw t ix δ)[i]? = some (some (.d d))→i < t + ix.length∧∃ j,ix[i - t]? = some j∧t ≤ i∧δ[j]? = some (some (.d d)):=fun i d h=>by
  unfold iw at h
  by_cases hi:i < t
  ·rw [cQ (by rw [bD];exact hi),eF,if_pos hi] at h
   cases h
  ·rw [cD (by rw [bD];omega),bD,aR] at h
   cases e:ix[i - t]? with
   | none=>rw [e] at h;cases h
   | some j =>
    rw [e] at h
    have hl:i - t < ix.length:=by
     rcases d_ (i - t) ix.length with z | z
     ·exact z
     ·rw [bH z] at e;cases e
    refine ⟨by omega,j,rfl,by omega,?_⟩
    have h':(δ[j]?).getD none=some (.d d):=by simpa using h
    cases q:δ[j]? with
    | none=>rw [q] at h';cases h'
    | some o=>rw [q] at h';simp at h';rw [h']
 refine ⟨Same.refl H,s,?_,fun i a h=>(by cases h),fun i j a h=>(by cases h),fun i h=>rfl,fun i d h _ _=>?_,fun i d h _ h2 _=>absurd (hfl i (get i d h).1) h2,fun i a h=>(by cases h),fun i j a h=>(by cases h),fun i j a h=>(by cases h),fun i h=>rfl,fun i d hn h=>(by rw [hfl i (get i d h).1] at hn;cases hn)⟩
 ·unfold qj iw
  simp
 ·obtain ⟨hi,j,ej,ht,ed⟩:=get i d h
  have key:∃ v,σ[j]? = some (some v)∧RA K ok1 true H v d:=by
   cases hN:isN fl[j]? with
   | true =>
    obtain ⟨v,h1,h2,_⟩:=R.nr j d hN ed
    exact ⟨v,h1,h2.ra fun _ _=>trivial⟩
   | false =>
   cases ho:ow j with
   | none =>
    obtain ⟨v,h1,h2⟩:=R.dat j d ed hN ho
    exact ⟨v,h1,h2.imp (fun _ _=>trivial) (fun z=>z)⟩
   | some a =>
    obtain ⟨_,_,xs,ds,h1,h2,h3,h4⟩:=R.own j a ho
    rw [ed] at h4
    cases h4
    exact ⟨_,h1,.lst h2 trivial (h3.imp (fun _ _=>trivial) (fun z=>z))⟩
  obtain ⟨v,h1,h2⟩:=key
  refine ⟨v,?_,(h2.imp (fun _ _=>⟨fun i z=>(by cases z),fun i z=>(by cases z)⟩) (fun z=>z)).same s⟩
  unfold qj
  rw [cD (by rw [bD];omega),bD,aR,ej]
  show some ((σ[j]?).getD none)=_
  rw [h1]
  rfl
theorem vJ {σ:St} {H:Hp} {Q:VK} {t:Nat} (hfl:∀ i,i < t + ix.length→fl'[i]? = some .A) (htg:∀ j ∈ TT,j < t)
 (h:tD X.K fl .FC (gW fi g ft f t ix) σ H Q):zF (tDI X.K fl L fi) (tDG X.K fl' TT g) (tDT X.K fl' ft) (tD X.K fl' .C f) t (qj t ix) σ H Q:=by
 obtain ⟨G,ow,δ,d,R,hf,q⟩:=h
 obtain ⟨l,e1,e2⟩:=bind1 hf
 by_cases hl:l.length ≤ 100000
 case neg=>rw [if_neg hl] at e2;cases e2
 rw [if_pos hl] at e2
 obtain ⟨r,e3,e4⟩:=bind1 e2
 cases e4
 refine ⟨G,ow,δ,l,R,e1,fun J H1 s1 wk Dl hD=>?_⟩
 have R1:=R.grow s1
 let okD:Ok:=fun b=>okN H b∧b ≠ Dl
 refine ⟨fun i m xs H2=>m=l.length - i∧H2 Dl=some (.lst xs)∧Same H1 H2∧xs.length ≤ i∧i ≤ l.length∧∃ ds rest,RAs X.K okD false H2 xs ds∧jM g ft f (iw t ix δ) (l.drop i)=some rest∧r=ds++rest,
  ⟨_,rfl,bN,cH hD _,aL _,cY _,[],r,.nil,by simpa using e3,rfl⟩,?_⟩
 rintro i m xs H2 ⟨rfl,hDl,s2,hxl,hil,ds,rest,hr,hc,rfl⟩
 refine ⟨hDl,?_⟩
 obtain ⟨w1,w2⟩:=wk H2 (fun b o hb _ _=>s2 b o hb) i
 by_cases hlt:i < l.length
 ·have hdrop:l.drop i=l[i] :: l.drop (i + 1):=j8 hlt
  rw [hdrop,jM] at hc
  obtain ⟨δ1,e5,hc⟩:=bind1 hc
  obtain ⟨bb,e6,hc⟩:=bind1 hc
  obtain ⟨go,yl⟩:=w1 l[i] (aO hlt)
  refine .inr ⟨go,sX (bh hxl (bh hil hl)) (by decide),fun x H3 hy=>?_⟩
  obtain ⟨s3,r3⟩:=yl x H3 hy
  have s13:=s2.trans s3
  have Rb:=(Bc t ix hfl R1 (Same.refl H1)).grow s13
  refine ⟨_,_,_,_,δ1,Rb,r3.imp (fun _ _=>⟨fun i z=>(by cases z),fun i z=>(by cases z)⟩) (fun z=>z),e5,fun σ4 R4 keep4=>⟨?_,?_⟩⟩
  ·apply gb
   intro n
   rw [eE,eE]
   exact keep4 (t + n) fun z=>absurd (htg _ z) (by omega)
  ·refine ⟨_,_,δ1,bb,R4,e6,fun H5 s5=>?_⟩
   cases bb with
   | false =>
    rw [if_neg cg] at hc ⊢
    have s35:=s3.trans s5
    exact ⟨l.length - (i + 1),by omega,rfl,s35 _ _ hDl,s2.trans s35,by omega,hlt,ds,rest,hr.same s35,hc,rfl⟩
   | true =>
    rw [if_pos rfl] at hc ⊢
    obtain ⟨y,e7,hc⟩:=bind1 hc
    obtain ⟨l',e8,hc⟩:=bind1 hc
    cases hc
    refine ⟨_,_,δ1,y,R4.grow s5,e7,fun v H6 s6 r6=>?_⟩
    have s35:=s3.trans s5
    have s36:=s35.trans s6
    refine ⟨s36 _ _ hDl,l.length - (i + 1),by omega,rfl,bN,?_,by rw [aW,ig];omega,hlt,ds++[y],l',?_,e8,by simp⟩
    ·intro b o hb
     rw [bx (fun z=>by subst z;rw [hD] at hb;cases hb)]
     exact (s2.trans s36) b o hb
    ·have nd:¬ okD Dl:=fun z=>z.2 rfl
     have s05:Same H H5:=s1.trans (s2.trans s35)
     have ry:RA X.K okD false H6 v y:=RA.imp (fun b z=>⟨s05.free z,fun e=>by subst e;rw [okN,s35 _ _ hDl] at z;cases z⟩) (fun z=>z) r6
     exact ((hr.same s36).append (.cons ry .nil)).upd (s36 _ _ hDl) nd
 ·have ed:l.drop i=[]:=lK (by omega)
  rw [ed,jM] at hc
  cases hc
  refine .inl ⟨w2 (by omega),?_⟩
  rw [fD] at q
  exact q (.ref Dl) H2 (s1.trans s2) (.inr ⟨Dl,xs,ds,rfl,rfl,s1.free hD,hDl,hr⟩)
theorem jX (hc:X.calm=true) (T Vn:List Str) (ix:List Nat) (hi:DI X fl L tg iter fi)
 (hg:∀ cl C s3 H3 fp,DG (blk X (T++Vn) scope cl C s3 H3 fp) fl' TT tg g) (ht:∀ cl C s3 H3 fp,PTs (blk X (T++Vn) scope cl C s3 H3 fp) ifs (tDT X.K fl' ft)) (he:∀ cl C s3 H3 fp,DE (blk X (T++Vn) scope cl C s3 H3 fp) fl' .C elt f)
 (hfl:∀ i,i < T.length + ix.length→fl'[i]? = some .A:=by decide) (htg:∀ j ∈ TT,j < T.length:=by decide)
 (hB:uP X.N X.env.scope.names scope.names Vn ix=true:=by rfl) (hk:scope.kind = .function:=by rfl) (hcell:∀ y ∈ scope.names,y.2 ≠ .cell:=by decide +kernel)
 (hnames:∀ x ∈ scope.names,x.2 = .local→scope.names.lookup x.1=some .local:=by decide +kernel)
 (hfr:∀ x ∈ scope.names,x.2 = .free→x.1 ∈ Vn:=by decide +kernel) (hs:∀ x,foldedSetIterable iter X.env x=pure x:=by intro _;rfl) :
 DE X fl .FC (.ListComp elt [⟨tg,iter,ifs,0⟩] scope pos) (gW fi g ft f T.length ix) :=
 PE.imp (Ax hc T Vn ix hi hg ht he hB hk hcell hnames hfr hs) fun _ _ _ h=>vJ hfl htg h
theorem Mi (hfx:fl[i]? = some .A) (hN:X.N.Nodup) (hi':X.N[i]? = some x) (hx:X.env.scope.names.lookup x=some .local) (hc:X.calm=true) (T Vn:List Str) (ix:List Nat) (hi:DI X fl L tg iter fi)
 (hg:∀ cl C s3 H3 fp,DG (blk X (T++Vn) scope cl C s3 H3 fp) fl' TT tg g) (ht:∀ cl C s3 H3 fp,PTs (blk X (T++Vn) scope cl C s3 H3 fp) ifs (tDT X.K fl' ft)) (he:∀ cl C s3 H3 fp,DE (blk X (T++Vn) scope cl C s3 H3 fp) fl' .C elt f)
 (hfl:∀ i,i < T.length + ix.length→fl'[i]? = some .A:=by decide) (htg:∀ j ∈ TT,j < T.length:=by decide)
 (hsw:swapsWith (.ListComp elt [⟨tg,iter,ifs,0⟩] scope pos) (some (.Name x pos')) spos.line X.env=pure true:=by rfl)
 (hB:uP X.N X.env.scope.names scope.names Vn ix=true:=by rfl) (hk:scope.kind = .function:=by rfl) (hcell:∀ y ∈ scope.names,y.2 ≠ .cell:=by decide +kernel)
 (hnames:∀ x ∈ scope.names,x.2 = .local→scope.names.lookup x.1=some .local:=by decide +kernel)
 (hfr:∀ x ∈ scope.names,x.2 = .free→x.1 ∈ Vn:=by decide +kernel) (hs:∀ x,foldedSetIterable iter X.env x=pure x:=by intro _;rfl) :
 DS1 X fl (.Assign [.Name x pos'] (.ListComp elt [⟨tg,iter,ifs,0⟩] scope pos) spos) (b_ i (gW fi g ft f T.length ix)) :=
 PS.imp (QS hN hi' hx hc T Vn ix hi hg ht he hsw hB hk hcell hnames hfr hs) fun Dn σ H h=>by
 obtain ⟨G,ow,δ,o,R,hf,q⟩:=h
 unfold b_ at hf
 by_cases hl:i < δ.length
 ·rw [if_pos hl] at hf
  obtain ⟨d,e1,e2⟩:=bind1 hf
  cases e2
  exact vJ (fl:=fl) hfl htg ⟨G,ow,δ,d,R,e1,fun v H' s r=>q ow _ H' ((R.grow s).setA hfx (uo R hl) ((r.FC_F R).F_A R))⟩
 ·rw [if_neg hl] at hf
  cases hf
theorem zN {p:Addr} (s:Same H H1) (hp:H1 p=none) (r:RAs K (okA ow) true H1 vs l):Rs K G.H0 ow H (upd H1 p (.lst vs)) .F (.ref p) (.list l) :=
 .inr ⟨p,vs,l,rfl,rfl,s.free hp,bN,(r.track.imp (fun b w=>⟨w.1,fun e=>w.2 (e ▸ hp)⟩) (fun z=>z)).same (cH hp _)⟩
theorem uW {H0:Hp} (r:Rs K H0 ow Hb H (.B L) v (.list l)):∃ a xs,v = .ref a∧SqL K H a xs∧RAs K (okA ow) true H xs l:=by
 rcases r with r | ⟨i,hi,a,xs,ds,ho,rfl,e,hx,hr⟩
 ·exact r.lstE
 ·cases e
  exact ⟨a,xs,rfl,SqL.of hx,hr⟩
def X6 (K:PySem.W.Frag):R2:=fun x y H Q=>∃ l b xs zs,x = .ref l∧y = .ref b∧SqL K H l xs∧SqL K H b zs∧xs.length + zs.length ≤ sizeLine∧∀ p,H p=none→Q (.ref p) (upd H p (.lst (xs++zs)))
theorem Q9:OpR X (binaryOp .Add) (X6 X.K):=by
 intro pins s σ H x y v u Q I rx ry h
 obtain ⟨l,b,xs,zs,rfl,rfl,hH,hB,hz,q⟩:=h
 cases rx
 cases ry
 obtain ⟨its,r,p,_⟩:=I.list hH
 obtain ⟨its2,r2,p2,_⟩:=I.list hB
 obtain ⟨⟨cls,dd,data,sl⟩,ho,hc,n,hd⟩:=p.isList
 obtain ⟨⟨cls2,dd2,data2,sl2⟩,ho2,hc2,n2,hd2⟩:=p2.isList
 simp only at hc hd hc2 hd2
 subst hc hd hc2 hd2
 have e1:=r.length
 have e2:=r2.length
 have e:its.toArray++its2.toArray=(its++its2).toArray:=by simp
 refine concat_meets ⟨_,ho,rfl⟩ ⟨_,ho2,rfl⟩ noFill_list_add seq_list_add PySem.F.slot_list_add PySem.F.entry_list_add (PySem.F.args_list_add_2 _ _) (list_addW l b its.toArray its2.toArray n n2 dd dd2 sl sl2 (by simp;omega)) ⟨ho,ho2,?_⟩
 rw [e]
 exact ⟨.ref _,_,I.lnew (t':=s.toks) (r.append r2) (by rw [aW];omega),rfl,q _ I.fresh⟩
theorem gO {L':List Nat} (h1:DE X fl (.B L) a fa) (h2:DE X fl (.B L') b fb):DE X fl .F (.BinOp a .Add b pos) (dOp fQ fa fb):=PE.imp (La Q9 h1 h2) fun σ H Q h=>by
 obtain ⟨G,ow,δ,d,R,hf,q⟩:=h
 obtain ⟨x,y,e1,e2,e3⟩:=HY hf
 refine ⟨G,ow,δ,x,R,e1,fun v H1 s1 r1=>⟨G,ow,δ,y,R.grow s1,e2,fun u H2 s2 r2=>?_⟩⟩
 unfold fQ at e3
 split at e3
 ·next l m =>
  by_cases z:l.length + m.length ≤ 1000000
  ·rw [if_pos z] at e3
   cases e3
   obtain ⟨p,xs,rfl,hx,hr⟩:=uW r1
   obtain ⟨p',ys,rfl,hy,hr'⟩:=uW r2
   refine ⟨p,p',xs,ys,rfl,rfl,s2.seq hx,hy,?_,fun pn hp=>q _ _ ((s1.trans s2).trans (cH hp _)) (zN (G:=G) (s1.trans s2) hp ((hr.same s2).append hr'))⟩
   rw [hr.length,hr'.length]
   exact bh z (by decide)
  ·rw [if_neg z] at e3
   cases e3
 ·cases e3
theorem RAs.rep {ok:Ok} (r:RAs K ok pl H vs l):∀ n:Nat,RAs K ok pl H (aG n vs).flatten (aG n l).flatten
 | 0=>.nil
 | n + 1=>by
  rw [bZ,bZ,eO,eO]
  exact r.append (RAs.rep r n)
theorem qt (h1:DE X fl .F a fa) (h2:DE X fl .P b fb):DE X fl .F (.BinOp a .Mult b pos) (dOp pL fa fb):=PE.imp (La Vh h1 h2) fun σ H Q h=>by
 obtain ⟨G,ow,δ,d,R,hf,q⟩:=h
 obtain ⟨x,y,e1,e2,e3⟩:=HY hf
 refine ⟨G,ow,δ,x,R,e1,fun v H1 s1 r1=>⟨G,ow,δ,y,R.grow s1,e2,fun u H2 s2 r2=>?_⟩⟩
 unfold pL at e3
 split at e3
 ·next l k =>
  by_cases z:l.length * k.toNat ≤ 1000000∧-(2 ^ 63) ≤ k∧k < 2 ^ 63
  ·rw [if_pos z] at e3
   cases e3
   obtain rfl:=RA.intE r2
   rcases r1 with ⟨hz,_⟩ | ⟨p,xs,ds,rfl,ez,h3,h4,h5⟩
   ·simp [flat] at hz
   ·cases ez
    refine ⟨p,k,xs,rfl,rfl,s2 _ _ h4,z.2.1,z.2.2,?_,fun pn hp=>q _ _ ((s1.trans s2).trans (cH hp _)) (zN (G:=G) (s1.trans s2) hp (((h5.imp (fun b w=>w.1) (fun z=>z)).same s2).rep _))⟩
    rw [h5.length]
    exact bh z.1 (by decide)
  ·rw [if_neg z] at e3
   cases e3
 ·cases e3
theorem Bd (h:DE X fl (.B L) a f) (hg:Gl X "list") (hm:X.mg "list" = none)
 (he:starEach [a] X.env=(false,eval a X.env) :: starEach [] X.env:=by rfl) (hpl:(backTo pos (starEach [] X.env)).any (·.1)=false:=by rfl):DE X fl .F (.Call (.Name "list" p) [a] [] pos) (dUn vD f) :=
 PE.imp (nU Aq hg hm boot_list (kW h pB he) (by decide) (by decide) he hpl) fun σ H Q h=>by
 obtain ⟨G,ow,δ,d,R,hf,q⟩:=h
 obtain ⟨x,e1,e2⟩:=bind1 hf
 refine ⟨G,ow,δ,x,R,e1,fun v H1 s1 r1=>?_⟩
 unfold vD at e2
 split at e2
 ·cases e2
  obtain ⟨p,xs,rfl,hx,hr⟩:=uW r1
  exact ⟨p,xs,rfl,.inl hx,fun pn hp=>q _ _ (s1.trans (cH hp _)) (zN (G:=G) s1 hp hr)⟩
 ·cases e2
  rcases r1 with r1 | ⟨i,hi,a,xs,ds,ho,rfl,e,hx,hr⟩
  ·obtain ⟨p,xs,rfl,hx,hr⟩:=r1.tupE
   exact ⟨p,xs,rfl,.inr hx,fun pn hp=>q _ _ (s1.trans (cH hp _)) (zN (G:=G) s1 hp hr)⟩
  ·cases e
 ·cases e2
def tDO (K:PySem.W.Frag) (fl:List Fl) (f:FO):TO:=fun σ H Q=>∃ G ow δ o,Rel K fl G ow σ H δ∧f δ=some o∧∀ H',Same H H'→Q o H'
theorem PO.imp {o:Option Expr} {t t':TO} (h:PO X o t) (i:∀ σ H Q,t' σ H Q→t σ H Q):PO X o t':=fun pins s σ H Q I q=>h pins s σ H Q I (i σ H Q q)
theorem jd:PO X none (tDO X.K fl jN):=PO.imp QD fun σ H Q h=>by
 obtain ⟨G,ow,δ,o,R,hf,q⟩:=h
 cases hf
 exact q H (Same.refl H)
theorem gw (h:DE X fl .P e f):PO X (some e) (tDO X.K fl (eX f)):=PO.imp (QF h) fun σ H Q h=>by
 obtain ⟨G,ow,δ,o,R,hf,q⟩:=h
 obtain ⟨d,e1,e2⟩:=bind1 hf
 split at e2
 ·cases e2
  refine ⟨G,ow,δ,_,R,e1,fun v H1 s1 r1=>?_⟩
  obtain rfl:=RA.intE r1
  exact ⟨_,rfl,q H1 s1⟩
 ·cases e2
theorem Bf (n d:Nat) (o:Option Int):HT.sIx n d o=pSx n d o:=by
 cases o <;> rfl
theorem RAs.cut {ok:Ok} (r:RAs K ok pl H vs l) (lo hi:Option Int):RAs K ok pl H (Dk vs lo hi) (cutD l lo hi):=by
 unfold Dk cutD
 rw [r.length,Bf,Bf]
 exact (r.drop _).take _
theorem nG {lo hi:Option Expr} {p2:Pos} {fl1:FO} (h:DE X fl (.B L) a f) (h1:PO X lo (tDO X.K fl fl1)) (h2:PO X hi (tDO X.K fl fh)):DE X fl .F (.Subscript a (.Slice lo hi none p2) pos) (dSl f fl1 fh):=PE.imp (Dj QH h h1 h2) fun σ H Q h=>by
 obtain ⟨G,ow,δ,d,R,hf,q⟩:=h
 obtain ⟨x,e1,hf⟩:=bind1 hf
 obtain ⟨o1,e2,hf⟩:=bind1 hf
 obtain ⟨o2,e3,e4⟩:=bind1 hf
 refine ⟨G,ow,δ,x,R,e1,fun v H1 s1 r1=>⟨G,ow,δ,o1,R.grow s1,e2,fun H2 s2=>⟨G,ow,δ,o2,R.grow (s1.trans s2),e3,fun H3 s3=>?_⟩⟩⟩
 split at e4
 ·cases e4
  obtain ⟨p,xs,rfl,hx,hr⟩:=uW r1
  have s13:=s2.trans s3
  exact ⟨p,xs,rfl,s13.seq hx,fun pn hp=>q _ _ ((s1.trans s13).trans (cH hp _)) (zN (G:=G) (s1.trans s13) hp ((hr.same s13).cut o1 o2))⟩
 ·cases e4
theorem Dw:DS1 X fl st (fun _=>none):=PS.imp K6 fun Dn σ H h=>by
 obtain ⟨G,ow,δ,o,R,hf,q⟩:=h
 cases hf
end
end D3
variable {elts:List Expr} {tpos:Pos}
namespace D3
open PySem PySem.Spec PyProof.Rows L2 My
section
variable {X:Cx} {pins:List (Addr × Obj)} {σ:St} {H:Hp} {s:Shared} {h':Heap}
theorem Inv.turnedL (I:Inv X pins σ H s) (k:∀ b o,b ∉ ch→s.heap.get? b=some o→h'.get? b=some o) (hf:∀ b ∈ ch,uN X pins H b):Inv X pins σ H { s with heap:=h',toks:=t' }:=by
 have nit:∀ b u,H b=some u→b ∉ ch:=fun b u e z=>by rw [(hf b z).1] at e;cases e
 refine I.step (g':=s.gens) (d':=s.drawn) (ch:=ch) (fun b hb=>?_) (fun b o _ _ hc e _=>k b o hc e) (fun b o _ _ hc e _=>⟨o.slots,k b o hc e⟩) (fun _ _ _ _ n=>n)
  (fun b o hc e=>⟨o,k b o hc e⟩) (fun _ _ e=>e) (fun _ _ _ e=>e) (fun _ _ _ e=>e) (fun m hm=>?_) (fun b u e=>?_) I.bare
 ·obtain ⟨f0,f1,f2,f3,f4,f5⟩:=hf b hb
  exact ⟨f3,f1,f4,f5⟩
 ·obtain ⟨o,es,ep,ho,r⟩:=hm
  exact ⟨o,es,ep,k _ o (fun z=>(hf _ z).2.1 rfl) ho,r⟩
 ·refine (I.hok b u e).stay (fun c v hc q=>k c v ?_ q) (fun _ q=>q) fun _ _ q=>q
  rcases hc with z | z
  ·rw [z];exact nit b u e
  ·exact nit c _ z
end
def Ite (K:PySem.W.Frag) (a:Addr):It :=
 ⟨fun i H=>∃ xs x,SqL K H a xs∧xs[i]? = some x,fun i H x H'=>∃ p y,H p=none∧H'=upd H p (.tup [.int i,y])∧x = .ref p∧∀ xs,SqL K H a xs→xs[i]? = some y,fun i H=>∃ xs,SqL K H a xs∧xs.length ≤ i⟩
theorem J3 {x1} (a it:Addr) :
 Turn P w K (.Tuple elts x1 tpos) (Ite K a) [it + 1,it] (it + 1) (fun i h=>∃ old,IsEnum h (it + 1) it (i:Int) old∧h.IsListIter it a i) where
 mem:=by simp
 obj:=fun i h st b hb=>by
  obtain ⟨old,he,o,e,c,d⟩:=st
  rcases aZ.mp hb with z | z
  ·subst z
   exact ⟨_,he,fun v z=>by cases z⟩
  ·have z:b=it:=by simpa using z
   subst z
   exact ⟨o,e,fun v z=>by rw [d] at z;cases z⟩
 keep:=fun i h h' st k=>by
  obtain ⟨old,he,hi⟩:=st
  exact ⟨old,k _ (by simp) _ he,hi.at fun o e=>k it (by simp) o e⟩
 item:=by
  intro X hP hw hK hc i pins s σ H E I hf st hg
  subst hP hw hK
  obtain ⟨xs,x,hq,hx⟩:=hg
  obtain ⟨its,rv,p,hz⟩:=I.list hq
  obtain ⟨u,hu,ru⟩:=rv.get hx
  obtain ⟨old,he,hi⟩:=st
  have fe:=hf (it + 1) (by simp)
  have fi:=hf it (by simp)
  have hlt:it + 1 < s.heap.objs.size:=Heap.lt_size he
  refine wpAny_pyNext_enum_item he hi p.isList (x:=u) (by simpa using hu) (Nat.succ_ne_self it) fun h1 ho hi1 ht hsz hk=>?_
  refine ⟨_,rfl,wpAny_letOwnedTupleGo_enum ho fun h2 he2 hs2=>?_⟩
  replace hs2:Heap.SameBut (it + 1) h1 h2:=hs2
  have hn:H s.heap.objs.size=none:=I.hok.fresh (aL _)
  have I0:Inv X pins σ (upd H s.heap.objs.size (.tup [.int (i:Int),x])) { s with heap:=s.heap.push { cls:=.type "tuple", data:=.seq #[.int (i:Int) s.toks,u] } } :=
   I.laid (t':=s.toks) (fun b o e=>Heap.get?_push_of_some _ e) (aL _) ⟨show 2 ≤ sizeLine by decide,[.int (i:Int) s.toks,u],.cons ⟨_,rfl⟩ (.cons ru .nil),⟨_,Heap.get?_push_size _ rfl,rfl,_,rfl⟩⟩
  have ne:∀ b,b ∈ [it + 1,it]→b ≠ s.heap.objs.size:=fun b hb=>by
   rcases aZ.mp hb with w' | w'
   ·rw [w'];exact aQ hlt
   ·rw [show b=it by simpa using w'];exact aQ (tY hlt)
  have I1:Inv X pins σ (upd H s.heap.objs.size (.tup [.int (i:Int),x])) { s with heap:=h2,toks:=s.toks + 1 }:=by
   refine Inv.turnedL (s:={ s with heap:=s.heap.push { cls:=.type "tuple", data:=.seq #[.int (i:Int) s.toks,u] } }) (ch:=[it + 1,it]) I0 (fun b o hb e=>?_) fun b hb=>⟨by rw [bx (ne b hb)];exact (hf b hb).1,(hf b hb).2⟩
   have b1:b ≠ it + 1:=fun z=>hb (by simp [z])
   have b2:b ≠ it:=fun z=>hb (by simp [z])
   rcases Heap.get?_push_cases e with ⟨e1,e2⟩ | e1
   ·subst e1 e2
    exact (hs2.2 _ b1).trans ht
   ·exact (hs2.2 _ b1).trans (hk b o b1 b2 e1)
  refine ⟨.ref s.heap.objs.size,_,I1,rfl,⟨_,x,hn,rfl,rfl,fun ys hy=>by rw [I.list_inj hy hq];exact hx⟩,⟨_,he2,hi1.at fun o e=>(hs2.2 _ (aQ (je it))).trans e⟩,fun b hb=>?_⟩
  rw [bx (ne b hb)]
  exact (hf b hb).1
 done:=by
  intro X hP hw hK hc i pins s σ H E I hf st hg
  subst hP hw hK
  obtain ⟨xs,hq,hx⟩:=hg
  obtain ⟨its,rv,p,hz⟩:=I.list hq
  obtain ⟨old,he,hi⟩:=st
  have hl:=rv.length
  refine wpAny_pyNext_enum_end (I.ok.hd hc) he hi p.isList (by simp;omega) fun h' eb=>⟨rfl,Inv.turnedL (t':=s.toks) (ch:=[it + 1,it]) I (fun b o hb e=>eb b o (fun z=>hb (by simp [z])) e) hf⟩
 self:=fun _ _ _ _ _ st h=>by
  obtain ⟨old,he,_⟩:=st
  exact wpAny_pyIter_enum he h
section
variable {X:Cx} {fl:List Fl} {a:Expr} {f:FE} {pos:Pos}
def X7 (K:PySem.W.Frag) (tl:TE):TI:=fun σ H R=>tl σ H fun x H1=>∃ a,x = .ref a∧(∃ xs,SqL K H1 a xs)∧R (Ite K a) H1
theorem Q_ {x1} (hg:Gl X "enumerate") (hm:X.mg "enumerate" = none) (hl:PE X a tl) (he:starEach [a] X.env=(false,eval a X.env) :: starEach [] X.env:=by rfl)
 (hpl:(backTo pos (starEach [] X.env)).any (·.1)=false:=by rfl):PI X (.Tuple elts x1 tpos) (.Call (.Name "enumerate" p) [a] [] pos) (X7 X.K tl):=by
 intro pins s σ H R I h
 refine wpAny_Call_Name_kw (ou I hg hm boot_enumerate (PyProof.Rows.callWith_type1 (thn ((kW hl pB he) pos pins s σ H (fun vs H1=>match vs with | [x]=>∃ a,x = .ref a∧(∃ xs,SqL X.K H1 a xs)∧R (Ite X.K a) H1 | _=>False) I h) fun us s1 ⟨vs,H1,I1,r1,q1⟩=>?_) he hpl))
 cases r1 with
 | nil=>exact q1.elim
 | cons r rr =>
  cases rr with
  | cons _ _=>exact q1.elim
  | nil =>
  obtain ⟨l,e,⟨xs,hq⟩,q⟩:=q1
  subst e
  cases r
  obtain ⟨its,rv,pl,hz⟩:=I1.list hq
  refine call_enumerate_list pl.isList fun h' he' hi' hsz hk=>?_
  have I2:Inv X pins σ H1 { s1 with heap:=h' }:=I1.kept (t':=s1.toks) hk
  refine wpAny_pyIter_enum (s:={ s1 with heap:=h' }) he' ?_
  refine ⟨s1.heap.objs.size + 1,[s1.heap.objs.size + 1,s1.heap.objs.size],_,_,H1,rfl,I2,J3 l s1.heap.objs.size,⟨_,he',hi'⟩,fun b hb=>?_,q⟩
  have hb':s1.heap.objs.size ≤ b:=by
   rcases aZ.mp hb with z | z
   ·rw [z];exact jk _
   ·rw [show b=s1.heap.objs.size by simpa using z];exact aL _
  exact I1.fpOk hb' (I1.hok.fresh hb')
theorem Ra {x1} (h:DE X fl (.B L) a f) (hg:Gl X "enumerate") (hm:X.mg "enumerate" = none) (he:starEach [a] X.env=(false,eval a X.env) :: starEach [] X.env:=by rfl)
 (hpl:(backTo pos (starEach [] X.env)).any (·.1)=false:=by rfl):DI X fl L (.Tuple elts x1 tpos) (.Call (.Name "enumerate" p) [a] [] pos) (HS f):=PI.imp (Q_ hg hm h he hpl) fun σ H R' h=>by
 obtain ⟨G,ow,δ,l,R,hf,q⟩:=h
 obtain ⟨d,e1,e2⟩:=bind1 hf
 cases d <;> first | (cases e2;done) | skip
 next l0 =>
 cases e2
 refine ⟨G,ow,δ,_,R,e1,fun v H1 s r=>?_⟩
 obtain ⟨a,xs,rfl,hx,keep⟩:=xH (R.grow s) r
 refine ⟨a,rfl,⟨xs,hx⟩,q _ _ s fun H2 k2 i=>?_⟩
 obtain ⟨k3,k4⟩:=keep H2 k2
 refine ⟨fun d hd=>?_,fun hl=>⟨xs,k3,by rw [k4.length];simpa [pN] using hl⟩⟩
 have hd':(l0[i]?).map (fun x=>PyData.tuple [.int (i:Int),x])=some d:=by
  have:=hd
  unfold pN at this
  rw [fW] at this
  exact this
 cases e:l0[i]? with
 | none=>rw [e] at hd';cases hd'
 | some x0 =>
  rw [e] at hd'
  cases hd'
  obtain ⟨y,hy,ry⟩:=k4.get e
  refine ⟨⟨xs,y,k3,hy⟩,fun x H3 hyl=>?_⟩
  obtain ⟨p,y',hp,rfl,rfl,hz⟩:=hyl
  have:some y=some y':=hy.symm.trans (hz xs k3)
  cases this
  have g:=cH hp (.tup [.int (i:Int),y])
  exact ⟨g,.tup bN (.cons (.int _) (.cons (ry.same g) .nil))⟩
end
structure Bl (mg:Str→Option Value):Prop where
 len_:mg "len" = none
 range_:mg "range" = none
 abs_:mg "abs" = none
 isinstance_:mg "isinstance" = none
 int_:mg "int" = none
 bool_:mg "bool" = none
 tuple_:mg "tuple" = none
 list_:mg "list" = none
 str_:mg "str" = none
 max_:mg "max" = none
 min_:mg "min" = none
 sorted_:mg "sorted" = none
 sum_:mg "sum" = none
 reversed_:mg "reversed" = none
 enumerate_:mg "enumerate" = none
 zip_:mg "zip" = none
 set_:mg "set" = none
 any_:mg "any" = none
 all_:mg "all" = none
 dict_:mg "dict" = none
end D3
variable {dc:Value} {sl:Array (Option Value)}
namespace D3
open PySem PySem.Spec PyProof.Rows L2 My
structure FunD (K:PySem.W.Frag) (x:Str) (st:Stmt) (f:Addr) (fd:FuncData):Prop where
 ex:∃ (oc:Value) (od:Option Addr) (dV kV doc pm:Value) (an:Option Addr) (cdv ct:Value) (osl:Array (Option Value)),
  fd=PySem.W.fnOf x x (oX st) (jw st) (bJ st) dV kV doc pm an cdv ct∧K.lookup f=some ⟨oc,od,.func fd,osl⟩∧PySem.W.codeIn K cdv x=true
 kp:PySem.W.keepIn K (.ref f)=true
structure Dg (K:PySem.W.Frag) (mg:Str→Option Value) (x:Str) (st:Stmt) (ps:List Str):Prop where
 ex:∃ (f:Addr) (fd:FuncData),FunD K x st f fd∧Binds K fd ps []∧mg x=some (.ref f)
theorem iy {kV:Value} (X:K.In h) (G:h.Ns mainGlobals mg)
 (hb:∀ (kV doc pm:Value) (an:Option Addr) (cdv ct:Value) (us:List Value),us.length=ps.length→bindArgs (PySem.W.fnOf x x (oX st) (jw st) (bJ st) .none kV doc pm an cdv ct) ⟨us,[]⟩=pure (ps.zip us))
 (a:PySem.W.nsIn K mainGlobals x=some (some (.ref f))) (l:K.lookup f=some ⟨oc,od,.func (PySem.W.fnOf x x (oX st) (jw st) (bJ st) .none kV dc pm an cd ct),sl⟩) (c:PySem.W.codeIn K cd x=true) (k:PySem.W.keepIn K (.ref f)=true):Dg K mg x st ps :=
 ⟨_,_,⟨⟨oc,od,.none,kV,dc,pm,an,cd,ct,sl,rfl,l,c⟩,k⟩,.all (hb kV dc pm an cd ct),PySem.W.mg_of X G a⟩
structure Dl (K:PySem.W.Frag) (mg:Str→Option Value) (x y:Str) (st:Stmt):Prop where
 ex:∃ (f:Addr) (fd:FuncData),FunD K x st f fd∧(∀ (s:Shared) (u:Value),BindsTo s fd ⟨[u],[]⟩ [(y,u)])∧mg x=some (.ref f)
theorem X8 {kV:Value} {y:Str} (X:K.In h) (G:h.Ns mainGlobals mg)
 (hb:∀ (kV doc pm:Value) (an:Option Addr) (cdv ct:Value) (u:Value),bindArgs (PySem.W.fnOf x x (oX st) (jw st) (bJ st) .none kV doc pm an cdv ct) ⟨[u],[]⟩=pure [(y,u)])
 (a:PySem.W.nsIn K mainGlobals x=some (some (.ref f))) (l:K.lookup f=some ⟨oc,od,.func (PySem.W.fnOf x x (oX st) (jw st) (bJ st) .none kV dc pm an cd ct),sl⟩) (c:PySem.W.codeIn K cd x=true) (k:PySem.W.keepIn K (.ref f)=true):Dl K mg x y st :=
 ⟨_,_,⟨⟨oc,od,.none,kV,dc,pm,an,cd,ct,sl,rfl,l,c⟩,k⟩,fun s u=>.of_eq (hb kV dc pm an cd ct u),PySem.W.mg_of X G a⟩
section
variable {P:Program} {w:World} {K:PySem.W.Frag} {mg:Str→Option Value} {base:Heap} {x:Str} {ps N:List Str} {st:Stmt} {k n:Nat} {fs:FS} {fl:List Fl}
theorem FunD.ok (F:FunD K x st f fd) (S:FnScope N ps (bJ st)) (len:∀ vs H Q E,sp vs H Q E→vs.length=ps.length)
 (hbody:∀ (cdv:Value) (A:Around) (outer:List Env) (s:Shared) (H:Hp) (vs:List V) (Q:VK) (E:XK),Room k (A.deeper (envOfC x (bJ st) s.heap.objs.size f cdv))→sp vs H Q E →
  ∃ t,PSs (Dh CX0 P w K mg base N x (bJ st) f cdv A outer s H E).nox (jw st) t∧t { nx:=fun _ H'=>Q .non H',rt:=Q } (L2.start N vs) H):FnOk P w K mg base CX0 (k + 1) f fd ps sp:=by
 obtain ⟨oc,od,dV,kV,doc,pm,an,cdv,ct,osl,rfl,lk,hcd⟩:=F.ex
 refine T4 lk hcd S len fun A outer s H vs Q E hr hsp=>?_
 obtain ⟨t,h,q⟩:=hbody cdv A outer s H vs Q E hr hsp
 exact ⟨t,h.nox,q⟩
theorem Mj (Fn:FunD K x st f fd) (S:FnScope N ps (bJ st)) (hp:∀ i,i < ps.length→fl[i]? = some .A) (hN:ps.length ≤ N.length)
 (hbody:∀ (f:Addr) (cdv:Value) (A:Around) (outer:List Env) (s:Shared) (H:Hp) (E:XK),Room k (A.deeper (envOfC x (bJ st) s.heap.objs.size f cdv))→DSs (cx P w K mg base N x st f cdv A outer s H E) fl (jw st) fs) :
 FnOk P w K mg base CX0 (k + 1) f fd ps (spD K (fnD ps.length (N.length - ps.length) fs)):=by
 refine Fn.ok S (fun vs H Q E h=>?_) (fun cdv A outer s H vs Q E hr h=>?_)
 ·obtain ⟨ds,d,r,hf,_⟩:=h
  unfold fnD at hf
  by_cases z:ds.length=ps.length
  ·rw [r.2.length];exact z
  ·rw [if_neg z] at hf;cases hf
 ·obtain ⟨ds,d,r,hf,q⟩:=h
  refine ⟨_,hbody f cdv A outer s H E hr,?_⟩
  unfold fnD at hf
  by_cases z:ds.length=ps.length
  ·rw [if_pos z] at hf
   split at hf
   ·next d' e =>
    cases hf
    exact ⟨_,_,_,_,mO ps.length hp z hN r,e,fun v H' s r=>q v H' s r⟩
   ·next δ' e =>
    cases hf
    exact ⟨_,_,_,_,mO ps.length hp z hN r,e,fun ow' σ' H' R'=>q .non H' R'.same0 .non⟩
   ·cases hf
  ·rw [if_neg z] at hf;cases hf
theorem jh (Dd:Dg K mg x st ps) (S:FnScope N ps (bJ st)) (hp:∀ i,i < ps.length→fl[i]? = some .A) (hN:ps.length ≤ N.length)
 (hbody:∀ (f:Addr) (cdv:Value) (A:Around) (outer:List Env) (s:Shared) (H:Hp) (E:XK),Room k (A.deeper (envOfC x (bJ st) s.heap.objs.size f cdv))→DSs (cx P w K mg base N x st f cdv A outer s H E) fl (jw st) fs) :
 Has P w K mg base (k + 1) x ps (spD K (fnD ps.length (N.length - ps.length) fs)):=by
 obtain ⟨f,fd,Fn,b,m⟩:=Dd.ex
 exact ⟨f,fd,Mj Fn S hp hN hbody,b,Fn.kp,m⟩
end
def Ml (K:PySem.W.Frag):Sp:=fun vs H Q _=>∃ (a:Addr) (ns:List Int),Tb H∧vs=[.ref a]∧SqL K H a (ns.map V.int)∧ns.length ≤ 63∧∀ H',Q (.bl true) H'
theorem qu {ok:Ok}:∀ ns:List Int,RAs K ok pl H (ns.map V.int) (ns.map PyData.int)
 | []=>.nil
 | n :: r=>.cons (.int n) (qu r)
theorem Rc {F:List D→Option D} (hF:∀ ns:List Int,ns.length ≤ 63→F [.list (ns.map .int)]=some (.bool true)) (vs:List V) (H:Hp) (Q:VK) (E:XK) (h:Ml K vs H Q E):spD K F vs H Q E:=by
 obtain ⟨a,ns,tb,rfl,hS,hl,q⟩:=h
 refine ⟨_,_,⟨tb,.cons ?_ .nil⟩,hF ns hl,fun v H' s r=>?_⟩
 ·rcases hS with (h | ⟨o,h⟩) | h
  ·exact .lst h trivial (qu ns)
  ·exact .lsk (.inl ⟨o,h⟩) rfl (qu ns)
  ·exact .lsk (.inr h) rfl (qu ns)
 ·obtain rfl:=r.blE
  exact q H'
end D3
namespace D3
open PySem PySem.Spec PyProof.Rows L2 My
section
variable {prog:Program} {w:World} {A:Around} {E:Value→Shared→Prop} {s:Shared}
theorem Gz:typeLookup (.type "list_reverseiterator") "__len__" = pure none:=by rw [typeLookup_type,builtinLookup_eq_fast];kernel_rfl
theorem Mp:typeLookup (.type "list_reverseiterator") "__length_hint__" = pure (some (.builtin "list_reverseiterator.__length_hint__")):=by rw [typeLookup_type,builtinLookup_eq_fast];kernel_rfl
theorem Mq {r:Addr} {Q:Bool→Shared→Prop} (hT:s.TypeIs (.ref r) "list_reverseiterator") (h:Q false s):wpAny (model prog w) A (Builtin.List.listLengthHint (.ref r)) Q E s:=by
 unfold Builtin.List.listLengthHint
 refine wpAny_bind (wpAny_specialOf hT Gz ?_)
 refine wpAny_ite_split (fun hab=>absurd hab (by decide)) (fun _=>?_)
 refine wpAny_ite_split (fun hab=>absurd hab (by decide)) (fun _=>?_)
 refine wpAny_bind (wpAny_specialOf hT Mp ?_)
 generalize hid:("list_reverseiterator.__length_hint__" : String)=id0
 wp_delta
 rw [show splitId id0=some ("list_reverseiterator", "__length_hint__") from by subst hid;decide +kernel]
 subst hid
 refine wpAny_bind (wpAny_isInstance (T := "list_reverseiterator") (b:=true) hT (by rw [isSubtype_type];kernel_rfl) ?_)
 refine wpAny_ite_split (fun hab=>absurd hab (by decide)) (fun _=>?_)
 refine wpAny_ite_split (fun _=>?_) (fun hab=>absurd (by decide +kernel) hab)
 refine wpAny_ite_split (fun hab=>absurd hab (by decide +kernel)) (fun _=>?_)
 exact wpAny_pure h
theorem GC {R:Result→Shared→Prop} {l:Addr} {items:Array Value} (hh:A.handled=none) (hne:l ≠ it) (hit:s.heap.IsRevIter it l ((items.size:Int) - 1)) (hl:s.heap.IsList l items) (S:Addr) (res:Value) (c₀:Nat)
 (hSi:S ≠ it) (hSl:S ≠ l) (hS:s.heap.get? S=some { cls:=.type "list", data:=.seq #[] c₀ }) (hn:items.size ≤ sizeLine)
 (hR:∀ h' tk acc' c',(∀ b o,b ≠ S→b ≠ it→s.heap.get? b=some o→h'.get? b=some o)→h'.get? S=some { cls:=.type "list", dict:=none,data:=.seq acc' c',slots:=#[] } →
  ItemsOf (fun i v=>items[items.size - 1 - i]? = some v) acc' items.size→R (.ok (.ret res)) { s with heap:=h',toks:=tk }) :
 wpAny (model prog w) A.in1 (Builtin.List.listExtendWith (.ref S) (.ref it) res)
  (fun fin s'=>match fin with | .done f=>R (.ok f) s' | .again c'=>c'.quiet=true∧codeAny (model prog w) A c' R s') (fun e s'=>R (.error e) s') s:=by
 have hT:s.TypeIs (.ref it) "list_reverseiterator" := hit.typeIs
 unfold Builtin.List.listExtendWith
 refine wpAny_bind (wpAny_typeOf hT ?_)
 have h1:Builtin.List.listSameRef (.ref S) (.ref it)=false:=by simp [Builtin.List.listSameRef,hSi]
 have h2:(Value.type "list_reverseiterator" == Value.type "list")=false:=by decide
 have h3:(Value.type "list_reverseiterator" == Value.type "tuple")=false:=by decide
 simp only [h1,h2,h3,Bool.or_false,n_,if_false]
 refine wpAny_bind (wpAny_pyIter_revIter hit ?_)
 refine wpAny_bind (wpAny_holding (Mq hT ?_))
 refine wpAny_ite_split (fun hab=>absurd hab (by decide +kernel)) (fun _=>?_)
 have W:=(Walks.listRev (prog:=prog) (w:=w) (A:=A.in1) hh it l hne items).toS
 have hSf:S ∉ [it,l]:=fun hm=>by
  rcases aZ.mp hm with z | z
  ·exact hSi z
  ·exact hSl (by simpa using z)
 refine wpAny_pure ⟨plainId_quiet F.plain_extend_loop _,codeAny_extend_loopS W hn S hSf res items.size 0 _ #[] c₀ rfl (cY _) ⟨cY _,by simpa using hit,hl⟩ hS (ItemsOf.nil _) fun s' acc' c' hm hS' hacc=>?_⟩
 rw [Moved.eq_with hm]
 refine hR s'.heap s'.toks acc' c' (fun b o hb hb' e=>hm.heap b o (fun hmem=>?_) e) hS' hacc
 rcases aZ.mp hmem with e' | hmem
 ·exact hb e'
 ·exact hb' (by simpa using hmem)
theorem yO {l:Addr} {items:Array Value} (hh:A.handled=none) (hne:l ≠ it) (hit:s.heap.IsRevIter it l ((items.size:Int) - 1)) (hl:s.heap.IsList l items) (hn:items.size ≤ sizeLine)
 (hQ:∀ h' tk acc' c',(∀ b o,b ≠ it→s.heap.get? b=some o→h'.get? b=some o)→h'.get? s.heap.objs.size=some { cls:=.type "list", dict:=none,data:=.seq acc' c',slots:=#[] } →
  ItemsOf (fun i v=>items[items.size - 1 - i]? = some v) acc' items.size→Q (.ref s.heap.objs.size) { s with heap:=h',toks:=tk }) :
 wpAny (model prog w) A (call (.type "list") [.ref it]) Q E s:=by
 refine callType_codes (Q₁:=fun obj s₁=>obj = .ref s.heap.objs.size∧s₁ = { s with heap:=s.heap.push { cls:=.type "list", data:=.seq #[] } }) F.called_list (F.typeCall_list_1 _) F.entry_list_init
  (code_list_new _ ⟨rfl,rfl⟩) fun obj s₁ h₁=>?_
 obtain ⟨rfl,rfl⟩:=h₁
 have hS:(s.heap.push { cls:=.type "list", data:=.seq #[] }).get? s.heap.objs.size=some { cls:=.type "list", data:=.seq #[] }:=Heap.get?_push_size _ rfl
 obtain ⟨oi,hoi,ri⟩:=id hit
 obtain ⟨ol,hol,rl⟩:=id hl
 have li:s.heap.objs.size ≠ it:=Ne.symm (aQ (Heap.lt_size hoi))
 have ll:s.heap.objs.size ≠ l:=Ne.symm (aQ (Heap.lt_size hol))
 refine ⟨⟨_,hS,rfl⟩,F.args_list_init_2 _ _,?_⟩
 show wpAny _ _ (do let old ← Builtin.List.listItems (.ref s.heap.objs.size);Builtin.List.listUpdate (.ref s.heap.objs.size) (fun _=>#[]);letGo old.toList.reverse;Builtin.List.listExtendWith (.ref s.heap.objs.size) (.ref it) .none) _ _ _
 refine wpAny_bind ?_
 unfold Builtin.List.listItems
 refine wpAny_bind (wpAny_seqItems hS rfl (wpAny_pure ?_))
 show wpAny _ _ (updateSeq s.heap.objs.size (fun _=>#[]) >>= fun _=>letGo (#[]:Array Value).toList.reverse >>= fun _=>Builtin.List.listExtendWith (.ref s.heap.objs.size) (.ref it) .none) _ _ _
 refine wpAny_bind (wpAny_updateSeq hS rfl ?_)
 have hS₂:=Heap.get?_update_self (Obj.mapSeq (fun _=>(#[]:Array Value))) hS rfl
 have oth:∀ b o,b ≠ s.heap.objs.size→s.heap.get? b=some o→((s.heap.push { cls:=.type "list", data:=.seq #[] }).update s.heap.objs.size (Obj.mapSeq (fun _=>(#[]:Array Value)))).get? b=some o :=
  fun b o hb e=>(Heap.get?_update_other _ _ (Ne.symm hb)).trans (Heap.get?_push_of_some _ e)
 refine wpAny_bind (wpAny_letGo ?_)
 refine GC (A:=A.in1) (s:={ s with heap:=(s.heap.push { cls:=.type "list", data:=.seq #[] }).update s.heap.objs.size (Obj.mapSeq (fun _=>(#[]:Array Value))) }) (show A.in1.handled=none from hh) hne ?i1 ?i2 s.heap.objs.size .none _ li ll hS₂ hn fun h' tk acc' c' hk hS' hacc=>?_
 case i1=>exact ⟨oi,oth it oi (Ne.symm li) hoi,ri⟩
 case i2=>exact ⟨ol,oth l ol (Ne.symm ll) hol,rl⟩
 exact ⟨rfl,hQ h' tk acc' c' (fun b o hb e=>hk b o (aQ (Heap.lt_size e)) hb (oth b o (aQ (Heap.lt_size e)) e)) hS' hacc⟩
end
section
variable {X:Cx} {fl:List Fl} {a:Expr} {f:FE} {pos p p2 pos2:Pos}
theorem J4 {its:List Value} {acc:Array Value} (h:ItemsOf (fun i v=>its.toArray[its.toArray.size - 1 - i]? = some v) acc its.toArray.size):acc=its.reverse.toArray:=by
 obtain ⟨h1,h2⟩:=h
 apply pF.mp
 apply gb
 intro i
 have e:acc.toList[i]? = acc[i]?:=by simp
 rw [e]
 by_cases hi:i < its.length
 ·have hs:i < acc.size:=by rw [h1];simpa using hi
  have:=h2 i acc[i] (oO hs)
  rw [oO hs,← this]
  simp [List.getElem?_reverse hi]
 ·rw [lN (by rw [h1];simp;omega)]
  simp
  omega
theorem Rf (h:DE X fl (.B L) a f) (hc:X.calm=true) (hg:Gl X "list") (hm:X.mg "list" = none) (hg2:Gl X "reversed") (hm2:X.mg "reversed" = none)
 (he:starEach [a] X.env=(false,eval a X.env) :: starEach [] X.env:=by rfl) (hpl:(backTo pos2 (starEach [] X.env)).any (·.1)=false:=by rfl)
 (he2:starEach [.Call (.Name "reversed" p2) [a] [] pos2] X.env=(false,eval (.Call (.Name "reversed" p2) [a] [] pos2) X.env) :: starEach [] X.env:=by rfl) (hpl2:(backTo pos (starEach [] X.env)).any (·.1)=false:=by rfl) :
 DE X fl .F (.Call (.Name "list" p) [.Call (.Name "reversed" p2) [a] [] pos2] [] pos) (dUn HN f):=by
 intro pins s σ H Q I hq
 obtain ⟨G,ow,δ,d,R,hf,q⟩:=hq
 obtain ⟨x,e1,e2⟩:=bind1 hf
 cases x <;> first | (cases e2;done) | skip
 next l0 =>
 cases e2
 refine wpAny_Call_Name_kw (ou I hg hm boot_list (PyProof.Rows.callWith_type1 ?_ he2 hpl2))
 rw [he2]
 show wpAny _ _ (spliced ((false,eval (.Call (.Name "reversed" p2) [a] [] pos2) X.env) :: backTo pos (starEach [] X.env))) _ _ s
 refine Calls.spliced_cons ?_
 refine wpAny_Call_Name_kw (ou I hg2 hm2 boot_reversed (PyProof.Rows.callWith_type1 (thn ((kW h pB he) pos2 pins s σ H (fun vs H1=>∃ v,vs=[v]∧Same H H1∧Rs X.K G.H0 ow H H1 (.B L) v (.list l0)) I ⟨G,ow,δ,_,R,e1,fun v H' s' r'=>⟨v,rfl,s',r'⟩⟩) fun us s1 ⟨vs,H1,I1,r1,v,ev,s01,rv⟩=>?_) he hpl))
 subst ev
 obtain ⟨l,xs,rfl,hx,hr⟩:=uW rv
 cases r1 with
 | cons ra rb =>
  cases rb
  cases ra
  obtain ⟨its,rvs,pl,hz⟩:=I1.list hx
  have hlen:=rvs.length
  refine call_reversed_list pl.isList ?_
  refine Calls.spliced_nil ?_
  obtain ⟨ol,hol,rl⟩:=pl.isList
  have hls:l ≠ s1.heap.objs.size:=aQ (Heap.lt_size hol)
  refine yO (items:=its.toArray) (I.ok.hd hc) hls ⟨_,Heap.get?_push_size _ rfl,rfl,rfl⟩ ⟨ol,Heap.get?_push_of_some _ hol,rl⟩ (by rw [aU];omega) fun h' tk acc' c' hk hS' hacc=>?_
  have ea:=J4 hacc
  subst ea
  have I2:=I1.laid (h':=h') (t':=tk) (a:=(s1.heap.push (revObj l ((its.toArray.size:Int) - 1))).objs.size) (o:=.lst xs.reverse) (fun b u e=>hk b u (aQ (Heap.lt_size e)) (Heap.get?_push_of_some _ e)) (by rw [Heap.size_push];exact jk _)
   ⟨by rw [sG];exact hz,its.reverse,c',rvs.reverse,hS'⟩
  have hn:H1 (s1.heap.push (revObj l ((its.toArray.size:Int) - 1))).objs.size=none:=I1.hok.fresh (by rw [Heap.size_push];exact jk _)
  exact ⟨.ref (s1.heap.push (revObj l ((its.toArray.size:Int) - 1))).objs.size,_,I2,rfl,q _ _ (s01.trans (cH hn _)) (zN (G:=G) s01 hn hr.reverse)⟩
end
section
variable {X:Cx} {fl:List Fl} {a b:Expr} {pos p p2 pos2:Pos} {fa:FA}
theorem Ik {f:Nat→V}:∀ (us:List Value) (k:Nat),(∀ j v,us[j]? = some v→RelV (f (k + j)) v)→Vals ((lC k us.length).map f) us
 | [],_,_=>.nil
 | u :: r,k,h=>by
  rw [bM,List.range'_succ,aP]
  refine .cons (h 0 u rfl) (Ik r (k + 1) fun j v hj=>?_)
  have:=h (j + 1) v (by simpa using hj)
  rw [show k + 1 + j=k + (j + 1) by omega]
  exact this
theorem Mr {ok:Ok} (lo:Int):∀ (n k:Nat),RAs K ok pl H ((lC k n).map fun (j:Nat)=>V.int (lo + (j:Int))) ((lC k n).map fun (j:Nat)=>PyData.int (lo + (j:Int)))
 | 0,_=>.nil
 | n + 1,k=>by
  rw [List.range'_succ,aP,aP]
  exact .cons (.int _) (Mr lo n (k + 1))
end
end D3
variable {fl:List D3.Fl}
namespace D3
open PySem PySem.Spec PyProof.Rows L2 My
section
variable {X:Cx}
theorem uw:∀ {ns:List Int} {its:List Value},Vals (ns.map V.int) its→IntsAre its ns
 | [],_,.nil=>.nil
 | n :: r,_,.cons h t=>by
  obtain ⟨k,rfl⟩:=h
  exact .cons _ _ (uw t)
theorem ux {ok:Ok}:∀ {l:List D} {ns:List Int} {ys:List V},dh l=some ns→RAs K ok pl H ys l→ys=ns.map V.int
 | [],_,_,e,.nil=>by cases e;rfl
 | d :: r,ns,_,e,.cons h t=>by
  cases d <;> first | (cases e;done) | skip
  obtain rfl:=h.intE
  cases e2:dh r with
  | none=>rw [dh,e2] at e;cases e
  | some m =>
   rw [dh,e2] at e
   cases e
   rw [ux e2 t]
   rfl
theorem T8:BrC K (fun xs H Q=>∃ (p:Addr) (ns:List Int),xs=[.ref p]∧SqL K H p (ns.map V.int)∧Q (.int ns.sum) H) XM:=by
 intro H xs ds d Q r e q
 unfold XM at e
 split at e
 ·next l =>
  cases e2:dh l with
  | none=>rw [e2] at e;cases e
  | some ns =>
   rw [e2] at e
   cases e
   cases r with
   | cons r1 r2 =>
    cases r2
    obtain ⟨a,ys,rfl,hx,hr⟩:=r1.lstE
    obtain rfl:=ux e2 hr
    exact ⟨a,ns,rfl,hx,q _ rfl (.int _)⟩
 ·cases e
theorem uX:∀ {l m:List Int},l.Perm m→l.Pairwise (· ≤ ·)→m.Pairwise (· ≤ ·)→l=m
 | [],m,p,_,_=>p.nil_eq
 | a :: l,m,p,h1,h2=>by
  cases m with
  | nil=>exact absurd p.length_eq (by simp)
  | cons b m =>
   obtain ⟨a1,a2⟩:=jq.mp h1
   obtain ⟨b1,b2⟩:=jq.mp h2
   have e:a=b:=by
    have x1:a ∈ b :: m:=p.mem_iff.mp aJ
    have x2:b ∈ a :: l:=p.mem_iff.mpr aJ
    rcases aZ.mp x1 with z | z
    ·exact z
    ·rcases aZ.mp x2 with y | y
     ·exact y.symm
     ·exact Int.le_antisymm (a1 b y) (b1 a z)
   subst e
   rw [uX (List.Perm.cons_inv p) a2 b2]
theorem nW:∀ {ns:List Int} {its:List Value},IntsAre its ns→Vals (ns.map V.int) its
 | _,_,.nil=>.nil
 | _,_,.cons n t r=>.cons ⟨t,rfl⟩ (nW r)
theorem Bg:lQ X (.builtin "sorted") (fun xs H Q=>∃ (p:Addr) (ns:List Int),xs=[.ref p]∧SqL X.K H p (ns.map V.int)∧ns.length < 64∧∀ l,H l=none→Q (.ref l) (upd H l (.lst ((yN ns).map V.int)))):=by
 intro pins s σ H xs us Q I r h
 obtain ⟨p,ns,rfl,hx,h64,q⟩:=h
 obtain ⟨u,rfl,rx⟩:=vals1 r
 cases rx
 obtain ⟨its,rvs,pl,hz⟩:=I.list hx
 have hi:=uw rvs
 refine sorted_ints pl.isList hi (by rw [hi.length];exact h64) fun out ns' a1 a2 a3=>?_
 obtain rfl:=uX (a2.trans (pO ns).symm) a3 (rD ns)
 obtain ⟨e,he⟩:=sortedAll_at s.heap its out
 have hn:H (s.heap.objs.size + 1)=none:=I.hok.fresh (jk _)
 have ll:(yN ns).length=ns.length:=(pO ns).length_eq
 have I2:=I.laid (h':=sortedAll s.heap its out) (t':=s.toks) (a:=s.heap.objs.size + 1) (o:=.lst ((yN ns).map V.int)) (fun b u e=>sortedAll_old e) (jk _)
  ⟨by rw [aC,ll];exact bh (dj h64) (by decide),out.toList,e,nW a1,by simpa [seqObj] using he⟩
 exact ⟨.ref _,_,I2,rfl,q _ hn⟩
theorem J5 (ha:DB X fl .P [e] fa) (hg:Gl X "sorted") (hm:X.mg "sorted" = none)
 (he:starEach [e] X.env=(false,eval e X.env) :: starEach [] X.env:=by rfl) (hpl:(backTo pos (starEach [] X.env)).any (·.1)=false:=by rfl):DE X fl .FC (.Call (.Name "sorted" p) [e] [] pos) (dCall Lx fa) :=
 PE.imp (oA Bg hg hm (show bootBuiltins "sorted" = some (.builtin "sorted") by decide +kernel) ha (by decide) (by decide) he hpl) fun σ H Q h=>by
 obtain ⟨G,ow,δ,d,R,hf,q⟩:=h
 obtain ⟨ds,e1,e2⟩:=bind1 hf
 refine ⟨G,ow,δ,ds,R,e1,fun vs H' s r'=>?_⟩
 unfold Lx at e2
 split at e2
 ·next l =>
  cases e3:dh l with
  | none=>rw [e3] at e2;cases e2
  | some ns =>
   rw [e3,aK] at e2
   by_cases h64:ns.length < 64
   ·rw [if_pos h64] at e2
    cases e2
    cases r' with
    | cons r1 r2 =>
     cases r2
     obtain ⟨a,ys,rfl,hx,hr⟩:=r1.lstE
     obtain rfl:=ux e3 hr
     exact ⟨a,ns,rfl,hx,h64,fun l hn=>q _ _ (s.trans (cH hn _)) (.inr ⟨_,_,_,rfl,rfl,s.free hn,bN,qu _⟩)⟩
   ·rw [if_neg h64] at e2;cases e2
 ·cases e2
end
end D3
namespace D3
open PySem PySem.Spec PyProof.Rows L2 My
def gK (n:Nat) (us ws:List α):List α:=if ws.length=n then us++ws else []
structure HasD (P:Program) (w:World) (K:PySem.W.Frag) (mg:Str→Option Value) (base:Heap) (n:Nat) (x:Str) (ps:List Str) (sp:Sp) (dvs:List V) (ks:List Str):Prop where
 ex:∃ (f:Addr) (fd:FuncData) (ds:List Value),FnOk P w K mg base CX0 n f fd ps sp∧Binds K fd ps ds∧Vals dvs ds∧KBinds K fd ps ks (gK ks.length) (gK ks.length)∧PySem.W.keepIn K (.ref f)=true∧mg x=some (.ref f)
structure DgD (K:PySem.W.Frag) (mg:Str→Option Value) (x:Str) (st:Stmt) (ps:List Str) (dvs:List V) (ks:List Str):Prop where
 ex:∃ (f:Addr) (fd:FuncData) (ds:List Value),FunD K x st f fd∧Binds K fd ps ds∧Vals dvs ds∧KBinds K fd ps ks (gK ks.length) (gK ks.length)∧mg x=some (.ref f)
section
variable {P:Program} {w:World} {K:PySem.W.Frag} {mg:Str→Option Value} {base:Heap} {x:Str} {ps N ks:List Str} {st:Stmt} {k n:Nat} {fs:FS} {fl:List Fl} {dvs:List V}
end
section
variable {X:Cx} {fl:List Fl} {e ke:Expr} {es:List Expr} {pos p kpos:Pos} {x kn:Str} {ps:List Str} {n:Nat} {F:List D→Option D} {fa:FA} {fk:FE} {i:Int} {dvs:List V}
theorem Vy:BrC K (fun xs H Q=>(∃ i,xs=[.int i]∧Q (.int i) H)∨∃ k,xs=[.bl k]∧Q (.int (if k then 1 else 0)) H) vW:=by
 intro H xs ds d Q r e q
 unfold vW at e
 split at e
 ·cases e
  cases r with
  | cons r1 r2 =>
   cases r2
   obtain rfl:=r1.intE
   exact .inl ⟨_,rfl,q _ rfl (.int _)⟩
 ·cases e
  cases r with
  | cons r1 r2 =>
   cases r2
   obtain rfl:=r1.blE
   exact .inr ⟨_,rfl,q _ rfl (.int _)⟩
 ·cases e
theorem Il (ha:DB X fl .P [e] fa) (hg:Gl X "int") (hm:X.mg "int" = none)
 (he:starEach [e] X.env=(false,eval e X.env) :: starEach [] X.env:=by rfl) (hpl:(backTo pos (starEach [] X.env)).any (·.1)=false:=by rfl):DE X fl .FC (.Call (.Name "int" p) [e] [] pos) (dCall vW fa) :=
 PE.imp (nU JQ hg hm boot_int ha (by decide) (by decide) he hpl) fun σ H Q h=>by
 obtain ⟨G,ow,δ,d,R,hf,q⟩:=h
 obtain ⟨ds,e1,e2⟩:=bind1 hf
 exact ⟨G,ow,δ,ds,R,e1,fun vs H' s r'=>Vy H' vs ds d Q r' e2 fun v hv rv=>q v H' s (.inl ⟨hv,rv⟩)⟩
end
end D3
namespace D3
open PySem PySem.Spec PyProof.Rows L2 My
section
variable {X:Cx}
theorem Dy:∀ {bs:List Bool} {its:List Value},Vals (bs.map V.bl) its→its=bs.map Value.bool
 | [],_,.nil=>rfl
 | b :: r,_,.cons h t=>by
  cases h
  rw [Dy t]
  rfl
theorem all_range (bs:List Bool):(aX bs.length).all (fun i=>bs.getD i false)=bs.all id:=by
 rw [nj,dN,dN]
 constructor
 ·intro h b hb
  obtain ⟨i,hi,rfl⟩:=nD hb
  have:=h i (bO.mpr hi)
  rw [aM,aO hi] at this
  exact this
 ·intro h i hi
  have hi:=bO.mp hi
  rw [aM,aO hi]
  exact h _ (fK hi)
theorem Dz {prog:Program} (bs:List Bool):TruthOf prog w A (fun i v=>(bs.map Value.bool).toArray[i]? = some v) (fun i=>bs.getD i false):=by
 intro i v s Q E hv hQ
 have hv':(bs.map Value.bool)[i]? = some v:=by simpa using hv
 rw [aR] at hv'
 cases e:bs[i]? with
 | none=>rw [e] at hv';cases hv'
 | some b =>
  rw [e] at hv'
  cases hv'
  have eb:bs.getD i false=b:=by rw [aM,e];rfl
  have hQ':Q (bs.getD i false) s:=hQ
  rw [eb] at hQ'
  exact wpAny_truthy_bool hQ'
theorem rN (hc:X.calm=true):lQ X (.builtin "all") (fun xs H Q=>∃ (p:Addr) (bs:List Bool),xs=[.ref p]∧SqL X.K H p (bs.map V.bl)∧Q (.bl (bs.all id)) H):=by
 intro pins s σ H xs us Q I r h
 obtain ⟨p,bs,rfl,hx,q⟩:=h
 obtain ⟨u,rfl,rx⟩:=vals1 r
 cases rx
 obtain ⟨its,rvs,pl,hz⟩:=I.list hx
 obtain rfl:=Dy rvs
 have hl:s.heap.IsList p (bs.map Value.bool).toArray:=pl.isList
 have hlt:p < s.heap.objs.size:=by obtain ⟨_,e,_⟩:=id hl;exact Heap.lt_size e
 refine call_all_walk (wpAny_pyIter_list hl ?_)
 refine ⟨_,_,_,_,_,_,_,rfl,Walks.list (A:=X.A.in1) (I.ok.hd hc) _ p (aQ hlt) (bs.map Value.bool).toArray,⟨⟨_,Heap.get?_push_size _ rfl,rfl,rfl⟩,hl.push _⟩,Dz bs,fun h' tk hk=>?_⟩
 have e:(bs.map Value.bool).toArray.size=bs.length:=by simp
 rw [e,all_range]
 exact ⟨.bl _,H,I.kept (old_kept hk),rfl,q⟩
theorem zO {ok:Ok}:∀ {l:List D} {bs:List Bool} {ys:List V},gF l=some bs→RAs K ok pl H ys l→ys=bs.map V.bl
 | [],_,_,e,.nil=>by cases e;rfl
 | d :: r,bs,_,e,.cons h t=>by
  cases d <;> first | (cases e;done) | skip
  obtain rfl:=h.blE
  cases e2:gF r with
  | none=>rw [gF,e2] at e;cases e
  | some m =>
   rw [gF,e2] at e
   cases e
   rw [zO e2 t]
   rfl
theorem zP:BrC K (fun xs H Q=>∃ (p:Addr) (bs:List Bool),xs=[.ref p]∧SqL K H p (bs.map V.bl)∧Q (.bl (bs.all id)) H) uQ:=by
 intro H xs ds d Q r e q
 unfold uQ at e
 split at e
 ·next l =>
  cases e2:gF l with
  | none=>rw [e2] at e;cases e
  | some bs =>
   rw [e2] at e
   cases e
   cases r with
   | cons r1 r2 =>
    cases r2
    obtain ⟨a,ys,rfl,hx,hr⟩:=r1.lstE
    obtain rfl:=zO e2 hr
    exact ⟨a,bs,rfl,hx,q _ rfl (.bl _)⟩
 ·cases e
end
section
variable {X:Cx} {fl:List Fl} {a:Expr} {f:FE} {pos:Pos} {ta:TE}
end
section
variable {X:Cx} {fl:List Fl} {a b c:Expr} {f fa fb fc:FE} {pos:Pos}
theorem DK {g:D→D→Option D} (ho:OpR X (compareOp op) r) (ho':OpR X (compareOp op') r') (hb:BrO X.K r g) (hb':BrO X.K r' g') (h1:DE X fl .P a fa) (h2:DE X fl .P b fb) (h3:DE X fl .P c fc)
 (hm:lastMarks [op,op'] [b,c]=false:=by with_unfolding_all rfl):DT X fl (.Compare a [op,op'] [b,c] pos) (cI (oE g g' fa fb fc)):=PT.imp (Lf ho ho' h1 h2 h3 hm) fun σ H Q h=>by
 obtain ⟨G,ow,δ,bb,R,hf,q⟩:=h
 obtain ⟨d,hf,hd⟩:=bind1 hf
 have hd':d = .bool bb:=by cases d <;> first | (cases hd;rfl) | (cases hd;done)
 subst hd'
 obtain ⟨x,e1,hf⟩:=bind1 hf
 obtain ⟨y,e2,hf⟩:=bind1 hf
 obtain ⟨z,e3,hf⟩:=bind1 hf
 refine ⟨G,ow,δ,x,R,e1,fun v H1 s1 r1=>⟨G,ow,δ,y,R.grow s1,e2,fun u H2 s2 r2=>?_⟩⟩
 refine hb H2 v u x y z _ (RA.same s2 r1) r2 e3 fun zv hz rz=>?_
 split at hf
 ·obtain rfl:=rz.blE
  obtain ⟨w,e4,e5⟩:=bind1 hf
  refine ⟨true,rfl,Aw ⟨G,ow,δ,w,R.grow (s1.trans s2),e4,fun wv H3 s3 r3=>?_⟩⟩
  refine hb' H3 u wv y w _ _ (RA.same s3 r2) r3 e5 fun z hz rz=>?_
  obtain rfl:=rz.blE
  exact ⟨_,rfl,q H3 (s1.trans (s2.trans s3))⟩
 ·obtain rfl:=rz.blE
  cases hf
  exact ⟨false,rfl,Av ⟨_,rfl,q H2 (s1.trans s2)⟩⟩
 ·cases hf
end
def Itz (K:PySem.W.Frag) (a b:Addr):It :=
 ⟨fun i H=>∃ xs ys x y,SqL K H a xs∧SqL K H b ys∧xs[i]? = some x∧ys[i]? = some y,
  fun i H x H'=>∃ p u v,H p=none∧H'=upd H p (.tup [u,v])∧x = .ref p∧(∀ xs,SqL K H a xs→xs[i]? = some u)∧∀ ys,SqL K H b ys→ys[i]? = some v,
  fun i H=>∃ xs ys,SqL K H a xs∧SqL K H b ys∧(xs.length ≤ i∨ys.length ≤ i)⟩
theorem zQ {z TI TO i1 i2 l1 l2:Addr} {k1 k2:Nat} {f0 a b:Value} {x y:Value} {xs ys:Array Value} (hz:IsZip h z TI TO f0) (hTI:IsPair h TI x y) (hTO:IsPair h TO a b) (h1:h.IsListIter i1 l1 k1) (h2:h.IsListIter i2 l2 k2) (hl1:h.IsList l1 xs) (hl2:h.IsList l2 ys) (nT:TI ≠ TO) (ni:i1 ≠ i2) :
 ZipApart z TI TO i1 i2 l1 l2:=by
 obtain ⟨o1,e1,c1,d1⟩:=h1
 obtain ⟨o2,e2,c2,d2⟩:=h2
 obtain ⟨p1,g1,k1,m1⟩:=hl1
 obtain ⟨p2,g2,k2,m2⟩:=hl2
 have ne:∀ {u v:Addr} {o o':Obj},h.get? u=some o→h.get? v=some o'→o.cls ≠ o'.cls→u ≠ v:=fun e e' n z=>by
  subst z
  rw [e] at e'
  cases e'
  exact n rfl
 exact ⟨ne hTI hz (by simp),ne hTO hz (by simp),ne e1 hz (by rw [c1];simp),ne e2 hz (by rw [c2];simp),nT,ne hTI e1 (by rw [c1];simp),ne hTI e2 (by rw [c2];simp),ne hTO e1 (by rw [c1];simp),ne hTO e2 (by rw [c2];simp),ni,
  ne g1 hz (by rw [k1];simp),ne g1 hTO (by rw [k1];simp),ne g1 e1 (by rw [k1,c1];simp),ne g1 e2 (by rw [k1,c2];simp),ne g2 hz (by rw [k2];simp),ne g2 hTO (by rw [k2];simp),ne g2 e1 (by rw [k2,c1];simp),ne g2 e2 (by rw [k2,c2];simp)⟩
theorem Ms {x1} (a b z TI TO i1 i2:Addr) (nT:TI ≠ TO) (ni:i1 ≠ i2) :
 Turn P w K (.Tuple elts x1 tpos) (Itz K a b) [z,TI,TO,i1,i2] z (fun i h=>IsZip h z TI TO .none∧IsPair h TI (.ref i1) (.ref i2)∧(∃ u v,IsPair h TO u v)∧h.IsListIter i1 a i∧h.IsListIter i2 b i) where
 mem:=by simp
 obj:=fun i h st c hc=>by
  obtain ⟨hz,hTI,⟨u,v,hTO⟩,⟨o1,e1,c1,d1⟩,⟨o2,e2,c2,d2⟩⟩:=st
  simp only [aZ,aN,eG,or_false] at hc
  rcases hc with rfl | rfl | rfl | rfl | rfl
  ·exact ⟨_,hz,fun v z=>by cases z⟩
  ·exact ⟨_,hTI,fun v z=>by cases z⟩
  ·exact ⟨_,hTO,fun v z=>by cases z⟩
  ·exact ⟨o1,e1,fun v z=>by rw [d1] at z;cases z⟩
  ·exact ⟨o2,e2,fun v z=>by rw [d2] at z;cases z⟩
 keep:=fun i h h' st k=>by
  obtain ⟨hz,hTI,⟨u,v,hTO⟩,h1,h2⟩:=st
  exact ⟨k _ (by simp) _ hz,k _ (by simp) _ hTI,⟨u,v,k _ (by simp) _ hTO⟩,h1.at fun o e=>k i1 (by simp) o e,h2.at fun o e=>k i2 (by simp) o e⟩
 item:=by
  intro X hP hw hK hc i pins s σ H E I hf st hg
  subst hP hw hK
  obtain ⟨xs,ys,x,y,hqa,hqb,hx,hy⟩:=hg
  obtain ⟨itsa,rva,pa,hza⟩:=I.list hqa
  obtain ⟨itsb,rvb,pb,hzb⟩:=I.list hqb
  obtain ⟨ua,hua,rua⟩:=rva.get hx
  obtain ⟨ub,hub,rub⟩:=rvb.get hy
  obtain ⟨hz,hTI,⟨u,v,hTO⟩,h1,h2⟩:=st
  have D:=zQ hz hTI hTO h1 h2 pa.isList pb.isList nT ni
  have lts:∀ c ∈ [z,TI,TO,i1,i2],c < s.heap.objs.size:=fun c hc=>by
   simp only [aZ,aN,eG,or_false] at hc
   rcases hc with rfl | rfl | rfl | rfl | rfl
   ·exact Heap.lt_size hz
   ·exact Heap.lt_size hTI
   ·exact Heap.lt_size hTO
   ·obtain ⟨o,e,_⟩:=h1;exact Heap.lt_size e
   ·obtain ⟨o,e,_⟩:=h2;exact Heap.lt_size e
  refine wpAny_pyNext_zip_item D hz hTI hTO h1 h2 pa.isList pb.isList (x:=ua) (y:=ub) (by simpa using hua) (by simpa using hub) fun hh g1 g2 g3 g4 g5 g6 g7=>?_
  refine ⟨_,rfl,wpAny_letOwnedTupleGo_zip g1 fun hh2 e1 e2=>?_⟩
  replace e2:Heap.SameBut z hh hh2:=e2
  have hn:H s.heap.objs.size=none:=I.hok.fresh (aL _)
  have I0:Inv X pins σ (upd H s.heap.objs.size (.tup [x,y])) { s with heap:=s.heap.push { cls:=.type "tuple", data:=.seq #[ua,ub] } } :=
   I.laid (t':=s.toks) (fun b o e=>Heap.get?_push_of_some _ e) (aL _) ⟨show 2 ≤ sizeLine by decide,[ua,ub],.cons rua (.cons rub .nil),⟨_,Heap.get?_push_size _ rfl,rfl,_,rfl⟩⟩
  have ne:∀ c,c ∈ [z,TI,TO,i1,i2]→c ≠ s.heap.objs.size:=fun c hc=>aQ (lts c hc)
  have I1:Inv X pins σ (upd H s.heap.objs.size (.tup [x,y])) { s with heap:=hh2,toks:=s.toks }:=by
   refine Inv.turnedL (s:={ s with heap:=s.heap.push { cls:=.type "tuple", data:=.seq #[ua,ub] } }) (ch:=[z,TI,TO,i1,i2]) I0 (fun c o hc e=>?_) fun c hc=>⟨by rw [bx (ne c hc)];exact (hf c hc).1,(hf c hc).2⟩
   have b1:c ≠ z:=fun q=>hc (by simp [q])
   have b2:c ≠ TO:=fun q=>hc (by simp [q])
   have b3:c ≠ i1:=fun q=>hc (by simp [q])
   have b4:c ≠ i2:=fun q=>hc (by simp [q])
   rcases Heap.get?_push_cases e with ⟨e3,e4⟩ | e3
   ·subst e3 e4
    exact (e2.2 _ b1).trans g5
   ·exact (e2.2 _ b1).trans (g7 c o b1 b2 b3 b4 e3)
  refine ⟨.ref s.heap.objs.size,_,I1,rfl,⟨_,x,y,hn,rfl,rfl,fun zs hz'=>by rw [I.list_inj hz' hqa];exact hx,fun zs hz'=>by rw [I.list_inj hz' hqb];exact hy⟩,⟨e1,(e2.2 _ D.TIz).trans (g7 _ _ D.TIz D.TITO D.TIi1 D.TIi2 hTI),⟨_,_,(e2.2 _ D.TOz).trans g2⟩,g3.at fun o e=>(e2.2 _ D.i1z).trans e,g4.at fun o e=>(e2.2 _ D.i2z).trans e⟩,fun c hc=>?_⟩
  rw [bx (ne c hc)]
  exact (hf c hc).1
 done:=by
  intro X hP hw hK hc i pins s σ H E I hf st hg
  subst hP hw hK
  obtain ⟨xs,ys,hqa,hqb,hx⟩:=hg
  obtain ⟨itsa,rva,pa,hza⟩:=I.list hqa
  obtain ⟨itsb,rvb,pb,hzb⟩:=I.list hqb
  obtain ⟨hz,hTI,⟨u,v,hTO⟩,h1,h2⟩:=st
  have D:=zQ hz hTI hTO h1 h2 pa.isList pb.isList nT ni
  have la:=rva.length
  have lb:=rvb.length
  refine wpAny_pyNext_zip_end (I.ok.hd hc) D hz hTI hTO h1 h2 pa.isList pb.isList ?_ fun h' eb=>⟨rfl,Inv.turnedL (t':=s.toks) (ch:=[z,TI,TO,i1,i2]) I (fun c o hc e=>eb c o (fun q=>hc (by simp [q])) (fun q=>hc (by simp [q])) (fun q=>hc (by simp [q])) (fun q=>hc (by simp [q])) e) hf⟩
  rcases hx with hx | hx
  ·exact .inl (by simp;omega)
  ·exact .inr (by simp;omega)
 self:=fun _ _ _ _ _ st h=>wpAny_pyIter_zip st.1 h
section
variable {X:Cx} {fl:List Fl} {a b:Expr} {f g:FE} {pos:Pos}
def ZR (K:PySem.W.Frag) (ta tb:TE):TI:=fun σ H R=>ta σ H fun x H1=>tb σ H1 fun y H2=>∃ p q,x = .ref p∧y = .ref q∧(∃ xs,SqL K H2 p xs)∧(∃ ys,SqL K H2 q ys)∧R (Itz K p q) H2
theorem boot_zip:bootBuiltins "zip" = some (.type "zip"):=by decide +kernel
theorem Vz {x1} {ta tb:TE} (hg:Gl X "zip") (hm:X.mg "zip" = none) (ha:PE X a ta) (hb:PE X b tb) (he:starEach [a,b] X.env=(false,eval a X.env) :: starEach [b] X.env:=by rfl) (he2:starEach [b] X.env=(false,eval b X.env) :: starEach [] X.env:=by rfl)
 (hpl:(backTo pos (starEach [b] X.env)).any (·.1)=false:=by rfl):PI X (.Tuple elts x1 tpos) (.Call (.Name "zip" p) [a,b] [] pos) (ZR X.K ta tb):=by
 intro pins s σ H R I h
 refine wpAny_Call_Name_kw (ou I hg hm boot_zip (PyProof.Rows.callWith_type1 (thn ((kW ha (kW hb pB he2) he) pos pins s σ H (fun vs H1=>match vs with | [x,y]=>∃ p q,x = .ref p∧y = .ref q∧(∃ xs,SqL X.K H1 p xs)∧(∃ ys,SqL X.K H1 q ys)∧R (Itz X.K p q) H1 | _=>False) I h) fun us s1 ⟨vs,H1,I1,r1,q1⟩=>?_) he hpl))
 cases r1 with
 | nil=>exact q1.elim
 | cons r rr =>
  cases rr with
  | nil=>exact q1.elim
  | cons r' rr' =>
  cases rr' with
  | cons _ _=>exact q1.elim
  | nil =>
  obtain ⟨l,m,e,e',⟨xs,hq⟩,⟨ys,hq'⟩,q⟩:=q1
  subst e e'
  cases r
  cases r'
  obtain ⟨its,rv,pl,hz⟩:=I1.list hq
  obtain ⟨its',rv',pl',hz'⟩:=I1.list hq'
  refine call_zip_2 pl.isList pl'.isList fun h' g1 g2 g3 g4 g5 g6 hk=>?_
  have I2:Inv X pins σ H1 { s1 with heap:=h' }:=I1.kept (t':=s1.toks) hk
  refine wpAny_pyIter_zip (s:={ s1 with heap:=h' }) g1 ?_
  refine ⟨s1.heap.objs.size + 4,[s1.heap.objs.size + 4,s1.heap.objs.size + 2,s1.heap.objs.size + 3,s1.heap.objs.size,s1.heap.objs.size + 1],_,_,H1,rfl,I2,Ms l m (s1.heap.objs.size + 4) (s1.heap.objs.size + 2) (s1.heap.objs.size + 3) s1.heap.objs.size (s1.heap.objs.size + 1) (aQ (je _)) (aQ (je _)),⟨g1,g2,⟨_,_,g3⟩,g4,g5⟩,fun b hb=>?_,q⟩
  have hb':s1.heap.objs.size ≤ b:=by
   simp only [aZ,aN,eG,or_false] at hb
   rcases hb with rfl | rfl | rfl | rfl | rfl <;> omega
  exact I1.fpOk hb' (I1.hok.fresh hb')
theorem DN:∀ (l m:List D) (i:Nat),(pC l m)[i]? = (l[i]?).bind fun x=>(m[i]?).map fun y=>PyData.tuple [x,y]
 | [],_,i=>by simp [pC]
 | _ :: _,[],i=>by cases i <;> simp [pC]
 | x :: l,y :: m,0=>by simp [pC]
 | x :: l,y :: m,i + 1=>by simp [pC,DN l m i]
theorem DP:∀ (l m:List D),(pC l m).length=min l.length m.length
 | [],_=>by simp [pC]
 | _ :: _,[]=>by simp [pC]
 | x :: l,y :: m=>by simp [pC,DP l m]
theorem RsB.same (e:Same H H') (h:Rs K G.H0 ow Hb H (.B L) v d):Rs K G.H0 ow Hb H' (.B L) v d:=by
 rcases h with h | ⟨i,hi,a,xs,ds,h1,h2,h3,h4,h5⟩
 ·exact .inl (RA.same e h)
 ·exact .inr ⟨i,hi,a,xs,ds,h1,h2,h3,e _ _ h4,h5.same e⟩
theorem Mt {x1} {L1 L2:List Nat} (ha:DE X fl (.B L1) a f) (hb:DE X fl (.B L2) b g) (hg:Gl X "zip") (hm:X.mg "zip" = none) (hL:L=L1++L2:=by rfl)
 (he:starEach [a,b] X.env=(false,eval a X.env) :: starEach [b] X.env:=by rfl) (he2:starEach [b] X.env=(false,eval b X.env) :: starEach [] X.env:=by rfl)
 (hpl:(backTo pos (starEach [b] X.env)).any (·.1)=false:=by rfl):DI X fl L (.Tuple elts x1 tpos) (.Call (.Name "zip" p) [a,b] [] pos) (Ly f g):=PI.imp (Vz hg hm ha hb he he2 hpl) fun σ H R' h=>by
 subst hL
 obtain ⟨G,ow,δ,l,R,hf,q⟩:=h
 obtain ⟨d,e1,hf⟩:=bind1 hf
 obtain ⟨d',e2,hf⟩:=bind1 hf
 obtain ⟨l0,rfl⟩:∃ l0,d = .list l0:=by cases d <;> first | exact ⟨_,rfl⟩ | (cases hf;done)
 obtain ⟨m0,rfl⟩:∃ m0,d' = .list m0:=by cases d' <;> first | exact ⟨_,rfl⟩ | (cases hf;done)
 cases hf
 refine ⟨G,ow,δ,_,R,e1,fun v H1 s1 r1=>⟨G,ow,δ,_,R.grow s1,e2,fun v' H2 s2 r2=>?_⟩⟩
 have r1':=RsB.same s2 r1
 obtain ⟨pa,xs,rfl,hx,keepa⟩:=xH ((R.grow s1).grow s2) r1'
 obtain ⟨pb,ys,rfl,hy,keepb⟩:=xH ((R.grow s1).grow s2) r2
 refine ⟨pa,pb,rfl,rfl,⟨xs,hx⟩,⟨ys,hy⟩,q _ _ (s1.trans s2) fun H3 k3 i=>?_⟩
 obtain ⟨a1,a2⟩:=keepa H3 fun b o e z=>k3 b o e fun i w=>cC _ (z i w)
 obtain ⟨b1,b2⟩:=keepb H3 fun b o e z=>k3 b o e fun i w=>bQ _ (z i w)
 refine ⟨fun d hd=>?_,fun hl=>⟨xs,ys,a1,b1,?_⟩⟩
 ·rw [DN] at hd
  cases ea:l0[i]? with
  | none=>rw [ea] at hd;cases hd
  | some x0 =>
   cases eb:m0[i]? with
   | none=>rw [ea,eb] at hd;cases hd
   | some y0 =>
    rw [ea,eb] at hd
    cases hd
    obtain ⟨x,hx1,rx⟩:=a2.get ea
    obtain ⟨y,hy1,ry⟩:=b2.get eb
    refine ⟨⟨xs,ys,x,y,a1,b1,hx1,hy1⟩,fun z H4 hyl=>?_⟩
    obtain ⟨p',u,v,hp,rfl,rfl,hu,hv⟩:=hyl
    have eu:some x=some u:=hx1.symm.trans (hu xs a1)
    have ev:some y=some v:=hy1.symm.trans (hv ys b1)
    cases eu
    cases ev
    have gg:=cH hp (.tup [x,y])
    exact ⟨gg,.tup bN (.cons (rx.same gg) (.cons (ry.same gg) .nil))⟩
 ·rw [DP] at hl
  rw [a2.length,b2.length]
  omega
end
end D3
namespace D3
open PySem PySem.Spec PyProof.Rows L2 My
section
variable {X:Cx} {fl:List Fl} {e a b c:Expr} {es rest:List Expr} {k:Kd} {f fa fb fc:FE} {ft gt:FT} {pos:Pos}
theorem Bh:DE X fl .T (.Dict [] [] pos) (dC (.dict [])):=PE.imp Lq fun σ H Q h=>by
 obtain ⟨G,ow,δ,d,R,hf,q⟩:=h
 cases hf
 intro p hp
 exact q _ _ (cH hp _) ⟨[p],.dic bN (.inl ⟨rfl,rfl⟩),dJ.mpr ⟨eG,.nil⟩,fun x hx=>by rw [aN.mp hx];exact hp⟩
theorem X_ (h:DE X fl .T e f):DE X fl .C e f:=nO h fun Hb H G ow σ δ v d R r=>by
 obtain ⟨as,h1,h2,h3⟩:=r
 exact h1.ra h3
theorem Rg (i:Nat) (hn:isN fl[i]? = true) {x:Str} (hN:X.N[i]? = some x:=by rfl) (hv:Vis X.env.scope x:=by first | exact Or.inl rfl | exact Or.inr (Or.inl rfl) | exact Or.inr (Or.inr rfl)) (hd:(x == ("__debug__" : Str))=false:=by decide)
 (hcd:(x == ("__classdict__" : Str))=false:=by decide):DE X fl .P (.Name x pos) (aD i):=by
 refine PE.imp (qd hN hv hd hcd) fun σ H Q h=>?_
 obtain ⟨G,ow,δ,d,R,hf,q⟩:=h
 obtain ⟨v,h1,h2,_⟩:=R.nr i d hn (mX hf)
 exact ⟨v,h1,q v H (Same.refl H) (h2.ra fun _ _=>trivial)⟩
theorem Mu (i:Nat) (hn:isN fl[i]? = true) {x:Str} (hN:X.N[i]? = some x:=by rfl) (hv:Vis X.env.scope x:=by first | exact Or.inl rfl | exact Or.inr (Or.inl rfl) | exact Or.inr (Or.inr rfl)) (hd:(x == ("__debug__" : Str))=false:=by decide)
 (hcd:(x == ("__classdict__" : Str))=false:=by decide):DE X fl .R (.Name x pos) (aD i):=by
 refine PE.imp (qd hN hv hd hcd) fun σ H Q h=>?_
 obtain ⟨G,ow,δ,d,R,hf,q⟩:=h
 obtain ⟨v,h1,h2,_⟩:=R.nr i d hn (mX hf)
 exact ⟨v,h1,q v H (Same.refl H) (h2.ra fun a ha=>(R.nt i a ha).1)⟩
end
section
variable {K:PySem.W.Frag} {fl:List Fl}
def owN (ow:Ow) (i:Nat) (as:List Addr):Ow:=⟨ow.s,fun j=>if j=i then as else ow.n j⟩
theorem mQ:(owN ow i as).n i=as:=if_pos rfl
theorem lu {j:Nat} (h:j ≠ i):(owN ow i as).n j=ow.n j:=if_neg h
theorem Rel.setN {σ:St} (R:Rel K fl G ow σ H δ) (s:Same H H') (hfl:fl[i]? = some .N) (hi:i < σ.length) (r:Rs K G.H0 ow H H' .T v d) :
 ∃ ow',Rel K fl G ow' (σ.set i (some v)) H' (δ.set i (some (.d d))):=by
 have R':=R.grow s
 obtain ⟨as,h1,h2,h3⟩:=r
 have no:∀ a,ow i ≠ some a:=fun a z=>by
  obtain ⟨_,hz,_⟩:=R.own i a z
  rw [hfl] at hz
  rcases hz with ⟨z,_⟩ | ⟨z,_⟩ <;> cases z
 have sub:∀ b,okA ow b∧H b ≠ none→okA (owN ow i as) b:=fun b z=>⟨z.1.1,fun j e=>by
  by_cases hj:j=i
  ·subst hj
   rw [mQ] at e
   exact z.2 (h3 b e)
  ·rw [lu hj] at e
   exact z.1.2 j e⟩
 have old:∀ {v:V} {d:D},RA K (okA ow) true H v d→RA K (okA (owN ow i as)) true H' v d:=fun r=>(r.track.imp sub (fun z=>z)).same s
 have olds:∀ {v:List V} {d:List D},RAs K (okA ow) true H v d→RAs K (okA (owN ow i as)) true H' v d:=fun r=>(r.track.imp sub (fun z=>z)).same s
 refine ⟨owN ow i as,R'.s0,R'.s1,by rw [dD,dD];exact R.len,fun j a h=>?_,R.inj,R.pin,fun j d' g1 gn g2=>?_,fun j d' g1 gn g2 g3=>?_,fun j a h=>?_,fun j j' a h h'=>?_,fun j j' a h=>?_,fun j h=>?_,fun j d' gn g1=>?_⟩
 ·have hj:j ≠ i:=fun z=>no a (z ▸ h)
  obtain ⟨h0,hf,xs,ds,g1,g2,g3,g4⟩:=R.own j a h
  exact ⟨h0,hf,xs,ds,by rw [bI (Ne.symm hj)];exact g1,s _ _ g2,olds g3,by rw [bI (Ne.symm hj)];exact g4⟩
 ·rcases iM g1 with ⟨rfl,e⟩ | ⟨hj,e⟩
  ·rw [hfl] at gn;cases gn
  ·obtain ⟨v',g3,g4⟩:=R.dat j d' e gn g2
   exact ⟨v',by rw [bI (Ne.symm hj)];exact g3,old g4⟩
 ·rcases iM g1 with ⟨rfl,e⟩ | ⟨hj,e⟩
  ·rw [hfl] at gn;cases gn
  ·exact R.oo j d' e gn g2 g3
 ·by_cases hj:j=i
  ·subst hj
   rw [mQ] at h
   exact ⟨R.same0.free (h3 a h),h1.chd a h,.inl ⟨hfl,R.s1.free (h3 a h)⟩⟩
  ·rw [lu hj] at h
   exact R'.nt j a h
 ·by_cases hj:j=i
  ·by_cases hj':j'=i
   ·rw [hj,hj']
   ·subst hj
    rw [mQ] at h
    rw [lu hj'] at h'
    exact absurd (h3 a h) (R.nt j' a h').2.1.ne
  ·rw [lu hj] at h
   by_cases hj':j'=i
   ·subst hj'
    rw [mQ] at h'
    exact absurd (h3 a h') (R.nt j a h).2.1.ne
   ·rw [lu hj'] at h'
    exact R.nd j j' a h h'
 ·by_cases hj:j=i
  ·subst hj
   rw [mQ] at h
   exact fun z=>by
    obtain ⟨_,_,_,_,_,g2,_⟩:=R.own j' a z
    rw [h3 a h] at g2
    cases g2
  ·rw [lu hj] at h
   exact R.ns j j' a h
 ·have hj:j ≠ i:=fun z=>by subst z;rw [hfl] at h;cases h
  rw [lu hj]
  exact R.np j h
 ·rcases iM g1 with ⟨rfl,e⟩ | ⟨hj,e⟩
  ·cases e
   exact ⟨v,by rw [dw hi],by rw [mQ];exact h1,by rw [mQ];exact h2⟩
  ·obtain ⟨v',g3,g4⟩:=R'.nr j d' gn e
   exact ⟨v',by rw [bI (Ne.symm hj)];exact g3,by rw [lu hj];exact g4⟩
theorem Rel.mutN {σ:St} {u':HO} [cu:Chg u] [cu':Chg u'] {d:D} {v:V} {as:List Addr} (R:Rel K fl G ow σ H δ) (hfl:fl[i]? = some .N) (hi:i < δ.length) (ha:a ∈ ow.n i) (hx:H a=some u) (hv:σ[i]? = some (some v))
 (hr:RT K (upd H a u') v d as) (hs:∀ b ∈ as,b ∈ ow.n i) (hd:as.Nodup):∃ ow',Rel K fl G ow' σ (upd H a u') (δ.set i (some (.d d))):=by
 have na:¬ okA ow a:=fun z=>z.2 i ha
 have hF:G.HF a=none:=by
  rcases (R.nt i a ha).2.2 with ⟨_,z⟩ | z
  ·exact z
  ·rw [hfl] at z;cases z
 have no:∀ a,ow i ≠ some a:=fun a z=>by
  obtain ⟨_,hz,_⟩:=R.own i a z
  rw [hfl] at hz
  rcases hz with ⟨z,_⟩ | ⟨z,_⟩ <;> cases z
 have sub:∀ b,okA ow b→okA (owN ow i as) b:=fun b z=>⟨z.1,fun j e=>by
  by_cases hj:j=i
  ·subst hj
   rw [mQ] at e
   exact z.2 j (hs b e)
  ·rw [lu hj] at e
   exact z.2 j e⟩
 have tr:∀ b,Chd (H b)→Chd (upd H a u' b):=fun b z=>by
  by_cases hb:b=a
  ·rw [hb,bN];exact ⟨_,rfl,cu'⟩
  ·rw [bx hb];exact z
 refine ⟨owN ow i as,R.s0,fun b o hb=>?_,by rw [dD];exact R.len,fun j b h=>?_,R.inj,R.pin,fun j d' g1 gn g2=>?_,fun j d' g1 gn g2 g3=>?_,fun j b h=>?_,fun j j' b h h'=>?_,fun j j' b h=>?_,fun j h=>?_,fun j d' gn g1=>?_⟩
 ·rw [bx (fun z=>by subst z;rw [hF] at hb;cases hb)]
  exact R.s1 b o hb
 ·have hj:j ≠ i:=fun z=>no b (z ▸ h)
  obtain ⟨h0,hf,zs,ds,g1,g2,g3,g4⟩:=R.own j b h
  have hb:b ≠ a:=fun z=>R.ns i j a ha (z ▸ h)
  exact ⟨h0,hf,zs,ds,g1,by rw [bx hb];exact g2,(g3.upd hx na).imp sub (fun z=>z),by rw [bI (Ne.symm hj)];exact g4⟩
 ·rcases iM g1 with ⟨rfl,e⟩ | ⟨hj,e⟩
  ·rw [hfl] at gn;cases gn
  ·obtain ⟨v',g3,g4⟩:=R.dat j d' e gn g2
   exact ⟨v',g3,(g4.upd hx na).imp sub (fun z=>z)⟩
 ·rcases iM g1 with ⟨rfl,e⟩ | ⟨hj,e⟩
  ·rw [hfl] at gn;cases gn
  ·exact R.oo j d' e gn g2 g3
 ·by_cases hj:j=i
  ·subst hj
   rw [mQ] at h
   obtain ⟨g1,g2,g3⟩:=R.nt j b (hs b h)
   exact ⟨g1,tr b g2,g3⟩
  ·rw [lu hj] at h
   obtain ⟨g1,g2,g3⟩:=R.nt j b h
   exact ⟨g1,tr b g2,g3⟩
 ·have old:∀ j b,b ∈ (owN ow i as).n j→b ∈ ow.n j:=fun j b h=>by
   by_cases hj:j=i
   ·subst hj;rw [mQ] at h;exact hs b h
   ·rw [lu hj] at h;exact h
  exact R.nd j j' b (old j b h) (old j' b h')
 ·by_cases hj:j=i
  ·subst hj;rw [mQ] at h;exact R.ns j j' b (hs b h)
  ·rw [lu hj] at h;exact R.ns j j' b h
 ·have hj:j ≠ i:=fun z=>by subst z;rw [hfl] at h;cases h
  rw [lu hj]
  exact R.np j h
 ·rcases iM g1 with ⟨rfl,e⟩ | ⟨hj,e⟩
  ·cases e
   exact ⟨v,hv,by rw [mQ];exact hr,by rw [mQ];exact hd⟩
  ·obtain ⟨v',g3,g4,g5⟩:=R.nr j d' gn e
   exact ⟨v',g3,by rw [lu hj];exact g4.upd hx (fun z=>hj (R.nd j i a z ha)),by rw [lu hj];exact g5⟩
end
section
variable {K:PySem.W.Frag} {H:Hp}
end
section
variable {X:Cx} {fl:List Fl} {e ke:Expr} {f fk:FE} {pos:Pos}
theorem Im (hfl:fl[i]? = some .N) (hN:X.N.Nodup) (hi:X.N[i]? = some x) (hv:X.env.scope.names.lookup x=some .local∨X.env.scope.names.lookup x=some .cell) (h:DE X fl .T e f)
 (hs:swapsWith e (some (.Name x pos')) pos.line X.env=pure false:=by rfl) (hfn:X.fn x=true∨X.env.scope.names.lookup x=some .local:=by first | exact .inl rfl | exact .inr rfl) :
 DS1 X fl (.Assign [.Name x pos'] e pos) (b_ i f):=PS.imp (Ge (i:=i) hN hi hv h hs hfn) fun Dn σ H h=>by
 obtain ⟨G,ow,δ,o,R,hf,q⟩:=h
 unfold b_ at hf
 by_cases hl:i < δ.length
 ·rw [if_pos hl] at hf
  obtain ⟨d,e1,e2⟩:=bind1 hf
  cases e2
  refine ⟨G,ow,δ,d,R,e1,fun v H' s r=>?_⟩
  obtain ⟨ow',R'⟩:=R.setN s hfl (uo R hl) r
  exact q ow' _ H' R'
 ·rw [if_neg hl] at hf
  cases hf
end
end D3
variable {fe:D3.FE}
namespace D3
open PySem
def xJ:List D→Option D
 | [.int hi]=>if (-(2 ^ 62) ≤ hi∧hi < 2 ^ 62)∧(hi - 0).toNat ≤ 1000000 then some (.list (jy 0 hi)) else none
 | _=>none
theorem Rh {hi:Int} (h:0 ≤ hi) (h':hi ≤ 1000000):xJ [.int hi]=some (.list (jy 0 hi)):=by
 show (if (-(2 ^ 62) ≤ hi∧hi < 2 ^ 62)∧(hi - 0).toNat ≤ 1000000 then some (PyData.list (jy 0 hi)) else none)=_
 rw [if_pos ⟨⟨by omega,by omega⟩,by omega⟩]
def Io:D→Bool
 | .list _=>true
 | .tuple _=>true
 | .dict _=>true
 | _=>false
def iiD:List (D × D)→Option (List (Int × Int))
 | []=>some []
 | (.int i,.int j) :: r=>(iiD r).map ((i,j) :: ·)
 | _=>none
mutual
def noK:D→Bool
 | .none=>true
 | .bool _=>true
 | .int _=>true
 | .str _=>true
 | .list xs=>J6 xs
 | .tuple xs=>J6 xs
 | .dict kvs=>(iiD kvs).isSome
def J6:List D→Bool
 | []=>true
 | x :: r=>noK x && J6 r
end
noncomputable def yP:D→D→Option D:=fun x y=>if (SeqAt.shaped x && SeqAt.shaped y)=true then some (.bool (PyData.eqv x y)) else @ite _ (x=y∧Io x=true∧x.depth ≤ 64∧noK x=true) (Classical.propDecidable _) (some (.bool true)) none
theorem uy {x:D} (h:gEq x y=some d):yP x y=some d:=by
 unfold gEq at h
 unfold yP
 split at h
 ·next z=>rw [if_pos z];exact h
 ·cases h
theorem Mv {x:D} (hs:SeqAt.shaped x=false) (hb:Io x=true) (hd:x.depth ≤ 64) (hn:noK x=true):yP x x=some (.bool true):=by
 unfold yP
 rw [hs,if_neg (by decide),if_pos ⟨rfl,hb,hd,hn⟩]
def T9:D→Option (List D)
 | .list l=>some l
 | .tuple l=>some l
 | _=>none
def qSq (x:Option D):Option (List D):=x.bind T9
def uY (f:FE):FA:=fun δ=>(f δ).bind T9
theorem VB {f:FE}:uY f δ=qSq (f δ):=rfl
theorem VD:qSq (some (.tuple l))=some l:=rfl
def jG:D→Option D
 | .list l=>some (.tuple l)
 | .tuple l=>some (.tuple l)
 | _=>none
theorem pD:jG (.list l)=some (.tuple l):=rfl
def xK:D→D→Option D:=fun x y=>match y with
 | .list l=>if (SeqAt.shaped x && SeqAt.shaped (.list l))=true then some (.bool (!l.any fun z=>PyData.eqv z x)) else none
 | .tuple l=>if (SeqAt.shaped x && SeqAt.shaped (.tuple l))=true then some (.bool (!l.any fun z=>PyData.eqv z x)) else none
 | _=>none
def qRL (a:Option D):Option Oc:=match a with
 | some d=>some (.ex "" "" d)
 | none=>none
def oZ (fe:FE):FS:=fun δ=>(fe δ).bind fun d=>some (.ex "" "" d)
theorem lA:oZ fe δ=qRL (fe δ):=by
 unfold oZ qRL
 cases fe δ <;> rfl
theorem h_:qRL (some d)=some (.ex "" "" d):=rfl
def Ri (o:Option Oc):Option D:=match o with
 | some (.rt d)=>some d
 | some (.ex _ _ d)=>some d
 | some (.nx _)=>some .none
 | _=>none
def fnL (p q:Nat) (b:FS):List D→Option D:=fun ds=>if ds.length=p then Ri (b (ds.map (fun d=>some (.d d))++aG q none)) else none
theorem o7 {p q:Nat} {b:FS}:fnL p q b ds=if ds.length=p then Ri (b (ds.map (fun d=>some (.d d))++aG q none)) else none:=rfl
theorem iQ {c f:Str}:Ri (some (.ex c f d))=some d:=rfl
end D3
namespace D3
open PySem PySem.Spec PyProof.Rows L2 My
section
variable {X:Cx}
end
section
variable {X:Cx} {fl:List Fl} {e ke:Expr} {f fk:FE} {pos:Pos}
theorem RAs.erase {ok:Ok} {v:List V} {d:List D} (n:Nat) (r:RAs K ok pl H v d):RAs K ok pl H (v.eraseIdx n) (d.eraseIdx n):=by
 rw [mD,mD]
 exact (r.take n).append (r.drop (n + 1))
end
section
variable {X:Cx} {fl:List Fl} {a:Expr} {pos p p2 pos2:Pos} {fa:FA}
end
end D3
variable {qs:List (Int × Int)}
namespace D3
open PySem PySem.Spec PyProof.Rows L2 My
section
variable {X:Cx} {pins:List (Addr × Obj)} {σ:L2.St} {H:Hp} {s:Shared}
theorem GD:∀ {kvs:List (D × D)} {qs:List (Int × Int)},iiD kvs=some qs→dk0 kvs=qs.map fun q=>(.inl q.1,.int q.2)
 | [],_,e=>by cases e;rfl
 | (k,v) :: r,qs,e=>by
  unfold iiD at e
  split at e
  ·next h=>cases h
  ·next i j r' h =>
   cases h
   cases e3:iiD r with
   | none=>rw [e3] at e;cases e
   | some q2 =>
    rw [e3] at e
    cases e
    rw [dk0,GD e3]
    rfl
  ·cases e
theorem GF:∀ {kvs:List (D × D)} {qs:List (Int × Int)},iiD kvs=some qs→xq kvs=true
 | [],_,_=>rfl
 | (a,b) :: r,qs,h=>by
  unfold iiD at h
  split at h
  ·next e=>cases e
  ·next e =>
   cases e
   cases e3:iiD r with
   | none=>rw [e3] at h;cases h
   | some S=>exact (show xq r=true from GF e3)
  ·cases h
theorem wu (h:(iiD kvs).isSome=true):xq kvs=true:=by
 obtain ⟨_,h⟩:=kj.mp h
 exact GF h
theorem Mw (h:iiD kvs=some qs):dh0 kvs = .dK (dk0 kvs):=by
 cases kvs with
 | nil=>rfl
 | cons q r =>
  obtain ⟨k,v⟩:=q
  unfold dh0
  cases k with
  | int i=>rfl
  | _=>unfold iiD at h;cases h
theorem zR {P':Program} {w':World}:∀ {es:List DictEntry} {kvs:List (Key × Value)},Pairs (bV P w) es kvs→Pairs (bV P' w') es kvs
 | _,_,.nil=>.nil
 | _,_,.cons h1 h2 q=>.cons h1 h2 (zR q)
theorem zT:∀ {es:List DictEntry} {kvs:List (Key × Value)},Pairs (bV P w) es kvs→∀ x ∈ es,∃ kv ∈ kvs,(bV P w).is kv.1 x.key=true
 | _,_,.nil,_,h=>by cases h
 | _,_,.cons h1 h2 q,x,h=>by
  rcases aZ.mp h with rfl | z
  ·exact ⟨_,aJ,h1⟩
  ·obtain ⟨kv,m,e⟩:=zT q x z
   exact ⟨kv,aH _ m,e⟩
theorem GJ {P':Program} {w':World} {kvs:List (Key × Value)} (hi:∀ kv ∈ kvs,∃ i,kv.1 = .inl i) (d:h.DictOf (bV P w) a kvs):h.DictOf (bV P' w') a kvs:=by
 obtain ⟨o,es,ep,e,c1,c2,c3,c4,c5⟩:=d
 refine ⟨o,es,ep,e,c1,c2,fun x hx=>?_,zR c4,c5⟩
 obtain ⟨k,k1,k2⟩:=c3 x hx
 obtain ⟨kv,m,k3⟩:=zT c4 x (Array.mem_def.mp hx)
 have ek:=(bV P w).inj _ _ _ k1 k3
 obtain ⟨i,ei⟩:=hi kv m
 rw [ek,ei] at k1 k2
 exact ⟨.inl i,k1,k2⟩
theorem jO:∀ {qs:List (Int × Int)} {vs:List (Key × Value)},KV (qs.map fun q=>((.inl q.1,.int q.2):Key × V)) vs→vs.map (·.1)=qs.map (fun q=>.inl q.1)∧∀ k v,(k,v) ∈ vs→∃ i j t,k = .inl i∧v = .int j t∧(i,j) ∈ qs
 | [],_,h=>by cases h;exact ⟨rfl,fun _ _ h=>by cases h⟩
 | q :: qs,_,h=>by
  cases h with
  | cons h1 h2 =>
   rename_i b bs
   obtain ⟨e1,e2⟩:=jO h2
   obtain ⟨e3,e4⟩:=h1
   obtain ⟨t,e4⟩:=e4
   refine ⟨by rw [aP,aP,e1,← e3],fun k v hm=>?_⟩
   rcases aZ.mp hm with z | z
   ·subst z
    exact ⟨q.1,q.2,t,e3.symm,e4,aJ⟩
   ·obtain ⟨i,j,t',z1,z2,z3⟩:=e2 k v z
    exact ⟨i,j,t',z1,z2,aH _ z3⟩
theorem T_ (I:L2.Inv X pins σ H s) {a:Addr} {kvs:List (D × D)} {qs:List (Int × Int)} (hq:iiD kvs=some qs) (h:L2.Rd H a (dh0 kvs)):(a == sysModules)=false∧∃ vs,KV (qs.map fun q=>((.inl q.1,.int q.2):Key × V)) vs∧∀ P w,s.heap.DictOf (bV P w) a vs:=by
 rw [Mw hq,GD hq] at h
 obtain ⟨_,hs,vs,kv,hd⟩:=(show fG X.prog X.w H s.heap a (.dK _) from h.ok I.hok)
 exact ⟨hs,vs,kv,fun P w=>GJ (fun x hx=>by obtain ⟨i,_,_,z,_⟩:=(jO kv).2 x.1 x.2 hx;exact ⟨i,z⟩) hd⟩
theorem Mx {ka kb:List (Key × Value)} (ra:KV (qs.map fun q=>((.inl q.1,.int q.2):Key × V)) ka) (rb:KV (qs.map fun q=>((.inl q.1,.int q.2):Key × V)) kb) (hn:(kb.map (·.1)).Nodup):PySem.W.KeqHits A s kb ka true:=by
 have hnq:(qs.map fun q=>(Sum.inl q.1:Key)).Nodup:=by rw [← (jO rb).1];exact hn
 have step:∀ (l:List (Key × Value)),(∀ x ∈ l,x ∈ ka)→PySem.W.KeqHits A s kb l true:=by
  intro l
  induction l with
  | nil=>intro _;exact .nil
  | cons x l ih =>
   intro hl
   obtain ⟨k,v⟩:=x
   obtain ⟨i,j,t,rfl,rfl,hm⟩:=(jO ra).2 k v (hl _ aJ)
   have hk:(Sum.inl i:Key) ∈ kb.map (·.1):=by rw [(jO rb).1];exact bT.mpr ⟨(i,j),hm,rfl⟩
   obtain ⟨⟨k',y⟩,hy,ek⟩:=bT.mp hk
   have ek:k' = .inl i:=ek
   subst ek
   obtain ⟨i',j',t',e1,rfl,hm'⟩:=(jO rb).2 _ y hy
   cases e1
   have ej:j'=j:=by
    have inj:∀ {l:List (Int × Int)},(l.map fun q=>(Sum.inl q.1:Key)).Nodup→(i,j) ∈ l→(i,j') ∈ l→j'=j:=by
     intro l hnd h1 h2
     induction l with
     | nil=>cases h1
     | cons p l ih =>
      rw [aP,dJ] at hnd
      rcases aZ.mp h1 with z1 | z1 <;> rcases aZ.mp h2 with z2 | z2
      ·rw [← z1] at z2;cases z2;rfl
      ·subst z1;exact absurd (bT.mpr ⟨_,z2,rfl⟩) hnd.1
      ·subst z2;exact absurd (bT.mpr ⟨_,z1,rfl⟩) hnd.1
      ·exact ih hnd.2 z1 z2
    exact inj hnq hm hm'
   subst ej
   obtain ⟨n,hn',en⟩:=rm.mp hy
   have hv:valueAt kb (.inl i)=some (.int j' t'):=valueAt_of_get hn (i:=n) (by rw [aO hn',en])
   have:=SeqAt.EqAt.int_int (A:=A) (s:=s) j' t j' t'
   rw [beq_self_eq_true] at this
   have q:=PySem.W.KeqHits.hit hv this (ih fun x hx=>hl x (aH _ hx))
   rwa [pq] at q
 exact step ka fun _ h=>h
theorem zU (I:L2.Inv X pins σ H s) {a b:Addr} {kvs:List (D × D)} (hk:(iiD kvs).isSome=true) (ha:L2.Rd H a (dh0 kvs)) (hb:L2.Rd H b (dh0 kvs)) {A:Around} (hu:A.units < cLine):SeqAt.RcAt A s (.ref a) (.ref b) true:=by
 obtain ⟨qs,hq⟩:=kj.mp hk
 obtain ⟨ma,va,ka,da⟩:=T_ I hq ha
 obtain ⟨mb,vb,kb,db⟩:=T_ I hq hb
 intro prog w E Q h
 have hn:(vb.map (·.1)).Nodup:=by obtain ⟨_,_,_,_,_,_,_,_,c⟩:=db prog w;exact c
 refine PySem.W.keq_eq (knd:=bV prog w) (r:=true) ma mb (da prog w) (db prog w) hu (fun _=>Mx ka kb hn) ?_
 have e:va.length=vb.length:=by
  have h1:=congrArg lB (jO ka).1
  have h2:=congrArg lB (jO kb).1
  simp at h1 h2
  omega
 rw [e,beq_self_eq_true,gQ]
 exact h
theorem J7 (I:L2.Inv X pins σ H s) {a b:Addr} {kvs:List (D × D)} (hk:(iiD kvs).isSome=true) (ha:L2.Rd H a (dh0 kvs)) (hb:L2.Rd H b (dh0 kvs)) {A:Around} (hu:A.units < cLine):SeqAt.EqAt A s (.ref a) (.ref b) true:=by
 by_cases e:a=b
 ·subst e;exact SeqAt.EqAt.same _
 ·exact SeqAt.EqAt.of_refs e (zU I hk ha hb hu)
mutual
theorem Rj (I:L2.Inv X pins σ H s) {ok ok':Ok} {pl pl':Bool}:∀ (d:D) {x y:V} (r1:RA X.K ok pl H x d) (r2:RA X.K ok' pl' H y d) {v u:Value} (_:RelV x v) (_:RelV y u) (A:Around) (hu:A.units + d.depth < cLine) (hn:noK d=true),SeqAt.EqAt A s v u true
 | .none,_,_,r1,r2,_,_,h1,h2,A,hu,hn=>by cases r1;cases r2;cases h1;cases h2;exact SeqAt.EqAt.same _
 | .bool b,_,_,r1,r2,_,_,h1,h2,A,hu,hn=>by cases r1;cases r2;cases h1;cases h2;exact SeqAt.EqAt.same _
 | .int i,_,_,r1,r2,_,_,h1,h2,A,hu,hn=>by
  cases r1;cases r2
  obtain ⟨t,rfl⟩:=h1
  obtain ⟨t',rfl⟩:=h2
  have:=SeqAt.EqAt.int_int (A:=A) (s:=s) i t i t'
  rwa [beq_self_eq_true] at this
 | .str z,_,_,r1,r2,_,_,h1,h2,A,hu,hn=>by
  cases r1;cases r2
  obtain ⟨t,rfl⟩:=h1
  obtain ⟨t',rfl⟩:=h2
  have:=SeqAt.EqAt.str_str (A:=A) (s:=s) z t z t'
  rwa [beq_self_eq_true] at this
 | .list ds,_,_,r1,r2,_,_,h1,h2,A,hu,hn=>by
  obtain ⟨a,xs,rfl,s1,q1⟩:=r1.lstE
  obtain ⟨b,ys,rfl,s2,q2⟩:=r2.lstE
  cases h1;cases h2
  by_cases e:a=b
  ·subst e;exact SeqAt.EqAt.same _
  obtain ⟨its,v1,p1,z1⟩:=I.list s1
  obtain ⟨its2,v2,p2,z2⟩:=I.list s2
  have hd:(PyData.list ds).depth=PyData.depthAll ds + 1:=by simp [PyData.depth]
  have l1:its.length=ds.length:=by rw [← v1.length,q1.length]
  have l2:its2.length=ds.length:=by rw [← v2.length,q2.length]
  refine SeqAt.EqAt.of_refs e ?_
  have R:=SeqAt.RcAt.lists (A:=A) (e:=fun _=>true) p1.isList p2.isList (by rw [aU,aU,l1,l2]) (by omega) (fun j g1 g2=>pQ I ds q1 q2 v1 v2 A.in1 (by simp only [Around.in1_units];omega) hn j (by simpa using g1) (by simpa using g2))
  rwa [show (aX its.toArray.size).all (fun _=>true)=true by simp] at R
 | .tuple ds,_,_,r1,r2,_,_,h1,h2,A,hu,hn=>by
  obtain ⟨a,xs,rfl,s1,q1⟩:=r1.tupE
  obtain ⟨b,ys,rfl,s2,q2⟩:=r2.tupE
  cases h1;cases h2
  by_cases e:a=b
  ·subst e;exact SeqAt.EqAt.same _
  obtain ⟨its,v1,p1,z1⟩:=I.tuple s1
  obtain ⟨its2,v2,p2,z2⟩:=I.tuple s2
  have hd:(PyData.tuple ds).depth=PyData.depthAll ds + 1:=by simp [PyData.depth]
  have l1:its.length=ds.length:=by rw [← v1.length,q1.length]
  have l2:its2.length=ds.length:=by rw [← v2.length,q2.length]
  refine SeqAt.EqAt.of_refs e ?_
  have R:=SeqAt.RcAt.tuples (A:=A) (e:=fun _=>true) p1 p2 (by omega) (fun j g1 g2=>pQ I ds q1 q2 v1 v2 A.in1 (by simp only [Around.in1_units];omega) hn j (by simpa using g1) (by simpa using g2))
  rwa [show ((aX (min its.toArray.size its2.toArray.size)).all (fun _=>true) && its.toArray.size == its2.toArray.size)=true by simp [l1,l2]] at R
 | .dict kvs,_,_,r1,r2,_,_,h1,h2,A,hu,hn=>by
  obtain ⟨a,rfl,ha⟩:=r1.dicE (wu hn)
  obtain ⟨b,rfl,hb⟩:=r2.dicE (wu hn)
  cases h1;cases h2
  exact J7 I hn ha hb (by omega)
theorem pQ (I:L2.Inv X pins σ H s) {ok ok':Ok} {pl pl':Bool}:∀ (ds:List D) {xs ys:List V} (_:RAs X.K ok pl H xs ds) (_:RAs X.K ok' pl' H ys ds) {us ws:List Value} (_:Vals xs us) (_:Vals ys ws) (A:Around) (_:A.units + PyData.depthAll ds < cLine) (_:J6 ds=true) (j:Nat) (g1:j < us.length) (g2:j < ws.length),SeqAt.EqAt A s us[j] ws[j] true
 | [],_,_,q1,q2,_,_,v1,v2,A,hu,hn,j,g1,g2=>by
  cases q1;cases v1
  exact absurd g1 (Nat.not_lt_zero _)
 | d :: ds,_,_,q1,q2,_,_,v1,v2,A,hu,hn,j,g1,g2=>by
  cases q1 with
  | cons a1 b1 =>
   cases q2 with
   | cons a2 b2 =>
    cases v1 with
    | cons c1 d1 =>
     cases v2 with
     | cons c2 d2 =>
      have hd:PyData.depthAll (d :: ds)=max d.depth (PyData.depthAll ds):=by simp [PyData.depthAll]
      rw [J6,aY] at hn
      cases j with
      | zero=>exact Rj I d a1 a2 c1 c2 A (by omega) hn.1
      | succ j=>exact pQ I ds b1 b2 d1 d2 A (by omega) hn.2 j (by simpa using g1) (by simpa using g2)
end
end
section
variable {X:Cx} {K:PySem.W.Frag}
theorem Rm {σ:L2.St} (I:L2.Inv X pins σ H s) {ok ok':Ok} {pl pl':Bool} {d:D} {x y:V} (r1:RA X.K ok pl H x d) (r2:RA X.K ok' pl' H y d) {v u:Value} (h1:RelV x v) (h2:RelV y u) (hb:Io d=true) (hn:noK d=true) (A:Around) (hu:A.units + d.depth < cLine):SeqAt.RcAt A s v u true:=by
 cases d with
 | none=>cases hb
 | bool _=>cases hb
 | int _=>cases hb
 | str _=>cases hb
 | list ds =>
  obtain ⟨a,xs,rfl,s1,q1⟩:=r1.lstE
  obtain ⟨b,ys,rfl,s2,q2⟩:=r2.lstE
  cases h1;cases h2
  obtain ⟨its,v1,p1,z1⟩:=I.list s1
  obtain ⟨its2,v2,p2,z2⟩:=I.list s2
  have hd:(PyData.list ds).depth=PyData.depthAll ds + 1:=by simp [PyData.depth]
  have l1:its.length=ds.length:=by rw [← v1.length,q1.length]
  have l2:its2.length=ds.length:=by rw [← v2.length,q2.length]
  have R:=SeqAt.RcAt.lists (A:=A) (e:=fun _=>true) p1.isList p2.isList (by rw [aU,aU,l1,l2]) (by omega) (fun j g1 g2=>pQ I ds q1 q2 v1 v2 A.in1 (by simp only [Around.in1_units];omega) hn j (by simpa using g1) (by simpa using g2))
  rwa [show (aX its.toArray.size).all (fun _=>true)=true by simp] at R
 | tuple ds =>
  obtain ⟨a,xs,rfl,s1,q1⟩:=r1.tupE
  obtain ⟨b,ys,rfl,s2,q2⟩:=r2.tupE
  cases h1;cases h2
  obtain ⟨its,v1,p1,z1⟩:=I.tuple s1
  obtain ⟨its2,v2,p2,z2⟩:=I.tuple s2
  have hd:(PyData.tuple ds).depth=PyData.depthAll ds + 1:=by simp [PyData.depth]
  have l1:its.length=ds.length:=by rw [← v1.length,q1.length]
  have l2:its2.length=ds.length:=by rw [← v2.length,q2.length]
  have R:=SeqAt.RcAt.tuples (A:=A) (e:=fun _=>true) p1 p2 (by omega) (fun j g1 g2=>pQ I ds q1 q2 v1 v2 A.in1 (by simp only [Around.in1_units];omega) hn j (by simpa using g1) (by simpa using g2))
  rwa [show ((aX (min its.toArray.size its2.toArray.size)).all (fun _=>true) && its.toArray.size == its2.toArray.size)=true by simp [l1,l2]] at R
 | dict kvs =>
  obtain ⟨a,rfl,ha⟩:=r1.dicE (wu hn)
  obtain ⟨b,rfl,hb'⟩:=r2.dicE (wu hn)
  cases h1;cases h2
  exact zU I hn ha hb' (by omega)
def Yb (K:PySem.W.Frag):R2:=fun x y H Q=>Vi K x y H Q∨∃ d,RA K ok1 true H x d∧RA K ok1 true H y d∧Io d=true∧d.depth ≤ 64∧noK d=true∧Q (.bl true) H
theorem Mz (hu:X.A.units + 64 < cLine):OpR X (compareOp .Eq) (Yb X.K):=by
 intro pins s σ H x y v u Q I rx ry h
 rcases h with h | ⟨d,r1,r2,hb,hd,hn,q⟩
 ·exact mK hu pins s σ H x y v u Q I rx ry h
 ·exact Rm I r1 r2 rx ry hb hn X.A (by omega) _ _ _ _ ⟨.bl true,H,I,rfl,q⟩
theorem Ua:BrO K (Yb K) yP:=by
 intro H x y dx dy d Q rx ry e q
 unfold yP at e
 by_cases z:(SeqAt.shaped dx && SeqAt.shaped dy)=true
 ·rw [if_pos z] at e
  cases e
  rw [aY] at z
  exact .inl ⟨dx,dy,rx.rd (SeqAt.canLay_of_shaped z.1),ry.rd (SeqAt.canLay_of_shaped z.2),z.1,z.2,q _ rfl (.bl _)⟩
 ·rw [if_neg z] at e
  split at e
  ·next c =>
   obtain ⟨c1,c2,c3,c4⟩:=c
   subst c1
   cases e
   exact .inr ⟨dx,rx,ry,c2,c3,c4,q _ rfl (.bl _)⟩
  ·cases e
end
section
variable {X:Cx} {fl:List Fl} {es:List Expr} {pos:Pos}
end
section
variable {X:Cx} {fl:List Fl} {e:Expr} {f:FE}
theorem Yc {l:Expr} {t1 t2:TI} (h1:PI X tg l t1) (h2:PI X tg l t2):PI X tg l (fun σ H R=>t1 σ H R∨t2 σ H R):=fun pins s σ H R I h=>by
 rcases h with h | h
 ·exact h1 pins s σ H R I h
 ·exact h2 pins s σ H R I h
theorem MF {σ:St} (R:Rel K fl G ow σ H δ) (r:Rs K G.H0 ow Hb H (.B L) v (.tuple l)):∃ a xs,v = .ref a∧SqT K H a xs ∧
 ∀ H2:Hp,(∀ b o,H b=some o→(∀ i,ow i=some b→i ∈ L)→(∀ i,b ∉ ow.n i)→H2 b=some o)→SqT K H2 a xs∧RAs K (fun b=>okA ow b∧H b ≠ none) true H2 xs l:=by
 rcases r with r | ⟨i,hi,a,xs,ds,ho,rfl,e,hx,hr⟩
 ·cases r with
  | tup e q =>
   refine ⟨_,_,rfl,e.sq,fun H2 hk=>⟨?_,RAs.keep hk R.ownL R.ownC (fun b z=>z.1) q.track⟩⟩
   exact .inl (.inl (hk _ _ e (nm R.ownL e (by intro xs z;cases z)) (nm2 R.ownC e Chg.tup)))
 ·cases e
theorem xM (h:DE X fl (.B L) e f):DI X fl L tg e (uY f):=PI.imp (Yc (Hy h) (Gi h)) fun σ H R' h=>by
 obtain ⟨G,ow,δ,l,R,hf,q⟩:=h
 obtain ⟨d,e1,e2⟩:=bind1 hf
 cases d with
 | list l' =>
  cases e2
  refine .inl ⟨G,ow,δ,_,R,e1,fun v H1 s r=>?_⟩
  obtain ⟨a,xs,rfl,hx,keep⟩:=xH (R.grow s) r
  refine ⟨a,rfl,⟨xs,hx⟩,q _ _ s fun H2 k2 i=>?_⟩
  obtain ⟨k3,k4⟩:=keep H2 k2
  refine ⟨fun d hd=>?_,fun hl=>⟨xs,k3,by rw [k4.length];exact hl⟩⟩
  obtain ⟨y,hy,ry⟩:=k4.get hd
  refine ⟨⟨xs,y,k3,hy⟩,fun x H3 hyl=>?_⟩
  obtain ⟨e,hz⟩:=hyl
  subst e
  have:some y=some x:=hy.symm.trans (hz xs k3)
  cases this
  exact ⟨Same.refl _,ry⟩
 | tuple l' =>
  cases e2
  refine .inr ⟨G,ow,δ,_,R,e1,fun v H1 s r=>?_⟩
  obtain ⟨a,xs,rfl,hx,keep⟩:=MF (R.grow s) r
  refine ⟨a,rfl,⟨xs,hx⟩,q _ _ s fun H2 k2 i=>?_⟩
  obtain ⟨k3,k4⟩:=keep H2 k2
  refine ⟨fun d hd=>?_,fun hl=>⟨xs,k3,by rw [k4.length];exact hl⟩⟩
  obtain ⟨y,hy,ry⟩:=k4.get hd
  refine ⟨⟨xs,y,k3,hy⟩,fun x H3 hyl=>?_⟩
  obtain ⟨e,hz⟩:=hyl
  subst e
  have:some y=some x:=hy.symm.trans (hz xs k3)
  cases this
  exact ⟨Same.refl _,ry⟩
 | none=>cases e2
 | bool _=>cases e2
 | int _=>cases e2
 | str _=>cases e2
 | dict _=>cases e2
end
section
variable {X:Cx} {fl:List Fl} {a:Expr} {f:FE} {pos p:Pos}
theorem jY (h:DE X fl (.B L) a f) (hg:Gl X "tuple") (hm:X.mg "tuple" = none)
 (he:starEach [a] X.env=(false,eval a X.env) :: starEach [] X.env:=by exact mY rfl) (hpl:(backTo pos (starEach [] X.env)).any (·.1)=false:=by rfl):DE X fl .A (.Call (.Name "tuple" p) [a] [] pos) (dUn jG f) :=
 PE.imp (nU sO hg hm boot_tuple (kW h pB he) (by decide) (by decide) he hpl) fun σ H Q h=>by
 obtain ⟨G,ow,δ,d,R,hf,q⟩:=h
 obtain ⟨x,e1,e2⟩:=bind1 hf
 refine ⟨G,ow,δ,x,R,e1,fun v H1 s1 r1=>?_⟩
 unfold jG at e2
 split at e2
 ·cases e2
  obtain ⟨p,xs,rfl,hx,hr⟩:=uW r1
  exact ⟨p,xs,rfl,.inl ⟨hx,fun pn hp=>q _ _ (s1.trans (cH hp _)) (.tup bN (hr.same (cH hp _)))⟩⟩
 ·cases e2
  rcases r1 with r1 | ⟨i,hi,a,xs,ds,ho,rfl,e,hx,hr⟩
  ·obtain ⟨p,xs,rfl,hx,hr⟩:=r1.tupE0
   exact ⟨p,xs,rfl,.inr ⟨hx.sq,q _ _ s1 (.tup hx hr)⟩⟩
  ·cases e
 ·cases e2
theorem Rn (h:DE X fl .C a f) (hg:Gl X "tuple") (hm:X.mg "tuple" = none)
 (he:starEach [a] X.env=(false,eval a X.env) :: starEach [] X.env:=by exact mY rfl) (hpl:(backTo pos (starEach [] X.env)).any (·.1)=false:=by rfl):DE X fl .C (.Call (.Name "tuple" p) [a] [] pos) (dUn jG f) :=
 PE.imp (nU sO hg hm boot_tuple (kW h pB he) (by decide) (by decide) he hpl) fun σ H Q h=>by
 obtain ⟨G,ow,δ,d,R,hf,q⟩:=h
 obtain ⟨x,e1,e2⟩:=bind1 hf
 refine ⟨G,ow,δ,x,R,e1,fun v H1 s1 r1=>?_⟩
 unfold jG at e2
 split at e2
 ·cases e2
  obtain ⟨p,xs,rfl,hx,hr⟩:=RA.lstE r1
  exact ⟨p,xs,rfl,.inl ⟨hx,fun pn hp=>q _ _ (s1.trans (cH hp _)) (.tup bN (hr.same (cH hp _)))⟩⟩
 ·cases e2
  obtain ⟨p,xs,rfl,hx,hr⟩:=RA.tupE0 r1
  exact ⟨p,xs,rfl,.inr ⟨hx.sq,q _ _ s1 (.tup hx hr)⟩⟩
 ·cases e2
end
section
variable {X:Cx} {fl:List Fl} {a b:Expr} {fa fb:FE} {pos:Pos}
end
end D3
namespace D3
open PySem PySem.Spec PyProof.Rows L2 My
section
variable {X:Cx} {K:PySem.W.Frag}
def Ir (K:PySem.W.Frag):R2:=fun x y H Q=>∃ da l,RdV K H x da∧((RdV K H y (.list l)∧SeqAt.shaped (.list l)=true)∨(RdV K H y (.tuple l)∧SeqAt.shaped (.tuple l)=true))∧SeqAt.shaped da=true∧Q (.bl (!l.any fun z=>PyData.eqv z da)) H
theorem Iu (hu:A.units + 64 < cLine) (h:PyData.depthAll l + 1 ≤ 64):A.units + 1 + min (PyData.depthAll l) d.depth < cLine:=by
 have:=qM (PyData.depthAll l) d.depth
 omega
theorem vK (h:SeqAt.shaped (.list l)=true):PyData.canLayAll0 l=true∧PyData.depthAll l + 1 ≤ 64:=by
 unfold SeqAt.shaped at h
 rw [aY] at h
 refine ⟨by simpa [PyData.canLay0] using h.1,?_⟩
 have:=of_decide_eq_true h.2
 simpa [PyData.depth] using this
theorem uz (h:SeqAt.shaped (.tuple l)=true):PyData.canLayAll0 l=true∧PyData.depthAll l + 1 ≤ 64:=by
 unfold SeqAt.shaped at h
 rw [aY] at h
 refine ⟨by simpa [PyData.canLay0] using h.1,?_⟩
 have:=of_decide_eq_true h.2
 simpa [PyData.depth] using this
theorem J8 (hu:X.A.units + 64 < cLine):OpR X (compareOp .NotIn) (Ir X.K):=by
 intro pins s σ H x y v u Q I rx ry h
 obtain ⟨da,l,ha,hb,sa,q⟩:=h
 obtain ⟨as,za⟩:=ha.reads I rx
 rcases hb with ⟨hb,sb⟩ | ⟨hb,sb⟩
 ·obtain ⟨bs,zb⟩:=hb.reads I ry
  exact SeqAt.notIn_list_reads zb za (vK sb).1 (SeqAt.canLay_of_shaped sa) (Iu hu (vK sb).2) ⟨.bl _,H,I,rfl,q⟩
 ·obtain ⟨bs,zb⟩:=hb.reads I ry
  exact SeqAt.notIn_tuple_reads zb za (uz sb).1 (SeqAt.canLay_of_shaped sa) (Iu hu (uz sb).2) ⟨.bl _,H,I,rfl,q⟩
theorem Ro:BrO K (Ir K) xK:=by
 intro H x y dx dy d Q rx ry e q
 cases dy with
 | list l =>
  by_cases z:(SeqAt.shaped dx && SeqAt.shaped (.list l))=true
  ·have e:(if (SeqAt.shaped dx && SeqAt.shaped (.list l))=true then some (PyData.bool (!l.any fun z=>PyData.eqv z dx)) else none)=some d:=e
   rw [if_pos z] at e
   cases e
   rw [aY] at z
   exact ⟨dx,l,rx.rd (SeqAt.canLay_of_shaped z.1),.inl ⟨ry.rd (SeqAt.canLay_of_shaped z.2),z.2⟩,z.1,q _ rfl (.bl _)⟩
  ·have e:(if (SeqAt.shaped dx && SeqAt.shaped (.list l))=true then some (PyData.bool (!l.any fun z=>PyData.eqv z dx)) else none)=some d:=e
   rw [if_neg z] at e
   cases e
 | tuple l =>
  by_cases z:(SeqAt.shaped dx && SeqAt.shaped (.tuple l))=true
  ·have e:(if (SeqAt.shaped dx && SeqAt.shaped (.tuple l))=true then some (PyData.bool (!l.any fun z=>PyData.eqv z dx)) else none)=some d:=e
   rw [if_pos z] at e
   cases e
   rw [aY] at z
   exact ⟨dx,l,rx.rd (SeqAt.canLay_of_shaped z.1),.inr ⟨ry.rd (SeqAt.canLay_of_shaped z.2),z.2⟩,z.1,q _ rfl (.bl _)⟩
  ·have e:(if (SeqAt.shaped dx && SeqAt.shaped (.tuple l))=true then some (PyData.bool (!l.any fun z=>PyData.eqv z dx)) else none)=some d:=e
   rw [if_neg z] at e
   cases e
 | _=>cases e
end
section
variable {X:Cx} {fl:List Fl} {a:Expr} {f:FE} {pos:Pos}
end
def spL (K:PySem.W.Frag) (F:List D→Option D):Sp:=fun vs H Q _=>∃ ds d,(Tb H∧RAs K ok1 true H vs ds)∧F ds=some d∧∀ v H',Same H H'→RA K ok1 true H' v d→Q v H'
section
variable {X:Cx} {fl:List Fl} {e:Expr} {es:List Expr} {f:FE} {pos p:Pos} {x:Str} {n:Nat} {F:List D→Option D} {fa:FA}
theorem mZ (h:DE X fl .P e f):DS1 X fl (.Return (some e) pos) (oZ f):=PS.imp (K5 h) fun Dn σ H h=>by
 obtain ⟨G,ow,δ,o,R,hf,q⟩:=h
 obtain ⟨d,e1,e2⟩:=bind1 hf
 cases e2
 exact ⟨G,ow,δ,d,R,e1,fun v H' s r=>q v H' (R.same0.trans s) r⟩
theorem VF (hA:(fl.all fun x=>decide (x = .A))=true) (h:DE X fl .P e f):DE X fl .A e f:=nO h fun Hb H G ow σ δ v d R r=>by
 have hA':∀ (i:Nat) (c:Fl),fl[i]? = some c→c=Fl.A:=fun i c e=>by simpa using dN.mp hA c (jP e)
 have ok:∀ a,okA ow a:=fun a=>by
  constructor
  ·intro i z
   rcases (R.own i a z).2.1 with ⟨w,_⟩ | ⟨w,_⟩
   ·cases hA' i _ w
   ·cases hA' i _ w
  ·intro i z
   rcases (R.nt i a z).2.2 with ⟨w,_⟩ | w
   ·cases hA' i _ w
   ·cases hA' i _ w
 exact RA.imp (fun a _=>ok a) (fun z=>z) r
theorem uD (h:Has X.prog X.w X.K X.mg X.base n x ps (spL X.K F)) (hr:Room n X.A) (ha:DB X fl .P (e :: es) fa) (hg:Gl X x:=by rfl) (hdb:(x == ("__debug__" : Str))=false:=by decide)
 (he:starEach (e :: es) X.env=(false,eval e X.env) :: starEach es X.env:=by exact mY rfl) (hpl:(backTo pos (starEach es X.env)).any (·.1)=false:=by exact Ii rfl) :
 DE X fl .P (.Call (.Name x p) (e :: es) [] pos) (dCall F fa):=PE.imp (Dp h hr ha hg hdb he hpl) fun σ H Q h=>by
 obtain ⟨G,ow,δ,d,R,hf,q⟩:=h
 obtain ⟨ds,e1,e2⟩:=bind1 hf
 refine ⟨G,ow,δ,ds,R,e1,fun vs H' s r=>?_⟩
 show spL X.K F (vs++[]) H' Q E0
 rw [fD]
 exact ⟨ds,d,⟨R.tb.same s,r⟩,e2,fun v H2 s2 r2=>q v H2 (s.trans s2) r2⟩
end
section
variable {P:Program} {w:World} {K:PySem.W.Frag} {mg:Str→Option Value} {base:Heap} {x:Str} {ps N:List Str} {st:Stmt} {k n:Nat} {fs:FS} {fl:List Fl}
theorem Rp (Fn:FunD K x st f fd) (S:FnScope N ps (bJ st)) (hp:∀ i,i < ps.length→fl[i]? = some .A) (hN:ps.length ≤ N.length)
 (hbody:∀ (f:Addr) (cdv:Value) (A:Around) (outer:List Env) (s:Shared) (H:Hp) (E:XK),Room k (A.deeper (envOfC x (bJ st) s.heap.objs.size f cdv))→DSs (cx P w K mg base N x st f cdv A outer s H E) fl (jw st) fs) :
 FnOk P w K mg base CX0 (k + 1) f fd ps (spL K (fnL ps.length (N.length - ps.length) fs)):=by
 refine Fn.ok S (fun vs H Q E h=>?_) (fun cdv A outer s H vs Q E hr h=>?_)
 ·obtain ⟨ds,d,r,hf,_⟩:=h
  unfold fnL at hf
  by_cases z:ds.length=ps.length
  ·rw [r.2.length];exact z
  ·rw [if_neg z] at hf;cases hf
 ·obtain ⟨ds,d,r,hf,q⟩:=h
  refine ⟨_,hbody f cdv A outer s H E hr,?_⟩
  unfold fnL Ri at hf
  by_cases z:ds.length=ps.length
  ·rw [if_pos z] at hf
   split at hf
   ·next d' e =>
    cases hf
    exact ⟨_,_,_,_,mO ps.length hp z hN r,e,fun v H' s r=>q v H' s (RA.imp (fun _ _=>trivial) (fun _=>rfl) r)⟩
   ·next c' f' d' e =>
    cases hf
    exact ⟨_,_,_,_,mO ps.length hp z hN r,e,fun v H' s r=>q v H' s r⟩
   ·next δ' e =>
    cases hf
    exact ⟨_,_,_,_,mO ps.length hp z hN r,e,fun ow' σ' H' R'=>q .non H' R'.same0 .non⟩
   ·cases hf
  ·rw [if_neg z] at hf;cases hf
theorem Bj (Dd:Dg K mg x st ps) (S:FnScope N ps (bJ st)) (hp:∀ i,i < ps.length→fl[i]? = some .A) (hN:ps.length ≤ N.length)
 (hbody:∀ (f:Addr) (cdv:Value) (A:Around) (outer:List Env) (s:Shared) (H:Hp) (E:XK),Room k (A.deeper (envOfC x (bJ st) s.heap.objs.size f cdv))→DSs (cx P w K mg base N x st f cdv A outer s H E) fl (jw st) fs) :
 Has P w K mg base (k + 1) x ps (spL K (fnL ps.length (N.length - ps.length) fs)):=by
 obtain ⟨f,fd,Fn,b,m⟩:=Dd.ex
 exact ⟨f,fd,Rp Fn S hp hN hbody,b,Fn.kp,m⟩
end
section
variable {P:Program} {w:World} {K:PySem.W.Frag} {mg:Str→Option Value} {base:Heap} {x:Str} {ps:List Str} {st:Stmt} {n:Nat}
theorem ZS (Dd:Dg K mg x st ps):Has P w K mg base n x ps (spD K fun _=>none):=by
 obtain ⟨f,fd,Fn,b,m⟩:=Dd.ex
 refine ⟨f,fd,⟨fun vs H Q E h=>?_,fun A outer s H args us vs Q E hr e0 hb hv h=>?_⟩,b,Fn.kp,m⟩
 ·obtain ⟨_,_,_,e,_⟩:=h
  cases e
 ·obtain ⟨_,_,_,e,_⟩:=h
  cases e
end
end D3
namespace D3
open PySem PySem.Spec PyProof.Rows L2 My
section
variable {K:PySem.W.Frag} {fl flA:List Fl} {G:Gh} {ow:Ow} {σ σ':St} {H H1:Hp} {δ:DS} {T:List Nat}
end
section
variable {X:Cx} {fl flA:List Fl} {e:Expr} {es:List Expr} {f:FE} {fa:FA} {pos:Pos}
end
section
variable {X:Cx} {fl:List Fl} {pos:Pos}
end
end D3
namespace XS
open PySem PySem.W PyProof.Rows
def dG {α:Type} (lt:Nat→Nat→Bool):KasT α→α
 | .ret a=>a
 | .ask i j k=>dG lt (k (lt i j))
def oG {α:Type} (n:Nat) (R:α→Prop):KasT α→Prop
 | .ret a=>R a
 | .ask i j k=>i < n∧j < n∧∀ b,oG n R (k b)
section
variable {α β:Type} {n:Nat} {R:α→Prop} {R':β→Prop} {lt:Nat→Nat→Bool}
theorem n6 (f:α→KasT β):∀ t:KasT α,dG lt (t.bind f)=dG lt (f (dG lt t))
 | .ret _=>rfl
 | .ask _ _ k=>n6 f (k _)
theorem n8 {f:α→KasT β} (hf:∀ a,R a→oG n R' (f a)):∀ t:KasT α,oG n R t→oG n R' (t.bind f)
 | .ret a,h=>hf a h
 | .ask _ _ k,h=>⟨h.1,h.2.1,fun b=>n8 hf (k b) (h.2.2 b)⟩
theorem DQ:∀ t:KasT α,oG n R t→R (dG lt t)
 | .ret _,h=>h
 | .ask _ _ k,h=>DQ (k _) (h.2.2 _)
theorem wA {cmp:Nat→Nat→(Bool→Shared→Prop)→Shared→Prop} {G:α→Shared→Prop} (hc:∀ i j C,i < n→j < n→C (lt i j) s→cmp i j C s) :
 ∀ t:KasT α,oG n R t→G (dG lt t) s→t.kasWp cmp G s
 | .ret _,_,q=>q
 | .ask _ _ k,h,q=>hc _ _ _ h.1 h.2.1 (wA hc (k _) (h.2.2 _) q)
end
def good (n:Nat) (p:Array Nat):Prop:=p.Perm (aX n).toArray
section
variable {n:Nat} {p:Array Nat}
theorem good.mem (g:good n p) {x:Nat} (h:x ∈ p.toList):x < n:=by
 have:x ∈ (aX n):=by
  have:=(oh.mp g).mem_iff.mp h
  simpa using this
 exact bO.mp this
theorem good.get (g:good n p) (h0:0 < n) (i:Nat):p.getD i 0 < n:=by
 unfold Array.getD
 split
 ·exact g.mem (by simp)
 ·exact h0
theorem good.rev (g:good n p) (i j:Nat):good n (kas_rev p i j):=(mirror_perm _ _ _ _).trans g
theorem good.bub (g:good n p) (i j:Nat):good n (bubble p i j):=(bubble_perm _ _ _).trans g
theorem xO (h0:0 < n) (g:good n p):∀ f a,oG n (fun _=>True) (kas_asc p f a)
 | 0,a=>trivial
 | f + 1,a=>⟨g.get h0 _,g.get h0 _,fun b=>by
  cases b
  ·exact xO h0 g f (a + 1)
  ·trivial⟩
theorem rO (h0:0 < n):∀ f (p:Array Nat) a q,good n p→oG n (fun r=>good n r.1) (kas_desc f p a q)
 | 0,p,a,q,g=>g
 | f + 1,p,a,q,g=>by
  refine ⟨g.get h0 _,g.get h0 _,fun b=>?_⟩
  cases b
  ·refine ⟨g.get h0 _,g.get h0 _,fun c=>?_⟩
   cases c
   ·exact rO h0 f p (a + 1) (q + 1) g
   ·exact g
  ·show oG n _ (if q > 0 then _ else _)
   split
   ·exact rO h0 f _ _ _ (g.rev _ _)
   ·exact rO h0 f _ _ _ g
theorem xP (h0:0 < n) (g:good n p) (a m:Nat):oG n (fun r=>good n r.2) (kas_tail3 a m p):=by
 unfold kas_tail3
 refine n8 (R:=fun _=>True) (fun c _=>?_) _ (xO h0 (g.rev _ _) _ _)
 show good n (kas_rev p 0 a)
 exact g.rev _ _
theorem zV (h0:0 < n) (g:good n p) (a m:Nat):oG n (fun r=>good n r.2) (kas_descPart a m p) :=
 n8 (R:=fun r=>good n r.1) (fun r h=>by
  split
  ·exact xP h0 (good.rev h _ _) _ _
  ·exact xP h0 h _ _) _ (rO h0 _ _ _ _ g)
theorem GK (h0:0 < n) (g:good n p) (m:Nat):oG n (fun r=>good n r.2) (kas_count m p) :=
 n8 (R:=fun _=>True) (fun a _=>by
  split
  ·exact g
  ·split
   ·refine ⟨g.get h0 _,g.get h0 _,fun b=>?_⟩
    cases b
    ·exact zV h0 (g.rev _ _) _ _
    ·exact g
   ·exact zV h0 g _ _) _ (xO h0 g _ _)
theorem tO (h0:0 < n) (g:good n p) (k:Nat):∀ f l r,oG n (fun _=>True) (kas_place p k f l r)
 | 0,l,r=>trivial
 | f + 1,l,r=>by
  unfold kas_place
  split
  ·trivial
  ·refine ⟨g.get h0 _,g.get h0 _,fun b=>?_⟩
   cases b
   ·exact tO h0 g k f _ _
   ·exact tO h0 g k f _ _
theorem DR (h0:0 < n):∀ f (p:Array Nat) k,good n p→oG n (good n) (kas_bin f p k)
 | 0,p,k,g=>g
 | f + 1,p,k,g=>n8 (R:=fun _=>True) (fun l _=>DR h0 f _ _ (g.bub _ _)) _ (tO h0 g k _ _ _)
theorem rP (h0:0 < n):oG n (good n) (kas_sort n) :=
 n8 (R:=fun r=>good n r.2) (fun r h=>by
  split
  ·exact DR h0 _ _ _ h
  ·exact h) _ (GK h0 (Array.Perm.refl _) n)
end
def m8 (n:Nat) (lt:Nat→Nat→Bool):List Nat:=(dG lt (kas_sort n)).toList
theorem fZ (h0:0 < n) (lt:Nat→Nat→Bool):(m8 n lt).Perm (aX n):=by
 have:good n (dG lt (kas_sort n)):=DQ _ (rP h0)
 have:=oh.mp this
 simpa [m8] using this
def yQ (a b:Int × Int):Bool:=if a.1=b.1 then decide (a.2 < b.2) else decide (a.1 < b.1)
def ltP (qs:List (Int × Int)) (i j:Nat):Bool:=yQ (qs.getD i (0,0)) (qs.getD j (0,0))
open D3
def DX:List D→Option (List (Int × Int))
 | []=>some []
 | .tuple [.int i,.int j] :: r=>(DX r).map ((i,j) :: ·)
 | _=>none
def xQ:List D→Option D
 | [.list l]=>match dh l with
  | some _=>Lx [.list l]
  | none=>(DX l).bind fun qs=>if l.length < 64 then (if l.length=1 then some (.list l) else some (.list ((m8 l.length (ltP qs)).map fun i=>l.getD i .none))) else none
 | _=>none
def MJ:List D→Option D
 | [.list l]=>(DX l).bind fun qs=>if l.length ≤ 1000∧(qs.map (·.1)).Nodup then some (.dict (qs.map fun q=>(.int q.1,.int q.2))) else none
 | _=>none
end XS
variable {h':Heap} {C:Bool→Shared→Prop}
namespace XS
open PySem PySem.Spec PySem.W PyProof.Rows L2 My D3
theorem uZ (x:fG P w H h a o):∃ u,h.get? a=some u:=by
 cases o with
 | lst xs=>obtain ⟨_,_,_,_,e⟩:=x;exact ⟨_,e⟩
 | tup xs=>obtain ⟨_,_,_,u,e,_⟩:=x;exact ⟨_,e⟩
 | dK kvs=>obtain ⟨_,_,_,_,u,_,_,e,_⟩:=x;exact ⟨_,e⟩
 | dT kvs=>obtain ⟨_,_,_,_,u,_,_,e,_⟩:=x;exact ⟨_,e⟩
 | set S n=>obtain ⟨u,_,_,_,e,_⟩:=x;exact ⟨_,e⟩
 | ins C dx fs=>obtain ⟨_,_,_,e,_⟩:=x;exact ⟨_,e⟩
 | own y=>exact x
 | xd fs=>obtain ⟨_,⟨u,_,_,e,_⟩,_⟩:=x;exact ⟨_,e⟩
 | met f y=>exact ⟨_,x⟩
 | rng lo hi=>obtain ⟨_,_,_,e⟩:=x;exact ⟨_,e⟩
 | frz u v=>exact ⟨_,x.1⟩
 | tbl q p=>obtain ⟨_,e,_⟩:=x;exact ⟨_,e⟩
 | ext φ=>exact x.2.1
section
variable {X:Cx} {pins:List (Addr × Obj)} {σ:L2.St} {H:Hp} {s:Shared}
theorem VG {L:Addr} {m':Str→Option Value} (a:h.Ns L m) (b:h.Ns L m'):m=m':=by
 obtain ⟨o,es,ep,e,d,_,f⟩:=a
 obtain ⟨o',es',ep',e',d',_,f'⟩:=b
 rw [e] at e';cases e'
 rw [d] at d';cases d'
 funext x
 rw [← f,← f']
theorem Bk {D:Addr} (I:Inv X pins σ H s) (hm:s.heap.Ns X.env.locals m) (hm':h'.Ns X.env.locals m) (k:∀ b u,b ≠ X.env.locals→s.heap.get? b=some u→h'.get? b=some u)
 (hD:s.heap.get? D=none) (new:fG X.prog X.w (upd H D o) h' D o):Inv X pins σ (upd H D o) { s with heap:=h' }:=by
 have hn:H D=none:=by
  cases e:H D with
  | none=>rfl
  | some u =>
   obtain ⟨w,hw⟩:=uZ (I.hok D u e)
   rw [hD] at hw;cases hw
 have ne:∀ {b u},H b=some u→b ≠ D:=fun e=>ju e hn
 refine I.step (g':=s.gens) (d':=s.drawn) (t':=s.toks) (ch:=[]) (fun b hb=>by cases hb) (fun b u hL _ _ e _=>k b u hL e) (fun b u hL _ _ e _=>⟨u.slots,k b u hL e⟩) (fun b u _ e n=>?_) (fun b u _ e=>?_)
  (fun b xs e=>by rw [bx (ne e)];exact e) (fun b u v e=>by rw [bx (ne e)];exact e) (fun b q p e=>by rw [bx (ne e)];exact e) (fun m2 h2=>by rw [← VG hm h2];exact hm') (fun b u e=>?_) I.bare
 ·rw [bx (fun z=>by rw [z,hD] at e;cases e)];exact n
 ·by_cases z:b=X.env.locals
  ·obtain ⟨w,_,_,hw,_⟩:=hm'
   exact ⟨w,by rw [z];exact hw⟩
  ·exact ⟨u,k b u z e⟩
 ·by_cases z:b=D
  ·subst z
   rw [bN] at e
   cases e
   exact new
  ·rw [bx z] at e
   refine (I.hok b u e).stay (fun c w hc q=>k c w (fun y=>?_) q) (fun c q=>by rw [bx (ne q)];exact q) fun c xs q=>by rw [bx (ne q)];exact q
   rcases hc with rfl | y2
   ·rw [y,I.free] at e;cases e
   ·rw [y,I.free] at y2;cases y2
end
section
variable {prog:Program} {w:World} {A:Around} {E:Value→Shared→Prop} {s:Shared}
theorem Rq {x y:Addr} {a b c d:Int} {t1 t2 t3 t4:Tok} (hx:IsTup s.heap x #[.int a t1,.int b t2]) (hy:IsTup s.heap y #[.int c t3,.int d t4]) (q:C (yQ (a,b) (c,d)) s) :
 wpAny (model prog w) A (keyLt' (tuples' true) (.ref x) (.ref y)) C E s:=by
 obtain ⟨ox,ex,_,nx,dx⟩:=hx
 obtain ⟨oy,ey,_,ny,dy⟩:=hy
 refine kat_lt ex dx ey dy ?_
 show KatLex prog w A true (decide (2 < 2)) C [(Value.int a t1,Value.int c t3),(Value.int b t2,Value.int d t4)] 0 s
 refine kat_cons (wpAny_eqBool_int (kat_go (fun e=>?_) fun e=>?_))
 ·refine kat_yes (kat_cons (wpAny_eqBool_int (kat_go (fun e2=>?_) fun e2=>?_)))
  ·refine kat_yes (kat_nil ?_)
   have e:=beq_iff_eq.mp e
   have e2:=beq_iff_eq.mp e2
   subst e e2
   simpa [yQ] using q
  ·refine kat_no (kat_one _ _ (lt_int ?_))
   have e:=beq_iff_eq.mp e
   subst e
   simpa [yQ,PySem.W.BoolBack] using q
 ·refine kat_no ?_
  have e:a ≠ c:=by
   intro z;subst z;simp at e
  have q':C (decide (a < c)) s:=by simpa [yQ,e] using q
  exact oneLt_int q'
end
end XS
namespace XS
open PySem PySem.Spec PySem.W PyProof.Rows L2 My D3
def VH (K:PySem.W.Frag) (H:Hp) (y:V) (q:Int × Int):Prop:=∃ a,y = .ref a∧SqT K H a [.int q.1,.int q.2]
abbrev Prs (K:PySem.W.Frag) (H:Hp):List V→List (Int × Int)→Prop:=Paired (VH K H)
section
variable {X:Cx} {pins:List (Addr × Obj)} {σ:L2.St} {H:Hp} {s:Shared}
theorem wC (I:Inv X pins σ H s) {y:V} {u:Value} {q:Int × Int} (h:VH X.K H y q) (r:RelV y u):∃ a t1 t2,u = .ref a∧IsTup s.heap a #[.int q.1 t1,.int q.2 t2]:=by
 obtain ⟨a,rfl,hq⟩:=h
 cases r
 obtain ⟨its,rr,p,_⟩:=I.tuple hq
 cases rr with
 | cons r1 rr=>cases rr with
  | cons r2 rr =>
   cases rr
   obtain ⟨t1,rfl⟩:=r1
   obtain ⟨t2,rfl⟩:=r2
   exact ⟨a,t1,t2,rfl,p⟩
theorem Iv (I:Inv X pins σ H s) {h':Heap} (k:∀ a items,IsTup s.heap a items→IsTup h' a items):∀ {ys:List V} {us:List Value} {qs:List (Int × Int)},Prs X.K H ys qs→Vals ys us→∃ fs,KatTups h' us fs∧fs.length=us.length∧∀ v ∈ fs,∃ i t,v = .int i t
 | _,_,_,.nil,.nil=>⟨[],trivial,rfl,fun _ h=>by cases h⟩
 | _,_,_,.cons p ps,.cons r rs=>by
  obtain ⟨fs,h1,h2,h3⟩:=Iv I k ps rs
  obtain ⟨a,t1,t2,rfl,ht⟩:=wC I p r
  obtain ⟨o,e,c,n,d⟩:=k _ _ ht
  refine ⟨.int _ t1 :: fs,⟨⟨a,o,_,n,rfl,e,c,d,rfl⟩,h1⟩,by simp [h2],fun v hv=>?_⟩
  rcases aZ.mp hv with rfl | hv
  ·exact ⟨_,_,rfl⟩
  ·exact h3 v hv
theorem rQ {ys:List V} {us:List Value} {qs:List (Int × Int)}:Prs X.K H ys qs→Vals ys us→∀ i,i < ys.length→VH X.K H (ys.getD i .non) (qs.getD i (0,0))∧RelV (ys.getD i .non) (us.getD i .none)
 | .nil,.nil,i,h=>by cases h
 | .cons p ps,.cons r rs,0,h=>⟨p,r⟩
 | .cons p ps,.cons r rs,i + 1,h=>by
  have:=rQ ps rs i (by simpa using h)
  simpa using this
theorem Bm:lQ X (.builtin "sorted") (fun xs H Q=>∃ (p:Addr) (ys:List V) (qs:List (Int × Int)),xs=[.ref p]∧SqL X.K H p ys∧2 ≤ ys.length∧ys.length < 64∧Prs X.K H ys qs∧∀ l,H l=none→Q (.ref l) (upd H l (.lst ((m8 ys.length (ltP qs)).map fun i=>ys.getD i .non)))):=by
 intro pins s σ H xs us Q I r h
 obtain ⟨p,ys,qs,rfl,hx,h2,h64,hp,q⟩:=h
 obtain ⟨u,rfl,rx⟩:=vals1 r
 cases rx
 obtain ⟨its,rvs,pl,hz⟩:=I.list hx
 obtain ⟨m,hm,_⟩:=id I.loc
 have len:its.length=ys.length:=rvs.length.symm
 refine kat_sorted (h₀:=Att.jg s.heap) (L:=X.env.locals) (m:=m) (Att.Ar hm) (uf (g:=Att.jg s.heap) (h:=s.heap) (L:=X.env.locals)) pl.isList (by rw [len];exact h2) (by rw [len];exact h64) fun D e1 h' F' N' lt=>?_
 have kept:∀ {h'':Heap} {nw:List (Addr × Obj)},News (Att.jg s.heap) X.env.locals h'' nw→(∀ y ∈ kO (Att.jg s.heap) s.heap X.env.locals,y ∈ nw)→∀ b o,b ≠ X.env.locals→s.heap.get? b=some o→h''.get? b=some o:=fun N hs b o hb e=>(N (b,o) (hs _ (oW hb (Att.mJ _ _) e))).1
 have kt:∀ a items,IsTup s.heap a items→IsTup h' a items:=fun a items ⟨o,e,c,n,d⟩=>⟨o,kept N' (fun y hy=>aH _ hy) a o (fun z=>by
  obtain ⟨o2,es,ep,e2,d2,_⟩:=hm
  rw [z,e2] at e;cases e
  rw [d2] at d;cases d) e,c,n,d⟩
 obtain ⟨fs,f1,f2,f3⟩:=Iv I kt hp rvs
 refine kat_kind (T:=.type "int") f1 (by rw [f2,len];omega) (fun v hv=>?_) rfl ?_
 ·obtain ⟨i,t,rfl⟩:=f3 v hv
  exact fun A Q E s _ q=>wpAny_pure q
 have e64:its.length < 64:=by rw [len];exact h64
 refine wA (n:=its.length) (lt:=ltP qs) (R:=good its.length) (fun i j C hi hj hc=>?_) _ (rP (by rw [len];omega)) ?_
 ·obtain ⟨p1,r1⟩:=rQ hp rvs i (by rw [← len];exact hi)
  obtain ⟨p2,r2⟩:=rQ hp rvs j (by rw [← len];exact hj)
  obtain ⟨a1,t1,t2,x1,y1⟩:=wC I p1 r1
  obtain ⟨a2,t3,t4,x2,y2⟩:=wC I p2 r2
  unfold kas_ask
  rw [x1,x2]
  exact Rq (kt _ _ y1) (kt _ _ y2) hc
 ·refine KasFin.intro F' N' (.head fun y hy=>aQ (lt y hy)) fun h2 c F2 N2=>?_
  have hD:s.heap.get? D=none:=by
   cases e:s.heap.get? D with
   | none=>rfl
   | some o =>
    by_cases z:D=X.env.locals
    ·exact absurd z (N' _ (aJ ..)).2.1
    ·exact absurd (lt (D,o) (oW z (Att.mJ _ _) e)) (gP _)
  have hn:H D=none:=by
   cases e:H D with
   | none=>rfl
   | some u =>
    obtain ⟨w,hw⟩:=uZ (I.hok D u e)
    rw [hD] at hw;cases hw
  have pm:=fZ (n:=ys.length) (by omega) (ltP qs)
  have hv:∀ l:List Nat,(∀ i ∈ l,i < ys.length)→Vals (l.map fun i=>ys.getD i .non) (l.map fun i=>its.getD i .none):=fun l hl=>by
   induction l with
   | nil=>exact .nil
   | cons i l ih=>exact .cons (rQ hp rvs i (hl i aJ)).2 (ih fun j hj=>hl j (aH _ hj))
  have o1:((dG (ltP qs) (kas_sort its.length)).toList)=m8 ys.length (ltP qs):=by rw [len];rfl
  have new:fG X.prog X.w (upd H D (.lst ((m8 ys.length (ltP qs)).map fun i=>ys.getD i .non))) h2 D (.lst ((m8 ys.length (ltP qs)).map fun i=>ys.getD i .non)):=by
   refine ⟨by rw [aC,pm.length_eq,bY];exact bh (dj h64) (by decide),_,c,hv _ fun i hi=>bO.mp (pm.mem_iff.mp hi),?_⟩
   have:=(N2 _ (aJ ..)).1
   rw [← o1]
   exact this
  exact ⟨.ref D,_,Bk (s:=s) (h':=h2) I hm F2.ns (kept N2 fun y hy=>aH _ hy) hD new,rfl,q D hn⟩
end
end XS
namespace XS
open PySem PySem.Spec PySem.W PyProof.Rows L2 My D3
section
variable {prog:Program} {w:World} {A:Around} {E:Value→Shared→Prop} {s:Shared}
theorem DY {v:Value} {P:PySem.Fin→Shared→Prop} (ho:s.heap.get? a=some (seqObj "list" #[v] n))
 (h:∀ h' c,(∀ b u,b ≠ a→s.heap.get? b=some u→h'.get? b=some u)→h'.get? a=some (seqObj "list" #[v] c)→P (.done (.ret .none)) { s with heap:=h' }) :
 wpAny (model prog w) A (Builtin.«list.sort» ⟨[.ref a],[]⟩) P E s:=by
 obtain ⟨g1,e1⟩:∃ g1,g1=s.heap.update a (Obj.mapSeq fun _=>(#[]:Array Value)):=⟨_,rfl⟩
 obtain ⟨c1,h1⟩:∃ c,g1.get? a=some (seqObj "list" #[] c):=⟨_,by rw [e1];exact get?_update_seq ho fun _=>#[]⟩
 have k1:∀ b u,b ≠ a→s.heap.get? b=some u→g1.get? b=some u:=fun b u z q=>by rw [e1];exact (Heap.get?_update_ne _ _ _ _ z).trans q
 rw [list_sort_plain]
 refine wpAny_bind (listItems_at ho rfl ?_)
 refine wpAny_bind (listUpdate_at ho rfl ?_ (show 1 ≤ sizeLine by decide) (cY _))
 rw [← e1]
 refine wpAny_bind (seqEpoch_at h1 rfl ?_)
 refine wpAny_bind (wpAny_newTuple ?_ (show 1 ≤ sizeLine by decide))
 refine wpAny_bind (wpAny_newList ?_ (cY _))
 refine wpAny_holding ?_
 obtain ⟨g2,e2⟩:∃ g2,g2=(g1.push (seqObj "tuple" #[v] 0)).push (seqObj "list" #[] 0):=⟨_,rfl⟩
 show wpAny (model prog w) A _ P E { s with heap:=(g1.push (seqObj "tuple" #[v] 0)).push (seqObj "list" #[] 0) }
 rw [← e2]
 have h2:g2.get? a=some (seqObj "list" #[] c1):=by rw [e2];exact Heap.get?_push_of_some _ (Heap.get?_push_of_some _ h1)
 have k2:∀ b u,b ≠ a→s.heap.get? b=some u→g2.get? b=some u:=fun b u z q=>by rw [e2];exact Heap.get?_push_of_some _ (Heap.get?_push_of_some _ (k1 b u z q))
 have two:(#[v]:Array Value).size < 2:=je 1
 have srt:(arrOf (SortSt.mk' general' ((#[v]:Array Value).zip #[v]) #[] 7 none)).map (·.2) = #[v]:=by
  show ((#[v]:Array Value).zip #[v]).map (·.2) = #[v]
  simp
 dsimp only
 rw [if_pos two,if_pos two]
 refine wpAny_bind (wpAny_pure ?_)
 refine wpAny_bind (wpAny_pure ?_)
 dsimp only
 rw [srt]
 refine wpAny_bind (seqEpoch_at h2 rfl ?_)
 refine wpAny_bind (listUpdate_at h2 rfl ?_ (cY _) (show 1 ≤ sizeLine + 1 by decide))
 show wpAny _ _ (if (c1 != c1)=true then _ else ret Value.none) P E _
 rw [if_neg (by simp)]
 refine wpAny_pure (h _ _ (fun b u z q=>(Heap.get?_update_ne _ _ _ _ z).trans (k2 b u z q)) (get?_update_seq h2 _))
end
section
variable {X:Cx}
theorem Bo:lQ X (.builtin "sorted") (fun xs H Q=>∃ (p:Addr) (y:V),xs=[.ref p]∧SqL X.K H p [y]∧∀ l,H l=none→Q (.ref l) (upd H l (.lst [y]))):=by
 intro pins s σ H xs us Q I r h
 obtain ⟨p,y,rfl,hx,q⟩:=h
 obtain ⟨u,rfl,rx⟩:=vals1 r
 cases rx
 obtain ⟨its,rvs,pl,hz⟩:=I.list hx
 obtain ⟨v,rfl,rv⟩:∃ v,its=[v]∧RelV y v:=by
  cases rvs with
  | cons a b=>cases b;exact ⟨_,rfl,a⟩
 refine Calls.call_function_entry kind_sorted plain_sorted entry_sorted (args_sorted1 _) ?_
 unfold Builtin.«sorted»
 refine wpAny_bind (m:=checkCount "sorted" 1 1 _) (wpAny_pure ?_)
 refine wpAny_bind (collect_list (vs:=[v]) pl.isList ?_ (show 1 ≤ sizeLine by decide))
 refine wpAny_bind (wpAny_newList ?_ (show 1 ≤ sizeLine by decide))
 obtain ⟨g,eg⟩:∃ g,g=(s.heap.push (seqObj "list" #[] 0)).update s.heap.objs.size (Obj.mapSeq (·++[v].toArray)):=⟨_,rfl⟩
 show wpAny _ _ _ _ _ { s with heap:=((s.heap.push (seqObj "list" #[] 0)).update s.heap.objs.size (Obj.mapSeq (·++[v].toArray))).push (seqObj "list" [v].toArray 0) }
 rw [← eg]
 have sz:g.objs.size=s.heap.objs.size + 1:=by rw [eg,Heap.size_update,size_push']
 have old:∀ b o,s.heap.get? b=some o→g.get? b=some o:=fun b o e=>by
  have lt:=Heap.lt_size e
  rw [eg,Heap.get?_update_ne _ _ _ _ (aQ lt)]
  exact Heap.get?_push_of_some _ e
 have at':(g.push (seqObj "list" [v].toArray 0)).get? g.objs.size=some (seqObj "list" #[v] 0):=Heap.get?_push_size _ rfl
 refine wpAny_bind (wpAny_holding (wpAny_call_entry slot_list_sort ⟨_,at',rfl⟩ entry_list_sort (DY at' fun h' c k e=>⟨_,rfl,?_⟩) (args_list_sort _)))
 refine wpAny_pure ⟨_,rfl,?_⟩
 have hn:H g.objs.size=none:=I.hok.fresh (by rw [sz];exact jk _)
 have I2:=I.laid (h':=h') (t':=s.toks) (a:=g.objs.size) (o:=.lst [y]) (fun b o q=>k b o (fun z=>by
  have lt:b < s.heap.objs.size:=Heap.lt_size q
  have z:b=s.heap.objs.size + 1:=z.trans sz
  rw [z] at lt
  exact absurd lt (Nat.not_lt.mpr (jk _))) (Heap.get?_push_of_some _ (old b o q))) (by rw [sz];exact jk _) ⟨show 1 ≤ sizeLine by decide,[v],c,.cons rv .nil,e⟩
 exact ⟨.ref _,_,I2,rfl,q _ hn⟩
end
end XS
namespace XS
open PySem PySem.Spec PySem.W PyProof.Rows L2 My D3
section
variable {K:PySem.W.Frag} {H:Hp}
theorem Bp:∀ {l:List D} {qs:List (Int × Int)} {ys:List V},DX l=some qs→RAs K ok1 true H ys l→Prs K H ys qs∧l=qs.map fun q=>.tuple [.int q.1,.int q.2]
 | [],qs,ys,e,r=>by
  cases e;cases r;exact ⟨.nil,rfl⟩
 | d :: l,qs,ys,e,r=>by
  cases r with
  | cons r1 r2 =>
   unfold DX at e
   split at e
   ·next h=>cases h
   ·next i j t h =>
    cases h
    cases e3:DX l with
    | none=>rw [e3] at e;cases e
    | some q2 =>
     rw [e3] at e
     cases e
     obtain ⟨p,el⟩:=Bp e3 r2
     obtain ⟨a,xs,rfl,hs,hr⟩:=r1.tupE
     cases hr with
     | cons h1 hr=>cases hr with
      | cons h2 hr =>
       cases hr
       obtain rfl:=h1.intE
       obtain rfl:=h2.intE
       exact ⟨.cons ⟨a,rfl,hs⟩ p,by rw [aP,← el]⟩
   ·cases e
theorem D_ (qs:List (Int × Int)):flats (qs.map fun q=>(.tuple [.int q.1,.int q.2]:D))=true:=by
 induction qs with
 | nil=>rfl
 | cons q qs ih=>simp [flats,flat,ih]
theorem xR:∀ {l:List D},flats l=true→∀ i,flat (l.getD i .none)=true
 | [],_,i=>by simp [flat]
 | d :: l,h,0=>by rw [flats,aY] at h;exact h.1
 | d :: l,h,i + 1=>by
  rw [flats,aY] at h
  simpa using xR h.2 i
theorem Bq:∀ {ys:List V} {l:List D} {ok:Ok} {pl:Bool},RAs K ok pl H ys l→∀ i,RA K ok pl H (ys.getD i .non) (l.getD i .none)
 | _,_,_,_,.nil,i=>by simp;exact .non
 | _,_,_,_,.cons a b,0=>a
 | _,_,_,_,.cons a b,i + 1=>by simpa using Bq b i
end
theorem MK (ha:DB X fl .P [e] fa) (hg:Gl X "sorted") (hm:X.mg "sorted" = none)
 (he:starEach [e] X.env=(false,eval e X.env) :: starEach [] X.env:=by rfl) (hpl:(backTo pos (starEach [] X.env)).any (·.1)=false:=by rfl):DE X fl .FC (.Call (.Name "sorted" p) [e] [] pos) (dCall xQ fa):=by
 have bs:bootBuiltins "sorted" = some (.builtin "sorted"):=by decide +kernel
 intro pins s σ H Q I h
 obtain ⟨G,ow,δ,d,R,hf,q⟩:=h
 obtain ⟨ds,e1,e2⟩:=bind1 hf
 unfold xQ at e2
 split at e2
 ·next l =>
  split at e2
  ·next ns e3=>exact J5 ha hg hm he hpl pins s σ H Q I ⟨G,ow,δ,d,R,by unfold dCall;rw [e1];exact e2,q⟩
  ·next e3 =>
   obtain ⟨qs,e4,e5⟩:=bind1 e2
   by_cases h64:l.length < 64
   ·rw [if_pos h64] at e5
    by_cases h1:l.length=1
    ·rw [if_pos h1] at e5
     cases e5
     refine oA Bo hg hm bs ha (by decide) (by decide) he hpl pins s σ H Q I ⟨G,ow,δ,_,R,e1,fun vs H' sm r'=>?_⟩
     cases r' with
     | cons r1 r2 =>
      cases r2
      obtain ⟨a,ys,rfl,hx,hr⟩:=r1.lstE
      obtain ⟨hp,hl⟩:=Bp e4 hr
      obtain ⟨y,rfl⟩:∃ y,ys=[y]:=by
       have:=hr.length
       rw [h1] at this
       exact p8.mp this
      refine ⟨a,y,rfl,hx,fun l0 hn=>q _ _ (sm.trans (cH hn _)) (.inr ⟨_,_,_,rfl,rfl,sm.free hn,bN,?_⟩)⟩
      exact RAs.flat (by rw [hl];exact D_ qs) (hr.same (cH hn _))
    ·rw [if_neg h1] at e5
     cases e5
     refine oA Bm hg hm bs ha (by decide) (by decide) he hpl pins s σ H Q I ⟨G,ow,δ,_,R,e1,fun vs H' sm r'=>?_⟩
     cases r' with
     | cons r1 r2 =>
      cases r2
      obtain ⟨a,ys,rfl,hx,hr⟩:=r1.lstE
      obtain ⟨hp,hl⟩:=Bp e4 hr
      have el:ys.length=l.length:=hr.length
      have h2:2 ≤ ys.length:=by
       rcases d_ ys.length 2 with z | z
       ·have:l.length=0:=by omega
        have:=cO.mp this
        subst this
        cases e3
       ·exact z
      refine ⟨a,ys,qs,rfl,hx,h2,by omega,hp,fun l0 hn=>q _ _ (sm.trans (cH hn _)) (.inr ⟨_,_,_,rfl,rfl,sm.free hn,bN,?_⟩)⟩
      rw [el]
      have fl0:flats l=true:=by rw [hl];exact D_ qs
      have hr2:=hr.same (cH hn (.lst ((m8 l.length (ltP qs)).map fun i=>ys.getD i .non)))
      generalize m8 l.length (ltP qs)=is at hr2 ⊢
      clear e3 e4 hx h2 hp hl e1 hf
      have:∀ (is:List Nat) (H2:Hp),RAs X.K ok1 true H2 ys l→RAs X.K (fun b=>okN H b∧b ≠ l0) false H2 (is.map fun i=>ys.getD i .non) (is.map fun i=>l.getD i .none):=fun is H2 hr=>by
       induction is with
       | nil=>exact .nil
       | cons i is ih=>exact .cons (RA.flat (xR fl0 i) (Bq hr i)) ih
      exact this is _ hr2
   ·rw [if_neg h64] at e5;cases e5
 ·cases e2
end XS
variable {I:Addr} {its:Array Value}
namespace XS
open PySem PySem.Spec PySem.W PyProof.Rows
section
variable {prog:Program} {w:World} {A:Around} {E:Value→Shared→Prop} {s:Shared}
theorem Rr:typeLookup (.type "list") "keys" = pure none:=by rw [typeLookup_type,builtinLookup_eq_fast];kernel_rfl
theorem zW {xs:Array Value} {k:Nat} {Q:Option Value→Shared→Prop} (hx:s.heap.get? a=some { cls:=.type "list", dict:=none,data:=.seq xs k,slots:=sl }) (hA:A.handled=none)
 (h:∀ h' tk,(∀ b o,s.heap.get? b=some o→h'.get? b=some o)→Q none { s with heap:=h',toks:=tk }):wpAny (model prog w) A (getAttr? (.ref a) "keys") Q E s:=by
 obtain ⟨hp,g,d,tk,os⟩:=s
 have hT:∀ tk',(⟨hp,g,d,tk',os⟩:Shared).TypeIs (.ref a) "list" := fun _=>⟨_,hx,rfl⟩
 have f1:=sub_AttributeError
 have f3:=F.slot_list_getattribute.lookup
 have f4:=F.slot_list_getattribute.bind (.ref a)
 have f5:=am_list_getattr_none
 unfold getAttr? getAttrBy? getAttrBy
 repeat (any_goals (first | assumption | exact hT _ | ((with_reducible show wpAny _ _ (call (Value.builtin "list.__getattribute__") _ _) _ _ _);refine call_meets F.slot_list_getattribute (hT _) am_entry_list_getattribute (F.args_list_getattribute_2 _ _) (meets_getattribute_miss_list a xs k sl "keys" _ Rr (by decide) (by decide)) ⟨hx,hA,fun h' tk' e hx'=>?_⟩) | wp_step))
 obtain ⟨t',u',he⟩:=hx'.there
 show wpAny _ _ (getattributeRaised _ _ _ _ _ _ _) _ _ _
 unfold getattributeRaised
 repeat (any_goals (first | assumption | wp_step))
 exact h _ _ hx'.keeps
theorem rR:entryFor table "dict.update.loop" = some Builtin.«dict.update.loop»:=entryFor_of_tree (by kernel_rfl)
theorem lD:plainId "dict.update.loop" = true:=by decide +kernel
structure PL (h:Heap) (D I l:Addr) (its:Array Value) (vs:List (L2.Key × Value)) (i:Nat):Prop where
 iter:h.IsListIter I l i
 lst:h.IsList l its
 prs:∀ (j:Nat) (u:Value),its[j]? = some u→∃ (a:Addr) (n:Int) (t:Tok) (v:Value),u=Value.ref a∧IsTup h a #[Value.int n t,v]∧vs[j]? = some (Sum.inl n,v)∧a ≠ D∧a ≠ I
 ne:l ≠ D∧l ≠ I∧D ≠ I
theorem MN {D l:Addr} {vs:List (L2.Key × Value)} {R:Result→Shared→Prop} (hA:A.handled=none) (hn:(vs.map (·.1)).Nodup) (hz:vs.length=its.size) (hs:its.size ≤ 1000) :
 ∀ (m i:Nat) (tk:Tok) (s:Shared),its.size - i=m→i ≤ its.size→PL s.heap D I l its vs i→s.heap.DictOf (L2.bV prog w) D (vs.take i) →
  (∀ h' tk,(∀ b o,b ≠ D→b ≠ I→s.heap.get? b=some o→h'.get? b=some o)→h'.DictOf (L2.bV prog w) D vs→R (.ok (.ret .none)) { s with heap:=h',toks:=tk }) →
  codeAny (model prog w) A (.builtin "dict.update.loop" ⟨[.ref D,.ref I,.int i tk,.none],[]⟩) R s:=by
 intro m
 induction m with
 | zero =>
  intro i tk s hm hi P hd hR
  have e:i=its.size:=by omega
  subst e
  refine codeAny_builtin rR ?_
  rw [Around.under_plainId lD _]
  have:its[its.size]? = none:=by simp
  show wpAny _ A.in1 (pyNext (.ref I) >>= _) _ _ s
  refine wpAny_bind (wpAny_pyNext_list_end (by simpa using hA) P.iter P.lst this fun h' hx=>?_)
  show wpAny _ A.in1 (Builtin.Dict.addKeywords D [] >>= _) _ _ _
  refine wpAny_bind (wpAny_pure (wpAny_pure ?_))
  have hx':h'.DictOf (L2.bV prog w) D vs:=by
   have:=hd.extBut hx P.ne.2.2
   rwa [← hz,List.take_length] at this
  exact hR h' s.toks (fun b o _ z q=>hx b o z q) hx'
 | succ m ih =>
  intro i tk s hm hi P hd hR
  have hlt:i < its.size:=by omega
  obtain ⟨u,hu⟩:∃ u,its[i]? = some u:=⟨its[i],by simp [hlt]⟩
  obtain ⟨a,n,t,v,rfl,hp,hv,na,ni⟩:=P.prs i u hu
  refine codeAny_builtin rR ?_
  rw [Around.under_plainId lD _]
  show wpAny _ A.in1 (pyNext (.ref I) >>= _) _ _ s
  refine wpAny_bind (wpAny_pyNext_list_item P.iter P.lst hu fun h1 it1 sb1=>?_)
  have k1:∀ b,b ≠ I→h1.get? b=s.heap.get? b:=fun b z=>sb1.2 b z
  have hp1:IsTup h1 a #[.int n t,v]:=by
   obtain ⟨o,e,c⟩:=hp
   exact ⟨o,(k1 a ni).trans e,c⟩
  have hd1:h1.DictOf (L2.bV prog w) D (vs.take i):=hd.sameBut sb1 P.ne.2.2
  show wpAny _ A.in1 (holding [Value.ref a] _ >>= _) _ _ _
  refine wpAny_bind (wpAny_holding ?_)
  have hs1:(vs.take i).length ≤ sizeLine:=by
   rw [bG]
   exact bh (qM _ _) (bh (dj hlt) (bh hs (by decide)))
  have hnew:stored (vs.take i) (Sum.inl n) v=vs.take (i + 1):=by
   have hi2:i < vs.length:=by omega
   have hv2:vs[i]=(Sum.inl n,v):=by
    have:=aO hi2
    rw [hv] at this
    exact (cJ.inj this).symm
   have no:¬ ((vs.take i).any fun kv=>decide (kv.1=Sum.inl n))=true:=by
    intro z
    obtain ⟨kv,hk,e⟩:=List.any_eq_true.mp z
    have e:=of_decide_eq_true e
    obtain ⟨j,hj,e2⟩:=rm.mp hk
    have hj':j < i:=by
     have:j < (vs.take i).length:=hj
     rw [bG] at this
     omega
    have e3:vs[j]=kv:=by
     rw [← e2,tZ]
    have:=oR.mp hn j i (by rw [aC];omega) (by rw [aC];exact hi2) hj'
    apply this
    rw [mF,mF,e3,hv2,e]
   unfold stored
   rw [if_neg no,t_,hv]
   rfl
  obtain ⟨o2,e2,c2,n2,d2⟩:=id hp1
  have hT:Shared.TypeIs { s with heap:=h1 } (.ref a) "tuple" := ⟨o2,e2,c2⟩
  refine wpAny_bind (wpAny_tryCatch ?_)
  unfold Builtin.Dict.pairItems
  refine wpAny_bind (wpAny_typeOf hT ?_)
  rw [if_pos (by decide)]
  refine wpAny_bind (wpAny_seqItems e2 d2 (wpAny_pure ?_))
  show wpAny _ _ (holding [Value.int n t,v] (dictSet D (.int n t) v)) _ _ _
  refine wpAny_holding (wpAny_dictSet_pairs (knd:=L2.bV prog w) (k:=Sum.inl n) (hsz:=hs1) (by show Value.isInt n (.int n t)=true;simp [Value.isInt]) hd1 fun h2 dd sb2=>?_)
  rw [hnew] at dd
  refine wpAny_pure ⟨plainId_quiet lD _,?_⟩
  have k2:∀ b o,b ≠ D→b ≠ I→s.heap.get? b=some o→h2.get? b=some o:=fun b o z1 z2 q=>(sb2.2 b z1).trans ((k1 b z2).trans q)
  have tup2:∀ b x,b ≠ D→b ≠ I→IsTup s.heap b x→IsTup h2 b x:=fun b x z1 z2 ⟨o,e,c⟩=>⟨o,k2 b o z1 z2 e,c⟩
  refine ih (i + 1) 0 _ (by omega) (by omega) ⟨?_,?_,fun j u hj=>?_,P.ne⟩ dd fun h3 tk3 k3 d3=>?_
  ·obtain ⟨o,e,c⟩:=it1
   exact ⟨o,(sb2.2 I (Ne.symm P.ne.2.2)).trans e,c⟩
  ·obtain ⟨o,e,c⟩:=P.lst
   exact ⟨o,k2 l o P.ne.1 P.ne.2.1 e,c⟩
  ·obtain ⟨a',n',t',v',rfl,q1,q2,q3,q4⟩:=P.prs j u hj
   exact ⟨a',n',t',v',rfl,tup2 a' _ q3 q4 q1,q2,q3,q4⟩
  ·exact hR h3 tk3 (fun b o z1 z2 q=>k3 b o z1 z2 (k2 b o z1 z2 q)) d3
end
end XS
namespace XS
open PySem PySem.Spec PySem.W PyProof.Rows
section
variable {prog:Program} {w:World} {A:Around} {E:Value→Shared→Prop} {s:Shared}
theorem Br {l:Addr} {vs:List (L2.Key × Value)} (hA:A.handled=none) (hl:s.heap.get? l=some { cls:=.type "list", dict:=none,data:=.seq its n,slots:=sl })
 (hp:∀ (j:Nat) (u:Value),its[j]? = some u→∃ (a:Addr) (n:Int) (t:Tok) (v:Value),u=Value.ref a∧IsTup s.heap a #[Value.int n t,v]∧vs[j]? = some (Sum.inl n,v)) (hn:(vs.map (·.1)).Nodup) (hz:vs.length=its.size) (hs:its.size ≤ 1000)
 (h:∀ h' tk,h'.DictOf (L2.bV prog w) s.heap.objs.size vs→(∀ b o,s.heap.get? b=some o→h'.get? b=some o)→Q (.ref s.heap.objs.size) { s with heap:=h',toks:=tk }) :
 wpAny (model prog w) A (PySem.call (.type "dict") [.ref l]) Q E s:=by
 refine callType_codes (Q₁:=fun obj s₁=>obj = .ref s.heap.objs.size∧s₁ = { s with heap:=s.heap.push { cls:=.type "dict", data:=.dict #[] } }) F.kt_called_dict (F.kt_typeCall_dict_1 _) F.entry_dict_init (kt_code_dict_new _ ⟨rfl,rfl⟩) ?_
 rintro obj s₁ ⟨rfl,rfl⟩
 obtain ⟨g,eg⟩:∃ g,g=s.heap.push { cls:=.type "dict", data:=.dict #[] }:=⟨_,rfl⟩
 rw [← eg]
 have dn:g.DictOf (L2.bV prog w) s.heap.objs.size []:=by rw [eg];exact Heap.DictOf.new s.heap
 have kg:∀ b o,s.heap.get? b=some o→g.get? b=some o:=fun b o q=>by rw [eg];exact Heap.get?_push_of_some _ q
 have lg:=kg _ _ hl
 have hT:Shared.TypeIs { s with heap:=g } (.ref l) "list" := ⟨_,lg,rfl⟩
 refine ⟨dn.typeIs,F.args_dict_init_2 _ _,?_⟩
 unfold Builtin.«dict.__init__»
 refine wpAny_bind ?_
 unfold Builtin.Dict.selfAndRest
 refine wpAny_bind (wpAny_notOrdered_dict dn.typeIs ?_)
 show wpAny _ _ (pure (s.heap.objs.size,[Value.ref l])) _ _ _
 refine wpAny_pure ?_
 show wpAny _ _ (Builtin.Dict.updateFrom "dict.__init__" s.heap.objs.size (.ref l) [] .none) _ _ _
 unfold Builtin.Dict.updateFrom
 refine wpAny_bind (wpAny_typeOf hT ?_)
 rw [if_pos (by decide)]
 have hA2:A.in1.in1.handled=none:=by simpa using hA
 refine wpAny_bind (zW (s:={ s with heap:=g }) lg hA2 fun h1 tk1 k1=>?_)
 rw [if_pos (by rfl)]
 refine wpAny_bind (wpAny_rule ?_)
 have l1:h1.get? l=_:=k1 _ _ lg
 have il:h1.IsList l its:=⟨_,l1,rfl,n,rfl⟩
 refine wpAny_bind (wpAny_pyIter_list (s:={ s with heap:=h1,toks:=tk1 }) il ?_)
 refine wpAny_pure ⟨plainId_quiet lD _,?_⟩
 obtain ⟨g2,eg2⟩:∃ g2,g2=h1.push { cls:=.type "list_iterator", data:=.fields #[.ref l,.int 0 0] }:=⟨_,rfl⟩
 have k2:∀ b o,s.heap.get? b=some o→g2.get? b=some o:=fun b o q=>by rw [eg2];exact Heap.get?_push_of_some _ (k1 _ _ (kg _ _ q))
 have old:∀ b o,s.heap.get? b=some o→b ≠ s.heap.objs.size∧b ≠ h1.objs.size:=fun b o q=>by
  have lt:=Heap.lt_size q
  have lt2:=Heap.lt_size (k1 _ _ (kg _ _ q))
  exact ⟨aQ lt,aQ lt2⟩
 have dne:s.heap.objs.size ≠ h1.objs.size:=by
  obtain ⟨o,_,_,e,_⟩:=dn
  exact aQ (Heap.lt_size (k1 _ _ e))
 have dd:g2.DictOf (L2.bV prog w) s.heap.objs.size (vs.take 0):=by
  obtain ⟨o,es,ep,e,r⟩:=dn
  exact ⟨o,es,ep,by rw [eg2];exact Heap.get?_push_of_some _ (k1 _ _ e),r⟩
 have o1:=old _ _ hl
 show codeAny (model prog w) A.in1 (Code.builtin "dict.update.loop" ⟨[Value.ref s.heap.objs.size,Value.ref h1.objs.size,Value.int ((0:Nat):Int) 0,Value.none],[]⟩) _ { s with heap:=h1.push { cls:=.type "list_iterator", data:=.fields #[.ref l,.int 0 0] },toks:=tk1 }
 rw [← eg2]
 refine MN (s:={ s with heap:=g2,toks:=tk1 }) (A:=A.in1) (by simpa using hA) hn hz hs its.size 0 0 rfl (cY _) ⟨⟨_,by rw [eg2];exact Heap.get?_push_size _ rfl,rfl,rfl⟩,⟨_,k2 _ _ hl,rfl,n,rfl⟩,fun j u hj=>?_,⟨o1.1,o1.2,dne⟩⟩ dd fun h3 tk3 k3 d3=>?_
 ·obtain ⟨a,m,t,v,rfl,⟨o,e,c⟩,q⟩:=hp j u hj
  have o2:=old _ _ e
  exact ⟨a,m,t,v,rfl,⟨o,k2 _ _ e,c⟩,q,o2.1,o2.2⟩
 ·exact ⟨rfl,h h3 tk3 d3 fun b o q=>k3 b o (old b o q).1 (old b o q).2 (k2 b o q)⟩
end
end XS
namespace XS
open PySem PySem.Spec PySem.W PyProof.Rows L2 My D3
theorem Iw:∀ {ys:List V} {qs:List (Int × Int)},Prs K H ys qs→ys.length=qs.length
 | _,_,.nil=>rfl
 | _,_,.cons _ r=>by simp [Iw r]
section
variable {X:Cx} {pins:List (Addr × Obj)} {σ:L2.St} {H:Hp} {s:Shared}
theorem Ea (I:L2.Inv X pins σ H s):∀ {ys:List V} {us:List Value} {qs:List (Int × Int)},Prs X.K H ys qs→Vals ys us→∃ vs:List (L2.Key × Value),vs.length=us.length∧(vs.map (·.1))=qs.map (fun q=>Sum.inl q.1)∧KV (qs.map fun q=>(Sum.inl q.1,V.int q.2)) vs ∧
 ∀ (j:Nat) (u:Value),us[j]? = some u→∃ (a:Addr) (n:Int) (t:Tok) (v:Value),u=Value.ref a∧IsTup s.heap a #[Value.int n t,v]∧vs[j]? = some (Sum.inl n,v)
 | _,_,_,.nil,.nil=>⟨[],rfl,rfl,.nil,fun j u h=>by simp at h⟩
 | _,_,_,.cons p ps,.cons r rs=>by
  obtain ⟨vs,h1,h2,h3,h4⟩:=Ea I ps rs
  obtain ⟨a,t1,t2,rfl,ht⟩:=wC I p r
  refine ⟨(Sum.inl _,.int _ t2) :: vs,by simp [h1],by simp [h2],.cons ⟨rfl,⟨t2,rfl⟩⟩ h3,fun j u hj=>?_⟩
  cases j with
  | zero =>
   simp at hj
   subst hj
   exact ⟨a,_,t1,_,rfl,ht,rfl⟩
  | succ j=>exact h4 j u (by simpa using hj)
theorem GP (hA:X.A.handled=none):lQ X (.type "dict") (fun xs H Q=>∃ (p:Addr) (ys:List V) (qs:List (Int × Int)),xs=[.ref p]∧SqL X.K H p ys∧ys.length ≤ 1000∧Prs X.K H ys qs∧(qs.map (·.1)).Nodup∧∀ l,H l=none→Q (.ref l) (upd H l (.dK (qs.map fun q=>(Sum.inl q.1,V.int q.2))))):=by
 intro pins s σ H xs us Q I r h
 obtain ⟨p,ys,qs,rfl,hx,hl,hp,hn,q⟩:=h
 obtain ⟨u,rfl,rx⟩:=vals1 r
 cases rx
 obtain ⟨its,rvs,pl,hz⟩:=I.list hx
 obtain ⟨⟨c,d,dt,sl⟩,n,e,rfl,rfl,rfl⟩:=pl
 obtain ⟨vs,v1,v2,v3,v4⟩:=Ea I hp rvs
 have len:its.length=ys.length:=rvs.length.symm
 have nd:(vs.map (·.1)).Nodup:=by
  rw [v2]
  have:List.Pairwise (· ≠ ·) ((qs.map (·.1)).map (Sum.inl:Int→L2.Key)):=List.Pairwise.map (S:=(· ≠ ·)) (Sum.inl:Int→L2.Key) (fun a b ne e=>ne (Sum.inl.inj e)) hn
  rwa [fO] at this
 refine Br (vs:=vs) hA e (fun j u hj=>v4 j u (by simpa using hj)) nd (by simpa using v1) (by simp;omega) fun h' tk dd k=>?_
 have hq:H s.heap.objs.size=none:=I.hok.fresh (aL _)
 have I2:=I.laid (h':=h') (t':=tk) (a:=s.heap.objs.size) (o:=.dK (qs.map fun q=>(Sum.inl q.1,V.int q.2))) k (aL _)
  ⟨by rw [aC,← Iw hp];exact bh hl (by decide),beq_eq_false_iff_ne.mpr (Ne.symm (aQ (big I))),vs,v3,dd⟩
 exact ⟨.ref _,_,I2,rfl,q _ hq⟩
end
theorem Iz:∀ qs:List (Int × Int),dk0 (qs.map fun q=>(.int q.1,.int q.2))=qs.map fun q=>(Sum.inl q.1,V.int q.2)
 | []=>rfl
 | q :: qs=>by rw [aP,dk0,Iz qs];rfl
theorem IK:∀ qs:List (Int × Int),xq (qs.map fun q=>((.int q.1,.int q.2):D × D))=true
 | []=>rfl
 | _ :: r=>IK r
theorem Rt (qs:List (Int × Int)):dh0 (qs.map fun q=>(.int q.1,.int q.2)) = .dK (qs.map fun q=>(Sum.inl q.1,V.int q.2)):=by
 cases qs with
 | nil=>rfl
 | cons q r=>exact congrArg HO.dK (Iz (q :: r))
theorem MP (hA:X.A.handled=none) (ha:DB X fl .P [e] fa) (hg:Gl X "dict") (hm:X.mg "dict" = none)
 (he:starEach [e] X.env=(false,eval e X.env) :: starEach [] X.env:=by rfl) (hpl:(backTo pos (starEach [] X.env)).any (·.1)=false:=by rfl):DE X fl .C (.Call (.Name "dict" p) [e] [] pos) (dCall MJ fa) :=
 PE.imp (nU (GP hA) hg hm (show bootBuiltins "dict" = some (.type "dict") by decide +kernel) ha (by decide) (by decide) he hpl) fun σ H Q h=>by
 obtain ⟨G,ow,δ,d,R,hf,q⟩:=h
 obtain ⟨ds,e1,e2⟩:=bind1 hf
 refine ⟨G,ow,δ,ds,R,e1,fun vs H' sm r'=>?_⟩
 unfold MJ at e2
 split at e2
 ·next l =>
  obtain ⟨qs,e4,e5⟩:=bind1 e2
  by_cases hc:l.length ≤ 1000∧(qs.map (·.1)).Nodup
  ·rw [if_pos hc] at e5
   cases e5
   cases r' with
   | cons r1 r2 =>
    cases r2
    obtain ⟨a,ys,rfl,hx,hr⟩:=r1.lstE
    obtain ⟨hp,hl⟩:=Bp e4 hr
    refine ⟨a,ys,qs,rfl,hx,by rw [hr.length];exact hc.1,hp,hc.2,fun l0 hn=>q _ _ (sm.trans (cH hn _)) (.dic bN (.inl ⟨IK qs,?_⟩) (sm.free hn))⟩
    rw [Rt]
  ·rw [if_neg hc] at e5;cases e5
 ·cases e2
end XS
namespace XS
open PySem PySem.Spec PySem.W PyProof.Rows L2 My D3
section
variable {X:Cx} {fl:List Fl} {a:Expr} {f:FE} {pos:Pos} {ta:TE}
end
end XS
namespace D3
open PySem
def M4:D→Option (List (Int × Int))
 | .dict kvs=>iiD kvs
 | _=>none
def isL:D→Bool
 | .list _=>true
 | _=>false
def Eb (f:FE):FA:=fun δ=>(f δ).bind fun x=>(M4 x).map fun qs=>qs.map fun q=>.int q.1
end D3
namespace D3
open PySem
noncomputable def J9:D→D→Option D:=fun x y=>if (SeqAt.shaped x && SeqAt.shaped y)=true then some (.bool (!PyData.eqv x y)) else @ite _ (x=y∧isL x=true∧x.depth ≤ 64∧noK x=true) (Classical.propDecidable _) (some (.bool false)) none
theorem Ru {x:D} (h:gNe x y=some d):J9 x y=some d:=by
 unfold gNe at h
 unfold J9
 split at h
 ·next z=>rw [if_pos z];exact h
 ·cases h
end D3
namespace D3
open PySem
end D3
namespace D3
open PySem
end D3
namespace D3
open PySem
end D3
namespace D3
open PySem
def dsT (S:List (List Int)):D:=.dict (S.map fun k=>(.tuple (k.map .int),.bool true))
def tsD:List (D × D)→Option (List (List Int))
 | []=>some []
 | (.tuple l,.bool true) :: r=>(dh l).bind fun k=>(tsD r).map (k :: ·)
 | _=>none
def M5:D→Option (List (List Int))
 | .dict kvs=>tsD kvs
 | _=>none
def yR:D→Option (List Int)
 | .tuple l=>dh l
 | _=>none
def jc (S:List (List Int)) (k:List Int):List (List Int):=if k ∈ S then S else S++[k]
theorem IV:∀ ns:List Int,dh (ns.map PyData.int)=some ns
 | []=>rfl
 | n :: r=>by
  rw [aP,dh,IV r]
  rfl
theorem uE:∀ S:List (List Int),tsD (S.map fun k=>((.tuple (k.map .int),.bool true):D × D))=some S
 | []=>rfl
 | k :: S=>by
  rw [aP,tsD,uE S,IV]
  rfl
theorem Rv (S:List (List Int)):M5 (dsT S)=some S:=uE S
end D3
namespace D3
open PySem
end D3
namespace D3
open PySem
end D3
namespace D3
open PySem
end D3
namespace D3
open PySem
end D3
namespace D3
open PySem
abbrev Tte:=List Int × List Int × Int
def vY:List (D × D)→Option (List Tte)
 | []=>some []
 | (.tuple l,.tuple [.tuple m,.int z]) :: r=>(dh l).bind fun k=>(dh m).bind fun v=>(vY r).map ((k,v,z) :: ·)
 | _=>none
def M6:D→Option (List Tte)
 | .dict kvs=>vY kvs
 | _=>none
def rwD (k:List Int):D:=.tuple (k.map .int)
def ttV (q:List Int × Int):D:=.tuple [rwD q.1,.int q.2]
def ttP (S:List Tte):List (D × D):=S.map fun q=>(rwD q.1,ttV q.2)
def dtt (S:List Tte):D:=.dict (ttP S)
def yS (S:List Tte) (k:List Int):Option (List Int × Int):=(S.find? fun q=>decide (q.1=k)).map (·.2)
def J_:D→Option (List Int × Int)
 | .tuple [.tuple m,.int z]=>(dh m).map (·,z)
 | _=>none
def qw (S:List Tte) (k:List Int) (v:List Int × Int):List Tte:=if (yS S k).isSome=true then S else S++[(k,v)]
def u6 (i:Nat) (fk fv:FE):FS:=fun δ=>(aD i δ).bind fun x=>(fk δ).bind fun y=>(fv δ).bind fun z=>(M6 x).bind fun S=>(yR y).bind fun k=>(J_ z).bind fun v=>if S.length < 1000000 then some (.nx (δ.set i (some (.d (dtt (qw S k v)))))) else none
theorem nQ:∀ ns:List Int,dh (ns.map PyData.int)=some ns
 | []=>rfl
 | n :: r=>by
  rw [aP,dh,nQ r]
  rfl
theorem Bt:∀ S:List Tte,vY (ttP S)=some S
 | []=>rfl
 | q :: S=>by
  show (dh (q.1.map PyData.int)).bind (fun k=>(dh (q.2.1.map PyData.int)).bind fun v=>(vY (ttP S)).map ((k,v,q.2.2) :: ·))=_
  rw [nQ,aK,nQ,aK,Bt S]
  rfl
theorem qx:∀ {l:List D} {k:List Int},dh l=some k→l=k.map PyData.int
 | [],k,h=>by cases h;rfl
 | d :: l,k,h=>by
  cases d with
  | int i =>
   unfold dh at h
   cases e:dh l with
   | none=>rw [e] at h;cases h
   | some r =>
    rw [e] at h
    cases h
    rw [qx e]
    rfl
  | _=>unfold dh at h;cases h
theorem Bu:∀ {kvs:List (D × D)} {S:List Tte},vY kvs=some S→kvs=ttP S
 | [],S,h=>by cases h;rfl
 | (a,b) :: r,S,h=>by
  unfold vY at h
  split at h
  ·next e=>cases e
  ·next e =>
   cases e
   obtain ⟨k,e1,h⟩:=pG.mp h
   obtain ⟨v,e2,h⟩:=pG.mp h
   cases e3:vY r with
   | none=>rw [e3] at h;cases h
   | some S' =>
    rw [e3] at h
    cases h
    rw [qx e1,qx e2,Bu e3]
    rfl
  ·cases h
theorem M7 (S:List Tte):M6 (dtt S)=some S:=Bt S
theorem Bv {x:D} {S:List Tte} (h:M6 x=some S):x=dtt S:=by
 cases x with
 | dict kvs=>rw [Bu (show vY kvs=some S from h)];rfl
 | _=>cases h
theorem Rw {x:D} {v:List Int × Int} (h:J_ x=some v):x=ttV v:=by
 unfold J_ at h
 split at h
 ·next m z =>
  cases e:dh m with
  | none=>rw [e] at h;cases h
  | some k =>
   rw [e] at h
   cases h
   rw [qx e]
   rfl
 ·cases h
end D3
namespace D3
open PySem
def Ka:List Int→List Int→Bool
 | [],[]=>false
 | [],_ :: _=>true
 | _ :: _,[]=>false
 | x :: xs,y :: ys=>if x=y then Ka xs ys else decide (x < y)
def oH:D→Option (List (List Int))
 | .dict kvs=>match vY kvs with
  | some S=>some (S.map (·.1))
  | none=>tsD kvs
 | _=>none
def Ec:D→D→Option D:=fun y x=>(oH x).bind fun S=>(yR y).map fun k=>.bool (decide (k ∈ S))
def yU (f:FE) (fl fh:FO):FE:=fun δ=>(f δ).bind fun x=>(fl δ).bind fun lo=>(fh δ).bind fun hi=>match x with
 | .tuple l=>if flats l=true then some (.tuple (cutD l lo hi)) else none
 | _=>none
def vL:List D→Option D
 | [.tuple l]=>match dh l with
  | some (i :: r)=>some (.int (mxI i r))
  | _=>none
 | _=>none
def GQ (f:FE):FA:=fun δ=>(f δ).bind fun x=>match x with
 | .tuple l=>some (pN l)
 | _=>none
def M8 (fx:FE):FA:=fun δ=>(fx δ).bind fun x=>(oH x).map fun S=>S.map rwD
def IW (fx:FE):FA:=fun δ=>(fx δ).bind fun x=>(oH x).bind fun S=>if S=[] then none else some (S.map rwD)
def rpD:List D→Option (List (List Int))
 | []=>some []
 | .tuple [.tuple l,.bool true] :: r=>(dh l).bind fun k=>(rpD r).map (k :: ·)
 | _=>none
def xT:List D→Option D
 | [.list l]=>(rpD l).bind fun ks=>if l.length ≤ 1000 then some (dsT (ks.foldl jc [])) else none
 | _=>none
end D3
namespace L2
open PySem PySem.Spec PyProof.Rows
section
variable {κ:Type} [DecidableEq κ]
def oJ (kvs:List (κ × V)) (k:κ):Option V:=(kvs.find? fun kv=>decide (kv.1=k)).map (·.2)
def putK (kvs:List (κ × V)) (k:κ) (v:V):List (κ × V) :=
 if (kvs.any fun kv=>decide (kv.1=k))=true then kvs.map (fun kv=>if kv.1=k then (kv.1,v) else kv) else kvs++[(k,v)]
theorem rF {p:κ × V} {r:List (κ × V)} {k:κ} (e:p.1=k):oJ (p :: r) k=some p.2:=by simp [oJ,jB,e]
theorem rG {p:κ × V} {r:List (κ × V)} {k:κ} (e:¬ p.1=k):oJ (p :: r) k=oJ r k:=by simp [oJ,jB,e]
theorem Ed (k:κ):∀ kvs:List (κ × V),(kvs.any fun kv=>decide (kv.1=k))=(oJ kvs k).isSome
 | []=>rfl
 | p :: r=>by
  rw [mW]
  by_cases e:p.1=k
  ·simp only [rF e,dTr e,Bool.true_or,Option.isSome_some]
  ·rw [rG e,dFa e,Bool.false_or];exact Ed k r
theorem vM (kvs:List (κ × V)) (k:κ) (v:V):(putK kvs k v).length ≤ kvs.length + 1:=by
 unfold putK
 split
 ·rw [aC];omega
 ·rw [aW,bM,gD];omega
theorem Ai.isSome_eq {o:Option V} {u:Option Value} (r:Ai o u):o.isSome=u.isSome:=by
 cases o with
 | none=>cases u with
  | none=>rfl
  | some _=>exact (show False from r).elim
 | some _=>cases u with
  | none=>exact (show False from r).elim
  | some _=>rfl
theorem Ai.getD {o:Option V} {u:Option Value} {d:V} {d':Value} (r:Ai o u) (rd:RelV d d'):RelV (o.getD d) (u.getD d'):=by
 cases o with
 | none=>cases u with
  | none=>exact rd
  | some _=>exact (show False from r).elim
 | some _=>cases u with
  | none=>exact (show False from r).elim
  | some _=>exact r
theorem KV.val {kvs:List (κ × V)} {vs:List (κ × Value)} (r:KV kvs vs) (k:κ):Ai (oJ kvs k) (valueAt vs k):=by
 unfold KV at r
 induction r with
 | nil=>exact True.intro
 | @cons p q ps qs h t ih =>
  obtain ⟨h1,h2⟩:=h
  by_cases e:p.1=k
  ·have e':q.1=k:=h1.symm.trans e
   have b:valueAt (q :: qs) k=some q.2:=by simp [valueAt,jB,e']
   rw [rF e,b];exact h2
  ·have e':¬ q.1=k:=fun z=>e (h1.trans z)
   have b:valueAt (q :: qs) k=valueAt qs k:=by simp [valueAt,jB,e']
   rw [rG e,b];exact ih
theorem KV.any {kvs:List (κ × V)} {vs:List (κ × Value)} (r:KV kvs vs) (k:κ):(kvs.any fun kv=>decide (kv.1=k))=vs.any fun kv=>decide (kv.1=k):=by
 unfold KV at r
 induction r with
 | nil=>rfl
 | cons h t ih=>rw [mW,mW,ih,h.1]
theorem KV.repl {kvs:List (κ × V)} {vs:List (κ × Value)} (r:KV kvs vs) (k:κ) {y:V} {u:Value} (ry:RelV y u) :
 KV (kvs.map fun kv=>if kv.1=k then (kv.1,y) else kv) (vs.map fun kv=>if kv.1=k then (kv.1,u) else kv):=by
 unfold KV at r ⊢
 induction r with
 | nil=>exact .nil
 | @cons p q ps qs h t ih =>
  rw [aP,aP]
  refine .cons ?_ ih
  obtain ⟨h1,h2⟩:=h
  by_cases e:p.1=k
  ·rw [if_pos e,if_pos (h1.symm.trans e)];exact ⟨h1,ry⟩
  ·rw [if_neg e,if_neg (fun z=>e (h1.trans z))];exact ⟨h1,h2⟩
theorem KV.put {kvs:List (κ × V)} {vs:List (κ × Value)} (r:KV kvs vs) (k:κ) {y:V} {u:Value} (ry:RelV y u):KV (putK kvs k y) (stored vs k u):=by
 unfold putK stored
 rw [r.any k]
 by_cases e:(vs.any fun kv=>decide (kv.1=k))=true
 ·rw [if_pos e,if_pos e];exact r.repl k ry
 ·rw [if_neg e,if_neg e];exact Paired.snoc r ⟨rfl,ry⟩
theorem KV.keys {kvs:List (κ × V)} {vs:List (κ × Value)} (r:KV kvs vs):kvs.map (·.1)=vs.map (·.1):=by
 unfold KV at r
 induction r with
 | nil=>rfl
 | cons h t ih=>rw [aP,aP,ih,h.1]
theorem KV.length {kvs:List (κ × V)} {vs:List (κ × Value)} (r:KV kvs vs):kvs.length=vs.length:=Paired.length r
end
theorem M9 {k:Key} {u:Value} (r:RelV (kV k) u):(bV P w).is k u=true:=by
 cases k with
 | inl i=>obtain ⟨t,e⟩:=(show ∃ t,u=Value.int i t from r);subst e;exact CQ P w i t
 | inr x=>obtain ⟨t,e⟩:=(show ∃ t,u=Value.str x t from r);subst e;exact CT P w x t
theorem zX:∀ {ks:List Key} {us:List Value},Vals (ks.map kV) us→ItemsAre (bV P w) ks us
 | [],_,r=>by rw [iI] at r;cases r;exact .nil
 | k :: ks,_,r=>by
  rw [aP] at r
  cases r with
  | cons h t=>exact .cons (M9 h) (zX t)
abbrev KT (H:Hp):List (List Key × V)→List (List Key × Addr × Value)→Prop:=Paired fun p q=>p.1=q.1∧H q.2.1=some (.tup (p.1.map kV))∧RelV p.2 q.2.2
theorem KT.val {kvs:List (List Key × V)} {xs:List (List Key × Addr × Value)} (r:KT H kvs xs) (k:List Key):Ai (oJ kvs k) ((atKey xs k).map (·.2)):=by
 induction r with
 | nil=>exact True.intro
 | @cons p q ps qs h t ih =>
  obtain ⟨h1,_,h2⟩:=h
  by_cases e:p.1=k
  ·have e':q.1=k:=h1.symm.trans e
   have b:atKey (q :: qs) k=some q.2:=by simp [atKey,jB,e']
   rw [rF e,b];exact h2
  ·have e':¬ q.1=k:=fun z=>e (h1.trans z)
   have b:atKey (q :: qs) k=atKey qs k:=by simp [atKey,jB,e']
   rw [rG e,b];exact ih
theorem KT.repl {kvs:List (List Key × V)} {xs:List (List Key × Addr × Value)} (r:KT H kvs xs) (k:List Key) {y:V} {u:Value} (ry:RelV y u) :
 KT H (kvs.map fun kv=>if kv.1=k then (kv.1,y) else kv) (xs.map (putAt k u)):=by
 induction r with
 | nil=>exact .nil
 | @cons p q ps qs h t ih =>
  rw [aP,aP]
  refine .cons ?_ ih
  obtain ⟨h1,h2,h3⟩:=h
  unfold putAt
  by_cases e:p.1=k
  ·rw [if_pos e,if_pos (h1.symm.trans e)];exact ⟨h1,h2,ry⟩
  ·rw [if_neg e,if_neg (fun z=>e (h1.trans z))];exact ⟨h1,h2,h3⟩
theorem KT.put {kvs:List (List Key × V)} {xs:List (List Key × Addr × Value)} (r:KT H kvs xs) (k:List Key) {b:Addr} {y:V} {u:Value} (hb:H b=some (.tup (k.map kV))) (ry:RelV y u) :
 KT H (putK kvs k y) (storedH xs k b u):=by
 have e:(kvs.any fun kv=>decide (kv.1=k))=(atKey xs k).isSome:=by
  rw [Ed,(r.val k).isSome_eq,uc]
 unfold putK storedH
 rw [e]
 by_cases q:(atKey xs k).isSome=true
 ·rw [if_pos q,if_pos q];exact r.repl k ry
 ·rw [if_neg q,if_neg q];exact Paired.snoc r ⟨rfl,hb,ry⟩
theorem KT.keeps {kvs:List (List Key × V)} {xs:List (List Key × Addr × Value)} (r:KT H kvs xs) (ht:∀ b ys,H b=some (.tup ys)→H' b=some (.tup ys)):KT H' kvs xs :=
 Paired.mapP r fun _ _ z=>⟨z.1,ht _ _ z.2.1,z.2.2⟩
section
variable {P:Program} {w:World} {H:Hp} {h:Heap} {a:Addr}
theorem Ub (ok:HOk P w H h) (e:Rd H a u):fG P w H h a u:=e.ok ok
theorem zY {kvs:List (Key × V)} (ok:HOk P w H h) (e:Rd H a (.dK kvs)):kvs.length ≤ sizeLine∧(a == sysModules)=false∧∃ vs,KV kvs vs∧h.DictOf (bV P w) a vs :=
 show fG P w H h a (.dK kvs) from Ub ok e
theorem Uc {kvs:List (Key × V)} (ok:HOk P w H h) (e:H a=some (.dK kvs)):kvs.length ≤ sizeLine∧(a == sysModules)=false∧∃ vs,KV kvs vs∧h.DictOf (bV P w) a vs:=zY ok (.inl e)
theorem u9 {ks:List Key} (ok:HOk P w H h) (e:H a=some (.tup (ks.map kV))):(tupleKind (bV P w)).is h ks a:=by
 obtain ⟨_,its,r,o,h1,h2,n,h3⟩:=(show fG P w H h a (.tup (ks.map kV)) from ok a _ e)
 exact ⟨o,its.toArray,n,h1,h2,h3,by simpa using zX r⟩
theorem Ef {kvs:List (List Key × V)} (ok:HOk P w H h) (e:Rd H a (.dT kvs)):kvs.length ≤ sizeLine∧(a == sysModules)=false ∧
 ∃ xs,KT H kvs xs∧h.DictOfH (tupleKind (bV P w)) a xs:=by
 obtain ⟨z,y,xs,r,o,es,ep,h1,h2,h3,h4,h5⟩:=(show fG P w H h a (.dT kvs) from Ub ok e)
 refine ⟨z,y,xs,r,o,es,ep,h1,h2,h3,h4,fun x hx=>?_,h5⟩
 have all:∀ {l:List (List Key × V)} {m:List (List Key × Addr × Value)},KT H l m→∀ x ∈ m,(tupleKind (bV P w)).is h x.1 x.2.1:=by
  intro l m q
  induction q with
  | nil=>intro x hx;exact nomatch hx
  | @cons p q ps qs hq t ih =>
   intro x hx
   rcases aZ.mp hx with e | hx
   ·subst e
    exact u9 ok (by rw [← hq.1];exact hq.2.1)
   ·exact ih x hx
 exact all r x hx
theorem Ud {kvs:List (List Key × V)} (ok:HOk P w H h) (e:H a=some (.dT kvs)):kvs.length ≤ sizeLine∧(a == sysModules)=false ∧
 ∃ xs,KT H kvs xs∧h.DictOfH (tupleKind (bV P w)) a xs:=Ef ok (.inl e)
end
def Rx (H:Hp) (a:Addr) (y:V) (r:Option V):Prop :=
 (∃ kvs k,Rd H a (.dK kvs)∧y=kV k∧r=oJ kvs k)∨∃ kvs k b,Rd H a (.dT kvs)∧y = .ref b∧H b=some (.tup (k.map kV))∧r=oJ kvs k
def GR (H:Hp) (a:Addr) (y v:V) (H':Hp):Prop :=
 (∃ kvs k,H a=some (.dK kvs)∧y=kV k∧kvs.length < sizeLine∧H'=upd H a (.dK (putK kvs k v))) ∨
 ∃ kvs k b,H a=some (.dT kvs)∧y = .ref b∧H b=some (.tup (k.map kV))∧kvs.length < sizeLine∧H'=upd H a (.dT (putK kvs k v))
theorem Rx.k {kvs:List (Key × V)} {k:Key} (e:H a=some (.dK kvs)):Rx H a (kV k) (oJ kvs k):=.inl ⟨kvs,k,.inl e,rfl,rfl⟩
theorem GR.k {kvs:List (Key × V)} {k:Key} (e:H a=some (.dK kvs)) (hl:kvs.length < sizeLine):GR H a (kV k) v (upd H a (.dK (putK kvs k v))):=.inl ⟨kvs,k,e,rfl,hl,rfl⟩
theorem GR.t {kvs:List (List Key × V)} {k:List Key} (e:H a=some (.dT kvs)) (eb:H b=some (.tup (k.map kV))) (hl:kvs.length < sizeLine) :
 GR H a (.ref b) v (upd H a (.dT (putK kvs k v))):=.inr ⟨kvs,k,b,e,rfl,eb,hl,rfl⟩
section
variable {X:Cx} {pins:List (Addr × Obj)} {σ:St} {H:Hp} {s:Shared} {a:Addr} {y v:V} {u r:Value} {o:Option V} {A:Around} {E:Value→Shared→Prop}
theorem ZV (hu:A.units + 1 < cLine) (I:Inv X pins σ H s) (g:Rx H a y o) (ry:RelV y u) (h:∀ s',Inv X pins σ H s'→Q (.bool o.isSome) s') :
 wpAny (model X.prog X.w) A (compareOp .In u (.ref a)) Q E s:=by
 rcases g with ⟨kvs,k,e,ey,l⟩ | ⟨kvs,k,b,e,ey,eb,l⟩
 ·subst ey
  obtain ⟨z,hd,vs,rel,dd⟩:=zY I.hok e
  refine wpAny_in_of (M9 ry) hd dd.mapOf ?_
  rw [← (rel.val k).isSome_eq,← l]
  exact h _ (I.tok _)
 ·subst ey
  cases (show u=Value.ref b from ry)
  obtain ⟨z,hd,xs,rel,dd⟩:=Ef I.hok e
  refine wpAny_in_heap (tupleKind_room_in1 hu) (u9 I.hok eb) hd dd ?_
  have q:=(rel.val k).isSome_eq
  rw [uc] at q
  rw [← q,← l]
  exact h _ (I.tok _)
theorem wD {ob:HO} (I:Inv X pins σ H s) (mu:Mut (H a)) (hs:Heap.SameBut a s.heap h') (he:∃ q,h'.get? a=some q) (new:fG X.prog X.w (upd H a ob) h' a ob) :
 Inv X pins σ (upd H a ob) { s with heap:=h',toks:=t' } :=
 I.write (x:=a) (e:=a) mu (.inl rfl) (fun b q hb z=>(hs.2 b hb).trans z) he new
theorem VJ {kvs:List (Key × V)} {vs:List (Key × Value)} (z:kvs.length ≤ sizeLine) (hd:(a == sysModules)=false) (rel:KV kvs vs) (dd:h'.DictOf (bV P w) a vs) :
 fG P w H' h' a (.dK kvs):=⟨z,hd,vs,rel,dd⟩
theorem zZ {Q:Unit→Shared→Prop} (hu:A.units + 1 < cLine) (I:Inv X pins σ H s) (g:GR H a y v H') (ry:RelV y u) (rv:RelV v r) (h:∀ s',Inv X pins σ H' s'→Q () s') :
 wpAny (model X.prog X.w) A (setItem (.ref a) u r) Q E s:=by
 rcases g with ⟨kvs,k,e,ey,l,eH⟩ | ⟨kvs,k,b,e,ey,eb,l,eH⟩
 ·subst ey eH
  obtain ⟨z,hd,vs,rel,dd⟩:=Uc I.hok e
  have hz:vs.length ≤ sizeLine:=by rw [← rel.length];exact z
  have hl:(putK kvs k v).length ≤ sizeLine:=by have:=vM kvs k v;omega
  refine wpAny_setItem_pairs (hsz:=hz) (M9 ry) dd fun h' dd' hs=>h _ ?_
  have he:∃ q,h'.get? a=some q:=let ⟨q,_,_,hq,_⟩:=dd';⟨q,hq⟩
  exact wD I (by rw [e];exact True.intro) hs he (VJ hl hd (rel.put k rv) dd')
 ·subst ey eH
  cases (show u=Value.ref b from ry)
  obtain ⟨z,hd,xs,rel,dd⟩:=Ud I.hok e
  have hz:xs.length ≤ sizeLine:=by rw [← Paired.length rel];exact z
  have hl:(putK kvs k v).length ≤ sizeLine:=by have:=vM kvs k v;omega
  refine wpAny_setItem_heap (hsz:=hz) (tupleKind_room_in1 hu) (u9 I.hok eb) dd fun h' dd' hs=>h _ ?_
  obtain ⟨q,es,ep,hq,h2,h3,h4,_,h5⟩:=dd'
  refine wD I (by rw [e];exact True.intro) hs ⟨q,hq⟩ ⟨hl,hd,_,(rel.put k eb rv).keeps fun c ys ec=>?_,q,es,ep,hq,h2,h3,h4,h5⟩
  rw [bx (gH ec e (fun z=>nomatch z))]
  exact ec
end
section
variable {X:Cx} {pins:List (Addr × Obj)} {σ:St} {H:Hp} {s:Shared} {a:Addr} {kvs:List (Key × V)} {k:Key} {u:Value} {A:Around} {E:Value→Shared→Prop}
end
section
variable {X:Cx} {o i e value:Expr} {pos pos' tpos:Pos} {td ty tv:TE}
end
section
variable {X:Cx} {pos:Pos}
end
structure M1 (X:Cx) (o:Expr) (m:Str) (apos:Pos) (e:Expr) (cpos:Pos):Prop where
 base:attributeBase o m X.env (eval o X.env)=eval o X.env
 few:((backTo cpos (starEach [e] X.env)).all (fun x=>!x.1) && (backToKw cpos (keywordEach [] X.env)).all (fun x=>x.1.isSome)
  && decide (([e]:List Expr).length + ([]:List Keyword).length + (if ([]:List Keyword).isEmpty then 0 else 1) < 30))=true
 line:(apos.endLine == cpos.line)=true
 trees:backTo cpos (starEach [e] X.env)=[(false,eval e X.env)]
structure M2 (X:Cx) (o:Expr) (m:Str) (apos:Pos) (e f:Expr) (cpos:Pos):Prop where
 base:attributeBase o m X.env (eval o X.env)=eval o X.env
 few:((backTo cpos (starEach [e,f] X.env)).all (fun x=>!x.1) && (backToKw cpos (keywordEach [] X.env)).all (fun x=>x.1.isSome)
  && decide (([e,f]:List Expr).length + ([]:List Keyword).length + (if ([]:List Keyword).isEmpty then 0 else 1) < 30))=true
 line:(apos.endLine == cpos.line)=true
 trees:backTo cpos (starEach [e,f] X.env)=[(false,eval e X.env),(false,eval f X.env)]
def IsD (H:Hp) (a:Addr):Prop:=(∃ kvs,Rd H a (.dK kvs))∨∃ kvs,Rd H a (.dT kvs)
theorem VL {σ:St} (I:Inv X pins σ H s) (d:IsD H a) :
 s.TypeIs (.ref a) "dict" ∧ (∀ b,Value.ref a = .ref b→∃ ob,s.heap.get? b=some ob∧ob.dict=none)∧(a == sysModules)=false:=by
 rcases d with ⟨kvs,e⟩ | ⟨kvs,e⟩
 ·obtain ⟨_,hd,vs,_,dd⟩:=zY I.hok e
  refine ⟨dd.typeIs,fun b q=>?_,hd⟩
  cases q
  obtain ⟨ob,_,_,h1,h2,_⟩:=dd
  exact ⟨ob,h1,h2.2.1⟩
 ·obtain ⟨_,hd,xs,_,dd⟩:=Ef I.hok e
  refine ⟨dd.typeIs,fun b q=>?_,hd⟩
  cases q
  obtain ⟨ob,_,_,h1,h2,_⟩:=dd
  exact ⟨ob,h1,h2.2.1⟩
section
variable {X:Cx} {pins:List (Addr × Obj)} {σ:St} {H:Hp} {s:Shared} {a:Addr} {y d:V} {u r:Value} {o:Option V} {A:Around} {E:Value→Shared→Prop}
end
section
variable {X:Cx} {o e f:Expr} {apos cpos:Pos} {td ty tx:TE}
end
section
variable {X:Cx} {pins:List (Addr × Obj)} {σ:St} {H:Hp} {s:Shared} {a:Addr} {kvs:List (Key × V)} {A:Around} {E:Value→Shared→Prop}
end
section
variable {X:Cx} {pins:List (Addr × Obj)} {σ:St} {H:Hp} {s:Shared} {a:Addr} {y:V} {u:Value} {A:Around} {E:Value→Shared→Prop}
end
section
variable {κ:Type} [DecidableEq κ]
end
end L2
namespace XK
open PySem PySem.Spec PyProof.Rows L2 My D3
section
variable {K:PySem.W.Frag} {H:Hp}
theorem M_ {ok:Ok} {x:D} (e:M4 x=some qs) (r:RA K ok pl H v x):∃ a,v = .ref a∧L2.Rd H a (.dK (qs.map fun q=>(.inl q.1,.int q.2))):=by
 cases x with
 | dict kvs =>
  obtain ⟨a,rfl,h⟩:=r.dicE (GF e)
  rw [Mw e,GD e] at h
  exact ⟨a,rfl,h⟩
 | none=>cases e
 | bool _=>cases e
 | int _=>cases e
 | str _=>cases e
 | list _=>cases e
 | tuple _=>cases e
end
section
variable {X:Cx} {fl:List Fl} {e a b c ke:Expr} {f fa fb fc fk:FE} {pos:Pos}
def ZW:R2:=fun x y H Q=>∃ p o,y = .ref p∧Rx H p x o∧Q (.bl o.isSome) H
theorem VN (hu:X.A.units + 64 < cLine):OpR X (compareOp .In) ZW:=by
 intro pins s σ H x y v u Q I rx ry h
 obtain ⟨p,o,rfl,g,q⟩:=h
 obtain rfl:u=Value.ref p:=ry
 exact ZV (by omega) I g rx fun s' I'=>⟨.bl o.isSome,H,I',rfl,q⟩
theorem I_:∀ (l:List Value) (ns:List Int),l.length=ns.length→(∀ (j:Nat) (v:Value),l[j]? = some v→∃ n t,ns[j]? = some n∧v=Value.int n t)→IntsAre l ns
 | [],[],_,_=>.nil
 | [],_ :: _,h,_=>by simp at h
 | _ :: _,[],h,_=>by simp at h
 | v :: l,n :: ns,h,g=>by
  obtain ⟨n',t,e1,e2⟩:=g 0 v rfl
  cases e1
  subst e2
  exact .cons _ _ (I_ l ns (by simpa using h) fun j v hv=>by simpa using g (j + 1) v (by simpa using hv))
end
end XK
namespace XK
open PySem PySem.Spec PyProof.Rows L2 My D3
theorem hu1 (h:n + 64 < cLine):n + 1 < cLine:=by omega
abbrev dkI (qs:List (Int × Int)):List (Key × V):=qs.map fun q=>(.inl q.1,.int q.2)
section
variable {K:PySem.W.Frag} {fl:List Fl}
end
section
variable {X:Cx} {fl:List Fl} {e a b c ke:Expr} {f fa fb fc fk:FE} {pos:Pos}
def Yd (K:PySem.W.Frag):R2:=fun x y H Q=>Vj K x y H Q∨∃ ds,RA K ok1 true H x (.list ds)∧RA K ok1 true H y (.list ds)∧(PyData.list ds).depth ≤ 64∧J6 ds=true∧Q (.bl false) H
theorem VP (hu:X.A.units + 64 < cLine):OpR X (compareOp .NotEq) (Yd X.K):=by
 intro pins s σ H x y v u Q I rx ry h
 rcases h with h | ⟨ds,r1,r2,hd,hn,q⟩
 ·exact tH hu pins s σ H x y v u Q I rx ry h
 ·obtain ⟨a,xs,rfl,s1,q1⟩:=r1.lstE
  obtain ⟨b,ys,rfl,s2,q2⟩:=r2.lstE
  cases rx;cases ry
  obtain ⟨its,v1,p1,z1⟩:=I.list s1
  obtain ⟨its2,v2,p2,z2⟩:=I.list s2
  have hd':(PyData.list ds).depth=PyData.depthAll ds + 1:=by simp [PyData.depth]
  have l1:its.length=ds.length:=by rw [← v1.length,q1.length]
  have l2:its2.length=ds.length:=by rw [← v2.length,q2.length]
  have R:=SeqAt.RcNeAt.lists (A:=X.A) (e:=fun _=>true) p1.isList p2.isList (by rw [aU,aU,l1,l2]) (by omega) (fun j g1 g2=>pQ I ds q1 q2 v1 v2 X.A.in1 (by simp only [Around.in1_units];omega) hn j (by simpa using g1) (by simpa using g2))
  rw [show (!(aX its.toArray.size).all (fun _=>true))=false by simp] at R
  exact R _ _ _ _ ⟨.bl false,H,I,rfl,q⟩
theorem Ye:BrO K (Yd K) J9:=by
 intro H x y dx dy d Q rx ry e q
 unfold J9 at e
 by_cases z:(SeqAt.shaped dx && SeqAt.shaped dy)=true
 ·rw [if_pos z] at e
  cases e
  rw [aY] at z
  exact .inl ⟨dx,dy,rx.rd (SeqAt.canLay_of_shaped z.1),ry.rd (SeqAt.canLay_of_shaped z.2),z.1,z.2,q _ rfl (.bl _)⟩
 ·rw [if_neg z] at e
  split at e
  ·next c =>
   obtain ⟨c1,c2,c3,c4⟩:=c
   subst c1
   cases e
   cases dx <;> first | (cases c2;done) | skip
   exact .inr ⟨_,rx,ry,c3,c4,q _ rfl (.bl _)⟩
  ·cases e
end
end XK
namespace XK
open PySem PySem.Spec PyProof.Rows L2 My D3
def Bw (X:Cx) (a:Addr):Prop:=(∀ xs,X.H₀ a ≠ some (.tup xs))∧(∀ o u,X.H₀ a ≠ some (.frz o u))∧∀ q p,X.H₀ a ≠ some (.tbl q p)
section
variable {X:Cx} {pins:List (Addr × Obj)} {σ:L2.St} {H H':Hp} {s:Shared} {a:Addr} {kvs:List (Key × V)} {o:Obj}
theorem uF (I:L2.Inv X pins σ H s) (h:H a=some (.dK kvs)):Bw X a :=
 ⟨fun xs z=>(by rw [I.base.tups a xs z] at h;cases h),fun o u z=>(by rw [I.base.frzs a o u z] at h;cases h),fun q p z=>(by
  rw [I.base.tbls a q p z] at h;cases h)⟩
theorem Bx (I:L2.Inv X pins σ H s) (hn:Bw X a) (ha:H a ≠ none) (hb:∀ b,b ≠ a→H' b=H b) (hok:HOk X.prog X.w H' s.heap):L2.Inv X pins σ H' s:=by
 have no:∀ b,H b=none→H' b=none:=fun b z=>by
  rw [hb b (fun e=>ha (by rw [← e];exact z))]
  exact z
 refine ⟨I.ok,I.os,I.bare,⟨I.base.keep,I.base.slot,fun b o e n hx=>no b (I.base.free b o e n hx),I.base.there,fun b xs e=>?_,fun b o u e=>?_,fun b q p e=>?_⟩,I.loc,I.cell,no _ I.free,fun x c e=>no _ (I.freeC x c e),fun p hp=>?_,hok,I.len⟩
 ·rw [hb b (fun z=>hn.1 xs (by rw [← z];exact e))]
  exact I.base.tups b xs e
 ·rw [hb b (fun z=>hn.2.1 o u (by rw [← z];exact e))]
  exact I.base.frzs b o u e
 ·rw [hb b (fun z=>hn.2.2 q p (by rw [← z];exact e))]
  exact I.base.tbls b q p e
 ·obtain ⟨h1,h2,h3⟩:=I.pin p hp
  exact ⟨h1,no _ h2,h3⟩
theorem BJ (I:L2.Inv X pins σ H s) (h:H a=some (.dK kvs)) (ho:s.heap.get? a=some o):L2.Inv X pins σ (upd H a (.frz o (.dK kvs))) s:=by
 have mu:Mut (H a):=by rw [h];exact True.intro
 refine Bx I (uF I h) (by rw [h];simp) (fun b hb=>bx hb) (I.hok.write mu (.inl rfl) (fun _ _ _ q=>q) ⟨o,ho⟩ ⟨ho,?_⟩)
 exact (I.hok a _ h).stay (fun _ _ _ q=>q) (fun b q=>by rw [bx (gH q h (by intro z;cases z))];exact q) (fun b xs q=>by rw [bx (gH q h (by intro z;cases z))];exact q)
theorem xU (I:L2.Inv X pins σ H s) (hn:Bw X a) (h:H a=some (.frz o (.dK kvs))):L2.Inv X pins σ (upd H a (.dK kvs)) s:=by
 have st:∀ b u,fG X.prog X.w H s.heap b u→fG X.prog X.w (upd H a (.dK kvs)) s.heap b u:=fun b u z =>
  z.stay (fun _ _ _ q=>q) (fun c q=>by rw [bx (gH q h (by intro z;cases z))];exact q) (fun c xs q=>by rw [bx (gH q h (by intro z;cases z))];exact q)
 refine Bx I hn (by rw [h];simp) (fun b hb=>bx hb) fun b u e=>?_
 by_cases hb:b=a
 ·subst hb
  rw [bN] at e
  cases e
  exact st _ _ (I.hok b _ h).2
 ·rw [bx hb] at e
  exact st b u (I.hok b u e)
end
def Itk (o:Obj) (a:Addr) (kvs:List (Key × V)):It :=
 ⟨fun i H=>H a=some (.frz o (.dK kvs))∧i < kvs.length,fun i H x H'=>H'=H∧∃ k v,kvs[i]? = some (k,v)∧x=kV k,fun i H=>H a=some (.frz o (.dK kvs))∧kvs.length ≤ i⟩
theorem xV {σ:L2.St} {kvs:List (Key × V)} {o:Obj} {es:Array DictEntry} {ep:Nat} (I:L2.Inv X pins σ H s) (h:H a=some (.frz o (.dK kvs))) (hd:o.data = .dict es ep) :
 ∃ vs,KV kvs vs∧s.heap.DictAt (bV X.prog X.w) a vs ep:=by
 obtain ⟨ho,_,_,vs,rel,o',es',ep',e',c1,c2,c3⟩:=I.hok a _ h
 rw [ho] at e'
 cases e'
 rw [hd] at c2
 cases c2
 exact ⟨vs,rel,o,es,ho,c1,hd,c3⟩
theorem VR {k:Key} {v:Value} (h:(bV P w).is k v=true):RelV (kV k) v:=by
 rw [wO] at h
 rcases gU h with ⟨i,t,rfl,rfl⟩ | ⟨x,t,rfl,rfl⟩
 ·exact ⟨t,rfl⟩
 ·exact ⟨t,rfl⟩
theorem Eh (o:Obj) (a it:Addr) (kvs:List (Key × V)) {es:Array DictEntry} {ep:Nat} (hd:o.data = .dict es ep):Turn P w K tg (Itk o a kvs) [it] it (fun i h=>h.IsKeyIter it a i kvs.length ep) where
 mem:=by simp
 obj:=fun i h st b hb=>by
  have e:b=it:=by simpa using hb
  subst e
  obtain ⟨o,e,c,d⟩:=st
  exact ⟨o,e,fun v z=>by rw [d] at z;cases z⟩
 keep:=fun i h h' st k=>by
  obtain ⟨o,e,r⟩:=st
  exact ⟨o,k it (by simp) o e,r⟩
 item:=by
  intro X hP hw hK hc i pins s σ H E I hf st hg
  subst hP hw hK
  obtain ⟨hq,hi⟩:=hg
  obtain ⟨vs,rel,dat⟩:=xV I hq hd
  have ln:=rel.length
  rw [ln] at hi
  obtain ⟨f0,f1,f2,f3,f4,f5⟩:=hf it (by simp)
  obtain ⟨⟨k,x⟩,hx⟩:∃ p,vs[i]? = some p:=⟨vs[i],by simp [hi]⟩
  have hk:∃ v,kvs[i]? = some (k,v):=by
   have e1:(vs.map (·.1))[i]? = some k:=by rw [aR,hx];rfl
   rw [← rel.keys,aR] at e1
   cases e2:kvs[i]? with
   | none=>rw [e2] at e1;cases e1
   | some p =>
    rw [e2] at e1
    obtain ⟨k',v⟩:=p
    have:k'=k:=by simpa using e1
    subst this
    exact ⟨v,rfl⟩
  obtain ⟨v,hk⟩:=hk
  rw [ln] at st
  refine wpAny_pyNext_dict_item st dat hx fun key h' hkey hit' hs'=>?_
  have I1:L2.Inv X pins σ H { s with heap:=h' }:=I.turned (t':=s.toks) (fun b o hb e=>(hs'.2 b hb).trans e) f0 f1 f3 f4 f5
  obtain ⟨oi,e,c,d⟩:=id hit'
  exact ⟨key,rfl,C_ (s:={ s with heap:=h' }) e c d (by decide) ⟨kV k,H,I1,VR hkey,⟨rfl,k,v,hk,rfl⟩,by rw [ln];exact hit',fun b hb=>(hf b hb).1⟩⟩
 done:=by
  intro X hP hw hK hc i pins s σ H E I hf st hg
  subst hP hw hK
  obtain ⟨hq,hi⟩:=hg
  obtain ⟨vs,rel,dat⟩:=xV I hq hd
  have ln:=rel.length
  rw [ln] at st hi
  obtain ⟨f0,f1,f2,f3,f4,f5⟩:=hf it (by simp)
  exact wpAny_pyNext_dict_end (I.ok.hd hc) st dat (bH hi) fun h' eb=>⟨rfl,I.turned (t':=s.toks) (fun b o hb e=>eb b o hb e) f0 f1 f3 f4 f5⟩
 self:=fun _ _ _ _ _ st h=>wpAny_pyIter_keyiter st h
def Yg (X:Cx) (tl:TE):TI:=fun σ H R=>tl σ H fun x H1=>∃ a kvs,x = .ref a∧((H1 a=some (.dK kvs)∧∀ o,Bw X a→R (Itk o a kvs) (upd H1 a (.frz o (.dK kvs))))∨∃ o,H1 a=some (.frz o (.dK kvs))∧R (Itk o a kvs) H1)
theorem V0 {l:Expr} (hl:PE X l tl):PI X tg l (Yg X tl):=by
 intro pins s σ H R I h
 refine thn (hl pins s σ H _ I h) fun v s1 ⟨x,H1,I1,r1,q1⟩=>?_
 obtain ⟨a,kvs,e,q⟩:=q1
 subst e
 cases r1
 have rd:L2.Rd H1 a (.dK kvs):=q.elim (fun z=>.inl z.1) (fun ⟨o,z,_⟩=>.inr ⟨o,z⟩)
 obtain ⟨_,lo,vs,rel,ob,es,ep,eo,c1,hd,c3⟩:=zY I1.hok rd
 have dat:s1.heap.DictAt (bV X.prog X.w) a vs ep:=⟨ob,es,eo,c1,hd,c3⟩
 refine wpAny_pyIter_dict lo dat ?_
 have Ip:L2.Inv X pins σ H1 { s1 with heap:=s1.heap.push { cls:=.type "dict_keyiterator", data:=.fields #[.ref a,.int 0 0,.int vs.length 0,.int ep 0] } }:=I1.kept (t':=s1.toks) fun b o e=>Heap.get?_push_of_some _ e
 have st:(s1.heap.push { cls:=.type "dict_keyiterator", data:=.fields #[.ref a,.int 0 0,.int vs.length 0,.int ep 0] }).IsKeyIter s1.heap.objs.size a 0 kvs.length ep:=⟨_,Heap.get?_push_size _ rfl,rfl,by rw [rel.length];rfl⟩
 have fr:H1 s1.heap.objs.size=none:=I1.hok.fresh (aL _)
 rcases q with ⟨hq,q⟩ | ⟨o,hq,q⟩
 ·refine ⟨s1.heap.objs.size,[s1.heap.objs.size],_,_,_,rfl,BJ Ip hq (Heap.get?_push_of_some _ eo),Eh ob a _ kvs hd,st,fun b hb=>?_,q ob (uF I1 hq)⟩
  have e:b=s1.heap.objs.size:=by simpa using hb
  subst e
  refine I1.fpOk (aL _) ?_
  rw [bx (fun z=>by rw [z,hq] at fr;cases fr)]
  exact fr
 ·have eq:ob=o:=by
   have:=(I1.hok a _ hq).1
   rw [eo] at this
   exact cJ.inj this
  subst eq
  refine ⟨s1.heap.objs.size,[s1.heap.objs.size],_,_,_,rfl,Ip,Eh ob a _ kvs hd,st,fun b hb=>?_,q⟩
  have e:b=s1.heap.objs.size:=by simpa using hb
  subst e
  exact I1.fpOk (aL _) fr
section
variable {K:PySem.W.Frag} {H:Hp} {a:Addr} {kvs:List (Key × V)} {o:Obj}
mutual
theorem xW {ok:Ok} (h:H a=some (.dK kvs)):∀ {v:V} {d:D},RA K ok true H v d→RA K ok true (upd H a (.frz o (.dK kvs))) v d
 | _,_,.non=>.non
 | _,_,.bl b=>.bl b
 | _,_,.int i=>.int i
 | _,_,.str x=>.str x
 | _,_,.lst e k q=>.lst (by rw [bx (gH e h (by intro z;cases z))];exact e) k (nR h q)
 | _,_,.lsk e k q=>.lsk (by
  rcases e with ⟨o',e⟩ | e
  ·exact .inl ⟨o',by rw [bx (gH e h (by intro z;cases z))];exact e⟩
  ·exact .inr e) k (nR h q)
 | _,_,.tup e q=>.tup (by unfold iW;rw [bx (gH e h (by intro z;cases z))];exact e) (nR h q)
 | _,_,.dic (a:=b) e g k=>by
  by_cases hb:b=a
  ·subst hb
   have g':=g.upd (o:=.frz o (.dK kvs)) h
   rw [h] at e
   exact .dik (by rw [bN];injection e with e;rw [e]) g' rfl
  ·exact .dic (by rw [bx hb];exact e) (g.upd h) k
 | _,_,.dik e g k=>.dik (by rw [bx (gH e h (by intro z;cases z))];exact e) (g.upd h) k
theorem nR {ok:Ok} (h:H a=some (.dK kvs)):∀ {v:List V} {d:List D},RAs K ok true H v d→RAs K ok true (upd H a (.frz o (.dK kvs))) v d
 | _,_,.nil=>.nil
 | _,_,.cons e q=>.cons (xW h e) (nR h q)
end
mutual
theorem BK {ok:Ok} (h:H a=some (.frz o (.dK kvs))):∀ {v:V} {d:D},RA K ok false H v d→RA K ok false (upd H a (.dK kvs)) v d
 | _,_,.non=>.non
 | _,_,.bl b=>.bl b
 | _,_,.int i=>.int i
 | _,_,.str x=>.str x
 | _,_,.lst e k q=>.lst (by rw [bx (gH e h (by intro z;cases z))];exact e) k (mj h q)
 | _,_,.lsk e k q=>by cases k
 | _,_,.tup e q=>.tup (by unfold iW;rw [bx (gH e h (by intro z;cases z))];exact e) (mj h q)
 | _,_,.dic e g k=>.dic (by rw [bx (gH e h (by intro z;rcases g.or with ⟨ks,y⟩ | ⟨ks,y⟩ <;> (rw [y] at z;cases z)))];exact e) (g.imp fun _ _ t=>by unfold iW;rw [bx (gH t h (by intro z;cases z))];exact t) k
 | _,_,.dik e _ k=>by cases k
theorem mj {ok:Ok} (h:H a=some (.frz o (.dK kvs))):∀ {v:List V} {d:List D},RAs K ok false H v d→RAs K ok false (upd H a (.dK kvs)) v d
 | _,_,.nil=>.nil
 | _,_,.cons e q=>.cons (BK h e) (mj h q)
end
end
section
variable {X:Cx} {fl fl':List Fl} {e b c elt tg iter:Expr} {es ifs:List Expr} {k:Kd} {f fa fb fc fx:FE} {ft gt:FT} {pos:Pos} {scope:Scope} {ix L TT:List Nat} {fi:FA} {g:FG}
theorem uG {σ:L2.St} {Q:VK} {t:Nat} {r:List D} {J:It} {Dl:Addr} {tb:Tb H1} (htg:∀ j ∈ TT,j < t) (R:Rel X.K fl' ⟨H1,H1,fun _=>none,fun _=>[],tb⟩ ow0 (qj t ix σ) H1 (iw t ix δ))
 (hl:l.length ≤ 100000) (e3:jM g ft f (iw t ix δ) l=some r) (hD:H1 Dl=none)
 (wk:∀ H2,Same H1 H2→∀ i:Nat,(∀ d,l[i]? = some d→J.go i H2∧∀ x H3,J.yld i H2 x H3→Same H2 H3∧RA X.K ok1 true H3 x d)∧(l.length ≤ i→J.stop i H2))
 (q:∀ H2 xs,Same H1 H2→H2 Dl=some (.lst xs)→RAs X.K (fun b=>okN H1 b∧b ≠ Dl) false H2 xs r→Q (.ref Dl) H2) :
 ∃ W:Nat→Nat→List V→Hp→Prop,(∃ m,W 0 m [] (upd H1 Dl (.lst []))) ∧
  ∀ i m xs H2,W i m xs H2→H2 Dl=some (.lst xs)∧((J.stop i H2∧Q (.ref Dl) H2)∨(J.go i H2∧xs.length < sizeLine∧∀ x H3,J.yld i H2 x H3→tDG X.K fl' TT g x (qj t ix σ) H3 fun σ4 H4=>σ4.drop t=(qj t ix σ).drop t ∧
   tDT X.K fl' ft σ4 H4 fun b H5=>if b=true then tD X.K fl' .C f σ4 H5 fun v H6=>H6 Dl=some (.lst xs)∧∃ m',m' < m∧W (i + 1) m' (xs++[v]) (upd H6 Dl (.lst (xs++[v]))) else ∃ m',m' < m∧W (i + 1) m' xs H5)):=by
 let okD:Ok:=fun b=>okN H1 b∧b ≠ Dl
 refine ⟨fun i m xs H2=>m=l.length - i∧H2 Dl=some (.lst xs)∧Same H1 H2∧xs.length ≤ i∧i ≤ l.length∧∃ ds rest,RAs X.K okD false H2 xs ds∧jM g ft f (iw t ix δ) (l.drop i)=some rest∧r=ds++rest,
  ⟨_,rfl,bN,cH hD _,aL _,cY _,[],r,.nil,by simpa using e3,rfl⟩,?_⟩
 rintro i m xs H2 ⟨rfl,hDl,s2,hxl,hil,ds,rest,hr,hc,rfl⟩
 refine ⟨hDl,?_⟩
 obtain ⟨w1,w2⟩:=wk H2 s2 i
 by_cases hlt:i < l.length
 ·have hdrop:l.drop i=l[i] :: l.drop (i + 1):=j8 hlt
  rw [hdrop,jM] at hc
  obtain ⟨δ1,e5,hc⟩:=bind1 hc
  obtain ⟨bb,e6,hc⟩:=bind1 hc
  obtain ⟨go,yl⟩:=w1 l[i] (aO hlt)
  refine .inr ⟨go,sX (bh hxl (bh hil hl)) (by decide),fun x H3 hy=>?_⟩
  obtain ⟨s3,r3⟩:=yl x H3 hy
  have s13:=s2.trans s3
  have Rb:=R.grow s13
  refine ⟨_,_,_,_,δ1,Rb,r3.imp (fun _ _=>⟨fun i z=>(by cases z),fun i z=>(by cases z)⟩) (fun z=>z),e5,fun σ4 R4 keep4=>⟨?_,?_⟩⟩
  ·apply gb
   intro n
   rw [eE,eE]
   exact keep4 (t + n) fun z=>absurd (htg _ z) (by omega)
  ·refine ⟨_,_,δ1,bb,R4,e6,fun H5 s5=>?_⟩
   cases bb with
   | false =>
    rw [if_neg cg] at hc ⊢
    have s35:=s3.trans s5
    exact ⟨l.length - (i + 1),by omega,rfl,s35 _ _ hDl,s2.trans s35,by omega,hlt,ds,rest,hr.same s35,hc,rfl⟩
   | true =>
    rw [if_pos rfl] at hc ⊢
    obtain ⟨y,e7,hc⟩:=bind1 hc
    obtain ⟨l',e8,hc⟩:=bind1 hc
    cases hc
    refine ⟨_,_,δ1,y,R4.grow s5,e7,fun v H6 s6 r6=>?_⟩
    have s35:=s3.trans s5
    have s36:=s35.trans s6
    refine ⟨s36 _ _ hDl,l.length - (i + 1),by omega,rfl,bN,?_,by rw [aW,ig];omega,hlt,ds++[y],l',?_,e8,by simp⟩
    ·intro b o hb
     rw [bx (fun z=>by subst z;rw [hD] at hb;cases hb)]
     exact (s2.trans s36) b o hb
    ·have nd:¬ okD Dl:=fun z=>z.2 rfl
     have s05:Same H1 H5:=s2.trans s35
     have ry:RA X.K okD false H6 v y:=RA.imp (fun b z=>⟨s05.free z,fun e=>by subst e;rw [okN,s35 _ _ hDl] at z;cases z⟩) (fun z=>z) r6
     exact ((hr.same s36).append (.cons ry .nil)).upd (s36 _ _ hDl) nd
 ·have ed:l.drop i=[]:=lK (by omega)
  rw [ed,jM] at hc
  cases hc
  refine .inl ⟨w2 (by omega),?_⟩
  rw [fD] at q
  exact q H2 xs s2 hDl hr
theorem Nb {o:Obj} (h:H1 a=some (.frz o (.dK (dkI qs)))):∀ H2,Same H1 H2→∀ i:Nat,(∀ d,(qs.map fun q=>(.int q.1:D))[i]? = some d→(Itk o a (dkI qs)).go i H2∧∀ x H3,(Itk o a (dkI qs)).yld i H2 x H3→Same H2 H3∧RA K ok1 true H3 x d)∧((qs.map fun q=>(.int q.1:D)).length ≤ i→(Itk o a (dkI qs)).stop i H2):=by
 intro H2 s2 i
 refine ⟨fun d hd=>?_,fun hi=>⟨s2 _ _ h,by simpa using hi⟩⟩
 rw [aR] at hd
 cases e:qs[i]? with
 | none=>rw [e] at hd;cases hd
 | some p =>
  rw [e] at hd
  cases hd
  have hi:i < qs.length:=by
   rcases d_ i qs.length with z | z
   ·exact z
   ·rw [bH z] at e;cases e
  refine ⟨⟨s2 _ _ h,by simpa using hi⟩,fun x H3 hy=>?_⟩
  obtain ⟨rfl,k,v,hk,rfl⟩:=hy
  rw [aR,e] at hk
  cases hk
  exact ⟨Same.refl _,.int _⟩
def Ja (X:Cx) (Q:VK):VK:=fun v H2=>Q v H2∨∃ a o kvs,Bw X a∧H2 a=some (.frz o (.dK kvs))∧Q v (upd H2 a (.dK kvs))
theorem Ry {σ:L2.St} {H:Hp} {Q:VK} {T:List Str} (hfl:∀ i,i < T.length + ix.length→fl'[i]? = some .A) (htg:∀ j ∈ TT,j < T.length) (h:tD X.K fl .FC (gW (Eb fx) g ft f T.length ix) σ H Q) :
 zF (Yg X (tD X.K fl .P fx)) (tDG X.K fl' TT g) (tDT X.K fl' ft) (tD X.K fl' .C f) T.length (qj T.length ix) σ H (Ja X Q):=by
 obtain ⟨G,ow,δ,d,R,hf,q⟩:=h
 obtain ⟨l,e1,e2⟩:=bind1 hf
 by_cases hl:l.length ≤ 100000
 case neg=>rw [if_neg hl] at e2;cases e2
 rw [if_pos hl] at e2
 obtain ⟨r,e3,e4⟩:=bind1 e2
 cases e4
 obtain ⟨x,e5,e6⟩:=bind1 e1
 cases e7:M4 x with
 | none=>rw [e7] at e6;cases e6
 | some qs =>
 rw [e7] at e6
 cases e6
 refine ⟨G,ow,δ,x,R,e5,fun v H1 s1 r1=>?_⟩
 have R1:=R.grow s1
 have C1:=Bc (fl':=fl') T.length ix hfl R1 (Same.refl H1)
 obtain ⟨a,rfl,hr⟩:=M_ e7 r1
 refine ⟨a,dkI qs,rfl,?_⟩
 rcases hr with hr | ⟨o,hr⟩
 ·refine .inl ⟨hr,fun o lo Dl hD=>?_⟩
  have hDa:Dl ≠ a:=fun z=>by rw [z,bN] at hD;cases hD
  have tb2:Tb (upd H1 a (.frz o (.dK (dkI qs)))):=fun t ht=>by rw [bx (gH (C1.tb t ht) hr (by simp))];exact C1.tb t ht
  have C2:Rel X.K fl' ⟨upd H1 a (.frz o (.dK (dkI qs))),upd H1 a (.frz o (.dK (dkI qs))),fun _=>none,fun _=>[],tb2⟩ ow0 (qj T.length ix σ) (upd H1 a (.frz o (.dK (dkI qs)))) (iw T.length ix δ):=by
   refine ⟨Same.refl _,Same.refl _,C1.len,fun i b h=>(by cases h),fun i j b h=>(by cases h),fun i h=>rfl,fun i d h1 hn h2=>?_,C1.oo,fun i b h=>(by cases h),fun i j b h=>(by cases h),fun i j b h=>(by cases h),fun i h=>rfl,fun i d hn h1=>?_⟩
   ·obtain ⟨v,h3,h4⟩:=C1.dat i d h1 hn h2
    exact ⟨v,h3,xW hr h4⟩
   ·have hi:i < T.length + ix.length:=by
     have h2:i < (iw T.length ix δ).length:=by
      rcases d_ i (iw T.length ix δ).length with z | z
      ·exact z
      ·rw [bH z] at h1;cases h1
     unfold iw at h2
     simpa using h2
    rw [hfl i hi] at hn
    cases hn
  refine uG (Q:=Ja X Q) htg C2 hl e3 hD (Nb bN) fun H2 xs s2 hDl rs=>Or.inr ⟨a,o,dkI qs,lo,s2 _ _ bN,?_⟩
  have sm:Same H (upd H2 a (.dK (dkI qs))):=fun b u hb=>by
   by_cases z:b=a
   ·subst z
    have:=s1 _ _ hb
    rw [hr] at this
    rw [bN]
    exact this
   ·rw [bx z]
    exact s2 b u (by rw [bx z];exact s1 b u hb)
  refine q _ _ sm (.inr ⟨Dl,xs,r,rfl,rfl,s1.free (by rw [bx hDa] at hD;exact hD),by rw [bx hDa];exact hDl,?_⟩)
  refine (mj (s2 _ _ bN) rs).imp (fun b z=>⟨?_,z.2⟩) (fun z=>z)
  have z1:=z.1
  unfold okN at z1 ⊢
  have hb:b ≠ a:=fun w=>by rw [w,bN] at z1;cases z1
  rw [bx hb] at z1
  exact s1.free z1
 ·refine .inr ⟨o,hr,fun Dl hD=>?_⟩
  have C2:Rel X.K fl' ⟨H1,H1,fun _=>none,fun _=>[],C1.tb⟩ ow0 (qj T.length ix σ) H1 (iw T.length ix δ):=C1
  refine uG (Q:=Ja X Q) htg C2 hl e3 hD (Nb hr) fun H2 xs s2 hDl rs=>Or.inl (q _ _ (s1.trans s2) (.inr ⟨Dl,xs,r,rfl,rfl,s1.free hD,hDl,rs.imp (fun b z=>⟨s1.free z.1,z.2⟩) (fun z=>z)⟩))
theorem Nf (hc:X.calm=true) (T Vn:List Str) (ix:List Nat) (hi:DE X fl .P iter fx)
 (hg:∀ cl C s3 H3 fp,DG (blk X (T++Vn) scope cl C s3 H3 fp) fl' TT tg g) (ht:∀ cl C s3 H3 fp,PTs (blk X (T++Vn) scope cl C s3 H3 fp) ifs (tDT X.K fl' ft)) (he:∀ cl C s3 H3 fp,DE (blk X (T++Vn) scope cl C s3 H3 fp) fl' .C elt f)
 (hfl:∀ i,i < T.length + ix.length→fl'[i]? = some .A:=by decide) (htg:∀ j ∈ TT,j < T.length:=by decide)
 (hB:uP X.N X.env.scope.names scope.names Vn ix=true:=by rfl) (hk:scope.kind = .function:=by rfl) (hcell:∀ y ∈ scope.names,y.2 ≠ .cell:=by decide +kernel)
 (hnames:∀ x ∈ scope.names,x.2 = .local→scope.names.lookup x.1=some .local:=by decide +kernel)
 (hfr:∀ x ∈ scope.names,x.2 = .free→x.1 ∈ Vn:=by decide +kernel) (hs:∀ x,foldedSetIterable iter X.env x=pure x:=by intro _;rfl) :
 DE X fl .FC (.ListComp elt [⟨tg,iter,ifs,0⟩] scope pos) (gW (Eb fx) g ft f T.length ix):=by
 intro pins s σ H Q I h
 have run:=Ax (g:=tDG X.K fl' TT g) (tt:=tDT X.K fl' ft) (te:=tD X.K fl' .C f) (pos:=pos) hc T Vn ix (V0 hi) hg ht he hB hk hcell hnames hfr hs pins s σ H (Ja X Q) I (Ry hfl htg h)
 refine thn run fun v s' ⟨x,H2,I2,rx,hq⟩=>?_
 rcases hq with hq | ⟨a,o,kvs,lo,ha,hq⟩
 ·exact ⟨x,H2,I2,rx,hq⟩
 ·exact ⟨x,_,xU I2 lo ha,rx,hq⟩
end
end XK
namespace XK
open PySem PyProof.Rows
abbrev ZX (h:Heap) (z a0 TI TO:Addr) (b:Bool):Prop :=
 h.get? z=some { cls:=.type "zip", dict:=none,data:=.fields #[rawInt a0,.bool b,.bool false,.ref TI,.ref TO],slots:=#[] }
section
variable {prog:Program} {w:World} {A:Around} {E:Value→Shared→Prop} {s:Shared}
end
end XK
namespace XK
open PySem PyProof.Rows
structure LZ (h:Heap) (base:Nat) (z TI TO i1 i2 l1 l2 S:Addr) (xs ys:Array Value) (i:Nat) (acc:Array Value):Prop where
 ti:IsPair h TI (.ref i1) (.ref i2)
 j1:h.IsListIter i1 l1 i
 j2:h.IsListIter i2 l2 i
 q1:h.IsList l1 xs
 q2:h.IsList l2 ys
 zz:(i=0∧IsZip h z TI TO .none∧∃ a b,IsPair h TO a b)∨∃ a0 b o0,base ≤ a0∧ZX h z a0 TI TO b∧h.get? a0=some o0
 sz:base ≤ h.objs.size
 al:acc.size=i
 ac:∀ j,j < i→∃ a x y,acc[j]? = some (.ref a)∧base ≤ a∧xs[j]? = some x∧ys[j]? = some y∧IsPair h a x y
 inj:∀ (j j':Nat) (a:Addr),acc[j]? = some (.ref a)→acc[j']? = some (.ref a)→j=j'
 ss:∃ c,h.get? S=some { cls:=.type "list", dict:=none,data:=.seq acc c,slots:=#[] }
section
variable {prog:Program} {w:World} {A:Around} {R:Result→Shared→Prop} {z TI TO i1 i2 l1 l2 S:Addr} {xs ys:Array Value} {base:Nat}
end
end XK
namespace XK
open PySem PyProof.Rows
section
variable {prog:Program} {w:World} {A:Around} {E:Value→Shared→Prop} {s:Shared}
end
end XK
namespace XK
open PySem PySem.Spec PyProof.Rows L2 My D3
section
variable {X:Cx} {fl:List Fl} {a b:Expr} {f g:FE} {p p2 pos pos2:Pos}
end
end XK
namespace XK
open PySem PyProof.Rows
section
variable {prog:Program} {w:World} {A:Around} {R:Result→Shared→Prop} {I:Addr} {fp wr:List Addr} {n:Nat} {P:Nat→Value→Prop} {St:Nat→Heap→Prop} {kw:List (Str × Value)}
end
section
variable {prog:Program} {w:World} {A:Around} {E:Value→Shared→Prop} {s:Shared}
end
end XK
namespace XK
open PySem PySem.Spec PyProof.Rows L2 My D3
section
variable {X:Cx} {fl:List Fl} {e z:Expr} {fa:FA} {fz:FE} {p pos kpos:Pos}
variable {a:Expr} {f:FE} {ta:TE}
end
end XK
namespace XK
open PySem PySem.Spec PyProof.Rows L2 My D3
section
variable {K:PySem.W.Frag} {H:Hp}
end
section
variable {X:Cx} {fl:List Fl} {e k1 k2:Expr} {f f1 f2:FE} {pos:Pos}
end
end XK
namespace XK
open PySem PySem.Spec PyProof.Rows L2 My D3
section
variable {X:Cx}
end
end XK
namespace XT
open PySem PySem.Spec PyProof.Rows L2 My D3 XK
def dtI (S:List (List Int)):List (List Key × V):=S.map fun k=>(k.map .inl,.bl true)
theorem Ei:∀ {l:List D} {k:List Int},dh l=some k→tkK l=some (k.map .inl)
 | [],k,h=>by cases h;rfl
 | d :: l,k,h=>by
  cases d with
  | int i =>
   unfold dh at h
   cases e:dh l with
   | none=>rw [e] at h;cases h
   | some r =>
    rw [e] at h
    cases h
    rw [tkK,Ei e]
    rfl
  | _=>unfold dh at h;cases h
theorem Ng:∀ {kvs:List (D × D)} {S:List (List Int)},tsD kvs=some S→tkD kvs=some (dtI S)
 | [],S,h=>by cases h;rfl
 | (a,b) :: r,S,h=>by
  unfold tsD at h
  split at h
  ·next e=>cases e
  ·next l r' e =>
   cases e
   obtain ⟨k,e1,e2⟩:=bind1 h
   cases e3:tsD r with
   | none=>rw [e3] at e2;cases e2
   | some S' =>
    rw [e3] at e2
    cases e2
    rw [tkD,Ei e1,Ng e3]
    rfl
  ·cases h
theorem GX {S:List (List Int)} (h:tsD kvs=some S) (hS:S ≠ []):kvs ≠ []:=fun z=>by
 subst z
 cases h
 exact hS rfl
theorem u_:∀ {kvs:List (D × D)} {S:List (List Int)},tsD kvs=some S→xq kvs=true
 | [],_,_=>rfl
 | (a,b) :: r,S,h=>by
  unfold tsD at h
  split at h
  ·next e=>cases e
  ·next e =>
   cases e
   cases e3:tsD r with
   | none=>simp [e3] at h
   | some S=>exact (show xq r=true from u_ e3)
  ·cases h
theorem xX {S:List (List Int)} (h:tsD kvs=some S) (hS:S ≠ []):dh0 kvs = .dT (dtI S):=by
 have:=GX h hS
 cases kvs with
 | nil=>exact absurd rfl this
 | cons q r =>
  unfold dh0
  dsimp only
  rw [Ng h]
theorem xY {ok:Ok}:∀ {xs:List V} {l:List D} {k:List Int},RAs K ok pl H xs l→dh l=some k→xs=(k.map Sum.inl).map kV
 | _,_,k,.nil,h=>by cases h;rfl
 | _,_,k,.cons (d:=d) a q,h=>by
  cases d with
  | int i =>
   unfold dh at h
   cases e:dh _ with
   | none=>rw [e] at h;cases h
   | some r =>
    rw [e] at h
    cases h
    rw [a.intE,xY q e]
    rfl
  | _=>unfold dh at h;cases h
theorem uH {ok:Ok} {k:List Int} (e:yR y=some k) (r:RA K ok pl H v y):∃ b,v = .ref b∧H b=some (.tup ((k.map Sum.inl).map kV)):=by
 cases y with
 | tuple l =>
  obtain ⟨b,xs,rfl,h1,h2⟩:=r.tupE0
  rw [← xY h2 e]
  exact ⟨b,rfl,h1⟩
 | _=>cases e
theorem Rz {ok:Ok} {x:D} {S:List (List Int)} (e:M5 x=some S) (hS:S ≠ []) (r:RA K ok pl H v x):∃ a,v = .ref a∧L2.Rd H a (.dT (dtI S)):=by
 cases x with
 | dict kvs =>
  obtain ⟨a,rfl,h⟩:=r.dicE (u_ e)
  rw [xX e hS] at h
  exact ⟨a,rfl,h⟩
 | _=>cases e
theorem wF:∀ {k k':List Int},k.map (Sum.inl:Int→Key)=k'.map Sum.inl→k=k'
 | [],[],_=>rfl
 | [],_ :: _,h=>by cases h
 | _ :: _,[],h=>by cases h
 | a :: k,b :: k',h=>by
  rw [aP,aP] at h
  injection h with h1 h2
  injection h1 with h1
  rw [h1,wF h2]
theorem Nh (S:List (List Int)) (k:List Int):putK (dtI S) (k.map Sum.inl) (.bl true)=dtI (jc S k):=by
 unfold putK jc dtI
 have e:((S.map fun k=>((k.map Sum.inl,V.bl true):List Key × V)).any fun q=>decide (q.1=k.map Sum.inl))=decide (k ∈ S):=by
  induction S with
  | nil=>rfl
  | cons q S ih =>
   rw [aP,mW,ih]
   by_cases h:q=k
   ·subst h;simp
   ·have h2:¬ k=q:=fun z=>h z.symm
    have h3:¬ q.map (Sum.inl:Int→Key)=k.map Sum.inl:=fun z=>h (wF z)
    simp [h2,h3]
 rw [e]
 by_cases h:k ∈ S
 ·rw [dTr h,if_pos rfl,if_pos h,fO]
  refine dU fun q _=>?_
  show (if q.map Sum.inl=k.map Sum.inl then (q.map Sum.inl,V.bl true) else (q.map Sum.inl,V.bl true))=_
  split <;> rfl
 ·rw [dFa h,if_neg cg,if_neg h,cT]
  rfl
section
variable {K:PySem.W.Frag} {fl:List Fl}
theorem Ni {σ:L2.St} {x:D} {S:List (List Int)} (R:Rel K fl G ow σ H δ) (hfl:fl[i]? = some .N) (hx:aD i δ=some x) (hq:M5 x=some S) (hS:S ≠ []) :
 ∃ a,σ[i]? = some (some (.ref a))∧H a=some (.dT (dtI S))∧∀ H',Same H H'→∀ S',S' ≠ []→∃ ow',Rel K fl G ow' σ (upd H' a (.dT (dtI S'))) (δ.set i (some (.d (dsT S')))):=by
 have e:=mX hx
 have hi:i < δ.length:=by
  rcases d_ i δ.length with z | z
  ·exact z
  ·rw [bH z] at e;cases e
 obtain ⟨v,h1,h2,h3⟩:=R.nr i x (by rw [hfl];rfl) e
 generalize hN:ow.n i=as at h2 h3
 cases h2 with
 | dic ha hg =>
  rename_i a u kvs
  rw [hg.old (u_ hq)] at ha
  have ha':=ha
  rw [xX hq hS] at ha'
  refine ⟨a,h1,ha',fun H' s S' hS'=>?_⟩
  refine (R.grow s).mutN (as:=[a]) hfl hi (by rw [hN];exact eN _) (s _ _ ha) h1 ?_ (fun b hb=>by rw [hN];exact hb) (dJ.mpr ⟨eG,.nil⟩)
  refine .dic bN (.inl ⟨u_ (uE S'),?_⟩)
  rw [xX (uE S') hS']
 | non=>cases hq
 | bl _=>cases hq
 | int _=>cases hq
 | str _=>cases hq
 | lst _ _=>cases hq
 | tup _ _=>cases hq
end
def Ue:V→V→V→Hp→(Hp→Prop)→Prop:=fun o i v H Q=>∃ p kvs k b,o = .ref p∧i = .ref b∧H p=some (.dT kvs)∧H b=some (.tup (kE kV k))∧kvs.length < sizeLine∧Q (upd H p (.dT (putK kvs k v)))
section
variable {X:Cx} {fl:List Fl} {e a b c ke:Expr} {f fa fb fc fk:FE} {pos:Pos}
theorem Nj (hu:X.A.units + 1 < cLine):Qq X Ue:=by
 intro pins s σ H o i v ov iv u Q I ro ri rv h
 obtain ⟨p,kvs,k,b,rfl,rfl,hp,hb,hl,q⟩:=h
 cases ro
 exact zZ hu I (GR.t hp hb hl) ri rv fun s' I'=>⟨_,I',q⟩
end
end XT
namespace XT
open PySem PySem.Spec PyProof.Rows L2 My D3 XK
end XT
namespace XV
open PySem PySem.Spec PyProof.Rows L2 My D3
section
variable {K:PySem.W.Frag} {fl:List Fl}
end
end XV
namespace XB
open PySem PySem.Spec PyProof.Rows L2 My D3 XK
section
variable {K:PySem.W.Frag} {fl:List Fl}
end
section
variable {X:Cx} {fl:List Fl} {e a b c ke:Expr} {f fa fb fc fk:FE} {pos:Pos}
end
end XB
namespace XB
open PySem PySem.Spec PyProof.Rows L2 My D3 XK
section
variable {X:Cx} {fl:List Fl} {e:Expr} {pos:Pos}
theorem BL (hc:X.calm=true):lQ X (.builtin "sorted") (fun xs H Q=>∃ (p:Addr) (ks:List (Key × V)) (is:List Int),xs=[.ref p]∧L2.Rd H p (.dK ks)∧ks.map (·.1)=is.map Sum.inl∧is.length < 64∧∀ l,H l=none→Q (.ref l) (upd H l (.lst ((yN is).map V.int)))):=by
 intro pins s σ H xs us Q I r h
 obtain ⟨p,ks,is,rfl,hx,hK,h64,q⟩:=h
 obtain ⟨u,rfl,rx⟩:=vals1 r
 cases rx
 obtain ⟨_,hd,vs,rel,dd⟩:=zY I.hok hx
 obtain ⟨ep,hat⟩:=dd.dictAt
 have hv:vs.map (·.1)=is.map Sum.inl:=by rw [← rel.keys];exact hK
 have hlen:vs.length=is.length:=by
  have:=congrArg lB hv
  rwa [aC,aC] at this
 refine Calls.call_function_entry kind_sorted plain_sorted entry_sorted (args_sorted1 _) ?_
 unfold Builtin.«sorted»
 refine wpAny_bind (m:=checkCount "sorted" 1 1 _) (wpAny_pure ?_)
 refine wpAny_bind (PySem.W.kdu_collect (A:=X.A.in1) (PySem.W.kdl_dict (knd:=bV X.prog X.w) (kvs:=vs) (ep:=ep) hd) (I.ok.hd hc) hat (by rw [hlen];exact bh (dj h64) (by decide)) fun h' tk acc hk hacc=>?_)
 have hl:acc.toList.length=is.length:=by rw [cj,hacc.1,hlen]
 have hI:IntsAre acc.toList is:=I_ _ _ hl fun j v hv'=>by
  obtain ⟨k,x,hkx,his⟩:=hacc.2 j v (by rw [← iu];exact hv')
  have e1:(vs.map (·.1))[j]? = some k:=by rw [aR,hkx];rfl
  rw [hv,aR] at e1
  cases e2:is[j]? with
  | none=>rw [e2] at e1;cases e1
  | some i =>
   rw [e2] at e1
   have e3:k=Sum.inl i:=by
    cases e1
    rfl
   subst e3
   rw [wO] at his
   obtain ⟨t,rfl⟩:∃ t,v=Value.int i t:=Value.isInt_shape his
   exact ⟨i,t,rfl,rfl⟩
 have I1:L2.Inv X pins σ H { s with heap:=h',toks:=tk }:=I.kept hk
 refine wpAny_bind (wpAny_newList ?_ (by rw [hl];exact bh (dj h64) (by decide)))
 have hoL:(h'.push (seqObj "list" acc.toList.toArray 0)).get? h'.objs.size=some (seqObj "list" acc.toList.toArray 0):=Heap.get?_push_size _ rfl
 show wpAny _ _ _ _ _ { s with heap:=h'.push (seqObj "list" acc.toList.toArray 0),toks:=tk }
 refine wpAny_bind (wpAny_holding (wpAny_call_entry slot_list_sort ⟨_,hoL,rfl⟩ entry_list_sort (list_sort_tree hoL hI (by rw [hl];exact h64) fun out ns' a1 a2 a3=>⟨_,rfl,?_⟩) (args_list_sort _)))
 refine wpAny_pure ⟨_,rfl,?_⟩
 obtain rfl:=uX (a2.trans (pO _).symm) a3 (rD _)
 obtain ⟨e,he⟩:=sortedHeap_at (out:=out) hoL
 have hn:H h'.objs.size=none:=I1.hok.fresh (aL _)
 have ll:(yN is).length=is.length:=(pO _).length_eq
 have I2:=I1.laid (h':=sortedHeap (h'.push (seqObj "list" acc.toList.toArray 0)) h'.objs.size acc.toList out) (t':=tk) (a:=h'.objs.size) (o:=.lst ((yN is).map V.int)) (fun b u e=>by
  have hlt:=Heap.lt_size e
  rw [sortedHeap_old (aQ hlt) (by rw [size_push'];exact oU hlt)]
  exact Heap.get?_push_of_some _ e) (aL _)
  ⟨by rw [aC,ll];exact bh (dj h64) (by decide),out.toList,e,D3.nW a1,by simpa [seqObj] using he⟩
 exact ⟨.ref _,_,I2,rfl,q _ hn⟩
end
end XB
namespace XD
open PySem PySem.Spec PyProof.Rows L2 My D3 XK
section
variable {X:Cx} {fl:List Fl} {e a b c ke ve:Expr} {f fa fb fc fk fv:FE} {pos:Pos}
end
section
variable {K:PySem.W.Frag} {fl:List Fl}
end
section
variable {X:Cx} {pins:List (Addr × Obj)} {σ:L2.St} {H:Hp} {s:Shared} {a:Addr} {kvs:List (Key × V)} {k:Key} {z:V} {u r:Value} {A:Around} {E:Value→Shared→Prop}
end
section
variable {X:Cx} {o e f:Expr} {apos cpos:Pos} {td ty tx:TE}
end
section
variable {X:Cx} {fl:List Fl} {ke ve:Expr} {fk fv:FE} {pos:Pos}
theorem set_same (h:δ[i]? = some (some (.d y))):δ.set i (some (.d y))=δ:=by
 apply gb
 intro j
 rw [tX]
 split
 ·next z =>
  subst z
  split
  ·exact h.symm
  ·next z=>rw [bH (Nat.le_of_not_lt z)] at h;cases h
 ·rfl
end
end XD
namespace TD
open PySem PySem.Spec PyProof.Rows
section
variable {prog:Program} {w:World} {A:Around} {E:Value→Shared→Prop} {s:Shared} {d it:Addr} {es:Array DictEntry} {i ep:Nat}
def vZ (h:Heap) (d:Addr) (es:Array DictEntry) (ep:Nat):Prop:=∃ o,h.get? d=some o∧o.ExactDict∧o.data = .dict es ep
theorem vZ.typ (m:vZ s.heap d es ep):s.TypeIs (.ref d) "dict" := let ⟨o,h1,h2,_⟩:=m;⟨o,h1,h2.1⟩
theorem vZ.kept (m:vZ h d es ep) (k:∀ o,h.get? d=some o→h'.get? d=some o):vZ h' d es ep:=let ⟨o,h1,r⟩:=m;⟨o,k o h1,r⟩
theorem Nk (lo:(d == sysModules)=false) (m:vZ s.heap d es ep) (q:Q (.ref s.heap.objs.size) { s with heap:=s.heap.push { cls:=.type "dict_keyiterator", data:=.fields #[.ref d,.int 0 0,.int es.size 0,.int ep 0] } }) :
 wpAny (model prog w) A (pyIter (.ref d)) Q E s:=by
 obtain ⟨o,h1,h2,h3⟩:=id m
 refine wpAny_pyIter_slot m.typ F.slot_dict_iter (wpAny_call_entry F.slot_dict_iter m.typ F.entry_dict_iter ?_ (F.args_dict_iter_1 _))
 unfold Builtin.«dict.__iter__» Builtin.Dict.dictSlotNone
 refine wpAny_bind (wpAny_bind (wpAny_notOrdered_dict m.typ (wpAny_pure (a:=Value.ref d) ?_)))
 show wpAny _ _ (Builtin.Dict.showsAll d >>= _) _ _ s
 unfold Builtin.Dict.showsAll
 rw [if_neg (by rw [lo];exact cg)]
 refine wpAny_bind (wpAny_pure (wpAny_bind (wpAny_dictEntries h1 h3 (wpAny_bind (wpAny_dictEpoch h1 h3 (wpAny_bind (wpAny_newObj_type (wpAny_pure ⟨_,rfl, "dict_keyiterator", _,⟨_,Heap.get?_push_size _ rfl,rfl⟩,F.slot_dict_keyiterator_next.lookup,?_⟩))))))))
 simpa [rawInt] using q
theorem Nm {Q:Option Value→Shared→Prop} {e:DictEntry} (g:s.heap.IsKeyIter it d i es.size ep) (m:vZ s.heap d es ep) (hx:es[i]? = some e)
 (q:∀ h',h'.IsKeyIter it d (i + 1) es.size ep→Heap.SameBut it s.heap h'→Q (some e.key) { s with heap:=h' }):wpAny (model prog w) A (pyNext (.ref it)) Q E s:=by
 obtain ⟨o,ho,hc,hd⟩:=id g
 obtain ⟨od,h1,h2,h3⟩:=id m
 have ty:=g.typeIs
 unfold pyNext
 refine wpAny_bind (wpAny_attempt (wpAny_callSpecial?_slot (name:=Str.ofString "__next__") ty F.slot_dict_keyiterator_next (wpAny_call_entry F.slot_dict_keyiterator_next ty F.entry_dict_keyiterator_next ?_ (F.args_dict_keyiterator_next_1 _))))
 refine wpAny_bind (wpAny_pure (wpAny_bind (wpAny_bind ?_)))
 first | refine wpAny_bind (wpAny_typeNameOfWhole_keyiter ty (wpAny_pure (wpAny_bind (wpAny_fieldsOf ho hd ?_)))) | refine wpAny_bind (wpAny_typeNameOf_keyiter ty (wpAny_pure (wpAny_bind (wpAny_fieldsOf ho hd ?_))))
 simp only [show Builtin.Dict_items.ownsTuple "dict_keyiterator" = false by decide,n_,if_false]
 show wpAny _ _ (if (Value.ref d == Value.none)=true then _ else _) _ _ s
 rw [if_neg (show ¬ ((Value.ref d == Value.none)=true) from cg)]
 refine wpAny_bind (wpAny_pure (wpAny_bind (wpAny_dictEntries h1 h3 ?_)))
 rw [if_neg (by simp)]
 refine wpAny_bind (wpAny_pure (wpAny_bind (wpAny_dictEpoch h1 h3 ?_)))
 rw [if_neg (by simp)]
 refine wpAny_pure ?_
 simp only [show ¬ ((i:Int) < 0) from by omega,if_false,jK,hx]
 refine wpAny_bind ?_
 first | refine wpAny_bind (wpAny_typeNameOfWhole_keyiter ty (wpAny_pure (wpAny_bind (wpAny_isOneOf_keyiter ty ?_)))) | refine wpAny_bind (wpAny_typeNameOf_keyiter ty (wpAny_pure (wpAny_bind (wpAny_isOneOf_keyiter ty ?_))))
 show wpAny _ _ (setField (.ref it) 1 (rawInt ((i:Int) + 1)) >>= _) _ _ s
 refine wpAny_bind (wpAny_setField ho hd (by simp) ?_)
 have g':(s.heap.update it (Obj.mapFields (·.setIfInBounds 1 (rawInt ((i:Int) + 1))))).IsKeyIter it d (i + 1) es.size ep :=
  ⟨_,Heap.get?_update_self _ ho (Obj.isFreed_of_fields (Obj.data_mapFields hd _)),(Obj.cls_mapFields ..).trans hc,by rw [Obj.data_mapFields hd];simp [rawInt]⟩
 refine wpAny_bind (wpAny_holding (wpAny_bind (wpAny_isOneOf_keyiter (s:={ s with heap:=s.heap.update it (Obj.mapFields (·.setIfInBounds 1 (rawInt ((i:Int) + 1)))) }) g'.typeIs ?_)))
 show wpAny _ _ (pure e.key) _ _ _
 exact wpAny_pure (wpAny_pure ⟨_,rfl,wpAny_pure (q _ g' (Heap.SameBut.update ..))⟩)
theorem Np {Q:Option Value→Shared→Prop} (hh:A.handled=none) (g:s.heap.IsKeyIter it d i es.size ep) (m:vZ s.heap d es ep) (hx:es[i]? = none)
 (q:∀ h',Heap.ExtBut it s.heap h'→Q none { s with heap:=h' }):wpAny (model prog w) A (pyNext (.ref it)) Q E s:=by
 obtain ⟨o,ho,hc,hd⟩:=id g
 obtain ⟨od,h1,h2,h3⟩:=id m
 have ty:=g.typeIs
 unfold pyNext
 refine wpAny_bind (wpAny_attempt (wpAny_callSpecial?_slot (name:=Str.ofString "__next__") ty F.slot_dict_keyiterator_next (wpAny_call_entry F.slot_dict_keyiterator_next ty F.entry_dict_keyiterator_next ?_ (F.args_dict_keyiterator_next_1 _))))
 refine wpAny_bind (wpAny_pure (wpAny_bind (wpAny_bind ?_)))
 first | refine wpAny_bind (wpAny_typeNameOfWhole_keyiter ty (wpAny_pure (wpAny_bind (wpAny_fieldsOf ho hd ?_)))) | refine wpAny_bind (wpAny_typeNameOf_keyiter ty (wpAny_pure (wpAny_bind (wpAny_fieldsOf ho hd ?_))))
 simp only [show Builtin.Dict_items.ownsTuple "dict_keyiterator" = false by decide,n_,if_false]
 show wpAny _ _ (if (Value.ref d == Value.none)=true then _ else _) _ _ s
 rw [if_neg (show ¬ ((Value.ref d == Value.none)=true) from cg)]
 refine wpAny_bind (wpAny_pure (wpAny_bind (wpAny_dictEntries h1 h3 ?_)))
 rw [if_neg (by simp)]
 refine wpAny_bind (wpAny_pure (wpAny_bind (wpAny_dictEpoch h1 h3 ?_)))
 rw [if_neg (by simp)]
 refine wpAny_pure ?_
 simp only [show ¬ ((i:Int) < 0) from by omega,if_false,jK,hx]
 refine wpAny_bind ?_
 first | refine wpAny_bind (wpAny_typeNameOfWhole_keyiter ty (wpAny_pure ?_)) | refine wpAny_bind (wpAny_typeNameOf_keyiter ty (wpAny_pure ?_))
 refine wpAny_bind (m:=setField (.ref it) 0 .none) (wpAny_setField ho hd (by simp) ?_)
 refine wpAny_bind (m:=newExc (.type "StopIteration") []) ?_
 simp only [newExc,newTuple]
 refine wpAny_bind (wpAny_newObj_type (wpAny_bind (m:=firstArgMember _ _) (wpAny_of_eq (a:=Value.none) (by first | rfl | (simp only [firstArgMember];rfl)) (wpAny_newObj_type ?_ (by size_fits)))) (by size_fits))
 simp only [raiseNew]
 refine wpAny_bind (wpAny_handled ?_)
 rw [show A.in1.handled=none from hh]
 refine wpAny_bind (wpAny_pure (wpAny_throw ?_))
 refine wpAny_bind (wpAny_isInstance (b:=true) ⟨_,Heap.get?_push_size _ rfl,rfl⟩ isSubtype_stop (wpAny_pure ?_))
 exact q _ (((Heap.SameBut.update ..).extBut.push _).push _)
theorem Yh (hh:A.handled=none) (I d:Addr) (hne:d ≠ I) (es:Array DictEntry) (ep:Nat):Walks prog w A I [I,d] [I] es.size (fun i v=>∃ e,es[i]? = some e∧v=e.key) (fun i h=>h.IsKeyIter I d i es.size ep∧vZ h d es ep) where
 sub:=fun b hb=>by simp at hb;simp [hb]
 frame:=fun _ _ _ st hk=>⟨st.1.at fun o e=>hk I (by simp) o e,st.2.kept fun o e=>hk d (by simp) o e⟩
 item:=fun i s Q E hi st hQ=>Nm (e:=es[i]) st.1 st.2 (by simp [hi]) fun h' g hs=>hQ _ h' s.toks ⟨es[i],by simp [hi],rfl⟩ ⟨g,st.2.kept fun o e=>hs.extBut d o hne e⟩ fun b o hb e=>hs.extBut b o (fun h=>hb (by simp [h])) e
 done:=fun s Q E st hQ=>Np hh st.1 st.2 (by simp) fun h' he=>hQ h' s.toks fun b o hb e=>he b o (fun h=>hb (by simp [h])) e
 self:=fun _ _ _ _ st hQ=>wpAny_pyIter_keyiter st.1 hQ
theorem RB (lo:(d == sysModules)=false):W.KdlSrc prog w "dict" d d es.size (fun i v=>∃ e,es[i]? = some e∧v=e.key) (fun h=>vZ h d es ep) where
 type:=fun _ m=>m.typ
 there:=fun _ m=>let ⟨_,h1,_⟩:=m;⟨Heap.lt_size h1,Heap.lt_size h1⟩
 keep:=fun _ _ m hk=>m.kept fun o e=>hk d (.inl rfl) o e
 notList:=by decide
 notTuple:=by decide
 hint:=fun _ _ _ _ m hq=>W.kdl_hint_dict m.typ hq
 iter:=fun A s hh m=>⟨_,_,(fun _ _ q=>Nk lo m q),Yh hh _ d (let ⟨_,h1,_⟩:=m;aQ (Heap.lt_size h1)) es ep,⟨⟨_,Heap.get?_push_size _ rfl,rfl,rfl⟩,m.kept fun o e=>Heap.get?_push_of_some _ e⟩⟩
end
section
variable {prog:Program} {w:World} {K:Type} [DecidableEq K] {knd:HeapKind prog w K} {A:Around} {E:Value→Shared→Prop} {s:Shared} {d a:Addr} {xs:List (K × Addr × Value)} {k:K} {v:Value}
theorem Nq (hu:knd.room A.in1) (hkey:knd.is s.heap k a) (lo:(d == sysModules)=false) (m:s.heap.DictOfH knd d xs) (hz:xs.length ≤ sizeLine)
 (h1:∀ p tk,atKey xs k=some p→Q p.2 { s with toks:=tk }) (h2:∀ h' tk,atKey xs k=none→h'.DictOfH knd d (xs++[(k,a,v)])→Heap.SameBut d s.heap h'→Q v { s with heap:=h',toks:=tk }) :
 wpAny (model prog w) A (call (.builtin "dict.setdefault") [.ref d,.ref a,v]) Q E s:=by
 have ty:=m.typeIs
 obtain ⟨o,es,ep,ho,hc,hd,he,his,hn⟩:=m
 refine wpAny_call_entry F.slot_dict_setdefault ty F.entry_dict_setdefault ?_ (F.args_dict_setdefault_3 _ _ _)
 unfold Builtin.«dict.setdefault» Builtin.Dict.keyAndDefault
 refine wpAny_bind (wpAny_bind (wpAny_notOrdered_dict ty (wpAny_pure (a:=(d,Value.ref a,some v)) ?_)))
 show wpAny _ _ (if (d == sysModules)=true then _ else (dictSetDefault d (.ref a) v >>= _)) _ _ s
 rw [if_neg (by rw [lo];exact cg)]
 refine wpAny_bind ?_
 unfold dictSetDefault
 try with_reducible refine wpAny_holding ?_
 refine wpAny_bind (knd.pyHash hu hkey (wpAny_bind (wpAny_dictFind_heap (s:={ s with toks:=s.toks + knd.draws k }) hu hkey ho hd he his hn (fun hno=>?_) fun j p hj=>?_)))
 ·have nk:=atKey_none_of_get hno
  have hnot:=not_mem_keys_of_get hno
  refine wpAny_bind (wpAny_rule (wpAny_bind (wpAny_updateDictKeys (hz:=by have e:=size_of_entries he;omega) (s:={ s with toks:=s.toks + knd.draws k }) ho hd (wpAny_pure (wpAny_pure ⟨_,rfl,h2 _ _ nk ⟨_,_,ep + 1,Heap.get?_update_self _ ho (Obj.isFreed_of_dict (Obj.data_mapDictKeys hd _)),hc.mapDictKeys _,Obj.data_mapDictKeys hd _,?_,?_,?_⟩ (Heap.SameBut.update ..)⟩)))))
  ·simp [he,entryOfKey]
  ·intro x hx
   rcases bK.mp hx with hx | hx
   ·exact knd.keeps (his x hx) ho hd (.update ..)
   ·rw [aN.mp hx]
    exact knd.keeps hkey ho hd (.update ..)
  ·rw [cT,oV]
   exact ⟨hn,by simp,fun x hx y hy=>by
    rw [show y=k by simpa using hy]
    exact fun e=>hnot (e ▸ hx)⟩
 ·refine wpAny_bind (wpAny_dictEntries (s:={ s with toks:=s.toks + knd.draws k }) ho hd ?_)
  rw [entry_at he j,hj]
  exact wpAny_bind (wpAny_rule (wpAny_pure (wpAny_pure ⟨_,rfl,h1 p _ (atKey_of_get hn hj)⟩)))
end
end TD
namespace XJ
open PySem D3 XS
def ltR (ks:List (List Int)) (i j:Nat):Bool:=Ka (ks.getD i []) (ks.getD j [])
def nu (ks:List (List Int)):List Nat:=if ks.length ≤ 1 then aX ks.length else m8 ks.length (ltR ks)
def iz (ks:List (List Int)):List (List Int):=(nu ks).map fun i=>ks.getD i []
def BP:List D→Option D
 | [x]=>(oH x).bind fun ks=>if ks.length < 64∧(ks.all fun k=>!k.isEmpty)=true then some (.list ((iz ks).map rwD)) else none
 | _=>none
end XJ
variable {S:List D3.Tte}
namespace XJ
open PySem PySem.Spec PyProof.Rows L2 My D3 XK XT XD
theorem jO (k:List Int):kE kV (k.map Sum.inl)=k.map V.int:=by
 rw [fO]
 rfl
theorem Jb {ok:Ok}:∀ {xs:List V} {k:List Int},RAs K ok pl H xs (k.map PyData.int)→xs=k.map V.int
 | _,[],.nil=>rfl
 | _,i :: k,.cons a q=>by rw [a.intE,Jb q];rfl
theorem Yi {ok:Ok} {q:List Int × Int} (r:RA K ok pl H v (ttV q)):TW H v q.1 q.2:=by
 obtain ⟨b,xs,rfl,h1,h2⟩:=r.tupE0
 cases h2 with
 | cons r1 r2 =>
 cases r2 with
 | cons r2 r3 =>
 cases r3
 obtain ⟨c,ys,rfl,h3,h4⟩:=r1.tupE0
 rw [Jb h4] at h3
 obtain rfl:=r2.intE
 exact ⟨b,c,rfl,h1,h3⟩
theorem Ug (g:DH H u (ttP S)):(S=[]∧u = .dK [])∨∃ q ks,u = .dT (q :: ks)∧TTs H (q :: ks) (ttP S):=by
 rcases g with ⟨g1,g2⟩ | ⟨ks,rfl,g⟩ | g
 ·cases S with
  | nil=>exact .inl ⟨rfl,g2⟩
  | cons q S=>exact absurd g1 cg
 ·cases S with
  | nil=>cases g;exact .inl ⟨rfl,rfl⟩
  | cons q S=>cases g
 ·exact .inr g
theorem RD {ok:Ok} {x:D} (e:M6 x=some S) (r:RA K ok pl H v x):∃ a,v = .ref a∧((S=[]∧L2.Rd H a (.dK []))∨∃ q ks,L2.Rd H a (.dT (q :: ks))∧TTs H (q :: ks) (ttP S)):=by
 obtain rfl:=Bv e
 obtain ⟨a,u,rfl,h2,g⟩:=RA.dicU (kvs:=ttP S) r
 rcases Ug g with ⟨h,rfl⟩ | ⟨q,ks,rfl,t⟩
 ·exact ⟨a,rfl,.inl ⟨h,h2⟩⟩
 ·exact ⟨a,rfl,.inr ⟨q,ks,h2,t⟩⟩
theorem GZ:∀ {S:List Tte} {ks:List (List Key × V)} (k:List Int),TTs H ks (ttP S)→(yS S k=none∧oJ ks (k.map Sum.inl)=none)∨∃ p v,yS S k=some p∧oJ ks (k.map Sum.inl)=some v∧TW H v p.1 p.2
 | [],_,k,h=>by cases h;exact .inl ⟨rfl,rfl⟩
 | q :: S,ks,k,h=>by
  obtain ⟨v,r,rfl,t,rr⟩:∃ v r,ks=(q.1.map Sum.inl,v) :: r∧TW H v q.2.1 q.2.2∧TTs H r (ttP S):=by
   generalize hg:ttP (q :: S)=g at h
   cases h with
   | nil=>cases hg
   | cons t r =>
    rename_i k' m z v r0 r1
    have hg:(rwD q.1,ttV q.2) :: ttP S=_:=hg
    injection hg with h1 h2
    injection h1 with h1 h3
    have e1:q.1=k':=by
     have:=congrArg (fun d=>yR d) h1
     simpa [rwD,yR,nQ] using this
    have e2:q.2=(m,z):=by
     have:=congrArg (fun d=>J_ d) h3
     have this:q.2.1=m∧q.2.2=z:=by simpa [ttV,rwD,J_,nQ] using this
     exact Prod.ext this.1 this.2
    subst e1
    rw [e2]
    exact ⟨v,r0,rfl,t,h2 ▸ r⟩
  by_cases e:q.1=k
  ·refine .inr ⟨q.2,v,?_,rF (by rw [e]),t⟩
   simp [yS,e]
  ·rw [rG (fun z=>e (wF z))]
   have:yS (q :: S) k=yS S k:=by simp [yS,e]
   rw [this]
   exact GZ k rr
theorem Nr {p:List Int × Int} {k:List Int} (t:TW H v p.1 p.2):∀ {S:List Tte} {ks:List (List Key × V)},TTs H ks (ttP S)→TTs H (ks++[(k.map Sum.inl,v)]) (ttP (S++[(k,p)])):=by
 intro S ks h
 rw [show ttP (S++[(k,p)])=ttP S++[(rwD k,ttV p)] by unfold ttP;rw [cT];rfl]
 generalize ttP S=g at h ⊢
 induction h with
 | nil=>exact .cons t .nil
 | cons t' _ ih=>exact .cons t' ih
theorem RG {ks:List (List Key × V)} (h:TTs H ks (ttP S)):ks.length=S.length:=by
 have:ks.length=(ttP S).length:=by
  generalize ttP S=g at h ⊢
  induction h with
  | nil=>rfl
  | cons _ _ ih=>rw [bM,bM,ih]
 rw [this,ttP,aC]
section
variable {X:Cx} {fl:List Fl} {e a b:Expr} {fa fb fk fv:FE} {pos:Pos}
end
section
variable {K:PySem.W.Frag} {fl:List Fl}
theorem V1 {σ:L2.St} {x:D} (R:Rel K fl G ow σ H δ) (hfl:fl[i]? = some .N) (hx:aD i δ=some x) (hq:M6 x=some S) :
 ∃ a,σ[i]? = some (some (.ref a))∧((S=[]∧H a=some (.dK []))∨∃ q ks,H a=some (.dT (q :: ks))∧TTs H (q :: ks) (ttP S))∧∀ H',Same H H'→∀ q' ks' S',TTs H' (q' :: ks') (ttP S')→∃ ow',Rel K fl G ow' σ (upd H' a (.dT (q' :: ks'))) (δ.set i (some (.d (dtt S')))):=by
 have e:=mX hx
 have hi:i < δ.length:=by
  rcases d_ i δ.length with z | z
  ·exact z
  ·rw [bH z] at e;cases e
 obtain ⟨v,h1,h2,h3⟩:=R.nr i x (by rw [hfl];rfl) e
 generalize hN:ow.n i=as at h2 h3
 obtain rfl:=Bv hq
 have h2:RT K H v (.dict (ttP S)) as:=h2
 cases h2 with
 | dic ha hg =>
  rename_i a u
  have fin:∀ H',Same H H'→∀ q' ks' S',TTs H' (q' :: ks') (ttP S')→∃ ow',Rel K fl G ow' σ (upd H' a (.dT (q' :: ks'))) (δ.set i (some (.d (dtt S')))):=fun H' s q' ks' S' t'=>by
   have:=hg.chg
   refine (R.grow s).mutN (as:=[a]) hfl hi (by rw [hN];exact eN _) (s _ _ ha) h1 ?_ (fun b hb=>by rw [hN];exact hb) (dJ.mpr ⟨eG,.nil⟩)
   exact .dic bN (.inr (.inr ⟨q',ks',rfl,t'.imp fun _ _ z=>iW.upd (s _ _ ha) z⟩))
  rcases Ug hg with ⟨h,rfl⟩ | ⟨q,ks,rfl,t⟩
  ·exact ⟨a,h1,.inl ⟨h,ha⟩,fin⟩
  ·exact ⟨a,h1,.inr ⟨q,ks,ha,t⟩,fin⟩
end
section
variable {X:Cx} {pins:List (Addr × Obj)} {σ:L2.St} {H:Hp} {s:Shared} {a b:Addr} {kvs:List (List Key × V)} {k:List Key} {z:V} {u r:Value} {A:Around} {E:Value→Shared→Prop}
theorem Nt (I:L2.Inv X pins σ H s) (e:H a=some (.dK [])):L2.Inv X pins σ (upd H a (.dT [])) s:=by
 obtain ⟨_,hd,vs,rel,o,es,ep,h1,h2,h3,h4,h5,h6⟩:=Uc I.hok e
 cases rel
 have he:es.toList=[]:=by
  have:=h5.length
  exact cO.mp this
 exact wD (h':=s.heap) (t':=s.toks) I (by rw [e];exact True.intro) (.refl a s.heap) ⟨o,h1⟩ ⟨cY _,hd,[],.nil,o,es,ep,h1,h2,h3,he,List.nodup_nil⟩
theorem Nu (hu:A.units + 1 < cLine) (I:L2.Inv X pins σ H s) (e:H a=some (.dT kvs)) (hl:kvs.length < sizeLine) (eb:H b=some (.tup (kE kV k))) (rz:RelV z r)
 (h1:∀ v w' s',oJ kvs k=some v→L2.Inv X pins σ H s'→RelV v w'→Q w' s') (h2:∀ s',oJ kvs k=none→L2.Inv X pins σ (upd H a (.dT (kvs++[(k,z)]))) s'→Q r s') :
 wpAny (model X.prog X.w) A (call (.builtin "dict.setdefault") [.ref a,.ref b,r]) Q E s:=by
 obtain ⟨z0,hd,xs,rel,dd⟩:=Ud I.hok e
 have lx:xs.length=kvs.length:=(Paired.length rel).symm
 refine TD.Nq (tupleKind_room_in1 hu) (u9 I.hok eb) hd dd (by rw [lx];exact z0) (fun p tk hp=>?_) fun h' tk hp dd' hs=>?_
 ·have q:=rel.val k
  rw [hp] at q
  cases e1:oJ kvs k with
  | none=>rw [e1] at q;cases q
  | some v =>
   rw [e1] at q
   exact h1 v _ _ e1 (I.tok _) q
 ·have q:=rel.val k
  rw [hp] at q
  have e1:oJ kvs k=none:=by
   cases e1:oJ kvs k with
   | none=>rfl
   | some v=>rw [e1] at q;cases q
  obtain ⟨o,es,ep,hq,g2,g3,g4,_,g5⟩:=dd'
  refine h2 _ e1 (wD I (by rw [e];exact True.intro) hs ⟨o,hq⟩ ⟨by rw [aW];exact hl,hd,_,KT.keeps (Paired.snoc rel ⟨rfl,eb,rz⟩) fun c ys ec=>?_,o,es,ep,hq,g2,g3,g4,g5⟩)
  rw [bx (gH ec e (fun z=>nomatch z))]
  exact ec
end
def Yj (td ty tx:TE):TE:=fun σ H Q=>td σ H fun x H1=>∃ a,x = .ref a∧IsD H1 a∧ty σ H1 fun y H2=>tx σ H2 fun z H3=>∃ k b,y = .ref b∧H3 b=some (.tup (kE kV k)) ∧
 ((H3 a=some (.dK [])∧Q z (upd H3 a (.dT [(k,z)])))∨∃ kvs,H3 a=some (.dT kvs)∧kvs.length < sizeLine∧(∀ v,oJ kvs k=some v→Q v H3)∧(oJ kvs k=none→Q z (upd H3 a (.dT (kvs++[(k,z)])))))
section
variable {X:Cx} {o e f:Expr} {apos cpos:Pos} {td ty tx:TE}
theorem RJ (hu:X.A.units + 1 < cLine) (ho:PE X o td) (he:PE X e ty) (hf:PE X f tx) (m:M2 X o "setdefault" apos e f cpos):PE X (.Call (.Attribute o "setdefault" apos) [e,f] [] cpos) (Yj td ty tx):=by
 intro pins s σ H Q I h
 refine wpAny_Call_method m.base m.few m.line PySem.F.plainAttrs_dict PySem.F.slot_dict_setdefault PySem.F.type_dict_setdefault (thn (ho pins s σ H _ I h) fun u s1 ⟨x,H1,I1,rx,a,ex,d,q1⟩=>?_)
 subst ex
 obtain rfl:u=Value.ref a:=rx
 obtain ⟨t1,t2,_⟩:=VL I1 d
 refine ⟨t1,t2,?_⟩
 rw [m.trees]
 refine Calls.callWith_builtin rfl (Calls.evalArgs_plain (Calls.spliced_cons (thn (he pins s1 σ H1 _ I1 q1) fun iv s2 ⟨y,H2,I2,ry,q2⟩ =>
  Calls.spliced_cons (thn (hf pins s2 σ H2 _ I2 q2) fun fv s3 ⟨z,H3,I3,rz,k,b,ey,eb,q3⟩=>Calls.spliced_nil ?_))))
 subst ey
 obtain rfl:iv=Value.ref b:=ry
 rcases q3 with ⟨ea,q⟩ | ⟨kvs,ea,hl,q3,q4⟩
 ·have I4:=Nt I3 ea
  have hb:upd H3 a (.dT []) b=some (.tup (kE kV k)):=by
   rw [bx (gH eb ea (fun z=>nomatch z))]
   exact eb
  exact Nu hu I4 bN (show 0 < sizeLine by decide) hb rz (fun v w' s4 l _ _=>by cases l) fun s4 _ I5=>by
   rw [Hv] at I5
   exact ⟨z,_,I5,rz,q⟩
 ·exact Nu hu I3 ea hl eb rz (fun v w' s4 l I4 rw'=>⟨v,H3,I4,rw',q3 v l⟩) fun s4 l I4=>⟨z,_,I4,rz,q4 l⟩
end
section
variable {X:Cx} {fl:List Fl} {ke ve:Expr} {fk fv:FE} {pos:Pos}
theorem Nv {apos cpos:Pos} (hu:X.A.units + 1 < cLine) (hfl:fl[i]? = some .N) (hk:DE X fl .P ke fk) (hw:DE X fl .P ve fv) (hN:X.N[i]? = some x) (hm:M2 X (.Name x vpos) "setdefault" apos ke ve cpos) (hv:Vis X.env.scope x:=by first | exact Or.inl rfl | exact Or.inr (Or.inl rfl) | exact Or.inr (Or.inr rfl)) (hd:(x == ("__debug__" : Str))=false:=by decide)
 (hcd:(x == ("__classdict__" : Str))=false:=by decide) (hs:swapsWith (.Call (.Attribute (.Name x vpos) "setdefault" apos) [ke,ve] [] cpos) none pos.line X.env=pure false:=by rfl) :
 DS1 X fl (.Expr (.Call (.Attribute (.Name x vpos) "setdefault" apos) [ke,ve] [] cpos) pos) (u6 i fk fv):=PS.imp (Ak (RJ hu (qd hN hv hd hcd) hk hw hm) hs) fun Dn σ H hh=>by
 obtain ⟨G,ow,δ,o,R,hf,q⟩:=hh
 obtain ⟨y,e1,hg⟩:=bind1 hf
 clear hf
 obtain ⟨kk,e2,hf⟩:=bind1 hg
 clear hg
 obtain ⟨zz,e3,hg⟩:=bind1 hf
 clear hf
 obtain ⟨S,e4,hf⟩:=bind1 hg
 clear hg
 obtain ⟨k,e5,hg⟩:=bind1 hf
 clear hf
 obtain ⟨p0,e6,hf⟩:=bind1 hg
 clear hg
 by_cases hc:S.length < 1000000
 case neg=>rw [if_neg hc] at hf;cases hf
 rw [if_pos hc] at hf
 cases hf
 obtain ⟨p,h1,h2,h4⟩:=V1 R hfl e1 e4
 have isd:IsD H p:=by
  rcases h2 with ⟨_,h⟩ | ⟨_,_,h,_⟩
  ·exact .inl ⟨_,.inl h⟩
  ·exact .inr ⟨_,.inl h⟩
 refine ⟨_,h1,p,rfl,isd,G,ow,δ,_,R,e2,fun u H1 s1 r1=>⟨G,ow,δ,_,R.grow s1,e3,fun w H2 s2 r2=>?_⟩⟩
 obtain ⟨b,rfl,hb⟩:=uH e5 r1
 rw [Rw e6] at r2
 have t2:TW H2 w p0.1 p0.2:=Yi r2
 have s12:=s1.trans s2
 refine ⟨k.map Sum.inl,b,rfl,s2 _ _ hb,?_⟩
 rcases h2 with ⟨rfl,h⟩ | ⟨q1,ks,h,t⟩
 ·refine .inl ⟨s12 _ _ h,?_⟩
  obtain ⟨ow',R'⟩:=h4 H2 s12 (k.map Sum.inl,w) [] [(k,p0)] (.cons t2 .nil)
  exact q ow' σ _ R'
 ·have h3':TTs H2 (q1 :: ks) (ttP S):=t.imp fun _ _ z=>iW.same s12 z
  refine .inr ⟨q1 :: ks,s12 _ _ h,by rw [RG t];exact pZ hc (by decide),fun v hv'=>?_,fun hv'=>?_⟩
  ·have hx:qw S k p0=S:=by
    unfold qw
    rcases GZ k h3' with ⟨_,b⟩ | ⟨d,v',a,b,_⟩
    ·rw [b] at hv';cases hv'
    ·rw [if_pos (by rw [a];rfl)]
   rw [hx] at q
   rw [← Bv e4,set_same (mX e1)] at q
   exact q ow σ _ (R.grow s12)
  ·have hx:qw S k p0=S++[(k,p0)]:=by
    unfold qw
    rcases GZ k h3' with ⟨a,_⟩ | ⟨d,v',a,b,_⟩
    ·rw [if_neg (by rw [a];simp)]
    ·rw [b] at hv';cases hv'
   rw [hx] at q
   obtain ⟨ow',R'⟩:=h4 H2 s12 q1 (ks++[(k.map Sum.inl,w)]) (S++[(k,p0)]) (by
    have:=Nr (k:=k) t2 h3'
    rw [mG] at this
    exact this)
   exact q ow' σ _ R'
end
end XJ
namespace XJ
open PySem PySem.Spec PySem.W PyProof.Rows L2 My D3 XK XT XD XS
section
variable {prog:Program} {w:World} {A:Around} {E:Value→Shared→Prop} {s:Shared}
theorem Jc {fin:Bool}:∀ (a b:List Int) (u v:List Value) (i:Nat),IntsAre u a→IntsAre v b→(fin=decide (a.length < b.length))→C (Ka a b) s→KatLex prog w A true fin C (u.zip v) i s
 | [],[],_,_,_,.nil,.nil,hf,q=>by
  refine kat_nil ?_
  rw [hf]
  exact q
 | [],y :: ys,_,_,_,.nil,.cons _ _ _,hf,q=>by
  refine kat_nil ?_
  rw [hf,dTr (by simp)]
  exact q
 | x :: xs,[],_,_,_,.cons _ _ _,.nil,hf,q=>by
  refine kat_nil ?_
  rw [hf,dFa (by simp)]
  exact q
 | x :: xs,y :: ys,_,_,i,.cons _ t1 h1,.cons _ t2 h2,hf,q=>by
  refine kat_cons (wpAny_eqBool_int (kat_go (fun e=>?_) fun e=>?_))
  ·have e:=beq_iff_eq.mp e
   subst e
   refine kat_yes (Jc xs ys _ _ (i + 1) h1 h2 (by rw [hf];simp) ?_)
   simpa [Ka] using q
  ·have e:x ≠ y:=by
    intro z;subst z;simp at e
   have q':C (decide (x < y)) s:=by simpa [Ka,e] using q
   refine kat_no ?_
   cases i with
   | zero=>exact oneLt_int q'
   | succ i=>exact kat_one _ _ (lt_int (by simpa [PySem.W.BoolBack] using q'))
theorem V2 {x y:Addr} {a b:List Int} {u v:List Value} (hx:IsTup s.heap x u.toArray) (hy:IsTup s.heap y v.toArray) (hu:IntsAre u a) (hv:IntsAre v b) (q:C (Ka a b) s):wpAny (model prog w) A (keyLt' (tuples' true) (.ref x) (.ref y)) C E s:=by
 obtain ⟨ox,ex,_,nx,dx⟩:=hx
 obtain ⟨oy,ey,_,ny,dy⟩:=hy
 refine kat_lt ex dx ey dy ?_
 have:=Jc (prog:=prog) (w:=w) (A:=A) (s:=s) (fin:=decide (u.toArray.size < v.toArray.size)) (C:=C) a b u v 0 hu hv (by rw [aU,aU,hu.length,hv.length]) q
 simpa using this
end
section
variable {X:Cx} {fl:List Fl} {e:Expr} {pos:Pos}
theorem Jd {K:Type}:∀ {kvs:List (List L2.Key × V)} {xs:List (List L2.Key × Addr × Value)} {ks:List (List Int)},KT H kvs xs→kvs.map (·.1)=ks.map (fun k=>k.map Sum.inl)→∀ (j:Nat) (b:Addr) (k:List Int),(xs.map (·.2.1))[j]? = some b→ks[j]? = some k→H b=some (.tup (k.map V.int))
 | _,_,[],.nil,_,j,b,k,h,_=>by simp at h
 | _,_,_ :: _,.nil,h0,_,_,_,_,_=>by simp at h0
 | _,_,[],.cons _ _,h0,_,_,_,_,_=>by simp at h0
 | _,_,k0 :: ks,.cons (a:=p) (b:=q) h t,h0,0,b,k,h1,h2=>by
  simp at h0 h1 h2
  obtain ⟨h3,_⟩:=h0
  subst h1 h2
  have:=h.2.1
  rw [h3] at this
  rw [this,jO]
 | _,_,k0 :: ks,.cons (a:=p) (b:=q) h t,h0,j + 1,b,k,h1,h2=>by
  simp at h0
  exact Jd (K:=K) t (by simpa using h0.2) j b k (by simpa using h1) (by simpa using h2)
theorem BR (hc:X.calm=true):lQ X (.builtin "sorted") (fun xs H Q=>∃ (p:Addr) (kvs:List (List L2.Key × V)) (ks:List (List Int)),xs=[.ref p]∧L2.Rd H p (.dT kvs)∧kvs.map (·.1)=ks.map (fun k=>k.map Sum.inl)∧ks.length < 64∧(∀ k ∈ ks,k ≠ []) ∧
 ∀ (l:Addr) (bs:List Addr),H l=none→bs.length=ks.length→(∀ (j:Nat) (b:Addr) (k:List Int),bs[j]? = some b→ks[j]? = some k→H b=some (.tup (k.map V.int)))→Q (.ref l) (upd H l (.lst ((nu ks).map fun i=>V.ref (bs.getD i 0))))):=by
 intro pins s σ H xs us Q I r h
 obtain ⟨p,kvs,ks,rfl,hx,hK,h64,hne,q⟩:=h
 obtain ⟨u,rfl,rx⟩:=vals1 r
 cases rx
 obtain ⟨_,hd,ents,rel,dd⟩:=Ef I.hok hx
 obtain ⟨o,es,ep,h1,h2,h3,h4,_,_⟩:=dd
 have raw:TD.vZ s.heap p es ep:=⟨o,h1,h2,h3⟩
 have le:ents.length=ks.length:=by
  have a:=Paired.length rel
  have b:=congrArg lB hK
  rw [aC,aC] at b
  omega
 have ez:es.size=ks.length:=by rw [← cj,h4,aC,le]
 have bl:(ents.map (·.2.1)).length=ks.length:=by rw [aC,le]
 have hb:=Jd (K:=Unit) rel hK
 have q:=fun l hn=>q l (ents.map (·.2.1)) hn bl hb
 refine Calls.call_function_entry kind_sorted plain_sorted entry_sorted (args_sorted1 _) ?_
 unfold Builtin.«sorted»
 refine wpAny_bind (m:=checkCount "sorted" 1 1 _) (wpAny_pure ?_)
 refine wpAny_bind (PySem.W.kdu_collect (A:=X.A.in1) (TD.RB (es:=es) (ep:=ep) hd) (I.ok.hd hc) raw (by rw [ez];exact bh (dj h64) (by decide)) fun h' tk acc hk hacc=>?_)
 have ea:acc.toList=(ents.map (·.2.1)).map Value.ref:=by
  apply gb
  intro j
  cases ej:acc.toList[j]? with
  | none =>
   have:acc.toList.length ≤ j:=List.getElem?_eq_none_iff.mp ej
   rw [cj,hacc.1,ez,← bl] at this
   rw [bH (by rw [aC];exact this)]
  | some v =>
   obtain ⟨e,he,rfl⟩:=hacc.2 j v (by rw [← iu];exact ej)
   rw [← iu,h4,aR] at he
   rw [fO,aR]
   cases ex:ents[j]? with
   | none=>rw [ex] at he;cases he
   | some x=>rw [ex] at he;cases he;rfl
 have I1:L2.Inv X pins σ H { s with heap:=h',toks:=tk }:=I.kept hk
 generalize hB:ents.map (·.2.1)=bs at *
 rw [ea]
 have vl:(bs.map Value.ref).length=ks.length:=by rw [aC,bl]
 have hn:H h'.objs.size=none:=I1.hok.fresh (aL _)
 have gv:∀ i,RelV (V.ref (bs.getD i 0)) ((bs.map Value.ref).getD i (.ref 0)):=fun i=>by
  show (bs.map Value.ref).getD i (.ref 0)=Value.ref (bs.getD i 0)
  rw [aM,aR,aM]
  cases bs[i]? <;> rfl
 refine wpAny_bind (wpAny_newList ?_ (by rw [vl];exact bh (dj h64) (by decide)))
 have hoL:(h'.push (seqObj "list" (bs.map Value.ref).toArray 0)).get? h'.objs.size=some (seqObj "list" (bs.map Value.ref).toArray 0):=Heap.get?_push_size _ rfl
 show wpAny _ _ _ _ _ { s with heap:=h'.push (seqObj "list" (bs.map Value.ref).toArray 0),toks:=tk }
 have srtl:(nu ks).length=ks.length:=by
  unfold nu
  split
  ·rw [bY]
  ·rw [(fZ (n:=ks.length) (by omega) (ltR ks)).length_eq,bY]
 have new:∀ (h2:Heap) (c:Nat),h2.get? h'.objs.size=some (seqObj "list" (fP ((nu ks).map fun i=>(bs.map Value.ref).getD i (.ref 0))) c)→fG X.prog X.w (upd H h'.objs.size (.lst ((nu ks).map fun i=>V.ref (bs.getD i 0)))) h2 h'.objs.size (.lst ((nu ks).map fun i=>V.ref (bs.getD i 0))):=fun h2 c hg=>by
  refine ⟨by rw [aC,srtl];exact bh (dj h64) (by decide),_,c,?_,hg⟩
  generalize nu ks=l
  induction l with
  | nil=>exact .nil
  | cons i l ih=>exact .cons (gv i) ih
 refine wpAny_bind (wpAny_holding (wpAny_call_entry slot_list_sort ⟨_,hoL,rfl⟩ entry_list_sort ?body (args_list_sort _)))
 case body =>
  by_cases h2:2 ≤ ks.length
  ·obtain ⟨m,hm,_⟩:=id I1.loc
   have lt0:∀ y ∈ kO (Att.jg h') h' X.env.locals,y.1 < h'.objs.size:=fun y hy=>Heap.lt_size (uf (g:=Att.jg h') y hy).1
   have hL:X.env.locals < h'.objs.size:=(Att.Ar hm).ns.lt
   have kp:∀ b o,h'.get? b=some o→(h'.push (seqObj "list" (bs.map Value.ref).toArray 0)).get? b=some o:=fun b o e=>Heap.get?_push_of_some _ e
   refine kat_list_sort (h₀:=Att.jg h') (L:=X.env.locals) (m:=m) (news:=kO (Att.jg h') h' X.env.locals) ((Att.Ar hm).kept kp) (uf.grown kp) hoL (nJ hL) (Att.mJ _ _) (fun y hy=>aQ (lt0 y hy)) (by rw [vl];exact h2) (by rw [vl];exact h64) fun e1 h3 F' N'=>?_
   have kept:∀ {h'':Heap} {nw:List (Addr × Obj)},News (Att.jg h') X.env.locals h'' nw→(∀ y ∈ kO (Att.jg h') h' X.env.locals,y ∈ nw)→∀ b o,b ≠ X.env.locals→h'.get? b=some o→h''.get? b=some o:=fun N hs b o hb e=>(N (b,o) (hs _ (oW hb (Att.mJ _ _) e))).1
   have kt:∀ a items,IsTup h' a items→IsTup h3 a items:=fun a items ⟨o,e,c,n,d⟩=>⟨o,kept N' (fun y hy=>aH _ hy) a o (fun z=>by
    obtain ⟨o2,es,ep,e2,d2,_⟩:=hm
    rw [z] at e
    rw [show h'.get? X.env.locals=some o2 from e2] at e;cases e
    rw [d2] at d;cases d) e,c,n,d⟩
   have row:∀ i,i < ks.length→∃ u,(bs.map Value.ref).getD i .none = .ref (bs.getD i 0)∧IsTup h3 (bs.getD i 0) (fP u)∧IntsAre u (ks.getD i []):=fun i hi=>by
    have e1:bs[i]? = some (bs.getD i 0):=by rw [aM,aO (by omega)];rfl
    have e2:ks[i]? = some (ks.getD i []):=by rw [aM,aO hi];rfl
    obtain ⟨its,rr,pt,_⟩:=I1.tuple (.inl (.inl (hb i _ _ e1 e2)))
    refine ⟨its,?_,kt _ _ pt,uw rr⟩
    rw [aM,aR,e1]
    rfl
   have tups:∀ l:List Nat,(∀ i ∈ l,i < ks.length)→∃ fs,KatTups h3 (l.map fun i=>(bs.map Value.ref).getD i .none) fs∧fs.length=l.length∧∀ v ∈ fs,∃ i t,v = .int i t:=fun l=>by
    induction l with
    | nil=>exact fun _=>⟨[],trivial,rfl,fun _ h=>by cases h⟩
    | cons i l ih =>
     intro hl
     obtain ⟨fs,f1,f2,f3⟩:=ih fun j hj=>hl j (aH _ hj)
     have hi:=hl i aJ
     obtain ⟨u,e,⟨o,g1,g2,n,g3⟩,hu⟩:=row i hi
     have nk:ks.getD i [] ≠ []:=by
      rw [aM,aO hi]
      exact hne _ (fK hi)
     generalize ks.getD i []=kk at hu nk
     cases hu with
     | nil=>exact absurd rfl nk
     | cons x t hu =>
      refine ⟨.int x t :: fs,⟨⟨_,o,_,n,e,g1,g2,g3,rfl⟩,f1⟩,by simp [f2],fun v hv=>?_⟩
      rcases aZ.mp hv with rfl | hv
      ·exact ⟨_,_,rfl⟩
      ·exact f3 v hv
   obtain ⟨fs,f1,f2,f3⟩:=tups (aX ks.length) fun i hi=>bO.mp hi
   have all:(aX ks.length).map (fun i=>(bs.map Value.ref).getD i .none)=bs.map Value.ref:=by
    apply pH
    ·rw [aC,bY,vl]
    ·intro j g1 g2
     rw [mF,sY,aM,aO g2]
     rfl
   rw [all] at f1
   refine kat_kind (T:=.type "int") f1 (by rw [f2,bY];omega) (fun v hv=>?_) rfl ?_
   ·obtain ⟨i,t,rfl⟩:=f3 v hv
    exact fun A Q E s _ q=>wpAny_pure q
   refine wA (n:=(bs.map Value.ref).length) (lt:=ltR ks) (R:=good (bs.map Value.ref).length) (fun i j C hi hj hC=>?_) _ (rP (by omega)) ?_
   ·obtain ⟨u1,x1,y1,z1⟩:=row i (by rw [← vl];exact hi)
    obtain ⟨u2,x2,y2,z2⟩:=row j (by rw [← vl];exact hj)
    unfold kas_ask
    rw [x1,x2]
    exact V2 y1 y2 z1 z2 hC
   ·refine KasFin.intro F' N' (.head fun y hy=>aQ (lt0 y hy)) fun h4 c F2 N2=>⟨_,rfl,wpAny_pure ⟨_,rfl,?_⟩⟩
    have hD:h'.get? h'.objs.size=none:=Heap.get?_none_of_le (aL _)
    have od:(dG (ltR ks) (kas_sort (bs.map Value.ref).length)).toList=nu ks:=by
     unfold nu
     rw [if_neg (by omega),vl]
     rfl
    have hg:=(N2 _ (aJ ..)).1
    rw [od] at hg
    have hg:h4.get? h'.objs.size=some (seqObj "list" (fP ((nu ks).map fun i=>(bs.map Value.ref).getD i (.ref 0))) c):=by
     have ee:((nu ks).map fun i=>(bs.map Value.ref).getD i Value.none)=(nu ks).map fun i=>(bs.map Value.ref).getD i (.ref 0):=dU fun i hi=>?_
     ·rw [← ee]
      exact hg
     have hi:i < ks.length:=by
      unfold nu at hi
      rw [if_neg (by omega)] at hi
      exact bO.mp ((fZ (n:=ks.length) (by omega) (ltR ks)).mem_iff.mp hi)
     rw [aM,aM,aO (by rw [vl];exact hi)]
     rfl
    exact ⟨.ref _,_,Bk (s:={ s with heap:=h',toks:=tk }) (h':=h4) I1 hm F2.ns (kept N2 fun y hy=>aH _ hy) hD (new h4 c hg),rfl,q _ hn⟩
  ·have h01:ks.length=0∨ks.length=1:=by omega
   have sr:nu ks=aX ks.length:=by unfold nu;rw [if_pos (by omega)]
   rcases h01 with h0 | h1
   ·have b0:bs=[]:=cO.mp (by omega)
    subst b0
    refine list_sort_tree (ns:=[]) hoL .nil (by decide) fun out ns' a1 a2 a3=>⟨_,rfl,wpAny_pure ⟨_,rfl,?_⟩⟩
    obtain rfl:=List.perm_nil.mp a2
    have oe:out.toList=[]:=cO.mp a1.length
    obtain ⟨c,he⟩:=sortedHeap_at (out:=out) hoL
    have I2:=I1.laid (h':=sortedHeap (h'.push (seqObj "list" (([]:List Addr).map Value.ref).toArray 0)) h'.objs.size (([]:List Addr).map Value.ref) out) (t':=tk) (a:=h'.objs.size) (o:=.lst ((nu ks).map fun i=>V.ref (([]:List Addr).getD i 0))) (fun b u e=>by
     have hlt:=Heap.lt_size e
     rw [sortedHeap_old (aQ hlt) (by rw [size_push'];exact oU hlt)]
     exact Heap.get?_push_of_some _ e) (aL _) (new _ c (by
      rw [sr,h0]
      have:out = #[]:=pF.mp oe
      rw [this] at he ⊢
      exact he))
    exact ⟨.ref _,_,I2,rfl,q _ hn⟩
   ·obtain ⟨b0,rfl⟩:=p8.mp (show bs.length=1 by omega)
    refine DY (v:=.ref b0) hoL fun h3 c k e=>⟨_,rfl,wpAny_pure ⟨_,rfl,?_⟩⟩
    have I2:=I1.laid (h':=h3) (t':=tk) (a:=h'.objs.size) (o:=.lst ((nu ks).map fun i=>V.ref ([b0].getD i 0))) (fun b u e=>k b u (aQ (Heap.lt_size e)) (Heap.get?_push_of_some _ e)) (aL _) (new _ c (by
     rw [sr,h1]
     exact e))
    exact ⟨.ref _,_,I2,rfl,q _ hn⟩
end
end XJ
namespace XJ
open PySem PySem.Spec PySem.W PyProof.Rows L2 My D3 XK XT XD XS
theorem Je {ks:List (List L2.Key × V)} (h:TTs H ks (ttP S)):ks.map (·.1)=(S.map (·.1)).map fun k=>k.map Sum.inl:=by
 induction S generalizing ks with
 | nil=>cases h;rfl
 | cons q S ih =>
  generalize hg:ttP (q :: S)=g at h
  cases h with
  | nil=>cases hg
  | cons t r =>
   rename_i k' m z v r0 r1
   have hg:(rwD q.1,ttV q.2) :: ttP S=_:=hg
   injection hg with h1 h2
   injection h1 with h1 h3
   have e1:q.1=k':=by
    have:=congrArg (fun d=>yR d) h1
    simpa [rwD,yR,nQ] using this
   subst e1
   rw [aP,aP,aP,ih (h2 ▸ r)]
theorem wG {ok:Ok} {x:D} {S:List (List Int)} (e:oH x=some S) (r:RA K ok pl H v x):∃ a,v = .ref a∧((S=[]∧L2.Rd H a (.dK []))∨(S ≠ []∧∃ kvs,L2.Rd H a (.dT kvs)∧kvs.map (·.1)=S.map fun k=>k.map Sum.inl)):=by
 cases x with
 | dict kvs =>
  unfold oH at e
  dsimp only at e
  cases e1:vY kvs with
  | some T =>
   rw [e1] at e
   cases e
   obtain ⟨a,rfl,h⟩:=RD (x:=.dict kvs) e1 r
   refine ⟨a,rfl,?_⟩
   rcases h with ⟨rfl,h⟩ | ⟨q,ks,h,t⟩
   ·exact .inl ⟨rfl,h⟩
   ·exact .inr ⟨(fun z=>by
     have:=Je t
     rw [z] at this
     cases this),_,h,Je t⟩
  | none =>
   rw [e1] at e
   have e:tsD kvs=some S:=e
   by_cases hS:S=[]
   ·subst hS
    cases kvs with
    | nil=>cases e1
    | cons q r0 =>
     exfalso
     unfold tsD at e
     split at e
     ·next z=>cases z
     ·obtain ⟨k,_,e2⟩:=bind1 e
      cases e3:tsD r0 with
      | none=>simp_all
      | some S'=>simp_all
     ·cases e
   ·obtain ⟨a,rfl,h⟩:=Rz (x:=.dict kvs) e hS r
    refine ⟨a,rfl,.inr ⟨hS,_,h,?_⟩⟩
    unfold dtI
    rw [fO]
    rfl
 | _=>cases e
section
variable {X:Cx} {fl:List Fl} {e:Expr} {pos:Pos}
theorem Nx (hc:X.calm=true) {fa:FA} {p:Pos} (ha:DB X fl .P [e] fa) (hg:Gl X "sorted") (hm:X.mg "sorted" = none)
 (he:starEach [e] X.env=(false,eval e X.env) :: starEach [] X.env:=by rfl) (hpl:(backTo pos (starEach [] X.env)).any (·.1)=false:=by rfl):DE X fl .FC (.Call (.Name "sorted" p) [e] [] pos) (dCall BP fa):=by
 have bs:bootBuiltins "sorted" = some (.builtin "sorted"):=by decide +kernel
 intro pins s σ H Q I h
 obtain ⟨G,ow,δ,d,R,hf,q⟩:=h
 obtain ⟨ds,e1,e2⟩:=bind1 hf
 unfold BP at e2
 split at e2
 case h_2=>cases e2
 next x =>
 obtain ⟨ks,e3,e4⟩:=bind1 e2
 by_cases hk:ks.length < 64∧(ks.all fun k=>!k.isEmpty)=true
 case neg=>rw [if_neg hk] at e4;cases e4
 rw [if_pos hk] at e4
 cases e4
 by_cases h0:ks=[]
 ·subst h0
  refine oA (XB.BL hc) hg hm bs ha (by decide) (by decide) he hpl pins s σ H Q I ⟨G,ow,δ,_,R,e1,fun vs H' sm r'=>?_⟩
  cases r' with
  | cons r1 r2 =>
   cases r2
   obtain ⟨a,rfl,hx⟩:=wG e3 r1
   have hx:L2.Rd H' a (.dK []):=by
    rcases hx with ⟨_,h⟩ | ⟨z,_⟩
    ·exact h
    ·exact absurd rfl z
   exact ⟨a,[],[],rfl,hx,rfl,by decide,fun l hn=>q _ _ (sm.trans (cH hn _)) (.inr ⟨_,_,_,rfl,rfl,sm.free hn,bN,.nil⟩)⟩
 ·refine oA (BR hc) hg hm bs ha (by decide) (by decide) he hpl pins s σ H Q I ⟨G,ow,δ,_,R,e1,fun vs H' sm r'=>?_⟩
  cases r' with
  | cons r1 r2 =>
   cases r2
   obtain ⟨a,rfl,hx⟩:=wG e3 r1
   rcases hx with ⟨z,_⟩ | ⟨_,kvs,h,hK⟩
   ·exact absurd z h0
   refine ⟨a,kvs,ks,rfl,h,hK,hk.1,fun k hk'=>?_,fun l bs hn bl hb=>q _ _ (sm.trans (cH hn _)) (.inr ⟨_,_,_,rfl,rfl,sm.free hn,bN,?_⟩)⟩
   ·have:=dN.mp hk.2 k hk'
    intro z
    subst z
    cases this
   ·have rng:∀ i ∈ nu ks,i < ks.length:=fun i hi=>by
     unfold nu at hi
     split at hi
     ·exact bO.mp hi
     ·exact bO.mp ((fZ (n:=ks.length) (by omega) (ltR ks)).mem_iff.mp hi)
    unfold iz
    rw [fO]
    have hb2:∀ i,i < ks.length→upd H' l (.lst ((nu ks).map fun i=>V.ref (bs.getD i 0))) (bs.getD i 0)=some (.tup ((ks.getD i []).map V.int)):=fun i hi=>by
     have e1:bs[i]? = some (bs.getD i 0):=by rw [aM,aO (by omega)];rfl
     have e2:ks[i]? = some (ks.getD i []):=by rw [aM,aO hi];rfl
     exact cH hn _ _ _ (hb i _ _ e1 e2)
    generalize upd H' l (.lst ((nu ks).map fun i=>V.ref (bs.getD i 0)))=Hx at hb2
    generalize nu ks=is at rng
    induction is with
    | nil=>exact .nil
    | cons i is ih=>exact .cons (.tup (hb2 i (rng i aJ)) (qu _)) (ih fun j hj=>rng j (aH _ hj))
end
def Yk (n:Bool):R2:=fun x y H Q=>∃ p b k,y = .ref p∧x = .ref b∧H b=some (.tup (kE kV k))∧((L2.Rd H p (.dK [])∧Q (.bl n) H)∨∃ kvs,L2.Rd H p (.dT kvs)∧Q (.bl (n ^^ (oJ kvs k).isSome)) H)
theorem RK (ok:HOk P w H h) (e:L2.Rd H a (.dK [])):(a == sysModules)=false∧h.DictOfH (tupleKind (bV P w)) a []:=by
 obtain ⟨_,hd,vs,rel,o,es,ep,h1,h2,h3,h4,h5,h6⟩:=zY ok e
 cases rel
 have he:es.toList=[]:=by
  have:=h5.length
  exact cO.mp this
 exact ⟨hd,o,es,ep,h1,h2,h3,he,(fun x hx=>by cases hx),List.nodup_nil⟩
theorem V3 (hu:X.A.units + 64 < cLine):OpR X (compareOp .In) (Yk false):=by
 intro pins s σ H x y v u Q I rx ry h
 obtain ⟨p,b,k,rfl,rfl,hb,h⟩:=h
 rcases h with ⟨h,q⟩ | ⟨kvs,h,q⟩
 ·obtain rfl:u=Value.ref p:=ry
  obtain rfl:v=Value.ref b:=rx
  obtain ⟨hd,dd⟩:=RK I.hok h
  exact wpAny_in_heap (tupleKind_room_in1 (by omega)) (u9 I.hok hb) hd dd ⟨.bl false,H,I.tok _,rfl,q⟩
 ·exact VN hu pins s σ H _ _ v u Q I rx ry ⟨p,oJ kvs k,rfl,.inr ⟨_,_,b,h,rfl,hb,rfl⟩,by simpa using q⟩
theorem Ej:∀ {kvs:List (List L2.Key × V)} {S:List (List Int)} (k:List Int),kvs.map (·.1)=S.map (fun k=>k.map Sum.inl)→(oJ kvs (k.map Sum.inl)).isSome=decide (k ∈ S)
 | [],[],k,_=>rfl
 | [],_ :: _,_,h=>by cases h
 | _ :: _,[],_,h=>by cases h
 | q :: kvs,k0 :: S,k,h=>by
  rw [aP,aP] at h
  injection h with h1 h2
  by_cases e:k0=k
  ·subst e
   rw [rF h1]
   simp
  ·rw [rG (fun z=>e (wF (h1.symm.trans z))),Ej k h2]
   have e2:¬ k=k0:=fun z=>e z.symm
   simp [e2]
theorem Yl:BrO K (Yk false) Ec:=by
 intro H x y dx dy d Q rx ry e q
 obtain ⟨S,e4,e5⟩:=bind1 e
 cases e6:yR dx with
 | none=>rw [e6] at e5;cases e5
 | some k =>
  rw [e6] at e5
  cases e5
  obtain ⟨b,rfl,hb⟩:=uH e6 rx
  obtain ⟨a,rfl,hx⟩:=wG e4 ry
  refine ⟨a,b,_,rfl,rfl,hb,?_⟩
  rcases hx with ⟨rfl,h⟩ | ⟨_,kvs,h,hK⟩
  ·exact .inl ⟨h,q _ rfl (.bl _)⟩
  ·refine .inr ⟨kvs,h,?_⟩
   rw [Ej k hK,Bool.false_xor]
   exact q _ rfl (.bl _)
end XJ
namespace XJ
open PySem PySem.Spec PyProof.Rows L2 My D3 XK XT XD
section
variable {X:Cx} {pins:List (Addr × Obj)} {σ:L2.St} {H H':Hp} {s:Shared} {a:Addr} {kvs:List (List L2.Key × V)} {o:Obj}
theorem uF (I:L2.Inv X pins σ H s) (h:H a=some (.dT kvs)):Bw X a :=
 ⟨fun xs z=>(by rw [I.base.tups a xs z] at h;cases h),fun o u z=>(by rw [I.base.frzs a o u z] at h;cases h),fun q p z=>(by
  rw [I.base.tbls a q p z] at h;cases h)⟩
theorem BJ (I:L2.Inv X pins σ H s) (h:H a=some (.dT kvs)) (ho:s.heap.get? a=some o):L2.Inv X pins σ (upd H a (.frz o (.dT kvs))) s:=by
 have mu:Mut (H a):=by rw [h];exact True.intro
 refine Bx I (uF I h) (by rw [h];simp) (fun b hb=>bx hb) (I.hok.write mu (.inl rfl) (fun _ _ _ q=>q) ⟨o,ho⟩ ⟨ho,?_⟩)
 exact (I.hok a _ h).stay (fun _ _ _ q=>q) (fun b q=>by rw [bx (gH q h (by intro z;cases z))];exact q) (fun b xs q=>by rw [bx (gH q h (by intro z;cases z))];exact q)
theorem xU (I:L2.Inv X pins σ H s) (hn:Bw X a) (h:H a=some (.frz o (.dT kvs))):L2.Inv X pins σ (upd H a (.dT kvs)) s:=by
 have st:∀ b u,fG X.prog X.w H s.heap b u→fG X.prog X.w (upd H a (.dT kvs)) s.heap b u:=fun b u z =>
  z.stay (fun _ _ _ q=>q) (fun c q=>by rw [bx (gH q h (by intro z;cases z))];exact q) (fun c xs q=>by rw [bx (gH q h (by intro z;cases z))];exact q)
 refine Bx I hn (by rw [h];simp) (fun b hb=>bx hb) fun b u e=>?_
 by_cases hb:b=a
 ·subst hb
  rw [bN] at e
  cases e
  exact st _ _ (I.hok b _ h).2
 ·rw [bx hb] at e
  exact st b u (I.hok b u e)
end
def Itt (o:Obj) (a:Addr) (kvs:List (List L2.Key × V)):It :=
 ⟨fun i H=>H a=some (.frz o (.dT kvs))∧i < kvs.length,fun i H x H'=>H'=H∧∃ k v b,kvs[i]? = some (k,v)∧x = .ref b∧H b=some (.tup (kE kV k)),fun i H=>H a=some (.frz o (.dT kvs))∧kvs.length ≤ i⟩
theorem xV {σ:L2.St} {kvs:List (List L2.Key × V)} {o:Obj} {es:Array DictEntry} {ep:Nat} (I:L2.Inv X pins σ H s) (h:H a=some (.frz o (.dT kvs))) (hd:o.data = .dict es ep) :
 ∃ xs,KT H kvs xs∧TD.vZ s.heap a es ep∧es.toList=xs.map (entryOfKey (tupleKind (bV X.prog X.w))):=by
 obtain ⟨ho,_,_,xs,rel,o',es',ep',e',c1,c2,c3,_⟩:=I.hok a _ h
 rw [ho] at e'
 cases e'
 rw [hd] at c2
 cases c2
 exact ⟨xs,rel,⟨o,ho,c1,hd⟩,c3⟩
theorem Ny:∀ {kvs:List (List L2.Key × V)} {xs:List (List L2.Key × Addr × Value)},KT H kvs xs→∀ {i:Nat} {x:List L2.Key × Addr × Value},xs[i]? = some x→∃ k v,kvs[i]? = some (k,v)∧H x.2.1=some (.tup (kE kV k))
 | _,_,.nil,i,x,h=>by simp at h
 | _,_,.cons (a:=p) (b:=q) h t,0,x,hx=>by
  simp at hx
  subst hx
  exact ⟨p.1,p.2,rfl,h.2.1⟩
 | _,_,.cons h t,i + 1,x,hx=>Ny t (i:=i) (by simpa using hx)
theorem Ek (o:Obj) (a it:Addr) (kvs:List (List L2.Key × V)) {es:Array DictEntry} {ep:Nat} (hd:o.data = .dict es ep):Turn P w K tg (Itt o a kvs) [it] it (fun i h=>h.IsKeyIter it a i kvs.length ep) where
 mem:=by simp
 obj:=fun i h st b hb=>by
  have e:b=it:=by simpa using hb
  subst e
  obtain ⟨o,e,c,d⟩:=st
  exact ⟨o,e,fun v z=>by rw [d] at z;cases z⟩
 keep:=fun i h h' st k=>by
  obtain ⟨o,e,r⟩:=st
  exact ⟨o,k it (by simp) o e,r⟩
 item:=by
  intro X hP hw hK hc i pins s σ H E I hf st hg
  subst hP hw hK
  obtain ⟨hq,hi⟩:=hg
  obtain ⟨xs,rel,dat,he⟩:=xV I hq hd
  have ln:kvs.length=xs.length:=Paired.length rel
  have le:es.size=xs.length:=by rw [← cj,he,aC]
  obtain ⟨f0,f1,f2,f3,f4,f5⟩:=hf it (by simp)
  obtain ⟨x,hx⟩:∃ p,xs[i]? = some p:=⟨xs[i],by simp [ln ▸ hi]⟩
  obtain ⟨k,v,hk,hb⟩:=Ny rel hx
  have hes:es[i]? = some (entryOfKey (tupleKind (bV X.prog X.w)) x):=by rw [← iu,he,aR,hx];rfl
  rw [ln,← le] at st
  refine TD.Nm st dat hes fun h' hit' hs'=>?_
  have I1:L2.Inv X pins σ H { s with heap:=h' }:=I.turned (t':=s.toks) (fun b o hb e=>(hs'.2 b hb).trans e) f0 f1 f3 f4 f5
  obtain ⟨oi,e,c,d⟩:=id hit'
  exact ⟨_,rfl,C_ (s:={ s with heap:=h' }) e c d (by decide) ⟨.ref x.2.1,H,I1,rfl,⟨rfl,k,v,_,hk,rfl,hb⟩,by rw [ln,← le];exact hit',fun b hb=>(hf b hb).1⟩⟩
 done:=by
  intro X hP hw hK hc i pins s σ H E I hf st hg
  subst hP hw hK
  obtain ⟨hq,hi⟩:=hg
  obtain ⟨xs,rel,dat,he⟩:=xV I hq hd
  have ln:kvs.length=xs.length:=Paired.length rel
  have le:es.size=xs.length:=by rw [← cj,he,aC]
  rw [ln,← le] at st hi
  obtain ⟨f0,f1,f2,f3,f4,f5⟩:=hf it (by simp)
  exact TD.Np (I.ok.hd hc) st dat (lN hi) fun h' eb=>⟨rfl,I.turned (t':=s.toks) (fun b o hb e=>eb b o hb e) f0 f1 f3 f4 f5⟩
 self:=fun _ _ _ _ _ st h=>wpAny_pyIter_keyiter st h
def Qu (X:Cx) (tl:TE):TI:=fun σ H R=>tl σ H fun x H1=>∃ a kvs,x = .ref a∧((H1 a=some (.dT kvs)∧∀ o,Bw X a→R (Itt o a kvs) (upd H1 a (.frz o (.dT kvs))))∨∃ o,H1 a=some (.frz o (.dT kvs))∧R (Itt o a kvs) H1)
theorem Gi {l:Expr} (hl:PE X l tl):PI X tg l (Qu X tl):=by
 intro pins s σ H R I h
 refine thn (hl pins s σ H _ I h) fun v s1 ⟨x,H1,I1,r1,q1⟩=>?_
 obtain ⟨a,kvs,e,q⟩:=q1
 subst e
 cases r1
 have rd:L2.Rd H1 a (.dT kvs):=q.elim (fun z=>.inl z.1) (fun ⟨o,z,_⟩=>.inr ⟨o,z⟩)
 obtain ⟨_,lo,vs,rel,ob,es,ep,eo,c1,hd,c3,_⟩:=Ef I1.hok rd
 have le:es.size=kvs.length:=by rw [← cj,c3,aC,(Paired.length rel).symm]
 refine TD.Nk lo ⟨ob,eo,c1,hd⟩ ?_
 have Ip:L2.Inv X pins σ H1 { s1 with heap:=s1.heap.push { cls:=.type "dict_keyiterator", data:=.fields #[.ref a,.int 0 0,.int es.size 0,.int ep 0] } }:=I1.kept (t':=s1.toks) fun b o e=>Heap.get?_push_of_some _ e
 have st:(s1.heap.push { cls:=.type "dict_keyiterator", data:=.fields #[.ref a,.int 0 0,.int es.size 0,.int ep 0] }).IsKeyIter s1.heap.objs.size a 0 kvs.length ep:=⟨_,Heap.get?_push_size _ rfl,rfl,by rw [← le];rfl⟩
 have fr:H1 s1.heap.objs.size=none:=I1.hok.fresh (aL _)
 rcases q with ⟨hq,q⟩ | ⟨o,hq,q⟩
 ·refine ⟨s1.heap.objs.size,[s1.heap.objs.size],_,_,_,rfl,BJ Ip hq (Heap.get?_push_of_some _ eo),Ek ob a _ kvs hd,st,fun b hb=>?_,q ob (uF I1 hq)⟩
  have e:b=s1.heap.objs.size:=by simpa using hb
  subst e
  refine I1.fpOk (aL _) ?_
  rw [bx (fun z=>by rw [z,hq] at fr;cases fr)]
  exact fr
 ·have eq:ob=o:=by
   have:=(I1.hok a _ hq).1
   rw [eo] at this
   exact cJ.inj this
  subst eq
  refine ⟨s1.heap.objs.size,[s1.heap.objs.size],_,_,_,rfl,Ip,Ek ob a _ kvs hd,st,fun b hb=>?_,q⟩
  have e:b=s1.heap.objs.size:=by simpa using hb
  subst e
  exact I1.fpOk (aL _) fr
section
variable {K:PySem.W.Frag} {H:Hp} {a:Addr} {kvs:List (List L2.Key × V)} {o:Obj}
mutual
theorem xW {ok:Ok} (h:H a=some (.dT kvs)):∀ {v:V} {d:D},RA K ok true H v d→RA K ok true (upd H a (.frz o (.dT kvs))) v d
 | _,_,.non=>.non
 | _,_,.bl b=>.bl b
 | _,_,.int i=>.int i
 | _,_,.str x=>.str x
 | _,_,.lst e k q=>.lst (by rw [bx (gH e h (by intro z;cases z))];exact e) k (nR h q)
 | _,_,.lsk e k q=>.lsk (by
  rcases e with ⟨o',e⟩ | e
  ·exact .inl ⟨o',by rw [bx (gH e h (by intro z;cases z))];exact e⟩
  ·exact .inr e) k (nR h q)
 | _,_,.tup e q=>.tup (by unfold iW;rw [bx (gH e h (by intro z;cases z))];exact e) (nR h q)
 | _,_,.dic (a:=b) e g k=>by
  by_cases hb:b=a
  ·subst hb
   have g':=g.upd (o:=.frz o (.dT kvs)) h
   rw [h] at e
   exact .dik (by rw [bN];injection e with e;rw [e]) g' rfl
  ·exact .dic (by rw [bx hb];exact e) (g.upd h) k
 | _,_,.dik e g k=>.dik (by rw [bx (gH e h (by intro z;cases z))];exact e) (g.upd h) k
theorem nR {ok:Ok} (h:H a=some (.dT kvs)):∀ {v:List V} {d:List D},RAs K ok true H v d→RAs K ok true (upd H a (.frz o (.dT kvs))) v d
 | _,_,.nil=>.nil
 | _,_,.cons e q=>.cons (xW h e) (nR h q)
end
mutual
theorem BK {ok:Ok} (h:H a=some (.frz o (.dT kvs))):∀ {v:V} {d:D},RA K ok false H v d→RA K ok false (upd H a (.dT kvs)) v d
 | _,_,.non=>.non
 | _,_,.bl b=>.bl b
 | _,_,.int i=>.int i
 | _,_,.str x=>.str x
 | _,_,.lst e k q=>.lst (by rw [bx (gH e h (by intro z;cases z))];exact e) k (mj h q)
 | _,_,.lsk e k q=>by cases k
 | _,_,.tup e q=>.tup (by unfold iW;rw [bx (gH e h (by intro z;cases z))];exact e) (mj h q)
 | _,_,.dic e g k=>.dic (by rw [bx (gH e h (by intro z;rcases g.or with ⟨ks,y⟩ | ⟨ks,y⟩ <;> (rw [y] at z;cases z)))];exact e) (g.imp fun _ _ t=>by unfold iW;rw [bx (gH t h (by intro z;cases z))];exact t) k
 | _,_,.dik e _ k=>by cases k
theorem mj {ok:Ok} (h:H a=some (.frz o (.dT kvs))):∀ {v:List V} {d:List D},RAs K ok false H v d→RAs K ok false (upd H a (.dT kvs)) v d
 | _,_,.nil=>.nil
 | _,_,.cons e q=>.cons (BK h e) (mj h q)
end
end
section
variable {X:Cx} {fl fl':List Fl} {e b c elt tg iter:Expr} {es ifs:List Expr} {k:Kd} {f fa fb fc fx:FE} {ft gt:FT} {pos:Pos} {scope:Scope} {ix L TT:List Nat} {fi:FA} {g:FG}
theorem Nz {o:Obj} {kvs:List (List L2.Key × V)} {S:List (List Int)} (hK:kvs.map (·.1)=S.map fun k=>k.map Sum.inl) (h:H1 a=some (.frz o (.dT kvs))):∀ H2,Same H1 H2→∀ i:Nat,(∀ d,(S.map rwD)[i]? = some d→(Itt o a kvs).go i H2∧∀ x H3,(Itt o a kvs).yld i H2 x H3→Same H2 H3∧RA K ok1 true H3 x d)∧((S.map rwD).length ≤ i→(Itt o a kvs).stop i H2):=by
 intro H2 s2 i
 have ln:kvs.length=S.length:=by
  have:=congrArg lB hK
  rwa [aC,aC] at this
 refine ⟨fun d hd=>?_,fun hi=>⟨s2 _ _ h,by rw [ln];simpa using hi⟩⟩
 rw [aR] at hd
 cases e:S[i]? with
 | none=>rw [e] at hd;cases hd
 | some k0 =>
  rw [e] at hd
  cases hd
  have hi:i < S.length:=by
   rcases d_ i S.length with z | z
   ·exact z
   ·rw [bH z] at e;cases e
  refine ⟨⟨s2 _ _ h,by omega⟩,fun x H3 hy=>?_⟩
  obtain ⟨rfl,k,v,b,hk,rfl,hb⟩:=hy
  have ek:k=k0.map Sum.inl:=by
   have:=congrArg (fun l=>l[i]?) hK
   simp only [aR,hk,e,iD,cJ.injEq] at this
   exact this
  subst ek
  rw [jO] at hb
  exact ⟨Same.refl _,.tup hb (qu _)⟩
def Jf (X:Cx) (Q:VK):VK:=fun v H2=>Q v H2∨∃ a o kvs,Bw X a∧H2 a=some (.frz o (.dT kvs))∧Q v (upd H2 a (.dT kvs))
theorem RM {σ:L2.St} {H:Hp} {Q:VK} {T:List Str} (hfl:∀ i,i < T.length + ix.length→fl'[i]? = some .A) (htg:∀ j ∈ TT,j < T.length) (h:tD X.K fl .FC (gW (IW fx) g ft f T.length ix) σ H Q) :
 zF (Qu X (tD X.K fl .P fx)) (tDG X.K fl' TT g) (tDT X.K fl' ft) (tD X.K fl' .C f) T.length (qj T.length ix) σ H (Jf X Q):=by
 obtain ⟨G,ow,δ,d,R,hf,q⟩:=h
 obtain ⟨l,e1,e2⟩:=bind1 hf
 by_cases hl:l.length ≤ 100000
 case neg=>rw [if_neg hl] at e2;cases e2
 rw [if_pos hl] at e2
 obtain ⟨r,e3,e4⟩:=bind1 e2
 cases e4
 obtain ⟨x,e5,e6⟩:=bind1 e1
 cases e7:oH x with
 | none=>rw [e7] at e6;cases e6
 | some qs =>
 rw [e7,aK] at e6
 by_cases hne:qs=[]
 ·rw [if_pos hne] at e6;cases e6
 rw [if_neg hne] at e6
 cases e6
 refine ⟨G,ow,δ,x,R,e5,fun v H1 s1 r1=>?_⟩
 have R1:=R.grow s1
 have C1:=Bc (fl':=fl') T.length ix hfl R1 (Same.refl H1)
 obtain ⟨a,rfl,hr⟩:=wG e7 r1
 rcases hr with ⟨z,_⟩ | ⟨_,kvs,hr,hK⟩
 ·exact absurd z hne
 refine ⟨a,kvs,rfl,?_⟩
 rcases hr with hr | ⟨o,hr⟩
 ·refine .inl ⟨hr,fun o lo Dl hD=>?_⟩
  have hDa:Dl ≠ a:=fun z=>by rw [z,bN] at hD;cases hD
  have tb2:Tb (upd H1 a (.frz o (.dT kvs))):=fun t ht=>by rw [bx (gH (C1.tb t ht) hr (by simp))];exact C1.tb t ht
  have C2:Rel X.K fl' ⟨upd H1 a (.frz o (.dT kvs)),upd H1 a (.frz o (.dT kvs)),fun _=>none,fun _=>[],tb2⟩ ow0 (qj T.length ix σ) (upd H1 a (.frz o (.dT kvs))) (iw T.length ix δ):=by
   refine ⟨Same.refl _,Same.refl _,C1.len,fun i b h=>(by cases h),fun i j b h=>(by cases h),fun i h=>rfl,fun i d h1 hn h2=>?_,C1.oo,fun i b h=>(by cases h),fun i j b h=>(by cases h),fun i j b h=>(by cases h),fun i h=>rfl,fun i d hn h1=>?_⟩
   ·obtain ⟨v,h3,h4⟩:=C1.dat i d h1 hn h2
    exact ⟨v,h3,xW hr h4⟩
   ·have hi:i < T.length + ix.length:=by
     have h2:i < (iw T.length ix δ).length:=by
      rcases d_ i (iw T.length ix δ).length with z | z
      ·exact z
      ·rw [bH z] at h1;cases h1
     unfold iw at h2
     simpa using h2
    rw [hfl i hi] at hn
    cases hn
  refine uG (Q:=Jf X Q) htg C2 hl e3 hD (Nz hK bN) fun H2 xs s2 hDl rs=>Or.inr ⟨a,o,kvs,lo,s2 _ _ bN,?_⟩
  have sm:Same H (upd H2 a (.dT kvs)):=fun b u hb=>by
   by_cases z:b=a
   ·subst z
    have:=s1 _ _ hb
    rw [hr] at this
    rw [bN]
    exact this
   ·rw [bx z]
    exact s2 b u (by rw [bx z];exact s1 b u hb)
  refine q _ _ sm (.inr ⟨Dl,xs,r,rfl,rfl,s1.free (by rw [bx hDa] at hD;exact hD),by rw [bx hDa];exact hDl,?_⟩)
  refine (mj (s2 _ _ bN) rs).imp (fun b z=>⟨?_,z.2⟩) (fun z=>z)
  have z1:=z.1
  unfold okN at z1 ⊢
  have hb:b ≠ a:=fun w=>by rw [w,bN] at z1;cases z1
  rw [bx hb] at z1
  exact s1.free z1
 ·refine .inr ⟨o,hr,fun Dl hD=>?_⟩
  have C2:Rel X.K fl' ⟨H1,H1,fun _=>none,fun _=>[],C1.tb⟩ ow0 (qj T.length ix σ) H1 (iw T.length ix δ):=C1
  refine uG (Q:=Jf X Q) htg C2 hl e3 hD (Nz hK hr) fun H2 xs s2 hDl rs=>Or.inl (q _ _ (s1.trans s2) (.inr ⟨Dl,xs,r,rfl,rfl,s1.free hD,hDl,rs.imp (fun b z=>⟨s1.free z.1,z.2⟩) (fun z=>z)⟩))
theorem NK {x:D} (h:oH x=some []):x = .dict []:=by
 cases x with
 | dict kvs =>
  cases kvs with
  | nil=>rfl
  | cons q r =>
   exfalso
   unfold oH at h
   dsimp only at h
   split at h
   ·next S e =>
    have hS:S=[]:=by
     injection h with h
     exact List.map_eq_nil_iff.mp h
    subst hS
    have:=Bu e
    cases this
   ·unfold tsD at h
    split at h
    ·next z=>cases z
    ·obtain ⟨k,_,e2⟩:=bind1 h
     cases e3:tsD r with
     | none=>simp_all
     | some S'=>simp_all
    ·cases h
 | _=>cases h
theorem NP (hc:X.calm=true) (T Vn:List Str) (ix:List Nat) (hi:DE X fl .P iter fx)
 (hg:∀ cl C s3 H3 fp,DG (blk X (T++Vn) scope cl C s3 H3 fp) fl' TT tg g) (ht:∀ cl C s3 H3 fp,PTs (blk X (T++Vn) scope cl C s3 H3 fp) ifs (tDT X.K fl' ft)) (he:∀ cl C s3 H3 fp,DE (blk X (T++Vn) scope cl C s3 H3 fp) fl' .C elt f)
 (hfl:∀ i,i < T.length + ix.length→fl'[i]? = some .A:=by decide) (htg:∀ j ∈ TT,j < T.length:=by decide)
 (hB:uP X.N X.env.scope.names scope.names Vn ix=true:=by rfl) (hk:scope.kind = .function:=by rfl) (hcell:∀ y ∈ scope.names,y.2 ≠ .cell:=by decide +kernel)
 (hnames:∀ x ∈ scope.names,x.2 = .local→scope.names.lookup x.1=some .local:=by decide +kernel)
 (hfr:∀ x ∈ scope.names,x.2 = .free→x.1 ∈ Vn:=by decide +kernel) (hs:∀ x,foldedSetIterable iter X.env x=pure x:=by intro _;rfl) :
 DE X fl .FC (.ListComp elt [⟨tg,iter,ifs,0⟩] scope pos) (gW (M8 fx) g ft f T.length ix):=by
 intro pins s σ H Q I h
 obtain ⟨G,ow,δ,d,R,hf,q⟩:=h
 obtain ⟨l,e1,e2⟩:=bind1 hf
 obtain ⟨x,e5,e6⟩:=bind1 e1
 cases e7:oH x with
 | none=>rw [e7] at e6;cases e6
 | some S =>
 rw [e7] at e6
 cases e6
 by_cases hS:S=[]
 ·subst hS
  have hx:x = .dict []:=NK e7
  have h':gW (Eb fx) g ft f T.length ix δ=some d:=by
   unfold gW
   rw [show Eb fx δ=some [] by unfold Eb;rw [e5,hx];rfl]
   exact e2
  exact Nf hc T Vn ix hi hg ht he hfl htg hB hk hcell hnames hfr hs pins s σ H Q I ⟨G,ow,δ,d,R,h',q⟩
 have h':gW (IW fx) g ft f T.length ix δ=some d:=by
  unfold gW
  rw [show IW fx δ=some (S.map rwD) by unfold IW;rw [e5,aK,e7,aK,if_neg hS]]
  exact e2
 have run:=Ax (g:=tDG X.K fl' TT g) (tt:=tDT X.K fl' ft) (te:=tD X.K fl' .C f) (pos:=pos) hc T Vn ix (Gi hi) hg ht he hB hk hcell hnames hfr hs pins s σ H (Jf X Q) I (RM hfl htg ⟨G,ow,δ,d,R,h',q⟩)
 refine thn run fun v s' ⟨x,H2,I2,rx,hq⟩=>?_
 rcases hq with hq | ⟨a,o,kvs,lo,ha,hq⟩
 ·exact ⟨x,H2,I2,rx,hq⟩
 ·exact ⟨x,_,xU I2 lo ha,rx,hq⟩
end
end XJ
namespace HT
open PySem PySem.Spec PyProof.Rows L2
section
variable {prog:Program} {w:World} {A:Around} {E:Value→Shared→Prop} {s:Shared}
theorem RN {t sl:Addr} {items:Array Value} (ht:IsTup s.heap t items) (hs:s.heap.IsSliceOf sl vl vu .none) (pl:IsPart vl lo) (pu:IsPart vu hi)
 (hw:sIx items.size 0 lo=0∧sIx items.size items.size hi=items.size) (h:Q (.ref t) s):wpAny (model prog w) A (getItem (.ref t) (.ref sl)) Q E s:=by
 obtain ⟨os,hos,hcs,hds⟩:=id hs
 have ty:s.TypeIs (.ref sl) "slice" := ⟨os,hos,hcs⟩
 unfold getItem
 try with_reducible refine wpAny_holding ?_
 first | refine wpAny_bind (wpAny_pure ?_) | skip
 refine wpAny_bind (wpAny_sequenceKey ht.typeIs (by decide) (wpAny_bind (wpAny_callSpecial?_slot (name:=Str.ofString "__getitem__") ht.typeIs PyProof.Rows.slot_tuple_getitem (wpAny_call_entry PyProof.Rows.slot_tuple_getitem ht.typeIs entry_tuple_getitem ?_ (args_tuple_getitem _ _)))))
 refine wpAny_bind (m:=Builtin.Tuple.tupleItemsOf (.ref t)) (tupleItemsOf_ ht (wpAny_bind (wpAny_typeOf ty ?_)))
 rw [if_pos (by decide)]
 refine wpAny_bind (pK hs pl pu ?_)
 have yes:(((sIx items.size 0 lo:Nat):Int) == 0 && (1:Int) == 1 && (sIx items.size items.size hi - sIx items.size 0 lo) == items.size)=true:=by
  rw [hw.1,hw.2]
  simp
 show wpAny _ _ (if (((sIx items.size 0 lo:Nat):Int) == 0 && (1:Int) == 1 && (sIx items.size items.size hi - sIx items.size 0 lo) == items.size)=true then _ else _) _ _ s
 rw [if_pos yes]
 unfold Builtin.Tuple.tupleIsExact
 refine wpAny_bind (wpAny_bind (wpAny_typeOf ht.typeIs (wpAny_pure ?_)))
 rw [if_pos (by decide)]
 exact wpAny_bind (wpAny_rule (wpAny_pure ⟨_,rfl,wpAny_pure h⟩))
end
end HT
namespace D3
open PySem PySem.Spec PyProof.Rows L2 My
def Z0 (K:PySem.W.Frag):V→Option Int→Option Int→Hp→VK→Prop:=fun x lo hi H Q=>∃ a xs,x = .ref a∧SqT K H a xs∧HT.sIx xs.length 0 lo=0∧HT.sIx xs.length xs.length hi=xs.length∧Q (.ref a) H
theorem NQ:SlR X (Z0 X.K):=by
 intro pins s σ H x v vl vu lo hi sl Q I rx hs pl pu h
 obtain ⟨a,xs,rfl,hx,h1,h2,q⟩:=h
 cases rx
 obtain ⟨its,r,ht,hz⟩:=I.tuple hx
 have hlen:its.toArray.size=xs.length:=by rw [aU];exact r.length.symm
 exact ⟨"tuple", _,PyProof.Rows.slot_tuple_getitem.lookup,ht.typeIs,HT.RN ht hs pl pu (by rw [hlen];exact ⟨h1,h2⟩) ⟨.ref a,H,I,rfl,q⟩⟩
section
variable {X:Cx} {fl:List Fl} {a e:Expr} {f:FE} {pos:Pos}
theorem vd (h:flats l=true) (lo hi:Option Int):flats (cutD l lo hi)=true:=by
 have dr:∀ (n:Nat) (l:List D),flats l=true→flats (l.drop n)=true:=fun n=>by
  induction n with
  | zero=>exact fun l h=>h
  | succ n ih =>
   intro l h
   cases l with
   | nil=>rfl
   | cons d l=>rw [flats,aY] at h;exact ih l h.2
 have tk:∀ (n:Nat) (l:List D),flats l=true→flats (l.take n)=true:=fun n=>by
  induction n with
  | zero=>exact fun l h=>by simp [flats]
  | succ n ih =>
   intro l h
   cases l with
   | nil=>rfl
   | cons d l =>
    rw [flats,aY] at h
    rw [List.take_succ_cons,flats,aY]
    exact ⟨h.1,ih l h.2⟩
 exact tk _ _ (dr _ _ h)
theorem NT {lo hi:Option Expr} {p2:Pos} {fl1:FO} (h:DE X fl .P a f) (h1:PO X lo (tDO X.K fl fl1)) (h2:PO X hi (tDO X.K fl fh)):DE X fl .FC (.Subscript a (.Slice lo hi none p2) pos) (yU f fl1 fh):=PE.imp (Dj (NQ.or Vc) h h1 h2) fun σ H Q h=>by
 obtain ⟨G,ow,δ,d,R,hf,q⟩:=h
 obtain ⟨x,e1,hf⟩:=bind1 hf
 obtain ⟨o1,e2,hf⟩:=bind1 hf
 obtain ⟨o2,e3,e4⟩:=bind1 hf
 refine ⟨G,ow,δ,x,R,e1,fun v H1 s1 r1=>⟨G,ow,δ,o1,R.grow s1,e2,fun H2 s2=>⟨G,ow,δ,o2,R.grow (s1.trans s2),e3,fun H3 s3=>?_⟩⟩⟩
 obtain ⟨l,rfl⟩:∃ l,x = .tuple l:=by
  cases x <;> first | exact ⟨_,rfl⟩ | cases e4
 dsimp only at e4
 by_cases hfl:flats l=true
 case neg=>rw [if_neg hfl] at e4;cases e4
 rw [if_pos hfl] at e4
 cases e4
 obtain ⟨p,xs,rfl,hx,hr⟩:=r1.tupE0
 have s13:=s2.trans s3
 have ln:xs.length=l.length:=hr.length
 have hx3:iW H3 p xs:=iW.same s13 hx
 have hr3:=hr.same s13
 by_cases hw:HT.sIx xs.length 0 o1=0∧HT.sIx xs.length xs.length o2=xs.length
 ·refine .inl ⟨p,xs,rfl,.inl (.inl hx3),hw.1,hw.2,q _ _ (s1.trans s13) (.inl ⟨vd hfl o1 o2,?_⟩)⟩
  have:cutD l o1 o2=l:=by
   unfold cutD
   rw [← ln,← Bf,← Bf,hw.1,hw.2,ln]
   simp
  rw [this]
  exact .tup hx3 (RAs.flat hfl hr3)
 ·refine .inr ⟨p,xs,rfl,.inl (.inl hx3),hw,fun pn hp=>q _ _ ((s1.trans s13).trans (cH hp _)) (.inl ⟨vd hfl o1 o2,?_⟩)⟩
  exact .tup (show iW _ _ _ from bN) (RAs.flat (vd hfl o1 o2) ((hr3.same (cH hp _)).cut o1 o2))
theorem z8 (hc:X.calm=true):lQ X (.builtin "max") (fun xs H Q=>∃ (p:Addr) (i:Int) (r:List Int),xs=[.ref p]∧SqT X.K H p ((i :: r).map V.int)∧Q (.int (mxI i r)) H):=by
 intro pins s σ H xs us Q I r h
 obtain ⟨p,i,r0,rfl,hx,q⟩:=h
 obtain ⟨u,rfl,rx⟩:=vals1 r
 cases rx
 obtain ⟨its,rvs,pl,hz⟩:=I.tuple hx
 have hi:=uw rvs
 obtain ⟨xs,e⟩:=hi.allInts.items
 have hns:i :: r0=xs.toList.map (·.1):=by rw [← hi.numsOf,← nums_intItems,← e]
 have hsz:0 < xs.size:=by
  have h3:0 < (i :: r0).length:=by simp
  rw [hns,aC,cj] at h3;exact h3
 have hl:s.heap.IsTuple p (intItems xs):=by
  rw [← e]
  obtain ⟨o,g1,g2,n,g3⟩:=pl
  exact ⟨o,g1,g2,n,g3⟩
 have hlt:p < s.heap.objs.size:=by obtain ⟨o,g1,_⟩:=hl;exact Heap.lt_size g1
 refine call_max_walk (wpAny_pyIter_tuple hl ?_)
 refine ⟨_,_,_,_,_,_,_,rfl,Walks.tuple (A:=X.A.in1) (I.ok.hd hc) _ p (aQ hlt) (intItems xs),⟨⟨_,Heap.get?_push_size _ rfl,rfl,rfl⟩,hl.push _⟩,fun b hb=>?_,by simpa [intItems] using hsz,CmpOf.ints_gt (numAt xs) (fun _ _=>intItems_at),fun v h' tk hP hk=>?_⟩
 ·show b < (s.heap.push _).objs.size
  rw [Heap.size_push]
  simp at hb
  rcases hb with rfl | rfl
  ·exact je _
  ·exact oU hlt
 have hv:(intItems xs)[argBest (fun i j=>decide (numAt xs i > numAt xs j)) (xs.size - 1)]? = some v:=by simpa [intItems] using hP
 obtain ⟨t,rfl⟩:=intItems_at hv
 obtain ⟨h1,h2⟩:=argBest_gt (numAt xs) (xs.size - 1)
 have m1:numAt xs (argBest (fun i j=>decide (numAt xs i > numAt xs j)) (xs.size - 1)) ∈ i :: r0:=by
  rw [hns,numAt_eq];exact getD_mem (by rw [aC,cj];omega)
 have m2:∀ a ∈ i :: r0,a ≤ numAt xs (argBest (fun i j=>decide (numAt xs i > numAt xs j)) (xs.size - 1)):=fun a ha=>by
  rw [hns] at ha
  obtain ⟨j,hj,rfl⟩:=mem_getD ha
  rw [aC,cj] at hj
  rw [← numAt_eq];exact h2 j (by omega)
 have sp:=xg r0 i
 have eq:numAt xs (argBest (fun i j=>decide (numAt xs i > numAt xs j)) (xs.size - 1))=mxI i r0:=Int.le_antisymm (sp.2 _ m1) (m2 _ sp.1)
 rw [eq]
 exact ⟨.int _,H,I.kept fun b o eb=>hk b o (fun z=>by
  rw [aN.mp z] at eb
  exact absurd (Heap.lt_size eb) (gP _)) (Heap.get?_push_of_some _ eb),⟨_,rfl⟩,q⟩
theorem NZ:BrC K (fun xs H Q=>∃ (p:Addr) (i:Int) (r:List Int),xs=[.ref p]∧SqT K H p ((i :: r).map V.int)∧Q (.int (mxI i r)) H) vL:=by
 intro H xs ds d Q r e q
 unfold vL at e
 split at e
 ·next l =>
  split at e
  ·next i r0 e2 =>
   cases e
   cases r with
   | cons r1 r2 =>
    cases r2
    obtain ⟨a,ys,rfl,hx,hr⟩:=r1.tupE
    obtain rfl:=ux e2 hr
    exact ⟨a,i,r0,rfl,hx,q _ rfl (.int _)⟩
  ·cases e
 ·cases e
end
end D3
namespace TE2
open PySem PySem.Spec PyProof.Rows
section
variable {prog:Program} {w:World} {A:Around} {E:Value→Shared→Prop} {s:Shared} {it t:Addr} {i:Nat} {items:Array Value}
theorem RP {x:Value} (g:s.heap.IsTupleIter it t i) (ht:s.heap.IsTuple t items) (hx:items[i]? = some x) (q:∀ h',h'.IsTupleIter it t (i + 1)→Heap.SameBut it s.heap h'→Q x { s with heap:=h' }):wpAny (model prog w) A (Builtin.SmallTypes.nextOf (.ref it)) Q E s:=by
 obtain ⟨o,ho,hc,hd⟩:=id g
 obtain ⟨ol,h1,_,nl,h2⟩:=ht
 unfold Builtin.SmallTypes.nextOf
 refine wpAny_bind (wpAny_callSpecial?_slot (name:=Str.ofString "__next__") g.typeIs F.slot_tuple_iterator_next (wpAny_call_entry F.slot_tuple_iterator_next g.typeIs F.entry_tuple_iterator_next ?_ (F.args_tuple_iterator_next_1 _)))
 refine wpAny_bind (m:=field (.ref it) 0) (wpAny_field ho hd (x:=.ref t) rfl ?_)
 show wpAny _ _ (if (Value.ref t == Value.none)=true then _ else _) _ _ s
 rw [if_neg (show ¬ ((Value.ref t == Value.none)=true) from cg)]
 refine wpAny_bind (m:=field (.ref it) 1) (wpAny_field ho hd (x:=.int i 0) rfl (wpAny_bind (m:=seqItems? (.ref t)) (wpAny_seqItems h1 h2 ?_)))
 simp only [jK,hx]
 refine wpAny_bind (wpAny_setField ho hd (by simp) (wpAny_pure ⟨x,rfl,wpAny_pure (q _ ⟨_,Heap.get?_update_self _ ho (Obj.isFreed_of_fields (Obj.data_mapFields hd _)),(Obj.cls_mapFields ..).trans hc,?_⟩ (Heap.SameBut.update ..))⟩))
 rw [Obj.data_mapFields hd];simp [rawInt]
theorem N5 (hh:A.handled=none) (g:s.heap.IsTupleIter it t i) (ht:s.heap.IsTuple t items) (hx:items[i]? = none)
 (q:∀ h' e,Heap.ExtBut it s.heap h'→(∃ o,h'.get? e=some o∧o.cls = .type "StopIteration")→E (.ref e) { s with heap:=h' }):wpAny (model prog w) A (Builtin.SmallTypes.nextOf (.ref it)) Q E s:=by
 obtain ⟨o,ho,hc,hd⟩:=id g
 obtain ⟨ol,h1,_,nl,h2⟩:=ht
 unfold Builtin.SmallTypes.nextOf
 refine wpAny_bind (wpAny_callSpecial?_slot (name:=Str.ofString "__next__") g.typeIs F.slot_tuple_iterator_next (wpAny_call_entry F.slot_tuple_iterator_next g.typeIs F.entry_tuple_iterator_next ?_ (F.args_tuple_iterator_next_1 _)))
 refine wpAny_bind (m:=field (.ref it) 0) (wpAny_field ho hd (x:=.ref t) rfl ?_)
 show wpAny _ _ (if (Value.ref t == Value.none)=true then _ else _) _ _ s
 rw [if_neg (show ¬ ((Value.ref t == Value.none)=true) from cg)]
 refine wpAny_bind (m:=field (.ref it) 1) (wpAny_field ho hd (x:=.int i 0) rfl (wpAny_bind (m:=seqItems? (.ref t)) (wpAny_seqItems h1 h2 ?_)))
 simp only [jK,hx]
 refine wpAny_bind (wpAny_rule (wpAny_bind (wpAny_setField ho hd (by simp) ?_)))
 refine wpAny_bind (m:=newExc (.type "StopIteration") []) ?_
 simp only [newExc,newTuple]
 refine wpAny_bind (wpAny_newObj_type (wpAny_bind (m:=firstArgMember _ _) (wpAny_of_eq (a:=Value.none) (by first | rfl | (simp only [firstArgMember];rfl)) (wpAny_newObj_type ?_ (by size_fits)))) (by size_fits))
 simp only [raiseNew]
 refine wpAny_bind (wpAny_handled ?_)
 rw [show A.in1.handled=none from hh]
 refine wpAny_bind (wpAny_pure (wpAny_throw ?_))
 exact q _ _ (((Heap.SameBut.update ..).extBut.push _).push _) ⟨_,Heap.get?_push_size _ rfl,rfl⟩
theorem draws (hh:A.handled=none) (it t:Addr) (hne:t ≠ it) (items:Array Value):Draws prog w A it [it,t] items.size (fun i v=>items[i]? = some v) (fun i h=>h.IsTupleIter it t i∧h.IsTuple t items) where
 live:=fun _ _ st=>let ⟨o,ho,_⟩:=st.1;⟨o,ho⟩
 frame:=fun _ _ _ st hk=>⟨st.1.at fun o e=>hk it (by simp) o e,st.2.at fun o e=>hk t (by simp) o e⟩
 item:=fun i s Q E hi st hQ=>RP st.1 st.2 (x:=items[i]) (by simp [hi]) fun h' g hs=>hQ _ h' s.toks (by simp [hi]) ⟨g,st.2.extBut hs.extBut hne⟩ hs
 done:=fun s Q E st hE=>N5 hh st.1 st.2 (by simp) hE
end
open AutoSeq1 (wpAny_loadPart')
theorem N6 (l:Addr) (items:Array Value) (n:Nat) (dct:Option Addr) (sl:Array (Option Value)) :
 Meets (Builtin.«enumerate.__new__» ⟨[.type "enumerate", .ref l],[]⟩) (fun _ R s=>s.heap.get? l=some { cls:=.type "tuple", dict:=dct,data:=.seq items n,slots:=sl } ∧
  R (.ok (.ret (.ref (s.heap.push { cls:=.type "tuple_iterator", data:=.fields #[.ref l,.int 0 0] }).objs.size)))
   { s with heap:=(s.heap.push { cls:=.type "tuple_iterator", data:=.fields #[.ref l,.int 0 0] }).push { cls:=.type "enumerate", data:=.fields #[.none,.bool false,.ref s.heap.objs.size,rawInt 0,.none,.none] } }) :=
 .of_wp fun prog w A R s h=>by
  obtain ⟨hp,g,d,tk,os⟩:=s;obtain ⟨hl,h⟩:=h
  have hsub:=sub_enumerate
  have hT:Heap.IsTuple (Shared.heap ⟨hp,g,d,tk,os⟩) l items:=⟨_,hl,rfl,n,rfl⟩
  wp_walk using wpAny_loadPart' hl
  refine wpAny_stack_any fun st=>wpAny_pure ?_
  split
  ·rename_i c _ _ _ _ _
   cases (c == Value.type "enumerate") <;> (wp_walk using wpAny_loadPart' hl,wpAny_pyIter_tuple hT;exact ⟨_,rfl,h⟩)
  ·wp_walk using wpAny_loadPart' hl,wpAny_pyIter_tuple hT
   exact ⟨_,rfl,h⟩
section
variable {prog:Program} {w:World} {A:Around} {E:Value→Shared→Prop} {s:Shared}
theorem Kc {l:Addr} {items:Array Value} (hT:s.heap.IsTuple l items)
 (h:∀ h',IsEnum h' (s.heap.objs.size + 1) s.heap.objs.size 0 .none→h'.IsTupleIter s.heap.objs.size l 0→h'.objs.size=s.heap.objs.size + 2→(∀ b o,s.heap.get? b=some o→h'.get? b=some o)→Q (.ref (s.heap.objs.size + 1)) { s with heap:=h' }) :
 wpAny (model prog w) A (call (.type "enumerate") [.ref l]) Q E s:=by
 obtain ⟨⟨c,dct,dt,sl⟩,hl,hc,n,hd⟩:=hT
 replace hc:c = .type "tuple" := hc
 replace hd:dt = .seq items n:=hd
 subst hc hd
 refine callType_new F.called_enumerate (by decide) (F.typeCall_enumerate_1 _) (F.newCall_enumerate_1 _) (fun obj=>F.args_object_init_2 obj _) F.entry_enumerate_new (N6 l items n dct sl) ⟨hl,?_⟩
 have hz:(s.heap.push { cls:=.type "tuple_iterator", data:=.fields #[.ref l,.int 0 0] }).objs.size=s.heap.objs.size + 1:=Heap.size_push ..
 show _∧_
 rw [hz]
 have he:IsEnum ((s.heap.push { cls:=.type "tuple_iterator", data:=.fields #[.ref l,.int 0 0] }).push { cls:=.type "enumerate", data:=.fields #[.none,.bool false,.ref s.heap.objs.size,rawInt 0,.none,.none] }) (s.heap.objs.size + 1) s.heap.objs.size 0 .none:=by
  have:=Heap.get?_push_size (s.heap.push { cls:=.type "tuple_iterator", data:=.fields #[.ref l,.int 0 0] }) (o:={ cls:=.type "enumerate", data:=.fields #[.none,.bool false,.ref s.heap.objs.size,rawInt 0,.none,.none] }) rfl
  rw [hz] at this;exact this
 exact ⟨⟨_,he,rfl⟩,h _ he ⟨_,Heap.get?_push_of_some _ (Heap.get?_push_size _ rfl),rfl,rfl⟩ (by rw [Heap.size_push,hz]) fun b o x=>Heap.get?_push_of_some _ (Heap.get?_push_of_some _ x)⟩
theorem RQ {e t:Addr} {items:Array Value} {old:Value} {Q:Option Value→Shared→Prop} (hh:A.handled=none) (hne:t ≠ it) (he:IsEnum s.heap e it (i:Int) old) (hi:s.heap.IsTupleIter it t i) (ht:s.heap.IsTuple t items) (hx:items[i]? = none)
 (q:∀ h',Heap.ExtBut it s.heap h'→Q none { s with heap:=h' }):wpAny (model prog w) A (pyNext (.ref e)) Q E s:=by
 have ty:s.TypeIs (.ref e) "enumerate" := ⟨_,he,rfl⟩
 unfold pyNext
 refine wpAny_bind (wpAny_attempt (wpAny_callSpecial?_slot (name:=Str.ofString "__next__") ty F.slot_enumerate_next (wpAny_call_entry F.slot_enumerate_next ty F.entry_enumerate_next ?_ (F.args_enumerate_next_1 _))))
 refine wpAny_bind (m:=field (.ref e) 2) (wpAny_field he rfl (x:=.ref it) rfl (wpAny_bind (N5 (A:=A.in1) hh hi ht hx fun h' x he' hx'=>?_)))
 obtain ⟨o,ho,hc⟩:=hx'
 exact wpAny_bind (wpAny_isInstance (T := "StopIteration") (b:=true) ⟨o,ho,hc⟩ isSubtype_stop (wpAny_pure (q _ he')))
end
end TE2
namespace D3
open PySem PySem.Spec PyProof.Rows L2 My
def ItT (K:PySem.W.Frag) (a:Addr):It :=
 ⟨fun i H=>∃ xs x,SqT K H a xs∧xs[i]? = some x,fun i H x H'=>∃ p y,H p=none∧H'=upd H p (.tup [.int i,y])∧x = .ref p∧∀ xs,SqT K H a xs→xs[i]? = some y,fun i H=>∃ xs,SqT K H a xs∧xs.length ≤ i⟩
theorem G3 {x1} (a it:Addr) :
 Turn P w K (.Tuple elts x1 tpos) (ItT K a) [it + 1,it] (it + 1) (fun i h=>∃ old,IsEnum h (it + 1) it (i:Int) old∧h.IsTupleIter it a i) where
 mem:=by simp
 obj:=fun i h st b hb=>by
  obtain ⟨old,he,o,e,c,d⟩:=st
  rcases aZ.mp hb with z | z
  ·subst z
   exact ⟨_,he,fun v z=>by cases z⟩
  ·have z:b=it:=by simpa using z
   subst z
   exact ⟨o,e,fun v z=>by rw [d] at z;cases z⟩
 keep:=fun i h h' st k=>by
  obtain ⟨old,he,hi⟩:=st
  exact ⟨old,k _ (by simp) _ he,hi.at fun o e=>k it (by simp) o e⟩
 item:=by
  intro X hP hw hK hc i pins s σ H E I hf st hg
  subst hP hw hK
  obtain ⟨xs,x,hq,hx⟩:=hg
  obtain ⟨its,rv,p,hz⟩:=I.tuple hq
  obtain ⟨u,hu,ru⟩:=rv.get hx
  obtain ⟨old,he,hi⟩:=st
  have fe:=hf (it + 1) (by simp)
  have fi:=hf it (by simp)
  have hlt:it + 1 < s.heap.objs.size:=Heap.lt_size he
  have il:i < its.toArray.size:=by
   rw [aU]
   rcases d_ i its.length with z | z
   ·exact z
   ·rw [bH z] at hu;cases hu
  have pt:s.heap.IsTuple a its.toArray:=by
   obtain ⟨o,g1,g2,n,g3⟩:=p
   exact ⟨o,g1,g2,n,g3⟩
  have hne:a ≠ it:=fun z=>by
   obtain ⟨o,g1,g2,_⟩:=p
   obtain ⟨o2,g3,g4,_⟩:=id hi
   rw [z,g3] at g1
   cases g1
   rw [g4] at g2
   exact absurd g2 (by decide)
  have hne1:a ≠ it + 1:=fun z=>by
   obtain ⟨o,g1,g2,_⟩:=p
   rw [z,he] at g1
   cases g1
   exact absurd (show Value.type "enumerate" = Value.type "tuple" from g2) (by decide)
  refine wpAny_pyNext_enum_itemD (TE2.draws (A:=X.A.in1) (I.ok.hd hc) it a hne its.toArray) he ⟨hi,pt⟩ il (Nat.succ_ne_self it) (by simp [Ne.symm hne1]) fun x' h1 tk hx' ho st1 ht hsz hk=>?_
  have hi1:=st1.1
  obtain rfl:x'=u:=by
   have:its.toArray[i]? = some u:=by simpa using hu
   rw [this] at hx'
   exact (cJ.inj hx').symm
  have hk:∀ b o,b ≠ it + 1→b ≠ it→s.heap.get? b=some o→h1.get? b=some o:=hk
  refine ⟨_,rfl,wpAny_letOwnedTupleGo_enum ho fun h2 he2 hs2=>?_⟩
  replace hs2:Heap.SameBut (it + 1) h1 h2:=hs2
  have hn:H s.heap.objs.size=none:=I.hok.fresh (aL _)
  have I0:Inv X pins σ (upd H s.heap.objs.size (.tup [.int (i:Int),x])) { s with heap:=s.heap.push { cls:=.type "tuple", data:=.seq #[.int (i:Int) tk,x'] } } :=
   I.laid (t':=s.toks) (fun b o e=>Heap.get?_push_of_some _ e) (aL _) ⟨show 2 ≤ sizeLine by decide,[.int (i:Int) tk,x'],.cons ⟨_,rfl⟩ (.cons ru .nil),⟨_,Heap.get?_push_size _ rfl,rfl,_,rfl⟩⟩
  have ne:∀ b,b ∈ [it + 1,it]→b ≠ s.heap.objs.size:=fun b hb=>by
   rcases aZ.mp hb with w' | w'
   ·rw [w'];exact aQ hlt
   ·rw [show b=it by simpa using w'];exact aQ (tY hlt)
  have I1:Inv X pins σ (upd H s.heap.objs.size (.tup [.int (i:Int),x])) { s with heap:=h2,toks:=tk + 1 }:=by
   refine Inv.turnedL (s:={ s with heap:=s.heap.push { cls:=.type "tuple", data:=.seq #[.int (i:Int) tk,x'] } }) (ch:=[it + 1,it]) I0 (fun b o hb e=>?_) fun b hb=>⟨by rw [bx (ne b hb)];exact (hf b hb).1,(hf b hb).2⟩
   have b1:b ≠ it + 1:=fun z=>hb (by simp [z])
   have b2:b ≠ it:=fun z=>hb (by simp [z])
   rcases Heap.get?_push_cases e with ⟨e1,e2⟩ | e1
   ·subst e1 e2
    exact (hs2.2 _ b1).trans ht
   ·exact (hs2.2 _ b1).trans (hk b o b1 b2 e1)
  refine ⟨.ref s.heap.objs.size,_,I1,rfl,⟨_,x,hn,rfl,rfl,fun ys hy=>by rw [I.tuple_inj hy hq];exact hx⟩,⟨_,he2,hi1.at fun o e=>(hs2.2 _ (aQ (je it))).trans e⟩,fun b hb=>?_⟩
  rw [bx (ne b hb)]
  exact (hf b hb).1
 done:=by
  intro X hP hw hK hc i pins s σ H E I hf st hg
  subst hP hw hK
  obtain ⟨xs,hq,hx⟩:=hg
  obtain ⟨its,rv,p,hz⟩:=I.tuple hq
  obtain ⟨old,he,hi⟩:=st
  have hl:=rv.length
  have pt:s.heap.IsTuple a its.toArray:=by
   obtain ⟨o,g1,g2,n,g3⟩:=p
   exact ⟨o,g1,g2,n,g3⟩
  have hne:a ≠ it:=fun z=>by
   obtain ⟨o,g1,g2,_⟩:=p
   obtain ⟨o2,g3,g4,_⟩:=id hi
   rw [z,g3] at g1
   cases g1
   rw [g4] at g2
   exact absurd g2 (by decide)
  refine TE2.RQ (I.ok.hd hc) hne he hi pt (by simp;omega) fun h' eb=>⟨rfl,Inv.turnedL (t':=s.toks) (ch:=[it + 1,it]) I (fun b o hb e=>eb b o (fun z=>hb (by simp [z])) e) hf⟩
 self:=fun _ _ _ _ _ st h=>by
  obtain ⟨old,he,_⟩:=st
  exact wpAny_pyIter_enum he h
section
variable {X:Cx} {fl:List Fl} {a:Expr} {f:FE} {pos:Pos}
def V4 (K:PySem.W.Frag) (tl:TE):TI:=fun σ H R=>tl σ H fun x H1=>∃ a,x = .ref a∧(∃ xs,SqT K H1 a xs)∧R (ItT K a) H1
theorem N7 {x1} (hg:Gl X "enumerate") (hm:X.mg "enumerate" = none) (hl:PE X a tl) (he:starEach [a] X.env=(false,eval a X.env) :: starEach [] X.env:=by rfl)
 (hpl:(backTo pos (starEach [] X.env)).any (·.1)=false:=by rfl):PI X (.Tuple elts x1 tpos) (.Call (.Name "enumerate" p) [a] [] pos) (V4 X.K tl):=by
 intro pins s σ H R I h
 refine wpAny_Call_Name_kw (ou I hg hm boot_enumerate (PyProof.Rows.callWith_type1 (thn ((kW hl pB he) pos pins s σ H (fun vs H1=>match vs with | [x]=>∃ a,x = .ref a∧(∃ xs,SqT X.K H1 a xs)∧R (ItT X.K a) H1 | _=>False) I h) fun us s1 ⟨vs,H1,I1,r1,q1⟩=>?_) he hpl))
 cases r1 with
 | nil=>exact q1.elim
 | cons r rr =>
  cases rr with
  | cons _ _=>exact q1.elim
  | nil =>
  obtain ⟨l,e,⟨xs,hq⟩,q⟩:=q1
  subst e
  cases r
  obtain ⟨its,rv,pl,hz⟩:=I1.tuple hq
  have pt:s1.heap.IsTuple l its.toArray:=by
   obtain ⟨o,g1,g2,n,g3⟩:=pl
   exact ⟨o,g1,g2,n,g3⟩
  refine TE2.Kc pt fun h' he' hi' hsz hk=>?_
  have I2:Inv X pins σ H1 { s1 with heap:=h' }:=I1.kept (t':=s1.toks) hk
  refine wpAny_pyIter_enum (s:={ s1 with heap:=h' }) he' ?_
  refine ⟨s1.heap.objs.size + 1,[s1.heap.objs.size + 1,s1.heap.objs.size],_,_,H1,rfl,I2,G3 l s1.heap.objs.size,⟨_,he',hi'⟩,fun b hb=>?_,q⟩
  have hb':s1.heap.objs.size ≤ b:=by
   rcases aZ.mp hb with z | z
   ·rw [z];exact jk _
   ·rw [show b=s1.heap.objs.size by simpa using z];exact aL _
  exact I1.fpOk hb' (I1.hok.fresh hb')
theorem N8 {x1} (h:DE X fl (.B L) a f) (hg:Gl X "enumerate") (hm:X.mg "enumerate" = none) (he:starEach [a] X.env=(false,eval a X.env) :: starEach [] X.env:=by rfl)
 (hpl:(backTo pos (starEach [] X.env)).any (·.1)=false:=by rfl):DI X fl L (.Tuple elts x1 tpos) (.Call (.Name "enumerate" p) [a] [] pos) (GQ f):=PI.imp (N7 hg hm h he hpl) fun σ H R' h=>by
 obtain ⟨G,ow,δ,l,R,hf,q⟩:=h
 obtain ⟨d,e1,e2⟩:=bind1 hf
 cases d <;> first | (cases e2;done) | skip
 next l0 =>
 cases e2
 refine ⟨G,ow,δ,_,R,e1,fun v H1 s r=>?_⟩
 obtain ⟨a,xs,rfl,hx,keep⟩:=MF (R.grow s) r
 refine ⟨a,rfl,⟨xs,hx⟩,q _ _ s fun H2 k2 i=>?_⟩
 obtain ⟨k3,k4⟩:=keep H2 k2
 refine ⟨fun d hd=>?_,fun hl=>⟨xs,k3,by rw [k4.length];simpa [pN] using hl⟩⟩
 have hd':(l0[i]?).map (fun x=>PyData.tuple [.int (i:Int),x])=some d:=by
  have:=hd
  unfold pN at this
  rw [fW] at this
  exact this
 cases e:l0[i]? with
 | none=>rw [e] at hd';cases hd'
 | some x0 =>
  rw [e] at hd'
  cases hd'
  obtain ⟨y,hy,ry⟩:=k4.get e
  refine ⟨⟨xs,y,k3,hy⟩,fun x H3 hyl=>?_⟩
  obtain ⟨p,y',hp,rfl,rfl,hz⟩:=hyl
  have:some y=some y':=hy.symm.trans (hz xs k3)
  cases this
  have g:=cH hp (.tup [.int (i:Int),y])
  exact ⟨g,.tup bN (.cons (.int _) (.cons (ry.same g) .nil))⟩
end
end D3
namespace XK
open PySem PySem.Spec PyProof.Rows L2 My D3
section
variable {X:Cx} {fl:List Fl} {a b:Expr} {f g:FE} {p p2 pos pos2:Pos}
end
end XK
namespace XJ
open PySem PySem.Spec PySem.W PyProof.Rows XS
def nH (vs:List (List L2.Key × Addr × Value)):List (List L2.Key × Addr × Value):=vs.foldl (fun xs e=>storedH xs e.1 e.2.1 e.2.2) []
theorem G4 (vs:List (List L2.Key × Addr × Value)) (e:List L2.Key × Addr × Value):nH (vs++[e])=storedH (nH vs) e.1 e.2.1 e.2.2:=by
 unfold nH
 rw [ud]
 rfl
theorem El (xs:List (List L2.Key × Addr × Value)) (k:List L2.Key) (a:Addr) (v:Value):(storedH xs k a v).length ≤ xs.length + 1:=by
 cases h:atKey xs k with
 | none=>rw [storedH_new h];simp
 | some p=>rw [storedH_old h];simp
theorem Ke:∀ vs:List (List L2.Key × Addr × Value),(nH vs).length ≤ vs.length:=fun vs=>by
 have:∀ (vs acc:List (List L2.Key × Addr × Value)),(vs.foldl (fun xs e=>storedH xs e.1 e.2.1 e.2.2) acc).length ≤ acc.length + vs.length:=fun vs=>by
  induction vs with
  | nil=>exact fun acc=>aL _
  | cons e vs ih =>
   intro acc
   have h1:=ih (storedH acc e.1 e.2.1 e.2.2)
   have h2:=El acc e.1 e.2.1 e.2.2
   rw [iG,bM]
   omega
 simpa [nH] using this vs []
theorem Kf:∀ (vs:List (List L2.Key × Addr × Value)) (x:List L2.Key × Addr × Value),x ∈ nH vs→∃ e ∈ vs,e.2.1=x.2.1:=fun vs x=>by
 have:∀ (vs acc:List (List L2.Key × Addr × Value)),x ∈ vs.foldl (fun xs e=>storedH xs e.1 e.2.1 e.2.2) acc→(∃ e ∈ vs,e.2.1=x.2.1)∨∃ e ∈ acc,e.2.1=x.2.1:=fun vs=>by
  induction vs with
  | nil=>exact fun acc h=>.inr ⟨x,h,rfl⟩
  | cons e vs ih =>
   intro acc h
   rcases ih _ h with ⟨e',h1,h2⟩ | ⟨e',h1,h2⟩
   ·exact .inl ⟨e',aH _ h1,h2⟩
   ·have h1:e' ∈ storedH acc e.1 e.2.1 e.2.2:=h1
    cases hk:atKey acc e.1 with
    | none =>
     rw [storedH_new hk] at h1
     rcases bK.mp h1 with h1 | h1
     ·exact .inr ⟨e',h1,h2⟩
     ·rw [aN.mp h1] at h2
      exact .inl ⟨e,aJ,h2⟩
    | some p =>
     rw [storedH_old hk] at h1
     obtain ⟨e0,h3,rfl⟩:=bT.mp h1
     refine .inr ⟨e0,h3,?_⟩
     unfold putAt at h2
     split at h2 <;> exact h2
 intro h
 rcases this vs [] h with h | ⟨_,h,_⟩
 ·exact h
 ·cases h
section
variable {prog:Program} {w:World} {A:Around} {E:Value→Shared→Prop} {s:Shared}
theorem uI {k:List L2.Key} (z:(tupleKind (L2.bV prog w)).is h k b) (kp:∀ o,h.get? b=some o→h'.get? b=some o):(tupleKind (L2.bV prog w)).is h' k b:=by
 obtain ⟨o,its,n,h1,r⟩:=z
 exact ⟨o,its,n,kp o h1,r⟩
theorem xZ {D:Addr} {xs:List (List L2.Key × Addr × Value)} (d:h.DictOfH (tupleKind (L2.bV prog w)) D xs) (kp:∀ b o,b ≠ I→h.get? b=some o→h'.get? b=some o) (hD:D ≠ I) (far:∀ x ∈ xs,x.2.1 ≠ I):h'.DictOfH (tupleKind (L2.bV prog w)) D xs:=by
 obtain ⟨o,es,ep,h1,h2,h3,h4,h5,h6⟩:=d
 exact ⟨o,es,ep,kp D o hD h1,h2,h3,h4,fun x hx=>uI (h5 x hx) fun o q=>kp _ o (far x hx) q,h6⟩
structure PR (prog:Program) (w:World) (h:Heap) (D I l:Addr) (its:Array Value) (vs:List (List L2.Key × Addr × Value)) (i:Nat):Prop where
 iter:h.IsListIter I l i
 lst:h.IsList l its
 prs:∀ (j:Nat) (u:Value),its[j]? = some u→∃ (a b:Addr) (k:List L2.Key) (v:Value),u=Value.ref a∧IsTup h a #[Value.ref b,v]∧vs[j]? = some (k,b,v)∧a ≠ D∧a ≠ I∧(tupleKind (L2.bV prog w)).is h k b∧b ≠ D∧b ≠ I
 ne:l ≠ D∧l ≠ I∧D ≠ I
theorem Em {D l:Addr} {vs:List (List L2.Key × Addr × Value)} (P:PR prog w h D I l its vs i) (hz:vs.length=its.size):∀ x ∈ nH (vs.take i),x.2.1 ≠ I:=fun x hx=>by
 obtain ⟨e,he,ee⟩:=Kf _ x hx
 obtain ⟨j,hj⟩:=m6 (dH he)
 have jl:j < its.size:=by
  rw [← hz]
  rcases d_ j vs.length with z | z
  ·exact z
  ·rw [bH z] at hj;cases hj
 obtain ⟨a,b,k,v,_,_,h3,_,_,_,_,h8⟩:=P.prs j its[j] (by simp [jl])
 rw [hj] at h3
 cases h3
 rw [← ee]
 exact h8
theorem N_ {D l:Addr} {vs:List (List L2.Key × Addr × Value)} {R:Result→Shared→Prop} (hA:A.handled=none) (hroom:(tupleKind (L2.bV prog w)).room A.in1) (hz:vs.length=its.size) (hs:its.size ≤ 1000) :
 ∀ (m i:Nat) (tk:Tok) (s:Shared),its.size - i=m→i ≤ its.size→PR prog w s.heap D I l its vs i→s.heap.DictOfH (tupleKind (L2.bV prog w)) D (nH (vs.take i)) →
  (∀ h' tk,(∀ b o,b ≠ D→b ≠ I→s.heap.get? b=some o→h'.get? b=some o)→h'.DictOfH (tupleKind (L2.bV prog w)) D (nH vs)→R (.ok (.ret .none)) { s with heap:=h',toks:=tk }) →
  codeAny (model prog w) A (.builtin "dict.update.loop" ⟨[.ref D,.ref I,.int i tk,.none],[]⟩) R s:=by
 intro m
 induction m with
 | zero =>
  intro i tk s hm hi P hd hR
  have e:i=its.size:=by omega
  subst e
  refine codeAny_builtin rR ?_
  rw [Around.under_plainId lD _]
  have:its[its.size]? = none:=by simp
  show wpAny _ A.in1 (pyNext (.ref I) >>= _) _ _ s
  refine wpAny_bind (wpAny_pyNext_list_end (by simpa using hA) P.iter P.lst this fun h' hx=>?_)
  show wpAny _ A.in1 (Builtin.Dict.addKeywords D [] >>= _) _ _ _
  refine wpAny_bind (wpAny_pure (wpAny_pure ?_))
  have hx':h'.DictOfH (tupleKind (L2.bV prog w)) D (nH vs):=by
   have:=xZ hd (fun b o z q=>hx b o z q) P.ne.2.2 (Em P hz)
   rwa [← hz,List.take_length] at this
  exact hR h' s.toks (fun b o _ z q=>hx b o z q) hx'
 | succ m ih =>
  intro i tk s hm hi P hd hR
  have hlt:i < its.size:=by omega
  obtain ⟨u,hu⟩:∃ u,its[i]? = some u:=⟨its[i],by simp [hlt]⟩
  obtain ⟨a,b0,k0,v,rfl,hp,hv,na,ni,hk0,nb,nbi⟩:=P.prs i u hu
  refine codeAny_builtin rR ?_
  rw [Around.under_plainId lD _]
  show wpAny _ A.in1 (pyNext (.ref I) >>= _) _ _ s
  refine wpAny_bind (wpAny_pyNext_list_item P.iter P.lst hu fun h1 it1 sb1=>?_)
  have k1:∀ b,b ≠ I→h1.get? b=s.heap.get? b:=fun b z=>sb1.2 b z
  have hp1:IsTup h1 a #[.ref b0,v]:=by
   obtain ⟨o,e,c⟩:=hp
   exact ⟨o,(k1 a ni).trans e,c⟩
  have hd1:h1.DictOfH (tupleKind (L2.bV prog w)) D (nH (vs.take i)):=xZ hd (fun b o z q=>(k1 b z).trans q) P.ne.2.2 (Em P hz)
  have hk1:(tupleKind (L2.bV prog w)).is h1 k0 b0:=uI hk0 fun o q=>(k1 b0 nbi).trans q
  show wpAny _ A.in1 (holding [Value.ref a] _ >>= _) _ _ _
  refine wpAny_bind (wpAny_holding ?_)
  have hs1:(nH (vs.take i)).length ≤ sizeLine:=by
   refine bh (Ke _) ?_
   rw [bG]
   exact bh (qM _ _) (bh (dj hlt) (bh hs (by decide)))
  have hnew:storedH (nH (vs.take i)) k0 b0 v=nH (vs.take (i + 1)):=by
   rw [t_,hv]
   exact (G4 (vs.take i) (k0,b0,v)).symm
  obtain ⟨o2,e2,c2,n2,d2⟩:=id hp1
  have hT:Shared.TypeIs { s with heap:=h1 } (.ref a) "tuple" := ⟨o2,e2,c2⟩
  refine wpAny_bind (wpAny_tryCatch ?_)
  unfold Builtin.Dict.pairItems
  refine wpAny_bind (wpAny_typeOf hT ?_)
  rw [if_pos (by decide)]
  refine wpAny_bind (wpAny_seqItems e2 d2 (wpAny_pure ?_))
  show wpAny _ _ (holding [Value.ref b0,v] (dictSet D (.ref b0) v)) _ _ _
  refine wpAny_holding (wpAny_dictSet_heap (hsz:=hs1) hroom hk1 hd1 fun h2 dd sb2=>?_)
  rw [hnew] at dd
  refine wpAny_pure ⟨plainId_quiet lD _,?_⟩
  have k2:∀ b o,b ≠ D→b ≠ I→s.heap.get? b=some o→h2.get? b=some o:=fun b o z1 z2 q=>(sb2.2 b z1).trans ((k1 b z2).trans q)
  have tup2:∀ b x,b ≠ D→b ≠ I→IsTup s.heap b x→IsTup h2 b x:=fun b x z1 z2 ⟨o,e,c⟩=>⟨o,k2 b o z1 z2 e,c⟩
  refine ih (i + 1) 0 _ (by omega) (by omega) ⟨?_,?_,fun j u hj=>?_,P.ne⟩ dd fun h3 tk3 k3 d3=>?_
  ·obtain ⟨o,e,c⟩:=it1
   exact ⟨o,(sb2.2 I (Ne.symm P.ne.2.2)).trans e,c⟩
  ·obtain ⟨o,e,c⟩:=P.lst
   exact ⟨o,k2 l o P.ne.1 P.ne.2.1 e,c⟩
  ·obtain ⟨a',b',kk',v',rfl,q1,q2,q3,q4,q5,q6,q7⟩:=P.prs j u hj
   exact ⟨a',b',kk',v',rfl,tup2 a' _ q3 q4 q1,q2,q3,q4,uI q5 fun o q=>k2 b' o q6 q7 q,q6,q7⟩
  ·exact hR h3 tk3 (fun b o z1 z2 q=>k3 b o z1 z2 (k2 b o z1 z2 q)) d3
theorem BW {l:Addr} {vs:List (List L2.Key × Addr × Value)} (hA:A.handled=none) (hl:s.heap.get? l=some { cls:=.type "list", dict:=none,data:=.seq its n,slots:=sl })
 (hp:∀ (j:Nat) (u:Value),its[j]? = some u→∃ (a b:Addr) (k:List L2.Key) (v:Value),u=Value.ref a∧IsTup s.heap a #[Value.ref b,v]∧vs[j]? = some (k,b,v)∧(tupleKind (L2.bV prog w)).is s.heap k b) (hu:(tupleKind (L2.bV prog w)).room A.in1.in1) (hz:vs.length=its.size) (hs:its.size ≤ 1000)
 (h:∀ h' tk,h'.DictOfH (tupleKind (L2.bV prog w)) s.heap.objs.size (nH vs)→(∀ b o,s.heap.get? b=some o→h'.get? b=some o)→Q (.ref s.heap.objs.size) { s with heap:=h',toks:=tk }) :
 wpAny (model prog w) A (PySem.call (.type "dict") [.ref l]) Q E s:=by
 refine callType_codes (Q₁:=fun obj s₁=>obj = .ref s.heap.objs.size∧s₁ = { s with heap:=s.heap.push { cls:=.type "dict", data:=.dict #[] } }) F.kt_called_dict (F.kt_typeCall_dict_1 _) F.entry_dict_init (kt_code_dict_new _ ⟨rfl,rfl⟩) ?_
 rintro obj s₁ ⟨rfl,rfl⟩
 obtain ⟨g,eg⟩:∃ g,g=s.heap.push { cls:=.type "dict", data:=.dict #[] }:=⟨_,rfl⟩
 rw [← eg]
 have dn:g.DictOf (L2.bV prog w) s.heap.objs.size []:=by rw [eg];exact Heap.DictOf.new s.heap
 have kg:∀ b o,s.heap.get? b=some o→g.get? b=some o:=fun b o q=>by rw [eg];exact Heap.get?_push_of_some _ q
 have lg:=kg _ _ hl
 have hT:Shared.TypeIs { s with heap:=g } (.ref l) "list" := ⟨_,lg,rfl⟩
 refine ⟨dn.typeIs,F.args_dict_init_2 _ _,?_⟩
 unfold Builtin.«dict.__init__»
 refine wpAny_bind ?_
 unfold Builtin.Dict.selfAndRest
 refine wpAny_bind (wpAny_notOrdered_dict dn.typeIs ?_)
 show wpAny _ _ (pure (s.heap.objs.size,[Value.ref l])) _ _ _
 refine wpAny_pure ?_
 show wpAny _ _ (Builtin.Dict.updateFrom "dict.__init__" s.heap.objs.size (.ref l) [] .none) _ _ _
 unfold Builtin.Dict.updateFrom
 refine wpAny_bind (wpAny_typeOf hT ?_)
 rw [if_pos (by decide)]
 have hA2:A.in1.in1.handled=none:=by simpa using hA
 refine wpAny_bind (zW (s:={ s with heap:=g }) lg hA2 fun h1 tk1 k1=>?_)
 rw [if_pos (by rfl)]
 refine wpAny_bind (wpAny_rule ?_)
 have l1:h1.get? l=_:=k1 _ _ lg
 have il:h1.IsList l its:=⟨_,l1,rfl,n,rfl⟩
 refine wpAny_bind (wpAny_pyIter_list (s:={ s with heap:=h1,toks:=tk1 }) il ?_)
 refine wpAny_pure ⟨plainId_quiet lD _,?_⟩
 obtain ⟨g2,eg2⟩:∃ g2,g2=h1.push { cls:=.type "list_iterator", data:=.fields #[.ref l,.int 0 0] }:=⟨_,rfl⟩
 have k2:∀ b o,s.heap.get? b=some o→g2.get? b=some o:=fun b o q=>by rw [eg2];exact Heap.get?_push_of_some _ (k1 _ _ (kg _ _ q))
 have old:∀ b o,s.heap.get? b=some o→b ≠ s.heap.objs.size∧b ≠ h1.objs.size:=fun b o q=>by
  have lt:=Heap.lt_size q
  have lt2:=Heap.lt_size (k1 _ _ (kg _ _ q))
  exact ⟨aQ lt,aQ lt2⟩
 have dne:s.heap.objs.size ≠ h1.objs.size:=by
  obtain ⟨o,_,_,e,_⟩:=dn
  exact aQ (Heap.lt_size (k1 _ _ e))
 have dd:g2.DictOfH (tupleKind (L2.bV prog w)) s.heap.objs.size (nH (vs.take 0)):=by
  have dn':g.DictOfH (tupleKind (L2.bV prog w)) s.heap.objs.size []:=by rw [eg];exact Heap.DictOfH.new s.heap
  obtain ⟨o,es,ep,e,r1,r2,r3,r4,r5⟩:=dn'
  exact ⟨o,es,ep,by rw [eg2];exact Heap.get?_push_of_some _ (k1 _ _ e),r1,r2,r3,(fun x hx=>by cases hx),r5⟩
 have o1:=old _ _ hl
 show codeAny (model prog w) A.in1 (Code.builtin "dict.update.loop" ⟨[Value.ref s.heap.objs.size,Value.ref h1.objs.size,Value.int ((0:Nat):Int) 0,Value.none],[]⟩) _ { s with heap:=h1.push { cls:=.type "list_iterator", data:=.fields #[.ref l,.int 0 0] },toks:=tk1 }
 rw [← eg2]
 refine N_ (s:={ s with heap:=g2,toks:=tk1 }) (A:=A.in1) (by simpa using hA) hu hz hs its.size 0 0 rfl (cY _) ⟨⟨_,by rw [eg2];exact Heap.get?_push_size _ rfl,rfl,rfl⟩,⟨_,k2 _ _ hl,rfl,n,rfl⟩,fun j u hj=>?_,⟨o1.1,o1.2,dne⟩⟩ dd fun h3 tk3 k3 d3=>?_
 ·obtain ⟨a,b,k,v,rfl,⟨o,e,c⟩,q,hk⟩:=hp j u hj
  have o2:=old _ _ e
  have o3:b ≠ s.heap.objs.size∧b ≠ h1.objs.size:=by
   obtain ⟨ob,_,_,eb,_⟩:=id hk
   exact old _ _ eb
  exact ⟨a,b,k,v,rfl,⟨o,k2 _ _ e,c⟩,q,o2.1,o2.2,uI hk fun o q=>k2 b o q,o3.1,o3.2⟩
 ·exact ⟨rfl,h h3 tk3 d3 fun b o q=>k3 b o (old b o q).1 (old b o q).2 (k2 b o q)⟩
end
end XJ
namespace XJ
open PySem PySem.Spec PySem.W PyProof.Rows L2 My D3 XK XT XD XS
def V5 (K:PySem.W.Frag) (H:Hp) (y:V) (k:List Int):Prop:=∃ a b,y = .ref a∧iW H a [.ref b,.bl true]∧H b=some (.tup (k.map V.int))
theorem Uh {ok:Ok}:∀ {l:List D} {ks:List (List Int)} {ys:List V},rpD l=some ks→RAs K ok pl H ys l→Paired (V5 K H) ys ks
 | [],ks,_,e,.nil=>by cases e;exact .nil
 | d :: l,ks,_,e,.cons a q=>by
  unfold rpD at e
  split at e
  ·next z=>cases z
  ·next m r z =>
   cases z
   obtain ⟨k,e1,e2⟩:=bind1 e
   cases e3:rpD l with
   | none=>rw [e3] at e2;cases e2
   | some ks' =>
    rw [e3] at e2
    cases e2
    obtain ⟨p,xs,rfl,h1,h2⟩:=a.tupE0
    cases h2 with
    | cons r1 r2 =>
    cases r2 with
    | cons r2 r3 =>
    cases r3
    obtain rfl:=r2.blE
    obtain ⟨b,rfl,hb⟩:=uH (y:=.tuple m) (k:=k) e1 r1
    rw [jO] at hb
    exact .cons ⟨p,b,rfl,h1,hb⟩ (Uh e3 q)
  ·cases e
theorem Jg:∀ (es:List (List Int × Addr)) (S:List (List Int)) (xs:List (List L2.Key × Addr × Value)),(∀ e ∈ es,H e.2=some (.tup (e.1.map V.int)))→KT H (dtI S) xs →
 KT H (dtI ((es.map (·.1)).foldl jc S)) ((es.map fun e=>((e.1.map Sum.inl,e.2,Value.bool true):List L2.Key × Addr × Value)).foldl (fun xs e=>storedH xs e.1 e.2.1 e.2.2) xs)
 | [],S,xs,_,h=>h
 | e :: es,S,xs,hb,h=>by
  refine Jg es (jc S e.1) (storedH xs (e.1.map Sum.inl) e.2 (.bool true)) (fun e' he=>hb e' (aH _ he)) ?_
  rw [← Nh]
  exact KT.put h _ (by rw [jO];exact hb e aJ) rfl
theorem RV (S:List (List Int)) (k:List Int):jc S k ≠ []:=by
 unfold jc
 split
 ·intro z
  subst z
  rename_i h
  cases h
 ·simp
theorem En:∀ (ks:List (List Int)) (S:List (List Int)),(ks ≠ []∨S ≠ [])→ks.foldl jc S ≠ []
 | [],S,h=>by
  rcases h with h | h
  ·exact absurd rfl h
  ·exact h
 | k :: ks,S,_=>En ks (jc S k) (.inr (RV S k))
theorem pR:∀ (ks:List (List Int)) (S:List (List Int)),(ks.foldl jc S).length ≤ S.length + ks.length
 | [],S=>aL _
 | k :: ks,S=>by
  have h1:=pR ks (jc S k)
  have h2:(jc S k).length ≤ S.length + 1:=by
   unfold jc
   split <;> simp
  rw [iG,bM]
  omega
section
variable {X:Cx}
theorem Jh {σ:L2.St} (I:L2.Inv X pins σ H s):∀ {ys:List V} {us:List Value} {ks:List (List Int)},Paired (V5 X.K H) ys ks→Vals ys us→∃ es:List (List Int × Addr),es.length=us.length∧es.map (·.1)=ks∧(∀ e ∈ es,H e.2=some (.tup (e.1.map V.int))) ∧
 ∀ (j:Nat) (u:Value),us[j]? = some u→∃ (a:Addr) (e:List Int × Addr),u=Value.ref a∧es[j]? = some e∧IsTup s.heap a #[Value.ref e.2,Value.bool true]
 | _,_,_,.nil,.nil=>⟨[],rfl,rfl,(fun e h=>by cases h),(fun j u h=>by simp at h)⟩
 | _,_,_,.cons (b:=k) p ps,.cons r rs=>by
  obtain ⟨es,h1,h2,h3,h4⟩:=Jh I ps rs
  obtain ⟨a,b,rfl,ht,hb⟩:=p
  cases r
  obtain ⟨its,rr,pt,_⟩:=I.tuple (.inl (.inl ht))
  refine ⟨(k,b) :: es,by simp [h1],by simp [h2],fun e he=>?_,fun j u hj=>?_⟩
  ·rcases aZ.mp he with rfl | he
   ·exact hb
   ·exact h3 e he
  ·cases j with
   | zero =>
    simp at hj
    subst hj
    cases rr with
    | cons r1 rr =>
    cases rr with
    | cons r2 rr =>
    cases rr
    cases r1
    cases r2
    exact ⟨a,(k,b),rfl,rfl,pt⟩
   | succ j=>exact h4 j u (by simpa using hj)
theorem rm2 (hu:A.units + 64 < cLine):(tupleKind (L2.bV P w)).room A.in1.in1:=tupleKind_room_in1 (A:=A.in1) (by
 have:A.in1.units ≤ A.units + 1:=by
  first | exact aL _ | (unfold Around.in1;simp)
 omega)
theorem G5 (hu:X.A.units + 64 < cLine) (hA:X.A.handled=none):lQ X (.type "dict") (fun xs H Q=>∃ (p:Addr) (ys:List V) (ks:List (List Int)),xs=[.ref p]∧SqL X.K H p ys∧ys.length ≤ 1000∧Paired (V5 X.K H) ys ks∧∀ l,H l=none→Q (.ref l) (upd H l (.dT (dtI (ks.foldl jc []))))):=by
 intro pins s σ H xs us Q I r h
 obtain ⟨p,ys,ks,rfl,hx,hl,hp,q⟩:=h
 obtain ⟨u,rfl,rx⟩:=vals1 r
 cases rx
 obtain ⟨its,rvs,pl,hz⟩:=I.list hx
 obtain ⟨⟨c,d,dt,sl⟩,n,e,rfl,rfl,rfl⟩:=pl
 obtain ⟨es,v1,v2,v3,v4⟩:=Jh I hp rvs
 have len:its.length=ys.length:=rvs.length.symm
 have hq:H s.heap.objs.size=none:=I.hok.fresh (aL _)
 refine BW (vs:=es.map fun e=>(e.1.map Sum.inl,e.2,Value.bool true)) hA e (fun j u hj=>?_) (rm2 hu) (by simpa using v1) (by simp;omega) fun h' tk dd k=>?_
 ·obtain ⟨a,e,rfl,h1,h2⟩:=v4 j u (by simpa using hj)
  refine ⟨a,e.2,e.1.map Sum.inl,.bool true,rfl,h2,by rw [aR,h1];rfl,u9 I.hok ?_⟩
  rw [jO]
  exact v3 e (jP h1)
 ·have kt:=Jg (H:=H) es [] [] v3 .nil
  rw [v2] at kt
  obtain ⟨o,ens,ep,g1,g2,g3,g4,g5,g6⟩:=dd
  have I2:=I.laid (h':=h') (t':=tk) (a:=s.heap.objs.size) (o:=.dT (dtI (ks.foldl jc []))) k (aL _)
   ⟨by
    have z:=pR ks []
    have kl:ks.length=ys.length:=hp.length.symm
    unfold dtI
    rw [aC]
    refine bh z ?_
    rw [gD,lO,kl]
    exact bh hl (by decide),beq_eq_false_iff_ne.mpr (Ne.symm (aQ (big I))),_,KT.keeps kt fun c ys' ec=>by rw [bx (ju ec hq)];exact ec,o,ens,ep,g1,g2,g3,g4,g6⟩
  exact ⟨.ref _,_,I2,rfl,q _ hq⟩
theorem Oa (hu:X.A.units + 64 < cLine) (hA:X.A.handled=none) (ha:DB X fl .P [e] fa) (hg:Gl X "dict") (hm:X.mg "dict" = none)
 (he:starEach [e] X.env=(false,eval e X.env) :: starEach [] X.env:=by rfl) (hpl:(backTo pos (starEach [] X.env)).any (·.1)=false:=by rfl):DE X fl .C (.Call (.Name "dict" p) [e] [] pos) (dCall xT fa):=by
 intro pins s σ H Q I h
 obtain ⟨G,ow,δ,d,R,hf,q⟩:=h
 obtain ⟨ds,e1,e2⟩:=bind1 hf
 unfold xT at e2
 split at e2
 case h_2=>cases e2
 next l =>
 obtain ⟨ks,e4,e5⟩:=bind1 e2
 by_cases hc:l.length ≤ 1000
 case neg=>rw [if_neg hc] at e5;cases e5
 rw [if_pos hc] at e5
 cases e5
 by_cases h0:ks=[]
 ·subst h0
  have hl:l=[]:=by
   cases l with
   | nil=>rfl
   | cons d l =>
    exfalso
    unfold rpD at e4
    split at e4
    ·next z=>cases z
    ·obtain ⟨k,_,e6⟩:=bind1 e4
     cases e7:rpD l with
     | none=>simp_all
     | some ks'=>simp_all
    ·cases e4
  subst hl
  exact MP hA ha hg hm he hpl pins s σ H Q I ⟨G,ow,δ,_,R,by unfold dCall;rw [e1];rfl,q⟩
 ·refine nU (G5 hu hA) hg hm (show bootBuiltins "dict" = some (.type "dict") by decide +kernel) ha (by decide) (by decide) he hpl pins s σ H Q I ⟨G,ow,δ,_,R,e1,fun vs H' sm r'=>?_⟩
  cases r' with
  | cons r1 r2 =>
   cases r2
   obtain ⟨a,ys,rfl,hx,hr⟩:=r1.lstE
   have hne:=En ks [] (.inl h0)
   refine ⟨a,ys,ks,rfl,hx,by rw [hr.length];exact hc,Uh e4 hr,fun l0 hn=>q _ _ (sm.trans (cH hn _)) (.dic bN (.inl ⟨u_ (uE _),?_⟩) (sm.free hn))⟩
   rw [xX (uE _) hne]
end
end XJ
namespace XV
open PySem PySem.Spec PyProof.Rows L2 My D3
end XV
namespace D3
open PySem
def vf (i:Nat) (fk:FE):FS:=fun δ=>(aD i δ).bind fun x=>(fk δ).bind fun y=>(M5 x).bind fun S=>(yR y).bind fun k=>if S.length < 1000000 then some (.nx (δ.set i (some (.d (dsT (jc S k)))))) else none
end D3
namespace XJ
open PySem PySem.Spec PyProof.Rows L2 My D3 XK XT
section
variable {K:PySem.W.Frag} {fl:List Fl}
theorem GX (h:tsD kvs=some []):kvs=[]:=by
 cases kvs with
 | nil=>rfl
 | cons q r =>
  obtain ⟨a,b⟩:=q
  unfold tsD at h
  split at h
  ·next e=>cases e
  ·next e =>
   cases e
   obtain ⟨k,e1,e2⟩:=bind1 h
   cases e3:tsD r with
   | none=>rw [e3] at e2;cases e2
   | some z=>rw [e3] at e2;cases e2
  ·cases h
theorem Kg {σ:L2.St} {x:D} (R:Rel K fl G ow σ H δ) (hfl:fl[i]? = some .N) (hx:aD i δ=some x) (hq:M5 x=some []) :
 ∃ a,σ[i]? = some (some (.ref a))∧H a=some (.dK [])∧∀ H',Same H H'→∀ S',S' ≠ []→∃ ow',Rel K fl G ow' σ (upd H' a (.dT (dtI S'))) (δ.set i (some (.d (dsT S')))):=by
 have e:=mX hx
 have hi:i < δ.length:=by
  rcases d_ i δ.length with z | z
  ·exact z
  ·rw [bH z] at e;cases e
 obtain ⟨v,h1,h2,h3⟩:=R.nr i x (by rw [hfl];rfl) e
 generalize hN:ow.n i=as at h2 h3
 cases h2 with
 | dic ha hg =>
  rename_i a u kvs
  have hk:=GX hq
  subst hk
  rw [hg.old rfl] at ha
  refine ⟨a,h1,ha,fun H' s S' hS'=>?_⟩
  refine (R.grow s).mutN (as:=[a]) hfl hi (by rw [hN];exact eN _) (s _ _ ha) h1 ?_ (fun b hb=>by rw [hN];exact hb) (dJ.mpr ⟨eG,.nil⟩)
  refine .dic bN (.inl ⟨u_ (uE S'),?_⟩)
  rw [xX (uE S') hS']
 | non=>cases hq
 | bl _=>cases hq
 | int _=>cases hq
 | str _=>cases hq
 | lst _ _=>cases hq
 | tup _ _=>cases hq
end
def V6:V→V→V→Hp→(Hp→Prop)→Prop:=fun o i v H Q=>Ue o i v H Q∨∃ p k b,o = .ref p∧i = .ref b∧H p=some (.dK [])∧H b=some (.tup (kE kV k))∧Q (upd H p (.dT [(k,v)]))
section
variable {X:Cx} {fl:List Fl} {e ke:Expr} {fk:FE} {pos:Pos}
theorem Kh (hu:X.A.units + 1 < cLine):Qq X V6:=by
 intro pins s σ H o i v ov iv u Q I ro ri rv h
 rcases h with h | ⟨p,k,b,rfl,rfl,hp,hb,q⟩
 ·exact Nj hu pins s σ H o i v ov iv u Q I ro ri rv h
 ·cases ro
  have hb':upd H p (.dT []) b=some (.tup (kE kV k)):=by
   rw [bx (gH hb hp (fun z=>nomatch z))]
   exact hb
  exact zZ hu (Nt I hp) (GR.t bN hb' (show 0 < sizeLine by decide)) ri rv fun s' I'=>⟨_,by rw [Hv] at I';exact I',q⟩
theorem Ob (hu:X.A.units + 1 < cLine) {i:Nat} {x:Str} {vpos spos:Pos} (hfl:fl[i]? = some .N) (he:PE X e (tC (.bl true))) (hk:DE X fl .P ke fk) (hN:X.N[i]? = some x) (hv:Vis X.env.scope x:=by first | exact Or.inl rfl | exact Or.inr (Or.inl rfl) | exact Or.inr (Or.inr rfl)) (hd:(x == ("__debug__" : Str))=false:=by decide)
 (hcd:(x == ("__classdict__" : Str))=false:=by decide) (ha:∀ v,assign (.Subscript (.Name x vpos) ke spos) X.env v=(do
  let ov ← holding [v] (eval (.Name x vpos) X.env)
  let iv ← holding [v,ov] (eval ke X.env)
  standAt spos
  holding [v,ov,iv] (setItem ov iv v)
  release [v,ov,iv] []):=by intro _;rfl)
 (hs:swapsWithSole [.Subscript (.Name x vpos) ke spos] e pos.line X.env=pure false:=by rfl) (hw:swappedStores [.Subscript (.Name x vpos) ke spos] e X.env=pure none:=by rfl)
 (h1:(assignEach [.Subscript (.Name x vpos) ke spos] X.env).map (·.2)=[assign (.Subscript (.Name x vpos) ke spos) X.env]:=by rfl) :
 DS1 X fl (.Assign [.Subscript (.Name x vpos) ke spos] e pos) (vf i fk) :=
 PS.imp (Gd he (K9 (qd hN hv hd hcd) hk (Kh hu) ha) hs hw h1) fun Dn σ H h=>by
 obtain ⟨G,ow,δ,o,R,hf,q⟩:=h
 obtain ⟨y,e1,hf⟩:=bind1 hf
 obtain ⟨z,e2,hf⟩:=bind1 hf
 obtain ⟨S,e3,hf⟩:=bind1 hf
 obtain ⟨k,e4,hf⟩:=bind1 hf
 by_cases hc:S.length < 1000000
 case neg=>rw [if_neg hc] at hf;cases hf
 rw [if_pos hc] at hf
 cases hf
 by_cases hS:S=[]
 ·subst hS
  obtain ⟨p,h1,h2,h3⟩:=Kg R hfl e1 e3
  refine ⟨_,h1,G,ow,δ,_,R,e2,fun u H2 s2 r2=>?_⟩
  obtain ⟨b,rfl,hb⟩:=uH e4 r2
  obtain ⟨ow',R'⟩:=h3 H2 s2 [k] (by simp)
  exact .inr ⟨p,k.map Sum.inl,b,rfl,rfl,s2 _ _ h2,hb,q ow' σ _ R'⟩
 ·obtain ⟨p,h1,h2,h3⟩:=Ni R hfl e1 e3 hS
  refine ⟨_,h1,G,ow,δ,_,R,e2,fun u H2 s2 r2=>?_⟩
  obtain ⟨b,rfl,hb⟩:=uH e4 r2
  have hS':jc S k ≠ []:=by
   unfold jc
   split
   ·exact hS
   ·simp
  obtain ⟨ow',R'⟩:=h3 H2 s2 (jc S k) hS'
  refine .inl ⟨p,dtI S,k.map Sum.inl,b,rfl,rfl,s2 _ _ h2,hb,by unfold dtI;rw [aC];exact pZ hc (by decide),?_⟩
  rw [Nh]
  exact q ow' σ _ R'
end
end XJ
namespace D3
open PySem PySem.Spec PyProof.Rows L2 My
def BX (F G:List D→Option D) (fa:FA):FE:=fun δ=>(fa δ).bind fun ds=>match ds with
 | [.list l]=>F [.list l]
 | ds=>G ds
section
variable {X:Cx} {fl:List Fl} {n:Nat} {x:Str} {ps:List Str} {F G:List D→Option D} {e:Expr} {fa:FA} {p pos:Pos}
theorem Od (h:Has X.prog X.w X.K X.mg X.base n x ps (spD X.K F)) (h2:Has X.prog X.w X.K X.mg X.base n x ps (spL X.K G)) (hr:Room n X.A) (ha:DB X fl .P [e] fa) (hg:Gl X x:=by rfl) (hdb:(x == ("__debug__" : Str))=false:=by decide)
 (he:starEach [e] X.env=(false,eval e X.env) :: starEach [] X.env:=by exact mY rfl) (hpl:(backTo pos (starEach [] X.env)).any (·.1)=false:=by exact Ii rfl) :
 DE X fl .P (.Call (.Name x p) [e] [] pos) (BX F G fa):=by
 intro pins s σ H Q I h0
 obtain ⟨G0,ow,δ,d,R,hf,q⟩:=h0
 obtain ⟨ds,e1,e2⟩:=bind1 hf
 split at e2
 ·exact jE (bW h hr ha hg hdb he hpl) pins s σ H Q I ⟨G0,ow,δ,d,R,by unfold dCall;rw [e1];exact e2,q⟩
 ·exact uD h2 hr ha hg hdb he hpl pins s σ H Q I ⟨G0,ow,δ,d,R,by unfold dCall;rw [e1];exact e2,q⟩
end
end D3
namespace XL
open PySem PySem.Spec PySem.W PyProof.Rows L2 My D3
abbrev Kl (x y:Str) (p1 p2 p3 p4 p5:Pos) (kd:Nat):Expr:=.Subscript (.Subscript (.Name x p1) (.Name y p2) p3) (.Constant (.int 0) kd p4) p5
section
variable {prog:Program} {w:World} {A:Around} {R:Result→Shared→Prop} {s:Shared} {f c' a b cell:Addr} {nm q x y:Str} {params:Arguments} {scope:Scope} {pm ctv:Value} {p1 p2 p3 p4 p5:Pos} {kd:Nat} {i k:Int} {j:Nat} {t t':Tok} {its its2:Array Value}
theorem Oe {x:Value} (hl:s.heap.IsList a its) (hlo : -(its.size:Int) ≤ i) (hhi:i < its.size) (hsz:its.size ≤ sizeLine) (hsx:seqIndex? i its.size=some j) (hi:its[j]? = some x) (h:Q x s) :
 wpAny (model prog w) A (getItem (.ref a) (.int i t)) Q E s:=by
 have hn:=uO
 by_cases h0:0 ≤ i
 ·have hj:i.toNat=j:=by
   rw [seqIndex_of h0 hhi] at hsx
   exact cJ.inj hsx
  exact wpAny_getItem_list hl h0 (by omega) (by rw [hj];exact hi) h
 ·have hj:(i + (its.size:Int)).toNat=j:=by
   rw [seqIndex_neg (by omega) hlo] at hsx
   exact cJ.inj hsx
  exact wpAny_getItem_list_neg hl (by omega) hlo (by omega) (by rw [hj];exact hi) h
theorem RW (ho:s.heap.get? f=some (kla_obj nm q params (Kl x y p1 p2 p3 p4 p5 kd) scope [(x,cell)] pm c' ctv)) (hcd:s.heap.CodeRec (.ref c') q) (hroom:A.depth < recursionLimit) (hlim:s.heap.NoLimit)
 (hbind:∀ u,bindArgs (kla_fn nm q params (Kl x y p1 p2 p3 p4 p5 kd) scope [(x,cell)] pm (.ref c') ctv) ⟨[u],[]⟩=pure [(y,u)])
 (hco:scope.isCoroutine=false) (hgen:scope.isGenerator=false) (hk:scope.kind = .function) (hcell:∀ z ∈ scope.names,z.2 ≠ .cell) (hy:scope.names.lookup y=some .local) (hx:scope.names.lookup x=some .free)
 (hxd:(x == ("__debug__" : Str))=false) (hyd:(y == ("__debug__" : Str))=false) (hxc:(x == ("__classdict__" : Str))=false)
 (hc:s.heap.IsCell cell (some (.ref a))) (hl:s.heap.IsList a its) (hlo : -(its.size:Int) ≤ i) (hhi:i < its.size) (hsz:its.size ≤ sizeLine) (hsx:seqIndex? i its.size=some j) (hi:its[j]? = some (.ref b)) (ht:IsTup s.heap b its2) (hk0:its2[0]? = some (.int k t'))
 (h:∀ h' tk,(∀ b o,s.heap.get? b=some o→h'.get? b=some o)→R (.ok (.ret (.int k t'))) { s with heap:=h',toks:=tk }) :
 codeAny (model prog w) A (.call (.ref f) ⟨[.int i t],[]⟩) R s:=by
 refine kla_callFunE hroom ho rfl hco hgen rfl hcd ?_
 rw [hbind]
 refine wpAny_pure (wpAny_newFunctionEnv hcell (fun z hz=>?_) (fun h₁ hns hsb=>⟨hlim.fresh _ hsb,?_⟩) hk)
 ·rw [aN.mp hz]
  exact hy
 have hk₁:∀ b o,s.heap.get? b=some o→h₁.get? b=some o:=fun b o e=>hsb.extBut b o (aQ (Heap.lt_size e)) (Heap.get?_push_of_some _ e)
 refine kla_codeExpr ?_
 have hl':h₁.IsList a its:=by
  obtain ⟨o,e1,e2⟩:=hl
  exact ⟨o,hk₁ _ _ e1,e2⟩
 have ht':IsTup h₁ b its2:=by
  obtain ⟨o,e1,e2⟩:=ht
  exact ⟨o,hk₁ _ _ e1,e2⟩
 refine Subscript_ ?_
 refine Subscript_ ?_
 refine wpAny_Name ?_ hxd
 refine wpAny_loadName_free (c:=cell) (v:=.ref a) hk hx ?_ ?_ ?_ hxc
 ·show vq x [(x,cell)]=some cell
  simp
 ·obtain ⟨o,e1,e2⟩:=hc
  exact ⟨o,hk₁ _ _ e1,e2⟩
 refine wpAny_Name ?_ hyd
 refine wpAny_loadName_local (v:=.int i t) hk hy hns ?_ ?_
 ·simp
 refine subscriptTail_builtin (T := "list") (id := "list.__getitem__") ?_ PySem.F.slot_list_getitem.lookup ?_
 ·obtain ⟨o,e1,e2,_⟩:=hl'
  exact ⟨o,e1,e2⟩
 refine Oe hl' hlo hhi hsz hsx hi ?_
 refine wpAny_Constant_int ?_
 refine kba_turn (value':=PySem.Expr.Name (PySem.Str.ofString "_") ⟨0,0,0,0⟩) (fun _=>rfl) ?_
 refine subscriptTail_builtin (T := "tuple") (id := "tuple.__getitem__") ?_ PySem.F.slot_tuple_getitem.lookup ?_
 ·obtain ⟨o,e1,e2,_⟩:=ht'
  exact ⟨o,e1,e2⟩
 refine PyProof.Rows.getItem_tuple (j:=0) (x:=.int k t') ht' (by decide) (by decide) ?_ hk0 ?_
 ·have:0 < its2.size:=by
   rcases d_ 0 its2.size with z | z
   ·exact z
   ·rw [lN z] at hk0;cases hk0
  unfold seqIndex?
  have h2:(0:Int) < (its2.size:Int):=by omega
  show (if (decide ((0:Int) ≤ 0) && decide ((0:Int) < (its2.size:Int)))=true then some (0:Int).toNat else none)=some 0
  rw [dTr (Int.le_refl 0),dTr h2]
  rfl
 ·exact h h₁ _ hk₁
end
section
variable {M:Model} {A:Around} {E:Value→Shared→Prop} {s:Shared} {params:Arguments} {body:Expr} {scope:Scope} {env:Env} {c P:Addr} {pos:Pos} {mg:Str→Option Value} {clos:List (Str × Addr)} {Q:Value→Shared→Prop} {q:Str}
abbrev ent (pos:Pos) (c':Addr):Array Value:=#[rawInt pos.line,rawInt pos.col,.ref c']
theorem Og (hq:env.qual ++ "<lambda>" = q) (hdef:defaultsOf params env=([],[])) (hcl:closureFor scope env=pure clos) (hge0:env.globals=mainGlobals) (hg:s.heap.Ns mainGlobals mg) (hcode:env.code = .ref c) (C:CodeHd s.heap c P) (hgP:mainGlobals ≠ P) (hb:s.heap.BuiltinsAt mg P)
 (hT:∃ ps,s.heap.get? P=some (tabObj ps)∧(ps = #[]∨∃ c',ps=ent pos c'∧s.heap.CodeRec (.ref c') q))
 (h:∀ f c' ctv h' tk,(∀ b o,b ≠ P→s.heap.get? b=some o→h'.get? b=some o)→h'.get? P=some (tabObj (ent pos c'))→(s.heap.get? P=some (tabObj (ent pos c'))∨(s.heap.get? P=some (tabObj #[])∧s.heap.objs.size ≤ c'∧c' ≠ f))→s.heap.objs.size ≤ f →
  h'.get? f=some (kla_obj "<lambda>" q params body scope clos ((mg "__name__").getD .none) c' ctv)→h'.CodeRec (.ref c') q→Q (.ref f) { s with heap:=h',toks:=tk }) :
 wpAny M A (eval (.Lambda params body scope pos) env) Q E s:=by
 refine kla_eval hdef ?_
 rw [hq]
 obtain ⟨ps,hP,z | ⟨c',z,hr⟩⟩:=hT
 ·subst z
  refine kla_makeFunction (mg:=mg) hcl hge0 hg hcode C hP trivial rfl hgP hb fun c' ctv h' tk hx hge hlt hrec htb=>?_
  have up:∀ b o,h'.get? b=some o→(h'.push (kla_obj "<lambda>" q params body scope clos ((mg "__name__").getD .none) c' ctv)).get? b=some o:=fun b o e=>Heap.get?_push_of_some _ e
  obtain ⟨c2,oc,vs,tq,e1,e2,e3⟩:=hrec
  refine h h'.objs.size c' ctv _ tk (fun b o hb e=>up b o (hx b o hb e)) (up _ _ (by rw [htb];rfl)) (.inr ⟨hP,hge,aQ hlt⟩) (bh hge (dj hlt)) (Heap.get?_push_size _ rfl) ⟨c2,oc,vs,tq,e1,up _ _ e2,e3⟩
 ·subst z
  have ha:codeAmong pos (ent pos c').toList=some (.ref c'):=by simp [codeAmong,rawInt]
  refine kla_makeFunctionHit (mg:=mg) hcl hge0 hg hcode C hP trivial ha hb fun ctv h' tk hk hsz=>?_
  have up:∀ b o,s.heap.get? b=some o→(h'.push (kla_obj "<lambda>" q params body scope clos ((mg "__name__").getD .none) c' ctv)).get? b=some o:=fun b o e=>Heap.get?_push_of_some _ (hk b o e)
  obtain ⟨c2,oc,vs,tq,e1,e2,e3⟩:=hr
  exact h h'.objs.size c' ctv _ tk (fun b o _ e=>up b o e) (up _ _ hP) (.inl hP) hsz (Heap.get?_push_size _ rfl) ⟨c2,oc,vs,tq,e1,up _ _ e2,e3⟩
end
end XL
namespace XL
open PySem PySem.Spec PySem.W PyProof.Rows L2 My D3 XS
section
variable {prog:Program} {w:World} {A:Around} {h₀:Heap} {L kS:Addr} {m:Str→Option Value} {f:Value} {nw:List (Addr × Obj)}
def Ji (prog:Program) (w:World) (A:Around) (nw:List (Addr × Obj)) (f v:Value) (k:Int):Prop :=
 ∃ t,∀ (s:Shared) (R:Result→Shared→Prop),(∀ p ∈ nw,s.heap.get? p.1=some p.2)→s.heap.NoLimit→(∀ h' tk,(∀ b o,s.heap.get? b=some o→h'.get? b=some o)→R (.ok (.ret (.int k t))) { s with heap:=h',toks:=tk }) →
  codeAny (model prog w) A (.call f ⟨[v],[]⟩) R s
theorem Eo {Fin:List Value→Nat→Shared→Prop} (hne:∀ y ∈ nw,y.1 ≠ kS) (hlim:∀ s:Shared,(∀ p ∈ nw,s.heap.get? p.1=some p.2)→s.heap.NoLimit):∀ (vs:List Value) (ns:List Int) (ks:List Value) (e:Nat) (s:Shared),Paired (fun v k=>Ji prog w A nw f v k) vs ns →
 Fr h₀ L s.heap m→News h₀ L s.heap ((kS,seqObj "list" (fP ks) e) :: nw) →
 (∀ ks' e' s',Fr h₀ L s'.heap m→News h₀ L s'.heap ((kS,seqObj "list" (fP (ks++ks')) e') :: nw)→s'.gens=s.gens→s'.drawn=s.drawn→s'.os=s.os→Paired (fun (v:Value) (k:Int)=>∃ t,v = .int k t) ks' ns→Fin (ks++ks') e' s') →
 KatKeys prog w A h₀ L m kS f Fin vs ks e s
 | [],_,ks,e,s,p,F,N,h=>by
  cases p
  have:=h [] e s F (by rw [fD];exact N) rfl rfl rfl .nil
  rw [fD] at this
  exact this
 | v :: vs,_,ks,e,s,p,F,N,h=>by
  cases p with
  | cons p1 p2 =>
  rename_i k ns
  obtain ⟨t,c⟩:=p1
  have hnw:∀ p ∈ nw,s.heap.get? p.1=some p.2:=fun p hp=>(N p (aH _ hp)).1
  refine KatKeys.cons (wpAny_call (c s _ hnw (hlim s hnw) fun h' tk hk=>?_))
  have F':Fr h₀ L h' m:=⟨F.ns.keeps hk,fun b o z=>hk b o (F.keep b o z),F.above⟩
  have N':News h₀ L h' ((kS,seqObj "list" (fP ks) e) :: nw):=fun p hp=>⟨hk _ _ (N p hp).1,(N p hp).2⟩
  refine KatBack.intro (s:={ s with heap:=h',toks:=tk }) F' N' (.head hne) fun h2 e2 F2 N2=>?_
  refine Eo hne hlim vs ns (ks++[.int k t]) e2 { s with heap:=h2,toks:=tk } p2 F2 N2 fun ks' e' s' F3 N3 g1 g2 g3 q=>?_
  have z:=h (.int k t :: ks') e' s' F3 (by rw [show ks++.int k t :: ks'=ks++[.int k t]++ks' by simp];exact N3) g1 g2 g3 (.cons ⟨t,rfl⟩ q)
  rw [show ks++.int k t :: ks'=ks++[.int k t]++ks' by simp] at z
  exact z
end
section
variable {prog:Program} {w:World} {A:Around} {E:Value→Shared→Prop} {s:Shared} {h₀:Heap} {L l fa:Addr} {m:Str→Option Value} {vs:List Value} {ns:List Int} {news:List (Addr × Obj)} {Q:Value→Shared→Prop}
def ltK (ns:List Int) (i j:Nat):Bool:=decide (ns.getD i 0 < ns.getD j 0)
theorem G6 (a b:Value):argsOk "sorted" ⟨[a],[(Str.ofString "key", b)]⟩:=by unfold argsOk;kernel_rfl
theorem Ep (a b:Value):argsOk "list.sort" ⟨[a],[(Str.ofString "key", b)]⟩:=by unfold argsOk;kernel_rfl
theorem ints_of:∀ {ks:List Value} {ns:List Int},Paired (fun (v:Value) (k:Int)=>∃ t,v = .int k t) ks ns→IntsAre ks ns
 | _,_,.nil=>.nil
 | _,_,.cons p q=>by
  obtain ⟨t,rfl⟩:=p
  exact .cons _ _ (ints_of q)
theorem BZ:∀ {ks:List Value} {ns:List Int},Paired (fun (v:Value) (k:Int)=>∃ t,v = .int k t) ks ns→∀ i,i < ks.length→∃ t,ks.getD i .none = .int (ns.getD i 0) t
 | _,_,.nil,i,h=>by cases h
 | _,_,.cons p q,0,h=>by obtain ⟨t,rfl⟩:=p;exact ⟨t,rfl⟩
 | _,_,.cons p q,i + 1,h=>by
  obtain ⟨t,e⟩:=BZ q i (by simpa using h)
  exact ⟨t,by simpa using e⟩
theorem z9 {α β:Type} {R:α→β→Prop}:∀ {l:List α} {r:List β},Paired R l r→∀ {i:Nat} {a:α} {b:β},l[i]? = some a→r[i]? = some b→R a b
 | _,_,.nil,i,a,b,h,_=>by simp at h
 | _,_,.cons p q,0,a,b,h1,h2=>by
  simp at h1 h2
  subst h1 h2
  exact p
 | _,_,.cons p q,i + 1,a,b,h1,h2=>z9 q (i:=i) (by simpa using h1) (by simpa using h2)
end
end XL
namespace XS
open PySem D3
def sU (l:List D) (ns:List Int):List D:=if l.length ≤ 1 then l else (m8 l.length fun i j=>decide (ns.getD i 0 < ns.getD j 0)).map fun i=>l.getD i .none
def B_ (fa fe:FE) (ix:List Nat):FE:=fun δ=>(fa δ).bind fun x=>match x with
 | .list l=>if l.length < 64∧flats l=true then (jM (gNl 0) D3.jx fe (iw 1 ix δ) l).bind fun ks=>(dh ks).map fun ns=>.list (sU l ns) else none
 | _=>none
def dK0:FE:=fun δ=>match δ with
 | [some (.d (.int z)),some (.d (.list ds))]=>(pAt ds z).bind fun t=>match t with
  | .tuple (.int n :: _)=>some (.int n)
  | _=>none
 | _=>none
def qSK (x:Option D) (k:List D→Option (List D)):Option D:=match x with
 | some (.list l)=>if l.length < 64∧flats l=true then (k l).bind fun ks=>(dh ks).map fun ns=>.list (sU l ns) else none
 | _=>none
theorem RX {fa:FE}:B_ fa fe ix δ=qSK (fa δ) (jM (gNl 0) D3.jx fe (iw 1 ix δ)):=by
 unfold B_ qSK
 cases fa δ with
 | none=>rfl
 | some d=>cases d <;> rfl
theorem Km {ks:List D} {k:List D→Option (List D)} (h1:l.length < 64) (h2:flats l=true) (h3:k l=some ks) (h4:dh ks=some ns):qSK (some (.list l)) k=some (.list (sU l ns)):=by
 unfold qSK
 dsimp only
 rw [if_pos ⟨h1,h2⟩,h3,aK,h4]
 rfl
end XS
variable {c:Addr}
namespace XL
open PySem PySem.Spec PySem.W PyProof.Rows L2 My D3 XS
section
variable {X:Cx} {pins:List (Addr × Obj)} {σ:L2.St} {H:Hp} {s:Shared} {h':Heap} {P c':Addr} {q:Str} {lp:Pos} {tk:Nat}
theorem RZ (I:Inv X pins σ H s) (hT:H P=some (.tbl q lp)) (kp:∀ b o,b ≠ P→s.heap.get? b=some o→h'.get? b=some o) (hP:h'.get? P=some (tabObj (ent lp c')))
 (hor:s.heap.get? P=some (tabObj (ent lp c'))∨(s.heap.get? P=some (tabObj #[])∧s.heap.objs.size ≤ c')) (hrec:h'.CodeRec (.ref c') q) :
 ∃ H2,Inv X pins σ H2 { s with heap:=h',toks:=tk }∧Same H H2:=by
 rcases hor with z | ⟨z,hge⟩
 ·refine ⟨H,I.kept fun b o e=>?_,fun _ _ e=>e⟩
  by_cases hb:b=P
  ·subst hb
   rw [z] at e;cases e
   exact hP
  ·exact kp b o hb e
 ·have hn:H c'=none:=I.hok.fresh hge
  have ne:∀ {b u},H b=some u→b ≠ c':=fun e=>ju e hn
  have nP:∀ {b},H b=none→b ≠ P:=fun e y=>by rw [y,hT] at e;cases e
  refine ⟨upd H c' (.own P),?_,cH hn _⟩
  refine I.step (g':=s.gens) (d':=s.drawn) (ch:=[]) (fun b hb=>by cases hb) (fun b u _ _ _ e n=>kp b u (nP n) e) (fun b u _ _ _ e n=>⟨u.slots,kp b u (nP n) e⟩) (fun b u _ e n=>?_) (fun b u _ e=>?_)
   (fun b xs e=>by rw [bx (ne e)];exact e) (fun b u v e=>by rw [bx (ne e)];exact e) (fun b q p e=>by rw [bx (ne e)];exact e) (fun m ⟨o,es,ep,e,r⟩=>⟨o,es,ep,kp _ o (nP I.free) e,r⟩) (fun b u e=>?_) I.bare
  ·rw [bx (aQ (bU (Heap.lt_size e) hge))];exact n
  ·by_cases hb:b=P
   ·exact ⟨_,by rw [hb];exact hP⟩
   ·exact ⟨u,kp b u hb e⟩
  ·by_cases hb:b=c'
   ·subst hb
    rw [bN] at e
    cases e
    obtain ⟨c2,oc,vs,tq,e1,e2,_⟩:=hrec
    cases e1
    exact ⟨_,e2⟩
   ·rw [bx hb] at e
    by_cases hbP:b=P
    ·subst hbP
     rw [hT] at e;cases e
     exact ⟨_,hP,.inr ⟨c',rfl,bN,hrec⟩⟩
    ·refine (I.hok b u e).stay (fun c w hc y=>kp c w (fun y2=>?_) y) (fun c y=>by rw [bx (ne y)];exact y) fun c xs y=>by rw [bx (ne y)];exact y
     rcases hc with rfl | y3
     ·exact hbP y2
     ·rw [y2,hT] at y3;cases y3
end
theorem z_:∀ {ys:List V} {vs:List Value},Vals ys vs→∀ i,RelV (ys.getD i .non) (vs.getD i .none)
 | _,_,.nil,i=>by simp;rfl
 | _,_,.cons r rs,0=>r
 | _,_,.cons r rs,i + 1=>by simpa using z_ rs i
theorem Aa {δ0:DS}:∀ {l ks:List D} {ns:List Int},jM (gNl 0) D3.jx fe δ0 l=some ks→dh ks=some ns→Paired (fun d n=>∃ δ1,gNl 0 d δ0=some δ1∧fe δ1=some (.int n)) l ns
 | [],ks,ns,h1,h2=>by
  cases h1
  cases h2
  exact .nil
 | d :: l,ks,ns,h1,h2=>by
  unfold jM at h1
  obtain ⟨δ1,e1,h1⟩:=bind1 h1
  obtain ⟨b,e2,h1⟩:=bind1 h1
  cases e2
  rw [if_pos rfl] at h1
  obtain ⟨x,e3,h1⟩:=bind1 h1
  obtain ⟨r,e4,h1⟩:=bind1 h1
  cases h1
  cases x with
  | int n =>
   have h2':(dh r).bind (fun m=>some (n :: m))=some ns:=by
    cases e5:dh r with
    | none=>unfold dh at h2;rw [e5] at h2;cases h2
    | some m=>unfold dh at h2;rw [e5] at h2;cases h2;rfl
   obtain ⟨m,e5,e6⟩:=bind1 h2'
   cases e6
   exact .cons ⟨δ1,e1,e3⟩ (Aa e4 e5)
  | _=>unfold dh at h2;cases h2
theorem Jj {ok:Ok} {S:D→Int→Prop} {R:Value→Int→Prop} (f:∀ y d v n,RA K ok pl H y d→RelV y v→S d n→R v n):∀ {ys:List V} {l:List D} {vs:List Value} {ns:List Int},RAs K ok pl H ys l→Vals ys vs→Paired S l ns→Paired R vs ns
 | _,_,_,_,.nil,.nil,.nil=>.nil
 | _,_,_,_,.cons a b,.cons c d,.cons e g=>.cons (f _ _ _ _ a c e) (Jj f b d g)
structure LamAt (X:Cx) (P:Addr) (q:Str) (lp:Pos):Prop where
 cd:∃ c,X.env.code = .ref c∧codeHdIn X.K c P=true
 qn:X.env.qual ++ "<lambda>" = q
 tb:(P,q,lp) ∈ tabs
section
variable {X:Cx} {fl:List Fl} {e:Expr} {fa:FE} {p pos kpos lp p1 p2 p3 p4 p5:Pos} {x y q:Str} {P:Addr} {kd i k:Nat} {params:Arguments} {scope:Scope}
theorem V7 {δ0 δ1:DS} {n:Int} {u:Option U} (h0:δ0=[none,u]) (h1:gNl 0 d δ0=some δ1) (h2:dK0 δ1=some (.int n)):∃ z ds r,d = .int z∧u=some (.d (.list ds))∧pAt ds z=some (.tuple (.int n :: r)):=by
 subst h0
 cases h1
 unfold dK0 at h2
 split at h2
 ·next z ds e =>
  cases e
  obtain ⟨t,e1,e2⟩:=bind1 h2
  split at e2
  ·next m r=>cases e2;exact ⟨z,ds,r,rfl,rfl,e1⟩
  ·cases e2
 ·cases h2
end
theorem R3 {K:Frag} {P:Addr} {q:Str} {lp:Pos} (KX:K.In h) (hP:h.get? P=some (tabObj #[])) (hc:codeHdIn K c P=true) (hn:K.lookup P=none) :
 (∀ t ∈ [(P,q,lp)],h.get? t.1=some { cls:=.none,data:=.fields #[] })∧(∀ t ∈ [(P,q,lp)],isCodeTable h t.1)∧∀ t ∈ [(P,q,lp)],K.lookup t.1=none :=
 ⟨fun t ht=>by rw [aN.mp ht];exact hP,fun t ht=>by rw [aN.mp ht];exact ((codeHd_of_K KX hc).tab hP).isCodeTable,fun t ht=>by rw [aN.mp ht];exact hn⟩
theorem Oh {P:Addr} {q:Str} {lp:Pos}:∀ t ∈ [(P,q,lp)],∀ t' ∈ [(P,q,lp)],t.1=t'.1→t=t':=fun t ht t' ht' _=>(aN.mp ht).trans (aN.mp ht').symm
theorem Oi {scope:Scope} {y:Str} (hn:scope.names=[(y,.local),(x,.free)]) (h:env.cells.lookup x=some c):closureFor scope env=pure [(x,c)]:=by
 unfold closureFor
 rw [hn]
 simp [cellOf,h]
section
variable {P:Program} {w:World} {K:PySem.W.Frag} {mg:Str→Option Value} {base:Heap} {x:Str} {ps N:List Str} {st:Stmt} {k n:Nat} {fs:FS} {fl:List Fl} {Pt:Addr} {q:Str} {lp:Pos}
structure DgT (K:PySem.W.Frag) (mg:Str→Option Value) (x:Str) (st:Stmt) (ps:List Str) (Pt:Addr) (q:Str) (lp:Pos):Prop where
 ex:∃ (f:Addr) (fd:FuncData) (c:Addr),FunD K x st f fd∧Binds K fd ps []∧mg x=some (.ref f)∧fd.code = .ref c∧codeHdIn K c Pt=true
 tb:(Pt,q,lp) ∈ tabs
theorem V8 {kV:Value} (X:K.In h) (G:h.Ns mainGlobals mg)
 (hb:∀ (kV doc pm:Value) (an:Option Addr) (cdv ct:Value) (us:List Value),us.length=ps.length→bindArgs (PySem.W.fnOf x x (oX st) (jw st) (bJ st) .none kV doc pm an cdv ct) ⟨us,[]⟩=pure (ps.zip us))
 (a:PySem.W.nsIn K mainGlobals x=some (some (.ref f))) (l:K.lookup f=some ⟨oc,od,.func (PySem.W.fnOf x x (oX st) (jw st) (bJ st) .none kV dc pm an (.ref c) ct),sl⟩) (ci:PySem.W.codeIn K (.ref c) x=true) (k:PySem.W.keepIn K (.ref f)=true)
 (hd:codeHdIn K c Pt=true) (tb:(Pt,q,lp) ∈ tabs):DgT K mg x st ps Pt q lp :=
 ⟨⟨_,_,c,⟨⟨oc,od,.none,kV,dc,pm,an,.ref c,ct,sl,rfl,l,ci⟩,k⟩,.all (hb kV dc pm an (.ref c) ct),PySem.W.mg_of X G a,rfl,hd⟩,tb⟩
theorem okT (F:FunD K x st f fd) (hcd:fd.code = .ref c) (S:FnScope N ps (bJ st)) (len:∀ vs H Q E,sp vs H Q E→vs.length=ps.length)
 (hbody:∀ (A:Around) (outer:List Env) (s:Shared) (H:Hp) (vs:List V) (Q:VK) (E:XK),Room k (A.deeper (envOfC x (bJ st) s.heap.objs.size f (.ref c)))→sp vs H Q E →
  ∃ t,PSs (Dh CX0 P w K mg base N x (bJ st) f (.ref c) A outer s H E).nox (jw st) t∧t { nx:=fun _ H'=>Q .non H',rt:=Q } (L2.start N vs) H):FnOk P w K mg base CX0 (k + 1) f fd ps sp:=by
 obtain ⟨oc,od,dV,kV,doc,pm,an,cdv,ct,osl,rfl,lk,hcd'⟩:=F.ex
 have e:cdv = .ref c:=hcd
 subst e
 refine T4 lk hcd' S len fun A outer s H vs Q E hr hsp=>?_
 obtain ⟨t,h,q⟩:=hbody A outer s H vs Q E hr hsp
 exact ⟨t,h.nox,q⟩
theorem V9 (Dd:DgT K mg x st ps Pt q lp) (S:FnScope N ps (bJ st)) (hp:∀ i,i < ps.length→fl[i]? = some .A) (hN:ps.length ≤ N.length)
 (hbody:∀ (f c:Addr) (A:Around) (outer:List Env) (s:Shared) (H:Hp) (E:XK),codeHdIn K c Pt=true→Room k (A.deeper (envOfC x (bJ st) s.heap.objs.size f (.ref c)))→DSs (cx P w K mg base N x st f (.ref c) A outer s H E) fl (jw st) fs) :
 Has P w K mg base (k + 1) x ps (spD K (fnD ps.length (N.length - ps.length) fs)):=by
 obtain ⟨f,fd,c,Fn,b,m,hcd,hhd⟩:=Dd.ex
 refine ⟨f,fd,?_,b,Fn.kp,m⟩
 refine okT Fn hcd S (fun vs H Q E h=>?_) (fun A outer s H vs Q E hr h=>?_)
 ·obtain ⟨ds,d,r,hf,_⟩:=h
  unfold fnD at hf
  by_cases z:ds.length=ps.length
  ·rw [r.2.length];exact z
  ·rw [if_neg z] at hf;cases hf
 ·obtain ⟨ds,d,r,hf,q⟩:=h
  refine ⟨_,hbody f c A outer s H E hhd hr,?_⟩
  unfold fnD at hf
  by_cases z:ds.length=ps.length
  ·rw [if_pos z] at hf
   split at hf
   ·next d' e =>
    cases hf
    exact ⟨_,_,_,_,mO ps.length hp z hN r,e,fun v H' s r=>q v H' s r⟩
   ·next δ' e =>
    cases hf
    exact ⟨_,_,_,_,mO ps.length hp z hN r,e,fun ow' σ' H' R'=>q .non H' R'.same0 .non⟩
   ·cases hf
  ·rw [if_neg z] at hf;cases hf
end
end XL
namespace XL
open PySem PySem.Spec PySem.W PyProof.Rows L2 My D3 XS
section
variable {prog:Program} {w:World} {A:Around} {E:Value→Shared→Prop} {s:Shared} {r fa L:Addr} {t u v:Tok} {n:Nat} {hi:Int} {h₀:Heap} {m:Str→Option Value} {ns:List Int} {news:List (Addr × Obj)} {Q:Value→Shared→Prop}
def Ab (vs:List Value):Prop:=∀ (j:Nat) (x:Value),vs[j]? = some x→∃ t,x = .int (j:Int) t
theorem Oj {R:List Value→Shared→Prop} (hh:A.handled=none) (hr:IsRange s.heap r 0 hi 1 t u v) (sm:Builtin.Range.small 0 hi 1=true) (hn:Builtin.Range.rangeSize 0 hi 1=n) (h64:n < 64)
 (h:∀ h' tk vs,(∀ b o,s.heap.get? b=some o→h'.get? b=some o)→vs.length=n→Ab vs→R vs { s with heap:=h',toks:=tk }):wpAny (model prog w) A (collect (.ref r)) R E s:=by
 unfold collect
 refine wpAny_bind (wpAny_runValue (codeAny_builtin F.entry_proto_collect ?_))
 rw [Around.under_plainId F.plain_proto_collect _]
 refine wpAny_bind (m:=newList []) (wpAny_newObj_type (wpAny_pure ⟨plainId_quiet F.plain_list_iadd _,codeAny_builtin F.entry_list_iadd ?_⟩))
 rw [Around.under_plainId F.plain_list_iadd _]
 refine wpAny_mono (wpAny_extend_range (A:=A) (s:={ s with heap:=s.heap.push (seqObj "list" #[] 0) }) (R:=fun q s'=>q = .ok (.ret (.ref s.heap.objs.size))∧∃ h' tk acc c,s' = { s with heap:=h',toks:=tk }∧(∀ b o,s.heap.get? b=some o→h'.get? b=some o)∧h'.get? s.heap.objs.size=some (seqObj "list" acc c)∧acc.toList.length=n∧Ab acc.toList)
  hh (Heap.get?_push_of_some _ hr) sm hn (by omega) s.heap.objs.size (.ref s.heap.objs.size) 0 (Heap.get?_push_size _ rfl) fun h' tk acc c k1 k2 k3=>⟨rfl,h',tk,acc,c,rfl,fun b o e=>k1 b o (aQ (Heap.lt_size e)) (Heap.get?_push_of_some _ e),k2,by rw [cj];exact k3.1,fun j x hx=>by
   obtain ⟨t,rfl⟩:=k3.2 j x (by rw [← iu];exact hx)
   exact ⟨t,by rw [jU,Int.mul_one]⟩⟩) (fun fin s' x=>?_) fun e s' x=>by cases x.1
 cases fin with
 | done f =>
  obtain ⟨e,h',tk,acc,c,rfl,k1,k2,k3,k4⟩:=x
  cases e
  exact wpAny_bind (m:=load s.heap.objs.size) (wpAny_load k2 (wpAny_pure (h h' tk _ k1 k3 k4)))
 | again c1 =>
  refine ⟨x.1,codeAny_mono x.2 fun q s2 y=>?_⟩
  obtain ⟨rfl,h',tk,acc,c,rfl,k1,k2,k3,k4⟩:=y
  exact wpAny_bind (m:=load s.heap.objs.size) (wpAny_load k2 (wpAny_pure (h h' tk _ k1 k3 k4)))
theorem R5 (hh:A.handled=none) (F:Fr h₀ L s.heap m) (N:News h₀ L s.heap news) (hr:IsRange s.heap r 0 hi 1 t u v) (sm:Builtin.Range.small 0 hi 1=true) (hn:Builtin.Range.rangeSize 0 hi 1=n) (h64:n < 64)
 (hc:∀ vs,vs.length=n→Ab vs→Paired (fun v k=>Ji prog w A.in1.in1 news (.ref fa) v k) vs ns) (hlim:∀ s:Shared,(∀ p ∈ news,s.heap.get? p.1=some p.2)→s.heap.NoLimit)
 (h:∀ D h' e tk vs,vs.length=n→Ab vs→Fr h₀ L h' m→News h₀ L h' ((D,seqObj "list" (fP (if n ≤ 1 then vs else (m8 n (ltK ns)).map fun i=>vs.getD i Value.none)) e) :: news)→(∀ q ∈ news,q.1 < D)→Q (.ref D) { s with heap:=h',toks:=tk }) :
 wpAny (model prog w) A (call (.builtin "sorted") [.ref r] [(Str.ofString "key", .ref fa)]) Q E s:=by
 refine call_function_entry_kw kind_sorted plain_sorted entry_sorted (G6 _ _) ?_
 unfold Builtin.«sorted»
 refine wpAny_bind (m:=checkCount "sorted" 1 1 _) (wpAny_pure ?_)
 refine wpAny_bind (Oj (A:=A.in1) hh hr sm hn h64 fun h1 tk vs k1 lv rv=>?_)
 refine wpAny_bind (wpAny_newList ?_ (by rw [lv,sizeLine_eq];omega))
 have hoL:(h1.push (seqObj "list" vs.toArray 0)).get? h1.objs.size=some (seqObj "list" vs.toArray 0):=Heap.get?_push_size _ rfl
 have kp:∀ b o,s.heap.get? b=some o→(h1.push (seqObj "list" vs.toArray 0)).get? b=some o:=fun b o e=>Heap.get?_push_of_some _ (k1 b o e)
 have lt0:∀ q ∈ news,q.1 < h1.objs.size:=fun q hq=>Heap.lt_size (k1 _ _ (N q hq).1)
 have hL:L < h1.objs.size:=(F.kept k1).ns.lt
 have hA:=F.above
 have F1:=F.kept kp
 have N1:=N.grown kp
 have hcv:=hc vs lv rv
 have d0:h₀.get? h1.objs.size=none:=Heap.get?_none_of_le (bh F.above (dj hL))
 show wpAny _ _ _ _ _ { s with heap:=h1.push (seqObj "list" vs.toArray 0),toks:=tk }
 refine wpAny_bind (wpAny_holding (wpAny_call_entry_kw slot_list_sort ⟨_,hoL,rfl⟩ entry_list_sort ?body (Ep _ _)))
 case body =>
  rw [ksk_t1]
  by_cases h2:n ≤ 1
  ·refine ksk_sort (kz:=ns) (b:=false) (s:={ s with heap:=h1.push (seqObj "list" vs.toArray 0),toks:=tk }) F1 N1 hoL (nJ hL) d0 (fun p hp=>aQ (lt0 p hp)) hcv.length.symm (by omega) (fun i v k hv hk hp tk own F' N'=>?_) fun h' tk out c F' N' ko=>⟨_,rfl,wpAny_pure ⟨_,rfl,?_⟩⟩
   ·obtain ⟨t,z⟩:=z9 hcv hv hk
    have hnw:∀ p ∈ news,hp.get? p.1=some p.2:=fun p q=>(N' p (cC _ q)).1
    refine wpAny_call (z { s with heap:=hp,toks:=tk } _ hnw (hlim { s with heap:=hp,toks:=tk } hnw) fun h2 tk2 hk2=>?_)
    exact ⟨h2,tk2,t,rfl,rfl,⟨F'.ns.keeps hk2,fun b o z=>hk2 b o (F'.keep b o z),F'.above⟩,fun p q=>⟨hk2 _ _ (N' p q).1,(N' p q).2⟩⟩
   ·obtain ⟨ps,hp,ho,_⟩:=ko
    have e:out.toList=vs:=by
     cases hcv with
     | nil =>
      have hp:ps.Perm []:=hp
      rw [List.perm_nil.mp hp] at ho
      exact ho
     | cons p q =>
      cases q with
      | nil =>
       have hp:ps.Perm [(_,_)]:=hp
       rw [List.perm_singleton.mp hp] at ho
       exact ho
      | cons _ _=>simp at lv;omega
    have e2:out=vs.toArray:=pF.mp (e.trans (by simp))
    rw [e2] at N'
    exact h _ h' c tk vs lv rv F' (by rw [if_pos h2];exact N') lt0
  ·refine kat_keyed (b:=false) (s:={ s with heap:=h1.push (seqObj "list" vs.toArray 0),toks:=tk }) F1 N1 hoL (nJ hL) d0 (fun p hp=>aQ (lt0 p hp)) (by omega) (by omega) fun kS e1 h' F' N' lt1 lt2=>?_
   have hne:∀ y ∈ (h1.objs.size,seqObj "list" #[] e1) :: news,y.1 ≠ kS:=fun y hy=>by
    rcases aZ.mp hy with rfl | z
    ·exact aQ lt1
    ·exact aQ (lt2 y z)
   have hc':Paired (fun v k=>Ji prog w A.in1.in1 ((h1.objs.size,seqObj "list" #[] e1) :: news) (.ref fa) v k) vs ns:=Paired.mapP hcv fun v k ⟨t,z⟩=>⟨t,fun s R q1 q2 q3=>z s R (fun p hp=>q1 p (aH _ hp)) q2 q3⟩
   refine Eo (kS:=kS) hne (fun s q=>hlim s fun p hp=>q p (aH _ hp)) vs ns [] 0 _ hc' F' N' fun ks e s' F2 N2 g1 g2 g3 pk=>?_
   have lk:ks.length=vs.length:=pk.length.trans hcv.length.symm
   rw [iH] at N2 ⊢
   rw [ksk_kind (ints_of pk) (by rw [aU,lk];omega)]
   refine wpAny_pure ?_
   refine wA (n:=vs.length) (lt:=ltK ns) (R:=good vs.length) (fun i j C hi hj hC=>?_) _ (rP (by omega)) ?_
   ·obtain ⟨t1,q1⟩:=BZ pk i (by rw [lk];exact hi)
    obtain ⟨t2,q2⟩:=BZ pk j (by rw [lk];exact hj)
    unfold kas_ask
    show wpAny _ _ (keyLt' oneType' (ks.getD i Value.none) (ks.getD j Value.none)) _ _ _
    rw [q1,q2]
    exact kat_lt_int hC
   ·obtain ⟨hp,gn,dr,tk',os⟩:=s'
    simp only at g1 g2 g3 F2 N2
    subst g1 g2 g3
    refine KatFin.intro F2 N2 (.head hne) fun h3 c3 F3 N3=>?_
    refine KasFin.intro F3 N3 (.tail (nJ lt1) (.head fun y hy=>aQ (lt0 y hy))) fun h4 c4 F4 N4=>⟨_,rfl,wpAny_pure ⟨_,rfl,?_⟩⟩
    exact h _ h4 c4 tk' vs lv rv F4 (fun p hp=>by
     rw [if_neg h2,← lv] at hp
     exact N4 p (aH _ hp)) lt0
end
section
variable {X:Cx} {fl:List Fl} {e:Expr} {fb:FA} {p pos kpos lp p1 p2 p3 p4 p5 pr posr:Pos} {x y q:Str} {P:Addr} {kd i k:Nat} {params:Arguments} {scope:Scope}
theorem G7 (hl:LamAt X P q lp) (hr:Room k X.A) (hcm:X.calm=true) (ha:DB X fl .P [e] fb) (hg:Gl X "sorted") (hm:X.mg "sorted" = none) (hg2:Gl X "range") (hm2:X.mg "range" = none)
 (hix:X.N[i]? = some x) (hfl:fl[i]? = some .A) (hcell:X.env.kindOf x=some .cell)
 (hdef:defaultsOf params X.env=([],[])) (hcl:∀ c,X.env.cells.lookup x=some c→closureFor scope X.env=pure [(x,c)])
 (hbind:∀ (cl:List (Str × Addr)) (pm:Value) (c':Addr) (ctv u:Value),bindArgs (kla_fn "<lambda>" q params (Kl x y p1 p2 p3 p4 p5 kd) scope cl pm (.ref c') ctv) ⟨[u],[]⟩=pure [(y,u)])
 (hco:scope.isCoroutine=false) (hgen:scope.isGenerator=false) (hk:scope.kind = .function) (hcells:∀ z ∈ scope.names,z.2 ≠ .cell) (hy:scope.names.lookup y=some .local) (hxf:scope.names.lookup x=some .free)
 (hxd:(x == ("__debug__" : Str))=false) (hyd:(y == ("__debug__" : Str))=false) (hxc:(x == ("__classdict__" : Str))=false)
 (he:backTo pos (starEach [Expr.Call (.Name "range" pr) [e] [] posr] X.env)=(false,eval (Expr.Call (.Name "range" pr) [e] [] posr) X.env) :: backTo pos (starEach [] X.env)) (hpl:(backTo pos (starEach [Expr.Call (.Name "range" pr) [e] [] posr] X.env)).any (·.1)=false)
 (hs:starEach [e] X.env=(false,eval e X.env) :: starEach [] X.env:=by exact mY rfl)
 : DE X fl .FC (.Call (.Name "sorted" p) [.Call (.Name "range" pr) [e] [] posr] [⟨some (Str.ofString "key"),.Lambda params (Kl x y p1 p2 p3 p4 p5 kd) scope lp,kpos⟩] pos) (B_ (dCall xJ fb) dK0 [i]):=by
 have bs:bootBuiltins "sorted" = some (.builtin "sorted"):=by decide +kernel
 intro pins s σ H Q I hq
 obtain ⟨G,ow,δ,d,R,hf,q0⟩:=hq
 obtain ⟨xd,e1,hf1⟩:=bind1 hf
 obtain ⟨ds0,e0,e1b⟩:=bind1 e1
 unfold xJ at e1b
 split at e1b
 case h_2=>cases e1b
 next hi =>
 by_cases z:(-(2 ^ 62) ≤ hi∧hi < 2 ^ 62)∧(hi - 0).toNat ≤ 1000000
 case neg=>rw [if_neg z] at e1b;cases e1b
 rw [if_pos z] at e1b
 cases e1b
 obtain ⟨⟨z3,z4⟩,z5⟩:=z
 have el:jy 0 hi=(lC 0 (hi - 0).toNat).map fun (j:Nat)=>PyData.int (0 + (j:Int)):=by
  unfold jy
  rw [List.range_eq_range']
 have ll:(jy 0 hi).length=(hi - 0).toNat:=by rw [el,aC,sZ]
 have ra0:∀ Hx:Hp,RAs X.K ok1 true Hx ((lC 0 (hi - 0).toNat).map fun (j:Nat)=>V.int (0 + (j:Int))) (jy 0 hi):=fun Hx=>by rw [el];exact Mr 0 _ 0
 generalize jy 0 hi=l at *
 dsimp only at hf1
 by_cases hc:l.length < 64∧flats l=true
 case neg=>rw [if_neg hc] at hf1;cases hf1
 rw [if_pos hc] at hf1
 obtain ⟨ks,e2,hf2⟩:=bind1 hf1
 cases e3:dh ks with
 | none=>rw [e3] at hf2;cases hf2
 | some ns =>
 rw [e3] at hf2
 cases hf2
 refine wpAny_Call_Name_kw (ou I hg hm bs ?_)
 refine PyProof.Rows.callWith_kw ?_ he hpl rfl rfl
 rw [he]
 refine Calls.spliced_cons ?_
 refine Call_ (ou I hg2 hm2 boot_range (PyProof.Rows.callWith_type1 (thn (ha posr pins s σ H (fun vs H1=>Same H H1∧RAs X.K ok1 true H1 vs [.int hi]) I ⟨G,ow,δ,_,R,e0,fun vs H' s' r'=>⟨s',r'⟩⟩) fun us s0 ⟨vs,H1,I0,r1,sm1,ra⟩=>?_) hs rfl))
 cases ra with
 | cons ra1 ra2 =>
 cases ra2
 obtain rfl:=ra1.intE
 cases r1 with
 | cons c1 c2 =>
 cases c2
 obtain ⟨t0,rfl⟩:=c1
 refine call_range_1 ?_
 refine Calls.spliced_nil ?_
 have hsz:Builtin.Range.rangeSize 0 hi 1=(((hi - 0).toNat:Nat):Int):=by rw [rangeSize_one];split <;> omega
 have smr:Builtin.Range.small 0 hi 1=true:=small_one (by decide) (by decide) z3 z4
 obtain ⟨ta,tb,tc,hrg⟩:∃ ta tb tc,IsRange (s0.heap.push { cls:=.type "range", data:=.fields #[.int 0 s0.toks,.int hi t0,.int 1 (s0.toks + 1)] }) s0.heap.objs.size 0 hi 1 ta tb tc:=⟨_,_,_,IsRange.new ..⟩
 generalize hra:s0.heap.objs.size=ra at *
 have I1:L2.Inv X pins σ H1 { s0 with heap:=s0.heap.push { cls:=.type "range", data:=.fields #[.int 0 s0.toks,.int hi t0,.int 1 (s0.toks + 1)] },toks:=s0.toks + 2 }:=I0.kept fun b o e=>Heap.get?_push_of_some _ e
 show wpAny _ _ _ _ _ { s0 with heap:=s0.heap.push { cls:=.type "range", data:=.fields #[.int 0 s0.toks,.int hi t0,.int 1 (s0.toks + 1)] },toks:=s0.toks + 2 }
 generalize es1:({ s0 with heap:=s0.heap.push { cls:=.type "range", data:=.fields #[.int 0 s0.toks,.int hi t0,.int 1 (s0.toks + 1)] },toks:=s0.toks + 2 }:Shared)=s1 at *
 have hrg:IsRange s1.heap ra 0 hi 1 ta tb tc:=by rw [← es1];exact hrg
 have R1:=R.grow sm1
 have hT:H1 P=some (.tbl q lp):=R1.tb _ hl.tb
 obtain ⟨c,hcx⟩:=I1.ok.has x (.inl hcell)
 obtain ⟨cc,hcode,hhd⟩:=hl.cd
 have KX:=I1.kIn
 have hgl:s1.heap.Ns mainGlobals X.mg:=I1.mod.glob.keeps I1.bk
 have hgP:mainGlobals ≠ P:=fun z=>by
  obtain ⟨o,_,_,g1,_⟩:=I1.mod.glob
  have:=(I1.bs _ _ g1).2
  rw [z,hT] at this;cases this
 have hbm:s1.heap.BuiltinsAt X.mg P:=by
  obtain ⟨bm,ob,g1,g2,g3,g4,g5,g6⟩:=I1.mod.bm
  refine ⟨bm,ob,g1,g2,fun z=>?_,fun z=>?_,I1.bk _ _ g3,g4,g5,g6⟩
  ·obtain ⟨o,_,_,k1,k2,_⟩:=I1.mod.glob
   rw [z,k1] at g3;cases g3
   rw [k2] at g6;cases g6
  ·have:=(I1.bs _ _ g3).2
   rw [z,hT] at this;cases this
 have hTT:∃ ps,s1.heap.get? P=some (tabObj ps)∧(ps = #[]∨∃ c',ps=ent lp c'∧s1.heap.CodeRec (.ref c') q):=by
  obtain ⟨ps,g1,g2⟩:=I1.hok P _ hT
  refine ⟨ps,g1,?_⟩
  rcases g2 with g | ⟨c',g,_,g3⟩
  ·exact .inl g
  ·exact .inr ⟨c',g,g3⟩
 show wpAny _ _ (evalAll [do let v ← eval (.Lambda params (Kl x y p1 p2 p3 p4 p5 kd) scope lp) X.env;standAt pos;pure v]) _ _ s1
 refine wpAny_evalAll_cons (wpAny_bind ?_)
 refine Og (mg:=X.mg) hl.qn hdef (hcl c hcx) I1.ok.glob hgl hcode (codeHd_of_K KX hhd) hgP hbm hTT fun f c' ctv h' tk kp hP' hor hfs hfo hrec=>wpAny_bind (wpAny_standAt (wpAny_pure ?_))
 refine wpAny_evalAll_nil ?_
 show wpAny _ _ (PySem.call (.builtin "sorted") [.ref ra] [(Str.ofString "key", .ref f)]) _ _ _
 obtain ⟨H2,I2,sm2⟩:=RZ (tk:=tk) I1 hT kp hP' (hor.imp (fun z=>z) fun z=>⟨z.1,z.2.1⟩) hrec
 have R2:=R1.grow sm2
 have hrg2:IsRange h' ra 0 hi 1 ta tb tc:=by
  refine kp ra _ (fun y=>?_) hrg
  obtain ⟨ps,g1,_⟩:=hTT
  have hrg':=hrg
  rw [y] at hrg'
  have hrg':s1.heap.get? P=_:=hrg'
  rw [g1] at hrg'
  cases hrg'
 have rva:∀ vs:List Value,vs.length=(hi - 0).toNat→Ab vs→Vals ((lC 0 (hi - 0).toNat).map fun (j:Nat)=>V.int (0 + (j:Int))) vs:=fun vs lv rv=>by
  have:=Ik (f:=fun j:Nat=>V.int (0 + (j:Int))) vs 0 fun j v hj=>by
   obtain ⟨tt,e⟩:=rv j v hj
   rw [lO]
   exact ⟨tt,by rw [e,jU]⟩
  rw [lv] at this
  exact this
 obtain ⟨m,hmm,hlk⟩:=id I2.loc
 have notL:∀ {b:Addr} {o:Obj},h'.get? b=some o→(∀ es ep,o.data ≠ .dict es ep)→b ≠ X.env.locals:=fun {b o} g1 g2 z=>by
  obtain ⟨o2,es,ep,k1,k2,_⟩:=hmm
  rw [← z] at k1
  rw [show h'.get? b=some o2 from k1] at g1;cases g1
  exact g2 _ _ k2
 have mem:∀ {b:Addr} {o:Obj},h'.get? b=some o→b ≠ X.env.locals→(b,o) ∈ kO (Att.jg h') h' X.env.locals:=fun g1 g2=>oW g2 (Att.mJ _ _) g1
 have hlim:∀ s':Shared,(∀ p ∈ kO (Att.jg h') h' X.env.locals,s'.heap.get? p.1=some p.2)→s'.heap.NoLimit:=fun s' hk'=>I2.ok.mod.nolimit.keeps fun b o g=>hk' (b,o) (mem (I2.bk b o g) (aQ (bU (Heap.lt_size (I2.ok.bs b o g).1) I2.ok.above)))
 have calls:∀ vs:List Value,vs.length=(hi - 0).toNat→Ab vs→Paired (fun v n=>Ji X.prog X.w X.A.in1.in1 (kO (Att.jg h') h' X.env.locals) (.ref f) v n) vs ns:=fun vs lv rv=>by
  refine Jj (S:=fun d n=>∃ δ1,gNl 0 d (iw 1 [i] δ)=some δ1∧dK0 δ1=some (.int n)) (fun y0 d v n r1 r2 ⟨δ1,g1,g2⟩=>?_) (ra0 H2) (rva vs lv rv) (Aa e2 e3)
  obtain ⟨z,ds,r,rfl,g4,g5⟩:=V7 (u:=(δ[i]?).getD none) rfl g1 g2
  obtain rfl:=r1.intE
  obtain ⟨t0,rfl⟩:=r2
  have g6:δ[i]? = some (some (.d (.list ds))):=by
   cases g7:δ[i]? with
   | none=>rw [g7] at g4;cases g4
   | some u=>rw [g7] at g4;exact congrArg some g4
  have own0:ow i=none:=by
   cases g7:ow i with
   | none=>rfl
   | some b =>
    obtain ⟨_,g8,_⟩:=R2.own i b g7
    rw [hfl] at g8
    rcases g8 with ⟨g8,_⟩ | ⟨g8,_⟩ <;> cases g8
  obtain ⟨v0,k1,k2⟩:=R2.dat i _ g6 (by rw [hfl];rfl) own0
  obtain ⟨b,xs,rfl,k3,k4⟩:=k2.lstE
  obtain ⟨v1,k5,k6⟩:=k4.at g5
  obtain ⟨b2,ws,rfl,k7,k8⟩:=k6.tupE
  cases k8 with
  | cons k9 k10 =>
  obtain rfl:=k9.intE
  obtain ⟨it2,rv2,pl2,hz2⟩:=I2.list k3
  obtain ⟨it3,rv3,pl3,_⟩:=I2.tuple k7
  obtain ⟨j,j1,j2,j3,j4,j5⟩:=v9 k5
  obtain ⟨w1,j6,j7⟩:=rv2.get j2
  cases j7
  cases rv3 with
  | cons r3 rv3 =>
  obtain ⟨t3,rfl⟩:=r3
  have l2:=rv2.length
  obtain ⟨u,u1,u2⟩:=hlk i x _ hix k1 (.inr (.inl hcell))
  cases u1
  rcases u2 with ⟨u3,_⟩ | ⟨_,cl,u4,u5⟩
  ·have:some NameKind.cell=some NameKind.local:=hcell.symm.trans u3
   cases this
  have:cl=c:=by rw [hcx] at u4;exact (cJ.inj u4).symm
  subst this
  refine ⟨t3,fun s' R' hk' hlim' hR=>?_⟩
  have kk:∀ {b:Addr} {o:Obj},h'.get? b=some o→(∀ es ep,o.data ≠ .dict es ep)→s'.heap.get? b=some o:=fun g1 g2=>hk' _ (mem g1 (notL g1 g2))
  have f1:s'.heap.get? f=some (kla_obj "<lambda>" q params (Kl x y p1 p2 p3 p4 p5 kd) scope [(x,cl)] ((X.mg "__name__").getD .none) c' ctv):=kk hfo (fun _ _ z=>by cases z)
  have f2:s'.heap.CodeRec (.ref c') q:=by
   obtain ⟨c2,oc,vs2,tq,w1,w2,w3,w4⟩:=hrec
   exact ⟨c2,oc,vs2,tq,w1,kk w2 (fun _ _ z=>by rw [w3] at z;cases z),w3,w4⟩
  have f3:s'.heap.IsCell cl (some (.ref b)):=by
   obtain ⟨o,w1,w2⟩:=u5
   exact ⟨o,kk w1 (fun _ _ z=>by rw [w2] at z;cases z),w2⟩
  have f4:s'.heap.IsList b it2.toArray:=by
   obtain ⟨o,w1,w2,w3,w4⟩:=pl2.isList
   exact ⟨o,kk w1 (fun _ _ z=>by rw [w4] at z;cases z),w2,w3,w4⟩
  have f5:∀ {it5:Array Value},IsTup h' b2 it5→IsTup s'.heap b2 it5:=fun ⟨o,w1,w2,w3,w4⟩=>⟨o,kk w1 (fun _ _ z=>by rw [w4] at z;cases z),w2,w3,w4⟩
  exact RW (i:=z) (j:=j) (its:=it2.toArray) f1 f2 (by have:=hr.dp;show X.A.depth < _;omega) hlim' (fun u=>hbind _ _ _ _ u) hco hgen hk hcells hy hxf hxd hyd hxc f3 f4 (by rw [aU,← l2];exact j4) (by rw [aU,← l2];exact j5)
   (by rw [aU,← l2];exact hz2) (by rw [aU,← l2];exact j1) (by simpa using j6) (f5 pl3) (by simp) hR
 have fin:∀ (D:Addr) (h3:Heap) (ec tk3:Nat) (is:List V) (ds:List D3.D) (vo:List Value),Vals is vo→is.length ≤ sizeLine→(∀ (Hx:Hp),RAs X.K ok0 false Hx is ds) →
  sU l ns=ds→Fr (Att.jg h') X.env.locals h3 m→News (Att.jg h') X.env.locals h3 ((D,seqObj "list" (fP vo) ec) :: kO (Att.jg h') h' X.env.locals)→(∀ z ∈ kO (Att.jg h') h' X.env.locals,z.1 < D) →
  EP X pins σ Q (.ref D) { s1 with heap:=h3,toks:=tk3 }:=fun D h3 ec tk3 is ds vo v1 v2 v3 v4 F3 N3 lt=>by
  have kept3:∀ b o,b ≠ X.env.locals→h'.get? b=some o→h3.get? b=some o:=fun b o hb g=>(N3 (b,o) (aH _ (mem g hb))).1
  have hD:h'.get? D=none:=by
   cases g:h'.get? D with
   | none=>rfl
   | some o =>
    by_cases z:D=X.env.locals
    ·exact absurd z (N3 _ (aJ ..)).2.1
    ·exact absurd (lt (D,o) (mem g z)) (gP _)
  have hn:H2 D=none:=by
   cases g:H2 D with
   | none=>rfl
   | some u =>
    obtain ⟨w,hw⟩:=uZ (I2.hok D u g)
    rw [show h'.get? D=some w from hw] at hD;cases hD
  have new:fG X.prog X.w (upd H2 D (.lst is)) h3 D (.lst is):=⟨v2,vo,ec,v1,(N3 _ (aJ ..)).1⟩
  have J:=Bk (s:={ s1 with heap:=h',toks:=tk }) (h':=h3) I2 hmm F3.ns kept3 hD new
  refine ⟨.ref D,_,J.tok tk3,rfl,q0 _ _ ((sm1.trans sm2).trans (cH hn _)) (.inr ⟨D,is,ds,rfl,(by show PyData.list (sU l ns)=_;rw [v4]),(sm1.trans sm2).free hn,bN,?_⟩)⟩
  exact (v3 _).imp (fun _ z=>z.elim) (fun z=>z)
 refine R5 (I.ok.hd hcm) (Att.Ar hmm) uf hrg2 smr hsz (by omega) calls hlim fun D h3 ec tk3 vs lv rv F3 N3 lt=>?_
 by_cases h1:(hi - 0).toNat ≤ 1
 ·rw [if_pos h1] at N3
  exact fin D h3 ec tk3 _ l vs (rva vs lv rv) (by rw [aC,sZ];exact bh h1 (by decide)) (fun Hx=>RAs.flat hc.2 (ra0 Hx)) (by unfold sU;rw [if_pos (by omega)]) F3 N3 lt
 ·rw [if_neg h1] at N3
  have eo:sU l ns=(m8 (hi - 0).toNat (ltK ns)).map fun i=>l.getD i .none:=by unfold sU;rw [if_neg (by omega),ll];rfl
  have pm:=fZ (n:=(hi - 0).toNat) (by omega) (ltK ns)
  refine fin D h3 ec tk3 ((m8 (hi - 0).toNat (ltK ns)).map fun i=>((lC 0 (hi - 0).toNat).map fun (j:Nat)=>V.int (0 + (j:Int))).getD i .non) _ _ ?_ ?_ ?_ eo F3 N3 lt
  ·have rvs:=rva vs lv rv
   generalize m8 (hi - 0).toNat (ltK ns)=is
   induction is with
   | nil=>exact .nil
   | cons i is ih=>exact .cons (z_ rvs i) ih
  ·rw [aC,pm.length_eq,bY]
   exact bh (dj (ll ▸ hc.1)) (by decide)
  ·intro Hx
   have r:=ra0 Hx
   generalize m8 (hi - 0).toNat (ltK ns)=is
   induction is with
   | nil=>exact .nil
   | cons i is ih=>exact .cons (RA.flat (xR hc.2 i) (Bq r i)) ih
end
end XL
namespace D3
open PySem PySem.Spec PyProof.Rows L2 My
section
variable {X:Cx} {fl:List Fl} {e a b:Expr} {es:List Expr} {f fa fb:FE} {fr:FA} {k:Kd} {pos:Pos}
theorem vA (i:Nat) {x:Str} (hfl:fl[i]? = some .A:=by rfl) (hN:X.N[i]? = some x:=by rfl) (hv:Vis X.env.scope x:=by first | exact Or.inl rfl | exact Or.inr (Or.inl rfl) | exact Or.inr (Or.inr rfl)) (hd:(x == ("__debug__" : Str))=false:=by decide)
 (hcd:(x == ("__classdict__" : Str))=false:=by decide):DE X fl .A (.Name x pos) (aD i):=Az i hfl hN hv hd hcd
theorem vP (i:Nat) {x:Str} (hfl:fl[i]? = some .A:=by rfl) (hN:X.N[i]? = some x:=by rfl) (hv:Vis X.env.scope x:=by first | exact Or.inl rfl | exact Or.inr (Or.inl rfl) | exact Or.inr (Or.inr rfl)) (hd:(x == ("__debug__" : Str))=false:=by decide)
 (hcd:(x == ("__classdict__" : Str))=false:=by decide):DE X fl .P (.Name x pos) (aD i):=gJ (Az i hfl hN hv hd hcd)
theorem vB (i:Nat) {x:Str} (hfl:fl[i]? = some .A:=by rfl) (hN:X.N[i]? = some x:=by rfl) (hv:Vis X.env.scope x:=by first | exact Or.inl rfl | exact Or.inr (Or.inl rfl) | exact Or.inr (Or.inr rfl)) (hd:(x == ("__debug__" : Str))=false:=by decide)
 (hcd:(x == ("__classdict__" : Str))=false:=by decide):DE X fl (.B []) (.Name x pos) (aD i):=cX (Az i hfl hN hv hd hcd)
theorem iP {i j pos}:DE X fl .P (.Constant (.int i) j pos) (dC (.int i)):=bf A_
theorem iC {i j pos}:DE X fl .C (.Constant (.int i) j pos) (dC (.int i)):=iB A_
theorem dz:DB X fl k [] bw:=Vv
theorem dq (h:DE X fl k e f) (hr:DB X fl k es fr) (hk:isR k=true:=by rfl) (hs:starEach (e :: es) X.env=(false,eval e X.env) :: starEach es X.env:=by exact mY rfl):DB X fl k (e :: es) (aF f fr):=Q7 hk h hr hs
theorem dx (ha:DE X fl (.B L) a fa) (hb:DE X fl .P b fb) (hs:Am b:=by exact fun _ _=>rfl):DE X fl .A (.Subscript a b pos) (dOp gIx fa fb):=X4 ha hb hs
theorem sA (hN:X.N.Nodup) (h:DE X fl .A e f) (hfl:fl[i]? = some .A:=by rfl) (hi:X.N[i]? = some x:=by rfl) (hv:X.env.scope.names.lookup x=some .local∨X.env.scope.names.lookup x=some .cell:=by first | exact Or.inl rfl | exact Or.inr rfl)
 (hs:swapsWith e (some (.Name x pos')) pos.line X.env=pure false:=by rfl) (hfn:X.fn x=true∨X.env.scope.names.lookup x=some .local:=by first | exact .inl rfl | exact .inr rfl) :
 DS1 X fl (.Assign [.Name x pos'] e pos) (b_ i f):=Q5 hfl hN hi hv h hs hfn
theorem gN' (hN:X.N.Nodup) (hfl:fl[i]? = some .A:=by rfl) (hi:X.N[i]? = some x:=by rfl) (hv:X.env.scope.names.lookup x=some .local∨X.env.scope.names.lookup x=some .cell:=by first | exact Or.inl rfl | exact Or.inr rfl)
 (hfn:X.fn x=true∨X.env.scope.names.lookup x=some .local:=by first | exact .inl rfl | exact .inr rfl):DG X fl [i] (.Name x pos) (gNl i):=Q6 hfl hN hi hv hfn
end
theorem fsc {P:List Str} {sc:Scope} (a:sc.kind = .function:=by rfl) (b:sc.isCoroutine=false:=by rfl) (c:sc.isGenerator=false:=by rfl) (d:N.Nodup:=by decide +kernel) (e:N.take P.length=P:=by rfl) (f:∀ x ∈ P,sc.names.lookup x=some .local∨sc.names.lookup x=some .cell:=by decide +kernel) (g:∀ y ∈ sc.names,y.2 ≠ .free:=by decide +kernel):FnScope N P sc:=⟨a,b,c,d,e,f,g⟩
end D3
namespace D3
open PySem
def qS (o:Option Oc) (b:FS):Option Oc:=match o with
 | some (.nx δ)=>b δ
 | some o=>some o
 | none=>none
def qI (o:Option Bool) (a b:FS) (δ:DS):Option Oc:=match o with
 | some true=>a δ
 | some false=>b δ
 | none=>none
def qO (g:D→D→Option D) (a b:Option D):Option D:=match a,b with
 | some x,some y=>g x y
 | _,_=>none
def qU (g:D→Option D) (a:Option D):Option D:=match a with
 | some x=>g x
 | none=>none
def qC (a:Option D) (r:Option (List D)):Option (List D):=match a,r with
 | some x,some l=>some (x :: l)
 | _,_=>none
def qF (F:List D→Option D) (l:Option (List D)):Option D:=match l with
 | some l=>F l
 | none=>none
def qR (a:Option D):Option Oc:=match a with
 | some d=>some (.rt d)
 | none=>none
def V_ (i:Nat) (a:Option D) (δ:DS):Option Oc:=match a with
 | some d=>if i < δ.length then some (.nx (δ.set i (some (.d d)))) else none
 | none=>none
def Ko (a:Option D) (fb:FE) (δ:DS):Option D:=match a with
 | some (.bool true)=>fb δ
 | some (.bool false)=>some (.bool false)
 | _=>none
def qOr (a:Option D) (fb:FE) (δ:DS):Option D:=match a with
 | some (.bool true)=>some (.bool true)
 | some (.bool false)=>fb δ
 | _=>none
def qN (a:Option D):Option D:=match a with
 | some (.bool b)=>some (.bool (!b))
 | _=>none
def qB (a:Option D):Option Bool:=match a with
 | some (.bool b)=>some b
 | _=>none
def qTA (a:Option Bool) (b:FT) (δ:DS):Option Bool:=match a with
 | some true=>b δ
 | some false=>some false
 | none=>none
def qTO (a:Option Bool) (b:FT) (δ:DS):Option Bool:=match a with
 | some true=>some true
 | some false=>b δ
 | none=>none
def qTN (a:Option Bool):Option Bool:=match a with
 | some b=>some (!b)
 | none=>none
def qE (a:Option Bool) (fa fb:FE) (δ:DS):Option D:=match a with
 | some true=>fa δ
 | some false=>fb δ
 | none=>none
def qL (a:Option D):Option (List D):=match a with
 | some (.list l)=>some l
 | _=>none
def Wa (a:Option (List D)) (g:FG) (b:FS) (δ:DS):Option Oc:=match a with
 | some l=>jD g b l δ
 | none=>none
def qD (a:Option DS):Option Oc:=match a with
 | some δ=>some (.nx δ)
 | none=>none
def qG (a:Option D) (g:FG) (δ:DS):Option DS:=match a with
 | some d=>g d δ
 | none=>none
def qGs (a:Option DS) (r:List D→DS→Option DS) (l:List D):Option DS:=match a with
 | some δ=>r l δ
 | none=>none
def qT (a:Option (List D)):Option D:=match a with
 | some l=>if l.length ≤ sizeLine then some (.tuple l) else none
 | none=>none
def qK (a:Option (List D)):Option D:=match a with
 | some l=>if l.length ≤ sizeLine then some (.list l) else none
 | none=>none
def qFl (p:D→Bool) (a:Option D):Option D:=match a with
 | some d=>if p d=true then some d else none
 | none=>none
def qA (i:Nat) (x a:Option D) (δ:DS):Option Oc:=match x,a with
 | some (.list l),some d=>if l.length < 1000000 then some (.nx (δ.set i (some (.d (.list (l++[d])))))) else none
 | _,_=>none
def qP (i:Nat) (a x k:Option D) (δ:DS):Option Oc:=match a,x,k with
 | some d,some (.list l),some (.int j)=>(pIx l.length j).bind fun n=>some (.nx (δ.set i (some (.d (.list (l.set n d))))))
 | _,_,_=>none
def qCh (g':D→D→Option D) (z:Option D) (y:Option D) (fc:FE) (δ:DS):Option D:=match z with
 | some (.bool true)=>qO g' y (fc δ)
 | some (.bool false)=>some (.bool false)
 | _=>none
def qFn (o:Option Oc):Option D:=match o with
 | some (.rt d)=>some d
 | some (.nx _)=>some .none
 | _=>none
def qCo (a:Option (List D)) (g:FG) (c:FT) (e:FE) (t:Nat) (ix:List Nat) (δ:DS):Option D:=match a with
 | some l=>if l.length ≤ 100000 then (match jM g c e (iw t ix δ) l with | some r=>some (.list r) | none=>none) else none
 | none=>none
section
variable {a b:FS} {c c':FT} {fa fb fc:FE} {fr:FA} {δ:DS} {g:D→D→Option D} {h:D→Option D} {F:List D→Option D} {i:Nat} {G:FG} {d:D}
theorem Ym:cF a b δ=qS (a δ) b:=by
 unfold cF qS
 cases a δ with
 | none=>rfl
 | some o=>cases o <;> rfl
theorem Ol:qS (some (.nx δ')) b=b δ':=rfl
theorem Om:qS (some (.rt d)) b=some (.rt d):=rfl
theorem Oo:qS (some (.bk δ')) b=some (.bk δ'):=rfl
theorem Oq:qS (some (.ct δ')) b=some (.ct δ'):=rfl
theorem Yn:iK δ=some (.nx δ):=rfl
theorem Z1:sBk δ=some (.bk δ):=rfl
theorem Z2:sCt δ=some (.ct δ):=rfl
theorem Z4:sIf c a b δ=qI (c δ) a b δ:=by
 unfold sIf qI
 cases c δ with
 | none=>rfl
 | some t=>cases t <;> rfl
theorem Wb:qI (some true) a b δ=a δ:=rfl
theorem Wc:qI (some false) a b δ=b δ:=rfl
theorem v_op:dOp g fa fb δ=qO g (fa δ) (fb δ):=by
 unfold dOp qO
 cases fa δ <;> cases fb δ <;> rfl
theorem Wd {x:D}:qO g (some x) (some y)=g x y:=rfl
theorem Z5:dUn h fa δ=qU h (fa δ):=by
 unfold dUn qU
 cases fa δ <;> rfl
theorem Wf {x:D}:qU h (some x)=h x:=rfl
theorem Wg:bw δ=some []:=rfl
theorem R6:aF fa fr δ=qC (fa δ) (fr δ):=by
 unfold aF qC
 cases fa δ <;> cases fr δ <;> rfl
theorem Kp {x:D}:qC (some x) (some l)=some (x :: l):=rfl
theorem Wh:dCall F fr δ=qF F (fr δ):=by
 unfold dCall qF
 cases fr δ <;> rfl
theorem Ot:qF F (some l)=F l:=rfl
theorem Yo:fJ fa δ=qR (fa δ):=by
 unfold fJ qR
 cases fa δ <;> rfl
theorem R7:qR (some d)=some (.rt d):=rfl
theorem Wj:XF δ=some (.rt .none):=rfl
theorem Yp:b_ i fa δ=V_ i (fa δ) δ:=by
 unfold b_ XC V_
 cases fa δ with
 | none=>simp
 | some d=>rfl
theorem R8:V_ i (some d) δ=if i < δ.length then some (.nx (δ.set i (some (.d d)))) else none:=rfl
theorem v_c:dC d δ=some d:=rfl
theorem v_and:vU fa fb δ=Ko (fa δ) fb δ:=by
 unfold vU Ko
 cases fa δ with
 | none=>rfl
 | some x =>
  cases x <;> try rfl
  next b=>cases b <;> rfl
theorem R9:Ko (some (.bool true)) fb δ=fb δ:=rfl
theorem R_:Ko (some (.bool false)) fb δ=some (.bool false):=rfl
theorem v_or:dOr fa fb δ=qOr (fa δ) fb δ:=by
 unfold dOr qOr
 cases fa δ with
 | none=>rfl
 | some x =>
  cases x <;> try rfl
  next b=>cases b <;> rfl
theorem Wk:qOr (some (.bool true)) fb δ=some (.bool true):=rfl
theorem Wl:qOr (some (.bool false)) fb δ=fb δ:=rfl
theorem v_not:Lw fa δ=qN (fa δ):=by
 unfold Lw qN
 cases fa δ with
 | none=>rfl
 | some x=>cases x <;> rfl
theorem Sg {b:Bool}:qN (some (.bool b))=some (.bool (!b)):=rfl
theorem Z6:cI fa δ=qB (fa δ):=by
 unfold cI qB
 cases fa δ with
 | none=>rfl
 | some x=>cases x <;> rfl
theorem Wm {b:Bool}:qB (some (.bool b))=some b:=rfl
theorem Wn:D3.Gb c c' δ=qTA (c δ) c' δ:=by
 unfold D3.Gb qTA
 cases c δ with
 | none=>rfl
 | some t=>cases t <;> rfl
theorem Ou:qTA (some true) c δ=c δ:=rfl
theorem Ov:qTA (some false) c δ=some false:=rfl
theorem Yq:D3.tOr c c' δ=qTO (c δ) c' δ:=by
 unfold D3.tOr qTO
 cases c δ with
 | none=>rfl
 | some t=>cases t <;> rfl
theorem Sh:qTO (some true) c δ=some true:=rfl
theorem Sq:qTO (some false) c δ=c δ:=rfl
theorem Wo:D3.mH c δ=qTN (c δ):=by
 unfold D3.mH qTN
 cases c δ <;> rfl
theorem Ox {b:Bool}:qTN (some b)=some (!b):=rfl
theorem v_ite:dIf c fa fb δ=qE (c δ) fa fb δ:=by
 unfold dIf qE
 cases c δ with
 | none=>rfl
 | some t=>cases t <;> rfl
theorem Ss:qE (some true) fa fb δ=fa δ:=rfl
theorem Sv:qE (some false) fa fb δ=fb δ:=rfl
theorem Yr:rC fa δ=qL (fa δ):=by
 unfold rC qL asList
 cases fa δ with
 | none=>rfl
 | some x=>cases x <;> rfl
theorem Sw:qL (some (.list l))=some l:=rfl
theorem Ys:rB fr G b δ=Wa (fr δ) G b δ:=by
 unfold rB Wa
 cases fr δ <;> rfl
theorem Sx:Wa (some l) G b δ=jD G b l δ:=rfl
theorem Kq:jD G b [] δ=some (.nx δ):=rfl
theorem Yt:QT fa G δ=qD (qG (fa δ) G δ):=by
 unfold QT qG qD
 cases fa δ with
 | none=>rfl
 | some d =>
  dsimp only [aK]
  cases G d δ <;> rfl
theorem Sy:qG (some d) G δ=G d δ:=rfl
theorem SJ:qD (some δ')=some (.nx δ'):=rfl
theorem Z7:gNl i d δ=if i < δ.length then some (δ.set i (some (.d d))) else none:=rfl
theorem Z8 {gs:List D→DS→Option DS}:gTn n gs (.tuple l) δ=if l.length=n then gs l δ else none:=rfl
theorem Yu:nF [] δ=some δ:=rfl
theorem Yv {gs:List D→DS→Option DS}:d7 G gs (d :: l) δ=qGs (G d δ) gs l:=by
 show (G d δ).bind (fun δ'=>gs l δ')=qGs (G d δ) gs l
 cases G d δ <;> rfl
theorem SM {gs:List D→DS→Option DS}:qGs (some δ') gs l=gs l δ':=rfl
theorem Yw:dTup fr δ=qT (fr δ):=by
 unfold dTup qT
 cases fr δ <;> rfl
theorem SN:qT (some l)=if l.length ≤ sizeLine then some (.tuple l) else none:=rfl
theorem Z9:eU fr δ=qK (fr δ):=by
 unfold eU qK
 cases fr δ <;> rfl
theorem Wq:qK (some l)=if l.length ≤ sizeLine then some (.list l) else none:=rfl
theorem Wr:i_ fa δ=qFl flat (fa δ):=by
 unfold i_ qFl
 cases fa δ <;> rfl
theorem Yx:wY fa δ=qFl fl1 (fa δ):=by
 unfold wY qFl
 cases fa δ <;> rfl
theorem Ws {p:D→Bool}:qFl p (some d)=if p d=true then some d else none:=rfl
theorem Yy:vV i fa δ=qA i (aD i δ) (fa δ) δ:=by
 unfold vV qA
 cases aD i δ with
 | none=>rfl
 | some x =>
  cases fa δ with
  | none=>cases x <;> rfl
  | some d=>cases x <;> rfl
theorem SQ:qA i (some (.list l)) (some d) δ=if l.length < 1000000 then some (.nx (δ.set i (some (.d (.list (l++[d])))))) else none:=rfl
theorem Yz:QV i fk fa δ=qP i (fa δ) (aD i δ) (fk δ) δ:=by
 unfold QV qP
 cases fa δ with
 | none=>rfl
 | some d =>
  cases aD i δ with
  | none=>rfl
  | some x =>
   cases fk δ with
   | none=>cases x <;> rfl
   | some k=>cases x <;> cases k <;> rfl
theorem SX:qP i (some d) (some (.list l)) (some (.int j)) δ=(pIx l.length j).bind fun n=>some (.nx (δ.set i (some (.d (.list (l.set n d)))))):=rfl
theorem S5:oE g g' fa fb fc δ=qCh g' (qO g (fa δ) (fb δ)) (fb δ) fc δ:=by
 unfold oE qCh qO
 cases fa δ with
 | none=>rfl
 | some x =>
  cases fb δ with
  | none=>rfl
  | some y =>
   dsimp only [aK]
   cases g x y with
   | none=>rfl
   | some z =>
    cases z <;> try rfl
    next b =>
    cases b with
    | false=>rfl
    | true=>dsimp only [aK];cases fc δ <;> rfl
theorem Kr {y:Option D}:qCh g' (some (.bool true)) y fc δ=qO g' y (fc δ):=rfl
theorem Ks {y:Option D}:qCh g' (some (.bool false)) y fc δ=some (.bool false):=rfl
theorem YB {p q:Nat}:fnD p q b ds=if ds.length=p then qFn (b (ds.map (fun d=>some (.d d))++aG q none)) else none:=by
 unfold fnD qFn
 rfl
theorem S6:qFn (some (.rt d))=some d:=rfl
theorem S7:qFn (some (.nx δ'))=some .none:=rfl
theorem Wt {t:Nat}:gW fr G c fa t ix δ=qCo (fr δ) G c fa t ix δ:=by
 unfold gW qCo
 cases fr δ with
 | none=>rfl
 | some l =>
  dsimp only [aK]
  by_cases z:l.length ≤ 100000
  ·rw [if_pos z,if_pos z]
   cases jM G c fa (iw t ix δ) l <;> rfl
  ·rw [if_neg z,if_neg z]
theorem Oz {t:Nat}:qCo (some l) G c fa t ix δ=if l.length ≤ 100000 then (match jM G c fa (iw t ix δ) l with | some r=>some (.list r) | none=>none) else none:=rfl
theorem YC:D3.jx δ=some true:=rfl
theorem Wu {r:DS} {x:D}:aD 0 (some (.d x) :: r)=some x:=rfl
theorem Wv {r:DS} {y:Option U}:aD (i + 1) (y :: r)=aD i r:=rfl
end
section
variable {i j:Int} {l m:List D} {d:D}
theorem YD:eV (.int i) (.int j)=some (.int (i + j)):=rfl
theorem YF:yL (.int i) (.int j)=some (.int (i - j)):=rfl
theorem Z_:gLt (.int i) (.int j)=some (.bool (decide (i < j))):=rfl
theorem aa0:gLe (.int i) (.int j)=some (.bool (decide (i ≤ j))):=rfl
theorem aa1:gGt (.int i) (.int j)=some (.bool (decide (j < i))):=rfl
theorem aa2:gGe (.int i) (.int j)=some (.bool (decide (j ≤ i))):=rfl
theorem YG:gEq (.int i) (.int j)=some (.bool (decide (i=j))):=rfl
theorem YH:gNe (.int i) (.int j)=some (.bool (!decide (i=j))):=rfl
theorem YJ:jj [.list l]=some (.int l.length):=rfl
theorem Ww:jj [.tuple l]=some (.int l.length):=rfl
theorem vg:∀ ns:List Int,dh (ns.map .int)=some ns
 | []=>rfl
 | n :: r=>by rw [aP,dh,vg r];rfl
theorem YK:ZL [.int i]=some (.int (if i < 0 then -i else i)):=rfl
theorem YL:HJ [.int i,.int j]=some (.int (if j > i then j else i)):=rfl
theorem YM:Ds [.int i,.int j]=some (.int (if j < i then j else i)):=rfl
theorem YQ:Gr (.int i)=some (.int (-i)):=rfl
theorem aa3:gIx (.list l) (.int i)=pAt l i:=rfl
theorem YS:gIx (.tuple l) (.int i)=pAt l i:=rfl
theorem Ui:fQ (.list l) (.list m)=if l.length + m.length ≤ 1000000 then some (.list (l++m)) else none:=rfl
theorem Wx:vD (.list l)=some (.list l):=rfl
theorem S8:vD (.tuple l)=some (.list l):=rfl
theorem YT:pAt (d :: l) 0=some d:=by
 unfold pAt pIx
 rw [if_pos (by decide),if_pos (by simp)]
 rfl
end
def Wy (i j:Nat) (a:Option (List D)) (δ:DS):Option Oc:=match a with
 | some l=>match l with
  | [x,y]=>if i < δ.length∧j < δ.length then some (.nx ((δ.set i (some (.d x))).set j (some (.d y)))) else none
  | _=>none
 | none=>none
def vN (a:Option (List D)):Option (List D):=match a with
 | some l=>match l with
  | [.int j]=>if w6 j=true then some (jy 0 j) else none
  | _=>none
 | none=>none
def Uj (a:Option (List D)):Option (List D):=match a with
 | some l=>match l with
  | [.int i,.int j]=>if (w6 i && w6 j)=true then some (jy i j) else none
  | _=>none
 | none=>none
def qSl (x:Option D) (a b:Option (Option Int)):Option D:=match x,a,b with
 | some (.list l),some a,some b=>some (.list (cutD l a b))
 | _,_,_=>none
def qOP (x:Option D):Option (Option Int):=match x with
 | some (.int i)=>some (some i)
 | _=>none
def qEn (x:Option D):Option (List D):=match x with
 | some (.list l)=>some (pN l)
 | _=>none
section
variable {a b:FS} {fa:FE} {fr:FA} {δ:DS} {i j:Nat} {g:FG}
theorem YW:XQ i j fr δ=Wy i j (fr δ) δ:=by
 unfold XQ Wy
 cases fr δ with
 | none=>rfl
 | some l=>rfl
theorem S9 {x:D}:Wy i j (some [x,y]) δ=if i < δ.length∧j < δ.length then some (.nx ((δ.set i (some (.d x))).set j (some (.d y)))) else none:=rfl
theorem Wz:sS fr δ=vN (fr δ):=by
 unfold sS vN
 cases fr δ with
 | none=>rfl
 | some l=>rfl
theorem Ku {k:Int} (h : -(2 ^ 62) ≤ k) (h2:k < 2 ^ 62):vN (some [.int k])=some (jy 0 k):=by
 show (if w6 k=true then some (jy 0 k) else none)=_
 rw [if_pos]
 unfold w6
 rw [dTr h,dTr h2]
 rfl
theorem WD:T5 fr δ=Uj (fr δ):=by
 unfold T5 Uj
 cases fr δ with
 | none=>rfl
 | some l=>rfl
theorem aa4 {lo hi:FO}:dSl fa lo hi δ=qSl (fa δ) (lo δ) (hi δ):=by
 unfold dSl qSl
 cases fa δ with
 | none=>rfl
 | some x =>
  dsimp only [aK]
  cases lo δ with
  | none=>cases x <;> rfl
  | some p =>
   dsimp only [aK]
   cases hi δ with
   | none=>cases x <;> rfl
   | some r=>cases x <;> rfl
theorem WK {p r:Option Int}:qSl (some (.list l)) (some p) (some r)=some (.list (cutD l p r)):=rfl
theorem aa5:jN δ=some none:=rfl
theorem aa6:eX fa δ=qOP (fa δ):=by
 unfold eX qOP
 cases fa δ with
 | none=>rfl
 | some x=>cases x <;> rfl
theorem WL {k:Int}:qOP (some (.int k))=some (some k):=rfl
theorem WM:HS fa δ=qEn (fa δ):=by
 unfold HS qEn
 cases fa δ with
 | none=>rfl
 | some x=>cases x <;> rfl
theorem OJ:qEn (some (.list l))=some (pN l):=rfl
theorem Ca (Inv:Nat→DS→Prop):∀ (l:List D) (δ:DS),Inv 0 δ→(∀ i d δ,l[i]? = some d→Inv i δ→∃ δ1 δ',g d δ=some δ1∧(b δ1=some (.nx δ')∨b δ1=some (.ct δ'))∧Inv (i + 1) δ')→∃ δ',jD g b l δ=some (.nx δ')∧Inv l.length δ':=by
 have key:∀ (l:List D) (k:Nat) (δ:DS),Inv k δ→(∀ i d δ,l[i]? = some d→Inv (k + i) δ→∃ δ1 δ',g d δ=some δ1∧(b δ1=some (.nx δ')∨b δ1=some (.ct δ'))∧Inv (k + i + 1) δ')→∃ δ',jD g b l δ=some (.nx δ')∧Inv (k + l.length) δ':=by
  intro l
  induction l with
  | nil=>exact fun k δ h _=>⟨δ,rfl,h⟩
  | cons d r ih =>
   intro k δ h hs
   obtain ⟨δ1,δ',e1,e2,e3⟩:=hs 0 d δ rfl h
   obtain ⟨δ2,e4,e5⟩:=ih (k + 1) δ' e3 fun i d' δ'' hd hi=>by
    have:=hs (i + 1) d' δ'' (by simpa using hd) (by rw [show k + (i + 1)=k + 1 + i by omega];exact hi)
    rw [show k + (i + 1) + 1=k + 1 + i + 1 by omega] at this
    exact this
   refine ⟨δ2,?_,by rw [bM,show k + (r.length + 1)=k + 1 + r.length by omega];exact e5⟩
   rw [jD,e1,aK]
   rcases e2 with e2 | e2
   ·rw [e2];exact e4
   ·rw [e2];exact e4
 intro l δ h hs
 have:=key l 0 δ h fun i d δ hd hi=>by
  have:=hs i d δ hd (by rw [lO] at hi;exact hi)
  rw [lO]
  exact this
 rw [lO] at this
 exact this
end
def qX (a:Option D) (δ:DS):Option Oc:=match a with
 | some _=>some (.nx δ)
 | none=>none
theorem WQ {fa:FE}:HD fa δ=qX (fa δ) δ:=by
 unfold HD qX
 cases fa δ <;> rfl
theorem O1:qX (some d) δ=some (.nx δ):=rfl
theorem O2 {g g'':D→D→Option D} {fa fb fc fd:FE}:wj g g' g'' fa fb fc fd δ=Ko (qO g (fa δ) (fb δ)) (oE g' g'' fb fc fd) δ:=by
 unfold wj Ko oE qO
 cases fa δ with
 | none=>rfl
 | some x =>
  cases fb δ with
  | none=>rfl
  | some y =>
   dsimp only [aK]
   cases g x y with
   | none=>rfl
   | some z =>
    cases z <;> try rfl
    next b=>cases b <;> rfl
def qZ (a b:Option D):Option (List D):=match a,b with
 | some (.list l),some (.list m)=>some (pC l m)
 | _,_=>none
theorem YX {f g:FE}:Ly f g δ=qZ (f δ) (g δ):=by
 unfold Ly qZ
 cases f δ with
 | none=>rfl
 | some x =>
  cases g δ with
  | none=>cases x <;> rfl
  | some y=>cases x <;> cases y <;> rfl
theorem S_ {m:List D}:qZ (some (.list l)) (some (.list m))=some (pC l m):=rfl
theorem aa7 {fa:FE}:dN1 fa δ=qFl (fun d=>decide (nl d ≤ 1)) (fa δ):=by
 unfold dN1 qFl
 cases fa δ <;> rfl
theorem YZ:flat .none=true:=rfl
theorem aa8 {b:Bool}:flat (.bool b)=true:=rfl
theorem f_int {i:Int}:flat (.int i)=true:=rfl
theorem Y0:flat (.str x)=true:=rfl
theorem Y4:flat (.list l)=false:=rfl
theorem f_tup:flat (.tuple l)=flats l:=rfl
theorem Y5:flats []=true:=rfl
theorem WR:flats (d :: l)=(flat d && flats l):=rfl
theorem WT:fl1 .none=true:=rfl
theorem Y6 {b:Bool}:fl1 (.bool b)=true:=rfl
theorem WW {i:Int}:fl1 (.int i)=true:=rfl
theorem WX:fl1 (.str x)=true:=rfl
theorem WY:fl1 (.list l)=flats l:=rfl
theorem W0:fl1 (.tuple l)=flats l:=rfl
theorem aa9 {c:String}:gIs c d=some (.bool (isT c (tyD d))):=rfl
theorem Y7:ZK d=some (.bool (isNone d)):=rfl
theorem W2:XH d=some (.bool (!isNone d)):=rfl
theorem Y8:isNone .none=true:=rfl
theorem ab0 {b:Bool}:isNone (.bool b)=false:=rfl
theorem Y9 {i:Int}:isNone (.int i)=false:=rfl
theorem Y_:isNone (.str x)=false:=rfl
theorem Za:isNone (.list l)=false:=rfl
theorem Zb:isNone (.tuple l)=false:=rfl
theorem Zc {l:List (D × D)}:isNone (.dict l)=false:=rfl
def EVL:=And.intro @YZ <| And.intro @aa8 <| And.intro @f_int <| And.intro @Y0 <| And.intro @Y4 <| And.intro @f_tup <| And.intro @Y5 <| And.intro @WR <| And.intro @WT <| And.intro @Y6 <| And.intro @WW <| And.intro @WX <| And.intro @WY <| And.intro @W0 <| And.intro @aa9 <| And.intro @Y7 <| And.intro @W2 <| And.intro @Y8 <| And.intro @ab0 <| And.intro @Y9 <| And.intro @Y_ <| And.intro @Za <| And.intro @Zb <| And.intro @Zc <| And.intro @bM.{0} <| And.intro @gD.{0} <| And.intro @aP.{0,0} <| And.intro @iI.{0,0} <| And.intro @bZ.{0} <| And.intro @List.replicate_zero.{0} <| And.intro @mG.{0} <| And.intro @iH.{0} <| And.intro @fD.{0} <| And.intro @List.set_cons_zero.{0} <| And.intro @List.set_cons_succ.{0} <| And.intro @lO <| And.intro @if_true.{1} <| And.intro @decide_true <| And.intro @decide_false <| And.intro @Int.cast_ofNat_Int <| And.intro @cV <| And.intro @jf <| @Bool.and_self
def EV:=And.intro EVL <| And.intro @aa7 <| And.intro @YX <| And.intro @S_ <| And.intro @WQ <| And.intro @O1 <| And.intro @O2 <| And.intro @Ym (And.intro @Ol (And.intro @Om (And.intro @Oo (And.intro @Oq (And.intro @Yn (And.intro @Z1 (And.intro @Z2 (And.intro @Z4 (And.intro @Wb (And.intro @Wc (And.intro @v_op (And.intro @Wd (And.intro @Z5 (And.intro @Wf (And.intro @Wg (And.intro @R6 (And.intro @Kp (And.intro @Wh (And.intro @Ot (And.intro @Yo (And.intro @R7 (And.intro @Wj (And.intro @Yp (And.intro @R8 (And.intro @v_c (And.intro @v_and (And.intro @R9 (And.intro @R_ (And.intro @v_or (And.intro @Wk (And.intro @Wl (And.intro @v_not (And.intro @Sg (And.intro @Z6 (And.intro @Wm (And.intro @Wn (And.intro @Ou (And.intro @Ov (And.intro @Yq (And.intro @Sh (And.intro @Sq (And.intro @Wo (And.intro @Ox (And.intro @v_ite (And.intro @Ss (And.intro @Sv (And.intro @Yr (And.intro @Sw (And.intro @Ys (And.intro @Sx (And.intro @Kq (And.intro @Yt (And.intro @Sy (And.intro @SJ (And.intro @Z7 (And.intro @Z8 (And.intro @Yu (And.intro @Yv (And.intro @SM (And.intro @Yw (And.intro @SN (And.intro @Z9 (And.intro @Wq (And.intro @Wr (And.intro @Yx (And.intro @Ws (And.intro @Yy (And.intro @SQ (And.intro @Yz (And.intro @SX (And.intro @S5 (And.intro @Kr (And.intro @Ks (And.intro @YB (And.intro @S6 (And.intro @S7 (And.intro @Wt (And.intro @Oz (And.intro @YC (And.intro @Wu (And.intro @Wv (And.intro @YD (And.intro @YF (And.intro @Z_ (And.intro @aa0 (And.intro @aa1 (And.intro @aa2 (And.intro @YG (And.intro @YH (And.intro @YJ (And.intro @Ww (And.intro @YK (And.intro @YL (And.intro @YM (And.intro @YQ (And.intro @aa3 (And.intro @YS (And.intro @Ui (And.intro @Wx (And.intro @S8 (And.intro @YT (And.intro @YW (And.intro @S9 (And.intro @Wz (And.intro @WD (And.intro @aa4 (And.intro @WK (And.intro @aa5 (And.intro @aa6 (And.intro @WL (And.intro @WM @OJ)))))))))))))))))))))))))))))))))))))))))))))))))))))))))))))))))))))))))))))))))))))))))))))))))))))))))))))))
end D3
namespace My
def o8 (ns:List Int) (i:Int):Int :=
 if i < (ns.length:Int) then ns.getD i.toNat 0 % 1000000007
 else if ns=[] then 7919 * i + 5000011
 else ns.getD (i * 7 % (ns.length:Int)).toNat 0 % 1000000007 + 7919 * i
def divs (n:Int):Nat→Int
 | 0=>n
 | k + 1=>divs n k / 1000003
def Jk (c i k m:Int):Int :=
 (((c + 65537 * i + 3) * (1299709 + 15485863 * k) % 2147483629 * ((c + 65537 * i + 3) * (1299709 + 15485863 * k) % 2147483629) % 1500450271 + 104729) *
  ((c + 65537 * i + 3) * (1299709 + 15485863 * k) % 2147483629 * ((c + 65537 * i + 3) * (1299709 + 15485863 * k) % 2147483629) % 1500450271 + 104729)) % 715827883 / 64 % m
def gC (ns:List Int) (i k m:Int):Int :=
 if i < (ns.length:Int)∧10 ^ 40 ≤ ns.getD i.toNat 0∧0 < divs (ns.getD i.toNat 0) k.toNat then divs (ns.getD i.toNat 0) k.toNat % 1000003 % m
 else Jk (o8 ns i) i k m
theorem dI (ns:List Int) (i k:Int) {m:Int} (h:0 < m):0 ≤ gC ns i k m∧gC ns i k m < m:=by
 unfold gC Jk
 split
 ·exact ⟨kJ _ (by omega),jr _ h⟩
 ·exact ⟨kJ _ (by omega),jr _ h⟩
theorem Kv {i k m:Int} (h1:i < (ns.length:Int)) (h2:10 ^ 40 ≤ ns.getD i.toNat 0) (h3:0 < divs (ns.getD i.toNat 0) k.toNat) :
 gC ns i k m=divs (ns.getD i.toNat 0) k.toNat % 1000003 % m:=by
 unfold gC
 rw [if_pos ⟨h1,h2,h3⟩]
theorem tQ {i k m:Int} (h:¬ (i < (ns.length:Int)∧10 ^ 40 ≤ ns.getD i.toNat 0∧0 < divs (ns.getD i.toNat 0) k.toNat)) :
 gC ns i k m=Jk (o8 ns i) i k m:=by
 unfold gC
 rw [if_neg h]
end My
namespace Com
open PySem D3
noncomputable def eY:List D→Option D:=fnD 1 0 (fJ (vU (dUn (gIs "int") (aD 0)) (Lw (dUn (gIs "bool") (aD 0)))))
noncomputable def jm:List D→Option D:=fnD 2 0 (cF (sIf (cI (dOp gLt (aD 1) (dCall jj (aF (aD 0) (bw))))) (fJ (dOp tL (dOp gIx (aD 0) (aD 1)) (dC (.int 1000000007)))) (iK))
 (cF (sIf (cI (dOp gEq (aD 0) (eU (bw)))) (fJ (dOp eV (dOp sH (dC (.int 7919)) (aD 1)) (dC (.int 5000011)))) (iK))
 (fJ (dOp eV (dOp tL (dOp gIx (aD 0) (dOp tL (dOp sH (aD 1) (dC (.int 7))) (dCall jj (aF (aD 0) (bw))))) (dC (.int 1000000007))) (dOp sH (dC (.int 7919)) (aD 1))))))
noncomputable def bF:List D→Option D:=fnD 4 2 (cF (sIf (D3.Gb (cI (dOp gLt (aD 1) (dCall jj (aF (aD 0) (bw))))) (cI (dOp gGe (dOp gIx (aD 0) (aD 1)) (dOp Vo (dC (.int 10)) (dC (.int 40)))))) (cF (b_ 4 (dOp gIx (aD 0) (aD 1)))
 (cF (rB (sS (aF (aD 2) (bw))) (gNl 5) (b_ 4 (dOp Dr (aD 4) (dC (.int 1000003)))))
 (sIf (cI (dOp gGt (aD 4) (dC (.int 0)))) (fJ (dOp tL (dOp tL (aD 4) (dC (.int 1000003))) (aD 3))) (iK)))) (iK))
 (cF (b_ 4 (dOp tL (dOp sH (dOp eV (dOp eV (dCall jm (aF (aD 0) (aF (aD 1) (bw)))) (dOp sH (dC (.int 65537)) (aD 1))) (dC (.int 3))) (dOp eV (dC (.int 1299709)) (dOp sH (dC (.int 15485863)) (aD 2)))) (dC (.int 2147483629))))
 (cF (b_ 4 (dOp eV (dOp tL (dOp sH (aD 4) (aD 4)) (dC (.int 1500450271))) (dC (.int 104729))))
 (fJ (dOp tL (dOp Dr (dOp tL (dOp sH (aD 4) (aD 4)) (dC (.int 715827883))) (dC (.int 64))) (aD 3))))))
noncomputable def fV:List D→Option D:=fnD 1 0 (fJ (vU (dUn (gIs "int") (aD 0)) (Lw (dUn (gIs "bool") (aD 0)))))
noncomputable def jo:List D→Option D:=fnD 2 4 (cF (b_ 2 (dCall bF (aF (aD 0) (aF (dC (.int 1)) (aF (dC (.int 0)) (aF (dC (.int 380)) (bw)))))))
 (cF (b_ 3 (eU (bw)))
 (cF (rB (sS (aF (aD 1) (bw))) (gNl 4) (cF (b_ 5 (dCall bF (aF (aD 0) (aF (dC (.int 2)) (aF (aD 4) (aF (dC (.int 9)) (bw)))))))
 (vV 3 (dOp gIx (eU (aF (dC (.int 0)) (aF (dOp yL (dOp eV (aD 2) (aD 5)) (dC (.int 5))) (bw)))) (dCall vW (aF (dOp gGt (aD 5) (dC (.int 4))) (bw)))))))
 (fJ (wY (aD 3))))))
noncomputable def jR:List D→Option D:=fnD 1 0 (fJ (dTup (aF (i_ (dOp gIx (aD 0) (dC (.int 0)))) (aF (i_ (dOp gIx (aD 0) (dC (.int 1)))) (bw)))))
noncomputable def eZ:List D→Option D:=fnD 3 0 (fJ (vU (dCall eY (aF (aD 0) (bw))) (oE gLe gLe (aD 1) (aD 0) (aD 2))))
noncomputable def fj:List D→Option D:=fnD 3 0 (cF (sIf (cI (aD 2)) (fJ (i_ (dOp gIx (aD 1) (dC (.int 1))))) (iK))
 (fJ (i_ (dIf (cI (dOp gLe (aD 0) (dOp gIx (aD 1) (dC (.int 0))))) (dC (.int 0)) (aD 0)))))
noncomputable def gZ:List D→Option D:=fnD 3 5 (cF (b_ 3 (dCall bF (aF (aD 0) (aF (dC (.int 1)) (aF (dC (.int 0)) (aF (dC (.int 380)) (bw)))))))
 (cF (b_ 4 (eU (bw)))
 (cF (rB (sS (aF (aD 2) (bw))) (gNl 5) (cF (b_ 6 (dOp eV (aD 3) (dCall bF (aF (aD 0) (aF (dOp eV (dC (.int 3)) (aD 5)) (aF (dC (.int 0)) (aF (dC (.int 7)) (bw))))))))
 (cF (b_ 7 (dOp eV (dC (.int 1)) (dCall bF (aF (aD 0) (aF (dOp eV (dC (.int 3)) (aD 5)) (aF (dC (.int 2)) (aF (aD 1) (bw))))))))
 (cF (sIf (cI (dOp gEq (dCall bF (aF (aD 0) (aF (dOp eV (dC (.int 3)) (aD 5)) (aF (dC (.int 3)) (aF (dC (.int 16)) (bw)))))) (dC (.int 0)))) (b_ 7 (dCall Ds (aF (dC (.int 6)) (aF (dOp eV (aD 1) (dC (.int 1))) (bw))))) (iK))
 (vV 4 (dTup (aF (aD 6) (aF (dOp eV (dOp eV (aD 6) (dC (.int 1))) (dCall bF (aF (aD 0) (aF (dOp eV (dC (.int 3)) (aD 5)) (aF (dC (.int 1)) (aF (dC (.int 6)) (bw))))))) (aF (aD 7) (bw))))))))))
 (fJ (wY (aD 4))))))
end Com
namespace Com
open PySem D3 My
theorem uJ {i:Int} (h0:0 ≤ i) (h1:i < ns.length):pAt (ns.map PyData.int) i=some (.int (ns.getD i.toNat 0)):=by
 unfold pAt pIx
 rw [aC,if_pos h0,if_pos h1,aK,aR]
 have h:i.toNat < ns.length:=by omega
 rw [aO h]
 simp [List.getD,h]
theorem rT {k:Nat}:pAt l (k:Int)=l[k]?:=by
 unfold pAt pIx
 rw [if_pos (by omega)]
 by_cases h:k < l.length
 ·rw [if_pos (by omega),aK]
  simp
 ·rw [if_neg (by omega),bH (by omega)]
  rfl
theorem at0 {a:D}:pAt (a :: l) 0=some a:=rT (k:=0)
theorem at1 {a b:D}:pAt (a :: b :: l) 1=some b:=rT (k:=1)
theorem Cd {i:Int} (h:0 < j):tL (.int i) (.int j)=some (.int (i % j)):=by
 show (if decide (j ≠ 0)=true then some (PyData.int (i.fmod j)) else none)=_
 rw [if_pos (dTr (by omega)),Int.fmod_eq_emod_of_nonneg i (by omega)]
theorem O3 (h:j.natAbs < 2 ^ 64):j.natAbs < 2 ^ 9000:=bU h (Nat.pow_le_pow_right (by decide) (by decide))
theorem ab1 {i:Int} (h:0 < j) (h2:j.natAbs < 2 ^ 9000):Dr (.int i) (.int j)=some (.int (i / j)):=by
 show (if Gq i j=true then some (PyData.int (i.fdiv j)) else none)=_
 have e:Gq i j=true:=by
  unfold Gq
  rw [aY]
  exact ⟨dTr (by omega),dTr h2⟩
 rw [if_pos e,Int.fdiv_eq_ediv_of_nonneg i (by omega)]
theorem Zd {i:Int} (h:0 < j) (h2:j < 18446744073709551616):Dr (.int i) (.int j)=some (.int (i / j)):=ab1 h (O3 (by omega))
theorem mulL {i:Int} (h1 : -18446744073709551616 < i) (h2:i < 18446744073709551616):sH (.int i) (.int j)=some (.int (i * j)):=by
 show (if wZ i j=true then some (PyData.int (i * j)) else none)=_
 have e:wZ i j=true:=by
  unfold wZ
  rw [dTr (show i.natAbs < 2 ^ 64 by omega)]
  rfl
 rw [if_pos e]
theorem mulR {i:Int} (h1 : -18446744073709551616 < j) (h2:j < 18446744073709551616):sH (.int i) (.int j)=some (.int (i * j)):=by
 show (if wZ i j=true then some (PyData.int (i * j)) else none)=_
 have e:wZ i j=true:=by
  unfold wZ
  rw [dTr (show j.natAbs < 2 ^ 64 by omega),Bool.or_true]
  rfl
 rw [if_pos e]
theorem Uk:Vo (.int 10) (.int 40)=some (.int (10 ^ 40)):=rfl
theorem sz (h:n ≤ 1000000):n ≤ sizeLine:=bh h (by decide)
theorem shaped_ints (ns:List Int):SeqAt.shaped (.list (ns.map PyData.int))=true:=by
 have h1:∀ ns:List Int,PyData.canLayAll0 (ns.map PyData.int)=true:=fun ns=>by
  induction ns with
  | nil=>rfl
  | cons a r ih=>simp [PyData.canLayAll0,PyData.canLay0,ih]
 have h2:∀ ns:List Int,PyData.depthAll (ns.map PyData.int) ≤ 1:=fun ns=>by
  induction ns with
  | nil=>simp [PyData.depthAll]
  | cons a r ih=>simp [PyData.depthAll,PyData.depth];omega
 unfold SeqAt.shaped
 rw [aY]
 refine ⟨by simp [PyData.canLay0,h1],dTr ?_⟩
 have:=h2 ns
 simp only [PyData.depth]
 omega
theorem eq_empty (ns:List Int):gEq (.list (ns.map PyData.int)) (.list [])=some (.bool (decide (ns=[]))):=by
 unfold gEq
 rw [shaped_ints ns]
 cases ns with
 | nil=>rfl
 | cons a r=>rfl
theorem Kw {i:Int} (h0:0 ≤ i):jm [.list (ns.map .int),.int i]=some (.int (o8 ns i)):=by
 unfold jm o8
 by_cases h:i < (ns.length:Int)
 ·rw [if_pos h]
  simp only [EV,reduceIte,ao,aq,aj,ak,au,aA,aB,lMp,dTr h,uJ h0 h,Cd (show (0:Int) < 1000000007 by decide)]
 ·rw [if_neg h]
  by_cases hn:ns=[]
  ·rw [if_pos hn]
   simp only [EV,reduceIte,ao,aq,aj,ak,au,aA,aB,lMp,dFa h,eq_empty,dTr hn,cY,mulL (show (-18446744073709551616:Int) < 7919 by decide) (show (7919:Int) < 18446744073709551616 by decide)]
  ·rw [if_neg hn]
   have hl:0 < ns.length:=by
    cases ns with
    | nil=>exact absurd rfl hn
    | cons _ _=>simp
   have h7:0 ≤ i * 7 % (ns.length:Int):=kJ _ (by omega)
   have h8:i * 7 % (ns.length:Int) < (ns.length:Int):=jr _ (by omega)
   simp only [EV,reduceIte,ao,aq,aj,ak,au,aA,aB,lMp,dFa h,eq_empty,dFa hn,cY,mulL (show (-18446744073709551616:Int) < 7919 by decide) (show (7919:Int) < 18446744073709551616 by decide),mulR (show (-18446744073709551616:Int) < 7 by decide) (show (7:Int) < 18446744073709551616 by decide),Cd (show (0:Int) < 1000000007 by decide),Cd (show (0:Int) < ns.length by omega),uJ h7 h8]
theorem Ac {l:D} {i k m:D} (n:Int):∀ (js:List D) (c:Nat) (y:Option U),(∀ j ∈ js,∃ x,j = .int x)→∃ y',jD (gNl 5) (b_ 4 (dOp Dr (aD 4) (dC (.int 1000003)))) js [some (.d l),some (.d i),some (.d k),some (.d m),some (.d (.int (divs n c))),y] =
 some (.nx [some (.d l),some (.d i),some (.d k),some (.d m),some (.d (.int (divs n (c + js.length)))),y'])
 | [],c,y,_=>⟨y,rfl⟩
 | j :: js,c,y,h=>by
  obtain ⟨y',e⟩:=Ac (l:=l) (i:=i) (k:=k) (m:=m) n js (c + 1) (some (.d j)) fun j' hj=>h j' (aH _ hj)
  refine ⟨y',?_⟩
  rw [jD]
  simp only [EV,reduceIte,ao,aq,aj,ak,au,aA,aB,Zd (show (0:Int) < 1000003 by decide) (show (1000003:Int) < 18446744073709551616 by decide),aK]
  rw [show c + (js.length + 1)=c + 1 + js.length by omega,← e]
  rfl
theorem Ky (lo hi:Int):∀ j ∈ jy lo hi,∃ x,j = .int x:=by
 intro j hj
 unfold jy at hj
 obtain ⟨k,_,rfl⟩:=bT.mp hj
 exact ⟨_,rfl⟩
theorem lE {i k m:Int} (h0:0 ≤ i) (hk0:0 ≤ k) (hk:k ≤ 1000) (hm:0 < m):bF [.list (ns.map .int),.int i,.int k,.int m]=some (.int (gC ns i k m)):=by
 have rest:∀ x y:Option U,qFn ((cF (b_ 4 (dOp tL (dOp sH (dOp eV (dOp eV (dCall jm (aF (aD 0) (aF (aD 1) (bw)))) (dOp sH (dC (.int 65537)) (aD 1))) (dC (.int 3))) (dOp eV (dC (.int 1299709)) (dOp sH (dC (.int 15485863)) (aD 2)))) (dC (.int 2147483629))))
  (cF (b_ 4 (dOp eV (dOp tL (dOp sH (aD 4) (aD 4)) (dC (.int 1500450271))) (dC (.int 104729))))
  (fJ (dOp tL (dOp Dr (dOp tL (dOp sH (aD 4) (aD 4)) (dC (.int 715827883))) (dC (.int 64))) (aD 3))))) [some (.d (.list (ns.map .int))),some (.d (.int i)),some (.d (.int k)),some (.d (.int m)),x,y])=some (.int (Jk (o8 ns i) i k m)):=by
  intro x y
  have b1:0 ≤ (o8 ns i + 65537 * i + 3) * (1299709 + 15485863 * k) % 2147483629:=kJ _ (by decide)
  have b2:(o8 ns i + 65537 * i + 3) * (1299709 + 15485863 * k) % 2147483629 < 2147483629:=jr _ (by decide)
  have b3:0 ≤ (o8 ns i + 65537 * i + 3) * (1299709 + 15485863 * k) % 2147483629 * ((o8 ns i + 65537 * i + 3) * (1299709 + 15485863 * k) % 2147483629) % 1500450271:=kJ _ (by decide)
  have b4:(o8 ns i + 65537 * i + 3) * (1299709 + 15485863 * k) % 2147483629 * ((o8 ns i + 65537 * i + 3) * (1299709 + 15485863 * k) % 2147483629) % 1500450271 < 1500450271:=jr _ (by decide)
  simp only [EV,reduceIte,ao,aq,aj,ak,au,aA,aB,Kw h0,mulL (show (-18446744073709551616:Int) < 65537 by decide) (show (65537:Int) < 18446744073709551616 by decide),mulL (show (-18446744073709551616:Int) < 15485863 by decide) (show (15485863:Int) < 18446744073709551616 by decide),
   mulR (i:=o8 ns i + 65537 * i + 3) (show (-18446744073709551616:Int) < 1299709 + 15485863 * k by omega) (show 1299709 + 15485863 * k < (18446744073709551616:Int) by omega),Cd (show (0:Int) < 2147483629 by decide)]
  simp only [mulL (show (-18446744073709551616:Int) < (o8 ns i + 65537 * i + 3) * (1299709 + 15485863 * k) % 2147483629 by omega) (show (o8 ns i + 65537 * i + 3) * (1299709 + 15485863 * k) % 2147483629 < (18446744073709551616:Int) by omega)]
  simp only [EV,reduceIte,ao,aq,aj,ak,au,aA,aB,Cd (show (0:Int) < 1500450271 by decide)]
  rw [mulL (by omega) (by omega)]
  simp only [EV,reduceIte,ao,aq,aj,ak,au,aA,aB,Cd (show (0:Int) < 715827883 by decide),Zd (show (0:Int) < 64 by decide) (show (64:Int) < 18446744073709551616 by decide),Cd hm]
  rfl
 unfold bF
 rw [YB]
 simp only [EV,reduceIte,ao,aq,aj,ak,au,aA,aB]
 by_cases h:i < (ns.length:Int)
 ·by_cases h2:10 ^ 40 ≤ ns.getD i.toNat 0
  ·simp only [EV,reduceIte,ao,aq,aj,ak,au,aA,aB,lMp,dTr h,uJ h0 h,Uk,dTr h2]
   obtain ⟨y',e⟩:=Ac (l:=.list (ns.map .int)) (i:=.int i) (k:=.int k) (m:=.int m) (ns.getD i.toNat 0) (jy 0 k) 0 none (Ky 0 k)
   have el:0 + (jy 0 k).length=k.toNat:=by simp [jy]
   rw [el] at e
   have e':jD (gNl 5) (b_ 4 (dOp Dr (aD 4) (dC (.int 1000003)))) (jy 0 k) [some (.d (.list (ns.map .int))),some (.d (.int i)),some (.d (.int k)),some (.d (.int m)),some (.d (.int (ns.getD i.toNat 0))),none] =
    some (.nx [some (.d (.list (ns.map .int))),some (.d (.int i)),some (.d (.int k)),some (.d (.int m)),some (.d (.int (divs (ns.getD i.toNat 0) k.toNat))),y']):=e
   rw [Ku (by omega) (by omega)]
   simp only [EV,reduceIte,ao,aq,aj,ak,au,aA,aB,e']
   by_cases h3:0 < divs (ns.getD i.toNat 0) k.toNat
   ·simp only [EV,reduceIte,ao,aq,aj,ak,au,aA,aB,dTr h3,Cd (show (0:Int) < 1000003 by decide),Cd hm]
    rw [Kv h h2 h3]
   ·simp only [EV,reduceIte,ao,aq,aj,ak,au,aA,aB,dFa h3]
    rw [tQ (fun z=>h3 z.2.2)]
    have:=rest (some (.d (.int (divs (ns.getD i.toNat 0) k.toNat)))) y'
    simp only [EV,reduceIte,ao,aq,aj,ak,au,aA,aB] at this
    exact this
  ·simp only [EV,reduceIte,ao,aq,aj,ak,au,aA,aB,lMp,dTr h,uJ h0 h,Uk,dFa h2]
   rw [tQ (fun z=>h2 z.2.1)]
   have:=rest none none
   simp only [EV,reduceIte,ao,aq,aj,ak,au,aA,aB] at this
   exact this
 ·simp only [EV,reduceIte,ao,aq,aj,ak,au,aA,aB,lMp,dFa h]
  rw [tQ (fun z=>h z.1)]
  have:=rest none none
  simp only [EV,reduceIte,ao,aq,aj,ak,au,aA,aB] at this
  exact this
end Com
namespace Com
open PySem D3 My
theorem O4 {α:Type} {g:FG} {c:FT} {e:FE} (f:α→D) (p:α→Bool) (h:α→D):∀ l:List α,(∀ s ∈ l,∃ δ1,g (f s) δ=some δ1∧c δ1=some (p s)∧(p s=true→e δ1=some (h s)))→jM g c e δ (l.map f)=some ((l.filter p).map h)
 | [],_=>rfl
 | s :: r,hs=>by
  obtain ⟨δ1,e1,e2,e3⟩:=hs s aJ
  have ih:=O4 f p h r fun x hx=>hs x (aH _ hx)
  rw [aP,jM,e1,aK,e2,aK]
  by_cases c:p s=true
  ·rw [if_pos c,e3 c,aK,ih,jV,if_pos c]
   rfl
  ·rw [if_neg c,ih,jV,if_neg c]
theorem q_ {α:Type} {g:FG} {c:FT} {e:FE} (f:α→D) (h:α→D):∀ l:List α,(∀ s ∈ l,∃ δ1,g (f s) δ=some δ1∧c δ1=some true∧e δ1=some (h s))→jM g c e δ (l.map f)=some (l.map h)
 | [],_=>rfl
 | s :: r,hs=>by
  obtain ⟨δ1,e1,e2,e3⟩:=hs s aJ
  rw [aP,jM,e1,aK,e2,aK,if_pos rfl,e3,aK,q_ f h r fun x hx=>hs x (aH _ hx)]
  rfl
theorem jJ {α:Type} (f:α→D) (h:∀ a,flat (f a)=true):∀ l:List α,flats (l.map f)=true
 | []=>rfl
 | a :: r=>by rw [aP,flats,h,jJ f h r];rfl
theorem qy (l:List Int):flats (l.map PyData.int)=true:=jJ _ (fun _=>rfl) l
theorem Jl {m:Int}:(jy 0 m).length=m.toNat:=by unfold jy;rw [aC,bY,p7]
theorem Er {v k:Int} (h:k ≤ 1000000) (h' : -(2 ^ 63) ≤ k):pL (.list [.int v]) (.int k)=some (.list ((aG k.toNat v).map PyData.int)):=by
 show (if [PyData.int v].length * k.toNat ≤ 1000000∧-(2 ^ 63) ≤ k∧k < 2 ^ 63 then some (PyData.list (aG k.toNat [PyData.int v]).flatten) else none)=_
 rw [if_pos ⟨by simp only [bM,gD];omega,h',by omega⟩]
 congr 2
 generalize k.toNat=n
 induction n with
 | zero=>rfl
 | succ n ih=>rw [bZ,eO,ih,bZ,aP];rfl
theorem Es {k:Int} (h:0 ≤ k):cutD l (some k) none=l.drop k.toNat:=by
 unfold cutD
 have e:pSx l.length 0 (some k)=min k.toNat l.length:=by
  show (if k < 0 then _ else _)=_
  rw [if_neg (by omega)]
 rw [e,show pSx l.length l.length none=l.length from rfl]
 by_cases c:k.toNat ≤ l.length
 ·rw [show min k.toNat l.length=k.toNat by omega,List.take_of_length_le (by rw [cN];omega)]
 ·rw [show min k.toNat l.length=l.length by omega,qb (by omega),qb (by omega)]
  simp
theorem Ad {k:Int} (h:0 ≤ k):cutD l none (some k)=l.take k.toNat:=by
 unfold cutD
 have e:pSx l.length l.length (some k)=min k.toNat l.length:=by
  show (if k < 0 then _ else _)=_
  rw [if_neg (by omega)]
 rw [e,show pSx l.length 0 none=0 from rfl,List.drop_zero,Nat.sub_zero,List.take_eq_take_iff]
 omega
theorem isList:D3.isT "list" "list" = true:=rfl
mutual
theorem eqv_refl:∀ d:D,d.canLay0=true→PyData.eqv d d=true
 | .none,_=>by simp [PyData.eqv]
 | .bool b,_=>by simp [PyData.eqv]
 | .int i,_=>by simp [PyData.eqv]
 | .str x,_=>by simp [PyData.eqv]
 | .list l,h=>by
  have:=eqvAll_refl l (by simpa [PyData.canLay0] using h)
  simpa [PyData.eqv] using this
 | .tuple l,h=>by
  have:=eqvAll_refl l (by simpa [PyData.canLay0] using h)
  simpa [PyData.eqv] using this
 | .dict l,h=>by simp [PyData.canLay0] at h
theorem eqvAll_refl:∀ l:List D,PyData.canLayAll0 l=true→PyData.eqvAll l l=true
 | [],_=>by simp [PyData.eqvAll]
 | d :: r,h=>by
  rw [PyData.canLayAll0,aY] at h
  rw [PyData.eqvAll,eqv_refl d h.1,eqvAll_refl r h.2]
  rfl
end
def ly (n:Nat) (d:D):Prop:=d.canLay0=true∧d.depth ≤ n
def lys (n:Nat) (l:List D):Prop:=PyData.canLayAll0 l=true∧PyData.depthAll l ≤ n
theorem lF {m:Nat} (h:ly n d) (l:n ≤ m):ly m d:=⟨h.1,bh h.2 l⟩
theorem uK:lys n []:=⟨by simp [PyData.canLayAll0],by simp [PyData.depthAll]⟩
theorem oK (h:ly n d) (q:lys n l):lys n (d :: l) :=
 ⟨by rw [PyData.canLayAll0,h.1,q.1];rfl,by have:=h.2;have:=q.2;simp only [PyData.depthAll];omega⟩
theorem m5 {α:Type} (f:α→D) (h:∀ a,ly n (f a)):∀ l:List α,lys n (l.map f)
 | []=>uK
 | a :: r=>oK (h a) (m5 f h r)
theorem mq (h:lys n l):ly (n + 1) (.list l):=⟨by simp [PyData.canLay0,h.1],by have:=h.2;simp only [PyData.depth];omega⟩
theorem vh (h:lys n l):ly (n + 1) (.tuple l):=⟨by simp [PyData.canLay0,h.1],by have:=h.2;simp only [PyData.depth];omega⟩
theorem rH {i:Int}:ly (n + 1) (.int i):=⟨rfl,by simp [PyData.depth]⟩
theorem rW (h:ly 60 d):SeqAt.shaped d=true:=by
 unfold SeqAt.shaped
 rw [aY]
 exact ⟨h.1,dTr (by have:=h.2;omega)⟩
theorem eq_self (h:ly 60 d):gEq d d=some (.bool true):=by
 unfold gEq
 rw [rW h,eqv_refl d h.1]
 rfl
end Com
namespace Com
open PySem D3 My
def q (t b:Int):Rat:=mkRat t b.toNat
end Com
namespace Com
open PySem D3 My
def sm (k:Nat) (x:Int):Prop:=x.natAbs < 2 ^ k
end Com
namespace Com
open PySem D3 My
theorem Tc {k:Nat} (h:k < n):pIx n (k:Int)=some k:=by
 unfold pIx
 rw [if_pos (by omega),if_pos (by omega)]
 rfl
structure Tb where
 N:Nat
 w:Nat→Int
 B:Int
def sumTo (f:Nat→Int):Nat→Int
 | 0=>0
 | n + 1=>sumTo f n + f n
structure TbOk (t:Tb) (k:Nat):Prop where
 B0:0 < t.B
 Bs:sm (7 * k + 1) t.B
 w0:∀ j,0 ≤ t.w j
 wB:∀ j,t.w j ≤ t.B
 wz:∀ j,t.N ≤ j→t.w j=0
 N1:1 ≤ t.N
 N4:t.N ≤ 1 + 4 * k
 sum:sumTo t.w t.N=t.B
end Com
namespace Com
open PySem D3 My
end Com
namespace Com
open PySem D3 My
theorem sm1 (k:Nat) {x:Int} (h:x.natAbs ≤ 1):sm (k + 1) x:=by
 unfold sm
 rw [Nat.pow_succ]
 have:=Nat.one_le_two_pow (n:=k)
 omega
structure bd (k:Nat) (a:Rat):Prop where
 n:sm k a.num
 d:sm k (a.den:Int)
end Com
namespace Com
open PySem D3 My
theorem Jm {hi:Int} (h:(jy 0 hi)[i]? = some d):(i:Int) < hi∧d = .int (i:Int):=by
 unfold jy at h
 rw [aR] at h
 by_cases hi':i < (hi - 0).toNat
 ·rw [fu hi'] at h
  cases h
  refine ⟨by omega,?_⟩
  show PyData.int (0 + (i:Int))=_
  rw [jU]
 ·rw [bH (by simpa using hi')] at h
  cases h
end Com
namespace XS
open PySem PySem.W PyProof.Rows
structure Weak (lt:Nat→Nat→Bool):Prop where
 irr:∀ a,lt a a=false
 tr:∀ a b c,lt a b=true→lt b c=true→lt a c=true
 nt:∀ a b c,lt a c=true→lt a b=true∨lt b c=true
def Rk (lt:Nat→Nat→Bool) (a b:Nat):Prop:=lt a b=true∨(lt b a=false∧a < b)
section
variable {lt:Nat→Nat→Bool} {p:Array Nat} {n:Nat}
theorem Weak.not (W:Weak lt) {a b c:Nat} (h1:lt a b=false) (h2:lt b c=false):lt a c=false:=by
 cases q:lt a c with
 | false=>rfl
 | true =>
  rcases W.nt a b c q with z | z
  ·rw [z] at h1;cases h1
  ·rw [z] at h2;cases h2
theorem Rk.trans (W:Weak lt) {a b c:Nat} (h1:Rk lt a b) (h2:Rk lt b c):Rk lt a c:=by
 rcases h1 with h1 | ⟨h1,l1⟩
 ·rcases h2 with h2 | ⟨h2,l2⟩
  ·exact .inl (W.tr _ _ _ h1 h2)
  ·rcases W.nt a c b h1 with z | z
   ·exact .inl z
   ·rw [z] at h2;cases h2
 ·rcases h2 with h2 | ⟨h2,l2⟩
  ·rcases W.nt b a c h2 with z | z
   ·rw [z] at h1;cases h1
   ·exact .inl z
  ·exact .inr ⟨W.not h2 h1,by omega⟩
abbrev ga (p:Array Nat) (i:Nat):Nat:=p.getD i 0
def Asc (lt:Nat→Nat→Bool) (p:Array Nat) (m:Nat):Prop:=∀ i j,i < j→j < m→Rk lt (ga p i) (ga p j)
structure Run (lt:Nat→Nat→Bool) (n:Nat) (p:Array Nat) (m:Nat):Prop where
 asc:Asc lt p m
 rest:∀ k,m ≤ k→k < n→ga p k=k
 low:∀ k,k < m→ga p k < m
theorem Run.snoc (W:Weak lt) {a:Nat} (R:Run lt n p a) (h1:1 ≤ a) (ha:a < n) (h:lt (ga p a) (ga p (a - 1))=false):Run lt n p (a + 1):=by
 have ea:=R.rest a (aL _) ha
 have la:=R.low (a - 1) (by omega)
 have st:Rk lt (ga p (a - 1)) (ga p a):=.inr ⟨h,by omega⟩
 refine ⟨fun i j hij hj=>?_,fun k hk hn=>R.rest k (by omega) hn,fun k hk=>?_⟩
 ·by_cases z:j < a
  ·exact R.asc i j hij z
  ·have:j=a:=by omega
   subst this
   by_cases y:i=j - 1
   ·rw [y];exact st
   ·exact (R.asc i (j - 1) (by omega) (by omega)).trans W st
 ·by_cases z:k < a
  ·have:=R.low k z;omega
  ·have:k=a:=by omega
   subst this
   omega
theorem G8 (W:Weak lt):∀ (f a:Nat),Run lt n p a→1 ≤ a→a + f ≤ n→Run lt n p (dG lt (kas_asc p f a))∧a ≤ dG lt (kas_asc p f a)∧dG lt (kas_asc p f a) ≤ a + f∧(dG lt (kas_asc p f a) < a + f→lt (ga p (dG lt (kas_asc p f a))) (ga p (dG lt (kas_asc p f a) - 1))=true)
 | 0,a,R,h1,hf=>⟨R,aL _,aL _,fun z=>by
  have z:a < a + 0:=z
  omega⟩
 | f + 1,a,R,h1,hf=>by
  have e:dG lt (kas_asc p (f + 1) a)=dG lt (if lt (ga p a) (ga p (a - 1))=true then .ret a else kas_asc p f (a + 1)):=rfl
  rw [e]
  by_cases c:lt (ga p a) (ga p (a - 1))=true
  ·rw [if_pos c]
   exact ⟨R,aL _,by show a ≤ a + (f + 1);omega,fun _=>c⟩
  ·rw [if_neg c]
   obtain ⟨q1,q2,q3,q4⟩:=G8 W f (a + 1) (R.snoc W h1 (by omega) (by simpa using c)) (by omega) (by omega)
   exact ⟨q1,by omega,by omega,fun z=>q4 (by omega)⟩
theorem yc (W:Weak lt) {k:Nat} (R:Run lt n p k):∀ (f l r:Nat),l ≤ r→r ≤ k→r - l ≤ f→(∀ i,i < l→lt (ga p k) (ga p i)=false)→(∀ i,r ≤ i→i < k→lt (ga p k) (ga p i)=true) →
 dG lt (kas_place p k f l r) ≤ k∧(∀ i,i < dG lt (kas_place p k f l r)→lt (ga p k) (ga p i)=false)∧(∀ i,dG lt (kas_place p k f l r) ≤ i→i < k→lt (ga p k) (ga p i)=true)
 | 0,l,r,h1,h2,h3,h4,h5=>by
  have:l=r:=by omega
  subst this
  exact ⟨h2,h4,h5⟩
 | f + 1,l,r,h1,h2,h3,h4,h5=>by
  by_cases z:l ≥ r
  ·have:l=r:=by omega
   subst this
   have e:kas_place p k (f + 1) l l = .ret l:=by unfold kas_place;rw [if_pos z]
   rw [e]
   exact ⟨h2,h4,h5⟩
  ·have e:dG lt (kas_place p k (f + 1) l r)=dG lt (if lt (ga p k) (ga p ((l + r) / 2))=true then kas_place p k f l ((l + r) / 2) else kas_place p k f ((l + r) / 2 + 1) r):=by
    conv=>lhs;unfold kas_place
    rw [if_neg z]
    rfl
   rw [e]
   have m1:l ≤ (l + r) / 2:=by omega
   have m2:(l + r) / 2 < r:=by omega
   by_cases c:lt (ga p k) (ga p ((l + r) / 2))=true
   ·rw [if_pos c]
    refine yc W R f l ((l + r) / 2) m1 (by omega) (by omega) h4 fun i hi hk=>?_
    by_cases y:i=(l + r) / 2
    ·rw [y];exact c
    ·rcases R.asc ((l + r) / 2) i (by omega) hk with q | ⟨q,_⟩
     ·exact W.tr _ _ _ c q
     ·rcases W.nt _ (ga p i) _ c with w | w
      ·exact w
      ·rw [w] at q;cases q
   ·rw [if_neg c]
    have c:lt (ga p k) (ga p ((l + r) / 2))=false:=by simpa using c
    refine yc W R f ((l + r) / 2 + 1) r (by omega) h2 (by omega) (fun i hi=>?_) h5
    by_cases y:i=(l + r) / 2
    ·rw [y];exact c
    ·cases q:lt (ga p k) (ga p i) with
     | false=>rfl
     | true =>
      rcases R.asc i ((l + r) / 2) (by omega) (by omega) with w | ⟨w,_⟩
      ·rw [W.tr _ _ _ q w] at c;cases c
      ·rcases W.nt _ (ga p ((l + r) / 2)) _ q with w2 | w2
       ·rw [w2] at c;cases c
       ·rw [w2] at w;cases w
theorem W3 {k l:Nat} (hk:k < p.size) (hl:l ≤ k) (i:Nat):ga (bubble p k (k - l)) i=if i=l then ga p k else if l < i∧i ≤ k then ga p (i - 1) else ga p i:=by
 have e:=getElem?_bubble hk (k - l) (by omega) i
 rw [show k - (k - l)=l by omega] at e
 have g:∀ (q:Array Nat) (i:Nat),ga q i=(q[i]?).getD 0:=fun q i=>by simp [ga,gM]
 rw [g,e,g p k,g p (i - 1),g p i]
 by_cases c1:i=l
 ·rw [if_pos c1,if_pos c1]
 ·rw [if_neg c1,if_neg c1]
  by_cases c2:l < i∧i ≤ k
  ·rw [if_pos c2,if_pos c2]
  ·rw [if_neg c2,if_neg c2]
theorem O5 (W:Weak lt) (hs:p.size=n) {k l:Nat} (R:Run lt n p k) (hk:k < n) (hl:l ≤ k) (h1:∀ i,i < l→lt (ga p k) (ga p i)=false) (h2:∀ i,l ≤ i→i < k→lt (ga p k) (ga p i)=true):Run lt n (bubble p k (k - l)) (k + 1):=by
 have ek:=R.rest k (aL _) hk
 have B:=W3 (p:=p) (k:=k) (by omega) hl
 refine ⟨fun i j hij hj=>?_,fun m hm hn=>?_,fun m hm=>?_⟩
 ·rw [B,B]
  by_cases c1:i=l
  ·rw [if_pos c1,if_neg (by omega),if_pos (by omega)]
   exact .inl (h2 (j - 1) (by omega) (by omega))
  ·rw [if_neg c1]
   by_cases c2:j=l
   ·rw [if_pos c2,if_neg (by omega)]
    exact .inr ⟨h1 i (by omega),by rw [ek];exact R.low i (by omega)⟩
   ·rw [if_neg c2]
    by_cases c3:l < i∧i ≤ k
    ·rw [if_pos c3,if_pos (by omega)]
     exact R.asc _ _ (by omega) (by omega)
    ·rw [if_neg c3]
     by_cases c4:l < j∧j ≤ k
     ·rw [if_pos c4]
      exact R.asc _ _ (by omega) (by omega)
     ·rw [if_neg c4]
      exact R.asc _ _ hij (by omega)
 ·rw [B,if_neg (by omega),if_neg (by omega)]
  exact R.rest m (by omega) hn
 ·rw [B]
  split
  ·omega
  ·split
   ·have:=R.low (m - 1) (by omega);omega
   ·have:=R.low m (by omega);omega
theorem O6 (W:Weak lt):∀ (f:Nat) (p:Array Nat) (k:Nat),p.size=n→Run lt n p k→k + f=n→Run lt n (dG lt (kas_bin f p k)) n
 | 0,p,k,hs,R,h=>by
  have:k=n:=by omega
  subst this
  exact R
 | f + 1,p,k,hs,R,h=>by
  have e:dG lt (kas_bin (f + 1) p k)=dG lt (kas_bin f (bubble p k (k - dG lt (kas_place p k k 0 k))) (k + 1)):=n6 _ _
  rw [e]
  obtain ⟨q1,q2,q3⟩:=yc W R k 0 k (cY _) (aL _) (by omega) (fun i hi=>by omega) (fun i h1 h2=>by omega)
  exact O6 W f _ (k + 1) (by rw [bubble_size];exact hs) (O5 W hs R (by omega) q1 q2 q3) (by omega)
end
end XS
namespace XS
open PySem PySem.W PyProof.Rows
section
variable {lt:Nat→Nat→Bool} {p p':Array Nat} {n a q:Nat}
theorem Rk.nr (W:Weak lt) {a b:Nat} (h:Rk lt a b):lt b a=false:=by
 rcases h with h | ⟨h,_⟩
 ·cases z:lt b a with
  | false=>rfl
  | true=>have:=W.tr _ _ _ h z;rw [W.irr] at this;cases this
 ·exact h
theorem G9 {j:Nat} (hj:j ≤ p.size) (k:Nat):ga (kas_rev p i j) k=if i ≤ k∧k < j then ga p (i + j - 1 - k) else ga p k:=by
 have e:=getElem?_mirror_all (i:=i) hj k
 have g:∀ (q:Array Nat) (i:Nat),ga q i=(q[i]?).getD 0:=fun q i=>by simp [ga,gM]
 rw [g,g p (i + j - 1 - k),g p k]
 unfold kas_rev
 rw [e]
 by_cases c:i ≤ k∧k < j
 ·rw [if_pos c,if_pos c]
 ·rw [if_neg c,if_neg c]
theorem yd (i j:Nat):(kas_rev p i j).size=p.size:=mirror_size _ _ _ _
structure Dn (lt:Nat→Nat→Bool) (n:Nat) (p:Array Nat) (a q:Nat):Prop where
 le:q + 1 ≤ a
 desc:∀ i j,i < j→j < a - (q + 1)→Rk lt (ga p j) (ga p i)
 strict:∀ i j,i < a - (q + 1)→a - (q + 1) ≤ j→j < a→lt (ga p j) (ga p i)=true
 run:∀ i j,a - (q + 1) ≤ i→i < j→j < a→lt (ga p i) (ga p j)=false∧lt (ga p j) (ga p i)=false∧ga p i < ga p j
 rest:∀ k,a ≤ k→k < n→ga p k=k
 low:∀ k,k < a→ga p k < a
structure Desc (lt:Nat→Nat→Bool) (n:Nat) (p:Array Nat) (a:Nat):Prop where
 desc:∀ i j,i < j→j < a→Rk lt (ga p j) (ga p i)
 rest:∀ k,a ≤ k→k < n→ga p k=k
 low:∀ k,k < a→ga p k < a
theorem Dn.turn (D:Dn lt n p a q) (h:∀ k,ga p' k=if a - (q + 1) ≤ k∧k < a then ga p (a - (q + 1) + a - 1 - k) else ga p k):Desc lt n p' a:=by
 have l:=D.le
 refine ⟨fun i j hij hj=>?_,fun k hk hn=>?_,fun k hk=>?_⟩
 ·by_cases c:j < a - (q + 1)
  ·rw [h,h,if_neg (by omega),if_neg (by omega)]
   exact D.desc i j hij c
  ·rw [h j,if_pos (by omega),h i]
   by_cases e:i < a - (q + 1)
   ·rw [if_neg (by omega)]
    exact .inl (D.strict _ _ e (by omega) (by omega))
   ·rw [if_pos (by omega)]
    obtain ⟨x,y,z⟩:=D.run (a - (q + 1) + a - 1 - j) (a - (q + 1) + a - 1 - i) (by omega) (by omega) (by omega)
    exact .inr ⟨y,z⟩
 ·rw [h,if_neg (by omega)];exact D.rest k hk hn
 ·rw [h]
  split
  ·exact D.low _ (by omega)
  ·exact D.low _ hk
theorem Desc.up (D:Desc lt n p a) (ha:a < n) (h:∀ i,i < a→lt (ga p a) (ga p i)=true):Dn lt n p (a + 1) 0:=by
 refine ⟨by omega,fun i j hij hj=>D.desc i j hij (by omega),fun i j hi h1 h2=>?_,fun i j h1 h2 h3=>by omega,fun k hk hn=>D.rest k (by omega) hn,fun k hk=>?_⟩
 ·have:j=a:=by omega
  subst this
  exact h i (by omega)
 ·by_cases z:k < a
  ·have:=D.low k z;omega
  ·have:k=a:=by omega
   subst this
   rw [D.rest k (aL _) ha];omega
def turned (p:Array Nat) (a q:Nat):Array Nat:=if q > 0 then kas_rev p (a - (q + 1)) a else p
theorem rY (hs:p.size=n) (ha:a ≤ n) (l:q + 1 ≤ a) (k:Nat):ga (turned p a q) k=if a - (q + 1) ≤ k∧k < a then ga p (a - (q + 1) + a - 1 - k) else ga p k:=by
 unfold turned
 by_cases c:q > 0
 ·rw [if_pos c];exact G9 (by omega) k
 ·rw [if_neg c]
  by_cases e:a - (q + 1) ≤ k∧k < a
  ·rw [if_pos e,show a - (q + 1) + a - 1 - k=k by omega]
  ·rw [if_neg e]
theorem vO:(turned p a q).size=p.size:=by
 unfold turned
 split
 ·exact yd _ _
 ·rfl
theorem Dn.below (W:Weak lt) (D:Dn lt n p a q) (hs:p.size=n) (ha:a < n) (h:lt (ga p a) (ga p (a - 1))=true) (i:Nat) (hi:i < a):lt (ga (turned p a q) a) (ga (turned p a q) i)=true:=by
 have l:=D.le
 have all:∀ i,i < a→lt (ga p a) (ga p i)=true:=fun i hi=>by
  by_cases c:i < a - (q + 1)
  ·exact W.tr _ _ _ h (D.strict i (a - 1) c (by omega) (by omega))
  ·by_cases e:i=a - 1
   ·rw [e];exact h
   ·rcases W.nt _ (ga p i) _ h with w | w
    ·exact w
    ·rw [(D.run i (a - 1) (by omega) (by omega) (by omega)).1] at w;cases w
 rw [rY hs (by omega) l,if_neg (by omega),rY hs (by omega) l]
 split
 ·exact all _ (by omega)
 ·exact all _ hi
theorem Dn.same (W:Weak lt) (D:Dn lt n p a q) (ha:a < n) (h1:lt (ga p a) (ga p (a - 1))=false) (h2:lt (ga p (a - 1)) (ga p a)=false):Dn lt n p (a + 1) (q + 1):=by
 have l:=D.le
 have ea:=D.rest a (aL _) ha
 refine ⟨by omega,fun i j hij hj=>D.desc i j hij (by omega),fun i j hi q1 q2=>?_,fun i j q1 q2 q3=>?_,fun k hk hn=>D.rest k (by omega) hn,fun k hk=>?_⟩
 ·by_cases z:j < a
  ·exact D.strict i j (by omega) (by omega) z
  ·have:j=a:=by omega
   subst this
   rcases W.nt _ (ga p j) _ (D.strict i (j - 1) (by omega) (by omega) (by omega)) with w | w
   ·rw [w] at h2;cases h2
   ·exact w
 ·by_cases z:j < a
  ·exact D.run i j (by omega) q2 z
  ·have:j=a:=by omega
   subst this
   have lo:=D.low i (by omega)
   by_cases e:i=j - 1
   ·subst e
    exact ⟨h2,h1,by omega⟩
   ·obtain ⟨x,y,_⟩:=D.run i (j - 1) (by omega) (by omega) (by omega)
    exact ⟨W.not x h2,W.not h1 y,by omega⟩
 ·by_cases z:k < a
  ·have:=D.low k z;omega
  ·have:k=a:=by omega
   subst this
   omega
theorem Ce (W:Weak lt):∀ (f:Nat) (p:Array Nat) (a q:Nat),p.size=n→Dn lt n p a q→a + f ≤ n →
 (dG lt (kas_desc f p a q)).1.size=n∧Dn lt n (dG lt (kas_desc f p a q)).1 (dG lt (kas_desc f p a q)).2.1 (dG lt (kas_desc f p a q)).2.2∧(dG lt (kas_desc f p a q)).2.1 ≤ n
 | 0,p,a,q,hs,D,h=>⟨hs,D,h⟩
 | f + 1,p,a,q,hs,D,h=>by
  have e:dG lt (kas_desc (f + 1) p a q)=dG lt (if lt (ga p a) (ga p (a - 1))=true then (if q > 0 then kas_desc f (kas_rev p (a - (q + 1)) a) (a + 1) 0 else kas_desc f p (a + 1) 0) else .ask (ga p (a - 1)) (ga p a) fun d=>if d=true then .ret (p,a,q) else kas_desc f p (a + 1) (q + 1)):=rfl
  rw [e]
  by_cases c:lt (ga p a) (ga p (a - 1))=true
  ·rw [if_pos c]
   have e2:(if q > 0 then kas_desc f (kas_rev p (a - (q + 1)) a) (a + 1) 0 else kas_desc f p (a + 1) 0)=kas_desc f (turned p a q) (a + 1) 0:=by
    unfold turned
    split <;> rfl
   rw [e2]
   exact Ce W f (turned p a q) (a + 1) 0 (by rw [vO];exact hs) ((D.turn (rY hs (by omega) D.le)).up (by omega) (D.below W hs (by omega) c)) (by omega)
  ·rw [if_neg c]
   have e3:dG lt (.ask (ga p (a - 1)) (ga p a) fun d=>if d=true then .ret (p,a,q) else kas_desc f p (a + 1) (q + 1))=dG lt (if lt (ga p (a - 1)) (ga p a)=true then .ret (p,a,q) else kas_desc f p (a + 1) (q + 1)):=rfl
   rw [e3]
   by_cases d:lt (ga p (a - 1)) (ga p a)=true
   ·rw [if_pos d]
    exact ⟨hs,D,by show a ≤ n;omega⟩
   ·rw [if_neg d]
    exact Ce W f p (a + 1) (q + 1) hs (D.same W (by omega) (by simpa using c) (by simpa using d)) (by omega)
theorem Td (W:Weak lt) (hs:p.size=n) (D:Desc lt n p a) (h1:1 ≤ a) (ha:a ≤ n) :
 (dG lt (kas_tail3 a n p)).2.size=n∧Run lt n (dG lt (kas_tail3 a n p)).2 (dG lt (kas_tail3 a n p)).1∧1 ≤ (dG lt (kas_tail3 a n p)).1∧(dG lt (kas_tail3 a n p)).1 ≤ n:=by
 have e:dG lt (kas_tail3 a n p)=(dG lt (kas_asc (kas_rev p 0 a) (n - a) a),kas_rev p 0 a):=n6 _ _
 rw [e]
 have B:=G9 (p:=p) (i:=0) (j:=a) (by omega)
 have R:Run lt n (kas_rev p 0 a) a:=by
  refine ⟨fun i j hij hj=>?_,fun k hk hn=>?_,fun k hk=>?_⟩
  ·rw [B,B,if_pos (by omega),if_pos (by omega)]
   exact D.desc _ _ (by omega) (by omega)
  ·rw [B,if_neg (by omega)];exact D.rest k hk hn
  ·rw [B,if_pos (by omega)];exact D.low _ (by omega)
 obtain ⟨q1,q2,q3,_⟩:=G8 W (n - a) a R h1 (by omega)
 exact ⟨by rw [yd];exact hs,q1,by show 1 ≤ dG lt _;omega,by show dG lt _ ≤ n;omega⟩
theorem Jo (W:Weak lt) (hs:p.size=n) (D:Dn lt n p (a + 1) 0) (ha:a < n) :
 (dG lt (kas_descPart a n p)).2.size=n∧Run lt n (dG lt (kas_descPart a n p)).2 (dG lt (kas_descPart a n p)).1∧1 ≤ (dG lt (kas_descPart a n p)).1∧(dG lt (kas_descPart a n p)).1 ≤ n:=by
 obtain ⟨q1,q2,q3⟩:=Ce W (n - (a + 1)) p (a + 1) 0 hs D (by omega)
 have e:dG lt (kas_descPart a n p)=dG lt (kas_tail3 (dG lt (kas_desc (n - (a + 1)) p (a + 1) 0)).2.1 n (turned (dG lt (kas_desc (n - (a + 1)) p (a + 1) 0)).1 (dG lt (kas_desc (n - (a + 1)) p (a + 1) 0)).2.1 (dG lt (kas_desc (n - (a + 1)) p (a + 1) 0)).2.2)):=by
  refine (n6 _ _).trans ?_
  unfold turned
  split <;> rfl
 rw [e]
 have l:=q2.le
 exact Td W (by rw [vO];exact q1) (q2.turn (rY q1 q3 l)) (by omega) q3
theorem O7 (W:Weak lt) (hs:p.size=n) (hn:1 ≤ n) (R:Run lt n p 1) :
 (dG lt (kas_count n p)).2.size=n∧Run lt n (dG lt (kas_count n p)).2 (dG lt (kas_count n p)).1∧1 ≤ (dG lt (kas_count n p)).1∧(dG lt (kas_count n p)).1 ≤ n:=by
 obtain ⟨q1,q2,q3,q4⟩:=G8 W (n - 1) 1 R (aL _) (by omega)
 have e:dG lt (kas_count n p)=_:=n6 _ _
 rw [e]
 clear e
 generalize dG lt (kas_asc p (n - 1) 1)=m at q1 q2 q3 q4 ⊢
 by_cases c:(m == n)=true
 ·rw [if_pos c];exact ⟨hs,q1,q2,by show m ≤ n;omega⟩
 ·rw [if_neg c]
  have c:m < n:=by
   have:¬ m=n:=by simpa using c
   omega
  have dn:=q4 (by omega)
  have st:∀ p',(∀ k,ga p' k=if 0 ≤ k∧k < m then ga p (0 + m - 1 - k) else ga p k)→lt (ga p 0) (ga p (m - 1))=false→Dn lt n p' (m + 1) 0:=fun p' B z=>by
   have D:Desc lt n p' m:=by
    refine ⟨fun i j hij hj=>?_,fun k hk hn=>?_,fun k hk=>?_⟩
    ·rw [B,B,if_pos (by omega),if_pos (by omega)]
     exact q1.asc _ _ (by omega) (by omega)
    ·rw [B,if_neg (by omega)];exact q1.rest k hk hn
    ·rw [B,if_pos (by omega)];exact q1.low _ (by omega)
   have all:∀ i,i < m→lt (ga p m) (ga p i)=true:=fun i hi=>by
    rcases W.nt _ (ga p i) _ dn with w | w
    ·exact w
    ·by_cases y:i=0
     ·subst y;rw [z] at w;cases w
     ·rcases W.nt _ (ga p 0) _ w with v | v
      ·rw [(q1.asc 0 i (by omega) hi).nr W] at v;cases v
      ·rw [z] at v;cases v
   refine D.up c fun i hi=>?_
   rw [B,if_neg (by omega),B,if_pos (by omega)]
   exact all _ (by omega)
  by_cases g:m > 1
  ·rw [if_pos g]
   show _∧Run lt n (dG lt (if lt (ga p 0) (ga p (m - 1))=true then .ret (m,p) else kas_descPart m n (kas_rev p 0 m))).2 (dG lt (if lt (ga p 0) (ga p (m - 1))=true then .ret (m,p) else kas_descPart m n (kas_rev p 0 m))).1∧_
   by_cases z:lt (ga p 0) (ga p (m - 1))=true
   ·have e:dG lt (.ask (ga p 0) (ga p (m - 1)) fun c=>if c=true then .ret (m,p) else kas_descPart m n (kas_rev p 0 m))=(m,p):=by
     show dG lt (if lt (ga p 0) (ga p (m - 1))=true then .ret (m,p) else kas_descPart m n (kas_rev p 0 m))=_
     rw [if_pos z];rfl
    rw [e,if_pos z]
    exact ⟨hs,q1,q2,by show m ≤ n;omega⟩
   ·have e:dG lt (.ask (ga p 0) (ga p (m - 1)) fun c=>if c=true then .ret (m,p) else kas_descPart m n (kas_rev p 0 m))=dG lt (kas_descPart m n (kas_rev p 0 m)):=by
     show dG lt (if lt (ga p 0) (ga p (m - 1))=true then .ret (m,p) else kas_descPart m n (kas_rev p 0 m))=_
     rw [if_neg z]
    rw [e,if_neg z]
    exact Jo W (by rw [yd];exact hs) (st _ (G9 (by omega)) (by simpa using z)) c
  ·rw [if_neg g]
   have:m=1:=by omega
   subst this
   refine Jo W hs (st p (fun k=>?_) (W.irr _)) c
   split
   ·rw [show 0 + 1 - 1 - k=k by omega]
   ·rfl
theorem Te (W:Weak lt) (hn:1 ≤ n):Run lt n (dG lt (kas_sort n)) n:=by
 have gr:∀ k,k < n→ga (fP (aX n)) k=k:=fun k hk=>by
  simp [ga,gM,hk]
 obtain ⟨q1,q2,q3,q4⟩:=O7 (p:=fP (aX n)) W (by simp) hn ⟨fun i j h1 h2=>by omega,fun k hk h=>gr k h,fun k hk=>by rw [gr k (by omega)];exact hk⟩
 have e:dG lt (kas_sort n)=_:=n6 _ _
 rw [e]
 clear e
 generalize dG lt (kas_count n (fP (aX n)))=r at q1 q2 q3 q4 ⊢
 by_cases c:r.1 < n
 ·rw [if_pos c,show max r.1 1=r.1 by omega]
  exact O6 W _ _ _ q1 q2 (by omega)
 ·rw [if_neg c]
  have:r.1=n:=by omega
  rw [← this]
  rw [← this] at q2
  exact q2
theorem tR (W:Weak lt) (hn:1 ≤ n):(m8 n lt).Pairwise (Rk lt):=by
 have R:=Te W hn
 have z:(m8 n lt).length=n:=by
  have:=(fZ (n:=n) (by omega) lt).length_eq
  simpa using this
 rw [oR]
 intro i j hi hj hij
 have:=R.asc i j hij (by omega)
 have g:∀ k (h:k < (m8 n lt).length),ga (dG lt (kas_sort n)) k=(m8 n lt)[k]:=fun k h=>by
  unfold m8 at h ⊢
  have h':k < (dG lt (kas_sort n)).size:=by simpa using h
  simp [ga,gM,h']
 rw [g i hi,g j hj] at this
 exact this
end
end XS
namespace XS
theorem O8 {k:Nat→Int × Int}:Weak fun i j=>yQ (k i) (k j):=by
 refine ⟨fun a=>?_,fun a b c h1 h2=>?_,fun a b c h=>?_⟩
 ·simp [yQ]
 ·revert h1 h2
  simp only [yQ]
  generalize (k a).1=a1
  generalize (k a).2=a2
  generalize (k b).1=b1
  generalize (k b).2=b2
  generalize (k c).1=c1
  generalize (k c).2=c2
  split <;> split <;> split <;> simp only [decide_eq_true_eq] <;> omega
 ·revert h
  simp only [yQ]
  generalize (k a).1=a1
  generalize (k a).2=a2
  generalize (k b).1=b1
  generalize (k b).2=b2
  generalize (k c).1=c1
  generalize (k c).2=c2
  split <;> split <;> split <;> simp only [decide_eq_true_eq] <;> omega
theorem O9 (qs:List (Int × Int)):Weak (ltP qs):=O8 (k:=fun i=>qs.getD i (0,0))
theorem yg {k:Nat→Int}:Weak fun i j=>decide (k i < k j):=by
 refine ⟨fun a=>?_,fun a b c h1 h2=>?_,fun a b c h=>?_⟩
 ·simp
 ·simp only [decide_eq_true_eq] at *;omega
 ·simp only [decide_eq_true_eq] at *;omega
theorem Kz {lt:Nat→Nat→Bool} (W:Weak lt):∀ {l m:List Nat},l.Perm m→l.Pairwise (Rk lt)→m.Pairwise (Rk lt)→l=m:=by
 intro l m h h1 h2
 refine List.Perm.eq_of_pairwise (le:=Rk lt) (fun a b _ _ x y=>?_) h1 h2 h
 have n1:=x.nr W
 have n2:=y.nr W
 rcases x with x | ⟨_,x⟩
 ·rw [x] at n2;cases n2
 ·rcases y with y | ⟨_,y⟩
  ·rw [y] at n1;cases n1
  ·omega
theorem yh {lt:Nat→Nat→Bool} (W:Weak lt) (hn:1 ≤ n) {m:List Nat} (h:m.Perm (aX n)) (h2:m.Pairwise (Rk lt)):m8 n lt=m :=
 Kz W ((fZ (by omega) lt).trans h.symm) (tR W hn) h2
end XS
namespace Com
open PySem D3 My XS
end Com
namespace Com
open PySem D3 My
def r6 (x:Int):Prop:=0 ≤ x∧x < 1000000
abbrev Wi:=Int × Int × Int
def wiD (w:Wi):D:=.tuple [.int w.1,.int w.2.1,.int w.2.2]
theorem Ze (w:Wi):ly 3 (wiD w):=vh (oK rH (oK rH (oK rH uK)))
end Com
namespace Com
open PySem D3 My
theorem O_ {α:Type} (f:α→D) {l:List α} (x:α) {i:Int} (h0:0 ≤ i) (h1:i < l.length):pAt (l.map f) i=some (f (l.getD i.toNat x)):=by
 have hk:i.toNat < l.length:=by omega
 obtain ⟨k,rfl⟩:∃ k:Nat,i=(k:Int):=⟨i.toNat,by omega⟩
 rw [rT,aR,aM]
 simp only [jK] at hk ⊢
 rw [aO hk]
 rfl
end Com
namespace Com
open PySem D3 My
theorem KC (fs:List Int):pN (fs.map .int)=(aX fs.length).map fun k:Nat=>PyData.tuple [.int (k:Int),.int (fs.getD k 0)]:=by
 unfold pN
 apply gb
 intro i
 rw [fW,aR,aR]
 by_cases h:i < fs.length
 ·have e:fs.getD i 0=fs[i]:=by rw [aM,aO h];rfl
  rw [fu h,aO h,iD,iD,iD,e]
 ·rw [bH (by simpa using h),bH (by simpa using h)]
  rfl
end Com
namespace Com
open PySem D3 My
end Com
namespace Sd
abbrev Gp:=Int × Int × Nat
abbrev Pl:=Gp × Nat
def inn (p:Pl) (r:Nat):Prop:=p.2 ≤ r∧r < p.2 + p.1.2.2
def fits (row:List Int) (g:Gp) (s:Nat):Prop:=s + g.2.2 ≤ row.length∧∀ r,s ≤ r→r < s + g.2.2→row.getD r 0 ≤ g.1
def cell (g:Gp) (s r:Nat) (e:Int):Int:=if s ≤ r∧r < s + g.2.2 then g.2.1 else if e ≤ g.1 then 0 else e
def put (row:List Int) (g:Gp) (s:Nat):List Int:=row.mapIdx (cell g s)
theorem wH (row:List Int) (g:Gp) (s:Nat):(put row g s).length=row.length:=by unfold put;rw [List.length_mapIdx]
def Run:List Int→List Pl→List Int→Prop
 | row,[],out=>out=row
 | row,p :: ps,out=>fits row p.1 p.2∧Run (put row p.1 p.2) ps out
def Jv (held:List Int) (done:List Pl) (row:List Int):Prop:=row.length=held.length∧∀ r,r < held.length→∀ x:Int,0 ≤ x→(∀ p ∈ done,p.1.1 ≤ x) →
 (row.getD r 0 ≤ x↔held.getD r 0 ≤ x∧∀ p ∈ done,inn p r→p.1.2.1 ≤ x)
theorem Jv.nil (held:List Int):Jv held [] held:=⟨rfl,fun r _ x _ _=>⟨fun h=>⟨h,fun p hp=>by cases hp⟩,fun h=>h.1⟩⟩
def apart (p q:Pl):Prop:=p.1.2.1 ≤ q.1.1∨q.1.2.1 ≤ p.1.1∨p.2 + p.1.2.2 ≤ q.2∨q.2 + q.1.2.2 ≤ p.2
end Sd
namespace K75
open PySem D3
noncomputable abbrev eY:List D→Option D:=Com.eY
noncomputable abbrev eZ:List D→Option D:=Com.eZ
noncomputable def iR:List D→Option D:=fnD 1 0 (fJ (dCall uQ (aF (gW (uY (aD 0)) (gNl 0) (jx) (dCall eY (aF (aD 0) (bw))) 1 []) (bw))))
noncomputable def dg:List D→Option D:=fnD 2 0 (fJ (vU (dUn (gIs "tuple") (aD 0)) (vU (dOp gEq (dCall jj (aF (aD 0) (bw))) (aD 1)) (dCall iR (aF (aD 0) (bw))))))
noncomputable def pU:List D→Option D:=fnD 1 0 (fJ (dCall dg (aF (aD 0) (aF (dC (.int 2)) (bw)))))
noncomputable def mz:List D→Option D:=fnD 1 0 (fJ (vU (dCall pU (aF (aD 0) (bw))) (wj gLe gLt gLe (dC (.int 0)) (dOp gIx (aD 0) (dC (.int 0))) (dOp gIx (aD 0) (dC (.int 1))) (dC (.int 400)))))
noncomputable abbrev jR:List D→Option D:=Com.jR
noncomputable def mR:List D→Option D:=fnD 1 0 (cF (sIf (D3.tOr (D3.mH (cI (dUn (gIs "tuple") (aD 0)))) (cI (dOp gNe (dCall jj (aF (aD 0) (bw))) (dC (.int 3))))) (fJ (dC (.bool false))) (iK))
 (fJ (vU (dCall mz (aF (dCall jR (aF (aD 0) (bw))) (bw))) (dCall eZ (aF (dOp gIx (aD 0) (dC (.int 2))) (aF (dC (.int 1)) (aF (dC (.int 6)) (bw))))))))
noncomputable def d8:List D→Option D:=fnD 1 2 (rB (HS (aD 0)) (gTn 2 (d7 (gNl 1) (d7 (gNl 2) (nF)))) (sIf (D3.mH (cI (dCall mR (aF (aD 2) (bw))))) ((fun _=>none)) (iK)))
noncomputable def rZ:List D→Option D:=fnD 1 0 (fJ (XS.B_ (dCall xJ (aF (dCall jj (aF (aD 0) (bw))) (bw))) XS.dK0 [0]))
noncomputable def lG:List D→Option D:=fnD 2 1 (cF (b_ 2 (dOp yL (dCall jj (aF (aD 0) (bw))) (dOp gIx (aD 1) (dC (.int 2)))))
 (fJ (gW (sS (aF (dOp eV (aD 2) (dC (.int 1))) (bw))) (gNl 0) (cI (dOp gLe (dCall vL (aF (yU (aD 2) (eX (aD 0)) (eX (dOp eV (aD 0) (dOp gIx (aD 1) (dC (.int 2)))))) (bw))) (dOp gIx (aD 1) (dC (.int 0))))) (i_ (aD 0)) 1 [1,0])))
noncomputable abbrev fj:List D→Option D:=Com.fj
noncomputable def iT:List D→Option D:=fnD 3 1 (cF (b_ 3 (dOp eV (aD 2) (dOp gIx (aD 1) (dC (.int 2)))))
 (fJ (dUn jG (gW (GQ (aD 0)) (gTn 2 (d7 (gNl 0) (d7 (gNl 1) (nF)))) (jx) (dCall fj (aF (aD 1) (aF (aD 2) (aF (oE gLe gLt (aD 3) (aD 0) (aD 4)) (bw))))) 2 [1,2,3]))))
noncomputable def iY:List D→Option D:=fnD 2 3 (cF (b_ 2 (dC (.dict [])))
 (cF (rB (rC (aD 0)) (gNl 3) (rB (rC (dCall lG (aF (aD 3) (aF (aD 1) (bw))))) (gNl 4) (u6 2 (dCall iT (aF (aD 3) (aF (aD 1) (aF (aD 4) (bw))))) (dTup (aF (aD 3) (aF (aD 4) (bw)))))))
 (fJ (aD 2))))
noncomputable def dM:List D→Option D:=fnD 2 0 (fJ (vU (dUn (gIs "list") (aD 0)) (dCall uQ (aF (gW (rC (aD 0)) (gNl 0) (jx) (dCall dg (aF (aD 0) (aF (aD 1) (bw)))) 1 [1]) (bw)))))
noncomputable def mU:List D→Option D:=fnD 2 1 (cF (b_ 2 (dCall xT (aF (gW (rC (aD 0)) (gNl 0) (jx) (i_ (dTup (aF (aD 0) (aF (dC (.bool true)) (bw))))) 1 []) (bw))))
 (fJ (dCall uQ (aF (gW (M8 (aD 1)) (gNl 0) (jx) (dOp Ec (aD 0) (aD 1)) 1 [2]) (bw)))))
noncomputable def fM:List D→Option D:=fnD 3 3 (cF (HD (dCall d8 (aF (aD 1) (bw))))
 (cF (sIf (D3.tOr (D3.mH (cI (dUn (gIs "list") (aD 2)))) (D3.mH (cI (oE gLe gLe (dC (.int 1)) (dCall jj (aF (aD 2) (bw))) (dCall jj (aF (aD 1) (bw))))))) (fJ (dC (.bool false))) (iK))
 (cF (sIf (D3.tOr (D3.mH (cI (dCall uQ (aF (gW (rC (aD 2)) (gNl 0) (jx) (dCall dM (aF (aD 0) (aF (dCall jj (aF (aD 1) (bw))) (bw)))) 1 [0]) (bw))))) (cI (dOp gGt (dCall jj (aF (dOp gIx (aD 2) (dUn Gr (dC (.int 1)))) (bw))) (dC (.int 0))))) (fJ (dC (.bool false))) (iK))
 (cF (b_ 3 (eU (aF (dUn jG (aD 0)) (bw))))
 (cF (rB (Ly (dCall rZ (aF (aD 1) (bw))) (aD 2)) (gTn 2 (d7 (gNl 4) (d7 (gNl 5) (nF)))) (cF (sIf (D3.mH (cI (dCall mU (aF (aD 5) (aF (dCall iY (aF (aD 3) (aF (dOp gIx (aD 1) (aD 4)) (bw)))) (bw)))))) (fJ (dC (.bool false))) (iK))
 (b_ 3 (aD 5))))
 (fJ (dC (.bool true))))))))
noncomputable abbrev jm:List D→Option D:=Com.jm
noncomputable abbrev bF:List D→Option D:=Com.bF
noncomputable abbrev fV:List D→Option D:=Com.fV
noncomputable abbrev jo:List D→Option D:=Com.jo
noncomputable abbrev gZ:List D→Option D:=Com.gZ
noncomputable def jz:List D→Option D:=fnD 1 0 (fJ (gW (rC (dCall XS.xQ (aF (gW (sS (aF (dCall jj (aF (aD 0) (bw))) (bw))) (gNl 0) (jx) (i_ (dTup (aF (dOp gIx (dOp gIx (aD 1) (aD 0)) (dC (.int 0))) (aF (aD 0) (bw))))) 1 [0]) (bw)))) (gNl 0) (jx) (i_ (dOp gIx (aD 1) (dOp gIx (aD 0) (dC (.int 1))))) 1 [0]))
noncomputable def f9:List D→Option D:=fnD 2 8 (cF (QT (aD 1) (gTn 3 (d7 (gNl 2) (d7 (gNl 3) (d7 (gNl 4) (nF))))))
 (cF (b_ 5 (dC (.dict [])))
 (cF (rB (uY (aD 0)) (gNl 6) (cF (b_ 7 (gW (uY (aD 6)) (gNl 0) (jx) (i_ (dOp gIx (eU (aF (aD 0) (aF (dC (.int 0)) (bw)))) (dCall vW (aF (dOp gLe (aD 0) (aD 1)) (bw))))) 1 [2]))
 (rB (sS (aF (dOp eV (dOp yL (dCall jj (aF (aD 6) (bw))) (aD 4)) (dC (.int 1))) (bw))) (gNl 8) (sIf (cI (dOp gLe (dCall vL (aF (yU (aD 6) (eX (aD 8)) (eX (dOp eV (aD 8) (aD 4)))) (bw))) (aD 2))) (cF (b_ 9 (dOp fQ (dSl (aD 7) jN (eX (aD 8))) (dOp pL (eU (aF (aD 3) (bw))) (aD 4))))
 (vf 5 (dUn jG (dOp fQ (aD 9) (dSl (aD 7) (eX (dOp eV (aD 8) (aD 4))) jN))))) (iK)))))
 (fJ (dCall XJ.BP (aF (aD 5) (bw)))))))
noncomputable def ji:List D→Option D:=fnD 2 1 (cF (sIf (D3.mH (cI (dUn (gIs "list") (aD 0)))) (fJ (dC (.bool false))) (iK))
 (cF (rB (uY (aD 0)) (gNl 2) (cF (sIf (D3.tOr (D3.mH (cI (dUn (gIs "tuple") (aD 2)))) (cI (dOp gNe (dCall jj (aF (aD 2) (bw))) (aD 1)))) (fJ (dC (.bool false))) (iK))
 (sIf (cI (dOp gNe (gW (uY (aD 2)) (gNl 0) (D3.mH (cI (dCall fV (aF (aD 0) (bw))))) (i_ (aD 0)) 1 []) (eU (bw)))) (fJ (dC (.bool false))) (iK))))
 (fJ (dC (.bool true)))))
noncomputable def iZ:List D→Option D:=fnD 3 3 (cF (sIf (D3.tOr (D3.mH (cI (dUn (gIs "list") (aD 2)))) (D3.mH (cI (oE gLe gLe (dC (.int 1)) (dCall jj (aF (aD 2) (bw))) (dCall jj (aF (aD 1) (bw))))))) (fJ (dC (.bool false))) (iK))
 (cF (sIf (cI (dOp gNe (gW (rC (aD 2)) (gNl 0) (D3.mH (cI (dCall ji (aF (aD 0) (aF (dCall jj (aF (aD 1) (bw))) (bw)))))) (i_ (aD 0)) 1 [0]) (eU (bw)))) (fJ (dC (.bool false))) (iK))
 (cF (b_ 3 (eU (aF (dUn jG (aD 0)) (bw))))
 (cF (rB (Ly (aD 2) (dCall jz (aF (aD 1) (bw)))) (gTn 2 (d7 (gNl 4) (d7 (gNl 5) (nF)))) (cF (sIf (cI (dOp gNe (gW (rC (dCall f9 (aF (aD 3) (aF (aD 5) (bw))))) (gNl 0) (cI (dOp xK (aD 0) (aD 1))) (i_ (aD 0)) 1 [4]) (eU (bw)))) (fJ (dC (.bool false))) (iK))
 (b_ 3 (aD 4))))
 (fJ (dOp gEq (aD 3) (eU (bw))))))))
noncomputable def mC:List D→Option D:=fnL 2 3 (cF (b_ 2 (eU (bw)))
 (cF (b_ 3 (eU (aF (dUn jG (aD 0)) (bw))))
 (cF (rB (rC (dCall jz (aF (aD 1) (bw)))) (gNl 4) (cF (b_ 3 (dCall f9 (aF (aD 3) (aF (aD 4) (bw)))))
 (cF (vV 2 (aD 3))
 (sIf (cI (dOp gEq (aD 3) (eU (bw)))) (oZ (aD 2)) (iK)))))
 (oZ (aD 2)))))
noncomputable def jT:List D→Option D:=fnL 4 4 (cF (b_ 4 (dSl (aD 0) jN (eX (aD 1))))
 (cF (b_ 5 (dSl (aD 0) (eX (dOp eV (aD 1) (dC (.int 1)))) jN))
 (cF (b_ 6 (eU (aF (dC (.none)) (aF (eU (bw)) (aF (dC (.dict [])) (aF (dUn jG (aD 0)) (aF (dOp fQ (dOp fQ (aD 4) (eU (aF (dC (.none)) (bw)))) (aD 5)) (bw))))))))
 (cF (vV 6 (dOp fQ (dOp fQ (aD 4) (eU (aF (dUn jG (dOp gIx (aD 0) (aD 1))) (bw)))) (aD 5)))
 (cF (vV 6 (dOp fQ (dSl (aD 0) jN (eX (dUn Gr (dC (.int 1))))) (eU (aF (eU (aF (dUn jG (dOp pL (eU (aF (dC (.int 0)) (bw))) (aD 2))) (bw))) (bw)))))
 (cF (vV 6 (eU (aF (dOp fQ (dSl (aD 0) jN (eX (dUn Gr (dC (.int 1))))) (eU (aF (eU (bw)) (bw)))) (bw))))
 (cF (sIf (cI (dOp gLt (aD 3) (dC (.int 8)))) (oZ (dOp gIx (aD 6) (aD 3))) (iK))
 (cF (b_ 7 (eU (aF (dOp pL (eU (aF (dC (.int 0)) (bw))) (aD 2)) (aF (dUn jG (dOp pL (eU (aF (dC (.int 0)) (bw))) (dOp eV (aD 2) (dC (.int 1))))) (aF (dC (.none)) (bw))))))
 (cF (b_ 7 (dOp fQ (aD 7) (eU (aF (dUn jG (dOp pL (eU (aF (dC (.bool true)) (bw))) (aD 2))) (aF (dUn jG (dOp pL (eU (aF (dC (.str "0")) (bw))) (aD 2))) (bw))))))
 (oZ (dOp fQ (dOp fQ (aD 4) (eU (aF (dOp fQ (dOp gIx (aD 0) (aD 1)) (eU (aF (dOp gIx (aD 7) (dOp yL (aD 3) (dC (.int 8)))) (bw)))) (bw)))) (aD 5))))))))))))
noncomputable def dR:List D→Option D:=fnL 4 6 (cF (b_ 4 (dOp gIx (aD 1) (aD 2)))
 (cF (b_ 5 (dCall bF (aF (aD 0) (aF (dC (.int 0)) (aF (dC (.int 3)) (aF (dC (.int 8)) (bw)))))))
 (cF (b_ 6 (dCall bF (aF (aD 0) (aF (dC (.int 0)) (aF (dC (.int 4)) (aF (dCall HJ (aF (dC (.int 1)) (aF (dCall jj (aF (aD 4) (bw))) (bw)))) (bw)))))))
 (cF (b_ 7 (dOp fQ (aD 4) (eU (aF (dUn jG (dOp pL (eU (aF (dC (.int 0)) (bw))) (aD 3))) (bw)))))
 (cF (sIf (cI (dOp gEq (aD 5) (dC (.int 0)))) (oZ (gW (rC (aD 1)) (gNl 0) (jx) (wY (dOp fQ (dUn HN (aD 0)) (dSl (aD 0) jN (eX (dC (.int 1)))))) 1 [])) (iK))
 (cF (sIf (cI (dOp gEq (aD 5) (dC (.int 1)))) (b_ 7 (dOp fQ (aD 4) (dOp pL (eU (aF (dUn jG (dOp pL (eU (aF (dC (.int 400)) (bw))) (aD 3))) (bw))) (dOp gIx (eU (aF (dC (.int 1)) (aF (dC (.int 1)) (aF (dC (.int 1)) (aF (dC (.int 401)) (bw)))))) (dCall bF (aF (aD 0) (aF (dC (.int 0)) (aF (dC (.int 8)) (aF (dC (.int 4)) (bw)))))))))) (iK))
 (cF (sIf (cI (dOp gEq (aD 5) (dC (.int 2)))) (b_ 7 (dOp fQ (dSl (aD 4) jN (eX (aD 6))) (dSl (aD 4) (eX (dOp eV (aD 6) (dC (.int 1)))) jN))) (iK))
 (cF (sIf (D3.Gb (cI (dOp gEq (aD 5) (dC (.int 3)))) (cI (dOp gNe (aD 4) (eU (bw))))) (cF (b_ 8 (dCall bF (aF (aD 0) (aF (dC (.int 0)) (aF (dC (.int 5)) (aF (aD 3) (bw)))))))
 (cF (b_ 9 (dUn vD (dOp gIx (aD 4) (aD 6))))
 (cF (QV 9 (aD 8) (dOp eV (dOp gIx (aD 9) (aD 8)) (dC (.int 1))))
 (b_ 7 (dOp fQ (dOp fQ (dSl (aD 4) jN (eX (aD 6))) (eU (aF (dUn jG (aD 9)) (bw)))) (dSl (aD 4) (eX (dOp eV (aD 6) (dC (.int 1)))) jN)))))) (iK))
 (cF (sIf (cI (dOp gEq (aD 5) (dC (.int 4)))) (oZ (dSl (aD 1) jN (eX (dUn Gr (dC (.int 1)))))) (iK))
 (cF (sIf (cI (dOp gEq (aD 5) (dC (.int 5)))) (oZ (dOp fQ (aD 1) (eU (aF (eU (bw)) (bw))))) (iK))
 (cF (sIf (cI (dOp gEq (aD 5) (dC (.int 6)))) (oZ (dOp fQ (aD 1) (eU (aF (aD 7) (bw))))) (iK))
 (oZ (dOp fQ (dOp fQ (dSl (aD 1) jN (eX (aD 2))) (eU (aF (aD 7) (bw)))) (dSl (aD 1) (eX (dOp eV (aD 2) (dC (.int 1)))) jN))))))))))))))
noncomputable def dX:Nat→List D→Option D
 | 0=>fun _=>none
 | m + 1=>fnD 1 0 (cF (sIf (cI (dUn (gIs "list") (aD 0))) (fJ (gW (rC (aD 0)) (gNl 0) (jx) (dCall (dX m) (aF (aD 0) (bw))) 1 [])) (iK))
  (fJ (i_ (aD 0))))
noncomputable abbrev m9:List D→Option D:=dX 12
noncomputable def jA:List D→Option D:=fnL 1 0 (cF (sIf (cI (dUn (gIs "list") (aD 0))) (fun _=>none) (iK)) (oZ (aD 0)))
noncomputable def cW:List D→Option D:=fnD 4 3 (cF (b_ 4 (eU (aF (dUn vD (aD 0)) (aF (dUn vD (aD 1)) (bw)))))
 (cF (b_ 5 (BX m9 jA (aF (aD 2) (bw))))
 (cF (b_ 6 (dCall fM (aF (dOp gIx (aD 4) (dC (.int 0))) (aF (dOp gIx (aD 4) (dC (.int 1))) (aF (aD 2) (bw))))))
 (cF (sIf (D3.tOr (D3.mH (cI (dUn (gIs "bool") (aD 6)))) (cI (dOp J9 (aD 6) (aD 3)))) (fJ (dC (.bool false))) (iK))
 (fJ (vU (dOp yP (aD 4) (eU (aF (aD 0) (aF (aD 1) (bw))))) (dOp yP (aD 2) (aD 5))))))))
noncomputable def Pa:List D→Option D:=fnD 1 8 (cF (b_ 1 (dOp eV (dC (.int 1)) (dCall bF (aF (aD 0) (aF (dC (.int 0)) (aF (dC (.int 0)) (aF (dC (.int 4)) (bw))))))))
 (cF (b_ 2 (dCall jo (aF (aD 0) (aF (aD 1) (bw)))))
 (cF (b_ 3 (dCall gZ (aF (aD 0) (aF (aD 1) (aF (dCall bF (aF (aD 0) (aF (dC (.int 0)) (aF (dC (.int 1)) (aF (dC (.int 9)) (bw)))))) (bw))))))
 (cF (b_ 4 (dCall bF (aF (aD 0) (aF (dC (.int 1)) (aF (dC (.int 0)) (aF (dC (.int 380)) (bw)))))))
 (cF (b_ 5 (dCall bF (aF (aD 0) (aF (dC (.int 0)) (aF (dC (.int 2)) (aF (dOp eV (dCall jj (aF (aD 3) (bw))) (dC (.int 1))) (bw)))))))
 (cF (b_ 3 (dOp fQ (dOp fQ (dSl (aD 3) jN (eX (aD 5))) (eU (aF (dTup (aF (dOp eV (aD 4) (dC (.int 6))) (aF (dOp eV (dOp eV (aD 4) (dC (.int 7))) (dCall bF (aF (aD 0) (aF (dC (.int 2)) (aF (dC (.int 7)) (aF (dC (.int 4)) (bw))))))) (aF (dOp eV (aD 1) (dC (.int 1))) (bw))))) (bw)))) (dSl (aD 3) (eX (aD 5)) jN)))
 (cF (b_ 6 (dCall mC (aF (aD 2) (aF (aD 3) (bw)))))
 (cF (sIf (D3.mH (cI (dCall cW (aF (aD 2) (aF (aD 3) (aF (aD 6) (aF (dC (.bool true)) (bw)))))))) (fJ (dC (.bool false))) (iK))
 (cF (b_ 7 (dCall bF (aF (aD 0) (aF (dC (.int 0)) (aF (dC (.int 6)) (aF (dCall jj (aF (aD 6) (bw))) (bw)))))))
 (cF (b_ 8 (dCall dR (aF (aD 0) (aF (aD 6) (aF (aD 7) (aF (aD 1) (bw)))))))
 (cF (sIf (D3.mH (cI (dCall cW (aF (aD 2) (aF (aD 3) (aF (aD 8) (aF (dCall iZ (aF (aD 2) (aF (aD 3) (aF (aD 8) (bw))))) (bw)))))))) (fJ (dC (.bool false))) (iK))
 (fJ (dCall cW (aF (aD 2) (aF (aD 3) (aF (dCall jT (aF (aD 6) (aF (aD 7) (aF (aD 1) (aF (dCall bF (aF (aD 0) (aF (dC (.int 0)) (aF (dC (.int 7)) (aF (dC (.int 13)) (bw)))))) (bw)))))) (aF (dC (.bool false)) (bw))))))))))))))))))
end K75
variable {g:Com.Wi} {gs:List Com.Wi} {hs row:List Int} {rows R:List (List Int)}
namespace K75
open PySem D3 My Com
def isI:D→Bool
 | .int _=>true
 | _=>false
theorem wh (d:D):Com.eY [d]=some (.bool (isI d)):=by
 unfold Com.eY
 cases d <;> rfl
theorem lwh (d:D):Com.fV [d]=some (.bool (isI d)):=by
 unfold Com.fV
 cases d <;> rfl
def two:D→Bool
 | .tuple [x,y]=>isI x && isI y
 | _=>false
theorem all2 (x y:D):iR [.tuple [x,y]]=some (.bool (isI x && isI y)):=by
 have C:=q_ (g:=(gNl 0)) (c:=(D3.jx)) (e:=(dCall eY (aF (aD 0) (bw)))) (δ:=[none]) (fun d:D=>d) (fun d=>.bool (isI d)) [x,y] (fun d _=>⟨[some (.d d)],rfl,rfl,by simp only [EV,reduceIte,ao,aq,aj,ak,au,aA,aB,wh]⟩)
 have C:jM (gNl 0) (D3.jx) (dCall eY (aF (aD 0) (bw))) [none] [x,y]=some [.bool (isI x),.bool (isI y)]:=C
 have ca:∀ a:Option U,iw 1 [] [a]=[none]:=fun _=>rfl
 have ga:uQ [.list [.bool (isI x),.bool (isI y)]]=some (.bool (isI x && isI y)):=by cases isI x <;> cases isI y <;> rfl
 unfold iR
 simp only [EV,reduceIte,ao,aq,aj,ak,au,aA,aB,VB,VD,show 2 ≤ 100000 by decide,ca,C,ga]
theorem len2 (h:l.length=2):∃ x y,l=[x,y]:=by
 match l,h with
 | [x,y],_=>exact ⟨x,y,rfl⟩
theorem two_no (h:¬ l.length=2):two (.tuple l)=false:=by
 match l,h with
 | [],_=>rfl
 | [_],_=>rfl
 | [_,_],h=>exact absurd rfl h
 | _ :: _ :: _ :: _,_=>rfl
theorem isTup:D3.isT "tuple" "tuple" = true:=by decide
theorem yj (d:D):pU [d]=some (.bool (two d)):=by
 have T:dg [d,.int 2]=some (.bool (two d)):=by
  unfold dg
  cases d with
  | tuple l =>
   by_cases h:l.length=2
   ·obtain ⟨x,y,rfl⟩:=len2 h
    simp only [EV,reduceIte,ao,aq,aj,ak,au,aA,aB,tyD,isTup,show jj [PyData.tuple [x,y]]=some (.int 2) from rfl,show gEq (.int 2) (.int 2)=some (.bool true) from rfl,all2]
    rfl
   ·have gl:jj [PyData.tuple l]=some (.int (l.length:Int)):=rfl
    rw [two_no h]
    simp only [EV,reduceIte,ao,aq,aj,ak,au,aA,aB,tyD,isTup,gl,dFa (show ¬ (l.length:Int)=2 by omega)]
  | _=>rfl
 unfold pU
 simp only [EV,reduceIte,ao,aq,aj,ak,au,aA,aB,T]
theorem tw (a b:Int):two (.tuple [.int a,.int b])=true:=rfl
def stB (a b:Int):Bool:=decide (0 ≤ a) && (decide (a < b) && decide (b ≤ 400))
theorem Et (a b:Int):mz [.tuple [.int a,.int b]]=some (.bool (stB a b)):=by
 unfold mz stB
 by_cases c:0 ≤ a
 ·by_cases c2:a < b
  ·simp only [EV,reduceIte,ao,aq,aj,ak,au,aA,aB,yj,tw,at0,at1,dTr c,dTr c2]
   rfl
  ·simp only [EV,reduceIte,ao,aq,aj,ak,au,aA,aB,yj,tw,at0,at1,dTr c,dFa c2]
   rfl
 ·simp only [EV,reduceIte,ao,aq,aj,ak,au,aA,aB,yj,tw,at0,at1,dFa c]
  rfl
structure grOk (g:Wi):Prop where
 f:0 ≤ g.1
 b:g.1 < g.2.1
 n:g.2.1 ≤ 400
 s:1 ≤ g.2.2
 t:g.2.2 ≤ 6
theorem G_ (g:Wi):Com.jR [wiD g]=some (.tuple [.int g.1,.int g.2.1]):=by
 unfold Com.jR wiD
 simp only [EV,reduceIte,ao,aq,aj,ak,au,aA,aB,at0,at1,sz (show 2 ≤ 1000000 by decide)]
theorem KD (h:grOk g):mR [wiD g]=some (.bool true):=by
 have S:=Et g.1 g.2.1
 rw [show stB g.1 g.2.1=true by unfold stB;rw [dTr h.f,dTr h.b,dTr h.n];rfl] at S
 have W:Com.eZ [.int g.2.2,.int 1,.int 6]=some (.bool true):=by
  unfold Com.eZ
  simp only [EV,reduceIte,ao,aq,aj,ak,au,aA,aB,wh,isI,dTr h.s,dTr h.t]
 have N:=G_ g
 have i2:gIx (wiD g) (.int 2)=some (.int g.2.2):=rfl
 unfold mR
 simp only [EV,reduceIte,ao,aq,aj,ak,au,aA,aB,show D3.isT "tuple" (tyD (wiD g))=true from rfl,show jj [wiD g]=some (.int 3) from rfl,show gNe (.int 3) (.int 3)=some (.bool false) from rfl,cV,N,S,i2,W]
theorem pW (h:∀ g ∈ gs,grOk g):d8 [.list (gs.map wiD)]=some .none:=by
 unfold d8
 simp only [EV,reduceIte,ao,aq,aj,ak,au,aA,aB]
 obtain ⟨δ',e,y0,y1,rfl⟩:=Ca (g:=(gTn 2 (d7 (gNl 1) (d7 (gNl 2) (nF))))) (b:=(sIf (D3.mH (cI (dCall mR (aF (aD 2) (bw))))) ((fun _=>none)) (iK))) (fun _ δ=>∃ y1 y2:Option U,δ=[some (.d (.list (gs.map wiD))),y1,y2]) (pN (gs.map wiD)) [some (.d (.list (gs.map wiD))),none,none] ⟨none,none,rfl⟩
  (by
   rintro i d δ hd ⟨y1,y2,rfl⟩
   unfold pN at hd
   rw [fW,aR] at hd
   cases hw:gs[i]? with
   | none=>rw [hw] at hd;cases hd
   | some w =>
    rw [hw] at hd
    cases hd
    refine ⟨_,_,rfl,.inl ?_,some (.d (.int (i:Int))),some (.d (wiD w)),rfl⟩
    simp only [EV,reduceIte,ao,aq,aj,ak,au,aA,aB,KD (h w (jP hw))])
 rw [e]
 simp only [EV,reduceIte,ao,aq,aj,ak,au,aA,aB]
def gat (gs:List Wi) (i:Nat):Wi:=gs.getD i (0,0,0)
theorem W4 {a b:Int} (h0:0 ≤ a) (h1:a ≤ b) (h2:b ≤ l.length):cutD l (some a) (some b)=(l.drop a.toNat).take (b - a).toNat:=by
 unfold cutD
 have e1:pSx l.length 0 (some a)=a.toNat:=by
  show (if a < 0 then _ else _)=_
  rw [if_neg (by omega)]
  omega
 have e2:pSx l.length l.length (some b)=b.toNat:=by
  show (if b < 0 then _ else _)=_
  rw [if_neg (by omega)]
  omega
 rw [e1,e2,show b.toNat - a.toNat=(b - a).toNat by omega]
def mx:List Int→Int
 | []=>0
 | x :: r=>mxI x r
def sli (hs:List Int) (p s:Int):List Int:=(hs.drop p.toNat).take s.toNat
theorem Hf {p s:Int} (h0:0 ≤ p) (h1:p ≤ (hs.length:Int) - s) (h2:1 ≤ s):sli hs p s ≠ []:=by
 intro z
 have:=congrArg lB z
 unfold sli at this
 rw [bG,cN] at this
 simp at this
 omega
theorem Jp {p s:Int} (h0:0 ≤ p) (h1:p ≤ (hs.length:Int) - s) (h2:1 ≤ s):cutD (hs.map PyData.int) (some p) (some (p + s))=(sli hs p s).map .int:=by
 rw [W4 h0 (by omega) (by rw [aC];omega),show p + s - p=s by omega]
 unfold sli
 rw [iV,jH]
theorem Jq (h:∀ g ∈ gs,grOk g) (hi:i < gs.length):grOk (gat gs i):=by
 unfold gat
 rw [aM,aO hi]
 exact h _ (fK hi)
def gp (g:Wi):Sd.Gp:=(g.1,g.2.1,g.2.2.toNat)
theorem Eu {l:List Int} (h:l ≠ []):vL [.tuple (l.map .int)]=some (.int (mx l)):=by
 cases l with
 | nil=>exact absurd rfl h
 | cons x r =>
  show (match dh ((x :: r).map .int) with | some (i :: r)=>some (PyData.int (mxI i r)) | _=>none)=_
  rw [vg]
  rfl
def stN (row:List Int) (g:Wi):List Nat:=(aX ((row.length:Int) - g.2.2 + 1).toNat).filter fun s=>decide (mx (sli row (s:Int) g.2.2) ≤ g.1)
theorem Jr {f:FE} {fl:FO} (h:f δ=some (.tuple l)) (h1:fl δ=some lo) (h2:fh δ=some hi) (hf:flats l=true):yU f fl fh δ=some (.tuple (cutD l lo hi)):=by
 unfold yU
 rw [h,aK,h1,aK,h2,aK]
 dsimp only
 rw [if_pos hf]
theorem Hg (hg:1 ≤ g.2.2) (hg2:g.2.2 ≤ 6) (hl:row.length ≤ 1000):lG [rwD row,wiD g]=some (.list ((stN row g).map fun s:Nat=>PyData.int (s:Int))):=by
 have i0:gIx (wiD g) (.int 0)=some (.int g.1):=rfl
 have i2:gIx (wiD g) (.int 2)=some (.int g.2.2):=rfl
 have C:=O4 (g:=(gNl 0)) (c:=(cI (dOp gLe (dCall vL (aF (yU (aD 2) (eX (aD 0)) (eX (dOp eV (aD 0) (dOp gIx (aD 1) (dC (.int 2)))))) (bw))) (dOp gIx (aD 1) (dC (.int 0)))))) (e:=(i_ (aD 0))) (δ:=[none,some (.d (wiD g)),some (.d (rwD row))]) (fun s:Nat=>PyData.int (s:Int)) (fun s=>decide (mx (sli row (s:Int) g.2.2) ≤ g.1)) (fun s:Nat=>PyData.int (s:Int)) (aX ((row.length:Int) - g.2.2 + 1).toNat) (fun s hs=>by
  have hs:=bO.mp hs
  have c1:(s:Int) ≤ (row.length:Int) - g.2.2:=by omega
  refine ⟨[some (.d (.int (s:Int))),some (.d (wiD g)),some (.d (rwD row))],rfl,?_,fun _=>rfl⟩
  have sl:yU (aD 2) (eX (aD 0)) (eX (dOp eV (aD 0) (dOp gIx (aD 1) (dC (.int 2))))) [some (.d (.int (s:Int))),some (.d (wiD g)),some (.d (rwD row))]=some (.tuple ((sli row (s:Int) g.2.2).map .int)):=by
   rw [Jr (l:=row.map .int) (lo:=some (s:Int)) (hi:=some ((s:Int) + g.2.2)) rfl rfl rfl (qy _),Jp (by omega) c1 hg]
  simp only [EV,reduceIte,ao,aq,aj,ak,au,aA,aB,sl,Eu (Hf (by omega) c1 hg),i0])
 have ca:∀ a b c:Option U,iw 1 [1,0] [a,b,c]=[none,b,a]:=fun _ _ _=>rfl
 have rg:∀ k:Int,-(2 ^ 62) ≤ k→k < 2 ^ 62→vN (some [.int k])=some ((aX k.toNat).map fun s:Nat=>PyData.int (s:Int)):=fun k h1 h2=>by
  rw [Ku h1 h2]
  unfold jy
  rw [p7]
  congr 1
  exact dU fun s _=>by rw [jU]
 have ln:jj [rwD row]=some (.int (row.length:Int)):=by
  show some (PyData.int ((row.map PyData.int).length:Int))=_
  rw [aC]
 have rg:=rg ((row.length:Int) - g.2.2 + 1) (by omega) (by omega)
 have ll:((aX ((row.length:Int) - g.2.2 + 1).toNat).map fun s:Nat=>PyData.int (s:Int)).length ≤ 100000:=by
  rw [aC,bY]
  omega
 unfold lG
 simp only [EV,reduceIte,ao,aq,aj,ak,au,aA,aB,ln,i2,ca,rg,C,ll]
 rfl
def nbI (g:Wi) (e:Int) (b:Bool):Int:=if b=true then g.2.1 else if e ≤ g.1 then 0 else e
theorem Ae (g:Wi) (e:Int) (b:Bool):fj [.int e,wiD g,.bool b]=some (.int (nbI g e b)):=by
 have i0:gIx (wiD g) (.int 0)=some (.int g.1):=rfl
 have i1:gIx (wiD g) (.int 1)=some (.int g.2.1):=rfl
 show Com.fj _=_
 unfold Com.fj nbI
 cases b with
 | true =>
  simp only [EV,reduceIte,ao,aq,aj,ak,au,aA,aB,i1]
 | false =>
  by_cases c:e ≤ g.1
  ·simp only [EV,reduceIte,ao,aq,aj,ak,au,aA,aB,i0,dTr c]
   rw [if_neg (by decide),if_pos c]
  ·simp only [EV,reduceIte,ao,aq,aj,ak,au,aA,aB,i0,dFa c]
   rw [if_neg (by decide),if_neg c]
theorem Hh {s:Nat} (hg:1 ≤ g.2.2) (hg2:g.2.2 ≤ 6) (hl:row.length ≤ 1000):iT [rwD row,wiD g,.int (s:Int)]=some (rwD (Sd.put row (gp g) s)):=by
 have i2:gIx (wiD g) (.int 2)=some (.int g.2.2):=rfl
 have en:pN (row.map .int)=(aX row.length).map fun k:Nat=>PyData.tuple [.int (k:Int),.int (row.getD k 0)]:=KC row
 have fe:GQ (aD 0) [some (.d (rwD row)),some (.d (wiD g)),some (.d (.int (s:Int))),some (.d (.int ((s:Int) + g.2.2)))]=some ((aX row.length).map fun k:Nat=>PyData.tuple [.int (k:Int),.int (row.getD k 0)]):=by
  rw [← en]
  rfl
 have C:=q_ (g:=(gTn 2 (d7 (gNl 0) (d7 (gNl 1) (nF))))) (c:=(D3.jx)) (e:=(dCall fj (aF (aD 1) (aF (aD 2) (aF (oE gLe gLt (aD 3) (aD 0) (aD 4)) (bw)))))) (δ:=[none,none,some (.d (wiD g)),some (.d (.int (s:Int))),some (.d (.int ((s:Int) + g.2.2)))]) (fun k:Nat=>PyData.tuple [.int (k:Int),.int (row.getD k 0)]) (fun k:Nat=>PyData.int (Sd.cell (gp g) s k (row.getD k 0))) (aX row.length) (fun k hk=>by
  refine ⟨[some (.d (.int (k:Int))),some (.d (.int (row.getD k 0))),some (.d (wiD g)),some (.d (.int (s:Int))),some (.d (.int ((s:Int) + g.2.2)))],rfl,rfl,?_⟩
  have cl:∀ b:Bool,(b=true↔s ≤ k∧k < s + g.2.2.toNat)→nbI g (row.getD k 0) b=Sd.cell (gp g) s k (row.getD k 0):=fun b hb=>by
   unfold nbI Sd.cell gp
   dsimp only
   by_cases c:s ≤ k∧k < s + g.2.2.toNat
   ·rw [if_pos (hb.mpr c),if_pos c]
   ·rw [if_neg (fun z=>c (hb.mp z)),if_neg c]
  by_cases c1:(s:Int) ≤ (k:Int)
  ·rw [← cl (decide ((k:Int) < (s:Int) + g.2.2)) (by rw [decide_eq_true_iff];omega)]
   simp only [EV,reduceIte,ao,aq,aj,ak,au,aA,aB,dTr c1,Ae]
  ·rw [← cl false (by constructor <;> intro z;cases z;omega)]
   simp only [EV,reduceIte,ao,aq,aj,ak,au,aA,aB,dFa c1,Ae])
 have ca:∀ a b c d:Option U,iw 2 [1,2,3] [a,b,c,d]=[none,none,b,c,d]:=fun _ _ _ _=>rfl
 have pu:Sd.put row (gp g) s=(aX row.length).map fun k=>Sd.cell (gp g) s k (row.getD k 0):=by
  unfold Sd.put
  apply pH
  ·simp
  ·intro k h1 h2
   have h1:k < row.length:=by simpa using h1
   rw [List.getElem_mapIdx,mF,sY,aM,aO h1]
   rfl
 have ll:((aX row.length).map fun k:Nat=>PyData.tuple [.int (k:Int),.int (row.getD k 0)]).length ≤ 100000:=by
  rw [aC,bY];omega
 unfold iT
 simp only [EV,reduceIte,ao,aq,aj,ak,au,aA,aB,i2,fe,ca,C,ll,pD]
 rw [pu]
 unfold rwD
 rw [fO]
 rfl
def yV (g:Wi) (row:List Int) (S:List Tte) (ss:List Nat):List Tte:=ss.foldl (fun S s=>qw S (Sd.put row (gp g) s) (row,(s:Int))) S
def sI (g:Wi) (rows:List (List Int)) (S:List Tte):List Tte:=rows.foldl (fun S row=>yV g row S (stN row g)) S
theorem Ew (S:List Tte) (k:List Int) (v:List Int × Int):(qw S k v).length ≤ S.length + 1:=by
 unfold qw
 split <;> simp
theorem Ey (g:Wi) (row:List Int):∀ (ss:List Nat) (S:List Tte),(yV g row S ss).length ≤ S.length + ss.length
 | [],S=>aL _
 | s :: ss,S=>by
  have h1:=Ey g row ss (qw S (Sd.put row (gp g) s) (row,(s:Int)))
  have h2:=Ew S (Sd.put row (gp g) s) (row,(s:Int))
  show (yV g row (qw S (Sd.put row (gp g) s) (row,(s:Int))) ss).length ≤ _
  rw [bM]
  omega
theorem Cg (row:List Int) (g:Wi) (hg:1 ≤ g.2.2):(stN row g).length ≤ row.length:=by
 unfold stN
 refine bh (qQ _ _) ?_
 rw [bY]
 omega
theorem oM {g:FG} {b:FS} {r:List D} {δ1:DS} (h1:g d δ=some δ1) (h2:b δ1=some (.nx δ')):jD g b (d :: r) δ=jD g b r δ':=by
 rw [jD,h1,aK,h2]
 rfl
theorem Ci (k:List Int):yR (rwD k)=some k:=nQ k
theorem Tf (v:List Int × Int):J_ (ttV v)=some v:=by
 show (dh (v.1.map PyData.int)).map (·,v.2)=_
 rw [nQ]
 rfl
theorem Tg {fv:FE} {k:List Int} {v:List Int × Int} (h0:aD i δ=some (dtt S)) (h1:fk δ=some (rwD k)) (h2:fv δ=some (ttV v)) (hl:S.length < 1000000):u6 i fk fv δ=some (.nx (δ.set i (some (.d (dtt (qw S k v)))))):=by
 unfold u6
 rw [h0,aK,h1,aK,h2,aK,M7,aK,Ci,aK,Tf,aK,if_pos hl]
theorem yp (hg:1 ≤ g.2.2) (hg2:g.2.2 ≤ 6) (hl:row.length ≤ 1000) (a:Option U):∀ (ss:List Nat) (S:List Tte) (u:Option U),S.length + ss.length < 1000000 →
 ∃ u',jD (gNl 4) (u6 2 (dCall iT (aF (aD 3) (aF (aD 1) (aF (aD 4) (bw))))) (dTup (aF (aD 3) (aF (aD 4) (bw))))) (ss.map fun s:Nat=>PyData.int (s:Int)) [a,some (.d (wiD g)),some (.d (dtt S)),some (.d (rwD row)),u]=some (.nx [a,some (.d (wiD g)),some (.d (dtt (yV g row S ss))),some (.d (rwD row)),u'])
 | [],S,u,_=>⟨u,rfl⟩
 | s :: ss,S,u,hS=>by
  rw [bM] at hS
  have b:=Hh (row:=row) (g:=g) (s:=s) hg hg2 hl
  have h1:(dCall iT (aF (aD 3) (aF (aD 1) (aF (aD 4) (bw))))) [a,some (.d (wiD g)),some (.d (dtt S)),some (.d (rwD row)),some (.d (.int (s:Int)))]=some (rwD (Sd.put row (gp g) s)):=by
   simp only [EV,reduceIte,ao,aq,aj,ak,au,aA,aB,b]
  have h2:(dTup (aF (aD 3) (aF (aD 4) (bw)))) [a,some (.d (wiD g)),some (.d (dtt S)),some (.d (rwD row)),some (.d (.int (s:Int)))]=some (ttV (row,(s:Int))):=by
   simp only [EV,reduceIte,ao,aq,aj,ak,au,aA,aB,Com.sz (show 2 ≤ 1000000 by decide)]
   rfl
  have st:=Tg (i:=2) (S:=S) rfl h1 h2 (by omega)
  have dl:=Ew S (Sd.put row (gp g) s) (row,(s:Int))
  obtain ⟨u',e⟩:=yp hg hg2 hl a ss (qw S (Sd.put row (gp g) s) (row,(s:Int))) (some (.d (.int (s:Int)))) (by omega)
  exact ⟨u',(oM rfl st).trans e⟩
noncomputable abbrev W5:=rB (rC (dCall lG (aF (aD 3) (aF (aD 1) (bw))))) (gNl 4) (u6 2 (dCall iT (aF (aD 3) (aF (aD 1) (aF (aD 4) (bw))))) (dTup (aF (aD 3) (aF (aD 4) (bw)))))
theorem yq (hg:1 ≤ g.2.2) (hg2:g.2.2 ≤ 6) (a:Option U):∀ (rows:List (List Int)) (S:List Tte) (u v:Option U),(∀ r ∈ rows,r.length ≤ 100)→S.length + 100 * rows.length < 1000000 →
 ∃ u' v',jD (gNl 3) W5 (rows.map rwD) [a,some (.d (wiD g)),some (.d (dtt S)),u,v]=some (.nx [a,some (.d (wiD g)),some (.d (dtt (sI g rows S))),u',v'])
 | [],S,u,v,_,_=>⟨u,v,rfl⟩
 | row :: rows,S,u,v,hr,hS=>by
  rw [bM] at hS
  have rl:=hr row aJ
  have st:=Hg (row:=row) (g:=g) hg hg2 (by omega)
  have sl:=Cg row g hg
  obtain ⟨u',e⟩:=yp (g:=g) (row:=row) hg hg2 (by omega) a (stN row g) S v (by omega)
  have il:=Ey g row (stN row g) S
  have ll:((stN row g).map fun s:Nat=>PyData.int (s:Int)).length ≤ 100000:=by rw [aC];omega
  have b1:W5 [a,some (.d (wiD g)),some (.d (dtt S)),some (.d (rwD row)),v]=some (.nx [a,some (.d (wiD g)),some (.d (dtt (yV g row S (stN row g)))),some (.d (rwD row)),u']):=by
   simp only [EV,reduceIte,ao,aq,aj,ak,au,aA,aB,st]
   exact e
  obtain ⟨u2,v2,e2⟩:=yq hg hg2 a rows (yV g row S (stN row g)) (some (.d (rwD row))) u' (fun r h=>hr r (aH _ h)) (by omega)
  exact ⟨u2,v2,(oM rfl b1).trans e2⟩
theorem Pb (hg:1 ≤ g.2.2) (hg2:g.2.2 ≤ 6) (hr:∀ r ∈ rows,r.length ≤ 100) (hl:rows.length ≤ 1000):iY [.list (rows.map rwD),wiD g]=some (dtt (sI g rows [])):=by
 obtain ⟨u,v,e⟩:=yq (g:=g) hg hg2 (some (.d (.list (rows.map rwD)))) rows [] none none hr (by simp;omega)
 have e:jD (gNl 3) W5 (rows.map rwD) [some (.d (.list (rows.map rwD))),some (.d (wiD g)),some (.d (.dict [])),none,none]=some (.nx [some (.d (.list (rows.map rwD))),some (.d (wiD g)),some (.d (dtt (sI g rows []))),u,v]):=e
 have ll:(rows.map rwD).length ≤ 100000:=by rw [aC];omega
 unfold iY
 simp only [EV,reduceIte,ao,aq,aj,ak,au,aA,aB]
 rw [e]
 simp only [EV,reduceIte,ao,aq,aj,ak,au,aA,aB]
def iU (S:List Tte):List (List Int):=S.map (·.1)
theorem Pg (S:List Tte):oH (dtt S)=some (iU S):=by
 show (match vY (ttP S) with | some S'=>some (kE (fun q:Tte=>q.1) S') | none=>tsD (ttP S))=_
 rw [Bt]
 rfl
theorem KH (ks:List (List Int)):(XJ.nu ks).Perm (aX ks.length):=by
 unfold XJ.nu
 split
 ·exact .refl _
 ·exact XS.fZ (n:=ks.length) (by omega) (XJ.ltR ks)
theorem oN (ks:List (List Int)):(XJ.iz ks).Perm ks:=by
 unfold XJ.iz
 refine ((KH ks).map _).trans ?_
 have:(aX ks.length).map (fun i=>ks.getD i [])=ks:=by
  apply pH
  ·simp
  ·intro i h1 h2
   simp [h2]
 rw [this]
theorem Cj (h:i < gs.length):pAt (gs.map wiD) (i:Int)=some (wiD (gat gs i)):=by
 rw [O_ wiD (0,0,0) (by omega) (by omega)]
 rfl
def gOk (g:Wi):Prop:=1 ≤ g.2.2∧g.2.2 ≤ 6
theorem Js:pAt (l++[d]) (-1)=some d:=by
 unfold pAt pIx
 simp
 rw [if_pos (by omega),aK,show (-1 + ((l.length:Int) + 1)).toNat=l.length by omega,cD (aL _)]
 simp
theorem Af {k:List Int}:yS S k=none↔k ∉ iU S:=by
 unfold yS iU
 rw [Option.map_eq_none_iff,sW]
 constructor
 ·intro h z
  obtain ⟨q,hq,e⟩:=bT.mp z
  exact h q hq (by simp [e])
 ·intro h q hq z
  exact h (bT.mpr ⟨q,hq,of_decide_eq_true z⟩)
theorem wI {k:List Int} {v:List Int × Int}:(k ∈ iU S∧qw S k v=S)∨(k ∉ iU S∧qw S k v=S++[(k,v)]):=by
 unfold qw
 by_cases h:k ∈ iU S
 ·refine .inl ⟨h,if_pos ?_⟩
  cases e:yS S k with
  | none=>exact absurd h (Af.mp e)
  | some _=>rfl
 ·refine .inr ⟨h,if_neg ?_⟩
  rw [Af.mpr h]
  decide
theorem Ph {k:List Int} {v:List Int × Int} {q:Tte} (h:q ∈ S):q ∈ qw S k v:=by
 rcases wI (S:=S) (k:=k) (v:=v) with ⟨_,e⟩ | ⟨_,e⟩ <;> rw [e]
 ·exact h
 ·exact cC _ h
theorem Pj {k:List Int} {v:List Int × Int} {q:Tte} (h:q ∈ qw S k v):q ∈ S∨q=(k,v):=by
 rcases wI (S:=S) (k:=k) (v:=v) with ⟨_,e⟩ | ⟨_,e⟩ <;> rw [e] at h
 ·exact .inl h
 ·rcases bK.mp h with h | h
  ·exact .inl h
  ·exact .inr (aN.mp h)
theorem Pk (S:List Tte) (k:List Int) (v:List Int × Int):k ∈ iU (qw S k v):=by
 rcases wI (S:=S) (k:=k) (v:=v) with ⟨h,e⟩ | ⟨_,e⟩ <;> rw [e]
 ·exact h
 ·exact bT.mpr ⟨_,bQ _ (eN _),rfl⟩
theorem Ti {k:List Int} {v:List Int × Int} (h:(iU S).Nodup):(iU (qw S k v)).Nodup:=by
 rcases wI (S:=S) (k:=k) (v:=v) with ⟨_,e⟩ | ⟨hk,e⟩ <;> rw [e]
 ·exact h
 ·unfold iU at h hk ⊢
  rw [cT,oV]
  refine ⟨h,by simp,fun a ha b hb=>?_⟩
  rw [show b=k by simpa using hb]
  intro z
  exact hk (z ▸ ha)
section
variable {g:Wi}
theorem yr {q:Tte}:∀ (ss:List Nat) (S:List Tte),q ∈ S→q ∈ yV g row S ss
 | [],_,h=>h
 | _ :: ss,_,h=>yr ss _ (Ph h)
theorem Ez {q:Tte}:∀ (ss:List Nat) (S:List Tte),q ∈ yV g row S ss→q ∈ S∨∃ s ∈ ss,q=(Sd.put row (gp g) s,(row,(s:Int)))
 | [],_,h=>.inl h
 | s :: ss,S,h=>by
  rcases Ez ss _ h with h | ⟨t,ht,e⟩
  ·rcases Pj h with h | h
   ·exact .inl h
   ·exact .inr ⟨s,aJ,h⟩
  ·exact .inr ⟨t,aH _ ht,e⟩
theorem EY:∀ (ss:List Nat) (S:List Tte),∀ s ∈ ss,Sd.put row (gp g) s ∈ iU (yV g row S ss)
 | [],_,s,h=>by cases h
 | t :: ss,S,s,h=>by
  rcases aZ.mp h with rfl | h
  ·obtain ⟨q,hq,e⟩:=bT.mp (Pk S (Sd.put row (gp g) s) (row,(s:Int)))
   exact bT.mpr ⟨q,yr ss _ hq,e⟩
  ·exact EY ss _ s h
theorem Jt:∀ (ss:List Nat) (S:List Tte),(iU S).Nodup→(iU (yV g row S ss)).Nodup
 | [],_,h=>h
 | _ :: ss,_,h=>Jt ss _ (Ti h)
theorem E_ {q:Tte}:∀ (rows:List (List Int)) (S:List Tte),q ∈ S→q ∈ sI g rows S
 | [],_,h=>h
 | _ :: rows,_,h=>E_ rows _ (yr _ _ h)
theorem Fb {q:Tte}:∀ (rows:List (List Int)) (S:List Tte),q ∈ sI g rows S→q ∈ S∨∃ row ∈ rows,∃ s ∈ stN row g,q=(Sd.put row (gp g) s,(row,(s:Int)))
 | [],_,h=>.inl h
 | row :: rows,S,h=>by
  rcases Fb rows _ h with h | ⟨r,hr,z⟩
  ·rcases Ez _ _ h with h | z
   ·exact .inl h
   ·exact .inr ⟨row,aJ,z⟩
  ·exact .inr ⟨r,aH _ hr,z⟩
theorem Fd:∀ (rows:List (List Int)) (S:List Tte),∀ row ∈ rows,∀ s ∈ stN row g,Sd.put row (gp g) s ∈ iU (sI g rows S)
 | [],_,_,h,_,_=>by cases h
 | r :: rows,S,row,h,s,hs=>by
  rcases aZ.mp h with rfl | h
  ·obtain ⟨q,hq,e⟩:=bT.mp (EY (stN row g) S s hs)
   exact bT.mpr ⟨q,E_ rows _ hq,e⟩
  ·exact Fd rows _ row h s hs
theorem Ju:∀ (rows:List (List Int)) (S:List Tte),(iU S).Nodup→(iU (sI g rows S)).Nodup
 | [],_,h=>h
 | _ :: rows,_,h=>Ju rows _ (Jt _ _ h)
theorem Zf {l:List Int} (h:l ≠ []) {z:Int}:mx l ≤ z↔∀ x ∈ l,x ≤ z:=by
 cases l with
 | nil=>exact absurd rfl h
 | cons a r =>
  have sp:=xg r a
  constructor
  ·intro hz x hx
   have:=sp.2 x hx
   show x ≤ z
   have hz:mxI a r ≤ z:=hz
   omega
  ·exact fun hz=>hz _ sp.1
theorem Jw {s:Nat} (hg:gOk g):s ∈ stN row g↔Sd.fits row (gp g) s:=by
 have g1:=hg.1
 unfold stN Sd.fits gp
 dsimp only
 rw [fB,bO,decide_eq_true_iff]
 have sl:∀ (c:(s:Int) ≤ (row.length:Int) - g.2.2),(mx (sli row (s:Int) g.2.2) ≤ g.1↔∀ r,s ≤ r→r < s + g.2.2.toNat→row.getD r 0 ≤ g.1):=fun c=>by
  rw [Zf (Hf (by omega) c g1)]
  unfold sli
  rw [show ((s:Int)).toNat=s by omega]
  constructor
  ·intro h r h1 h2
   refine h _ ?_
   rw [qW]
   refine ⟨r - s,?_⟩
   rw [tu,if_pos (by omega),eE,show s + (r - s)=r by omega,aM,aO (by omega)]
   rfl
  ·intro h x hx
   obtain ⟨j,hj⟩:=qW.mp hx
   rw [tu] at hj
   by_cases c2:j < g.2.2.toNat
   ·rw [if_pos c2,eE] at hj
    have:=h (s + j) (by omega) (by omega)
    rw [aM,hj] at this
    exact this
   ·rw [if_neg c2] at hj;cases hj
 constructor
 ·rintro ⟨h1,h2⟩
  have c:(s:Int) ≤ (row.length:Int) - g.2.2:=by omega
  exact ⟨by omega,(sl c).mp h2⟩
 ·rintro ⟨h1,h2⟩
  have c:(s:Int) ≤ (row.length:Int) - g.2.2:=by omega
  exact ⟨by omega,(sl c).mpr h2⟩
end
theorem Pn {S:List (List Int)} {k x:List Int}:x ∈ jc S k↔x ∈ S∨x=k:=by
 unfold jc
 split
 ·rename_i h
  exact ⟨.inl,fun z=>z.elim id fun e=>e ▸ h⟩
 ·simp
theorem vm:∀ (ks S:List (List Int)) (x:List Int),x ∈ ks.foldl jc S↔x ∈ S∨x ∈ ks
 | [],S,x=>by simp
 | k :: ks,S,x=>by
  rw [iG,vm ks,Pn,aZ]
  constructor
  ·rintro ((h | h) | h)
   ·exact .inl h
   ·exact .inr (.inl h)
   ·exact .inr (.inr h)
  ·rintro (h | h | h)
   ·exact .inl (.inl h)
   ·exact .inl (.inr h)
   ·exact .inr h
theorem Fe (T:List (List Int)):oH (dsT T)=some T:=by
 unfold dsT oH
 dsimp only
 cases T with
 | nil=>rfl
 | cons k T =>
  have:vY ((k :: T).map fun k=>((.tuple (k.map .int),.bool true):D × D))=none:=rfl
  rw [this]
  exact uE (k :: T)
theorem Jx:∀ rows:List (List Int),rpD (rows.map fun r=>PyData.tuple [rwD r,.bool true])=some rows
 | []=>rfl
 | r :: rows=>by
  show (dh (r.map PyData.int)).bind (fun k=>(rpD (rows.map fun r=>PyData.tuple [rwD r,.bool true])).map (k :: ·))=_
  rw [nQ,aK,Jx rows]
  rfl
theorem Tj (hl:rows.length ≤ 1000) (sl:S.length ≤ 1000):mU [.list (rows.map rwD),dtt S]=some (.bool ((iU S).all fun k=>decide (k ∈ rows))):=by
 have C1:=q_ (g:=(gNl 0)) (c:=(D3.jx)) (e:=(i_ (dTup (aF (aD 0) (aF (dC (.bool true)) (bw)))))) (δ:=[none]) rwD (fun r=>PyData.tuple [rwD r,.bool true]) rows (fun r _=>by
  refine ⟨[some (.d (rwD r))],rfl,rfl,?_⟩
  have fl:flat (PyData.tuple [rwD r,.bool true])=true:=by
   show (flats (r.map PyData.int) && true)=true
   rw [qy]
   rfl
  simp only [EV,reduceIte,ao,aq,aj,ak,au,aA,aB,Com.sz (show 2 ≤ 1000000 by decide),fl])
 have ca:∀ a b c:Option U,iw 1 [] [a,b,c]=[none]:=fun _ _ _=>rfl
 have gd:xT [.list (rows.map fun r=>PyData.tuple [rwD r,.bool true])]=some (dsT (rows.foldl jc [])):=by
  unfold xT
  dsimp only
  rw [Jx,aK,if_pos (by rw [aC];exact hl)]
 have C2:=q_ (g:=(gNl 0)) (c:=(D3.jx)) (e:=(dOp Ec (aD 0) (aD 1))) (δ:=[none,some (.d (dsT (rows.foldl jc [])))]) rwD (fun k=>PyData.bool (decide (k ∈ rows))) (iU S) (fun k _=>by
  refine ⟨[some (.d (rwD k)),some (.d (dsT (rows.foldl jc [])))],rfl,rfl,?_⟩
  have gi:Ec (rwD k) (dsT (rows.foldl jc []))=some (.bool (decide (k ∈ rows))):=by
   unfold Ec
   rw [Fe,aK,Ci]
   show some (PyData.bool (decide (k ∈ rows.foldl jc [])))=_
   congr 2
   rw [decide_eq_decide,vm]
   simp
  simp only [EV,reduceIte,ao,aq,aj,ak,au,aA,aB,gi])
 have cb:∀ a b c:Option U,iw 1 [2] [a,b,c]=[none,c]:=fun _ _ _=>rfl
 have fr:M8 (aD 1) [some (.d (.list (rows.map rwD))),some (.d (dtt S)),some (.d (dsT (rows.foldl jc [])))]=some ((iU S).map rwD):=by
  show (oH (dtt S)).map _=_
  rw [Pg]
  rfl
 have l1:(rows.map rwD).length ≤ 100000:=by rw [aC];omega
 have l2:((iU S).map rwD).length ≤ 100000:=by unfold iU;rw [aC,aC];omega
 have ab:uQ [.list ((iU S).map fun k=>PyData.bool (decide (k ∈ rows)))]=some (.bool ((iU S).all fun k=>decide (k ∈ rows))):=by
  have:∀ l:List (List Int),gF (l.map fun k=>PyData.bool (decide (k ∈ rows)))=some (l.map fun k=>decide (k ∈ rows)):=fun l=>by
   induction l with
   | nil=>rfl
   | cons a r ih=>rw [aP,gF,ih];rfl
  show (gF _).map _=_
  rw [this]
  simp [List.all_map]
 unfold mU
 simp only [EV,reduceIte,ao,aq,aj,ak,au,aA,aB,l1,ca,C1,gd,fr,l2,cb,C2,ab]
theorem Pq {r:List Int} (hl:r.length ≤ 1000):iR [rwD r]=some (.bool true):=by
 have C:=q_ (g:=(gNl 0)) (c:=(D3.jx)) (e:=(dCall eY (aF (aD 0) (bw)))) (δ:=[none]) PyData.int (fun _=>.bool true) r (fun x _=>by
  refine ⟨[some (.d (.int x))],rfl,rfl,?_⟩
  have w:=wh (.int x)
  have w:eY [.int x]=some (.bool true):=w
  simp only [EV,reduceIte,ao,aq,aj,ak,au,aA,aB,w])
 have ca:∀ a:Option U,iw 1 [] [a]=[none]:=fun _=>rfl
 have fs:uY (aD 0) [some (.d (rwD r))]=some (r.map .int):=rfl
 have ll:(r.map PyData.int).length ≤ 100000:=by rw [aC];omega
 have ab:uQ [.list (r.map fun _=>PyData.bool true)]=some (.bool true):=by
  have:∀ l:List Int,gF (l.map fun _=>PyData.bool true)=some (l.map fun _=>true):=fun l=>by
   induction l with
   | nil=>rfl
   | cons a r ih=>rw [aP,gF,ih];rfl
  show (gF _).map _=_
  rw [this]
  simp
 unfold iR
 simp only [EV,reduceIte,ao,aq,aj,ak,au,aA,aB,fs,ll,ca,C,ab]
theorem W6 {r:List Int} (hl:r.length ≤ 1000):dg [rwD r,.int (r.length:Int)]=some (.bool true):=by
 have ty:D3.isT "tuple" (tyD (rwD r))=true:=isTup
 have ln:jj [rwD r]=some (.int (r.length:Int)):=by
  show some (PyData.int ((r.map PyData.int).length:Int))=_
  rw [aC]
 have d:decide ((r.length:Int)=(r.length:Int))=true:=by simp
 unfold dg
 simp only [EV,reduceIte,ao,aq,aj,ak,au,aA,aB,ty,ln,d,Pq hl]
noncomputable abbrev Zg:=dCall dg (aF (aD 0) (aF (aD 1) (bw)))
theorem Fg {w:Nat} (hw:∀ r ∈ rows,r.length=w) (wl:w ≤ 1000) (hl:rows.length ≤ 1000):dM [.list (rows.map rwD),.int (w:Int)]=some (.bool true):=by
 have C:=q_ (g:=(gNl 0)) (c:=(D3.jx)) (e:=Zg) (δ:=[none,some (.d (.int (w:Int)))]) rwD (fun _=>.bool true) rows (fun r hr=>by
  refine ⟨[some (.d (rwD r)),some (.d (.int (w:Int)))],rfl,rfl,?_⟩
  have t:=W6 (r:=r) (by rw [hw r hr];exact wl)
  rw [hw r hr] at t
  simp only [EV,reduceIte,ao,aq,aj,ak,au,aA,aB,t])
 have ca:∀ a b:Option U,iw 1 [1] [a,b]=[none,b]:=fun _ _=>rfl
 have ty:D3.isT "list" (tyD (.list (rows.map rwD)))=true:=(by decide:D3.isT "list" "list" = true)
 have ll:(rows.map rwD).length ≤ 100000:=by rw [aC];omega
 have ab:uQ [.list (rows.map fun _=>PyData.bool true)]=some (.bool true):=by
  have:∀ l:List (List Int),gF (l.map fun _=>PyData.bool true)=some (l.map fun _=>true):=fun l=>by
   induction l with
   | nil=>rfl
   | cons a r ih=>rw [aP,gF,ih];rfl
  show (gF _).map _=_
  rw [this]
  simp
 unfold dM
 simp only [EV,reduceIte,ao,aq,aj,ak,au,aA,aB,ty,ll,ca,C,ab]
def yt (gs:List Wi):List (List Int)→List Nat→List (List (List Int))→Bool
 | ah,t :: ts,R :: Rs=>((iU (sI (gat gs t) ah [])).all fun k=>decide (k ∈ R)) && yt gs R ts Rs
 | _,_,_=>true
def rlD (R:List (List Int)):D:=.list (R.map rwD)
noncomputable abbrev Tp:=cF (sIf (D3.mH (cI (dCall mU (aF (aD 5) (aF (dCall iY (aF (aD 3) (aF (dOp gIx (aD 1) (aD 4)) (bw)))) (bw)))))) (fJ (dC (.bool false))) (iK)) (b_ 3 (aD 5))
theorem Ag (hg:∀ g ∈ gs,gOk g) (a b:Option U):∀ (ts:List Nat) (Rs:List (List (List Int))) (ah:List (List Int)) (u v:Option U),(∀ t ∈ ts,t < gs.length)→ah.length ≤ 1000→(∀ r ∈ ah,r.length ≤ 100)→(∀ R ∈ Rs,R.length ≤ 1000∧∀ r ∈ R,r.length ≤ 100)→(∀ t ∈ ts,∀ ah',(ah'=ah∨ah' ∈ Rs)→(sI (gat gs t) ah' []).length ≤ 1000) →
 (yt gs ah ts Rs=true∧∃ δ',jD (gTn 2 (d7 (gNl 4) (d7 (gNl 5) (nF)))) Tp ((ts.zip Rs).map fun q=>PyData.tuple [.int (q.1:Int),rlD q.2]) [a,some (.d (.list (gs.map wiD))),b,some (.d (rlD ah)),u,v]=some (.nx δ')) ∨
 (yt gs ah ts Rs=false∧jD (gTn 2 (d7 (gNl 4) (d7 (gNl 5) (nF)))) Tp ((ts.zip Rs).map fun q=>PyData.tuple [.int (q.1:Int),rlD q.2]) [a,some (.d (.list (gs.map wiD))),b,some (.d (rlD ah)),u,v]=some (.rt (.bool false)))
 | [],Rs,ah,u,v,_,_,_,_,_=>.inl ⟨by unfold yt;rfl,_,by simp only [List.zip_nil_left,iI];exact rfl⟩
 | _ :: _,[],ah,u,v,_,_,_,_,_=>.inl ⟨by unfold yt;rfl,_,by simp only [List.zip_nil_right,iI];exact rfl⟩
 | t :: ts,R :: Rs,ah,u,v,ht,hl,hr,hR,hS=>by
  have tl:=ht t aJ
  have gk:gOk (gat gs t):=by
   unfold gat
   rw [aM,aO tl]
   exact hg _ (fK tl)
  have rb:iY [rlD ah,wiD (gat gs t)]=_:=Pb (g:=gat gs t) (rows:=ah) gk.1 gk.2 hr hl
  have ha:mU [rlD R,dtt (sI (gat gs t) ah [])]=_:=Tj (rows:=R) (S:=sI (gat gs t) ah []) (hR R aJ).1 (hS t aJ ah (.inl rfl))
  have ga:=Cj tl
  rw [List.zip_cons_cons,aP,yt]
  cases c:(iU (sI (gat gs t) ah [])).all fun k=>decide (k ∈ R) with
  | false =>
   rw [c] at ha
   refine .inr ⟨rfl,?_⟩
   have b1:Tp [a,some (.d (.list (gs.map wiD))),b,some (.d (rlD ah)),some (.d (.int (t:Int))),some (.d (rlD R))]=some (.rt (.bool false)):=by
    simp only [EV,reduceIte,ao,aq,aj,ak,au,aA,aB,ga,rb,ha]
   rw [jD,show (gTn 2 (d7 (gNl 4) (d7 (gNl 5) (nF)))) (PyData.tuple [.int (t:Int),rlD R]) [a,some (.d (.list (gs.map wiD))),b,some (.d (rlD ah)),u,v]=some [a,some (.d (.list (gs.map wiD))),b,some (.d (rlD ah)),some (.d (.int (t:Int))),some (.d (rlD R))] from rfl,aK,b1]
   rfl
  | true =>
   rw [c] at ha
   have b1:Tp [a,some (.d (.list (gs.map wiD))),b,some (.d (rlD ah)),some (.d (.int (t:Int))),some (.d (rlD R))]=some (.nx [a,some (.d (.list (gs.map wiD))),b,some (.d (rlD R)),some (.d (.int (t:Int))),some (.d (rlD R))]):=by
    simp only [EV,reduceIte,ao,aq,aj,ak,au,aA,aB,ga,rb,ha]
   have ih:=Ag hg a b ts Rs R (some (.d (.int (t:Int)))) (some (.d (rlD R))) (fun q hq=>ht q (aH _ hq)) (hR R aJ).1 (hR R aJ).2 (fun R' h'=>hR R' (aH _ h')) (fun q hq ah' h'=>hS q (aH _ hq) ah' (.inr (h'.elim (fun e=>e ▸ aJ) (aH _))))
   rw [gQ]
   rcases ih with ⟨e1,δ',e2⟩ | ⟨e1,e2⟩
   ·exact .inl ⟨e1,δ',(oM rfl b1).trans e2⟩
   ·exact .inr ⟨e1,(oM rfl b1).trans e2⟩
section
variable {gs:List Wi} {ts:List Nat} {hs:List Int} {Rs:List (List (List Int))}
theorem Hi:∀ (ts:List Nat) (Rs:List (List (List Int))),pC (ts.map fun t:Nat=>PyData.int (t:Int)) (Rs.map rlD)=(ts.zip Rs).map fun q=>PyData.tuple [.int (q.1:Int),rlD q.2]
 | [],_=>by simp [pC]
 | _ :: _,[]=>by simp [pC]
 | t :: ts,R :: Rs=>by
  show PyData.tuple [.int (t:Int),rlD R] :: pC (ts.map fun t:Nat=>PyData.int (t:Int)) (Rs.map rlD)=_
  rw [Hi ts Rs]
  rfl
noncomputable abbrev W7:=dCall dM (aF (aD 0) (aF (dCall jj (aF (aD 1) (bw))) (bw)))
theorem Pr (hg:∀ g ∈ gs,grOk g∧gOk g) (hl:gs.length < 64) (wl:hs.length ≤ 100) (ht:rZ [.list (gs.map wiD)]=some (.list (ts.map fun t:Nat=>PyData.int (t:Int)))) (pm:ts.Perm (aX gs.length))
 (h1:Rs.length < gs.length) (hw:∀ R ∈ Rs++[[]],R.length ≤ 1000∧∀ r ∈ R,r.length=hs.length) (hS:∀ t ∈ ts,∀ ah',(ah'=[hs]∨ah' ∈ Rs++[[]])→(sI (gat gs t) ah' []).length ≤ 1000) :
 fM [.list (hs.map .int),.list (gs.map wiD),.list ((Rs++[[]]).map rlD)]=some (.bool (yt gs [hs] ts (Rs++[[]]))):=by
 have ck:d8 [.list (gs.map wiD)]=some .none:=pW fun g h=>(hg g h).1
 have ty:D3.isT "list" (tyD (.list ((Rs++[[]]).map rlD)))=true:=(by decide:D3.isT "list" "list" = true)
 have L:=Ag (fun g h=>(hg g h).2) (some (.d (.list (hs.map .int)))) (some (.d (.list ((Rs++[[]]).map rlD)))) ts (Rs++[[]]) [hs] none none (fun t h=>bO.mp (pm.mem_iff.mp h)) (by simp) (fun r hr=>by rw [aN.mp hr];exact wl) (fun R h=>⟨(hw R h).1,fun r hr=>by rw [(hw R h).2 r hr];exact wl⟩) hS
 have c1:decide ((1:Int) ≤ (((Rs++[[]]).map rlD).length:Int))=true:=dTr (by simp;omega)
 have c2:decide ((((Rs++[[]]).map rlD).length:Int) ≤ ((gs.map wiD).length:Int))=true:=dTr (by simp;omega)
 have C:=q_ (g:=(gNl 0)) (c:=(D3.jx)) (e:=W7) (δ:=[none,some (.d (.list (hs.map .int)))]) rlD (fun _=>PyData.bool true) (Rs++[[]]) (fun R hR=>by
  refine ⟨[some (.d (rlD R)),some (.d (.list (hs.map .int)))],rfl,rfl,?_⟩
  have r:dM [rlD R,.int (hs.length:Int)]=some (.bool true):=Fg (hw R hR).2 (by omega) (hw R hR).1
  simp only [EV,reduceIte,ao,aq,aj,ak,au,aA,aB,lMp,r])
 have ca:∀ a b c d e f:Option U,iw 1 [0] [a,b,c,d,e,f]=[none,a]:=fun _ _ _ _ _ _=>rfl
 have ab:uQ [.list ((Rs++[[]]).map fun _=>PyData.bool true)]=some (.bool true):=by
  have:∀ l:List (List (List Int)),gF (l.map fun _=>PyData.bool true)=some (l.map fun _=>true):=fun l=>by
   induction l with
   | nil=>rfl
   | cons a r ih=>rw [aP,gF,ih];rfl
  show (gF _).map _=_
  rw [this]
  simp
 have ll:((Rs++[[]]).map rlD).length ≤ 100000:=by simp;omega
 have pe:pAt ((Rs++[[]]).map rlD) (-1)=some (rlD []):=by
  rw [cT]
  exact Js
 have ln:jj [rlD []]=some (.int 0):=rfl
 have d0:decide ((0:Int) > 0)=false:=rfl
 have rh:rlD [hs] = .list [.tuple (hs.map .int)]:=rfl
 rw [rh] at L
 unfold fM
 rcases L with ⟨e1,δ',e2⟩ | ⟨e1,e2⟩
 ·simp only [EV,reduceIte,ao,aq,aj,ak,au,aA,aB,ck,ty,c1,c2,ll,ca,C,ab,pe,ln,d0,pD,Com.sz (show 1 ≤ 1000000 by decide),ht,Hi,e2]
  rw [e1]
 ·simp only [EV,reduceIte,ao,aq,aj,ak,au,aA,aB,ck,ty,c1,c2,ll,ca,C,ab,pe,ln,d0,pD,Com.sz (show 1 ≤ 1000000 by decide),ht,Hi,e2]
  rw [e1]
end
open XS in
theorem Ul (f g:Nat→Int):∀ l:List Nat,DX (l.map fun k=>PyData.tuple [.int (f k),.int (g k)])=some (l.map fun k=>(f k,g k))
 | []=>rfl
 | a :: l=>by
  rw [aP,DX,Ul f g l]
  rfl
def tn (n:Nat) (f:Nat→Int):List Nat:=if n ≤ 1 then aX n else XS.m8 n fun i j=>decide (f i < f j)
theorem qz (n:Nat) (f:Nat→Int):(tn n f).Perm (aX n):=by
 unfold tn
 split
 ·exact .refl _
 ·exact XS.fZ (by omega) _
theorem Pu (hl:gs.length < 64):rZ [.list (gs.map wiD)]=some (.list ((tn gs.length fun t=>(gat gs t).1).map fun t:Nat=>PyData.int (t:Int))):=by
 have rl:jy 0 (gs.length:Int)=(aX gs.length).map fun p:Nat=>PyData.int (p:Int):=by
  unfold jy
  rw [show ((gs.length:Int) - 0).toNat=gs.length by omega]
  exact dU fun k _=>by rw [jU]
 have lr:xJ [.int (gs.length:Int)]=some (.list ((aX gs.length).map fun p:Nat=>PyData.int (p:Int))):=by
  rw [← rl]
  exact Rh (by omega) (by omega)
 have C2:jM (gNl 0) D3.jx XS.dK0 (iw 1 [0] [some (.d (.list (gs.map wiD)))]) ((aX gs.length).map fun p:Nat=>PyData.int (p:Int))=some (((aX gs.length).map fun t=>(gat gs t).1).map PyData.int):=by
  rw [fO]
  exact q_ (fun p:Nat=>PyData.int (p:Int)) (fun p:Nat=>PyData.int (gat gs p).1) _ fun p hp=>⟨[some (.d (.int (p:Int))),some (.d (.list (gs.map wiD)))],rfl,rfl,by
   show (pAt (gs.map wiD) (p:Int)).bind _=_
   rw [Cj (bO.mp hp)]
   rfl⟩
 have V:=XS.Km (l:=(aX gs.length).map fun p:Nat=>PyData.int (p:Int)) (k:=jM (gNl 0) D3.jx XS.dK0 (iw 1 [0] [some (.d (.list (gs.map wiD)))])) (by rw [aC,bY];exact hl) (by
  have:∀ l:List Nat,flats (l.map fun p:Nat=>PyData.int (p:Int))=true:=fun l=>by
   induction l with
   | nil=>rfl
   | cons _ _ ih=>rw [aP,flats,ih];rfl
  exact this _) C2 (vg _)
 have e:XS.sU ((aX gs.length).map fun p:Nat=>PyData.int (p:Int)) ((aX gs.length).map fun t=>(gat gs t).1)=(tn gs.length fun t=>(gat gs t).1).map fun t:Nat=>PyData.int (t:Int):=by
  unfold XS.sU tn
  rw [aC,bY]
  by_cases h1:gs.length ≤ 1
  ·rw [if_pos h1,if_pos h1]
  ·rw [if_neg h1,if_neg h1]
   have e1:XS.m8 gs.length (fun i j=>decide (((aX gs.length).map fun t=>(gat gs t).1).getD i 0 < ((aX gs.length).map fun t=>(gat gs t).1).getD j 0))=XS.m8 gs.length fun i j=>decide ((gat gs i).1 < (gat gs j).1):=by
    refine XS.yh XS.yg (by omega) (XS.fZ (by omega) _) ?_
    refine List.Pairwise.imp_of_mem ?_ (XS.tR XS.yg (by omega))
    intro i j hi hj hr
    have hi':=bO.mp ((XS.fZ (n:=gs.length) (by omega) _).mem_iff.mp hi)
    have hj':=bO.mp ((XS.fZ (n:=gs.length) (by omega) _).mem_iff.mp hj)
    have gd:∀ k,k < gs.length→((aX gs.length).map fun t=>(gat gs t).1).getD k 0=(gat gs k).1:=fun k hk=>by
     rw [aM,aR,fu hk]
     rfl
    show decide (((aX gs.length).map fun t=>(gat gs t).1).getD i 0 < ((aX gs.length).map fun t=>(gat gs t).1).getD j 0)=true∨(decide (((aX gs.length).map fun t=>(gat gs t).1).getD j 0 < ((aX gs.length).map fun t=>(gat gs t).1).getD i 0)=false∧i < j)
    rw [gd i hi',gd j hj']
    exact hr
   rw [e1]
   apply dU
   intro i hi
   have hi':=bO.mp ((XS.fZ (n:=gs.length) (by omega) _).mem_iff.mp hi)
   rw [aM,aR,fu hi']
   rfl
 unfold rZ
 simp only [EV,reduceIte,ao,aq,aj,ak,au,aA,aB,lMp,lr,XS.RX,V]
 rw [e]
theorem Px (f:Nat→Int) (hn:n < 64):XS.xQ [.list ((aX n).map fun k:Nat=>PyData.tuple [.int (f k),.int (k:Int)])]=some (.list ((tn n f).map fun k:Nat=>PyData.tuple [.int (f k),.int (k:Int)])):=by
 by_cases h0:n=0
 ·subst h0
  rfl
 have ei:dh ((aX n).map fun k:Nat=>PyData.tuple [.int (f k),.int (k:Int)])=none:=by
  obtain ⟨m,rfl⟩:∃ m,n=m + 1:=⟨n - 1,by omega⟩
  rw [List.range_succ_eq_map,aP]
  rfl
 have ep:=Ul f (fun k:Nat=>(k:Int)) (aX n)
 have len:((aX n).map fun k:Nat=>PyData.tuple [.int (f k),.int (k:Int)]).length=n:=by rw [aC,bY]
 unfold XS.xQ
 dsimp only
 rw [ei]
 dsimp only
 rw [ep,aK,len,if_pos hn]
 by_cases h1:n=1
 ·subst h1
  rfl
 ·rw [if_neg h1]
  have gd:∀ i,i < n→((aX n).map fun k:Nat=>(f k,(k:Int))).getD i (0,0)=(f i,(i:Int)):=fun i hi=>by
   rw [aM,aR,fu hi]
   rfl
  have eo:tn n f=XS.m8 n (XS.ltP ((aX n).map fun k:Nat=>(f k,(k:Int)))):=by
   unfold tn
   rw [if_neg (by omega)]
   refine XS.yh XS.yg (by omega) (XS.fZ (by omega) _) ?_
   refine List.Pairwise.imp_of_mem ?_ (XS.tR (XS.O9 _) (by omega))
   intro i j hi hj hr
   have hi':=bO.mp ((XS.fZ (n:=n) (by omega) _).mem_iff.mp hi)
   have hj':=bO.mp ((XS.fZ (n:=n) (by omega) _).mem_iff.mp hj)
   have key:∀ a b,a < n→b < n→XS.ltP ((aX n).map fun k:Nat=>(f k,(k:Int))) a b=if f a=f b then decide ((a:Int) < b) else decide (f a < f b):=fun a b ha hb=>by
    unfold XS.ltP XS.yQ
    rw [gd a ha,gd b hb]
   unfold XS.Rk
   rcases hr with z | ⟨z,hl⟩
   ·rw [key i j hi' hj'] at z
    split at z
    ·have:=of_decide_eq_true z
     exact .inr ⟨dFa (by omega),by omega⟩
    ·exact .inl z
   ·rw [key j i hj' hi'] at z
    split at z
    ·exact .inr ⟨dFa (by omega),hl⟩
    ·have:=of_decide_eq_false z
     exact .inl (dTr (by omega))
  rw [eo]
  congr 2
  apply dU
  intro i hi
  have hi':=bO.mp ((XS.fZ (n:=n) (by omega) _).mem_iff.mp hi)
  rw [aM,aR,fu hi']
  rfl
def inT (gs:List Wi):List Wi:=(tn gs.length fun t=>(gat gs t).1).map (gat gs)
theorem yu (hl:gs.length < 64):jz [.list (gs.map wiD)]=some (.list ((inT gs).map wiD)):=by
 have rr:vN (some [.int (gs.length:Int)])=some (jy 0 (gs.length:Int)):=Ku (by omega) (by omega)
 have re:jy 0 (gs.length:Int)=(aX gs.length).map fun p:Nat=>PyData.int (p:Int):=by
  unfold jy
  rw [show ((gs.length:Int) - 0).toNat=gs.length by omega]
  exact dU fun k _=>by rw [jU]
 have C1:=q_ (g:=(gNl 0)) (c:=(D3.jx)) (e:=(i_ (dTup (aF (dOp gIx (dOp gIx (aD 1) (aD 0)) (dC (.int 0))) (aF (aD 0) (bw)))))) (δ:=[none,some (.d (.list (gs.map wiD)))]) (fun p:Nat=>PyData.int (p:Int)) (fun p:Nat=>PyData.tuple [.int (gat gs p).1,.int (p:Int)]) (aX gs.length) (fun p hp=>by
  refine ⟨[some (.d (.int (p:Int))),some (.d (.list (gs.map wiD)))],rfl,rfl,?_⟩
  have ga:=Cj (gs:=gs) (bO.mp hp)
  have i0:gIx (wiD (gat gs p)) (.int 0)=some (.int (gat gs p).1):=rfl
  simp only [EV,reduceIte,ao,aq,aj,ak,au,aA,aB,ga,i0,Com.sz (show 2 ≤ 1000000 by decide)])
 have C2:=q_ (g:=(gNl 0)) (c:=(D3.jx)) (e:=(i_ (dOp gIx (aD 1) (dOp gIx (aD 0) (dC (.int 1)))))) (δ:=[none,some (.d (.list (gs.map wiD)))]) (fun p:Nat=>PyData.tuple [.int (gat gs p).1,.int (p:Int)]) (fun p:Nat=>wiD (gat gs p)) (tn gs.length fun t=>(gat gs t).1) (fun p hp=>by
  refine ⟨[some (.d (.tuple [.int (gat gs p).1,.int (p:Int)])),some (.d (.list (gs.map wiD)))],rfl,rfl,?_⟩
  have ga:=Cj (gs:=gs) (bO.mp ((qz _ _).mem_iff.mp hp))
  have i1:∀ a b:D,gIx (.tuple [a,b]) (.int 1)=some b:=fun _ _=>rfl
  have fw:flat (wiD (gat gs p))=true:=rfl
  simp only [EV,reduceIte,ao,aq,aj,ak,au,aA,aB,i1,ga,fw])
 have so:=Px (n:=gs.length) (fun t=>(gat gs t).1) hl
 have ca:∀ a:Option U,iw 1 [0] [a]=[none,a]:=fun _=>rfl
 have l1:(aX gs.length).length ≤ 100000:=by rw [bY];omega
 have l2:(tn gs.length fun t=>(gat gs t).1).length ≤ 100000:=by rw [(qz _ _).length_eq,bY];omega
 unfold jz
 simp only [EV,reduceIte,ao,aq,aj,ak,au,aA,aB,lMp,rr,re,ca,l1,C1,so,l2,C2]
 unfold inT
 rw [fO]
 rfl
theorem uL {α:Type} (f:α→D) {l m:List α} (h:l.length + m.length ≤ 1000000):fQ (.list (l.map f)) (.list (m.map f))=some (.list ((l++m).map f)):=by
 rw [Ui,if_pos (by rw [aC,aC];exact h),cT]
def rest (g:Wi) (row:List Int):List Int:=row.map fun e=>if e ≤ g.1 then 0 else e
theorem Jy {s:Nat} (hg:1 ≤ g.2.2) (h:s + g.2.2.toNat ≤ row.length):(rest g row).take s++aG g.2.2.toNat g.2.1++(rest g row).drop (s + g.2.2.toNat)=Sd.put row (gp g) s:=by
 have ll:(rest g row).length=row.length:=by unfold rest;rw [aC]
 apply gb
 intro i
 unfold Sd.put
 rw [fW]
 have gr:∀ i,(rest g row)[i]? = row[i]?.map fun e=>if e ≤ g.1 then 0 else e:=fun i=>by unfold rest;rw [aR]
 by_cases h1:i < s
 ·rw [lJ,cQ (by rw [bG,ll];omega),o_ h1,gr]
  congr 1
  funext e
  show _=if s ≤ i∧i < s + g.2.2.toNat then g.2.1 else if e ≤ g.1 then 0 else e
  rw [if_neg (show ¬ (s ≤ i∧i < s + g.2.2.toNat) by omega)]
 ·by_cases h2:i < s + g.2.2.toNat
  ·rw [lJ,cD (by rw [bG,ll];omega),cQ (by rw [bG,ll,bD];omega),eF,bG,ll,if_pos (by omega),aO (by omega)]
   unfold Sd.cell gp
   rw [iD,if_pos (by dsimp only;omega)]
  ·have l0:((rest g row).take s++aG g.2.2.toNat g.2.1).length=s + g.2.2.toNat:=by rw [aW,bG,ll,bD];omega
   rw [cD (by rw [l0];omega),eE,l0,show s + g.2.2.toNat + (i - (s + g.2.2.toNat))=i by omega,gr]
   congr 1
   funext e
   show _=if s ≤ i∧i < s + g.2.2.toNat then g.2.1 else if e ≤ g.1 then 0 else e
   rw [if_neg (show ¬ (s ≤ i∧i < s + g.2.2.toNat) by omega)]
def KJ (g:Wi) (rows:List (List Int)):List (List Int):=rows.flatMap fun row=>(stN row g).map fun s=>Sd.put row (gp g) s
def nxT (g:Wi) (rows:List (List Int)):List (List Int):=(KJ g rows).foldl jc []
theorem Py {S:List (List Int)} {k:List Int} (h0:aD i δ=some (dsT S)) (h1:fk δ=some (rwD k)) (hl:S.length < 1000000):vf i fk δ=some (.nx (δ.set i (some (.d (dsT (jc S k)))))):=by
 unfold vf
 rw [h0,aK,h1,aK,Rv,aK,Ci,aK,if_pos hl]
theorem Fi (S:List (List Int)) (k:List Int):(jc S k).length ≤ S.length + 1:=by
 unfold jc
 split <;> simp
theorem pR:∀ (ks S:List (List Int)),(ks.foldl jc S).length ≤ S.length + ks.length
 | [],S=>aL _
 | k :: ks,S=>by
  have h1:=pR ks (jc S k)
  have h2:=Fi S k
  rw [iG,bM]
  omega
theorem Tq {S:List (List Int)} {k:List Int} (h:S.Nodup):(jc S k).Nodup:=by
 unfold jc
 split
 ·exact h
 ·rename_i q
  rw [oV]
  exact ⟨h,by simp,fun a ha b hb e=>q (by rw [aN.mp hb] at e;rw [← e];exact ha)⟩
theorem Fj:∀ (ks S:List (List Int)),S.Nodup→(ks.foldl jc S).Nodup
 | [],S,h=>h
 | k :: ks,S,h=>by
  rw [iG]
  exact Fj ks _ (Tq h)
theorem W8 (g:Wi) (rows:List (List Int)):(nxT g rows).Nodup:=Fj _ _ .nil
theorem o9 {x:List Int}:x ∈ nxT g rows↔∃ row ∈ rows,∃ s ∈ stN row g,x=Sd.put row (gp g) s:=by
 unfold nxT
 rw [vm]
 unfold KJ
 rw [List.mem_flatMap]
 constructor
 ·rintro (h | ⟨row,hr,h⟩)
  ·cases h
  ·obtain ⟨s,hs,rfl⟩:=bT.mp h
   exact ⟨row,hr,s,hs,rfl⟩
 ·rintro ⟨row,hr,s,hs,rfl⟩
  exact .inr ⟨row,hr,bT.mpr ⟨s,hs,rfl⟩⟩
noncomputable abbrev Zh:=sIf (cI (dOp gLe (dCall vL (aF (yU (aD 6) (eX (aD 8)) (eX (dOp eV (aD 8) (aD 4)))) (bw))) (aD 2))) (cF (b_ 9 (dOp fQ (dSl (aD 7) jN (eX (aD 8))) (dOp pL (eU (aF (aD 3) (bw))) (aD 4)))) (vf 5 (dUn jG (dOp fQ (aD 9) (dSl (aD 7) (eX (dOp eV (aD 8) (aD 4))) jN))))) (iK)
theorem rJ (hg:1 ≤ g.2.2) (hg2:g.2.2 ≤ 6) (hl:row.length ≤ 100) (a:Option U):∀ (ss:List Nat) (S:List (List Int)) (u v:Option U),(∀ s ∈ ss,(s:Int) ≤ (row.length:Int) - g.2.2)→S.length + ss.length < 1000000 →
 ∃ u' v',jD (gNl 8) Zh (ss.map fun s:Nat=>PyData.int (s:Int)) [a,some (.d (wiD g)),some (.d (.int g.1)),some (.d (.int g.2.1)),some (.d (.int g.2.2)),some (.d (dsT S)),some (.d (rwD row)),some (.d (.list ((rest g row).map .int))),u,v] =
  some (.nx [a,some (.d (wiD g)),some (.d (.int g.1)),some (.d (.int g.2.1)),some (.d (.int g.2.2)),some (.d (dsT (((ss.filter fun s:Nat=>decide (mx (sli row (s:Int) g.2.2) ≤ g.1)).map fun s=>Sd.put row (gp g) s).foldl jc S))),some (.d (rwD row)),some (.d (.list ((rest g row).map .int))),u',v'])
 | [],S,u,v,_,_=>⟨u,v,rfl⟩
 | s :: ss,S,u,v,hs,hS=>by
  rw [bM] at hS
  have c1:=hs s aJ
  have hs':∀ t ∈ ss,(t:Int) ≤ (row.length:Int) - g.2.2:=fun t ht=>hs t (aH _ ht)
  have ll:(rest g row).length=row.length:=by unfold rest;rw [aC]
  have slv:∀ (a b c d e f h:Option U),yU (aD 6) (eX (aD 8)) (eX (dOp eV (aD 8) (aD 4))) [a,b,c,d,some (.d (.int g.2.2)),f,some (.d (rwD row)),h,some (.d (.int (s:Int))),e]=some (.tuple ((sli row (s:Int) g.2.2).map .int)):=fun a b c d e f h=>by
   rw [Jr (l:=row.map .int) (lo:=some (s:Int)) (hi:=some ((s:Int) + g.2.2)) rfl rfl rfl (qy _),Jp (by omega) c1 hg]
  have mt:=Eu (Hf (show (0:Int) ≤ (s:Int) by omega) c1 hg)
  rw [jV]
  by_cases q:mx (sli row (s:Int) g.2.2) ≤ g.1
  ·rw [if_pos (dTr q),aP (f:=fun s:Nat=>Sd.put row (gp g) s),iG]
   have k1:cutD ((rest g row).map PyData.int) none (some (s:Int))=((rest g row).take s).map .int:=by rw [Ad (by omega),iV];rfl
   have k2:cutD ((rest g row).map PyData.int) (some ((s:Int) + g.2.2)) none=((rest g row).drop (s + g.2.2.toNat)).map .int:=by rw [Es (by omega),jH,show ((s:Int) + g.2.2).toNat=s + g.2.2.toNat by omega]
   have rp:pL (.list [.int g.2.1]) (.int g.2.2)=some (.list ((aG g.2.2.toNat g.2.1).map PyData.int)):=Er (by omega) (by omega)
   have g1:fQ (.list (((rest g row).take s).map .int)) (.list ((aG g.2.2.toNat g.2.1).map PyData.int))=some (.list (((rest g row).take s++aG g.2.2.toNat g.2.1).map PyData.int)):=uL PyData.int (by rw [bG,bD];omega)
   have g2:fQ (.list (((rest g row).take s++aG g.2.2.toNat g.2.1).map PyData.int)) (.list (((rest g row).drop (s + g.2.2.toNat)).map .int))=some (.list ((Sd.put row (gp g) s).map .int)):=by
    rw [uL PyData.int (by rw [aW,bG,bD,cN];omega),Jy hg (by omega)]
   have pl:=Fi S (Sd.put row (gp g) s)
   obtain ⟨u',v',e⟩:=rJ hg hg2 hl a ss (jc S (Sd.put row (gp g) s)) (some (.d (.int (s:Int)))) (some (.d (.list (((rest g row).take s++aG g.2.2.toNat g.2.1).map .int)))) hs' (by omega)
   refine ⟨u',v',(oM rfl ?_).trans e⟩
   have tp:=Py (i:=5) (S:=S) (k:=Sd.put row (gp g) s) (fk:=(dUn jG (dOp fQ (aD 9) (dSl (aD 7) (eX (dOp eV (aD 8) (aD 4))) jN)))) (δ:=[a,some (.d (wiD g)),some (.d (.int g.1)),some (.d (.int g.2.1)),some (.d (.int g.2.2)),some (.d (dsT S)),some (.d (rwD row)),some (.d (.list ((rest g row).map .int))),some (.d (.int (s:Int))),some (.d (.list (((rest g row).take s++aG g.2.2.toNat g.2.1).map .int)))]) rfl (by
    simp only [EV,reduceIte,ao,aq,aj,ak,au,aA,aB,k2,g2,pD]
    rfl) (by omega)
   simp only [EV,reduceIte,ao,aq,aj,ak,au,aA,aB,slv,mt,dTr q,k1,rp,g1,tp,Com.sz (show 1 ≤ 1000000 by decide)]
  ·rw [if_neg (by rw [dFa q];decide)]
   obtain ⟨u',v',e⟩:=rJ hg hg2 hl a ss S (some (.d (.int (s:Int)))) v hs' (by omega)
   refine ⟨u',v',(oM rfl ?_).trans e⟩
   simp only [EV,reduceIte,ao,aq,aj,ak,au,aA,aB,slv,mt,dFa q]
theorem KN (g:Wi) (row:List Int) (rows:List (List Int)):KJ g (row :: rows)=((stN row g).map fun s=>Sd.put row (gp g) s)++KJ g rows:=by unfold KJ;rw [List.flatMap_cons]
noncomputable abbrev Zi:=cF (b_ 7 (gW (uY (aD 6)) (gNl 0) (D3.jx) (i_ (dOp gIx (eU (aF (aD 0) (aF (dC (.int 0)) (bw)))) (dCall vW (aF (dOp gLe (aD 0) (aD 1)) (bw))))) 1 [2])) (rB (sS (aF (dOp eV (dOp yL (dCall jj (aF (aD 6) (bw))) (aD 4)) (dC (.int 1))) (bw))) (gNl 8) (sIf (cI (dOp gLe (dCall vL (aF (yU (aD 6) (eX (aD 8)) (eX (dOp eV (aD 8) (aD 4)))) (bw))) (aD 2))) (cF (b_ 9 (dOp fQ (dSl (aD 7) jN (eX (aD 8))) (dOp pL (eU (aF (aD 3) (bw))) (aD 4)))) (vf 5 (dUn jG (dOp fQ (aD 9) (dSl (aD 7) (eX (dOp eV (aD 8) (aD 4))) jN))))) (iK)))
theorem vQ (hg:1 ≤ g.2.2) (hg2:g.2.2 ≤ 6) (a:Option U):∀ (rows:List (List Int)) (S:List (List Int)) (u v w x:Option U),(∀ r ∈ rows,r.length ≤ 100)→S.length + 101 * rows.length < 1000000 →
 ∃ u' v' w' x',jD (gNl 6) Zi (rows.map rwD) [a,some (.d (wiD g)),some (.d (.int g.1)),some (.d (.int g.2.1)),some (.d (.int g.2.2)),some (.d (dsT S)),u,v,w,x] =
  some (.nx [a,some (.d (wiD g)),some (.d (.int g.1)),some (.d (.int g.2.1)),some (.d (.int g.2.2)),some (.d (dsT ((KJ g rows).foldl jc S))),u',v',w',x'])
 | [],S,u,v,w,x,_,_=>⟨u,v,w,x,rfl⟩
 | row :: rows,S,u,v,w,x,hr,hS=>by
  rw [bM] at hS
  have rl:=hr row aJ
  have sq:qSq (some (rwD row))=some (row.map .int):=rfl
  have C:=q_ (g:=(gNl 0)) (c:=(D3.jx)) (e:=(i_ (dOp gIx (eU (aF (aD 0) (aF (dC (.int 0)) (bw)))) (dCall vW (aF (dOp gLe (aD 0) (aD 1)) (bw)))))) (δ:=[none,some (.d (.int g.1))]) (fun e:Int=>PyData.int e) (fun e:Int=>PyData.int (if e ≤ g.1 then 0 else e)) row (fun e _=>by
   refine ⟨[some (.d (.int e)),some (.d (.int g.1))],rfl,rfl,?_⟩
   have i0:∀ p q:D,gIx (.list [p,q]) (.int 0)=some p:=fun _ _=>rfl
   have i1:∀ p q:D,gIx (.list [p,q]) (.int 1)=some q:=fun _ _=>rfl
   by_cases c:e ≤ g.1
   ·rw [if_pos c]
    simp only [EV,reduceIte,ao,aq,aj,ak,au,aA,aB,dTr c,show vW [.bool true]=some (.int 1) from rfl,at1,Com.sz (show 2 ≤ 1000000 by decide)]
   ·rw [if_neg c]
    simp only [EV,reduceIte,ao,aq,aj,ak,au,aA,aB,dFa c,show vW [.bool false]=some (.int 0) from rfl,at0,Com.sz (show 2 ≤ 1000000 by decide)])
  have re:(row.map fun e:Int=>PyData.int (if e ≤ g.1 then 0 else e))=(rest g row).map .int:=by unfold rest;rw [fO];rfl
  rw [re] at C
  have ca:∀ a b c d e f g h i j:Option U,iw 1 [2] [a,b,c,d,e,f,g,h,i,j]=[none,c]:=fun _ _ _ _ _ _ _ _ _ _=>rfl
  have ll:row.length ≤ 100000:=by omega
  have ln:jj [rwD row]=some (.int (row.length:Int)):=by
   show some (PyData.int ((row.map PyData.int).length:Int))=_
   rw [aC]
  have rg:vN (some [.int ((row.length:Int) - g.2.2 + 1)])=some ((aX ((row.length:Int) - g.2.2 + 1).toNat).map fun s:Nat=>PyData.int (s:Int)):=by
   rw [Ku (by omega) (by omega)]
   unfold jy
   rw [p7]
   congr 1
   exact dU fun s _=>by rw [jU]
  obtain ⟨u1,v1,e1⟩:=rJ (g:=g) (row:=row) hg hg2 rl a (aX ((row.length:Int) - g.2.2 + 1).toNat) S w x (fun s hs=>by have:=bO.mp hs;omega) (by rw [bY];omega)
  have fl:=pR ((stN row g).map fun s=>Sd.put row (gp g) s) S
  have sl:=Cg row g hg
  rw [aC] at fl
  obtain ⟨u',v',w',x',e2⟩:=vQ hg hg2 a rows (((stN row g).map fun s=>Sd.put row (gp g) s).foldl jc S) (some (.d (rwD row))) (some (.d (.list ((rest g row).map .int)))) u1 v1 (fun r h=>hr r (aH _ h)) (by omega)
  refine ⟨u',v',w',x',?_⟩
  rw [KN,ud]
  have e1:jD (gNl 8) Zh ((aX ((row.length:Int) - g.2.2 + 1).toNat).map fun s:Nat=>PyData.int (s:Int)) [a,some (.d (wiD g)),some (.d (.int g.1)),some (.d (.int g.2.1)),some (.d (.int g.2.2)),some (.d (dsT S)),some (.d (rwD row)),some (.d (.list ((rest g row).map .int))),w,x]=some (.nx [a,some (.d (wiD g)),some (.d (.int g.1)),some (.d (.int g.2.1)),some (.d (.int g.2.2)),some (.d (dsT (((stN row g).map fun s=>Sd.put row (gp g) s).foldl jc S))),some (.d (rwD row)),some (.d (.list ((rest g row).map .int))),u1,v1]):=e1
  refine (oM rfl ?_).trans e2
  simp only [EV,reduceIte,ao,aq,aj,ak,au,aA,aB,VB,sq,ca,lMp,ll,C,ln,rg,e1]
theorem Fo (hg:1 ≤ g.2.2) (hg2:g.2.2 ≤ 6) (hr:∀ r ∈ rows,1 ≤ r.length∧r.length ≤ 100) (hl:rows.length ≤ 1000) (hf:(nxT g rows).length < 64):f9 [.list (rows.map rwD),wiD g]=some (.list ((XJ.iz (nxT g rows)).map rwD)):=by
 obtain ⟨u',v',w',x',e⟩:=vQ hg hg2 (some (.d (.list (rows.map rwD)))) rows [] none none none none (fun r h=>(hr r h).2) (by simp;omega)
 have e:jD (gNl 6) Zi (rows.map rwD) [some (.d (.list (rows.map rwD))),some (.d (wiD g)),some (.d (.int g.1)),some (.d (.int g.2.1)),some (.d (.int g.2.2)),some (.d (.dict [])),none,none,none,none]=some (.nx [some (.d (.list (rows.map rwD))),some (.d (wiD g)),some (.d (.int g.1)),some (.d (.int g.2.1)),some (.d (.int g.2.2)),some (.d (dsT (nxT g rows))),u',v',w',x']):=e
 have ts:XJ.BP [dsT (nxT g rows)]=some (.list ((XJ.iz (nxT g rows)).map rwD)):=by
  show (oH (dsT (nxT g rows))).bind _=_
  rw [Fe,aK,if_pos]
  refine ⟨hf,dN.mpr fun k hk=>?_⟩
  obtain ⟨row,h1,s,_,rfl⟩:=o9.mp hk
  have l1:=Sd.wH row (gp g) s
  have l2:=(hr row h1).1
  cases hq:Sd.put row (gp g) s with
  | nil=>rw [hq,gD] at l1;omega
  | cons _ _=>rfl
 have sq:qSq (some (.list (rows.map rwD)))=some (rows.map rwD):=rfl
 have as:∀ (a b c d e f h i j k:Option U),gTn 3 (d7 (gNl 2) (d7 (gNl 3) (d7 (gNl 4) (nF)))) (wiD g) [a,b,c,d,e,f,h,i,j,k]=some [a,b,some (.d (.int g.1)),some (.d (.int g.2.1)),some (.d (.int g.2.2)),f,h,i,j,k]:=fun _ _ _ _ _ _ _ _ _ _=>rfl
 unfold f9
 simp only [EV,reduceIte,ao,aq,aj,ak,au,aA,aB,as,VB,sq,e,ts]
theorem pX {ks:List (List Int)} {x:List Int}:x ∈ XJ.iz ks↔x ∈ ks:=(oN ks).mem_iff
def fac:Nat→Nat
 | 0=>1
 | n + 1=>(n + 1) * fac n
theorem yw {α β:Type} [DecidableEq β] (f:α→β):∀ (ks:List β) (L:List α),(∀ x ∈ L,f x ∈ ks)→L.length ≤ (ks.map fun k=>(L.filter fun x=>decide (f x=k)).length).sum
 | [],L,h=>by
  cases L with
  | nil=>simp
  | cons x r=>exact absurd (h x aJ) eG
 | k :: ks,L,h=>by
  have split:∀ L:List α,L.length=(L.filter fun x=>decide (f x=k)).length + (L.filter fun x=>!decide (f x=k)).length:=fun L=>by
   induction L with
   | nil=>rfl
   | cons x r ih =>
    rw [jV,jV]
    cases decide (f x=k) <;> simp <;> omega
  have ih:=yw f ks (L.filter fun x=>!decide (f x=k)) (fun x hx=>by
   rw [fB] at hx
   have hn:f x ≠ k:=by simpa using hx.2
   rcases aZ.mp (h x hx.1) with z | z
   ·exact absurd z hn
   ·exact z)
  have sub:∀ k',((L.filter fun x=>!decide (f x=k)).filter fun x=>decide (f x=k')).length ≤ (L.filter fun x=>decide (f x=k')).length:=fun k'=>by
   have e:((L.filter fun x=>!decide (f x=k)).filter fun x=>decide (f x=k'))=(L.filter fun x=>decide (f x=k')).filter fun x=>!decide (f x=k):=by
    rw [tE,tE]
    congr 1
    funext x
    exact Bool.and_comm _ _
   rw [e]
   exact qQ _ _
  have mono:∀ ks:List β,(ks.map fun k'=>((L.filter fun x=>!decide (f x=k)).filter fun x=>decide (f x=k')).length).sum ≤ (ks.map fun k'=>(L.filter fun x=>decide (f x=k')).length).sum:=fun ks=>by
   induction ks with
   | nil=>exact aL _
   | cons k' ks ih=>rw [aP,aP,pA,pA];exact Nat.add_le_add (sub k') ih
  rw [aP,pA,split L]
  exact Nat.add_le_add_left (bh ih (mono ks)) _
theorem Hj {β:Type} (f:β→Nat) (c:Nat):∀ ks:List β,(∀ k ∈ ks,f k ≤ c)→(ks.map f).sum ≤ ks.length * c
 | [],_=>by simp
 | k :: ks,h=>by
  rw [aP,pA,bM,Nat.succ_mul,Nat.add_comm]
  exact Nat.add_le_add (Hj f c ks fun x hx=>h x (aH _ hx)) (h k aJ)
theorem Fp:∀ (n:Nat) (m:List Int),m.length=n→∀ L:List (List Int),L.Nodup→(∀ x ∈ L,x.Perm m)→L.length ≤ fac n
 | 0,m,hm,L,nd,h=>by
  have hm:m=[]:=cO.mp hm
  subst hm
  match L,nd,h with
  | [],_,_=>exact cY _
  | [_],_,_=>exact aL _
  | x :: y :: r,nd,h =>
   have hx:x=[]:=(h x aJ).eq_nil
   have hy:y=[]:=(h y (aH _ aJ)).eq_nil
   rw [hx,hy] at nd
   exact absurd aJ (dJ.mp nd).1
 | n + 1,m,hm,L,nd,h=>by
  have ne:∀ x ∈ L,∃ a t,x=a :: t∧a ∈ m:=fun x hx=>by
   cases x with
   | nil=>have:=(h [] hx).length_eq;rw [hm] at this;cases this
   | cons a t=>exact ⟨a,t,rfl,(h _ hx).mem_iff.mp aJ⟩
  have c:=yw (fun x:List Int=>x.headD 0) m L (fun x hx=>by
   obtain ⟨a,t,rfl,ha⟩:=ne x hx
   exact ha)
  refine bh c (bh (Hj _ (fac n) m fun a ha=>?_) (by rw [hm];exact aL _))
  have key:=Fp n (m.erase a) (by rw [List.length_erase_of_mem ha,hm];rfl) ((L.filter fun x=>decide (x.headD 0=a)).map List.tail) (by
   show List.Pairwise _ _
   rw [List.pairwise_map]
   refine List.Pairwise.imp_of_mem (fun {x y} hx hy hne e=>hne ?_) (nd.filter fun x=>decide (x.headD 0=a))
   rw [fB] at hx hy
   obtain ⟨b,t,rfl,_⟩:=ne x hx.1
   obtain ⟨b',t',rfl,_⟩:=ne y hy.1
   have hb:b=a:=by simpa using hx.2
   have hb':b'=a:=by simpa using hy.2
   subst hb hb'
   have e:t=t':=e
   rw [e]) (fun t ht=>by
   obtain ⟨x,hx,rfl⟩:=bT.mp ht
   rw [fB] at hx
   obtain ⟨b,t,rfl,_⟩:=ne x hx.1
   have hb:b=a:=by simpa using hx.2
   subst hb
   exact List.Perm.cons_inv ((h _ hx.1).trans (List.perm_cons_erase ha)))
  rw [aC] at key
  exact key
def can (g:Wi) (m:List Int):List Int:=m.filter (fun e=>decide (g.1 < e))++aG g.2.2.toNat g.2.1++aG ((m.filter fun e=>decide (e ≤ g.1)).length - g.2.2.toNat) 0
theorem yx (g:Wi) (x:Int):∀ X:List Int,(rest g X).count x=(X.filter fun e=>decide (g.1 < e)).count x + if x=0 then (X.filter fun e=>decide (e ≤ g.1)).length else 0
 | []=>by simp [rest]
 | e :: X=>by
  have ih:=yx g x X
  have e1:rest g (e :: X)=(if e ≤ g.1 then 0 else e) :: rest g X:=rfl
  rw [e1,List.count_cons,ih]
  by_cases c:e ≤ g.1
  ·rw [if_pos c,gh (by simp;omega),gj (by simp;omega)]
   by_cases z:x=0
   ·subst z;simp;omega
   ·simp [z,Ne.symm z]
  ·rw [if_neg c,gj (by simp;omega),gh (by simp;omega),List.count_cons]
   omega
theorem Ck {m:List Int} {s:Nat} (hg:gOk g) (hp:row.Perm m) (hs:s ∈ stN row g):(Sd.put row (gp g) s).Perm (can g m):=by
 have ft:=(Jw hg).mp hs
 have f1:s + g.2.2.toNat ≤ row.length:=ft.1
 have f2:∀ r,s ≤ r→r < s + g.2.2.toNat→row.getD r 0 ≤ g.1:=ft.2
 rw [← Jy hg.1 f1]
 have ra:(rest g row).take s=rest g (row.take s):=by unfold rest;rw [iV]
 have rd:(rest g row).drop (s + g.2.2.toNat)=rest g (row.drop (s + g.2.2.toNat)):=by unfold rest;rw [jH]
 have rs:row=row.take s++((row.drop s).take g.2.2.toNat++row.drop (s + g.2.2.toNat)):=by
  have:=(qY g.2.2.toNat (row.drop s))
  rw [List.drop_drop] at this
  rw [this,qY]
 have lb:((row.drop s).take g.2.2.toNat).length=g.2.2.toNat:=by rw [bG,cN];omega
 have mb:∀ e ∈ (row.drop s).take g.2.2.toNat,e ≤ g.1:=fun e he=>by
  obtain ⟨i,hi,rfl⟩:=nD he
  rw [lb] at hi
  have:=f2 (s + i) (by omega) (by omega)
  rw [tZ,List.getElem_drop]
  rw [aM,aO (by omega)] at this
  exact this
 have fb1:((row.drop s).take g.2.2.toNat).filter (fun e=>decide (g.1 < e))=[]:=jt.mpr fun e he=>by have:=mb e he;simp;omega
 have fb2:((row.drop s).take g.2.2.toNat).filter (fun e=>decide (e ≤ g.1))=(row.drop s).take g.2.2.toNat:=List.filter_eq_self.mpr fun e he=>dTr (mb e he)
 have h1:(m.filter fun e=>decide (g.1 < e)).Perm ((row.take s).filter (fun e=>decide (g.1 < e))++(row.drop (s + g.2.2.toNat)).filter fun e=>decide (g.1 < e)):=by
  have:=(hp.filter fun e=>decide (g.1 < e)).symm
  rw [rs,kZ,kZ,fb1,iH] at this
  exact this
 have h2:(m.filter fun e=>decide (e ≤ g.1)).length=((row.take s).filter fun e=>decide (e ≤ g.1)).length + g.2.2.toNat + ((row.drop (s + g.2.2.toNat)).filter fun e=>decide (e ≤ g.1)).length:=by
  have:=(hp.filter fun e=>decide (e ≤ g.1)).length_eq.symm
  rw [rs,kZ,kZ,fb2,aW,aW,lb] at this
  omega
 rw [List.perm_iff_count]
 intro x
 unfold can
 rw [ra,rd,jL,jL,jL,jL,yx,yx,h1.count_eq,jL,h2,List.count_replicate (n:=_ - _)]
 generalize ((row.take s).filter fun e=>decide (e ≤ g.1)).length=p
 generalize ((row.drop (s + g.2.2.toNat)).filter fun e=>decide (e ≤ g.1)).length=q
 by_cases z:x=0
 ·subst z;simp;omega
 ·simp [z,Ne.symm z];omega
theorem Pz {α:Type} [DecidableEq α] {L M:List α} (nd:L.Nodup) (h:∀ x ∈ L,x ∈ M):L.length ≤ M.length:=by
 have c:=yw (fun x:α=>x) M L h
 have one:∀ k ∈ M,(L.filter fun x=>decide (x=k)).length ≤ 1:=fun k _=>by
  clear c h
  induction L with
  | nil=>exact cY _
  | cons x r ih =>
   obtain ⟨n1,n2⟩:=dJ.mp nd
   by_cases z:x=k
   ·subst z
    rw [gj (by simp)]
    have:(r.filter fun y=>decide (y=x))=[]:=jt.mpr fun y hy e=>n1 (by have:=of_decide_eq_true e;rw [← this];exact hy)
    rw [this]
    exact aL _
   ·rw [gh (by simpa using z)]
    exact ih n2
 have s:=Hj (fun k=>(L.filter fun x=>decide (x=k)).length) 1 M one
 omega
def m_ (w:Nat) (R:List (List Int)):Prop:=∃ m o:List Int,m.length=w∧o.length=w∧∀ r ∈ R,r.Perm m∨r=o
theorem m_.len {w:Nat} (h:m_ w R):∀ r ∈ R,r.length=w:=fun r hr=>by
 obtain ⟨m,o,h1,h2,h3⟩:=h
 rcases h3 r hr with z | z
 ·rw [z.length_eq,h1]
 ·rw [z,h2]
theorem W9:∀ w,w ≤ 4→fac w ≤ 24:=by decide
theorem wJ {w:Nat} (hw:w ≤ 4) (hg:gOk g) (h:m_ w R):(nxT g R).length ≤ 28:=by
 obtain ⟨m,o,h1,h2,h3⟩:=h
 have nd:=W8 g R
 have sp:(nxT g R).length=((nxT g R).filter fun x=>decide (x.Perm (can g m))).length + ((nxT g R).filter fun x=>!decide (x.Perm (can g m))).length:=by
  generalize nxT g R=L
  induction L with
  | nil=>rfl
  | cons x r ih =>
   by_cases z:x.Perm (can g m)
   ·rw [gj (by simpa using z),gh (by simpa using z)];simp only [bM];omega
   ·rw [gh (by simpa using z),gj (by simpa using z)];simp only [bM];omega
 have wl:∀ x ∈ nxT g R,x.length=w:=fun x hx=>by
  obtain ⟨row,hr,s,_,rfl⟩:=o9.mp hx
  rw [Sd.wH]
  rcases h3 row hr with z | z
  ·rw [z.length_eq,h1]
  ·rw [z,h2]
 have a:((nxT g R).filter fun x=>decide (x.Perm (can g m))).length ≤ 24:=by
  by_cases e:(nxT g R).filter (fun x=>decide (x.Perm (can g m)))=[]
  ·rw [e];exact cY _
  ·obtain ⟨x,hx⟩:=j9 _ e
   rw [fB] at hx
   have cl:(can g m).length=w:=by rw [← (of_decide_eq_true hx.2).length_eq];exact wl x hx.1
   exact bh (Fp w (can g m) cl _ (nd.filter _) fun y hy=>by rw [fB] at hy;exact of_decide_eq_true hy.2) (W9 w hw)
 have b:((nxT g R).filter fun x=>!decide (x.Perm (can g m))).length ≤ 4:=by
  have:=Pz (M:=(stN o g).map fun s=>Sd.put o (gp g) s) (nd.filter fun x=>!decide (x.Perm (can g m))) (fun x hx=>by
   rw [fB] at hx
   obtain ⟨row,hr,s,hs,rfl⟩:=o9.mp hx.1
   rcases h3 row hr with z | z
   ·exact absurd (Ck hg z hs) (by simpa using hx.2)
   ·rw [z] at hs ⊢
    exact bT.mpr ⟨s,hs,rfl⟩)
  rw [aC] at this
  have:=Cg o g hg.1
  omega
 omega
theorem Fq {w:Nat} {m:List Int} (hg:gOk g) (h1:m.length=w) (h:∀ r ∈ rows,r.Perm m):∃ m',(nxT g rows ≠ []→m'.length=w)∧∀ r ∈ XJ.iz (nxT g rows),r.Perm m':=by
 refine ⟨can g m,fun ne=>?_,fun r hr=>?_⟩
 ·obtain ⟨x,hx⟩:=j9 _ ne
  obtain ⟨row,hr,s,hs,rfl⟩:=o9.mp hx
  rw [← (Ck hg (h row hr) hs).length_eq,Sd.wH,(h row hr).length_eq,h1]
 ·obtain ⟨row,hw,s,hs,rfl⟩:=o9.mp (pX.mp hr)
  exact Ck hg (h row hw) hs
def ls:List (List Int)→List Wi→List (List (List Int))
 | _,[]=>[]
 | rows,g :: gs=>XJ.iz (nxT g rows) :: if nxT g rows=[] then [] else ls (XJ.iz (nxT g rows)) gs
theorem Cm (rows:List (List Int)):ls rows []=[]:=by unfold ls;rfl
theorem su (rows:List (List Int)) (g:Wi) (gs:List Wi):ls rows (g :: gs)=XJ.iz (nxT g rows) :: if nxT g rows=[] then [] else ls (XJ.iz (nxT g rows)) gs:=by conv=>lhs;unfold ls
theorem pY {ks:List (List Int)}:XJ.iz ks=[]↔ks=[]:=by
 have:=(oN ks).length_eq
 constructor
 ·intro h;rw [h] at this;exact cO.mp this.symm
 ·intro h;subst h;exact cO.mp this
theorem PB:∀ (gs:List Wi) (rows:List (List Int)),(ls rows gs).length ≤ gs.length
 | [],rows=>by rw [Cm];exact aL _
 | g :: gs,rows=>by
  rw [su,bM,bM]
  split
  ·simp
  ·exact Nat.succ_le_succ (PB gs _)
theorem PJ {w:Nat}:∀ (gs:List Wi) (rows:List (List Int)) (m:List Int),(∀ g ∈ gs,gOk g)→m.length=w→(∀ r ∈ rows,r.Perm m)→∀ R ∈ ls rows gs,∃ m',m'.length=w∧∀ r ∈ R,r.Perm m'
 | [],rows,m,_,_,_,R,hR=>by rw [Cm] at hR;cases hR
 | g :: gs,rows,m,hg,hm,h,R,hR=>by
  rw [su] at hR
  obtain ⟨m',h1,h2⟩:=Fq (hg g aJ) hm h
  rcases aZ.mp hR with rfl | hR
  ·by_cases e:nxT g rows=[]
   ·exact ⟨m,hm,fun r hr=>by rw [pY.mpr e] at hr;cases hr⟩
   ·exact ⟨m',h1 e,h2⟩
  ·by_cases e:nxT g rows=[]
   ·rw [if_pos e] at hR;cases hR
   ·rw [if_neg e] at hR
    exact PJ gs _ m' (fun g' h'=>hg g' (aH _ h')) (h1 e) h2 R hR
theorem Ft {w:Nat} (hw:w ≤ 4):∀ (gs:List Wi) (rows:List (List Int)),(∀ g ∈ gs,gOk g)→m_ w rows→(∀ R ∈ ls rows gs,m_ w R)→∀ R ∈ ls rows gs,R.length ≤ 28
 | [],rows,_,_,_,R,hR=>by rw [Cm] at hR;cases hR
 | g :: gs,rows,hg,hn,ha,R,hR=>by
  rw [su] at hR ha
  have l1:(XJ.iz (nxT g rows)).length ≤ 28:=by rw [(oN _).length_eq];exact wJ hw (hg g aJ) hn
  rcases aZ.mp hR with rfl | hR
  ·exact l1
  ·by_cases e:nxT g rows=[]
   ·rw [if_pos e] at hR;cases hR
   ·rw [if_neg e] at hR ha
    exact Ft hw gs _ (fun g' h'=>hg g' (aH _ h')) (ha _ aJ) (fun R' h'=>ha R' (aH _ h')) R hR
theorem Jz {w:Nat}:∀ (gs:List Wi) (rows:List (List Int)),(∀ r ∈ rows,r.length=w)→(∃ g ∈ gs,(w:Int) < g.2.2)→(∀ g ∈ gs,gOk g)→∃ L',ls rows gs=L'++[[]]∧[] ∉ L'
 | [],rows,_,h,_=>by obtain ⟨_,h,_⟩:=h;cases h
 | g :: gs,rows,hr,h,hg=>by
  rw [su]
  by_cases e:nxT g rows=[]
  ·rw [if_pos e,pY.mpr e]
   exact ⟨[],rfl,eG⟩
  ·rw [if_neg e]
   have big:¬ (w:Int) < g.2.2:=fun z=>e (by
    apply Classical.byContradiction
    intro ne
    obtain ⟨x,hx⟩:=j9 _ ne
    obtain ⟨row,h1,s,h2,rfl⟩:=o9.mp hx
    have:=((Jw (hg g aJ)).mp h2).1
    have l:=hr row h1
    have:s + g.2.2.toNat ≤ row.length:=this
    omega)
   have h':∃ g' ∈ gs,(w:Int) < g'.2.2:=by
    obtain ⟨g',h1,h2⟩:=h
    rcases aZ.mp h1 with rfl | h1
    ·exact absurd h2 big
    ·exact ⟨g',h1,h2⟩
   obtain ⟨L',e1,e2⟩:=Jz gs (XJ.iz (nxT g rows)) (fun r hr'=>by
    obtain ⟨row,h1,s,_,rfl⟩:=o9.mp (pX.mp hr')
    rw [Sd.wH,hr row h1]) h' (fun g' h'=>hg g' (aH _ h'))
   refine ⟨XJ.iz (nxT g rows) :: L',by rw [e1];rfl,fun z=>?_⟩
   rcases aZ.mp z with z | z
   ·exact e (pY.mp z.symm)
   ·exact e2 z
theorem Cp (R:List (List Int)):gEq (rlD R) (.list [])=some (.bool R.isEmpty):=by
 have l1:∀ P:List Int,ly 5 (rwD P):=fun P=>lF (vh (m5 (n:=1) PyData.int (fun _=>rH) P)) (by decide)
 have l2:ly 60 (.list (R.map rwD)):=lF (mq (m5 rwD l1 R)) (by decide)
 unfold gEq rlD
 rw [rW l2,show SeqAt.shaped (.list [])=true from rfl]
 cases R <;> simp [PyData.eqv,PyData.eqvAll]
theorem Fv {w:Nat} {m:List Int} (h1:m.length=w) (h:∀ r ∈ R,r.Perm m):m_ w R:=⟨m,m,h1,h1,fun r hr=>.inl (h r hr)⟩
noncomputable abbrev KQ:=cF (b_ 3 (dCall f9 (aF (aD 3) (aF (aD 4) (bw))))) (cF (vV 2 (aD 3)) (sIf (cI (dOp gEq (aD 3) (eU (bw)))) (oZ (aD 2)) (iK)))
theorem yC {w:Nat} (w1:1 ≤ w) (w4:w ≤ 4) (a b:Option U):∀ (ts:List Wi) (rows:List (List Int)) (m:List Int) (acc:List (List (List Int))) (u:Option U),(∀ g ∈ ts,gOk g)→m.length=w→(∀ r ∈ rows,r.Perm m)→rows.length ≤ 1000→acc.length + ts.length ≤ 1000 →
 (∃ r' u',jD (gNl 4) KQ (ts.map wiD) [a,b,some (.d (.list (acc.map rlD))),some (.d (rlD rows)),u]=some (.nx [a,b,some (.d (.list ((acc++ls rows ts).map rlD))),r',u'])) ∨
 jD (gNl 4) KQ (ts.map wiD) [a,b,some (.d (.list (acc.map rlD))),some (.d (rlD rows)),u]=some (.ex "" "" (.list ((acc++ls rows ts).map rlD)))
 | [],rows,m,acc,u,_,_,_,_,_=>.inl ⟨_,_,by simp only [iI,Cm,fD];exact rfl⟩
 | g :: ts,rows,m,acc,u,hg,hm,hr,hl,ha=>by
  rw [bM] at ha
  have gk:=hg g aJ
  have nn:=wJ w4 gk (Fv hm hr)
  have nx:=Fo (g:=g) (rows:=rows) gk.1 gk.2 (fun r h=>by rw [(hr r h).length_eq,hm];omega) hl (by omega)
  have nx:f9 [rlD rows,wiD g]=some (rlD (XJ.iz (nxT g rows))):=nx
  obtain ⟨m',h1,h2⟩:=Fq (rows:=rows) gk hm hr
  rw [su]
  have q:=Cp (XJ.iz (nxT g rows))
  have al:(acc.map rlD).length < 1000000:=by rw [aC];omega
  have pl:=(oN (nxT g rows)).length_eq
  by_cases e:nxT g rows=[]
  ·refine .inr ?_
   rw [if_pos e]
   have e':=pY.mpr e
   rw [e'] at nx q ⊢
   have b1:KQ [a,b,some (.d (.list (acc.map rlD))),some (.d (rlD rows)),some (.d (wiD g))]=some (.ex "" "" (.list ((acc++[[]]).map rlD))):=by
    simp only [EV,reduceIte,ao,aq,aj,ak,au,aA,aB,nx,al,q,List.isEmpty_nil,lA,h_,Com.sz (show 0 ≤ 1000000 by decide)]
    rw [cT]
    rfl
   rw [aP,jD,show (gNl 4) (wiD g) [a,b,some (.d (.list (acc.map rlD))),some (.d (rlD rows)),u]=some [a,b,some (.d (.list (acc.map rlD))),some (.d (rlD rows)),some (.d (wiD g))] from rfl,aK,b1]
   rfl
  ·rw [if_neg e]
   have ne:(XJ.iz (nxT g rows)).isEmpty=false:=by
    cases c:XJ.iz (nxT g rows) with
    | nil=>exact absurd (pY.mp c) e
    | cons _ _=>rfl
   rw [ne] at q
   have ih:=yC w1 w4 a b ts (XJ.iz (nxT g rows)) m' (acc++[XJ.iz (nxT g rows)]) (some (.d (wiD g))) (fun g' h'=>hg g' (aH _ h')) (h1 e) h2 (by omega) (by rw [aW];simp;omega)
   have b1:KQ [a,b,some (.d (.list (acc.map rlD))),some (.d (rlD rows)),some (.d (wiD g))]=some (.nx [a,b,some (.d (.list ((acc++[XJ.iz (nxT g rows)]).map rlD))),some (.d (rlD (XJ.iz (nxT g rows)))),some (.d (wiD g))]):=by
    simp only [EV,reduceIte,ao,aq,aj,ak,au,aA,aB,nx,al,q,Com.sz (show 0 ≤ 1000000 by decide)]
    rw [cT]
    rfl
   rw [lJ,List.singleton_append] at ih
   rw [aP]
   rcases ih with ⟨r',u',ih⟩ | ih
   ·exact .inl ⟨r',u',(oM rfl b1).trans ih⟩
   ·exact .inr ((oM rfl b1).trans ih)
theorem wK (gs:List Wi):(inT gs).length=gs.length:=by unfold inT;rw [aC,(qz _ _).length_eq,bY]
theorem wL:g ∈ inT gs↔g ∈ gs:=by
 unfold inT
 rw [bT]
 constructor
 ·rintro ⟨t,h1,rfl⟩
  have:=bO.mp ((qz _ _).mem_iff.mp h1)
  unfold gat
  rw [aM,aO this]
  exact fK this
 ·intro h
  obtain ⟨i,hi,rfl⟩:=nD h
  refine ⟨i,(qz _ _).mem_iff.mpr (bO.mpr hi),?_⟩
  unfold gat
  rw [aM,aO hi]
  rfl
theorem KR (hg:∀ g ∈ gs,gOk g) (hl:gs.length < 64) (w1:1 ≤ hs.length) (w4:hs.length ≤ 4):mC [.list (hs.map .int),.list (gs.map wiD)]=some (.list ((ls [hs] (inT gs)).map rlD)):=by
 have lt:=yu hl
 have L:=yC w1 w4 (some (.d (.list (hs.map .int)))) (some (.d (.list (gs.map wiD)))) (inT gs) [hs] hs [] none (fun g h=>hg g (wL.mp h)) rfl (fun r hr=>by rw [aN.mp hr]) (by simp) (by rw [wK];simp;omega)
 rw [iH] at L
 have ll:((inT gs).map wiD).length ≤ 100000:=by rw [aC,wK];omega
 have rh:rlD [hs] = .list [.tuple (hs.map .int)]:=rfl
 rw [rh] at L
 unfold mC
 rcases L with ⟨r',u',L⟩ | L
 ·have L:jD (gNl 4) KQ ((inT gs).map wiD) [some (.d (.list (hs.map .int))),some (.d (.list (gs.map wiD))),some (.d (.list [])),some (.d (.list [.tuple (hs.map .int)])),none]=_:=L
  simp only [EV,reduceIte,ao,aq,aj,ak,au,aA,aB,o7,iQ,lA,h_,pD,lt,L,Com.sz (show 0 ≤ 1000000 by decide),Com.sz (show 1 ≤ 1000000 by decide)]
 ·have L:jD (gNl 4) KQ ((inT gs).map wiD) [some (.d (.list (hs.map .int))),some (.d (.list (gs.map wiD))),some (.d (.list [])),some (.d (.list [.tuple (hs.map .int)])),none]=_:=L
  simp only [EV,reduceIte,ao,aq,aj,ak,au,aA,aB,o7,iQ,lA,h_,pD,lt,L,Com.sz (show 0 ≤ 1000000 by decide),Com.sz (show 1 ≤ 1000000 by decide)]
  rfl
theorem Fw:∀ a b:List Int,PyData.eqvAll (a.map PyData.int) (b.map PyData.int)=decide (a=b)
 | [],[]=>by simp [PyData.eqvAll]
 | [],_ :: _=>by simp [PyData.eqvAll]
 | _ :: _,[]=>by simp [PyData.eqvAll]
 | x :: a,y :: b=>by
  rw [aP,aP,PyData.eqvAll,Fw a b]
  show (decide (x=y) && decide (a=b))=_
  by_cases h1:x=y <;> by_cases h2:a=b <;> simp [h1,h2]
theorem PK (a b:List Int):PyData.eqv (rwD a) (rwD b)=decide (a=b):=by
 show PyData.eqvAll (a.map PyData.int) (b.map PyData.int)=_
 exact Fw a b
theorem JB (r:List Int):ly 5 (rwD r):=lF (vh (m5 (n:=1) PyData.int (fun _=>rH) r)) (by decide)
theorem Fx (R:List (List Int)):ly 7 (rlD R):=lF (mq (m5 rwD JB R)) (by decide)
theorem PN (x:List Int) (R:List (List Int)):xK (rwD x) (rlD R)=some (.bool (!decide (x ∈ R))):=by
 have s1:=rW (lF (JB x) (m:=60) (by decide))
 have s2:=rW (lF (Fx R) (m:=60) (by decide))
 show (if (SeqAt.shaped (rwD x) && SeqAt.shaped (rlD R))=true then some (PyData.bool (!(R.map rwD).any fun z=>PyData.eqv z (rwD x))) else none)=_
 rw [s1,s2]
 have:((R.map rwD).any fun z=>PyData.eqv z (rwD x))=decide (x ∈ R):=by
  rw [List.any_map,nj,List.any_eq_true,decide_eq_true_iff]
  constructor
  ·rintro ⟨r,hr,e⟩
   have e:PyData.eqv (rwD r) (rwD x)=true:=e
   rw [PK] at e
   rw [← of_decide_eq_true e]
   exact hr
  ·intro h
   exact ⟨x,h,by show PyData.eqv (rwD x) (rwD x)=true;rw [PK];exact dTr rfl⟩
 rw [this]
 rfl
def sub (g:Wi) (ah R:List (List Int)):Bool:=(nxT g ah).all fun x=>decide (x ∈ R)
def chk:List (List Int)→List Wi→List (List (List Int))→Bool
 | ah,g :: gs,R :: Rs=>sub g ah R && chk R gs Rs
 | _,_,_=>true
theorem Cq {ah:List (List Int)} {x:List Int}:x ∈ iU (sI g ah [])↔x ∈ nxT g ah:=by
 rw [o9]
 constructor
 ·intro h
  unfold iU at h
  obtain ⟨q,hq,rfl⟩:=bT.mp h
  rcases Fb ah [] hq with z | ⟨row,hr,s,hs,rfl⟩
  ·cases z
  ·exact ⟨row,hr,s,hs,rfl⟩
 ·rintro ⟨row,hr,s,hs,rfl⟩
  exact Fd ah [] row hr s hs
theorem Tr (g:Wi) (ah:List (List Int)):(sI g ah []).length ≤ (nxT g ah).length:=by
 have:=Pz (L:=iU (sI g ah [])) (M:=nxT g ah) (Ju ah [] .nil) fun x hx=>Cq.mp hx
 unfold iU at this
 rw [aC] at this
 exact this
theorem Fy (gs:List Wi):∀ (ts:List Nat) (ah:List (List Int)) (Rs:List (List (List Int))),yt gs ah ts Rs=chk ah (ts.map (gat gs)) Rs
 | [],ah,Rs=>by unfold yt chk;simp
 | t :: ts,ah,[]=>by unfold yt chk;simp
 | t :: ts,ah,R :: Rs=>by
  rw [aP,yt,chk,Fy gs ts R Rs]
  congr 1
  unfold sub
  rw [nj,dN,dN]
  exact ⟨fun h x hx=>h x (Cq.mpr hx),fun h x hx=>h x (Cq.mp hx)⟩
def rK (Rs:List (List (List Int))):Bool:=match Rs.getLast? with
 | some []=>true
 | _=>false
def yW (hs:List Int) (gs:List Wi) (Rs:List (List (List Int))):Bool:=decide (1 ≤ Rs.length) && (decide (Rs.length ≤ gs.length) && (rK Rs && chk [hs] (inT gs) Rs))
section
variable {hs:List Int} {gs:List Wi} {Rs:List (List (List Int))}
theorem sy (hg:∀ g ∈ gs,grOk g) {l:List D} (h:¬ (1 ≤ l.length∧l.length ≤ gs.length)):fM [.list (hs.map .int),.list (gs.map wiD),.list l]=some (.bool false):=by
 have ck:d8 [.list (gs.map wiD)]=some .none:=pW hg
 have ty:D3.isT "list" (tyD (.list l))=true:=(by decide:D3.isT "list" "list" = true)
 unfold fM
 by_cases c:1 ≤ l.length
 ·simp only [EV,reduceIte,ao,aq,aj,ak,au,aA,aB,ck,ty,lMp,dTr (show (1:Int) ≤ (l.length:Int) by omega),dFa (show ¬ (l.length:Int) ≤ (gs.length:Int) by omega)]
 ·simp only [EV,reduceIte,ao,aq,aj,ak,au,aA,aB,ck,ty,lMp,dFa (show ¬ (1:Int) ≤ (l.length:Int) by omega)]
theorem KY (hg:∀ g ∈ gs,grOk g) (h1:1 ≤ Rs.length) (h2:Rs.length ≤ gs.length) (gl:gs.length < 64) (hw:∀ R ∈ Rs,R.length ≤ 1000∧∀ r ∈ R,r.length=hs.length) (wl:hs.length ≤ 100) (he:rK Rs=false):fM [.list (hs.map .int),.list (gs.map wiD),.list (Rs.map rlD)]=some (.bool false):=by
 have ck:d8 [.list (gs.map wiD)]=some .none:=pW hg
 have ty:D3.isT "list" (tyD (.list (Rs.map rlD)))=true:=(by decide:D3.isT "list" "list" = true)
 have C:=q_ (g:=(gNl 0)) (c:=(D3.jx)) (e:=W7) (δ:=[none,some (.d (.list (hs.map .int)))]) rlD (fun _=>PyData.bool true) Rs (fun R hR=>by
  refine ⟨[some (.d (rlD R)),some (.d (.list (hs.map .int)))],rfl,rfl,?_⟩
  have r:dM [rlD R,.int (hs.length:Int)]=some (.bool true):=Fg (hw R hR).2 (by omega) (hw R hR).1
  simp only [EV,reduceIte,ao,aq,aj,ak,au,aA,aB,lMp,r])
 have ca:∀ a b c d e f:Option U,iw 1 [0] [a,b,c,d,e,f]=[none,a]:=fun _ _ _ _ _ _=>rfl
 have ab:uQ [.list (Rs.map fun _=>PyData.bool true)]=some (.bool true):=by
  have:∀ l:List (List (List Int)),gF (l.map fun _=>PyData.bool true)=some (l.map fun _=>true):=fun l=>by
   induction l with
   | nil=>rfl
   | cons a r ih=>rw [aP,gF,ih];rfl
  show (gF _).map _=_
  rw [this]
  simp
 obtain ⟨Q,R,rfl⟩:∃ Q R,Rs=Q++[R]:=by
  have ne:Rs ≠ []:=fun z=>by rw [z] at h1;simp at h1
  exact ⟨Rs.dropLast,Rs.getLast ne,(jC ne).symm⟩
 have hR:R ≠ []:=fun z=>by
  rw [z] at he
  unfold rK at he
  rw [iJ] at he
  cases he
 have pe:pAt ((Q++[R]).map rlD) (-1)=some (rlD R):=by
  rw [cT]
  exact Js
 have ln:jj [rlD R]=some (.int (R.length:Int)):=by
  show some (PyData.int ((R.map rwD).length:Int))=_
  rw [aC]
 have d0:decide ((R.length:Int) > 0)=true:=dTr (by
  have:R.length ≠ 0:=fun z=>hR (cO.mp z)
  omega)
 have ll:(Q++[R]).length ≤ 100000:=by omega
 unfold fM
 simp only [EV,reduceIte,ao,aq,aj,ak,au,aA,aB,ck,ty,lMp,dTr (show (1:Int) ≤ ((Q++[R]).length:Int) by omega),dTr (show ((Q++[R]).length:Int) ≤ (gs.length:Int) by omega),ll,ca,C,ab,pe,ln,d0]
theorem PX (hg:∀ g ∈ gs,grOk g∧gOk g) (hl:gs.length < 64) (wl:hs.length ≤ 4) (hw:∀ R ∈ Rs,R.length ≤ 1000∧m_ hs.length R) :
 fM [.list (hs.map .int),.list (gs.map wiD),.list (Rs.map rlD)]=some (.bool (yW hs gs Rs)):=by
 have hg1:∀ g ∈ gs,grOk g:=fun g h=>(hg g h).1
 have hw':∀ R ∈ Rs,R.length ≤ 1000∧∀ r ∈ R,r.length=hs.length:=fun R h=>⟨(hw R h).1,(hw R h).2.len⟩
 unfold yW
 by_cases c1:1 ≤ Rs.length
 ·by_cases c2:Rs.length ≤ gs.length
  ·rw [dTr c1,dTr c2,gQ,gQ]
   cases c3:rK Rs with
   | false=>exact KY hg1 c1 c2 hl hw' (by omega) c3
   | true =>
    obtain ⟨Q,R,rfl⟩:∃ Q R,Rs=Q++[R]:=by
     have ne:Rs ≠ []:=fun z=>by rw [z] at c1;simp at c1
     exact ⟨Rs.dropLast,Rs.getLast ne,(jC ne).symm⟩
    have hR:R=[]:=by
     unfold rK at c3
     rw [iJ] at c3
     cases R with
     | nil=>rfl
     | cons _ _=>cases c3
    subst hR
    have near0:m_ hs.length [hs]:=⟨hs,hs,rfl,rfl,fun r hr=>.inr (aN.mp hr)⟩
    have N:=Pr (Rs:=Q) hg hl (by omega) (Pu hl) (qz _ _) (by rw [aW,ig] at c2;omega) hw' (fun t ht ah ha=>by
     have tm:=bO.mp ((qz _ _).mem_iff.mp ht)
     have gk:gOk (gat gs t):=⟨(Jq hg1 tm).s,(Jq hg1 tm).t⟩
     have nn:m_ hs.length ah:=by
      rcases ha with rfl | ha
      ·exact near0
      ·exact (hw ah ha).2
     have:=Tr (gat gs t) ah
     have:=wJ wl gk nn
     omega)
    rw [N,Fy,gQ]
    rfl
  ·rw [dFa c2,dY,g_]
   exact sy hg1 (by rw [aC];omega)
 ·rw [dFa c1,dY]
  exact sy hg1 (by rw [aC];omega)
end
theorem Zj {α:Type} (l:List α):l.filter (fun _=>false)=[]:=jt.mpr (by simp)
theorem Cr (R:List (List Int)):gNe (rlD R) (.list [])=some (.bool (!R.isEmpty)):=by
 have h:=Cp R
 unfold gEq at h
 unfold gNe
 split at h
 ·next z =>
  rw [if_pos z]
  cases h':PyData.eqv (rlD R) (.list []) <;> rw [h'] at h <;> cases h2:R.isEmpty <;> rw [h2] at h <;> simp at h <;> rfl
 ·cases h
noncomputable abbrev Zk:=cF (sIf (D3.tOr (D3.mH (cI (dUn (gIs "tuple") (aD 2)))) (cI (dOp gNe (dCall jj (aF (aD 2) (bw))) (aD 1)))) (fJ (dC (.bool false))) (iK)) (sIf (cI (dOp gNe (gW (uY (aD 2)) (gNl 0) (D3.mH (cI (dCall fV (aF (aD 0) (bw))))) (i_ (aD 0)) 1 []) (eU (bw)))) (fJ (dC (.bool false))) (iK))
theorem Fz {w:Nat} (wl:w ≤ 1000) (a:Option U):∀ (R:List (List Int)) (u:Option U),(∀ r ∈ R,r.length=w) →
 ∃ u',jD (gNl 2) Zk (R.map rwD) [a,some (.d (.int (w:Int))),u]=some (.nx [a,some (.d (.int (w:Int))),u'])
 | [],u,_=>⟨u,rfl⟩
 | r :: R,u,h=>by
  obtain ⟨u',e⟩:=Fz wl a R (some (.d (rwD r))) fun x hx=>h x (aH _ hx)
  have lr:r.length=w:=h r aJ
  have ty:D3.isT "tuple" (tyD (rwD r))=true:=isTup
  have ln:jj [rwD r]=some (.int (w:Int)):=by
   show some (PyData.int ((r.map PyData.int).length:Int))=_
   rw [aC,lr]
  have fs:∀ a b:Option U,uY (aD 2) [a,b,some (.d (rwD r))]=some (r.map .int):=fun _ _=>rfl
  have C:=O4 (g:=(gNl 0)) (c:=(D3.mH (cI (dCall fV (aF (aD 0) (bw)))))) (e:=(i_ (aD 0))) (δ:=[none]) PyData.int (fun _=>false) PyData.int r (fun x _=>by
   refine ⟨[some (.d (.int x))],rfl,?_,fun z=>by cases z⟩
   have w:fV [.int x]=some (.bool true):=lwh (.int x)
   simp only [EV,reduceIte,ao,aq,aj,ak,au,aA,aB,w,cV])
  rw [Zj] at C
  have ca:∀ a b c:Option U,iw 1 [] [a,b,c]=[none]:=fun _ _ _=>rfl
  have ll:(r.map PyData.int).length ≤ 100000:=by rw [aC];omega
  have b1:Zk [a,some (.d (.int (w:Int))),some (.d (rwD r))]=some (.nx [a,some (.d (.int (w:Int))),some (.d (rwD r))]):=by
   have ne:gNe (.list []) (.list [])=some (.bool false):=rfl
   have nw:gNe (.int (w:Int)) (.int (w:Int))=some (.bool false):=by
    show some (PyData.bool (!decide ((w:Int)=(w:Int))))=_
    rw [dTr rfl]
    rfl
   simp only [EV,reduceIte,ao,aq,aj,ak,au,aA,aB,ty,ln,nw,fs,ll,ca,C,iI,ne,cV,Com.sz (show 0 ≤ 1000000 by decide)]
  exact ⟨u',by rw [aP];exact (oM rfl b1).trans e⟩
theorem Tt {w:Nat} (hw:∀ r ∈ R,r.length=w) (wl:w ≤ 1000):ji [rlD R,.int (w:Int)]=some (.bool true):=by
 obtain ⟨u',e⟩:=Fz wl (some (.d (rlD R))) R none hw
 have ty:D3.isT "list" (tyD (rlD R))=true:=(by decide:D3.isT "list" "list" = true)
 have fs:∀ a b:Option U,uY (aD 0) [some (.d (rlD R)),a,b]=some (R.map rwD):=fun _ _=>rfl
 unfold ji
 simp only [EV,reduceIte,ao,aq,aj,ak,au,aA,aB,ty,fs,e,cV]
noncomputable abbrev Tv:=cF (sIf (cI (dOp gNe (gW (rC (dCall f9 (aF (aD 3) (aF (aD 5) (bw))))) (gNl 0) (cI (dOp xK (aD 0) (aD 1))) (i_ (aD 0)) 1 [4]) (eU (bw)))) (fJ (dC (.bool false))) (iK)) (b_ 3 (aD 4))
theorem FJ {w:Nat} (w1:1 ≤ w) (w4:w ≤ 4) (a b c:Option U):∀ (ts:List Wi) (Rs:List (List (List Int))) (ah:List (List Int)) (u v:Option U),(∀ g ∈ ts,gOk g)→m_ w ah→ah.length ≤ 1000→(∀ R ∈ Rs,R.length ≤ 1000∧m_ w R)→Rs.length ≤ ts.length →
 (chk ah ts Rs=true∧∃ u' v',jD (gTn 2 (d7 (gNl 4) (d7 (gNl 5) (nF)))) Tv (pC (Rs.map rlD) (ts.map wiD)) [a,b,c,some (.d (rlD ah)),u,v]=some (.nx [a,b,c,some (.d (rlD (Rs.getLastD ah))),u',v'])) ∨
 (chk ah ts Rs=false∧jD (gTn 2 (d7 (gNl 4) (d7 (gNl 5) (nF)))) Tv (pC (Rs.map rlD) (ts.map wiD)) [a,b,c,some (.d (rlD ah)),u,v]=some (.rt (.bool false)))
 | [],[],ah,u,v,_,_,_,_,_=>.inl ⟨by unfold chk;rfl,u,v,rfl⟩
 | _ :: _,[],ah,u,v,_,_,_,_,_=>.inl ⟨by unfold chk;rfl,u,v,rfl⟩
 | [],_ :: _,ah,u,v,_,_,_,_,h=>absurd h (by simp)
 | g :: ts,R :: Rs,ah,u,v,hg,hn,ha,hR,hl=>by
  have gk:=hg g aJ
  have nn:=wJ w4 gk hn
  have nx:=Fo (g:=g) (rows:=ah) gk.1 gk.2 (fun r h=>by rw [hn.len r h];omega) ha (by omega)
  have nx:f9 [rlD ah,wiD g]=some (.list ((XJ.iz (nxT g ah)).map rwD)):=nx
  have pl:=(oN (nxT g ah)).length_eq
  have C:=O4 (g:=(gNl 0)) (c:=(cI (dOp xK (aD 0) (aD 1)))) (e:=(i_ (aD 0))) (δ:=[none,some (.d (rlD R))]) rwD (fun x=>!decide (x ∈ R)) rwD (XJ.iz (nxT g ah)) (fun x _=>by
   refine ⟨[some (.d (rwD x)),some (.d (rlD R))],rfl,?_,fun _=>?_⟩
   ·simp only [EV,reduceIte,ao,aq,aj,ak,au,aA,aB,PN x R]
   ·simp only [EV,reduceIte,ao,aq,aj,ak,au,aA,aB,show flat (rwD x)=true from jJ PyData.int (fun _=>rfl) x])
  have ca:∀ a b c d e f:Option U,iw 1 [4] [a,b,c,d,e,f]=[none,e]:=fun _ _ _ _ _ _=>rfl
  have ll:((XJ.iz (nxT g ah)).map rwD).length ≤ 100000:=by rw [aC];omega
  have N:=Cr ((XJ.iz (nxT g ah)).filter fun x=>!decide (x ∈ R))
  have S:((XJ.iz (nxT g ah)).filter fun x=>!decide (x ∈ R)).isEmpty=sub g ah R:=by
   unfold sub
   rw [nj,List.isEmpty_iff,jt,dN]
   constructor
   ·intro h x hx
    have:=h x (pX.mpr hx)
    simpa using this
   ·intro h x hx
    have:=h x (pX.mp hx)
    simpa using this
  rw [S] at N
  have N:gNe (.list (((XJ.iz (nxT g ah)).filter fun x=>!decide (x ∈ R)).map rwD)) (.list [])=some (.bool (!sub g ah R)):=N
  have z:pC ((R :: Rs).map rlD) ((g :: ts).map wiD) = .tuple [rlD R,wiD g] :: pC (Rs.map rlD) (ts.map wiD):=rfl
  have gg:(gTn 2 (d7 (gNl 4) (d7 (gNl 5) (nF)))) (.tuple [rlD R,wiD g]) [a,b,c,some (.d (rlD ah)),u,v]=some [a,b,c,some (.d (rlD ah)),some (.d (rlD R)),some (.d (wiD g))]:=rfl
  rw [z,chk]
  cases s:sub g ah R with
  | true =>
   rw [s] at N
   have b1:Tv [a,b,c,some (.d (rlD ah)),some (.d (rlD R)),some (.d (wiD g))]=some (.nx [a,b,c,some (.d (rlD R)),some (.d (rlD R)),some (.d (wiD g))]):=by
    simp only [EV,reduceIte,ao,aq,aj,ak,au,aA,aB,nx,ll,ca,C,N,cV,Com.sz (show 0 ≤ 1000000 by decide)]
   have ih:=FJ w1 w4 a b c ts Rs R (some (.d (rlD R))) (some (.d (wiD g))) (fun g' h'=>hg g' (aH _ h')) (hR R aJ).2 (hR R aJ).1 (fun x hx=>hR x (aH _ hx)) (by simpa using hl)
   rw [oM gg b1,gQ,List.getLastD_cons]
   exact ih
  | false =>
   rw [s] at N
   have b1:Tv [a,b,c,some (.d (rlD ah)),some (.d (rlD R)),some (.d (wiD g))]=some (.rt (.bool false)):=by
    simp only [EV,reduceIte,ao,aq,aj,ak,au,aA,aB,nx,ll,ca,C,N,jf,Com.sz (show 0 ≤ 1000000 by decide)]
   refine .inr ⟨dY _,?_⟩
   rw [jD,gg,aK,b1]
   rfl
section
variable {hs:List Int} {gs:List Wi} {Rs:List (List (List Int))}
theorem FN (hs:List Int):m_ hs.length [hs]:=⟨hs,hs,rfl,rfl,fun _ hr=>.inr (aN.mp hr)⟩
theorem Hl (hg:∀ g ∈ gs,gOk g) (hl:gs.length < 64) (w1:1 ≤ hs.length) (wl:hs.length ≤ 4) (hw:∀ R ∈ Rs,R.length ≤ 1000∧m_ hs.length R) :
 iZ [.list (hs.map .int),.list (gs.map wiD),.list (Rs.map rlD)]=some (.bool (yW hs gs Rs)):=by
 have ty:D3.isT "list" (tyD (.list (Rs.map rlD)))=true:=(by decide:D3.isT "list" "list" = true)
 unfold yW
 by_cases c1:1 ≤ Rs.length
 ·by_cases c2:Rs.length ≤ gs.length
  ·rw [dTr c1,dTr c2,gQ,gQ]
   have T:=yu hl
   have C:=O4 (g:=(gNl 0)) (c:=(D3.mH (cI (dCall ji (aF (aD 0) (aF (dCall jj (aF (aD 1) (bw))) (bw))))))) (e:=(i_ (aD 0))) (δ:=[none,some (.d (.list (hs.map .int)))]) rlD (fun _=>false) rlD Rs (fun R hR=>by
    refine ⟨[some (.d (rlD R)),some (.d (.list (hs.map .int)))],rfl,?_,fun z=>by cases z⟩
    have i:=Tt (hw R hR).2.len (by omega)
    simp only [EV,reduceIte,ao,aq,aj,ak,au,aA,aB,lMp,i,cV])
   rw [Zj] at C
   have ca:∀ a b c d e f:Option U,iw 1 [0] [a,b,c,d,e,f]=[none,a]:=fun _ _ _ _ _ _=>rfl
   have ll:(Rs.map rlD).length ≤ 100000:=by rw [aC];omega
   have ne:gNe (.list []) (.list [])=some (.bool false):=rfl
   have L:=FJ w1 wl (some (.d (.list (hs.map .int)))) (some (.d (.list (gs.map wiD)))) (some (.d (.list (Rs.map rlD)))) (inT gs) Rs [hs] none none (fun g h=>hg g (wL.mp h)) (FN hs) (by simp) hw (by rw [wK];exact c2)
   have rh:rlD [hs] = .list [.tuple (hs.map .int)]:=rfl
   have E:=Cp (Rs.getLastD [hs])
   have le:rK Rs=(Rs.getLastD [hs]).isEmpty:=by
    obtain ⟨Q,R,rfl⟩:∃ Q R,Rs=Q++[R]:=by
     have ne:Rs ≠ []:=fun z=>by rw [z] at c1;simp at c1
     exact ⟨Rs.dropLast,Rs.getLast ne,(jC ne).symm⟩
    rw [List.getLastD_concat]
    unfold rK
    rw [iJ]
    cases R <;> rfl
   rw [rh] at L
   unfold iZ
   rcases L with ⟨e1,u',v',e2⟩ | ⟨e1,e2⟩
   ·rw [e1,pq,le]
    simp only [EV,reduceIte,ao,aq,aj,ak,au,aA,aB,ty,lMp,dTr (show (1:Int) ≤ (Rs.length:Int) by omega),dTr (show (Rs.length:Int) ≤ (gs.length:Int) by omega),cV,ll,show Rs.length ≤ 100000 by omega,ca,C,iI,ne,pD,T,e2,E,Com.sz (show 0 ≤ 1000000 by decide),Com.sz (show 1 ≤ 1000000 by decide)]
   ·rw [e1,g_]
    simp only [EV,reduceIte,ao,aq,aj,ak,au,aA,aB,ty,lMp,dTr (show (1:Int) ≤ (Rs.length:Int) by omega),dTr (show (Rs.length:Int) ≤ (gs.length:Int) by omega),cV,ll,show Rs.length ≤ 100000 by omega,ca,C,iI,ne,pD,T,e2,Com.sz (show 0 ≤ 1000000 by decide),Com.sz (show 1 ≤ 1000000 by decide)]
  ·rw [dFa c2,dY,g_]
   unfold iZ
   simp only [EV,reduceIte,ao,aq,aj,ak,au,aA,aB,ty,lMp,dTr (show (1:Int) ≤ (Rs.length:Int) by omega),dFa (show ¬ (Rs.length:Int) ≤ (gs.length:Int) by omega),cV,jf]
 ·rw [dFa c1,dY]
  unfold iZ
  simp only [EV,reduceIte,ao,aq,aj,ak,au,aA,aB,ty,lMp,dFa (show ¬ (1:Int) ≤ (Rs.length:Int) by omega),cV,jf]
end
theorem P0:∀ (gs:List Wi) (rows:List (List Int)),chk rows gs (ls rows gs)=true
 | [],rows=>by unfold chk;rfl
 | g :: gs,rows=>by
  rw [su,chk,aY]
  refine ⟨dN.mpr fun x hx=>dTr (pX.mpr hx),?_⟩
  by_cases e:nxT g rows=[]
  ·rw [if_pos e]
   unfold chk
   split <;> trivial
  ·rw [if_neg e]
   exact P0 gs _
theorem sE:∀ l:List D,(∀ d ∈ l,ly n d)→lys n l
 | [],_=>uK
 | a :: r,h=>oK (h a aJ) (sE r fun d hd=>h d (aH _ hd))
theorem yD (p:D→Bool) (l:List D):uQ [.list (l.map fun d=>PyData.bool (p d))]=some (.bool (l.all p)):=by
 have B:∀ l:List D,gF (l.map fun d=>PyData.bool (p d))=some (l.map p):=fun l=>by
  induction l with
  | nil=>rfl
  | cons a r ih=>rw [aP,gF,ih];rfl
 show (gF _).map (fun bs=>PyData.bool (bs.all id))=_
 rw [B,iD,List.all_map]
 rfl
theorem W_ (hl:l.length ≤ 1000):iR [.tuple l]=some (.bool (l.all isI)):=by
 have C:=q_ (g:=(gNl 0)) (c:=(D3.jx)) (e:=(dCall eY (aF (aD 0) (bw)))) (δ:=[none]) (fun d:D=>d) (fun d=>.bool (isI d)) l (fun d h=>⟨[some (.d d)],rfl,rfl,by simp only [EV,reduceIte,ao,aq,aj,ak,au,aA,aB,wh]⟩)
 rw [jW] at C
 have ca:∀ a:Option U,iw 1 [] [a]=[none]:=fun _=>rfl
 have fs:uY (aD 0) [some (.d (.tuple l))]=some l:=rfl
 unfold iR
 simp only [EV,reduceIte,ao,aq,aj,ak,au,aA,aB,fs,show l.length ≤ 100000 by omega,ca,C,yD isI l]
def vp (w:Nat):D→Bool
 | .tuple l=>decide ((l.length:Int)=(w:Int)) && l.all isI
 | _=>false
def rlB (w:Nat):D→Bool
 | .list l=>l.all (vp w)
 | _=>false
def szT (d:D):Prop:=∀ l,d = .tuple l→l.length ≤ 1000
def szR (d:D):Prop:=∀ l,d = .list l→l.length ≤ 1000∧∀ x ∈ l,szT x
theorem Tw {w:Nat} (h:szT d):dg [d,.int (w:Int)]=some (.bool (vp w d)):=by
 have no:D3.isT "tuple" (tyD d)=false→vp w d=false→dg [d,.int (w:Int)]=some (.bool (vp w d)):=fun q r=>by
  rw [r]
  unfold dg
  simp only [EV,reduceIte,ao,aq,aj,ak,au,aA,aB,q]
 cases d with
 | tuple l =>
  have A:=W_ (h l rfl)
  unfold dg
  show _=some (PyData.bool (decide ((l.length:Int)=(w:Int)) && l.all isI))
  cases c:decide ((l.length:Int)=(w:Int)) with
  | true=>simp only [EV,reduceIte,ao,aq,aj,ak,au,aA,aB,isTup,show tyD (.tuple l) = "tuple" from rfl,c,A,gQ]
  | false=>simp only [EV,reduceIte,ao,aq,aj,ak,au,aA,aB,isTup,show tyD (.tuple l) = "tuple" from rfl,c,dY]
 | none=>exact no (by decide) rfl
 | bool b=>exact no (by cases b <;> decide) rfl
 | int i=>exact no (show D3.isT "tuple" "int" = false by decide) rfl
 | str s=>exact no (show D3.isT "tuple" "str" = false by decide) rfl
 | list l=>exact no (show D3.isT "tuple" "list" = false by decide) rfl
 | dict l=>exact no (show D3.isT "tuple" "dict" = false by decide) rfl
theorem Xa:D3.isT "list" "list" = true:=by decide
theorem P_ {w:Nat} (h:szR d):dM [d,.int (w:Int)]=some (.bool (rlB w d)):=by
 have no:D3.isT "list" (tyD d)=false→rlB w d=false→dM [d,.int (w:Int)]=some (.bool (rlB w d)):=fun q r=>by
  rw [r]
  unfold dM
  simp only [EV,reduceIte,ao,aq,aj,ak,au,aA,aB,q]
 cases d with
 | list l =>
  obtain ⟨h1,h2⟩:=h l rfl
  have C:=q_ (g:=(gNl 0)) (c:=(D3.jx)) (e:=Zg) (δ:=[none,some (.d (.int (w:Int)))]) (fun d:D=>d) (fun d=>.bool (vp w d)) l (fun d hd=>⟨[some (.d d),some (.d (.int (w:Int)))],rfl,rfl,by simp only [EV,reduceIte,ao,aq,aj,ak,au,aA,aB,Tw (w:=w) (h2 d hd)]⟩)
  rw [jW] at C
  have ca:∀ a b:Option U,iw 1 [1] [a,b]=[none,b]:=fun _ _=>rfl
  unfold dM
  simp only [EV,reduceIte,ao,aq,aj,ak,au,aA,aB,Xa,show tyD (.list l) = "list" from rfl,show l.length ≤ 100000 by omega,ca,C,yD (vp w) l]
  rfl
 | none=>exact no (by decide) rfl
 | bool b=>exact no (by cases b <;> decide) rfl
 | int i=>exact no (show D3.isT "list" "int" = false by decide) rfl
 | str s=>exact no (show D3.isT "list" "str" = false by decide) rfl
 | tuple l=>exact no (show D3.isT "list" "tuple" = false by decide) rfl
 | dict l=>exact no (show D3.isT "list" "dict" = false by decide) rfl
theorem mV {m:Nat} (hf:flat d=true) (q:D3.isT "list" (tyD d)=false):dX (m + 1) [d]=some d:=by
 unfold dX
 simp only [EV,reduceIte,ao,aq,aj,ak,au,aA,aB,q,hf]
theorem copy_list {m:Nat} (hl:l.length ≤ 100000) (h:∀ d ∈ l,dX m [d]=some d):dX (m + 1) [.list l]=some (.list l):=by
 have C:=q_ (g:=gNl 0) (c:=jx) (e:=dCall (dX m) (aF (aD 0) bw)) (δ:=[none]) (fun d:D=>d) (fun d=>d) l (fun d hd=>⟨[some (.d d)],rfl,rfl,by simp only [EV,reduceIte,ao,aq,aj,ak,au,aA,aB,h d hd]⟩)
 rw [jW] at C
 have ca:∀ a:Option U,iw 1 [] [a]=[none]:=fun _=>rfl
 unfold dX
 simp only [EV,reduceIte,ao,aq,aj,ak,au,aA,aB,Xa,show tyD (.list l) = "list" from rfl,hl,ca,C]
theorem Cu {m:Nat} (h:R.length ≤ 1000):dX (m + 2) [rlD R]=some (rlD R) :=
 copy_list (by rw [aC];omega) fun d hd=>by
  obtain ⟨r,_,rfl⟩:=bT.mp hd
  exact mV (jJ PyData.int (fun _=>rfl) r) (show D3.isT "list" "tuple" = false by decide)
section
variable {hs:List Int} {gs:List Wi}
theorem Ah:yP (.list [.list (hs.map .int),.list (gs.map wiD)]) (.list [.list (hs.map .int),.list (gs.map wiD)])=some (.bool true) :=
 uy (Com.eq_self (lF (mq (n:=10) (oK (lF (mq (m5 (n:=1) PyData.int (fun _=>rH) hs)) (by decide)) (oK (lF (mq (m5 wiD Ze gs)) (by decide)) uK))) (by decide)))
theorem FP (b:Bool):J9 (.bool b) (.bool b)=some (.bool false):=Ru (by cases b <;> rfl)
theorem rM {b:Bool} (L:fM [.list (hs.map .int),.list (gs.map wiD),.list l]=some (.bool b)) (K:dX 12 [.list l]=some (.list l)) (E2:ly 60 (.list l)):cW [.list (hs.map .int),.list (gs.map wiD),.list l,.bool b]=some (.bool true):=by
 have E:=Ah (hs:=hs) (gs:=gs)
 have E2:=uy (Com.eq_self E2)
 have ib:D3.isT "bool" (tyD (.bool b))=true:=by cases b <;> rfl
 have K2:∀ a b c d e f:Option U,BX m9 jA (aF (aD 2) bw) [a,b,some (.d (.list l)),c,d,e,f]=some (.list l):=fun _ _ _ _ _ _=>K
 unfold cW
 simp only [EV,reduceIte,ao,aq,aj,ak,au,aA,aB,K2,at0,at1,L,ib,FP,E,E2,Com.sz (show 2 ≤ 1000000 by decide),cV]
theorem tU {t:D} (hg:∀ g ∈ gs,grOk g) (q:D3.isT "list" (tyD t)=false) (E2:yP t t=some (.bool true)):cW [.list (hs.map .int),.list (gs.map wiD),t,.bool false]=some (.bool true):=by
 have E:=Ah (hs:=hs) (gs:=gs)
 have ck:d8 [.list (gs.map wiD)]=some .none:=pW hg
 have L:fM [.list (hs.map .int),.list (gs.map wiD),t]=some (.bool false):=by
  unfold fM
  simp only [EV,reduceIte,ao,aq,aj,ak,au,aA,aB,ck,q,jf]
 have C:jA [t]=some t:=by
  unfold jA
  simp only [EV,reduceIte,ao,aq,aj,ak,au,aA,aB,o7,iQ,lA,h_,q]
 have K2:∀ a b c d e f:Option U,BX m9 jA (aF (aD 2) bw) [a,b,some (.d t),c,d,e,f]=some t:=fun _ _ _ _ _ _=>by
  cases t with
  | list l=>exact absurd q (show ¬ (true=false) by decide)
  | _=>exact C
 have ib:D3.isT "bool" (tyD (.bool false))=true:=rfl
 unfold cW
 simp only [EV,reduceIte,ao,aq,aj,ak,au,aA,aB,K2,at0,at1,L,ib,FP,E,E2,Com.sz (show 2 ≤ 1000000 by decide),cV]
theorem Qa (hg:∀ g ∈ gs,grOk g) (gl:gs.length < 64) (hz:∀ d ∈ l,szR d) (h:∃ d ∈ l,rlB hs.length d=false):fM [.list (hs.map .int),.list (gs.map wiD),.list l]=some (.bool false):=by
 by_cases c:1 ≤ l.length∧l.length ≤ gs.length
 ·have ck:d8 [.list (gs.map wiD)]=some .none:=pW hg
  have C:=q_ (g:=(gNl 0)) (c:=(D3.jx)) (e:=W7) (δ:=[none,some (.d (.list (hs.map .int)))]) (fun d:D=>d) (fun d=>.bool (rlB hs.length d)) l (fun d hd=>⟨[some (.d d),some (.d (.list (hs.map .int)))],rfl,rfl,by
   have r:=P_ (w:=hs.length) (hz d hd)
   simp only [EV,reduceIte,ao,aq,aj,ak,au,aA,aB,lMp,r]⟩)
  rw [jW] at C
  have ca:∀ a b c d e f:Option U,iw 1 [0] [a,b,c,d,e,f]=[none,a]:=fun _ _ _ _ _ _=>rfl
  have al:l.all (rlB hs.length)=false:=by
   obtain ⟨d,h1,h2⟩:=h
   cases q:l.all (rlB hs.length) with
   | false=>rfl
   | true=>rw [dN.mp q d h1] at h2;cases h2
  have A:=yD (rlB hs.length) l
  rw [al] at A
  unfold fM
  simp only [EV,reduceIte,ao,aq,aj,ak,au,aA,aB,ck,Xa,show tyD (.list l) = "list" from rfl,lMp,dTr (show (1:Int) ≤ (l.length:Int) by omega),dTr (show (l.length:Int) ≤ (gs.length:Int) by omega),show l.length ≤ 100000 by omega,ca,C,A,cV,jf]
 ·exact sy hg c
end
theorem uM {m:List D} (h:l.length + m.length ≤ 1000000):fQ (.list l) (.list m)=some (.list (l++m)):=by
 have:=uL (fun d:D=>d) (l:=l) (m:=m) h
 rw [jW,jW,jW] at this
 exact this
theorem Cv {v:D} {k:Int} (h:k ≤ 1000) (h':0 ≤ k):pL (.list [v]) (.int k)=some (.list (aG k.toNat v)):=by
 show (if [v].length * k.toNat ≤ 1000000∧-(2 ^ 63) ≤ k∧k < 2 ^ 63 then some (PyData.list (aG k.toNat [v]).flatten) else none)=_
 rw [if_pos ⟨by simp only [bM,gD];omega,by omega,by omega⟩]
 congr 2
 generalize k.toNat=n
 induction n with
 | zero=>rfl
 | succ n ih=>rw [bZ,eO,ih,bZ];rfl
theorem FQ (l:List D) (d:D):cutD (l++[d]) none (some (-1))=l:=by
 unfold cutD
 have e1:pSx (l++[d]).length (l++[d]).length (some (-1))=l.length:=by
  show (if (-1:Int) < 0 then ((-1:Int) + ((l++[d]).length:Int)).toNat else min (-1:Int).toNat (l++[d]).length)=_
  rw [if_pos (by decide),aW,ig]
  omega
 have e0:pSx (l++[d]).length 0 none=0:=rfl
 rw [e1,e0,List.drop_zero,Nat.sub_zero,List.take_left']
 rfl
section
variable {hs:List Int} {gs:List Wi} {Rs:List (List (List Int))}
theorem qH (hg:∀ g ∈ gs,grOk g∧gOk g) (hl:gs.length < 64) (wl:hs.length ≤ 4) (hw:∀ R ∈ Rs,R.length ≤ 1000∧m_ hs.length R) (hR:Rs.length ≤ 1000) :
 cW [.list (hs.map .int),.list (gs.map wiD),.list (Rs.map rlD),.bool (yW hs gs Rs)]=some (.bool true) :=
 rM (PX hg hl wl hw) (copy_list (by rw [aC];omega) fun d hd=>by
  obtain ⟨R,h,rfl⟩:=bT.mp hd
  exact Cu (m:=9) (hw R h).1) (lF (mq (m5 rlD Fx Rs)) (by decide))
def Qc (d:D):Prop:=szR d∧ly 40 d∧dX 11 [d]=some d
theorem yE (hg:∀ g ∈ gs,grOk g) (gl:gs.length < 64) (hL:l.length ≤ 1000) (hd:∀ d ∈ l,Qc d) (h:∃ d ∈ l,rlB hs.length d=false) :
 cW [.list (hs.map .int),.list (gs.map wiD),.list l,.bool false]=some (.bool true) :=
 rM (Qa hg gl (fun d h=>(hd d h).1) h) (copy_list (by omega) fun d h=>(hd d h).2.2) (lF (mq (sE l fun d h=>(hd d h).2.1)) (by decide))
theorem Zm (h:R.length ≤ 1000∧∀ r ∈ R,r.length ≤ 1000):szR (rlD R):=fun l e=>by
 cases e
 refine ⟨by rw [aC];exact h.1,fun x hx=>?_⟩
 obtain ⟨r,hr,rfl⟩:=bT.mp hx
 intro m e
 cases e
 rw [aC]
 exact h.2 r hr
theorem Um (h:R.length ≤ 1000∧∀ r ∈ R,r.length ≤ 1000):Qc (rlD R):=⟨Zm h,lF (Fx R) (by decide),Cu (m:=9) h.1⟩
theorem Ho {A B:List (List (List Int))} {x:D} (hg:∀ g ∈ gs,grOk g) (gl:gs.length < 64) (hL:A.length + B.length ≤ 900) (hA:∀ R ∈ A,R.length ≤ 1000∧∀ r ∈ R,r.length ≤ 1000) (hB:∀ R ∈ B,R.length ≤ 1000∧∀ r ∈ R,r.length ≤ 1000) (hx:Qc x) (h:rlB hs.length x=false) :
 cW [.list (hs.map .int),.list (gs.map wiD),.list (A.map rlD++[x]++B.map rlD),.bool false]=some (.bool true) :=
 yE hg gl (by simp;omega) (fun d hd=>by
  rcases bK.mp hd with hd | hd
  ·rcases bK.mp hd with hd | hd
   ·obtain ⟨R,h,rfl⟩:=bT.mp hd
    exact Um (hA R h)
   ·rw [aN.mp hd]
    exact hx
  ·obtain ⟨R,h,rfl⟩:=bT.mp hd
   exact Um (hB R h)) ⟨x,by simp,h⟩
def Qd (w:Nat) (d:D):Prop:=szT d∧ly 20 d∧dX 10 [d]=some d∧vp w d=false
theorem Zn {w:Nat} {x:D} (h:R.length ≤ 900∧∀ r ∈ R,r.length ≤ 1000) (hx:Qd w x):Qc (.list (R.map rwD++[x]))∧rlB w (.list (R.map rwD++[x]))=false:=by
 obtain ⟨h1,h2,h3,h4⟩:=hx
 refine ⟨⟨fun l e=>?_,?_,?_⟩,?_⟩
 ·cases e
  refine ⟨by simp;omega,fun y hy=>?_⟩
  rcases bK.mp hy with hy | hy
  ·obtain ⟨r,hr,rfl⟩:=bT.mp hy
   intro m e
   cases e
   rw [aC]
   exact h.2 r hr
  ·rw [aN.mp hy]
   exact h1
 ·refine lF (mq (sE _ fun y hy=>?_)) (show 21 ≤ 40 by decide)
  rcases bK.mp hy with hy | hy
  ·obtain ⟨r,hr,rfl⟩:=bT.mp hy
   exact lF (JB r) (by decide)
  ·rw [aN.mp hy]
   exact h2
 ·refine copy_list (by simp;omega) fun y hy=>?_
  rcases bK.mp hy with hy | hy
  ·obtain ⟨r,hr,rfl⟩:=bT.mp hy
   exact mV (m:=9) (jJ PyData.int (fun _=>rfl) r) (show D3.isT "list" "tuple" = false by decide)
  ·rw [aN.mp hy]
   exact h3
 ·show (R.map rwD++[x]).all (vp w)=false
  rw [List.all_append,sJ,h4,dY,g_]
theorem Hq {w:Nat} {v:D} (hn:n ≤ 1000) (hf:flat v=true) (hv:ly 2 v) (h:vp w (.tuple (aG n v))=false):Qd w (.tuple (aG n v)):=by
 refine ⟨fun l e=>?_,lF (vh (sE _ fun d hd=>?_)) (show 3 ≤ 20 by decide),mV (m:=9) ?_ (show D3.isT "list" "tuple" = false by decide),h⟩
 ·cases e
  rw [bD]
  exact hn
 ·rw [(k_.mp hd).2]
  exact hv
 ·show flats (aG n v)=true
  clear h
  induction n with
  | zero=>rfl
  | succ n ih=>rw [bZ,flats,hf,ih (by omega)];rfl
theorem Tz {w:Nat}:Qd w .none:=⟨fun _ e=>(by cases e),⟨rfl,by decide⟩,mV (m:=9) rfl (by decide),rfl⟩
theorem TF {w:Nat} (hn:n ≤ 1000):Qd w (.list (aG n (.int 0))):=by
 refine ⟨fun _ e=>(by cases e),lF (mq (n:=2) (sE _ fun d hd=>?_)) (by decide),copy_list (m:=9) (by rw [bD];omega) fun d hd=>?_,rfl⟩
 ·rw [(k_.mp hd).2]
  exact rH
 ·rw [(k_.mp hd).2]
  exact mV (m:=8) rfl (show D3.isT "list" "int" = false by decide)
theorem Qe {w:Nat} (w1:1 ≤ w) {v:D} (hv:isI v=false):vp w (.tuple (aG w v))=false:=by
 obtain ⟨n,rfl⟩:∃ n,w=n + 1:=⟨w - 1,by omega⟩
 show (decide (((aG (n + 1) v).length:Int)=((n + 1:Nat):Int)) && (aG (n + 1) v).all isI)=false
 rw [bZ,sJ,hv,dY,g_]
theorem Qf {w:Nat} {v:D}:vp w (.tuple (aG (w + 1) v))=false:=by
 show (decide (((aG (w + 1) v).length:Int)=(w:Int)) && (aG (w + 1) v).all isI)=false
 rw [bD,dFa (by omega),dY]
end
theorem TJ {L':List (List (List Int))} {a:Nat} {w way:Int} (hg:∀ g ∈ gs,grOk g∧gOk g) (gl:gs.length < 64) (w1:1 ≤ hs.length) (wl:hs.length ≤ 4) (hw:(hs.length:Int)=w) (hL:∀ R ∈ L'++[[]],R.length ≤ 28∧m_ hs.length R) (ll:L'.length ≤ 100) (ha:a < (L'++[[]]).length) (y0:0 ≤ way) (y1:way < 13) :
 ∃ t,jT [.list ((L'++[[]]).map rlD),.int (a:Int),.int w,.int way]=some t∧cW [.list (hs.map .int),.list (gs.map wiD),t,.bool false]=some (.bool true):=by
 have lb:∀ R ∈ L'++[[]],R.length ≤ 900∧∀ r ∈ R,r.length ≤ 1000:=fun R h=>⟨by have:=(hL R h).1;omega,fun r hr=>by rw [(hL R h).2.len r hr];omega⟩
 have k1:cutD ((L'++[[]]).map rlD) none (some (-1))=L'.map rlD:=by
  rw [cT]
  exact FQ _ _
 have l5:((L'++[[]]).map rlD).length ≤ 101:=by rw [aC,aW];simp;omega
 generalize hLs:L'++[[]]=Ls at *
 have lL:Ls.length ≤ 101:=by rw [aC] at l5;exact l5
 have hg1:∀ g ∈ gs,grOk g:=fun g h=>(hg g h).1
 have k2:cutD (Ls.map rlD) none (some (a:Int))=(Ls.take a).map rlD:=by rw [Ad (by omega),iV,show ((a:Int)).toNat=a by omega]
 have k3:cutD (Ls.map rlD) (some ((a:Int) + 1)) none=(Ls.drop (a + 1)).map rlD:=by rw [Es (by omega),jH,show ((a:Int) + 1).toNat=a + 1 by omega]
 have k4:pAt (Ls.map rlD) (a:Int)=some (rlD Ls[a]):=by
  refine rT.trans ?_
  rw [aR,aO ha]
  rfl
 have bA:∀ R ∈ Ls.take a,R.length ≤ 1000∧∀ r ∈ R,r.length ≤ 1000:=fun R h=>⟨by have:=(lb R (dH h)).1;omega,(lb R (dH h)).2⟩
 have bB:∀ R ∈ Ls.drop (a + 1),R.length ≤ 1000∧∀ r ∈ R,r.length ≤ 1000:=fun R h=>⟨by have:=(lb R (fX h)).1;omega,(lb R (fX h)).2⟩
 have bR:=lb Ls[a] (fK ha)
 have nA:(Ls.take a).length ≤ 101:=by rw [bG];omega
 have nB:(Ls.drop (a + 1)).length ≤ 101:=by rw [cN];omega
 generalize Ls.take a=A at *
 generalize Ls.drop (a + 1)=B at *
 generalize Ls[a]=R at *
 have P:∀ x,Qc x→rlB hs.length x=false→cW [.list (hs.map .int),.list (gs.map wiD),.list (A.map rlD++[x]++B.map rlD),.bool false]=some (.bool true):=fun x h1 h2=>Ho hg1 gl (by omega) bA bB h1 h2
 have c1:∀ x,fQ (.list (A.map rlD)) (.list [x])=some (.list (A.map rlD++[x])):=fun x=>uM (by rw [aC];simp;omega)
 have c2:∀ x,fQ (.list (A.map rlD++[x])) (.list (B.map rlD))=some (.list (A.map rlD++[x]++B.map rlD)):=fun x=>uM (by simp;omega)
 have c3:∀ x,fQ (.list (L'.map rlD)) (.list [x])=some (.list (L'.map rlD++[x])):=fun x=>uM (by simp;omega)
 have c4:∀ x,fQ (rlD R) (.list [x])=some (.list (R.map rwD++[x])):=fun x=>uM (by simp;omega)
 have t1:jG (rlD R)=some (.tuple (R.map rwD)):=rfl
 subst hw
 have r1:∀ v,pL (.list [v]) (.int (hs.length:Int))=some (.list (aG hs.length v)):=fun v=>Cv (by omega) (by omega)
 obtain ⟨n,hn⟩:∃ n,n=hs.length + 1:=⟨_,rfl⟩
 have r2:∀ v,pL (.list [v]) (.int ((hs.length:Int) + 1))=some (.list (aG n v)):=fun v=>by
  rw [Cv (by omega) (by omega),show ((hs.length:Int) + 1).toNat=n by omega]
 by_cases c:way < 8
 ·have E:∀ t,pAt [.none,.list [],.dict [],.tuple (Ls.map rlD),.list (A.map rlD++[.none]++B.map rlD),.list (A.map rlD++[.tuple (R.map rwD)]++B.map rlD),.list (L'.map rlD++[.list [.tuple (aG hs.length (.int 0))]]),.list [.list (L'.map rlD++[.list []])]] way=some t→jT [.list (Ls.map rlD),.int (a:Int),.int (hs.length:Int),.int way]=some t:=fun t p=>by
   unfold jT
   simp only [EV,reduceIte,ao,aq,aj,ak,au,aA,aB,o7,iQ,lA,h_,pD,k1,k2,k3,k4,c1,c2,c3,t1,r1,dTr c,p,Com.sz (show 0 ≤ 1000000 by decide),Com.sz (show 1 ≤ 1000000 by decide),Com.sz (show 5 ≤ 1000000 by decide),bM,gD,mG,iH]
   rfl
  have:way=0∨way=1∨way=2∨way=3∨way=4∨way=5∨way=6∨way=7:=by omega
  rcases this with rfl | rfl | rfl | rfl | rfl | rfl | rfl | rfl
  ·exact ⟨_,E _ rfl,tU hg1 (by decide) (uy rfl)⟩
  ·exact ⟨_,E _ rfl,rM (sy hg1 (by simp)) (copy_list (by simp) (by simp)) (lF (mq (n:=1) uK) (by decide))⟩
  ·exact ⟨_,E _ rfl,tU hg1 (show D3.isT "list" "dict" = false by decide) (by
    cases q:SeqAt.shaped (.dict []) with
    | true=>refine uy ?_;unfold gEq;rw [q,eqv_refl _ (SeqAt.canLay_of_shaped q)];rfl
    | false=>exact Mv q rfl (by decide) rfl)⟩
  ·exact ⟨_,E _ rfl,tU hg1 (show D3.isT "list" "tuple" = false by decide) (uy (Com.eq_self (lF (vh (m5 rlD Fx Ls)) (by decide))))⟩
  ·exact ⟨_,E _ rfl,P _ ⟨fun _ e=>(by cases e),⟨rfl,by decide⟩,mV (m:=10) rfl (by decide)⟩ rfl⟩
  ·exact ⟨_,E _ rfl,P _ ⟨fun _ e=>(by cases e),lF (vh (m5 rwD JB R)) (by decide),mV (m:=10) (jJ rwD (fun r=>jJ PyData.int (fun _=>rfl) r) R) (show D3.isT "list" "tuple" = false by decide)⟩ rfl⟩
  ·refine ⟨_,E _ rfl,?_⟩
   have q:=qH (hs:=hs) (gs:=gs) (Rs:=L'++[[aG hs.length 0]]) hg gl wl (fun R h=>by
    rcases bK.mp h with h | h
    ·have:=hL R (by rw [← hLs];exact cC _ h)
     exact ⟨by omega,this.2⟩
    ·rw [aN.mp h]
     exact ⟨by simp,⟨aG hs.length 0,aG hs.length 0,by simp,by simp,fun r hr=>.inr (aN.mp hr)⟩⟩) (by simp;omega)
   have lf:rK (L'++[[aG hs.length 0]])=false:=by
    unfold rK
    rw [iJ]
   have sf:yW hs gs (L'++[[aG hs.length 0]])=false:=by
    unfold yW
    rw [lf,dY,g_,g_]
   rw [sf,cT] at q
   have e:[[aG hs.length (0:Int)]].map rlD=[.list [.tuple (aG hs.length (.int 0))]]:=by
    show [PyData.list [PyData.tuple ((aG hs.length (0:Int)).map .int)]]=_
    rw [tG]
   rw [e] at q
   exact q
  ·refine ⟨_,E _ rfl,yE hg1 gl (by simp) (fun d hd=>?_) ⟨_,eN _,?_⟩⟩
   ·rw [aN.mp hd]
    have bL:∀ y ∈ L'.map rlD++[.list []],∃ R,y=rlD R∧R.length ≤ 900:=fun y hy=>by
     rcases bK.mp hy with hy | hy
     ·obtain ⟨R,hR,rfl⟩:=bT.mp hy
      exact ⟨R,rfl,(lb R (by rw [← hLs];exact cC _ hR)).1⟩
     ·rw [aN.mp hy]
      exact ⟨[],rfl,by simp⟩
    refine ⟨fun l e=>?_,lF (mq (sE _ fun y hy=>?_)) (show 8 ≤ 40 by decide),copy_list (m:=10) (by simp;omega) fun y hy=>?_⟩
    ·cases e
     refine ⟨by simp;omega,fun y hy m e=>?_⟩
     obtain ⟨R,rfl,_⟩:=bL y hy
     cases e
    ·obtain ⟨R,rfl,_⟩:=bL y hy
     exact Fx R
    ·obtain ⟨R,rfl,h⟩:=bL y hy
     exact Cu (m:=8) (by omega)
   ·show (L'.map rlD++[PyData.list []]).all (vp hs.length)=false
    rw [List.all_append,show [PyData.list []].all (vp hs.length)=false from rfl,g_]
 ·have E:∀ x,pAt [.list (aG hs.length (.int 0)),.tuple (aG n (.int 0)),.none,.tuple (aG hs.length (.bool true)),.tuple (aG hs.length (.str "0"))] (way - 8)=some x→Qd hs.length x→∃ t,jT [.list (Ls.map rlD),.int (a:Int),.int (hs.length:Int),.int way]=some t∧cW [.list (hs.map .int),.list (gs.map wiD),t,.bool false]=some (.bool true):=fun x p q=>by
   have T:=Zn bR q
   refine ⟨_,?_,P _ T.1 T.2⟩
   have c5:∀ a b c d e,fQ (.list [a,b,c]) (.list [d,e])=some (.list [a,b,c,d,e]):=fun a b c d e=>uM (l:=[a,b,c]) (m:=[d,e]) (by simp)
   unfold jT
   simp only [EV,reduceIte,ao,aq,aj,ak,au,aA,aB,o7,iQ,lA,h_,pD,k1,k2,k3,k4,c1,c2,c3,c4,c5,t1,r1,r2,dFa c,p,Com.sz (show 0 ≤ 1000000 by decide),Com.sz (show 1 ≤ 1000000 by decide),Com.sz (show 2 ≤ 1000000 by decide),Com.sz (show 3 ≤ 1000000 by decide),Com.sz (show 5 ≤ 1000000 by decide),bM,gD,mG,iH]
  have ls:ly 2 (.str "0"):=⟨by decide +kernel,by decide +kernel⟩
  have:way=8∨way=9∨way=10∨way=11∨way=12:=by omega
  rcases this with rfl | rfl | rfl | rfl | rfl
  ·exact E _ rfl (TF (by omega))
  ·exact E _ rfl (Hq (by omega) rfl rH (by rw [hn];exact Qf))
  ·exact E _ rfl Tz
  ·exact E _ rfl (Hq (by omega) rfl ⟨rfl,by decide⟩ (Qe w1 rfl))
  ·exact E _ rfl (Hq (by omega) rfl ls (Qe w1 rfl))
def Hom (w:Nat) (R:List (List Int)):Prop:=∃ m:List Int,m.length=w∧∀ r ∈ R,r.Perm m
theorem Hom.plus {w:Nat} {X:List (List Int)} {o:List Int} (h:Hom w R) (ho:o.length=w) (hX:∀ r ∈ X,r ∈ R∨r=o):m_ w X:=by
 obtain ⟨m,h1,h2⟩:=h
 exact ⟨m,o,h1,ho,fun r hr=>by
  rcases hX r hr with z | z
  ·exact .inl (h2 r z)
  ·exact .inr z⟩
theorem Hom.near {w:Nat} {X:List (List Int)} (h:Hom w R) (hX:∀ r ∈ X,r ∈ R):m_ w X:=by
 obtain ⟨m,h1,h2⟩:=h
 exact ⟨m,m,h1,h1,fun r hr=>.inl (h2 r (hX r hr))⟩
theorem TQ {v k:Int} (h:k ≤ 1000) (h':0 ≤ k):pL (.list [.int v]) (.int k)=some (.list ((aG k.toNat v).map .int)):=Er (by omega) (by omega)
theorem JC {α:Type} (f:α→D) {l:List α} {k:Int} (h0:0 ≤ k) (h:k.toNat < l.length):pAt (l.map f) k=some (f l[k.toNat]):=by
 obtain ⟨n,rfl⟩:=pI h0
 refine rT.trans ?_
 have h:n < l.length:=h
 rw [aR,aO h]
 rfl
theorem KZ {L':List (List (List Int))} {a:Nat} {w:Int} (w1:1 ≤ hs.length) (wl:hs.length ≤ 4) (hw:(hs.length:Int)=w) (hL:∀ R ∈ L'++[[]],R.length ≤ 28∧Hom hs.length R) (ll:L'.length ≤ 100) (ha:a < (L'++[[]]).length) :
 ∃ Rs:List (List (List Int)),dR [.list (ns.map .int),.list ((L'++[[]]).map rlD),.int (a:Int),.int w]=some (.list (Rs.map rlD))∧Rs.length ≤ 1000∧∀ R ∈ Rs,R.length ≤ 1000∧m_ hs.length R:=by
 have good:∀ R ∈ L'++[[]],R.length ≤ 1000∧m_ hs.length R:=fun R h=>⟨by have:=(hL R h).1;omega,(hL R h).2.near fun _ z=>z⟩
 have k1:cutD ((L'++[[]]).map rlD) none (some (-1))=L'.map rlD:=by
  rw [cT]
  exact FQ _ _
 have gL:∀ R ∈ L',R.length ≤ 1000∧m_ hs.length R:=fun R h=>good R (cC _ h)
 have l5:(L'++[[]]).length ≤ 101:=by rw [aW];simp;omega
 generalize hLs:L'++[[]]=Ls at *
 clear hLs
 have PA:∀ k m:Int,0 ≤ k→k ≤ 1000→0 < m→bF [.list (ns.map .int),.int 0,.int k,.int m]=some (.int (gC ns 0 k m)):=fun k m a b c=>lE (by decide) a b c
 have k2:cutD (Ls.map rlD) none (some (a:Int))=(Ls.take a).map rlD:=by rw [Ad (by omega),iV,show ((a:Int)).toNat=a by omega]
 have k3:cutD (Ls.map rlD) (some ((a:Int) + 1)) none=(Ls.drop (a + 1)).map rlD:=by rw [Es (by omega),jH,show ((a:Int) + 1).toNat=a + 1 by omega]
 have k4:pAt (Ls.map rlD) (a:Int)=some (rlD Ls[a]):=by
  refine rT.trans ?_
  rw [aR,aO ha]
  rfl
 have gA:∀ R ∈ Ls.take a,R.length ≤ 1000∧m_ hs.length R:=fun R h=>good R (dH h)
 have gB:∀ R ∈ Ls.drop (a + 1),R.length ≤ 1000∧m_ hs.length R:=fun R h=>good R (fX h)
 have gR:=hL Ls[a] (fK ha)
 have nA:(Ls.take a).length ≤ 101:=by rw [bG];omega
 have nB:(Ls.drop (a + 1)).length ≤ 101:=by rw [cN];omega
 generalize Ls.take a=A at *
 generalize Ls.drop (a + 1)=B at *
 generalize Ls[a]=R at *
 have lnR:jj [rlD R]=some (.int (R.length:Int)):=by
  show some (PyData.int ((R.map rwD).length:Int))=_
  rw [aC]
 have A3:=PA 3 8 (by decide) (by decide) (by decide)
 have r3:=dI ns 0 3 (m:=8) (by decide)
 generalize gC ns 0 3 8=way at A3 r3
 have A4:=PA 4 (if (R.length:Int) > 1 then (R.length:Int) else 1) (by decide) (by decide) (by split <;> omega)
 have r4:=dI ns 0 4 (m:=if (R.length:Int) > 1 then (R.length:Int) else 1) (by split <;> omega)
 generalize gC ns 0 4 (if (R.length:Int) > 1 then (R.length:Int) else 1)=k at A4 r4
 subst hw
 have rz:=fun v=>TQ (v:=v) (k:=(hs.length:Int)) (by omega) (by omega)
 have tz:∀ v:Int,jG (.list ((aG ((hs.length:Int)).toNat v).map .int))=some (rwD (aG hs.length v)):=fun v=>rfl
 have cR:∀ o:List Int,fQ (rlD R) (.list [rwD o])=some (rlD (R++[o])):=fun o=>uL rwD (l:=R) (m:=[o]) (by simp;omega)
 have cA:∀ M,fQ (.list (A.map rlD)) (.list [rlD M])=some (.list ((A++[M]).map rlD)):=fun M=>uL rlD (l:=A) (m:=[M]) (by simp;omega)
 have cB:∀ M,fQ (.list ((A++[M]).map rlD)) (.list (B.map rlD))=some (.list ((A++[M]++B).map rlD)):=fun M=>uL rlD (by simp;omega)
 have cL:∀ M,fQ (.list (Ls.map rlD)) (.list [rlD M])=some (.list ((Ls++[M]).map rlD)):=fun M=>uL rlD (l:=Ls) (m:=[M]) (by simp;omega)
 have fin:∀ M,M.length ≤ 1000∧m_ hs.length M→(A++[M]++B).length ≤ 1000∧∀ R ∈ A++[M]++B,R.length ≤ 1000∧m_ hs.length R:=fun M hM=>⟨by simp;omega,fun R h=>by
  rcases bK.mp h with h | h
  ·rcases bK.mp h with h | h
   ·exact gA R h
   ·rw [aN.mp h];exact hM
  ·exact gB R h⟩
 have more0:(R++[aG hs.length 0]).length ≤ 1000∧m_ hs.length (R++[aG hs.length 0]):=⟨by simp;omega,gR.2.plus (o:=aG hs.length 0) (by simp) fun r h=>by
  rcases bK.mp h with z | z
  ·exact .inl z
  ·exact .inr (aN.mp z)⟩
 have s0:=Com.sz (show 0 ≤ 1000000 by decide)
 have s1:=Com.sz (show 1 ≤ 1000000 by decide)
 have kR:cutD (R.map rwD) none (some k)=(R.take k.toNat).map rwD:=by rw [Ad (by omega),iV]
 have kS:cutD (R.map rwD) (some (k + 1)) none=(R.drop (k.toNat + 1)).map rwD:=by rw [Es (by omega),jH,show (k + 1).toNat=k.toNat + 1 by omega]
 have slR:∀ p q:Option Int,qSl (some (rlD R)) (some p) (some q)=some (.list (cutD (R.map rwD) p q)):=fun _ _=>rfl
 have way':way=0∨way=1∨way=2∨way=3∨way=4∨way=5∨way=6∨way=7:=by omega
 rcases way' with rfl | rfl | rfl | rfl | rfl | rfl | rfl | rfl
 ·refine ⟨Ls.map fun x=>x.reverse++x.take 1,?_,by rw [aC];omega,fun X h=>?_⟩
  ·have C:=q_ (g:=(gNl 0)) (c:=(D3.jx)) (e:=(wY (dOp fQ (dUn HN (aD 0)) (dSl (aD 0) jN (eX (dC (.int 1))))))) (δ:=[none]) rlD (fun x=>rlD (x.reverse++x.take 1)) Ls (fun x hx=>by
    refine ⟨[some (.d (rlD x))],rfl,rfl,?_⟩
    have e1:HN (rlD x)=some (.list (x.reverse.map rwD)):=by
     show some (PyData.list (x.map rwD).reverse)=_
     rw [List.map_reverse]
    have e2:qSl (some (rlD x)) (some none) (some (some 1))=some (.list ((x.take 1).map rwD)):=by
     show some (PyData.list (cutD (x.map rwD) none (some 1)))=_
     rw [Ad (by decide),iV]
     rfl
    have e3:fQ (.list (x.reverse.map rwD)) (.list ((x.take 1).map rwD))=some (rlD (x.reverse++x.take 1)):=uL rwD (by have:=(hL x hx).1;rw [sG,bG];omega)
    have e4:fl1 (rlD (x.reverse++x.take 1))=true:=jJ rwD (fun r=>jJ PyData.int (fun _=>rfl) r) _
    have e5:∀ f δ,f δ=some (rlD (x.reverse++x.take 1))→wY f δ=some (rlD (x.reverse++x.take 1)):=fun f δ h=>by
     unfold wY
     rw [h,aK,if_pos e4]
    refine e5 _ _ ?_
    simp only [EV,reduceIte,ao,aq,aj,ak,au,aA,aB,e2,e1,e3])
   have ca:∀ a b c d e f g h i j:Option U,iw 1 [] [a,b,c,d,e,f,g,h,i,j]=[none]:=fun _ _ _ _ _ _ _ _ _ _=>rfl
   rw [fO]
   unfold dR
   simp only [EV,reduceIte,ao,aq,aj,ak,au,aA,aB,o7,iQ,lA,h_,k1,k2,k3,k4,A3,A4,lnR,rz,tz,cR,ca,C,show (Ls.map rlD).length ≤ 100000 by rw [lMp];omega,s0,s1]
   rfl
  ·obtain ⟨x,hx,rfl⟩:=bT.mp h
   have:=hL x hx
   exact ⟨by simp;omega,this.2.near fun r hr=>by
    rcases bK.mp hr with z | z
    ·exact List.mem_reverse.mp z
    ·exact dH z⟩
 ·have A8:=PA 8 4 (by decide) (by decide) (by decide)
  have r8:=dI ns 0 8 (m:=4) (by decide)
  generalize gC ns 0 8 4=y at A8 r8
  obtain ⟨c,hc,c0,c1⟩:∃ c:Int,pAt [.int 1,.int 1,.int 1,.int 401] y=some (.int c)∧0 ≤ c∧c ≤ 401:=by
   have:y=0∨y=1∨y=2∨y=3:=by omega
   rcases this with rfl | rfl | rfl | rfl <;> exact ⟨_,rfl,by decide,by decide⟩
  have rq:pL (.list [rwD (aG hs.length 400)]) (.int c)=some (.list ((aG c.toNat (aG hs.length (400:Int))).map rwD)):=by
   rw [Cv (by omega) c0,tG]
  have cq:fQ (rlD R) (.list ((aG c.toNat (aG hs.length (400:Int))).map rwD))=some (rlD (R++aG c.toNat (aG hs.length 400))):=uL rwD (by rw [bD];omega)
  refine ⟨A++[R++aG c.toNat (aG hs.length 400)]++B,?_,fin _ ⟨by simp;omega,gR.2.plus (o:=aG hs.length 400) (by simp) fun r h=>?_⟩⟩
  ·unfold dR
   simp only [EV,reduceIte,ao,aq,aj,ak,au,aA,aB,o7,iQ,lA,h_,k1,k2,k3,k4,A3,A4,A8,hc,rq,cq,lnR,rz,tz,cR,cA,cB,s0,s1,Com.sz (show 4 ≤ 1000000 by decide)]
  ·rcases bK.mp h with z | z
   ·exact .inl z
   ·exact .inr (k_.mp z).2
 ·have cq:fQ (.list ((R.take k.toNat).map rwD)) (.list ((R.drop (k.toNat + 1)).map rwD))=some (rlD (R.take k.toNat++R.drop (k.toNat + 1))):=uL rwD (by rw [bG,cN];omega)
  refine ⟨A++[R.take k.toNat++R.drop (k.toNat + 1)]++B,?_,fin _ ⟨by rw [aW,bG,cN];omega,gR.2.near fun r h=>?_⟩⟩
  ·unfold dR
   simp only [EV,reduceIte,ao,aq,aj,ak,au,aA,aB,o7,iQ,lA,h_,k1,k2,k3,k4,A3,A4,slR,kR,kS,cq,lnR,rz,tz,cR,cA,cB,s0,s1]
  ·rcases bK.mp h with z | z
   ·exact dH z
   ·exact fX z
 ·cases hR:R.isEmpty with
  | true =>
   have N:=Cr R
   rw [hR] at N
   refine ⟨A++[R++[aG hs.length 0]]++B,?_,fin _ more0⟩
   unfold dR
   simp only [EV,reduceIte,ao,aq,aj,ak,au,aA,aB,o7,iQ,lA,h_,k1,k2,k3,k4,A3,A4,N,cV,lnR,rz,tz,cR,cA,cB,s0,s1]
  | false =>
   have N:=Cr R
   rw [hR] at N
   have R0:0 < R.length:=by cases R with
    | nil=>cases hR
    | cons _ _=>simp
   have kl:k.toNat < R.length:=by
    have:=r4.2
    split at this <;> omega
   have ki:pAt (R.map rwD) k=some (rwD R[k.toNat]):=JC rwD r4.1 kl
   have ki:gIx (rlD R) (.int k)=some (rwD R[k.toNat]):=ki
   have lr:R[k.toNat].length=hs.length:=(gR.2.near fun _ z=>z).len _ (fK kl)
   generalize R[k.toNat]=r at ki lr
   have A5:=PA 5 (hs.length:Int) (by decide) (by decide) (by omega)
   have r5:=dI ns 0 5 (m:=(hs.length:Int)) (by omega)
   generalize gC ns 0 5 (hs.length:Int)=p at A5 r5
   have pl:p.toNat < r.length:=by omega
   have pi:pAt (r.map PyData.int) p=some (.int r[p.toNat]):=JC PyData.int r5.1 pl
   have px:pIx (r.map PyData.int).length p=some p.toNat:=by
    rw [show p=(p.toNat:Int) by omega,Tc (by rw [aC];omega)]
    rfl
   generalize r[p.toNat]=v at pi
   have st:(r.map PyData.int).set p.toNat (.int (v + 1))=(r.set p.toNat (v + 1)).map .int:=by rw [List.map_set]
   have gl:vD (rwD r)=some (.list (r.map .int)):=rfl
   have tp:jG (.list ((r.set p.toNat (v + 1)).map .int))=some (rwD (r.set p.toNat (v + 1))):=rfl
   have c1:fQ (.list ((R.take k.toNat).map rwD)) (.list [rwD (r.set p.toNat (v + 1))])=some (.list ((R.take k.toNat++[r.set p.toNat (v + 1)]).map rwD)):=uL rwD (m:=[r.set p.toNat (v + 1)]) (by rw [bG];simp;omega)
   have c2:fQ (.list ((R.take k.toNat++[r.set p.toNat (v + 1)]).map rwD)) (.list ((R.drop (k.toNat + 1)).map rwD))=some (rlD (R.take k.toNat++[r.set p.toNat (v + 1)]++R.drop (k.toNat + 1))):=uL rwD (by rw [aW,bG,cN];simp;omega)
   refine ⟨A++[R.take k.toNat++[r.set p.toNat (v + 1)]++R.drop (k.toNat + 1)]++B,?_,fin _ ⟨by rw [aW,aW,bG,cN];simp;omega,gR.2.plus (o:=r.set p.toNat (v + 1)) (by rw [dD];exact lr) fun x h=>?_⟩⟩
   ·unfold dR
    simp only [EV,reduceIte,ao,aq,aj,ak,au,aA,aB,o7,iQ,lA,h_,k1,k2,k3,k4,A3,A4,A5,N,jf,ki,gl,pi,px,aK,st,tp,c1,c2,slR,kR,kS,lnR,rz,tz,cR,cA,cB,s0,s1]
   ·rcases bK.mp h with z | z
    ·rcases bK.mp z with z | z
     ·exact .inl (dH z)
     ·exact .inr (aN.mp z)
    ·exact .inl (fX z)
 ·refine ⟨L',?_,by omega,gL⟩
  unfold dR
  simp only [EV,reduceIte,ao,aq,aj,ak,au,aA,aB,o7,iQ,lA,h_,k1,k2,k3,k4,A3,A4,lnR,rz,tz,cR,s0,s1]
  rfl
 ·refine ⟨Ls++[[]],?_,by simp;omega,fun X h=>?_⟩
  ·have:=cL []
   have this:fQ (.list (Ls.map rlD)) (.list [.list []])=some (.list ((Ls++[[]]).map rlD)):=this
   unfold dR
   simp only [EV,reduceIte,ao,aq,aj,ak,au,aA,aB,o7,iQ,lA,h_,k1,k2,k3,k4,A3,A4,lnR,rz,tz,cR,this,s0,s1]
   rfl
  ·rcases bK.mp h with h | h
   ·exact good X h
   ·rw [aN.mp h]
    exact ⟨by simp,gR.2.near (by simp)⟩
 ·refine ⟨Ls++[R++[aG hs.length 0]],?_,by simp;omega,fun X h=>?_⟩
  ·unfold dR
   simp only [EV,reduceIte,ao,aq,aj,ak,au,aA,aB,o7,iQ,lA,h_,k1,k2,k3,k4,A3,A4,lnR,rz,tz,cR,cL,s0,s1]
   rfl
  ·rcases bK.mp h with h | h
   ·exact good X h
   ·rw [aN.mp h]
    exact more0
 ·refine ⟨A++[R++[aG hs.length 0]]++B,?_,fin _ more0⟩
  unfold dR
  simp only [EV,reduceIte,ao,aq,aj,ak,au,aA,aB,o7,iQ,lA,h_,k1,k2,k3,k4,A3,A4,lnR,rz,tz,cR,cA,cB,s0,s1]
theorem Qg (ns:List Int) {w:Int} (w0:1 ≤ w) (w1:w ≤ 6):∃ hs:List Int,(hs.length:Int)=w∧Com.jo [.list (ns.map .int),.int w]=some (.list (hs.map .int)):=by
 have rr:vN (some [.int w])=some (jy 0 w):=Ku (by omega) (by omega)
 have P1:Com.bF [.list (ns.map .int),.int 1,.int 0,.int 380]=some (.int (gC ns 1 0 380)):=lE (by decide) (by decide) (by decide) (by decide)
 generalize gC ns 1 0 380=b at P1
 obtain ⟨δ',e,hs,z4,z5,lh,rfl⟩:=Ca (g:=(gNl 4)) (b:=(cF (b_ 5 (dCall bF (aF (aD 0) (aF (dC (.int 2)) (aF (aD 4) (aF (dC (.int 9)) (bw))))))) (vV 3 (dOp gIx (eU (aF (dC (.int 0)) (aF (dOp yL (dOp eV (aD 2) (aD 5)) (dC (.int 5))) (bw)))) (dCall vW (aF (dOp gGt (aD 5) (dC (.int 4))) (bw))))))) (fun i δ=>∃ (hs:List Int) (y4 y5:Option U),hs.length=i∧δ=[some (.d (.list (ns.map .int))),some (.d (.int w)),some (.d (.int b)),some (.d (.list (hs.map .int))),y4,y5]) (jy 0 w) [some (.d (.list (ns.map .int))),some (.d (.int w)),some (.d (.int b)),some (.d (.list [])),none,none] ⟨[],none,none,rfl,rfl⟩
  (by
   rintro i d δ hd ⟨hs,y4,y5,li,rfl⟩
   obtain ⟨hk,rfl⟩:=Jm hd
   have P:Com.bF [.list (ns.map .int),.int 2,.int (i:Int),.int 9]=some (.int (gC ns 2 (i:Int) 9)):=lE (by decide) (by omega) (by omega) (by decide)
   generalize gC ns 2 (i:Int) 9=x at P
   have ma:∀ v:Int,(hs++[v]).map PyData.int=hs.map PyData.int++[.int v]:=fun v=>by rw [cT];rfl
   by_cases c:x > 4
   ·refine ⟨_,_,rfl,.inl ?_,hs++[b + x - 5],some (.d (.int (i:Int))),some (.d (.int x)),by rw [aW,li];rfl,rfl⟩
    rw [ma]
    simp only [EV,reduceIte,ao,aq,aj,ak,au,aA,aB,P,dTr c,show vW [.bool true]=some (.int 1) from rfl,at1,Com.sz (show 2 ≤ 1000000 by decide),lMp,show hs.length < 1000000 by omega]
   ·refine ⟨_,_,rfl,.inl ?_,hs++[0],some (.d (.int (i:Int))),some (.d (.int x)),by rw [aW,li];rfl,rfl⟩
    rw [ma]
    simp only [EV,reduceIte,ao,aq,aj,ak,au,aA,aB,P,dFa c,show vW [.bool false]=some (.int 0) from rfl,at0,Com.sz (show 2 ≤ 1000000 by decide),lMp,show hs.length < 1000000 by omega])
 refine ⟨hs,by rw [lh,Jl];omega,?_⟩
 unfold Com.jo
 simp only [EV,reduceIte,ao,aq,aj,ak,au,aA,aB,P1,rr,e,qy,Com.sz (show 0 ≤ 1000000 by decide)]
theorem Hr (ns:List Int) {w m:Int} (w0:1 ≤ w) (w1:w ≤ 4) (m0:0 ≤ m) (m1:m ≤ 16):∃ gs:List Wi,(gs.length:Int)=m∧(∀ g ∈ gs,grOk g∧gOk g)∧Com.gZ [.list (ns.map .int),.int w,.int m]=some (.list (gs.map wiD)):=by
 have rr:vN (some [.int m])=some (jy 0 m):=Ku (by omega) (by omega)
 have P1:Com.bF [.list (ns.map .int),.int 1,.int 0,.int 380]=some (.int (gC ns 1 0 380)):=lE (by decide) (by decide) (by decide) (by decide)
 have B:=dI ns 1 0 (m:=380) (by decide)
 generalize gC ns 1 0 380=b at P1 B
 obtain ⟨δ',e,gs,z5,z6,z7,lh,hg,rfl⟩:=Ca (g:=(gNl 5)) (b:=(cF (b_ 6 (dOp eV (aD 3) (dCall bF (aF (aD 0) (aF (dOp eV (dC (.int 3)) (aD 5)) (aF (dC (.int 0)) (aF (dC (.int 7)) (bw)))))))) (cF (b_ 7 (dOp eV (dC (.int 1)) (dCall bF (aF (aD 0) (aF (dOp eV (dC (.int 3)) (aD 5)) (aF (dC (.int 2)) (aF (aD 1) (bw)))))))) (cF (sIf (cI (dOp gEq (dCall bF (aF (aD 0) (aF (dOp eV (dC (.int 3)) (aD 5)) (aF (dC (.int 3)) (aF (dC (.int 16)) (bw)))))) (dC (.int 0)))) (b_ 7 (dCall Ds (aF (dC (.int 6)) (aF (dOp eV (aD 1) (dC (.int 1))) (bw))))) (iK)) (vV 4 (dTup (aF (aD 6) (aF (dOp eV (dOp eV (aD 6) (dC (.int 1))) (dCall bF (aF (aD 0) (aF (dOp eV (dC (.int 3)) (aD 5)) (aF (dC (.int 1)) (aF (dC (.int 6)) (bw))))))) (aF (aD 7) (bw)))))))))) (fun i δ=>∃ (gs:List Wi) (y5 y6 y7:Option U),gs.length=i∧(∀ g ∈ gs,grOk g∧gOk g)∧δ=[some (.d (.list (ns.map .int))),some (.d (.int w)),some (.d (.int m)),some (.d (.int b)),some (.d (.list (gs.map wiD))),y5,y6,y7]) (jy 0 m) [some (.d (.list (ns.map .int))),some (.d (.int w)),some (.d (.int m)),some (.d (.int b)),some (.d (.list [])),none,none,none] ⟨[],none,none,none,rfl,by simp,rfl⟩
  (by
   rintro i d δ hd ⟨gs,y5,y6,y7,li,hg,rfl⟩
   obtain ⟨hk,rfl⟩:=Jm hd
   have P:∀ k m:Int,0 ≤ k→k ≤ 1000→0 < m→Com.bF [.list (ns.map .int),.int (3 + (i:Int)),.int k,.int m]=some (.int (gC ns (3 + (i:Int)) k m)):=fun k m a b c=>lE (by omega) a b c
   have A0:=P 0 7 (by decide) (by decide) (by decide)
   have r0:=dI ns (3 + (i:Int)) 0 (m:=7) (by decide)
   generalize gC ns (3 + (i:Int)) 0 7=x at A0 r0
   have A2:=P 2 w (by decide) (by decide) (by omega)
   have r2:=dI ns (3 + (i:Int)) 2 (m:=w) (by omega)
   generalize gC ns (3 + (i:Int)) 2 w=s at A2 r2
   have A3:=P 3 16 (by decide) (by decide) (by decide)
   generalize gC ns (3 + (i:Int)) 3 16=t at A3
   have A1:=P 1 6 (by decide) (by decide) (by decide)
   have r1:=dI ns (3 + (i:Int)) 1 (m:=6) (by decide)
   generalize gC ns (3 + (i:Int)) 1 6=y at A1 r1
   have ok:∀ z:Int,1 ≤ z→z ≤ 6→∀ g ∈ gs++[(b + x,b + x + 1 + y,z)],grOk g∧gOk g:=fun z z1 z2 g hm=>by
    rcases bK.mp hm with hm | hm
    ·exact hg g hm
    ·rw [aN.mp hm]
     exact ⟨⟨by show 0 ≤ b + x;omega,by show b + x < b + x + 1 + y;omega,by show b + x + 1 + y ≤ 400;omega,z1,z2⟩,z1,z2⟩
   have ma:∀ z:Int,(gs++[(b + x,b + x + 1 + y,z)]).map wiD=gs.map wiD++[.tuple [.int (b + x),.int (b + x + 1 + y),.int z]]:=fun v=>by rw [cT];rfl
   by_cases c:t=0
   ·refine ⟨_,_,rfl,.inl ?_,gs++[(b + x,b + x + 1 + y,if w + 1 < 6 then w + 1 else 6)],some (.d (.int (i:Int))),some (.d (.int (b + x))),some (.d (.int (if w + 1 < 6 then w + 1 else 6))),by rw [aW,li];rfl,ok _ (by split <;> omega) (by split <;> omega),rfl⟩
    rw [ma]
    simp only [EV,reduceIte,ao,aq,aj,ak,au,aA,aB,A0,A1,A2,A3,dTr c,Com.sz (show 3 ≤ 1000000 by decide),lMp,show gs.length < 1000000 by omega]
   ·refine ⟨_,_,rfl,.inl ?_,gs++[(b + x,b + x + 1 + y,1 + s)],some (.d (.int (i:Int))),some (.d (.int (b + x))),some (.d (.int (1 + s))),by rw [aW,li];rfl,ok _ (by omega) (by omega),rfl⟩
    rw [ma]
    simp only [EV,reduceIte,ao,aq,aj,ak,au,aA,aB,A0,A1,A2,A3,dFa c,Com.sz (show 3 ≤ 1000000 by decide),lMp,show gs.length < 1000000 by omega])
 refine ⟨gs,by rw [lh,Jl];omega,hg,?_⟩
 unfold Com.gZ
 simp only [EV,reduceIte,ao,aq,aj,ak,au,aA,aB,P1,rr,e,jJ wiD (fun _=>rfl),Com.sz (show 0 ≤ 1000000 by decide)]
theorem Qh (ns:List Int) (_:ns.length ≤ 63):Pa [.list (ns.map .int)]=some (.bool true):=by
 have PA:∀ k m:Int,0 ≤ k→k ≤ 1000→0 < m→bF [.list (ns.map .int),.int 0,.int k,.int m]=some (.int (gC ns 0 k m)):=fun k m a b c=>lE (by decide) a b c
 have A0:=PA 0 4 (by decide) (by decide) (by decide)
 have r0:=dI ns 0 0 (m:=4) (by decide)
 generalize gC ns 0 0 4=x0 at A0 r0
 have A1:=PA 1 9 (by decide) (by decide) (by decide)
 have r1:=dI ns 0 1 (m:=9) (by decide)
 generalize gC ns 0 1 9=x1 at A1 r1
 obtain ⟨hs,lh,H⟩:=Qg ns (w:=1 + x0) (by omega) (by omega)
 obtain ⟨g0,lg,ok0,G⟩:=Hr ns (w:=1 + x0) (m:=x1) (by omega) (by omega) (by omega) (by omega)
 have H:jo [.list (ns.map .int),.int (1 + x0)]=some (.list (hs.map .int)):=H
 have G:gZ [.list (ns.map .int),.int (1 + x0),.int x1]=some (.list (g0.map wiD)):=G
 have B1:bF [.list (ns.map .int),.int 1,.int 0,.int 380]=some (.int (gC ns 1 0 380)):=lE (by decide) (by decide) (by decide) (by decide)
 have rb:=dI ns 1 0 (m:=380) (by decide)
 generalize gC ns 1 0 380=b at B1 rb
 have B2:bF [.list (ns.map .int),.int 2,.int 7,.int 4]=some (.int (gC ns 2 7 4)):=lE (by decide) (by decide) (by decide) (by decide)
 have rq:=dI ns 2 7 (m:=4) (by decide)
 generalize gC ns 2 7 4=q at B2 rq
 have A2:=PA 2 ((g0.length:Int) + 1) (by decide) (by decide) (by omega)
 have r2:=dI ns 0 2 (m:=(g0.length:Int) + 1) (by omega)
 generalize gC ns 0 2 ((g0.length:Int) + 1)=p at A2 r2
 have k1:cutD (g0.map wiD) none (some p)=(g0.take p.toNat).map wiD:=by rw [Ad (by omega),iV]
 have k2:cutD (g0.map wiD) (some p) none=(g0.drop p.toNat).map wiD:=by rw [Es (by omega),jH]
 have c1:fQ (.list ((g0.take p.toNat).map wiD)) (.list [.tuple [.int (b + 6),.int (b + 7 + q),.int (1 + x0 + 1)]])=some (.list ((g0.take p.toNat++[(b + 6,b + 7 + q,1 + x0 + 1)]).map wiD)):=uL wiD (m:=[(b + 6,b + 7 + q,1 + x0 + 1)]) (by rw [bG];simp;omega)
 have c2:fQ (.list ((g0.take p.toNat++[(b + 6,b + 7 + q,1 + x0 + 1)]).map wiD)) (.list ((g0.drop p.toNat).map wiD))=some (.list ((g0.take p.toNat++[(b + 6,b + 7 + q,1 + x0 + 1)]++g0.drop p.toNat).map wiD)):=uL wiD (by rw [aW,bG,cN];simp;omega)
 obtain ⟨gs,hgs⟩:∃ gs,gs=g0.take p.toNat++[(b + 6,b + 7 + q,1 + x0 + 1)]++g0.drop p.toNat:=⟨_,rfl⟩
 rw [← hgs] at c2
 have gl:gs.length < 64:=by
  rw [hgs,aW,aW,bG,cN]
  simp
  omega
 have ok:∀ g ∈ gs,grOk g∧gOk g:=fun g h=>by
  rw [hgs] at h
  rcases bK.mp h with h | h
  ·rcases bK.mp h with h | h
   ·exact ok0 g (dH h)
   ·rw [aN.mp h]
    exact ⟨⟨by show 0 ≤ b + 6;omega,by show b + 6 < b + 7 + q;omega,by show b + 7 + q ≤ 400;omega,by show 1 ≤ 1 + x0 + 1;omega,by show 1 + x0 + 1 ≤ 6;omega⟩,by show 1 ≤ 1 + x0 + 1;omega,by show 1 + x0 + 1 ≤ 6;omega⟩
  ·exact ok0 g (fX h)
 have big:∃ g ∈ inT gs,(hs.length:Int) < g.2.2:=⟨_,wL.mpr (by rw [hgs];exact cC _ (bQ _ (eN _))),by show (hs.length:Int) < 1 + x0 + 1;omega⟩
 clear hgs
 have w1:1 ≤ hs.length:=by omega
 have wl:hs.length ≤ 4:=by omega
 have gk:∀ g ∈ gs,gOk g:=fun g h=>(ok g h).2
 have gt:∀ g ∈ inT gs,gOk g:=fun g h=>gk g (wL.mp h)
 have LG:=KR gk gl w1 wl
 have hom:=PJ (w:=hs.length) (inT gs) [hs] hs gt rfl (fun r hr=>by rw [aN.mp hr])
 have small:=Ft wl (inT gs) [hs] gt (FN hs) (fun R h=>by obtain ⟨m,h1,h2⟩:=hom R h;exact Fv h1 h2)
 obtain ⟨L',e,_⟩:=Jz (w:=hs.length) (inT gs) [hs] (fun r hr=>by rw [aN.mp hr]) big gt
 have ck:=P0 (inT gs) [hs]
 have len:=PB (inT gs) [hs]
 rw [wK] at len
 rw [e] at LG hom small ck len
 have hL:∀ R ∈ L'++[[]],R.length ≤ 28∧Hom hs.length R:=fun R h=>⟨small R h,hom R h⟩
 have hN:∀ R ∈ L'++[[]],R.length ≤ 28∧m_ hs.length R:=fun R h=>⟨small R h,(hL R h).2.near fun _ z=>z⟩
 have le:(L'++[[]]).length=L'.length + 1:=by simp
 have say:yW hs gs (L'++[[]])=true:=by
  have lf:rK (L'++[[]])=true:=by
   unfold rK
   rw [iJ]
  unfold yW
  rw [ck,lf,pq,pq,aY]
  exact ⟨dTr (by omega),dTr len⟩
 have Q1:=qH ok gl wl (fun R h=>⟨by have:=(hN R h).1;omega,(hN R h).2⟩) (show (L'++[[]]).length ≤ 1000 by omega)
 rw [say] at Q1
 have A6:=PA 6 ((L'++[[]]).length:Int) (by decide) (by decide) (by omega)
 have r6:=dI ns 0 6 (m:=((L'++[[]]).length:Int)) (by omega)
 generalize gC ns 0 6 ((L'++[[]]).length:Int)=at' at A6 r6
 obtain ⟨a,rfl⟩:=pI r6.1
 obtain ⟨Rs,O,lR,gR⟩:=KZ (ns:=ns) (a:=a) (w:=1 + x0) w1 wl lh hL (by omega) (by omega)
 have Q2:=qH ok gl wl gR lR
 have CV:=Hl gk gl w1 wl gR
 have A7:=PA 7 13 (by decide) (by decide) (by decide)
 have r7:=dI ns 0 7 (m:=13) (by decide)
 generalize gC ns 0 7 13=y at A7 r7
 obtain ⟨t,OD,Q3⟩:=TJ (a:=a) (w:=1 + x0) (way:=y) ok gl w1 wl lh hN (by omega) (by omega) (by omega) (by omega)
 have lM:∀ l:List (List (List Int)),jj [.list (l.map rlD)]=some (.int (l.length:Int)):=fun l=>by
  show some (PyData.int ((l.map rlD).length:Int))=_
  rw [aC]
 have lW:jj [.list (g0.map wiD)]=some (.int (g0.length:Int)):=by
  show some (PyData.int ((g0.map wiD).length:Int))=_
  rw [aC]
 generalize L'++[[]]=Ls at *
 generalize yW hs gs Rs=bb at *
 unfold Pa
 simp only [EV,reduceIte,ao,aq,aj,ak,au,aA,aB,A0,A1,H,G,B1,B2,lW,A2,k1,k2,c1,c2,LG,Q1,lM,A6,O,CV,Q2,A7,OD,Q3,cV,Com.sz (show 1 ≤ 1000000 by decide),Com.sz (show 3 ≤ 1000000 by decide)]
end K75
namespace K75
open PySem PySem.Spec PyProof.Rows L2 My D3 XS XK
def top (i:Nat):Stmt:=PySem.Challenge.pw_nightbook_k75_lists_looked_at.main.body.getD i (.Pass ⟨0,0,0,0⟩)
section
seal PE PT PW PA PS PSs PG PGs PI PO PTs
variable {P:Program} {w:World} {K:PySem.W.Frag} {mg:Str→Option Value} {base:Heap} {n:Nat}
theorem FW (D:Dg K mg "is_whole" (top 4) ["thing"]) (B:Bl mg):Has P w K mg base (n + 1) "is_whole" ["thing"] (spD K eY):=by
 have sc:FnScope ["thing"] ["thing"] (bJ (top 4)):=fsc
 exact jh (fl:=[.A]) D sc (by decide) (by decide) fun f cdv A outer s H E hr=>bC (cP (dB (qp (bf (lY (T := "int") (by decide) (vP 0) (by rfl) B.isinstance_ (by rfl) B.int_ PyProof.Rows.boot_int)) (rE (Mf (bf (lY (T := "bool") (by decide) (vP 0) (by rfl) B.isinstance_ (by rfl) B.bool_ PyProof.Rows.boot_bool)))))))
theorem tV (D:Dg K mg "is_whole_within" (top 5) ["thing", "least", "most"]) (B:Bl mg) (his_whole:Has P w K mg base n "is_whole" ["thing"] (spD K eY)):Has P w K mg base (n + 1) "is_whole_within" ["thing", "least", "most"] (spD K eZ):=by
 have sc:FnScope ["thing", "least", "most"] ["thing", "least", "most"] (bJ (top 5)):=fsc
 exact jh (fl:=[.A,.A,.A]) D sc (by decide) (by decide) fun f cdv A outer s H E hr=>bC (cP (dB (qp (jE (bW his_whole hr (dq (vP 0) dz))) (rE (Dv pJ pJ uT uT (vP 1) (vP 0) (vP 2))))))
theorem Cw (D:Dg K mg "all_whole" (top 6) ["things"]) (B:Bl mg) (his_whole:Has P w K mg base n "is_whole" ["thing"] (spD K eY)):Has P w K mg base (n + 1) "all_whole" ["things"] (spD K iR):=by
 have sc:FnScope ["things"] ["things"] (bJ (top 6)):=fsc
 exact jh (fl:=[.A]) D sc (by decide) (by decide) fun f cdv A outer s H E hr=>bC (cP (dB (fH (rN rfl) zP (by rfl) B.all_ (show bootBuiltins "all" = some (.builtin "all") by decide +kernel) (dq (bf (jX (L:=[]) (fl':=[.A]) rfl ["thing"] [] [] (xM (vB 0)) (fun _ _ _ _ _=>gN' (i:=0) (show (["thing"]:List Str).Nodup by decide +kernel)) (fun _ _ _ _ _=>lZ) (fun _ _ _ _ _=>bW his_whole hr (dq (vP 0) dz)))) dz))))
theorem yF (D:Dg K mg "is_tuple_of" (top 7) ["thing", "many"]) (B:Bl mg) (hall_whole:Has P w K mg base n "all_whole" ["things"] (spD K iR)):Has P w K mg base (n + 1) "is_tuple_of" ["thing", "many"] (spD K dg):=by
 have sc:FnScope ["thing", "many"] ["thing", "many"] (bJ (top 7)):=fsc
 exact jh (fl:=[.A,.A]) D sc (by decide) (by decide) fun f cdv A outer s H E hr=>bC (cP (zH (qp (bf (lY (T := "tuple") (by decide) (vP 0) (by rfl) B.isinstance_ (by rfl) B.tuple_ PyProof.Rows.boot_tuple)) (qp (bf (tM (mK hr.units) vX (bf (fH cG j_ (by rfl) B.len_ PySem.boot_len (dq (vP 0) dz))) (vP 1) (dZ _))) (rE (bW hall_whole hr (dq (vP 0) dz)))))))
theorem Hs (D:Dg K mg "is_pair" (top 8) ["thing"]) (B:Bl mg) (his_tuple_of:Has P w K mg base n "is_tuple_of" ["thing", "many"] (spD K dg)):Has P w K mg base (n + 1) "is_pair" ["thing"] (spD K pU):=by
 have sc:FnScope ["thing"] ["thing"] (bJ (top 8)):=fsc
 exact jh (fl:=[.A]) D sc (by decide) (by decide) fun f cdv A outer s H E hr=>bC (cP (zH (bW his_tuple_of hr (dq (vP 0) (dq iP dz)))))
theorem yX (D:Dg K mg "is_stretch" (top 11) ["thing"]) (B:Bl mg) (his_pair:Has P w K mg base n "is_pair" ["thing"] (spD K pU)) (gNIGHTS:∃ t,mg "NIGHTS" = some (.int 400 t)):Has P w K mg base (n + 1) "is_stretch" ["thing"] (spD K mz):=by
 have sc:FnScope ["thing"] ["thing"] (bJ (top 11)):=fsc
 exact jh (fl:=[.A]) D sc (by decide) (by decide) fun f cdv A outer s H E hr=>bC (cP (dB (qp (jE (bW his_pair hr (dq (vP 0) dz))) (rE (J2 pJ Dc pJ uT b_lt uT iP (gJ (dx (vB 0) iP)) (gJ (dx (vB 0) iP)) (bf (HX gNIGHTS)))))))
theorem Cy (D:Dg K mg "nights_of" (top 12) ["stay"]) (B:Bl mg):Has P w K mg base (n + 1) "nights_of" ["stay"] (spD K jR):=by
 have sc:FnScope ["stay"] ["stay"] (bJ (top 12)):=fsc
 exact jh (fl:=[.A]) D sc (by decide) (by decide) fun f cdv A outer s H E hr=>bC (cP (uU rfl (dq (dB (mL (gJ (dx (vB 0) iP)))) (dq (dB (mL (gJ (dx (vB 0) iP)))) dz))))
theorem FZ (D:Dg K mg "is_group" (top 15) ["thing"]) (B:Bl mg) (his_whole_within:Has P w K mg base n "is_whole_within" ["thing", "least", "most"] (spD K eZ)) (his_stretch:Has P w K mg base n "is_stretch" ["thing"] (spD K mz)) (hnights_of:Has P w K mg base n "nights_of" ["stay"] (spD K jR)) (gMOST_OF_A_GROUP:∃ t,mg "MOST_OF_A_GROUP" = some (.int 6 t)):Has P w K mg base (n + 1) "is_group" ["thing"] (spD K mR):=by
 have sc:FnScope ["thing"] ["thing"] (bJ (top 15)):=fsc
 exact jh (fl:=[.A]) D sc (by decide) (by decide) fun f cdv A outer s H E hr=>aV (gY (Du (zM (lq (kh (bf (lY (T := "tuple") (by decide) (vP 0) (by rfl) B.isinstance_ (by rfl) B.tuple_ PyProof.Rows.boot_tuple)))) (uV (fL (tH hr.units) J0 (bf (fH cG j_ (by rfl) B.len_ PySem.boot_len (dq (vP 0) dz))) iP (dZ _))))) (bC (cP (dB (lU)))) (cZ))
  (bC (cP (zH (qp (jE (bW his_stretch hr (dq (jE (bW hnights_of hr (dq (vP 0) dz))) dz))) (rE (bW his_whole_within hr (dq (gJ (dx (vB 0) iP)) (dq iP (dq (bf (HX gMOST_OF_A_GROUP)) dz)))))))))
theorem v5 (D:Dg K mg "check_groups" (top 16) ["groups"]) (B:Bl mg) (his_group:Has P w K mg base n "is_group" ["thing"] (spD K mR)):Has P w K mg base (n + 1) "check_groups" ["groups"] (spD K d8):=by
 have sc:FnScope ["groups", "at", "group"] ["groups"] (bJ (top 16)):=fsc
 exact jh (fl:=[.A,.A,.A]) D sc (by decide) (by decide) fun f cdv A outer s H E hr=>bC (nq (L:=[]) PassesOwn.never rfl (Ra (vB 0) (by rfl) B.enumerate_) (xG rfl (jQ (gN' (i:=1) sc.nd) (jQ (gN' (i:=2) sc.nd) (ur)))) (bC (gY (lq (kh (jE (bW his_group hr (dq (vP 2) dz))))) (bC (Dw)) (cZ))))
theorem Qi {Pt:Addr} (D:XL.DgT K mg "turns" (top 17) ["groups"] Pt "turns.<locals>.<lambda>" ⟨36,42,36,72⟩) (B:Bl mg):Has P w K mg base (n + 1) "turns" ["groups"] (spD K rZ):=by
 have sc:FnScope ["groups"] ["groups"] (bJ (top 17)):=fsc
 exact XL.V9 (fl:=[.A]) D sc (by decide) (by decide) fun f c A outer s H E hcd hr=>bC (cP (dB (XL.G7 (i:=0) ⟨⟨_,rfl,hcd⟩,rfl,D.tb⟩ hr rfl (dq (bf (fH cG j_ (by rfl) B.len_ PySem.boot_len (dq (vP 0) dz))) dz) (by rfl) B.sorted_ (by rfl) B.range_ rfl rfl rfl rfl (fun _ h=>XL.Oi rfl h) (fun _ _ _ _ _=>rfl) rfl rfl rfl (by decide +kernel) rfl rfl (by decide) (by decide) (by decide) rfl rfl)))
theorem Cz (D:Dg K mg "starts_in" (top 18) ["row", "group"]) (B:Bl mg):Has P w K mg base (n + 1) "starts_in" ["row", "group"] (spD K lG):=by
 have sc:FnScope ["row", "group", "last"] ["row", "group"] (bJ (top 18)):=fsc
 exact jh (fl:=[.A,.A,.A]) D sc (by decide) (by decide) fun f cdv A outer s H E hr=>aV (sA (i:=2) sc.nd (gG (cU Al Ia (bf (fH cG j_ (by rfl) B.len_ PySem.boot_len (dq (vP 0) dz))) (gJ (dx (vB 1) iP)))))
  (bC (cP (dB (jX (L:=[]) (fl':=[.A,.A,.A]) rfl ["start"] ["group", "row"] [1,0] (nZ (by rfl) B.range_ (zL (dq (bf (cU dO gq (vP 2) iP)) dz))) (fun _ _ _ _ _=>gN' (i:=0) (show (["start", "group", "row"]:List Str).Nodup by decide +kernel)) (fun _ _ _ _ _=>wg (fL pJ uT (bf (fH (z8 rfl) NZ (by rfl) B.max_ PyProof.Rows.boot_max (dq (bf (NT (vP 2) (gw (vP 0)) (gw (bf (cU dO gq (vP 0) (gJ (dx (vB 1) iP))))))) dz))) (gJ (dx (vB 1) iP)) (dZ _))) (fun _ _ _ _ _=>iB (mL (vP 0)))))))
theorem v7 (D:Dg K mg "night_behind" (top 19) ["since", "group", "is_own"]) (B:Bl mg):Has P w K mg base (n + 1) "night_behind" ["since", "group", "is_own"] (spD K fj):=by
 have sc:FnScope ["since", "group", "is_own"] ["since", "group", "is_own"] (bJ (top 19)):=fsc
 exact jh (fl:=[.A,.A,.A]) D sc (by decide) (by decide) fun f cdv A outer s H E hr=>aV (gY (kh (vP 2)) (bC (cP (dB (mL (gJ (dx (vB 1) iP)))))) (cZ))
  (bC (cP (dB (mL (gJ (X5 (fL pJ uT (vP 0) (gJ (dx (vB 1) iP)) (dZ _)) (gG (A_)) (vA 0)))))))
theorem yZ (D:Dg K mg "row_behind" (top 20) ["row", "group", "start"]) (B:Bl mg) (hnight_behind:Has P w K mg base n "night_behind" ["since", "group", "is_own"] (spD K fj)):Has P w K mg base (n + 1) "row_behind" ["row", "group", "start"] (spD K iT):=by
 have sc:FnScope ["row", "group", "start", "behind"] ["row", "group", "start"] (bJ (top 20)):=fsc
 exact jh (fl:=[.A,.A,.A,.A]) D sc (by decide) (by decide) fun f cdv A outer s H E hr=>aV (sA (i:=3) sc.nd (gG (cU dO gq (vP 2) (gJ (dx (vB 1) iP)))))
  (bC (cP (zH (Rn (iB (jX (L:=[]) (fl':=[.A,.A,.A,.A,.A]) rfl ["room", "since"] ["group", "start", "behind"] [1,2,3] (N8 (vB 0) (by rfl) B.enumerate_) (fun _ _ _ _ _=>xG rfl (jQ (gN' (i:=0) (show (["room", "since", "group", "start", "behind"]:List Str).Nodup by decide +kernel)) (jQ (gN' (i:=1) (show (["room", "since", "group", "start", "behind"]:List Str).Nodup by decide +kernel)) (ur)))) (fun _ _ _ _ _=>lZ) (fun _ _ _ _ _=>bW hnight_behind hr (dq (vP 1) (dq (vP 2) (dq (bf (Dv pJ Dc uT b_lt (vP 3) (vP 0) (vP 4))) dz)))))) (by rfl) B.tuple_))))
theorem yG (D:Dg K mg "rows_behind" (top 21) ["rows", "group"]) (B:Bl mg) (hstarts_in:Has P w K mg base n "starts_in" ["row", "group"] (spD K lG)) (hrow_behind:Has P w K mg base n "row_behind" ["row", "group", "start"] (spD K iT)):Has P w K mg base (n + 1) "rows_behind" ["rows", "group"] (spD K iY):=by
 have sc:FnScope ["rows", "group", "found", "row", "start"] ["rows", "group"] (bJ (top 21)):=fsc
 exact jh (fl:=[.A,.A,.N,.A,.A]) D sc (by decide) (by decide) fun f cdv A outer s H E hr=>aV (Im (i:=2) rfl sc.nd rfl (by first | exact Or.inl rfl | exact Or.inr rfl) (Bh))
  (aV (nq (L:=[]) PassesOwn.never rfl (lX (vB 0)) (gN' (i:=3) sc.nd) (bC (nq (L:=[]) PassesOwn.never rfl (lX (cX (kI (bW hstarts_in hr (dq (vP 3) (dq (vP 1) dz)))))) (gN' (i:=4) sc.nd) (bC (XJ.Nv (i:=2) (XK.hu1 hr.units) rfl (jE (bW hrow_behind hr (dq (vP 3) (dq (vP 1) (dq (vP 4) dz))))) (gJ (uU rfl (dq (vA 3) (dq (vA 4) dz)))) rfl ⟨rfl,rfl,rfl,rfl⟩)))))
  (bC (cP (Mu 2 rfl))))
theorem yH (D:Dg K mg "is_row_list" (top 22) ["thing", "many"]) (B:Bl mg) (his_tuple_of:Has P w K mg base n "is_tuple_of" ["thing", "many"] (spD K dg)):Has P w K mg base (n + 1) "is_row_list" ["thing", "many"] (spD K dM):=by
 have sc:FnScope ["thing", "many"] ["thing", "many"] (bJ (top 22)):=fsc
 exact jh (fl:=[.A,.A]) D sc (by decide) (by decide) fun f cdv A outer s H E hr=>bC (cP (dB (qp (bf (lY (T := "list") (by decide) (vP 0) (by rfl) B.isinstance_ (by rfl) B.list_ PyProof.Rows.boot_list)) (rE (fH (rN rfl) zP (by rfl) B.all_ (show bootBuiltins "all" = some (.builtin "all") by decide +kernel) (dq (bf (jX (L:=[]) (fl':=[.A,.A]) rfl ["row"] ["many"] [1] (lX (vB 0)) (fun _ _ _ _ _=>gN' (i:=0) (show (["row", "many"]:List Str).Nodup by decide +kernel)) (fun _ _ _ _ _=>lZ) (fun _ _ _ _ _=>bW his_tuple_of hr (dq (vP 0) (dq (vP 1) dz))))) dz))))))
theorem Ht (D:Dg K mg "has_all" (top 23) ["rows", "needed"]) (B:Bl mg):Has P w K mg base (n + 1) "has_all" ["rows", "needed"] (spD K mU):=by
 have sc:FnScope ["rows", "needed", "known"] ["rows", "needed"] (bJ (top 23)):=fsc
 exact jh (fl:=[.A,.A,.A]) D sc (by decide) (by decide) fun f cdv A outer s H E hr=>aV (sA (i:=2) sc.nd (kI (XJ.Oa hr.units hr.hd (dq (bf (jX (L:=[]) (fl':=[.A]) rfl ["row"] [] [] (lX (vB 0)) (fun _ _ _ _ _=>gN' (i:=0) (show (["row"]:List Str).Nodup by decide +kernel)) (fun _ _ _ _ _=>lZ) (fun _ _ _ _ _=>iB (mL (gJ (uU rfl (dq (vA 0) (dq (gG (lU)) dz)))))))) dz) (by rfl) B.dict_)))
  (bC (cP (dB (fH (rN rfl) zP (by rfl) B.all_ (show bootBuiltins "all" = some (.builtin "all") by decide +kernel) (dq (bf (XJ.NP (fl':=[.A,.A]) rfl ["row"] ["known"] [2] (vP 1) (fun _ _ _ _ _=>gN' (i:=0) (show (["row", "known"]:List Str).Nodup by decide +kernel)) (fun _ _ _ _ _=>lZ) (fun _ _ _ _ _=>iB (tM (XJ.V3 hr.units) XJ.Yl (vP 0) (vP 1) (by with_unfolding_all rfl))))) dz)))))
theorem Hu (D:Dg K mg "is_none" (top 24) ["held", "groups", "thing"]) (B:Bl mg) (hcheck_groups:Has P w K mg base n "check_groups" ["groups"] (spD K d8)) (hturns:Has P w K mg base n "turns" ["groups"] (spD K rZ)) (hrows_behind:Has P w K mg base n "rows_behind" ["rows", "group"] (spD K iY)) (his_row_list:Has P w K mg base n "is_row_list" ["thing", "many"] (spD K dM)) (hhas_all:Has P w K mg base n "has_all" ["rows", "needed"] (spD K mU)):Has P w K mg base (n + 1) "is_none" ["held", "groups", "thing"] (spD K fM):=by
 have sc:FnScope ["held", "groups", "thing", "ahead", "place", "rows"] ["held", "groups", "thing"] (bJ (top 24)):=fsc
 exact jh (fl:=[.A,.A,.A,.A,.A,.A]) D sc (by decide) (by decide) fun f cdv A outer s H E hr=>aV (Q0 (jE (bW hcheck_groups hr (dq (vP 1) dz))))
  (aV (gY (Du (zM (lq (kh (bf (lY (T := "list") (by decide) (vP 2) (by rfl) B.isinstance_ (by rfl) B.list_ PyProof.Rows.boot_list)))) (uV (lq (DK pJ pJ uT uT iP (bf (fH cG j_ (by rfl) B.len_ PySem.boot_len (dq (vP 2) dz))) (bf (fH cG j_ (by rfl) B.len_ PySem.boot_len (dq (vP 1) dz)))))))) (bC (cP (dB (lU)))) (cZ))
  (aV (gY (Du (zM (lq (kh (bf (fH (rN rfl) zP (by rfl) B.all_ (show bootBuiltins "all" = some (.builtin "all") by decide +kernel) (dq (bf (jX (L:=[]) (fl':=[.A,.A]) rfl ["rows"] ["held"] [0] (lX (vB 2)) (fun _ _ _ _ _=>gN' (i:=0) (show (["rows", "held"]:List Str).Nodup by decide +kernel)) (fun _ _ _ _ _=>lZ) (fun _ _ _ _ _=>bW his_row_list hr (dq (vP 0) (dq (bf (fH cG j_ (by rfl) B.len_ PySem.boot_len (dq (vP 1) dz))) dz))))) dz))))) (uV (fL Lb Vr (bf (fH cG j_ (by rfl) B.len_ PySem.boot_len (dq (gJ (dx (vB 2) (bf (Bb iP)))) dz))) iP (dZ _))))) (bC (cP (dB (lU)))) (cZ))
  (aV (sA (i:=3) sc.nd (cM (fU (dq (jY (vB 0) (by rfl) B.tuple_) dz))))
  (aV (nq (L:=[]) PassesOwn.never rfl (Mt (L1:=[]) (L2:=[]) (cX (kI (bW hturns hr (dq (vP 1) dz)))) (vB 2) (by rfl) B.zip_) (xG rfl (jQ (gN' (i:=4) sc.nd) (jQ (gN' (i:=5) sc.nd) (ur)))) (aV (gY (lq (kh (jE (bW hhas_all hr (dq (vP 5) (dq (jE (bW hrows_behind hr (dq (vP 3) (dq (gJ (dx (vB 1) (vP 4))) dz)))) dz)))))) (bC (cP (dB (lU)))) (cZ))
  (bC (sA (i:=3) sc.nd (vA 5)))))
  (bC (cP (dB (lU))))))))
theorem CG (D:Dg K mg "_law_cell" (top 26) ["_law_script", "_law_at"]) (B:Bl mg):Has P w K mg base (n + 1) "_law_cell" ["_law_script", "_law_at"] (spD K jm):=by
 have sc:FnScope ["_law_script", "_law_at"] ["_law_script", "_law_at"] (bJ (top 26)):=fsc
 exact jh (fl:=[.A,.A]) D sc (by decide) (by decide) fun f cdv A outer s H E hr=>aV (gY (fL Dc b_lt (vP 1) (bf (fH cG j_ (by rfl) B.len_ PySem.boot_len (dq (vP 0) dz))) (dZ _)) (bC (cP (dB (cU nM um (gJ (dx (vB 0) (vP 1))) iP)))) (cZ))
  (aV (gY (fL (mK hr.units) vX (vP 0) (bf (dW dz)) (dZ _)) (bC (cP (dB (cU dO gq (bf (cU oY vH iP (vP 1))) iP)))) (cZ))
  (bC (cP (dB (cU dO gq (bf (cU nM um (gJ (dx (vB 0) (bf (cU nM um (bf (cU oY vH (vP 1) iP)) (bf (fH cG j_ (by rfl) B.len_ PySem.boot_len (dq (vP 0) dz))))))) iP)) (bf (cU oY vH iP (vP 1))))))))
theorem CJ (D:Dg K mg "_law_part" (top 27) ["_law_script", "_law_at", "_law_k", "_law_many"]) (B:Bl mg) (h_law_cell:Has P w K mg base n "_law_cell" ["_law_script", "_law_at"] (spD K jm)):Has P w K mg base (n + 1) "_law_part" ["_law_script", "_law_at", "_law_k", "_law_many"] (spD K bF):=by
 have sc:FnScope ["_law_script", "_law_at", "_law_k", "_law_many", "_law_number", "_law_j"] ["_law_script", "_law_at", "_law_k", "_law_many"] (bJ (top 27)):=fsc
 exact jh (fl:=[.A,.A,.A,.A,.A,.A]) D sc (by decide) (by decide) fun f cdv A outer s H E hr=>aV (gY (Du (Mg (fL Dc b_lt (vP 1) (bf (fH cG j_ (by rfl) B.len_ PySem.boot_len (dq (vP 0) dz))) (dZ _)) (Ij (fL Xo ZM (gJ (dx (vB 0) (vP 1))) (bf (cU U8 X3 iP iP)) (dZ _))))) (aV (sA (i:=4) sc.nd (dx (vB 0) (vP 1)))
  (aV (nq (L:=[]) PassesOwn.never rfl (nZ (by rfl) B.range_ (zL (dq (vP 2) dz))) (gN' (i:=5) sc.nd) (bC (sA (i:=4) sc.nd (gG (cU H_ T6 (vP 4) iP)))))
  (bC (gY (fL Lb Vr (vP 4) iP (dZ _)) (bC (cP (dB (cU nM um (bf (cU nM um (vP 4) iP)) (vP 3))))) (cZ))))) (cZ))
  (aV (sA (i:=4) sc.nd (gG (cU nM um (bf (cU oY vH (bf (cU dO gq (bf (cU dO gq (jE (bW h_law_cell hr (dq (vP 0) (dq (vP 1) dz)))) (bf (cU oY vH iP (vP 1))))) iP)) (bf (cU dO gq iP (bf (cU oY vH iP (vP 2))))))) iP)))
  (aV (sA (i:=4) sc.nd (gG (cU dO gq (bf (cU nM um (bf (cU oY vH (vP 4) (vP 4))) iP)) iP)))
  (bC (cP (dB (cU nM um (bf (cU H_ T6 (bf (cU nM um (bf (cU oY vH (vP 4) (vP 4))) iP)) iP)) (vP 3)))))))
theorem zc (D:Dg K mg "_law_whole" (top 28) ["_law_found"]) (B:Bl mg):Has P w K mg base (n + 1) "_law_whole" ["_law_found"] (spD K fV):=by
 have sc:FnScope ["_law_found"] ["_law_found"] (bJ (top 28)):=fsc
 exact jh (fl:=[.A]) D sc (by decide) (by decide) fun f cdv A outer s H E hr=>bC (cP (dB (qp (bf (lY (T := "int") (by decide) (vP 0) (by rfl) B.isinstance_ (by rfl) B.int_ PyProof.Rows.boot_int)) (rE (Mf (bf (lY (T := "bool") (by decide) (vP 0) (by rfl) B.isinstance_ (by rfl) B.bool_ PyProof.Rows.boot_bool)))))))
theorem CK (D:Dg K mg "_law_held" (top 29) ["_law_script", "_law_wide"]) (B:Bl mg) (h_law_part:Has P w K mg base n "_law_part" ["_law_script", "_law_at", "_law_k", "_law_many"] (spD K bF)):Has P w K mg base (n + 1) "_law_held" ["_law_script", "_law_wide"] (spD K jo):=by
 have sc:FnScope ["_law_script", "_law_wide", "_law_base", "_law_held_here", "_law_room", "_law_number"] ["_law_script", "_law_wide"] (bJ (top 29)):=fsc
 exact jh (fl:=[.A,.A,.A,.O,.A,.A]) D sc (by decide) (by decide) fun f cdv A outer s H E hr=>aV (sA (i:=2) sc.nd (kI (bW h_law_part hr (dq (vP 0) (dq iP (dq iP (dq iP dz)))))))
  (aV (uq (i:=3) rfl sc.nd rfl (by first | exact Or.inl rfl | exact Or.inr rfl) (oF (dW dz)))
  (aV (nq (L:=[]) PassesOwn.never rfl (nZ (by rfl) B.range_ (zL (dq (vP 1) dz))) (gN' (i:=4) sc.nd) (aV (sA (i:=5) sc.nd (kI (bW h_law_part hr (dq (vP 0) (dq iP (dq (vP 4) (dq iP dz)))))))
  (bC (nY (i:=3) rfl (dx (cX (gG (dW (dq iC (dq (iB (cU Al Ia (bf (cU dO gq (vP 2) (vP 5))) iP)) dz))))) (bf (Il (dq (bf (tM Lb Vr (vP 5) iP (dZ _))) dz) (by rfl) B.int_))) rfl))))
  (bC (cP (HW 3 (by decide))))))
theorem yI (D:Dg K mg "_law_groups" (top 30) ["_law_script", "_law_wide", "_law_many"]) (B:Bl mg) (h_law_part:Has P w K mg base n "_law_part" ["_law_script", "_law_at", "_law_k", "_law_many"] (spD K bF)):Has P w K mg base (n + 1) "_law_groups" ["_law_script", "_law_wide", "_law_many"] (spD K gZ):=by
 have sc:FnScope ["_law_script", "_law_wide", "_law_many", "_law_base", "_law_groups_here", "_law_k", "_law_first", "_law_size"] ["_law_script", "_law_wide", "_law_many"] (bJ (top 30)):=fsc
 exact jh (fl:=[.A,.A,.A,.A,.O,.A,.A,.A]) D sc (by decide) (by decide) fun f cdv A outer s H E hr=>aV (sA (i:=3) sc.nd (kI (bW h_law_part hr (dq (vP 0) (dq iP (dq iP (dq iP dz)))))))
  (aV (uq (i:=4) rfl sc.nd rfl (by first | exact Or.inl rfl | exact Or.inr rfl) (oF (dW dz)))
  (aV (nq (L:=[]) PassesOwn.never rfl (nZ (by rfl) B.range_ (zL (dq (vP 2) dz))) (gN' (i:=5) sc.nd) (aV (sA (i:=6) sc.nd (gG (cU dO gq (vP 3) (jE (bW h_law_part hr (dq (vP 0) (dq (bf (cU dO gq iP (vP 5))) (dq iP (dq iP dz)))))))))
  (aV (sA (i:=7) sc.nd (gG (cU dO gq iP (jE (bW h_law_part hr (dq (vP 0) (dq (bf (cU dO gq iP (vP 5))) (dq iP (dq (vP 1) dz)))))))))
  (aV (gY (fL (mK hr.units) vX (jE (bW h_law_part hr (dq (vP 0) (dq (bf (cU dO gq iP (vP 5))) (dq iP (dq iP dz)))))) iP (dZ _)) (bC (sA (i:=7) sc.nd (gG (fH (JN rfl) Vx (by rfl) B.min_ PyProof.Rows.boot_min (dq iP (dq (bf (cU dO gq (vP 1) iP)) dz)))))) (cZ))
  (bC (nY (i:=4) rfl (uU rfl (dq (vA 6) (dq (gG (cU dO gq (bf (cU dO gq (vP 6) iP)) (jE (bW h_law_part hr (dq (vP 0) (dq (bf (cU dO gq iP (vP 5))) (dq iP (dq iP dz)))))))) (dq (vA 7) dz)))) rfl))))))
  (bC (cP (HW 4 (by decide))))))
theorem zf (D:Dg K mg "_law_turns" (top 31) ["_law_groups_here"]) (B:Bl mg):Has P w K mg base (n + 1) "_law_turns" ["_law_groups_here"] (spD K jz):=by
 have sc:FnScope ["_law_groups_here"] ["_law_groups_here"] (bJ (top 31)):=fsc
 exact jh (fl:=[.A]) D sc (by decide) (by decide) fun f cdv A outer s H E hr=>bC (cP (dB (jX (L:=[]) (fl':=[.A,.A]) rfl ["_law_pair"] ["_law_groups_here"] [0] (lX (cX (gG (MK (dq (bf (jX (L:=[]) (fl':=[.A,.A]) rfl ["_law_at"] ["_law_groups_here"] [0] (nZ (by rfl) B.range_ (zL (dq (bf (fH cG j_ (by rfl) B.len_ PySem.boot_len (dq (vP 0) dz))) dz))) (fun _ _ _ _ _=>gN' (i:=0) (show (["_law_at", "_law_groups_here"]:List Str).Nodup by decide +kernel)) (fun _ _ _ _ _=>lZ) (fun _ _ _ _ _=>iB (mL (gJ (uU rfl (dq (dx (cX (dx (vB 1) (vP 0))) iP) (dq (vA 0) dz)))))))) dz) (by rfl) B.sorted_)))) (fun _ _ _ _ _=>gN' (i:=0) (show (["_law_pair", "_law_groups_here"]:List Str).Nodup by decide +kernel)) (fun _ _ _ _ _=>lZ) (fun _ _ _ _ _=>iB (mL (gJ (dx (vB 1) (gJ (dx (vB 0) iP)))))))))
theorem CN (D:Dg K mg "_law_next" (top 32) ["_law_rows", "_law_group"]) (B:Bl mg):Has P w K mg base (n + 1) "_law_next" ["_law_rows", "_law_group"] (spD K f9):=by
 have sc:FnScope ["_law_rows", "_law_group", "_law_first", "_law_behind", "_law_size", "_law_found", "_law_row", "_law_rest", "_law_place", "_law_other_here"] ["_law_rows", "_law_group"] (bJ (top 32)):=fsc
 exact jh (fl:=[.A,.A,.A,.A,.A,.N,.A,.A,.A,.A]) D sc (by decide) (by decide) fun f cdv A outer s H E hr=>aV (Vs (vA 1) (xG rfl (jQ (gN' (i:=2) sc.nd) (jQ (gN' (i:=3) sc.nd) (jQ (gN' (i:=4) sc.nd) (ur))))))
  (aV (Im (i:=5) rfl sc.nd rfl (by first | exact Or.inl rfl | exact Or.inr rfl) (Bh))
  (aV (nq (L:=[]) PassesOwn.never rfl (xM (vB 0)) (gN' (i:=6) sc.nd) (aV (Mi (i:=7) (L:=[]) (fl':=[.A,.A]) rfl sc.nd rfl rfl rfl ["_law_end"] ["_law_first"] [2] (xM (vB 6)) (fun _ _ _ _ _=>gN' (i:=0) (show (["_law_end", "_law_first"]:List Str).Nodup by decide +kernel)) (fun _ _ _ _ _=>lZ) (fun _ _ _ _ _=>iB (mL (gJ (dx (cX (cM (fU (dq (vA 0) (dq (gG (A_)) dz))))) (bf (Il (dq (bf (tM pJ uT (vP 0) (vP 1) (dZ _))) dz) (by rfl) B.int_)))))))
  (bC (nq (L:=[]) PassesOwn.never rfl (nZ (by rfl) B.range_ (zL (dq (bf (cU dO gq (bf (cU Al Ia (bf (fH cG j_ (by rfl) B.len_ PySem.boot_len (dq (vP 6) dz))) (vP 4))) iP)) dz))) (gN' (i:=8) sc.nd) (bC (gY (fL pJ uT (bf (fH (z8 rfl) NZ (by rfl) B.max_ PyProof.Rows.boot_max (dq (bf (NT (vP 6) (gw (vP 8)) (gw (bf (cU dO gq (vP 8) (vP 4)))))) dz))) (vP 2) (dZ _)) (aV (sA (i:=9) sc.nd (cM (gO (cX (cM (nG (vB 7) jd (gw (vP 8))))) (cX (cM (qt (fU (dq (vA 3) dz)) (vP 4)))))))
  (bC (XJ.Ob (XK.hu1 hr.units) (i:=5) rfl TX (gJ (jY (cX (cM (gO (vB 9) (cX (cM (nG (vB 7) (gw (bf (cU dO gq (vP 8) (vP 4)))) jd)))))) (by rfl) B.tuple_)) rfl))) (cZ)))))))
  (bC (cP (dB (XJ.Nx rfl (dq (Rg 5 rfl) dz) (by rfl) B.sorted_))))))
theorem v8 (D:Dg K mg "_law_is_rows" (top 33) ["_law_thing", "_law_wide"]) (B:Bl mg) (h_law_whole:Has P w K mg base n "_law_whole" ["_law_found"] (spD K fV)):Has P w K mg base (n + 1) "_law_is_rows" ["_law_thing", "_law_wide"] (spD K ji):=by
 have sc:FnScope ["_law_thing", "_law_wide", "_law_row"] ["_law_thing", "_law_wide"] (bJ (top 33)):=fsc
 exact jh (fl:=[.A,.A,.A]) D sc (by decide) (by decide) fun f cdv A outer s H E hr=>aV (gY (lq (kh (bf (lY (T := "list") (by decide) (vP 0) (by rfl) B.isinstance_ (by rfl) B.list_ PyProof.Rows.boot_list)))) (bC (cP (dB (lU)))) (cZ))
  (aV (nq (L:=[]) PassesOwn.never rfl (xM (vB 0)) (gN' (i:=2) sc.nd) (aV (gY (Du (zM (lq (kh (bf (lY (T := "tuple") (by decide) (vP 2) (by rfl) B.isinstance_ (by rfl) B.tuple_ PyProof.Rows.boot_tuple)))) (uV (fL (tH hr.units) J0 (bf (fH cG j_ (by rfl) B.len_ PySem.boot_len (dq (vP 2) dz))) (vP 1) (dZ _))))) (bC (cP (dB (lU)))) (cZ))
  (bC (gY (fL (tH hr.units) J0 (bf (jX (L:=[]) (fl':=[.A]) rfl ["_law_end"] [] [] (xM (vB 2)) (fun _ _ _ _ _=>gN' (i:=0) (show (["_law_end"]:List Str).Nodup by decide +kernel)) (fun _ _ _ _ _=>wg (lq (kh (jE (bW h_law_whole hr (dq (vP 0) dz)))))) (fun _ _ _ _ _=>iB (mL (vP 0))))) (bf (dW dz)) (dZ _)) (bC (cP (dB (lU)))) (cZ)))))
  (bC (cP (dB (lU)))))
theorem yJ (D:Dg K mg "_law_closed" (top 34) ["_law_held_here", "_law_groups_here", "_law_thing"]) (B:Bl mg) (h_law_turns:Has P w K mg base n "_law_turns" ["_law_groups_here"] (spD K jz)) (h_law_next:Has P w K mg base n "_law_next" ["_law_rows", "_law_group"] (spD K f9)) (h_law_is_rows:Has P w K mg base n "_law_is_rows" ["_law_thing", "_law_wide"] (spD K ji)):Has P w K mg base (n + 1) "_law_closed" ["_law_held_here", "_law_groups_here", "_law_thing"] (spD K iZ):=by
 have sc:FnScope ["_law_held_here", "_law_groups_here", "_law_thing", "_law_rows", "_law_listed", "_law_group"] ["_law_held_here", "_law_groups_here", "_law_thing"] (bJ (top 34)):=fsc
 exact jh (fl:=[.A,.A,.A,.A,.A,.A]) D sc (by decide) (by decide) fun f cdv A outer s H E hr=>aV (gY (Du (zM (lq (kh (bf (lY (T := "list") (by decide) (vP 2) (by rfl) B.isinstance_ (by rfl) B.list_ PyProof.Rows.boot_list)))) (uV (lq (DK pJ pJ uT uT iP (bf (fH cG j_ (by rfl) B.len_ PySem.boot_len (dq (vP 2) dz))) (bf (fH cG j_ (by rfl) B.len_ PySem.boot_len (dq (vP 1) dz)))))))) (bC (cP (dB (lU)))) (cZ))
  (aV (gY (fL (tH hr.units) J0 (bf (jX (L:=[]) (fl':=[.A,.A]) rfl ["_law_rows"] ["_law_held_here"] [0] (lX (vB 2)) (fun _ _ _ _ _=>gN' (i:=0) (show (["_law_rows", "_law_held_here"]:List Str).Nodup by decide +kernel)) (fun _ _ _ _ _=>wg (lq (kh (jE (bW h_law_is_rows hr (dq (vP 0) (dq (bf (fH cG j_ (by rfl) B.len_ PySem.boot_len (dq (vP 1) dz))) dz))))))) (fun _ _ _ _ _=>iB (mL (vP 0))))) (bf (dW dz)) (dZ _)) (bC (cP (dB (lU)))) (cZ))
  (aV (sA (i:=3) sc.nd (cM (fU (dq (jY (vB 0) (by rfl) B.tuple_) dz))))
  (aV (nq (L:=[]) PassesOwn.never rfl (Mt (L1:=[]) (L2:=[]) (vB 2) (cX (kI (bW h_law_turns hr (dq (vP 1) dz)))) (by rfl) B.zip_) (xG rfl (jQ (gN' (i:=4) sc.nd) (jQ (gN' (i:=5) sc.nd) (ur)))) (aV (gY (fL (tH hr.units) J0 (bf (jX (L:=[]) (fl':=[.A,.A]) rfl ["_law_row"] ["_law_listed"] [4] (lX (cX (kI (bW h_law_next hr (dq (vP 3) (dq (vP 5) dz)))))) (fun _ _ _ _ _=>gN' (i:=0) (show (["_law_row", "_law_listed"]:List Str).Nodup by decide +kernel)) (fun _ _ _ _ _=>wg (fL (J8 hr.units) Ro (vP 0) (vP 1) (by with_unfolding_all rfl))) (fun _ _ _ _ _=>iB (mL (vP 0))))) (bf (dW dz)) (dZ _)) (bC (cP (dB (lU)))) (cZ))
  (bC (sA (i:=3) sc.nd (vA 4)))))
  (bC (cP (dB (tM (mK hr.units) vX (vP 3) (bf (dW dz)) (dZ _))))))))
theorem zj (D:Dg K mg "_law_lists" (top 35) ["_law_held_here", "_law_groups_here"]) (B:Bl mg) (h_law_turns:Has P w K mg base n "_law_turns" ["_law_groups_here"] (spD K jz)) (h_law_next:Has P w K mg base n "_law_next" ["_law_rows", "_law_group"] (spD K f9)):Has P w K mg base (n + 1) "_law_lists" ["_law_held_here", "_law_groups_here"] (spL K mC):=by
 have sc:FnScope ["_law_held_here", "_law_groups_here", "_law_lists_here", "_law_rows", "_law_group"] ["_law_held_here", "_law_groups_here"] (bJ (top 35)):=fsc
 exact Bj (fl:=[.A,.A,.O,.A,.A]) D sc (by decide) (by decide) fun f cdv A outer s H E hr=>aV (uq (i:=2) rfl sc.nd rfl (by first | exact Or.inl rfl | exact Or.inr rfl) (oF (dW dz)))
  (aV (sA (i:=3) sc.nd (cM (fU (dq (jY (vB 0) (by rfl) B.tuple_) dz))))
  (aV (nq (L:=[]) PassesOwn.never rfl (lX (cX (kI (bW h_law_turns hr (dq (vP 1) dz))))) (gN' (i:=4) sc.nd) (aV (sA (i:=3) sc.nd (kI (bW h_law_next hr (dq (vP 3) (dq (vP 4) dz)))))
  (aV (nY (i:=2) rfl (vA 3) rfl)
  (bC (gY (fL (mK hr.units) vX (vP 3) (bf (dW dz)) (dZ _)) (bC (mZ (LC (xr 2)))) (cZ))))))
  (bC (mZ (LC (xr 2))))))
theorem Ga (D:Dg K mg "_law_odd" (top 36) ["_law_lists_here", "_law_at", "_law_wide", "_law_way"]) (B:Bl mg):Has P w K mg base (n + 1) "_law_odd" ["_law_lists_here", "_law_at", "_law_wide", "_law_way"] (spL K jT):=by
 have sc:FnScope ["_law_lists_here", "_law_at", "_law_wide", "_law_way", "_law_ahead", "_law_behind", "_law_some", "_law_odd_here"] ["_law_lists_here", "_law_at", "_law_wide", "_law_way"] (bJ (top 36)):=fsc
 exact Bj (fl:=[.A,.A,.A,.A,.A,.A,.O,.A]) D sc (by decide) (by decide) fun f cdv A outer s H E hr=>aV (sA (i:=4) sc.nd (cM (nG (vB 0) jd (gw (vP 1)))))
  (aV (sA (i:=5) sc.nd (cM (nG (vB 0) (gw (bf (cU dO gq (vP 1) iP))) jd)))
  (aV (uq (i:=6) rfl sc.nd rfl (by first | exact Or.inl rfl | exact Or.inr rfl) (fU (dq (gG (Gu)) (dq (gG (dW dz)) (dq (kI (X_ (Bh))) (dq (jY (vB 0) (by rfl) B.tuple_) (dq (cM (gO (cX (cM (gO (vB 4) (cX (gG (dW (dq (iB (Gu)) dz))))))) (vB 5))) dz)))))))
  (aV (nY (i:=6) rfl (cM (gO (cX (cM (gO (vB 4) (cX (cM (fU (dq (jY (cX (dx (vB 0) (vP 1))) (by rfl) B.tuple_) dz))))))) (vB 5))) rfl)
  (aV (nY (i:=6) rfl (cM (gO (cX (cM (nG (vB 0) jd (gw (bf (Bb iP)))))) (cX (cM (fU (dq (cM (fU (dq (jY (cX (cM (qt (oF (dW (dq iC dz))) (vP 2)))) (by rfl) B.tuple_) dz))) dz)))))) rfl)
  (aV (nY (i:=6) rfl (cM (fU (dq (cM (gO (cX (cM (nG (vB 0) jd (gw (bf (Bb iP)))))) (cX (gG (dW (dq (iB (dW dz)) dz)))))) dz))) rfl)
  (aV (gY (fL Dc b_lt (vP 3) iP (dZ _)) (bC (mZ (gJ (dx (xr 6) (vP 3))))) (cZ))
  (aV (sA (i:=7) sc.nd (cM (fU (dq (cM (qt (oF (dW (dq iC dz))) (vP 2))) (dq (jY (cX (cM (qt (oF (dW (dq iC dz))) (bf (cU dO gq (vP 2) iP))))) (by rfl) B.tuple_) (dq (gG (Gu)) dz))))))
  (aV (sA (i:=7) sc.nd (cM (gO (vB 7) (cX (cM (fU (dq (jY (cX (cM (qt (oF (dW (dq (iB (lU)) dz))) (vP 2)))) (by rfl) B.tuple_) (dq (jY (cX (cM (qt (oF (dW (dq (iB (Vq)) dz))) (vP 2)))) (by rfl) B.tuple_) dz))))))))
  (bC (mZ (zJ (gO (cX (cM (gO (vB 4) (cX (cM (fU (dq (cM (gO (cX (dx (vB 0) (vP 1))) (cX (cM (fU (dq (dx (vB 7) (bf (cU Al Ia (vP 3) iP))) dz)))))) dz))))))) (vB 5)))))))))))))
theorem zm (D:Dg K mg "_law_other" (top 37) ["_law_script", "_law_lists_here", "_law_at", "_law_wide"]) (B:Bl mg) (h_law_part:Has P w K mg base n "_law_part" ["_law_script", "_law_at", "_law_k", "_law_many"] (spD K bF)):Has P w K mg base (n + 1) "_law_other" ["_law_script", "_law_lists_here", "_law_at", "_law_wide"] (spL K dR):=by
 have sc:FnScope ["_law_script", "_law_lists_here", "_law_at", "_law_wide", "_law_rows", "_law_way", "_law_k", "_law_more", "_law_place", "_law_row"] ["_law_script", "_law_lists_here", "_law_at", "_law_wide"] (bJ (top 37)):=fsc
 exact Bj (fl:=[.A,.A,.A,.A,.A,.A,.A,.A,.A,.O]) D sc (by decide) (by decide) fun f cdv A outer s H E hr=>aV (sA (i:=4) sc.nd (dx (vB 1) (vP 2)))
  (aV (sA (i:=5) sc.nd (kI (bW h_law_part hr (dq (vP 0) (dq iP (dq iP (dq iP dz)))))))
  (aV (sA (i:=6) sc.nd (kI (bW h_law_part hr (dq (vP 0) (dq iP (dq iP (dq (bf (fH (JM rfl) Vw (by rfl) B.max_ PyProof.Rows.boot_max (dq iP (dq (bf (fH cG j_ (by rfl) B.len_ PySem.boot_len (dq (vP 4) dz))) dz)))) dz)))))))
  (aV (sA (i:=7) sc.nd (cM (gO (vB 4) (cX (cM (fU (dq (jY (cX (cM (qt (oF (dW (dq iC dz))) (vP 3)))) (by rfl) B.tuple_) dz)))))))
  (aV (gY (fL (mK hr.units) vX (vP 5) iP (dZ _)) (bC (mZ (bf (jX (L:=[]) (fl':=[.A]) rfl ["_law_some"] [] [] (lX (vB 1)) (fun _ _ _ _ _=>gN' (i:=0) (show (["_law_some"]:List Str).Nodup by decide +kernel)) (fun _ _ _ _ _=>lZ) (fun _ _ _ _ _=>iB (Vp (gO (cX (cM (Rf (vB 0) rfl (by rfl) B.list_ (by rfl) B.reversed_))) (cX (cM (nG (vB 0) jd (gw iP))))))))))) (cZ))
  (aV (gY (fL (mK hr.units) vX (vP 5) iP (dZ _)) (bC (sA (i:=7) sc.nd (cM (gO (vB 4) (cX (cM (qt (fU (dq (jY (cX (cM (qt (oF (dW (dq iC dz))) (vP 3)))) (by rfl) B.tuple_) dz)) (gJ (dx (cX (gG (dW (dq iC (dq iC (dq iC (dq iC dz))))))) (jE (bW h_law_part hr (dq (vP 0) (dq iP (dq iP (dq iP dz))))))))))))))) (cZ))
  (aV (gY (fL (mK hr.units) vX (vP 5) iP (dZ _)) (bC (sA (i:=7) sc.nd (cM (gO (cX (cM (nG (vB 4) jd (gw (vP 6))))) (cX (cM (nG (vB 4) (gw (bf (cU dO gq (vP 6) iP))) jd))))))) (cZ))
  (aV (gY (Du (Mg (fL (mK hr.units) vX (vP 5) iP (dZ _)) (Ij (fL (tH hr.units) J0 (vP 4) (bf (dW dz)) (dZ _))))) (aV (sA (i:=8) sc.nd (kI (bW h_law_part hr (dq (vP 0) (dq iP (dq iP (dq (vP 3) dz)))))))
  (aV (uq (i:=9) rfl sc.nd rfl (by first | exact Or.inl rfl | exact Or.inr rfl) (Bd (cX (dx (vB 4) (vP 6))) (by rfl) B.list_))
  (aV (Vt (i:=9) rfl (gG (cU dO gq (gJ (dx (xr 9) (vP 8))) iP)) (vP 8) rfl)
  (bC (sA (i:=7) sc.nd (cM (gO (cX (cM (gO (cX (cM (nG (vB 4) jd (gw (vP 6))))) (cX (cM (fU (dq (jY (xr 9) (by rfl) B.tuple_) dz))))))) (cX (cM (nG (vB 4) (gw (bf (cU dO gq (vP 6) iP))) jd)))))))))) (cZ))
  (aV (gY (fL (mK hr.units) vX (vP 5) iP (dZ _)) (bC (mZ (zJ (nG (vB 1) jd (gw (bf (Bb iP))))))) (cZ))
  (aV (gY (fL (mK hr.units) vX (vP 5) iP (dZ _)) (bC (mZ (zJ (gO (vB 1) (cX (gG (dW (dq (iB (dW dz)) dz)))))))) (cZ))
  (aV (gY (fL (mK hr.units) vX (vP 5) iP (dZ _)) (bC (mZ (zJ (gO (vB 1) (cX (cM (fU (dq (vA 7) dz)))))))) (cZ))
  (bC (mZ (zJ (gO (cX (cM (gO (cX (cM (nG (vB 1) jd (gw (vP 2))))) (cX (cM (fU (dq (vA 7) dz))))))) (cX (cM (nG (vB 1) (gw (bf (cU dO gq (vP 2) iP))) jd)))))))))))))))))
theorem sV (D:Dg K mg "_law_copy" (top 38) ["_law_thing"]) (B:Bl mg):∀ m,Has P w K mg base (n + m) "_law_copy" ["_law_thing"] (spD K (dX m))
 | 0=>ZS D
 | m + 1=>by
  have h_law_copy:=sV D B  m
  have sc:FnScope ["_law_thing"] ["_law_thing"] (bJ (top 38)):=fsc
  show Has P w K mg base (n + m + 1) "_law_copy" ["_law_thing"] (spD K (fnD 1 0 (cF (sIf (cI (dUn (gIs "list") (aD 0))) (fJ (gW (rC (aD 0)) (gNl 0) (jx) (dCall (dX m) (aF (aD 0) (bw))) 1 [])) (iK))
   (fJ (i_ (aD 0))))))
  exact jh (fl:=[.A]) D sc (by decide) (by decide) fun f cdv A outer s H E hr=>aV (gY (kh (bf (lY (T := "list") (by decide) (vP 0) (by rfl) B.isinstance_ (by rfl) B.list_ PyProof.Rows.boot_list))) (bC (cP (dB (jX (L:=[]) (fl':=[.A]) rfl ["_law_part_here"] [] [] (lX (vB 0)) (fun _ _ _ _ _=>gN' (i:=0) (show (["_law_part_here"]:List Str).Nodup by decide +kernel)) (fun _ _ _ _ _=>lZ) (fun _ _ _ _ _=>bW h_law_copy hr (dq (vP 0) dz)))))) (cZ))
   (bC (cP (dB (mL (vP 0)))))
theorem CP (D:Dg K mg "_law_copy" (top 38) ["_law_thing"]) (B:Bl mg):Has P w K mg base (n + 12) "_law_copy" ["_law_thing"] (spD K m9):=sV D B  12
theorem zp (D:Dg K mg "_law_copy" (top 38) ["_law_thing"]) (B:Bl mg):Has P w K mg base (n + 1) "_law_copy" ["_law_thing"] (spL K jA):=by
 have sc:FnScope ["_law_thing"] ["_law_thing"] (bJ (top 38)):=fsc
 exact Bj (fl:=[.A]) D sc (by decide) (by decide) fun f cdv A outer s H E hr=>aV (gY (kh (bf (lY (T := "list") (by decide) (vP 0) (by rfl) B.isinstance_ (by rfl) B.list_ PyProof.Rows.boot_list))) (bC (Dw)) (cZ)) (bC (mZ (vP 0)))
theorem yK (D:Dg K mg "_law_looked" (top 39) ["_law_held_here", "_law_groups_here", "_law_thing", "_law_due"]) (B:Bl mg) (his_none:Has P w K mg base n "is_none" ["held", "groups", "thing"] (spD K fM)) (h_law_copy:Has P w K mg base n "_law_copy" ["_law_thing"] (spD K m9)) (hL_law_copy:Has P w K mg base n "_law_copy" ["_law_thing"] (spL K jA)):Has P w K mg base (n + 1) "_law_looked" ["_law_held_here", "_law_groups_here", "_law_thing", "_law_due"] (spD K cW):=by
 have sc:FnScope ["_law_held_here", "_law_groups_here", "_law_thing", "_law_due", "_law_handed", "_law_kept", "_law_found"] ["_law_held_here", "_law_groups_here", "_law_thing", "_law_due"] (bJ (top 39)):=fsc
 exact jh (fl:=[.A,.A,.A,.A,.A,.A,.A]) D sc (by decide) (by decide) fun f cdv A outer s H E hr=>aV (sA (i:=4) sc.nd (cM (fU (dq (cM (Bd (vB 0) (by rfl) B.list_)) (dq (cM (Bd (vB 1) (by rfl) B.list_)) dz)))))
  (aV (sA (i:=5) sc.nd (VF rfl (Od h_law_copy hL_law_copy hr (dq (vP 2) dz))))
  (aV (sA (i:=6) sc.nd (kI (bW his_none hr (dq (gJ (dx (vB 4) iP)) (dq (gJ (dx (vB 4) iP)) (dq (vP 2) dz))))))
  (aV (gY (Du (zM (lq (kh (bf (lY (T := "bool") (by decide) (vP 6) (by rfl) B.isinstance_ (by rfl) B.bool_ PyProof.Rows.boot_bool)))) (uV (fL (VP hr.units) Ye (vP 6) (vP 3) (dZ _))))) (bC (cP (dB (lU)))) (cZ))
  (bC (cP (dB (qp (bf (tM (Mz hr.units) Ua (vP 4) (zJ (fU (dq (vA 0) (dq (vA 1) dz)))) (dZ _))) (rE (tM (Mz hr.units) Ua (vP 2) (vP 5) (dZ _))))))))))
theorem Xb (Fn:FunD K "law" (top 40) f fd) (B:Bl mg) (h_law_part:Has P w K mg base n "_law_part" ["_law_script", "_law_at", "_law_k", "_law_many"] (spD K bF)) (h_law_held:Has P w K mg base n "_law_held" ["_law_script", "_law_wide"] (spD K jo)) (h_law_groups:Has P w K mg base n "_law_groups" ["_law_script", "_law_wide", "_law_many"] (spD K gZ)) (h_law_closed:Has P w K mg base n "_law_closed" ["_law_held_here", "_law_groups_here", "_law_thing"] (spD K iZ)) (h_law_lists:Has P w K mg base n "_law_lists" ["_law_held_here", "_law_groups_here"] (spL K mC)) (h_law_odd:Has P w K mg base n "_law_odd" ["_law_lists_here", "_law_at", "_law_wide", "_law_way"] (spL K jT)) (h_law_other:Has P w K mg base n "_law_other" ["_law_script", "_law_lists_here", "_law_at", "_law_wide"] (spL K dR)) (h_law_looked:Has P w K mg base n "_law_looked" ["_law_held_here", "_law_groups_here", "_law_thing", "_law_due"] (spD K cW)):FnOk P w K mg base CX0 (n + 1) f fd ["_law_script"] (spD K Pa):=by
 have sc:FnScope ["_law_script", "_law_wide", "_law_held_here", "_law_groups_here", "_law_base", "_law_place", "_law_lists_here", "_law_at", "_law_other_here"] ["_law_script"] (bJ (top 40)):=fsc
 exact Mj (fl:=[.A,.A,.A,.A,.A,.A,.A,.A,.A]) Fn sc (by decide) (by decide) fun f cdv A outer s H E hr=>aV (sA (i:=1) sc.nd (gG (cU dO gq iP (jE (bW h_law_part hr (dq (vP 0) (dq iP (dq iP (dq iP dz)))))))))
  (aV (sA (i:=2) sc.nd (kI (bW h_law_held hr (dq (vP 0) (dq (vP 1) dz)))))
  (aV (sA (i:=3) sc.nd (kI (bW h_law_groups hr (dq (vP 0) (dq (vP 1) (dq (jE (bW h_law_part hr (dq (vP 0) (dq iP (dq iP (dq iP dz)))))) dz))))))
  (aV (sA (i:=4) sc.nd (kI (bW h_law_part hr (dq (vP 0) (dq iP (dq iP (dq iP dz)))))))
  (aV (sA (i:=5) sc.nd (kI (bW h_law_part hr (dq (vP 0) (dq iP (dq iP (dq (bf (cU dO gq (bf (fH cG j_ (by rfl) B.len_ PySem.boot_len (dq (vP 3) dz))) iP)) dz)))))))
  (aV (sA (i:=3) sc.nd (cM (gO (cX (cM (gO (cX (cM (nG (vB 3) jd (gw (vP 5))))) (cX (gG (dW (dq (uU rfl (dq (iB (cU dO gq (vP 4) iP)) (dq (iB (cU dO gq (bf (cU dO gq (vP 4) iP)) (jE (bW h_law_part hr (dq (vP 0) (dq iP (dq iP (dq iP dz)))))))) (dq (iB (cU dO gq (vP 1) iP)) dz)))) dz))))))) (cX (cM (nG (vB 3) (gw (vP 5)) jd))))))
  (aV (sA (i:=6) sc.nd (VF rfl (uD h_law_lists hr (dq (vP 2) (dq (vP 3) dz)))))
  (aV (gY (lq (kh (jE (bW h_law_looked hr (dq (vP 2) (dq (vP 3) (dq (vP 6) (dq (bf (lU)) dz)))))))) (bC (cP (dB (lU)))) (cZ))
  (aV (sA (i:=7) sc.nd (kI (bW h_law_part hr (dq (vP 0) (dq iP (dq iP (dq (bf (fH cG j_ (by rfl) B.len_ PySem.boot_len (dq (vP 6) dz))) dz)))))))
  (aV (sA (i:=8) sc.nd (VF rfl (uD h_law_other hr (dq (vP 0) (dq (vP 6) (dq (vP 7) (dq (vP 1) dz)))))))
  (aV (gY (lq (kh (jE (bW h_law_looked hr (dq (vP 2) (dq (vP 3) (dq (vP 8) (dq (jE (bW h_law_closed hr (dq (vP 2) (dq (vP 3) (dq (vP 8) dz))))) dz)))))))) (bC (cP (dB (lU)))) (cZ))
  (bC (cP (zH (bW h_law_looked hr (dq (vP 2) (dq (vP 3) (dq (uD h_law_odd hr (dq (vP 6) (dq (vP 7) (dq (vP 1) (dq (jE (bW h_law_part hr (dq (vP 0) (dq iP (dq iP (dq iP dz)))))) dz))))) (dq (bf (lU)) dz))))))))))))))))))
end
end K75
namespace D3
theorem len0 {p:List PySem.Value→Prop} (h:p []):∀ us,us.length=0→p us:=fun us hl=>by
 cases us with
 | nil=>exact h
 | cons _ _=>cases hl
theorem d9 {p:List PySem.Value→Prop} (h:∀ a us,us.length=n→p (a :: us)):∀ us,us.length=n + 1→p us:=fun us hl=>by
 cases us with
 | nil=>cases hl
 | cons a r=>exact h a r (Nat.succ.inj hl)
end D3
namespace K75
open PySem L2 My D3
structure Txt (K:PySem.W.Frag) (mg:Str→Option Value):Prop where
 d_is_whole:Dg K mg "is_whole" (top 4) ["thing"]
 d_is_whole_within:Dg K mg "is_whole_within" (top 5) ["thing", "least", "most"]
 d_all_whole:Dg K mg "all_whole" (top 6) ["things"]
 d_is_tuple_of:Dg K mg "is_tuple_of" (top 7) ["thing", "many"]
 d_is_pair:Dg K mg "is_pair" (top 8) ["thing"]
 d_is_stretch:Dg K mg "is_stretch" (top 11) ["thing"]
 d_nights_of:Dg K mg "nights_of" (top 12) ["stay"]
 d_is_group:Dg K mg "is_group" (top 15) ["thing"]
 d_check_groups:Dg K mg "check_groups" (top 16) ["groups"]
 d_turns:XL.DgT K mg "turns" (top 17) ["groups"] 109 "turns.<locals>.<lambda>" ⟨36,42,36,72⟩
 d_starts_in:Dg K mg "starts_in" (top 18) ["row", "group"]
 d_night_behind:Dg K mg "night_behind" (top 19) ["since", "group", "is_own"]
 d_row_behind:Dg K mg "row_behind" (top 20) ["row", "group", "start"]
 d_rows_behind:Dg K mg "rows_behind" (top 21) ["rows", "group"]
 d_is_row_list:Dg K mg "is_row_list" (top 22) ["thing", "many"]
 d_has_all:Dg K mg "has_all" (top 23) ["rows", "needed"]
 d_is_none:Dg K mg "is_none" (top 24) ["held", "groups", "thing"]
 d__law_cell:Dg K mg "_law_cell" (top 26) ["_law_script", "_law_at"]
 d__law_part:Dg K mg "_law_part" (top 27) ["_law_script", "_law_at", "_law_k", "_law_many"]
 d__law_whole:Dg K mg "_law_whole" (top 28) ["_law_found"]
 d__law_held:Dg K mg "_law_held" (top 29) ["_law_script", "_law_wide"]
 d__law_groups:Dg K mg "_law_groups" (top 30) ["_law_script", "_law_wide", "_law_many"]
 d__law_turns:Dg K mg "_law_turns" (top 31) ["_law_groups_here"]
 d__law_next:Dg K mg "_law_next" (top 32) ["_law_rows", "_law_group"]
 d__law_is_rows:Dg K mg "_law_is_rows" (top 33) ["_law_thing", "_law_wide"]
 d__law_closed:Dg K mg "_law_closed" (top 34) ["_law_held_here", "_law_groups_here", "_law_thing"]
 d__law_lists:Dg K mg "_law_lists" (top 35) ["_law_held_here", "_law_groups_here"]
 d__law_odd:Dg K mg "_law_odd" (top 36) ["_law_lists_here", "_law_at", "_law_wide", "_law_way"]
 d__law_other:Dg K mg "_law_other" (top 37) ["_law_script", "_law_lists_here", "_law_at", "_law_wide"]
 d__law_copy:Dg K mg "_law_copy" (top 38) ["_law_thing"]
 d__law_looked:Dg K mg "_law_looked" (top 39) ["_law_held_here", "_law_groups_here", "_law_thing", "_law_due"]
 d_law:Dl K mg "law" "_law_script" (top 40)
 blt:Bl mg
 c_NIGHTS:∃ t,mg "NIGHTS" = some (.int 400 t)
 c_MOST_OF_A_GROUP:∃ t,mg "MOST_OF_A_GROUP" = some (.int 6 t)
theorem Xc (T:Txt K mg) {f:Addr} {fd:FuncData} (F:FunD K "law" (top 40) f fd):FnOk P w K mg base CX0 65 f fd ["_law_script"] (Ml K):=by
 have h_is_whole:=FW (P:=P) (w:=w) (base:=base) (n:=0) T.d_is_whole T.blt
 have h_nights_of:=Cy (P:=P) (w:=w) (base:=base) (n:=0) T.d_nights_of T.blt
 have h_turns:=Qi (P:=P) (w:=w) (base:=base) (n:=0) T.d_turns T.blt
 have h_starts_in:=Cz (P:=P) (w:=w) (base:=base) (n:=0) T.d_starts_in T.blt
 have h_night_behind:=v7 (P:=P) (w:=w) (base:=base) (n:=0) T.d_night_behind T.blt
 have h_has_all:=Ht (P:=P) (w:=w) (base:=base) (n:=0) T.d_has_all T.blt
 have h__law_cell:=CG (P:=P) (w:=w) (base:=base) (n:=0) T.d__law_cell T.blt
 have h__law_whole:=zc (P:=P) (w:=w) (base:=base) (n:=0) T.d__law_whole T.blt
 have h__law_turns:=zf (P:=P) (w:=w) (base:=base) (n:=0) T.d__law_turns T.blt
 have h__law_next:=CN (P:=P) (w:=w) (base:=base) (n:=0) T.d__law_next T.blt
 have h__law_odd:=Ga (P:=P) (w:=w) (base:=base) (n:=0) T.d__law_odd T.blt
 have h_is_whole_within:=tV (P:=P) (w:=w) (base:=base) (n:=1) T.d_is_whole_within T.blt (h_is_whole.mono (by decide))
 have h_all_whole:=Cw (P:=P) (w:=w) (base:=base) (n:=1) T.d_all_whole T.blt (h_is_whole.mono (by decide))
 have h_row_behind:=yZ (P:=P) (w:=w) (base:=base) (n:=1) T.d_row_behind T.blt (h_night_behind.mono (by decide))
 have h__law_part:=CJ (P:=P) (w:=w) (base:=base) (n:=1) T.d__law_part T.blt (h__law_cell.mono (by decide))
 have h__law_is_rows:=v8 (P:=P) (w:=w) (base:=base) (n:=1) T.d__law_is_rows T.blt (h__law_whole.mono (by decide))
 have h__law_lists:=zj (P:=P) (w:=w) (base:=base) (n:=1) T.d__law_lists T.blt (h__law_turns.mono (by decide)) (h__law_next.mono (by decide))
 have h_is_tuple_of:=yF (P:=P) (w:=w) (base:=base) (n:=2) T.d_is_tuple_of T.blt (h_all_whole.mono (by decide))
 have h_rows_behind:=yG (P:=P) (w:=w) (base:=base) (n:=2) T.d_rows_behind T.blt (h_starts_in.mono (by decide)) (h_row_behind.mono (by decide))
 have h__law_held:=CK (P:=P) (w:=w) (base:=base) (n:=2) T.d__law_held T.blt (h__law_part.mono (by decide))
 have h__law_groups:=yI (P:=P) (w:=w) (base:=base) (n:=2) T.d__law_groups T.blt (h__law_part.mono (by decide))
 have h__law_closed:=yJ (P:=P) (w:=w) (base:=base) (n:=2) T.d__law_closed T.blt (h__law_turns.mono (by decide)) (h__law_next.mono (by decide)) (h__law_is_rows.mono (by decide))
 have h__law_other:=zm (P:=P) (w:=w) (base:=base) (n:=2) T.d__law_other T.blt (h__law_part.mono (by decide))
 have h_is_pair:=Hs (P:=P) (w:=w) (base:=base) (n:=3) T.d_is_pair T.blt (h_is_tuple_of.mono (by decide))
 have h_is_row_list:=yH (P:=P) (w:=w) (base:=base) (n:=3) T.d_is_row_list T.blt (h_is_tuple_of.mono (by decide))
 have h_is_stretch:=yX (P:=P) (w:=w) (base:=base) (n:=4) T.d_is_stretch T.blt (h_is_pair.mono (by decide)) T.c_NIGHTS
 have h_is_group:=FZ (P:=P) (w:=w) (base:=base) (n:=5) T.d_is_group T.blt (h_is_whole_within.mono (by decide)) (h_is_stretch.mono (by decide)) (h_nights_of.mono (by decide)) T.c_MOST_OF_A_GROUP
 have h_check_groups:=v5 (P:=P) (w:=w) (base:=base) (n:=6) T.d_check_groups T.blt (h_is_group.mono (by decide))
 have h_is_none:=Hu (P:=P) (w:=w) (base:=base) (n:=7) T.d_is_none T.blt (h_check_groups.mono (by decide)) (h_turns.mono (by decide)) (h_rows_behind.mono (by decide)) (h_is_row_list.mono (by decide)) (h_has_all.mono (by decide))
 have h__law_copy:=CP (P:=P) (w:=w) (base:=base) (n:=0) T.d__law_copy T.blt
 have hL__law_copy:=zp (P:=P) (w:=w) (base:=base) (n:=11) T.d__law_copy T.blt
 have h__law_looked:=yK (P:=P) (w:=w) (base:=base) (n:=12) T.d__law_looked T.blt (h_is_none.mono (by decide)) (h__law_copy.mono (by decide)) (hL__law_copy.mono (by decide))
 exact ((Xb (P:=P) (w:=w) (base:=base) (n:=13) F T.blt (h__law_part.mono (by decide)) (h__law_held.mono (by decide)) (h__law_groups.mono (by decide)) (h__law_closed.mono (by decide)) (h__law_lists.mono (by decide)) (h__law_odd.mono (by decide)) (h__law_other.mono (by decide)) (h__law_looked.mono (by decide))).mono (by decide)).imp (Rc K75.Qh)
end K75
def PySem.W.Fast.tw4459652842642291056:=0
def PySem.W.Fast.tw1021602293495973176:=0
def PySem.W.Fast.tw13765389455201083899:=0
def PySem.W.Fast.tw5436243928758236004:=0
def PySem.W.Fast.tw4128620492169422297:=0
def PySem.W.Fast.tw4963242000848328212:=0
def PySem.W.Fast.tw15246864271768461318:=0
def PySem.W.Fast.tw4715181225853189444:=0
def PySem.W.Fast.tw1310780385342330705:=0
def PySem.W.Fast.tw5615376505421629100:=0
def PySem.W.Fast.tw1780070561876949045:=0
def PySem.W.Fast.tw5672455146416836220:=0
def PySem.W.Fast.tw13807129114103431179:=0
def PySem.W.Fast.tw3750155832197594158:=0
def PySem.W.Fast.tw14784248385317901723:=0
def PySem.W.Fast.tw16338496564930086883:=0
open PySem PySem.W PyProof.Rows
set_option maxRecDepth 100000 in
set_option maxHeartbeats 0 in
theorem PySem.Challenge.cw_nightbook_k75_lists_looked_at_holds : PySem.Challenge.rw_nightbook_k75_lists_looked_at.Holds := by
 w_on;o_law;k_head;(case hw=>w_witness2)
 k_fill
 refine L2.Ln (l:=PySem.Challenge.rw_nightbook_k75_lists_looked_at) (n:=63) (k:=65) (x := "_law_script") (CX:=L2.CX0) (sp:=D3.Ml) rfl (by decide) rfl ⟨rfl,by decide,by decide⟩ (fun w h Y=>PySem.W.km_in_of Y) ?F D3.tabs (fun w h Y=>XL.R3 (c:=113) (PySem.W.km_in_of Y) (PySem.W.km_tabs_of Y _ (aJ)) (by kernel_rfl) (by kernel_rfl)) XL.Oh ?S ?C
 case F =>
  intro w mg fa h KX G hmg
  have T:K75.Txt (L2.KOf KX) mg:=by
   dsimp only [L2.KOf]
   have d_is_whole:D3.Dg (L2.KOf KX) mg "is_whole" (K75.top 4) ["thing"]:=by
    dsimp only [L2.KOf]
    refine' D3.iy KX G ?b ?a ?l ?c ?k
    (case a=>k_is);(case l=>k_is);(case c=>k_is);(case k=>k_is)
    (case b=>exact fun _ _ _ _ _ _=>D3.d9 fun _=>D3.len0 rfl)
   have d_is_whole_within:D3.Dg (L2.KOf KX) mg "is_whole_within" (K75.top 5) ["thing", "least", "most"]:=by
    dsimp only [L2.KOf]
    refine' D3.iy KX G ?b ?a ?l ?c ?k
    (case a=>k_is);(case l=>k_is);(case c=>k_is);(case k=>k_is)
    (case b=>exact fun _ _ _ _ _ _=>D3.d9 fun _=>D3.d9 fun _=>D3.d9 fun _=>D3.len0 rfl)
   have d_all_whole:D3.Dg (L2.KOf KX) mg "all_whole" (K75.top 6) ["things"]:=by
    dsimp only [L2.KOf]
    refine' D3.iy KX G ?b ?a ?l ?c ?k
    (case a=>k_is);(case l=>k_is);(case c=>k_is);(case k=>k_is)
    (case b=>exact fun _ _ _ _ _ _=>D3.d9 fun _=>D3.len0 rfl)
   have d_is_tuple_of:D3.Dg (L2.KOf KX) mg "is_tuple_of" (K75.top 7) ["thing", "many"]:=by
    dsimp only [L2.KOf]
    refine' D3.iy KX G ?b ?a ?l ?c ?k
    (case a=>k_is);(case l=>k_is);(case c=>k_is);(case k=>k_is)
    (case b=>exact fun _ _ _ _ _ _=>D3.d9 fun _=>D3.d9 fun _=>D3.len0 rfl)
   have d_is_pair:D3.Dg (L2.KOf KX) mg "is_pair" (K75.top 8) ["thing"]:=by
    dsimp only [L2.KOf]
    refine' D3.iy KX G ?b ?a ?l ?c ?k
    (case a=>k_is);(case l=>k_is);(case c=>k_is);(case k=>k_is)
    (case b=>exact fun _ _ _ _ _ _=>D3.d9 fun _=>D3.len0 rfl)
   have d_is_stretch:D3.Dg (L2.KOf KX) mg "is_stretch" (K75.top 11) ["thing"]:=by
    dsimp only [L2.KOf]
    refine' D3.iy KX G ?b ?a ?l ?c ?k
    (case a=>k_is);(case l=>k_is);(case c=>k_is);(case k=>k_is)
    (case b=>exact fun _ _ _ _ _ _=>D3.d9 fun _=>D3.len0 rfl)
   have d_nights_of:D3.Dg (L2.KOf KX) mg "nights_of" (K75.top 12) ["stay"]:=by
    dsimp only [L2.KOf]
    refine' D3.iy KX G ?b ?a ?l ?c ?k
    (case a=>k_is);(case l=>k_is);(case c=>k_is);(case k=>k_is)
    (case b=>exact fun _ _ _ _ _ _=>D3.d9 fun _=>D3.len0 rfl)
   have d_is_group:D3.Dg (L2.KOf KX) mg "is_group" (K75.top 15) ["thing"]:=by
    dsimp only [L2.KOf]
    refine' D3.iy KX G ?b ?a ?l ?c ?k
    (case a=>k_is);(case l=>k_is);(case c=>k_is);(case k=>k_is)
    (case b=>exact fun _ _ _ _ _ _=>D3.d9 fun _=>D3.len0 rfl)
   have d_check_groups:D3.Dg (L2.KOf KX) mg "check_groups" (K75.top 16) ["groups"]:=by
    dsimp only [L2.KOf]
    refine' D3.iy KX G ?b ?a ?l ?c ?k
    (case a=>k_is);(case l=>k_is);(case c=>k_is);(case k=>k_is)
    (case b=>exact fun _ _ _ _ _ _=>D3.d9 fun _=>D3.len0 rfl)
   have d_turns:XL.DgT (L2.KOf KX) mg "turns" (K75.top 17) ["groups"] 109 "turns.<locals>.<lambda>" ⟨36,42,36,72⟩:=by
    dsimp only [L2.KOf]
    refine' XL.V8 KX G ?b ?a ?l ?c ?k ?h ?t
    (case a=>k_is);(case l=>k_is);(case c=>k_is);(case k=>k_is);(case h=>kernel_rfl);(case t=>exact aJ)
    (case b=>exact fun _ _ _ _ _ _=>D3.d9 fun _=>D3.len0 rfl)
   have d_starts_in:D3.Dg (L2.KOf KX) mg "starts_in" (K75.top 18) ["row", "group"]:=by
    dsimp only [L2.KOf]
    refine' D3.iy KX G ?b ?a ?l ?c ?k
    (case a=>k_is);(case l=>k_is);(case c=>k_is);(case k=>k_is)
    (case b=>exact fun _ _ _ _ _ _=>D3.d9 fun _=>D3.d9 fun _=>D3.len0 rfl)
   have d_night_behind:D3.Dg (L2.KOf KX) mg "night_behind" (K75.top 19) ["since", "group", "is_own"]:=by
    dsimp only [L2.KOf]
    refine' D3.iy KX G ?b ?a ?l ?c ?k
    (case a=>k_is);(case l=>k_is);(case c=>k_is);(case k=>k_is)
    (case b=>exact fun _ _ _ _ _ _=>D3.d9 fun _=>D3.d9 fun _=>D3.d9 fun _=>D3.len0 rfl)
   have d_row_behind:D3.Dg (L2.KOf KX) mg "row_behind" (K75.top 20) ["row", "group", "start"]:=by
    dsimp only [L2.KOf]
    refine' D3.iy KX G ?b ?a ?l ?c ?k
    (case a=>k_is);(case l=>k_is);(case c=>k_is);(case k=>k_is)
    (case b=>exact fun _ _ _ _ _ _=>D3.d9 fun _=>D3.d9 fun _=>D3.d9 fun _=>D3.len0 rfl)
   have d_rows_behind:D3.Dg (L2.KOf KX) mg "rows_behind" (K75.top 21) ["rows", "group"]:=by
    dsimp only [L2.KOf]
    refine' D3.iy KX G ?b ?a ?l ?c ?k
    (case a=>k_is);(case l=>k_is);(case c=>k_is);(case k=>k_is)
    (case b=>exact fun _ _ _ _ _ _=>D3.d9 fun _=>D3.d9 fun _=>D3.len0 rfl)
   have d_is_row_list:D3.Dg (L2.KOf KX) mg "is_row_list" (K75.top 22) ["thing", "many"]:=by
    dsimp only [L2.KOf]
    refine' D3.iy KX G ?b ?a ?l ?c ?k
    (case a=>k_is);(case l=>k_is);(case c=>k_is);(case k=>k_is)
    (case b=>exact fun _ _ _ _ _ _=>D3.d9 fun _=>D3.d9 fun _=>D3.len0 rfl)
   have d_has_all:D3.Dg (L2.KOf KX) mg "has_all" (K75.top 23) ["rows", "needed"]:=by
    dsimp only [L2.KOf]
    refine' D3.iy KX G ?b ?a ?l ?c ?k
    (case a=>k_is);(case l=>k_is);(case c=>k_is);(case k=>k_is)
    (case b=>exact fun _ _ _ _ _ _=>D3.d9 fun _=>D3.d9 fun _=>D3.len0 rfl)
   have d_is_none:D3.Dg (L2.KOf KX) mg "is_none" (K75.top 24) ["held", "groups", "thing"]:=by
    dsimp only [L2.KOf]
    refine' D3.iy KX G ?b ?a ?l ?c ?k
    (case a=>k_is);(case l=>k_is);(case c=>k_is);(case k=>k_is)
    (case b=>exact fun _ _ _ _ _ _=>D3.d9 fun _=>D3.d9 fun _=>D3.d9 fun _=>D3.len0 rfl)
   have d__law_cell:D3.Dg (L2.KOf KX) mg "_law_cell" (K75.top 26) ["_law_script", "_law_at"]:=by
    dsimp only [L2.KOf]
    refine' D3.iy KX G ?b ?a ?l ?c ?k
    (case a=>k_is);(case l=>k_is);(case c=>k_is);(case k=>k_is)
    (case b=>exact fun _ _ _ _ _ _=>D3.d9 fun _=>D3.d9 fun _=>D3.len0 rfl)
   have d__law_part:D3.Dg (L2.KOf KX) mg "_law_part" (K75.top 27) ["_law_script", "_law_at", "_law_k", "_law_many"]:=by
    dsimp only [L2.KOf]
    refine' D3.iy KX G ?b ?a ?l ?c ?k
    (case a=>k_is);(case l=>k_is);(case c=>k_is);(case k=>k_is)
    (case b=>exact fun _ _ _ _ _ _=>D3.d9 fun _=>D3.d9 fun _=>D3.d9 fun _=>D3.d9 fun _=>D3.len0 rfl)
   have d__law_whole:D3.Dg (L2.KOf KX) mg "_law_whole" (K75.top 28) ["_law_found"]:=by
    dsimp only [L2.KOf]
    refine' D3.iy KX G ?b ?a ?l ?c ?k
    (case a=>k_is);(case l=>k_is);(case c=>k_is);(case k=>k_is)
    (case b=>exact fun _ _ _ _ _ _=>D3.d9 fun _=>D3.len0 rfl)
   have d__law_held:D3.Dg (L2.KOf KX) mg "_law_held" (K75.top 29) ["_law_script", "_law_wide"]:=by
    dsimp only [L2.KOf]
    refine' D3.iy KX G ?b ?a ?l ?c ?k
    (case a=>k_is);(case l=>k_is);(case c=>k_is);(case k=>k_is)
    (case b=>exact fun _ _ _ _ _ _=>D3.d9 fun _=>D3.d9 fun _=>D3.len0 rfl)
   have d__law_groups:D3.Dg (L2.KOf KX) mg "_law_groups" (K75.top 30) ["_law_script", "_law_wide", "_law_many"]:=by
    dsimp only [L2.KOf]
    refine' D3.iy KX G ?b ?a ?l ?c ?k
    (case a=>k_is);(case l=>k_is);(case c=>k_is);(case k=>k_is)
    (case b=>exact fun _ _ _ _ _ _=>D3.d9 fun _=>D3.d9 fun _=>D3.d9 fun _=>D3.len0 rfl)
   have d__law_turns:D3.Dg (L2.KOf KX) mg "_law_turns" (K75.top 31) ["_law_groups_here"]:=by
    dsimp only [L2.KOf]
    refine' D3.iy KX G ?b ?a ?l ?c ?k
    (case a=>k_is);(case l=>k_is);(case c=>k_is);(case k=>k_is)
    (case b=>exact fun _ _ _ _ _ _=>D3.d9 fun _=>D3.len0 rfl)
   have d__law_next:D3.Dg (L2.KOf KX) mg "_law_next" (K75.top 32) ["_law_rows", "_law_group"]:=by
    dsimp only [L2.KOf]
    refine' D3.iy KX G ?b ?a ?l ?c ?k
    (case a=>k_is);(case l=>k_is);(case c=>k_is);(case k=>k_is)
    (case b=>exact fun _ _ _ _ _ _=>D3.d9 fun _=>D3.d9 fun _=>D3.len0 rfl)
   have d__law_is_rows:D3.Dg (L2.KOf KX) mg "_law_is_rows" (K75.top 33) ["_law_thing", "_law_wide"]:=by
    dsimp only [L2.KOf]
    refine' D3.iy KX G ?b ?a ?l ?c ?k
    (case a=>k_is);(case l=>k_is);(case c=>k_is);(case k=>k_is)
    (case b=>exact fun _ _ _ _ _ _=>D3.d9 fun _=>D3.d9 fun _=>D3.len0 rfl)
   have d__law_closed:D3.Dg (L2.KOf KX) mg "_law_closed" (K75.top 34) ["_law_held_here", "_law_groups_here", "_law_thing"]:=by
    dsimp only [L2.KOf]
    refine' D3.iy KX G ?b ?a ?l ?c ?k
    (case a=>k_is);(case l=>k_is);(case c=>k_is);(case k=>k_is)
    (case b=>exact fun _ _ _ _ _ _=>D3.d9 fun _=>D3.d9 fun _=>D3.d9 fun _=>D3.len0 rfl)
   have d__law_lists:D3.Dg (L2.KOf KX) mg "_law_lists" (K75.top 35) ["_law_held_here", "_law_groups_here"]:=by
    dsimp only [L2.KOf]
    refine' D3.iy KX G ?b ?a ?l ?c ?k
    (case a=>k_is);(case l=>k_is);(case c=>k_is);(case k=>k_is)
    (case b=>exact fun _ _ _ _ _ _=>D3.d9 fun _=>D3.d9 fun _=>D3.len0 rfl)
   have d__law_odd:D3.Dg (L2.KOf KX) mg "_law_odd" (K75.top 36) ["_law_lists_here", "_law_at", "_law_wide", "_law_way"]:=by
    dsimp only [L2.KOf]
    refine' D3.iy KX G ?b ?a ?l ?c ?k
    (case a=>k_is);(case l=>k_is);(case c=>k_is);(case k=>k_is)
    (case b=>exact fun _ _ _ _ _ _=>D3.d9 fun _=>D3.d9 fun _=>D3.d9 fun _=>D3.d9 fun _=>D3.len0 rfl)
   have d__law_other:D3.Dg (L2.KOf KX) mg "_law_other" (K75.top 37) ["_law_script", "_law_lists_here", "_law_at", "_law_wide"]:=by
    dsimp only [L2.KOf]
    refine' D3.iy KX G ?b ?a ?l ?c ?k
    (case a=>k_is);(case l=>k_is);(case c=>k_is);(case k=>k_is)
    (case b=>exact fun _ _ _ _ _ _=>D3.d9 fun _=>D3.d9 fun _=>D3.d9 fun _=>D3.d9 fun _=>D3.len0 rfl)
   have d__law_copy:D3.Dg (L2.KOf KX) mg "_law_copy" (K75.top 38) ["_law_thing"]:=by
    dsimp only [L2.KOf]
    refine' D3.iy KX G ?b ?a ?l ?c ?k
    (case a=>k_is);(case l=>k_is);(case c=>k_is);(case k=>k_is)
    (case b=>exact fun _ _ _ _ _ _=>D3.d9 fun _=>D3.len0 rfl)
   have d__law_looked:D3.Dg (L2.KOf KX) mg "_law_looked" (K75.top 39) ["_law_held_here", "_law_groups_here", "_law_thing", "_law_due"]:=by
    dsimp only [L2.KOf]
    refine' D3.iy KX G ?b ?a ?l ?c ?k
    (case a=>k_is);(case l=>k_is);(case c=>k_is);(case k=>k_is)
    (case b=>exact fun _ _ _ _ _ _=>D3.d9 fun _=>D3.d9 fun _=>D3.d9 fun _=>D3.d9 fun _=>D3.len0 rfl)
   have d_law:D3.Dl (L2.KOf KX) mg "law" "_law_script" (K75.top 40):=by
    dsimp only [L2.KOf]
    refine' D3.X8 KX G ?b ?a ?l ?c ?k
    (case a=>k_is);(case l=>k_is);(case c=>k_is);(case k=>k_is)
    (case b=>exact fun _ _ _ _ _ _ u=>rfl)
   have j_:mg "len" = none:=by
    refine' PySem.W.mg_none_of KX G ?z
    (case z=>k_is)
   have b_range:mg "range" = none:=by
    refine' PySem.W.mg_none_of KX G ?z
    (case z=>k_is)
   have b_abs:mg "abs" = none:=by
    refine' PySem.W.mg_none_of KX G ?z
    (case z=>k_is)
   have b_isinstance:mg "isinstance" = none:=by
    refine' PySem.W.mg_none_of KX G ?z
    (case z=>k_is)
   have b_int:mg "int" = none:=by
    refine' PySem.W.mg_none_of KX G ?z
    (case z=>k_is)
   have b_bool:mg "bool" = none:=by
    refine' PySem.W.mg_none_of KX G ?z
    (case z=>k_is)
   have b_tuple:mg "tuple" = none:=by
    refine' PySem.W.mg_none_of KX G ?z
    (case z=>k_is)
   have b_list:mg "list" = none:=by
    refine' PySem.W.mg_none_of KX G ?z
    (case z=>k_is)
   have b_str:mg "str" = none:=by
    refine' PySem.W.mg_none_of KX G ?z
    (case z=>k_is)
   have b_max:mg "max" = none:=by
    refine' PySem.W.mg_none_of KX G ?z
    (case z=>k_is)
   have b_min:mg "min" = none:=by
    refine' PySem.W.mg_none_of KX G ?z
    (case z=>k_is)
   have b_sorted:mg "sorted" = none:=by
    refine' PySem.W.mg_none_of KX G ?z
    (case z=>k_is)
   have T8:mg "sum" = none:=by
    refine' PySem.W.mg_none_of KX G ?z
    (case z=>k_is)
   have b_reversed:mg "reversed" = none:=by
    refine' PySem.W.mg_none_of KX G ?z
    (case z=>k_is)
   have b_enumerate:mg "enumerate" = none:=by
    refine' PySem.W.mg_none_of KX G ?z
    (case z=>k_is)
   have b_zip:mg "zip" = none:=by
    refine' PySem.W.mg_none_of KX G ?z
    (case z=>k_is)
   have b_set:mg "set" = none:=by
    refine' PySem.W.mg_none_of KX G ?z
    (case z=>k_is)
   have b_any:mg "any" = none:=by
    refine' PySem.W.mg_none_of KX G ?z
    (case z=>k_is)
   have zP:mg "all" = none:=by
    refine' PySem.W.mg_none_of KX G ?z
    (case z=>k_is)
   have b_dict:mg "dict" = none:=by
    refine' PySem.W.mg_none_of KX G ?z
    (case z=>k_is)
   have c_NIGHTS:∃ t,mg "NIGHTS" = some (.int 400 t):=by
    refine' ⟨?t_NIGHTS,PySem.W.mg_of KX G ?z⟩
    (case z=>rfl)
   have c_MOST_OF_A_GROUP:∃ t,mg "MOST_OF_A_GROUP" = some (.int 6 t):=by
    refine' ⟨?t_MOST_OF_A_GROUP,PySem.W.mg_of KX G ?z⟩
    (case z=>rfl)
   exact ⟨d_is_whole,d_is_whole_within,d_all_whole,d_is_tuple_of,d_is_pair,d_is_stretch,d_nights_of,d_is_group,d_check_groups,d_turns,d_starts_in,d_night_behind,d_row_behind,d_rows_behind,d_is_row_list,d_has_all,d_is_none,d__law_cell,d__law_part,d__law_whole,d__law_held,d__law_groups,d__law_turns,d__law_next,d__law_is_rows,d__law_closed,d__law_lists,d__law_odd,d__law_other,d__law_copy,d__law_looked,d_law,⟨j_,b_range,b_abs,b_isinstance,b_int,b_bool,b_tuple,b_list,b_str,b_max,b_min,b_sorted,T8,b_reversed,b_enumerate,b_zip,b_set,b_any,zP,b_dict⟩,c_NIGHTS,c_MOST_OF_A_GROUP⟩
  obtain ⟨f,fd,F,b,m⟩:=T.d_law.ex
  have e0:=hmg.symm.trans m
  cases e0
  exact ⟨fd,b,fun base kb nb=>K75.Xc T F⟩
 case S=>exact fun K H a ns hl hO hS=>⟨a,ns,hO,rfl,hS,hl,fun _=>rfl⟩
 case C=>exact fun _ _ _ _ z=>z
