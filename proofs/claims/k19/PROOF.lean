import PyProof.Rows.All
import Wide.All
import OpenK.AllK
import Wide.FinOn
import Lean
import PyProof.EqAt
import PyProof.EqKinds
import PyProof.TupleCall
import PyProof.EqLayable
import KE.KDictSum
import KE.KDictList
import PyProof.Rows.SetFrom
import PyProof.DictIter
import PyProof.FactsAll.set
import PyProof.DictKinds
import PyProof.DictStraight
import PyProof.SetKind
import PySem.Challenge.RW_nightbook_k19_whole_one_stretch_more
set_option Elab.async false
set_option linter.all false
set_option maxRecDepth 100000
set_option maxHeartbeats 4000000
set_option exponentiation.threshold 40000
open List renaming pairwise_append→aG,length_map→aH,append_assoc→aL,mem_cons_self→aM,mem_cons_of_mem→aN,length_append→aP,mem_cons→aQ,replicate→aR,mem_append_right→aV,range→aW,mem_singleton→aX,size_toArray→aY,getElem?_map→aZ,getElem?_set_ne→bw,length_replicate→bx,mem_range→bA,getElem?_eq_getElem→bC,mem_append→bD,pairwise_cons→bG,getElem?_append_right→bK,length_cons→bL,getElem?_append_left→bM,mem_map→bQ,length_drop→bV,take_of_length_le→bW,map_cons→bY,length_take→bZ,mem_append_left→b_,replicate_succ→cB,lookup_cons→cG,getElem?_eq_none→cJ,drop_zero→cL,getElem?_set_self→cM,pairwise_iff_getElem→cO,length_range→cP,take_append_drop→cR,append_nil→cX,getElem?_replicate→cZ,getElem_of_mem→dB,mem_filter→dD,perm_append_comm→dG,getElem?_drop→dH,not_mem_nil→dI,flatten_cons→dO,pairwise_singleton→dR,length_set→dX,getElem?_range→dY,drop_eq_nil_of_le→d7,find?_eq_none→d_,getElem?_eq_some_iff→eN,mem_of_mem_drop→eX,mem_of_mem_take→eY,pairwise_map→eZ,map_map→fj,length_eq_zero_iff→fQ,mem_filterMap→gb,pairwise_lt_range→gj,range_succ_eq_map→gk,nil_append→gA,mem_of_getElem?→gO,take_zero→gP,getElem_mem→gZ,drop_eq_getElem_cons→g_,extract_eq_take_drop→h_,filterMap_cons→ig,nodup_cons→iy,map_append→iz,filter_cons_of_pos→iH,filter_cons_of_neg→iI,reverse_cons→iT,ext_getElem?→iU,length_filter_le→jc,perm_middle→jf,getElem?_of_mem→jo,length_nil→jx,drop_drop→jJ,perm_ext_iff_of_nodup→jN,getD_eq_getElem?_getD→jO,getElem?_take→jP,mem_of_find?_eq_some→jX,getElem_drop→jZ,take_add_one→j4,getElem?_take_of_lt→j_,nodup_range→kI,drop_of_length_le→lB,of_mem_zip→lN,foldl_cons→lO,length_singleton→lU,map_congr_left→mZ,take_sublist→nM,map_nil→nO,getElem_take→nP,foldl→p8
open Nat renaming reduceLeDiff→aj,reduceEqDiff→ak,reduceAdd→ao,reduceLT→aq,le_refl→aO,lt_of_lt_of_le→bF,ne_of_lt→bI,le_trans→bU,zero_add→cY,le_of_lt→dJ,lt_or_ge→dM,zero_le→d9,lt_of_le_of_lt→gh,lt_irrefl→gF,lt_of_succ_lt→gJ,add_zero→jC,sub_zero→jD,eq_zero_or_pos→jL,mod_lt→jM,lt_succ_self→kj,add_sub_cancel_left→kE,not_lt_zero→lQ,add_assoc→m8,lt_or_eq_of_le→nj,le_of_eq→nJ,lt_succ_of_lt→nQ,lt_trichotomy→nU,succ→nW
open Int renaming reduceEq→au,reduceLT→aA,reduceLE→aB,le_refl→cH,toNat_natCast→dh,emod_lt_of_pos→eE,emod_nonneg→gB,le_trans→gW,le_of_lt→gY,sub_zero→lA,toNat_of_nonneg→mY
open Option renaming bind_some→aD,some→d8
open Bool renaming false_ne_true→aK,and_eq_true→aU,not_eq_true'→dU,not_eq_false'→jK,false_and→lW,false_eq_true→nq
open Array renaming length_toList→aF,getElem?_eq_getElem→bh,toList_append→bO,getElem?_toList→cA,getElem?_eq_none→dj,perm_iff_toList_perm→gQ,size_setIfInBounds→iu,getD→iD,toList_push→iV,toList_extract→jq,toList_reverse→jr,getElem?_setIfInBounds→jy,getElem?_replicate→kh,size_map→lX,getElem_of_mem→lY,getElem_mem→nR
theorem dTr {p:Prop} [Decidable p] (h:p):decide p=true:=decide_eq_true h
theorem dFa {p:Prop} [Decidable p] (h:¬ p):decide p=false:=decide_eq_false h
theorem lMp {α β:Type} {f:α→β} {l:List α}:(l.map f).length=l.length:=aH f

namespace L2
open PySem PySem.Spec PyProof.Rows
abbrev Key:=Sum Int Str
def Ge:Key→Value→Bool
 | .inl k,v=>Value.isInt k v
 | .inr x,v=>Value.isStrOf x v
def M_ (w:World):Key→Int
 | .inl k=>hashInt k
 | .inr x=>hashStr w x
theorem fu:∀ {k:Key} {v:Value},Ge k v=true→(∃ i t,k=Sum.inl i∧v=Value.int i t)∨(∃ x t,k=Sum.inr x∧v=Value.str x t)
 | .inl i,v,h=>by
  obtain ⟨t,e⟩:=Value.isInt_shape (k:=i) (v:=v) h
  exact .inl ⟨i,t,rfl,e⟩
 | .inr x,v,h=>by
  obtain ⟨t,e⟩:=Value.isStrOf_shape (x:=x) (v:=v) h
  exact .inr ⟨x,t,rfl,e⟩
theorem GK (a b:Int):decide ((Sum.inl a:Key)=Sum.inl b)=(a == b):=by
 by_cases e:a=b
 ·subst e;simp
 ·have h:¬ (Sum.inl a:Key)=Sum.inl b:=fun q=>e (Sum.inl.inj q)
  rw [dFa h]
  exact (beq_eq_false_iff_ne.mpr e).symm
theorem GP (a b:Str):decide ((Sum.inr a:Key)=Sum.inr b)=decide (a=b):=by
 by_cases e:a=b
 ·subst e;simp
 ·have h:¬ (Sum.inr a:Key)=Sum.inr b:=fun q=>e (Sum.inr.inj q)
  rw [dFa h,dFa e]
theorem GQ (a:Int) (b:Str):decide ((Sum.inl a:Key)=Sum.inr b)=false:=dFa (fun q=>nomatch q)
theorem GR (a:Str) (b:Int):decide ((Sum.inr a:Key)=Sum.inl b)=false:=dFa (fun q=>nomatch q)
def wD (prog:Program) (w:World):PySem.KeyKind prog w Key where
 is:=Ge
 hash:=M_ w
 inj:=fun v a b ha hb=>by
  rcases fu ha with ⟨i,t,rfl,rfl⟩ | ⟨x,t,rfl,rfl⟩
  ·rcases fu hb with ⟨j,u,rfl,e⟩ | ⟨y,u,rfl,e⟩
   ·injection e with e1 _;rw [e1]
   ·exact nomatch e
  ·rcases fu hb with ⟨j,u,rfl,e⟩ | ⟨y,u,rfl,e⟩
   ·exact nomatch e
   ·injection e with e1 _;rw [e1]
 byValue:=fun k v h=>by
  rcases fu h with ⟨i,t,rfl,rfl⟩ | ⟨x,t,rfl,rfl⟩ <;> rfl
 pyHash:=fun hv h=>by
  rcases fu hv with ⟨i,t,rfl,rfl⟩ | ⟨x,t,rfl,rfl⟩
  ·exact wpAny_pyHash_int h
  ·exact wpAny_pyHash_str h
 eqBool:=fun hu hv h=>by
  rcases fu hu with ⟨i,t,rfl,rfl⟩ | ⟨x,t,rfl,rfl⟩
  ·rcases fu hv with ⟨j,u,rfl,rfl⟩ | ⟨y,u,rfl,rfl⟩
   ·rw [GK] at h;exact wpAny_eqBool_int h
   ·rw [GQ] at h;exact SeqAt.EqAt.int_str i t y u _ _ _ _ h
  ·rcases fu hv with ⟨j,u,rfl,rfl⟩ | ⟨y,u,rfl,rfl⟩
   ·rw [GR] at h;exact SeqAt.EqAt.str_int x t j u _ _ _ _ h
   ·rw [GP] at h;exact wpAny_eqBool_str h
 «strs»:=fun k x t v h=>by
  rcases fu h with ⟨i,u,rfl,e⟩ | ⟨y,u,rfl,e⟩
  ·exact nomatch e
  ·injection e with e1 _
   subst e1
   cases v <;> rfl
end L2
namespace L2
open PySem PySem.Spec PyProof.Rows
inductive V where
 | non | bl (b:Bool) | int (i:Int) | str (x:Str) | byt (b:Array UInt8) | flt (b:UInt64) | ref (a:Addr) | ty (n:String)
 deriving DecidableEq
def RelV:V→Value→Prop
 | .non,u=>u=Value.none
 | .bl b,u=>u=Value.bool b
 | .int i,u=>∃ t,u=Value.int i t
 | .str x,u=>∃ t,u=Value.str x t
 | .byt b,u=>∃ t,u=Value.bytes b t
 | .flt b,u=>∃ t,u=Value.float b t
 | .ref a,u=>u=Value.ref a
 | .ty n,u=>u=Value.type n
abbrev Vals:List V→List Value→Prop:=Paired RelV
theorem Vals.length {xs:List V} {us:List Value} (r:Vals xs us):xs.length=us.length:=Paired.length r
theorem Vals.get:∀ {xs:List V} {us:List Value} {i:Nat} {x:V},Vals xs us→xs[i]? = some x→∃ u,us[i]? = some u∧RelV x u
 | _,_,_,_,.nil,e=>by simp at e
 | _,_,0,_,.cons r _,e=>by simp at e;subst e;exact ⟨_,rfl,r⟩
 | _,_,i + 1,x,.cons _ t,e=>by
  obtain ⟨u,h1,h2⟩:=Vals.get (i:=i) (x:=x) t (by simpa using e)
  exact ⟨u,by simpa using h1,h2⟩
theorem Vals.append:∀ {xs ys:List V} {us ws:List Value},Vals xs us→Vals ys ws→Vals (xs++ys) (us++ws)
 | _,_,_,_,.nil,s=>s
 | _,_,_,_,.cons r t,s=>.cons r (Vals.append t s)
theorem Vals.take:∀ {xs:List V} {us:List Value} (n:Nat),Vals xs us→Vals (xs.take n) (us.take n)
 | _,_,0,_=>.nil
 | _,_,_ + 1,.nil=>.nil
 | _,_,n + 1,.cons r t=>.cons r (Vals.take n t)
theorem Vals.drop:∀ {xs:List V} {us:List Value} (n:Nat),Vals xs us→Vals (xs.drop n) (us.drop n)
 | _,_,0,r=>r
 | _,_,_ + 1,.nil=>.nil
 | _,_,n + 1,.cons _ t=>Vals.drop n t
def J0:Option V→Option Value→Prop
 | some v,some u=>RelV v u
 | none,none=>True
 | _,_=>False
def KV {κ:Type}:List (κ × V)→List (κ × Value)→Prop:=Paired fun (p:κ × V) (q:κ × Value)=>p.1=q.1∧RelV p.2 q.2
def kV:Key→V
 | .inl i=>.int i
 | .inr x=>.str x
inductive HO where
 /-- a list -/
 | lst (xs:List V)
 /-- a tuple (never changes) -/
 | tup (xs:List V)
 /-- a dict whose keys are ints and texts;one whose keys are tuples of ints and texts (the empty one is both) -/
 | dK (kvs:List (Key × V)) | dT (kvs:List (List Key × V))
 /-- a set of ints: its members,its size -/
 | set (S:Int→Bool) (n:Nat)
 /-- an instance of the class at C,its dict at dx,its attributes -/
 | ins (C dx:Addr) (fs:List (Str × V))
 /-- the dict of the instance at x -/
 | own (x:Addr)
 /-- the dict of an exception -/
 | xd (fs:List (Str × V))
 /-- a bound method,f of x -/
 | met (f x:Addr)
 /-- a range object lo,lo + 1,.. below hi -/
 | rng (lo hi:Int)
 /-- a thing that is known to the object (the script;a dict while a loop walks it): read,never written while it is so -/
 | frz (o:Obj) (u:HO)
 /-- a code object's table -/
 | tbl (q:Str) (p:Pos)
 /-- any other thing,by what is true of its one object (a def of one's own: SetO a S n:=HO.ext fun h=>..) -/
 | ext (φ:Heap→Prop)
abbrev Hp:=Addr→Option HO
def upd (H:Hp) (a:Addr) (o:HO):Hp:=fun b=>if b=a then some o else H b
theorem fD {H:Hp} {a:Addr} {o:HO}:upd H a o a=some o:=by unfold upd;rw [if_pos rfl]
theorem dg {H:Hp} {a b:Addr} {o:HO} (h:b ≠ a):upd H a o b=H b:=by unfold upd;rw [if_neg h]
theorem zm {H:Hp} {a b:Addr} {o u:HO} (h:H a=some o) (h':H b=some u) (d:o ≠ u):a ≠ b:=by
 intro e;subst e;rw [h] at h';exact d (d8.inj h')
theorem jg {H:Hp} {a b:Addr} {o:HO} (h:H a=some o) (h':H b=none):a ≠ b:=by
 intro e;subst e;rw [h] at h';cases h'
section
variable (P:Program) (w:World)
def lR (H:Hp) (h:Heap) (a:Addr):HO→Prop
 | .lst xs=>xs.length ≤ sizeLine∧∃ (its:List Value) (n:Nat),Vals xs its∧h.get? a=some { cls:=.type "list", data:=.seq its.toArray n }
 | .tup xs=>xs.length ≤ sizeLine∧∃ its:List Value,Vals xs its∧IsTup h a its.toArray
 | .dK kvs=>kvs.length ≤ sizeLine∧(a == sysModules)=false∧∃ vs,KV kvs vs∧h.DictOf (wD P w) a vs
 | .dT kvs=>kvs.length ≤ sizeLine∧(a == sysModules)=false∧∃ xs:List (List Key × Addr × Value),
  Paired (fun (p:List Key × V) (q:List Key × Addr × Value)=>p.1=q.1∧H q.2.1=some (.tup (p.1.map kV))∧RelV p.2 q.2.2) kvs xs ∧
  ∃ o es ep,h.get? a=some o∧o.ExactDict∧o.data = .dict es ep∧es.toList=xs.map (entryOfKey (tupleKind (wD P w)))∧(xs.map (·.1)).Nodup
 | .set S n=>h.SetOf (intKind P w) a S n
 | .ins C dx fs=>H dx=some (.own a)∧fs.length ≤ 1000∧dx ≠ a∧h.get? a=some (PySem.W.instObj C dx) ∧
  ∃ mA,h.Ns1 dx mA∧(∀ f,J0 (fs.lookup f) (mA f))∧PySem.Within mA (fs.map (·.1))
 | .own _=>∃ o,h.get? a=some o
 | .xd fs=>∃ mA,h.Ns1 a mA∧∀ f,J0 (fs.lookup f) (mA f)
 | .rng lo hi=>∃ t u v,h.get? a=some { cls:=.type "range", data:=.fields #[.int lo t,.int hi u,.int 1 v] }
 | .frz o u=>h.get? a=some o∧lR H h a u
 | .tbl q p=>∃ ps,h.get? a=some { cls:=.none,data:=.fields ps }∧(ps = #[]∨∃ c',ps = #[rawInt p.line,rawInt p.col,.ref c']∧H c'=some (.own a)∧h.CodeRec (.ref c') q)
 | .met f x=>h.get? a=some (PySem.W.methodObj (.ref f) (.ref x))
 | .ext φ=>φ h∧(∃ o,h.get? a=some o)∧∀ h1 h2:Heap,φ h1→(∀ o,h1.get? a=some o→h2.get? a=some o)→φ h2
def HOk (H:Hp) (h:Heap):Prop:=∀ a o,H a=some o→lR P w H h a o
end
section
variable {P:Program} {w:World} {H H':Hp} {h h':Heap} {a:Addr} {o:HO}
theorem lR.lt (x:lR P w H h a o):a < h.objs.size:=by
 cases o with
 | lst xs=>obtain ⟨_,_,_,_,e⟩:=x;exact Heap.lt_size e
 | tup xs=>obtain ⟨_,_,_,p⟩:=x;exact p.lt
 | dK kvs=>obtain ⟨_,_,_,_,o,_,_,e,_⟩:=x;exact Heap.lt_size e
 | dT kvs=>obtain ⟨_,_,_,_,o,_,_,e,_⟩:=x;exact Heap.lt_size e
 | set S n=>obtain ⟨o,_,_,_,e,_⟩:=x;exact Heap.lt_size e
 | ins C dx fs=>obtain ⟨_,_,_,e,_⟩:=x;exact Heap.lt_size e
 | own y=>obtain ⟨_,e⟩:=x;exact Heap.lt_size e
 | xd fs=>obtain ⟨_,⟨_,_,_,e,_⟩,_⟩:=x;exact Heap.lt_size e
 | rng lo hi=>obtain ⟨_,_,_,e⟩:=x;exact Heap.lt_size e
 | frz ob u=>obtain ⟨e,_⟩:=x;exact Heap.lt_size e
 | tbl q p=>obtain ⟨_,e,_⟩:=x;exact Heap.lt_size e
 | met f y=>exact Heap.lt_size (show h.get? a=some _ from x)
 | ext φ=>obtain ⟨_,⟨_,e⟩,_⟩:=x;exact Heap.lt_size e
theorem Paired.mapP {α β:Type} {F G:α→β→Prop}:∀ {l₁:List α} {l₂:List β},Paired F l₁ l₂→(∀ a b,F a b→G a b)→Paired G l₁ l₂
 | _,_,.nil,_=>.nil
 | _,_,.cons r t,f=>.cons (f _ _ r) (Paired.mapP t f)
theorem lR.stay (x:lR P w H h a o) (k:∀ b u,(b=a∨H b=some (.own a))→h.get? b=some u→h'.get? b=some u)
 (ho:∀ b,H b=some (.own a)→H' b=some (.own a)) (ht:∀ b xs,H b=some (.tup xs)→H' b=some (.tup xs)):lR P w H' h' a o:=by
 induction o with
 | lst xs=>obtain ⟨z,its,n,r,e⟩:=x;exact ⟨z,its,n,r,k _ _ (.inl rfl) e⟩
 | tup xs=>obtain ⟨z,its,r,ob,e,c⟩:=x;exact ⟨z,its,r,ob,k _ _ (.inl rfl) e,c⟩
 | dK kvs=>obtain ⟨z,y,vs,r,ob,es,ep,e,c⟩:=x;exact ⟨z,y,vs,r,ob,es,ep,k _ _ (.inl rfl) e,c⟩
 | dT kvs =>
  obtain ⟨z,y,xs,r,ob,es,ep,e,c⟩:=x
  exact ⟨z,y,xs,Paired.mapP r fun p q z=>⟨z.1,ht _ _ z.2.1,z.2.2⟩,ob,es,ep,k _ _ (.inl rfl) e,c⟩
 | set S n=>obtain ⟨ob,es,ep,t,e,c⟩:=x;exact ⟨ob,es,ep,t,k _ _ (.inl rfl) e,c⟩
 | ins C dx fs =>
  obtain ⟨d,z,ne,e,mA,⟨od,es,ep,e2,c⟩,r⟩:=x
  exact ⟨ho _ d,z,ne,k _ _ (.inl rfl) e,mA,⟨od,es,ep,k _ _ (.inr d) e2,c⟩,r⟩
 | own y=>obtain ⟨ob,e⟩:=x;exact ⟨ob,k _ _ (.inl rfl) e⟩
 | xd fs=>obtain ⟨mA,⟨od,es,ep,e,c⟩,r⟩:=x;exact ⟨mA,⟨od,es,ep,k _ _ (.inl rfl) e,c⟩,r⟩
 | rng lo hi=>obtain ⟨t,u,v,e⟩:=x;exact ⟨t,u,v,k _ _ (.inl rfl) e⟩
 | frz ob u ih=>obtain ⟨e,q⟩:=x;exact ⟨k _ _ (.inl rfl) e,ih q⟩
 | tbl q p =>
  obtain ⟨ps,e,z⟩:=x
  refine ⟨ps,k a _ (.inl rfl) e,?_⟩
  rcases z with z | ⟨c',z1,z2,z3⟩
  ·exact .inl z
  ·obtain ⟨c,oc,vs,tq,hc,hoc,hdc,hq⟩:=z3
   have hc':c'=c:=by injection hc
   exact .inr ⟨c',z1,ho _ z2,c,oc,vs,tq,hc,k _ _ (.inr (hc' ▸ z2)) hoc,hdc,hq⟩
 | met f y =>
  have e:h.get? a=some (PySem.W.methodObj (.ref f) (.ref y)):=x
  show h'.get? a=some (PySem.W.methodObj (.ref f) (.ref y))
  exact k a _ (.inl rfl) e
 | ext φ=>obtain ⟨p,⟨o,e⟩,st⟩:=x;exact ⟨st _ _ p fun o q=>k _ _ (.inl rfl) q,⟨o,k _ _ (.inl rfl) e⟩,st⟩
theorem HOk.lt (x:HOk P w H h) (e:H a=some o):a < h.objs.size:=(x a o e).lt
theorem HOk.fresh (x:HOk P w H h) (e:h.objs.size ≤ a):H a=none:=by
 cases q:H a with
 | none=>rfl
 | some u=>exact absurd (bF (x.lt q) e) (gF _)
theorem HOk.kept (x:HOk P w H h) (k:∀ b u,h.get? b=some u→h'.get? b=some u):HOk P w H h':=fun a o e =>
 (x a o e).stay (fun b u _ q=>k b u q) (fun _ q=>q) fun _ _ q=>q
theorem HOk.laid (x:HOk P w H h) (k:∀ b u,h.get? b=some u→h'.get? b=some u) (hp:h.objs.size ≤ a) (new:lR P w (upd H a o) h' a o):HOk P w (upd H a o) h':=fun b u e=>by
 have hn:=x.fresh hp
 by_cases hb:b=a
 ·subst hb;rw [fD] at e;cases e;exact new
 ·rw [dg hb] at e
  exact (x b u e).stay (fun c v _ q=>k c v q) (fun c q=>by rw [dg (jg q hn)];exact q) fun c xs q=>by rw [dg (jg q hn)];exact q
end
def Rd (H:Hp) (a:Addr) (u:HO):Prop:=H a=some u∨∃ o,H a=some (.frz o u)
theorem Rd.ok {P:Program} {w:World} {H:Hp} {h:Heap} {a:Addr} {u:HO} (r:Rd H a u) (x:HOk P w H h):lR P w H h a u:=by
 rcases r with r | ⟨o,r⟩
 ·exact x a u r
 ·obtain ⟨_,q⟩:=x a _ r
  exact q
def Mut:Option HO→Prop
 | some (.lst _)=>True
 | some (.dK _)=>True
 | some (.dT _)=>True
 | some (.set _ _)=>True
 | some (.ins _ _ _)=>True
 | some (.ext _)=>True
 | _=>False
section
variable {P:Program} {w:World} {H:Hp} {h h':Heap} {x e:Addr} {o':HO}
theorem HOk.write (ok:HOk P w H h) (mu:Mut (H x)) (he:e=x∨H e=some (.own x)) (k:∀ b u,b ≠ e→h.get? b=some u→h'.get? b=some u) (heo:∃ u,h'.get? e=some u)
 (new:lR P w (upd H x o') h' x o'):HOk P w (upd H x o') h':=fun b u q=>by
 have nown:∀ c y,H c=some (.own y)→c ≠ x:=fun c y r z=>by subst z;rw [r] at mu;exact mu
 have ntup:∀ c xs,H c=some (.tup xs)→c ≠ x:=fun c xs r z=>by subst z;rw [r] at mu;exact mu
 by_cases hb:b=x
 ·subst hb;rw [fD] at q;cases q;exact new
 ·rw [dg hb] at q
  by_cases hbe:b=e
  ·have q':H b=some (.own x):=by
    rcases he with z | z
    ·exact absurd (hbe.trans z) hb
    ·rw [hbe];exact z
   rw [q] at q';cases q'
   obtain ⟨v,hv⟩:=heo
   exact ⟨v,by rw [hbe];exact hv⟩
  ·refine (ok b u q).stay (fun c v hc r=>k c v ?_ r) (fun c r=>by rw [dg (nown c b r)];exact r) fun c xs r=>by rw [dg (ntup c xs r)];exact r
   rcases hc with rfl | hc
   ·exact hbe
   ·rintro rfl
    rcases he with z | z
    ·exact nown c b hc z
    ·rw [hc] at z;cases z;exact hb rfl
end
structure Un (fs ex:List Addr) (H H':Hp) (h h':Heap):Prop where
 keep:∀ b o,h.get? b=some o→H b=none→b ∉ fs→b ∉ ex→h'.get? b=some o
 slot:∀ b o,h.get? b=some o→H b=none→b ∈ fs→b ∉ ex→∃ sl,h'.get? b=some { o with slots:=sl }
 free:∀ b o,h.get? b=some o→H b=none→b ∉ ex→H' b=none
 there:∀ b o,h.get? b=some o→b ∉ ex→∃ o',h'.get? b=some o'
 tups:∀ b xs,H b=some (.tup xs)→H' b=some (.tup xs)
 frzs:∀ b o u,H b=some (.frz o u)→H' b=some (.frz o u)
 tbls:∀ b q p,H b=some (.tbl q p)→H' b=some (.tbl q p)
section
variable {fs fs' ex ex':List Addr} {H H1 H2:Hp} {h h1 h2 h':Heap} {a x e:Addr} {o:HO}
theorem Un.any (u:Un fs ex H H1 h h1) {b:Addr} {ob:Obj} (q:h.get? b=some ob) (n:H b=none) (hx:b ∉ ex):∃ sl,h1.get? b=some { ob with slots:=sl }:=by
 by_cases hb:b ∈ fs
 ·exact u.slot b ob q n hb hx
 ·exact ⟨ob.slots,u.keep b ob q n hb hx⟩
theorem Un.kept (k:∀ b u,h.get? b=some u→h'.get? b=some u):Un fs ex H H h h' :=
 ⟨fun b ob q _ _ _=>k b ob q,fun b ob q _ _ _=>⟨ob.slots,k b ob q⟩,fun _ _ _ n _=>n,fun b ob q _=>⟨ob,k b ob q⟩,fun _ _ q=>q,fun _ _ _ q=>q,fun _ _ _ q=>q⟩
theorem Un.refl:Un fs ex H H h h:=Un.kept fun _ _ q=>q
theorem Un.laid (k:∀ b u,h.get? b=some u→h'.get? b=some u) (hp:h.objs.size ≤ a) (hn:H a=none):Un fs ex H (upd H a o) h h' where
 keep:=fun b u q _ _ _=>k b u q
 slot:=fun b u q _ _ _=>⟨u.slots,k b u q⟩
 free:=fun b u q n _=>by rw [dg (bI (bF (Heap.lt_size q) hp))];exact n
 there:=fun b u q _=>⟨u,k b u q⟩
 tups:=fun b xs q=>by rw [dg (jg q hn)];exact q
 frzs:=fun b u xs q=>by rw [dg (jg q hn)];exact q
 tbls:=fun b q p e=>by rw [dg (jg e hn)];exact e
theorem Un.write (mu:Mut (H x)) (he:e=x∨H e=some (.own x)) (k:∀ b u,b ≠ e→h.get? b=some u→h'.get? b=some u) (heo:∃ u,h'.get? e=some u):Un fs ex H (upd H x o) h h':=by
 have hx:∀ b,H b=none→b ≠ x:=fun b n z=>by subst z;rw [n] at mu;exact mu
 have hb:∀ b,H b=none→b ≠ e:=fun b n z=>by
  subst z
  rcases he with r | r
  ·exact hx b n r
  ·rw [n] at r;cases r
 have hm:∀ b u,H b=some u→¬ Mut (some u)→b ≠ x:=fun b u q nm z=>by subst z;rw [q] at mu;exact nm mu
 refine ⟨fun b u q n _ _=>k b u (hb b n) q,fun b u q n _ _=>⟨u.slots,k b u (hb b n) q⟩,fun b u q n _=>by rw [dg (hx b n)];exact n,fun b u q _=>?_,
  fun b xs q=>by rw [dg (hm b _ q fun z=>z)];exact q,fun b u xs q=>by rw [dg (hm b _ q fun z=>z)];exact q,fun b q p e=>by rw [dg (hm b _ e fun z=>z)];exact e⟩
 by_cases hbe:b=e
 ·subst hbe;exact heo
 ·exact ⟨u,k b u hbe q⟩
end
def trk (h:Heap) (H:Hp):List Addr:=(aW h.objs.size).filter fun a=>(H a).isSome
def tG (h:Heap) (H:Hp):Heap:=PySem.W.hideAll h (trk h H)
theorem xQ (h:Heap) (H:Hp):(tG h H).objs.size=h.objs.size:=PySem.W.hideAll_size _ _
theorem zp {h:Heap} {H:Hp} {b:Addr} {o:Obj} (e:h.get? b=some o) (n:H b=none):(tG h H).get? b=some o :=
 PySem.W.hideAll_get _ e fun hm=>by
  have q:(H b).isSome=true:=(dD.mp hm).2
  rw [n] at q;simp at q
theorem Ck {h:Heap} {H:Hp} {b:Addr} {o:Obj} (e:(tG h H).get? b=some o):h.get? b=some o∧H b=none:=by
 have e':h.get? b=some o:=PySem.W.of_hideAll (trk h H) e
 refine ⟨e',?_⟩
 cases q:H b with
 | none=>rfl
 | some x =>
  have hm:b ∈ trk h H:=dD.mpr ⟨bA.mpr (Heap.lt_size e'),by simp [q]⟩
  have z:(tG h H).get? b=none:=PySem.W.hideAll_none (trk h H) hm
  rw [z] at e;cases e
end L2
namespace L2
open PySem PySem.Spec PyProof.Rows
structure Mod (K:PySem.W.Frag) (mg:Str→Option Value) (base:Heap):Prop where
 kin:K.In base
 glob:base.Ns mainGlobals mg
 blt:∃ mb,base.Ns builtinsNs mb∧∀ x:Str,x ≠ "__name__" → mb x=bootBuiltins x
 nolimit:base.NoLimit
 bm:∃ bm ob,mg "__builtins__" = some (.ref bm)∧bm ≠ builtinsNs∧base.get? bm=some ob∧ob.cls = .type "module" ∧ ob.dict=some builtinsNs∧ob.data = .plain
structure Cx where
 prog:Program
 w:World
 K:PySem.W.Frag
 mg:Str→Option Value
 base:Heap
 A:Around
 N:List Str
 s₀:Shared
 H₀:Hp
 env:Env
 outer:List Env
 stack:List Env
 ex:List Addr
 fn:Str→Bool
 calm:Bool
 pn:List (Addr × Obj)
 xe:Value→Shared→Prop
def frs (l:List Env):List Addr:=l.filterMap (·.frame)
abbrev Cx.fs (X:Cx):List Addr:=frs X.outer
def Vis (sc:Scope) (x:Str):Prop:=sc.names.lookup x=some .local∨sc.names.lookup x=some .cell∨sc.names.lookup x=some .free
def Loc (sc:Scope) (x:Str):Prop:=sc.names.lookup x=some .local∨sc.names.lookup x=some .cell
def Look (env:Env) (h:Heap) (m:Str→Option Value) (x:Str) (u:Value):Prop :=
 (env.kindOf x=some .local∧m x=some u)∨((env.kindOf x=some .cell∨env.kindOf x=some .free)∧∃ c,env.cells.lookup x=some c∧h.IsCell c (some u))
structure Cx.Ok (X:Cx):Prop where
 mod:Mod X.K X.mg X.base
 kind:X.env.scope.kind = .function
 glob:X.env.globals=mainGlobals
 blt:X.env.builtins=builtinsNs
 above:X.s₀.heap.objs.size ≤ X.env.locals
 inj:∀ x y c,X.env.cells.lookup x=some c→X.env.cells.lookup y=some c→x=y
 has:∀ x,(X.env.kindOf x=some .cell∨X.env.kindOf x=some .free)→∃ c,X.env.cells.lookup x=some c
 cab:∀ x c,X.fn x=true→X.env.cells.lookup x=some c→X.s₀.heap.objs.size ≤ c
 hd:X.calm=true→X.A.handled=none
 frames:X.A.frames=some X.stack
 stk:X.stack=X.outer∨(X.stack=X.env :: X.outer∧X.env.frame=some X.env.locals)
 exf:∀ b ∈ X.ex,b ≠ X.env.locals∧∀ x c,X.env.cells.lookup x=some c→c ≠ b
 bs:∀ b o,X.base.get? b=some o→X.s₀.heap.get? b=some o∧X.H₀ b=none
 bsz:X.base.objs.size ≤ X.s₀.heap.objs.size
 noex:∀ b o,X.base.get? b=some o→b ∉ X.ex
 exfs:∀ b ∈ X.ex,b ∉ X.fs
 funs:X.s₀.heap.FunFrames X.base X.outer
 frf:∀ b ∈ X.fs,X.H₀ b=none
structure Inv (X:Cx) (pins:List (Addr × Obj)) (σ:List (Option V)) (H:Hp) (s:Shared):Prop where
 ok:X.Ok
 os:s.os=X.s₀.os
 bare:AllBare s.gens
 base:Un X.fs X.ex X.H₀ H X.s₀.heap s.heap
 loc:∃ m,s.heap.Ns X.env.locals m∧∀ (i:Nat) (x:Str) (v:V),X.N[i]? = some x→σ[i]? = some (some v)→Vis X.env.scope x→∃ u,RelV v u∧Look X.env s.heap m x u
 cell:∀ x c,X.env.cells.lookup x=some c→∃ v,s.heap.IsCell c v
 free:H X.env.locals=none
 freeC:∀ x c,X.env.cells.lookup x=some c→H c=none
 pin:∀ p ∈ X.pn++pins,s.heap.get? p.1=some p.2∧H p.1=none∧p.1 ≠ X.env.locals∧p.1 ∉ X.fs∧∀ v,p.2.data ≠ .cell v
 hok:HOk X.prog X.w H s.heap
 len:σ.length=X.N.length
section
variable {X:Cx} {pins:List (Addr × Obj)} {σ:List (Option V)} {H H':Hp} {s:Shared} {h':Heap}
theorem Cx.Ok.nofr (ok:X.Ok) {b:Addr} {o:Obj} (e:X.base.get? b=some o):b ∉ X.fs:=fun hb=>by
 have:=(ok.funs.mem hb).1
 rw [e] at this;cases this
theorem Inv.bs (I:Inv X pins σ H s):∀ b o,X.base.get? b=some o→s.heap.get? b=some o∧H b=none:=fun b o e =>
 ⟨I.base.keep b o (I.ok.bs b o e).1 (I.ok.bs b o e).2 (I.ok.nofr e) (I.ok.noex b o e),I.base.free b o (I.ok.bs b o e).1 (I.ok.bs b o e).2 (I.ok.noex b o e)⟩
theorem Inv.bk (I:Inv X pins σ H s):∀ b o,X.base.get? b=some o→s.heap.get? b=some o:=fun b o e=>(I.bs b o e).1
theorem Inv.mod (I:Inv X pins σ H s):Mod X.K X.mg X.base:=I.ok.mod
theorem Inv.kIn (I:Inv X pins σ H s):X.K.In s.heap:=I.ok.mod.kin.keeps I.bk
theorem Inv.lt (I:Inv X pins σ H s):X.env.locals < s.heap.objs.size:=let ⟨_,hn,_⟩:=I.loc;hn.lt
theorem Inv.sz (I:Inv X pins σ H s):X.s₀.heap.objs.size ≤ s.heap.objs.size:=bU I.ok.above (dJ I.lt)
theorem Inv.nofs (I:Inv X pins σ H s) {a:Addr} (h:s.heap.objs.size ≤ a):a ∉ X.fs:=fun hb=>by
 obtain ⟨_,o,ho,_⟩:=I.ok.funs.mem hb
 exact absurd (bF (Heap.lt_size ho) (bU I.sz h)) (gF _)
theorem Inv.cne (I:Inv X pins σ H s):∀ x c,X.env.cells.lookup x=some c→c ≠ X.env.locals:=fun x c e z=>by
 obtain ⟨v,o,ho,hd⟩:=I.cell x c e
 obtain ⟨m,⟨o',es,ep,ho',hd',_⟩,_⟩:=I.loc
 rw [z,ho'] at ho;cases ho;rw [hd'] at hd;cases hd
theorem Inv.funs (I:Inv X pins σ H s):s.heap.FunFrames X.base X.outer:=by
 have all:∀ (l:List Env),(∀ b ∈ frs l,b ∈ X.fs)→X.s₀.heap.FunFrames X.base l→s.heap.FunFrames X.base l:=by
  intro l
  induction l with
  | nil=>intro _ _;trivial
  | cons env r ih =>
   intro hs hl
   obtain ⟨hk,⟨L,o,hf,hn,ho,hd⟩,hr⟩:=hl
   have hL:L ∈ X.fs:=hs L (by unfold frs;rw [ig,hf];exact aM)
   obtain ⟨sl,e⟩:=I.base.slot L o ho (I.ok.frf L hL) hL fun z=>I.ok.exfs L z hL
   exact ⟨hk,⟨L,_,hf,hn,e,hd⟩,ih (fun b hb=>hs b (by unfold frs;rw [ig,hf];exact aN _ hb)) hr⟩
 exact all X.outer (fun _ hb=>hb) I.ok.funs
theorem Inv.stack (I:Inv X pins σ H s):s.heap.FunFrames X.base X.stack:=by
 rcases I.ok.stk with e | ⟨e,hf⟩
 ·rw [e];exact I.funs
 ·rw [e]
  obtain ⟨m,hn,_⟩:=I.loc
  refine .cons (by rw [I.ok.kind];decide) hf hn ?_ I.funs
  exact Heap.get?_none_of_le (bU I.ok.bsz I.ok.above)
theorem Inv.stkSub (I:Inv X pins σ H s):∀ b ∈ frs X.stack,b ∈ X.env.locals :: X.fs:=fun b hb=>by
 rcases I.ok.stk with e | ⟨e,hf⟩
 ·rw [e] at hb;exact aN _ hb
 ·rw [e] at hb
  unfold frs at hb
  rw [ig,hf] at hb
  exact hb
theorem Inv.stkFree (I:Inv X pins σ H s):∀ b ∈ frs X.stack,H b=none:=fun b hb=>by
 rcases aQ.mp (I.stkSub b hb) with e | hb
 ·rw [e];exact I.free
 ·obtain ⟨_,o,ho,_⟩:=I.ok.funs.mem hb
  exact I.base.free b o ho (I.ok.frf b hb) fun z=>I.ok.exfs b z hb
theorem Inv.step {g':Array GenState} {t':Nat} {d':Drawn} {ch:List Addr} (I:Inv X pins σ H s)
 (hch:∀ b ∈ ch,(b ∈ X.ex∨X.s₀.heap.objs.size ≤ b)∧b ≠ X.env.locals∧(∀ x c,X.env.cells.lookup x=some c→c ≠ b)∧∀ p ∈ X.pn++pins,p.1 ≠ b)
 (keep:∀ b o,b ≠ X.env.locals→b ∉ X.fs→b ∉ ch→s.heap.get? b=some o→H b=none→h'.get? b=some o)
 (slot:∀ b o,b ≠ X.env.locals→b ∈ X.fs→b ∉ ch→s.heap.get? b=some o→H b=none→∃ sl,h'.get? b=some { o with slots:=sl }) (free:∀ b o,b ∉ ch→s.heap.get? b=some o→H b=none→H' b=none)
 (there:∀ b o,b ∉ ch→s.heap.get? b=some o→∃ o',h'.get? b=some o')
 (tups:∀ b xs,H b=some (.tup xs)→H' b=some (.tup xs)) (frzs:∀ b o u,H b=some (.frz o u)→H' b=some (.frz o u)) (tbls:∀ b q p,H b=some (.tbl q p)→H' b=some (.tbl q p))
 (ns:∀ m,s.heap.Ns X.env.locals m→h'.Ns X.env.locals m) (hok:HOk X.prog X.w H' h') (hg:AllBare g') :
 Inv X pins σ H' { s with heap:=h',gens:=g',drawn:=d',toks:=t' }:=by
 have neL:∀ b o,X.s₀.heap.get? b=some o→b ≠ X.env.locals:=fun b o e=>bI (bF (Heap.lt_size e) I.ok.above)
 have neC:∀ b o,X.s₀.heap.get? b=some o→b ∉ X.ex→b ∉ ch:=fun b o e hx hb=>by
  rcases (hch b hb).1 with z | z
  ·exact hx z
  ·exact absurd (bF (Heap.lt_size e) z) (gF _)
 have cellK:∀ x c,X.env.cells.lookup x=some c→∀ v,s.heap.IsCell c v→h'.IsCell c v:=fun x c e v ⟨o,ho,hd⟩=>by
  have nch:c ∉ ch:=fun z=>(hch c z).2.2.1 x c e rfl
  by_cases hc:c ∈ X.fs
  ·obtain ⟨sl,q⟩:=slot c o (I.cne x c e) hc nch ho (I.freeC x c e)
   exact ⟨_,q,hd⟩
  ·exact ⟨o,keep c o (I.cne x c e) hc nch ho (I.freeC x c e),hd⟩
 refine ⟨I.ok,I.os,hg,⟨fun b o e n hb hx=>?_,fun b o e n hb hx=>?_,fun b o e n hx=>?_,fun b o e hx=>?_,fun b xs e=>tups b xs (I.base.tups b xs e),fun b o xs e=>frzs b o xs (I.base.frzs b o xs e),fun b q p e=>tbls b q p (I.base.tbls b q p e)⟩,?_,fun x c e=>?_,?_,fun x c e=>?_,fun p hp=>?_,hok,I.len⟩
 ·exact keep b o (neL b o e) hb (neC b o e hx) (I.base.keep b o e n hb hx) (I.base.free b o e n hx)
 ·obtain ⟨sl,e1⟩:=I.base.slot b o e n hb hx
  obtain ⟨sl',e2⟩:=slot b _ (neL b o e) hb (neC b o e hx) e1 (I.base.free b o e n hx)
  exact ⟨sl',e2⟩
 ·obtain ⟨o',e1⟩:=I.base.there b o e hx
  exact free b o' (neC b o e hx) e1 (I.base.free b o e n hx)
 ·obtain ⟨o',e1⟩:=I.base.there b o e hx
  exact there b o' (neC b o e hx) e1
 ·obtain ⟨m,hn,hl⟩:=I.loc
  refine ⟨m,ns m hn,fun i x v e1 e2 e3=>?_⟩
  obtain ⟨u,r,l⟩:=hl i x v e1 e2 e3
  refine ⟨u,r,?_⟩
  rcases l with l | ⟨k,c,e,z⟩
  ·exact .inl l
  ·exact .inr ⟨k,c,e,cellK x c e _ z⟩
 ·obtain ⟨v,z⟩:=I.cell x c e
  exact ⟨v,cellK x c e v z⟩
 ·obtain ⟨m,⟨o,_,_,ho,_⟩,_⟩:=I.loc
  exact free _ o (fun z=>(hch _ z).2.1 rfl) ho I.free
 ·obtain ⟨v,o,ho,hd⟩:=I.cell x c e
  exact free c o (fun z=>(hch c z).2.2.1 x c e rfl) ho (I.freeC x c e)
 ·obtain ⟨e,n,ne,nf,d⟩:=I.pin p hp
  have nch:p.1 ∉ ch:=fun z=>(hch p.1 z).2.2.2 p hp rfl
  exact ⟨keep p.1 p.2 ne nf nch e n,free p.1 p.2 nch e n,ne,nf,d⟩
theorem Inv.un {t':Nat} (I:Inv X pins σ H s) (u:Un X.fs [] H H' s.heap h') (hok:HOk X.prog X.w H' h'):Inv X pins σ H' { s with heap:=h',toks:=t' }:=by
 obtain ⟨m,⟨o,es,ep,ho,r⟩,_⟩:=id I.loc
 obtain ⟨sl,hL⟩:=u.any ho I.free (by simp)
 exact I.step (g':=s.gens) (d':=s.drawn) (ch:=[]) (fun _ z=>nomatch z) (fun b o _ hb _ e n=>u.keep b o e n hb (by simp)) (fun b o _ hb _ e n=>u.slot b o e n hb (by simp)) (fun b o _ e n=>u.free b o e n (by simp)) (fun b o _ e=>u.there b o e (by simp)) u.tups u.frzs u.tbls (fun m' hm=>by
  obtain ⟨o',es',ep',ho',r'⟩:=hm
  rw [ho] at ho';cases ho'
  exact ⟨_,es',ep',hL,r'⟩) hok I.bare
theorem Inv.call {g':Array GenState} {t':Nat} {d':Drawn} {ch:List Addr} (I:Inv X pins σ H s) (u:Un (frs X.stack) ch H H' s.heap h') (hok:HOk X.prog X.w H' h') (hg:AllBare g')
 (hch:∀ b ∈ ch,(b ∈ X.ex∨X.s₀.heap.objs.size ≤ b)∧b ≠ X.env.locals∧(∀ x c,X.env.cells.lookup x=some c→c ≠ b)∧∀ p ∈ X.pn++pins,p.1 ≠ b) :
 Inv X pins σ H' { s with heap:=h',gens:=g',drawn:=d',toks:=t' }:=by
 obtain ⟨m,⟨o,es,ep,ho,r⟩,_⟩:=id I.loc
 obtain ⟨sl,hL⟩:=u.any ho I.free fun z=>(hch _ z).2.1 rfl
 exact I.step (ch:=ch) hch (fun b o hL hb hc e n=>u.keep b o e n (fun z=>(aQ.mp (I.stkSub b z)).elim hL hb) hc) (fun b o _ _ hc e n=>u.any e n hc) (fun b o hc e n=>u.free b o e n hc) (fun b o hc e=>u.there b o e hc) u.tups u.frzs u.tbls (fun m' hm=>by
  obtain ⟨o',es',ep',ho',r'⟩:=hm
  rw [ho] at ho';cases ho'
  exact ⟨_,es',ep',hL,r'⟩) hok hg
theorem Inv.turned {t':Nat} {it:Addr} (I:Inv X pins σ H s) (k:∀ b o,b ≠ it→s.heap.get? b=some o→h'.get? b=some o) (hn:H it=none) (hL:it ≠ X.env.locals)
 (h1:it ∈ X.ex∨X.s₀.heap.objs.size ≤ it) (h2:∀ x c,X.env.cells.lookup x=some c→c ≠ it) (h3:∀ p ∈ X.pn++pins,p.1 ≠ it):Inv X pins σ H { s with heap:=h',toks:=t' }:=by
 have nit:∀ b u,H b=some u→b ≠ it:=fun b u e z=>by rw [z,hn] at e;cases e
 refine I.step (g':=s.gens) (d':=s.drawn) (ch:=[it]) (fun b hb=>?_) (fun b o _ _ hc e _=>k b o (fun z=>hc (by simp [z])) e) (fun b o _ _ hc e _=>⟨o.slots,k b o (fun z=>hc (by simp [z])) e⟩) (fun _ _ _ _ n=>n)
  (fun b o hc e=>⟨o,k b o (fun z=>hc (by simp [z])) e⟩) (fun _ _ e=>e) (fun _ _ _ e=>e) (fun _ _ _ e=>e) (fun m hm=>?_) (fun b u e=>?_) I.bare
 ·have e:b=it:=by simpa using hb
  subst e
  exact ⟨h1,hL,h2,h3⟩
 ·obtain ⟨o,es,ep,ho,r⟩:=hm
  exact ⟨o,es,ep,k _ o (Ne.symm hL) ho,r⟩
 ·refine (I.hok b u e).stay (fun c v hc q=>k c v ?_ q) (fun _ q=>q) fun _ _ q=>q
  rcases hc with z | z
  ·rw [z];exact nit b u e
  ·exact nit c _ z
theorem Inv.tok (I:Inv X pins σ H s) (t:Nat):Inv X pins σ H { s with toks:=t }:=I.un (h':=s.heap) (t':=t) Un.refl I.hok
theorem Inv.kept {t':Nat} (I:Inv X pins σ H s) (k:∀ b u,s.heap.get? b=some u→h'.get? b=some u):Inv X pins σ H { s with heap:=h',toks:=t' }:=I.un (Un.kept k) (I.hok.kept k)
theorem Inv.laid {a:Addr} {o:HO} {t':Nat} (I:Inv X pins σ H s) (k:∀ b u,s.heap.get? b=some u→h'.get? b=some u) (hp:s.heap.objs.size ≤ a) (new:lR X.prog X.w (upd H a o) h' a o) :
 Inv X pins σ (upd H a o) { s with heap:=h',toks:=t' }:=I.un (Un.laid k hp (I.hok.fresh hp)) (I.hok.laid k hp new)
theorem Inv.write {x e:Addr} {o:HO} {t':Nat} (I:Inv X pins σ H s) (mu:Mut (H x)) (he:e=x∨H e=some (.own x)) (k:∀ b u,b ≠ e→s.heap.get? b=some u→h'.get? b=some u) (heo:∃ u,h'.get? e=some u)
 (new:lR X.prog X.w (upd H x o) h' x o):Inv X pins σ (upd H x o) { s with heap:=h',toks:=t' }:=I.un (Un.write mu he k heo) (I.hok.write mu he k heo new)
theorem Inv.pins_of {pins':List (Addr × Obj)} (I:Inv X pins σ H s) (h:∀ p ∈ pins',s.heap.get? p.1=some p.2∧H p.1=none∧p.1 ≠ X.env.locals∧p.1 ∉ X.fs∧∀ v,p.2.data ≠ .cell v):Inv X pins' σ H s :=
 ⟨I.ok,I.os,I.bare,I.base,I.loc,I.cell,I.free,I.freeC,fun p hp=>(bD.mp hp).elim (fun z=>I.pin p (b_ _ z)) (h p),I.hok,I.len⟩
theorem uE {N:List Str} (hN:N.Nodup) {i j:Nat} {x:Str} (a:N[i]? = some x) (b:N[j]? = some x):i=j:=by
 obtain ⟨h1,e1⟩:=eN.mp a
 obtain ⟨h2,e2⟩:=eN.mp b
 exact (List.getElem_inj hN).mp (e1.trans e2.symm)
theorem rN {M:Model} {A:Around} {E:Value→Shared→Prop} {i:Nat} {x:Str} {v:V} {u:Value} {Q:Unit→Shared→Prop} (I:Inv X pins σ H s) (hN:X.N.Nodup) (hi:X.N[i]? = some x) (hx:Loc X.env.scope x) (r:RelV v u)
 (h:∀ s',Inv X pins (σ.set i (some v)) H s'→(∃ a,Heap.SameBut a s.heap s'.heap∧(a=X.env.locals∨X.env.cells.lookup x=some a))→Q () s') (hf:X.fn x=true∨X.env.scope.names.lookup x=some .local:=by first | exact .inl rfl | exact .inr rfl | assumption):wpAny M A (storeName X.env x u) Q E s:=by
 obtain ⟨m,hn,hl⟩:=id I.loc
 have hcls:(X.env.scope.kind == .class || (X.env.scope.kind == .module && X.env.locals != X.env.globals))=false:=by rw [I.ok.kind];rfl
 have hiσ:i < σ.length:=by rw [I.len];exact (eN.mp hi).1
 have cne:=I.cne
 have tracked:∀ {a:Addr} {h':Heap},(∃ o,s.heap.get? a=some o∧H a=none)→Heap.SameBut a s.heap h'→HOk X.prog X.w H h':=fun {a h'} ha hs b ob e=>by
  obtain ⟨_,_,hfree⟩:=ha
  refine (I.hok b ob e).stay (fun c w' hc q=>(hs.2 c ?_).trans q) (fun _ q=>q) fun _ _ q=>q
  rintro rfl
  rcases hc with rfl | hc
  ·rw [hfree] at e;cases e
  ·rw [hfree] at hc;cases hc
 rcases hx with hk | hk
 ·refine wpAny_storeName_local hk hn (fun h' hn' hs=>?_) hcls
  obtain ⟨oL,_,_,hoL,_⟩:=id hn
  refine h _ ⟨I.ok,I.os,I.bare,⟨fun b o e n hb hx=>?_,fun b o e n hb hx=>?_,I.base.free,fun b o e hx=>?_,I.base.tups,I.base.frzs,I.base.tbls⟩,⟨_,hn',fun j y v' e1 e2 e3=>?_⟩,fun y c e=>?_,I.free,I.freeC,fun p hp=>?_,tracked ⟨oL,hoL,I.free⟩ hs,by simpa using I.len⟩ ⟨_,hs,.inl rfl⟩
  ·exact (hs.2 b (bI (bF (Heap.lt_size e) I.ok.above))).trans (I.base.keep b o e n hb hx)
  ·obtain ⟨sl,e1⟩:=I.base.slot b o e n hb hx
   exact ⟨sl,(hs.2 b (bI (bF (Heap.lt_size e) I.ok.above))).trans e1⟩
  ·obtain ⟨o',e1⟩:=I.base.there b o e hx
   exact ⟨o',(hs.2 b (bI (bF (Heap.lt_size e) I.ok.above))).trans e1⟩
  ·by_cases hj:j=i
   ·subst hj
    rw [hi] at e1;cases e1
    rw [cM hiσ] at e2
    cases e2
    exact ⟨u,r,.inl ⟨hk,by simp⟩⟩
   ·rw [bw (Ne.symm hj)] at e2
    obtain ⟨u',r',q⟩:=hl j y v' e1 e2 e3
    refine ⟨u',r',?_⟩
    rcases q with ⟨k,e⟩ | ⟨k,c,e,z⟩
    ·refine .inl ⟨k,?_⟩
     have:y ≠ x:=fun e=>hj (uE hN e1 (e ▸ hi))
     simp [this,e]
    ·exact .inr ⟨k,c,e,z.sameBut hs (cne y c e)⟩
  ·obtain ⟨w',z⟩:=I.cell y c e
   exact ⟨w',z.sameBut hs (cne y c e)⟩
  ·obtain ⟨e,n,ne,nf,d⟩:=I.pin p hp
   exact ⟨(hs.2 p.1 ne).trans e,n,ne,nf,d⟩
 ·have hfn:X.fn x=true:=by
   rcases hf with z | z
   ·exact z
   ·rw [z] at hk;cases hk
  obtain ⟨c,hc⟩:=I.ok.has x (.inl hk)
  obtain ⟨w',z⟩:=I.cell x c hc
  refine wpAny_storeName_cell I.ok.kind hk hc z (fun h' hc' hs=>?_)
  obtain ⟨oc,hoc,hocd⟩:=id z
  refine h { s with heap:=h' } ⟨I.ok,I.os,I.bare,⟨fun b o e n hb hx=>?_,fun b o e n hb hx=>?_,I.base.free,fun b o e hx=>?_,I.base.tups,I.base.frzs,I.base.tbls⟩,⟨m,hn.sameBut hs (Ne.symm (cne x c hc)),fun j y v' e1 e2 e3=>?_⟩,fun y c' e=>?_,I.free,I.freeC,fun p hp=>?_,tracked ⟨oc,hoc,I.freeC x c hc⟩ hs,by simpa using I.len⟩ ⟨c,hs,.inr hc⟩
  ·exact (hs.2 b (bI (bF (Heap.lt_size e) (I.ok.cab x c hfn hc)))).trans (I.base.keep b o e n hb hx)
  ·obtain ⟨sl,e1⟩:=I.base.slot b o e n hb hx
   exact ⟨sl,(hs.2 b (bI (bF (Heap.lt_size e) (I.ok.cab x c hfn hc)))).trans e1⟩
  ·obtain ⟨o',e1⟩:=I.base.there b o e hx
   exact ⟨o',(hs.2 b (bI (bF (Heap.lt_size e) (I.ok.cab x c hfn hc)))).trans e1⟩
  ·by_cases hj:j=i
   ·subst hj
    rw [hi] at e1;cases e1
    rw [cM hiσ] at e2
    cases e2
    exact ⟨u,r,.inr ⟨.inl hk,c,hc,hc'⟩⟩
   ·rw [bw (Ne.symm hj)] at e2
    obtain ⟨u',r',q⟩:=hl j y v' e1 e2 e3
    refine ⟨u',r',?_⟩
    rcases q with q | ⟨k,c',e,z'⟩
    ·exact .inl q
    ·refine .inr ⟨k,c',e,z'.sameBut hs ?_⟩
     rintro rfl
     exact hj (uE hN e1 (I.ok.inj _ _ _ e hc ▸ hi))
  ·by_cases hcc:c'=c
   ·subst hcc;exact ⟨_,hc'⟩
   ·obtain ⟨w2,z2⟩:=I.cell y c' e
    exact ⟨w2,z2.sameBut hs hcc⟩
  ·obtain ⟨e,n,ne,nf,d⟩:=I.pin p hp
   refine ⟨(hs.2 p.1 ?_).trans e,n,ne,nf,d⟩
   intro q
   rw [q,hoc] at e
   have q':oc=p.2:=d8.inj e
   exact d w' (by rw [← q'];exact hocd)
theorem uF {M:Model} {A:Around} {E:Value→Shared→Prop} {i:Nat} {x:Str} {v:V} {u:Value} {Q:Unit→Shared→Prop} (I:Inv X pins σ H s) (hN:X.N.Nodup) (hi:X.N[i]? = some x) (hx:Loc X.env.scope x) (r:RelV v u)
 (h:∀ s',Inv X pins (σ.set i (some v)) H s'→Q () s') (hf:X.fn x=true∨X.env.scope.names.lookup x=some .local:=by first | exact .inl rfl | exact .inr rfl | assumption):wpAny M A (storeName X.env x u) Q E s :=
 rN I hN hi hx r (fun s' I' _=>h s' I') hf
end
abbrev XK:=Value→Option Addr→Hp→Prop
abbrev St:=List (Option V)
abbrev VK:=V→Hp→Prop
abbrev TE:=St→Hp→VK→Prop
abbrev TT:=St→Hp→(Bool→Hp→Prop)→Prop
abbrev TA:=St→Hp→(List V→Hp→Prop)→Prop
structure Ends where
 nx:St→Hp→Prop
 rt:VK
 bk:St→Hp→Prop:=fun _ _=>False
 ct:St→Hp→Prop:=fun _ _=>False
abbrev TS:=Ends→St→Hp→Prop
def EP (X:Cx) (pins:List (Addr × Obj)) (σ:St) (Q:VK) (u:Value) (s':Shared):Prop:=∃ v H',Inv X pins σ H' s'∧RelV v u∧Q v H'
def TP (X:Cx) (pins:List (Addr × Obj)) (σ:St) (Q:Bool→Hp→Prop) (b:Bool) (s':Shared):Prop:=∃ H',Inv X pins σ H' s'∧Q b H'
def AP (X:Cx) (pins:List (Addr × Obj)) (σ:St) (Q:List V→Hp→Prop) (us:List Value) (s':Shared):Prop:=∃ vs H',Inv X pins σ H' s'∧Vals vs us∧Q vs H'
def SP (X:Cx) (pins:List (Addr × Obj)) (D:Ends) (f:Flow) (s':Shared):Prop :=
 match f with
 | .next=>∃ σ' H',Inv X pins σ' H' s'∧D.nx σ' H'
 | .brk=>∃ σ' H',Inv X pins σ' H' s'∧D.bk σ' H'
 | .cont=>∃ σ' H',Inv X pins σ' H' s'∧D.ct σ' H'
 | .ret u=>∃ v σ' H',Inv X pins σ' H' s'∧RelV v u∧D.rt v H'
def PE (X:Cx) (e:Expr) (t:TE):Prop :=
 ∀ (pins:List (Addr × Obj)) (s:Shared) (σ:St) (H:Hp) (Q:VK),Inv X pins σ H s→t σ H Q→wpAny (model X.prog X.w) X.A (eval e X.env) (EP X pins σ Q) X.xe s
def PT (X:Cx) (e:Expr) (t:TT):Prop :=
 ∀ (pins:List (Addr × Obj)) (s:Shared) (σ:St) (H:Hp) (Q:Bool→Hp→Prop),Inv X pins σ H s→t σ H Q→wpAny (model X.prog X.w) X.A (isTrue e X.env (eval e X.env)) (TP X pins σ Q) X.xe s
def PW (X:Cx) (e:Expr) (t:TT):Prop :=
 ∀ (whole:Sem Value) (pins:List (Addr × Obj)) (s:Shared) (σ:St) (H:Hp) (Q:Bool→Hp→Prop),Inv X pins σ H s→t σ H Q→wpAny (model X.prog X.w) X.A (isTrue e X.env whole) (TP X pins σ Q) X.xe s
theorem PW.pt {X:Cx} {e:Expr} {t:TT} (h:PW X e t):PT X e t:=h _
def PA (X:Cx) (es:List Expr) (t:TA):Prop :=
 ∀ (pos:Pos) (pins:List (Addr × Obj)) (s:Shared) (σ:St) (H:Hp) (Q:List V→Hp→Prop),Inv X pins σ H s→t σ H Q→wpAny (model X.prog X.w) X.A (spliced (backTo pos (starEach es X.env))) (AP X pins σ Q) X.xe s
def PS (X:Cx) (st:Stmt) (t:TS):Prop :=
 ∀ (pins:List (Addr × Obj)) (s:Shared) (σ:St) (H:Hp) (D:Ends),Inv X pins σ H s→t D σ H→wpAny (model X.prog X.w) X.A (exec st X.env) (SP X pins D) X.xe s
def PSs (X:Cx) (st:List Stmt) (t:TS):Prop :=
 ∀ (pins:List (Addr × Obj)) (s:Shared) (σ:St) (H:Hp) (D:Ends),Inv X pins σ H s→t D σ H→wpAny (model X.prog X.w) X.A (execs st X.env) (SP X pins D) X.xe s
theorem thn {α:Type} {t:Sem α} {Q Q':α→Shared→Prop} {M:Model} {A:Around} {E:Value→Shared→Prop} {s:Shared} (h:wpAny M A t Q E s) (hQ:∀ a s,Q a s→Q' a s):wpAny M A t Q' E s:=wpAny_mono h hQ fun _ _ x=>x
end L2
namespace L2
open PySem PySem.Spec PyProof.Rows
section
variable {X:Cx}
def Nb (i:Nat):TE:=fun σ H Q=>∃ v,σ[i]? = some (some v)∧Q v H
def tC (v:V):TE:=fun _ H Q=>Q v H
theorem vC {i:Nat} {x:Str} {pos:Pos} (hN:X.N[i]? = some x) (hv:Vis X.env.scope x) (hd:(x == ("__debug__" : Str))=false:=by decide) (hcd:(x == ("__classdict__" : Str))=false:=by decide):PE X (.Name x pos) (Nb i):=by
 intro pins s σ H Q I h
 obtain ⟨v,e,h⟩:=h
 obtain ⟨m,hn,hl⟩:=I.loc
 obtain ⟨u,r,l⟩:=hl i x v hN e hv
 have fin:EP X pins σ Q u s:=⟨v,H,I,r,h⟩
 rcases l with ⟨hk,hm⟩ | ⟨hk,c,hc,hcell⟩
 ·exact wpAny_Name (wpAny_loadName_local I.ok.kind hk hn hm fin) hd
 ·rcases hk with hk | hk
  ·exact wpAny_Name (wpAny_loadName_cell I.ok.kind hk hc hcell fin) hd
  ·exact wpAny_Name (wpAny_loadName_free I.ok.kind hk hc hcell fin hcd) hd
theorem GX {i j pos}:PE X (.Constant (.int i) j pos) (tC (.int i)):=fun _ _ _ H _ I h=>wpAny_Constant_int ⟨.int i,H,I.tok _,⟨_,rfl⟩,h⟩
theorem J1 {b j pos}:PE X (.Constant (.bool b) j pos) (tC (.bl b)):=fun _ _ _ H _ I h=>Constant_bool ⟨.bl b,H,I,rfl,h⟩
theorem GZ {j pos}:PE X (.Constant .none j pos) (tC .non):=fun _ _ _ H _ I h=>Constant_none ⟨.non,H,I,rfl,h⟩
def Gl (X:Cx) (x:Str):Prop:=X.env.kindOf x=some .globalImplicit
theorem Cm {E:Value→Shared→Prop} {pins:List (Addr × Obj)} {s:Shared} {σ:St} {H:Hp} {x:Str} {u:Value} {pos:Pos} {Q:Value→Shared→Prop} (I:Inv X pins σ H s) (hg:Gl X x) (hm:X.mg x=some u) (h:Q u s)
 (hd:(x == ("__debug__" : Str))=false:=by decide):wpAny (model X.prog X.w) X.A (eval (.Name x pos) X.env) Q E s :=
 Calls.Name_function_global I.ok.kind hg (Calls.loadGlobal_global (by rw [I.ok.glob];exact I.mod.glob.keeps I.bk) hm h) hd
theorem nu {E:Value→Shared→Prop} {pins:List (Addr × Obj)} {s:Shared} {σ:St} {H:Hp} {x:Str} {u:Value} {pos:Pos} {Q:Value→Shared→Prop} (I:Inv X pins σ H s) (hg:Gl X x) (hm:X.mg x=none) (hv:bootBuiltins x=some u) (h:Q u s)
 (hn:x ≠ "__name__" := by decide) (hd:(x == ("__debug__" : Str))=false:=by decide):wpAny (model X.prog X.w) X.A (eval (.Name x pos) X.env) Q E s:=by
 obtain ⟨mb,h1,h2⟩:=I.mod.blt
 exact Calls.Name_function_global I.ok.kind hg (Calls.loadGlobal_builtin (by rw [I.ok.glob];exact I.mod.glob.keeps I.bk) hm (by rw [I.ok.blt];exact h1.keeps I.bk) ((h2 x hn).trans hv) h) hd
variable {a b:Expr} {ta tb:TE} {pos:Pos}
def PC (X:Cx) (op:CmpOp) (a b:Expr) (t:TE):Prop :=
 ∀ (pins:List (Addr × Obj)) (s:Shared) (σ:St) (H:Hp) (Q:VK),Inv X pins σ H s→t σ H Q →
  wpAny (model X.prog X.w) X.A (eval a X.env) (fun v s₁=>wpAny (model X.prog X.w) X.A (eval b X.env) (fun u s₂=>wpAny (model X.prog X.w) X.A (compareOp op v u) (EP X pins σ Q) X.xe s₂) X.xe s₁) X.xe s
theorem zq (b:Expr) {op:CmpOp} (h:op ≠ .In) (h2:op ≠ .NotIn):behindInMarks op b=false:=by
 have e1:(op == CmpOp.In)=false:=by cases op <;> first | rfl | exact absurd rfl h
 have e2:(op == CmpOp.NotIn)=false:=by cases op <;> first | rfl | exact absurd rfl h2
 cases b <;> simp [behindInMarks,e1,e2]
def Nf (ta:TE):TE:=fun σ H Q=>ta σ H fun x H1=>Q (.bl (decide (x = .non))) H1
theorem RelV.none_iff {x:V} {v:Value} (r:RelV x v):(v == Value.none)=decide (x = .non):=by
 cases x with
 | non=>cases r;rfl
 | bl _=>cases r;rfl
 | int _=>obtain ⟨t,rfl⟩:=r;rfl
 | str _=>obtain ⟨t,rfl⟩:=r;rfl
 | byt _=>obtain ⟨t,rfl⟩:=r;rfl
 | flt _=>obtain ⟨t,rfl⟩:=r;rfl
 | ref _=>cases r;rfl
 | ty _=>cases r;rfl
theorem G3 {j pos'} (ha:PE X a ta):PC X .Is a (.Constant .none j pos') (Nf ta):=by
 intro pins s σ H Q I h
 refine thn (ha pins s σ H _ I h) fun v s1 ⟨x,H1,I1,r1,q1⟩=>?_
 exact Constant_none (is_none_gen ⟨.bl _,H1,I1,by rw [r1.none_iff];rfl,q1⟩)
def tB (t:TE):TT:=fun σ H Q=>t σ H fun x H1=>∃ c,x = .bl c∧Q c H1
theorem G4 {op:CmpOp} {t:TE} (h:PC X op a b t) (h1:behindInMarks op b=false:=by first | exact zq _ (by decide) (by decide) | rfl):PT X (.Compare a [op] [b] pos) (tB t):=by
 intro pins s σ H Q I hw
 refine wpAny_isTrue_Compare1 (thn (h pins s σ H _ I hw) fun v s1 h1=>thn h1 fun u s2 h2=>thn h2 fun c s3 ⟨x,H1,I1,r1,q1⟩=>?_) h1
 obtain ⟨d,rfl,q⟩:=q1
 cases r1
 exact wpAny_truthy_bool ⟨H1,I1,q⟩
theorem G5 {e:Expr} {t:TE} (h:PE X e t) (he:∀ whole,isTrue e X.env whole=(do let v ← whole;standAt e.pos;holding [v] (truthy v)):=by intro _;rfl):PT X e (tB t):=by
 intro pins s σ H Q I hw
 refine isTrue_plain (thn (h pins s σ H _ I hw) fun v s1 ⟨x,H1,I1,r1,q1⟩=>?_) (he _)
 obtain ⟨d,rfl,q⟩:=q1
 cases r1
 exact wpAny_truthy_bool ⟨H1,I1,q⟩
variable {tA tB':TT} {rest:List Expr}
def tH (t u:TT):TT:=fun σ H Q=>t σ H fun c H1=>if c=true then u σ H1 Q else Q false H1
def tOr (t u:TT):TT:=fun σ H Q=>t σ H fun c H1=>if c=true then Q true H1 else u σ H1 Q
theorem Cp (ha:PT X a tA):PW X (.BoolOp .And [a] pos) tA:=by
 intro wh pins s σ H Q I h
 refine isTrue_and (thn (ha pins s σ H Q I h) fun c s1 e=>?_)
 cases c with
 | true=>exact isTrue_and_nil e
 | false=>exact e
theorem G6 (ha:PT X a tA):PW X (.BoolOp .Or [a] pos) tA:=by
 intro wh pins s σ H Q I h
 refine isTrue_or (thn (ha pins s σ H Q I h) fun c s1 e=>?_)
 cases c with
 | false=>exact isTrue_or_nil e
 | true=>exact e
theorem G7 (ha:PT X a tA) (hb:PW X (.BoolOp .And (b :: rest) pos) tB'):PW X (.BoolOp .And (a :: b :: rest) pos) (tH tA tB'):=by
 intro wh pins s σ H Q I h
 refine isTrue_and (thn (ha pins s σ H _ I h) fun c s1 ⟨H1,I1,q1⟩=>?_)
 cases c with
 | true=>exact hb wh pins s1 σ H1 Q I1 q1
 | false=>exact ⟨H1,I1,q1⟩
theorem J2 (ha:PT X a tA) (hb:PW X (.BoolOp .Or (b :: rest) pos) tB'):PW X (.BoolOp .Or (a :: b :: rest) pos) (tOr tA tB'):=by
 intro wh pins s σ H Q I h
 refine isTrue_or (thn (ha pins s σ H _ I h) fun c s1 ⟨H1,I1,q1⟩=>?_)
 cases c with
 | true=>exact ⟨H1,I1,q1⟩
 | false=>exact hb wh pins s1 σ H1 Q I1 q1
end
end L2
namespace L2
open PySem PySem.Spec PyProof.Rows
def SqL (K:PySem.W.Frag) (H:Hp) (a:Addr) (xs:List V):Prop :=
 Rd H a (.lst xs) ∨
  ∃ (o:Obj) (its:Array Value) (n:Nat),K.lookup a=some o∧o.cls = .type "list" ∧ o.dict=none∧o.data = .seq its n∧its.size ≤ sizeLine∧Vals xs its.toList
def SqT (K:PySem.W.Frag) (H:Hp) (a:Addr) (xs:List V):Prop :=
 Rd H a (.tup xs) ∨
  ∃ (o:Obj) (its:Array Value) (n:Nat),K.lookup a=some o∧o.cls = .type "tuple" ∧ o.data = .seq its n∧its.size ≤ sizeLine∧Vals xs its.toList
def Ng:Value→Option V
 | .none=>some .non
 | .bool b=>some (.bl b)
 | .int i _=>some (.int i)
 | .str x _=>some (.str x)
 | .bytes b _=>some (.byt b)
 | .float b _=>some (.flt b)
 | .ref a=>some (.ref a)
 | .type n=>some (.ty n)
 | _=>none
theorem RelV.abs {x:V} {u:Value} (r:RelV x u):Ng u=some x:=by
 cases x with
 | non=>cases r;rfl
 | bl _=>cases r;rfl
 | int _=>obtain ⟨t,rfl⟩:=r;rfl
 | str _=>obtain ⟨t,rfl⟩:=r;rfl
 | byt _=>obtain ⟨t,rfl⟩:=r;rfl
 | flt _=>obtain ⟨t,rfl⟩:=r;rfl
 | ref _=>cases r;rfl
 | ty _=>cases r;rfl
theorem RelV.inj {x y:V} {u:Value} (r:RelV x u) (q:RelV y u):x=y:=d8.inj (r.abs.symm.trans q.abs)
theorem Vals.inj:∀ {xs ys:List V} {us:List Value},Vals xs us→Vals ys us→xs=ys
 | _,_,_,.nil,.nil=>rfl
 | _,_,_,.cons r t,.cons r' t'=>by rw [r.inj r',Vals.inj t t']
section
variable {X:Cx} {pins:List (Addr × Obj)} {σ:St} {H:Hp} {s:Shared} {a:Addr} {xs ys:List V}
theorem SqL.of {K:PySem.W.Frag} (h:H a=some (.lst xs)):SqL K H a xs:=.inl (.inl h)
theorem Inv.list (I:Inv X pins σ H s) (h:SqL X.K H a xs):∃ its:List Value,Vals xs its∧PlainL s.heap a its.toArray∧xs.length ≤ sizeLine:=by
 rcases h with h | ⟨o,its,n,hk,hc,hd,hs,hz,r⟩
 ·obtain ⟨z,its,n,r,e⟩:=h.ok I.hok
  exact ⟨its,r,⟨_,n,e,rfl,rfl,rfl⟩,z⟩
 ·refine ⟨its.toList,r,⟨o,n,I.kIn a o hk,hc,hd,by simpa using hs⟩,?_⟩
  have e:=r.length
  simp only [aF] at e
  omega
theorem Inv.tuple (I:Inv X pins σ H s) (h:SqT X.K H a xs):∃ its:List Value,Vals xs its∧IsTup s.heap a its.toArray∧xs.length ≤ sizeLine:=by
 rcases h with h | ⟨o,its,n,hk,hc,hs,hz,r⟩
 ·obtain ⟨z,its,r,p⟩:=h.ok I.hok
  exact ⟨its,r,p,z⟩
 ·refine ⟨its.toList,r,⟨o,I.kIn a o hk,hc,n,by simpa using hs⟩,?_⟩
  have e:=r.length
  simp only [aF] at e
  omega
theorem Inv.list_inj (I:Inv X pins σ H s) (h:SqL X.K H a xs) (h':SqL X.K H a ys):xs=ys:=by
 obtain ⟨its,r,⟨o,n,e,_,_,d⟩,_⟩:=I.list h
 obtain ⟨its',r',⟨o',n',e',_,_,d'⟩,_⟩:=I.list h'
 rw [e] at e';cases e'
 rw [d] at d'
 injection d' with d1 _
 have:its=its':=by simpa using congrArg Array.toList d1
 subst this
 exact r.inj r'
end
abbrev Cx.wish (X:Cx) (E:Value→Shared→Prop):Cx:={ X with xe:=E }
abbrev Cx.nox (X:Cx):Cx:=X.wish fun _ _=>False
theorem Cx.Ok.wish {X:Cx} (ok:X.Ok) (E:Value→Shared→Prop):(X.wish E).Ok :=
 ⟨ok.mod,ok.kind,ok.glob,ok.blt,ok.above,ok.inj,ok.has,ok.cab,ok.hd,ok.frames,ok.stk,ok.exf,ok.bs,ok.bsz,ok.noex,ok.exfs,ok.funs,ok.frf⟩
theorem Cx.Ok.unwish {X:Cx} {E:Value→Shared→Prop} (ok:(X.wish E).Ok):X.Ok :=
 ⟨ok.mod,ok.kind,ok.glob,ok.blt,ok.above,ok.inj,ok.has,ok.cab,ok.hd,ok.frames,ok.stk,ok.exf,ok.bs,ok.bsz,ok.noex,ok.exfs,ok.funs,ok.frf⟩
section
variable {X:Cx} {pins:List (Addr × Obj)} {σ:St} {H:Hp} {s:Shared} {E:Value→Shared→Prop}
theorem Inv.wish (I:Inv X pins σ H s) (E:Value→Shared→Prop):Inv (X.wish E) pins σ H s:=⟨I.ok.wish E,I.os,I.bare,I.base,I.loc,I.cell,I.free,I.freeC,I.pin,I.hok,I.len⟩
theorem Inv.unwish (I:Inv (X.wish E) pins σ H s):Inv X pins σ H s:=⟨I.ok.unwish,I.os,I.bare,I.base,I.loc,I.cell,I.free,I.freeC,I.pin,I.hok,I.len⟩
theorem SP.unwish {D:Ends} {f:Flow} {s':Shared} (h:SP (X.wish E) pins D f s'):SP X pins D f s':=by
 cases f with
 | next=>obtain ⟨σ',H',I,q⟩:=h;exact ⟨σ',H',I.unwish,q⟩
 | brk=>obtain ⟨σ',H',I,q⟩:=h;exact ⟨σ',H',I.unwish,q⟩
 | cont=>obtain ⟨σ',H',I,q⟩:=h;exact ⟨σ',H',I.unwish,q⟩
 | ret u=>obtain ⟨v,σ',H',I,r,q⟩:=h;exact ⟨v,σ',H',I.unwish,r,q⟩
theorem PSs.nox {st:List Stmt} {t:TS} (h:PSs X.nox st t):PSs X st t:=fun pins s σ H D I hw =>
 wpAny_mono (h pins s σ H D (I.wish _) hw) (fun _ _ q=>q.unwish) fun _ _ z=>False.elim z
end
section
variable {X:Cx} {st:Stmt} {rest:List Stmt} {t u:TS} {e:Expr} {te:TE} {pos:Pos}
def J3:TS:=fun D σ H=>D.nx σ H
def Nh (t u:TS):TS:=fun D σ H=>t { D with nx:=u D } σ H
theorem Cq:PSs X [] J3:=fun _ _ σ H _ I h=>wpAny_execs_nil ⟨σ,H,I,h⟩
theorem zu (h1:PS X st t) (h2:PSs X rest u):PSs X (st :: rest) (Nh t u):=by
 intro pins s σ H D I h
 refine wpAny_execs_cons (thn (h1 pins s σ H { D with nx:=u D } I h) fun f s1 q=>?_)
 cases f with
 | next =>
  obtain ⟨σ',H',I',q⟩:=q
  exact h2 pins s1 σ' H' D I' q
 | ret v=>exact q
 | brk=>exact q
 | cont=>exact q
theorem Cr (h1:PS X st t):PSs X [st] t:=by
 intro pins s σ H D I h
 refine wpAny_execs_cons (thn (h1 pins s σ H D I h) fun f s1 q=>?_)
 cases f with
 | next=>exact wpAny_execs_nil q
 | ret v=>exact q
 | brk=>exact q
 | cont=>exact q
def Ni (te:TE):TS:=fun D σ H=>te σ H D.rt
theorem G8 (he:PE X e te):PS X (.Return (some e) pos) (Ni te):=by
 intro pins s σ H D I h
 exact wpAny_Return_some (thn (he pins s σ H _ I h) fun v s1 ⟨x,H1,I1,r1,q1⟩=>⟨x,σ,H1,I1,r1,q1⟩)
def Nj (c:TT) (t u:TS):TS:=fun D σ H=>c σ H fun b H1=>if b=true then t D σ H1 else u D σ H1
theorem J4 {c:Expr} {a b:List Stmt} {tc:TT} (hc:PT X c tc) (ha:PSs X a t) (hb:PSs X b u):PS X (.If c a b pos) (Nj tc t u):=by
 intro pins s σ H D I h
 refine wpAny_If (thn (hc pins s σ H _ I h) fun d s1 ⟨H1,I1,q1⟩=>?_)
 cases d with
 | true=>exact ha pins s1 σ H1 D I1 q1
 | false=>exact hb pins s1 σ H1 D I1 q1
end
abbrev TG:=V→St→Hp→(St→Hp→Prop)→Prop
abbrev TGs:=List V→St→Hp→(St→Hp→Prop)→Prop
def PG (X:Cx) (target:Expr) (t:TG):Prop :=
 ∀ (pins:List (Addr × Obj)) (s:Shared) (σ:St) (H:Hp) (v:V) (u:Value) (Q:St→Hp→Prop),Inv X pins σ H s→RelV v u→t v σ H Q →
  wpAny (model X.prog X.w) X.A (assign target X.env u) (fun _ s'=>∃ σ' H',Inv X pins σ' H' s'∧Q σ' H') X.xe s
def PGs (X:Cx) (ts:List Expr) (t:TGs):Prop :=
 ∀ (pins:List (Addr × Obj)) (s:Shared) (σ:St) (H:Hp) (vs:List V) (us:List Value) (Q:St→Hp→Prop),Inv X pins σ H s→Vals vs us→t vs σ H Q →
  wpAny (model X.prog X.w) X.A (assignInOrder ((assignEach ts X.env).map (·.2)) us) (fun _ s'=>∃ σ' H',Inv X pins σ' H' s'∧Q σ' H') X.xe s
section
variable {X:Cx} {pos:Pos}
def zA (i:Nat):TG:=fun v σ H Q=>Q (σ.set i (some v)) H
theorem Cu {i:Nat} {x:Str} (hN:X.N.Nodup) (hi:X.N[i]? = some x) (hx:Loc X.env.scope x) (hf:X.fn x=true∨X.env.scope.names.lookup x=some .local:=by first | exact .inl rfl | exact .inr rfl | assumption):PG X (.Name x pos) (zA i):=by
 intro pins s σ H v u Q I r h
 exact wpAny_assign_Name (uF I hN hi hx r (fun s' I'=>⟨_,H,I',h⟩) hf)
def Nk:TGs:=fun vs σ H Q=>vs=[]∧Q σ H
def J5 (t:TG) (u:TGs):TGs:=fun vs σ H Q=>∃ v r,vs=v :: r∧t v σ H fun σ' H'=>u r σ' H' Q
theorem Cv:PGs X [] Nk:=by
 intro pins s σ H vs us Q I r h
 obtain ⟨e,h⟩:=h
 subst e
 cases r
 exact assignInOrder_nil ⟨σ,H,I,h⟩
theorem zB {e:Expr} {es:List Expr} {t:TG} {u:TGs} (h1:PG X e t) (h2:PGs X es u)
 (hs:(assignEach (e :: es) X.env).map (·.2)=assign e X.env :: (assignEach es X.env).map (·.2):=by rfl):PGs X (e :: es) (J5 t u):=by
 intro pins s σ H vs us Q I r h
 obtain ⟨v,vr,e1,h⟩:=h
 subst e1
 cases r with
 | cons r rr =>
  rw [hs]
  refine assignInOrder_cons (thn (h1 pins s σ H _ _ _ I r h) fun _ s1 ⟨σ1,H1,I1,q1⟩=>?_)
  exact h2 pins s1 σ1 H1 _ _ Q I1 rr q1
def Nm (K:PySem.W.Frag) (n:Nat) (t:TGs):TG:=fun v σ H Q=>∃ a xs,v = .ref a∧SqT K H a xs∧xs.length=n∧t xs σ H Q
theorem G9 {es:List Expr} {k:Nat} {t:TGs} {n:Nat} (hc:X.calm=true) (h:PGs X es t)
 (hn:(assignEach es X.env).length=n:=by rfl) (hst:(assignEach es X.env).findIdx? (·.1)=none:=by rfl):PG X (.Tuple es k pos) (Nm X.K n t):=by
 intro pins s σ H v u Q I r hw
 obtain ⟨a,xs,e1,hq,hl,hw⟩:=hw
 subst e1
 cases r
 obtain ⟨its,rv,ht,hz⟩:=I.tuple hq
 refine assign_Tuple_tuple (I.ok.hd hc) ht (by simp [hn,← hl,rv.length]) hst fun h' hx=>?_
 have I1:Inv X pins σ H { s with heap:=h' }:=I.kept (t':=s.toks) fun b o e=>hx b o (bI (Heap.lt_size e)) e
 exact h pins _ σ H xs _ Q I1 (by simpa using rv) hw
def G_ (te:TE) (g:TG):TS:=fun D σ H=>te σ H fun x H1=>g x σ H1 D.nx
theorem Hf {tg e:Expr} {te:TE} {g:TG} (he:PE X e te) (hg:PG X tg g) (hs:swapsWithSole [tg] e pos.line X.env=pure false:=by rfl) (hw:swappedStores [tg] e X.env=pure none:=by rfl)
 (h1:(assignEach [tg] X.env).map (·.2)=[assign tg X.env]:=by rfl):PS X (.Assign [tg] e pos) (G_ te g):=by
 intro pins s σ H D I h
 refine wpAny_Assign_stores (thn (he pins s σ H _ I h) fun v s1 ⟨x,H1,I1,r1,q1⟩=>?_) hs hw
 rw [h1]
 exact thn (hg pins s1 σ H1 x v _ I1 r1 q1) fun _ s2 q=>q
theorem zE {i:Nat} {x:Str} {e:Expr} {te:TE} {pos':Pos} (hN:X.N.Nodup) (hi:X.N[i]? = some x) (hx:Loc X.env.scope x) (he:PE X e te) (hs:swapsWith e (some (.Name x pos')) pos.line X.env=pure false:=by rfl) (hf:X.fn x=true∨X.env.scope.names.lookup x=some .local:=by first | exact .inl rfl | exact .inr rfl | assumption) :
 PS X (.Assign [.Name x pos'] e pos) (G_ te (zA i)):=by
 intro pins s σ H D I h
 refine wpAny_Assign_Name (thn (he pins s σ H _ I h) fun v s1 ⟨y,H1,I1,r1,q1⟩=>?_) hs
 exact uF I1 hN hi hx r1 (fun s2 I2=>⟨_,H1,I2,q1⟩) hf
end
section
variable {X:Cx} {pos:Pos}
end
structure It where
 go:Nat→Hp→Prop
 yld:Nat→Hp→V→Hp→Prop
 stop:Nat→Hp→Prop
def oW (X:Cx) (pins:List (Addr × Obj)) (H:Hp) (b:Addr):Prop :=
 H b=none∧b ≠ X.env.locals∧b ∉ X.fs∧(b ∈ X.ex∨X.s₀.heap.objs.size ≤ b)∧(∀ x c,X.env.cells.lookup x=some c→c ≠ b)∧∀ p ∈ X.pn++pins,p.1 ≠ b
theorem Inv.fpOk {X:Cx} {pins:List (Addr × Obj)} {σ:St} {H H':Hp} {s:Shared} {b:Addr} (I:Inv X pins σ H s) (hb:s.heap.objs.size ≤ b) (hn:H' b=none):oW X pins H' b:=by
 refine ⟨hn,Nat.ne_of_gt (bF I.lt hb),I.nofs hb,.inr (bU I.sz hb),fun x c e z=>?_,fun p hp z=>?_⟩
 ·obtain ⟨v,q⟩:=I.cell x c e
  exact absurd (bF q.lt (by rw [z];exact hb)) (gF _)
 ·exact absurd (bF (Heap.lt_size (I.pin p hp).1) (by rw [z];exact hb)) (gF _)
structure Turn (P:Program) (w:World) (K:PySem.W.Frag) (tg:Expr) (J:It) (fp:List Addr) (it:Addr) (tn:Nat→Heap→Prop):Prop where
 mem:it ∈ fp
 obj:∀ i h,tn i h→∀ b ∈ fp,∃ o,h.get? b=some o∧∀ v,o.data ≠ .cell v
 keep:∀ i h h',tn i h→(∀ b ∈ fp,∀ o,h.get? b=some o→h'.get? b=some o)→tn i h'
 item:∀ (X:Cx),X.prog=P→X.w=w→X.K=K→X.calm=true→∀ (i:Nat) (pins:List (Addr × Obj)) (s:Shared) (σ:St) (H:Hp) (E:Value→Shared→Prop),Inv X pins σ H s→(∀ b ∈ fp,oW X pins H b)→tn i s.heap→J.go i H →
  wpAny (model P w) X.A (pyNext (.ref it)) (fun r s1=>∃ u,r=some u ∧
   wpAny (model P w) X.A (letOwnedTupleGo tg (.ref it) u) (fun _ s2=>∃ x H',Inv X pins σ H' s2∧RelV x u∧J.yld i H x H'∧tn (i + 1) s2.heap∧∀ b ∈ fp,H' b=none) E s1) E s
 done:∀ (X:Cx),X.prog=P→X.w=w→X.K=K→X.calm=true→∀ (i:Nat) (pins:List (Addr × Obj)) (s:Shared) (σ:St) (H:Hp) (E:Value→Shared→Prop),Inv X pins σ H s→(∀ b ∈ fp,oW X pins H b)→tn i s.heap→J.stop i H →
  wpAny (model P w) X.A (pyNext (.ref it)) (fun r s1=>r=none∧Inv X pins σ H s1) E s
 self:∀ (A:Around) (i:Nat) (s:Shared) (Q:Value→Shared→Prop) (E:Value→Shared→Prop),tn i s.heap→Q (.ref it) s→wpAny (model P w) A (pyIter (.ref it)) Q E s
abbrev TI:=St→Hp→(It→Hp→Prop)→Prop
def PIE (X:Cx) (pins:List (Addr × Obj)) (σ:St) (tg:Expr) (R:It→Hp→Prop) (itv:Value) (s2:Shared):Prop :=
 ∃ (it:Addr) (fp:List Addr) (tn:Nat→Heap→Prop) (J:It) (H':Hp),itv = .ref it∧Inv X pins σ H' s2∧Turn X.prog X.w X.K tg J fp it tn∧tn 0 s2.heap∧(∀ b ∈ fp,oW X pins H' b)∧R J H'
def PI (X:Cx) (tg iter:Expr) (wi:TI):Prop :=
 ∀ (pins:List (Addr × Obj)) (s:Shared) (σ:St) (H:Hp) (R:It→Hp→Prop),Inv X pins σ H s→wi σ H R →
  wpAny (model X.prog X.w) X.A (eval iter X.env) (fun v s1=>wpAny (model X.prog X.w) X.A (pyIter v) (PIE X pins σ tg R) X.xe s1) X.xe s
theorem Gf {M:Model} {A:Around} {E:Value→Shared→Prop} {s:Shared} {tg:Expr} {it:Addr} {u:Value} {o:Obj} {n:String} {vs:Array Value} {Q:Unit→Shared→Prop} (ho:s.heap.get? it=some o) (hc:o.cls = .type n) (hd:o.data = .fields vs)
 (hn:["enumerate", "zip", "dict_itemiterator", "dict_reverseitemiterator", "odict_iterator", "itertools.zip_longest", "itertools.pairwise"].contains n=false) (hQ:Q () s):wpAny M A (letOwnedTupleGo tg (.ref it) u) Q E s:=by
 unfold letOwnedTupleGo
 cases tg <;> first
  | exact wpAny_pure hQ
  | (cases u <;> first
   | exact wpAny_pure hQ
   | (refine wpAny_bind (wpAny_load ho ?_)
      rw [hc,hd]
      show wpAny M A (if (["enumerate", "zip", "dict_itemiterator", "dict_reverseitemiterator", "odict_iterator", "itertools.zip_longest", "itertools.pairwise"].contains n && vs[0]? == some (rawInt _))=true then _ else _) Q E s
      rw [if_neg (by intro h;rw [hn,lW] at h;cases h)]
      exact wpAny_pure hQ))
def Itl (K:PySem.W.Frag) (a:Addr):It :=
 ⟨fun i H=>∃ xs x,SqL K H a xs∧xs[i]? = some x,fun i H x H'=>H'=H∧∀ xs,SqL K H a xs→xs[i]? = some x,fun i H=>∃ xs,SqL K H a xs∧xs.length ≤ i⟩
def Itr (lo:Int) (n:Nat):It:=⟨fun i _=>i < n,fun i H x H'=>H'=H∧x = .int (lo + i),fun i _=>n ≤ i⟩
theorem xR {P:Program} {w:World} {K:PySem.W.Frag} {tg:Expr} (a it:Addr):Turn P w K tg (Itl K a) [it] it (fun i h=>h.IsListIter it a i) where
 mem:=by simp
 obj:=fun i h st b hb=>by
  have e:b=it:=by simpa using hb
  subst e
  obtain ⟨o,e,c,d⟩:=st
  exact ⟨o,e,fun v z=>by rw [d] at z;cases z⟩
 keep:=fun i h h' st k=>st.at fun o e=>k it (by simp) o e
 item:=by
  intro X hP hw hK hc i pins s σ H E I hf st hg
  subst hP hw hK
  obtain ⟨xs,x,hq,hx⟩:=hg
  obtain ⟨its,rv,p,hz⟩:=I.list hq
  obtain ⟨u,hu,ru⟩:=rv.get hx
  obtain ⟨f0,f1,f2,f3,f4,f5⟩:=hf it (by simp)
  refine wpAny_pyNext_list_item st p.isList (x:=u) (by simpa using hu) fun h' st' sb=>?_
  have I1:Inv X pins σ H { s with heap:=h' }:=I.turned (t':=s.toks) (fun b o hb e=>(sb.2 b hb).trans e) f0 f1 f3 f4 f5
  obtain ⟨o,e,c,d⟩:=id st'
  exact ⟨u,rfl,Gf (s:={ s with heap:=h' }) e c d (by decide) ⟨x,H,I1,ru,⟨rfl,fun ys hy=>by rw [I.list_inj hy hq];exact hx⟩,st',fun b hb=>(hf b hb).1⟩⟩
 done:=by
  intro X hP hw hK hc i pins s σ H E I hf st hg
  subst hP hw hK
  obtain ⟨xs,hq,hx⟩:=hg
  obtain ⟨its,rv,p,hz⟩:=I.list hq
  obtain ⟨f0,f1,f2,f3,f4,f5⟩:=hf it (by simp)
  have hl:=rv.length
  exact wpAny_pyNext_list_end (I.ok.hd hc) st p.isList (by simp;omega) fun h' eb=>⟨rfl,I.turned (t':=s.toks) (fun b o hb e=>eb b o hb e) f0 f1 f3 f4 f5⟩
 self:=fun _ _ _ _ _ st h=>wpAny_pyIter_listiter st h
theorem vD {P:Program} {w:World} {K:PySem.W.Frag} {tg:Expr} (it:Addr) (lo:Int) (n:Nat):Turn P w K tg (Itr lo n) [it] it (fun i h=>IsRangeIter h it (lo + (i:Nat) * 1) ((n:Int) - (i:Nat)) 1) where
 mem:=by simp
 obj:=fun i h st b hb=>by
  have e:b=it:=by simpa using hb
  subst e
  exact ⟨_,st,fun v z=>by
   have z':Data.fields _=Data.cell v:=z
   cases z'⟩
 keep:=fun i h h' st k=>k it (by simp) _ st
 item:=by
  intro X hP hw hK hc i pins s σ H E I hf st hg
  subst hP hw hK
  obtain ⟨f0,f1,f2,f3,f4,f5⟩:=hf it (by simp)
  have W:=Walks.range (prog:=X.prog) (w:=X.w) (I.ok.hd hc) it lo 1 n
  refine W.item i s _ _ hg st fun v h' tk hv st' kk=>?_
  obtain ⟨t,rfl⟩:=hv
  have I1:Inv X pins σ H { s with heap:=h',toks:=tk }:=I.turned (fun b o hb e=>kk b o (by simpa using hb) e) f0 f1 f3 f4 f5
  refine ⟨_,rfl,Gf (s:={ s with heap:=h',toks:=tk }) (n := "range_iterator") st' rfl rfl (by decide) ⟨.int (lo + i),H,I1,⟨t,?_⟩,⟨rfl,rfl⟩,st',fun b hb=>(hf b hb).1⟩⟩
  rw [Int.mul_one]
 done:=by
  intro X hP hw hK hc i pins s σ H E I hf st hg
  subst hP hw hK
  obtain ⟨f0,f1,f2,f3,f4,f5⟩:=hf it (by simp)
  exact wpAny_pyNext_range_end (I.ok.hd hc) st (by have:n ≤ i:=hg;omega) fun h' eb=>⟨rfl,I.turned (t':=s.toks) (fun b o hb e=>eb b o hb e) f0 f1 f3 f4 f5⟩
 self:=fun _ _ _ _ _ st h=>wpAny_pyIter_rangeiter st h
end L2
namespace L2
open PySem PySem.Spec PyProof.Rows
section
variable {X:Cx} {tg:Expr}
def J6 (K:PySem.W.Frag) (tl:TE):TI:=fun σ H R=>tl σ H fun x H1=>∃ a,x = .ref a∧(∃ xs,SqL K H1 a xs)∧R (Itl K a) H1
theorem Cw {l:Expr} {tl:TE} (hl:PE X l tl):PI X tg l (J6 X.K tl):=by
 intro pins s σ H R I h
 refine thn (hl pins s σ H _ I h) fun v s1 ⟨x,H1,I1,r1,q1⟩=>?_
 obtain ⟨a,e,⟨xs,hq⟩,q⟩:=q1
 subst e
 cases r1
 obtain ⟨its,rv,p,hz⟩:=I1.list hq
 refine wpAny_pyIter_list p.isList ?_
 refine ⟨s1.heap.objs.size,[s1.heap.objs.size],_,_,H1,rfl,I1.kept (t':=s1.toks) fun b o e=>Heap.get?_push_of_some _ e,xR a _,⟨_,Heap.get?_push_size _ rfl,rfl,rfl⟩,fun b hb=>?_,q⟩
 have e:b=s1.heap.objs.size:=by simpa using hb
 subst e
 exact I1.fpOk (aO _) (I1.hok.fresh (aO _))
theorem uG {pins:List (Addr × Obj)} {σ:St} {H:Hp} {s:Shared} {R:It→Hp→Prop} {E:Value→Shared→Prop} {lo hi:Int} {t u v:Tok} {tk:Nat} (I:Inv X pins σ H s) (h1 : -(2 ^ 62) ≤ lo) (h2:lo < 2 ^ 62) (h3 : -(2 ^ 62) ≤ hi) (h4:hi < 2 ^ 62)
 (q:R (Itr lo (hi - lo).toNat) H):wpAny (model X.prog X.w) X.A (pyIter (.ref s.heap.objs.size)) (PIE X pins σ tg R) E { s with heap:=s.heap.push { cls:=.type "range", data:=.fields #[.int lo t,.int hi u,.int 1 v] },toks:=tk }:=by
 refine wpAny_pyIter_range (IsRange.new ..) (small_one h1 h2 h3 h4) ?_
 have I1:Inv X pins σ H { s with heap:=s.heap.push { cls:=.type "range", data:=.fields #[.int lo t,.int hi u,.int 1 v] },toks:=tk }:=I.kept fun b o e=>Heap.get?_push_of_some _ e
 refine ⟨(s.heap.push { cls:=.type "range", data:=.fields #[.int lo t,.int hi u,.int 1 v] }).objs.size,[(s.heap.push { cls:=.type "range", data:=.fields #[.int lo t,.int hi u,.int 1 v] }).objs.size],_,_,H,rfl,
  I1.kept (t':=tk) fun b o e=>Heap.get?_push_of_some _ e,vD _ lo (hi - lo).toNat,?_,fun b hb=>?_,q⟩
 ·have e1:lo + ((0:Nat):Int) * 1=lo:=by simp
  have e2:(((hi - lo).toNat:Nat):Int) - ((0:Nat):Int)=Builtin.Range.rangeSize lo hi 1:=by rw [rangeSize_one];split <;> omega
  show IsRangeIter _ _ (lo + ((0:Nat):Int) * 1) ((((hi - lo).toNat:Nat):Int) - ((0:Nat):Int)) 1
  rw [e1,e2]
  exact Heap.get?_push_size _ rfl
 ·have e:b=(s.heap.push { cls:=.type "range", data:=.fields #[.int lo t,.int hi u,.int 1 v] }).objs.size:=by simpa using hb
  subst e
  exact I1.fpOk (aO _) (I1.hok.fresh (aO _))
def J7 (ta:TA):TI:=fun σ H R=>ta σ H fun vs H1=>∃ j:Int,vs=[.int j]∧-(2 ^ 62) ≤ j∧j < 2 ^ 62∧R (Itr 0 j.toNat) H1
def J8 (ta:TA):TI:=fun σ H R=>ta σ H fun vs H1=>∃ i j:Int,vs=[.int i,.int j]∧(-(2 ^ 62) ≤ i∧i < 2 ^ 62∧-(2 ^ 62) ≤ j∧j < 2 ^ 62)∧R (Itr i (j - i).toNat) H1
theorem xT {a:Expr} {ta:TA} {p pos:Pos} (hg:Gl X "range") (hm:X.mg "range" = none) (ha:PA X [a] ta) (hs:starEach [a] X.env=[(false,eval a X.env)]:=by rfl):PI X tg (.Call (.Name "range" p) [a] [] pos) (J7 ta):=by
 intro pins s σ H R I h
 refine Call_ (nu I hg hm boot_range (PyProof.Rows.callWith_type1 (thn (ha pos pins s σ H _ I h) fun us s1 ⟨vs,H1,I1,r1,q1⟩=>?_) hs rfl))
 obtain ⟨j,e,q1,q2,q⟩:=q1
 subst e
 cases r1 with
 | cons r rr =>
  cases rr
  obtain ⟨t,rfl⟩:=r
  exact call_range_1 (uG I1 (by omega) (by omega) q1 q2 (by simpa using q))
theorem xU {a b:Expr} {ta:TA} {p pos:Pos} (hg:Gl X "range") (hm:X.mg "range" = none) (ha:PA X [a,b] ta) (hs:starEach [a,b] X.env=[(false,eval a X.env),(false,eval b X.env)]:=by rfl) (hs2:starEach [b] X.env=[(false,eval b X.env)]:=by rfl) :
 PI X tg (.Call (.Name "range" p) [a,b] [] pos) (J8 ta):=by
 intro pins s σ H R I h
 refine Call_ (nu I hg hm boot_range (PyProof.Rows.callWith_type1 (thn (ha pos pins s σ H _ I h) fun us s1 ⟨vs,H1,I1,r1,q1⟩=>?_) (by rw [hs,hs2]) (by rw [hs2];rfl)))
 obtain ⟨i,j,e,⟨q1,q2,q3,q4⟩,q⟩:=q1
 subst e
 cases r1 with
 | cons r rr =>
  cases rr with
  | cons r' rr =>
   cases rr
   obtain ⟨t,rfl⟩:=r
   obtain ⟨t',rfl⟩:=r'
   exact call_range_2 (uG I1 q1 q2 q3 q4 q)
def Np (wi:TI) (g:TG) (tb:TS):TS:=fun D σ H=>wi σ H fun J H1=>∃ W:Nat→Nat→St→Hp→Prop,(∃ m,W 0 m σ H1)∧∀ i m σ H,W i m σ H →
 (J.stop i H∧D.nx σ H)∨(J.go i H∧∃ N:St→Hp→Prop,(∀ σ' H',N σ' H'→∃ m',m' < m∧W (i + 1) m' σ' H')∧∀ x H',J.yld i H x H'→g x σ H' fun σ2 H2=>tb { D with nx:=N,ct:=N,bk:=D.nx } σ2 H2)
def qb (fp:List Addr) (h:Heap):List (Addr × Obj):=fp.filterMap fun b=>(h.get? b).map fun o=>(b,o)
theorem lC {fp:List Addr} {h:Heap} {b:Addr} {o:Obj} (hb:b ∈ fp) (e:h.get? b=some o):(b,o) ∈ qb fp h:=gb.mpr ⟨b,hb,by rw [e];rfl⟩
theorem xV {fp:List Addr} {h:Heap} {p:Addr × Obj} (hp:p ∈ qb fp h):p.1 ∈ fp∧h.get? p.1=some p.2:=by
 obtain ⟨b,hb,e⟩:=gb.mp hp
 cases q:h.get? b with
 | none=>rw [q] at e;cases e
 | some o =>
  rw [q] at e
  have e':(b,o)=p:=d8.inj e
  subst e'
  exact ⟨hb,q⟩
theorem Inv.pinned {pins:List (Addr × Obj)} {σ:St} {H:Hp} {s:Shared} {fp:List Addr} (I:Inv X pins σ H s) (hf:∀ b ∈ fp,oW X pins H b) (ho:∀ b ∈ fp,∃ o,s.heap.get? b=some o∧∀ v,o.data ≠ .cell v):Inv X (pins++qb fp s.heap) σ H s :=
 I.pins_of fun p hp=>(bD.mp hp).elim (fun z=>I.pin p (aV _ z)) fun z=>by
  obtain ⟨hb,e⟩:=xV z
  obtain ⟨f0,f1,f2,_⟩:=hf p.1 hb
  obtain ⟨o,e',d⟩:=ho p.1 hb
  rw [e] at e';cases e'
  exact ⟨e,f0,f1,f2,d⟩
theorem Inv.unpinned {pins pl:List (Addr × Obj)} {σ:St} {H:Hp} {s:Shared} (I:Inv X (pins++pl) σ H s):Inv X pins σ H s:=I.pins_of fun p hp=>I.pin p (aV _ (b_ _ hp))
theorem Hg {iter:Expr} {body:List Stmt} {wi:TI} {g:TG} {tb:TS} {pos:Pos} (hp:PassesOwn (model X.prog X.w) X.A X.env X.xe) (hc:X.calm=true) (hi:PI X tg iter wi) (hg:PG X tg g) (hb:PSs X body tb)
 (hs:∀ x,foldedSetIterable iter X.env x=pure x:=by intro _;rfl):PS X (.For tg iter body [] pos) (Np wi g tb):=by
 intro pins s σ H D I h
 refine wpAny_For (thn (hi pins s σ H _ I h) fun v s1 h1=>thn h1 fun itv s2 h2=>?_) hs
 obtain ⟨it,fp,tn,J,H2,e,I2,T,st2,f2,W,⟨m0,w0⟩,turn⟩:=h2
 subst e
 have stat:∀ {H':Hp},(∀ b ∈ fp,H' b=none)→∀ b ∈ fp,oW X pins H' b:=fun hn b hb=>⟨hn b hb,(f2 b hb).2⟩
 refine codeAny_forLoop_any (fun n s'=>∃ i σ' H',Inv X pins σ' H' s'∧tn i s'.heap∧(∀ b ∈ fp,H' b=none)∧W i n σ' H') ?_ m0 ⟨0,σ,H2,I2,st2,fun b hb=>(f2 b hb).1,w0⟩
 rintro n s3 ⟨i,σ3,H3,I3,st3,fr3,w3⟩
 rcases turn i n σ3 H3 w3 with ⟨stop,qn⟩ | ⟨go,N,hN,step⟩
 ·refine wpAny_passesOwn hp (thn (T.done X rfl rfl rfl hc i pins s3 σ3 H3 X.xe I3 (stat fr3) st3 stop) fun r s4 ⟨hr,I4⟩=>?_)
  subst hr
  exact wpAny_execs_nil ⟨σ3,H3,I4,qn⟩
 ·refine wpAny_passesOwn hp (thn (T.item X rfl rfl rfl hc i pins s3 σ3 H3 X.xe I3 (stat fr3) st3 go) fun r s4 ⟨u,hr,h4⟩=>?_)
  subst hr
  refine wpAny_passesOwn hp (thn h4 fun _ s5 ⟨x,H5,I5,r5,y5,st5,fr5⟩=>?_)
  have I5':=I5.pinned (stat fr5) (T.obj _ _ st5)
  refine wpAny_passesOwn hp (thn (hg _ s5 σ3 H5 x u _ I5' r5 (step x H5 y5)) fun _ s6 ⟨σ6,H6,I6,q6⟩=>?_)
  refine wpAny_passesOwn hp (thn (hb _ s6 σ6 H6 _ I6 q6) fun f s7 q7=>?_)
  have again:∀ {σ7:St} {H7:Hp},Inv X (pins++qb fp s5.heap) σ7 H7 s7→N σ7 H7→∃ m,m < n∧∃ i σ' H',Inv X pins σ' H' s7∧tn i s7.heap∧(∀ b ∈ fp,H' b=none)∧W i m σ' H':=fun {σ7 H7} I7 n7=>by
   obtain ⟨m',hm,w7⟩:=hN σ7 H7 n7
   refine ⟨m',hm,i + 1,σ7,H7,I7.unpinned,T.keep _ _ _ st5 fun b hb o e=>(I7.pin (b,o) (aV _ (aV _ (lC hb e)))).1,fun b hb=>?_,w7⟩
   obtain ⟨o,e,d⟩:=T.obj _ _ st5 b hb
   exact (I7.pin (b,o) (aV _ (aV _ (lC hb e)))).2.1
  cases f with
  | next=>obtain ⟨σ7,H7,I7,n7⟩:=q7;exact again I7 n7
  | cont=>obtain ⟨σ7,H7,I7,n7⟩:=q7;exact again I7 n7
  | brk=>obtain ⟨σ7,H7,I7,q7⟩:=q7;exact ⟨σ7,H7,I7.unpinned,q7⟩
  | ret v=>obtain ⟨x7,σ7,H7,I7,r7,q7⟩:=q7;exact ⟨x7,σ7,H7,I7.unpinned,r7,q7⟩
end
end L2
namespace L2
open PySem PySem.Spec PyProof.Rows
abbrev R2:=V→V→Hp→VK→Prop
def OpR (X:Cx) (f:Value→Value→Sem Value) (r:R2):Prop :=
 ∀ (pins:List (Addr × Obj)) (s:Shared) (σ:St) (H:Hp) (x y:V) (v u:Value) (Q:VK),Inv X pins σ H s→RelV x v→RelV y u→r x y H Q →
  wpAny (model X.prog X.w) X.A (f v u) (EP X pins σ Q) X.xe s
def UnR (X:Cx) (f:Value→Sem Value) (r:V→Hp→VK→Prop):Prop :=
 ∀ (pins:List (Addr × Obj)) (s:Shared) (σ:St) (H:Hp) (x:V) (v:Value) (Q:VK),Inv X pins σ H s→RelV x v→r x H Q →
  wpAny (model X.prog X.w) X.A (f v) (EP X pins σ Q) X.xe s
def nY (X:Cx) (f:Value) (r:List V→Hp→VK→Prop):Prop :=
 ∀ (pins:List (Addr × Obj)) (s:Shared) (σ:St) (H:Hp) (xs:List V) (us:List Value) (Q:VK),Inv X pins σ H s→Vals xs us→r xs H Q →
  wpAny (model X.prog X.w) X.A (call f us) (EP X pins σ Q) X.xe s
def tOp (r:R2) (ta tb:TE):TE:=fun σ H Q=>ta σ H fun x H1=>tb σ H1 fun y H2=>r x y H2 Q
def tUn (r:V→Hp→VK→Prop) (ta:TE):TE:=fun σ H Q=>ta σ H fun x H1=>r x H1 Q
def rI (C:Int→Int→Prop) (g:Int→Int→V):R2:=fun x y H Q=>∃ i j,x = .int i∧y = .int j∧C i j∧Q (g i j) H
def rI0 (g:Int→Int→V):R2:=fun x y H Q=>∃ i j,x = .int i∧y = .int j∧Q (g i j) H
def rU (g:Int→V):V→Hp→VK→Prop:=fun x H Q=>∃ i,x = .int i∧Q (g i) H
section
variable {X:Cx} {a b c:Expr} {ta tb tc:TE} {pos:Pos}
theorem J9 (ha:PE X a ta) (hb:PE X b tb) {pins:List (Addr × Obj)} {s:Shared} {σ:St} {H:Hp} {R:V→V→Hp→Prop} (I:Inv X pins σ H s)
 (h:ta σ H fun x H1=>tb σ H1 fun y H2=>R x y H2) {Q:Value→Shared→Prop} {f:Value→Value→Sem Value}
 (hf:∀ v u s2 x y H2,Inv X pins σ H2 s2→RelV x v→RelV y u→R x y H2→wpAny (model X.prog X.w) X.A (f v u) Q X.xe s2) :
 wpAny (model X.prog X.w) X.A (eval a X.env) (fun v s₁=>wpAny (model X.prog X.w) X.A (eval b X.env) (fun u s₂=>wpAny (model X.prog X.w) X.A (f v u) Q X.xe s₂) X.xe s₁) X.xe s:=by
 refine thn (ha pins s σ H _ I h) fun v s1 ⟨x,H1,I1,r1,q1⟩=>?_
 refine thn (hb pins s1 σ H1 _ I1 q1) fun u s2 ⟨y,H2,I2,r2,q2⟩=>?_
 exact hf v u s2 x y H2 I2 r1 r2 q2
theorem zF {op:Operator} {r:R2} (ho:OpR X (binaryOp op) r) (ha:PE X a ta) (hb:PE X b tb):PE X (.BinOp a op b pos) (tOp r ta tb):=by
 intro pins s σ H Q I h
 exact wpAny_BinOp (J9 ha hb I h fun v u s2 x y H2 I2 rx ry q=>ho pins s2 σ H2 x y v u Q I2 rx ry q)
theorem J_ {op:UnaryOp} {r:V→Hp→VK→Prop} (ho:UnR X (unaryOp op) r) (ha:PE X a ta):PE X (.UnaryOp op a pos) (tUn r ta):=by
 intro pins s σ H Q I h
 exact UnaryOp_ (thn (ha pins s σ H _ I h) fun v s1 ⟨x,H1,I1,r1,q1⟩=>ho pins s1 σ H1 x v Q I1 r1 q1)
theorem opI {f:Value→Value→Sem Value} {C:Int→Int→Prop} {g:Int→Int→Int}
 (rule:∀ (i j:Int) (t u:Tok) (s:Shared) (Q:Value→Shared→Prop) (E:Value→Shared→Prop),C i j→Q (.int (g i j) s.toks) { s with toks:=s.toks + 1 }→wpAny (model X.prog X.w) X.A (f (.int i t) (.int j u)) Q E s) :
 OpR X f (rI C fun i j=>.int (g i j)):=by
 intro pins s σ H x y v u Q I rx ry h
 obtain ⟨i,j,rfl,rfl,hc,q⟩:=h
 obtain ⟨t,rfl⟩:=rx
 obtain ⟨t',rfl⟩:=ry
 exact rule i j t t' s _ _ hc ⟨.int (g i j),H,I.tok _,⟨_,rfl⟩,q⟩
theorem Kc {f:Value→Value→Sem Value} {g:Int→Int→Int}
 (rule:∀ (i j:Int) (t u:Tok) (s:Shared) (Q:Value→Shared→Prop) (E:Value→Shared→Prop),Q (.int (g i j) s.toks) { s with toks:=s.toks + 1 }→wpAny (model X.prog X.w) X.A (f (.int i t) (.int j u)) Q E s) :
 OpR X f (rI0 fun i j=>.int (g i j)):=by
 intro pins s σ H x y v u Q I rx ry h
 obtain ⟨i,j,rfl,rfl,q⟩:=h
 obtain ⟨t,rfl⟩:=rx
 obtain ⟨t',rfl⟩:=ry
 exact rule i j t t' s _ _ ⟨.int (g i j),H,I.tok _,⟨_,rfl⟩,q⟩
theorem Cy {f:Value→Value→Sem Value} {g:Int→Int→Bool}
 (rule:∀ (i j:Int) (t u:Tok) (s:Shared) (Q:Value→Shared→Prop) (E:Value→Shared→Prop),Q (.bool (g i j)) s→wpAny (model X.prog X.w) X.A (f (.int i t) (.int j u)) Q E s) :
 OpR X f (rI0 fun i j=>.bl (g i j)):=by
 intro pins s σ H x y v u Q I rx ry h
 obtain ⟨i,j,rfl,rfl,q⟩:=h
 obtain ⟨t,rfl⟩:=rx
 obtain ⟨t',rfl⟩:=ry
 exact rule i j t t' s _ _ ⟨.bl (g i j),H,I,rfl,q⟩
def Hh (i j:Int):Prop:=0 ≤ j∧j ≤ 1000000∧i.natAbs < 2 ^ 64
theorem fL:OpR X (binaryOp .Add) (rI0 fun i j=>.int (i + j)):=Kc fun _ _ _ _ _ _ _ q=>add_int q
theorem zG:OpR X (binaryOp .Sub) (rI0 fun i j=>.int (i - j)):=Kc fun _ _ _ _ _ _ _ q=>sub_int q
theorem jE:OpR X (binaryOp .Mod) (rI (fun _ j=>j ≠ 0) fun i j=>.int (i.fmod j)):=opI fun _ _ _ _ _ _ _ hc q=>mod_int' hc q
theorem Hi:OpR X (binaryOp .Pow) (rI Hh fun i j=>.int (i ^ j.toNat)):=opI fun _ _ _ _ _ _ _ hc q=>pow_int_small hc.1 hc.2.1 hc.2.2 q
theorem unI {f:Value→Sem Value} {g:Int→Int}
 (rule:∀ (i:Int) (t:Tok) (s:Shared) (Q:Value→Shared→Prop) (E:Value→Shared→Prop),Q (.int (g i) s.toks) { s with toks:=s.toks + 1 }→wpAny (model X.prog X.w) X.A (f (.int i t)) Q E s) :
 UnR X f (rU fun i=>.int (g i)):=by
 intro pins s σ H x v Q I rx h
 obtain ⟨i,rfl,q⟩:=h
 obtain ⟨t,rfl⟩:=rx
 exact rule i t s _ _ ⟨.int (g i),H,I.tok _,⟨_,rfl⟩,q⟩
theorem Hj:UnR X (unaryOp .USub) (rU fun i=>.int (-i)):=unI fun _ _ _ _ _ q=>neg_int q
end
section
variable {X:Cx} {a b c:Expr} {ta tb tc:TE} {pos:Pos}
theorem zH:OpR X (compareOp .Lt) (rI0 fun i j=>.bl (decide (i < j))):=Cy fun _ _ _ _ _ _ _ q=>lt_int q
theorem Ke:OpR X (compareOp .LtE) (rI0 fun i j=>.bl (decide (i ≤ j))):=Cy fun _ _ _ _ _ _ _ q=>le_int q
theorem rO:OpR X (compareOp .Gt) (rI0 fun i j=>.bl (decide (j < i))):=Cy fun _ _ _ _ _ _ _ q=>gt_int q
theorem Gg:OpR X (compareOp .GtE) (rI0 fun i j=>.bl (decide (j ≤ i))):=Cy fun _ _ _ _ _ _ _ q=>ge_int q
theorem fM (b:Expr) {op:CmpOp} (h:op ≠ .In:=by decide) (h2:op ≠ .NotIn:=by decide):behindInMarks op b=false:=by
 have e1:(op == CmpOp.In)=false:=by cases op <;> first | rfl | exact absurd rfl h
 have e2:(op == CmpOp.NotIn)=false:=by cases op <;> first | rfl | exact absurd rfl h2
 cases b <;> simp [behindInMarks,e1,e2]
def Kf (t:TE):TT:=fun σ H Q=>t σ H fun x H'=>∃ k,x = .bl k∧Q k H'
theorem Cz {op:CmpOp} {r:R2} (ho:OpR X (compareOp op) r) (ha:PE X a ta) (hb:PE X b tb) (hm:behindInMarks op b=false):PT X (.Compare a [op] [b] pos) (Kf (tOp r ta tb)):=by
 intro pins s σ H Q I h
 refine wpAny_isTrue_Compare1 (thn (ha pins s σ H _ I h) fun v s1 ⟨x,H1,I1,r1,q1⟩=>thn (hb pins s1 σ H1 _ I1 q1) fun u s2 ⟨y,H2,I2,r2,q2⟩ =>
  thn (ho pins s2 σ H2 x y v u _ I2 r1 r2 q2) fun c s3 ⟨z,H3,I3,r3,k,e,q3⟩=>?_) hm
 subst e
 cases r3
 exact wpAny_truthy_bool ⟨H3,I3,q3⟩
def Hl (r r':R2) (ta tb tc:TE):TE:=fun σ H Q=>ta σ H fun x H1=>tb σ H1 fun y H2=>r x y H2 fun z H3=>∃ k,z = .bl k ∧
 (if k=true then tc σ H3 fun w' H4=>r' y w' H4 Q else Q (.bl false) H3)
theorem zJ {op op':CmpOp} {r r':R2} (ho:OpR X (compareOp op) r) (ho':OpR X (compareOp op') r') (ha:PE X a ta) (hb:PE X b tb) (hc:PE X c tc)
 (hm:lastMarks [op,op'] [b,c]=false:=by with_unfolding_all rfl):PE X (.Compare a [op,op'] [b,c] pos) (Hl r r' ta tb tc):=by
 intro pins s σ H Q I h
 refine Compare_chain (thn (ha pins s σ H _ I h) fun v s1 ⟨x,H1,I1,r1,q1⟩=>chain_link (thn (hb pins s1 σ H1 _ I1 q1) fun u s2 ⟨y,H2,I2,r2,q2⟩ =>
  thn (ho pins s2 σ H2 x y v u _ I2 r1 r2 q2) fun d s3 ⟨z,H3,I3,r3,k,e,q3⟩=>?_)) hm
 subst e
 cases r3
 refine wpAny_truthy_bool ?_
 cases k with
 | false=>exact ite_ff ⟨.bl false,H3,I3,rfl,q3⟩
 | true=>exact ite_tt (chain_last (thn (hc pins s3 σ H3 _ I3 q3) fun w' s4 ⟨z',H4,I4,r4,q4⟩=>ho' pins s4 σ H4 y z' u w' Q I4 r2 r4 q4))
theorem tK:(sizeLine:Nat) < 2 ^ 63:=by rw [sizeLine_eq];decide
theorem vals1 {x:V} {us:List Value} (r:Vals [x] us):∃ u,us=[u]∧RelV x u:=by
 cases r with
 | cons r1 r2=>cases r2;exact ⟨_,rfl,r1⟩
theorem vals2 {x y:V} {us:List Value} (r:Vals [x,y] us):∃ u w',us=[u,w']∧RelV x u∧RelV y w':=by
 cases r with
 | cons r1 r2 =>
  cases r2 with
  | cons r3 r4=>cases r4;exact ⟨_,_,rfl,r1,r3⟩
theorem rP (hc:X.calm=true):nY X (.builtin "max") (fun xs H Q=>∃ i j,xs=[.int i,.int j]∧Q (.int (if j > i then j else i)) H):=by
 intro pins s σ H xs us Q I r h
 obtain ⟨i,j,rfl,q⟩:=h
 obtain ⟨u,w',rfl,⟨t,rfl⟩,⟨t',rfl⟩⟩:=vals2 r
 refine max_two_ints (I.ok.hd hc) fun h' tk k=>⟨_,H,I.kept k,?_,q⟩
 by_cases hj:j > i
 ·rw [if_pos hj,if_pos hj];exact ⟨_,rfl⟩
 ·rw [if_neg hj,if_neg hj];exact ⟨_,rfl⟩
theorem oX (hc:X.calm=true):nY X (.builtin "min") (fun xs H Q=>∃ i j,xs=[.int i,.int j]∧Q (.int (if j < i then j else i)) H):=by
 intro pins s σ H xs us Q I r h
 obtain ⟨i,j,rfl,q⟩:=h
 obtain ⟨u,w',rfl,⟨t,rfl⟩,⟨t',rfl⟩⟩:=vals2 r
 refine min_two_ints (I.ok.hd hc) fun h' tk k=>⟨_,H,I.kept k,?_,q⟩
 by_cases hj:j < i
 ·rw [if_pos hj,if_pos hj];exact ⟨_,rfl⟩
 ·rw [if_neg hj,if_neg hj];exact ⟨_,rfl⟩
theorem xW:nY X (.type "int") (fun xs H Q=>(∃ i,xs=[.int i]∧Q (.int i) H)∨∃ k,xs=[.bl k]∧Q (.int (if k then 1 else 0)) H):=by
 intro pins s σ H xs us Q I r h
 rcases h with ⟨i,rfl,q⟩ | ⟨k,rfl,q⟩
 ·obtain ⟨u,rfl,t,rfl⟩:=vals1 r
  exact call_int_int ⟨.int i,H,I,⟨_,rfl⟩,q⟩
 ·obtain ⟨u,rfl,r1⟩:=vals1 r
  cases r1
  exact call_int_bool ⟨.int (if k then 1 else 0),H,I.tok _,⟨_,rfl⟩,q⟩
end
end L2
namespace L2
open PySem PySem.Spec PyProof.Rows
structure ObjM (h:Heap) (x dx C:Addr) (mA:Str→Option Value):Prop where
 obj:h.get? x=some (PySem.W.instObj C dx)
 ns:h.Ns1 dx mA
 ne:dx ≠ x
section
variable {prog:Program} {w:World} {A:Around} {E:Value→Shared→Prop} {s:Shared} {K:PySem.W.Frag} {x dx C f:Addr} {mA:Str→Option Value} {name:Str} {v:Value}
end
section
variable {P:Program} {w:World} {H H':Hp} {h h':Heap} {a C dx:Addr} {fs fs':List (Str × V)}
end
structure Cls (K:PySem.W.Frag) (C:Addr):Prop where
 pg:PySem.W.plainGet K C Str.empty=true
 hd:PySem.W.hasDictIn K C=true
 po:PySem.W.plainOver K C=true
 sa:PySem.W.findIn K (.ref C) "__setattr__" = some (some (.builtin "object.__setattr__"))
structure Con (K:PySem.W.Frag) (C:Addr) (f:Str) (v:V) (u:Value):Prop where
 at_:PySem.W.findIn K (.ref C) f=some (some u)
 rel:RelV v u
 get:PySem.W.specialIn K u "__get__" = some none
 cp:PySem.W.copiedNames.contains f=false
structure Meth (K:PySem.W.Frag) (C:Addr) (m:Str) (f:Addr):Prop where
 at_:PySem.W.findIn K (.ref C) m=some (some (.ref f))
 fn:PySem.W.isFn K (.ref f)=true
 kp:PySem.W.keepIn K (.ref f)=true
section
variable {X:Cx} {pins:List (Addr × Obj)} {σ:St} {H:Hp} {s:Shared} {a C dx:Addr} {fs:List (Str × V)} {f:Str} {v:V} {A:Around} {E:Value→Shared→Prop}
theorem Inv.made (I:Inv X pins σ H s):Inv X pins σ (upd (upd H s.heap.objs.size (.own (s.heap.objs.size + 1))) (s.heap.objs.size + 1) (.ins C s.heap.objs.size []))
 { s with heap:=(s.heap.push PySem.W.emptyDict).push (PySem.W.instObj C s.heap.objs.size) }:=by
 have e1:(s.heap.push PySem.W.emptyDict).get? s.heap.objs.size=some PySem.W.emptyDict:=Heap.get?_push_size s.heap rfl
 have e2:((s.heap.push PySem.W.emptyDict).push (PySem.W.instObj C s.heap.objs.size)).get? (s.heap.objs.size + 1)=some (PySem.W.instObj C s.heap.objs.size):=by
  have:=Heap.get?_push_size (s.heap.push PySem.W.emptyDict) (o:=PySem.W.instObj C s.heap.objs.size) rfl
  rwa [Heap.size_push] at this
 have e3:(s.heap.push PySem.W.emptyDict).Ns s.heap.objs.size (fun _=>none):=⟨PySem.W.emptyDict,#[],_,e1,rfl,(fun e he=>absurd he (by simp)),fun _=>rfl⟩
 have I1:=I.laid (a:=s.heap.objs.size) (o:=.own (s.heap.objs.size + 1)) (h':=s.heap.push PySem.W.emptyDict) (t':=s.toks) (fun b u q=>Heap.get?_push_of_some _ q) (aO _) ⟨_,e1⟩
 refine I1.laid (a:=s.heap.objs.size + 1) (o:=.ins C s.heap.objs.size []) (t':=s.toks) (fun b u q=>Heap.get?_push_of_some _ q) (nJ (Heap.size_push _ _)) ?_
 have ne:s.heap.objs.size ≠ s.heap.objs.size + 1:=bI (kj _)
 refine ⟨by rw [dg ne,fD],d9 _,ne,e2,fun _=>none,(Heap.Ns1.of_empty e3).at fun o q=>Heap.get?_push_of_some _ q,fun _=>True.intro,fun y hy=>absurd rfl hy⟩
end
section
variable {X:Cx} {o e value:Expr} {f:Str} {pos pos' tpos:Pos} {ta tv:TE}
end
section
variable {X:Cx} {pins:List (Addr × Obj)} {σ:St} {H:Hp} {s:Shared} {A:Around} {E:Value→Shared→Prop} {Q:Value→Shared→Prop} {c:Value} {b:Bool}
inductive TyOf (K:PySem.W.Frag) (H:Hp):V→Value→Prop where
 | non:TyOf K H .non (.type "NoneType")
 | bl (x:Bool):TyOf K H (.bl x) (.type "bool")
 | int (i:Int):TyOf K H (.int i) (.type "int")
 | str (x:Str):TyOf K H (.str x) (.type "str")
 | flt (x:UInt64):TyOf K H (.flt x) (.type "float")
 | lst {a:Addr} {xs:List V} (e:H a=some (.lst xs)):TyOf K H (.ref a) (.type "list")
 | frz {a:Addr} {o:Obj} {xs:List V} (e:H a=some (.frz o (.lst xs))):TyOf K H (.ref a) (.type "list")
 | tup {a:Addr} {xs:List V} (e:H a=some (.tup xs)):TyOf K H (.ref a) (.type "tuple")
 | dK {a:Addr} {kvs:List (Key × V)} (e:H a=some (.dK kvs)):TyOf K H (.ref a) (.type "dict")
 | dT {a:Addr} {kvs:List (List Key × V)} (e:H a=some (.dT kvs)):TyOf K H (.ref a) (.type "dict")
 | ins {a C dx:Addr} {fs:List (Str × V)} (e:H a=some (.ins C dx fs)) (cl:Cls K C) (ha:PySem.W.findIn K (.ref C) "__class__" = some (some (.builtin "object.__class__")))
  (hn:PySem.W.specialIn K (.builtin "object.__class__") "__get__" = some (some (.builtin "getset_descriptor.__get__"))) (htk:PySem.W.takesIn K (.builtin "object.__class__")=some true)
  (hm:PySem.W.mroIn K C (.type "object")=some true):TyOf K H (.ref a) (.ref C)
end
end L2
namespace L2
open PySem PySem.Spec PyProof.Rows
structure Room (k:Nat) (A:Around):Prop where
 hd:A.handled=none
 dp:A.depth + 3 * k + 5 < recursionLimit
 un:A.units + 16 * k + 200 < cLine
theorem Room.mono {j k:Nat} {A:Around} (r:Room k A) (h:j ≤ k):Room j A:=⟨r.hd,by have:=r.dp;omega,by have:=r.un;omega⟩
theorem Room.deeper {k:Nat} {A:Around} (r:Room (k + 1) A) (env:Env):Room k (A.deeper env) :=
 ⟨r.hd,by have:=r.dp;show A.depth + 1 + 3 * k + 5 < _;omega,by have:=r.un;show A.units + 3 + 16 * k + 200 < _;omega⟩
theorem Room.depth {k:Nat} {A:Around} (r:Room k A):A.depth < recursionLimit:=by have:=r.dp;omega
theorem Room.units {k:Nat} {A:Around} (r:Room k A):A.units + 64 < cLine:=by have:=r.un;omega
def Nq:TA:=fun _ H Q=>Q [] H
def Kg (ta:TE) (tr:TA):TA:=fun σ H Q=>ta σ H fun x H1=>tr σ H1 fun xs H2=>Q (x :: xs) H2
section
variable {X:Cx} {e:Expr} {es:List Expr} {te:TE} {t:TA} {pos:Pos}
theorem zK:PA X [] Nq:=fun _ _ _ _ H Q I h=>Calls.spliced_nil ⟨[],H,I,.nil,h⟩
theorem tL (ha:PE X e te) (hr:PA X es t) (hs:starEach (e :: es) X.env=(false,eval e X.env) :: starEach es X.env:=by rfl):PA X (e :: es) (Kg te t):=by
 intro pos pins s σ H Q I h
 rw [hs]
 show wpAny _ _ (spliced ((false,eval e X.env) :: backTo pos (starEach es X.env))) _ _ s
 refine Calls.spliced_cons (thn (ha pins s σ H _ I h) fun u s1 ⟨x,H1,I1,r1,q1⟩=>?_)
 exact thn (hr pos pins s1 σ H1 _ I1 q1) fun us s2 ⟨xs,H2,I2,r2,q2⟩=>⟨x :: xs,H2,I2,.cons r1 r2,q2⟩
def Nr (t:TA):TE:=fun σ H Q=>t σ H fun xs H1=>xs.length ≤ sizeLine∧∀ p,H1 p=none→Q (.ref p) (upd H1 p (.tup xs))
def Nt (t:TA):TE:=fun σ H Q=>t σ H fun xs H1=>xs.length ≤ sizeLine∧∀ p,H1 p=none→Q (.ref p) (upd H1 p (.lst xs))
theorem Ho {x1} (h:PA X es t):PE X (.Tuple es x1 pos) (Nr t):=by
 intro pins s σ H Q I hq
 refine wpAny_Tuple_spliced (thn (h pos pins s σ H _ I hq) fun us s1 ⟨xs,H1,I1,r,z,q⟩=>⟨by rw [← r.length];exact z,?_⟩)
 have hf:H1 s1.heap.objs.size=none:=I1.hok.fresh (aO _)
 refine ⟨.ref s1.heap.objs.size,upd H1 s1.heap.objs.size (.tup xs),I1.laid (t':=s1.toks) (fun b u e=>Heap.get?_push_of_some _ e) (aO _) ?_,rfl,q _ hf⟩
 exact ⟨z,us,r,⟨_,Heap.get?_push_size _ rfl,rfl,_,rfl⟩⟩
theorem zL (h:PA X es t):PE X (.List es pos) (Nt t):=by
 intro pins s σ H Q I hq
 refine wpAny_List_spliced (thn (h pos pins s σ H _ I hq) fun us s1 ⟨xs,H1,I1,r,z,q⟩=>⟨by rw [← r.length];exact z,?_⟩)
 have hf:H1 s1.heap.objs.size=none:=I1.hok.fresh (aO _)
 refine ⟨.ref s1.heap.objs.size,upd H1 s1.heap.objs.size (.lst xs),I1.laid (t':=s1.toks) (fun b u e=>Heap.get?_push_of_some _ e) (aO _) ?_,rfl,q _ hf⟩
 exact ⟨z,us,0,r,Heap.get?_push_size _ rfl⟩
end
abbrev Sp:=List V→Hp→VK→XK→Prop
abbrev CXT:=List Env→Hp→Shared→XK→Value→Shared→Prop
structure Env0 (P:Program) (w:World) (K:PySem.W.Frag) (mg:Str→Option Value) (base:Heap) (A:Around) (outer:List Env) (s:Shared) (H:Hp):Prop where
 frames:A.frames=some outer
 mod:Mod K mg base
 bs:∀ b o,base.get? b=some o→s.heap.get? b=some o∧H b=none
 bsz:base.objs.size ≤ s.heap.objs.size
 funs:s.heap.FunFrames base outer
 frf:∀ b ∈ frs outer,H b=none
 hok:HOk P w H s.heap
 bare:AllBare s.gens
def CE (outer:List Env) (P:Program) (w:World) (H:Hp) (s:Shared) (Q:VK) (u:Value) (s':Shared):Prop :=
 ∃ v H',s'.os=s.os∧AllBare s'.gens∧Un (frs outer) [] H H' s.heap s'.heap∧HOk P w H' s'.heap∧RelV v u∧Q v H'
def CR (CX:CXT) (outer:List Env) (P:Program) (w:World) (H:Hp) (s:Shared) (Q:VK) (E:XK) (r:Result) (s':Shared):Prop :=
 match r with
 | .ok (.ret u)=>CE outer P w H s Q u s'
 | .ok _=>False
 | .error e=>CX outer H s E e s'
structure FnOk (P:Program) (w:World) (K:PySem.W.Frag) (mg:Str→Option Value) (base:Heap) (CX:CXT) (k:Nat) (f:Addr) (fd:FuncData) (ps:List Str) (sp:Sp):Prop where
 len:∀ vs H Q E,sp vs H Q E→vs.length=ps.length
 run:∀ (A:Around) (outer:List Env) (s:Shared) (H:Hp) (args:Args) (us:List Value) (vs:List V) (Q:VK) (E:XK),Room k A→Env0 P w K mg base A outer s H→BindsTo s fd args (ps.zip us)→Vals vs us→sp vs H Q E →
  codeAny (model P w) A (.call (.ref f) args) (CR CX outer P w H s Q E) s
theorem FnOk.mono {P:Program} {w:World} {K:PySem.W.Frag} {mg:Str→Option Value} {base:Heap} {CX:CXT} {j k:Nat} {f:Addr} {fd:FuncData} {ps:List Str} {sp:Sp} (F:FnOk P w K mg base CX j f fd ps sp) (h:j ≤ k) :
 FnOk P w K mg base CX k f fd ps sp:=⟨F.len,fun A outer s H args us vs Q E hr=>F.run A outer s H args us vs Q E (hr.mono h)⟩
theorem FnOk.imp {P:Program} {w:World} {K:PySem.W.Frag} {mg:Str→Option Value} {base:Heap} {CX:CXT} {k:Nat} {f:Addr} {fd:FuncData} {ps:List Str} {sp sp':Sp} (F:FnOk P w K mg base CX k f fd ps sp)
 (h:∀ vs H Q E,sp' vs H Q E→sp vs H Q E):FnOk P w K mg base CX k f fd ps sp' :=
 ⟨fun vs H Q E q=>F.len vs H Q E (h _ _ _ _ q),fun A outer s H args us vs Q E hr he hb hv hs=>F.run A outer s H args us vs Q E hr he hb hv (h _ _ _ _ hs)⟩
section
variable {X:Cx} {pins:List (Addr × Obj)} {σ:St} {H:Hp} {s s':Shared}
theorem Inv.env0 (I:Inv X pins σ H s):Env0 X.prog X.w X.K X.mg X.base X.A X.stack s H :=
 ⟨I.ok.frames,I.ok.mod,I.bs,bU I.ok.bsz I.sz,I.stack,I.stkFree,I.hok,I.bare⟩
theorem Inv.after {Q:VK} {u:Value} (I:Inv X pins σ H s) (h:CE X.stack X.prog X.w H s Q u s'):EP X pins σ Q u s':=by
 obtain ⟨v,H',os,bare,un,hok,r,q⟩:=h
 obtain ⟨hh,g,d,t,os'⟩:=s'
 obtain rfl:os'=s.os:=os
 exact ⟨v,H',I.call (h':=hh) (g':=g) (d':=d) (t':=t) (ch:=[]) un hok bare (fun b z=>absurd z (by simp)),r,q⟩
end
def Gi (sp:Sp) (dvs:List V) (E:XK) (t:TA):TE:=fun σ H Q=>t σ H fun vs H1=>sp (vs++dvs) H1 Q E
def Binds (K:PySem.W.Frag) (fd:FuncData) (ps:List Str) (ds:List Value):Prop :=
 ∀ (s:Shared) (us:List Value),K.In s.heap→(us++ds).length=ps.length→BindsTo s fd ⟨us,[]⟩ (ps.zip (us++ds))
theorem Binds.all {K:PySem.W.Frag} {fd:FuncData} {ps:List Str} (h:∀ us:List Value,us.length=ps.length→bindArgs fd ⟨us,[]⟩=pure (ps.zip us)):Binds K fd ps []:=fun s us _ hl=>by
 rw [cX] at hl ⊢
 exact .of_eq (h us hl)
def Passes (CX:CXT) (X:Cx) (E:XK):Prop:=∀ (pins:List (Addr × Obj)) (σ:St) (H:Hp) (s:Shared) (e:Value) (s':Shared),Inv X pins σ H s→CX X.stack H s E e s'→X.xe e s'
section
variable {X:Cx} {CX:CXT} {k:Nat} {f C:Addr} {fd:FuncData} {ps:List Str} {sp:Sp} {dvs:List V} {ds:List Value} {E:XK} {x m:Str} {p pos apos:Pos} {e o:Expr} {es:List Expr} {ta:TE} {t:TA}
theorem Hq {pins:List (Addr × Obj)} {σ:St} {H:Hp} {s:Shared} {Q:VK} {us:List Value} {vs:List V} (F:FnOk X.prog X.w X.K X.mg X.base CX k f fd ps sp) (hr:Room k X.A) (hb:Binds X.K fd ps ds) (hd:Vals dvs ds) (hx:Passes CX X E)
 (I:Inv X pins σ H s) (r:Vals vs us) (h:sp (vs++dvs) H Q E):wpAny (model X.prog X.w) X.A (call (.ref f) us) (EP X pins σ Q) X.xe s:=by
 have r2:Vals (vs++dvs) (us++ds):=r.append hd
 have hl:(us++ds).length=ps.length:=by rw [← r2.length];exact F.len _ _ _ _ h
 refine wpAny_call (codeAny_mono (F.run X.A X.stack s H ⟨us,[]⟩ (us++ds) (vs++dvs) Q E hr I.env0 (hb s us I.kIn hl) r2 h) fun r s' hq=>?_)
 cases r with
 | error e=>exact hx pins σ H s e s' I hq
 | ok fl =>
  cases fl with
  | ret u=>exact I.after hq
  | next=>exact False.elim hq
  | brk=>exact False.elim hq
  | cont=>exact False.elim hq
theorem wF (F:FnOk X.prog X.w X.K X.mg X.base CX k f fd ps sp) (hr:Room k X.A) (hg:Gl X x) (hm:X.mg x=some (.ref f)) (hk:PySem.W.keepIn X.K (.ref f)=true) (hb:Binds X.K fd ps ds) (hd:Vals dvs ds) (hx:Passes CX X E)
 (ha:PA X (e :: es) t) (hdb:(x == ("__debug__" : Str))=false:=by decide) (he:starEach (e :: es) X.env=(false,eval e X.env) :: starEach es X.env:=by rfl) (hpl:(backTo pos (starEach es X.env)).any (·.1)=false:=by rfl) :
 PE X (.Call (.Name x p) (e :: es) [] pos) (Gi sp dvs E t):=by
 intro pins s σ H Q I h
 refine wpAny_Call_Name_kw (Cm I hg hm ?_ hdb)
 refine PySem.W.callWith_K (h₀:=X.base) I.ok.mod.kin hk (thn (ha pos pins s σ H _ I h) fun us s1 ⟨vs,H1,I1,r,q⟩=>⟨I1.kIn,?_⟩) he hpl
 exact Hq F hr hb hd hx I1 r q
structure Mk (K:PySem.W.Frag) (C f:Addr):Prop where
 makes:PySem.W.makesIn K C=true
 init:PySem.W.findIn K (.ref C) "__init__" = some (some (.ref f))
 fn:PySem.W.isFn K (.ref f)=true
 kp:PySem.W.keepIn K (.ref C)=true
end
section
variable {X:Cx} {CX:CXT} {k:Nat} {f C:Addr} {fd:FuncData} {ps ks:List Str} {sp:Sp} {E:XK} {x m:Str} {p pos apos kpos:Pos} {e o:Expr} {es:List Expr} {kws:List Keyword} {te ta:TE} {t tk:TA} {nm:Option Str}
structure KBinds (K:PySem.W.Frag) (fd:FuncData) (ps ks:List Str) (g:List Value→List Value→List Value) (gV:List V→List V→List V):Prop where
 to:∀ (s:Shared) (us ws:List Value),K.In s.heap→(g us ws).length=ps.length→BindsTo s fd ⟨us,ks.zip ws⟩ (ps.zip (g us ws))
 rel:∀ {vs:List V} {us:List Value} {zs:List V} {ws:List Value},Vals vs us→Vals zs ws→Vals (gV vs zs) (g us ws)
variable {g:List Value→List Value→List Value} {gV:List V→List V→List V}
end
structure FnScope (N P:List Str) (sc:Scope):Prop where
 kind:sc.kind = .function
 co:sc.isCoroutine=false
 gen:sc.isGenerator=false
 nd:N.Nodup
 pre:N.take P.length=P
 par:∀ x ∈ P,sc.names.lookup x=some .local∨sc.names.lookup x=some .cell
 nofree:∀ y ∈ sc.names,y.2 ≠ .free
theorem rQ {kindOf:Str→Option NameKind} {x:Str}:∀ {binds:List (Str × Value)} {m:Str→Option Value},(∀ v,(x,v) ∉ binds)→bindL kindOf binds m x=m x
 | [],_,_=>rfl
 | (n,v) :: r,m,h=>by
  unfold bindL
  rw [rQ fun w hw=>h w (aN _ hw)]
  split
  ·have:x ≠ n:=by rintro rfl;exact h v aM
   simp [this]
  ·rfl
theorem rR {kindOf:Str→Option NameKind} {x:Str}:∀ {binds:List (Str × Value)} {m:Str→Option Value},(∀ v,(x,v) ∉ binds)→bindC kindOf binds m x=m x
 | [],_,_=>rfl
 | (n,v) :: r,m,h=>by
  unfold bindC
  rw [rR fun w hw=>h w (aN _ hw)]
  split
  ·rfl
  ·have:x ≠ n:=by rintro rfl;exact h v aM
   simp [this]
theorem rT {kindOf:Str→Option NameKind} {x:Str} {v:Value}:∀ {P:List Str} {vs:List Value} {i:Nat} {m:Str→Option Value},P.Nodup→P[i]? = some x→vs[i]? = some v→kindOf x=some .local →
 bindL kindOf (P.zip vs) m x=some v
 | [],_,_,_,_,h,_,_=>by simp at h
 | _ :: _,[],_,_,_,_,h,_=>by simp at h
 | p :: P,w :: vs,0,m,nd,h1,h2,hk=>by
  simp at h1 h2;subst h1;subst h2
  show bindL kindOf ((p,w) :: P.zip vs) m p=_
  unfold bindL
  rw [rQ fun v hv=>(iy.mp nd).1 (lN hv).1,if_pos hk]
  simp
 | p :: P,w :: vs,i + 1,m,nd,h1,h2,hk=>by
  show bindL kindOf ((p,w) :: P.zip vs) m x=_
  unfold bindL
  exact rT (i:=i) (iy.mp nd).2 (by simpa using h1) (by simpa using h2) hk
theorem rW {kindOf:Str→Option NameKind} {x:Str} {v:Value}:∀ {P:List Str} {vs:List Value} {i:Nat} {m:Str→Option Value},P.Nodup→P[i]? = some x→vs[i]? = some v→kindOf x ≠ some .local →
 bindC kindOf (P.zip vs) m x=some v
 | [],_,_,_,_,h,_,_=>by simp at h
 | _ :: _,[],_,_,_,_,h,_=>by simp at h
 | p :: P,w :: vs,0,m,nd,h1,h2,hk=>by
  simp at h1 h2;subst h1;subst h2
  show bindC kindOf ((p,w) :: P.zip vs) m p=_
  unfold bindC
  rw [rR fun v hv=>(iy.mp nd).1 (lN hv).1,if_neg hk]
  simp
 | p :: P,w :: vs,i + 1,m,nd,h1,h2,hk=>by
  show bindC kindOf ((p,w) :: P.zip vs) m x=_
  unfold bindC
  exact rW (i:=i) (iy.mp nd).2 (by simpa using h1) (by simpa using h2) hk
def start (N:List Str) (vs:List V):St:=vs.map some++aR (N.length - vs.length) none
def vG (CX:CXT) (P:Program) (w:World) (K:PySem.W.Frag) (mg:Str→Option Value) (base:Heap) (N:List Str) (qual:Str) (scope:Scope) (f:Addr) (cd:Value) (A:Around) (outer:List Env) (s:Shared) (H:Hp) (E:XK):Cx where
 prog:=P
 w:=w
 K:=K
 mg:=mg
 base:=base
 A:=A.deeper (envOfC qual scope s.heap.objs.size f cd)
 N:=N
 s₀:=s
 H₀:=H
 env:=envOfC qual scope s.heap.objs.size f cd
 outer:=outer
 stack:=envOfC qual scope s.heap.objs.size f cd :: outer
 ex:=[]
 calm:=true
 fn:=fun _=>true
 pn:=[]
 xe:=fun e s'=>wpAny (model P w) (A.deeper (envOfC qual scope s.heap.objs.size f cd)) (leaving (envOfC qual scope s.heap.objs.size f cd) e) (fun _ s''=>CX outer H s E e s'') (fun e' s''=>CX outer H s E e' s'') s'
theorem uH {sc:Scope} {n:Nat} {x:Str} (h:sc.names.lookup x=some .cell):∃ c,(cellsFrom n sc.names []).lookup x=some c:=by
 have q:=PySem.W.cellsFrom_some sc.names n [] (.inl h)
 exact Option.isSome_iff_exists.mp q
theorem xX {CX:CXT} {P:Program} {w:World} {K:PySem.W.Frag} {mg:Str→Option Value} {base:Heap} {N ps:List Str} {qual:Str} {scope:Scope} {f:Addr} {cd:Value} {A:Around} {outer:List Env} {s s1:Shared} {H:Hp} {E:XK} {us:List Value} {vs:List V}
 (S:FnScope N ps scope) (hd:A.handled=none) (e0:Env0 P w K mg base A outer s H) (hl:vs.length=ps.length) (r:Vals vs us)
 (x:InCallC s s.heap.objs.size (bindL (envOfC qual scope s.heap.objs.size f cd).kindOf (ps.zip us) fun _=>none) (cellsFrom (s.heap.objs.size + 1) scope.names []) (bindC (envOfC qual scope s.heap.objs.size f cd).kindOf (ps.zip us) fun _=>none) s1) :
 Inv (vG CX P w K mg base N qual scope f cd A outer s H E) [] (start N vs) H s1:=by
 have hpl:ps.length ≤ N.length:=by have:=congrArg List.length S.pre;rw [bZ] at this;omega
 obtain ⟨h1,tk,rfl,hk⟩:=x.done
 have noA:∀ b:Addr,b ∉ (vG CX P w K mg base N qual scope f cd A outer s H E).ex:=fun b z=>absurd (show b ∈ ([]:List Addr) from z) (by simp)
 refine ⟨⟨e0.mod,S.kind,rfl,rfl,aO _,fun y z c h1 h2=>?_,fun y hy=>?_,fun y c _ h=>?_,fun _=>hd,Around.frames_deeper e0.frames,.inr ⟨rfl,rfl⟩,fun b z=>absurd z (noA b),e0.bs,e0.bsz,fun b _ _=>noA b,fun b z=>absurd z (noA b),e0.funs,e0.frf⟩,
  rfl,e0.bare,Un.kept hk,⟨_,x.toInCall.ns,fun i y v h1 h2 h3=>?_⟩,fun y c h=>⟨_,x.cell y c h⟩,e0.hok.fresh (aO _),fun y c h=>?_,fun p hp=>absurd (show p ∈ ([]:List (Addr × Obj)) from hp) (by simp),e0.hok.kept hk,?_⟩
 ·exact name_of_addr x.apart (PySem.mem_of_lookup h1) (PySem.mem_of_lookup h2)
 ·have hy:scope.names.lookup y=some .cell∨scope.names.lookup y=some .free:=hy
  rcases hy with hy | hy
  ·exact uH hy
  ·exact absurd rfl (S.nofree _ (PySem.mem_of_lookup hy))
 ·exact dJ (x.above y c (PySem.mem_of_lookup h))
 ·have hi:i < vs.length:=by
   unfold start at h2
   by_cases hi:i < vs.length
   ·exact hi
   ·rw [bK (by simpa using hi)] at h2
    rw [cZ] at h2
    split at h2 <;> cases h2
  have ha:vs[i]? = some v:=by
   unfold start at h2
   rw [bM (by simpa using hi),aZ] at h2
   cases e:vs[i]? with
   | none=>rw [e] at h2;cases h2
   | some a=>rw [e] at h2;cases h2;rfl
  obtain ⟨u,hu,rv⟩:=r.get ha
  have hp:ps[i]? = some y:=by
   rw [← S.pre,j_ (by omega)];exact h1
  have ndP:ps.Nodup:=by rw [← S.pre];exact S.nd.sublist (nM _ _)
  refine ⟨u,rv,?_⟩
  rcases S.par y (gO hp) with k | k
  ·exact .inl ⟨k,rT ndP hp hu k⟩
  ·obtain ⟨c,e⟩:=uH (n:=s.heap.objs.size + 1) k
   refine .inr ⟨.inl k,c,e,?_⟩
   have q:=x.cell y c e
   rw [rW ndP hp hu (by show scope.names.lookup y ≠ _;rw [k];decide)] at q
   exact q
 ·exact e0.hok.fresh (dJ (x.above y c (PySem.mem_of_lookup h)))
 ·unfold start
  show _=N.length
  rw [aP,aH,bx]
  omega
theorem Kh {CX:CXT} {P:Program} {w:World} {K:PySem.W.Frag} {mg:Str→Option Value} {base:Heap} {k:Nat} {f:Addr} {name qual:Str} {params:Arguments} {body:List Stmt} {scope:Scope} {dV kV doc pm cdv ct oc:Value} {an od:Option Addr}
 {osl:Array (Option Value)} {N ps:List Str} {sp:Sp} (lk:K.lookup f=some ⟨oc,od,.func (PySem.W.fnOf name qual params body scope dV kV doc pm an cdv ct),osl⟩) (hcd:PySem.W.codeIn K cdv qual=true) (S:FnScope N ps scope)
 (len:∀ vs H Q E,sp vs H Q E→vs.length=ps.length)
 (hbody:∀ (A:Around) (outer:List Env) (s:Shared) (H:Hp) (vs:List V) (Q:VK) (E:XK),Room k (A.deeper (envOfC qual scope s.heap.objs.size f cdv))→sp vs H Q E →
  ∃ t,PSs (vG CX P w K mg base N qual scope f cdv A outer s H E) body t∧t { nx:=fun _ H'=>Q .non H',rt:=Q } (start N vs) H) :
 FnOk P w K mg base CX (k + 1) f (PySem.W.fnOf name qual params body scope dV kV doc pm an cdv ct) ps sp:=by
 refine ⟨len,fun A outer s H args us vs Q E hr e0 hb r hsp=>?_⟩
 have hl:=len _ _ _ _ hsp
 have KX:K.In s.heap:=e0.mod.kin.keeps fun b o e=>(e0.bs b o e).1
 have lim:s.heap.NoLimit:=e0.mod.nolimit.keeps fun b o e=>(e0.bs b o e).1
 have hkind:∀ y ∈ ps.zip us,scope.names.lookup y.1=some .local∨(scope.names.lookup y.1=some .cell∧((cellsFrom (s.heap.objs.size + 1) scope.names []).lookup y.1).isSome=true):=fun ⟨n,v⟩ hy=>by
  rcases S.par n (lN hy).1 with q | q
  ·exact .inl q
  ·exact .inr ⟨q,PySem.W.cellsFrom_some _ _ _ (.inl q)⟩
 refine codeAny_call_function hr.depth (KX _ _ lk) rfl S.co S.gen rfl (PySem.W.codeRec_of KX hcd) (hb _ _ _ _ ?_)
 refine wpAny_newFunctionEnv_cells S.kind hkind fun env he s1 x=>?_
 subst he
 refine ⟨lim.keeps x.toInCall.keep,codeAny_func ?_⟩
 obtain ⟨t,ht,hq⟩:=hbody A outer s H vs Q E (hr.deeper _) hsp
 have I:Inv (vG CX P w K mg base N qual scope f cdv A outer s H E) [] (start N vs) H s1:=xX S hr.hd e0 hl r x
 refine wpAny_mono (ht [] s1 (start N vs) H _ I hq) (fun fl s' hs=>?_) fun e s' hs=>hs
 have fin:∀ {σ':St} {H':Hp} {v:V} {u:Value},Inv (vG CX P w K mg base N qual scope f cdv A outer s H E) [] σ' H' s'→RelV v u→Q v H'→CE outer P w H s Q u s' :=
  fun {σ' H' v u} J rv q=>⟨v,H',J.os,J.bare,J.base,J.hok,rv,q⟩
 cases fl with
 | ret u =>
  obtain ⟨v,σ',H',J,rv,q⟩:=hs
  exact fin J rv q
 | next =>
  obtain ⟨σ',H',J,q⟩:=hs
  exact fin (v:=V.non) (u:=Value.none) J rfl q
 | brk =>
  obtain ⟨_,_,_,q⟩:=hs
  exact False.elim q
 | cont =>
  obtain ⟨_,_,_,q⟩:=hs
  exact False.elim q
end L2
namespace L2
open PySem PySem.Spec PyProof.Rows
section
variable {X:Cx} {x:Str} {p pos:Pos} {e:Expr} {es:List Expr} {t:TA} {id T:String} {r:List V→Hp→VK→Prop}
def tCB (r:List V→Hp→VK→Prop) (t:TA):TE:=fun σ H Q=>t σ H fun vs H1=>r vs H1 Q
theorem uI (hc:nY X (.builtin id) r) (hg:Gl X x) (hm:X.mg x=none) (hv:bootBuiltins x=some (.builtin id)) (ha:PA X (e :: es) t) (hn:x ≠ "__name__" := by decide) (hdb:(x == ("__debug__" : Str))=false:=by decide)
 (he:starEach (e :: es) X.env=(false,eval e X.env) :: starEach es X.env:=by rfl) (hpl:(backTo pos (starEach es X.env)).any (·.1)=false:=by rfl):PE X (.Call (.Name x p) (e :: es) [] pos) (tCB r t):=by
 intro pins s σ H Q I h
 refine wpAny_Call_Name_kw (nu I hg hm hv ?_ hn hdb)
 exact PyProof.Rows.callWith_builtin1 (thn (ha pos pins s σ H _ I h) fun us s1 ⟨vs,H1,I1,r1,q1⟩=>hc pins s1 σ H1 vs us Q I1 r1 q1) he hpl
theorem xY (hc:nY X (.type T) r) (hg:Gl X x) (hm:X.mg x=none) (hv:bootBuiltins x=some (.type T)) (ha:PA X (e :: es) t) (hn:x ≠ "__name__" := by decide) (hdb:(x == ("__debug__" : Str))=false:=by decide)
 (he:starEach (e :: es) X.env=(false,eval e X.env) :: starEach es X.env:=by rfl) (hpl:(backTo pos (starEach es X.env)).any (·.1)=false:=by rfl):PE X (.Call (.Name x p) (e :: es) [] pos) (tCB r t):=by
 intro pins s σ H Q I h
 refine wpAny_Call_Name_kw (nu I hg hm hv ?_ hn hdb)
 exact PyProof.Rows.callWith_type1 (thn (ha pos pins s σ H _ I h) fun us s1 ⟨vs,H1,I1,r1,q1⟩=>hc pins s1 σ H1 vs us Q I1 r1 q1) he hpl
end
end L2
namespace HT
open PySem PyProof.Rows
section
open PySem.SeqAt
open PySem.AutoSeq1 (wpAny_loadPart')
open PySem.MeetsSeq PySem.MeetsSeq2 PySem.MeetsSeq3
end
section
variable {prog:Program} {w:World} {A:Around} {E:Value→Shared→Prop} {s:Shared}
def sIx (n d:Nat):Option Int→Nat
 | none=>d
 | some v=>if v < 0 then (v + (n:Int)).toNat else min v.toNat n
theorem CG (n d k:Nat):sIx n d (some (k:Int))=min k n:=by
 show (if (k:Int) < 0 then ((k:Int) + (n:Int)).toNat else min (k:Int).toNat n)=min k n
 rw [if_neg (by omega),dh]
end
end HT
namespace L2
open PySem PySem.Spec PyProof.Rows
abbrev TO:=St→Hp→(Option Int→Hp→Prop)→Prop
def PO (X:Cx) (e:Option Expr) (t:TO):Prop :=
 ∀ (pins:List (Addr × Obj)) (s:Shared) (σ:St) (H:Hp) (Q:Option Int→Hp→Prop),Inv X pins σ H s→t σ H Q →
  wpAny (model X.prog X.w) X.A (evalPart e X.env) (fun u s'=>∃ o H',Inv X pins σ H' s'∧IsPart u o∧Q o H') X.xe s
def CJ:TO:=fun _ H Q=>Q none H
def Kl (t:TE):TO:=fun σ H Q=>t σ H fun x H1=>∃ i,x = .int i∧Q (some i) H1
section
variable {X:Cx} {e:Expr} {te:TE} {lo hi:Option Expr} {tl th:TO} {pos p2:Pos}
theorem CK:PO X none CJ:=by
 intro pins s σ H Q I h
 rw [evalPart_none]
 exact wpAny_pure ⟨none,H,I,.none,h⟩
theorem tM (h:PE X e te):PO X (some e) (Kl te):=by
 intro pins s σ H Q I hw
 rw [evalPart_some]
 refine thn (h pins s σ H _ I hw) fun u s1 ⟨x,H1,I1,r1,q1⟩=>?_
 obtain ⟨i,rfl,q⟩:=q1
 obtain ⟨t,rfl⟩:=r1
 exact ⟨some i,H1,I1,.int i t,q⟩
def SlR (X:Cx) (r:V→Option Int→Option Int→Hp→VK→Prop):Prop :=
 ∀ (pins:List (Addr × Obj)) (s:Shared) (σ:St) (H:Hp) (x:V) (v vl vu:Value) (lo hi:Option Int) (sl:Addr) (Q:VK),Inv X pins σ H s→RelV x v→s.heap.IsSliceOf sl vl vu .none→IsPart vl lo→IsPart vu hi→r x lo hi H Q →
  ∃ T id,typeLookup (.type T) "__getitem__" = pure (some (.builtin id))∧s.TypeIs v T∧wpAny (model X.prog X.w) X.A (getItem v (.ref sl)) (EP X pins σ Q) X.xe s
def tSl (r:V→Option Int→Option Int→Hp→VK→Prop) (te:TE) (tl th:TO):TE:=fun σ H Q=>te σ H fun x H1=>tl σ H1 fun l H2=>th σ H2 fun u H3=>r x l u H3 Q
theorem zM {r:V→Option Int→Option Int→Hp→VK→Prop} (hr:SlR X r) (he:PE X e te) (hl:PO X lo tl) (hu:PO X hi th):PE X (.Subscript e (.Slice lo hi none p2) pos) (tSl r te tl th):=by
 intro pins s σ H Q I h
 refine Subscript_ (thn (he pins s σ H _ I h) fun v s1 ⟨x,H1,I1,r1,q1⟩=>?_)
 refine wpAny_Slice (thn (hl pins s1 σ H1 _ I1 q1) fun vl s2 ⟨l,H2,I2,pl,q2⟩=>thn (hu pins s2 σ H2 _ I2 q2) fun vu s3 ⟨u,H3,I3,pu,q3⟩=>?_)
 rw [evalPart_none]
 refine wpAny_pure ?_
 have I4:Inv X pins σ H3 { s3 with heap:=s3.heap.push { cls:=.type "slice", data:=.fields #[vl,vu,.none] } }:=I3.kept (t':=s3.toks) fun b ob q=>Heap.get?_push_of_some _ q
 obtain ⟨T,id,hT,ht,hg⟩:=hr pins { s3 with heap:=s3.heap.push { cls:=.type "slice", data:=.fields #[vl,vu,.none] } } σ H3 x v vl vu l u s3.heap.objs.size Q I4 r1 (Heap.IsSliceOf.new ..) pl pu q3
 show wpAny (model X.prog X.w) X.A (subscriptTail e (.Slice lo hi none p2) v (.ref s3.heap.objs.size)) (EP X pins σ Q) X.xe { s3 with heap:=s3.heap.push { cls:=.type "slice", data:=.fields #[vl,vu,.none] } }
 exact tail_any (ops:=[.ref s3.heap.objs.size,v]) ht hT hg (by with_unfolding_all rfl)
def xZ (xs:List V) (lo hi:Option Int):List V:=(xs.drop (HT.sIx xs.length 0 lo)).take (HT.sIx xs.length xs.length hi - HT.sIx xs.length 0 lo)
theorem uJ (xs:List V) (lo hi:Option Int):(xZ xs lo hi).length ≤ xs.length:=by
 unfold xZ
 rw [bZ,bV]
 omega
end
end L2
namespace L2
open PySem PySem.Spec PyProof.Rows
def ixN (n:Nat) (i:Int):Option Nat:=if 0 ≤ i then (if i < n then some i.toNat else none) else if -(n:Int) ≤ i then some (i + n).toNat else none
def atI {α:Type} (xs:List α) (i:Int):Option α:=(ixN xs.length i).bind fun j=>xs[j]?
theorem CN {n:Nat} {i:Int} {j:Nat} (h:ixN n i=some j):seqIndex? i n=some j∧j < n∧-(n:Int) ≤ i∧i < n:=by
 unfold ixN at h
 by_cases h0:0 ≤ i
 ·rw [if_pos h0] at h
  by_cases h1:i < n
  ·rw [if_pos h1] at h
   have e:i.toNat=j:=d8.inj h
   exact ⟨by rw [seqIndex_of h0 h1,e],by omega,by omega,h1⟩
  ·rw [if_neg h1] at h;cases h
 ·rw [if_neg h0] at h
  by_cases h1 : -(n:Int) ≤ i
  ·rw [if_pos h1] at h
   have e:(i + n).toNat=j:=d8.inj h
   exact ⟨by rw [seqIndex_neg (by omega) h1,e],by omega,h1,by omega⟩
  ·rw [if_neg h1] at h;cases h
theorem tO {α:Type} {xs:List α} {i:Int} {v:α} (h:atI xs i=some v):∃ j,seqIndex? i xs.length=some j∧xs[j]? = some v∧j < xs.length∧-(xs.length:Int) ≤ i∧i < xs.length:=by
 unfold atI at h
 cases e:ixN xs.length i with
 | none=>rw [e] at h;cases h
 | some j =>
  rw [e] at h
  obtain ⟨h1,h2,h3,h4⟩:=CN e
  exact ⟨j,h1,h,h2,h3,h4⟩
def tQ (b:Expr):Prop:=∀ o i,subscripted b false o i=operate [o,i] (getItem o i)
def IxR (X:Cx) (r:R2):Prop :=
 ∀ (value slice:Expr) (pins:List (Addr × Obj)) (s:Shared) (σ:St) (H:Hp) (x y:V) (v u:Value) (Q:VK),Inv X pins σ H s→RelV x v→RelV y u→r x y H Q →
  subscripted slice false v u=operate [v,u] (getItem v u)→wpAny (model X.prog X.w) X.A (subscriptTail value slice v u) (EP X pins σ Q) X.xe s
def MtR (X:Cx) (id:String) (r:V→List V→Hp→VK→Prop):Prop :=
 ∀ (pins:List (Addr × Obj)) (s:Shared) (σ:St) (H:Hp) (x:V) (xs:List V) (v:Value) (us:List Value) (Q:VK),Inv X pins σ H s→RelV x v→Vals xs us→r x xs H Q →
  wpAny (model X.prog X.w) X.A (call (.builtin id) (v :: us)) (EP X pins σ Q) X.xe s
section
variable {X:Cx} {a b:Expr} {ta tb:TE} {pos:Pos}
theorem IxR.or {r r':R2} (h:IxR X r) (h':IxR X r'):IxR X (fun x y H Q=>r x y H Q∨r' x y H Q):=by
 intro value slice pins s σ H x y v u Q I rx ry q hs
 rcases q with q | q
 ·exact h value slice pins s σ H x y v u Q I rx ry q hs
 ·exact h' value slice pins s σ H x y v u Q I rx ry q hs
theorem Km {r:R2} (hr:IxR X r) (ha:PE X a ta) (hb:PE X b tb) (hs:tQ b):PE X (.Subscript a b pos) (tOp r ta tb):=by
 intro pins s σ H Q I h
 exact Subscript_ (J9 ha hb I h fun v u s2 x y H2 I2 rx ry q=>hr a b pins s2 σ H2 x y v u Q I2 rx ry q (hs _ _))
def Ko (K:PySem.W.Frag):R2:=fun x y H Q=>∃ p xs i v,x = .ref p∧y = .int i∧SqL K H p xs∧atI xs i=some v∧Q v H
def Kp (K:PySem.W.Frag):R2:=fun x y H Q=>∃ p xs i v,x = .ref p∧y = .int i∧SqT K H p xs∧atI xs i=some v∧Q v H
def Kq:R2:=fun x y H Q=>∃ z i c,x = .str z∧y = .int i∧z.length ≤ sizeLine∧atI z.cps.toList i=some c∧Q (.str ⟨#[c]⟩) H
theorem CP:IxR X (Ko X.K):=by
 intro value slice pins s σ H x y v u Q I rx ry h hs
 obtain ⟨p,xs,i,z,rfl,rfl,hq,he,q⟩:=h
 cases rx
 obtain ⟨t,rfl⟩:=ry
 obtain ⟨its,r,pl,hz⟩:=I.list hq
 obtain ⟨j,h1,h2,h3,h4,h5⟩:=tO he
 obtain ⟨w,ew,rw'⟩:=r.get h2
 have hl:=r.length
 have hn:=tK
 have fin:EP X pins σ Q w s:=⟨z,H,I,rw',q⟩
 by_cases h0:0 ≤ i
 ·have hj:i.toNat=j:=by
   rw [seqIndex_of h0 h5] at h1
   exact d8.inj h1
  exact item_listR pl.isList h0 (by omega) (by rw [hj];simpa using ew) fin hs
 ·have hj:(i + (its.toArray.size:Int)).toNat=j:=by
   rw [seqIndex_neg (by omega) h4] at h1
   rw [aY,← hl]
   exact d8.inj h1
  exact subscriptTail_builtinR (x:=w) pl.isList.typeIs slot_list_getitem.lookup
   (wpAny_getItem_list_neg (Q:=fun r s'=>r=w∧EP X pins σ Q r s') pl.isList (by omega) (by rw [aY] <;> omega) (by omega) (by rw [hj];simpa using ew) ⟨rfl,fin⟩) hs
theorem Hr:IxR X (Kp X.K):=by
 intro value slice pins s σ H x y v u Q I rx ry h hs
 obtain ⟨p,xs,i,z,rfl,rfl,hq,he,q⟩:=h
 cases rx
 obtain ⟨t,rfl⟩:=ry
 obtain ⟨its,r,pl,hz⟩:=I.tuple hq
 obtain ⟨j,h1,h2,h3,h4,h5⟩:=tO he
 obtain ⟨w,ew,rw'⟩:=r.get h2
 have hl:=r.length
 have hn:=tK
 have fin:EP X pins σ Q w s:=⟨z,H,I,rw',q⟩
 exact subscriptTail_builtinR (x:=w) pl.typeIs slot_tuple_getitem.lookup
  (getItem_tuple (j:=j) (Q:=fun r s'=>r=w∧EP X pins σ Q r s') pl (by omega) (by omega) (by rw [aY,← hl];exact h1) (by simpa using ew) ⟨rfl,fin⟩) hs
theorem Hs:IxR X Kq:=by
 intro value slice pins s σ H x y v u Q I rx ry h hs
 obtain ⟨z,i,c,rfl,rfl,hz,he,q⟩:=h
 obtain ⟨t,rfl⟩:=rx
 obtain ⟨t',rfl⟩:=ry
 obtain ⟨j,h1,h2,h3,h4,h5⟩:=tO he
 have hl:z.cps.toList.length=z.length:=by simp [Str.length]
 rw [hl] at h1 h4 h5
 have hn:=tK
 exact tail_any (typeIs_str s z t) slot_str_getitem.lookup (getItem_str (c:=c) (by
  have e1:decide (i < -(2 ^ 63:Int))=false:=dFa (by omega)
  have e2:decide (i ≥ 2 ^ 63)=false:=dFa (by omega)
  rw [e1,e2,Bool.or_false]) (by rw [h1];simpa using h2) ⟨.str ⟨#[c]⟩,H,I.tok _,⟨_,rfl⟩,q⟩) hs
def rIx (K:PySem.W.Frag):R2:=fun x y H Q=>Ko K x y H Q∨Kp K x y H Q∨Kq x y H Q
theorem Ht:IxR X (rIx X.K):=CP.or (Hr.or Hs)
theorem Inv.lst {pins:List (Addr × Obj)} {σ:St} {H:Hp} {s:Shared} {p:Addr} {xs:List V} (I:Inv X pins σ H s) (h:H p=some (.lst xs)) :
 ∃ (its:List Value) (n:Nat),Vals xs its∧s.heap.get? p=some { cls:=.type "list", data:=.seq its.toArray n }∧xs.length ≤ sizeLine:=by
 obtain ⟨z,its,n,r,e⟩:=I.hok p _ h
 exact ⟨its,n,r,e,z⟩
theorem nZ (lo hi:Option Int) (n:Nat):(sliceBounds lo hi none n).1=((HT.sIx n 0 lo:Nat):Int)∧(sliceBounds lo hi none n).2.1=((HT.sIx n n hi:Nat):Int)∧(sliceBounds lo hi none n).2.2=1:=by
 refine ⟨?_,?_,rfl⟩
 ·cases lo with
  | none=>simp [sliceBounds,HT.sIx]
  | some i =>
   simp only [sliceBounds,HT.sIx,Option.getD_none,show (1:Int) > 0 by decide,if_true]
   by_cases h:i < 0
   ·simp only [h,if_true] <;> omega
   ·simp only [h,if_false] <;> omega
 ·cases hi with
  | none=>simp [sliceBounds,HT.sIx]
  | some i =>
   simp only [sliceBounds,HT.sIx,Option.getD_none,show (1:Int) > 0 by decide,if_true]
   by_cases h:i < 0
   ·simp only [h,if_true] <;> omega
   ·simp only [h,if_false] <;> omega
theorem rG (its:List Value) (lo hi:Option Int):slicePick its.toArray lo hi none=((its.drop (HT.sIx its.length 0 lo)).take (HT.sIx its.length its.length hi - HT.sIx its.length 0 lo)).toArray:=by
 obtain ⟨h1,h2,h3⟩:=nZ lo hi its.toArray.size
 unfold slicePick
 rw [h1,h2,h3]
 simp only [sliceRange_one,pick_run,aY] <;> rfl
def Nu (K:PySem.W.Frag):V→Option Int→Option Int→Hp→VK→Prop:=fun x lo hi H Q=>∃ a xs,x = .ref a∧SqL K H a xs∧∀ p,H p=none→Q (.ref p) (upd H p (.lst (xZ xs lo hi)))
theorem CQ:SlR X (Nu X.K):=by
 intro pins s σ H x v vl vu lo hi sl Q I rx hs pl pu h
 obtain ⟨a,xs,rfl,hx,q⟩:=h
 cases rx
 obtain ⟨its,r,ht,hz⟩:=I.list hx
 have hlen:=r.length
 refine ⟨"list", _,slot_list_getitem.lookup,ht.isList.typeIs,?_⟩
 refine wpAny_getItem_list_slice ht.isList hs pl pu .none (by simp) ?_ (by rw [aY] <;> omega)
 rw [rG,← hlen]
 refine ⟨.ref s.heap.objs.size,_,I.laid (t':=s.toks) (o:=.lst (xZ xs lo hi)) (fun b ob q=>Heap.get?_push_of_some _ q) (aO _) ?_,rfl,q _ (I.hok.fresh (aO _))⟩
 exact ⟨bU (uJ xs lo hi) hz,_,0,(r.drop (HT.sIx xs.length 0 lo)).take (HT.sIx xs.length xs.length hi - HT.sIx xs.length 0 lo),Heap.get?_push_size _ rfl⟩
theorem iW:nY X (.builtin "len") (fun xs H Q=>∃ p ys,xs=[.ref p]∧(SqL X.K H p ys∨SqT X.K H p ys)∧Q (.int ys.length) H):=by
 intro pins s σ H xs us Q I r h
 obtain ⟨p,ys,rfl,hq,q⟩:=h
 obtain ⟨u,rfl,rx⟩:=vals1 r
 cases rx
 have hn:=tK
 rcases hq with hq | hq
 ·obtain ⟨its,r',pl,hz⟩:=I.list hq
  have hlen:=r'.length
  exact Calls.call_len_list pl.isList (by simp only [aY] <;> omega) ⟨.int ys.length,H,I.tok _,⟨s.toks + 1,by rw [aY,hlen]⟩,q⟩
 ·obtain ⟨its,r',pl,hz⟩:=I.tuple hq
  have hlen:=r'.length
  exact len_tuple pl (by simp only [aY] <;> omega) ⟨.int ys.length,H,I.tok _,⟨s.toks + 1,by rw [aY,hlen]⟩,q⟩
variable {o e:Expr} {es:List Expr} {to:TE} {t:TA} {name:Str} {apos cpos:Pos} {T id:String} {r:V→List V→Hp→VK→Prop}
/- xs.append(e),list.index on a module's tuple .. are MtR facts of 06m -/
end
end L2
namespace L2
open PySem PySem.Spec PyProof.Rows
def MtM (X:Cx) (id:String) (r:V→List V→Hp→VK→Prop):Prop :=
 ∀ (pins:List (Addr × Obj)) (s:Shared) (σ:St) (H:Hp) (x:V) (xs:List V) (v:Value) (us:List Value) (Q:VK),Inv X pins σ H s→RelV x v→Vals xs us→r x xs H Q →
  wpAny (model X.prog X.w) X.A (call (.builtin id) (v :: us)) (EP X pins σ Q) X.xe s
theorem Vals.one:∀ {x:V} {us:List Value},Vals [x] us→∃ u,us=[u]∧RelV x u
 | _,_,.cons r .nil=>⟨_,rfl,r⟩
theorem Vals.zero:∀ {us:List Value},Vals [] us→us=[]
 | _,.nil=>rfl
theorem Vals.eraseIdx:∀ {xs:List V} {us:List Value} (i:Nat),Vals xs us→Vals (xs.eraseIdx i) (us.eraseIdx i)
 | _,_,_,.nil=>.nil
 | _,_,0,.cons _ t=>t
 | _,_,i + 1,.cons r t=>.cons r (Vals.eraseIdx i t)
theorem Vals.reverse {xs:List V} {us:List Value} (h:Vals xs us):Vals xs.reverse us.reverse:=by
 induction h with
 | nil=>exact .nil
 | cons r t ih=>rw [iT,iT];exact Vals.append ih (.cons r .nil)
theorem Vals.rep {xs:List V} {us:List Value} (h:Vals xs us):∀ k:Nat,Vals (aR k xs).flatten (aR k us).flatten
 | 0=>.nil
 | k + 1=>by
  rw [cB,cB,dO,dO]
  exact Vals.append h (Vals.rep h k)
theorem foldl_rep (its:List Value):∀ (k:Nat) (acc:List Value),
 p8 (fun x1 x2=>x1++x2) acc.toArray (aR k its.toArray)=(acc++(aR k its).flatten).toArray
 | 0,acc=>by simp
 | k + 1,acc=>by
  have e:acc.toArray++its.toArray=(acc++its).toArray:=by simp
  have e2:(acc++its)++(aR k its).flatten=acc++(aR (k + 1) its).flatten:=by
   rw [cB,dO,aL]
  rw [← e2,← foldl_rep its k (acc++its),← e,cB,lO]
section
variable {X:Cx} {pins:List (Addr × Obj)} {σ:St} {H:Hp} {s:Shared} {l b:Addr} {xs ys zs:List V}
theorem Inv.lset {its its':List Value} {n:Nat} {f:Array Value→Array Value} {t':Nat} (I:Inv X pins σ H s) (hH:H l=some (.lst xs))
 (e:s.heap.get? l=some { cls:=.type "list", data:=.seq its.toArray n }) (hf:f its.toArray=its'.toArray) (hv:Vals ys its') (hz:ys.length ≤ sizeLine) :
 Inv X pins σ (upd H l (.lst ys)) { s with heap:=s.heap.update l (Obj.mapSeq f),toks:=t' }:=by
 have q:=PySem.IsL.update e f
 rw [hf] at q
 refine I.write (x:=l) (e:=l) (by rw [hH];exact trivial) (.inl rfl) (fun b' u hb hu=>(Heap.get?_update_other s.heap (Obj.mapSeq f) (Ne.symm hb)).trans hu) ⟨_,q⟩ ?_
 exact ⟨hz,its',_,hv,q⟩
theorem Inv.lnew {its:List Value} {t':Nat} (I:Inv X pins σ H s) (hv:Vals ys its) (hz:ys.length ≤ sizeLine) :
 Inv X pins σ (upd H s.heap.objs.size (.lst ys)) { s with heap:=s.heap.push { cls:=.type "list", data:=.seq its.toArray },toks:=t' } :=
 I.laid (fun _ _ q=>Heap.get?_push_of_some _ q) (aO _) ⟨hz,its,0,hv,Heap.get?_push_size _ rfl⟩
theorem Inv.fresh (I:Inv X pins σ H s):H s.heap.objs.size=none:=I.hok.fresh (aO _)
theorem Inv.lstM (I:Inv X pins σ H s) (hH:H l=some (.lst xs)):xs.length ≤ sizeLine∧∃ (its:List Value) (n:Nat),Vals xs its∧xs.length=its.length∧s.heap.get? l=some { cls:=.type "list", data:=.seq its.toArray n }:=by
 obtain ⟨z,its,n,r,e⟩:=I.hok l _ hH
 exact ⟨z,its,n,r,r.length,e⟩
theorem zN {n:Nat} (h:n ≤ sizeLine):Builtin.List.listTooLong n=false:=by
 unfold Builtin.List.listTooLong
 exact dFa (by omega)
end
section
variable {X:Cx}
def CT:V→List V→Hp→VK→Prop:=fun x vs H Q=>∃ l xs y,x = .ref l∧vs=[y]∧H l=some (.lst xs)∧xs.length < sizeLine∧Q .non (upd H l (.lst (xs++[y])))
theorem yc:MtM X "list.append" CT:=by
 intro pins s σ H x vs v us Q I rx rv h
 obtain ⟨l,xs,y,rfl,rfl,hH,hz,q⟩:=h
 cases rx
 obtain ⟨u,rfl,ru⟩:=rv.one
 obtain ⟨z,its,n,r,hl,e⟩:=I.lstM hH
 refine call_meets F.slot_list_append ⟨_,e,rfl⟩ F.entry_list_append (F.args_list_append_2 _ _) (PySem.list_append l its.toArray n u (by rw [aY];omega)) ⟨e,?_⟩
 refine ⟨.non,_,I.lset (its':=its++[u]) hH e (by simp) (r.append (.cons ru .nil)) ?_,rfl,q⟩
 rw [aP,lU]
 omega
def Nv:R2:=fun x y H Q=>∃ l k xs,x = .ref l∧y = .int k∧H l=some (.lst xs)∧-(2 ^ 63) ≤ k∧k < 2 ^ 63∧xs.length * k.toNat ≤ sizeLine ∧
 ∀ p,H p=none→Q (.ref p) (upd H p (.lst (aR k.toNat xs).flatten))
theorem len_rep {α:Type} (xs:List α) (k:Nat):(aR k xs).flatten.length=k * xs.length:=by
 induction k with
 | zero=>simp
 | succ k ih=>rw [cB,dO,aP,ih,Nat.succ_mul,Nat.add_comm]
theorem Hu:OpR X (binaryOp .Mult) Nv:=by
 intro pins s σ H x y v u Q I rx ry h
 obtain ⟨l,k,xs,rfl,rfl,hH,h1,h2,hz,q⟩:=h
 cases rx
 obtain ⟨t,rfl⟩:=ry
 obtain ⟨z,its,n,r,hl,e⟩:=I.lstM hH
 have hlen:its.toArray.size * k.toNat ≤ sizeLine:=by rw [aY,← hl];exact hz
 have hcap:¬ its.toArray.size * k.toNat > (2 ^ 63 - 1) / 8:=by
  have:(sizeLine:Nat) ≤ (2 ^ 63 - 1) / 8:=by decide
  omega
 have hfit:¬ (!Builtin.List.listFitsIndex k)=true:=by
  rw [fitsIndex_both h1 h2]
  exact aK
 have hlong:¬ Builtin.List.listTooLong (its.toArray.size * k.toNat)=true:=by
  rw [zN hlen]
  exact aK
 have hnew:p8 (fun x1 x2=>x1++x2) #[] (aR (if its.toArray.isEmpty=true then 0 else k.toNat) its.toArray)=(aR k.toNat its).flatten.toArray:=by
  have f0:∀ m:Nat,p8 (fun x1 x2=>x1++x2) #[] (aR m its.toArray)=(aR m its).flatten.toArray:=fun m=>by
   have:=foldl_rep its m []
   rw [gA] at this
   exact this
  rw [f0]
  cases its with
  | nil=>simp
  | cons a r'=>rw [if_neg (by simp)]
 refine wpAny_binaryOp_repeat_ref (T := "list") (U := "int") (by decide) ⟨_,e,rfl⟩ (fun s'=>typeIs_int s' k t) noFill_list_mul F.fills_int_mul F.slot_int_rmul repeat_list F.slot_int_index.lookup
  (call_meets F.slot_int_rmul (typeIs_int s k t) F.entry_int_rmul (F.args_int_rmul_2 _ _) (int___rmul___int_list k t l its.toArray n)
   ⟨e,rfl,⟨_,e,rfl⟩,call_meets F.slot_list_mul ⟨_,e,rfl⟩ F.entry_list_mul (F.args_list_mul_2 _ _) (AutoListH.list___mul___list_int_3 l its.toArray n k t hfit hcap hlong) ⟨e,?_⟩⟩)
 rw [hnew]
 exact ⟨.ref _,_,I.lnew (t':=s.toks) (r.rep k.toNat) (by rw [len_rep,Nat.mul_comm];exact hz),rfl,q _ I.fresh⟩
end
section
variable {prog:Program} {w:World} {A:Around} {E:Value→Shared→Prop} {s:Shared}
set_option maxRecDepth 100000 in
end
section
variable {X:Cx}
end
end L2
namespace Att
open PySem PySem.W PySem.Calls PyProof.Rows
theorem pL {P:Params} {h:Heap}:∀ (ns:List Int) (vs:List Value),WellAll P h vs (ns.map WData.int)→IntsAre vs ns:=by
 intro ns
 induction ns with
 | nil =>
  intro vs w
  rw [nO] at w
  cases w
  exact .nil
 | cons n ns ih =>
  intro vs w
  rw [bY] at w
  cases w with
  | cons a b =>
   cases a
   exact .cons _ _ (ih _ b)
theorem yd {l:OpenLaw} {n:Nat} (hn:l.most=some n) {P:Params} {h:Heap} {args:List WData} {vals:List Value}
 (hpre:l.row.toRowW.claim.pre args=true) (hwl:WellAll P h vals args) :
 ∃ a vs ns,vals=[Value.ref a]∧args=[WData.list (ns.map WData.int)]∧h.get? a=some { cls:=.type "list", data:=.seq vs.toArray }∧IntsAre vs ns∧ns.length ≤ n:=by
 have hsh:WShape.hasAll [] args [.list .int]=true:=(pre_splitW hpre).1
 have hc:l.pre.holds [] { args:=args }=true:=(pre_splitW hpre).2
 obtain ⟨d,r,rfl,h1,h2⟩:=hasAllW_cons hsh
 obtain rfl:=hasAllW_nil h2
 obtain ⟨xs,rfl,h3⟩:=hasW_list h1
 obtain ⟨ns,rfl⟩:=items_int h3
 have hlen:ns.length ≤ n:=by
  unfold OpenLaw.pre at hc
  have h4:(WTm.not (.lt (.lit (.int (n:Int))) (.len (.arg 0)))).holds [] { args:=[.list (ns.map .int)] }=true:=by
   have h4:=(holds_andW hc).1
   rw [hn] at h4
   exact h4
  have h5:=condW_of h4 (w_not (w_lt w_lit (w_len_list (w_arg rfl))))
  rw [aH] at h5
  refine Nat.le_of_not_lt fun q=>?_
  have q':(n:Int) < ((ns.length:Nat):Int):=by omega
  first
   | (rw [dTr q'] at h5;exact absurd h5 (by decide))
   | (simp at h5;omega)
 cases hwl with
 | cons w1 w2 =>
  cases w2
  cases w1 with
  | list ho hall=>exact ⟨_,_,ns,rfl,rfl,ho,pL ns _ hall,hlen⟩
theorem yg (l:OpenLaw) (args:List WData):l.row.toRowW.claim.post args (.bool true) args=true :=
 postW_of (r:=l.row.toRowW) (X:=(true == true))
  (show WShape.has [] (.bool true) .bool=true by first | rfl | decide | simp [WShape.has,WShape.arms,WShape.armsAll])
  (show (WTm.eq .res (.lit (.bool true))).value [] { args:=args,res:=some (.bool true),after:=args }=some (.bool (true == true)) from w_eq_bool (w_res rfl) w_lit) rfl
theorem uK {l:OpenLaw} {n:Nat} {q:Program} {loose:List Str} {XP:(Str→Option Value)→Heap→Prop} {YP:World→Heap→Prop} {d:DefRec}
 (hn:l.most=some n) (hdf:d.params.defaults=[])
 (call:∀ (w:World) (s₀ s₁:Shared) (mg mb:Str→Option Value) (fa:Addr) (o:Obj) (pm cd doc:Value) (a:Addr) (vs:List Value) (ns:List Int),
  Ground q loose [] XP w s₀ mg mb s₁.heap→YP w s₁.heap →
  s₁.heap.get? fa=some o→o.data = .func (docDef d.name d.params d.body d.scope pm cd doc)→s₁.heap.CodeRec cd d.name→mg d.name=some (.ref fa) →
  s₁.heap.get? a=some { cls:=.type "list", data:=.seq vs.toArray }→IntsAre vs ns→ns.length ≤ n→s₁.gens = #[] →
  codeAny (model l.prog w) callerA (.call (.ref fa) ⟨[.ref a],[]⟩) (fun r s'=>r = .ok (.ret (.bool true))∧OldK s₁.heap s'.heap∧s'.os=s₁.os∧AllBare s'.gens) s₁) :
 WalkO q loose XP YP l.row.toRowW d [] (fun f vs=>PySem.call f vs):=by
 intro w s₀ s₁ mg mb G Y fa o pm cd doc dV kV ho hd hcd hD hmg hg args vals as hpre hlay hrd hwl hlo
 obtain rfl:dV = .none:=Dflts.none hD hdf
 obtain rfl:kV = .none:=Dflts.noKw hD
 obtain ⟨a,vs,ns,rfl,rfl,hobj,hints,hlen⟩:=yd hn hpre hwl
 refine enter_call (codeAny_mono (call w s₀ s₁ mg mb fa o pm cd doc a vs ns G Y ho (fd_plain hd) hcd hmg hobj hints hlen hg) fun r s' hq=>?_)
 obtain ⟨rfl,h2,h3,h4⟩:=hq
 exact ⟨.inl ⟨.bool true,.bool true,[],rfl,fun _=>rfl,.bool true,yg l _,fun _=>⟨List.Pairwise.nil,fun _ hm=>(nomatch hm)⟩⟩,h2,h3,h4⟩
section
variable {prog:Program} {w:World} {A:Around} {E:Value→Shared→Prop} {s:Shared} {K:Frag}
end
end Att
namespace L2
open PySem PySem.Spec PyProof.Rows
theorem jH:∀ {vs:List Value} {ns:List Int},IntsAre vs ns→Vals (ns.map V.int) vs
 | _,_,.nil=>.nil
 | _,_,.cons n t h=>.cons ⟨t,rfl⟩ (jH h)
def Only (H:Hp):Prop:=∀ b,H b=none∨∃ o xs,H b=some (.frz o (.lst xs))
def qd (ts:List (Addr × Str × Pos)) (H:Hp):Hp:=fun b=>match ts.find? (fun t=>t.1 == b) with
 | some t=>some (.tbl t.2.1 t.2.2)
 | none=>H b
theorem zO (ts:List (Addr × Str × Pos)) (H:Hp) (b:Addr):(qd ts H b=H b∧∀ t ∈ ts,t.1 ≠ b)∨∃ t ∈ ts,t.1=b∧qd ts H b=some (.tbl t.2.1 t.2.2):=by
 unfold qd
 cases e:ts.find? (fun t=>t.1 == b) with
 | none=>exact .inl ⟨rfl,fun t ht z=>by have:=d_.mp e t ht;simp [z] at this⟩
 | some t =>
  have h1:=jX e
  have h2:=List.find?_some e
  exact .inr ⟨t,h1,by simpa using h2,rfl⟩
theorem zP {P:Program} {w:World} {K:PySem.W.Frag} {mg mb:Str→Option Value} {CX:CXT} {k:Nat} {fa a:Addr} {fd:FuncData} {x:Str} {sp:Sp} {s₁:Shared} {vs:List Value} {ns:List Int}
 (KX:K.In s₁.heap) (hns:s₁.heap.Ns mainGlobals mg) (hb:s₁.heap.Ns builtinsNs mb) (hbb:∀ x:Str,x ≠ "__name__" → mb x=bootBuiltins x) (hlim:s₁.heap.NoLimit) (hbm:∃ bm ob,mg "__builtins__" = some (.ref bm)∧bm ≠ builtinsNs∧s₁.heap.get? bm=some ob∧ob.cls = .type "module" ∧ ob.dict=some builtinsNs∧ob.data = .plain) (hg:s₁.gens = #[])
 (ha:s₁.heap.get? a=some { cls:=.type "list", data:=.seq vs.toArray }) (hi:IntsAre vs ns) (hl:ns.length ≤ sizeLine) (hr:Room k callerA)
 (F:∀ base:Heap,K.In base→base.Ns mainGlobals mg→FnOk P w K mg base CX k fa fd [x] sp) (hbind:∀ (s:Shared) (u:Value),BindsTo s fd ⟨[u],[]⟩ [(x,u)])
 (ts:List (Addr × Str × Pos)) (hts:∀ t ∈ ts,s₁.heap.get? t.1=some { cls:=.none,data:=.fields #[] }) (hCT:∀ t ∈ ts,isCodeTable s₁.heap t.1) (hKt:∀ t ∈ ts,K.lookup t.1=none) (htu:∀ t ∈ ts,∀ t' ∈ ts,t.1=t'.1→t=t')
 (hsp:∀ H:Hp,(∀ t ∈ ts,H t.1=some (.tbl t.2.1 t.2.2))→SqL K H a (ns.map V.int)→sp [.ref a] H (fun v _=>v = .bl true) fun _ _ _=>False)
 (hCX:∀ H e s',CX [] H s₁ (fun _ _ _=>False) e s'→False) :
 codeAny (model P w) callerA (.call (.ref fa) ⟨[.ref a],[]⟩) (fun r s'=>r = .ok (.ret (.bool true))∧OldK s₁.heap s'.heap∧s'.os=s₁.os∧AllBare s'.gens) s₁:=by
 have rv:=jH hi
 have lenV:=hi.length
 have core:∀ H:Hp,(∀ b,H b=none∨(∃ o xs,H b=some (.frz o (.lst xs)))∨∃ t ∈ ts,t.1=b∧H b=some (.tbl t.2.1 t.2.2))→(∀ t ∈ ts,H t.1=some (.tbl t.2.1 t.2.2))→SqL K H a (ns.map V.int)→HOk P w H s₁.heap→(∀ b,H b ≠ none→b=a∨∃ t ∈ ts,t.1=b)→(H a ≠ none→K.lookup a=none) →
  codeAny (model P w) callerA (.call (.ref fa) ⟨[.ref a],[]⟩) (fun r s'=>r = .ok (.ret (.bool true))∧OldK s₁.heap s'.heap∧s'.os=s₁.os∧AllBare s'.gens) s₁:=by
  intro H hO hT hS hok hA hK
  have base_of:∀ {b:Addr} {o:Obj},s₁.heap.get? b=some o→H b=none→(tG s₁.heap H).get? b=some o:=fun e n=>zp e n
  have noA:∀ {b:Addr} {o:Obj} {es:Array DictEntry} {ep:Nat},s₁.heap.get? b=some o→o.data = .dict es ep→H b=none:=fun {b o es ep} e d=>by
   cases q:H b with
   | none=>rfl
   | some u =>
    rcases hA b (by rw [q];simp) with e' | ⟨t,ht,e'⟩
    case inr =>
     subst e'
     rw [hts t ht] at e;cases e
     have d':Data.fields #[]=Data.dict es ep:=d
     cases d'
    subst e'
    rw [ha] at e;cases e
    have d':Data.seq vs.toArray _=Data.dict es ep:=d
    cases d'
  have nsK:∀ {b:Addr} {m:Str→Option Value},s₁.heap.Ns b m→(tG s₁.heap H).Ns b m:=fun {b m} ⟨o,es,ep,e,d,r⟩=>⟨o,es,ep,base_of e (noA e d),d,r⟩
  have hKb:K.In (tG s₁.heap H):=fun b o e=>base_of (KX b o e) (by
   cases q:H b with
   | none=>rfl
   | some u =>
    rcases hA b (by rw [q];simp) with e' | ⟨t,ht,e'⟩
    ·subst e'
     rw [hK (by rw [q];simp)] at e;cases e
    ·subst e'
     rw [hKt t ht] at e;cases e)
  have hM:Mod K mg (tG s₁.heap H):=⟨hKb,nsK hns,⟨mb,nsK hb,hbb⟩,let ⟨mc,h1,h2⟩:=hlim;⟨mc,nsK h1,h2⟩,let ⟨bm,ob,g1,g2,g3,g4,g5,g6⟩:=hbm;⟨bm,ob,g1,g2,base_of g3 (by
   cases q:H bm with
   | none=>rfl
   | some u =>
    rcases hA bm (by rw [q];simp) with e' | ⟨t,ht,e'⟩
    ·rw [e',ha] at g3;cases g3
     have z:Value.type "list" = Value.type "module" := g4
     injection z with z
     exact absurd z (by decide)
    ·rw [← e',hts t ht] at g3;cases g3
     cases g4),g4,g5,g6⟩⟩
  have e0:Env0 P w K mg (tG s₁.heap H) callerA [] s₁ H:=⟨rfl,hM,fun b o e=>Ck e,nJ (xQ _ _),trivial,fun b hb=>absurd (show b ∈ ([]:List Addr) from hb) (by simp),hok,.of_eq hg⟩
  refine codeAny_mono ((F _ hKb (nsK hns)).run callerA [] s₁ H ⟨[.ref a],[]⟩ [.ref a] [.ref a] _ _ hr e0 (hbind s₁ (.ref a)) (.cons rfl .nil) (hsp H hT hS)) fun r s' h=>?_
  cases r with
  | error e=>exact (hCX H e s' h).elim
  | ok fl =>
   cases fl with
   | next=>exact False.elim h
   | brk=>exact False.elim h
   | cont=>exact False.elim h
   | ret u =>
    obtain ⟨v,H',os,bare,un,hok',r',q⟩:=h
    have q':v = .bl true:=q
    subst q'
    obtain rfl:u=Value.bool true:=r'
    refine ⟨rfl,⟨fun b o e=>?_,fun b o e=>un.there b o e (by simp)⟩,os,bare⟩
    cases q:H b with
    | none=>exact .inl <| un.keep b o e q (by intro z;exact absurd (show b ∈ ([]:List Addr) from z) (by simp)) (by simp)
    | some u =>
     rcases hO b with z | ⟨ob,xs,z⟩ | ⟨t,ht,rfl,z⟩
     case inr.inr =>
      have z2:=un.tbls _ _ _ z
      obtain ⟨ps,e2,_⟩:=hok' _ _ z2
      rw [hts t ht] at e;cases e
      exact .inr (.inl ⟨hCT t ht,rfl,#[],ps,rfl,by rw [e2];simp⟩)
     ·rw [q] at z;cases z
     ·have z2:=un.frzs b ob _ z
      obtain ⟨e1,_⟩:=hok b _ z
      obtain ⟨e2,_⟩:=hok' b _ z2
      rw [e] at e1;cases e1
      exact .inl e2
 have core1:∀ H:Hp,Only H→SqL K H a (ns.map V.int)→HOk P w H s₁.heap→(∀ b,H b ≠ none→b=a)→(H a ≠ none→K.lookup a=none) →
  codeAny (model P w) callerA (.call (.ref fa) ⟨[.ref a],[]⟩) (fun r s'=>r = .ok (.ret (.bool true))∧OldK s₁.heap s'.heap∧s'.os=s₁.os∧AllBare s'.gens) s₁:=by
  intro H hO hS hok hA hK
  have na:∀ t ∈ ts,t.1 ≠ a:=fun t ht z=>by
   have z2:=hts t ht
   rw [z,ha] at z2
   cases z2
  have cs:∀ b,(qd ts H b=H b∧∀ t ∈ ts,t.1 ≠ b)∨∃ t ∈ ts,t.1=b∧qd ts H b=some (.tbl t.2.1 t.2.2):=zO ts H
  have la:qd ts H a=H a:=by
   rcases cs a with z | ⟨t,ht,z,_⟩
   ·exact z.1
   ·exact absurd z (na t ht)
  have noown:∀ b x,H b ≠ some (.own x):=fun b x z=>by rcases hO b with y | ⟨_,_,y⟩ <;> (rw [y] at z;cases z)
  have notup:∀ b x,H b ≠ some (.tup x):=fun b x z=>by rcases hO b with y | ⟨_,_,y⟩ <;> (rw [y] at z;cases z)
  refine core (qd ts H) (fun b=>?_) (fun t ht=>?_) ?_ (fun b u z=>?_) (fun b z=>?_) (fun z=>hK (by rw [← la];exact z))
  ·rcases cs b with z | ⟨t,ht,z1,z2⟩
   ·rcases hO b with y | y
    ·exact .inl (z.1.trans y)
    ·obtain ⟨o,xs,y⟩:=y
     exact .inr (.inl ⟨o,xs,z.1.trans y⟩)
   ·exact .inr (.inr ⟨t,ht,z1,z2⟩)
  ·rcases cs t.1 with z | ⟨t',ht',z1,z2⟩
   ·exact absurd rfl (z.2 t ht)
   ·have:=htu t' ht' t ht z1
    subst this
    exact z2
  ·rcases hS with (z | ⟨o,z⟩) | z
   ·exact .inl (.inl (by rw [la];exact z))
   ·exact .inl (.inr ⟨o,by rw [la];exact z⟩)
   ·exact .inr z
  ·rcases cs b with y | ⟨t,ht,z1,z2⟩
   ·rw [y.1] at z
    exact (hok b u z).stay (fun _ _ _ q=>q) (fun c q=>absurd q (noown c b)) fun c xs q=>absurd q (notup c xs)
   ·rw [z2] at z
    cases z
    subst z1
    exact ⟨#[],hts t ht,.inl rfl⟩
  ·rcases cs b with y | ⟨t,ht,z1,z2⟩
   ·exact .inl (hA b (by rw [← y.1];exact z))
   ·exact .inr ⟨t,ht,z1⟩
 cases hk:K.lookup a with
 | some o =>
  have e:=KX a o hk
  rw [ha] at e
  cases e
  refine core1 (fun _=>none) (fun _=>.inl rfl) (.inr ⟨_,vs.toArray,_,hk,rfl,rfl,rfl,by rw [aY,lenV];exact hl,by simpa using rv⟩) (fun b u z=>by have z':(none:Option HO)=some u:=z;cases z') (fun b z=>absurd rfl z) fun z=>absurd rfl z
 | none =>
  refine core1 (fun b=>if b=a then some (.frz { cls:=.type "list", data:=.seq vs.toArray } (.lst (ns.map V.int))) else none) (fun b=>?_) (.inl (.inr ⟨{ cls:=.type "list", data:=.seq vs.toArray },if_pos rfl⟩)) (fun b u z=>?_) (fun b z=>?_) fun _=>hk
  ·by_cases hb:b=a
   ·exact .inr ⟨_,_,if_pos hb⟩
   ·exact .inl (if_neg hb)
  ·by_cases hb:b=a
   ·have z':=(if_pos hb).symm.trans z
    cases z'
    subst hb
    exact ⟨ha,by rw [aH];exact hl,vs,_,rv,ha⟩
   ·have z':=(if_neg hb).symm.trans z
    cases z'
  ·by_cases hb:b=a
   ·exact hb
   ·exact absurd (if_neg hb) z
end L2
namespace L2
open PySem PySem.Spec PyProof.Rows
abbrev KOf {K:PySem.W.Frag} {h:Heap} (_:K.In h):PySem.W.Frag:=K
theorem CV {l:PySem.W.OpenLaw} {n k:Nat} {q:Program} {loose:List Str} {XP:(Str→Option Value)→Heap→Prop} {YP:World→Heap→Prop} {d:DefRec} {K:Params→PySem.W.Frag} {CX:World→CXT} {sp:World→Sp} {x:Str}
 (hn:l.most=some n) (hn2:n ≤ sizeLine) (hdf:d.params.defaults=[]) (hr:Room k callerA)
 (hY:∀ (w:World) (h:Heap),YP w h→(K w.params).In h)
 (F:∀ (w:World) (mg:Str→Option Value) (fa:Addr) (h:Heap),(K w.params).In h→h.Ns mainGlobals mg→mg d.name=some (.ref fa) →
  ∃ fd:FuncData,(∀ (s:Shared) (u:Value),BindsTo s fd ⟨[u],[]⟩ [(x,u)]) ∧
   ∀ base:Heap,(K w.params).In base→base.Ns mainGlobals mg→FnOk l.prog w (K w.params) mg base (CX w) k fa fd [x] (sp w))
 (ts:List (Addr × Str × Pos)) (hts:∀ (w:World) (h:Heap),YP w h→(∀ t ∈ ts,h.get? t.1=some { cls:=.none,data:=.fields #[] })∧(∀ t ∈ ts,isCodeTable h t.1)∧∀ t ∈ ts,(K w.params).lookup t.1=none) (htu:∀ t ∈ ts,∀ t' ∈ ts,t.1=t'.1→t=t')
 (hsp:∀ (w:World) (H:Hp) (a:Addr) (ns:List Int),ns.length ≤ n→(∀ t ∈ ts,H t.1=some (.tbl t.2.1 t.2.2))→SqL (K w.params) H a (ns.map V.int)→sp w [.ref a] H (fun v _=>v = .bl true) fun _ _ _=>False)
 (hCX:∀ (w:World) (H:Hp) (s:Shared) (e:Value) (s':Shared),CX w [] H s (fun _ _ _=>False) e s'→False) :
 PySem.W.WalkO q loose XP YP l.row.toRowW d [] (fun f vs=>PySem.call f vs):=by
 refine Att.uK hn hdf fun w s₀ s₁ mg mb fa o pm cd doc a vs ns G Y ho hd hcd hmg hobj hints hlen hg=>?_
 have KX:=hY w _ Y
 obtain ⟨fd,hb,hF⟩:=F w mg fa _ KX G.T.g hmg
 exact zP KX G.T.g G.T.b G.T.builtins G.T.nolimit G.T.bmain hg hobj hints (bU hlen hn2) hr hF hb ts (hts w _ Y).1 (hts w _ Y).2.1 (hts w _ Y).2.2 htu (fun H hO hS=>hsp w H a ns hlen hO hS) fun H e s'=>hCX w H s₁ e s'
theorem zQ {l:PySem.W.OpenLaw} {n k:Nat} {q:Program} {loose:List Str} {XP:(Str→Option Value)→Heap→Prop} {YP:World→Heap→Prop} {d:DefRec} {K:Params→PySem.W.Frag} {CX:CXT} {sp:PySem.W.Frag→Sp} {x:Str}
 (hn:l.most=some n) (hn2:n ≤ sizeLine) (hdf:d.params.defaults=[]) (hr:Room k callerA)
 (hY:∀ (w:World) (h:Heap),YP w h→(K w.params).In h)
 (F:∀ (w:World) (mg:Str→Option Value) (fa:Addr) (h:Heap),(K w.params).In h→h.Ns mainGlobals mg→mg d.name=some (.ref fa) →
  ∃ fd:FuncData,(∀ (s:Shared) (u:Value),BindsTo s fd ⟨[u],[]⟩ [(x,u)]) ∧
   ∀ base:Heap,(K w.params).In base→base.Ns mainGlobals mg→FnOk l.prog w (K w.params) mg base CX k fa fd [x] (sp (K w.params)))
 (ts:List (Addr × Str × Pos)) (hts:∀ (w:World) (h:Heap),YP w h→(∀ t ∈ ts,h.get? t.1=some { cls:=.none,data:=.fields #[] })∧(∀ t ∈ ts,isCodeTable h t.1)∧∀ t ∈ ts,(K w.params).lookup t.1=none) (htu:∀ t ∈ ts,∀ t' ∈ ts,t.1=t'.1→t=t')
 (hsp:∀ (K:PySem.W.Frag) (H:Hp) (a:Addr) (ns:List Int),ns.length ≤ n→(∀ t ∈ ts,H t.1=some (.tbl t.2.1 t.2.2))→SqL K H a (ns.map V.int)→sp K [.ref a] H (fun v _=>v = .bl true) fun _ _ _=>False)
 (hCX:∀ (H:Hp) (s:Shared) (e:Value) (s':Shared),CX [] H s (fun _ _ _=>False) e s'→False) :
 PySem.W.WalkO q loose XP YP l.row.toRowW d [] (fun f vs=>PySem.call f vs) :=
 CV (K:=K) (CX:=fun _=>CX) (sp:=fun w=>sp (K w.params)) hn hn2 hdf hr hY F ts hts htu (fun w H a ns h1 h2 h3=>hsp (K w.params) H a ns h1 h2 h3) fun _ H s e s'=>hCX H s e s'
end L2
/- THE LAST THEOREM (shape;LID,My.* are yours):
   My.Adr: a structure of the addresses that your layer names (classes,functions);My.Txt K t: a structure (Prop) of the equations over K;
   My.txt_mk:{K} {implicit addresses ..} (e1:nsIn K mainGlobals "law" = some (some (.ref f))) (e2:K.lookup f=some ⟨oc,od,.func (fnOf "law" "law" params body scope dV kV doc pm an cdv ct),sl⟩) (e3:codeIn K cdv "law" = true) .. : ∃ t,My.Txt K t
set_option maxRecDepth 100000 in
set_option maxHeartbeats 0 in
(the tactic k_is has no namespace: write k_is) -/
namespace L2
open PySem PySem.Spec PyProof.Rows
def gM (s:Stmt):Arguments:=match s with
 | .FunctionDef _ a _ _ _ _ _ _ _ _=>a
 | _=>{ posonlyargs:=[],args:=[],vararg:=none,kwonlyargs:=[],kw_defaults:=[],kwarg:=none,defaults:=[] }
def eF (s:Stmt):List Stmt:=match s with
 | .FunctionDef _ _ b _ _ _ _ _ _ _=>b
 | _=>[]
def bH (s:Stmt):Scope:=match s with
 | .FunctionDef _ _ _ _ _ _ sc _ _ _=>sc
 | _=>{ kind:=.function,names:=[],isGenerator:=false,isCoroutine:=false }
abbrev CX0:CXT:=fun _ _ _ _ _ _=>False
abbrev E0:XK:=fun _ _ _=>False
theorem Gj {X:Cx}:Passes CX0 X E0:=fun _ _ _ _ _ _ _ h=>h.elim
structure Fun (K:PySem.W.Frag) (x qual:Str) (st:Stmt) (f:Addr) (fd:FuncData):Prop where
 ex:∃ (oc:Value) (od:Option Addr) (kV doc pm:Value) (an:Option Addr) (cdv ct:Value) (osl:Array (Option Value)),
  fd=PySem.W.fnOf x qual (gM st) (eF st) (bH st) .none kV doc pm an cdv ct∧K.lookup f=some ⟨oc,od,.func fd,osl⟩∧PySem.W.codeIn K cdv qual=true
 kp:PySem.W.keepIn K (.ref f)=true
section
variable {P:Program} {w:World} {K:PySem.W.Frag} {mg:Str→Option Value} {base:Heap}
end
section
variable {X:Cx}
end
theorem CW {A B:Prop} (h:B):if false=true then A else B:=by
 rw [if_neg aK]
 exact h
theorem CZ {A B:Prop} (h:A):if true=true then A else B:=by
 rw [if_pos rfl]
 exact h
def Same (H H':Hp):Prop:=∀ b o,H b=some o→H' b=some o
theorem Same.refl (H:Hp):Same H H:=fun _ _ h=>h
theorem Same.trans {H H1 H2:Hp} (a:Same H H1) (b:Same H1 H2):Same H H2:=fun c o h=>b c o (a c o h)
theorem Same.free {H H':Hp} (e:Same H H') {l:Addr} (h:H' l=Option.none):H l=Option.none:=by
 cases q:H l with
 | none=>rfl
 | some o =>
  rw [e l o q] at h
  cases h
theorem Same.seq {K:PySem.W.Frag} {H H':Hp} {a:Addr} {xs:List V} (e:Same H H') (h:SqL K H a xs):SqL K H' a xs:=by
 rcases h with (h | ⟨o,h⟩) | h
 ·exact .inl (.inl (e _ _ h))
 ·exact .inl (.inr ⟨o,e _ _ h⟩)
 ·exact .inr h
end L2
namespace My
open PySem PySem.Spec PyProof.Rows L2
abbrev St:=L2.St
theorem gR {H:Hp} {p:Addr} (h:H p=none) (o:HO):Same H (upd H p o):=fun b u q=>by rw [dg (jg q h)];exact q
structure Df (K:PySem.W.Frag) (mg:Str→Option Value) (x:Str) (st:Stmt) (ps:List Str):Prop where
 ex:∃ (f:Addr) (fd:FuncData),Fun K x x st f fd∧Binds K fd ps []∧mg x=some (.ref f)
structure Has (P:Program) (w:World) (K:PySem.W.Frag) (mg:Str→Option Value) (base:Heap) (n:Nat) (x:Str) (ps:List Str) (sp:Sp):Prop where
 ex:∃ (f:Addr) (fd:FuncData),FnOk P w K mg base CX0 n f fd ps sp∧Binds K fd ps []∧PySem.W.keepIn K (.ref f)=true∧mg x=some (.ref f)
section
variable {P:Program} {w:World} {K:PySem.W.Frag} {mg:Str→Option Value} {base:Heap} {x:Str} {ps N:List Str} {sp:Sp} {st:Stmt} {k n:Nat}
theorem Has.mono (h:Has P w K mg base k x ps sp) (l:k ≤ n):Has P w K mg base n x ps sp:=by
 obtain ⟨f,fd,F,b,kp,m⟩:=h.ex
 exact ⟨f,fd,F.mono l,b,kp,m⟩
end
section
variable {X:Cx} {x:Str} {ps:List Str} {sp:Sp} {n:Nat} {p pos:Pos} {e:Expr} {es:List Expr} {t:TA}
theorem zR (h:Has X.prog X.w X.K X.mg X.base n x ps sp) (hr:Room n X.A) (ha:PA X (e :: es) t) (hg:Gl X x:=by rfl) (hdb:(x == ("__debug__" : Str))=false:=by decide)
 (he:starEach (e :: es) X.env=(false,eval e X.env) :: starEach es X.env:=by rfl) (hpl:(backTo pos (starEach es X.env)).any (·.1)=false:=by rfl) :
 PE X (.Call (.Name x p) (e :: es) [] pos) (Gi sp [] E0 t):=by
 obtain ⟨f,fd,F,b,kp,m⟩:=h.ex
 exact wF F hr hg m kp b .nil Gj ha hdb he hpl
end
mutual
inductive RdV (K:PySem.W.Frag) (H:Hp):V→PyData→Prop
 | non:RdV K H .non .none
 | bl (b:Bool):RdV K H (.bl b) (.bool b)
 | int (i:Int):RdV K H (.int i) (.int i)
 | str (x:Str):RdV K H (.str x) (.str x)
 | lst {a:Addr} {xs:List V} {ds:List PyData}:SqL K H a xs→RdVs K H xs ds→RdV K H (.ref a) (.list ds)
 | tup {a:Addr} {xs:List V} {ds:List PyData}:SqT K H a xs→RdVs K H xs ds→RdV K H (.ref a) (.tuple ds)
inductive RdVs (K:PySem.W.Frag) (H:Hp):List V→List PyData→Prop
 | nil:RdVs K H [] []
 | cons {v:V} {d:PyData} {vs:List V} {ds:List PyData}:RdV K H v d→RdVs K H vs ds→RdVs K H (v :: vs) (d :: ds)
end
section
variable {X:Cx} {pins:List (Addr × Obj)} {σ:St} {H:Hp} {s:Shared}
mutual
theorem RdV.reads (I:Inv X pins σ H s):∀ {v:V} {d:PyData},RdV X.K H v d→∀ {u:Value},RelV v u→∃ as,Reads s.heap u d as
 | _,_,.non,_,r=>by cases r;exact ⟨_,.none⟩
 | _,_,.bl b,_,r=>by cases r;exact ⟨_,.bool b⟩
 | _,_,.int i,_,r=>by obtain ⟨t,rfl⟩:=r;exact ⟨_,.int i t⟩
 | _,_,.str x,_,r=>by obtain ⟨t,rfl⟩:=r;exact ⟨_,.str x t⟩
 | _,_,.lst h q,_,r=>by
  cases r
  obtain ⟨its,rv,⟨o,n,e,c,_,d⟩,_⟩:=I.list h
  obtain ⟨as,z⟩:=RdVs.reads I q rv
  exact ⟨_,.list e c d (by simpa using z)⟩
 | _,_,.tup h q,_,r=>by
  cases r
  obtain ⟨its,rv,⟨o,e,c,n,d⟩,_⟩:=I.tuple h
  obtain ⟨as,z⟩:=RdVs.reads I q rv
  exact ⟨_,.tuple e c d (by simpa using z)⟩
theorem RdVs.reads (I:Inv X pins σ H s):∀ {vs:List V} {ds:List PyData},RdVs X.K H vs ds→∀ {us:List Value},Vals vs us→∃ as,ReadsAll s.heap us ds as
 | _,_,.nil,_,r=>by cases r;exact ⟨_,.nil⟩
 | _,_,.cons h q,_,r=>by
  cases r with
  | cons r1 r2 =>
   obtain ⟨as,z⟩:=RdV.reads I h r1
   obtain ⟨bs,y⟩:=RdVs.reads I q r2
   exact ⟨_,.cons z y⟩
end
end
section
variable {X:Cx}
def Kr (K:PySem.W.Frag):R2:=fun x y H Q=>∃ da db,RdV K H x da∧RdV K H y db∧SeqAt.shaped da=true∧SeqAt.shaped db=true∧Q (.bl (PyData.eqv da db)) H
def Ks (K:PySem.W.Frag):R2:=fun x y H Q=>∃ da db,RdV K H x da∧RdV K H y db∧SeqAt.shaped da=true∧SeqAt.shaped db=true∧Q (.bl (!PyData.eqv da db)) H
theorem vH (hu:X.A.units + 64 < cLine):OpR X (compareOp .Eq) (Kr X.K):=by
 intro pins s σ H x y v u Q I rx ry h
 obtain ⟨da,db,ha,hb,sa,sb,q⟩:=h
 obtain ⟨as,za⟩:=ha.reads I rx
 obtain ⟨bs,zb⟩:=hb.reads I ry
 exact SeqAt.compareEq_shaped za zb sa sb hu ⟨.bl _,H,I,rfl,q⟩
theorem lZ (hu:X.A.units + 64 < cLine):OpR X (compareOp .NotEq) (Ks X.K):=by
 intro pins s σ H x y v u Q I rx ry h
 obtain ⟨da,db,ha,hb,sa,sb,q⟩:=h
 obtain ⟨as,za⟩:=ha.reads I rx
 obtain ⟨bs,zb⟩:=hb.reads I ry
 exact SeqAt.compareNe_shaped za zb sa sb hu ⟨.bl _,H,I,rfl,q⟩
end
section
variable {K:PySem.W.Frag}
end
section
variable {X:Cx}
end
end My
namespace My
open PySem PySem.Spec PyProof.Rows L2
section
variable {X:Cx} {a b c d:Expr} {ta tb tc td:TE} {pos:Pos}
end
structure Blt (mg:Str→Option Value):Prop where
 len_:mg "len" = none
 range_:mg "range" = none
 abs_:mg "abs" = none
 isinstance_:mg "isinstance" = none
 int_:mg "int" = none
 bool_:mg "bool" = none
 tuple_:mg "tuple" = none
 max_:mg "max" = none
 min_:mg "min" = none
end My
namespace My
open PySem PySem.Spec PyProof.Rows L2
abbrev cx (P:Program) (w:World) (K:PySem.W.Frag) (mg:Str→Option Value) (base:Heap) (N:List Str) (x:Str) (st:Stmt) (f:Addr) (cdv:Value) (A:Around) (outer:List Env) (s:Shared) (H:Hp) (E:XK):Cx :=
 (vG CX0 P w K mg base N x (bH st) f cdv A outer s H E).nox
end My
namespace My
open PySem PySem.Spec PyProof.Rows L2
def lD (env:Env):List (Str × NameKind)→List (Str × Addr)→List (Str × Addr)
 | [],cs=>cs
 | (n,k) :: r,cs=>if (k == NameKind.free)=true then lD env r ((n,(env.cells.lookup n).getD 0) :: cs) else lD env r cs
theorem nA {env:Env}:∀ (l:List (Str × NameKind)) (cs:List (Str × Addr)),(∀ x ∈ l,x.2 = .free→∃ c,env.cells.lookup x.1=some c) →
 (forIn l cs fun (x:Str × NameKind) (r:List (Str × Addr))=>(if (x.2 == NameKind.free)=true then (do let c ← cellOf env x.1;pure (ForInStep.yield ((x.1,c) :: r))) else pure (ForInStep.yield r):Sem (ForInStep (List (Str × Addr)))))=pure (lD env l cs)
 | [],_,_=>rfl
 | (n,k) :: r,cs,h=>by
  rw [List.forIn_cons]
  by_cases hk:(k == NameKind.free)=true
  ·obtain ⟨c,hc⟩:=h (n,k) aM (beq_iff_eq.mp hk)
   have hc':cellOf env n=pure c:=by
    unfold cellOf
    rw [show env.cells.lookup n=some c from hc]
   show (do let x ← (if (k == NameKind.free)=true then (do let c ← cellOf env n;pure (ForInStep.yield ((n,c) :: cs))) else pure (ForInStep.yield cs):Sem (ForInStep (List (Str × Addr))));_)=_
   rw [if_pos hk,hc']
   have ih:=nA r ((n,c) :: cs) fun x hx=>h x (aN _ hx)
   rw [lD,if_pos hk,show env.cells.lookup n=some c from hc]
   exact ih
  ·show (do let x ← (if (k == NameKind.free)=true then (do let c ← cellOf env n;pure (ForInStep.yield ((n,c) :: cs))) else pure (ForInStep.yield cs):Sem (ForInStep (List (Str × Addr))));_)=_
   rw [if_neg hk]
   have ih:=nA r cs fun x hx=>h x (aN _ hx)
   rw [lD,if_neg hk]
   exact ih
theorem vI {env:Env} {scope:Scope} (h:∀ x ∈ scope.names,x.2 = .free→∃ c,env.cells.lookup x.1=some c):closureFor scope env=pure (lD env scope.names []):=by
 have z:=nA (env:=env) scope.names [] h
 show (forIn scope.names [] fun (x:Str × NameKind) (r:List (Str × Addr))=>(if (x.2 == NameKind.free)=true then (do let c ← cellOf env x.1;pure (ForInStep.yield ((x.1,c) :: r))) else pure (ForInStep.yield r):Sem (ForInStep (List (Str × Addr))))) >>= (fun cs=>pure cs)=_
 rw [z]
 rfl
theorem qe {env:Env}:∀ (l:List (Str × NameKind)) (cs:List (Str × Addr)),(∀ x ∈ l,x.2 = .free→∃ c,env.cells.lookup x.1=some c)→(∀ x c,cs.lookup x=some c→env.cells.lookup x=some c) →
 ∀ x c,(lD env l cs).lookup x=some c→env.cells.lookup x=some c
 | [],_,_,hc,x,c,e=>hc x c e
 | (n,k) :: r,cs,h,hc,x,c,e=>by
  rw [lD] at e
  by_cases hk:(k == NameKind.free)=true
  ·rw [if_pos hk] at e
   obtain ⟨d,hd⟩:=h (n,k) aM (beq_iff_eq.mp hk)
   refine qe r _ (fun x hx=>h x (aN _ hx)) (fun y c' e'=>?_) x c e
   rw [cG] at e'
   cases hy:y == n with
   | true =>
    rw [hy] at e'
    have:y=n:=beq_iff_eq.mp hy
    subst this
    rw [show env.cells.lookup y=some d from hd] at e' ⊢
    exact e'
   | false =>
    rw [hy] at e'
    exact hc y c' e'
  ·rw [if_neg hk] at e
   exact qe r cs (fun x hx=>h x (aN _ hx)) hc x c e
theorem mj {env:Env}:∀ (l:List (Str × NameKind)) (cs:List (Str × Addr)) (x:Str),((x,NameKind.free) ∈ l∨∃ c,cs.lookup x=some c)→∃ c,(lD env l cs).lookup x=some c
 | [],_,x,h=>by
  rcases h with h | h
  ·exact absurd h (by simp)
  ·exact h
 | (n,k) :: r,cs,x,h=>by
  rw [lD]
  by_cases hk:(k == NameKind.free)=true
  ·rw [if_pos hk]
   refine mj r _ x ?_
   by_cases e:x=n
   ·subst e
    exact .inr ⟨_,by rw [cG,beq_self_eq_true]⟩
   ·rcases h with h | ⟨c,h⟩
    ·rcases aQ.mp h with h | h
     ·exact absurd (congrArg Prod.fst h) e
     ·exact .inl h
    ·exact .inr ⟨c,by rw [cG,beq_eq_false_iff_ne.mpr e];exact h⟩
  ·rw [if_neg hk]
   refine mj r cs x ?_
   rcases h with h | h
   ·rcases aQ.mp h with h | h
    ·have:k = .free:=(congrArg Prod.snd h).symm
     subst this
     exact absurd rfl hk
    ·exact .inl h
   ·exact .inr h
abbrev blk (X:Cx) (N':List Str) (scope:Scope) (cl:List (Str × Addr)) (C:Addr) (s3:Shared) (H3:Hp) (fp:List Addr):Cx :=
 { X with N:=N',s₀:=s3,H₀:=H3,env:=compEnvC scope cl C X.env,outer:=X.stack,ex:=fp,fn:=fun _=>false,xe:=fun _ _=>False }
def qg (N:List Str) (kinds sn:List (Str × NameKind)):List Str→List Nat→Bool
 | [],[]=>true
 | x :: V,j :: ix=>(N[j]? == some x) && ((kinds.lookup x == some NameKind.cell) && ((sn.lookup x == some NameKind.free) && qg N kinds sn V ix))
 | _,_=>false
def rH (t:Nat) (ix:List Nat) (σ:St):St:=aR t none++ix.map fun j=>(σ[j]?).getD none
theorem qj {N:List Str} {kinds sn:List (Str × NameKind)}:∀ {V:List Str} {ix:List Nat},qg N kinds sn V ix=true→ix.length=V.length∧∀ (k:Nat) (x:Str),V[k]? = some x→∃ j,ix[k]? = some j∧N[j]? = some x∧kinds.lookup x=some .cell∧sn.lookup x=some .free
 | [],[],_=>⟨rfl,fun k x h=>by simp at h⟩
 | x :: V,j :: ix,h=>by
  rw [qg,aU,aU,aU] at h
  obtain ⟨h1,h2,h3,h4⟩:=h
  obtain ⟨l,r⟩:=qj h4
  refine ⟨by simp [l],fun k y hy=>?_⟩
  cases k with
  | zero =>
   simp at hy
   subst hy
   exact ⟨j,rfl,beq_iff_eq.mp h1,beq_iff_eq.mp h2,beq_iff_eq.mp h3⟩
  | succ k=>exact r k y (by simpa using hy)
 | [],_ :: _,h=>by simp [qg] at h
 | _ :: _,[],h=>by simp [qg] at h
theorem n6 {env:Env} (hf:env.scope.kind = .function):∀ {names:List (Str × NameKind)} {x:Str},names.lookup x=some .free→env.kindOf x=some .cell →
 (names.map fun (n,k)=>if (k == NameKind.free && env.scope.kind == .function && env.kindOf n == some .cell) then (n,NameKind.cell) else (n,k)).lookup x=some .cell
 | [],_,h,_=>by simp at h
 | (n,k) :: r,x,h,hc=>by
  have ih:=@n6 env hf r x
  show List.lookup x ((if (k == NameKind.free && env.scope.kind == .function && env.kindOf n == some .cell)=true then (n,NameKind.cell) else (n,k)) :: _)=_
  cases hx:x == n with
  | true =>
   have e:x=n:=beq_iff_eq.mp hx
   subst e
   simp only [cG,hx] at h
   cases h
   rw [if_pos (by rw [hf,hc];rfl)]
   simp [cG]
  | false =>
   simp only [cG,hx] at h
   by_cases hq:(k == NameKind.free && env.scope.kind == .function && env.kindOf n == some .cell)=true
   ·rw [if_pos hq];simp only [cG,hx];exact ih h hc
   ·rw [if_neg hq];simp only [cG,hx];exact ih h hc
theorem lE {env:Env}:∀ {names:List (Str × NameKind)} {x:Str} {k:NameKind},(∀ y ∈ names,y.2 ≠ .cell)→(k = .cell∨k = .free) →
 (names.map fun (n,k)=>if (k == NameKind.free && env.scope.kind == .function && env.kindOf n == some .cell) then (n,NameKind.cell) else (n,k)).lookup x=some k→(x,NameKind.free) ∈ names
 | [],_,_,_,_,h=>by simp at h
 | (n,k') :: r,x,k,hc,hk,h=>by
  have ih:=@lE env r x k (fun y hy=>hc y (aN _ hy)) hk
  have h':List.lookup x ((if (k' == NameKind.free && env.scope.kind == .function && env.kindOf n == some .cell)=true then (n,NameKind.cell) else (n,k')) :: (r.map fun (n,k)=>if (k == NameKind.free && env.scope.kind == .function && env.kindOf n == some .cell) then (n,NameKind.cell) else (n,k)))=some k:=h
  by_cases hq:(k' == NameKind.free && env.scope.kind == .function && env.kindOf n == some .cell)=true
  ·rw [if_pos hq] at h'
   have kf:k' = .free:=by
    rw [aU,aU] at hq
    exact beq_iff_eq.mp hq.1.1
   cases hx:x == n with
   | true =>
    have e:x=n:=beq_iff_eq.mp hx
    subst e
    subst kf
    exact aM
   | false =>
    simp only [cG,hx] at h'
    exact aN _ (ih h')
  ·rw [if_neg hq] at h'
   cases hx:x == n with
   | true =>
    have e:x=n:=beq_iff_eq.mp hx
    subst e
    simp only [cG,hx] at h'
    cases h'
    rcases hk with hk | hk
    ·exact absurd hk (hc _ aM)
    ·subst hk
     exact aM
   | false =>
    simp only [cG,hx] at h'
    exact aN _ (ih h')
section
variable {X:Cx} {pins:List (Addr × Obj)} {σ:St} {H:Hp} {s:Shared}
theorem Inv.forget {σ':St} (I:Inv X pins σ H s) (hl:σ'.length=X.N.length) (h:∀ (i:Nat) (v:V),σ'[i]? = some (some v)→σ[i]? = some (some v)):Inv X pins σ' H s:=by
 obtain ⟨m,hn,hx⟩:=I.loc
 exact ⟨I.ok,I.os,I.bare,I.base,⟨m,hn,fun i x v e1 e2 e3=>hx i x v e1 (h i v e2) e3⟩,I.cell,I.free,I.freeC,I.pin,I.hok,hl⟩
end
end My
namespace My
open PySem PySem.Spec PyProof.Rows L2
theorem uL {prog:Program} {w:World} {A:Around} {R:Result→Shared→Prop} {elt target iter:Expr} {ifs:List Expr} {scope:Scope} {pos:Pos} {it acc:Value} {env:Env} {s:Shared} (I:Nat→Shared→Prop)
 (turn:∀ n s,I n s→wpAny (model prog w) A (pyNext it) (fun r s₁=>match r with
  | none=>R (.ok .next) s₁
  | some v=>wpAny (model prog w) A (letOwnedTupleGo target it v) (fun _ s₁'=>wpAny (model prog w) A (assign target env v) (fun _ s₂ =>
   wpAny (model prog w) A (forIn ifs true fun c r=>if r=true then do let ok ← isTrue c env (eval c env);pure (ForInStep.yield ok) else pure (ForInStep.yield r)) (fun ok s₃ =>
    if ok=true then wpAny (model prog w) A (eval elt env) (fun x s₄ =>
     wpAny (model prog w) A (call (.builtin "list.append") [acc,x]) (fun _ s₅=>∃ m,m < n∧I m s₅) (fun _ _=>False) s₄) (fun _ _=>False) s₃
    else ∃ m,m < n∧I m s₃) (fun _ _=>False) s₂) (fun _ _=>False) s₁') (fun _ _=>False) s₁) (fun _ _=>False) s)
 (n:Nat) (h:I n s) :
 codeAny (model prog w) A (.compLoop (.ListComp elt [⟨target,iter,ifs,0⟩] scope pos) 0 it acc env) R s:=by
 refine codeAny_loop rfl I (fun n s hI=>?_) n h
 show wpAny _ A ((compTurn (.ListComp elt [⟨target,iter,ifs,0⟩] scope pos) 0 it acc env).onRaise (fun x=>do noteFrame x env;theTreesLotGoes x)) _ _ s
 refine wpAny_noted ?_
 rw [compTurn_list]
 refine wpAny_bind (wpAny_standAt (wpAny_bind (wpAny_mono (turn n s hI) (fun r s₁ h₁=>?_) fun _ _ h'=>h'.elim)))
 cases r with
 | none=>exact wpAny_pure h₁
 | some v =>
  refine wpAny_bind (wpAny_mono h₁ (fun _ s₁' h₁'=>?_) fun _ _ h'=>h'.elim)
  refine wpAny_bind (wpAny_mono h₁' (fun _ s₂ h₂=>wpAny_bind (wpAny_mono h₂ (fun ok s₃ h₃=>?_) fun _ _ h'=>h'.elim)) fun _ _ h'=>h'.elim)
  cases ok with
  | false=>exact wpAny_pure ⟨rfl,h₃⟩
  | true =>
   exact wpAny_bind (wpAny_bind (wpAny_mono h₃ (fun x s₄ h₄=>wpAny_bind (wpAny_mono h₄ (fun _ s₅ h₅=>wpAny_pure (wpAny_pure ⟨rfl,h₅⟩)) fun _ _ h'=>h'.elim)) fun _ _ h'=>h'.elim))
section
variable {X:Cx} {pins:List (Addr × Obj)} {σ:St} {H:Hp}
theorem yh {T V:List Str} {ix:List Nat} {scope:Scope} {s3:Shared} {fp:List Addr} {h₁:Heap} {tk:Nat} {m:Str→Option Value}
 (I:Inv X pins σ H s3) (hf:∀ b ∈ fp,oW X pins H b) (ho:∀ b ∈ fp,∃ o,s3.heap.get? b=some o)
 (hk:scope.kind = .function) (hcell:∀ y ∈ scope.names,y.2 ≠ .cell) (hfr:∀ x ∈ scope.names,x.2 = .free→x.1 ∈ V) (hB:qg X.N X.env.scope.names scope.names V ix=true)
 (hns:h₁.Ns s3.heap.objs.size m) (keep:∀ b o,s3.heap.get? b=some o→h₁.get? b=some o) :
 Inv (blk X (T++V) scope (lD X.env scope.names []) s3.heap.objs.size s3 H fp) pins (rH T.length ix σ) H { s3 with heap:=h₁,toks:=tk }:=by
 obtain ⟨lV,capV⟩:=qj hB
 have hcl:∀ x ∈ scope.names,x.2 = .free→∃ c,X.env.cells.lookup x.1=some c:=fun x hx e=>by
  obtain ⟨k,ek⟩:=jo (hfr x hx e)
  obtain ⟨j,_,_,hc,_⟩:=capV k _ ek
  exact I.ok.has _ (.inl hc)
 have sub:=qe (env:=X.env) scope.names [] hcl (fun x c e=>by simp at e)
 have stkSub:∀ b,b ∈ frs X.stack→b=X.env.locals∨b ∈ X.fs:=fun b z=>aQ.mp (I.stkSub b z)
 have lt:∀ b o,s3.heap.get? b=some o→b ≠ s3.heap.objs.size:=fun b o e=>bI (Heap.lt_size e)
 have cellK:∀ c v,s3.heap.IsCell c v→h₁.IsCell c v:=fun c v ⟨o,e,d⟩=>⟨o,keep c o e,d⟩
 refine ⟨⟨I.ok.mod,hk,I.ok.glob,I.ok.blt,aO _,fun x y c e1 e2=>I.ok.inj x y c (sub x c e1) (sub y c e2),fun x hx=>?_,fun x c hx=>?_,I.ok.hd,I.ok.frames,.inl rfl,fun b hb=>⟨?_,fun x c e=>?_⟩,I.bs,bU I.ok.bsz I.sz,fun b o e hb=>?_,fun b hb z=>?_,I.stack,I.stkFree⟩,
  rfl,I.bare,Un.kept keep,⟨m,hns,fun i x v e1 e2 e3=>?_⟩,fun x c e=>?_,I.hok.fresh (aO _),fun x c e=>I.freeC x c (sub x c e),fun p hp=>?_,I.hok.kept keep,?_⟩
 ·rcases hx with hx | hx
  ·exact mj _ _ x (.inl (lE hcell (.inl rfl) hx))
  ·exact mj _ _ x (.inl (lE hcell (.inr rfl) hx))
 ·exact absurd hx (by simp)
 ·obtain ⟨o,e⟩:=ho b hb
  exact lt b o e
 ·exact (hf b hb).2.2.2.2.1 x c (sub x c e)
 ·rcases (hf b hb).2.2.2.1 with z | z
  ·exact I.ok.noex b o e z
  ·exact absurd (bF (Heap.lt_size e) (bU I.ok.bsz z)) (gF _)
 ·rcases stkSub b z with z | z
  ·exact (hf b hb).2.1 z
  ·exact (hf b hb).2.2.1 z
 ·by_cases hi:i < T.length
  ·have e2':(aR T.length none++ix.map fun j=>(σ[j]?).getD none)[i]? = some (some v):=e2
   rw [bM (by rw [bx];exact hi),cZ,if_pos hi] at e2'
   exact absurd e2' (by simp)
  ·have e1':(T++V)[i]? = some x:=e1
   rw [bK (by omega)] at e1'
   obtain ⟨j,hj,hN,hc,hfree⟩:=capV _ x e1'
   have e2':(aR T.length none++ix.map fun j=>(σ[j]?).getD none)[i]? = some (some v):=e2
   rw [bK (by rw [bx];omega),bx,aZ,hj] at e2'
   have e2'':(σ[j]?).getD none=some v:=by simpa using e2'
   have e3':σ[j]? = some (some v):=by
    cases q:σ[j]? with
    | none=>rw [q] at e2'';exact absurd e2'' (by simp)
    | some o=>rw [q] at e2'';simp at e2'';rw [e2'']
   obtain ⟨m0,hn0,hl⟩:=I.loc
   obtain ⟨u,r,l⟩:=hl j x v hN e3' (.inr (.inl hc))
   rcases l with ⟨z,_⟩ | ⟨_,c,ec,hcell'⟩
   ·have z':X.env.scope.names.lookup x=some .local:=z
    rw [hc] at z'
    exact absurd z' (by simp)
   ·obtain ⟨c',ec'⟩:=mj (env:=X.env) scope.names [] x (.inl (PySem.mem_of_lookup hfree))
    have:c'=c:=by
     have q:=sub x c' ec'
     rw [ec] at q
     exact (d8.inj q).symm
    subst this
    exact ⟨u,r,.inr ⟨.inl (n6 I.ok.kind hfree hc),c',ec',cellK _ _ hcell'⟩⟩
 ·obtain ⟨v,z⟩:=I.cell x c (sub x c e)
  exact ⟨v,cellK c v z⟩
 ·obtain ⟨e,n,ne,nf,d⟩:=I.pin p hp
  refine ⟨keep _ _ e,n,lt _ _ e,fun z=>?_,d⟩
  rcases stkSub p.1 z with z | z
  ·exact ne z
  ·exact nf z
 ·show (aR T.length none++ix.map fun j=>(σ[j]?).getD none).length=(T++V).length
  rw [aP,bx,aH,aP,lV]
theorem zT {N':List Str} {scope:Scope} {cl:List (Str × Addr)} {pins':List (Addr × Obj)} {σ':St} {H3 H':Hp} {s3 s':Shared} {fp:List Addr} (I3:Inv X pins σ H3 s3) (hf:∀ b ∈ fp,oW X pins H3 b)
 (I':Inv (blk X N' scope cl s3.heap.objs.size s3 H3 fp) pins' σ' H' s'):Inv X pins σ H' s'∧oW X pins H' s3.heap.objs.size:=by
 have fr:H' s3.heap.objs.size=none:=I'.free
 refine ⟨?_,I3.fpOk (aO _) fr⟩
 have os:s'.os=s3.os:=I'.os
 have u:Un (frs X.stack) fp H3 H' s3.heap s'.heap:=I'.base
 have ho:=I'.hok
 have hb:=I'.bare
 obtain ⟨hh,g,d,t,os'⟩:=s'
 obtain rfl:os'=s3.os:=os
 exact I3.call (h':=hh) (g':=g) (d':=d) (t':=t) (ch:=fp) u ho hb fun b hb'=>⟨(hf b hb').2.2.2.1,(hf b hb').2.1,(hf b hb').2.2.2.2.1,(hf b hb').2.2.2.2.2⟩
end
def PTs (X:Cx) (ifs:List Expr) (t:TT):Prop :=
 ∀ (pins:List (Addr × Obj)) (s:Shared) (σ:St) (H:Hp) (Q:Bool→Hp→Prop),Inv X pins σ H s→t σ H Q →
  wpAny (model X.prog X.w) X.A (forIn ifs true fun c r=>if r=true then do let ok ← isTrue c X.env (eval c X.env);pure (ForInStep.yield ok) else pure (ForInStep.yield r)) (TP X pins σ Q) X.xe s
def lF:TT:=fun _ H Q=>Q true H
theorem C_ {X:Cx}:PTs X [] lF:=fun _ _ _ H _ I h=>wpAny_tests_nil ⟨H,I,h⟩
theorem n8 {X:Cx} {c:Expr} {t:TT} (h:PT X c t):PTs X [c] t:=fun pins s σ H Q I q=>wpAny_tests_one (h pins s σ H Q I q)
def wG (wi:TI) (g:TG) (tt:TT) (te:TE) (t:Nat) (cap:St→St):TE:=fun σ H Q=>wi σ H fun J H1=>∀ D,H1 D=none→∃ W:Nat→Nat→List V→Hp→Prop,(∃ m,W 0 m [] (upd H1 D (.lst []))) ∧
 ∀ i m xs H2,W i m xs H2→H2 D=some (.lst xs)∧((J.stop i H2∧Q (.ref D) H2)∨(J.go i H2∧xs.length < sizeLine∧∀ x H3,J.yld i H2 x H3→g x (cap σ) H3 fun σ4 H4=>σ4.drop t=(cap σ).drop t ∧
  tt σ4 H4 fun b H5=>if b=true then te σ4 H5 fun v H6=>H6 D=some (.lst xs)∧∃ m',m' < m∧W (i + 1) m' (xs++[v]) (upd H6 D (.lst (xs++[v]))) else ∃ m',m' < m∧W (i + 1) m' xs H5))
section
variable {X:Cx} {elt tg iter:Expr} {ifs:List Expr} {scope:Scope} {pos:Pos} {T V:List Str} {ix:List Nat} {wi:TI} {g:TG} {tt:TT} {te:TE}
theorem rY (hc:X.calm=true) (hi:PI X tg iter wi)
 (hg:∀ cl C s3 H3 fp,PG (blk X (T++V) scope cl C s3 H3 fp) tg g) (ht:∀ cl C s3 H3 fp,PTs (blk X (T++V) scope cl C s3 H3 fp) ifs tt) (he:∀ cl C s3 H3 fp,PE (blk X (T++V) scope cl C s3 H3 fp) elt te)
 (hB:qg X.N X.env.scope.names scope.names V ix=true) (hk:scope.kind = .function) (hcell:∀ y ∈ scope.names,y.2 ≠ .cell) (hnames:∀ x ∈ scope.names,x.2 = .local→scope.names.lookup x.1=some .local)
 (hfr:∀ x ∈ scope.names,x.2 = .free→x.1 ∈ V) (hs:∀ x,foldedSetIterable iter X.env x=pure x) {p:Pos}
 {pins:List (Addr × Obj)} {s:Shared} {σ:St} {H:Hp} (I:Inv X pins σ H s) {use:Option (Value→Sem Unit)} {Qp:Value→Shared→Prop} {Qv:VK} (h:wG wi g tt te T.length (rH T.length ix) σ H Qv)
 (fin:∀ (D C:Addr) (H':Hp) (s':Shared) (m:Str→Option Value),Inv X pins σ H' s'→oW X pins H' C→s'.heap.Ns C m→Qv (.ref D) H'→compPost (model X.prog X.w) X.A X.xe use Qp (.ref D) C (.ok .next) s') :
 wpAny (model X.prog X.w) X.A (comprehension (.ListComp elt [⟨tg,iter,ifs,0⟩] scope pos) scope X.env p (newList []) false (eval iter X.env) use) Qp X.xe s:=by
 obtain ⟨lV,capV⟩:=qj hB
 have hcl:∀ x ∈ scope.names,x.2 = .free→∃ c,X.env.cells.lookup x.1=some c:=fun x hx e=>by
  obtain ⟨k,ek⟩:=jo (hfr x hx e)
  obtain ⟨j,_,_,hc',_⟩:=capV k _ ek
  exact I.ok.has _ (.inl hc')
 refine wpAny_comprehension_free rfl hs (vI hcl) hk hnames ?_
 refine thn (hi pins s σ H _ I h) fun v s1 h1=>thn h1 fun itv s2 h2=>?_
 obtain ⟨it,fp,tn,J,H2,e,I2,Tn,st2,f2,R⟩:=h2
 subst e
 refine wpAny_newObj_type (hd:=by size_fits) ?_
 have hD:H2 s2.heap.objs.size=none:=I2.hok.fresh (aO _)
 have I3:Inv X pins σ (upd H2 s2.heap.objs.size (.lst [])) { s2 with heap:=s2.heap.push { cls:=.type "list", dict:=none,data:=.seq ([]:List Value).toArray } } :=
  I2.laid (t':=s2.toks) (fun b o e=>Heap.get?_push_of_some _ e) (aO _) ⟨d9 _,[],0,.nil,Heap.get?_push_size _ rfl⟩
 obtain ⟨W,⟨m0,w0⟩,turn⟩:=R s2.heap.objs.size hD
 generalize hs3:({ s2 with heap:=s2.heap.push { cls:=.type "list", dict:=none,data:=.seq ([]:List Value).toArray } }:Shared)=s3 at I3 ⊢
 have st3:tn 0 s3.heap:=by
  rw [← hs3]
  exact Tn.keep 0 s2.heap _ st2 fun b hb o e=>Heap.get?_push_of_some _ e
 have f3:∀ b ∈ fp,oW X pins (upd H2 s2.heap.objs.size (.lst [])) b:=fun b hb=>by
  obtain ⟨z0,z1⟩:=f2 b hb
  refine ⟨?_,z1⟩
  obtain ⟨o,eo,_⟩:=Tn.obj 0 _ st2 b hb
  rw [dg (bI (Heap.lt_size eo))]
  exact z0
 generalize hH3:upd H2 s2.heap.objs.size (.lst [])=H3 at I3 f3 w0
 generalize hDn:s2.heap.objs.size=D at turn
 refine wpAny_newFunctionEnv hcell (by intro y hy;simp at hy) (fun h₁ hns₁ hsb₁=>?_) hk
 have keep:∀ b o,s3.heap.get? b=some o→h₁.get? b=some o:=fun b o e=>hsb₁.extBut b o (bI (Heap.lt_size e)) (Heap.get?_push_of_some _ e)
 have I4:=yh (T:=T) (tk:=s3.toks + ([]:List (Str × Value)).length) I3 f3 (fun b hb=>let ⟨o,eo,_⟩:=Tn.obj 0 _ st3 b hb;⟨o,eo⟩) hk hcell hfr hB hns₁ keep
 have st4:tn 0 h₁:=Tn.keep 0 _ _ st3 fun b hb o e=>keep b o e
 have loop:codeAny (model X.prog X.w) X.A (.compLoop (.ListComp elt [⟨tg,iter,ifs,0⟩] scope pos) 0 (.ref it) (.ref D) (compEnvC scope (lD X.env scope.names []) s3.heap.objs.size X.env))
  (compPost (model X.prog X.w) X.A X.xe use Qp (.ref D) s3.heap.objs.size) { s3 with heap:=h₁,toks:=s3.toks + ([]:List (Str × Value)).length }:=by
  refine uL (fun n s'=>∃ i xs H',Inv (blk X (T++V) scope (lD X.env scope.names []) s3.heap.objs.size s3 H3 fp) pins (rH T.length ix σ) H' s'∧tn i s'.heap∧(∀ b ∈ fp,H' b=none)∧W i n xs H') ?_ m0
   ⟨0,[],H3,I4,st4,fun b hb=>(f3 b hb).1,w0⟩
  rintro n s5 ⟨i,xs,H5,I5,st5,fr5,w5⟩
  have stat:∀ {H':Hp} {pins':List (Addr × Obj)} {σ':St} {s':Shared},Inv (blk X (T++V) scope (lD X.env scope.names []) s3.heap.objs.size s3 H3 fp) pins σ' H' s'→(∀ b ∈ fp,H' b=none)→∀ b ∈ fp,oW (blk X (T++V) scope (lD X.env scope.names []) s3.heap.objs.size s3 H3 fp) pins H' b:=fun I' hn b hb=>by
   obtain ⟨x1,x2⟩:=I'.ok.exf b hb
   refine ⟨hn b hb,x1,I'.ok.exfs b hb,.inl hb,x2,fun q hq=>?_⟩
   exact (f3 b hb).2.2.2.2.2 q hq
  obtain ⟨hD5,r5⟩:=turn i n xs H5 w5
  rcases r5 with ⟨stop,q⟩ | ⟨go,hz,step⟩
  ·refine thn (Tn.done (blk X (T++V) scope (lD X.env scope.names []) s3.heap.objs.size s3 H3 fp) rfl rfl rfl hc i pins s5 _ H5 _ I5 (stat (pins':=pins) I5 fr5) st5 stop) fun r s6 ⟨hr,I6⟩=>?_
   subst hr
   obtain ⟨Ib,fC⟩:=zT I3 f3 I6
   obtain ⟨m,hn,_⟩:=I6.loc
   exact fin D _ H5 s6 m Ib fC hn q
  ·refine thn (Tn.item (blk X (T++V) scope (lD X.env scope.names []) s3.heap.objs.size s3 H3 fp) rfl rfl rfl hc i pins s5 _ H5 _ I5 (stat (pins':=pins) I5 fr5) st5 go) fun r s6 ⟨u,hr,h6⟩=>?_
   subst hr
   refine thn h6 fun _ s7 ⟨x,H7,I7,rx,y7,st7,fr7⟩=>?_
   have I7':=I7.pinned (stat (pins':=pins) I7 fr7) (Tn.obj _ _ st7)
   refine thn (hg _ _ _ _ _ _ s7 _ H7 x u _ I7' rx (step x H7 y7)) fun _ s8 ⟨σ8,H8,I8,k8,q8⟩=>?_
   have again:∀ {H9:Hp} {s9:Shared},Inv (blk X (T++V) scope (lD X.env scope.names []) s3.heap.objs.size s3 H3 fp) (pins++qb fp s7.heap) σ8 H9 s9 →
    Inv (blk X (T++V) scope (lD X.env scope.names []) s3.heap.objs.size s3 H3 fp) pins (rH T.length ix σ) H9 s9∧tn (i + 1) s9.heap∧∀ b ∈ fp,H9 b=none:=fun {H9 s9} I9=>by
    refine ⟨Inv.forget I9.unpinned I4.len fun j v e=>?_,Tn.keep _ _ _ st7 fun b hb o e=>(I9.pin (b,o) (aV _ (aV _ (lC hb e)))).1,fun b hb=>?_⟩
    ·by_cases hj:j < T.length
     ·have e':(aR T.length none++ix.map fun j=>(σ[j]?).getD none)[j]? = some (some v):=e
      rw [bM (by rw [bx];exact hj),cZ,if_pos hj] at e'
      exact absurd e' (by simp)
     ·have ej:j=T.length + (j - T.length):=by omega
      rw [ej,← dH] at e ⊢
      rw [k8]
      exact e
    ·obtain ⟨o,e,d⟩:=Tn.obj _ _ st7 b hb
     exact (I9.pin (b,o) (aV _ (aV _ (lC hb e)))).2.1
   refine thn (ht _ _ _ _ _ _ s8 σ8 H8 _ I8 q8) fun ok s9 ⟨H9,I9,q9⟩=>?_
   cases ok with
   | false =>
    obtain ⟨m',lm,w9⟩:=q9
    obtain ⟨a1,a2,a3⟩:=again I9
    exact ⟨m',lm,i + 1,xs,H9,a1,a2,a3,w9⟩
   | true =>
    refine thn (he _ _ _ _ _ _ s9 σ8 H9 _ I9 q9) fun y s10 ⟨v,H10,I10,ry,hD10,m',lm,w10⟩=>?_
    refine thn (yc _ s10 σ8 H10 (.ref D) [v] (.ref D) [y] (fun _ Hn=>Hn=upd H10 D (.lst (xs++[v]))) I10 rfl (.cons ry .nil) ⟨D,xs,v,rfl,rfl,hD10,hz,rfl⟩) fun _ s11 ⟨_,H11,I11,_,e11⟩=>?_
    subst e11
    obtain ⟨a1,a2,a3⟩:=again I11
    exact ⟨m',lm,i + 1,_,_,a1,a2,a3,w10⟩
 exact codeAny_compStart_list loop (Tn.self _ 0 _ _ _ st4 loop)
theorem Dc (hc:X.calm=true) (T V:List Str) (ix:List Nat) (hi:PI X tg iter wi)
 (hg:∀ cl C s3 H3 fp,PG (blk X (T++V) scope cl C s3 H3 fp) tg g) (ht:∀ cl C s3 H3 fp,PTs (blk X (T++V) scope cl C s3 H3 fp) ifs tt) (he:∀ cl C s3 H3 fp,PE (blk X (T++V) scope cl C s3 H3 fp) elt te)
 (hB:qg X.N X.env.scope.names scope.names V ix=true:=by rfl) (hk:scope.kind = .function:=by rfl) (hcell:∀ y ∈ scope.names,y.2 ≠ .cell:=by decide +kernel)
 (hnames:∀ x ∈ scope.names,x.2 = .local→scope.names.lookup x.1=some .local:=by decide +kernel)
 (hfr:∀ x ∈ scope.names,x.2 = .free→x.1 ∈ V:=by decide +kernel) (hs:∀ x,foldedSetIterable iter X.env x=pure x:=by intro _;rfl) :
 PE X (.ListComp elt [⟨tg,iter,ifs,0⟩] scope pos) (wG wi g tt te T.length (rH T.length ix)):=by
 intro pins s σ H Q I h
 rw [eval_ListComp]
 refine rY (use:=none) hc hi hg ht he hB hk hcell hnames hfr hs I h fun D C H' s' m I' fC hn q=>⟨m,hn,fun h' sb=>⟨.ref D,H',?_,rfl,q⟩⟩
 obtain ⟨z0,z1,z2,z3,z4,z5⟩:=fC
 exact I'.turned (t':=s'.toks) (fun b o hb e=>sb.extBut b o hb e) z0 z1 z3 z4 z5
theorem Dh {i:Nat} {x:Str} {pos' spos:Pos} (hN:X.N.Nodup) (hi':X.N[i]? = some x) (hx:X.env.scope.names.lookup x=some .local) (hc:X.calm=true) (T V:List Str) (ix:List Nat) (hi:PI X tg iter wi)
 (hg:∀ cl C s3 H3 fp,PG (blk X (T++V) scope cl C s3 H3 fp) tg g) (ht:∀ cl C s3 H3 fp,PTs (blk X (T++V) scope cl C s3 H3 fp) ifs tt) (he:∀ cl C s3 H3 fp,PE (blk X (T++V) scope cl C s3 H3 fp) elt te)
 (hsw:swapsWith (.ListComp elt [⟨tg,iter,ifs,0⟩] scope pos) (some (.Name x pos')) spos.line X.env=pure true:=by rfl)
 (hB:qg X.N X.env.scope.names scope.names V ix=true:=by rfl) (hk:scope.kind = .function:=by rfl) (hcell:∀ y ∈ scope.names,y.2 ≠ .cell:=by decide +kernel)
 (hnames:∀ x ∈ scope.names,x.2 = .local→scope.names.lookup x.1=some .local:=by decide +kernel)
 (hfr:∀ x ∈ scope.names,x.2 = .free→x.1 ∈ V:=by decide +kernel) (hs:∀ x,foldedSetIterable iter X.env x=pure x:=by intro _;rfl) :
 PS X (.Assign [.Name x pos'] (.ListComp elt [⟨tg,iter,ifs,0⟩] scope pos) spos) (G_ (wG wi g tt te T.length (rH T.length ix)) (zA i)):=by
 intro pins s σ H D I h
 rw [exec_Assign_Name_used _ _ _ _ hsw]
 refine wpAny_bind (wpAny_standAt (wpAny_bind ?_))
 show wpAny _ X.A (do let _ ← comprehension (.ListComp elt [⟨tg,iter,ifs,0⟩] scope pos) scope X.env _ (newList []) false (eval iter X.env) (some (assign (.Name x pos') X.env))) _ _ s
 refine wpAny_bind (wpAny_mono (rY (use:=some (assign (.Name x pos') X.env)) (Qp:=fun _ s'=>SP X pins D .next s') hc hi hg ht he hB hk hcell hnames hfr hs I h fun A' C H' s' m I' fC hn q=>?_) (fun _ s' hq=>wpAny_pure (wpAny_pure hq)) fun _ _ e=>e)
 obtain ⟨z0,z1,z2,z3,z4,z5⟩:=fC
 refine wpAny_assign_Name (rN I' hN hi' (.inl hx) (v:=.ref A') rfl (fun s'' I'' ⟨a,sb,ha⟩=>⟨m,hn.sameBut sb ?_,fun h' sb'=>⟨_,H',?_,q⟩⟩) (.inr hx))
 ·rcases ha with ha | ha
  ·rw [ha];exact z1
  ·exact Ne.symm (z4 x a ha)
 ·exact I''.turned (t':=s''.toks) (fun b o hb e=>sb'.extBut b o hb e) z0 z1 z3 z4 z5
end
section
variable {X:Cx} {K:PySem.W.Frag}
end
end My
namespace D3
open PySem
abbrev D:=PyData
inductive U where
 | d (x:D)
 | x (c f:Str) (v:D)
abbrev DS:=List (Option U)
inductive Oc where
 | nx (δ:DS)
 | rt (d:D)
 | bk (δ:DS)
 | ct (δ:DS)
 | ex (c f:Str) (v:D)
abbrev FE:=DS→Option D
abbrev FA:=DS→Option (List D)
abbrev FT:=DS→Option Bool
abbrev FS:=DS→Option Oc
abbrev FG:=D→DS→Option DS
mutual
def flat:D→Bool
 | .none=>true
 | .bool _=>true
 | .int _=>true
 | .str _=>true
 | .list _=>false
 | .tuple xs=>flats xs
 | .dict _=>false
def flats:List D→Bool
 | []=>true
 | x :: r=>flat x && flats r
end
mutual
def nl:D→Nat
 | .none=>0
 | .bool _=>0
 | .int _=>0
 | .str _=>0
 | .list xs=>nls xs + 1
 | .tuple xs=>nls xs
 | .dict _=>1
def nls:List D→Nat
 | []=>0
 | x :: r=>nl x + nls r
end
def fl1:D→Bool
 | .list xs=>flats xs
 | d=>flat d
def aJ (i:Nat):FE:=fun δ=>match δ[i]? with
 | some (some (.d x))=>some x
 | _=>none
def dC (d:D):FE:=fun _=>some d
def dOp (g:D→D→Option D) (fa fb:FE):FE:=fun δ=>(fa δ).bind fun x=>(fb δ).bind fun y=>g x y
def dUn (g:D→Option D) (fa:FE):FE:=fun δ=>(fa δ).bind g
def bN:FA:=fun _=>some []
def aC (fa:FE) (fr:FA):FA:=fun δ=>(fa δ).bind fun x=>(fr δ).bind fun r=>some (x :: r)
def dTup (fa:FA):FE:=fun δ=>(fa δ).bind fun l=>if l.length ≤ sizeLine then some (.tuple l) else none
def mq (fa:FA):FE:=fun δ=>(fa δ).bind fun l=>if l.length ≤ sizeLine then some (.list l) else none
def dCall (F:List D→Option D) (fa:FA):FE:=fun δ=>(fa δ).bind F
def eH (fa:FE):FE:=fun δ=>(fa δ).bind fun d=>if flat d=true then some d else none
def dN1 (fa:FE):FE:=fun δ=>(fa δ).bind fun d=>if decide (nl d ≤ 1)=true then some d else none
def zU (fa:FE):FE:=fun δ=>(fa δ).bind fun d=>if fl1 d=true then some d else none
def Ku (fa fb:FE):FE:=fun δ=>(fa δ).bind fun x=>match x with
 | .bool true=>fb δ
 | .bool false=>some (.bool false)
 | _=>none
def dOr (fa fb:FE):FE:=fun δ=>(fa δ).bind fun x=>match x with
 | .bool true=>some (.bool true)
 | .bool false=>fb δ
 | _=>none
def Kv (fa:FE):FE:=fun δ=>(fa δ).bind fun x=>match x with
 | .bool b=>some (.bool (!b))
 | _=>none
def dIf (c:FT) (fa fb:FE):FE:=fun δ=>(c δ).bind fun b=>if b=true then fa δ else fb δ
def cT (fa:FE):FT:=fun δ=>(fa δ).bind fun x=>match x with
 | .bool b=>some b
 | _=>none
def tH (a b:FT):FT:=fun δ=>(a δ).bind fun x=>if x=true then b δ else some false
def tOr (a b:FT):FT:=fun δ=>(a δ).bind fun x=>if x=true then some true else b δ
def Kw (a:FT):FT:=fun δ=>(a δ).map fun x=>!x
def jt:FS:=fun δ=>some (.nx δ)
def dF (a b:FS):FS:=fun δ=>(a δ).bind fun o=>match o with
 | .nx δ'=>b δ'
 | o=>some o
def Ky (i:Nat) (fe:FE):FS:=fun δ=>(fe δ).bind fun d=>some (.nx (δ.set i (some (.d d))))
def sIf (c:FT) (a b:FS):FS:=fun δ=>(c δ).bind fun t=>if t=true then a δ else b δ
def fX (fe:FE):FS:=fun δ=>(fe δ).bind fun d=>some (.rt d)
def Kz:FS:=fun _=>some (.rt .none)
def Gk (fe:FE):FS:=fun δ=>(fe δ).bind fun _=>some (.nx δ)
def sBk:FS:=fun δ=>some (.bk δ)
def sCt:FS:=fun δ=>some (.ct δ)
def gN (i:Nat):FG:=fun d δ=>some (δ.set i (some (.d d)))
def rZ:List D→DS→Option DS:=fun l δ=>match l with
 | []=>some δ
 | _=>none
def jz (g:FG) (r:List D→DS→Option DS):List D→DS→Option DS:=fun l δ=>match l with
 | d :: l'=>(g d δ).bind fun δ'=>r l' δ'
 | []=>none
def KC (fe:FE) (g:FG):FS:=fun δ=>(fe δ).bind fun d=>(g d δ).bind fun δ'=>some (.nx δ')
def jY (g:FG) (b:FS):List D→DS→Option Oc
 | [],δ=>some (.nx δ)
 | d :: r,δ=>(g d δ).bind fun δ1=>(b δ1).bind fun o=>match o with
  | .nx δ'=>jY g b r δ'
  | .ct δ'=>jY g b r δ'
  | .bk δ'=>some (.nx δ')
  | .rt v=>some (.rt v)
  | .ex c f v=>some (.ex c f v)
def rJ (fi:FA) (g:FG) (b:FS):FS:=fun δ=>(fi δ).bind fun l=>jY g b l δ
open Classical in
def fnD (p q:Nat) (b:FS):List D→Option D:=fun ds=>if ds.length=p then match b (ds.map (fun d=>some (.d d))++aR q none) with
    | some (.rt d)=>some d
    | some (.nx _)=>some .none
    | _=>none
 else none
def kJ (t:Nat) (ix:List Nat) (δ:DS):DS:=aR t none++ix.map fun j=>(δ[j]?).getD none
def fG (g:FG) (c:FT) (e:FE) (δ:DS):List D→Option (List D)
 | []=>some []
 | d :: r=>(g d δ).bind fun δ1=>(c δ1).bind fun b=>if b=true then (e δ1).bind fun x=>(fG g c e δ r).bind fun l=>some (x :: l) else fG g c e δ r
def jd (fi:FA) (g:FG) (c:FT) (e:FE) (t:Nat) (ix:List Nat):FE:=fun δ=>(fi δ).bind fun l=>if l.length ≤ 100000 then (fG g c e (kJ t ix δ) l).bind fun r=>some (.list r) else none
def lF:FT:=fun _=>some true
def gI (g:Int→Int→Option D):D→D→Option D:=fun x y=>match x,y with
 | .int i,.int j=>g i j
 | _,_=>none
def pIx (n:Nat) (i:Int):Option Nat:=if 0 ≤ i then (if i < n then some i.toNat else none) else if -(n:Int) ≤ i then some (i + n).toNat else none
def pAt (xs:List D) (i:Int):Option D:=(pIx xs.length i).bind fun j=>xs[j]?
def isT (c T:String):Bool:=T == c || (T == "bool" && c == "int")
def cI (i:Nat) (fe:FE):FS:=fun δ=>if i < δ.length then Ky i fe δ else none
def iQ:D→D→Option D:=gI fun i j=>some (.int (i + j))
def yj:D→D→Option D:=gI fun i j=>some (.int (i - j))
def qm (i j:Int):Bool:=decide (i.natAbs < 2 ^ 64) || decide (j.natAbs < 2 ^ 64) || (decide (i.natAbs < 2 ^ 30000) && decide (j.natAbs < 2 ^ 30000))
def m5:D→D→Option D:=gI fun i j=>if qm i j=true then some (.int (i * j)) else none
def vJ (_ j:Int):Bool:=decide (j ≠ 0) && decide (j.natAbs < 2 ^ 9000)
def rK:D→D→Option D:=gI fun i j=>if vJ i j=true then some (.int (i.fdiv j)) else none
def nC:D→D→Option D:=gI fun i j=>if decide (j ≠ 0)=true then some (.int (i.fmod j)) else none
def Hv (i j:Int):Bool:=decide (0 ≤ j) && decide (j ≤ 1000) && decide (i.natAbs < 2 ^ 64)
def Hw:D→D→Option D:=gI fun i j=>if Hv i j=true then some (.int (i ^ j.toNat)) else none
def gLt:D→D→Option D:=gI fun i j=>some (.bool (decide (i < j)))
def gLe:D→D→Option D:=gI fun i j=>some (.bool (decide (i ≤ j)))
def gGt:D→D→Option D:=gI fun i j=>some (.bool (decide (j < i)))
def gGe:D→D→Option D:=gI fun i j=>some (.bool (decide (j ≤ i)))
def gEq:D→D→Option D:=fun x y=>if (SeqAt.shaped x && SeqAt.shaped y)=true then some (.bool (PyData.eqv x y)) else none
def gNe:D→D→Option D:=fun x y=>if (SeqAt.shaped x && SeqAt.shaped y)=true then some (.bool (!PyData.eqv x y)) else none
def gNl (i:Nat):FG:=fun d δ=>if i < δ.length then gN i d δ else none
def gTn (n:Nat) (g:List D→DS→Option DS):FG:=fun d δ=>match d with
 | .tuple l=>if l.length=n then g l δ else none
 | _=>none
def KD (i:Nat) (f:FE):FS:=fun δ=>(aJ i δ).bind fun x=>(f δ).bind fun d=>match x with
 | .list l=>if l.length < 1000000 then some (.nx (δ.set i (some (.d (.list (l++[d])))))) else none
 | _=>none
def KH (i:Nat) (fk f:FE):FS:=fun δ=>(f δ).bind fun d=>(aJ i δ).bind fun x=>(fk δ).bind fun k=>match x,k with
 | .list l,.int j=>(pIx l.length j).bind fun n=>some (.nx (δ.set i (some (.d (.list (l.set n d))))))
 | _,_=>none
def asList:D→Option (List D)
 | .list l=>some l
 | _=>none
def oY (f:FE):FA:=fun δ=>(f δ).bind asList
def fU (lo hi:Int):List D:=(aW (hi - lo).toNat).map fun (k:Nat)=>.int (lo + (k:Int))
def m6 (i:Int):Bool:=decide (-(2 ^ 62) ≤ i) && decide (i < 2 ^ 62)
def mC (fa:FA):FA:=fun δ=>(fa δ).bind fun l=>match l with
 | [.int j]=>if m6 j=true then some (fU 0 j) else none
 | _=>none
def wH (fa:FA):FA:=fun δ=>(fa δ).bind fun l=>match l with
 | [.int i,.int j]=>if (m6 i && m6 j)=true then some (fU i j) else none
 | _=>none
def gIx:D→D→Option D:=fun x y=>match x,y with
 | .list l,.int i=>pAt l i
 | .tuple l,.int i=>pAt l i
 | _,_=>none
def oZ (g g':D→D→Option D) (fa fb fc:FE):FE:=fun δ=>(fa δ).bind fun x=>(fb δ).bind fun y=>(g x y).bind fun z=>match z with
 | .bool true=>(fc δ).bind fun w=>g' y w
 | .bool false=>some (.bool false)
 | _=>none
def wI (g g' g'':D→D→Option D) (fa fb fc fd:FE):FE:=fun δ=>(fa δ).bind fun x=>(fb δ).bind fun y=>(g x y).bind fun z=>match z with
 | .bool true=>(fc δ).bind fun w=>(g' y w).bind fun z'=>match z' with
  | .bool true=>(fd δ).bind fun u=>g'' w u
  | .bool false=>some (.bool false)
  | _=>none
 | .bool false=>some (.bool false)
 | _=>none
def isNone:D→Bool
 | .none=>true
 | _=>false
def yp:D→Option D:=fun x=>some (.bool (isNone x))
def KJ:D→Option D:=fun x=>some (.bool (!isNone x))
def tR:List D→Option D
 | [.list l]=>some (.int l.length)
 | [.tuple l]=>some (.int l.length)
 | _=>none
def jQ:List D→Option (List Int)
 | []=>some []
 | .int i :: r=>(jQ r).map (i :: ·)
 | _=>none
def KN:List D→Option D
 | [.list l]=>(jQ l).map fun ns=>.int ns.sum
 | _=>none
def o7 (F:List D→Option D) (i:Int) (fa:FA):FE:=fun δ=>(fa δ).bind fun ds=>F (ds++[.int i])
def mxI (i:Int) (r:List Int):Int:=r.foldl (fun a b=>if a < b then b else a) i
def pq:List D→Option D
 | [.list l]=>match jQ l with
  | some (i :: r)=>some (.int (mxI i r))
  | _=>none
 | _=>none
def insI (x:Int):List Int→List Int
 | []=>[x]
 | y :: r=>if x ≤ y then x :: y :: r else y :: insI x r
def jF:List Int→List Int
 | []=>[]
 | x :: r=>insI x (jF r)
def pA:List D→Option D
 | [.list l]=>(jQ l).bind fun ns=>if ns.length < 64 then some (.list ((jF ns).map .int)) else none
 | _=>none
def Hx:D→D→Option D:=fun x y=>match x,y with
 | .list l,.int k=>(jQ l).bind fun ns=>if k ∈ ns then some (.int (ns.idxOf k:Nat)) else none
 | _,_=>none
def yq:List D→Option D
 | [.int i]=>some (.int i)
 | [.bool b]=>some (.int (if b then 1 else 0))
 | _=>none
def Nx:List D→Option D
 | [.int i]=>some (.int (if i < 0 then -i else i))
 | _=>none
def uM:List D→Option D
 | [.int i,.int j]=>some (.int (if j > i then j else i))
 | _=>none
def su:List D→Option D
 | [.int i,.int j]=>some (.int (if j < i then j else i))
 | _=>none
def tyD:D→String
 | .none => "NoneType"
 | .bool _ => "bool"
 | .int _ => "int"
 | .str _ => "str"
 | .list _ => "list"
 | .tuple _ => "tuple"
 | .dict _ => "dict"
def gIs (c:String):D→Option D:=fun d=>some (.bool (isT c (tyD d)))
def zV:D→Option D
 | .int i=>some (.int (-i))
 | _=>none
def qt:D→D→Option D:=fun x y=>match x,y with
 | .list l,.list m=>if l.length + m.length ≤ 1000000 then some (.list (l++m)) else none
 | _,_=>none
def uN:D→D→Option D:=fun x y=>match x,y with
 | .list l,.int k=>if l.length * k.toNat ≤ 1000000∧-(2 ^ 63) ≤ k∧k < 2 ^ 63 then some (.list (aR k.toNat l).flatten) else none
 | _,_=>none
def Gn:D→Option D
 | .list l=>some (.list l)
 | .tuple l=>some (.list l)
 | _=>none
abbrev FO:=DS→Option (Option Int)
def qu:FO:=fun _=>some none
def m9 (f:FE):FO:=fun δ=>(f δ).bind fun x=>match x with
 | .int i=>some (some i)
 | _=>none
def pSx (n d:Nat):Option Int→Nat
 | none=>d
 | some i=>if i < 0 then (i + n).toNat else min i.toNat n
def cutD (xs:List D) (lo hi:Option Int):List D:=(xs.drop (pSx xs.length 0 lo)).take (pSx xs.length xs.length hi - pSx xs.length 0 lo)
def dSl (f:FE) (lo hi:FO):FE:=fun δ=>(f δ).bind fun x=>(lo δ).bind fun a=>(hi δ).bind fun b=>match x with
 | .list l=>some (.list (cutD l a b))
 | _=>none
def KQ (i j:Nat) (fa:FA):FS:=fun δ=>(fa δ).bind fun l=>match l with
 | [x,y]=>if i < δ.length∧j < δ.length then some (.nx ((δ.set i (some (.d x))).set j (some (.d y)))) else none
 | _=>none
def zW (l:List D):List D:=l.mapIdx fun i x=>.tuple [.int (i:Int),x]
def Gp (f:FE):FA:=fun δ=>(f δ).bind fun d=>match d with
 | .list l=>some (zW l)
 | _=>none
def nD:List D→Option (List Bool)
 | []=>some []
 | .bool b :: r=>(nD r).map (b :: ·)
 | _=>none
def KR:List D→Option D
 | [.list l]=>(nD l).map fun bs=>.bool (bs.all id)
 | _=>none
def m7:List D→List D→List D
 | x :: r,y :: s=>.tuple [x,y] :: m7 r s
 | _,_=>[]
def Di (f g:FE):FA:=fun δ=>(f δ).bind fun d=>(g δ).bind fun e=>match d,e with
 | .list l,.list m=>some (m7 l m)
 | _,_=>none
theorem n_:∀ (r:List Int) (i:Int),mxI i r ∈ i :: r∧∀ a ∈ i :: r,a ≤ mxI i r
 | [],i=>⟨aM,fun a h=>by rw [aX.mp h];exact cH _⟩
 | b :: r,i=>by
  have ih:=n_ r (if i < b then b else i)
  have e:mxI i (b :: r)=mxI (if i < b then b else i) r:=rfl
  rw [e]
  constructor
  ·rcases aQ.mp ih.1 with z | z
   ·rw [z]
    split <;> simp
   ·exact aN _ (aN _ z)
  ·intro a h
   have h0:=ih.2 _ aM
   have hb:i ≤ (if i < b then b else i)∧b ≤ (if i < b then b else i):=by split <;> omega
   rcases aQ.mp h with rfl | h
   ·exact gW hb.1 h0
   ·rcases aQ.mp h with rfl | h
    ·exact gW hb.2 h0
    ·exact ih.2 a (aN _ h)
theorem insI_perm (x:Int):∀ l,(insI x l).Perm (x :: l)
 | []=>.refl _
 | y :: r=>by
  unfold insI
  split
  ·exact .refl _
  ·exact ((insI_perm x r).cons y).trans (.swap x y r)
theorem eV:∀ l,(jF l).Perm l
 | []=>.refl _
 | x :: r=>(insI_perm x _).trans ((eV r).cons x)
theorem pB (x:Int):∀ l,l.Pairwise (· ≤ ·)→(insI x l).Pairwise (· ≤ ·)
 | [],_=>by simp [insI]
 | y :: r,h=>by
  obtain ⟨h1,h2⟩:=bG.mp h
  unfold insI
  split
  ·next c =>
   refine bG.mpr ⟨fun a ha=>?_,h⟩
   rcases aQ.mp ha with rfl | z
   ·exact c
   ·exact gW c (h1 a z)
  ·next c =>
   refine bG.mpr ⟨fun a ha=>?_,pB x r h2⟩
   rcases aQ.mp ((insI_perm x r).mem_iff.mp ha) with rfl | z
   ·omega
   ·exact h1 a z
theorem iJ:∀ l,(jF l).Pairwise (· ≤ ·)
 | []=>.nil
 | x :: r=>pB x _ (iJ r)
end D3
namespace D3
open PySem PySem.Spec PyProof.Rows L2 My
abbrev Ok:=Addr→Prop
abbrev St:=L2.St
class Chg (u:HO):Prop where
 ch:(∃ xs,u = .lst xs)∨(∃ kvs,u = .dK kvs)∨∃ kvs,u = .dT kvs
instance (xs:List V):Chg (.lst xs):=⟨.inl ⟨xs,rfl⟩⟩
instance (kvs:List (Key × V)):Chg (.dK kvs):=⟨.inr (.inl ⟨kvs,rfl⟩)⟩
instance (kvs:List (List Key × V)):Chg (.dT kvs):=⟨.inr (.inr ⟨kvs,rfl⟩)⟩
theorem Chg.frz {o:Obj} {u:HO} (h:Chg (.frz o u)):False:=by
 rcases h.ch with ⟨_,z⟩ | ⟨_,z⟩ | ⟨_,z⟩ <;> cases z
theorem Chg.tup {xs:List V} (h:Chg (.tup xs)):False:=by
 rcases h.ch with ⟨_,z⟩ | ⟨_,z⟩ | ⟨_,z⟩ <;> cases z
def Chd (o:Option HO):Prop:=∃ u,o=some u∧Chg u
theorem Chd.ne {o:Option HO} (h:Chd o):o ≠ none:=by
 obtain ⟨u,rfl,_⟩:=h
 simp
def SqK (K:PySem.W.Frag) (H:Hp) (a:Addr) (xs:List V):Prop:=(∃ o,H a=some (.frz o (.lst xs))) ∨
 ∃ (o:Obj) (its:Array Value) (n:Nat),K.lookup a=some o∧o.cls = .type "list" ∧ o.dict=none∧o.data = .seq its n∧its.size ≤ sizeLine∧Vals xs its.toList
theorem SqK.sq {K:PySem.W.Frag} {H:Hp} {a:Addr} {xs:List V} (h:SqK K H a xs):SqL K H a xs:=by
 rcases h with ⟨o,h⟩ | h
 ·exact .inl (.inr ⟨o,h⟩)
 ·exact .inr h
def ju (H:Hp) (a:Addr) (xs:List V):Prop:=H a=some (.tup xs)
theorem ju.sq {K:PySem.W.Frag} {H:Hp} {a:Addr} {xs:List V} (h:ju H a xs):SqT K H a xs:=.inl (.inl h)
theorem ju.same {H H':Hp} {a:Addr} {xs:List V} (e:Same H H') (h:ju H a xs):ju H' a xs:=e _ _ h
theorem ju.upd {H:Hp} {a b:Addr} {xs:List V} {u o:HO} [cu:Chg u] (h:H a=some u) (q:ju H b xs):ju (upd H a o) b xs:=by
 unfold ju
 rw [dg (zm q h (by intro z;subst z;exact cu.tup))]
 exact q
def dk0:List (D × D)→List (Key × V)
 | []=>[]
 | (.int i,.int j) :: r=>(.inl i,.int j) :: dk0 r
 | (.int i,.bool true) :: r=>(.inl i,.bl true) :: dk0 r
 | _ :: r=>(.inl 0,.non) :: dk0 r
def tkK:List D→Option (List Key)
 | []=>some []
 | .int i :: r=>(tkK r).map (.inl i :: ·)
 | _=>none
def tkD:List (D × D)→Option (List (List Key × V))
 | []=>some []
 | (.tuple l,.bool true) :: r=>(tkK l).bind fun k=>(tkD r).map ((k,.bl true) :: ·)
 | _=>none
def dh0 (kvs:List (D × D)):HO:=match kvs with
 | []=>.dK []
 | q :: r=>match tkD (q :: r) with
  | some ts=>.dT ts
  | none=>.dK (dk0 (q :: r))
theorem zX (kvs:List (D × D)):(∃ ks,dh0 kvs = .dK ks)∨∃ ks,dh0 kvs = .dT ks:=by
 cases kvs with
 | nil=>exact .inl ⟨_,rfl⟩
 | cons q r =>
  unfold dh0
  dsimp only
  split
  ·exact .inr ⟨_,rfl⟩
  ·exact .inl ⟨_,rfl⟩
instance (kvs:List (D × D)):Chg (dh0 kvs):=⟨by
 rcases zX kvs with ⟨ks,z⟩ | ⟨ks,z⟩
 ·exact .inr (.inl ⟨ks,z⟩)
 ·exact .inr (.inr ⟨ks,z⟩)⟩
def scV:D→V
 | .int i=>.int i
 | _=>.non
def scs:List D→Bool
 | []=>true
 | .int _ :: r=>scs r
 | .none :: r=>scs r
 | _=>false
def TV (H:Hp) (v:V) (d:D):Prop:=(v = .non∧d = .none)∨∃ b ds,v = .ref b∧d = .tuple ds∧ju H b (ds.map scV)∧scs ds=true
inductive TVs (H:Hp):List (Key × V)→List (D × D)→Prop
 | nil:TVs H [] []
 | cons {i:Int} {v:V} {d:D} {r:List (Key × V)} {r':List (D × D)}:TV H v d→TVs H r r'→TVs H ((.inl i,v) :: r) ((.int i,d) :: r')
theorem TV.imp {H H':Hp} (h:∀ b xs,ju H b xs→ju H' b xs) {v:V} {d:D} (q:TV H v d):TV H' v d:=by
 rcases q with q | ⟨b,ds,h1,h2,h3,h4⟩
 ·exact .inl q
 ·exact .inr ⟨b,ds,h1,h2,h _ _ h3,h4⟩
theorem TVs.imp {H H':Hp} (h:∀ b xs,ju H b xs→ju H' b xs) {ks:List (Key × V)} {kvs:List (D × D)} (q:TVs H ks kvs):TVs H' ks kvs:=by
 induction q with
 | nil=>exact .nil
 | cons t _ ih=>exact .cons (t.imp h) ih
def Dj:List (D × D)→Bool
 | []=>true
 | (_,.int _) :: r=>Dj r
 | (_,.bool _) :: r=>Dj r
 | _=>false
def DH (H:Hp) (u:HO) (kvs:List (D × D)):Prop:=(Dj kvs=true∧u=dh0 kvs)∨∃ ks,u = .dK ks∧TVs H ks kvs
theorem DH.imp {H H':Hp} (h:∀ b xs,ju H b xs→ju H' b xs) {u:HO} {kvs:List (D × D)} (q:DH H u kvs):DH H' u kvs:=by
 rcases q with q | ⟨ks,q1,q2⟩
 ·exact .inl q
 ·exact .inr ⟨ks,q1,q2.imp h⟩
theorem DH.same {H H':Hp} {u:HO} {kvs:List (D × D)} (q:DH H u kvs) (e:Same H H'):DH H' u kvs:=q.imp fun _ _ h=>ju.same e h
theorem DH.upd {H:Hp} {a:Addr} {u o u':HO} [cu:Chg u] {kvs:List (D × D)} (q:DH H u' kvs) (h:H a=some u):DH (upd H a o) u' kvs:=q.imp fun _ _ z=>ju.upd h z
theorem DH.or {H:Hp} {u:HO} {kvs:List (D × D)} (q:DH H u kvs):(∃ ks,u = .dK ks)∨∃ ks,u = .dT ks:=by
 rcases q with ⟨_,rfl⟩ | ⟨ks,rfl,_⟩
 ·exact zX kvs
 ·exact .inl ⟨ks,rfl⟩
theorem DH.chg {H:Hp} {u:HO} {kvs:List (D × D)} (q:DH H u kvs):Chg u:=⟨.inr q.or⟩
theorem DH.old {H:Hp} {u:HO} {kvs:List (D × D)} (q:DH H u kvs) (h:Dj kvs=true):u=dh0 kvs:=by
 rcases q with q | ⟨ks,rfl,q⟩
 ·exact q.2
 ·cases q with
  | nil=>rfl
  | cons t _ =>
   rcases t with ⟨_,rfl⟩ | ⟨_,_,_,rfl,_,_⟩ <;> cases h
mutual
inductive RA (K:PySem.W.Frag) (ok:Ok) (pl:Bool) (H:Hp):V→D→Prop
 | non:RA K ok pl H .non .none
 | bl (b:Bool):RA K ok pl H (.bl b) (.bool b)
 | int (i:Int):RA K ok pl H (.int i) (.int i)
 | str (x:Str):RA K ok pl H (.str x) (.str x)
 | lst {a:Addr} {xs:List V} {ds:List D}:H a=some (.lst xs)→ok a→RAs K ok pl H xs ds→RA K ok pl H (.ref a) (.list ds)
 | lsk {a:Addr} {xs:List V} {ds:List D}:SqK K H a xs→pl=true→RAs K ok pl H xs ds→RA K ok pl H (.ref a) (.list ds)
 | tup {a:Addr} {xs:List V} {ds:List D}:ju H a xs→RAs K ok pl H xs ds→RA K ok pl H (.ref a) (.tuple ds)
 | dic {a:Addr} {u:HO} {kvs:List (D × D)}:H a=some u→DH H u kvs→ok a→RA K ok pl H (.ref a) (.dict kvs)
 | dik {a:Addr} {u:HO} {kvs:List (D × D)} {o:Obj}:H a=some (.frz o u)→DH H u kvs→pl=true→RA K ok pl H (.ref a) (.dict kvs)
inductive RAs (K:PySem.W.Frag) (ok:Ok) (pl:Bool) (H:Hp):List V→List D→Prop
 | nil:RAs K ok pl H [] []
 | cons {v:V} {d:D} {vs:List V} {ds:List D}:RA K ok pl H v d→RAs K ok pl H vs ds→RAs K ok pl H (v :: vs) (d :: ds)
end
section
variable {K:PySem.W.Frag} {ok ok':Ok} {pl pl':Bool} {H H':Hp}
theorem RA.ind {P:V→D→Prop} {Q:List V→List D→Prop} (c1:P .non .none) (c2:∀ b,P (.bl b) (.bool b)) (c3:∀ i,P (.int i) (.int i)) (c4:∀ x,P (.str x) (.str x))
 (c5:∀ {a:Addr} {xs:List V} {ds:List D},H a=some (.lst xs)→ok a→Q xs ds→P (.ref a) (.list ds)) (c6:∀ {a:Addr} {xs:List V} {ds:List D},SqK K H a xs→pl=true→Q xs ds→P (.ref a) (.list ds)) (c7:∀ {a:Addr} {xs:List V} {ds:List D},ju H a xs→Q xs ds→P (.ref a) (.tuple ds))
 (c8:∀ {a:Addr} {u:HO} {kvs:List (D × D)},H a=some u→DH H u kvs→ok a→P (.ref a) (.dict kvs)) (c9:∀ {a:Addr} {u:HO} {kvs:List (D × D)} {o:Obj},H a=some (.frz o u)→DH H u kvs→pl=true→P (.ref a) (.dict kvs)) (c10:Q [] []) (c11:∀ {v:V} {d:D} {vs:List V} {ds:List D},P v d→Q vs ds→Q (v :: vs) (d :: ds)) :
 (∀ {v:V} {d:D},RA K ok pl H v d→P v d)∧∀ {v:List V} {d:List D},RAs K ok pl H v d→Q v d :=
 ⟨fun h=>RA.rec (motive_1:=fun v d _=>P v d) (motive_2:=fun v d _=>Q v d) c1 c2 c3 c4 (fun h o _ q=>c5 h o q) (fun h o _ q=>c6 h o q) (fun h _ q=>c7 h q) (fun h g o=>c8 h g o) (fun h g o=>c9 h g o) c10 (fun _ _ a q=>c11 a q) h,
  fun h=>RAs.rec (motive_1:=fun v d _=>P v d) (motive_2:=fun v d _=>Q v d) c1 c2 c3 c4 (fun h o _ q=>c5 h o q) (fun h o _ q=>c6 h o q) (fun h _ q=>c7 h q) (fun h g o=>c8 h g o) (fun h g o=>c9 h g o) c10 (fun _ _ a q=>c11 a q) h⟩
theorem RA.imp2 (ho:∀ a,ok a→ok' a) (hp:pl=true→pl'=true):(∀ {v:V} {d:D},RA K ok pl H v d→RA K ok' pl' H v d)∧∀ {v:List V} {d:List D},RAs K ok pl H v d→RAs K ok' pl' H v d :=
 RA.ind .non .bl .int .str (fun h o q=>.lst h (ho _ o) q) (fun h o q=>.lsk h (hp o) q) (fun h q=>.tup h q) (fun h g o=>.dic h g (ho _ o)) (fun h g o=>.dik h g (hp o)) .nil .cons
theorem RA.imp (ho:∀ a,ok a→ok' a) (hp:pl=true→pl'=true) {v:V} {d:D} (h:RA K ok pl H v d):RA K ok' pl' H v d:=(RA.imp2 ho hp).1 h
theorem RAs.imp (ho:∀ a,ok a→ok' a) (hp:pl=true→pl'=true) {v:List V} {d:List D} (h:RAs K ok pl H v d):RAs K ok' pl' H v d:=(RA.imp2 ho hp).2 h
theorem SqK.same {a:Addr} {xs:List V} (e:Same H H') (h:SqK K H a xs):SqK K H' a xs:=by
 rcases h with ⟨o,h⟩ | h
 ·exact .inl ⟨o,e _ _ h⟩
 ·exact .inr h
theorem RA.same2 (e:Same H H'):(∀ {v:V} {d:D},RA K ok pl H v d→RA K ok pl H' v d)∧∀ {v:List V} {d:List D},RAs K ok pl H v d→RAs K ok pl H' v d :=
 RA.ind .non .bl .int .str (fun h o q=>.lst (e _ _ h) o q) (fun h o q=>.lsk (h.same e) o q) (fun h q=>.tup (ju.same e h) q) (fun h g o=>.dic (e _ _ h) (g.same e) o) (fun h g o=>.dik (e _ _ h) (g.same e) o) .nil .cons
theorem RA.same (e:Same H H') {v:V} {d:D} (h:RA K ok pl H v d):RA K ok pl H' v d:=(RA.same2 e).1 h
theorem RAs.same (e:Same H H') {v:List V} {d:List D} (h:RAs K ok pl H v d):RAs K ok pl H' v d:=(RA.same2 e).2 h
theorem RA.flat2:(∀ {v:V} {d:D},RA K ok pl H v d→flat d=true→RA K ok' pl' H v d)∧∀ {v:List V} {d:List D},RAs K ok pl H v d→flats d=true→RAs K ok' pl' H v d :=
 RA.ind (fun _=>.non) (fun b _=>.bl b) (fun i _=>.int i) (fun x _=>.str x) (fun _ _ _ h=>by simp [D3.flat] at h) (fun _ _ _ h=>by simp [D3.flat] at h) (fun t q h=>.tup t (q (by simpa [D3.flat] using h))) (fun _ _ _ h=>by simp [D3.flat] at h) (fun _ _ _ h=>by simp [D3.flat] at h) (fun _=>.nil) fun a q h=>by
  rw [flats,aU] at h
  exact .cons (a h.1) (q h.2)
theorem RA.flat {v:V} {d:D} (hf:flat d=true) (h:RA K ok pl H v d):RA K ok' pl' H v d:=RA.flat2.1 h hf
theorem RAs.flat {v:List V} {d:List D} (hf:flats d=true) (h:RAs K ok pl H v d):RAs K ok' pl' H v d:=RA.flat2.2 h hf
theorem SqK.upd {a b:Addr} {xs:List V} {u o:HO} [cu:Chg u] (h:H a=some u) (q:SqK K H b xs):SqK K (upd H a o) b xs:=by
 rcases q with ⟨o',q⟩ | q
 ·refine .inl ⟨o',?_⟩
  rw [dg (zm q h (by intro z;subst z;first | exact cu.frz | exact cu.tup))]
  exact q
 ·exact .inr q
theorem RA.upd2 {a:Addr} {u o:HO} [cu:Chg u] (h:H a=some u) (na:¬ ok a):(∀ {v:V} {d:D},RA K ok pl H v d→RA K ok pl (upd H a o) v d)∧∀ {v:List V} {d:List D},RAs K ok pl H v d→RAs K ok pl (upd H a o) v d :=
 RA.ind .non .bl .int .str (fun e k q=>.lst (by rw [dg (by intro z;subst z;exact na k)];exact e) k q) (fun e k q=>.lsk (e.upd h) k q) (fun e q=>.tup (ju.upd h e) q) (fun e g k=>.dic (by rw [dg (by intro z;subst z;exact na k)];exact e) (g.upd h) k) (fun e g k=>.dik (by rw [dg (zm e h (by intro z;subst z;exact cu.frz))];exact e) (g.upd h) k) .nil .cons
theorem RA.upd {a:Addr} {u o:HO} [cu:Chg u] (h:H a=some u) (na:¬ ok a) {v:V} {d:D} (r:RA K ok pl H v d):RA K ok pl (upd H a o) v d:=(RA.upd2 h na).1 r
theorem RAs.upd {a:Addr} {u o:HO} [cu:Chg u] (h:H a=some u) (na:¬ ok a) {v:List V} {d:List D} (r:RAs K ok pl H v d):RAs K ok pl (upd H a o) v d:=(RA.upd2 h na).2 r
theorem RA.track2:(∀ {v:V} {d:D},RA K ok pl H v d→RA K (fun b=>ok b∧H b ≠ none) pl H v d)∧∀ {v:List V} {d:List D},RAs K ok pl H v d→RAs K (fun b=>ok b∧H b ≠ none) pl H v d :=
 RA.ind .non .bl .int .str (fun e k q=>.lst e ⟨k,by rw [e];simp⟩ q) (fun e k q=>.lsk e k q) (fun e q=>.tup e q) (fun e g k=>.dic e g ⟨k,by rw [e];simp⟩) (fun e g k=>.dik e g k) .nil .cons
theorem RA.track {v:V} {d:D} (h:RA K ok pl H v d):RA K (fun b=>ok b∧H b ≠ none) pl H v d:=RA.track2.1 h
theorem RAs.track {v:List V} {d:List D} (h:RAs K ok pl H v d):RAs K (fun b=>ok b∧H b ≠ none) pl H v d:=RA.track2.2 h
theorem RAs.length:∀ {v:List V} {d:List D},RAs K ok pl H v d→v.length=d.length
 | _,_,.nil=>rfl
 | _,_,.cons _ q=>by simp [RAs.length q]
theorem RAs.get:∀ {v:List V} {d:List D} {i:Nat} {x:D},RAs K ok pl H v d→d[i]? = some x→∃ y,v[i]? = some y∧RA K ok pl H y x
 | _,_,_,_,.nil,h=>by simp at h
 | _,_,0,_,.cons a _,h=>by simp at h;subst h;exact ⟨_,rfl,a⟩
 | _,_,i + 1,_,.cons _ q,h=>by
  obtain ⟨y,e,r⟩:=RAs.get (i:=i) q (by simpa using h)
  exact ⟨y,by simpa using e,r⟩
theorem RAs.append:∀ {v v':List V} {d d':List D},RAs K ok pl H v d→RAs K ok pl H v' d'→RAs K ok pl H (v++v') (d++d')
 | _,_,_,_,.nil,q=>q
 | _,_,_,_,.cons a r,q=>.cons a (RAs.append r q)
theorem RAs.take:∀ {v:List V} {d:List D} (n:Nat),RAs K ok pl H v d→RAs K ok pl H (v.take n) (d.take n)
 | _,_,0,_=>by simp;exact .nil
 | _,_,_ + 1,.nil=>.nil
 | _,_,n + 1,.cons a q=>.cons a (RAs.take n q)
theorem RAs.drop:∀ {v:List V} {d:List D} (n:Nat),RAs K ok pl H v d→RAs K ok pl H (v.drop n) (d.drop n)
 | _,_,0,q=>q
 | _,_,_ + 1,.nil=>.nil
 | _,_,n + 1,.cons _ q=>RAs.drop n q
theorem RAs.reverse:∀ {v:List V} {d:List D},RAs K ok pl H v d→RAs K ok pl H v.reverse d.reverse
 | _,_,.nil=>.nil
 | _,_,.cons a q=>by
  rw [iT,iT]
  exact (RAs.reverse q).append (.cons a .nil)
theorem RA.rd2:(∀ {v:V} {d:D},RA K ok pl H v d→d.canLay0=true→RdV K H v d)∧∀ {v:List V} {d:List D},RAs K ok pl H v d→PyData.canLayAll0 d=true→RdVs K H v d :=
 RA.ind (fun _=>.non) (fun b _=>.bl b) (fun i _=>.int i) (fun x _=>.str x) (fun e _ q h=>.lst (SqL.of e) (q (by simpa [PyData.canLay0] using h))) (fun e _ q h=>.lst e.sq (q (by simpa [PyData.canLay0] using h))) (fun e q h=>.tup e.sq (q (by simpa [PyData.canLay0] using h))) (fun _ _ _ h=>by simp [PyData.canLay0] at h) (fun _ _ _ h=>by simp [PyData.canLay0] at h) (fun _=>.nil) fun a q h=>by
  rw [PyData.canLayAll0,aU] at h
  exact .cons (a h.1) (q h.2)
theorem RA.rd {v:V} {d:D} (hf:d.canLay0=true) (h:RA K ok pl H v d):RdV K H v d:=RA.rd2.1 h hf
theorem RA.intE {v:V} {i:Int} (h:RA K ok pl H v (.int i)):v = .int i:=by cases h;rfl
theorem RA.blE {v:V} {b:Bool} (h:RA K ok pl H v (.bool b)):v = .bl b:=by cases h;rfl
theorem RA.lstE {v:V} {ds:List D} (h:RA K ok pl H v (.list ds)):∃ a xs,v = .ref a∧SqL K H a xs∧RAs K ok pl H xs ds:=by
 cases h with
 | lst e k q=>exact ⟨_,_,rfl,SqL.of e,q⟩
 | lsk e k q=>exact ⟨_,_,rfl,e.sq,q⟩
theorem RA.tupE {v:V} {ds:List D} (h:RA K ok pl H v (.tuple ds)):∃ a xs,v = .ref a∧SqT K H a xs∧RAs K ok pl H xs ds:=by
 cases h with
 | tup e q=>exact ⟨_,_,rfl,e.sq,q⟩
end
inductive Fl where
 | A
 | O
 | L
 | N
 | M
 deriving DecidableEq
def isN:Option Fl→Bool
 | some .N=>true
 | some .M=>true
 | _=>false
mutual
inductive RT (K:PySem.W.Frag) (H:Hp):V→D→List Addr→Prop
 | non:RT K H .non .none []
 | bl (b:Bool):RT K H (.bl b) (.bool b) []
 | int (i:Int):RT K H (.int i) (.int i) []
 | str (x:Str):RT K H (.str x) (.str x) []
 | lst {a:Addr} {xs:List V} {ds:List D} {as:List Addr}:H a=some (.lst xs)→RTs K H xs ds as→RT K H (.ref a) (.list ds) (a :: as)
 | tup {a:Addr} {xs:List V} {ds:List D} {as:List Addr}:ju H a xs→RTs K H xs ds as→RT K H (.ref a) (.tuple ds) as
 | dic {a:Addr} {u:HO} {kvs:List (D × D)}:H a=some u→DH H u kvs→RT K H (.ref a) (.dict kvs) [a]
inductive RTs (K:PySem.W.Frag) (H:Hp):List V→List D→List Addr→Prop
 | nil:RTs K H [] [] []
 | cons {v:V} {d:D} {vs:List V} {ds:List D} {as bs:List Addr}:RT K H v d as→RTs K H vs ds bs→RTs K H (v :: vs) (d :: ds) (as++bs)
end
section
variable {K:PySem.W.Frag} {H H':Hp}
theorem RT.ind {P:V→D→List Addr→Prop} {Q:List V→List D→List Addr→Prop} (c1:P .non .none []) (c2:∀ b,P (.bl b) (.bool b) []) (c3:∀ i,P (.int i) (.int i) []) (c4:∀ x,P (.str x) (.str x) [])
 (c5:∀ {a:Addr} {xs:List V} {ds:List D} {as:List Addr},H a=some (.lst xs)→Q xs ds as→P (.ref a) (.list ds) (a :: as)) (c7:∀ {a:Addr} {xs:List V} {ds:List D} {as:List Addr},ju H a xs→Q xs ds as→P (.ref a) (.tuple ds) as)
 (c8:∀ {a:Addr} {u:HO} {kvs:List (D × D)},H a=some u→DH H u kvs→P (.ref a) (.dict kvs) [a]) (c10:Q [] [] []) (c11:∀ {v:V} {d:D} {vs:List V} {ds:List D} {as bs:List Addr},P v d as→Q vs ds bs→Q (v :: vs) (d :: ds) (as++bs)) :
 (∀ {v:V} {d:D} {as:List Addr},RT K H v d as→P v d as)∧∀ {v:List V} {d:List D} {as:List Addr},RTs K H v d as→Q v d as :=
 ⟨fun h=>RT.rec (motive_1:=fun v d as _=>P v d as) (motive_2:=fun v d as _=>Q v d as) c1 c2 c3 c4 (fun h _ q=>c5 h q) (fun h _ q=>c7 h q) (fun h g=>c8 h g) c10 (fun _ _ a q=>c11 a q) h,
  fun h=>RTs.rec (motive_1:=fun v d as _=>P v d as) (motive_2:=fun v d as _=>Q v d as) c1 c2 c3 c4 (fun h _ q=>c5 h q) (fun h _ q=>c7 h q) (fun h g=>c8 h g) c10 (fun _ _ a q=>c11 a q) h⟩
theorem RT.ra2 {ok:Ok} {pl:Bool}:(∀ {v:V} {d:D} {as:List Addr},RT K H v d as→(∀ a ∈ as,ok a)→RA K ok pl H v d)∧∀ {v:List V} {d:List D} {as:List Addr},RTs K H v d as→(∀ a ∈ as,ok a)→RAs K ok pl H v d :=
 RT.ind (fun _=>.non) (fun b _=>.bl b) (fun i _=>.int i) (fun x _=>.str x) (fun e q h=>.lst e (h _ aM) (q fun a ha=>h a (aN _ ha))) (fun e q h=>.tup e (q h)) (fun e g h=>.dic e g (h _ aM)) (fun _=>.nil) fun e q h=>.cons (e fun a ha=>h a (b_ _ ha)) (q fun a ha=>h a (aV _ ha))
theorem RT.ra {ok:Ok} {pl:Bool} {v:V} {d:D} {as:List Addr} (r:RT K H v d as) (h:∀ a ∈ as,ok a):RA K ok pl H v d:=RT.ra2.1 r h
theorem RT.same2 (s:Same H H'):(∀ {v:V} {d:D} {as:List Addr},RT K H v d as→RT K H' v d as)∧∀ {v:List V} {d:List D} {as:List Addr},RTs K H v d as→RTs K H' v d as :=
 RT.ind .non .bl .int .str (fun e q=>.lst (s _ _ e) q) (fun e q=>.tup (ju.same s e) q) (fun e g=>.dic (s _ _ e) (g.same s)) .nil .cons
theorem RT.same (s:Same H H') {v:V} {d:D} {as:List Addr} (h:RT K H v d as):RT K H' v d as:=(RT.same2 s).1 h
theorem RT.upd2 {a:Addr} {u o:HO} [cu:Chg u] (h:H a=some u):(∀ {v:V} {d:D} {as:List Addr},RT K H v d as→a ∉ as→RT K (upd H a o) v d as)∧∀ {v:List V} {d:List D} {as:List Addr},RTs K H v d as→a ∉ as→RTs K (upd H a o) v d as :=
 RT.ind (fun _=>.non) (fun b _=>.bl b) (fun i _=>.int i) (fun x _=>.str x) (fun e q na=>.lst (by rw [dg (fun z=>na (by rw [← z];exact aM))];exact e) (q fun z=>na (aN _ z))) (fun e q na=>.tup (ju.upd h e) (q na)) (fun e g na=>.dic (by rw [dg (fun z=>na (by rw [← z];exact aM))];exact e) (g.upd h)) (fun _=>.nil) fun e q na=>.cons (e fun z=>na (b_ _ z)) (q fun z=>na (aV _ z))
theorem RT.upd {a:Addr} {u o:HO} [cu:Chg u] (h:H a=some u) {v:V} {d:D} {as:List Addr} (na:a ∉ as) (r:RT K H v d as):RT K (upd H a o) v d as:=(RT.upd2 h).1 r na
theorem RT.chd2:(∀ {v:V} {d:D} {as:List Addr},RT K H v d as→∀ a ∈ as,Chd (H a))∧∀ {v:List V} {d:List D} {as:List Addr},RTs K H v d as→∀ a ∈ as,Chd (H a) :=
 RT.ind (fun _ h=>by cases h) (fun _ _ h=>by cases h) (fun _ _ h=>by cases h) (fun _ _ h=>by cases h) (fun e q a h=>by
  rcases aQ.mp h with rfl | z
  ·exact ⟨_,e,inferInstance⟩
  ·exact q a z) (fun _ q=>q) (fun e g a h=>by rw [aX.mp h];exact ⟨_,e,g.chg⟩) (fun _ h=>by cases h) fun e q a h=>by
  rcases bD.mp h with z | z
  ·exact e a z
  ·exact q a z
theorem RT.chd {v:V} {d:D} {as:List Addr} (r:RT K H v d as):∀ a ∈ as,Chd (H a):=RT.chd2.1 r
theorem RTs.chd {v:List V} {d:List D} {as:List Addr} (r:RTs K H v d as):∀ a ∈ as,Chd (H a):=RT.chd2.2 r
theorem RT.tracked {v:V} {d:D} {as:List Addr} (h:RT K H v d as) (a:Addr) (ha:a ∈ as):H a ≠ none:=(h.chd a ha).ne
theorem RA.rt2 {ok:Ok}:(∀ {v:V} {d:D},RA K ok false H v d→∃ as,RT K H v d as∧as.length=nl d∧∀ a ∈ as,ok a)∧∀ {v:List V} {d:List D},RAs K ok false H v d→∃ as,RTs K H v d as∧as.length=nls d∧∀ a ∈ as,ok a :=
 RA.ind ⟨[],.non,rfl,fun _ h=>by cases h⟩ (fun b=>⟨[],.bl b,rfl,fun _ h=>by cases h⟩) (fun i=>⟨[],.int i,rfl,fun _ h=>by cases h⟩) (fun x=>⟨[],.str x,rfl,fun _ h=>by cases h⟩) (fun e k q=>by
  obtain ⟨as,h1,h2,h3⟩:=q
  refine ⟨_ :: as,.lst e h1,by rw [bL,h2,nl],fun a ha=>?_⟩
  rcases aQ.mp ha with rfl | z
  ·exact k
  ·exact h3 a z) (fun _ k _=>by cases k) (fun e q=>by
  obtain ⟨as,h1,h2,h3⟩:=q
  exact ⟨as,.tup e h1,by rw [h2,nl],h3⟩) (fun e g k=>⟨[_],.dic e g,by simp [nl],fun a ha=>by rw [aX.mp ha];exact k⟩) (fun _ _ k=>by cases k) ⟨[],.nil,rfl,fun _ h=>by cases h⟩ fun e q=>by
  obtain ⟨as,h1,h2,h3⟩:=e
  obtain ⟨bs,g1,g2,g3⟩:=q
  refine ⟨as++bs,.cons h1 g1,by rw [aP,h2,g2,nls],fun a ha=>?_⟩
  rcases bD.mp ha with z | z
  ·exact h3 a z
  ·exact g3 a z
theorem RA.rt {ok:Ok} {v:V} {d:D} (h:RA K ok false H v d):∃ as,RT K H v d as∧as.length=nl d∧∀ a ∈ as,ok a:=RA.rt2.1 h
end
def tabs:List (Addr × Str × Pos):=[]
def Tb (H:Hp):Prop:=∀ t ∈ tabs,H t.1=some (.tbl t.2.1 t.2.2)
theorem Tb.same {H H':Hp} (t:Tb H) (s:Same H H'):Tb H':=fun x hx=>s _ _ (t x hx)
structure Gh where
 H0:Hp
 HF:Hp
 pk:Nat→Option Addr
 pn:Nat→List Addr
 tb:Tb H0
structure Ow where
 s:Nat→Option Addr
 n:Nat→List Addr:=fun _=>[]
instance:CoeFun Ow (fun _=>Nat→Option Addr):=⟨Ow.s⟩
abbrev ow0:Ow:=⟨fun _=>none,fun _=>[]⟩
def okA (ow:Ow):Ok:=fun a=>(∀ i,ow i ≠ some a)∧∀ i,a ∉ ow.n i
structure Rel (K:PySem.W.Frag) (fl:List Fl) (G:Gh) (ow:Ow) (σ:St) (H:Hp) (δ:DS):Prop where
 s0:Same G.H0 G.HF
 s1:Same G.HF H
 len:σ.length=δ.length
 own:∀ i a,ow i=some a→G.H0 a=none∧((fl[i]? = some .O∧G.HF a=none)∨(fl[i]? = some .L∧∃ xs,G.HF a=some (.lst xs))) ∧
  ∃ xs ds,σ[i]? = some (some (.ref a))∧H a=some (.lst xs)∧RAs K (okA ow) true H xs ds∧δ[i]? = some (some (.d (.list ds)))
 inj:∀ i j a,ow i=some a→ow j=some a→i=j
 pin:∀ i,fl[i]? = some .L→ow i=G.pk i
 dat:∀ i d,δ[i]? = some (some (.d d))→isN fl[i]? = false→ow i=none→∃ v,σ[i]? = some (some v)∧RA K (okA ow) true H v d
 oo:∀ i d,δ[i]? = some (some (.d d))→isN fl[i]? = false→fl[i]? ≠ some .A→ow i=none→flat d=true
 nt:∀ i a,a ∈ ow.n i→G.H0 a=none∧Chd (H a)∧((fl[i]? = some .N∧G.HF a=none)∨fl[i]? = some .M)
 nd:∀ i j a,a ∈ ow.n i→a ∈ ow.n j→i=j
 ns:∀ i j a,a ∈ ow.n i→ow j ≠ some a
 np:∀ i,fl[i]? = some .M→ow.n i=G.pn i
 nr:∀ i d,isN fl[i]? = true→δ[i]? = some (some (.d d))→∃ v,σ[i]? = some (some v)∧RT K H v d (ow.n i)∧(ow.n i).Nodup
theorem Rel.tb {K:PySem.W.Frag} {fl:List Fl} {G:Gh} {ow:Ow} {σ:St} {H:Hp} {δ:DS} (R:Rel K fl G ow σ H δ):Tb H:=G.tb.same (R.s0.trans R.s1)
theorem Rel.same0 {K:PySem.W.Frag} {fl:List Fl} {G:Gh} {ow:Ow} {σ:St} {H:Hp} {δ:DS} (R:Rel K fl G ow σ H δ):Same G.H0 H:=R.s0.trans R.s1
theorem Rel.grow {K:PySem.W.Frag} {fl:List Fl} {G:Gh} {ow:Ow} {σ:St} {H H':Hp} {δ:DS} (R:Rel K fl G ow σ H δ) (e:Same H H'):Rel K fl G ow σ H' δ :=
 ⟨R.s0,R.s1.trans e,R.len,fun i a h=>by
  obtain ⟨h0,hf,xs,ds,h1,h2,h3,h4⟩:=R.own i a h
  exact ⟨h0,hf,xs,ds,h1,e _ _ h2,h3.same e,h4⟩,R.inj,R.pin,fun i d h1 hn h2=>by
  obtain ⟨v,h3,h4⟩:=R.dat i d h1 hn h2
  exact ⟨v,h3,h4.same e⟩,R.oo,fun i a h=>by
  obtain ⟨h1,h2,h3⟩:=R.nt i a h
  exact ⟨h1,(let ⟨u,z,c⟩:=h2;⟨u,e _ _ z,c⟩),h3⟩,R.nd,R.ns,R.np,fun i d h1 h2=>by
  obtain ⟨v,h3,h4,h5⟩:=R.nr i d h1 h2
  exact ⟨v,h3,h4.same e,h5⟩⟩
inductive Kd where
 | P
 | B (L:List Nat)
 | A
 | R
 | F
 | C
 | FC
 | T
def ok1:Ok:=fun _=>True
def ok0:Ok:=fun _=>False
def okN (H:Hp):Ok:=fun a=>H a=none
def Rs (K:PySem.W.Frag) (H0:Hp) (ow:Ow) (Hb H:Hp):Kd→V→D→Prop
 | .P,v,d=>RA K ok1 true H v d
 | .B L,v,d=>RA K (okA ow) true H v d∨∃ i ∈ L,∃ a xs ds,ow i=some a∧v = .ref a∧d = .list ds∧H a=some (.lst xs)∧RAs K (okA ow) true H xs ds
 | .A,v,d=>RA K (okA ow) true H v d
 | .R,v,d=>RA K (okN H0) false H v d
 | .F,v,d=>(flat d=true∧RA K ok0 false H v d)∨∃ a xs ds,v = .ref a∧d = .list ds∧Hb a=none∧H a=some (.lst xs)∧RAs K (fun b=>okA ow b∧b ≠ a) true H xs ds
 | .C,v,d=>RA K (okN Hb) false H v d
 | .T,v,d=>∃ as,RT K H v d as∧as.Nodup∧∀ a ∈ as,Hb a=none
 | .FC,v,d=>(flat d=true∧RA K ok0 false H v d)∨∃ a xs ds,v = .ref a∧d = .list ds∧Hb a=none∧H a=some (.lst xs)∧RAs K (fun b=>okN Hb b∧b ≠ a) false H xs ds
section
variable {K:PySem.W.Frag} {Hb H H':Hp} {fl:List Fl} {G:Gh} {ow:Ow} {σ:St} {δ:DS} {v:V} {d:D}
theorem tU (R:Rel K fl G ow σ Hb δ) {a:Addr} (h:Hb a=none):okA ow a:=⟨fun i e=>(by
 obtain ⟨_,_,xs,_,_,h2,_⟩:=R.own i a e
 rw [h] at h2
 cases h2),fun i e=>(R.nt i a e).2.1.ne h⟩
theorem KY (R:Rel K fl G ow σ Hb δ) {a:Addr} (h:Hb a=none):okN G.H0 a:=R.same0.free h
theorem Rs.FC_F (R:Rel K fl G ow σ Hb δ) (h:Rs K G.H0 ow Hb H .FC v d):Rs K G.H0 ow Hb H .F v d:=by
 rcases h with h | ⟨a,xs,ds,h1,h2,h3,h4,h5⟩
 ·exact .inl h
 ·exact .inr ⟨a,xs,ds,h1,h2,h3,h4,h5.imp (fun b z=>⟨tU R z.1,z.2⟩) (fun _=>rfl)⟩
theorem Rs.FC_C (h:Rs K G.H0 ow Hb H .FC v d):Rs K G.H0 ow Hb H .C v d:=by
 rcases h with h | ⟨a,xs,ds,rfl,rfl,h3,h4,h5⟩
 ·exact RA.flat h.1 h.2
 ·exact .lst h4 h3 (h5.imp (fun b z=>z.1) (fun z=>z))
theorem Rs.F_A (R:Rel K fl G ow σ Hb δ) (h:Rs K G.H0 ow Hb H .F v d):Rs K G.H0 ow Hb H .A v d:=by
 rcases h with h | ⟨a,xs,ds,rfl,rfl,h3,h4,h5⟩
 ·exact RA.flat h.1 h.2
 ·exact .lst h4 (tU R h3) (h5.imp (fun b z=>z.1) (fun z=>z))
theorem Rs.C_A (R:Rel K fl G ow σ Hb δ) (h:Rs K G.H0 ow Hb H .C v d):Rs K G.H0 ow Hb H .A v d:=RA.imp (fun _ z=>tU R z) (fun _=>rfl) h
theorem Rs.C_R (R:Rel K fl G ow σ Hb δ) (h:Rs K G.H0 ow Hb H .C v d):Rs K G.H0 ow Hb H .R v d:=RA.imp (fun _ z=>KY R z) (fun z=>z) h
theorem Rs.A_B (L:List Nat) (h:Rs K G.H0 ow Hb H .A v d):Rs K G.H0 ow Hb H (.B L) v d:=.inl h
theorem Rs.B_P {L:List Nat} (h:Rs K G.H0 ow Hb H (.B L) v d):Rs K G.H0 ow Hb H .P v d:=by
 rcases h with h | ⟨i,_,a,xs,ds,_,rfl,rfl,h4,h5⟩
 ·exact RA.imp (fun _ _=>trivial) (fun z=>z) h
 ·exact .lst h4 trivial (h5.imp (fun _ _=>trivial) (fun z=>z))
theorem Rs.P_flat (hf:flat d=true) (h:Rs K G.H0 ow Hb H .P v d):Rs K G.H0 ow Hb H .FC v d:=.inl ⟨hf,RA.flat hf h⟩
end
def tD (K:PySem.W.Frag) (fl:List Fl) (k:Kd) (f:FE):TE:=fun σ H Q=>∃ G ow δ d,Rel K fl G ow σ H δ∧f δ=some d∧∀ v H',Same H H'→Rs K G.H0 ow H H' k v d→Q v H'
abbrev DE (X:Cx) (fl:List Fl) (k:Kd) (e:Expr) (f:FE):Prop:=PE X e (tD X.K fl k f)
def tDA (K:PySem.W.Frag) (fl:List Fl) (f:FA):TA:=fun σ H Q=>∃ G ow δ ds,Rel K fl G ow σ H δ∧f δ=some ds∧∀ vs H',Same H H'→RAs K ok1 true H' vs ds→Q vs H'
abbrev DA (X:Cx) (fl:List Fl) (es:List Expr) (f:FA):Prop:=PA X es (tDA X.K fl f)
def tDT (K:PySem.W.Frag) (fl:List Fl) (f:FT):TT:=fun σ H Q=>∃ G ow δ b,Rel K fl G ow σ H δ∧f δ=some b∧∀ H',Same H H'→Q b H'
abbrev DT (X:Cx) (fl:List Fl) (e:Expr) (f:FT):Prop:=PT X e (tDT X.K fl f)
abbrev DW (X:Cx) (fl:List Fl) (e:Expr) (f:FT):Prop:=PW X e (tDT X.K fl f)
def vK (K:PySem.W.Frag) (fl:List Fl) (G:Gh) (Dn:Ends):Oc→Prop
 | .nx δ'=>∀ ow' σ' H',Rel K fl G ow' σ' H' δ'→Dn.nx σ' H'
 | .rt d=>∀ v H',Same G.H0 H'→RA K (okN G.H0) false H' v d→Dn.rt v H'
 | .bk δ'=>∀ ow' σ' H',Rel K fl G ow' σ' H' δ'→Dn.bk σ' H'
 | .ct δ'=>∀ ow' σ' H',Rel K fl G ow' σ' H' δ'→Dn.ct σ' H'
 | .ex _ _ d=>∀ v H',Same G.H0 H'→RA K ok1 true H' v d→Dn.rt v H'
def tDS (K:PySem.W.Frag) (fl:List Fl) (f:FS):TS:=fun Dn σ H=>∃ G ow δ o,Rel K fl G ow σ H δ∧f δ=some o∧vK K fl G Dn o
abbrev DS1 (X:Cx) (fl:List Fl) (s:Stmt) (f:FS):Prop:=PS X s (tDS X.K fl f)
abbrev DSs (X:Cx) (fl:List Fl) (s:List Stmt) (f:FS):Prop:=PSs X s (tDS X.K fl f)
def tDG (K:PySem.W.Frag) (fl:List Fl) (tg:List Nat) (g:FG):TG:=fun v σ H Q=>∃ G ow δ d δ',Rel K fl G ow σ H δ∧RA K (okA ow) true H v d∧g d δ=some δ'∧∀ σ',Rel K fl G ow σ' H δ'→(∀ j,j ∉ tg→σ'[j]? = σ[j]?)→Q σ' H
abbrev DG (X:Cx) (fl:List Fl) (tg:List Nat) (e:Expr) (g:FG):Prop:=PG X e (tDG X.K fl tg g)
section
variable {X:Cx} {e:Expr} {es:List Expr} {st:Stmt} {sts:List Stmt}
theorem PE.imp {t t':TE} (h:PE X e t) (i:∀ σ H Q,t' σ H Q→t σ H Q):PE X e t':=fun pins s σ H Q I q=>h pins s σ H Q I (i σ H Q q)
theorem PT.imp {t t':TT} (h:PT X e t) (i:∀ σ H Q,t' σ H Q→t σ H Q):PT X e t':=fun pins s σ H Q I q=>h pins s σ H Q I (i σ H Q q)
theorem PW.imp {t t':TT} (h:PW X e t) (i:∀ σ H Q,t' σ H Q→t σ H Q):PW X e t':=fun w pins s σ H Q I q=>h w pins s σ H Q I (i σ H Q q)
theorem PA.imp {t t':TA} (h:PA X es t) (i:∀ σ H Q,t' σ H Q→t σ H Q):PA X es t':=fun p pins s σ H Q I q=>h p pins s σ H Q I (i σ H Q q)
theorem PS.imp {t t':TS} (h:PS X st t) (i:∀ D σ H,t' D σ H→t D σ H):PS X st t':=fun pins s σ H D I q=>h pins s σ H D I (i D σ H q)
theorem PSs.imp {t t':TS} (h:PSs X sts t) (i:∀ D σ H,t' D σ H→t D σ H):PSs X sts t':=fun pins s σ H D I q=>h pins s σ H D I (i D σ H q)
theorem PG.imp {t t':TG} (h:PG X e t) (i:∀ v σ H Q,t' v σ H Q→t v σ H Q):PG X e t':=fun pins s σ H v u Q I r q=>h pins s σ H v u Q I r (i v σ H Q q)
end
end D3
namespace D3
open PySem PySem.Spec PyProof.Rows L2 My
section
variable {X:Cx} {fl:List Fl} {e a b c:Expr} {es:List Expr} {k:Kd} {f fa fb fc:FE} {pos:Pos}
theorem tV {i:Nat} {δ:DS} {d:D} (h:aJ i δ=some d):δ[i]? = some (some (.d d)):=by
 unfold aJ at h
 split at h
 ·next x e=>rw [e];cases h;rfl
 ·cases h
theorem tW (i:Nat) (hfl:fl[i]? = some .A) {x:Str} (hN:X.N[i]? = some x:=by rfl) (hv:Vis X.env.scope x:=by first | exact Or.inl rfl | exact Or.inr (Or.inl rfl) | exact Or.inr (Or.inr rfl)) (hd:(x == ("__debug__" : Str))=false:=by decide)
 (hcd:(x == ("__classdict__" : Str))=false:=by decide):DE X fl .A (.Name x pos) (aJ i):=by
 refine PE.imp (vC hN hv hd hcd) fun σ H Q h=>?_
 obtain ⟨G,ow,δ,d,R,hf,q⟩:=h
 have e:=tV hf
 cases ho:ow i with
 | none =>
  obtain ⟨v,h1,h2⟩:=R.dat i d e (by rw [hfl];rfl) ho
  exact ⟨v,h1,q v H (Same.refl H) h2⟩
 | some a =>
  obtain ⟨h0,hz,_⟩:=R.own i a ho
  rw [hfl] at hz
  rcases hz with ⟨z,_⟩ | ⟨z,_⟩ <;> cases z
theorem Dk (i:Nat) (hfl:fl[i]? ≠ some .A) {x:Str} (hN:X.N[i]? = some x:=by rfl) (hv:Vis X.env.scope x:=by first | exact Or.inl rfl | exact Or.inr (Or.inl rfl) | exact Or.inr (Or.inr rfl)) (hd:(x == ("__debug__" : Str))=false:=by decide)
 (hcd:(x == ("__classdict__" : Str))=false:=by decide) (hn:isN fl[i]? = false:=by rfl):DE X fl .R (.Name x pos) (zU (aJ i)):=by
 refine PE.imp (vC hN hv hd hcd) fun σ H Q h=>?_
 obtain ⟨G,ow,δ,d,R,hf,q⟩:=h
 unfold zU at hf
 cases hv':aJ i δ with
 | none=>rw [hv'] at hf;cases hf
 | some d' =>
  rw [hv',aD] at hf
  by_cases hc:fl1 d'=true
  ·rw [if_pos hc] at hf
   cases hf
   have e:=tV hv'
   cases ho:ow i with
   | none =>
    obtain ⟨v,h1,h2⟩:=R.dat i d e hn ho
    exact ⟨v,h1,q v H (Same.refl H) (RA.flat (R.oo i d e hn hfl ho) h2)⟩
   | some a =>
    obtain ⟨h0,_,xs,ds,h1,h2,h3,h4⟩:=R.own i a ho
    rw [e] at h4
    cases h4
    exact ⟨_,h1,q _ H (Same.refl H) (.lst h2 h0 (RAs.flat hc h3))⟩
  ·rw [if_neg hc] at hf
   cases hf
theorem lG {k k':Kd} (h:DE X fl k e f) (hc:∀ (Hb H:Hp) (G:Gh) (ow:Ow) (σ:St) (δ:DS) (v:V) (d:D),Rel X.K fl G ow σ Hb δ→Rs X.K G.H0 ow Hb H k v d→Rs X.K G.H0 ow Hb H k' v d):DE X fl k' e f:=by
 refine PE.imp h fun σ H Q h=>?_
 obtain ⟨G,ow,δ,d,R,hf,q⟩:=h
 exact ⟨G,ow,δ,d,R,hf,fun v H' s r=>q v H' s (hc _ _ G ow σ δ v d R r)⟩
theorem zY {k k':Kd} {p:D→Bool} (h:DE X fl k e f) (hc:∀ (Hb H:Hp) (G:Gh) (ow:Ow) (σ:St) (δ:DS) (v:V) (d:D),p d=true→Rel X.K fl G ow σ Hb δ→Rs X.K G.H0 ow Hb H k v d→Rs X.K G.H0 ow Hb H k' v d) :
 DE X fl k' e (fun δ=>(f δ).bind fun d=>if p d=true then some d else none):=by
 refine PE.imp h fun σ H Q h=>?_
 obtain ⟨G,ow,δ,d,R,hf,q⟩:=h
 dsimp only at hf
 cases hv:f δ with
 | none=>rw [hv] at hf;cases hf
 | some d' =>
  rw [hv,aD] at hf
  by_cases hp:p d'=true
  ·rw [if_pos hp] at hf
   cases hf
   exact ⟨G,ow,δ,d,R,hv,fun v H' s r=>q v H' s (hc _ _ G ow σ δ v d hp R r)⟩
  ·rw [if_neg hp] at hf
   cases hf
theorem zZ (h:DE X fl .FC e f):DE X fl .F e f:=lG h fun _ _ _ _ _ _ _ _ R r=>r.FC_F R
theorem jh (h:DE X fl .FC e f):DE X fl .C e f:=lG h fun _ _ _ _ _ _ _ _ R r=>r.FC_C
theorem jB (h:DE X fl .F e f):DE X fl .A e f:=lG h fun _ _ _ _ _ _ _ _ R r=>r.F_A R
theorem jR (h:DE X fl .C e f):DE X fl .A e f:=lG h fun _ _ _ _ _ _ _ _ R r=>r.C_A R
theorem KZ (h:DE X fl .C e f):DE X fl .R e f:=lG h fun _ _ _ _ _ _ _ _ R r=>r.C_R R
theorem fY (h:DE X fl .A e f):DE X fl (.B []) e f:=lG h fun _ _ _ _ _ _ _ _ R r=>Rs.A_B [] r
theorem K1 {L:List Nat} (h:DE X fl (.B L) e f):DE X fl .P e f:=lG h fun _ _ _ _ _ _ _ _ R r=>r.B_P
theorem gH (h:DE X fl .P e f):DE X fl .FC e (eH f):=zY h fun _ _ _ _ _ _ _ _ hf R r=>r.P_flat hf
theorem eU (h:DE X fl .FC e f):DE X fl .A e f:=jB (zZ h)
theorem cN (h:DE X fl .FC e f):DE X fl .R e f:=KZ (jh h)
theorem fP (h:DE X fl .A e f):DE X fl .P e f:=K1 (fY h)
theorem fZ (h:DE X fl .C e f):DE X fl .P e f:=fP (jR h)
theorem cg (h:DE X fl .FC e f):DE X fl .P e f:=fP (eU h)
theorem Gq (h:DE X fl .F e f):DE X fl .P e f:=fP (jB h)
theorem vL {v:V} {d:D} (h:PE X e (tC v)) (hf:flat d=true) (hr:∀ H,RA X.K ok0 false H v d):DE X fl .FC e (dC d):=by
 refine PE.imp h fun σ H Q h=>?_
 obtain ⟨G,ow,δ,d',R,hd,q⟩:=h
 cases hd
 exact q v H (Same.refl H) (.inl ⟨hf,hr H⟩)
theorem qw {i j pos}:DE X fl .FC (.Constant (.int i) j pos) (dC (.int i)):=vL GX rfl fun _=>.int _
theorem sy {b j pos}:DE X fl .FC (.Constant (.bool b) j pos) (dC (.bool b)):=vL J1 rfl fun _=>.bl _
theorem qx {j pos}:DE X fl .FC (.Constant .none j pos) (dC .none):=vL GZ rfl fun _=>.non
def BrO (K:PySem.W.Frag) (r:R2) (g:D→D→Option D):Prop:=∀ (H:Hp) (x y:V) (dx dy d:D) (Q:VK),RA K ok1 true H x dx→RA K ok1 true H y dy→g dx dy=some d→(∀ v,flat d=true→RA K ok0 false H v d→Q v H)→r x y H Q
theorem wJ {fa fb:FE} {g:D→D→Option D} {δ:DS} {d:D} (h:dOp g fa fb δ=some d):∃ x y,fa δ=some x∧fb δ=some y∧g x y=some d:=by
 unfold dOp at h
 cases ha:fa δ with
 | none=>rw [ha] at h;cases h
 | some x =>
  rw [ha,aD] at h
  cases hb:fb δ with
  | none=>rw [hb] at h;cases h
  | some y =>
   rw [hb,aD] at h
   exact ⟨x,y,rfl,rfl,h⟩
theorem bind1 {α β:Type} {x:Option α} {g:α→Option β} {d:β} (h:x.bind g=some d):∃ y,x=some y∧g y=some d:=by
 cases x with
 | none=>cases h
 | some y=>exact ⟨y,rfl,h⟩
theorem sE {r:R2} {g:D→D→Option D} {σ:St} {H:Hp} {Q:VK} (hb:BrO X.K r g) (h:tD X.K fl .FC (dOp g fa fb) σ H Q):tOp r (tD X.K fl .P fa) (tD X.K fl .P fb) σ H Q:=by
 obtain ⟨G,ow,δ,d,R,hf,q⟩:=h
 obtain ⟨x,y,e1,e2,e3⟩:=wJ hf
 refine ⟨G,ow,δ,x,R,e1,fun v H1 s1 r1=>⟨G,ow,δ,y,R.grow s1,e2,fun u H2 s2 r2=>?_⟩⟩
 exact hb H2 v u x y d Q (RA.same s2 r1) r2 e3 fun z hz rz=>q z H2 (s1.trans s2) (.inl ⟨hz,rz⟩)
theorem cQ {op:Operator} {r:R2} {g:D→D→Option D} (ho:OpR X (binaryOp op) r) (hb:BrO X.K r g) (h1:DE X fl .P a fa) (h2:DE X fl .P b fb):DE X fl .FC (.BinOp a op b pos) (dOp g fa fb) :=
 PE.imp (zF ho h1 h2) fun _ _ _ h=>sE hb h
theorem fO {op:CmpOp} {r:R2} {g:D→D→Option D} (ho:OpR X (compareOp op) r) (hb:BrO X.K r g) (h1:DE X fl .P a fa) (h2:DE X fl .P b fb) (hm:behindInMarks op b=false):DT X fl (.Compare a [op] [b] pos) (cT (dOp g fa fb)):=by
 refine PT.imp (Cz ho h1 h2 hm) fun σ H Q h=>?_
 obtain ⟨G,ow,δ,c,R,hf,q⟩:=h
 obtain ⟨d,e1,e2⟩:=bind1 hf
 cases d <;> first | (cases e2;done) | skip
 cases e2
 refine sE (fl:=fl) (fa:=fa) (fb:=fb) hb ⟨G,ow,δ,_,R,e1,fun v H' s r=>?_⟩
 obtain rfl:=(Rs.FC_C r).blE
 exact ⟨_,rfl,q H' s⟩
theorem vM (h:DE X fl .P e f) (he:∀ whole,isTrue e X.env whole=(do let v ← whole;standAt e.pos;holding [v] (truthy v)):=by intro _;rfl):DT X fl e (cT f):=by
 refine PT.imp (G5 h he) fun σ H Q h=>?_
 obtain ⟨G,ow,δ,c,R,hf,q⟩:=h
 obtain ⟨d,e1,e2⟩:=bind1 hf
 cases d <;> first | (cases e2;done) | skip
 cases e2
 refine ⟨G,ow,δ,_,R,e1,fun v H' s r=>?_⟩
 obtain rfl:=RA.blE r
 exact ⟨_,rfl,q H' s⟩
theorem sG {K:PySem.W.Frag} {h:Int→Int→V} {g:Int→Int→D} (hf:∀ i j,flat (g i j)=true) (hr:∀ H i j,RA K ok0 false H (h i j) (g i j)):BrO K (rI0 h) (gI fun i j=>some (g i j)):=by
 intro H x y dx dy d Q rx ry e q
 unfold gI at e
 split at e
 ·next i j =>
  cases e
  exact ⟨i,j,rx.intE,ry.intE,q _ (hf i j) (hr H i j)⟩
 ·cases e
theorem Dm {K:PySem.W.Frag} {C:Int→Int→Prop} {h:Int→Int→V} {g:Int→Int→D} {c:Int→Int→Bool} (hc:∀ i j,c i j=true→C i j) (hf:∀ i j,flat (g i j)=true) (hr:∀ H i j,RA K ok0 false H (h i j) (g i j)) :
 BrO K (rI C h) (gI fun i j=>if c i j=true then some (g i j) else none):=by
 intro H x y dx dy d Q rx ry e q
 unfold gI at e
 split at e
 ·next i j =>
  dsimp only at e
  by_cases z:c i j=true
  ·rw [if_pos z] at e
   cases e
   exact ⟨i,j,rx.intE,ry.intE,hc i j z,q _ (hf i j) (hr H i j)⟩
  ·rw [if_neg z] at e
   cases e
 ·cases e
end
section
variable {X:Cx} {K:PySem.W.Frag}
theorem Dp {i j:Int} (h:qm i j=true):IntMulOk i j:=by
 unfold qm at h
 rw [Bool.or_eq_true,Bool.or_eq_true,aU] at h
 rcases h with (h | h) | ⟨h1,h2⟩
 ·exact IntMulOk.of_left (PySem.intBits_le_iff.mpr (of_decide_eq_true h))
 ·exact IntMulOk.of_right (PySem.intBits_le_iff.mpr (of_decide_eq_true h))
 ·exact PySem.IntMulOk.of_le (PySem.intBits_le_iff.mpr (of_decide_eq_true h1)) (PySem.intBits_le_iff.mpr (of_decide_eq_true h2)) (by decide)
theorem j5:OpR X (binaryOp .Mult) (rI (fun i j=>qm i j=true) fun i j=>.int (i * j)):=opI fun _ _ _ _ _ _ _ hc q=>mul_int q (Dp hc)
theorem tX:OpR X (binaryOp .FloorDiv) (rI (fun i j=>vJ i j=true) fun i j=>.int (i.fdiv j)):=opI fun i j _ _ _ _ _ hc q=>by
 unfold vJ at hc
 rw [aU] at hc
 have h1:=of_decide_eq_true hc.1
 have h2:=of_decide_eq_true hc.2
 refine floordiv_int h1 q (.inl (PyProof.noPylong_of_log2 ?_))
 exact (Nat.log2_lt (by omega)).mpr h2
theorem Dq {i j:Int} (h:Hv i j=true):Hh i j:=by
 unfold Hv at h
 rw [aU,aU] at h
 have h1:=of_decide_eq_true h.1.1
 have h2:=of_decide_eq_true h.1.2
 exact ⟨h1,by omega,of_decide_eq_true h.2⟩
theorem iw:BrO K (rI0 fun i j=>.int (i + j)) iQ:=sG (fun _ _=>rfl) fun _ _ _=>.int _
theorem Gr:BrO K (rI0 fun i j=>.int (i - j)) yj:=sG (fun _ _=>rfl) fun _ _ _=>.int _
theorem pC:BrO K (rI (fun i j=>qm i j=true) fun i j=>.int (i * j)) m5:=Dm (fun _ _ h=>h) (fun _ _=>rfl) fun _ _ _=>.int _
theorem z6:BrO K (rI (fun i j=>vJ i j=true) fun i j=>.int (i.fdiv j)) rK:=Dm (fun _ _ h=>h) (fun _ _=>rfl) fun _ _ _=>.int _
theorem oh:BrO K (rI (fun _ j=>j ≠ 0) fun i j=>.int (i.fmod j)) nC:=Dm (fun _ _ h=>of_decide_eq_true h) (fun _ _=>rfl) fun _ _ _=>.int _
theorem K3:BrO K (rI Hh fun i j=>.int (i ^ j.toNat)) Hw:=Dm (fun _ _ h=>Dq h) (fun _ _=>rfl) fun _ _ _=>.int _
theorem b_lt:BrO K (rI0 fun i j=>.bl (decide (i < j))) gLt:=sG (fun _ _=>rfl) fun _ _ _=>.bl _
theorem Ny:BrO K (rI0 fun i j=>.bl (decide (i ≤ j))) gLe:=sG (fun _ _=>rfl) fun _ _ _=>.bl _
theorem yr:BrO K (rI0 fun i j=>.bl (decide (j < i))) gGt:=sG (fun _ _=>rfl) fun _ _ _=>.bl _
theorem K4:BrO K (rI0 fun i j=>.bl (decide (j ≤ i))) gGe:=sG (fun _ _=>rfl) fun _ _ _=>.bl _
theorem Hy:BrO K (Kr K) gEq:=by
 intro H x y dx dy d Q rx ry e q
 unfold gEq at e
 by_cases z:(SeqAt.shaped dx && SeqAt.shaped dy)=true
 ·rw [if_pos z] at e
  cases e
  rw [aU] at z
  exact ⟨dx,dy,rx.rd (SeqAt.canLay_of_shaped z.1),ry.rd (SeqAt.canLay_of_shaped z.2),z.1,z.2,q _ rfl (.bl _)⟩
 ·rw [if_neg z] at e
  cases e
theorem uO:BrO K (Ks K) gNe:=by
 intro H x y dx dy d Q rx ry e q
 unfold gNe at e
 by_cases z:(SeqAt.shaped dx && SeqAt.shaped dy)=true
 ·rw [if_pos z] at e
  cases e
  rw [aU] at z
  exact ⟨dx,dy,rx.rd (SeqAt.canLay_of_shaped z.1),ry.rd (SeqAt.canLay_of_shaped z.2),z.1,z.2,q _ rfl (.bl _)⟩
 ·rw [if_neg z] at e
  cases e
end
end D3
namespace D3
open PySem PySem.Spec PyProof.Rows L2 My
section
variable {X:Cx} {fl:List Fl} {e a b c:Expr} {es:List Expr} {st:Stmt} {sts body orelse:List Stmt} {k:Kd} {f fa fb fc:FE} {fs gs:FS} {ft gt:FT} {pos:Pos}
theorem vK.nx_imp {K:PySem.W.Frag} {G:Gh} {Dn:Ends} {N:St→Hp→Prop} {o:Oc} (h:vK K fl G Dn o) (hn:∀ δ',o ≠ .nx δ'):vK K fl G { Dn with nx:=N } o:=by
 cases o with
 | nx δ'=>exact absurd rfl (hn δ')
 | rt d=>exact h
 | bk δ'=>exact h
 | ct δ'=>exact h
 | ex c f v=>exact h
theorem eG:DSs X fl [] jt:=PSs.imp Cq fun Dn σ H h=>by
 obtain ⟨G,ow,δ,o,R,hf,q⟩:=h
 cases hf
 exact q ow σ H R
theorem bf (h1:DS1 X fl st fs) (h2:DSs X fl sts gs):DSs X fl (st :: sts) (dF fs gs):=PSs.imp (zu h1 h2) fun Dn σ H h=>by
 obtain ⟨G,ow,δ,o,R,hf,q⟩:=h
 obtain ⟨o1,e1,e2⟩:=bind1 hf
 refine ⟨G,ow,δ,o1,R,e1,?_⟩
 cases o1 with
 | nx δ'=>exact fun ow' σ' H' R'=>⟨G,ow',δ',o,R',e2,q⟩
 | rt d=>cases e2;exact vK.nx_imp q (fun _ z=>by cases z)
 | bk d=>cases e2;exact vK.nx_imp q (fun _ z=>by cases z)
 | ct d=>cases e2;exact vK.nx_imp q (fun _ z=>by cases z)
 | ex c f v=>cases e2;exact q
theorem bR (h1:DS1 X fl st fs):DSs X fl [st] fs:=PSs.imp (Cr h1) fun _ _ _ h=>h
theorem cU (h:DE X fl .R e f):DS1 X fl (.Return (some e) pos) (fX f):=PS.imp (G8 h) fun Dn σ H h=>by
 obtain ⟨G,ow,δ,o,R,hf,q⟩:=h
 obtain ⟨d,e1,e2⟩:=bind1 hf
 cases e2
 exact ⟨G,ow,δ,d,R,e1,fun v H' s r=>q v H' (R.same0.trans s) r⟩
theorem je (hc:DT X fl c ft) (h1:DSs X fl body fs) (h2:DSs X fl orelse gs):DS1 X fl (.If c body orelse pos) (sIf ft fs gs):=PS.imp (J4 hc h1 h2) fun Dn σ H h=>by
 obtain ⟨G,ow,δ,o,R,hf,q⟩:=h
 obtain ⟨t,e1,e2⟩:=bind1 hf
 refine ⟨G,ow,δ,t,R,e1,fun H' s=>?_⟩
 cases t with
 | true=>exact CZ ⟨G,ow,δ,o,R.grow s,e2,q⟩
 | false=>exact CW ⟨G,ow,δ,o,R.grow s,e2,q⟩
theorem iY {α:Type} {l:List (Option α)} {i j:Nat} {x y:α} (h:(l.set i (some x))[j]? = some (some y)):(j=i∧x=y)∨(j ≠ i∧l[j]? = some (some y)):=by
 rw [List.getElem?_set] at h
 by_cases e:i=j
 ·subst e
  rw [if_pos rfl] at h
  by_cases z:i < l.length
  ·rw [if_pos z] at h
   cases h
   exact .inl ⟨rfl,rfl⟩
  ·rw [if_neg z] at h
   cases h
 ·rw [if_neg e] at h
  exact .inr ⟨fun z=>e z.symm,h⟩
theorem Rel.setA {K:PySem.W.Frag} {G:Gh} {ow:Ow} {σ:St} {H:Hp} {δ:DS} {i:Nat} {v:V} {d:D} (R:Rel K fl G ow σ H δ) (hfl:fl[i]? = some .A) (hi:i < σ.length) (r:RA K (okA ow) true H v d) :
 Rel K fl G ow (σ.set i (some v)) H (δ.set i (some (.d d))):=by
 have no:∀ a,ow i ≠ some a:=fun a z=>by
  obtain ⟨_,hz,_⟩:=R.own i a z
  rw [hfl] at hz
  rcases hz with ⟨z,_⟩ | ⟨z,_⟩ <;> cases z
 refine ⟨R.s0,R.s1,by rw [dX,dX];exact R.len,fun j a h=>?_,R.inj,R.pin,fun j d' h1 hn h2=>?_,fun j d' h1 hn h2 h3=>?_,R.nt,R.nd,R.ns,R.np,fun j d' hn h1=>?_⟩
 ·have hj:j ≠ i:=fun z=>no a (z ▸ h)
  obtain ⟨h0,hf,xs,ds,h1,h2,h3,h4⟩:=R.own j a h
  exact ⟨h0,hf,xs,ds,by rw [bw (Ne.symm hj)];exact h1,h2,h3,by rw [bw (Ne.symm hj)];exact h4⟩
 ·rcases iY h1 with ⟨rfl,e⟩ | ⟨hj,e⟩
  ·cases e
   exact ⟨v,by rw [cM hi],r⟩
  ·obtain ⟨v',h3,h4⟩:=R.dat j d' e hn h2
   exact ⟨v',by rw [bw (Ne.symm hj)];exact h3,h4⟩
 ·rcases iY h1 with ⟨rfl,e⟩ | ⟨hj,e⟩
  ·exact absurd hfl h2
  ·exact R.oo j d' e hn h2 h3
 ·rcases iY h1 with ⟨rfl,e⟩ | ⟨hj,e⟩
  ·rw [hfl] at hn;cases hn
  ·obtain ⟨v',h3,h4⟩:=R.nr j d' hn e
   exact ⟨v',by rw [bw (Ne.symm hj)];exact h3,h4⟩
def pD (ow:Ow) (i:Nat) (a:Option Addr):Ow:=⟨fun j=>if j=i then a else ow j,ow.n⟩
theorem gC {ow:Ow} {i:Nat} {a:Option Addr}:pD ow i a i=a:=if_pos rfl
theorem dN {ow:Ow} {i j:Nat} {a:Option Addr} (h:j ≠ i):pD ow i a j=ow j:=if_neg h
theorem Rel.setO {K:PySem.W.Frag} {G:Gh} {ow:Ow} {σ:St} {H H':Hp} {δ:DS} {i:Nat} {v:V} {d:D} (R:Rel K fl G ow σ H δ) (s:Same H H') (hfl:fl[i]? = some .O) (hi:i < σ.length) (r:Rs K G.H0 ow H H' .F v d) :
 ∃ ow',Rel K fl G ow' (σ.set i (some v)) H' (δ.set i (some (.d d))):=by
 have R':=R.grow s
 have sub0:∀ b,okA ow b→okA (pD ow i none) b:=fun b z=>⟨fun j e=>by
  by_cases hj:j=i
  ·subst hj;rw [gC] at e;cases e
  ·rw [dN hj] at e;exact z.1 j e,z.2⟩
 have nrs:∀ j d',isN fl[j]? = true→(δ.set i (some (.d d)))[j]? = some (some (.d d'))→∃ v',(σ.set i (some v))[j]? = some (some v')∧RT K H' v' d' (ow.n j)∧(ow.n j).Nodup:=fun j d' hn h1=>by
  rcases iY h1 with ⟨rfl,e⟩ | ⟨hj,e⟩
  ·rw [hfl] at hn;cases hn
  ·obtain ⟨v',h3,h4⟩:=R'.nr j d' hn e
   exact ⟨v',by rw [bw (Ne.symm hj)];exact h3,h4⟩
 rcases r with ⟨hfd,r⟩ | ⟨a,xs,ds,rfl,rfl,ha,hx,hr⟩
 ·refine ⟨pD ow i none,R'.s0,R'.s1,by rw [dX,dX];exact R.len,fun j a h=>?_,fun j j' a h h'=>?_,fun j h=>?_,fun j d' h1 hn h2=>?_,fun j d' h1 hn h2 h3=>?_,R'.nt,R'.nd,fun j j' a h h'=>?_,R'.np,nrs⟩
  ·have hj:j ≠ i:=fun z=>by subst z;rw [gC] at h;cases h
   rw [dN hj] at h
   obtain ⟨h0,hf,xs,ds,h1,h2,h3,h4⟩:=R'.own j a h
   exact ⟨h0,hf,xs,ds,by rw [bw (Ne.symm hj)];exact h1,h2,h3.imp sub0 (fun z=>z),by rw [bw (Ne.symm hj)];exact h4⟩
  ·have hj:j ≠ i:=fun z=>by subst z;rw [gC] at h;cases h
   have hj':j' ≠ i:=fun z=>by subst z;rw [gC] at h';cases h'
   rw [dN hj] at h
   rw [dN hj'] at h'
   exact R.inj j j' a h h'
  ·have hj:j ≠ i:=fun z=>by subst z;rw [hfl] at h;cases h
   rw [dN hj]
   exact R.pin j h
  ·rcases iY h1 with ⟨rfl,e⟩ | ⟨hj,e⟩
   ·cases e
    exact ⟨v,by rw [cM hi],RA.flat hfd r⟩
   ·rw [dN hj] at h2
    obtain ⟨v',h3,h4⟩:=R'.dat j d' e hn h2
    exact ⟨v',by rw [bw (Ne.symm hj)];exact h3,h4.imp sub0 (fun z=>z)⟩
  ·rcases iY h1 with ⟨rfl,e⟩ | ⟨hj,e⟩
   ·cases e
    exact hfd
   ·rw [dN hj] at h3
    exact R.oo j d' e hn h2 h3
  ·by_cases hj:j'=i
   ·subst hj;rw [gC] at h';cases h'
   ·rw [dN hj] at h';exact R.ns j j' a h h'
 ·have sub:∀ b,okA ow b∧b ≠ a→okA (pD ow i (some a)) b:=fun b z=>⟨fun j e=>by
   by_cases hj:j=i
   ·subst hj;rw [gC] at e;exact z.2 (d8.inj e).symm
   ·rw [dN hj] at e;exact z.1.1 j e,z.1.2⟩
  have old:∀ {v:V} {d:D},RA K (okA ow) true H v d→RA K (okA (pD ow i (some a))) true H' v d:=fun r=>(r.track.imp (fun b z=>sub b ⟨z.1,fun e=>z.2 (e ▸ ha)⟩) (fun z=>z)).same s
  have olds:∀ {v:List V} {d:List D},RAs K (okA ow) true H v d→RAs K (okA (pD ow i (some a))) true H' v d:=fun r=>(r.track.imp (fun b z=>sub b ⟨z.1,fun e=>z.2 (e ▸ ha)⟩) (fun z=>z)).same s
  have nota:∀ j,ow j ≠ some a:=fun j z=>by
   obtain ⟨_,_,_,_,_,h2,_⟩:=R.own j a z
   rw [ha] at h2
   cases h2
  have hF:G.HF a=none:=R.s1.free ha
  refine ⟨pD ow i (some a),R'.s0,R'.s1,by rw [dX,dX];exact R.len,fun j b h=>?_,fun j j' b h h'=>?_,fun j h=>?_,fun j d' h1 hn h2=>?_,fun j d' h1 hn h2 h3=>?_,R'.nt,R'.nd,fun j j' b h h'=>?_,R'.np,nrs⟩
  ·by_cases hj:j=i
   ·subst hj
    rw [gC] at h
    cases h
    exact ⟨R.same0.free ha,.inl ⟨hfl,hF⟩,xs,ds,by rw [cM hi],hx,hr.imp sub (fun z=>z),by rw [cM (by rw [← R.len];exact hi)]⟩
   ·rw [dN hj] at h
    obtain ⟨h0,hf,ys,ds',h1,h2,h3,h4⟩:=R.own j b h
    exact ⟨h0,hf,ys,ds',by rw [bw (Ne.symm hj)];exact h1,s _ _ h2,olds h3,by rw [bw (Ne.symm hj)];exact h4⟩
  ·by_cases hj:j=i
   ·by_cases hj':j'=i
    ·rw [hj,hj']
    ·subst hj
     rw [gC] at h
     cases h
     rw [dN hj'] at h'
     exact absurd h' (nota j')
   ·rw [dN hj] at h
    by_cases hj':j'=i
    ·subst hj'
     rw [gC] at h'
     cases h'
     exact absurd h (nota j)
    ·rw [dN hj'] at h'
     exact R.inj j j' b h h'
  ·have hj:j ≠ i:=fun z=>by subst z;rw [hfl] at h;cases h
   rw [dN hj]
   exact R.pin j h
  ·rcases iY h1 with ⟨rfl,e⟩ | ⟨hj,e⟩
   ·rw [gC] at h2;cases h2
   ·rw [dN hj] at h2
    obtain ⟨v',h3,h4⟩:=R.dat j d' e hn h2
    exact ⟨v',by rw [bw (Ne.symm hj)];exact h3,old h4⟩
  ·rcases iY h1 with ⟨rfl,e⟩ | ⟨hj,e⟩
   ·rw [gC] at h3;cases h3
   ·rw [dN hj] at h3
    exact R.oo j d' e hn h2 h3
  ·by_cases hj:j'=i
   ·subst hj
    rw [gC] at h'
    cases h'
    exact (R.nt j a h).2.1.ne ha
   ·rw [dN hj] at h';exact R.ns j j' b h h'
theorem Rel.mut {K:PySem.W.Frag} {G:Gh} {ow:Ow} {σ:St} {H:Hp} {δ:DS} {i:Nat} {a:Addr} {ys:List V} {ds:List D} (R:Rel K fl G ow σ H δ) (hfl:fl[i]? = some .O) (ho:ow i=some a) (r:RAs K (okA ow) true H ys ds) :
 Rel K fl G ow σ (upd H a (.lst ys)) (δ.set i (some (.d (.list ds)))):=by
 obtain ⟨h0,hz,xs,ds0,e1,e2,e3,e4⟩:=R.own i a ho
 have na:¬ okA ow a:=fun z=>z.1 i ho
 have hF:G.HF a=none:=by
  rcases hz with ⟨_,z⟩ | ⟨z,_⟩
  ·exact z
  ·rw [hfl] at z;cases z
 have hi:i < δ.length:=by
  rcases dM i δ.length with z | z
  ·exact z
  ·rw [cJ z] at e4;cases e4
 refine ⟨R.s0,fun b o hb=>?_,by rw [dX];exact R.len,fun j b h=>?_,R.inj,R.pin,fun j d' h1 hn h2=>?_,fun j d' h1 hn h2 h3=>?_,fun j b h=>?_,R.nd,R.ns,R.np,fun j d' hn h1=>?_⟩
 ·rw [dg (fun z=>by subst z;rw [hF] at hb;cases hb)]
  exact R.s1 b o hb
 ·by_cases hj:j=i
  ·subst hj
   rw [ho] at h
   cases h
   exact ⟨h0,hz,ys,ds,e1,fD,r.upd e2 na,by rw [cM hi]⟩
  ·obtain ⟨h0',hf',zs,ds',h1,h2,h3,h4⟩:=R.own j b h
   have hb:b ≠ a:=fun z=>hj (R.inj j i a (z ▸ h) ho)
   exact ⟨h0',hf',zs,ds',h1,by rw [dg hb];exact h2,h3.upd e2 na,by rw [bw (Ne.symm hj)];exact h4⟩
 ·rcases iY h1 with ⟨rfl,e⟩ | ⟨hj,e⟩
  ·rw [ho] at h2;cases h2
  ·obtain ⟨v',h3,h4⟩:=R.dat j d' e hn h2
   exact ⟨v',h3,h4.upd e2 na⟩
 ·rcases iY h1 with ⟨rfl,e⟩ | ⟨hj,e⟩
  ·rw [ho] at h3;cases h3
  ·exact R.oo j d' e hn h2 h3
 ·obtain ⟨g1,g2,g3⟩:=R.nt j b h
  refine ⟨g1,?_,g3⟩
  by_cases hb:b=a
  ·rw [hb,fD];exact ⟨_,rfl,inferInstance⟩
  ·rw [dg hb];exact g2
 ·rcases iY h1 with ⟨rfl,e⟩ | ⟨hj,e⟩
  ·rw [hfl] at hn;cases hn
  ·obtain ⟨v',h3,h4,h5⟩:=R.nr j d' hn e
   exact ⟨v',h3,h4.upd e2 (fun z=>R.ns j i a z ho),h5⟩
theorem pR {K:PySem.W.Frag} {G:Gh} {ow:Ow} {σ:St} {H:Hp} {δ:DS} {i:Nat} (R:Rel K fl G ow σ H δ) (h:i < δ.length):i < σ.length:=by rw [R.len];exact h
theorem Dr {i:Nat} {x:Str} {pos':Pos} (hfl:fl[i]? = some .A) (hN:X.N.Nodup) (hi:X.N[i]? = some x) (hv:X.env.scope.names.lookup x=some .local∨X.env.scope.names.lookup x=some .cell) (h:DE X fl .A e f)
 (hs:swapsWith e (some (.Name x pos')) pos.line X.env=pure false:=by rfl) (hfn:X.fn x=true∨X.env.scope.names.lookup x=some .local:=by first | exact .inl rfl | exact .inr rfl) :
 DS1 X fl (.Assign [.Name x pos'] e pos) (cI i f):=PS.imp (zE (i:=i) hN hi hv h hs hfn) fun Dn σ H h=>by
 obtain ⟨G,ow,δ,o,R,hf,q⟩:=h
 unfold cI at hf
 by_cases hl:i < δ.length
 ·rw [if_pos hl] at hf
  obtain ⟨d,e1,e2⟩:=bind1 hf
  cases e2
  exact ⟨G,ow,δ,d,R,e1,fun v H' s r=>q ow _ H' ((R.grow s).setA hfl (pR R hl) r)⟩
 ·rw [if_neg hl] at hf
  cases hf
theorem Ds {i:Nat} {x:Str} {pos':Pos} (hfl:fl[i]? = some .O) (hN:X.N.Nodup) (hi:X.N[i]? = some x) (hv:X.env.scope.names.lookup x=some .local∨X.env.scope.names.lookup x=some .cell) (h:DE X fl .F e f)
 (hs:swapsWith e (some (.Name x pos')) pos.line X.env=pure false:=by rfl) (hfn:X.fn x=true∨X.env.scope.names.lookup x=some .local:=by first | exact .inl rfl | exact .inr rfl) :
 DS1 X fl (.Assign [.Name x pos'] e pos) (cI i f):=PS.imp (zE (i:=i) hN hi hv h hs hfn) fun Dn σ H h=>by
 obtain ⟨G,ow,δ,o,R,hf,q⟩:=h
 unfold cI at hf
 by_cases hl:i < δ.length
 ·rw [if_pos hl] at hf
  obtain ⟨d,e1,e2⟩:=bind1 hf
  cases e2
  refine ⟨G,ow,δ,d,R,e1,fun v H' s r=>?_⟩
  obtain ⟨ow',R'⟩:=R.setO s hfl (pR R hl) r
  exact q ow' _ H' R'
 ·rw [if_neg hl] at hf
  cases hf
theorem Dt {i:Nat} {x:Str} {pos:Pos} (hfl:fl[i]? = some .A) (hN:X.N.Nodup) (hi:X.N[i]? = some x) (hv:X.env.scope.names.lookup x=some .local∨X.env.scope.names.lookup x=some .cell)
 (hfn:X.fn x=true∨X.env.scope.names.lookup x=some .local:=by first | exact .inl rfl | exact .inr rfl):DG X fl [i] (.Name x pos) (gNl i) :=
 PG.imp (Cu (i:=i) hN hi hv hfn) fun v σ H Q h=>by
 obtain ⟨G,ow,δ,d,δ',R,r,hf,q⟩:=h
 unfold gNl at hf
 by_cases hl:i < δ.length
 ·rw [if_pos hl] at hf
  cases hf
  exact q _ (R.setA hfl (pR R hl) r) fun j hj=>bw (fun z=>hj (by rw [z];exact aX.mpr rfl))
 ·rw [if_neg hl] at hf
  cases hf
def Nz (K:PySem.W.Frag) (fl:List Fl) (tg:List Nat) (g:List D→DS→Option DS):TGs:=fun vs σ H Q=>∃ G ow δ ds δ',Rel K fl G ow σ H δ∧RAs K (okA ow) true H vs ds∧g ds δ=some δ'∧∀ σ',Rel K fl G ow σ' H δ'→(∀ j,j ∉ tg→σ'[j]? = σ[j]?)→Q σ' H
theorem PGs.imp {t t':TGs} (h:PGs X es t) (i:∀ v σ H Q,t' v σ H Q→t v σ H Q):PGs X es t':=fun pins s σ H v u Q I r q=>h pins s σ H v u Q I r (i v σ H Q q)
abbrev DGs (X:Cx) (fl:List Fl) (tg:List Nat) (es:List Expr) (g:List D→DS→Option DS):Prop:=PGs X es (Nz X.K fl tg g)
theorem wK:DGs X fl [] [] rZ:=PGs.imp Cv fun vs σ H Q h=>by
 obtain ⟨G,ow,δ,ds,δ',R,r,hf,q⟩:=h
 cases r with
 | nil=>cases hf;exact ⟨rfl,q σ R fun _ _=>rfl⟩
 | cons _ _=>cases hf
theorem mD {tg tg':List Nat} {g:FG} {gs:List D→DS→Option DS} (h1:DG X fl tg e g) (h2:DGs X fl tg' es gs) (hs:(assignEach (e :: es) X.env).map (·.2)=assign e X.env :: (assignEach es X.env).map (·.2):=by rfl) :
 DGs X fl (tg++tg') (e :: es) (jz g gs):=PGs.imp (zB h1 h2 hs) fun vs σ H Q h=>by
 obtain ⟨G,ow,δ,ds,δ',R,r,hf,q⟩:=h
 cases r with
 | nil=>cases hf
 | cons r1 r2 =>
  obtain ⟨δ1,e1,e2⟩:=bind1 hf
  refine ⟨_,_,rfl,G,ow,δ,_,δ1,R,r1,e1,fun σ' R' k1=>⟨G,ow,δ1,_,δ',R',r2,e2,fun σ'' R'' k2=>q σ'' R'' fun j hj=>?_⟩⟩
  rw [k2 j fun z=>hj (aV _ z),k1 j fun z=>hj (b_ _ z)]
theorem z7 {tg:List Nat} {gs:List D→DS→Option DS} {k n:Nat} (hc:X.calm=true) (h:DGs X fl tg es gs) (hn:(assignEach es X.env).length=n:=by rfl) (hst:(assignEach es X.env).findIdx? (·.1)=none:=by rfl) :
 DG X fl tg (.Tuple es k pos) (gTn n gs):=PG.imp (G9 (n:=n) hc h hn hst) fun v σ H Q h=>by
 obtain ⟨G,ow,δ,d,δ',R,r,hf,q⟩:=h
 unfold gTn at hf
 split at hf
 ·next l =>
  by_cases z:l.length=n
  ·rw [if_pos z] at hf
   obtain ⟨a,xs,rfl,hx,hr⟩:=r.tupE
   exact ⟨a,xs,rfl,hx,by rw [hr.length];exact z,G,ow,δ,l,δ',R,hr,hf,q⟩
  ·rw [if_neg z] at hf
   cases hf
 ·cases hf
end
end D3
namespace D3
open PySem PySem.Spec PyProof.Rows L2 My
section
variable {X:Cx} {fl:List Fl} {e a b c:Expr} {es:List Expr} {st:Stmt} {sts body orelse:List Stmt} {k:Kd} {f fa fb fc:FE} {fs gs:FS} {ft gt:FT} {pos:Pos}
theorem Hz {K:PySem.W.Frag} {G:Gh} {ow:Ow} {σ:St} {H:Hp} {δ:DS} {i:Nat} {l:List D} (R:Rel K fl G ow σ H δ) (hfl:fl[i]? = some .O) (h:aJ i δ=some (.list l)) :
 ∃ a xs,ow i=some a∧σ[i]? = some (some (.ref a))∧H a=some (.lst xs)∧RAs K (okA ow) true H xs l:=by
 have e:=tV h
 cases ho:ow i with
 | none =>
  have z:=R.oo i _ e (by rw [hfl];rfl) (by rw [hfl];simp) ho
  simp [flat] at z
 | some a =>
  obtain ⟨h0,_,xs,ds,h1,h2,h3,h4⟩:=R.own i a ho
  rw [e] at h4
  cases h4
  exact ⟨a,xs,rfl,h1,h2,h3⟩
def Gs (K:PySem.W.Frag) (ow:Ow) (L:List Nat) (H1:Hp) (J:It) (l:List D):Prop:=∀ H2:Hp,(∀ b o,H1 b=some o→(∀ i,ow i=some b→i ∈ L)→(∀ i,b ∉ ow.n i)→H2 b=some o)→∀ i:Nat,
 (∀ d,l[i]? = some d→J.go i H2∧∀ x H3,J.yld i H2 x H3→Same H2 H3∧RA K (fun b=>okA ow b∧H1 b ≠ none) true H3 x d)∧(l.length ≤ i→J.stop i H2)
def tDI (K:PySem.W.Frag) (fl:List Fl) (L:List Nat) (fi:FA):TI:=fun σ H R'=>∃ G ow δ l,Rel K fl G ow σ H δ∧fi δ=some l∧∀ J H1,Same H H1→Gs K ow L H1 J l→R' J H1
abbrev DI (X:Cx) (fl:List Fl) (L:List Nat) (tg iter:Expr) (fi:FA):Prop:=PI X tg iter (tDI X.K fl L fi)
theorem PI.imp {tg iter:Expr} {t t':TI} (h:PI X tg iter t) (i:∀ σ H R',t' σ H R'→t σ H R'):PI X tg iter t':=fun pins s σ H R' I q=>h pins s σ H R' I (i σ H R' q)
section
variable {K:PySem.W.Frag} {ok:Ok} {pl:Bool} {H1 H2:Hp} {ow:Ow} {L:List Nat}
theorem nm {b:Addr} {o:HO} (hl:∀ i b,ow i=some b→∃ xs,H1 b=some (.lst xs)) (h:H1 b=some o) (hn:∀ xs,o ≠ .lst xs):∀ i,ow i=some b→i ∈ L:=fun i e=>by
 obtain ⟨xs,z⟩:=hl i b e
 rw [h] at z
 exact absurd (d8.inj z) (hn xs)
theorem nm2 {b:Addr} {o:HO} (hl:∀ i b,b ∈ ow.n i→Chd (H1 b)) (h:H1 b=some o) (hn:Chg o→False):∀ i,b ∉ ow.n i:=fun i e=>by
 obtain ⟨u,z,c⟩:=hl i b e
 rw [h] at z
 cases z
 exact hn c
mutual
theorem RA.keep (hk:∀ b o,H1 b=some o→(∀ i,ow i=some b→i ∈ L)→(∀ i,b ∉ ow.n i)→H2 b=some o) (hl:∀ i b,ow i=some b→∃ xs,H1 b=some (.lst xs)) (hm:∀ i b,b ∈ ow.n i→Chd (H1 b)) (ho:∀ b,ok b→okA ow b):∀ {v:V} {d:D},RA K ok pl H1 v d→RA K ok pl H2 v d
 | _,_,.non=>.non
 | _,_,.bl b=>.bl b
 | _,_,.int i=>.int i
 | _,_,.str x=>.str x
 | _,_,.lst e k q=>.lst (hk _ _ e (fun i z=>absurd z ((ho _ k).1 i)) (ho _ k).2) k (RAs.keep hk hl hm ho q)
 | _,_,.lsk e k q=>.lsk (by
  rcases e with ⟨o,e⟩ | e
  ·exact .inl ⟨o,hk _ _ e (nm hl e (by intro xs z;cases z)) (nm2 hm e Chg.frz)⟩
  ·exact .inr e) k (RAs.keep hk hl hm ho q)
 | _,_,.tup e q=>.tup (hk _ _ e (nm hl e (by intro xs z;cases z)) (nm2 hm e Chg.tup)) (RAs.keep hk hl hm ho q)
 | _,_,.dic e g k=>.dic (hk _ _ e (fun i z=>absurd z ((ho _ k).1 i)) (ho _ k).2) (g.imp fun _ _ t=>hk _ _ t (nm hl t (by intro xs z;cases z)) (nm2 hm t Chg.tup)) k
 | _,_,.dik e g k=>.dik (hk _ _ e (nm hl e (by intro xs z;cases z)) (nm2 hm e Chg.frz)) (g.imp fun _ _ t=>hk _ _ t (nm hl t (by intro xs z;cases z)) (nm2 hm t Chg.tup)) k
theorem RAs.keep (hk:∀ b o,H1 b=some o→(∀ i,ow i=some b→i ∈ L)→(∀ i,b ∉ ow.n i)→H2 b=some o) (hl:∀ i b,ow i=some b→∃ xs,H1 b=some (.lst xs)) (hm:∀ i b,b ∈ ow.n i→Chd (H1 b)) (ho:∀ b,ok b→okA ow b):∀ {v:List V} {d:List D},RAs K ok pl H1 v d→RAs K ok pl H2 v d
 | _,_,.nil=>.nil
 | _,_,.cons e q=>.cons (RA.keep hk hl hm ho e) (RAs.keep hk hl hm ho q)
end
end
theorem Rel.ownL {K:PySem.W.Frag} {G:Gh} {ow:Ow} {σ:St} {H:Hp} {δ:DS} (R:Rel K fl G ow σ H δ):∀ i b,ow i=some b→∃ xs,H b=some (.lst xs):=fun i b e=>by
 obtain ⟨_,_,xs,_,_,h2,_⟩:=R.own i b e
 exact ⟨xs,h2⟩
theorem Rel.ownC {K:PySem.W.Frag} {G:Gh} {ow:Ow} {σ:St} {H:Hp} {δ:DS} (R:Rel K fl G ow σ H δ):∀ i b,b ∈ ow.n i→Chd (H b):=fun i b e=>(R.nt i b e).2.1
theorem vN {K:PySem.W.Frag} {G:Gh} {ow:Ow} {σ:St} {H Hb:Hp} {δ:DS} {L:List Nat} {v:V} {l:List D} (R:Rel K fl G ow σ H δ) (r:Rs K G.H0 ow Hb H (.B L) v (.list l)):∃ a xs,v = .ref a∧SqL K H a xs ∧
 ∀ H2:Hp,(∀ b o,H b=some o→(∀ i,ow i=some b→i ∈ L)→(∀ i,b ∉ ow.n i)→H2 b=some o)→SqL K H2 a xs∧RAs K (fun b=>okA ow b∧H b ≠ none) true H2 xs l:=by
 rcases r with r | ⟨i,hi,a,xs,ds,ho,rfl,e,hx,hr⟩
 ·cases r with
  | lst e k q=>exact ⟨_,_,rfl,SqL.of e,fun H2 hk=>⟨SqL.of (hk _ _ e (fun i z=>absurd z (k.1 i)) k.2),RAs.keep hk R.ownL R.ownC (fun b z=>z.1) q.track⟩⟩
  | lsk e k q=>exact ⟨_,_,rfl,e.sq,fun H2 hk=>⟨SqK.sq (by
   rcases e with ⟨o,e⟩ | e
   ·exact .inl ⟨o,hk _ _ e (nm R.ownL e (by intro xs z;cases z)) (nm2 R.ownC e Chg.frz)⟩
   ·exact .inr e),RAs.keep hk R.ownL R.ownC (fun b z=>z.1) q.track⟩⟩
 ·cases e
  exact ⟨a,xs,rfl,SqL.of hx,fun H2 hk=>⟨SqL.of (hk _ _ hx (fun j z=>by rw [R.inj j i a z ho];exact hi) (fun j z=>R.ns j i a z ho)),RAs.keep hk R.ownL R.ownC (fun b z=>z.1) hr.track⟩⟩
theorem iB {tg:Expr} {L:List Nat} (h:DE X fl (.B L) e f):DI X fl L tg e (oY f):=PI.imp (Cw h) fun σ H R' h=>by
 obtain ⟨G,ow,δ,l,R,hf,q⟩:=h
 obtain ⟨d,e1,e2⟩:=bind1 hf
 cases d <;> first | (cases e2;done) | skip
 cases e2
 refine ⟨G,ow,δ,_,R,e1,fun v H1 s r=>?_⟩
 obtain ⟨a,xs,rfl,hx,keep⟩:=vN (R.grow s) r
 refine ⟨a,rfl,⟨xs,hx⟩,q _ _ s fun H2 k2 i=>?_⟩
 obtain ⟨k3,k4⟩:=keep H2 k2
 refine ⟨fun d hd=>?_,fun hl=>⟨xs,k3,by rw [k4.length];exact hl⟩⟩
 obtain ⟨y,hy,ry⟩:=k4.get hd
 refine ⟨⟨xs,y,k3,hy⟩,fun x H3 hyl=>?_⟩
 obtain ⟨e,hz⟩:=hyl
 subst e
 have:some y=some x:=hy.symm.trans (hz xs k3)
 cases this
 exact ⟨Same.refl _,ry⟩
theorem z8 (lo hi:Int):(fU lo hi).length=(hi - lo).toNat:=by simp [fU]
theorem uP {K:PySem.W.Frag} {ow:Ow} {L:List Nat} {H1:Hp} (lo hi:Int):Gs K ow L H1 (Itr lo (hi - lo).toNat) (fU lo hi):=by
 intro H2 _ i
 refine ⟨fun d hd=>?_,fun hl=>by rw [z8] at hl;exact hl⟩
 unfold fU at hd
 rw [aZ] at hd
 by_cases hi':i < (hi - lo).toNat
 ·rw [dY hi'] at hd
  cases hd
  refine ⟨hi',fun x H3 hy=>?_⟩
  obtain ⟨e,e2⟩:=hy
  subst e e2
  exact ⟨Same.refl _,.int _⟩
 ·rw [cJ (by simpa using hi')] at hd
  cases hd
theorem mK {i:Int} (h:m6 i=true) : -(2 ^ 62) ≤ i∧i < 2 ^ 62:=by
 unfold m6 at h
 rw [aU] at h
 exact ⟨of_decide_eq_true h.1,of_decide_eq_true h.2⟩
theorem ji {tg:Expr} {L:List Nat} {p:Pos} {fa:FA} (hg:Gl X "range") (hm:X.mg "range" = none) (h:DA X fl [a] fa) (hs:starEach [a] X.env=[(false,eval a X.env)]:=by rfl):DI X fl L tg (.Call (.Name "range" p) [a] [] pos) (mC fa) :=
 PI.imp (xT hg hm h hs) fun σ H R' h=>by
 obtain ⟨G,ow,δ,l,R,hf,q⟩:=h
 obtain ⟨ds,e1,e2⟩:=bind1 hf
 split at e2
 ·next j =>
  by_cases z:m6 j=true
  ·rw [if_pos z] at e2
   cases e2
   refine ⟨G,ow,δ,_,R,e1,fun vs H1 s r=>?_⟩
   cases r with
   | cons r1 r2 =>
    cases r2
    obtain rfl:=r1.intE
    refine ⟨j,rfl,(mK z).1,(mK z).2,?_⟩
    have w:=uP (K:=X.K) (ow:=ow) (L:=L) (H1:=H1) 0 j
    rw [lA] at w
    exact q _ _ s w
  ·rw [if_neg z] at e2
   cases e2
 ·cases e2
theorem yt {tg:Expr} {L:List Nat} {p:Pos} {fa:FA} (hg:Gl X "range") (hm:X.mg "range" = none) (h:DA X fl [a,b] fa) (hs:starEach [a,b] X.env=[(false,eval a X.env),(false,eval b X.env)]:=by rfl) (hs2:starEach [b] X.env=[(false,eval b X.env)]:=by rfl) :
 DI X fl L tg (.Call (.Name "range" p) [a,b] [] pos) (wH fa):=PI.imp (xU hg hm h hs hs2) fun σ H R' h=>by
 obtain ⟨G,ow,δ,l,R,hf,q⟩:=h
 obtain ⟨ds,e1,e2⟩:=bind1 hf
 split at e2
 ·next i j =>
  by_cases z:(m6 i && m6 j)=true
  ·rw [if_pos z] at e2
   cases e2
   rw [aU] at z
   refine ⟨G,ow,δ,_,R,e1,fun vs H1 s r=>?_⟩
   cases r with
   | cons r1 r2 =>
    cases r2 with
    | cons r2 r3 =>
     cases r3
     obtain rfl:=r1.intE
     obtain rfl:=r2.intE
     exact ⟨i,j,rfl,⟨(mK z.1).1,(mK z.1).2,(mK z.2).1,(mK z.2).2⟩,q _ _ s (uP i j)⟩
  ·rw [if_neg z] at e2
   cases e2
 ·cases e2
def lock (L:List Nat) (fl:List Fl):List Fl:=fl.mapIdx fun i x=>if x = .O∧i ∈ L then .L else x
theorem jw {L:List Nat} {i:Nat}:(lock L fl)[i]? = (fl[i]?).map fun x=>if x = .O∧i ∈ L then .L else x:=by
 unfold lock
 rw [List.getElem?_mapIdx]
theorem z9 {L:List Nat} {i:Nat}:(lock L fl)[i]? = some .A↔fl[i]? = some .A:=by
 rw [jw]
 cases h:fl[i]? with
 | none=>simp
 | some x =>
  cases x <;> simp
  by_cases z:i ∈ L <;> simp [z]
theorem vO {L:List Nat} {i:Nat} (h:(lock L fl)[i]? = some .O):fl[i]? = some .O∧i ∉ L:=by
 rw [jw] at h
 cases e:fl[i]? with
 | none=>rw [e] at h;simp at h
 | some x =>
  rw [e] at h
  cases x <;> simp at h
  by_cases z:i ∈ L
  ·simp [z] at h
  ·exact ⟨rfl,z⟩
theorem vQ {L:List Nat} {i:Nat} (h:fl[i]? = some .L):(lock L fl)[i]? = some .L:=by
 rw [jw,h]
 simp
theorem wL {L:List Nat} {i:Nat} (h:fl[i]? = some .O) (hi:i ∈ L):(lock L fl)[i]? = some .L:=by
 rw [jw,h]
 simp [hi]
theorem wM {L:List Nat} {i:Nat} (h:fl[i]? = some .O) (hi:i ∉ L):(lock L fl)[i]? = some .O:=by
 rw [jw,h]
 simp [hi]
theorem tY {L:List Nat} {i:Nat}:(lock L fl)[i]? = some .N↔fl[i]? = some .N:=by
 rw [jw]
 cases h:fl[i]? with
 | none=>simp
 | some x =>
  cases x <;> simp
  by_cases z:i ∈ L <;> simp [z]
theorem vR {L:List Nat} {i:Nat}:(lock L fl)[i]? = some .M↔fl[i]? = some .M:=by
 rw [jw]
 cases h:fl[i]? with
 | none=>simp
 | some x =>
  cases x <;> simp
  by_cases z:i ∈ L <;> simp [z]
theorem kO {L:List Nat} {i:Nat}:isN (lock L fl)[i]? = isN fl[i]?:=by
 rw [jw]
 cases h:fl[i]? with
 | none=>rfl
 | some x =>
  cases x <;> simp [isN]
  by_cases z:i ∈ L <;> simp [z]
def Let (fl':List Fl) (ow:Ow) (b:Addr):Prop:=(∃ j,ow j=some b∧fl'[j]? = some .O)∨∃ j,b ∈ ow.n j∧fl'[j]? = some .N
open Classical in
noncomputable def ghL (fl':List Fl) (G:Gh) (ow:Ow) (H:Hp):Gh:=⟨G.H0,fun b=>if Let fl' ow b then none else H b,ow,ow.n,G.tb⟩
open Classical in
theorem lH {fl':List Fl} {G:Gh} {ow:Ow} {H:Hp} {b:Addr} (h:¬ Let fl' ow b):(ghL fl' G ow H).HF b=H b:=by
 unfold ghL
 dsimp only
 rw [if_neg h]
open Classical in
theorem vU {fl':List Fl} {G:Gh} {ow:Ow} {H:Hp} {b:Addr} (h:Let fl' ow b):(ghL fl' G ow H).HF b=none:=by
 unfold ghL
 dsimp only
 rw [if_pos h]
theorem Rel.lock {K:PySem.W.Frag} {G:Gh} {ow:Ow} {σ:St} {H:Hp} {δ:DS} (L:List Nat) (R:Rel K fl G ow σ H δ):Rel K (lock L fl) (ghL (lock L fl) G ow H) ow σ H δ:=by
 refine ⟨fun b o hb=>?_,fun b o hb=>?_,R.len,fun i a h=>?_,R.inj,fun i h=>rfl,fun i d h1 hn h2=>R.dat i d h1 (by rw [kO] at hn;exact hn) h2,fun i d h1 hn h2 h3=>R.oo i d h1 (by rw [kO] at hn;exact hn) (fun z=>h2 (z9.mpr z)) h3,fun i a h=>?_,R.nd,R.ns,fun i h=>rfl,fun i d hn h1=>R.nr i d (by rw [kO] at hn;exact hn) h1⟩
 ·have hb':G.H0 b=some o:=hb
  rw [lH]
  ·exact R.same0 b o hb'
  ·rintro (⟨j,e,_⟩ | ⟨j,e,_⟩)
   ·have:=(R.own j b e).1
    rw [hb'] at this
    cases this
   ·have:=(R.nt j b e).1
    rw [hb'] at this
    cases this
 ·by_cases z:Let (D3.lock L fl) ow b
  ·rw [vU z] at hb;cases hb
  ·rw [lH z] at hb;exact hb
 ·obtain ⟨h0,hf,xs,ds,h1,h2,h3,h4⟩:=R.own i a h
  refine ⟨h0,?_,xs,ds,h1,h2,h3,h4⟩
  have out:(D3.lock L fl)[i]? = some .L→(ghL (D3.lock L fl) G ow H).HF a=H a:=fun hl=>lH (by
   rintro (⟨j,e,hj⟩ | ⟨j,e,hj⟩)
   ·rw [R.inj j i a e h,hl] at hj
    cases hj
   ·exact R.ns j i a e h)
  rcases hf with ⟨hf,_⟩ | ⟨hf,_⟩
  ·by_cases hi:i ∈ L
   ·exact .inr ⟨wL hf hi,xs,by rw [out (wL hf hi)];exact h2⟩
   ·exact .inl ⟨wM hf hi,vU (.inl ⟨i,h,wM hf hi⟩)⟩
  ·exact .inr ⟨vQ hf,xs,by rw [out (vQ hf)];exact h2⟩
 ·obtain ⟨g1,g2,g3⟩:=R.nt i a h
  refine ⟨g1,g2,?_⟩
  rcases g3 with ⟨z,_⟩ | z
  ·exact .inl ⟨tY.mpr z,vU (.inr ⟨i,h,tY.mpr z⟩)⟩
  ·exact .inr (vR.mpr z)
theorem Rel.unlock {K:PySem.W.Frag} {G:Gh} {ow ow':Ow} {σ σ':St} {H H':Hp} {δ δ':DS} {L:List Nat} (R:Rel K fl G ow σ H δ) (R':Rel K (D3.lock L fl) (ghL (D3.lock L fl) G ow H) ow' σ' H' δ'):Rel K fl G ow' σ' H' δ':=by
 have sub:Same G.HF (ghL (D3.lock L fl) G ow H).HF:=fun b o hb=>by
  rw [lH]
  ·exact R.s1 b o hb
  ·rintro (⟨j,e,hj⟩ | ⟨j,e,hj⟩)
   ·rcases (R.own j b e).2.1 with ⟨_,z⟩ | ⟨z,_⟩
    ·rw [hb] at z;cases z
    ·have:=(vO hj).1
     rw [z] at this
     cases this
   ·rcases (R.nt j b e).2.2 with ⟨_,z⟩ | z
    ·rw [hb] at z;cases z
    ·have:=tY.mp hj
     rw [z] at this
     cases this
 refine ⟨R.s0,sub.trans R'.s1,R'.len,fun i a h=>?_,R'.inj,fun i h=>?_,fun i d h1 hn h2=>R'.dat i d h1 (by rw [kO];exact hn) h2,fun i d h1 hn h2 h3=>R'.oo i d h1 (by rw [kO];exact hn) (fun z=>h2 (z9.mp z)) h3,fun i a h=>?_,R'.nd,R'.ns,fun i h=>?_,fun i d hn h1=>R'.nr i d (by rw [kO];exact hn) h1⟩
 ·obtain ⟨h0,hf,rest⟩:=R'.own i a h
  refine ⟨h0,?_,rest⟩
  rcases hf with ⟨hf,hz⟩ | ⟨hf,_⟩
  ·exact .inl ⟨(vO hf).1,sub.free hz⟩
  ·have e:ow' i=ow i:=R'.pin i hf
   rw [e] at h
   exact (R.own i a h).2.1
 ·have e:ow' i=ow i:=R'.pin i (vQ h)
  rw [e]
  exact R.pin i h
 ·obtain ⟨g1,g2,g3⟩:=R'.nt i a h
  rcases g3 with ⟨z,hz⟩ | z
  ·exact ⟨g1,g2,.inl ⟨tY.mp z,sub.free hz⟩⟩
  ·exact ⟨g1,g2,.inr (vR.mp z)⟩
 ·have e:ow'.n i=ow.n i:=R'.np i (vR.mpr h)
  rw [e]
  exact R.np i h
theorem mF {tg iter:Expr} {L:List Nat} {T:List Nat} {fi:FA} {g:FG} (hp:PassesOwn (model X.prog X.w) X.A X.env X.xe) (hc:X.calm=true) (hi:DI X fl L tg iter fi) (hg:DG X (lock L fl) T tg g) (hb:DSs X (lock L fl) body fs)
 (hs:∀ x,foldedSetIterable iter X.env x=pure x:=by intro _;rfl):DS1 X fl (.For tg iter body [] pos) (rJ fi g fs):=PS.imp (Hg hp hc hi hg hb hs) fun Dn σ H h=>by
 obtain ⟨G,ow,δ,o,R0,hf,q⟩:=h
 obtain ⟨l,e1,e2⟩:=bind1 hf
 refine ⟨G,ow,δ,l,R0,e1,fun J H1 s wk=>?_⟩
 have R1:=R0.grow s
 have RL:=R1.lock L
 refine ⟨fun i m σ' H'=>m=l.length - i∧∃ ow' δ',Rel X.K (lock L fl) (ghL (lock L fl) G ow H1) ow' σ' H' δ'∧jY g fs (l.drop i) δ'=some o,⟨_,rfl,ow,δ,RL,by simpa using e2⟩,?_⟩
 rintro i m σ' H' ⟨rfl,ow',δ',R',hd⟩
 have kept:∀ b o,H1 b=some o→(∀ i,ow i=some b→i ∈ L)→(∀ i,b ∉ ow.n i)→H' b=some o:=fun b o hb hl hn=>R'.s1 b o (by
  rw [lH]
  ·exact hb
  ·rintro (⟨j,e,hj⟩ | ⟨j,e,_⟩)
   ·exact (vO hj).2 (hl j e)
   ·exact hn j e)
 obtain ⟨w1,w2⟩:=wk H' kept i
 by_cases hlt:i < l.length
 ·have hdrop:l.drop i=l[i] :: l.drop (i + 1):=g_ hlt
  rw [hdrop,jY] at hd
  obtain ⟨δ1,e3,hd⟩:=bind1 hd
  obtain ⟨o1,e4,hd⟩:=bind1 hd
  obtain ⟨go,yl⟩:=w1 l[i] (bC hlt)
  refine .inr ⟨go,fun σ' H'=>∃ ow' δ',Rel X.K (lock L fl) (ghL (lock L fl) G ow H1) ow' σ' H' δ'∧jY g fs (l.drop (i + 1)) δ'=some o,fun σ2 H2 ⟨ow2,δ2,R2,h2⟩=>⟨l.length - (i + 1),by omega,rfl,ow2,δ2,R2,h2⟩,fun x H3 hy=>?_⟩
  obtain ⟨s3,r3⟩:=yl x H3 hy
  have sub:∀ b,okA ow b∧H1 b ≠ none→okA ow' b:=fun b z=>by
   obtain ⟨z1,z2⟩:=z
   refine ⟨fun j e=>?_,fun j e=>?_⟩
   ·rcases (R'.own j b e).2.1 with ⟨_,hz⟩ | ⟨hz,_⟩
    ·have:(ghL (lock L fl) G ow H1).HF b=H1 b:=lH (by rintro (⟨j',e',_⟩ | ⟨j',e',_⟩);exact z1.1 j' e';exact z1.2 j' e')
     rw [this] at hz
     exact z2 hz
    ·have e':ow' j=ow j:=R'.pin j hz
     rw [e'] at e
     exact z1.1 j e
   ·rcases (R'.nt j b e).2.2 with ⟨_,hz⟩ | w
    ·have:(ghL (lock L fl) G ow H1).HF b=H1 b:=lH (by rintro (⟨j',e',_⟩ | ⟨j',e',_⟩);exact z1.1 j' e';exact z1.2 j' e')
     rw [this] at hz
     exact z2 hz
    ·have e':ow'.n j=ow.n j:=R'.np j w
     rw [e'] at e
     exact z1.2 j e
  refine ⟨_,ow',δ',_,δ1,R'.grow s3,r3.imp sub (fun z=>z),e3,fun σ4 R4 _=>⟨_,ow',δ1,o1,R4,e4,?_⟩⟩
  ·cases o1 with
   | nx δ2=>exact fun ow2 σ2 H2 R2=>⟨ow2,δ2,R2,hd⟩
   | ct δ2=>exact fun ow2 σ2 H2 R2=>⟨ow2,δ2,R2,hd⟩
   | bk δ2=>cases hd;exact fun ow2 σ2 H2 R2=>q ow2 σ2 H2 (R1.unlock R2)
   | rt d=>cases hd;exact q
   | ex c f v=>cases hd;exact q
 ·have e:l.drop i=[]:=d7 (by omega)
  rw [e,jY] at hd
  cases hd
  exact .inl ⟨w2 (by omega),q ow' σ' H' (R1.unlock R')⟩
end
end D3
namespace D3
open PySem PySem.Spec PyProof.Rows L2 My
def notStar:Expr→Bool
 | .Starred _ _=>false
 | _=>true
theorem mL {e:Expr} {es:List Expr} {env:Env} (h:notStar e=true):starEach (e :: es) env=(false,eval e env) :: starEach es env:=by
 cases e <;> first | rfl | cases h
theorem z_ {es:List Expr} {env:Env} {pos:Pos} (h:es.all notStar=true):(backTo pos (starEach es env)).any (·.1)=false:=by
 induction es with
 | nil=>rfl
 | cons e es ih =>
  rw [List.all_cons,aU] at h
  rw [mL h.1]
  have:=ih h.2
  unfold backTo at this ⊢
  rw [bY,List.any_cons,this]
  rfl
def isR:Kd→Bool
 | .P=>true
 | .A=>true
 | .R=>true
 | .C=>true
 | _=>false
def Aa (H0:Hp) (ow:Ow) (Hb:Hp):Kd→Ok
 | .P=>ok1
 | .A=>okA ow
 | .R=>okN H0
 | _=>okN Hb
def HB:Kd→Bool
 | .P=>true
 | .A=>true
 | _=>false
section
variable {K:PySem.W.Frag} {H0 Hb Hc H:Hp} {ow:Ow} {v:V} {d:D} {k:Kd}
theorem Rs.ra (hk:isR k=true) (h:Rs K H0 ow Hb H k v d):RA K (Aa H0 ow Hb k) (HB k) H v d:=by
 cases k <;> first | exact h | cases hk
theorem Rs.of_ra (hk:isR k=true) (h:RA K (Aa H0 ow Hb k) (HB k) H v d):Rs K H0 ow Hb H k v d:=by
 cases k <;> first | exact h | cases hk
theorem yu (s:Same Hb Hc) (hk:isR k=true):∀ a,Aa H0 ow Hc k a→Aa H0 ow Hb k a:=fun a z=>by
 cases k <;> first | exact z | exact s.free z | cases hk
end
def tDB (K:PySem.W.Frag) (fl:List Fl) (k:Kd) (f:FA):TA:=fun σ H Q=>∃ G ow δ ds,Rel K fl G ow σ H δ∧f δ=some ds∧∀ vs H',Same H H'→RAs K (Aa G.H0 ow H k) (HB k) H' vs ds→Q vs H'
abbrev DB (X:Cx) (fl:List Fl) (k:Kd) (es:List Expr) (f:FA):Prop:=PA X es (tDB X.K fl k f)
section
variable {X:Cx} {fl:List Fl} {e a b c:Expr} {es rest:List Expr} {k:Kd} {f fa fb fc:FE} {ft gt:FT} {pos:Pos}
theorem HD:DB X fl k [] bN:=PA.imp zK fun σ H Q h=>by
 obtain ⟨G,ow,δ,ds,R,hf,q⟩:=h
 cases hf
 exact q [] H (Same.refl H) .nil
theorem Du {fr:FA} (hk:isR k=true) (h:DE X fl k e f) (hr:DB X fl k es fr) (hs:starEach (e :: es) X.env=(false,eval e X.env) :: starEach es X.env:=by exact mL rfl):DB X fl k (e :: es) (aC f fr):=PA.imp (tL h hr hs) fun σ H Q h=>by
 obtain ⟨G,ow,δ,ds,R,hf,q⟩:=h
 obtain ⟨d,e1,hf⟩:=bind1 hf
 obtain ⟨r,e2,hf⟩:=bind1 hf
 cases hf
 refine ⟨G,ow,δ,d,R,e1,fun v H1 s1 r1=>⟨G,ow,δ,r,R.grow s1,e2,fun vs H2 s2 r2=>?_⟩⟩
 exact q _ H2 (s1.trans s2) (.cons ((r1.ra hk).same s2) (r2.imp (yu s1 hk) (fun z=>z)))
theorem pF (h:DB X fl .P es fa'):DA X fl es fa':=PA.imp h fun σ H Q h=>by
 obtain ⟨G,ow,δ,ds,R,hf,q⟩:=h
 exact ⟨G,ow,δ,ds,R,hf,fun vs H' s r=>q vs H' s r⟩
theorem qy {x1} {fa:FA} (hk:isR k=true) (h:DB X fl k es fa):DE X fl k (.Tuple es x1 pos) (dTup fa):=PE.imp (Ho h) fun σ H Q h=>by
 obtain ⟨G,ow,δ,d,R,hf,q⟩:=h
 obtain ⟨l,e1,e2⟩:=bind1 hf
 by_cases z:l.length ≤ sizeLine
 ·rw [if_pos z] at e2
  cases e2
  refine ⟨G,ow,δ,l,R,e1,fun vs H' s r=>⟨by rw [r.length];exact z,fun p hp=>?_⟩⟩
  have g:=gR hp (.tup vs)
  exact q _ _ (s.trans g) (Rs.of_ra hk (.tup fD (r.same g)))
 ·rw [if_neg z] at e2
  cases e2
theorem ou {fa:FA} (h:DB X fl .A es fa):DE X fl .F (.List es pos) (mq fa):=PE.imp (zL h) fun σ H Q h=>by
 obtain ⟨G,ow,δ,d,R,hf,q⟩:=h
 obtain ⟨l,e1,e2⟩:=bind1 hf
 by_cases z:l.length ≤ sizeLine
 ·rw [if_pos z] at e2
  cases e2
  refine ⟨G,ow,δ,l,R,e1,fun vs H' s r=>⟨by rw [r.length];exact z,fun p hp=>?_⟩⟩
  have g:=gR hp (.lst vs)
  exact q _ _ (s.trans g) (.inr ⟨p,vs,l,rfl,rfl,s.free hp,fD,(r.track.imp (fun b w=>⟨w.1,fun e=>w.2 (e ▸ hp)⟩) (fun z=>z)).same g⟩)
 ·rw [if_neg z] at e2
  cases e2
theorem lJ {fa:FA} (h:DB X fl .C es fa):DE X fl .FC (.List es pos) (mq fa):=PE.imp (zL h) fun σ H Q h=>by
 obtain ⟨G,ow,δ,d,R,hf,q⟩:=h
 obtain ⟨l,e1,e2⟩:=bind1 hf
 by_cases z:l.length ≤ sizeLine
 ·rw [if_pos z] at e2
  cases e2
  refine ⟨G,ow,δ,l,R,e1,fun vs H' s r=>⟨by rw [r.length];exact z,fun p hp=>?_⟩⟩
  have g:=gR hp (.lst vs)
  exact q _ _ (s.trans g) (.inr ⟨p,vs,l,rfl,rfl,s.free hp,fD,(r.track.imp (fun b w=>⟨w.1,fun e=>w.2 (e ▸ hp)⟩) (fun z=>z)).same g⟩)
 ·rw [if_neg z] at e2
  cases e2
theorem RAs.at {K:PySem.W.Frag} {ok:Ok} {pl:Bool} {H:Hp} {vs:List V} {l:List D} {i:Int} {d:D} (r:RAs K ok pl H vs l) (h:pAt l i=some d):∃ v,atI vs i=some v∧RA K ok pl H v d:=by
 unfold pAt at h
 unfold atI
 obtain ⟨j,e1,e2⟩:=bind1 h
 obtain ⟨y,e3,ry⟩:=r.get e2
 exact ⟨y,by rw [r.length,show ixN l.length i=some j from e1];exact e3,ry⟩
theorem K5 {L:List Nat} (ha:DE X fl (.B L) a fa) (hb:DE X fl .P b fb) (hs:tQ b):DE X fl .A (.Subscript a b pos) (dOp gIx fa fb):=PE.imp (Km Ht ha hb hs) fun σ H Q h=>by
 obtain ⟨G,ow,δ,d,R,hf,q⟩:=h
 obtain ⟨x,y,e1,e2,e3⟩:=wJ hf
 refine ⟨G,ow,δ,x,R,e1,fun v H1 s1 r1=>⟨G,ow,δ,y,R.grow s1,e2,fun u H2 s2 r2=>?_⟩⟩
 unfold gIx at e3
 split at e3
 ·next l i =>
  obtain rfl:=RA.intE r2
  rcases r1 with r1 | ⟨i',_,p,xs,ds,ho,rfl,ez,hx,hr⟩
  ·obtain ⟨p,xs,rfl,hx,hr⟩:=RA.lstE (RA.same s2 r1)
   obtain ⟨z,ez,rz⟩:=hr.at e3
   exact .inl ⟨p,xs,i,z,rfl,rfl,hx,ez,q z H2 (s1.trans s2) rz⟩
  ·cases ez
   obtain ⟨z,ez,rz⟩:=(hr.same s2).at e3
   exact .inl ⟨p,xs,i,z,rfl,rfl,SqL.of (s2 _ _ hx),ez,q z H2 (s1.trans s2) rz⟩
 ·next l i =>
  obtain rfl:=RA.intE r2
  rcases r1 with r1 | ⟨i',_,p,xs,ds,ho,rfl,ez,hx,hr⟩
  ·obtain ⟨p,xs,rfl,hx,hr⟩:=RA.tupE (RA.same s2 r1)
   obtain ⟨z,ez,rz⟩:=hr.at e3
   exact .inr (.inl ⟨p,xs,i,z,rfl,rfl,hx,ez,q z H2 (s1.trans s2) rz⟩)
  ·cases ez
 ·cases e3
theorem wN (h:DT X fl a ft):DW X fl (.BoolOp .And [a] pos) ft:=Cp h
theorem HJ (h:DT X fl a ft):DW X fl (.BoolOp .Or [a] pos) ft:=G6 h
theorem Ab (h1:DT X fl a ft) (h2:DW X fl (.BoolOp .And (b :: rest) pos) gt):DW X fl (.BoolOp .And (a :: b :: rest) pos) (tH ft gt):=PW.imp (G7 h1 h2) fun σ H Q h=>by
 obtain ⟨G,ow,δ,t,R,hf,q⟩:=h
 obtain ⟨x,e1,e2⟩:=bind1 hf
 refine ⟨G,ow,δ,x,R,e1,fun H1 s1=>?_⟩
 cases x with
 | true=>exact CZ ⟨G,ow,δ,t,R.grow s1,e2,fun H2 s2=>q H2 (s1.trans s2)⟩
 | false=>cases e2;exact CW (q H1 s1)
theorem K6 (h1:DT X fl a ft) (h2:DW X fl (.BoolOp .Or (b :: rest) pos) gt):DW X fl (.BoolOp .Or (a :: b :: rest) pos) (tOr ft gt):=PW.imp (J2 h1 h2) fun σ H Q h=>by
 obtain ⟨G,ow,δ,t,R,hf,q⟩:=h
 obtain ⟨x,e1,e2⟩:=bind1 hf
 refine ⟨G,ow,δ,x,R,e1,fun H1 s1=>?_⟩
 cases x with
 | true=>cases e2;exact CZ (q H1 s1)
 | false=>exact CW ⟨G,ow,δ,t,R.grow s1,e2,fun H2 s2=>q H2 (s1.trans s2)⟩
theorem HN (h:DW X fl a ft):DT X fl a ft:=PW.pt h
theorem Ac {op op':CmpOp} {r r':R2} {g g':D→D→Option D} (ho:OpR X (compareOp op) r) (ho':OpR X (compareOp op') r') (hb:BrO X.K r g) (hb':BrO X.K r' g') (h1:DE X fl .P a fa) (h2:DE X fl .P b fb) (h3:DE X fl .P c fc)
 (hm:lastMarks [op,op'] [b,c]=false:=by with_unfolding_all rfl):DE X fl .FC (.Compare a [op,op'] [b,c] pos) (oZ g g' fa fb fc):=PE.imp (zJ ho ho' h1 h2 h3 hm) fun σ H Q h=>by
 obtain ⟨G,ow,δ,d,R,hf,q⟩:=h
 obtain ⟨x,e1,hf⟩:=bind1 hf
 obtain ⟨y,e2,hf⟩:=bind1 hf
 obtain ⟨z,e3,hf⟩:=bind1 hf
 refine ⟨G,ow,δ,x,R,e1,fun v H1 s1 r1=>⟨G,ow,δ,y,R.grow s1,e2,fun u H2 s2 r2=>?_⟩⟩
 refine hb H2 v u x y z _ (RA.same s2 r1) r2 e3 fun zv hz rz=>?_
 split at hf
 ·obtain rfl:=rz.blE
  obtain ⟨w,e4,e5⟩:=bind1 hf
  refine ⟨true,rfl,CZ ⟨G,ow,δ,w,R.grow (s1.trans s2),e4,fun wv H3 s3 r3=>?_⟩⟩
  exact hb' H3 u wv y w d Q (RA.same s3 r2) r3 e5 fun z hz rz=>q z H3 (s1.trans (s2.trans s3)) (.inl ⟨hz,rz⟩)
 ·obtain rfl:=rz.blE
  cases hf
  exact ⟨false,rfl,CW (q _ H2 (s1.trans s2) (.inl ⟨rfl,.bl _⟩))⟩
 ·cases hf
theorem HS {K:PySem.W.Frag} {ok:Ok} {pl:Bool} {H:Hp} {v:V} {d:D} (r:RA K ok pl H v d):decide (v = .non)=isNone d:=by
 cases r <;> rfl
def BrC (K:PySem.W.Frag) (r:List V→Hp→VK→Prop) (g:List D→Option D):Prop:=∀ (H:Hp) (xs:List V) (ds:List D) (d:D) (Q:VK),RAs K ok1 true H xs ds→g ds=some d→(∀ v,flat d=true→RA K ok0 false H v d→Q v H)→r xs H Q
theorem jT {id:String} {r:List V→Hp→VK→Prop} {g:List D→Option D} {x:Str} {p:Pos} {fa:FA} (hc:nY X (.builtin id) r) (hb:BrC X.K r g) (hg:Gl X x) (hm:X.mg x=none) (hv:bootBuiltins x=some (.builtin id)) (ha:DB X fl .P (e :: es) fa) (hn:x ≠ "__name__" := by decide) (hdb:(x == ("__debug__" : Str))=false:=by decide)
 (he:starEach (e :: es) X.env=(false,eval e X.env) :: starEach es X.env:=by exact mL rfl) (hpl:(backTo pos (starEach es X.env)).any (·.1)=false:=by exact z_ rfl):DE X fl .FC (.Call (.Name x p) (e :: es) [] pos) (dCall g fa) :=
 PE.imp (uI hc hg hm hv ha hn hdb he hpl) fun σ H Q h=>by
 obtain ⟨G,ow,δ,d,R,hf,q⟩:=h
 obtain ⟨ds,e1,e2⟩:=bind1 hf
 exact ⟨G,ow,δ,ds,R,e1,fun vs H' s r'=>hb H' vs ds d Q r' e2 fun v hv rv=>q v H' s (.inl ⟨hv,rv⟩)⟩
theorem qz {K:PySem.W.Frag}:BrC K (fun xs H Q=>∃ p ys,xs=[.ref p]∧(SqL K H p ys∨SqT K H p ys)∧Q (.int ys.length) H) tR:=by
 intro H xs ds d Q r e q
 unfold tR at e
 split at e
 ·next l =>
  cases e
  cases r with
  | cons r1 r2 =>
   cases r2
   obtain ⟨a,ys,rfl,hx,hr⟩:=r1.lstE
   refine ⟨a,ys,rfl,.inl hx,?_⟩
   rw [hr.length]
   exact q _ rfl (.int _)
 ·next l =>
  cases e
  cases r with
  | cons r1 r2 =>
   cases r2
   obtain ⟨a,ys,rfl,hx,hr⟩:=r1.tupE
   refine ⟨a,ys,rfl,.inr hx,?_⟩
   rw [hr.length]
   exact q _ rfl (.int _)
 ·cases e
theorem Ad {K:PySem.W.Frag}:BrC K (fun xs H Q=>∃ i j,xs=[.int i,.int j]∧Q (.int (if j > i then j else i)) H) uM:=by
 intro H xs ds d Q r e q
 unfold uM at e
 split at e
 ·cases e
  cases r with
  | cons r1 r2 =>
   cases r2 with
   | cons r2 r3 =>
    cases r3
    obtain rfl:=r1.intE
    obtain rfl:=r2.intE
    exact ⟨_,_,rfl,q _ rfl (.int _)⟩
 ·cases e
theorem vV {K:PySem.W.Frag}:BrC K (fun xs H Q=>∃ i j,xs=[.int i,.int j]∧Q (.int (if j < i then j else i)) H) su:=by
 intro H xs ds d Q r e q
 unfold su at e
 split at e
 ·cases e
  cases r with
  | cons r1 r2 =>
   cases r2 with
   | cons r2 r3 =>
    cases r3
    obtain rfl:=r1.intE
    obtain rfl:=r2.intE
    exact ⟨_,_,rfl,q _ rfl (.int _)⟩
 ·cases e
theorem HW (h:DE X fl .P a f):DE X fl .FC (.UnaryOp .USub a pos) (dUn zV f):=PE.imp (J_ Hj h) fun σ H Q h=>by
 obtain ⟨G,ow,δ,d,R,hf,q⟩:=h
 obtain ⟨x,e1,e2⟩:=bind1 hf
 refine ⟨G,ow,δ,x,R,e1,fun v H1 s1 r1=>?_⟩
 unfold zV at e2
 split at e2
 ·cases e2
  obtain rfl:=RA.intE r1
  exact ⟨_,rfl,q _ H1 s1 (.inl ⟨rfl,.int _⟩)⟩
 ·cases e2
end
def spD (K:PySem.W.Frag) (F:List D→Option D):Sp:=fun vs H Q _=>∃ ds d,(Tb H∧RAs K ok1 true H vs ds)∧F ds=some d∧∀ v H',Same H H'→RA K (okN H) false H' v d→Q v H'
section
variable {P:Program} {w:World} {K:PySem.W.Frag} {mg:Str→Option Value} {base:Heap} {x:Str} {ps N:List Str} {st:Stmt} {k n:Nat} {fs:FS} {fl:List Fl}
theorem sH {vs:List V} {ds:List D} {H:Hp} (p:Nat) (hp:∀ i,i < p→fl[i]? = some .A) (hl:ds.length=p) (hN:p ≤ N.length) (r':Tb H∧RAs K ok1 true H vs ds) :
 Rel K fl ⟨H,H,fun _=>none,fun _=>[],r'.1⟩ ow0 (L2.start N vs) H (ds.map (fun d=>some (.d d))++aR (N.length - p) none):=by
 have r:=r'.2
 have hv:vs.length=p:=by rw [r.length];exact hl
 have get:∀ i d,(ds.map (fun d=>some (U.d d))++aR (N.length - p) none)[i]? = some (some (.d d))→i < p∧ds[i]? = some d:=fun i d h=>by
  by_cases hi:i < p
  ·rw [bM (by rw [aH,hl];exact hi),aZ] at h
   cases e:ds[i]? with
   | none=>rw [e] at h;cases h
   | some z=>rw [e] at h;cases h;exact ⟨hi,rfl⟩
  ·rw [bK (by rw [aH,hl];omega),cZ] at h
   split at h <;> cases h
 refine ⟨Same.refl H,Same.refl H,?_,fun i a h=>(by cases h),fun i j a h=>(by cases h),fun i h=>rfl,fun i d h _ _=>?_,fun i d h _ h2 _=>?_,fun i a h=>(by cases h),fun i j a h=>(by cases h),fun i j a h=>(by cases h),fun i h=>rfl,fun i d hn h=>?_⟩
 ·unfold L2.start
  simp only [aP,aH,bx,hv,hl]
 ·obtain ⟨hi,e⟩:=get i d h
  obtain ⟨v,e1,e2⟩:=r.get e
  refine ⟨v,?_,e2.imp (fun _ _=>⟨fun i z=>(by cases z),fun i z=>(by cases z)⟩) (fun z=>z)⟩
  unfold L2.start
  rw [bM (by rw [aH,hv];exact hi),aZ,e1]
  rfl
 ·exact absurd (hp i (get i d h).1) h2
 ·rw [hp i (get i d h).1] at hn
  cases hn
end
section
variable {X:Cx} {fl:List Fl} {e:Expr} {es:List Expr} {pos p:Pos} {x:Str} {ps:List Str} {n:Nat} {F:List D→Option D} {fa:FA}
theorem bT (h:Has X.prog X.w X.K X.mg X.base n x ps (spD X.K F)) (hr:Room n X.A) (ha:DB X fl .P (e :: es) fa) (hg:Gl X x:=by rfl) (hdb:(x == ("__debug__" : Str))=false:=by decide)
 (he:starEach (e :: es) X.env=(false,eval e X.env) :: starEach es X.env:=by exact mL rfl) (hpl:(backTo pos (starEach es X.env)).any (·.1)=false:=by exact z_ rfl) :
 DE X fl .C (.Call (.Name x p) (e :: es) [] pos) (dCall F fa):=PE.imp (zR h hr ha hg hdb he hpl) fun σ H Q h=>by
 obtain ⟨G,ow,δ,d,R,hf,q⟩:=h
 obtain ⟨ds,e1,e2⟩:=bind1 hf
 refine ⟨G,ow,δ,ds,R,e1,fun vs H' s r=>?_⟩
 show spD X.K F (vs++[]) H' Q E0
 rw [cX]
 exact ⟨ds,d,⟨R.tb.same s,r⟩,e2,fun v H2 s2 r2=>q v H2 (s.trans s2) (RA.imp (fun a z=>s.free z) (fun z=>z) r2)⟩
end
end D3
namespace D3
open PySem PySem.Spec PyProof.Rows L2 My
section
variable {X:Cx} {fl fl':List Fl} {e a b c elt tg iter:Expr} {es ifs:List Expr} {k:Kd} {f fa fb fc:FE} {ft gt:FT} {pos:Pos} {scope:Scope} {ix L TT:List Nat} {fi:FA} {g:FG}
theorem j6:PTs X [] (tDT X.K fl D3.lF):=fun pins s σ H Q I h=>by
 obtain ⟨G,ow,δ,b,R,hf,q⟩:=h
 cases hf
 exact C_ pins s σ H Q I (q H (Same.refl H))
theorem Dv {K:PySem.W.Frag} {G:Gh} {ow:Ow} {σ:St} {H H1:Hp} {δ:DS} (t:Nat) (ix:List Nat) (hfl:∀ i,i < t + ix.length→fl'[i]? = some .A) (R:Rel K fl G ow σ H δ) (s:Same H H1) :
 Rel K fl' ⟨H,H,fun _=>none,fun _=>[],R.tb⟩ ow0 (rH t ix σ) H1 (kJ t ix δ):=by
 have get:∀ i d,(kJ t ix δ)[i]? = some (some (.d d))→i < t + ix.length∧∃ j,ix[i - t]? = some j∧t ≤ i∧δ[j]? = some (some (.d d)):=fun i d h=>by
  unfold kJ at h
  by_cases hi:i < t
  ·rw [bM (by rw [bx];exact hi),cZ,if_pos hi] at h
   cases h
  ·rw [bK (by rw [bx];omega),bx,aZ] at h
   cases e:ix[i - t]? with
   | none=>rw [e] at h;cases h
   | some j =>
    rw [e] at h
    have hl:i - t < ix.length:=by
     rcases dM (i - t) ix.length with z | z
     ·exact z
     ·rw [cJ z] at e;cases e
    refine ⟨by omega,j,rfl,by omega,?_⟩
    have h':(δ[j]?).getD none=some (.d d):=by simpa using h
    cases q:δ[j]? with
    | none=>rw [q] at h';cases h'
    | some o=>rw [q] at h';simp at h';rw [h']
 refine ⟨Same.refl H,s,?_,fun i a h=>(by cases h),fun i j a h=>(by cases h),fun i h=>rfl,fun i d h _ _=>?_,fun i d h _ h2 _=>absurd (hfl i (get i d h).1) h2,fun i a h=>(by cases h),fun i j a h=>(by cases h),fun i j a h=>(by cases h),fun i h=>rfl,fun i d hn h=>(by rw [hfl i (get i d h).1] at hn;cases hn)⟩
 ·unfold rH kJ
  simp
 ·obtain ⟨hi,j,ej,ht,ed⟩:=get i d h
  have key:∃ v,σ[j]? = some (some v)∧RA K ok1 true H v d:=by
   cases hN:isN fl[j]? with
   | true =>
    obtain ⟨v,h1,h2,_⟩:=R.nr j d hN ed
    exact ⟨v,h1,h2.ra fun _ _=>trivial⟩
   | false =>
   cases ho:ow j with
   | none =>
    obtain ⟨v,h1,h2⟩:=R.dat j d ed hN ho
    exact ⟨v,h1,h2.imp (fun _ _=>trivial) (fun z=>z)⟩
   | some a =>
    obtain ⟨_,_,xs,ds,h1,h2,h3,h4⟩:=R.own j a ho
    rw [ed] at h4
    cases h4
    exact ⟨_,h1,.lst h2 trivial (h3.imp (fun _ _=>trivial) (fun z=>z))⟩
  obtain ⟨v,h1,h2⟩:=key
  refine ⟨v,?_,(h2.imp (fun _ _=>⟨fun i z=>(by cases z),fun i z=>(by cases z)⟩) (fun z=>z)).same s⟩
  unfold rH
  rw [bK (by rw [bx];omega),bx,aZ,ej]
  show some ((σ[j]?).getD none)=_
  rw [h1]
  rfl
theorem pG {σ:St} {H:Hp} {Q:VK} {t:Nat} (hfl:∀ i,i < t + ix.length→fl'[i]? = some .A) (htg:∀ j ∈ TT,j < t)
 (h:tD X.K fl .FC (jd fi g ft f t ix) σ H Q):wG (tDI X.K fl L fi) (tDG X.K fl' TT g) (tDT X.K fl' ft) (tD X.K fl' .C f) t (rH t ix) σ H Q:=by
 obtain ⟨G,ow,δ,d,R,hf,q⟩:=h
 obtain ⟨l,e1,e2⟩:=bind1 hf
 by_cases hl:l.length ≤ 100000
 case neg=>rw [if_neg hl] at e2;cases e2
 rw [if_pos hl] at e2
 obtain ⟨r,e3,e4⟩:=bind1 e2
 cases e4
 refine ⟨G,ow,δ,l,R,e1,fun J H1 s1 wk Dl hD=>?_⟩
 have R1:=R.grow s1
 let okD:Ok:=fun b=>okN H b∧b ≠ Dl
 refine ⟨fun i m xs H2=>m=l.length - i∧H2 Dl=some (.lst xs)∧Same H1 H2∧xs.length ≤ i∧i ≤ l.length∧∃ ds rest,RAs X.K okD false H2 xs ds∧fG g ft f (kJ t ix δ) (l.drop i)=some rest∧r=ds++rest,
  ⟨_,rfl,fD,gR hD _,aO _,d9 _,[],r,.nil,by simpa using e3,rfl⟩,?_⟩
 rintro i m xs H2 ⟨rfl,hDl,s2,hxl,hil,ds,rest,hr,hc,rfl⟩
 refine ⟨hDl,?_⟩
 obtain ⟨w1,w2⟩:=wk H2 (fun b o hb _ _=>s2 b o hb) i
 by_cases hlt:i < l.length
 ·have hdrop:l.drop i=l[i] :: l.drop (i + 1):=g_ hlt
  rw [hdrop,fG] at hc
  obtain ⟨δ1,e5,hc⟩:=bind1 hc
  obtain ⟨bb,e6,hc⟩:=bind1 hc
  obtain ⟨go,yl⟩:=w1 l[i] (bC hlt)
  refine .inr ⟨go,gh (bU hxl (bU hil hl)) (by decide),fun x H3 hy=>?_⟩
  obtain ⟨s3,r3⟩:=yl x H3 hy
  have s13:=s2.trans s3
  have Rb:=(Dv t ix hfl R1 (Same.refl H1)).grow s13
  refine ⟨_,_,_,_,δ1,Rb,r3.imp (fun _ _=>⟨fun i z=>(by cases z),fun i z=>(by cases z)⟩) (fun z=>z),e5,fun σ4 R4 keep4=>⟨?_,?_⟩⟩
  ·apply iU
   intro n
   rw [dH,dH]
   exact keep4 (t + n) fun z=>absurd (htg _ z) (by omega)
  ·refine ⟨_,_,δ1,bb,R4,e6,fun H5 s5=>?_⟩
   cases bb with
   | false =>
    rw [if_neg aK] at hc ⊢
    have s35:=s3.trans s5
    exact ⟨l.length - (i + 1),by omega,rfl,s35 _ _ hDl,s2.trans s35,by omega,hlt,ds,rest,hr.same s35,hc,rfl⟩
   | true =>
    rw [if_pos rfl] at hc ⊢
    obtain ⟨y,e7,hc⟩:=bind1 hc
    obtain ⟨l',e8,hc⟩:=bind1 hc
    cases hc
    refine ⟨_,_,δ1,y,R4.grow s5,e7,fun v H6 s6 r6=>?_⟩
    have s35:=s3.trans s5
    have s36:=s35.trans s6
    refine ⟨s36 _ _ hDl,l.length - (i + 1),by omega,rfl,fD,?_,by rw [aP,lU];omega,hlt,ds++[y],l',?_,e8,by simp⟩
    ·intro b o hb
     rw [dg (fun z=>by subst z;rw [hD] at hb;cases hb)]
     exact (s2.trans s36) b o hb
    ·have nd:¬ okD Dl:=fun z=>z.2 rfl
     have s05:Same H H5:=s1.trans (s2.trans s35)
     have ry:RA X.K okD false H6 v y:=RA.imp (fun b z=>⟨s05.free z,fun e=>by subst e;rw [okN,s35 _ _ hDl] at z;cases z⟩) (fun z=>z) r6
     exact ((hr.same s36).append (.cons ry .nil)).upd (s36 _ _ hDl) nd
 ·have ed:l.drop i=[]:=d7 (by omega)
  rw [ed,fG] at hc
  cases hc
  refine .inl ⟨w2 (by omega),?_⟩
  rw [cX] at q
  exact q (.ref Dl) H2 (s1.trans s2) (.inr ⟨Dl,xs,ds,rfl,rfl,s1.free hD,hDl,hr⟩)
theorem jG (hc:X.calm=true) (T Vn:List Str) (ix:List Nat) (hi:DI X fl L tg iter fi)
 (hg:∀ cl C s3 H3 fp,DG (blk X (T++Vn) scope cl C s3 H3 fp) fl' TT tg g) (ht:∀ cl C s3 H3 fp,PTs (blk X (T++Vn) scope cl C s3 H3 fp) ifs (tDT X.K fl' ft)) (he:∀ cl C s3 H3 fp,DE (blk X (T++Vn) scope cl C s3 H3 fp) fl' .C elt f)
 (hfl:∀ i,i < T.length + ix.length→fl'[i]? = some .A:=by decide) (htg:∀ j ∈ TT,j < T.length:=by decide)
 (hB:qg X.N X.env.scope.names scope.names Vn ix=true:=by rfl) (hk:scope.kind = .function:=by rfl) (hcell:∀ y ∈ scope.names,y.2 ≠ .cell:=by decide +kernel)
 (hnames:∀ x ∈ scope.names,x.2 = .local→scope.names.lookup x.1=some .local:=by decide +kernel)
 (hfr:∀ x ∈ scope.names,x.2 = .free→x.1 ∈ Vn:=by decide +kernel) (hs:∀ x,foldedSetIterable iter X.env x=pure x:=by intro _;rfl) :
 DE X fl .FC (.ListComp elt [⟨tg,iter,ifs,0⟩] scope pos) (jd fi g ft f T.length ix) :=
 PE.imp (Dc hc T Vn ix hi hg ht he hB hk hcell hnames hfr hs) fun _ _ _ h=>pG hfl htg h
theorem oA {i:Nat} {x:Str} {pos' spos:Pos} (hfx:fl[i]? = some .A) (hN:X.N.Nodup) (hi':X.N[i]? = some x) (hx:X.env.scope.names.lookup x=some .local) (hc:X.calm=true) (T Vn:List Str) (ix:List Nat) (hi:DI X fl L tg iter fi)
 (hg:∀ cl C s3 H3 fp,DG (blk X (T++Vn) scope cl C s3 H3 fp) fl' TT tg g) (ht:∀ cl C s3 H3 fp,PTs (blk X (T++Vn) scope cl C s3 H3 fp) ifs (tDT X.K fl' ft)) (he:∀ cl C s3 H3 fp,DE (blk X (T++Vn) scope cl C s3 H3 fp) fl' .C elt f)
 (hfl:∀ i,i < T.length + ix.length→fl'[i]? = some .A:=by decide) (htg:∀ j ∈ TT,j < T.length:=by decide)
 (hsw:swapsWith (.ListComp elt [⟨tg,iter,ifs,0⟩] scope pos) (some (.Name x pos')) spos.line X.env=pure true:=by rfl)
 (hB:qg X.N X.env.scope.names scope.names Vn ix=true:=by rfl) (hk:scope.kind = .function:=by rfl) (hcell:∀ y ∈ scope.names,y.2 ≠ .cell:=by decide +kernel)
 (hnames:∀ x ∈ scope.names,x.2 = .local→scope.names.lookup x.1=some .local:=by decide +kernel)
 (hfr:∀ x ∈ scope.names,x.2 = .free→x.1 ∈ Vn:=by decide +kernel) (hs:∀ x,foldedSetIterable iter X.env x=pure x:=by intro _;rfl) :
 DS1 X fl (.Assign [.Name x pos'] (.ListComp elt [⟨tg,iter,ifs,0⟩] scope pos) spos) (cI i (jd fi g ft f T.length ix)) :=
 PS.imp (Dh hN hi' hx hc T Vn ix hi hg ht he hsw hB hk hcell hnames hfr hs) fun Dn σ H h=>by
 obtain ⟨G,ow,δ,o,R,hf,q⟩:=h
 unfold cI at hf
 by_cases hl:i < δ.length
 ·rw [if_pos hl] at hf
  obtain ⟨d,e1,e2⟩:=bind1 hf
  cases e2
  exact pG (fl:=fl) hfl htg ⟨G,ow,δ,d,R,e1,fun v H' s r=>q ow _ H' ((R.grow s).setA hfx (pR R hl) ((r.FC_F R).F_A R))⟩
 ·rw [if_neg hl] at hf
  cases hf
theorem Ae {K:PySem.W.Frag} {G:Gh} {ow:Ow} {H H1:Hp} {p:Addr} {vs:List V} {l:List D} (s:Same H H1) (hp:H1 p=none) (r:RAs K (okA ow) true H1 vs l):Rs K G.H0 ow H (upd H1 p (.lst vs)) .F (.ref p) (.list l) :=
 .inr ⟨p,vs,l,rfl,rfl,s.free hp,fD,(r.track.imp (fun b w=>⟨w.1,fun e=>w.2 (e ▸ hp)⟩) (fun z=>z)).same (gR hp _)⟩
theorem vW {K:PySem.W.Frag} {H0:Hp} {ow:Ow} {Hb H:Hp} {L:List Nat} {v:V} {l:List D} (r:Rs K H0 ow Hb H (.B L) v (.list l)):∃ a xs,v = .ref a∧SqL K H a xs∧RAs K (okA ow) true H xs l:=by
 rcases r with r | ⟨i,hi,a,xs,ds,ho,rfl,e,hx,hr⟩
 ·exact r.lstE
 ·cases e
  exact ⟨a,xs,rfl,SqL.of hx,hr⟩
def K7 (K:PySem.W.Frag):R2:=fun x y H Q=>∃ l b xs zs,x = .ref l∧y = .ref b∧SqL K H l xs∧SqL K H b zs∧xs.length + zs.length ≤ sizeLine∧∀ p,H p=none→Q (.ref p) (upd H p (.lst (xs++zs)))
theorem Dw:OpR X (binaryOp .Add) (K7 X.K):=by
 intro pins s σ H x y v u Q I rx ry h
 obtain ⟨l,b,xs,zs,rfl,rfl,hH,hB,hz,q⟩:=h
 cases rx
 cases ry
 obtain ⟨its,r,p,_⟩:=I.list hH
 obtain ⟨its2,r2,p2,_⟩:=I.list hB
 obtain ⟨⟨cls,dd,data,sl⟩,ho,hc,n,hd⟩:=p.isList
 obtain ⟨⟨cls2,dd2,data2,sl2⟩,ho2,hc2,n2,hd2⟩:=p2.isList
 simp only at hc hd hc2 hd2
 subst hc hd hc2 hd2
 have e1:=r.length
 have e2:=r2.length
 have e:its.toArray++its2.toArray=(its++its2).toArray:=by simp
 refine concat_meets ⟨_,ho,rfl⟩ ⟨_,ho2,rfl⟩ noFill_list_add seq_list_add PySem.F.slot_list_add PySem.F.entry_list_add (PySem.F.args_list_add_2 _ _) (list_addW l b its.toArray its2.toArray n n2 dd dd2 sl sl2 (by simp;omega)) ⟨ho,ho2,?_⟩
 rw [e]
 exact ⟨.ref _,_,I.lnew (t':=s.toks) (r.append r2) (by rw [aP];omega),rfl,q _ I.fresh⟩
theorem qH {L L':List Nat} (h1:DE X fl (.B L) a fa) (h2:DE X fl (.B L') b fb):DE X fl .F (.BinOp a .Add b pos) (dOp qt fa fb):=PE.imp (zF Dw h1 h2) fun σ H Q h=>by
 obtain ⟨G,ow,δ,d,R,hf,q⟩:=h
 obtain ⟨x,y,e1,e2,e3⟩:=wJ hf
 refine ⟨G,ow,δ,x,R,e1,fun v H1 s1 r1=>⟨G,ow,δ,y,R.grow s1,e2,fun u H2 s2 r2=>?_⟩⟩
 unfold qt at e3
 split at e3
 ·next l m =>
  by_cases z:l.length + m.length ≤ 1000000
  ·rw [if_pos z] at e3
   cases e3
   obtain ⟨p,xs,rfl,hx,hr⟩:=vW r1
   obtain ⟨p',ys,rfl,hy,hr'⟩:=vW r2
   refine ⟨p,p',xs,ys,rfl,rfl,s2.seq hx,hy,?_,fun pn hp=>q _ _ ((s1.trans s2).trans (gR hp _)) (Ae (G:=G) (s1.trans s2) hp ((hr.same s2).append hr'))⟩
   rw [hr.length,hr'.length]
   exact bU z (by decide)
  ·rw [if_neg z] at e3
   cases e3
 ·cases e3
theorem RAs.rep {K:PySem.W.Frag} {ok:Ok} {pl:Bool} {H:Hp} {vs:List V} {l:List D} (r:RAs K ok pl H vs l):∀ n:Nat,RAs K ok pl H (aR n vs).flatten (aR n l).flatten
 | 0=>.nil
 | n + 1=>by
  rw [cB,cB,dO,dO]
  exact r.append (RAs.rep r n)
theorem Af (h1:DE X fl .F a fa) (h2:DE X fl .P b fb):DE X fl .F (.BinOp a .Mult b pos) (dOp uN fa fb):=PE.imp (zF Hu h1 h2) fun σ H Q h=>by
 obtain ⟨G,ow,δ,d,R,hf,q⟩:=h
 obtain ⟨x,y,e1,e2,e3⟩:=wJ hf
 refine ⟨G,ow,δ,x,R,e1,fun v H1 s1 r1=>⟨G,ow,δ,y,R.grow s1,e2,fun u H2 s2 r2=>?_⟩⟩
 unfold uN at e3
 split at e3
 ·next l k =>
  by_cases z:l.length * k.toNat ≤ 1000000∧-(2 ^ 63) ≤ k∧k < 2 ^ 63
  ·rw [if_pos z] at e3
   cases e3
   obtain rfl:=RA.intE r2
   rcases r1 with ⟨hz,_⟩ | ⟨p,xs,ds,rfl,ez,h3,h4,h5⟩
   ·simp [flat] at hz
   ·cases ez
    refine ⟨p,k,xs,rfl,rfl,s2 _ _ h4,z.2.1,z.2.2,?_,fun pn hp=>q _ _ ((s1.trans s2).trans (gR hp _)) (Ae (G:=G) (s1.trans s2) hp (((h5.imp (fun b w=>w.1) (fun z=>z)).same s2).rep _))⟩
    rw [h5.length]
    exact bU z.1 (by decide)
  ·rw [if_neg z] at e3
   cases e3
 ·cases e3
def tDO (K:PySem.W.Frag) (fl:List Fl) (f:FO):TO:=fun σ H Q=>∃ G ow δ o,Rel K fl G ow σ H δ∧f δ=some o∧∀ H',Same H H'→Q o H'
theorem PO.imp {o:Option Expr} {t t':TO} (h:PO X o t) (i:∀ σ H Q,t' σ H Q→t σ H Q):PO X o t':=fun pins s σ H Q I q=>h pins s σ H Q I (i σ H Q q)
theorem oE:PO X none (tDO X.K fl qu):=PO.imp CK fun σ H Q h=>by
 obtain ⟨G,ow,δ,o,R,hf,q⟩:=h
 cases hf
 exact q H (Same.refl H)
theorem lK (h:DE X fl .P e f):PO X (some e) (tDO X.K fl (m9 f)):=PO.imp (tM h) fun σ H Q h=>by
 obtain ⟨G,ow,δ,o,R,hf,q⟩:=h
 obtain ⟨d,e1,e2⟩:=bind1 hf
 split at e2
 ·cases e2
  refine ⟨G,ow,δ,_,R,e1,fun v H1 s1 r1=>?_⟩
  obtain rfl:=RA.intE r1
  exact ⟨_,rfl,q H1 s1⟩
 ·cases e2
theorem Ag (n d:Nat) (o:Option Int):HT.sIx n d o=pSx n d o:=by
 cases o <;> rfl
theorem RAs.cut {K:PySem.W.Frag} {ok:Ok} {pl:Bool} {H:Hp} {vs:List V} {l:List D} (r:RAs K ok pl H vs l) (lo hi:Option Int):RAs K ok pl H (xZ vs lo hi) (cutD l lo hi):=by
 unfold xZ cutD
 rw [r.length,Ag,Ag]
 exact (r.drop _).take _
theorem sI {L:List Nat} {lo hi:Option Expr} {p2:Pos} {fl1 fh:FO} (h:DE X fl (.B L) a f) (h1:PO X lo (tDO X.K fl fl1)) (h2:PO X hi (tDO X.K fl fh)):DE X fl .F (.Subscript a (.Slice lo hi none p2) pos) (dSl f fl1 fh):=PE.imp (zM CQ h h1 h2) fun σ H Q h=>by
 obtain ⟨G,ow,δ,d,R,hf,q⟩:=h
 obtain ⟨x,e1,hf⟩:=bind1 hf
 obtain ⟨o1,e2,hf⟩:=bind1 hf
 obtain ⟨o2,e3,e4⟩:=bind1 hf
 refine ⟨G,ow,δ,x,R,e1,fun v H1 s1 r1=>⟨G,ow,δ,o1,R.grow s1,e2,fun H2 s2=>⟨G,ow,δ,o2,R.grow (s1.trans s2),e3,fun H3 s3=>?_⟩⟩⟩
 split at e4
 ·cases e4
  obtain ⟨p,xs,rfl,hx,hr⟩:=vW r1
  have s13:=s2.trans s3
  exact ⟨p,xs,rfl,s13.seq hx,fun pn hp=>q _ _ ((s1.trans s13).trans (gR hp _)) (Ae (G:=G) (s1.trans s13) hp ((hr.same s13).cut o1 o2))⟩
 ·cases e4
end
end D3
namespace D3
open PySem PySem.Spec PyProof.Rows L2 My
section
variable {X:Cx} {pins:List (Addr × Obj)} {σ:St} {H:Hp} {s:Shared} {h':Heap}
theorem Inv.turnedL {t':Nat} {ch:List Addr} (I:Inv X pins σ H s) (k:∀ b o,b ∉ ch→s.heap.get? b=some o→h'.get? b=some o) (hf:∀ b ∈ ch,oW X pins H b):Inv X pins σ H { s with heap:=h',toks:=t' }:=by
 have nit:∀ b u,H b=some u→b ∉ ch:=fun b u e z=>by rw [(hf b z).1] at e;cases e
 refine I.step (g':=s.gens) (d':=s.drawn) (ch:=ch) (fun b hb=>?_) (fun b o _ _ hc e _=>k b o hc e) (fun b o _ _ hc e _=>⟨o.slots,k b o hc e⟩) (fun _ _ _ _ n=>n)
  (fun b o hc e=>⟨o,k b o hc e⟩) (fun _ _ e=>e) (fun _ _ _ e=>e) (fun _ _ _ e=>e) (fun m hm=>?_) (fun b u e=>?_) I.bare
 ·obtain ⟨f0,f1,f2,f3,f4,f5⟩:=hf b hb
  exact ⟨f3,f1,f4,f5⟩
 ·obtain ⟨o,es,ep,ho,r⟩:=hm
  exact ⟨o,es,ep,k _ o (fun z=>(hf _ z).2.1 rfl) ho,r⟩
 ·refine (I.hok b u e).stay (fun c v hc q=>k c v ?_ q) (fun _ q=>q) fun _ _ q=>q
  rcases hc with z | z
  ·rw [z];exact nit b u e
  ·exact nit c _ z
end
section
variable {X:Cx} {fl:List Fl} {a:Expr} {f:FE} {pos:Pos}
end
structure Bl (mg:Str→Option Value):Prop where
 len_:mg "len" = none
 range_:mg "range" = none
 abs_:mg "abs" = none
 isinstance_:mg "isinstance" = none
 int_:mg "int" = none
 bool_:mg "bool" = none
 tuple_:mg "tuple" = none
 list_:mg "list" = none
 str_:mg "str" = none
 max_:mg "max" = none
 min_:mg "min" = none
 sorted_:mg "sorted" = none
 sum_:mg "sum" = none
 reversed_:mg "reversed" = none
 enumerate_:mg "enumerate" = none
 zip_:mg "zip" = none
 set_:mg "set" = none
 any_:mg "any" = none
 all_:mg "all" = none
 dict_:mg "dict" = none
end D3
namespace D3
open PySem PySem.Spec PyProof.Rows L2 My
structure FunD (K:PySem.W.Frag) (x:Str) (st:Stmt) (f:Addr) (fd:FuncData):Prop where
 ex:∃ (oc:Value) (od:Option Addr) (dV kV doc pm:Value) (an:Option Addr) (cdv ct:Value) (osl:Array (Option Value)),
  fd=PySem.W.fnOf x x (gM st) (eF st) (bH st) dV kV doc pm an cdv ct∧K.lookup f=some ⟨oc,od,.func fd,osl⟩∧PySem.W.codeIn K cdv x=true
 kp:PySem.W.keepIn K (.ref f)=true
structure Dg (K:PySem.W.Frag) (mg:Str→Option Value) (x:Str) (st:Stmt) (ps:List Str):Prop where
 ex:∃ (f:Addr) (fd:FuncData),FunD K x st f fd∧Binds K fd ps []∧mg x=some (.ref f)
theorem HX {K:PySem.W.Frag} {h:Heap} {mg:Str→Option Value} {f T:Addr} {oc kV dc pm cd ct:Value} {od an:Option Addr} {sl:Array (Option Value)} {x:Str} {st:Stmt} {ps:List Str} {o:Obj} {items:Array Value} {n:Nat} (X:K.In h) (G:h.Ns mainGlobals mg)
 (hb:∀ (kV doc pm:Value) (an:Option Addr) (cdv ct:Value) (us:List Value),us.length=ps.length→∃ k,bindArgs (PySem.W.fnOf x x (gM st) (eF st) (bH st) (.ref T) kV doc pm an cdv ct) ⟨us,[]⟩=(seqItems? (.ref T) >>= k)∧k (some items)=pure (ps.zip us))
 (a:PySem.W.nsIn K mainGlobals x=some (some (.ref f))) (l:K.lookup f=some ⟨oc,od,.func (PySem.W.fnOf x x (gM st) (eF st) (bH st) (.ref T) kV dc pm an cd ct),sl⟩) (c:PySem.W.codeIn K cd x=true) (k:PySem.W.keepIn K (.ref f)=true)
 (hT:K.lookup T=some o) (hs:o.data = .seq items n):Dg K mg x st ps :=
 ⟨_,_,⟨⟨oc,od,.ref T,kV,dc,pm,an,cd,ct,sl,rfl,l,c⟩,k⟩,fun s us KX hl=>by
  rw [cX] at hl ⊢
  obtain ⟨k,h1,h2⟩:=hb kV dc pm an cd ct us hl
  exact BindsTo.of_defaults (T:=T) rfl (KX T o hT) hs h1 h2,PySem.W.mg_of X G a⟩
theorem j7 {K:PySem.W.Frag} {h:Heap} {mg:Str→Option Value} {f:Addr} {oc kV dc pm cd ct:Value} {od an:Option Addr} {sl:Array (Option Value)} {x:Str} {st:Stmt} {ps:List Str} (X:K.In h) (G:h.Ns mainGlobals mg)
 (hb:∀ (kV doc pm:Value) (an:Option Addr) (cdv ct:Value) (us:List Value),us.length=ps.length→bindArgs (PySem.W.fnOf x x (gM st) (eF st) (bH st) .none kV doc pm an cdv ct) ⟨us,[]⟩=pure (ps.zip us))
 (a:PySem.W.nsIn K mainGlobals x=some (some (.ref f))) (l:K.lookup f=some ⟨oc,od,.func (PySem.W.fnOf x x (gM st) (eF st) (bH st) .none kV dc pm an cd ct),sl⟩) (c:PySem.W.codeIn K cd x=true) (k:PySem.W.keepIn K (.ref f)=true):Dg K mg x st ps :=
 ⟨_,_,⟨⟨oc,od,.none,kV,dc,pm,an,cd,ct,sl,rfl,l,c⟩,k⟩,.all (hb kV dc pm an cd ct),PySem.W.mg_of X G a⟩
structure Dl (K:PySem.W.Frag) (mg:Str→Option Value) (x y:Str) (st:Stmt):Prop where
 ex:∃ (f:Addr) (fd:FuncData),FunD K x st f fd∧(∀ (s:Shared) (u:Value),BindsTo s fd ⟨[u],[]⟩ [(y,u)])∧mg x=some (.ref f)
theorem K8 {K:PySem.W.Frag} {h:Heap} {mg:Str→Option Value} {f:Addr} {oc kV dc pm cd ct:Value} {od an:Option Addr} {sl:Array (Option Value)} {x y:Str} {st:Stmt} (X:K.In h) (G:h.Ns mainGlobals mg)
 (hb:∀ (kV doc pm:Value) (an:Option Addr) (cdv ct:Value) (u:Value),bindArgs (PySem.W.fnOf x x (gM st) (eF st) (bH st) .none kV doc pm an cdv ct) ⟨[u],[]⟩=pure [(y,u)])
 (a:PySem.W.nsIn K mainGlobals x=some (some (.ref f))) (l:K.lookup f=some ⟨oc,od,.func (PySem.W.fnOf x x (gM st) (eF st) (bH st) .none kV dc pm an cd ct),sl⟩) (c:PySem.W.codeIn K cd x=true) (k:PySem.W.keepIn K (.ref f)=true):Dl K mg x y st :=
 ⟨_,_,⟨⟨oc,od,.none,kV,dc,pm,an,cd,ct,sl,rfl,l,c⟩,k⟩,fun s u=>.of_eq (hb kV dc pm an cd ct u),PySem.W.mg_of X G a⟩
section
variable {P:Program} {w:World} {K:PySem.W.Frag} {mg:Str→Option Value} {base:Heap} {x:Str} {ps N:List Str} {st:Stmt} {k n:Nat} {fs:FS} {fl:List Fl}
theorem FunD.ok {f:Addr} {fd:FuncData} {sp:Sp} (F:FunD K x st f fd) (S:FnScope N ps (bH st)) (len:∀ vs H Q E,sp vs H Q E→vs.length=ps.length)
 (hbody:∀ (cdv:Value) (A:Around) (outer:List Env) (s:Shared) (H:Hp) (vs:List V) (Q:VK) (E:XK),Room k (A.deeper (envOfC x (bH st) s.heap.objs.size f cdv))→sp vs H Q E →
  ∃ t,PSs (vG CX0 P w K mg base N x (bH st) f cdv A outer s H E).nox (eF st) t∧t { nx:=fun _ H'=>Q .non H',rt:=Q } (L2.start N vs) H):FnOk P w K mg base CX0 (k + 1) f fd ps sp:=by
 obtain ⟨oc,od,dV,kV,doc,pm,an,cdv,ct,osl,rfl,lk,hcd⟩:=F.ex
 refine Kh lk hcd S len fun A outer s H vs Q E hr hsp=>?_
 obtain ⟨t,h,q⟩:=hbody cdv A outer s H vs Q E hr hsp
 exact ⟨t,h.nox,q⟩
theorem vX {f:Addr} {fd:FuncData} (Fn:FunD K x st f fd) (S:FnScope N ps (bH st)) (hp:∀ i,i < ps.length→fl[i]? = some .A) (hN:ps.length ≤ N.length)
 (hbody:∀ (f:Addr) (cdv:Value) (A:Around) (outer:List Env) (s:Shared) (H:Hp) (E:XK),Room k (A.deeper (envOfC x (bH st) s.heap.objs.size f cdv))→DSs (cx P w K mg base N x st f cdv A outer s H E) fl (eF st) fs) :
 FnOk P w K mg base CX0 (k + 1) f fd ps (spD K (fnD ps.length (N.length - ps.length) fs)):=by
 refine Fn.ok S (fun vs H Q E h=>?_) (fun cdv A outer s H vs Q E hr h=>?_)
 ·obtain ⟨ds,d,r,hf,_⟩:=h
  unfold fnD at hf
  by_cases z:ds.length=ps.length
  ·rw [r.2.length];exact z
  ·rw [if_neg z] at hf;cases hf
 ·obtain ⟨ds,d,r,hf,q⟩:=h
  refine ⟨_,hbody f cdv A outer s H E hr,?_⟩
  unfold fnD at hf
  by_cases z:ds.length=ps.length
  ·rw [if_pos z] at hf
   split at hf
   ·next d' e =>
    cases hf
    exact ⟨_,_,_,_,sH ps.length hp z hN r,e,fun v H' s r=>q v H' s r⟩
   ·next δ' e =>
    cases hf
    exact ⟨_,_,_,_,sH ps.length hp z hN r,e,fun ow' σ' H' R'=>q .non H' R'.same0 .non⟩
   ·cases hf
  ·rw [if_neg z] at hf;cases hf
theorem jU (Dd:Dg K mg x st ps) (S:FnScope N ps (bH st)) (hp:∀ i,i < ps.length→fl[i]? = some .A) (hN:ps.length ≤ N.length)
 (hbody:∀ (f:Addr) (cdv:Value) (A:Around) (outer:List Env) (s:Shared) (H:Hp) (E:XK),Room k (A.deeper (envOfC x (bH st) s.heap.objs.size f cdv))→DSs (cx P w K mg base N x st f cdv A outer s H E) fl (eF st) fs) :
 Has P w K mg base (k + 1) x ps (spD K (fnD ps.length (N.length - ps.length) fs)):=by
 obtain ⟨f,fd,Fn,b,m⟩:=Dd.ex
 exact ⟨f,fd,vX Fn S hp hN hbody,b,Fn.kp,m⟩
end
def Ah (K:PySem.W.Frag):Sp:=fun vs H Q _=>∃ (a:Addr) (ns:List Int),Tb H∧vs=[.ref a]∧SqL K H a (ns.map V.int)∧ns.length ≤ 63∧∀ H',Q (.bl true) H'
theorem mO {K:PySem.W.Frag} {ok:Ok} {pl:Bool} {H:Hp}:∀ ns:List Int,RAs K ok pl H (ns.map V.int) (ns.map PyData.int)
 | []=>.nil
 | n :: r=>.cons (.int n) (mO r)
theorem Dy {K:PySem.W.Frag} {F:List D→Option D} (hF:∀ ns:List Int,ns.length ≤ 63→F [.list (ns.map .int)]=some (.bool true)) (vs:List V) (H:Hp) (Q:VK) (E:XK) (h:Ah K vs H Q E):spD K F vs H Q E:=by
 obtain ⟨a,ns,tb,rfl,hS,hl,q⟩:=h
 refine ⟨_,_,⟨tb,.cons ?_ .nil⟩,hF ns hl,fun v H' s r=>?_⟩
 ·rcases hS with (h | ⟨o,h⟩) | h
  ·exact .lst h trivial (mO ns)
  ·exact .lsk (.inl ⟨o,h⟩) rfl (mO ns)
  ·exact .lsk (.inr h) rfl (mO ns)
 ·obtain rfl:=r.blE
  exact q H'
end D3
namespace D3
open PySem PySem.Spec PyProof.Rows L2 My
section
variable {prog:Program} {w:World} {A:Around} {E:Value→Shared→Prop} {s:Shared}
end
section
variable {X:Cx} {fl:List Fl} {a:Expr} {f:FE} {pos p p2 pos2:Pos}
end
section
variable {X:Cx} {fl:List Fl} {a b:Expr} {pos p p2 pos2:Pos} {fa:FA}
end
end D3
namespace D3
open PySem PySem.Spec PyProof.Rows L2 My
section
variable {X:Cx}
theorem oF:∀ {ns:List Int} {its:List Value},Vals (ns.map V.int) its→IntsAre its ns
 | [],_,.nil=>.nil
 | n :: r,_,.cons h t=>by
  obtain ⟨k,rfl⟩:=h
  exact .cons _ _ (oF t)
theorem mG {K:PySem.W.Frag} {ok:Ok} {pl:Bool} {H:Hp}:∀ {l:List D} {ns:List Int} {ys:List V},jQ l=some ns→RAs K ok pl H ys l→ys=ns.map V.int
 | [],_,_,e,.nil=>by cases e;rfl
 | d :: r,ns,_,e,.cons h t=>by
  cases d <;> first | (cases e;done) | skip
  obtain rfl:=h.intE
  cases e2:jQ r with
  | none=>rw [jQ,e2] at e;cases e
  | some m =>
   rw [jQ,e2] at e
   cases e
   rw [mG e2 t]
   rfl
theorem Gu {K:PySem.W.Frag}:BrC K (fun xs H Q=>∃ (p:Addr) (ns:List Int),xs=[.ref p]∧SqL K H p (ns.map V.int)∧Q (.int ns.sum) H) KN:=by
 intro H xs ds d Q r e q
 unfold KN at e
 split at e
 ·next l =>
  cases e2:jQ l with
  | none=>rw [e2] at e;cases e
  | some ns =>
   rw [e2] at e
   cases e
   cases r with
   | cons r1 r2 =>
    cases r2
    obtain ⟨a,ys,rfl,hx,hr⟩:=r1.lstE
    obtain rfl:=mG e2 hr
    exact ⟨a,ns,rfl,hx,q _ rfl (.int _)⟩
 ·cases e
theorem yw (hc:X.calm=true):nY X (.builtin "max") (fun xs H Q=>∃ (p:Addr) (i:Int) (r:List Int),xs=[.ref p]∧SqL X.K H p ((i :: r).map V.int)∧Q (.int (mxI i r)) H):=by
 intro pins s σ H xs us Q I r h
 obtain ⟨p,i,r0,rfl,hx,q⟩:=h
 obtain ⟨u,rfl,rx⟩:=vals1 r
 cases rx
 obtain ⟨its,rvs,pl,hz⟩:=I.list hx
 have hi:=oF rvs
 obtain ⟨xs,e⟩:=hi.allInts.items
 have hns:i :: r0=xs.toList.map (·.1):=by rw [← hi.numsOf,← nums_intItems,← e]
 have hsz:0 < xs.size:=by
  have h3:0 < (i :: r0).length:=by simp
  rw [hns,aH,aF] at h3;exact h3
 have hl:s.heap.IsList p (intItems xs):=e ▸ pl.isList
 refine max_intList (I.ok.hd hc) hl hsz fun v h' tk hv hk=>?_
 obtain ⟨t,rfl⟩:=intItems_at hv
 obtain ⟨h1,h2⟩:=argBest_gt (numAt xs) (xs.size - 1)
 have m1:numAt xs (argBest (fun i j=>decide (numAt xs i > numAt xs j)) (xs.size - 1)) ∈ i :: r0:=by
  rw [hns,numAt_eq];exact getD_mem (by rw [aH,aF];omega)
 have m2:∀ a ∈ i :: r0,a ≤ numAt xs (argBest (fun i j=>decide (numAt xs i > numAt xs j)) (xs.size - 1)):=fun a ha=>by
  rw [hns] at ha
  obtain ⟨j,hj,rfl⟩:=mem_getD ha
  rw [aH,aF] at hj
  rw [← numAt_eq];exact h2 j (by omega)
 have sp:=n_ r0 i
 have eq:numAt xs (argBest (fun i j=>decide (numAt xs i > numAt xs j)) (xs.size - 1))=mxI i r0:=Int.le_antisymm (sp.2 _ m1) (m2 _ sp.1)
 rw [eq]
 exact ⟨.int _,H,I.kept hk,⟨_,rfl⟩,q⟩
theorem HY {K:PySem.W.Frag}:BrC K (fun xs H Q=>∃ (p:Addr) (i:Int) (r:List Int),xs=[.ref p]∧SqL K H p ((i :: r).map V.int)∧Q (.int (mxI i r)) H) pq:=by
 intro H xs ds d Q r e q
 unfold pq at e
 split at e
 ·next l =>
  split at e
  ·next i r0 e2 =>
   cases e
   cases r with
   | cons r1 r2 =>
    cases r2
    obtain ⟨a,ys,rfl,hx,hr⟩:=r1.lstE
    obtain rfl:=mG e2 hr
    exact ⟨a,i,r0,rfl,hx,q _ rfl (.int _)⟩
  ·cases e
 ·cases e
theorem o8:∀ {l m:List Int},l.Perm m→l.Pairwise (· ≤ ·)→m.Pairwise (· ≤ ·)→l=m
 | [],m,p,_,_=>p.nil_eq
 | a :: l,m,p,h1,h2=>by
  cases m with
  | nil=>exact absurd p.length_eq (by simp)
  | cons b m =>
   obtain ⟨a1,a2⟩:=bG.mp h1
   obtain ⟨b1,b2⟩:=bG.mp h2
   have e:a=b:=by
    have x1:a ∈ b :: m:=p.mem_iff.mp aM
    have x2:b ∈ a :: l:=p.mem_iff.mpr aM
    rcases aQ.mp x1 with z | z
    ·exact z
    ·rcases aQ.mp x2 with y | y
     ·exact y.symm
     ·exact Int.le_antisymm (a1 b y) (b1 a z)
   subst e
   rw [o8 (List.Perm.cons_inv p) a2 b2]
theorem jH:∀ {ns:List Int} {its:List Value},IntsAre its ns→Vals (ns.map V.int) its
 | _,_,.nil=>.nil
 | _,_,.cons n t r=>.cons ⟨t,rfl⟩ (jH r)
theorem tZ:nY X (.builtin "sorted") (fun xs H Q=>∃ (p:Addr) (ns:List Int),xs=[.ref p]∧SqL X.K H p (ns.map V.int)∧ns.length < 64∧∀ l,H l=none→Q (.ref l) (upd H l (.lst ((jF ns).map V.int)))):=by
 intro pins s σ H xs us Q I r h
 obtain ⟨p,ns,rfl,hx,h64,q⟩:=h
 obtain ⟨u,rfl,rx⟩:=vals1 r
 cases rx
 obtain ⟨its,rvs,pl,hz⟩:=I.list hx
 have hi:=oF rvs
 refine sorted_ints pl.isList hi (by rw [hi.length];exact h64) fun out ns' a1 a2 a3=>?_
 obtain rfl:=o8 (a2.trans (eV ns).symm) a3 (iJ ns)
 obtain ⟨e,he⟩:=sortedAll_at s.heap its out
 have hn:H (s.heap.objs.size + 1)=none:=I.hok.fresh (Nat.le_succ _)
 have ll:(jF ns).length=ns.length:=(eV ns).length_eq
 have I2:=I.laid (h':=sortedAll s.heap its out) (t':=s.toks) (a:=s.heap.objs.size + 1) (o:=.lst ((jF ns).map V.int)) (fun b u e=>sortedAll_old e) (Nat.le_succ _)
  ⟨by rw [aH,ll];exact bU (dJ h64) (by decide),out.toList,e,jH a1,by simpa [seqObj] using he⟩
 exact ⟨.ref _,_,I2,rfl,q _ hn⟩
theorem o9 {fl:List Fl} {e:Expr} {fa:FA} {p pos:Pos} (ha:DB X fl .P [e] fa) (hg:Gl X "sorted") (hm:X.mg "sorted" = none)
 (he:starEach [e] X.env=(false,eval e X.env) :: starEach [] X.env:=by rfl) (hpl:(backTo pos (starEach [] X.env)).any (·.1)=false:=by rfl):DE X fl .FC (.Call (.Name "sorted" p) [e] [] pos) (dCall pA fa) :=
 PE.imp (uI tZ hg hm (show bootBuiltins "sorted" = some (.builtin "sorted") by decide +kernel) ha (by decide) (by decide) he hpl) fun σ H Q h=>by
 obtain ⟨G,ow,δ,d,R,hf,q⟩:=h
 obtain ⟨ds,e1,e2⟩:=bind1 hf
 refine ⟨G,ow,δ,ds,R,e1,fun vs H' s r'=>?_⟩
 unfold pA at e2
 split at e2
 ·next l =>
  cases e3:jQ l with
  | none=>rw [e3] at e2;cases e2
  | some ns =>
   rw [e3,aD] at e2
   by_cases h64:ns.length < 64
   ·rw [if_pos h64] at e2
    cases e2
    cases r' with
    | cons r1 r2 =>
     cases r2
     obtain ⟨a,ys,rfl,hx,hr⟩:=r1.lstE
     obtain rfl:=mG e3 hr
     exact ⟨a,ns,rfl,hx,h64,fun l hn=>q _ _ (s.trans (gR hn _)) (.inr ⟨_,_,_,rfl,rfl,s.free hn,fD,mO _⟩)⟩
   ·rw [if_neg h64] at e2;cases e2
 ·cases e2
end
end D3
namespace D3
open PySem PySem.Spec PyProof.Rows L2 My
def gK (n:Nat) (us ws:List α):List α:=if ws.length=n then us++ws else []
structure HasD (P:Program) (w:World) (K:PySem.W.Frag) (mg:Str→Option Value) (base:Heap) (n:Nat) (x:Str) (ps:List Str) (sp:Sp) (dvs:List V) (ks:List Str):Prop where
 ex:∃ (f:Addr) (fd:FuncData) (ds:List Value),FnOk P w K mg base CX0 n f fd ps sp∧Binds K fd ps ds∧Vals dvs ds∧KBinds K fd ps ks (gK ks.length) (gK ks.length)∧PySem.W.keepIn K (.ref f)=true∧mg x=some (.ref f)
structure DgD (K:PySem.W.Frag) (mg:Str→Option Value) (x:Str) (st:Stmt) (ps:List Str) (dvs:List V) (ks:List Str):Prop where
 ex:∃ (f:Addr) (fd:FuncData) (ds:List Value),FunD K x st f fd∧Binds K fd ps ds∧Vals dvs ds∧KBinds K fd ps ks (gK ks.length) (gK ks.length)∧mg x=some (.ref f)
theorem H_ {n:Nat} {vs zs:List V} {us ws:List Value} (h:Vals vs us) (h':Vals zs ws):Vals (gK n vs zs) (gK n us ws):=by
 unfold gK
 rw [h'.length]
 split
 ·exact h.append h'
 ·exact .nil
section
variable {P:Program} {w:World} {K:PySem.W.Frag} {mg:Str→Option Value} {base:Heap} {x:Str} {ps N ks:List Str} {st:Stmt} {k n:Nat} {fs:FS} {fl:List Fl} {dvs:List V}
theorem HasD.mono {sp:Sp} (h:HasD P w K mg base k x ps sp dvs ks) (l:k ≤ n):HasD P w K mg base n x ps sp dvs ks:=by
 obtain ⟨f,fd,ds,F,b,v,kb,kp,m⟩:=h.ex
 exact ⟨f,fd,ds,F.mono l,b,v,kb,kp,m⟩
theorem Ia (Dd:DgD K mg x st ps dvs ks) (S:FnScope N ps (bH st)) (hp:∀ i,i < ps.length→fl[i]? = some .A) (hN:ps.length ≤ N.length)
 (hbody:∀ (f:Addr) (cdv:Value) (A:Around) (outer:List Env) (s:Shared) (H:Hp) (E:XK),Room k (A.deeper (envOfC x (bH st) s.heap.objs.size f cdv))→DSs (cx P w K mg base N x st f cdv A outer s H E) fl (eF st) fs) :
 HasD P w K mg base (k + 1) x ps (spD K (fnD ps.length (N.length - ps.length) fs)) dvs ks:=by
 obtain ⟨f,fd,ds,Fn,b,v,kb,m⟩:=Dd.ex
 exact ⟨f,fd,ds,vX Fn S hp hN hbody,b,v,kb,Fn.kp,m⟩
end
theorem Ie {K:PySem.W.Frag} {h:Heap} {mg:Str→Option Value} {f T:Addr} {oc kV dc pm cd ct:Value} {od an:Option Addr} {sl:Array (Option Value)} {x:Str} {st:Stmt} {ps ks:List Str} {o:Obj} {items:Array Value} {n:Nat} {ds:List Value} {dvs:List V} (X:K.In h) (G:h.Ns mainGlobals mg)
 (hb:∀ (kV doc pm:Value) (an:Option Addr) (cdv ct:Value) (us:List Value),(us++ds).length=ps.length→∃ k,bindArgs (PySem.W.fnOf x x (gM st) (eF st) (bH st) (.ref T) kV doc pm an cdv ct) ⟨us,[]⟩=(seqItems? (.ref T) >>= k)∧k (some items)=pure (ps.zip (us++ds)))
 (hk:∀ (kV doc pm:Value) (an:Option Addr) (cdv ct:Value) (us ws:List Value),ws.length=ks.length→(us++ws).length=ps.length→∃ k,bindArgs (PySem.W.fnOf x x (gM st) (eF st) (bH st) (.ref T) kV doc pm an cdv ct) ⟨us,ks.zip ws⟩=(seqItems? (.ref T) >>= k)∧k (some items)=pure (ps.zip (us++ws)))
 (hp:ps ≠ [])
 (a:PySem.W.nsIn K mainGlobals x=some (some (.ref f))) (l:K.lookup f=some ⟨oc,od,.func (PySem.W.fnOf x x (gM st) (eF st) (bH st) (.ref T) kV dc pm an cd ct),sl⟩) (c:PySem.W.codeIn K cd x=true) (k:PySem.W.keepIn K (.ref f)=true)
 (hT:K.lookup T=some o) (hs:o.data = .seq items n) (hv:Vals dvs ds):DgD K mg x st ps dvs ks :=
 ⟨_,_,ds,⟨⟨oc,od,.ref T,kV,dc,pm,an,cd,ct,sl,rfl,l,c⟩,k⟩,fun s us KX hl=>by
  obtain ⟨k,h1,h2⟩:=hb kV dc pm an cd ct us hl
  exact BindsTo.of_defaults (T:=T) rfl (KX T o hT) hs h1 h2,hv,
  ⟨fun s us ws KX hl=>by
   unfold gK at hl ⊢
   by_cases e:ws.length=ks.length
   ·rw [if_pos e] at hl ⊢
    obtain ⟨k,h1,h2⟩:=hk kV dc pm an cd ct us ws e hl
    exact BindsTo.of_defaults (T:=T) rfl (KX T o hT) hs h1 h2
   ·rw [if_neg e] at hl
    exact absurd (fQ.mp hl.symm) hp,H_⟩,PySem.W.mg_of X G a⟩
theorem Dz {K:PySem.W.Frag} {h:Heap} {mg:Str→Option Value} {f T:Addr} {oc kV dc pm cd ct:Value} {od an:Option Addr} {sl:Array (Option Value)} {x:Str} {st:Stmt} {ps ks:List Str} {o:Obj} {items:Array Value} {n:Nat} {dvs:List V} (X:K.In h) (G:h.Ns mainGlobals mg)
 (hb:∀ (kV doc pm:Value) (an:Option Addr) (cdv ct:Value) (us:List Value),(us++items.toList).length=ps.length→∃ k,bindArgs (PySem.W.fnOf x x (gM st) (eF st) (bH st) (.ref T) kV doc pm an cdv ct) ⟨us,[]⟩=(seqItems? (.ref T) >>= k)∧k (some items)=pure (ps.zip (us++items.toList)))
 (hk:∀ (kV doc pm:Value) (an:Option Addr) (cdv ct:Value) (us ws:List Value),ws.length=ks.length→(us++ws).length=ps.length→∃ k,bindArgs (PySem.W.fnOf x x (gM st) (eF st) (bH st) (.ref T) kV doc pm an cdv ct) ⟨us,ks.zip ws⟩=(seqItems? (.ref T) >>= k)∧k (some items)=pure (ps.zip (us++ws)))
 (hp:ps ≠ [])
 (a:PySem.W.nsIn K mainGlobals x=some (some (.ref f))) (l:K.lookup f=some ⟨oc,od,.func (PySem.W.fnOf x x (gM st) (eF st) (bH st) (.ref T) kV dc pm an cd ct),sl⟩) (c:PySem.W.codeIn K cd x=true) (k:PySem.W.keepIn K (.ref f)=true)
 (hT:K.lookup T=some o) (hs:o.data = .seq items n) (hv:Vals dvs items.toList):DgD K mg x st ps dvs ks :=
 Ie (ds:=items.toList) X G hb hk hp a l c k hT hs hv
section
variable {X:Cx} {fl:List Fl} {e ke:Expr} {es:List Expr} {pos p kpos:Pos} {x kn:Str} {ps:List Str} {n:Nat} {F:List D→Option D} {fa:FA} {fk:FE} {i:Int} {dvs:List V}
theorem uQ (h:HasD X.prog X.w X.K X.mg X.base n x ps (spD X.K F) [V.int i] [kn]) (hr:Room n X.A) (ha:DB X fl .P (e :: es) fa) (hg:Gl X x:=by rfl) (hdb:(x == ("__debug__" : Str))=false:=by decide)
 (he:starEach (e :: es) X.env=(false,eval e X.env) :: starEach es X.env:=by exact mL rfl) (hpl:(backTo pos (starEach es X.env)).any (·.1)=false:=by exact z_ rfl) :
 DE X fl .C (.Call (.Name x p) (e :: es) [] pos) (o7 F i fa):=by
 obtain ⟨f,fd,ds0,Fo,b,v,kb,kp,m⟩:=h.ex
 refine PE.imp (wF Fo hr hg m kp b v Gj ha hdb he hpl) fun σ H Q h=>?_
 obtain ⟨G,ow,δ,d,R,hf,q⟩:=h
 obtain ⟨ds,e1,e2⟩:=bind1 hf
 refine ⟨G,ow,δ,ds,R,e1,fun vs H' s r=>?_⟩
 exact ⟨ds++[.int i],d,⟨R.tb.same s,r.append (.cons (.int i) .nil)⟩,e2,fun v H2 s2 r2=>q v H2 (s.trans s2) (RA.imp (fun a z=>s.free z) (fun z=>z) r2)⟩
theorem Ig {K:PySem.W.Frag}:BrC K (fun xs H Q=>(∃ i,xs=[.int i]∧Q (.int i) H)∨∃ k,xs=[.bl k]∧Q (.int (if k then 1 else 0)) H) yq:=by
 intro H xs ds d Q r e q
 unfold yq at e
 split at e
 ·cases e
  cases r with
  | cons r1 r2 =>
   cases r2
   obtain rfl:=r1.intE
   exact .inl ⟨_,rfl,q _ rfl (.int _)⟩
 ·cases e
  cases r with
  | cons r1 r2 =>
   cases r2
   obtain rfl:=r1.blE
   exact .inr ⟨_,rfl,q _ rfl (.int _)⟩
 ·cases e
theorem Ai {j pos'} {a:Expr} {f:FE} (h:DE X fl .P a f):DT X fl (.Compare a [.Is] [.Constant .none j pos'] pos) (cT (dUn yp f)):=PT.imp (G4 (G3 h)) fun σ H Q h=>by
 obtain ⟨G,ow,δ,c,R,hf,q⟩:=h
 obtain ⟨d,e1,e2⟩:=bind1 hf
 obtain ⟨x,e3,e4⟩:=bind1 e1
 cases e4
 cases e2
 refine ⟨G,ow,δ,x,R,e3,fun v H1 s1 r1=>?_⟩
 refine ⟨decide (v = .non),rfl,?_⟩
 rw [HS (RA.same (Same.refl H1) r1)]
 exact q H1 s1
theorem DK {p:Pos} (ha:DB X fl .P [e] fa) (hg:Gl X "int") (hm:X.mg "int" = none)
 (he:starEach [e] X.env=(false,eval e X.env) :: starEach [] X.env:=by rfl) (hpl:(backTo pos (starEach [] X.env)).any (·.1)=false:=by rfl):DE X fl .FC (.Call (.Name "int" p) [e] [] pos) (dCall yq fa) :=
 PE.imp (xY xW hg hm boot_int ha (by decide) (by decide) he hpl) fun σ H Q h=>by
 obtain ⟨G,ow,δ,d,R,hf,q⟩:=h
 obtain ⟨ds,e1,e2⟩:=bind1 hf
 exact ⟨G,ow,δ,ds,R,e1,fun vs H' s r'=>Ig H' vs ds d Q r' e2 fun v hv rv=>q v H' s (.inl ⟨hv,rv⟩)⟩
end
end D3
namespace D3
open PySem PySem.Spec PyProof.Rows L2 My
section
variable {X:Cx}
theorem sJ {K:PySem.W.Frag} {ok:Ok} {pl:Bool} {H:Hp}:∀ {l:List D} {bs:List Bool} {ys:List V},nD l=some bs→RAs K ok pl H ys l→ys=bs.map V.bl
 | [],_,_,e,.nil=>by cases e;rfl
 | d :: r,bs,_,e,.cons h t=>by
  cases d <;> first | (cases e;done) | skip
  obtain rfl:=h.blE
  cases e2:nD r with
  | none=>rw [nD,e2] at e;cases e
  | some m =>
   rw [nD,e2] at e
   cases e
   rw [sJ e2 t]
   rfl
theorem Gv {K:PySem.W.Frag}:BrC K (fun xs H Q=>∃ (p:Addr) (bs:List Bool),xs=[.ref p]∧SqL K H p (bs.map V.bl)∧Q (.bl (bs.all id)) H) KR:=by
 intro H xs ds d Q r e q
 unfold KR at e
 split at e
 ·next l =>
  cases e2:nD l with
  | none=>rw [e2] at e;cases e
  | some bs =>
   rw [e2] at e
   cases e
   cases r with
   | cons r1 r2 =>
    cases r2
    obtain ⟨a,ys,rfl,hx,hr⟩:=r1.lstE
    obtain rfl:=sJ e2 hr
    exact ⟨a,bs,rfl,hx,q _ rfl (.bl _)⟩
 ·cases e
end
section
variable {X:Cx} {fl:List Fl} {a:Expr} {f:FE} {pos:Pos} {ta:TE}
end
section
variable {X:Cx} {fl:List Fl} {a b c:Expr} {f fa fb fc:FE} {pos:Pos}
end
def Itz (K:PySem.W.Frag) (a b:Addr):It :=
 ⟨fun i H=>∃ xs ys x y,SqL K H a xs∧SqL K H b ys∧xs[i]? = some x∧ys[i]? = some y,
  fun i H x H'=>∃ p u v,H p=none∧H'=upd H p (.tup [u,v])∧x = .ref p∧(∀ xs,SqL K H a xs→xs[i]? = some u)∧∀ ys,SqL K H b ys→ys[i]? = some v,
  fun i H=>∃ xs ys,SqL K H a xs∧SqL K H b ys∧(xs.length ≤ i∨ys.length ≤ i)⟩
theorem sO {h:Heap} {z TI TO i1 i2 l1 l2:Addr} {k1 k2:Nat} {f0 a b:Value} {x y:Value} {xs ys:Array Value} (hz:IsZip h z TI TO f0) (hTI:IsPair h TI x y) (hTO:IsPair h TO a b) (h1:h.IsListIter i1 l1 k1) (h2:h.IsListIter i2 l2 k2) (hl1:h.IsList l1 xs) (hl2:h.IsList l2 ys) (nT:TI ≠ TO) (ni:i1 ≠ i2) :
 ZipApart z TI TO i1 i2 l1 l2:=by
 obtain ⟨o1,e1,c1,d1⟩:=h1
 obtain ⟨o2,e2,c2,d2⟩:=h2
 obtain ⟨p1,g1,k1,m1⟩:=hl1
 obtain ⟨p2,g2,k2,m2⟩:=hl2
 have ne:∀ {u v:Addr} {o o':Obj},h.get? u=some o→h.get? v=some o'→o.cls ≠ o'.cls→u ≠ v:=fun e e' n z=>by
  subst z
  rw [e] at e'
  cases e'
  exact n rfl
 exact ⟨ne hTI hz (by simp),ne hTO hz (by simp),ne e1 hz (by rw [c1];simp),ne e2 hz (by rw [c2];simp),nT,ne hTI e1 (by rw [c1];simp),ne hTI e2 (by rw [c2];simp),ne hTO e1 (by rw [c1];simp),ne hTO e2 (by rw [c2];simp),ni,
  ne g1 hz (by rw [k1];simp),ne g1 hTO (by rw [k1];simp),ne g1 e1 (by rw [k1,c1];simp),ne g1 e2 (by rw [k1,c2];simp),ne g2 hz (by rw [k2];simp),ne g2 hTO (by rw [k2];simp),ne g2 e1 (by rw [k2,c1];simp),ne g2 e2 (by rw [k2,c2];simp)⟩
theorem Aj {P:Program} {w:World} {K:PySem.W.Frag} {elts:List Expr} {x1} {tpos:Pos} (a b z TI TO i1 i2:Addr) (nT:TI ≠ TO) (ni:i1 ≠ i2) :
 Turn P w K (.Tuple elts x1 tpos) (Itz K a b) [z,TI,TO,i1,i2] z (fun i h=>IsZip h z TI TO .none∧IsPair h TI (.ref i1) (.ref i2)∧(∃ u v,IsPair h TO u v)∧h.IsListIter i1 a i∧h.IsListIter i2 b i) where
 mem:=by simp
 obj:=fun i h st c hc=>by
  obtain ⟨hz,hTI,⟨u,v,hTO⟩,⟨o1,e1,c1,d1⟩,⟨o2,e2,c2,d2⟩⟩:=st
  simp only [aQ,aX,dI,or_false] at hc
  rcases hc with rfl | rfl | rfl | rfl | rfl
  ·exact ⟨_,hz,fun v z=>by cases z⟩
  ·exact ⟨_,hTI,fun v z=>by cases z⟩
  ·exact ⟨_,hTO,fun v z=>by cases z⟩
  ·exact ⟨o1,e1,fun v z=>by rw [d1] at z;cases z⟩
  ·exact ⟨o2,e2,fun v z=>by rw [d2] at z;cases z⟩
 keep:=fun i h h' st k=>by
  obtain ⟨hz,hTI,⟨u,v,hTO⟩,h1,h2⟩:=st
  exact ⟨k _ (by simp) _ hz,k _ (by simp) _ hTI,⟨u,v,k _ (by simp) _ hTO⟩,h1.at fun o e=>k i1 (by simp) o e,h2.at fun o e=>k i2 (by simp) o e⟩
 item:=by
  intro X hP hw hK hc i pins s σ H E I hf st hg
  subst hP hw hK
  obtain ⟨xs,ys,x,y,hqa,hqb,hx,hy⟩:=hg
  obtain ⟨itsa,rva,pa,hza⟩:=I.list hqa
  obtain ⟨itsb,rvb,pb,hzb⟩:=I.list hqb
  obtain ⟨ua,hua,rua⟩:=rva.get hx
  obtain ⟨ub,hub,rub⟩:=rvb.get hy
  obtain ⟨hz,hTI,⟨u,v,hTO⟩,h1,h2⟩:=st
  have D:=sO hz hTI hTO h1 h2 pa.isList pb.isList nT ni
  have lts:∀ c ∈ [z,TI,TO,i1,i2],c < s.heap.objs.size:=fun c hc=>by
   simp only [aQ,aX,dI,or_false] at hc
   rcases hc with rfl | rfl | rfl | rfl | rfl
   ·exact Heap.lt_size hz
   ·exact Heap.lt_size hTI
   ·exact Heap.lt_size hTO
   ·obtain ⟨o,e,_⟩:=h1;exact Heap.lt_size e
   ·obtain ⟨o,e,_⟩:=h2;exact Heap.lt_size e
  refine wpAny_pyNext_zip_item D hz hTI hTO h1 h2 pa.isList pb.isList (x:=ua) (y:=ub) (by simpa using hua) (by simpa using hub) fun hh g1 g2 g3 g4 g5 g6 g7=>?_
  refine ⟨_,rfl,wpAny_letOwnedTupleGo_zip g1 fun hh2 e1 e2=>?_⟩
  replace e2:Heap.SameBut z hh hh2:=e2
  have hn:H s.heap.objs.size=none:=I.hok.fresh (aO _)
  have I0:Inv X pins σ (upd H s.heap.objs.size (.tup [x,y])) { s with heap:=s.heap.push { cls:=.type "tuple", data:=.seq #[ua,ub] } } :=
   I.laid (t':=s.toks) (fun b o e=>Heap.get?_push_of_some _ e) (aO _) ⟨show 2 ≤ sizeLine by decide,[ua,ub],.cons rua (.cons rub .nil),⟨_,Heap.get?_push_size _ rfl,rfl,_,rfl⟩⟩
  have ne:∀ c,c ∈ [z,TI,TO,i1,i2]→c ≠ s.heap.objs.size:=fun c hc=>bI (lts c hc)
  have I1:Inv X pins σ (upd H s.heap.objs.size (.tup [x,y])) { s with heap:=hh2,toks:=s.toks }:=by
   refine Inv.turnedL (s:={ s with heap:=s.heap.push { cls:=.type "tuple", data:=.seq #[ua,ub] } }) (ch:=[z,TI,TO,i1,i2]) I0 (fun c o hc e=>?_) fun c hc=>⟨by rw [dg (ne c hc)];exact (hf c hc).1,(hf c hc).2⟩
   have b1:c ≠ z:=fun q=>hc (by simp [q])
   have b2:c ≠ TO:=fun q=>hc (by simp [q])
   have b3:c ≠ i1:=fun q=>hc (by simp [q])
   have b4:c ≠ i2:=fun q=>hc (by simp [q])
   rcases Heap.get?_push_cases e with ⟨e3,e4⟩ | e3
   ·subst e3 e4
    exact (e2.2 _ b1).trans g5
   ·exact (e2.2 _ b1).trans (g7 c o b1 b2 b3 b4 e3)
  refine ⟨.ref s.heap.objs.size,_,I1,rfl,⟨_,x,y,hn,rfl,rfl,fun zs hz'=>by rw [I.list_inj hz' hqa];exact hx,fun zs hz'=>by rw [I.list_inj hz' hqb];exact hy⟩,⟨e1,(e2.2 _ D.TIz).trans (g7 _ _ D.TIz D.TITO D.TIi1 D.TIi2 hTI),⟨_,_,(e2.2 _ D.TOz).trans g2⟩,g3.at fun o e=>(e2.2 _ D.i1z).trans e,g4.at fun o e=>(e2.2 _ D.i2z).trans e⟩,fun c hc=>?_⟩
  rw [dg (ne c hc)]
  exact (hf c hc).1
 done:=by
  intro X hP hw hK hc i pins s σ H E I hf st hg
  subst hP hw hK
  obtain ⟨xs,ys,hqa,hqb,hx⟩:=hg
  obtain ⟨itsa,rva,pa,hza⟩:=I.list hqa
  obtain ⟨itsb,rvb,pb,hzb⟩:=I.list hqb
  obtain ⟨hz,hTI,⟨u,v,hTO⟩,h1,h2⟩:=st
  have D:=sO hz hTI hTO h1 h2 pa.isList pb.isList nT ni
  have la:=rva.length
  have lb:=rvb.length
  refine wpAny_pyNext_zip_end (I.ok.hd hc) D hz hTI hTO h1 h2 pa.isList pb.isList ?_ fun h' eb=>⟨rfl,Inv.turnedL (t':=s.toks) (ch:=[z,TI,TO,i1,i2]) I (fun c o hc e=>eb c o (fun q=>hc (by simp [q])) (fun q=>hc (by simp [q])) (fun q=>hc (by simp [q])) (fun q=>hc (by simp [q])) e) hf⟩
  rcases hx with hx | hx
  ·exact .inl (by simp;omega)
  ·exact .inr (by simp;omega)
 self:=fun _ _ _ _ _ st h=>wpAny_pyIter_zip st.1 h
section
variable {X:Cx} {fl:List Fl} {a b:Expr} {f g:FE} {pos:Pos}
def NK (K:PySem.W.Frag) (ta tb:TE):TI:=fun σ H R=>ta σ H fun x H1=>tb σ H1 fun y H2=>∃ p q,x = .ref p∧y = .ref q∧(∃ xs,SqL K H2 p xs)∧(∃ ys,SqL K H2 q ys)∧R (Itz K p q) H2
theorem boot_zip:bootBuiltins "zip" = some (.type "zip"):=by decide +kernel
theorem Ih {elts:List Expr} {x1} {tpos p:Pos} {ta tb:TE} (hg:Gl X "zip") (hm:X.mg "zip" = none) (ha:PE X a ta) (hb:PE X b tb) (he:starEach [a,b] X.env=(false,eval a X.env) :: starEach [b] X.env:=by rfl) (he2:starEach [b] X.env=(false,eval b X.env) :: starEach [] X.env:=by rfl)
 (hpl:(backTo pos (starEach [b] X.env)).any (·.1)=false:=by rfl):PI X (.Tuple elts x1 tpos) (.Call (.Name "zip" p) [a,b] [] pos) (NK X.K ta tb):=by
 intro pins s σ H R I h
 refine wpAny_Call_Name_kw (nu I hg hm boot_zip (PyProof.Rows.callWith_type1 (thn ((tL ha (tL hb zK he2) he) pos pins s σ H (fun vs H1=>match vs with | [x,y]=>∃ p q,x = .ref p∧y = .ref q∧(∃ xs,SqL X.K H1 p xs)∧(∃ ys,SqL X.K H1 q ys)∧R (Itz X.K p q) H1 | _=>False) I h) fun us s1 ⟨vs,H1,I1,r1,q1⟩=>?_) he hpl))
 cases r1 with
 | nil=>exact q1.elim
 | cons r rr =>
  cases rr with
  | nil=>exact q1.elim
  | cons r' rr' =>
  cases rr' with
  | cons _ _=>exact q1.elim
  | nil =>
  obtain ⟨l,m,e,e',⟨xs,hq⟩,⟨ys,hq'⟩,q⟩:=q1
  subst e e'
  cases r
  cases r'
  obtain ⟨its,rv,pl,hz⟩:=I1.list hq
  obtain ⟨its',rv',pl',hz'⟩:=I1.list hq'
  refine call_zip_2 pl.isList pl'.isList fun h' g1 g2 g3 g4 g5 g6 hk=>?_
  have I2:Inv X pins σ H1 { s1 with heap:=h' }:=I1.kept (t':=s1.toks) hk
  refine wpAny_pyIter_zip (s:={ s1 with heap:=h' }) g1 ?_
  refine ⟨s1.heap.objs.size + 4,[s1.heap.objs.size + 4,s1.heap.objs.size + 2,s1.heap.objs.size + 3,s1.heap.objs.size,s1.heap.objs.size + 1],_,_,H1,rfl,I2,Aj l m (s1.heap.objs.size + 4) (s1.heap.objs.size + 2) (s1.heap.objs.size + 3) s1.heap.objs.size (s1.heap.objs.size + 1) (bI (kj _)) (bI (kj _)),⟨g1,g2,⟨_,_,g3⟩,g4,g5⟩,fun b hb=>?_,q⟩
  have hb':s1.heap.objs.size ≤ b:=by
   simp only [aQ,aX,dI,or_false] at hb
   rcases hb with rfl | rfl | rfl | rfl | rfl <;> omega
  exact I1.fpOk hb' (I1.hok.fresh hb')
theorem uR:∀ (l m:List D) (i:Nat),(m7 l m)[i]? = (l[i]?).bind fun x=>(m[i]?).map fun y=>PyData.tuple [x,y]
 | [],_,i=>by simp [m7]
 | _ :: _,[],i=>by cases i <;> simp [m7]
 | x :: l,y :: m,0=>by simp [m7]
 | x :: l,y :: m,i + 1=>by simp [m7,uR l m i]
theorem uT:∀ (l m:List D),(m7 l m).length=min l.length m.length
 | [],_=>by simp [m7]
 | _ :: _,[]=>by simp [m7]
 | x :: l,y :: m=>by simp [m7,uT l m]
theorem RsB.same {K:PySem.W.Frag} {G:Gh} {ow:Ow} {Hb H H':Hp} {L:List Nat} {v:V} {d:D} (e:Same H H') (h:Rs K G.H0 ow Hb H (.B L) v d):Rs K G.H0 ow Hb H' (.B L) v d:=by
 rcases h with h | ⟨i,hi,a,xs,ds,h1,h2,h3,h4,h5⟩
 ·exact .inl (RA.same e h)
 ·exact .inr ⟨i,hi,a,xs,ds,h1,h2,h3,e _ _ h4,h5.same e⟩
theorem Ii {elts:List Expr} {x1} {tpos p:Pos} {L1 L2 L:List Nat} (ha:DE X fl (.B L1) a f) (hb:DE X fl (.B L2) b g) (hg:Gl X "zip") (hm:X.mg "zip" = none) (hL:L=L1++L2:=by rfl)
 (he:starEach [a,b] X.env=(false,eval a X.env) :: starEach [b] X.env:=by rfl) (he2:starEach [b] X.env=(false,eval b X.env) :: starEach [] X.env:=by rfl)
 (hpl:(backTo pos (starEach [b] X.env)).any (·.1)=false:=by rfl):DI X fl L (.Tuple elts x1 tpos) (.Call (.Name "zip" p) [a,b] [] pos) (Di f g):=PI.imp (Ih hg hm ha hb he he2 hpl) fun σ H R' h=>by
 subst hL
 obtain ⟨G,ow,δ,l,R,hf,q⟩:=h
 obtain ⟨d,e1,hf⟩:=bind1 hf
 obtain ⟨d',e2,hf⟩:=bind1 hf
 obtain ⟨l0,rfl⟩:∃ l0,d = .list l0:=by cases d <;> first | exact ⟨_,rfl⟩ | (cases hf;done)
 obtain ⟨m0,rfl⟩:∃ m0,d' = .list m0:=by cases d' <;> first | exact ⟨_,rfl⟩ | (cases hf;done)
 cases hf
 refine ⟨G,ow,δ,_,R,e1,fun v H1 s1 r1=>⟨G,ow,δ,_,R.grow s1,e2,fun v' H2 s2 r2=>?_⟩⟩
 have r1':=RsB.same s2 r1
 obtain ⟨pa,xs,rfl,hx,keepa⟩:=vN ((R.grow s1).grow s2) r1'
 obtain ⟨pb,ys,rfl,hy,keepb⟩:=vN ((R.grow s1).grow s2) r2
 refine ⟨pa,pb,rfl,rfl,⟨xs,hx⟩,⟨ys,hy⟩,q _ _ (s1.trans s2) fun H3 k3 i=>?_⟩
 obtain ⟨a1,a2⟩:=keepa H3 fun b o e z=>k3 b o e fun i w=>b_ _ (z i w)
 obtain ⟨b1,b2⟩:=keepb H3 fun b o e z=>k3 b o e fun i w=>aV _ (z i w)
 refine ⟨fun d hd=>?_,fun hl=>⟨xs,ys,a1,b1,?_⟩⟩
 ·rw [uR] at hd
  cases ea:l0[i]? with
  | none=>rw [ea] at hd;cases hd
  | some x0 =>
   cases eb:m0[i]? with
   | none=>rw [ea,eb] at hd;cases hd
   | some y0 =>
    rw [ea,eb] at hd
    cases hd
    obtain ⟨x,hx1,rx⟩:=a2.get ea
    obtain ⟨y,hy1,ry⟩:=b2.get eb
    refine ⟨⟨xs,ys,x,y,a1,b1,hx1,hy1⟩,fun z H4 hyl=>?_⟩
    obtain ⟨p',u,v,hp,rfl,rfl,hu,hv⟩:=hyl
    have eu:some x=some u:=hx1.symm.trans (hu xs a1)
    have ev:some y=some v:=hy1.symm.trans (hv ys b1)
    cases eu
    cases ev
    have gg:=gR hp (.tup [x,y])
    exact ⟨gg,.tup fD (.cons (rx.same gg) (.cons (ry.same gg) .nil))⟩
 ·rw [uT] at hl
  rw [a2.length,b2.length]
  omega
end
end D3
namespace D3
open PySem PySem.Spec PyProof.Rows L2 My
section
variable {X:Cx} {fl:List Fl} {e a b c:Expr} {es rest:List Expr} {k:Kd} {f fa fb fc:FE} {ft gt:FT} {pos:Pos}
end
section
variable {K:PySem.W.Frag} {fl:List Fl}
end
section
variable {K:PySem.W.Frag} {H:Hp}
end
section
variable {X:Cx} {fl:List Fl} {e ke:Expr} {f fk:FE} {pos:Pos}
end
end D3
namespace D3
open PySem
end D3
namespace D3
open PySem PySem.Spec PyProof.Rows L2 My
section
variable {X:Cx}
end
section
variable {X:Cx} {fl:List Fl} {e ke:Expr} {f fk:FE} {pos:Pos}
end
section
variable {X:Cx} {fl:List Fl} {a:Expr} {pos p p2 pos2:Pos} {fa:FA}
end
end D3
namespace D3
open PySem PySem.Spec PyProof.Rows L2 My
section
variable {X:Cx} {pins:List (Addr × Obj)} {σ:L2.St} {H:Hp} {s:Shared}
end
section
variable {X:Cx} {K:PySem.W.Frag}
end
section
variable {X:Cx} {fl:List Fl} {es:List Expr} {pos:Pos}
end
section
variable {X:Cx} {fl:List Fl} {e:Expr} {f:FE}
end
section
variable {X:Cx} {fl:List Fl} {a:Expr} {f:FE} {pos p:Pos}
end
section
variable {X:Cx} {fl:List Fl} {a b:Expr} {fa fb:FE} {pos:Pos}
end
end D3
namespace D3
open PySem PySem.Spec PyProof.Rows L2 My
section
variable {X:Cx} {K:PySem.W.Frag}
end
section
variable {X:Cx} {fl:List Fl} {a:Expr} {f:FE} {pos:Pos}
end
section
variable {X:Cx} {fl:List Fl} {e:Expr} {es:List Expr} {f:FE} {pos p:Pos} {x:Str} {n:Nat} {F:List D→Option D} {fa:FA}
end
section
variable {P:Program} {w:World} {K:PySem.W.Frag} {mg:Str→Option Value} {base:Heap} {x:Str} {ps N:List Str} {st:Stmt} {k n:Nat} {fs:FS} {fl:List Fl}
end
section
variable {P:Program} {w:World} {K:PySem.W.Frag} {mg:Str→Option Value} {base:Heap} {x:Str} {ps:List Str} {st:Stmt} {n:Nat}
end
end D3
namespace D3
open PySem PySem.Spec PyProof.Rows L2 My
section
variable {K:PySem.W.Frag} {fl flA:List Fl} {G:Gh} {ow:Ow} {σ σ':St} {H H1:Hp} {δ:DS} {T:List Nat}
end
section
variable {X:Cx} {fl flA:List Fl} {e:Expr} {es:List Expr} {f:FE} {fa:FA} {pos:Pos}
end
section
variable {X:Cx} {fl:List Fl} {pos:Pos}
end
end D3
namespace D3
open PySem
end D3
namespace D3
open PySem
end D3
namespace D3
open PySem
end D3
namespace D3
open PySem
end D3
namespace D3
open PySem
def ddI:List Int→List Int
 | []=>[]
 | x :: r=>if x ∈ r then ddI r else x :: ddI r
theorem qJ:∀ {l:List Int} {x:Int},x ∈ ddI l↔x ∈ l
 | [],x=>Iff.rfl
 | y :: r,x=>by
  unfold ddI
  by_cases c:y ∈ r
  ·rw [if_pos c,qJ,aQ]
   exact ⟨.inr,fun z=>by
    rcases z with rfl | z
    ·exact c
    ·exact z⟩
  ·rw [if_neg c,aQ,aQ,qJ]
theorem oG:∀ l:List Int,(ddI l).Nodup
 | []=>List.nodup_nil
 | y :: r=>by
  unfold ddI
  by_cases c:y ∈ r
  ·rw [if_pos c];exact oG r
  ·rw [if_neg c]
   exact iy.mpr ⟨fun z=>c (qJ.mp z),oG r⟩
def qM:List D→Option D
 | [.list l]=>(jQ l).bind fun ns=>if ns.length ≤ 300 then some (.list ((jF (ddI ns)).map .int)) else none
 | _=>none
end D3
namespace D3
open PySem
def uU (i:Nat) (fl fh f:FE):FS:=fun δ=>(f δ).bind fun d=>(aJ i δ).bind fun x=>(fl δ).bind fun a=>(fh δ).bind fun b=>match x,d,a,b with
 | .list l,.list m,.int a,.int b=>if flats m=true∧0 ≤ a∧a ≤ b∧b ≤ (l.length:Int)∧l.length + m.length < 1000000 then some (.nx (δ.set i (some (.d (.list (l.take a.toNat++m++l.drop b.toNat)))))) else none
 | _,_,_,_=>none
end D3
namespace XZ
open PySem PySem.Spec PyProof.Rows L2 My D3
section
variable {X:Cx} {fl:List Fl} {e:Expr} {pos:Pos} {f:FE}
def Gw (K:PySem.W.Frag) (o:V) (l u:Option Int) (v:V) (H:Hp) (Q:Hp→Prop):Prop:=∃ p q xs zs,∃ a b:Nat,o = .ref p∧v = .ref q∧l=some (a:Int)∧u=some (b:Int)∧H p=some (.lst xs)∧SqL K H q zs∧a ≤ b∧b ≤ xs.length∧xs.length + zs.length ≤ sizeLine∧Q (upd H p (.lst (xs.take a++zs++xs.drop b)))
theorem Ak {A:Around} {E:Value→Shared→Prop} {s:Shared} {P:Program} {W:World} {k:Addr} {x y:Value} {a b:Option Int} {Q:Value × Value × Value→Shared→Prop} (hk:s.heap.IsSliceOf k x y .none) (hx:IsPart x a) (hy:IsPart y b)
 (q:Q (rawPart a,rawPart b,rawPart none) s):wpAny (model P W) A (Builtin.List.listSliceParts (.ref k)) Q E s:=by
 obtain ⟨t,h1,_,h3⟩:=hk
 rw [listSliceParts_eq]
 have two:∀ (i:Nat) (v:Value) (o:Option Int) {β:Type} (g:Value→Sem β) (R:β→Shared→Prop),(#[x,y,Value.none]:Array Value)[i]? = some v→IsPart v o→wpAny (model P W) A (g (rawPart o)) R E s→wpAny (model P W) A (field (.ref k) i >>= fun u=>listPart u >>= g) R E s :=
  fun i v o {β} g R e p r=>wpAny_bind (wpAny_field h1 h3 e (wpAny_bind (wpAny_listPart p r)))
 refine two 2 .none none _ _ rfl .none ?_
 show wpAny _ _ (field (.ref k) 0 >>= fun u=>listPart u >>= _) _ _ _
 refine two 0 x a _ _ rfl hx ?_
 refine two 1 y b _ _ rfl hy ?_
 exact wpAny_pure q
theorem Ij {A:Around} {E:Value→Shared→Prop} {s:Shared} {P:Program} {W:World} {k:Addr} {x y z:Value} {Q:Option Int→Shared→Prop} (hk:s.heap.IsSliceOf k x y z) (q:Q none s):wpAny (model P W) A (Builtin.List.listSubscript? (.ref k)) Q E s:=by
 obtain ⟨t,h1,h2,_⟩:=hk
 exact wpAny_bind (wpAny_specialOf (T := "slice") ⟨t,h1,h2⟩ slice_no_index (wpAny_pure q))
theorem vY {A:Around} {E:Value→Shared→Prop} {s:Shared} {P:Program} {W:World} {k:Addr} {xs:Array Value} {Q:Array Value→Shared→Prop} (hk:s.heap.IsList k xs) (q:Q xs s) (msg:String):wpAny (model P W) A (Builtin.List.listItems (.ref k)) Q E s∧wpAny (model P W) A (Builtin.List.listAllItems (.ref k) msg) Q E s:=by
 obtain ⟨t,h1,h2,n,h3⟩:=id hk
 have one:∀ R:Array Value→Shared→Prop,R xs s→wpAny (model P W) A (Builtin.List.listItems (.ref k)) R E s:=fun R r=>wpAny_bind (wpAny_seqItems h1 h3 (wpAny_pure r))
 refine ⟨one Q q,wpAny_bind (wpAny_typeOf hk.typeIs ?_)⟩
 rw [if_pos (by decide)]
 first
  | exact one Q q
  | exact wpAny_bind (one _ (wpAny_pure q))
theorem two {M:Model} {A:Around} {E:Value→Shared→Prop} {s:Shared} {β:Type} {c:Prop} [Decidable c] {m m':Sem (Array Value)} {k:Array Value→Sem β} {x:Array Value} {Q:β→Shared→Prop} (h1:∀ R:Array Value→Shared→Prop,R x s→wpAny M A m R E s) (h2:∀ R:Array Value→Shared→Prop,R x s→wpAny M A m' R E s)
 (h:wpAny M A (k x) Q E s):wpAny M A (if c then m >>= k else m' >>= k) Q E s:=by
 split
 ·exact wpAny_bind (h1 _ h)
 ·exact wpAny_bind (h2 _ h)
theorem bounds {a b n:Nat} (h1:a ≤ b) (h2:b ≤ n):sliceBounds (some (a:Int)) (some (b:Int)) none n=((a:Int),(b:Int),1):=by
 obtain ⟨e1,e2,e3⟩:=L2.nZ (some (a:Int)) (some (b:Int)) n
 rw [HT.CG] at e1 e2
 refine Prod.ext ?_ (Prod.ext ?_ e3)
 ·rw [e1];show ((min a n:Nat):Int)=(a:Int);omega
 ·rw [e2];show ((min b n:Nat):Int)=(b:Int);omega
theorem Ik {pins:List (Addr × Obj)} {s:Shared} {σ:L2.St} {H:Hp} {o v:V} {ov vl vu u:Value} {l h:Option Int} {sl:Addr} {Q:Hp→Prop} (I:L2.Inv X pins σ H s) (ro:RelV o ov) (rv:RelV v u)
 (hs:s.heap.IsSliceOf sl vl vu .none) (pl:IsPart vl l) (pu:IsPart vu h) (r:Gw X.K o l h v H Q) :
 wpAny (model X.prog X.w) X.A (setItem ov (.ref sl) u) (fun _ s'=>∃ H',L2.Inv X pins σ H' s'∧Q H') X.xe s:=by
 obtain ⟨p,q,xs,zs,a,b,rfl,rfl,rfl,rfl,hp,hq,hab,hb,hz,hQ⟩:=r
 cases ro
 cases rv
 obtain ⟨its,n,r1,ho,hz1⟩:=I.lst hp
 obtain ⟨its2,r2,pl2,hz2⟩:=I.list hq
 have own:s.heap.IsList p its.toArray:=⟨_,ho,rfl,n,rfl⟩
 have l1:=r1.length
 have l2:=r2.length
 have mx:(max (a:Int) (b:Int)).toNat=b:=by omega
 have hf:(fun ys:Array Value=>ys.extract 0 (a:Int).toNat++its2.toArray++ys.extract (max (a:Int) (b:Int)).toNat) its.toArray=(its.take a++its2++its.drop b).toArray:=by
  dsimp only
  rw [mx,dh]
  apply Array.ext'
  have tk:(its.drop b).take (its.length - b)=its.drop b:=bW (by rw [bV];omega)
  simp [jq,h_,tk]
 have hz3:(its.take a++its2++its.drop b).length ≤ sizeLine:=by
  rw [aP,aP,bZ,bV]
  omega
 have I':=I.lset (f:=fun ys:Array Value=>ys.extract 0 (a:Int).toNat++its2.toArray++ys.extract (max (a:Int) (b:Int)).toNat) (t':=s.toks) (its':=its.take a++its2++its.drop b) hp ho hf (((r1.take a).append r2).append (r1.drop b)) (by
  rw [aP,aP,bZ,bV]
  omega)
 refine wpAny_holding (wpAny_bind (wpAny_sequenceKey own.typeIs (by decide) (wpAny_bind (wpAny_callSpecial?_slot (name:=Str.ofString "__setitem__") own.typeIs slot_list_setitem (wpAny_call_entry slot_list_setitem own.typeIs entry_list_setitem ?_ (args_list_setitem _ _ _))))))
 obtain ⟨t,t1,t2,_⟩:=id hs
 refine wpAny_bind (m:=Builtin.List.listSubscript? (.ref sl)) (Ij hs ?_)
 refine wpAny_bind (m:=typeOf (.ref sl)) (wpAny_typeOf (T := "slice") ⟨t,t1,t2⟩ ?_)
 rw [if_neg (by decide)]
 refine wpAny_bind (Ak hs pl pu ?_)
 refine two (x:=its2.toArray) (fun R hR=>(vY pl2.isList hR "").1) (fun R hR=>(vY pl2.isList hR _).2) ?_
 refine wpAny_bind (vY own (Q:=fun xs s'=>wpAny _ _ _ _ _ s') ?_ "").1
 refine wpAny_bind (wpAny_of_eq (sliceIndices_raw (some (a:Int)) (some (b:Int)) none its.toArray.size (by simp)) ?_)
 rw [bounds hab (by rw [aY];omega)]
 refine wpAny_bind (m:=rule _) (wpAny_rule ?_)
 have fits:Builtin.List.listTooLong (its.toArray.size + its2.toArray.size)=false:=by
  refine dFa ?_
  rw [aY,aY]
  omega
 rw [if_neg (by rw [fits];exact aK)]
 refine wpAny_bind (m:=Builtin.List.listUpdate _ _) (wpAny_updateSeq ho rfl ?_ (by rw [aY];omega) (by
  have:=congrArg Array.size hf
  first
   | (dsimp only at this;rw [this,aY])
   | rw [this,aY]
   | (rw [show _=_ from this,aY])
  omega))
 exact wpAny_bind (wpAny_letGo (wpAny_pure ⟨.none,rfl,wpAny_pure ⟨_,I',hQ⟩⟩))
def K9 (K:PySem.W.Frag) (to:TE) (tl th:TO):TG:=fun v σ H Q=>to σ H fun o H1=>tl σ H1 fun l H2=>th σ H2 fun u H3=>Gw K o l u v H3 fun H4=>Q σ H4
theorem DN {o:Expr} {lo hi:Option Expr} {p2:Pos} {to:TE} {tl th:TO} (ho:PE X o to) (hl:PO X lo tl) (hu:PO X hi th)
 (ha:∀ v,assign (.Subscript o (.Slice lo hi none p2) pos) X.env v=(do
  let ov ← holding [v] (eval o X.env)
  let iv ← holding [v,ov] (eval (.Slice lo hi none p2) X.env)
  standAt pos
  holding [v,ov,iv] (setItem ov iv v)
  release [iv,v,ov] []):=by intro _;rfl):PG X (.Subscript o (.Slice lo hi none p2) pos) (K9 X.K to tl th):=by
 intro pins s σ H v u Q I r h
 rw [ha]
 refine wpAny_bind (wpAny_holding (thn (ho pins s σ H _ I h) fun ov s1 ⟨x,H1,I1,r1,q1⟩=>?_))
 refine wpAny_bind (wpAny_holding (wpAny_Slice (thn (hl pins s1 σ H1 _ I1 q1) fun vl s2 ⟨l,H2,I2,pl,q2⟩=>thn (hu pins s2 σ H2 _ I2 q2) fun vu s3 ⟨w,H3,I3,pu,q3⟩=>?_)))
 rw [evalPart_none]
 refine wpAny_pure ?_
 have I4:L2.Inv X pins σ H3 { s3 with heap:=s3.heap.push { cls:=.type "slice", data:=.fields #[vl,vu,.none] } }:=I3.kept (t':=s3.toks) fun b ob q=>Heap.get?_push_of_some _ q
 refine wpAny_bind (wpAny_standAt (wpAny_bind (wpAny_holding (thn (Ik I4 r1 r (Heap.IsSliceOf.new ..) pl pu q3) fun _ s5 ⟨H5,I5,q5⟩=>?_))))
 exact wpAny_release ⟨σ,H5,I5,q5⟩
theorem DP {i:Nat} {x:Str} {vpos spos p2:Pos} {el eh:Expr} {fa fb:FE} (hfl:fl[i]? = some .O) (h:DE X fl .P e f) (hk:DE X fl .P el fa) (hk2:DE X fl .P eh fb) (hN:X.N[i]? = some x) (hv:Vis X.env.scope x:=by first | exact Or.inl rfl | exact Or.inr (Or.inl rfl) | exact Or.inr (Or.inr rfl)) (hd:(x == ("__debug__" : Str))=false:=by decide)
 (hcd:(x == ("__classdict__" : Str))=false:=by decide) (ha:∀ v,assign (.Subscript (.Name x vpos) (.Slice (some el) (some eh) none p2) spos) X.env v=(do
  let ov ← holding [v] (eval (.Name x vpos) X.env)
  let iv ← holding [v,ov] (eval (.Slice (some el) (some eh) none p2) X.env)
  standAt spos
  holding [v,ov,iv] (setItem ov iv v)
  release [iv,v,ov] []):=by intro _;rfl)
 (hs:swapsWithSole [.Subscript (.Name x vpos) (.Slice (some el) (some eh) none p2) spos] e pos.line X.env=pure false:=by rfl) (hw:swappedStores [.Subscript (.Name x vpos) (.Slice (some el) (some eh) none p2) spos] e X.env=pure none:=by rfl)
 (h1:(assignEach [.Subscript (.Name x vpos) (.Slice (some el) (some eh) none p2) spos] X.env).map (·.2)=[assign (.Subscript (.Name x vpos) (.Slice (some el) (some eh) none p2) spos) X.env]:=by rfl) :
 DS1 X fl (.Assign [.Subscript (.Name x vpos) (.Slice (some el) (some eh) none p2) spos] e pos) (uU i fa fb f) :=
 PS.imp (Hf h (DN (vC hN hv hd hcd) (tM hk) (tM hk2) ha) hs hw h1) fun Dn σ H h=>by
 obtain ⟨G,ow,δ,o,R,hf,q⟩:=h
 obtain ⟨d,e2,hf1⟩:=bind1 hf
 obtain ⟨x,e1,hf2⟩:=bind1 hf1
 obtain ⟨ka,e3,hf3⟩:=bind1 hf2
 obtain ⟨kb,e4,hf4⟩:=bind1 hf3
 clear hf hf1 hf2 hf3
 split at hf4
 case h_2=>cases hf4
 next l m ja jb =>
 by_cases c:flats m=true∧0 ≤ ja∧ja ≤ jb∧jb ≤ (l.length:Int)∧l.length + m.length < 1000000
 case neg=>rw [if_neg c] at hf4;cases hf4
 rw [if_pos c] at hf4
 cases hf4
 obtain ⟨c1,c2,c3,c4,c5⟩:=c
 obtain ⟨a,xs,ho,h1,h2,h3⟩:=Hz R hfl e1
 refine ⟨G,ow,δ,_,R,e2,fun v H' s r=>⟨_,h1,G,ow,δ,_,R.grow s,e3,fun u H2 s2 r2=>?_⟩⟩
 obtain rfl:=RA.intE r2
 refine ⟨ja,rfl,G,ow,δ,_,R.grow (s.trans s2),e4,fun u3 H3 s3 r3=>?_⟩
 obtain rfl:=RA.intE r3
 have R2:=R.grow ((s.trans s2).trans s3)
 obtain ⟨b,ys,rfl,hx,hr⟩:=r.lstE
 have rr:=(hr.same (s2.trans s3))
 refine ⟨jb,rfl,a,b,xs,ys,ja.toNat,jb.toNat,rfl,rfl,by rw [mY c2],by rw [mY (by omega)],((s.trans s2).trans s3) _ _ h2,?_,by omega,by rw [h3.length];omega,by rw [h3.length,hr.length];exact bU (dJ c5) (by decide),?_⟩
 ·exact Same.seq (s2.trans s3) hx
 ·exact q ow σ _ (R2.mut hfl ho ((((h3.same ((s.trans s2).trans s3)).take _).append (RAs.flat c1 rr)).append ((h3.same ((s.trans s2).trans s3)).drop _)))
end
end XZ
namespace Srt
open PySem PyProof.Rows
def oH:Bool→Keyed→Array Keyed→Nat→Nat→Nat→StateT SortSt Sem (Option Nat):=sortPriv% PySem.Builtin.gallop
def bey (left:Bool) (key:Keyed) (arr:Array Keyed) (base i:Nat):StateT SortSt Sem (Option Bool):=do
 let x ← elem' arr (base + i)
 if left then lt' x key else return (← lt' key x).map (!·)
section
variable {prog:Program} {w:World} {A:Around} {E:Value→Shared→Prop} {s:Shared}
def jA (x:Keyed):Prop:=∃ n t,x.1 = .int n t
theorem jA.eq {x:Keyed} (h:jA x):∃ t,x=(.int (numOf x.1) t,x.2):=by
 obtain ⟨n,t,e⟩:=h
 refine ⟨t,Prod.ext ?_ rfl⟩
 show x.1 = .int (numOf x.1) t
 rw [e]
 rfl
theorem t_ {st:SortSt} {x y:Keyed} {Q:Option Bool→SortSt→Prop} (hk:kindOf st=oneType') (hx:jA x) (hy:jA y) (h:Q (some (decide (numOf x.1 < numOf y.1))) st):wpS (model prog w) A E s (lt' x y) Q st:=by
 obtain ⟨n,t,ex⟩:=hx
 obtain ⟨m,u,ey⟩:=hy
 rw [ex,ey] at h
 rw [lt'_eq]
 refine wpS_bind (wpS_get ?_)
 rw [hk,keyLt'_oneType,ex,ey]
 exact wpS_bind (wpS_lift (wpAny_attempt (oneLt_int ⟨rfl,wpS_pure h⟩)))
theorem cV {st:SortSt} {arr:Array Keyed} {i:Nat} {x:Keyed} {Q:Keyed→SortSt→Prop} (hx:arr[i]? = some x) (h:Q x st):wpS (model prog w) A E s (elem' arr i) Q st:=by
 rw [elem'_eq,hx]
 exact wpS_pure h
def Pb (left:Bool) (key:Keyed) (arr:Array Keyed) (base i:Nat):Bool:=if left then decide (K arr (base + i) < numOf key.1) else !decide (numOf key.1 < K arr (base + i))
theorem oJ {st:SortSt} {left:Bool} {key:Keyed} {arr:Array Keyed} {base i:Nat} {Q:Option Bool→SortSt→Prop} (hk:kindOf st=oneType') (hy:jA key) (ha:∀ p ∈ arr.toList,jA p) (hi:base + i < arr.size) (h:Q (some (Pb left key arr base i)) st):wpS (model prog w) A E s (bey left key arr base i) Q st:=by
 have e:arr[base + i]? = some arr[base + i]:=getElem?_pos arr (base + i) hi
 have hx:jA arr[base + i]:=ha _ (by simp)
 have hK:K arr (base + i)=numOf arr[base + i].1:=by unfold K;rw [e]
 unfold bey
 refine wpS_bind (cV e ?_)
 unfold Pb at h
 rw [hK] at h
 cases left with
 | true=>exact t_ hk hx hy h
 | false=>exact wpS_bind (t_ hk hy hx (wpS_pure h))
theorem jk {st:SortSt} {left:Bool} {key:Keyed} {arr:Array Keyed} {base n hint:Nat} {Q:Option Nat→SortSt→Prop} (hk:kindOf st=oneType') (hy:jA key) (ha:∀ p ∈ arr.toList,jA p) (hb:base + n ≤ arr.size) (hh:hint < n)
 (mono:∀ i j,i ≤ j→j < n→Pb left key arr base j=true→Pb left key arr base i=true)
 (h:∀ k,k ≤ n→(∀ i,i < k→Pb left key arr base i=true)→(∀ i,k ≤ i→i < n→Pb left key arr base i=false)→Q (some k) st) :
 wpS (model prog w) A E s (oH left key arr base n hint) Q st:=by
 have mono':∀ i j,i ≤ j→j < n→Pb left key arr base i=false→Pb left key arr base j=false:=fun i j h1 h2 h3=>by
  cases e:Pb left key arr base j with
  | false=>rfl
  | true=>rw [mono i j h1 h2 e] at h3;cases h3
 refine wpS_bind (m:=bey left key arr base hint) (oJ hk hy ha (by omega) ?_)
 dsimp only
 cases e:Pb left key arr base hint with
 | true =>
  rw [if_pos rfl]
  refine wpS_bind (wpS_mono (wpS_forRange (I:=fun x c st'=>st'=st∧∃ la o,c=(none,la,o)∧la < o∧x + 1 ≤ o∧hint + la < n∧Pb left key arr base (hint + la)=true)
   (Q:=fun c st'=>st'=st∧∃ la o,c=(none,la,o)∧la < o∧hint + la < n∧Pb left key arr base (hint + la)=true∧(o ≥ n - hint∨(hint + o < n∧Pb left key arr base (hint + o)=false))) ?step ?fin ⟨rfl,0,1,rfl,by omega,by omega,by omega,e⟩) ?post)
  case fin =>
   rintro c st' ⟨rfl,la,o,rfl,g1,g2,g3,g4⟩
   exact ⟨rfl,la,o,rfl,g1,g3,g4,.inl (by omega)⟩
  case step =>
   rintro x c st' _ hx ⟨rfl,la,o,rfl,g1,g2,g3,g4⟩
   dsimp only
   by_cases hge:o ≥ n - hint
   ·rw [if_pos hge]
    exact wpS_pure ⟨rfl,la,o,rfl,g1,g3,g4,.inl hge⟩
   ·rw [if_neg hge]
    refine wpS_bind (oJ hk hy ha (by omega) ?_)
    dsimp only
    cases e2:Pb left key arr base (hint + o) with
    | true =>
     rw [if_neg (by decide)]
     exact wpS_pure ⟨rfl,o,2 * o + 1,rfl,by omega,by omega,by omega,e2⟩
    | false =>
     rw [if_pos (by decide)]
     exact wpS_pure ⟨rfl,la,o,rfl,g1,g3,g4,.inr ⟨by omega,e2⟩⟩
  case post =>
   rintro c st' ⟨rfl,la,o,rfl,g1,g3,g4,g5⟩
   have h1:hint + la + 1 ≤ hint + min o (n - hint):=by omega
   have h2:hint + min o (n - hint) ≤ n:=by omega
   have h3:∀ i,i < hint + la + 1→Pb left key arr base i=true:=fun i hi=>mono i _ (by omega) g3 g4
   have h4:∀ i,hint + min o (n - hint) ≤ i→i < n→Pb left key arr base i=false:=fun i i1 i2=>by
    rcases g5 with g5 | ⟨g5,g6⟩
    ·omega
    ·exact mono' _ i (by omega) i2 g6
   dsimp only
   generalize hint + la + 1=lo0 at h1 h3 ⊢
   generalize hint + min o (n - hint)=hi0 at h1 h2 h4 ⊢
   refine wpS_bind (wpS_mono (wpS_forRange (I:=fun x c st''=>st''=st'∧∃ hi lo,c=(none,lo,hi)∧lo ≤ hi∧hi ≤ n∧hi - lo ≤ n - x∧(∀ i,i < lo→Pb left key arr base i=true)∧(∀ i,hi ≤ i→i < n→Pb left key arr base i=false))
    (Q:=fun c st''=>st''=st'∧∃ hi lo,c=(none,lo,hi)∧hi ≤ n∧(∀ i,i < hi→Pb left key arr base i=true)∧(∀ i,hi ≤ i→i < n→Pb left key arr base i=false)) ?sT ?fT ⟨rfl,hi0,lo0,rfl,h1,h2,by omega,h3,h4⟩) ?pT)
   case fT =>
    rintro c st'' ⟨rfl,hi,lo,rfl,g1,g2,g3,g4,g5⟩
    have:lo=hi:=by omega
    subst this
    exact ⟨rfl,lo,lo,rfl,g2,g4,g5⟩
   case sT =>
    rintro x c st'' _ hx ⟨rfl,hi,lo,rfl,g1,g2,g3,g4,g5⟩
    dsimp only
    by_cases hge:lo ≥ hi
    ·rw [if_pos hge]
     have:lo=hi:=by omega
     subst this
     exact wpS_pure ⟨rfl,lo,lo,rfl,g2,g4,g5⟩
    ·rw [if_neg hge]
     have hm:lo + (hi - lo) / 2 < hi:=by omega
     refine wpS_bind (oJ hk hy ha (by omega) ?_)
     dsimp only
     cases e:Pb left key arr base (lo + (hi - lo) / 2) with
     | true =>
      rw [if_pos rfl]
      exact wpS_pure ⟨rfl,hi,lo + (hi - lo) / 2 + 1,rfl,by omega,g2,by omega,fun i hi'=>mono i _ (by omega) (by omega) e,g5⟩
     | false =>
      rw [if_neg aK]
      exact wpS_pure ⟨rfl,lo + (hi - lo) / 2,lo,rfl,by omega,by omega,by omega,g4,fun i i1 i2=>mono' _ i i1 i2 e⟩
   case pT =>
    rintro c st'' ⟨rfl,hi,lo,rfl,g1,g2,g3⟩
    exact wpS_pure (h hi g1 g2 g3)
 | false =>
  rw [if_neg aK]
  refine wpS_bind (wpS_mono (wpS_forRange (I:=fun x c st'=>st'=st∧∃ la o,c=(none,la,o)∧la < o∧x + 1 ≤ o∧la ≤ hint∧Pb left key arr base (hint - la)=false)
   (Q:=fun c st'=>st'=st∧∃ la o,c=(none,la,o)∧la < o∧la ≤ hint∧Pb left key arr base (hint - la)=false∧(o ≥ hint + 1∨(o ≤ hint∧Pb left key arr base (hint - o)=true))) ?step2 ?fin2 ⟨rfl,0,1,rfl,by omega,by omega,by omega,e⟩) ?post2)
  case fin2 =>
   rintro c st' ⟨rfl,la,o,rfl,g1,g2,g3,g4⟩
   exact ⟨rfl,la,o,rfl,g1,g3,g4,.inl (by omega)⟩
  case step2 =>
   rintro x c st' _ hx ⟨rfl,la,o,rfl,g1,g2,g3,g4⟩
   dsimp only
   by_cases hge:o ≥ hint + 1
   ·rw [if_pos hge]
    exact wpS_pure ⟨rfl,la,o,rfl,g1,g3,g4,.inl hge⟩
   ·rw [if_neg hge]
    refine wpS_bind (oJ hk hy ha (by omega) ?_)
    dsimp only
    cases e2:Pb left key arr base (hint - o) with
    | true =>
     rw [if_pos rfl]
     exact wpS_pure ⟨rfl,la,o,rfl,g1,g3,g4,.inr ⟨by omega,e2⟩⟩
    | false =>
     rw [if_neg aK]
     exact wpS_pure ⟨rfl,o,2 * o + 1,rfl,by omega,by omega,by omega,e2⟩
  case post2 =>
   rintro c st' ⟨rfl,la,o,rfl,g1,g3,g4,g5⟩
   have h1:hint + 1 - min o (hint + 1) ≤ hint - la:=by omega
   have h2:hint - la ≤ n:=by omega
   have h3:∀ i,i < hint + 1 - min o (hint + 1)→Pb left key arr base i=true:=fun i hi=>by
    rcases g5 with g5 | ⟨g5,g6⟩
    ·omega
    ·exact mono i _ (by omega) (by omega) g6
   have h4:∀ i,hint - la ≤ i→i < n→Pb left key arr base i=false:=fun i i1 i2=>mono' _ i i1 i2 g4
   dsimp only
   generalize hint + 1 - min o (hint + 1)=lo0 at h1 h3 ⊢
   generalize hint - la=hi0 at h1 h2 h4 ⊢
   refine wpS_bind (wpS_mono (wpS_forRange (I:=fun x c st''=>st''=st'∧∃ hi lo,c=(none,lo,hi)∧lo ≤ hi∧hi ≤ n∧hi - lo ≤ n - x∧(∀ i,i < lo→Pb left key arr base i=true)∧(∀ i,hi ≤ i→i < n→Pb left key arr base i=false))
    (Q:=fun c st''=>st''=st'∧∃ hi lo,c=(none,lo,hi)∧hi ≤ n∧(∀ i,i < hi→Pb left key arr base i=true)∧(∀ i,hi ≤ i→i < n→Pb left key arr base i=false)) ?sT ?fT ⟨rfl,hi0,lo0,rfl,h1,h2,by omega,h3,h4⟩) ?pT)
   case fT =>
    rintro c st'' ⟨rfl,hi,lo,rfl,g1,g2,g3,g4,g5⟩
    have:lo=hi:=by omega
    subst this
    exact ⟨rfl,lo,lo,rfl,g2,g4,g5⟩
   case sT =>
    rintro x c st'' _ hx ⟨rfl,hi,lo,rfl,g1,g2,g3,g4,g5⟩
    dsimp only
    by_cases hge:lo ≥ hi
    ·rw [if_pos hge]
     have:lo=hi:=by omega
     subst this
     exact wpS_pure ⟨rfl,lo,lo,rfl,g2,g4,g5⟩
    ·rw [if_neg hge]
     have hm:lo + (hi - lo) / 2 < hi:=by omega
     refine wpS_bind (oJ hk hy ha (by omega) ?_)
     dsimp only
     cases e:Pb left key arr base (lo + (hi - lo) / 2) with
     | true =>
      rw [if_pos rfl]
      exact wpS_pure ⟨rfl,hi,lo + (hi - lo) / 2 + 1,rfl,by omega,g2,by omega,fun i hi'=>mono i _ (by omega) (by omega) e,g5⟩
     | false =>
      rw [if_neg aK]
      exact wpS_pure ⟨rfl,lo + (hi - lo) / 2,lo,rfl,by omega,by omega,by omega,g4,fun i i1 i2=>mono' _ i i1 i2 e⟩
   case pT =>
    rintro c st'' ⟨rfl,hi,lo,rfl,g1,g2,g3⟩
    exact wpS_pure (h hi g1 g2 g3)
end
end Srt
namespace Srt
open PySem PyProof.Rows
def rM:Nat→StateT SortSt Sem Unit:=sortPriv% PySem.Builtin.setMinGallop
abbrev setG (st:SortSt) (g:Nat):SortSt:=SortSt.mk' (kindOf st) (arrOf st) (pendingOf st) g (failedOf st)
def Al:Array Keyed→Array Keyed→StateT SortSt Sem (Array Keyed):=sortPriv% PySem.Builtin.mergeLo
def sS (a b out:Array Keyed) (ia ib:Nat):Array Keyed:=out++a.extract ia a.size++b.extract ib b.size
def wO (a b out:Array Keyed) (ia ib:Nat):Array Keyed:=out++b.extract ib b.size++a.extract ia a.size
def R (x y:Keyed):Prop:=numOf x.1 ≤ numOf y.1
structure MI (a b out:Array Keyed) (ia ib:Nat):Prop where
 A:(out.toList++a.toList.drop ia).Pairwise R
 B:(out.toList++b.toList.drop ib).Pairwise R
 P:(out.toList++a.toList.drop ia++b.toList.drop ib).Perm (a.toList++b.toList)
section
variable {a b out:Array Keyed} {ia ib:Nat}
theorem oK {l:List Keyed} {i:Nat} (h:i < l.length):l.drop i=l[i] :: l.drop (i + 1):=g_ h
theorem gn (h:ia < a.size):K a ia=numOf (a[ia]).1:=by unfold K;rw [getElem?_pos a ia h]
theorem MI.pushA (h:MI a b out ia ib) (hi:ia < a.size) (hle:∀ y ∈ b.toList.drop ib,R a[ia] y):MI a b (out.push a[ia]) (ia + 1) ib:=by
 have hd:a.toList.drop ia=a[ia] :: a.toList.drop (ia + 1):=oK (by simpa using hi)
 obtain ⟨h1,h2,h3⟩:=h
 rw [hd] at h1 h3
 have e:(out.push a[ia]).toList=out.toList++[a[ia]]:=iV
 refine ⟨by rw [e,aL];exact h1,?_,by rw [e];simpa using h3⟩
 rw [e,aL]
 obtain ⟨p1,p2,p3⟩:=aG.mp h2
 obtain ⟨q1,q2,q3⟩:=aG.mp h1
 refine aG.mpr ⟨p1,bG.mpr ⟨hle,p2⟩,fun x hx y hy=>?_⟩
 rcases aQ.mp hy with rfl | z
 ·exact q3 x hx _ aM
 ·exact p3 x hx y z
theorem MI.pushB (h:MI a b out ia ib) (hi:ib < b.size) (hle:∀ y ∈ a.toList.drop ia,R b[ib] y):MI a b (out.push b[ib]) ia (ib + 1):=by
 have hd:b.toList.drop ib=b[ib] :: b.toList.drop (ib + 1):=oK (by simpa using hi)
 obtain ⟨h1,h2,h3⟩:=h
 rw [hd] at h2 h3
 have e:(out.push b[ib]).toList=out.toList++[b[ib]]:=iV
 refine ⟨?_,by rw [e,aL];exact h2,?_⟩
 ·rw [e,aL]
  obtain ⟨p1,p2,p3⟩:=aG.mp h1
  obtain ⟨q1,q2,q3⟩:=aG.mp h2
  refine aG.mpr ⟨p1,bG.mpr ⟨hle,p2⟩,fun x hx y hy=>?_⟩
  rcases aQ.mp hy with rfl | z
  ·exact q3 x hx _ aM
  ·exact p3 x hx y z
 ·rw [e]
  refine List.Perm.trans ?_ h3
  rw [aL,aL,aL]
  exact List.Perm.append_left _ (by simpa using (jf (a:=b[ib]) (l₁:=a.toList.drop ia) (l₂:=b.toList.drop (ib + 1))).symm)
theorem dZ {x:Array Keyed} {i j:Nat}:(x.extract i j).toList=(x.toList.drop i).take (j - i):=by
 rw [jq,h_]
theorem MI.appA (h:MI a b out ia ib) {k:Nat} (hle:∀ x ∈ (a.toList.drop ia).take k,∀ y ∈ b.toList.drop ib,R x y):MI a b (out++a.extract ia (ia + k)) (ia + k) ib:=by
 have e:(out++a.extract ia (ia + k)).toList=out.toList++(a.toList.drop ia).take k:=by
  rw [bO,dZ,kE]
 have d:a.toList.drop ia=(a.toList.drop ia).take k++a.toList.drop (ia + k):=by rw [← jJ,cR]
 obtain ⟨h1,h2,h3⟩:=h
 obtain ⟨p1,p2,p3⟩:=aG.mp h2
 have h1':=h1
 rw [d] at h1' h3
 obtain ⟨q1,q2,q3⟩:=aG.mp h1'
 refine ⟨by rw [e,aL];exact h1',?_,by rw [e];simpa [aL] using h3⟩
 rw [e,aL]
 refine aG.mpr ⟨p1,aG.mpr ⟨(aG.mp q2).1,p2,hle⟩,fun x hx y hy=>?_⟩
 rcases bD.mp hy with z | z
 ·exact q3 x hx y (b_ _ z)
 ·exact p3 x hx y z
theorem MI.appB (h:MI a b out ia ib) {k:Nat} (hle:∀ x ∈ (b.toList.drop ib).take k,∀ y ∈ a.toList.drop ia,R x y):MI a b (out++b.extract ib (ib + k)) ia (ib + k):=by
 have e:(out++b.extract ib (ib + k)).toList=out.toList++(b.toList.drop ib).take k:=by
  rw [bO,dZ,kE]
 have d:b.toList.drop ib=(b.toList.drop ib).take k++b.toList.drop (ib + k):=by rw [← jJ,cR]
 obtain ⟨h1,h2,h3⟩:=h
 obtain ⟨p1,p2,p3⟩:=aG.mp h1
 have h2':=h2
 rw [d] at h2' h3
 obtain ⟨q1,q2,q3⟩:=aG.mp h2'
 refine ⟨?_,by rw [e,aL];exact h2',?_⟩
 ·rw [e,aL]
  refine aG.mpr ⟨p1,aG.mpr ⟨(aG.mp q2).1,p2,hle⟩,fun x hx y hy=>?_⟩
  rcases bD.mp hy with z | z
  ·exact q3 x hx y (b_ _ z)
  ·exact p3 x hx y z
 ·rw [e]
  refine List.Perm.trans ?_ h3
  rw [aL,aL,aL]
  refine List.Perm.append_left _ ?_
  rw [← aL,← aL]
  exact List.Perm.append_right _ dG
structure Res (a b r:Array Keyed):Prop where
 P:r.toList.Perm (a.toList++b.toList)
 S:r.toList.Pairwise R
theorem MI.endB (h:MI a b out ia ib) (e:b.size ≤ ib):Res a b (sS a b out ia ib):=by
 have d:b.toList.drop ib=[]:=d7 (by simpa using e)
 have l:(sS a b out ia ib).toList=out.toList++a.toList.drop ia:=by
  unfold sS
  rw [bO,bO,dZ,dZ,d,List.take_nil,cX,bW (by simp)]
 obtain ⟨h1,h2,h3⟩:=h
 rw [d,cX] at h3
 exact ⟨by rw [l];exact h3,by rw [l];exact h1⟩
theorem MI.endA (h:MI a b out ia ib) (e:a.size ≤ ia):Res a b (sS a b out ia ib):=by
 have d:a.toList.drop ia=[]:=d7 (by simpa using e)
 have l:(sS a b out ia ib).toList=out.toList++b.toList.drop ib:=by
  unfold sS
  rw [bO,bO,dZ,dZ,d,List.take_nil,cX,bW (by simp)]
 obtain ⟨h1,h2,h3⟩:=h
 rw [d,cX] at h3
 exact ⟨by rw [l];exact h3,by rw [l];exact h2⟩
theorem MI.last (h:MI a b out ia ib) (hi:ia < a.size) (hl:∀ y ∈ b.toList,R y a[ia]) (e:ia + 1=a.size):Res a b (wO a b out ia ib):=by
 have hd:a.toList.drop ia=[a[ia]]:=by
  rw [oK (l:=a.toList) (by simpa using hi),d7 (by simpa using nJ e.symm)]
  rfl
 have l:(wO a b out ia ib).toList=out.toList++b.toList.drop ib++[a[ia]]:=by
  unfold wO
  rw [bO,bO,dZ,dZ,hd,bW (by simp),bW (by simp;omega)]
 obtain ⟨h1,h2,h3⟩:=h
 rw [hd] at h1 h3
 refine ⟨by
  rw [l]
  refine List.Perm.trans ?_ h3
  rw [aL,aL]
  exact List.Perm.append_left _ dG,?_⟩
 rw [l]
 refine aG.mpr ⟨h2,dR _ _,fun x hx y hy=>?_⟩
 rw [aX.mp hy]
 rcases bD.mp hx with z | z
 ·exact (aG.mp h1).2.2 x z _ (aX.mpr rfl)
 ·exact hl x (eX z)
theorem wQ {l:List Keyed} {i:Nat} (p:(l.drop i).Pairwise R) (h:i < l.length):∀ y ∈ l.drop i,R l[i] y:=fun y hy=>by
 rw [oK h] at hy p
 rcases aQ.mp hy with rfl | z
 ·exact cH _
 ·exact (bG.mp p).1 y z
end
end Srt
namespace Srt
open PySem PyProof.Rows
structure Eqv (st st':SortSt):Prop where
 k:kindOf st'=kindOf st
 a:arrOf st'=arrOf st
 p:pendingOf st'=pendingOf st
 f:failedOf st'=failedOf st
theorem Eqv.refl (st:SortSt):Eqv st st:=⟨rfl,rfl,rfl,rfl⟩
theorem Eqv.set {st st':SortSt} (h:Eqv st st') (g:Nat):Eqv st (setG st' g):=⟨h.k,h.a,h.p,h.f⟩
section
variable {prog:Program} {w:World} {A:Around} {E:Value→Shared→Prop} {s:Shared} {a b:Array Keyed}
theorem oM {st:SortSt} {g:Nat} {Q:Unit→SortSt→Prop} (h:Q () (setG st g)):wpS (model prog w) A E s (rM g) Q st:=wpS_modify h
theorem K_R {x:Array Keyed} {i j:Nat} (p:x.toList.Pairwise R) (hij:i ≤ j) (hj:j < x.size):K x i ≤ K x j:=by
 rw [gn hj,gn (gh hij hj)]
 rcases nj hij with z | z
 ·have:=cO.mp p i j (by simpa using gh hij hj) (by simpa using hj) z
  unfold R at this
  simpa using this
 ·subst z;exact cH _
theorem kW {x:Array Keyed} {i k:Nat} {p:Keyed} (h:p ∈ (x.toList.drop i).take k):∃ j,j < k∧∃ hj:i + j < x.size,p=x[i + j]:=by
 obtain ⟨j,hj,e⟩:=dB h
 rw [bZ,bV,aF] at hj
 refine ⟨j,by omega,by omega,?_⟩
 rw [← e,nP,jZ]
 simp
theorem jV {x:Array Keyed} {i:Nat} {p:Keyed} (h:p ∈ x.toList.drop i):∃ j,∃ hj:i + j < x.size,p=x[i + j]:=by
 obtain ⟨j,hj,e⟩:=dB h
 rw [bV,aF] at hj
 refine ⟨j,by omega,?_⟩
 rw [← e,jZ]
 simp
theorem jm {x:Array Keyed} (h:∀ p ∈ x.toList,jA p) {i:Nat} (hi:i < x.size):jA x[i]:=h _ (by simp)
theorem K_ {st:SortSt} {Q:Option Nat→SortSt→Prop} {out:Array Keyed} {ia ib:Nat} (hk:kindOf st=oneType') (ha:∀ p ∈ a.toList,jA p) (hb:∀ p ∈ b.toList,jA p) (sa:a.toList.Pairwise R) (sb:b.toList.Pairwise R)
 (M:MI a b out ia ib) (i1:ia < a.size) (i2:ib < b.size) (h:∀ k,ia + k ≤ a.size→MI a b (out++a.extract ia (ia + k)) (ia + k) ib→(ia + k < a.size→∀ y ∈ a.toList.drop (ia + k),R b[ib] y)→Q (some k) st) :
 wpS (model prog w) A E s (oH false b[ib] a ia (a.size - ia) 0) Q st:=by
 refine jk hk (jm hb i2) ha (by omega) (by omega) (fun i j h1 h2 h3=>?_) fun k k1 k2 k3=>h k (by omega) (M.appA fun x hx y hy=>?_) fun k4 y hy=>?_
 ·unfold Pb at h3 ⊢
  have:=K_R sa (i:=ia + i) (j:=ia + j) (by omega) (by omega)
  rw [if_neg aK,dU,decide_eq_false_iff_not] at h3 ⊢
  omega
 ·obtain ⟨j,j1,j2,rfl⟩:=kW hx
  obtain ⟨l,l1,rfl⟩:=jV hy
  have:=k2 j j1
  unfold Pb at this
  rw [if_neg aK,dU,decide_eq_false_iff_not,gn j2] at this
  have q:=K_R sb (i:=ib) (j:=ib + l) (by omega) l1
  rw [gn i2,gn l1] at q
  unfold R
  omega
 ·obtain ⟨l,l1,rfl⟩:=jV hy
  have:=k3 k (aO _) (by omega)
  unfold Pb at this
  rw [if_neg aK,jK,decide_eq_true_iff,gn k4] at this
  have q:=K_R sa (i:=ia + k) (j:=ia + k + l) (by omega) l1
  rw [gn k4,gn l1] at q
  unfold R
  omega
theorem La {st:SortSt} {Q:Option Nat→SortSt→Prop} {out:Array Keyed} {ia ib:Nat} (hk:kindOf st=oneType') (ha:∀ p ∈ a.toList,jA p) (hb:∀ p ∈ b.toList,jA p) (sa:a.toList.Pairwise R) (sb:b.toList.Pairwise R)
 (M:MI a b out ia ib) (i1:ia < a.size) (i2:ib < b.size) (h:∀ k,ib + k ≤ b.size→MI a b (out++b.extract ib (ib + k)) ia (ib + k)→(∀ y ∈ b.toList.drop (ib + k),R a[ia] y)→Q (some k) st) :
 wpS (model prog w) A E s (oH true a[ia] b ib (b.size - ib) 0) Q st:=by
 refine jk hk (jm ha i1) hb (by omega) (by omega) (fun i j h1 h2 h3=>?_) fun k k1 k2 k3=>h k (by omega) (M.appB fun x hx y hy=>?_) fun y hy=>?_
 ·unfold Pb at h3 ⊢
  have:=K_R sb (i:=ib + i) (j:=ib + j) (by omega) (by omega)
  rw [if_pos rfl,decide_eq_true_iff] at h3 ⊢
  omega
 ·obtain ⟨j,j1,j2,rfl⟩:=kW hx
  obtain ⟨l,l1,rfl⟩:=jV hy
  have:=k2 j j1
  unfold Pb at this
  rw [if_pos rfl,decide_eq_true_iff,gn j2] at this
  have q:=K_R sa (i:=ia) (j:=ia + l) (by omega) l1
  rw [gn i1,gn l1] at q
  unfold R
  omega
 ·obtain ⟨l,l1,rfl⟩:=jV hy
  have:=k3 (k + l) (by omega) (by omega)
  unfold Pb at this
  rw [if_pos rfl,decide_eq_false_iff_not,← m8,gn l1] at this
  unfold R
  omega
theorem uV {st:SortSt} {Q:Array Keyed→SortSt→Prop} (hk:kindOf st=oneType') (ha:∀ p ∈ a.toList,jA p) (hb:∀ p ∈ b.toList,jA p) (a0:0 < a.size) (b0:0 < b.size) (sa:a.toList.Pairwise R) (sb:b.toList.Pairwise R)
 (hf:K b 0 < K a 0) (hl:∀ y ∈ b.toList,R y (a[a.size - 1]'(by omega))) (h:∀ r st',Res a b r→Eqv st st'→Q r st'):wpS (model prog w) A E s (Al a b) Q st:=by
 refine wpS_bind (m:=liftM (rule _)) (wpS_lift (wpAny_rule ⟨rfl,?_⟩))
 refine wpS_bind (cV (getElem?_pos b 0 b0) ?_)
 dsimp only
 have M0:MI a b #[b[0]] 0 1:=by
  have hd:b.toList=b[0] :: b.toList.drop 1:=by
   have:=oK (l:=b.toList) (i:=0) (by simpa using b0)
   rw [cL] at this
   simpa using this
  refine ⟨?_,?_,?_⟩
  ·show ([b[0]]++a.toList.drop 0).Pairwise R
   rw [cL]
   refine bG.mpr ⟨fun y hy=>?_,sa⟩
   obtain ⟨l,l1,rfl⟩:=jV (x:=a) (i:=0) (by rw [cL];exact hy)
   have q:=K_R sa (i:=0) (j:=0 + l) (by omega) l1
   rw [gn a0] at q hf
   rw [gn b0] at hf
   rw [gn l1] at q
   unfold R
   omega
  ·show (b[0] :: b.toList.drop 1).Pairwise R
   rw [← hd];exact sb
  ·show ([b[0]]++a.toList.drop 0++b.toList.drop 1).Perm (a.toList++b.toList)
   rw [cL]
   have:=(jf (a:=b[0]) (l₁:=a.toList) (l₂:=b.toList.drop 1)).symm
   rw [← hd] at this
   exact this
 by_cases c1:1=b.size
 ·rw [if_pos (by simpa using c1)]
  exact wpS_pure (h _ _ (M0.endB (by omega)) (Eqv.refl st))
 rw [if_neg (by simpa using c1)]
 have lastR:∀ (out:Array Keyed) (ia ib:Nat),MI a b out ia ib→ia + 1=a.size→Res a b (wO a b out ia ib):=fun out ia ib M e=>M.last (by omega) (by
  have:a.size - 1=ia:=by omega
  subst this
  exact hl) e
 by_cases c2:0 + 1=a.size
 ·rw [if_pos (by simpa using c2)]
  exact wpS_pure (h _ _ (lastR _ _ _ M0 c2) (Eqv.refl st))
 rw [if_neg (by simpa using c2)]
 refine wpS_bind (wpS_get ?_)
 refine wpS_bind (wpS_mono (wpS_forRange (I:=fun x c st'=>Eqv st st'∧∃ out ia ib g,c=(none,out,ia,ib,g)∧MI a b out ia ib∧ia + 1 < a.size∧ib < b.size∧x + 1 ≤ ia + ib)
  (Q:=fun c st'=>Eqv st st'∧∃ r,c.1=some r∧Res a b r) ?ostep ?ofin ⟨Eqv.refl st,_,0,1,_,rfl,M0,by omega,by omega,by omega⟩) ?opost)
 case opost =>
  rintro c st' ⟨Eq,r,e,hr⟩
  obtain ⟨c0,c1⟩:=c
  subst e
  exact wpS_pure (h r st' hr Eq)
 case ofin =>
  rintro c st' ⟨Eq,out,ia,ib,g,rfl,M,i1,i2,ms⟩
  omega
 case ostep =>
  rintro x c st1 _ hx ⟨E1,out,ia,ib,g,rfl,M,i1,i2,ms⟩
  dsimp only
  refine wpS_bind (wpS_mono (wpS_forRange (I:=fun y c st'=>Eqv st st'∧∃ out ia' ib' ac bc,c=(none,out,ia',ib',ac,bc)∧MI a b out ia' ib'∧ia' + 1 < a.size∧ib' < b.size∧ia + ib ≤ ia' + ib')
   (Q:=fun c st'=>Eqv st st'∧((∃ r,c.1=some r∧Res a b r)∨∃ out ia' ib' ac bc,c=(none,out,ia',ib',ac,bc)∧MI a b out ia' ib'∧ia' + 1 < a.size∧ib' < b.size∧ia + ib ≤ ia' + ib')) ?step1 ?fin1 ⟨E1,out,ia,ib,0,0,rfl,M,i1,i2,aO _⟩) ?post1)
  case fin1 =>
   rintro c st' ⟨Eq,q⟩
   exact ⟨Eq,.inr q⟩
  case step1 =>
   rintro y c st2 _ hy ⟨E2,out,ia',ib',ac,bc,rfl,M,i1,i2,ms'⟩
   dsimp only
   refine wpS_bind (cV (getElem?_pos b ib' i2) (wpS_bind (cV (getElem?_pos a ia' (by omega)) ?_)))
   have ia1:ia' < a.size:=by omega
   refine wpS_bind (t_ (E2.k.trans hk) (jm hb i2) (jm ha ia1) ?_)
   dsimp only
   by_cases lt:numOf (b[ib']).1 < numOf (a[ia']).1
   ·rw [dTr lt,if_pos rfl]
    refine wpS_bind (cV (getElem?_pos b ib' i2) ?_)
    have M':=M.pushB i2 fun y hy=>by
     have:=wQ (aG.mp M.A).2.1 (by simpa using ia1) y hy
     unfold R at this ⊢
     simp at this
     omega
    by_cases z:ib' + 1=b.size
    ·rw [if_pos (by simpa using z)]
     exact wpS_pure ⟨E2,.inl ⟨_,rfl,M'.endB (by omega)⟩⟩
    ·rw [if_neg (by simpa using z)]
     split
     ·exact wpS_pure ⟨E2,.inr ⟨_,_,_,_,_,rfl,M',i1,by omega,by omega⟩⟩
     ·exact wpS_pure ⟨E2,_,_,_,_,_,rfl,M',i1,by omega,by omega⟩
   ·rw [dFa lt,if_neg aK]
    refine wpS_bind (cV (getElem?_pos a ia' ia1) ?_)
    have M':=M.pushA ia1 fun y hy=>by
     have:=wQ (aG.mp M.B).2.1 (by simpa using i2) y hy
     unfold R at this ⊢
     simp at this
     omega
    by_cases z:ia' + 1 + 1=a.size
    ·rw [if_pos (by simpa using z)]
     exact wpS_pure ⟨E2,.inl ⟨_,rfl,lastR _ _ _ M' z⟩⟩
    ·rw [if_neg (by simpa using z)]
     split
     ·exact wpS_pure ⟨E2,.inr ⟨_,_,_,_,_,rfl,M',by omega,i2,by omega⟩⟩
     ·exact wpS_pure ⟨E2,_,_,_,_,_,rfl,M',by omega,i2,by omega⟩
  case post1 =>
   rintro c st2 ⟨E2,⟨r,e,hr⟩ | ⟨out,ia',ib',ac,bc,rfl,M,i1,i2,ms'⟩⟩
   ·obtain ⟨c0,c1⟩:=c
    subst e
    exact wpS_pure ⟨E2,r,rfl,hr⟩
   dsimp only
   refine wpS_bind (wpS_lift (wpAny_rule ⟨rfl,?_⟩))
   refine wpS_bind (wpS_mono (wpS_forRange (I:=fun y c st'=>Eqv st st'∧∃ out ia'' ib'' g ac bc,c=(none,out,ia'',ib'',g,ac,bc)∧MI a b out ia'' ib''∧ia'' + 1 < a.size∧ib'' < b.size∧ia + ib + min y 1 ≤ ia'' + ib'')
    (Q:=fun c st'=>Eqv st st'∧((∃ r,c.1=some r∧Res a b r)∨∃ out ia'' ib'' g ac bc,c=(none,out,ia'',ib'',g,ac,bc)∧MI a b out ia'' ib''∧ia'' + 1 < a.size∧ib'' < b.size∧ia + ib + 1 ≤ ia'' + ib'')) ?step2 ?fin2 ⟨E2,out,ia',ib',_,ac,bc,rfl,M,i1,i2,by omega⟩) ?post2)
   case fin2 =>
    rintro c st' ⟨Eq,out,ia'',ib'',g,ac,bc,rfl,M,i1,i2,ms⟩
    exact ⟨Eq,.inr ⟨out,ia'',ib'',g,ac,bc,rfl,M,i1,i2,by omega⟩⟩
   case post2 =>
    rintro c st3 ⟨E3,⟨r,e,hr⟩ | ⟨out,ia'',ib'',g,ac,bc,rfl,M,i1,i2,ms⟩⟩
    ·obtain ⟨c0,c1⟩:=c
     subst e
     exact wpS_pure ⟨E3,r,rfl,hr⟩
    ·dsimp only
     exact wpS_bind (oM (wpS_pure ⟨E3.set _,_,_,_,_,rfl,M,i1,i2,by omega⟩))
   case step2 =>
    rintro y c st3 _ hy ⟨E3,out,ia2,ib2,g,ac,bc,rfl,M,i1,i2,ms2⟩
    dsimp only
    have gt:∀ g':Nat,g'=g':=fun _=>rfl
    by_cases g1:g > 1
    case' pos=>rw [if_pos g1]
    case' neg=>rw [if_neg g1]
    all_goals
     refine wpS_bind (oM (wpS_bind (cV (getElem?_pos b ib2 i2) ?_)))
     refine wpS_bind (K_ ((E3.set _).k.trans hk) ha hb sa sb M (by omega) i2 fun k k1 Mk k2=>?_)
     dsimp only
     by_cases kp:k > 0
     case' pos =>
      rw [if_pos kp]
      generalize out++a.extract ia2 (ia2 + k)=o at Mk ⊢
      generalize hi:ia2 + k=i at k1 k2 Mk ⊢
      by_cases q1:i + 1=a.size
      case pos =>
       rw [if_pos (by simpa using q1)]
       exact wpS_pure ⟨E3.set _,.inl ⟨_,rfl,lastR _ _ _ Mk q1⟩⟩
      rw [if_neg (by simpa using q1)]
      by_cases q2:i=a.size
      case pos =>
       rw [if_pos (by simpa using q2)]
       exact wpS_pure ⟨E3.set _,.inl ⟨_,rfl,Mk.endA (by omega)⟩⟩
      rw [if_neg (by simpa using q2)]
      have hk2:=k2 (by omega)
      have hle:ia2 ≤ i:=by omega
      have hi1:i + 1 < a.size:=by omega
      clear k1 k2 q1 q2 hi kp M
     case' neg =>
      rw [if_neg kp]
      have k0:k=0:=by omega
      subst k0
      have hk2:=k2 (by omega)
      rw [jC] at hk2
      have hle:ia2 ≤ ia2:=aO _
      have hi1:=i1
      have Mk:=M
      clear k1 k2 kp M
    all_goals
     refine wpS_bind (cV (getElem?_pos b ib2 i2) ?_)
     have Mb:=Mk.pushB i2 hk2
     by_cases q3:ib2 + 1=b.size
     case pos =>
      rw [if_pos (by simpa using q3)]
      exact wpS_pure ⟨E3.set _,.inl ⟨_,rfl,Mb.endB (by omega)⟩⟩
     rw [if_neg (by simpa using q3)]
     refine wpS_bind (cV (getElem?_pos a _ (gJ hi1)) ?_)
     refine wpS_bind (La ((E3.set _).k.trans hk) ha hb sa sb Mb (gJ hi1) (by omega) fun l l1 Ml l2=>?_)
     dsimp only
     by_cases lp:l > 0
     case' pos =>
      rw [if_pos lp]
      by_cases q4:ib2 + 1 + l=b.size
      case pos =>
       rw [if_pos (by simpa using q4)]
       exact wpS_pure ⟨E3.set _,.inl ⟨_,rfl,Ml.endB (by omega)⟩⟩
      rw [if_neg (by simpa using q4)]
      have Ma:=Ml.pushA (gJ hi1) l2
      have q6:ib2 + 1 + l < b.size:=by omega
     case' neg =>
      rw [if_neg lp]
      have l0:l=0:=by omega
      subst l0
      have Ma:=Mb.pushA (gJ hi1) l2
      have q6:ib2 + 1 < b.size:=by omega
    all_goals
     refine wpS_bind (cV (getElem?_pos a _ (gJ hi1)) ?_)
     split
     ·next q5 =>
      exact wpS_pure ⟨E3.set _,.inl ⟨_,rfl,lastR _ _ _ Ma (by simpa using q5)⟩⟩
     ·next q5 =>
      have q5:=by simpa using q5
      split
      ·exact wpS_pure ⟨E3.set _,.inr ⟨_,_,_,_,_,_,rfl,Ma,by omega,q6,by omega⟩⟩
      ·exact wpS_pure ⟨E3.set _,_,_,_,_,_,_,rfl,Ma,by omega,q6,by omega⟩
end
end Srt
namespace Srt
open PySem PyProof.Rows
def Am:Array Keyed→Array Keyed→StateT SortSt Sem (Array Keyed):=sortPriv% PySem.Builtin.mergeHi
def sU (a b out:Array Keyed) (na nb:Nat):Array Keyed:=a.extract 0 na++b.extract 0 nb++out.reverse
def uc (a b out:Array Keyed) (na nb:Nat):Array Keyed:=b.extract 0 nb++a.extract 0 na++out.reverse
structure MJ (a b out:Array Keyed) (na nb:Nat):Prop where
 A:(a.toList.take na++out.toList.reverse).Pairwise R
 B:(b.toList.take nb++out.toList.reverse).Pairwise R
 P:(a.toList.take na++(b.toList.take nb++out.toList.reverse)).Perm (a.toList++b.toList)
section
variable {a b out:Array Keyed} {na nb:Nat}
theorem pU {x:Array Keyed} {i:Nat} (h:i < x.size):x.toList.take (i + 1)=x.toList.take i++[x[i]]:=by
 rw [j4,bC (by simpa using h)]
 simp
theorem ud {l o:List Keyed} {m:List Keyed} (h:(l++o).Pairwise R) (hm:m.Pairwise R) (h1:∀ x ∈ l,∀ y ∈ m,R x y) (h2:∀ x ∈ m,∀ y ∈ o,R x y):(l++(m++o)).Pairwise R:=by
 obtain ⟨p1,p2,p3⟩:=aG.mp h
 refine aG.mpr ⟨p1,aG.mpr ⟨hm,p2,h2⟩,fun x hx y hy=>?_⟩
 rcases bD.mp hy with z | z
 ·exact h1 x hx y z
 ·exact p3 x hx y z
theorem MJ.pushA (h:MJ a b out (na + 1) nb) (hi:na < a.size) (hle:∀ x ∈ b.toList.take nb,R x a[na]):MJ a b (out.push a[na]) na nb:=by
 obtain ⟨h1,h2,h3⟩:=h
 rw [pU hi] at h1 h3
 have e:(out.push a[na]).toList.reverse=[a[na]]++out.toList.reverse:=by simp
 rw [aL] at h1 h3
 obtain ⟨q1,q2,q3⟩:=aG.mp h1
 refine ⟨by rw [e];exact h1,?_,?_⟩
 ·rw [e]
  exact ud h2 (dR _ _) (fun x hx y hy=>by rw [aX.mp hy];exact hle x hx) (fun x hx y hy=>(aG.mp q2).2.2 x hx y hy)
 ·rw [e]
  refine List.Perm.trans (List.Perm.append_left _ ?_) h3
  rw [← aL,← aL]
  exact List.Perm.append_right _ dG
theorem MJ.pushB (h:MJ a b out na (nb + 1)) (hi:nb < b.size) (hle:∀ x ∈ a.toList.take na,R x b[nb]):MJ a b (out.push b[nb]) na nb:=by
 obtain ⟨h1,h2,h3⟩:=h
 rw [pU hi] at h2 h3
 have e:(out.push b[nb]).toList.reverse=[b[nb]]++out.toList.reverse:=by simp
 rw [aL] at h2 h3
 obtain ⟨q1,q2,q3⟩:=aG.mp h2
 refine ⟨?_,by rw [e];exact h2,by rw [e];exact h3⟩
 rw [e]
 exact ud h1 (dR _ _) (fun x hx y hy=>by rw [aX.mp hy];exact hle x hx) (fun x hx y hy=>(aG.mp q2).2.2 x hx y hy)
theorem qQ {l:List Keyed} {i n:Nat} (h:i ≤ n):l.take n=l.take i++(l.drop i).take (n - i):=by
 rw [← List.take_add,Nat.add_sub_cancel' h]
theorem mQ {x:Array Keyed} {i n:Nat}:(out++(x.extract i n).reverse).toList.reverse=(x.toList.drop i).take (n - i)++out.toList.reverse:=by
 rw [bO,List.reverse_append,jr,List.reverse_reverse,dZ]
theorem MJ.appA (h:MJ a b out na nb) {i:Nat} (hi:i ≤ na) (hle:∀ x ∈ b.toList.take nb,∀ y ∈ (a.toList.drop i).take (na - i),R x y):MJ a b (out++(a.extract i na).reverse) i nb:=by
 obtain ⟨h1,h2,h3⟩:=h
 rw [qQ hi,aL] at h1 h3
 obtain ⟨q1,q2,q3⟩:=aG.mp h1
 refine ⟨by rw [mQ];exact h1,?_,?_⟩
 ·rw [mQ]
  exact ud h2 (aG.mp q2).1 hle (aG.mp q2).2.2
 ·rw [mQ]
  refine List.Perm.trans (List.Perm.append_left _ ?_) h3
  rw [← aL,← aL]
  exact List.Perm.append_right _ dG
theorem MJ.appB (h:MJ a b out na nb) {i:Nat} (hi:i ≤ nb) (hle:∀ x ∈ a.toList.take na,∀ y ∈ (b.toList.drop i).take (nb - i),R x y):MJ a b (out++(b.extract i nb).reverse) na i:=by
 obtain ⟨h1,h2,h3⟩:=h
 rw [qQ hi,aL] at h2 h3
 obtain ⟨q1,q2,q3⟩:=aG.mp h2
 refine ⟨?_,by rw [mQ];exact h2,by rw [mQ];exact h3⟩
 rw [mQ]
 exact ud h1 (aG.mp q2).1 hle (aG.mp q2).2.2
theorem qW:(sU a b out na nb).toList=a.toList.take na++(b.toList.take nb++out.toList.reverse):=by
 unfold sU
 rw [bO,bO,dZ,dZ,cL,cL,jD,jD,jr,aL]
theorem MJ.endA (h:MJ a b out 0 nb):Res a b (sU a b out 0 nb):=by
 have e:=qW (a:=a) (b:=b) (out:=out) (na:=0) (nb:=nb)
 rw [gP,gA] at e
 have p:=h.P
 rw [gP,gA] at p
 exact ⟨by rw [e];exact p,by rw [e];exact h.B⟩
theorem MJ.endB (h:MJ a b out na 0):Res a b (sU a b out na 0):=by
 have e:=qW (a:=a) (b:=b) (out:=out) (na:=na) (nb:=0)
 rw [gP,gA] at e
 have p:=h.P
 rw [gP,gA] at p
 exact ⟨by rw [e];exact p,by rw [e];exact h.A⟩
theorem MJ.first (h:MJ a b out na 1) (b0:0 < b.size) (hf:∀ y ∈ a.toList,R b[0] y):Res a b (uc a b out na 1):=by
 have t:b.toList.take 1=[b[0]]:=by rw [pU b0,gP];rfl
 have e:(uc a b out na 1).toList=[b[0]]++(a.toList.take na++out.toList.reverse):=by
  unfold uc
  rw [bO,bO,dZ,dZ,cL,cL,jD,jD,jr,t,aL]
 have p:=h.P
 have B:=h.B
 rw [t] at p B
 refine ⟨?_,?_⟩
 ·rw [e]
  refine List.Perm.trans ?_ p
  rw [← aL,← aL]
  exact List.Perm.append_right _ dG
 ·rw [e]
  show (b[0] :: (a.toList.take na++out.toList.reverse)).Pairwise R
  have B:(b[0] :: out.toList.reverse).Pairwise R:=B
  refine bG.mpr ⟨fun y hy=>?_,h.A⟩
  rcases bD.mp hy with z | z
  ·exact hf y (eY z)
  ·exact (bG.mp B).1 y z
theorem o_ {x:Array Keyed} {n:Nat} {p:Keyed} (h:p ∈ x.toList.take n):∃ j,j < n∧∃ hj:j < x.size,p=x[j]:=by
 obtain ⟨j,j1,j2,e⟩:=kW (i:=0) (by rw [cL];exact h)
 exact ⟨j,j1,by omega,by rw [e];congr 1;omega⟩
variable {prog:Program} {w:World} {A:Around} {E:Value→Shared→Prop} {s:Shared}
theorem Il {st:SortSt} {Q:Option Nat→SortSt→Prop} (hk:kindOf st=oneType') (ha:∀ p ∈ a.toList,jA p) (hb:∀ p ∈ b.toList,jA p) (sa:a.toList.Pairwise R) (sb:b.toList.Pairwise R)
 (M:MJ a b out na nb) (i1:0 < na) (i1':na ≤ a.size) (i2:0 < nb) (i2':nb ≤ b.size) (h:∀ k,k ≤ na→MJ a b (out++(a.extract k na).reverse) k nb→(∀ x ∈ a.toList.take k,R x (b[nb - 1]'(by omega)))→Q (some k) st) :
 wpS (model prog w) A E s (oH false (b[nb - 1]'(by omega)) a 0 na (na - 1)) Q st:=by
 have hb1:nb - 1 < b.size:=by omega
 refine jk hk (jm hb hb1) ha (by omega) (by omega) (fun i j h1 h2 h3=>?_) fun k k1 k2 k3=>h k k1 (M.appA k1 fun x hx y hy=>?_) fun x hx=>?_
 ·unfold Pb at h3 ⊢
  have:=K_R sa (i:=0 + i) (j:=0 + j) (by omega) (by omega)
  rw [if_neg aK,dU,decide_eq_false_iff_not] at h3 ⊢
  omega
 ·obtain ⟨j,j1,j2,rfl⟩:=kW hy
  obtain ⟨l,l1,l2,rfl⟩:=o_ hx
  have:=k3 (k + j) (by omega) (by omega)
  unfold Pb at this
  rw [if_neg aK,jK,decide_eq_true_iff,cY,gn j2] at this
  have q:=K_R sb (i:=l) (j:=nb - 1) (by omega) hb1
  rw [gn hb1,gn l2] at q
  unfold R
  omega
 ·obtain ⟨l,l1,l2,rfl⟩:=o_ hx
  have:=k2 l l1
  unfold Pb at this
  rw [if_neg aK,dU,decide_eq_false_iff_not,cY,gn l2] at this
  unfold R
  omega
theorem Im {st:SortSt} {Q:Option Nat→SortSt→Prop} (hk:kindOf st=oneType') (ha:∀ p ∈ a.toList,jA p) (hb:∀ p ∈ b.toList,jA p) (sa:a.toList.Pairwise R) (sb:b.toList.Pairwise R)
 (M:MJ a b out na nb) (i1:0 < na) (i1':na ≤ a.size) (i2:0 < nb) (i2':nb ≤ b.size) (h:∀ k,k ≤ nb→MJ a b (out++(b.extract k nb).reverse) na k→(∀ x ∈ b.toList.take k,R x (a[na - 1]'(by omega)))→Q (some k) st) :
 wpS (model prog w) A E s (oH true (a[na - 1]'(by omega)) b 0 nb (nb - 1)) Q st:=by
 have ha1:na - 1 < a.size:=by omega
 refine jk hk (jm ha ha1) hb (by omega) (by omega) (fun i j h1 h2 h3=>?_) fun k k1 k2 k3=>h k k1 (M.appB k1 fun x hx y hy=>?_) fun x hx=>?_
 ·unfold Pb at h3 ⊢
  have:=K_R sb (i:=0 + i) (j:=0 + j) (by omega) (by omega)
  rw [if_pos rfl,decide_eq_true_iff] at h3 ⊢
  omega
 ·obtain ⟨j,j1,j2,rfl⟩:=kW hy
  obtain ⟨l,l1,l2,rfl⟩:=o_ hx
  have:=k3 (k + j) (by omega) (by omega)
  unfold Pb at this
  rw [if_pos rfl,decide_eq_false_iff_not,cY,gn j2] at this
  have q:=K_R sa (i:=l) (j:=na - 1) (by omega) ha1
  rw [gn ha1,gn l2] at q
  unfold R
  omega
 ·obtain ⟨l,l1,l2,rfl⟩:=o_ hx
  have:=k2 l l1
  unfold Pb at this
  rw [if_pos rfl,decide_eq_true_iff,cY,gn l2] at this
  unfold R
  omega
end
end Srt
namespace Srt
open PySem PyProof.Rows
section
variable {prog:Program} {w:World} {A:Around} {E:Value→Shared→Prop} {s:Shared} {a b:Array Keyed}
theorem MJ.endA' {out:Array Keyed} {na nb:Nat} (h:MJ a b out na nb) (e:na=0):Res a b (sU a b out na nb):=by subst e;exact h.endA
theorem MJ.endB' {out:Array Keyed} {na nb:Nat} (h:MJ a b out na nb) (e:nb=0):Res a b (sU a b out na nb):=by subst e;exact h.endB
theorem MJ.first' {out:Array Keyed} {na nb:Nat} (h:MJ a b out na nb) (e:nb=1) (b0:0 < b.size) (hf:∀ y ∈ a.toList,R b[0] y):Res a b (uc a b out na nb):=by subst e;exact h.first b0 hf
theorem MJ.pushA' {out:Array Keyed} {na nb:Nat} (h:MJ a b out na nb) (h0:0 < na) (hi:na - 1 < a.size) (hle:∀ x ∈ b.toList.take nb,R x a[na - 1]):MJ a b (out.push a[na - 1]) (na - 1) nb:=by
 cases na with
 | zero=>omega
 | succ n=>exact MJ.pushA (na:=n) h hi hle
theorem MJ.pushB' {out:Array Keyed} {na nb:Nat} (h:MJ a b out na nb) (h0:0 < nb) (hi:nb - 1 < b.size) (hle:∀ x ∈ a.toList.take na,R x b[nb - 1]):MJ a b (out.push b[nb - 1]) na (nb - 1):=by
 cases nb with
 | zero=>omega
 | succ n=>exact MJ.pushB (nb:=n) h hi hle
theorem uW {st:SortSt} {Q:Array Keyed→SortSt→Prop} (hk:kindOf st=oneType') (ha:∀ p ∈ a.toList,jA p) (hb:∀ p ∈ b.toList,jA p) (a0:0 < a.size) (b0:0 < b.size) (sa:a.toList.Pairwise R) (sb:b.toList.Pairwise R)
 (hf:K b 0 < K a 0) (hl:∀ y ∈ b.toList,R y (a[a.size - 1]'(by omega))) (h:∀ r st',Res a b r→Eqv st st'→Q r st'):wpS (model prog w) A E s (Am a b) Q st:=by
 have la:a.size - 1 < a.size:=by omega
 have hf':∀ y ∈ a.toList,R b[0] y:=fun y hy=>by
  obtain ⟨l,l1,rfl⟩:=jV (x:=a) (i:=0) (by rw [cL];exact hy)
  have q:=K_R sa (i:=0) (j:=0 + l) (by omega) l1
  rw [gn a0] at q hf
  rw [gn b0] at hf
  rw [gn l1] at q
  unfold R
  omega
 refine wpS_bind (m:=liftM (rule _)) (wpS_lift (wpAny_rule ⟨rfl,?_⟩))
 refine wpS_bind (cV (getElem?_pos a (a.size - 1) la) ?_)
 dsimp only
 have M0:MJ a b #[a[a.size - 1]] (a.size - 1) b.size:=by
  have ta:a.toList.take (a.size - 1)++[a[a.size - 1]]=a.toList:=by
   rw [← pU la,Nat.sub_add_cancel a0,bW (by simp)]
  have tb:b.toList.take b.size=b.toList:=bW (by simp)
  refine ⟨?_,?_,?_⟩
  ·show (a.toList.take (a.size - 1)++[a[a.size - 1]]).Pairwise R
   rw [ta];exact sa
  ·show (b.toList.take b.size++[a[a.size - 1]]).Pairwise R
   rw [tb]
   exact aG.mpr ⟨sb,dR _ _,fun x hx y hy=>by rw [aX.mp hy];exact hl x hx⟩
  ·show (a.toList.take (a.size - 1)++(b.toList.take b.size++[a[a.size - 1]])).Perm (a.toList++b.toList)
   rw [tb]
   have:(a.toList.take (a.size - 1)++(b.toList++[a[a.size - 1]])).Perm (a.toList.take (a.size - 1)++([a[a.size - 1]]++b.toList)):=List.Perm.append_left _ dG
   rw [← aL _ [a[a.size - 1]],ta] at this
   exact this
 by_cases c1:a.size - 1=0
 ·rw [if_pos (by simpa using c1)]
  exact wpS_pure (h _ _ (M0.endA' c1) (Eqv.refl st))
 rw [if_neg (by simpa using c1)]
 by_cases c2:b.size=1
 ·rw [if_pos (by simpa using c2)]
  exact wpS_pure (h _ _ (M0.first' c2 b0 hf') (Eqv.refl st))
 rw [if_neg (by simpa using c2)]
 refine wpS_bind (wpS_get ?_)
 refine wpS_bind (wpS_mono (wpS_forRange (I:=fun x c st'=>Eqv st st'∧∃ (na nb:Nat) (out:Array Keyed) (g:Nat),c=(none,na,nb,out,g)∧MJ a b out na nb∧0 < na∧na ≤ a.size∧1 < nb∧nb ≤ b.size∧na + nb + x + 1 ≤ a.size + b.size)
  (Q:=fun c st'=>Eqv st st'∧∃ r,c.1=some r∧Res a b r) ?ostep ?ofin ⟨Eqv.refl st,_,_,_,_,rfl,M0,by omega,by omega,by omega,by omega,by omega⟩) ?opost)
 case opost =>
  rintro c st' ⟨Eq,r,e,hr⟩
  obtain ⟨c0,c1⟩:=c
  subst e
  exact wpS_pure (h r st' hr Eq)
 case ofin =>
  rintro c st' ⟨Eq,na,nb,out,g,rfl,M,i1,i1',i2,i2',ms⟩
  omega
 case ostep =>
  rintro x c st1 _ hx ⟨E1,na,nb,out,g,rfl,M,i1,i1',i2,i2',ms⟩
  dsimp only
  refine wpS_bind (wpS_mono (wpS_forRange (I:=fun y c st'=>Eqv st st'∧∃ (na' nb':Nat) (out:Array Keyed) (ac bc:Nat),c=(none,na',nb',out,ac,bc)∧MJ a b out na' nb'∧0 < na'∧na' ≤ a.size∧1 < nb'∧nb' ≤ b.size∧na' + nb' ≤ na + nb)
   (Q:=fun c st'=>Eqv st st'∧((∃ r,c.1=some r∧Res a b r)∨∃ (na' nb':Nat) (out:Array Keyed) (ac bc:Nat),c=(none,na',nb',out,ac,bc)∧MJ a b out na' nb'∧0 < na'∧na' ≤ a.size∧1 < nb'∧nb' ≤ b.size∧na' + nb' ≤ na + nb)) ?step1 ?fin1 ⟨E1,na,nb,out,0,0,rfl,M,i1,i1',i2,i2',aO _⟩) ?post1)
  case fin1 =>
   rintro c st' ⟨Eq,q⟩
   exact ⟨Eq,.inr q⟩
  case step1 =>
   rintro y c st2 _ hy ⟨E2,na',nb',out,ac,bc,rfl,M,j1,j1',j2,j2',ms'⟩
   dsimp only
   obtain ⟨ma,rfl⟩:∃ ma,na'=ma + 1:=⟨na' - 1,by omega⟩
   obtain ⟨mb,rfl⟩:∃ mb,nb'=mb + 1:=⟨nb' - 1,by omega⟩
   simp only [Nat.add_sub_cancel]
   have ma1:ma < a.size:=by omega
   have mb1:mb < b.size:=by omega
   refine wpS_bind (cV (getElem?_pos b mb mb1) (wpS_bind (cV (getElem?_pos a ma ma1) ?_)))
   refine wpS_bind (t_ (E2.k.trans hk) (jm hb mb1) (jm ha ma1) ?_)
   dsimp only
   by_cases lt:numOf (b[mb]).1 < numOf (a[ma]).1
   ·rw [dTr lt,if_pos rfl]
    refine wpS_bind (cV (getElem?_pos a ma ma1) ?_)
    have M':=M.pushA ma1 fun x hx=>by
     obtain ⟨l,l1,l2,rfl⟩:=o_ hx
     have q:=K_R sb (i:=l) (j:=mb) (by omega) mb1
     rw [gn mb1,gn l2] at q
     unfold R
     omega
    by_cases z:ma=0
    ·rw [if_pos (by simpa using z)]
     subst z
     exact wpS_pure ⟨E2,.inl ⟨_,rfl,M'.endA⟩⟩
    ·rw [if_neg (by simpa using z)]
     split
     ·exact wpS_pure ⟨E2,.inr ⟨_,_,_,_,_,rfl,M',by omega,by omega,j2,j2',by omega⟩⟩
     ·exact wpS_pure ⟨E2,_,_,_,_,_,rfl,M',by omega,by omega,j2,j2',by omega⟩
   ·rw [dFa lt,if_neg aK]
    refine wpS_bind (cV (getElem?_pos b mb mb1) ?_)
    have M':=M.pushB mb1 fun x hx=>by
     obtain ⟨l,l1,l2,rfl⟩:=o_ hx
     have q:=K_R sa (i:=l) (j:=ma) (by omega) ma1
     rw [gn ma1,gn l2] at q
     unfold R
     omega
    by_cases z:mb=1
    ·rw [if_pos (by simpa using z)]
     subst z
     exact wpS_pure ⟨E2,.inl ⟨_,rfl,M'.first b0 hf'⟩⟩
    ·rw [if_neg (by simpa using z)]
     split
     ·exact wpS_pure ⟨E2,.inr ⟨_,_,_,_,_,rfl,M',j1,j1',by omega,by omega,by omega⟩⟩
     ·exact wpS_pure ⟨E2,_,_,_,_,_,rfl,M',j1,j1',by omega,by omega,by omega⟩
  case post1 =>
   rintro c st2 ⟨E2,⟨r,e,hr⟩ | ⟨na',nb',out,ac,bc,rfl,M,j1,j1',j2,j2',ms'⟩⟩
   ·obtain ⟨c0,c1⟩:=c
    subst e
    exact wpS_pure ⟨E2,r,rfl,hr⟩
   dsimp only
   refine wpS_bind (wpS_lift (wpAny_rule ⟨rfl,?_⟩))
   refine wpS_bind (wpS_mono (wpS_forRange (I:=fun y c st'=>Eqv st st'∧∃ (na'' nb'':Nat) (out:Array Keyed) (g ac bc:Nat),c=(none,na'',nb'',out,g,ac,bc)∧MJ a b out na'' nb''∧0 < na''∧na'' ≤ a.size∧1 < nb''∧nb'' ≤ b.size∧na'' + nb'' + min y 1 ≤ na + nb)
    (Q:=fun c st'=>Eqv st st'∧((∃ r,c.1=some r∧Res a b r)∨∃ (na'' nb'':Nat) (out:Array Keyed) (g ac bc:Nat),c=(none,na'',nb'',out,g,ac,bc)∧MJ a b out na'' nb''∧0 < na''∧na'' ≤ a.size∧1 < nb''∧nb'' ≤ b.size∧na'' + nb'' + 1 ≤ na + nb)) ?step2 ?fin2 ⟨E2,na',nb',out,_,ac,bc,rfl,M,j1,j1',j2,j2',by omega⟩) ?post2)
   case fin2 =>
    rintro c st' ⟨Eq,na2,nb2,out,g,ac,bc,rfl,M,j1,j1',j2,j2',ms2⟩
    exact ⟨Eq,.inr ⟨na2,nb2,out,g,ac,bc,rfl,M,j1,j1',j2,j2',by omega⟩⟩
   case post2 =>
    rintro c st3 ⟨E3,⟨r,e,hr⟩ | ⟨na2,nb2,out,g,ac,bc,rfl,M,j1,j1',j2,j2',ms2⟩⟩
    ·obtain ⟨c0,c1⟩:=c
     subst e
     exact wpS_pure ⟨E3,r,rfl,hr⟩
    ·dsimp only
     exact wpS_bind (oM (wpS_pure ⟨E3.set _,_,_,_,_,rfl,M,j1,j1',j2,j2',by omega⟩))
   case step2 =>
    rintro y c st3 _ hy ⟨E3,na2,nb2,out,g,ac,bc,rfl,M,j1,j1',j2,j2',ms2⟩
    dsimp only
    have nb1:nb2 - 1 < b.size:=by omega
    by_cases g1:g > 1
    case' pos=>rw [if_pos g1]
    case' neg=>rw [if_neg g1]
    all_goals
     refine wpS_bind (oM (wpS_bind (cV (getElem?_pos b (nb2 - 1) nb1) ?_)))
     refine wpS_bind (Il ((E3.set _).k.trans hk) ha hb sa sb M j1 j1' (by omega) j2' fun k k1 Mk k2=>?_)
     dsimp only
     by_cases kp:na2 - k > 0
     case' pos =>
      rw [if_pos kp]
      generalize out++(a.extract k na2).reverse=o at Mk ⊢
      by_cases q1:k=0
      case pos =>
       rw [if_pos (by simpa using q1)]
       exact wpS_pure ⟨E3.set _,.inl ⟨_,rfl,Mk.endA' q1⟩⟩
      rw [if_neg (by simpa using q1)]
      have hk0:0 < k:=by omega
      have hka:k ≤ a.size:=by omega
      have hkn:k ≤ na2:=k1
     case' neg =>
      rw [if_neg kp]
      have k0:k=na2:=by omega
      subst k0
      have Mk:=M
      have hk0:0 < k:=j1
      have hka:k ≤ a.size:=j1'
      have hkn:k ≤ k:=aO _
    all_goals
     refine wpS_bind (cV (getElem?_pos b (nb2 - 1) nb1) ?_)
     have Mb:=Mk.pushB' (by omega) nb1 k2
     by_cases q3:nb2 - 1=1
     case pos =>
      rw [if_pos (by simpa using q3)]
      exact wpS_pure ⟨E3.set _,.inl ⟨_,rfl,Mb.first' q3 b0 hf'⟩⟩
     rw [if_neg (by simpa using q3)]
     have ka1:k - 1 < a.size:=by omega
     refine wpS_bind (cV (getElem?_pos a (k - 1) ka1) ?_)
     refine wpS_bind (Im ((E3.set _).k.trans hk) ha hb sa sb Mb hk0 hka (by omega) (by omega) fun l l1 Ml l2=>?_)
     dsimp only
     by_cases lp:nb2 - 1 - l > 0
     case' pos =>
      rw [if_pos lp]
      by_cases q4:l=1
      case pos =>
       rw [if_pos (by simpa using q4)]
       exact wpS_pure ⟨E3.set _,.inl ⟨_,rfl,Ml.first' q4 b0 hf'⟩⟩
      rw [if_neg (by simpa using q4)]
      by_cases q5:l=0
      case pos =>
       rw [if_pos (by simpa using q5)]
       exact wpS_pure ⟨E3.set _,.inl ⟨_,rfl,Ml.endB' q5⟩⟩
      rw [if_neg (by simpa using q5)]
      have Ma:=Ml.pushA' hk0 ka1 l2
      have q6:1 < l:=by omega
      have q7:l ≤ b.size:=by omega
     case' neg =>
      rw [if_neg lp]
      have l0:l=nb2 - 1:=by omega
      subst l0
      have Ma:=Mb.pushA' hk0 ka1 l2
      have q6:1 < nb2 - 1:=by omega
      have q7:nb2 - 1 ≤ b.size:=by omega
    all_goals
     refine wpS_bind (cV (getElem?_pos a (k - 1) ka1) ?_)
     by_cases q9:k - 1=0
     case pos =>
      rw [if_pos (by simpa using q9)]
      exact wpS_pure ⟨E3.set _,.inl ⟨_,rfl,Ma.endA' q9⟩⟩
     rw [if_neg (by simpa using q9)]
     split
     ·exact wpS_pure ⟨E3.set _,.inr ⟨_,_,_,_,_,_,rfl,Ma,by omega,by omega,q6,q7,by omega⟩⟩
     ·exact wpS_pure ⟨E3.set _,_,_,_,_,_,_,rfl,Ma,by omega,by omega,q6,q7,by omega⟩
end
end Srt
namespace Srt
open PySem PyProof.Rows
def SIn (xs:Array Keyed) (lo hi:Nat):Prop:=∀ i j,lo ≤ i→i ≤ j→j < hi→K xs i ≤ K xs j
structure Ch (st st':SortSt) (lo hi:Nat):Prop where
 perm:(arrOf st').Perm (arrOf st)
 kind:kindOf st'=kindOf st
 failed:failedOf st'=failedOf st
 pend:pendingOf st'=pendingOf st
 out:∀ i,i < lo∨hi ≤ i→(arrOf st')[i]? = (arrOf st)[i]?
theorem Ch.refl (st:SortSt) (lo hi:Nat):Ch st st lo hi:=⟨Array.Perm.refl _,rfl,rfl,rfl,fun _ _=>rfl⟩
theorem Ch.size {st st':SortSt} {lo hi:Nat} (h:Ch st st' lo hi):(arrOf st').size=(arrOf st).size:=h.perm.size_eq
theorem Ch.ints {st st':SortSt} {lo hi:Nat} (h:Ch st st' lo hi) (h0:IntKeys (arrOf st)):IntKeys (arrOf st'):=fun p hp=>h0 p ((gQ.mp h.perm).mem_iff.mp hp)
theorem Ch.trans {st st' st'':SortSt} {lo hi:Nat} (h:Ch st st' lo hi) (g:Ch st' st'' lo hi):Ch st st'' lo hi:=⟨g.perm.trans h.perm,g.kind.trans h.kind,g.failed.trans h.failed,g.pend.trans h.pend,fun i q=>(g.out i q).trans (h.out i q)⟩
theorem Ch.set {st:SortSt} {xs:Array Keyed} {lo hi:Nat} (hp:xs.Perm (arrOf st)) (ho:∀ i,i < lo∨hi ≤ i→xs[i]? = (arrOf st)[i]?):Ch st (setArr st xs) lo hi:=⟨hp,rfl,rfl,rfl,ho⟩
section
variable {prog:Program} {w:World} {A:Around} {E:Value→Shared→Prop} {s:Shared}
theorem mR {st:SortSt} {i j:Nat} {Q:Option Bool→SortSt→Prop} (hk:kindOf st=oneType') (h0:IntKeys (arrOf st)) (hi:i < (arrOf st).size) (hj:j < (arrOf st).size) (h:Q (some (decide (K (arrOf st) i < K (arrOf st) j))) st) :
 wpS (model prog w) A E s (ltAt' i j) Q st:=by
 obtain ⟨n,t,e1⟩:=h0 (arrOf st)[i] (by simp)
 obtain ⟨m,u,e2⟩:=h0 (arrOf st)[j] (by simp)
 rw [gn hi,gn hj,e1,e2] at h
 exact wpS_ltAt (a:=n) (b:=m) (t:=t) (u:=u) (p:=(arrOf st)[i].2) (q:=(arrOf st)[j].2) hk (by rw [getElem?_pos _ i hi];congr 1;exact Prod.ext e1 rfl) (by rw [getElem?_pos _ j hj];congr 1;exact Prod.ext e2 rfl) h
def Gap (xs:Array Keyed) (lo k l r:Nat):Prop:=(∀ i,i < l→K xs (lo + i) ≤ K xs (lo + k))∧∀ i,r ≤ i→i < k→K xs (lo + k) < K xs (lo + i)
theorem DQ {st:SortSt} {lo n ok:Nat} {Q:Bool→SortSt→Prop} (hk:kindOf st=oneType') (h0:IntKeys (arrOf st)) (hn:lo + n ≤ (arrOf st).size) (hok:ok ≤ n) (hs:SIn (arrOf st) lo (lo + ok))
 (h:∀ st',Ch st st' lo (lo + n)→SIn (arrOf st') lo (lo + n)→Q true st'):wpS (model prog w) A E s (binarySort' lo n ok) Q st:=by
 rw [binarySort'_eq]
 refine wpS_bind (wpS_mono (wpS_forRange (I:=fun k c st'=>c=(none,())∧Ch st st' lo (lo + n)∧SIn (arrOf st') lo (lo + min k n))
  (Q:=fun c st'=>c=(none,())∧Ch st st' lo (lo + n)∧SIn (arrOf st') lo (lo + n)) ?s1 ?f1 ?z1) ?p1)
 case p1 =>
  rintro c st' ⟨rfl,ch,so⟩
  exact wpS_pure (h st' ch so)
 case z1 =>
  refine ⟨rfl,Ch.refl _ _ _,fun i j hl ij jj=>?_⟩
  by_cases h1:ok=0
  ·rw [show i=j by omega]
   exact cH _
  ·exact hs i j hl ij (by omega)
 case f1 =>
  rintro c st' ⟨ec,ch,so⟩
  refine ⟨ec,ch,?_⟩
  rwa [show min (max (max ok 1) n) n=n by omega] at so
 case s1 =>
  rintro k c st' k1 k2 ⟨rfl,ch,so⟩
  rw [show min k n=k by omega] at so
  have sz:=ch.size
  have hk':lo + k < (arrOf st').size:=by omega
  have h0':=ch.ints h0
  refine wpS_bind (wpS_mono (wpS_forRange (I:=fun x c st''=>∃ l r,((st''=st'∧c=(none,l,r))∧l ≤ r∧r ≤ k∧r - l ≤ k - x)∧Gap (arrOf st') lo k l r) (Q:=fun c st''=>∃ l r,((st''=st'∧c=(none,l,r))∧l ≤ k)∧Gap (arrOf st') lo k l l) ?s2 ?f2 ?z2) ?p2)
  case z2=>exact ⟨0,k,⟨⟨rfl,rfl⟩,by omega,by omega,by omega⟩,fun i hi=>by omega,fun i h1 h2=>by omega⟩
  case f2 =>
   rintro c st'' ⟨l,r,⟨⟨rfl,rfl⟩,q1,q2,q3⟩,q4,q5⟩
   have:l=r:=by omega
   subst this
   exact ⟨l,l,⟨⟨rfl,rfl⟩,q2⟩,q4,q5⟩
  case s2 =>
   rintro x c st'' _ xk ⟨l,r,⟨⟨rfl,rfl⟩,q1,q2,q3⟩,q4,q5⟩
   dsimp only
   by_cases gq:l ≥ r
   ·rw [if_pos gq]
    have:l=r:=by omega
    subst this
    exact wpS_pure ⟨l,l,⟨⟨rfl,rfl⟩,q2⟩,q4,q5⟩
   ·rw [if_neg gq]
    refine wpS_bind (mR (ch.kind.trans hk) h0' hk' (by omega) ?_)
    by_cases lq:K (arrOf st'') (lo + k) < K (arrOf st'') (lo + (l + r) / 2)
    ·simp only [lq,decide_true,if_true]
     refine wpS_pure ⟨l,(l + r) / 2,⟨⟨rfl,rfl⟩,by omega,by omega,by omega⟩,q4,fun i h1 h2=>?_⟩
     exact Int.lt_of_lt_of_le lq (so _ _ (by omega) (by omega) (by omega))
    ·simp only [lq,decide_false,nq,if_false]
     refine wpS_pure ⟨(l + r) / 2 + 1,r,⟨⟨rfl,rfl⟩,by omega,by omega,by omega⟩,fun i h1=>?_,q5⟩
     exact gW (so (lo + i) (lo + (l + r) / 2) (by omega) (by omega) (by omega)) (Int.not_lt.mp lq)
  case p2 =>
   rintro c st'' ⟨l,r,⟨⟨rfl,rfl⟩,hlk⟩,q4,q5⟩
   show wpS _ _ _ _ (do moveDown' (lo + k) (lo + l);pure (ForInStep.yield (none,()))) _ _
   rw [moveDown'_eq]
   have ed:lo + k - (lo + l)=k - l:=by omega
   refine wpS_bind (wpS_modify (wpS_pure ⟨rfl,ch.trans (Ch.set (bubble_perm _ _ _) fun i hi=>?_),?_⟩))
   ·rw [getElem?_bubble hk' _ (by omega)]
    rw [if_neg (by omega),if_neg (by omega)]
   have mk:min (k + 1) n=k + 1:=by omega
   rw [mk]
   intro i j hl ij jj
   show K (bubble (arrOf st'') (lo + k) (lo + k - (lo + l))) i ≤ K (bubble (arrOf st'') (lo + k) (lo + k - (lo + l))) j
   rw [K_bubble hk' (by omega),K_bubble hk' (by omega),show lo + k - (lo + k - (lo + l))=lo + l by omega]
   have lo':∀ x,lo ≤ x→x < lo + l→K (arrOf st'') x ≤ K (arrOf st'') (lo + k):=fun x h1 h2=>by
    have:=q4 (x - lo) (by omega)
    rwa [show lo + (x - lo)=x by omega] at this
   have hi':∀ x,lo + l ≤ x→x < lo + k→K (arrOf st'') (lo + k) < K (arrOf st'') x:=fun x h1 h2=>by
    have:=q5 (x - lo) (by omega) (by omega)
    rwa [show lo + (x - lo)=x by omega] at this
   repeat' split
   all_goals first
    | (exfalso;omega)
    | exact cH _
    | exact lo' _ (by omega) (by omega)
    | exact gY (hi' _ (by omega) (by omega))
    | exact so _ _ (by omega) (by omega) (by omega)
end
end Srt
namespace Srt
open PySem PyProof.Rows
def putAll (x:Array Keyed) (off:Nat) (m:List Keyed):Array Keyed:=m.zipIdx.foldl (fun a q=>a.setIfInBounds (off + q.2) q.1) x
theorem wR:∀ (m:List Keyed) (n off:Nat) (x:Array Keyed),off + n + m.length ≤ x.size →
 ((m.zipIdx n).foldl (fun a q=>a.setIfInBounds (off + q.2) q.1) x).size=x.size∧∀ j,((m.zipIdx n).foldl (fun a q=>a.setIfInBounds (off + q.2) q.1) x)[j]? = if off + n ≤ j∧j < off + n + m.length then m[j - (off + n)]? else x[j]?
 | [],n,off,x,_=>⟨rfl,fun j=>by rw [if_neg (by simp only [jx];omega)];rfl⟩
 | p :: m,n,off,x,h=>by
  rw [bL] at h
  obtain ⟨h1,h2⟩:=wR m (n + 1) off (x.setIfInBounds (off + n) p) (by rw [iu];omega)
  rw [List.zipIdx_cons,lO]
  refine ⟨h1.trans iu,fun j=>?_⟩
  rw [h2 j,bL]
  by_cases c1:off + (n + 1) ≤ j∧j < off + (n + 1) + m.length
  ·rw [if_pos c1,if_pos (by omega),show j - (off + n)=(j - (off + (n + 1))) + 1 by omega,List.getElem?_cons_succ]
  ·rw [if_neg c1,jy]
   by_cases c2:off + n=j
   ·rw [if_pos c2,if_pos (by omega),if_pos (by omega),show j - (off + n)=0 by omega,List.getElem?_cons_zero]
   ·rw [if_neg c2,if_neg (by omega)]
theorem qY {x:Array Keyed} {off:Nat} {m:List Keyed} (h:off + m.length ≤ x.size) (j:Nat):(putAll x off m)[j]? = if off ≤ j∧j < off + m.length then m[j - off]? else x[j]?:=by
 have:=(wR m 0 off x (by omega)).2 j
 simpa [putAll] using this
theorem Ao {x:Array Keyed} {off:Nat} {m:List Keyed} (h:off + m.length ≤ x.size):(putAll x off m).toList=x.toList.take off++(m++x.toList.drop (off + m.length)):=by
 apply iU
 intro j
 rw [cA,qY h]
 by_cases c1:j < off
 ·rw [if_neg (by omega),bM (by simp;omega),j_ c1,cA]
 ·have l1:(x.toList.take off).length=off:=by simp;omega
  rw [bK (by omega),l1]
  by_cases c2:j < off + m.length
  ·rw [if_pos (by omega),bM (by omega)]
  ·rw [if_neg (by omega),bK (by omega),dH,cA]
   congr 1
   omega
theorem Aq {x:Array Keyed} {off:Nat} {m:List Keyed} (h:off + m.length ≤ x.size) (p:m.Perm ((x.toList.drop off).take m.length)):(putAll x off m).Perm x:=by
 rw [gQ,Ao h]
 have e:x.toList=x.toList.take off++((x.toList.drop off).take m.length++x.toList.drop (off + m.length)):=by
  rw [← jJ,cR,cR]
 refine List.Perm.trans (List.Perm.append_left _ (List.Perm.append_right _ p)) ?_
 rw [← e]
end Srt
namespace Srt
open PySem PyProof.Rows
section
variable {prog:Program} {w:World} {A:Around} {E:Value→Shared→Prop} {s:Shared}
theorem Ar {σ:Type} {M:Model} {st st1:σ} {Q:PUnit→σ→Prop} (h:Q ⟨⟩ st1):wpS M A E s (set st1:StateT σ Sem PUnit) Q st:=wpS_modify (f:=fun _=>st1) h
theorem pW {x:Array Keyed} {i j:Nat} (h:IntKeys x):∀ p ∈ (x.extract i j).toList,jA p:=fun p hp=>h p (by
 rw [dZ] at hp
 exact eX (eY hp))
theorem uX {x:Array Keyed} {i j:Nat} (hij:i ≤ j) (hj:j ≤ x.size):(x.extract i j).size=j - i:=by rw [Array.size_extract];omega
theorem mH {x:Array Keyed} {i j k:Nat} (hj:j ≤ x.size) (hk:i + k < j):K (x.extract i j) k=K x (i + k):=by
 unfold K
 rw [Array.getElem?_extract,if_pos (by omega)]
theorem Gx {x:Array Keyed} (h:∀ i j,i ≤ j→j < x.size→K x i ≤ K x j):x.toList.Pairwise R:=cO.mpr fun i j hi hj hij=>by
 have:=h i j (dJ hij) (by simpa using hj)
 rw [gn (by simpa using hi),gn (by simpa using hj)] at this
 unfold R
 simpa using this
theorem uY {st:SortSt} {i sa na p sb nb p2:Nat} {Q:Bool→SortSt→Prop} (hk:kindOf st=oneType') (hfl:failedOf st=none) (h0:IntKeys (arrOf st)) (e1:(pendingOf st)[i]? = some (sa,na,p)) (e2:(pendingOf st)[i + 1]? = some (sb,nb,p2)) (hc:sb=sa + na) (hn:sb + nb ≤ (arrOf st).size) (n1:0 < na) (n2:0 < nb)
 (s1:SIn (arrOf st) sa sb) (s2:SIn (arrOf st) sb (sb + nb))
 (h:∀ st',(arrOf st').Perm (arrOf st)→kindOf st'=oneType'→failedOf st'=none→pendingOf st'=((pendingOf st).setIfInBounds i (sa,na + nb,p)).eraseIdxIfInBounds (i + 1)→(∀ j,j < sa∨sb + nb ≤ j→(arrOf st')[j]? = (arrOf st)[j]?)→SIn (arrOf st') sa (sb + nb)→Q true st') :
 wpS (model prog w) A E s (mergeAt' i) Q st:=by
 have iK:∀ p ∈ (arrOf st).toList,jA p:=h0
 have hsb:sb < (arrOf st).size:=by omega
 have hla:sa + na - 1 < (arrOf st).size:=by omega
 refine wpS_bind (m:=get) (wpS_get ?_)
 rw [e1,e2]
 dsimp only
 refine wpS_bind (Ar ?_)
 refine wpS_bind (cV (getElem?_pos (arrOf st) sb hsb) ?_)
 have Kb:K (arrOf st) sb=numOf ((arrOf st)[sb]).1:=gn hsb
 refine wpS_bind (jk (arr:=arrOf st) (base:=sa) (n:=na) (hint:=0) hk (jm iK hsb) iK (by omega) n1 (fun a b ab b1 b2=>?_) fun k k1 k2 k3=>?_)
 ·unfold Pb at b2 ⊢
  have:=s1 (sa + a) (sa + b) (by omega) (by omega) (by omega)
  rw [if_neg aK,dU,decide_eq_false_iff_not] at b2 ⊢
  omega
 have lo1:∀ u,u < k→K (arrOf st) (sa + u) ≤ K (arrOf st) sb:=fun u hu=>by
  have:=k2 u hu
  unfold Pb at this
  rw [if_neg aK,dU,decide_eq_false_iff_not] at this
  omega
 have hi1:∀ u,k ≤ u→u < na→K (arrOf st) sb < K (arrOf st) (sa + u):=fun u u1 u2=>by
  have:=k3 u u1 u2
  unfold Pb at this
  rw [if_neg aK,jK,decide_eq_true_iff] at this
  omega
 dsimp only
 by_cases c1:na - k=0
 ·rw [if_pos (by simpa using c1)]
  refine wpS_pure (h _ (Array.Perm.refl _) hk hfl rfl (fun _ _=>rfl) fun u v u1 uv v1=>?_)
  show K (arrOf st) u ≤ K (arrOf st) v
  by_cases v2:v < sb
  ·exact s1 u v u1 uv v2
  ·by_cases u2:u < sb
   ·have a1:=lo1 (u - sa) (by omega)
    have a2:=s2 sb v (aO _) (by omega) v1
    rw [show sa + (u - sa)=u by omega] at a1
    omega
   ·exact s2 u v (by omega) uv v1
 rw [if_neg (by simpa using c1)]
 have hlx:sa + k + (na - k) - 1 < (arrOf st).size:=by omega
 have exl:sa + k + (na - k) - 1=sb - 1:=by omega
 refine wpS_bind (cV (getElem?_pos (arrOf st) (sa + k + (na - k) - 1) hlx) ?_)
 have Ka:K (arrOf st) (sb - 1)=numOf ((arrOf st)[sa + k + (na - k) - 1]).1:=by rw [← exl];exact gn hlx
 refine wpS_bind (jk (arr:=arrOf st) (base:=sb) (n:=nb) (hint:=nb - 1) hk (jm iK hlx) iK (by omega) (by omega) (fun a b ab b1 b2=>?_) fun l l1 l2 l3=>?_)
 ·unfold Pb at b2 ⊢
  have:=s2 (sb + a) (sb + b) (by omega) (by omega) (by omega)
  rw [if_pos rfl,decide_eq_true_iff] at b2 ⊢
  omega
 have lo2:∀ u,u < l→K (arrOf st) (sb + u) < K (arrOf st) (sb - 1):=fun u hu=>by
  have:=l2 u hu
  unfold Pb at this
  rw [if_pos rfl,decide_eq_true_iff] at this
  omega
 have hi2:∀ u,l ≤ u→u < nb→K (arrOf st) (sb - 1) ≤ K (arrOf st) (sb + u):=fun u u1 u2=>by
  have:=l3 u u1 u2
  unfold Pb at this
  rw [if_pos rfl,decide_eq_false_iff_not] at this
  omega
 dsimp only
 have l0:0 < l:=by
  rcases jL l with z | z
  ·have a1:=hi2 0 (by omega) n2
   have a2:=hi1 (na - 1) (by omega) (by omega)
   rw [show sa + (na - 1)=sb - 1 by omega] at a2
   rw [jC] at a1
   omega
  ·exact z
 rw [if_neg (by simpa using Nat.ne_of_gt l0)]
 have zx:((arrOf st).extract (sa + k) sb).size=sb - (sa + k):=uX (by omega) (by omega)
 have zy:((arrOf st).extract sb (sb + l)).size=l:=by rw [uX (by omega) (by omega)];omega
 have px:((arrOf st).extract (sa + k) sb).toList.Pairwise R:=Gx fun u v uv v1=>by
  rw [zx] at v1
  rw [mH (by omega) (by omega),mH (by omega) (by omega)]
  exact s1 _ _ (by omega) (by omega) (by omega)
 have py:((arrOf st).extract sb (sb + l)).toList.Pairwise R:=Gx fun u v uv v1=>by
  rw [zy] at v1
  rw [mH (by omega) (by omega),mH (by omega) (by omega)]
  exact s2 _ _ (by omega) (by omega) (by omega)
 have f0:K ((arrOf st).extract sb (sb + l)) 0 < K ((arrOf st).extract (sa + k) sb) 0:=by
  rw [mH (by omega) (by omega),mH (by omega) (by omega),jC,jC]
  exact hi1 k (aO _) (by omega)
 have xl:((arrOf st).extract (sa + k) sb).size - 1 < ((arrOf st).extract (sa + k) sb).size:=by omega
 have fl:∀ y ∈ ((arrOf st).extract sb (sb + l)).toList,R y (((arrOf st).extract (sa + k) sb)[((arrOf st).extract (sa + k) sb).size - 1]'xl):=fun y hy=>by
  obtain ⟨u,u1,rfl⟩:=jV (x:=(arrOf st).extract sb (sb + l)) (i:=0) (by rw [cL];exact hy)
  have a1:=gn u1
  have a2:=gn xl
  unfold R
  rw [← a1,← a2,mH (by omega) (by omega),mH (by omega) (by omega)]
  have:=lo2 (0 + u) (by omega)
  rw [zx,show sa + k + (sb - (sa + k) - 1)=sb - 1 by omega]
  omega
 have fin:∀ (r:Array Keyed) (st':SortSt),Res ((arrOf st).extract (sa + k) sb) ((arrOf st).extract sb (sb + l)) r→kindOf st'=kindOf st→arrOf st'=arrOf st→failedOf st'=failedOf st→pendingOf st'=((pendingOf st).setIfInBounds i (sa,na + nb,p)).eraseIdxIfInBounds (i + 1) →
  Q true (setArr st' (putAll (arrOf st) (sa + k) r.toList)):=fun r st' hr g1 g2 g3 g4=>by
  have rl:r.toList.length=sb + l - (sa + k):=by
   rw [hr.P.length_eq,aP,aF,aF,zx,zy]
   omega
  have hz:sa + k + r.toList.length ≤ (arrOf st).size:=by omega
  have cut:((arrOf st).toList.drop (sa + k)).take r.toList.length=((arrOf st).extract (sa + k) sb).toList++((arrOf st).extract sb (sb + l)).toList:=by
   rw [dZ,dZ,rl,show sb + l - (sa + k)=(sb - (sa + k)) + (sb + l - sb) by omega,List.take_add,jJ,show sa + k + (sb - (sa + k))=sb by omega]
  have mid:∀ u,sa + k ≤ u→u < sb + l→∃ v,sa + k ≤ v∧v < sb + l∧K (putAll (arrOf st) (sa + k) r.toList) u=K (arrOf st) v:=fun u u1 u2=>by
   have q:=qY hz u
   rw [if_pos (by omega)] at q
   have hu:u - (sa + k) < r.toList.length:=by omega
   rw [bC hu] at q
   have hm:r.toList[u - (sa + k)] ∈ ((arrOf st).toList.drop (sa + k)).take r.toList.length:=by
    rw [cut]
    exact hr.P.mem_iff.mp (gZ hu)
   obtain ⟨v,v1,v2,ev⟩:=kW hm
   refine ⟨sa + k + v,by omega,by omega,?_⟩
   rw [gn v2,← ev]
   unfold K
   rw [q]
  have out:∀ u,u < sa + k∨sb + l ≤ u→K (putAll (arrOf st) (sa + k) r.toList) u=K (arrOf st) u:=fun u hu=>K_congr (by rw [qY hz,if_neg (by omega)])
  have ms:∀ u v,sa + k ≤ u→u ≤ v→v < sb + l→K (putAll (arrOf st) (sa + k) r.toList) u ≤ K (putAll (arrOf st) (sa + k) r.toList) v:=fun u v u1 uv v1=>by
   have eq:∀ u,sa + k ≤ u→u < sb + l→K (putAll (arrOf st) (sa + k) r.toList) u=K r (u - (sa + k)):=fun u u1 u2=>K_congr (by
    rw [qY hz,if_pos (by omega),cA])
   rw [eq u u1 (by omega),eq v (by omega) v1]
   exact K_R hr.S (by omega) (by rw [← aF];omega)
  have up:∀ v,sa + k ≤ v→v < sb + l→K (arrOf st) v ≤ K (arrOf st) (sb - 1):=fun v v1 v2=>by
   by_cases z:v < sb
   ·exact s1 v (sb - 1) (by omega) (by omega) (by omega)
   ·have:=lo2 (v - sb) (by omega)
    rw [show sb + (v - sb)=v by omega] at this
    omega
  have dn:∀ v,sa + k ≤ v→v < sb + l→K (arrOf st) sb ≤ K (arrOf st) v:=fun v v1 v2=>by
   by_cases z:v < sb
   ·have:=hi1 (v - sa) (by omega) (by omega)
    rw [show sa + (v - sa)=v by omega] at this
    omega
   ·exact s2 sb v (aO _) (by omega) (by omega)
  have low:∀ u,sa ≤ u→u < sa + k→K (arrOf st) u ≤ K (arrOf st) sb:=fun u u1 u2=>by
   have:=lo1 (u - sa) (by omega)
   rwa [show sa + (u - sa)=u by omega] at this
  have hig:∀ v,sb + l ≤ v→v < sb + nb→K (arrOf st) (sb - 1) ≤ K (arrOf st) v:=fun v v1 v2=>by
   have:=hi2 (v - sb) (by omega) (by omega)
   rwa [show sb + (v - sb)=v by omega] at this
  refine h _ ?_ (g1.trans hk) (g3.trans hfl) g4 (fun j hj=>?_) fun u v u1 uv v1=>?_
  ·exact Aq hz (by rw [cut];exact hr.P)
  ·show (putAll (arrOf st) (sa + k) r.toList)[j]? = _
   rw [qY hz,if_neg (by omega)]
  ·show K (putAll (arrOf st) (sa + k) r.toList) u ≤ K (putAll (arrOf st) (sa + k) r.toList) v
   by_cases u2:u < sa + k
   ·rw [out u (.inl u2)]
    by_cases v2:v < sa + k
    ·rw [out v (.inl v2)];exact s1 u v u1 uv (by omega)
    ·by_cases v3:v < sb + l
     ·obtain ⟨t,t1,t2,t3⟩:=mid v (by omega) v3
      rw [t3]
      exact gW (low u u1 u2) (dn t t1 t2)
     ·rw [out v (.inr (by omega))]
      exact gW (low u u1 u2) (s2 sb v (aO _) (by omega) v1)
   ·by_cases u3:u < sb + l
    ·by_cases v3:v < sb + l
     ·exact ms u v (by omega) uv v3
     ·rw [out v (.inr (by omega))]
      obtain ⟨t,t1,t2,t3⟩:=mid u (by omega) u3
      rw [t3]
      exact gW (up t t1 t2) (hig v (by omega) v1)
    ·rw [out u (.inr (by omega)),out v (.inr (by omega))]
     exact s2 u v (by omega) uv v1
 have zx0:0 < ((arrOf st).extract (sa + k) sb).size:=by rw [zx];omega
 have zy0:0 < ((arrOf st).extract sb (sb + l)).size:=by rw [zy];exact l0
 have nn:(failedOf st).isNone=true:=by rw [hfl];rfl
 split
 ·refine wpS_bind (uV hk (pW h0) (pW h0) zx0 zy0 px py f0 fl fun r st' hr E=>?_)
  refine wpS_bind (wpS_modify (wpS_bind (wpS_get (wpS_pure ?_))))
  have:=fin r st' hr E.k E.a E.f E.p
  rw [← E.a] at this
  have e:(failedOf st').isNone=true:=by rw [E.f];exact nn
  show Q (failedOf st').isNone _
  rw [e]
  exact this
 ·refine wpS_bind (uW hk (pW h0) (pW h0) zx0 zy0 px py f0 fl fun r st' hr E=>?_)
  refine wpS_bind (wpS_modify (wpS_bind (wpS_get (wpS_pure ?_))))
  have:=fin r st' hr E.k E.a E.f E.p
  rw [← E.a] at this
  have e:(failedOf st').isNone=true:=by rw [E.f];exact nn
  show Q (failedOf st').isNone _
  rw [e]
  exact this
end
end Srt
namespace Srt
open PySem PyProof.Rows
def NIn (xs:Array Keyed) (lo hi:Nat):Prop:=∀ i j,lo ≤ i→i ≤ j→j < hi→K xs j ≤ K xs i
section
variable {prog:Program} {w:World} {A:Around} {E:Value→Shared→Prop} {s:Shared}
theorem mU {st:SortSt} {i j lo hi:Nat} (h1:lo ≤ i) (h2:j ≤ hi) (h3:j ≤ (arrOf st).size):Ch st (setArr st (mirror (arrOf st) i j ((j - i) / 2))) lo hi :=
 Ch.set (mirror_perm _ _ _ _) fun u hu=>by rw [getElem?_mirror_all h3,if_neg (by omega)]
theorem SIn.one {xs:Array Keyed} {lo hi:Nat} (h:hi ≤ lo + 1):SIn xs lo hi:=fun i j h1 h2 h3=>by
 have:i=j:=by omega
 subst this
 exact cH _
theorem SIn.more {xs:Array Keyed} {lo n:Nat} (h:SIn xs lo (lo + n)) (hn:1 ≤ n) (q:¬ K xs (lo + n) < K xs (lo + n - 1)):SIn xs lo (lo + (n + 1)):=fun i j h1 h2 h3=>by
 by_cases z:j < lo + n
 ·exact h i j h1 h2 z
 ·have ej:j=lo + n:=by omega
  subst ej
  by_cases y:i=lo + n
  ·rw [y];exact cH _
  ·have:=h i (lo + n - 1) h1 (by omega) (by omega)
   omega
theorem NIn.more {xs:Array Keyed} {lo n:Nat} (h:NIn xs lo (lo + n)) (hn:1 ≤ n) (q:K xs (lo + n) ≤ K xs (lo + n - 1)):NIn xs lo (lo + (n + 1)):=fun i j h1 h2 h3=>by
 by_cases z:j < lo + n
 ·exact h i j h1 h2 z
 ·have ej:j=lo + n:=by omega
  subst ej
  by_cases y:i=lo + n
  ·rw [y];exact cH _
  ·have:=h i (lo + n - 1) h1 (by omega) (by omega)
   omega
theorem yx {st:SortSt} {lo nrem:Nat} {Q:Option Nat→SortSt→Prop} (hk:kindOf st=oneType') (h0:IntKeys (arrOf st)) (h1:1 ≤ nrem) (hn:lo + nrem ≤ (arrOf st).size)
 (h:∀ m st',Ch st st' lo (lo + nrem)→1 ≤ m→m ≤ nrem→SIn (arrOf st') lo (lo + m)→Q (some m) st'):wpS (model prog w) A E s (countRun' lo nrem) Q st:=by
 refine wpS_bind (wpS_mono (wpS_forRange (a:=1) (b:=nrem) (I:=fun x c st'=>st'=st∧c=(none,x)∧SIn (arrOf st) lo (lo + x))
  (Q:=fun c st'=>st'=st∧∃ n,c=(none,n)∧1 ≤ n∧n ≤ nrem∧SIn (arrOf st) lo (lo + n)∧(n=nrem∨K (arrOf st) (lo + n) < K (arrOf st) (lo + n - 1))) ?s1 ?f1 ⟨rfl,rfl,SIn.one (by omega)⟩) ?p1)
 case f1 =>
  rintro c st' ⟨rfl,rfl,so⟩
  rw [show max 1 nrem=nrem by omega] at so ⊢
  exact ⟨rfl,nrem,rfl,h1,aO _,so,.inl rfl⟩
 case s1 =>
  rintro x c st' x1 x2 ⟨rfl,rfl,so⟩
  dsimp only
  refine wpS_bind (mR hk h0 (by omega) (by omega) ?_)
  dsimp only
  by_cases lt:K (arrOf st') (lo + x) < K (arrOf st') (lo + x - 1)
  ·rw [dTr lt,if_pos rfl]
   exact wpS_pure ⟨rfl,x,rfl,x1,by omega,so,.inr lt⟩
  ·rw [dFa lt,if_neg aK]
   exact wpS_pure ⟨rfl,rfl,so.more x1 lt⟩
 case p1 =>
  rintro c st' ⟨rfl,n,rfl,n1,n2,so,oder⟩
  dsimp only
  by_cases c1:n=nrem
  ·rw [if_pos (by simpa using c1)]
   exact wpS_pure (h n st' (Ch.refl _ _ _) n1 n2 so)
  rw [if_neg (by simpa using c1)]
  have lt:=oder.resolve_left c1
  by_cases c2:n > 1
  case' pos =>
   rw [if_pos c2]
   refine wpS_bind (mR hk h0 (by omega) (by omega) ?_)
   dsimp only
   by_cases ro:K (arrOf st') lo < K (arrOf st') (lo + n - 1)
   case pos =>
    rw [dTr ro,if_pos rfl]
    exact wpS_pure (h n st' (Ch.refl _ _ _) n1 n2 so)
   rw [dFa ro,if_neg aK]
   refine wpS_bind (wpS_reverse ?_)
   have al:∀ u,lo ≤ u→u < lo + n→K (arrOf st') u=K (arrOf st') (lo + n - 1):=fun u u1 u2=>by
    have a1:=so lo u (aO _) u1 u2
    have a2:=so u (lo + n - 1) u1 (by omega) (by omega)
    omega
   have ch:Ch st' (setArr st' (mirror (arrOf st') lo (lo + n) ((lo + n - lo) / 2))) lo (lo + nrem):=mU (aO _) (by omega) (by omega)
   have km:=K_mirror_equal (xs:=arrOf st') (i:=lo) (j:=lo + n) (by omega) al
   have ni:NIn (arrOf (setArr st' (mirror (arrOf st') lo (lo + n) ((lo + n - lo) / 2)))) lo (lo + (n + 1)):=fun i j i1 ij j1=>by
    show K (mirror (arrOf st') lo (lo + n) ((lo + n - lo) / 2)) j ≤ K (mirror (arrOf st') lo (lo + n) ((lo + n - lo) / 2)) i
    rw [km,km]
    by_cases z:j < lo + n
    ·rw [al i i1 (by omega),al j (by omega) z];exact cH _
    ·have ej:j=lo + n:=by omega
     subst ej
     by_cases y:i=lo + n
     ·rw [y];exact cH _
     ·rw [al i i1 (by omega)];omega
   generalize setArr st' (mirror (arrOf st') lo (lo + n) ((lo + n - lo) / 2))=st2 at ch ni ⊢
  case' neg =>
   rw [if_neg c2]
   have en:n=1:=by omega
   have ni0:NIn (arrOf st') lo (lo + (n + 1)):=fun i j i1 ij j1=>by
    by_cases y:i=j
    ·rw [y];exact cH _
    ·have ei:i=lo:=by omega
     have ej:j=lo + n:=by omega
     rw [ei,ej]
     rw [show lo + n - 1=lo by omega] at lt
     omega
   obtain ⟨st2,es⟩:∃ st2,st2=st':=⟨_,rfl⟩
   have ch:Ch st' st2 lo (lo + nrem):=by rw [es];exact Ch.refl _ _ _
   have ni:NIn (arrOf st2) lo (lo + (n + 1)):=by rw [es];exact ni0
   rw [← es]
  all_goals
   refine wpS_bind (wpS_lift (wpAny_rule ⟨rfl,?_⟩))
   refine wpS_bind (wpS_mono (wpS_forRange (I:=fun x c st3=>∃ q,c=(none,x,q)∧Ch st' st3 lo (lo + nrem)∧NIn (arrOf st3) lo (lo + x)∧q + 1 ≤ x∧∀ u,lo + x - (q + 1) ≤ u→u < lo + x→K (arrOf st3) u=K (arrOf st3) (lo + x - 1))
    (Q:=fun c st3=>∃ m q,c=(none,m,q)∧n + 1 ≤ m∧m ≤ nrem∧Ch st' st3 lo (lo + nrem)∧NIn (arrOf st3) lo (lo + m)∧q + 1 ≤ m∧∀ u,lo + m - (q + 1) ≤ u→u < lo + m→K (arrOf st3) u=K (arrOf st3) (lo + m - 1)) ?s2 ?f2 ⟨0,rfl,ch,ni,by omega,fun u u1 u2=>by congr 1;omega⟩) ?p2)
   case f2 =>
    rintro c st3 ⟨q,rfl,ch3,ni3,q1,al3⟩
    rw [show max (n + 1) nrem=nrem by omega] at ni3 q1 al3 ⊢
    exact ⟨nrem,q,rfl,by omega,aO _,ch3,ni3,q1,al3⟩
   case s2 =>
    rintro x c st3 x1 x2 ⟨q,rfl,ch3,ni3,q1,al3⟩
    dsimp only
    have sz:=ch3.size
    have k3:=ch3.kind.trans hk
    have i3:=ch3.ints h0
    refine wpS_bind (mR k3 i3 (by omega) (by omega) ?_)
    dsimp only
    by_cases lt3:K (arrOf st3) (lo + x) < K (arrOf st3) (lo + x - 1)
    ·rw [dTr lt3,if_pos rfl]
     by_cases qp:q > 0
     ·rw [if_pos qp]
      have km:=K_mirror_equal (xs:=arrOf st3) (i:=lo + x - (q + 1)) (j:=lo + x) (by omega) al3
      refine wpS_bind (wpS_reverse (wpS_pure ⟨0,rfl,ch3.trans (mU (by omega) (by omega) (by omega)),?_,by omega,fun u u1 u2=>by congr 1;omega⟩))
      have no:=ni3.more (by omega) (gY lt3)
      intro i j i1 ij j1
      show K (mirror (arrOf st3) (lo + x - (q + 1)) (lo + x) _) j ≤ K (mirror (arrOf st3) (lo + x - (q + 1)) (lo + x) _) i
      rw [km,km]
      exact no i j i1 ij j1
     ·rw [if_neg qp]
      exact wpS_pure ⟨0,rfl,ch3,ni3.more (by omega) (gY lt3),by omega,fun u u1 u2=>by congr 1;omega⟩
    ·rw [dFa lt3,if_neg aK]
     refine wpS_bind (mR k3 i3 (by omega) (by omega) ?_)
     dsimp only
     by_cases gt3:K (arrOf st3) (lo + x - 1) < K (arrOf st3) (lo + x)
     ·rw [dTr gt3,if_pos rfl]
      exact wpS_pure ⟨x,q,rfl,x1,by omega,ch3,ni3,q1,al3⟩
     ·rw [dFa gt3,if_neg aK]
      refine wpS_pure ⟨q + 1,rfl,ch3,ni3.more (by omega) (by omega),by omega,fun u u1 u2=>?_⟩
      rw [show lo + (x + 1) - 1=lo + x by omega]
      by_cases z:u=lo + x
      ·rw [z]
      ·rw [al3 u (by omega) (by omega)];omega
   case p2 =>
    rintro c st3 ⟨m,q,rfl,m1,m2,ch3,ni3,q1,al3⟩
    dsimp only
    have sz:=ch3.size
    by_cases qp:q > 0
    case' pos =>
     rw [if_pos qp]
     refine wpS_bind (wpS_reverse ?_)
     have km:=K_mirror_equal (xs:=arrOf st3) (i:=lo + m - (q + 1)) (j:=lo + m) (by omega) al3
     have ch4:Ch st' (setArr st3 (mirror (arrOf st3) (lo + m - (q + 1)) (lo + m) ((lo + m - (lo + m - (q + 1))) / 2))) lo (lo + nrem):=ch3.trans (mU (by omega) (by omega) (by omega))
     have ni4:NIn (arrOf (setArr st3 (mirror (arrOf st3) (lo + m - (q + 1)) (lo + m) ((lo + m - (lo + m - (q + 1))) / 2)))) lo (lo + m):=fun i j i1 ij j1=>by
      show K (mirror (arrOf st3) (lo + m - (q + 1)) (lo + m) _) j ≤ K (mirror (arrOf st3) (lo + m - (q + 1)) (lo + m) _) i
      rw [km,km]
      exact ni3 i j i1 ij j1
     generalize setArr st3 (mirror (arrOf st3) (lo + m - (q + 1)) (lo + m) ((lo + m - (lo + m - (q + 1))) / 2))=st4 at ch4 ni4 ⊢
    case' neg =>
     rw [if_neg qp]
     obtain ⟨st4,es4⟩:∃ st4,st4=st3:=⟨_,rfl⟩
     have ch4:Ch st' st4 lo (lo + nrem):=by rw [es4];exact ch3
     have ni4:NIn (arrOf st4) lo (lo + m):=by rw [es4];exact ni3
     rw [← es4]
    all_goals
     have sz4:=ch4.size
     refine wpS_bind (wpS_reverse ?_)
     have ch5:Ch st' (setArr st4 (mirror (arrOf st4) lo (lo + m) ((lo + m - lo) / 2))) lo (lo + nrem):=ch4.trans (mU (aO _) (by omega) (by omega))
     have si5:SIn (arrOf (setArr st4 (mirror (arrOf st4) lo (lo + m) ((lo + m - lo) / 2)))) lo (lo + m):=fun i j i1 ij j1=>by
      show K (mirror (arrOf st4) lo (lo + m) ((lo + m - lo) / 2)) i ≤ K (mirror (arrOf st4) lo (lo + m) ((lo + m - lo) / 2)) j
      rw [K_mirror (by omega),K_mirror (by omega),if_pos (by omega),if_pos (by omega)]
      exact ni4 _ _ (by omega) (by omega) (by omega)
     generalize setArr st4 (mirror (arrOf st4) lo (lo + m) ((lo + m - lo) / 2))=st5 at ch5 si5 ⊢
     have sz5:=ch5.size
     refine wpS_bind (wpS_mono (wpS_forRange (I:=fun x c st6=>st6=st5∧c=(none,x)∧SIn (arrOf st5) lo (lo + x)) (Q:=fun c st6=>st6=st5∧∃ z,c=(none,z)∧m ≤ z∧z ≤ nrem∧SIn (arrOf st5) lo (lo + z)) ?s3 ?f3 ⟨rfl,rfl,si5⟩) ?p3)
     case f3 =>
      rintro c st6 ⟨rfl,rfl,so⟩
      rw [show max m nrem=nrem by omega] at so ⊢
      exact ⟨rfl,nrem,rfl,m2,aO _,so⟩
     case s3 =>
      rintro x c st6 x1 x2 ⟨rfl,rfl,so⟩
      dsimp only
      refine wpS_bind (mR (ch5.kind.trans hk) (ch5.ints h0) (by omega) (by omega) ?_)
      dsimp only
      by_cases lt6:K (arrOf st6) (lo + x) < K (arrOf st6) (lo + x - 1)
      ·rw [dTr lt6,if_pos rfl]
       exact wpS_pure ⟨rfl,x,rfl,x1,by omega,so⟩
      ·rw [dFa lt6,if_neg aK]
       exact wpS_pure ⟨rfl,rfl,so.more (by omega) lt6⟩
     case p3 =>
      rintro c st6 ⟨rfl,z,rfl,z1,z2,so⟩
      exact wpS_pure (h z st6 ch5 (by omega) z2 so)
end
end Srt
namespace Srt
open PySem PyProof.Rows
def Runs (xs:Array Keyed):List (Nat × Nat × Nat)→Nat→Nat→Prop
 | [],a,b=>a=b
 | (st,len,_) :: r,a,b=>st=a∧0 < len∧SIn xs a (a + len)∧Runs xs r (a + len) b
theorem Runs.le {xs:Array Keyed}:∀ {ps:List (Nat × Nat × Nat)} {a b:Nat},Runs xs ps a b→a + ps.length ≤ b
 | [],a,b,h=>by have:a=b:=h;simp only [jx];omega
 | (st,len,_) :: r,a,b,h=>by
  have:=h.2.2.2.le
  have:=h.2.1
  rw [bL]
  omega
theorem SIn.same {xs ys:Array Keyed} {lo hi:Nat} (h:SIn xs lo hi) (e:∀ j,lo ≤ j→j < hi→K ys j=K xs j):SIn ys lo hi:=fun i j h1 h2 h3=>by
 rw [e i h1 (by omega),e j (by omega) h3]
 exact h i j h1 h2 h3
theorem Runs.same {xs ys:Array Keyed}:∀ {ps:List (Nat × Nat × Nat)} {a b:Nat},Runs xs ps a b→(∀ j,a ≤ j→j < b→K ys j=K xs j)→Runs ys ps a b
 | [],a,b,h,_=>h
 | (st,len,p) :: r,a,b,h,e=>by
  have l:=h.2.2.2.le
  exact ⟨h.1,h.2.1,h.2.2.1.same fun j j1 j2=>e j j1 (by omega),Runs.same h.2.2.2 fun j j1 j2=>e j (by omega) j2⟩
theorem Runs.app {xs:Array Keyed}:∀ {ps:List (Nat × Nat × Nat)} {a b c p:Nat},Runs xs ps a b→0 < c→SIn xs b (b + c)→Runs xs (ps++[(b,c,p)]) a (b + c)
 | [],a,b,c,p,h,h1,h2=>by
  have:a=b:=h
  subst this
  exact ⟨rfl,h1,h2,rfl⟩
 | (st,len,q) :: r,a,b,c,p,h,h1,h2=>⟨h.1,h.2.1,h.2.2.1,Runs.app h.2.2.2 h1 h2⟩
theorem Runs.pw {xs:Array Keyed} (f:Nat × Nat × Nat→Nat):∀ {ps:List (Nat × Nat × Nat)} {a b i:Nat},Runs xs ps a b→Runs xs (ps.modify i fun q=>(q.1,q.2.1,f q)) a b
 | [],a,b,i,h=>by cases i <;> exact h
 | (st,len,q) :: r,a,b,0,h=>h
 | (st,len,q) :: r,a,b,i + 1,h=>⟨h.1,h.2.1,h.2.2.1,Runs.pw f (i:=i) h.2.2.2⟩
theorem Runs.merge {xs:Array Keyed}:∀ {ps:List (Nat × Nat × Nat)} {a b i sa na p sb nb q:Nat},Runs xs ps a b→ps[i]? = some (sa,na,p)→ps[i + 1]? = some (sb,nb,q) →
 (a ≤ sa∧sb=sa + na∧0 < na∧0 < nb∧SIn xs sa sb∧SIn xs sb (sb + nb)∧sb + nb ≤ b) ∧
 ∀ ys,(∀ j,j < sa∨sb + nb ≤ j→K ys j=K xs j)→SIn ys sa (sb + nb)→Runs ys ((ps.set i (sa,na + nb,p)).eraseIdx (i + 1)) a b
 | [],a,b,i,sa,na,p,sb,nb,q,h,e1,e2=>by cases e1
 | (st,len,r0) :: r,a,b,0,sa,na,p,sb,nb,q,h,e1,e2=>by
  cases e1
  cases r with
  | nil=>cases e2
  | cons x r =>
   cases e2
   obtain ⟨h1,h2,h3,h4,h5,h6,h7⟩:=h
   subst h1 h4
   have l:=h7.le
   refine ⟨⟨aO _,rfl,h2,h5,h3,h6,by omega⟩,fun ys e s=>⟨rfl,by omega,by rwa [← m8],?_⟩⟩
   have:=h7.same (ys:=ys) fun j j1 j2=>e j (.inr (by omega))
   rwa [← m8]
 | (st,len,r0) :: r,a,b,i + 1,sa,na,p,sb,nb,q,h,e1,e2=>by
  obtain ⟨h1,h2,h3,h4⟩:=h
  subst h1
  obtain ⟨⟨g1,g2,g3,g4,g5,g6,g7⟩,g8⟩:=Runs.merge (i:=i) h4 (by simpa using e1) (by simpa using e2)
  refine ⟨⟨by omega,g2,g3,g4,g5,g6,g7⟩,fun ys e s=>⟨rfl,h2,h3.same fun j j1 j2=>e j (.inl (by omega)),?_⟩⟩
  exact g8 ys e s
section
variable {prog:Program} {w:World} {A:Around} {E:Value→Shared→Prop} {s:Shared}
structure W (st0 st:SortSt) (lo:Nat):Prop where
 perm:(arrOf st).Perm (arrOf st0)
 kind:kindOf st=oneType'
 failed:failedOf st=none
 runs:Runs (arrOf st) (pendingOf st).toList 0 lo
theorem W.ints {st0 st:SortSt} {lo:Nat} (h:W st0 st lo) (h0:IntKeys (arrOf st0)):IntKeys (arrOf st):=fun p hp=>h0 p ((gQ.mp h.perm).mem_iff.mp hp)
theorem uZ {st0 st:SortSt} {lo i:Nat} {Q:Bool→SortSt→Prop} (h0:IntKeys (arrOf st0)) (hW:W st0 st lo) (hlo:lo ≤ (arrOf st0).size) (hi:i + 1 < (pendingOf st).size)
 (h:∀ st',W st0 st' lo→(pendingOf st').size + 1=(pendingOf st).size→(∀ j,lo ≤ j→(arrOf st')[j]? = (arrOf st)[j]?)→Q true st'):wpS (model prog w) A E s (mergeAt' i) Q st:=by
 obtain ⟨sa,na,p,e1⟩:∃ sa na p,(pendingOf st)[i]? = some (sa,na,p):=⟨_,_,_,getElem?_pos (pendingOf st) i (by omega)⟩
 obtain ⟨sb,nb,q,e2⟩:∃ sb nb q,(pendingOf st)[i + 1]? = some (sb,nb,q):=⟨_,_,_,getElem?_pos (pendingOf st) (i + 1) hi⟩
 obtain ⟨⟨g1,g2,g3,g4,g5,g6,g7⟩,g8⟩:=hW.runs.merge (i:=i) (by rw [cA];exact e1) (by rw [cA];exact e2)
 have sz:=hW.perm.size_eq
 refine uY hW.kind hW.failed (hW.ints h0) e1 e2 g2 (by omega) g3 g4 g5 g6 fun st' a1 a2 a3 a4 a5 a6=>h st' ⟨a1.trans hW.perm,a2,a3,?_⟩ ?_ fun j hj=>a5 j (.inr (by omega))
 ·have:=g8 (arrOf st') (fun j hj=>K_congr (a5 j hj)) a6
  rw [a4]
  simpa using this
 ·rw [a4,← aF,← aF]
  rw [show (((pendingOf st).setIfInBounds i (sa,na + nb,p)).eraseIdxIfInBounds (i + 1)).toList=((pendingOf st).toList.set i (sa,na + nb,p)).eraseIdx (i + 1) by simp,List.length_eraseIdx_of_lt (by simpa using hi),dX,aF]
  omega
theorem W.push {st0 st:SortSt} {lo n:Nat} (h:W st0 st lo) (hn:0 < n) (so:SIn (arrOf st) lo (lo + n)):W st0 (setPending st ((pendingOf st).push (lo,n,0))) (lo + n) :=
 ⟨h.perm,h.kind,h.failed,by
  show Runs (arrOf st) ((pendingOf st).push (lo,n,0)).toList 0 (lo + n)
  rw [iV]
  exact h.runs.app hn so⟩
theorem W.pow {st0 st:SortSt} {lo i:Nat} {f:Nat × Nat × Nat→Nat} (h:W st0 st lo):W st0 (setPending st ((pendingOf st).modify i fun q=>(q.1,q.2.1,f q))) lo :=
 ⟨h.perm,h.kind,h.failed,by
  show Runs (arrOf st) ((pendingOf st).modify i fun q=>(q.1,q.2.1,f q)).toList 0 lo
  rw [Array.toList_modify]
  exact h.runs.pw f⟩
theorem W.of {st0 st1 st2:SortSt} {lo hi:Nat} (h:W st0 st1 lo) (ch:Ch st1 st2 lo hi):W st0 st2 lo :=
 ⟨ch.perm.trans h.perm,ch.kind.trans h.kind,ch.failed.trans h.failed,by
  rw [ch.pend]
  exact h.runs.same fun j _ j2=>K_congr (ch.out j (.inl j2))⟩
theorem Av {st:SortSt} {Q:Unit→SortSt→Prop} (hk:kindOf st=oneType') (hf:failedOf st=none) (hp:pendingOf st = #[]) (h0:IntKeys (arrOf st)) (h2:2 ≤ (arrOf st).size)
 (h:∀ st',(arrOf st').Perm (arrOf st)→failedOf st'=none→SortedTo (arrOf st') (arrOf st).size→Q () st'):wpS (model prog w) A E s sortRuns' Q st:=by
 have W0:W st st 0:=⟨Array.Perm.refl _,hk,hf,by rw [hp];rfl⟩
 rw [sortRuns'_eq]
 refine wpS_bind (wpS_get ?_)
 dsimp only
 refine wpS_bind (wpS_mono (wpS_forRange (I:=fun x c st'=>∃ lo,c=(none,lo)∧lo ≤ (arrOf st).size∧min x (arrOf st).size ≤ lo∧W st st' lo)
  (Q:=fun c st'=>c=(none,(arrOf st).size)∧W st st' (arrOf st).size) ?s1 ?f1 ⟨0,rfl,d9 _,by omega,W0⟩) ?p1)
 case f1 =>
  rintro c st' ⟨lo,rfl,l1,l2,Ww⟩
  have:lo=(arrOf st).size:=by omega
  subst this
  exact ⟨rfl,Ww⟩
 case s1 =>
  rintro x c st1 _ hx ⟨lo,rfl,l1,l2,W1⟩
  dsimp only
  have sz:=W1.perm.size_eq
  by_cases c1:lo ≥ (arrOf st).size
  ·rw [if_pos c1]
   have:lo=(arrOf st).size:=by omega
   subst this
   exact wpS_pure ⟨rfl,W1⟩
  rw [if_neg c1]
  refine wpS_bind (yx W1.kind (W1.ints h0) (by omega) (by omega) fun m st2 ch m1 m2 so=>?_)
  dsimp only
  by_cases c2:m < minRun' (arrOf st).size (arrOf st).size 0
  case' pos =>
   rw [if_pos c2]
   refine wpS_bind (wpS_lift (wpAny_rule ⟨rfl,?_⟩))
   have sz2:=ch.size
   have W2:=W1.of ch
   refine wpS_bind (DQ W2.kind (W2.ints h0) (by omega) (by omega) so fun st3 ch3 so3=>?_)
   have en:∃ n,n=min ((arrOf st).size - lo) (minRun' (arrOf st).size (arrOf st).size 0):=⟨_,rfl⟩
   obtain ⟨n,en⟩:=en
   rw [← en] at so3 ch3 ⊢
   have n1:1 ≤ n:=by omega
   have n2:lo + n ≤ (arrOf st).size:=by omega
   have W3:=W2.of ch3
   rw [if_neg (by decide)]
   clear en so ch W2
  case' neg =>
   rw [if_neg c2]
   have W3:=W1.of ch
   have so3:=so
   have n1:=m1
   have n2:lo + m ≤ (arrOf st).size:=by omega
   clear so ch
  all_goals
   refine wpS_bind (wpS_get ?_)
   split
   ·next s1 n1' p1 eb =>
    refine wpS_bind (wpS_mono (wpS_forRange (I:=fun y c st4=>c=(none,())∧W st st4 lo∧SIn (arrOf st4) lo _) (Q:=fun c st4=>c=(none,())∧W st st4 lo∧SIn (arrOf st4) lo _) ?s2 (fun _ _ q=>q) ⟨rfl,W3,so3⟩) ?p2)
    case s2 =>
     rintro y c st4 _ hy ⟨rfl,W4,so4⟩
     refine wpS_bind (wpS_get ?_)
     by_cases c4:(pendingOf st4).size > 1
     ·rw [if_pos c4]
      obtain ⟨u,v,o,eo⟩:∃ u v o,(pendingOf st4)[(pendingOf st4).size - 2]? = some (u,v,o):=⟨_,_,_,getElem?_pos (pendingOf st4) _ (by omega)⟩
      rw [eo]
      dsimp only
      split
      ·exact wpS_pure ⟨rfl,W4,so4⟩
      ·refine wpS_bind (uZ h0 W4 l1 (by omega) fun st5 W5 _ q5=>?_)
       rw [if_neg (by decide)]
       exact wpS_pure ⟨rfl,W5,so4.same fun j j1 _=>K_congr (q5 j j1)⟩
     ·rw [if_neg c4]
      exact wpS_pure ⟨rfl,W4,so4⟩
    case p2 =>
     rintro c st4 ⟨rfl,W4,so4⟩
     dsimp only
     refine wpS_bind (wpS_modify (wpS_bind (wpS_modify (wpS_pure ⟨_,rfl,n2,by omega,?_⟩))))
     exact (W4.pow).push n1 so4
   ·exact wpS_bind (wpS_modify (wpS_pure ⟨_,rfl,n2,by omega,W3.push n1 so3⟩))
 case p1 =>
  rintro c st1 ⟨rfl,W1⟩
  dsimp only
  have sz:=W1.perm.size_eq
  have lp:=W1.runs.le
  rw [aF] at lp
  refine wpS_bind (wpS_mono (wpS_forRange (I:=fun y c st2=>c=(none,())∧W st st2 (arrOf st).size∧((pendingOf st2).size ≤ 1∨(pendingOf st2).size + y ≤ (arrOf st).size)) (Q:=fun c st2=>c=(none,())∧W st st2 (arrOf st).size∧(pendingOf st2).size ≤ 1) ?s3 ?f3 ⟨rfl,W1,.inr (by omega)⟩) ?p3)
  case f3 =>
   rintro c st2 ⟨rfl,W2,q⟩
   exact ⟨rfl,W2,by omega⟩
  case s3 =>
   rintro y c st2 _ hy ⟨rfl,W2,q⟩
   refine wpS_bind (wpS_get ?_)
   by_cases c3:(pendingOf st2).size ≤ 1
   ·rw [if_pos c3]
    exact wpS_pure ⟨rfl,W2,c3⟩
   rw [if_neg c3]
   split
   all_goals
    refine wpS_bind (uZ h0 W2 (aO _) (by split <;> omega) fun st3 W3 q3 _=>?_)
    rw [if_neg (by decide)]
    exact wpS_pure ⟨rfl,W3,.inr (by omega)⟩
  case p3 =>
   rintro c st2 ⟨rfl,W2,q⟩
   refine wpS_pure (h st2 W2.perm W2.failed ?_)
   have rn:=W2.runs
   have ql:(pendingOf st2).toList.length ≤ 1:=by rw [aF];exact q
   match hps:(pendingOf st2).toList,rn,ql with
   | [],rn,_ =>
    have:0=(arrOf st).size:=rn
    omega
   | [(a,b,d)],rn,_ =>
    obtain ⟨_,_,r3,r4⟩:=rn
    have r4:0 + b=(arrOf st).size:=r4
    rw [r4] at r3
    exact fun i j ij j1=>r3 i j (d9 _) ij j1
end
end Srt
namespace Srt
open PySem PySem.Spec PyProof.Rows
section
variable {prog:Program} {w:World} {A:Around} {E:Value→Shared→Prop} {s:Shared}
theorem yC {a:Addr} {us:List Value} {ns:List Int} {n:Nat} {P:PySem.Fin→Shared→Prop} (ho:s.heap.get? a=some (seqObj "list" us.toArray n)) (hI:IntsAre us ns) (hz:us.length ≤ 1000000)
 (h:∀ (o:Array Value) (ms:List Int),IntsAre o.toList ms→ms.Perm ns→ms.Pairwise (· ≤ ·)→P (.done (.ret .none)) { s with heap:=sortedHeap s.heap a us o }):wpAny (model prog w) A (Builtin.«list.sort» ⟨[.ref a],[]⟩) P E s:=by
 by_cases c:us.length < 64
 ·exact list_sort_tree ho hI c h
 have la:a < s.heap.objs.size:=Heap.lt_size ho
 have ls:us.length ≤ sizeLine:=by rw [sizeLine_eq];omega
 rw [list_sort_plain]
 refine wpAny_bind (listItems_at ho rfl (wpAny_bind (listUpdate_at ho rfl ?_)))
 obtain ⟨e,h1⟩:∃ e,(s.heap.update a (Obj.mapSeq fun _=>#[])).get? a=some (seqObj "list" #[] e):=⟨_,get?_update_seq ho fun _=>#[]⟩
 refine wpAny_bind (seqEpoch_at h1 rfl (wpAny_bind (wpAny_newTuple (wpAny_bind (wpAny_newList (wpAny_holding ?_))))))
 have h3:(((s.heap.update a (Obj.mapSeq fun _=>#[])).push (seqObj "tuple" us.toArray 0)).push (seqObj "list" #[] 0)).get? a=some (seqObj "list" #[] e):=by
  rw [Heap.get?_push_ne _ _ _ (by rw [size_push',Heap.size_update];exact bI (nQ la)),Heap.get?_push_ne _ _ _ (by rw [Heap.size_update];exact bI la),h1]
 show wpAny (model prog w) A _ P E { s with heap:=((s.heap.update a (Obj.mapSeq fun _=>#[])).push (seqObj "tuple" us.toArray 0)).push (seqObj "list" #[] 0) }
 dsimp only
 have c2:¬ us.toArray.size < 2:=by rw [aY];omega
 rw [if_neg c2,if_neg c2]
 obtain ⟨x,y,r,rfl⟩:∃ x y r,us=x :: y :: r:=match us,c with
  | [],c=>absurd (show 0 < 64 by decide) c
  | [_],c=>absurd (show 1 < 64 by decide) c
  | x :: y :: r,_=>⟨x,y,r,rfl⟩
 rw [keyKind_ints hI]
 refine wpAny_bind (wpAny_pure (wpAny_bind (wpAny_mono (Av (st:=SortSt.mk' oneType' (pairsOf (x :: y :: r)) #[] 7 none)
  (Q:=fun _ st'=>(arrOf st').Perm (pairsOf (x :: y :: r))∧failedOf st'=none∧SortedTo (arrOf st') (pairsOf (x :: y :: r)).size) rfl rfl rfl hI.intKeys (by show 2 ≤ (pairsOf (x :: y :: r)).size;rw [pairsOf_size];simp) fun st' a1 a2 a3=>⟨a1,a2,a3⟩) ?_ fun _ _ q=>q)))
 rintro ⟨⟨⟩,st'⟩ s' ⟨rfl,q1,q2,q3⟩
 dsimp only
 have sz:((arrOf st').map (·.2)).size ≤ sizeLine:=by rw [lX,q1.size_eq,pairsOf_size];exact ls
 refine wpAny_bind (seqEpoch_at h3 rfl (wpAny_bind (listUpdate_at h3 rfl ?_ (hsz2:=Nat.le_succ_of_le sz))))
 rw [q2]
 simp only [bne_self_eq_false,nq,if_false]
 obtain ⟨ms,m1,m2,m3⟩:=sorted_out hI q1 q3
 exact wpAny_pure (h _ ms m1 m2 m3)
end
end Srt
namespace Stt
open PySem SetTable
def Ris (xs:Array Nat):Prop:=∀ i j (hi:i < xs.size) (hj:j < xs.size),i < j→xs[i] < xs[j]
theorem Aw {xs:Array Nat} (r:Ris xs) (j:Nat):∀ fuel lo hi,lo ≤ hi→hi ≤ xs.size→hi - lo ≤ fuel→(∀ i (h:i < xs.size),i < lo→xs[i] < j)→(∀ i (h:i < xs.size),hi ≤ i→j ≤ xs[i]) →
 below.go xs j fuel lo hi ≤ xs.size∧(∀ i (h:i < xs.size),i < below.go xs j fuel lo hi→xs[i] < j)∧∀ i (h:i < xs.size),below.go xs j fuel lo hi ≤ i→j ≤ xs[i]:=by
 intro fuel
 induction fuel with
 | zero =>
  intro lo hi h1 h2 h3 h4 h5
  rw [below.go]
  have:lo=hi:=by omega
  exact ⟨by omega,h4,fun i h hl=>h5 i h (by omega)⟩
 | succ fuel ih =>
  intro lo hi h1 h2 h3 h4 h5
  rw [below.go]
  by_cases c:lo < hi
  ·rw [if_pos c]
   have hm:(lo + hi) / 2 < xs.size:=by omega
   have g:xs.getD ((lo + hi) / 2) j=xs[(lo + hi) / 2]:=by simp [iD,hm]
   dsimp only
   rw [g]
   by_cases d:xs[(lo + hi) / 2] < j
   ·rw [if_pos d]
    refine ih _ _ (by omega) h2 (by omega) (fun i h hi'=>?_) h5
    by_cases e:i=(lo + hi) / 2
    ·subst e;exact d
    ·have:=r i ((lo + hi) / 2) h hm (by omega)
     omega
   ·rw [if_neg d]
    refine ih _ _ (by omega) (by omega) (by omega) h4 (fun i h hi'=>?_)
    by_cases e:i=(lo + hi) / 2
    ·subst e;omega
    ·have:=r ((lo + hi) / 2) i hm h (by omega)
     omega
  ·rw [if_neg c]
   have:lo=hi:=by omega
   exact ⟨by omega,h4,fun i h hl=>h5 i h (by omega)⟩
theorem q_ {xs:Array Nat} (r:Ris xs) (j:Nat):below xs j ≤ xs.size∧(∀ i (h:i < xs.size),i < below xs j→xs[i] < j)∧∀ i (h:i < xs.size),below xs j ≤ i→j ≤ xs[i]:=by
 unfold below
 exact Aw r j xs.size 0 xs.size (d9 _) (aO _) (by omega) (fun i h hi=>by omega) (fun i h hi=>by omega)
structure TOk (t:SetTable) (n:Nat):Prop where
 ris:Ris t.place
 mx:∀ i (h:i < t.place.size),t.place[i] ≤ t.mask
 sz:t.place.size=n
 dm:t.dummies = #[]
 pl:t.plain=true
theorem DR {t:SetTable} {n:Nat} (k:TOk t n) (j:Nat):(j ∉ t.place∧t.slot j = .empty)∨(j ∈ t.place∧∃ i,t.slot j = .live i):=by
 obtain ⟨b1,b2,b3⟩:=q_ k.ris j
 have he:has t.dummies j=false:=by rw [k.dm];rfl
 unfold SetTable.slot
 dsimp only
 by_cases c:t.place[below t.place j]? = some j
 ·right
  rw [if_pos (by rw [c];simp)]
  exact ⟨Array.mem_of_getElem? c,_,rfl⟩
 ·left
  rw [if_neg (by simpa using c),he]
  refine ⟨fun m=>c ?_,rfl⟩
  obtain ⟨i,hi,e⟩:=lY m
  have h1:¬ i < below t.place j:=fun z=>by have:=b2 i hi z;omega
  have h2:below t.place j=i:=by
   rcases dM (below t.place j) i with z | z
   ·have:=b3 (below t.place j) (by omega) (aO _)
    have:=k.ris (below t.place j) i (by omega) hi z
    omega
   ·omega
  rw [h2,bh hi,e]
end Stt
namespace Stt
open PySem SetTable
def lcg (mask i:Nat):Nat:=(i * 5 + 1) % (mask + 1)
def orb (mask:Nat):Nat→Nat→List Nat
 | 0,_=>[]
 | n + 1,i=>i :: orb mask n (lcg mask i)
def itr (f:Nat→Nat):Nat→Nat→Nat
 | 0,i=>i
 | n + 1,i=>itr f n (f i)
theorem pX (f:Nat→Nat):∀ (a b i:Nat),itr f (a + b) i=itr f b (itr f a i)
 | 0,b,i=>by rw [cY];rfl
 | a + 1,b,i=>by
  rw [show a + 1 + b=(a + b) + 1 by omega]
  show itr f (a + b) (f i)=itr f b (itr f a (f i))
  exact pX f a b (f i)
theorem uf {mask:Nat}:∀ {n i s:Nat},s ∈ orb mask n i→∃ a,a < n∧itr (lcg mask) a i=s
 | 0,_,_,h=>by cases h
 | n + 1,i,s,h=>by
  rcases aQ.mp h with rfl | z
  ·exact ⟨0,by omega,rfl⟩
  ·obtain ⟨a,h1,h2⟩:=uf z
   exact ⟨a + 1,by omega,h2⟩
def Cyc (mask:Nat):Prop:=(∀ s,s ≤ mask→s ∈ orb mask (mask + 1) 0)∧itr (lcg mask) (mask + 1) 0=0
def Lb (mask:Nat):Bool:=((aW (mask + 1)).all fun s=>(orb mask (mask + 1) 0).contains s) && itr (lcg mask) (mask + 1) 0 == 0
theorem ug {mask:Nat} (h:Lb mask=true):Cyc mask:=by
 unfold Lb at h
 rw [aU] at h
 refine ⟨fun s hs=>?_,by simpa using h.2⟩
 have:=List.all_eq_true.mp h.1 s (bA.mpr (by omega))
 simpa using this
theorem NP:Cyc 7:=ug (by decide +kernel)
theorem Ld:Cyc 31:=ug (by decide +kernel)
theorem Io:Cyc 127:=ug (by decide +kernel)
theorem Ip:Cyc 511:=ug (by decide +kernel)
theorem Cyc.all {mask:Nat} (c:Cyc mask) {i s:Nat} (hi:i ≤ mask) (hs:s ≤ mask):∃ n,n ≤ mask∧itr (lcg mask) n i=s:=by
 obtain ⟨a,a1,rfl⟩:=uf (c.1 i hi)
 obtain ⟨b,b1,rfl⟩:=uf (c.1 s hs)
 rcases dM b a with z | z
 ·refine ⟨b + (mask + 1) - a,by omega,?_⟩
  rw [← pX,show a + (b + (mask + 1) - a)=(mask + 1) + b by omega,pX,c.2]
 ·refine ⟨b - a,by omega,?_⟩
  rw [← pX,show a + (b - a)=b by omega]
def Lp (mask:Nat):Nat→Nat × Nat→Nat × Nat
 | 0,p=>p
 | n + 1,p=>Lp mask n (leap mask p.1 p.2)
theorem uh (mask:Nat):∀ (n:Nat) (p:Nat × Nat),Lp mask (n + 1) p=leap mask (Lp mask n p).1 (Lp mask n p).2
 | 0,_=>rfl
 | n + 1,p=>by
  show Lp mask (n + 1) (leap mask p.1 p.2)=_
  exact uh mask n _
theorem Ax (mask:Nat):∀ (n:Nat) (p:Nat × Nat),(Lp mask n p).2=p.2 / 32 ^ n
 | 0,p=>by show p.2=p.2 / 1;rw [Nat.div_one]
 | n + 1,p=>by
  rw [uh]
  show (Lp mask n p).2 / 32=_
  rw [Ax mask n p,Nat.div_div_eq_div_mul,← Nat.pow_succ]
theorem Ay (mask:Nat):∀ (n:Nat) (p:Nat × Nat),p.2=0→(Lp mask n p).1=itr (lcg mask) n p.1
 | 0,_,_=>rfl
 | n + 1,p,h=>by
  show (Lp mask n (leap mask p.1 p.2)).1=itr (lcg mask) n (lcg mask p.1)
  rw [Ay mask n _ (by show p.2 / 32=0;rw [h])]
  congr 1
  show (p.1 * 5 + 1 + p.2 / 32) % (mask + 1)=_
  rw [h]
  rfl
theorem Az (mask:Nat):∀ (n:Nat) (p:Nat × Nat),p.1 ≤ mask→(Lp mask n p).1 ≤ mask
 | 0,_,h=>h
 | n + 1,p,h=>by
  rw [uh]
  show (_ % (mask + 1)) ≤ mask
  have:=jM ((Lp mask n p).1 * 5 + 1 + (Lp mask n p).2 / 32) (show 0 < mask + 1 by omega)
  omega
theorem A_ (mask:Nat):∀ (a b:Nat) (p:Nat × Nat),Lp mask (a + b) p=Lp mask b (Lp mask a p)
 | 0,b,p=>by rw [cY];rfl
 | a + 1,b,p=>by
  rw [show a + 1 + b=(a + b) + 1 by omega]
  exact A_ mask a b _
theorem DX (h:Int):bits h < 2 ^ 64:=by
 unfold bits
 have:=eE h (show (0:Int) < 2 ^ 64 by decide)
 have:=gB h (show (2 ^ 64:Int) ≠ 0 by decide)
 omega
theorem Ba {mask:Nat} (c:Cyc mask) (h:Int) {s:Nat} (hs:s ≤ mask):∃ n,n ≤ mask + 13∧(Lp mask n (bits h % (mask + 1),bits h)).1=s:=by
 have l0:bits h % (mask + 1) ≤ mask:=by
  have:=jM (bits h) (show 0 < mask + 1 by omega)
  omega
 have z:(Lp mask 13 (bits h % (mask + 1),bits h)).2=0:=by
  rw [Ax]
  have:=DX h
  exact Nat.div_eq_of_lt (Nat.lt_trans this (by decide))
 obtain ⟨n,n1,n2⟩:=c.all (Az mask 13 (bits h % (mask + 1),bits h) l0) hs
 refine ⟨13 + n,by omega,?_⟩
 rw [A_,Ay mask n _ z]
 exact n2
theorem mV {mask i:Nat} (h:i ≤ mask):i ≤ runEnd mask i∧runEnd mask i ≤ mask∧runEnd mask i ≤ i + 9:=by
 unfold runEnd
 split <;> omega
end Stt
namespace Stt
open PySem SetTable
def adv (t:SetTable):Nat→Probe→Probe
 | 0,p=>p
 | n + 1,p=>adv t n (t.advance p)
theorem um (t:SetTable):∀ (a b:Nat) (p:Probe),adv t (a + b) p=adv t b (adv t a p)
 | 0,b,p=>by rw [cY];rfl
 | a + 1,b,p=>by
  rw [show a + 1 + b=(a + b) + 1 by omega]
  exact um t a b _
theorem wU (t:SetTable):∀ (m j i q:Nat) (d:Option Nat),adv t m ⟨j,m,i,q,d⟩=⟨j + m,0,i,q,d⟩
 | 0,j,i,q,d=>rfl
 | m + 1,j,i,q,d=>by
  show adv t m (t.advance ⟨j,m + 1,i,q,d⟩)=_
  have:t.advance ⟨j,m + 1,i,q,d⟩=⟨j + 1,m,i,q,d⟩:=by
   unfold advance
   rw [if_pos (Nat.succ_pos m)]
   rfl
  rw [this,wU t m (j + 1) i q d,show j + 1 + m=j + (m + 1) by omega]
def stt (t:SetTable) (p:Nat × Nat) (d:Option Nat):Probe:=⟨p.1,runEnd t.mask p.1 - p.1,p.1,p.2,d⟩
theorem Bb (t:SetTable) (p:Nat × Nat) (d:Option Nat) (hp:p.1 ≤ t.mask):∃ k,k ≤ 10∧adv t k (stt t p d)=stt t (leap t.mask p.1 p.2) d:=by
 obtain ⟨h1,h2,h3⟩:=mV hp
 refine ⟨(runEnd t.mask p.1 - p.1) + 1,by omega,?_⟩
 rw [um]
 unfold stt
 rw [wU]
 rw [show ∀ q:Probe,adv t 1 q=t.advance q from fun _=>rfl]
 unfold advance
 rw [if_neg (gF 0)]
theorem Bc (t:SetTable) (d:Option Nat):∀ (n:Nat) (p:Nat × Nat),p.1 ≤ t.mask→∃ k,k ≤ 10 * n∧adv t k (stt t p d)=stt t (Lp t.mask n p) d
 | 0,p,_=>⟨0,aO _,rfl⟩
 | n + 1,p,h=>by
  obtain ⟨k,k1,k2⟩:=Bb t p d h
  obtain ⟨m,m1,m2⟩:=Bc t d n (leap t.mask p.1 p.2) (by
   have:=Az t.mask 1 p h
   exact this)
  refine ⟨k + m,by omega,?_⟩
  rw [um,k2,m2]
  rfl
theorem yD (t:SetTable) (p:Probe):(t.advance p).dummy=p.dummy:=by
 unfold advance
 split <;> rfl
def Pin (t:SetTable) (p:Probe):Prop:=p.j + p.more ≤ t.mask
theorem Pin.adv {t:SetTable} {p:Probe} (h:Pin t p):Pin t (t.advance p):=by
 unfold Pin at *
 unfold advance
 by_cases c:p.more > 0
 ·rw [if_pos c]
  show p.j + 1 + (p.more - 1) ≤ _
  omega
 ·rw [if_neg c]
  have l:(leap t.mask p.i p.perturb).1 ≤ t.mask:=by
   show (_ % (t.mask + 1)) ≤ t.mask
   have:=jM (p.i * 5 + 1 + p.perturb / 32) (show 0 < t.mask + 1 by omega)
   omega
  obtain ⟨h1,h2,h3⟩:=mV l
  show (leap t.mask p.i p.perturb).1 + (runEnd t.mask (leap t.mask p.i p.perturb).1 - (leap t.mask p.i p.perturb).1) ≤ _
  omega
theorem Bd {t:SetTable} {n:Nat} (k:TOk t n) {f:Nat→Int} {h:Int} (hf:∀ i,(f i == h)=false):∀ (fuel:Nat) (p:Probe),Pin t p→p.dummy=none→(∃ m,m < fuel∧(adv t m p).j ∉ t.place) →
 ∃ s,probe.go t f h fuel p=some (.empty s none)∧s ∉ t.place∧s ≤ t.mask:=by
 intro fuel
 induction fuel with
 | zero=>rintro p _ _ ⟨m,h1,_⟩;omega
 | succ fuel ih =>
  rintro p hp hd ⟨m,h1,h2⟩
  rw [probe.go]
  rcases DR k p.j with ⟨z1,z2⟩ | ⟨z1,i,z2⟩
  ·rw [z2]
   dsimp only
   refine ⟨p.j,by rw [hd],z1,?_⟩
   unfold Pin at hp
   omega
  ·rw [z2]
   dsimp only
   rw [hf,if_neg aK]
   cases m with
   | zero=>exact absurd z1 h2
   | succ m=>exact ih _ hp.adv (by rw [yD];exact hd) ⟨m,by omega,h2⟩
theorem DY {t:SetTable} {n:Nat} (k:TOk t n) (c:Cyc t.mask) (hn:n ≤ t.mask) (h:Int):∃ s,t.freeSlot h=some (s,false)∧s ∉ t.place∧s ≤ t.mask:=by
 obtain ⟨e,e1,e2⟩:∃ e,e ≤ t.mask∧e ∉ t.place:=by
  apply Classical.byContradiction
  intro no
  have sub:aW (t.mask + 1) ⊆ t.place.toList:=fun j hj=>by
   apply Classical.byContradiction
   intro z
   exact no ⟨j,by have:=bA.mp hj;omega,fun q=>z (by simpa using q)⟩
  have:=List.Nodup.length_le_of_subset kI sub
  rw [cP,aF,k.sz] at this
  omega
 obtain ⟨m,m1,m2⟩:=Ba c h e1
 have l0:bits h % (t.mask + 1) ≤ t.mask:=by
  have:=jM (bits h) (show 0 < t.mask + 1 by omega)
  omega
 obtain ⟨q,q1,q2⟩:=Bc t none m (bits h % (t.mask + 1),bits h) l0
 obtain ⟨r1,r2,r3⟩:=mV l0
 obtain ⟨s,s1,s2,s3⟩:=Bd k (f:=fun _=>h + 1) (h:=h) (fun _=>by rw [beq_eq_false_iff_ne];omega) (10 * turns t.mask) (t.probeStart h) (by
  unfold Pin probeStart
  show bits h % (t.mask + 1) + (runEnd t.mask (bits h % (t.mask + 1)) - bits h % (t.mask + 1)) ≤ _
  omega) rfl ⟨q,by unfold turns;omega,by
   have:adv t q (t.probeStart h)=_:=q2
   rw [this]
   show (Lp t.mask m (bits h % (t.mask + 1),bits h)).1 ∉ _
   rw [m2]
   exact e2⟩
 refine ⟨s,?_,s2,s3⟩
 unfold freeSlot probe
 rw [s1]
 rfl
theorem u_ {α:Type} (xs:Array α) (p:Nat) (x:α) (h:p ≤ xs.size):(insertAt xs p x).toList=xs.toList.take p++x :: xs.toList.drop p:=by
 unfold insertAt
 simp [jq,h_]
 exact bW (by rw [bV,aF];exact aO _)
theorem rm {xs:Array Nat}:Ris xs↔xs.toList.Pairwise (· < ·):=by
 rw [cO]
 constructor
 ·intro h i j hi hj hl
  exact h i j (by simpa using hi) (by simpa using hj) hl
 ·intro h i j hi hj hl
  exact h i j (by simpa using hi) (by simpa using hj) hl
theorem Ir {t:SetTable} {n:Nat} (k:TOk t n) {s:Nat} (h1:s ∉ t.place) (h2:s ≤ t.mask):TOk (t.put s).1 (n + 1)∧(t.put s).1.mask=t.mask∧(t.put s).1.led=t.led∧(t.put s).2 ≤ n:=by
 obtain ⟨b1,b2,b3⟩:=q_ k.ris s
 have lst:(insertAt t.place (below t.place s) s).toList=t.place.toList.take (below t.place s)++s :: t.place.toList.drop (below t.place s):=u_ _ _ _ b1
 have he:has t.dummies s=false:=by rw [k.dm];rfl
 have e:(t.put s).1 = { t with place:=insertAt t.place (below t.place s) s,dummies:=t.dummies }:=by
  unfold put
  dsimp only
  rw [he,if_neg aK]
 have szz:(insertAt t.place (below t.place s) s).size=n + 1:=by
  rw [← aF,lst,aP,bL,bZ,bV,aF,k.sz]
  have:=k.sz
  omega
 have mm:∀ x,x ∈ insertAt t.place (below t.place s) s→x ≤ t.mask:=fun x hx=>by
  have hx:x ∈ (insertAt t.place (below t.place s) s).toList:=by simpa using hx
  rw [lst] at hx
  have old:x ∈ t.place.toList→x ≤ t.mask:=fun q=>by
   obtain ⟨i,hi,e⟩:=lY (show x ∈ t.place by simpa using q)
   rw [← e]
   exact k.mx i hi
  rcases bD.mp hx with z | z
  ·exact old (eY z)
  ·rcases aQ.mp z with rfl | z
   ·exact h2
   ·exact old (eX z)
 rw [e]
 refine ⟨⟨?_,fun i hi=>mm _ (nR hi),szz,k.dm,k.pl⟩,rfl,rfl,?_⟩
 ·show Ris (insertAt t.place (below t.place s) s)
  rw [rm,lst]
  have pw:=rm.mp k.ris
  have lo:∀ x ∈ t.place.toList.take (below t.place s),x < s:=fun x hx=>by
   obtain ⟨i,hi,e⟩:=dB hx
   rw [bZ,aF] at hi
   rw [nP] at e
   rw [← e]
   exact b2 i (by omega) (by omega)
  have hi':∀ x ∈ t.place.toList.drop (below t.place s),s < x:=fun x hx=>by
   obtain ⟨i,hi,e⟩:=dB hx
   rw [bV,aF] at hi
   rw [jZ] at e
   have g:=b3 (below t.place s + i) (by omega) (by omega)
   have:x ∈ t.place:=by simpa using eX hx
   have e':t.place[below t.place s + i]'(by omega)=x:=by simpa using e
   rw [e'] at g
   rcases nj g with z | z
   ·exact z
   ·exact absurd (z ▸ this) h1
  refine aG.mpr ⟨pw.sublist (nM _ _),bG.mpr ⟨hi',pw.sublist (List.drop_sublist _ _)⟩,fun a ha b hb=>?_⟩
  rcases aQ.mp hb with rfl | z
  ·exact lo a ha
  ·have:=lo a ha
   have:=hi' b z
   omega
 ·show below t.place s ≤ n
  have:=k.sz
  omega
end Stt
namespace Stt
open PySem SetTable
structure Own (owner:Array (Option Nat)) (mask k:Nat):Prop where
 sz:owner.size=mask + 1
 all:∀ v,v < k→∃ j:Nat,owner[j]? = some (some v)
 lt:∀ (j v:Nat),owner[j]? = some (some v)→v < k
 inj:∀ (i j v:Nat),owner[i]? = some (some v)→owner[j]? = some (some v)→i=j
theorem Bf {mask:Nat} {owner:Array (Option Nat)}:∀ (fuel:Nat) (p:Nat × Nat),p.1 ≤ mask→(∃ n,n < fuel∧owner[(Lp mask n p).1]? = some none)→owner.size=mask + 1 →
 ∃ j,layClean.free mask owner fuel p.1 p.2=some j∧owner[j]? = some none:=by
 intro fuel
 induction fuel with
 | zero=>rintro p _ ⟨n,h,_⟩;omega
 | succ fuel ih =>
  rintro p hp ⟨n,h1,h2⟩ hs
  rw [layClean.free]
  obtain ⟨r1,r2,r3⟩:=mV hp
  cases e:(aW (runEnd mask p.1 + 1 - p.1)).find? fun k=>(owner.getD (p.1 + k) (some 0)).isNone with
  | some k =>
   refine ⟨p.1 + k,rfl,?_⟩
   have h3:=List.find?_some e
   have h4:=bA.mp (jX e)
   have hb:p.1 + k < owner.size:=by omega
   have g:owner.getD (p.1 + k) (some 0)=owner[p.1 + k]:=by simp [iD,hb]
   rw [g] at h3
   rw [bh hb]
   cases z:owner[p.1 + k] with
   | none=>rfl
   | some v=>rw [z] at h3;cases h3
  | none =>
   cases n with
   | zero =>
    exfalso
    have h2:owner[p.1]? = some none:=h2
    have:=d_.mp e 0 (bA.mpr (by omega))
    have hb:p.1 < owner.size:=by omega
    rw [bh hb] at h2
    have g:owner.getD (p.1 + 0) (some 0)=none:=by
     rw [jC]
     simp [iD,hb]
     injection h2
    rw [g] at this
    exact this rfl
   | succ n =>
    have:=ih (leap mask p.1 p.2) (by exact Az mask 1 p hp) ⟨n,by omega,h2⟩ hs
    exact this
theorem yE {owner:Array (Option Nat)} {mask k:Nat} (o:Own owner mask k) (hk:k ≤ mask):∃ j,j ≤ mask∧owner[j]? = some none:=by
 apply Classical.byContradiction
 intro no
 have ex:∀ j,j ≤ mask→∃ v,owner[j]? = some (some v):=fun j hj=>by
  have hb:j < owner.size:=by rw [o.sz];omega
  cases z:owner[j] with
  | none=>exact absurd ⟨j,hj,by rw [bh hb,z]⟩ no
  | some v=>exact ⟨v,by rw [bh hb,z]⟩
 let f:Nat→Nat:=fun j=>((owner[j]?).getD none).getD 0
 have fs:∀ j,j ≤ mask→owner[j]? = some (some (f j)):=fun j hj=>by
  obtain ⟨v,e⟩:=ex j hj
  show owner[j]? = some (some (((owner[j]?).getD none).getD 0))
  rw [e]
  rfl
 have nd:((aW (mask + 1)).map f).Nodup:=by
  refine eZ.mpr (List.Pairwise.imp_of_mem ?_ kI)
  intro a b ha hb ne e
  have ha:=bA.mp ha
  have hb:=bA.mp hb
  exact ne (o.inj a b (f a) (fs a (by omega)) (by rw [e];exact fs b (by omega)))
 have sub:((aW (mask + 1)).map f) ⊆ aW k:=fun v hv=>by
  obtain ⟨j,hj,rfl⟩:=bQ.mp hv
  exact bA.mpr (o.lt j _ (fs j (by have:=bA.mp hj;omega)))
 have:=List.Nodup.length_le_of_subset nd sub
 rw [aH,cP,cP] at this
 omega
theorem D_ {owner:Array (Option Nat)} {mask k j:Nat} (o:Own owner mask k) (hj:owner[j]? = some none):Own (owner.setIfInBounds j (some k)) mask (k + 1):=by
 have hb:j < owner.size:=by
  rcases dM j owner.size with z | z
  ·exact z
  ·rw [dj z] at hj;cases hj
 have g:∀ i,(owner.setIfInBounds j (some k))[i]? = if i=j then some (some k) else owner[i]?:=fun i=>by
  rw [jy]
  by_cases c:j=i
  ·subst c
   rw [if_pos rfl,if_pos hb,if_pos rfl]
  ·rw [if_neg c,if_neg (fun z=>c z.symm)]
 refine ⟨by rw [iu];exact o.sz,fun v hv=>?_,fun i v h=>?_,fun a b v h1 h2=>?_⟩
 ·by_cases c:v=k
  ·exact ⟨j,by rw [g,if_pos rfl,c]⟩
  ·obtain ⟨i,e⟩:=o.all v (by omega)
   refine ⟨i,?_⟩
   rw [g,if_neg (fun z=>by rw [z,hj] at e;cases e)]
   exact e
 ·rw [g] at h
  by_cases c:i=j
  ·rw [if_pos c] at h
   cases h
   omega
  ·rw [if_neg c] at h
   have:=o.lt i v h
   omega
 ·rw [g] at h1 h2
  by_cases c:a=j
  ·by_cases d:b=j
   ·rw [c,d]
   ·rw [if_pos c] at h1
    rw [if_neg d] at h2
    cases h1
    have:=o.lt b k h2
    omega
  ·rw [if_neg c] at h1
   by_cases d:b=j
   ·rw [if_pos d] at h2
    cases h2
    have:=o.lt a k h1
    omega
   ·rw [if_neg d] at h2
    exact o.inj a b v h1 h2
theorem vd {mask:Nat} (c:Cyc mask):∀ (l:List Int) (owner:Array (Option Nat)) (k:Nat),Own owner mask k→k + l.length ≤ mask →
 ∃ owner',l.foldl (fun (acc:Option (Array (Option Nat) × Nat)) h=>acc.bind fun q=>(layClean.free mask q.1 (turns mask) (bits h % (mask + 1)) (bits h)).bind fun j=>some (q.1.setIfInBounds j (some q.2),q.2 + 1)) (some (owner,k))=some (owner',k + l.length)∧Own owner' mask (k + l.length)
 | [],owner,k,o,_=>⟨owner,rfl,o⟩
 | h :: l,owner,k,o,hl=>by
  rw [bL] at hl
  obtain ⟨e,e1,e2⟩:=yE o (by omega)
  obtain ⟨n,n1,n2⟩:=Ba c h e1
  have l0:bits h % (mask + 1) ≤ mask:=by
   have:=jM (bits h) (show 0 < mask + 1 by omega)
   omega
  obtain ⟨j,j1,j2⟩:=Bf (turns mask) (bits h % (mask + 1),bits h) l0 ⟨n,by unfold turns;omega,by rw [n2];exact e2⟩ o.sz
  obtain ⟨owner',f1,f2⟩:=vd c l _ (k + 1) (D_ o j2) (by omega)
  refine ⟨owner',?_,by rw [bL,show k + (l.length + 1)=k + 1 + l.length by omega];exact f2⟩
  rw [lO,aD]
  dsimp only at j1 ⊢
  rw [j1,aD,f1,bL,show k + (l.length + 1)=k + 1 + l.length by omega]
theorem NQ (mask:Nat):Own (Array.replicate (mask + 1) none) mask 0:=by
 refine ⟨Array.size_replicate,fun v hv=>by omega,fun j v h=>?_,fun i j v h=>?_⟩
 ·rw [kh] at h
  split at h <;> cases h
 ·rw [kh] at h
  split at h <;> cases h
theorem Iu {mask:Nat} (c:Cyc mask) (hs:Array Int) (hl:hs.size ≤ mask):∃ owner,layClean mask hs=some owner∧Own owner mask hs.size:=by
 obtain ⟨owner,e,o⟩:=vd c hs.toList _ 0 (NQ mask) (by rw [aF];omega)
 rw [cY,aF] at o e
 refine ⟨owner,?_,o⟩
 unfold layClean
 rw [← Array.foldl_toList]
 have:(fun (acc:Option (Array (Option Nat) × Nat)) (h:Int)=>(do
  let (owner,k) ← acc
  let j ← layClean.free mask owner (turns mask) (bits h % (mask + 1)) (bits h)
  pure (owner.setIfInBounds j (some k),k + 1):Option (Array (Option Nat) × Nat)))=fun acc h=>acc.bind fun q=>(layClean.free mask q.1 (turns mask) (bits h % (mask + 1)) (bits h)).bind fun j=>some (q.1.setIfInBounds j (some q.2),q.2 + 1):=rfl
 rw [this,e]
 rfl
theorem Ea {mask finger moves:Nat} {led:Bool} (c:Cyc mask) (hs:Array Int) (hl:hs.size ≤ mask) :
 ∃ t order,laid mask finger moves led true hs=some (t,order)∧TOk t hs.size∧t.mask=mask∧t.led=led∧order.toList.Perm (aW hs.size):=by
 obtain ⟨owner,e,o⟩:=Iu c hs hl
 have fm:∀ j p,(owner.getD j none).map (fun v=>(j,v))=some p→p.1=j∧owner[j]? = some (some p.2):=fun j p h=>by
  by_cases hb:j < owner.size
  ·have g:owner.getD j none=owner[j]:=by simp [iD,hb]
   rw [g] at h
   rw [bh hb]
   cases z:owner[j] with
   | none=>rw [z] at h;cases h
   | some v=>rw [z] at h;cases h;exact ⟨rfl,rfl⟩
  ·have g:owner.getD j none=none:=by simp [iD,hb]
   rw [g] at h
   cases h
 let live:=(aW (mask + 1)).filterMap fun j=>(owner.getD j none).map (fun v=>(j,v))
 have pw:live.Pairwise fun p q=>p.1 < q.1∧p.2 ≠ q.2:=by
  refine List.Pairwise.filterMap _ ?_ gj
  intro a a' hl b hb b' hb'
  obtain ⟨x1,x2⟩:=fm a b hb
  obtain ⟨y1,y2⟩:=fm a' b' hb'
  refine ⟨by omega,fun z=>?_⟩
  rw [z] at x2
  have:=o.inj a a' b'.2 x2 y2
  omega
 have mem:∀ v,v ∈ live.map (·.2)↔v < hs.size:=fun v=>by
  constructor
  ·intro h
   obtain ⟨p,hp,rfl⟩:=bQ.mp h
   obtain ⟨j,_,hj⟩:=gb.mp hp
   exact o.lt j _ (fm j p hj).2
  ·intro h
   obtain ⟨j,hj⟩:=o.all v h
   have hb:j < owner.size:=by
    rcases dM j owner.size with z | z
    ·exact z
    ·rw [dj z] at hj;cases hj
   refine bQ.mpr ⟨(j,v),gb.mpr ⟨j,bA.mpr (by rw [← o.sz];exact hb),?_⟩,rfl⟩
   have g:owner.getD j none=owner[j]:=by simp [iD,hb]
   rw [bh hb] at hj
   injection hj with hj
   rw [g,hj]
   rfl
 have nd:(live.map (·.2)).Nodup:=eZ.mpr (pw.imp fun h=>h.2)
 have perm:(live.map (·.2)).Perm (aW hs.size):=(jN nd kI).mpr fun v=>by rw [mem,bA]
 refine ⟨{ mask,place:=(live.map (·.1)).toArray,dummies:=#[],finger,led,moves,plain:=true },(live.map (·.2)).toArray,?_,?_,rfl,rfl,?_⟩
 ·unfold laid
  rw [e]
  rfl
 ·refine ⟨?_,fun i hi=>?_,?_,rfl,rfl⟩
  ·rw [rm]
   show ((live.map (·.1)).toArray).toList.Pairwise _
   exact eZ.mpr (pw.imp fun h=>h.1)
  ·have hm:(live.map (·.1)).toArray[i] ∈ (live.map (·.1)):=by
    have:=nR (xs:=(live.map (·.1)).toArray) hi
    simpa using this
   obtain ⟨p,hp,ep⟩:=bQ.mp hm
   obtain ⟨j,hj1,hj2⟩:=gb.mp hp
   have:=(fm j p hj2).1
   have:=bA.mp hj1
   show (live.map (·.1)).toArray[i] ≤ mask
   omega
  ·show (live.map (·.1)).toArray.size=hs.size
   rw [aY,aH]
   have:=perm.length_eq
   rwa [aH,cP] at this
 ·exact perm
theorem sV {α:Type}:∀ l:List α,(aW l.length).filterMap (fun j=>l[j]?)=l
 | []=>rfl
 | a :: l=>by
  rw [bL,gk,ig,List.filterMap_map]
  show a :: List.filterMap (fun j=>l[j]?) (aW l.length)=_
  rw [sV l]
theorem vZ {α:Type} (es:Array α):(aW es.size).filterMap (es[·]?)=es.toList:=by
 have e:=sV es.toList
 rw [aF] at e
 have f:(fun j:Nat=>es.toList[j]?)=fun j:Nat=>es[j]?:=by
  funext j
  simp
 rw [f] at e
 exact e
theorem Bg {t:SetTable} {n wanted:Nat} (k:TOk t n) {es:Array (Int × Value)} (hn:es.size=n) (c:Cyc (sizeAbove wanted - 1)) (hl:n ≤ sizeAbove wanted - 1) :
 ∃ es' t',relayAll t es wanted=(es',t',false)∧TOk t' n∧t'.mask=sizeAbove wanted - 1∧t'.led=t.led∧es'.toList.Perm es.toList∧t'.fits es'.size=true:=by
 obtain ⟨t',order,e,k',m',l',p'⟩:=Ea (finger:=t.finger) (moves:=t.movedTo (sizeAbove wanted - 1)) (led:=t.led) c (es.map (·.1)) (by rw [lX];omega)
 rw [lX,hn] at k' p'
 have fp:(order.filterMap (es[·]?)).toList.Perm es.toList:=by
  rw [Array.toList_filterMap,← vZ es,hn]
  exact p'.filterMap _
 have fz:(order.filterMap (es[·]?)).size=n:=by
  have:=fp.length_eq
  rw [aF,aF,hn] at this
  exact this
 have ft:t'.fits n=true:=by
  unfold SetTable.fits SetTable.fill
  rw [k'.sz,k'.dm,m',aU]
  refine ⟨by simp,dTr ?_⟩
  show n + 0 ≤ _
  omega
 refine ⟨order.filterMap (es[·]?),t',?_,k',m',l',fp,by rw [fz];exact ft⟩
 unfold relayAll relaid
 rw [k.pl,e]
 dsimp only
 have cv:coversAll order es.size=true:=by
  unfold coversAll
  rw [hn]
  exact List.isPerm_iff.mpr p'
 rw [cv,fz,ft]
 rfl
end Stt
namespace Stt
open PySem
def keyOf:Int × Value→Int
 | (_,.int k _)=>k
 | _=>0
def Gm (mask n:Nat):Prop:=(mask=7∧n ≤ 4)∨(mask=31∧n ≤ 18)∨(mask=127∧n ≤ 76)∨(mask=511∧n ≤ 306)
theorem Gm.cyc {mask n:Nat} (h:Gm mask n):Cyc mask:=by
 rcases h with ⟨rfl,_⟩ | ⟨rfl,_⟩ | ⟨rfl,_⟩ | ⟨rfl,_⟩
 ·exact NP
 ·exact Ld
 ·exact Io
 ·exact Ip
theorem Gm.lt {mask n:Nat} (h:Gm mask n):n < mask:=by
 rcases h with ⟨rfl,_⟩ | ⟨rfl,_⟩ | ⟨rfl,_⟩ | ⟨rfl,_⟩ <;> omega
theorem fits_of {t:SetTable} {n:Nat} (k:TOk t n) (h:n ≤ t.mask):t.fits n=true:=by
 unfold SetTable.fits SetTable.fill
 rw [k.sz,k.dm,aU]
 refine ⟨by simp,dTr ?_⟩
 show n + 0 ≤ _
 omega
def pN (prog:Program) (w:World) (h:Heap) (a:Addr) (ns:List Int) (led:Bool):Prop :=
 ∃ o es ep t,h.get? a=some o∧o.ExactSet∧o.data = .set es ep t∧ElemsOf (intKind prog w) es.toList∧(es.toList.map keyOf).Nodup∧(∀ k,k ∈ es.toList.map keyOf↔k ∈ ns)∧TOk t es.size∧t.led=led∧Gm t.mask es.size
section
variable {prog:Program} {w:World} {A:Around} {E:Value→Shared→Prop} {s:Shared}
theorem wV {es:List (Int × Value)} (h:ElemsOf (intKind prog w) es) {e:Int × Value} (he:e ∈ es):∃ t,e.2 = .int (keyOf e) t:=by
 obtain ⟨⟨k,hk,_⟩,_⟩:=h e he
 obtain ⟨t,ht⟩:=Value.isInt_shape (show Value.isInt k e.2=true from hk)
 obtain ⟨x,y⟩:=e
 dsimp only at ht
 subst ht
 exact ⟨t,rfl⟩
theorem Bh {es:List (Int × Value)} (h:ElemsOf (intKind prog w) es) {e:Int × Value} (he:e ∈ es) (k:Int):(intKind prog w).is k e.2=true↔keyOf e=k:=by
 obtain ⟨t,ht⟩:=wV h he
 constructor
 ·intro z
  obtain ⟨u,hu⟩:=Value.isInt_shape (show Value.isInt k e.2=true from z)
  rw [ht] at hu
  injection hu
 ·intro z
  rw [ht,z]
  exact intKind_is _ _ _ _
theorem wW {h:Heap} {a:Addr} {o:Obj} {es es':Array (Int × Value)} {ep:Nat} {t t':SetTable} (ho:h.get? a=some o) (hd:o.data = .set es ep t):(h.update a (Obj.putSet es' t')).get? a=some { o with data:=.set es' (ep + 1) t' }:=by
 have e:=putSet_of es' t' hd
 have g:=Heap.get?_update_self (Obj.putSet es' t') ho (by rw [e];rfl)
 rwa [e] at g
theorem v5 {t:SetTable} {n:Nat} (k:TOk t n):t.tooFull=decide (n * 5 ≥ t.mask * 3):=by
 unfold SetTable.tooFull SetTable.fill
 rw [k.sz,k.dm]
 rfl
theorem Eb {mask n:Nat} (g:Gm mask n) (hn:n ≤ 300):(¬ (n + 1) * 5 ≥ mask * 3∧Gm mask (n + 1))∨((n + 1) * 5 ≥ mask * 3∧Gm (SetTable.sizeAbove (SetTable.grown (n + 1)) - 1) (n + 1)):=by
 rcases g with ⟨rfl,g⟩ | ⟨rfl,g⟩ | ⟨rfl,g⟩ | ⟨rfl,g⟩
 ·by_cases c:n=4
  ·subst c
   exact .inr ⟨by decide,.inr (.inl ⟨by decide,by decide⟩)⟩
  ·exact .inl ⟨by omega,.inl ⟨rfl,by omega⟩⟩
 ·by_cases c:n=18
  ·subst c
   exact .inr ⟨by decide,.inr (.inr (.inl ⟨by decide,by decide⟩))⟩
  ·exact .inl ⟨by omega,.inr (.inl ⟨rfl,by omega⟩)⟩
 ·by_cases c:n=76
  ·subst c
   exact .inr ⟨by decide,.inr (.inr (.inr ⟨by decide,by decide⟩))⟩
  ·exact .inl ⟨by omega,.inr (.inr (.inl ⟨rfl,by omega⟩))⟩
 ·exact .inl ⟨by omega,.inr (.inr (.inr ⟨rfl,by omega⟩))⟩
theorem Ec {t:SetTable} {es:Array (Int × Value)} (k:TOk t es.size) (g:Gm t.mask es.size) (h:Int) (x:Value) :
 ∃ es1 t1,layNew t es h x=(es1,t1,false,false)∧es1.toList.Perm (es.toList++[(h,x)])∧TOk t1 (es.size + 1)∧t1.mask=t.mask∧t1.led=t.led:=by
 obtain ⟨s,s1,s2,s3⟩:=DY k g.cyc (dJ g.lt) h
 obtain ⟨p1,p2,p3,p4⟩:=Ir k s2 s3
 have il:=u_ es (t.put s).2 (h,x) p4
 have sz:(SetTable.insertAt es (t.put s).2 (h,x)).size=es.size + 1:=by
  rw [← aF,il,aP,bL,bZ,bV,aF]
  omega
 have ft:(t.put s).1.fits (es.size + 1)=true:=fits_of p1 (by rw [p2];exact g.lt)
 refine ⟨SetTable.insertAt es (t.put s).2 (h,x),(t.put s).1,?_,?_,p1,p2,p3⟩
 ·unfold layNew
  rw [s1]
  show (_,SetTable.orStandIn (t.put s).1 (SetTable.insertAt es (t.put s).2 (h,x)).size,false,!(t.put s).1.fits (SetTable.insertAt es (t.put s).2 (h,x)).size)=_
  rw [sz,ft]
  unfold SetTable.orStandIn
  rw [if_pos ft]
  rfl
 ·rw [il]
  refine jf.trans ?_
  rw [cR]
  exact (List.perm_append_singleton _ _).symm
theorem Iv {a:Addr} {ns:List Int} {led:Bool} {k:Int} {tok:Tok} {Q:Bool→Shared→Prop} (hS:pN prog w s.heap a ns led) (hn:ns.length ≤ 300)
 (h:∀ h' b,Heap.SameBut a s.heap h'→pN prog w h' a (ns++[k]) led→Q b { s with heap:=h' }):wpAny (model prog w) A (setAddHashed a (.int k tok) ((intKind prog w).hash k)) Q E s:=by
 obtain ⟨o,es,ep,t,ho,hex,hd,hel,nd,mem,kt,hl,g⟩:=hS
 have hf:=fits_of kt (dJ g.lt)
 have sz:es.size ≤ 300:=by
  have:=List.Nodup.length_le_of_subset nd (fun x hx=>(mem x).mp hx)
  rw [aH,aF] at this
  omega
 have hb:es.size < scanBound:=gh sz (by decide)
 have hkey:(intKind prog w).is k (.int k tok)=true:=intKind_is _ _ _ _
 have hsc:(Value.int k tok).scannable=true:=rfl
 unfold setAddHashed setAddHashedIn
 refine wpAny_holding (wpAny_bind (wpAny_setState_of ho hd hf ?_))
 dsimp only
 rw [byScan_of hsc hb hel,if_pos rfl]
 unfold setAddByScan
 refine wpAny_bind (wpAny_bind (wpAny_rule (wpAny_bind (wpAny_setScan_of hkey ho hd hf hel ?_))))
 cases hr:List.findIdx? (fun e=>(intKind prog w).is k e.2) es.toList with
 | some j =>
  dsimp only
  obtain ⟨hj,hpj,_⟩:=List.findIdx?_eq_some_iff_getElem.mp hr
  have kin:k ∈ ns:=(mem k).mp (bQ.mpr ⟨_,gZ hj,(Bh hel (gZ hj) k).mp hpj⟩)
  have es':s = { s with heap:=s.heap }:=by cases s;rfl
  refine wpAny_pure (wpAny_pure ?_)
  rw [es']
  exact h s.heap false (Heap.SameBut.refl a s.heap) ⟨o,es,ep,t,ho,hex,hd,hel,nd,fun x=>by
   rw [mem,bD,aX]
   exact ⟨.inl,fun z=>by
    rcases z with z | rfl
    ·exact z
    ·exact kin⟩,kt,hl,g⟩
 | none =>
  dsimp only
  have knot:k ∉ es.toList.map keyOf:=fun z=>by
   obtain ⟨e,he,ek⟩:=bQ.mp z
   have z1:=List.findIdx?_eq_none_iff.mp hr e he
   rw [(Bh hel he k).mpr ek] at z1
   cases z1
  obtain ⟨es1,t1,e1,p1,k1,m1,l1⟩:=Ec kt g ((intKind prog w).hash k) (.int k tok)
  have s1:es1.size=es.size + 1:=by
   have:=p1.length_eq
   rwa [aF,aP,aF] at this
  have hel1:ElemsOf (intKind prog w) es1.toList:=(hel.push hkey hsc).perm p1
  have pm:(es1.toList.map keyOf).Perm (es.toList.map keyOf++[k]):=by
   have:=p1.map keyOf
   rwa [iz] at this
  have nd1:(es1.toList.map keyOf).Nodup:=pm.nodup_iff.mpr (List.nodup_append.mpr ⟨nd,dR _ _,fun x hx y hy z=>by
   rw [aX.mp hy] at z
   exact knot (z ▸ hx)⟩)
  have mem1:∀ x,x ∈ es1.toList.map keyOf↔x ∈ ns++[k]:=fun x=>by rw [pm.mem_iff,bD,bD,mem]
  have hb1:es1.size ≤ sizeLine:=fits_of_scanBound (by rw [s1];exact gh (Nat.succ_le_succ sz) (by decide))
  rw [e1]
  dsimp only
  refine wpAny_bind (wpAny_pure ?_)
  rw [k1.pl,if_pos rfl,hashByValue_scannable 8 hsc]
  refine wpAny_bind (wpAny_pure ?_)
  simp only [show plainKind (Value.int k tok)=true from rfl,if_true]
  show wpAny _ _ (storeSet a es1 t1 >>= _) _ _ s
  have sb1:=Heap.SameBut.update s.heap a (Obj.putSet es1 t1)
  have g1:(s.heap.update a (Obj.putSet es1 t1)).get? a=_:=wW ho hd
  refine wpAny_bind (wpAny_storeSet_of ho hd ?_ hb1)
  rw [v5 k1,s1,m1]
  rcases Eb g sz with ⟨c,g'⟩ | ⟨c,g'⟩
  ·rw [dFa c]
   show wpAny _ _ (pure (some true)) _ _ _
   refine wpAny_pure (wpAny_pure (h _ true sb1 ⟨_,es1,ep + 1,t1,g1,hex,rfl,hel1,nd1,mem1,by rw [s1];exact k1,l1.trans hl,by rw [s1,m1];exact g'⟩))
  ·rw [dTr c]
   obtain ⟨es2,t2,e2,k2,m2,l2,p2,f2⟩:=Bg k1 s1 g'.cyc (dJ g'.lt)
   have s2:es2.size=es.size + 1:=by
    have:=p2.length_eq
    rw [aF,aF,s1] at this
    exact this
   show wpAny _ _ (_ >>= fun _=>storeSet a (relayAll t1 es1 (SetTable.grown (es.size + 1))).1 (relayAll t1 es1 (SetTable.grown (es.size + 1))).2.1 >>= fun _=>pure (some true)) _ _ _
   rw [e2]
   refine wpAny_bind (wpAny_pure ?_)
   refine wpAny_bind (wpAny_storeSet_of g1 rfl ?_ (by rw [s2];rw [s1] at hb1;exact hb1))
   have pm2:=p2.map keyOf
   refine wpAny_pure (wpAny_pure (h _ true (sb1.trans (Heap.SameBut.update _ a _)) ⟨_,es2,ep + 1 + 1,t2,wW g1 rfl,hex,rfl,hel1.perm p2,pm2.nodup_iff.mpr nd1,fun x=>by rw [pm2.mem_iff,mem1],by rw [s2];exact k2,l2.trans (l1.trans hl),by rw [s2,m2];exact g'⟩))
end
end Stt
namespace Stt
open PySem PySem.Spec PyProof.Rows
section
variable {prog:Program} {w:World} {A:Around} {E:Value→Shared→Prop} {s:Shared}
theorem pN.keep {h h':Heap} {a:Addr} {ns:List Int} {led:Bool} (x:pN prog w h a ns led) (hk:∀ o,h.get? a=some o→h'.get? a=some o):pN prog w h' a ns led:=by
 obtain ⟨o,es,ep,t,ho,r⟩:=x
 exact ⟨o,es,ep,t,hk o ho,r⟩
theorem Ed {R:Result→Shared→Prop} {I S:Addr} {fp wr:List Addr} {P:Nat→Value→Prop} {St:Nat→Heap→Prop} {ns:List Int} {led:Bool} (W:Walks prog w A.in1 I fp wr ns.length P St) (hSf:S ∉ fp)
 (hP:∀ i v,P i v→∃ t,v = .int (ns.getD i 0) t) (hn:ns.length ≤ 300):∀ (k i:Nat) (s:Shared),ns.length - i=k→i ≤ ns.length→St i s.heap→pN prog w s.heap S (ns.take i) led →
  (∀ h' tk,(∀ b o,b ∉ S :: wr→s.heap.get? b=some o→h'.get? b=some o)→pN prog w h' S ns led→R (.ok (.ret .none)) { s with heap:=h',toks:=tk }) →
  codeAny (model prog w) A (.builtin "set.update.loop" ⟨[.ref S,.ref I],[]⟩) R s:=by
 have hSw:S ∉ wr:=fun z=>hSf (W.sub _ z)
 intro k
 induction k with
 | zero =>
  intro i s hk hi hst hS hR
  have hin:i=ns.length:=by omega
  subst hin
  rw [List.take_length] at hS
  refine codeAny_builtin F.entry_set_update_loop ?_
  rw [Around.under_plainId F.plain_set_update_loop _]
  show wpAny _ A.in1 (pyNext (.ref I) >>= _) _ _ s
  refine wpAny_bind (W.done s _ _ hst fun h' tk hk'=>?_)
  show wpAny _ A.in1 (ret Value.none) _ _ _
  exact wpAny_pure (hR h' tk (fun b o hb e=>hk' b o (fun z=>hb (aN _ z)) e) (hS.keep fun o e=>hk' S o hSw e))
 | succ k ih =>
  intro i s hk hi hst hS hR
  have hlt:i < ns.length:=by omega
  refine codeAny_builtin F.entry_set_update_loop ?_
  rw [Around.under_plainId F.plain_set_update_loop _]
  show wpAny _ A.in1 (pyNext (.ref I) >>= _) _ _ s
  refine wpAny_bind (W.item i s _ _ hlt hst fun v h' tk hv hst' hk'=>?_)
  obtain ⟨t,rfl⟩:=hP i v hv
  show wpAny _ A.in1 (holding [Value.int (ns.getD i 0) t] (setAdd S (.int (ns.getD i 0) t)) >>= _) _ _ _
  refine wpAny_bind (wpAny_holding ?_)
  unfold setAdd
  refine wpAny_holding (wpAny_bind ((intKind prog w).pyHash (k:=ns.getD i 0) (intKind_is _ _ _ _) ?_))
  have tk1:ns.take i++[ns.getD i 0]=ns.take (i + 1):=by
   rw [j4,jO,bC hlt]
   rfl
  refine Iv (s:={ s with heap:=h',toks:=tk + 1 }) (hS.keep fun o e=>hk' S o hSw e) (by rw [bZ];omega) fun h2 b sb hS2=>?_
  rw [tk1] at hS2
  refine wpAny_pure ⟨plainId_quiet F.plain_set_update_loop _,ih (i + 1) _ (by omega) hlt (W.frame _ h' _ hst' fun b hb o e=>?_) hS2 fun h3 tk3 hk3 hS3=>?_⟩
  ·show h2.get? b=some o
   rw [sb.2 b (fun z=>hSf (by rw [← z];exact hb))]
   exact e
  ·refine hR h3 tk3 (fun b o hb e=>hk3 b o hb ?_) hS3
   show h2.get? b=some o
   rw [sb.2 b (fun z=>hb (by rw [z];exact aM))]
   exact hk' b o (fun z=>hb (aN _ z)) e
def fresh0 (w:World):Obj:={ cls:=.type "set", dict:=none,data:=.set #[] 0 (.fresh 0 0 (!w.params.followText "set-order")) }
theorem Ef {h:Heap} {a:Addr} (e:h.get? a=some (fresh0 w)):pN prog w h a [] (!w.params.followText "set-order"):=by
 refine ⟨_,#[],0,_,e,⟨rfl,rfl,rfl⟩,rfl,?_,?_,?_,?_,rfl,?_⟩
 ·intro x hx;cases hx
 ·exact List.nodup_nil
 ·intro k;exact Iff.rfl
 ·exact ⟨fun i j hi _ _=>absurd hi (lQ _),fun i hi=>absurd hi (lQ _),rfl,rfl,rfl⟩
 ·exact .inl ⟨rfl,d9 _⟩
theorem Iw (x:Value) {Q₁:Value→Shared→Prop} (h:Q₁ (.ref s.heap.objs.size) { s with heap:=s.heap.push (fresh0 w) }) :
 codeAny (model prog w) A (.call (.builtin "set.__new__") ⟨[.type "set", x],[]⟩) (wants Q₁ E) s:=by
 refine codeAny_of_tree ?_
 show wpAny _ A.in1 (checkBuiltinCall "set.__new__" ⟨[.type "set", x],[]⟩ >>= fun _=>again (.builtin "set.__new__" ⟨[.type "set", x],[]⟩)) _ _ s
 refine wpAny_bind (wpAny_of_eq (F.newCall_set_1 x) (wpAny_pure ⟨plainId_quiet F.plain_set_new _,codeAny_builtin F.entry_set_new ?_⟩))
 rw [Around.under_plainId F.plain_set_new _]
 unfold Builtin.«set.__new__»
 unfold Builtin.Frozenset.newClass
 have hs1:=sub_set_self
 obtain ⟨hp,g,d,tk,os⟩:=s
 dsimp only at h ⊢
 wp_walk
 refine wpAny_askSetting (wpAny_pure ?_)
 dsimp only
 simp only [newObj]
 refine wpAny_bind (wpAny_alloc (wpAny_pure (wpAny_pure ?_)))
 exact h
end
end Stt
namespace Stt
open PySem PySem.Spec PyProof.Rows
section
variable {prog:Program} {w:World} {A:Around} {E:Value→Shared→Prop} {s:Shared}
theorem Eh {l a:Addr} {items:Array Value} {ns:List Int} {R:Value→Shared→Prop} (hh:A.handled=none) (hl:s.heap.IsList l items) (hi:IntsAre items.toList ns) (hn:ns.length ≤ 300) (ha:s.heap.get? a=some (fresh0 w)) (hla:l ≠ a)
 (h:∀ h' tk,pN prog w h' a ns (!w.params.followText "set-order")→(∀ b o,b ≠ a→s.heap.get? b=some o→h'.get? b=some o)→R .none { s with heap:=h',toks:=tk }) :
 codeAny (model prog w) A (.call (.builtin "set.__init__") ⟨[.ref a,.ref l],[]⟩) (wants R E) s:=by
 have hT:s.TypeIs (.ref a) "set" := ⟨_,ha,rfl⟩
 refine codeAny_call_builtin F.called_set.init.plain F.entry_set_init (check_set_init_1 hT ?_)
 obtain ⟨⟨ocls,odict,odata,oslots⟩,hol,hcl,nl,hdl⟩:=id hl
 dsimp only at hcl hdl
 subst hcl hdl
 have q1:=F.sub_list_set
 have q2:=F.sub_list_frozenset
 have q3:(Value.type "list" == Value.type "dict")=false:=by decide
 have ha':s.heap.get? a=some { cls:=.type "set", dict:=none,data:=.set #[] 0 (.fresh 0 0 (!w.params.followText "set-order")) }:=ha
 unfold Builtin.«set.__init__» Builtin.Frozenset.updateFrom
 unfold noKeywords
 generalize hPI:pyIter=PI
 wp_walk
 subst hPI
 refine wpAny_pyIter_list hl (wpAny_bind (wpAny_runValue ?_))
 have e1:items.size=ns.length:=by
  have:=IntsAre.length hi
  rwa [aF] at this
 have hlt:l < s.heap.objs.size:=Heap.lt_size hol
 have alt:a < s.heap.objs.size:=Heap.lt_size ha
 have W:=Walks.list (prog:=prog) (w:=w) (A:=A.in1.in1) (by simp [hh]) s.heap.objs.size l (bI hlt) items
 rw [e1] at W
 refine Ed W (S:=a) (ns:=ns) (led:=!w.params.followText "set-order") (by
  simp only [aQ,dI,or_false,not_or]
  exact ⟨bI alt,fun z=>hla z.symm⟩) (fun i v hv=>IntsAre.int_at hi i v (by rw [cA];exact hv)) hn ns.length 0 _ (by omega) (d9 _)
  ⟨⟨_,Heap.get?_push_size _ rfl,rfl,rfl⟩,hl.push _⟩ (by rw [gP];exact Ef (Heap.get?_push_of_some _ ha)) fun h' tk hk hS=>?_
 show wpAny _ _ _ _ _ _
 refine wpAny_pure (wpAny_pure (h h' tk hS fun b o hb e=>hk b o ?_ (Heap.get?_push_of_some _ e)))
 have blt:=Heap.lt_size e
 simp only [aQ,dI,or_false,not_or]
 exact ⟨hb,bI blt⟩
theorem Iz {l:Addr} {items:Array Value} {ns:List Int} {Q:Value→Shared→Prop} (hh:A.handled=none) (hl:s.heap.IsList l items) (hi:IntsAre items.toList ns) (hn:ns.length ≤ 300)
 (h:∀ h' tk,pN prog w h' s.heap.objs.size ns (!w.params.followText "set-order")→(∀ b o,s.heap.get? b=some o→h'.get? b=some o)→Q (.ref s.heap.objs.size) { s with heap:=h',toks:=tk }) :
 wpAny (model prog w) A (call (.type "set") [.ref l]) Q E s:=by
 obtain ⟨c,tl,hmro⟩:=F.called_set.mro
 have z1:=F.called_set.made
 have z2:=F.called_set.sub
 refine wpAny_call (codeAny_of_tree ?_)
 show wpAny _ _ (callAny (.type "set") _) _ _ _
 refine wpAny_pure ⟨Code.quiet_builtin _ (by decide +kernel),codeAny_builtin F.entry_type_call ?_⟩
 rw [Around.under_plain (weight_type_call_type "set" [.ref l] []) rfl]
 have z3:=F.called_set.notType
 have z4:=F.called_set.canCreate
 have z5:=F.typeCall_set_1 (.ref l)
 repeat any_goals first | assumption | wp_step
 refine codeAny_mono (Iw (.ref l) (E:=E) (Q₁:=fun v s1=>v = .ref s.heap.objs.size∧s1 = { s with heap:=s.heap.push (fresh0 w) }) ⟨rfl,rfl⟩) fun r s1 hr=>?_
 cases r with
 | error e=>exact hr
 | ok fl =>
  cases fl with
  | ret v =>
   obtain ⟨rfl,rfl⟩:=hr
   have ha:(s.heap.push (fresh0 w)).get? s.heap.objs.size=some (fresh0 w):=Heap.get?_push_size _ rfl
   have hT:Shared.TypeIs { s with heap:=s.heap.push (fresh0 w) } (.ref s.heap.objs.size) "set" := ⟨_,ha,rfl⟩
   have y1:=F.called_set.init.lookup
   have y2:=F.called_set.init.bind (.ref s.heap.objs.size)
   repeat any_goals first | assumption | wp_step
   have hlt:l < s.heap.objs.size:=by
    obtain ⟨o,ho,_⟩:=hl
    exact Heap.lt_size ho
   refine codeAny_mono (Eh (s:={ s with heap:=s.heap.push (fresh0 w) }) (E:=E) (R:=fun v s2=>v = .none∧∃ h' tk,s2 = { s with heap:=h',toks:=tk }∧pN prog w h' s.heap.objs.size ns (!w.params.followText "set-order")∧∀ b o,s.heap.get? b=some o→h'.get? b=some o) hh (hl.push _) hi hn ha (bI hlt) fun h' tk hS hk=>⟨rfl,h',tk,rfl,hS,fun b o e=>hk b o (bI (Heap.lt_size e)) (Heap.get?_push_of_some _ e)⟩) fun r2 s2 hr2=>?_
   cases r2 with
   | error e=>exact hr2
   | ok fl2 =>
    cases fl2 with
    | ret v2 =>
     obtain ⟨rfl,h',tk,rfl,hS,hk⟩:=hr2
     repeat any_goals first | assumption | wp_step
     exact h h' tk hS hk
    | _=>exact hr2.elim
  | _=>exact hr.elim
end
end Stt
namespace Stt
open PySem PySem.Spec PyProof.Rows
theorem wX:Slot "set" "__iter__" "set.__iter__" := F.slot_set_iter
theorem Ei:entryFor table "set.__iter__" = some Builtin.«frozenset.__iter__»:=entryFor_alias (id' := "frozenset.__iter__") (by rw [fastTable_eq_tree];kernel_rfl) (by decide +kernel) (by decide +kernel) (by rw [fastTable_eq_tree];kernel_rfl)
theorem mW:Slot "set_iterator" "__next__" "set_iterator.__next__" :=
 .of (owner := "set_iterator") (n := "__next__") (by rw [typeLookup_type,builtinLookup_eq_fast];kernel_rfl) (by decide +kernel) (by decide +kernel) (by decide +kernel) (.inl (by decide +kernel)) (by rw [isSubtype_type];kernel_rfl)
theorem wY:entryFor table "set_iterator.__next__" = some Builtin.«set_iterator.__next__»:=entryFor_of_tree (by kernel_rfl)
theorem Bj:Manifest.owners.lookup (String.ofList ['r','o','t','a','r','e','t','i','_','t','e','s'].reverse)=some Manifest.sig_set_iterator:=by kernel_rfl
theorem wZ (a:Value):argsOk "set_iterator.__next__" ⟨[a],[]⟩:=by
 unfold argsOk
 rw [signature?_of (id := "set_iterator.__next__") (n:=['_','_','t','x','e','n','_','_']) (o:=['r','o','t','a','r','e','t','i','_','t','e','s']) (by kernel_rfl) Bj]
 kernel_rfl
section
variable {prog:Program} {w:World} {A:Around} {E:Value→Shared→Prop} {s:Shared}
theorem Bk {r:Addr} {Q:Bool→Shared→Prop} (hT:s.TypeIs (.ref r) "set") (h:Q false s):wpAny (model prog w) A (Builtin.List.listLengthHint (.ref r)) Q E s:=by
 unfold Builtin.List.listLengthHint
 refine wpAny_bind (wpAny_specialOf hT PySem.F.slot_set_len.lookup ?_)
 generalize hid:("set.__len__" : String)=id0
 wp_delta
 rw [show splitId id0=some ("set", "__len__") by subst hid;decide +kernel]
 subst hid
 refine wpAny_bind (wpAny_isInstance (T := "set") (b:=true) hT sub_set_self (wpAny_ite_split (fun z=>absurd z (by decide)) fun _=>?_))
 refine wpAny_ite_split (fun _=>wpAny_bind (wpAny_typeOf hT (wpAny_pure h))) fun z=>absurd (by decide +kernel) z
def iM (prog:Program) (w:World) (h:Heap) (a:Addr) (es:Array (Int × Value)) (ep:Nat) (t:SetTable):Prop:=∃ o,h.get? a=some o∧o.ExactSet∧o.data = .set es ep t∧TOk t es.size∧t.led = !w.params.followText "set-order" ∧ es.size ≤ t.mask
theorem iM.fits {h:Heap} {a:Addr} {es:Array (Int × Value)} {ep:Nat} {t:SetTable} (x:iM prog w h a es ep t):t.fits es.size=true:=by
 obtain ⟨_,_,_,_,k,_,m⟩:=x
 exact fits_of k m
theorem iM.keep {h h':Heap} {a:Addr} {es:Array (Int × Value)} {ep:Nat} {t:SetTable} (x:iM prog w h a es ep t) (hk:∀ o,h.get? a=some o→h'.get? a=some o):iM prog w h' a es ep t:=by
 obtain ⟨o,ho,r⟩:=x
 exact ⟨o,hk o ho,r⟩
theorem iM.lt {h:Heap} {a:Addr} {es:Array (Int × Value)} {ep:Nat} {t:SetTable} (x:iM prog w h a es ep t):a < h.objs.size:=by
 obtain ⟨o,ho,r⟩:=x
 exact Heap.lt_size ho
theorem iM.type {a:Addr} {es:Array (Int × Value)} {ep:Nat} {t:SetTable} (x:iM prog w s.heap a es ep t):s.TypeIs (.ref a) "set" := by
 obtain ⟨o,ho,hx,_⟩:=x
 exact ⟨o,ho,hx.1⟩
theorem jW {a:Addr} {es:Array (Int × Value)} {ep:Nat} {t:SetTable} {Q:(Array (Int × Value) × Nat × SetTable)→Shared→Prop} (x:iM prog w s.heap a es ep t) (h:Q (es,ep,t) s):wpAny (model prog w) A (setState a) Q E s:=by
 have f:=x.fits
 obtain ⟨o,ho,_,hd,_⟩:=x
 exact wpAny_setState_of ho hd f h
theorem uo {Q:Bool→Shared→Prop} (h:Q (w.params.followText "set-order") s):wpAny (model prog w) A setsByText Q E s:=by
 unfold setsByText
 exact wpAny_bind (wpAny_askSetting (wpAny_pure h))
def vf (a:Addr) (slot i n ep:Nat):Obj:={ cls:=.type "set_iterator", data:=.fields #[.int slot 0,.int i 0,.ref a,.int n 0,.int ep 0] }
theorem Ej {a:Addr} {es:Array (Int × Value)} {ep:Nat} {t:SetTable} {Q:Value→Shared→Prop} (x:iM prog w s.heap a es ep t) (h:Q (.ref s.heap.objs.size) { s with heap:=s.heap.push (vf a 0 0 es.size ep) }):wpAny (model prog w) A (pyIter (.ref a)) Q E s:=by
 have hT:=x.type
 have pl:t.plain=true:=by obtain ⟨_,_,_,_,k,_⟩:=x;exact k.pl
 refine wpAny_pyIter_slot hT wX (wpAny_call_entry wX hT Ei ?_ (F.args_set_iter_1 _))
 unfold Builtin.«frozenset.__iter__» Builtin.Frozenset.slot0
 refine wpAny_bind (wpAny_bind (wpAny_pure (wpAny_pure ?_)))
 unfold Builtin.Frozenset.sizeOf setEntries
 refine wpAny_bind (wpAny_bind (wpAny_bind (jW x (wpAny_pure (wpAny_pure ?_)))))
 have dr:(!w.params.followText "set-order" && (!t.plain && decide (es.size > 1)))=false:=by rw [pl];simp
 refine wpAny_bind (m:=setDrawn a) ?_
 unfold setDrawn
 refine wpAny_bind (jW x (wpAny_bind (uo (wpAny_pure ?_))))
 show wpAny _ _ (if (!w.params.followText "set-order" && (!t.plain && decide (es.size > 1)))=true then _ else _) _ _ s
 rw [dr,if_neg aK]
 refine wpAny_bind (wpAny_pure ?_)
 unfold setEpoch
 refine wpAny_bind (wpAny_bind (jW x (wpAny_pure ?_)))
 show wpAny _ _ (newFields "set_iterator" [rawInt 0,rawInt 0,.ref a,rawInt es.size,rawInt ep] >>= _) _ _ s
 unfold newFields
 refine wpAny_bind (wpAny_newObj_type (wpAny_pure ⟨_,rfl, "set_iterator", _,⟨_,Heap.get?_push_size _ rfl,rfl⟩,mW.lookup,?_⟩))
 exact h
theorem w6 {α:Type} (next:Nat→Nat):∀ (fuel k:Nat) (l:List α) (out:Array α),l.length=fuel→∃ m:List α,(pickOrder.go next fuel k l out).toList=out.toList++m∧m.Perm l
 | 0,k,l,out,h=>⟨[],by rw [pickOrder.go,cX],by rw [fQ.mp h]⟩
 | fuel + 1,k,l,out,h=>by
  rw [pickOrder.go]
  have lt:next k % l.length < l.length:=jM _ (by omega)
  rw [bC lt]
  dsimp only
  obtain ⟨m,e,p⟩:=w6 next fuel (k + 1) (l.eraseIdx (next k % l.length)) (out.push l[next k % l.length]) (by rw [List.length_eraseIdx,if_pos lt];omega)
  refine ⟨l[next k % l.length] :: m,by rw [e,iV,aL];rfl,?_⟩
  have q:=jf (a:=l[next k % l.length]) (l₁:=l.take (next k % l.length)) (l₂:=l.drop (next k % l.length + 1))
  rw [List.getElem_cons_drop,cR] at q
  rw [List.eraseIdx_eq_take_drop_succ] at p
  exact (p.cons _).trans q.symm
theorem yF {α:Type} (next:Nat→Nat) (xs:Array α):(pickOrder next xs).toList.Perm xs.toList:=by
 unfold pickOrder
 obtain ⟨m,e,p⟩:=w6 next xs.size 0 xs.toList #[] (by simp)
 rw [e]
 simpa using p
def met (w:World) (a:Addr) (ep:Nat) (es:Array (Int × Value)):Array (Int × Value):=if w.params.followText "set-order" = true then pickOrder (w.params.setOrder a ep) es else es
theorem vg (a:Addr) (ep:Nat) (es:Array (Int × Value)):(met w a ep es).toList.Perm es.toList:=by
 unfold met
 split
 ·exact yF _ _
 ·exact List.Perm.refl _
theorem oN (a:Addr) (ep:Nat) (es:Array (Int × Value)):(met w a ep es).size=es.size:=by
 have:=(vg (w:=w) a ep es).length_eq
 rwa [aF,aF] at this
def sl0 (t:SetTable):Nat→Nat
 | 0=>0
 | k + 1=>t.place.getD k 0 + 1
def slotAt (w:World) (t:SetTable) (i:Nat):Nat:=if w.params.followText "set-order" = true then 0 else sl0 t i
def vh (h:Heap) (I a:Addr) (slot i n ep:Nat):Prop:=h.get? I=some (vf a slot i n ep)
theorem vh.type {I a:Addr} {slot i n ep:Nat} (x:vh s.heap I a slot i n ep):s.TypeIs (.ref I) "set_iterator" := ⟨_,x,rfl⟩
theorem below_at {t:SetTable} {n:Nat} (k:TOk t n) {i:Nat} (hi:i ≤ n):SetTable.below t.place (sl0 t i)=i:=by
 obtain ⟨b1,b2,b3⟩:=q_ k.ris (sl0 t i)
 have sz:=k.sz
 cases i with
 | zero =>
  rcases jL (SetTable.below t.place (sl0 t 0)) with z | z
  ·exact z
  ·have:=b2 0 (by omega) z
   exact absurd this (lQ _)
 | succ m =>
  have hm:m < t.place.size:=by omega
  have g:sl0 t (m + 1)=t.place[m] + 1:=by
   show t.place.getD m 0 + 1=_
   simp [iD,hm]
  rw [g] at b1 b2 b3 ⊢
  rcases nU (SetTable.below t.place (t.place[m] + 1)) (m + 1) with z | z | z
  ·have:=b3 m hm (by omega)
   omega
  ·exact z
  ·have h1:=b2 (m + 1) (by omega) z
   have h2:=k.ris m (m + 1) hm (by omega) (by omega)
   omega
theorem xg {a:Addr} {es:Array (Int × Value)} {ep:Nat} {t:SetTable} {i:Nat} {Q:Option (Value × Nat)→Shared→Prop} (x:iM prog w s.heap a es ep t) (hi:i ≤ es.size) (h:Q (((met w a ep es)[i]?).map fun e=>(e.2,slotAt w t (i + 1))) s) :
 wpAny (model prog w) A (setNext a (slotAt w t i) i ep) Q E s:=by
 have x0:=x
 obtain ⟨o,ho,hx,hd,k,hl,hm⟩:=x
 unfold setNext
 refine wpAny_bind (jW x0 (wpAny_bind (uo ?_)))
 cases c:w.params.followText "set-order" with
 | true =>
  rw [if_pos rfl]
  have sl:∀ j,slotAt w t j=0:=fun j=>by unfold slotAt;rw [if_pos c]
  rw [sl]
  rw [sl] at h
  have mt:met w a ep es=pickOrder (w.params.setOrder a ep) es:=by unfold met;rw [if_pos c]
  rw [mt] at h
  rw [if_neg (by simp)]
  refine wpAny_bind ?_
  unfold setWalk
  refine wpAny_bind (jW x0 (wpAny_bind (uo ?_)))
  rw [c,if_pos rfl]
  refine wpAny_bind (wpAny_askSetting (wpAny_pure (wpAny_pure ?_)))
  exact h
 | false =>
  rw [if_neg aK]
  have sl:∀ j,slotAt w t j=sl0 t j:=fun j=>by unfold slotAt;rw [if_neg (by rw [c];exact aK)]
  rw [sl]
  rw [sl] at h
  have mt:met w a ep es=es:=by unfold met;rw [if_neg (by rw [c];exact aK)]
  rw [mt] at h
  have dr:(!t.plain && decide (es.size > 1))=false:=by rw [k.pl];rfl
  show wpAny _ _ (if (!t.plain && decide (es.size > 1))=true then _ else _) _ _ s
  rw [dr,if_neg aK]
  refine wpAny_bind ?_
  rw [c] at hl
  have ld:(!t.led && !es.isEmpty)=false:=by rw [hl];rfl
  show wpAny _ _ (if (!t.led && !es.isEmpty)=true then _ else _) _ _ s
  rw [ld,if_neg aK]
  refine wpAny_pure ?_
  rw [below_at k hi]
  refine wpAny_pure ?_
  rcases dM i es.size with z | z
  ·have z2:i < t.place.size:=by rw [k.sz];exact z
   rw [bh z] at h
   rw [bh z,bh z2]
   have g:sl0 t (i + 1)=t.place[i] + 1:=by
    show t.place.getD i 0 + 1=_
    simp [iD,z2]
   rw [g] at h
   exact h
  ·rw [dj z] at h
   rw [dj z]
   exact h
end
end Stt
namespace Stt
open PySem PySem.Spec PyProof.Rows
theorem xq:Slot "set_iterator" "__iter__" "set_iterator.__iter__" :=
 .of (owner := "set_iterator") (n := "__iter__") (by rw [typeLookup_type,builtinLookup_eq_fast];kernel_rfl) (by decide +kernel) (by decide +kernel) (by decide +kernel) (.inl (by decide +kernel)) (by rw [isSubtype_type];kernel_rfl)
theorem Ek:entryFor table "set_iterator.__iter__" = some Builtin.«dict_keyiterator.__iter__»:=entryFor_alias (id' := "dict_keyiterator.__iter__") (by rw [fastTable_eq_tree];kernel_rfl) (by decide +kernel) (by decide +kernel) (by rw [fastTable_eq_tree];kernel_rfl)
theorem El (a:Value):argsOk "set_iterator.__iter__" ⟨[a],[]⟩:=by
 unfold argsOk
 rw [signature?_of (id := "set_iterator.__iter__") (n:=['_','_','r','e','t','i','_','_']) (o:=['r','o','t','a','r','e','t','i','_','t','e','s']) (by kernel_rfl) Bj]
 kernel_rfl
section
variable {prog:Program} {w:World} {A:Around} {E:Value→Shared→Prop} {s:Shared}
theorem iM.but {h h':Heap} {I a:Addr} {es:Array (Int × Value)} {ep:Nat} {t:SetTable} (x:iM prog w h a es ep t) (ne:a ≠ I) (sb:Heap.SameBut I h h'):iM prog w h' a es ep t:=x.keep fun o e=>by rw [sb.2 a ne];exact e
theorem Em {I a:Addr} {es:Array (Int × Value)} {ep i:Nat} {t:SetTable} {e:Int × Value} {Q:Option Value→Shared→Prop} (hit:vh s.heap I a (slotAt w t i) i es.size ep) (x:iM prog w s.heap a es ep t) (ne:a ≠ I) (he:(met w a ep es)[i]? = some e)
 (h:∀ h',vh h' I a (slotAt w t (i + 1)) (i + 1) es.size ep→Heap.SameBut I s.heap h'→Q (some e.2) { s with heap:=h' }):wpAny (model prog w) A (pyNext (.ref I)) Q E s:=by
 have hi:i < es.size:=by
  rcases dM i es.size with z | z
  ·exact z
  ·rw [dj (by rw [oN];exact z)] at he;cases he
 have hT:=hit.type
 have hit':s.heap.get? I=some { cls:=.type "set_iterator", dict:=none,data:=.fields #[.int (slotAt w t i) 0,.int i 0,.ref a,.int es.size 0,.int ep 0],slots:=#[] }:=hit
 unfold pyNext
 refine wpAny_bind (wpAny_attempt (wpAny_callSpecial?_slot (name:=Str.ofString "__next__") hT mW (wpAny_call_entry mW hT wY ?_ (wZ _))))
 unfold Builtin.«set_iterator.__next__»
 refine wpAny_bind (wpAny_pure ?_)
 refine wpAny_bind (wpAny_fieldsOf hit' rfl ?_)
 dsimp only
 unfold setEntries
 refine wpAny_bind (wpAny_bind (jW x (wpAny_pure ?_)))
 rw [if_neg (by simp)]
 rw [dh,dh,dh]
 refine wpAny_bind (xg x (dJ hi) ?_)
 rw [he]
 dsimp only [Option.map_some]
 refine wpAny_bind (wpAny_setField_rec hit' (by simp) fun h1 g1 sb1=>?_)
 refine wpAny_bind (wpAny_setField_rec g1 (by simp) fun h2 g2 sb2=>?_)
 refine wpAny_pure ⟨_,rfl,wpAny_pure (h h2 ?_ (sb1.trans sb2))⟩
 unfold vh vf
 rw [g2]
 rfl
theorem IK {I a:Addr} {es:Array (Int × Value)} {ep:Nat} {t:SetTable} {Q:Option Value→Shared→Prop} (hh:A.handled=none) (hit:vh s.heap I a (slotAt w t es.size) es.size es.size ep) (x:iM prog w s.heap a es ep t)
 (h:∀ h',(∀ b o,b ≠ I→s.heap.get? b=some o→h'.get? b=some o)→Q none { s with heap:=h' }):wpAny (model prog w) A (pyNext (.ref I)) Q E s:=by
 have hT:=hit.type
 have hit':s.heap.get? I=some { cls:=.type "set_iterator", dict:=none,data:=.fields #[.int (slotAt w t es.size) 0,.int es.size 0,.ref a,.int es.size 0,.int ep 0],slots:=#[] }:=hit
 unfold pyNext
 refine wpAny_bind (wpAny_attempt (wpAny_callSpecial?_slot (name:=Str.ofString "__next__") hT mW (wpAny_call_entry mW hT wY ?_ (wZ _))))
 unfold Builtin.«set_iterator.__next__»
 refine wpAny_bind (wpAny_pure ?_)
 refine wpAny_bind (wpAny_fieldsOf hit' rfl ?_)
 dsimp only
 unfold setEntries
 refine wpAny_bind (wpAny_bind (jW x (wpAny_pure ?_)))
 rw [if_neg (by simp)]
 rw [dh,dh,dh]
 refine wpAny_bind (xg x (aO _) ?_)
 rw [dj (by rw [oN];exact aO _)]
 dsimp only [Option.map_none]
 refine wpAny_bind (wpAny_setField_rec hit' (by simp) fun h1 g1 sb1=>?_)
 show wpAny _ _ (newExc (.type "StopIteration") [] >>= _) _ _ _
 refine wpAny_bind ?_
 simp only [newTuple,newExc]
 refine wpAny_bind (wpAny_newObj_type ?_ (by size_fits))
 refine wpAny_bind (m:=firstArgMember _ _) (wpAny_of_eq (a:=Value.none) (by simp only [firstArgMember];rfl) ?_)
 refine wpAny_newObj_type ?_ (by size_fits)
 simp only [raiseNew]
 refine wpAny_bind (wpAny_handled ?_)
 rw [show A.in1.handled=none from hh]
 refine wpAny_bind (wpAny_pure (wpAny_throw ?_))
 refine wpAny_bind (wpAny_isInstance (b:=true) (T := "StopIteration") ⟨_,Heap.get?_push_size _ rfl,rfl⟩ isSubtype_stop ?_)
 refine wpAny_pure (h _ fun b o hb e=>?_)
 refine Heap.get?_push_of_some _ (Heap.get?_push_of_some _ ?_)
 rw [sb1.2 b hb]
 exact e
theorem IV {I a:Addr} {slot i n ep:Nat} {Q:Value→Shared→Prop} (hit:vh s.heap I a slot i n ep) (h:Q (.ref I) s):wpAny (model prog w) A (pyIter (.ref I)) Q E s:=by
 refine wpAny_pyIter_slot hit.type xq (wpAny_call_entry xq hit.type Ek ?_ (El _))
 show wpAny _ _ (ret (.ref I)) _ _ s
 exact wpAny_pure ⟨_,rfl, "set_iterator", _,hit.type,mW.lookup,h⟩
theorem Bm (hh:A.handled=none) (I a:Addr) (ne:a ≠ I) (es:Array (Int × Value)) (ep:Nat) (t:SetTable) :
 Walks prog w A I [I,a] [I] es.size (fun i v=>∃ e,(met w a ep es)[i]? = some e∧v=e.2) (fun i h=>vh h I a (slotAt w t i) i es.size ep∧iM prog w h a es ep t) where
 sub:=fun b hb=>by simp at hb;simp [hb]
 frame:=fun i h h' st hk=>⟨hk I (by simp) _ st.1,st.2.keep fun o e=>hk a (by simp) o e⟩
 item:=fun i s Q E hi st hQ=>by
  have hm:i < (met w a ep es).size:=by rw [oN];exact hi
  refine Em st.1 st.2 ne (bh hm) fun h' it sb=>?_
  exact hQ _ h' s.toks ⟨_,bh hm,rfl⟩ ⟨it,st.2.but ne sb⟩ fun b o hb e=>by
   rw [sb.2 b (fun z=>hb (by simp [z]))]
   exact e
 done:=fun s Q E st hQ=>IK hh st.1 st.2 fun h' hk=>hQ h' s.toks fun b o hb e=>hk b o (fun z=>hb (by simp [z])) e
 self:=fun i s Q E st hQ=>IV st.1 hQ
theorem En {a:Addr} {es:Array (Int × Value)} {ep:Nat} {t:SetTable}:W.KdlSrc prog w "set" a a es.size (fun i v=>∃ e,(met w a ep es)[i]? = some e∧v=e.2) (fun h=>iM prog w h a es ep t) where
 type:=fun s hm=>hm.type
 there:=fun _ hm=>⟨hm.lt,hm.lt⟩
 keep:=fun _ _ hm hk=>hm.keep fun o e=>hk a (.inl rfl) o e
 notList:=by decide
 notTuple:=by decide
 hint:=fun _ _ _ _ hm hq=>Bk hm.type hq
 iter:=fun A s hh hm=>⟨_,_,(fun _ _ hq=>Ej hm hq),Bm hh _ a (bI hm.lt) es ep t,⟨by
  show (s.heap.push (vf a 0 0 es.size ep)).get? s.heap.objs.size=some (vf a (slotAt w t 0) 0 es.size ep)
  rw [show slotAt w t 0=0 by unfold slotAt;split <;> rfl]
  exact Heap.get?_push_size _ rfl,hm.keep fun o e=>Heap.get?_push_of_some _ e⟩⟩
end
end Stt
namespace XU
open PySem PySem.Spec PyProof.Rows L2 My D3
theorem xr:∀ (l:List Value) (ns:List Int),l.length=ns.length→(∀ (j:Nat) (v:Value),l[j]? = some v→∃ n t,ns[j]? = some n∧v=Value.int n t)→IntsAre l ns
 | [],ns,h,_=>by rw [fQ.mp h.symm];exact .nil
 | v :: l,[],h,_=>absurd h (Nat.succ_ne_zero _)
 | v :: l,n :: ns,h,g=>by
  obtain ⟨n',t,e1,rfl⟩:=g 0 v rfl
  cases e1
  exact .cons _ _ (xr l ns (nW.inj h) fun j u hu=>g (j + 1) u hu)
section
variable {X:Cx} {fl:List Fl} {e:Expr} {pos pos2 p1 p2:Pos}
theorem yG {pins:List (Addr × Obj)} {s:Shared} {σ:L2.St} {H:Hp} {Q:VK} {a:Addr} {ns:List Int} (hc:X.calm=true) (I:L2.Inv X pins σ H s) (hS:Stt.pN X.prog X.w s.heap a ns (!X.w.params.followText "set-order")) (hn:ns.length ≤ 300)
 (q:∀ l,H l=none→Q (.ref l) (upd H l (.lst ((jF (ddI ns)).map V.int)))):wpAny (model X.prog X.w) X.A (call (.builtin "sorted") [.ref a]) (EP X pins σ Q) X.xe s:=by
 obtain ⟨o,es,ep,t,ho,hex,hd,hel,nd,mem,kt,hl,g⟩:=hS
 have sA:Stt.iM X.prog X.w s.heap a es ep t:=⟨o,ho,hex,hd,kt,hl,dJ g.lt⟩
 have pm:=Stt.vg (w:=X.w) a ep es
 have hez:es.size ≤ 300:=by
  have:=List.Nodup.length_le_of_subset nd (fun x hx=>(mem x).mp hx)
  rw [aH,aF] at this
  omega
 have isn:∀ e ∈ (Stt.met X.w a ep es).toList,∃ t,e.2 = .int (Stt.keyOf e) t:=fun e he=>Stt.wV hel (pm.mem_iff.mp he)
 have kp:((Stt.met X.w a ep es).toList.map Stt.keyOf).Perm (ddI ns):=(jN ((pm.map _).nodup_iff.mpr nd) (oG ns)).mpr fun k=>by rw [(pm.map _).mem_iff,mem,qJ]
 refine Calls.call_function_entry kind_sorted plain_sorted entry_sorted (args_sorted1 _) ?_
 unfold Builtin.«sorted»
 refine wpAny_bind (m:=checkCount "sorted" 1 1 _) (wpAny_pure ?_)
 refine wpAny_bind (PySem.W.kdu_collect (A:=X.A.in1) (Stt.En (prog:=X.prog) (w:=X.w) (a:=a) (es:=es) (ep:=ep) (t:=t)) (I.ok.hd hc) sA (bU hez (by decide)) fun h' tk acc hk hacc=>?_)
 have hl':acc.toList.length=es.size:=by rw [aF,hacc.1]
 have mz:(Stt.met X.w a ep es).toList.length=es.size:=by rw [aF,Stt.oN]
 have hI:IntsAre acc.toList ((Stt.met X.w a ep es).toList.map Stt.keyOf):=xr _ _ (by rw [hl',aH,mz]) fun j v hv=>by
  obtain ⟨e,he,rfl⟩:=hacc.2 j v (by rw [← cA];exact hv)
  have he:(Stt.met X.w a ep es).toList[j]? = some e:=by rw [cA];exact he
  obtain ⟨t,ht⟩:=isn e (gO he)
  exact ⟨Stt.keyOf e,t,by rw [aZ,he];rfl,ht⟩
 generalize (Stt.met X.w a ep es).toList.map Stt.keyOf=is at hI kp
 have I1:L2.Inv X pins σ H { s with heap:=h',toks:=tk }:=I.kept hk
 refine wpAny_bind (wpAny_newList ?_ (by rw [hl'];exact bU hez (by decide)))
 have hoL:(h'.push (seqObj "list" acc.toList.toArray 0)).get? h'.objs.size=some (seqObj "list" acc.toList.toArray 0):=Heap.get?_push_size _ rfl
 show wpAny _ _ _ _ _ { s with heap:=h'.push (seqObj "list" acc.toList.toArray 0),toks:=tk }
 refine wpAny_bind (wpAny_holding (wpAny_call_entry slot_list_sort ⟨_,hoL,rfl⟩ entry_list_sort (Srt.yC hoL hI (by rw [hl'];omega) fun out ns' a1 a2 a3=>⟨_,rfl,?_⟩) (args_list_sort _)))
 refine wpAny_pure ⟨_,rfl,?_⟩
 obtain rfl:=o8 ((a2.trans kp).trans (eV _).symm) a3 (iJ _)
 obtain ⟨e,he⟩:=sortedHeap_at (out:=out) hoL
 have hn':H h'.objs.size=none:=I1.hok.fresh (aO _)
 have ll:(jF (ddI ns)).length ≤ 300:=by
  rw [(eV _).length_eq,← kp.length_eq]
  have:=hI.length
  omega
 have I2:=I1.laid (h':=sortedHeap (h'.push (seqObj "list" acc.toList.toArray 0)) h'.objs.size acc.toList out) (t':=tk) (a:=h'.objs.size) (o:=.lst ((jF (ddI ns)).map V.int)) (fun b u e=>by
  have hlt:=Heap.lt_size e
  rw [sortedHeap_old (bI hlt) (by rw [size_push'];exact nQ hlt)]
  exact Heap.get?_push_of_some _ e) (aO _)
  ⟨by rw [aH];exact bU ll (by decide),out.toList,e,D3.jH a1,by simpa [seqObj] using he⟩
 exact ⟨.ref _,_,I2,rfl,q _ hn'⟩
def tSS (K:PySem.W.Frag) (t:TA):TE:=fun σ H Q=>t σ H fun vs H1=>∃ (l:Addr) (ns:List Int),vs=[.ref l]∧SqL K H1 l (ns.map V.int)∧ns.length ≤ 300∧∀ q,H1 q=none→Q (.ref q) (upd H1 q (.lst ((jF (ddI ns)).map V.int)))
theorem v7 {t:TA} (hc:X.calm=true) (hg1:Gl X "sorted") (hm1:X.mg "sorted" = none) (hg2:Gl X "set") (hm2:X.mg "set" = none) (ha:PA X [e] t)
 (h1:starEach [Expr.Call (.Name "set" p2) [e] [] pos2] X.env=(false,eval (Expr.Call (.Name "set" p2) [e] [] pos2) X.env) :: starEach [] X.env:=by rfl) (h2:starEach [e] X.env=(false,eval e X.env) :: starEach [] X.env:=by rfl)
 (h3:(backTo pos (starEach [] X.env)).any (·.1)=false:=by rfl) (h4:(backTo pos2 (starEach [] X.env)).any (·.1)=false:=by rfl) :
 PE X (.Call (.Name "sorted" p1) [.Call (.Name "set" p2) [e] [] pos2] [] pos) (tSS X.K t):=by
 intro pins s σ H Q I h
 refine wpAny_Call_Name_kw (nu I hg1 hm1 (show bootBuiltins "sorted" = some (.builtin "sorted") by decide +kernel) ?_ (by decide) (by decide))
 refine callWith_builtin1 ?_ h1 h3
 rw [h1]
 show wpAny _ _ (spliced ((false,eval (Expr.Call (.Name "set" p2) [e] [] pos2) X.env) :: backTo pos (starEach [] X.env))) _ _ s
 refine Calls.spliced_cons ?_
 refine wpAny_Call_Name_kw (nu I hg2 hm2 (show bootBuiltins "set" = some (.type "set") by decide +kernel) ?_ (by decide) (by decide))
 refine callWith_type1 (thn (ha pos2 pins s σ H _ I h) fun us s1 ⟨vs,H1,I1,r1,q1⟩=>?_) h2 h4
 obtain ⟨l,ns,rfl,hx,hn,q⟩:=q1
 obtain ⟨u,rfl,rx⟩:=vals1 r1
 cases rx
 obtain ⟨its,rvs,pl,hz⟩:=I1.list hx
 have hi:=oF rvs
 refine Stt.Iz (I1.ok.hd hc) pl.isList (by simpa using hi) hn fun h' tk hS hk=>?_
 refine Calls.spliced_nil ?_
 exact yG hc (I1.kept hk) hS hn q
theorem v8 {fa:FA} (hc:X.calm=true) (ha:DB X fl .P [e] fa) (hg1:Gl X "sorted") (hm1:X.mg "sorted" = none) (hg2:Gl X "set") (hm2:X.mg "set" = none)
 (h1:starEach [Expr.Call (.Name "set" p2) [e] [] pos2] X.env=(false,eval (Expr.Call (.Name "set" p2) [e] [] pos2) X.env) :: starEach [] X.env:=by rfl) (h2:starEach [e] X.env=(false,eval e X.env) :: starEach [] X.env:=by rfl)
 (h3:(backTo pos (starEach [] X.env)).any (·.1)=false:=by rfl) (h4:(backTo pos2 (starEach [] X.env)).any (·.1)=false:=by rfl) :
 DE X fl .FC (.Call (.Name "sorted" p1) [.Call (.Name "set" p2) [e] [] pos2] [] pos) (dCall qM fa):=PE.imp (v7 hc hg1 hm1 hg2 hm2 ha h1 h2 h3 h4) fun σ H Q h=>by
 obtain ⟨G,ow,δ,d,R,hf,q⟩:=h
 obtain ⟨ds,e1,e2⟩:=bind1 hf
 refine ⟨G,ow,δ,ds,R,e1,fun vs H' s r'=>?_⟩
 unfold qM at e2
 split at e2
 ·next l =>
  cases e3:jQ l with
  | none=>rw [e3] at e2;cases e2
  | some ns =>
   rw [e3,aD] at e2
   by_cases h64:ns.length ≤ 300
   ·rw [if_pos h64] at e2
    cases e2
    cases r' with
    | cons r1 r2 =>
     cases r2
     obtain ⟨a,ys,rfl,hx,hr⟩:=r1.lstE
     obtain rfl:=mG e3 hr
     exact ⟨a,ns,rfl,hx,h64,fun l hn=>q _ _ (s.trans (gR hn _)) (.inr ⟨_,_,_,rfl,rfl,s.free hn,fD,mO _⟩)⟩
   ·rw [if_neg h64] at e2;cases e2
 ·cases e2
end
end XU
namespace D3
open PySem PySem.Spec PyProof.Rows L2 My
section
variable {X:Cx} {fl:List Fl} {e a b:Expr} {es:List Expr} {f fa fb:FE} {fr:FA} {k:Kd} {pos:Pos}
theorem vA (i:Nat) {x:Str} (hfl:fl[i]? = some .A:=by rfl) (hN:X.N[i]? = some x:=by rfl) (hv:Vis X.env.scope x:=by first | exact Or.inl rfl | exact Or.inr (Or.inl rfl) | exact Or.inr (Or.inr rfl)) (hd:(x == ("__debug__" : Str))=false:=by decide)
 (hcd:(x == ("__classdict__" : Str))=false:=by decide):DE X fl .A (.Name x pos) (aJ i):=tW i hfl hN hv hd hcd
theorem vP (i:Nat) {x:Str} (hfl:fl[i]? = some .A:=by rfl) (hN:X.N[i]? = some x:=by rfl) (hv:Vis X.env.scope x:=by first | exact Or.inl rfl | exact Or.inr (Or.inl rfl) | exact Or.inr (Or.inr rfl)) (hd:(x == ("__debug__" : Str))=false:=by decide)
 (hcd:(x == ("__classdict__" : Str))=false:=by decide):DE X fl .P (.Name x pos) (aJ i):=fP (tW i hfl hN hv hd hcd)
theorem vB (i:Nat) {x:Str} (hfl:fl[i]? = some .A:=by rfl) (hN:X.N[i]? = some x:=by rfl) (hv:Vis X.env.scope x:=by first | exact Or.inl rfl | exact Or.inr (Or.inl rfl) | exact Or.inr (Or.inr rfl)) (hd:(x == ("__debug__" : Str))=false:=by decide)
 (hcd:(x == ("__classdict__" : Str))=false:=by decide):DE X fl (.B []) (.Name x pos) (aJ i):=fY (tW i hfl hN hv hd hcd)
theorem iP {i j pos}:DE X fl .P (.Constant (.int i) j pos) (dC (.int i)):=cg qw
theorem iC {i j pos}:DE X fl .C (.Constant (.int i) j pos) (dC (.int i)):=jh qw
theorem dz:DB X fl k [] bN:=HD
theorem dq (h:DE X fl k e f) (hr:DB X fl k es fr) (hk:isR k=true:=by rfl) (hs:starEach (e :: es) X.env=(false,eval e X.env) :: starEach es X.env:=by exact mL rfl):DB X fl k (e :: es) (aC f fr):=Du hk h hr hs
theorem dx {L:List Nat} (ha:DE X fl (.B L) a fa) (hb:DE X fl .P b fb) (hs:tQ b:=by exact fun _ _=>rfl):DE X fl .A (.Subscript a b pos) (dOp gIx fa fb):=K5 ha hb hs
theorem sA {i:Nat} {x:Str} {pos':Pos} (hN:X.N.Nodup) (h:DE X fl .A e f) (hfl:fl[i]? = some .A:=by rfl) (hi:X.N[i]? = some x:=by rfl) (hv:X.env.scope.names.lookup x=some .local∨X.env.scope.names.lookup x=some .cell:=by first | exact Or.inl rfl | exact Or.inr rfl)
 (hs:swapsWith e (some (.Name x pos')) pos.line X.env=pure false:=by rfl) (hfn:X.fn x=true∨X.env.scope.names.lookup x=some .local:=by first | exact .inl rfl | exact .inr rfl) :
 DS1 X fl (.Assign [.Name x pos'] e pos) (cI i f):=Dr hfl hN hi hv h hs hfn
theorem gN' {i:Nat} {x:Str} {pos:Pos} (hN:X.N.Nodup) (hfl:fl[i]? = some .A:=by rfl) (hi:X.N[i]? = some x:=by rfl) (hv:X.env.scope.names.lookup x=some .local∨X.env.scope.names.lookup x=some .cell:=by first | exact Or.inl rfl | exact Or.inr rfl)
 (hfn:X.fn x=true∨X.env.scope.names.lookup x=some .local:=by first | exact .inl rfl | exact .inr rfl):DG X fl [i] (.Name x pos) (gNl i):=Dt hfl hN hi hv hfn
end
theorem fsc {N P:List Str} {sc:Scope} (a:sc.kind = .function:=by rfl) (b:sc.isCoroutine=false:=by rfl) (c:sc.isGenerator=false:=by rfl) (d:N.Nodup:=by decide +kernel) (e:N.take P.length=P:=by rfl) (f:∀ x ∈ P,sc.names.lookup x=some .local∨sc.names.lookup x=some .cell:=by decide +kernel) (g:∀ y ∈ sc.names,y.2 ≠ .free:=by decide +kernel):FnScope N P sc:=⟨a,b,c,d,e,f,g⟩
end D3
namespace D3
open PySem
def qS (o:Option Oc) (b:FS):Option Oc:=match o with
 | some (.nx δ)=>b δ
 | some o=>some o
 | none=>none
def qI (o:Option Bool) (a b:FS) (δ:DS):Option Oc:=match o with
 | some true=>a δ
 | some false=>b δ
 | none=>none
def qO (g:D→D→Option D) (a b:Option D):Option D:=match a,b with
 | some x,some y=>g x y
 | _,_=>none
def qU (g:D→Option D) (a:Option D):Option D:=match a with
 | some x=>g x
 | none=>none
def qC (a:Option D) (r:Option (List D)):Option (List D):=match a,r with
 | some x,some l=>some (x :: l)
 | _,_=>none
def qF (F:List D→Option D) (l:Option (List D)):Option D:=match l with
 | some l=>F l
 | none=>none
def qR (a:Option D):Option Oc:=match a with
 | some d=>some (.rt d)
 | none=>none
def IW (i:Nat) (a:Option D) (δ:DS):Option Oc:=match a with
 | some d=>if i < δ.length then some (.nx (δ.set i (some (.d d)))) else none
 | none=>none
def yH (a:Option D) (fb:FE) (δ:DS):Option D:=match a with
 | some (.bool true)=>fb δ
 | some (.bool false)=>some (.bool false)
 | _=>none
def qOr (a:Option D) (fb:FE) (δ:DS):Option D:=match a with
 | some (.bool true)=>some (.bool true)
 | some (.bool false)=>fb δ
 | _=>none
def qN (a:Option D):Option D:=match a with
 | some (.bool b)=>some (.bool (!b))
 | _=>none
def qB (a:Option D):Option Bool:=match a with
 | some (.bool b)=>some b
 | _=>none
def qTA (a:Option Bool) (b:FT) (δ:DS):Option Bool:=match a with
 | some true=>b δ
 | some false=>some false
 | none=>none
def qTO (a:Option Bool) (b:FT) (δ:DS):Option Bool:=match a with
 | some true=>some true
 | some false=>b δ
 | none=>none
def qTN (a:Option Bool):Option Bool:=match a with
 | some b=>some (!b)
 | none=>none
def qE (a:Option Bool) (fa fb:FE) (δ:DS):Option D:=match a with
 | some true=>fa δ
 | some false=>fb δ
 | none=>none
def qL (a:Option D):Option (List D):=match a with
 | some (.list l)=>some l
 | _=>none
def I_ (a:Option (List D)) (g:FG) (b:FS) (δ:DS):Option Oc:=match a with
 | some l=>jY g b l δ
 | none=>none
def qD (a:Option DS):Option Oc:=match a with
 | some δ=>some (.nx δ)
 | none=>none
def qG (a:Option D) (g:FG) (δ:DS):Option DS:=match a with
 | some d=>g d δ
 | none=>none
def qGs (a:Option DS) (r:List D→DS→Option DS) (l:List D):Option DS:=match a with
 | some δ=>r l δ
 | none=>none
def qT (a:Option (List D)):Option D:=match a with
 | some l=>if l.length ≤ sizeLine then some (.tuple l) else none
 | none=>none
def qK (a:Option (List D)):Option D:=match a with
 | some l=>if l.length ≤ sizeLine then some (.list l) else none
 | none=>none
def qFl (p:D→Bool) (a:Option D):Option D:=match a with
 | some d=>if p d=true then some d else none
 | none=>none
def qA (i:Nat) (x a:Option D) (δ:DS):Option Oc:=match x,a with
 | some (.list l),some d=>if l.length < 1000000 then some (.nx (δ.set i (some (.d (.list (l++[d])))))) else none
 | _,_=>none
def qP (i:Nat) (a x k:Option D) (δ:DS):Option Oc:=match a,x,k with
 | some d,some (.list l),some (.int j)=>(pIx l.length j).bind fun n=>some (.nx (δ.set i (some (.d (.list (l.set n d))))))
 | _,_,_=>none
def qCh (g':D→D→Option D) (z:Option D) (y:Option D) (fc:FE) (δ:DS):Option D:=match z with
 | some (.bool true)=>qO g' y (fc δ)
 | some (.bool false)=>some (.bool false)
 | _=>none
def qFn (o:Option Oc):Option D:=match o with
 | some (.rt d)=>some d
 | some (.nx _)=>some .none
 | _=>none
def qCo (a:Option (List D)) (g:FG) (c:FT) (e:FE) (t:Nat) (ix:List Nat) (δ:DS):Option D:=match a with
 | some l=>if l.length ≤ 100000 then (match fG g c e (kJ t ix δ) l with | some r=>some (.list r) | none=>none) else none
 | none=>none
section
variable {a b:FS} {c c':FT} {fa fb fc:FE} {fr:FA} {δ:DS} {g:D→D→Option D} {h:D→Option D} {F:List D→Option D} {i:Nat} {G:FG} {d:D}
theorem Le:dF a b δ=qS (a δ) b:=by
 unfold dF qS
 cases a δ with
 | none=>rfl
 | some o=>cases o <;> rfl
theorem Bo {δ':DS}:qS (some (.nx δ')) b=b δ':=rfl
theorem Bp:qS (some (.rt d)) b=some (.rt d):=rfl
theorem Bq {δ':DS}:qS (some (.bk δ')) b=some (.bk δ'):=rfl
theorem Br {δ':DS}:qS (some (.ct δ')) b=some (.ct δ'):=rfl
theorem Lf:jt δ=some (.nx δ):=rfl
theorem NT:sBk δ=some (.bk δ):=rfl
theorem NZ:sCt δ=some (.ct δ):=rfl
theorem N5:sIf c a b δ=qI (c δ) a b δ:=by
 unfold sIf qI
 cases c δ with
 | none=>rfl
 | some t=>cases t <;> rfl
theorem Ja:qI (some true) a b δ=a δ:=rfl
theorem Jb:qI (some false) a b δ=b δ:=rfl
theorem v_op:dOp g fa fb δ=qO g (fa δ) (fb δ):=by
 unfold dOp qO
 cases fa δ <;> cases fb δ <;> rfl
theorem Jc {x y:D}:qO g (some x) (some y)=g x y:=rfl
theorem N6:dUn h fa δ=qU h (fa δ):=by
 unfold dUn qU
 cases fa δ <;> rfl
theorem Jd {x:D}:qU h (some x)=h x:=rfl
theorem Je:bN δ=some []:=rfl
theorem Eo:aC fa fr δ=qC (fa δ) (fr δ):=by
 unfold aC qC
 cases fa δ <;> cases fr δ <;> rfl
theorem yI {x:D} {l:List D}:qC (some x) (some l)=some (x :: l):=rfl
theorem Jf:dCall F fr δ=qF F (fr δ):=by
 unfold dCall qF
 cases fr δ <;> rfl
theorem Bt {l:List D}:qF F (some l)=F l:=rfl
theorem Lg:fX fa δ=qR (fa δ):=by
 unfold fX qR
 cases fa δ <;> rfl
theorem Ep:qR (some d)=some (.rt d):=rfl
theorem Jg:Kz δ=some (.rt .none):=rfl
theorem Lh:cI i fa δ=IW i (fa δ) δ:=by
 unfold cI Ky IW
 cases fa δ with
 | none=>simp
 | some d=>rfl
theorem Er:IW i (some d) δ=if i < δ.length then some (.nx (δ.set i (some (.d d)))) else none:=rfl
theorem v_c:dC d δ=some d:=rfl
theorem v_and:Ku fa fb δ=yH (fa δ) fb δ:=by
 unfold Ku yH
 cases fa δ with
 | none=>rfl
 | some x =>
  cases x <;> try rfl
  next b=>cases b <;> rfl
theorem Es:yH (some (.bool true)) fb δ=fb δ:=rfl
theorem Et:yH (some (.bool false)) fb δ=some (.bool false):=rfl
theorem v_or:dOr fa fb δ=qOr (fa δ) fb δ:=by
 unfold dOr qOr
 cases fa δ with
 | none=>rfl
 | some x =>
  cases x <;> try rfl
  next b=>cases b <;> rfl
theorem Jh:qOr (some (.bool true)) fb δ=some (.bool true):=rfl
theorem Ji:qOr (some (.bool false)) fb δ=fb δ:=rfl
theorem v_not:Kv fa δ=qN (fa δ):=by
 unfold Kv qN
 cases fa δ with
 | none=>rfl
 | some x=>cases x <;> rfl
theorem Eu {b:Bool}:qN (some (.bool b))=some (.bool (!b)):=rfl
theorem N7:cT fa δ=qB (fa δ):=by
 unfold cT qB
 cases fa δ with
 | none=>rfl
 | some x=>cases x <;> rfl
theorem Jj {b:Bool}:qB (some (.bool b))=some b:=rfl
theorem Jk:D3.tH c c' δ=qTA (c δ) c' δ:=by
 unfold D3.tH qTA
 cases c δ with
 | none=>rfl
 | some t=>cases t <;> rfl
theorem Bu:qTA (some true) c δ=c δ:=rfl
theorem Bv:qTA (some false) c δ=some false:=rfl
theorem Li:D3.tOr c c' δ=qTO (c δ) c' δ:=by
 unfold D3.tOr qTO
 cases c δ with
 | none=>rfl
 | some t=>cases t <;> rfl
theorem Ew:qTO (some true) c δ=some true:=rfl
theorem Ey:qTO (some false) c δ=c δ:=rfl
theorem Jl:D3.Kw c δ=qTN (c δ):=by
 unfold D3.Kw qTN
 cases c δ <;> rfl
theorem Bw {b:Bool}:qTN (some b)=some (!b):=rfl
theorem v_ite:dIf c fa fb δ=qE (c δ) fa fb δ:=by
 unfold dIf qE
 cases c δ with
 | none=>rfl
 | some t=>cases t <;> rfl
theorem Ez:qE (some true) fa fb δ=fa δ:=rfl
theorem EY:qE (some false) fa fb δ=fb δ:=rfl
theorem Lj:oY fa δ=qL (fa δ):=by
 unfold oY qL asList
 cases fa δ with
 | none=>rfl
 | some x=>cases x <;> rfl
theorem E_ {l:List D}:qL (some (.list l))=some l:=rfl
theorem Lk:rJ fr G b δ=I_ (fr δ) G b δ:=by
 unfold rJ I_
 cases fr δ <;> rfl
theorem Fb {l:List D}:I_ (some l) G b δ=jY G b l δ:=rfl
theorem yJ:jY G b [] δ=some (.nx δ):=rfl
theorem Ln:KC fa G δ=qD (qG (fa δ) G δ):=by
 unfold KC qG qD
 cases fa δ with
 | none=>rfl
 | some d =>
  dsimp only [aD]
  cases G d δ <;> rfl
theorem Fd:qG (some d) G δ=G d δ:=rfl
theorem Fe {δ':DS}:qD (some δ')=some (.nx δ'):=rfl
theorem N8:gNl i d δ=if i < δ.length then some (δ.set i (some (.d d))) else none:=rfl
theorem N_ {n:Nat} {gs:List D→DS→Option DS} {l:List D}:gTn n gs (.tuple l) δ=if l.length=n then gs l δ else none:=rfl
theorem Lq:rZ [] δ=some δ:=rfl
theorem Lr {gs:List D→DS→Option DS} {l:List D}:jz G gs (d :: l) δ=qGs (G d δ) gs l:=by
 show (G d δ).bind (fun δ'=>gs l δ')=qGs (G d δ) gs l
 cases G d δ <;> rfl
theorem Fg {gs:List D→DS→Option DS} {l:List D} {δ':DS}:qGs (some δ') gs l=gs l δ':=rfl
theorem Ls:dTup fr δ=qT (fr δ):=by
 unfold dTup qT
 cases fr δ <;> rfl
theorem Fi {l:List D}:qT (some l)=if l.length ≤ sizeLine then some (.tuple l) else none:=rfl
theorem Oa:mq fr δ=qK (fr δ):=by
 unfold mq qK
 cases fr δ <;> rfl
theorem Jm {l:List D}:qK (some l)=if l.length ≤ sizeLine then some (.list l) else none:=rfl
theorem Jo:eH fa δ=qFl flat (fa δ):=by
 unfold eH qFl
 cases fa δ <;> rfl
theorem Lw:zU fa δ=qFl fl1 (fa δ):=by
 unfold zU qFl
 cases fa δ <;> rfl
theorem Jp {p:D→Bool}:qFl p (some d)=if p d=true then some d else none:=rfl
theorem Lx:KD i fa δ=qA i (aJ i δ) (fa δ) δ:=by
 unfold KD qA
 cases aJ i δ with
 | none=>rfl
 | some x =>
  cases fa δ with
  | none=>cases x <;> rfl
  | some d=>cases x <;> rfl
theorem Fj {l:List D}:qA i (some (.list l)) (some d) δ=if l.length < 1000000 then some (.nx (δ.set i (some (.d (.list (l++[d])))))) else none:=rfl
theorem Ly {fk:FE}:KH i fk fa δ=qP i (fa δ) (aJ i δ) (fk δ) δ:=by
 unfold KH qP
 cases fa δ with
 | none=>rfl
 | some d =>
  cases aJ i δ with
  | none=>rfl
  | some x =>
   cases fk δ with
   | none=>cases x <;> rfl
   | some k=>cases x <;> cases k <;> rfl
theorem Fp {l:List D} {j:Int}:qP i (some d) (some (.list l)) (some (.int j)) δ=(pIx l.length j).bind fun n=>some (.nx (δ.set i (some (.d (.list (l.set n d)))))):=rfl
theorem Fq {g':D→D→Option D}:oZ g g' fa fb fc δ=qCh g' (qO g (fa δ) (fb δ)) (fb δ) fc δ:=by
 unfold oZ qCh qO
 cases fa δ with
 | none=>rfl
 | some x =>
  cases fb δ with
  | none=>rfl
  | some y =>
   dsimp only [aD]
   cases g x y with
   | none=>rfl
   | some z =>
    cases z <;> try rfl
    next b =>
    cases b with
    | false=>rfl
    | true=>dsimp only [aD];cases fc δ <;> rfl
theorem yK {g':D→D→Option D} {y:Option D}:qCh g' (some (.bool true)) y fc δ=qO g' y (fc δ):=rfl
theorem yL {g':D→D→Option D} {y:Option D}:qCh g' (some (.bool false)) y fc δ=some (.bool false):=rfl
theorem Lz {p q:Nat} {ds:List D}:fnD p q b ds=if ds.length=p then qFn (b (ds.map (fun d=>some (.d d))++aR q none)) else none:=by
 unfold fnD qFn
 rfl
theorem Ft:qFn (some (.rt d))=some d:=rfl
theorem Fv {δ':DS}:qFn (some (.nx δ'))=some .none:=rfl
theorem Jq {t:Nat} {ix:List Nat}:jd fr G c fa t ix δ=qCo (fr δ) G c fa t ix δ:=by
 unfold jd qCo
 cases fr δ with
 | none=>rfl
 | some l =>
  dsimp only [aD]
  by_cases z:l.length ≤ 100000
  ·rw [if_pos z,if_pos z]
   cases fG G c fa (kJ t ix δ) l <;> rfl
  ·rw [if_neg z,if_neg z]
theorem Bx {t:Nat} {ix:List Nat} {l:List D}:qCo (some l) G c fa t ix δ=if l.length ≤ 100000 then (match fG G c fa (kJ t ix δ) l with | some r=>some (.list r) | none=>none) else none:=rfl
theorem LC:D3.lF δ=some true:=rfl
theorem Jr {r:DS} {x:D}:aJ 0 (some (.d x) :: r)=some x:=rfl
theorem Js {r:DS} {y:Option U}:aJ (i + 1) (y :: r)=aJ i r:=rfl
end
section
variable {i j:Int} {l m:List D} {d:D}
theorem LK:iQ (.int i) (.int j)=some (.int (i + j)):=rfl
theorem LQ:yj (.int i) (.int j)=some (.int (i - j)):=rfl
theorem Ob:gLt (.int i) (.int j)=some (.bool (decide (i < j))):=rfl
theorem Od:gLe (.int i) (.int j)=some (.bool (decide (i ≤ j))):=rfl
theorem Oe:gGt (.int i) (.int j)=some (.bool (decide (j < i))):=rfl
theorem Og:gGe (.int i) (.int j)=some (.bool (decide (j ≤ i))):=rfl
theorem LR:gEq (.int i) (.int j)=some (.bool (decide (i=j))):=rfl
theorem L_:gNe (.int i) (.int j)=some (.bool (!decide (i=j))):=rfl
theorem Mf:tR [.list l]=some (.int l.length):=rfl
theorem Jt:tR [.tuple l]=some (.int l.length):=rfl
theorem jl:∀ ns:List Int,jQ (ns.map .int)=some ns
 | []=>rfl
 | n :: r=>by rw [bY,jQ,jl r];rfl
theorem Mg:Nx [.int i]=some (.int (if i < 0 then -i else i)):=rfl
theorem Mh:uM [.int i,.int j]=some (.int (if j > i then j else i)):=rfl
theorem Mi:su [.int i,.int j]=some (.int (if j < i then j else i)):=rfl
theorem Mj:zV (.int i)=some (.int (-i)):=rfl
theorem Oh:gIx (.list l) (.int i)=pAt l i:=rfl
theorem Mp:gIx (.tuple l) (.int i)=pAt l i:=rfl
theorem vm:qt (.list l) (.list m)=if l.length + m.length ≤ 1000000 then some (.list (l++m)) else none:=rfl
theorem Ju:Gn (.list l)=some (.list l):=rfl
theorem Fw:Gn (.tuple l)=some (.list l):=rfl
theorem Mq:pAt (d :: l) 0=some d:=by
 unfold pAt pIx
 rw [if_pos (by decide),if_pos (by simp)]
 rfl
end
def Jv (i j:Nat) (a:Option (List D)) (δ:DS):Option Oc:=match a with
 | some l=>match l with
  | [x,y]=>if i < δ.length∧j < δ.length then some (.nx ((δ.set i (some (.d x))).set j (some (.d y)))) else none
  | _=>none
 | none=>none
def sW (a:Option (List D)):Option (List D):=match a with
 | some l=>match l with
  | [.int j]=>if m6 j=true then some (fU 0 j) else none
  | _=>none
 | none=>none
def xu (a:Option (List D)):Option (List D):=match a with
 | some l=>match l with
  | [.int i,.int j]=>if (m6 i && m6 j)=true then some (fU i j) else none
  | _=>none
 | none=>none
def qSl (x:Option D) (a b:Option (Option Int)):Option D:=match x,a,b with
 | some (.list l),some a,some b=>some (.list (cutD l a b))
 | _,_,_=>none
def qOP (x:Option D):Option (Option Int):=match x with
 | some (.int i)=>some (some i)
 | _=>none
def qEn (x:Option D):Option (List D):=match x with
 | some (.list l)=>some (zW l)
 | _=>none
section
variable {a b:FS} {fa:FE} {fr:FA} {δ:DS} {i j:Nat} {g:FG}
theorem Mr:KQ i j fr δ=Jv i j (fr δ) δ:=by
 unfold KQ Jv
 cases fr δ with
 | none=>rfl
 | some l=>rfl
theorem Fx {x y:D}:Jv i j (some [x,y]) δ=if i < δ.length∧j < δ.length then some (.nx ((δ.set i (some (.d x))).set j (some (.d y)))) else none:=rfl
theorem Jw:mC fr δ=sW (fr δ):=by
 unfold mC sW
 cases fr δ with
 | none=>rfl
 | some l=>rfl
theorem Fy {k:Int} (h : -(2 ^ 62) ≤ k) (h2:k < 2 ^ 62):sW (some [.int k])=some (fU 0 k):=by
 show (if m6 k=true then some (fU 0 k) else none)=_
 rw [if_pos]
 unfold m6
 rw [dTr h,dTr h2]
 rfl
theorem Jx:wH fr δ=xu (fr δ):=by
 unfold wH xu
 cases fr δ with
 | none=>rfl
 | some l=>rfl
theorem Oi {i k:Int} (h : -(2 ^ 62) ≤ k) (h2:k < 2 ^ 62) (h3 : -(2 ^ 62) ≤ i) (h4:i < 2 ^ 62):xu (some [.int i,.int k])=some (fU i k):=by
 show (if (m6 i && m6 k)=true then some (fU i k) else none)=_
 rw [if_pos]
 unfold m6
 rw [dTr h,dTr h2,dTr h3,dTr h4]
 rfl
theorem Oj {lo hi:FO}:dSl fa lo hi δ=qSl (fa δ) (lo δ) (hi δ):=by
 unfold dSl qSl
 cases fa δ with
 | none=>rfl
 | some x =>
  dsimp only [aD]
  cases lo δ with
  | none=>cases x <;> rfl
  | some p =>
   dsimp only [aD]
   cases hi δ with
   | none=>cases x <;> rfl
   | some r=>cases x <;> rfl
theorem Jy {l:List D} {p r:Option Int}:qSl (some (.list l)) (some p) (some r)=some (.list (cutD l p r)):=rfl
theorem Ol:qu δ=some none:=rfl
theorem Om:m9 fa δ=qOP (fa δ):=by
 unfold m9 qOP
 cases fa δ with
 | none=>rfl
 | some x=>cases x <;> rfl
theorem Jz {k:Int}:qOP (some (.int k))=some (some k):=rfl
theorem JB:Gp fa δ=qEn (fa δ):=by
 unfold Gp qEn
 cases fa δ with
 | none=>rfl
 | some x=>cases x <;> rfl
theorem BJ {l:List D}:qEn (some (.list l))=some (zW l):=rfl
theorem pY (Inv:Nat→DS→Prop):∀ (l:List D) (δ:DS),Inv 0 δ→(∀ i d δ,l[i]? = some d→Inv i δ→∃ δ1 δ',g d δ=some δ1∧(b δ1=some (.nx δ')∨b δ1=some (.ct δ'))∧Inv (i + 1) δ')→∃ δ',jY g b l δ=some (.nx δ')∧Inv l.length δ':=by
 have key:∀ (l:List D) (k:Nat) (δ:DS),Inv k δ→(∀ i d δ,l[i]? = some d→Inv (k + i) δ→∃ δ1 δ',g d δ=some δ1∧(b δ1=some (.nx δ')∨b δ1=some (.ct δ'))∧Inv (k + i + 1) δ')→∃ δ',jY g b l δ=some (.nx δ')∧Inv (k + l.length) δ':=by
  intro l
  induction l with
  | nil=>exact fun k δ h _=>⟨δ,rfl,h⟩
  | cons d r ih =>
   intro k δ h hs
   obtain ⟨δ1,δ',e1,e2,e3⟩:=hs 0 d δ rfl h
   obtain ⟨δ2,e4,e5⟩:=ih (k + 1) δ' e3 fun i d' δ'' hd hi=>by
    have:=hs (i + 1) d' δ'' (by simpa using hd) (by rw [show k + (i + 1)=k + 1 + i by omega];exact hi)
    rw [show k + (i + 1) + 1=k + 1 + i + 1 by omega] at this
    exact this
   refine ⟨δ2,?_,by rw [bL,show k + (r.length + 1)=k + 1 + r.length by omega];exact e5⟩
   rw [jY,e1,aD]
   rcases e2 with e2 | e2
   ·rw [e2];exact e4
   ·rw [e2];exact e4
 intro l δ h hs
 have:=key l 0 δ h fun i d δ hd hi=>by
  have:=hs i d δ hd (by rw [cY] at hi;exact hi)
  rw [cY]
  exact this
 rw [cY] at this
 exact this
end
def qX (a:Option D) (δ:DS):Option Oc:=match a with
 | some _=>some (.nx δ)
 | none=>none
theorem JC {fa:FE} {δ:DS}:Gk fa δ=qX (fa δ) δ:=by
 unfold Gk qX
 cases fa δ <;> rfl
theorem BK {d:D} {δ:DS}:qX (some d) δ=some (.nx δ):=rfl
theorem BL {g g' g'':D→D→Option D} {fa fb fc fd:FE} {δ:DS}:wI g g' g'' fa fb fc fd δ=yH (qO g (fa δ) (fb δ)) (oZ g' g'' fb fc fd) δ:=by
 unfold wI yH oZ qO
 cases fa δ with
 | none=>rfl
 | some x =>
  cases fb δ with
  | none=>rfl
  | some y =>
   dsimp only [aD]
   cases g x y with
   | none=>rfl
   | some z =>
    cases z <;> try rfl
    next b=>cases b <;> rfl
def qZ (a b:Option D):Option (List D):=match a,b with
 | some (.list l),some (.list m)=>some (m7 l m)
 | _,_=>none
theorem Ms {f g:FE} {δ:DS}:Di f g δ=qZ (f δ) (g δ):=by
 unfold Di qZ
 cases f δ with
 | none=>rfl
 | some x =>
  cases g δ with
  | none=>cases x <;> rfl
  | some y=>cases x <;> cases y <;> rfl
theorem Fz {l m:List D}:qZ (some (.list l)) (some (.list m))=some (m7 l m):=rfl
theorem Oo {fa:FE} {δ:DS}:dN1 fa δ=qFl (fun d=>decide (nl d ≤ 1)) (fa δ):=by
 unfold dN1 qFl
 cases fa δ <;> rfl
theorem Mt:flat .none=true:=rfl
theorem Oq {b:Bool}:flat (.bool b)=true:=rfl
theorem f_int {i:Int}:flat (.int i)=true:=rfl
theorem Mu {x:Str}:flat (.str x)=true:=rfl
theorem Mv {l:List D}:flat (.list l)=false:=rfl
theorem f_tup {l:List D}:flat (.tuple l)=flats l:=rfl
theorem Mw:flats []=true:=rfl
theorem JD {d:D} {l:List D}:flats (d :: l)=(flat d && flats l):=rfl
theorem JF:fl1 .none=true:=rfl
theorem Mx {b:Bool}:fl1 (.bool b)=true:=rfl
theorem JG {i:Int}:fl1 (.int i)=true:=rfl
theorem JH {x:Str}:fl1 (.str x)=true:=rfl
theorem JK {l:List D}:fl1 (.list l)=flats l:=rfl
theorem JL {l:List D}:fl1 (.tuple l)=flats l:=rfl
theorem Ot {c:String} {d:D}:gIs c d=some (.bool (isT c (tyD d))):=rfl
theorem Mz {d:D}:yp d=some (.bool (isNone d)):=rfl
theorem JM {d:D}:KJ d=some (.bool (!isNone d)):=rfl
theorem MF:isNone .none=true:=rfl
theorem Ou {b:Bool}:isNone (.bool b)=false:=rfl
theorem MK {i:Int}:isNone (.int i)=false:=rfl
theorem MN {x:Str}:isNone (.str x)=false:=rfl
theorem MP {l:List D}:isNone (.list l)=false:=rfl
theorem M4 {l:List D}:isNone (.tuple l)=false:=rfl
theorem M5 {l:List (D × D)}:isNone (.dict l)=false:=rfl
def EVL:=And.intro @Mt <| And.intro @Oq <| And.intro @f_int <| And.intro @Mu <| And.intro @Mv <| And.intro @f_tup <| And.intro @Mw <| And.intro @JD <| And.intro @JF <| And.intro @Mx <| And.intro @JG <| And.intro @JH <| And.intro @JK <| And.intro @JL <| And.intro @Ot <| And.intro @Mz <| And.intro @JM <| And.intro @MF <| And.intro @Ou <| And.intro @MK <| And.intro @MN <| And.intro @MP <| And.intro @M4 <| And.intro @M5 <| And.intro @bL.{0} <| And.intro @jx.{0} <| And.intro @bY.{0,0} <| And.intro @nO.{0,0} <| And.intro @cB.{0} <| And.intro @List.replicate_zero.{0} <| And.intro @List.cons_append.{0} <| And.intro @gA.{0} <| And.intro @cX.{0} <| And.intro @List.set_cons_zero.{0} <| And.intro @List.set_cons_succ.{0} <| And.intro @cY <| And.intro @if_true.{1} <| And.intro @decide_true <| And.intro @decide_false <| And.intro @Int.cast_ofNat_Int <| And.intro @Bool.not_true <| And.intro @Bool.not_false <| @Bool.and_self
def EV:=And.intro EVL <| And.intro @Oo <| And.intro @Ms <| And.intro @Fz <| And.intro @JC <| And.intro @BK <| And.intro @BL <| And.intro @Le (And.intro @Bo (And.intro @Bp (And.intro @Bq (And.intro @Br (And.intro @Lf (And.intro @NT (And.intro @NZ (And.intro @N5 (And.intro @Ja (And.intro @Jb (And.intro @v_op (And.intro @Jc (And.intro @N6 (And.intro @Jd (And.intro @Je (And.intro @Eo (And.intro @yI (And.intro @Jf (And.intro @Bt (And.intro @Lg (And.intro @Ep (And.intro @Jg (And.intro @Lh (And.intro @Er (And.intro @v_c (And.intro @v_and (And.intro @Es (And.intro @Et (And.intro @v_or (And.intro @Jh (And.intro @Ji (And.intro @v_not (And.intro @Eu (And.intro @N7 (And.intro @Jj (And.intro @Jk (And.intro @Bu (And.intro @Bv (And.intro @Li (And.intro @Ew (And.intro @Ey (And.intro @Jl (And.intro @Bw (And.intro @v_ite (And.intro @Ez (And.intro @EY (And.intro @Lj (And.intro @E_ (And.intro @Lk (And.intro @Fb (And.intro @yJ (And.intro @Ln (And.intro @Fd (And.intro @Fe (And.intro @N8 (And.intro @N_ (And.intro @Lq (And.intro @Lr (And.intro @Fg (And.intro @Ls (And.intro @Fi (And.intro @Oa (And.intro @Jm (And.intro @Jo (And.intro @Lw (And.intro @Jp (And.intro @Lx (And.intro @Fj (And.intro @Ly (And.intro @Fp (And.intro @Fq (And.intro @yK (And.intro @yL (And.intro @Lz (And.intro @Ft (And.intro @Fv (And.intro @Jq (And.intro @Bx (And.intro @LC (And.intro @Jr (And.intro @Js (And.intro @LK (And.intro @LQ (And.intro @Ob (And.intro @Od (And.intro @Oe (And.intro @Og (And.intro @LR (And.intro @L_ (And.intro @Mf (And.intro @Jt (And.intro @Mg (And.intro @Mh (And.intro @Mi (And.intro @Mj (And.intro @Oh (And.intro @Mp (And.intro @vm (And.intro @Ju (And.intro @Fw (And.intro @Mq (And.intro @Mr (And.intro @Fx (And.intro @Jw (And.intro @Jx (And.intro @Oj (And.intro @Jy (And.intro @Ol (And.intro @Om (And.intro @Jz (And.intro @JB @BJ)))))))))))))))))))))))))))))))))))))))))))))))))))))))))))))))))))))))))))))))))))))))))))))))))))))))))))))))
end D3
namespace My
def j8 (ns:List Int) (i:Int):Int :=
 if i < (ns.length:Int) then ns.getD i.toNat 0 % 1000000007
 else if ns=[] then 7919 * i + 5000011
 else ns.getD (i * 7 % (ns.length:Int)).toNat 0 % 1000000007 + 7919 * i
def divs (n:Int):Nat→Int
 | 0=>n
 | k + 1=>divs n k / 1000003
def xG (c i k m:Int):Int :=
 (((c + 65537 * i + 3) * (1299709 + 15485863 * k) % 2147483629 * ((c + 65537 * i + 3) * (1299709 + 15485863 * k) % 2147483629) % 1500450271 + 104729) *
  ((c + 65537 * i + 3) * (1299709 + 15485863 * k) % 2147483629 * ((c + 65537 * i + 3) * (1299709 + 15485863 * k) % 2147483629) % 1500450271 + 104729)) % 715827883 / 64 % m
def iZ (ns:List Int) (i k m:Int):Int :=
 if i < (ns.length:Int)∧10 ^ 40 ≤ ns.getD i.toNat 0∧0 < divs (ns.getD i.toNat 0) k.toNat then divs (ns.getD i.toNat 0) k.toNat % 1000003 % m
 else xG (j8 ns i) i k m
theorem fH (ns:List Int) (i k:Int) {m:Int} (h:0 < m):0 ≤ iZ ns i k m∧iZ ns i k m < m:=by
 unfold iZ xG
 split
 ·exact ⟨gB _ (by omega),eE _ h⟩
 ·exact ⟨gB _ (by omega),eE _ h⟩
theorem yM {ns:List Int} {i k m:Int} (h1:i < (ns.length:Int)) (h2:10 ^ 40 ≤ ns.getD i.toNat 0) (h3:0 < divs (ns.getD i.toNat 0) k.toNat) :
 iZ ns i k m=divs (ns.getD i.toNat 0) k.toNat % 1000003 % m:=by
 unfold iZ
 rw [if_pos ⟨h1,h2,h3⟩]
theorem nF {ns:List Int} {i k m:Int} (h:¬ (i < (ns.length:Int)∧10 ^ 40 ≤ ns.getD i.toNat 0∧0 < divs (ns.getD i.toNat 0) k.toNat)) :
 iZ ns i k m=xG (j8 ns i) i k m:=by
 unfold iZ
 rw [if_neg h]
end My
namespace Com
open PySem D3
noncomputable def f9:List D→Option D:=fnD 2 0 (dF (sIf (cT (dOp gLt (aJ 1) (dCall tR (aC (aJ 0) (bN))))) (fX (dOp nC (dOp gIx (aJ 0) (aJ 1)) (dC (.int 1000000007)))) (jt))
 (dF (sIf (cT (dOp gEq (aJ 0) (mq (bN)))) (fX (dOp iQ (dOp m5 (dC (.int 7919)) (aJ 1)) (dC (.int 5000011)))) (jt))
 (fX (dOp iQ (dOp nC (dOp gIx (aJ 0) (dOp nC (dOp m5 (aJ 1) (dC (.int 7))) (dCall tR (aC (aJ 0) (bN))))) (dC (.int 1000000007))) (dOp m5 (dC (.int 7919)) (aJ 1))))))
noncomputable def cj:List D→Option D:=fnD 4 2 (dF (sIf (D3.tH (cT (dOp gLt (aJ 1) (dCall tR (aC (aJ 0) (bN))))) (cT (dOp gGe (dOp gIx (aJ 0) (aJ 1)) (dOp Hw (dC (.int 10)) (dC (.int 40)))))) (dF (cI 4 (dOp gIx (aJ 0) (aJ 1)))
 (dF (rJ (mC (aC (aJ 2) (bN))) (gNl 5) (cI 4 (dOp rK (aJ 4) (dC (.int 1000003)))))
 (sIf (cT (dOp gGt (aJ 4) (dC (.int 0)))) (fX (dOp nC (dOp nC (aJ 4) (dC (.int 1000003))) (aJ 3))) (jt)))) (jt))
 (dF (cI 4 (dOp nC (dOp m5 (dOp iQ (dOp iQ (dCall f9 (aC (aJ 0) (aC (aJ 1) (bN)))) (dOp m5 (dC (.int 65537)) (aJ 1))) (dC (.int 3))) (dOp iQ (dC (.int 1299709)) (dOp m5 (dC (.int 15485863)) (aJ 2)))) (dC (.int 2147483629))))
 (dF (cI 4 (dOp iQ (dOp nC (dOp m5 (aJ 4) (aJ 4)) (dC (.int 1500450271))) (dC (.int 104729))))
 (fX (dOp nC (dOp rK (dOp nC (dOp m5 (aJ 4) (aJ 4)) (dC (.int 715827883))) (dC (.int 64))) (aJ 3))))))
noncomputable def dW:List D→Option D:=fnD 2 0 (fX (oZ gLe gLt (dOp gIx (aJ 0) (dC (.int 0))) (aJ 1) (dOp gIx (aJ 0) (dC (.int 1)))))
noncomputable def fJ:List D→Option D:=fnD 2 2 (dF (cI 2 (dCall uM (aC (dOp gIx (aJ 0) (dC (.int 0))) (aC (dOp gIx (aJ 1) (dC (.int 0))) (bN)))))
 (dF (cI 3 (dCall su (aC (dOp gIx (aJ 0) (dC (.int 1))) (aC (dOp gIx (aJ 1) (dC (.int 1))) (bN)))))
 (dF (sIf (cT (dOp gGe (aJ 2) (aJ 3))) (fX (dC (.none))) (jt))
 (fX (dTup (aC (eH (aJ 2)) (aC (eH (aJ 3)) (bN))))))))
noncomputable def cC:List D→Option D:=fnD 4 2 (dF (cI 4 (dOp iQ (dCall cj (aC (aJ 0) (aC (aJ 1) (aC (aJ 2) (aC (dOp gIx (mq (aC (dC (.int 6)) (aC (dC (.int 40)) (aC (dC (.int 400)) (aC (dC (.int 12)) (aC (dC (.int 8)) (bN))))))) (aJ 3)) (bN)))))) (dOp gIx (mq (aC (dC (.int 0)) (aC (dC (.int 0)) (aC (dC (.int 0)) (aC (dC (.int 200)) (aC (dC (.int 392)) (bN))))))) (aJ 3))))
 (dF (cI 5 (mq (aC (dOp iQ (dC (.int 1)) (dCall cj (aC (aJ 0) (aC (aJ 1) (aC (dOp iQ (aJ 2) (dC (.int 1))) (aC (dC (.int 3)) (bN))))))) (aC (dOp iQ (dC (.int 1)) (dCall cj (aC (aJ 0) (aC (aJ 1) (aC (dOp iQ (aJ 2) (dC (.int 1))) (aC (dOp gIx (mq (aC (dC (.int 8)) (aC (dC (.int 40)) (aC (dC (.int 400)) (aC (dC (.int 20)) (aC (dC (.int 8)) (bN))))))) (aJ 3)) (bN))))))) (bN)))))
 (fX (dTup (aC (eH (aJ 4)) (aC (dCall su (aC (dC (.int 400)) (aC (dOp iQ (aJ 4) (dOp gIx (aJ 5) (dCall cj (aC (aJ 0) (aC (aJ 1) (aC (dOp iQ (aJ 2) (dC (.int 2))) (aC (dC (.int 2)) (bN)))))))) (bN)))) (bN)))))))
noncomputable def bJ:List D→Option D:=fnD 2 0 (fX (dCall tR (aC (jd (oY (aJ 0)) (gNl 0) (cT (dCall dW (aC (aJ 0) (aC (aJ 1) (bN))))) (eH (aJ 0)) 1 [1]) (bN))))
noncomputable def fV:List D→Option D:=fnD 1 0 (fX (jd (oY (aJ 0)) (gNl 0) (lF) (eH (dOp gIx (aJ 0) (dC (.int 0)))) 1 []))
noncomputable def dw:List D→Option D:=fnD 1 4 (dF (cI 1 (dC (.int 0)))
 (dF (cI 2 (dC (.int 0)))
 (dF (rJ (oY (dCall pA (aC (dCall fV (aC (aJ 0) (bN))) (bN)))) (gNl 3) (dF (cI 4 (dCall bJ (aC (aJ 0) (aC (aJ 3) (bN)))))
 (sIf (cT (dOp gGt (aJ 4) (aJ 1))) (dF (cI 1 (aJ 4))
 (cI 2 (aJ 3))) (jt))))
 (fX (dTup (aC (eH (aJ 1)) (aC (eH (aJ 2)) (bN))))))))
noncomputable def gU:List D→Option D:=fnD 1 1 (dF (cI 1 (dCall cj (aC (aJ 0) (aC (dC (.int 0)) (aC (dC (.int 0)) (aC (dC (.int 5)) (bN)))))))
 (dF (sIf (cT (dOp gEq (dCall cj (aC (aJ 0) (aC (dC (.int 0)) (aC (dC (.int 1)) (aC (dC (.int 6)) (bN)))))) (dC (.int 1)))) (fX (jd (mC (aC (dOp iQ (dC (.int 24)) (dCall cj (aC (aJ 0) (aC (dC (.int 0)) (aC (dC (.int 2)) (aC (dC (.int 36)) (bN))))))) (bN))) (gNl 0) (lF) (dCall cC (aC (aJ 1) (aC (dOp iQ (dC (.int 4)) (aJ 0)) (aC (dC (.int 0)) (aC (aJ 2) (bN)))))) 1 [0,1])) (jt))
 (fX (jd (mC (aC (dCall cj (aC (aJ 0) (aC (dC (.int 0)) (aC (dC (.int 3)) (aC (dC (.int 14)) (bN)))))) (bN))) (gNl 0) (lF) (dCall cC (aC (aJ 1) (aC (dOp iQ (dC (.int 4)) (aJ 0)) (aC (dC (.int 0)) (aC (aJ 2) (bN)))))) 1 [0,1]))))
noncomputable def j9:List D→Option D:=fnD 1 1 (dF (cI 1 (dCall pq (aC (aJ 0) (bN))))
 (dF (sIf (cT (dOp gEq (aJ 1) (dC (.int 0)))) (fX (dTup (aC (dC (.int 0)) (aC (dC (.int 0)) (bN))))) (jt))
 (fX (dTup (aC (eH (aJ 1)) (aC (dOp Hx (aJ 0) (aJ 1)) (bN)))))))
noncomputable def fK:List D→Option D:=fnD 3 2 (dF (cI 3 (jd (oY (dCall fV (aC (aJ 0) (bN)))) (gNl 0) (cT (dOp gGt (aJ 0) (aJ 1))) (eH (aJ 0)) 1 [2]))
 (dF (rJ (oY (dOp qt (mq (aC (aJ 2) (bN))) (dCall pA (aC (aJ 3) (bN))))) (gNl 4) (sIf (cT (dOp gGt (dCall bJ (aC (aJ 0) (aC (aJ 4) (bN)))) (aJ 1))) (fX (eH (aJ 4))) (jt)))
 (fX (dC (.none)))))
noncomputable def cW:List D→Option D:=fnD 2 0 (dF (sIf (cT (dUn yp (aJ 0))) (fX (eH (aJ 1))) (jt))
 (dF (sIf (cT (dUn yp (aJ 1))) (fX (eH (aJ 0))) (jt))
 (fX (dCall su (aC (aJ 0) (aC (aJ 1) (bN)))))))
noncomputable def cF:List D→Option D:=fnD 3 1 (dF (rJ (wH (aC (dOp gIx (aJ 1) (dC (.int 0))) (aC (dOp gIx (aJ 1) (dC (.int 1))) (bN)))) (gNl 3) (sIf (cT (dOp gEq (dOp gIx (aJ 0) (aJ 3)) (aJ 2))) (fX (eH (aJ 3))) (jt)))
 (fX (dC (.none))))
end Com
namespace Com
open PySem D3 My
theorem oO {ns:List Int} {i:Int} (h0:0 ≤ i) (h1:i < ns.length):pAt (ns.map PyData.int) i=some (.int (ns.getD i.toNat 0)):=by
 unfold pAt pIx
 rw [aH,if_pos h0,if_pos h1,aD,aZ]
 have h:i.toNat < ns.length:=by omega
 rw [bC h]
 simp [List.getD,h]
theorem oR {l:List D} {k:Nat}:pAt l (k:Int)=l[k]?:=by
 unfold pAt pIx
 rw [if_pos (by omega)]
 by_cases h:k < l.length
 ·rw [if_pos (by omega),aD]
  simp
 ·rw [if_neg (by omega),cJ (by omega)]
  rfl
theorem at0 {a:D} {l:List D}:pAt (a :: l) 0=some a:=oR (k:=0)
theorem at1 {a b:D} {l:List D}:pAt (a :: b :: l) 1=some b:=oR (k:=1)
theorem uq {i j:Int} (h:0 < j):nC (.int i) (.int j)=some (.int (i % j)):=by
 show (if decide (j ≠ 0)=true then some (PyData.int (i.fmod j)) else none)=_
 rw [if_pos (dTr (by omega)),Int.fmod_eq_emod_of_nonneg i (by omega)]
theorem BP {j:Int} (h:j.natAbs < 2 ^ 64):j.natAbs < 2 ^ 9000:=bF h (Nat.pow_le_pow_right (by decide) (by decide))
theorem Ov {i j:Int} (h:0 < j) (h2:j.natAbs < 2 ^ 9000):rK (.int i) (.int j)=some (.int (i / j)):=by
 show (if vJ i j=true then some (PyData.int (i.fdiv j)) else none)=_
 have e:vJ i j=true:=by
  unfold vJ
  rw [aU]
  exact ⟨dTr (by omega),dTr h2⟩
 rw [if_pos e,Int.fdiv_eq_ediv_of_nonneg i (by omega)]
theorem JN {i j:Int} (h:0 < j) (h2:j < 18446744073709551616):rK (.int i) (.int j)=some (.int (i / j)):=Ov h (BP (by omega))
theorem mulL {i j:Int} (h1 : -18446744073709551616 < i) (h2:i < 18446744073709551616):m5 (.int i) (.int j)=some (.int (i * j)):=by
 show (if qm i j=true then some (PyData.int (i * j)) else none)=_
 have e:qm i j=true:=by
  unfold qm
  rw [dTr (show i.natAbs < 2 ^ 64 by omega)]
  rfl
 rw [if_pos e]
theorem mulR {i j:Int} (h1 : -18446744073709551616 < j) (h2:j < 18446744073709551616):m5 (.int i) (.int j)=some (.int (i * j)):=by
 show (if qm i j=true then some (PyData.int (i * j)) else none)=_
 have e:qm i j=true:=by
  unfold qm
  rw [dTr (show j.natAbs < 2 ^ 64 by omega),Bool.or_true]
  rfl
 rw [if_pos e]
theorem Gy:Hw (.int 10) (.int 40)=some (.int (10 ^ 40)):=rfl
theorem sz {n:Nat} (h:n ≤ 1000000):n ≤ sizeLine:=bU h (by decide)
theorem shaped_ints (ns:List Int):SeqAt.shaped (.list (ns.map PyData.int))=true:=by
 have h1:∀ ns:List Int,PyData.canLayAll0 (ns.map PyData.int)=true:=fun ns=>by
  induction ns with
  | nil=>rfl
  | cons a r ih=>simp [PyData.canLayAll0,PyData.canLay0,ih]
 have h2:∀ ns:List Int,PyData.depthAll (ns.map PyData.int) ≤ 1:=fun ns=>by
  induction ns with
  | nil=>simp [PyData.depthAll]
  | cons a r ih=>simp [PyData.depthAll,PyData.depth];omega
 unfold SeqAt.shaped
 rw [aU]
 refine ⟨by simp [PyData.canLay0,h1],dTr ?_⟩
 have:=h2 ns
 simp only [PyData.depth]
 omega
theorem eq_empty (ns:List Int):gEq (.list (ns.map PyData.int)) (.list [])=some (.bool (decide (ns=[]))):=by
 unfold gEq
 rw [shaped_ints ns]
 cases ns with
 | nil=>rfl
 | cons a r=>rfl
theorem yN {ns:List Int} {i:Int} (h0:0 ≤ i):f9 [.list (ns.map .int),.int i]=some (.int (j8 ns i)):=by
 unfold f9 j8
 by_cases h:i < (ns.length:Int)
 ·rw [if_pos h]
  simp only [EV,reduceIte,ao,aq,aj,ak,au,aA,aB,lMp,dTr h,oO h0 h,uq (show (0:Int) < 1000000007 by decide)]
 ·rw [if_neg h]
  by_cases hn:ns=[]
  ·rw [if_pos hn]
   simp only [EV,reduceIte,ao,aq,aj,ak,au,aA,aB,lMp,dFa h,eq_empty,dTr hn,d9,mulL (show (-18446744073709551616:Int) < 7919 by decide) (show (7919:Int) < 18446744073709551616 by decide)]
  ·rw [if_neg hn]
   have hl:0 < ns.length:=by
    cases ns with
    | nil=>exact absurd rfl hn
    | cons _ _=>simp
   have h7:0 ≤ i * 7 % (ns.length:Int):=gB _ (by omega)
   have h8:i * 7 % (ns.length:Int) < (ns.length:Int):=eE _ (by omega)
   simp only [EV,reduceIte,ao,aq,aj,ak,au,aA,aB,lMp,dFa h,eq_empty,dFa hn,d9,mulL (show (-18446744073709551616:Int) < 7919 by decide) (show (7919:Int) < 18446744073709551616 by decide),mulR (show (-18446744073709551616:Int) < 7 by decide) (show (7:Int) < 18446744073709551616 by decide),uq (show (0:Int) < 1000000007 by decide),uq (show (0:Int) < ns.length by omega),oO h7 h8]
theorem sX {l:D} {i k m:D} (n:Int):∀ (js:List D) (c:Nat) (y:Option U),(∀ j ∈ js,∃ x,j = .int x)→∃ y',jY (gNl 5) (cI 4 (dOp rK (aJ 4) (dC (.int 1000003)))) js [some (.d l),some (.d i),some (.d k),some (.d m),some (.d (.int (divs n c))),y] =
 some (.nx [some (.d l),some (.d i),some (.d k),some (.d m),some (.d (.int (divs n (c + js.length)))),y'])
 | [],c,y,_=>⟨y,rfl⟩
 | j :: js,c,y,h=>by
  obtain ⟨y',e⟩:=sX (l:=l) (i:=i) (k:=k) (m:=m) n js (c + 1) (some (.d j)) fun j' hj=>h j' (aN _ hj)
  refine ⟨y',?_⟩
  rw [jY]
  simp only [EV,reduceIte,ao,aq,aj,ak,au,aA,aB,JN (show (0:Int) < 1000003 by decide) (show (1000003:Int) < 18446744073709551616 by decide),aD]
  rw [show c + (js.length + 1)=c + 1 + js.length by omega,← e]
  rfl
theorem yO (lo hi:Int):∀ j ∈ fU lo hi,∃ x,j = .int x:=by
 intro j hj
 unfold fU at hj
 obtain ⟨k,_,rfl⟩:=bQ.mp hj
 exact ⟨_,rfl⟩
theorem fW {ns:List Int} {i k m:Int} (h0:0 ≤ i) (hk0:0 ≤ k) (hk:k ≤ 1000) (hm:0 < m):cj [.list (ns.map .int),.int i,.int k,.int m]=some (.int (iZ ns i k m)):=by
 have rest:∀ x y:Option U,qFn ((dF (cI 4 (dOp nC (dOp m5 (dOp iQ (dOp iQ (dCall f9 (aC (aJ 0) (aC (aJ 1) (bN)))) (dOp m5 (dC (.int 65537)) (aJ 1))) (dC (.int 3))) (dOp iQ (dC (.int 1299709)) (dOp m5 (dC (.int 15485863)) (aJ 2)))) (dC (.int 2147483629))))
  (dF (cI 4 (dOp iQ (dOp nC (dOp m5 (aJ 4) (aJ 4)) (dC (.int 1500450271))) (dC (.int 104729))))
  (fX (dOp nC (dOp rK (dOp nC (dOp m5 (aJ 4) (aJ 4)) (dC (.int 715827883))) (dC (.int 64))) (aJ 3))))) [some (.d (.list (ns.map .int))),some (.d (.int i)),some (.d (.int k)),some (.d (.int m)),x,y])=some (.int (xG (j8 ns i) i k m)):=by
  intro x y
  have b1:0 ≤ (j8 ns i + 65537 * i + 3) * (1299709 + 15485863 * k) % 2147483629:=gB _ (by decide)
  have b2:(j8 ns i + 65537 * i + 3) * (1299709 + 15485863 * k) % 2147483629 < 2147483629:=eE _ (by decide)
  have b3:0 ≤ (j8 ns i + 65537 * i + 3) * (1299709 + 15485863 * k) % 2147483629 * ((j8 ns i + 65537 * i + 3) * (1299709 + 15485863 * k) % 2147483629) % 1500450271:=gB _ (by decide)
  have b4:(j8 ns i + 65537 * i + 3) * (1299709 + 15485863 * k) % 2147483629 * ((j8 ns i + 65537 * i + 3) * (1299709 + 15485863 * k) % 2147483629) % 1500450271 < 1500450271:=eE _ (by decide)
  simp only [EV,reduceIte,ao,aq,aj,ak,au,aA,aB,yN h0,mulL (show (-18446744073709551616:Int) < 65537 by decide) (show (65537:Int) < 18446744073709551616 by decide),mulL (show (-18446744073709551616:Int) < 15485863 by decide) (show (15485863:Int) < 18446744073709551616 by decide),
   mulR (i:=j8 ns i + 65537 * i + 3) (show (-18446744073709551616:Int) < 1299709 + 15485863 * k by omega) (show 1299709 + 15485863 * k < (18446744073709551616:Int) by omega),uq (show (0:Int) < 2147483629 by decide)]
  simp only [mulL (show (-18446744073709551616:Int) < (j8 ns i + 65537 * i + 3) * (1299709 + 15485863 * k) % 2147483629 by omega) (show (j8 ns i + 65537 * i + 3) * (1299709 + 15485863 * k) % 2147483629 < (18446744073709551616:Int) by omega)]
  simp only [EV,reduceIte,ao,aq,aj,ak,au,aA,aB,uq (show (0:Int) < 1500450271 by decide)]
  rw [mulL (by omega) (by omega)]
  simp only [EV,reduceIte,ao,aq,aj,ak,au,aA,aB,uq (show (0:Int) < 715827883 by decide),JN (show (0:Int) < 64 by decide) (show (64:Int) < 18446744073709551616 by decide),uq hm]
  rfl
 unfold cj
 rw [Lz]
 simp only [EV,reduceIte,ao,aq,aj,ak,au,aA,aB]
 by_cases h:i < (ns.length:Int)
 ·by_cases h2:10 ^ 40 ≤ ns.getD i.toNat 0
  ·simp only [EV,reduceIte,ao,aq,aj,ak,au,aA,aB,lMp,dTr h,oO h0 h,Gy,dTr h2]
   obtain ⟨y',e⟩:=sX (l:=.list (ns.map .int)) (i:=.int i) (k:=.int k) (m:=.int m) (ns.getD i.toNat 0) (fU 0 k) 0 none (yO 0 k)
   have el:0 + (fU 0 k).length=k.toNat:=by simp [fU]
   rw [el] at e
   have e':jY (gNl 5) (cI 4 (dOp rK (aJ 4) (dC (.int 1000003)))) (fU 0 k) [some (.d (.list (ns.map .int))),some (.d (.int i)),some (.d (.int k)),some (.d (.int m)),some (.d (.int (ns.getD i.toNat 0))),none] =
    some (.nx [some (.d (.list (ns.map .int))),some (.d (.int i)),some (.d (.int k)),some (.d (.int m)),some (.d (.int (divs (ns.getD i.toNat 0) k.toNat))),y']):=e
   rw [Fy (by omega) (by omega)]
   simp only [EV,reduceIte,ao,aq,aj,ak,au,aA,aB,e']
   by_cases h3:0 < divs (ns.getD i.toNat 0) k.toNat
   ·simp only [EV,reduceIte,ao,aq,aj,ak,au,aA,aB,dTr h3,uq (show (0:Int) < 1000003 by decide),uq hm]
    rw [yM h h2 h3]
   ·simp only [EV,reduceIte,ao,aq,aj,ak,au,aA,aB,dFa h3]
    rw [nF (fun z=>h3 z.2.2)]
    have:=rest (some (.d (.int (divs (ns.getD i.toNat 0) k.toNat)))) y'
    simp only [EV,reduceIte,ao,aq,aj,ak,au,aA,aB] at this
    exact this
  ·simp only [EV,reduceIte,ao,aq,aj,ak,au,aA,aB,lMp,dTr h,oO h0 h,Gy,dFa h2]
   rw [nF (fun z=>h2 z.2.1)]
   have:=rest none none
   simp only [EV,reduceIte,ao,aq,aj,ak,au,aA,aB] at this
   exact this
 ·simp only [EV,reduceIte,ao,aq,aj,ak,au,aA,aB,lMp,dFa h]
  rw [nF (fun z=>h z.1)]
  have:=rest none none
  simp only [EV,reduceIte,ao,aq,aj,ak,au,aA,aB] at this
  exact this
end Com
namespace Com
open PySem D3 My
theorem JQ {α:Type} {g:FG} {c:FT} {e:FE} {δ:DS} (f:α→D) (p:α→Bool) (h:α→D):∀ l:List α,(∀ s ∈ l,∃ δ1,g (f s) δ=some δ1∧c δ1=some (p s)∧(p s=true→e δ1=some (h s)))→fG g c e δ (l.map f)=some ((l.filter p).map h)
 | [],_=>rfl
 | s :: r,hs=>by
  obtain ⟨δ1,e1,e2,e3⟩:=hs s aM
  have ih:=JQ f p h r fun x hx=>hs x (aN _ hx)
  rw [bY,fG,e1,aD,e2,aD]
  by_cases c:p s=true
  ·rw [if_pos c,e3 c,aD,ih,List.filter_cons,if_pos c]
   rfl
  ·rw [if_neg c,ih,List.filter_cons,if_neg c]
theorem yP {α:Type} {g:FG} {c:FT} {e:FE} {δ:DS} (f:α→D) (h:α→D):∀ l:List α,(∀ s ∈ l,∃ δ1,g (f s) δ=some δ1∧c δ1=some true∧e δ1=some (h s))→fG g c e δ (l.map f)=some (l.map h)
 | [],_=>rfl
 | s :: r,hs=>by
  obtain ⟨δ1,e1,e2,e3⟩:=hs s aM
  rw [bY,fG,e1,aD,e2,aD,if_pos rfl,e3,aD,yP f h r fun x hx=>hs x (aN _ hx)]
  rfl
theorem sY {α:Type} (f:α→D) (h:∀ a,flat (f a)=true):∀ l:List α,flats (l.map f)=true
 | []=>rfl
 | a :: r=>by rw [bY,flats,h,sY f h r];rfl
theorem v9 (l:List Int):flats (l.map PyData.int)=true:=sY _ (fun _=>rfl) l
theorem pZ (m:Int):fU 0 m=(aW m.toNat).map fun k:Nat=>PyData.int (k:Int):=by
 unfold fU
 rw [lA]
 apply mZ
 intro k _
 rw [Int.zero_add]
theorem BR {v k:Int} (h:k ≤ 1000000) (h' : -(2 ^ 63) ≤ k):uN (.list [.int v]) (.int k)=some (.list ((aR k.toNat v).map PyData.int)):=by
 show (if [PyData.int v].length * k.toNat ≤ 1000000∧-(2 ^ 63) ≤ k∧k < 2 ^ 63 then some (PyData.list (aR k.toNat [PyData.int v]).flatten) else none)=_
 rw [if_pos ⟨by simp only [bL,jx];omega,h',by omega⟩]
 congr 2
 generalize k.toNat=n
 induction n with
 | zero=>rfl
 | succ n ih=>rw [cB,dO,ih,cB,bY];rfl
theorem Gz {l:List D} {k:Int} (h:0 ≤ k):cutD l (some k) none=l.drop k.toNat:=by
 unfold cutD
 have e:pSx l.length 0 (some k)=min k.toNat l.length:=by
  show (if k < 0 then _ else _)=_
  rw [if_neg (by omega)]
 rw [e,show pSx l.length l.length none=l.length from rfl]
 by_cases c:k.toNat ≤ l.length
 ·rw [show min k.toNat l.length=k.toNat by omega,bW (by rw [bV];omega)]
 ·rw [show min k.toNat l.length=l.length by omega,lB (by omega),lB (by omega)]
  simp
theorem BW {l:List D} {k:Int} (h:0 ≤ k):cutD l none (some k)=l.take k.toNat:=by
 unfold cutD
 have e:pSx l.length l.length (some k)=min k.toNat l.length:=by
  show (if k < 0 then _ else _)=_
  rw [if_neg (by omega)]
 rw [e,show pSx l.length 0 none=0 from rfl,cL,jD,List.take_eq_take_iff]
 omega
theorem isList:D3.isT "list" "list" = true:=rfl
mutual
theorem eqv_refl:∀ d:D,d.canLay0=true→PyData.eqv d d=true
 | .none,_=>by simp [PyData.eqv]
 | .bool b,_=>by simp [PyData.eqv]
 | .int i,_=>by simp [PyData.eqv]
 | .str x,_=>by simp [PyData.eqv]
 | .list l,h=>by
  have:=eqvAll_refl l (by simpa [PyData.canLay0] using h)
  simpa [PyData.eqv] using this
 | .tuple l,h=>by
  have:=eqvAll_refl l (by simpa [PyData.canLay0] using h)
  simpa [PyData.eqv] using this
 | .dict l,h=>by simp [PyData.canLay0] at h
theorem eqvAll_refl:∀ l:List D,PyData.canLayAll0 l=true→PyData.eqvAll l l=true
 | [],_=>by simp [PyData.eqvAll]
 | d :: r,h=>by
  rw [PyData.canLayAll0,aU] at h
  rw [PyData.eqvAll,eqv_refl d h.1,eqvAll_refl r h.2]
  rfl
end
def ly (n:Nat) (d:D):Prop:=d.canLay0=true∧d.depth ≤ n
def lys (n:Nat) (l:List D):Prop:=PyData.canLayAll0 l=true∧PyData.depthAll l ≤ n
theorem BX {n m:Nat} {d:D} (h:ly n d) (l:n ≤ m):ly m d:=⟨h.1,bU h.2 l⟩
theorem xH {n:Nat}:lys n []:=⟨by simp [PyData.canLayAll0],by simp [PyData.depthAll]⟩
theorem rA {n:Nat} {d:D} {l:List D} (h:ly n d) (q:lys n l):lys n (d :: l) :=
 ⟨by rw [PyData.canLayAll0,h.1,q.1];rfl,by have:=h.2;have:=q.2;simp only [PyData.depthAll];omega⟩
theorem ur {α:Type} {n:Nat} (f:α→D) (h:∀ a,ly n (f a)):∀ l:List α,lys n (l.map f)
 | []=>xH
 | a :: r=>rA (h a) (ur f h r)
theorem xJ {n:Nat} {l:List D} (h:lys n l):ly (n + 1) (.list l):=⟨by simp [PyData.canLay0,h.1],by have:=h.2;simp only [PyData.depth];omega⟩
theorem JR {n:Nat} {l:List D} (h:lys n l):ly (n + 1) (.tuple l):=⟨by simp [PyData.canLay0,h.1],by have:=h.2;simp only [PyData.depth];omega⟩
theorem rB {n:Nat} {i:Int}:ly (n + 1) (.int i):=⟨rfl,by simp [PyData.depth]⟩
theorem sZ {d:D} (h:ly 60 d):SeqAt.shaped d=true:=by
 unfold SeqAt.shaped
 rw [aU]
 exact ⟨h.1,dTr (by have:=h.2;omega)⟩
theorem ne_self {d:D} (h:ly 60 d):gNe d d=some (.bool false):=by
 unfold gNe
 rw [sZ h,eqv_refl d h.1]
 rfl
theorem ne_nil {l:List D} (h:ly 60 (.list l)):gNe (.list l) (.list [])=some (.bool (!l.isEmpty)):=by
 unfold gNe
 rw [sZ h,show SeqAt.shaped (.list [])=true from rfl]
 cases l <;> simp [PyData.eqv,PyData.eqvAll]
end Com
namespace Com
open PySem D3 My
def q (t b:Int):Rat:=mkRat t b.toNat
end Com
namespace Com
open PySem D3 My
def sm (k:Nat) (x:Int):Prop:=x.natAbs < 2 ^ k
end Com
namespace Com
open PySem D3 My
def tabI (N:Nat) (f:Nat→Int):List D:=(aW N).map fun j=>.int (f j)
theorem kY (N:Nat) (f:Nat→Int):(tabI N f).length=N:=by simp [tabI]
theorem kZ {N k:Nat} (f:Nat→Int) (h:k < N):(tabI N f)[k]? = some (.int (f k)):=by
 unfold tabI
 rw [aZ,dY h]
 rfl
theorem nG {N:Nat} {f g:Nat→Int} (h:∀ j,j < N→f j=g j):tabI N f=tabI N g:=by
 unfold tabI
 apply mZ
 intro j hj
 rw [h j (bA.mp hj)]
theorem yQ (n:Nat):(aR n [PyData.int 0]).flatten=tabI n (fun _=>0):=by
 induction n with
 | zero=>rfl
 | succ n ih =>
  rw [List.replicate_succ',List.flatten_append,ih]
  unfold tabI
  rw [List.range_succ,iz]
  rfl
theorem yR (N:Nat) (f:Nat→Int):flats (tabI N f)=true:=by
 unfold tabI
 generalize aW N=l
 induction l with
 | nil=>rfl
 | cons a r ih=>simp [flats,flat,ih]
structure Tb where
 N:Nat
 w:Nat→Int
 B:Int
def sumTo (f:Nat→Int):Nat→Int
 | 0=>0
 | n + 1=>sumTo f n + f n
structure TbOk (t:Tb) (k:Nat):Prop where
 B0:0 < t.B
 Bs:sm (7 * k + 1) t.B
 w0:∀ j,0 ≤ t.w j
 wB:∀ j,t.w j ≤ t.B
 wz:∀ j,t.N ≤ j→t.w j=0
 N1:1 ≤ t.N
 N4:t.N ≤ 1 + 4 * k
 sum:sumTo t.w t.N=t.B
theorem comp_map {g:FG} {c:FT} {e:FE} {δ:DS} (h:D→D):∀ l:List D,(∀ d ∈ l,∃ δ1,g d δ=some δ1∧c δ1=some true∧e δ1=some (h d))→fG g c e δ l=some (l.map h)
 | [],_=>rfl
 | d :: r,hs=>by
  obtain ⟨δ1,e1,e2,e3⟩:=hs d aM
  rw [fG,e1,aD,e2,aD,if_pos rfl,e3,aD,comp_map h r fun x hx=>hs x (aN _ hx)]
  rfl
end Com
namespace Com
open PySem D3 My
end Com
namespace Com
open PySem D3 My
structure bd (k:Nat) (a:Rat):Prop where
 n:sm k a.num
 d:sm k (a.den:Int)
end Com
namespace Com
open PySem D3 My
end Com
namespace Com
open PySem D3 My
abbrev Sh:=Int × Int
def stD (s:Sh):D:=.tuple [.int s.1,.int s.2]
def k_ (s:Sh):Prop:=0 ≤ s.1∧s.1 < s.2∧s.2 ≤ 400
def hb (n:Int) (s:Sh):Bool:=decide (s.1 ≤ n) && decide (n < s.2)
def cnt (ss:List Sh) (n:Int):Nat:=(ss.filter (hb n)).length
theorem FJ (r:Sh):flat (stD r)=true:=rfl
theorem lM (s:Sh) (n:Int):dW [stD s,.int n]=some (.bool (hb n s)):=by
 unfold dW stD hb
 by_cases h:s.1 ≤ n
 ·simp only [EV,reduceIte,ao,aq,aj,ak,au,aA,aB,at0,at1,dTr h,Bool.true_and]
 ·simp only [EV,reduceIte,ao,aq,aj,ak,au,aA,aB,at0,at1,dFa h,lW]
theorem pH {g:FG} {c:FT} {e:FE} {δ:DS} (f:Sh→D) (p:Sh→Bool) (h:Sh→D):∀ l:List Sh,(∀ s ∈ l,∃ δ1,g (f s) δ=some δ1∧c δ1=some (p s)∧e δ1=some (h s))→fG g c e δ (l.map f)=some ((l.filter p).map h)
 | [],_=>rfl
 | s :: r,hs=>by
  obtain ⟨δ1,e1,e2,e3⟩:=hs s aM
  have ih:=pH f p h r fun x hx=>hs x (aN _ hx)
  rw [bY,fG,e1,aD,e2,aD]
  cases hp:p s with
  | true =>
   rw [if_pos rfl,e3,aD,ih,iH (by simpa using hp)]
   rfl
  | false =>
   rw [if_neg (by decide),ih,iI (by simpa using hp)]
theorem xK {α:Type} {g:FG} {c:FT} {e:FE} {δ:DS} (f:α→D) (P:α→Prop):∀ l:List D,(∀ d ∈ l,∃ δ1 x,g d δ=some δ1∧c δ1=some true∧P x∧e δ1=some (f x))→∃ xs:List α,xs.length=l.length∧(∀ x ∈ xs,P x)∧fG g c e δ l=some (xs.map f)
 | [],_=>⟨[],rfl,(fun _ h=>by cases h),rfl⟩
 | d :: r,hs=>by
  obtain ⟨δ1,x,e1,e2,hp,e3⟩:=hs d aM
  obtain ⟨xs,l1,h1,e4⟩:=xK f P r fun x hx=>hs x (aN _ hx)
  refine ⟨x :: xs,by simp [l1],fun y hy=>?_,?_⟩
  ·rcases aQ.mp hy with rfl | z
   ·exact hp
   ·exact h1 y z
  ·rw [fG,e1,aD,e2,aD,if_pos rfl,e3,aD,e4]
   rfl
theorem gw {ss:List Sh} (hl:ss.length ≤ 1000) (n:Int):bJ [.list (ss.map stD),.int n]=some (.int (cnt ss n:Int)):=by
 have C:=pH (g:=gNl 0) (c:=cT (dCall dW (aC (aJ 0) (aC (aJ 1) (bN))))) (e:=eH (aJ 0)) (δ:=[none,some (.d (.int n))]) stD (hb n) stD ss (fun s _=>⟨[some (.d (stD s)),some (.d (.int n))],rfl,by simp only [EV,reduceIte,ao,aq,aj,ak,au,aA,aB,lM],by simp only [EV,reduceIte,ao,aq,aj,ak,au,aA,aB,FJ]⟩)
 unfold bJ
 simp only [EV,reduceIte,ao,aq,aj,ak,au,aA,aB,lMp,show ss.length ≤ 100000 by omega]
 rw [show kJ 1 [1] [some (U.d (PyData.list (ss.map stD))),some (U.d (PyData.int n))]=[none,some (.d (.int n))] from rfl,C]
 simp only [EV,reduceIte,ao,aq,aj,ak,au,aA,aB,lMp]
 rfl
theorem mJ {ss:List Sh} (hl:ss.length ≤ 1000):fV [.list (ss.map stD)]=some (.list ((ss.map (·.1)).map .int)):=by
 unfold fV
 have C:=comp_map (g:=gNl 0) (c:=D3.lF) (e:=eH (dOp gIx (aJ 0) (dC (.int 0)))) (δ:=[none]) (fun d=>match d with | .tuple (a :: _)=>a | _=>.none) (ss.map stD) (fun d hd=>by
  obtain ⟨r,_,rfl⟩:=bQ.mp hd
  refine ⟨[some (.d (stD r))],rfl,rfl,?_⟩
  unfold stD
  simp only [EV,reduceIte,ao,aq,aj,ak,au,aA,aB,at0])
 simp only [EV,reduceIte,ao,aq,aj,ak,au,aA,aB,lMp,show ss.length ≤ 100000 by omega]
 rw [show ∀ a:Option U,kJ 1 [] [a]=[none] from fun _=>rfl,C]
 simp only [EV,reduceIte,ao,aq,aj,ak,au,aA,aB]
 rw [fj,fj]
 rfl
theorem GC {a l:Int} (h0:0 ≤ a) (h1:a < 400) (h2:1 ≤ l):k_ (a,if a + l < 400 then a + l else 400):=by
 unfold k_
 simp only
 split <;> omega
theorem oU (ns:List Int) {a t m:Int} (h0:0 ≤ a) (t0:0 ≤ t) (t1:t ≤ 900) (m0:0 ≤ m) (m1:m < 5):∃ s,k_ s∧cC [.list (ns.map .int),.int a,.int t,.int m]=some (stD s):=by
 have go:∀ A O C:Int,pAt [.int 6,.int 40,.int 400,.int 12,.int 8] m=some (.int A)→pAt [.int 0,.int 0,.int 0,.int 200,.int 392] m=some (.int O)→pAt [.int 8,.int 40,.int 400,.int 20,.int 8] m=some (.int C) →
  0 < A→0 ≤ O→A + O ≤ 400→0 < C→∃ s,k_ s∧cC [.list (ns.map .int),.int a,.int t,.int m]=some (stD s):=by
  intro A O C eA eO eC A0 O0 AO C0
  have p1:=fW (ns:=ns) (i:=a) (k:=t) (m:=A) h0 t0 (by omega) A0
  have p2:=fW (ns:=ns) (i:=a) (k:=t + 1) (m:=3) h0 (by omega) (by omega) (by decide)
  have p3:=fW (ns:=ns) (i:=a) (k:=t + 1) (m:=C) h0 (by omega) (by omega) C0
  have p4:=fW (ns:=ns) (i:=a) (k:=t + 2) (m:=2) h0 (by omega) (by omega) (by decide)
  have r1:=fH ns a t A0
  have r2:=fH ns a (t + 1) (m:=3) (by decide)
  have r3:=fH ns a (t + 1) C0
  have r4:=fH ns a (t + 2) (m:=2) (by decide)
  generalize iZ ns a t A=x1 at *
  generalize iZ ns a (t + 1) 3=x2 at *
  generalize iZ ns a (t + 1) C=x3 at *
  generalize iZ ns a (t + 2) 2=x4 at *
  have c4:x4=0∨x4=1:=by omega
  rcases c4 with rfl | rfl
  ·refine ⟨(x1 + O,if x1 + O + (1 + x2) < 400 then x1 + O + (1 + x2) else 400),GC (by omega) (by omega) (by omega),?_⟩
   unfold cC
   simp only [EV,reduceIte,ao,aq,aj,ak,au,aA,aB,sz (show 5 ≤ 1000000 by decide),sz (show 2 ≤ 1000000 by decide),eA,eO,eC,p1,p2,p3,p4,at0]
   rfl
  ·refine ⟨(x1 + O,if x1 + O + (1 + x3) < 400 then x1 + O + (1 + x3) else 400),GC (by omega) (by omega) (by omega),?_⟩
   unfold cC
   simp only [EV,reduceIte,ao,aq,aj,ak,au,aA,aB,sz (show 5 ≤ 1000000 by decide),sz (show 2 ≤ 1000000 by decide),eA,eO,eC,p1,p2,p3,p4,at1]
   rfl
 have c:m=0∨m=1∨m=2∨m=3∨m=4:=by omega
 rcases c with rfl | rfl | rfl | rfl | rfl
 ·exact go 6 0 8 rfl rfl rfl (by decide) (by decide) (by decide) (by decide)
 ·exact go 40 0 40 rfl rfl rfl (by decide) (by decide) (by decide) (by decide)
 ·exact go 400 0 400 rfl rfl rfl (by decide) (by decide) (by decide) (by decide)
 ·exact go 12 200 20 rfl rfl rfl (by decide) (by decide) (by decide) (by decide)
 ·exact go 8 392 8 rfl rfl rfl (by decide) (by decide) (by decide) (by decide)
theorem some_spec (ns:List Int):∃ ss:List Sh,ss.length ≤ 59∧(∀ s ∈ ss,k_ s)∧gU [.list (ns.map .int)]=some (.list (ss.map stD)):=by
 have e0:=fW (ns:=ns) (i:=0) (k:=0) (m:=5) (by decide) (by decide) (by decide) (by decide)
 have e1:=fW (ns:=ns) (i:=0) (k:=1) (m:=6) (by decide) (by decide) (by decide) (by decide)
 have e2:=fW (ns:=ns) (i:=0) (k:=2) (m:=36) (by decide) (by decide) (by decide) (by decide)
 have e3:=fW (ns:=ns) (i:=0) (k:=3) (m:=14) (by decide) (by decide) (by decide) (by decide)
 have r0:=fH ns 0 0 (m:=5) (by decide)
 have r2:=fH ns 0 2 (m:=36) (by decide)
 have r3:=fH ns 0 3 (m:=14) (by decide)
 generalize iZ ns 0 0 5=mo at *
 generalize iZ ns 0 1 6=w at *
 generalize iZ ns 0 2 36=x2 at *
 generalize iZ ns 0 3 14=x3 at *
 have C:∀ n:Int,∃ ss:List Sh,ss.length=(fU 0 n).length∧(∀ s ∈ ss,k_ s)∧fG (gNl 0) D3.lF (dCall cC (aC (aJ 1) (aC (dOp iQ (dC (.int 4)) (aJ 0)) (aC (dC (.int 0)) (aC (aJ 2) (bN)))))) [none,some (.d (.list (ns.map .int))),some (.d (.int mo))] (fU 0 n)=some (ss.map stD):=fun n =>
  xK stD k_ (fU 0 n) fun d hd=>by
   unfold fU at hd
   obtain ⟨k,_,rfl⟩:=bQ.mp hd
   obtain ⟨s,hs,es⟩:=oU ns (a:=4 + (0 + (k:Int))) (t:=0) (m:=mo) (by omega) (by decide) (by decide) r0.1 r0.2
   exact ⟨[some (.d (.int (0 + (k:Int)))),some (.d (.list (ns.map .int))),some (.d (.int mo))],s,rfl,rfl,hs,by simp only [EV,reduceIte,ao,aq,aj,ak,au,aA,aB,es]⟩
 have ca:∀ a b:U,kJ 1 [0,1] [some a,some b]=[none,some a,some b]:=fun _ _=>rfl
 unfold gU
 by_cases c:w=1
 ·obtain ⟨ss,hl,hs,es⟩:=C (24 + x2)
  have rr:sW (some [.int (24 + x2)])=some (fU 0 (24 + x2)):=Fy (by omega) (by omega)
  have ll:(fU 0 (24 + x2)).length=(24 + x2).toNat:=by unfold fU;rw [aH,cP,lA]
  refine ⟨ss,by omega,hs,?_⟩
  simp only [EV,reduceIte,ao,aq,aj,ak,au,aA,aB,e0,e1,dTr c,e2,rr,ca,es,show (fU 0 (24 + x2)).length ≤ 100000 by omega]
 ·obtain ⟨ss,hl,hs,es⟩:=C x3
  have rr:sW (some [.int x3])=some (fU 0 x3):=Fy (by omega) (by omega)
  have ll:(fU 0 x3).length=x3.toNat:=by unfold fU;rw [aH,cP,lA]
  refine ⟨ss,by omega,hs,?_⟩
  simp only [EV,reduceIte,ao,aq,aj,ak,au,aA,aB,e0,e1,dFa c,e3,rr,ca,es,show (fU 0 x3).length ≤ 100000 by omega]
theorem cnt_cons (s:Sh) (ss:List Sh) (n:Int):cnt (s :: ss) n=(if hb n s then 1 else 0) + cnt ss n:=by
 unfold cnt
 cases h:hb n s with
 | true=>rw [iH h,bL,if_pos rfl,Nat.add_comm]
 | false=>rw [iI (by simp [h]),if_neg (by decide),cY]
end Com
namespace Com
open PySem D3 My
theorem BZ {k:Int}:∀ (l:List Int) (m:Nat),m < l.idxOf k→l[m]? ≠ some k
 | [],m,h=>by simp
 | a :: r,m,h=>by
  by_cases e:a=k
  ·subst e
   rw [List.idxOf_cons_self] at h
   omega
  ·have q:(a :: r).idxOf k=r.idxOf k + 1:=by
    have b:(a == k)=false:=by simpa using e
    unfold List.idxOf
    rw [List.findIdx_cons,b]
    rfl
   rw [q] at h
   cases m with
   | zero=>simp [e]
   | succ m=>simpa using BZ r m (by omega)
theorem vo (N:Nat) (f:Nat→Int):tabI N f=((aW N).map f).map .int:=by
 unfold tabI
 rw [fj]
 rfl
theorem xM {f:Nat→Int} (f0:∀ j,0 ≤ f j):∃ M N:Int,j9 [.list (tabI 400 f)]=some (.tuple [.int M,.int N])∧(∀ j:Nat,j < 400→f j ≤ M) ∧
 ((M=0∧N=0)∨(0 < M∧∃ n:Nat,N=(n:Int)∧n < 400∧f n=M∧∀ j:Nat,j < n→f j < M)):=by
 have sp:=n_ ((aW 399).map fun j=>f (j + 1)) (f 0)
 have er:(aW 400).map f=f 0 :: (aW 399).map fun j=>f (j + 1):=by
  rw [gk,bY,fj]
  rfl
 rw [← er] at sp
 have gm:pq [.list (tabI 400 f)]=some (.int (mxI (f 0) ((aW 399).map fun j=>f (j + 1)))):=by
  unfold pq
  simp only
  rw [vo,jl,er]
 generalize mxI (f 0) ((aW 399).map fun j=>f (j + 1))=M at *
 have le:∀ j:Nat,j < 400→f j ≤ M:=fun j hj=>sp.2 _ (bQ.mpr ⟨j,bA.mpr hj,rfl⟩)
 obtain ⟨j0,hj0,ej0⟩:=bQ.mp sp.1
 have M0:0 ≤ M:=by rw [← ej0];exact f0 j0
 by_cases c:M=0
 ·refine ⟨0,0,?_,by rw [← c];exact le,.inl ⟨rfl,rfl⟩⟩
  unfold j9
  simp only [EV,reduceIte,ao,aq,aj,ak,au,aA,aB,gm,dTr c,sz (show 2 ≤ 1000000 by decide)]
 ·have gi:Hx (.list (tabI 400 f)) (.int M)=some (.int (((aW 400).map f).idxOf M:Nat)):=by
   unfold Hx
   simp only
   rw [vo,jl,aD,if_pos sp.1]
  have hx:((aW 400).map f).idxOf M < ((aW 400).map f).length:=List.idxOf_lt_length_iff.mpr sp.1
  have hx':=hx
  rw [aH,cP] at hx'
  have hg:=List.getElem_idxOf hx
  rw [List.getElem_map,List.getElem_range] at hg
  refine ⟨M,_,?_,le,.inr ⟨by omega,((aW 400).map f).idxOf M,rfl,hx',hg,fun j hj=>?_⟩⟩
  ·unfold j9
   simp only [EV,reduceIte,ao,aq,aj,ak,au,aA,aB,gm,dFa c,gi,sz (show 2 ≤ 1000000 by decide)]
  ·have n1:=BZ _ j hj
   rw [aZ,dY (by omega)] at n1
   have n2:f j ≠ M:=fun z=>n1 (by rw [← z];rfl)
   have:=le j (by omega)
   omega
theorem FN {ss:List Sh} {n:Int} (h:0 < cnt ss n):∃ s ∈ ss,hb n s=true:=by
 unfold cnt at h
 cases hf:ss.filter (hb n) with
 | nil=>rw [hf] at h;simp at h
 | cons a r =>
  have:a ∈ ss.filter (hb n):=by rw [hf];exact aM
  exact ⟨a,(dD.mp this).1,(dD.mp this).2⟩
theorem rC {n m:Int}:∀ ss:List Sh,(∀ s ∈ ss,hb n s=true→hb m s=true)→cnt ss n ≤ cnt ss m
 | [],_=>aO _
 | s :: ss,h=>by
  have ih:=rC ss fun x hx=>h x (aN _ hx)
  have h1:=h s aM
  rw [cnt_cons,cnt_cons]
  cases e:hb n s with
  | true=>rw [h1 e];omega
  | false=>rw [if_neg (by decide)];omega
theorem wg {ss:List Sh} (h:∀ s ∈ ss,k_ s) {n:Nat} (h0:0 < cnt ss (n:Int)) (hm:∀ j:Nat,j < n→cnt ss (j:Int) < cnt ss (n:Int)):∃ s ∈ ss,s.1=(n:Int):=by
 apply Classical.byContradiction
 intro no
 have no':∀ s ∈ ss,s.1 ≠ (n:Int):=fun s hs e=>no ⟨s,hs,e⟩
 obtain ⟨s,hs,he⟩:=FN h0
 have ok:=h s hs
 have nn:=no' s hs
 have he':s.1 ≤ (n:Int)∧(n:Int) < s.2:=by simpa [hb] using he
 have n1:1 ≤ n:=by have:=ok.1;omega
 have:=hm (n - 1) (by omega)
 have le:=rC (n:=(n:Int)) (m:=((n - 1:Nat):Int)) ss fun s hs he=>by
  have he':s.1 ≤ (n:Int)∧(n:Int) < s.2:=by simpa [hb] using he
  have:=no' s hs
  have:s.1 ≤ ((n - 1:Nat):Int)∧((n - 1:Nat):Int) < s.2:=by omega
  simpa [hb] using this
 omega
theorem JT {l:List Int} (h:l.Pairwise (· ≤ ·)) {i:Nat} {x:Int} (hx:l[i]? = some x):∀ y ∈ l.take i,y ≤ x:=by
 intro y hy
 obtain ⟨k,hk⟩:=jo hy
 rw [jP] at hk
 split at hk
 ·next c =>
  have hi:i < l.length:=by
   rcases dM i l.length with z | z
   ·exact z
   ·rw [cJ z] at hx;cases hx
  have a1:=cO.mp h k i (by omega) hi c
  rw [bC (by omega)] at hk
  rw [bC hi] at hx
  cases hk
  cases hx
  exact a1
 ·cases hk
theorem yS {ss:List Sh} (h:∀ s ∈ ss,k_ s) (hl:ss.length ≤ 60):∃ M N:Int,j9 [.list (tabI 400 (fun j=>(cnt ss (j:Int):Int)))]=some (.tuple [.int M,.int N])∧dw [.list (ss.map stD)]=some (.tuple [.int M,.int N]):=by
 obtain ⟨M,N,eM,le,cs⟩:=xM (f:=fun j=>(cnt ss (j:Int):Int)) (fun j=>by show (0:Int) ≤ ((cnt ss (j:Int):Nat):Int);omega)
 refine ⟨M,N,eM,?_⟩
 have fs:=mJ (ss:=ss) (by omega)
 have gs:pA [.list ((ss.map (·.1)).map .int)]=some (.list ((jF (ss.map (·.1))).map .int)):=by
  unfold pA
  simp only
  rw [jl,aD,if_pos (by rw [aH];omega)]
 have sp:=eV (ss.map (·.1))
 have ss':=iJ (ss.map (·.1))
 generalize jF (ss.map (·.1))=L at *
 have inL:∀ x ∈ L,∃ s ∈ ss,s.1=x:=fun x hx=>bQ.mp (sp.mem_iff.mp hx)
 have LM:∀ x ∈ L,(cnt ss x:Int) ≤ M:=fun x hx=>by
  obtain ⟨s,hs,e⟩:=inL x hx
  obtain ⟨a,b,c⟩:=h s hs
  have:=le x.toNat (by omega)
  have ex:((x.toNat:Nat):Int)=x:=by omega
  rw [ex] at this
  exact this
 unfold dw
 simp only [EV,reduceIte,ao,aq,aj,ak,au,aA,aB,fs,gs]
 obtain ⟨δ',e,mo,ni,x,y,ia,ib,rfl⟩:=pY (g:=gNl 3) (b:=(dF (cI 4 (dCall bJ (aC (aJ 0) (aC (aJ 3) (bN)))))
  (sIf (cT (dOp gGt (aJ 4) (aJ 1))) (dF (cI 1 (aJ 4))
  (cI 2 (aJ 3))) (jt))))
  (fun i δ=>∃ (mo ni:Int) (x y:Option U),(∀ z ∈ L.take i,(cnt ss z:Int) ≤ mo)∧((mo=0∧ni=0)∨(0 < mo∧ni ∈ L.take i∧(cnt ss ni:Int)=mo∧∀ z ∈ L.take i,z < ni→(cnt ss z:Int) < mo)) ∧
   δ=[some (.d (.list (ss.map stD))),some (.d (.int mo)),some (.d (.int ni)),x,y]) (L.map .int)
  [some (.d (.list (ss.map stD))),some (.d (.int 0)),some (.d (.int 0)),none,none] ⟨0,0,none,none,(fun z hz=>by simp at hz),.inl ⟨rfl,rfl⟩,rfl⟩ (by
   rintro i d δ hd ⟨mo,ni,x,y,ia,ib,rfl⟩
   rw [aZ] at hd
   cases hr:L[i]? with
   | none=>rw [hr] at hd;cases hd
   | some w =>
    rw [hr] at hd
    cases hd
    have et:L.take (i + 1)=L.take i++[w]:=by rw [j4,hr];rfl
    have pw:=JT ss' hr
    have mo0:0 ≤ mo:=by
     rcases ib with ⟨z,_⟩ | ⟨z,_⟩ <;> omega
    by_cases c:mo < (cnt ss w:Int)
    ·refine ⟨_,_,rfl,.inl ?_,(cnt ss w:Int),w,some (.d (.int w)),some (.d (.int (cnt ss w:Int))),?_,.inr ⟨by omega,?_,rfl,?_⟩,rfl⟩
     ·simp only [EV,reduceIte,ao,aq,aj,ak,au,aA,aB,gw (show ss.length ≤ 1000 by omega),dTr c]
     ·intro z hz
      rw [et] at hz
      rcases bD.mp hz with q | q
      ·have:=ia z q
       omega
      ·rw [aX.mp q]
       exact cH _
     ·rw [et]
      exact aV _ (aX.mpr rfl)
     ·intro z hz lt
      rw [et] at hz
      rcases bD.mp hz with q | q
      ·have:=ia z q
       omega
      ·have:=aX.mp q
       omega
    ·refine ⟨_,_,rfl,.inl ?_,mo,ni,some (.d (.int w)),some (.d (.int (cnt ss w:Int))),?_,?_,rfl⟩
     ·simp only [EV,reduceIte,ao,aq,aj,ak,au,aA,aB,gw (show ss.length ≤ 1000 by omega),dFa c]
     ·intro z hz
      rw [et] at hz
      rcases bD.mp hz with q | q
      ·exact ia z q
      ·rw [aX.mp q]
       omega
     ·rcases ib with q | ⟨q1,q2,q3,q4⟩
      ·exact .inl q
      ·refine .inr ⟨q1,?_,q3,?_⟩
       ·rw [et]
        exact b_ _ q2
       ·intro z hz lt
        rw [et] at hz
        rcases bD.mp hz with q | q
        ·exact q4 z q lt
        ·have:=pw ni q2
         have:=aX.mp q
         omega)
 rw [aH,List.take_length] at ia ib
 have fin:mo=M∧ni=N:=by
  rcases cs with ⟨rfl,rfl⟩ | ⟨M0,n,rfl,hn,en,hmin⟩
  ·rcases ib with ⟨a,b⟩ | ⟨a,b,c,d⟩
   ·exact ⟨a,b⟩
   ·have:=LM ni b
    omega
  ·have e1:0 < cnt ss (n:Int):=by have:((cnt ss (n:Int):Nat):Int)=M:=en;omega
   obtain ⟨s,hs,es⟩:=wg h e1 (fun j hj=>by
    have a1:((cnt ss (j:Int):Nat):Int) < M:=hmin j hj
    have a2:((cnt ss (n:Int):Nat):Int)=M:=en
    omega)
   have nL:(n:Int) ∈ L:=sp.mem_iff.mpr (bQ.mpr ⟨s,hs,es⟩)
   have en':((cnt ss (n:Int):Nat):Int)=M:=en
   have g1:=ia _ nL
   rcases ib with ⟨a,b⟩ | ⟨a,b,c,d⟩
   ·omega
   ·have g2:=LM ni b
    have em:mo=M:=by omega
    refine ⟨em,?_⟩
    rcases Int.lt_trichotomy ni (n:Int) with z | z | z
    ·obtain ⟨s',hs',e'⟩:=inL ni b
     have:=(h s' hs').1
     have a1:((cnt ss ((ni.toNat:Nat):Int):Nat):Int) < M:=hmin ni.toNat (by omega)
     rw [show ((ni.toNat:Nat):Int)=ni by omega] at a1
     omega
    ·exact z
    ·have:=d _ nL z
     omega
 obtain ⟨rfl,rfl⟩:=fin
 rw [e]
 simp only [EV,reduceIte,ao,aq,aj,ak,au,aA,aB,sz (show 2 ≤ 1000000 by decide)]
end Com
namespace Com
open PySem D3 My
theorem zl0:0 ≤ sizeLine:=d9 _
theorem zl1:1 ≤ sizeLine:=sz (by decide)
theorem zl2:2 ≤ sizeLine:=sz (by decide)
theorem zl3:3 ≤ sizeLine:=sz (by decide)
theorem zl4:4 ≤ sizeLine:=sz (by decide)
abbrev Ty:=Int × Int × Option Nat
def hD:Option Nat→D
 | none=>.none
 | some r=>.int (r:Int)
theorem fli (i:Int):flat (.int i)=true:=rfl
def hol (x:Int) (s:Ty):Bool:=decide (s.1 ≤ x) && decide (x < s.2.1)
end Com
namespace K19
open PySem D3
noncomputable abbrev dW:List D→Option D:=Com.dW
noncomputable abbrev fJ:List D→Option D:=Com.fJ
noncomputable abbrev bJ:List D→Option D:=Com.bJ
noncomputable abbrev fV:List D→Option D:=Com.fV
noncomputable abbrev dw:List D→Option D:=Com.dw
noncomputable def lg:List D→Option D:=fnD 1 1 (dF (cI 1 (dOp qt (dCall fV (aC (aJ 0) (bN))) (jd (oY (aJ 0)) (gNl 0) (lF) (eH (dOp gIx (aJ 0) (dC (.int 1)))) 1 [])))
 (fX (dCall qM (aC (jd (oY (aJ 1)) (gNl 0) (cT (dOp gNe (dCall bJ (aC (aJ 1) (aC (dOp yj (aJ 0) (dC (.int 1))) (bN)))) (dCall bJ (aC (aJ 1) (aC (aJ 0) (bN)))))) (eH (aJ 0)) 1 [0]) (bN)))))
noncomputable def lu:List D→Option D:=fnD 1 1 (dF (cI 1 (dCall lg (aC (aJ 0) (bN))))
 (fX (jd (Di (aJ 1) (dSl (aJ 1) (m9 (dC (.int 1))) qu)) (gTn 2 (jz (gNl 0) (jz (gNl 1) (rZ)))) (lF) (eH (dTup (aC (aJ 0) (aC (aJ 1) (aC (dCall bJ (aC (aJ 2) (aC (aJ 0) (bN)))) (bN)))))) 2 [0])))
noncomputable abbrev fK:List D→Option D:=Com.fK
noncomputable abbrev f9:List D→Option D:=Com.f9
noncomputable abbrev cj:List D→Option D:=Com.cj
noncomputable abbrev cC:List D→Option D:=Com.cC
noncomputable abbrev gU:List D→Option D:=Com.gU
noncomputable abbrev cW:List D→Option D:=Com.cW
noncomputable abbrev cF:List D→Option D:=Com.cF
noncomputable def gG:List D→Option D:=fnD 1 4 (dF (cI 1 (dOp uN (mq (aC (dC (.int 0)) (bN))) (dC (.int 400))))
 (dF (rJ (oY (aJ 0)) (gTn 3 (jz (gNl 2) (jz (gNl 3) (jz (gNl 4) (rZ))))) (uU 1 (aJ 2) (aJ 3) (dOp uN (mq (aC (aJ 4) (bN))) (dOp yj (aJ 3) (aJ 2)))))
 (fX (zU (aJ 1)))))
noncomputable def B_:List D→Option D:=fnD 1 11 (dF (cI 1 (dSl (dCall gU (aC (aJ 0) (bN))) qu (m9 (dC (.int 59)))))
 (dF (cI 2 (dCall cC (aC (aJ 0) (aC (dC (.int 3)) (aC (dC (.int 0)) (aC (dCall cj (aC (aJ 0) (aC (dC (.int 0)) (aC (dC (.int 4)) (aC (dC (.int 5)) (bN)))))) (bN)))))))
 (dF (cI 3 (dCall cj (aC (aJ 0) (aC (dC (.int 3)) (aC (dC (.int 4)) (aC (dOp iQ (dCall tR (aC (aJ 1) (bN))) (dC (.int 1))) (bN)))))))
 (dF (cI 4 (dOp qt (dOp qt (dSl (aJ 1) qu (m9 (aJ 3))) (mq (aC (aJ 2) (bN)))) (dSl (aJ 1) (m9 (aJ 3)) qu)))
 (dF (cI 5 (jd (mC (aC (dC (.int 400)) (bN))) (gNl 0) (lF) (dCall bJ (aC (aJ 1) (aC (aJ 0) (bN)))) 1 [1]))
 (dF (cI 6 (jd (mC (aC (dC (.int 400)) (bN))) (gNl 0) (lF) (dCall bJ (aC (aJ 1) (aC (aJ 0) (bN)))) 1 [4]))
 (dF (sIf (cT (dOp gNe (aJ 6) (jd (mC (aC (dC (.int 400)) (bN))) (gNl 0) (lF) (dOp iQ (dOp gIx (aJ 1) (aJ 0)) (dCall yq (aC (dCall dW (aC (aJ 2) (aC (aJ 0) (bN)))) (bN)))) 1 [5,2]))) (fX (dC (.bool false))) (jt))
 (dF (sIf (D3.tOr (cT (dOp gNe (dCall gG (aC (dCall lu (aC (aJ 1) (bN))) (bN))) (aJ 5))) (cT (dOp gNe (dCall gG (aC (dCall lu (aC (aJ 4) (bN))) (bN))) (aJ 6)))) (fX (dC (.bool false))) (jt))
 (dF (cI 7 (dOp gIx (dCall dw (aC (aJ 1) (bN))) (dC (.int 0))))
 (dF (sIf (cT (dOp gNe (dOp gIx (dCall dw (aC (aJ 4) (bN))) (dC (.int 0))) (dCall uM (aC (aJ 7) (aC (dOp iQ (dC (.int 1)) (dCall pq (aC (dSl (aJ 5) (m9 (dOp gIx (aJ 2) (dC (.int 0)))) (m9 (dOp gIx (aJ 2) (dC (.int 1))))) (bN)))) (bN)))))) (fX (dC (.bool false))) (jt))
 (dF (rJ (oY (mq (aC (dC (.int 0)) (aC (aJ 7) (aC (dCall cj (aC (aJ 0) (aC (dC (.int 2)) (aC (dC (.int 0)) (aC (dOp iQ (aJ 7) (dC (.int 1))) (bN)))))) (aC (dOp rK (aJ 7) (dC (.int 2))) (bN))))))) (gNl 8) (dF (cI 9 (dCall cW (aC (o7 fK 0 (aC (aJ 1) (aC (aJ 8) (bN)))) (aC (dCall cF (aC (aJ 5) (aC (aJ 2) (aC (aJ 8) (bN))))) (bN)))))
 (sIf (cT (dOp gNe (o7 fK 0 (aC (aJ 4) (aC (aJ 8) (bN)))) (aJ 9))) (fX (dC (.bool false))) (jt))))
 (dF (rJ (oY (dSl (aJ 1) qu (m9 (dC (.int 12))))) (gNl 10) (dF (cI 11 (jd (mC (aC (dC (.int 400)) (bN))) (gNl 0) (D3.tH (cT (dCall dW (aC (aJ 1) (aC (aJ 0) (bN))))) (cT (dCall dW (aC (aJ 2) (aC (aJ 0) (bN)))))) (eH (aJ 0)) 1 [10,2]))
 (dF (cI 9 (dC (.none)))
 (dF (sIf (cT (dOp gNe (aJ 11) (mq (bN)))) (cI 9 (dTup (aC (dOp gIx (aJ 11) (dC (.int 0))) (aC (dOp iQ (dOp gIx (aJ 11) (dUn zV (dC (.int 1)))) (dC (.int 1))) (bN))))) (jt))
 (sIf (cT (dOp gNe (dCall fJ (aC (aJ 10) (aC (aJ 2) (bN)))) (aJ 9))) (fX (dC (.bool false))) (jt))))))
 (fX (dC (.bool true)))))))))))))))
end K19
namespace K19
open PySem D3 My Com
theorem xO {ss:List Sh} {x:Int} (h:cnt ss (x - 1) ≠ cnt ss x):∃ s ∈ ss,s.1=x∨s.2=x:=by
 apply Classical.byContradiction
 intro no
 apply h
 unfold cnt
 congr 1
 apply List.filter_congr
 intro s hs
 have n1:s.1 ≠ x:=fun z=>no ⟨s,hs,.inl z⟩
 have n2:s.2 ≠ x:=fun z=>no ⟨s,hs,.inr z⟩
 unfold hb
 rw [Bool.eq_iff_iff,aU,aU,decide_eq_true_iff,decide_eq_true_iff,decide_eq_true_iff,decide_eq_true_iff]
 constructor <;> intro ⟨a,b⟩ <;> exact ⟨by omega,by omega⟩
def ed (ss:List Sh):List Int:=ss.map (·.1)++ss.map (·.2)
def cgB (ss:List Sh) (x:Int):Bool:=!decide (cnt ss (x - 1)=cnt ss x)
theorem FP {ss:List Sh} {x:Int}:cgB ss x=true↔cnt ss (x - 1) ≠ cnt ss x:=by
 unfold cgB
 rw [dU,decide_eq_false_iff_not]
def Cg (ss:List Sh):List Int:=jF (ddI ((ed ss).filter (cgB ss)))
theorem wj {ss:List Sh} {x:Int}:x ∈ Cg ss↔cnt ss (x - 1) ≠ cnt ss x:=by
 unfold Cg
 rw [(eV _).mem_iff,qJ,dD,FP]
 refine ⟨fun h=>h.2,fun h=>⟨?_,h⟩⟩
 obtain ⟨s,hs,z⟩:=xO h
 unfold ed
 rcases z with z | z
 ·exact b_ _ (bQ.mpr ⟨s,hs,z⟩)
 ·exact aV _ (bQ.mpr ⟨s,hs,z⟩)
theorem GD (ss:List Sh):(Cg ss).Pairwise (· < ·):=by
 have nd:(Cg ss).Nodup:=(eV _).nodup_iff.mpr (oG _)
 refine ((iJ _).and nd).imp fun {a b} q=>?_
 have:=q.1
 have:=q.2
 omega
theorem xP:∀ {l m:List Int},l.Pairwise (· < ·)→m.Pairwise (· < ·)→(∀ x,x ∈ l↔x ∈ m)→l=m
 | [],[],_,_,_=>rfl
 | [],b :: _,_,_,h=>absurd ((h b).mpr aM) dI
 | a :: _,[],_,_,h=>absurd ((h a).mp aM) dI
 | a :: l,b :: m,p1,p2,h=>by
  obtain ⟨a1,a2⟩:=bG.mp p1
  obtain ⟨b1,b2⟩:=bG.mp p2
  have ab:a=b:=by
   rcases aQ.mp ((h a).mp aM) with z | z
   ·exact z
   ·rcases aQ.mp ((h b).mpr aM) with y | y
    ·exact y.symm
    ·have:=b1 a z
     have:=a1 b y
     omega
  subst ab
  rw [xP a2 b2 fun x=>⟨fun hx=>by
   rcases aQ.mp ((h x).mp (aN _ hx)) with z | z
   ·have:=a1 x hx
    omega
   ·exact z,fun hx=>by
   rcases aQ.mp ((h x).mpr (aN _ hx)) with z | z
   ·have:=b1 x hx
    omega
   ·exact z⟩]
theorem Ca:∀ l:List Int,(ddI l).length ≤ l.length
 | []=>aO _
 | x :: r=>by
  have:=Ca r
  unfold ddI
  split
  ·rw [bL];omega
  ·rw [bL,bL];omega
theorem JV {ss:List Sh}:(Cg ss).length ≤ 2 * ss.length:=by
 have h1:=Ca ((ed ss).filter (cgB ss))
 have h2:=jc (cgB ss) (ed ss)
 unfold ed at h2
 rw [aP,aH,aH] at h2
 unfold Cg
 rw [(eV _).length_eq]
 unfold ed at h1 ⊢
 omega
theorem uw {ss:List Sh} (hl:ss.length ≤ 60):lg [.list (ss.map stD)]=some (.list ((Cg ss).map .int)):=by
 have fs:Com.fV _=_:=mJ (ss:=ss) (by omega)
 have len:(ss.map stD).length ≤ 100000:=by rw [aH];omega
 have C1:∀ δ0,fG (gNl 0) (D3.lF) (eH (dOp gIx (aJ 0) (dC (.int 1)))) (kJ 1 [] δ0) (ss.map stD)=some ((ss.map (·.2)).map .int):=fun δ0=>by
  rw [fj]
  exact yP stD _ ss fun s _=>⟨[some (.d (stD s))],rfl,rfl,by unfold stD;simp only [EV,reduceIte,ao,aq,aj,ak,au,aA,aB,at1,fli];rfl⟩
 have cat:qt (.list ((ss.map (·.1)).map .int)) (.list ((ss.map (·.2)).map .int))=some (.list ((ed ss).map .int)):=by
  rw [vm,if_pos (by rw [aH,aH,aH,aH];omega)]
  unfold ed
  rw [iz]
 have el:(ed ss).length ≤ 120:=by unfold ed;rw [aP,aH,aH];omega
 have len2:((ed ss).map PyData.int).length ≤ 100000:=by rw [aH];omega
 have C2:fG (gNl 0) (cT (dOp gNe (dCall bJ (aC (aJ 1) (aC (dOp yj (aJ 0) (dC (.int 1))) (bN)))) (dCall bJ (aC (aJ 1) (aC (aJ 0) (bN)))))) (eH (aJ 0)) (kJ 1 [0] [some (.d (.list (ss.map stD))),some (.d (.list ((ed ss).map .int)))]) ((ed ss).map .int)=some (((ed ss).filter (cgB ss)).map .int) :=
  JQ (fun k:Int=>PyData.int k) (cgB ss) (fun k=>PyData.int k) (ed ss) fun x _=>⟨[some (.d (.int x)),some (.d (.list (ss.map stD)))],rfl,by
   have c1:Com.bJ _=_:=gw (ss:=ss) (by omega) (x - 1)
   have c2:Com.bJ _=_:=gw (ss:=ss) (by omega) x
   have e1:decide ((cnt ss (x - 1):Int)=(cnt ss x:Int))=decide (cnt ss (x - 1)=cnt ss x):=decide_eq_decide.mpr (by omega)
   unfold cgB
   simp only [EV,reduceIte,ao,aq,aj,ak,au,aA,aB,c1,c2,e1],fun _=>by simp only [EV,reduceIte,ao,aq,aj,ak,au,aA,aB,fli]⟩
 have fl:=jc (cgB ss) (ed ss)
 have gs:qM [.list (((ed ss).filter (cgB ss)).map .int)]=some (.list ((Cg ss).map .int)):=by
  unfold qM
  dsimp only
  rw [jl,aD,if_pos (by omega)]
  rfl
 unfold lg
 simp only [EV,reduceIte,ao,aq,aj,ak,au,aA,aB,len,fs,C1,cat,len2,C2,gs]
theorem M6:∀ (l m:List Int),m7 (l.map .int) (m.map .int)=(l.zip m).map fun p=>PyData.tuple [.int p.1,.int p.2]
 | [],_=>rfl
 | _ :: _,[]=>rfl
 | a :: l,b :: m=>by
  show PyData.tuple [.int a,.int b] :: m7 (l.map .int) (m.map .int)=_
  rw [M6 l m]
  rfl
def pr (ss:List Sh):List (Int × Int):=(Cg ss).zip ((Cg ss).drop 1)
def rwD (ss:List Sh) (p:Int × Int):D:=.tuple [.int p.1,.int p.2,.int (cnt ss p.1:Int)]
theorem pI {ss:List Sh} (hl:ss.length ≤ 60):lu [.list (ss.map stD)]=some (.list ((pr ss).map (rwD ss))):=by
 have ch:=uw hl
 have cl:=JV (ss:=ss)
 have ct:cutD ((Cg ss).map .int) (some 1) none=((Cg ss).drop 1).map .int:=by rw [Gz (by decide),List.map_drop];rfl
 have len:((pr ss).map fun p=>PyData.tuple [.int p.1,.int p.2]).length ≤ 100000:=by
  unfold pr
  rw [aH,List.length_zip]
  omega
 have C:∀ u,fG (gTn 2 (jz (gNl 0) (jz (gNl 1) (rZ)))) (D3.lF) (eH (dTup (aC (aJ 0) (aC (aJ 1) (aC (dCall bJ (aC (aJ 2) (aC (aJ 0) (bN)))) (bN)))))) (kJ 2 [0] [some (.d (.list (ss.map stD))),u]) ((pr ss).map fun p=>PyData.tuple [.int p.1,.int p.2])=some ((pr ss).map (rwD ss)):=fun u =>
  yP (fun p:Int × Int=>PyData.tuple [.int p.1,.int p.2]) (rwD ss) (pr ss) fun p _=>⟨[some (.d (.int p.1)),some (.d (.int p.2)),some (.d (.list (ss.map stD)))],rfl,rfl,by
   have c1:Com.bJ _=_:=gw (ss:=ss) (by omega) p.1
   have f3:flat (rwD ss p)=true:=rfl
   unfold rwD at f3 ⊢
   simp only [EV,reduceIte,ao,aq,aj,ak,au,aA,aB,c1,zl3,f3]⟩
 have zi:m7 ((Cg ss).map .int) (((Cg ss).drop 1).map .int)=(pr ss).map fun p=>PyData.tuple [.int p.1,.int p.2]:=M6 _ _
 unfold lu
 simp only [EV,reduceIte,ao,aq,aj,ak,au,aA,aB,ch,ct,zi,len,C]
theorem between {ss:List Sh} {i:Nat} (h:i + 1 < (Cg ss).length) {x:Int} (h1:(Cg ss)[i] < x) (h2:x < (Cg ss)[i + 1]):cnt ss (x - 1)=cnt ss x:=by
 apply Classical.byContradiction
 intro no
 obtain ⟨k,hk,e⟩:=dB (wj.mpr no)
 have pw:=cO.mp (GD ss)
 rcases nU k i with z | z | z
 ·have:=pw k i hk (by omega) z
  omega
 ·subst z
  omega
 ·rcases dM (i + 1) k with y | y
  ·have:=pw (i + 1) k h hk y
   omega
  ·have:k=i + 1:=by omega
   subst this
   omega
theorem const {ss:List Sh} {i:Nat} (h:i + 1 < (Cg ss).length):∀ (m:Nat) (x:Int),x=(Cg ss)[i] + (m:Int)→x < (Cg ss)[i + 1]→cnt ss x=cnt ss (Cg ss)[i]
 | 0,x,e,_=>by rw [e,show (Cg ss)[i] + ((0:Nat):Int)=(Cg ss)[i] by omega]
 | m + 1,x,e,l=>by
  rw [← between h (x:=x) (by omega) l]
  exact const h m (x - 1) (by omega) (by omega)
theorem rD {x:Int} {s:Sh} (h:x < s.1∨s.2 ≤ x):hb x s=false:=by
 unfold hb
 rcases h with h | h
 ·rw [dFa (by omega)];rfl
 ·rw [dFa (p:=x < s.2) (by omega),Bool.and_false]
theorem p7 {x:Int} {s:Sh} (h1:s.1 ≤ x) (h2:x < s.2):hb x s=true:=by
 unfold hb
 rw [dTr h1,dTr h2]
 rfl
theorem vp {ss:List Sh} {x:Int} (h:∀ s ∈ ss,hb x s=false):cnt ss x=0:=by
 unfold cnt
 rw [List.filter_eq_nil_iff.mpr fun s hs=>by rw [h s hs];exact aK]
 rfl
theorem gD {l:List Int} {i:Nat} (h:i < l.length):l.getD i 0=l[i]:=by rw [jO,bC h];rfl
theorem rE {g:FG} {b:FS} (Inv:DS→Prop) (p:Int→Bool):∀ (l:List Int) (δ:DS),Inv δ→(∀ x ∈ l,∀ δ,Inv δ→∃ δ1,g (.int x) δ=some δ1∧((p x=true∧b δ1=some (.rt (.int x)))∨(p x=false∧∃ δ',b δ1=some (.nx δ')∧Inv δ'))) →
 (∃ x,l.find? p=some x∧jY g b (l.map .int) δ=some (.rt (.int x)))∨(l.find? p=none∧∃ δ',jY g b (l.map .int) δ=some (.nx δ')∧Inv δ')
 | [],δ,h,_=>.inr ⟨rfl,δ,rfl,h⟩
 | x :: r,δ,h,hs=>by
  obtain ⟨δ1,e1,q⟩:=hs x aM δ h
  rcases q with ⟨hp,e2⟩ | ⟨hp,δ',e2,h'⟩
  ·refine .inl ⟨x,by rw [List.find?_cons,hp],?_⟩
   rw [bY,jY,e1,aD,e2]
   rfl
  ·have ih:=rE Inv p r δ' h' fun y hy=>hs y (aN _ hy)
   have ef:(x :: r).find? p=r.find? p:=by rw [List.find?_cons,hp]
   have eg:jY g b ((x :: r).map .int) δ=jY g b (r.map .int) δ':=by
    rw [bY,jY,e1,aD,e2]
    rfl
   rw [ef,eg]
   exact ih
theorem oV {l:List Int} {p:Int→Bool} {x:Int} (hs:l.Pairwise (· ≤ ·)) (h:l.find? p=some x):p x=true∧x ∈ l∧∀ y ∈ l,p y=true→x ≤ y:=by
 obtain ⟨hp,as,bs,rfl,ha⟩:=List.find?_eq_some_iff_append.mp h
 refine ⟨hp,aV _ aM,fun y hy py=>?_⟩
 rcases bD.mp hy with q | q
 ·have:=ha y q
  rw [py] at this
  cases this
 ·obtain ⟨_,h2,_⟩:=aG.mp hs
  rcases aQ.mp q with rfl | q
  ·exact cH _
  ·exact (bG.mp h2).1 y q
def i_ (b:Int):List Int:=(aW (400 - b).toNat).map fun (k:Nat)=>b + (k:Int)
theorem iG {b x:Int}:x ∈ i_ b↔b ≤ x∧x < 400:=by
 unfold i_
 rw [bQ]
 constructor
 ·rintro ⟨k,hk,rfl⟩
  have:=bA.mp hk
  omega
 ·intro h
  exact ⟨(x - b).toNat,bA.mpr (by omega),by omega⟩
theorem m_ (b:Int):(i_ b).Pairwise (· ≤ ·):=by
 unfold i_
 rw [eZ]
 exact List.Pairwise.imp (R:=(· < ·)) (fun {a b} h=>by omega) gj
theorem yU {ss:List Sh} (h:∀ s ∈ ss,k_ s) {b:Int} (b0:0 ≤ b) (b1:b < 400) (m:Int) :
 (b :: jF ((ss.map (·.1)).filter fun x=>decide (b < x))).find? (fun x=>decide (m < (cnt ss x:Int)))=(i_ b).find? (fun x=>decide (m < (cnt ss x:Int))):=by
 have mem:∀ x,x ∈ b :: jF ((ss.map (·.1)).filter fun x=>decide (b < x))↔x=b∨((∃ s ∈ ss,s.1=x)∧b < x):=fun x=>by
  rw [aQ,(eV _).mem_iff,dD,bQ,decide_eq_true_eq]
 have so:(b :: jF ((ss.map (·.1)).filter fun x=>decide (b < x))).Pairwise (· ≤ ·):=by
  refine bG.mpr ⟨fun x hx=>?_,iJ _⟩
  rw [(eV _).mem_iff,dD,decide_eq_true_eq] at hx
  omega
 have sub:∀ x ∈ b :: jF ((ss.map (·.1)).filter fun x=>decide (b < x)),x ∈ i_ b:=fun x hx=>by
  rcases (mem x).mp hx with rfl | ⟨⟨s,hs,rfl⟩,lt⟩
  ·exact iG.mpr ⟨cH _,b1⟩
  ·obtain ⟨a,b',c⟩:=h s hs
   exact iG.mpr ⟨by omega,by omega⟩
 generalize b :: jF ((ss.map (·.1)).filter fun x=>decide (b < x))=L at *
 cases e:(i_ b).find? (fun x=>decide (m < (cnt ss x:Int))) with
 | none =>
  rw [d_] at e ⊢
  exact fun x hx=>e x (sub x hx)
 | some n =>
  obtain ⟨pn,hn,mn⟩:=oV (m_ b) e
  have pn':m < (cnt ss n:Int):=of_decide_eq_true pn
  obtain ⟨n0,n1⟩:=iG.mp hn
  have nL:n ∈ L:=by
   rw [mem]
   by_cases q:n=b
   ·exact .inl q
   ·refine .inr ⟨?_,by omega⟩
    apply Classical.byContradiction
    intro no
    have no':∀ s ∈ ss,s.1 ≠ n:=fun s hs e=>no ⟨s,hs,e⟩
    have le:=rC (n:=n) (m:=n - 1) ss fun s hs he=>by
     have he':s.1 ≤ n∧n < s.2:=by simpa [hb] using he
     have:=no' s hs
     have:s.1 ≤ n - 1∧n - 1 < s.2:=by omega
     simpa [hb] using this
    have:=mn (n - 1) (iG.mpr ⟨by omega,by omega⟩) (dTr (by omega))
    omega
  cases e2:L.find? (fun x=>decide (m < (cnt ss x:Int))) with
  | none=>exact absurd pn (d_.mp e2 n nL)
  | some x =>
   obtain ⟨px,hx,mx⟩:=oV so e2
   have a1:=mx n nL pn
   have a2:=mn x (sub x hx) px
   rw [show x=n by omega]
def outD (o:Option Int):D:=match o with
 | some x=>.int x
 | none=>.none
theorem pJ {ss:List Sh} (h:∀ s ∈ ss,k_ s) (hl:ss.length ≤ 60) {b:Int} (b0:0 ≤ b) (b1:b < 400) (m:Int):Com.fK [.list (ss.map stD),.int m,.int b]=some (outD ((i_ b).find? (fun x=>decide (m < (cnt ss x:Int))))):=by
 rw [← yU h b0 b1 m]
 have fs:=mJ (ss:=ss) (by omega)
 have cf:fG (gNl 0) (cT (dOp gGt (aJ 0) (aJ 1))) (eH (aJ 0)) [none,some (.d (.int b))] ((ss.map (·.1)).map .int)=some (((ss.map (·.1)).filter fun x=>decide (b < x)).map .int):=by
  generalize ss.map (·.1)=l
  induction l with
  | nil=>rfl
  | cons x r ih =>
   rw [bY,fG]
   by_cases c:b < x
   ·simp only [EV,reduceIte,ao,aq,aj,ak,au,aA,aB,dTr c,aD,ih]
    rw [iH (by simpa using c)]
    rfl
   ·simp only [EV,reduceIte,ao,aq,aj,ak,au,aA,aB,dFa c,aD,ih]
    rw [iI (by simpa using c),if_neg (by decide)]
 have ll:((ss.map (·.1)).filter fun x=>decide (b < x)).length ≤ 60:=bU (jc _ _) (by rw [aH];exact hl)
 generalize hF:(ss.map (·.1)).filter (fun x=>decide (b < x))=F at *
 have gs:pA [.list (F.map .int)]=some (.list ((jF F).map .int)):=by
  unfold pA
  simp only
  rw [jl,aD,if_pos (by omega)]
 have c1:qt (.list [.int b]) (.list ((jF F).map .int))=some (.list (.int b :: (jF F).map .int)):=by
  rw [vm,if_pos (by rw [aH,(eV F).length_eq];simp;omega)]
  rfl
 have ca:∀ a c d e f:Option U,kJ 1 [2] [a,c,d,e,f]=[none,d]:=fun _ _ _ _ _=>rfl
 unfold Com.fK
 simp only [EV,reduceIte,ao,aq,aj,ak,au,aA,aB,fs,lMp,show ss.length ≤ 100000 by omega,ca,cf,gs,sz (show 1 ≤ 1000000 by decide),c1]
 rcases rE (g:=gNl 4) (b:=(sIf (cT (dOp gGt (dCall Com.bJ (aC (aJ 0) (aC (aJ 4) (bN)))) (aJ 1))) (fX (eH (aJ 4))) (jt))) (fun δ=>∃ y,δ=[some (.d (.list (ss.map stD))),some (.d (.int m)),some (.d (.int b)),some (.d (.list (F.map .int))),y]) (fun x=>decide (m < (cnt ss x:Int))) (b :: jF F)
  [some (.d (.list (ss.map stD))),some (.d (.int m)),some (.d (.int b)),some (.d (.list (F.map .int))),none] ⟨none,rfl⟩ (by
   rintro x hx δ ⟨y,rfl⟩
   refine ⟨_,rfl,?_⟩
   by_cases c:m < (cnt ss x:Int)
   ·refine .inl ⟨dTr c,?_⟩
    simp only [EV,reduceIte,ao,aq,aj,ak,au,aA,aB,gw (show ss.length ≤ 1000 by omega),dTr c]
   ·refine .inr ⟨dFa c,_,?_,some (.d (.int x)),rfl⟩
    simp only [EV,reduceIte,ao,aq,aj,ak,au,aA,aB,gw (show ss.length ≤ 1000 by omega),dFa c]) with ⟨x,e1,e2⟩ | ⟨e1,δ',e2,y,rfl⟩
 ·rw [bY] at e2
  rw [e2,e1]
  simp only [EV,reduceIte,ao,aq,aj,ak,au,aA,aB]
  rfl
 ·rw [bY] at e2
  rw [e2,e1]
  simp only [EV,reduceIte,ao,aq,aj,ak,au,aA,aB]
  rfl
theorem M7 {ss:List Sh} {x:Int} (h:x ∉ Cg ss):cnt ss (x - 1)=cnt ss x:=by
 apply Classical.byContradiction
 intro no
 exact h (wj.mpr no)
theorem before {ss:List Sh} (h:∀ s ∈ ss,k_ s):∀ (m:Nat) (x:Int),x = -1 + (m:Int)→(∀ y ∈ Cg ss,x < y)→cnt ss x=0
 | 0,x,e,_=>vp fun s hs=>rD (.inl (by have:=(h s hs).1;omega))
 | m + 1,x,e,g=>by
  rw [← M7 (ss:=ss) (x:=x) fun z=>by have:=g x z;omega]
  exact before h m (x - 1) (by omega) fun y hy=>by have:=g y hy;omega
theorem behind {ss:List Sh} (h:∀ s ∈ ss,k_ s):∀ (m:Nat) (x:Int),x + (m:Int)=400→(∀ y ∈ Cg ss,y ≤ x)→cnt ss x=0
 | 0,x,e,_=>vp fun s hs=>rD (.inr (by have:=(h s hs).2.2;omega))
 | m + 1,x,e,g=>by
  have q:=M7 (ss:=ss) (x:=x + 1) fun z=>by have:=g _ z;omega
  rw [show x + 1 - 1=x by omega] at q
  rw [q]
  exact behind h m (x + 1) (by omega) fun y hy=>by have:=g y hy;omega
theorem FQ (f:Nat→Int) (v:Int) {a b N:Nat} (h1:a ≤ b) (h2:b ≤ N):(tabI N f).take a++(aR (b - a) v).map PyData.int++(tabI N f).drop b=tabI N (fun j=>if j < a then f j else if j < b then v else f j):=by
 have lt:((tabI N f).take a).length=a:=by rw [bZ,kY];omega
 have lm:((aR (b - a) v).map PyData.int).length=b - a:=by rw [aH,bx]
 apply iU
 intro i
 by_cases c0:i < N
 ·rw [kZ _ c0]
  by_cases c1:i < a
  ·rw [aL,bM (by omega),jP,if_pos c1,kZ _ c0,if_pos c1]
  ·by_cases c2:i < b
   ·rw [aL,bK (by omega),lt,bM (by omega),aZ,cZ,if_pos (by omega),if_neg c1,if_pos c2]
    rfl
   ·rw [bK (by rw [aP];omega),aP,lt,lm,dH,show b + (i - (a + (b - a)))=i by omega,kZ _ c0,if_neg c1,if_neg c2]
 ·rw [cJ (by rw [aP,aP,lt,lm,bV,kY];omega),cJ (by rw [kY];omega)]
theorem FW {i:Nat} {fa fb f:FE} {δ:DS} {l m:List D} {a b:Int} (e1:f δ=some (.list m)) (e2:aJ i δ=some (.list l)) (e3:fa δ=some (.int a)) (e4:fb δ=some (.int b)) (h:flats m=true∧0 ≤ a∧a ≤ b∧b ≤ (l.length:Int)∧l.length + m.length < 1000000) :
 uU i fa fb f δ=some (.nx (δ.set i (some (.d (.list (l.take a.toNat++m++l.drop b.toNat)))))):=by
 unfold uU
 rw [e1,aD,e2,aD,e3,aD,e4,aD]
 exact if_pos h
theorem JW {ss:List Sh} (h:∀ s ∈ ss,k_ s):∀ x ∈ Cg ss,0 ≤ x∧x ≤ 400:=fun x hx=>by
 obtain ⟨s,hs,z⟩:=xO (wj.mp hx)
 obtain ⟨o1,o2,o3⟩:=h s hs
 rcases z with z | z <;> omega
theorem pK {ss:List Sh} (h:∀ s ∈ ss,k_ s) (hl:ss.length ≤ 60):gG [.list ((pr ss).map (rwD ss))]=some (.list (tabI 400 (fun j=>(cnt ss (j:Int):Int)))):=by
 have rp:uN (.list [.int 0]) (.int 400)=some (.list (tabI 400 fun _=>0)):=by
  rw [← yQ]
  rfl
 have pw:=cO.mp (GD ss)
 have lo:∀ y ∈ Cg ss,(Cg ss).getD 0 0 ≤ y:=fun y hy=>by
  obtain ⟨k,hk,rfl⟩:=dB hy
  rw [gD (show 0 < (Cg ss).length by omega)]
  rcases jL k with z | z
  ·subst z
   exact cH _
  ·exact gY (pw 0 k (by omega) hk z)
 have hi:∀ y ∈ Cg ss,y ≤ (Cg ss).getD ((Cg ss).length - 1) 0:=fun y hy=>by
  obtain ⟨k,hk,rfl⟩:=dB hy
  rw [gD (show (Cg ss).length - 1 < (Cg ss).length by omega)]
  rcases dM k ((Cg ss).length - 1) with z | z
  ·exact gY (pw k _ hk (by omega) z)
  ·have:k=(Cg ss).length - 1:=by omega
   subst this
   exact cH _
 have prl:(pr ss).length=(Cg ss).length - 1:=by unfold pr;rw [List.length_zip,bV];omega
 have rng:=JW h
 have st0:tabI 400 (fun _=>0)=tabI 400 (fun j=>if (j:Int) < (Cg ss).getD 0 0 then (cnt ss (j:Int):Int) else 0):=nG fun j hj=>by
  by_cases c:(j:Int) < (Cg ss).getD 0 0
  ·rw [if_pos c,before h (j + 1) (j:Int) (by omega) fun y hy=>by have:=lo y hy;omega]
   rfl
  ·rw [if_neg c]
 obtain ⟨δ',e,u2,u3,u4,rfl⟩:=pY (g:=(gTn 3 (jz (gNl 2) (jz (gNl 3) (jz (gNl 4) (rZ)))))) (b:=(uU 1 (aJ 2) (aJ 3) (dOp uN (mq (aC (aJ 4) (bN))) (dOp yj (aJ 3) (aJ 2)))))
  (fun i δ=>∃ u2 u3 u4:Option U,δ=[some (.d (.list ((pr ss).map (rwD ss)))),some (.d (.list (tabI 400 (fun j=>if (j:Int) < (Cg ss).getD i 0 then (cnt ss (j:Int):Int) else 0)))),u2,u3,u4]) ((pr ss).map (rwD ss))
  [some (.d (.list ((pr ss).map (rwD ss)))),some (.d (.list (tabI 400 fun _=>0))),none,none,none] ⟨none,none,none,by rw [st0]⟩ (by
   rintro i d δ hd ⟨u2,u3,u4,rfl⟩
   rw [aZ] at hd
   cases hp:(pr ss)[i]? with
   | none=>rw [hp] at hd;cases hd
   | some p =>
    rw [hp] at hd
    cases hd
    have hi:i < (pr ss).length:=(eN.mp hp).1
    have i1:i + 1 < (Cg ss).length:=by omega
    have ep:p=((Cg ss)[i],(Cg ss)[i + 1]):=by
     unfold pr at hp
     obtain ⟨q1,q2⟩:=List.getElem?_zip_eq_some.mp hp
     rw [bC (by omega)] at q1
     rw [dH,show 1 + i=i + 1 by omega,bC i1] at q2
     injection q1 with q1
     injection q2 with q2
     exact Prod.ext q1.symm q2.symm
    subst ep
    rw [gD (show i < (Cg ss).length by omega),gD i1]
    have lt:=pw i (i + 1) (by omega) i1 (by omega)
    have r1:=rng _ (gZ (show i < (Cg ss).length by omega))
    have r2:=rng _ (gZ i1)
    have cs:=fun m x=>const (ss:=ss) i1 m x
    generalize (Cg ss)[i]=a at *
    generalize (Cg ss)[i + 1]=b at *
    have rp2:uN (.list [.int (cnt ss a:Int)]) (.int (b - a))=some (.list ((aR (b - a).toNat (cnt ss a:Int)).map PyData.int)):=BR (by omega) (by omega)
    refine ⟨_,_,rfl,.inl (FW (a:=a) (b:=b) (m:=(aR (b - a).toNat (cnt ss a:Int)).map PyData.int) (l:=tabI 400 (fun j=>if (j:Int) < a then (cnt ss (j:Int):Int) else 0)) ?_ rfl rfl rfl ?_),some (.d (.int a)),some (.d (.int b)),some (.d (.int (cnt ss a:Int))),?_⟩
    ·simp only [EV,reduceIte,ao,aq,aj,ak,au,aA,aB,zl1,rp2]
    ·refine ⟨v9 _,r1.1,gY lt,by rw [kY];omega,?_⟩
     rw [kY,aH,bx]
     omega
    ·rw [show (b - a).toNat=b.toNat - a.toNat by omega,FQ _ _ (by omega) (by omega)]
     show [_,_,_,_,_]=_
     congr 4
     congr 1
     apply nG
     intro j hj
     by_cases c1:(j:Int) < a
     ·rw [if_pos (show j < a.toNat by omega),if_pos c1,if_pos (show (j:Int) < b by omega)]
     ·rw [if_neg (show ¬ j < a.toNat by omega)]
      by_cases c2:(j:Int) < b
      ·rw [if_pos (show j < b.toNat by omega),if_pos c2,cs ((j:Int) - a).toNat (j:Int) (by omega) c2]
      ·rw [if_neg (show ¬ j < b.toNat by omega),if_neg c1,if_neg c2])
 have fin:tabI 400 (fun j=>if (j:Int) < (Cg ss).getD ((pr ss).map (rwD ss)).length 0 then (cnt ss (j:Int):Int) else 0)=tabI 400 (fun j=>(cnt ss (j:Int):Int)):=nG fun j hj=>by
  rw [aH,prl]
  by_cases c:(j:Int) < (Cg ss).getD ((Cg ss).length - 1) 0
  ·rw [if_pos c]
  ·rw [if_neg c,behind h (400 - j) (j:Int) (by omega) fun y hy=>by have:=hi y hy;omega]
   rfl
 rw [fin] at e
 have f1:fl1 (.list (tabI 400 (fun j=>(cnt ss (j:Int):Int))))=true:=yR _ _
 unfold gG
 simp only [EV,reduceIte,ao,aq,aj,ak,au,aA,aB,zl1,rp,e,f1]
theorem tu {ss:List Sh} (h:∀ s ∈ ss,k_ s) (hl:ss.length ≤ 60):∃ M N:Int,dw [.list (ss.map stD)]=some (.tuple [.int M,.int N])∧0 ≤ M∧(∀ j:Nat,j < 400→(cnt ss (j:Int):Int) ≤ M)∧(M=0∨∃ n:Nat,n < 400∧(cnt ss (n:Int):Int)=M):=by
 obtain ⟨M,N,e1,e2⟩:=yS h hl
 obtain ⟨M',N',e3,le,cs⟩:=xM (f:=fun j=>(cnt ss (j:Int):Int)) (fun j=>by show (0:Int) ≤ ((cnt ss (j:Int):Nat):Int);omega)
 rw [e1] at e3
 cases e3
 refine ⟨M,N,e2,?_,le,?_⟩
 ·rcases cs with ⟨z,_⟩ | ⟨z,_⟩ <;> omega
 ·rcases cs with ⟨z,_⟩ | ⟨z,n,_,n1,n2,_⟩
  ·exact .inl z
  ·exact .inr ⟨n,n1,n2⟩
theorem FZ (f:Nat→Int) {a b:Int} (h0:0 ≤ a) (h1:a < b) (h2:b ≤ 400):∃ mx:Int,pq [.list (cutD (tabI 400 f) (some a) (some b))]=some (.int mx)∧(∀ k:Nat,a ≤ (k:Int)→(k:Int) < b→f k ≤ mx)∧∃ k:Nat,a ≤ (k:Int)∧(k:Int) < b∧f k=mx:=by
 have e:cutD (tabI 400 f) (some a) (some b)=((aW (b - a).toNat).map fun k=>f (a.toNat + k)).map PyData.int:=by
  have p1:pSx 400 0 (some a)=a.toNat:=by unfold pSx;dsimp only;rw [if_neg (by omega)];omega
  have p2:pSx 400 400 (some b)=b.toNat:=by unfold pSx;dsimp only;rw [if_neg (by omega)];omega
  unfold cutD
  rw [kY,p1,p2]
  apply iU
  intro i
  rw [jP,aZ,aZ]
  by_cases c:i < b.toNat - a.toNat
  ·rw [if_pos c,dH,kZ _ (by omega),dY (by omega)]
   rfl
  ·rw [if_neg c,cJ (by rw [cP];omega)]
   rfl
 rw [e]
 obtain ⟨n,hn⟩:∃ n,(b - a).toNat=n + 1:=⟨(b - a).toNat - 1,by omega⟩
 rw [hn,gk,bY,fj]
 have sp:=n_ ((aW n).map ((fun k=>f (a.toNat + k)) ∘ nW)) (f (a.toNat + 0))
 have er:f (a.toNat + 0) :: (aW n).map ((fun k=>f (a.toNat + k)) ∘ nW)=(aW (n + 1)).map fun k=>f (a.toNat + k):=by
  rw [gk,bY,fj]
 rw [er] at sp ⊢
 refine ⟨mxI (f (a.toNat + 0)) ((aW n).map ((fun k=>f (a.toNat + k)) ∘ nW)),?_,?_,?_⟩
 ·unfold pq
  simp only
  rw [jl,← er]
 ·intro k k1 k2
  exact sp.2 _ (bQ.mpr ⟨k - a.toNat,bA.mpr (by omega),by rw [show a.toNat + (k - a.toNat)=k by omega]⟩)
 ·obtain ⟨k,hk,ek⟩:=bQ.mp sp.1
  have:=bA.mp hk
  exact ⟨a.toNat + k,by omega,by omega,ek⟩
def Fst (p:Int→Prop):Option Int→Prop
 | none=>∀ x,0 ≤ x→x < 400→¬ p x
 | some n=>0 ≤ n∧n < 400∧p n∧∀ x,0 ≤ x→x < 400→p x→n ≤ x
theorem M8 {p:Int→Prop} {o o':Option Int} (h:Fst p o) (h':Fst p o'):o=o':=by
 cases o with
 | none =>
  cases o' with
  | none=>rfl
  | some n=>exact absurd h'.2.2.1 (h n h'.1 h'.2.1)
 | some m =>
  cases o' with
  | none=>exact absurd h.2.2.1 (h' m h.1 h.2.1)
  | some n =>
   have a:=h.2.2.2 n h'.1 h'.2.1 h'.2.2.1
   have b:=h'.2.2.2 m h.1 h.2.1 h.2.2.1
   rw [show m=n by omega]
def yV:Option Int→Option Int→Option Int
 | none,o=>o
 | o,none=>o
 | some a,some b=>some (if b < a then b else a)
theorem M9 {p q r:Int→Prop} {o o':Option Int} (h:Fst p o) (h':Fst q o') (hr:∀ x,0 ≤ x→x < 400→(r x↔p x∨q x)):Fst r (yV o o'):=by
 cases o with
 | none =>
  cases o' with
  | none=>exact fun x x0 x1 z=>((hr x x0 x1).mp z).elim (h x x0 x1) (h' x x0 x1)
  | some n=>exact ⟨h'.1,h'.2.1,(hr n h'.1 h'.2.1).mpr (.inr h'.2.2.1),fun x x0 x1 z=>((hr x x0 x1).mp z).elim (fun y=>absurd y (h x x0 x1)) (h'.2.2.2 x x0 x1)⟩
 | some m =>
  cases o' with
  | none=>exact ⟨h.1,h.2.1,(hr m h.1 h.2.1).mpr (.inl h.2.2.1),fun x x0 x1 z=>((hr x x0 x1).mp z).elim (h.2.2.2 x x0 x1) (fun y=>absurd y (h' x x0 x1))⟩
  | some n =>
   show 0 ≤ (if n < m then n else m)∧(if n < m then n else m) < 400∧r (if n < m then n else m)∧∀ x,0 ≤ x→x < 400→r x→(if n < m then n else m) ≤ x
   by_cases c:n < m
   ·rw [if_pos c]
    exact ⟨h'.1,h'.2.1,(hr n h'.1 h'.2.1).mpr (.inr h'.2.2.1),fun x x0 x1 z=>((hr x x0 x1).mp z).elim (fun y=>by have:=h.2.2.2 x x0 x1 y;omega) (h'.2.2.2 x x0 x1)⟩
   ·rw [if_neg c]
    exact ⟨h.1,h.2.1,(hr m h.1 h.2.1).mpr (.inl h.2.2.1),fun x x0 x1 z=>((hr x x0 x1).mp z).elim (h.2.2.2 x x0 x1) (fun y=>by have:=h'.2.2.2 x x0 x1 y;omega)⟩
def nts (a b:Int):List Int:=(aW (b - a).toNat).map fun (k:Nat)=>a + (k:Int)
theorem mX {a b x:Int}:x ∈ nts a b↔a ≤ x∧x < b:=by
 unfold nts
 rw [bQ]
 constructor
 ·rintro ⟨k,hk,rfl⟩
  have:=bA.mp hk
  omega
 ·intro h
  exact ⟨(x - a).toNat,bA.mpr (by omega),by omega⟩
theorem Cd (a b:Int):(nts a b).Pairwise (· < ·):=by
 unfold nts
 rw [eZ]
 exact List.Pairwise.imp (R:=(· < ·)) (fun {a b} h=>by omega) gj
theorem Ga (a b:Int):fU a b=(nts a b).map .int:=by
 unfold fU nts
 rw [fj]
 rfl
theorem Ce {a b:Int} {p:Int→Bool} (h0:0 ≤ a) (h1:b ≤ 400):Fst (fun x=>a ≤ x∧x < b∧p x=true) ((nts a b).find? p):=by
 cases e:(nts a b).find? p with
 | none =>
  rw [d_] at e
  exact fun x _ _ z=>absurd z.2.2 (e x (mX.mpr ⟨z.1,z.2.1⟩))
 | some n =>
  obtain ⟨pn,hn,mn⟩:=oV ((Cd a b).imp fun z=>gY z) e
  obtain ⟨n0,n1⟩:=mX.mp hn
  exact ⟨by omega,by omega,⟨n0,n1,pn⟩,fun x _ _ z=>mn x (mX.mpr ⟨z.1,z.2.1⟩) z.2.2⟩
theorem tE {p:Int→Bool}:Fst (fun x=>p x=true) ((i_ 0).find? p):=by
 cases e:(i_ 0).find? p with
 | none =>
  rw [d_] at e
  exact fun x x0 x1 z=>absurd z (e x (iG.mpr ⟨x0,x1⟩))
 | some n =>
  obtain ⟨pn,hn,mn⟩:=oV (m_ 0) e
  obtain ⟨n0,n1⟩:=iG.mp hn
  exact ⟨n0,n1,pn,fun x x0 x1 z=>mn x (iG.mpr ⟨x0,x1⟩) z⟩
theorem ux (o o':Option Int):cW [outD o,outD o']=some (outD (yV o o')):=by
 have n1:yp (.none)=some (.bool true):=rfl
 have n2:∀ x,yp (.int x)=some (.bool false):=fun _=>rfl
 have f1:flat .none=true:=rfl
 show Com.cW _=_
 unfold Com.cW outD yV
 cases o with
 | none =>
  cases o' with
  | none=>simp only [EV,reduceIte,ao,aq,aj,ak,au,aA,aB,n1,f1]
  | some y=>simp only [EV,reduceIte,ao,aq,aj,ak,au,aA,aB,n1,fli]
 | some x =>
  cases o' with
  | none=>simp only [EV,reduceIte,ao,aq,aj,ak,au,aA,aB,n1,n2,fli]
  | some y=>simp only [EV,reduceIte,ao,aq,aj,ak,au,aA,aB,n2]
theorem yW {ss:List Sh} {w:Sh} (hw:k_ w) (m:Int):cF [.list (tabI 400 (fun j=>(cnt ss (j:Int):Int))),stD w,.int m]=some (outD ((nts w.1 w.2).find? fun x=>decide ((cnt ss x:Int)=m))):=by
 obtain ⟨w0,w1,w2⟩:=hw
 have rr:xu (some [.int w.1,.int w.2])=some (fU w.1 w.2):=Oi (by omega) (by omega) (by omega) (by omega)
 show Com.cF _=_
 unfold Com.cF stD
 simp only [EV,reduceIte,ao,aq,aj,ak,au,aA,aB,at0,at1,rr]
 rw [Ga]
 rcases rE (g:=(gNl 3)) (b:=(sIf (cT (dOp gEq (dOp gIx (aJ 0) (aJ 3)) (aJ 2))) (fX (eH (aJ 3))) (jt))) (fun δ=>∃ y,δ=[some (.d (.list (tabI 400 (fun j=>(cnt ss (j:Int):Int))))),some (.d (.tuple [.int w.1,.int w.2])),some (.d (.int m)),y]) (fun x=>decide ((cnt ss x:Int)=m)) (nts w.1 w.2)
  [some (.d (.list (tabI 400 (fun j=>(cnt ss (j:Int):Int))))),some (.d (.tuple [.int w.1,.int w.2])),some (.d (.int m)),none] ⟨none,rfl⟩ (by
   rintro x hx δ ⟨y,rfl⟩
   obtain ⟨x0,x1⟩:=mX.mp hx
   have ex:x=((x.toNat:Nat):Int):=by omega
   have g1:pAt (tabI 400 (fun j=>(cnt ss (j:Int):Int))) x=some (.int (cnt ss x:Int)):=by
    rw [ex,oR,kZ _ (by omega)]
   refine ⟨_,rfl,?_⟩
   by_cases c:(cnt ss x:Int)=m
   ·refine .inl ⟨dTr c,?_⟩
    simp only [EV,reduceIte,ao,aq,aj,ak,au,aA,aB,g1,dTr c]
   ·refine .inr ⟨dFa c,_,?_,some (.d (.int x)),rfl⟩
    simp only [EV,reduceIte,ao,aq,aj,ak,au,aA,aB,g1,dFa c]) with ⟨x,e1,e2⟩ | ⟨e1,δ',e2,y,rfl⟩
 ·rw [e2,e1]
  simp only [EV,reduceIte,ao,aq,aj,ak,au,aA,aB]
  rfl
 ·rw [e2,e1]
  simp only [EV,reduceIte,ao,aq,aj,ak,au,aA,aB]
  rfl
theorem Gb (l r:List Sh) (w:Sh) (x:Int):cnt (l++[w]++r) x=cnt (l++r) x + if hb x w=true then 1 else 0:=by
 have e:∀ a b:List Sh,cnt (a++b) x=cnt a x + cnt b x:=fun a b=>by unfold cnt;rw [List.filter_append,aP]
 rw [e,e,e,cnt_cons]
 show cnt l x + ((if hb x w=true then 1 else 0) + 0) + cnt r x=_
 omega
def fB (s w:Sh):Int:=if w.1 > s.1 then w.1 else s.1
def bB (s w:Sh):Int:=if w.2 < s.2 then w.2 else s.2
theorem Gd {s w:Sh} (h:k_ s) (hw:k_ w):((aW 400).filter fun (k:Nat)=>hb (k:Int) s && hb (k:Int) w).map (fun (k:Nat)=>PyData.int (k:Int))=(nts (fB s w) (bB s w)).map PyData.int:=by
 have e:((aW 400).filter fun (k:Nat)=>hb (k:Int) s && hb (k:Int) w).map (fun (k:Nat)=>(k:Int))=nts (fB s w) (bB s w):=by
  refine xP ?_ (Cd _ _) fun x=>?_
  ·rw [eZ]
   exact (gj.filter _).imp fun {a b} z=>by omega
  ·rw [mX,bQ]
   obtain ⟨s0,s1,s2⟩:=h
   obtain ⟨w0,w1,w2⟩:=hw
   unfold fB bB
   constructor
   ·rintro ⟨k,hk,rfl⟩
    rw [dD,aU] at hk
    obtain ⟨_,a1,a2⟩:=hk
    unfold hb at a1 a2
    rw [aU,decide_eq_true_iff,decide_eq_true_iff] at a1 a2
    split <;> split <;> omega
   ·intro z
    have z1:s.1 ≤ x∧x < s.2∧w.1 ≤ x∧x < w.2:=by
     split at z <;> split at z <;> omega
    refine ⟨x.toNat,dD.mpr ⟨bA.mpr (by omega),?_⟩,by omega⟩
    rw [show ((x.toNat:Nat):Int)=x by omega,p7 z1.1 z1.2.1,p7 z1.2.2.1 z1.2.2.2]
    rfl
 rw [← e,fj]
 rfl
theorem yX {s w:Sh} (c:bB s w ≤ fB s w):fJ [stD s,stD w]=some .none:=by
 unfold fB bB at c
 show Com.fJ _=_
 unfold Com.fJ stD
 simp only [EV,reduceIte,ao,aq,aj,ak,au,aA,aB,at0,at1,dTr c]
theorem wu {s w:Sh} (c:¬ bB s w ≤ fB s w):fJ [stD s,stD w]=some (.tuple [.int (fB s w),.int (bB s w)]):=by
 unfold fB bB at *
 show Com.fJ _=_
 unfold Com.fJ stD
 simp only [EV,reduceIte,ao,aq,aj,ak,au,aA,aB,at0,at1,dFa c,fli,zl2]
theorem GF (o:Option Int):gNe (outD o) (outD o)=some (.bool false):=by
 cases o with
 | none=>exact ne_self ⟨rfl,by unfold outD;simp [PyData.depth]⟩
 | some x=>exact ne_self (rB (n:=59))
theorem GJ (f:Nat→Int):gNe (.list (tabI 400 f)) (.list (tabI 400 f))=some (.bool false):=ne_self (BX (n:=2) (xJ (ur _ (fun j=>rB (n:=0)) _)) (by decide))
theorem Ci (ns:List Int) (h63:ns.length ≤ 63):B_ [.list (ns.map .int)]=some (.bool true):=by
 obtain ⟨ss,hl,hs,es⟩:=some_spec ns
 have cut0:cutD (ss.map stD) none (some 59)=ss.map stD:=by rw [BW (by decide)];exact bW (by rw [aH];exact hl)
 have p0:=fW (ns:=ns) (i:=0) (k:=4) (m:=5) (by decide) (by decide) (by decide) (by decide)
 have r0:=fH ns 0 4 (m:=5) (by decide)
 generalize iZ ns 0 4 5=md at *
 obtain ⟨w,hw,ew⟩:=oU ns (a:=3) (t:=0) (m:=md) (by decide) (by decide) (by decide) r0.1 r0.2
 have p3:=fW (ns:=ns) (i:=3) (k:=4) (m:=(ss.length:Int) + 1) (by decide) (by decide) (by decide) (by omega)
 have r3:=fH ns 3 4 (m:=(ss.length:Int) + 1) (by omega)
 generalize iZ ns 3 4 ((ss.length:Int) + 1)=t at *
 have k1:cutD (ss.map stD) none (some t)=(ss.take t.toNat).map stD:=by rw [BW r3.1,List.map_take]
 have k2:cutD (ss.map stD) (some t) none=(ss.drop t.toNat).map stD:=by rw [Gz r3.1,List.map_drop]
 have c1:qt (.list ((ss.take t.toNat).map stD)) (.list [stD w])=some (.list ((ss.take t.toNat++[w]).map stD)):=by
  rw [vm,if_pos (by rw [aH,bZ];simp;omega),iz]
  rfl
 have c2:qt (.list ((ss.take t.toNat++[w]).map stD)) (.list ((ss.drop t.toNat).map stD))=some (.list ((ss.take t.toNat++[w]++ss.drop t.toNat).map stD)):=by
  rw [vm,if_pos (by rw [aH,aH,aP,bZ,bV];simp;omega),iz (l₁:=ss.take t.toNat++[w])]
 have cm:∀ x,cnt (ss.take t.toNat++[w]++ss.drop t.toNat) x=cnt ss x + if hb x w=true then 1 else 0:=fun x=>by rw [Gb,cR]
 have hm:∀ s ∈ ss.take t.toNat++[w]++ss.drop t.toNat,k_ s:=fun s h=>by
  rcases bD.mp h with h | h
  ·rcases bD.mp h with h | h
   ·exact hs s (eY h)
   ·rw [aX.mp h];exact hw
  ·exact hs s (eX h)
 have lm:(ss.take t.toNat++[w]++ss.drop t.toNat).length ≤ 60:=by
  rw [aP,aP,bZ,bV]
  simp
  omega
 generalize ss.take t.toNat++[w]++ss.drop t.toNat=mm at *
 have rr:sW (some [.int 400])=some (fU 0 400):=Fy (by decide) (by decide)
 have len:(fU 0 400).length ≤ 100000:=by decide
 have C0:∀ u0 u2 u3 u4 u5 u6 u7 u8 u9 u10 u11:Option U,fG (gNl 0) (D3.lF) (dCall bJ (aC (aJ 1) (aC (aJ 0) (bN)))) (kJ 1 [1] [u0,some (.d (.list (ss.map stD))),u2,u3,u4,u5,u6,u7,u8,u9,u10,u11]) (fU 0 400)=some (tabI 400 (fun j=>(cnt ss (j:Int):Int))):=fun _ _ _ _ _ _ _ _ _ _ _=>by
  rw [pZ]
  exact yP (fun k:Nat=>PyData.int (k:Int)) (fun k:Nat=>PyData.int (cnt ss (k:Int):Int)) (aW 400) fun k _=>⟨[some (.d (.int (k:Int))),some (.d (.list (ss.map stD)))],rfl,rfl,by
   have c1:Com.bJ _=_:=gw (ss:=ss) (by omega) (k:Int)
   simp only [EV,reduceIte,ao,aq,aj,ak,au,aA,aB,c1]⟩
 have C1:∀ u0 u1 u2 u3 u5 u6 u7 u8 u9 u10 u11:Option U,fG (gNl 0) (D3.lF) (dCall bJ (aC (aJ 1) (aC (aJ 0) (bN)))) (kJ 1 [4] [u0,u1,u2,u3,some (.d (.list (mm.map stD))),u5,u6,u7,u8,u9,u10,u11]) (fU 0 400)=some (tabI 400 (fun j=>(cnt mm (j:Int):Int))):=fun _ _ _ _ _ _ _ _ _ _ _=>by
  rw [pZ]
  exact yP (fun k:Nat=>PyData.int (k:Int)) (fun k:Nat=>PyData.int (cnt mm (k:Int):Int)) (aW 400) fun k _=>⟨[some (.d (.int (k:Int))),some (.d (.list (mm.map stD)))],rfl,rfl,by
   have c1:Com.bJ _=_:=gw (ss:=mm) (by omega) (k:Int)
   simp only [EV,reduceIte,ao,aq,aj,ak,au,aA,aB,c1]⟩
 have gi:∀ b:Bool,yq [.bool b]=some (.int (if b=true then 1 else 0)):=fun _=>rfl
 have C2:∀ u0 u1 u3 u4 u6 u7 u8 u9 u10 u11:Option U,fG (gNl 0) (D3.lF) (dOp iQ (dOp gIx (aJ 1) (aJ 0)) (dCall yq (aC (dCall dW (aC (aJ 2) (aC (aJ 0) (bN)))) (bN)))) (kJ 1 [5,2] [u0,u1,some (.d (stD w)),u3,u4,some (.d (.list (tabI 400 (fun j=>(cnt ss (j:Int):Int))))),u6,u7,u8,u9,u10,u11]) (fU 0 400)=some (tabI 400 (fun j=>(cnt mm (j:Int):Int))):=fun _ _ _ _ _ _ _ _ _ _=>by
  rw [pZ]
  exact yP (fun k:Nat=>PyData.int (k:Int)) (fun k:Nat=>PyData.int (cnt mm (k:Int):Int)) (aW 400) fun k hk=>⟨[some (.d (.int (k:Int))),some (.d (.list (tabI 400 (fun j=>(cnt ss (j:Int):Int))))),some (.d (stD w))],rfl,rfl,by
   have hk:=bA.mp hk
   have g1:pAt (tabI 400 (fun j=>(cnt ss (j:Int):Int))) (k:Int)=some (.int (cnt ss (k:Int):Int)):=by rw [oR,kZ _ hk]
   have h1:Com.dW _=_:=lM w (k:Int)
   have e:(cnt ss (k:Int):Int) + (if hb (k:Int) w=true then 1 else 0)=(cnt mm (k:Int):Int):=by
    rw [cm]
    split <;> omega
   simp only [EV,reduceIte,ao,aq,aj,ak,au,aA,aB,g1,h1,gi,e]⟩
 have ct1:=pI (ss:=ss) (by omega)
 have ct2:=pI (ss:=mm) (by omega)
 have sp1:=pK hs (by omega)
 have sp2:=pK hm (by omega)
 generalize (pr ss).map (rwD ss)=R1 at *
 generalize (pr mm).map (rwD mm)=R2 at *
 have T1:=GJ fun j=>(cnt ss (j:Int):Int)
 have T2:=GJ fun j=>(cnt mm (j:Int):Int)
 obtain ⟨M,N,em,M0,Ma,Mb⟩:=tu hs (by omega)
 obtain ⟨M',N',em',M0',Ma',Mb'⟩:=tu hm (by omega)
 have i0:gIx (stD w) (.int 0)=some (.int w.1):=rfl
 have i1:gIx (stD w) (.int 1)=some (.int w.2):=rfl
 obtain ⟨mx,emx,xa,k,ka,kb,xb⟩:=FZ (fun j=>(cnt ss (j:Int):Int)) hw.1 hw.2.1 hw.2.2
 have eM:(if 1 + mx > M then 1 + mx else M)=M':=by
  obtain ⟨w0,w1,w2⟩:=hw
  have hk:hb (k:Int) w=true:=p7 ka kb
  have a1:=Ma' k (by omega)
  rw [cm,hk,if_pos rfl] at a1
  have xb':(cnt ss (k:Int):Int)=mx:=xb
  have a2:M ≤ M':=by
   rcases Mb with z | ⟨n,n1,n2⟩
   ·omega
   ·have:=Ma' n n1
    rw [cm] at this
    omega
  have a3:M' ≤ 1 + mx∨M' ≤ M:=by
   rcases Mb' with z | ⟨n,n1,n2⟩
   ·omega
   ·rw [cm] at n2
    cases hn:hb (n:Int) w with
    | true =>
     rw [hn,if_pos rfl] at n2
     unfold hb at hn
     rw [aU,decide_eq_true_iff,decide_eq_true_iff] at hn
     have:(cnt ss (n:Int):Int) ≤ mx:=xa n hn.1 hn.2
     omega
    | false =>
     rw [hn,if_neg aK] at n2
     have:=Ma n n1
     omega
  split <;> omega
 have p2:=fW (ns:=ns) (i:=2) (k:=0) (m:=M + 1) (by decide) (by decide) (by decide) (by omega)
 generalize iZ ns 2 0 (M + 1)=pp at *
 have dv:rK (.int M) (.int 2)=some (.int (M / 2)):=JN (by decide) (by decide)
 have cD:∀ (F:List D→Option D) (i:Int) (f:FA) (δ:DS),o7 F i f δ=(f δ).bind fun ds=>F (ds++[.int i]):=fun _ _ _ _=>rfl
 have fu1:∀ m:Int,Com.fK [.list (ss.map stD),.int m,.int 0]=some (outD ((i_ 0).find? (fun x=>decide (m < (cnt ss x:Int))))):=fun m=>pJ hs (by omega) (by decide) (by decide) m
 have wi:∀ m:Int,Com.cF _=_:=fun m=>yW (ss:=ss) hw m
 have ea:∀ o o':Option Int,Com.cW _=_:=fun o o'=>ux o o'
 have fu2:∀ m:Int,Com.fK [.list (mm.map stD),.int m,.int 0]=some (outD (yV ((i_ 0).find? (fun x=>decide (m < (cnt ss x:Int)))) ((nts w.1 w.2).find? fun x=>decide ((cnt ss x:Int)=m)))):=fun m=>by
  rw [pJ hm (by omega) (by decide) (by decide) m]
  congr 2
  refine M8 tE (M9 tE (Ce hw.1 hw.2.2) fun x x0 x1=>?_)
  rw [decide_eq_true_iff,decide_eq_true_iff,decide_eq_true_iff,cm]
  by_cases c:w.1 ≤ x∧x < w.2
  ·rw [p7 c.1 c.2,if_pos rfl]
   omega
  ·rw [rD (by omega),if_neg aK]
   omega
 obtain ⟨δ1,e1,a8,a9,rfl⟩:=pY (g:=(gNl 8)) (b:=(dF (cI 9 (dCall cW (aC (o7 fK 0 (aC (aJ 1) (aC (aJ 8) (bN)))) (aC (dCall cF (aC (aJ 5) (aC (aJ 2) (aC (aJ 8) (bN))))) (bN))))) (sIf (cT (dOp gNe (o7 fK 0 (aC (aJ 4) (aC (aJ 8) (bN)))) (aJ 9))) (fX (dC (.bool false))) (jt))))
  (fun _ δ=>∃ a8 a9:Option U,δ=[some (.d (.list (ns.map .int))),some (.d (.list (ss.map stD))),some (.d (stD w)),some (.d (.int t)),some (.d (.list (mm.map stD))),some (.d (.list (tabI 400 (fun j=>(cnt ss (j:Int):Int))))),some (.d (.list (tabI 400 (fun j=>(cnt mm (j:Int):Int))))),some (.d (.int M)),a8,a9,none,none])
  [.int 0,.int M,.int pp,.int (M / 2)]
  [some (.d (.list (ns.map .int))),some (.d (.list (ss.map stD))),some (.d (stD w)),some (.d (.int t)),some (.d (.list (mm.map stD))),some (.d (.list (tabI 400 (fun j=>(cnt ss (j:Int):Int))))),some (.d (.list (tabI 400 (fun j=>(cnt mm (j:Int):Int))))),some (.d (.int M)),none,none,none,none] ⟨none,none,rfl⟩ (by
   rintro i d δ hd ⟨a8,a9,rfl⟩
   obtain ⟨m,rfl⟩:∃ m,d = .int m:=by
    have:=gO hd
    simp only [aQ,dI,or_false] at this
    rcases this with rfl | rfl | rfl | rfl <;> exact ⟨_,rfl⟩
   refine ⟨_,_,rfl,.inl ?_,some (.d (.int m)),some (.d (outD (yV ((i_ 0).find? (fun x=>decide (m < (cnt ss x:Int)))) ((nts w.1 w.2).find? fun x=>decide ((cnt ss x:Int)=m))))),rfl⟩
   have b1:=fu1 m
   have b2:=fu2 m
   have b3:=wi m
   generalize (i_ 0).find? (fun x=>decide (m < (cnt ss x:Int)))=o1 at *
   generalize (nts w.1 w.2).find? (fun x=>decide ((cnt ss x:Int)=m))=o2 at *
   have b4:=ea o1 o2
   have b5:=GF (yV o1 o2)
   simp only [EV,reduceIte,ao,aq,aj,ak,au,aA,aB,cD,aD,b1,b3,b4,b2,b5])
 have k12:cutD (ss.map stD) none (some 12)=(ss.take 12).map stD:=by rw [BW (by decide),List.map_take];rfl
 obtain ⟨δ2,e2,b9,b10,b11,rfl⟩:=pY (g:=(gNl 10)) (b:=(dF (cI 11 (jd (mC (aC (dC (.int 400)) (bN))) (gNl 0) (D3.tH (cT (dCall dW (aC (aJ 1) (aC (aJ 0) (bN))))) (cT (dCall dW (aC (aJ 2) (aC (aJ 0) (bN)))))) (eH (aJ 0)) 1 [10,2])) (dF (cI 9 (dC (.none))) (dF (sIf (cT (dOp gNe (aJ 11) (mq (bN)))) (cI 9 (dTup (aC (dOp gIx (aJ 11) (dC (.int 0))) (aC (dOp iQ (dOp gIx (aJ 11) (dUn zV (dC (.int 1)))) (dC (.int 1))) (bN))))) (jt)) (sIf (cT (dOp gNe (dCall fJ (aC (aJ 10) (aC (aJ 2) (bN)))) (aJ 9))) (fX (dC (.bool false))) (jt))))))
  (fun _ δ=>∃ b9 b10 b11:Option U,δ=[some (.d (.list (ns.map .int))),some (.d (.list (ss.map stD))),some (.d (stD w)),some (.d (.int t)),some (.d (.list (mm.map stD))),some (.d (.list (tabI 400 (fun j=>(cnt ss (j:Int):Int))))),some (.d (.list (tabI 400 (fun j=>(cnt mm (j:Int):Int))))),some (.d (.int M)),a8,b9,b10,b11])
  ((ss.take 12).map stD)
  [some (.d (.list (ns.map .int))),some (.d (.list (ss.map stD))),some (.d (stD w)),some (.d (.int t)),some (.d (.list (mm.map stD))),some (.d (.list (tabI 400 (fun j=>(cnt ss (j:Int):Int))))),some (.d (.list (tabI 400 (fun j=>(cnt mm (j:Int):Int))))),some (.d (.int M)),a8,a9,none,none] ⟨a9,none,none,rfl⟩ (by
   rintro i d δ hd ⟨b9,b10,b11,rfl⟩
   obtain ⟨s,hs',rfl⟩:=bQ.mp (gO hd)
   have so:=hs s (eY hs')
   have C3:∀ u0 u1 u3 u4 u5 u6 u7 u8 u9 u11:Option U,fG (gNl 0) (D3.tH (cT (dCall dW (aC (aJ 1) (aC (aJ 0) (bN))))) (cT (dCall dW (aC (aJ 2) (aC (aJ 0) (bN)))))) (eH (aJ 0)) (kJ 1 [10,2] [u0,u1,some (.d (stD w)),u3,u4,u5,u6,u7,u8,u9,some (.d (stD s)),u11]) (fU 0 400)=some ((nts (fB s w) (bB s w)).map PyData.int):=fun _ _ _ _ _ _ _ _ _ _=>by
    rw [pZ,← Gd so hw]
    exact JQ (fun k:Nat=>PyData.int (k:Int)) (fun k:Nat=>hb (k:Int) s && hb (k:Int) w) (fun k:Nat=>PyData.int (k:Int)) (aW 400) fun k _=>⟨[some (.d (.int (k:Int))),some (.d (stD s)),some (.d (stD w))],rfl,by
     have h1:Com.dW _=_:=lM s (k:Int)
     have h2:Com.dW _=_:=lM w (k:Int)
     cases h3:hb (k:Int) s with
     | true=>rw [h3] at h1;simp only [EV,reduceIte,ao,aq,aj,ak,au,aA,aB,h1,h2,Bool.true_and]
     | false=>rw [h3] at h1;simp only [EV,reduceIte,ao,aq,aj,ak,au,aA,aB,h1,lW],fun _=>by simp only [EV,reduceIte,ao,aq,aj,ak,au,aA,aB,fli]⟩
   have ne0:gNe (.list ((nts (fB s w) (bB s w)).map PyData.int)) (.list [])=some (.bool (!((nts (fB s w) (bB s w)).map PyData.int).isEmpty)):=ne_nil (BX (n:=2) (xJ (ur _ (fun j=>rB (n:=0)) _)) (by decide))
   have nN:gNe .none .none=some (.bool false):=GF none
   have nlen:(nts (fB s w) (bB s w)).length=(bB s w - fB s w).toNat:=by unfold nts;rw [aH,cP]
   by_cases c:bB s w ≤ fB s w
   ·have em:nts (fB s w) (bB s w)=[]:=fQ.mp (by omega)
    have shr:Com.fJ _=_:=yX c
    rw [em] at C3 ne0
    refine ⟨_,_,rfl,.inl ?_,some (.d .none),some (.d (stD s)),some (.d (.list [])),rfl⟩
    have ne1:gNe (.list []) (.list [])=some (.bool false):=ne0
    simp only [EV,reduceIte,ao,aq,aj,ak,au,aA,aB,rr,len,C3,nO,zl0,ne1,shr,nN]
   ·have shr:Com.fJ _=_:=wu c
    have n0:((nts (fB s w) (bB s w)).map PyData.int).isEmpty=false:=by
     rw [List.isEmpty_eq_false_iff_exists_mem]
     exact ⟨_,List.mem_map_of_mem (mX.mpr ⟨cH _,by omega⟩)⟩
    have q1:pAt ((nts (fB s w) (bB s w)).map PyData.int) 0=some (.int (fB s w)):=by
     have:=oR (l:=(nts (fB s w) (bB s w)).map PyData.int) (k:=0)
     rw [show ((0:Nat):Int)=0 from rfl] at this
     rw [this,aZ]
     unfold nts
     rw [aZ,dY (by omega)]
     simp
    have q2:pAt ((nts (fB s w) (bB s w)).map PyData.int) (-1)=some (.int (bB s w - 1)):=by
     unfold pAt pIx
     rw [aH,nlen,if_neg (by decide),if_pos (by omega),aD,aZ]
     unfold nts
     rw [aZ,dY (by omega)]
     show some (PyData.int (fB s w + (((-1 + ((bB s w - fB s w).toNat:Int)).toNat:Nat):Int)))=_
     congr 2
     omega
    rw [n0] at ne0
    have bb:bB s w - 1 + 1=bB s w:=by omega
    have nT:gNe (.tuple [.int (fB s w),.int (bB s w)]) (.tuple [.int (fB s w),.int (bB s w)])=some (.bool false):=ne_self (BX (n:=2) (JR (rA rB (rA rB xH))) (by decide))
    refine ⟨_,_,rfl,.inl ?_,some (.d (.tuple [.int (fB s w),.int (bB s w)])),some (.d (stD s)),some (.d (.list ((nts (fB s w) (bB s w)).map PyData.int))),rfl⟩
    generalize (nts (fB s w) (bB s w)).map PyData.int=Q at *
    simp only [EV,reduceIte,ao,aq,aj,ak,au,aA,aB,rr,len,C3,zl0,zl2,ne0,Bool.not_false,q1,q2,bb,shr,nT])
 unfold B_
 simp only [EV,reduceIte,ao,aq,aj,ak,au,aA,aB,es,cut0,p0,ew,lMp,p3,k1,zl1,c1,k2,c2,rr,len,C0,C1,C2,T2,ct1,sp1,T1,ct2,sp2,em,em',at0,i0,i1,emx,eM,p2,dv,zl4,ne_eq,not_true_eq_false,decide_false,e1,k12,e2]
end K19
namespace K19
open PySem PySem.Spec PyProof.Rows L2 My D3
def top (i:Nat):Stmt:=PySem.Challenge.pw_nightbook_k19_whole_one_stretch_more.main.body.getD i (.Pass ⟨0,0,0,0⟩)
section
seal PE PT PW PA PS PSs PG PGs PI PO PTs
variable {P:Program} {w:World} {K:PySem.W.Frag} {mg:Str→Option Value} {base:Heap} {n:Nat}
theorem Cj (D:Dg K mg "holds" (top 1) ["stretch", "night"]) (B:Bl mg):Has P w K mg base (n + 1) "holds" ["stretch", "night"] (spD K dW):=by
 have sc:FnScope ["stretch", "night"] ["stretch", "night"] (bH (top 1)):=fsc
 exact jU (fl:=[.A,.A]) D sc (by decide) (by decide) fun f cdv A outer s H E hr=>bR (cU (cN (Ac Ke zH Ny b_lt (fP (dx (vB 0) iP)) (vP 1) (fP (dx (vB 0) iP)))))
theorem yZ (D:Dg K mg "shared" (top 2) ["one", "other"]) (B:Bl mg):Has P w K mg base (n + 1) "shared" ["one", "other"] (spD K fJ):=by
 have sc:FnScope ["one", "other", "first", "behind"] ["one", "other"] (bH (top 2)):=fsc
 exact jU (fl:=[.A,.A,.A,.A]) D sc (by decide) (by decide) fun f cdv A outer s H E hr=>bf (sA (i:=2) sc.nd (eU (jT (rP rfl) Ad (by rfl) B.max_ PyProof.Rows.boot_max (dq (fP (dx (vB 0) iP)) (dq (fP (dx (vB 1) iP)) dz)))))
  (bf (sA (i:=3) sc.nd (eU (jT (oX rfl) vV (by rfl) B.min_ PyProof.Rows.boot_min (dq (fP (dx (vB 0) iP)) (dq (fP (dx (vB 1) iP)) dz)))))
  (bf (je (fO Gg K4 (vP 2) (vP 3) (fM _)) (bR (cU (cN (qx)))) (eG))
  (bR (cU (qy rfl (dq (cN (gH (vP 2))) (dq (cN (gH (vP 3))) dz)))))))
theorem vq (D:Dg K mg "count_at" (top 3) ["stretches", "night"]) (B:Bl mg) (hholds:Has P w K mg base n "holds" ["stretch", "night"] (spD K dW)):Has P w K mg base (n + 1) "count_at" ["stretches", "night"] (spD K bJ):=by
 have sc:FnScope ["stretches", "night"] ["stretches", "night"] (bH (top 3)):=fsc
 exact jU (fl:=[.A,.A]) D sc (by decide) (by decide) fun f cdv A outer s H E hr=>bR (cU (cN (jT iW qz (by rfl) B.len_ PySem.boot_len (dq (cg (jG (L:=[]) (fl':=[.A,.A]) rfl ["stretch"] ["night"] [1] (iB (vB 0)) (fun _ _ _ _ _=>gN' (i:=0) (show (["stretch", "night"]:List Str).Nodup by decide +kernel)) (fun _ _ _ _ _=>n8 (vM (fZ (bT hholds hr (dq (vP 0) (dq (vP 1) dz)))))) (fun _ _ _ _ _=>jh (gH (vP 0))))) dz))))
theorem zc (D:Dg K mg "firsts" (top 4) ["stretches"]) (B:Bl mg):Has P w K mg base (n + 1) "firsts" ["stretches"] (spD K fV):=by
 have sc:FnScope ["stretches"] ["stretches"] (bH (top 4)):=fsc
 exact jU (fl:=[.A]) D sc (by decide) (by decide) fun f cdv A outer s H E hr=>bR (cU (cN (jG (L:=[]) (fl':=[.A]) rfl ["stretch"] [] [] (iB (vB 0)) (fun _ _ _ _ _=>gN' (i:=0) (show (["stretch"]:List Str).Nodup by decide +kernel)) (fun _ _ _ _ _=>j6) (fun _ _ _ _ _=>jh (gH (fP (dx (vB 0) iP)))))))
theorem pO (D:Dg K mg "most_at_once" (top 5) ["stretches"]) (B:Bl mg) (hcount_at:Has P w K mg base n "count_at" ["stretches", "night"] (spD K bJ)) (hfirsts:Has P w K mg base n "firsts" ["stretches"] (spD K fV)):Has P w K mg base (n + 1) "most_at_once" ["stretches"] (spD K dw):=by
 have sc:FnScope ["stretches", "most", "night", "first", "count"] ["stretches"] (bH (top 5)):=fsc
 exact jU (fl:=[.A,.A,.A,.A,.A]) D sc (by decide) (by decide) fun f cdv A outer s H E hr=>bf (sA (i:=1) sc.nd (eU (qw)))
  (bf (sA (i:=2) sc.nd (eU (qw)))
  (bf (mF (L:=[]) PassesOwn.never rfl (iB (fY (eU (o9 (dq (fZ (bT hfirsts hr (dq (vP 0) dz))) dz) (by rfl) B.sorted_)))) (gN' (i:=3) sc.nd) (bf (sA (i:=4) sc.nd (jR (bT hcount_at hr (dq (vP 0) (dq (vP 3) dz)))))
  (bR (je (fO rO yr (vP 4) (vP 1) (fM _)) (bf (sA (i:=1) sc.nd (vA 4))
  (bR (sA (i:=2) sc.nd (vA 3)))) (eG)))))
  (bR (cU (qy rfl (dq (cN (gH (vP 1))) (dq (cN (gH (vP 2))) dz)))))))
theorem wA (D:Dg K mg "changes" (top 6) ["stretches"]) (B:Bl mg) (hcount_at:Has P w K mg base n "count_at" ["stretches", "night"] (spD K bJ)) (hfirsts:Has P w K mg base n "firsts" ["stretches"] (spD K fV)):Has P w K mg base (n + 1) "changes" ["stretches"] (spD K lg):=by
 have sc:FnScope ["stretches", "edges"] ["stretches"] (bH (top 6)):=fsc
 exact jU (fl:=[.A,.A]) D sc (by decide) (by decide) fun f cdv A outer s H E hr=>bf (sA (i:=1) sc.nd (jB (qH (fY (jR (bT hfirsts hr (dq (vP 0) dz)))) (fY (eU (jG (L:=[]) (fl':=[.A]) rfl ["stretch"] [] [] (iB (vB 0)) (fun _ _ _ _ _=>gN' (i:=0) (show (["stretch"]:List Str).Nodup by decide +kernel)) (fun _ _ _ _ _=>j6) (fun _ _ _ _ _=>jh (gH (fP (dx (vB 0) iP))))))))))
  (bR (cU (cN (XU.v8 rfl (dq (cg (jG (L:=[]) (fl':=[.A,.A]) rfl ["edge"] ["stretches"] [0] (iB (vB 1)) (fun _ _ _ _ _=>gN' (i:=0) (show (["edge", "stretches"]:List Str).Nodup by decide +kernel)) (fun _ _ _ _ _=>n8 (fO (lZ hr.units) uO (fZ (bT hcount_at hr (dq (vP 1) (dq (cg (cQ zG Gr (vP 0) iP)) dz)))) (fZ (bT hcount_at hr (dq (vP 1) (dq (vP 0) dz)))) (fM _))) (fun _ _ _ _ _=>jh (gH (vP 0))))) dz) (by rfl) B.sorted_ (by rfl) B.set_))))
theorem zf (D:Dg K mg "counts" (top 7) ["stretches"]) (B:Bl mg) (hcount_at:Has P w K mg base n "count_at" ["stretches", "night"] (spD K bJ)) (hchanges:Has P w K mg base n "changes" ["stretches"] (spD K lg)):Has P w K mg base (n + 1) "counts" ["stretches"] (spD K lu):=by
 have sc:FnScope ["stretches", "edges"] ["stretches"] (bH (top 7)):=fsc
 exact jU (fl:=[.A,.A]) D sc (by decide) (by decide) fun f cdv A outer s H E hr=>bf (sA (i:=1) sc.nd (jR (bT hchanges hr (dq (vP 0) dz))))
  (bR (cU (cN (jG (L:=[]) (fl':=[.A,.A,.A]) rfl ["first", "behind"] ["stretches"] [0] (Ii (L1:=[]) (L2:=[]) (vB 1) (fY (jB (sI (vB 1) (lK iP) oE))) (by rfl) B.zip_) (fun _ _ _ _ _=>z7 rfl (mD (gN' (i:=0) (show (["first", "behind", "stretches"]:List Str).Nodup by decide +kernel)) (mD (gN' (i:=1) (show (["first", "behind", "stretches"]:List Str).Nodup by decide +kernel)) (wK)))) (fun _ _ _ _ _=>j6) (fun _ _ _ _ _=>jh (gH (fP (qy rfl (dq (vA 0) (dq (vA 1) (dq (jR (bT hcount_at hr (dq (vP 2) (dq (vP 0) dz)))) dz)))))))))))
theorem zj (D:Dg K mg "fuller" (top 8) ["stretches", "many", "since"]) (B:Bl mg) (hcount_at:Has P w K mg base n "count_at" ["stretches", "night"] (spD K bJ)) (hfirsts:Has P w K mg base n "firsts" ["stretches"] (spD K fV)):Has P w K mg base (n + 1) "fuller" ["stretches", "many", "since"] (spD K fK):=by
 have sc:FnScope ["stretches", "many", "since", "later", "night"] ["stretches", "many", "since"] (bH (top 8)):=fsc
 exact jU (fl:=[.A,.A,.A,.A,.A]) D sc (by decide) (by decide) fun f cdv A outer s H E hr=>bf (oA (i:=3) (L:=[]) (fl':=[.A,.A]) rfl sc.nd rfl rfl rfl ["first"] ["since"] [2] (iB (fY (jR (bT hfirsts hr (dq (vP 0) dz))))) (fun _ _ _ _ _=>gN' (i:=0) (show (["first", "since"]:List Str).Nodup by decide +kernel)) (fun _ _ _ _ _=>n8 (fO rO yr (vP 0) (vP 1) (fM _))) (fun _ _ _ _ _=>jh (gH (vP 0))))
  (bf (mF (L:=[]) PassesOwn.never rfl (iB (fY (jB (qH (fY (jB (ou (dq (vA 2) dz)))) (fY (eU (o9 (dq (vP 3) dz) (by rfl) B.sorted_))))))) (gN' (i:=4) sc.nd) (bR (je (fO rO yr (fZ (bT hcount_at hr (dq (vP 0) (dq (vP 4) dz)))) (vP 1) (fM _)) (bR (cU (cN (gH (vP 4))))) (eG))))
  (bR (cU (cN (qx)))))
theorem wC (D:DgD K mg "fuller" (top 8) ["stretches", "many", "since"] [V.int 0] ["since"]) (B:Bl mg) (hcount_at:Has P w K mg base n "count_at" ["stretches", "night"] (spD K bJ)) (hfirsts:Has P w K mg base n "firsts" ["stretches"] (spD K fV)):HasD P w K mg base (n + 1) "fuller" ["stretches", "many", "since"] (spD K fK) [V.int 0] ["since"]:=by
 have sc:FnScope ["stretches", "many", "since", "later", "night"] ["stretches", "many", "since"] (bH (top 8)):=fsc
 exact Ia (fl:=[.A,.A,.A,.A,.A]) D sc (by decide) (by decide) fun f cdv A outer s H E hr=>bf (oA (i:=3) (L:=[]) (fl':=[.A,.A]) rfl sc.nd rfl rfl rfl ["first"] ["since"] [2] (iB (fY (jR (bT hfirsts hr (dq (vP 0) dz))))) (fun _ _ _ _ _=>gN' (i:=0) (show (["first", "since"]:List Str).Nodup by decide +kernel)) (fun _ _ _ _ _=>n8 (fO rO yr (vP 0) (vP 1) (fM _))) (fun _ _ _ _ _=>jh (gH (vP 0))))
  (bf (mF (L:=[]) PassesOwn.never rfl (iB (fY (jB (qH (fY (jB (ou (dq (vA 2) dz)))) (fY (eU (o9 (dq (vP 3) dz) (by rfl) B.sorted_))))))) (gN' (i:=4) sc.nd) (bR (je (fO rO yr (fZ (bT hcount_at hr (dq (vP 0) (dq (vP 4) dz)))) (vP 1) (fM _)) (bR (cU (cN (gH (vP 4))))) (eG))))
  (bR (cU (cN (qx)))))
theorem uy (D:Dg K mg "_law_cell" (top 10) ["_law_script", "_law_at"]) (B:Bl mg):Has P w K mg base (n + 1) "_law_cell" ["_law_script", "_law_at"] (spD K f9):=by
 have sc:FnScope ["_law_script", "_law_at"] ["_law_script", "_law_at"] (bH (top 10)):=fsc
 exact jU (fl:=[.A,.A]) D sc (by decide) (by decide) fun f cdv A outer s H E hr=>bf (je (fO zH b_lt (vP 1) (cg (jT iW qz (by rfl) B.len_ PySem.boot_len (dq (vP 0) dz))) (fM _)) (bR (cU (cN (cQ jE oh (fP (dx (vB 0) (vP 1))) iP)))) (eG))
  (bf (je (fO (vH hr.units) Hy (vP 0) (cg (lJ dz)) (fM _)) (bR (cU (cN (cQ fL iw (cg (cQ j5 pC iP (vP 1))) iP)))) (eG))
  (bR (cU (cN (cQ fL iw (cg (cQ jE oh (fP (dx (vB 0) (cg (cQ jE oh (cg (cQ j5 pC (vP 1) iP)) (cg (jT iW qz (by rfl) B.len_ PySem.boot_len (dq (vP 0) dz))))))) iP)) (cg (cQ j5 pC iP (vP 1))))))))
theorem uz (D:Dg K mg "_law_part" (top 11) ["_law_script", "_law_at", "_law_k", "_law_many"]) (B:Bl mg) (h_law_cell:Has P w K mg base n "_law_cell" ["_law_script", "_law_at"] (spD K f9)):Has P w K mg base (n + 1) "_law_part" ["_law_script", "_law_at", "_law_k", "_law_many"] (spD K cj):=by
 have sc:FnScope ["_law_script", "_law_at", "_law_k", "_law_many", "_law_number", "_law_j"] ["_law_script", "_law_at", "_law_k", "_law_many"] (bH (top 11)):=fsc
 exact jU (fl:=[.A,.A,.A,.A,.A,.A]) D sc (by decide) (by decide) fun f cdv A outer s H E hr=>bf (je (HN (Ab (fO zH b_lt (vP 1) (cg (jT iW qz (by rfl) B.len_ PySem.boot_len (dq (vP 0) dz))) (fM _)) (wN (fO Gg K4 (fP (dx (vB 0) (vP 1))) (cg (cQ Hi K3 iP iP)) (fM _))))) (bf (sA (i:=4) sc.nd (dx (vB 0) (vP 1)))
  (bf (mF (L:=[]) PassesOwn.never rfl (ji (by rfl) B.range_ (pF (dq (vP 2) dz))) (gN' (i:=5) sc.nd) (bR (sA (i:=4) sc.nd (eU (cQ tX z6 (vP 4) iP)))))
  (bR (je (fO rO yr (vP 4) iP (fM _)) (bR (cU (cN (cQ jE oh (cg (cQ jE oh (vP 4) iP)) (vP 3))))) (eG))))) (eG))
  (bf (sA (i:=4) sc.nd (eU (cQ jE oh (cg (cQ j5 pC (cg (cQ fL iw (cg (cQ fL iw (fZ (bT h_law_cell hr (dq (vP 0) (dq (vP 1) dz)))) (cg (cQ j5 pC iP (vP 1))))) iP)) (cg (cQ fL iw iP (cg (cQ j5 pC iP (vP 2))))))) iP)))
  (bf (sA (i:=4) sc.nd (eU (cQ fL iw (cg (cQ jE oh (cg (cQ j5 pC (vP 4) (vP 4))) iP)) iP)))
  (bR (cU (cN (cQ jE oh (cg (cQ tX z6 (cg (cQ jE oh (cg (cQ j5 pC (vP 4) (vP 4))) iP)) iP)) (vP 3)))))))
theorem pP (D:Dg K mg "_law_stretch" (top 12) ["_law_script", "_law_at", "_law_turn", "_law_mode"]) (B:Bl mg) (h_law_part:Has P w K mg base n "_law_part" ["_law_script", "_law_at", "_law_k", "_law_many"] (spD K cj)):Has P w K mg base (n + 1) "_law_stretch" ["_law_script", "_law_at", "_law_turn", "_law_mode"] (spD K cC):=by
 have sc:FnScope ["_law_script", "_law_at", "_law_turn", "_law_mode", "_law_first", "_law_longs"] ["_law_script", "_law_at", "_law_turn", "_law_mode"] (bH (top 12)):=fsc
 exact jU (fl:=[.A,.A,.A,.A,.A,.A]) D sc (by decide) (by decide) fun f cdv A outer s H E hr=>bf (sA (i:=4) sc.nd (eU (cQ fL iw (fZ (bT h_law_part hr (dq (vP 0) (dq (vP 1) (dq (vP 2) (dq (fP (dx (fY (eU (lJ (dq iC (dq iC (dq iC (dq iC (dq iC dz)))))))) (vP 3))) dz)))))) (fP (dx (fY (eU (lJ (dq iC (dq iC (dq iC (dq iC (dq iC dz)))))))) (vP 3))))))
  (bf (sA (i:=5) sc.nd (eU (lJ (dq (jh (cQ fL iw iP (fZ (bT h_law_part hr (dq (vP 0) (dq (vP 1) (dq (cg (cQ fL iw (vP 2) iP)) (dq iP dz)))))))) (dq (jh (cQ fL iw iP (fZ (bT h_law_part hr (dq (vP 0) (dq (vP 1) (dq (cg (cQ fL iw (vP 2) iP)) (dq (fP (dx (fY (eU (lJ (dq iC (dq iC (dq iC (dq iC (dq iC dz)))))))) (vP 3))) dz)))))))) dz)))))
  (bR (cU (qy rfl (dq (cN (gH (vP 4))) (dq (cN (jT (oX rfl) vV (by rfl) B.min_ PyProof.Rows.boot_min (dq iP (dq (cg (cQ fL iw (vP 4) (fP (dx (vB 5) (fZ (bT h_law_part hr (dq (vP 0) (dq (vP 1) (dq (cg (cQ fL iw (vP 2) iP)) (dq iP dz)))))))))) dz)))) dz))))))
theorem uD (D:Dg K mg "_law_some" (top 13) ["_law_script"]) (B:Bl mg) (h_law_part:Has P w K mg base n "_law_part" ["_law_script", "_law_at", "_law_k", "_law_many"] (spD K cj)) (h_law_stretch:Has P w K mg base n "_law_stretch" ["_law_script", "_law_at", "_law_turn", "_law_mode"] (spD K cC)):Has P w K mg base (n + 1) "_law_some" ["_law_script"] (spD K gU):=by
 have sc:FnScope ["_law_script", "_law_mode"] ["_law_script"] (bH (top 13)):=fsc
 exact jU (fl:=[.A,.A]) D sc (by decide) (by decide) fun f cdv A outer s H E hr=>bf (sA (i:=1) sc.nd (jR (bT h_law_part hr (dq (vP 0) (dq iP (dq iP (dq iP dz)))))))
  (bf (je (fO (vH hr.units) Hy (fZ (bT h_law_part hr (dq (vP 0) (dq iP (dq iP (dq iP dz)))))) iP (fM _)) (bR (cU (cN (jG (L:=[]) (fl':=[.A,.A,.A]) rfl ["_law_k"] ["_law_script", "_law_mode"] [0,1] (ji (by rfl) B.range_ (pF (dq (cg (cQ fL iw iP (fZ (bT h_law_part hr (dq (vP 0) (dq iP (dq iP (dq iP dz)))))))) dz))) (fun _ _ _ _ _=>gN' (i:=0) (show (["_law_k", "_law_script", "_law_mode"]:List Str).Nodup by decide +kernel)) (fun _ _ _ _ _=>j6) (fun _ _ _ _ _=>bT h_law_stretch hr (dq (vP 1) (dq (cg (cQ fL iw iP (vP 0))) (dq iP (dq (vP 2) dz))))))))) (eG))
  (bR (cU (cN (jG (L:=[]) (fl':=[.A,.A,.A]) rfl ["_law_k"] ["_law_script", "_law_mode"] [0,1] (ji (by rfl) B.range_ (pF (dq (fZ (bT h_law_part hr (dq (vP 0) (dq iP (dq iP (dq iP dz)))))) dz))) (fun _ _ _ _ _=>gN' (i:=0) (show (["_law_k", "_law_script", "_law_mode"]:List Str).Nodup by decide +kernel)) (fun _ _ _ _ _=>j6) (fun _ _ _ _ _=>bT h_law_stretch hr (dq (vP 1) (dq (cg (cQ fL iw iP (vP 0))) (dq iP (dq (vP 2) dz))))))))))
theorem pQ (D:Dg K mg "_law_earlier" (top 15) ["_law_one", "_law_other"]) (B:Bl mg):Has P w K mg base (n + 1) "_law_earlier" ["_law_one", "_law_other"] (spD K cW):=by
 have sc:FnScope ["_law_one", "_law_other"] ["_law_one", "_law_other"] (bH (top 15)):=fsc
 exact jU (fl:=[.A,.A]) D sc (by decide) (by decide) fun f cdv A outer s H E hr=>bf (je (Ai (vP 0)) (bR (cU (cN (gH (vP 1))))) (eG))
  (bf (je (Ai (vP 1)) (bR (cU (cN (gH (vP 0))))) (eG))
  (bR (cU (cN (jT (oX rfl) vV (by rfl) B.min_ PyProof.Rows.boot_min (dq (vP 0) (dq (vP 1) dz)))))))
theorem nH (D:Dg K mg "_law_first_with" (top 16) ["_law_told", "_law_new", "_law_many"]) (B:Bl mg):Has P w K mg base (n + 1) "_law_first_with" ["_law_told", "_law_new", "_law_many"] (spD K cF):=by
 have sc:FnScope ["_law_told", "_law_new", "_law_many", "_law_night"] ["_law_told", "_law_new", "_law_many"] (bH (top 16)):=fsc
 exact jU (fl:=[.A,.A,.A,.A]) D sc (by decide) (by decide) fun f cdv A outer s H E hr=>bf (mF (L:=[]) PassesOwn.never rfl (yt (by rfl) B.range_ (pF (dq (fP (dx (vB 1) iP)) (dq (fP (dx (vB 1) iP)) dz)))) (gN' (i:=3) sc.nd) (bR (je (fO (vH hr.units) Hy (fP (dx (vB 0) (vP 3))) (vP 2) (fM _)) (bR (cU (cN (gH (vP 3))))) (eG))))
  (bR (cU (cN (qx))))
theorem rF (D:Dg K mg "_law_spread" (top 17) ["_law_runs"]) (B:Bl mg):Has P w K mg base (n + 1) "_law_spread" ["_law_runs"] (spD K gG):=by
 have sc:FnScope ["_law_runs", "_law_found", "_law_first", "_law_behind", "_law_many"] ["_law_runs"] (bH (top 17)):=fsc
 exact jU (fl:=[.A,.O,.A,.A,.A]) D sc (by decide) (by decide) fun f cdv A outer s H E hr=>bf (Ds (i:=1) rfl sc.nd rfl (by first | exact Or.inl rfl | exact Or.inr rfl) (Af (zZ (lJ (dq iC dz))) iP))
  (bf (mF (L:=[]) PassesOwn.never rfl (iB (vB 0)) (z7 rfl (mD (gN' (i:=2) sc.nd) (mD (gN' (i:=3) sc.nd) (mD (gN' (i:=4) sc.nd) (wK))))) (bR (XZ.DP (i:=1) rfl (Gq (Af (ou (dq (vA 4) dz)) (cg (cQ zG Gr (vP 3) (vP 2))))) (vP 2) (vP 3) rfl)))
  (bR (cU (Dk 1 (by decide)))))
theorem JX {f:Addr} {fd:FuncData} (Fn:FunD K "law" (top 18) f fd) (B:Bl mg) (hholds:Has P w K mg base n "holds" ["stretch", "night"] (spD K dW)) (hshared:Has P w K mg base n "shared" ["one", "other"] (spD K fJ)) (hcount_at:Has P w K mg base n "count_at" ["stretches", "night"] (spD K bJ)) (hmost_at_once:Has P w K mg base n "most_at_once" ["stretches"] (spD K dw)) (hcounts:Has P w K mg base n "counts" ["stretches"] (spD K lu)) (hfuller:Has P w K mg base n "fuller" ["stretches", "many", "since"] (spD K fK)) (h_law_part:Has P w K mg base n "_law_part" ["_law_script", "_law_at", "_law_k", "_law_many"] (spD K cj)) (h_law_stretch:Has P w K mg base n "_law_stretch" ["_law_script", "_law_at", "_law_turn", "_law_mode"] (spD K cC)) (h_law_some:Has P w K mg base n "_law_some" ["_law_script"] (spD K gU)) (h_law_earlier:Has P w K mg base n "_law_earlier" ["_law_one", "_law_other"] (spD K cW)) (h_law_first_with:Has P w K mg base n "_law_first_with" ["_law_told", "_law_new", "_law_many"] (spD K cF)) (h_law_spread:Has P w K mg base n "_law_spread" ["_law_runs"] (spD K gG)) (dfuller:HasD P w K mg base n "fuller" ["stretches", "many", "since"] (spD K fK) [V.int 0] ["since"]):FnOk P w K mg base CX0 (n + 1) f fd ["_law_script"] (spD K B_):=by
 have sc:FnScope ["_law_script", "_law_some_here", "_law_new", "_law_at", "_law_more", "_law_told", "_law_behind", "_law_most", "_law_many", "_law_due", "_law_one", "_law_both"] ["_law_script"] (bH (top 18)):=fsc
 exact vX (fl:=[.A,.A,.A,.A,.A,.A,.A,.A,.A,.A,.A,.A]) Fn sc (by decide) (by decide) fun f cdv A outer s H E hr=>bf (sA (i:=1) sc.nd (jB (sI (fY (jR (bT h_law_some hr (dq (vP 0) dz)))) oE (lK iP))))
  (bf (sA (i:=2) sc.nd (jR (bT h_law_stretch hr (dq (vP 0) (dq iP (dq iP (dq (fZ (bT h_law_part hr (dq (vP 0) (dq iP (dq iP (dq iP dz)))))) dz)))))))
  (bf (sA (i:=3) sc.nd (jR (bT h_law_part hr (dq (vP 0) (dq iP (dq iP (dq (cg (cQ fL iw (cg (jT iW qz (by rfl) B.len_ PySem.boot_len (dq (vP 1) dz))) iP)) dz)))))))
  (bf (sA (i:=4) sc.nd (jB (qH (fY (jB (qH (fY (jB (sI (vB 1) oE (lK (vP 3))))) (fY (jB (ou (dq (vA 2) dz))))))) (fY (jB (sI (vB 1) (lK (vP 3)) oE))))))
  (bf (sA (i:=5) sc.nd (eU (jG (L:=[]) (fl':=[.A,.A]) rfl ["_law_night"] ["_law_some_here"] [1] (ji (by rfl) B.range_ (pF (dq iP dz))) (fun _ _ _ _ _=>gN' (i:=0) (show (["_law_night", "_law_some_here"]:List Str).Nodup by decide +kernel)) (fun _ _ _ _ _=>j6) (fun _ _ _ _ _=>bT hcount_at hr (dq (vP 1) (dq (vP 0) dz))))))
  (bf (oA (i:=6) (L:=[]) (fl':=[.A,.A]) rfl sc.nd rfl rfl rfl ["_law_night"] ["_law_more"] [4] (ji (by rfl) B.range_ (pF (dq iP dz))) (fun _ _ _ _ _=>gN' (i:=0) (show (["_law_night", "_law_more"]:List Str).Nodup by decide +kernel)) (fun _ _ _ _ _=>j6) (fun _ _ _ _ _=>bT hcount_at hr (dq (vP 1) (dq (vP 0) dz))))
  (bf (je (fO (lZ hr.units) uO (vP 6) (cg (jG (L:=[]) (fl':=[.A,.A,.A]) rfl ["_law_night"] ["_law_told", "_law_new"] [5,2] (ji (by rfl) B.range_ (pF (dq iP dz))) (fun _ _ _ _ _=>gN' (i:=0) (show (["_law_night", "_law_told", "_law_new"]:List Str).Nodup by decide +kernel)) (fun _ _ _ _ _=>j6) (fun _ _ _ _ _=>jh (cQ fL iw (fP (dx (vB 1) (vP 0))) (cg (DK (dq (fZ (bT hholds hr (dq (vP 2) (dq (vP 0) dz)))) dz) (by rfl) B.int_)))))) (fM _)) (bR (cU (cN (sy)))) (eG))
  (bf (je (HN (K6 (fO (lZ hr.units) uO (fZ (bT h_law_spread hr (dq (fZ (bT hcounts hr (dq (vP 1) dz))) dz))) (vP 5) (fM _)) (HJ (fO (lZ hr.units) uO (fZ (bT h_law_spread hr (dq (fZ (bT hcounts hr (dq (vP 4) dz))) dz))) (vP 6) (fM _))))) (bR (cU (cN (sy)))) (eG))
  (bf (sA (i:=7) sc.nd (dx (fY (jR (bT hmost_at_once hr (dq (vP 1) dz)))) iP))
  (bf (je (fO (lZ hr.units) uO (fP (dx (fY (jR (bT hmost_at_once hr (dq (vP 4) dz)))) iP)) (cg (jT (rP rfl) Ad (by rfl) B.max_ PyProof.Rows.boot_max (dq (vP 7) (dq (cg (cQ fL iw iP (cg (jT (yw rfl) HY (by rfl) B.max_ PyProof.Rows.boot_max (dq (Gq (sI (vB 5) (lK (fP (dx (vB 2) iP))) (lK (fP (dx (vB 2) iP))))) dz))))) dz)))) (fM _)) (bR (cU (cN (sy)))) (eG))
  (bf (mF (L:=[]) PassesOwn.never rfl (iB (fY (jB (ou (dq (eU (qw)) (dq (vA 7) (dq (jR (bT h_law_part hr (dq (vP 0) (dq iP (dq iP (dq (cg (cQ fL iw (vP 7) iP)) dz)))))) (dq (eU (cQ tX z6 (vP 7) iP)) dz)))))))) (gN' (i:=8) sc.nd) (bf (sA (i:=9) sc.nd (jR (bT h_law_earlier hr (dq (fZ (uQ dfuller hr (dq (vP 1) (dq (vP 8) dz)))) (dq (fZ (bT h_law_first_with hr (dq (vP 5) (dq (vP 2) (dq (vP 8) dz))))) dz)))))
  (bR (je (fO (lZ hr.units) uO (fZ (uQ dfuller hr (dq (vP 4) (dq (vP 8) dz)))) (vP 9) (fM _)) (bR (cU (cN (sy)))) (eG)))))
  (bf (mF (L:=[]) PassesOwn.never rfl (iB (fY (jB (sI (vB 1) oE (lK iP))))) (gN' (i:=10) sc.nd) (bf (oA (i:=11) (L:=[]) (fl':=[.A,.A,.A]) rfl sc.nd rfl rfl rfl ["_law_night"] ["_law_one", "_law_new"] [10,2] (ji (by rfl) B.range_ (pF (dq iP dz))) (fun _ _ _ _ _=>gN' (i:=0) (show (["_law_night", "_law_one", "_law_new"]:List Str).Nodup by decide +kernel)) (fun _ _ _ _ _=>n8 (HN (Ab (vM (fZ (bT hholds hr (dq (vP 1) (dq (vP 0) dz))))) (wN (vM (fZ (bT hholds hr (dq (vP 2) (dq (vP 0) dz))))))))) (fun _ _ _ _ _=>jh (gH (vP 0))))
  (bf (sA (i:=9) sc.nd (eU (qx)))
  (bf (je (fO (lZ hr.units) uO (vP 11) (cg (lJ dz)) (fM _)) (bR (sA (i:=9) sc.nd (qy rfl (dq (dx (vB 11) iP) (dq (eU (cQ fL iw (fP (dx (vB 11) (cg (HW iP)))) iP)) dz))))) (eG))
  (bR (je (fO (lZ hr.units) uO (fZ (bT hshared hr (dq (vP 10) (dq (vP 2) dz)))) (vP 9) (fM _)) (bR (cU (cN (sy)))) (eG)))))))
  (bR (cU (cN (sy)))))))))))))))
end
end K19
namespace D3
theorem len0 {p:List PySem.Value→Prop} (h:p []):∀ us,us.length=0→p us:=fun us hl=>by
 cases us with
 | nil=>exact h
 | cons _ _=>cases hl
theorem iR {n:Nat} {p:List PySem.Value→Prop} (h:∀ a us,us.length=n→p (a :: us)):∀ us,us.length=n + 1→p us:=fun us hl=>by
 cases us with
 | nil=>cases hl
 | cons a r=>exact h a r (nW.inj hl)
end D3
namespace K19
open PySem L2 My D3
structure Txt (K:PySem.W.Frag) (mg:Str→Option Value):Prop where
 d_holds:Dg K mg "holds" (top 1) ["stretch", "night"]
 d_shared:Dg K mg "shared" (top 2) ["one", "other"]
 d_count_at:Dg K mg "count_at" (top 3) ["stretches", "night"]
 d_firsts:Dg K mg "firsts" (top 4) ["stretches"]
 d_most_at_once:Dg K mg "most_at_once" (top 5) ["stretches"]
 d_changes:Dg K mg "changes" (top 6) ["stretches"]
 d_counts:Dg K mg "counts" (top 7) ["stretches"]
 d_fuller:Dg K mg "fuller" (top 8) ["stretches", "many", "since"]
 d__law_cell:Dg K mg "_law_cell" (top 10) ["_law_script", "_law_at"]
 d__law_part:Dg K mg "_law_part" (top 11) ["_law_script", "_law_at", "_law_k", "_law_many"]
 d__law_stretch:Dg K mg "_law_stretch" (top 12) ["_law_script", "_law_at", "_law_turn", "_law_mode"]
 d__law_some:Dg K mg "_law_some" (top 13) ["_law_script"]
 d__law_earlier:Dg K mg "_law_earlier" (top 15) ["_law_one", "_law_other"]
 d__law_first_with:Dg K mg "_law_first_with" (top 16) ["_law_told", "_law_new", "_law_many"]
 d__law_spread:Dg K mg "_law_spread" (top 17) ["_law_runs"]
 d_law:Dl K mg "law" "_law_script" (top 18)
 e_fuller:DgD K mg "fuller" (top 8) ["stretches", "many", "since"] [V.int 0] ["since"]
 blt:Bl mg
theorem JZ {P:Program} {w:World} {K:PySem.W.Frag} {mg:Str→Option Value} {base:Heap} (T:Txt K mg) {f:Addr} {fd:FuncData} (F:FunD K "law" (top 18) f fd):FnOk P w K mg base CX0 65 f fd ["_law_script"] (Ah K):=by
 have h_holds:=Cj (P:=P) (w:=w) (base:=base) (n:=0) T.d_holds T.blt
 have h_shared:=yZ (P:=P) (w:=w) (base:=base) (n:=0) T.d_shared T.blt
 have h_firsts:=zc (P:=P) (w:=w) (base:=base) (n:=0) T.d_firsts T.blt
 have h__law_cell:=uy (P:=P) (w:=w) (base:=base) (n:=0) T.d__law_cell T.blt
 have h__law_earlier:=pQ (P:=P) (w:=w) (base:=base) (n:=0) T.d__law_earlier T.blt
 have h__law_first_with:=nH (P:=P) (w:=w) (base:=base) (n:=0) T.d__law_first_with T.blt
 have h__law_spread:=rF (P:=P) (w:=w) (base:=base) (n:=0) T.d__law_spread T.blt
 have h_count_at:=vq (P:=P) (w:=w) (base:=base) (n:=1) T.d_count_at T.blt (h_holds.mono (by decide))
 have h__law_part:=uz (P:=P) (w:=w) (base:=base) (n:=1) T.d__law_part T.blt (h__law_cell.mono (by decide))
 have h_most_at_once:=pO (P:=P) (w:=w) (base:=base) (n:=2) T.d_most_at_once T.blt (h_count_at.mono (by decide)) (h_firsts.mono (by decide))
 have h_changes:=wA (P:=P) (w:=w) (base:=base) (n:=2) T.d_changes T.blt (h_count_at.mono (by decide)) (h_firsts.mono (by decide))
 have e_fuller:=wC (P:=P) (w:=w) (base:=base) (n:=2) T.e_fuller T.blt (h_count_at.mono (by decide)) (h_firsts.mono (by decide))
 have h_fuller:=zj (P:=P) (w:=w) (base:=base) (n:=2) T.d_fuller T.blt (h_count_at.mono (by decide)) (h_firsts.mono (by decide))
 have h__law_stretch:=pP (P:=P) (w:=w) (base:=base) (n:=2) T.d__law_stretch T.blt (h__law_part.mono (by decide))
 have h_counts:=zf (P:=P) (w:=w) (base:=base) (n:=3) T.d_counts T.blt (h_count_at.mono (by decide)) (h_changes.mono (by decide))
 have h__law_some:=uD (P:=P) (w:=w) (base:=base) (n:=3) T.d__law_some T.blt (h__law_part.mono (by decide)) (h__law_stretch.mono (by decide))
 exact ((JX (P:=P) (w:=w) (base:=base) (n:=4) F T.blt (h_holds.mono (by decide)) (h_shared.mono (by decide)) (h_count_at.mono (by decide)) (h_most_at_once.mono (by decide)) (h_counts.mono (by decide)) (h_fuller.mono (by decide)) (h__law_part.mono (by decide)) (h__law_stretch.mono (by decide)) (h__law_some.mono (by decide)) (h__law_earlier.mono (by decide)) (h__law_first_with.mono (by decide)) (h__law_spread.mono (by decide)) (e_fuller.mono (by decide))).mono (by decide)).imp (Dy K19.Ci)
end K19
def PySem.W.Fast.tw8340737685225513177:=0
def PySem.W.Fast.tw2841791755400991711:=0
def PySem.W.Fast.tw11604558356092469685:=0
def PySem.W.Fast.tw7043892704747087266:=0
def PySem.W.Fast.tw14071822578055595531:=0
def PySem.W.Fast.tw15585217079075123731:=0
def PySem.W.Fast.tw2477009898662846878:=0
def PySem.W.Fast.tw4033062222586998778:=0
def PySem.W.Fast.tw14885917497021645691:=0
def PySem.W.Fast.tw1664959166903512657:=0
open PySem PySem.W PyProof.Rows
set_option maxRecDepth 100000 in
set_option maxHeartbeats 0 in
theorem PySem.Challenge.cw_nightbook_k19_whole_one_stretch_more_holds : PySem.Challenge.rw_nightbook_k19_whole_one_stretch_more.Holds := by
 w_on;o_law;k_head;(case hw=>w_witness2)
 k_fill
 refine L2.zQ (l:=PySem.Challenge.rw_nightbook_k19_whole_one_stretch_more) (n:=63) (k:=65) (x := "_law_script") (CX:=L2.CX0) (sp:=D3.Ah) rfl (by decide) rfl ⟨rfl,by decide,by decide⟩ (fun w h Y=>PySem.W.kIn_of Y) ?F D3.tabs (fun _ _ _=>⟨(fun _ h=>nomatch (show _ ∈ ([]:List (Addr × Str × Pos)) from h)),(fun _ h=>nomatch (show _ ∈ ([]:List (Addr × Str × Pos)) from h)),(fun _ h=>nomatch (show _ ∈ ([]:List (Addr × Str × Pos)) from h))⟩) (fun _ h=>nomatch (show _ ∈ ([]:List (Addr × Str × Pos)) from h)) ?S ?C
 case F =>
  intro w mg fa h KX G hmg
  have T:K19.Txt (L2.KOf KX) mg:=by
   dsimp only [L2.KOf]
   have d_holds:D3.Dg (L2.KOf KX) mg "holds" (K19.top 1) ["stretch", "night"]:=by
    dsimp only [L2.KOf]
    refine' D3.j7 KX G ?b ?a ?l ?c ?k
    (case a=>k_is);(case l=>k_is);(case c=>k_is);(case k=>k_is)
    (case b=>exact fun _ _ _ _ _ _=>D3.iR fun _=>D3.iR fun _=>D3.len0 rfl)
   have d_shared:D3.Dg (L2.KOf KX) mg "shared" (K19.top 2) ["one", "other"]:=by
    dsimp only [L2.KOf]
    refine' D3.j7 KX G ?b ?a ?l ?c ?k
    (case a=>k_is);(case l=>k_is);(case c=>k_is);(case k=>k_is)
    (case b=>exact fun _ _ _ _ _ _=>D3.iR fun _=>D3.iR fun _=>D3.len0 rfl)
   have d_count_at:D3.Dg (L2.KOf KX) mg "count_at" (K19.top 3) ["stretches", "night"]:=by
    dsimp only [L2.KOf]
    refine' D3.j7 KX G ?b ?a ?l ?c ?k
    (case a=>k_is);(case l=>k_is);(case c=>k_is);(case k=>k_is)
    (case b=>exact fun _ _ _ _ _ _=>D3.iR fun _=>D3.iR fun _=>D3.len0 rfl)
   have d_firsts:D3.Dg (L2.KOf KX) mg "firsts" (K19.top 4) ["stretches"]:=by
    dsimp only [L2.KOf]
    refine' D3.j7 KX G ?b ?a ?l ?c ?k
    (case a=>k_is);(case l=>k_is);(case c=>k_is);(case k=>k_is)
    (case b=>exact fun _ _ _ _ _ _=>D3.iR fun _=>D3.len0 rfl)
   have d_most_at_once:D3.Dg (L2.KOf KX) mg "most_at_once" (K19.top 5) ["stretches"]:=by
    dsimp only [L2.KOf]
    refine' D3.j7 KX G ?b ?a ?l ?c ?k
    (case a=>k_is);(case l=>k_is);(case c=>k_is);(case k=>k_is)
    (case b=>exact fun _ _ _ _ _ _=>D3.iR fun _=>D3.len0 rfl)
   have d_changes:D3.Dg (L2.KOf KX) mg "changes" (K19.top 6) ["stretches"]:=by
    dsimp only [L2.KOf]
    refine' D3.j7 KX G ?b ?a ?l ?c ?k
    (case a=>k_is);(case l=>k_is);(case c=>k_is);(case k=>k_is)
    (case b=>exact fun _ _ _ _ _ _=>D3.iR fun _=>D3.len0 rfl)
   have d_counts:D3.Dg (L2.KOf KX) mg "counts" (K19.top 7) ["stretches"]:=by
    dsimp only [L2.KOf]
    refine' D3.j7 KX G ?b ?a ?l ?c ?k
    (case a=>k_is);(case l=>k_is);(case c=>k_is);(case k=>k_is)
    (case b=>exact fun _ _ _ _ _ _=>D3.iR fun _=>D3.len0 rfl)
   have d_fuller:D3.Dg (L2.KOf KX) mg "fuller" (K19.top 8) ["stretches", "many", "since"]:=by
    dsimp only [L2.KOf]
    refine' D3.HX KX G ?b ?a ?l ?c ?k ?t ?s
    (case a=>k_is);(case l=>k_is);(case c=>k_is);(case k=>k_is);(case t=>k_is);(case s=>rfl)
    (case b=>exact fun _ _ _ _ _ _=>D3.iR fun _=>D3.iR fun _=>D3.iR fun _=>D3.len0 ⟨_,rfl,rfl⟩)
   have d__law_cell:D3.Dg (L2.KOf KX) mg "_law_cell" (K19.top 10) ["_law_script", "_law_at"]:=by
    dsimp only [L2.KOf]
    refine' D3.j7 KX G ?b ?a ?l ?c ?k
    (case a=>k_is);(case l=>k_is);(case c=>k_is);(case k=>k_is)
    (case b=>exact fun _ _ _ _ _ _=>D3.iR fun _=>D3.iR fun _=>D3.len0 rfl)
   have d__law_part:D3.Dg (L2.KOf KX) mg "_law_part" (K19.top 11) ["_law_script", "_law_at", "_law_k", "_law_many"]:=by
    dsimp only [L2.KOf]
    refine' D3.j7 KX G ?b ?a ?l ?c ?k
    (case a=>k_is);(case l=>k_is);(case c=>k_is);(case k=>k_is)
    (case b=>exact fun _ _ _ _ _ _=>D3.iR fun _=>D3.iR fun _=>D3.iR fun _=>D3.iR fun _=>D3.len0 rfl)
   have d__law_stretch:D3.Dg (L2.KOf KX) mg "_law_stretch" (K19.top 12) ["_law_script", "_law_at", "_law_turn", "_law_mode"]:=by
    dsimp only [L2.KOf]
    refine' D3.j7 KX G ?b ?a ?l ?c ?k
    (case a=>k_is);(case l=>k_is);(case c=>k_is);(case k=>k_is)
    (case b=>exact fun _ _ _ _ _ _=>D3.iR fun _=>D3.iR fun _=>D3.iR fun _=>D3.iR fun _=>D3.len0 rfl)
   have d__law_some:D3.Dg (L2.KOf KX) mg "_law_some" (K19.top 13) ["_law_script"]:=by
    dsimp only [L2.KOf]
    refine' D3.j7 KX G ?b ?a ?l ?c ?k
    (case a=>k_is);(case l=>k_is);(case c=>k_is);(case k=>k_is)
    (case b=>exact fun _ _ _ _ _ _=>D3.iR fun _=>D3.len0 rfl)
   have d__law_earlier:D3.Dg (L2.KOf KX) mg "_law_earlier" (K19.top 15) ["_law_one", "_law_other"]:=by
    dsimp only [L2.KOf]
    refine' D3.j7 KX G ?b ?a ?l ?c ?k
    (case a=>k_is);(case l=>k_is);(case c=>k_is);(case k=>k_is)
    (case b=>exact fun _ _ _ _ _ _=>D3.iR fun _=>D3.iR fun _=>D3.len0 rfl)
   have d__law_first_with:D3.Dg (L2.KOf KX) mg "_law_first_with" (K19.top 16) ["_law_told", "_law_new", "_law_many"]:=by
    dsimp only [L2.KOf]
    refine' D3.j7 KX G ?b ?a ?l ?c ?k
    (case a=>k_is);(case l=>k_is);(case c=>k_is);(case k=>k_is)
    (case b=>exact fun _ _ _ _ _ _=>D3.iR fun _=>D3.iR fun _=>D3.iR fun _=>D3.len0 rfl)
   have d__law_spread:D3.Dg (L2.KOf KX) mg "_law_spread" (K19.top 17) ["_law_runs"]:=by
    dsimp only [L2.KOf]
    refine' D3.j7 KX G ?b ?a ?l ?c ?k
    (case a=>k_is);(case l=>k_is);(case c=>k_is);(case k=>k_is)
    (case b=>exact fun _ _ _ _ _ _=>D3.iR fun _=>D3.len0 rfl)
   have d_law:D3.Dl (L2.KOf KX) mg "law" "_law_script" (K19.top 18):=by
    dsimp only [L2.KOf]
    refine' D3.K8 KX G ?b ?a ?l ?c ?k
    (case a=>k_is);(case l=>k_is);(case c=>k_is);(case k=>k_is)
    (case b=>exact fun _ _ _ _ _ _ u=>rfl)
   have e_fuller:D3.DgD (L2.KOf KX) mg "fuller" (K19.top 8) ["stretches", "many", "since"] [L2.V.int 0] ["since"]:=by
    dsimp only [L2.KOf]
    refine' D3.Dz KX G ?b ?d ?pne ?a ?l ?c ?k ?t ?s ?v
    (case a=>k_is);(case l=>k_is);(case c=>k_is);(case k=>k_is);(case t=>k_is);(case s=>rfl);(case pne=>exact List.cons_ne_nil _ _)
    (case b=>exact fun _ _ _ _ _ _ us hl=>match us,(show us.length=2 by simp at hl;omega) with | [_,_],_=>⟨_,rfl,rfl⟩)
    (case d=>exact fun _ _ _ _ _ _ us ws h1 hl=>match ws,us,h1,(show us.length=2 by simp at hl h1;omega) with | [_],[_,_],_,_=>⟨_,rfl,rfl⟩)
    (case v=>exact .cons ⟨_,rfl⟩ .nil)
   have qz:mg "len" = none:=by
    refine' PySem.W.mg_none_of KX G ?z
    (case z=>k_is)
   have b_range:mg "range" = none:=by
    refine' PySem.W.mg_none_of KX G ?z
    (case z=>k_is)
   have b_abs:mg "abs" = none:=by
    refine' PySem.W.mg_none_of KX G ?z
    (case z=>k_is)
   have b_isinstance:mg "isinstance" = none:=by
    refine' PySem.W.mg_none_of KX G ?z
    (case z=>k_is)
   have b_int:mg "int" = none:=by
    refine' PySem.W.mg_none_of KX G ?z
    (case z=>k_is)
   have b_bool:mg "bool" = none:=by
    refine' PySem.W.mg_none_of KX G ?z
    (case z=>k_is)
   have b_tuple:mg "tuple" = none:=by
    refine' PySem.W.mg_none_of KX G ?z
    (case z=>k_is)
   have b_list:mg "list" = none:=by
    refine' PySem.W.mg_none_of KX G ?z
    (case z=>k_is)
   have b_str:mg "str" = none:=by
    refine' PySem.W.mg_none_of KX G ?z
    (case z=>k_is)
   have b_max:mg "max" = none:=by
    refine' PySem.W.mg_none_of KX G ?z
    (case z=>k_is)
   have b_min:mg "min" = none:=by
    refine' PySem.W.mg_none_of KX G ?z
    (case z=>k_is)
   have b_sorted:mg "sorted" = none:=by
    refine' PySem.W.mg_none_of KX G ?z
    (case z=>k_is)
   have Gu:mg "sum" = none:=by
    refine' PySem.W.mg_none_of KX G ?z
    (case z=>k_is)
   have b_reversed:mg "reversed" = none:=by
    refine' PySem.W.mg_none_of KX G ?z
    (case z=>k_is)
   have b_enumerate:mg "enumerate" = none:=by
    refine' PySem.W.mg_none_of KX G ?z
    (case z=>k_is)
   have b_zip:mg "zip" = none:=by
    refine' PySem.W.mg_none_of KX G ?z
    (case z=>k_is)
   have b_set:mg "set" = none:=by
    refine' PySem.W.mg_none_of KX G ?z
    (case z=>k_is)
   have b_any:mg "any" = none:=by
    refine' PySem.W.mg_none_of KX G ?z
    (case z=>k_is)
   have Gv:mg "all" = none:=by
    refine' PySem.W.mg_none_of KX G ?z
    (case z=>k_is)
   have b_dict:mg "dict" = none:=by
    refine' PySem.W.mg_none_of KX G ?z
    (case z=>k_is)
   exact ⟨d_holds,d_shared,d_count_at,d_firsts,d_most_at_once,d_changes,d_counts,d_fuller,d__law_cell,d__law_part,d__law_stretch,d__law_some,d__law_earlier,d__law_first_with,d__law_spread,d_law,e_fuller,⟨qz,b_range,b_abs,b_isinstance,b_int,b_bool,b_tuple,b_list,b_str,b_max,b_min,b_sorted,Gu,b_reversed,b_enumerate,b_zip,b_set,b_any,Gv,b_dict⟩⟩
  obtain ⟨f,fd,F,b,m⟩:=T.d_law.ex
  have e0:=hmg.symm.trans m
  cases e0
  exact ⟨fd,b,fun base kb nb=>K19.JZ T F⟩
 case S=>exact fun K H a ns hl hO hS=>⟨a,ns,hO,rfl,hS,hl,fun _=>rfl⟩
 case C=>exact fun _ _ _ _ z=>z
