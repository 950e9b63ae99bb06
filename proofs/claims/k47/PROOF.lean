import PyProof.Rows.All
import Wide.All
import OpenK.AllK
import Wide.FinOn
import Lean
import PyProof.EqAt
import PyProof.EqKinds
import PyProof.TupleCall
import PyProof.EqLayable
import KE.KSortTup
import PyProof.AttrMissHeap
import KE.KDictOf
import KE.KDictSum
import PyProof.Rows.SortWalk
import PyProof.NeKinds
import PyProof.DictWalks
import KE.KMinBuiltin
import Wide.Seal
import KE.KDictLaws
import KE.KLam
import KE.KNestM
import PySem.Challenge.RW_nightbook_k47_whole_one_of_both
set_option Elab.async false
set_option linter.all false
set_option maxRecDepth 100000
set_option maxHeartbeats 4000000
set_option exponentiation.threshold 40000
open List renaming range→aH,length_map→aJ,mem_singleton→aK,mem_cons_of_mem→aM,getElem?_map→aN,mem_cons_self→aO,mem_range→aR,mem_append_right→aU,mem_append→aX,getElem?_eq_getElem→aZ,mem_append_left→bf,mem_cons→bA,length_range→bB,getElem?_eq_none→bD,replicate→bF,getD_eq_getElem?_getD→bG,length_append→bH,map_cons→bI,getElem?_set_ne→bJ,size_toArray→bL,mem_filter→bM,length_cons→bN,getElem?_range→bU,length_replicate→cj,getElem?_append_right→cC,nodup_cons→cD,map_append→cI,getElem?_append_left→cL,replicate_succ→cW,mem_map→cX,append_nil→cY,mem_of_getElem?→cZ,getElem?_eq_some_iff→dh,getElem?_set_self→dw,lookup_cons→dD,length_set→dR,map_map→dX,filterMap_cons→dY,length_filter_le→d8,getElem?_replicate→eX,ext_getElem?→fu,mem_filterMap→fK,not_mem_nil→fL,flatten_cons→fY,append_assoc→fZ,find?_cons→gw,getElem_of_mem→gB,length_take→gQ,length_drop→gR,pairwise_iff_getElem→h_,length_nil→iu,toArray→iy,eraseIdx_eq_take_drop_succ→iW,map_congr_left→iY,filter_cons_of_pos→iZ,filter_cons_of_neg→i_,nodup_range→jc,pairwise_cons→jj,take_add_one→jz,getElem?_mapIdx→jB,pairwise_append→jC,all_eq_true→jK,take_length→jL,any_cons→jV,getElem?_drop→j8,pairwise_singleton→kj,take_append_drop→lg,getElem_mem→lq,filter_append→mX,mem_of_find?_eq_some→nq,drop_eq_getElem_cons→nu,getElem?_set→nF,nodup_append→nG,getElem?_take_of_lt→n8,all_cons→n_,mem_singleton_self→oF,map_nil→oV,drop_eq_nil_of_le→oW,take_of_length_le→oX,drop_of_length_le→oY,getElem_cons_drop→oZ,find?_cons_of_pos→o7,find?_cons_of_neg→o8,of_mem_zip→pL,nil_append→pN,length_singleton→pX,getElem?_of_mem→pY,nodup_nil→pZ,mem_of_mem_take→p7,map_take→rU,map_drop→rW,find?_eq_none→sy,pairwise_map→sX,find?_append→sZ,lookup→uO,foldl→vL
open Nat renaming reduceLeDiff→ao,reduceEqDiff→aq,reduceAdd→au,reduceLT→aA,le_refl→bh,ne_of_lt→bQ,lt_of_lt_of_le→bT,le_trans→bV,zero_le→fJ,le_of_lt→gC,lt_irrefl→gM,lt_trans→jG,lt_or_ge→jH,lt_succ_self→jJ,zero_add→kO,le_succ→lO,not_lt_zero→pQ,lt_trichotomy→sW
open Int renaming reduceEq→aB,reduceLT→aC,reduceLE→aD,le_refl→eY,toNat_natCast→f9,emod_lt_of_pos→jk,emod_nonneg→jX,le_trans→kI,le_antisymm→pR,sub_zero→sV,lt_or_le→sY
open Option renaming bind_some→aL,isSome_iff_exists→cN,some→cU,map_some→gq,isSome_map→kJ
open Bool renaming and_eq_true→aW,not_true→bR,not_false→cO,false_ne_true→dB,false_and→gW,true_and→jW,not_eq_true'→tu
open Array renaming length_toList→dF,getD_eq_getD_getElem?→gD,perm_iff_toList_perm→mW
theorem dTr {p:Prop} [Decidable p] (h:p):decide p=true:=decide_eq_true h
theorem dFa {p:Prop} [Decidable p] (h:¬ p):decide p=false:=decide_eq_false h
theorem lMp {α β:Type} {f:α→β} {l:List α}:(l.map f).length=l.length:=aJ f

namespace L2
open PySem PySem.Spec PyProof.Rows
abbrev Key:=Sum Int Str
def oG:Key→Value→Bool
 | .inl k,v=>Value.isInt k v
 | .inr x,v=>Value.isStrOf x v
def UL (w:World):Key→Int
 | .inl k=>hashInt k
 | .inr x=>hashStr w x
theorem dZ:∀ {k:Key} {v:Value},oG k v=true→(∃ i t,k=Sum.inl i∧v=Value.int i t)∨(∃ x t,k=Sum.inr x∧v=Value.str x t)
 | .inl i,v,h=>by
  obtain ⟨t,e⟩:=Value.isInt_shape (k:=i) (v:=v) h
  exact .inl ⟨i,t,rfl,e⟩
 | .inr x,v,h=>by
  obtain ⟨t,e⟩:=Value.isStrOf_shape (x:=x) (v:=v) h
  exact .inr ⟨x,t,rfl,e⟩
theorem GX (i:Int) (t:Tok):oG (.inl i) (.int i t)=true:=by simp [oG,Value.isInt]
theorem GZ (x:Str) (t:Tok):oG (.inr x) (.str x t)=true:=by simp [oG,Value.isStrOf]
theorem QM (a b:Int):decide ((Sum.inl a:Key)=Sum.inl b)=(a == b):=by
 by_cases e:a=b
 ·subst e;simp
 ·have h:¬ (Sum.inl a:Key)=Sum.inl b:=fun q=>e (Sum.inl.inj q)
  rw [dFa h]
  exact (beq_eq_false_iff_ne.mpr e).symm
theorem QS (a b:Str):decide ((Sum.inr a:Key)=Sum.inr b)=decide (a=b):=by
 by_cases e:a=b
 ·subst e;simp
 ·have h:¬ (Sum.inr a:Key)=Sum.inr b:=fun q=>e (Sum.inr.inj q)
  rw [dFa h,dFa e]
theorem QT (a:Int) (b:Str):decide ((Sum.inl a:Key)=Sum.inr b)=false:=dFa (fun q=>nomatch q)
theorem QV (a:Str) (b:Int):decide ((Sum.inr a:Key)=Sum.inl b)=false:=dFa (fun q=>nomatch q)
def eZ (prog:Program) (w:World):PySem.KeyKind prog w Key where
 is:=oG
 hash:=UL w
 inj:=fun v a b ha hb=>by
  rcases dZ ha with ⟨i,t,rfl,rfl⟩ | ⟨x,t,rfl,rfl⟩
  ·rcases dZ hb with ⟨j,u,rfl,e⟩ | ⟨y,u,rfl,e⟩
   ·injection e with e1 _;rw [e1]
   ·exact nomatch e
  ·rcases dZ hb with ⟨j,u,rfl,e⟩ | ⟨y,u,rfl,e⟩
   ·exact nomatch e
   ·injection e with e1 _;rw [e1]
 byValue:=fun k v h=>by
  rcases dZ h with ⟨i,t,rfl,rfl⟩ | ⟨x,t,rfl,rfl⟩ <;> rfl
 pyHash:=fun hv h=>by
  rcases dZ hv with ⟨i,t,rfl,rfl⟩ | ⟨x,t,rfl,rfl⟩
  ·exact wpAny_pyHash_int h
  ·exact wpAny_pyHash_str h
 eqBool:=fun hu hv h=>by
  rcases dZ hu with ⟨i,t,rfl,rfl⟩ | ⟨x,t,rfl,rfl⟩
  ·rcases dZ hv with ⟨j,u,rfl,rfl⟩ | ⟨y,u,rfl,rfl⟩
   ·rw [QM] at h;exact wpAny_eqBool_int h
   ·rw [QT] at h;exact SeqAt.EqAt.int_str i t y u _ _ _ _ h
  ·rcases dZ hv with ⟨j,u,rfl,rfl⟩ | ⟨y,u,rfl,rfl⟩
   ·rw [QV] at h;exact SeqAt.EqAt.str_int x t j u _ _ _ _ h
   ·rw [QS] at h;exact wpAny_eqBool_str h
 «strs»:=fun k x t v h=>by
  rcases dZ h with ⟨i,u,rfl,e⟩ | ⟨y,u,rfl,e⟩
  ·exact nomatch e
  ·injection e with e1 _
   subst e1
   cases v <;> rfl
theorem CZ (prog:Program) (w:World) (k:Key) (v:Value):(eZ prog w).is k v=oG k v:=rfl
theorem Ay (prog:Program) (w:World) (i:Int) (t:Tok):(eZ prog w).is (.inl i) (.int i t)=true:=GX i t
theorem Az (prog:Program) (w:World) (x:Str) (t:Tok):(eZ prog w).is (.inr x) (.str x t)=true:=GZ x t
end L2
namespace L2
open PySem PySem.Spec PyProof.Rows
inductive V where
 | non | bl (b:Bool) | int (i:Int) | str (x:Str) | byt (b:Array UInt8) | flt (b:UInt64) | ref (a:Addr) | ty (n:String)
 deriving DecidableEq
def RelV:V→Value→Prop
 | .non,u=>u=Value.none
 | .bl b,u=>u=Value.bool b
 | .int i,u=>∃ t,u=Value.int i t
 | .str x,u=>∃ t,u=Value.str x t
 | .byt b,u=>∃ t,u=Value.bytes b t
 | .flt b,u=>∃ t,u=Value.float b t
 | .ref a,u=>u=Value.ref a
 | .ty n,u=>u=Value.type n
abbrev Vals:List V→List Value→Prop:=Paired RelV
theorem Vals.length {xs:List V} {us:List Value} (r:Vals xs us):xs.length=us.length:=Paired.length r
theorem Vals.get:∀ {xs:List V} {us:List Value} {i:Nat} {x:V},Vals xs us→xs[i]? = some x→∃ u,us[i]? = some u∧RelV x u
 | _,_,_,_,.nil,e=>by simp at e
 | _,_,0,_,.cons r _,e=>by simp at e;subst e;exact ⟨_,rfl,r⟩
 | _,_,i + 1,x,.cons _ t,e=>by
  obtain ⟨u,h1,h2⟩:=Vals.get (i:=i) (x:=x) t (by simpa using e)
  exact ⟨u,by simpa using h1,h2⟩
theorem Vals.set {x:V} {u:Value} (r:RelV x u):∀ {xs:List V} {us:List Value} (i:Nat),Vals xs us→Vals (xs.set i x) (us.set i u)
 | _,_,_,.nil=>.nil
 | _,_,0,.cons _ t=>.cons r t
 | _,_,i + 1,.cons q t=>.cons q (Vals.set r i t)
theorem Vals.append:∀ {xs ys:List V} {us ws:List Value},Vals xs us→Vals ys ws→Vals (xs++ys) (us++ws)
 | _,_,_,_,.nil,s=>s
 | _,_,_,_,.cons r t,s=>.cons r (Vals.append t s)
theorem Vals.take:∀ {xs:List V} {us:List Value} (n:Nat),Vals xs us→Vals (xs.take n) (us.take n)
 | _,_,0,_=>.nil
 | _,_,_ + 1,.nil=>.nil
 | _,_,n + 1,.cons r t=>.cons r (Vals.take n t)
theorem Vals.drop:∀ {xs:List V} {us:List Value} (n:Nat),Vals xs us→Vals (xs.drop n) (us.drop n)
 | _,_,0,r=>r
 | _,_,_ + 1,.nil=>.nil
 | _,_,n + 1,.cons _ t=>Vals.drop n t
def uf:Option V→Option Value→Prop
 | some v,some u=>RelV v u
 | none,none=>True
 | _,_=>False
def KV {κ:Type}:List (κ × V)→List (κ × Value)→Prop:=Paired fun (p:κ × V) (q:κ × Value)=>p.1=q.1∧RelV p.2 q.2
def kV:Key→V
 | .inl i=>.int i
 | .inr x=>.str x
inductive HO where
 /-- a list -/
 | lst (xs:List V)
 /-- a tuple (never changes) -/
 | tup (xs:List V)
 /-- a dict whose keys are ints and texts;one whose keys are tuples of ints and texts (the empty one is both) -/
 | dK (kvs:List (Key × V)) | dT (kvs:List (List Key × V))
 /-- a set of ints: its members,its size -/
 | set (S:Int→Bool) (n:Nat)
 /-- an instance of the class at C,its dict at dx,its attributes -/
 | ins (C dx:Addr) (fs:List (Str × V))
 /-- the dict of the instance at x -/
 | own (x:Addr)
 /-- the dict of an exception -/
 | xd (fs:List (Str × V))
 /-- a bound method,f of x -/
 | met (f x:Addr)
 /-- a range object lo,lo + 1,.. below hi -/
 | rng (lo hi:Int)
 /-- a thing that is known to the object (the script;a dict while a loop walks it): read,never written while it is so -/
 | frz (o:Obj) (u:HO)
 /-- a code object's table -/
 | tbl (q:Str) (p:Pos)
 /-- any other thing,by what is true of its one object (a def of one's own: SetO a S n:=HO.ext fun h=>..) -/
 | ext (φ:Heap→Prop)
abbrev Hp:=Addr→Option HO
def upd (H:Hp) (a:Addr) (o:HO):Hp:=fun b=>if b=a then some o else H b
theorem dg {H:Hp} {a:Addr} {o:HO}:upd H a o a=some o:=by unfold upd;rw [if_pos rfl]
theorem cJ {H:Hp} {a b:Addr} {o:HO} (h:b ≠ a):upd H a o b=H b:=by unfold upd;rw [if_neg h]
theorem Fo {H:Hp} {a b:Addr} {o u:HO} (h:H a=some o) (h':H b=some u) (d:o ≠ u):a ≠ b:=by
 intro e;subst e;rw [h] at h';exact d (cU.inj h')
theorem jm {H:Hp} {a b:Addr} {o:HO} (h:H a=some o) (h':H b=none):a ≠ b:=by
 intro e;subst e;rw [h] at h';cases h'
section
variable (P:Program) (w:World)
def gO (H:Hp) (h:Heap) (a:Addr):HO→Prop
 | .lst xs=>xs.length ≤ sizeLine∧∃ (its:List Value) (n:Nat),Vals xs its∧h.get? a=some { cls:=.type "list", data:=.seq its.toArray n }
 | .tup xs=>xs.length ≤ sizeLine∧∃ its:List Value,Vals xs its∧IsTup h a its.toArray
 | .dK kvs=>kvs.length ≤ sizeLine∧(a == sysModules)=false∧∃ vs,KV kvs vs∧h.DictOf (eZ P w) a vs
 | .dT kvs=>kvs.length ≤ sizeLine∧(a == sysModules)=false∧∃ xs:List (List Key × Addr × Value),
  Paired (fun (p:List Key × V) (q:List Key × Addr × Value)=>p.1=q.1∧H q.2.1=some (.tup (p.1.map kV))∧RelV p.2 q.2.2) kvs xs ∧
  ∃ o es ep,h.get? a=some o∧o.ExactDict∧o.data = .dict es ep∧es.toList=xs.map (entryOfKey (tupleKind (eZ P w)))∧(xs.map (·.1)).Nodup
 | .set S n=>h.SetOf (intKind P w) a S n
 | .ins C dx fs=>H dx=some (.own a)∧fs.length ≤ 1000∧dx ≠ a∧h.get? a=some (PySem.W.instObj C dx) ∧
  ∃ mA,h.Ns1 dx mA∧(∀ f,uf (fs.lookup f) (mA f))∧PySem.Within mA (fs.map (·.1))
 | .own _=>∃ o,h.get? a=some o
 | .xd fs=>∃ mA,h.Ns1 a mA∧∀ f,uf (fs.lookup f) (mA f)
 | .rng lo hi=>∃ t u v,h.get? a=some { cls:=.type "range", data:=.fields #[.int lo t,.int hi u,.int 1 v] }
 | .frz o u=>h.get? a=some o∧gO H h a u
 | .tbl q p=>∃ ps,h.get? a=some { cls:=.none,data:=.fields ps }∧(ps = #[]∨∃ c',ps = #[rawInt p.line,rawInt p.col,.ref c']∧H c'=some (.own a)∧h.CodeRec (.ref c') q)
 | .met f x=>h.get? a=some (PySem.W.methodObj (.ref f) (.ref x))
 | .ext φ=>φ h∧(∃ o,h.get? a=some o)∧∀ h1 h2:Heap,φ h1→(∀ o,h1.get? a=some o→h2.get? a=some o)→φ h2
def HOk (H:Hp) (h:Heap):Prop:=∀ a o,H a=some o→gO P w H h a o
end
section
variable {P:Program} {w:World} {H H':Hp} {h h':Heap} {a:Addr} {o:HO}
theorem gO.lt (x:gO P w H h a o):a < h.objs.size:=by
 cases o with
 | lst xs=>obtain ⟨_,_,_,_,e⟩:=x;exact Heap.lt_size e
 | tup xs=>obtain ⟨_,_,_,p⟩:=x;exact p.lt
 | dK kvs=>obtain ⟨_,_,_,_,o,_,_,e,_⟩:=x;exact Heap.lt_size e
 | dT kvs=>obtain ⟨_,_,_,_,o,_,_,e,_⟩:=x;exact Heap.lt_size e
 | set S n=>obtain ⟨o,_,_,_,e,_⟩:=x;exact Heap.lt_size e
 | ins C dx fs=>obtain ⟨_,_,_,e,_⟩:=x;exact Heap.lt_size e
 | own y=>obtain ⟨_,e⟩:=x;exact Heap.lt_size e
 | xd fs=>obtain ⟨_,⟨_,_,_,e,_⟩,_⟩:=x;exact Heap.lt_size e
 | rng lo hi=>obtain ⟨_,_,_,e⟩:=x;exact Heap.lt_size e
 | frz ob u=>obtain ⟨e,_⟩:=x;exact Heap.lt_size e
 | tbl q p=>obtain ⟨_,e,_⟩:=x;exact Heap.lt_size e
 | met f y=>exact Heap.lt_size (show h.get? a=some _ from x)
 | ext φ=>obtain ⟨_,⟨_,e⟩,_⟩:=x;exact Heap.lt_size e
theorem Paired.mapP {α β:Type} {F G:α→β→Prop}:∀ {l₁:List α} {l₂:List β},Paired F l₁ l₂→(∀ a b,F a b→G a b)→Paired G l₁ l₂
 | _,_,.nil,_=>.nil
 | _,_,.cons r t,f=>.cons (f _ _ r) (Paired.mapP t f)
theorem gO.stay (x:gO P w H h a o) (k:∀ b u,(b=a∨H b=some (.own a))→h.get? b=some u→h'.get? b=some u)
 (ho:∀ b,H b=some (.own a)→H' b=some (.own a)) (ht:∀ b xs,H b=some (.tup xs)→H' b=some (.tup xs)):gO P w H' h' a o:=by
 induction o with
 | lst xs=>obtain ⟨z,its,n,r,e⟩:=x;exact ⟨z,its,n,r,k _ _ (.inl rfl) e⟩
 | tup xs=>obtain ⟨z,its,r,ob,e,c⟩:=x;exact ⟨z,its,r,ob,k _ _ (.inl rfl) e,c⟩
 | dK kvs=>obtain ⟨z,y,vs,r,ob,es,ep,e,c⟩:=x;exact ⟨z,y,vs,r,ob,es,ep,k _ _ (.inl rfl) e,c⟩
 | dT kvs =>
  obtain ⟨z,y,xs,r,ob,es,ep,e,c⟩:=x
  exact ⟨z,y,xs,Paired.mapP r fun p q z=>⟨z.1,ht _ _ z.2.1,z.2.2⟩,ob,es,ep,k _ _ (.inl rfl) e,c⟩
 | set S n=>obtain ⟨ob,es,ep,t,e,c⟩:=x;exact ⟨ob,es,ep,t,k _ _ (.inl rfl) e,c⟩
 | ins C dx fs =>
  obtain ⟨d,z,ne,e,mA,⟨od,es,ep,e2,c⟩,r⟩:=x
  exact ⟨ho _ d,z,ne,k _ _ (.inl rfl) e,mA,⟨od,es,ep,k _ _ (.inr d) e2,c⟩,r⟩
 | own y=>obtain ⟨ob,e⟩:=x;exact ⟨ob,k _ _ (.inl rfl) e⟩
 | xd fs=>obtain ⟨mA,⟨od,es,ep,e,c⟩,r⟩:=x;exact ⟨mA,⟨od,es,ep,k _ _ (.inl rfl) e,c⟩,r⟩
 | rng lo hi=>obtain ⟨t,u,v,e⟩:=x;exact ⟨t,u,v,k _ _ (.inl rfl) e⟩
 | frz ob u ih=>obtain ⟨e,q⟩:=x;exact ⟨k _ _ (.inl rfl) e,ih q⟩
 | tbl q p =>
  obtain ⟨ps,e,z⟩:=x
  refine ⟨ps,k a _ (.inl rfl) e,?_⟩
  rcases z with z | ⟨c',z1,z2,z3⟩
  ·exact .inl z
  ·obtain ⟨c,oc,vs,tq,hc,hoc,hdc,hq⟩:=z3
   have hc':c'=c:=by injection hc
   exact .inr ⟨c',z1,ho _ z2,c,oc,vs,tq,hc,k _ _ (.inr (hc' ▸ z2)) hoc,hdc,hq⟩
 | met f y =>
  have e:h.get? a=some (PySem.W.methodObj (.ref f) (.ref y)):=x
  show h'.get? a=some (PySem.W.methodObj (.ref f) (.ref y))
  exact k a _ (.inl rfl) e
 | ext φ=>obtain ⟨p,⟨o,e⟩,st⟩:=x;exact ⟨st _ _ p fun o q=>k _ _ (.inl rfl) q,⟨o,k _ _ (.inl rfl) e⟩,st⟩
theorem HOk.lt (x:HOk P w H h) (e:H a=some o):a < h.objs.size:=(x a o e).lt
theorem HOk.fresh (x:HOk P w H h) (e:h.objs.size ≤ a):H a=none:=by
 cases q:H a with
 | none=>rfl
 | some u=>exact absurd (bT (x.lt q) e) (gM _)
theorem HOk.kept (x:HOk P w H h) (k:∀ b u,h.get? b=some u→h'.get? b=some u):HOk P w H h':=fun a o e =>
 (x a o e).stay (fun b u _ q=>k b u q) (fun _ q=>q) fun _ _ q=>q
theorem HOk.laid (x:HOk P w H h) (k:∀ b u,h.get? b=some u→h'.get? b=some u) (hp:h.objs.size ≤ a) (new:gO P w (upd H a o) h' a o):HOk P w (upd H a o) h':=fun b u e=>by
 have hn:=x.fresh hp
 by_cases hb:b=a
 ·subst hb;rw [dg] at e;cases e;exact new
 ·rw [cJ hb] at e
  exact (x b u e).stay (fun c v _ q=>k c v q) (fun c q=>by rw [cJ (jm q hn)];exact q) fun c xs q=>by rw [cJ (jm q hn)];exact q
end
def Rd (H:Hp) (a:Addr) (u:HO):Prop:=H a=some u∨∃ o,H a=some (.frz o u)
theorem Rd.ok {P:Program} {w:World} {H:Hp} {h:Heap} {a:Addr} {u:HO} (r:Rd H a u) (x:HOk P w H h):gO P w H h a u:=by
 rcases r with r | ⟨o,r⟩
 ·exact x a u r
 ·obtain ⟨_,q⟩:=x a _ r
  exact q
def Mut:Option HO→Prop
 | some (.lst _)=>True
 | some (.dK _)=>True
 | some (.dT _)=>True
 | some (.set _ _)=>True
 | some (.ins _ _ _)=>True
 | some (.ext _)=>True
 | _=>False
section
variable {P:Program} {w:World} {H:Hp} {h h':Heap} {x e:Addr} {o':HO}
theorem HOk.write (ok:HOk P w H h) (mu:Mut (H x)) (he:e=x∨H e=some (.own x)) (k:∀ b u,b ≠ e→h.get? b=some u→h'.get? b=some u) (heo:∃ u,h'.get? e=some u)
 (new:gO P w (upd H x o') h' x o'):HOk P w (upd H x o') h':=fun b u q=>by
 have nown:∀ c y,H c=some (.own y)→c ≠ x:=fun c y r z=>by subst z;rw [r] at mu;exact mu
 have ntup:∀ c xs,H c=some (.tup xs)→c ≠ x:=fun c xs r z=>by subst z;rw [r] at mu;exact mu
 by_cases hb:b=x
 ·subst hb;rw [dg] at q;cases q;exact new
 ·rw [cJ hb] at q
  by_cases hbe:b=e
  ·have q':H b=some (.own x):=by
    rcases he with z | z
    ·exact absurd (hbe.trans z) hb
    ·rw [hbe];exact z
   rw [q] at q';cases q'
   obtain ⟨v,hv⟩:=heo
   exact ⟨v,by rw [hbe];exact hv⟩
  ·refine (ok b u q).stay (fun c v hc r=>k c v ?_ r) (fun c r=>by rw [cJ (nown c b r)];exact r) fun c xs r=>by rw [cJ (ntup c xs r)];exact r
   rcases hc with rfl | hc
   ·exact hbe
   ·rintro rfl
    rcases he with z | z
    ·exact nown c b hc z
    ·rw [hc] at z;cases z;exact hb rfl
end
structure Un (fs ex:List Addr) (H H':Hp) (h h':Heap):Prop where
 keep:∀ b o,h.get? b=some o→H b=none→b ∉ fs→b ∉ ex→h'.get? b=some o
 slot:∀ b o,h.get? b=some o→H b=none→b ∈ fs→b ∉ ex→∃ sl,h'.get? b=some { o with slots:=sl }
 free:∀ b o,h.get? b=some o→H b=none→b ∉ ex→H' b=none
 there:∀ b o,h.get? b=some o→b ∉ ex→∃ o',h'.get? b=some o'
 tups:∀ b xs,H b=some (.tup xs)→H' b=some (.tup xs)
 frzs:∀ b o u,H b=some (.frz o u)→H' b=some (.frz o u)
 tbls:∀ b q p,H b=some (.tbl q p)→H' b=some (.tbl q p)
section
variable {fs fs' ex ex':List Addr} {H H1 H2:Hp} {h h1 h2 h':Heap} {a x e:Addr} {o:HO}
theorem Un.any (u:Un fs ex H H1 h h1) {b:Addr} {ob:Obj} (q:h.get? b=some ob) (n:H b=none) (hx:b ∉ ex):∃ sl,h1.get? b=some { ob with slots:=sl }:=by
 by_cases hb:b ∈ fs
 ·exact u.slot b ob q n hb hx
 ·exact ⟨ob.slots,u.keep b ob q n hb hx⟩
theorem Un.kept (k:∀ b u,h.get? b=some u→h'.get? b=some u):Un fs ex H H h h' :=
 ⟨fun b ob q _ _ _=>k b ob q,fun b ob q _ _ _=>⟨ob.slots,k b ob q⟩,fun _ _ _ n _=>n,fun b ob q _=>⟨ob,k b ob q⟩,fun _ _ q=>q,fun _ _ _ q=>q,fun _ _ _ q=>q⟩
theorem Un.refl:Un fs ex H H h h:=Un.kept fun _ _ q=>q
theorem Un.laid (k:∀ b u,h.get? b=some u→h'.get? b=some u) (hp:h.objs.size ≤ a) (hn:H a=none):Un fs ex H (upd H a o) h h' where
 keep:=fun b u q _ _ _=>k b u q
 slot:=fun b u q _ _ _=>⟨u.slots,k b u q⟩
 free:=fun b u q n _=>by rw [cJ (bQ (bT (Heap.lt_size q) hp))];exact n
 there:=fun b u q _=>⟨u,k b u q⟩
 tups:=fun b xs q=>by rw [cJ (jm q hn)];exact q
 frzs:=fun b u xs q=>by rw [cJ (jm q hn)];exact q
 tbls:=fun b q p e=>by rw [cJ (jm e hn)];exact e
theorem Un.write (mu:Mut (H x)) (he:e=x∨H e=some (.own x)) (k:∀ b u,b ≠ e→h.get? b=some u→h'.get? b=some u) (heo:∃ u,h'.get? e=some u):Un fs ex H (upd H x o) h h':=by
 have hx:∀ b,H b=none→b ≠ x:=fun b n z=>by subst z;rw [n] at mu;exact mu
 have hb:∀ b,H b=none→b ≠ e:=fun b n z=>by
  subst z
  rcases he with r | r
  ·exact hx b n r
  ·rw [n] at r;cases r
 have hm:∀ b u,H b=some u→¬ Mut (some u)→b ≠ x:=fun b u q nm z=>by subst z;rw [q] at mu;exact nm mu
 refine ⟨fun b u q n _ _=>k b u (hb b n) q,fun b u q n _ _=>⟨u.slots,k b u (hb b n) q⟩,fun b u q n _=>by rw [cJ (hx b n)];exact n,fun b u q _=>?_,
  fun b xs q=>by rw [cJ (hm b _ q fun z=>z)];exact q,fun b u xs q=>by rw [cJ (hm b _ q fun z=>z)];exact q,fun b q p e=>by rw [cJ (hm b _ e fun z=>z)];exact e⟩
 by_cases hbe:b=e
 ·subst hbe;exact heo
 ·exact ⟨u,k b u hbe q⟩
end
def trk (h:Heap) (H:Hp):List Addr:=(aH h.objs.size).filter fun a=>(H a).isSome
def zf (h:Heap) (H:Hp):Heap:=PySem.W.hideAll h (trk h H)
theorem G3 (h:Heap) (H:Hp):(zf h H).objs.size=h.objs.size:=PySem.W.hideAll_size _ _
theorem Jd {h:Heap} {H:Hp} {b:Addr} {o:Obj} (e:h.get? b=some o) (n:H b=none):(zf h H).get? b=some o :=
 PySem.W.hideAll_get _ e fun hm=>by
  have q:(H b).isSome=true:=(bM.mp hm).2
  rw [n] at q;simp at q
theorem LR {h:Heap} {H:Hp} {b:Addr} {o:Obj} (e:(zf h H).get? b=some o):h.get? b=some o∧H b=none:=by
 have e':h.get? b=some o:=PySem.W.of_hideAll (trk h H) e
 refine ⟨e',?_⟩
 cases q:H b with
 | none=>rfl
 | some x =>
  have hm:b ∈ trk h H:=bM.mpr ⟨aR.mpr (Heap.lt_size e'),by simp [q]⟩
  have z:(zf h H).get? b=none:=PySem.W.hideAll_none (trk h H) hm
  rw [z] at e;cases e
def mD (g h:Heap) (L:Addr):List (Addr × Obj):=(aH h.objs.size).filterMap fun a=>if a=L∨(g.get? a).isSome=true then none else (h.get? a).map fun o=>(a,o)
theorem p8 {g h:Heap} {L a:Addr} {o:Obj} (h1:a ≠ L) (h2:g.get? a=none) (h3:h.get? a=some o):(a,o) ∈ mD g h L :=
 fK.mpr ⟨a,aR.mpr (Heap.lt_size h3),by simp [h1,h2,h3]⟩
theorem vM {g h:Heap} {L:Addr} {p:Addr × Obj} (hp:p ∈ mD g h L):p.1 ≠ L∧g.get? p.1=none∧h.get? p.1=some p.2:=by
 obtain ⟨b,_,e⟩:=fK.mp hp
 split at e
 ·cases e
 ·rename_i hn
  cases q:h.get? b with
  | none=>rw [q] at e;simp at e
  | some u =>
   rw [q] at e
   simp only [gq,cU.injEq] at e
   subst e
   refine ⟨fun z=>hn (.inl z),?_,q⟩
   show g.get? b=none
   cases r:g.get? b with
   | none=>rfl
   | some v=>exact (hn (.inr (by simp [r]))).elim
theorem vN {g h:Heap} {L:Addr}:News g L h (mD g h L):=fun p hp=>let ⟨a,b,c⟩:=vM hp;⟨c,a,b⟩
end L2
namespace L2
open PySem PySem.Spec PyProof.Rows
structure Mod (K:PySem.W.Frag) (mg:Str→Option Value) (base:Heap):Prop where
 kin:K.In base
 glob:base.Ns mainGlobals mg
 blt:∃ mb,base.Ns builtinsNs mb∧∀ x:Str,x ≠ "__name__" → mb x=bootBuiltins x
 nolimit:base.NoLimit
 bm:∃ bm ob,mg "__builtins__" = some (.ref bm)∧bm ≠ builtinsNs∧base.get? bm=some ob∧ob.cls = .type "module" ∧ ob.dict=some builtinsNs∧ob.data = .plain
structure Cx where
 prog:Program
 w:World
 K:PySem.W.Frag
 mg:Str→Option Value
 base:Heap
 A:Around
 N:List Str
 s₀:Shared
 H₀:Hp
 env:Env
 outer:List Env
 stack:List Env
 ex:List Addr
 fn:Str→Bool
 calm:Bool
 pn:List (Addr × Obj)
 xe:Value→Shared→Prop
def frs (l:List Env):List Addr:=l.filterMap (·.frame)
abbrev Cx.fs (X:Cx):List Addr:=frs X.outer
def Vis (sc:Scope) (x:Str):Prop:=sc.names.lookup x=some .local∨sc.names.lookup x=some .cell∨sc.names.lookup x=some .free
def Loc (sc:Scope) (x:Str):Prop:=sc.names.lookup x=some .local∨sc.names.lookup x=some .cell
def Look (env:Env) (h:Heap) (m:Str→Option Value) (x:Str) (u:Value):Prop :=
 (env.kindOf x=some .local∧m x=some u)∨((env.kindOf x=some .cell∨env.kindOf x=some .free)∧∃ c,env.cells.lookup x=some c∧h.IsCell c (some u))
structure Cx.Ok (X:Cx):Prop where
 mod:Mod X.K X.mg X.base
 kind:X.env.scope.kind = .function
 glob:X.env.globals=mainGlobals
 blt:X.env.builtins=builtinsNs
 above:X.s₀.heap.objs.size ≤ X.env.locals
 inj:∀ x y c,X.env.cells.lookup x=some c→X.env.cells.lookup y=some c→x=y
 has:∀ x,(X.env.kindOf x=some .cell∨X.env.kindOf x=some .free)→∃ c,X.env.cells.lookup x=some c
 cab:∀ x c,X.fn x=true→X.env.cells.lookup x=some c→X.s₀.heap.objs.size ≤ c
 hd:X.calm=true→X.A.handled=none
 frames:X.A.frames=some X.stack
 stk:X.stack=X.outer∨(X.stack=X.env :: X.outer∧X.env.frame=some X.env.locals)
 exf:∀ b ∈ X.ex,b ≠ X.env.locals∧∀ x c,X.env.cells.lookup x=some c→c ≠ b
 bs:∀ b o,X.base.get? b=some o→X.s₀.heap.get? b=some o∧X.H₀ b=none
 bsz:X.base.objs.size ≤ X.s₀.heap.objs.size
 noex:∀ b o,X.base.get? b=some o→b ∉ X.ex
 exfs:∀ b ∈ X.ex,b ∉ X.fs
 funs:X.s₀.heap.FunFrames X.base X.outer
 frf:∀ b ∈ X.fs,X.H₀ b=none
structure Inv (X:Cx) (pins:List (Addr × Obj)) (σ:List (Option V)) (H:Hp) (s:Shared):Prop where
 ok:X.Ok
 os:s.os=X.s₀.os
 bare:AllBare s.gens
 base:Un X.fs X.ex X.H₀ H X.s₀.heap s.heap
 loc:∃ m,s.heap.Ns X.env.locals m∧∀ (i:Nat) (x:Str) (v:V),X.N[i]? = some x→σ[i]? = some (some v)→Vis X.env.scope x→∃ u,RelV v u∧Look X.env s.heap m x u
 cell:∀ x c,X.env.cells.lookup x=some c→∃ v,s.heap.IsCell c v
 free:H X.env.locals=none
 freeC:∀ x c,X.env.cells.lookup x=some c→H c=none
 pin:∀ p ∈ X.pn++pins,s.heap.get? p.1=some p.2∧H p.1=none∧p.1 ≠ X.env.locals∧p.1 ∉ X.fs∧∀ v,p.2.data ≠ .cell v
 hok:HOk X.prog X.w H s.heap
 len:σ.length=X.N.length
section
variable {X:Cx} {pins:List (Addr × Obj)} {σ:List (Option V)} {H H':Hp} {s:Shared} {h':Heap}
theorem Cx.Ok.nofr (ok:X.Ok) {b:Addr} {o:Obj} (e:X.base.get? b=some o):b ∉ X.fs:=fun hb=>by
 have:=(ok.funs.mem hb).1
 rw [e] at this;cases this
theorem Inv.bs (I:Inv X pins σ H s):∀ b o,X.base.get? b=some o→s.heap.get? b=some o∧H b=none:=fun b o e =>
 ⟨I.base.keep b o (I.ok.bs b o e).1 (I.ok.bs b o e).2 (I.ok.nofr e) (I.ok.noex b o e),I.base.free b o (I.ok.bs b o e).1 (I.ok.bs b o e).2 (I.ok.noex b o e)⟩
theorem Inv.bk (I:Inv X pins σ H s):∀ b o,X.base.get? b=some o→s.heap.get? b=some o:=fun b o e=>(I.bs b o e).1
theorem Inv.mod (I:Inv X pins σ H s):Mod X.K X.mg X.base:=I.ok.mod
theorem Inv.kIn (I:Inv X pins σ H s):X.K.In s.heap:=I.ok.mod.kin.keeps I.bk
theorem Inv.lt (I:Inv X pins σ H s):X.env.locals < s.heap.objs.size:=let ⟨_,hn,_⟩:=I.loc;hn.lt
theorem Inv.sz (I:Inv X pins σ H s):X.s₀.heap.objs.size ≤ s.heap.objs.size:=bV I.ok.above (gC I.lt)
theorem Inv.nofs (I:Inv X pins σ H s) {a:Addr} (h:s.heap.objs.size ≤ a):a ∉ X.fs:=fun hb=>by
 obtain ⟨_,o,ho,_⟩:=I.ok.funs.mem hb
 exact absurd (bT (Heap.lt_size ho) (bV I.sz h)) (gM _)
theorem Inv.cne (I:Inv X pins σ H s):∀ x c,X.env.cells.lookup x=some c→c ≠ X.env.locals:=fun x c e z=>by
 obtain ⟨v,o,ho,hd⟩:=I.cell x c e
 obtain ⟨m,⟨o',es,ep,ho',hd',_⟩,_⟩:=I.loc
 rw [z,ho'] at ho;cases ho;rw [hd'] at hd;cases hd
theorem Inv.funs (I:Inv X pins σ H s):s.heap.FunFrames X.base X.outer:=by
 have all:∀ (l:List Env),(∀ b ∈ frs l,b ∈ X.fs)→X.s₀.heap.FunFrames X.base l→s.heap.FunFrames X.base l:=by
  intro l
  induction l with
  | nil=>intro _ _;trivial
  | cons env r ih =>
   intro hs hl
   obtain ⟨hk,⟨L,o,hf,hn,ho,hd⟩,hr⟩:=hl
   have hL:L ∈ X.fs:=hs L (by unfold frs;rw [dY,hf];exact aO)
   obtain ⟨sl,e⟩:=I.base.slot L o ho (I.ok.frf L hL) hL fun z=>I.ok.exfs L z hL
   exact ⟨hk,⟨L,_,hf,hn,e,hd⟩,ih (fun b hb=>hs b (by unfold frs;rw [dY,hf];exact aM _ hb)) hr⟩
 exact all X.outer (fun _ hb=>hb) I.ok.funs
theorem Inv.stack (I:Inv X pins σ H s):s.heap.FunFrames X.base X.stack:=by
 rcases I.ok.stk with e | ⟨e,hf⟩
 ·rw [e];exact I.funs
 ·rw [e]
  obtain ⟨m,hn,_⟩:=I.loc
  refine .cons (by rw [I.ok.kind];decide) hf hn ?_ I.funs
  exact Heap.get?_none_of_le (bV I.ok.bsz I.ok.above)
theorem Inv.stkSub (I:Inv X pins σ H s):∀ b ∈ frs X.stack,b ∈ X.env.locals :: X.fs:=fun b hb=>by
 rcases I.ok.stk with e | ⟨e,hf⟩
 ·rw [e] at hb;exact aM _ hb
 ·rw [e] at hb
  unfold frs at hb
  rw [dY,hf] at hb
  exact hb
theorem Inv.stkFree (I:Inv X pins σ H s):∀ b ∈ frs X.stack,H b=none:=fun b hb=>by
 rcases bA.mp (I.stkSub b hb) with e | hb
 ·rw [e];exact I.free
 ·obtain ⟨_,o,ho,_⟩:=I.ok.funs.mem hb
  exact I.base.free b o ho (I.ok.frf b hb) fun z=>I.ok.exfs b z hb
theorem Inv.step {g':Array GenState} {t':Nat} {d':Drawn} {ch:List Addr} (I:Inv X pins σ H s)
 (hch:∀ b ∈ ch,(b ∈ X.ex∨X.s₀.heap.objs.size ≤ b)∧b ≠ X.env.locals∧(∀ x c,X.env.cells.lookup x=some c→c ≠ b)∧∀ p ∈ X.pn++pins,p.1 ≠ b)
 (keep:∀ b o,b ≠ X.env.locals→b ∉ X.fs→b ∉ ch→s.heap.get? b=some o→H b=none→h'.get? b=some o)
 (slot:∀ b o,b ≠ X.env.locals→b ∈ X.fs→b ∉ ch→s.heap.get? b=some o→H b=none→∃ sl,h'.get? b=some { o with slots:=sl }) (free:∀ b o,b ∉ ch→s.heap.get? b=some o→H b=none→H' b=none)
 (there:∀ b o,b ∉ ch→s.heap.get? b=some o→∃ o',h'.get? b=some o')
 (tups:∀ b xs,H b=some (.tup xs)→H' b=some (.tup xs)) (frzs:∀ b o u,H b=some (.frz o u)→H' b=some (.frz o u)) (tbls:∀ b q p,H b=some (.tbl q p)→H' b=some (.tbl q p))
 (ns:∀ m,s.heap.Ns X.env.locals m→h'.Ns X.env.locals m) (hok:HOk X.prog X.w H' h') (hg:AllBare g') :
 Inv X pins σ H' { s with heap:=h',gens:=g',drawn:=d',toks:=t' }:=by
 have neL:∀ b o,X.s₀.heap.get? b=some o→b ≠ X.env.locals:=fun b o e=>bQ (bT (Heap.lt_size e) I.ok.above)
 have neC:∀ b o,X.s₀.heap.get? b=some o→b ∉ X.ex→b ∉ ch:=fun b o e hx hb=>by
  rcases (hch b hb).1 with z | z
  ·exact hx z
  ·exact absurd (bT (Heap.lt_size e) z) (gM _)
 have cellK:∀ x c,X.env.cells.lookup x=some c→∀ v,s.heap.IsCell c v→h'.IsCell c v:=fun x c e v ⟨o,ho,hd⟩=>by
  have nch:c ∉ ch:=fun z=>(hch c z).2.2.1 x c e rfl
  by_cases hc:c ∈ X.fs
  ·obtain ⟨sl,q⟩:=slot c o (I.cne x c e) hc nch ho (I.freeC x c e)
   exact ⟨_,q,hd⟩
  ·exact ⟨o,keep c o (I.cne x c e) hc nch ho (I.freeC x c e),hd⟩
 refine ⟨I.ok,I.os,hg,⟨fun b o e n hb hx=>?_,fun b o e n hb hx=>?_,fun b o e n hx=>?_,fun b o e hx=>?_,fun b xs e=>tups b xs (I.base.tups b xs e),fun b o xs e=>frzs b o xs (I.base.frzs b o xs e),fun b q p e=>tbls b q p (I.base.tbls b q p e)⟩,?_,fun x c e=>?_,?_,fun x c e=>?_,fun p hp=>?_,hok,I.len⟩
 ·exact keep b o (neL b o e) hb (neC b o e hx) (I.base.keep b o e n hb hx) (I.base.free b o e n hx)
 ·obtain ⟨sl,e1⟩:=I.base.slot b o e n hb hx
  obtain ⟨sl',e2⟩:=slot b _ (neL b o e) hb (neC b o e hx) e1 (I.base.free b o e n hx)
  exact ⟨sl',e2⟩
 ·obtain ⟨o',e1⟩:=I.base.there b o e hx
  exact free b o' (neC b o e hx) e1 (I.base.free b o e n hx)
 ·obtain ⟨o',e1⟩:=I.base.there b o e hx
  exact there b o' (neC b o e hx) e1
 ·obtain ⟨m,hn,hl⟩:=I.loc
  refine ⟨m,ns m hn,fun i x v e1 e2 e3=>?_⟩
  obtain ⟨u,r,l⟩:=hl i x v e1 e2 e3
  refine ⟨u,r,?_⟩
  rcases l with l | ⟨k,c,e,z⟩
  ·exact .inl l
  ·exact .inr ⟨k,c,e,cellK x c e _ z⟩
 ·obtain ⟨v,z⟩:=I.cell x c e
  exact ⟨v,cellK x c e v z⟩
 ·obtain ⟨m,⟨o,_,_,ho,_⟩,_⟩:=I.loc
  exact free _ o (fun z=>(hch _ z).2.1 rfl) ho I.free
 ·obtain ⟨v,o,ho,hd⟩:=I.cell x c e
  exact free c o (fun z=>(hch c z).2.2.1 x c e rfl) ho (I.freeC x c e)
 ·obtain ⟨e,n,ne,nf,d⟩:=I.pin p hp
  have nch:p.1 ∉ ch:=fun z=>(hch p.1 z).2.2.2 p hp rfl
  exact ⟨keep p.1 p.2 ne nf nch e n,free p.1 p.2 nch e n,ne,nf,d⟩
theorem Inv.un {t':Nat} (I:Inv X pins σ H s) (u:Un X.fs [] H H' s.heap h') (hok:HOk X.prog X.w H' h'):Inv X pins σ H' { s with heap:=h',toks:=t' }:=by
 obtain ⟨m,⟨o,es,ep,ho,r⟩,_⟩:=id I.loc
 obtain ⟨sl,hL⟩:=u.any ho I.free (by simp)
 exact I.step (g':=s.gens) (d':=s.drawn) (ch:=[]) (fun _ z=>nomatch z) (fun b o _ hb _ e n=>u.keep b o e n hb (by simp)) (fun b o _ hb _ e n=>u.slot b o e n hb (by simp)) (fun b o _ e n=>u.free b o e n (by simp)) (fun b o _ e=>u.there b o e (by simp)) u.tups u.frzs u.tbls (fun m' hm=>by
  obtain ⟨o',es',ep',ho',r'⟩:=hm
  rw [ho] at ho';cases ho'
  exact ⟨_,es',ep',hL,r'⟩) hok I.bare
theorem Inv.call {g':Array GenState} {t':Nat} {d':Drawn} {ch:List Addr} (I:Inv X pins σ H s) (u:Un (frs X.stack) ch H H' s.heap h') (hok:HOk X.prog X.w H' h') (hg:AllBare g')
 (hch:∀ b ∈ ch,(b ∈ X.ex∨X.s₀.heap.objs.size ≤ b)∧b ≠ X.env.locals∧(∀ x c,X.env.cells.lookup x=some c→c ≠ b)∧∀ p ∈ X.pn++pins,p.1 ≠ b) :
 Inv X pins σ H' { s with heap:=h',gens:=g',drawn:=d',toks:=t' }:=by
 obtain ⟨m,⟨o,es,ep,ho,r⟩,_⟩:=id I.loc
 obtain ⟨sl,hL⟩:=u.any ho I.free fun z=>(hch _ z).2.1 rfl
 exact I.step (ch:=ch) hch (fun b o hL hb hc e n=>u.keep b o e n (fun z=>(bA.mp (I.stkSub b z)).elim hL hb) hc) (fun b o _ _ hc e n=>u.any e n hc) (fun b o hc e n=>u.free b o e n hc) (fun b o hc e=>u.there b o e hc) u.tups u.frzs u.tbls (fun m' hm=>by
  obtain ⟨o',es',ep',ho',r'⟩:=hm
  rw [ho] at ho';cases ho'
  exact ⟨_,es',ep',hL,r'⟩) hok hg
theorem Inv.turned {t':Nat} {it:Addr} (I:Inv X pins σ H s) (k:∀ b o,b ≠ it→s.heap.get? b=some o→h'.get? b=some o) (hn:H it=none) (hL:it ≠ X.env.locals)
 (h1:it ∈ X.ex∨X.s₀.heap.objs.size ≤ it) (h2:∀ x c,X.env.cells.lookup x=some c→c ≠ it) (h3:∀ p ∈ X.pn++pins,p.1 ≠ it):Inv X pins σ H { s with heap:=h',toks:=t' }:=by
 have nit:∀ b u,H b=some u→b ≠ it:=fun b u e z=>by rw [z,hn] at e;cases e
 refine I.step (g':=s.gens) (d':=s.drawn) (ch:=[it]) (fun b hb=>?_) (fun b o _ _ hc e _=>k b o (fun z=>hc (by simp [z])) e) (fun b o _ _ hc e _=>⟨o.slots,k b o (fun z=>hc (by simp [z])) e⟩) (fun _ _ _ _ n=>n)
  (fun b o hc e=>⟨o,k b o (fun z=>hc (by simp [z])) e⟩) (fun _ _ e=>e) (fun _ _ _ e=>e) (fun _ _ _ e=>e) (fun m hm=>?_) (fun b u e=>?_) I.bare
 ·have e:b=it:=by simpa using hb
  subst e
  exact ⟨h1,hL,h2,h3⟩
 ·obtain ⟨o,es,ep,ho,r⟩:=hm
  exact ⟨o,es,ep,k _ o (Ne.symm hL) ho,r⟩
 ·refine (I.hok b u e).stay (fun c v hc q=>k c v ?_ q) (fun _ q=>q) fun _ _ q=>q
  rcases hc with z | z
  ·rw [z];exact nit b u e
  ·exact nit c _ z
theorem Inv.tok (I:Inv X pins σ H s) (t:Nat):Inv X pins σ H { s with toks:=t }:=I.un (h':=s.heap) (t':=t) Un.refl I.hok
theorem Inv.kept {t':Nat} (I:Inv X pins σ H s) (k:∀ b u,s.heap.get? b=some u→h'.get? b=some u):Inv X pins σ H { s with heap:=h',toks:=t' }:=I.un (Un.kept k) (I.hok.kept k)
theorem Inv.laid {a:Addr} {o:HO} {t':Nat} (I:Inv X pins σ H s) (k:∀ b u,s.heap.get? b=some u→h'.get? b=some u) (hp:s.heap.objs.size ≤ a) (new:gO X.prog X.w (upd H a o) h' a o) :
 Inv X pins σ (upd H a o) { s with heap:=h',toks:=t' }:=I.un (Un.laid k hp (I.hok.fresh hp)) (I.hok.laid k hp new)
theorem Inv.write {x e:Addr} {o:HO} {t':Nat} (I:Inv X pins σ H s) (mu:Mut (H x)) (he:e=x∨H e=some (.own x)) (k:∀ b u,b ≠ e→s.heap.get? b=some u→h'.get? b=some u) (heo:∃ u,h'.get? e=some u)
 (new:gO X.prog X.w (upd H x o) h' x o):Inv X pins σ (upd H x o) { s with heap:=h',toks:=t' }:=I.un (Un.write mu he k heo) (I.hok.write mu he k heo new)
theorem Inv.pins_of {pins':List (Addr × Obj)} (I:Inv X pins σ H s) (h:∀ p ∈ pins',s.heap.get? p.1=some p.2∧H p.1=none∧p.1 ≠ X.env.locals∧p.1 ∉ X.fs∧∀ v,p.2.data ≠ .cell v):Inv X pins' σ H s :=
 ⟨I.ok,I.os,I.bare,I.base,I.loc,I.cell,I.free,I.freeC,fun p hp=>(aX.mp hp).elim (fun z=>I.pin p (bf _ z)) (h p),I.hok,I.len⟩
theorem A_ {N:List Str} (hN:N.Nodup) {i j:Nat} {x:Str} (a:N[i]? = some x) (b:N[j]? = some x):i=j:=by
 obtain ⟨h1,e1⟩:=dh.mp a
 obtain ⟨h2,e2⟩:=dh.mp b
 exact (List.getElem_inj hN).mp (e1.trans e2.symm)
theorem yr {M:Model} {A:Around} {E:Value→Shared→Prop} {i:Nat} {x:Str} {v:V} {u:Value} {Q:Unit→Shared→Prop} (I:Inv X pins σ H s) (hN:X.N.Nodup) (hi:X.N[i]? = some x) (hx:Loc X.env.scope x) (r:RelV v u)
 (h:∀ s',Inv X pins (σ.set i (some v)) H s'→(∃ a,Heap.SameBut a s.heap s'.heap∧(a=X.env.locals∨X.env.cells.lookup x=some a))→Q () s') (hf:X.fn x=true∨X.env.scope.names.lookup x=some .local:=by first | exact .inl rfl | exact .inr rfl | assumption):wpAny M A (storeName X.env x u) Q E s:=by
 obtain ⟨m,hn,hl⟩:=id I.loc
 have hcls:(X.env.scope.kind == .class || (X.env.scope.kind == .module && X.env.locals != X.env.globals))=false:=by rw [I.ok.kind];rfl
 have hiσ:i < σ.length:=by rw [I.len];exact (dh.mp hi).1
 have cne:=I.cne
 have tracked:∀ {a:Addr} {h':Heap},(∃ o,s.heap.get? a=some o∧H a=none)→Heap.SameBut a s.heap h'→HOk X.prog X.w H h':=fun {a h'} ha hs b ob e=>by
  obtain ⟨_,_,hfree⟩:=ha
  refine (I.hok b ob e).stay (fun c w' hc q=>(hs.2 c ?_).trans q) (fun _ q=>q) fun _ _ q=>q
  rintro rfl
  rcases hc with rfl | hc
  ·rw [hfree] at e;cases e
  ·rw [hfree] at hc;cases hc
 rcases hx with hk | hk
 ·refine wpAny_storeName_local hk hn (fun h' hn' hs=>?_) hcls
  obtain ⟨oL,_,_,hoL,_⟩:=id hn
  refine h _ ⟨I.ok,I.os,I.bare,⟨fun b o e n hb hx=>?_,fun b o e n hb hx=>?_,I.base.free,fun b o e hx=>?_,I.base.tups,I.base.frzs,I.base.tbls⟩,⟨_,hn',fun j y v' e1 e2 e3=>?_⟩,fun y c e=>?_,I.free,I.freeC,fun p hp=>?_,tracked ⟨oL,hoL,I.free⟩ hs,by simpa using I.len⟩ ⟨_,hs,.inl rfl⟩
  ·exact (hs.2 b (bQ (bT (Heap.lt_size e) I.ok.above))).trans (I.base.keep b o e n hb hx)
  ·obtain ⟨sl,e1⟩:=I.base.slot b o e n hb hx
   exact ⟨sl,(hs.2 b (bQ (bT (Heap.lt_size e) I.ok.above))).trans e1⟩
  ·obtain ⟨o',e1⟩:=I.base.there b o e hx
   exact ⟨o',(hs.2 b (bQ (bT (Heap.lt_size e) I.ok.above))).trans e1⟩
  ·by_cases hj:j=i
   ·subst hj
    rw [hi] at e1;cases e1
    rw [dw hiσ] at e2
    cases e2
    exact ⟨u,r,.inl ⟨hk,by simp⟩⟩
   ·rw [bJ (Ne.symm hj)] at e2
    obtain ⟨u',r',q⟩:=hl j y v' e1 e2 e3
    refine ⟨u',r',?_⟩
    rcases q with ⟨k,e⟩ | ⟨k,c,e,z⟩
    ·refine .inl ⟨k,?_⟩
     have:y ≠ x:=fun e=>hj (A_ hN e1 (e ▸ hi))
     simp [this,e]
    ·exact .inr ⟨k,c,e,z.sameBut hs (cne y c e)⟩
  ·obtain ⟨w',z⟩:=I.cell y c e
   exact ⟨w',z.sameBut hs (cne y c e)⟩
  ·obtain ⟨e,n,ne,nf,d⟩:=I.pin p hp
   exact ⟨(hs.2 p.1 ne).trans e,n,ne,nf,d⟩
 ·have hfn:X.fn x=true:=by
   rcases hf with z | z
   ·exact z
   ·rw [z] at hk;cases hk
  obtain ⟨c,hc⟩:=I.ok.has x (.inl hk)
  obtain ⟨w',z⟩:=I.cell x c hc
  refine wpAny_storeName_cell I.ok.kind hk hc z (fun h' hc' hs=>?_)
  obtain ⟨oc,hoc,hocd⟩:=id z
  refine h { s with heap:=h' } ⟨I.ok,I.os,I.bare,⟨fun b o e n hb hx=>?_,fun b o e n hb hx=>?_,I.base.free,fun b o e hx=>?_,I.base.tups,I.base.frzs,I.base.tbls⟩,⟨m,hn.sameBut hs (Ne.symm (cne x c hc)),fun j y v' e1 e2 e3=>?_⟩,fun y c' e=>?_,I.free,I.freeC,fun p hp=>?_,tracked ⟨oc,hoc,I.freeC x c hc⟩ hs,by simpa using I.len⟩ ⟨c,hs,.inr hc⟩
  ·exact (hs.2 b (bQ (bT (Heap.lt_size e) (I.ok.cab x c hfn hc)))).trans (I.base.keep b o e n hb hx)
  ·obtain ⟨sl,e1⟩:=I.base.slot b o e n hb hx
   exact ⟨sl,(hs.2 b (bQ (bT (Heap.lt_size e) (I.ok.cab x c hfn hc)))).trans e1⟩
  ·obtain ⟨o',e1⟩:=I.base.there b o e hx
   exact ⟨o',(hs.2 b (bQ (bT (Heap.lt_size e) (I.ok.cab x c hfn hc)))).trans e1⟩
  ·by_cases hj:j=i
   ·subst hj
    rw [hi] at e1;cases e1
    rw [dw hiσ] at e2
    cases e2
    exact ⟨u,r,.inr ⟨.inl hk,c,hc,hc'⟩⟩
   ·rw [bJ (Ne.symm hj)] at e2
    obtain ⟨u',r',q⟩:=hl j y v' e1 e2 e3
    refine ⟨u',r',?_⟩
    rcases q with q | ⟨k,c',e,z'⟩
    ·exact .inl q
    ·refine .inr ⟨k,c',e,z'.sameBut hs ?_⟩
     rintro rfl
     exact hj (A_ hN e1 (I.ok.inj _ _ _ e hc ▸ hi))
  ·by_cases hcc:c'=c
   ·subst hcc;exact ⟨_,hc'⟩
   ·obtain ⟨w2,z2⟩:=I.cell y c' e
    exact ⟨w2,z2.sameBut hs hcc⟩
  ·obtain ⟨e,n,ne,nf,d⟩:=I.pin p hp
   refine ⟨(hs.2 p.1 ?_).trans e,n,ne,nf,d⟩
   intro q
   rw [q,hoc] at e
   have q':oc=p.2:=cU.inj e
   exact d w' (by rw [← q'];exact hocd)
theorem Ba {M:Model} {A:Around} {E:Value→Shared→Prop} {i:Nat} {x:Str} {v:V} {u:Value} {Q:Unit→Shared→Prop} (I:Inv X pins σ H s) (hN:X.N.Nodup) (hi:X.N[i]? = some x) (hx:Loc X.env.scope x) (r:RelV v u)
 (h:∀ s',Inv X pins (σ.set i (some v)) H s'→Q () s') (hf:X.fn x=true∨X.env.scope.names.lookup x=some .local:=by first | exact .inl rfl | exact .inr rfl | assumption):wpAny M A (storeName X.env x u) Q E s :=
 yr I hN hi hx r (fun s' I' _=>h s' I') hf
end
abbrev XK:=Value→Option Addr→Hp→Prop
abbrev St:=List (Option V)
abbrev VK:=V→Hp→Prop
abbrev TE:=St→Hp→VK→Prop
abbrev TT:=St→Hp→(Bool→Hp→Prop)→Prop
abbrev TA:=St→Hp→(List V→Hp→Prop)→Prop
structure Ends where
 nx:St→Hp→Prop
 rt:VK
 bk:St→Hp→Prop:=fun _ _=>False
 ct:St→Hp→Prop:=fun _ _=>False
abbrev TS:=Ends→St→Hp→Prop
def EP (X:Cx) (pins:List (Addr × Obj)) (σ:St) (Q:VK) (u:Value) (s':Shared):Prop:=∃ v H',Inv X pins σ H' s'∧RelV v u∧Q v H'
def TP (X:Cx) (pins:List (Addr × Obj)) (σ:St) (Q:Bool→Hp→Prop) (b:Bool) (s':Shared):Prop:=∃ H',Inv X pins σ H' s'∧Q b H'
def AP (X:Cx) (pins:List (Addr × Obj)) (σ:St) (Q:List V→Hp→Prop) (us:List Value) (s':Shared):Prop:=∃ vs H',Inv X pins σ H' s'∧Vals vs us∧Q vs H'
def SP (X:Cx) (pins:List (Addr × Obj)) (D:Ends) (f:Flow) (s':Shared):Prop :=
 match f with
 | .next=>∃ σ' H',Inv X pins σ' H' s'∧D.nx σ' H'
 | .brk=>∃ σ' H',Inv X pins σ' H' s'∧D.bk σ' H'
 | .cont=>∃ σ' H',Inv X pins σ' H' s'∧D.ct σ' H'
 | .ret u=>∃ v σ' H',Inv X pins σ' H' s'∧RelV v u∧D.rt v H'
def PE (X:Cx) (e:Expr) (t:TE):Prop :=
 ∀ (pins:List (Addr × Obj)) (s:Shared) (σ:St) (H:Hp) (Q:VK),Inv X pins σ H s→t σ H Q→wpAny (model X.prog X.w) X.A (eval e X.env) (EP X pins σ Q) X.xe s
def PT (X:Cx) (e:Expr) (t:TT):Prop :=
 ∀ (pins:List (Addr × Obj)) (s:Shared) (σ:St) (H:Hp) (Q:Bool→Hp→Prop),Inv X pins σ H s→t σ H Q→wpAny (model X.prog X.w) X.A (isTrue e X.env (eval e X.env)) (TP X pins σ Q) X.xe s
def PW (X:Cx) (e:Expr) (t:TT):Prop :=
 ∀ (whole:Sem Value) (pins:List (Addr × Obj)) (s:Shared) (σ:St) (H:Hp) (Q:Bool→Hp→Prop),Inv X pins σ H s→t σ H Q→wpAny (model X.prog X.w) X.A (isTrue e X.env whole) (TP X pins σ Q) X.xe s
theorem PW.pt {X:Cx} {e:Expr} {t:TT} (h:PW X e t):PT X e t:=h _
def PA (X:Cx) (es:List Expr) (t:TA):Prop :=
 ∀ (pos:Pos) (pins:List (Addr × Obj)) (s:Shared) (σ:St) (H:Hp) (Q:List V→Hp→Prop),Inv X pins σ H s→t σ H Q→wpAny (model X.prog X.w) X.A (spliced (backTo pos (starEach es X.env))) (AP X pins σ Q) X.xe s
def PS (X:Cx) (st:Stmt) (t:TS):Prop :=
 ∀ (pins:List (Addr × Obj)) (s:Shared) (σ:St) (H:Hp) (D:Ends),Inv X pins σ H s→t D σ H→wpAny (model X.prog X.w) X.A (exec st X.env) (SP X pins D) X.xe s
def PSs (X:Cx) (st:List Stmt) (t:TS):Prop :=
 ∀ (pins:List (Addr × Obj)) (s:Shared) (σ:St) (H:Hp) (D:Ends),Inv X pins σ H s→t D σ H→wpAny (model X.prog X.w) X.A (execs st X.env) (SP X pins D) X.xe s
theorem thn {α:Type} {t:Sem α} {Q Q':α→Shared→Prop} {M:Model} {A:Around} {E:Value→Shared→Prop} {s:Shared} (h:wpAny M A t Q E s) (hQ:∀ a s,Q a s→Q' a s):wpAny M A t Q' E s:=wpAny_mono h hQ fun _ _ x=>x
end L2
namespace L2
open PySem PySem.Spec PyProof.Rows
section
variable {X:Cx}
def Xc (i:Nat):TE:=fun σ H Q=>∃ v,σ[i]? = some (some v)∧Q v H
def tC (v:V):TE:=fun _ H Q=>Q v H
theorem oh {i:Nat} {x:Str} {pos:Pos} (hN:X.N[i]? = some x) (hv:Vis X.env.scope x) (hd:(x == ("__debug__" : Str))=false:=by decide) (hcd:(x == ("__classdict__" : Str))=false:=by decide):PE X (.Name x pos) (Xc i):=by
 intro pins s σ H Q I h
 obtain ⟨v,e,h⟩:=h
 obtain ⟨m,hn,hl⟩:=I.loc
 obtain ⟨u,r,l⟩:=hl i x v hN e hv
 have fin:EP X pins σ Q u s:=⟨v,H,I,r,h⟩
 rcases l with ⟨hk,hm⟩ | ⟨hk,c,hc,hcell⟩
 ·exact wpAny_Name (wpAny_loadName_local I.ok.kind hk hn hm fin) hd
 ·rcases hk with hk | hk
  ·exact wpAny_Name (wpAny_loadName_cell I.ok.kind hk hc hcell fin) hd
  ·exact wpAny_Name (wpAny_loadName_free I.ok.kind hk hc hcell fin hcd) hd
theorem QW {i j pos}:PE X (.Constant (.int i) j pos) (tC (.int i)):=fun _ _ _ H _ I h=>wpAny_Constant_int ⟨.int i,H,I.tok _,⟨_,rfl⟩,h⟩
theorem Qj {b j pos}:PE X (.Constant (.bool b) j pos) (tC (.bl b)):=fun _ _ _ H _ I h=>Constant_bool ⟨.bl b,H,I,rfl,h⟩
theorem Je {j pos}:PE X (.Constant .none j pos) (tC .non):=fun _ _ _ H _ I h=>Constant_none ⟨.non,H,I,rfl,h⟩
theorem QX {x j pos}:PE X (.Constant (.str x) j pos) (tC (.str x)):=fun _ _ _ H _ I h=>Calls.Constant_str ⟨.str x,H,I.tok _,⟨_,rfl⟩,h⟩
def Gl (X:Cx) (x:Str):Prop:=X.env.kindOf x=some .globalImplicit
theorem Fp {E:Value→Shared→Prop} {pins:List (Addr × Obj)} {s:Shared} {σ:St} {H:Hp} {x:Str} {u:Value} {pos:Pos} {Q:Value→Shared→Prop} (I:Inv X pins σ H s) (hg:Gl X x) (hm:X.mg x=some u) (h:Q u s)
 (hd:(x == ("__debug__" : Str))=false:=by decide):wpAny (model X.prog X.w) X.A (eval (.Name x pos) X.env) Q E s :=
 Calls.Name_function_global I.ok.kind hg (Calls.loadGlobal_global (by rw [I.ok.glob];exact I.mod.glob.keeps I.bk) hm h) hd
theorem qb {E:Value→Shared→Prop} {pins:List (Addr × Obj)} {s:Shared} {σ:St} {H:Hp} {x:Str} {u:Value} {pos:Pos} {Q:Value→Shared→Prop} (I:Inv X pins σ H s) (hg:Gl X x) (hm:X.mg x=none) (hv:bootBuiltins x=some u) (h:Q u s)
 (hn:x ≠ "__name__" := by decide) (hd:(x == ("__debug__" : Str))=false:=by decide):wpAny (model X.prog X.w) X.A (eval (.Name x pos) X.env) Q E s:=by
 obtain ⟨mb,h1,h2⟩:=I.mod.blt
 exact Calls.Name_function_global I.ok.kind hg (Calls.loadGlobal_builtin (by rw [I.ok.glob];exact I.mod.glob.keeps I.bk) hm (by rw [I.ok.blt];exact h1.keeps I.bk) ((h2 x hn).trans hv) h) hd
theorem L_ {x:Str} {v:V} {u:Value} {pos:Pos} (hg:Gl X x) (hm:X.mg x=some u) (r:RelV v u) (hd:(x == ("__debug__" : Str))=false:=by decide):PE X (.Name x pos) (tC v) :=
 fun _ _ _ H _ I h=>Fp I hg hm ⟨v,H,I,r,h⟩ hd
theorem Ma {x:Str} {v:V} {u:Value} {pos:Pos} (hg:Gl X x) (hm:X.mg x=none) (hv:bootBuiltins x=some u) (r:RelV v u) (hn:x ≠ "__name__" := by decide) (hd:(x == ("__debug__" : Str))=false:=by decide):PE X (.Name x pos) (tC v) :=
 fun _ _ _ H _ I h=>qb I hg hm hv ⟨v,H,I,r,h⟩ hn hd
variable {a b:Expr} {ta tb:TE} {pos:Pos}
def PC (X:Cx) (op:CmpOp) (a b:Expr) (t:TE):Prop :=
 ∀ (pins:List (Addr × Obj)) (s:Shared) (σ:St) (H:Hp) (Q:VK),Inv X pins σ H s→t σ H Q →
  wpAny (model X.prog X.w) X.A (eval a X.env) (fun v s₁=>wpAny (model X.prog X.w) X.A (eval b X.env) (fun u s₂=>wpAny (model X.prog X.w) X.A (compareOp op v u) (EP X pins σ Q) X.xe s₂) X.xe s₁) X.xe s
theorem Bb (b:Expr) {op:CmpOp} (h:op ≠ .In) (h2:op ≠ .NotIn):behindInMarks op b=false:=by
 have e1:(op == CmpOp.In)=false:=by cases op <;> first | rfl | exact absurd rfl h
 have e2:(op == CmpOp.NotIn)=false:=by cases op <;> first | rfl | exact absurd rfl h2
 cases b <;> simp [behindInMarks,e1,e2]
def Xd (ta:TE):TE:=fun σ H Q=>ta σ H fun x H1=>Q (.bl (decide (x = .non))) H1
def UW (ta:TE):TE:=fun σ H Q=>ta σ H fun x H1=>Q (.bl (!decide (x = .non))) H1
theorem RelV.none_iff {x:V} {v:Value} (r:RelV x v):(v == Value.none)=decide (x = .non):=by
 cases x with
 | non=>cases r;rfl
 | bl _=>cases r;rfl
 | int _=>obtain ⟨t,rfl⟩:=r;rfl
 | str _=>obtain ⟨t,rfl⟩:=r;rfl
 | byt _=>obtain ⟨t,rfl⟩:=r;rfl
 | flt _=>obtain ⟨t,rfl⟩:=r;rfl
 | ref _=>cases r;rfl
 | ty _=>cases r;rfl
theorem Jf {j pos'} (ha:PE X a ta):PC X .Is a (.Constant .none j pos') (Xd ta):=by
 intro pins s σ H Q I h
 refine thn (ha pins s σ H _ I h) fun v s1 ⟨x,H1,I1,r1,q1⟩=>?_
 exact Constant_none (is_none_gen ⟨.bl _,H1,I1,by rw [r1.none_iff];rfl,q1⟩)
theorem Fq {j pos'} (ha:PE X a ta):PC X .IsNot a (.Constant .none j pos') (UW ta):=by
 intro pins s σ H Q I h
 refine thn (ha pins s σ H _ I h) fun v s1 ⟨x,H1,I1,r1,q1⟩=>?_
 exact Constant_none (isnot_none_gen ⟨.bl _,H1,I1,by rw [r1.none_iff];rfl,q1⟩)
def tB (t:TE):TT:=fun σ H Q=>t σ H fun x H1=>∃ c,x = .bl c∧Q c H1
theorem Jg {op:CmpOp} {t:TE} (h:PC X op a b t) (h1:behindInMarks op b=false:=by first | exact Bb _ (by decide) (by decide) | rfl):PE X (.Compare a [op] [b] pos) t:=fun pins s σ H Q I hw=>wpAny_Compare1 (h pins s σ H Q I hw) h1
theorem zj {op:CmpOp} {t:TE} (h:PC X op a b t) (h1:behindInMarks op b=false:=by first | exact Bb _ (by decide) (by decide) | rfl):PT X (.Compare a [op] [b] pos) (tB t):=by
 intro pins s σ H Q I hw
 refine wpAny_isTrue_Compare1 (thn (h pins s σ H _ I hw) fun v s1 h1=>thn h1 fun u s2 h2=>thn h2 fun c s3 ⟨x,H1,I1,r1,q1⟩=>?_) h1
 obtain ⟨d,rfl,q⟩:=q1
 cases r1
 exact wpAny_truthy_bool ⟨H1,I1,q⟩
theorem QZ {e:Expr} {t:TE} (h:PE X e t) (he:∀ whole,isTrue e X.env whole=(do let v ← whole;standAt e.pos;holding [v] (truthy v)):=by intro _;rfl):PT X e (tB t):=by
 intro pins s σ H Q I hw
 refine isTrue_plain (thn (h pins s σ H _ I hw) fun v s1 ⟨x,H1,I1,r1,q1⟩=>?_) (he _)
 obtain ⟨d,rfl,q⟩:=q1
 cases r1
 exact wpAny_truthy_bool ⟨H1,I1,q⟩
variable {tA tB':TT} {rest:List Expr}
def o9 (t u:TT):TT:=fun σ H Q=>t σ H fun c H1=>if c=true then u σ H1 Q else Q false H1
def tOr (t u:TT):TT:=fun σ H Q=>t σ H fun c H1=>if c=true then Q true H1 else u σ H1 Q
def oH (t:TT):TT:=fun σ H Q=>t σ H fun c H1=>Q (!c) H1
theorem Mf (ha:PT X a tA):PW X (.BoolOp .And [a] pos) tA:=by
 intro wh pins s σ H Q I h
 refine isTrue_and (thn (ha pins s σ H Q I h) fun c s1 e=>?_)
 cases c with
 | true=>exact isTrue_and_nil e
 | false=>exact e
theorem Q0 (ha:PT X a tA):PW X (.BoolOp .Or [a] pos) tA:=by
 intro wh pins s σ H Q I h
 refine isTrue_or (thn (ha pins s σ H Q I h) fun c s1 e=>?_)
 cases c with
 | false=>exact isTrue_or_nil e
 | true=>exact e
theorem Q5 (ha:PT X a tA) (hb:PW X (.BoolOp .And (b :: rest) pos) tB'):PW X (.BoolOp .And (a :: b :: rest) pos) (o9 tA tB'):=by
 intro wh pins s σ H Q I h
 refine isTrue_and (thn (ha pins s σ H _ I h) fun c s1 ⟨H1,I1,q1⟩=>?_)
 cases c with
 | true=>exact hb wh pins s1 σ H1 Q I1 q1
 | false=>exact ⟨H1,I1,q1⟩
theorem U0 (ha:PT X a tA) (hb:PW X (.BoolOp .Or (b :: rest) pos) tB'):PW X (.BoolOp .Or (a :: b :: rest) pos) (tOr tA tB'):=by
 intro wh pins s σ H Q I h
 refine isTrue_or (thn (ha pins s σ H _ I h) fun c s1 ⟨H1,I1,q1⟩=>?_)
 cases c with
 | true=>exact ⟨H1,I1,q1⟩
 | false=>exact hb wh pins s1 σ H1 Q I1 q1
theorem Q6 (ha:PT X a tA):PT X (.UnaryOp .Not a pos) (oH tA):=by
 intro pins s σ H Q I h
 exact isTrue_not (ha pins s σ H (fun c H1=>Q (!c) H1) I h)
def U3 (ta tb:TE):TE:=fun σ H Q=>ta σ H fun x H1=>∃ c,x = .bl c∧if c=true then tb σ H1 Q else Q (.bl false) H1
def U4 (ta:TE):TE:=fun σ H Q=>ta σ H fun x H1=>∃ c,x = .bl c∧Q (.bl (!c)) H1
theorem Q7 {op} {t:TE} (h:PE X a t):PE X (.BoolOp op [a] pos) t:=fun pins s σ H Q I hw=>BoolOp_one (h pins s σ H Q I hw)
theorem Q8 (ha:PE X a ta) (hb:PE X (.BoolOp .And (b :: rest) pos) tb):PE X (.BoolOp .And (a :: b :: rest) pos) (U3 ta tb):=by
 intro pins s σ H Q I h
 refine BoolOp_and (thn (ha pins s σ H _ I h) fun v s1 ⟨x,H1,I1,r1,q1⟩=>?_)
 obtain ⟨c,rfl,q1⟩:=q1
 cases r1
 refine wpAny_truthy_bool ?_
 cases c with
 | true=>exact hb pins s1 σ H1 Q I1 q1
 | false=>exact ⟨.bl false,H1,I1,rfl,q1⟩
theorem Q9 (ha:PE X a ta):PE X (.UnaryOp .Not a pos) (U4 ta):=by
 intro pins s σ H Q I h
 refine UnaryOp_ (thn (ha pins s σ H _ I h) fun v s1 ⟨x,H1,I1,r1,q1⟩=>?_)
 obtain ⟨c,rfl,q1⟩:=q1
 cases r1
 exact not_of (wpAny_truthy_bool ⟨.bl (!c),H1,I1,rfl,q1⟩)
end
end L2
namespace L2
open PySem PySem.Spec PyProof.Rows
def SqL (K:PySem.W.Frag) (H:Hp) (a:Addr) (xs:List V):Prop :=
 Rd H a (.lst xs) ∨
  ∃ (o:Obj) (its:Array Value) (n:Nat),K.lookup a=some o∧o.cls = .type "list" ∧ o.dict=none∧o.data = .seq its n∧its.size ≤ sizeLine∧Vals xs its.toList
def SqT (K:PySem.W.Frag) (H:Hp) (a:Addr) (xs:List V):Prop :=
 Rd H a (.tup xs) ∨
  ∃ (o:Obj) (its:Array Value) (n:Nat),K.lookup a=some o∧o.cls = .type "tuple" ∧ o.data = .seq its n∧its.size ≤ sizeLine∧Vals xs its.toList
def Xe:Value→Option V
 | .none=>some .non
 | .bool b=>some (.bl b)
 | .int i _=>some (.int i)
 | .str x _=>some (.str x)
 | .bytes b _=>some (.byt b)
 | .float b _=>some (.flt b)
 | .ref a=>some (.ref a)
 | .type n=>some (.ty n)
 | _=>none
theorem RelV.abs {x:V} {u:Value} (r:RelV x u):Xe u=some x:=by
 cases x with
 | non=>cases r;rfl
 | bl _=>cases r;rfl
 | int _=>obtain ⟨t,rfl⟩:=r;rfl
 | str _=>obtain ⟨t,rfl⟩:=r;rfl
 | byt _=>obtain ⟨t,rfl⟩:=r;rfl
 | flt _=>obtain ⟨t,rfl⟩:=r;rfl
 | ref _=>cases r;rfl
 | ty _=>cases r;rfl
theorem RelV.inj {x y:V} {u:Value} (r:RelV x u) (q:RelV y u):x=y:=cU.inj (r.abs.symm.trans q.abs)
theorem Vals.inj:∀ {xs ys:List V} {us:List Value},Vals xs us→Vals ys us→xs=ys
 | _,_,_,.nil,.nil=>rfl
 | _,_,_,.cons r t,.cons r' t'=>by rw [r.inj r',Vals.inj t t']
section
variable {X:Cx} {pins:List (Addr × Obj)} {σ:St} {H:Hp} {s:Shared} {a:Addr} {xs ys:List V}
theorem SqL.of {K:PySem.W.Frag} (h:H a=some (.lst xs)):SqL K H a xs:=.inl (.inl h)
theorem Inv.list (I:Inv X pins σ H s) (h:SqL X.K H a xs):∃ its:List Value,Vals xs its∧PlainL s.heap a its.toArray∧xs.length ≤ sizeLine:=by
 rcases h with h | ⟨o,its,n,hk,hc,hd,hs,hz,r⟩
 ·obtain ⟨z,its,n,r,e⟩:=h.ok I.hok
  exact ⟨its,r,⟨_,n,e,rfl,rfl,rfl⟩,z⟩
 ·refine ⟨its.toList,r,⟨o,n,I.kIn a o hk,hc,hd,by simpa using hs⟩,?_⟩
  have e:=r.length
  simp only [dF] at e
  omega
theorem Inv.tuple (I:Inv X pins σ H s) (h:SqT X.K H a xs):∃ its:List Value,Vals xs its∧IsTup s.heap a its.toArray∧xs.length ≤ sizeLine:=by
 rcases h with h | ⟨o,its,n,hk,hc,hs,hz,r⟩
 ·obtain ⟨z,its,r,p⟩:=h.ok I.hok
  exact ⟨its,r,p,z⟩
 ·refine ⟨its.toList,r,⟨o,I.kIn a o hk,hc,n,by simpa using hs⟩,?_⟩
  have e:=r.length
  simp only [dF] at e
  omega
theorem Inv.list_inj (I:Inv X pins σ H s) (h:SqL X.K H a xs) (h':SqL X.K H a ys):xs=ys:=by
 obtain ⟨its,r,⟨o,n,e,_,_,d⟩,_⟩:=I.list h
 obtain ⟨its',r',⟨o',n',e',_,_,d'⟩,_⟩:=I.list h'
 rw [e] at e';cases e'
 rw [d] at d'
 injection d' with d1 _
 have:its=its':=by simpa using congrArg Array.toList d1
 subst this
 exact r.inj r'
theorem Inv.tuple_inj (I:Inv X pins σ H s) (h:SqT X.K H a xs) (h':SqT X.K H a ys):xs=ys:=by
 obtain ⟨its,r,⟨o,e,_,n,d⟩,_⟩:=I.tuple h
 obtain ⟨its',r',⟨o',e',_,n',d'⟩,_⟩:=I.tuple h'
 rw [e] at e';cases e'
 rw [d] at d'
 injection d' with d1 _
 have:its=its':=by simpa using congrArg Array.toList d1
 subst this
 exact r.inj r'
end
abbrev Cx.wish (X:Cx) (E:Value→Shared→Prop):Cx:={ X with xe:=E }
abbrev Cx.nox (X:Cx):Cx:=X.wish fun _ _=>False
theorem Cx.Ok.wish {X:Cx} (ok:X.Ok) (E:Value→Shared→Prop):(X.wish E).Ok :=
 ⟨ok.mod,ok.kind,ok.glob,ok.blt,ok.above,ok.inj,ok.has,ok.cab,ok.hd,ok.frames,ok.stk,ok.exf,ok.bs,ok.bsz,ok.noex,ok.exfs,ok.funs,ok.frf⟩
theorem Cx.Ok.unwish {X:Cx} {E:Value→Shared→Prop} (ok:(X.wish E).Ok):X.Ok :=
 ⟨ok.mod,ok.kind,ok.glob,ok.blt,ok.above,ok.inj,ok.has,ok.cab,ok.hd,ok.frames,ok.stk,ok.exf,ok.bs,ok.bsz,ok.noex,ok.exfs,ok.funs,ok.frf⟩
section
variable {X:Cx} {pins:List (Addr × Obj)} {σ:St} {H:Hp} {s:Shared} {E:Value→Shared→Prop}
theorem Inv.wish (I:Inv X pins σ H s) (E:Value→Shared→Prop):Inv (X.wish E) pins σ H s:=⟨I.ok.wish E,I.os,I.bare,I.base,I.loc,I.cell,I.free,I.freeC,I.pin,I.hok,I.len⟩
theorem Inv.unwish (I:Inv (X.wish E) pins σ H s):Inv X pins σ H s:=⟨I.ok.unwish,I.os,I.bare,I.base,I.loc,I.cell,I.free,I.freeC,I.pin,I.hok,I.len⟩
theorem SP.unwish {D:Ends} {f:Flow} {s':Shared} (h:SP (X.wish E) pins D f s'):SP X pins D f s':=by
 cases f with
 | next=>obtain ⟨σ',H',I,q⟩:=h;exact ⟨σ',H',I.unwish,q⟩
 | brk=>obtain ⟨σ',H',I,q⟩:=h;exact ⟨σ',H',I.unwish,q⟩
 | cont=>obtain ⟨σ',H',I,q⟩:=h;exact ⟨σ',H',I.unwish,q⟩
 | ret u=>obtain ⟨v,σ',H',I,r,q⟩:=h;exact ⟨v,σ',H',I.unwish,r,q⟩
theorem PSs.nox {st:List Stmt} {t:TS} (h:PSs X.nox st t):PSs X st t:=fun pins s σ H D I hw =>
 wpAny_mono (h pins s σ H D (I.wish _) hw) (fun _ _ q=>q.unwish) fun _ _ z=>False.elim z
end
section
variable {X:Cx} {st:Stmt} {rest:List Stmt} {t u:TS} {e:Expr} {te:TE} {pos:Pos}
def U5:TS:=fun D σ H=>D.nx σ H
def Xf (t u:TS):TS:=fun D σ H=>t { D with nx:=u D } σ H
theorem Mg:PSs X [] U5:=fun _ _ σ H _ I h=>wpAny_execs_nil ⟨σ,H,I,h⟩
theorem Jh (h1:PS X st t) (h2:PSs X rest u):PSs X (st :: rest) (Xf t u):=by
 intro pins s σ H D I h
 refine wpAny_execs_cons (thn (h1 pins s σ H { D with nx:=u D } I h) fun f s1 q=>?_)
 cases f with
 | next =>
  obtain ⟨σ',H',I',q⟩:=q
  exact h2 pins s1 σ' H' D I' q
 | ret v=>exact q
 | brk=>exact q
 | cont=>exact q
theorem Mh (h1:PS X st t):PSs X [st] t:=by
 intro pins s σ H D I h
 refine wpAny_execs_cons (thn (h1 pins s σ H D I h) fun f s1 q=>?_)
 cases f with
 | next=>exact wpAny_execs_nil q
 | ret v=>exact q
 | brk=>exact q
 | cont=>exact q
theorem Inv.quiet {pins:List (Addr × Obj)} {σ:St} {H:Hp} {s:Shared} (I:Inv X pins σ H s):interactive X.env=false:=by simp [interactive,I.ok.kind]
def U6 (te:TE):TS:=fun D σ H=>te σ H fun _ H1=>D.nx σ H1
theorem vh (he:PE X e te) (hs:swapsWith e none pos.line X.env=pure false:=by rfl):PS X (.Expr e pos) (U6 te):=by
 intro pins s σ H D I h
 exact wpAny_Expr_any (thn (he pins s σ H _ I h) fun v s1 ⟨x,H1,I1,r1,q1⟩=>⟨σ,H1,I1,q1⟩) I.quiet hs
def Xh (te:TE):TS:=fun D σ H=>te σ H D.rt
theorem Q_ (he:PE X e te):PS X (.Return (some e) pos) (Xh te):=by
 intro pins s σ H D I h
 exact wpAny_Return_some (thn (he pins s σ H _ I h) fun v s1 ⟨x,H1,I1,r1,q1⟩=>⟨x,σ,H1,I1,r1,q1⟩)
def Xi (c:TT) (t u:TS):TS:=fun D σ H=>c σ H fun b H1=>if b=true then t D σ H1 else u D σ H1
theorem U7 {c:Expr} {a b:List Stmt} {tc:TT} (hc:PT X c tc) (ha:PSs X a t) (hb:PSs X b u):PS X (.If c a b pos) (Xi tc t u):=by
 intro pins s σ H D I h
 refine wpAny_If (thn (hc pins s σ H _ I h) fun d s1 ⟨H1,I1,q1⟩=>?_)
 cases d with
 | true=>exact ha pins s1 σ H1 D I1 q1
 | false=>exact hb pins s1 σ H1 D I1 q1
def Ra:TS:=fun _ _ _=>False
theorem Ji:PS X st Ra:=fun _ _ _ _ _ _ h=>h.elim
end
abbrev TG:=V→St→Hp→(St→Hp→Prop)→Prop
abbrev TGs:=List V→St→Hp→(St→Hp→Prop)→Prop
def PG (X:Cx) (target:Expr) (t:TG):Prop :=
 ∀ (pins:List (Addr × Obj)) (s:Shared) (σ:St) (H:Hp) (v:V) (u:Value) (Q:St→Hp→Prop),Inv X pins σ H s→RelV v u→t v σ H Q →
  wpAny (model X.prog X.w) X.A (assign target X.env u) (fun _ s'=>∃ σ' H',Inv X pins σ' H' s'∧Q σ' H') X.xe s
def PGs (X:Cx) (ts:List Expr) (t:TGs):Prop :=
 ∀ (pins:List (Addr × Obj)) (s:Shared) (σ:St) (H:Hp) (vs:List V) (us:List Value) (Q:St→Hp→Prop),Inv X pins σ H s→Vals vs us→t vs σ H Q →
  wpAny (model X.prog X.w) X.A (assignInOrder ((assignEach ts X.env).map (·.2)) us) (fun _ s'=>∃ σ' H',Inv X pins σ' H' s'∧Q σ' H') X.xe s
abbrev Rf:=V→V→V→Hp→(Hp→Prop)→Prop
def Rg (X:Cx) (t:Rf):Prop :=
 ∀ (pins:List (Addr × Obj)) (s:Shared) (σ:St) (H:Hp) (o i v:V) (ov iv u:Value) (Q:Hp→Prop),Inv X pins σ H s→RelV o ov→RelV i iv→RelV v u→t o i v H Q →
  wpAny (model X.prog X.w) X.A (setItem ov iv u) (fun _ s'=>∃ H',Inv X pins σ H' s'∧Q H') X.xe s
section
variable {X:Cx} {pos:Pos}
def Jj (i:Nat):TG:=fun v σ H Q=>Q (σ.set i (some v)) H
theorem Mi {i:Nat} {x:Str} (hN:X.N.Nodup) (hi:X.N[i]? = some x) (hx:Loc X.env.scope x) (hf:X.fn x=true∨X.env.scope.names.lookup x=some .local:=by first | exact .inl rfl | exact .inr rfl | assumption):PG X (.Name x pos) (Jj i):=by
 intro pins s σ H v u Q I r h
 exact wpAny_assign_Name (Ba I hN hi hx r (fun s' I'=>⟨_,H,I',h⟩) hf)
def Xj:TGs:=fun vs σ H Q=>vs=[]∧Q σ H
def U8 (t:TG) (u:TGs):TGs:=fun vs σ H Q=>∃ v r,vs=v :: r∧t v σ H fun σ' H'=>u r σ' H' Q
theorem Mj:PGs X [] Xj:=by
 intro pins s σ H vs us Q I r h
 obtain ⟨e,h⟩:=h
 subst e
 cases r
 exact assignInOrder_nil ⟨σ,H,I,h⟩
theorem Jk {e:Expr} {es:List Expr} {t:TG} {u:TGs} (h1:PG X e t) (h2:PGs X es u)
 (hs:(assignEach (e :: es) X.env).map (·.2)=assign e X.env :: (assignEach es X.env).map (·.2):=by rfl):PGs X (e :: es) (U8 t u):=by
 intro pins s σ H vs us Q I r h
 obtain ⟨v,vr,e1,h⟩:=h
 subst e1
 cases r with
 | cons r rr =>
  rw [hs]
  refine assignInOrder_cons (thn (h1 pins s σ H _ _ _ I r h) fun _ s1 ⟨σ1,H1,I1,q1⟩=>?_)
  exact h2 pins s1 σ1 H1 _ _ Q I1 rr q1
def Xk (K:PySem.W.Frag) (n:Nat) (t:TGs):TG:=fun v σ H Q=>∃ a xs,v = .ref a∧SqT K H a xs∧xs.length=n∧t xs σ H Q
theorem Rh {es:List Expr} {k:Nat} {t:TGs} {n:Nat} (hc:X.calm=true) (h:PGs X es t)
 (hn:(assignEach es X.env).length=n:=by rfl) (hst:(assignEach es X.env).findIdx? (·.1)=none:=by rfl):PG X (.Tuple es k pos) (Xk X.K n t):=by
 intro pins s σ H v u Q I r hw
 obtain ⟨a,xs,e1,hq,hl,hw⟩:=hw
 subst e1
 cases r
 obtain ⟨its,rv,ht,hz⟩:=I.tuple hq
 refine assign_Tuple_tuple (I.ok.hd hc) ht (by simp [hn,← hl,rv.length]) hst fun h' hx=>?_
 have I1:Inv X pins σ H { s with heap:=h' }:=I.kept (t':=s.toks) fun b o e=>hx b o (bQ (Heap.lt_size e)) e
 exact h pins _ σ H xs _ Q I1 (by simpa using rv) hw
def Bc (to ti:TE) (t:Rf):TG:=fun v σ H Q=>to σ H fun o H1=>ti σ H1 fun i H2=>t o i v H2 fun H3=>Q σ H3
theorem Jl {o i:Expr} {to ti:TE} {t:Rf} (ho:PE X o to) (hi:PE X i ti) (hs:Rg X t)
 (ha:∀ v,assign (.Subscript o i pos) X.env v=(do
  let ov ← holding [v] (eval o X.env)
  let iv ← holding [v,ov] (eval i X.env)
  standAt pos
  holding [v,ov,iv] (setItem ov iv v)
  release [v,ov,iv] []):=by intro _;rfl):PG X (.Subscript o i pos) (Bc to ti t):=by
 intro pins s σ H v u Q I r h
 rw [ha]
 refine wpAny_bind (wpAny_holding (thn (ho pins s σ H _ I h) fun ov s1 ⟨x,H1,I1,r1,q1⟩=>?_))
 refine wpAny_bind (wpAny_holding (thn (hi pins s1 σ H1 _ I1 q1) fun iv s2 ⟨y,H2,I2,r2,q2⟩=>?_))
 refine wpAny_bind (wpAny_standAt (wpAny_bind (wpAny_holding (thn (hs pins s2 σ H2 x y v ov iv u _ I2 r1 r2 r q2) fun _ s3 ⟨H3,I3,q3⟩=>?_))))
 exact wpAny_release ⟨σ,H3,I3,q3⟩
def Ri (te:TE) (g:TG):TS:=fun D σ H=>te σ H fun x H1=>g x σ H1 D.nx
theorem Jm {tg e:Expr} {te:TE} {g:TG} (he:PE X e te) (hg:PG X tg g) (hs:swapsWithSole [tg] e pos.line X.env=pure false:=by rfl) (hw:swappedStores [tg] e X.env=pure none:=by rfl)
 (h1:(assignEach [tg] X.env).map (·.2)=[assign tg X.env]:=by rfl):PS X (.Assign [tg] e pos) (Ri te g):=by
 intro pins s σ H D I h
 refine wpAny_Assign_stores (thn (he pins s σ H _ I h) fun v s1 ⟨x,H1,I1,r1,q1⟩=>?_) hs hw
 rw [h1]
 exact thn (hg pins s1 σ H1 x v _ I1 r1 q1) fun _ s2 q=>q
theorem C_ {i:Nat} {x:Str} {e:Expr} {te:TE} {pos':Pos} (hN:X.N.Nodup) (hi:X.N[i]? = some x) (hx:Loc X.env.scope x) (he:PE X e te) (hs:swapsWith e (some (.Name x pos')) pos.line X.env=pure false:=by rfl) (hf:X.fn x=true∨X.env.scope.names.lookup x=some .local:=by first | exact .inl rfl | exact .inr rfl | assumption) :
 PS X (.Assign [.Name x pos'] e pos) (Ri te (Jj i)):=by
 intro pins s σ H D I h
 refine wpAny_Assign_Name (thn (he pins s σ H _ I h) fun v s1 ⟨y,H1,I1,r1,q1⟩=>?_) hs
 exact Ba I1 hN hi hx r1 (fun s2 I2=>⟨_,H1,I2,q1⟩) hf
end
section
variable {X:Cx} {pos:Pos}
def Rj (c:TT) (tb:TS):TS:=fun D σ H=>∃ W:Nat→St→Hp→Prop,(∃ m,W m σ H)∧∀ m σ H,W m σ H →
 c σ H fun b H1=>if b=true then ∃ N:St→Hp→Prop,(∀ σ' H',N σ' H'→∃ m',m' < m∧W m' σ' H')∧tb { D with nx:=N,ct:=N,bk:=D.nx } σ H1 else D.nx σ H1
theorem Jo {c:Expr} {body:List Stmt} {tc:TT} {tb:TS} (hp:PassesOwn (model X.prog X.w) X.A X.env X.xe) (hc:PT X c tc) (hb:PSs X body tb):PS X (.While c body [] pos) (Rj tc tb):=by
 intro pins s σ H D I h
 obtain ⟨W,⟨m0,w0⟩,turn⟩:=h
 refine wpAny_While (codeAny_whileLoop (fun n s'=>∃ σ' H',Inv X pins σ' H' s'∧W n σ' H') ?_ m0 ⟨σ,H,I,w0⟩)
 rintro n s1 ⟨σ1,H1,I1,w1⟩
 refine wpAny_passesOwn hp (thn (hc pins s1 σ1 H1 _ I1 (turn n σ1 H1 w1)) fun b s2 ⟨H2,I2,q2⟩=>?_)
 cases b with
 | true =>
  obtain ⟨N,hN,q2⟩:=q2
  rw [if_pos rfl]
  refine wpAny_passesOwn hp (thn (hb pins s2 σ1 H2 _ I2 q2) fun f s3 q3=>?_)
  cases f with
  | next =>
   obtain ⟨σ3,H3,I3,n3⟩:=q3
   obtain ⟨m',hm,w3⟩:=hN σ3 H3 n3
   exact ⟨m',hm,σ3,H3,I3,w3⟩
  | cont =>
   obtain ⟨σ3,H3,I3,n3⟩:=q3
   obtain ⟨m',hm,w3⟩:=hN σ3 H3 n3
   exact ⟨m',hm,σ3,H3,I3,w3⟩
  | brk=>exact q3
  | ret v=>exact q3
 | false =>
  rw [if_neg dB]
  exact wpAny_execs_nil ⟨σ1,H2,I2,q2⟩
end
structure It where
 go:Nat→Hp→Prop
 yld:Nat→Hp→V→Hp→Prop
 stop:Nat→Hp→Prop
def ug (X:Cx) (pins:List (Addr × Obj)) (H:Hp) (b:Addr):Prop :=
 H b=none∧b ≠ X.env.locals∧b ∉ X.fs∧(b ∈ X.ex∨X.s₀.heap.objs.size ≤ b)∧(∀ x c,X.env.cells.lookup x=some c→c ≠ b)∧∀ p ∈ X.pn++pins,p.1 ≠ b
theorem Inv.fpOk {X:Cx} {pins:List (Addr × Obj)} {σ:St} {H H':Hp} {s:Shared} {b:Addr} (I:Inv X pins σ H s) (hb:s.heap.objs.size ≤ b) (hn:H' b=none):ug X pins H' b:=by
 refine ⟨hn,Nat.ne_of_gt (bT I.lt hb),I.nofs hb,.inr (bV I.sz hb),fun x c e z=>?_,fun p hp z=>?_⟩
 ·obtain ⟨v,q⟩:=I.cell x c e
  exact absurd (bT q.lt (by rw [z];exact hb)) (gM _)
 ·exact absurd (bT (Heap.lt_size (I.pin p hp).1) (by rw [z];exact hb)) (gM _)
structure Turn (P:Program) (w:World) (K:PySem.W.Frag) (tg:Expr) (J:It) (fp:List Addr) (it:Addr) (tn:Nat→Heap→Prop):Prop where
 mem:it ∈ fp
 obj:∀ i h,tn i h→∀ b ∈ fp,∃ o,h.get? b=some o∧∀ v,o.data ≠ .cell v
 keep:∀ i h h',tn i h→(∀ b ∈ fp,∀ o,h.get? b=some o→h'.get? b=some o)→tn i h'
 item:∀ (X:Cx),X.prog=P→X.w=w→X.K=K→X.calm=true→∀ (i:Nat) (pins:List (Addr × Obj)) (s:Shared) (σ:St) (H:Hp) (E:Value→Shared→Prop),Inv X pins σ H s→(∀ b ∈ fp,ug X pins H b)→tn i s.heap→J.go i H →
  wpAny (model P w) X.A (pyNext (.ref it)) (fun r s1=>∃ u,r=some u ∧
   wpAny (model P w) X.A (letOwnedTupleGo tg (.ref it) u) (fun _ s2=>∃ x H',Inv X pins σ H' s2∧RelV x u∧J.yld i H x H'∧tn (i + 1) s2.heap∧∀ b ∈ fp,H' b=none) E s1) E s
 done:∀ (X:Cx),X.prog=P→X.w=w→X.K=K→X.calm=true→∀ (i:Nat) (pins:List (Addr × Obj)) (s:Shared) (σ:St) (H:Hp) (E:Value→Shared→Prop),Inv X pins σ H s→(∀ b ∈ fp,ug X pins H b)→tn i s.heap→J.stop i H →
  wpAny (model P w) X.A (pyNext (.ref it)) (fun r s1=>r=none∧Inv X pins σ H s1) E s
 self:∀ (A:Around) (i:Nat) (s:Shared) (Q:Value→Shared→Prop) (E:Value→Shared→Prop),tn i s.heap→Q (.ref it) s→wpAny (model P w) A (pyIter (.ref it)) Q E s
abbrev TI:=St→Hp→(It→Hp→Prop)→Prop
def PIE (X:Cx) (pins:List (Addr × Obj)) (σ:St) (tg:Expr) (R:It→Hp→Prop) (itv:Value) (s2:Shared):Prop :=
 ∃ (it:Addr) (fp:List Addr) (tn:Nat→Heap→Prop) (J:It) (H':Hp),itv = .ref it∧Inv X pins σ H' s2∧Turn X.prog X.w X.K tg J fp it tn∧tn 0 s2.heap∧(∀ b ∈ fp,ug X pins H' b)∧R J H'
def PI (X:Cx) (tg iter:Expr) (wi:TI):Prop :=
 ∀ (pins:List (Addr × Obj)) (s:Shared) (σ:St) (H:Hp) (R:It→Hp→Prop),Inv X pins σ H s→wi σ H R →
  wpAny (model X.prog X.w) X.A (eval iter X.env) (fun v s1=>wpAny (model X.prog X.w) X.A (pyIter v) (PIE X pins σ tg R) X.xe s1) X.xe s
theorem Jp {M:Model} {A:Around} {E:Value→Shared→Prop} {s:Shared} {tg:Expr} {it:Addr} {u:Value} {o:Obj} {n:String} {vs:Array Value} {Q:Unit→Shared→Prop} (ho:s.heap.get? it=some o) (hc:o.cls = .type n) (hd:o.data = .fields vs)
 (hn:["enumerate", "zip", "dict_itemiterator", "dict_reverseitemiterator", "odict_iterator", "itertools.zip_longest", "itertools.pairwise"].contains n=false) (hQ:Q () s):wpAny M A (letOwnedTupleGo tg (.ref it) u) Q E s:=by
 unfold letOwnedTupleGo
 cases tg <;> first
  | exact wpAny_pure hQ
  | (cases u <;> first
   | exact wpAny_pure hQ
   | (refine wpAny_bind (wpAny_load ho ?_)
      rw [hc,hd]
      show wpAny M A (if (["enumerate", "zip", "dict_itemiterator", "dict_reverseitemiterator", "odict_iterator", "itertools.zip_longest", "itertools.pairwise"].contains n && vs[0]? == some (rawInt _))=true then _ else _) Q E s
      rw [if_neg (by intro h;rw [hn,gW] at h;cases h)]
      exact wpAny_pure hQ))
def Itl (K:PySem.W.Frag) (a:Addr):It :=
 ⟨fun i H=>∃ xs x,SqL K H a xs∧xs[i]? = some x,fun i H x H'=>H'=H∧∀ xs,SqL K H a xs→xs[i]? = some x,fun i H=>∃ xs,SqL K H a xs∧xs.length ≤ i⟩
def Itt (K:PySem.W.Frag) (a:Addr):It :=
 ⟨fun i H=>∃ xs x,SqT K H a xs∧xs[i]? = some x,fun i H x H'=>H'=H∧∀ xs,SqT K H a xs→xs[i]? = some x,fun i H=>∃ xs,SqT K H a xs∧xs.length ≤ i⟩
def Itr (lo:Int) (n:Nat):It:=⟨fun i _=>i < n,fun i H x H'=>H'=H∧x = .int (lo + i),fun i _=>n ≤ i⟩
theorem G4 {P:Program} {w:World} {K:PySem.W.Frag} {tg:Expr} (a it:Addr):Turn P w K tg (Itl K a) [it] it (fun i h=>h.IsListIter it a i) where
 mem:=by simp
 obj:=fun i h st b hb=>by
  have e:b=it:=by simpa using hb
  subst e
  obtain ⟨o,e,c,d⟩:=st
  exact ⟨o,e,fun v z=>by rw [d] at z;cases z⟩
 keep:=fun i h h' st k=>st.at fun o e=>k it (by simp) o e
 item:=by
  intro X hP hw hK hc i pins s σ H E I hf st hg
  subst hP hw hK
  obtain ⟨xs,x,hq,hx⟩:=hg
  obtain ⟨its,rv,p,hz⟩:=I.list hq
  obtain ⟨u,hu,ru⟩:=rv.get hx
  obtain ⟨f0,f1,f2,f3,f4,f5⟩:=hf it (by simp)
  refine wpAny_pyNext_list_item st p.isList (x:=u) (by simpa using hu) fun h' st' sb=>?_
  have I1:Inv X pins σ H { s with heap:=h' }:=I.turned (t':=s.toks) (fun b o hb e=>(sb.2 b hb).trans e) f0 f1 f3 f4 f5
  obtain ⟨o,e,c,d⟩:=id st'
  exact ⟨u,rfl,Jp (s:={ s with heap:=h' }) e c d (by decide) ⟨x,H,I1,ru,⟨rfl,fun ys hy=>by rw [I.list_inj hy hq];exact hx⟩,st',fun b hb=>(hf b hb).1⟩⟩
 done:=by
  intro X hP hw hK hc i pins s σ H E I hf st hg
  subst hP hw hK
  obtain ⟨xs,hq,hx⟩:=hg
  obtain ⟨its,rv,p,hz⟩:=I.list hq
  obtain ⟨f0,f1,f2,f3,f4,f5⟩:=hf it (by simp)
  have hl:=rv.length
  exact wpAny_pyNext_list_end (I.ok.hd hc) st p.isList (by simp;omega) fun h' eb=>⟨rfl,I.turned (t':=s.toks) (fun b o hb e=>eb b o hb e) f0 f1 f3 f4 f5⟩
 self:=fun _ _ _ _ _ st h=>wpAny_pyIter_listiter st h
theorem Dc {P:Program} {w:World} {K:PySem.W.Frag} {tg:Expr} (a it:Addr):Turn P w K tg (Itt K a) [it] it (fun i h=>h.IsTupleIter it a i) where
 mem:=by simp
 obj:=fun i h st b hb=>by
  have e:b=it:=by simpa using hb
  subst e
  obtain ⟨o,e,c,d⟩:=st
  exact ⟨o,e,fun v z=>by rw [d] at z;cases z⟩
 keep:=fun i h h' st k=>st.at fun o e=>k it (by simp) o e
 item:=by
  intro X hP hw hK hc i pins s σ H E I hf st hg
  subst hP hw hK
  obtain ⟨xs,x,hq,hx⟩:=hg
  obtain ⟨its,rv,p,hz⟩:=I.tuple hq
  obtain ⟨u,hu,ru⟩:=rv.get hx
  obtain ⟨f0,f1,f2,f3,f4,f5⟩:=hf it (by simp)
  refine wpAny_pyNext_tuple_item st (show s.heap.IsTuple a its.toArray from p) (x:=u) (by simpa using hu) fun h' st' sb=>?_
  have I1:Inv X pins σ H { s with heap:=h' }:=I.turned (t':=s.toks) (fun b o hb e=>(sb.2 b hb).trans e) f0 f1 f3 f4 f5
  obtain ⟨o,e,c,d⟩:=id st'
  exact ⟨u,rfl,Jp (s:={ s with heap:=h' }) e c d (by decide) ⟨x,H,I1,ru,⟨rfl,fun ys hy=>by rw [I.tuple_inj hy hq];exact hx⟩,st',fun b hb=>(hf b hb).1⟩⟩
 done:=by
  intro X hP hw hK hc i pins s σ H E I hf st hg
  subst hP hw hK
  obtain ⟨xs,hq,hx⟩:=hg
  obtain ⟨its,rv,p,hz⟩:=I.tuple hq
  obtain ⟨f0,f1,f2,f3,f4,f5⟩:=hf it (by simp)
  have hl:=rv.length
  exact wpAny_pyNext_tuple_end (I.ok.hd hc) st (show s.heap.IsTuple a its.toArray from p) (by simp;omega) fun h' eb=>⟨rfl,I.turned (t':=s.toks) (fun b o hb e=>eb b o hb e) f0 f1 f3 f4 f5⟩
 self:=fun _ _ _ _ _ st h=>wpAny_pyIter_tupleiter st h
theorem Dh {P:Program} {w:World} {K:PySem.W.Frag} {tg:Expr} (it:Addr) (lo:Int) (n:Nat):Turn P w K tg (Itr lo n) [it] it (fun i h=>IsRangeIter h it (lo + (i:Nat) * 1) ((n:Int) - (i:Nat)) 1) where
 mem:=by simp
 obj:=fun i h st b hb=>by
  have e:b=it:=by simpa using hb
  subst e
  exact ⟨_,st,fun v z=>by
   have z':Data.fields _=Data.cell v:=z
   cases z'⟩
 keep:=fun i h h' st k=>k it (by simp) _ st
 item:=by
  intro X hP hw hK hc i pins s σ H E I hf st hg
  subst hP hw hK
  obtain ⟨f0,f1,f2,f3,f4,f5⟩:=hf it (by simp)
  have W:=Walks.range (prog:=X.prog) (w:=X.w) (I.ok.hd hc) it lo 1 n
  refine W.item i s _ _ hg st fun v h' tk hv st' kk=>?_
  obtain ⟨t,rfl⟩:=hv
  have I1:Inv X pins σ H { s with heap:=h',toks:=tk }:=I.turned (fun b o hb e=>kk b o (by simpa using hb) e) f0 f1 f3 f4 f5
  refine ⟨_,rfl,Jp (s:={ s with heap:=h',toks:=tk }) (n := "range_iterator") st' rfl rfl (by decide) ⟨.int (lo + i),H,I1,⟨t,?_⟩,⟨rfl,rfl⟩,st',fun b hb=>(hf b hb).1⟩⟩
  rw [Int.mul_one]
 done:=by
  intro X hP hw hK hc i pins s σ H E I hf st hg
  subst hP hw hK
  obtain ⟨f0,f1,f2,f3,f4,f5⟩:=hf it (by simp)
  exact wpAny_pyNext_range_end (I.ok.hd hc) st (by have:n ≤ i:=hg;omega) fun h' eb=>⟨rfl,I.turned (t':=s.toks) (fun b o hb e=>eb b o hb e) f0 f1 f3 f4 f5⟩
 self:=fun _ _ _ _ _ st h=>wpAny_pyIter_rangeiter st h
end L2
namespace L2
open PySem PySem.Spec PyProof.Rows
section
variable {X:Cx} {tg:Expr}
def U9 (K:PySem.W.Frag) (tl:TE):TI:=fun σ H R=>tl σ H fun x H1=>∃ a,x = .ref a∧(∃ xs,SqL K H1 a xs)∧R (Itl K a) H1
def Xl (K:PySem.W.Frag) (tl:TE):TI:=fun σ H R=>tl σ H fun x H1=>∃ a,x = .ref a∧(∃ xs,SqT K H1 a xs)∧R (Itt K a) H1
theorem Ft {l:Expr} {tl:TE} (hl:PE X l tl):PI X tg l (U9 X.K tl):=by
 intro pins s σ H R I h
 refine thn (hl pins s σ H _ I h) fun v s1 ⟨x,H1,I1,r1,q1⟩=>?_
 obtain ⟨a,e,⟨xs,hq⟩,q⟩:=q1
 subst e
 cases r1
 obtain ⟨its,rv,p,hz⟩:=I1.list hq
 refine wpAny_pyIter_list p.isList ?_
 refine ⟨s1.heap.objs.size,[s1.heap.objs.size],_,_,H1,rfl,I1.kept (t':=s1.toks) fun b o e=>Heap.get?_push_of_some _ e,G4 a _,⟨_,Heap.get?_push_size _ rfl,rfl,rfl⟩,fun b hb=>?_,q⟩
 have e:b=s1.heap.objs.size:=by simpa using hb
 subst e
 exact I1.fpOk (bh _) (I1.hok.fresh (bh _))
theorem Rm {l:Expr} {tl:TE} (hl:PE X l tl):PI X tg l (Xl X.K tl):=by
 intro pins s σ H R I h
 refine thn (hl pins s σ H _ I h) fun v s1 ⟨x,H1,I1,r1,q1⟩=>?_
 obtain ⟨a,e,⟨xs,hq⟩,q⟩:=q1
 subst e
 cases r1
 obtain ⟨its,rv,p,hz⟩:=I1.tuple hq
 refine wpAny_pyIter_tuple (show s1.heap.IsTuple a its.toArray from p) ?_
 refine ⟨s1.heap.objs.size,[s1.heap.objs.size],_,_,H1,rfl,I1.kept (t':=s1.toks) fun b o e=>Heap.get?_push_of_some _ e,Dc a _,⟨_,Heap.get?_push_size _ rfl,rfl,rfl⟩,fun b hb=>?_,q⟩
 have e:b=s1.heap.objs.size:=by simpa using hb
 subst e
 exact I1.fpOk (bh _) (I1.hok.fresh (bh _))
theorem Bd {pins:List (Addr × Obj)} {σ:St} {H:Hp} {s:Shared} {R:It→Hp→Prop} {E:Value→Shared→Prop} {lo hi:Int} {t u v:Tok} {tk:Nat} (I:Inv X pins σ H s) (h1 : -(2 ^ 62) ≤ lo) (h2:lo < 2 ^ 62) (h3 : -(2 ^ 62) ≤ hi) (h4:hi < 2 ^ 62)
 (q:R (Itr lo (hi - lo).toNat) H):wpAny (model X.prog X.w) X.A (pyIter (.ref s.heap.objs.size)) (PIE X pins σ tg R) E { s with heap:=s.heap.push { cls:=.type "range", data:=.fields #[.int lo t,.int hi u,.int 1 v] },toks:=tk }:=by
 refine wpAny_pyIter_range (IsRange.new ..) (small_one h1 h2 h3 h4) ?_
 have I1:Inv X pins σ H { s with heap:=s.heap.push { cls:=.type "range", data:=.fields #[.int lo t,.int hi u,.int 1 v] },toks:=tk }:=I.kept fun b o e=>Heap.get?_push_of_some _ e
 refine ⟨(s.heap.push { cls:=.type "range", data:=.fields #[.int lo t,.int hi u,.int 1 v] }).objs.size,[(s.heap.push { cls:=.type "range", data:=.fields #[.int lo t,.int hi u,.int 1 v] }).objs.size],_,_,H,rfl,
  I1.kept (t':=tk) fun b o e=>Heap.get?_push_of_some _ e,Dh _ lo (hi - lo).toNat,?_,fun b hb=>?_,q⟩
 ·have e1:lo + ((0:Nat):Int) * 1=lo:=by simp
  have e2:(((hi - lo).toNat:Nat):Int) - ((0:Nat):Int)=Builtin.Range.rangeSize lo hi 1:=by rw [rangeSize_one];split <;> omega
  show IsRangeIter _ _ (lo + ((0:Nat):Int) * 1) ((((hi - lo).toNat:Nat):Int) - ((0:Nat):Int)) 1
  rw [e1,e2]
  exact Heap.get?_push_size _ rfl
 ·have e:b=(s.heap.push { cls:=.type "range", data:=.fields #[.int lo t,.int hi u,.int 1 v] }).objs.size:=by simpa using hb
  subst e
  exact I1.fpOk (bh _) (I1.hok.fresh (bh _))
def U_ (ta:TA):TI:=fun σ H R=>ta σ H fun vs H1=>∃ j:Int,vs=[.int j]∧-(2 ^ 62) ≤ j∧j < 2 ^ 62∧R (Itr 0 j.toNat) H1
def Va (ta:TA):TI:=fun σ H R=>ta σ H fun vs H1=>∃ i j:Int,vs=[.int i,.int j]∧(-(2 ^ 62) ≤ i∧i < 2 ^ 62∧-(2 ^ 62) ≤ j∧j < 2 ^ 62)∧R (Itr i (j - i).toNat) H1
theorem G5 {a:Expr} {ta:TA} {p pos:Pos} (hg:Gl X "range") (hm:X.mg "range" = none) (ha:PA X [a] ta) (hs:starEach [a] X.env=[(false,eval a X.env)]:=by rfl):PI X tg (.Call (.Name "range" p) [a] [] pos) (U_ ta):=by
 intro pins s σ H R I h
 refine Call_ (qb I hg hm boot_range (PyProof.Rows.callWith_type1 (thn (ha pos pins s σ H _ I h) fun us s1 ⟨vs,H1,I1,r1,q1⟩=>?_) hs rfl))
 obtain ⟨j,e,q1,q2,q⟩:=q1
 subst e
 cases r1 with
 | cons r rr =>
  cases rr
  obtain ⟨t,rfl⟩:=r
  exact call_range_1 (Bd I1 (by omega) (by omega) q1 q2 (by simpa using q))
theorem G6 {a b:Expr} {ta:TA} {p pos:Pos} (hg:Gl X "range") (hm:X.mg "range" = none) (ha:PA X [a,b] ta) (hs:starEach [a,b] X.env=[(false,eval a X.env),(false,eval b X.env)]:=by rfl) (hs2:starEach [b] X.env=[(false,eval b X.env)]:=by rfl) :
 PI X tg (.Call (.Name "range" p) [a,b] [] pos) (Va ta):=by
 intro pins s σ H R I h
 refine Call_ (qb I hg hm boot_range (PyProof.Rows.callWith_type1 (thn (ha pos pins s σ H _ I h) fun us s1 ⟨vs,H1,I1,r1,q1⟩=>?_) (by rw [hs,hs2]) (by rw [hs2];rfl)))
 obtain ⟨i,j,e,⟨q1,q2,q3,q4⟩,q⟩:=q1
 subst e
 cases r1 with
 | cons r rr =>
  cases rr with
  | cons r' rr =>
   cases rr
   obtain ⟨t,rfl⟩:=r
   obtain ⟨t',rfl⟩:=r'
   exact call_range_2 (Bd I1 q1 q2 q3 q4 q)
def Xm (wi:TI) (g:TG) (tb:TS):TS:=fun D σ H=>wi σ H fun J H1=>∃ W:Nat→Nat→St→Hp→Prop,(∃ m,W 0 m σ H1)∧∀ i m σ H,W i m σ H →
 (J.stop i H∧D.nx σ H)∨(J.go i H∧∃ N:St→Hp→Prop,(∀ σ' H',N σ' H'→∃ m',m' < m∧W (i + 1) m' σ' H')∧∀ x H',J.yld i H x H'→g x σ H' fun σ2 H2=>tb { D with nx:=N,ct:=N,bk:=D.nx } σ2 H2)
def vO (fp:List Addr) (h:Heap):List (Addr × Obj):=fp.filterMap fun b=>(h.get? b).map fun o=>(b,o)
theorem o_ {fp:List Addr} {h:Heap} {b:Addr} {o:Obj} (hb:b ∈ fp) (e:h.get? b=some o):(b,o) ∈ vO fp h:=fK.mpr ⟨b,hb,by rw [e];rfl⟩
theorem G7 {fp:List Addr} {h:Heap} {p:Addr × Obj} (hp:p ∈ vO fp h):p.1 ∈ fp∧h.get? p.1=some p.2:=by
 obtain ⟨b,hb,e⟩:=fK.mp hp
 cases q:h.get? b with
 | none=>rw [q] at e;cases e
 | some o =>
  rw [q] at e
  have e':(b,o)=p:=cU.inj e
  subst e'
  exact ⟨hb,q⟩
theorem Inv.pinned {pins:List (Addr × Obj)} {σ:St} {H:Hp} {s:Shared} {fp:List Addr} (I:Inv X pins σ H s) (hf:∀ b ∈ fp,ug X pins H b) (ho:∀ b ∈ fp,∃ o,s.heap.get? b=some o∧∀ v,o.data ≠ .cell v):Inv X (pins++vO fp s.heap) σ H s :=
 I.pins_of fun p hp=>(aX.mp hp).elim (fun z=>I.pin p (aU _ z)) fun z=>by
  obtain ⟨hb,e⟩:=G7 z
  obtain ⟨f0,f1,f2,_⟩:=hf p.1 hb
  obtain ⟨o,e',d⟩:=ho p.1 hb
  rw [e] at e';cases e'
  exact ⟨e,f0,f1,f2,d⟩
theorem Inv.unpinned {pins pl:List (Addr × Obj)} {σ:St} {H:Hp} {s:Shared} (I:Inv X (pins++pl) σ H s):Inv X pins σ H s:=I.pins_of fun p hp=>I.pin p (aU _ (bf _ hp))
theorem Rn {iter:Expr} {body:List Stmt} {wi:TI} {g:TG} {tb:TS} {pos:Pos} (hp:PassesOwn (model X.prog X.w) X.A X.env X.xe) (hc:X.calm=true) (hi:PI X tg iter wi) (hg:PG X tg g) (hb:PSs X body tb)
 (hs:∀ x,foldedSetIterable iter X.env x=pure x:=by intro _;rfl):PS X (.For tg iter body [] pos) (Xm wi g tb):=by
 intro pins s σ H D I h
 refine wpAny_For (thn (hi pins s σ H _ I h) fun v s1 h1=>thn h1 fun itv s2 h2=>?_) hs
 obtain ⟨it,fp,tn,J,H2,e,I2,T,st2,f2,W,⟨m0,w0⟩,turn⟩:=h2
 subst e
 have stat:∀ {H':Hp},(∀ b ∈ fp,H' b=none)→∀ b ∈ fp,ug X pins H' b:=fun hn b hb=>⟨hn b hb,(f2 b hb).2⟩
 refine codeAny_forLoop_any (fun n s'=>∃ i σ' H',Inv X pins σ' H' s'∧tn i s'.heap∧(∀ b ∈ fp,H' b=none)∧W i n σ' H') ?_ m0 ⟨0,σ,H2,I2,st2,fun b hb=>(f2 b hb).1,w0⟩
 rintro n s3 ⟨i,σ3,H3,I3,st3,fr3,w3⟩
 rcases turn i n σ3 H3 w3 with ⟨stop,qn⟩ | ⟨go,N,hN,step⟩
 ·refine wpAny_passesOwn hp (thn (T.done X rfl rfl rfl hc i pins s3 σ3 H3 X.xe I3 (stat fr3) st3 stop) fun r s4 ⟨hr,I4⟩=>?_)
  subst hr
  exact wpAny_execs_nil ⟨σ3,H3,I4,qn⟩
 ·refine wpAny_passesOwn hp (thn (T.item X rfl rfl rfl hc i pins s3 σ3 H3 X.xe I3 (stat fr3) st3 go) fun r s4 ⟨u,hr,h4⟩=>?_)
  subst hr
  refine wpAny_passesOwn hp (thn h4 fun _ s5 ⟨x,H5,I5,r5,y5,st5,fr5⟩=>?_)
  have I5':=I5.pinned (stat fr5) (T.obj _ _ st5)
  refine wpAny_passesOwn hp (thn (hg _ s5 σ3 H5 x u _ I5' r5 (step x H5 y5)) fun _ s6 ⟨σ6,H6,I6,q6⟩=>?_)
  refine wpAny_passesOwn hp (thn (hb _ s6 σ6 H6 _ I6 q6) fun f s7 q7=>?_)
  have again:∀ {σ7:St} {H7:Hp},Inv X (pins++vO fp s5.heap) σ7 H7 s7→N σ7 H7→∃ m,m < n∧∃ i σ' H',Inv X pins σ' H' s7∧tn i s7.heap∧(∀ b ∈ fp,H' b=none)∧W i m σ' H':=fun {σ7 H7} I7 n7=>by
   obtain ⟨m',hm,w7⟩:=hN σ7 H7 n7
   refine ⟨m',hm,i + 1,σ7,H7,I7.unpinned,T.keep _ _ _ st5 fun b hb o e=>(I7.pin (b,o) (aU _ (aU _ (o_ hb e)))).1,fun b hb=>?_,w7⟩
   obtain ⟨o,e,d⟩:=T.obj _ _ st5 b hb
   exact (I7.pin (b,o) (aU _ (aU _ (o_ hb e)))).2.1
  cases f with
  | next=>obtain ⟨σ7,H7,I7,n7⟩:=q7;exact again I7 n7
  | cont=>obtain ⟨σ7,H7,I7,n7⟩:=q7;exact again I7 n7
  | brk=>obtain ⟨σ7,H7,I7,q7⟩:=q7;exact ⟨σ7,H7,I7.unpinned,q7⟩
  | ret v=>obtain ⟨x7,σ7,H7,I7,r7,q7⟩:=q7;exact ⟨x7,σ7,H7,I7.unpinned,r7,q7⟩
end
end L2
namespace L2
open PySem PySem.Spec PyProof.Rows
abbrev R2:=V→V→Hp→VK→Prop
def OpR (X:Cx) (f:Value→Value→Sem Value) (r:R2):Prop :=
 ∀ (pins:List (Addr × Obj)) (s:Shared) (σ:St) (H:Hp) (x y:V) (v u:Value) (Q:VK),Inv X pins σ H s→RelV x v→RelV y u→r x y H Q →
  wpAny (model X.prog X.w) X.A (f v u) (EP X pins σ Q) X.xe s
def mj (X:Cx) (f:Value) (r:List V→Hp→VK→Prop):Prop :=
 ∀ (pins:List (Addr × Obj)) (s:Shared) (σ:St) (H:Hp) (xs:List V) (us:List Value) (Q:VK),Inv X pins σ H s→Vals xs us→r xs H Q →
  wpAny (model X.prog X.w) X.A (call f us) (EP X pins σ Q) X.xe s
def tOp (r:R2) (ta tb:TE):TE:=fun σ H Q=>ta σ H fun x H1=>tb σ H1 fun y H2=>r x y H2 Q
def rI (C:Int→Int→Prop) (g:Int→Int→V):R2:=fun x y H Q=>∃ i j,x = .int i∧y = .int j∧C i j∧Q (g i j) H
def rI0 (g:Int→Int→V):R2:=fun x y H Q=>∃ i j,x = .int i∧y = .int j∧Q (g i j) H
section
variable {X:Cx} {a b c:Expr} {ta tb tc:TE} {pos:Pos}
theorem Ro (ha:PE X a ta) (hb:PE X b tb) {pins:List (Addr × Obj)} {s:Shared} {σ:St} {H:Hp} {R:V→V→Hp→Prop} (I:Inv X pins σ H s)
 (h:ta σ H fun x H1=>tb σ H1 fun y H2=>R x y H2) {Q:Value→Shared→Prop} {f:Value→Value→Sem Value}
 (hf:∀ v u s2 x y H2,Inv X pins σ H2 s2→RelV x v→RelV y u→R x y H2→wpAny (model X.prog X.w) X.A (f v u) Q X.xe s2) :
 wpAny (model X.prog X.w) X.A (eval a X.env) (fun v s₁=>wpAny (model X.prog X.w) X.A (eval b X.env) (fun u s₂=>wpAny (model X.prog X.w) X.A (f v u) Q X.xe s₂) X.xe s₁) X.xe s:=by
 refine thn (ha pins s σ H _ I h) fun v s1 ⟨x,H1,I1,r1,q1⟩=>?_
 refine thn (hb pins s1 σ H1 _ I1 q1) fun u s2 ⟨y,H2,I2,r2,q2⟩=>?_
 exact hf v u s2 x y H2 I2 r1 r2 q2
theorem Jq {op:Operator} {r:R2} (ho:OpR X (binaryOp op) r) (ha:PE X a ta) (hb:PE X b tb):PE X (.BinOp a op b pos) (tOp r ta tb):=by
 intro pins s σ H Q I h
 exact wpAny_BinOp (Ro ha hb I h fun v u s2 x y H2 I2 rx ry q=>ho pins s2 σ H2 x y v u Q I2 rx ry q)
theorem opI {f:Value→Value→Sem Value} {C:Int→Int→Prop} {g:Int→Int→Int}
 (rule:∀ (i j:Int) (t u:Tok) (s:Shared) (Q:Value→Shared→Prop) (E:Value→Shared→Prop),C i j→Q (.int (g i j) s.toks) { s with toks:=s.toks + 1 }→wpAny (model X.prog X.w) X.A (f (.int i t) (.int j u)) Q E s) :
 OpR X f (rI C fun i j=>.int (g i j)):=by
 intro pins s σ H x y v u Q I rx ry h
 obtain ⟨i,j,rfl,rfl,hc,q⟩:=h
 obtain ⟨t,rfl⟩:=rx
 obtain ⟨t',rfl⟩:=ry
 exact rule i j t t' s _ _ hc ⟨.int (g i j),H,I.tok _,⟨_,rfl⟩,q⟩
theorem Vb {f:Value→Value→Sem Value} {g:Int→Int→Int}
 (rule:∀ (i j:Int) (t u:Tok) (s:Shared) (Q:Value→Shared→Prop) (E:Value→Shared→Prop),Q (.int (g i j) s.toks) { s with toks:=s.toks + 1 }→wpAny (model X.prog X.w) X.A (f (.int i t) (.int j u)) Q E s) :
 OpR X f (rI0 fun i j=>.int (g i j)):=by
 intro pins s σ H x y v u Q I rx ry h
 obtain ⟨i,j,rfl,rfl,q⟩:=h
 obtain ⟨t,rfl⟩:=rx
 obtain ⟨t',rfl⟩:=ry
 exact rule i j t t' s _ _ ⟨.int (g i j),H,I.tok _,⟨_,rfl⟩,q⟩
theorem Ml {f:Value→Value→Sem Value} {g:Int→Int→Bool}
 (rule:∀ (i j:Int) (t u:Tok) (s:Shared) (Q:Value→Shared→Prop) (E:Value→Shared→Prop),Q (.bool (g i j)) s→wpAny (model X.prog X.w) X.A (f (.int i t) (.int j u)) Q E s) :
 OpR X f (rI0 fun i j=>.bl (g i j)):=by
 intro pins s σ H x y v u Q I rx ry h
 obtain ⟨i,j,rfl,rfl,q⟩:=h
 obtain ⟨t,rfl⟩:=rx
 obtain ⟨t',rfl⟩:=ry
 exact rule i j t t' s _ _ ⟨.bl (g i j),H,I,rfl,q⟩
def Rp (i j:Int):Prop:=0 ≤ j∧j ≤ 1000000∧i.natAbs < 2 ^ 64
theorem gY:OpR X (binaryOp .Add) (rI0 fun i j=>.int (i + j)):=Vb fun _ _ _ _ _ _ _ q=>add_int q
theorem Jr:OpR X (binaryOp .Sub) (rI0 fun i j=>.int (i - j)):=Vb fun _ _ _ _ _ _ _ q=>sub_int q
theorem mF:OpR X (binaryOp .Mod) (rI (fun _ j=>j ≠ 0) fun i j=>.int (i.fmod j)):=opI fun _ _ _ _ _ _ _ hc q=>mod_int' hc q
theorem Rq:OpR X (binaryOp .Pow) (rI Rp fun i j=>.int (i ^ j.toNat)):=opI fun _ _ _ _ _ _ _ hc q=>pow_int_small hc.1 hc.2.1 hc.2.2 q
end
section
variable {X:Cx} {a b c:Expr} {ta tb tc:TE} {pos:Pos}
theorem mq:OpR X (compareOp .Lt) (rI0 fun i j=>.bl (decide (i < j))):=Ml fun _ _ _ _ _ _ _ q=>lt_int q
theorem qd:OpR X (compareOp .LtE) (rI0 fun i j=>.bl (decide (i ≤ j))):=Ml fun _ _ _ _ _ _ _ q=>le_int q
theorem yt:OpR X (compareOp .Gt) (rI0 fun i j=>.bl (decide (j < i))):=Ml fun _ _ _ _ _ _ _ q=>gt_int q
theorem Fv:OpR X (compareOp .GtE) (rI0 fun i j=>.bl (decide (j ≤ i))):=Ml fun _ _ _ _ _ _ _ q=>ge_int q
theorem cQ (b:Expr) {op:CmpOp} (h:op ≠ .In:=by decide) (h2:op ≠ .NotIn:=by decide):behindInMarks op b=false:=by
 have e1:(op == CmpOp.In)=false:=by cases op <;> first | rfl | exact absurd rfl h
 have e2:(op == CmpOp.NotIn)=false:=by cases op <;> first | rfl | exact absurd rfl h2
 cases b <;> simp [behindInMarks,e1,e2]
theorem Mp {op:CmpOp} {r:R2} (ho:OpR X (compareOp op) r) (ha:PE X a ta) (hb:PE X b tb) (hm:behindInMarks op b=false):PE X (.Compare a [op] [b] pos) (tOp r ta tb):=by
 intro pins s σ H Q I h
 exact wpAny_Compare1 (Ro ha hb I h fun v u s2 x y H2 I2 rx ry q=>ho pins s2 σ H2 x y v u Q I2 rx ry q) hm
def Qk (t:TE):TT:=fun σ H Q=>t σ H fun x H'=>∃ k,x = .bl k∧Q k H'
theorem Mq {op:CmpOp} {r:R2} (ho:OpR X (compareOp op) r) (ha:PE X a ta) (hb:PE X b tb) (hm:behindInMarks op b=false):PT X (.Compare a [op] [b] pos) (Qk (tOp r ta tb)):=by
 intro pins s σ H Q I h
 refine wpAny_isTrue_Compare1 (thn (ha pins s σ H _ I h) fun v s1 ⟨x,H1,I1,r1,q1⟩=>thn (hb pins s1 σ H1 _ I1 q1) fun u s2 ⟨y,H2,I2,r2,q2⟩ =>
  thn (ho pins s2 σ H2 x y v u _ I2 r1 r2 q2) fun c s3 ⟨z,H3,I3,r3,k,e,q3⟩=>?_) hm
 subst e
 cases r3
 exact wpAny_truthy_bool ⟨H3,I3,q3⟩
def Js (r r':R2) (ta tb tc:TE):TE:=fun σ H Q=>ta σ H fun x H1=>tb σ H1 fun y H2=>r x y H2 fun z H3=>∃ k,z = .bl k ∧
 (if k=true then tc σ H3 fun w' H4=>r' y w' H4 Q else Q (.bl false) H3)
theorem Jt {op op':CmpOp} {r r':R2} (ho:OpR X (compareOp op) r) (ho':OpR X (compareOp op') r') (ha:PE X a ta) (hb:PE X b tb) (hc:PE X c tc)
 (hm:lastMarks [op,op'] [b,c]=false:=by with_unfolding_all rfl):PE X (.Compare a [op,op'] [b,c] pos) (Js r r' ta tb tc):=by
 intro pins s σ H Q I h
 refine Compare_chain (thn (ha pins s σ H _ I h) fun v s1 ⟨x,H1,I1,r1,q1⟩=>chain_link (thn (hb pins s1 σ H1 _ I1 q1) fun u s2 ⟨y,H2,I2,r2,q2⟩ =>
  thn (ho pins s2 σ H2 x y v u _ I2 r1 r2 q2) fun d s3 ⟨z,H3,I3,r3,k,e,q3⟩=>?_)) hm
 subst e
 cases r3
 refine wpAny_truthy_bool ?_
 cases k with
 | false=>exact ite_ff ⟨.bl false,H3,I3,rfl,q3⟩
 | true=>exact ite_tt (chain_last (thn (hc pins s3 σ H3 _ I3 q3) fun w' s4 ⟨z',H4,I4,r4,q4⟩=>ho' pins s4 σ H4 y z' u w' Q I4 r2 r4 q4))
theorem Ju {op op':CmpOp} {r r':R2} (ho:OpR X (compareOp op) r) (ho':OpR X (compareOp op') r') (ha:PE X a ta) (hb:PE X b tb) (hc:PE X c tc)
 (hm:lastMarks [op,op'] [b,c]=false:=by with_unfolding_all rfl):PT X (.Compare a [op,op'] [b,c] pos) (Qk (Js r r' ta tb tc)):=by
 intro pins s σ H Q I h
 refine isTrue_chain (thn (ha pins s σ H _ I h) fun v s1 ⟨x,H1,I1,r1,q1⟩=>test_link (thn (hb pins s1 σ H1 _ I1 q1) fun u s2 ⟨y,H2,I2,r2,q2⟩ =>
  thn (ho pins s2 σ H2 x y v u _ I2 r1 r2 q2) fun d s3 ⟨z,H3,I3,r3,k,e,q3⟩=>?_)) hm
 subst e
 cases r3
 refine wpAny_truthy_bool ?_
 cases k with
 | false =>
  obtain ⟨k',e',q'⟩:=q3
  cases e'
  exact ite_ff ⟨H3,I3,q'⟩
 | true =>
  refine ite_tt (test_last (thn (hc pins s3 σ H3 _ I3 q3) fun w' s4 ⟨z',H4,I4,r4,q4⟩=>thn (ho' pins s4 σ H4 y z' u w' _ I4 r2 r4 q4) fun d' s5 ⟨z2,H5,I5,r5,k2,e2,q5⟩=>?_))
  subst e2
  cases r5
  exact wpAny_truthy_bool ⟨H5,I5,q5⟩
theorem uh:(sizeLine:Nat) < 2 ^ 63:=by rw [sizeLine_eq];decide
theorem vals1 {x:V} {us:List Value} (r:Vals [x] us):∃ u,us=[u]∧RelV x u:=by
 cases r with
 | cons r1 r2=>cases r2;exact ⟨_,rfl,r1⟩
theorem vals2 {x y:V} {us:List Value} (r:Vals [x,y] us):∃ u w',us=[u,w']∧RelV x u∧RelV y w':=by
 cases r with
 | cons r1 r2 =>
  cases r2 with
  | cons r3 r4=>cases r4;exact ⟨_,_,rfl,r1,r3⟩
theorem um (hc:X.calm=true):mj X (.builtin "max") (fun xs H Q=>∃ i j,xs=[.int i,.int j]∧Q (.int (if j > i then j else i)) H):=by
 intro pins s σ H xs us Q I r h
 obtain ⟨i,j,rfl,q⟩:=h
 obtain ⟨u,w',rfl,⟨t,rfl⟩,⟨t',rfl⟩⟩:=vals2 r
 refine max_two_ints (I.ok.hd hc) fun h' tk k=>⟨_,H,I.kept k,?_,q⟩
 by_cases hj:j > i
 ·rw [if_pos hj,if_pos hj];exact ⟨_,rfl⟩
 ·rw [if_neg hj,if_neg hj];exact ⟨_,rfl⟩
theorem q_ (hc:X.calm=true):mj X (.builtin "min") (fun xs H Q=>∃ i j,xs=[.int i,.int j]∧Q (.int (if j < i then j else i)) H):=by
 intro pins s σ H xs us Q I r h
 obtain ⟨i,j,rfl,q⟩:=h
 obtain ⟨u,w',rfl,⟨t,rfl⟩,⟨t',rfl⟩⟩:=vals2 r
 refine min_two_ints (I.ok.hd hc) fun h' tk k=>⟨_,H,I.kept k,?_,q⟩
 by_cases hj:j < i
 ·rw [if_pos hj,if_pos hj];exact ⟨_,rfl⟩
 ·rw [if_neg hj,if_neg hj];exact ⟨_,rfl⟩
theorem G8:mj X (.type "int") (fun xs H Q=>(∃ i,xs=[.int i]∧Q (.int i) H)∨∃ k,xs=[.bl k]∧Q (.int (if k then 1 else 0)) H):=by
 intro pins s σ H xs us Q I r h
 rcases h with ⟨i,rfl,q⟩ | ⟨k,rfl,q⟩
 ·obtain ⟨u,rfl,t,rfl⟩:=vals1 r
  exact call_int_int ⟨.int i,H,I,⟨_,rfl⟩,q⟩
 ·obtain ⟨u,rfl,r1⟩:=vals1 r
  cases r1
  exact call_int_bool ⟨.int (if k then 1 else 0),H,I.tok _,⟨_,rfl⟩,q⟩
end
end L2
namespace L2
open PySem PySem.Spec PyProof.Rows
structure ObjM (h:Heap) (x dx C:Addr) (mA:Str→Option Value):Prop where
 obj:h.get? x=some (PySem.W.instObj C dx)
 ns:h.Ns1 dx mA
 ne:dx ≠ x
theorem G9 {h:Heap} {dx:Addr} {mA:Str→Option Value} (n:h.Ns1 dx mA):∃ od,h.get? dx=some od∧∀ name,PySem.W.lookIn name od=some (mA name):=by
 obtain ⟨o,es,ep,ho,hd,hk,_,hm⟩:=n
 refine ⟨o,ho,fun name=>?_⟩
 have e:=hm name
 unfold nsFind findBy at e
 rw [← Array.find?_toList] at e
 unfold PySem.W.lookIn
 rw [hd]
 dsimp only
 split
 ·rename_i y q
  rw [q] at e
  exact congrArg some e
 ·rename_i q
  rw [q] at e
  have a:es.toList.any (·.refKey)=false:=by
   rw [List.any_eq_false]
   intro y hy
   obtain ⟨z,t,hkey⟩:=hk y (Array.mem_toList_iff.mp hy)
   simp [DictEntry.refKey,hkey]
  have a':¬ es.toList.any (·.refKey)=true:=by rw [a];exact dB
  rw [if_neg a']
  exact congrArg some e
theorem ObjM.look {h:Heap} {x dx C:Addr} {mA:Str→Option Value} (I:ObjM h x dx C mA):∃ od,PySem.W.InstAt h x (PySem.W.instObj C dx) C (some od)∧∀ name,PySem.W.lookIn name od=some (mA name) :=
 let ⟨od,ho,hl⟩:=G9 I.ns
 ⟨od,⟨I.obj,rfl,rfl,ho⟩,hl⟩
section
variable {prog:Program} {w:World} {A:Around} {E:Value→Shared→Prop} {s:Shared} {K:PySem.W.Frag} {x dx C f:Addr} {mA:Str→Option Value} {name:Str} {v:Value}
end
theorem uf.some_of {v:V} {o:Option Value} (r:uf (some v) o):∃ u,o=some u∧RelV v u:=by
 cases o with
 | none=>exact (show False from r).elim
 | some u=>exact ⟨u,rfl,r⟩
section
variable {P:Program} {w:World} {H H':Hp} {h h':Heap} {a C dx:Addr} {fs fs':List (Str × V)}
theorem Mr (hok:HOk P w H h) (e:H a=some (.ins C dx fs)):∃ mA,ObjM h a dx C mA∧(∀ f,uf (fs.lookup f) (mA f))∧PySem.Within mA (fs.map (·.1))∧fs.length ≤ 1000∧H dx=some (.own a):=by
 obtain ⟨d,z,ne,ob,mA,n,r,q⟩:=(show gO P w H h a (.ins C dx fs) from hok a _ e)
 exact ⟨mA,⟨ob,n,ne⟩,r,q,z,d⟩
end
structure Cls (K:PySem.W.Frag) (C:Addr):Prop where
 pg:PySem.W.plainGet K C Str.empty=true
 hd:PySem.W.hasDictIn K C=true
 po:PySem.W.plainOver K C=true
 sa:PySem.W.findIn K (.ref C) "__setattr__" = some (some (.builtin "object.__setattr__"))
theorem Cls.get {K:PySem.W.Frag} {C:Addr} (c:Cls K C) (f:Str):PySem.W.plainGet K C f=true:=c.pg
structure Con (K:PySem.W.Frag) (C:Addr) (f:Str) (v:V) (u:Value):Prop where
 at_:PySem.W.findIn K (.ref C) f=some (some u)
 rel:RelV v u
 get:PySem.W.specialIn K u "__get__" = some none
 cp:PySem.W.copiedNames.contains f=false
structure Meth (K:PySem.W.Frag) (C:Addr) (m:Str) (f:Addr):Prop where
 at_:PySem.W.findIn K (.ref C) m=some (some (.ref f))
 fn:PySem.W.isFn K (.ref f)=true
 kp:PySem.W.keepIn K (.ref f)=true
section
variable {X:Cx} {pins:List (Addr × Obj)} {σ:St} {H:Hp} {s:Shared} {a C dx:Addr} {fs:List (Str × V)} {f:Str} {v:V} {A:Around} {E:Value→Shared→Prop}
end
section
variable {X:Cx} {o e value:Expr} {f:Str} {pos pos' tpos:Pos} {ta tv:TE}
end
section
variable {X:Cx} {pins:List (Addr × Obj)} {σ:St} {H:Hp} {s:Shared} {A:Around} {E:Value→Shared→Prop} {Q:Value→Shared→Prop} {c:Value} {b:Bool}
inductive TyOf (K:PySem.W.Frag) (H:Hp):V→Value→Prop where
 | non:TyOf K H .non (.type "NoneType")
 | bl (x:Bool):TyOf K H (.bl x) (.type "bool")
 | int (i:Int):TyOf K H (.int i) (.type "int")
 | str (x:Str):TyOf K H (.str x) (.type "str")
 | flt (x:UInt64):TyOf K H (.flt x) (.type "float")
 | lst {a:Addr} {xs:List V} (e:H a=some (.lst xs)):TyOf K H (.ref a) (.type "list")
 | frz {a:Addr} {o:Obj} {xs:List V} (e:H a=some (.frz o (.lst xs))):TyOf K H (.ref a) (.type "list")
 | tup {a:Addr} {xs:List V} (e:H a=some (.tup xs)):TyOf K H (.ref a) (.type "tuple")
 | dK {a:Addr} {kvs:List (Key × V)} (e:H a=some (.dK kvs)):TyOf K H (.ref a) (.type "dict")
 | dT {a:Addr} {kvs:List (List Key × V)} (e:H a=some (.dT kvs)):TyOf K H (.ref a) (.type "dict")
 | ins {a C dx:Addr} {fs:List (Str × V)} (e:H a=some (.ins C dx fs)) (cl:Cls K C) (ha:PySem.W.findIn K (.ref C) "__class__" = some (some (.builtin "object.__class__")))
  (hn:PySem.W.specialIn K (.builtin "object.__class__") "__get__" = some (some (.builtin "getset_descriptor.__get__"))) (htk:PySem.W.takesIn K (.builtin "object.__class__")=some true)
  (hm:PySem.W.mroIn K C (.type "object")=some true):TyOf K H (.ref a) (.ref C)
theorem yu {x:V} {u t:Value} (I:Inv X pins σ H s) (rx:RelV x u) (ty:TyOf X.K H x t) (e:PySem.W.kitOne X.K t c=some b) (h:∀ tk,Q (.bool b) { s with toks:=tk }) :
 wpAny (model X.prog X.w) A (call (.builtin "isinstance") [u,c]) Q E s:=by
 cases ty with
 | non=>cases (show u=Value.none from rx);exact PySem.W.kia_one PySem.W.kitx_none I.kIn True.intro e (fun z=>nomatch z) h
 | bl y=>cases (show u=Value.bool y from rx);exact PySem.W.kia_one PySem.W.kitx_bool I.kIn True.intro e (fun z=>nomatch z) h
 | int i=>obtain ⟨t,q⟩:=(show ∃ t,u=Value.int i t from rx);cases q;exact PySem.W.kia_one PySem.W.kitx_int I.kIn True.intro e (fun z=>nomatch z) h
 | str y=>obtain ⟨t,q⟩:=(show ∃ t,u=Value.str y t from rx);cases q;exact PySem.W.kia_one PySem.W.kitx_str I.kIn True.intro e (fun z=>nomatch z) h
 | flt y=>obtain ⟨t,q⟩:=(show ∃ t,u=Value.float y t from rx);cases q;exact PySem.W.kia_one PySem.W.kitx_float I.kIn True.intro e (fun z=>nomatch z) h
 | @lst a xs ea =>
  cases (show u=Value.ref a from rx)
  obtain ⟨_,_,n,_,h1⟩:=(show gO X.prog X.w H s.heap a (.lst xs) from I.hok a _ ea)
  exact PySem.W.kia_one PySem.W.kitx_list I.kIn ⟨_,h1,rfl⟩ e (fun z=>nomatch z) h
 | @frz a ob xs ea =>
  cases (show u=Value.ref a from rx)
  obtain ⟨_,_,_,n,_,h1⟩:=(show gO X.prog X.w H s.heap a (.frz ob (.lst xs)) from I.hok a _ ea)
  exact PySem.W.kia_one PySem.W.kitx_list I.kIn ⟨_,h1,rfl⟩ e (fun z=>nomatch z) h
 | @tup a xs ea =>
  cases (show u=Value.ref a from rx)
  obtain ⟨_,_,_,p⟩:=(show gO X.prog X.w H s.heap a (.tup xs) from I.hok a _ ea)
  obtain ⟨o,h1,h2,_⟩:=p
  exact PySem.W.kia_one PySem.W.kitx_tuple I.kIn ⟨o,h1,h2⟩ e (fun z=>nomatch z) h
 | @dK a kvs ea =>
  cases (show u=Value.ref a from rx)
  obtain ⟨_,_,vs,_,p⟩:=(show gO X.prog X.w H s.heap a (.dK kvs) from I.hok a _ ea)
  obtain ⟨o,es,ep,h1,h2,_⟩:=p
  exact PySem.W.kia_one PySem.W.kitx_dict I.kIn ⟨o,h1,h2.1⟩ e (fun z=>nomatch z) h
 | @dT a kvs ea =>
  cases (show u=Value.ref a from rx)
  obtain ⟨_,_,xs,_,o,es,ep,h1,h2,_⟩:=(show gO X.prog X.w H s.heap a (.dT kvs) from I.hok a _ ea)
  exact PySem.W.kia_one PySem.W.kitx_dict I.kIn ⟨o,h1,h2.1⟩ e (fun z=>nomatch z) h
 | @ins a C dx fs ea cl ha hn htk hm =>
  cases (show u=Value.ref a from rx)
  obtain ⟨mA,O,_⟩:=Mr I.hok ea
  obtain ⟨od,J,_⟩:=O.look
  exact PySem.W.kia_one (PySem.W.kitx_own (cl.get _) cl.hd ha hn htk hm) I.kIn J e (fun z=>nomatch z) h
end
end L2
namespace L2
open PySem PySem.Spec PyProof.Rows
structure Room (k:Nat) (A:Around):Prop where
 hd:A.handled=none
 dp:A.depth + 3 * k + 5 < recursionLimit
 un:A.units + 16 * k + 200 < cLine
theorem Room.mono {j k:Nat} {A:Around} (r:Room k A) (h:j ≤ k):Room j A:=⟨r.hd,by have:=r.dp;omega,by have:=r.un;omega⟩
theorem Room.deeper {k:Nat} {A:Around} (r:Room (k + 1) A) (env:Env):Room k (A.deeper env) :=
 ⟨r.hd,by have:=r.dp;show A.depth + 1 + 3 * k + 5 < _;omega,by have:=r.un;show A.units + 3 + 16 * k + 200 < _;omega⟩
theorem Room.depth {k:Nat} {A:Around} (r:Room k A):A.depth < recursionLimit:=by have:=r.dp;omega
theorem Room.units {k:Nat} {A:Around} (r:Room k A):A.units + 64 < cLine:=by have:=r.un;omega
def Xn:TA:=fun _ H Q=>Q [] H
def Vc (ta:TE) (tr:TA):TA:=fun σ H Q=>ta σ H fun x H1=>tr σ H1 fun xs H2=>Q (x :: xs) H2
section
variable {X:Cx} {e:Expr} {es:List Expr} {te:TE} {t:TA} {pos:Pos}
theorem qe:PA X [] Xn:=fun _ _ _ _ H Q I h=>Calls.spliced_nil ⟨[],H,I,.nil,h⟩
theorem jY (ha:PE X e te) (hr:PA X es t) (hs:starEach (e :: es) X.env=(false,eval e X.env) :: starEach es X.env:=by rfl):PA X (e :: es) (Vc te t):=by
 intro pos pins s σ H Q I h
 rw [hs]
 show wpAny _ _ (spliced ((false,eval e X.env) :: backTo pos (starEach es X.env))) _ _ s
 refine Calls.spliced_cons (thn (ha pins s σ H _ I h) fun u s1 ⟨x,H1,I1,r1,q1⟩=>?_)
 exact thn (hr pos pins s1 σ H1 _ I1 q1) fun us s2 ⟨xs,H2,I2,r2,q2⟩=>⟨x :: xs,H2,I2,.cons r1 r2,q2⟩
def Xo (t:TA):TE:=fun σ H Q=>t σ H fun xs H1=>xs.length ≤ sizeLine∧∀ p,H1 p=none→Q (.ref p) (upd H1 p (.tup xs))
def Xp (t:TA):TE:=fun σ H Q=>t σ H fun xs H1=>xs.length ≤ sizeLine∧∀ p,H1 p=none→Q (.ref p) (upd H1 p (.lst xs))
theorem Rr {x1} (h:PA X es t):PE X (.Tuple es x1 pos) (Xo t):=by
 intro pins s σ H Q I hq
 refine wpAny_Tuple_spliced (thn (h pos pins s σ H _ I hq) fun us s1 ⟨xs,H1,I1,r,z,q⟩=>⟨by rw [← r.length];exact z,?_⟩)
 have hf:H1 s1.heap.objs.size=none:=I1.hok.fresh (bh _)
 refine ⟨.ref s1.heap.objs.size,upd H1 s1.heap.objs.size (.tup xs),I1.laid (t':=s1.toks) (fun b u e=>Heap.get?_push_of_some _ e) (bh _) ?_,rfl,q _ hf⟩
 exact ⟨z,us,r,⟨_,Heap.get?_push_size _ rfl,rfl,_,rfl⟩⟩
theorem Jv (h:PA X es t):PE X (.List es pos) (Xp t):=by
 intro pins s σ H Q I hq
 refine wpAny_List_spliced (thn (h pos pins s σ H _ I hq) fun us s1 ⟨xs,H1,I1,r,z,q⟩=>⟨by rw [← r.length];exact z,?_⟩)
 have hf:H1 s1.heap.objs.size=none:=I1.hok.fresh (bh _)
 refine ⟨.ref s1.heap.objs.size,upd H1 s1.heap.objs.size (.lst xs),I1.laid (t':=s1.toks) (fun b u e=>Heap.get?_push_of_some _ e) (bh _) ?_,rfl,q _ hf⟩
 exact ⟨z,us,0,r,Heap.get?_push_size _ rfl⟩
end
abbrev Sp:=List V→Hp→VK→XK→Prop
abbrev CXT:=List Env→Hp→Shared→XK→Value→Shared→Prop
structure Env0 (P:Program) (w:World) (K:PySem.W.Frag) (mg:Str→Option Value) (base:Heap) (A:Around) (outer:List Env) (s:Shared) (H:Hp):Prop where
 frames:A.frames=some outer
 mod:Mod K mg base
 bs:∀ b o,base.get? b=some o→s.heap.get? b=some o∧H b=none
 bsz:base.objs.size ≤ s.heap.objs.size
 funs:s.heap.FunFrames base outer
 frf:∀ b ∈ frs outer,H b=none
 hok:HOk P w H s.heap
 bare:AllBare s.gens
def CE (outer:List Env) (P:Program) (w:World) (H:Hp) (s:Shared) (Q:VK) (u:Value) (s':Shared):Prop :=
 ∃ v H',s'.os=s.os∧AllBare s'.gens∧Un (frs outer) [] H H' s.heap s'.heap∧HOk P w H' s'.heap∧RelV v u∧Q v H'
def CR (CX:CXT) (outer:List Env) (P:Program) (w:World) (H:Hp) (s:Shared) (Q:VK) (E:XK) (r:Result) (s':Shared):Prop :=
 match r with
 | .ok (.ret u)=>CE outer P w H s Q u s'
 | .ok _=>False
 | .error e=>CX outer H s E e s'
structure FnOk (P:Program) (w:World) (K:PySem.W.Frag) (mg:Str→Option Value) (base:Heap) (CX:CXT) (k:Nat) (f:Addr) (fd:FuncData) (ps:List Str) (sp:Sp):Prop where
 len:∀ vs H Q E,sp vs H Q E→vs.length=ps.length
 run:∀ (A:Around) (outer:List Env) (s:Shared) (H:Hp) (args:Args) (us:List Value) (vs:List V) (Q:VK) (E:XK),Room k A→Env0 P w K mg base A outer s H→BindsTo s fd args (ps.zip us)→Vals vs us→sp vs H Q E →
  codeAny (model P w) A (.call (.ref f) args) (CR CX outer P w H s Q E) s
theorem FnOk.mono {P:Program} {w:World} {K:PySem.W.Frag} {mg:Str→Option Value} {base:Heap} {CX:CXT} {j k:Nat} {f:Addr} {fd:FuncData} {ps:List Str} {sp:Sp} (F:FnOk P w K mg base CX j f fd ps sp) (h:j ≤ k) :
 FnOk P w K mg base CX k f fd ps sp:=⟨F.len,fun A outer s H args us vs Q E hr=>F.run A outer s H args us vs Q E (hr.mono h)⟩
theorem FnOk.imp {P:Program} {w:World} {K:PySem.W.Frag} {mg:Str→Option Value} {base:Heap} {CX:CXT} {k:Nat} {f:Addr} {fd:FuncData} {ps:List Str} {sp sp':Sp} (F:FnOk P w K mg base CX k f fd ps sp)
 (h:∀ vs H Q E,sp' vs H Q E→sp vs H Q E):FnOk P w K mg base CX k f fd ps sp' :=
 ⟨fun vs H Q E q=>F.len vs H Q E (h _ _ _ _ q),fun A outer s H args us vs Q E hr he hb hv hs=>F.run A outer s H args us vs Q E hr he hb hv (h _ _ _ _ hs)⟩
section
variable {X:Cx} {pins:List (Addr × Obj)} {σ:St} {H:Hp} {s s':Shared}
theorem Inv.env0 (I:Inv X pins σ H s):Env0 X.prog X.w X.K X.mg X.base X.A X.stack s H :=
 ⟨I.ok.frames,I.ok.mod,I.bs,bV I.ok.bsz I.sz,I.stack,I.stkFree,I.hok,I.bare⟩
theorem Inv.after {Q:VK} {u:Value} (I:Inv X pins σ H s) (h:CE X.stack X.prog X.w H s Q u s'):EP X pins σ Q u s':=by
 obtain ⟨v,H',os,bare,un,hok,r,q⟩:=h
 obtain ⟨hh,g,d,t,os'⟩:=s'
 obtain rfl:os'=s.os:=os
 exact ⟨v,H',I.call (h':=hh) (g':=g) (d':=d) (t':=t) (ch:=[]) un hok bare (fun b z=>absurd z (by simp)),r,q⟩
end
def Qm (sp:Sp) (dvs:List V) (E:XK) (t:TA):TE:=fun σ H Q=>t σ H fun vs H1=>sp (vs++dvs) H1 Q E
def Binds (K:PySem.W.Frag) (fd:FuncData) (ps:List Str) (ds:List Value):Prop :=
 ∀ (s:Shared) (us:List Value),K.In s.heap→(us++ds).length=ps.length→BindsTo s fd ⟨us,[]⟩ (ps.zip (us++ds))
theorem Binds.all {K:PySem.W.Frag} {fd:FuncData} {ps:List Str} (h:∀ us:List Value,us.length=ps.length→bindArgs fd ⟨us,[]⟩=pure (ps.zip us)):Binds K fd ps []:=fun s us _ hl=>by
 rw [cY] at hl ⊢
 exact .of_eq (h us hl)
def Passes (CX:CXT) (X:Cx) (E:XK):Prop:=∀ (pins:List (Addr × Obj)) (σ:St) (H:Hp) (s:Shared) (e:Value) (s':Shared),Inv X pins σ H s→CX X.stack H s E e s'→X.xe e s'
section
variable {X:Cx} {CX:CXT} {k:Nat} {f C:Addr} {fd:FuncData} {ps:List Str} {sp:Sp} {dvs:List V} {ds:List Value} {E:XK} {x m:Str} {p pos apos:Pos} {e o:Expr} {es:List Expr} {ta:TE} {t:TA}
theorem Rt {pins:List (Addr × Obj)} {σ:St} {H:Hp} {s:Shared} {Q:VK} {us:List Value} {vs:List V} (F:FnOk X.prog X.w X.K X.mg X.base CX k f fd ps sp) (hr:Room k X.A) (hb:Binds X.K fd ps ds) (hd:Vals dvs ds) (hx:Passes CX X E)
 (I:Inv X pins σ H s) (r:Vals vs us) (h:sp (vs++dvs) H Q E):wpAny (model X.prog X.w) X.A (call (.ref f) us) (EP X pins σ Q) X.xe s:=by
 have r2:Vals (vs++dvs) (us++ds):=r.append hd
 have hl:(us++ds).length=ps.length:=by rw [← r2.length];exact F.len _ _ _ _ h
 refine wpAny_call (codeAny_mono (F.run X.A X.stack s H ⟨us,[]⟩ (us++ds) (vs++dvs) Q E hr I.env0 (hb s us I.kIn hl) r2 h) fun r s' hq=>?_)
 cases r with
 | error e=>exact hx pins σ H s e s' I hq
 | ok fl =>
  cases fl with
  | ret u=>exact I.after hq
  | next=>exact False.elim hq
  | brk=>exact False.elim hq
  | cont=>exact False.elim hq
theorem Ms (F:FnOk X.prog X.w X.K X.mg X.base CX k f fd ps sp) (hr:Room k X.A) (hg:Gl X x) (hm:X.mg x=some (.ref f)) (hk:PySem.W.keepIn X.K (.ref f)=true) (hb:Binds X.K fd ps ds) (hd:Vals dvs ds) (hx:Passes CX X E)
 (ha:PA X (e :: es) t) (hdb:(x == ("__debug__" : Str))=false:=by decide) (he:starEach (e :: es) X.env=(false,eval e X.env) :: starEach es X.env:=by rfl) (hpl:(backTo pos (starEach es X.env)).any (·.1)=false:=by rfl) :
 PE X (.Call (.Name x p) (e :: es) [] pos) (Qm sp dvs E t):=by
 intro pins s σ H Q I h
 refine wpAny_Call_Name_kw (Fp I hg hm ?_ hdb)
 refine PySem.W.callWith_K (h₀:=X.base) I.ok.mod.kin hk (thn (ha pos pins s σ H _ I h) fun us s1 ⟨vs,H1,I1,r,q⟩=>⟨I1.kIn,?_⟩) he hpl
 exact Rt F hr hb hd hx I1 r q
structure Mk (K:PySem.W.Frag) (C f:Addr):Prop where
 makes:PySem.W.makesIn K C=true
 init:PySem.W.findIn K (.ref C) "__init__" = some (some (.ref f))
 fn:PySem.W.isFn K (.ref f)=true
 kp:PySem.W.keepIn K (.ref C)=true
end
section
variable {X:Cx} {CX:CXT} {k:Nat} {f C:Addr} {fd:FuncData} {ps ks:List Str} {sp:Sp} {E:XK} {x m:Str} {p pos apos kpos:Pos} {e o:Expr} {es:List Expr} {kws:List Keyword} {te ta:TE} {t tk:TA} {nm:Option Str}
structure KBinds (K:PySem.W.Frag) (fd:FuncData) (ps ks:List Str) (g:List Value→List Value→List Value) (gV:List V→List V→List V):Prop where
 to:∀ (s:Shared) (us ws:List Value),K.In s.heap→(g us ws).length=ps.length→BindsTo s fd ⟨us,ks.zip ws⟩ (ps.zip (g us ws))
 rel:∀ {vs:List V} {us:List Value} {zs:List V} {ws:List Value},Vals vs us→Vals zs ws→Vals (gV vs zs) (g us ws)
variable {g:List Value→List Value→List Value} {gV:List V→List V→List V}
end
structure FnScope (N P:List Str) (sc:Scope):Prop where
 kind:sc.kind = .function
 co:sc.isCoroutine=false
 gen:sc.isGenerator=false
 nd:N.Nodup
 pre:N.take P.length=P
 par:∀ x ∈ P,sc.names.lookup x=some .local∨sc.names.lookup x=some .cell
 nofree:∀ y ∈ sc.names,y.2 ≠ .free
theorem yw {kindOf:Str→Option NameKind} {x:Str}:∀ {binds:List (Str × Value)} {m:Str→Option Value},(∀ v,(x,v) ∉ binds)→bindL kindOf binds m x=m x
 | [],_,_=>rfl
 | (n,v) :: r,m,h=>by
  unfold bindL
  rw [yw fun w hw=>h w (aM _ hw)]
  split
  ·have:x ≠ n:=by rintro rfl;exact h v aO
   simp [this]
  ·rfl
theorem yx {kindOf:Str→Option NameKind} {x:Str}:∀ {binds:List (Str × Value)} {m:Str→Option Value},(∀ v,(x,v) ∉ binds)→bindC kindOf binds m x=m x
 | [],_,_=>rfl
 | (n,v) :: r,m,h=>by
  unfold bindC
  rw [yx fun w hw=>h w (aM _ hw)]
  split
  ·rfl
  ·have:x ≠ n:=by rintro rfl;exact h v aO
   simp [this]
theorem yC {kindOf:Str→Option NameKind} {x:Str} {v:Value}:∀ {P:List Str} {vs:List Value} {i:Nat} {m:Str→Option Value},P.Nodup→P[i]? = some x→vs[i]? = some v→kindOf x=some .local →
 bindL kindOf (P.zip vs) m x=some v
 | [],_,_,_,_,h,_,_=>by simp at h
 | _ :: _,[],_,_,_,_,h,_=>by simp at h
 | p :: P,w :: vs,0,m,nd,h1,h2,hk=>by
  simp at h1 h2;subst h1;subst h2
  show bindL kindOf ((p,w) :: P.zip vs) m p=_
  unfold bindL
  rw [yw fun v hv=>(cD.mp nd).1 (pL hv).1,if_pos hk]
  simp
 | p :: P,w :: vs,i + 1,m,nd,h1,h2,hk=>by
  show bindL kindOf ((p,w) :: P.zip vs) m x=_
  unfold bindL
  exact yC (i:=i) (cD.mp nd).2 (by simpa using h1) (by simpa using h2) hk
theorem yE {kindOf:Str→Option NameKind} {x:Str} {v:Value}:∀ {P:List Str} {vs:List Value} {i:Nat} {m:Str→Option Value},P.Nodup→P[i]? = some x→vs[i]? = some v→kindOf x ≠ some .local →
 bindC kindOf (P.zip vs) m x=some v
 | [],_,_,_,_,h,_,_=>by simp at h
 | _ :: _,[],_,_,_,_,h,_=>by simp at h
 | p :: P,w :: vs,0,m,nd,h1,h2,hk=>by
  simp at h1 h2;subst h1;subst h2
  show bindC kindOf ((p,w) :: P.zip vs) m p=_
  unfold bindC
  rw [yx fun v hv=>(cD.mp nd).1 (pL hv).1,if_neg hk]
  simp
 | p :: P,w :: vs,i + 1,m,nd,h1,h2,hk=>by
  show bindC kindOf ((p,w) :: P.zip vs) m x=_
  unfold bindC
  exact yE (i:=i) (cD.mp nd).2 (by simpa using h1) (by simpa using h2) hk
def start (N:List Str) (vs:List V):St:=vs.map some++bF (N.length - vs.length) none
def Bf (CX:CXT) (P:Program) (w:World) (K:PySem.W.Frag) (mg:Str→Option Value) (base:Heap) (N:List Str) (qual:Str) (scope:Scope) (f:Addr) (cd:Value) (A:Around) (outer:List Env) (s:Shared) (H:Hp) (E:XK):Cx where
 prog:=P
 w:=w
 K:=K
 mg:=mg
 base:=base
 A:=A.deeper (envOfC qual scope s.heap.objs.size f cd)
 N:=N
 s₀:=s
 H₀:=H
 env:=envOfC qual scope s.heap.objs.size f cd
 outer:=outer
 stack:=envOfC qual scope s.heap.objs.size f cd :: outer
 ex:=[]
 calm:=true
 fn:=fun _=>true
 pn:=[]
 xe:=fun e s'=>wpAny (model P w) (A.deeper (envOfC qual scope s.heap.objs.size f cd)) (leaving (envOfC qual scope s.heap.objs.size f cd) e) (fun _ s''=>CX outer H s E e s'') (fun e' s''=>CX outer H s E e' s'') s'
theorem Bg {sc:Scope} {n:Nat} {x:Str} (h:sc.names.lookup x=some .cell):∃ c,(cellsFrom n sc.names []).lookup x=some c:=by
 have q:=PySem.W.cellsFrom_some sc.names n [] (.inl h)
 exact cN.mp q
theorem G_ {CX:CXT} {P:Program} {w:World} {K:PySem.W.Frag} {mg:Str→Option Value} {base:Heap} {N ps:List Str} {qual:Str} {scope:Scope} {f:Addr} {cd:Value} {A:Around} {outer:List Env} {s s1:Shared} {H:Hp} {E:XK} {us:List Value} {vs:List V}
 (S:FnScope N ps scope) (hd:A.handled=none) (e0:Env0 P w K mg base A outer s H) (hl:vs.length=ps.length) (r:Vals vs us)
 (x:InCallC s s.heap.objs.size (bindL (envOfC qual scope s.heap.objs.size f cd).kindOf (ps.zip us) fun _=>none) (cellsFrom (s.heap.objs.size + 1) scope.names []) (bindC (envOfC qual scope s.heap.objs.size f cd).kindOf (ps.zip us) fun _=>none) s1) :
 Inv (Bf CX P w K mg base N qual scope f cd A outer s H E) [] (start N vs) H s1:=by
 have hpl:ps.length ≤ N.length:=by have:=congrArg List.length S.pre;rw [gQ] at this;omega
 obtain ⟨h1,tk,rfl,hk⟩:=x.done
 have noA:∀ b:Addr,b ∉ (Bf CX P w K mg base N qual scope f cd A outer s H E).ex:=fun b z=>absurd (show b ∈ ([]:List Addr) from z) (by simp)
 refine ⟨⟨e0.mod,S.kind,rfl,rfl,bh _,fun y z c h1 h2=>?_,fun y hy=>?_,fun y c _ h=>?_,fun _=>hd,Around.frames_deeper e0.frames,.inr ⟨rfl,rfl⟩,fun b z=>absurd z (noA b),e0.bs,e0.bsz,fun b _ _=>noA b,fun b z=>absurd z (noA b),e0.funs,e0.frf⟩,
  rfl,e0.bare,Un.kept hk,⟨_,x.toInCall.ns,fun i y v h1 h2 h3=>?_⟩,fun y c h=>⟨_,x.cell y c h⟩,e0.hok.fresh (bh _),fun y c h=>?_,fun p hp=>absurd (show p ∈ ([]:List (Addr × Obj)) from hp) (by simp),e0.hok.kept hk,?_⟩
 ·exact name_of_addr x.apart (PySem.mem_of_lookup h1) (PySem.mem_of_lookup h2)
 ·have hy:scope.names.lookup y=some .cell∨scope.names.lookup y=some .free:=hy
  rcases hy with hy | hy
  ·exact Bg hy
  ·exact absurd rfl (S.nofree _ (PySem.mem_of_lookup hy))
 ·exact gC (x.above y c (PySem.mem_of_lookup h))
 ·have hi:i < vs.length:=by
   unfold start at h2
   by_cases hi:i < vs.length
   ·exact hi
   ·rw [cC (by simpa using hi)] at h2
    rw [eX] at h2
    split at h2 <;> cases h2
  have ha:vs[i]? = some v:=by
   unfold start at h2
   rw [cL (by simpa using hi),aN] at h2
   cases e:vs[i]? with
   | none=>rw [e] at h2;cases h2
   | some a=>rw [e] at h2;cases h2;rfl
  obtain ⟨u,hu,rv⟩:=r.get ha
  have hp:ps[i]? = some y:=by
   rw [← S.pre,n8 (by omega)];exact h1
  have ndP:ps.Nodup:=by rw [← S.pre];exact S.nd.sublist (List.take_sublist _ _)
  refine ⟨u,rv,?_⟩
  rcases S.par y (cZ hp) with k | k
  ·exact .inl ⟨k,yC ndP hp hu k⟩
  ·obtain ⟨c,e⟩:=Bg (n:=s.heap.objs.size + 1) k
   refine .inr ⟨.inl k,c,e,?_⟩
   have q:=x.cell y c e
   rw [yE ndP hp hu (by show scope.names.lookup y ≠ _;rw [k];decide)] at q
   exact q
 ·exact e0.hok.fresh (gC (x.above y c (PySem.mem_of_lookup h)))
 ·unfold start
  show _=N.length
  rw [bH,aJ,cj]
  omega
theorem Qn {CX:CXT} {P:Program} {w:World} {K:PySem.W.Frag} {mg:Str→Option Value} {base:Heap} {k:Nat} {f:Addr} {name qual:Str} {params:Arguments} {body:List Stmt} {scope:Scope} {dV kV doc pm cdv ct oc:Value} {an od:Option Addr}
 {osl:Array (Option Value)} {N ps:List Str} {sp:Sp} (lk:K.lookup f=some ⟨oc,od,.func (PySem.W.fnOf name qual params body scope dV kV doc pm an cdv ct),osl⟩) (hcd:PySem.W.codeIn K cdv qual=true) (S:FnScope N ps scope)
 (len:∀ vs H Q E,sp vs H Q E→vs.length=ps.length)
 (hbody:∀ (A:Around) (outer:List Env) (s:Shared) (H:Hp) (vs:List V) (Q:VK) (E:XK),Room k (A.deeper (envOfC qual scope s.heap.objs.size f cdv))→sp vs H Q E →
  ∃ t,PSs (Bf CX P w K mg base N qual scope f cdv A outer s H E) body t∧t { nx:=fun _ H'=>Q .non H',rt:=Q } (start N vs) H) :
 FnOk P w K mg base CX (k + 1) f (PySem.W.fnOf name qual params body scope dV kV doc pm an cdv ct) ps sp:=by
 refine ⟨len,fun A outer s H args us vs Q E hr e0 hb r hsp=>?_⟩
 have hl:=len _ _ _ _ hsp
 have KX:K.In s.heap:=e0.mod.kin.keeps fun b o e=>(e0.bs b o e).1
 have lim:s.heap.NoLimit:=e0.mod.nolimit.keeps fun b o e=>(e0.bs b o e).1
 have hkind:∀ y ∈ ps.zip us,scope.names.lookup y.1=some .local∨(scope.names.lookup y.1=some .cell∧((cellsFrom (s.heap.objs.size + 1) scope.names []).lookup y.1).isSome=true):=fun ⟨n,v⟩ hy=>by
  rcases S.par n (pL hy).1 with q | q
  ·exact .inl q
  ·exact .inr ⟨q,PySem.W.cellsFrom_some _ _ _ (.inl q)⟩
 refine codeAny_call_function hr.depth (KX _ _ lk) rfl S.co S.gen rfl (PySem.W.codeRec_of KX hcd) (hb _ _ _ _ ?_)
 refine wpAny_newFunctionEnv_cells S.kind hkind fun env he s1 x=>?_
 subst he
 refine ⟨lim.keeps x.toInCall.keep,codeAny_func ?_⟩
 obtain ⟨t,ht,hq⟩:=hbody A outer s H vs Q E (hr.deeper _) hsp
 have I:Inv (Bf CX P w K mg base N qual scope f cdv A outer s H E) [] (start N vs) H s1:=G_ S hr.hd e0 hl r x
 refine wpAny_mono (ht [] s1 (start N vs) H _ I hq) (fun fl s' hs=>?_) fun e s' hs=>hs
 have fin:∀ {σ':St} {H':Hp} {v:V} {u:Value},Inv (Bf CX P w K mg base N qual scope f cdv A outer s H E) [] σ' H' s'→RelV v u→Q v H'→CE outer P w H s Q u s' :=
  fun {σ' H' v u} J rv q=>⟨v,H',J.os,J.bare,J.base,J.hok,rv,q⟩
 cases fl with
 | ret u =>
  obtain ⟨v,σ',H',J,rv,q⟩:=hs
  exact fin J rv q
 | next =>
  obtain ⟨σ',H',J,q⟩:=hs
  exact fin (v:=V.non) (u:=Value.none) J rfl q
 | brk =>
  obtain ⟨_,_,_,q⟩:=hs
  exact False.elim q
 | cont =>
  obtain ⟨_,_,_,q⟩:=hs
  exact False.elim q
end L2
namespace L2
open PySem PySem.Spec PyProof.Rows
section
variable {X:Cx} {x:Str} {p pos:Pos} {e:Expr} {es:List Expr} {t:TA} {id T:String} {r:List V→Hp→VK→Prop}
def tCB (r:List V→Hp→VK→Prop) (t:TA):TE:=fun σ H Q=>t σ H fun vs H1=>r vs H1 Q
theorem oJ (hc:mj X (.builtin id) r) (hg:Gl X x) (hm:X.mg x=none) (hv:bootBuiltins x=some (.builtin id)) (ha:PA X (e :: es) t) (hn:x ≠ "__name__" := by decide) (hdb:(x == ("__debug__" : Str))=false:=by decide)
 (he:starEach (e :: es) X.env=(false,eval e X.env) :: starEach es X.env:=by rfl) (hpl:(backTo pos (starEach es X.env)).any (·.1)=false:=by rfl):PE X (.Call (.Name x p) (e :: es) [] pos) (tCB r t):=by
 intro pins s σ H Q I h
 refine wpAny_Call_Name_kw (qb I hg hm hv ?_ hn hdb)
 exact PyProof.Rows.callWith_builtin1 (thn (ha pos pins s σ H _ I h) fun us s1 ⟨vs,H1,I1,r1,q1⟩=>hc pins s1 σ H1 vs us Q I1 r1 q1) he hpl
theorem yF (hc:mj X (.type T) r) (hg:Gl X x) (hm:X.mg x=none) (hv:bootBuiltins x=some (.type T)) (ha:PA X (e :: es) t) (hn:x ≠ "__name__" := by decide) (hdb:(x == ("__debug__" : Str))=false:=by decide)
 (he:starEach (e :: es) X.env=(false,eval e X.env) :: starEach es X.env:=by rfl) (hpl:(backTo pos (starEach es X.env)).any (·.1)=false:=by rfl):PE X (.Call (.Name x p) (e :: es) [] pos) (tCB r t):=by
 intro pins s σ H Q I h
 refine wpAny_Call_Name_kw (qb I hg hm hv ?_ hn hdb)
 exact PyProof.Rows.callWith_type1 (thn (ha pos pins s σ H _ I h) fun us s1 ⟨vs,H1,I1,r1,q1⟩=>hc pins s1 σ H1 vs us Q I1 r1 q1) he hpl
end
end L2
namespace HT
open PySem PyProof.Rows
section
open PySem.SeqAt
open PySem.AutoSeq1 (wpAny_loadPart')
open PySem.MeetsSeq PySem.MeetsSeq2 PySem.MeetsSeq3
end
section
variable {prog:Program} {w:World} {A:Around} {E:Value→Shared→Prop} {s:Shared}
def sIx (n d:Nat):Option Int→Nat
 | none=>d
 | some v=>if v < 0 then (v + (n:Int)).toNat else min v.toNat n
end
end HT
namespace L2
open PySem PySem.Spec PyProof.Rows
abbrev TO:=St→Hp→(Option Int→Hp→Prop)→Prop
def PO (X:Cx) (e:Option Expr) (t:TO):Prop :=
 ∀ (pins:List (Addr × Obj)) (s:Shared) (σ:St) (H:Hp) (Q:Option Int→Hp→Prop),Inv X pins σ H s→t σ H Q →
  wpAny (model X.prog X.w) X.A (evalPart e X.env) (fun u s'=>∃ o H',Inv X pins σ H' s'∧IsPart u o∧Q o H') X.xe s
def Mt:TO:=fun _ H Q=>Q none H
def Vd (t:TE):TO:=fun σ H Q=>t σ H fun x H1=>∃ i,x = .int i∧Q (some i) H1
section
variable {X:Cx} {e:Expr} {te:TE} {lo hi:Option Expr} {tl th:TO} {pos p2:Pos}
theorem Mu:PO X none Mt:=by
 intro pins s σ H Q I h
 rw [evalPart_none]
 exact wpAny_pure ⟨none,H,I,.none,h⟩
theorem Mv (h:PE X e te):PO X (some e) (Vd te):=by
 intro pins s σ H Q I hw
 rw [evalPart_some]
 refine thn (h pins s σ H _ I hw) fun u s1 ⟨x,H1,I1,r1,q1⟩=>?_
 obtain ⟨i,rfl,q⟩:=q1
 obtain ⟨t,rfl⟩:=r1
 exact ⟨some i,H1,I1,.int i t,q⟩
def SlR (X:Cx) (r:V→Option Int→Option Int→Hp→VK→Prop):Prop :=
 ∀ (pins:List (Addr × Obj)) (s:Shared) (σ:St) (H:Hp) (x:V) (v vl vu:Value) (lo hi:Option Int) (sl:Addr) (Q:VK),Inv X pins σ H s→RelV x v→s.heap.IsSliceOf sl vl vu .none→IsPart vl lo→IsPart vu hi→r x lo hi H Q →
  ∃ T id,typeLookup (.type T) "__getitem__" = pure (some (.builtin id))∧s.TypeIs v T∧wpAny (model X.prog X.w) X.A (getItem v (.ref sl)) (EP X pins σ Q) X.xe s
def tSl (r:V→Option Int→Option Int→Hp→VK→Prop) (te:TE) (tl th:TO):TE:=fun σ H Q=>te σ H fun x H1=>tl σ H1 fun l H2=>th σ H2 fun u H3=>r x l u H3 Q
theorem Jw {r:V→Option Int→Option Int→Hp→VK→Prop} (hr:SlR X r) (he:PE X e te) (hl:PO X lo tl) (hu:PO X hi th):PE X (.Subscript e (.Slice lo hi none p2) pos) (tSl r te tl th):=by
 intro pins s σ H Q I h
 refine Subscript_ (thn (he pins s σ H _ I h) fun v s1 ⟨x,H1,I1,r1,q1⟩=>?_)
 refine wpAny_Slice (thn (hl pins s1 σ H1 _ I1 q1) fun vl s2 ⟨l,H2,I2,pl,q2⟩=>thn (hu pins s2 σ H2 _ I2 q2) fun vu s3 ⟨u,H3,I3,pu,q3⟩=>?_)
 rw [evalPart_none]
 refine wpAny_pure ?_
 have I4:Inv X pins σ H3 { s3 with heap:=s3.heap.push { cls:=.type "slice", data:=.fields #[vl,vu,.none] } }:=I3.kept (t':=s3.toks) fun b ob q=>Heap.get?_push_of_some _ q
 obtain ⟨T,id,hT,ht,hg⟩:=hr pins { s3 with heap:=s3.heap.push { cls:=.type "slice", data:=.fields #[vl,vu,.none] } } σ H3 x v vl vu l u s3.heap.objs.size Q I4 r1 (Heap.IsSliceOf.new ..) pl pu q3
 show wpAny (model X.prog X.w) X.A (subscriptTail e (.Slice lo hi none p2) v (.ref s3.heap.objs.size)) (EP X pins σ Q) X.xe { s3 with heap:=s3.heap.push { cls:=.type "slice", data:=.fields #[vl,vu,.none] } }
 exact tail_any (ops:=[.ref s3.heap.objs.size,v]) ht hT hg (by with_unfolding_all rfl)
def Hf (xs:List V) (lo hi:Option Int):List V:=(xs.drop (HT.sIx xs.length 0 lo)).take (HT.sIx xs.length xs.length hi - HT.sIx xs.length 0 lo)
theorem Bh (xs:List V) (lo hi:Option Int):(Hf xs lo hi).length ≤ xs.length:=by
 unfold Hf
 rw [gQ,gR]
 omega
end
end L2
namespace L2
open PySem PySem.Spec PyProof.Rows
def ixN (n:Nat) (i:Int):Option Nat:=if 0 ≤ i then (if i < n then some i.toNat else none) else if -(n:Int) ≤ i then some (i + n).toNat else none
def atI {α:Type} (xs:List α) (i:Int):Option α:=(ixN xs.length i).bind fun j=>xs[j]?
theorem Fw {n:Nat} {i:Int} {j:Nat} (h:ixN n i=some j):seqIndex? i n=some j∧j < n∧-(n:Int) ≤ i∧i < n:=by
 unfold ixN at h
 by_cases h0:0 ≤ i
 ·rw [if_pos h0] at h
  by_cases h1:i < n
  ·rw [if_pos h1] at h
   have e:i.toNat=j:=cU.inj h
   exact ⟨by rw [seqIndex_of h0 h1,e],by omega,by omega,h1⟩
  ·rw [if_neg h1] at h;cases h
 ·rw [if_neg h0] at h
  by_cases h1 : -(n:Int) ≤ i
  ·rw [if_pos h1] at h
   have e:(i + n).toNat=j:=cU.inj h
   exact ⟨by rw [seqIndex_neg (by omega) h1,e],by omega,h1,by omega⟩
  ·rw [if_neg h1] at h;cases h
theorem vm {α:Type} {xs:List α} {i:Int} {v:α} (h:atI xs i=some v):∃ j,seqIndex? i xs.length=some j∧xs[j]? = some v∧j < xs.length∧-(xs.length:Int) ≤ i∧i < xs.length:=by
 unfold atI at h
 cases e:ixN xs.length i with
 | none=>rw [e] at h;cases h
 | some j =>
  rw [e] at h
  obtain ⟨h1,h2,h3,h4⟩:=Fw e
  exact ⟨j,h1,h,h2,h3,h4⟩
def zm (b:Expr):Prop:=∀ o i,subscripted b false o i=operate [o,i] (getItem o i)
def IxR (X:Cx) (r:R2):Prop :=
 ∀ (value slice:Expr) (pins:List (Addr × Obj)) (s:Shared) (σ:St) (H:Hp) (x y:V) (v u:Value) (Q:VK),Inv X pins σ H s→RelV x v→RelV y u→r x y H Q →
  subscripted slice false v u=operate [v,u] (getItem v u)→wpAny (model X.prog X.w) X.A (subscriptTail value slice v u) (EP X pins σ Q) X.xe s
def MtR (X:Cx) (id:String) (r:V→List V→Hp→VK→Prop):Prop :=
 ∀ (pins:List (Addr × Obj)) (s:Shared) (σ:St) (H:Hp) (x:V) (xs:List V) (v:Value) (us:List Value) (Q:VK),Inv X pins σ H s→RelV x v→Vals xs us→r x xs H Q →
  wpAny (model X.prog X.w) X.A (call (.builtin id) (v :: us)) (EP X pins σ Q) X.xe s
section
variable {X:Cx} {a b:Expr} {ta tb:TE} {pos:Pos}
theorem IxR.or {r r':R2} (h:IxR X r) (h':IxR X r'):IxR X (fun x y H Q=>r x y H Q∨r' x y H Q):=by
 intro value slice pins s σ H x y v u Q I rx ry q hs
 rcases q with q | q
 ·exact h value slice pins s σ H x y v u Q I rx ry q hs
 ·exact h' value slice pins s σ H x y v u Q I rx ry q hs
theorem Ve {r:R2} (hr:IxR X r) (ha:PE X a ta) (hb:PE X b tb) (hs:zm b):PE X (.Subscript a b pos) (tOp r ta tb):=by
 intro pins s σ H Q I h
 exact Subscript_ (Ro ha hb I h fun v u s2 x y H2 I2 rx ry q=>hr a b pins s2 σ H2 x y v u Q I2 rx ry q (hs _ _))
def Vf (K:PySem.W.Frag):R2:=fun x y H Q=>∃ p xs i v,x = .ref p∧y = .int i∧SqL K H p xs∧atI xs i=some v∧Q v H
def Vg (K:PySem.W.Frag):R2:=fun x y H Q=>∃ p xs i v,x = .ref p∧y = .int i∧SqT K H p xs∧atI xs i=some v∧Q v H
def Vh:R2:=fun x y H Q=>∃ z i c,x = .str z∧y = .int i∧z.length ≤ sizeLine∧atI z.cps.toList i=some c∧Q (.str ⟨#[c]⟩) H
theorem Mw:IxR X (Vf X.K):=by
 intro value slice pins s σ H x y v u Q I rx ry h hs
 obtain ⟨p,xs,i,z,rfl,rfl,hq,he,q⟩:=h
 cases rx
 obtain ⟨t,rfl⟩:=ry
 obtain ⟨its,r,pl,hz⟩:=I.list hq
 obtain ⟨j,h1,h2,h3,h4,h5⟩:=vm he
 obtain ⟨w,ew,rw'⟩:=r.get h2
 have hl:=r.length
 have hn:=uh
 have fin:EP X pins σ Q w s:=⟨z,H,I,rw',q⟩
 by_cases h0:0 ≤ i
 ·have hj:i.toNat=j:=by
   rw [seqIndex_of h0 h5] at h1
   exact cU.inj h1
  exact item_listR pl.isList h0 (by omega) (by rw [hj];simpa using ew) fin hs
 ·have hj:(i + (its.toArray.size:Int)).toNat=j:=by
   rw [seqIndex_neg (by omega) h4] at h1
   rw [bL,← hl]
   exact cU.inj h1
  exact subscriptTail_builtinR (x:=w) pl.isList.typeIs slot_list_getitem.lookup
   (wpAny_getItem_list_neg (Q:=fun r s'=>r=w∧EP X pins σ Q r s') pl.isList (by omega) (by rw [bL] <;> omega) (by omega) (by rw [hj];simpa using ew) ⟨rfl,fin⟩) hs
theorem Ru:IxR X (Vg X.K):=by
 intro value slice pins s σ H x y v u Q I rx ry h hs
 obtain ⟨p,xs,i,z,rfl,rfl,hq,he,q⟩:=h
 cases rx
 obtain ⟨t,rfl⟩:=ry
 obtain ⟨its,r,pl,hz⟩:=I.tuple hq
 obtain ⟨j,h1,h2,h3,h4,h5⟩:=vm he
 obtain ⟨w,ew,rw'⟩:=r.get h2
 have hl:=r.length
 have hn:=uh
 have fin:EP X pins σ Q w s:=⟨z,H,I,rw',q⟩
 exact subscriptTail_builtinR (x:=w) pl.typeIs slot_tuple_getitem.lookup
  (getItem_tuple (j:=j) (Q:=fun r s'=>r=w∧EP X pins σ Q r s') pl (by omega) (by omega) (by rw [bL,← hl];exact h1) (by simpa using ew) ⟨rfl,fin⟩) hs
theorem Rv:IxR X Vh:=by
 intro value slice pins s σ H x y v u Q I rx ry h hs
 obtain ⟨z,i,c,rfl,rfl,hz,he,q⟩:=h
 obtain ⟨t,rfl⟩:=rx
 obtain ⟨t',rfl⟩:=ry
 obtain ⟨j,h1,h2,h3,h4,h5⟩:=vm he
 have hl:z.cps.toList.length=z.length:=by simp [Str.length]
 rw [hl] at h1 h4 h5
 have hn:=uh
 exact tail_any (typeIs_str s z t) slot_str_getitem.lookup (getItem_str (c:=c) (by
  have e1:decide (i < -(2 ^ 63:Int))=false:=dFa (by omega)
  have e2:decide (i ≥ 2 ^ 63)=false:=dFa (by omega)
  rw [e1,e2,Bool.or_false]) (by rw [h1];simpa using h2) ⟨.str ⟨#[c]⟩,H,I.tok _,⟨_,rfl⟩,q⟩) hs
def rIx (K:PySem.W.Frag):R2:=fun x y H Q=>Vf K x y H Q∨Vg K x y H Q∨Vh x y H Q
theorem Rw:IxR X (rIx X.K):=Mw.or (Ru.or Rv)
theorem Di (its:List Value) (n j:Nat) (u:Value):Obj.mapSeq (·.setIfInBounds j u) { cls:=.type "list", data:=.seq its.toArray n } = { cls:=.type "list", data:=.seq (its.set j u).toArray n }:=by
 simp [Obj.mapSeq]
theorem Inv.lst {pins:List (Addr × Obj)} {σ:St} {H:Hp} {s:Shared} {p:Addr} {xs:List V} (I:Inv X pins σ H s) (h:H p=some (.lst xs)) :
 ∃ (its:List Value) (n:Nat),Vals xs its∧s.heap.get? p=some { cls:=.type "list", data:=.seq its.toArray n }∧xs.length ≤ sizeLine:=by
 obtain ⟨z,its,n,r,e⟩:=I.hok p _ h
 exact ⟨its,n,r,e,z⟩
theorem Inv.lstUpd {pins:List (Addr × Obj)} {σ:St} {H:Hp} {s:Shared} {p:Addr} {xs ys:List V} {its its':List Value} {n n':Nat} {f:Obj→Obj} (I:Inv X pins σ H s) (h:H p=some (.lst xs))
 (ho:s.heap.get? p=some { cls:=.type "list", data:=.seq its.toArray n }) (hf:f { cls:=.type "list", data:=.seq its.toArray n } = { cls:=.type "list", data:=.seq its'.toArray n' }) (r:Vals ys its') (hz:ys.length ≤ sizeLine) (t:Nat) :
 Inv X pins σ (upd H p (.lst ys)) { s with heap:=s.heap.update p f,toks:=t }:=by
 have e:(s.heap.update p f).get? p=some { cls:=.type "list", data:=.seq its'.toArray n' }:=by
  rw [Heap.get?_update_self f ho (by rw [hf] <;> rfl),hf]
 refine I.write (x:=p) (e:=p) (by rw [h];trivial) (.inl rfl) (fun b u hb q=>(Heap.get?_update_other _ _ (Ne.symm hb)).trans q) ⟨_,e⟩ ?_
 exact ⟨hz,its',n',r,e⟩
def Vi:V→V→V→Hp→(Hp→Prop)→Prop:=fun o i v H Q=>∃ p xs k j,o = .ref p∧i = .int k∧H p=some (.lst xs)∧ixN xs.length k=some j∧Q (upd H p (.lst (xs.set j v)))
theorem set_list:Rg X Vi:=by
 intro pins s σ H o i v ov iv u Q I ro ri rv h
 obtain ⟨p,xs,k,j,rfl,rfl,hp,hj,q⟩:=h
 cases ro
 obtain ⟨t,rfl⟩:=ri
 obtain ⟨its,n,r,ho,hz⟩:=I.lst hp
 obtain ⟨h1,h2,h3,h4⟩:=Fw hj
 have hl:=r.length
 have hn:=uh
 have I':Inv X pins σ (upd H p (.lst (xs.set j v))) { s with heap:=s.heap.update p (Obj.mapSeq (·.setIfInBounds j u)) } :=
  I.lstUpd hp ho (Di its n j u) (r.set rv j) (by rw [dR];exact hz) s.toks
 by_cases h0:0 ≤ k
 ·have hk:k.toNat=j:=by
   rw [seqIndex_of h0 h4] at h1
   exact cU.inj h1
  exact PySem.W.ki_setAt ho h0 (by omega) (by rw [bL,← hl];exact h4) (by rw [hk];exact ⟨_,I',q⟩)
 ·have hk:(k + (its.toArray.size:Int)).toNat=j:=by
   rw [seqIndex_neg (by omega) h3] at h1
   rw [bL,← hl]
   exact cU.inj h1
  exact PySem.W.ki_setBack ho (by omega) (by rw [bL,← hl];exact h3) (by omega) (by rw [hk];exact ⟨_,I',q⟩)
theorem zp (lo hi:Option Int) (n:Nat):(sliceBounds lo hi none n).1=((HT.sIx n 0 lo:Nat):Int)∧(sliceBounds lo hi none n).2.1=((HT.sIx n n hi:Nat):Int)∧(sliceBounds lo hi none n).2.2=1:=by
 refine ⟨?_,?_,rfl⟩
 ·cases lo with
  | none=>simp [sliceBounds,HT.sIx]
  | some i =>
   simp only [sliceBounds,HT.sIx,Option.getD_none,show (1:Int) > 0 by decide,if_true]
   by_cases h:i < 0
   ·simp only [h,if_true] <;> omega
   ·simp only [h,if_false] <;> omega
 ·cases hi with
  | none=>simp [sliceBounds,HT.sIx]
  | some i =>
   simp only [sliceBounds,HT.sIx,Option.getD_none,show (1:Int) > 0 by decide,if_true]
   by_cases h:i < 0
   ·simp only [h,if_true] <;> omega
   ·simp only [h,if_false] <;> omega
theorem xQ (its:List Value) (lo hi:Option Int):slicePick its.toArray lo hi none=((its.drop (HT.sIx its.length 0 lo)).take (HT.sIx its.length its.length hi - HT.sIx its.length 0 lo)).toArray:=by
 obtain ⟨h1,h2,h3⟩:=zp lo hi its.toArray.size
 unfold slicePick
 rw [h1,h2,h3]
 simp only [sliceRange_one,pick_run,bL] <;> rfl
def Xq (K:PySem.W.Frag):V→Option Int→Option Int→Hp→VK→Prop:=fun x lo hi H Q=>∃ a xs,x = .ref a∧SqL K H a xs∧∀ p,H p=none→Q (.ref p) (upd H p (.lst (Hf xs lo hi)))
theorem Mx:SlR X (Xq X.K):=by
 intro pins s σ H x v vl vu lo hi sl Q I rx hs pl pu h
 obtain ⟨a,xs,rfl,hx,q⟩:=h
 cases rx
 obtain ⟨its,r,ht,hz⟩:=I.list hx
 have hlen:=r.length
 refine ⟨"list", _,slot_list_getitem.lookup,ht.isList.typeIs,?_⟩
 refine wpAny_getItem_list_slice ht.isList hs pl pu .none (by simp) ?_ (by rw [bL] <;> omega)
 rw [xQ,← hlen]
 refine ⟨.ref s.heap.objs.size,_,I.laid (t':=s.toks) (o:=.lst (Hf xs lo hi)) (fun b ob q=>Heap.get?_push_of_some _ q) (bh _) ?_,rfl,q _ (I.hok.fresh (bh _))⟩
 exact ⟨bV (Bh xs lo hi) hz,_,0,(r.drop (HT.sIx xs.length 0 lo)).take (HT.sIx xs.length xs.length hi - HT.sIx xs.length 0 lo),Heap.get?_push_size _ rfl⟩
theorem cG:mj X (.builtin "len") (fun xs H Q=>∃ p ys,xs=[.ref p]∧(SqL X.K H p ys∨SqT X.K H p ys)∧Q (.int ys.length) H):=by
 intro pins s σ H xs us Q I r h
 obtain ⟨p,ys,rfl,hq,q⟩:=h
 obtain ⟨u,rfl,rx⟩:=vals1 r
 cases rx
 have hn:=uh
 rcases hq with hq | hq
 ·obtain ⟨its,r',pl,hz⟩:=I.list hq
  have hlen:=r'.length
  exact Calls.call_len_list pl.isList (by simp only [bL] <;> omega) ⟨.int ys.length,H,I.tok _,⟨s.toks + 1,by rw [bL,hlen]⟩,q⟩
 ·obtain ⟨its,r',pl,hz⟩:=I.tuple hq
  have hlen:=r'.length
  exact len_tuple pl (by simp only [bL] <;> omega) ⟨.int ys.length,H,I.tok _,⟨s.toks + 1,by rw [bL,hlen]⟩,q⟩
theorem zq:mj X (.type "list") (fun xs H Q=>∃ p ys,xs=[.ref p]∧(SqL X.K H p ys∨SqT X.K H p ys)∧∀ l,H l=none→Q (.ref l) (upd H l (.lst ys))):=by
 intro pins s σ H xs us Q I r h
 obtain ⟨p,ys,rfl,hq,q⟩:=h
 obtain ⟨u,rfl,rx⟩:=vals1 r
 cases rx
 have fin:∀ (its:List Value),Vals ys its→ys.length ≤ sizeLine→∀ (h':Heap) (c':Nat),(∀ b o',s.heap.get? b=some o'→h'.get? b=some o') →
  h'.get? s.heap.objs.size=some { cls:=.type "list", dict:=none,data:=.seq its.toArray c',slots:=#[] }→EP X pins σ Q (.ref s.heap.objs.size) { s with heap:=h' }:=fun its r' hz h' c' kp e =>
  ⟨.ref s.heap.objs.size,_,I.laid (t':=s.toks) kp (bh _) (show gO X.prog X.w _ h' _ (.lst ys) from ⟨hz,its,c',r',e⟩),rfl,q _ (I.hok.fresh (bh _))⟩
 rcases hq with hq | hq
 ·obtain ⟨its,r',pl,hz⟩:=I.list hq
  have hlen:=r'.length
  obtain ⟨o,ho,hc,n,hd⟩:=pl.isList
  exact call_list_seq p (.inl rfl) ho hc hd (fun h' c' kp e=>fin its r' hz h' c' kp e) (by simp only [bL] <;> omega)
 ·obtain ⟨its,r',pl,hz⟩:=I.tuple hq
  have hlen:=r'.length
  obtain ⟨o,ho,hc,n,hd⟩:=pl
  exact call_list_seq p (.inr rfl) ho hc hd (fun h' c' kp e=>fin its r' hz h' c' kp e) (by simp only [bL] <;> omega)
def tyV (K:PySem.W.Frag) (T:String) (x:V) (H:Hp):Prop:=match x with
 | .str _=>T = "str"
 | .int _=>T = "int"
 | .ref p=>(T = "list" ∧ ∃ xs,SqL K H p xs)∨(T = "tuple" ∧ ∃ o,K.lookup p=some o∧o.cls = .type "tuple" ∧ o.dict=none) ∨
  (T = "dict" ∧ ((∃ kvs,H p=some (.dK kvs))∨∃ kvs,H p=some (.dT kvs)))∨(T = "set" ∧ ∃ S n,H p=some (.set S n))
 | _=>False
theorem Rx {pins:List (Addr × Obj)} {σ:St} {H:Hp} {s:Shared} {T:String} {x:V} {v:Value} (I:Inv X pins σ H s) (r:RelV x v) (ty:tyV X.K T x H) :
 s.TypeIs v T∧∀ a,v = .ref a→∃ ob,s.heap.get? a=some ob∧ob.dict=none:=by
 cases x with
 | str z =>
  obtain ⟨t,rfl⟩:=r
  cases (show T = "str" from ty)
  exact ⟨typeIs_str s z t,fun _ e=>nomatch e⟩
 | int i =>
  obtain ⟨t,rfl⟩:=r
  cases (show T = "int" from ty)
  exact ⟨typeIs_int s i t,fun _ e=>nomatch e⟩
 | ref p =>
  cases r
  rcases ty with ⟨rfl,xs,hq⟩ | ⟨rfl,o,hk,hc,hd⟩ | ⟨rfl,hk⟩ | ⟨rfl,S,n,hk⟩
  ·obtain ⟨its,_,pl,_⟩:=I.list hq
   refine ⟨pl.isList.typeIs,fun a e=>?_⟩
   cases e
   obtain ⟨o,n,e,c,hd,_⟩:=pl
   exact ⟨o,e,hd⟩
  ·refine ⟨⟨o,I.kIn p o hk,hc⟩,fun a e=>?_⟩
   cases e
   exact ⟨o,I.kIn _ o hk,hd⟩
  ·have z:∃ o,s.heap.get? p=some o∧o.ExactDict:=by
    rcases hk with ⟨kvs,hk⟩ | ⟨kvs,hk⟩
    ·obtain ⟨_,_,_,_,o,_,_,e,ex,_⟩:=I.hok p _ hk
     exact ⟨o,e,ex⟩
    ·obtain ⟨_,_,_,_,o,_,_,e,ex,_⟩:=I.hok p _ hk
     exact ⟨o,e,ex⟩
   obtain ⟨o,e,ex⟩:=z
   refine ⟨⟨o,e,ex.1⟩,fun a e2=>?_⟩
   cases e2
   exact ⟨o,e,ex.2.1⟩
  ·obtain ⟨o,_,_,_,e,ex,_⟩:=I.hok p _ hk
   refine ⟨⟨o,e,ex.1⟩,fun a e2=>?_⟩
   cases e2
   exact ⟨o,e,ex.2.1⟩
 | _=>exact False.elim ty
def tBM (K:PySem.W.Frag) (T:String) (r:V→List V→Hp→VK→Prop) (to:TE) (t:TA):TE:=fun σ H Q=>to σ H fun x H1=>tyV K T x H1∧t σ H1 fun xs H2=>r x xs H2 Q
variable {o e:Expr} {es:List Expr} {to:TE} {t:TA} {name:Str} {apos cpos:Pos} {T id:String} {r:V→List V→Hp→VK→Prop}
theorem Qo (pa:PlainAttrs T) (slot:Slot T name id) (hty:typeOf (.builtin id)=pure (.type "method_descriptor")) (hm:MtR X id r) (ho:PE X o to) (ha:PA X (e :: es) t)
 (hbase:attributeBase o name X.env (eval o X.env)=eval o X.env:=by rfl)
 (hfew:((backTo cpos (starEach (e :: es) X.env)).all (fun x=>!x.1) && (backToKw cpos (keywordEach [] X.env)).all (fun x=>x.1.isSome)
  && decide ((e :: es).length + ([]:List Keyword).length + (if ([]:List Keyword).isEmpty then 0 else 1) < 30))=true:=by rfl)
 (hline:(apos.endLine == cpos.line)=true:=by rfl) (hs:starEach (e :: es) X.env=(false,eval e X.env) :: starEach es X.env:=by rfl) (hplain:(backTo cpos (starEach es X.env)).any (·.1)=false:=by rfl) :
 PE X (.Call (.Attribute o name apos) (e :: es) [] cpos) (tBM X.K T r to t):=by
 intro pins s σ H Q I h
 refine wpAny_Call_method_late hbase hfew hline rfl (thn (ho pins s σ H _ I h) fun v s1 ⟨x,H1,I1,r1,ty,q1⟩=>?_)
 obtain ⟨h1,h2⟩:=Rx I1 r1 ty
 refine ⟨T,id,pa,slot,hty,h1,h2,?_⟩
 have hA:=ha cpos pins s1 σ H1 _ I1 q1
 rw [hs] at hA ⊢
 refine Calls.callWith_builtin (by show (false || (backTo cpos (starEach es X.env)).any (·.1))=false;rw [hplain] <;> rfl) (Calls.evalArgs_plain ?_)
 exact thn hA fun us s2 ⟨vs,H2,I2,r2,q2⟩=>hm pins s2 σ H2 x vs v us Q I2 r1 r2 q2
/- xs.append(e),list.index on a module's tuple .. are MtR facts of 06m -/
end
end L2
namespace L2
open PySem PySem.Spec PyProof.Rows
def MtM (X:Cx) (id:String) (r:V→List V→Hp→VK→Prop):Prop :=
 ∀ (pins:List (Addr × Obj)) (s:Shared) (σ:St) (H:Hp) (x:V) (xs:List V) (v:Value) (us:List Value) (Q:VK),Inv X pins σ H s→RelV x v→Vals xs us→r x xs H Q →
  wpAny (model X.prog X.w) X.A (call (.builtin id) (v :: us)) (EP X pins σ Q) X.xe s
theorem Vals.one:∀ {x:V} {us:List Value},Vals [x] us→∃ u,us=[u]∧RelV x u
 | _,_,.cons r .nil=>⟨_,rfl,r⟩
theorem Vals.two:∀ {x y:V} {us:List Value},Vals [x,y] us→∃ u v,us=[u,v]∧RelV x u∧RelV y v
 | _,_,_,.cons r (.cons q .nil)=>⟨_,_,rfl,r,q⟩
theorem Vals.zero:∀ {us:List Value},Vals [] us→us=[]
 | _,.nil=>rfl
theorem Vals.eraseIdx:∀ {xs:List V} {us:List Value} (i:Nat),Vals xs us→Vals (xs.eraseIdx i) (us.eraseIdx i)
 | _,_,_,.nil=>.nil
 | _,_,0,.cons _ t=>t
 | _,_,i + 1,.cons r t=>.cons r (Vals.eraseIdx i t)
theorem Vals.rep {xs:List V} {us:List Value} (h:Vals xs us):∀ k:Nat,Vals (bF k xs).flatten (bF k us).flatten
 | 0=>.nil
 | k + 1=>by
  rw [cW,cW,fY,fY]
  exact Vals.append h (Vals.rep h k)
theorem foldl_rep (its:List Value):∀ (k:Nat) (acc:List Value),
 vL (fun x1 x2=>x1++x2) acc.toArray (bF k its.toArray)=(acc++(bF k its).flatten).toArray
 | 0,acc=>by simp
 | k + 1,acc=>by
  have e:acc.toArray++its.toArray=(acc++its).toArray:=by simp
  have e2:(acc++its)++(bF k its).flatten=acc++(bF (k + 1) its).flatten:=by
   rw [cW,fY,fZ]
  rw [← e2,← foldl_rep its k (acc++its),← e,cW,List.foldl_cons]
section
variable {X:Cx} {pins:List (Addr × Obj)} {σ:St} {H:Hp} {s:Shared} {l b:Addr} {xs ys zs:List V}
theorem Inv.lset {its its':List Value} {n:Nat} {f:Array Value→Array Value} {t':Nat} (I:Inv X pins σ H s) (hH:H l=some (.lst xs))
 (e:s.heap.get? l=some { cls:=.type "list", data:=.seq its.toArray n }) (hf:f its.toArray=its'.toArray) (hv:Vals ys its') (hz:ys.length ≤ sizeLine) :
 Inv X pins σ (upd H l (.lst ys)) { s with heap:=s.heap.update l (Obj.mapSeq f),toks:=t' }:=by
 have q:=PySem.IsL.update e f
 rw [hf] at q
 refine I.write (x:=l) (e:=l) (by rw [hH];exact trivial) (.inl rfl) (fun b' u hb hu=>(Heap.get?_update_other s.heap (Obj.mapSeq f) (Ne.symm hb)).trans hu) ⟨_,q⟩ ?_
 exact ⟨hz,its',_,hv,q⟩
theorem Inv.lnew {its:List Value} {t':Nat} (I:Inv X pins σ H s) (hv:Vals ys its) (hz:ys.length ≤ sizeLine) :
 Inv X pins σ (upd H s.heap.objs.size (.lst ys)) { s with heap:=s.heap.push { cls:=.type "list", data:=.seq its.toArray },toks:=t' } :=
 I.laid (fun _ _ q=>Heap.get?_push_of_some _ q) (bh _) ⟨hz,its,0,hv,Heap.get?_push_size _ rfl⟩
theorem Inv.fresh (I:Inv X pins σ H s):H s.heap.objs.size=none:=I.hok.fresh (bh _)
theorem Inv.lstM (I:Inv X pins σ H s) (hH:H l=some (.lst xs)):xs.length ≤ sizeLine∧∃ (its:List Value) (n:Nat),Vals xs its∧xs.length=its.length∧s.heap.get? l=some { cls:=.type "list", data:=.seq its.toArray n }:=by
 obtain ⟨z,its,n,r,e⟩:=I.hok l _ hH
 exact ⟨z,its,n,r,r.length,e⟩
theorem Jx {n:Nat} (h:n ≤ sizeLine):Builtin.List.listTooLong n=false:=by
 unfold Builtin.List.listTooLong
 exact dFa (by omega)
end
section
variable {X:Cx}
def Mz:V→List V→Hp→VK→Prop:=fun x vs H Q=>∃ l xs y,x = .ref l∧vs=[y]∧H l=some (.lst xs)∧xs.length < sizeLine∧Q .non (upd H l (.lst (xs++[y])))
theorem yG:MtM X "list.append" Mz:=by
 intro pins s σ H x vs v us Q I rx rv h
 obtain ⟨l,xs,y,rfl,rfl,hH,hz,q⟩:=h
 cases rx
 obtain ⟨u,rfl,ru⟩:=rv.one
 obtain ⟨z,its,n,r,hl,e⟩:=I.lstM hH
 refine call_meets F.slot_list_append ⟨_,e,rfl⟩ F.entry_list_append (F.args_list_append_2 _ _) (PySem.list_append l its.toArray n u (by rw [bL];omega)) ⟨e,?_⟩
 refine ⟨.non,_,I.lset (its':=its++[u]) hH e (by simp) (r.append (.cons ru .nil)) ?_,rfl,q⟩
 rw [bH,pX]
 omega
def Xr:R2:=fun x y H Q=>∃ l k xs,x = .ref l∧y = .int k∧H l=some (.lst xs)∧-(2 ^ 63) ≤ k∧k < 2 ^ 63∧xs.length * k.toNat ≤ sizeLine ∧
 ∀ p,H p=none→Q (.ref p) (upd H p (.lst (bF k.toNat xs).flatten))
theorem len_rep {α:Type} (xs:List α) (k:Nat):(bF k xs).flatten.length=k * xs.length:=by
 induction k with
 | zero=>simp
 | succ k ih=>rw [cW,fY,bH,ih,Nat.succ_mul,Nat.add_comm]
theorem Ry:OpR X (binaryOp .Mult) Xr:=by
 intro pins s σ H x y v u Q I rx ry h
 obtain ⟨l,k,xs,rfl,rfl,hH,h1,h2,hz,q⟩:=h
 cases rx
 obtain ⟨t,rfl⟩:=ry
 obtain ⟨z,its,n,r,hl,e⟩:=I.lstM hH
 have hlen:its.toArray.size * k.toNat ≤ sizeLine:=by rw [bL,← hl];exact hz
 have hcap:¬ its.toArray.size * k.toNat > (2 ^ 63 - 1) / 8:=by
  have:(sizeLine:Nat) ≤ (2 ^ 63 - 1) / 8:=by decide
  omega
 have hfit:¬ (!Builtin.List.listFitsIndex k)=true:=by
  rw [fitsIndex_both h1 h2]
  exact dB
 have hlong:¬ Builtin.List.listTooLong (its.toArray.size * k.toNat)=true:=by
  rw [Jx hlen]
  exact dB
 have hnew:vL (fun x1 x2=>x1++x2) #[] (bF (if its.toArray.isEmpty=true then 0 else k.toNat) its.toArray)=(bF k.toNat its).flatten.toArray:=by
  have f0:∀ m:Nat,vL (fun x1 x2=>x1++x2) #[] (bF m its.toArray)=(bF m its).flatten.toArray:=fun m=>by
   have:=foldl_rep its m []
   rw [pN] at this
   exact this
  rw [f0]
  cases its with
  | nil=>simp
  | cons a r'=>rw [if_neg (by simp)]
 refine wpAny_binaryOp_repeat_ref (T := "list") (U := "int") (by decide) ⟨_,e,rfl⟩ (fun s'=>typeIs_int s' k t) noFill_list_mul F.fills_int_mul F.slot_int_rmul repeat_list F.slot_int_index.lookup
  (call_meets F.slot_int_rmul (typeIs_int s k t) F.entry_int_rmul (F.args_int_rmul_2 _ _) (int___rmul___int_list k t l its.toArray n)
   ⟨e,rfl,⟨_,e,rfl⟩,call_meets F.slot_list_mul ⟨_,e,rfl⟩ F.entry_list_mul (F.args_list_mul_2 _ _) (AutoListH.list___mul___list_int_3 l its.toArray n k t hfit hcap hlong) ⟨e,?_⟩⟩)
 rw [hnew]
 exact ⟨.ref _,_,I.lnew (t':=s.toks) (r.rep k.toNat) (by rw [len_rep,Nat.mul_comm];exact hz),rfl,q _ I.fresh⟩
end
section
variable {prog:Program} {w:World} {A:Around} {E:Value→Shared→Prop} {s:Shared}
set_option maxRecDepth 100000 in
end
section
variable {X:Cx}
end
end L2
namespace Att
open PySem PySem.W PySem.Calls PyProof.Rows
theorem uZ {P:Params} {h:Heap}:∀ (ns:List Int) (vs:List Value),WellAll P h vs (ns.map WData.int)→IntsAre vs ns:=by
 intro ns
 induction ns with
 | nil =>
  intro vs w
  rw [oV] at w
  cases w
  exact .nil
 | cons n ns ih =>
  intro vs w
  rw [bI] at w
  cases w with
  | cons a b =>
   cases a
   exact .cons _ _ (ih _ b)
theorem Hg {l:OpenLaw} {n:Nat} (hn:l.most=some n) {P:Params} {h:Heap} {args:List WData} {vals:List Value}
 (hpre:l.row.toRowW.claim.pre args=true) (hwl:WellAll P h vals args) :
 ∃ a vs ns,vals=[Value.ref a]∧args=[WData.list (ns.map WData.int)]∧h.get? a=some { cls:=.type "list", data:=.seq vs.toArray }∧IntsAre vs ns∧ns.length ≤ n:=by
 have hsh:WShape.hasAll [] args [.list .int]=true:=(pre_splitW hpre).1
 have hc:l.pre.holds [] { args:=args }=true:=(pre_splitW hpre).2
 obtain ⟨d,r,rfl,h1,h2⟩:=hasAllW_cons hsh
 obtain rfl:=hasAllW_nil h2
 obtain ⟨xs,rfl,h3⟩:=hasW_list h1
 obtain ⟨ns,rfl⟩:=items_int h3
 have hlen:ns.length ≤ n:=by
  unfold OpenLaw.pre at hc
  have h4:(WTm.not (.lt (.lit (.int (n:Int))) (.len (.arg 0)))).holds [] { args:=[.list (ns.map .int)] }=true:=by
   have h4:=(holds_andW hc).1
   rw [hn] at h4
   exact h4
  have h5:=condW_of h4 (w_not (w_lt w_lit (w_len_list (w_arg rfl))))
  rw [aJ] at h5
  refine Nat.le_of_not_lt fun q=>?_
  have q':(n:Int) < ((ns.length:Nat):Int):=by omega
  first
   | (rw [dTr q'] at h5;exact absurd h5 (by decide))
   | (simp at h5;omega)
 cases hwl with
 | cons w1 w2 =>
  cases w2
  cases w1 with
  | list ho hall=>exact ⟨_,_,ns,rfl,rfl,ho,uZ ns _ hall,hlen⟩
theorem Hh (l:OpenLaw) (args:List WData):l.row.toRowW.claim.post args (.bool true) args=true :=
 postW_of (r:=l.row.toRowW) (X:=(true == true))
  (show WShape.has [] (.bool true) .bool=true by first | rfl | decide | simp [WShape.has,WShape.arms,WShape.armsAll])
  (show (WTm.eq .res (.lit (.bool true))).value [] { args:=args,res:=some (.bool true),after:=args }=some (.bool (true == true)) from w_eq_bool (w_res rfl) w_lit) rfl
theorem Bj {l:OpenLaw} {n:Nat} {q:Program} {loose:List Str} {XP:(Str→Option Value)→Heap→Prop} {YP:World→Heap→Prop} {d:DefRec}
 (hn:l.most=some n) (hdf:d.params.defaults=[])
 (call:∀ (w:World) (s₀ s₁:Shared) (mg mb:Str→Option Value) (fa:Addr) (o:Obj) (pm cd doc:Value) (a:Addr) (vs:List Value) (ns:List Int),
  Ground q loose [] XP w s₀ mg mb s₁.heap→YP w s₁.heap →
  s₁.heap.get? fa=some o→o.data = .func (docDef d.name d.params d.body d.scope pm cd doc)→s₁.heap.CodeRec cd d.name→mg d.name=some (.ref fa) →
  s₁.heap.get? a=some { cls:=.type "list", data:=.seq vs.toArray }→IntsAre vs ns→ns.length ≤ n→s₁.gens = #[] →
  codeAny (model l.prog w) callerA (.call (.ref fa) ⟨[.ref a],[]⟩) (fun r s'=>r = .ok (.ret (.bool true))∧OldK s₁.heap s'.heap∧s'.os=s₁.os∧AllBare s'.gens) s₁) :
 WalkO q loose XP YP l.row.toRowW d [] (fun f vs=>PySem.call f vs):=by
 intro w s₀ s₁ mg mb G Y fa o pm cd doc dV kV ho hd hcd hD hmg hg args vals as hpre hlay hrd hwl hlo
 obtain rfl:dV = .none:=Dflts.none hD hdf
 obtain rfl:kV = .none:=Dflts.noKw hD
 obtain ⟨a,vs,ns,rfl,rfl,hobj,hints,hlen⟩:=Hg hn hpre hwl
 refine enter_call (codeAny_mono (call w s₀ s₁ mg mb fa o pm cd doc a vs ns G Y ho (fd_plain hd) hcd hmg hobj hints hlen hg) fun r s' hq=>?_)
 obtain ⟨rfl,h2,h3,h4⟩:=hq
 exact ⟨.inl ⟨.bool true,.bool true,[],rfl,fun _=>rfl,.bool true,Hh l _,fun _=>⟨List.Pairwise.nil,fun _ hm=>(nomatch hm)⟩⟩,h2,h3,h4⟩
section
variable {prog:Program} {w:World} {A:Around} {E:Value→Shared→Prop} {s:Shared} {K:Frag}
def kW (h:Heap):Heap:={ h with objs:=#[] }
theorem pq (h:Heap) (b:Addr):(kW h).get? b=none:=by
 cases e:(kW h).get? b with
 | none=>rfl
 | some o=>exact absurd (Heap.lt_size e) (pQ _)
theorem Dj {h:Heap} {L:Addr} {m:Str→Option Value} (n:h.Ns L m):Fr (kW h) L h m :=
 ⟨n,fun b o e=>(by rw [pq] at e;cases e),fJ _⟩
end
end Att
namespace L2
open PySem PySem.Spec PyProof.Rows
theorem mL:∀ {vs:List Value} {ns:List Int},IntsAre vs ns→Vals (ns.map V.int) vs
 | _,_,.nil=>.nil
 | _,_,.cons n t h=>.cons ⟨t,rfl⟩ (mL h)
def Only (H:Hp):Prop:=∀ b,H b=none∨∃ o xs,H b=some (.frz o (.lst xs))
def vQ (ts:List (Addr × Str × Pos)) (H:Hp):Hp:=fun b=>match ts.find? (fun t=>t.1 == b) with
 | some t=>some (.tbl t.2.1 t.2.2)
 | none=>H b
theorem Jy (ts:List (Addr × Str × Pos)) (H:Hp) (b:Addr):(vQ ts H b=H b∧∀ t ∈ ts,t.1 ≠ b)∨∃ t ∈ ts,t.1=b∧vQ ts H b=some (.tbl t.2.1 t.2.2):=by
 unfold vQ
 cases e:ts.find? (fun t=>t.1 == b) with
 | none=>exact .inl ⟨rfl,fun t ht z=>by have:=sy.mp e t ht;simp [z] at this⟩
 | some t =>
  have h1:=nq e
  have h2:=List.find?_some e
  exact .inr ⟨t,h1,by simpa using h2,rfl⟩
theorem Jz {P:Program} {w:World} {K:PySem.W.Frag} {mg mb:Str→Option Value} {CX:CXT} {k:Nat} {fa a:Addr} {fd:FuncData} {x:Str} {sp:Sp} {s₁:Shared} {vs:List Value} {ns:List Int}
 (KX:K.In s₁.heap) (hns:s₁.heap.Ns mainGlobals mg) (hb:s₁.heap.Ns builtinsNs mb) (hbb:∀ x:Str,x ≠ "__name__" → mb x=bootBuiltins x) (hlim:s₁.heap.NoLimit) (hbm:∃ bm ob,mg "__builtins__" = some (.ref bm)∧bm ≠ builtinsNs∧s₁.heap.get? bm=some ob∧ob.cls = .type "module" ∧ ob.dict=some builtinsNs∧ob.data = .plain) (hg:s₁.gens = #[])
 (ha:s₁.heap.get? a=some { cls:=.type "list", data:=.seq vs.toArray }) (hi:IntsAre vs ns) (hl:ns.length ≤ sizeLine) (hr:Room k callerA)
 (F:∀ base:Heap,K.In base→base.Ns mainGlobals mg→FnOk P w K mg base CX k fa fd [x] sp) (hbind:∀ (s:Shared) (u:Value),BindsTo s fd ⟨[u],[]⟩ [(x,u)])
 (ts:List (Addr × Str × Pos)) (hts:∀ t ∈ ts,s₁.heap.get? t.1=some { cls:=.none,data:=.fields #[] }) (hCT:∀ t ∈ ts,isCodeTable s₁.heap t.1) (hKt:∀ t ∈ ts,K.lookup t.1=none) (htu:∀ t ∈ ts,∀ t' ∈ ts,t.1=t'.1→t=t')
 (hsp:∀ H:Hp,(∀ t ∈ ts,H t.1=some (.tbl t.2.1 t.2.2))→SqL K H a (ns.map V.int)→sp [.ref a] H (fun v _=>v = .bl true) fun _ _ _=>False)
 (hCX:∀ H e s',CX [] H s₁ (fun _ _ _=>False) e s'→False) :
 codeAny (model P w) callerA (.call (.ref fa) ⟨[.ref a],[]⟩) (fun r s'=>r = .ok (.ret (.bool true))∧OldK s₁.heap s'.heap∧s'.os=s₁.os∧AllBare s'.gens) s₁:=by
 have rv:=mL hi
 have lenV:=hi.length
 have core:∀ H:Hp,(∀ b,H b=none∨(∃ o xs,H b=some (.frz o (.lst xs)))∨∃ t ∈ ts,t.1=b∧H b=some (.tbl t.2.1 t.2.2))→(∀ t ∈ ts,H t.1=some (.tbl t.2.1 t.2.2))→SqL K H a (ns.map V.int)→HOk P w H s₁.heap→(∀ b,H b ≠ none→b=a∨∃ t ∈ ts,t.1=b)→(H a ≠ none→K.lookup a=none) →
  codeAny (model P w) callerA (.call (.ref fa) ⟨[.ref a],[]⟩) (fun r s'=>r = .ok (.ret (.bool true))∧OldK s₁.heap s'.heap∧s'.os=s₁.os∧AllBare s'.gens) s₁:=by
  intro H hO hT hS hok hA hK
  have base_of:∀ {b:Addr} {o:Obj},s₁.heap.get? b=some o→H b=none→(zf s₁.heap H).get? b=some o:=fun e n=>Jd e n
  have noA:∀ {b:Addr} {o:Obj} {es:Array DictEntry} {ep:Nat},s₁.heap.get? b=some o→o.data = .dict es ep→H b=none:=fun {b o es ep} e d=>by
   cases q:H b with
   | none=>rfl
   | some u =>
    rcases hA b (by rw [q];simp) with e' | ⟨t,ht,e'⟩
    case inr =>
     subst e'
     rw [hts t ht] at e;cases e
     have d':Data.fields #[]=Data.dict es ep:=d
     cases d'
    subst e'
    rw [ha] at e;cases e
    have d':Data.seq vs.toArray _=Data.dict es ep:=d
    cases d'
  have nsK:∀ {b:Addr} {m:Str→Option Value},s₁.heap.Ns b m→(zf s₁.heap H).Ns b m:=fun {b m} ⟨o,es,ep,e,d,r⟩=>⟨o,es,ep,base_of e (noA e d),d,r⟩
  have hKb:K.In (zf s₁.heap H):=fun b o e=>base_of (KX b o e) (by
   cases q:H b with
   | none=>rfl
   | some u =>
    rcases hA b (by rw [q];simp) with e' | ⟨t,ht,e'⟩
    ·subst e'
     rw [hK (by rw [q];simp)] at e;cases e
    ·subst e'
     rw [hKt t ht] at e;cases e)
  have hM:Mod K mg (zf s₁.heap H):=⟨hKb,nsK hns,⟨mb,nsK hb,hbb⟩,let ⟨mc,h1,h2⟩:=hlim;⟨mc,nsK h1,h2⟩,let ⟨bm,ob,g1,g2,g3,g4,g5,g6⟩:=hbm;⟨bm,ob,g1,g2,base_of g3 (by
   cases q:H bm with
   | none=>rfl
   | some u =>
    rcases hA bm (by rw [q];simp) with e' | ⟨t,ht,e'⟩
    ·rw [e',ha] at g3;cases g3
     have z:Value.type "list" = Value.type "module" := g4
     injection z with z
     exact absurd z (by decide)
    ·rw [← e',hts t ht] at g3;cases g3
     cases g4),g4,g5,g6⟩⟩
  have e0:Env0 P w K mg (zf s₁.heap H) callerA [] s₁ H:=⟨rfl,hM,fun b o e=>LR e,Nat.le_of_eq (G3 _ _),trivial,fun b hb=>absurd (show b ∈ ([]:List Addr) from hb) (by simp),hok,.of_eq hg⟩
  refine codeAny_mono ((F _ hKb (nsK hns)).run callerA [] s₁ H ⟨[.ref a],[]⟩ [.ref a] [.ref a] _ _ hr e0 (hbind s₁ (.ref a)) (.cons rfl .nil) (hsp H hT hS)) fun r s' h=>?_
  cases r with
  | error e=>exact (hCX H e s' h).elim
  | ok fl =>
   cases fl with
   | next=>exact False.elim h
   | brk=>exact False.elim h
   | cont=>exact False.elim h
   | ret u =>
    obtain ⟨v,H',os,bare,un,hok',r',q⟩:=h
    have q':v = .bl true:=q
    subst q'
    obtain rfl:u=Value.bool true:=r'
    refine ⟨rfl,⟨fun b o e=>?_,fun b o e=>un.there b o e (by simp)⟩,os,bare⟩
    cases q:H b with
    | none=>exact .inl <| un.keep b o e q (by intro z;exact absurd (show b ∈ ([]:List Addr) from z) (by simp)) (by simp)
    | some u =>
     rcases hO b with z | ⟨ob,xs,z⟩ | ⟨t,ht,rfl,z⟩
     case inr.inr =>
      have z2:=un.tbls _ _ _ z
      obtain ⟨ps,e2,_⟩:=hok' _ _ z2
      rw [hts t ht] at e;cases e
      exact .inr (.inl ⟨hCT t ht,rfl,#[],ps,rfl,by rw [e2];simp⟩)
     ·rw [q] at z;cases z
     ·have z2:=un.frzs b ob _ z
      obtain ⟨e1,_⟩:=hok b _ z
      obtain ⟨e2,_⟩:=hok' b _ z2
      rw [e] at e1;cases e1
      exact .inl e2
 have core1:∀ H:Hp,Only H→SqL K H a (ns.map V.int)→HOk P w H s₁.heap→(∀ b,H b ≠ none→b=a)→(H a ≠ none→K.lookup a=none) →
  codeAny (model P w) callerA (.call (.ref fa) ⟨[.ref a],[]⟩) (fun r s'=>r = .ok (.ret (.bool true))∧OldK s₁.heap s'.heap∧s'.os=s₁.os∧AllBare s'.gens) s₁:=by
  intro H hO hS hok hA hK
  have na:∀ t ∈ ts,t.1 ≠ a:=fun t ht z=>by
   have z2:=hts t ht
   rw [z,ha] at z2
   cases z2
  have cs:∀ b,(vQ ts H b=H b∧∀ t ∈ ts,t.1 ≠ b)∨∃ t ∈ ts,t.1=b∧vQ ts H b=some (.tbl t.2.1 t.2.2):=Jy ts H
  have la:vQ ts H a=H a:=by
   rcases cs a with z | ⟨t,ht,z,_⟩
   ·exact z.1
   ·exact absurd z (na t ht)
  have noown:∀ b x,H b ≠ some (.own x):=fun b x z=>by rcases hO b with y | ⟨_,_,y⟩ <;> (rw [y] at z;cases z)
  have notup:∀ b x,H b ≠ some (.tup x):=fun b x z=>by rcases hO b with y | ⟨_,_,y⟩ <;> (rw [y] at z;cases z)
  refine core (vQ ts H) (fun b=>?_) (fun t ht=>?_) ?_ (fun b u z=>?_) (fun b z=>?_) (fun z=>hK (by rw [← la];exact z))
  ·rcases cs b with z | ⟨t,ht,z1,z2⟩
   ·rcases hO b with y | y
    ·exact .inl (z.1.trans y)
    ·obtain ⟨o,xs,y⟩:=y
     exact .inr (.inl ⟨o,xs,z.1.trans y⟩)
   ·exact .inr (.inr ⟨t,ht,z1,z2⟩)
  ·rcases cs t.1 with z | ⟨t',ht',z1,z2⟩
   ·exact absurd rfl (z.2 t ht)
   ·have:=htu t' ht' t ht z1
    subst this
    exact z2
  ·rcases hS with (z | ⟨o,z⟩) | z
   ·exact .inl (.inl (by rw [la];exact z))
   ·exact .inl (.inr ⟨o,by rw [la];exact z⟩)
   ·exact .inr z
  ·rcases cs b with y | ⟨t,ht,z1,z2⟩
   ·rw [y.1] at z
    exact (hok b u z).stay (fun _ _ _ q=>q) (fun c q=>absurd q (noown c b)) fun c xs q=>absurd q (notup c xs)
   ·rw [z2] at z
    cases z
    subst z1
    exact ⟨#[],hts t ht,.inl rfl⟩
  ·rcases cs b with y | ⟨t,ht,z1,z2⟩
   ·exact .inl (hA b (by rw [← y.1];exact z))
   ·exact .inr ⟨t,ht,z1⟩
 cases hk:K.lookup a with
 | some o =>
  have e:=KX a o hk
  rw [ha] at e
  cases e
  refine core1 (fun _=>none) (fun _=>.inl rfl) (.inr ⟨_,vs.toArray,_,hk,rfl,rfl,rfl,by rw [bL,lenV];exact hl,by simpa using rv⟩) (fun b u z=>by have z':(none:Option HO)=some u:=z;cases z') (fun b z=>absurd rfl z) fun z=>absurd rfl z
 | none =>
  refine core1 (fun b=>if b=a then some (.frz { cls:=.type "list", data:=.seq vs.toArray } (.lst (ns.map V.int))) else none) (fun b=>?_) (.inl (.inr ⟨{ cls:=.type "list", data:=.seq vs.toArray },if_pos rfl⟩)) (fun b u z=>?_) (fun b z=>?_) fun _=>hk
  ·by_cases hb:b=a
   ·exact .inr ⟨_,_,if_pos hb⟩
   ·exact .inl (if_neg hb)
  ·by_cases hb:b=a
   ·have z':=(if_pos hb).symm.trans z
    cases z'
    subst hb
    exact ⟨ha,by rw [aJ];exact hl,vs,_,rv,ha⟩
   ·have z':=(if_neg hb).symm.trans z
    cases z'
  ·by_cases hb:b=a
   ·exact hb
   ·exact absurd (if_neg hb) z
end L2
namespace L2
open PySem PySem.Spec PyProof.Rows
abbrev KOf {K:PySem.W.Frag} {h:Heap} (_:K.In h):PySem.W.Frag:=K
theorem MF {l:PySem.W.OpenLaw} {n k:Nat} {q:Program} {loose:List Str} {XP:(Str→Option Value)→Heap→Prop} {YP:World→Heap→Prop} {d:DefRec} {K:Params→PySem.W.Frag} {CX:World→CXT} {sp:World→Sp} {x:Str}
 (hn:l.most=some n) (hn2:n ≤ sizeLine) (hdf:d.params.defaults=[]) (hr:Room k callerA)
 (hY:∀ (w:World) (h:Heap),YP w h→(K w.params).In h)
 (F:∀ (w:World) (mg:Str→Option Value) (fa:Addr) (h:Heap),(K w.params).In h→h.Ns mainGlobals mg→mg d.name=some (.ref fa) →
  ∃ fd:FuncData,(∀ (s:Shared) (u:Value),BindsTo s fd ⟨[u],[]⟩ [(x,u)]) ∧
   ∀ base:Heap,(K w.params).In base→base.Ns mainGlobals mg→FnOk l.prog w (K w.params) mg base (CX w) k fa fd [x] (sp w))
 (ts:List (Addr × Str × Pos)) (hts:∀ (w:World) (h:Heap),YP w h→(∀ t ∈ ts,h.get? t.1=some { cls:=.none,data:=.fields #[] })∧(∀ t ∈ ts,isCodeTable h t.1)∧∀ t ∈ ts,(K w.params).lookup t.1=none) (htu:∀ t ∈ ts,∀ t' ∈ ts,t.1=t'.1→t=t')
 (hsp:∀ (w:World) (H:Hp) (a:Addr) (ns:List Int),ns.length ≤ n→(∀ t ∈ ts,H t.1=some (.tbl t.2.1 t.2.2))→SqL (K w.params) H a (ns.map V.int)→sp w [.ref a] H (fun v _=>v = .bl true) fun _ _ _=>False)
 (hCX:∀ (w:World) (H:Hp) (s:Shared) (e:Value) (s':Shared),CX w [] H s (fun _ _ _=>False) e s'→False) :
 PySem.W.WalkO q loose XP YP l.row.toRowW d [] (fun f vs=>PySem.call f vs):=by
 refine Att.Bj hn hdf fun w s₀ s₁ mg mb fa o pm cd doc a vs ns G Y ho hd hcd hmg hobj hints hlen hg=>?_
 have KX:=hY w _ Y
 obtain ⟨fd,hb,hF⟩:=F w mg fa _ KX G.T.g hmg
 exact Jz KX G.T.g G.T.b G.T.builtins G.T.nolimit G.T.bmain hg hobj hints (bV hlen hn2) hr hF hb ts (hts w _ Y).1 (hts w _ Y).2.1 (hts w _ Y).2.2 htu (fun H hO hS=>hsp w H a ns hlen hO hS) fun H e s'=>hCX w H s₁ e s'
theorem JB {l:PySem.W.OpenLaw} {n k:Nat} {q:Program} {loose:List Str} {XP:(Str→Option Value)→Heap→Prop} {YP:World→Heap→Prop} {d:DefRec} {K:Params→PySem.W.Frag} {CX:CXT} {sp:PySem.W.Frag→Sp} {x:Str}
 (hn:l.most=some n) (hn2:n ≤ sizeLine) (hdf:d.params.defaults=[]) (hr:Room k callerA)
 (hY:∀ (w:World) (h:Heap),YP w h→(K w.params).In h)
 (F:∀ (w:World) (mg:Str→Option Value) (fa:Addr) (h:Heap),(K w.params).In h→h.Ns mainGlobals mg→mg d.name=some (.ref fa) →
  ∃ fd:FuncData,(∀ (s:Shared) (u:Value),BindsTo s fd ⟨[u],[]⟩ [(x,u)]) ∧
   ∀ base:Heap,(K w.params).In base→base.Ns mainGlobals mg→FnOk l.prog w (K w.params) mg base CX k fa fd [x] (sp (K w.params)))
 (ts:List (Addr × Str × Pos)) (hts:∀ (w:World) (h:Heap),YP w h→(∀ t ∈ ts,h.get? t.1=some { cls:=.none,data:=.fields #[] })∧(∀ t ∈ ts,isCodeTable h t.1)∧∀ t ∈ ts,(K w.params).lookup t.1=none) (htu:∀ t ∈ ts,∀ t' ∈ ts,t.1=t'.1→t=t')
 (hsp:∀ (K:PySem.W.Frag) (H:Hp) (a:Addr) (ns:List Int),ns.length ≤ n→(∀ t ∈ ts,H t.1=some (.tbl t.2.1 t.2.2))→SqL K H a (ns.map V.int)→sp K [.ref a] H (fun v _=>v = .bl true) fun _ _ _=>False)
 (hCX:∀ (H:Hp) (s:Shared) (e:Value) (s':Shared),CX [] H s (fun _ _ _=>False) e s'→False) :
 PySem.W.WalkO q loose XP YP l.row.toRowW d [] (fun f vs=>PySem.call f vs) :=
 MF (K:=K) (CX:=fun _=>CX) (sp:=fun w=>sp (K w.params)) hn hn2 hdf hr hY F ts hts htu (fun w H a ns h1 h2 h3=>hsp (K w.params) H a ns h1 h2 h3) fun _ H s e s'=>hCX H s e s'
end L2
/- THE LAST THEOREM (shape;LID,My.* are yours):
   My.Adr: a structure of the addresses that your layer names (classes,functions);My.Txt K t: a structure (Prop) of the equations over K;
   My.txt_mk:{K} {implicit addresses ..} (e1:nsIn K mainGlobals "law" = some (some (.ref f))) (e2:K.lookup f=some ⟨oc,od,.func (fnOf "law" "law" params body scope dV kV doc pm an cdv ct),sl⟩) (e3:codeIn K cdv "law" = true) .. : ∃ t,My.Txt K t
set_option maxRecDepth 100000 in
set_option maxHeartbeats 0 in
(the tactic k_is has no namespace: write k_is) -/
namespace L2
open PySem PySem.Spec PyProof.Rows
def lC (s:Stmt):Arguments:=match s with
 | .FunctionDef _ a _ _ _ _ _ _ _ _=>a
 | _=>{ posonlyargs:=[],args:=[],vararg:=none,kwonlyargs:=[],kw_defaults:=[],kwarg:=none,defaults:=[] }
def iz (s:Stmt):List Stmt:=match s with
 | .FunctionDef _ _ b _ _ _ _ _ _ _=>b
 | _=>[]
def bx (s:Stmt):Scope:=match s with
 | .FunctionDef _ _ _ _ _ _ sc _ _ _=>sc
 | _=>{ kind:=.function,names:=[],isGenerator:=false,isCoroutine:=false }
abbrev CX0:CXT:=fun _ _ _ _ _ _=>False
abbrev E0:XK:=fun _ _ _=>False
theorem Vj {X:Cx}:Passes CX0 X E0:=fun _ _ _ _ _ _ _ h=>h.elim
structure Fun (K:PySem.W.Frag) (x qual:Str) (st:Stmt) (f:Addr) (fd:FuncData):Prop where
 ex:∃ (oc:Value) (od:Option Addr) (kV doc pm:Value) (an:Option Addr) (cdv ct:Value) (osl:Array (Option Value)),
  fd=PySem.W.fnOf x qual (lC st) (iz st) (bx st) .none kV doc pm an cdv ct∧K.lookup f=some ⟨oc,od,.func fd,osl⟩∧PySem.W.codeIn K cdv qual=true
 kp:PySem.W.keepIn K (.ref f)=true
section
variable {P:Program} {w:World} {K:PySem.W.Frag} {mg:Str→Option Value} {base:Heap}
end
section
variable {X:Cx}
end
theorem Bk {A B:Prop} (h:B):if false=true then A else B:=by
 rw [if_neg dB]
 exact h
theorem Bm {A B:Prop} (h:A):if true=true then A else B:=by
 rw [if_pos rfl]
 exact h
def Same (H H':Hp):Prop:=∀ b o,H b=some o→H' b=some o
theorem Same.refl (H:Hp):Same H H:=fun _ _ h=>h
theorem Same.trans {H H1 H2:Hp} (a:Same H H1) (b:Same H1 H2):Same H H2:=fun c o h=>b c o (a c o h)
theorem Same.free {H H':Hp} (e:Same H H') {l:Addr} (h:H' l=Option.none):H l=Option.none:=by
 cases q:H l with
 | none=>rfl
 | some o =>
  rw [e l o q] at h
  cases h
theorem Same.seq {K:PySem.W.Frag} {H H':Hp} {a:Addr} {xs:List V} (e:Same H H') (h:SqL K H a xs):SqL K H' a xs:=by
 rcases h with (h | ⟨o,h⟩) | h
 ·exact .inl (.inl (e _ _ h))
 ·exact .inl (.inr ⟨o,e _ _ h⟩)
 ·exact .inr h
end L2
namespace My
open PySem PySem.Spec PyProof.Rows L2
abbrev St:=L2.St
theorem dN {H:Hp} {p:Addr} (h:H p=none) (o:HO):Same H (upd H p o):=fun b u q=>by rw [cJ (jm q h)];exact q
structure Df (K:PySem.W.Frag) (mg:Str→Option Value) (x:Str) (st:Stmt) (ps:List Str):Prop where
 ex:∃ (f:Addr) (fd:FuncData),Fun K x x st f fd∧Binds K fd ps []∧mg x=some (.ref f)
structure Has (P:Program) (w:World) (K:PySem.W.Frag) (mg:Str→Option Value) (base:Heap) (n:Nat) (x:Str) (ps:List Str) (sp:Sp):Prop where
 ex:∃ (f:Addr) (fd:FuncData),FnOk P w K mg base CX0 n f fd ps sp∧Binds K fd ps []∧PySem.W.keepIn K (.ref f)=true∧mg x=some (.ref f)
section
variable {P:Program} {w:World} {K:PySem.W.Frag} {mg:Str→Option Value} {base:Heap} {x:Str} {ps N:List Str} {sp:Sp} {st:Stmt} {k n:Nat}
theorem Has.mono (h:Has P w K mg base k x ps sp) (l:k ≤ n):Has P w K mg base n x ps sp:=by
 obtain ⟨f,fd,F,b,kp,m⟩:=h.ex
 exact ⟨f,fd,F.mono l,b,kp,m⟩
end
section
variable {X:Cx} {x:Str} {ps:List Str} {sp:Sp} {n:Nat} {p pos:Pos} {e:Expr} {es:List Expr} {t:TA}
theorem Bo (h:Has X.prog X.w X.K X.mg X.base n x ps sp) (hr:Room n X.A) (ha:PA X (e :: es) t) (hg:Gl X x:=by rfl) (hdb:(x == ("__debug__" : Str))=false:=by decide)
 (he:starEach (e :: es) X.env=(false,eval e X.env) :: starEach es X.env:=by rfl) (hpl:(backTo pos (starEach es X.env)).any (·.1)=false:=by rfl) :
 PE X (.Call (.Name x p) (e :: es) [] pos) (Qm sp [] E0 t):=by
 obtain ⟨f,fd,F,b,kp,m⟩:=h.ex
 exact Ms F hr hg m kp b .nil Vj ha hdb he hpl
end
mutual
inductive RdV (K:PySem.W.Frag) (H:Hp):V→PyData→Prop
 | non:RdV K H .non .none
 | bl (b:Bool):RdV K H (.bl b) (.bool b)
 | int (i:Int):RdV K H (.int i) (.int i)
 | str (x:Str):RdV K H (.str x) (.str x)
 | lst {a:Addr} {xs:List V} {ds:List PyData}:SqL K H a xs→RdVs K H xs ds→RdV K H (.ref a) (.list ds)
 | tup {a:Addr} {xs:List V} {ds:List PyData}:SqT K H a xs→RdVs K H xs ds→RdV K H (.ref a) (.tuple ds)
inductive RdVs (K:PySem.W.Frag) (H:Hp):List V→List PyData→Prop
 | nil:RdVs K H [] []
 | cons {v:V} {d:PyData} {vs:List V} {ds:List PyData}:RdV K H v d→RdVs K H vs ds→RdVs K H (v :: vs) (d :: ds)
end
section
variable {X:Cx} {pins:List (Addr × Obj)} {σ:St} {H:Hp} {s:Shared}
mutual
theorem RdV.reads (I:Inv X pins σ H s):∀ {v:V} {d:PyData},RdV X.K H v d→∀ {u:Value},RelV v u→∃ as,Reads s.heap u d as
 | _,_,.non,_,r=>by cases r;exact ⟨_,.none⟩
 | _,_,.bl b,_,r=>by cases r;exact ⟨_,.bool b⟩
 | _,_,.int i,_,r=>by obtain ⟨t,rfl⟩:=r;exact ⟨_,.int i t⟩
 | _,_,.str x,_,r=>by obtain ⟨t,rfl⟩:=r;exact ⟨_,.str x t⟩
 | _,_,.lst h q,_,r=>by
  cases r
  obtain ⟨its,rv,⟨o,n,e,c,_,d⟩,_⟩:=I.list h
  obtain ⟨as,z⟩:=RdVs.reads I q rv
  exact ⟨_,.list e c d (by simpa using z)⟩
 | _,_,.tup h q,_,r=>by
  cases r
  obtain ⟨its,rv,⟨o,e,c,n,d⟩,_⟩:=I.tuple h
  obtain ⟨as,z⟩:=RdVs.reads I q rv
  exact ⟨_,.tuple e c d (by simpa using z)⟩
theorem RdVs.reads (I:Inv X pins σ H s):∀ {vs:List V} {ds:List PyData},RdVs X.K H vs ds→∀ {us:List Value},Vals vs us→∃ as,ReadsAll s.heap us ds as
 | _,_,.nil,_,r=>by cases r;exact ⟨_,.nil⟩
 | _,_,.cons h q,_,r=>by
  cases r with
  | cons r1 r2 =>
   obtain ⟨as,z⟩:=RdV.reads I h r1
   obtain ⟨bs,y⟩:=RdVs.reads I q r2
   exact ⟨_,.cons z y⟩
end
end
section
variable {X:Cx}
def Vk (K:PySem.W.Frag):R2:=fun x y H Q=>∃ da db,RdV K H x da∧RdV K H y db∧SeqAt.shaped da=true∧SeqAt.shaped db=true∧Q (.bl (PyData.eqv da db)) H
def Vl (K:PySem.W.Frag):R2:=fun x y H Q=>∃ da db,RdV K H x da∧RdV K H y db∧SeqAt.shaped da=true∧SeqAt.shaped db=true∧Q (.bl (!PyData.eqv da db)) H
theorem lu (hu:X.A.units + 64 < cLine):OpR X (compareOp .Eq) (Vk X.K):=by
 intro pins s σ H x y v u Q I rx ry h
 obtain ⟨da,db,ha,hb,sa,sb,q⟩:=h
 obtain ⟨as,za⟩:=ha.reads I rx
 obtain ⟨bs,zb⟩:=hb.reads I ry
 exact SeqAt.compareEq_shaped za zb sa sb hu ⟨.bl _,H,I,rfl,q⟩
theorem pA (hu:X.A.units + 64 < cLine):OpR X (compareOp .NotEq) (Vl X.K):=by
 intro pins s σ H x y v u Q I rx ry h
 obtain ⟨da,db,ha,hb,sa,sb,q⟩:=h
 obtain ⟨as,za⟩:=ha.reads I rx
 obtain ⟨bs,zb⟩:=hb.reads I ry
 exact SeqAt.compareNe_shaped za zb sa sb hu ⟨.bl _,H,I,rfl,q⟩
end
def isT (c T:String):Bool:=T == c || (T == "bool" && c == "int")
section
variable {K:PySem.W.Frag}
theorem Rz (h:c = "int" ∨ c = "bool" ∨ c = "tuple" ∨ c = "list" ∨ c = "str") (g:T = "NoneType" ∨ T = "bool" ∨ T = "int" ∨ T = "str" ∨ T = "list" ∨ T = "tuple" ∨ T = "dict") :
 PySem.W.kitOne K (.type T) (.type c)=some (isT c T):=by
 rcases h with rfl | rfl | rfl | rfl | rfl <;> rcases g with rfl | rfl | rfl | rfl | rfl | rfl | rfl <;> kernel_rfl
end
section
variable {X:Cx}
end
theorem big {X:Cx} {pins:List (Addr × Obj)} {σ:St} {H:Hp} {s:Shared} (I:Inv X pins σ H s):sysModules < s.heap.objs.size:=by
 have h:mainGlobals < s.heap.objs.size:=(I.mod.glob.keeps I.bk).lt
 exact jG (by decide) h
theorem vR {P:Program} {w:World} {H:Hp} (h:Heap) (hb:sysModules < h.objs.size):gO P w H (h.push { cls:=.type "dict", data:=.dict #[] }) h.objs.size (.dK []) :=
 ⟨fJ _,beq_eq_false_iff_ne.mpr (Ne.symm (bQ hb)),[],.nil,Heap.DictOf.new h⟩
def RB:TE:=fun _ H Q=>∀ p,H p=none→Q (.ref p) (upd H p (.dK []))
theorem JC {X:Cx} {pos:Pos}:PE X (.Dict [] [] pos) RB:=fun pins s σ H Q I h =>
 wpAny_Dict_empty ⟨.ref s.heap.objs.size,_,I.laid (a:=s.heap.objs.size) (o:=.dK []) (t':=s.toks) (fun _ _ q=>Heap.get?_push_of_some _ q) (bh _) (vR s.heap (big I)),rfl,h _ (I.hok.fresh (bh _))⟩
end My
namespace My
open PySem PySem.Spec PyProof.Rows L2
section
variable {X:Cx} {a b c d:Expr} {ta tb tc td:TE} {pos:Pos}
def MJ (r r' r'':R2) (ta tb tc td:TE):TE:=fun σ H Q=>ta σ H fun x H1=>tb σ H1 fun y H2=>r x y H2 fun z H3=>∃ k,z = .bl k ∧
 (if k=true then tc σ H3 fun w' H4=>r' y w' H4 fun z' H5=>∃ k',z' = .bl k'∧(if k'=true then td σ H5 fun v' H6=>r'' w' v' H6 Q else Q (.bl false) H5) else Q (.bl false) H3)
theorem Hi {op op' op'':CmpOp} {r r' r'':R2} (ho:OpR X (compareOp op) r) (ho':OpR X (compareOp op') r') (ho'':OpR X (compareOp op'') r'') (ha:PE X a ta) (hb:PE X b tb) (hc:PE X c tc) (hd:PE X d td)
 (hm:lastMarks [op,op',op''] [b,c,d]=false:=by with_unfolding_all rfl):PE X (.Compare a [op,op',op''] [b,c,d] pos) (MJ r r' r'' ta tb tc td):=by
 intro pins s σ H Q I h
 refine Compare_chain (thn (ha pins s σ H _ I h) fun v s1 ⟨x,H1,I1,r1,q1⟩=>chain_link (thn (hb pins s1 σ H1 _ I1 q1) fun u s2 ⟨y,H2,I2,r2,q2⟩ =>
  thn (ho pins s2 σ H2 x y v u _ I2 r1 r2 q2) fun d s3 ⟨z,H3,I3,r3,k,e,q3⟩=>?_)) hm
 subst e
 cases r3
 refine wpAny_truthy_bool ?_
 cases k with
 | false=>exact ite_ff ⟨.bl false,H3,I3,rfl,q3⟩
 | true =>
  refine ite_tt (chain_link (thn (hc pins s3 σ H3 _ I3 q3) fun w' s4 ⟨z',H4,I4,r4,q4⟩=>thn (ho' pins s4 σ H4 y z' u w' _ I4 r2 r4 q4) fun d' s5 ⟨z2,H5,I5,r5,k2,e2,q5⟩=>?_))
  subst e2
  cases r5
  refine wpAny_truthy_bool ?_
  cases k2 with
  | false=>exact ite_ff ⟨.bl false,H5,I5,rfl,q5⟩
  | true=>exact ite_tt (chain_last (thn (hd pins s5 σ H5 _ I5 q5) fun w3 s6 ⟨z3,H6,I6,r6,q6⟩=>ho'' pins s6 σ H6 z' z3 w' w3 Q I6 r4 r6 q6))
end
structure Blt (mg:Str→Option Value):Prop where
 len_:mg "len" = none
 range_:mg "range" = none
 abs_:mg "abs" = none
 isinstance_:mg "isinstance" = none
 int_:mg "int" = none
 bool_:mg "bool" = none
 tuple_:mg "tuple" = none
 max_:mg "max" = none
 min_:mg "min" = none
end My
namespace My
open PySem PySem.Spec PyProof.Rows L2
abbrev cx (P:Program) (w:World) (K:PySem.W.Frag) (mg:Str→Option Value) (base:Heap) (N:List Str) (x:Str) (st:Stmt) (f:Addr) (cdv:Value) (A:Around) (outer:List Env) (s:Shared) (H:Hp) (E:XK):Cx :=
 (Bf CX0 P w K mg base N x (bx st) f cdv A outer s H E).nox
end My
namespace My
open PySem PySem.Spec PyProof.Rows L2
def pB (env:Env):List (Str × NameKind)→List (Str × Addr)→List (Str × Addr)
 | [],cs=>cs
 | (n,k) :: r,cs=>if (k == NameKind.free)=true then pB env r ((n,(env.cells.lookup n).getD 0) :: cs) else pB env r cs
theorem sE {env:Env}:∀ (l:List (Str × NameKind)) (cs:List (Str × Addr)),(∀ x ∈ l,x.2 = .free→∃ c,env.cells.lookup x.1=some c) →
 (forIn l cs fun (x:Str × NameKind) (r:List (Str × Addr))=>(if (x.2 == NameKind.free)=true then (do let c ← cellOf env x.1;pure (ForInStep.yield ((x.1,c) :: r))) else pure (ForInStep.yield r):Sem (ForInStep (List (Str × Addr)))))=pure (pB env l cs)
 | [],_,_=>rfl
 | (n,k) :: r,cs,h=>by
  rw [List.forIn_cons]
  by_cases hk:(k == NameKind.free)=true
  ·obtain ⟨c,hc⟩:=h (n,k) aO (beq_iff_eq.mp hk)
   have hc':cellOf env n=pure c:=by
    unfold cellOf
    rw [show env.cells.lookup n=some c from hc]
   show (do let x ← (if (k == NameKind.free)=true then (do let c ← cellOf env n;pure (ForInStep.yield ((n,c) :: cs))) else pure (ForInStep.yield cs):Sem (ForInStep (List (Str × Addr))));_)=_
   rw [if_pos hk,hc']
   have ih:=sE r ((n,c) :: cs) fun x hx=>h x (aM _ hx)
   rw [pB,if_pos hk,show env.cells.lookup n=some c from hc]
   exact ih
  ·show (do let x ← (if (k == NameKind.free)=true then (do let c ← cellOf env n;pure (ForInStep.yield ((n,c) :: cs))) else pure (ForInStep.yield cs):Sem (ForInStep (List (Str × Addr))));_)=_
   rw [if_neg hk]
   have ih:=sE r cs fun x hx=>h x (aM _ hx)
   rw [pB,if_neg hk]
   exact ih
theorem Dk {env:Env} {scope:Scope} (h:∀ x ∈ scope.names,x.2 = .free→∃ c,env.cells.lookup x.1=some c):closureFor scope env=pure (pB env scope.names []):=by
 have z:=sE (env:=env) scope.names [] h
 show (forIn scope.names [] fun (x:Str × NameKind) (r:List (Str × Addr))=>(if (x.2 == NameKind.free)=true then (do let c ← cellOf env x.1;pure (ForInStep.yield ((x.1,c) :: r))) else pure (ForInStep.yield r):Sem (ForInStep (List (Str × Addr))))) >>= (fun cs=>pure cs)=_
 rw [z]
 rfl
theorem vU {env:Env}:∀ (l:List (Str × NameKind)) (cs:List (Str × Addr)),(∀ x ∈ l,x.2 = .free→∃ c,env.cells.lookup x.1=some c)→(∀ x c,cs.lookup x=some c→env.cells.lookup x=some c) →
 ∀ x c,(pB env l cs).lookup x=some c→env.cells.lookup x=some c
 | [],_,_,hc,x,c,e=>hc x c e
 | (n,k) :: r,cs,h,hc,x,c,e=>by
  rw [pB] at e
  by_cases hk:(k == NameKind.free)=true
  ·rw [if_pos hk] at e
   obtain ⟨d,hd⟩:=h (n,k) aO (beq_iff_eq.mp hk)
   refine vU r _ (fun x hx=>h x (aM _ hx)) (fun y c' e'=>?_) x c e
   rw [dD] at e'
   cases hy:y == n with
   | true =>
    rw [hy] at e'
    have:y=n:=beq_iff_eq.mp hy
    subst this
    rw [show env.cells.lookup y=some d from hd] at e' ⊢
    exact e'
   | false =>
    rw [hy] at e'
    exact hc y c' e'
  ·rw [if_neg hk] at e
   exact vU r cs (fun x hx=>h x (aM _ hx)) hc x c e
theorem qg {env:Env}:∀ (l:List (Str × NameKind)) (cs:List (Str × Addr)) (x:Str),((x,NameKind.free) ∈ l∨∃ c,cs.lookup x=some c)→∃ c,(pB env l cs).lookup x=some c
 | [],_,x,h=>by
  rcases h with h | h
  ·exact absurd h (by simp)
  ·exact h
 | (n,k) :: r,cs,x,h=>by
  rw [pB]
  by_cases hk:(k == NameKind.free)=true
  ·rw [if_pos hk]
   refine qg r _ x ?_
   by_cases e:x=n
   ·subst e
    exact .inr ⟨_,by rw [dD,beq_self_eq_true]⟩
   ·rcases h with h | ⟨c,h⟩
    ·rcases bA.mp h with h | h
     ·exact absurd (congrArg Prod.fst h) e
     ·exact .inl h
    ·exact .inr ⟨c,by rw [dD,beq_eq_false_iff_ne.mpr e];exact h⟩
  ·rw [if_neg hk]
   refine qg r cs x ?_
   rcases h with h | h
   ·rcases bA.mp h with h | h
    ·have:k = .free:=(congrArg Prod.snd h).symm
     subst this
     exact absurd rfl hk
    ·exact .inl h
   ·exact .inr h
abbrev blk (X:Cx) (N':List Str) (scope:Scope) (cl:List (Str × Addr)) (C:Addr) (s3:Shared) (H3:Hp) (fp:List Addr):Cx :=
 { X with N:=N',s₀:=s3,H₀:=H3,env:=compEnvC scope cl C X.env,outer:=X.stack,ex:=fp,fn:=fun _=>false,xe:=fun _ _=>False }
def u_ (N:List Str) (kinds sn:List (Str × NameKind)):List Str→List Nat→Bool
 | [],[]=>true
 | x :: V,j :: ix=>(N[j]? == some x) && ((kinds.lookup x == some NameKind.cell) && ((sn.lookup x == some NameKind.free) && u_ N kinds sn V ix))
 | _,_=>false
def xR (t:Nat) (ix:List Nat) (σ:St):St:=bF t none++ix.map fun j=>(σ[j]?).getD none
theorem vV {N:List Str} {kinds sn:List (Str × NameKind)}:∀ {V:List Str} {ix:List Nat},u_ N kinds sn V ix=true→ix.length=V.length∧∀ (k:Nat) (x:Str),V[k]? = some x→∃ j,ix[k]? = some j∧N[j]? = some x∧kinds.lookup x=some .cell∧sn.lookup x=some .free
 | [],[],_=>⟨rfl,fun k x h=>by simp at h⟩
 | x :: V,j :: ix,h=>by
  rw [u_,aW,aW,aW] at h
  obtain ⟨h1,h2,h3,h4⟩:=h
  obtain ⟨l,r⟩:=vV h4
  refine ⟨by simp [l],fun k y hy=>?_⟩
  cases k with
  | zero =>
   simp at hy
   subst hy
   exact ⟨j,rfl,beq_iff_eq.mp h1,beq_iff_eq.mp h2,beq_iff_eq.mp h3⟩
  | succ k=>exact r k y (by simpa using hy)
 | [],_ :: _,h=>by simp [u_] at h
 | _ :: _,[],h=>by simp [u_] at h
theorem tE {env:Env} (hf:env.scope.kind = .function):∀ {names:List (Str × NameKind)} {x:Str},names.lookup x=some .free→env.kindOf x=some .cell →
 (names.map fun (n,k)=>if (k == NameKind.free && env.scope.kind == .function && env.kindOf n == some .cell) then (n,NameKind.cell) else (n,k)).lookup x=some .cell
 | [],_,h,_=>by simp at h
 | (n,k) :: r,x,h,hc=>by
  have ih:=@tE env hf r x
  show uO x ((if (k == NameKind.free && env.scope.kind == .function && env.kindOf n == some .cell)=true then (n,NameKind.cell) else (n,k)) :: _)=_
  cases hx:x == n with
  | true =>
   have e:x=n:=beq_iff_eq.mp hx
   subst e
   simp only [dD,hx] at h
   cases h
   rw [if_pos (by rw [hf,hc];rfl)]
   simp [dD]
  | false =>
   simp only [dD,hx] at h
   by_cases hq:(k == NameKind.free && env.scope.kind == .function && env.kindOf n == some .cell)=true
   ·rw [if_pos hq];simp only [dD,hx];exact ih h hc
   ·rw [if_neg hq];simp only [dD,hx];exact ih h hc
theorem pC {env:Env}:∀ {names:List (Str × NameKind)} {x:Str} {k:NameKind},(∀ y ∈ names,y.2 ≠ .cell)→(k = .cell∨k = .free) →
 (names.map fun (n,k)=>if (k == NameKind.free && env.scope.kind == .function && env.kindOf n == some .cell) then (n,NameKind.cell) else (n,k)).lookup x=some k→(x,NameKind.free) ∈ names
 | [],_,_,_,_,h=>by simp at h
 | (n,k') :: r,x,k,hc,hk,h=>by
  have ih:=@pC env r x k (fun y hy=>hc y (aM _ hy)) hk
  have h':uO x ((if (k' == NameKind.free && env.scope.kind == .function && env.kindOf n == some .cell)=true then (n,NameKind.cell) else (n,k')) :: (r.map fun (n,k)=>if (k == NameKind.free && env.scope.kind == .function && env.kindOf n == some .cell) then (n,NameKind.cell) else (n,k)))=some k:=h
  by_cases hq:(k' == NameKind.free && env.scope.kind == .function && env.kindOf n == some .cell)=true
  ·rw [if_pos hq] at h'
   have kf:k' = .free:=by
    rw [aW,aW] at hq
    exact beq_iff_eq.mp hq.1.1
   cases hx:x == n with
   | true =>
    have e:x=n:=beq_iff_eq.mp hx
    subst e
    subst kf
    exact aO
   | false =>
    simp only [dD,hx] at h'
    exact aM _ (ih h')
  ·rw [if_neg hq] at h'
   cases hx:x == n with
   | true =>
    have e:x=n:=beq_iff_eq.mp hx
    subst e
    simp only [dD,hx] at h'
    cases h'
    rcases hk with hk | hk
    ·exact absurd hk (hc _ aO)
    ·subst hk
     exact aO
   | false =>
    simp only [dD,hx] at h'
    exact aM _ (ih h')
section
variable {X:Cx} {pins:List (Addr × Obj)} {σ:St} {H:Hp} {s:Shared}
theorem Inv.forget {σ':St} (I:Inv X pins σ H s) (hl:σ'.length=X.N.length) (h:∀ (i:Nat) (v:V),σ'[i]? = some (some v)→σ[i]? = some (some v)):Inv X pins σ' H s:=by
 obtain ⟨m,hn,hx⟩:=I.loc
 exact ⟨I.ok,I.os,I.bare,I.base,⟨m,hn,fun i x v e1 e2 e3=>hx i x v e1 (h i v e2) e3⟩,I.cell,I.free,I.freeC,I.pin,I.hok,hl⟩
end
end My
namespace My
open PySem PySem.Spec PyProof.Rows L2
theorem Bp {prog:Program} {w:World} {A:Around} {R:Result→Shared→Prop} {elt target iter:Expr} {ifs:List Expr} {scope:Scope} {pos:Pos} {it acc:Value} {env:Env} {s:Shared} (I:Nat→Shared→Prop)
 (turn:∀ n s,I n s→wpAny (model prog w) A (pyNext it) (fun r s₁=>match r with
  | none=>R (.ok .next) s₁
  | some v=>wpAny (model prog w) A (letOwnedTupleGo target it v) (fun _ s₁'=>wpAny (model prog w) A (assign target env v) (fun _ s₂ =>
   wpAny (model prog w) A (forIn ifs true fun c r=>if r=true then do let ok ← isTrue c env (eval c env);pure (ForInStep.yield ok) else pure (ForInStep.yield r)) (fun ok s₃ =>
    if ok=true then wpAny (model prog w) A (eval elt env) (fun x s₄ =>
     wpAny (model prog w) A (call (.builtin "list.append") [acc,x]) (fun _ s₅=>∃ m,m < n∧I m s₅) (fun _ _=>False) s₄) (fun _ _=>False) s₃
    else ∃ m,m < n∧I m s₃) (fun _ _=>False) s₂) (fun _ _=>False) s₁') (fun _ _=>False) s₁) (fun _ _=>False) s)
 (n:Nat) (h:I n s) :
 codeAny (model prog w) A (.compLoop (.ListComp elt [⟨target,iter,ifs,0⟩] scope pos) 0 it acc env) R s:=by
 refine codeAny_loop rfl I (fun n s hI=>?_) n h
 show wpAny _ A ((compTurn (.ListComp elt [⟨target,iter,ifs,0⟩] scope pos) 0 it acc env).onRaise (fun x=>do noteFrame x env;theTreesLotGoes x)) _ _ s
 refine wpAny_noted ?_
 rw [compTurn_list]
 refine wpAny_bind (wpAny_standAt (wpAny_bind (wpAny_mono (turn n s hI) (fun r s₁ h₁=>?_) fun _ _ h'=>h'.elim)))
 cases r with
 | none=>exact wpAny_pure h₁
 | some v =>
  refine wpAny_bind (wpAny_mono h₁ (fun _ s₁' h₁'=>?_) fun _ _ h'=>h'.elim)
  refine wpAny_bind (wpAny_mono h₁' (fun _ s₂ h₂=>wpAny_bind (wpAny_mono h₂ (fun ok s₃ h₃=>?_) fun _ _ h'=>h'.elim)) fun _ _ h'=>h'.elim)
  cases ok with
  | false=>exact wpAny_pure ⟨rfl,h₃⟩
  | true =>
   exact wpAny_bind (wpAny_bind (wpAny_mono h₃ (fun x s₄ h₄=>wpAny_bind (wpAny_mono h₄ (fun _ s₅ h₅=>wpAny_pure (wpAny_pure ⟨rfl,h₅⟩)) fun _ _ h'=>h'.elim)) fun _ _ h'=>h'.elim))
section
variable {X:Cx} {pins:List (Addr × Obj)} {σ:St} {H:Hp}
theorem Hj {T V:List Str} {ix:List Nat} {scope:Scope} {s3:Shared} {fp:List Addr} {h₁:Heap} {tk:Nat} {m:Str→Option Value}
 (I:Inv X pins σ H s3) (hf:∀ b ∈ fp,ug X pins H b) (ho:∀ b ∈ fp,∃ o,s3.heap.get? b=some o)
 (hk:scope.kind = .function) (hcell:∀ y ∈ scope.names,y.2 ≠ .cell) (hfr:∀ x ∈ scope.names,x.2 = .free→x.1 ∈ V) (hB:u_ X.N X.env.scope.names scope.names V ix=true)
 (hns:h₁.Ns s3.heap.objs.size m) (keep:∀ b o,s3.heap.get? b=some o→h₁.get? b=some o) :
 Inv (blk X (T++V) scope (pB X.env scope.names []) s3.heap.objs.size s3 H fp) pins (xR T.length ix σ) H { s3 with heap:=h₁,toks:=tk }:=by
 obtain ⟨lV,capV⟩:=vV hB
 have hcl:∀ x ∈ scope.names,x.2 = .free→∃ c,X.env.cells.lookup x.1=some c:=fun x hx e=>by
  obtain ⟨k,ek⟩:=pY (hfr x hx e)
  obtain ⟨j,_,_,hc,_⟩:=capV k _ ek
  exact I.ok.has _ (.inl hc)
 have sub:=vU (env:=X.env) scope.names [] hcl (fun x c e=>by simp at e)
 have stkSub:∀ b,b ∈ frs X.stack→b=X.env.locals∨b ∈ X.fs:=fun b z=>bA.mp (I.stkSub b z)
 have lt:∀ b o,s3.heap.get? b=some o→b ≠ s3.heap.objs.size:=fun b o e=>bQ (Heap.lt_size e)
 have cellK:∀ c v,s3.heap.IsCell c v→h₁.IsCell c v:=fun c v ⟨o,e,d⟩=>⟨o,keep c o e,d⟩
 refine ⟨⟨I.ok.mod,hk,I.ok.glob,I.ok.blt,bh _,fun x y c e1 e2=>I.ok.inj x y c (sub x c e1) (sub y c e2),fun x hx=>?_,fun x c hx=>?_,I.ok.hd,I.ok.frames,.inl rfl,fun b hb=>⟨?_,fun x c e=>?_⟩,I.bs,bV I.ok.bsz I.sz,fun b o e hb=>?_,fun b hb z=>?_,I.stack,I.stkFree⟩,
  rfl,I.bare,Un.kept keep,⟨m,hns,fun i x v e1 e2 e3=>?_⟩,fun x c e=>?_,I.hok.fresh (bh _),fun x c e=>I.freeC x c (sub x c e),fun p hp=>?_,I.hok.kept keep,?_⟩
 ·rcases hx with hx | hx
  ·exact qg _ _ x (.inl (pC hcell (.inl rfl) hx))
  ·exact qg _ _ x (.inl (pC hcell (.inr rfl) hx))
 ·exact absurd hx (by simp)
 ·obtain ⟨o,e⟩:=ho b hb
  exact lt b o e
 ·exact (hf b hb).2.2.2.2.1 x c (sub x c e)
 ·rcases (hf b hb).2.2.2.1 with z | z
  ·exact I.ok.noex b o e z
  ·exact absurd (bT (Heap.lt_size e) (bV I.ok.bsz z)) (gM _)
 ·rcases stkSub b z with z | z
  ·exact (hf b hb).2.1 z
  ·exact (hf b hb).2.2.1 z
 ·by_cases hi:i < T.length
  ·have e2':(bF T.length none++ix.map fun j=>(σ[j]?).getD none)[i]? = some (some v):=e2
   rw [cL (by rw [cj];exact hi),eX,if_pos hi] at e2'
   exact absurd e2' (by simp)
  ·have e1':(T++V)[i]? = some x:=e1
   rw [cC (by omega)] at e1'
   obtain ⟨j,hj,hN,hc,hfree⟩:=capV _ x e1'
   have e2':(bF T.length none++ix.map fun j=>(σ[j]?).getD none)[i]? = some (some v):=e2
   rw [cC (by rw [cj];omega),cj,aN,hj] at e2'
   have e2'':(σ[j]?).getD none=some v:=by simpa using e2'
   have e3':σ[j]? = some (some v):=by
    cases q:σ[j]? with
    | none=>rw [q] at e2'';exact absurd e2'' (by simp)
    | some o=>rw [q] at e2'';simp at e2'';rw [e2'']
   obtain ⟨m0,hn0,hl⟩:=I.loc
   obtain ⟨u,r,l⟩:=hl j x v hN e3' (.inr (.inl hc))
   rcases l with ⟨z,_⟩ | ⟨_,c,ec,hcell'⟩
   ·have z':X.env.scope.names.lookup x=some .local:=z
    rw [hc] at z'
    exact absurd z' (by simp)
   ·obtain ⟨c',ec'⟩:=qg (env:=X.env) scope.names [] x (.inl (PySem.mem_of_lookup hfree))
    have:c'=c:=by
     have q:=sub x c' ec'
     rw [ec] at q
     exact (cU.inj q).symm
    subst this
    exact ⟨u,r,.inr ⟨.inl (tE I.ok.kind hfree hc),c',ec',cellK _ _ hcell'⟩⟩
 ·obtain ⟨v,z⟩:=I.cell x c (sub x c e)
  exact ⟨v,cellK c v z⟩
 ·obtain ⟨e,n,ne,nf,d⟩:=I.pin p hp
  refine ⟨keep _ _ e,n,lt _ _ e,fun z=>?_,d⟩
  rcases stkSub p.1 z with z | z
  ·exact ne z
  ·exact nf z
 ·show (bF T.length none++ix.map fun j=>(σ[j]?).getD none).length=(T++V).length
  rw [bH,cj,aJ,bH,lV]
theorem JD {N':List Str} {scope:Scope} {cl:List (Str × Addr)} {pins':List (Addr × Obj)} {σ':St} {H3 H':Hp} {s3 s':Shared} {fp:List Addr} (I3:Inv X pins σ H3 s3) (hf:∀ b ∈ fp,ug X pins H3 b)
 (I':Inv (blk X N' scope cl s3.heap.objs.size s3 H3 fp) pins' σ' H' s'):Inv X pins σ H' s'∧ug X pins H' s3.heap.objs.size:=by
 have fr:H' s3.heap.objs.size=none:=I'.free
 refine ⟨?_,I3.fpOk (bh _) fr⟩
 have os:s'.os=s3.os:=I'.os
 have u:Un (frs X.stack) fp H3 H' s3.heap s'.heap:=I'.base
 have ho:=I'.hok
 have hb:=I'.bare
 obtain ⟨hh,g,d,t,os'⟩:=s'
 obtain rfl:os'=s3.os:=os
 exact I3.call (h':=hh) (g':=g) (d':=d) (t':=t) (ch:=fp) u ho hb fun b hb'=>⟨(hf b hb').2.2.2.1,(hf b hb').2.1,(hf b hb').2.2.2.2.1,(hf b hb').2.2.2.2.2⟩
end
def PTs (X:Cx) (ifs:List Expr) (t:TT):Prop :=
 ∀ (pins:List (Addr × Obj)) (s:Shared) (σ:St) (H:Hp) (Q:Bool→Hp→Prop),Inv X pins σ H s→t σ H Q →
  wpAny (model X.prog X.w) X.A (forIn ifs true fun c r=>if r=true then do let ok ← isTrue c X.env (eval c X.env);pure (ForInStep.yield ok) else pure (ForInStep.yield r)) (TP X pins σ Q) X.xe s
def jR:TT:=fun _ H Q=>Q true H
theorem MK {X:Cx}:PTs X [] jR:=fun _ _ _ H _ I h=>wpAny_tests_nil ⟨H,I,h⟩
theorem jZ {X:Cx} {c:Expr} {t:TT} (h:PT X c t):PTs X [c] t:=fun pins s σ H Q I q=>wpAny_tests_one (h pins s σ H Q I q)
def Fx (wi:TI) (g:TG) (tt:TT) (te:TE) (t:Nat) (cap:St→St):TE:=fun σ H Q=>wi σ H fun J H1=>∀ D,H1 D=none→∃ W:Nat→Nat→List V→Hp→Prop,(∃ m,W 0 m [] (upd H1 D (.lst []))) ∧
 ∀ i m xs H2,W i m xs H2→H2 D=some (.lst xs)∧((J.stop i H2∧Q (.ref D) H2)∨(J.go i H2∧xs.length < sizeLine∧∀ x H3,J.yld i H2 x H3→g x (cap σ) H3 fun σ4 H4=>σ4.drop t=(cap σ).drop t ∧
  tt σ4 H4 fun b H5=>if b=true then te σ4 H5 fun v H6=>H6 D=some (.lst xs)∧∃ m',m' < m∧W (i + 1) m' (xs++[v]) (upd H6 D (.lst (xs++[v]))) else ∃ m',m' < m∧W (i + 1) m' xs H5))
section
variable {X:Cx} {elt tg iter:Expr} {ifs:List Expr} {scope:Scope} {pos:Pos} {T V:List Str} {ix:List Nat} {wi:TI} {g:TG} {tt:TT} {te:TE}
theorem yH (hc:X.calm=true) (hi:PI X tg iter wi)
 (hg:∀ cl C s3 H3 fp,PG (blk X (T++V) scope cl C s3 H3 fp) tg g) (ht:∀ cl C s3 H3 fp,PTs (blk X (T++V) scope cl C s3 H3 fp) ifs tt) (he:∀ cl C s3 H3 fp,PE (blk X (T++V) scope cl C s3 H3 fp) elt te)
 (hB:u_ X.N X.env.scope.names scope.names V ix=true) (hk:scope.kind = .function) (hcell:∀ y ∈ scope.names,y.2 ≠ .cell) (hnames:∀ x ∈ scope.names,x.2 = .local→scope.names.lookup x.1=some .local)
 (hfr:∀ x ∈ scope.names,x.2 = .free→x.1 ∈ V) (hs:∀ x,foldedSetIterable iter X.env x=pure x) {p:Pos}
 {pins:List (Addr × Obj)} {s:Shared} {σ:St} {H:Hp} (I:Inv X pins σ H s) {use:Option (Value→Sem Unit)} {Qp:Value→Shared→Prop} {Qv:VK} (h:Fx wi g tt te T.length (xR T.length ix) σ H Qv)
 (fin:∀ (D C:Addr) (H':Hp) (s':Shared) (m:Str→Option Value),Inv X pins σ H' s'→ug X pins H' C→s'.heap.Ns C m→Qv (.ref D) H'→compPost (model X.prog X.w) X.A X.xe use Qp (.ref D) C (.ok .next) s') :
 wpAny (model X.prog X.w) X.A (comprehension (.ListComp elt [⟨tg,iter,ifs,0⟩] scope pos) scope X.env p (newList []) false (eval iter X.env) use) Qp X.xe s:=by
 obtain ⟨lV,capV⟩:=vV hB
 have hcl:∀ x ∈ scope.names,x.2 = .free→∃ c,X.env.cells.lookup x.1=some c:=fun x hx e=>by
  obtain ⟨k,ek⟩:=pY (hfr x hx e)
  obtain ⟨j,_,_,hc',_⟩:=capV k _ ek
  exact I.ok.has _ (.inl hc')
 refine wpAny_comprehension_free rfl hs (Dk hcl) hk hnames ?_
 refine thn (hi pins s σ H _ I h) fun v s1 h1=>thn h1 fun itv s2 h2=>?_
 obtain ⟨it,fp,tn,J,H2,e,I2,Tn,st2,f2,R⟩:=h2
 subst e
 refine wpAny_newObj_type (hd:=by size_fits) ?_
 have hD:H2 s2.heap.objs.size=none:=I2.hok.fresh (bh _)
 have I3:Inv X pins σ (upd H2 s2.heap.objs.size (.lst [])) { s2 with heap:=s2.heap.push { cls:=.type "list", dict:=none,data:=.seq ([]:List Value).toArray } } :=
  I2.laid (t':=s2.toks) (fun b o e=>Heap.get?_push_of_some _ e) (bh _) ⟨fJ _,[],0,.nil,Heap.get?_push_size _ rfl⟩
 obtain ⟨W,⟨m0,w0⟩,turn⟩:=R s2.heap.objs.size hD
 generalize hs3:({ s2 with heap:=s2.heap.push { cls:=.type "list", dict:=none,data:=.seq ([]:List Value).toArray } }:Shared)=s3 at I3 ⊢
 have st3:tn 0 s3.heap:=by
  rw [← hs3]
  exact Tn.keep 0 s2.heap _ st2 fun b hb o e=>Heap.get?_push_of_some _ e
 have f3:∀ b ∈ fp,ug X pins (upd H2 s2.heap.objs.size (.lst [])) b:=fun b hb=>by
  obtain ⟨z0,z1⟩:=f2 b hb
  refine ⟨?_,z1⟩
  obtain ⟨o,eo,_⟩:=Tn.obj 0 _ st2 b hb
  rw [cJ (bQ (Heap.lt_size eo))]
  exact z0
 generalize hH3:upd H2 s2.heap.objs.size (.lst [])=H3 at I3 f3 w0
 generalize hDn:s2.heap.objs.size=D at turn
 refine wpAny_newFunctionEnv hcell (by intro y hy;simp at hy) (fun h₁ hns₁ hsb₁=>?_) hk
 have keep:∀ b o,s3.heap.get? b=some o→h₁.get? b=some o:=fun b o e=>hsb₁.extBut b o (bQ (Heap.lt_size e)) (Heap.get?_push_of_some _ e)
 have I4:=Hj (T:=T) (tk:=s3.toks + ([]:List (Str × Value)).length) I3 f3 (fun b hb=>let ⟨o,eo,_⟩:=Tn.obj 0 _ st3 b hb;⟨o,eo⟩) hk hcell hfr hB hns₁ keep
 have st4:tn 0 h₁:=Tn.keep 0 _ _ st3 fun b hb o e=>keep b o e
 have loop:codeAny (model X.prog X.w) X.A (.compLoop (.ListComp elt [⟨tg,iter,ifs,0⟩] scope pos) 0 (.ref it) (.ref D) (compEnvC scope (pB X.env scope.names []) s3.heap.objs.size X.env))
  (compPost (model X.prog X.w) X.A X.xe use Qp (.ref D) s3.heap.objs.size) { s3 with heap:=h₁,toks:=s3.toks + ([]:List (Str × Value)).length }:=by
  refine Bp (fun n s'=>∃ i xs H',Inv (blk X (T++V) scope (pB X.env scope.names []) s3.heap.objs.size s3 H3 fp) pins (xR T.length ix σ) H' s'∧tn i s'.heap∧(∀ b ∈ fp,H' b=none)∧W i n xs H') ?_ m0
   ⟨0,[],H3,I4,st4,fun b hb=>(f3 b hb).1,w0⟩
  rintro n s5 ⟨i,xs,H5,I5,st5,fr5,w5⟩
  have stat:∀ {H':Hp} {pins':List (Addr × Obj)} {σ':St} {s':Shared},Inv (blk X (T++V) scope (pB X.env scope.names []) s3.heap.objs.size s3 H3 fp) pins σ' H' s'→(∀ b ∈ fp,H' b=none)→∀ b ∈ fp,ug (blk X (T++V) scope (pB X.env scope.names []) s3.heap.objs.size s3 H3 fp) pins H' b:=fun I' hn b hb=>by
   obtain ⟨x1,x2⟩:=I'.ok.exf b hb
   refine ⟨hn b hb,x1,I'.ok.exfs b hb,.inl hb,x2,fun q hq=>?_⟩
   exact (f3 b hb).2.2.2.2.2 q hq
  obtain ⟨hD5,r5⟩:=turn i n xs H5 w5
  rcases r5 with ⟨stop,q⟩ | ⟨go,hz,step⟩
  ·refine thn (Tn.done (blk X (T++V) scope (pB X.env scope.names []) s3.heap.objs.size s3 H3 fp) rfl rfl rfl hc i pins s5 _ H5 _ I5 (stat (pins':=pins) I5 fr5) st5 stop) fun r s6 ⟨hr,I6⟩=>?_
   subst hr
   obtain ⟨Ib,fC⟩:=JD I3 f3 I6
   obtain ⟨m,hn,_⟩:=I6.loc
   exact fin D _ H5 s6 m Ib fC hn q
  ·refine thn (Tn.item (blk X (T++V) scope (pB X.env scope.names []) s3.heap.objs.size s3 H3 fp) rfl rfl rfl hc i pins s5 _ H5 _ I5 (stat (pins':=pins) I5 fr5) st5 go) fun r s6 ⟨u,hr,h6⟩=>?_
   subst hr
   refine thn h6 fun _ s7 ⟨x,H7,I7,rx,y7,st7,fr7⟩=>?_
   have I7':=I7.pinned (stat (pins':=pins) I7 fr7) (Tn.obj _ _ st7)
   refine thn (hg _ _ _ _ _ _ s7 _ H7 x u _ I7' rx (step x H7 y7)) fun _ s8 ⟨σ8,H8,I8,k8,q8⟩=>?_
   have again:∀ {H9:Hp} {s9:Shared},Inv (blk X (T++V) scope (pB X.env scope.names []) s3.heap.objs.size s3 H3 fp) (pins++vO fp s7.heap) σ8 H9 s9 →
    Inv (blk X (T++V) scope (pB X.env scope.names []) s3.heap.objs.size s3 H3 fp) pins (xR T.length ix σ) H9 s9∧tn (i + 1) s9.heap∧∀ b ∈ fp,H9 b=none:=fun {H9 s9} I9=>by
    refine ⟨Inv.forget I9.unpinned I4.len fun j v e=>?_,Tn.keep _ _ _ st7 fun b hb o e=>(I9.pin (b,o) (aU _ (aU _ (o_ hb e)))).1,fun b hb=>?_⟩
    ·by_cases hj:j < T.length
     ·have e':(bF T.length none++ix.map fun j=>(σ[j]?).getD none)[j]? = some (some v):=e
      rw [cL (by rw [cj];exact hj),eX,if_pos hj] at e'
      exact absurd e' (by simp)
     ·have ej:j=T.length + (j - T.length):=by omega
      rw [ej,← j8] at e ⊢
      rw [k8]
      exact e
    ·obtain ⟨o,e,d⟩:=Tn.obj _ _ st7 b hb
     exact (I9.pin (b,o) (aU _ (aU _ (o_ hb e)))).2.1
   refine thn (ht _ _ _ _ _ _ s8 σ8 H8 _ I8 q8) fun ok s9 ⟨H9,I9,q9⟩=>?_
   cases ok with
   | false =>
    obtain ⟨m',lm,w9⟩:=q9
    obtain ⟨a1,a2,a3⟩:=again I9
    exact ⟨m',lm,i + 1,xs,H9,a1,a2,a3,w9⟩
   | true =>
    refine thn (he _ _ _ _ _ _ s9 σ8 H9 _ I9 q9) fun y s10 ⟨v,H10,I10,ry,hD10,m',lm,w10⟩=>?_
    refine thn (yG _ s10 σ8 H10 (.ref D) [v] (.ref D) [y] (fun _ Hn=>Hn=upd H10 D (.lst (xs++[v]))) I10 rfl (.cons ry .nil) ⟨D,xs,v,rfl,rfl,hD10,hz,rfl⟩) fun _ s11 ⟨_,H11,I11,_,e11⟩=>?_
    subst e11
    obtain ⟨a1,a2,a3⟩:=again I11
    exact ⟨m',lm,i + 1,_,_,a1,a2,a3,w10⟩
 exact codeAny_compStart_list loop (Tn.self _ 0 _ _ _ st4 loop)
theorem MN (hc:X.calm=true) (T V:List Str) (ix:List Nat) (hi:PI X tg iter wi)
 (hg:∀ cl C s3 H3 fp,PG (blk X (T++V) scope cl C s3 H3 fp) tg g) (ht:∀ cl C s3 H3 fp,PTs (blk X (T++V) scope cl C s3 H3 fp) ifs tt) (he:∀ cl C s3 H3 fp,PE (blk X (T++V) scope cl C s3 H3 fp) elt te)
 (hB:u_ X.N X.env.scope.names scope.names V ix=true:=by rfl) (hk:scope.kind = .function:=by rfl) (hcell:∀ y ∈ scope.names,y.2 ≠ .cell:=by decide +kernel)
 (hnames:∀ x ∈ scope.names,x.2 = .local→scope.names.lookup x.1=some .local:=by decide +kernel)
 (hfr:∀ x ∈ scope.names,x.2 = .free→x.1 ∈ V:=by decide +kernel) (hs:∀ x,foldedSetIterable iter X.env x=pure x:=by intro _;rfl) :
 PE X (.ListComp elt [⟨tg,iter,ifs,0⟩] scope pos) (Fx wi g tt te T.length (xR T.length ix)):=by
 intro pins s σ H Q I h
 rw [eval_ListComp]
 refine yH (use:=none) hc hi hg ht he hB hk hcell hnames hfr hs I h fun D C H' s' m I' fC hn q=>⟨m,hn,fun h' sb=>⟨.ref D,H',?_,rfl,q⟩⟩
 obtain ⟨z0,z1,z2,z3,z4,z5⟩:=fC
 exact I'.turned (t':=s'.toks) (fun b o hb e=>sb.extBut b o hb e) z0 z1 z3 z4 z5
theorem Fy {i:Nat} {x:Str} {pos' spos:Pos} (hN:X.N.Nodup) (hi':X.N[i]? = some x) (hx:X.env.scope.names.lookup x=some .local) (hc:X.calm=true) (T V:List Str) (ix:List Nat) (hi:PI X tg iter wi)
 (hg:∀ cl C s3 H3 fp,PG (blk X (T++V) scope cl C s3 H3 fp) tg g) (ht:∀ cl C s3 H3 fp,PTs (blk X (T++V) scope cl C s3 H3 fp) ifs tt) (he:∀ cl C s3 H3 fp,PE (blk X (T++V) scope cl C s3 H3 fp) elt te)
 (hsw:swapsWith (.ListComp elt [⟨tg,iter,ifs,0⟩] scope pos) (some (.Name x pos')) spos.line X.env=pure true:=by rfl)
 (hB:u_ X.N X.env.scope.names scope.names V ix=true:=by rfl) (hk:scope.kind = .function:=by rfl) (hcell:∀ y ∈ scope.names,y.2 ≠ .cell:=by decide +kernel)
 (hnames:∀ x ∈ scope.names,x.2 = .local→scope.names.lookup x.1=some .local:=by decide +kernel)
 (hfr:∀ x ∈ scope.names,x.2 = .free→x.1 ∈ V:=by decide +kernel) (hs:∀ x,foldedSetIterable iter X.env x=pure x:=by intro _;rfl) :
 PS X (.Assign [.Name x pos'] (.ListComp elt [⟨tg,iter,ifs,0⟩] scope pos) spos) (Ri (Fx wi g tt te T.length (xR T.length ix)) (Jj i)):=by
 intro pins s σ H D I h
 rw [exec_Assign_Name_used _ _ _ _ hsw]
 refine wpAny_bind (wpAny_standAt (wpAny_bind ?_))
 show wpAny _ X.A (do let _ ← comprehension (.ListComp elt [⟨tg,iter,ifs,0⟩] scope pos) scope X.env _ (newList []) false (eval iter X.env) (some (assign (.Name x pos') X.env))) _ _ s
 refine wpAny_bind (wpAny_mono (yH (use:=some (assign (.Name x pos') X.env)) (Qp:=fun _ s'=>SP X pins D .next s') hc hi hg ht he hB hk hcell hnames hfr hs I h fun A' C H' s' m I' fC hn q=>?_) (fun _ s' hq=>wpAny_pure (wpAny_pure hq)) fun _ _ e=>e)
 obtain ⟨z0,z1,z2,z3,z4,z5⟩:=fC
 refine wpAny_assign_Name (yr I' hN hi' (.inl hx) (v:=.ref A') rfl (fun s'' I'' ⟨a,sb,ha⟩=>⟨m,hn.sameBut sb ?_,fun h' sb'=>⟨_,H',?_,q⟩⟩) (.inr hx))
 ·rcases ha with ha | ha
  ·rw [ha];exact z1
  ·exact Ne.symm (z4 x a ha)
 ·exact I''.turned (t':=s''.toks) (fun b o hb e=>sb'.extBut b o hb e) z0 z1 z3 z4 z5
end
section
variable {X:Cx} {K:PySem.W.Frag}
end
end My
namespace D3
open PySem
abbrev D:=PyData
inductive U where
 | d (x:D)
 | x (c f:Str) (v:D)
abbrev DS:=List (Option U)
inductive Oc where
 | nx (δ:DS)
 | rt (d:D)
 | bk (δ:DS)
 | ct (δ:DS)
 | ex (c f:Str) (v:D)
abbrev FE:=DS→Option D
abbrev FA:=DS→Option (List D)
abbrev FT:=DS→Option Bool
abbrev FS:=DS→Option Oc
abbrev FG:=D→DS→Option DS
mutual
def flat:D→Bool
 | .none=>true
 | .bool _=>true
 | .int _=>true
 | .str _=>true
 | .list _=>false
 | .tuple xs=>flats xs
 | .dict _=>false
def flats:List D→Bool
 | []=>true
 | x :: r=>flat x && flats r
end
mutual
def nl:D→Nat
 | .none=>0
 | .bool _=>0
 | .int _=>0
 | .str _=>0
 | .list xs=>nls xs + 1
 | .tuple xs=>nls xs
 | .dict _=>1
def nls:List D→Nat
 | []=>0
 | x :: r=>nl x + nls r
end
def fl1:D→Bool
 | .list xs=>flats xs
 | d=>flat d
def aF (i:Nat):FE:=fun δ=>match δ[i]? with
 | some (some (.d x))=>some x
 | _=>none
def dC (d:D):FE:=fun _=>some d
def dOp (g:D→D→Option D) (fa fb:FE):FE:=fun δ=>(fa δ).bind fun x=>(fb δ).bind fun y=>g x y
def dUn (g:D→Option D) (fa:FE):FE:=fun δ=>(fa δ).bind g
def aV:FA:=fun _=>some []
def aG (fa:FE) (fr:FA):FA:=fun δ=>(fa δ).bind fun x=>(fr δ).bind fun r=>some (x :: r)
def dTup (fa:FA):FE:=fun δ=>(fa δ).bind fun l=>if l.length ≤ sizeLine then some (.tuple l) else none
def gU (fa:FA):FE:=fun δ=>(fa δ).bind fun l=>if l.length ≤ sizeLine then some (.list l) else none
def dCall (F:List D→Option D) (fa:FA):FE:=fun δ=>(fa δ).bind F
def cV (fa:FE):FE:=fun δ=>(fa δ).bind fun d=>if flat d=true then some d else none
def dN1 (fa:FE):FE:=fun δ=>(fa δ).bind fun d=>if decide (nl d ≤ 1)=true then some d else none
def ou (fa:FE):FE:=fun δ=>(fa δ).bind fun d=>if fl1 d=true then some d else none
def uo (fa fb:FE):FE:=fun δ=>(fa δ).bind fun x=>match x with
 | .bool true=>fb δ
 | .bool false=>some (.bool false)
 | _=>none
def dOr (fa fb:FE):FE:=fun δ=>(fa δ).bind fun x=>match x with
 | .bool true=>some (.bool true)
 | .bool false=>fb δ
 | _=>none
def MP (fa:FE):FE:=fun δ=>(fa δ).bind fun x=>match x with
 | .bool b=>some (.bool (!b))
 | _=>none
def dIf (c:FT) (fa fb:FE):FE:=fun δ=>(c δ).bind fun b=>if b=true then fa δ else fb δ
def aY (fa:FE):FT:=fun δ=>(fa δ).bind fun x=>match x with
 | .bool b=>some b
 | _=>none
def o9 (a b:FT):FT:=fun δ=>(a δ).bind fun x=>if x=true then b δ else some false
def tOr (a b:FT):FT:=fun δ=>(a δ).bind fun x=>if x=true then some true else b δ
def oH (a:FT):FT:=fun δ=>(a δ).map fun x=>!x
def dM:FS:=fun δ=>some (.nx δ)
def b_ (a b:FS):FS:=fun δ=>(a δ).bind fun o=>match o with
 | .nx δ'=>b δ'
 | o=>some o
def Vm (i:Nat) (fe:FE):FS:=fun δ=>(fe δ).bind fun d=>some (.nx (δ.set i (some (.d d))))
def sIf (c:FT) (a b:FS):FS:=fun δ=>(c δ).bind fun t=>if t=true then a δ else b δ
def cT (fe:FE):FS:=fun δ=>(fe δ).bind fun d=>some (.rt d)
def Vo:FS:=fun _=>some (.rt .none)
def qj (fe:FE):FS:=fun δ=>(fe δ).bind fun _=>some (.nx δ)
def sBk:FS:=fun δ=>some (.bk δ)
def sCt:FS:=fun δ=>some (.ct δ)
def gN (i:Nat):FG:=fun d δ=>some (δ.set i (some (.d d)))
def mz:List D→DS→Option DS:=fun l δ=>match l with
 | []=>some δ
 | _=>none
def fj (g:FG) (r:List D→DS→Option DS):List D→DS→Option DS:=fun l δ=>match l with
 | d :: l'=>(g d δ).bind fun δ'=>r l' δ'
 | []=>none
def Vp (fe:FE) (g:FG):FS:=fun δ=>(fe δ).bind fun d=>(g d δ).bind fun δ'=>some (.nx δ')
def jA (g:FG) (b:FS):List D→DS→Option Oc
 | [],δ=>some (.nx δ)
 | d :: r,δ=>(g d δ).bind fun δ1=>(b δ1).bind fun o=>match o with
  | .nx δ'=>jA g b r δ'
  | .ct δ'=>jA g b r δ'
  | .bk δ'=>some (.nx δ')
  | .rt v=>some (.rt v)
  | .ex c f v=>some (.ex c f v)
def lQ (fi:FA) (g:FG) (b:FS):FS:=fun δ=>(fi δ).bind fun l=>jA g b l δ
def ig (c:FT) (b:FS):Nat→DS→Option Oc
 | 0,_=>none
 | n + 1,δ=>(c δ).bind fun t=>if t=true then (b δ).bind fun o=>match o with
     | .nx δ'=>ig c b n δ'
     | .ct δ'=>ig c b n δ'
     | .bk δ'=>some (.nx δ')
     | .rt v=>some (.rt v)
     | .ex c f v=>some (.ex c f v)
  else some (.nx δ)
theorem nJ {c:FT} {b:FS}:∀ {n:Nat} {δ:DS} {o:Oc},ig c b n δ=some o→∀ {m:Nat},n ≤ m→ig c b m δ=some o
 | 0,_,_,h,_,_=>by simp [ig] at h
 | n + 1,δ,o,h,0,l=>by omega
 | n + 1,δ,o,h,m + 1,l=>by
  rw [ig] at h ⊢
  cases hc:c δ with
  | none=>rw [hc] at h;simp at h
  | some t =>
   rw [hc] at h
   simp only [aL] at h ⊢
   cases t with
   | false=>exact h
   | true =>
    simp only [if_pos] at h ⊢
    cases hb:b δ with
    | none=>rw [hb] at h;simp at h
    | some q =>
     rw [hb] at h
     simp only [aL] at h ⊢
     cases q with
     | nx δ'=>exact nJ h (by omega)
     | ct δ'=>exact nJ h (by omega)
     | bk δ'=>exact h
     | rt v=>exact h
     | ex c f v=>exact h
theorem Dm {c:FT} {b:FS} {n m:Nat} {δ:DS} {o o':Oc} (h:ig c b n δ=some o) (h':ig c b m δ=some o'):o=o':=by
 have a:=nJ h (Nat.le_max_left n m)
 have a':=nJ h' (Nat.le_max_right n m)
 rw [a] at a'
 exact cU.inj a'
open Classical in
noncomputable def uq (c:FT) (b:FS):FS:=fun δ=>if h:∃ o n,ig c b n δ=some o then some (Classical.choose h) else none
theorem Hl {c:FT} {b:FS} {n:Nat} {δ:DS} {o:Oc} (h:ig c b n δ=some o):uq c b δ=some o:=by
 have e:∃ o n,ig c b n δ=some o:=⟨o,n,h⟩
 unfold uq
 rw [dif_pos e]
 obtain ⟨m,hm⟩:=Classical.choose_spec e
 rw [Dm hm h]
theorem Dp {c:FT} {b:FS} {δ:DS} {o:Oc} (h:uq c b δ=some o):∃ n,ig c b n δ=some o:=by
 unfold uq at h
 by_cases e:∃ o n,ig c b n δ=some o
 ·rw [dif_pos e] at h
  have:=Classical.choose_spec e
  rw [cU.inj h] at this
  exact this
 ·rw [dif_neg e] at h
  cases h
def fnD (p q:Nat) (b:FS):List D→Option D:=fun ds=>if ds.length=p then match b (ds.map (fun d=>some (.d d))++bF q none) with
    | some (.rt d)=>some d
    | some (.nx _)=>some .none
    | _=>none
 else none
def jx (t:Nat) (ix:List Nat) (δ:DS):DS:=bF t none++ix.map fun j=>(δ[j]?).getD none
def d_ (g:FG) (c:FT) (e:FE) (δ:DS):List D→Option (List D)
 | []=>some []
 | d :: r=>(g d δ).bind fun δ1=>(c δ1).bind fun b=>if b=true then (e δ1).bind fun x=>(d_ g c e δ r).bind fun l=>some (x :: l) else d_ g c e δ r
def gh (fi:FA) (g:FG) (c:FT) (e:FE) (t:Nat) (ix:List Nat):FE:=fun δ=>(fi δ).bind fun l=>if l.length ≤ 100000 then (d_ g c e (jx t ix δ) l).bind fun r=>some (.list r) else none
def jR:FT:=fun _=>some true
def gI (g:Int→Int→Option D):D→D→Option D:=fun x y=>match x,y with
 | .int i,.int j=>g i j
 | _,_=>none
def pIx (n:Nat) (i:Int):Option Nat:=if 0 ≤ i then (if i < n then some i.toNat else none) else if -(n:Int) ≤ i then some (i + n).toNat else none
def pAt (xs:List D) (i:Int):Option D:=(pIx xs.length i).bind fun j=>xs[j]?
def isT (c T:String):Bool:=T == c || (T == "bool" && c == "int")
def bW (i:Nat) (fe:FE):FS:=fun δ=>if i < δ.length then Vm i fe δ else none
def jo:D→D→Option D:=gI fun i j=>some (.int (i + j))
def Bc:D→D→Option D:=gI fun i j=>some (.int (i - j))
def vW (i j:Int):Bool:=decide (i.natAbs < 2 ^ 64) || decide (j.natAbs < 2 ^ 64) || (decide (i.natAbs < 2 ^ 30000) && decide (j.natAbs < 2 ^ 30000))
def pD:D→D→Option D:=gI fun i j=>if vW i j=true then some (.int (i * j)) else none
def Dq (_ j:Int):Bool:=decide (j ≠ 0) && decide (j.natAbs < 2 ^ 9000)
def Bq:D→D→Option D:=gI fun i j=>if Dq i j=true then some (.int (i.fdiv j)) else none
def sG:D→D→Option D:=gI fun i j=>if decide (j ≠ 0)=true then some (.int (i.fmod j)) else none
def RD (i j:Int):Bool:=decide (0 ≤ j) && decide (j ≤ 1000) && decide (i.natAbs < 2 ^ 64)
def RG:D→D→Option D:=gI fun i j=>if RD i j=true then some (.int (i ^ j.toNat)) else none
def gLt:D→D→Option D:=gI fun i j=>some (.bool (decide (i < j)))
def gLe:D→D→Option D:=gI fun i j=>some (.bool (decide (i ≤ j)))
def gGt:D→D→Option D:=gI fun i j=>some (.bool (decide (j < i)))
def gGe:D→D→Option D:=gI fun i j=>some (.bool (decide (j ≤ i)))
def gEq:D→D→Option D:=fun x y=>if (SeqAt.shaped x && SeqAt.shaped y)=true then some (.bool (PyData.eqv x y)) else none
def gNe:D→D→Option D:=fun x y=>if (SeqAt.shaped x && SeqAt.shaped y)=true then some (.bool (!PyData.eqv x y)) else none
def gNl (i:Nat):FG:=fun d δ=>if i < δ.length then gN i d δ else none
def gTn (n:Nat) (g:List D→DS→Option DS):FG:=fun d δ=>match d with
 | .tuple l=>if l.length=n then g l δ else none
 | _=>none
def xT (i:Nat) (f:FE):FS:=fun δ=>(aF i δ).bind fun x=>(f δ).bind fun d=>match x with
 | .list l=>if l.length < 1000000 then some (.nx (δ.set i (some (.d (.list (l++[d])))))) else none
 | _=>none
def tG (i:Nat) (fk f:FE):FS:=fun δ=>(f δ).bind fun d=>(aF i δ).bind fun x=>(fk δ).bind fun k=>match x,k with
 | .list l,.int j=>(pIx l.length j).bind fun n=>some (.nx (δ.set i (some (.d (.list (l.set n d))))))
 | _,_=>none
def putAt (x:D) (n:Nat) (d:D):D:=match x with
 | .list l=>.list (l.set n d)
 | .tuple l=>.tuple (l.set n d)
 | x=>x
def asList:D→Option (List D)
 | .list l=>some l
 | _=>none
def jT (f:FE):FA:=fun δ=>(f δ).bind asList
def fM (lo hi:Int):List D:=(aH (hi - lo).toNat).map fun (k:Nat)=>.int (lo + (k:Int))
def rT (i:Int):Bool:=decide (-(2 ^ 62) ≤ i) && decide (i < 2 ^ 62)
def mC (fa:FA):FA:=fun δ=>(fa δ).bind fun l=>match l with
 | [.int j]=>if rT j=true then some (fM 0 j) else none
 | _=>none
def Fz (fa:FA):FA:=fun δ=>(fa δ).bind fun l=>match l with
 | [.int i,.int j]=>if (rT i && rT j)=true then some (fM i j) else none
 | _=>none
def gIx:D→D→Option D:=fun x y=>match x,y with
 | .list l,.int i=>pAt l i
 | .tuple l,.int i=>pAt l i
 | _,_=>none
def mY (g g':D→D→Option D) (fa fb fc:FE):FE:=fun δ=>(fa δ).bind fun x=>(fb δ).bind fun y=>(g x y).bind fun z=>match z with
 | .bool true=>(fc δ).bind fun w=>g' y w
 | .bool false=>some (.bool false)
 | _=>none
def vp (g g' g'':D→D→Option D) (fa fb fc fd:FE):FE:=fun δ=>(fa δ).bind fun x=>(fb δ).bind fun y=>(g x y).bind fun z=>match z with
 | .bool true=>(fc δ).bind fun w=>(g' y w).bind fun z'=>match z' with
  | .bool true=>(fd δ).bind fun u=>g'' w u
  | .bool false=>some (.bool false)
  | _=>none
 | .bool false=>some (.bool false)
 | _=>none
def isNone:D→Bool
 | .none=>true
 | _=>false
def nA:D→Option D:=fun x=>some (.bool (isNone x))
def lR:D→Option D:=fun x=>some (.bool (!isNone x))
def jM:List D→Option D
 | [.list l]=>some (.int l.length)
 | [.tuple l]=>some (.int l.length)
 | _=>none
def jd:List D→Option (List Int)
 | []=>some []
 | .int i :: r=>(jd r).map (i :: ·)
 | _=>none
def Vq:List D→Option D
 | [.list l]=>(jd l).map fun ns=>.int ns.sum
 | _=>none
def mxI (i:Int) (r:List Int):Int:=r.foldl (fun a b=>if a < b then b else a) i
def FJ:List D→Option D
 | [.list l]=>match jd l with
  | some (i :: r)=>some (.int (mxI i r))
  | _=>none
 | _=>none
def insI (x:Int):List Int→List Int
 | []=>[x]
 | y :: r=>if x ≤ y then x :: y :: r else y :: insI x r
def oK:List Int→List Int
 | []=>[]
 | x :: r=>insI x (oK r)
def tH:List D→Option D
 | [.list l]=>(jd l).bind fun ns=>if ns.length < 64 then some (.list ((oK ns).map .int)) else none
 | _=>none
def vX:List D→Option D
 | [.int i]=>some (.int i)
 | [.bool b]=>some (.int (if b then 1 else 0))
 | _=>none
def Xu:List D→Option D
 | [.int i]=>some (.int (if i < 0 then -i else i))
 | _=>none
def vY:List D→Option D
 | [.int i,.int j]=>some (.int (if j > i then j else i))
 | _=>none
def vZ:List D→Option D
 | [.int i,.int j]=>some (.int (if j < i then j else i))
 | _=>none
def tyD:D→String
 | .none => "NoneType"
 | .bool _ => "bool"
 | .int _ => "int"
 | .str _ => "str"
 | .list _ => "list"
 | .tuple _ => "tuple"
 | .dict _ => "dict"
def gIs (c:String):D→Option D:=fun d=>some (.bool (isT c (tyD d)))
def Xv:D→Option D
 | .int i=>some (.int (-i))
 | _=>none
def ql:D→D→Option D:=fun x y=>match x,y with
 | .list l,.list m=>if l.length + m.length ≤ 1000000 then some (.list (l++m)) else none
 | _,_=>none
def JF:D→D→Option D:=fun x y=>match x,y with
 | .list l,.int k=>if l.length * k.toNat ≤ 1000000∧-(2 ^ 63) ≤ k∧k < 2 ^ 63 then some (.list (bF k.toNat l).flatten) else none
 | _,_=>none
def oM:D→Option D
 | .list l=>some (.list l)
 | .tuple l=>some (.list l)
 | _=>none
abbrev FO:=DS→Option (Option Int)
def rY:FO:=fun _=>some none
def qm (f:FE):FO:=fun δ=>(f δ).bind fun x=>match x with
 | .int i=>some (some i)
 | _=>none
def pSx (n d:Nat):Option Int→Nat
 | none=>d
 | some i=>if i < 0 then (i + n).toNat else min i.toNat n
def cutD (xs:List D) (lo hi:Option Int):List D:=(xs.drop (pSx xs.length 0 lo)).take (pSx xs.length xs.length hi - pSx xs.length 0 lo)
def dSl (f:FE) (lo hi:FO):FE:=fun δ=>(f δ).bind fun x=>(lo δ).bind fun a=>(hi δ).bind fun b=>match x with
 | .list l=>some (.list (cutD l a b))
 | _=>none
def Vr (i j:Nat) (fa:FA):FS:=fun δ=>(fa δ).bind fun l=>match l with
 | [x,y]=>if i < δ.length∧j < δ.length then some (.nx ((δ.set i (some (.d x))).set j (some (.d y)))) else none
 | _=>none
def kY (l:List D):List D:=l.mapIdx fun i x=>.tuple [.int (i:Int),x]
def uP (f:FE):FA:=fun δ=>(f δ).bind fun d=>match d with
 | .list l=>some (kY l)
 | _=>none
def mnI (i:Int) (r:List Int):Int:=r.foldl (fun a b=>if b < a then b else a) i
def FN:List D→Option D
 | [.list l]=>match jd l with
  | some (i :: r)=>some (.int (mnI i r))
  | _=>none
 | _=>none
def oA:List D→Option (List Bool)
 | []=>some []
 | .bool b :: r=>(oA r).map (b :: ·)
 | _=>none
def Dr:List D→Option D
 | [.list l]=>(oA l).map fun bs=>.bool (bs.all id)
 | _=>none
def sH:List D→List D→List D
 | x :: r,y :: s=>.tuple [x,y] :: sH r s
 | _,_=>[]
def M4 (f g:FE):FA:=fun δ=>(f δ).bind fun d=>(g δ).bind fun e=>match d,e with
 | .list l,.list m=>some (sH l m)
 | _,_=>none
def JG:D→Option D
 | .bool b=>some (.bool b)
 | _=>none
def v5:D→Option D
 | .bool b=>some (.bool (!b))
 | _=>none
theorem wj:∀ (r:List Int) (i:Int),mnI i r ∈ i :: r∧∀ a ∈ i :: r,mnI i r ≤ a
 | [],i=>⟨aO,fun a h=>by rw [aK.mp h];exact eY _⟩
 | b :: r,i=>by
  have ih:=wj r (if b < i then b else i)
  have e:mnI i (b :: r)=mnI (if b < i then b else i) r:=rfl
  rw [e]
  constructor
  ·rcases bA.mp ih.1 with z | z
   ·rw [z]
    split <;> simp
   ·exact aM _ (aM _ z)
  ·intro a h
   have h0:=ih.2 _ aO
   have hb:(if b < i then b else i) ≤ i∧(if b < i then b else i) ≤ b:=by split <;> omega
   rcases bA.mp h with rfl | h
   ·exact kI h0 hb.1
   ·rcases bA.mp h with rfl | h
    ·exact kI h0 hb.2
    ·exact ih.2 a (aM _ h)
theorem wu:∀ (r:List Int) (i:Int),mxI i r ∈ i :: r∧∀ a ∈ i :: r,a ≤ mxI i r
 | [],i=>⟨aO,fun a h=>by rw [aK.mp h];exact eY _⟩
 | b :: r,i=>by
  have ih:=wu r (if i < b then b else i)
  have e:mxI i (b :: r)=mxI (if i < b then b else i) r:=rfl
  rw [e]
  constructor
  ·rcases bA.mp ih.1 with z | z
   ·rw [z]
    split <;> simp
   ·exact aM _ (aM _ z)
  ·intro a h
   have h0:=ih.2 _ aO
   have hb:i ≤ (if i < b then b else i)∧b ≤ (if i < b then b else i):=by split <;> omega
   rcases bA.mp h with rfl | h
   ·exact kI hb.1 h0
   ·rcases bA.mp h with rfl | h
    ·exact kI hb.2 h0
    ·exact ih.2 a (aM _ h)
theorem insI_perm (x:Int):∀ l,(insI x l).Perm (x :: l)
 | []=>.refl _
 | y :: r=>by
  unfold insI
  split
  ·exact .refl _
  ·exact ((insI_perm x r).cons y).trans (.swap x y r)
theorem je:∀ l,(oK l).Perm l
 | []=>.refl _
 | x :: r=>(insI_perm x _).trans ((je r).cons x)
theorem uQ (x:Int):∀ l,l.Pairwise (· ≤ ·)→(insI x l).Pairwise (· ≤ ·)
 | [],_=>by simp [insI]
 | y :: r,h=>by
  obtain ⟨h1,h2⟩:=jj.mp h
  unfold insI
  split
  ·next c =>
   refine jj.mpr ⟨fun a ha=>?_,h⟩
   rcases bA.mp ha with rfl | z
   ·exact c
   ·exact kI c (h1 a z)
  ·next c =>
   refine jj.mpr ⟨fun a ha=>?_,uQ x r h2⟩
   rcases bA.mp ((insI_perm x r).mem_iff.mp ha) with rfl | z
   ·omega
   ·exact h1 a z
theorem nM:∀ l,(oK l).Pairwise (· ≤ ·)
 | []=>.nil
 | x :: r=>uQ x _ (nM r)
end D3
namespace D3
open PySem PySem.Spec PyProof.Rows L2 My
abbrev Ok:=Addr→Prop
abbrev St:=L2.St
class Chg (u:HO):Prop where
 ch:(∃ xs,u = .lst xs)∨(∃ kvs,u = .dK kvs)∨∃ kvs,u = .dT kvs
instance (xs:List V):Chg (.lst xs):=⟨.inl ⟨xs,rfl⟩⟩
instance (kvs:List (Key × V)):Chg (.dK kvs):=⟨.inr (.inl ⟨kvs,rfl⟩)⟩
instance (kvs:List (List Key × V)):Chg (.dT kvs):=⟨.inr (.inr ⟨kvs,rfl⟩)⟩
theorem Chg.frz {o:Obj} {u:HO} (h:Chg (.frz o u)):False:=by
 rcases h.ch with ⟨_,z⟩ | ⟨_,z⟩ | ⟨_,z⟩ <;> cases z
theorem Chg.tup {xs:List V} (h:Chg (.tup xs)):False:=by
 rcases h.ch with ⟨_,z⟩ | ⟨_,z⟩ | ⟨_,z⟩ <;> cases z
def Chd (o:Option HO):Prop:=∃ u,o=some u∧Chg u
theorem Chd.ne {o:Option HO} (h:Chd o):o ≠ none:=by
 obtain ⟨u,rfl,_⟩:=h
 simp
def SqK (K:PySem.W.Frag) (H:Hp) (a:Addr) (xs:List V):Prop:=(∃ o,H a=some (.frz o (.lst xs))) ∨
 ∃ (o:Obj) (its:Array Value) (n:Nat),K.lookup a=some o∧o.cls = .type "list" ∧ o.dict=none∧o.data = .seq its n∧its.size ≤ sizeLine∧Vals xs its.toList
theorem SqK.sq {K:PySem.W.Frag} {H:Hp} {a:Addr} {xs:List V} (h:SqK K H a xs):SqL K H a xs:=by
 rcases h with ⟨o,h⟩ | h
 ·exact .inl (.inr ⟨o,h⟩)
 ·exact .inr h
def kE (H:Hp) (a:Addr) (xs:List V):Prop:=H a=some (.tup xs)
theorem kE.sq {K:PySem.W.Frag} {H:Hp} {a:Addr} {xs:List V} (h:kE H a xs):SqT K H a xs:=.inl (.inl h)
theorem kE.same {H H':Hp} {a:Addr} {xs:List V} (e:Same H H') (h:kE H a xs):kE H' a xs:=e _ _ h
theorem kE.upd {H:Hp} {a b:Addr} {xs:List V} {u o:HO} [cu:Chg u] (h:H a=some u) (q:kE H b xs):kE (upd H a o) b xs:=by
 unfold kE
 rw [cJ (Fo q h (by intro z;subst z;exact cu.tup))]
 exact q
def dk0:List (D × D)→List (Key × V)
 | []=>[]
 | (.int i,.int j) :: r=>(.inl i,.int j) :: dk0 r
 | (.int i,.bool true) :: r=>(.inl i,.bl true) :: dk0 r
 | _ :: r=>(.inl 0,.non) :: dk0 r
def tkK:List D→Option (List Key)
 | []=>some []
 | .int i :: r=>(tkK r).map (.inl i :: ·)
 | _=>none
def tkD:List (D × D)→Option (List (List Key × V))
 | []=>some []
 | (.tuple l,.bool true) :: r=>(tkK l).bind fun k=>(tkD r).map ((k,.bl true) :: ·)
 | _=>none
def dh0 (kvs:List (D × D)):HO:=match kvs with
 | []=>.dK []
 | q :: r=>match tkD (q :: r) with
  | some ts=>.dT ts
  | none=>.dK (dk0 (q :: r))
theorem JH (kvs:List (D × D)):(∃ ks,dh0 kvs = .dK ks)∨∃ ks,dh0 kvs = .dT ks:=by
 cases kvs with
 | nil=>exact .inl ⟨_,rfl⟩
 | cons q r =>
  unfold dh0
  dsimp only
  split
  ·exact .inr ⟨_,rfl⟩
  ·exact .inl ⟨_,rfl⟩
instance (kvs:List (D × D)):Chg (dh0 kvs):=⟨by
 rcases JH kvs with ⟨ks,z⟩ | ⟨ks,z⟩
 ·exact .inr (.inl ⟨ks,z⟩)
 ·exact .inr (.inr ⟨ks,z⟩)⟩
def scV:D→V
 | .int i=>.int i
 | _=>.non
def scs:List D→Bool
 | []=>true
 | .int _ :: r=>scs r
 | .none :: r=>scs r
 | _=>false
def TV (H:Hp) (v:V) (d:D):Prop:=(v = .non∧d = .none)∨∃ b ds,v = .ref b∧d = .tuple ds∧kE H b (ds.map scV)∧scs ds=true
inductive TVs (H:Hp):List (Key × V)→List (D × D)→Prop
 | nil:TVs H [] []
 | cons {i:Int} {v:V} {d:D} {r:List (Key × V)} {r':List (D × D)}:TV H v d→TVs H r r'→TVs H ((.inl i,v) :: r) ((.int i,d) :: r')
theorem TV.imp {H H':Hp} (h:∀ b xs,kE H b xs→kE H' b xs) {v:V} {d:D} (q:TV H v d):TV H' v d:=by
 rcases q with q | ⟨b,ds,h1,h2,h3,h4⟩
 ·exact .inl q
 ·exact .inr ⟨b,ds,h1,h2,h _ _ h3,h4⟩
theorem TVs.imp {H H':Hp} (h:∀ b xs,kE H b xs→kE H' b xs) {ks:List (Key × V)} {kvs:List (D × D)} (q:TVs H ks kvs):TVs H' ks kvs:=by
 induction q with
 | nil=>exact .nil
 | cons t _ ih=>exact .cons (t.imp h) ih
def Ds:List (D × D)→Bool
 | []=>true
 | (_,.int _) :: r=>Ds r
 | (_,.bool _) :: r=>Ds r
 | _=>false
def DH (H:Hp) (u:HO) (kvs:List (D × D)):Prop:=(Ds kvs=true∧u=dh0 kvs)∨∃ ks,u = .dK ks∧TVs H ks kvs
theorem DH.imp {H H':Hp} (h:∀ b xs,kE H b xs→kE H' b xs) {u:HO} {kvs:List (D × D)} (q:DH H u kvs):DH H' u kvs:=by
 rcases q with q | ⟨ks,q1,q2⟩
 ·exact .inl q
 ·exact .inr ⟨ks,q1,q2.imp h⟩
theorem DH.same {H H':Hp} {u:HO} {kvs:List (D × D)} (q:DH H u kvs) (e:Same H H'):DH H' u kvs:=q.imp fun _ _ h=>kE.same e h
theorem DH.upd {H:Hp} {a:Addr} {u o u':HO} [cu:Chg u] {kvs:List (D × D)} (q:DH H u' kvs) (h:H a=some u):DH (upd H a o) u' kvs:=q.imp fun _ _ z=>kE.upd h z
theorem DH.or {H:Hp} {u:HO} {kvs:List (D × D)} (q:DH H u kvs):(∃ ks,u = .dK ks)∨∃ ks,u = .dT ks:=by
 rcases q with ⟨_,rfl⟩ | ⟨ks,rfl,_⟩
 ·exact JH kvs
 ·exact .inl ⟨ks,rfl⟩
theorem DH.chg {H:Hp} {u:HO} {kvs:List (D × D)} (q:DH H u kvs):Chg u:=⟨.inr q.or⟩
theorem DH.old {H:Hp} {u:HO} {kvs:List (D × D)} (q:DH H u kvs) (h:Ds kvs=true):u=dh0 kvs:=by
 rcases q with q | ⟨ks,rfl,q⟩
 ·exact q.2
 ·cases q with
  | nil=>rfl
  | cons t _ =>
   rcases t with ⟨_,rfl⟩ | ⟨_,_,_,rfl,_,_⟩ <;> cases h
mutual
inductive RA (K:PySem.W.Frag) (ok:Ok) (pl:Bool) (H:Hp):V→D→Prop
 | non:RA K ok pl H .non .none
 | bl (b:Bool):RA K ok pl H (.bl b) (.bool b)
 | int (i:Int):RA K ok pl H (.int i) (.int i)
 | str (x:Str):RA K ok pl H (.str x) (.str x)
 | lst {a:Addr} {xs:List V} {ds:List D}:H a=some (.lst xs)→ok a→RAs K ok pl H xs ds→RA K ok pl H (.ref a) (.list ds)
 | lsk {a:Addr} {xs:List V} {ds:List D}:SqK K H a xs→pl=true→RAs K ok pl H xs ds→RA K ok pl H (.ref a) (.list ds)
 | tup {a:Addr} {xs:List V} {ds:List D}:kE H a xs→RAs K ok pl H xs ds→RA K ok pl H (.ref a) (.tuple ds)
 | dic {a:Addr} {u:HO} {kvs:List (D × D)}:H a=some u→DH H u kvs→ok a→RA K ok pl H (.ref a) (.dict kvs)
 | dik {a:Addr} {u:HO} {kvs:List (D × D)} {o:Obj}:H a=some (.frz o u)→DH H u kvs→pl=true→RA K ok pl H (.ref a) (.dict kvs)
inductive RAs (K:PySem.W.Frag) (ok:Ok) (pl:Bool) (H:Hp):List V→List D→Prop
 | nil:RAs K ok pl H [] []
 | cons {v:V} {d:D} {vs:List V} {ds:List D}:RA K ok pl H v d→RAs K ok pl H vs ds→RAs K ok pl H (v :: vs) (d :: ds)
end
section
variable {K:PySem.W.Frag} {ok ok':Ok} {pl pl':Bool} {H H':Hp}
theorem RA.ind {P:V→D→Prop} {Q:List V→List D→Prop} (c1:P .non .none) (c2:∀ b,P (.bl b) (.bool b)) (c3:∀ i,P (.int i) (.int i)) (c4:∀ x,P (.str x) (.str x))
 (c5:∀ {a:Addr} {xs:List V} {ds:List D},H a=some (.lst xs)→ok a→Q xs ds→P (.ref a) (.list ds)) (c6:∀ {a:Addr} {xs:List V} {ds:List D},SqK K H a xs→pl=true→Q xs ds→P (.ref a) (.list ds)) (c7:∀ {a:Addr} {xs:List V} {ds:List D},kE H a xs→Q xs ds→P (.ref a) (.tuple ds))
 (c8:∀ {a:Addr} {u:HO} {kvs:List (D × D)},H a=some u→DH H u kvs→ok a→P (.ref a) (.dict kvs)) (c9:∀ {a:Addr} {u:HO} {kvs:List (D × D)} {o:Obj},H a=some (.frz o u)→DH H u kvs→pl=true→P (.ref a) (.dict kvs)) (c10:Q [] []) (c11:∀ {v:V} {d:D} {vs:List V} {ds:List D},P v d→Q vs ds→Q (v :: vs) (d :: ds)) :
 (∀ {v:V} {d:D},RA K ok pl H v d→P v d)∧∀ {v:List V} {d:List D},RAs K ok pl H v d→Q v d :=
 ⟨fun h=>RA.rec (motive_1:=fun v d _=>P v d) (motive_2:=fun v d _=>Q v d) c1 c2 c3 c4 (fun h o _ q=>c5 h o q) (fun h o _ q=>c6 h o q) (fun h _ q=>c7 h q) (fun h g o=>c8 h g o) (fun h g o=>c9 h g o) c10 (fun _ _ a q=>c11 a q) h,
  fun h=>RAs.rec (motive_1:=fun v d _=>P v d) (motive_2:=fun v d _=>Q v d) c1 c2 c3 c4 (fun h o _ q=>c5 h o q) (fun h o _ q=>c6 h o q) (fun h _ q=>c7 h q) (fun h g o=>c8 h g o) (fun h g o=>c9 h g o) c10 (fun _ _ a q=>c11 a q) h⟩
theorem RA.imp2 (ho:∀ a,ok a→ok' a) (hp:pl=true→pl'=true):(∀ {v:V} {d:D},RA K ok pl H v d→RA K ok' pl' H v d)∧∀ {v:List V} {d:List D},RAs K ok pl H v d→RAs K ok' pl' H v d :=
 RA.ind .non .bl .int .str (fun h o q=>.lst h (ho _ o) q) (fun h o q=>.lsk h (hp o) q) (fun h q=>.tup h q) (fun h g o=>.dic h g (ho _ o)) (fun h g o=>.dik h g (hp o)) .nil .cons
theorem RA.imp (ho:∀ a,ok a→ok' a) (hp:pl=true→pl'=true) {v:V} {d:D} (h:RA K ok pl H v d):RA K ok' pl' H v d:=(RA.imp2 ho hp).1 h
theorem RAs.imp (ho:∀ a,ok a→ok' a) (hp:pl=true→pl'=true) {v:List V} {d:List D} (h:RAs K ok pl H v d):RAs K ok' pl' H v d:=(RA.imp2 ho hp).2 h
theorem SqK.same {a:Addr} {xs:List V} (e:Same H H') (h:SqK K H a xs):SqK K H' a xs:=by
 rcases h with ⟨o,h⟩ | h
 ·exact .inl ⟨o,e _ _ h⟩
 ·exact .inr h
theorem RA.same2 (e:Same H H'):(∀ {v:V} {d:D},RA K ok pl H v d→RA K ok pl H' v d)∧∀ {v:List V} {d:List D},RAs K ok pl H v d→RAs K ok pl H' v d :=
 RA.ind .non .bl .int .str (fun h o q=>.lst (e _ _ h) o q) (fun h o q=>.lsk (h.same e) o q) (fun h q=>.tup (kE.same e h) q) (fun h g o=>.dic (e _ _ h) (g.same e) o) (fun h g o=>.dik (e _ _ h) (g.same e) o) .nil .cons
theorem RA.same (e:Same H H') {v:V} {d:D} (h:RA K ok pl H v d):RA K ok pl H' v d:=(RA.same2 e).1 h
theorem RAs.same (e:Same H H') {v:List V} {d:List D} (h:RAs K ok pl H v d):RAs K ok pl H' v d:=(RA.same2 e).2 h
theorem RA.flat2:(∀ {v:V} {d:D},RA K ok pl H v d→flat d=true→RA K ok' pl' H v d)∧∀ {v:List V} {d:List D},RAs K ok pl H v d→flats d=true→RAs K ok' pl' H v d :=
 RA.ind (fun _=>.non) (fun b _=>.bl b) (fun i _=>.int i) (fun x _=>.str x) (fun _ _ _ h=>by simp [D3.flat] at h) (fun _ _ _ h=>by simp [D3.flat] at h) (fun t q h=>.tup t (q (by simpa [D3.flat] using h))) (fun _ _ _ h=>by simp [D3.flat] at h) (fun _ _ _ h=>by simp [D3.flat] at h) (fun _=>.nil) fun a q h=>by
  rw [flats,aW] at h
  exact .cons (a h.1) (q h.2)
theorem RA.flat {v:V} {d:D} (hf:flat d=true) (h:RA K ok pl H v d):RA K ok' pl' H v d:=RA.flat2.1 h hf
theorem RAs.flat {v:List V} {d:List D} (hf:flats d=true) (h:RAs K ok pl H v d):RAs K ok' pl' H v d:=RA.flat2.2 h hf
theorem SqK.upd {a b:Addr} {xs:List V} {u o:HO} [cu:Chg u] (h:H a=some u) (q:SqK K H b xs):SqK K (upd H a o) b xs:=by
 rcases q with ⟨o',q⟩ | q
 ·refine .inl ⟨o',?_⟩
  rw [cJ (Fo q h (by intro z;subst z;first | exact cu.frz | exact cu.tup))]
  exact q
 ·exact .inr q
theorem RA.upd2 {a:Addr} {u o:HO} [cu:Chg u] (h:H a=some u) (na:¬ ok a):(∀ {v:V} {d:D},RA K ok pl H v d→RA K ok pl (upd H a o) v d)∧∀ {v:List V} {d:List D},RAs K ok pl H v d→RAs K ok pl (upd H a o) v d :=
 RA.ind .non .bl .int .str (fun e k q=>.lst (by rw [cJ (by intro z;subst z;exact na k)];exact e) k q) (fun e k q=>.lsk (e.upd h) k q) (fun e q=>.tup (kE.upd h e) q) (fun e g k=>.dic (by rw [cJ (by intro z;subst z;exact na k)];exact e) (g.upd h) k) (fun e g k=>.dik (by rw [cJ (Fo e h (by intro z;subst z;exact cu.frz))];exact e) (g.upd h) k) .nil .cons
theorem RA.upd {a:Addr} {u o:HO} [cu:Chg u] (h:H a=some u) (na:¬ ok a) {v:V} {d:D} (r:RA K ok pl H v d):RA K ok pl (upd H a o) v d:=(RA.upd2 h na).1 r
theorem RAs.upd {a:Addr} {u o:HO} [cu:Chg u] (h:H a=some u) (na:¬ ok a) {v:List V} {d:List D} (r:RAs K ok pl H v d):RAs K ok pl (upd H a o) v d:=(RA.upd2 h na).2 r
theorem RA.track2:(∀ {v:V} {d:D},RA K ok pl H v d→RA K (fun b=>ok b∧H b ≠ none) pl H v d)∧∀ {v:List V} {d:List D},RAs K ok pl H v d→RAs K (fun b=>ok b∧H b ≠ none) pl H v d :=
 RA.ind .non .bl .int .str (fun e k q=>.lst e ⟨k,by rw [e];simp⟩ q) (fun e k q=>.lsk e k q) (fun e q=>.tup e q) (fun e g k=>.dic e g ⟨k,by rw [e];simp⟩) (fun e g k=>.dik e g k) .nil .cons
theorem RA.track {v:V} {d:D} (h:RA K ok pl H v d):RA K (fun b=>ok b∧H b ≠ none) pl H v d:=RA.track2.1 h
theorem RAs.track {v:List V} {d:List D} (h:RAs K ok pl H v d):RAs K (fun b=>ok b∧H b ≠ none) pl H v d:=RA.track2.2 h
theorem RAs.length:∀ {v:List V} {d:List D},RAs K ok pl H v d→v.length=d.length
 | _,_,.nil=>rfl
 | _,_,.cons _ q=>by simp [RAs.length q]
theorem RAs.get:∀ {v:List V} {d:List D} {i:Nat} {x:D},RAs K ok pl H v d→d[i]? = some x→∃ y,v[i]? = some y∧RA K ok pl H y x
 | _,_,_,_,.nil,h=>by simp at h
 | _,_,0,_,.cons a _,h=>by simp at h;subst h;exact ⟨_,rfl,a⟩
 | _,_,i + 1,_,.cons _ q,h=>by
  obtain ⟨y,e,r⟩:=RAs.get (i:=i) q (by simpa using h)
  exact ⟨y,by simpa using e,r⟩
theorem RAs.append:∀ {v v':List V} {d d':List D},RAs K ok pl H v d→RAs K ok pl H v' d'→RAs K ok pl H (v++v') (d++d')
 | _,_,_,_,.nil,q=>q
 | _,_,_,_,.cons a r,q=>.cons a (RAs.append r q)
theorem RAs.set {x:V} {y:D} (r:RA K ok pl H x y):∀ {v:List V} {d:List D} (i:Nat),RAs K ok pl H v d→RAs K ok pl H (v.set i x) (d.set i y)
 | _,_,_,.nil=>.nil
 | _,_,0,.cons _ q=>.cons r q
 | _,_,i + 1,.cons a q=>.cons a (RAs.set r i q)
theorem RAs.take:∀ {v:List V} {d:List D} (n:Nat),RAs K ok pl H v d→RAs K ok pl H (v.take n) (d.take n)
 | _,_,0,_=>by simp;exact .nil
 | _,_,_ + 1,.nil=>.nil
 | _,_,n + 1,.cons a q=>.cons a (RAs.take n q)
theorem RAs.drop:∀ {v:List V} {d:List D} (n:Nat),RAs K ok pl H v d→RAs K ok pl H (v.drop n) (d.drop n)
 | _,_,0,q=>q
 | _,_,_ + 1,.nil=>.nil
 | _,_,n + 1,.cons _ q=>RAs.drop n q
theorem RA.rd2:(∀ {v:V} {d:D},RA K ok pl H v d→d.canLay0=true→RdV K H v d)∧∀ {v:List V} {d:List D},RAs K ok pl H v d→PyData.canLayAll0 d=true→RdVs K H v d :=
 RA.ind (fun _=>.non) (fun b _=>.bl b) (fun i _=>.int i) (fun x _=>.str x) (fun e _ q h=>.lst (SqL.of e) (q (by simpa [PyData.canLay0] using h))) (fun e _ q h=>.lst e.sq (q (by simpa [PyData.canLay0] using h))) (fun e q h=>.tup e.sq (q (by simpa [PyData.canLay0] using h))) (fun _ _ _ h=>by simp [PyData.canLay0] at h) (fun _ _ _ h=>by simp [PyData.canLay0] at h) (fun _=>.nil) fun a q h=>by
  rw [PyData.canLayAll0,aW] at h
  exact .cons (a h.1) (q h.2)
theorem RA.rd {v:V} {d:D} (hf:d.canLay0=true) (h:RA K ok pl H v d):RdV K H v d:=RA.rd2.1 h hf
theorem RA.intE {v:V} {i:Int} (h:RA K ok pl H v (.int i)):v = .int i:=by cases h;rfl
theorem RA.blE {v:V} {b:Bool} (h:RA K ok pl H v (.bool b)):v = .bl b:=by cases h;rfl
theorem RA.nonE {v:V} (h:RA K ok pl H v .none):v = .non:=by cases h;rfl
theorem RA.lstE {v:V} {ds:List D} (h:RA K ok pl H v (.list ds)):∃ a xs,v = .ref a∧SqL K H a xs∧RAs K ok pl H xs ds:=by
 cases h with
 | lst e k q=>exact ⟨_,_,rfl,SqL.of e,q⟩
 | lsk e k q=>exact ⟨_,_,rfl,e.sq,q⟩
theorem RA.dicU {v:V} {kvs:List (D × D)} (h:RA K ok pl H v (.dict kvs)):∃ a u,v = .ref a∧L2.Rd H a u∧DH H u kvs:=by
 cases h with
 | dic e g k=>exact ⟨_,_,rfl,.inl e,g⟩
 | dik e g k=>exact ⟨_,_,rfl,.inr ⟨_,e⟩,g⟩
theorem RA.dicE {v:V} {kvs:List (D × D)} (h:RA K ok pl H v (.dict kvs)) (ho:Ds kvs=true):∃ a,v = .ref a∧L2.Rd H a (dh0 kvs):=by
 obtain ⟨a,u,h1,h2,h3⟩:=h.dicU
 rw [h3.old ho] at h2
 exact ⟨a,h1,h2⟩
theorem RA.tupE {v:V} {ds:List D} (h:RA K ok pl H v (.tuple ds)):∃ a xs,v = .ref a∧SqT K H a xs∧RAs K ok pl H xs ds:=by
 cases h with
 | tup e q=>exact ⟨_,_,rfl,e.sq,q⟩
theorem RA.tupE0 {v:V} {ds:List D} (h:RA K ok pl H v (.tuple ds)):∃ a xs,v = .ref a∧kE H a xs∧RAs K ok pl H xs ds:=by
 cases h with
 | tup e q=>exact ⟨_,_,rfl,e,q⟩
end
inductive Fl where
 | A
 | O
 | L
 | N
 | M
 deriving DecidableEq
def isN:Option Fl→Bool
 | some .N=>true
 | some .M=>true
 | _=>false
mutual
inductive RT (K:PySem.W.Frag) (H:Hp):V→D→List Addr→Prop
 | non:RT K H .non .none []
 | bl (b:Bool):RT K H (.bl b) (.bool b) []
 | int (i:Int):RT K H (.int i) (.int i) []
 | str (x:Str):RT K H (.str x) (.str x) []
 | lst {a:Addr} {xs:List V} {ds:List D} {as:List Addr}:H a=some (.lst xs)→RTs K H xs ds as→RT K H (.ref a) (.list ds) (a :: as)
 | tup {a:Addr} {xs:List V} {ds:List D} {as:List Addr}:kE H a xs→RTs K H xs ds as→RT K H (.ref a) (.tuple ds) as
 | dic {a:Addr} {u:HO} {kvs:List (D × D)}:H a=some u→DH H u kvs→RT K H (.ref a) (.dict kvs) [a]
inductive RTs (K:PySem.W.Frag) (H:Hp):List V→List D→List Addr→Prop
 | nil:RTs K H [] [] []
 | cons {v:V} {d:D} {vs:List V} {ds:List D} {as bs:List Addr}:RT K H v d as→RTs K H vs ds bs→RTs K H (v :: vs) (d :: ds) (as++bs)
end
section
variable {K:PySem.W.Frag} {H H':Hp}
theorem RT.ind {P:V→D→List Addr→Prop} {Q:List V→List D→List Addr→Prop} (c1:P .non .none []) (c2:∀ b,P (.bl b) (.bool b) []) (c3:∀ i,P (.int i) (.int i) []) (c4:∀ x,P (.str x) (.str x) [])
 (c5:∀ {a:Addr} {xs:List V} {ds:List D} {as:List Addr},H a=some (.lst xs)→Q xs ds as→P (.ref a) (.list ds) (a :: as)) (c7:∀ {a:Addr} {xs:List V} {ds:List D} {as:List Addr},kE H a xs→Q xs ds as→P (.ref a) (.tuple ds) as)
 (c8:∀ {a:Addr} {u:HO} {kvs:List (D × D)},H a=some u→DH H u kvs→P (.ref a) (.dict kvs) [a]) (c10:Q [] [] []) (c11:∀ {v:V} {d:D} {vs:List V} {ds:List D} {as bs:List Addr},P v d as→Q vs ds bs→Q (v :: vs) (d :: ds) (as++bs)) :
 (∀ {v:V} {d:D} {as:List Addr},RT K H v d as→P v d as)∧∀ {v:List V} {d:List D} {as:List Addr},RTs K H v d as→Q v d as :=
 ⟨fun h=>RT.rec (motive_1:=fun v d as _=>P v d as) (motive_2:=fun v d as _=>Q v d as) c1 c2 c3 c4 (fun h _ q=>c5 h q) (fun h _ q=>c7 h q) (fun h g=>c8 h g) c10 (fun _ _ a q=>c11 a q) h,
  fun h=>RTs.rec (motive_1:=fun v d as _=>P v d as) (motive_2:=fun v d as _=>Q v d as) c1 c2 c3 c4 (fun h _ q=>c5 h q) (fun h _ q=>c7 h q) (fun h g=>c8 h g) c10 (fun _ _ a q=>c11 a q) h⟩
theorem RT.ra2 {ok:Ok} {pl:Bool}:(∀ {v:V} {d:D} {as:List Addr},RT K H v d as→(∀ a ∈ as,ok a)→RA K ok pl H v d)∧∀ {v:List V} {d:List D} {as:List Addr},RTs K H v d as→(∀ a ∈ as,ok a)→RAs K ok pl H v d :=
 RT.ind (fun _=>.non) (fun b _=>.bl b) (fun i _=>.int i) (fun x _=>.str x) (fun e q h=>.lst e (h _ aO) (q fun a ha=>h a (aM _ ha))) (fun e q h=>.tup e (q h)) (fun e g h=>.dic e g (h _ aO)) (fun _=>.nil) fun e q h=>.cons (e fun a ha=>h a (bf _ ha)) (q fun a ha=>h a (aU _ ha))
theorem RT.ra {ok:Ok} {pl:Bool} {v:V} {d:D} {as:List Addr} (r:RT K H v d as) (h:∀ a ∈ as,ok a):RA K ok pl H v d:=RT.ra2.1 r h
theorem RT.same2 (s:Same H H'):(∀ {v:V} {d:D} {as:List Addr},RT K H v d as→RT K H' v d as)∧∀ {v:List V} {d:List D} {as:List Addr},RTs K H v d as→RTs K H' v d as :=
 RT.ind .non .bl .int .str (fun e q=>.lst (s _ _ e) q) (fun e q=>.tup (kE.same s e) q) (fun e g=>.dic (s _ _ e) (g.same s)) .nil .cons
theorem RT.same (s:Same H H') {v:V} {d:D} {as:List Addr} (h:RT K H v d as):RT K H' v d as:=(RT.same2 s).1 h
theorem RT.upd2 {a:Addr} {u o:HO} [cu:Chg u] (h:H a=some u):(∀ {v:V} {d:D} {as:List Addr},RT K H v d as→a ∉ as→RT K (upd H a o) v d as)∧∀ {v:List V} {d:List D} {as:List Addr},RTs K H v d as→a ∉ as→RTs K (upd H a o) v d as :=
 RT.ind (fun _=>.non) (fun b _=>.bl b) (fun i _=>.int i) (fun x _=>.str x) (fun e q na=>.lst (by rw [cJ (fun z=>na (by rw [← z];exact aO))];exact e) (q fun z=>na (aM _ z))) (fun e q na=>.tup (kE.upd h e) (q na)) (fun e g na=>.dic (by rw [cJ (fun z=>na (by rw [← z];exact aO))];exact e) (g.upd h)) (fun _=>.nil) fun e q na=>.cons (e fun z=>na (bf _ z)) (q fun z=>na (aU _ z))
theorem RT.upd {a:Addr} {u o:HO} [cu:Chg u] (h:H a=some u) {v:V} {d:D} {as:List Addr} (na:a ∉ as) (r:RT K H v d as):RT K (upd H a o) v d as:=(RT.upd2 h).1 r na
theorem RT.chd2:(∀ {v:V} {d:D} {as:List Addr},RT K H v d as→∀ a ∈ as,Chd (H a))∧∀ {v:List V} {d:List D} {as:List Addr},RTs K H v d as→∀ a ∈ as,Chd (H a) :=
 RT.ind (fun _ h=>by cases h) (fun _ _ h=>by cases h) (fun _ _ h=>by cases h) (fun _ _ h=>by cases h) (fun e q a h=>by
  rcases bA.mp h with rfl | z
  ·exact ⟨_,e,inferInstance⟩
  ·exact q a z) (fun _ q=>q) (fun e g a h=>by rw [aK.mp h];exact ⟨_,e,g.chg⟩) (fun _ h=>by cases h) fun e q a h=>by
  rcases aX.mp h with z | z
  ·exact e a z
  ·exact q a z
theorem RT.chd {v:V} {d:D} {as:List Addr} (r:RT K H v d as):∀ a ∈ as,Chd (H a):=RT.chd2.1 r
theorem RTs.chd {v:List V} {d:List D} {as:List Addr} (r:RTs K H v d as):∀ a ∈ as,Chd (H a):=RT.chd2.2 r
theorem RT.tracked {v:V} {d:D} {as:List Addr} (h:RT K H v d as) (a:Addr) (ha:a ∈ as):H a ≠ none:=(h.chd a ha).ne
theorem RA.rt2 {ok:Ok}:(∀ {v:V} {d:D},RA K ok false H v d→∃ as,RT K H v d as∧as.length=nl d∧∀ a ∈ as,ok a)∧∀ {v:List V} {d:List D},RAs K ok false H v d→∃ as,RTs K H v d as∧as.length=nls d∧∀ a ∈ as,ok a :=
 RA.ind ⟨[],.non,rfl,fun _ h=>by cases h⟩ (fun b=>⟨[],.bl b,rfl,fun _ h=>by cases h⟩) (fun i=>⟨[],.int i,rfl,fun _ h=>by cases h⟩) (fun x=>⟨[],.str x,rfl,fun _ h=>by cases h⟩) (fun e k q=>by
  obtain ⟨as,h1,h2,h3⟩:=q
  refine ⟨_ :: as,.lst e h1,by rw [bN,h2,nl],fun a ha=>?_⟩
  rcases bA.mp ha with rfl | z
  ·exact k
  ·exact h3 a z) (fun _ k _=>by cases k) (fun e q=>by
  obtain ⟨as,h1,h2,h3⟩:=q
  exact ⟨as,.tup e h1,by rw [h2,nl],h3⟩) (fun e g k=>⟨[_],.dic e g,by simp [nl],fun a ha=>by rw [aK.mp ha];exact k⟩) (fun _ _ k=>by cases k) ⟨[],.nil,rfl,fun _ h=>by cases h⟩ fun e q=>by
  obtain ⟨as,h1,h2,h3⟩:=e
  obtain ⟨bs,g1,g2,g3⟩:=q
  refine ⟨as++bs,.cons h1 g1,by rw [bH,h2,g2,nls],fun a ha=>?_⟩
  rcases aX.mp ha with z | z
  ·exact h3 a z
  ·exact g3 a z
theorem RA.rt {ok:Ok} {v:V} {d:D} (h:RA K ok false H v d):∃ as,RT K H v d as∧as.length=nl d∧∀ a ∈ as,ok a:=RA.rt2.1 h
end
def tabs:List (Addr × Str × Pos):=[(213, "still_to_come.<locals>.<lambda>", ⟨82,30,82,59⟩)]
def Tb (H:Hp):Prop:=∀ t ∈ tabs,H t.1=some (.tbl t.2.1 t.2.2)
theorem Tb.same {H H':Hp} (t:Tb H) (s:Same H H'):Tb H':=fun x hx=>s _ _ (t x hx)
structure Gh where
 H0:Hp
 HF:Hp
 pk:Nat→Option Addr
 pn:Nat→List Addr
 tb:Tb H0
structure Ow where
 s:Nat→Option Addr
 n:Nat→List Addr:=fun _=>[]
instance:CoeFun Ow (fun _=>Nat→Option Addr):=⟨Ow.s⟩
abbrev ow0:Ow:=⟨fun _=>none,fun _=>[]⟩
def okA (ow:Ow):Ok:=fun a=>(∀ i,ow i ≠ some a)∧∀ i,a ∉ ow.n i
structure Rel (K:PySem.W.Frag) (fl:List Fl) (G:Gh) (ow:Ow) (σ:St) (H:Hp) (δ:DS):Prop where
 s0:Same G.H0 G.HF
 s1:Same G.HF H
 len:σ.length=δ.length
 own:∀ i a,ow i=some a→G.H0 a=none∧((fl[i]? = some .O∧G.HF a=none)∨(fl[i]? = some .L∧∃ xs,G.HF a=some (.lst xs))) ∧
  ∃ xs ds,σ[i]? = some (some (.ref a))∧H a=some (.lst xs)∧RAs K (okA ow) true H xs ds∧δ[i]? = some (some (.d (.list ds)))
 inj:∀ i j a,ow i=some a→ow j=some a→i=j
 pin:∀ i,fl[i]? = some .L→ow i=G.pk i
 dat:∀ i d,δ[i]? = some (some (.d d))→isN fl[i]? = false→ow i=none→∃ v,σ[i]? = some (some v)∧RA K (okA ow) true H v d
 oo:∀ i d,δ[i]? = some (some (.d d))→isN fl[i]? = false→fl[i]? ≠ some .A→ow i=none→flat d=true
 nt:∀ i a,a ∈ ow.n i→G.H0 a=none∧Chd (H a)∧((fl[i]? = some .N∧G.HF a=none)∨fl[i]? = some .M)
 nd:∀ i j a,a ∈ ow.n i→a ∈ ow.n j→i=j
 ns:∀ i j a,a ∈ ow.n i→ow j ≠ some a
 np:∀ i,fl[i]? = some .M→ow.n i=G.pn i
 nr:∀ i d,isN fl[i]? = true→δ[i]? = some (some (.d d))→∃ v,σ[i]? = some (some v)∧RT K H v d (ow.n i)∧(ow.n i).Nodup
theorem Rel.tb {K:PySem.W.Frag} {fl:List Fl} {G:Gh} {ow:Ow} {σ:St} {H:Hp} {δ:DS} (R:Rel K fl G ow σ H δ):Tb H:=G.tb.same (R.s0.trans R.s1)
theorem Rel.same0 {K:PySem.W.Frag} {fl:List Fl} {G:Gh} {ow:Ow} {σ:St} {H:Hp} {δ:DS} (R:Rel K fl G ow σ H δ):Same G.H0 H:=R.s0.trans R.s1
theorem Rel.grow {K:PySem.W.Frag} {fl:List Fl} {G:Gh} {ow:Ow} {σ:St} {H H':Hp} {δ:DS} (R:Rel K fl G ow σ H δ) (e:Same H H'):Rel K fl G ow σ H' δ :=
 ⟨R.s0,R.s1.trans e,R.len,fun i a h=>by
  obtain ⟨h0,hf,xs,ds,h1,h2,h3,h4⟩:=R.own i a h
  exact ⟨h0,hf,xs,ds,h1,e _ _ h2,h3.same e,h4⟩,R.inj,R.pin,fun i d h1 hn h2=>by
  obtain ⟨v,h3,h4⟩:=R.dat i d h1 hn h2
  exact ⟨v,h3,h4.same e⟩,R.oo,fun i a h=>by
  obtain ⟨h1,h2,h3⟩:=R.nt i a h
  exact ⟨h1,(let ⟨u,z,c⟩:=h2;⟨u,e _ _ z,c⟩),h3⟩,R.nd,R.ns,R.np,fun i d h1 h2=>by
  obtain ⟨v,h3,h4,h5⟩:=R.nr i d h1 h2
  exact ⟨v,h3,h4.same e,h5⟩⟩
inductive Kd where
 | P
 | B (L:List Nat)
 | A
 | R
 | F
 | C
 | FC
 | T
def ok1:Ok:=fun _=>True
def ok0:Ok:=fun _=>False
def okN (H:Hp):Ok:=fun a=>H a=none
def Rs (K:PySem.W.Frag) (H0:Hp) (ow:Ow) (Hb H:Hp):Kd→V→D→Prop
 | .P,v,d=>RA K ok1 true H v d
 | .B L,v,d=>RA K (okA ow) true H v d∨∃ i ∈ L,∃ a xs ds,ow i=some a∧v = .ref a∧d = .list ds∧H a=some (.lst xs)∧RAs K (okA ow) true H xs ds
 | .A,v,d=>RA K (okA ow) true H v d
 | .R,v,d=>RA K (okN H0) false H v d
 | .F,v,d=>(flat d=true∧RA K ok0 false H v d)∨∃ a xs ds,v = .ref a∧d = .list ds∧Hb a=none∧H a=some (.lst xs)∧RAs K (fun b=>okA ow b∧b ≠ a) true H xs ds
 | .C,v,d=>RA K (okN Hb) false H v d
 | .T,v,d=>∃ as,RT K H v d as∧as.Nodup∧∀ a ∈ as,Hb a=none
 | .FC,v,d=>(flat d=true∧RA K ok0 false H v d)∨∃ a xs ds,v = .ref a∧d = .list ds∧Hb a=none∧H a=some (.lst xs)∧RAs K (fun b=>okN Hb b∧b ≠ a) false H xs ds
section
variable {K:PySem.W.Frag} {Hb H H':Hp} {fl:List Fl} {G:Gh} {ow:Ow} {σ:St} {δ:DS} {v:V} {d:D}
theorem zu (R:Rel K fl G ow σ Hb δ) {a:Addr} (h:Hb a=none):okA ow a:=⟨fun i e=>(by
 obtain ⟨_,_,xs,_,_,h2,_⟩:=R.own i a e
 rw [h] at h2
 cases h2),fun i e=>(R.nt i a e).2.1.ne h⟩
theorem Vs (R:Rel K fl G ow σ Hb δ) {a:Addr} (h:Hb a=none):okN G.H0 a:=R.same0.free h
theorem Rs.FC_F (R:Rel K fl G ow σ Hb δ) (h:Rs K G.H0 ow Hb H .FC v d):Rs K G.H0 ow Hb H .F v d:=by
 rcases h with h | ⟨a,xs,ds,h1,h2,h3,h4,h5⟩
 ·exact .inl h
 ·exact .inr ⟨a,xs,ds,h1,h2,h3,h4,h5.imp (fun b z=>⟨zu R z.1,z.2⟩) (fun _=>rfl)⟩
theorem Rs.FC_C (h:Rs K G.H0 ow Hb H .FC v d):Rs K G.H0 ow Hb H .C v d:=by
 rcases h with h | ⟨a,xs,ds,rfl,rfl,h3,h4,h5⟩
 ·exact RA.flat h.1 h.2
 ·exact .lst h4 h3 (h5.imp (fun b z=>z.1) (fun z=>z))
theorem Rs.F_A (R:Rel K fl G ow σ Hb δ) (h:Rs K G.H0 ow Hb H .F v d):Rs K G.H0 ow Hb H .A v d:=by
 rcases h with h | ⟨a,xs,ds,rfl,rfl,h3,h4,h5⟩
 ·exact RA.flat h.1 h.2
 ·exact .lst h4 (zu R h3) (h5.imp (fun b z=>z.1) (fun z=>z))
theorem Rs.C_A (R:Rel K fl G ow σ Hb δ) (h:Rs K G.H0 ow Hb H .C v d):Rs K G.H0 ow Hb H .A v d:=RA.imp (fun _ z=>zu R z) (fun _=>rfl) h
theorem Rs.C_R (R:Rel K fl G ow σ Hb δ) (h:Rs K G.H0 ow Hb H .C v d):Rs K G.H0 ow Hb H .R v d:=RA.imp (fun _ z=>Vs R z) (fun z=>z) h
theorem Rs.A_B (L:List Nat) (h:Rs K G.H0 ow Hb H .A v d):Rs K G.H0 ow Hb H (.B L) v d:=.inl h
theorem Rs.B_P {L:List Nat} (h:Rs K G.H0 ow Hb H (.B L) v d):Rs K G.H0 ow Hb H .P v d:=by
 rcases h with h | ⟨i,_,a,xs,ds,_,rfl,rfl,h4,h5⟩
 ·exact RA.imp (fun _ _=>trivial) (fun z=>z) h
 ·exact .lst h4 trivial (h5.imp (fun _ _=>trivial) (fun z=>z))
theorem Rs.P_flat (hf:flat d=true) (h:Rs K G.H0 ow Hb H .P v d):Rs K G.H0 ow Hb H .FC v d:=.inl ⟨hf,RA.flat hf h⟩
theorem Rs.C_fl1 (hf:fl1 d=true) (h:Rs K G.H0 ow Hb H .C v d):Rs K G.H0 ow Hb H .FC v d:=by
 by_cases e:∃ ds,d = .list ds
 ·obtain ⟨ds,rfl⟩:=e
  cases h with
  | lst e k q=>exact .inr ⟨_,_,_,rfl,rfl,k,e,RAs.flat hf q⟩
  | lsk e k q=>cases k
 ·have hf':flat d=true:=by
   cases d <;> first | exact hf | exact absurd ⟨_,rfl⟩ e
  exact .inl ⟨hf',RA.flat hf' h⟩
theorem Rs.F_fl1 (hf:fl1 d=true) (h:Rs K G.H0 ow Hb H .F v d):Rs K G.H0 ow Hb H .FC v d:=by
 rcases h with h | ⟨a,xs,ds,h1,h2,h3,h4,h5⟩
 ·exact .inl h
 ·subst h2
  exact .inr ⟨a,xs,ds,h1,rfl,h3,h4,RAs.flat hf h5⟩
end
def tD (K:PySem.W.Frag) (fl:List Fl) (k:Kd) (f:FE):TE:=fun σ H Q=>∃ G ow δ d,Rel K fl G ow σ H δ∧f δ=some d∧∀ v H',Same H H'→Rs K G.H0 ow H H' k v d→Q v H'
abbrev DE (X:Cx) (fl:List Fl) (k:Kd) (e:Expr) (f:FE):Prop:=PE X e (tD X.K fl k f)
def tDA (K:PySem.W.Frag) (fl:List Fl) (f:FA):TA:=fun σ H Q=>∃ G ow δ ds,Rel K fl G ow σ H δ∧f δ=some ds∧∀ vs H',Same H H'→RAs K ok1 true H' vs ds→Q vs H'
abbrev DA (X:Cx) (fl:List Fl) (es:List Expr) (f:FA):Prop:=PA X es (tDA X.K fl f)
def tDT (K:PySem.W.Frag) (fl:List Fl) (f:FT):TT:=fun σ H Q=>∃ G ow δ b,Rel K fl G ow σ H δ∧f δ=some b∧∀ H',Same H H'→Q b H'
abbrev DT (X:Cx) (fl:List Fl) (e:Expr) (f:FT):Prop:=PT X e (tDT X.K fl f)
abbrev DW (X:Cx) (fl:List Fl) (e:Expr) (f:FT):Prop:=PW X e (tDT X.K fl f)
def Dt (K:PySem.W.Frag) (fl:List Fl) (G:Gh) (Dn:Ends):Oc→Prop
 | .nx δ'=>∀ ow' σ' H',Rel K fl G ow' σ' H' δ'→Dn.nx σ' H'
 | .rt d=>∀ v H',Same G.H0 H'→RA K (okN G.H0) false H' v d→Dn.rt v H'
 | .bk δ'=>∀ ow' σ' H',Rel K fl G ow' σ' H' δ'→Dn.bk σ' H'
 | .ct δ'=>∀ ow' σ' H',Rel K fl G ow' σ' H' δ'→Dn.ct σ' H'
 | .ex _ _ d=>∀ v H',Same G.H0 H'→RA K ok1 true H' v d→Dn.rt v H'
def tDS (K:PySem.W.Frag) (fl:List Fl) (f:FS):TS:=fun Dn σ H=>∃ G ow δ o,Rel K fl G ow σ H δ∧f δ=some o∧Dt K fl G Dn o
abbrev DS1 (X:Cx) (fl:List Fl) (s:Stmt) (f:FS):Prop:=PS X s (tDS X.K fl f)
abbrev DSs (X:Cx) (fl:List Fl) (s:List Stmt) (f:FS):Prop:=PSs X s (tDS X.K fl f)
def tDG (K:PySem.W.Frag) (fl:List Fl) (tg:List Nat) (g:FG):TG:=fun v σ H Q=>∃ G ow δ d δ',Rel K fl G ow σ H δ∧RA K (okA ow) true H v d∧g d δ=some δ'∧∀ σ',Rel K fl G ow σ' H δ'→(∀ j,j ∉ tg→σ'[j]? = σ[j]?)→Q σ' H
abbrev DG (X:Cx) (fl:List Fl) (tg:List Nat) (e:Expr) (g:FG):Prop:=PG X e (tDG X.K fl tg g)
section
variable {X:Cx} {e:Expr} {es:List Expr} {st:Stmt} {sts:List Stmt}
theorem PE.imp {t t':TE} (h:PE X e t) (i:∀ σ H Q,t' σ H Q→t σ H Q):PE X e t':=fun pins s σ H Q I q=>h pins s σ H Q I (i σ H Q q)
theorem PT.imp {t t':TT} (h:PT X e t) (i:∀ σ H Q,t' σ H Q→t σ H Q):PT X e t':=fun pins s σ H Q I q=>h pins s σ H Q I (i σ H Q q)
theorem PW.imp {t t':TT} (h:PW X e t) (i:∀ σ H Q,t' σ H Q→t σ H Q):PW X e t':=fun w pins s σ H Q I q=>h w pins s σ H Q I (i σ H Q q)
theorem PA.imp {t t':TA} (h:PA X es t) (i:∀ σ H Q,t' σ H Q→t σ H Q):PA X es t':=fun p pins s σ H Q I q=>h p pins s σ H Q I (i σ H Q q)
theorem PS.imp {t t':TS} (h:PS X st t) (i:∀ D σ H,t' D σ H→t D σ H):PS X st t':=fun pins s σ H D I q=>h pins s σ H D I (i D σ H q)
theorem PSs.imp {t t':TS} (h:PSs X sts t) (i:∀ D σ H,t' D σ H→t D σ H):PSs X sts t':=fun pins s σ H D I q=>h pins s σ H D I (i D σ H q)
theorem PG.imp {t t':TG} (h:PG X e t) (i:∀ v σ H Q,t' v σ H Q→t v σ H Q):PG X e t':=fun pins s σ H v u Q I r q=>h pins s σ H v u Q I r (i v σ H Q q)
end
end D3
namespace D3
open PySem PySem.Spec PyProof.Rows L2 My
section
variable {X:Cx} {fl:List Fl} {e a b c:Expr} {es:List Expr} {k:Kd} {f fa fb fc:FE} {pos:Pos}
theorem mG {i:Nat} {δ:DS} {d:D} (h:aF i δ=some d):δ[i]? = some (some (.d d)):=by
 unfold aF at h
 split at h
 ·next x e=>rw [e];cases h;rfl
 ·cases h
theorem jy (i:Nat) {x:Str} (hN:X.N[i]? = some x:=by rfl) (hv:Vis X.env.scope x:=by first | exact Or.inl rfl | exact Or.inr (Or.inl rfl) | exact Or.inr (Or.inr rfl)) (hd:(x == ("__debug__" : Str))=false:=by decide)
 (hcd:(x == ("__classdict__" : Str))=false:=by decide) (hn:isN fl[i]? = false:=by rfl):DE X fl (.B [i]) (.Name x pos) (aF i):=by
 refine PE.imp (oh hN hv hd hcd) fun σ H Q h=>?_
 obtain ⟨G,ow,δ,d,R,hf,q⟩:=h
 have e:=mG hf
 cases ho:ow i with
 | none =>
  obtain ⟨v,h1,h2⟩:=R.dat i d e hn ho
  exact ⟨v,h1,q v H (Same.refl H) (.inl h2)⟩
 | some a =>
  obtain ⟨h0,_,xs,ds,h1,h2,h3,h4⟩:=R.own i a ho
  rw [e] at h4
  cases h4
  exact ⟨_,h1,q _ H (Same.refl H) (.inr ⟨i,aK.mpr rfl,a,xs,ds,ho,rfl,rfl,h2,h3⟩)⟩
theorem zy (i:Nat) (hfl:fl[i]? = some .A) {x:Str} (hN:X.N[i]? = some x:=by rfl) (hv:Vis X.env.scope x:=by first | exact Or.inl rfl | exact Or.inr (Or.inl rfl) | exact Or.inr (Or.inr rfl)) (hd:(x == ("__debug__" : Str))=false:=by decide)
 (hcd:(x == ("__classdict__" : Str))=false:=by decide):DE X fl .A (.Name x pos) (aF i):=by
 refine PE.imp (oh hN hv hd hcd) fun σ H Q h=>?_
 obtain ⟨G,ow,δ,d,R,hf,q⟩:=h
 have e:=mG hf
 cases ho:ow i with
 | none =>
  obtain ⟨v,h1,h2⟩:=R.dat i d e (by rw [hfl];rfl) ho
  exact ⟨v,h1,q v H (Same.refl H) h2⟩
 | some a =>
  obtain ⟨h0,hz,_⟩:=R.own i a ho
  rw [hfl] at hz
  rcases hz with ⟨z,_⟩ | ⟨z,_⟩ <;> cases z
theorem nQ (i:Nat) (hfl:fl[i]? ≠ some .A) {x:Str} (hN:X.N[i]? = some x:=by rfl) (hv:Vis X.env.scope x:=by first | exact Or.inl rfl | exact Or.inr (Or.inl rfl) | exact Or.inr (Or.inr rfl)) (hd:(x == ("__debug__" : Str))=false:=by decide)
 (hcd:(x == ("__classdict__" : Str))=false:=by decide) (hn:isN fl[i]? = false:=by rfl):DE X fl .R (.Name x pos) (ou (aF i)):=by
 refine PE.imp (oh hN hv hd hcd) fun σ H Q h=>?_
 obtain ⟨G,ow,δ,d,R,hf,q⟩:=h
 unfold ou at hf
 cases hv':aF i δ with
 | none=>rw [hv'] at hf;cases hf
 | some d' =>
  rw [hv',aL] at hf
  by_cases hc:fl1 d'=true
  ·rw [if_pos hc] at hf
   cases hf
   have e:=mG hv'
   cases ho:ow i with
   | none =>
    obtain ⟨v,h1,h2⟩:=R.dat i d e hn ho
    exact ⟨v,h1,q v H (Same.refl H) (RA.flat (R.oo i d e hn hfl ho) h2)⟩
   | some a =>
    obtain ⟨h0,_,xs,ds,h1,h2,h3,h4⟩:=R.own i a ho
    rw [e] at h4
    cases h4
    exact ⟨_,h1,q _ H (Same.refl H) (.lst h2 h0 (RAs.flat hc h3))⟩
  ·rw [if_neg hc] at hf
   cases hf
theorem pF {k k':Kd} (h:DE X fl k e f) (hc:∀ (Hb H:Hp) (G:Gh) (ow:Ow) (σ:St) (δ:DS) (v:V) (d:D),Rel X.K fl G ow σ Hb δ→Rs X.K G.H0 ow Hb H k v d→Rs X.K G.H0 ow Hb H k' v d):DE X fl k' e f:=by
 refine PE.imp h fun σ H Q h=>?_
 obtain ⟨G,ow,δ,d,R,hf,q⟩:=h
 exact ⟨G,ow,δ,d,R,hf,fun v H' s r=>q v H' s (hc _ _ G ow σ δ v d R r)⟩
theorem wA {k k':Kd} {p:D→Bool} (h:DE X fl k e f) (hc:∀ (Hb H:Hp) (G:Gh) (ow:Ow) (σ:St) (δ:DS) (v:V) (d:D),p d=true→Rel X.K fl G ow σ Hb δ→Rs X.K G.H0 ow Hb H k v d→Rs X.K G.H0 ow Hb H k' v d) :
 DE X fl k' e (fun δ=>(f δ).bind fun d=>if p d=true then some d else none):=by
 refine PE.imp h fun σ H Q h=>?_
 obtain ⟨G,ow,δ,d,R,hf,q⟩:=h
 dsimp only at hf
 cases hv:f δ with
 | none=>rw [hv] at hf;cases hf
 | some d' =>
  rw [hv,aL] at hf
  by_cases hp:p d'=true
  ·rw [if_pos hp] at hf
   cases hf
   exact ⟨G,ow,δ,d,R,hv,fun v H' s r=>q v H' s (hc _ _ G ow σ δ v d hp R r)⟩
  ·rw [if_neg hp] at hf
   cases hf
theorem qp (h:DE X fl .FC e f):DE X fl .F e f:=pF h fun _ _ _ _ _ _ _ _ R r=>r.FC_F R
theorem gF (h:DE X fl .FC e f):DE X fl .C e f:=pF h fun _ _ _ _ _ _ _ _ R r=>r.FC_C
theorem oN (h:DE X fl .F e f):DE X fl .A e f:=pF h fun _ _ _ _ _ _ _ _ R r=>r.F_A R
theorem jD (h:DE X fl .C e f):DE X fl .A e f:=pF h fun _ _ _ _ _ _ _ _ R r=>r.C_A R
theorem uR (h:DE X fl .C e f):DE X fl .R e f:=pF h fun _ _ _ _ _ _ _ _ R r=>r.C_R R
theorem dG (h:DE X fl .A e f):DE X fl (.B []) e f:=pF h fun _ _ _ _ _ _ _ _ R r=>Rs.A_B [] r
theorem qt {L:List Nat} (h:DE X fl (.B L) e f):DE X fl .P e f:=pF h fun _ _ _ _ _ _ _ _ R r=>r.B_P
theorem fO (h:DE X fl .P e f):DE X fl .FC e (cV f):=wA h fun _ _ _ _ _ _ _ _ hf R r=>r.P_flat hf
theorem JK (h:DE X fl .C e f):DE X fl .FC e (ou f):=wA h fun _ _ _ _ _ _ _ _ hf R r=>r.C_fl1 hf
theorem RJ (h:DE X fl .F e f):DE X fl .FC e (ou f):=wA h fun _ _ _ _ _ _ _ _ hf R r=>r.F_fl1 hf
theorem fD (h:DE X fl .FC e f):DE X fl .A e f:=oN (qp h)
theorem cA (h:DE X fl .FC e f):DE X fl .R e f:=uR (gF h)
theorem cF (h:DE X fl .A e f):DE X fl .P e f:=qt (dG h)
theorem dU (h:DE X fl .C e f):DE X fl .P e f:=cF (jD h)
theorem bK (h:DE X fl .FC e f):DE X fl .P e f:=cF (fD h)
theorem Br (h:DE X fl .F e f):DE X fl .P e f:=cF (oN h)
theorem wC {v:V} {d:D} (h:PE X e (tC v)) (hf:flat d=true) (hr:∀ H,RA X.K ok0 false H v d):DE X fl .FC e (dC d):=by
 refine PE.imp h fun σ H Q h=>?_
 obtain ⟨G,ow,δ,d',R,hd,q⟩:=h
 cases hd
 exact q v H (Same.refl H) (.inl ⟨hf,hr H⟩)
theorem JL {i j pos}:DE X fl .FC (.Constant (.int i) j pos) (dC (.int i)):=wC QW rfl fun _=>.int _
theorem nR {b j pos}:DE X fl .FC (.Constant (.bool b) j pos) (dC (.bool b)):=wC Qj rfl fun _=>.bl _
theorem pG {j pos}:DE X fl .FC (.Constant .none j pos) (dC .none):=wC Je rfl fun _=>.non
theorem ur {x j pos}:DE X fl .FC (.Constant (.str x) j pos) (dC (.str x)):=wC QX rfl fun _=>.str _
theorem M5 {x:Str} {i:Int} {pos:Pos} (h:∃ t,X.mg x=some (.int i t)) (hg:Gl X x:=by rfl) (hd:(x == ("__debug__" : Str))=false:=by decide):DE X fl .FC (.Name x pos) (dC (.int i)):=by
 obtain ⟨t,h⟩:=h
 exact wC (L_ (v:=.int i) hg h ⟨t,rfl⟩ hd) rfl fun _=>.int _
def BrO (K:PySem.W.Frag) (r:R2) (g:D→D→Option D):Prop:=∀ (H:Hp) (x y:V) (dx dy d:D) (Q:VK),RA K ok1 true H x dx→RA K ok1 true H y dy→g dx dy=some d→(∀ v,flat d=true→RA K ok0 false H v d→Q v H)→r x y H Q
theorem Bt {fa fb:FE} {g:D→D→Option D} {δ:DS} {d:D} (h:dOp g fa fb δ=some d):∃ x y,fa δ=some x∧fb δ=some y∧g x y=some d:=by
 unfold dOp at h
 cases ha:fa δ with
 | none=>rw [ha] at h;cases h
 | some x =>
  rw [ha,aL] at h
  cases hb:fb δ with
  | none=>rw [hb] at h;cases h
  | some y =>
   rw [hb,aL] at h
   exact ⟨x,y,rfl,rfl,h⟩
theorem bind1 {α β:Type} {x:Option α} {g:α→Option β} {d:β} (h:x.bind g=some d):∃ y,x=some y∧g y=some d:=by
 cases x with
 | none=>cases h
 | some y=>exact ⟨y,rfl,h⟩
theorem uw {r:R2} {g:D→D→Option D} {σ:St} {H:Hp} {Q:VK} (hb:BrO X.K r g) (h:tD X.K fl .FC (dOp g fa fb) σ H Q):tOp r (tD X.K fl .P fa) (tD X.K fl .P fb) σ H Q:=by
 obtain ⟨G,ow,δ,d,R,hf,q⟩:=h
 obtain ⟨x,y,e1,e2,e3⟩:=Bt hf
 refine ⟨G,ow,δ,x,R,e1,fun v H1 s1 r1=>⟨G,ow,δ,y,R.grow s1,e2,fun u H2 s2 r2=>?_⟩⟩
 exact hb H2 v u x y d Q (RA.same s2 r1) r2 e3 fun z hz rz=>q z H2 (s1.trans s2) (.inl ⟨hz,rz⟩)
theorem dW {op:Operator} {r:R2} {g:D→D→Option D} (ho:OpR X (binaryOp op) r) (hb:BrO X.K r g) (h1:DE X fl .P a fa) (h2:DE X fl .P b fb):DE X fl .FC (.BinOp a op b pos) (dOp g fa fb) :=
 PE.imp (Jq ho h1 h2) fun _ _ _ h=>uw hb h
theorem lY {op:CmpOp} {r:R2} {g:D→D→Option D} (ho:OpR X (compareOp op) r) (hb:BrO X.K r g) (h1:DE X fl .P a fa) (h2:DE X fl .P b fb) (hm:behindInMarks op b=false):DE X fl .FC (.Compare a [op] [b] pos) (dOp g fa fb) :=
 PE.imp (Mp ho h1 h2 hm) fun _ _ _ h=>uw hb h
theorem cR {op:CmpOp} {r:R2} {g:D→D→Option D} (ho:OpR X (compareOp op) r) (hb:BrO X.K r g) (h1:DE X fl .P a fa) (h2:DE X fl .P b fb) (hm:behindInMarks op b=false):DT X fl (.Compare a [op] [b] pos) (aY (dOp g fa fb)):=by
 refine PT.imp (Mq ho h1 h2 hm) fun σ H Q h=>?_
 obtain ⟨G,ow,δ,c,R,hf,q⟩:=h
 obtain ⟨d,e1,e2⟩:=bind1 hf
 cases d <;> first | (cases e2;done) | skip
 cases e2
 refine uw (fl:=fl) (fa:=fa) (fb:=fb) hb ⟨G,ow,δ,_,R,e1,fun v H' s r=>?_⟩
 obtain rfl:=(Rs.FC_C r).blE
 exact ⟨_,rfl,q H' s⟩
theorem lZ (h:DE X fl .P e f) (he:∀ whole,isTrue e X.env whole=(do let v ← whole;standAt e.pos;holding [v] (truthy v)):=by intro _;rfl):DT X fl e (aY f):=by
 refine PT.imp (QZ h he) fun σ H Q h=>?_
 obtain ⟨G,ow,δ,c,R,hf,q⟩:=h
 obtain ⟨d,e1,e2⟩:=bind1 hf
 cases d <;> first | (cases e2;done) | skip
 cases e2
 refine ⟨G,ow,δ,_,R,e1,fun v H' s r=>?_⟩
 obtain rfl:=RA.blE r
 exact ⟨_,rfl,q H' s⟩
theorem yI {K:PySem.W.Frag} {h:Int→Int→V} {g:Int→Int→D} (hf:∀ i j,flat (g i j)=true) (hr:∀ H i j,RA K ok0 false H (h i j) (g i j)):BrO K (rI0 h) (gI fun i j=>some (g i j)):=by
 intro H x y dx dy d Q rx ry e q
 unfold gI at e
 split at e
 ·next i j =>
  cases e
  exact ⟨i,j,rx.intE,ry.intE,q _ (hf i j) (hr H i j)⟩
 ·cases e
theorem M6 {K:PySem.W.Frag} {C:Int→Int→Prop} {h:Int→Int→V} {g:Int→Int→D} {c:Int→Int→Bool} (hc:∀ i j,c i j=true→C i j) (hf:∀ i j,flat (g i j)=true) (hr:∀ H i j,RA K ok0 false H (h i j) (g i j)) :
 BrO K (rI C h) (gI fun i j=>if c i j=true then some (g i j) else none):=by
 intro H x y dx dy d Q rx ry e q
 unfold gI at e
 split at e
 ·next i j =>
  dsimp only at e
  by_cases z:c i j=true
  ·rw [if_pos z] at e
   cases e
   exact ⟨i,j,rx.intE,ry.intE,hc i j z,q _ (hf i j) (hr H i j)⟩
  ·rw [if_neg z] at e
   cases e
 ·cases e
end
section
variable {X:Cx} {K:PySem.W.Frag}
theorem M7 {i j:Int} (h:vW i j=true):IntMulOk i j:=by
 unfold vW at h
 rw [Bool.or_eq_true,Bool.or_eq_true,aW] at h
 rcases h with (h | h) | ⟨h1,h2⟩
 ·exact IntMulOk.of_left (PySem.intBits_le_iff.mpr (of_decide_eq_true h))
 ·exact IntMulOk.of_right (PySem.intBits_le_iff.mpr (of_decide_eq_true h))
 ·exact PySem.IntMulOk.of_le (PySem.intBits_le_iff.mpr (of_decide_eq_true h1)) (PySem.intBits_le_iff.mpr (of_decide_eq_true h2)) (by decide)
theorem mH:OpR X (binaryOp .Mult) (rI (fun i j=>vW i j=true) fun i j=>.int (i * j)):=opI fun _ _ _ _ _ _ _ hc q=>mul_int q (M7 hc)
theorem FP:OpR X (binaryOp .FloorDiv) (rI (fun i j=>Dq i j=true) fun i j=>.int (i.fdiv j)):=opI fun i j _ _ _ _ _ hc q=>by
 unfold Dq at hc
 rw [aW] at hc
 have h1:=of_decide_eq_true hc.1
 have h2:=of_decide_eq_true hc.2
 refine floordiv_int h1 q (.inl (PyProof.noPylong_of_log2 ?_))
 exact (Nat.log2_lt (by omega)).mpr h2
theorem M8 {i j:Int} (h:RD i j=true):Rp i j:=by
 unfold RD at h
 rw [aW,aW] at h
 have h1:=of_decide_eq_true h.1.1
 have h2:=of_decide_eq_true h.1.2
 exact ⟨h1,by omega,of_decide_eq_true h.2⟩
theorem jE:BrO K (rI0 fun i j=>.int (i + j)) jo:=yI (fun _ _=>rfl) fun _ _ _=>.int _
theorem Qq:BrO K (rI0 fun i j=>.int (i - j)) Bc:=yI (fun _ _=>rfl) fun _ _ _=>.int _
theorem tK:BrO K (rI (fun i j=>vW i j=true) fun i j=>.int (i * j)) pD:=M6 (fun _ _ h=>h) (fun _ _=>rfl) fun _ _ _=>.int _
theorem Qs:BrO K (rI (fun i j=>Dq i j=true) fun i j=>.int (i.fdiv j)) Bq:=M6 (fun _ _ h=>h) (fun _ _=>rfl) fun _ _ _=>.int _
theorem tL:BrO K (rI (fun _ j=>j ≠ 0) fun i j=>.int (i.fmod j)) sG:=M6 (fun _ _ h=>of_decide_eq_true h) (fun _ _=>rfl) fun _ _ _=>.int _
theorem Vt:BrO K (rI Rp fun i j=>.int (i ^ j.toNat)) RG:=M6 (fun _ _ h=>M8 h) (fun _ _=>rfl) fun _ _ _=>.int _
theorem b_lt:BrO K (rI0 fun i j=>.bl (decide (i < j))) gLt:=yI (fun _ _=>rfl) fun _ _ _=>.bl _
theorem wD:BrO K (rI0 fun i j=>.bl (decide (i ≤ j))) gLe:=yI (fun _ _=>rfl) fun _ _ _=>.bl _
theorem Ho:BrO K (rI0 fun i j=>.bl (decide (j < i))) gGt:=yI (fun _ _=>rfl) fun _ _ _=>.bl _
theorem M9:BrO K (rI0 fun i j=>.bl (decide (j ≤ i))) gGe:=yI (fun _ _=>rfl) fun _ _ _=>.bl _
theorem ux:BrO K (Vk K) gEq:=by
 intro H x y dx dy d Q rx ry e q
 unfold gEq at e
 by_cases z:(SeqAt.shaped dx && SeqAt.shaped dy)=true
 ·rw [if_pos z] at e
  cases e
  rw [aW] at z
  exact ⟨dx,dy,rx.rd (SeqAt.canLay_of_shaped z.1),ry.rd (SeqAt.canLay_of_shaped z.2),z.1,z.2,q _ rfl (.bl _)⟩
 ·rw [if_neg z] at e
  cases e
theorem zA:BrO K (Vl K) gNe:=by
 intro H x y dx dy d Q rx ry e q
 unfold gNe at e
 by_cases z:(SeqAt.shaped dx && SeqAt.shaped dy)=true
 ·rw [if_pos z] at e
  cases e
  rw [aW] at z
  exact ⟨dx,dy,rx.rd (SeqAt.canLay_of_shaped z.1),ry.rd (SeqAt.canLay_of_shaped z.2),z.1,z.2,q _ rfl (.bl _)⟩
 ·rw [if_neg z] at e
  cases e
end
end D3
namespace D3
open PySem PySem.Spec PyProof.Rows L2 My
section
variable {X:Cx} {fl:List Fl} {e a b c:Expr} {es:List Expr} {st:Stmt} {sts body orelse:List Stmt} {k:Kd} {f fa fb fc:FE} {fs gs:FS} {ft gt:FT} {pos:Pos}
theorem Dt.nx_imp {K:PySem.W.Frag} {G:Gh} {Dn:Ends} {N:St→Hp→Prop} {o:Oc} (h:Dt K fl G Dn o) (hn:∀ δ',o ≠ .nx δ'):Dt K fl G { Dn with nx:=N } o:=by
 cases o with
 | nx δ'=>exact absurd rfl (hn δ')
 | rt d=>exact h
 | bk δ'=>exact h
 | ct δ'=>exact h
 | ex c f v=>exact h
theorem cH:DSs X fl [] dM:=PSs.imp Mg fun Dn σ H h=>by
 obtain ⟨G,ow,δ,o,R,hf,q⟩:=h
 cases hf
 exact q ow σ H R
theorem aP (h1:DS1 X fl st fs) (h2:DSs X fl sts gs):DSs X fl (st :: sts) (b_ fs gs):=PSs.imp (Jh h1 h2) fun Dn σ H h=>by
 obtain ⟨G,ow,δ,o,R,hf,q⟩:=h
 obtain ⟨o1,e1,e2⟩:=bind1 hf
 refine ⟨G,ow,δ,o1,R,e1,?_⟩
 cases o1 with
 | nx δ'=>exact fun ow' σ' H' R'=>⟨G,ow',δ',o,R',e2,q⟩
 | rt d=>cases e2;exact Dt.nx_imp q (fun _ z=>by cases z)
 | bk d=>cases e2;exact Dt.nx_imp q (fun _ z=>by cases z)
 | ct d=>cases e2;exact Dt.nx_imp q (fun _ z=>by cases z)
 | ex c f v=>cases e2;exact q
theorem aQ (h1:DS1 X fl st fs):DSs X fl [st] fs:=PSs.imp (Mh h1) fun _ _ _ h=>h
theorem bZ (h:DE X fl .R e f):DS1 X fl (.Return (some e) pos) (cT f):=PS.imp (Q_ h) fun Dn σ H h=>by
 obtain ⟨G,ow,δ,o,R,hf,q⟩:=h
 obtain ⟨d,e1,e2⟩:=bind1 hf
 cases e2
 exact ⟨G,ow,δ,d,R,e1,fun v H' s r=>q v H' (R.same0.trans s) r⟩
theorem nU (h:DE X fl .P e f) (hs:swapsWith e none pos.line X.env=pure false:=by rfl):DS1 X fl (.Expr e pos) (qj f):=PS.imp (vh h hs) fun Dn σ H h=>by
 obtain ⟨G,ow,δ,o,R,hf,q⟩:=h
 obtain ⟨d,e1,e2⟩:=bind1 hf
 cases e2
 exact ⟨G,ow,δ,d,R,e1,fun v H' s r=>q ow σ H' (R.grow s)⟩
theorem eE (hc:DT X fl c ft) (h1:DSs X fl body fs) (h2:DSs X fl orelse gs):DS1 X fl (.If c body orelse pos) (sIf ft fs gs):=PS.imp (U7 hc h1 h2) fun Dn σ H h=>by
 obtain ⟨G,ow,δ,o,R,hf,q⟩:=h
 obtain ⟨t,e1,e2⟩:=bind1 hf
 refine ⟨G,ow,δ,t,R,e1,fun H' s=>?_⟩
 cases t with
 | true=>exact Bm ⟨G,ow,δ,o,R.grow s,e2,q⟩
 | false=>exact Bk ⟨G,ow,δ,o,R.grow s,e2,q⟩
theorem iB {α:Type} {l:List (Option α)} {i j:Nat} {x y:α} (h:(l.set i (some x))[j]? = some (some y)):(j=i∧x=y)∨(j ≠ i∧l[j]? = some (some y)):=by
 rw [nF] at h
 by_cases e:i=j
 ·subst e
  rw [if_pos rfl] at h
  by_cases z:i < l.length
  ·rw [if_pos z] at h
   cases h
   exact .inl ⟨rfl,rfl⟩
  ·rw [if_neg z] at h
   cases h
 ·rw [if_neg e] at h
  exact .inr ⟨fun z=>e z.symm,h⟩
theorem Rel.setA {K:PySem.W.Frag} {G:Gh} {ow:Ow} {σ:St} {H:Hp} {δ:DS} {i:Nat} {v:V} {d:D} (R:Rel K fl G ow σ H δ) (hfl:fl[i]? = some .A) (hi:i < σ.length) (r:RA K (okA ow) true H v d) :
 Rel K fl G ow (σ.set i (some v)) H (δ.set i (some (.d d))):=by
 have no:∀ a,ow i ≠ some a:=fun a z=>by
  obtain ⟨_,hz,_⟩:=R.own i a z
  rw [hfl] at hz
  rcases hz with ⟨z,_⟩ | ⟨z,_⟩ <;> cases z
 refine ⟨R.s0,R.s1,by rw [dR,dR];exact R.len,fun j a h=>?_,R.inj,R.pin,fun j d' h1 hn h2=>?_,fun j d' h1 hn h2 h3=>?_,R.nt,R.nd,R.ns,R.np,fun j d' hn h1=>?_⟩
 ·have hj:j ≠ i:=fun z=>no a (z ▸ h)
  obtain ⟨h0,hf,xs,ds,h1,h2,h3,h4⟩:=R.own j a h
  exact ⟨h0,hf,xs,ds,by rw [bJ (Ne.symm hj)];exact h1,h2,h3,by rw [bJ (Ne.symm hj)];exact h4⟩
 ·rcases iB h1 with ⟨rfl,e⟩ | ⟨hj,e⟩
  ·cases e
   exact ⟨v,by rw [dw hi],r⟩
  ·obtain ⟨v',h3,h4⟩:=R.dat j d' e hn h2
   exact ⟨v',by rw [bJ (Ne.symm hj)];exact h3,h4⟩
 ·rcases iB h1 with ⟨rfl,e⟩ | ⟨hj,e⟩
  ·exact absurd hfl h2
  ·exact R.oo j d' e hn h2 h3
 ·rcases iB h1 with ⟨rfl,e⟩ | ⟨hj,e⟩
  ·rw [hfl] at hn;cases hn
  ·obtain ⟨v',h3,h4⟩:=R.nr j d' hn e
   exact ⟨v',by rw [bJ (Ne.symm hj)];exact h3,h4⟩
def uT (ow:Ow) (i:Nat) (a:Option Addr):Ow:=⟨fun j=>if j=i then a else ow j,ow.n⟩
theorem jt {ow:Ow} {i:Nat} {a:Option Addr}:uT ow i a i=a:=if_pos rfl
theorem fU {ow:Ow} {i j:Nat} {a:Option Addr} (h:j ≠ i):uT ow i a j=ow j:=if_neg h
theorem Rel.setO {K:PySem.W.Frag} {G:Gh} {ow:Ow} {σ:St} {H H':Hp} {δ:DS} {i:Nat} {v:V} {d:D} (R:Rel K fl G ow σ H δ) (s:Same H H') (hfl:fl[i]? = some .O) (hi:i < σ.length) (r:Rs K G.H0 ow H H' .F v d) :
 ∃ ow',Rel K fl G ow' (σ.set i (some v)) H' (δ.set i (some (.d d))):=by
 have R':=R.grow s
 have sub0:∀ b,okA ow b→okA (uT ow i none) b:=fun b z=>⟨fun j e=>by
  by_cases hj:j=i
  ·subst hj;rw [jt] at e;cases e
  ·rw [fU hj] at e;exact z.1 j e,z.2⟩
 have nrs:∀ j d',isN fl[j]? = true→(δ.set i (some (.d d)))[j]? = some (some (.d d'))→∃ v',(σ.set i (some v))[j]? = some (some v')∧RT K H' v' d' (ow.n j)∧(ow.n j).Nodup:=fun j d' hn h1=>by
  rcases iB h1 with ⟨rfl,e⟩ | ⟨hj,e⟩
  ·rw [hfl] at hn;cases hn
  ·obtain ⟨v',h3,h4⟩:=R'.nr j d' hn e
   exact ⟨v',by rw [bJ (Ne.symm hj)];exact h3,h4⟩
 rcases r with ⟨hfd,r⟩ | ⟨a,xs,ds,rfl,rfl,ha,hx,hr⟩
 ·refine ⟨uT ow i none,R'.s0,R'.s1,by rw [dR,dR];exact R.len,fun j a h=>?_,fun j j' a h h'=>?_,fun j h=>?_,fun j d' h1 hn h2=>?_,fun j d' h1 hn h2 h3=>?_,R'.nt,R'.nd,fun j j' a h h'=>?_,R'.np,nrs⟩
  ·have hj:j ≠ i:=fun z=>by subst z;rw [jt] at h;cases h
   rw [fU hj] at h
   obtain ⟨h0,hf,xs,ds,h1,h2,h3,h4⟩:=R'.own j a h
   exact ⟨h0,hf,xs,ds,by rw [bJ (Ne.symm hj)];exact h1,h2,h3.imp sub0 (fun z=>z),by rw [bJ (Ne.symm hj)];exact h4⟩
  ·have hj:j ≠ i:=fun z=>by subst z;rw [jt] at h;cases h
   have hj':j' ≠ i:=fun z=>by subst z;rw [jt] at h';cases h'
   rw [fU hj] at h
   rw [fU hj'] at h'
   exact R.inj j j' a h h'
  ·have hj:j ≠ i:=fun z=>by subst z;rw [hfl] at h;cases h
   rw [fU hj]
   exact R.pin j h
  ·rcases iB h1 with ⟨rfl,e⟩ | ⟨hj,e⟩
   ·cases e
    exact ⟨v,by rw [dw hi],RA.flat hfd r⟩
   ·rw [fU hj] at h2
    obtain ⟨v',h3,h4⟩:=R'.dat j d' e hn h2
    exact ⟨v',by rw [bJ (Ne.symm hj)];exact h3,h4.imp sub0 (fun z=>z)⟩
  ·rcases iB h1 with ⟨rfl,e⟩ | ⟨hj,e⟩
   ·cases e
    exact hfd
   ·rw [fU hj] at h3
    exact R.oo j d' e hn h2 h3
  ·by_cases hj:j'=i
   ·subst hj;rw [jt] at h';cases h'
   ·rw [fU hj] at h';exact R.ns j j' a h h'
 ·have sub:∀ b,okA ow b∧b ≠ a→okA (uT ow i (some a)) b:=fun b z=>⟨fun j e=>by
   by_cases hj:j=i
   ·subst hj;rw [jt] at e;exact z.2 (cU.inj e).symm
   ·rw [fU hj] at e;exact z.1.1 j e,z.1.2⟩
  have old:∀ {v:V} {d:D},RA K (okA ow) true H v d→RA K (okA (uT ow i (some a))) true H' v d:=fun r=>(r.track.imp (fun b z=>sub b ⟨z.1,fun e=>z.2 (e ▸ ha)⟩) (fun z=>z)).same s
  have olds:∀ {v:List V} {d:List D},RAs K (okA ow) true H v d→RAs K (okA (uT ow i (some a))) true H' v d:=fun r=>(r.track.imp (fun b z=>sub b ⟨z.1,fun e=>z.2 (e ▸ ha)⟩) (fun z=>z)).same s
  have nota:∀ j,ow j ≠ some a:=fun j z=>by
   obtain ⟨_,_,_,_,_,h2,_⟩:=R.own j a z
   rw [ha] at h2
   cases h2
  have hF:G.HF a=none:=R.s1.free ha
  refine ⟨uT ow i (some a),R'.s0,R'.s1,by rw [dR,dR];exact R.len,fun j b h=>?_,fun j j' b h h'=>?_,fun j h=>?_,fun j d' h1 hn h2=>?_,fun j d' h1 hn h2 h3=>?_,R'.nt,R'.nd,fun j j' b h h'=>?_,R'.np,nrs⟩
  ·by_cases hj:j=i
   ·subst hj
    rw [jt] at h
    cases h
    exact ⟨R.same0.free ha,.inl ⟨hfl,hF⟩,xs,ds,by rw [dw hi],hx,hr.imp sub (fun z=>z),by rw [dw (by rw [← R.len];exact hi)]⟩
   ·rw [fU hj] at h
    obtain ⟨h0,hf,ys,ds',h1,h2,h3,h4⟩:=R.own j b h
    exact ⟨h0,hf,ys,ds',by rw [bJ (Ne.symm hj)];exact h1,s _ _ h2,olds h3,by rw [bJ (Ne.symm hj)];exact h4⟩
  ·by_cases hj:j=i
   ·by_cases hj':j'=i
    ·rw [hj,hj']
    ·subst hj
     rw [jt] at h
     cases h
     rw [fU hj'] at h'
     exact absurd h' (nota j')
   ·rw [fU hj] at h
    by_cases hj':j'=i
    ·subst hj'
     rw [jt] at h'
     cases h'
     exact absurd h (nota j)
    ·rw [fU hj'] at h'
     exact R.inj j j' b h h'
  ·have hj:j ≠ i:=fun z=>by subst z;rw [hfl] at h;cases h
   rw [fU hj]
   exact R.pin j h
  ·rcases iB h1 with ⟨rfl,e⟩ | ⟨hj,e⟩
   ·rw [jt] at h2;cases h2
   ·rw [fU hj] at h2
    obtain ⟨v',h3,h4⟩:=R.dat j d' e hn h2
    exact ⟨v',by rw [bJ (Ne.symm hj)];exact h3,old h4⟩
  ·rcases iB h1 with ⟨rfl,e⟩ | ⟨hj,e⟩
   ·rw [jt] at h3;cases h3
   ·rw [fU hj] at h3
    exact R.oo j d' e hn h2 h3
  ·by_cases hj:j'=i
   ·subst hj
    rw [jt] at h'
    cases h'
    exact (R.nt j a h).2.1.ne ha
   ·rw [fU hj] at h';exact R.ns j j' b h h'
theorem Rel.mut {K:PySem.W.Frag} {G:Gh} {ow:Ow} {σ:St} {H:Hp} {δ:DS} {i:Nat} {a:Addr} {ys:List V} {ds:List D} (R:Rel K fl G ow σ H δ) (hfl:fl[i]? = some .O) (ho:ow i=some a) (r:RAs K (okA ow) true H ys ds) :
 Rel K fl G ow σ (upd H a (.lst ys)) (δ.set i (some (.d (.list ds)))):=by
 obtain ⟨h0,hz,xs,ds0,e1,e2,e3,e4⟩:=R.own i a ho
 have na:¬ okA ow a:=fun z=>z.1 i ho
 have hF:G.HF a=none:=by
  rcases hz with ⟨_,z⟩ | ⟨z,_⟩
  ·exact z
  ·rw [hfl] at z;cases z
 have hi:i < δ.length:=by
  rcases jH i δ.length with z | z
  ·exact z
  ·rw [bD z] at e4;cases e4
 refine ⟨R.s0,fun b o hb=>?_,by rw [dR];exact R.len,fun j b h=>?_,R.inj,R.pin,fun j d' h1 hn h2=>?_,fun j d' h1 hn h2 h3=>?_,fun j b h=>?_,R.nd,R.ns,R.np,fun j d' hn h1=>?_⟩
 ·rw [cJ (fun z=>by subst z;rw [hF] at hb;cases hb)]
  exact R.s1 b o hb
 ·by_cases hj:j=i
  ·subst hj
   rw [ho] at h
   cases h
   exact ⟨h0,hz,ys,ds,e1,dg,r.upd e2 na,by rw [dw hi]⟩
  ·obtain ⟨h0',hf',zs,ds',h1,h2,h3,h4⟩:=R.own j b h
   have hb:b ≠ a:=fun z=>hj (R.inj j i a (z ▸ h) ho)
   exact ⟨h0',hf',zs,ds',h1,by rw [cJ hb];exact h2,h3.upd e2 na,by rw [bJ (Ne.symm hj)];exact h4⟩
 ·rcases iB h1 with ⟨rfl,e⟩ | ⟨hj,e⟩
  ·rw [ho] at h2;cases h2
  ·obtain ⟨v',h3,h4⟩:=R.dat j d' e hn h2
   exact ⟨v',h3,h4.upd e2 na⟩
 ·rcases iB h1 with ⟨rfl,e⟩ | ⟨hj,e⟩
  ·rw [ho] at h3;cases h3
  ·exact R.oo j d' e hn h2 h3
 ·obtain ⟨g1,g2,g3⟩:=R.nt j b h
  refine ⟨g1,?_,g3⟩
  by_cases hb:b=a
  ·rw [hb,dg];exact ⟨_,rfl,inferInstance⟩
  ·rw [cJ hb];exact g2
 ·rcases iB h1 with ⟨rfl,e⟩ | ⟨hj,e⟩
  ·rw [hfl] at hn;cases hn
  ·obtain ⟨v',h3,h4,h5⟩:=R.nr j d' hn e
   exact ⟨v',h3,h4.upd e2 (fun z=>R.ns j i a z ho),h5⟩
theorem rA {K:PySem.W.Frag} {G:Gh} {ow:Ow} {σ:St} {H:Hp} {δ:DS} {i:Nat} (R:Rel K fl G ow σ H δ) (h:i < δ.length):i < σ.length:=by rw [R.len];exact h
theorem M_ {i:Nat} {x:Str} {pos':Pos} (hfl:fl[i]? = some .A) (hN:X.N.Nodup) (hi:X.N[i]? = some x) (hv:X.env.scope.names.lookup x=some .local∨X.env.scope.names.lookup x=some .cell) (h:DE X fl .A e f)
 (hs:swapsWith e (some (.Name x pos')) pos.line X.env=pure false:=by rfl) (hfn:X.fn x=true∨X.env.scope.names.lookup x=some .local:=by first | exact .inl rfl | exact .inr rfl) :
 DS1 X fl (.Assign [.Name x pos'] e pos) (bW i f):=PS.imp (C_ (i:=i) hN hi hv h hs hfn) fun Dn σ H h=>by
 obtain ⟨G,ow,δ,o,R,hf,q⟩:=h
 unfold bW at hf
 by_cases hl:i < δ.length
 ·rw [if_pos hl] at hf
  obtain ⟨d,e1,e2⟩:=bind1 hf
  cases e2
  exact ⟨G,ow,δ,d,R,e1,fun v H' s r=>q ow _ H' ((R.grow s).setA hfl (rA R hl) r)⟩
 ·rw [if_neg hl] at hf
  cases hf
theorem lE {i:Nat} {x:Str} {pos':Pos} (hfl:fl[i]? = some .O) (hN:X.N.Nodup) (hi:X.N[i]? = some x) (hv:X.env.scope.names.lookup x=some .local∨X.env.scope.names.lookup x=some .cell) (h:DE X fl .F e f)
 (hs:swapsWith e (some (.Name x pos')) pos.line X.env=pure false:=by rfl) (hfn:X.fn x=true∨X.env.scope.names.lookup x=some .local:=by first | exact .inl rfl | exact .inr rfl) :
 DS1 X fl (.Assign [.Name x pos'] e pos) (bW i f):=PS.imp (C_ (i:=i) hN hi hv h hs hfn) fun Dn σ H h=>by
 obtain ⟨G,ow,δ,o,R,hf,q⟩:=h
 unfold bW at hf
 by_cases hl:i < δ.length
 ·rw [if_pos hl] at hf
  obtain ⟨d,e1,e2⟩:=bind1 hf
  cases e2
  refine ⟨G,ow,δ,d,R,e1,fun v H' s r=>?_⟩
  obtain ⟨ow',R'⟩:=R.setO s hfl (rA R hl) r
  exact q ow' _ H' R'
 ·rw [if_neg hl] at hf
  cases hf
theorem Nb {i:Nat} {x:Str} {pos:Pos} (hfl:fl[i]? = some .A) (hN:X.N.Nodup) (hi:X.N[i]? = some x) (hv:X.env.scope.names.lookup x=some .local∨X.env.scope.names.lookup x=some .cell)
 (hfn:X.fn x=true∨X.env.scope.names.lookup x=some .local:=by first | exact .inl rfl | exact .inr rfl):DG X fl [i] (.Name x pos) (gNl i) :=
 PG.imp (Mi (i:=i) hN hi hv hfn) fun v σ H Q h=>by
 obtain ⟨G,ow,δ,d,δ',R,r,hf,q⟩:=h
 unfold gNl at hf
 by_cases hl:i < δ.length
 ·rw [if_pos hl] at hf
  cases hf
  exact q _ (R.setA hfl (rA R hl) r) fun j hj=>bJ (fun z=>hj (by rw [z];exact aK.mpr rfl))
 ·rw [if_neg hl] at hf
  cases hf
def Xw (K:PySem.W.Frag) (fl:List Fl) (tg:List Nat) (g:List D→DS→Option DS):TGs:=fun vs σ H Q=>∃ G ow δ ds δ',Rel K fl G ow σ H δ∧RAs K (okA ow) true H vs ds∧g ds δ=some δ'∧∀ σ',Rel K fl G ow σ' H δ'→(∀ j,j ∉ tg→σ'[j]? = σ[j]?)→Q σ' H
theorem PGs.imp {t t':TGs} (h:PGs X es t) (i:∀ v σ H Q,t' v σ H Q→t v σ H Q):PGs X es t':=fun pins s σ H v u Q I r q=>h pins s σ H v u Q I r (i v σ H Q q)
abbrev DGs (X:Cx) (fl:List Fl) (tg:List Nat) (es:List Expr) (g:List D→DS→Option DS):Prop:=PGs X es (Xw X.K fl tg g)
theorem pH:DGs X fl [] [] mz:=PGs.imp Mj fun vs σ H Q h=>by
 obtain ⟨G,ow,δ,ds,δ',R,r,hf,q⟩:=h
 cases r with
 | nil=>cases hf;exact ⟨rfl,q σ R fun _ _=>rfl⟩
 | cons _ _=>cases hf
theorem iD {tg tg':List Nat} {g:FG} {gs:List D→DS→Option DS} (h1:DG X fl tg e g) (h2:DGs X fl tg' es gs) (hs:(assignEach (e :: es) X.env).map (·.2)=assign e X.env :: (assignEach es X.env).map (·.2):=by rfl) :
 DGs X fl (tg++tg') (e :: es) (fj g gs):=PGs.imp (Jk h1 h2 hs) fun vs σ H Q h=>by
 obtain ⟨G,ow,δ,ds,δ',R,r,hf,q⟩:=h
 cases r with
 | nil=>cases hf
 | cons r1 r2 =>
  obtain ⟨δ1,e1,e2⟩:=bind1 hf
  refine ⟨_,_,rfl,G,ow,δ,_,δ1,R,r1,e1,fun σ' R' k1=>⟨G,ow,δ1,_,δ',R',r2,e2,fun σ'' R'' k2=>q σ'' R'' fun j hj=>?_⟩⟩
  rw [k2 j fun z=>hj (aU _ z),k1 j fun z=>hj (bf _ z)]
theorem sI {tg:List Nat} {gs:List D→DS→Option DS} {k n:Nat} (hc:X.calm=true) (h:DGs X fl tg es gs) (hn:(assignEach es X.env).length=n:=by rfl) (hst:(assignEach es X.env).findIdx? (·.1)=none:=by rfl) :
 DG X fl tg (.Tuple es k pos) (gTn n gs):=PG.imp (Rh (n:=n) hc h hn hst) fun v σ H Q h=>by
 obtain ⟨G,ow,δ,d,δ',R,r,hf,q⟩:=h
 unfold gTn at hf
 split at hf
 ·next l =>
  by_cases z:l.length=n
  ·rw [if_pos z] at hf
   obtain ⟨a,xs,rfl,hx,hr⟩:=r.tupE
   exact ⟨a,xs,rfl,hx,by rw [hr.length];exact z,G,ow,δ,l,δ',R,hr,hf,q⟩
  ·rw [if_neg z] at hf
   cases hf
 ·cases hf
end
end D3
namespace D3
open PySem PySem.Spec PyProof.Rows L2 My
section
variable {X:Cx} {fl:List Fl} {e a b c:Expr} {es:List Expr} {st:Stmt} {sts body orelse:List Stmt} {k:Kd} {f fa fb fc:FE} {fs gs:FS} {ft gt:FT} {pos:Pos}
theorem Du {K:PySem.W.Frag} {G:Gh} {ow:Ow} {σ:St} {H:Hp} {δ:DS} {i:Nat} {l:List D} (R:Rel K fl G ow σ H δ) (hfl:fl[i]? = some .O) (h:aF i δ=some (.list l)) :
 ∃ a xs,ow i=some a∧σ[i]? = some (some (.ref a))∧H a=some (.lst xs)∧RAs K (okA ow) true H xs l:=by
 have e:=mG h
 cases ho:ow i with
 | none =>
  have z:=R.oo i _ e (by rw [hfl];rfl) (by rw [hfl];simp) ho
  simp [flat] at z
 | some a =>
  obtain ⟨h0,_,xs,ds,h1,h2,h3,h4⟩:=R.own i a ho
  rw [e] at h4
  cases h4
  exact ⟨a,xs,rfl,h1,h2,h3⟩
theorem rB {i:Nat} {x:Str} {vpos apos cpos:Pos} (hfl:fl[i]? = some .O) (h:DE X fl .A e f) (hN:X.N[i]? = some x) (hv:Vis X.env.scope x:=by first | exact Or.inl rfl | exact Or.inr (Or.inl rfl) | exact Or.inr (Or.inr rfl)) (hd:(x == ("__debug__" : Str))=false:=by decide)
 (hcd:(x == ("__classdict__" : Str))=false:=by decide)
 (hs:swapsWith (.Call (.Attribute (.Name x vpos) "append" apos) [e] [] cpos) none pos.line X.env=pure false:=by rfl)
 (hbase:attributeBase (.Name x vpos) "append" X.env (eval (.Name x vpos) X.env)=eval (.Name x vpos) X.env:=by rfl)
 (hfew:((backTo cpos (starEach [e] X.env)).all (fun x=>!x.1) && (backToKw cpos (keywordEach [] X.env)).all (fun x=>x.1.isSome)
  && decide (([e]:List Expr).length + ([]:List Keyword).length + (if ([]:List Keyword).isEmpty then 0 else 1) < 30))=true:=by rfl)
 (hline:(apos.endLine == cpos.line)=true:=by rfl) (hst:starEach [e] X.env=(false,eval e X.env) :: starEach [] X.env:=by rfl) (hplain:(backTo cpos (starEach [] X.env)).any (·.1)=false:=by rfl) :
 DS1 X fl (.Expr (.Call (.Attribute (.Name x vpos) "append" apos) [e] [] cpos) pos) (xT i f) :=
 PS.imp (vh (Qo PySem.F.plainAttrs_list PySem.F.slot_list_append PySem.F.type_list_append yG (oh hN hv hd hcd) (jY h qe hst) hbase hfew hline hst hplain) hs) fun Dn σ H h=>by
 obtain ⟨G,ow,δ,o,R,hf,q⟩:=h
 obtain ⟨x,e1,hf1⟩:=bind1 hf
 obtain ⟨d,e2,hf2⟩:=bind1 hf1
 clear hf hf1
 have hf:=hf2
 clear hf2
 split at hf
 case h_2=>cases hf
 next l =>
 by_cases hl:l.length < 1000000
 ·rw [if_pos hl] at hf
  cases hf
  obtain ⟨a,xs,ho,h1,h2,h3⟩:=Du R hfl e1
  refine ⟨_,h1,.inl ⟨rfl,_,SqL.of h2⟩,G,ow,δ,d,R,e2,fun v H' s r=>?_⟩
  have R':=R.grow s
  refine ⟨a,xs,v,rfl,rfl,s _ _ h2,by rw [h3.length];exact jG hl (by decide),?_⟩
  exact q ow σ _ (R'.mut hfl ho ((h3.same s).append (.cons r .nil)))
 ·rw [if_neg hl] at hf
  cases hf
theorem uy {i:Nat} {x:Str} {vpos spos:Pos} {ke:Expr} {fk:FE} (hfl:fl[i]? = some .O) (h:DE X fl .A e f) (hk:DE X fl .P ke fk) (hN:X.N[i]? = some x) (hv:Vis X.env.scope x:=by first | exact Or.inl rfl | exact Or.inr (Or.inl rfl) | exact Or.inr (Or.inr rfl)) (hd:(x == ("__debug__" : Str))=false:=by decide)
 (hcd:(x == ("__classdict__" : Str))=false:=by decide) (ha:∀ v,assign (.Subscript (.Name x vpos) ke spos) X.env v=(do
  let ov ← holding [v] (eval (.Name x vpos) X.env)
  let iv ← holding [v,ov] (eval ke X.env)
  standAt spos
  holding [v,ov,iv] (setItem ov iv v)
  release [v,ov,iv] []):=by intro _;rfl)
 (hs:swapsWithSole [.Subscript (.Name x vpos) ke spos] e pos.line X.env=pure false:=by rfl) (hw:swappedStores [.Subscript (.Name x vpos) ke spos] e X.env=pure none:=by rfl)
 (h1:(assignEach [.Subscript (.Name x vpos) ke spos] X.env).map (·.2)=[assign (.Subscript (.Name x vpos) ke spos) X.env]:=by rfl) :
 DS1 X fl (.Assign [.Subscript (.Name x vpos) ke spos] e pos) (tG i fk f) :=
 PS.imp (Jm h (Jl (oh hN hv hd hcd) hk set_list ha) hs hw h1) fun Dn σ H h=>by
 obtain ⟨G,ow,δ,o,R,hf,q⟩:=h
 obtain ⟨d,e2,hf1⟩:=bind1 hf
 obtain ⟨x,e1,hf2⟩:=bind1 hf1
 obtain ⟨k,e3,hf3⟩:=bind1 hf2
 clear hf hf1 hf2
 have hf:=hf3
 clear hf3
 split at hf
 case h_2=>cases hf
 next l j =>
 obtain ⟨n,e4,e5⟩:=bind1 hf
 cases e5
 obtain ⟨a,xs,ho,h1,h2,h3⟩:=Du R hfl e1
 refine ⟨G,ow,δ,d,R,e2,fun v H' s r=>⟨_,h1,G,ow,δ,_,R.grow s,e3,fun u H2 s2 r2=>?_⟩⟩
 obtain rfl:=RA.intE r2
 have R2:=R.grow (s.trans s2)
 refine ⟨a,xs,j,n,rfl,rfl,(s.trans s2) _ _ h2,by rw [h3.length];exact e4,?_⟩
 exact q ow σ _ (R2.mut hfl ho (RAs.set (RA.same s2 r) n (h3.same (s.trans s2))))
def Qt (K:PySem.W.Frag) (ow:Ow) (L:List Nat) (H1:Hp) (J:It) (l:List D):Prop:=∀ H2:Hp,(∀ b o,H1 b=some o→(∀ i,ow i=some b→i ∈ L)→(∀ i,b ∉ ow.n i)→H2 b=some o)→∀ i:Nat,
 (∀ d,l[i]? = some d→J.go i H2∧∀ x H3,J.yld i H2 x H3→Same H2 H3∧RA K (fun b=>okA ow b∧H1 b ≠ none) true H3 x d)∧(l.length ≤ i→J.stop i H2)
def tDI (K:PySem.W.Frag) (fl:List Fl) (L:List Nat) (fi:FA):TI:=fun σ H R'=>∃ G ow δ l,Rel K fl G ow σ H δ∧fi δ=some l∧∀ J H1,Same H H1→Qt K ow L H1 J l→R' J H1
abbrev DI (X:Cx) (fl:List Fl) (L:List Nat) (tg iter:Expr) (fi:FA):Prop:=PI X tg iter (tDI X.K fl L fi)
theorem PI.imp {tg iter:Expr} {t t':TI} (h:PI X tg iter t) (i:∀ σ H R',t' σ H R'→t σ H R'):PI X tg iter t':=fun pins s σ H R' I q=>h pins s σ H R' I (i σ H R' q)
section
variable {K:PySem.W.Frag} {ok:Ok} {pl:Bool} {H1 H2:Hp} {ow:Ow} {L:List Nat}
theorem nm {b:Addr} {o:HO} (hl:∀ i b,ow i=some b→∃ xs,H1 b=some (.lst xs)) (h:H1 b=some o) (hn:∀ xs,o ≠ .lst xs):∀ i,ow i=some b→i ∈ L:=fun i e=>by
 obtain ⟨xs,z⟩:=hl i b e
 rw [h] at z
 exact absurd (cU.inj z) (hn xs)
theorem nm2 {b:Addr} {o:HO} (hl:∀ i b,b ∈ ow.n i→Chd (H1 b)) (h:H1 b=some o) (hn:Chg o→False):∀ i,b ∉ ow.n i:=fun i e=>by
 obtain ⟨u,z,c⟩:=hl i b e
 rw [h] at z
 cases z
 exact hn c
mutual
theorem RA.keep (hk:∀ b o,H1 b=some o→(∀ i,ow i=some b→i ∈ L)→(∀ i,b ∉ ow.n i)→H2 b=some o) (hl:∀ i b,ow i=some b→∃ xs,H1 b=some (.lst xs)) (hm:∀ i b,b ∈ ow.n i→Chd (H1 b)) (ho:∀ b,ok b→okA ow b):∀ {v:V} {d:D},RA K ok pl H1 v d→RA K ok pl H2 v d
 | _,_,.non=>.non
 | _,_,.bl b=>.bl b
 | _,_,.int i=>.int i
 | _,_,.str x=>.str x
 | _,_,.lst e k q=>.lst (hk _ _ e (fun i z=>absurd z ((ho _ k).1 i)) (ho _ k).2) k (RAs.keep hk hl hm ho q)
 | _,_,.lsk e k q=>.lsk (by
  rcases e with ⟨o,e⟩ | e
  ·exact .inl ⟨o,hk _ _ e (nm hl e (by intro xs z;cases z)) (nm2 hm e Chg.frz)⟩
  ·exact .inr e) k (RAs.keep hk hl hm ho q)
 | _,_,.tup e q=>.tup (hk _ _ e (nm hl e (by intro xs z;cases z)) (nm2 hm e Chg.tup)) (RAs.keep hk hl hm ho q)
 | _,_,.dic e g k=>.dic (hk _ _ e (fun i z=>absurd z ((ho _ k).1 i)) (ho _ k).2) (g.imp fun _ _ t=>hk _ _ t (nm hl t (by intro xs z;cases z)) (nm2 hm t Chg.tup)) k
 | _,_,.dik e g k=>.dik (hk _ _ e (nm hl e (by intro xs z;cases z)) (nm2 hm e Chg.frz)) (g.imp fun _ _ t=>hk _ _ t (nm hl t (by intro xs z;cases z)) (nm2 hm t Chg.tup)) k
theorem RAs.keep (hk:∀ b o,H1 b=some o→(∀ i,ow i=some b→i ∈ L)→(∀ i,b ∉ ow.n i)→H2 b=some o) (hl:∀ i b,ow i=some b→∃ xs,H1 b=some (.lst xs)) (hm:∀ i b,b ∈ ow.n i→Chd (H1 b)) (ho:∀ b,ok b→okA ow b):∀ {v:List V} {d:List D},RAs K ok pl H1 v d→RAs K ok pl H2 v d
 | _,_,.nil=>.nil
 | _,_,.cons e q=>.cons (RA.keep hk hl hm ho e) (RAs.keep hk hl hm ho q)
end
end
theorem Rel.ownL {K:PySem.W.Frag} {G:Gh} {ow:Ow} {σ:St} {H:Hp} {δ:DS} (R:Rel K fl G ow σ H δ):∀ i b,ow i=some b→∃ xs,H b=some (.lst xs):=fun i b e=>by
 obtain ⟨_,_,xs,_,_,h2,_⟩:=R.own i b e
 exact ⟨xs,h2⟩
theorem Rel.ownC {K:PySem.W.Frag} {G:Gh} {ow:Ow} {σ:St} {H:Hp} {δ:DS} (R:Rel K fl G ow σ H δ):∀ i b,b ∈ ow.n i→Chd (H b):=fun i b e=>(R.nt i b e).2.1
theorem wF {K:PySem.W.Frag} {G:Gh} {ow:Ow} {σ:St} {H Hb:Hp} {δ:DS} {L:List Nat} {v:V} {l:List D} (R:Rel K fl G ow σ H δ) (r:Rs K G.H0 ow Hb H (.B L) v (.list l)):∃ a xs,v = .ref a∧SqL K H a xs ∧
 ∀ H2:Hp,(∀ b o,H b=some o→(∀ i,ow i=some b→i ∈ L)→(∀ i,b ∉ ow.n i)→H2 b=some o)→SqL K H2 a xs∧RAs K (fun b=>okA ow b∧H b ≠ none) true H2 xs l:=by
 rcases r with r | ⟨i,hi,a,xs,ds,ho,rfl,e,hx,hr⟩
 ·cases r with
  | lst e k q=>exact ⟨_,_,rfl,SqL.of e,fun H2 hk=>⟨SqL.of (hk _ _ e (fun i z=>absurd z (k.1 i)) k.2),RAs.keep hk R.ownL R.ownC (fun b z=>z.1) q.track⟩⟩
  | lsk e k q=>exact ⟨_,_,rfl,e.sq,fun H2 hk=>⟨SqK.sq (by
   rcases e with ⟨o,e⟩ | e
   ·exact .inl ⟨o,hk _ _ e (nm R.ownL e (by intro xs z;cases z)) (nm2 R.ownC e Chg.frz)⟩
   ·exact .inr e),RAs.keep hk R.ownL R.ownC (fun b z=>z.1) q.track⟩⟩
 ·cases e
  exact ⟨a,xs,rfl,SqL.of hx,fun H2 hk=>⟨SqL.of (hk _ _ hx (fun j z=>by rw [R.inj j i a z ho];exact hi) (fun j z=>R.ns j i a z ho)),RAs.keep hk R.ownL R.ownC (fun b z=>z.1) hr.track⟩⟩
theorem fG {tg:Expr} {L:List Nat} (h:DE X fl (.B L) e f):DI X fl L tg e (jT f):=PI.imp (Ft h) fun σ H R' h=>by
 obtain ⟨G,ow,δ,l,R,hf,q⟩:=h
 obtain ⟨d,e1,e2⟩:=bind1 hf
 cases d <;> first | (cases e2;done) | skip
 cases e2
 refine ⟨G,ow,δ,_,R,e1,fun v H1 s r=>?_⟩
 obtain ⟨a,xs,rfl,hx,keep⟩:=wF (R.grow s) r
 refine ⟨a,rfl,⟨xs,hx⟩,q _ _ s fun H2 k2 i=>?_⟩
 obtain ⟨k3,k4⟩:=keep H2 k2
 refine ⟨fun d hd=>?_,fun hl=>⟨xs,k3,by rw [k4.length];exact hl⟩⟩
 obtain ⟨y,hy,ry⟩:=k4.get hd
 refine ⟨⟨xs,y,k3,hy⟩,fun x H3 hyl=>?_⟩
 obtain ⟨e,hz⟩:=hyl
 subst e
 have:some y=some x:=hy.symm.trans (hz xs k3)
 cases this
 exact ⟨Same.refl _,ry⟩
theorem JM (lo hi:Int):(fM lo hi).length=(hi - lo).toNat:=by simp [fM]
theorem Bu {K:PySem.W.Frag} {ow:Ow} {L:List Nat} {H1:Hp} (lo hi:Int):Qt K ow L H1 (Itr lo (hi - lo).toNat) (fM lo hi):=by
 intro H2 _ i
 refine ⟨fun d hd=>?_,fun hl=>by rw [JM] at hl;exact hl⟩
 unfold fM at hd
 rw [aN] at hd
 by_cases hi':i < (hi - lo).toNat
 ·rw [bU hi'] at hd
  cases hd
  refine ⟨hi',fun x H3 hy=>?_⟩
  obtain ⟨e,e2⟩:=hy
  subst e e2
  exact ⟨Same.refl _,.int _⟩
 ·rw [bD (by simpa using hi')] at hd
  cases hd
theorem rC {i:Int} (h:rT i=true) : -(2 ^ 62) ≤ i∧i < 2 ^ 62:=by
 unfold rT at h
 rw [aW] at h
 exact ⟨of_decide_eq_true h.1,of_decide_eq_true h.2⟩
theorem jf {tg:Expr} {L:List Nat} {p:Pos} {fa:FA} (hg:Gl X "range") (hm:X.mg "range" = none) (h:DA X fl [a] fa) (hs:starEach [a] X.env=[(false,eval a X.env)]:=by rfl):DI X fl L tg (.Call (.Name "range" p) [a] [] pos) (mC fa) :=
 PI.imp (G5 hg hm h hs) fun σ H R' h=>by
 obtain ⟨G,ow,δ,l,R,hf,q⟩:=h
 obtain ⟨ds,e1,e2⟩:=bind1 hf
 split at e2
 ·next j =>
  by_cases z:rT j=true
  ·rw [if_pos z] at e2
   cases e2
   refine ⟨G,ow,δ,_,R,e1,fun vs H1 s r=>?_⟩
   cases r with
   | cons r1 r2 =>
    cases r2
    obtain rfl:=r1.intE
    refine ⟨j,rfl,(rC z).1,(rC z).2,?_⟩
    have w:=Bu (K:=X.K) (ow:=ow) (L:=L) (H1:=H1) 0 j
    rw [sV] at w
    exact q _ _ s w
  ·rw [if_neg z] at e2
   cases e2
 ·cases e2
theorem Hq {tg:Expr} {L:List Nat} {p:Pos} {fa:FA} (hg:Gl X "range") (hm:X.mg "range" = none) (h:DA X fl [a,b] fa) (hs:starEach [a,b] X.env=[(false,eval a X.env),(false,eval b X.env)]:=by rfl) (hs2:starEach [b] X.env=[(false,eval b X.env)]:=by rfl) :
 DI X fl L tg (.Call (.Name "range" p) [a,b] [] pos) (Fz fa):=PI.imp (G6 hg hm h hs hs2) fun σ H R' h=>by
 obtain ⟨G,ow,δ,l,R,hf,q⟩:=h
 obtain ⟨ds,e1,e2⟩:=bind1 hf
 split at e2
 ·next i j =>
  by_cases z:(rT i && rT j)=true
  ·rw [if_pos z] at e2
   cases e2
   rw [aW] at z
   refine ⟨G,ow,δ,_,R,e1,fun vs H1 s r=>?_⟩
   cases r with
   | cons r1 r2 =>
    cases r2 with
    | cons r2 r3 =>
     cases r3
     obtain rfl:=r1.intE
     obtain rfl:=r2.intE
     exact ⟨i,j,rfl,⟨(rC z.1).1,(rC z.1).2,(rC z.2).1,(rC z.2).2⟩,q _ _ s (Bu i j)⟩
  ·rw [if_neg z] at e2
   cases e2
 ·cases e2
def lock (L:List Nat) (fl:List Fl):List Fl:=fl.mapIdx fun i x=>if x = .O∧i ∈ L then .L else x
theorem lU {L:List Nat} {i:Nat}:(lock L fl)[i]? = (fl[i]?).map fun x=>if x = .O∧i ∈ L then .L else x:=by
 unfold lock
 rw [jB]
theorem JN {L:List Nat} {i:Nat}:(lock L fl)[i]? = some .A↔fl[i]? = some .A:=by
 rw [lU]
 cases h:fl[i]? with
 | none=>simp
 | some x =>
  cases x <;> simp
  by_cases z:i ∈ L <;> simp [z]
theorem Dv {L:List Nat} {i:Nat} (h:(lock L fl)[i]? = some .O):fl[i]? = some .O∧i ∉ L:=by
 rw [lU] at h
 cases e:fl[i]? with
 | none=>rw [e] at h;simp at h
 | some x =>
  rw [e] at h
  cases x <;> simp at h
  by_cases z:i ∈ L
  ·simp [z] at h
  ·exact ⟨rfl,z⟩
theorem Dw {L:List Nat} {i:Nat} (h:fl[i]? = some .L):(lock L fl)[i]? = some .L:=by
 rw [lU,h]
 simp
theorem FQ {L:List Nat} {i:Nat} (h:fl[i]? = some .O) (hi:i ∈ L):(lock L fl)[i]? = some .L:=by
 rw [lU,h]
 simp [hi]
theorem FW {L:List Nat} {i:Nat} (h:fl[i]? = some .O) (hi:i ∉ L):(lock L fl)[i]? = some .O:=by
 rw [lU,h]
 simp [hi]
theorem zB {L:List Nat} {i:Nat}:(lock L fl)[i]? = some .N↔fl[i]? = some .N:=by
 rw [lU]
 cases h:fl[i]? with
 | none=>simp
 | some x =>
  cases x <;> simp
  by_cases z:i ∈ L <;> simp [z]
theorem Dy {L:List Nat} {i:Nat}:(lock L fl)[i]? = some .M↔fl[i]? = some .M:=by
 rw [lU]
 cases h:fl[i]? with
 | none=>simp
 | some x =>
  cases x <;> simp
  by_cases z:i ∈ L <;> simp [z]
theorem oO {L:List Nat} {i:Nat}:isN (lock L fl)[i]? = isN fl[i]?:=by
 rw [lU]
 cases h:fl[i]? with
 | none=>rfl
 | some x =>
  cases x <;> simp [isN]
  by_cases z:i ∈ L <;> simp [z]
def Let (fl':List Fl) (ow:Ow) (b:Addr):Prop:=(∃ j,ow j=some b∧fl'[j]? = some .O)∨∃ j,b ∈ ow.n j∧fl'[j]? = some .N
open Classical in
noncomputable def ghL (fl':List Fl) (G:Gh) (ow:Ow) (H:Hp):Gh:=⟨G.H0,fun b=>if Let fl' ow b then none else H b,ow,ow.n,G.tb⟩
open Classical in
theorem pI {fl':List Fl} {G:Gh} {ow:Ow} {H:Hp} {b:Addr} (h:¬ Let fl' ow b):(ghL fl' G ow H).HF b=H b:=by
 unfold ghL
 dsimp only
 rw [if_neg h]
open Classical in
theorem Dz {fl':List Fl} {G:Gh} {ow:Ow} {H:Hp} {b:Addr} (h:Let fl' ow b):(ghL fl' G ow H).HF b=none:=by
 unfold ghL
 dsimp only
 rw [if_pos h]
theorem Rel.lock {K:PySem.W.Frag} {G:Gh} {ow:Ow} {σ:St} {H:Hp} {δ:DS} (L:List Nat) (R:Rel K fl G ow σ H δ):Rel K (lock L fl) (ghL (lock L fl) G ow H) ow σ H δ:=by
 refine ⟨fun b o hb=>?_,fun b o hb=>?_,R.len,fun i a h=>?_,R.inj,fun i h=>rfl,fun i d h1 hn h2=>R.dat i d h1 (by rw [oO] at hn;exact hn) h2,fun i d h1 hn h2 h3=>R.oo i d h1 (by rw [oO] at hn;exact hn) (fun z=>h2 (JN.mpr z)) h3,fun i a h=>?_,R.nd,R.ns,fun i h=>rfl,fun i d hn h1=>R.nr i d (by rw [oO] at hn;exact hn) h1⟩
 ·have hb':G.H0 b=some o:=hb
  rw [pI]
  ·exact R.same0 b o hb'
  ·rintro (⟨j,e,_⟩ | ⟨j,e,_⟩)
   ·have:=(R.own j b e).1
    rw [hb'] at this
    cases this
   ·have:=(R.nt j b e).1
    rw [hb'] at this
    cases this
 ·by_cases z:Let (D3.lock L fl) ow b
  ·rw [Dz z] at hb;cases hb
  ·rw [pI z] at hb;exact hb
 ·obtain ⟨h0,hf,xs,ds,h1,h2,h3,h4⟩:=R.own i a h
  refine ⟨h0,?_,xs,ds,h1,h2,h3,h4⟩
  have out:(D3.lock L fl)[i]? = some .L→(ghL (D3.lock L fl) G ow H).HF a=H a:=fun hl=>pI (by
   rintro (⟨j,e,hj⟩ | ⟨j,e,hj⟩)
   ·rw [R.inj j i a e h,hl] at hj
    cases hj
   ·exact R.ns j i a e h)
  rcases hf with ⟨hf,_⟩ | ⟨hf,_⟩
  ·by_cases hi:i ∈ L
   ·exact .inr ⟨FQ hf hi,xs,by rw [out (FQ hf hi)];exact h2⟩
   ·exact .inl ⟨FW hf hi,Dz (.inl ⟨i,h,FW hf hi⟩)⟩
  ·exact .inr ⟨Dw hf,xs,by rw [out (Dw hf)];exact h2⟩
 ·obtain ⟨g1,g2,g3⟩:=R.nt i a h
  refine ⟨g1,g2,?_⟩
  rcases g3 with ⟨z,_⟩ | z
  ·exact .inl ⟨zB.mpr z,Dz (.inr ⟨i,h,zB.mpr z⟩)⟩
  ·exact .inr (Dy.mpr z)
theorem Rel.unlock {K:PySem.W.Frag} {G:Gh} {ow ow':Ow} {σ σ':St} {H H':Hp} {δ δ':DS} {L:List Nat} (R:Rel K fl G ow σ H δ) (R':Rel K (D3.lock L fl) (ghL (D3.lock L fl) G ow H) ow' σ' H' δ'):Rel K fl G ow' σ' H' δ':=by
 have sub:Same G.HF (ghL (D3.lock L fl) G ow H).HF:=fun b o hb=>by
  rw [pI]
  ·exact R.s1 b o hb
  ·rintro (⟨j,e,hj⟩ | ⟨j,e,hj⟩)
   ·rcases (R.own j b e).2.1 with ⟨_,z⟩ | ⟨z,_⟩
    ·rw [hb] at z;cases z
    ·have:=(Dv hj).1
     rw [z] at this
     cases this
   ·rcases (R.nt j b e).2.2 with ⟨_,z⟩ | z
    ·rw [hb] at z;cases z
    ·have:=zB.mp hj
     rw [z] at this
     cases this
 refine ⟨R.s0,sub.trans R'.s1,R'.len,fun i a h=>?_,R'.inj,fun i h=>?_,fun i d h1 hn h2=>R'.dat i d h1 (by rw [oO];exact hn) h2,fun i d h1 hn h2 h3=>R'.oo i d h1 (by rw [oO];exact hn) (fun z=>h2 (JN.mp z)) h3,fun i a h=>?_,R'.nd,R'.ns,fun i h=>?_,fun i d hn h1=>R'.nr i d (by rw [oO];exact hn) h1⟩
 ·obtain ⟨h0,hf,rest⟩:=R'.own i a h
  refine ⟨h0,?_,rest⟩
  rcases hf with ⟨hf,hz⟩ | ⟨hf,_⟩
  ·exact .inl ⟨(Dv hf).1,sub.free hz⟩
  ·have e:ow' i=ow i:=R'.pin i hf
   rw [e] at h
   exact (R.own i a h).2.1
 ·have e:ow' i=ow i:=R'.pin i (Dw h)
  rw [e]
  exact R.pin i h
 ·obtain ⟨g1,g2,g3⟩:=R'.nt i a h
  rcases g3 with ⟨z,hz⟩ | z
  ·exact ⟨g1,g2,.inl ⟨zB.mp z,sub.free hz⟩⟩
  ·exact ⟨g1,g2,.inr (Dy.mp z)⟩
 ·have e:ow'.n i=ow.n i:=R'.np i (Dy.mpr h)
  rw [e]
  exact R.np i h
theorem jg {tg iter:Expr} {L:List Nat} {T:List Nat} {fi:FA} {g:FG} (hp:PassesOwn (model X.prog X.w) X.A X.env X.xe) (hc:X.calm=true) (hi:DI X fl L tg iter fi) (hg:DG X (lock L fl) T tg g) (hb:DSs X (lock L fl) body fs)
 (hs:∀ x,foldedSetIterable iter X.env x=pure x:=by intro _;rfl):DS1 X fl (.For tg iter body [] pos) (lQ fi g fs):=PS.imp (Rn hp hc hi hg hb hs) fun Dn σ H h=>by
 obtain ⟨G,ow,δ,o,R0,hf,q⟩:=h
 obtain ⟨l,e1,e2⟩:=bind1 hf
 refine ⟨G,ow,δ,l,R0,e1,fun J H1 s wk=>?_⟩
 have R1:=R0.grow s
 have RL:=R1.lock L
 refine ⟨fun i m σ' H'=>m=l.length - i∧∃ ow' δ',Rel X.K (lock L fl) (ghL (lock L fl) G ow H1) ow' σ' H' δ'∧jA g fs (l.drop i) δ'=some o,⟨_,rfl,ow,δ,RL,by simpa using e2⟩,?_⟩
 rintro i m σ' H' ⟨rfl,ow',δ',R',hd⟩
 have kept:∀ b o,H1 b=some o→(∀ i,ow i=some b→i ∈ L)→(∀ i,b ∉ ow.n i)→H' b=some o:=fun b o hb hl hn=>R'.s1 b o (by
  rw [pI]
  ·exact hb
  ·rintro (⟨j,e,hj⟩ | ⟨j,e,_⟩)
   ·exact (Dv hj).2 (hl j e)
   ·exact hn j e)
 obtain ⟨w1,w2⟩:=wk H' kept i
 by_cases hlt:i < l.length
 ·have hdrop:l.drop i=l[i] :: l.drop (i + 1):=nu hlt
  rw [hdrop,jA] at hd
  obtain ⟨δ1,e3,hd⟩:=bind1 hd
  obtain ⟨o1,e4,hd⟩:=bind1 hd
  obtain ⟨go,yl⟩:=w1 l[i] (aZ hlt)
  refine .inr ⟨go,fun σ' H'=>∃ ow' δ',Rel X.K (lock L fl) (ghL (lock L fl) G ow H1) ow' σ' H' δ'∧jA g fs (l.drop (i + 1)) δ'=some o,fun σ2 H2 ⟨ow2,δ2,R2,h2⟩=>⟨l.length - (i + 1),by omega,rfl,ow2,δ2,R2,h2⟩,fun x H3 hy=>?_⟩
  obtain ⟨s3,r3⟩:=yl x H3 hy
  have sub:∀ b,okA ow b∧H1 b ≠ none→okA ow' b:=fun b z=>by
   obtain ⟨z1,z2⟩:=z
   refine ⟨fun j e=>?_,fun j e=>?_⟩
   ·rcases (R'.own j b e).2.1 with ⟨_,hz⟩ | ⟨hz,_⟩
    ·have:(ghL (lock L fl) G ow H1).HF b=H1 b:=pI (by rintro (⟨j',e',_⟩ | ⟨j',e',_⟩);exact z1.1 j' e';exact z1.2 j' e')
     rw [this] at hz
     exact z2 hz
    ·have e':ow' j=ow j:=R'.pin j hz
     rw [e'] at e
     exact z1.1 j e
   ·rcases (R'.nt j b e).2.2 with ⟨_,hz⟩ | w
    ·have:(ghL (lock L fl) G ow H1).HF b=H1 b:=pI (by rintro (⟨j',e',_⟩ | ⟨j',e',_⟩);exact z1.1 j' e';exact z1.2 j' e')
     rw [this] at hz
     exact z2 hz
    ·have e':ow'.n j=ow.n j:=R'.np j w
     rw [e'] at e
     exact z1.2 j e
  refine ⟨_,ow',δ',_,δ1,R'.grow s3,r3.imp sub (fun z=>z),e3,fun σ4 R4 _=>⟨_,ow',δ1,o1,R4,e4,?_⟩⟩
  ·cases o1 with
   | nx δ2=>exact fun ow2 σ2 H2 R2=>⟨ow2,δ2,R2,hd⟩
   | ct δ2=>exact fun ow2 σ2 H2 R2=>⟨ow2,δ2,R2,hd⟩
   | bk δ2=>cases hd;exact fun ow2 σ2 H2 R2=>q ow2 σ2 H2 (R1.unlock R2)
   | rt d=>cases hd;exact q
   | ex c f v=>cases hd;exact q
 ·have e:l.drop i=[]:=oW (by omega)
  rw [e,jA] at hd
  cases hd
  exact .inl ⟨w2 (by omega),q ow' σ' H' (R1.unlock R')⟩
theorem JQ (hp:PassesOwn (model X.prog X.w) X.A X.env X.xe) (hc:DT X fl c ft) (hb:DSs X fl body fs):DS1 X fl (.While c body [] pos) (uq ft fs):=PS.imp (Jo hp hc hb) fun Dn σ H h=>by
 obtain ⟨G,ow,δ,o,R0,hf,q⟩:=h
 obtain ⟨n,hn⟩:=Dp hf
 refine ⟨fun m σ' H'=>∃ ow' δ',Rel X.K fl G ow' σ' H' δ'∧ig ft fs m δ'=some o,⟨n,ow,δ,R0,hn⟩,?_⟩
 rintro m σ' H' ⟨ow',δ',R',hw⟩
 cases m with
 | zero=>simp [ig] at hw
 | succ m =>
  rw [ig] at hw
  obtain ⟨t,e1,hw⟩:=bind1 hw
  refine ⟨G,ow',δ',t,R',e1,fun H1 s=>?_⟩
  cases t with
  | false =>
   rw [if_neg dB] at hw ⊢
   cases hw
   exact q ow' σ' H1 (R'.grow s)
  | true =>
   rw [if_pos rfl] at hw ⊢
   obtain ⟨o1,e2,hw⟩:=bind1 hw
   refine ⟨fun σ2 H2=>∃ ow2 δ2,Rel X.K fl G ow2 σ2 H2 δ2∧ig ft fs m δ2=some o,fun σ2 H2 ⟨ow2,δ2,R2,h2⟩=>⟨m,jJ m,ow2,δ2,R2,h2⟩,G,ow',δ',o1,R'.grow s,e2,?_⟩
   cases o1 with
   | nx δ2=>exact fun ow2 σ2 H2 R2=>⟨ow2,δ2,R2,hw⟩
   | ct δ2=>exact fun ow2 σ2 H2 R2=>⟨ow2,δ2,R2,hw⟩
   | bk δ2=>cases hw;exact q
   | rt d=>cases hw;exact q
   | ex c f v=>cases hw;exact q
end
end D3
namespace D3
open PySem PySem.Spec PyProof.Rows L2 My
def notStar:Expr→Bool
 | .Starred _ _=>false
 | _=>true
theorem lG {e:Expr} {es:List Expr} {env:Env} (h:notStar e=true):starEach (e :: es) env=(false,eval e env) :: starEach es env:=by
 cases e <;> first | rfl | cases h
theorem FZ {es:List Expr} {env:Env} {pos:Pos} (h:es.all notStar=true):(backTo pos (starEach es env)).any (·.1)=false:=by
 induction es with
 | nil=>rfl
 | cons e es ih =>
  rw [n_,aW] at h
  rw [lG h.1]
  have:=ih h.2
  unfold backTo at this ⊢
  rw [bI,jV,this]
  rfl
def isR:Kd→Bool
 | .P=>true
 | .A=>true
 | .R=>true
 | .C=>true
 | _=>false
def JR (H0:Hp) (ow:Ow) (Hb:Hp):Kd→Ok
 | .P=>ok1
 | .A=>okA ow
 | .R=>okN H0
 | _=>okN Hb
def RK:Kd→Bool
 | .P=>true
 | .A=>true
 | _=>false
section
variable {K:PySem.W.Frag} {H0 Hb Hc H:Hp} {ow:Ow} {v:V} {d:D} {k:Kd}
theorem Rs.ra (hk:isR k=true) (h:Rs K H0 ow Hb H k v d):RA K (JR H0 ow Hb k) (RK k) H v d:=by
 cases k <;> first | exact h | cases hk
theorem Rs.of_ra (hk:isR k=true) (h:RA K (JR H0 ow Hb k) (RK k) H v d):Rs K H0 ow Hb H k v d:=by
 cases k <;> first | exact h | cases hk
theorem Hr (s:Same Hb Hc) (hk:isR k=true):∀ a,JR H0 ow Hc k a→JR H0 ow Hb k a:=fun a z=>by
 cases k <;> first | exact z | exact s.free z | cases hk
theorem Rs.of_flat (hf:flat d=true) (h:RA K ok0 false H v d):Rs K H0 ow Hb H k v d:=by
 cases k with
 | P=>exact RA.flat hf h
 | B L=>exact .inl (RA.flat hf h)
 | A=>exact RA.flat hf h
 | R=>exact RA.flat hf h
 | F=>exact .inl ⟨hf,h⟩
 | C=>exact RA.flat hf h
 | FC=>exact .inl ⟨hf,h⟩
 | T =>
  obtain ⟨as,h1,_,h3⟩:=RA.rt h
  cases as with
  | nil=>exact ⟨[],h1,.nil,fun _ z=>by cases z⟩
  | cons a r=>exact (h3 a aO).elim
theorem Rs.back (s:Same Hb Hc) (h:Rs K H0 ow Hc H k v d):Rs K H0 ow Hb H k v d:=by
 cases k with
 | P=>exact h
 | B L=>exact h
 | A=>exact h
 | R=>exact h
 | F =>
  rcases h with h | ⟨a,xs,ds,h1,h2,h3,h4⟩
  ·exact .inl h
  ·exact .inr ⟨a,xs,ds,h1,h2,s.free h3,h4⟩
 | C=>exact RA.imp (fun a z=>s.free z) (fun z=>z) h
 | FC =>
  rcases h with h | ⟨a,xs,ds,h1,h2,h3,h4,h5⟩
  ·exact .inl h
  ·exact .inr ⟨a,xs,ds,h1,h2,s.free h3,h4,h5.imp (fun b z=>⟨s.free z.1,z.2⟩) (fun z=>z)⟩
 | T =>
  obtain ⟨as,h1,h2,h3⟩:=h
  exact ⟨as,h1,h2,fun a z=>s.free (h3 a z)⟩
end
def tDB (K:PySem.W.Frag) (fl:List Fl) (k:Kd) (f:FA):TA:=fun σ H Q=>∃ G ow δ ds,Rel K fl G ow σ H δ∧f δ=some ds∧∀ vs H',Same H H'→RAs K (JR G.H0 ow H k) (RK k) H' vs ds→Q vs H'
abbrev DB (X:Cx) (fl:List Fl) (k:Kd) (es:List Expr) (f:FA):Prop:=PA X es (tDB X.K fl k f)
section
variable {X:Cx} {fl:List Fl} {e a b c:Expr} {es rest:List Expr} {k:Kd} {f fa fb fc:FE} {ft gt:FT} {pos:Pos}
theorem JT:DB X fl k [] aV:=PA.imp qe fun σ H Q h=>by
 obtain ⟨G,ow,δ,ds,R,hf,q⟩:=h
 cases hf
 exact q [] H (Same.refl H) .nil
theorem Nf {fr:FA} (hk:isR k=true) (h:DE X fl k e f) (hr:DB X fl k es fr) (hs:starEach (e :: es) X.env=(false,eval e X.env) :: starEach es X.env:=by exact lG rfl):DB X fl k (e :: es) (aG f fr):=PA.imp (jY h hr hs) fun σ H Q h=>by
 obtain ⟨G,ow,δ,ds,R,hf,q⟩:=h
 obtain ⟨d,e1,hf⟩:=bind1 hf
 obtain ⟨r,e2,hf⟩:=bind1 hf
 cases hf
 refine ⟨G,ow,δ,d,R,e1,fun v H1 s1 r1=>⟨G,ow,δ,r,R.grow s1,e2,fun vs H2 s2 r2=>?_⟩⟩
 exact q _ H2 (s1.trans s2) (.cons ((r1.ra hk).same s2) (r2.imp (Hr s1 hk) (fun z=>z)))
theorem pU (h:DB X fl .P es fa'):DA X fl es fa':=PA.imp h fun σ H Q h=>by
 obtain ⟨G,ow,δ,ds,R,hf,q⟩:=h
 exact ⟨G,ow,δ,ds,R,hf,fun vs H' s r=>q vs H' s r⟩
theorem mZ {x1} {fa:FA} (hk:isR k=true) (h:DB X fl k es fa):DE X fl k (.Tuple es x1 pos) (dTup fa):=PE.imp (Rr h) fun σ H Q h=>by
 obtain ⟨G,ow,δ,d,R,hf,q⟩:=h
 obtain ⟨l,e1,e2⟩:=bind1 hf
 by_cases z:l.length ≤ sizeLine
 ·rw [if_pos z] at e2
  cases e2
  refine ⟨G,ow,δ,l,R,e1,fun vs H' s r=>⟨by rw [r.length];exact z,fun p hp=>?_⟩⟩
  have g:=dN hp (.tup vs)
  exact q _ _ (s.trans g) (Rs.of_ra hk (.tup dg (r.same g)))
 ·rw [if_neg z] at e2
  cases e2
theorem rD {fa:FA} (h:DB X fl .A es fa):DE X fl .F (.List es pos) (gU fa):=PE.imp (Jv h) fun σ H Q h=>by
 obtain ⟨G,ow,δ,d,R,hf,q⟩:=h
 obtain ⟨l,e1,e2⟩:=bind1 hf
 by_cases z:l.length ≤ sizeLine
 ·rw [if_pos z] at e2
  cases e2
  refine ⟨G,ow,δ,l,R,e1,fun vs H' s r=>⟨by rw [r.length];exact z,fun p hp=>?_⟩⟩
  have g:=dN hp (.lst vs)
  exact q _ _ (s.trans g) (.inr ⟨p,vs,l,rfl,rfl,s.free hp,dg,(r.track.imp (fun b w=>⟨w.1,fun e=>w.2 (e ▸ hp)⟩) (fun z=>z)).same g⟩)
 ·rw [if_neg z] at e2
  cases e2
theorem gG {fa:FA} (h:DB X fl .C es fa):DE X fl .FC (.List es pos) (gU fa):=PE.imp (Jv h) fun σ H Q h=>by
 obtain ⟨G,ow,δ,d,R,hf,q⟩:=h
 obtain ⟨l,e1,e2⟩:=bind1 hf
 by_cases z:l.length ≤ sizeLine
 ·rw [if_pos z] at e2
  cases e2
  refine ⟨G,ow,δ,l,R,e1,fun vs H' s r=>⟨by rw [r.length];exact z,fun p hp=>?_⟩⟩
  have g:=dN hp (.lst vs)
  exact q _ _ (s.trans g) (.inr ⟨p,vs,l,rfl,rfl,s.free hp,dg,(r.track.imp (fun b w=>⟨w.1,fun e=>w.2 (e ▸ hp)⟩) (fun z=>z)).same g⟩)
 ·rw [if_neg z] at e2
  cases e2
theorem RAs.at {K:PySem.W.Frag} {ok:Ok} {pl:Bool} {H:Hp} {vs:List V} {l:List D} {i:Int} {d:D} (r:RAs K ok pl H vs l) (h:pAt l i=some d):∃ v,atI vs i=some v∧RA K ok pl H v d:=by
 unfold pAt at h
 unfold atI
 obtain ⟨j,e1,e2⟩:=bind1 h
 obtain ⟨y,e3,ry⟩:=r.get e2
 exact ⟨y,by rw [r.length,show ixN l.length i=some j from e1];exact e3,ry⟩
theorem Vu {L:List Nat} (ha:DE X fl (.B L) a fa) (hb:DE X fl .P b fb) (hs:zm b):DE X fl .A (.Subscript a b pos) (dOp gIx fa fb):=PE.imp (Ve Rw ha hb hs) fun σ H Q h=>by
 obtain ⟨G,ow,δ,d,R,hf,q⟩:=h
 obtain ⟨x,y,e1,e2,e3⟩:=Bt hf
 refine ⟨G,ow,δ,x,R,e1,fun v H1 s1 r1=>⟨G,ow,δ,y,R.grow s1,e2,fun u H2 s2 r2=>?_⟩⟩
 unfold gIx at e3
 split at e3
 ·next l i =>
  obtain rfl:=RA.intE r2
  rcases r1 with r1 | ⟨i',_,p,xs,ds,ho,rfl,ez,hx,hr⟩
  ·obtain ⟨p,xs,rfl,hx,hr⟩:=RA.lstE (RA.same s2 r1)
   obtain ⟨z,ez,rz⟩:=hr.at e3
   exact .inl ⟨p,xs,i,z,rfl,rfl,hx,ez,q z H2 (s1.trans s2) rz⟩
  ·cases ez
   obtain ⟨z,ez,rz⟩:=(hr.same s2).at e3
   exact .inl ⟨p,xs,i,z,rfl,rfl,SqL.of (s2 _ _ hx),ez,q z H2 (s1.trans s2) rz⟩
 ·next l i =>
  obtain rfl:=RA.intE r2
  rcases r1 with r1 | ⟨i',_,p,xs,ds,ho,rfl,ez,hx,hr⟩
  ·obtain ⟨p,xs,rfl,hx,hr⟩:=RA.tupE (RA.same s2 r1)
   obtain ⟨z,ez,rz⟩:=hr.at e3
   exact .inr (.inl ⟨p,xs,i,z,rfl,rfl,hx,ez,q z H2 (s1.trans s2) rz⟩)
  ·cases ez
 ·cases e3
theorem uz {op:BoolOp} (h:DE X fl k a f):DE X fl k (.BoolOp op [a] pos) f:=Q7 h
theorem oE (h1:DE X fl .P a fa) (h2:DE X fl k (.BoolOp .And (b :: rest) pos) fb):DE X fl k (.BoolOp .And (a :: b :: rest) pos) (uo fa fb):=PE.imp (Q8 h1 h2) fun σ H Q h=>by
 obtain ⟨G,ow,δ,d,R,hf,q⟩:=h
 obtain ⟨x,e1,e2⟩:=bind1 hf
 refine ⟨G,ow,δ,x,R,e1,fun v H1 s1 r1=>?_⟩
 split at e2
 ·obtain rfl:=RA.blE r1
  exact ⟨true,rfl,Bm ⟨G,ow,δ,d,R.grow s1,e2,fun u H2 s2 r2=>q u H2 (s1.trans s2) (r2.back s1)⟩⟩
 ·obtain rfl:=RA.blE r1
  cases e2
  exact ⟨false,rfl,Bk (q _ H1 s1 (Rs.of_flat rfl (.bl _)))⟩
 ·cases e2
theorem RM (h1:DE X fl .P a fa):DE X fl .FC (.UnaryOp .Not a pos) (MP fa):=PE.imp (Q9 h1) fun σ H Q h=>by
 obtain ⟨G,ow,δ,d,R,hf,q⟩:=h
 obtain ⟨x,e1,e2⟩:=bind1 hf
 refine ⟨G,ow,δ,x,R,e1,fun v H1 s1 r1=>?_⟩
 split at e2
 ·next c =>
  obtain rfl:=RA.blE r1
  cases e2
  exact ⟨c,rfl,q _ H1 s1 (Rs.of_flat rfl (.bl _))⟩
 ·cases e2
theorem m5 (h:DT X fl a ft):DT X fl (.UnaryOp .Not a pos) (oH ft):=PT.imp (Q6 h) fun σ H Q h=>by
 obtain ⟨G,ow,δ,t,R,hf,q⟩:=h
 unfold oH at hf
 cases e:ft δ with
 | none=>rw [e] at hf;cases hf
 | some x =>
  rw [e] at hf
  cases hf
  exact ⟨G,ow,δ,x,R,e,fun H' s=>q H' s⟩
theorem rE (h:DT X fl a ft):DW X fl (.BoolOp .And [a] pos) ft:=Mf h
theorem m6 (h:DT X fl a ft):DW X fl (.BoolOp .Or [a] pos) ft:=Q0 h
theorem uD (h1:DT X fl a ft) (h2:DW X fl (.BoolOp .And (b :: rest) pos) gt):DW X fl (.BoolOp .And (a :: b :: rest) pos) (o9 ft gt):=PW.imp (Q5 h1 h2) fun σ H Q h=>by
 obtain ⟨G,ow,δ,t,R,hf,q⟩:=h
 obtain ⟨x,e1,e2⟩:=bind1 hf
 refine ⟨G,ow,δ,x,R,e1,fun H1 s1=>?_⟩
 cases x with
 | true=>exact Bm ⟨G,ow,δ,t,R.grow s1,e2,fun H2 s2=>q H2 (s1.trans s2)⟩
 | false=>cases e2;exact Bk (q H1 s1)
theorem nW (h1:DT X fl a ft) (h2:DW X fl (.BoolOp .Or (b :: rest) pos) gt):DW X fl (.BoolOp .Or (a :: b :: rest) pos) (tOr ft gt):=PW.imp (U0 h1 h2) fun σ H Q h=>by
 obtain ⟨G,ow,δ,t,R,hf,q⟩:=h
 obtain ⟨x,e1,e2⟩:=bind1 hf
 refine ⟨G,ow,δ,x,R,e1,fun H1 s1=>?_⟩
 cases x with
 | true=>cases e2;exact Bm (q H1 s1)
 | false=>exact Bk ⟨G,ow,δ,t,R.grow s1,e2,fun H2 s2=>q H2 (s1.trans s2)⟩
theorem qu (h:DW X fl a ft):DT X fl a ft:=PW.pt h
theorem wG {op op':CmpOp} {r r':R2} {g g':D→D→Option D} (ho:OpR X (compareOp op) r) (ho':OpR X (compareOp op') r') (hb:BrO X.K r g) (hb':BrO X.K r' g') (h1:DE X fl .P a fa) (h2:DE X fl .P b fb) (h3:DE X fl .P c fc)
 (hm:lastMarks [op,op'] [b,c]=false:=by with_unfolding_all rfl):DE X fl .FC (.Compare a [op,op'] [b,c] pos) (mY g g' fa fb fc):=PE.imp (Jt ho ho' h1 h2 h3 hm) fun σ H Q h=>by
 obtain ⟨G,ow,δ,d,R,hf,q⟩:=h
 obtain ⟨x,e1,hf⟩:=bind1 hf
 obtain ⟨y,e2,hf⟩:=bind1 hf
 obtain ⟨z,e3,hf⟩:=bind1 hf
 refine ⟨G,ow,δ,x,R,e1,fun v H1 s1 r1=>⟨G,ow,δ,y,R.grow s1,e2,fun u H2 s2 r2=>?_⟩⟩
 refine hb H2 v u x y z _ (RA.same s2 r1) r2 e3 fun zv hz rz=>?_
 split at hf
 ·obtain rfl:=rz.blE
  obtain ⟨w,e4,e5⟩:=bind1 hf
  refine ⟨true,rfl,Bm ⟨G,ow,δ,w,R.grow (s1.trans s2),e4,fun wv H3 s3 r3=>?_⟩⟩
  exact hb' H3 u wv y w d Q (RA.same s3 r2) r3 e5 fun z hz rz=>q z H3 (s1.trans (s2.trans s3)) (.inl ⟨hz,rz⟩)
 ·obtain rfl:=rz.blE
  cases hf
  exact ⟨false,rfl,Bk (q _ H2 (s1.trans s2) (.inl ⟨rfl,.bl _⟩))⟩
 ·cases hf
theorem Hs {op op' op'':CmpOp} {r r' r'':R2} {g g' g'':D→D→Option D} {d:Expr} {fd:FE} (ho:OpR X (compareOp op) r) (ho':OpR X (compareOp op') r') (ho'':OpR X (compareOp op'') r'') (hb:BrO X.K r g) (hb':BrO X.K r' g') (hb'':BrO X.K r'' g'') (h1:DE X fl .P a fa) (h2:DE X fl .P b fb) (h3:DE X fl .P c fc) (h4:DE X fl .P d fd)
 (hm:lastMarks [op,op',op''] [b,c,d]=false:=by with_unfolding_all rfl):DE X fl .FC (.Compare a [op,op',op''] [b,c,d] pos) (vp g g' g'' fa fb fc fd):=PE.imp (Hi ho ho' ho'' h1 h2 h3 h4 hm) fun σ H Q h=>by
 obtain ⟨G,ow,δ,dd,R,hf,q⟩:=h
 obtain ⟨x,e1,hf⟩:=bind1 hf
 obtain ⟨y,e2,hf⟩:=bind1 hf
 obtain ⟨z,e3,hf⟩:=bind1 hf
 refine ⟨G,ow,δ,x,R,e1,fun v H1 s1 r1=>⟨G,ow,δ,y,R.grow s1,e2,fun u H2 s2 r2=>?_⟩⟩
 refine hb H2 v u x y z _ (RA.same s2 r1) r2 e3 fun zv hz rz=>?_
 split at hf
 ·obtain rfl:=rz.blE
  obtain ⟨w,e4,hf⟩:=bind1 hf
  obtain ⟨z',e5,hf⟩:=bind1 hf
  refine ⟨true,rfl,Bm ⟨G,ow,δ,w,R.grow (s1.trans s2),e4,fun wv H3 s3 r3=>?_⟩⟩
  refine hb' H3 u wv y w z' _ (RA.same s3 r2) r3 e5 fun zv' hz' rz'=>?_
  split at hf
  ·obtain rfl:=rz'.blE
   obtain ⟨t,e6,e7⟩:=bind1 hf
   refine ⟨true,rfl,Bm ⟨G,ow,δ,t,R.grow (s1.trans (s2.trans s3)),e6,fun tv H4 s4 r4=>?_⟩⟩
   exact hb'' H4 wv tv w t dd Q (RA.same s4 r3) r4 e7 fun z hz rz=>q z H4 (s1.trans (s2.trans (s3.trans s4))) (.inl ⟨hz,rz⟩)
  ·obtain rfl:=rz'.blE
   cases hf
   exact ⟨false,rfl,Bk (q _ H3 (s1.trans (s2.trans s3)) (.inl ⟨rfl,.bl _⟩))⟩
  ·cases hf
 ·obtain rfl:=rz.blE
  cases hf
  exact ⟨false,rfl,Bk (q _ H2 (s1.trans s2) (.inl ⟨rfl,.bl _⟩))⟩
 ·cases hf
theorem zE {K:PySem.W.Frag} {ok:Ok} {pl:Bool} {H:Hp} {v:V} {d:D} (r:RA K ok pl H v d):decide (v = .non)=isNone d:=by
 cases r <;> rfl
theorem RN {j pos'} (h:DE X fl .P a f):DE X fl .FC (.Compare a [.Is] [.Constant .none j pos'] pos) (dUn nA f):=PE.imp (Jg (Jf h)) fun σ H Q h=>by
 obtain ⟨G,ow,δ,d,R,hf,q⟩:=h
 obtain ⟨x,e1,e2⟩:=bind1 hf
 cases e2
 refine ⟨G,ow,δ,x,R,e1,fun v H1 s1 r1=>?_⟩
 show Q (.bl (decide (v = .non))) H1
 rw [zE (RA.same (Same.refl H1) r1)]
 exact q _ H1 s1 (.inl ⟨rfl,.bl _⟩)
theorem Ng {j pos'} (h:DE X fl .P a f):DE X fl .FC (.Compare a [.IsNot] [.Constant .none j pos'] pos) (dUn lR f):=PE.imp (Jg (Fq h)) fun σ H Q h=>by
 obtain ⟨G,ow,δ,d,R,hf,q⟩:=h
 obtain ⟨x,e1,e2⟩:=bind1 hf
 cases e2
 refine ⟨G,ow,δ,x,R,e1,fun v H1 s1 r1=>?_⟩
 show Q (.bl (!decide (v = .non))) H1
 rw [zE (RA.same (Same.refl H1) r1)]
 exact q _ H1 s1 (.inl ⟨rfl,.bl _⟩)
def BrC (K:PySem.W.Frag) (r:List V→Hp→VK→Prop) (g:List D→Option D):Prop:=∀ (H:Hp) (xs:List V) (ds:List D) (d:D) (Q:VK),RAs K ok1 true H xs ds→g ds=some d→(∀ v,flat d=true→RA K ok0 false H v d→Q v H)→r xs H Q
theorem eU {id:String} {r:List V→Hp→VK→Prop} {g:List D→Option D} {x:Str} {p:Pos} {fa:FA} (hc:mj X (.builtin id) r) (hb:BrC X.K r g) (hg:Gl X x) (hm:X.mg x=none) (hv:bootBuiltins x=some (.builtin id)) (ha:DB X fl .P (e :: es) fa) (hn:x ≠ "__name__" := by decide) (hdb:(x == ("__debug__" : Str))=false:=by decide)
 (he:starEach (e :: es) X.env=(false,eval e X.env) :: starEach es X.env:=by exact lG rfl) (hpl:(backTo pos (starEach es X.env)).any (·.1)=false:=by exact FZ rfl):DE X fl .FC (.Call (.Name x p) (e :: es) [] pos) (dCall g fa) :=
 PE.imp (oJ hc hg hm hv ha hn hdb he hpl) fun σ H Q h=>by
 obtain ⟨G,ow,δ,d,R,hf,q⟩:=h
 obtain ⟨ds,e1,e2⟩:=bind1 hf
 exact ⟨G,ow,δ,ds,R,e1,fun vs H' s r'=>hb H' vs ds d Q r' e2 fun v hv rv=>q v H' s (.inl ⟨hv,rv⟩)⟩
theorem jQ {K:PySem.W.Frag}:BrC K (fun xs H Q=>∃ p ys,xs=[.ref p]∧(SqL K H p ys∨SqT K H p ys)∧Q (.int ys.length) H) jM:=by
 intro H xs ds d Q r e q
 unfold jM at e
 split at e
 ·next l =>
  cases e
  cases r with
  | cons r1 r2 =>
   cases r2
   obtain ⟨a,ys,rfl,hx,hr⟩:=r1.lstE
   refine ⟨a,ys,rfl,.inl hx,?_⟩
   rw [hr.length]
   exact q _ rfl (.int _)
 ·next l =>
  cases e
  cases r with
  | cons r1 r2 =>
   cases r2
   obtain ⟨a,ys,rfl,hx,hr⟩:=r1.tupE
   refine ⟨a,ys,rfl,.inr hx,?_⟩
   rw [hr.length]
   exact q _ rfl (.int _)
 ·cases e
theorem DK {K:PySem.W.Frag}:BrC K (fun xs H Q=>∃ i j,xs=[.int i,.int j]∧Q (.int (if j > i then j else i)) H) vY:=by
 intro H xs ds d Q r e q
 unfold vY at e
 split at e
 ·cases e
  cases r with
  | cons r1 r2 =>
   cases r2 with
   | cons r2 r3 =>
    cases r3
    obtain rfl:=r1.intE
    obtain rfl:=r2.intE
    exact ⟨_,_,rfl,q _ rfl (.int _)⟩
 ·cases e
theorem zF {K:PySem.W.Frag}:BrC K (fun xs H Q=>∃ i j,xs=[.int i,.int j]∧Q (.int (if j < i then j else i)) H) vZ:=by
 intro H xs ds d Q r e q
 unfold vZ at e
 split at e
 ·cases e
  cases r with
  | cons r1 r2 =>
   cases r2 with
   | cons r2 r3 =>
    cases r3
    obtain rfl:=r1.intE
    obtain rfl:=r2.intE
    exact ⟨_,_,rfl,q _ rfl (.int _)⟩
 ·cases e
theorem Nh (d:D):tyD d = "NoneType" ∨ tyD d = "bool" ∨ tyD d = "int" ∨ tyD d = "str" ∨ tyD d = "list" ∨ tyD d = "tuple" ∨ tyD d = "dict" := by
 cases d <;> simp [tyD]
def Xx (K:PySem.W.Frag):List V→Hp→VK→Prop:=fun xs H Q=>∃ x c d,xs=[x,.ty c]∧(c = "int" ∨ c = "bool" ∨ c = "tuple" ∨ c = "list" ∨ c = "str")∧RA K ok1 true H x d∧Q (.bl (isT c (tyD d))) H
theorem JV:mj X (.builtin "isinstance") (Xx X.K):=by
 intro pins s σ H xs us Q I r h
 obtain ⟨x,c,d,rfl,hc,ra,q⟩:=h
 obtain ⟨u,w',rfl,rx,rc⟩:=vals2 r
 cases rc
 have kn:=Rz (K:=X.K) hc (Nh d)
 have fin:∀ tk,EP X pins σ Q (.bool (isT c (tyD d))) { s with toks:=tk }:=fun tk=>⟨.bl _,H,I.tok _,rfl,q⟩
 cases ra with
 | non=>cases (show u=Value.none from rx);exact PySem.W.kia_one PySem.W.kitx_none I.kIn True.intro kn (fun z=>nomatch z) fin
 | bl b=>cases (show u=Value.bool b from rx);exact PySem.W.kia_one PySem.W.kitx_bool I.kIn True.intro kn (fun z=>nomatch z) fin
 | int i=>obtain ⟨t,z⟩:=(show ∃ t,u=Value.int i t from rx);cases z;exact PySem.W.kia_one PySem.W.kitx_int I.kIn True.intro kn (fun z=>nomatch z) fin
 | str y=>obtain ⟨t,z⟩:=(show ∃ t,u=Value.str y t from rx);cases z;exact PySem.W.kia_one PySem.W.kitx_str I.kIn True.intro kn (fun z=>nomatch z) fin
 | @lst a xs ds e k q' =>
  cases (show u=Value.ref a from rx)
  obtain ⟨its,_,⟨o,n,e1,e2,_⟩,_⟩:=I.list (SqL.of e)
  exact PySem.W.kia_one PySem.W.kitx_list I.kIn ⟨_,e1,e2⟩ kn (fun z=>nomatch z) fin
 | @lsk a xs ds e k q' =>
  cases (show u=Value.ref a from rx)
  obtain ⟨its,_,⟨o,n,e1,e2,_⟩,_⟩:=I.list e.sq
  exact PySem.W.kia_one PySem.W.kitx_list I.kIn ⟨_,e1,e2⟩ kn (fun z=>nomatch z) fin
 | @tup a xs ds e q' =>
  cases (show u=Value.ref a from rx)
  obtain ⟨its,_,⟨o,e1,e2,_⟩,_⟩:=I.tuple e.sq
  exact PySem.W.kia_one PySem.W.kitx_tuple I.kIn ⟨_,e1,e2⟩ kn (fun z=>nomatch z) fin
 | @dic a u0 kvs e g k =>
  rcases g.or with ⟨ks,z⟩ | ⟨ks,z⟩
  ·rw [z] at e;exact yu I rx (TyOf.dK e) kn fin
  ·rw [z] at e;exact yu I rx (TyOf.dT e) kn fin
 | @dik a u0 kvs ob e g k =>
  cases (show u=Value.ref a from rx)
  have ob:=(show gO X.prog X.w H s.heap a u0 from (show L2.Rd H a u0 from .inr ⟨_,e⟩).ok I.hok)
  rcases g.or with ⟨ks,z⟩ | ⟨ks,z⟩
  ·rw [z] at ob
   obtain ⟨_,_,vs,_,dd⟩:=ob
   obtain ⟨o1,_,_,h1,h2,_⟩:=dd
   exact PySem.W.kia_one PySem.W.kitx_dict I.kIn ⟨_,h1,h2.1⟩ kn (fun z=>nomatch z) fin
  ·rw [z] at ob
   obtain ⟨_,_,xs,_,o1,_,_,h1,h2,_⟩:=ob
   exact PySem.W.kia_one PySem.W.kitx_dict I.kIn ⟨_,h1,h2.1⟩ kn (fun z=>nomatch z) fin
theorem wH {T:String} {x:Str} {p p':Pos} (hc:T = "int" ∨ T = "bool" ∨ T = "tuple" ∨ T = "list" ∨ T = "str") (h:DE X fl .P a f) (hg:Gl X "isinstance") (hm:X.mg "isinstance" = none) (hg':Gl X x) (hm':X.mg x=none) (hv':bootBuiltins x=some (.type T))
 (hn':x ≠ "__name__" := by decide) (hd':(x == ("__debug__" : Str))=false:=by decide)
 (he:starEach [a,.Name x p'] X.env=(false,eval a X.env) :: starEach [.Name x p'] X.env:=by rfl) (he2:starEach [.Name x p'] X.env=(false,eval (.Name x p') X.env) :: starEach [] X.env:=by rfl) (hpl:(backTo pos (starEach [.Name x p'] X.env)).any (·.1)=false:=by rfl) :
 DE X fl .FC (.Call (.Name "isinstance" p) [a,.Name x p'] [] pos) (dUn (gIs T) f) :=
 PE.imp (oJ JV hg hm boot_isinstance (jY h (jY (Ma (v:=.ty T) hg' hm' hv' rfl hn' hd') qe he2) he) (by decide) (by decide) he hpl) fun σ H Q h=>by
 obtain ⟨G,ow,δ,d,R,hf,q⟩:=h
 obtain ⟨x,e1,e2⟩:=bind1 hf
 cases e2
 exact ⟨G,ow,δ,x,R,e1,fun v H1 s1 r1=>⟨v,T,x,rfl,hc,r1,q _ H1 s1 (.inl ⟨rfl,.bl _⟩)⟩⟩
end
def spD (K:PySem.W.Frag) (F:List D→Option D):Sp:=fun vs H Q _=>∃ ds d,(Tb H∧RAs K ok1 true H vs ds)∧F ds=some d∧∀ v H',Same H H'→RA K (okN H) false H' v d→Q v H'
section
variable {P:Program} {w:World} {K:PySem.W.Frag} {mg:Str→Option Value} {base:Heap} {x:Str} {ps N:List Str} {st:Stmt} {k n:Nat} {fs:FS} {fl:List Fl}
theorem rF {vs:List V} {ds:List D} {H:Hp} (p:Nat) (hp:∀ i,i < p→fl[i]? = some .A) (hl:ds.length=p) (hN:p ≤ N.length) (r':Tb H∧RAs K ok1 true H vs ds) :
 Rel K fl ⟨H,H,fun _=>none,fun _=>[],r'.1⟩ ow0 (L2.start N vs) H (ds.map (fun d=>some (.d d))++bF (N.length - p) none):=by
 have r:=r'.2
 have hv:vs.length=p:=by rw [r.length];exact hl
 have get:∀ i d,(ds.map (fun d=>some (U.d d))++bF (N.length - p) none)[i]? = some (some (.d d))→i < p∧ds[i]? = some d:=fun i d h=>by
  by_cases hi:i < p
  ·rw [cL (by rw [aJ,hl];exact hi),aN] at h
   cases e:ds[i]? with
   | none=>rw [e] at h;cases h
   | some z=>rw [e] at h;cases h;exact ⟨hi,rfl⟩
  ·rw [cC (by rw [aJ,hl];omega),eX] at h
   split at h <;> cases h
 refine ⟨Same.refl H,Same.refl H,?_,fun i a h=>(by cases h),fun i j a h=>(by cases h),fun i h=>rfl,fun i d h _ _=>?_,fun i d h _ h2 _=>?_,fun i a h=>(by cases h),fun i j a h=>(by cases h),fun i j a h=>(by cases h),fun i h=>rfl,fun i d hn h=>?_⟩
 ·unfold L2.start
  simp only [bH,aJ,cj,hv,hl]
 ·obtain ⟨hi,e⟩:=get i d h
  obtain ⟨v,e1,e2⟩:=r.get e
  refine ⟨v,?_,e2.imp (fun _ _=>⟨fun i z=>(by cases z),fun i z=>(by cases z)⟩) (fun z=>z)⟩
  unfold L2.start
  rw [cL (by rw [aJ,hv];exact hi),aN,e1]
  rfl
 ·exact absurd (hp i (get i d h).1) h2
 ·rw [hp i (get i d h).1] at hn
  cases hn
end
section
variable {X:Cx} {fl:List Fl} {e:Expr} {es:List Expr} {pos p:Pos} {x:Str} {ps:List Str} {n:Nat} {F:List D→Option D} {fa:FA}
theorem bC (h:Has X.prog X.w X.K X.mg X.base n x ps (spD X.K F)) (hr:Room n X.A) (ha:DB X fl .P (e :: es) fa) (hg:Gl X x:=by rfl) (hdb:(x == ("__debug__" : Str))=false:=by decide)
 (he:starEach (e :: es) X.env=(false,eval e X.env) :: starEach es X.env:=by exact lG rfl) (hpl:(backTo pos (starEach es X.env)).any (·.1)=false:=by exact FZ rfl) :
 DE X fl .C (.Call (.Name x p) (e :: es) [] pos) (dCall F fa):=PE.imp (Bo h hr ha hg hdb he hpl) fun σ H Q h=>by
 obtain ⟨G,ow,δ,d,R,hf,q⟩:=h
 obtain ⟨ds,e1,e2⟩:=bind1 hf
 refine ⟨G,ow,δ,ds,R,e1,fun vs H' s r=>?_⟩
 show spD X.K F (vs++[]) H' Q E0
 rw [cY]
 exact ⟨ds,d,⟨R.tb.same s,r⟩,e2,fun v H2 s2 r2=>q v H2 (s.trans s2) (RA.imp (fun a z=>s.free z) (fun z=>z) r2)⟩
end
end D3
namespace D3
open PySem PySem.Spec PyProof.Rows L2 My
section
variable {X:Cx} {fl fl':List Fl} {e a b c elt tg iter:Expr} {es ifs:List Expr} {k:Kd} {f fa fb fc:FE} {ft gt:FT} {pos:Pos} {scope:Scope} {ix L TT:List Nat} {fi:FA} {g:FG}
theorem lH:PTs X [] (tDT X.K fl D3.jR):=fun pins s σ H Q I h=>by
 obtain ⟨G,ow,δ,b,R,hf,q⟩:=h
 cases hf
 exact MK pins s σ H Q I (q H (Same.refl H))
theorem Ni {K:PySem.W.Frag} {G:Gh} {ow:Ow} {σ:St} {H H1:Hp} {δ:DS} (t:Nat) (ix:List Nat) (hfl:∀ i,i < t + ix.length→fl'[i]? = some .A) (R:Rel K fl G ow σ H δ) (s:Same H H1) :
 Rel K fl' ⟨H,H,fun _=>none,fun _=>[],R.tb⟩ ow0 (xR t ix σ) H1 (jx t ix δ):=by
 have get:∀ i d,(jx t ix δ)[i]? = some (some (.d d))→i < t + ix.length∧∃ j,ix[i - t]? = some j∧t ≤ i∧δ[j]? = some (some (.d d)):=fun i d h=>by
  unfold jx at h
  by_cases hi:i < t
  ·rw [cL (by rw [cj];exact hi),eX,if_pos hi] at h
   cases h
  ·rw [cC (by rw [cj];omega),cj,aN] at h
   cases e:ix[i - t]? with
   | none=>rw [e] at h;cases h
   | some j =>
    rw [e] at h
    have hl:i - t < ix.length:=by
     rcases jH (i - t) ix.length with z | z
     ·exact z
     ·rw [bD z] at e;cases e
    refine ⟨by omega,j,rfl,by omega,?_⟩
    have h':(δ[j]?).getD none=some (.d d):=by simpa using h
    cases q:δ[j]? with
    | none=>rw [q] at h';cases h'
    | some o=>rw [q] at h';simp at h';rw [h']
 refine ⟨Same.refl H,s,?_,fun i a h=>(by cases h),fun i j a h=>(by cases h),fun i h=>rfl,fun i d h _ _=>?_,fun i d h _ h2 _=>absurd (hfl i (get i d h).1) h2,fun i a h=>(by cases h),fun i j a h=>(by cases h),fun i j a h=>(by cases h),fun i h=>rfl,fun i d hn h=>(by rw [hfl i (get i d h).1] at hn;cases hn)⟩
 ·unfold xR jx
  simp
 ·obtain ⟨hi,j,ej,ht,ed⟩:=get i d h
  have key:∃ v,σ[j]? = some (some v)∧RA K ok1 true H v d:=by
   cases hN:isN fl[j]? with
   | true =>
    obtain ⟨v,h1,h2,_⟩:=R.nr j d hN ed
    exact ⟨v,h1,h2.ra fun _ _=>trivial⟩
   | false =>
   cases ho:ow j with
   | none =>
    obtain ⟨v,h1,h2⟩:=R.dat j d ed hN ho
    exact ⟨v,h1,h2.imp (fun _ _=>trivial) (fun z=>z)⟩
   | some a =>
    obtain ⟨_,_,xs,ds,h1,h2,h3,h4⟩:=R.own j a ho
    rw [ed] at h4
    cases h4
    exact ⟨_,h1,.lst h2 trivial (h3.imp (fun _ _=>trivial) (fun z=>z))⟩
  obtain ⟨v,h1,h2⟩:=key
  refine ⟨v,?_,(h2.imp (fun _ _=>⟨fun i z=>(by cases z),fun i z=>(by cases z)⟩) (fun z=>z)).same s⟩
  unfold xR
  rw [cC (by rw [cj];omega),cj,aN,ej]
  show some ((σ[j]?).getD none)=_
  rw [h1]
  rfl
theorem qw {σ:St} {H:Hp} {Q:VK} {t:Nat} (hfl:∀ i,i < t + ix.length→fl'[i]? = some .A) (htg:∀ j ∈ TT,j < t)
 (h:tD X.K fl .FC (gh fi g ft f t ix) σ H Q):Fx (tDI X.K fl L fi) (tDG X.K fl' TT g) (tDT X.K fl' ft) (tD X.K fl' .C f) t (xR t ix) σ H Q:=by
 obtain ⟨G,ow,δ,d,R,hf,q⟩:=h
 obtain ⟨l,e1,e2⟩:=bind1 hf
 by_cases hl:l.length ≤ 100000
 case neg=>rw [if_neg hl] at e2;cases e2
 rw [if_pos hl] at e2
 obtain ⟨r,e3,e4⟩:=bind1 e2
 cases e4
 refine ⟨G,ow,δ,l,R,e1,fun J H1 s1 wk Dl hD=>?_⟩
 have R1:=R.grow s1
 let okD:Ok:=fun b=>okN H b∧b ≠ Dl
 refine ⟨fun i m xs H2=>m=l.length - i∧H2 Dl=some (.lst xs)∧Same H1 H2∧xs.length ≤ i∧i ≤ l.length∧∃ ds rest,RAs X.K okD false H2 xs ds∧d_ g ft f (jx t ix δ) (l.drop i)=some rest∧r=ds++rest,
  ⟨_,rfl,dg,dN hD _,bh _,fJ _,[],r,.nil,by simpa using e3,rfl⟩,?_⟩
 rintro i m xs H2 ⟨rfl,hDl,s2,hxl,hil,ds,rest,hr,hc,rfl⟩
 refine ⟨hDl,?_⟩
 obtain ⟨w1,w2⟩:=wk H2 (fun b o hb _ _=>s2 b o hb) i
 by_cases hlt:i < l.length
 ·have hdrop:l.drop i=l[i] :: l.drop (i + 1):=nu hlt
  rw [hdrop,d_] at hc
  obtain ⟨δ1,e5,hc⟩:=bind1 hc
  obtain ⟨bb,e6,hc⟩:=bind1 hc
  obtain ⟨go,yl⟩:=w1 l[i] (aZ hlt)
  refine .inr ⟨go,Nat.lt_of_le_of_lt (bV hxl (bV hil hl)) (by decide),fun x H3 hy=>?_⟩
  obtain ⟨s3,r3⟩:=yl x H3 hy
  have s13:=s2.trans s3
  have Rb:=(Ni t ix hfl R1 (Same.refl H1)).grow s13
  refine ⟨_,_,_,_,δ1,Rb,r3.imp (fun _ _=>⟨fun i z=>(by cases z),fun i z=>(by cases z)⟩) (fun z=>z),e5,fun σ4 R4 keep4=>⟨?_,?_⟩⟩
  ·apply fu
   intro n
   rw [j8,j8]
   exact keep4 (t + n) fun z=>absurd (htg _ z) (by omega)
  ·refine ⟨_,_,δ1,bb,R4,e6,fun H5 s5=>?_⟩
   cases bb with
   | false =>
    rw [if_neg dB] at hc ⊢
    have s35:=s3.trans s5
    exact ⟨l.length - (i + 1),by omega,rfl,s35 _ _ hDl,s2.trans s35,by omega,hlt,ds,rest,hr.same s35,hc,rfl⟩
   | true =>
    rw [if_pos rfl] at hc ⊢
    obtain ⟨y,e7,hc⟩:=bind1 hc
    obtain ⟨l',e8,hc⟩:=bind1 hc
    cases hc
    refine ⟨_,_,δ1,y,R4.grow s5,e7,fun v H6 s6 r6=>?_⟩
    have s35:=s3.trans s5
    have s36:=s35.trans s6
    refine ⟨s36 _ _ hDl,l.length - (i + 1),by omega,rfl,dg,?_,by rw [bH,pX];omega,hlt,ds++[y],l',?_,e8,by simp⟩
    ·intro b o hb
     rw [cJ (fun z=>by subst z;rw [hD] at hb;cases hb)]
     exact (s2.trans s36) b o hb
    ·have nd:¬ okD Dl:=fun z=>z.2 rfl
     have s05:Same H H5:=s1.trans (s2.trans s35)
     have ry:RA X.K okD false H6 v y:=RA.imp (fun b z=>⟨s05.free z,fun e=>by subst e;rw [okN,s35 _ _ hDl] at z;cases z⟩) (fun z=>z) r6
     exact ((hr.same s36).append (.cons ry .nil)).upd (s36 _ _ hDl) nd
 ·have ed:l.drop i=[]:=oW (by omega)
  rw [ed,d_] at hc
  cases hc
  refine .inl ⟨w2 (by omega),?_⟩
  rw [cY] at q
  exact q (.ref Dl) H2 (s1.trans s2) (.inr ⟨Dl,xs,ds,rfl,rfl,s1.free hD,hDl,hr⟩)
theorem jq (hc:X.calm=true) (T Vn:List Str) (ix:List Nat) (hi:DI X fl L tg iter fi)
 (hg:∀ cl C s3 H3 fp,DG (blk X (T++Vn) scope cl C s3 H3 fp) fl' TT tg g) (ht:∀ cl C s3 H3 fp,PTs (blk X (T++Vn) scope cl C s3 H3 fp) ifs (tDT X.K fl' ft)) (he:∀ cl C s3 H3 fp,DE (blk X (T++Vn) scope cl C s3 H3 fp) fl' .C elt f)
 (hfl:∀ i,i < T.length + ix.length→fl'[i]? = some .A:=by decide) (htg:∀ j ∈ TT,j < T.length:=by decide)
 (hB:u_ X.N X.env.scope.names scope.names Vn ix=true:=by rfl) (hk:scope.kind = .function:=by rfl) (hcell:∀ y ∈ scope.names,y.2 ≠ .cell:=by decide +kernel)
 (hnames:∀ x ∈ scope.names,x.2 = .local→scope.names.lookup x.1=some .local:=by decide +kernel)
 (hfr:∀ x ∈ scope.names,x.2 = .free→x.1 ∈ Vn:=by decide +kernel) (hs:∀ x,foldedSetIterable iter X.env x=pure x:=by intro _;rfl) :
 DE X fl .FC (.ListComp elt [⟨tg,iter,ifs,0⟩] scope pos) (gh fi g ft f T.length ix) :=
 PE.imp (MN hc T Vn ix hi hg ht he hB hk hcell hnames hfr hs) fun _ _ _ h=>qw hfl htg h
theorem qx {i:Nat} {x:Str} {pos' spos:Pos} (hfx:fl[i]? = some .A) (hN:X.N.Nodup) (hi':X.N[i]? = some x) (hx:X.env.scope.names.lookup x=some .local) (hc:X.calm=true) (T Vn:List Str) (ix:List Nat) (hi:DI X fl L tg iter fi)
 (hg:∀ cl C s3 H3 fp,DG (blk X (T++Vn) scope cl C s3 H3 fp) fl' TT tg g) (ht:∀ cl C s3 H3 fp,PTs (blk X (T++Vn) scope cl C s3 H3 fp) ifs (tDT X.K fl' ft)) (he:∀ cl C s3 H3 fp,DE (blk X (T++Vn) scope cl C s3 H3 fp) fl' .C elt f)
 (hfl:∀ i,i < T.length + ix.length→fl'[i]? = some .A:=by decide) (htg:∀ j ∈ TT,j < T.length:=by decide)
 (hsw:swapsWith (.ListComp elt [⟨tg,iter,ifs,0⟩] scope pos) (some (.Name x pos')) spos.line X.env=pure true:=by rfl)
 (hB:u_ X.N X.env.scope.names scope.names Vn ix=true:=by rfl) (hk:scope.kind = .function:=by rfl) (hcell:∀ y ∈ scope.names,y.2 ≠ .cell:=by decide +kernel)
 (hnames:∀ x ∈ scope.names,x.2 = .local→scope.names.lookup x.1=some .local:=by decide +kernel)
 (hfr:∀ x ∈ scope.names,x.2 = .free→x.1 ∈ Vn:=by decide +kernel) (hs:∀ x,foldedSetIterable iter X.env x=pure x:=by intro _;rfl) :
 DS1 X fl (.Assign [.Name x pos'] (.ListComp elt [⟨tg,iter,ifs,0⟩] scope pos) spos) (bW i (gh fi g ft f T.length ix)) :=
 PS.imp (Fy hN hi' hx hc T Vn ix hi hg ht he hsw hB hk hcell hnames hfr hs) fun Dn σ H h=>by
 obtain ⟨G,ow,δ,o,R,hf,q⟩:=h
 unfold bW at hf
 by_cases hl:i < δ.length
 ·rw [if_pos hl] at hf
  obtain ⟨d,e1,e2⟩:=bind1 hf
  cases e2
  exact qw (fl:=fl) hfl htg ⟨G,ow,δ,d,R,e1,fun v H' s r=>q ow _ H' ((R.grow s).setA hfx (rA R hl) ((r.FC_F R).F_A R))⟩
 ·rw [if_neg hl] at hf
  cases hf
theorem Bv {i:Nat} {x:Str} {pos' spos:Pos} (hfx:fl[i]? = some .O) (hN:X.N.Nodup) (hi':X.N[i]? = some x) (hx:X.env.scope.names.lookup x=some .local) (hc:X.calm=true) (T Vn:List Str) (ix:List Nat) (hi:DI X fl L tg iter fi)
 (hg:∀ cl C s3 H3 fp,DG (blk X (T++Vn) scope cl C s3 H3 fp) fl' TT tg g) (ht:∀ cl C s3 H3 fp,PTs (blk X (T++Vn) scope cl C s3 H3 fp) ifs (tDT X.K fl' ft)) (he:∀ cl C s3 H3 fp,DE (blk X (T++Vn) scope cl C s3 H3 fp) fl' .C elt f)
 (hfl:∀ i,i < T.length + ix.length→fl'[i]? = some .A:=by decide) (htg:∀ j ∈ TT,j < T.length:=by decide)
 (hsw:swapsWith (.ListComp elt [⟨tg,iter,ifs,0⟩] scope pos) (some (.Name x pos')) spos.line X.env=pure true:=by rfl)
 (hB:u_ X.N X.env.scope.names scope.names Vn ix=true:=by rfl) (hk:scope.kind = .function:=by rfl) (hcell:∀ y ∈ scope.names,y.2 ≠ .cell:=by decide +kernel)
 (hnames:∀ x ∈ scope.names,x.2 = .local→scope.names.lookup x.1=some .local:=by decide +kernel)
 (hfr:∀ x ∈ scope.names,x.2 = .free→x.1 ∈ Vn:=by decide +kernel) (hs:∀ x,foldedSetIterable iter X.env x=pure x:=by intro _;rfl) :
 DS1 X fl (.Assign [.Name x pos'] (.ListComp elt [⟨tg,iter,ifs,0⟩] scope pos) spos) (bW i (gh fi g ft f T.length ix)) :=
 PS.imp (Fy hN hi' hx hc T Vn ix hi hg ht he hsw hB hk hcell hnames hfr hs) fun Dn σ H h=>by
 obtain ⟨G,ow,δ,o,R,hf,q⟩:=h
 unfold bW at hf
 by_cases hl:i < δ.length
 ·rw [if_pos hl] at hf
  obtain ⟨d,e1,e2⟩:=bind1 hf
  cases e2
  refine qw (fl:=fl) hfl htg ⟨G,ow,δ,d,R,e1,fun v H' s r=>?_⟩
  obtain ⟨ow',R'⟩:=R.setO s hfx (rA R hl) (r.FC_F R)
  exact q ow' _ H' R'
 ·rw [if_neg hl] at hf
  cases hf
theorem Bw {K:PySem.W.Frag} {G:Gh} {ow:Ow} {H H1:Hp} {p:Addr} {vs:List V} {l:List D} (s:Same H H1) (hp:H1 p=none) (r:RAs K (okA ow) true H1 vs l):Rs K G.H0 ow H (upd H1 p (.lst vs)) .F (.ref p) (.list l) :=
 .inr ⟨p,vs,l,rfl,rfl,s.free hp,dg,(r.track.imp (fun b w=>⟨w.1,fun e=>w.2 (e ▸ hp)⟩) (fun z=>z)).same (dN hp _)⟩
theorem zG {K:PySem.W.Frag} {H0:Hp} {ow:Ow} {Hb H:Hp} {L:List Nat} {v:V} {l:List D} (r:Rs K H0 ow Hb H (.B L) v (.list l)):∃ a xs,v = .ref a∧SqL K H a xs∧RAs K (okA ow) true H xs l:=by
 rcases r with r | ⟨i,hi,a,xs,ds,ho,rfl,e,hx,hr⟩
 ·exact r.lstE
 ·cases e
  exact ⟨a,xs,rfl,SqL.of hx,hr⟩
def Vv (K:PySem.W.Frag):R2:=fun x y H Q=>∃ l b xs zs,x = .ref l∧y = .ref b∧SqL K H l xs∧SqL K H b zs∧xs.length + zs.length ≤ sizeLine∧∀ p,H p=none→Q (.ref p) (upd H p (.lst (xs++zs)))
theorem Nj:OpR X (binaryOp .Add) (Vv X.K):=by
 intro pins s σ H x y v u Q I rx ry h
 obtain ⟨l,b,xs,zs,rfl,rfl,hH,hB,hz,q⟩:=h
 cases rx
 cases ry
 obtain ⟨its,r,p,_⟩:=I.list hH
 obtain ⟨its2,r2,p2,_⟩:=I.list hB
 obtain ⟨⟨cls,dd,data,sl⟩,ho,hc,n,hd⟩:=p.isList
 obtain ⟨⟨cls2,dd2,data2,sl2⟩,ho2,hc2,n2,hd2⟩:=p2.isList
 simp only at hc hd hc2 hd2
 subst hc hd hc2 hd2
 have e1:=r.length
 have e2:=r2.length
 have e:its.toArray++its2.toArray=(its++its2).toArray:=by simp
 refine concat_meets ⟨_,ho,rfl⟩ ⟨_,ho2,rfl⟩ noFill_list_add seq_list_add PySem.F.slot_list_add PySem.F.entry_list_add (PySem.F.args_list_add_2 _ _) (list_addW l b its.toArray its2.toArray n n2 dd dd2 sl sl2 (by simp;omega)) ⟨ho,ho2,?_⟩
 rw [e]
 exact ⟨.ref _,_,I.lnew (t':=s.toks) (r.append r2) (by rw [bH];omega),rfl,q _ I.fresh⟩
theorem wI {L L':List Nat} (h1:DE X fl (.B L) a fa) (h2:DE X fl (.B L') b fb):DE X fl .F (.BinOp a .Add b pos) (dOp ql fa fb):=PE.imp (Jq Nj h1 h2) fun σ H Q h=>by
 obtain ⟨G,ow,δ,d,R,hf,q⟩:=h
 obtain ⟨x,y,e1,e2,e3⟩:=Bt hf
 refine ⟨G,ow,δ,x,R,e1,fun v H1 s1 r1=>⟨G,ow,δ,y,R.grow s1,e2,fun u H2 s2 r2=>?_⟩⟩
 unfold ql at e3
 split at e3
 ·next l m =>
  by_cases z:l.length + m.length ≤ 1000000
  ·rw [if_pos z] at e3
   cases e3
   obtain ⟨p,xs,rfl,hx,hr⟩:=zG r1
   obtain ⟨p',ys,rfl,hy,hr'⟩:=zG r2
   refine ⟨p,p',xs,ys,rfl,rfl,s2.seq hx,hy,?_,fun pn hp=>q _ _ ((s1.trans s2).trans (dN hp _)) (Bw (G:=G) (s1.trans s2) hp ((hr.same s2).append hr'))⟩
   rw [hr.length,hr'.length]
   exact bV z (by decide)
  ·rw [if_neg z] at e3
   cases e3
 ·cases e3
theorem RAs.rep {K:PySem.W.Frag} {ok:Ok} {pl:Bool} {H:Hp} {vs:List V} {l:List D} (r:RAs K ok pl H vs l):∀ n:Nat,RAs K ok pl H (bF n vs).flatten (bF n l).flatten
 | 0=>.nil
 | n + 1=>by
  rw [cW,cW,fY,fY]
  exact r.append (RAs.rep r n)
theorem RP (h1:DE X fl .F a fa) (h2:DE X fl .P b fb):DE X fl .F (.BinOp a .Mult b pos) (dOp JF fa fb):=PE.imp (Jq Ry h1 h2) fun σ H Q h=>by
 obtain ⟨G,ow,δ,d,R,hf,q⟩:=h
 obtain ⟨x,y,e1,e2,e3⟩:=Bt hf
 refine ⟨G,ow,δ,x,R,e1,fun v H1 s1 r1=>⟨G,ow,δ,y,R.grow s1,e2,fun u H2 s2 r2=>?_⟩⟩
 unfold JF at e3
 split at e3
 ·next l k =>
  by_cases z:l.length * k.toNat ≤ 1000000∧-(2 ^ 63) ≤ k∧k < 2 ^ 63
  ·rw [if_pos z] at e3
   cases e3
   obtain rfl:=RA.intE r2
   rcases r1 with ⟨hz,_⟩ | ⟨p,xs,ds,rfl,ez,h3,h4,h5⟩
   ·simp [flat] at hz
   ·cases ez
    refine ⟨p,k,xs,rfl,rfl,s2 _ _ h4,z.2.1,z.2.2,?_,fun pn hp=>q _ _ ((s1.trans s2).trans (dN hp _)) (Bw (G:=G) (s1.trans s2) hp (((h5.imp (fun b w=>w.1) (fun z=>z)).same s2).rep _))⟩
    rw [h5.length]
    exact bV z.1 (by decide)
  ·rw [if_neg z] at e3
   cases e3
 ·cases e3
theorem tM {L:List Nat} {p:Pos} (h:DE X fl (.B L) a f) (hg:Gl X "list") (hm:X.mg "list" = none)
 (he:starEach [a] X.env=(false,eval a X.env) :: starEach [] X.env:=by rfl) (hpl:(backTo pos (starEach [] X.env)).any (·.1)=false:=by rfl):DE X fl .F (.Call (.Name "list" p) [a] [] pos) (dUn oM f) :=
 PE.imp (yF zq hg hm boot_list (jY h qe he) (by decide) (by decide) he hpl) fun σ H Q h=>by
 obtain ⟨G,ow,δ,d,R,hf,q⟩:=h
 obtain ⟨x,e1,e2⟩:=bind1 hf
 refine ⟨G,ow,δ,x,R,e1,fun v H1 s1 r1=>?_⟩
 unfold oM at e2
 split at e2
 ·cases e2
  obtain ⟨p,xs,rfl,hx,hr⟩:=zG r1
  exact ⟨p,xs,rfl,.inl hx,fun pn hp=>q _ _ (s1.trans (dN hp _)) (Bw (G:=G) s1 hp hr)⟩
 ·cases e2
  rcases r1 with r1 | ⟨i,hi,a,xs,ds,ho,rfl,e,hx,hr⟩
  ·obtain ⟨p,xs,rfl,hx,hr⟩:=r1.tupE
   exact ⟨p,xs,rfl,.inr hx,fun pn hp=>q _ _ (s1.trans (dN hp _)) (Bw (G:=G) s1 hp hr)⟩
  ·cases e
 ·cases e2
def tDO (K:PySem.W.Frag) (fl:List Fl) (f:FO):TO:=fun σ H Q=>∃ G ow δ o,Rel K fl G ow σ H δ∧f δ=some o∧∀ H',Same H H'→Q o H'
theorem PO.imp {o:Option Expr} {t t':TO} (h:PO X o t) (i:∀ σ H Q,t' σ H Q→t σ H Q):PO X o t':=fun pins s σ H Q I q=>h pins s σ H Q I (i σ H Q q)
theorem vq:PO X none (tDO X.K fl rY):=PO.imp Mu fun σ H Q h=>by
 obtain ⟨G,ow,δ,o,R,hf,q⟩:=h
 cases hf
 exact q H (Same.refl H)
theorem vC (h:DE X fl .P e f):PO X (some e) (tDO X.K fl (qm f)):=PO.imp (Mv h) fun σ H Q h=>by
 obtain ⟨G,ow,δ,o,R,hf,q⟩:=h
 obtain ⟨d,e1,e2⟩:=bind1 hf
 split at e2
 ·cases e2
  refine ⟨G,ow,δ,_,R,e1,fun v H1 s1 r1=>?_⟩
  obtain rfl:=RA.intE r1
  exact ⟨_,rfl,q H1 s1⟩
 ·cases e2
theorem JW (n d:Nat) (o:Option Int):HT.sIx n d o=pSx n d o:=by
 cases o <;> rfl
theorem RAs.cut {K:PySem.W.Frag} {ok:Ok} {pl:Bool} {H:Hp} {vs:List V} {l:List D} (r:RAs K ok pl H vs l) (lo hi:Option Int):RAs K ok pl H (Hf vs lo hi) (cutD l lo hi):=by
 unfold Hf cutD
 rw [r.length,JW,JW]
 exact (r.drop _).take _
theorem Ga {L:List Nat} {lo hi:Option Expr} {p2:Pos} {fl1 fh:FO} (h:DE X fl (.B L) a f) (h1:PO X lo (tDO X.K fl fl1)) (h2:PO X hi (tDO X.K fl fh)):DE X fl .F (.Subscript a (.Slice lo hi none p2) pos) (dSl f fl1 fh):=PE.imp (Jw Mx h h1 h2) fun σ H Q h=>by
 obtain ⟨G,ow,δ,d,R,hf,q⟩:=h
 obtain ⟨x,e1,hf⟩:=bind1 hf
 obtain ⟨o1,e2,hf⟩:=bind1 hf
 obtain ⟨o2,e3,e4⟩:=bind1 hf
 refine ⟨G,ow,δ,x,R,e1,fun v H1 s1 r1=>⟨G,ow,δ,o1,R.grow s1,e2,fun H2 s2=>⟨G,ow,δ,o2,R.grow (s1.trans s2),e3,fun H3 s3=>?_⟩⟩⟩
 split at e4
 ·cases e4
  obtain ⟨p,xs,rfl,hx,hr⟩:=zG r1
  have s13:=s2.trans s3
  exact ⟨p,xs,rfl,s13.seq hx,fun pn hp=>q _ _ ((s1.trans s13).trans (dN hp _)) (Bw (G:=G) (s1.trans s13) hp ((hr.same s13).cut o1 o2))⟩
 ·cases e4
theorem qy {st:Stmt}:DS1 X fl st (fun _=>none):=PS.imp Ji fun Dn σ H h=>by
 obtain ⟨G,ow,δ,o,R,hf,q⟩:=h
 cases hf
end
end D3
namespace D3
open PySem PySem.Spec PyProof.Rows L2 My
section
variable {X:Cx} {pins:List (Addr × Obj)} {σ:St} {H:Hp} {s:Shared} {h':Heap}
theorem Inv.turnedL {t':Nat} {ch:List Addr} (I:Inv X pins σ H s) (k:∀ b o,b ∉ ch→s.heap.get? b=some o→h'.get? b=some o) (hf:∀ b ∈ ch,ug X pins H b):Inv X pins σ H { s with heap:=h',toks:=t' }:=by
 have nit:∀ b u,H b=some u→b ∉ ch:=fun b u e z=>by rw [(hf b z).1] at e;cases e
 refine I.step (g':=s.gens) (d':=s.drawn) (ch:=ch) (fun b hb=>?_) (fun b o _ _ hc e _=>k b o hc e) (fun b o _ _ hc e _=>⟨o.slots,k b o hc e⟩) (fun _ _ _ _ n=>n)
  (fun b o hc e=>⟨o,k b o hc e⟩) (fun _ _ e=>e) (fun _ _ _ e=>e) (fun _ _ _ e=>e) (fun m hm=>?_) (fun b u e=>?_) I.bare
 ·obtain ⟨f0,f1,f2,f3,f4,f5⟩:=hf b hb
  exact ⟨f3,f1,f4,f5⟩
 ·obtain ⟨o,es,ep,ho,r⟩:=hm
  exact ⟨o,es,ep,k _ o (fun z=>(hf _ z).2.1 rfl) ho,r⟩
 ·refine (I.hok b u e).stay (fun c v hc q=>k c v ?_ q) (fun _ q=>q) fun _ _ q=>q
  rcases hc with z | z
  ·rw [z];exact nit b u e
  ·exact nit c _ z
end
def Ite (K:PySem.W.Frag) (a:Addr):It :=
 ⟨fun i H=>∃ xs x,SqL K H a xs∧xs[i]? = some x,fun i H x H'=>∃ p y,H p=none∧H'=upd H p (.tup [.int i,y])∧x = .ref p∧∀ xs,SqL K H a xs→xs[i]? = some y,fun i H=>∃ xs,SqL K H a xs∧xs.length ≤ i⟩
theorem Ht {P:Program} {w:World} {K:PySem.W.Frag} {elts:List Expr} {x1} {tpos:Pos} (a it:Addr) :
 Turn P w K (.Tuple elts x1 tpos) (Ite K a) [it + 1,it] (it + 1) (fun i h=>∃ old,IsEnum h (it + 1) it (i:Int) old∧h.IsListIter it a i) where
 mem:=by simp
 obj:=fun i h st b hb=>by
  obtain ⟨old,he,o,e,c,d⟩:=st
  rcases bA.mp hb with z | z
  ·subst z
   exact ⟨_,he,fun v z=>by cases z⟩
  ·have z:b=it:=by simpa using z
   subst z
   exact ⟨o,e,fun v z=>by rw [d] at z;cases z⟩
 keep:=fun i h h' st k=>by
  obtain ⟨old,he,hi⟩:=st
  exact ⟨old,k _ (by simp) _ he,hi.at fun o e=>k it (by simp) o e⟩
 item:=by
  intro X hP hw hK hc i pins s σ H E I hf st hg
  subst hP hw hK
  obtain ⟨xs,x,hq,hx⟩:=hg
  obtain ⟨its,rv,p,hz⟩:=I.list hq
  obtain ⟨u,hu,ru⟩:=rv.get hx
  obtain ⟨old,he,hi⟩:=st
  have fe:=hf (it + 1) (by simp)
  have fi:=hf it (by simp)
  have hlt:it + 1 < s.heap.objs.size:=Heap.lt_size he
  refine wpAny_pyNext_enum_item he hi p.isList (x:=u) (by simpa using hu) (Nat.succ_ne_self it) fun h1 ho hi1 ht hsz hk=>?_
  refine ⟨_,rfl,wpAny_letOwnedTupleGo_enum ho fun h2 he2 hs2=>?_⟩
  replace hs2:Heap.SameBut (it + 1) h1 h2:=hs2
  have hn:H s.heap.objs.size=none:=I.hok.fresh (bh _)
  have I0:Inv X pins σ (upd H s.heap.objs.size (.tup [.int (i:Int),x])) { s with heap:=s.heap.push { cls:=.type "tuple", data:=.seq #[.int (i:Int) s.toks,u] } } :=
   I.laid (t':=s.toks) (fun b o e=>Heap.get?_push_of_some _ e) (bh _) ⟨show 2 ≤ sizeLine by decide,[.int (i:Int) s.toks,u],.cons ⟨_,rfl⟩ (.cons ru .nil),⟨_,Heap.get?_push_size _ rfl,rfl,_,rfl⟩⟩
  have ne:∀ b,b ∈ [it + 1,it]→b ≠ s.heap.objs.size:=fun b hb=>by
   rcases bA.mp hb with w' | w'
   ·rw [w'];exact bQ hlt
   ·rw [show b=it by simpa using w'];exact bQ (Nat.lt_of_succ_lt hlt)
  have I1:Inv X pins σ (upd H s.heap.objs.size (.tup [.int (i:Int),x])) { s with heap:=h2,toks:=s.toks + 1 }:=by
   refine Inv.turnedL (s:={ s with heap:=s.heap.push { cls:=.type "tuple", data:=.seq #[.int (i:Int) s.toks,u] } }) (ch:=[it + 1,it]) I0 (fun b o hb e=>?_) fun b hb=>⟨by rw [cJ (ne b hb)];exact (hf b hb).1,(hf b hb).2⟩
   have b1:b ≠ it + 1:=fun z=>hb (by simp [z])
   have b2:b ≠ it:=fun z=>hb (by simp [z])
   rcases Heap.get?_push_cases e with ⟨e1,e2⟩ | e1
   ·subst e1 e2
    exact (hs2.2 _ b1).trans ht
   ·exact (hs2.2 _ b1).trans (hk b o b1 b2 e1)
  refine ⟨.ref s.heap.objs.size,_,I1,rfl,⟨_,x,hn,rfl,rfl,fun ys hy=>by rw [I.list_inj hy hq];exact hx⟩,⟨_,he2,hi1.at fun o e=>(hs2.2 _ (bQ (jJ it))).trans e⟩,fun b hb=>?_⟩
  rw [cJ (ne b hb)]
  exact (hf b hb).1
 done:=by
  intro X hP hw hK hc i pins s σ H E I hf st hg
  subst hP hw hK
  obtain ⟨xs,hq,hx⟩:=hg
  obtain ⟨its,rv,p,hz⟩:=I.list hq
  obtain ⟨old,he,hi⟩:=st
  have hl:=rv.length
  refine wpAny_pyNext_enum_end (I.ok.hd hc) he hi p.isList (by simp;omega) fun h' eb=>⟨rfl,Inv.turnedL (t':=s.toks) (ch:=[it + 1,it]) I (fun b o hb e=>eb b o (fun z=>hb (by simp [z])) e) hf⟩
 self:=fun _ _ _ _ _ st h=>by
  obtain ⟨old,he,_⟩:=st
  exact wpAny_pyIter_enum he h
section
variable {X:Cx} {fl:List Fl} {a:Expr} {f:FE} {pos:Pos}
def Vw (K:PySem.W.Frag) (tl:TE):TI:=fun σ H R=>tl σ H fun x H1=>∃ a,x = .ref a∧(∃ xs,SqL K H1 a xs)∧R (Ite K a) H1
theorem Nk {elts:List Expr} {x1} {tpos p:Pos} {tl:TE} (hg:Gl X "enumerate") (hm:X.mg "enumerate" = none) (hl:PE X a tl) (he:starEach [a] X.env=(false,eval a X.env) :: starEach [] X.env:=by rfl)
 (hpl:(backTo pos (starEach [] X.env)).any (·.1)=false:=by rfl):PI X (.Tuple elts x1 tpos) (.Call (.Name "enumerate" p) [a] [] pos) (Vw X.K tl):=by
 intro pins s σ H R I h
 refine wpAny_Call_Name_kw (qb I hg hm boot_enumerate (PyProof.Rows.callWith_type1 (thn ((jY hl qe he) pos pins s σ H (fun vs H1=>match vs with | [x]=>∃ a,x = .ref a∧(∃ xs,SqL X.K H1 a xs)∧R (Ite X.K a) H1 | _=>False) I h) fun us s1 ⟨vs,H1,I1,r1,q1⟩=>?_) he hpl))
 cases r1 with
 | nil=>exact q1.elim
 | cons r rr =>
  cases rr with
  | cons _ _=>exact q1.elim
  | nil =>
  obtain ⟨l,e,⟨xs,hq⟩,q⟩:=q1
  subst e
  cases r
  obtain ⟨its,rv,pl,hz⟩:=I1.list hq
  refine call_enumerate_list pl.isList fun h' he' hi' hsz hk=>?_
  have I2:Inv X pins σ H1 { s1 with heap:=h' }:=I1.kept (t':=s1.toks) hk
  refine wpAny_pyIter_enum (s:={ s1 with heap:=h' }) he' ?_
  refine ⟨s1.heap.objs.size + 1,[s1.heap.objs.size + 1,s1.heap.objs.size],_,_,H1,rfl,I2,Ht l s1.heap.objs.size,⟨_,he',hi'⟩,fun b hb=>?_,q⟩
  have hb':s1.heap.objs.size ≤ b:=by
   rcases bA.mp hb with z | z
   ·rw [z];exact lO _
   ·rw [show b=s1.heap.objs.size by simpa using z];exact bh _
  exact I1.fpOk hb' (I1.hok.fresh hb')
theorem tO {elts:List Expr} {x1} {tpos p:Pos} {L:List Nat} (h:DE X fl (.B L) a f) (hg:Gl X "enumerate") (hm:X.mg "enumerate" = none) (he:starEach [a] X.env=(false,eval a X.env) :: starEach [] X.env:=by rfl)
 (hpl:(backTo pos (starEach [] X.env)).any (·.1)=false:=by rfl):DI X fl L (.Tuple elts x1 tpos) (.Call (.Name "enumerate" p) [a] [] pos) (uP f):=PI.imp (Nk hg hm h he hpl) fun σ H R' h=>by
 obtain ⟨G,ow,δ,l,R,hf,q⟩:=h
 obtain ⟨d,e1,e2⟩:=bind1 hf
 cases d <;> first | (cases e2;done) | skip
 next l0 =>
 cases e2
 refine ⟨G,ow,δ,_,R,e1,fun v H1 s r=>?_⟩
 obtain ⟨a,xs,rfl,hx,keep⟩:=wF (R.grow s) r
 refine ⟨a,rfl,⟨xs,hx⟩,q _ _ s fun H2 k2 i=>?_⟩
 obtain ⟨k3,k4⟩:=keep H2 k2
 refine ⟨fun d hd=>?_,fun hl=>⟨xs,k3,by rw [k4.length];simpa [kY] using hl⟩⟩
 have hd':(l0[i]?).map (fun x=>PyData.tuple [.int (i:Int),x])=some d:=by
  have:=hd
  unfold kY at this
  rw [jB] at this
  exact this
 cases e:l0[i]? with
 | none=>rw [e] at hd';cases hd'
 | some x0 =>
  rw [e] at hd'
  cases hd'
  obtain ⟨y,hy,ry⟩:=k4.get e
  refine ⟨⟨xs,y,k3,hy⟩,fun x H3 hyl=>?_⟩
  obtain ⟨p,y',hp,rfl,rfl,hz⟩:=hyl
  have:some y=some y':=hy.symm.trans (hz xs k3)
  cases this
  have g:=dN hp (.tup [.int (i:Int),y])
  exact ⟨g,.tup dg (.cons (.int _) (.cons (ry.same g) .nil))⟩
end
structure Bl (mg:Str→Option Value):Prop where
 len_:mg "len" = none
 range_:mg "range" = none
 abs_:mg "abs" = none
 isinstance_:mg "isinstance" = none
 int_:mg "int" = none
 bool_:mg "bool" = none
 tuple_:mg "tuple" = none
 list_:mg "list" = none
 str_:mg "str" = none
 max_:mg "max" = none
 min_:mg "min" = none
 sorted_:mg "sorted" = none
 sum_:mg "sum" = none
 reversed_:mg "reversed" = none
 enumerate_:mg "enumerate" = none
 zip_:mg "zip" = none
 set_:mg "set" = none
 any_:mg "any" = none
 all_:mg "all" = none
 dict_:mg "dict" = none
end D3
namespace D3
open PySem PySem.Spec PyProof.Rows L2 My
structure FunD (K:PySem.W.Frag) (x:Str) (st:Stmt) (f:Addr) (fd:FuncData):Prop where
 ex:∃ (oc:Value) (od:Option Addr) (dV kV doc pm:Value) (an:Option Addr) (cdv ct:Value) (osl:Array (Option Value)),
  fd=PySem.W.fnOf x x (lC st) (iz st) (bx st) dV kV doc pm an cdv ct∧K.lookup f=some ⟨oc,od,.func fd,osl⟩∧PySem.W.codeIn K cdv x=true
 kp:PySem.W.keepIn K (.ref f)=true
structure Dg (K:PySem.W.Frag) (mg:Str→Option Value) (x:Str) (st:Stmt) (ps:List Str):Prop where
 ex:∃ (f:Addr) (fd:FuncData),FunD K x st f fd∧Binds K fd ps []∧mg x=some (.ref f)
theorem RQ {K:PySem.W.Frag} {h:Heap} {mg:Str→Option Value} {f T:Addr} {oc kV dc pm cd ct:Value} {od an:Option Addr} {sl:Array (Option Value)} {x:Str} {st:Stmt} {ps:List Str} {o:Obj} {items:Array Value} {n:Nat} (X:K.In h) (G:h.Ns mainGlobals mg)
 (hb:∀ (kV doc pm:Value) (an:Option Addr) (cdv ct:Value) (us:List Value),us.length=ps.length→∃ k,bindArgs (PySem.W.fnOf x x (lC st) (iz st) (bx st) (.ref T) kV doc pm an cdv ct) ⟨us,[]⟩=(seqItems? (.ref T) >>= k)∧k (some items)=pure (ps.zip us))
 (a:PySem.W.nsIn K mainGlobals x=some (some (.ref f))) (l:K.lookup f=some ⟨oc,od,.func (PySem.W.fnOf x x (lC st) (iz st) (bx st) (.ref T) kV dc pm an cd ct),sl⟩) (c:PySem.W.codeIn K cd x=true) (k:PySem.W.keepIn K (.ref f)=true)
 (hT:K.lookup T=some o) (hs:o.data = .seq items n):Dg K mg x st ps :=
 ⟨_,_,⟨⟨oc,od,.ref T,kV,dc,pm,an,cd,ct,sl,rfl,l,c⟩,k⟩,fun s us KX hl=>by
  rw [cY] at hl ⊢
  obtain ⟨k,h1,h2⟩:=hb kV dc pm an cd ct us hl
  exact BindsTo.of_defaults (T:=T) rfl (KX T o hT) hs h1 h2,PySem.W.mg_of X G a⟩
theorem eF {K:PySem.W.Frag} {h:Heap} {mg:Str→Option Value} {f:Addr} {oc kV dc pm cd ct:Value} {od an:Option Addr} {sl:Array (Option Value)} {x:Str} {st:Stmt} {ps:List Str} (X:K.In h) (G:h.Ns mainGlobals mg)
 (hb:∀ (kV doc pm:Value) (an:Option Addr) (cdv ct:Value) (us:List Value),us.length=ps.length→bindArgs (PySem.W.fnOf x x (lC st) (iz st) (bx st) .none kV doc pm an cdv ct) ⟨us,[]⟩=pure (ps.zip us))
 (a:PySem.W.nsIn K mainGlobals x=some (some (.ref f))) (l:K.lookup f=some ⟨oc,od,.func (PySem.W.fnOf x x (lC st) (iz st) (bx st) .none kV dc pm an cd ct),sl⟩) (c:PySem.W.codeIn K cd x=true) (k:PySem.W.keepIn K (.ref f)=true):Dg K mg x st ps :=
 ⟨_,_,⟨⟨oc,od,.none,kV,dc,pm,an,cd,ct,sl,rfl,l,c⟩,k⟩,.all (hb kV dc pm an cd ct),PySem.W.mg_of X G a⟩
structure Dl (K:PySem.W.Frag) (mg:Str→Option Value) (x y:Str) (st:Stmt):Prop where
 ex:∃ (f:Addr) (fd:FuncData),FunD K x st f fd∧(∀ (s:Shared) (u:Value),BindsTo s fd ⟨[u],[]⟩ [(y,u)])∧mg x=some (.ref f)
theorem Vx {K:PySem.W.Frag} {h:Heap} {mg:Str→Option Value} {f:Addr} {oc kV dc pm cd ct:Value} {od an:Option Addr} {sl:Array (Option Value)} {x y:Str} {st:Stmt} (X:K.In h) (G:h.Ns mainGlobals mg)
 (hb:∀ (kV doc pm:Value) (an:Option Addr) (cdv ct:Value) (u:Value),bindArgs (PySem.W.fnOf x x (lC st) (iz st) (bx st) .none kV doc pm an cdv ct) ⟨[u],[]⟩=pure [(y,u)])
 (a:PySem.W.nsIn K mainGlobals x=some (some (.ref f))) (l:K.lookup f=some ⟨oc,od,.func (PySem.W.fnOf x x (lC st) (iz st) (bx st) .none kV dc pm an cd ct),sl⟩) (c:PySem.W.codeIn K cd x=true) (k:PySem.W.keepIn K (.ref f)=true):Dl K mg x y st :=
 ⟨_,_,⟨⟨oc,od,.none,kV,dc,pm,an,cd,ct,sl,rfl,l,c⟩,k⟩,fun s u=>.of_eq (hb kV dc pm an cd ct u),PySem.W.mg_of X G a⟩
section
variable {P:Program} {w:World} {K:PySem.W.Frag} {mg:Str→Option Value} {base:Heap} {x:Str} {ps N:List Str} {st:Stmt} {k n:Nat} {fs:FS} {fl:List Fl}
theorem FunD.ok {f:Addr} {fd:FuncData} {sp:Sp} (F:FunD K x st f fd) (S:FnScope N ps (bx st)) (len:∀ vs H Q E,sp vs H Q E→vs.length=ps.length)
 (hbody:∀ (cdv:Value) (A:Around) (outer:List Env) (s:Shared) (H:Hp) (vs:List V) (Q:VK) (E:XK),Room k (A.deeper (envOfC x (bx st) s.heap.objs.size f cdv))→sp vs H Q E →
  ∃ t,PSs (Bf CX0 P w K mg base N x (bx st) f cdv A outer s H E).nox (iz st) t∧t { nx:=fun _ H'=>Q .non H',rt:=Q } (L2.start N vs) H):FnOk P w K mg base CX0 (k + 1) f fd ps sp:=by
 obtain ⟨oc,od,dV,kV,doc,pm,an,cdv,ct,osl,rfl,lk,hcd⟩:=F.ex
 refine Qn lk hcd S len fun A outer s H vs Q E hr hsp=>?_
 obtain ⟨t,h,q⟩:=hbody cdv A outer s H vs Q E hr hsp
 exact ⟨t,h.nox,q⟩
theorem JX {f:Addr} {fd:FuncData} (Fn:FunD K x st f fd) (S:FnScope N ps (bx st)) (hp:∀ i,i < ps.length→fl[i]? = some .A) (hN:ps.length ≤ N.length)
 (hbody:∀ (f:Addr) (cdv:Value) (A:Around) (outer:List Env) (s:Shared) (H:Hp) (E:XK),Room k (A.deeper (envOfC x (bx st) s.heap.objs.size f cdv))→DSs (cx P w K mg base N x st f cdv A outer s H E) fl (iz st) fs) :
 FnOk P w K mg base CX0 (k + 1) f fd ps (spD K (fnD ps.length (N.length - ps.length) fs)):=by
 refine Fn.ok S (fun vs H Q E h=>?_) (fun cdv A outer s H vs Q E hr h=>?_)
 ·obtain ⟨ds,d,r,hf,_⟩:=h
  unfold fnD at hf
  by_cases z:ds.length=ps.length
  ·rw [r.2.length];exact z
  ·rw [if_neg z] at hf;cases hf
 ·obtain ⟨ds,d,r,hf,q⟩:=h
  refine ⟨_,hbody f cdv A outer s H E hr,?_⟩
  unfold fnD at hf
  by_cases z:ds.length=ps.length
  ·rw [if_pos z] at hf
   split at hf
   ·next d' e =>
    cases hf
    exact ⟨_,_,_,_,rF ps.length hp z hN r,e,fun v H' s r=>q v H' s r⟩
   ·next δ' e =>
    cases hf
    exact ⟨_,_,_,_,rF ps.length hp z hN r,e,fun ow' σ' H' R'=>q .non H' R'.same0 .non⟩
   ·cases hf
  ·rw [if_neg z] at hf;cases hf
theorem eG (Dd:Dg K mg x st ps) (S:FnScope N ps (bx st)) (hp:∀ i,i < ps.length→fl[i]? = some .A) (hN:ps.length ≤ N.length)
 (hbody:∀ (f:Addr) (cdv:Value) (A:Around) (outer:List Env) (s:Shared) (H:Hp) (E:XK),Room k (A.deeper (envOfC x (bx st) s.heap.objs.size f cdv))→DSs (cx P w K mg base N x st f cdv A outer s H E) fl (iz st) fs) :
 Has P w K mg base (k + 1) x ps (spD K (fnD ps.length (N.length - ps.length) fs)):=by
 obtain ⟨f,fd,Fn,b,m⟩:=Dd.ex
 exact ⟨f,fd,JX Fn S hp hN hbody,b,Fn.kp,m⟩
end
def JZ (K:PySem.W.Frag):Sp:=fun vs H Q _=>∃ (a:Addr) (ns:List Int),Tb H∧vs=[.ref a]∧SqL K H a (ns.map V.int)∧ns.length ≤ 63∧∀ H',Q (.bl true) H'
theorem rG {K:PySem.W.Frag} {ok:Ok} {pl:Bool} {H:Hp}:∀ ns:List Int,RAs K ok pl H (ns.map V.int) (ns.map PyData.int)
 | []=>.nil
 | n :: r=>.cons (.int n) (rG r)
theorem Nm {K:PySem.W.Frag} {F:List D→Option D} (hF:∀ ns:List Int,ns.length ≤ 63→F [.list (ns.map .int)]=some (.bool true)) (vs:List V) (H:Hp) (Q:VK) (E:XK) (h:JZ K vs H Q E):spD K F vs H Q E:=by
 obtain ⟨a,ns,tb,rfl,hS,hl,q⟩:=h
 refine ⟨_,_,⟨tb,.cons ?_ .nil⟩,hF ns hl,fun v H' s r=>?_⟩
 ·rcases hS with (h | ⟨o,h⟩) | h
  ·exact .lst h trivial (rG ns)
  ·exact .lsk (.inl ⟨o,h⟩) rfl (rG ns)
  ·exact .lsk (.inr h) rfl (rG ns)
 ·obtain rfl:=r.blE
  exact q H'
end D3
namespace D3
open PySem PySem.Spec PyProof.Rows L2 My
section
variable {prog:Program} {w:World} {A:Around} {E:Value→Shared→Prop} {s:Shared}
end
section
variable {X:Cx} {fl:List Fl} {a:Expr} {f:FE} {pos p p2 pos2:Pos}
end
section
variable {X:Cx} {fl:List Fl} {a b:Expr} {pos p p2 pos2:Pos} {fa:FA}
end
end D3
namespace D3
open PySem PySem.Spec PyProof.Rows L2 My
section
variable {X:Cx}
theorem tQ:∀ {ns:List Int} {its:List Value},Vals (ns.map V.int) its→IntsAre its ns
 | [],_,.nil=>.nil
 | n :: r,_,.cons h t=>by
  obtain ⟨k,rfl⟩:=h
  exact .cons _ _ (tQ t)
theorem qz {K:PySem.W.Frag} {ok:Ok} {pl:Bool} {H:Hp}:∀ {l:List D} {ns:List Int} {ys:List V},jd l=some ns→RAs K ok pl H ys l→ys=ns.map V.int
 | [],_,_,e,.nil=>by cases e;rfl
 | d :: r,ns,_,e,.cons h t=>by
  cases d <;> first | (cases e;done) | skip
  obtain rfl:=h.intE
  cases e2:jd r with
  | none=>rw [jd,e2] at e;cases e
  | some m =>
   rw [jd,e2] at e
   cases e
   rw [qz e2 t]
   rfl
theorem Qu {K:PySem.W.Frag}:BrC K (fun xs H Q=>∃ (p:Addr) (ns:List Int),xs=[.ref p]∧SqL K H p (ns.map V.int)∧Q (.int ns.sum) H) Vq:=by
 intro H xs ds d Q r e q
 unfold Vq at e
 split at e
 ·next l =>
  cases e2:jd l with
  | none=>rw [e2] at e;cases e
  | some ns =>
   rw [e2] at e
   cases e
   cases r with
   | cons r1 r2 =>
    cases r2
    obtain ⟨a,ys,rfl,hx,hr⟩:=r1.lstE
    obtain rfl:=qz e2 hr
    exact ⟨a,ns,rfl,hx,q _ rfl (.int _)⟩
 ·cases e
theorem Hu (hc:X.calm=true):mj X (.builtin "max") (fun xs H Q=>∃ (p:Addr) (i:Int) (r:List Int),xs=[.ref p]∧SqL X.K H p ((i :: r).map V.int)∧Q (.int (mxI i r)) H):=by
 intro pins s σ H xs us Q I r h
 obtain ⟨p,i,r0,rfl,hx,q⟩:=h
 obtain ⟨u,rfl,rx⟩:=vals1 r
 cases rx
 obtain ⟨its,rvs,pl,hz⟩:=I.list hx
 have hi:=tQ rvs
 obtain ⟨xs,e⟩:=hi.allInts.items
 have hns:i :: r0=xs.toList.map (·.1):=by rw [← hi.numsOf,← nums_intItems,← e]
 have hsz:0 < xs.size:=by
  have h3:0 < (i :: r0).length:=by simp
  rw [hns,aJ,dF] at h3;exact h3
 have hl:s.heap.IsList p (intItems xs):=e ▸ pl.isList
 refine max_intList (I.ok.hd hc) hl hsz fun v h' tk hv hk=>?_
 obtain ⟨t,rfl⟩:=intItems_at hv
 obtain ⟨h1,h2⟩:=argBest_gt (numAt xs) (xs.size - 1)
 have m1:numAt xs (argBest (fun i j=>decide (numAt xs i > numAt xs j)) (xs.size - 1)) ∈ i :: r0:=by
  rw [hns,numAt_eq];exact getD_mem (by rw [aJ,dF];omega)
 have m2:∀ a ∈ i :: r0,a ≤ numAt xs (argBest (fun i j=>decide (numAt xs i > numAt xs j)) (xs.size - 1)):=fun a ha=>by
  rw [hns] at ha
  obtain ⟨j,hj,rfl⟩:=mem_getD ha
  rw [aJ,dF] at hj
  rw [← numAt_eq];exact h2 j (by omega)
 have sp:=wu r0 i
 have eq:numAt xs (argBest (fun i j=>decide (numAt xs i > numAt xs j)) (xs.size - 1))=mxI i r0:=pR (sp.2 _ m1) (m2 _ sp.1)
 rw [eq]
 exact ⟨.int _,H,I.kept hk,⟨_,rfl⟩,q⟩
theorem RV {K:PySem.W.Frag}:BrC K (fun xs H Q=>∃ (p:Addr) (i:Int) (r:List Int),xs=[.ref p]∧SqL K H p ((i :: r).map V.int)∧Q (.int (mxI i r)) H) FJ:=by
 intro H xs ds d Q r e q
 unfold FJ at e
 split at e
 ·next l =>
  split at e
  ·next i r0 e2 =>
   cases e
   cases r with
   | cons r1 r2 =>
    cases r2
    obtain ⟨a,ys,rfl,hx,hr⟩:=r1.lstE
    obtain rfl:=qz e2 hr
    exact ⟨a,i,r0,rfl,hx,q _ rfl (.int _)⟩
  ·cases e
 ·cases e
theorem uE:∀ {l m:List Int},l.Perm m→l.Pairwise (· ≤ ·)→m.Pairwise (· ≤ ·)→l=m
 | [],m,p,_,_=>p.nil_eq
 | a :: l,m,p,h1,h2=>by
  cases m with
  | nil=>exact absurd p.length_eq (by simp)
  | cons b m =>
   obtain ⟨a1,a2⟩:=jj.mp h1
   obtain ⟨b1,b2⟩:=jj.mp h2
   have e:a=b:=by
    have x1:a ∈ b :: m:=p.mem_iff.mp aO
    have x2:b ∈ a :: l:=p.mem_iff.mpr aO
    rcases bA.mp x1 with z | z
    ·exact z
    ·rcases bA.mp x2 with y | y
     ·exact y.symm
     ·exact pR (a1 b y) (b1 a z)
   subst e
   rw [uE (List.Perm.cons_inv p) a2 b2]
theorem mL:∀ {ns:List Int} {its:List Value},IntsAre its ns→Vals (ns.map V.int) its
 | _,_,.nil=>.nil
 | _,_,.cons n t r=>.cons ⟨t,rfl⟩ (mL r)
theorem zH:mj X (.builtin "sorted") (fun xs H Q=>∃ (p:Addr) (ns:List Int),xs=[.ref p]∧SqL X.K H p (ns.map V.int)∧ns.length < 64∧∀ l,H l=none→Q (.ref l) (upd H l (.lst ((oK ns).map V.int)))):=by
 intro pins s σ H xs us Q I r h
 obtain ⟨p,ns,rfl,hx,h64,q⟩:=h
 obtain ⟨u,rfl,rx⟩:=vals1 r
 cases rx
 obtain ⟨its,rvs,pl,hz⟩:=I.list hx
 have hi:=tQ rvs
 refine sorted_ints pl.isList hi (by rw [hi.length];exact h64) fun out ns' a1 a2 a3=>?_
 obtain rfl:=uE (a2.trans (je ns).symm) a3 (nM ns)
 obtain ⟨e,he⟩:=sortedAll_at s.heap its out
 have hn:H (s.heap.objs.size + 1)=none:=I.hok.fresh (lO _)
 have ll:(oK ns).length=ns.length:=(je ns).length_eq
 have I2:=I.laid (h':=sortedAll s.heap its out) (t':=s.toks) (a:=s.heap.objs.size + 1) (o:=.lst ((oK ns).map V.int)) (fun b u e=>sortedAll_old e) (lO _)
  ⟨by rw [aJ,ll];exact bV (gC h64) (by decide),out.toList,e,mL a1,by simpa [seqObj] using he⟩
 exact ⟨.ref _,_,I2,rfl,q _ hn⟩
theorem uF {fl:List Fl} {e:Expr} {fa:FA} {p pos:Pos} (ha:DB X fl .P [e] fa) (hg:Gl X "sorted") (hm:X.mg "sorted" = none)
 (he:starEach [e] X.env=(false,eval e X.env) :: starEach [] X.env:=by rfl) (hpl:(backTo pos (starEach [] X.env)).any (·.1)=false:=by rfl):DE X fl .FC (.Call (.Name "sorted" p) [e] [] pos) (dCall tH fa) :=
 PE.imp (oJ zH hg hm (show bootBuiltins "sorted" = some (.builtin "sorted") by decide +kernel) ha (by decide) (by decide) he hpl) fun σ H Q h=>by
 obtain ⟨G,ow,δ,d,R,hf,q⟩:=h
 obtain ⟨ds,e1,e2⟩:=bind1 hf
 refine ⟨G,ow,δ,ds,R,e1,fun vs H' s r'=>?_⟩
 unfold tH at e2
 split at e2
 ·next l =>
  cases e3:jd l with
  | none=>rw [e3] at e2;cases e2
  | some ns =>
   rw [e3,aL] at e2
   by_cases h64:ns.length < 64
   ·rw [if_pos h64] at e2
    cases e2
    cases r' with
    | cons r1 r2 =>
     cases r2
     obtain ⟨a,ys,rfl,hx,hr⟩:=r1.lstE
     obtain rfl:=qz e3 hr
     exact ⟨a,ns,rfl,hx,h64,fun l hn=>q _ _ (s.trans (dN hn _)) (.inr ⟨_,_,_,rfl,rfl,s.free hn,dg,rG _⟩)⟩
   ·rw [if_neg h64] at e2;cases e2
 ·cases e2
end
end D3
namespace D3
open PySem PySem.Spec PyProof.Rows L2 My
def gK (n:Nat) (us ws:List α):List α:=if ws.length=n then us++ws else []
structure HasD (P:Program) (w:World) (K:PySem.W.Frag) (mg:Str→Option Value) (base:Heap) (n:Nat) (x:Str) (ps:List Str) (sp:Sp) (dvs:List V) (ks:List Str):Prop where
 ex:∃ (f:Addr) (fd:FuncData) (ds:List Value),FnOk P w K mg base CX0 n f fd ps sp∧Binds K fd ps ds∧Vals dvs ds∧KBinds K fd ps ks (gK ks.length) (gK ks.length)∧PySem.W.keepIn K (.ref f)=true∧mg x=some (.ref f)
structure DgD (K:PySem.W.Frag) (mg:Str→Option Value) (x:Str) (st:Stmt) (ps:List Str) (dvs:List V) (ks:List Str):Prop where
 ex:∃ (f:Addr) (fd:FuncData) (ds:List Value),FunD K x st f fd∧Binds K fd ps ds∧Vals dvs ds∧KBinds K fd ps ks (gK ks.length) (gK ks.length)∧mg x=some (.ref f)
section
variable {P:Program} {w:World} {K:PySem.W.Frag} {mg:Str→Option Value} {base:Heap} {x:Str} {ps N ks:List Str} {st:Stmt} {k n:Nat} {fs:FS} {fl:List Fl} {dvs:List V}
end
section
variable {X:Cx} {fl:List Fl} {e ke:Expr} {es:List Expr} {pos p kpos:Pos} {x kn:Str} {ps:List Str} {n:Nat} {F:List D→Option D} {fa:FA} {fk:FE} {i:Int} {dvs:List V}
theorem RW {K:PySem.W.Frag}:BrC K (fun xs H Q=>(∃ i,xs=[.int i]∧Q (.int i) H)∨∃ k,xs=[.bl k]∧Q (.int (if k then 1 else 0)) H) vX:=by
 intro H xs ds d Q r e q
 unfold vX at e
 split at e
 ·cases e
  cases r with
  | cons r1 r2 =>
   cases r2
   obtain rfl:=r1.intE
   exact .inl ⟨_,rfl,q _ rfl (.int _)⟩
 ·cases e
  cases r with
  | cons r1 r2 =>
   cases r2
   obtain rfl:=r1.blE
   exact .inr ⟨_,rfl,q _ rfl (.int _)⟩
 ·cases e
theorem qH {j pos'} {a:Expr} {f:FE} (h:DE X fl .P a f):DT X fl (.Compare a [.Is] [.Constant .none j pos'] pos) (aY (dUn nA f)):=PT.imp (zj (Jf h)) fun σ H Q h=>by
 obtain ⟨G,ow,δ,c,R,hf,q⟩:=h
 obtain ⟨d,e1,e2⟩:=bind1 hf
 obtain ⟨x,e3,e4⟩:=bind1 e1
 cases e4
 cases e2
 refine ⟨G,ow,δ,x,R,e3,fun v H1 s1 r1=>?_⟩
 refine ⟨decide (v = .non),rfl,?_⟩
 rw [zE (RA.same (Same.refl H1) r1)]
 exact q H1 s1
theorem zJ {p:Pos} (ha:DB X fl .P [e] fa) (hg:Gl X "int") (hm:X.mg "int" = none)
 (he:starEach [e] X.env=(false,eval e X.env) :: starEach [] X.env:=by rfl) (hpl:(backTo pos (starEach [] X.env)).any (·.1)=false:=by rfl):DE X fl .FC (.Call (.Name "int" p) [e] [] pos) (dCall vX fa) :=
 PE.imp (yF G8 hg hm boot_int ha (by decide) (by decide) he hpl) fun σ H Q h=>by
 obtain ⟨G,ow,δ,d,R,hf,q⟩:=h
 obtain ⟨ds,e1,e2⟩:=bind1 hf
 exact ⟨G,ow,δ,ds,R,e1,fun vs H' s r'=>RW H' vs ds d Q r' e2 fun v hv rv=>q v H' s (.inl ⟨hv,rv⟩)⟩
end
end D3
namespace D3
open PySem PySem.Spec PyProof.Rows L2 My
section
variable {X:Cx}
theorem Hv (hc:X.calm=true):mj X (.builtin "min") (fun xs H Q=>∃ (p:Addr) (i:Int) (r:List Int),xs=[.ref p]∧SqL X.K H p ((i :: r).map V.int)∧Q (.int (mnI i r)) H):=by
 intro pins s σ H xs us Q I r h
 obtain ⟨p,i,r0,rfl,hx,q⟩:=h
 obtain ⟨u,rfl,rx⟩:=vals1 r
 cases rx
 obtain ⟨its,rvs,pl,hz⟩:=I.list hx
 have hi:=tQ rvs
 obtain ⟨xs,e⟩:=hi.allInts.items
 have hns:i :: r0=xs.toList.map (·.1):=by rw [← hi.numsOf,← nums_intItems,← e]
 have hsz:0 < xs.size:=by
  have h3:0 < (i :: r0).length:=by simp
  rw [hns,aJ,dF] at h3;exact h3
 have hl:s.heap.IsList p (intItems xs):=e ▸ pl.isList
 refine min_intList (I.ok.hd hc) hl hsz fun v h' tk hv hk=>?_
 obtain ⟨t,rfl⟩:=intItems_at hv
 obtain ⟨h1,h2⟩:=argBest_lt (numAt xs) (xs.size - 1)
 have m1:numAt xs (argBest (fun i j=>decide (numAt xs i < numAt xs j)) (xs.size - 1)) ∈ i :: r0:=by
  rw [hns,numAt_eq];exact getD_mem (by rw [aJ,dF];omega)
 have m2:∀ a ∈ i :: r0,numAt xs (argBest (fun i j=>decide (numAt xs i < numAt xs j)) (xs.size - 1)) ≤ a:=fun a ha=>by
  rw [hns] at ha
  obtain ⟨j,hj,rfl⟩:=mem_getD ha
  rw [aJ,dF] at hj
  rw [← numAt_eq];exact h2 j (by omega)
 have sp:=wj r0 i
 have eq:numAt xs (argBest (fun i j=>decide (numAt xs i < numAt xs j)) (xs.size - 1))=mnI i r0:=pR (m2 _ sp.1) (sp.2 _ m1)
 rw [eq]
 exact ⟨.int _,H,I.kept hk,⟨_,rfl⟩,q⟩
theorem RX {K:PySem.W.Frag}:BrC K (fun xs H Q=>∃ (p:Addr) (i:Int) (r:List Int),xs=[.ref p]∧SqL K H p ((i :: r).map V.int)∧Q (.int (mnI i r)) H) FN:=by
 intro H xs ds d Q r e q
 unfold FN at e
 split at e
 ·next l =>
  split at e
  ·next i r0 e2 =>
   cases e
   cases r with
   | cons r1 r2 =>
    cases r2
    obtain ⟨a,ys,rfl,hx,hr⟩:=r1.lstE
    obtain rfl:=qz e2 hr
    exact ⟨a,i,r0,rfl,hx,q _ rfl (.int _)⟩
  ·cases e
 ·cases e
theorem Bx:∀ {bs:List Bool} {its:List Value},Vals (bs.map V.bl) its→its=bs.map Value.bool
 | [],_,.nil=>rfl
 | b :: r,_,.cons h t=>by
  cases h
  rw [Bx t]
  rfl
theorem all_range (bs:List Bool):(aH bs.length).all (fun i=>bs.getD i false)=bs.all id:=by
 rw [Bool.eq_iff_iff,jK,jK]
 constructor
 ·intro h b hb
  obtain ⟨i,hi,rfl⟩:=gB hb
  have:=h i (aR.mpr hi)
  rw [bG,aZ hi] at this
  exact this
 ·intro h i hi
  have hi:=aR.mp hi
  rw [bG,aZ hi]
  exact h _ (lq hi)
theorem BJ {prog:Program} {w:World} {A:Around} (bs:List Bool):TruthOf prog w A (fun i v=>(bs.map Value.bool).toArray[i]? = some v) (fun i=>bs.getD i false):=by
 intro i v s Q E hv hQ
 have hv':(bs.map Value.bool)[i]? = some v:=by simpa using hv
 rw [aN] at hv'
 cases e:bs[i]? with
 | none=>rw [e] at hv';cases hv'
 | some b =>
  rw [e] at hv'
  cases hv'
  have eb:bs.getD i false=b:=by rw [bG,e];rfl
  have hQ':Q (bs.getD i false) s:=hQ
  rw [eb] at hQ'
  exact wpAny_truthy_bool hQ'
theorem yJ (hc:X.calm=true):mj X (.builtin "all") (fun xs H Q=>∃ (p:Addr) (bs:List Bool),xs=[.ref p]∧SqL X.K H p (bs.map V.bl)∧Q (.bl (bs.all id)) H):=by
 intro pins s σ H xs us Q I r h
 obtain ⟨p,bs,rfl,hx,q⟩:=h
 obtain ⟨u,rfl,rx⟩:=vals1 r
 cases rx
 obtain ⟨its,rvs,pl,hz⟩:=I.list hx
 obtain rfl:=Bx rvs
 have hl:s.heap.IsList p (bs.map Value.bool).toArray:=pl.isList
 have hlt:p < s.heap.objs.size:=by obtain ⟨_,e,_⟩:=id hl;exact Heap.lt_size e
 refine call_all_walk (wpAny_pyIter_list hl ?_)
 refine ⟨_,_,_,_,_,_,_,rfl,Walks.list (A:=X.A.in1) (I.ok.hd hc) _ p (bQ hlt) (bs.map Value.bool).toArray,⟨⟨_,Heap.get?_push_size _ rfl,rfl,rfl⟩,hl.push _⟩,BJ bs,fun h' tk hk=>?_⟩
 have e:(bs.map Value.bool).toArray.size=bs.length:=by simp
 rw [e,all_range]
 exact ⟨.bl _,H,I.kept (old_kept hk),rfl,q⟩
theorem yK {K:PySem.W.Frag} {ok:Ok} {pl:Bool} {H:Hp}:∀ {l:List D} {bs:List Bool} {ys:List V},oA l=some bs→RAs K ok pl H ys l→ys=bs.map V.bl
 | [],_,_,e,.nil=>by cases e;rfl
 | d :: r,bs,_,e,.cons h t=>by
  cases d <;> first | (cases e;done) | skip
  obtain rfl:=h.blE
  cases e2:oA r with
  | none=>rw [oA,e2] at e;cases e
  | some m =>
   rw [oA,e2] at e
   cases e
   rw [yK e2 t]
   rfl
theorem Gb {K:PySem.W.Frag}:BrC K (fun xs H Q=>∃ (p:Addr) (bs:List Bool),xs=[.ref p]∧SqL K H p (bs.map V.bl)∧Q (.bl (bs.all id)) H) Dr:=by
 intro H xs ds d Q r e q
 unfold Dr at e
 split at e
 ·next l =>
  cases e2:oA l with
  | none=>rw [e2] at e;cases e
  | some bs =>
   rw [e2] at e
   cases e
   cases r with
   | cons r1 r2 =>
    cases r2
    obtain ⟨a,ys,rfl,hx,hr⟩:=r1.lstE
    obtain rfl:=yK e2 hr
    exact ⟨a,bs,rfl,hx,q _ rfl (.bl _)⟩
 ·cases e
end
section
variable {X:Cx} {fl:List Fl} {a:Expr} {f:FE} {pos:Pos} {ta:TE}
theorem Np {j pos'} (ha:PE X a ta):PC X .IsNot a (.Constant (.bool true) j pos') (fun σ H Q=>ta σ H fun x H1=>∃ b,x = .bl b∧Q (.bl (!b)) H1):=by
 intro pins s σ H Q I h
 refine thn (ha pins s σ H _ I h) fun v s1 ⟨x,H1,I1,r1,q1⟩=>?_
 obtain ⟨b,rfl,q⟩:=q1
 cases r1
 refine Constant_bool ?_
 cases b
 ·exact wpAny_pure ⟨.bl true,H1,I1,rfl,q⟩
 ·exact wpAny_pure ⟨.bl false,H1,I1,rfl,q⟩
end
section
variable {X:Cx} {fl:List Fl} {a b c:Expr} {f fa fb fc:FE} {pos:Pos}
theorem BK {op op':CmpOp} {r r':R2} {g g':D→D→Option D} (ho:OpR X (compareOp op) r) (ho':OpR X (compareOp op') r') (hb:BrO X.K r g) (hb':BrO X.K r' g') (h1:DE X fl .P a fa) (h2:DE X fl .P b fb) (h3:DE X fl .P c fc)
 (hm:lastMarks [op,op'] [b,c]=false:=by with_unfolding_all rfl):DT X fl (.Compare a [op,op'] [b,c] pos) (aY (mY g g' fa fb fc)):=PT.imp (Ju ho ho' h1 h2 h3 hm) fun σ H Q h=>by
 obtain ⟨G,ow,δ,bb,R,hf,q⟩:=h
 obtain ⟨d,hf,hd⟩:=bind1 hf
 have hd':d = .bool bb:=by cases d <;> first | (cases hd;rfl) | (cases hd;done)
 subst hd'
 obtain ⟨x,e1,hf⟩:=bind1 hf
 obtain ⟨y,e2,hf⟩:=bind1 hf
 obtain ⟨z,e3,hf⟩:=bind1 hf
 refine ⟨G,ow,δ,x,R,e1,fun v H1 s1 r1=>⟨G,ow,δ,y,R.grow s1,e2,fun u H2 s2 r2=>?_⟩⟩
 refine hb H2 v u x y z _ (RA.same s2 r1) r2 e3 fun zv hz rz=>?_
 split at hf
 ·obtain rfl:=rz.blE
  obtain ⟨w,e4,e5⟩:=bind1 hf
  refine ⟨true,rfl,Bm ⟨G,ow,δ,w,R.grow (s1.trans s2),e4,fun wv H3 s3 r3=>?_⟩⟩
  refine hb' H3 u wv y w _ _ (RA.same s3 r2) r3 e5 fun z hz rz=>?_
  obtain rfl:=rz.blE
  exact ⟨_,rfl,q H3 (s1.trans (s2.trans s3))⟩
 ·obtain rfl:=rz.blE
  cases hf
  exact ⟨false,rfl,Bk ⟨_,rfl,q H2 (s1.trans s2)⟩⟩
 ·cases hf
theorem Gd {j pos'} (h:DE X fl .P a f):DT X fl (.Compare a [.IsNot] [.Constant (.bool true) j pos'] pos) (aY (dUn v5 f)):=PT.imp (zj (Np h)) fun σ H Q h=>by
 obtain ⟨G,ow,δ,bb,R,hf,q⟩:=h
 obtain ⟨d,hf,hd⟩:=bind1 hf
 obtain ⟨x,e1,e2⟩:=bind1 hf
 cases x <;> first | (cases e2;done) | skip
 cases e2
 cases hd
 refine ⟨G,ow,δ,_,R,e1,fun v H1 s1 r1=>?_⟩
 obtain rfl:=RA.blE r1
 exact ⟨_,rfl,_,rfl,q H1 s1⟩
theorem nY {j pos'} (h:DE X fl .P a f):DT X fl (.Compare a [.IsNot] [.Constant .none j pos'] pos) (aY (dUn lR f)):=PT.imp (zj (Fq h)) fun σ H Q h=>by
 obtain ⟨G,ow,δ,bb,R,hf,q⟩:=h
 obtain ⟨d,hf,hd⟩:=bind1 hf
 obtain ⟨x,e1,e2⟩:=bind1 hf
 cases e2
 cases hd
 refine ⟨G,ow,δ,x,R,e1,fun v H1 s1 r1=>?_⟩
 refine ⟨!decide (v = .non),rfl,?_⟩
 rw [zE (RA.same (Same.refl H1) r1)]
 exact q H1 s1
end
def Itz (K:PySem.W.Frag) (a b:Addr):It :=
 ⟨fun i H=>∃ xs ys x y,SqL K H a xs∧SqL K H b ys∧xs[i]? = some x∧ys[i]? = some y,
  fun i H x H'=>∃ p u v,H p=none∧H'=upd H p (.tup [u,v])∧x = .ref p∧(∀ xs,SqL K H a xs→xs[i]? = some u)∧∀ ys,SqL K H b ys→ys[i]? = some v,
  fun i H=>∃ xs ys,SqL K H a xs∧SqL K H b ys∧(xs.length ≤ i∨ys.length ≤ i)⟩
theorem yL {h:Heap} {z TI TO i1 i2 l1 l2:Addr} {k1 k2:Nat} {f0 a b:Value} {x y:Value} {xs ys:Array Value} (hz:IsZip h z TI TO f0) (hTI:IsPair h TI x y) (hTO:IsPair h TO a b) (h1:h.IsListIter i1 l1 k1) (h2:h.IsListIter i2 l2 k2) (hl1:h.IsList l1 xs) (hl2:h.IsList l2 ys) (nT:TI ≠ TO) (ni:i1 ≠ i2) :
 ZipApart z TI TO i1 i2 l1 l2:=by
 obtain ⟨o1,e1,c1,d1⟩:=h1
 obtain ⟨o2,e2,c2,d2⟩:=h2
 obtain ⟨p1,g1,k1,m1⟩:=hl1
 obtain ⟨p2,g2,k2,m2⟩:=hl2
 have ne:∀ {u v:Addr} {o o':Obj},h.get? u=some o→h.get? v=some o'→o.cls ≠ o'.cls→u ≠ v:=fun e e' n z=>by
  subst z
  rw [e] at e'
  cases e'
  exact n rfl
 exact ⟨ne hTI hz (by simp),ne hTO hz (by simp),ne e1 hz (by rw [c1];simp),ne e2 hz (by rw [c2];simp),nT,ne hTI e1 (by rw [c1];simp),ne hTI e2 (by rw [c2];simp),ne hTO e1 (by rw [c1];simp),ne hTO e2 (by rw [c2];simp),ni,
  ne g1 hz (by rw [k1];simp),ne g1 hTO (by rw [k1];simp),ne g1 e1 (by rw [k1,c1];simp),ne g1 e2 (by rw [k1,c2];simp),ne g2 hz (by rw [k2];simp),ne g2 hTO (by rw [k2];simp),ne g2 e1 (by rw [k2,c1];simp),ne g2 e2 (by rw [k2,c2];simp)⟩
theorem J0 {P:Program} {w:World} {K:PySem.W.Frag} {elts:List Expr} {x1} {tpos:Pos} (a b z TI TO i1 i2:Addr) (nT:TI ≠ TO) (ni:i1 ≠ i2) :
 Turn P w K (.Tuple elts x1 tpos) (Itz K a b) [z,TI,TO,i1,i2] z (fun i h=>IsZip h z TI TO .none∧IsPair h TI (.ref i1) (.ref i2)∧(∃ u v,IsPair h TO u v)∧h.IsListIter i1 a i∧h.IsListIter i2 b i) where
 mem:=by simp
 obj:=fun i h st c hc=>by
  obtain ⟨hz,hTI,⟨u,v,hTO⟩,⟨o1,e1,c1,d1⟩,⟨o2,e2,c2,d2⟩⟩:=st
  simp only [bA,aK,fL,or_false] at hc
  rcases hc with rfl | rfl | rfl | rfl | rfl
  ·exact ⟨_,hz,fun v z=>by cases z⟩
  ·exact ⟨_,hTI,fun v z=>by cases z⟩
  ·exact ⟨_,hTO,fun v z=>by cases z⟩
  ·exact ⟨o1,e1,fun v z=>by rw [d1] at z;cases z⟩
  ·exact ⟨o2,e2,fun v z=>by rw [d2] at z;cases z⟩
 keep:=fun i h h' st k=>by
  obtain ⟨hz,hTI,⟨u,v,hTO⟩,h1,h2⟩:=st
  exact ⟨k _ (by simp) _ hz,k _ (by simp) _ hTI,⟨u,v,k _ (by simp) _ hTO⟩,h1.at fun o e=>k i1 (by simp) o e,h2.at fun o e=>k i2 (by simp) o e⟩
 item:=by
  intro X hP hw hK hc i pins s σ H E I hf st hg
  subst hP hw hK
  obtain ⟨xs,ys,x,y,hqa,hqb,hx,hy⟩:=hg
  obtain ⟨itsa,rva,pa,hza⟩:=I.list hqa
  obtain ⟨itsb,rvb,pb,hzb⟩:=I.list hqb
  obtain ⟨ua,hua,rua⟩:=rva.get hx
  obtain ⟨ub,hub,rub⟩:=rvb.get hy
  obtain ⟨hz,hTI,⟨u,v,hTO⟩,h1,h2⟩:=st
  have D:=yL hz hTI hTO h1 h2 pa.isList pb.isList nT ni
  have lts:∀ c ∈ [z,TI,TO,i1,i2],c < s.heap.objs.size:=fun c hc=>by
   simp only [bA,aK,fL,or_false] at hc
   rcases hc with rfl | rfl | rfl | rfl | rfl
   ·exact Heap.lt_size hz
   ·exact Heap.lt_size hTI
   ·exact Heap.lt_size hTO
   ·obtain ⟨o,e,_⟩:=h1;exact Heap.lt_size e
   ·obtain ⟨o,e,_⟩:=h2;exact Heap.lt_size e
  refine wpAny_pyNext_zip_item D hz hTI hTO h1 h2 pa.isList pb.isList (x:=ua) (y:=ub) (by simpa using hua) (by simpa using hub) fun hh g1 g2 g3 g4 g5 g6 g7=>?_
  refine ⟨_,rfl,wpAny_letOwnedTupleGo_zip g1 fun hh2 e1 e2=>?_⟩
  replace e2:Heap.SameBut z hh hh2:=e2
  have hn:H s.heap.objs.size=none:=I.hok.fresh (bh _)
  have I0:Inv X pins σ (upd H s.heap.objs.size (.tup [x,y])) { s with heap:=s.heap.push { cls:=.type "tuple", data:=.seq #[ua,ub] } } :=
   I.laid (t':=s.toks) (fun b o e=>Heap.get?_push_of_some _ e) (bh _) ⟨show 2 ≤ sizeLine by decide,[ua,ub],.cons rua (.cons rub .nil),⟨_,Heap.get?_push_size _ rfl,rfl,_,rfl⟩⟩
  have ne:∀ c,c ∈ [z,TI,TO,i1,i2]→c ≠ s.heap.objs.size:=fun c hc=>bQ (lts c hc)
  have I1:Inv X pins σ (upd H s.heap.objs.size (.tup [x,y])) { s with heap:=hh2,toks:=s.toks }:=by
   refine Inv.turnedL (s:={ s with heap:=s.heap.push { cls:=.type "tuple", data:=.seq #[ua,ub] } }) (ch:=[z,TI,TO,i1,i2]) I0 (fun c o hc e=>?_) fun c hc=>⟨by rw [cJ (ne c hc)];exact (hf c hc).1,(hf c hc).2⟩
   have b1:c ≠ z:=fun q=>hc (by simp [q])
   have b2:c ≠ TO:=fun q=>hc (by simp [q])
   have b3:c ≠ i1:=fun q=>hc (by simp [q])
   have b4:c ≠ i2:=fun q=>hc (by simp [q])
   rcases Heap.get?_push_cases e with ⟨e3,e4⟩ | e3
   ·subst e3 e4
    exact (e2.2 _ b1).trans g5
   ·exact (e2.2 _ b1).trans (g7 c o b1 b2 b3 b4 e3)
  refine ⟨.ref s.heap.objs.size,_,I1,rfl,⟨_,x,y,hn,rfl,rfl,fun zs hz'=>by rw [I.list_inj hz' hqa];exact hx,fun zs hz'=>by rw [I.list_inj hz' hqb];exact hy⟩,⟨e1,(e2.2 _ D.TIz).trans (g7 _ _ D.TIz D.TITO D.TIi1 D.TIi2 hTI),⟨_,_,(e2.2 _ D.TOz).trans g2⟩,g3.at fun o e=>(e2.2 _ D.i1z).trans e,g4.at fun o e=>(e2.2 _ D.i2z).trans e⟩,fun c hc=>?_⟩
  rw [cJ (ne c hc)]
  exact (hf c hc).1
 done:=by
  intro X hP hw hK hc i pins s σ H E I hf st hg
  subst hP hw hK
  obtain ⟨xs,ys,hqa,hqb,hx⟩:=hg
  obtain ⟨itsa,rva,pa,hza⟩:=I.list hqa
  obtain ⟨itsb,rvb,pb,hzb⟩:=I.list hqb
  obtain ⟨hz,hTI,⟨u,v,hTO⟩,h1,h2⟩:=st
  have D:=yL hz hTI hTO h1 h2 pa.isList pb.isList nT ni
  have la:=rva.length
  have lb:=rvb.length
  refine wpAny_pyNext_zip_end (I.ok.hd hc) D hz hTI hTO h1 h2 pa.isList pb.isList ?_ fun h' eb=>⟨rfl,Inv.turnedL (t':=s.toks) (ch:=[z,TI,TO,i1,i2]) I (fun c o hc e=>eb c o (fun q=>hc (by simp [q])) (fun q=>hc (by simp [q])) (fun q=>hc (by simp [q])) (fun q=>hc (by simp [q])) e) hf⟩
  rcases hx with hx | hx
  ·exact .inl (by simp;omega)
  ·exact .inr (by simp;omega)
 self:=fun _ _ _ _ _ st h=>wpAny_pyIter_zip st.1 h
section
variable {X:Cx} {fl:List Fl} {a b:Expr} {f g:FE} {pos:Pos}
def Xy (K:PySem.W.Frag) (ta tb:TE):TI:=fun σ H R=>ta σ H fun x H1=>tb σ H1 fun y H2=>∃ p q,x = .ref p∧y = .ref q∧(∃ xs,SqL K H2 p xs)∧(∃ ys,SqL K H2 q ys)∧R (Itz K p q) H2
theorem boot_zip:bootBuiltins "zip" = some (.type "zip"):=by decide +kernel
theorem RZ {elts:List Expr} {x1} {tpos p:Pos} {ta tb:TE} (hg:Gl X "zip") (hm:X.mg "zip" = none) (ha:PE X a ta) (hb:PE X b tb) (he:starEach [a,b] X.env=(false,eval a X.env) :: starEach [b] X.env:=by rfl) (he2:starEach [b] X.env=(false,eval b X.env) :: starEach [] X.env:=by rfl)
 (hpl:(backTo pos (starEach [b] X.env)).any (·.1)=false:=by rfl):PI X (.Tuple elts x1 tpos) (.Call (.Name "zip" p) [a,b] [] pos) (Xy X.K ta tb):=by
 intro pins s σ H R I h
 refine wpAny_Call_Name_kw (qb I hg hm boot_zip (PyProof.Rows.callWith_type1 (thn ((jY ha (jY hb qe he2) he) pos pins s σ H (fun vs H1=>match vs with | [x,y]=>∃ p q,x = .ref p∧y = .ref q∧(∃ xs,SqL X.K H1 p xs)∧(∃ ys,SqL X.K H1 q ys)∧R (Itz X.K p q) H1 | _=>False) I h) fun us s1 ⟨vs,H1,I1,r1,q1⟩=>?_) he hpl))
 cases r1 with
 | nil=>exact q1.elim
 | cons r rr =>
  cases rr with
  | nil=>exact q1.elim
  | cons r' rr' =>
  cases rr' with
  | cons _ _=>exact q1.elim
  | nil =>
  obtain ⟨l,m,e,e',⟨xs,hq⟩,⟨ys,hq'⟩,q⟩:=q1
  subst e e'
  cases r
  cases r'
  obtain ⟨its,rv,pl,hz⟩:=I1.list hq
  obtain ⟨its',rv',pl',hz'⟩:=I1.list hq'
  refine call_zip_2 pl.isList pl'.isList fun h' g1 g2 g3 g4 g5 g6 hk=>?_
  have I2:Inv X pins σ H1 { s1 with heap:=h' }:=I1.kept (t':=s1.toks) hk
  refine wpAny_pyIter_zip (s:={ s1 with heap:=h' }) g1 ?_
  refine ⟨s1.heap.objs.size + 4,[s1.heap.objs.size + 4,s1.heap.objs.size + 2,s1.heap.objs.size + 3,s1.heap.objs.size,s1.heap.objs.size + 1],_,_,H1,rfl,I2,J0 l m (s1.heap.objs.size + 4) (s1.heap.objs.size + 2) (s1.heap.objs.size + 3) s1.heap.objs.size (s1.heap.objs.size + 1) (bQ (jJ _)) (bQ (jJ _)),⟨g1,g2,⟨_,_,g3⟩,g4,g5⟩,fun b hb=>?_,q⟩
  have hb':s1.heap.objs.size ≤ b:=by
   simp only [bA,aK,fL,or_false] at hb
   rcases hb with rfl | rfl | rfl | rfl | rfl <;> omega
  exact I1.fpOk hb' (I1.hok.fresh hb')
theorem BL:∀ (l m:List D) (i:Nat),(sH l m)[i]? = (l[i]?).bind fun x=>(m[i]?).map fun y=>PyData.tuple [x,y]
 | [],_,i=>by simp [sH]
 | _ :: _,[],i=>by cases i <;> simp [sH]
 | x :: l,y :: m,0=>by simp [sH]
 | x :: l,y :: m,i + 1=>by simp [sH,BL l m i]
theorem BP:∀ (l m:List D),(sH l m).length=min l.length m.length
 | [],_=>by simp [sH]
 | _ :: _,[]=>by simp [sH]
 | x :: l,y :: m=>by simp [sH,BP l m]
theorem RsB.same {K:PySem.W.Frag} {G:Gh} {ow:Ow} {Hb H H':Hp} {L:List Nat} {v:V} {d:D} (e:Same H H') (h:Rs K G.H0 ow Hb H (.B L) v d):Rs K G.H0 ow Hb H' (.B L) v d:=by
 rcases h with h | ⟨i,hi,a,xs,ds,h1,h2,h3,h4,h5⟩
 ·exact .inl (RA.same e h)
 ·exact .inr ⟨i,hi,a,xs,ds,h1,h2,h3,e _ _ h4,h5.same e⟩
theorem R3 {elts:List Expr} {x1} {tpos p:Pos} {L1 L2 L:List Nat} (ha:DE X fl (.B L1) a f) (hb:DE X fl (.B L2) b g) (hg:Gl X "zip") (hm:X.mg "zip" = none) (hL:L=L1++L2:=by rfl)
 (he:starEach [a,b] X.env=(false,eval a X.env) :: starEach [b] X.env:=by rfl) (he2:starEach [b] X.env=(false,eval b X.env) :: starEach [] X.env:=by rfl)
 (hpl:(backTo pos (starEach [b] X.env)).any (·.1)=false:=by rfl):DI X fl L (.Tuple elts x1 tpos) (.Call (.Name "zip" p) [a,b] [] pos) (M4 f g):=PI.imp (RZ hg hm ha hb he he2 hpl) fun σ H R' h=>by
 subst hL
 obtain ⟨G,ow,δ,l,R,hf,q⟩:=h
 obtain ⟨d,e1,hf⟩:=bind1 hf
 obtain ⟨d',e2,hf⟩:=bind1 hf
 obtain ⟨l0,rfl⟩:∃ l0,d = .list l0:=by cases d <;> first | exact ⟨_,rfl⟩ | (cases hf;done)
 obtain ⟨m0,rfl⟩:∃ m0,d' = .list m0:=by cases d' <;> first | exact ⟨_,rfl⟩ | (cases hf;done)
 cases hf
 refine ⟨G,ow,δ,_,R,e1,fun v H1 s1 r1=>⟨G,ow,δ,_,R.grow s1,e2,fun v' H2 s2 r2=>?_⟩⟩
 have r1':=RsB.same s2 r1
 obtain ⟨pa,xs,rfl,hx,keepa⟩:=wF ((R.grow s1).grow s2) r1'
 obtain ⟨pb,ys,rfl,hy,keepb⟩:=wF ((R.grow s1).grow s2) r2
 refine ⟨pa,pb,rfl,rfl,⟨xs,hx⟩,⟨ys,hy⟩,q _ _ (s1.trans s2) fun H3 k3 i=>?_⟩
 obtain ⟨a1,a2⟩:=keepa H3 fun b o e z=>k3 b o e fun i w=>bf _ (z i w)
 obtain ⟨b1,b2⟩:=keepb H3 fun b o e z=>k3 b o e fun i w=>aU _ (z i w)
 refine ⟨fun d hd=>?_,fun hl=>⟨xs,ys,a1,b1,?_⟩⟩
 ·rw [BL] at hd
  cases ea:l0[i]? with
  | none=>rw [ea] at hd;cases hd
  | some x0 =>
   cases eb:m0[i]? with
   | none=>rw [ea,eb] at hd;cases hd
   | some y0 =>
    rw [ea,eb] at hd
    cases hd
    obtain ⟨x,hx1,rx⟩:=a2.get ea
    obtain ⟨y,hy1,ry⟩:=b2.get eb
    refine ⟨⟨xs,ys,x,y,a1,b1,hx1,hy1⟩,fun z H4 hyl=>?_⟩
    obtain ⟨p',u,v,hp,rfl,rfl,hu,hv⟩:=hyl
    have eu:some x=some u:=hx1.symm.trans (hu xs a1)
    have ev:some y=some v:=hy1.symm.trans (hv ys b1)
    cases eu
    cases ev
    have gg:=dN hp (.tup [x,y])
    exact ⟨gg,.tup dg (.cons (rx.same gg) (.cons (ry.same gg) .nil))⟩
 ·rw [BP] at hl
  rw [a2.length,b2.length]
  omega
end
end D3
namespace D3
open PySem PySem.Spec PyProof.Rows L2 My
section
variable {X:Cx} {fl:List Fl} {e a b c:Expr} {es rest:List Expr} {k:Kd} {f fa fb fc:FE} {ft gt:FT} {pos:Pos}
theorem Nq:DE X fl .T (.Dict [] [] pos) (dC (.dict [])):=PE.imp JC fun σ H Q h=>by
 obtain ⟨G,ow,δ,d,R,hf,q⟩:=h
 cases hf
 intro p hp
 exact q _ _ (dN hp _) ⟨[p],.dic dg (.inl ⟨rfl,rfl⟩),cD.mpr ⟨fL,.nil⟩,fun x hx=>by rw [aK.mp hx];exact hp⟩
theorem Ge (i:Nat) (hn:isN fl[i]? = true) {x:Str} (hN:X.N[i]? = some x:=by rfl) (hv:Vis X.env.scope x:=by first | exact Or.inl rfl | exact Or.inr (Or.inl rfl) | exact Or.inr (Or.inr rfl)) (hd:(x == ("__debug__" : Str))=false:=by decide)
 (hcd:(x == ("__classdict__" : Str))=false:=by decide):DE X fl .P (.Name x pos) (aF i):=by
 refine PE.imp (oh hN hv hd hcd) fun σ H Q h=>?_
 obtain ⟨G,ow,δ,d,R,hf,q⟩:=h
 obtain ⟨v,h1,h2,_⟩:=R.nr i d hn (mG hf)
 exact ⟨v,h1,q v H (Same.refl H) (h2.ra fun _ _=>trivial)⟩
theorem J1 (i:Nat) (hn:isN fl[i]? = true) {x:Str} (hN:X.N[i]? = some x:=by rfl) (hv:Vis X.env.scope x:=by first | exact Or.inl rfl | exact Or.inr (Or.inl rfl) | exact Or.inr (Or.inr rfl)) (hd:(x == ("__debug__" : Str))=false:=by decide)
 (hcd:(x == ("__classdict__" : Str))=false:=by decide):DE X fl .R (.Name x pos) (aF i):=by
 refine PE.imp (oh hN hv hd hcd) fun σ H Q h=>?_
 obtain ⟨G,ow,δ,d,R,hf,q⟩:=h
 obtain ⟨v,h1,h2,_⟩:=R.nr i d hn (mG hf)
 exact ⟨v,h1,q v H (Same.refl H) (h2.ra fun a ha=>(R.nt i a ha).1)⟩
end
section
variable {K:PySem.W.Frag} {fl:List Fl}
def owN (ow:Ow) (i:Nat) (as:List Addr):Ow:=⟨ow.s,fun j=>if j=i then as else ow.n j⟩
theorem lA {ow:Ow} {i:Nat} {as:List Addr}:(owN ow i as).n i=as:=if_pos rfl
theorem j9 {ow:Ow} {i j:Nat} {as:List Addr} (h:j ≠ i):(owN ow i as).n j=ow.n j:=if_neg h
theorem Rel.setN {G:Gh} {ow:Ow} {σ:St} {H H':Hp} {δ:DS} {i:Nat} {v:V} {d:D} (R:Rel K fl G ow σ H δ) (s:Same H H') (hfl:fl[i]? = some .N) (hi:i < σ.length) (r:Rs K G.H0 ow H H' .T v d) :
 ∃ ow',Rel K fl G ow' (σ.set i (some v)) H' (δ.set i (some (.d d))):=by
 have R':=R.grow s
 obtain ⟨as,h1,h2,h3⟩:=r
 have no:∀ a,ow i ≠ some a:=fun a z=>by
  obtain ⟨_,hz,_⟩:=R.own i a z
  rw [hfl] at hz
  rcases hz with ⟨z,_⟩ | ⟨z,_⟩ <;> cases z
 have sub:∀ b,okA ow b∧H b ≠ none→okA (owN ow i as) b:=fun b z=>⟨z.1.1,fun j e=>by
  by_cases hj:j=i
  ·subst hj
   rw [lA] at e
   exact z.2 (h3 b e)
  ·rw [j9 hj] at e
   exact z.1.2 j e⟩
 have old:∀ {v:V} {d:D},RA K (okA ow) true H v d→RA K (okA (owN ow i as)) true H' v d:=fun r=>(r.track.imp sub (fun z=>z)).same s
 have olds:∀ {v:List V} {d:List D},RAs K (okA ow) true H v d→RAs K (okA (owN ow i as)) true H' v d:=fun r=>(r.track.imp sub (fun z=>z)).same s
 refine ⟨owN ow i as,R'.s0,R'.s1,by rw [dR,dR];exact R.len,fun j a h=>?_,R.inj,R.pin,fun j d' g1 gn g2=>?_,fun j d' g1 gn g2 g3=>?_,fun j a h=>?_,fun j j' a h h'=>?_,fun j j' a h=>?_,fun j h=>?_,fun j d' gn g1=>?_⟩
 ·have hj:j ≠ i:=fun z=>no a (z ▸ h)
  obtain ⟨h0,hf,xs,ds,g1,g2,g3,g4⟩:=R.own j a h
  exact ⟨h0,hf,xs,ds,by rw [bJ (Ne.symm hj)];exact g1,s _ _ g2,olds g3,by rw [bJ (Ne.symm hj)];exact g4⟩
 ·rcases iB g1 with ⟨rfl,e⟩ | ⟨hj,e⟩
  ·rw [hfl] at gn;cases gn
  ·obtain ⟨v',g3,g4⟩:=R.dat j d' e gn g2
   exact ⟨v',by rw [bJ (Ne.symm hj)];exact g3,old g4⟩
 ·rcases iB g1 with ⟨rfl,e⟩ | ⟨hj,e⟩
  ·rw [hfl] at gn;cases gn
  ·exact R.oo j d' e gn g2 g3
 ·by_cases hj:j=i
  ·subst hj
   rw [lA] at h
   exact ⟨R.same0.free (h3 a h),h1.chd a h,.inl ⟨hfl,R.s1.free (h3 a h)⟩⟩
  ·rw [j9 hj] at h
   exact R'.nt j a h
 ·by_cases hj:j=i
  ·by_cases hj':j'=i
   ·rw [hj,hj']
   ·subst hj
    rw [lA] at h
    rw [j9 hj'] at h'
    exact absurd (h3 a h) (R.nt j' a h').2.1.ne
  ·rw [j9 hj] at h
   by_cases hj':j'=i
   ·subst hj'
    rw [lA] at h'
    exact absurd (h3 a h') (R.nt j a h).2.1.ne
   ·rw [j9 hj'] at h'
    exact R.nd j j' a h h'
 ·by_cases hj:j=i
  ·subst hj
   rw [lA] at h
   exact fun z=>by
    obtain ⟨_,_,_,_,_,g2,_⟩:=R.own j' a z
    rw [h3 a h] at g2
    cases g2
  ·rw [j9 hj] at h
   exact R.ns j j' a h
 ·have hj:j ≠ i:=fun z=>by subst z;rw [hfl] at h;cases h
  rw [j9 hj]
  exact R.np j h
 ·rcases iB g1 with ⟨rfl,e⟩ | ⟨hj,e⟩
  ·cases e
   exact ⟨v,by rw [dw hi],by rw [lA];exact h1,by rw [lA];exact h2⟩
  ·obtain ⟨v',g3,g4⟩:=R'.nr j d' gn e
   exact ⟨v',by rw [bJ (Ne.symm hj)];exact g3,by rw [j9 hj];exact g4⟩
theorem Rel.mutN {G:Gh} {ow:Ow} {σ:St} {H:Hp} {δ:DS} {i:Nat} {a:Addr} {u u':HO} [cu:Chg u] [cu':Chg u'] {d:D} {v:V} {as:List Addr} (R:Rel K fl G ow σ H δ) (hfl:fl[i]? = some .N) (hi:i < δ.length) (ha:a ∈ ow.n i) (hx:H a=some u) (hv:σ[i]? = some (some v))
 (hr:RT K (upd H a u') v d as) (hs:∀ b ∈ as,b ∈ ow.n i) (hd:as.Nodup):∃ ow',Rel K fl G ow' σ (upd H a u') (δ.set i (some (.d d))):=by
 have na:¬ okA ow a:=fun z=>z.2 i ha
 have hF:G.HF a=none:=by
  rcases (R.nt i a ha).2.2 with ⟨_,z⟩ | z
  ·exact z
  ·rw [hfl] at z;cases z
 have no:∀ a,ow i ≠ some a:=fun a z=>by
  obtain ⟨_,hz,_⟩:=R.own i a z
  rw [hfl] at hz
  rcases hz with ⟨z,_⟩ | ⟨z,_⟩ <;> cases z
 have sub:∀ b,okA ow b→okA (owN ow i as) b:=fun b z=>⟨z.1,fun j e=>by
  by_cases hj:j=i
  ·subst hj
   rw [lA] at e
   exact z.2 j (hs b e)
  ·rw [j9 hj] at e
   exact z.2 j e⟩
 have tr:∀ b,Chd (H b)→Chd (upd H a u' b):=fun b z=>by
  by_cases hb:b=a
  ·rw [hb,dg];exact ⟨_,rfl,cu'⟩
  ·rw [cJ hb];exact z
 refine ⟨owN ow i as,R.s0,fun b o hb=>?_,by rw [dR];exact R.len,fun j b h=>?_,R.inj,R.pin,fun j d' g1 gn g2=>?_,fun j d' g1 gn g2 g3=>?_,fun j b h=>?_,fun j j' b h h'=>?_,fun j j' b h=>?_,fun j h=>?_,fun j d' gn g1=>?_⟩
 ·rw [cJ (fun z=>by subst z;rw [hF] at hb;cases hb)]
  exact R.s1 b o hb
 ·have hj:j ≠ i:=fun z=>no b (z ▸ h)
  obtain ⟨h0,hf,zs,ds,g1,g2,g3,g4⟩:=R.own j b h
  have hb:b ≠ a:=fun z=>R.ns i j a ha (z ▸ h)
  exact ⟨h0,hf,zs,ds,g1,by rw [cJ hb];exact g2,(g3.upd hx na).imp sub (fun z=>z),by rw [bJ (Ne.symm hj)];exact g4⟩
 ·rcases iB g1 with ⟨rfl,e⟩ | ⟨hj,e⟩
  ·rw [hfl] at gn;cases gn
  ·obtain ⟨v',g3,g4⟩:=R.dat j d' e gn g2
   exact ⟨v',g3,(g4.upd hx na).imp sub (fun z=>z)⟩
 ·rcases iB g1 with ⟨rfl,e⟩ | ⟨hj,e⟩
  ·rw [hfl] at gn;cases gn
  ·exact R.oo j d' e gn g2 g3
 ·by_cases hj:j=i
  ·subst hj
   rw [lA] at h
   obtain ⟨g1,g2,g3⟩:=R.nt j b (hs b h)
   exact ⟨g1,tr b g2,g3⟩
  ·rw [j9 hj] at h
   obtain ⟨g1,g2,g3⟩:=R.nt j b h
   exact ⟨g1,tr b g2,g3⟩
 ·have old:∀ j b,b ∈ (owN ow i as).n j→b ∈ ow.n j:=fun j b h=>by
   by_cases hj:j=i
   ·subst hj;rw [lA] at h;exact hs b h
   ·rw [j9 hj] at h;exact h
  exact R.nd j j' b (old j b h) (old j' b h')
 ·by_cases hj:j=i
  ·subst hj;rw [lA] at h;exact R.ns j j' b (hs b h)
  ·rw [j9 hj] at h;exact R.ns j j' b h
 ·have hj:j ≠ i:=fun z=>by subst z;rw [hfl] at h;cases h
  rw [j9 hj]
  exact R.np j h
 ·rcases iB g1 with ⟨rfl,e⟩ | ⟨hj,e⟩
  ·cases e
   exact ⟨v,hv,by rw [lA];exact hr,by rw [lA];exact hd⟩
  ·obtain ⟨v',g3,g4,g5⟩:=R.nr j d' gn e
   exact ⟨v',g3,by rw [j9 hj];exact g4.upd hx (fun z=>hj (R.nd j i a z ha)),by rw [j9 hj];exact g5⟩
end
section
variable {K:PySem.W.Frag} {H:Hp}
end
section
variable {X:Cx} {fl:List Fl} {e ke:Expr} {f fk:FE} {pos:Pos}
theorem Gf {i:Nat} {x:Str} {pos':Pos} (hfl:fl[i]? = some .N) (hN:X.N.Nodup) (hi:X.N[i]? = some x) (hv:X.env.scope.names.lookup x=some .local∨X.env.scope.names.lookup x=some .cell) (h:DE X fl .T e f)
 (hs:swapsWith e (some (.Name x pos')) pos.line X.env=pure false:=by rfl) (hfn:X.fn x=true∨X.env.scope.names.lookup x=some .local:=by first | exact .inl rfl | exact .inr rfl) :
 DS1 X fl (.Assign [.Name x pos'] e pos) (bW i f):=PS.imp (C_ (i:=i) hN hi hv h hs hfn) fun Dn σ H h=>by
 obtain ⟨G,ow,δ,o,R,hf,q⟩:=h
 unfold bW at hf
 by_cases hl:i < δ.length
 ·rw [if_pos hl] at hf
  obtain ⟨d,e1,e2⟩:=bind1 hf
  cases e2
  refine ⟨G,ow,δ,d,R,e1,fun v H' s r=>?_⟩
  obtain ⟨ow',R'⟩:=R.setN s hfl (rA R hl) r
  exact q ow' _ H' R'
 ·rw [if_neg hl] at hf
  cases hf
end
end D3
namespace D3
open PySem
def qM (g:List D→Option (List D)) (i:Nat) (x:Option D) (δ:DS):Option Oc:=match x with
 | some (.list l)=>match g l with
  | some m=>some (.nx (δ.set i (some (.d (.list m)))))
  | none=>none
 | _=>none
def BR (n:Nat) (j:Int):Nat:=if j < 0 then (j + n).toNat else min j.toNat n
def DN (j:Int) (d:D) (l:List D):Option (List D):=if l.length < 1000000∧-(2 ^ 62) ≤ j∧j < 2 ^ 62 then some (l.take (BR l.length j)++d :: l.drop (BR l.length j)) else none
def qIn (i:Nat) (k d x:Option D) (δ:DS):Option Oc:=match k,d with
 | some (.int j),some d=>qM (DN j d) i x δ
 | _,_=>none
def xU (i:Nat) (fk f:FE):FS:=fun δ=>qIn i (fk δ) (f δ) (aF i δ) δ
def iiD:List (D × D)→Option (List (Int × Int))
 | []=>some []
 | (.int i,.int j) :: r=>(iiD r).map ((i,j) :: ·)
 | _=>none
def Qw:D→Option (List D)
 | .list l=>some l
 | .tuple l=>some l
 | _=>none
def qSq (x:Option D):Option (List D):=x.bind Qw
def R5 (f:FE):FA:=fun δ=>(f δ).bind Qw
theorem Vy {f:FE} {δ:DS}:R5 f δ=qSq (f δ):=rfl
theorem R6 {l:List D}:qSq (some (.list l))=some l:=rfl
theorem R7 {l:List D}:qSq (some (.tuple l))=some l:=rfl
theorem R8 {g:List D→Option (List D)} {i:Nat} {x:Option D} {δ:DS} {o:Oc} (h:qM g i x δ=some o):∃ l m,x=some (.list l)∧g l=some m∧o = .nx (δ.set i (some (.d (.list m)))):=by
 unfold qM at h
 split at h
 ·next l =>
  split at h
  ·next m e=>cases h;exact ⟨l,m,rfl,e,rfl⟩
  ·cases h
 ·cases h
theorem J2 {i:Nat} {fk f:FE} {δ:DS}:xU i fk f δ=qIn i (fk δ) (f δ) (aF i δ) δ:=rfl
theorem zK {i:Nat} {j:Int} {d:D} {x:Option D} {δ:DS}:qIn i (some (.int j)) (some d) x δ=qM (DN j d) i x δ:=rfl
theorem R9 {g:List D→Option (List D)} {i:Nat} {l m:List D} {δ:DS} (h:g l=some m):qM g i (some (.list l)) δ=some (.nx (δ.set i (some (.d (.list m))))):=by
 show (match g l with
  | some m=>some (Oc.nx (δ.set i (some (.d (.list m)))))
  | none=>none)=_
 rw [h]
def gIn:D→D→Option D:=fun x y=>match y with
 | .list l=>if (SeqAt.shaped x && SeqAt.shaped (.list l))=true then some (.bool (l.any fun z=>PyData.eqv z x)) else none
 | .tuple l=>if (SeqAt.shaped x && SeqAt.shaped (.tuple l))=true then some (.bool (l.any fun z=>PyData.eqv z x)) else none
 | _=>none
def gZ:D→D→Option D:=fun x y=>match y with
 | .list l=>if (SeqAt.shaped x && SeqAt.shaped (.list l))=true then some (.bool (!l.any fun z=>PyData.eqv z x)) else none
 | .tuple l=>if (SeqAt.shaped x && SeqAt.shaped (.tuple l))=true then some (.bool (!l.any fun z=>PyData.eqv z x)) else none
 | _=>none
end D3
namespace D3
open PySem PySem.Spec PyProof.Rows L2 My
section
variable {X:Cx}
def Nr:V→List V→Hp→VK→Prop:=fun x vs H Q=>∃ l xs i y,x = .ref l∧vs=[.int i,y]∧H l=some (.lst xs)∧-(2 ^ 63) ≤ i∧i < 2 ^ 63∧xs.length < sizeLine∧Q .non (upd H l (.lst (xs.take (BR xs.length i)++y :: xs.drop (BR xs.length i))))
theorem Nt (li:List Value) (k:Nat) (y:Value):(li.toArray.extract 0 k).push y++li.toArray.extract k=(li.take k++y :: li.drop k).toArray:=by
 apply Array.ext'
 simp [List.extract_eq_drop_take]
 exact oX (by simp)
theorem Hw:MtM X "list.insert" Nr:=by
 intro pins s σ H x vs v us Q I rx rv h
 obtain ⟨l,xs,i,y,rfl,rfl,hH,h1,h2,hz,q⟩:=h
 cases rx
 obtain ⟨u1,u2,rfl,ru1,ru2⟩:=rv.two
 obtain ⟨t,rfl⟩:=ru1
 obtain ⟨z,its,n,r,hl,e⟩:=I.lstM hH
 refine call_meets F.slot_list_insert ⟨_,e,rfl⟩ F.entry_list_insert (F.args_list_insert_3 _ _ _) (AutoSeq1.list_insert_list_int_val_1 l its.toArray n i t u2 (by simp [fitsIndex_both h1 h2]) (by rw [bL];omega)) ⟨e,?_⟩
 refine ⟨.non,_,I.lset (its':=its.take (BR xs.length i)++u2 :: its.drop (BR xs.length i)) hH e ?_ ((r.take _).append (.cons ru2 (r.drop _))) ?_,rfl,q⟩
 ·show (its.toArray.extract 0 (if i < 0 then (i + (its.toArray.size:Int)).toNat else min i.toNat its.toArray.size)).push u2++its.toArray.extract (if i < 0 then (i + (its.toArray.size:Int)).toNat else min i.toNat its.toArray.size)=_
  rw [hl]
  exact Nt its (BR its.length i) u2
 ·rw [bH,bN,gQ,gR]
  omega
end
section
variable {X:Cx} {fl:List Fl} {e ke:Expr} {f fk:FE} {pos:Pos}
theorem RAs.erase {K:PySem.W.Frag} {ok:Ok} {pl:Bool} {H:Hp} {v:List V} {d:List D} (n:Nat) (r:RAs K ok pl H v d):RAs K ok pl H (v.eraseIdx n) (d.eraseIdx n):=by
 rw [iW,iW]
 exact (r.take n).append (r.drop (n + 1))
theorem DP {i:Nat} {x:Str} {vpos apos cpos:Pos} (hfl:fl[i]? = some .O) (hk:DE X fl .P ke fk) (h:DE X fl .A e f) (hN:X.N[i]? = some x) (hv:Vis X.env.scope x:=by first | exact Or.inl rfl | exact Or.inr (Or.inl rfl) | exact Or.inr (Or.inr rfl)) (hd:(x == ("__debug__" : Str))=false:=by decide)
 (hcd:(x == ("__classdict__" : Str))=false:=by decide)
 (hs:swapsWith (.Call (.Attribute (.Name x vpos) "insert" apos) [ke,e] [] cpos) none pos.line X.env=pure false:=by rfl)
 (hbase:attributeBase (.Name x vpos) "insert" X.env (eval (.Name x vpos) X.env)=eval (.Name x vpos) X.env:=by rfl)
 (hfew:((backTo cpos (starEach [ke,e] X.env)).all (fun x=>!x.1) && (backToKw cpos (keywordEach [] X.env)).all (fun x=>x.1.isSome)
  && decide (([ke,e]:List Expr).length + ([]:List Keyword).length + (if ([]:List Keyword).isEmpty then 0 else 1) < 30))=true:=by rfl)
 (hline:(apos.endLine == cpos.line)=true:=by rfl) (hst:starEach [ke,e] X.env=(false,eval ke X.env) :: starEach [e] X.env:=by exact lG rfl) (hst2:starEach [e] X.env=(false,eval e X.env) :: starEach [] X.env:=by exact lG rfl) (hplain:(backTo cpos (starEach [e] X.env)).any (·.1)=false:=by exact FZ rfl) :
 DS1 X fl (.Expr (.Call (.Attribute (.Name x vpos) "insert" apos) [ke,e] [] cpos) pos) (xU i fk f) :=
 PS.imp (vh (Qo PySem.F.plainAttrs_list PySem.F.slot_list_insert PySem.F.type_list_insert Hw (oh hN hv hd hcd) (jY hk (jY h qe hst2) hst) hbase hfew hline hst hplain) hs) fun Dn σ H hh=>by
 obtain ⟨G,ow,δ,o,R,hf,q⟩:=hh
 unfold xU qIn at hf
 split at hf
 case h_2=>cases hf
 next j d ek ed =>
 obtain ⟨l,m,e1,e2,rfl⟩:=R8 hf
 unfold DN at e2
 by_cases hl:l.length < 1000000∧-(2 ^ 62) ≤ j∧j < 2 ^ 62
 case neg=>rw [if_neg hl] at e2;cases e2
 rw [if_pos hl] at e2
 cases e2
 obtain ⟨a,xs,ho,h1,h2,h3⟩:=Du R hfl e1
 refine ⟨_,h1,.inl ⟨rfl,_,SqL.of h2⟩,G,ow,δ,_,R,ek,fun v H' s r=>?_⟩
 obtain rfl:=RA.intE r
 refine ⟨G,ow,δ,d,R.grow s,ed,fun u H2 s2 r2=>?_⟩
 have S:=s.trans s2
 refine ⟨a,xs,j,u,rfl,rfl,S _ _ h2,by omega,by omega,by rw [h3.length];exact jG hl.1 (by decide),?_⟩
 have R':=R.grow S
 have h3':=h3.same S
 refine q ow σ _ (R'.mut hfl ho ?_)
 rw [h3.length]
 exact (h3'.take _).append (.cons r2 (h3'.drop _))
end
section
variable {X:Cx} {fl:List Fl} {a:Expr} {pos p p2 pos2:Pos} {fa:FA}
end
end D3
namespace D3
open PySem PySem.Spec PyProof.Rows L2 My
section
variable {X:Cx} {pins:List (Addr × Obj)} {σ:L2.St} {H:Hp} {s:Shared}
end
section
variable {X:Cx} {K:PySem.W.Frag}
end
section
variable {X:Cx} {fl:List Fl} {es:List Expr} {pos:Pos}
end
section
variable {X:Cx} {fl:List Fl} {e:Expr} {f:FE}
theorem Vz {tg l:Expr} {t1 t2:TI} (h1:PI X tg l t1) (h2:PI X tg l t2):PI X tg l (fun σ H R=>t1 σ H R∨t2 σ H R):=fun pins s σ H R I h=>by
 rcases h with h | h
 ·exact h1 pins s σ H R I h
 ·exact h2 pins s σ H R I h
theorem R_ {K:PySem.W.Frag} {G:Gh} {ow:Ow} {σ:St} {H Hb:Hp} {δ:DS} {L:List Nat} {v:V} {l:List D} (R:Rel K fl G ow σ H δ) (r:Rs K G.H0 ow Hb H (.B L) v (.tuple l)):∃ a xs,v = .ref a∧SqT K H a xs ∧
 ∀ H2:Hp,(∀ b o,H b=some o→(∀ i,ow i=some b→i ∈ L)→(∀ i,b ∉ ow.n i)→H2 b=some o)→SqT K H2 a xs∧RAs K (fun b=>okA ow b∧H b ≠ none) true H2 xs l:=by
 rcases r with r | ⟨i,hi,a,xs,ds,ho,rfl,e,hx,hr⟩
 ·cases r with
  | tup e q =>
   refine ⟨_,_,rfl,e.sq,fun H2 hk=>⟨?_,RAs.keep hk R.ownL R.ownC (fun b z=>z.1) q.track⟩⟩
   exact .inl (.inl (hk _ _ e (nm R.ownL e (by intro xs z;cases z)) (nm2 R.ownC e Chg.tup)))
 ·cases e
theorem Sd {tg:Expr} {L:List Nat} (h:DE X fl (.B L) e f):DI X fl L tg e (R5 f):=PI.imp (Vz (Ft h) (Rm h)) fun σ H R' h=>by
 obtain ⟨G,ow,δ,l,R,hf,q⟩:=h
 obtain ⟨d,e1,e2⟩:=bind1 hf
 cases d with
 | list l' =>
  cases e2
  refine .inl ⟨G,ow,δ,_,R,e1,fun v H1 s r=>?_⟩
  obtain ⟨a,xs,rfl,hx,keep⟩:=wF (R.grow s) r
  refine ⟨a,rfl,⟨xs,hx⟩,q _ _ s fun H2 k2 i=>?_⟩
  obtain ⟨k3,k4⟩:=keep H2 k2
  refine ⟨fun d hd=>?_,fun hl=>⟨xs,k3,by rw [k4.length];exact hl⟩⟩
  obtain ⟨y,hy,ry⟩:=k4.get hd
  refine ⟨⟨xs,y,k3,hy⟩,fun x H3 hyl=>?_⟩
  obtain ⟨e,hz⟩:=hyl
  subst e
  have:some y=some x:=hy.symm.trans (hz xs k3)
  cases this
  exact ⟨Same.refl _,ry⟩
 | tuple l' =>
  cases e2
  refine .inr ⟨G,ow,δ,_,R,e1,fun v H1 s r=>?_⟩
  obtain ⟨a,xs,rfl,hx,keep⟩:=R_ (R.grow s) r
  refine ⟨a,rfl,⟨xs,hx⟩,q _ _ s fun H2 k2 i=>?_⟩
  obtain ⟨k3,k4⟩:=keep H2 k2
  refine ⟨fun d hd=>?_,fun hl=>⟨xs,k3,by rw [k4.length];exact hl⟩⟩
  obtain ⟨y,hy,ry⟩:=k4.get hd
  refine ⟨⟨xs,y,k3,hy⟩,fun x H3 hyl=>?_⟩
  obtain ⟨e,hz⟩:=hyl
  subst e
  have:some y=some x:=hy.symm.trans (hz xs k3)
  cases this
  exact ⟨Same.refl _,ry⟩
 | none=>cases e2
 | bool _=>cases e2
 | int _=>cases e2
 | str _=>cases e2
 | dict _=>cases e2
end
section
variable {X:Cx} {fl:List Fl} {a:Expr} {f:FE} {pos p:Pos}
end
section
variable {X:Cx} {fl:List Fl} {a b:Expr} {fa fb:FE} {pos:Pos}
end
end D3
namespace D3
open PySem PySem.Spec PyProof.Rows L2 My
section
variable {X:Cx} {K:PySem.W.Frag}
def Gg (K:PySem.W.Frag):R2:=fun x y H Q=>∃ da l,RdV K H x da∧((RdV K H y (.list l)∧SeqAt.shaped (.list l)=true)∨(RdV K H y (.tuple l)∧SeqAt.shaped (.tuple l)=true))∧SeqAt.shaped da=true∧Q (.bl (!l.any fun z=>PyData.eqv z da)) H
theorem Gi {A:Around} {l:List D} {d:D} (hu:A.units + 64 < cLine) (h:PyData.depthAll l + 1 ≤ 64):A.units + 1 + min (PyData.depthAll l) d.depth < cLine:=by
 have:=Nat.min_le_left (PyData.depthAll l) d.depth
 omega
theorem uU {l:List D} (h:SeqAt.shaped (.list l)=true):PyData.canLayAll0 l=true∧PyData.depthAll l + 1 ≤ 64:=by
 unfold SeqAt.shaped at h
 rw [aW] at h
 refine ⟨by simpa [PyData.canLay0] using h.1,?_⟩
 have:=of_decide_eq_true h.2
 simpa [PyData.depth] using this
theorem tR {l:List D} (h:SeqAt.shaped (.tuple l)=true):PyData.canLayAll0 l=true∧PyData.depthAll l + 1 ≤ 64:=by
 unfold SeqAt.shaped at h
 rw [aW] at h
 refine ⟨by simpa [PyData.canLay0] using h.1,?_⟩
 have:=of_decide_eq_true h.2
 simpa [PyData.depth] using this
theorem mO (hu:X.A.units + 64 < cLine):OpR X (compareOp .NotIn) (Gg X.K):=by
 intro pins s σ H x y v u Q I rx ry h
 obtain ⟨da,l,ha,hb,sa,q⟩:=h
 obtain ⟨as,za⟩:=ha.reads I rx
 rcases hb with ⟨hb,sb⟩ | ⟨hb,sb⟩
 ·obtain ⟨bs,zb⟩:=hb.reads I ry
  exact SeqAt.notIn_list_reads zb za (uU sb).1 (SeqAt.canLay_of_shaped sa) (Gi hu (uU sb).2) ⟨.bl _,H,I,rfl,q⟩
 ·obtain ⟨bs,zb⟩:=hb.reads I ry
  exact SeqAt.notIn_tuple_reads zb za (tR sb).1 (SeqAt.canLay_of_shaped sa) (Gi hu (tR sb).2) ⟨.bl _,H,I,rfl,q⟩
theorem rH:BrO K (Gg K) gZ:=by
 intro H x y dx dy d Q rx ry e q
 cases dy with
 | list l =>
  by_cases z:(SeqAt.shaped dx && SeqAt.shaped (.list l))=true
  ·have e:(if (SeqAt.shaped dx && SeqAt.shaped (.list l))=true then some (PyData.bool (!l.any fun z=>PyData.eqv z dx)) else none)=some d:=e
   rw [if_pos z] at e
   cases e
   rw [aW] at z
   exact ⟨dx,l,rx.rd (SeqAt.canLay_of_shaped z.1),.inl ⟨ry.rd (SeqAt.canLay_of_shaped z.2),z.2⟩,z.1,q _ rfl (.bl _)⟩
  ·have e:(if (SeqAt.shaped dx && SeqAt.shaped (.list l))=true then some (PyData.bool (!l.any fun z=>PyData.eqv z dx)) else none)=some d:=e
   rw [if_neg z] at e
   cases e
 | tuple l =>
  by_cases z:(SeqAt.shaped dx && SeqAt.shaped (.tuple l))=true
  ·have e:(if (SeqAt.shaped dx && SeqAt.shaped (.tuple l))=true then some (PyData.bool (!l.any fun z=>PyData.eqv z dx)) else none)=some d:=e
   rw [if_pos z] at e
   cases e
   rw [aW] at z
   exact ⟨dx,l,rx.rd (SeqAt.canLay_of_shaped z.1),.inr ⟨ry.rd (SeqAt.canLay_of_shaped z.2),z.2⟩,z.1,q _ rfl (.bl _)⟩
  ·have e:(if (SeqAt.shaped dx && SeqAt.shaped (.tuple l))=true then some (PyData.bool (!l.any fun z=>PyData.eqv z dx)) else none)=some d:=e
   rw [if_neg z] at e
   cases e
 | _=>cases e
end
section
variable {X:Cx} {fl:List Fl} {a:Expr} {f:FE} {pos:Pos}
end
section
variable {X:Cx} {fl:List Fl} {e:Expr} {es:List Expr} {f:FE} {pos p:Pos} {x:Str} {n:Nat} {F:List D→Option D} {fa:FA}
end
section
variable {P:Program} {w:World} {K:PySem.W.Frag} {mg:Str→Option Value} {base:Heap} {x:Str} {ps N:List Str} {st:Stmt} {k n:Nat} {fs:FS} {fl:List Fl}
end
section
variable {P:Program} {w:World} {K:PySem.W.Frag} {mg:Str→Option Value} {base:Heap} {x:Str} {ps:List Str} {st:Stmt} {n:Nat}
end
end D3
namespace D3
open PySem PySem.Spec PyProof.Rows L2 My
section
variable {K:PySem.W.Frag} {fl flA:List Fl} {G:Gh} {ow:Ow} {σ σ':St} {H H1:Hp} {δ:DS} {T:List Nat}
end
section
variable {X:Cx} {fl flA:List Fl} {e:Expr} {es:List Expr} {f:FE} {fa:FA} {pos:Pos}
end
section
variable {X:Cx} {fl:List Fl} {pos:Pos}
end
end D3
namespace XS
open PySem PySem.W PyProof.Rows
def dH {α:Type} (lt:Nat→Nat→Bool):KasT α→α
 | .ret a=>a
 | .ask i j k=>dH lt (k (lt i j))
def m7 {α:Type} (n:Nat) (R:α→Prop):KasT α→Prop
 | .ret a=>R a
 | .ask i j k=>i < n∧j < n∧∀ b,m7 n R (k b)
section
variable {α β:Type} {n:Nat} {R:α→Prop} {R':β→Prop} {lt:Nat→Nat→Bool}
theorem mQ (f:α→KasT β):∀ t:KasT α,dH lt (t.bind f)=dH lt (f (dH lt t))
 | .ret _=>rfl
 | .ask _ _ k=>mQ f (k _)
theorem mR {f:α→KasT β} (hf:∀ a,R a→m7 n R' (f a)):∀ t:KasT α,m7 n R t→m7 n R' (t.bind f)
 | .ret a,h=>hf a h
 | .ask _ _ k,h=>⟨h.1,h.2.1,fun b=>mR hf (k b) (h.2.2 b)⟩
theorem BW:∀ t:KasT α,m7 n R t→R (dH lt t)
 | .ret _,h=>h
 | .ask _ _ k,h=>BW (k _) (h.2.2 _)
theorem zL {cmp:Nat→Nat→(Bool→Shared→Prop)→Shared→Prop} {G:α→Shared→Prop} {s:Shared} (hc:∀ i j C,i < n→j < n→C (lt i j) s→cmp i j C s) :
 ∀ t:KasT α,m7 n R t→G (dH lt t) s→t.kasWp cmp G s
 | .ret _,_,q=>q
 | .ask _ _ k,h,q=>hc _ _ _ h.1 h.2.1 (zL hc (k _) (h.2.2 _) q)
end
def good (n:Nat) (p:Array Nat):Prop:=p.Perm (aH n).toArray
section
variable {n:Nat} {p:Array Nat}
theorem good.mem (g:good n p) {x:Nat} (h:x ∈ p.toList):x < n:=by
 have:x ∈ (aH n):=by
  have:=(mW.mp g).mem_iff.mp h
  simpa using this
 exact aR.mp this
theorem good.get (g:good n p) (h0:0 < n) (i:Nat):p.getD i 0 < n:=by
 unfold Array.getD
 split
 ·exact g.mem (by simp)
 ·exact h0
theorem good.rev (g:good n p) (i j:Nat):good n (kas_rev p i j):=(mirror_perm _ _ _ _).trans g
theorem good.bub (g:good n p) (i j:Nat):good n (bubble p i j):=(bubble_perm _ _ _).trans g
theorem wJ (h0:0 < n) (g:good n p):∀ f a,m7 n (fun _=>True) (kas_asc p f a)
 | 0,a=>trivial
 | f + 1,a=>⟨g.get h0 _,g.get h0 _,fun b=>by
  cases b
  ·exact wJ h0 g f (a + 1)
  ·trivial⟩
theorem rJ (h0:0 < n):∀ f (p:Array Nat) a q,good n p→m7 n (fun r=>good n r.1) (kas_desc f p a q)
 | 0,p,a,q,g=>g
 | f + 1,p,a,q,g=>by
  refine ⟨g.get h0 _,g.get h0 _,fun b=>?_⟩
  cases b
  ·refine ⟨g.get h0 _,g.get h0 _,fun c=>?_⟩
   cases c
   ·exact rJ h0 f p (a + 1) (q + 1) g
   ·exact g
  ·show m7 n _ (if q > 0 then _ else _)
   split
   ·exact rJ h0 f _ _ _ (g.rev _ _)
   ·exact rJ h0 f _ _ _ g
theorem wK (h0:0 < n) (g:good n p) (a m:Nat):m7 n (fun r=>good n r.2) (kas_tail3 a m p):=by
 unfold kas_tail3
 refine mR (R:=fun _=>True) (fun c _=>?_) _ (wJ h0 (g.rev _ _) _ _)
 show good n (kas_rev p 0 a)
 exact g.rev _ _
theorem yM (h0:0 < n) (g:good n p) (a m:Nat):m7 n (fun r=>good n r.2) (kas_descPart a m p) :=
 mR (R:=fun r=>good n r.1) (fun r h=>by
  split
  ·exact wK h0 (good.rev h _ _) _ _
  ·exact wK h0 h _ _) _ (rJ h0 _ _ _ _ g)
theorem DQ (h0:0 < n) (g:good n p) (m:Nat):m7 n (fun r=>good n r.2) (kas_count m p) :=
 mR (R:=fun _=>True) (fun a _=>by
  split
  ·exact g
  ·split
   ·refine ⟨g.get h0 _,g.get h0 _,fun b=>?_⟩
    cases b
    ·exact yM h0 (g.rev _ _) _ _
    ·exact g
   ·exact yM h0 g _ _) _ (wJ h0 g _ _)
theorem sJ (h0:0 < n) (g:good n p) (k:Nat):∀ f l r,m7 n (fun _=>True) (kas_place p k f l r)
 | 0,l,r=>trivial
 | f + 1,l,r=>by
  unfold kas_place
  split
  ·trivial
  ·refine ⟨g.get h0 _,g.get h0 _,fun b=>?_⟩
   cases b
   ·exact sJ h0 g k f _ _
   ·exact sJ h0 g k f _ _
theorem BX (h0:0 < n):∀ f (p:Array Nat) k,good n p→m7 n (good n) (kas_bin f p k)
 | 0,p,k,g=>g
 | f + 1,p,k,g=>mR (R:=fun _=>True) (fun l _=>BX h0 f _ _ (g.bub _ _)) _ (sJ h0 g k _ _ _)
theorem uG (h0:0 < n):m7 n (good n) (kas_sort n) :=
 mR (R:=fun r=>good n r.2) (fun r h=>by
  split
  ·exact BX h0 _ _ _ h
  ·exact h) _ (DQ h0 (Array.Perm.refl _) n)
end
def m8 (n:Nat) (lt:Nat→Nat→Bool):List Nat:=(dH lt (kas_sort n)).toList
theorem jF {n:Nat} (h0:0 < n) (lt:Nat→Nat→Bool):(m8 n lt).Perm (aH n):=by
 have:good n (dH lt (kas_sort n)):=BW _ (uG h0)
 have:=mW.mp this
 simpa [m8] using this
def xV (a b:Int × Int):Bool:=if a.1=b.1 then decide (a.2 < b.2) else decide (a.1 < b.1)
def ltP (qs:List (Int × Int)) (i j:Nat):Bool:=xV (qs.getD i (0,0)) (qs.getD j (0,0))
open D3
def DR:List D→Option (List (Int × Int))
 | []=>some []
 | .tuple [.int i,.int j] :: r=>(DR r).map ((i,j) :: ·)
 | _=>none
def wL:List D→Option D
 | [.list l]=>match jd l with
  | some _=>tH [.list l]
  | none=>(DR l).bind fun qs=>if l.length < 64 then (if l.length=1 then some (.list l) else some (.list ((m8 l.length (ltP qs)).map fun i=>l.getD i .none))) else none
 | _=>none
end XS
namespace XS
open PySem PySem.Spec PySem.W PyProof.Rows L2 My D3
theorem uH {P:Program} {w:World} {H:Hp} {h:Heap} {a:Addr} {o:HO} (x:gO P w H h a o):∃ u,h.get? a=some u:=by
 cases o with
 | lst xs=>obtain ⟨_,_,_,_,e⟩:=x;exact ⟨_,e⟩
 | tup xs=>obtain ⟨_,_,_,u,e,_⟩:=x;exact ⟨_,e⟩
 | dK kvs=>obtain ⟨_,_,_,_,u,_,_,e,_⟩:=x;exact ⟨_,e⟩
 | dT kvs=>obtain ⟨_,_,_,_,u,_,_,e,_⟩:=x;exact ⟨_,e⟩
 | set S n=>obtain ⟨u,_,_,_,e,_⟩:=x;exact ⟨_,e⟩
 | ins C dx fs=>obtain ⟨_,_,_,e,_⟩:=x;exact ⟨_,e⟩
 | own y=>exact x
 | xd fs=>obtain ⟨_,⟨u,_,_,e,_⟩,_⟩:=x;exact ⟨_,e⟩
 | met f y=>exact ⟨_,x⟩
 | rng lo hi=>obtain ⟨_,_,_,e⟩:=x;exact ⟨_,e⟩
 | frz u v=>exact ⟨_,x.1⟩
 | tbl q p=>obtain ⟨_,e,_⟩:=x;exact ⟨_,e⟩
 | ext φ=>exact x.2.1
section
variable {X:Cx} {pins:List (Addr × Obj)} {σ:L2.St} {H:Hp} {s:Shared}
theorem Sg {h:Heap} {L:Addr} {m m':Str→Option Value} (a:h.Ns L m) (b:h.Ns L m'):m=m':=by
 obtain ⟨o,es,ep,e,d,_,f⟩:=a
 obtain ⟨o',es',ep',e',d',_,f'⟩:=b
 rw [e] at e';cases e'
 rw [d] at d';cases d'
 funext x
 rw [← f,← f']
theorem Gj {h':Heap} {m:Str→Option Value} {D:Addr} {o:HO} (I:Inv X pins σ H s) (hm:s.heap.Ns X.env.locals m) (hm':h'.Ns X.env.locals m) (k:∀ b u,b ≠ X.env.locals→s.heap.get? b=some u→h'.get? b=some u)
 (hD:s.heap.get? D=none) (new:gO X.prog X.w (upd H D o) h' D o):Inv X pins σ (upd H D o) { s with heap:=h' }:=by
 have hn:H D=none:=by
  cases e:H D with
  | none=>rfl
  | some u =>
   obtain ⟨w,hw⟩:=uH (I.hok D u e)
   rw [hD] at hw;cases hw
 have ne:∀ {b u},H b=some u→b ≠ D:=fun e=>jm e hn
 refine I.step (g':=s.gens) (d':=s.drawn) (t':=s.toks) (ch:=[]) (fun b hb=>by cases hb) (fun b u hL _ _ e _=>k b u hL e) (fun b u hL _ _ e _=>⟨u.slots,k b u hL e⟩) (fun b u _ e n=>?_) (fun b u _ e=>?_)
  (fun b xs e=>by rw [cJ (ne e)];exact e) (fun b u v e=>by rw [cJ (ne e)];exact e) (fun b q p e=>by rw [cJ (ne e)];exact e) (fun m2 h2=>by rw [← Sg hm h2];exact hm') (fun b u e=>?_) I.bare
 ·rw [cJ (fun z=>by rw [z,hD] at e;cases e)];exact n
 ·by_cases z:b=X.env.locals
  ·obtain ⟨w,_,_,hw,_⟩:=hm'
   exact ⟨w,by rw [z];exact hw⟩
  ·exact ⟨u,k b u z e⟩
 ·by_cases z:b=D
  ·subst z
   rw [dg] at e
   cases e
   exact new
  ·rw [cJ z] at e
   refine (I.hok b u e).stay (fun c w hc q=>k c w (fun y=>?_) q) (fun c q=>by rw [cJ (ne q)];exact q) fun c xs q=>by rw [cJ (ne q)];exact q
   rcases hc with rfl | y2
   ·rw [y,I.free] at e;cases e
   ·rw [y,I.free] at y2;cases y2
end
section
variable {prog:Program} {w:World} {A:Around} {E:Value→Shared→Prop} {s:Shared}
theorem Nu {x y:Addr} {a b c d:Int} {t1 t2 t3 t4:Tok} {C:Bool→Shared→Prop} (hx:IsTup s.heap x #[.int a t1,.int b t2]) (hy:IsTup s.heap y #[.int c t3,.int d t4]) (q:C (xV (a,b) (c,d)) s) :
 wpAny (model prog w) A (keyLt' (tuples' true) (.ref x) (.ref y)) C E s:=by
 obtain ⟨ox,ex,_,nx,dx⟩:=hx
 obtain ⟨oy,ey,_,ny,dy⟩:=hy
 refine kat_lt ex dx ey dy ?_
 show KatLex prog w A true (decide (2 < 2)) C [(Value.int a t1,Value.int c t3),(Value.int b t2,Value.int d t4)] 0 s
 refine kat_cons (wpAny_eqBool_int (kat_go (fun e=>?_) fun e=>?_))
 ·refine kat_yes (kat_cons (wpAny_eqBool_int (kat_go (fun e2=>?_) fun e2=>?_)))
  ·refine kat_yes (kat_nil ?_)
   have e:=beq_iff_eq.mp e
   have e2:=beq_iff_eq.mp e2
   subst e e2
   simpa [xV] using q
  ·refine kat_no (kat_one _ _ (lt_int ?_))
   have e:=beq_iff_eq.mp e
   subst e
   simpa [xV,PySem.W.BoolBack] using q
 ·refine kat_no ?_
  have e:a ≠ c:=by
   intro z;subst z;simp at e
  have q':C (decide (a < c)) s:=by simpa [xV,e] using q
  exact oneLt_int q'
end
end XS
namespace XS
open PySem PySem.Spec PySem.W PyProof.Rows L2 My D3
def Sq (K:PySem.W.Frag) (H:Hp) (y:V) (q:Int × Int):Prop:=∃ a,y = .ref a∧SqT K H a [.int q.1,.int q.2]
abbrev Prs (K:PySem.W.Frag) (H:Hp):List V→List (Int × Int)→Prop:=Paired (Sq K H)
section
variable {X:Cx} {pins:List (Addr × Obj)} {σ:L2.St} {H:Hp} {s:Shared}
theorem zM (I:Inv X pins σ H s) {y:V} {u:Value} {q:Int × Int} (h:Sq X.K H y q) (r:RelV y u):∃ a t1 t2,u = .ref a∧IsTup s.heap a #[.int q.1 t1,.int q.2 t2]:=by
 obtain ⟨a,rfl,hq⟩:=h
 cases r
 obtain ⟨its,rr,p,_⟩:=I.tuple hq
 cases rr with
 | cons r1 rr=>cases rr with
  | cons r2 rr =>
   cases rr
   obtain ⟨t1,rfl⟩:=r1
   obtain ⟨t2,rfl⟩:=r2
   exact ⟨a,t1,t2,rfl,p⟩
theorem Gm (I:Inv X pins σ H s) {h':Heap} (k:∀ a items,IsTup s.heap a items→IsTup h' a items):∀ {ys:List V} {us:List Value} {qs:List (Int × Int)},Prs X.K H ys qs→Vals ys us→∃ fs,KatTups h' us fs∧fs.length=us.length∧∀ v ∈ fs,∃ i t,v = .int i t
 | _,_,_,.nil,.nil=>⟨[],trivial,rfl,fun _ h=>by cases h⟩
 | _,_,_,.cons p ps,.cons r rs=>by
  obtain ⟨fs,h1,h2,h3⟩:=Gm I k ps rs
  obtain ⟨a,t1,t2,rfl,ht⟩:=zM I p r
  obtain ⟨o,e,c,n,d⟩:=k _ _ ht
  refine ⟨.int _ t1 :: fs,⟨⟨a,o,_,n,rfl,e,c,d,rfl⟩,h1⟩,by simp [h2],fun v hv=>?_⟩
  rcases bA.mp hv with rfl | hv
  ·exact ⟨_,_,rfl⟩
  ·exact h3 v hv
theorem rK {ys:List V} {us:List Value} {qs:List (Int × Int)}:Prs X.K H ys qs→Vals ys us→∀ i,i < ys.length→Sq X.K H (ys.getD i .non) (qs.getD i (0,0))∧RelV (ys.getD i .non) (us.getD i .none)
 | .nil,.nil,i,h=>by cases h
 | .cons p ps,.cons r rs,0,h=>⟨p,r⟩
 | .cons p ps,.cons r rs,i + 1,h=>by
  have:=rK ps rs i (by simpa using h)
  simpa using this
theorem zN:mj X (.builtin "sorted") (fun xs H Q=>∃ (p:Addr) (ys:List V) (qs:List (Int × Int)),xs=[.ref p]∧SqL X.K H p ys∧2 ≤ ys.length∧ys.length < 64∧Prs X.K H ys qs∧∀ l,H l=none→Q (.ref l) (upd H l (.lst ((m8 ys.length (ltP qs)).map fun i=>ys.getD i .non)))):=by
 intro pins s σ H xs us Q I r h
 obtain ⟨p,ys,qs,rfl,hx,h2,h64,hp,q⟩:=h
 obtain ⟨u,rfl,rx⟩:=vals1 r
 cases rx
 obtain ⟨its,rvs,pl,hz⟩:=I.list hx
 obtain ⟨m,hm,_⟩:=id I.loc
 have len:its.length=ys.length:=rvs.length.symm
 refine kat_sorted (h₀:=Att.kW s.heap) (L:=X.env.locals) (m:=m) (Att.Dj hm) (vN (g:=Att.kW s.heap) (h:=s.heap) (L:=X.env.locals)) pl.isList (by rw [len];exact h2) (by rw [len];exact h64) fun D e1 h' F' N' lt=>?_
 have kept:∀ {h'':Heap} {nw:List (Addr × Obj)},News (Att.kW s.heap) X.env.locals h'' nw→(∀ y ∈ mD (Att.kW s.heap) s.heap X.env.locals,y ∈ nw)→∀ b o,b ≠ X.env.locals→s.heap.get? b=some o→h''.get? b=some o:=fun N hs b o hb e=>(N (b,o) (hs _ (p8 hb (Att.pq _ _) e))).1
 have kt:∀ a items,IsTup s.heap a items→IsTup h' a items:=fun a items ⟨o,e,c,n,d⟩=>⟨o,kept N' (fun y hy=>aM _ hy) a o (fun z=>by
  obtain ⟨o2,es,ep,e2,d2,_⟩:=hm
  rw [z,e2] at e;cases e
  rw [d2] at d;cases d) e,c,n,d⟩
 obtain ⟨fs,f1,f2,f3⟩:=Gm I kt hp rvs
 refine kat_kind (T:=.type "int") f1 (by rw [f2,len];omega) (fun v hv=>?_) rfl ?_
 ·obtain ⟨i,t,rfl⟩:=f3 v hv
  exact fun A Q E s _ q=>wpAny_pure q
 have e64:its.length < 64:=by rw [len];exact h64
 refine zL (n:=its.length) (lt:=ltP qs) (R:=good its.length) (fun i j C hi hj hc=>?_) _ (uG (by rw [len];omega)) ?_
 ·obtain ⟨p1,r1⟩:=rK hp rvs i (by rw [← len];exact hi)
  obtain ⟨p2,r2⟩:=rK hp rvs j (by rw [← len];exact hj)
  obtain ⟨a1,t1,t2,x1,y1⟩:=zM I p1 r1
  obtain ⟨a2,t3,t4,x2,y2⟩:=zM I p2 r2
  unfold kas_ask
  rw [x1,x2]
  exact Nu (kt _ _ y1) (kt _ _ y2) hc
 ·refine KasFin.intro F' N' (.head fun y hy=>bQ (lt y hy)) fun h2 c F2 N2=>?_
  have hD:s.heap.get? D=none:=by
   cases e:s.heap.get? D with
   | none=>rfl
   | some o =>
    by_cases z:D=X.env.locals
    ·exact absurd z (N' _ (aO ..)).2.1
    ·exact absurd (lt (D,o) (p8 z (Att.pq _ _) e)) (gM _)
  have hn:H D=none:=by
   cases e:H D with
   | none=>rfl
   | some u =>
    obtain ⟨w,hw⟩:=uH (I.hok D u e)
    rw [hD] at hw;cases hw
  have pm:=jF (n:=ys.length) (by omega) (ltP qs)
  have hv:∀ l:List Nat,(∀ i ∈ l,i < ys.length)→Vals (l.map fun i=>ys.getD i .non) (l.map fun i=>its.getD i .none):=fun l hl=>by
   induction l with
   | nil=>exact .nil
   | cons i l ih=>exact .cons (rK hp rvs i (hl i aO)).2 (ih fun j hj=>hl j (aM _ hj))
  have o1:((dH (ltP qs) (kas_sort its.length)).toList)=m8 ys.length (ltP qs):=by rw [len];rfl
  have new:gO X.prog X.w (upd H D (.lst ((m8 ys.length (ltP qs)).map fun i=>ys.getD i .non))) h2 D (.lst ((m8 ys.length (ltP qs)).map fun i=>ys.getD i .non)):=by
   refine ⟨by rw [aJ,pm.length_eq,bB];exact bV (gC h64) (by decide),_,c,hv _ fun i hi=>aR.mp (pm.mem_iff.mp hi),?_⟩
   have:=(N2 _ (aO ..)).1
   rw [← o1]
   exact this
  exact ⟨.ref D,_,Gj (s:=s) (h':=h2) I hm F2.ns (kept N2 fun y hy=>aM _ hy) hD new,rfl,q D hn⟩
end
end XS
namespace XS
open PySem PySem.Spec PySem.W PyProof.Rows L2 My D3
section
variable {prog:Program} {w:World} {A:Around} {E:Value→Shared→Prop} {s:Shared}
theorem J3 {a:Addr} {v:Value} {n:Nat} {P:PySem.Fin→Shared→Prop} (ho:s.heap.get? a=some (seqObj "list" #[v] n))
 (h:∀ h' c,(∀ b u,b ≠ a→s.heap.get? b=some u→h'.get? b=some u)→h'.get? a=some (seqObj "list" #[v] c)→P (.done (.ret .none)) { s with heap:=h' }) :
 wpAny (model prog w) A (Builtin.«list.sort» ⟨[.ref a],[]⟩) P E s:=by
 obtain ⟨g1,e1⟩:∃ g1,g1=s.heap.update a (Obj.mapSeq fun _=>(#[]:Array Value)):=⟨_,rfl⟩
 obtain ⟨c1,h1⟩:∃ c,g1.get? a=some (seqObj "list" #[] c):=⟨_,by rw [e1];exact get?_update_seq ho fun _=>#[]⟩
 have k1:∀ b u,b ≠ a→s.heap.get? b=some u→g1.get? b=some u:=fun b u z q=>by rw [e1];exact (Heap.get?_update_ne _ _ _ _ z).trans q
 rw [list_sort_plain]
 refine wpAny_bind (listItems_at ho rfl ?_)
 refine wpAny_bind (listUpdate_at ho rfl ?_ (show 1 ≤ sizeLine by decide) (fJ _))
 rw [← e1]
 refine wpAny_bind (seqEpoch_at h1 rfl ?_)
 refine wpAny_bind (wpAny_newTuple ?_ (show 1 ≤ sizeLine by decide))
 refine wpAny_bind (wpAny_newList ?_ (fJ _))
 refine wpAny_holding ?_
 obtain ⟨g2,e2⟩:∃ g2,g2=(g1.push (seqObj "tuple" #[v] 0)).push (seqObj "list" #[] 0):=⟨_,rfl⟩
 show wpAny (model prog w) A _ P E { s with heap:=(g1.push (seqObj "tuple" #[v] 0)).push (seqObj "list" #[] 0) }
 rw [← e2]
 have h2:g2.get? a=some (seqObj "list" #[] c1):=by rw [e2];exact Heap.get?_push_of_some _ (Heap.get?_push_of_some _ h1)
 have k2:∀ b u,b ≠ a→s.heap.get? b=some u→g2.get? b=some u:=fun b u z q=>by rw [e2];exact Heap.get?_push_of_some _ (Heap.get?_push_of_some _ (k1 b u z q))
 have two:(#[v]:Array Value).size < 2:=jJ 1
 have srt:(arrOf (SortSt.mk' general' ((#[v]:Array Value).zip #[v]) #[] 7 none)).map (·.2) = #[v]:=by
  show ((#[v]:Array Value).zip #[v]).map (·.2) = #[v]
  simp
 dsimp only
 rw [if_pos two,if_pos two]
 refine wpAny_bind (wpAny_pure ?_)
 refine wpAny_bind (wpAny_pure ?_)
 dsimp only
 rw [srt]
 refine wpAny_bind (seqEpoch_at h2 rfl ?_)
 refine wpAny_bind (listUpdate_at h2 rfl ?_ (fJ _) (show 1 ≤ sizeLine + 1 by decide))
 show wpAny _ _ (if (c1 != c1)=true then _ else ret Value.none) P E _
 rw [if_neg (by simp)]
 refine wpAny_pure (h _ _ (fun b u z q=>(Heap.get?_update_ne _ _ _ _ z).trans (k2 b u z q)) (get?_update_seq h2 _))
end
section
variable {X:Cx}
theorem zO:mj X (.builtin "sorted") (fun xs H Q=>∃ (p:Addr) (y:V),xs=[.ref p]∧SqL X.K H p [y]∧∀ l,H l=none→Q (.ref l) (upd H l (.lst [y]))):=by
 intro pins s σ H xs us Q I r h
 obtain ⟨p,y,rfl,hx,q⟩:=h
 obtain ⟨u,rfl,rx⟩:=vals1 r
 cases rx
 obtain ⟨its,rvs,pl,hz⟩:=I.list hx
 obtain ⟨v,rfl,rv⟩:∃ v,its=[v]∧RelV y v:=by
  cases rvs with
  | cons a b=>cases b;exact ⟨_,rfl,a⟩
 refine Calls.call_function_entry kind_sorted plain_sorted entry_sorted (args_sorted1 _) ?_
 unfold Builtin.«sorted»
 refine wpAny_bind (m:=checkCount "sorted" 1 1 _) (wpAny_pure ?_)
 refine wpAny_bind (collect_list (vs:=[v]) pl.isList ?_ (show 1 ≤ sizeLine by decide))
 refine wpAny_bind (wpAny_newList ?_ (show 1 ≤ sizeLine by decide))
 obtain ⟨g,eg⟩:∃ g,g=(s.heap.push (seqObj "list" #[] 0)).update s.heap.objs.size (Obj.mapSeq (·++[v].toArray)):=⟨_,rfl⟩
 show wpAny _ _ _ _ _ { s with heap:=((s.heap.push (seqObj "list" #[] 0)).update s.heap.objs.size (Obj.mapSeq (·++[v].toArray))).push (seqObj "list" [v].toArray 0) }
 rw [← eg]
 have sz:g.objs.size=s.heap.objs.size + 1:=by rw [eg,Heap.size_update,size_push']
 have old:∀ b o,s.heap.get? b=some o→g.get? b=some o:=fun b o e=>by
  have lt:=Heap.lt_size e
  rw [eg,Heap.get?_update_ne _ _ _ _ (bQ lt)]
  exact Heap.get?_push_of_some _ e
 have at':(g.push (seqObj "list" [v].toArray 0)).get? g.objs.size=some (seqObj "list" #[v] 0):=Heap.get?_push_size _ rfl
 refine wpAny_bind (wpAny_holding (wpAny_call_entry slot_list_sort ⟨_,at',rfl⟩ entry_list_sort (J3 at' fun h' c k e=>⟨_,rfl,?_⟩) (args_list_sort _)))
 refine wpAny_pure ⟨_,rfl,?_⟩
 have hn:H g.objs.size=none:=I.hok.fresh (by rw [sz];exact lO _)
 have I2:=I.laid (h':=h') (t':=s.toks) (a:=g.objs.size) (o:=.lst [y]) (fun b o q=>k b o (fun z=>by
  have lt:b < s.heap.objs.size:=Heap.lt_size q
  have z:b=s.heap.objs.size + 1:=z.trans sz
  rw [z] at lt
  exact absurd lt (Nat.not_lt.mpr (lO _))) (Heap.get?_push_of_some _ (old b o q))) (by rw [sz];exact lO _) ⟨show 1 ≤ sizeLine by decide,[v],c,.cons rv .nil,e⟩
 exact ⟨.ref _,_,I2,rfl,q _ hn⟩
end
end XS
namespace XS
open PySem PySem.Spec PySem.W PyProof.Rows L2 My D3
section
variable {K:PySem.W.Frag} {H:Hp}
theorem DX:∀ {l:List D} {qs:List (Int × Int)} {ys:List V},DR l=some qs→RAs K ok1 true H ys l→Prs K H ys qs∧l=qs.map fun q=>.tuple [.int q.1,.int q.2]
 | [],qs,ys,e,r=>by
  cases e;cases r;exact ⟨.nil,rfl⟩
 | d :: l,qs,ys,e,r=>by
  cases r with
  | cons r1 r2 =>
   unfold DR at e
   split at e
   ·next h=>cases h
   ·next i j t h =>
    cases h
    cases e3:DR l with
    | none=>rw [e3] at e;cases e
    | some q2 =>
     rw [e3] at e
     cases e
     obtain ⟨p,el⟩:=DX e3 r2
     obtain ⟨a,xs,rfl,hs,hr⟩:=r1.tupE
     cases hr with
     | cons h1 hr=>cases hr with
      | cons h2 hr =>
       cases hr
       obtain rfl:=h1.intE
       obtain rfl:=h2.intE
       exact ⟨.cons ⟨a,rfl,hs⟩ p,by rw [bI,← el]⟩
   ·cases e
theorem BZ (qs:List (Int × Int)):flats (qs.map fun q=>(.tuple [.int q.1,.int q.2]:D))=true:=by
 induction qs with
 | nil=>rfl
 | cons q qs ih=>simp [flats,flat,ih]
theorem wM:∀ {l:List D},flats l=true→∀ i,flat (l.getD i .none)=true
 | [],_,i=>by simp [flat]
 | d :: l,h,0=>by rw [flats,aW] at h;exact h.1
 | d :: l,h,i + 1=>by
  rw [flats,aW] at h
  simpa using wM h.2 i
theorem zP:∀ {ys:List V} {l:List D} {ok:Ok} {pl:Bool},RAs K ok pl H ys l→∀ i,RA K ok pl H (ys.getD i .non) (l.getD i .none)
 | _,_,_,_,.nil,i=>by simp;exact .non
 | _,_,_,_,.cons a b,0=>a
 | _,_,_,_,.cons a b,i + 1=>by simpa using zP b i
end
theorem J4 {X:Cx} {fl:List Fl} {e:Expr} {fa:FA} {p pos:Pos} (ha:DB X fl .P [e] fa) (hg:Gl X "sorted") (hm:X.mg "sorted" = none)
 (he:starEach [e] X.env=(false,eval e X.env) :: starEach [] X.env:=by rfl) (hpl:(backTo pos (starEach [] X.env)).any (·.1)=false:=by rfl):DE X fl .FC (.Call (.Name "sorted" p) [e] [] pos) (dCall wL fa):=by
 have bs:bootBuiltins "sorted" = some (.builtin "sorted"):=by decide +kernel
 intro pins s σ H Q I h
 obtain ⟨G,ow,δ,d,R,hf,q⟩:=h
 obtain ⟨ds,e1,e2⟩:=bind1 hf
 unfold wL at e2
 split at e2
 ·next l =>
  split at e2
  ·next ns e3=>exact uF ha hg hm he hpl pins s σ H Q I ⟨G,ow,δ,d,R,by unfold dCall;rw [e1];exact e2,q⟩
  ·next e3 =>
   obtain ⟨qs,e4,e5⟩:=bind1 e2
   by_cases h64:l.length < 64
   ·rw [if_pos h64] at e5
    by_cases h1:l.length=1
    ·rw [if_pos h1] at e5
     cases e5
     refine oJ zO hg hm bs ha (by decide) (by decide) he hpl pins s σ H Q I ⟨G,ow,δ,_,R,e1,fun vs H' sm r'=>?_⟩
     cases r' with
     | cons r1 r2 =>
      cases r2
      obtain ⟨a,ys,rfl,hx,hr⟩:=r1.lstE
      obtain ⟨hp,hl⟩:=DX e4 hr
      obtain ⟨y,rfl⟩:∃ y,ys=[y]:=by
       have:=hr.length
       rw [h1] at this
       exact List.length_eq_one_iff.mp this
      refine ⟨a,y,rfl,hx,fun l0 hn=>q _ _ (sm.trans (dN hn _)) (.inr ⟨_,_,_,rfl,rfl,sm.free hn,dg,?_⟩)⟩
      exact RAs.flat (by rw [hl];exact BZ qs) (hr.same (dN hn _))
    ·rw [if_neg h1] at e5
     cases e5
     refine oJ zN hg hm bs ha (by decide) (by decide) he hpl pins s σ H Q I ⟨G,ow,δ,_,R,e1,fun vs H' sm r'=>?_⟩
     cases r' with
     | cons r1 r2 =>
      cases r2
      obtain ⟨a,ys,rfl,hx,hr⟩:=r1.lstE
      obtain ⟨hp,hl⟩:=DX e4 hr
      have el:ys.length=l.length:=hr.length
      have h2:2 ≤ ys.length:=by
       rcases jH ys.length 2 with z | z
       ·have:l.length=0:=by omega
        have:=List.length_eq_zero_iff.mp this
        subst this
        cases e3
       ·exact z
      refine ⟨a,ys,qs,rfl,hx,h2,by omega,hp,fun l0 hn=>q _ _ (sm.trans (dN hn _)) (.inr ⟨_,_,_,rfl,rfl,sm.free hn,dg,?_⟩)⟩
      rw [el]
      have fl0:flats l=true:=by rw [hl];exact BZ qs
      have hr2:=hr.same (dN hn (.lst ((m8 l.length (ltP qs)).map fun i=>ys.getD i .non)))
      generalize m8 l.length (ltP qs)=is at hr2 ⊢
      clear e3 e4 hx h2 hp hl e1 hf
      have:∀ (is:List Nat) (H2:Hp),RAs X.K ok1 true H2 ys l→RAs X.K (fun b=>okN H b∧b ≠ l0) false H2 (is.map fun i=>ys.getD i .non) (is.map fun i=>l.getD i .none):=fun is H2 hr=>by
       induction is with
       | nil=>exact .nil
       | cons i is ih=>exact .cons (RA.flat (wM fl0 i) (zP hr i)) ih
      exact this is _ hr2
   ·rw [if_neg h64] at e5;cases e5
 ·cases e2
end XS
namespace XS
open PySem PySem.Spec PySem.W PyProof.Rows
section
variable {prog:Program} {w:World} {A:Around} {E:Value→Shared→Prop} {s:Shared}
structure PL (h:Heap) (D I l:Addr) (its:Array Value) (vs:List (L2.Key × Value)) (i:Nat):Prop where
 iter:h.IsListIter I l i
 lst:h.IsList l its
 prs:∀ (j:Nat) (u:Value),its[j]? = some u→∃ (a:Addr) (n:Int) (t:Tok) (v:Value),u=Value.ref a∧IsTup h a #[Value.int n t,v]∧vs[j]? = some (Sum.inl n,v)∧a ≠ D∧a ≠ I
 ne:l ≠ D∧l ≠ I∧D ≠ I
end
end XS
namespace XS
open PySem PySem.Spec PySem.W PyProof.Rows
section
variable {prog:Program} {w:World} {A:Around} {E:Value→Shared→Prop} {s:Shared}
end
end XS
namespace XS
open PySem PySem.Spec PySem.W PyProof.Rows L2 My D3
section
variable {X:Cx} {pins:List (Addr × Obj)} {σ:L2.St} {H:Hp} {s:Shared}
end
end XS
namespace XS
open PySem PySem.Spec PySem.W PyProof.Rows L2 My D3
section
variable {X:Cx} {fl:List Fl} {a:Expr} {f:FE} {pos:Pos} {ta:TE}
theorem Nv {j pos'} (ha:PE X a ta):PC X .IsNot a (.Constant (.bool false) j pos') (fun σ H Q=>ta σ H fun x H1=>∃ b,x = .bl b∧Q (.bl b) H1):=by
 intro pins s σ H Q I h
 refine thn (ha pins s σ H _ I h) fun v s1 ⟨x,H1,I1,r1,q1⟩=>?_
 obtain ⟨b,rfl,q⟩:=q1
 cases r1
 refine Constant_bool ?_
 cases b
 ·exact wpAny_pure ⟨.bl false,H1,I1,rfl,q⟩
 ·exact wpAny_pure ⟨.bl true,H1,I1,rfl,q⟩
theorem Nx {j pos'} (h:DE X fl .P a f):DT X fl (.Compare a [.IsNot] [.Constant (.bool false) j pos'] pos) (aY (dUn JG f)):=PT.imp (zj (Nv h)) fun σ H Q h=>by
 obtain ⟨G,ow,δ,b,R,hf,q⟩:=h
 obtain ⟨y,e0,e3⟩:=bind1 hf
 obtain ⟨x,e1,e2⟩:=bind1 e0
 cases x <;> first | (cases e2;done) | skip
 cases e2
 cases e3
 refine ⟨G,ow,δ,_,R,e1,fun v H1 s1 r1=>?_⟩
 obtain rfl:=RA.blE r1
 exact ⟨_,rfl,_,rfl,q H1 s1⟩
end
end XS
namespace D3
open PySem
def Yn:D→Option (List (Int × Int))
 | .dict kvs=>iiD kvs
 | _=>none
end D3
namespace D3
open PySem
end D3
namespace D3
open PySem
end D3
namespace D3
open PySem
end D3
namespace D3
open PySem
def dsB (S:List Int):D:=.dict (S.map fun i=>(.int i,.bool true))
def bsD:List (D × D)→Option (List Int)
 | []=>some []
 | (.int i,.bool true) :: r=>(bsD r).map (i :: ·)
 | _=>none
def Hy:D→Option (List Int)
 | .dict kvs=>bsD kvs
 | _=>none
def xW:D→D→Option D:=fun y x=>(Hy x).bind fun S=>match y with
 | .int i=>some (.bool (decide (i ∈ S)))
 | .none=>some (.bool false)
 | _=>none
def wN (S:List Int) (i:Int):List Int:=if i ∈ S then S else S++[i]
def B_ (i:Nat) (fk:FE):FS:=fun δ=>(aF i δ).bind fun x=>(fk δ).bind fun y=>(Hy x).bind fun S=>match y with
 | .int k=>if S.length < 1000000 then some (.nx (δ.set i (some (.d (dsB (wN S k)))))) else none
 | _=>none
theorem Gn:∀ S:List Int,bsD (S.map fun i=>((.int i,.bool true):D × D))=some S
 | []=>rfl
 | i :: S=>by
  rw [bI,bsD,Gn S]
  rfl
theorem zQ (S:List Int):Hy (dsB S)=some S:=Gn S
end D3
namespace D3
open PySem
def scD:List D→Bool
 | []=>true
 | .int _ :: r=>scD r
 | .none :: r=>scD r
 | _=>false
def tvD:D→Bool
 | .none=>true
 | .tuple ds=>scD ds
 | _=>false
def Hz:List (D × D)→Option (List (Int × D))
 | []=>some []
 | (.int i,d) :: r=>if tvD d=true then (Hz r).map ((i,d) :: ·) else none
 | _=>none
def vd:D→Option (List (Int × D))
 | .dict kvs=>Hz kvs
 | _=>none
def tvP (S:List (Int × D)):List (D × D):=S.map fun q=>(.int q.1,q.2)
def dtv (S:List (Int × D)):D:=.dict (tvP S)
def d7 (S:List (Int × D)) (i:Int):Option D:=(S.find? fun q=>decide (q.1=i)).map (·.2)
def Ca:D→D→Option D:=fun y x=>(vd x).bind fun S=>match y with
 | .int i=>some (.bool (d7 S i).isSome)
 | _=>none
def tU:D→D→Option D:=fun y x=>(vd x).bind fun S=>match y with
 | .int i=>some (.bool (!(d7 S i).isSome))
 | _=>none
def pJ:D→D→Option D:=fun x y=>(vd x).bind fun S=>match y with
 | .int i=>d7 S i
 | _=>none
def wO (fk:FE):FE:=fun δ=>(fk δ).bind fun y=>match y with
 | .int i=>some (dtv [(i,.none)])
 | _=>none
def nC (S:List (Int × D)) (k:Int) (d:D):List (Int × D):=if (d7 S k).isSome=true then S else S++[(k,d)]
def wQ (i:Nat) (fk fv:FE):FS:=fun δ=>(aF i δ).bind fun x=>(fk δ).bind fun y=>(fv δ).bind fun z=>(vd x).bind fun S=>match y with
 | .int k=>if tvD z=true∧S.length < 1000000 then some (.nx (δ.set i (some (.d (dtv (nC S k z)))))) else none
 | _=>none
def tvA (S:List (Int × D)):Bool:=S.all fun q=>tvD q.2
theorem rN:∀ {S:List (Int × D)},tvA S=true→vd (dtv S)=some S
 | [],_=>rfl
 | q :: S,h=>by
  rw [tvA,n_,aW] at h
  have ih:=rN (S:=S) h.2
  unfold vd dtv tvP at ih
  unfold vd dtv tvP
  dsimp only at ih
  rw [bI]
  dsimp only
  rw [Hz,if_pos h.1,ih]
  rfl
theorem tV:∀ {kvs:List (D × D)} {S:List (Int × D)},Hz kvs=some S→tvA S=true∧kvs=tvP S
 | [],S,h=>by cases h;exact ⟨rfl,rfl⟩
 | (a,b) :: r,S,h=>by
  unfold Hz at h
  split at h
  ·next e=>cases e
  ·next e =>
   cases e
   split at h
   ·next hd =>
    cases e3:Hz r with
    | none=>rw [e3] at h;cases h
    | some S' =>
     rw [e3] at h
     cases h
     obtain ⟨h1,h2⟩:=tV e3
     refine ⟨?_,?_⟩
     ·rw [tvA,n_,aW]
      exact ⟨hd,h1⟩
     ·rw [h2]
      rfl
   ·cases h
  ·cases h
theorem Ny {S:List (Int × D)} {k:Int} {d:D} (h:tvA S=true) (hd:tvD d=true):tvA (nC S k d)=true:=by
 unfold nC
 split
 ·exact h
 ·unfold tvA at h ⊢
  rw [List.all_append,h]
  simp [hd]
end D3
namespace D3
open PySem
def tW:List D→Option D
 | [x]=>(vd x).bind fun S=>if S.length < 64 then some (.list ((oK (S.map (·.1))).map .int)) else none
 | _=>none
end D3
namespace D3
open PySem
def Gp (F:List D→Option D) (as:List D):Option D:=match as.getLast? with
 | some (.list _)=>F as
 | _=>none
def uI (F:List D→Option D) (fa:FA):FE:=fun δ=>(fa δ).bind (Gp F)
theorem DY {F:List D→Option D} {as:List D} {d:D} (h:Gp F as=some d):∃ ds l,as=ds++[.list l]∧F as=some d:=by
 unfold Gp at h
 split at h
 ·next l e =>
  obtain ⟨ds,rfl⟩:=List.getLast?_eq_some_iff.mp e
  exact ⟨ds,l,rfl,h⟩
 ·cases h
end D3
namespace L2
open PySem PySem.Spec PyProof.Rows
section
variable {κ:Type} [DecidableEq κ]
def mJ (kvs:List (κ × V)) (k:κ):Option V:=(kvs.find? fun kv=>decide (kv.1=k)).map (·.2)
def putK (kvs:List (κ × V)) (k:κ) (v:V):List (κ × V) :=
 if (kvs.any fun kv=>decide (kv.1=k))=true then kvs.map (fun kv=>if kv.1=k then (kv.1,v) else kv) else kvs++[(k,v)]
theorem qJ {p:κ × V} {r:List (κ × V)} {k:κ} (e:p.1=k):mJ (p :: r) k=some p.2:=by simp [mJ,gw,e]
theorem qQ {p:κ × V} {r:List (κ × V)} {k:κ} (e:¬ p.1=k):mJ (p :: r) k=mJ r k:=by simp [mJ,gw,e]
theorem wR (k:κ):∀ kvs:List (κ × V),(kvs.any fun kv=>decide (kv.1=k))=(mJ kvs k).isSome
 | []=>rfl
 | p :: r=>by
  rw [jV]
  by_cases e:p.1=k
  ·simp only [qJ e,dTr e,Bool.true_or,Option.isSome_some]
  ·rw [qQ e,dFa e,Bool.false_or];exact wR k r
theorem qW (kvs:List (κ × V)) (k:κ) (v:V):(putK kvs k v).length ≤ kvs.length + 1:=by
 unfold putK
 split
 ·rw [aJ];omega
 ·rw [bH,bN,iu];omega
theorem J5 {kvs:List (κ × V)} {k:κ} (v:V) (h:mJ kvs k=none):putK kvs k v=kvs++[(k,v)]:=by
 unfold putK
 rw [wR,h]
 exact if_neg (by decide)
theorem uf.isSome_eq {o:Option V} {u:Option Value} (r:uf o u):o.isSome=u.isSome:=by
 cases o with
 | none=>cases u with
  | none=>rfl
  | some _=>exact (show False from r).elim
 | some _=>cases u with
  | none=>exact (show False from r).elim
  | some _=>rfl
theorem uf.getD {o:Option V} {u:Option Value} {d:V} {d':Value} (r:uf o u) (rd:RelV d d'):RelV (o.getD d) (u.getD d'):=by
 cases o with
 | none=>cases u with
  | none=>exact rd
  | some _=>exact (show False from r).elim
 | some _=>cases u with
  | none=>exact (show False from r).elim
  | some _=>exact r
theorem KV.val {kvs:List (κ × V)} {vs:List (κ × Value)} (r:KV kvs vs) (k:κ):uf (mJ kvs k) (valueAt vs k):=by
 unfold KV at r
 induction r with
 | nil=>exact True.intro
 | @cons p q ps qs h t ih =>
  obtain ⟨h1,h2⟩:=h
  by_cases e:p.1=k
  ·have e':q.1=k:=h1.symm.trans e
   have b:valueAt (q :: qs) k=some q.2:=by simp [valueAt,gw,e']
   rw [qJ e,b];exact h2
  ·have e':¬ q.1=k:=fun z=>e (h1.trans z)
   have b:valueAt (q :: qs) k=valueAt qs k:=by simp [valueAt,gw,e']
   rw [qQ e,b];exact ih
theorem KV.any {kvs:List (κ × V)} {vs:List (κ × Value)} (r:KV kvs vs) (k:κ):(kvs.any fun kv=>decide (kv.1=k))=vs.any fun kv=>decide (kv.1=k):=by
 unfold KV at r
 induction r with
 | nil=>rfl
 | cons h t ih=>rw [jV,jV,ih,h.1]
theorem KV.repl {kvs:List (κ × V)} {vs:List (κ × Value)} (r:KV kvs vs) (k:κ) {y:V} {u:Value} (ry:RelV y u) :
 KV (kvs.map fun kv=>if kv.1=k then (kv.1,y) else kv) (vs.map fun kv=>if kv.1=k then (kv.1,u) else kv):=by
 unfold KV at r ⊢
 induction r with
 | nil=>exact .nil
 | @cons p q ps qs h t ih =>
  rw [bI,bI]
  refine .cons ?_ ih
  obtain ⟨h1,h2⟩:=h
  by_cases e:p.1=k
  ·rw [if_pos e,if_pos (h1.symm.trans e)];exact ⟨h1,ry⟩
  ·rw [if_neg e,if_neg (fun z=>e (h1.trans z))];exact ⟨h1,h2⟩
theorem KV.put {kvs:List (κ × V)} {vs:List (κ × Value)} (r:KV kvs vs) (k:κ) {y:V} {u:Value} (ry:RelV y u):KV (putK kvs k y) (stored vs k u):=by
 unfold putK stored
 rw [r.any k]
 by_cases e:(vs.any fun kv=>decide (kv.1=k))=true
 ·rw [if_pos e,if_pos e];exact r.repl k ry
 ·rw [if_neg e,if_neg e];exact Paired.snoc r ⟨rfl,ry⟩
theorem KV.keys {kvs:List (κ × V)} {vs:List (κ × Value)} (r:KV kvs vs):kvs.map (·.1)=vs.map (·.1):=by
 unfold KV at r
 induction r with
 | nil=>rfl
 | cons h t ih=>rw [bI,bI,ih,h.1]
theorem KV.length {kvs:List (κ × V)} {vs:List (κ × Value)} (r:KV kvs vs):kvs.length=vs.length:=Paired.length r
end
theorem wU {P:Program} {w:World} {k:Key} {u:Value} (r:RelV (kV k) u):(eZ P w).is k u=true:=by
 cases k with
 | inl i=>obtain ⟨t,e⟩:=(show ∃ t,u=Value.int i t from r);subst e;exact Ay P w i t
 | inr x=>obtain ⟨t,e⟩:=(show ∃ t,u=Value.str x t from r);subst e;exact Az P w x t
theorem yN {P:Program} {w:World}:∀ {ks:List Key} {us:List Value},Vals (ks.map kV) us→ItemsAre (eZ P w) ks us
 | [],_,r=>by rw [oV] at r;cases r;exact .nil
 | k :: ks,_,r=>by
  rw [bI] at r
  cases r with
  | cons h t=>exact .cons (wU h) (yN t)
abbrev KT (H:Hp):List (List Key × V)→List (List Key × Addr × Value)→Prop:=Paired fun p q=>p.1=q.1∧H q.2.1=some (.tup (p.1.map kV))∧RelV p.2 q.2.2
theorem KT.val {H:Hp} {kvs:List (List Key × V)} {xs:List (List Key × Addr × Value)} (r:KT H kvs xs) (k:List Key):uf (mJ kvs k) ((atKey xs k).map (·.2)):=by
 induction r with
 | nil=>exact True.intro
 | @cons p q ps qs h t ih =>
  obtain ⟨h1,_,h2⟩:=h
  by_cases e:p.1=k
  ·have e':q.1=k:=h1.symm.trans e
   have b:atKey (q :: qs) k=some q.2:=by simp [atKey,gw,e']
   rw [qJ e,b];exact h2
  ·have e':¬ q.1=k:=fun z=>e (h1.trans z)
   have b:atKey (q :: qs) k=atKey qs k:=by simp [atKey,gw,e']
   rw [qQ e,b];exact ih
theorem KT.repl {H:Hp} {kvs:List (List Key × V)} {xs:List (List Key × Addr × Value)} (r:KT H kvs xs) (k:List Key) {y:V} {u:Value} (ry:RelV y u) :
 KT H (kvs.map fun kv=>if kv.1=k then (kv.1,y) else kv) (xs.map (putAt k u)):=by
 induction r with
 | nil=>exact .nil
 | @cons p q ps qs h t ih =>
  rw [bI,bI]
  refine .cons ?_ ih
  obtain ⟨h1,h2,h3⟩:=h
  unfold putAt
  by_cases e:p.1=k
  ·rw [if_pos e,if_pos (h1.symm.trans e)];exact ⟨h1,h2,ry⟩
  ·rw [if_neg e,if_neg (fun z=>e (h1.trans z))];exact ⟨h1,h2,h3⟩
theorem KT.put {H:Hp} {kvs:List (List Key × V)} {xs:List (List Key × Addr × Value)} (r:KT H kvs xs) (k:List Key) {b:Addr} {y:V} {u:Value} (hb:H b=some (.tup (k.map kV))) (ry:RelV y u) :
 KT H (putK kvs k y) (storedH xs k b u):=by
 have e:(kvs.any fun kv=>decide (kv.1=k))=(atKey xs k).isSome:=by
  rw [wR,(r.val k).isSome_eq,kJ]
 unfold putK storedH
 rw [e]
 by_cases q:(atKey xs k).isSome=true
 ·rw [if_pos q,if_pos q];exact r.repl k ry
 ·rw [if_neg q,if_neg q];exact Paired.snoc r ⟨rfl,hb,ry⟩
theorem KT.keeps {H H':Hp} {kvs:List (List Key × V)} {xs:List (List Key × Addr × Value)} (r:KT H kvs xs) (ht:∀ b ys,H b=some (.tup ys)→H' b=some (.tup ys)):KT H' kvs xs :=
 Paired.mapP r fun _ _ z=>⟨z.1,ht _ _ z.2.1,z.2.2⟩
section
variable {P:Program} {w:World} {H:Hp} {h:Heap} {a:Addr}
theorem Qx {u:HO} (ok:HOk P w H h) (e:Rd H a u):gO P w H h a u:=e.ok ok
theorem uV {kvs:List (Key × V)} (ok:HOk P w H h) (e:Rd H a (.dK kvs)):kvs.length ≤ sizeLine∧(a == sysModules)=false∧∃ vs,KV kvs vs∧h.DictOf (eZ P w) a vs :=
 show gO P w H h a (.dK kvs) from Qx ok e
theorem J6 {kvs:List (Key × V)} (ok:HOk P w H h) (e:H a=some (.dK kvs)):kvs.length ≤ sizeLine∧(a == sysModules)=false∧∃ vs,KV kvs vs∧h.DictOf (eZ P w) a vs:=uV ok (.inl e)
theorem wV {ks:List Key} (ok:HOk P w H h) (e:H a=some (.tup (ks.map kV))):(tupleKind (eZ P w)).is h ks a:=by
 obtain ⟨_,its,r,o,h1,h2,n,h3⟩:=(show gO P w H h a (.tup (ks.map kV)) from ok a _ e)
 exact ⟨o,its.toArray,n,h1,h2,h3,by simpa using yN r⟩
theorem yO {kvs:List (List Key × V)} (ok:HOk P w H h) (e:Rd H a (.dT kvs)):kvs.length ≤ sizeLine∧(a == sysModules)=false ∧
 ∃ xs,KT H kvs xs∧h.DictOfH (tupleKind (eZ P w)) a xs:=by
 obtain ⟨z,y,xs,r,o,es,ep,h1,h2,h3,h4,h5⟩:=(show gO P w H h a (.dT kvs) from Qx ok e)
 refine ⟨z,y,xs,r,o,es,ep,h1,h2,h3,h4,fun x hx=>?_,h5⟩
 have all:∀ {l:List (List Key × V)} {m:List (List Key × Addr × Value)},KT H l m→∀ x ∈ m,(tupleKind (eZ P w)).is h x.1 x.2.1:=by
  intro l m q
  induction q with
  | nil=>intro x hx;exact nomatch hx
  | @cons p q ps qs hq t ih =>
   intro x hx
   rcases bA.mp hx with e | hx
   ·subst e
    exact wV ok (by rw [← hq.1];exact hq.2.1)
   ·exact ih x hx
 exact all r x hx
theorem VB {kvs:List (List Key × V)} (ok:HOk P w H h) (e:H a=some (.dT kvs)):kvs.length ≤ sizeLine∧(a == sysModules)=false ∧
 ∃ xs,KT H kvs xs∧h.DictOfH (tupleKind (eZ P w)) a xs:=yO ok (.inl e)
end
def xX (H:Hp) (a:Addr) (y:V) (r:Option V):Prop :=
 (∃ kvs k,Rd H a (.dK kvs)∧y=kV k∧r=mJ kvs k)∨∃ kvs k b,Rd H a (.dT kvs)∧y = .ref b∧H b=some (.tup (k.map kV))∧r=mJ kvs k
def HB (H:Hp) (a:Addr) (y v:V) (H':Hp):Prop :=
 (∃ kvs k,H a=some (.dK kvs)∧y=kV k∧kvs.length < sizeLine∧H'=upd H a (.dK (putK kvs k v))) ∨
 ∃ kvs k b,H a=some (.dT kvs)∧y = .ref b∧H b=some (.tup (k.map kV))∧kvs.length < sizeLine∧H'=upd H a (.dT (putK kvs k v))
theorem xX.t {H:Hp} {a b:Addr} {kvs:List (List Key × V)} {k:List Key} (e:H a=some (.dT kvs)) (eb:H b=some (.tup (k.map kV))):xX H a (.ref b) (mJ kvs k):=.inr ⟨kvs,k,b,.inl e,rfl,eb,rfl⟩
theorem HB.k {H:Hp} {a:Addr} {kvs:List (Key × V)} {k:Key} {v:V} (e:H a=some (.dK kvs)) (hl:kvs.length < sizeLine):HB H a (kV k) v (upd H a (.dK (putK kvs k v))):=.inl ⟨kvs,k,e,rfl,hl,rfl⟩
theorem HB.t {H:Hp} {a b:Addr} {kvs:List (List Key × V)} {k:List Key} {v:V} (e:H a=some (.dT kvs)) (eb:H b=some (.tup (k.map kV))) (hl:kvs.length < sizeLine) :
 HB H a (.ref b) v (upd H a (.dT (putK kvs k v))):=.inr ⟨kvs,k,b,e,rfl,eb,hl,rfl⟩
section
variable {X:Cx} {pins:List (Addr × Obj)} {σ:St} {H:Hp} {s:Shared} {a:Addr} {y v:V} {u r:Value} {o:Option V} {A:Around} {E:Value→Shared→Prop}
theorem Inv.big (I:Inv X pins σ H s):sysModules < s.heap.objs.size:=by
 have h:mainGlobals < s.heap.objs.size:=(I.mod.glob.keeps I.bk).lt
 exact jG (by decide) h
theorem HD {Q:Value→Shared→Prop} (hu:A.units + 1 < cLine) (I:Inv X pins σ H s) (g:xX H a y (some v)) (ry:RelV y u) (h:∀ w' s',Inv X pins σ H s'→RelV v w'→Q w' s') :
 wpAny (model X.prog X.w) A (getItem (.ref a) u) Q E s:=by
 rcases g with ⟨kvs,k,e,ey,l⟩ | ⟨kvs,k,b,e,ey,eb,l⟩
 ·subst ey
  obtain ⟨z,hd,vs,rel,dd⟩:=uV I.hok e
  obtain ⟨w',hw,rw'⟩:=uf.some_of (v:=v) (o:=valueAt vs k) (by rw [l];exact rel.val k)
  exact wpAny_getItem_of (wU ry) dd.mapOf hw (h w' _ (I.tok _) rw')
 ·subst ey
  cases (show u=Value.ref b from ry)
  obtain ⟨z,hd,xs,rel,dd⟩:=yO I.hok e
  obtain ⟨w',hw,rw'⟩:=uf.some_of (v:=v) (o:=(atKey xs k).map (·.2)) (by rw [l];exact rel.val k)
  obtain ⟨p,hp,hp2⟩:=Option.map_eq_some_iff.mp hw
  refine wpAny_getItem_heap (tupleKind_room_in1 hu) (wV I.hok eb) dd hp ?_
  rw [hp2]
  exact h w' _ (I.tok _) rw'
theorem VD {Q:Value→Shared→Prop} (hu:A.units + 1 < cLine) (I:Inv X pins σ H s) (g:xX H a y o) (ry:RelV y u) (h:∀ s',Inv X pins σ H s'→Q (.bool o.isSome) s') :
 wpAny (model X.prog X.w) A (compareOp .In u (.ref a)) Q E s:=by
 rcases g with ⟨kvs,k,e,ey,l⟩ | ⟨kvs,k,b,e,ey,eb,l⟩
 ·subst ey
  obtain ⟨z,hd,vs,rel,dd⟩:=uV I.hok e
  refine wpAny_in_of (wU ry) hd dd.mapOf ?_
  rw [← (rel.val k).isSome_eq,← l]
  exact h _ (I.tok _)
 ·subst ey
  cases (show u=Value.ref b from ry)
  obtain ⟨z,hd,xs,rel,dd⟩:=yO I.hok e
  refine wpAny_in_heap (tupleKind_room_in1 hu) (wV I.hok eb) hd dd ?_
  have q:=(rel.val k).isSome_eq
  rw [kJ] at q
  rw [← q,← l]
  exact h _ (I.tok _)
theorem Nz {Q:Value→Shared→Prop} (hu:A.units + 1 < cLine) (I:Inv X pins σ H s) (g:xX H a y o) (ry:RelV y u) (h:∀ s',Inv X pins σ H s'→Q (.bool (!o.isSome)) s') :
 wpAny (model X.prog X.w) A (compareOp .NotIn u (.ref a)) Q E s:=by
 rcases g with ⟨kvs,k,e,ey,l⟩ | ⟨kvs,k,b,e,ey,eb,l⟩
 ·subst ey
  obtain ⟨z,hd,vs,rel,dd⟩:=uV I.hok e
  refine wpAny_notIn_of (wU ry) hd dd.mapOf ?_
  rw [← (rel.val k).isSome_eq,← l]
  exact h _ (I.tok _)
 ·subst ey
  cases (show u=Value.ref b from ry)
  obtain ⟨z,hd,xs,rel,dd⟩:=yO I.hok e
  refine wpAny_notIn_heap (tupleKind_room_in1 hu) (wV I.hok eb) hd dd ?_
  have q:=(rel.val k).isSome_eq
  rw [kJ] at q
  rw [← q,← l]
  exact h _ (I.tok _)
theorem vD {h':Heap} {t':Nat} {ob:HO} (I:Inv X pins σ H s) (mu:Mut (H a)) (hs:Heap.SameBut a s.heap h') (he:∃ q,h'.get? a=some q) (new:gO X.prog X.w (upd H a ob) h' a ob) :
 Inv X pins σ (upd H a ob) { s with heap:=h',toks:=t' } :=
 I.write (x:=a) (e:=a) mu (.inl rfl) (fun b q hb z=>(hs.2 b hb).trans z) he new
theorem D_ {P:Program} {w:World} {H':Hp} {h':Heap} {kvs:List (Key × V)} {vs:List (Key × Value)} (z:kvs.length ≤ sizeLine) (hd:(a == sysModules)=false) (rel:KV kvs vs) (dd:h'.DictOf (eZ P w) a vs) :
 gO P w H' h' a (.dK kvs):=⟨z,hd,vs,rel,dd⟩
theorem HJ {H':Hp} {Q:Unit→Shared→Prop} (hu:A.units + 1 < cLine) (I:Inv X pins σ H s) (g:HB H a y v H') (ry:RelV y u) (rv:RelV v r) (h:∀ s',Inv X pins σ H' s'→Q () s') :
 wpAny (model X.prog X.w) A (setItem (.ref a) u r) Q E s:=by
 rcases g with ⟨kvs,k,e,ey,l,eH⟩ | ⟨kvs,k,b,e,ey,eb,l,eH⟩
 ·subst ey eH
  obtain ⟨z,hd,vs,rel,dd⟩:=J6 I.hok e
  have hz:vs.length ≤ sizeLine:=by rw [← rel.length];exact z
  have hl:(putK kvs k v).length ≤ sizeLine:=by have:=qW kvs k v;omega
  refine wpAny_setItem_pairs (hsz:=hz) (wU ry) dd fun h' dd' hs=>h _ ?_
  have he:∃ q,h'.get? a=some q:=let ⟨q,_,_,hq,_⟩:=dd';⟨q,hq⟩
  exact vD I (by rw [e];exact True.intro) hs he (D_ hl hd (rel.put k rv) dd')
 ·subst ey eH
  cases (show u=Value.ref b from ry)
  obtain ⟨z,hd,xs,rel,dd⟩:=VB I.hok e
  have hz:xs.length ≤ sizeLine:=by rw [← Paired.length rel];exact z
  have hl:(putK kvs k v).length ≤ sizeLine:=by have:=qW kvs k v;omega
  refine wpAny_setItem_heap (hsz:=hz) (tupleKind_room_in1 hu) (wV I.hok eb) dd fun h' dd' hs=>h _ ?_
  obtain ⟨q,es,ep,hq,h2,h3,h4,_,h5⟩:=dd'
  refine vD I (by rw [e];exact True.intro) hs ⟨q,hq⟩ ⟨hl,hd,_,(rel.put k eb rv).keeps fun c ys ec=>?_,q,es,ep,hq,h2,h3,h4,h5⟩
  rw [cJ (Fo ec e (fun z=>nomatch z))]
  exact ec
end
section
variable {X:Cx} {pins:List (Addr × Obj)} {σ:St} {H:Hp} {s:Shared} {a:Addr} {kvs:List (Key × V)} {k:Key} {u:Value} {A:Around} {E:Value→Shared→Prop}
end
def Sv (i:Expr):Prop:=∀ ov iv,subscripted i false ov iv=operate [ov,iv] (getItem ov iv)
theorem NK {prog:Program} {w:World} {A:Around} {E:Value→Shared→Prop} {s:Shared} {env:Env} {value slice:Expr} {pos:Pos} {T id:String} {Q:Value→Shared→Prop}
 (hl:typeLookup (.type T) "__getitem__" = pure (some (.builtin id))) (hs:Sv slice)
 (h:wpAny (model prog w) A (eval value env) (fun o s₁=>wpAny (model prog w) A (eval slice env) (fun i s₂=>s₂.TypeIs o T∧wpAny (model prog w) A (getItem o i) Q E s₂) E s₁) E s) :
 wpAny (model prog w) A (eval (.Subscript value slice pos) env) Q E s:=by
 refine Subscript_ (wpAny_mono h (fun o s₁ h₁=>wpAny_mono h₁ (fun i s₂ h₂=>?_) fun _ _ x=>x) fun _ _ x=>x)
 obtain ⟨hT,h₂⟩:=h₂
 unfold subscriptTail
 refine wpAny_bind ?_
 rw [getitemInPython_of_ne hT.not_modules]
 refine wpAny_bind (wpAny_specialOf hT hl ?_)
 have fin:wpAny (model prog w) A (subscripted slice false o i) (fun r s₃=>wpAny (model prog w) A (letTemporaryGo value o r >>= fun _=>pure r) Q E s₃) E s₂:=by
  rw [hs o i]
  exact wpAny_operating (wpAny_mono h₂ (fun r s₃ h₃=>wpAny_bind (wpAny_letTemporaryGo (wpAny_pure h₃))) fun _ _ x=>x)
 first
  | exact wpAny_pure (wpAny_bind fin)
  | exact wpAny_bind (wpAny_pure (wpAny_bind fin))
  | exact wpAny_bind fin
theorem Cd {X:Cx} {pins:List (Addr × Obj)} {σ:St} {H:Hp} {s:Shared} {a:Addr} {y:V} {o:Option V} (I:Inv X pins σ H s) (g:xX H a y o):s.TypeIs (.ref a) "dict" := by
 rcases g with ⟨kvs,k,e,_,_⟩ | ⟨kvs,k,b,e,_,_,_⟩
 ·obtain ⟨_,_,vs,_,dd⟩:=uV I.hok e
  exact dd.typeIs
 ·obtain ⟨_,_,xs,_,dd⟩:=yO I.hok e
  exact dd.typeIs
def VF (td ty:TE):TE:=fun σ H Q=>td σ H fun x H1=>ty σ H1 fun y H2=>∃ a v,x = .ref a∧xX H2 a y (some v)∧Q v H2
section
variable {X:Cx} {o i e value:Expr} {pos pos' tpos:Pos} {td ty tv:TE}
theorem NP (hu:X.A.units + 1 < cLine) (ho:PE X o td) (hi:PE X i ty) (hs:Sv i):PE X (.Subscript o i pos) (VF td ty):=by
 intro pins s σ H Q I h
 refine NK PySem.F.slot_dict_getitem.lookup hs (thn (ho pins s σ H _ I h) fun u s1 ⟨x,H1,I1,rx,q1⟩=>thn (hi pins s1 σ H1 _ I1 q1) fun iv s2 ⟨y,H2,I2,ry,a,v,ex,g,q2⟩=>?_)
 subst ex
 obtain rfl:u=Value.ref a:=rx
 exact ⟨Cd I2 g,HD hu I2 g ry fun w' s3 I3 rw'=>⟨v,H2,I3,rw',q2⟩⟩
end
theorem vR {P:Program} {w:World} {H:Hp} (h:Heap) (hb:sysModules < h.objs.size):gO P w H (h.push { cls:=.type "dict", data:=.dict #[] }) h.objs.size (.dK []) :=
 ⟨fJ _,beq_eq_false_iff_ne.mpr (Ne.symm (bQ hb)),[],.nil,Heap.DictOf.new h⟩
section
variable {X:Cx} {pos:Pos}
end
def Ea:List (TE × TE)→St→Hp→(List (V × V)→Hp→Prop)→Prop
 | [],_,H,Q=>Q [] H
 | (tk,tv) :: r,σ,H,Q=>tk σ H fun x H1=>tv σ H1 fun y H2=>Ea r σ H2 fun ps H3=>Q ((x,y) :: ps) H3
abbrev VV:List (V × V)→List (Value × Value)→Prop:=Paired fun p q=>RelV p.1 q.1∧RelV p.2 q.2
def PPs (X:Cx) (pos:Pos) (keys:List (Option Expr)) (values:List Expr) (trs:List (TE × TE)):Prop :=
 ∀ (pins:List (Addr × Obj)) (s:Shared) (σ:St) (H:Hp) (Q:List (V × V)→Hp→Prop),Inv X pins σ H s→Ea trs σ H Q →
  wpAny (model X.prog X.w) X.A (evalPairs (pairTrees keys values X.env pos)) (fun vs s'=>∃ ps H',Inv X pins σ H' s'∧VV ps vs∧Q ps H') X.xe s
theorem NQ {X:Cx} {pos:Pos}:PPs X pos [] [] []:=fun pins s σ H Q I h=>pairTrees_nil_walk ⟨[],H,I,.nil,h⟩
theorem J7 {X:Cx} {pos:Pos} {k v:Expr} {ks:List (Option Expr)} {vs:List Expr} {tk tv:TE} {trs:List (TE × TE)} (hk:PE X k tk) (hv:PE X v tv) (hr:PPs X pos ks vs trs) :
 PPs X pos (some k :: ks) (v :: vs) ((tk,tv) :: trs):=fun pins s σ H Q I h =>
 pairTrees_cons_walk (thn (hk pins s σ H _ I h) fun u s1 ⟨x,H1,I1,rx,q1⟩=>thn (hv pins s1 σ H1 _ I1 q1) fun w2 s2 ⟨y,H2,I2,ry,q2⟩ =>
  thn (hr pins s2 σ H2 _ I2 q2) fun ws s3 ⟨ps,H3,I3,rel,q3⟩=>⟨(x,y) :: ps,H3,I3,.cons ⟨rx,ry⟩ rel,q3⟩)
def wW (kvs more:List (Key × V)):List (Key × V):=more.foldl (fun acc kv=>putK acc kv.1 kv.2) kvs
theorem KV.merge:∀ {more:List (Key × V)} {rs:List (Key × Value)} {kvs:List (Key × V)} {vs:List (Key × Value)},KV more rs→KV kvs vs→KV (wW kvs more) (merged vs rs):=by
 intro more rs kvs vs r
 unfold KV at r
 induction r generalizing kvs vs with
 | nil=>intro q;exact q
 | @cons p q ps qs h t ih =>
  intro r0
  have e:KV (putK kvs p.1 p.2) (stored vs q.1 q.2):=by
   have:=r0.put p.1 h.2
   rw [← h.1];exact this
  exact ih e
theorem rZ:∀ (more kvs:List (Key × V)),(wW kvs more).length ≤ kvs.length + more.length
 | [],kvs=>by show kvs.length ≤ kvs.length + 0;omega
 | p :: r,kvs=>by
  have h1:=rZ r (putK kvs p.1 p.2)
  have h2:=qW kvs p.1 p.2
  show (wW (putK kvs p.1 p.2) r).length ≤ _
  rw [bN];omega
theorem wX {P:Program} {w:World}:∀ {kvs:List (Key × V)} {ws:List (Value × Value)},VV (kvs.map fun kv=>(kV kv.1,kv.2)) ws→∃ rs,Carries (eZ P w) ws rs∧KV kvs rs
 | [],_,r=>by rw [oV] at r;cases r;exact ⟨[],True.intro,.nil⟩
 | p :: kvs,_,r=>by
  rw [bI] at r
  cases r with
  | @cons a b as bs h t =>
   obtain ⟨rs,c,q⟩:=wX (P:=P) (w:=w) t
   obtain ⟨b1,b2⟩:=b
   exact ⟨(p.1,b2) :: rs,⟨wU h.1,rfl,c⟩,.cons ⟨rfl,h.2⟩ q⟩
def VG (trs:List (TE × TE)):TE:=fun σ H Q=>∀ p,H p=none→Ea trs σ (upd H p (.dK [])) fun ps H2=>H2 p=some (.dK [])∧∃ kvs:List (Key × V),ps=kvs.map (fun kv=>(kV kv.1,kv.2))∧kvs.length ≤ 15∧Q (.ref p) (upd H2 p (.dK (wW [] kvs)))
theorem NT {X:Cx} {pos:Pos} {keys:List (Option Expr)} {values:List Expr} {trs:List (TE × TE)} (h:PPs X pos keys values trs) (hall:keys.all (·.isSome)=true) (hl:keys.length=values.length) (h0:keys ≠ [])
 (h15:keys.length ≤ 15):PE X (.Dict keys values pos) (VG trs):=by
 intro pins s σ H Q I q
 have hn:=I.hok.fresh (bh s.heap.objs.size)
 have I1:=I.laid (a:=s.heap.objs.size) (o:=.dK []) (h':=s.heap.push { cls:=.type "dict", data:=.dict #[] }) (t':=s.toks) (fun _ _ q=>Heap.get?_push_of_some _ q) (bh _) (vR s.heap I.big)
 refine wpAny_Dict_walk (knd:=eZ X.prog X.w) hall hl h0 h15 (thn (h pins _ σ _ _ I1 (q _ hn)) fun ws s2 ⟨ps,H2,I2,rel,e,kvs,ep,lk,q2⟩=>?_)
 subst ep
 obtain ⟨rs,c,rk⟩:=wX (P:=X.prog) (w:=X.w) rel
 obtain ⟨z,hd,vs0,r0,dd⟩:=J6 I2.hok e
 cases r0
 refine ⟨rs,c,dd,fun h' dd' hs=>⟨.ref s.heap.objs.size,_,?_,rfl,q2⟩⟩
 have hz:(wW [] kvs).length ≤ sizeLine:=by
  have h1:=rZ kvs []
  rw [iu] at h1
  rw [sizeLine_eq];omega
 have he:∃ q,h'.get? s.heap.objs.size=some q:=let ⟨q,_,_,hq,_⟩:=dd';⟨q,hq⟩
 exact vD I2 (by rw [e];exact True.intro) hs he (D_ hz hd (rk.merge .nil) dd')
structure M1 (X:Cx) (o:Expr) (m:Str) (apos:Pos) (e:Expr) (cpos:Pos):Prop where
 base:attributeBase o m X.env (eval o X.env)=eval o X.env
 few:((backTo cpos (starEach [e] X.env)).all (fun x=>!x.1) && (backToKw cpos (keywordEach [] X.env)).all (fun x=>x.1.isSome)
  && decide (([e]:List Expr).length + ([]:List Keyword).length + (if ([]:List Keyword).isEmpty then 0 else 1) < 30))=true
 line:(apos.endLine == cpos.line)=true
 trees:backTo cpos (starEach [e] X.env)=[(false,eval e X.env)]
structure M2 (X:Cx) (o:Expr) (m:Str) (apos:Pos) (e f:Expr) (cpos:Pos):Prop where
 base:attributeBase o m X.env (eval o X.env)=eval o X.env
 few:((backTo cpos (starEach [e,f] X.env)).all (fun x=>!x.1) && (backToKw cpos (keywordEach [] X.env)).all (fun x=>x.1.isSome)
  && decide (([e,f]:List Expr).length + ([]:List Keyword).length + (if ([]:List Keyword).isEmpty then 0 else 1) < 30))=true
 line:(apos.endLine == cpos.line)=true
 trees:backTo cpos (starEach [e,f] X.env)=[(false,eval e X.env),(false,eval f X.env)]
def IsD (H:Hp) (a:Addr):Prop:=(∃ kvs,Rd H a (.dK kvs))∨∃ kvs,Rd H a (.dT kvs)
theorem Sw {X:Cx} {pins:List (Addr × Obj)} {σ:St} {H:Hp} {s:Shared} {a:Addr} (I:Inv X pins σ H s) (d:IsD H a) :
 s.TypeIs (.ref a) "dict" ∧ (∀ b,Value.ref a = .ref b→∃ ob,s.heap.get? b=some ob∧ob.dict=none)∧(a == sysModules)=false:=by
 rcases d with ⟨kvs,e⟩ | ⟨kvs,e⟩
 ·obtain ⟨_,hd,vs,_,dd⟩:=uV I.hok e
  refine ⟨dd.typeIs,fun b q=>?_,hd⟩
  cases q
  obtain ⟨ob,_,_,h1,h2,_⟩:=dd
  exact ⟨ob,h1,h2.2.1⟩
 ·obtain ⟨_,hd,xs,_,dd⟩:=yO I.hok e
  refine ⟨dd.typeIs,fun b q=>?_,hd⟩
  cases q
  obtain ⟨ob,_,_,h1,h2,_⟩:=dd
  exact ⟨ob,h1,h2.2.1⟩
section
variable {X:Cx} {pins:List (Addr × Obj)} {σ:St} {H:Hp} {s:Shared} {a:Addr} {y d:V} {u r:Value} {o:Option V} {A:Around} {E:Value→Shared→Prop}
end
section
variable {X:Cx} {o e f:Expr} {apos cpos:Pos} {td ty tx:TE}
end
section
variable {X:Cx} {pins:List (Addr × Obj)} {σ:St} {H:Hp} {s:Shared} {a:Addr} {kvs:List (Key × V)} {A:Around} {E:Value→Shared→Prop}
end
section
variable {X:Cx} {pins:List (Addr × Obj)} {σ:St} {H:Hp} {s:Shared} {a:Addr} {y:V} {u:Value} {A:Around} {E:Value→Shared→Prop}
end
section
variable {κ:Type} [DecidableEq κ]
end
end L2
namespace XK
open PySem PySem.Spec PyProof.Rows L2 My D3
section
variable {K:PySem.W.Frag} {H:Hp}
theorem NZ {H H':Hp} {a:Addr} {u:HO} (s:Same H H') (h:L2.Rd H a u):L2.Rd H' a u:=by
 rcases h with h | ⟨o,h⟩
 ·exact .inl (s _ _ h)
 ·exact .inr ⟨o,s _ _ h⟩
end
section
variable {X:Cx} {fl:List Fl} {e a b c ke:Expr} {f fa fb fc fk:FE} {pos:Pos}
def VH:R2:=fun x y H Q=>∃ p o,y = .ref p∧xX H p x o∧Q (.bl o.isSome) H
def Gq:R2:=fun x y H Q=>∃ p o,y = .ref p∧xX H p x o∧Q (.bl (!o.isSome)) H
theorem Sx (hu:X.A.units + 64 < cLine):OpR X (compareOp .In) VH:=by
 intro pins s σ H x y v u Q I rx ry h
 obtain ⟨p,o,rfl,g,q⟩:=h
 obtain rfl:u=Value.ref p:=ry
 exact VD (by omega) I g rx fun s' I'=>⟨.bl o.isSome,H,I',rfl,q⟩
theorem HN (hu:X.A.units + 64 < cLine):OpR X (compareOp .NotIn) Gq:=by
 intro pins s σ H x y v u Q I rx ry h
 obtain ⟨p,o,rfl,g,q⟩:=h
 obtain rfl:u=Value.ref p:=ry
 exact Nz (by omega) I g rx fun s' I'=>⟨.bl (!o.isSome),H,I',rfl,q⟩
theorem Gs:∀ (l:List Value) (ns:List Int),l.length=ns.length→(∀ (j:Nat) (v:Value),l[j]? = some v→∃ n t,ns[j]? = some n∧v=Value.int n t)→IntsAre l ns
 | [],[],_,_=>.nil
 | [],_ :: _,h,_=>by simp at h
 | _ :: _,[],h,_=>by simp at h
 | v :: l,n :: ns,h,g=>by
  obtain ⟨n',t,e1,e2⟩:=g 0 v rfl
  cases e1
  subst e2
  exact .cons _ _ (Gs l ns (by simpa using h) fun j v hv=>by simpa using g (j + 1) v (by simpa using hv))
end
end XK
namespace XK
open PySem PySem.Spec PyProof.Rows L2 My D3
theorem hu1 {n:Nat} (h:n + 64 < cLine):n + 1 < cLine:=by omega
section
variable {K:PySem.W.Frag} {fl:List Fl}
end
def VJ:V→V→V→Hp→(Hp→Prop)→Prop:=fun o i v H Q=>∃ p kvs k,o = .ref p∧i=kV k∧H p=some (.dK kvs)∧kvs.length < sizeLine∧Q (upd H p (.dK (putK kvs k v)))
section
variable {X:Cx} {fl:List Fl} {e a b c ke:Expr} {f fa fb fc fk:FE} {pos:Pos}
theorem J8 (hu:X.A.units + 1 < cLine):Rg X VJ:=by
 intro pins s σ H o i v ov iv u Q I ro ri rv h
 obtain ⟨p,kvs,k,rfl,rfl,hp,hl,q⟩:=h
 cases ro
 exact HJ hu I (HB.k hp hl) ri rv fun s' I'=>⟨_,I',q⟩
end
end XK
namespace XK
open PySem PySem.Spec PyProof.Rows L2 My D3
section
variable {X:Cx} {pins:List (Addr × Obj)} {σ:L2.St} {H H':Hp} {s:Shared} {a:Addr} {kvs:List (Key × V)} {o:Obj}
end
section
variable {K:PySem.W.Frag} {H:Hp} {a:Addr} {kvs:List (Key × V)} {o:Obj}
end
section
variable {X:Cx} {fl fl':List Fl} {e b c elt tg iter:Expr} {es ifs:List Expr} {k:Kd} {f fa fb fc fx:FE} {ft gt:FT} {pos:Pos} {scope:Scope} {ix L TT:List Nat} {fi:FA} {g:FG}
end
end XK
namespace XK
open PySem PyProof.Rows
abbrev Xz (h:Heap) (z a0 TI TO:Addr) (b:Bool):Prop :=
 h.get? z=some { cls:=.type "zip", dict:=none,data:=.fields #[rawInt a0,.bool b,.bool false,.ref TI,.ref TO],slots:=#[] }
section
variable {prog:Program} {w:World} {A:Around} {E:Value→Shared→Prop} {s:Shared}
end
end XK
namespace XK
open PySem PyProof.Rows
structure LZ (h:Heap) (base:Nat) (z TI TO i1 i2 l1 l2 S:Addr) (xs ys:Array Value) (i:Nat) (acc:Array Value):Prop where
 ti:IsPair h TI (.ref i1) (.ref i2)
 j1:h.IsListIter i1 l1 i
 j2:h.IsListIter i2 l2 i
 q1:h.IsList l1 xs
 q2:h.IsList l2 ys
 zz:(i=0∧IsZip h z TI TO .none∧∃ a b,IsPair h TO a b)∨∃ a0 b o0,base ≤ a0∧Xz h z a0 TI TO b∧h.get? a0=some o0
 sz:base ≤ h.objs.size
 al:acc.size=i
 ac:∀ j,j < i→∃ a x y,acc[j]? = some (.ref a)∧base ≤ a∧xs[j]? = some x∧ys[j]? = some y∧IsPair h a x y
 inj:∀ (j j':Nat) (a:Addr),acc[j]? = some (.ref a)→acc[j']? = some (.ref a)→j=j'
 ss:∃ c,h.get? S=some { cls:=.type "list", dict:=none,data:=.seq acc c,slots:=#[] }
section
variable {prog:Program} {w:World} {A:Around} {R:Result→Shared→Prop} {z TI TO i1 i2 l1 l2 S:Addr} {xs ys:Array Value} {base:Nat}
end
end XK
namespace XK
open PySem PyProof.Rows
section
variable {prog:Program} {w:World} {A:Around} {E:Value→Shared→Prop} {s:Shared}
end
end XK
namespace XK
open PySem PySem.Spec PyProof.Rows L2 My D3
section
variable {X:Cx} {fl:List Fl} {a b:Expr} {f g:FE} {p p2 pos pos2:Pos}
end
end XK
namespace XK
open PySem PyProof.Rows
section
variable {prog:Program} {w:World} {A:Around} {R:Result→Shared→Prop} {I:Addr} {fp wr:List Addr} {n:Nat} {P:Nat→Value→Prop} {St:Nat→Heap→Prop} {kw:List (Str × Value)}
end
section
variable {prog:Program} {w:World} {A:Around} {E:Value→Shared→Prop} {s:Shared}
end
end XK
namespace XK
open PySem PySem.Spec PyProof.Rows L2 My D3
section
variable {X:Cx} {fl:List Fl} {e z:Expr} {fa:FA} {fz:FE} {p pos kpos:Pos}
variable {a:Expr} {f:FE} {ta:TE}
end
end XK
namespace XG
open PySem PySem.Spec PyProof.Rows L2 My D3
def rm (H:Hp) (a:Addr):Hp:=fun b=>if b=a then none else H b
theorem J9 {H:Hp} {a b:Addr} (h:b ≠ a):rm H a b=H b:=by unfold rm;rw [if_neg h]
theorem J_ {H:Hp} {a:Addr}:rm H a a=none:=by unfold rm;rw [if_pos rfl]
theorem N5 (H:Hp) (a:Addr):Same (rm H a) H:=fun b u e=>by
 by_cases z:b=a
 ·rw [z,J_] at e;cases e
 ·rwa [J9 z] at e
def spG (K:PySem.W.Frag) (F:List D→Option D):Sp:=fun vs H Q _=>∃ (us:List V) (a:Addr) (xs:List V) (ds l:List D) (d:D),(vs=us++[.ref a]∧Tb H∧H a=some (.lst xs))∧(RAs K (fun b=>b ≠ a) true H us ds∧RAs K (fun b=>b ≠ a) true H xs l)∧F (ds++[PyData.list l])=some d ∧
 ∀ v H',Same (rm H a) H'→RA K (okN (rm H a)) false H' v d→Q v H'
def owG (p:Nat) (a:Addr):Ow:=⟨fun i=>if i=p then some a else none,fun _=>[]⟩
section
variable {P:Program} {w:World} {K:PySem.W.Frag} {mg:Str→Option Value} {base:Heap} {x:Str} {ps N:List Str} {st:Stmt} {k n:Nat} {fs:FS} {fl:List Fl}
theorem tX {p i:Nat} {a b:Addr} (h:owG p a i=some b):i=p∧a=b:=by
 have h:(if i=p then some a else none)=some b:=h
 by_cases z:i=p
 ·rw [if_pos z] at h;injection h with h;exact ⟨z,h⟩
 ·rw [if_neg z] at h;cases h
theorem okG {p:Nat} {a b:Addr} (h:b ≠ a):okA (owG p a) b:=⟨fun i z=>h (tX z).2.symm,fun i z=>by cases z⟩
theorem VL {H:Hp} {a:Addr} {xs:List V} (t:Tb H) (h:H a=some (.lst xs)):Tb (rm H a):=fun z hz=>by
 have:=t z hz
 rw [J9 (fun e=>by rw [e,h] at this;cases this)]
 exact this
theorem Eb {us:List V} {a:Addr} {xs:List V} {ds l:List D} {H:Hp} (p:Nat) (hp:∀ i,i < p→fl[i]? = some .A) (hq:fl[p]? = some .O) (hl:ds.length=p) (hN:p + 1 ≤ N.length) (tb:Tb H) (ha:H a=some (.lst xs)) (r:RAs K (fun b=>b ≠ a) true H us ds) (rx:RAs K (fun b=>b ≠ a) true H xs l) :
 Rel K fl ⟨rm H a,rm H a,fun _=>none,fun _=>[],VL tb ha⟩ (owG p a) (L2.start N (us++[.ref a])) H ((ds++[PyData.list l]).map (fun d=>some (.d d))++bF (N.length - (p + 1)) none):=by
 have hv:us.length=p:=by rw [r.length];exact hl
 have gp:((ds++[PyData.list l]).map (fun d=>some (U.d d))++bF (N.length - (p + 1)) none)[p]? = some (some (.d (.list l))):=by
  rw [cI,fZ,cC (by rw [aJ,hl];exact bh _),aJ,hl,Nat.sub_self]
  rfl
 have sg:(L2.start N (us++[V.ref a]))[p]? = some (some (.ref a)):=by
  unfold L2.start
  rw [cI,fZ,cC (by rw [aJ,hv];exact bh _),aJ,hv,Nat.sub_self]
  rfl
 have get:∀ i d,((ds++[PyData.list l]).map (fun d=>some (U.d d))++bF (N.length - (p + 1)) none)[i]? = some (some (.d d))→i=p∨(i < p∧ds[i]? = some d):=fun i d h=>by
  rcases sW i p with hi | hi | hi
  ·rw [cI,fZ,cL (by rw [aJ,hl];exact hi),aN] at h
   cases e:ds[i]? with
   | none=>rw [e] at h;cases h
   | some z=>rw [e] at h;cases h;exact .inr ⟨hi,rfl⟩
  ·exact .inl hi
  ·rw [cC (by rw [aJ,bH,hl];exact hi),eX] at h
   split at h <;> cases h
 refine ⟨Same.refl _,N5 H a,?_,fun i b h=>?_,fun i j b h1 h2=>(tX h1).1.trans (tX h2).1.symm,fun i h=>?_,fun i d h hn h2=>?_,fun i d h hn h2 h3=>?_,fun i b h=>(by cases h),fun i j b h=>(by cases h),fun i j b h=>(by cases h),fun i h=>rfl,fun i d hn h=>?_⟩
 ·unfold L2.start
  simp only [bH,aJ,cj,bN,iu,hv,hl]
 ·obtain ⟨rfl,rfl⟩:=tX h
  exact ⟨J_,.inl ⟨hq,J_⟩,xs,l,sg,ha,rx.imp (fun b z=>okG z) (fun z=>z),gp⟩
 ·have:i ≠ p:=fun z=>by rw [z,hq] at h;cases h
  show (if i=p then some a else none)=none
  rw [if_neg this]
 ·rcases get i d h with rfl | ⟨hi,e⟩
  ·have h2:(if i=i then some a else none)=none:=h2
   rw [if_pos rfl] at h2
   cases h2
  ·obtain ⟨v,e1,e2⟩:=r.get e
   refine ⟨v,?_,e2.imp (fun b z=>okG z) (fun z=>z)⟩
   unfold L2.start
   rw [cI,fZ,cL (by rw [aJ,hv];exact hi),aN,e1]
   rfl
 ·rcases get i d h with rfl | ⟨hi,e⟩
  ·have h3:(if i=i then some a else none)=none:=h3
   rw [if_pos rfl] at h3
   cases h3
  ·exact absurd (hp i hi) h2
 ·rcases get i d h with rfl | ⟨hi,e⟩
  ·rw [hq] at hn;cases hn
  ·rw [hp i hi] at hn;cases hn
theorem N6 {f:Addr} {fd:FuncData} {p:Nat} (Fn:FunD K x st f fd) (S:FnScope N ps (bx st)) (hps:ps.length=p + 1) (hp:∀ i,i < p→fl[i]? = some .A) (hq:fl[p]? = some .O) (hN:ps.length ≤ N.length)
 (hbody:∀ (f:Addr) (cdv:Value) (A:Around) (outer:List Env) (s:Shared) (H:Hp) (E:XK),Room k (A.deeper (envOfC x (bx st) s.heap.objs.size f cdv))→DSs (cx P w K mg base N x st f cdv A outer s H E) fl (iz st) fs) :
 FnOk P w K mg base CX0 (k + 1) f fd ps (spG K (fnD ps.length (N.length - ps.length) fs)):=by
 refine Fn.ok S (fun vs H Q E h=>?_) (fun cdv A outer s H vs Q E hr h=>?_)
 ·obtain ⟨us,a,xs,ds,l,d,⟨rfl,_,_⟩,⟨r,_⟩,hf,_⟩:=h
  unfold fnD at hf
  by_cases z:(ds++[PyData.list l]).length=ps.length
  ·rw [← z,bH,bH,r.length];rfl
  ·rw [if_neg z] at hf;cases hf
 ·obtain ⟨us,a,xs,ds,l,d,⟨rfl,tb,ha⟩,⟨r,rx⟩,hf,q⟩:=h
  refine ⟨_,hbody f cdv A outer s H E hr,?_⟩
  unfold fnD at hf
  by_cases z:(ds++[PyData.list l]).length=ps.length
  ·rw [if_pos z] at hf
   have hl:ds.length=p:=by
    rw [bH,hps] at z
    exact Nat.succ.inj z
   have RR:=Eb (fl:=fl) (N:=N) p hp hq hl (by omega) tb ha r rx
   rw [← hps] at RR
   split at hf
   ·next d' e =>
    cases hf
    exact ⟨_,_,_,_,RR,e,fun v H' s r=>q v H' s r⟩
   ·next δ' e =>
    cases hf
    exact ⟨_,_,_,_,RR,e,fun ow' σ' H' R'=>q .non H' R'.same0 .non⟩
   ·cases hf
  ·rw [if_neg z] at hf;cases hf
theorem Sy {p:Nat} (Dd:Dg K mg x st ps) (S:FnScope N ps (bx st)) (hps:ps.length=p + 1) (hp:∀ i,i < p→fl[i]? = some .A) (hq:fl[p]? = some .O) (hN:ps.length ≤ N.length)
 (hbody:∀ (f:Addr) (cdv:Value) (A:Around) (outer:List Env) (s:Shared) (H:Hp) (E:XK),Room k (A.deeper (envOfC x (bx st) s.heap.objs.size f cdv))→DSs (cx P w K mg base N x st f cdv A outer s H E) fl (iz st) fs) :
 Has P w K mg base (k + 1) x ps (spG K (fnD ps.length (N.length - ps.length) fs)):=by
 obtain ⟨f,fd,Fn,b,m⟩:=Dd.ex
 exact ⟨f,fd,N6 Fn S hps hp hq hN hbody,b,Fn.kp,m⟩
end
section
variable {X:Cx} {fl:List Fl} {e:Expr} {es:List Expr} {pos p:Pos} {x:Str} {ps:List Str} {n:Nat} {F:List D→Option D} {f:FE} {fa:FA}
def XC (K:PySem.W.Frag) (fl:List Fl) (f:FA):TA:=fun σ H Q=>∃ G ow δ ds l,Rel K fl G ow σ H δ∧f δ=some (ds++[PyData.list l])∧∀ us a xs H',Same H H'→H a=none→H' a=some (.lst xs)→RAs K (fun b=>b ≠ a) true H' us ds→RAs K (fun b=>b ≠ a) true H' xs l→Q (us++[.ref a]) H'
abbrev DBG (X:Cx) (fl:List Fl) (es:List Expr) (f:FA):Prop:=PA X es (XC X.K fl f)
theorem Ka (h:DE X fl .FC e f) (hs:starEach [e] X.env=(false,eval e X.env) :: starEach [] X.env:=by exact lG rfl):DBG X fl [e] (aG f aV):=PA.imp (jY h qe hs) fun σ H Q h=>by
 obtain ⟨G,ow,δ,ds,l,R,hf,q⟩:=h
 obtain ⟨d,e1,hf⟩:=bind1 hf
 obtain ⟨r,e2,hf⟩:=bind1 hf
 cases e2
 have hf:some [d]=some (ds++[PyData.list l]):=hf
 injection hf with hf
 obtain ⟨rfl,rfl⟩:ds=[]∧d = .list l:=by
  cases ds with
  | nil=>injection hf with h1 _;exact ⟨rfl,h1⟩
  | cons a t =>
   injection hf with _ h2
   cases t <;> cases h2
 refine ⟨G,ow,δ,_,R,e1,fun v H1 s1 r1=>?_⟩
 rcases r1 with ⟨z,_⟩ | ⟨a,xs,ds',rfl,h2,h3,h4,h5⟩
 ·cases z
 ·injection h2 with h2
  subst h2
  exact q [] a xs H1 s1 h3 h4 .nil (h5.imp (fun b z=>z.2) (fun z=>by cases z))
theorem tY {g:FE} {gr:FA} (h:DE X fl .P e f) (hr:DBG X fl es (aG g gr)) (hs:starEach (e :: es) X.env=(false,eval e X.env) :: starEach es X.env:=by exact lG rfl):DBG X fl (e :: es) (aG f (aG g gr)):=PA.imp (jY h hr hs) fun σ H Q h=>by
 obtain ⟨G,ow,δ,ds,l,R,hf,q⟩:=h
 obtain ⟨d,e1,hf⟩:=bind1 hf
 obtain ⟨r,e2,hf⟩:=bind1 hf
 have hf:some (d :: r)=some (ds++[.list l]):=hf
 injection hf with hf
 cases ds with
 | nil =>
  injection hf with _ h2
  subst h2
  obtain ⟨_,_,e3⟩:=bind1 e2
  obtain ⟨_,_,e4⟩:=bind1 e3
  cases e4
 | cons d' ds' =>
  injection hf with h1 h2
  subst h1 h2
  refine ⟨G,ow,δ,d,R,e1,fun v H1 s1 r1=>⟨G,ow,δ,ds',l,R.grow s1,e2,fun us a xs H2 s2 ha hl ru rx=>?_⟩⟩
  have r1:RA X.K ok1 true H1 v d:=r1
  exact q (v :: us) a xs H2 (s1.trans s2) (s1.free ha) hl (.cons ((r1.track.imp (fun b z=>(fun e:b=a=>z.2 (by rw [e];exact ha))) (fun z=>z)).same s2) ru) rx
theorem Kc (h:Has X.prog X.w X.K X.mg X.base n x ps (spG X.K F)) (hr:Room n X.A) (ha:DBG X fl (e :: es) fa) (hg:Gl X x:=by rfl) (hdb:(x == ("__debug__" : Str))=false:=by decide)
 (he:starEach (e :: es) X.env=(false,eval e X.env) :: starEach es X.env:=by exact lG rfl) (hpl:(backTo pos (starEach es X.env)).any (·.1)=false:=by exact FZ rfl) :
 DE X fl .C (.Call (.Name x p) (e :: es) [] pos) (uI F fa):=PE.imp (Bo h hr ha hg hdb he hpl) fun σ H Q h=>by
 obtain ⟨G,ow,δ,d,R,hf,q⟩:=h
 obtain ⟨as,e1,e2⟩:=bind1 hf
 obtain ⟨ds,l,rfl,e3⟩:=DY e2
 refine ⟨G,ow,δ,ds,l,R,e1,fun us a xs H' s ha hl ru rx=>?_⟩
 show spG X.K F ((us++[.ref a])++[]) H' Q E0
 rw [cY]
 have sub:Same H (rm H' a):=fun b u eb=>by
  rw [J9 (fun z=>by rw [z,ha] at eb;cases eb)]
  exact s _ _ eb
 exact ⟨us,a,xs,ds,l,d,⟨rfl,R.tb.same s,hl⟩,⟨ru,rx⟩,e3,fun v H2 s2 r2=>q v H2 (sub.trans s2) (RA.imp (fun b z=>sub.free z) (fun z=>z) r2)⟩
end
end XG
namespace XB
open PySem PySem.Spec PyProof.Rows L2 My D3 XK
def nIs:Option Key→Value→Bool
 | none,.none=>true
 | none,_=>false
 | some k,v=>oG k v
def nH (w:World):Option Key→Int
 | none=>0xFCA86420
 | some k=>UL w k
theorem lW {v:Value} (h:nIs none v=true):v = .none:=by
 cases v <;> first | rfl | cases h
theorem HS {P:Program} {w:World} {A:Around} {E:Value→Shared→Prop} {s:Shared} {Q:Int→Shared→Prop} (h:Q 0xFCA86420 { s with toks:=s.toks + 1 }):wpAny (model P w) A (pyHash .none) Q E s :=
 PySem.W.pyHash_slot (T := "NoneType") rfl F.slot_NoneType_hash F.entry_NoneType_hash (F.args_NoneType_hash_1 _) (beq_builtin_none _) (.inl rfl) (wpAny_bind (wpAny_pure (wpAny_bind (wpAny_mkInt (wpAny_pure ⟨_,_,rfl,h⟩)))))
theorem N7 {P:Program} {w:World} {A:Around} {E:Value→Shared→Prop} {s:Shared} {Q:Bool→Shared→Prop} (h:Q true s):wpAny (model P w) A (eqBool .none .none) Q E s:=by
 unfold eqBool
 refine wpAny_holding ?_
 refine wpAny_ite_split (fun _=>wpAny_bind (wpAny_rule (wpAny_pure h))) (fun z=>absurd rfl z)
def Qy (P:Program) (w:World):PySem.KeyKind P w (Option Key) where
 is:=nIs
 hash:=nH w
 inj:=fun v a b ha hb=>by
  cases a with
  | none =>
   cases b with
   | none=>rfl
   | some k =>
    rw [lW ha] at hb
    rcases dZ (show oG k .none=true from hb) with ⟨i,t,_,e⟩ | ⟨x,t,_,e⟩ <;> cases e
  | some k =>
   cases b with
   | none =>
    rw [lW hb] at ha
    rcases dZ (show oG k .none=true from ha) with ⟨i,t,_,e⟩ | ⟨x,t,_,e⟩ <;> cases e
   | some l=>rw [(eZ P w).inj v k l ha hb]
 byValue:=fun k v h=>by
  cases k with
  | none=>rw [lW h];rfl
  | some k=>exact (eZ P w).byValue k v h
 pyHash:=fun {A E s k v Q} h q=>by
  cases k with
  | none=>rw [lW h];exact HS q
  | some k=>exact (eZ P w).pyHash (k:=k) h q
 eqBool:=fun {A E s a b u v Q} ha hb q=>by
  cases a with
  | none =>
   rw [lW ha]
   cases b with
   | none=>rw [lW hb];exact N7 q
   | some k =>
    rcases dZ (show oG k v=true from hb) with ⟨i,t,_,rfl⟩ | ⟨x,t,_,rfl⟩
    ·exact PySem.SeqAt.EqAt.none_int i t P w E Q q
    ·exact PySem.SeqAt.EqAt.none_str x t P w E Q q
  | some k =>
   cases b with
   | none =>
    rw [lW hb]
    rcases dZ (show oG k u=true from ha) with ⟨i,t,_,rfl⟩ | ⟨x,t,_,rfl⟩
    ·exact PySem.SeqAt.EqAt.int_none i t P w E Q q
    ·exact PySem.SeqAt.EqAt.str_none x t P w E Q q
   | some l =>
    have e:decide (some k=some l)=decide (k=l):=by simp
    exact (eZ P w).eqBool (a:=k) (b:=l) ha hb (e ▸ q)
 «strs»:=fun k x t v h=>by
  cases k with
  | none=>cases h
  | some k=>exact (eZ P w).«strs» k x t v h
theorem map_none {P:Program} {w:World} {h:Heap} {a:Addr} {vs:List (Key × Value)} (d:h.DictOf (eZ P w) a vs):h.MapOf (Qy P w) a fun k=>match k with | none=>none | some k=>valueAt vs k:=by
 obtain ⟨o,es,ep,h1,h2,h3,h4,h5⟩:=d.mapOf
 refine ⟨o,es,ep,h1,h2,h3,fun e he=>?_,fun k=>?_⟩
 ·obtain ⟨k,k1,k2⟩:=h4 e he
  exact ⟨some k,k1,k2⟩
 ·cases k with
  | some k=>exact h5 k
  | none =>
   show findBy nIs es none=none
   unfold findBy
   rw [Option.map_eq_none_iff,Array.find?_eq_none]
   intro e he z
   obtain ⟨k,k1,_⟩:=h4 e he
   rw [lW z] at k1
   rcases dZ (show oG k .none=true from k1) with ⟨i,t,_,e⟩ | ⟨x,t,_,e⟩ <;> cases e
theorem HW {X:Cx} {pins:List (Addr × Obj)} {σ:L2.St} {H:Hp} {s:Shared} {a:Addr} {kvs:List (Key × V)} {A:Around} {E:Value→Shared→Prop} {Q:Value→Shared→Prop} (I:Inv X pins σ H s) (g:Rd H a (.dK kvs)) (h:∀ s',Inv X pins σ H s'→Q (.bool false) s') :
 wpAny (model X.prog X.w) A (compareOp .In .none (.ref a)) Q E s:=by
 obtain ⟨z,hd,vs,rel,dd⟩:=uV I.hok g
 exact wpAny_in_of (knd:=Qy X.prog X.w) (k:=none) rfl hd (map_none dd) (h _ (I.tok _))
def dbI (S:List Int):List (Key × V):=S.map fun i=>(.inl i,.bl true)
def VN:R2:=fun x y H Q=>∃ p kvs,y = .ref p∧Rd H p (.dK kvs)∧((x = .non∧Q (.bl false) H)∨∃ k,x=kV k∧Q (.bl (mJ kvs k).isSome) H)
theorem SJ {X:Cx} (hu:X.A.units + 64 < cLine):OpR X (compareOp .In) VN:=by
 intro pins s σ H x y v u Q I rx ry h
 obtain ⟨p,kvs,rfl,g,h⟩:=h
 obtain rfl:u=Value.ref p:=ry
 rcases h with ⟨rfl,q⟩ | ⟨k,rfl,q⟩
 ·obtain rfl:v=Value.none:=rx
  exact HW I g fun s' I'=>⟨.bl false,H,I',rfl,q⟩
 ·exact VD (by omega) I (.inl ⟨kvs,k,g,rfl,rfl⟩) rx fun s' I'=>⟨.bl (mJ kvs k).isSome,H,I',rfl,q⟩
theorem Ke:∀ {kvs:List (D × D)} {S:List Int},bsD kvs=some S→dk0 kvs=dbI S
 | [],S,h=>by cases h;rfl
 | (a,b) :: r,S,h=>by
  unfold bsD at h
  split at h
  ·next e=>cases e
  ·next i r' e =>
   cases e
   cases e3:bsD r with
   | none=>rw [e3] at h;cases h
   | some S' =>
    rw [e3] at h
    cases h
    rw [dk0,Ke e3]
    rfl
  ·cases h
theorem zR:∀ {kvs:List (D × D)} {S:List Int},bsD kvs=some S→Ds kvs=true
 | [],_,_=>rfl
 | (a,b) :: r,S,h=>by
  unfold bsD at h
  split at h
  ·next e=>cases e
  ·next e =>
   cases e
   cases e3:bsD r with
   | none=>rw [e3] at h;cases h
   | some S=>exact (show Ds r=true from zR e3)
  ·cases h
theorem Ec {kvs:List (D × D)} {S:List Int} (h:bsD kvs=some S):dh0 kvs = .dK (dbI S):=by
 rw [← Ke h]
 cases kvs with
 | nil=>rfl
 | cons q r =>
  obtain ⟨k,v⟩:=q
  unfold dh0
  cases k with
  | int i=>rfl
  | _=>unfold bsD at h;cases h
theorem N8 {K:PySem.W.Frag} {ok:Ok} {pl:Bool} {H:Hp} {v:V} {x:D} {S:List Int} (e:Hy x=some S) (r:RA K ok pl H v x):∃ a,v = .ref a∧L2.Rd H a (.dK (dbI S)):=by
 cases x with
 | dict kvs =>
  obtain ⟨a,rfl,h⟩:=r.dicE (zR e)
  rw [Ec e] at h
  exact ⟨a,rfl,h⟩
 | _=>cases e
theorem Kf:∀ (S:List Int) (i:Int),(mJ (dbI S) (Sum.inl i)).isSome=decide (i ∈ S)
 | [],i=>rfl
 | q :: S,i=>by
  unfold dbI
  rw [bI]
  by_cases h:q=i
  ·subst h
   rw [qJ rfl]
   simp
  ·rw [qQ (fun z=>h (by injection z))]
   have:=Kf S i
   unfold dbI at this
   rw [this]
   have h2:¬ i=q:=fun z=>h z.symm
   simp [h2]
theorem SN (S:List Int) (i:Int):putK (dbI S) (Sum.inl i) (.bl true)=dbI (wN S i):=by
 unfold putK wN dbI
 have e:((S.map fun i=>((Sum.inl i,V.bl true):Key × V)).any fun q=>decide (q.1=Sum.inl i))=decide (i ∈ S):=by
  induction S with
  | nil=>rfl
  | cons q S ih =>
   rw [bI,jV,ih]
   by_cases h:q=i
   ·subst h;simp
   ·have h2:¬ i=q:=fun z=>h z.symm
    simp [h2,h]
 rw [e]
 by_cases h:i ∈ S
 ·rw [dTr h,if_pos rfl,if_pos h,dX]
  refine iY fun q _=>?_
  show (if (Sum.inl q:Key)=Sum.inl i then ((Sum.inl q:Key),V.bl true) else (Sum.inl q,V.bl true))=_
  split <;> rfl
 ·rw [dFa h,if_neg dB,if_neg h,cI]
  rfl
theorem VP {K:PySem.W.Frag}:BrO K VN xW:=by
 intro H x y dx dy d Q rx ry e q
 obtain ⟨S,e4,e5⟩:=bind1 e
 obtain ⟨p,rfl,hp⟩:=N8 e4 ry
 split at e5
 ·next i =>
  cases e5
  obtain rfl:=RA.intE rx
  refine ⟨p,_,rfl,hp,.inr ⟨.inl i,rfl,?_⟩⟩
  rw [Kf]
  exact q _ rfl (.bl _)
 ·cases e5
  obtain rfl:=RA.nonE rx
  exact ⟨p,_,rfl,hp,.inl ⟨rfl,q _ rfl (.bl _)⟩⟩
 ·cases e5
section
variable {K:PySem.W.Frag} {fl:List Fl}
theorem Kg {G:Gh} {ow:Ow} {σ:L2.St} {H:Hp} {δ:DS} {i:Nat} {x:D} {S:List Int} (R:Rel K fl G ow σ H δ) (hfl:fl[i]? = some .N) (hx:aF i δ=some x) (hq:Hy x=some S) :
 ∃ a,σ[i]? = some (some (.ref a))∧H a=some (.dK (dbI S))∧∀ H',Same H H'→∀ S',∃ ow',Rel K fl G ow' σ (upd H' a (.dK (dbI S'))) (δ.set i (some (.d (dsB S')))):=by
 have e:=mG hx
 have hi:i < δ.length:=by
  rcases jH i δ.length with z | z
  ·exact z
  ·rw [bD z] at e;cases e
 obtain ⟨v,h1,h2,h3⟩:=R.nr i x (by rw [hfl];rfl) e
 generalize hN:ow.n i=as at h2 h3
 cases h2 with
 | dic ha hg =>
  rename_i a u kvs
  rw [hg.old (zR hq)] at ha
  have ha':=ha
  rw [Ec hq] at ha'
  refine ⟨a,h1,ha',fun H' s S'=>?_⟩
  refine (R.grow s).mutN (as:=[a]) hfl hi (by rw [hN];exact oF _) (s _ _ ha) h1 ?_ (fun b hb=>by rw [hN];exact hb) (cD.mpr ⟨fL,.nil⟩)
  refine .dic dg (.inl ⟨zR (Gn S'),?_⟩)
  rw [Ec (Gn S')]
 | non=>cases hq
 | bl _=>cases hq
 | int _=>cases hq
 | str _=>cases hq
 | lst _ _=>cases hq
 | tup _ _=>cases hq
end
section
variable {X:Cx} {fl:List Fl} {e a b c ke:Expr} {f fa fb fc fk:FE} {pos:Pos}
theorem N_ (hu:X.A.units + 1 < cLine) {i:Nat} {x:Str} {vpos spos:Pos} (hfl:fl[i]? = some .N) (he:PE X e (tC (.bl true))) (hk:DE X fl .P ke fk) (hN:X.N[i]? = some x) (hv:Vis X.env.scope x:=by first | exact Or.inl rfl | exact Or.inr (Or.inl rfl) | exact Or.inr (Or.inr rfl)) (hd:(x == ("__debug__" : Str))=false:=by decide)
 (hcd:(x == ("__classdict__" : Str))=false:=by decide) (ha:∀ v,assign (.Subscript (.Name x vpos) ke spos) X.env v=(do
  let ov ← holding [v] (eval (.Name x vpos) X.env)
  let iv ← holding [v,ov] (eval ke X.env)
  standAt spos
  holding [v,ov,iv] (setItem ov iv v)
  release [v,ov,iv] []):=by intro _;rfl)
 (hs:swapsWithSole [.Subscript (.Name x vpos) ke spos] e pos.line X.env=pure false:=by rfl) (hw:swappedStores [.Subscript (.Name x vpos) ke spos] e X.env=pure none:=by rfl)
 (h1:(assignEach [.Subscript (.Name x vpos) ke spos] X.env).map (·.2)=[assign (.Subscript (.Name x vpos) ke spos) X.env]:=by rfl) :
 DS1 X fl (.Assign [.Subscript (.Name x vpos) ke spos] e pos) (B_ i fk) :=
 PS.imp (Jm he (Jl (oh hN hv hd hcd) hk (J8 hu) ha) hs hw h1) fun Dn σ H h=>by
 obtain ⟨G,ow,δ,o,R,hf,q⟩:=h
 obtain ⟨y,e1,hf⟩:=bind1 hf
 obtain ⟨z,e2,hf⟩:=bind1 hf
 obtain ⟨S,e3,hf⟩:=bind1 hf
 split at hf
 case h_2=>cases hf
 next k _ =>
 by_cases hc:S.length < 1000000
 case neg=>rw [if_neg hc] at hf;cases hf
 rw [if_pos hc] at hf
 cases hf
 obtain ⟨p,h1,h2,h3⟩:=Kg R hfl e1 e3
 refine ⟨_,h1,G,ow,δ,_,R,e2,fun u H2 s2 r2=>?_⟩
 obtain rfl:=RA.intE r2
 obtain ⟨ow',R'⟩:=h3 H2 s2 (wN S k)
 refine ⟨p,dbI S,.inl k,rfl,rfl,s2 _ _ h2,by unfold dbI;rw [aJ];exact jG hc (by decide),?_⟩
 rw [SN]
 exact q ow' σ _ R'
end
end XB
namespace XD
open PySem PySem.Spec PyProof.Rows L2 My D3 XK
theorem Gu:∀ ds:List D,scD ds=scs ds
 | []=>rfl
 | .int _ :: r=>Gu r
 | .none :: r=>Gu r
 | .bool _ :: _=>rfl
 | .str _ :: _=>rfl
 | .list _ :: _=>rfl
 | .tuple _ :: _=>rfl
 | .dict _ :: _=>rfl
theorem Ed {K:PySem.W.Frag} {ok:Ok} {pl:Bool} {H:Hp}:∀ {ds:List D},scs ds=true→RAs K ok pl H (ds.map scV) ds
 | [],_=>.nil
 | .int i :: r,h=>.cons (.int i) (Ed h)
 | .none :: r,h=>.cons .non (Ed h)
theorem Ef {K:PySem.W.Frag} {ok:Ok} {pl:Bool} {H:Hp}:∀ {ds:List D} {xs:List V},scs ds=true→RAs K ok pl H xs ds→xs=ds.map scV
 | [],_,_,.nil=>rfl
 | .int i :: r,_ :: _,h,.cons a q=>by
  have h1:=RA.intE a
  have h2:=Ef (show scs r=true from h) q
  subst h1 h2
  rfl
 | .none :: r,_ :: _,h,.cons a q=>by
  have h1:=RA.nonE a
  have h2:=Ef (show scs r=true from h) q
  subst h1 h2
  rfl
theorem zT:∀ {ds:List D},scs ds=true→flats ds=true
 | [],_=>rfl
 | .int i :: r,h=>by rw [flats,aW];exact ⟨rfl,zT h⟩
 | .none :: r,h=>by rw [flats,aW];exact ⟨rfl,zT h⟩
theorem Oa {d:D} (h:tvD d=true):flat d=true:=by
 cases d with
 | none=>rfl
 | tuple ds =>
  have:=zT (show scs ds=true by rw [← Gu];exact h)
  simpa [flat] using this
 | _=>cases h
theorem VR {K:PySem.W.Frag} {ok:Ok} {pl:Bool} {H:Hp} {v:V} {d:D} (t:TV H v d):RA K ok pl H v d:=by
 rcases t with ⟨rfl,rfl⟩ | ⟨b,ds,rfl,rfl,h1,h2⟩
 ·exact .non
 ·exact .tup h1 (Ed h2)
theorem V0 {K:PySem.W.Frag} {ok:Ok} {pl:Bool} {H:Hp} {v:V} {d:D} (h:tvD d=true) (r:RA K ok pl H v d):TV H v d:=by
 cases d with
 | none=>exact .inl ⟨RA.nonE r,rfl⟩
 | tuple ds =>
  have hs:scs ds=true:=by rw [← Gu];exact h
  obtain ⟨a,xs,rfl,h1,h2⟩:=r.tupE0
  rw [Ef hs h2] at h1
  exact .inr ⟨a,ds,rfl,rfl,h1,hs⟩
 | _=>cases h
theorem Qz {H:Hp} {u:HO} {S:List (Int × D)} (g:DH H u (tvP S)) (h:tvA S=true):∃ ks,u = .dK ks∧TVs H ks (tvP S):=by
 rcases g with ⟨g1,g2⟩ | g
 ·cases S with
  | nil=>exact ⟨[],g2,.nil⟩
  | cons q S =>
   exfalso
   rw [tvA,n_,aW] at h
   obtain ⟨i,d⟩:=q
   have hd:tvD d=true:=h.1
   cases d <;> first | (cases hd;done) | exact absurd g1 dB
 ·exact g
theorem vG {K:PySem.W.Frag} {ok:Ok} {pl:Bool} {H:Hp} {v:V} {x:D} {S:List (Int × D)} (e:vd x=some S) (r:RA K ok pl H v x):∃ a ks,v = .ref a∧L2.Rd H a (.dK ks)∧TVs H ks (tvP S):=by
 cases x with
 | dict kvs =>
  obtain ⟨h1,rfl⟩:=tV e
  obtain ⟨a,u,rfl,h2,g⟩:=r.dicU
  obtain ⟨ks,rfl,t⟩:=Qz g h1
  exact ⟨a,ks,rfl,h2,t⟩
 | _=>cases e
theorem zU {H:Hp}:∀ {S:List (Int × D)} {ks:List (Key × V)} (i:Int),TVs H ks (tvP S)→(d7 S i=none∧mJ ks (Sum.inl i)=none)∨∃ d v,d7 S i=some d∧mJ ks (Sum.inl i)=some v∧TV H v d
 | [],_,i,h=>by cases h;exact .inl ⟨rfl,rfl⟩
 | q :: S,_,i,h=>by
  cases h with
  | cons t r =>
   rename_i v r0
   by_cases e:q.1=i
   ·refine .inr ⟨q.2,v,?_,qJ (by rw [e]),t⟩
    simp [d7,e]
   ·rw [qQ (fun z=>e (by injection z))]
    have:d7 (q :: S) i=d7 S i:=by simp [d7,e]
    rw [this]
    exact zU i r
theorem Ce {H:Hp} {v:V} {d:D} {k:Int} (t:TV H v d):∀ {S:List (Int × D)} {ks:List (Key × V)},TVs H ks (tvP S)→TVs H (ks++[(.inl k,v)]) (tvP (S++[(k,d)]))
 | [],_,h=>by cases h;exact .cons t .nil
 | q :: S,_,h=>by
  cases h with
  | cons t' r=>exact .cons t' (Ce t r)
theorem zV {H:Hp} {a:Addr} {S:List (Int × D)} {ks:List (Key × V)} (i:Int) (h:L2.Rd H a (.dK ks)) (t:TVs H ks (tvP S)):∃ o,xX H a (.int i) o∧o.isSome=(d7 S i).isSome∧∀ d,d7 S i=some d→∃ v,o=some v∧TV H v d:=by
 rcases zU i t with ⟨h1,h2⟩ | ⟨d,v,h1,h2,h3⟩
 ·exact ⟨none,.inl ⟨ks,.inl i,h,rfl,h2.symm⟩,by rw [h1];rfl,fun d z=>by rw [h1] at z;cases z⟩
 ·exact ⟨some v,.inl ⟨ks,.inl i,h,rfl,h2.symm⟩,by rw [h1];rfl,fun d' z=>by rw [h1] at z;cases z;exact ⟨v,rfl,h3⟩⟩
theorem SX {K:PySem.W.Frag}:BrO K VH Ca:=by
 intro H x y dx dy d Q rx ry e q
 obtain ⟨S,e4,e5⟩:=bind1 e
 obtain ⟨p,ks,rfl,hp,t⟩:=vG e4 ry
 split at e5
 ·next i =>
  cases e5
  obtain rfl:=RA.intE rx
  obtain ⟨o,g1,g2,_⟩:=zV i hp t
  refine ⟨p,o,rfl,g1,?_⟩
  rw [g2]
  exact q _ rfl (.bl _)
 ·cases e5
theorem HX {K:PySem.W.Frag}:BrO K Gq tU:=by
 intro H x y dx dy d Q rx ry e q
 obtain ⟨S,e4,e5⟩:=bind1 e
 obtain ⟨p,ks,rfl,hp,t⟩:=vG e4 ry
 split at e5
 ·next i =>
  cases e5
  obtain rfl:=RA.intE rx
  obtain ⟨o,g1,g2,_⟩:=zV i hp t
  refine ⟨p,o,rfl,g1,?_⟩
  rw [g2]
  exact q _ rfl (.bl _)
 ·cases e5
section
variable {X:Cx} {fl:List Fl} {e a b c ke ve:Expr} {f fa fb fc fk fv:FE} {pos:Pos}
theorem S6 {S:List (Int × D)} {i:Int} {d:D} (h:tvA S=true) (e:d7 S i=some d):tvD d=true:=by
 unfold d7 at e
 cases e1:S.find? fun q=>decide (q.1=i) with
 | none=>rw [e1] at e;cases e
 | some q =>
  rw [e1] at e
  cases e
  exact jK.mp h q (nq e1)
theorem wY (hu:X.A.units + 1 < cLine) (ha:DE X fl .P a fa) (hb:DE X fl .P b fb) (hs:Sv b):DE X fl .FC (.Subscript a b pos) (dOp pJ fa fb):=PE.imp (NP hu ha hb hs) fun σ H Q h=>by
 obtain ⟨G,ow,δ,d,R,hf,q⟩:=h
 obtain ⟨x,y,e1,e2,e3⟩:=Bt hf
 refine ⟨G,ow,δ,x,R,e1,fun v H1 s1 r1=>⟨G,ow,δ,y,R.grow s1,e2,fun u H2 s2 r2=>?_⟩⟩
 obtain ⟨S,e4,e5⟩:=bind1 e3
 obtain ⟨p,ks,rfl,hp,t⟩:=vG e4 r1
 split at e5
 ·next i =>
  obtain rfl:=RA.intE r2
  obtain ⟨o,g1,g2,g3⟩:=zV i (NZ s2 hp) (t.imp fun _ _ z=>kE.same s2 z)
  obtain ⟨w,rfl,tw⟩:=g3 d e5
  have hA:tvA S=true:=by
   cases x with
   | dict kvs=>exact (tV e4).1
   | _=>cases e4
  exact ⟨p,w,rfl,g1,q _ H2 (s1.trans s2) (.inl ⟨Oa (S6 hA e5),VR tw⟩)⟩
 ·cases e5
end
section
variable {K:PySem.W.Frag} {fl:List Fl}
theorem S7 {G:Gh} {ow:Ow} {σ:L2.St} {H:Hp} {δ:DS} {i:Nat} {x:D} {S:List (Int × D)} (R:Rel K fl G ow σ H δ) (hfl:fl[i]? = some .N) (hx:aF i δ=some x) (hq:vd x=some S) :
 ∃ a ks,σ[i]? = some (some (.ref a))∧H a=some (.dK ks)∧TVs H ks (tvP S)∧∀ H',Same H H'→∀ ks' S',TVs H' ks' (tvP S')→∃ ow',Rel K fl G ow' σ (upd H' a (.dK ks')) (δ.set i (some (.d (dtv S')))):=by
 have e:=mG hx
 have hi:i < δ.length:=by
  rcases jH i δ.length with z | z
  ·exact z
  ·rw [bD z] at e;cases e
 obtain ⟨v,h1,h2,h3⟩:=R.nr i x (by rw [hfl];rfl) e
 generalize hN:ow.n i=as at h2 h3
 cases h2 with
 | dic ha hg =>
  rename_i a u kvs
  obtain ⟨hA,rfl⟩:=tV hq
  obtain ⟨ks,rfl,t⟩:=Qz hg hA
  refine ⟨a,ks,h1,ha,t,fun H' s ks' S' t'=>?_⟩
  refine (R.grow s).mutN (as:=[a]) hfl hi (by rw [hN];exact oF _) (s _ _ ha) h1 ?_ (fun b hb=>by rw [hN];exact hb) (cD.mpr ⟨fL,.nil⟩)
  exact .dic dg (.inr ⟨ks',rfl,t'.imp fun _ _ z=>kE.upd (s _ _ ha) z⟩)
 | non=>cases hq
 | bl _=>cases hq
 | int _=>cases hq
 | str _=>cases hq
 | lst _ _=>cases hq
 | tup _ _=>cases hq
end
section
variable {X:Cx} {pins:List (Addr × Obj)} {σ:L2.St} {H:Hp} {s:Shared} {a:Addr} {kvs:List (Key × V)} {k:Key} {z:V} {u r:Value} {A:Around} {E:Value→Shared→Prop}
theorem Kh {Q:Value→Shared→Prop} (I:L2.Inv X pins σ H s) (e:H a=some (.dK kvs)) (hl:kvs.length < sizeLine) (ry:RelV (kV k) u) (rz:RelV z r)
 (h1:∀ v w' s',mJ kvs k=some v→L2.Inv X pins σ H s'→RelV v w'→Q w' s') (h2:∀ s',mJ kvs k=none→L2.Inv X pins σ (upd H a (.dK (kvs++[(k,z)]))) s'→Q r s') :
 wpAny (model X.prog X.w) A (call (.builtin "dict.setdefault") [.ref a,u,r]) Q E s:=by
 obtain ⟨z0,hd,vs,rel,dd⟩:=J6 I.hok e
 refine call_meetsIn PySem.F.slot_dict_setdefault dd.typeIs PySem.F.entry_dict_setdefault (PySem.F.args_dict_setdefault_3 _ _ _) (kt_meets_setdefault (eZ X.prog X.w) a (wU ry) hd r)
  ⟨vs,dd,by rw [← rel.length];exact z0,fun w' hw=>?_,fun hw h' dd' hs=>?_⟩
 ·have q:=rel.val k
  rw [hw] at q
  cases e1:mJ kvs k with
  | none=>rw [e1] at q;cases q
  | some v =>
   rw [e1] at q
   exact h1 v w' _ e1 (I.tok _) q
 ·have q:=rel.val k
  rw [hw] at q
  have e1:mJ kvs k=none:=by
   cases e1:mJ kvs k with
   | none=>rfl
   | some v=>rw [e1] at q;cases q
  have he:∃ q,h'.get? a=some q:=let ⟨q,_,_,hq,_⟩:=dd';⟨q,hq⟩
  refine h2 _ e1 (vD I (by rw [e];exact True.intro) hs he (D_ ?_ hd ?_ dd'))
  ·rw [bH];exact hl
  ·rw [← J5 z e1]
   exact rel.put k rz
end
def V1 (td ty tx:TE):TE:=fun σ H Q=>td σ H fun x H1=>∃ a,x = .ref a∧IsD H1 a∧ty σ H1 fun y H2=>tx σ H2 fun z H3=>∃ kvs k,H3 a=some (.dK kvs)∧kvs.length < sizeLine∧y=kV k ∧
 (∀ v,mJ kvs k=some v→Q v H3)∧(mJ kvs k=none→Q z (upd H3 a (.dK (kvs++[(k,z)]))))
section
variable {X:Cx} {o e f:Expr} {apos cpos:Pos} {td ty tx:TE}
theorem Ob (ho:PE X o td) (he:PE X e ty) (hf:PE X f tx) (m:M2 X o "setdefault" apos e f cpos):PE X (.Call (.Attribute o "setdefault" apos) [e,f] [] cpos) (V1 td ty tx):=by
 intro pins s σ H Q I h
 refine wpAny_Call_method m.base m.few m.line PySem.F.plainAttrs_dict PySem.F.slot_dict_setdefault PySem.F.type_dict_setdefault (thn (ho pins s σ H _ I h) fun u s1 ⟨x,H1,I1,rx,a,ex,d,q1⟩=>?_)
 subst ex
 obtain rfl:u=Value.ref a:=rx
 obtain ⟨t1,t2,_⟩:=Sw I1 d
 refine ⟨t1,t2,?_⟩
 rw [m.trees]
 refine Calls.callWith_builtin rfl (Calls.evalArgs_plain (Calls.spliced_cons (thn (he pins s1 σ H1 _ I1 q1) fun iv s2 ⟨y,H2,I2,ry,q2⟩ =>
  Calls.spliced_cons (thn (hf pins s2 σ H2 _ I2 q2) fun fv s3 ⟨z,H3,I3,rz,kvs,k,ea,hl,ey,q3,q4⟩=>Calls.spliced_nil ?_))))
 subst ey
 exact Kh I3 ea hl ry rz (fun v w' s4 l I4 rw'=>⟨v,H3,I4,rw',q3 v l⟩) fun s4 l I4=>⟨z,_,I4,rz,q4 l⟩
end
section
variable {X:Cx} {fl:List Fl} {ke ve:Expr} {fk fv:FE} {pos:Pos}
theorem Gv {H:Hp}:∀ {S:List (Int × D)} {ks:List (Key × V)},TVs H ks (tvP S)→ks.length=S.length
 | [],_,h=>by cases h;rfl
 | q :: S,_,h=>by
  cases h with
  | cons _ r=>rw [bN,bN,Gv r]
theorem S8 {y:D} {S:List (Int × D)} (e:vd y=some S):dtv S=y:=by
 cases y with
 | dict kvs=>rw [dtv,(tV e).2]
 | _=>cases e
theorem set_same {δ:DS} {i:Nat} {y:D} (h:δ[i]? = some (some (.d y))):δ.set i (some (.d y))=δ:=by
 apply fu
 intro j
 rw [nF]
 split
 ·next z =>
  subst z
  split
  ·exact h.symm
  ·next z=>rw [bD (Nat.le_of_not_lt z)] at h;cases h
 ·rfl
theorem S9 {i:Nat} {x:Str} {vpos apos cpos:Pos} (hfl:fl[i]? = some .N) (hk:DE X fl .P ke fk) (hw:DE X fl .P ve fv) (hN:X.N[i]? = some x) (hm:M2 X (.Name x vpos) "setdefault" apos ke ve cpos) (hv:Vis X.env.scope x:=by first | exact Or.inl rfl | exact Or.inr (Or.inl rfl) | exact Or.inr (Or.inr rfl)) (hd:(x == ("__debug__" : Str))=false:=by decide)
 (hcd:(x == ("__classdict__" : Str))=false:=by decide) (hs:swapsWith (.Call (.Attribute (.Name x vpos) "setdefault" apos) [ke,ve] [] cpos) none pos.line X.env=pure false:=by rfl) :
 DS1 X fl (.Expr (.Call (.Attribute (.Name x vpos) "setdefault" apos) [ke,ve] [] cpos) pos) (wQ i fk fv):=PS.imp (vh (Ob (oh hN hv hd hcd) hk hw hm) hs) fun Dn σ H hh=>by
 obtain ⟨G,ow,δ,o,R,hf,q⟩:=hh
 obtain ⟨y,e1,hg⟩:=bind1 hf
 clear hf
 obtain ⟨kk,e2,hf⟩:=bind1 hg
 clear hg
 obtain ⟨zz,e3,hg⟩:=bind1 hf
 clear hf
 obtain ⟨S,e4,hf⟩:=bind1 hg
 clear hg
 split at hf
 case h_2=>cases hf
 next k =>
 by_cases hc:tvD zz=true∧S.length < 1000000
 case neg=>rw [if_neg hc] at hf;cases hf
 rw [if_pos hc] at hf
 cases hf
 obtain ⟨p,ks,h1,h2,h3,h4⟩:=S7 R hfl e1 e4
 refine ⟨_,h1,p,rfl,.inl ⟨_,.inl h2⟩,G,ow,δ,_,R,e2,fun u H1 s1 r1=>⟨G,ow,δ,_,R.grow s1,e3,fun w H2 s2 r2=>?_⟩⟩
 obtain rfl:=RA.intE r1
 have t2:TV H2 w zz:=V0 hc.1 r2
 have s12:=s1.trans s2
 have h3':TVs H2 ks (tvP S):=h3.imp fun _ _ z=>kE.same s12 z
 refine ⟨ks,.inl k,s12 _ _ h2,by rw [Gv h3];exact jG hc.2 (by decide),rfl,fun v hv'=>?_,fun hv'=>?_⟩
 ·have hx:nC S k zz=S:=by
   unfold nC
   rcases zU k h3' with ⟨_,b⟩ | ⟨d,v',a,b,_⟩
   ·rw [b] at hv';cases hv'
   ·rw [if_pos (by rw [a];rfl)]
  rw [hx] at q
  rw [S8 e4,set_same (mG e1)] at q
  exact q ow σ _ (R.grow s12)
 ·have hx:nC S k zz=S++[(k,zz)]:=by
   unfold nC
   rcases zU k h3' with ⟨a,_⟩ | ⟨d,v',a,b,_⟩
   ·rw [if_neg (by rw [a];simp)]
   ·rw [b] at hv';cases hv'
  rw [hx] at q
  obtain ⟨ow',R'⟩:=h4 H2 s12 (ks++[(.inl k,w)]) (S++[(k,zz)]) (Ce t2 h3')
  exact q ow' σ _ R'
theorem Kl {j:Nat} {p1:Pos} (hk:DE X fl .P ke fk):DE X fl .T (.Dict [some ke] [.Constant .none j p1] pos) (wO fk):=PE.imp (NT (J7 hk Je NQ) rfl rfl (by intro z;cases z) (show 1 ≤ 15 by decide)) fun σ H Q h=>by
 obtain ⟨G,ow,δ,d,R,hf,q⟩:=h
 obtain ⟨y,e1,e2⟩:=bind1 hf
 split at e2
 case h_2=>cases e2
 next i =>
 cases e2
 intro p hp
 refine ⟨G,ow,δ,_,R.grow (dN hp _),e1,fun v H1 s1 r1=>?_⟩
 obtain rfl:=RA.intE r1
 refine ⟨s1 _ _ dg,[(.inl i,.non)],rfl,(show 1 ≤ 15 by decide),q _ _ (fun b0 o e=>?_) ⟨[p],.dic dg (.inr ⟨_,rfl,.cons (.inl ⟨rfl,rfl⟩) .nil⟩),cD.mpr ⟨fL,.nil⟩,fun x hx=>by rw [aK.mp hx];exact hp⟩⟩
 have ne:b0 ≠ p:=jm e hp
 rw [cJ ne]
 exact s1 _ _ (by rw [cJ ne];exact e)
end
end XD
namespace XD
open PySem PySem.Spec PyProof.Rows L2 My D3 XK
section
variable {X:Cx} {fl:List Fl} {e:Expr} {pos:Pos}
theorem zW (hc:X.calm=true):mj X (.builtin "sorted") (fun xs H Q=>∃ (p:Addr) (ks:List (Key × V)) (is:List Int),xs=[.ref p]∧L2.Rd H p (.dK ks)∧ks.map (·.1)=is.map Sum.inl∧is.length < 64∧∀ l,H l=none→Q (.ref l) (upd H l (.lst ((oK is).map V.int)))):=by
 intro pins s σ H xs us Q I r h
 obtain ⟨p,ks,is,rfl,hx,hK,h64,q⟩:=h
 obtain ⟨u,rfl,rx⟩:=vals1 r
 cases rx
 obtain ⟨_,hd,vs,rel,dd⟩:=uV I.hok hx
 obtain ⟨ep,hat⟩:=dd.dictAt
 have hv:vs.map (·.1)=is.map Sum.inl:=by rw [← rel.keys];exact hK
 have hlen:vs.length=is.length:=by
  have:=congrArg List.length hv
  rwa [aJ,aJ] at this
 refine Calls.call_function_entry kind_sorted plain_sorted entry_sorted (args_sorted1 _) ?_
 unfold Builtin.«sorted»
 refine wpAny_bind (m:=checkCount "sorted" 1 1 _) (wpAny_pure ?_)
 refine wpAny_bind (PySem.W.kdu_collect (A:=X.A.in1) (PySem.W.kdl_dict (knd:=eZ X.prog X.w) (kvs:=vs) (ep:=ep) hd) (I.ok.hd hc) hat (by rw [hlen];exact bV (gC h64) (by decide)) fun h' tk acc hk hacc=>?_)
 have hl:acc.toList.length=is.length:=by rw [dF,hacc.1,hlen]
 have hI:IntsAre acc.toList is:=Gs _ _ hl fun j v hv'=>by
  obtain ⟨k,x,hkx,his⟩:=hacc.2 j v (by rw [← Array.getElem?_toList];exact hv')
  have e1:(vs.map (·.1))[j]? = some k:=by rw [aN,hkx];rfl
  rw [hv,aN] at e1
  cases e2:is[j]? with
  | none=>rw [e2] at e1;cases e1
  | some i =>
   rw [e2] at e1
   have e3:k=Sum.inl i:=by
    cases e1
    rfl
   subst e3
   rw [CZ] at his
   obtain ⟨t,rfl⟩:∃ t,v=Value.int i t:=Value.isInt_shape his
   exact ⟨i,t,rfl,rfl⟩
 have I1:L2.Inv X pins σ H { s with heap:=h',toks:=tk }:=I.kept hk
 refine wpAny_bind (wpAny_newList ?_ (by rw [hl];exact bV (gC h64) (by decide)))
 have hoL:(h'.push (seqObj "list" acc.toList.toArray 0)).get? h'.objs.size=some (seqObj "list" acc.toList.toArray 0):=Heap.get?_push_size _ rfl
 show wpAny _ _ _ _ _ { s with heap:=h'.push (seqObj "list" acc.toList.toArray 0),toks:=tk }
 refine wpAny_bind (wpAny_holding (wpAny_call_entry slot_list_sort ⟨_,hoL,rfl⟩ entry_list_sort (list_sort_tree hoL hI (by rw [hl];exact h64) fun out ns' a1 a2 a3=>⟨_,rfl,?_⟩) (args_list_sort _)))
 refine wpAny_pure ⟨_,rfl,?_⟩
 obtain rfl:=uE (a2.trans (je _).symm) a3 (nM _)
 obtain ⟨e,he⟩:=sortedHeap_at (out:=out) hoL
 have hn:H h'.objs.size=none:=I1.hok.fresh (bh _)
 have ll:(oK is).length=is.length:=(je _).length_eq
 have I2:=I1.laid (h':=sortedHeap (h'.push (seqObj "list" acc.toList.toArray 0)) h'.objs.size acc.toList out) (t':=tk) (a:=h'.objs.size) (o:=.lst ((oK is).map V.int)) (fun b u e=>by
  have hlt:=Heap.lt_size e
  rw [sortedHeap_old (bQ hlt) (by rw [size_push'];exact Nat.lt_succ_of_lt hlt)]
  exact Heap.get?_push_of_some _ e) (bh _)
  ⟨by rw [aJ,ll];exact bV (gC h64) (by decide),out.toList,e,D3.mL a1,by simpa [seqObj] using he⟩
 exact ⟨.ref _,_,I2,rfl,q _ hn⟩
theorem Cg {H:Hp}:∀ {S:List (Int × D)} {ks:List (Key × V)},TVs H ks (tvP S)→ks.map (·.1)=(S.map (·.1)).map Sum.inl
 | [],_,h=>by cases h;rfl
 | q :: S,_,h=>by
  cases h with
  | cons _ r=>rw [bI,Cg r];rfl
theorem HY (hc:X.calm=true) {fa:FA} {p:Pos} (ha:DB X fl .P [e] fa) (hg:Gl X "sorted") (hm:X.mg "sorted" = none)
 (he:starEach [e] X.env=(false,eval e X.env) :: starEach [] X.env:=by rfl) (hpl:(backTo pos (starEach [] X.env)).any (·.1)=false:=by rfl):DE X fl .FC (.Call (.Name "sorted" p) [e] [] pos) (dCall tW fa) :=
 PE.imp (oJ (zW hc) hg hm (show bootBuiltins "sorted" = some (.builtin "sorted") by decide +kernel) ha (by decide) (by decide) he hpl) fun σ H Q h=>by
 obtain ⟨G,ow,δ,d,R,hf,q⟩:=h
 obtain ⟨ds,e1,e2⟩:=bind1 hf
 refine ⟨G,ow,δ,ds,R,e1,fun vs H' s r'=>?_⟩
 unfold tW at e2
 split at e2
 ·next x =>
  obtain ⟨S,e3,e4⟩:=bind1 e2
  by_cases hS:S.length < 64
  ·rw [if_pos hS] at e4
   cases e4
   cases r' with
   | cons r1 r2 =>
    cases r2
    obtain ⟨a,ks,rfl,hx,t⟩:=vG e3 r1
    exact ⟨a,ks,S.map (·.1),rfl,hx,Cg t,by rw [aJ];exact hS,fun l hn=>q _ _ (s.trans (dN hn _)) (.inr ⟨_,_,_,rfl,rfl,s.free hn,dg,rG _⟩)⟩
  ·rw [if_neg hS] at e4;cases e4
 ·cases e2
end
end XD
namespace XL
open PySem PySem.Spec PySem.W PyProof.Rows L2 My D3
abbrev H_ (x y:Str) (p1 p2 p3 p4 p5:Pos) (kd:Nat):Expr:=.Subscript (.Subscript (.Name x p1) (.Name y p2) p3) (.Constant (.int 0) kd p4) p5
section
variable {prog:Program} {w:World} {A:Around} {R:Result→Shared→Prop} {s:Shared} {f c' a b cell:Addr} {nm q x y:Str} {params:Arguments} {scope:Scope} {pm ctv:Value} {p1 p2 p3 p4 p5:Pos} {kd:Nat} {i k:Int} {j:Nat} {t t':Tok} {its its2:Array Value}
theorem Km {x:Value} {E:Value→Shared→Prop} {Q:Value→Shared→Prop} (hl:s.heap.IsList a its) (hlo : -(its.size:Int) ≤ i) (hhi:i < its.size) (hsz:its.size ≤ sizeLine) (hsx:seqIndex? i its.size=some j) (hi:its[j]? = some x) (h:Q x s) :
 wpAny (model prog w) A (getItem (.ref a) (.int i t)) Q E s:=by
 have hn:=uh
 by_cases h0:0 ≤ i
 ·have hj:i.toNat=j:=by
   rw [seqIndex_of h0 hhi] at hsx
   exact cU.inj hsx
  exact wpAny_getItem_list hl h0 (by omega) (by rw [hj];exact hi) h
 ·have hj:(i + (its.size:Int)).toNat=j:=by
   rw [seqIndex_neg (by omega) hlo] at hsx
   exact cU.inj hsx
  exact wpAny_getItem_list_neg hl (by omega) hlo (by omega) (by rw [hj];exact hi) h
theorem Od (ho:s.heap.get? f=some (kla_obj nm q params (H_ x y p1 p2 p3 p4 p5 kd) scope [(x,cell)] pm c' ctv)) (hcd:s.heap.CodeRec (.ref c') q) (hroom:A.depth < recursionLimit) (hlim:s.heap.NoLimit)
 (hbind:∀ u,bindArgs (kla_fn nm q params (H_ x y p1 p2 p3 p4 p5 kd) scope [(x,cell)] pm (.ref c') ctv) ⟨[u],[]⟩=pure [(y,u)])
 (hco:scope.isCoroutine=false) (hgen:scope.isGenerator=false) (hk:scope.kind = .function) (hcell:∀ z ∈ scope.names,z.2 ≠ .cell) (hy:scope.names.lookup y=some .local) (hx:scope.names.lookup x=some .free)
 (hxd:(x == ("__debug__" : Str))=false) (hyd:(y == ("__debug__" : Str))=false) (hxc:(x == ("__classdict__" : Str))=false)
 (hc:s.heap.IsCell cell (some (.ref a))) (hl:s.heap.IsList a its) (hlo : -(its.size:Int) ≤ i) (hhi:i < its.size) (hsz:its.size ≤ sizeLine) (hsx:seqIndex? i its.size=some j) (hi:its[j]? = some (.ref b)) (ht:IsTup s.heap b its2) (hk0:its2[0]? = some (.int k t'))
 (h:∀ h' tk,(∀ b o,s.heap.get? b=some o→h'.get? b=some o)→R (.ok (.ret (.int k t'))) { s with heap:=h',toks:=tk }) :
 codeAny (model prog w) A (.call (.ref f) ⟨[.int i t],[]⟩) R s:=by
 refine kla_callFunE hroom ho rfl hco hgen rfl hcd ?_
 rw [hbind]
 refine wpAny_pure (wpAny_newFunctionEnv hcell (fun z hz=>?_) (fun h₁ hns hsb=>⟨hlim.fresh _ hsb,?_⟩) hk)
 ·rw [aK.mp hz]
  exact hy
 have hk₁:∀ b o,s.heap.get? b=some o→h₁.get? b=some o:=fun b o e=>hsb.extBut b o (bQ (Heap.lt_size e)) (Heap.get?_push_of_some _ e)
 refine kla_codeExpr ?_
 have hl':h₁.IsList a its:=by
  obtain ⟨o,e1,e2⟩:=hl
  exact ⟨o,hk₁ _ _ e1,e2⟩
 have ht':IsTup h₁ b its2:=by
  obtain ⟨o,e1,e2⟩:=ht
  exact ⟨o,hk₁ _ _ e1,e2⟩
 refine Subscript_ ?_
 refine Subscript_ ?_
 refine wpAny_Name ?_ hxd
 refine wpAny_loadName_free (c:=cell) (v:=.ref a) hk hx ?_ ?_ ?_ hxc
 ·show uO x [(x,cell)]=some cell
  simp
 ·obtain ⟨o,e1,e2⟩:=hc
  exact ⟨o,hk₁ _ _ e1,e2⟩
 refine wpAny_Name ?_ hyd
 refine wpAny_loadName_local (v:=.int i t) hk hy hns ?_ ?_
 ·simp
 refine subscriptTail_builtin (T := "list") (id := "list.__getitem__") ?_ PySem.F.slot_list_getitem.lookup ?_
 ·obtain ⟨o,e1,e2,_⟩:=hl'
  exact ⟨o,e1,e2⟩
 refine Km hl' hlo hhi hsz hsx hi ?_
 refine wpAny_Constant_int ?_
 refine kba_turn (value':=PySem.Expr.Name (PySem.Str.ofString "_") ⟨0,0,0,0⟩) (fun _=>rfl) ?_
 refine subscriptTail_builtin (T := "tuple") (id := "tuple.__getitem__") ?_ PySem.F.slot_tuple_getitem.lookup ?_
 ·obtain ⟨o,e1,e2,_⟩:=ht'
  exact ⟨o,e1,e2⟩
 refine PyProof.Rows.getItem_tuple (j:=0) (x:=.int k t') ht' (by decide) (by decide) ?_ hk0 ?_
 ·have:0 < its2.size:=by
   rcases jH 0 its2.size with z | z
   ·exact z
   ·rw [Array.getElem?_eq_none z] at hk0;cases hk0
  unfold seqIndex?
  have h2:(0:Int) < (its2.size:Int):=by omega
  show (if (decide ((0:Int) ≤ 0) && decide ((0:Int) < (its2.size:Int)))=true then some (0:Int).toNat else none)=some 0
  rw [dTr (eY 0),dTr h2]
  rfl
 ·exact h h₁ _ hk₁
end
section
variable {M:Model} {A:Around} {E:Value→Shared→Prop} {s:Shared} {params:Arguments} {body:Expr} {scope:Scope} {env:Env} {c P:Addr} {pos:Pos} {mg:Str→Option Value} {clos:List (Str × Addr)} {Q:Value→Shared→Prop} {q:Str}
abbrev ent (pos:Pos) (c':Addr):Array Value:=#[rawInt pos.line,rawInt pos.col,.ref c']
theorem Ko (hq:env.qual ++ "<lambda>" = q) (hdef:defaultsOf params env=([],[])) (hcl:closureFor scope env=pure clos) (hge0:env.globals=mainGlobals) (hg:s.heap.Ns mainGlobals mg) (hcode:env.code = .ref c) (C:CodeHd s.heap c P) (hgP:mainGlobals ≠ P) (hb:s.heap.BuiltinsAt mg P)
 (hT:∃ ps,s.heap.get? P=some (tabObj ps)∧(ps = #[]∨∃ c',ps=ent pos c'∧s.heap.CodeRec (.ref c') q))
 (h:∀ f c' ctv h' tk,(∀ b o,b ≠ P→s.heap.get? b=some o→h'.get? b=some o)→h'.get? P=some (tabObj (ent pos c'))→(s.heap.get? P=some (tabObj (ent pos c'))∨(s.heap.get? P=some (tabObj #[])∧s.heap.objs.size ≤ c'∧c' ≠ f))→s.heap.objs.size ≤ f →
  h'.get? f=some (kla_obj "<lambda>" q params body scope clos ((mg "__name__").getD .none) c' ctv)→h'.CodeRec (.ref c') q→Q (.ref f) { s with heap:=h',toks:=tk }) :
 wpAny M A (eval (.Lambda params body scope pos) env) Q E s:=by
 refine kla_eval hdef ?_
 rw [hq]
 obtain ⟨ps,hP,z | ⟨c',z,hr⟩⟩:=hT
 ·subst z
  refine kla_makeFunction (mg:=mg) hcl hge0 hg hcode C hP trivial rfl hgP hb fun c' ctv h' tk hx hge hlt hrec htb=>?_
  have up:∀ b o,h'.get? b=some o→(h'.push (kla_obj "<lambda>" q params body scope clos ((mg "__name__").getD .none) c' ctv)).get? b=some o:=fun b o e=>Heap.get?_push_of_some _ e
  obtain ⟨c2,oc,vs,tq,e1,e2,e3⟩:=hrec
  refine h h'.objs.size c' ctv _ tk (fun b o hb e=>up b o (hx b o hb e)) (up _ _ (by rw [htb];rfl)) (.inr ⟨hP,hge,bQ hlt⟩) (bV hge (gC hlt)) (Heap.get?_push_size _ rfl) ⟨c2,oc,vs,tq,e1,up _ _ e2,e3⟩
 ·subst z
  have ha:codeAmong pos (ent pos c').toList=some (.ref c'):=by simp [codeAmong,rawInt]
  refine kla_makeFunctionHit (mg:=mg) hcl hge0 hg hcode C hP trivial ha hb fun ctv h' tk hk hsz=>?_
  have up:∀ b o,s.heap.get? b=some o→(h'.push (kla_obj "<lambda>" q params body scope clos ((mg "__name__").getD .none) c' ctv)).get? b=some o:=fun b o e=>Heap.get?_push_of_some _ (hk b o e)
  obtain ⟨c2,oc,vs,tq,e1,e2,e3⟩:=hr
  exact h h'.objs.size c' ctv _ tk (fun b o _ e=>up b o e) (up _ _ hP) (.inl hP) hsz (Heap.get?_push_size _ rfl) ⟨c2,oc,vs,tq,e1,up _ _ e2,e3⟩
end
end XL
namespace XL
open PySem PySem.Spec PySem.W PyProof.Rows L2 My D3 XS
section
variable {prog:Program} {w:World} {A:Around} {h₀:Heap} {L kS:Addr} {m:Str→Option Value} {f:Value} {nw:List (Addr × Obj)}
def Ci (prog:Program) (w:World) (A:Around) (nw:List (Addr × Obj)) (f v:Value) (k:Int):Prop :=
 ∃ t,∀ (s:Shared) (R:Result→Shared→Prop),(∀ p ∈ nw,s.heap.get? p.1=some p.2)→s.heap.NoLimit→(∀ h' tk,(∀ b o,s.heap.get? b=some o→h'.get? b=some o)→R (.ok (.ret (.int k t))) { s with heap:=h',toks:=tk }) →
  codeAny (model prog w) A (.call f ⟨[v],[]⟩) R s
theorem Cj {Fin:List Value→Nat→Shared→Prop} (hne:∀ y ∈ nw,y.1 ≠ kS) (hlim:∀ s:Shared,(∀ p ∈ nw,s.heap.get? p.1=some p.2)→s.heap.NoLimit):∀ (vs:List Value) (ns:List Int) (ks:List Value) (e:Nat) (s:Shared),Paired (fun v k=>Ci prog w A nw f v k) vs ns →
 Fr h₀ L s.heap m→News h₀ L s.heap ((kS,seqObj "list" (iy ks) e) :: nw) →
 (∀ ks' e' s',Fr h₀ L s'.heap m→News h₀ L s'.heap ((kS,seqObj "list" (iy (ks++ks')) e') :: nw)→s'.gens=s.gens→s'.drawn=s.drawn→s'.os=s.os→Paired (fun (v:Value) (k:Int)=>∃ t,v = .int k t) ks' ns→Fin (ks++ks') e' s') →
 KatKeys prog w A h₀ L m kS f Fin vs ks e s
 | [],_,ks,e,s,p,F,N,h=>by
  cases p
  have:=h [] e s F (by rw [cY];exact N) rfl rfl rfl .nil
  rw [cY] at this
  exact this
 | v :: vs,_,ks,e,s,p,F,N,h=>by
  cases p with
  | cons p1 p2 =>
  rename_i k ns
  obtain ⟨t,c⟩:=p1
  have hnw:∀ p ∈ nw,s.heap.get? p.1=some p.2:=fun p hp=>(N p (aM _ hp)).1
  refine KatKeys.cons (wpAny_call (c s _ hnw (hlim s hnw) fun h' tk hk=>?_))
  have F':Fr h₀ L h' m:=⟨F.ns.keeps hk,fun b o z=>hk b o (F.keep b o z),F.above⟩
  have N':News h₀ L h' ((kS,seqObj "list" (iy ks) e) :: nw):=fun p hp=>⟨hk _ _ (N p hp).1,(N p hp).2⟩
  refine KatBack.intro (s:={ s with heap:=h',toks:=tk }) F' N' (.head hne) fun h2 e2 F2 N2=>?_
  refine Cj hne hlim vs ns (ks++[.int k t]) e2 { s with heap:=h2,toks:=tk } p2 F2 N2 fun ks' e' s' F3 N3 g1 g2 g3 q=>?_
  have z:=h (.int k t :: ks') e' s' F3 (by rw [show ks++.int k t :: ks'=ks++[.int k t]++ks' by simp];exact N3) g1 g2 g3 (.cons ⟨t,rfl⟩ q)
  rw [show ks++.int k t :: ks'=ks++[.int k t]++ks' by simp] at z
  exact z
end
section
variable {prog:Program} {w:World} {A:Around} {E:Value→Shared→Prop} {s:Shared} {h₀:Heap} {L l fa:Addr} {m:Str→Option Value} {vs:List Value} {ns:List Int} {news:List (Addr × Obj)} {Q:Value→Shared→Prop}
def ltK (ns:List Int) (i j:Nat):Bool:=decide (ns.getD i 0 < ns.getD j 0)
theorem wZ (a b:Value):argsOk "sorted" ⟨[a],[(Str.ofString "key", b)]⟩:=by unfold argsOk;kernel_rfl
theorem uW (a b:Value):argsOk "list.sort" ⟨[a],[(Str.ofString "key", b)]⟩:=by unfold argsOk;kernel_rfl
theorem ints_of:∀ {ks:List Value} {ns:List Int},Paired (fun (v:Value) (k:Int)=>∃ t,v = .int k t) ks ns→IntsAre ks ns
 | _,_,.nil=>.nil
 | _,_,.cons p q=>by
  obtain ⟨t,rfl⟩:=p
  exact .cons _ _ (ints_of q)
theorem zX:∀ {ks:List Value} {ns:List Int},Paired (fun (v:Value) (k:Int)=>∃ t,v = .int k t) ks ns→∀ i,i < ks.length→∃ t,ks.getD i .none = .int (ns.getD i 0) t
 | _,_,.nil,i,h=>by cases h
 | _,_,.cons p q,0,h=>by obtain ⟨t,rfl⟩:=p;exact ⟨t,rfl⟩
 | _,_,.cons p q,i + 1,h=>by
  obtain ⟨t,e⟩:=zX q i (by simpa using h)
  exact ⟨t,by simpa using e⟩
theorem Kp (F:Fr h₀ L s.heap m) (N:News h₀ L s.heap news) (hl:s.heap.IsList l vs.toArray) (h2:2 ≤ vs.length) (h64:vs.length < 64)
 (hc:Paired (fun v k=>Ci prog w A.in1.in1 news (.ref fa) v k) vs ns) (hlim:∀ s:Shared,(∀ p ∈ news,s.heap.get? p.1=some p.2)→s.heap.NoLimit)
 (h:∀ D h' e tk,Fr h₀ L h' m→News h₀ L h' ((D,seqObj "list" (iy ((m8 vs.length (ltK ns)).map fun i=>vs.getD i Value.none)) e) :: news)→(∀ q ∈ news,q.1 < D)→Q (.ref D) { s with heap:=h',toks:=tk }) :
 wpAny (model prog w) A (call (.builtin "sorted") [.ref l] [(Str.ofString "key", .ref fa)]) Q E s:=by
 refine kat_sortedK (b:=false) (f:=.ref fa) F N hl h2 h64 (wZ _ _) (fun x=>uW _ _) (fun x=>ksk_t1 fa x) fun D kS e1 h' F' N' lt1 lt2=>?_
 have hne:∀ y ∈ (D,seqObj "list" #[] e1) :: news,y.1 ≠ kS:=fun y hy=>by
  rcases bA.mp hy with rfl | z
  ·exact bQ lt1
  ·exact bQ (jG (lt2 y z) lt1)
 have hc':Paired (fun v k=>Ci prog w A.in1.in1 ((D,seqObj "list" #[] e1) :: news) (.ref fa) v k) vs ns:=Paired.mapP hc fun v k ⟨t,z⟩=>⟨t,fun s R q1 q2 q3=>z s R (fun p hp=>q1 p (aM _ hp)) q2 q3⟩
 refine Cj (kS:=kS) hne (fun s q=>hlim s fun p hp=>q p (aM _ hp)) vs ns [] 0 _ hc' F' N' fun ks e s' F2 N2 g1 g2 g3 pk=>?_
 have lk:ks.length=vs.length:=pk.length.trans hc.length.symm
 rw [pN] at N2 ⊢
 rw [ksk_kind (ints_of pk) (by rw [bL,lk];exact h2)]
 refine wpAny_pure ?_
 refine zL (n:=vs.length) (lt:=ltK ns) (R:=good vs.length) (fun i j C hi hj hC=>?_) _ (uG (by omega)) ?_
 ·obtain ⟨t1,q1⟩:=zX pk i (by rw [lk];exact hi)
  obtain ⟨t2,q2⟩:=zX pk j (by rw [lk];exact hj)
  unfold kas_ask
  show wpAny _ _ (keyLt' oneType' (ks.getD i Value.none) (ks.getD j Value.none)) _ _ _
  rw [q1,q2]
  exact kat_lt_int hC
 ·obtain ⟨hp,gn,dr,tk,os⟩:=s'
  simp only at g1 g2 g3 F2 N2
  subst g1 g2 g3
  refine KatFin.intro F2 N2 (.head hne) fun h3 c3 F3 N3=>?_
  refine KasFin.intro F3 N3 (.tail (Nat.ne_of_gt lt1) (.head fun y hy=>bQ (lt2 y hy))) fun h4 c4 F4 N4=>?_
  exact h D h4 c4 tk F4 (fun p hp=>N4 p (aM _ hp)) lt2
theorem yP {α β:Type} {R:α→β→Prop}:∀ {l:List α} {r:List β},Paired R l r→∀ {i:Nat} {a:α} {b:β},l[i]? = some a→r[i]? = some b→R a b
 | _,_,.nil,i,a,b,h,_=>by simp at h
 | _,_,.cons p q,0,a,b,h1,h2=>by
  simp at h1 h2
  subst h1 h2
  exact p
 | _,_,.cons p q,i + 1,a,b,h1,h2=>yP q (i:=i) (by simpa using h1) (by simpa using h2)
theorem Oe (F:Fr h₀ L s.heap m) (N:News h₀ L s.heap news) (hl:s.heap.IsList l vs.toArray) (h1:vs.length ≤ 1)
 (hc:Paired (fun v k=>Ci prog w A.in1.in1 news (.ref fa) v k) vs ns) (hlim:∀ s:Shared,(∀ p ∈ news,s.heap.get? p.1=some p.2)→s.heap.NoLimit)
 (h:∀ D h' e tk,Fr h₀ L h' m→News h₀ L h' ((D,seqObj "list" (iy vs) e) :: news)→(∀ q ∈ news,q.1 < D)→Q (.ref D) { s with heap:=h',toks:=tk }) :
 wpAny (model prog w) A (call (.builtin "sorted") [.ref l] [(Str.ofString "key", .ref fa)]) Q E s:=by
 refine ksk_sorted (b:=false) (kz:=ns) (f:=.ref fa) F N hl hc.length.symm (by omega) (wZ _ _) (fun x=>uW _ _) (fun x=>ksk_t1 fa x) (fun i v k hv hk hp tk own F' N'=>?_) fun D h' tk out c F' N' lt ko=>?_
 ·obtain ⟨t,z⟩:=yP hc hv hk
  have hnw:∀ p ∈ news,hp.get? p.1=some p.2:=fun p q=>(N' p (bf _ q)).1
  refine wpAny_call (z { s with heap:=hp,toks:=tk } _ hnw (hlim { s with heap:=hp,toks:=tk } hnw) fun h2 tk2 hk2=>?_)
  exact ⟨h2,tk2,t,rfl,rfl,⟨F'.ns.keeps hk2,fun b o z=>hk2 b o (F'.keep b o z),F'.above⟩,fun p q=>⟨hk2 _ _ (N' p q).1,(N' p q).2⟩⟩
 ·obtain ⟨ps,hp,ho,_⟩:=ko
  have e:out.toList=vs:=by
   cases hc with
   | nil =>
    have hp:ps.Perm []:=hp
    rw [List.perm_nil.mp hp] at ho
    exact ho
   | cons p q =>
    cases q with
    | nil =>
     have hp:ps.Perm [(_,_)]:=hp
     rw [List.perm_singleton.mp hp] at ho
     exact ho
    | cons _ _=>simp at h1
  have e2:out=vs.toArray:=Array.toList_inj.mp (e.trans (by simp))
  rw [e2] at N'
  exact h D h' c tk F' N' lt
end
end XL
namespace XS
open PySem D3
def su (l:List D) (ns:List Int):List D:=if l.length ≤ 1 then l else (m8 l.length fun i j=>decide (ns.getD i 0 < ns.getD j 0)).map fun i=>l.getD i .none
def zY (fa fe:FE) (ix:List Nat):FE:=fun δ=>(fa δ).bind fun x=>match x with
 | .list l=>if l.length < 64∧flats l=true then (d_ (gNl 0) D3.jR fe (jx 1 ix δ) l).bind fun ks=>(jd ks).map fun ns=>.list (su l ns) else none
 | _=>none
def dK0:FE:=fun δ=>match δ with
 | [some (.d (.int z)),some (.d (.list ds))]=>(pAt ds z).bind fun t=>match t with
  | .tuple (.int n :: _)=>some (.int n)
  | _=>none
 | _=>none
def qSK (x:Option D) (k:List D→Option (List D)):Option D:=match x with
 | some (.list l)=>if l.length < 64∧flats l=true then (k l).bind fun ks=>(jd ks).map fun ns=>.list (su l ns) else none
 | _=>none
theorem Og {fa fe:FE} {ix:List Nat} {δ:DS}:zY fa fe ix δ=qSK (fa δ) (d_ (gNl 0) D3.jR fe (jx 1 ix δ)):=by
 unfold zY qSK
 cases fa δ with
 | none=>rfl
 | some d=>cases d <;> rfl
theorem Ia {l ks:List D} {ns:List Int} {k:List D→Option (List D)} (h1:l.length < 64) (h2:flats l=true) (h3:k l=some ks) (h4:jd ks=some ns):qSK (some (.list l)) k=some (.list (su l ns)):=by
 unfold qSK
 dsimp only
 rw [if_pos ⟨h1,h2⟩,h3,aL,h4]
 rfl
end XS
namespace XL
open PySem PySem.Spec PySem.W PyProof.Rows L2 My D3 XS
section
variable {X:Cx} {pins:List (Addr × Obj)} {σ:L2.St} {H:Hp} {s:Shared} {h':Heap} {P c':Addr} {q:Str} {lp:Pos} {tk:Nat}
theorem Oh (I:Inv X pins σ H s) (hT:H P=some (.tbl q lp)) (kp:∀ b o,b ≠ P→s.heap.get? b=some o→h'.get? b=some o) (hP:h'.get? P=some (tabObj (ent lp c')))
 (hor:s.heap.get? P=some (tabObj (ent lp c'))∨(s.heap.get? P=some (tabObj #[])∧s.heap.objs.size ≤ c')) (hrec:h'.CodeRec (.ref c') q) :
 ∃ H2,Inv X pins σ H2 { s with heap:=h',toks:=tk }∧Same H H2:=by
 rcases hor with z | ⟨z,hge⟩
 ·refine ⟨H,I.kept fun b o e=>?_,fun _ _ e=>e⟩
  by_cases hb:b=P
  ·subst hb
   rw [z] at e;cases e
   exact hP
  ·exact kp b o hb e
 ·have hn:H c'=none:=I.hok.fresh hge
  have ne:∀ {b u},H b=some u→b ≠ c':=fun e=>jm e hn
  have nP:∀ {b},H b=none→b ≠ P:=fun e y=>by rw [y,hT] at e;cases e
  refine ⟨upd H c' (.own P),?_,dN hn _⟩
  refine I.step (g':=s.gens) (d':=s.drawn) (ch:=[]) (fun b hb=>by cases hb) (fun b u _ _ _ e n=>kp b u (nP n) e) (fun b u _ _ _ e n=>⟨u.slots,kp b u (nP n) e⟩) (fun b u _ e n=>?_) (fun b u _ e=>?_)
   (fun b xs e=>by rw [cJ (ne e)];exact e) (fun b u v e=>by rw [cJ (ne e)];exact e) (fun b q p e=>by rw [cJ (ne e)];exact e) (fun m ⟨o,es,ep,e,r⟩=>⟨o,es,ep,kp _ o (nP I.free) e,r⟩) (fun b u e=>?_) I.bare
  ·rw [cJ (bQ (bT (Heap.lt_size e) hge))];exact n
  ·by_cases hb:b=P
   ·exact ⟨_,by rw [hb];exact hP⟩
   ·exact ⟨u,kp b u hb e⟩
  ·by_cases hb:b=c'
   ·subst hb
    rw [dg] at e
    cases e
    obtain ⟨c2,oc,vs,tq,e1,e2,_⟩:=hrec
    cases e1
    exact ⟨_,e2⟩
   ·rw [cJ hb] at e
    by_cases hbP:b=P
    ·subst hbP
     rw [hT] at e;cases e
     exact ⟨_,hP,.inr ⟨c',rfl,dg,hrec⟩⟩
    ·refine (I.hok b u e).stay (fun c w hc y=>kp c w (fun y2=>?_) y) (fun c y=>by rw [cJ (ne y)];exact y) fun c xs y=>by rw [cJ (ne y)];exact y
     rcases hc with rfl | y3
     ·exact hbP y2
     ·rw [y2,hT] at y3;cases y3
end
theorem Oi {K:Frag} {H H':Hp} {a:Addr} {xs:List V} (e:Same H H') (h:SqL K H a xs):SqL K H' a xs:=by
 rcases h with (h | ⟨o,h⟩) | h
 ·exact .inl (.inl (e _ _ h))
 ·exact .inl (.inr ⟨o,e _ _ h⟩)
 ·exact .inr h
theorem yQ:∀ {ys:List V} {vs:List Value},Vals ys vs→∀ i,RelV (ys.getD i .non) (vs.getD i .none)
 | _,_,.nil,i=>by simp;rfl
 | _,_,.cons r rs,0=>r
 | _,_,.cons r rs,i + 1=>by simpa using yQ rs i
theorem yR {fe:FE} {δ0:DS}:∀ {l ks:List D} {ns:List Int},d_ (gNl 0) D3.jR fe δ0 l=some ks→jd ks=some ns→Paired (fun d n=>∃ δ1,gNl 0 d δ0=some δ1∧fe δ1=some (.int n)) l ns
 | [],ks,ns,h1,h2=>by
  cases h1
  cases h2
  exact .nil
 | d :: l,ks,ns,h1,h2=>by
  unfold d_ at h1
  obtain ⟨δ1,e1,h1⟩:=bind1 h1
  obtain ⟨b,e2,h1⟩:=bind1 h1
  cases e2
  rw [if_pos rfl] at h1
  obtain ⟨x,e3,h1⟩:=bind1 h1
  obtain ⟨r,e4,h1⟩:=bind1 h1
  cases h1
  cases x with
  | int n =>
   have h2':(jd r).bind (fun m=>some (n :: m))=some ns:=by
    cases e5:jd r with
    | none=>unfold jd at h2;rw [e5] at h2;cases h2
    | some m=>unfold jd at h2;rw [e5] at h2;cases h2;rfl
   obtain ⟨m,e5,e6⟩:=bind1 h2'
   cases e6
   exact .cons ⟨δ1,e1,e3⟩ (yR e4 e5)
  | _=>unfold jd at h2;cases h2
theorem Gw {K:PySem.W.Frag} {ok:Ok} {pl:Bool} {H:Hp} {S:D→Int→Prop} {R:Value→Int→Prop} (f:∀ y d v n,RA K ok pl H y d→RelV y v→S d n→R v n):∀ {ys:List V} {l:List D} {vs:List Value} {ns:List Int},RAs K ok pl H ys l→Vals ys vs→Paired S l ns→Paired R vs ns
 | _,_,_,_,.nil,.nil,.nil=>.nil
 | _,_,_,_,.cons a b,.cons c d,.cons e g=>.cons (f _ _ _ _ a c e) (Gw f b d g)
structure LamAt (X:Cx) (P:Addr) (q:Str) (lp:Pos):Prop where
 cd:∃ c,X.env.code = .ref c∧codeHdIn X.K c P=true
 qn:X.env.qual ++ "<lambda>" = q
 tb:(P,q,lp) ∈ tabs
section
variable {X:Cx} {fl:List Fl} {e:Expr} {fa:FE} {p pos kpos lp p1 p2 p3 p4 p5:Pos} {x y q:Str} {P:Addr} {kd i k:Nat} {params:Arguments} {scope:Scope}
theorem S_ {δ0 δ1:DS} {d:D} {n:Int} {u:Option U} (h0:δ0=[none,u]) (h1:gNl 0 d δ0=some δ1) (h2:dK0 δ1=some (.int n)):∃ z ds r,d = .int z∧u=some (.d (.list ds))∧pAt ds z=some (.tuple (.int n :: r)):=by
 subst h0
 cases h1
 unfold dK0 at h2
 split at h2
 ·next z ds e =>
  cases e
  obtain ⟨t,e1,e2⟩:=bind1 h2
  split at e2
  ·next m r=>cases e2;exact ⟨z,ds,r,rfl,rfl,e1⟩
  ·cases e2
 ·cases h2
theorem Eh (hl:LamAt X P q lp) (hr:Room k X.A) (ha:DB X fl .P [e] (aG fa aV)) (hg:Gl X "sorted") (hm:X.mg "sorted" = none)
 (hix:X.N[i]? = some x) (hfl:fl[i]? = some .A) (hcell:X.env.kindOf x=some .cell)
 (hdef:defaultsOf params X.env=([],[])) (hcl:∀ c,X.env.cells.lookup x=some c→closureFor scope X.env=pure [(x,c)])
 (hbind:∀ (cl:List (Str × Addr)) (pm:Value) (c':Addr) (ctv u:Value),bindArgs (kla_fn "<lambda>" q params (H_ x y p1 p2 p3 p4 p5 kd) scope cl pm (.ref c') ctv) ⟨[u],[]⟩=pure [(y,u)])
 (hco:scope.isCoroutine=false) (hgen:scope.isGenerator=false) (hk:scope.kind = .function) (hcells:∀ z ∈ scope.names,z.2 ≠ .cell) (hy:scope.names.lookup y=some .local) (hxf:scope.names.lookup x=some .free)
 (hxd:(x == ("__debug__" : Str))=false) (hyd:(y == ("__debug__" : Str))=false) (hxc:(x == ("__classdict__" : Str))=false)
 (he:backTo pos (starEach [e] X.env)=(false,eval e X.env) :: backTo pos (starEach [] X.env)) (hpl:(backTo pos (starEach [e] X.env)).any (·.1)=false)
 : DE X fl .FC (.Call (.Name "sorted" p) [e] [⟨some (Str.ofString "key"),.Lambda params (H_ x y p1 p2 p3 p4 p5 kd) scope lp,kpos⟩] pos) (zY fa dK0 [i]):=by
 have bs:bootBuiltins "sorted" = some (.builtin "sorted"):=by decide +kernel
 intro pins s σ H Q I hq
 obtain ⟨G,ow,δ,d,R,hf,q0⟩:=hq
 obtain ⟨xd,e1,hf1⟩:=bind1 hf
 obtain ⟨l,rfl⟩:∃ l,xd = .list l:=by
  cases xd <;> first | exact ⟨_,rfl⟩ | cases hf1
 dsimp only at hf1
 by_cases hc:l.length < 64∧flats l=true
 case neg=>rw [if_neg hc] at hf1;cases hf1
 rw [if_pos hc] at hf1
 obtain ⟨ks,e2,hf2⟩:=bind1 hf1
 cases e3:jd ks with
 | none=>rw [e3] at hf2;cases hf2
 | some ns =>
 rw [e3] at hf2
 cases hf2
 have e1':aG fa aV δ=some [.list l]:=by unfold aG;rw [e1];rfl
 refine wpAny_Call_Name_kw (qb I hg hm bs ?_)
 refine PyProof.Rows.callWith_kw ?_ he hpl rfl rfl
 refine thn (ha pos pins s σ H (fun vs H1=>Same H H1∧RAs X.K ok1 true H1 vs [.list l]) I ⟨G,ow,δ,_,R,e1',fun vs H' s' r'=>⟨s',r'⟩⟩) fun us s1 ⟨vs,H1,I1,r1,sm1,ra⟩=>?_
 cases ra with
 | cons ra1 ra2 =>
 cases ra2
 obtain ⟨a,ys,rfl,hx,hrs⟩:=ra1.lstE
 cases r1 with
 | cons c1 c2 =>
 cases c2
 cases c1
 have R1:=R.grow sm1
 have hT:H1 P=some (.tbl q lp):=R1.tb _ hl.tb
 obtain ⟨c,hcx⟩:=I1.ok.has x (.inl hcell)
 obtain ⟨cc,hcode,hhd⟩:=hl.cd
 have KX:=I1.kIn
 have hgl:s1.heap.Ns mainGlobals X.mg:=I1.mod.glob.keeps I1.bk
 have hgP:mainGlobals ≠ P:=fun z=>by
  obtain ⟨o,_,_,g1,_⟩:=I1.mod.glob
  have:=(I1.bs _ _ g1).2
  rw [z,hT] at this;cases this
 have hbm:s1.heap.BuiltinsAt X.mg P:=by
  obtain ⟨bm,ob,g1,g2,g3,g4,g5,g6⟩:=I1.mod.bm
  refine ⟨bm,ob,g1,g2,fun z=>?_,fun z=>?_,I1.bk _ _ g3,g4,g5,g6⟩
  ·obtain ⟨o,_,_,k1,k2,_⟩:=I1.mod.glob
   rw [z,k1] at g3;cases g3
   rw [k2] at g6;cases g6
  ·have:=(I1.bs _ _ g3).2
   rw [z,hT] at this;cases this
 have hTT:∃ ps,s1.heap.get? P=some (tabObj ps)∧(ps = #[]∨∃ c',ps=ent lp c'∧s1.heap.CodeRec (.ref c') q):=by
  obtain ⟨ps,g1,g2⟩:=I1.hok P _ hT
  refine ⟨ps,g1,?_⟩
  rcases g2 with g | ⟨c',g,_,g3⟩
  ·exact .inl g
  ·exact .inr ⟨c',g,g3⟩
 show wpAny _ _ (evalAll [do let v ← eval (.Lambda params (H_ x y p1 p2 p3 p4 p5 kd) scope lp) X.env;standAt pos;pure v]) _ _ s1
 refine wpAny_evalAll_cons (wpAny_bind ?_)
 refine Ko (mg:=X.mg) hl.qn hdef (hcl c hcx) I1.ok.glob hgl hcode (codeHd_of_K KX hhd) hgP hbm hTT fun f c' ctv h' tk kp hP' hor hfs hfo hrec=>wpAny_bind (wpAny_standAt (wpAny_pure ?_))
 refine wpAny_evalAll_nil ?_
 show wpAny _ _ (PySem.call (.builtin "sorted") [.ref a] [(Str.ofString "key", .ref f)]) _ _ _
 obtain ⟨H2,I2,sm2⟩:=Oh (tk:=tk) I1 hT kp hP' (hor.imp (fun z=>z) fun z=>⟨z.1,z.2.1⟩) hrec
 have R2:=R1.grow sm2
 obtain ⟨its,rvs,pli,hz⟩:=I2.list (show SqL X.K H2 a ys from Oi sm2 hx)
 have hrs2:=hrs.same sm2
 have len:its.length=l.length:=rvs.length.symm.trans hrs2.length
 obtain ⟨m,hmm,hlk⟩:=id I2.loc
 have notL:∀ {b:Addr} {o:Obj},h'.get? b=some o→(∀ es ep,o.data ≠ .dict es ep)→b ≠ X.env.locals:=fun {b o} g1 g2 z=>by
  obtain ⟨o2,es,ep,k1,k2,_⟩:=hmm
  rw [← z] at k1
  rw [show h'.get? b=some o2 from k1] at g1;cases g1
  exact g2 _ _ k2
 have mem:∀ {b:Addr} {o:Obj},h'.get? b=some o→b ≠ X.env.locals→(b,o) ∈ mD (Att.kW h') h' X.env.locals:=fun g1 g2=>p8 g2 (Att.pq _ _) g1
 have hlim:∀ s':Shared,(∀ p ∈ mD (Att.kW h') h' X.env.locals,s'.heap.get? p.1=some p.2)→s'.heap.NoLimit:=fun s' hk'=>I2.ok.mod.nolimit.keeps fun b o g=>hk' (b,o) (mem (I2.bk b o g) (bQ (bT (Heap.lt_size (I2.ok.bs b o g).1) I2.ok.above)))
 have calls:Paired (fun v n=>Ci X.prog X.w X.A.in1.in1 (mD (Att.kW h') h' X.env.locals) (.ref f) v n) its ns:=by
  refine Gw (S:=fun d n=>∃ δ1,gNl 0 d (jx 1 [i] δ)=some δ1∧dK0 δ1=some (.int n)) (fun y0 d v n r1 r2 ⟨δ1,g1,g2⟩=>?_) hrs2 rvs (yR e2 e3)
  obtain ⟨z,ds,r,rfl,g4,g5⟩:=S_ (u:=(δ[i]?).getD none) rfl g1 g2
  obtain rfl:=r1.intE
  obtain ⟨t0,rfl⟩:=r2
  have g6:δ[i]? = some (some (.d (.list ds))):=by
   cases g7:δ[i]? with
   | none=>rw [g7] at g4;cases g4
   | some u=>rw [g7] at g4;exact congrArg some g4
  have own0:ow i=none:=by
   cases g7:ow i with
   | none=>rfl
   | some b =>
    obtain ⟨_,g8,_⟩:=R2.own i b g7
    rw [hfl] at g8
    rcases g8 with ⟨g8,_⟩ | ⟨g8,_⟩ <;> cases g8
  obtain ⟨v0,k1,k2⟩:=R2.dat i _ g6 (by rw [hfl];rfl) own0
  obtain ⟨b,xs,rfl,k3,k4⟩:=k2.lstE
  obtain ⟨v1,k5,k6⟩:=k4.at g5
  obtain ⟨b2,ws,rfl,k7,k8⟩:=k6.tupE
  cases k8 with
  | cons k9 k10 =>
  obtain rfl:=k9.intE
  obtain ⟨it2,rv2,pl2,hz2⟩:=I2.list k3
  obtain ⟨it3,rv3,pl3,_⟩:=I2.tuple k7
  obtain ⟨j,j1,j2,j3,j4,j5⟩:=vm k5
  obtain ⟨w1,j6,j7⟩:=rv2.get j2
  cases j7
  cases rv3 with
  | cons r3 rv3 =>
  obtain ⟨t3,rfl⟩:=r3
  have l2:=rv2.length
  obtain ⟨u,u1,u2⟩:=hlk i x _ hix k1 (.inr (.inl hcell))
  cases u1
  rcases u2 with ⟨u3,_⟩ | ⟨_,cl,u4,u5⟩
  ·have:some NameKind.cell=some NameKind.local:=hcell.symm.trans u3
   cases this
  have:cl=c:=by rw [hcx] at u4;exact (cU.inj u4).symm
  subst this
  refine ⟨t3,fun s' R' hk' hlim' hR=>?_⟩
  have kk:∀ {b:Addr} {o:Obj},h'.get? b=some o→(∀ es ep,o.data ≠ .dict es ep)→s'.heap.get? b=some o:=fun g1 g2=>hk' _ (mem g1 (notL g1 g2))
  have f1:s'.heap.get? f=some (kla_obj "<lambda>" q params (H_ x y p1 p2 p3 p4 p5 kd) scope [(x,cl)] ((X.mg "__name__").getD .none) c' ctv):=kk hfo (fun _ _ z=>by cases z)
  have f2:s'.heap.CodeRec (.ref c') q:=by
   obtain ⟨c2,oc,vs2,tq,w1,w2,w3,w4⟩:=hrec
   exact ⟨c2,oc,vs2,tq,w1,kk w2 (fun _ _ z=>by rw [w3] at z;cases z),w3,w4⟩
  have f3:s'.heap.IsCell cl (some (.ref b)):=by
   obtain ⟨o,w1,w2⟩:=u5
   exact ⟨o,kk w1 (fun _ _ z=>by rw [w2] at z;cases z),w2⟩
  have f4:s'.heap.IsList b it2.toArray:=by
   obtain ⟨o,w1,w2,w3,w4⟩:=pl2.isList
   exact ⟨o,kk w1 (fun _ _ z=>by rw [w4] at z;cases z),w2,w3,w4⟩
  have f5:∀ {it5:Array Value},IsTup h' b2 it5→IsTup s'.heap b2 it5:=fun ⟨o,w1,w2,w3,w4⟩=>⟨o,kk w1 (fun _ _ z=>by rw [w4] at z;cases z),w2,w3,w4⟩
  exact Od (i:=z) (j:=j) (its:=it2.toArray) f1 f2 (by have:=hr.dp;show X.A.depth < _;omega) hlim' (fun u=>hbind _ _ _ _ u) hco hgen hk hcells hy hxf hxd hyd hxc f3 f4 (by rw [bL,← l2];exact j4) (by rw [bL,← l2];exact j5)
   (by rw [bL,← l2];exact hz2) (by rw [bL,← l2];exact j1) (by simpa using j6) (f5 pl3) (by simp) hR
 have fin:∀ (D:Addr) (h3:Heap) (ec tk3:Nat) (is:List V) (ds:List D3.D) (vo:List Value),Vals is vo→is.length ≤ sizeLine→(∀ (Hx:Hp),RAs X.K ok1 true Hx ys l→RAs X.K ok0 false Hx is ds) →
  su l ns=ds→Fr (Att.kW h') X.env.locals h3 m→News (Att.kW h') X.env.locals h3 ((D,seqObj "list" (iy vo) ec) :: mD (Att.kW h') h' X.env.locals)→(∀ z ∈ mD (Att.kW h') h' X.env.locals,z.1 < D) →
  EP X pins σ Q (.ref D) { s1 with heap:=h3,toks:=tk3 }:=fun D h3 ec tk3 is ds vo v1 v2 v3 v4 F3 N3 lt=>by
  have kept3:∀ b o,b ≠ X.env.locals→h'.get? b=some o→h3.get? b=some o:=fun b o hb g=>(N3 (b,o) (aM _ (mem g hb))).1
  have hD:h'.get? D=none:=by
   cases g:h'.get? D with
   | none=>rfl
   | some o =>
    by_cases z:D=X.env.locals
    ·exact absurd z (N3 _ (aO ..)).2.1
    ·exact absurd (lt (D,o) (mem g z)) (gM _)
  have hn:H2 D=none:=by
   cases g:H2 D with
   | none=>rfl
   | some u =>
    obtain ⟨w,hw⟩:=uH (I2.hok D u g)
    rw [show h'.get? D=some w from hw] at hD;cases hD
  have new:gO X.prog X.w (upd H2 D (.lst is)) h3 D (.lst is):=⟨v2,vo,ec,v1,(N3 _ (aO ..)).1⟩
  have J:=Gj (s:={ s1 with heap:=h',toks:=tk }) (h':=h3) I2 hmm F3.ns kept3 hD new
  refine ⟨.ref D,_,J.tok tk3,rfl,q0 _ _ ((sm1.trans sm2).trans (dN hn _)) (.inr ⟨D,is,ds,rfl,(by show PyData.list (su l ns)=_;rw [v4]),(sm1.trans sm2).free hn,dg,?_⟩)⟩
  exact (v3 _ (hrs2.same (dN hn _))).imp (fun _ z=>z.elim) (fun z=>z)
 by_cases h1:l.length ≤ 1
 ·refine Oe (Att.Dj hmm) vN pli.isList (by rw [len];exact h1) calls hlim fun D h3 ec tk3 F3 N3 lt=>?_
  exact fin D h3 ec tk3 ys l its rvs (by rw [hrs2.length];exact bV h1 (by decide)) (fun Hx r=>RAs.flat hc.2 r) (by unfold su;rw [if_pos h1]) F3 N3 lt
 ·refine Kp (Att.Dj hmm) vN pli.isList (by omega) (by omega) calls hlim fun D h3 ec tk3 F3 N3 lt=>?_
  have eo:su l ns=(m8 its.length (ltK ns)).map fun i=>l.getD i .none:=by unfold su;rw [if_neg h1,len];rfl
  have pm:=jF (n:=its.length) (by omega) (ltK ns)
  refine fin D h3 ec tk3 ((m8 its.length (ltK ns)).map fun i=>ys.getD i .non) _ _ ?_ ?_ ?_ eo F3 N3 lt
  ·generalize m8 its.length (ltK ns)=is
   induction is with
   | nil=>exact .nil
   | cons i is ih=>exact .cons (yQ rvs i) ih
  ·rw [aJ,pm.length_eq,bB,len]
   exact bV (gC hc.1) (by decide)
  ·intro Hx r
   generalize m8 its.length (ltK ns)=is
   induction is with
   | nil=>exact .nil
   | cons i is ih=>exact .cons (RA.flat (wM hc.2 i) (zP r i)) ih
end
theorem Oj {K:Frag} {h:Heap} {c P:Addr} {q:Str} {lp:Pos} (KX:K.In h) (hP:h.get? P=some (tabObj #[])) (hc:codeHdIn K c P=true) (hn:K.lookup P=none) :
 (∀ t ∈ [(P,q,lp)],h.get? t.1=some { cls:=.none,data:=.fields #[] })∧(∀ t ∈ [(P,q,lp)],isCodeTable h t.1)∧∀ t ∈ [(P,q,lp)],K.lookup t.1=none :=
 ⟨fun t ht=>by rw [aK.mp ht];exact hP,fun t ht=>by rw [aK.mp ht];exact ((codeHd_of_K KX hc).tab hP).isCodeTable,fun t ht=>by rw [aK.mp ht];exact hn⟩
theorem Kq {P:Addr} {q:Str} {lp:Pos}:∀ t ∈ [(P,q,lp)],∀ t' ∈ [(P,q,lp)],t.1=t'.1→t=t':=fun t ht t' ht' _=>(aK.mp ht).trans (aK.mp ht').symm
theorem Kr {scope:Scope} {env:Env} {x y:Str} {c:Addr} (hn:scope.names=[(y,.local),(x,.free)]) (h:env.cells.lookup x=some c):closureFor scope env=pure [(x,c)]:=by
 unfold closureFor
 rw [hn]
 simp [cellOf,h]
section
variable {P:Program} {w:World} {K:PySem.W.Frag} {mg:Str→Option Value} {base:Heap} {x:Str} {ps N:List Str} {st:Stmt} {k n:Nat} {fs:FS} {fl:List Fl} {Pt:Addr} {q:Str} {lp:Pos}
structure DgT (K:PySem.W.Frag) (mg:Str→Option Value) (x:Str) (st:Stmt) (ps:List Str) (Pt:Addr) (q:Str) (lp:Pos):Prop where
 ex:∃ (f:Addr) (fd:FuncData) (c:Addr),FunD K x st f fd∧Binds K fd ps []∧mg x=some (.ref f)∧fd.code = .ref c∧codeHdIn K c Pt=true
 tb:(Pt,q,lp) ∈ tabs
theorem Tc {h:Heap} {f c:Addr} {oc kV dc pm ct:Value} {od an:Option Addr} {sl:Array (Option Value)} (X:K.In h) (G:h.Ns mainGlobals mg)
 (hb:∀ (kV doc pm:Value) (an:Option Addr) (cdv ct:Value) (us:List Value),us.length=ps.length→bindArgs (PySem.W.fnOf x x (lC st) (iz st) (bx st) .none kV doc pm an cdv ct) ⟨us,[]⟩=pure (ps.zip us))
 (a:PySem.W.nsIn K mainGlobals x=some (some (.ref f))) (l:K.lookup f=some ⟨oc,od,.func (PySem.W.fnOf x x (lC st) (iz st) (bx st) .none kV dc pm an (.ref c) ct),sl⟩) (ci:PySem.W.codeIn K (.ref c) x=true) (k:PySem.W.keepIn K (.ref f)=true)
 (hd:codeHdIn K c Pt=true) (tb:(Pt,q,lp) ∈ tabs):DgT K mg x st ps Pt q lp :=
 ⟨⟨_,_,c,⟨⟨oc,od,.none,kV,dc,pm,an,.ref c,ct,sl,rfl,l,ci⟩,k⟩,.all (hb kV dc pm an (.ref c) ct),PySem.W.mg_of X G a,rfl,hd⟩,tb⟩
theorem okT {f c:Addr} {fd:FuncData} {sp:Sp} (F:FunD K x st f fd) (hcd:fd.code = .ref c) (S:FnScope N ps (bx st)) (len:∀ vs H Q E,sp vs H Q E→vs.length=ps.length)
 (hbody:∀ (A:Around) (outer:List Env) (s:Shared) (H:Hp) (vs:List V) (Q:VK) (E:XK),Room k (A.deeper (envOfC x (bx st) s.heap.objs.size f (.ref c)))→sp vs H Q E →
  ∃ t,PSs (Bf CX0 P w K mg base N x (bx st) f (.ref c) A outer s H E).nox (iz st) t∧t { nx:=fun _ H'=>Q .non H',rt:=Q } (L2.start N vs) H):FnOk P w K mg base CX0 (k + 1) f fd ps sp:=by
 obtain ⟨oc,od,dV,kV,doc,pm,an,cdv,ct,osl,rfl,lk,hcd'⟩:=F.ex
 have e:cdv = .ref c:=hcd
 subst e
 refine Qn lk hcd' S len fun A outer s H vs Q E hr hsp=>?_
 obtain ⟨t,h,q⟩:=hbody A outer s H vs Q E hr hsp
 exact ⟨t,h.nox,q⟩
theorem Td (Dd:DgT K mg x st ps Pt q lp) (S:FnScope N ps (bx st)) (hp:∀ i,i < ps.length→fl[i]? = some .A) (hN:ps.length ≤ N.length)
 (hbody:∀ (f c:Addr) (A:Around) (outer:List Env) (s:Shared) (H:Hp) (E:XK),codeHdIn K c Pt=true→Room k (A.deeper (envOfC x (bx st) s.heap.objs.size f (.ref c)))→DSs (cx P w K mg base N x st f (.ref c) A outer s H E) fl (iz st) fs) :
 Has P w K mg base (k + 1) x ps (spD K (fnD ps.length (N.length - ps.length) fs)):=by
 obtain ⟨f,fd,c,Fn,b,m,hcd,hhd⟩:=Dd.ex
 refine ⟨f,fd,?_,b,Fn.kp,m⟩
 refine okT Fn hcd S (fun vs H Q E h=>?_) (fun A outer s H vs Q E hr h=>?_)
 ·obtain ⟨ds,d,r,hf,_⟩:=h
  unfold fnD at hf
  by_cases z:ds.length=ps.length
  ·rw [r.2.length];exact z
  ·rw [if_neg z] at hf;cases hf
 ·obtain ⟨ds,d,r,hf,q⟩:=h
  refine ⟨_,hbody f c A outer s H E hhd hr,?_⟩
  unfold fnD at hf
  by_cases z:ds.length=ps.length
  ·rw [if_pos z] at hf
   split at hf
   ·next d' e =>
    cases hf
    exact ⟨_,_,_,_,rF ps.length hp z hN r,e,fun v H' s r=>q v H' s r⟩
   ·next δ' e =>
    cases hf
    exact ⟨_,_,_,_,rF ps.length hp z hN r,e,fun ow' σ' H' R'=>q .non H' R'.same0 .non⟩
   ·cases hf
  ·rw [if_neg z] at hf;cases hf
end
end XL
namespace D3
open PySem PySem.Spec PyProof.Rows L2 My
section
variable {X:Cx} {fl:List Fl} {e a b:Expr} {es:List Expr} {f fa fb:FE} {fr:FA} {k:Kd} {pos:Pos}
theorem vA (i:Nat) {x:Str} (hfl:fl[i]? = some .A:=by rfl) (hN:X.N[i]? = some x:=by rfl) (hv:Vis X.env.scope x:=by first | exact Or.inl rfl | exact Or.inr (Or.inl rfl) | exact Or.inr (Or.inr rfl)) (hd:(x == ("__debug__" : Str))=false:=by decide)
 (hcd:(x == ("__classdict__" : Str))=false:=by decide):DE X fl .A (.Name x pos) (aF i):=zy i hfl hN hv hd hcd
theorem vP (i:Nat) {x:Str} (hfl:fl[i]? = some .A:=by rfl) (hN:X.N[i]? = some x:=by rfl) (hv:Vis X.env.scope x:=by first | exact Or.inl rfl | exact Or.inr (Or.inl rfl) | exact Or.inr (Or.inr rfl)) (hd:(x == ("__debug__" : Str))=false:=by decide)
 (hcd:(x == ("__classdict__" : Str))=false:=by decide):DE X fl .P (.Name x pos) (aF i):=cF (zy i hfl hN hv hd hcd)
theorem vB (i:Nat) {x:Str} (hfl:fl[i]? = some .A:=by rfl) (hN:X.N[i]? = some x:=by rfl) (hv:Vis X.env.scope x:=by first | exact Or.inl rfl | exact Or.inr (Or.inl rfl) | exact Or.inr (Or.inr rfl)) (hd:(x == ("__debug__" : Str))=false:=by decide)
 (hcd:(x == ("__classdict__" : Str))=false:=by decide):DE X fl (.B []) (.Name x pos) (aF i):=dG (zy i hfl hN hv hd hcd)
theorem iP {i j pos}:DE X fl .P (.Constant (.int i) j pos) (dC (.int i)):=bK JL
theorem iC {i j pos}:DE X fl .C (.Constant (.int i) j pos) (dC (.int i)):=gF JL
theorem dz:DB X fl k [] aV:=JT
theorem dq (h:DE X fl k e f) (hr:DB X fl k es fr) (hk:isR k=true:=by rfl) (hs:starEach (e :: es) X.env=(false,eval e X.env) :: starEach es X.env:=by exact lG rfl):DB X fl k (e :: es) (aG f fr):=Nf hk h hr hs
theorem dx {L:List Nat} (ha:DE X fl (.B L) a fa) (hb:DE X fl .P b fb) (hs:zm b:=by exact fun _ _=>rfl):DE X fl .A (.Subscript a b pos) (dOp gIx fa fb):=Vu ha hb hs
theorem sA {i:Nat} {x:Str} {pos':Pos} (hN:X.N.Nodup) (h:DE X fl .A e f) (hfl:fl[i]? = some .A:=by rfl) (hi:X.N[i]? = some x:=by rfl) (hv:X.env.scope.names.lookup x=some .local∨X.env.scope.names.lookup x=some .cell:=by first | exact Or.inl rfl | exact Or.inr rfl)
 (hs:swapsWith e (some (.Name x pos')) pos.line X.env=pure false:=by rfl) (hfn:X.fn x=true∨X.env.scope.names.lookup x=some .local:=by first | exact .inl rfl | exact .inr rfl) :
 DS1 X fl (.Assign [.Name x pos'] e pos) (bW i f):=M_ hfl hN hi hv h hs hfn
theorem gN' {i:Nat} {x:Str} {pos:Pos} (hN:X.N.Nodup) (hfl:fl[i]? = some .A:=by rfl) (hi:X.N[i]? = some x:=by rfl) (hv:X.env.scope.names.lookup x=some .local∨X.env.scope.names.lookup x=some .cell:=by first | exact Or.inl rfl | exact Or.inr rfl)
 (hfn:X.fn x=true∨X.env.scope.names.lookup x=some .local:=by first | exact .inl rfl | exact .inr rfl):DG X fl [i] (.Name x pos) (gNl i):=Nb hfl hN hi hv hfn
end
theorem fsc {N P:List Str} {sc:Scope} (a:sc.kind = .function:=by rfl) (b:sc.isCoroutine=false:=by rfl) (c:sc.isGenerator=false:=by rfl) (d:N.Nodup:=by decide +kernel) (e:N.take P.length=P:=by rfl) (f:∀ x ∈ P,sc.names.lookup x=some .local∨sc.names.lookup x=some .cell:=by decide +kernel) (g:∀ y ∈ sc.names,y.2 ≠ .free:=by decide +kernel):FnScope N P sc:=⟨a,b,c,d,e,f,g⟩
end D3
namespace D3
open PySem
def qS (o:Option Oc) (b:FS):Option Oc:=match o with
 | some (.nx δ)=>b δ
 | some o=>some o
 | none=>none
def qI (o:Option Bool) (a b:FS) (δ:DS):Option Oc:=match o with
 | some true=>a δ
 | some false=>b δ
 | none=>none
def qO (g:D→D→Option D) (a b:Option D):Option D:=match a,b with
 | some x,some y=>g x y
 | _,_=>none
def qU (g:D→Option D) (a:Option D):Option D:=match a with
 | some x=>g x
 | none=>none
def qC (a:Option D) (r:Option (List D)):Option (List D):=match a,r with
 | some x,some l=>some (x :: l)
 | _,_=>none
def qF (F:List D→Option D) (l:Option (List D)):Option D:=match l with
 | some l=>F l
 | none=>none
def qR (a:Option D):Option Oc:=match a with
 | some d=>some (.rt d)
 | none=>none
def Te (i:Nat) (a:Option D) (δ:DS):Option Oc:=match a with
 | some d=>if i < δ.length then some (.nx (δ.set i (some (.d d)))) else none
 | none=>none
def Ie (a:Option D) (fb:FE) (δ:DS):Option D:=match a with
 | some (.bool true)=>fb δ
 | some (.bool false)=>some (.bool false)
 | _=>none
def qOr (a:Option D) (fb:FE) (δ:DS):Option D:=match a with
 | some (.bool true)=>some (.bool true)
 | some (.bool false)=>fb δ
 | _=>none
def qN (a:Option D):Option D:=match a with
 | some (.bool b)=>some (.bool (!b))
 | _=>none
def qB (a:Option D):Option Bool:=match a with
 | some (.bool b)=>some b
 | _=>none
def qTA (a:Option Bool) (b:FT) (δ:DS):Option Bool:=match a with
 | some true=>b δ
 | some false=>some false
 | none=>none
def qTO (a:Option Bool) (b:FT) (δ:DS):Option Bool:=match a with
 | some true=>some true
 | some false=>b δ
 | none=>none
def qTN (a:Option Bool):Option Bool:=match a with
 | some b=>some (!b)
 | none=>none
def qE (a:Option Bool) (fa fb:FE) (δ:DS):Option D:=match a with
 | some true=>fa δ
 | some false=>fb δ
 | none=>none
def qL (a:Option D):Option (List D):=match a with
 | some (.list l)=>some l
 | _=>none
def Tf (a:Option (List D)) (g:FG) (b:FS) (δ:DS):Option Oc:=match a with
 | some l=>jA g b l δ
 | none=>none
def qD (a:Option DS):Option Oc:=match a with
 | some δ=>some (.nx δ)
 | none=>none
def qG (a:Option D) (g:FG) (δ:DS):Option DS:=match a with
 | some d=>g d δ
 | none=>none
def qGs (a:Option DS) (r:List D→DS→Option DS) (l:List D):Option DS:=match a with
 | some δ=>r l δ
 | none=>none
def qT (a:Option (List D)):Option D:=match a with
 | some l=>if l.length ≤ sizeLine then some (.tuple l) else none
 | none=>none
def qK (a:Option (List D)):Option D:=match a with
 | some l=>if l.length ≤ sizeLine then some (.list l) else none
 | none=>none
def qFl (p:D→Bool) (a:Option D):Option D:=match a with
 | some d=>if p d=true then some d else none
 | none=>none
def qA (i:Nat) (x a:Option D) (δ:DS):Option Oc:=match x,a with
 | some (.list l),some d=>if l.length < 1000000 then some (.nx (δ.set i (some (.d (.list (l++[d])))))) else none
 | _,_=>none
def qP (i:Nat) (a x k:Option D) (δ:DS):Option Oc:=match a,x,k with
 | some d,some (.list l),some (.int j)=>(pIx l.length j).bind fun n=>some (.nx (δ.set i (some (.d (.list (l.set n d))))))
 | _,_,_=>none
def qCh (g':D→D→Option D) (z:Option D) (y:Option D) (fc:FE) (δ:DS):Option D:=match z with
 | some (.bool true)=>qO g' y (fc δ)
 | some (.bool false)=>some (.bool false)
 | _=>none
def qFn (o:Option Oc):Option D:=match o with
 | some (.rt d)=>some d
 | some (.nx _)=>some .none
 | _=>none
def qCo (a:Option (List D)) (g:FG) (c:FT) (e:FE) (t:Nat) (ix:List Nat) (δ:DS):Option D:=match a with
 | some l=>if l.length ≤ 100000 then (match d_ g c e (jx t ix δ) l with | some r=>some (.list r) | none=>none) else none
 | none=>none
section
variable {a b:FS} {c c':FT} {fa fb fc:FE} {fr:FA} {δ:DS} {g:D→D→Option D} {h:D→Option D} {F:List D→Option D} {i:Nat} {G:FG} {d:D}
theorem V2:b_ a b δ=qS (a δ) b:=by
 unfold b_ qS
 cases a δ with
 | none=>rfl
 | some o=>cases o <;> rfl
theorem Ks {δ':DS}:qS (some (.nx δ')) b=b δ':=rfl
theorem Ku:qS (some (.rt d)) b=some (.rt d):=rfl
theorem Kv {δ':DS}:qS (some (.bk δ')) b=some (.bk δ'):=rfl
theorem Kw {δ':DS}:qS (some (.ct δ')) b=some (.ct δ'):=rfl
theorem V3:dM δ=some (.nx δ):=rfl
theorem XF:sBk δ=some (.bk δ):=rfl
theorem XH:sCt δ=some (.ct δ):=rfl
theorem XJ:sIf c a b δ=qI (c δ) a b δ:=by
 unfold sIf qI
 cases c δ with
 | none=>rfl
 | some t=>cases t <;> rfl
theorem Tg:qI (some true) a b δ=a δ:=rfl
theorem Ti:qI (some false) a b δ=b δ:=rfl
theorem v_op:dOp g fa fb δ=qO g (fa δ) (fb δ):=by
 unfold dOp qO
 cases fa δ <;> cases fb δ <;> rfl
theorem Tj {x y:D}:qO g (some x) (some y)=g x y:=rfl
theorem XM:dUn h fa δ=qU h (fa δ):=by
 unfold dUn qU
 cases fa δ <;> rfl
theorem Tp {x:D}:qU h (some x)=h x:=rfl
theorem Tq:aV δ=some []:=rfl
theorem Ol:aG fa fr δ=qC (fa δ) (fr δ):=by
 unfold aG qC
 cases fa δ <;> cases fr δ <;> rfl
theorem Ig {x:D} {l:List D}:qC (some x) (some l)=some (x :: l):=rfl
theorem Tr:dCall F fr δ=qF F (fr δ):=by
 unfold dCall qF
 cases fr δ <;> rfl
theorem Ky {l:List D}:qF F (some l)=F l:=rfl
theorem V4:cT fa δ=qR (fa δ):=by
 unfold cT qR
 cases fa δ <;> rfl
theorem Om:qR (some d)=some (.rt d):=rfl
theorem Tt:Vo δ=some (.rt .none):=rfl
theorem V5:bW i fa δ=Te i (fa δ) δ:=by
 unfold bW Vm Te
 cases fa δ with
 | none=>simp
 | some d=>rfl
theorem Oo:Te i (some d) δ=if i < δ.length then some (.nx (δ.set i (some (.d d)))) else none:=rfl
theorem v_c:dC d δ=some d:=rfl
theorem v_and:uo fa fb δ=Ie (fa δ) fb δ:=by
 unfold uo Ie
 cases fa δ with
 | none=>rfl
 | some x =>
  cases x <;> try rfl
  next b=>cases b <;> rfl
theorem Oq:Ie (some (.bool true)) fb δ=fb δ:=rfl
theorem Ot:Ie (some (.bool false)) fb δ=some (.bool false):=rfl
theorem v_or:dOr fa fb δ=qOr (fa δ) fb δ:=by
 unfold dOr qOr
 cases fa δ with
 | none=>rfl
 | some x =>
  cases x <;> try rfl
  next b=>cases b <;> rfl
theorem Tv:qOr (some (.bool true)) fb δ=some (.bool true):=rfl
theorem Tw:qOr (some (.bool false)) fb δ=fb δ:=rfl
theorem v_not:MP fa δ=qN (fa δ):=by
 unfold MP qN
 cases fa δ with
 | none=>rfl
 | some x=>cases x <;> rfl
theorem Ou {b:Bool}:qN (some (.bool b))=some (.bool (!b)):=rfl
theorem XQ:aY fa δ=qB (fa δ):=by
 unfold aY qB
 cases fa δ with
 | none=>rfl
 | some x=>cases x <;> rfl
theorem Tz {b:Bool}:qB (some (.bool b))=some b:=rfl
theorem TF:D3.o9 c c' δ=qTA (c δ) c' δ:=by
 unfold D3.o9 qTA
 cases c δ with
 | none=>rfl
 | some t=>cases t <;> rfl
theorem Kz:qTA (some true) c δ=c δ:=rfl
theorem KC:qTA (some false) c δ=some false:=rfl
theorem V6:D3.tOr c c' δ=qTO (c δ) c' δ:=by
 unfold D3.tOr qTO
 cases c δ with
 | none=>rfl
 | some t=>cases t <;> rfl
theorem Ov:qTO (some true) c δ=some true:=rfl
theorem Ox:qTO (some false) c δ=c δ:=rfl
theorem TJ:D3.oH c δ=qTN (c δ):=by
 unfold D3.oH qTN
 cases c δ <;> rfl
theorem KD {b:Bool}:qTN (some b)=some (!b):=rfl
theorem v_ite:dIf c fa fb δ=qE (c δ) fa fb δ:=by
 unfold dIf qE
 cases c δ with
 | none=>rfl
 | some t=>cases t <;> rfl
theorem Oz:qE (some true) fa fb δ=fa δ:=rfl
theorem OD:qE (some false) fa fb δ=fb δ:=rfl
theorem V7:jT fa δ=qL (fa δ):=by
 unfold jT qL asList
 cases fa δ with
 | none=>rfl
 | some x=>cases x <;> rfl
theorem OJ {l:List D}:qL (some (.list l))=some l:=rfl
theorem V8:lQ fr G b δ=Tf (fr δ) G b δ:=by
 unfold lQ Tf
 cases fr δ <;> rfl
theorem O1 {l:List D}:Tf (some l) G b δ=jA G b l δ:=rfl
theorem Ih:jA G b [] δ=some (.nx δ):=rfl
theorem V9:Vp fa G δ=qD (qG (fa δ) G δ):=by
 unfold Vp qG qD
 cases fa δ with
 | none=>rfl
 | some d =>
  dsimp only [aL]
  cases G d δ <;> rfl
theorem O2:qG (some d) G δ=G d δ:=rfl
theorem O3 {δ':DS}:qD (some δ')=some (.nx δ'):=rfl
theorem XR:gNl i d δ=if i < δ.length then some (δ.set i (some (.d d))) else none:=rfl
theorem X3 {n:Nat} {gs:List D→DS→Option DS} {l:List D}:gTn n gs (.tuple l) δ=if l.length=n then gs l δ else none:=rfl
theorem V_:mz [] δ=some δ:=rfl
theorem Wa {gs:List D→DS→Option DS} {l:List D}:fj G gs (d :: l) δ=qGs (G d δ) gs l:=by
 show (G d δ).bind (fun δ'=>gs l δ')=qGs (G d δ) gs l
 cases G d δ <;> rfl
theorem O4 {gs:List D→DS→Option DS} {l:List D} {δ':DS}:qGs (some δ') gs l=gs l δ':=rfl
theorem Wb:dTup fr δ=qT (fr δ):=by
 unfold dTup qT
 cases fr δ <;> rfl
theorem O5 {l:List D}:qT (some l)=if l.length ≤ sizeLine then some (.tuple l) else none:=rfl
theorem X4:gU fr δ=qK (fr δ):=by
 unfold gU qK
 cases fr δ <;> rfl
theorem TQ {l:List D}:qK (some l)=if l.length ≤ sizeLine then some (.list l) else none:=rfl
theorem TX:cV fa δ=qFl flat (fa δ):=by
 unfold cV qFl
 cases fa δ <;> rfl
theorem Wc:ou fa δ=qFl fl1 (fa δ):=by
 unfold ou qFl
 cases fa δ <;> rfl
theorem TY {p:D→Bool}:qFl p (some d)=if p d=true then some d else none:=rfl
theorem Wf:xT i fa δ=qA i (aF i δ) (fa δ) δ:=by
 unfold xT qA
 cases aF i δ with
 | none=>rfl
 | some x =>
  cases fa δ with
  | none=>cases x <;> rfl
  | some d=>cases x <;> rfl
theorem O6 {l:List D}:qA i (some (.list l)) (some d) δ=if l.length < 1000000 then some (.nx (δ.set i (some (.d (.list (l++[d])))))) else none:=rfl
theorem Wg {fk:FE}:tG i fk fa δ=qP i (fa δ) (aF i δ) (fk δ) δ:=by
 unfold tG qP
 cases fa δ with
 | none=>rfl
 | some d =>
  cases aF i δ with
  | none=>rfl
  | some x =>
   cases fk δ with
   | none=>cases x <;> rfl
   | some k=>cases x <;> cases k <;> rfl
theorem O7 {l:List D} {j:Int}:qP i (some d) (some (.list l)) (some (.int j)) δ=(pIx l.length j).bind fun n=>some (.nx (δ.set i (some (.d (.list (l.set n d)))))):=rfl
theorem O8 {g':D→D→Option D}:mY g g' fa fb fc δ=qCh g' (qO g (fa δ) (fb δ)) (fb δ) fc δ:=by
 unfold mY qCh qO
 cases fa δ with
 | none=>rfl
 | some x =>
  cases fb δ with
  | none=>rfl
  | some y =>
   dsimp only [aL]
   cases g x y with
   | none=>rfl
   | some z =>
    cases z <;> try rfl
    next b =>
    cases b with
    | false=>rfl
    | true=>dsimp only [aL];cases fc δ <;> rfl
theorem Ii {g':D→D→Option D} {y:Option D}:qCh g' (some (.bool true)) y fc δ=qO g' y (fc δ):=rfl
theorem Ij {g':D→D→Option D} {y:Option D}:qCh g' (some (.bool false)) y fc δ=some (.bool false):=rfl
theorem Wh {p q:Nat} {ds:List D}:fnD p q b ds=if ds.length=p then qFn (b (ds.map (fun d=>some (.d d))++bF q none)) else none:=by
 unfold fnD qFn
 rfl
theorem O9:qFn (some (.rt d))=some d:=rfl
theorem O_ {δ':DS}:qFn (some (.nx δ'))=some .none:=rfl
theorem T3 {t:Nat} {ix:List Nat}:gh fr G c fa t ix δ=qCo (fr δ) G c fa t ix δ:=by
 unfold gh qCo
 cases fr δ with
 | none=>rfl
 | some l =>
  dsimp only [aL]
  by_cases z:l.length ≤ 100000
  ·rw [if_pos z,if_pos z]
   cases d_ G c fa (jx t ix δ) l <;> rfl
  ·rw [if_neg z,if_neg z]
theorem KH {t:Nat} {ix:List Nat} {l:List D}:qCo (some l) G c fa t ix δ=if l.length ≤ 100000 then (match d_ G c fa (jx t ix δ) l with | some r=>some (.list r) | none=>none) else none:=rfl
theorem Wi:D3.jR δ=some true:=rfl
theorem T4 {r:DS} {x:D}:aF 0 (some (.d x) :: r)=some x:=rfl
theorem T5 {r:DS} {y:Option U}:aF (i + 1) (y :: r)=aF i r:=rfl
end
section
variable {i j:Int} {l m:List D} {d:D}
theorem Wj:jo (.int i) (.int j)=some (.int (i + j)):=rfl
theorem Wk:Bc (.int i) (.int j)=some (.int (i - j)):=rfl
theorem X5:gLt (.int i) (.int j)=some (.bool (decide (i < j))):=rfl
theorem X6:gLe (.int i) (.int j)=some (.bool (decide (i ≤ j))):=rfl
theorem X7:gGt (.int i) (.int j)=some (.bool (decide (j < i))):=rfl
theorem X8:gGe (.int i) (.int j)=some (.bool (decide (j ≤ i))):=rfl
theorem Wl:gEq (.int i) (.int j)=some (.bool (decide (i=j))):=rfl
theorem QB:gNe (.int i) (.int j)=some (.bool (!decide (i=j))):=rfl
theorem Wm:jM [.list l]=some (.int l.length):=rfl
theorem T6:jM [.tuple l]=some (.int l.length):=rfl
theorem mU:∀ ns:List Int,jd (ns.map .int)=some ns
 | []=>rfl
 | n :: r=>by rw [bI,jd,mU r];rfl
theorem Wn:Xu [.int i]=some (.int (if i < 0 then -i else i)):=rfl
theorem Ck:vY [.int i,.int j]=some (.int (if j > i then j else i)):=rfl
theorem Cm:vZ [.int i,.int j]=some (.int (if j < i then j else i)):=rfl
theorem Wo:Xv (.int i)=some (.int (-i)):=rfl
theorem X_:gIx (.list l) (.int i)=pAt l i:=rfl
theorem Wq:gIx (.tuple l) (.int i)=pAt l i:=rfl
theorem yS:ql (.list l) (.list m)=if l.length + m.length ≤ 1000000 then some (.list (l++m)) else none:=rfl
theorem T7:oM (.list l)=some (.list l):=rfl
theorem Pa:oM (.tuple l)=some (.list l):=rfl
theorem Wr:pAt (d :: l) 0=some d:=by
 unfold pAt pIx
 rw [if_pos (by decide),if_pos (by simp)]
 rfl
end
def T8 (i j:Nat) (a:Option (List D)) (δ:DS):Option Oc:=match a with
 | some l=>match l with
  | [x,y]=>if i < δ.length∧j < δ.length then some (.nx ((δ.set i (some (.d x))).set j (some (.d y)))) else none
  | _=>none
 | none=>none
def pW (a:Option (List D)):Option (List D):=match a with
 | some l=>match l with
  | [.int j]=>if rT j=true then some (fM 0 j) else none
  | _=>none
 | none=>none
def Gx (a:Option (List D)):Option (List D):=match a with
 | some l=>match l with
  | [.int i,.int j]=>if (rT i && rT j)=true then some (fM i j) else none
  | _=>none
 | none=>none
def qSl (x:Option D) (a b:Option (Option Int)):Option D:=match x,a,b with
 | some (.list l),some a,some b=>some (.list (cutD l a b))
 | _,_,_=>none
def qOP (x:Option D):Option (Option Int):=match x with
 | some (.int i)=>some (some i)
 | _=>none
def qEn (x:Option D):Option (List D):=match x with
 | some (.list l)=>some (kY l)
 | _=>none
section
variable {a b:FS} {fa:FE} {fr:FA} {δ:DS} {i j:Nat} {g:FG}
theorem Ws:Vr i j fr δ=T8 i j (fr δ) δ:=by
 unfold Vr T8
 cases fr δ with
 | none=>rfl
 | some l=>rfl
theorem Pb {x y:D}:T8 i j (some [x,y]) δ=if i < δ.length∧j < δ.length then some (.nx ((δ.set i (some (.d x))).set j (some (.d y)))) else none:=rfl
theorem T9:mC fr δ=pW (fr δ):=by
 unfold mC pW
 cases fr δ with
 | none=>rfl
 | some l=>rfl
theorem Ei {k:Int} (h : -(2 ^ 62) ≤ k) (h2:k < 2 ^ 62):pW (some [.int k])=some (fM 0 k):=by
 show (if rT k=true then some (fM 0 k) else none)=_
 rw [if_pos]
 unfold rT
 rw [dTr h,dTr h2]
 rfl
theorem T_:Fz fr δ=Gx (fr δ):=by
 unfold Fz Gx
 cases fr δ with
 | none=>rfl
 | some l=>rfl
theorem Yb {i k:Int} (h : -(2 ^ 62) ≤ k) (h2:k < 2 ^ 62) (h3 : -(2 ^ 62) ≤ i) (h4:i < 2 ^ 62):Gx (some [.int i,.int k])=some (fM i k):=by
 show (if (rT i && rT k)=true then some (fM i k) else none)=_
 rw [if_pos]
 unfold rT
 rw [dTr h,dTr h2,dTr h3,dTr h4]
 rfl
theorem Yc {lo hi:FO}:dSl fa lo hi δ=qSl (fa δ) (lo δ) (hi δ):=by
 unfold dSl qSl
 cases fa δ with
 | none=>rfl
 | some x =>
  dsimp only [aL]
  cases lo δ with
  | none=>cases x <;> rfl
  | some p =>
   dsimp only [aL]
   cases hi δ with
   | none=>cases x <;> rfl
   | some r=>cases x <;> rfl
theorem Ua {l:List D} {p r:Option Int}:qSl (some (.list l)) (some p) (some r)=some (.list (cutD l p r)):=rfl
theorem Yd:rY δ=some none:=rfl
theorem Ye:qm fa δ=qOP (fa δ):=by
 unfold qm qOP
 cases fa δ with
 | none=>rfl
 | some x=>cases x <;> rfl
theorem Ub {k:Int}:qOP (some (.int k))=some (some k):=rfl
theorem Uc:uP fa δ=qEn (fa δ):=by
 unfold uP qEn
 cases fa δ with
 | none=>rfl
 | some x=>cases x <;> rfl
theorem KJ {l:List D}:qEn (some (.list l))=some (kY l):=rfl
theorem jN (Inv:Nat→DS→Prop):∀ (l:List D) (δ:DS),Inv 0 δ→(∀ i d δ,l[i]? = some d→Inv i δ→∃ δ1 δ',g d δ=some δ1∧(b δ1=some (.nx δ')∨b δ1=some (.ct δ'))∧Inv (i + 1) δ')→∃ δ',jA g b l δ=some (.nx δ')∧Inv l.length δ':=by
 have key:∀ (l:List D) (k:Nat) (δ:DS),Inv k δ→(∀ i d δ,l[i]? = some d→Inv (k + i) δ→∃ δ1 δ',g d δ=some δ1∧(b δ1=some (.nx δ')∨b δ1=some (.ct δ'))∧Inv (k + i + 1) δ')→∃ δ',jA g b l δ=some (.nx δ')∧Inv (k + l.length) δ':=by
  intro l
  induction l with
  | nil=>exact fun k δ h _=>⟨δ,rfl,h⟩
  | cons d r ih =>
   intro k δ h hs
   obtain ⟨δ1,δ',e1,e2,e3⟩:=hs 0 d δ rfl h
   obtain ⟨δ2,e4,e5⟩:=ih (k + 1) δ' e3 fun i d' δ'' hd hi=>by
    have:=hs (i + 1) d' δ'' (by simpa using hd) (by rw [show k + (i + 1)=k + 1 + i by omega];exact hi)
    rw [show k + (i + 1) + 1=k + 1 + i + 1 by omega] at this
    exact this
   refine ⟨δ2,?_,by rw [bN,show k + (r.length + 1)=k + 1 + r.length by omega];exact e5⟩
   rw [jA,e1,aL]
   rcases e2 with e2 | e2
   ·rw [e2];exact e4
   ·rw [e2];exact e4
 intro l δ h hs
 have:=key l 0 δ h fun i d δ hd hi=>by
  have:=hs i d δ hd (by rw [kO] at hi;exact hi)
  rw [kO]
  exact this
 rw [kO] at this
 exact this
end
def qX (a:Option D) (δ:DS):Option Oc:=match a with
 | some _=>some (.nx δ)
 | none=>none
theorem Ud {fa:FE} {δ:DS}:qj fa δ=qX (fa δ) δ:=by
 unfold qj qX
 cases fa δ <;> rfl
theorem KN {d:D} {δ:DS}:qX (some d) δ=some (.nx δ):=rfl
theorem KQ {g g' g'':D→D→Option D} {fa fb fc fd:FE} {δ:DS}:vp g g' g'' fa fb fc fd δ=Ie (qO g (fa δ) (fb δ)) (mY g' g'' fb fc fd) δ:=by
 unfold vp Ie mY qO
 cases fa δ with
 | none=>rfl
 | some x =>
  cases fb δ with
  | none=>rfl
  | some y =>
   dsimp only [aL]
   cases g x y with
   | none=>rfl
   | some z =>
    cases z <;> try rfl
    next b=>cases b <;> rfl
def qZ (a b:Option D):Option (List D):=match a,b with
 | some (.list l),some (.list m)=>some (sH l m)
 | _,_=>none
theorem Wt {f g:FE} {δ:DS}:M4 f g δ=qZ (f δ) (g δ):=by
 unfold M4 qZ
 cases f δ with
 | none=>rfl
 | some x =>
  cases g δ with
  | none=>cases x <;> rfl
  | some y=>cases x <;> cases y <;> rfl
theorem Pg {l m:List D}:qZ (some (.list l)) (some (.list m))=some (sH l m):=rfl
theorem Yg {fa:FE} {δ:DS}:dN1 fa δ=qFl (fun d=>decide (nl d ≤ 1)) (fa δ):=by
 unfold dN1 qFl
 cases fa δ <;> rfl
theorem Wu:flat .none=true:=rfl
theorem Yh {b:Bool}:flat (.bool b)=true:=rfl
theorem f_int {i:Int}:flat (.int i)=true:=rfl
theorem Wv {x:Str}:flat (.str x)=true:=rfl
theorem Ww {l:List D}:flat (.list l)=false:=rfl
theorem f_tup {l:List D}:flat (.tuple l)=flats l:=rfl
theorem Wx:flats []=true:=rfl
theorem Ue {d:D} {l:List D}:flats (d :: l)=(flat d && flats l):=rfl
theorem Ug:fl1 .none=true:=rfl
theorem Wy {b:Bool}:fl1 (.bool b)=true:=rfl
theorem Uh {i:Int}:fl1 (.int i)=true:=rfl
theorem Ui {x:Str}:fl1 (.str x)=true:=rfl
theorem m9 {l:List D}:fl1 (.list l)=flats l:=rfl
theorem Uj {l:List D}:fl1 (.tuple l)=flats l:=rfl
theorem Yi {c:String} {d:D}:gIs c d=some (.bool (isT c (tyD d))):=rfl
theorem Wz {d:D}:nA d=some (.bool (isNone d)):=rfl
theorem Uk {d:D}:lR d=some (.bool (!isNone d)):=rfl
theorem WD:isNone .none=true:=rfl
theorem Yj {b:Bool}:isNone (.bool b)=false:=rfl
theorem WK {i:Int}:isNone (.int i)=false:=rfl
theorem WL {x:Str}:isNone (.str x)=false:=rfl
theorem WM {l:List D}:isNone (.list l)=false:=rfl
theorem WQ {l:List D}:isNone (.tuple l)=false:=rfl
theorem WR {l:List (D × D)}:isNone (.dict l)=false:=rfl
def EVL:=And.intro @Wu <| And.intro @Yh <| And.intro @f_int <| And.intro @Wv <| And.intro @Ww <| And.intro @f_tup <| And.intro @Wx <| And.intro @Ue <| And.intro @Ug <| And.intro @Wy <| And.intro @Uh <| And.intro @Ui <| And.intro @m9 <| And.intro @Uj <| And.intro @Yi <| And.intro @Wz <| And.intro @Uk <| And.intro @WD <| And.intro @Yj <| And.intro @WK <| And.intro @WL <| And.intro @WM <| And.intro @WQ <| And.intro @WR <| And.intro @bN.{0} <| And.intro @iu.{0} <| And.intro @bI.{0,0} <| And.intro @oV.{0,0} <| And.intro @cW.{0} <| And.intro @List.replicate_zero.{0} <| And.intro @List.cons_append.{0} <| And.intro @pN.{0} <| And.intro @cY.{0} <| And.intro @List.set_cons_zero.{0} <| And.intro @List.set_cons_succ.{0} <| And.intro @kO <| And.intro @if_true.{1} <| And.intro @decide_true <| And.intro @decide_false <| And.intro @Int.cast_ofNat_Int <| And.intro @bR <| And.intro @cO <| @Bool.and_self
def EV:=And.intro EVL <| And.intro @Yg <| And.intro @Wt <| And.intro @Pg <| And.intro @Ud <| And.intro @KN <| And.intro @KQ <| And.intro @V2 (And.intro @Ks (And.intro @Ku (And.intro @Kv (And.intro @Kw (And.intro @V3 (And.intro @XF (And.intro @XH (And.intro @XJ (And.intro @Tg (And.intro @Ti (And.intro @v_op (And.intro @Tj (And.intro @XM (And.intro @Tp (And.intro @Tq (And.intro @Ol (And.intro @Ig (And.intro @Tr (And.intro @Ky (And.intro @V4 (And.intro @Om (And.intro @Tt (And.intro @V5 (And.intro @Oo (And.intro @v_c (And.intro @v_and (And.intro @Oq (And.intro @Ot (And.intro @v_or (And.intro @Tv (And.intro @Tw (And.intro @v_not (And.intro @Ou (And.intro @XQ (And.intro @Tz (And.intro @TF (And.intro @Kz (And.intro @KC (And.intro @V6 (And.intro @Ov (And.intro @Ox (And.intro @TJ (And.intro @KD (And.intro @v_ite (And.intro @Oz (And.intro @OD (And.intro @V7 (And.intro @OJ (And.intro @V8 (And.intro @O1 (And.intro @Ih (And.intro @V9 (And.intro @O2 (And.intro @O3 (And.intro @XR (And.intro @X3 (And.intro @V_ (And.intro @Wa (And.intro @O4 (And.intro @Wb (And.intro @O5 (And.intro @X4 (And.intro @TQ (And.intro @TX (And.intro @Wc (And.intro @TY (And.intro @Wf (And.intro @O6 (And.intro @Wg (And.intro @O7 (And.intro @O8 (And.intro @Ii (And.intro @Ij (And.intro @Wh (And.intro @O9 (And.intro @O_ (And.intro @T3 (And.intro @KH (And.intro @Wi (And.intro @T4 (And.intro @T5 (And.intro @Wj (And.intro @Wk (And.intro @X5 (And.intro @X6 (And.intro @X7 (And.intro @X8 (And.intro @Wl (And.intro @QB (And.intro @Wm (And.intro @T6 (And.intro @Wn (And.intro @Ck (And.intro @Cm (And.intro @Wo (And.intro @X_ (And.intro @Wq (And.intro @yS (And.intro @T7 (And.intro @Pa (And.intro @Wr (And.intro @Ws (And.intro @Pb (And.intro @T9 (And.intro @T_ (And.intro @Yc (And.intro @Ua (And.intro @Yd (And.intro @Ye (And.intro @Ub (And.intro @Uc @KJ)))))))))))))))))))))))))))))))))))))))))))))))))))))))))))))))))))))))))))))))))))))))))))))))))))))))))))))))
end D3
namespace My
def nZ (ns:List Int) (i:Int):Int :=
 if i < (ns.length:Int) then ns.getD i.toNat 0 % 1000000007
 else if ns=[] then 7919 * i + 5000011
 else ns.getD (i * 7 % (ns.length:Int)).toNat 0 % 1000000007 + 7919 * i
def divs (n:Int):Nat→Int
 | 0=>n
 | k + 1=>divs n k / 1000003
def Gy (c i k m:Int):Int :=
 (((c + 65537 * i + 3) * (1299709 + 15485863 * k) % 2147483629 * ((c + 65537 * i + 3) * (1299709 + 15485863 * k) % 2147483629) % 1500450271 + 104729) *
  ((c + 65537 * i + 3) * (1299709 + 15485863 * k) % 2147483629 * ((c + 65537 * i + 3) * (1299709 + 15485863 * k) % 2147483629) % 1500450271 + 104729)) % 715827883 / 64 % m
def jh (ns:List Int) (i k m:Int):Int :=
 if i < (ns.length:Int)∧10 ^ 40 ≤ ns.getD i.toNat 0∧0 < divs (ns.getD i.toNat 0) k.toNat then divs (ns.getD i.toNat 0) k.toNat % 1000003 % m
 else Gy (nZ ns i) i k m
theorem dO (ns:List Int) (i k:Int) {m:Int} (h:0 < m):0 ≤ jh ns i k m∧jh ns i k m < m:=by
 unfold jh Gy
 split
 ·exact ⟨jX _ (by omega),jk _ h⟩
 ·exact ⟨jX _ (by omega),jk _ h⟩
theorem Ik {ns:List Int} {i k m:Int} (h1:i < (ns.length:Int)) (h2:10 ^ 40 ≤ ns.getD i.toNat 0) (h3:0 < divs (ns.getD i.toNat 0) k.toNat) :
 jh ns i k m=divs (ns.getD i.toNat 0) k.toNat % 1000003 % m:=by
 unfold jh
 rw [if_pos ⟨h1,h2,h3⟩]
theorem sS {ns:List Int} {i k m:Int} (h:¬ (i < (ns.length:Int)∧10 ^ 40 ≤ ns.getD i.toNat 0∧0 < divs (ns.getD i.toNat 0) k.toNat)) :
 jh ns i k m=Gy (nZ ns i) i k m:=by
 unfold jh
 rw [if_neg h]
end My
namespace Com
open PySem D3
noncomputable def fH:List D→Option D:=fnD 1 0 (cT (uo (dUn (gIs "int") (aF 0)) (MP (dUn (gIs "bool") (aF 0)))))
noncomputable def ji:List D→Option D:=fnD 2 0 (b_ (sIf (aY (dOp gLt (aF 1) (dCall jM (aG (aF 0) (aV))))) (cT (dOp sG (dOp gIx (aF 0) (aF 1)) (dC (.int 1000000007)))) (dM))
 (b_ (sIf (aY (dOp gEq (aF 0) (gU (aV)))) (cT (dOp jo (dOp pD (dC (.int 7919)) (aF 1)) (dC (.int 5000011)))) (dM))
 (cT (dOp jo (dOp sG (dOp gIx (aF 0) (dOp sG (dOp pD (aF 1) (dC (.int 7))) (dCall jM (aG (aF 0) (aV))))) (dC (.int 1000000007))) (dOp pD (dC (.int 7919)) (aF 1))))))
noncomputable def bO:List D→Option D:=fnD 4 2 (b_ (sIf (D3.o9 (aY (dOp gLt (aF 1) (dCall jM (aG (aF 0) (aV))))) (aY (dOp gGe (dOp gIx (aF 0) (aF 1)) (dOp RG (dC (.int 10)) (dC (.int 40)))))) (b_ (bW 4 (dOp gIx (aF 0) (aF 1)))
 (b_ (lQ (mC (aG (aF 2) (aV))) (gNl 5) (bW 4 (dOp Bq (aF 4) (dC (.int 1000003)))))
 (sIf (aY (dOp gGt (aF 4) (dC (.int 0)))) (cT (dOp sG (dOp sG (aF 4) (dC (.int 1000003))) (aF 3))) (dM)))) (dM))
 (b_ (bW 4 (dOp sG (dOp pD (dOp jo (dOp jo (dCall ji (aG (aF 0) (aG (aF 1) (aV)))) (dOp pD (dC (.int 65537)) (aF 1))) (dC (.int 3))) (dOp jo (dC (.int 1299709)) (dOp pD (dC (.int 15485863)) (aF 2)))) (dC (.int 2147483629))))
 (b_ (bW 4 (dOp jo (dOp sG (dOp pD (aF 4) (aF 4)) (dC (.int 1500450271))) (dC (.int 104729))))
 (cT (dOp sG (dOp Bq (dOp sG (dOp pD (aF 4) (aF 4)) (dC (.int 715827883))) (dC (.int 64))) (aF 3))))))
noncomputable def jO:List D→Option D:=fnD 2 0 (cT (mY gLe gLt (dOp gIx (aF 0) (dC (.int 0))) (aF 1) (dOp gIx (aF 0) (dC (.int 1)))))
noncomputable def oR:List D→Option D:=fnD 2 2 (b_ (bW 2 (dCall vY (aG (dOp gIx (aF 0) (dC (.int 0))) (aG (dOp gIx (aF 1) (dC (.int 0))) (aV)))))
 (b_ (bW 3 (dCall vZ (aG (dOp gIx (aF 0) (dC (.int 1))) (aG (dOp gIx (aF 1) (dC (.int 1))) (aV)))))
 (b_ (sIf (aY (dOp gGe (aF 2) (aF 3))) (cT (dC (.none))) (dM))
 (cT (dTup (aG (cV (aF 2)) (aG (cV (aF 3)) (aV))))))))
noncomputable def mK:List D→Option D:=fnD 2 0 (cT (dUn lR (dCall oR (aG (aF 0) (aG (aF 1) (aV))))))
noncomputable def iR:List D→Option D:=fnD 2 0 (cT (dCall jM (aG (gh (jT (aF 0)) (gNl 0) (aY (dCall jO (aG (aF 0) (aG (aF 1) (aV))))) (cV (aF 0)) 1 [1]) (aV))))
noncomputable def m_:List D→Option D:=fnD 1 0 (cT (gh (jT (aF 0)) (gNl 0) (jR) (cV (dOp gIx (aF 0) (dC (.int 0)))) 1 []))
noncomputable def kZ:List D→Option D:=fnD 3 2 (b_ (bW 3 (gh (jT (dCall m_ (aG (aF 0) (aV)))) (gNl 0) (aY (dOp gGt (aF 0) (aF 1))) (cV (aF 0)) 1 [2]))
 (b_ (lQ (jT (dOp ql (gU (aG (aF 2) (aV))) (dCall tH (aG (aF 3) (aV))))) (gNl 4) (sIf (aY (dOp gGt (dCall iR (aG (aF 0) (aG (aF 4) (aV)))) (aF 1))) (cT (cV (aF 4))) (dM)))
 (cT (dC (.none)))))
noncomputable def cM:List D→Option D:=fnD 1 0 (cT (dTup (aG (cV (dOp gIx (aF 0) (dC (.int 0)))) (aG (cV (dOp gIx (aF 0) (dC (.int 1)))) (aV)))))
noncomputable def fV:List D→Option D:=fnD 5 2 (b_ (bW 5 (dCall vZ (aG (dC (.int 399)) (aG (dOp jo (aF 4) (dCall bO (aG (aF 0) (aG (aF 1) (aG (aF 2) (aG (dOp gIx (gU (aG (dC (.int 3)) (aG (dC (.int 9)) (aG (dC (.int 24)) (aG (dC (.int 60)) (aV)))))) (aF 3)) (aV))))))) (aV)))))
 (b_ (bW 6 (dOp jo (dC (.int 1)) (dCall bO (aG (aF 0) (aG (aF 1) (aG (dOp jo (aF 2) (dC (.int 1))) (aG (dOp gIx (gU (aG (dC (.int 2)) (aG (dC (.int 6)) (aG (dC (.int 24)) (aG (dC (.int 60)) (aV)))))) (dCall bO (aG (aF 0) (aG (aF 1) (aG (dOp jo (aF 2) (dC (.int 2))) (aG (dC (.int 4)) (aV))))))) (aV))))))))
 (cT (dTup (aG (cV (aF 5)) (aG (dCall vZ (aG (dC (.int 400)) (aG (dOp jo (aF 5) (aF 6)) (aV)))) (aG (dC (.none)) (aV))))))))
noncomputable def iH:List D→Option D:=fnD 3 1 (b_ (bW 3 (dCall kZ (aG (gh (jT (aF 0)) (gNl 0) (jR) (dCall cM (aG (aF 0) (aV))) 1 []) (aG (aF 1) (aG (aF 2) (aV))))))
 (sIf (aY (dUn lR (aF 3))) ((fun _=>none)) (dM)))
noncomputable def bY:List D→Option D:=fnD 3 2 (b_ (bW 3 (dOp JF (gU (aG (aF 2) (aV))) (aF 1)))
 (b_ (lQ (jT (aF 0)) (gNl 4) (sIf (aY (dUn lR (dOp gIx (aF 4) (dC (.int 2))))) (tG 3 (dOp gIx (aF 4) (dC (.int 2))) (dOp gIx (aF 4) (dC (.int 1)))) (dM)))
 (cT (ou (aF 3)))))
noncomputable def gH:List D→Option D:=fnD 2 0 (cT (cV (dOp gIx (gh (uP (aF 0)) (gTn 2 (fj (gNl 0) (fj (gNl 1) (mz)))) (aY (dOp gLe (aF 1) (aF 2))) (cV (aF 0)) 2 [1]) (dC (.int 0)))))
noncomputable def gJ:List D→Option D:=fnD 5 2 (b_ (bW 5 (dCall vY (aG (dC (.int 0)) (aG (dOp Bc (aF 3) (dCall bO (aG (aF 0) (aG (aF 1) (aG (aF 2) (aG (dC (.int 6)) (aV))))))) (aV)))))
 (b_ (bW 6 (dCall bO (aG (aF 0) (aG (aF 1) (aG (dOp jo (aF 2) (dC (.int 1))) (aG (dOp gIx (gU (aG (dC (.int 2)) (aG (dC (.int 9)) (aG (dC (.int 30)) (aV))))) (dCall bO (aG (aF 0) (aG (aF 1) (aG (dOp jo (aF 2) (dC (.int 2))) (aG (dC (.int 3)) (aV))))))) (aV)))))))
 (cT (dTup (aG (cV (aF 5)) (aG (dCall vZ (aG (dC (.int 400)) (aG (dOp jo (dOp jo (aF 3) (dC (.int 1))) (aF 6)) (aV)))) (aG (cV (aF 4)) (aV))))))))
noncomputable def fW:List D→Option D:=fnD 3 1 (b_ (lQ (jT (dCall tH (aG (dOp ql (gU (aG (aF 2) (aV))) (gh (jT (aF 0)) (gNl 0) (jR) (dCall vY (aG (aF 1) (aG (dOp gIx (aF 0) (dC (.int 0))) (aV)))) 1 [2])) (aV)))) (gNl 3) (sIf (aY (dOp gGt (dCall jM (aG (gh (jT (aF 0)) (gNl 0) (D3.o9 (aY (dOp gLe (dOp gIx (aF 0) (dC (.int 0))) (aF 1))) (aY (dOp gLt (aF 1) (dOp gIx (aF 0) (dC (.int 1)))))) (cV (aF 0)) 1 [3]) (aV))) (aF 1))) (cT (cV (aF 3))) (dM)))
 (cT (dC (.none))))
noncomputable def iI:List D→Option D:=fnD 4 7 (b_ (bW 4 (dCall bO (aG (aF 0) (aG (dC (.int 0)) (aG (dC (.int 0)) (aG (dC (.int 4)) (aV)))))))
 (b_ (bW 5 (gU (aV)))
 (b_ (lQ (mC (aG (aF 1) (aV))) (gNl 6) (sIf (D3.o9 (aY (dOp gEq (dCall bO (aG (aF 0) (aG (dC (.int 1)) (aG (aF 6) (aG (dC (.int 3)) (aV)))))) (dC (.int 1)))) (aY (dOp gLt (dCall jM (aG (aF 5) (aV))) (aF 3)))) (b_ (bW 7 (dCall bO (aG (aF 0) (aG (dC (.int 1)) (aG (dOp jo (dC (.int 12)) (aF 6)) (aG (dOp jo (dCall jM (aG (aF 5) (aV))) (dC (.int 1))) (aV)))))))
 (xU 5 (aF 7) (dCall gJ (aG (aF 0) (aG (dC (.int 2)) (aG (dOp pD (dC (.int 3)) (aF 6)) (aG (aF 2) (aG (aF 6) (aV))))))))) (dM)))
 (b_ (bW 8 (dOp gEq (dCall bO (aG (aF 0) (aG (dC (.int 0)) (aG (dC (.int 6)) (aG (dC (.int 6)) (aV)))))) (dC (.int 1))))
 (b_ (lQ (mC (aG (dOp gIx (gU (aG (dC (.int 10)) (aG (dC (.int 30)) (aV)))) (dCall vX (aG (aF 8) (aV)))) (aV))) (gNl 9) (b_ (bW 10 (dCall fV (aG (aF 0) (aG (dOp jo (dC (.int 10)) (aF 9)) (aG (dC (.int 0)) (aG (aF 4) (aG (aF 2) (aV))))))))
 (b_ (bW 7 (dCall bO (aG (aF 0) (aG (dC (.int 4)) (aG (aF 9) (aG (dOp jo (dCall jM (aG (aF 5) (aV))) (dC (.int 1))) (aV)))))))
 (sIf (D3.o9 (aY (dOp gLt (dCall jM (aG (aF 5) (aV))) (aF 3))) (aY (dUn nA (dCall fW (aG (dOp ql (aF 5) (gU (aG (aF 10) (aV)))) (aG (aF 1) (aG (aF 2) (aV)))))))) (xU 5 (aF 7) (aF 10)) (dM)))))
 (cT (ou (aF 5))))))))
noncomputable def cP:List D→Option D:=fnD 3 0 (b_ (sIf (aY (dUn lR (dOp gIx (aF 0) (dC (.int 2))))) (cT (dOp gEq (aF 1) (dOp gIx (aF 0) (dC (.int 2))))) (dM))
 (cT (mY gLe gLt (dC (.int 0)) (aF 1) (aF 2))))
noncomputable def g_:List D→Option D:=fnD 3 1 (b_ (lQ (mC (aG (aF 2) (aV))) (gNl 3) (sIf (D3.o9 (aY (dOp gEq (dOp gIx (aF 1) (aF 3)) (dOp gIx (aF 1) (aF 2)))) (aY (dCall mK (aG (dCall cM (aG (dOp gIx (aF 0) (aF 3)) (aV))) (aG (dCall cM (aG (dOp gIx (aF 0) (aF 2)) (aV))) (aV)))))) (cT (dC (.bool false))) (dM)))
 (cT (dC (.bool true))))
noncomputable def dI:List D→Option D:=fnD 2 0 (sIf (D3.oH (aY (mY gLe gLt (dC (.int 0)) (aF 1) (aF 0)))) ((fun _=>none)) (dM))
noncomputable def jr:List D→Option D:=fnD 3 0 (cT (dOp gEq (dCall iR (aG (gh (jT (aF 0)) (gNl 0) (jR) (dCall cM (aG (aF 0) (aV))) 1 []) (aG (aF 2) (aV)))) (aF 1)))
noncomputable def fQ:List D→Option D:=fnD 4 1 (b_ (bW 4 (dOp gIx (aF 0) (aF 2)))
 (cT (uo (dOp gNe (aF 2) (aF 1)) (uo (dUn nA (dOp gIx (aF 4) (dC (.int 2)))) (uo (dOp gEq (dOp gIx (aF 4) (dC (.int 0))) (aF 3)) (dOp gLe (dOp gIx (aF 4) (dC (.int 1))) (dOp gIx (dOp gIx (aF 0) (aF 1)) (dC (.int 0)))))))))
noncomputable def dJ:List D→Option D:=fnD 4 1 (b_ (bW 4 (gh (uP (aF 0)) (gTn 2 (fj (gNl 0) (fj (gNl 1) (mz)))) (aY (dCall fQ (aG (aF 2) (aG (aF 3) (aG (aF 0) (aG (aF 4) (aV))))))) (cV (dTup (aG (dOp gIx (aF 1) (dC (.int 1))) (aG (aF 0) (aV))))) 2 [0,2,3]))
 (b_ (sIf (D3.oH (aY (dCall jr (aG (aF 0) (aG (aF 1) (aG (aF 3) (aV))))))) (xT 4 (dTup (aG (dOp jo (aF 3) (dC (.int 1))) (aG (dC (.none)) (aV))))) (dM))
 (cT (ou (aF 4)))))
noncomputable def j_:List D→Option D:=fnD 1 0 (cT (cV (dOp gIx (gU (aG (dC (.int 0)) (aG (dCall bO (aG (aF 0) (aG (dC (.int 0)) (aG (dC (.int 1)) (aG (dC (.int 40)) (aV)))))) (aG (dCall bO (aG (aF 0) (aG (dC (.int 0)) (aG (dC (.int 1)) (aG (dC (.int 400)) (aV)))))) (aG (dC (.int 390)) (aV)))))) (dCall bO (aG (aF 0) (aG (dC (.int 0)) (aG (dC (.int 2)) (aG (dC (.int 4)) (aV)))))))))
noncomputable def iJ:List D→Option D:=fnD 1 0 (cT (dCall Dr (aG (gh (M4 (aF 0) (dSl (aF 0) (qm (dC (.int 1))) rY)) (gTn 2 (fj (gNl 0) (fj (gNl 1) (mz)))) (jR) (dOp gLt (aF 0) (aF 1)) 2 []) (aV))))
noncomputable def fX:List D→Option D:=fnD 4 2 (b_ (lQ (jT (aF 3)) (gNl 4) (lQ (jT (dCall dJ (aG (aF 0) (aG (aF 1) (aG (aF 2) (aG (aF 4) (aV))))))) (gNl 5) (sIf (aY (dOp gZ (dOp gIx (aF 5) (dC (.int 0))) (aF 3))) (cT (dC (.bool false))) (dM))))
 (cT (dC (.bool true))))
end Com
namespace Com
open PySem D3 My
theorem tZ {ns:List Int} {i:Int} (h0:0 ≤ i) (h1:i < ns.length):pAt (ns.map PyData.int) i=some (.int (ns.getD i.toNat 0)):=by
 unfold pAt pIx
 rw [aJ,if_pos h0,if_pos h1,aL,aN]
 have h:i.toNat < ns.length:=by omega
 rw [aZ h]
 simp [List.getD,h]
theorem lJ {l:List D} {k:Nat}:pAt l (k:Int)=l[k]?:=by
 unfold pAt pIx
 rw [if_pos (by omega)]
 by_cases h:k < l.length
 ·rw [if_pos (by omega),aL]
  simp
 ·rw [if_neg (by omega),bD (by omega)]
  rfl
theorem at0 {a:D} {l:List D}:pAt (a :: l) 0=some a:=lJ (k:=0)
theorem at1 {a b:D} {l:List D}:pAt (a :: b :: l) 1=some b:=lJ (k:=1)
theorem zZ {i j:Int} (h:0 < j):sG (.int i) (.int j)=some (.int (i % j)):=by
 show (if decide (j ≠ 0)=true then some (PyData.int (i.fmod j)) else none)=_
 rw [if_pos (dTr (by omega)),Int.fmod_eq_emod_of_nonneg i (by omega)]
theorem KR {j:Int} (h:j.natAbs < 2 ^ 64):j.natAbs < 2 ^ 9000:=bT h (Nat.pow_le_pow_right (by decide) (by decide))
theorem Yk {i j:Int} (h:0 < j) (h2:j.natAbs < 2 ^ 9000):Bq (.int i) (.int j)=some (.int (i / j)):=by
 show (if Dq i j=true then some (PyData.int (i.fdiv j)) else none)=_
 have e:Dq i j=true:=by
  unfold Dq
  rw [aW]
  exact ⟨dTr (by omega),dTr h2⟩
 rw [if_pos e,Int.fdiv_eq_ediv_of_nonneg i (by omega)]
theorem WT {i j:Int} (h:0 < j) (h2:j < 18446744073709551616):Bq (.int i) (.int j)=some (.int (i / j)):=Yk h (KR (by omega))
theorem mulL {i j:Int} (h1 : -18446744073709551616 < i) (h2:i < 18446744073709551616):pD (.int i) (.int j)=some (.int (i * j)):=by
 show (if vW i j=true then some (PyData.int (i * j)) else none)=_
 have e:vW i j=true:=by
  unfold vW
  rw [dTr (show i.natAbs < 2 ^ 64 by omega)]
  rfl
 rw [if_pos e]
theorem mulR {i j:Int} (h1 : -18446744073709551616 < j) (h2:j < 18446744073709551616):pD (.int i) (.int j)=some (.int (i * j)):=by
 show (if vW i j=true then some (PyData.int (i * j)) else none)=_
 have e:vW i j=true:=by
  unfold vW
  rw [dTr (show j.natAbs < 2 ^ 64 by omega),Bool.or_true]
  rfl
 rw [if_pos e]
theorem QC:RG (.int 10) (.int 40)=some (.int (10 ^ 40)):=rfl
theorem sz {n:Nat} (h:n ≤ 1000000):n ≤ sizeLine:=bV h (by decide)
theorem shaped_ints (ns:List Int):SeqAt.shaped (.list (ns.map PyData.int))=true:=by
 have h1:∀ ns:List Int,PyData.canLayAll0 (ns.map PyData.int)=true:=fun ns=>by
  induction ns with
  | nil=>rfl
  | cons a r ih=>simp [PyData.canLayAll0,PyData.canLay0,ih]
 have h2:∀ ns:List Int,PyData.depthAll (ns.map PyData.int) ≤ 1:=fun ns=>by
  induction ns with
  | nil=>simp [PyData.depthAll]
  | cons a r ih=>simp [PyData.depthAll,PyData.depth];omega
 unfold SeqAt.shaped
 rw [aW]
 refine ⟨by simp [PyData.canLay0,h1],dTr ?_⟩
 have:=h2 ns
 simp only [PyData.depth]
 omega
theorem eq_empty (ns:List Int):gEq (.list (ns.map PyData.int)) (.list [])=some (.bool (decide (ns=[]))):=by
 unfold gEq
 rw [shaped_ints ns]
 cases ns with
 | nil=>rfl
 | cons a r=>rfl
theorem Il {ns:List Int} {i:Int} (h0:0 ≤ i):ji [.list (ns.map .int),.int i]=some (.int (nZ ns i)):=by
 unfold ji nZ
 by_cases h:i < (ns.length:Int)
 ·rw [if_pos h]
  simp only [EV,reduceIte,au,aA,ao,aq,aB,aC,aD,lMp,dTr h,tZ h0 h,zZ (show (0:Int) < 1000000007 by decide)]
 ·rw [if_neg h]
  by_cases hn:ns=[]
  ·rw [if_pos hn]
   simp only [EV,reduceIte,au,aA,ao,aq,aB,aC,aD,lMp,dFa h,eq_empty,dTr hn,fJ,mulL (show (-18446744073709551616:Int) < 7919 by decide) (show (7919:Int) < 18446744073709551616 by decide)]
  ·rw [if_neg hn]
   have hl:0 < ns.length:=by
    cases ns with
    | nil=>exact absurd rfl hn
    | cons _ _=>simp
   have h7:0 ≤ i * 7 % (ns.length:Int):=jX _ (by omega)
   have h8:i * 7 % (ns.length:Int) < (ns.length:Int):=jk _ (by omega)
   simp only [EV,reduceIte,au,aA,ao,aq,aB,aC,aD,lMp,dFa h,eq_empty,dFa hn,fJ,mulL (show (-18446744073709551616:Int) < 7919 by decide) (show (7919:Int) < 18446744073709551616 by decide),mulR (show (-18446744073709551616:Int) < 7 by decide) (show (7:Int) < 18446744073709551616 by decide),zZ (show (0:Int) < 1000000007 by decide),zZ (show (0:Int) < ns.length by omega),tZ h7 h8]
theorem yU {l:D} {i k m:D} (n:Int):∀ (js:List D) (c:Nat) (y:Option U),(∀ j ∈ js,∃ x,j = .int x)→∃ y',jA (gNl 5) (bW 4 (dOp Bq (aF 4) (dC (.int 1000003)))) js [some (.d l),some (.d i),some (.d k),some (.d m),some (.d (.int (divs n c))),y] =
 some (.nx [some (.d l),some (.d i),some (.d k),some (.d m),some (.d (.int (divs n (c + js.length)))),y'])
 | [],c,y,_=>⟨y,rfl⟩
 | j :: js,c,y,h=>by
  obtain ⟨y',e⟩:=yU (l:=l) (i:=i) (k:=k) (m:=m) n js (c + 1) (some (.d j)) fun j' hj=>h j' (aM _ hj)
  refine ⟨y',?_⟩
  rw [jA]
  simp only [EV,reduceIte,au,aA,ao,aq,aB,aC,aD,WT (show (0:Int) < 1000003 by decide) (show (1000003:Int) < 18446744073709551616 by decide),aL]
  rw [show c + (js.length + 1)=c + 1 + js.length by omega,← e]
  rfl
theorem Im (lo hi:Int):∀ j ∈ fM lo hi,∃ x,j = .int x:=by
 intro j hj
 unfold fM at hj
 obtain ⟨k,_,rfl⟩:=cX.mp hj
 exact ⟨_,rfl⟩
theorem d9 {ns:List Int} {i k m:Int} (h0:0 ≤ i) (hk0:0 ≤ k) (hk:k ≤ 1000) (hm:0 < m):bO [.list (ns.map .int),.int i,.int k,.int m]=some (.int (jh ns i k m)):=by
 have rest:∀ x y:Option U,qFn ((b_ (bW 4 (dOp sG (dOp pD (dOp jo (dOp jo (dCall ji (aG (aF 0) (aG (aF 1) (aV)))) (dOp pD (dC (.int 65537)) (aF 1))) (dC (.int 3))) (dOp jo (dC (.int 1299709)) (dOp pD (dC (.int 15485863)) (aF 2)))) (dC (.int 2147483629))))
  (b_ (bW 4 (dOp jo (dOp sG (dOp pD (aF 4) (aF 4)) (dC (.int 1500450271))) (dC (.int 104729))))
  (cT (dOp sG (dOp Bq (dOp sG (dOp pD (aF 4) (aF 4)) (dC (.int 715827883))) (dC (.int 64))) (aF 3))))) [some (.d (.list (ns.map .int))),some (.d (.int i)),some (.d (.int k)),some (.d (.int m)),x,y])=some (.int (Gy (nZ ns i) i k m)):=by
  intro x y
  have b1:0 ≤ (nZ ns i + 65537 * i + 3) * (1299709 + 15485863 * k) % 2147483629:=jX _ (by decide)
  have b2:(nZ ns i + 65537 * i + 3) * (1299709 + 15485863 * k) % 2147483629 < 2147483629:=jk _ (by decide)
  have b3:0 ≤ (nZ ns i + 65537 * i + 3) * (1299709 + 15485863 * k) % 2147483629 * ((nZ ns i + 65537 * i + 3) * (1299709 + 15485863 * k) % 2147483629) % 1500450271:=jX _ (by decide)
  have b4:(nZ ns i + 65537 * i + 3) * (1299709 + 15485863 * k) % 2147483629 * ((nZ ns i + 65537 * i + 3) * (1299709 + 15485863 * k) % 2147483629) % 1500450271 < 1500450271:=jk _ (by decide)
  simp only [EV,reduceIte,au,aA,ao,aq,aB,aC,aD,Il h0,mulL (show (-18446744073709551616:Int) < 65537 by decide) (show (65537:Int) < 18446744073709551616 by decide),mulL (show (-18446744073709551616:Int) < 15485863 by decide) (show (15485863:Int) < 18446744073709551616 by decide),
   mulR (i:=nZ ns i + 65537 * i + 3) (show (-18446744073709551616:Int) < 1299709 + 15485863 * k by omega) (show 1299709 + 15485863 * k < (18446744073709551616:Int) by omega),zZ (show (0:Int) < 2147483629 by decide)]
  simp only [mulL (show (-18446744073709551616:Int) < (nZ ns i + 65537 * i + 3) * (1299709 + 15485863 * k) % 2147483629 by omega) (show (nZ ns i + 65537 * i + 3) * (1299709 + 15485863 * k) % 2147483629 < (18446744073709551616:Int) by omega)]
  simp only [EV,reduceIte,au,aA,ao,aq,aB,aC,aD,zZ (show (0:Int) < 1500450271 by decide)]
  rw [mulL (by omega) (by omega)]
  simp only [EV,reduceIte,au,aA,ao,aq,aB,aC,aD,zZ (show (0:Int) < 715827883 by decide),WT (show (0:Int) < 64 by decide) (show (64:Int) < 18446744073709551616 by decide),zZ hm]
  rfl
 unfold bO
 rw [Wh]
 simp only [EV,reduceIte,au,aA,ao,aq,aB,aC,aD]
 by_cases h:i < (ns.length:Int)
 ·by_cases h2:10 ^ 40 ≤ ns.getD i.toNat 0
  ·simp only [EV,reduceIte,au,aA,ao,aq,aB,aC,aD,lMp,dTr h,tZ h0 h,QC,dTr h2]
   obtain ⟨y',e⟩:=yU (l:=.list (ns.map .int)) (i:=.int i) (k:=.int k) (m:=.int m) (ns.getD i.toNat 0) (fM 0 k) 0 none (Im 0 k)
   have el:0 + (fM 0 k).length=k.toNat:=by simp [fM]
   rw [el] at e
   have e':jA (gNl 5) (bW 4 (dOp Bq (aF 4) (dC (.int 1000003)))) (fM 0 k) [some (.d (.list (ns.map .int))),some (.d (.int i)),some (.d (.int k)),some (.d (.int m)),some (.d (.int (ns.getD i.toNat 0))),none] =
    some (.nx [some (.d (.list (ns.map .int))),some (.d (.int i)),some (.d (.int k)),some (.d (.int m)),some (.d (.int (divs (ns.getD i.toNat 0) k.toNat))),y']):=e
   rw [Ei (by omega) (by omega)]
   simp only [EV,reduceIte,au,aA,ao,aq,aB,aC,aD,e']
   by_cases h3:0 < divs (ns.getD i.toNat 0) k.toNat
   ·simp only [EV,reduceIte,au,aA,ao,aq,aB,aC,aD,dTr h3,zZ (show (0:Int) < 1000003 by decide),zZ hm]
    rw [Ik h h2 h3]
   ·simp only [EV,reduceIte,au,aA,ao,aq,aB,aC,aD,dFa h3]
    rw [sS (fun z=>h3 z.2.2)]
    have:=rest (some (.d (.int (divs (ns.getD i.toNat 0) k.toNat)))) y'
    simp only [EV,reduceIte,au,aA,ao,aq,aB,aC,aD] at this
    exact this
  ·simp only [EV,reduceIte,au,aA,ao,aq,aB,aC,aD,lMp,dTr h,tZ h0 h,QC,dFa h2]
   rw [sS (fun z=>h2 z.2.1)]
   have:=rest none none
   simp only [EV,reduceIte,au,aA,ao,aq,aB,aC,aD] at this
   exact this
 ·simp only [EV,reduceIte,au,aA,ao,aq,aB,aC,aD,lMp,dFa h]
  rw [sS (fun z=>h z.1)]
  have:=rest none none
  simp only [EV,reduceIte,au,aA,ao,aq,aB,aC,aD] at this
  exact this
end Com
namespace Com
open PySem D3 My
theorem w6 {α:Type} {g:FG} {c:FT} {e:FE} {δ:DS} (f:α→D) (p:α→Bool) (h:α→D):∀ l:List α,(∀ s ∈ l,∃ δ1,g (f s) δ=some δ1∧c δ1=some (p s)∧(p s=true→e δ1=some (h s)))→d_ g c e δ (l.map f)=some ((l.filter p).map h)
 | [],_=>rfl
 | s :: r,hs=>by
  obtain ⟨δ1,e1,e2,e3⟩:=hs s aO
  have ih:=w6 f p h r fun x hx=>hs x (aM _ hx)
  rw [bI,d_,e1,aL,e2,aL]
  by_cases c:p s=true
  ·rw [if_pos c,e3 c,aL,ih,List.filter_cons,if_pos c]
   rfl
  ·rw [if_neg c,ih,List.filter_cons,if_neg c]
theorem xg {α:Type} {g:FG} {c:FT} {e:FE} {δ:DS} (f:α→D) (h:α→D):∀ l:List α,(∀ s ∈ l,∃ δ1,g (f s) δ=some δ1∧c δ1=some true∧e δ1=some (h s))→d_ g c e δ (l.map f)=some (l.map h)
 | [],_=>rfl
 | s :: r,hs=>by
  obtain ⟨δ1,e1,e2,e3⟩:=hs s aO
  rw [bI,d_,e1,aL,e2,aL,if_pos rfl,e3,aL,xg f h r fun x hx=>hs x (aM _ hx)]
  rfl
theorem iw {α:Type} (f:α→D) (h:∀ a,flat (f a)=true):∀ l:List α,flats (l.map f)=true
 | []=>rfl
 | a :: r=>by rw [bI,flats,h,iw f h r];rfl
theorem at2 {a b c:D} {l:List D}:pAt (a :: b :: c :: l) 2=some c:=lJ (k:=2)
theorem at3 {a b c d:D} {l:List D}:pAt (a :: b :: c :: d :: l) 3=some d:=lJ (k:=3)
theorem Ph {α:Type} (f:α→D) {l:List α} {i:Int} (h0:0 ≤ i) (h1:i < l.length):∃ a ∈ l,pAt (l.map f) i=some (f a):=by
 have hk:i.toNat < l.length:=by omega
 refine ⟨l[i.toNat],lq hk,?_⟩
 obtain ⟨k,rfl⟩:∃ k:Nat,i=(k:Int):=⟨i.toNat,by omega⟩
 rw [lJ,aN]
 simp only [f9] at hk ⊢
 rw [aZ hk]
 rfl
theorem n6 {m:Int}:(fM 0 m).length=m.toNat:=by unfold fM;rw [aJ,bB,sV]
theorem t_ (m:Int):fM 0 m=(aH m.toNat).map fun k:Nat=>PyData.int (k:Int):=by
 unfold fM
 rw [sV]
 apply iY
 intro k _
 rw [Int.zero_add]
theorem z6 {m:Int} {i:Nat} {d:D} (h:(fM 0 m)[i]? = some d):(i:Int) < m∧d = .int (i:Int):=by
 rw [t_,aN] at h
 by_cases hi:i < m.toNat
 ·rw [bU hi] at h
  cases h
  exact ⟨by omega,rfl⟩
 ·rw [bD (by simpa using hi)] at h
  cases h
theorem QD {l:List D} {k:Int} (h:0 ≤ k):cutD l (some k) none=l.drop k.toNat:=by
 unfold cutD
 have e:pSx l.length 0 (some k)=min k.toNat l.length:=by
  show (if k < 0 then _ else _)=_
  rw [if_neg (by omega)]
 rw [e,show pSx l.length l.length none=l.length from rfl]
 by_cases c:k.toNat ≤ l.length
 ·rw [show min k.toNat l.length=k.toNat by omega,oX (by rw [gR];omega)]
 ·rw [show min k.toNat l.length=l.length by omega,oY (by omega),oY (by omega)]
  simp
theorem QF {l:List D} {k:Int} (h:0 ≤ k):cutD l none (some k)=l.take k.toNat:=by
 unfold cutD
 have e:pSx l.length l.length (some k)=min k.toNat l.length:=by
  show (if k < 0 then _ else _)=_
  rw [if_neg (by omega)]
 rw [e,show pSx l.length 0 none=0 from rfl,List.drop_zero,Nat.sub_zero,List.take_eq_take_iff]
 omega
theorem isList:D3.isT "list" "list" = true:=rfl
mutual
theorem eqv_refl:∀ d:D,d.canLay0=true→PyData.eqv d d=true
 | .none,_=>by simp [PyData.eqv]
 | .bool b,_=>by simp [PyData.eqv]
 | .int i,_=>by simp [PyData.eqv]
 | .str x,_=>by simp [PyData.eqv]
 | .list l,h=>by
  have:=eqvAll_refl l (by simpa [PyData.canLay0] using h)
  simpa [PyData.eqv] using this
 | .tuple l,h=>by
  have:=eqvAll_refl l (by simpa [PyData.canLay0] using h)
  simpa [PyData.eqv] using this
 | .dict l,h=>by simp [PyData.canLay0] at h
theorem eqvAll_refl:∀ l:List D,PyData.canLayAll0 l=true→PyData.eqvAll l l=true
 | [],_=>by simp [PyData.eqvAll]
 | d :: r,h=>by
  rw [PyData.canLayAll0,aW] at h
  rw [PyData.eqvAll,eqv_refl d h.1,eqvAll_refl r h.2]
  rfl
end
def ly (n:Nat) (d:D):Prop:=d.canLay0=true∧d.depth ≤ n
def lys (n:Nat) (l:List D):Prop:=PyData.canLayAll0 l=true∧PyData.depthAll l ≤ n
theorem KY {n m:Nat} {d:D} (h:ly n d) (l:n ≤ m):ly m d:=⟨h.1,bV h.2 l⟩
theorem Pj {n:Nat}:lys n []:=⟨by simp [PyData.canLayAll0],by simp [PyData.depthAll]⟩
theorem KZ {n:Nat} {d:D} {l:List D} (h:ly n d) (q:lys n l):lys n (d :: l) :=
 ⟨by rw [PyData.canLayAll0,h.1,q.1];rfl,by have:=h.2;have:=q.2;simp only [PyData.depthAll];omega⟩
theorem z7 {α:Type} {n:Nat} (f:α→D) (h:∀ a,ly n (f a)):∀ l:List α,lys n (l.map f)
 | []=>Pj
 | a :: r=>KZ (h a) (z7 f h r)
theorem Gz {n:Nat} {l:List D} (h:lys n l):ly (n + 1) (.list l):=⟨by simp [PyData.canLay0,h.1],by have:=h.2;simp only [PyData.depth];omega⟩
theorem Ej {n:Nat} {i:Int}:ly (n + 1) (.int i):=⟨rfl,by simp [PyData.depth]⟩
theorem rO {d:D} (h:ly 60 d):SeqAt.shaped d=true:=by
 unfold SeqAt.shaped
 rw [aW]
 exact ⟨h.1,dTr (by have:=h.2;omega)⟩
theorem eq_self {d:D} (h:ly 60 d):gEq d d=some (.bool true):=by
 unfold gEq
 rw [rO h,eqv_refl d h.1]
 rfl
theorem ne_self {d:D} (h:ly 60 d):gNe d d=some (.bool false):=by
 unfold gNe
 rw [rO h,eqv_refl d h.1]
 rfl
end Com
namespace Com
open PySem D3 My
def q (t b:Int):Rat:=mkRat t b.toNat
end Com
namespace Com
open PySem D3 My
def sm (k:Nat) (x:Int):Prop:=x.natAbs < 2 ^ k
end Com
namespace Com
open PySem D3 My
structure Tb where
 N:Nat
 w:Nat→Int
 B:Int
def sumTo (f:Nat→Int):Nat→Int
 | 0=>0
 | n + 1=>sumTo f n + f n
structure TbOk (t:Tb) (k:Nat):Prop where
 B0:0 < t.B
 Bs:sm (7 * k + 1) t.B
 w0:∀ j,0 ≤ t.w j
 wB:∀ j,t.w j ≤ t.B
 wz:∀ j,t.N ≤ j→t.w j=0
 N1:1 ≤ t.N
 N4:t.N ≤ 1 + 4 * k
 sum:sumTo t.w t.N=t.B
theorem comp_map {g:FG} {c:FT} {e:FE} {δ:DS} (h:D→D):∀ l:List D,(∀ d ∈ l,∃ δ1,g d δ=some δ1∧c δ1=some true∧e δ1=some (h d))→d_ g c e δ l=some (l.map h)
 | [],_=>rfl
 | d :: r,hs=>by
  obtain ⟨δ1,e1,e2,e3⟩:=hs d aO
  rw [d_,e1,aL,e2,aL,if_pos rfl,e3,aL,comp_map h r fun x hx=>hs x (aM _ hx)]
  rfl
end Com
namespace Com
open PySem D3 My
end Com
namespace Com
open PySem D3 My
theorem sm1 (k:Nat) {x:Int} (h:x.natAbs ≤ 1):sm (k + 1) x:=by
 unfold sm
 rw [Nat.pow_succ]
 have:=Nat.one_le_two_pow (n:=k)
 omega
structure bd (k:Nat) (a:Rat):Prop where
 n:sm k a.num
 d:sm k (a.den:Int)
end Com
namespace Com
open PySem D3 My
end Com
namespace Com
open PySem D3 My
abbrev Sh:=Int × Int
def stD (s:Sh):D:=.tuple [.int s.1,.int s.2]
def WW (s:Sh):Prop:=0 ≤ s.1∧s.1 < s.2∧s.2 ≤ 400
def hb (n:Int) (s:Sh):Bool:=decide (s.1 ≤ n) && decide (n < s.2)
def cnt (ss:List Sh) (n:Int):Nat:=(ss.filter (hb n)).length
theorem Pq (r:Sh):flat (stD r)=true:=rfl
theorem Ek (s:Sh) (n:Int):jO [stD s,.int n]=some (.bool (hb n s)):=by
 unfold jO stD hb
 by_cases h:s.1 ≤ n
 ·simp only [EV,reduceIte,au,aA,ao,aq,aB,aC,aD,at0,at1,dTr h,jW]
 ·simp only [EV,reduceIte,au,aA,ao,aq,aB,aC,aD,at0,at1,dFa h,gW]
theorem uX {g:FG} {c:FT} {e:FE} {δ:DS} (f:Sh→D) (p:Sh→Bool) (h:Sh→D):∀ l:List Sh,(∀ s ∈ l,∃ δ1,g (f s) δ=some δ1∧c δ1=some (p s)∧e δ1=some (h s))→d_ g c e δ (l.map f)=some ((l.filter p).map h)
 | [],_=>rfl
 | s :: r,hs=>by
  obtain ⟨δ1,e1,e2,e3⟩:=hs s aO
  have ih:=uX f p h r fun x hx=>hs x (aM _ hx)
  rw [bI,d_,e1,aL,e2,aL]
  cases hp:p s with
  | true =>
   rw [if_pos rfl,e3,aL,ih,iZ (by simpa using hp)]
   rfl
  | false =>
   rw [if_neg (by decide),ih,i_ (by simpa using hp)]
theorem xq {ss:List Sh} (hl:ss.length ≤ 1000) (n:Int):iR [.list (ss.map stD),.int n]=some (.int (cnt ss n:Int)):=by
 have C:=uX (g:=gNl 0) (c:=aY (dCall jO (aG (aF 0) (aG (aF 1) (aV))))) (e:=cV (aF 0)) (δ:=[none,some (.d (.int n))]) stD (hb n) stD ss (fun s _=>⟨[some (.d (stD s)),some (.d (.int n))],rfl,by simp only [EV,reduceIte,au,aA,ao,aq,aB,aC,aD,Ek],by simp only [EV,reduceIte,au,aA,ao,aq,aB,aC,aD,Pq]⟩)
 unfold iR
 simp only [EV,reduceIte,au,aA,ao,aq,aB,aC,aD,lMp,show ss.length ≤ 100000 by omega]
 rw [show jx 1 [1] [some (U.d (PyData.list (ss.map stD))),some (U.d (PyData.int n))]=[none,some (.d (.int n))] from rfl,C]
 simp only [EV,reduceIte,au,aA,ao,aq,aB,aC,aD,lMp]
 rfl
theorem Cp {ss:List Sh} (hl:ss.length ≤ 1000):m_ [.list (ss.map stD)]=some (.list ((ss.map (·.1)).map .int)):=by
 unfold m_
 have C:=comp_map (g:=gNl 0) (c:=D3.jR) (e:=cV (dOp gIx (aF 0) (dC (.int 0)))) (δ:=[none]) (fun d=>match d with | .tuple (a :: _)=>a | _=>.none) (ss.map stD) (fun d hd=>by
  obtain ⟨r,_,rfl⟩:=cX.mp hd
  refine ⟨[some (.d (stD r))],rfl,rfl,?_⟩
  unfold stD
  simp only [EV,reduceIte,au,aA,ao,aq,aB,aC,aD,at0])
 simp only [EV,reduceIte,au,aA,ao,aq,aB,aC,aD,lMp,show ss.length ≤ 100000 by omega]
 rw [show ∀ a:Option U,jx 1 [] [a]=[none] from fun _=>rfl,C]
 simp only [EV,reduceIte,au,aA,ao,aq,aB,aC,aD]
 rw [dX,dX]
 rfl
end Com
namespace Com
open PySem D3 My
end Com
namespace Com
open PySem D3 My
theorem zl0:0 ≤ sizeLine:=fJ _
theorem zl1:1 ≤ sizeLine:=sz (by decide)
theorem zl2:2 ≤ sizeLine:=sz (by decide)
theorem zl3:3 ≤ sizeLine:=sz (by decide)
theorem zl4:4 ≤ sizeLine:=sz (by decide)
abbrev Ty:=Int × Int × Option Nat
def hD:Option Nat→D
 | none=>.none
 | some r=>.int (r:Int)
def yD (s:Ty):D:=.tuple [.int s.1,.int s.2.1,hD s.2.2]
theorem fli (i:Int):flat (.int i)=true:=rfl
theorem z8 (s:Ty):flat (yD s)=true:=by
 unfold yD hD
 obtain ⟨a,b,c⟩:=s
 cases c <;> rfl
theorem WX {n:Nat} (o:Option Nat):ly (n + 1) (hD o):=by
 cases o with
 | none=>exact ⟨rfl,by simp [hD,PyData.depth]⟩
 | some r=>exact Ej
def hol (x:Int) (s:Ty):Bool:=decide (s.1 ≤ x) && decide (x < s.2.1)
def jU (L:List Ty) (x:Int):Nat:=(L.filter (hol x)).length
theorem Io {L L':List Ty} (p:L.Perm L') (x:Int):jU L x=jU L' x:=(p.filter _).length_eq
theorem GC (L:List Ty) (x:Int):jU L x ≤ L.length:=d8 _ _
theorem El (ns:List Int) {a m now:Int} (h0:0 ≤ a) (m0:0 ≤ m) (m1:m < 4) (n1:now ≤ 399) :
 ∃ s:Ty,(now ≤ s.1∧s.1 ≤ now + 59)∧(s.1 < s.2.1∧s.2.1 ≤ 400)∧s.2.2=none∧fV [.list (ns.map .int),.int a,.int 0,.int m,.int now]=some (yD s):=by
 have go:∀ A:Int,pAt [.int 3,.int 9,.int 24,.int 60] m=some (.int A)→0 < A→A ≤ 60→∃ s:Ty,(now ≤ s.1∧s.1 ≤ now + 59)∧(s.1 < s.2.1∧s.2.1 ≤ 400)∧s.2.2=none∧fV [.list (ns.map .int),.int a,.int 0,.int m,.int now]=some (yD s):=by
  intro A eA A0 A6
  have p1:=d9 (ns:=ns) (i:=a) (k:=0) (m:=A) h0 (by decide) (by decide) A0
  have p2:=d9 (ns:=ns) (i:=a) (k:=2) (m:=4) h0 (by decide) (by decide) (by decide)
  have r1:=dO ns a 0 A0
  have r2:=dO ns a 2 (m:=4) (by decide)
  generalize jh ns a 0 A=x1 at *
  generalize jh ns a 2 4=x2 at *
  have inner:∀ B:Int,pAt [.int 2,.int 6,.int 24,.int 60] x2=some (.int B)→0 < B→∃ s:Ty,(now ≤ s.1∧s.1 ≤ now + 59)∧(s.1 < s.2.1∧s.2.1 ≤ 400)∧s.2.2=none∧fV [.list (ns.map .int),.int a,.int 0,.int m,.int now]=some (yD s):=by
   intro B eB B0
   have p3:=d9 (ns:=ns) (i:=a) (k:=1) (m:=B) h0 (by decide) (by decide) B0
   have r3:=dO ns a 1 B0
   generalize jh ns a 1 B=x3 at *
   refine ⟨(if now + x1 < 399 then now + x1 else 399,if (if now + x1 < 399 then now + x1 else 399) + (1 + x3) < 400 then (if now + x1 < 399 then now + x1 else 399) + (1 + x3) else 400,none),?_,?_,rfl,?_⟩
   ·dsimp only;refine ⟨?_,?_⟩ <;> split <;> omega
   ·dsimp only;refine ⟨?_,?_⟩ <;> split <;> split <;> omega
   ·have z1:(0:Int) + 1=1:=rfl
    have z2:(0:Int) + 2=2:=rfl
    unfold fV
    simp only [EV,reduceIte,au,aA,ao,aq,aB,aC,aD,zl4,zl3,fli,eA,p1,z1,z2,p2,eB,p3,Cm]
    rfl
  have:x2=0∨x2=1∨x2=2∨x2=3:=by omega
  rcases this with rfl | rfl | rfl | rfl
  ·exact inner 2 rfl (by decide)
  ·exact inner 6 rfl (by decide)
  ·exact inner 24 rfl (by decide)
  ·exact inner 60 rfl (by decide)
 have:m=0∨m=1∨m=2∨m=3:=by omega
 rcases this with rfl | rfl | rfl | rfl
 ·exact go 3 rfl (by decide) (by decide)
 ·exact go 9 rfl (by decide) (by decide)
 ·exact go 24 rfl (by decide) (by decide)
 ·exact go 60 rfl (by decide) (by decide)
theorem Em (ns:List Int) {now:Int} {r:Nat} (hr:r ≤ 12) (n0:0 ≤ now) (n1:now ≤ 399) :
 ∃ b e:Int,(0 ≤ b∧b ≤ now)∧(now < e∧e ≤ 400)∧gJ [.list (ns.map .int),.int 2,.int (3 * (r:Int)),.int now,.int (r:Int)]=some (yD (b,e,some r)):=by
 have p1:=d9 (ns:=ns) (i:=2) (k:=3 * (r:Int)) (m:=6) (by decide) (by omega) (by omega) (by decide)
 have p2:=d9 (ns:=ns) (i:=2) (k:=3 * (r:Int) + 2) (m:=3) (by decide) (by omega) (by omega) (by decide)
 have r1:=dO ns 2 (3 * (r:Int)) (m:=6) (by decide)
 have r2:=dO ns 2 (3 * (r:Int) + 2) (m:=3) (by decide)
 generalize jh ns 2 (3 * (r:Int)) 6=x1 at *
 generalize jh ns 2 (3 * (r:Int) + 2) 3=x2 at *
 have inner:∀ B:Int,pAt [.int 2,.int 9,.int 30] x2=some (.int B)→0 < B→∃ b e:Int,(0 ≤ b∧b ≤ now)∧(now < e∧e ≤ 400)∧gJ [.list (ns.map .int),.int 2,.int (3 * (r:Int)),.int now,.int (r:Int)]=some (yD (b,e,some r)):=by
  intro B eB B0
  have p3:=d9 (ns:=ns) (i:=2) (k:=3 * (r:Int) + 1) (m:=B) (by decide) (by omega) (by omega) B0
  have r3:=dO ns 2 (3 * (r:Int) + 1) B0
  generalize jh ns 2 (3 * (r:Int) + 1) B=x3 at *
  refine ⟨if now - x1 > 0 then now - x1 else 0,if now + 1 + x3 < 400 then now + 1 + x3 else 400,?_,?_,?_⟩
  ·refine ⟨?_,?_⟩ <;> split <;> omega
  ·refine ⟨?_,?_⟩ <;> split <;> omega
  ·unfold gJ
   simp only [EV,reduceIte,au,aA,ao,aq,aB,aC,aD,zl3,fli,p1,p2,eB,p3,Cm,Ck]
   rfl
 have:x2=0∨x2=1∨x2=2:=by omega
 rcases this with rfl | rfl | rfl
 ·exact inner 2 rfl (by decide)
 ·exact inner 9 rfl (by decide)
 ·exact inner 30 rfl (by decide)
theorem K1 (ns:List Int):∃ now:Int,0 ≤ now∧now ≤ 399∧j_ [.list (ns.map .int)]=some (.int now):=by
 have p1:=d9 (ns:=ns) (i:=0) (k:=1) (m:=40) (by decide) (by decide) (by decide) (by decide)
 have p2:=d9 (ns:=ns) (i:=0) (k:=1) (m:=400) (by decide) (by decide) (by decide) (by decide)
 have p3:=d9 (ns:=ns) (i:=0) (k:=2) (m:=4) (by decide) (by decide) (by decide) (by decide)
 have r1:=dO ns 0 1 (m:=40) (by decide)
 have r2:=dO ns 0 1 (m:=400) (by decide)
 have r3:=dO ns 0 2 (m:=4) (by decide)
 generalize jh ns 0 1 40=x1 at *
 generalize jh ns 0 1 400=x2 at *
 generalize jh ns 0 2 4=x3 at *
 have:x3=0∨x3=1∨x3=2∨x3=3:=by omega
 have fl:∀ i,flat (.int i)=true:=fun _=>rfl
 unfold j_
 rcases this with rfl | rfl | rfl | rfl
 ·exact ⟨0,by omega,by omega,by simp only [EV,reduceIte,au,aA,ao,aq,aB,aC,aD,zl4,p1,p2,p3,at0,fl]⟩
 ·exact ⟨x1,by omega,by omega,by simp only [EV,reduceIte,au,aA,ao,aq,aB,aC,aD,zl4,p1,p2,p3,at1,fl]⟩
 ·exact ⟨x2,by omega,by omega,by simp only [EV,reduceIte,au,aA,ao,aq,aB,aC,aD,zl4,p1,p2,p3,at2,fl]⟩
 ·exact ⟨390,by omega,by omega,by simp only [EV,reduceIte,au,aA,ao,aq,aB,aC,aD,zl4,p1,p2,p3,at3,fl]⟩
theorem K3 {g:FG} {b:FS} (Inv:DS→Prop) (P V:D→Prop):∀ (l:List D) (δ:DS),Inv δ→(∀ d ∈ l,∀ δ,Inv δ→∃ δ1,g d δ=some δ1∧((∃ δ',b δ1=some (.nx δ')∧Inv δ'∧P d)∨∃ v,b δ1=some (.rt v)∧V v)) →
 (∃ δ',jA g b l δ=some (.nx δ')∧Inv δ'∧∀ d ∈ l,P d)∨∃ v,jA g b l δ=some (.rt v)∧V v
 | [],δ,h,_=>.inl ⟨δ,rfl,h,fun _ z=>by cases z⟩
 | d :: l,δ,h,s=>by
  obtain ⟨δ1,e1,z⟩:=s d aO δ h
  rcases z with ⟨δ',e2,h2,hp⟩ | ⟨v,e2,hv⟩
  ·have e:jA g b (d :: l) δ=jA g b l δ':=by rw [jA,e1,aL,e2,aL]
   rw [e]
   rcases K3 Inv P V l δ' h2 (fun d hd=>s d (aM _ hd)) with ⟨δ2,a1,a2,a3⟩ | z
   ·exact .inl ⟨δ2,a1,a2,fun x hx=>by
     rcases bA.mp hx with rfl | y
     ·exact hp
     ·exact a3 x y⟩
   ·exact .inr z
  ·exact .inr ⟨v,by rw [jA,e1,aL,e2,aL],hv⟩
theorem Ip {L:List Ty} {M:Nat} {now:Int} (hl:L.length ≤ 62) :
 (fW [.list (L.map yD),.int (M:Int),.int now]=some .none∧∀ s ∈ L,jU L (if s.1 > now then s.1 else now) ≤ M)∨∃ x,fW [.list (L.map yD),.int (M:Int),.int now]=some (.int x)∧M < jU L x:=by
 have C:d_ (gNl 0) (D3.jR) (dCall vY (aG (aF 1) (aG (dOp gIx (aF 0) (dC (.int 0))) (aV)))) (jx 1 [2] [some (.d (.list (L.map yD))),some (.d (.int (M:Int))),some (.d (.int now)),none]) (L.map yD)=some ((L.map fun s=>if s.1 > now then s.1 else now).map PyData.int):=by
  rw [dX]
  exact xg yD _ L fun s _=>⟨[some (.d (yD s)),some (.d (.int now))],rfl,rfl,by unfold yD;simp only [EV,reduceIte,au,aA,ao,aq,aB,aC,aD,at0,Ck];rfl⟩
 have len:(L.map yD).length ≤ 100000:=by rw [aJ];omega
 have C2:∀ x:Int,∀ u:Option U,d_ (gNl 0) (D3.o9 (aY (dOp gLe (dOp gIx (aF 0) (dC (.int 0))) (aF 1))) (aY (dOp gLt (aF 1) (dOp gIx (aF 0) (dC (.int 1)))))) (cV (aF 0)) (jx 1 [3] [some (.d (.list (L.map yD))),some (.d (.int (M:Int))),some (.d (.int now)),some (.d (.int x))]) (L.map yD)=some ((L.filter (hol x)).map yD):=fun x u =>
  w6 yD (hol x) yD L fun s _=>⟨[some (.d (yD s)),some (.d (.int x))],rfl,by
   obtain ⟨a,b,c⟩:=s
   unfold yD hol
   simp only [EV,reduceIte,au,aA,ao,aq,aB,aC,aD,at0,at1]
   cases decide (a ≤ x) <;> simp only [D3.qTA,jW,gW] <;> simp only [EV,reduceIte,au,aA,ao,aq,aB,aC,aD,at0,at1],fun _=>by simp only [EV,reduceIte,au,aA,ao,aq,aB,aC,aD,z8]⟩
 let S:=now :: (L.map fun s=>if s.1 > now then s.1 else now)
 have gs:tH [.list (S.map PyData.int)]=some (.list ((oK S).map .int)):=by
  unfold tH
  have:S.length < 64:=by show (L.map _).length + 1 < 64;rw [aJ];omega
  simp only [mU,aL,if_pos this]
 have cat:ql (.list [.int now]) (.list ((L.map fun s=>if s.1 > now then s.1 else now).map PyData.int))=some (.list (S.map PyData.int)):=by
  rw [yS,if_pos (by rw [aJ,aJ];show 1 + L.length ≤ _;omega)]
  rfl
 have F:=K3 (g:=(gNl 3)) (b:=(sIf (aY (dOp gGt (dCall jM (aG (gh (jT (aF 0)) (gNl 0) (D3.o9 (aY (dOp gLe (dOp gIx (aF 0) (dC (.int 0))) (aF 1))) (aY (dOp gLt (aF 1) (dOp gIx (aF 0) (dC (.int 1)))))) (cV (aF 0)) 1 [3]) (aV))) (aF 1))) (cT (cV (aF 3))) (dM))) (fun δ=>∃ u,δ=[some (.d (.list (L.map yD))),some (.d (.int (M:Int))),some (.d (.int now)),u]) (fun d=>∀ x,d = .int x→jU L x ≤ M) (fun v=>∃ x,v = .int x∧M < jU L x) ((oK S).map .int)
  [some (.d (.list (L.map yD))),some (.d (.int (M:Int))),some (.d (.int now)),none] ⟨none,rfl⟩ (by
   rintro d hd δ ⟨u,rfl⟩
   obtain ⟨x,hx,rfl⟩:=cX.mp hd
   refine ⟨[some (.d (.list (L.map yD))),some (.d (.int (M:Int))),some (.d (.int now)),some (.d (.int x))],rfl,?_⟩
   have c2:=C2 x none
   have lf:((L.filter (hol x)).map yD).length=jU L x:=by rw [aJ];rfl
   by_cases z:jU L x ≤ M
   ·left
    refine ⟨[some (.d (.list (L.map yD))),some (.d (.int (M:Int))),some (.d (.int now)),some (.d (.int x))],?_,⟨_,rfl⟩,fun y hy=>by cases hy;exact z⟩
    have:decide ((jU L x:Int) > (M:Int))=false:=dFa (by omega)
    simp only [EV,reduceIte,au,aA,ao,aq,aB,aC,aD,len,c2,lf,this]
   ·right
    refine ⟨.int x,?_,x,rfl,by omega⟩
    have:decide ((jU L x:Int) > (M:Int))=true:=dTr (by omega)
    have fl:flat (.int x)=true:=rfl
    simp only [EV,reduceIte,au,aA,ao,aq,aB,aC,aD,len,c2,lf,this,fl])
 rcases F with ⟨δ',e,⟨u,rfl⟩,hP⟩ | ⟨v,e,x,rfl,hx⟩
 ·left
  refine ⟨?_,fun s hs=>hP (.int (if s.1 > now then s.1 else now)) (List.mem_map_of_mem ((je S).mem_iff.mpr (aM _ (cX.mpr ⟨s,hs,rfl⟩)))) _ rfl⟩
  unfold fW
  simp only [EV,reduceIte,au,aA,ao,aq,aB,aC,aD,zl1,len,C,cat,gs]
  rw [e]
  simp only [EV,reduceIte,au,aA,ao,aq,aB,aC,aD]
 ·right
  refine ⟨x,?_,hx⟩
  unfold fW
  simp only [EV,reduceIte,au,aA,ao,aq,aB,aC,aD,zl1,len,C,cat,gs]
  rw [e]
  simp only [EV,reduceIte,au,aA,ao,aq,aB,aC,aD]
end Com
namespace Com
open PySem D3 My
structure TOk (L:List Ty) (M:Nat) (now:Int):Prop where
 len:L.length ≤ 24
 ok:∀ s ∈ L,s.1 < s.2.1∧(∀ r,s.2.2=some r→r < M∧s.1 ≤ now∧now < s.2.1)∧(s.2.2=none→now ≤ s.1)
 nd:(L.filterMap (·.2.2)).Nodup
 full:∀ s ∈ L,jU L (if s.1 > now then s.1 else now) ≤ M
 bd:∀ s ∈ L,0 ≤ s.1∧s.2.1 ≤ 400
 nr:∀ s ∈ L,s.2.2=none→s.1 ≤ now + 59
def z9 (k:Nat) (s:Ty) (L:List Ty):List Ty:=L.take k++s :: L.drop k
theorem yV (k:Nat) (s:Ty) (L:List Ty):(z9 k s L).Perm (s :: L):=by
 unfold z9
 refine List.perm_middle.trans ?_
 rw [lg]
theorem Cq {s:Ty} {L:List Ty} {j:Int} (hl:L.length ≤ 1000) (h0:0 ≤ j) (h1:j ≤ 1000):∃ k,DN j (yD s) (L.map yD)=some ((z9 k s L).map yD):=by
 refine ⟨BR (L.map yD).length j,?_⟩
 unfold DN
 rw [if_pos ⟨by rw [aJ];omega,by omega,by omega⟩]
 unfold z9
 rw [cI,bI,rU,rW]
theorem K4 {L:List Ty} (h:∀ s ∈ L,∃ r,s.2.2=some r):(L.filterMap (·.2.2)).length=L.length:=by
 induction L with
 | nil=>rfl
 | cons s L ih =>
  obtain ⟨r,e⟩:=h s aO
  rw [dY,e]
  show _ + 1=_ + 1
  rw [ih fun s hs=>h s (aM _ hs)]
theorem Pr (x:Int):decide (x=1)=true∨decide (x=1)=false:=by cases decide (x=1) <;> simp
theorem Cr (ns:List Int) {M:Nat} {now:Int} (hM:M ≤ 12) (n0:0 ≤ now) (n1:now ≤ 399) :
 ∃ L:List Ty,TOk L M now∧(1 ≤ M→L ≠ [])∧iI [.list (ns.map .int),.int (M:Int),.int now,.int 24]=some (.list (L.map yD)):=by
 have p0:=d9 (ns:=ns) (i:=0) (k:=0) (m:=4) (by decide) (by decide) (by decide) (by decide)
 have r0:=dO ns 0 0 (m:=4) (by decide)
 have p6:=d9 (ns:=ns) (i:=0) (k:=6) (m:=6) (by decide) (by decide) (by decide) (by decide)
 generalize jh ns 0 0 4=mo at *
 generalize jh ns 0 6 6=wi at *
 have rg:pW (some [.int (M:Int)])=some (fM 0 (M:Int)):=Ei (by omega) (by omega)
 obtain ⟨bw,hb⟩:∃ bw,decide (wi=1)=bw:=⟨_,rfl⟩
 obtain ⟨δ1,e1,L1,u6,u7,l1,g1,d1,rfl⟩:=jN (g:=(gNl 6)) (b:=(sIf (D3.o9 (aY (dOp gEq (dCall bO (aG (aF 0) (aG (dC (.int 1)) (aG (aF 6) (aG (dC (.int 3)) (aV)))))) (dC (.int 1)))) (aY (dOp gLt (dCall jM (aG (aF 5) (aV))) (aF 3)))) (b_ (bW 7 (dCall bO (aG (aF 0) (aG (dC (.int 1)) (aG (dOp jo (dC (.int 12)) (aF 6)) (aG (dOp jo (dCall jM (aG (aF 5) (aV))) (dC (.int 1))) (aV))))))) (xU 5 (aF 7) (dCall gJ (aG (aF 0) (aG (dC (.int 2)) (aG (dOp pD (dC (.int 3)) (aF 6)) (aG (aF 2) (aG (aF 6) (aV))))))))) (dM)))
  (fun i δ=>∃ (L:List Ty) (u6 u7:Option U),L.length ≤ 24∧(∀ s ∈ L,∃ r,s.2.2=some r∧r < i∧(0 ≤ s.1∧s.1 ≤ now)∧(now < s.2.1∧s.2.1 ≤ 400))∧(L.filterMap (·.2.2)).Nodup ∧
   δ=[some (.d (.list (ns.map .int))),some (.d (.int (M:Int))),some (.d (.int now)),some (.d (.int 24)),some (.d (.int mo)),some (.d (.list (L.map yD))),u6,u7,none,none,none]) (fM 0 (M:Int))
  [some (.d (.list (ns.map .int))),some (.d (.int (M:Int))),some (.d (.int now)),some (.d (.int 24)),some (.d (.int mo)),some (.d (.list [])),none,none,none,none,none]
  ⟨[],none,none,by decide,fun _ h=>(by cases h),pZ,rfl⟩ (by
   rintro i d δ hd ⟨L,u6,u7,l1,g1,d1,rfl⟩
   obtain ⟨hi,rfl⟩:=z6 hd
   have g1':∀ s ∈ L,∃ r,s.2.2=some r∧r < i + 1∧(0 ≤ s.1∧s.1 ≤ now)∧(now < s.2.1∧s.2.1 ≤ 400):=fun s hs=>by
    obtain ⟨r,a,b,c⟩:=g1 s hs
    exact ⟨r,a,by omega,c⟩
   have q1:=d9 (ns:=ns) (i:=1) (k:=(i:Int)) (m:=3) (by decide) (by omega) (by omega) (by decide)
   have q2:=d9 (ns:=ns) (i:=1) (k:=12 + (i:Int)) (m:=(L.length:Int) + 1) (by decide) (by omega) (by omega) (by omega)
   have q2r:=dO ns 1 (12 + (i:Int)) (m:=(L.length:Int) + 1) (by omega)
   obtain ⟨b,e,gb,ge,gs⟩:=Em ns (r:=i) (by omega) n0 n1
   generalize jh ns 1 (i:Int) 3=y1 at *
   generalize jh ns 1 (12 + (i:Int)) ((L.length:Int) + 1)=y2 at *
   obtain ⟨k,ek⟩:=Cq (s:=(b,e,some i)) (L:=L) (j:=y2) (by omega) q2r.1 (by omega)
   have ll:((L.map yD).length:Int)=(L.length:Int):=by rw [aJ]
   have m3:pD (.int 3) (.int (i:Int))=some (.int (3 * (i:Int))):=mulL (by decide) (by decide)
   rcases Pr y1 with z | z
   ·by_cases hlt:L.length < 24
    ·have z2:decide ((L.length:Int) < 24)=true:=dTr (by omega)
     refine ⟨_,[some (.d (.list (ns.map .int))),some (.d (.int (M:Int))),some (.d (.int now)),some (.d (.int 24)),some (.d (.int mo)),some (.d (.list ((z9 k (b,e,some i) L).map yD))),some (.d (.int (i:Int))),some (.d (.int y2)),none,none,none],rfl,.inl ?_,?_⟩
     ·simp only [EV,reduceIte,au,aA,ao,aq,aB,aC,aD,q1,z,ll,z2,q2,m3,gs,J2,zK,R9 ek]
     ·have pm:=yV k (b,e,some i) L
      refine ⟨z9 k (b,e,some i) L,_,_,?_,fun s hs=>?_,?_,rfl⟩
      ·rw [pm.length_eq,bN];omega
      ·rcases bA.mp (pm.mem_iff.mp hs) with rfl | y
       ·exact ⟨i,rfl,by omega,gb,ge⟩
       ·exact g1' s y
      ·rw [(pm.filterMap _).nodup_iff]
       show (i :: L.filterMap _).Nodup
       refine cD.mpr ⟨fun y=>?_,d1⟩
       obtain ⟨s,hs,es⟩:=fK.mp y
       obtain ⟨r,a,c,_⟩:=g1 s hs
       rw [a] at es
       cases es
       omega
    ·have z2:decide ((L.length:Int) < 24)=false:=dFa (by omega)
     refine ⟨_,[some (.d (.list (ns.map .int))),some (.d (.int (M:Int))),some (.d (.int now)),some (.d (.int 24)),some (.d (.int mo)),some (.d (.list (L.map yD))),some (.d (.int (i:Int))),u7,none,none,none],rfl,.inl ?_,L,_,_,l1,g1',d1,rfl⟩
     simp only [EV,reduceIte,au,aA,ao,aq,aB,aC,aD,q1,z,ll,z2]
   ·refine ⟨_,[some (.d (.list (ns.map .int))),some (.d (.int (M:Int))),some (.d (.int now)),some (.d (.int 24)),some (.d (.int mo)),some (.d (.list (L.map yD))),some (.d (.int (i:Int))),u7,none,none,none],rfl,.inl ?_,L,_,_,l1,g1',d1,rfl⟩
    simp only [EV,reduceIte,au,aA,ao,aq,aB,aC,aD,q1,z])
 rw [n6] at g1
 have ok1:TOk L1 M now:=by
  have hs:∀ s ∈ L1,∃ r,s.2.2=some r:=fun s hs=>let ⟨r,a,_⟩:=g1 s hs;⟨r,a⟩
  have lM:L1.length ≤ M:=by
   rw [← K4 hs]
   have:=List.Nodup.length_le_of_subset (l₂:=aH M) d1 fun r hr=>by
    obtain ⟨s,h1,h2⟩:=fK.mp hr
    obtain ⟨r',a,b,_⟩:=g1 s h1
    rw [a] at h2
    cases h2
    exact aR.mpr (by omega)
   rwa [bB] at this
  refine ⟨l1,fun s h=>?_,d1,fun s h=>bV (GC _ _) lM,fun s h=>(let ⟨_,_,_,c,d⟩:=g1 s h;⟨c.1,d.2⟩),fun s h e=>(by obtain ⟨r,a,_⟩:=g1 s h;rw [a] at e;cases e)⟩
  obtain ⟨r,a,b,c,d⟩:=g1 s h
  refine ⟨by omega,fun r' e=>?_,fun e=>(by rw [a] at e;cases e)⟩
  rw [a] at e
  cases e
  exact ⟨by omega,c.2,d.1⟩
 clear g1 d1 l1
 have loop:∀ N:Int,0 ≤ N→N ≤ 30→∃ δ',jA (gNl 9) (b_ (bW 10 (dCall fV (aG (aF 0) (aG (dOp jo (dC (.int 10)) (aF 9)) (aG (dC (.int 0)) (aG (aF 4) (aG (aF 2) (aV)))))))) (b_ (bW 7 (dCall bO (aG (aF 0) (aG (dC (.int 4)) (aG (aF 9) (aG (dOp jo (dCall jM (aG (aF 5) (aV))) (dC (.int 1))) (aV))))))) (sIf (D3.o9 (aY (dOp gLt (dCall jM (aG (aF 5) (aV))) (aF 3))) (aY (dUn nA (dCall fW (aG (dOp ql (aF 5) (gU (aG (aF 10) (aV)))) (aG (aF 1) (aG (aF 2) (aV)))))))) (xU 5 (aF 7) (aF 10)) (dM)))) (fM 0 N) [some (.d (.list (ns.map .int))),some (.d (.int (M:Int))),some (.d (.int now)),some (.d (.int 24)),some (.d (.int mo)),some (.d (.list (L1.map yD))),u6,u7,some (.d (.bool (bw))),none,none]=some (.nx δ') ∧
  ∃ (L:List Ty) (u7 u9 u10:Option U),TOk L M now∧(0 < N→1 ≤ M→L ≠ [])∧δ'=[some (.d (.list (ns.map .int))),some (.d (.int (M:Int))),some (.d (.int now)),some (.d (.int 24)),some (.d (.int mo)),some (.d (.list (L.map yD))),u6,u7,some (.d (.bool (bw))),u9,u10]:=by
  intro N N0 N1
  have:=jN (g:=(gNl 9)) (b:=(b_ (bW 10 (dCall fV (aG (aF 0) (aG (dOp jo (dC (.int 10)) (aF 9)) (aG (dC (.int 0)) (aG (aF 4) (aG (aF 2) (aV)))))))) (b_ (bW 7 (dCall bO (aG (aF 0) (aG (dC (.int 4)) (aG (aF 9) (aG (dOp jo (dCall jM (aG (aF 5) (aV))) (dC (.int 1))) (aV))))))) (sIf (D3.o9 (aY (dOp gLt (dCall jM (aG (aF 5) (aV))) (aF 3))) (aY (dUn nA (dCall fW (aG (dOp ql (aF 5) (gU (aG (aF 10) (aV)))) (aG (aF 1) (aG (aF 2) (aV)))))))) (xU 5 (aF 7) (aF 10)) (dM))))) (fun i δ=>∃ (L:List Ty) (u7 u9 u10:Option U),TOk L M now∧(0 < i→1 ≤ M→L ≠ [])∧δ=[some (.d (.list (ns.map .int))),some (.d (.int (M:Int))),some (.d (.int now)),some (.d (.int 24)),some (.d (.int mo)),some (.d (.list (L.map yD))),u6,u7,some (.d (.bool (bw))),u9,u10]) (fM 0 N) [some (.d (.list (ns.map .int))),some (.d (.int (M:Int))),some (.d (.int now)),some (.d (.int 24)),some (.d (.int mo)),some (.d (.list (L1.map yD))),u6,u7,some (.d (.bool (bw))),none,none] ⟨L1,u7,none,none,ok1,fun z=>absurd z (gM 0),rfl⟩ ?step
  ·obtain ⟨δ',e,L,a,b,c,h1,h2,h3⟩:=this
   exact ⟨δ',e,L,a,b,c,h1,fun z=>h2 (by rw [n6];omega),h3⟩
  rintro i d δ hd ⟨L,u7,u9,u10,ok,_,rfl⟩
  obtain ⟨hi,rfl⟩:=z6 hd
  have l24:=ok.len
  obtain ⟨s,s1,s2,s3,es⟩:=El ns (a:=10 + (i:Int)) (m:=mo) (now:=now) (by omega) r0.1 r0.2 n1
  have q2:=d9 (ns:=ns) (i:=4) (k:=(i:Int)) (m:=(L.length:Int) + 1) (by decide) (by omega) (by omega) (by omega)
  have q2r:=dO ns 4 (i:Int) (m:=(L.length:Int) + 1) (by omega)
  generalize jh ns 4 (i:Int) ((L.length:Int) + 1)=y2 at *
  obtain ⟨k,ek⟩:=Cq (s:=s) (L:=L) (j:=y2) (by omega) q2r.1 (by omega)
  have ll:((L.map yD).length:Int)=(L.length:Int):=by rw [aJ]
  by_cases hlt:L.length < 24
  ·have z2:decide ((L.length:Int) < 24)=true:=dTr (by omega)
   have cat:ql (.list (L.map yD)) (.list [yD s])=some (.list ((L++[s]).map yD)):=by
    rw [yS,if_pos (by rw [aJ];show L.length + 1 ≤ _;omega),cI]
    rfl
   rcases Ip (L:=L++[s]) (M:=M) (now:=now) (by rw [bH];show L.length + 1 ≤ 62;omega) with ⟨f1,f2⟩ | ⟨x,f1,f3⟩
   ·have nN:isNone .none=true:=rfl
    refine ⟨_,[some (.d (.list (ns.map .int))),some (.d (.int (M:Int))),some (.d (.int now)),some (.d (.int 24)),some (.d (.int mo)),some (.d (.list ((z9 k s L).map yD))),u6,some (.d (.int y2)),some (.d (.bool (bw))),some (.d (.int (i:Int))),some (.d (yD s))],rfl,.inl ?_,?_⟩
    ·simp only [EV,reduceIte,au,aA,ao,aq,aB,aC,aD,es,ll,q2,z2,zl1,cat,f1,nN,J2,zK,R9 ek]
    ·have pm:=yV k s L
     have pm2:(z9 k s L).Perm (L++[s]):=pm.trans (List.perm_append_singleton s L).symm
     refine ⟨z9 k s L,_,_,_,⟨?_,fun t ht=>?_,?_,fun t ht=>?_,fun t ht=>?_,fun t ht en=>?_⟩,fun _ _ z=>by (have:=pm.length_eq;rw [z] at this;cases this),rfl⟩
     ·rw [pm.length_eq,bN];omega
     ·rcases bA.mp (pm.mem_iff.mp ht) with rfl | y
      ·exact ⟨s2.1,fun r e=>(by rw [s3] at e;cases e),fun _=>s1.1⟩
      ·exact ok.ok t y
     ·rw [(pm.filterMap _).nodup_iff,dY,s3]
      exact ok.nd
     ·rw [Io pm2]
      exact f2 t (pm2.mem_iff.mp ht)
     ·rcases bA.mp (pm.mem_iff.mp ht) with rfl | y
      ·exact ⟨kI n0 s1.1,s2.2⟩
      ·exact ok.bd t y
     ·rcases bA.mp (pm.mem_iff.mp ht) with rfl | y
      ·exact s1.2
      ·exact ok.nr t y en
   ·have nN:isNone (.int x)=false:=rfl
    refine ⟨_,[some (.d (.list (ns.map .int))),some (.d (.int (M:Int))),some (.d (.int now)),some (.d (.int 24)),some (.d (.int mo)),some (.d (.list (L.map yD))),u6,some (.d (.int y2)),some (.d (.bool (bw))),some (.d (.int (i:Int))),some (.d (yD s))],rfl,.inl ?_,L,_,_,_,ok,fun _ m1 z=>by
     rw [z] at f3
     have:=GC [s] x
     have f3:M < jU [s] x:=f3
     have:jU [s] x ≤ 1:=this
     omega,rfl⟩
    simp only [EV,reduceIte,au,aA,ao,aq,aB,aC,aD,es,ll,q2,z2,zl1,cat,f1,nN]
  ·have z2:decide ((L.length:Int) < 24)=false:=dFa (by omega)
   refine ⟨_,[some (.d (.list (ns.map .int))),some (.d (.int (M:Int))),some (.d (.int now)),some (.d (.int 24)),some (.d (.int mo)),some (.d (.list (L.map yD))),u6,some (.d (.int y2)),some (.d (.bool (bw))),some (.d (.int (i:Int))),some (.d (yD s))],rfl,.inl ?_,L,_,_,_,ok,fun _ _ z=>by rw [z] at hlt;exact hlt (by decide),rfl⟩
   simp only [EV,reduceIte,au,aA,ao,aq,aB,aC,aD,es,ll,q2,z2]
 have w10:pAt [.int 10,.int 30] (if bw=true then 1 else 0)=some (.int (if bw=true then 30 else 10)):=by
  cases bw <;> rfl
 have iN:vX [.bool (bw)]=some (.int (if bw=true then 1 else 0)):=rfl
 obtain ⟨δ2,e2,L,v7,v9,v10,ok,hne,rfl⟩:=loop (if bw=true then 30 else 10) (by split <;> decide) (by split <;> decide)
 refine ⟨L,ok,hne (by split <;> decide),?_⟩
 clear hne
 have rg2:pW (some [.int (if bw=true then 30 else 10)])=some (fM 0 (if bw=true then 30 else 10)):=Ei (by split <;> decide) (by split <;> decide)
 have fl:flats (L.map yD)=true:=iw _ z8 L
 unfold iI
 simp only [EV,reduceIte,au,aA,ao,aq,aB,aC,aD,p0,zl0,rg]
 rw [e1]
 generalize (if bw=true then (30:Int) else 10)=NN at *
 simp only [EV,reduceIte,au,aA,ao,aq,aB,aC,aD,p6,hb,zl2,iN,w10,rg2]
 rw [e2]
 simp only [EV,reduceIte,au,aA,ao,aq,aB,aC,aD,m9,fl]
theorem En (ns:List Int) {M:Nat} {now:Int} (hM:M ≤ 12) (n0:0 ≤ now) (n1:now ≤ 399):∃ L:List Ty,TOk L M now∧iI [.list (ns.map .int),.int (M:Int),.int now,.int 24]=some (.list (L.map yD)):=by
 obtain ⟨L,ok,_,e⟩:=Cr ns hM n0 n1
 exact ⟨L,ok,e⟩
end Com
namespace Xg
structure Ss where
 n:Nat
 fst:Nat→Int
 bhd:Nat→Int
 hld:Nat→Bool
 now:Int
structure Ss.Ok (S:Ss):Prop where
 lt:∀ k,k < S.n→S.fst k < S.bhd k
 h1:∀ k,k < S.n→S.hld k=true→S.fst k ≤ S.now∧S.now < S.bhd k
 h2:∀ k,k < S.n→S.hld k=false→S.now ≤ S.fst k
def Valid (S:Ss) (h:Nat→Int):Prop:=∀ k l,k < S.n→l < S.n→k ≠ l→S.fst k < S.bhd l→S.fst l < S.bhd k→h k ≠ h l
def hind (S:Ss) (t:Int) (k:Nat):Prop:=(S.hld k=true∨S.fst k < t)∧t < S.bhd k
def swp (S:Ss) (h:Nat→Int) (t a b:Int) (k:Nat):Int:=if S.fst k < t then h k else if h k=a then b else if h k=b then a else h k
structure Agr (S:Ss) (h o:Nat→Int) (done:Nat→Prop):Prop where
 held:∀ k,k < S.n→S.hld k=true→h k=o k
 don:∀ k,k < S.n→done k→h k=o k
section
variable {S:Ss} {h o:Nat→Int} {done:Nat→Prop} {p:Nat}
end
end Xg
namespace Xg
abbrev Sp3:=Int × Int × Int
def Ir (S:Ss) (h:Nat→Int) (st:List Sp3):Nat→Int:=st.foldl (fun g s=>swp S g s.1 s.2.1 s.2.2) h
structure WW (S:Ss) (M:Int) (g:Nat→Int) (s:Sp3):Prop where
 now:S.now ≤ s.1
 ne:s.2.1 ≠ s.2.2
 a0:0 ≤ s.2.1
 a1:s.2.1 < M
 b0:0 ≤ s.2.2
 b1:s.2.2 < M
 nh:∀ k,k < S.n→(g k=s.2.1∨g k=s.2.2)→¬ hind S s.1 k
def Good (S:Ss) (M:Int) (h:Nat→Int) (st:List Sp3):Prop:=∀ i s,st[i]? = some s→WW S M (Ir S h (st.take i)) s
variable {S:Ss} {M:Int} {h o:Nat→Int} {st:List Sp3} {s:Sp3} {done:List Nat} {p:Nat}
structure LInv (S:Ss) (M:Int) (h o:Nat→Int) (done:List Nat) (st:List Sp3):Prop where
 good:Good S M h st
 val:Valid S (Ir S h st)
 agr:Agr S (Ir S h st) o (· ∈ done)
 bd:∀ k,k < S.n→0 ≤ Ir S h st k∧Ir S h st k < M
 len:st.length ≤ done.length
theorem LInv.fin (I:LInv S M h o done st) (all:∀ k,k < S.n→S.hld k=false→k ∈ done):∀ k,k < S.n→Ir S h st k=o k:=fun k hk=>by
 cases z:S.hld k with
 | true=>exact I.agr.held k hk z
 | false=>exact I.agr.don k hk (all k hk z)
end Xg
namespace Com
open PySem D3 My
theorem Iu {n c:Nat} {l:List D} (hl:l.length=n) (h:c < n):pIx l.length (c:Int)=some c:=by
 unfold pIx
 rw [hl,if_pos (by omega),if_pos (by omega)]
 rfl
theorem vf {n c:Nat} (f:Nat→D) (h:c < n):pAt ((aH n).map f) (c:Int)=some (f c):=by
 rw [lJ,aN,bU h]
 rfl
theorem yW {n c:Nat} {d:D} (f:Nat→D):((aH n).map f).set c d=(aH n).map fun p=>if p=c then d else f p:=by
 apply fu
 intro i
 rw [nF,aN,aN]
 by_cases hi:i < n
 ·rw [bU hi,gq,gq]
  by_cases z:c=i
  ·subst z
   rw [if_pos rfl,if_pos (by simpa using hi),if_pos rfl]
  ·rw [if_neg z,if_neg (fun w=>z w.symm)]
 ·rw [bD (l:=aH n) (by simpa using hi)]
  by_cases z:c=i
  ·subst z
   rw [if_pos rfl,if_neg (by simpa using hi)]
   rfl
  ·rw [if_neg z]
   rfl
theorem QG {n:Nat} {f g:Nat→D} (h:∀ k,k < n→f k=g k):(aH n).map f=(aH n).map g:=iY fun k hk=>h k (aR.mp hk)
def tAt (L:List Ty) (k:Nat):Ty:=L.getD k (0,0,none)
theorem gj {L:List Ty} {k:Nat} (h:k < L.length):tAt L k ∈ L:=by
 unfold tAt
 rw [bG,aZ h]
 exact lq h
theorem lK (L:List Ty):L.map yD=(aH L.length).map fun k=>yD (tAt L k):=by
 apply fu
 intro i
 rw [aN,aN]
 by_cases h:i < L.length
 ·rw [bU h,aZ h]
  unfold tAt
  rw [gq,gq,bG,aZ h]
  rfl
 ·rw [bD (by omega),bD (by simpa using h)]
  rfl
def plD (n:Nat) (h:Nat→Int):List D:=(aH n).map fun k=>PyData.int (h k)
def ssT (L:List Ty) (now:Int):Xg.Ss:=⟨L.length,fun k=>(tAt L k).1,fun k=>(tAt L k).2.1,fun k=>(tAt L k).2.2.isSome,now⟩
def hB (s:Ty) (t:Int):Bool:=(s.2.2.isSome || decide (s.1 < t)) && decide (t < s.2.1)
theorem xr (o:Option Nat):isNone (hD o) = !o.isSome:=by cases o <;> rfl
section
variable {L:List Ty} {now t a b:Int} {h:Nat→Int}
end
end Com
namespace Gr
structure GInv (M:Nat) (b e:Nat→Int) (done:List Nat) (seat:Nat→Option Nat) (fs:Nat→Int):Prop where
 out:∀ p,p ∉ done→seat p=none
 inn:∀ p ∈ done,∃ r,seat p=some r∧r < M∧e p ≤ fs r
 bk:∀ r,r < M→fs r ≤ 0∨∃ p ∈ done,seat p=some r∧e p=fs r
 dj:∀ p ∈ done,∀ q ∈ done,p ≠ q→seat p=seat q→e p ≤ b q∨e q ≤ b p
def holds (b e:Nat→Int) (x:Int) (p:Nat):Bool:=decide (b p ≤ x) && decide (x < e p)
theorem pick {α:Type} (P:Nat→α→Prop):∀ M,(∀ r,r < M→∃ a,P r a)→(∀ r r' a,P r a→P r' a→r=r')→∃ l:List α,l.length=M∧l.Nodup∧∀ a ∈ l,∃ r,r < M∧P r a
 | 0,_,_=>⟨[],rfl,pZ,fun _ h=>by cases h⟩
 | M + 1,h,u=>by
  obtain ⟨l,h1,h2,h3⟩:=pick P M (fun r hr=>h r (by omega)) u
  obtain ⟨a,ha⟩:=h M (by omega)
  refine ⟨a :: l,by rw [bN,h1],cD.mpr ⟨fun z=>?_,h2⟩,fun x hx=>?_⟩
  ·obtain ⟨r,hr,hp⟩:=h3 a z
   have:=u r M a hp ha
   omega
  ·rcases bA.mp hx with rfl | z
   ·exact ⟨M,by omega,ha⟩
   ·obtain ⟨r,hr,hp⟩:=h3 x z
    exact ⟨r,by omega,hp⟩
theorem GInv.step {M:Nat} {b e:Nat→Int} {done:List Nat} {seat:Nat→Option Nat} {fs:Nat→Int} {c r:Nat} (I:GInv M b e done seat fs) (hc:c ∉ done) (hr:r < M) (hf:fs r ≤ b c) (h1:b c < e c) :
 GInv M b e (done++[c]) (fun p=>if p=c then some r else seat p) (fun x=>if x=r then e c else fs x):=by
 have ne:∀ p ∈ done,p ≠ c:=fun p hp z=>hc (z ▸ hp)
 refine ⟨fun p hp=>?_,fun p hp=>?_,fun x hx=>?_,fun p hp q hq hpq hs=>?_⟩
 ·have h2:p ≠ c:=fun z=>hp (aU _ (by rw [z];exact aK.mpr rfl))
  rw [if_neg h2]
  exact I.out p fun z=>hp (bf _ z)
 ·rcases aX.mp hp with z | z
  ·obtain ⟨x,s1,s2,s3⟩:=I.inn p z
   refine ⟨x,by rw [if_neg (ne p z)];exact s1,s2,?_⟩
   by_cases hx:x=r
   ·rw [if_pos hx];rw [hx] at s3;omega
   ·rw [if_neg hx];exact s3
  ·have z:=aK.mp z
   exact ⟨r,by rw [if_pos z],hr,by rw [if_pos rfl,z];exact eY _⟩
 ·by_cases z:x=r
  ·exact .inr ⟨c,aU _ (aK.mpr rfl),by rw [if_pos rfl,z],by rw [if_pos z]⟩
  ·rw [if_neg z]
   rcases I.bk x hx with w | ⟨p,hp,w1,w2⟩
   ·exact .inl w
   ·exact .inr ⟨p,bf _ hp,by rw [if_neg (ne p hp)];exact w1,w2⟩
 ·rcases aX.mp hp with z | z
  ·rcases aX.mp hq with w | w
   ·rw [if_neg (ne p z),if_neg (ne q w)] at hs
    exact I.dj p z q w hpq hs
   ·have w:=aK.mp w
    rw [if_neg (ne p z),if_pos w] at hs
    obtain ⟨x,s1,_,s3⟩:=I.inn p z
    rw [s1] at hs
    injection hs with hs
    rw [hs] at s3
    left
    rw [w]
    omega
  ·have z:=aK.mp z
   rcases aX.mp hq with w | w
   ·rw [if_pos z,if_neg (ne q w)] at hs
    obtain ⟨x,s1,_,s3⟩:=I.inn q w
    rw [s1] at hs
    injection hs with hs
    rw [← hs] at s3
    right
    rw [z]
    omega
   ·exact absurd (z.trans (aK.mp w).symm) hpq
end Gr
namespace Pl
open Gr
structure PInv (n M:Nat) (b e:Nat→Int) (held:Nat→Option Nat) (done:List Nat) (seat:Nat→Option Nat):Prop where
 hl:∀ k r,k < n→held k=some r→seat k=some r
 out:∀ k,k < n→held k=none→k ∉ done→seat k=none
 inn:∀ k,k ∈ done→k < n→seat k ≠ none
 lt:∀ k r,k < n→seat k=some r→r < M
 dj:∀ k l r,k < n→l < n→k ≠ l→seat k=some r→seat l=some r→e k ≤ b l∨e l ≤ b k
variable {n M:Nat} {b e:Nat→Int} {held seat:Nat→Option Nat} {done:List Nat} {now:Int} {c r:Nat}
theorem start (h1:∀ k r,k < n→held k=some r→r < M) (h2:∀ k l r,k < n→l < n→held k=some r→held l=some r→k=l):PInv n M b e held [] held :=
 ⟨fun _ _ _ h=>h,fun _ _ h _=>h,fun _ h=>(by cases h),h1,fun k l r hk hl ne a b=>absurd (h2 k l r hk hl a b) ne⟩
theorem Iv (I:PInv n M b e held done seat) (hc:c < n) (hs:seat c=none) (h1:b c < e c) (hm:((aH n).filter (holds b e (b c))).length ≤ M) :
 ∃ r,r < M∧∀ k,k < n→holds b e (b c) k=true→seat k ≠ some r:=by
 apply Classical.byContradiction
 intro no
 have all:∀ r,r < M→∃ k,(k < n∧holds b e (b c) k=true∧seat k=some r):=fun r hr=>by
  apply Classical.byContradiction
  intro z
  exact no ⟨r,hr,fun k hk hh hs=>z ⟨k,hk,hh,hs⟩⟩
 obtain ⟨l,l1,l2,l3⟩:=pick (fun r k=>k < n∧holds b e (b c) k=true∧seat k=some r) M all (fun r r' p z z'=>by
  have:=z.2.2.symm.trans z'.2.2
  injection this)
 have nd:(c :: l).Nodup:=cD.mpr ⟨fun z=>(by obtain ⟨r,_,_,_,h⟩:=l3 c z;rw [hs] at h;cases h),l2⟩
 have sub:(c :: l) ⊆ (aH n).filter (holds b e (b c)):=fun p hp=>by
  rcases bA.mp hp with rfl | z
  ·exact bM.mpr ⟨aR.mpr hc,by unfold holds;rw [dTr (eY _),dTr h1];rfl⟩
  ·obtain ⟨r,_,hp,h3,_⟩:=l3 p z
   exact bM.mpr ⟨aR.mpr hp,h3⟩
 have:=List.Nodup.length_le_of_subset nd sub
 rw [bN,l1] at this
 omega
theorem step (I:PInv n M b e held done seat) (hc:c < n) (hs:seat c=none) (hcd:c ∉ done) (hd:∀ p ∈ done,b p ≤ b c) (g1:∀ k r,k < n→held k=some r→b k ≤ now) (g2:∀ k,k < n→held k=none→now ≤ b k)
 (hr:r < M) (hf:∀ k,k < n→holds b e (b c) k=true→seat k ≠ some r):PInv n M b e held (done++[c]) (fun k=>if k=c then some r else seat k):=by
 have hcn:held c=none:=by
  cases z:held c with
  | none=>rfl
  | some r=>rw [I.hl c r hc z] at hs;cases hs
 have key:∀ k,k < n→k ≠ c→seat k=some r→e k ≤ b c:=fun k hk ne z=>by
  apply Classical.byContradiction
  intro w
  by_cases y:b k ≤ b c
  ·exact hf k hk (by unfold holds;rw [dTr y,dTr (by omega:b c < e k)];rfl) z
  ·cases h:held k with
   | some x =>
    have:=g1 k x hk h
    have:=g2 c hc hcn
    omega
   | none =>
    by_cases hkd:k ∈ done
    ·have:=hd k hkd;omega
    ·rw [I.out k hk h hkd] at z;cases z
 refine ⟨fun k x hk h=>?_,fun k hk h hn=>?_,fun k hk hn=>?_,fun k x hk h=>?_,fun k l x hk hl ne h1 h2=>?_⟩
 ·rw [if_neg (fun z=>by rw [z,hcn] at h;cases h)]
  exact I.hl k x hk h
 ·have h2:k ≠ c:=fun z=>hn (aU _ (by rw [z];exact aK.mpr rfl))
  rw [if_neg h2]
  exact I.out k hk h fun z=>hn (bf _ z)
 ·by_cases z:k=c
  ·rw [if_pos z];simp
  ·rw [if_neg z]
   rcases aX.mp hk with w | w
   ·exact I.inn k w hn
   ·exact absurd (aK.mp w) z
 ·by_cases z:k=c
  ·rw [if_pos z] at h;cases h;exact hr
  ·rw [if_neg z] at h;exact I.lt k x hk h
 ·by_cases z:k=c
  ·rw [if_pos z] at h1
   cases h1
   by_cases y:l=c
   ·exact absurd (z.trans y.symm) ne
   ·rw [if_neg y] at h2
    rw [z]
    exact .inr (key l hl y h2)
  ·rw [if_neg z] at h1
   by_cases y:l=c
   ·rw [if_pos y] at h2
    cases h2
    rw [y]
    exact .inl (key k hk z h1)
   ·rw [if_neg y] at h2
    exact I.dj k l x hk hl ne h1 h2
theorem skip (I:PInv n M b e held done seat) (hs:seat c ≠ none):PInv n M b e held (done++[c]) seat :=
 ⟨I.hl,fun k hk h hn=>I.out k hk h fun z=>hn (bf _ z),fun k hk hn=>by
  rcases aX.mp hk with w | w
  ·exact I.inn k w hn
  ·rw [aK.mp w];exact hs,I.lt,I.dj⟩
end Pl
namespace XS
open PySem PySem.W PyProof.Rows
structure Weak (lt:Nat→Nat→Bool):Prop where
 irr:∀ a,lt a a=false
 tr:∀ a b c,lt a b=true→lt b c=true→lt a c=true
 nt:∀ a b c,lt a c=true→lt a b=true∨lt b c=true
def Rk (lt:Nat→Nat→Bool) (a b:Nat):Prop:=lt a b=true∨(lt b a=false∧a < b)
section
variable {lt:Nat→Nat→Bool} {p:Array Nat} {n:Nat}
theorem Weak.not (W:Weak lt) {a b c:Nat} (h1:lt a b=false) (h2:lt b c=false):lt a c=false:=by
 cases q:lt a c with
 | false=>rfl
 | true =>
  rcases W.nt a b c q with z | z
  ·rw [z] at h1;cases h1
  ·rw [z] at h2;cases h2
theorem Rk.trans (W:Weak lt) {a b c:Nat} (h1:Rk lt a b) (h2:Rk lt b c):Rk lt a c:=by
 rcases h1 with h1 | ⟨h1,l1⟩
 ·rcases h2 with h2 | ⟨h2,l2⟩
  ·exact .inl (W.tr _ _ _ h1 h2)
  ·rcases W.nt a c b h1 with z | z
   ·exact .inl z
   ·rw [z] at h2;cases h2
 ·rcases h2 with h2 | ⟨h2,l2⟩
  ·rcases W.nt b a c h2 with z | z
   ·rw [z] at h1;cases h1
   ·exact .inl z
  ·exact .inr ⟨W.not h2 h1,by omega⟩
abbrev ga (p:Array Nat) (i:Nat):Nat:=p.getD i 0
def Asc (lt:Nat→Nat→Bool) (p:Array Nat) (m:Nat):Prop:=∀ i j,i < j→j < m→Rk lt (ga p i) (ga p j)
structure Run (lt:Nat→Nat→Bool) (n:Nat) (p:Array Nat) (m:Nat):Prop where
 asc:Asc lt p m
 rest:∀ k,m ≤ k→k < n→ga p k=k
 low:∀ k,k < m→ga p k < m
theorem Run.snoc (W:Weak lt) {a:Nat} (R:Run lt n p a) (h1:1 ≤ a) (ha:a < n) (h:lt (ga p a) (ga p (a - 1))=false):Run lt n p (a + 1):=by
 have ea:=R.rest a (bh _) ha
 have la:=R.low (a - 1) (by omega)
 have st:Rk lt (ga p (a - 1)) (ga p a):=.inr ⟨h,by omega⟩
 refine ⟨fun i j hij hj=>?_,fun k hk hn=>R.rest k (by omega) hn,fun k hk=>?_⟩
 ·by_cases z:j < a
  ·exact R.asc i j hij z
  ·have:j=a:=by omega
   subst this
   by_cases y:i=j - 1
   ·rw [y];exact st
   ·exact (R.asc i (j - 1) (by omega) (by omega)).trans W st
 ·by_cases z:k < a
  ·have:=R.low k z;omega
  ·have:k=a:=by omega
   subst this
   omega
theorem Eo (W:Weak lt):∀ (f a:Nat),Run lt n p a→1 ≤ a→a + f ≤ n→Run lt n p (dH lt (kas_asc p f a))∧a ≤ dH lt (kas_asc p f a)∧dH lt (kas_asc p f a) ≤ a + f∧(dH lt (kas_asc p f a) < a + f→lt (ga p (dH lt (kas_asc p f a))) (ga p (dH lt (kas_asc p f a) - 1))=true)
 | 0,a,R,h1,hf=>⟨R,bh _,bh _,fun z=>by
  have z:a < a + 0:=z
  omega⟩
 | f + 1,a,R,h1,hf=>by
  have e:dH lt (kas_asc p (f + 1) a)=dH lt (if lt (ga p a) (ga p (a - 1))=true then .ret a else kas_asc p f (a + 1)):=rfl
  rw [e]
  by_cases c:lt (ga p a) (ga p (a - 1))=true
  ·rw [if_pos c]
   exact ⟨R,bh _,by show a ≤ a + (f + 1);omega,fun _=>c⟩
  ·rw [if_neg c]
   obtain ⟨q1,q2,q3,q4⟩:=Eo W f (a + 1) (R.snoc W h1 (by omega) (by simpa using c)) (by omega) (by omega)
   exact ⟨q1,by omega,by omega,fun z=>q4 (by omega)⟩
theorem xu (W:Weak lt) {k:Nat} (R:Run lt n p k):∀ (f l r:Nat),l ≤ r→r ≤ k→r - l ≤ f→(∀ i,i < l→lt (ga p k) (ga p i)=false)→(∀ i,r ≤ i→i < k→lt (ga p k) (ga p i)=true) →
 dH lt (kas_place p k f l r) ≤ k∧(∀ i,i < dH lt (kas_place p k f l r)→lt (ga p k) (ga p i)=false)∧(∀ i,dH lt (kas_place p k f l r) ≤ i→i < k→lt (ga p k) (ga p i)=true)
 | 0,l,r,h1,h2,h3,h4,h5=>by
  have:l=r:=by omega
  subst this
  exact ⟨h2,h4,h5⟩
 | f + 1,l,r,h1,h2,h3,h4,h5=>by
  by_cases z:l ≥ r
  ·have:l=r:=by omega
   subst this
   have e:kas_place p k (f + 1) l l = .ret l:=by unfold kas_place;rw [if_pos z]
   rw [e]
   exact ⟨h2,h4,h5⟩
  ·have e:dH lt (kas_place p k (f + 1) l r)=dH lt (if lt (ga p k) (ga p ((l + r) / 2))=true then kas_place p k f l ((l + r) / 2) else kas_place p k f ((l + r) / 2 + 1) r):=by
    conv=>lhs;unfold kas_place
    rw [if_neg z]
    rfl
   rw [e]
   have m1:l ≤ (l + r) / 2:=by omega
   have m2:(l + r) / 2 < r:=by omega
   by_cases c:lt (ga p k) (ga p ((l + r) / 2))=true
   ·rw [if_pos c]
    refine xu W R f l ((l + r) / 2) m1 (by omega) (by omega) h4 fun i hi hk=>?_
    by_cases y:i=(l + r) / 2
    ·rw [y];exact c
    ·rcases R.asc ((l + r) / 2) i (by omega) hk with q | ⟨q,_⟩
     ·exact W.tr _ _ _ c q
     ·rcases W.nt _ (ga p i) _ c with w | w
      ·exact w
      ·rw [w] at q;cases q
   ·rw [if_neg c]
    have c:lt (ga p k) (ga p ((l + r) / 2))=false:=by simpa using c
    refine xu W R f ((l + r) / 2 + 1) r (by omega) h2 (by omega) (fun i hi=>?_) h5
    by_cases y:i=(l + r) / 2
    ·rw [y];exact c
    ·cases q:lt (ga p k) (ga p i) with
     | false=>rfl
     | true =>
      rcases R.asc i ((l + r) / 2) (by omega) (by omega) with w | ⟨w,_⟩
      ·rw [W.tr _ _ _ q w] at c;cases c
      ·rcases W.nt _ (ga p ((l + r) / 2)) _ q with w2 | w2
       ·rw [w2] at c;cases c
       ·rw [w2] at w;cases w
theorem Ul {k l:Nat} (hk:k < p.size) (hl:l ≤ k) (i:Nat):ga (bubble p k (k - l)) i=if i=l then ga p k else if l < i∧i ≤ k then ga p (i - 1) else ga p i:=by
 have e:=getElem?_bubble hk (k - l) (by omega) i
 rw [show k - (k - l)=l by omega] at e
 have g:∀ (q:Array Nat) (i:Nat),ga q i=(q[i]?).getD 0:=fun q i=>by simp [ga,gD]
 rw [g,e,g p k,g p (i - 1),g p i]
 by_cases c1:i=l
 ·rw [if_pos c1,if_pos c1]
 ·rw [if_neg c1,if_neg c1]
  by_cases c2:l < i∧i ≤ k
  ·rw [if_pos c2,if_pos c2]
  ·rw [if_neg c2,if_neg c2]
theorem K5 (W:Weak lt) (hs:p.size=n) {k l:Nat} (R:Run lt n p k) (hk:k < n) (hl:l ≤ k) (h1:∀ i,i < l→lt (ga p k) (ga p i)=false) (h2:∀ i,l ≤ i→i < k→lt (ga p k) (ga p i)=true):Run lt n (bubble p k (k - l)) (k + 1):=by
 have ek:=R.rest k (bh _) hk
 have B:=Ul (p:=p) (k:=k) (by omega) hl
 refine ⟨fun i j hij hj=>?_,fun m hm hn=>?_,fun m hm=>?_⟩
 ·rw [B,B]
  by_cases c1:i=l
  ·rw [if_pos c1,if_neg (by omega),if_pos (by omega)]
   exact .inl (h2 (j - 1) (by omega) (by omega))
  ·rw [if_neg c1]
   by_cases c2:j=l
   ·rw [if_pos c2,if_neg (by omega)]
    exact .inr ⟨h1 i (by omega),by rw [ek];exact R.low i (by omega)⟩
   ·rw [if_neg c2]
    by_cases c3:l < i∧i ≤ k
    ·rw [if_pos c3,if_pos (by omega)]
     exact R.asc _ _ (by omega) (by omega)
    ·rw [if_neg c3]
     by_cases c4:l < j∧j ≤ k
     ·rw [if_pos c4]
      exact R.asc _ _ (by omega) (by omega)
     ·rw [if_neg c4]
      exact R.asc _ _ hij (by omega)
 ·rw [B,if_neg (by omega),if_neg (by omega)]
  exact R.rest m (by omega) hn
 ·rw [B]
  split
  ·omega
  ·split
   ·have:=R.low (m - 1) (by omega);omega
   ·have:=R.low m (by omega);omega
theorem K6 (W:Weak lt):∀ (f:Nat) (p:Array Nat) (k:Nat),p.size=n→Run lt n p k→k + f=n→Run lt n (dH lt (kas_bin f p k)) n
 | 0,p,k,hs,R,h=>by
  have:k=n:=by omega
  subst this
  exact R
 | f + 1,p,k,hs,R,h=>by
  have e:dH lt (kas_bin (f + 1) p k)=dH lt (kas_bin f (bubble p k (k - dH lt (kas_place p k k 0 k))) (k + 1)):=mQ _ _
  rw [e]
  obtain ⟨q1,q2,q3⟩:=xu W R k 0 k (fJ _) (bh _) (by omega) (fun i hi=>by omega) (fun i h1 h2=>by omega)
  exact K6 W f _ (k + 1) (by rw [bubble_size];exact hs) (K5 W hs R (by omega) q1 q2 q3) (by omega)
end
end XS
namespace XS
open PySem PySem.W PyProof.Rows
section
variable {lt:Nat→Nat→Bool} {p p':Array Nat} {n a q:Nat}
theorem Rk.nr (W:Weak lt) {a b:Nat} (h:Rk lt a b):lt b a=false:=by
 rcases h with h | ⟨h,_⟩
 ·cases z:lt b a with
  | false=>rfl
  | true=>have:=W.tr _ _ _ h z;rw [W.irr] at this;cases this
 ·exact h
theorem Ep {i j:Nat} (hj:j ≤ p.size) (k:Nat):ga (kas_rev p i j) k=if i ≤ k∧k < j then ga p (i + j - 1 - k) else ga p k:=by
 have e:=getElem?_mirror_all (i:=i) hj k
 have g:∀ (q:Array Nat) (i:Nat),ga q i=(q[i]?).getD 0:=fun q i=>by simp [ga,gD]
 rw [g,g p (i + j - 1 - k),g p k]
 unfold kas_rev
 rw [e]
 by_cases c:i ≤ k∧k < j
 ·rw [if_pos c,if_pos c]
 ·rw [if_neg c,if_neg c]
theorem xG (i j:Nat):(kas_rev p i j).size=p.size:=mirror_size _ _ _ _
structure Dn (lt:Nat→Nat→Bool) (n:Nat) (p:Array Nat) (a q:Nat):Prop where
 le:q + 1 ≤ a
 desc:∀ i j,i < j→j < a - (q + 1)→Rk lt (ga p j) (ga p i)
 strict:∀ i j,i < a - (q + 1)→a - (q + 1) ≤ j→j < a→lt (ga p j) (ga p i)=true
 run:∀ i j,a - (q + 1) ≤ i→i < j→j < a→lt (ga p i) (ga p j)=false∧lt (ga p j) (ga p i)=false∧ga p i < ga p j
 rest:∀ k,a ≤ k→k < n→ga p k=k
 low:∀ k,k < a→ga p k < a
structure Desc (lt:Nat→Nat→Bool) (n:Nat) (p:Array Nat) (a:Nat):Prop where
 desc:∀ i j,i < j→j < a→Rk lt (ga p j) (ga p i)
 rest:∀ k,a ≤ k→k < n→ga p k=k
 low:∀ k,k < a→ga p k < a
theorem Dn.turn (D:Dn lt n p a q) (h:∀ k,ga p' k=if a - (q + 1) ≤ k∧k < a then ga p (a - (q + 1) + a - 1 - k) else ga p k):Desc lt n p' a:=by
 have l:=D.le
 refine ⟨fun i j hij hj=>?_,fun k hk hn=>?_,fun k hk=>?_⟩
 ·by_cases c:j < a - (q + 1)
  ·rw [h,h,if_neg (by omega),if_neg (by omega)]
   exact D.desc i j hij c
  ·rw [h j,if_pos (by omega),h i]
   by_cases e:i < a - (q + 1)
   ·rw [if_neg (by omega)]
    exact .inl (D.strict _ _ e (by omega) (by omega))
   ·rw [if_pos (by omega)]
    obtain ⟨x,y,z⟩:=D.run (a - (q + 1) + a - 1 - j) (a - (q + 1) + a - 1 - i) (by omega) (by omega) (by omega)
    exact .inr ⟨y,z⟩
 ·rw [h,if_neg (by omega)];exact D.rest k hk hn
 ·rw [h]
  split
  ·exact D.low _ (by omega)
  ·exact D.low _ hk
theorem Desc.up (D:Desc lt n p a) (ha:a < n) (h:∀ i,i < a→lt (ga p a) (ga p i)=true):Dn lt n p (a + 1) 0:=by
 refine ⟨by omega,fun i j hij hj=>D.desc i j hij (by omega),fun i j hi h1 h2=>?_,fun i j h1 h2 h3=>by omega,fun k hk hn=>D.rest k (by omega) hn,fun k hk=>?_⟩
 ·have:j=a:=by omega
  subst this
  exact h i (by omega)
 ·by_cases z:k < a
  ·have:=D.low k z;omega
  ·have:k=a:=by omega
   subst this
   rw [D.rest k (bh _) ha];omega
def turned (p:Array Nat) (a q:Nat):Array Nat:=if q > 0 then kas_rev p (a - (q + 1)) a else p
theorem rP (hs:p.size=n) (ha:a ≤ n) (l:q + 1 ≤ a) (k:Nat):ga (turned p a q) k=if a - (q + 1) ≤ k∧k < a then ga p (a - (q + 1) + a - 1 - k) else ga p k:=by
 unfold turned
 by_cases c:q > 0
 ·rw [if_pos c];exact Ep (by omega) k
 ·rw [if_neg c]
  by_cases e:a - (q + 1) ≤ k∧k < a
  ·rw [if_pos e,show a - (q + 1) + a - 1 - k=k by omega]
  ·rw [if_neg e]
theorem uY:(turned p a q).size=p.size:=by
 unfold turned
 split
 ·exact xG _ _
 ·rfl
theorem Dn.below (W:Weak lt) (D:Dn lt n p a q) (hs:p.size=n) (ha:a < n) (h:lt (ga p a) (ga p (a - 1))=true) (i:Nat) (hi:i < a):lt (ga (turned p a q) a) (ga (turned p a q) i)=true:=by
 have l:=D.le
 have all:∀ i,i < a→lt (ga p a) (ga p i)=true:=fun i hi=>by
  by_cases c:i < a - (q + 1)
  ·exact W.tr _ _ _ h (D.strict i (a - 1) c (by omega) (by omega))
  ·by_cases e:i=a - 1
   ·rw [e];exact h
   ·rcases W.nt _ (ga p i) _ h with w | w
    ·exact w
    ·rw [(D.run i (a - 1) (by omega) (by omega) (by omega)).1] at w;cases w
 rw [rP hs (by omega) l,if_neg (by omega),rP hs (by omega) l]
 split
 ·exact all _ (by omega)
 ·exact all _ hi
theorem Dn.same (W:Weak lt) (D:Dn lt n p a q) (ha:a < n) (h1:lt (ga p a) (ga p (a - 1))=false) (h2:lt (ga p (a - 1)) (ga p a)=false):Dn lt n p (a + 1) (q + 1):=by
 have l:=D.le
 have ea:=D.rest a (bh _) ha
 refine ⟨by omega,fun i j hij hj=>D.desc i j hij (by omega),fun i j hi q1 q2=>?_,fun i j q1 q2 q3=>?_,fun k hk hn=>D.rest k (by omega) hn,fun k hk=>?_⟩
 ·by_cases z:j < a
  ·exact D.strict i j (by omega) (by omega) z
  ·have:j=a:=by omega
   subst this
   rcases W.nt _ (ga p j) _ (D.strict i (j - 1) (by omega) (by omega) (by omega)) with w | w
   ·rw [w] at h2;cases h2
   ·exact w
 ·by_cases z:j < a
  ·exact D.run i j (by omega) q2 z
  ·have:j=a:=by omega
   subst this
   have lo:=D.low i (by omega)
   by_cases e:i=j - 1
   ·subst e
    exact ⟨h2,h1,by omega⟩
   ·obtain ⟨x,y,_⟩:=D.run i (j - 1) (by omega) (by omega) (by omega)
    exact ⟨W.not x h2,W.not h1 y,by omega⟩
 ·by_cases z:k < a
  ·have:=D.low k z;omega
  ·have:k=a:=by omega
   subst this
   omega
theorem z_ (W:Weak lt):∀ (f:Nat) (p:Array Nat) (a q:Nat),p.size=n→Dn lt n p a q→a + f ≤ n →
 (dH lt (kas_desc f p a q)).1.size=n∧Dn lt n (dH lt (kas_desc f p a q)).1 (dH lt (kas_desc f p a q)).2.1 (dH lt (kas_desc f p a q)).2.2∧(dH lt (kas_desc f p a q)).2.1 ≤ n
 | 0,p,a,q,hs,D,h=>⟨hs,D,h⟩
 | f + 1,p,a,q,hs,D,h=>by
  have e:dH lt (kas_desc (f + 1) p a q)=dH lt (if lt (ga p a) (ga p (a - 1))=true then (if q > 0 then kas_desc f (kas_rev p (a - (q + 1)) a) (a + 1) 0 else kas_desc f p (a + 1) 0) else .ask (ga p (a - 1)) (ga p a) fun d=>if d=true then .ret (p,a,q) else kas_desc f p (a + 1) (q + 1)):=rfl
  rw [e]
  by_cases c:lt (ga p a) (ga p (a - 1))=true
  ·rw [if_pos c]
   have e2:(if q > 0 then kas_desc f (kas_rev p (a - (q + 1)) a) (a + 1) 0 else kas_desc f p (a + 1) 0)=kas_desc f (turned p a q) (a + 1) 0:=by
    unfold turned
    split <;> rfl
   rw [e2]
   exact z_ W f (turned p a q) (a + 1) 0 (by rw [uY];exact hs) ((D.turn (rP hs (by omega) D.le)).up (by omega) (D.below W hs (by omega) c)) (by omega)
  ·rw [if_neg c]
   have e3:dH lt (.ask (ga p (a - 1)) (ga p a) fun d=>if d=true then .ret (p,a,q) else kas_desc f p (a + 1) (q + 1))=dH lt (if lt (ga p (a - 1)) (ga p a)=true then .ret (p,a,q) else kas_desc f p (a + 1) (q + 1)):=rfl
   rw [e3]
   by_cases d:lt (ga p (a - 1)) (ga p a)=true
   ·rw [if_pos d]
    exact ⟨hs,D,by show a ≤ n;omega⟩
   ·rw [if_neg d]
    exact z_ W f p (a + 1) (q + 1) hs (D.same W (by omega) (by simpa using c) (by simpa using d)) (by omega)
theorem Pu (W:Weak lt) (hs:p.size=n) (D:Desc lt n p a) (h1:1 ≤ a) (ha:a ≤ n) :
 (dH lt (kas_tail3 a n p)).2.size=n∧Run lt n (dH lt (kas_tail3 a n p)).2 (dH lt (kas_tail3 a n p)).1∧1 ≤ (dH lt (kas_tail3 a n p)).1∧(dH lt (kas_tail3 a n p)).1 ≤ n:=by
 have e:dH lt (kas_tail3 a n p)=(dH lt (kas_asc (kas_rev p 0 a) (n - a) a),kas_rev p 0 a):=mQ _ _
 rw [e]
 have B:=Ep (p:=p) (i:=0) (j:=a) (by omega)
 have R:Run lt n (kas_rev p 0 a) a:=by
  refine ⟨fun i j hij hj=>?_,fun k hk hn=>?_,fun k hk=>?_⟩
  ·rw [B,B,if_pos (by omega),if_pos (by omega)]
   exact D.desc _ _ (by omega) (by omega)
  ·rw [B,if_neg (by omega)];exact D.rest k hk hn
  ·rw [B,if_pos (by omega)];exact D.low _ (by omega)
 obtain ⟨q1,q2,q3,_⟩:=Eo W (n - a) a R h1 (by omega)
 exact ⟨by rw [xG];exact hs,q1,by show 1 ≤ dH lt _;omega,by show dH lt _ ≤ n;omega⟩
theorem GD (W:Weak lt) (hs:p.size=n) (D:Dn lt n p (a + 1) 0) (ha:a < n) :
 (dH lt (kas_descPart a n p)).2.size=n∧Run lt n (dH lt (kas_descPart a n p)).2 (dH lt (kas_descPart a n p)).1∧1 ≤ (dH lt (kas_descPart a n p)).1∧(dH lt (kas_descPart a n p)).1 ≤ n:=by
 obtain ⟨q1,q2,q3⟩:=z_ W (n - (a + 1)) p (a + 1) 0 hs D (by omega)
 have e:dH lt (kas_descPart a n p)=dH lt (kas_tail3 (dH lt (kas_desc (n - (a + 1)) p (a + 1) 0)).2.1 n (turned (dH lt (kas_desc (n - (a + 1)) p (a + 1) 0)).1 (dH lt (kas_desc (n - (a + 1)) p (a + 1) 0)).2.1 (dH lt (kas_desc (n - (a + 1)) p (a + 1) 0)).2.2)):=by
  refine (mQ _ _).trans ?_
  unfold turned
  split <;> rfl
 rw [e]
 have l:=q2.le
 exact Pu W (by rw [uY];exact q1) (q2.turn (rP q1 q3 l)) (by omega) q3
theorem K7 (W:Weak lt) (hs:p.size=n) (hn:1 ≤ n) (R:Run lt n p 1) :
 (dH lt (kas_count n p)).2.size=n∧Run lt n (dH lt (kas_count n p)).2 (dH lt (kas_count n p)).1∧1 ≤ (dH lt (kas_count n p)).1∧(dH lt (kas_count n p)).1 ≤ n:=by
 obtain ⟨q1,q2,q3,q4⟩:=Eo W (n - 1) 1 R (bh _) (by omega)
 have e:dH lt (kas_count n p)=_:=mQ _ _
 rw [e]
 clear e
 generalize dH lt (kas_asc p (n - 1) 1)=m at q1 q2 q3 q4 ⊢
 by_cases c:(m == n)=true
 ·rw [if_pos c];exact ⟨hs,q1,q2,by show m ≤ n;omega⟩
 ·rw [if_neg c]
  have c:m < n:=by
   have:¬ m=n:=by simpa using c
   omega
  have dn:=q4 (by omega)
  have st:∀ p',(∀ k,ga p' k=if 0 ≤ k∧k < m then ga p (0 + m - 1 - k) else ga p k)→lt (ga p 0) (ga p (m - 1))=false→Dn lt n p' (m + 1) 0:=fun p' B z=>by
   have D:Desc lt n p' m:=by
    refine ⟨fun i j hij hj=>?_,fun k hk hn=>?_,fun k hk=>?_⟩
    ·rw [B,B,if_pos (by omega),if_pos (by omega)]
     exact q1.asc _ _ (by omega) (by omega)
    ·rw [B,if_neg (by omega)];exact q1.rest k hk hn
    ·rw [B,if_pos (by omega)];exact q1.low _ (by omega)
   have all:∀ i,i < m→lt (ga p m) (ga p i)=true:=fun i hi=>by
    rcases W.nt _ (ga p i) _ dn with w | w
    ·exact w
    ·by_cases y:i=0
     ·subst y;rw [z] at w;cases w
     ·rcases W.nt _ (ga p 0) _ w with v | v
      ·rw [(q1.asc 0 i (by omega) hi).nr W] at v;cases v
      ·rw [z] at v;cases v
   refine D.up c fun i hi=>?_
   rw [B,if_neg (by omega),B,if_pos (by omega)]
   exact all _ (by omega)
  by_cases g:m > 1
  ·rw [if_pos g]
   show _∧Run lt n (dH lt (if lt (ga p 0) (ga p (m - 1))=true then .ret (m,p) else kas_descPart m n (kas_rev p 0 m))).2 (dH lt (if lt (ga p 0) (ga p (m - 1))=true then .ret (m,p) else kas_descPart m n (kas_rev p 0 m))).1∧_
   by_cases z:lt (ga p 0) (ga p (m - 1))=true
   ·have e:dH lt (.ask (ga p 0) (ga p (m - 1)) fun c=>if c=true then .ret (m,p) else kas_descPart m n (kas_rev p 0 m))=(m,p):=by
     show dH lt (if lt (ga p 0) (ga p (m - 1))=true then .ret (m,p) else kas_descPart m n (kas_rev p 0 m))=_
     rw [if_pos z];rfl
    rw [e,if_pos z]
    exact ⟨hs,q1,q2,by show m ≤ n;omega⟩
   ·have e:dH lt (.ask (ga p 0) (ga p (m - 1)) fun c=>if c=true then .ret (m,p) else kas_descPart m n (kas_rev p 0 m))=dH lt (kas_descPart m n (kas_rev p 0 m)):=by
     show dH lt (if lt (ga p 0) (ga p (m - 1))=true then .ret (m,p) else kas_descPart m n (kas_rev p 0 m))=_
     rw [if_neg z]
    rw [e,if_neg z]
    exact GD W (by rw [xG];exact hs) (st _ (Ep (by omega)) (by simpa using z)) c
  ·rw [if_neg g]
   have:m=1:=by omega
   subst this
   refine GD W hs (st p (fun k=>?_) (W.irr _)) c
   split
   ·rw [show 0 + 1 - 1 - k=k by omega]
   ·rfl
theorem Px (W:Weak lt) (hn:1 ≤ n):Run lt n (dH lt (kas_sort n)) n:=by
 have gr:∀ k,k < n→ga (iy (aH n)) k=k:=fun k hk=>by
  simp [ga,gD,hk]
 obtain ⟨q1,q2,q3,q4⟩:=K7 (p:=iy (aH n)) W (by simp) hn ⟨fun i j h1 h2=>by omega,fun k hk h=>gr k h,fun k hk=>by rw [gr k (by omega)];exact hk⟩
 have e:dH lt (kas_sort n)=_:=mQ _ _
 rw [e]
 clear e
 generalize dH lt (kas_count n (iy (aH n)))=r at q1 q2 q3 q4 ⊢
 by_cases c:r.1 < n
 ·rw [if_pos c,show max r.1 1=r.1 by omega]
  exact K6 W _ _ _ q1 q2 (by omega)
 ·rw [if_neg c]
  have:r.1=n:=by omega
  rw [← this]
  rw [← this] at q2
  exact q2
theorem xH (W:Weak lt) (hn:1 ≤ n):(m8 n lt).Pairwise (Rk lt):=by
 have R:=Px W hn
 have z:(m8 n lt).length=n:=by
  have:=(jF (n:=n) (by omega) lt).length_eq
  simpa using this
 rw [h_]
 intro i j hi hj hij
 have:=R.asc i j hij (by omega)
 have g:∀ k (h:k < (m8 n lt).length),ga (dH lt (kas_sort n)) k=(m8 n lt)[k]:=fun k h=>by
  unfold m8 at h ⊢
  have h':k < (dH lt (kas_sort n)).size:=by simpa using h
  simp [ga,gD,h']
 rw [g i hi,g j hj] at this
 exact this
end
end XS
namespace XS
theorem K8 {k:Nat→Int × Int}:Weak fun i j=>xV (k i) (k j):=by
 refine ⟨fun a=>?_,fun a b c h1 h2=>?_,fun a b c h=>?_⟩
 ·simp [xV]
 ·revert h1 h2
  simp only [xV]
  generalize (k a).1=a1
  generalize (k a).2=a2
  generalize (k b).1=b1
  generalize (k b).2=b2
  generalize (k c).1=c1
  generalize (k c).2=c2
  split <;> split <;> split <;> simp only [decide_eq_true_eq] <;> omega
 ·revert h
  simp only [xV]
  generalize (k a).1=a1
  generalize (k a).2=a2
  generalize (k b).1=b1
  generalize (k b).2=b2
  generalize (k c).1=c1
  generalize (k c).2=c2
  split <;> split <;> split <;> simp only [decide_eq_true_eq] <;> omega
theorem K9 (qs:List (Int × Int)):Weak (ltP qs):=K8 (k:=fun i=>qs.getD i (0,0))
theorem K_ {k:Nat→Int}:Weak fun i j=>decide (k i < k j):=by
 refine ⟨fun a=>?_,fun a b c h1 h2=>?_,fun a b c h=>?_⟩
 ·simp
 ·simp only [decide_eq_true_eq] at *;omega
 ·simp only [decide_eq_true_eq] at *;omega
end XS
namespace Com
open PySem D3 My XS
theorem WY {k:Nat→Int} {i j:Nat} (h:Rk (fun i j=>decide (k i < k j)) i j):k i ≤ k j:=by
 rcases h with z | ⟨z,_⟩
 ·have z:=of_decide_eq_true z;omega
 ·have z:=of_decide_eq_false z;omega
theorem La {l:List Nat} {lt:Nat→Nat→Bool} (h0:0 < l.length):((m8 l.length lt).map fun i=>l.getD i 0).Perm l:=by
 have e:(aH l.length).map (fun i=>l.getD i 0)=l:=by
  apply fu
  intro i
  rw [aN]
  by_cases h:i < l.length
  ·rw [bU h,aZ h,gq,bG,aZ h]
   rfl
  ·rw [bD (by simpa using h),bD (by omega)]
   rfl
 have:=(jF h0 lt).map (fun i=>l.getD i 0)
 rw [e] at this
 exact this
theorem Er (l:List Nat) (f:Nat→Int):∃ L':List Nat,su (l.map fun p:Nat=>PyData.int (p:Int)) (l.map f)=L'.map (fun p:Nat=>PyData.int (p:Int))∧L'.Perm l∧L'.Pairwise fun a b=>f a ≤ f b:=by
 unfold su
 rw [aJ]
 by_cases h1:l.length ≤ 1
 ·rw [if_pos h1]
  refine ⟨l,rfl,List.Perm.refl _,?_⟩
  match l,h1 with
  | [],_=>exact .nil
  | [_],_=>simp
 ·rw [if_neg h1]
  have gd:∀ i,i < l.length→(l.map f).getD i 0=f (l.getD i 0):=fun i hi=>by
   rw [bG,aN,bG,aZ hi]
   rfl
  refine ⟨(m8 l.length fun i j=>decide ((l.map f).getD i 0 < (l.map f).getD j 0)).map fun i=>l.getD i 0,?_,La (by omega),?_⟩
  ·rw [dX]
   apply iY
   intro i hi
   have hi':=aR.mp ((jF (n:=l.length) (by omega) _).mem_iff.mp hi)
   rw [bG,aN,aZ hi']
   show _=PyData.int ((l.getD i 0:Nat):Int)
   rw [bG,aZ hi']
   rfl
  ·rw [sX]
   have W:Weak fun i j=>decide ((l.map f).getD i 0 < (l.map f).getD j 0):=K_
   refine List.Pairwise.imp_of_mem ?_ (xH W (by omega))
   intro i j hi hj hr
   have hi':=aR.mp ((jF (n:=l.length) (by omega) _).mem_iff.mp hi)
   have hj':=aR.mp ((jF (n:=l.length) (by omega) _).mem_iff.mp hj)
   have:=WY (k:=fun i=>(l.map f).getD i 0) hr
   rw [gd i hi',gd j hj'] at this
   exact this
theorem QH (f g:Nat→Int):∀ l:List Nat,DR (l.map fun k=>PyData.tuple [.int (f k),.int (g k)])=some (l.map fun k=>(f k,g k))
 | []=>rfl
 | a :: l=>by
  rw [bI,DR,QH f g l]
  rfl
theorem Es (n:Nat) (f:Nat→Int) (hn:n < 64):∃ L':List Nat,wL [.list ((aH n).map fun k:Nat=>PyData.tuple [.int (f k),.int (k:Int)])]=some (.list (L'.map fun k:Nat=>PyData.tuple [.int (f k),.int (k:Int)]))∧L'.Perm (aH n)∧L'.Pairwise fun a b=>f a ≤ f b:=by
 by_cases h0:n=0
 ·subst h0
  exact ⟨[],rfl,List.Perm.refl _,.nil⟩
 have ei:jd ((aH n).map fun k:Nat=>PyData.tuple [.int (f k),.int (k:Int)])=none:=by
  obtain ⟨m,rfl⟩:∃ m,n=m + 1:=⟨n - 1,by omega⟩
  rw [List.range_succ_eq_map,bI]
  rfl
 have ep:=QH f (fun k:Nat=>(k:Int)) (aH n)
 have len:((aH n).map fun k:Nat=>PyData.tuple [.int (f k),.int (k:Int)]).length=n:=by rw [aJ,bB]
 unfold wL
 dsimp only
 rw [ei]
 dsimp only
 rw [ep,aL,len,if_pos hn]
 by_cases h1:n=1
 ·subst h1
  exact ⟨[0],rfl,List.Perm.refl _,by simp⟩
 ·rw [if_neg h1]
  have gd:∀ i,i < n→((aH n).map fun k:Nat=>(f k,(k:Int))).getD i (0,0)=(f i,(i:Int)):=fun i hi=>by
   rw [bG,aN,bU hi]
   rfl
  refine ⟨m8 n (ltP ((aH n).map fun k:Nat=>(f k,(k:Int)))),?_,jF (by omega) _,?_⟩
  ·congr 2
   apply iY
   intro i hi
   have hi':=aR.mp ((jF (n:=n) (by omega) _).mem_iff.mp hi)
   rw [bG,aN,bU hi']
   rfl
  ·refine List.Pairwise.imp_of_mem ?_ (xH (K9 _) (by omega))
   intro i j hi hj hr
   have hi':=aR.mp ((jF (n:=n) (by omega) _).mem_iff.mp hi)
   have hj':=aR.mp ((jF (n:=n) (by omega) _).mem_iff.mp hj)
   have key:∀ a b,a < n→b < n→ltP ((aH n).map fun k:Nat=>(f k,(k:Int))) a b=if f a=f b then decide ((a:Int) < b) else decide (f a < f b):=fun a b ha hb=>by
    unfold ltP xV
    rw [gd a ha,gd b hb]
   rcases hr with z | ⟨z,_⟩
   ·rw [key i j hi' hj'] at z
    split at z
    ·omega
    ·have:=of_decide_eq_true z;omega
   ·rw [key j i hj' hi'] at z
    split at z
    ·omega
    ·have:=of_decide_eq_false z;omega
theorem Aa {n:Nat} (f:Nat→D):kY ((aH n).map f)=(aH n).map fun p:Nat=>PyData.tuple [.int (p:Int),f p]:=by
 unfold kY
 apply fu
 intro i
 rw [jB,aN,aN]
 by_cases h:i < n
 ·rw [bU h]
  rfl
 ·rw [bD (by simpa using h)]
  rfl
theorem W0 {L:List Ty} (u:Option U) (ps:List Nat) (h:∀ p ∈ ps,p < L.length):d_ (gNl 0) D3.jR dK0 (jx 1 [0] [some (.d (.list (L.map yD))),u]) (ps.map fun p:Nat=>PyData.int (p:Int))=some ((ps.map fun p=>(tAt L p).1).map PyData.int):=by
 rw [dX]
 exact xg (fun p:Nat=>PyData.int (p:Int)) (fun p:Nat=>PyData.int (tAt L p).1) ps fun p hp=>⟨[some (.d (.int (p:Int))),some (.d (.list (L.map yD)))],rfl,rfl,by
  show (pAt (L.map yD) (p:Int)).bind _=_
  rw [lK,vf _ (h p hp)]
  rfl⟩
def opn (L:List Ty):List Nat:=(aH L.length).filter fun p=>!(tAt L p).2.2.isSome
theorem QJ {L:List Ty} (x:Int):jU L x=((aH L.length).filter (Gr.holds (fun k=>(tAt L k).1) (fun k=>(tAt L k).2.1) x)).length:=by
 have e:L=(aH L.length).map (tAt L):=by
  apply fu
  intro i
  rw [aN]
  by_cases h:i < L.length
  ·rw [bU h,aZ h,gq]
   unfold tAt
   rw [bG,aZ h]
   rfl
  ·rw [bD (by omega),bD (by simpa using h)]
   rfl
 unfold jU
 conv=>lhs;rw [e]
 rw [List.filter_map,aJ]
 rfl
theorem xJ {L:List Ty} (nd:(L.filterMap (·.2.2)).Nodup) {k l r:Nat} (hk:k < L.length) (hl:l < L.length) (z1:(tAt L k).2.2=some r) (z2:(tAt L l).2.2=some r):k=l:=by
 induction L generalizing k l with
 | nil=>cases hk
 | cons s L ih =>
  have nd':(L.filterMap (·.2.2)).Nodup:=by
   cases h:s.2.2 with
   | none=>rw [dY,h] at nd;exact nd
   | some x=>rw [dY,h] at nd;exact (cD.mp nd).2
  have no:∀ m,m < L.length→s.2.2=some r→(tAt L m).2.2=some r→False:=fun m hm a b=>by
   rw [dY,a] at nd
   exact (cD.mp nd).1 (fK.mpr ⟨_,gj hm,b⟩)
  cases k with
  | zero =>
   cases l with
   | zero=>rfl
   | succ l=>exact (no l (by simpa using hl) z1 z2).elim
  | succ k =>
   cases l with
   | zero=>exact (no k (by simpa using hk) z2 z1).elim
   | succ l=>exact congrArg (· + 1) (ih nd' (k:=k) (l:=l) (by simpa using hk) (by simpa using hl) z1 z2)
end Com
namespace Rch
structure GInv (z:Int) (M:Nat) (b e:Nat→Int) (done:List Nat) (seat:Nat→Option Nat) (fs:Nat→Int):Prop where
 out:∀ p,p ∉ done→seat p=none
 inn:∀ p ∈ done,∃ r,seat p=some r∧r < M∧e p ≤ fs r
 bk:∀ r,r < M→fs r ≤ z∨∃ p ∈ done,seat p=some r∧e p=fs r
 dj:∀ p ∈ done,∀ q ∈ done,p ≠ q→seat p=seat q→e p ≤ b q∨e q ≤ b p
theorem GInv.step {z:Int} {M:Nat} {b e:Nat→Int} {done:List Nat} {seat:Nat→Option Nat} {fs:Nat→Int} {c r:Nat} (I:GInv z M b e done seat fs) (hc:c ∉ done) (hr:r < M) (hf:fs r ≤ b c) (h1:b c < e c) :
 GInv z M b e (done++[c]) (fun p=>if p=c then some r else seat p) (fun x=>if x=r then e c else fs x):=by
 have ne:∀ p ∈ done,p ≠ c:=fun p hp z=>hc (z ▸ hp)
 refine ⟨fun p hp=>?_,fun p hp=>?_,fun x hx=>?_,fun p hp q hq hpq hs=>?_⟩
 ·have h2:p ≠ c:=fun z=>hp (aU _ (by rw [z];exact aK.mpr rfl))
  rw [if_neg h2]
  exact I.out p fun z=>hp (bf _ z)
 ·rcases aX.mp hp with z | z
  ·obtain ⟨x,s1,s2,s3⟩:=I.inn p z
   refine ⟨x,by rw [if_neg (ne p z)];exact s1,s2,?_⟩
   by_cases hx:x=r
   ·rw [if_pos hx];rw [hx] at s3;omega
   ·rw [if_neg hx];exact s3
  ·have z:=aK.mp z
   exact ⟨r,by rw [if_pos z],hr,by rw [if_pos rfl,z];exact eY _⟩
 ·by_cases z:x=r
  ·exact .inr ⟨c,aU _ (aK.mpr rfl),by rw [if_pos rfl,z],by rw [if_pos z]⟩
  ·rw [if_neg z]
   rcases I.bk x hx with w | ⟨p,hp,w1,w2⟩
   ·exact .inl w
   ·exact .inr ⟨p,bf _ hp,by rw [if_neg (ne p hp)];exact w1,w2⟩
 ·rcases aX.mp hp with z | z
  ·rcases aX.mp hq with w | w
   ·rw [if_neg (ne p z),if_neg (ne q w)] at hs
    exact I.dj p z q w hpq hs
   ·have w:=aK.mp w
    rw [if_neg (ne p z),if_pos w] at hs
    obtain ⟨x,s1,_,s3⟩:=I.inn p z
    rw [s1] at hs
    injection hs with hs
    rw [hs] at s3
    left
    rw [w]
    omega
  ·have z:=aK.mp z
   rcases aX.mp hq with w | w
   ·rw [if_pos z,if_neg (ne q w)] at hs
    obtain ⟨x,s1,_,s3⟩:=I.inn q w
    rw [s1] at hs
    injection hs with hs
    rw [← hs] at s3
    right
    rw [z]
    omega
   ·exact absurd (z.trans (aK.mp w).symm) hpq
theorem Lb {α:Type} (P:Nat→α→Prop):∀ rs:List Nat,rs.Nodup→(∀ r ∈ rs,∃ a,P r a)→(∀ r r' a,P r a→P r' a→r=r')→∃ l:List α,l.length=rs.length∧l.Nodup∧∀ a ∈ l,∃ r ∈ rs,P r a
 | [],_,_,_=>⟨[],rfl,pZ,fun _ h=>by cases h⟩
 | r0 :: rs,nd,h,u=>by
  obtain ⟨n1,n2⟩:=cD.mp nd
  obtain ⟨l,h1,h2,h3⟩:=Lb P rs n2 (fun r hr=>h r (aM _ hr)) u
  obtain ⟨a,ha⟩:=h r0 aO
  refine ⟨a :: l,by rw [bN,bN,h1],cD.mpr ⟨fun z=>?_,h2⟩,fun x hx=>?_⟩
  ·obtain ⟨r,hr,hp⟩:=h3 a z
   have:=u r r0 a hp ha
   exact n1 (this ▸ hr)
  ·rcases bA.mp hx with rfl | z
   ·exact ⟨r0,aO,ha⟩
   ·obtain ⟨r,hr,hp⟩:=h3 x z
    exact ⟨r,aM _ hr,hp⟩
def holds (b e:Nat→Int) (x:Int) (p:Nat):Bool:=decide (b p ≤ x) && decide (x < e p)
theorem holds_iff {b e:Nat→Int} {x:Int} {p:Nat}:holds b e x p=true↔b p ≤ x∧x < e p:=by
 unfold holds
 rw [aW,decide_eq_true_iff,decide_eq_true_iff]
def cnt (n:Nat) (b e:Nat→Int) (x:Int):Nat:=((aH n).filter (holds b e x)).length
theorem rQ {n:Nat} {b e:Nat→Int} {x:Int} {p:Nat}:p ∈ (aH n).filter (holds b e x)↔p < n∧b p ≤ x∧x < e p:=by
 rw [bM,aR,holds_iff]
theorem Um {n M:Nat} {b e h:Nat→Int} {x r:Int} (hv:∀ k l,k < n→l < n→k ≠ l→b k < e l→b l < e k→h k ≠ h l) (hb:∀ k,k < n→0 ≤ h k∧h k < (M:Int)) (r0:0 ≤ r) (r1:r < (M:Int))
 (no:∀ k,k < n→b k ≤ x→x < e k→h k ≠ r):cnt n b e x < M:=by
 have nd:(r :: ((aH n).filter (holds b e x)).map h).Nodup:=by
  refine cD.mpr ⟨fun z=>?_,?_⟩
  ·obtain ⟨k,hk,ek⟩:=cX.mp z
   obtain ⟨k1,k2,k3⟩:=rQ.mp hk
   exact no k k1 k2 k3 ek
  ·refine sX.mpr (List.Pairwise.imp_of_mem ?_ (List.Pairwise.filter _ jc))
   intro p q hp hq hne
   obtain ⟨p1,p2,p3⟩:=rQ.mp hp
   obtain ⟨q1,q2,q3⟩:=rQ.mp hq
   exact hv p q p1 q1 hne (by omega) (by omega)
 have sub:(r :: ((aH n).filter (holds b e x)).map h) ⊆ (aH M).map fun r:Nat=>(r:Int):=fun y hy=>by
  have go:∀ y:Int,0 ≤ y→y < (M:Int)→y ∈ (aH M).map fun r:Nat=>(r:Int):=fun y y0 y1=>cX.mpr ⟨y.toNat,aR.mpr (by omega),by omega⟩
  rcases bA.mp hy with rfl | z
  ·exact go _ r0 r1
  ·obtain ⟨k,hk,ek⟩:=cX.mp z
   obtain ⟨k1,_,_⟩:=rQ.mp hk
   rw [← ek]
   exact go _ (hb k k1).1 (hb k k1).2
 have:=List.Nodup.length_le_of_subset nd sub
 rw [bN,aJ,aJ,bB] at this
 exact this
structure Wd (n M:Nat) (b e:Nat→Int) (hd:Nat→Option Nat) (now:Int) (w r:Nat) (B:Int):Prop where
 lt:∀ k,k < n→b k < e k
 hh:∀ k s,k < n→hd k=some s→s < M∧b k ≤ now∧now < e k
 hn:∀ k,k < n→hd k=none→now ≤ b k
 one:∀ k l s,k < n→l < n→hd k=some s→hd l=some s→k=l
 full:∀ k,k < n→now ≤ b k→cnt n b e (b k) ≤ M
 wn:w < n
 wh:hd w=none
 rM:r < M
 beg:(∃ k,k < n∧hd k=some r∧B=e k)∨((∀ k,k < n→hd k ≠ some r)∧B=now)
section
variable {n M:Nat} {b e:Nat→Int} {hd:Nat→Option Nat} {now:Int} {w r:Nat} {B:Int}
def Go (n:Nat) (b e:Nat→Int) (hd:Nat→Option Nat) (w k:Nat):Prop:=k < n∧k ≠ w∧hd k=none∧e k ≤ b w
inductive Pth (n M:Nat) (b e:Nat→Int) (hd:Nat→Option Nat) (w:Nat) (B:Int):List Nat→Int→Prop
 | start:Pth n M b e hd w B [] B
 | gap {cs:List Nat} {x:Int}:Pth n M b e hd w B cs x→cnt n b e x ≠ M→x < b w→Pth n M b e hd w B cs (x + 1)
 | stay {cs:List Nat} {k:Nat}:Pth n M b e hd w B cs (b k)→Go n b e hd w k→Pth n M b e hd w B (cs++[k]) (e k)
theorem Pth.ge (W:Wd n M b e hd now w r B) {cs:List Nat} {x:Int} (h:Pth n M b e hd w B cs x):B ≤ x:=by
 induction h with
 | start=>exact eY _
 | gap _ _ _ ih=>omega
 | stay _ g ih =>
  have:=W.lt _ g.1
  omega
theorem Pth.mem (W:Wd n M b e hd now w r B) {cs:List Nat} {x:Int} (h:Pth n M b e hd w B cs x):∀ k ∈ cs,Go n b e hd w k∧B ≤ b k∧e k ≤ x:=by
 induction h with
 | start=>intro k hk;cases hk
 | gap _ _ _ ih=>intro k hk;obtain ⟨h1,h2,h3⟩:=ih k hk;exact ⟨h1,h2,by omega⟩
 | stay p g ih =>
  intro k hk
  rcases aX.mp hk with z | z
  ·obtain ⟨h1,h2,h3⟩:=ih k z
   have:=W.lt _ g.1
   exact ⟨h1,h2,by omega⟩
  ·rw [aK.mp z]
   exact ⟨g,p.ge W,eY _⟩
theorem Pth.pw (W:Wd n M b e hd now w r B) {cs:List Nat} {x:Int} (h:Pth n M b e hd w B cs x):cs.Pairwise fun p q=>e p ≤ b q:=by
 induction h with
 | start=>exact .nil
 | gap _ _ _ ih=>exact ih
 | stay p g ih=>exact jC.mpr ⟨ih,kj _ _,fun a ha q hq=>by rw [aK.mp hq];exact (p.mem W a ha).2.2⟩
theorem Pth.cov (W:Wd n M b e hd now w r B) {cs:List Nat} {x:Int} (h:Pth n M b e hd w B cs x):∀ y,B ≤ y→y < x→(∃ k ∈ cs,b k ≤ y∧y < e k)∨cnt n b e y ≠ M:=by
 induction h with
 | start=>intro y h1 h2;omega
 | @gap cs x p g1 g2 ih =>
  intro y h1 h2
  by_cases z:y=x
  ·rw [z];exact .inr g1
  ·exact ih y h1 (by omega)
 | @stay cs k p g ih =>
  intro y h1 h2
  by_cases z:b k ≤ y
  ·exact .inl ⟨k,aU _ (aK.mpr rfl),z,h2⟩
  ·rcases ih y h1 (by omega) with ⟨k',m,q⟩ | q
   ·exact .inl ⟨k',bf _ m,q⟩
   ·exact .inr q
theorem reach (W:Wd n M b e hd now w r B) {h:Nat→Int} (hv:∀ k l,k < n→l < n→k ≠ l→b k < e l→b l < e k→h k ≠ h l) (hb:∀ k,k < n→0 ≤ h k∧h k < (M:Int)) (hf:∀ k s,k < n→hd k=some s→h k=(s:Int)) (hw:h w=(r:Int)) :
 B ≤ b w∧∀ K:Int→Prop,K B→(∀ x,B ≤ x→x < b w→K x→(cnt n b e x ≠ M→K (x + 1))∧∀ k,Go n b e hd w k→b k=x→K (e k))→K (b w):=by
 have rM:=W.rM
 have late:∀ k,k < n→hd k=none→h k=(r:Int)→B ≤ b k:=fun k k1 k2 k3=>by
  rcases W.beg with ⟨l,l1,l2,l3⟩ | ⟨_,l3⟩
  ·have kl:k ≠ l:=fun z=>by rw [z,l2] at k2;cases k2
   obtain ⟨_,q1,q2⟩:=W.hh l r l1 l2
   have q3:=W.hn k k1 k2
   have q4:=W.lt k k1
   rcases sY (b k) (e l) with z | z
   ·exact absurd (k3.trans (hf l r l1 l2).symm) (hv k l k1 l1 kl z (by omega))
   ·omega
  ·rw [l3];exact W.hn k k1 k2
 have hB:=late w W.wn W.wh hw
 refine ⟨hB,fun K K0 KS=>?_⟩
 have main:∀ m:Nat,∀ x:Int,x=B + (m:Int)→x ≤ b w→(∀ k,k < n→h k=(r:Int)→¬ (b k < x∧x < e k))→K x:=by
  intro m
  induction m using Nat.strongRecOn with
  | _ m ih =>
   intro x hx hg nb
   cases m with
   | zero =>
    have:x=B:=by omega
    rw [this];exact K0
   | succ m =>
    by_cases em:∃ k,k < n∧h k=(r:Int)∧b k ≤ x - 1∧x - 1 < e k
    ·obtain ⟨k,k1,k2,k3,k4⟩:=em
     have k5:e k=x:=by
      have:=nb k k1 k2
      omega
     have kn:hd k=none:=by
      cases z:hd k with
      | none=>rfl
      | some s =>
       have:=hf k s k1 z
       have sr:s=r:=by omega
       rw [sr] at z
       exfalso
       rcases W.beg with ⟨l,l1,l2,l3⟩ | ⟨l1,_⟩
       ·have:=W.one k l r k1 l1 z l2
        rw [this] at k5
        omega
       ·exact l1 k k1 z
     have kw:k ≠ w:=fun z=>by
      have:=W.lt w W.wn
      rw [z] at k5
      omega
     have kb:=late k k1 kn k2
     have lk:=W.lt k k1
     have:=ih (b k - B).toNat (by omega) (b k) (by omega) (by omega) (fun l l1 l2 l3=>by
      have kl:k ≠ l:=fun z=>by rw [z] at l3;omega
      exact hv k l k1 l1 kl (by omega) (by omega) (k2.trans l2.symm))
     have:=(KS (b k) kb (by omega) this).2 k ⟨k1,kw,kn,by omega⟩ rfl
     rwa [k5] at this
    ·have c:=Um (x:=x - 1) (r:=(r:Int)) hv hb (by omega) (by omega) (fun k k1 k2 k3 k4=>em ⟨k,k1,k4,k2,k3⟩)
     have:=ih m (by omega) (x - 1) (by omega) (by omega) (fun k k1 k2 k3=>em ⟨k,k1,k2,by omega,k3.2⟩)
     have:=(KS (x - 1) (by omega) (by omega) this).1 (by omega)
     rwa [show x - 1 + 1=x by omega] at this
 refine main (b w - B).toNat (b w) (by omega) (eY _) fun k k1 k2 k3=>?_
 have kw:k ≠ w:=fun z=>by rw [z] at k3;omega
 have:=W.lt w W.wn
 exact hv k w k1 W.wn kw (by omega) (by omega) (k2.trans hw.symm)
theorem W2 (W:Wd n M b e hd now w r B) (hB:B ≤ b w) {cs:List Nat} (p:Pth n M b e hd w B cs (b w)) {f:Nat→Int} (hf:∀ s,s < M→(∃ k,k < n∧hd k=some s∧f s=e k)∨((∀ k,k < n→hd k ≠ some s)∧f s=now)) (hr:f r=B) {hel:List Nat} (hh:∀ k,k ∈ hel↔k < n∧(hd k).isSome=true) (ho:∀ k,n ≤ k→hd k=none) :
 GInv now M b e (hel++(cs++[w])) (fun k=>if k ∈ cs++[w] then some r else hd k) (fun s=>if s=r then e w else f s):=by
 have lw:=W.lt w W.wn
 have rM:=W.rM
 have inC:∀ k ∈ cs++[w],k < n∧hd k=none∧B ≤ b k∧e k ≤ e w:=fun k hk=>by
  rcases aX.mp hk with z | z
  ·obtain ⟨g,g1,g2⟩:=p.mem W k z
   exact ⟨g.1,g.2.2.1,g1,by omega⟩
  ·rw [aK.mp z]
   exact ⟨W.wn,W.wh,hB,eY _⟩
 have ap:∀ k l,k ∈ cs++[w]→l ∈ cs++[w]→k ≠ l→e k ≤ b l∨e l ≤ b k:=by
  have pw:(cs++[w]).Pairwise fun p q=>e p ≤ b q:=jC.mpr ⟨p.pw W,kj _ _,fun a ha q hq=>by rw [aK.mp hq];exact (p.mem W a ha).2.2⟩
  intro k l hk hl kl
  obtain ⟨i,hi,ei⟩:=gB hk
  obtain ⟨j,hj,ej⟩:=gB hl
  rcases sW i j with z | z | z
  ·left
   have:=h_.mp pw i j hi hj z
   rwa [ei,ej] at this
  ·subst z
   exact absurd (ei.symm.trans ej) kl
  ·right
   have:=h_.mp pw j i hj hi z
   rwa [ei,ej] at this
 have held:∀ k s,k < n→hd k=some s→k ∉ cs++[w]:=fun k s _ k2 z=>by
  rw [(inC k z).2.1] at k2;cases k2
 have heldB:∀ k,k < n→hd k=some r→e k=B:=fun k k1 k2=>by
  rcases W.beg with ⟨l,l1,l2,l3⟩ | ⟨l1,_⟩
  ·rw [W.one k l r k1 l1 k2 l2,l3]
  ·exact absurd k2 (l1 k k1)
 refine ⟨fun k hk=>?_,fun k hk=>?_,fun s hs=>?_,fun k hk l hl kl hs=>?_⟩
 ·have h1:k ∉ cs++[w]:=fun z=>hk (aU _ z)
  show (if k ∈ cs++[w] then some r else hd k)=none
  rw [if_neg h1]
  cases z:hd k with
  | none=>rfl
  | some s =>
   rcases jH k n with y | y
   ·exact absurd (bf _ ((hh k).mpr ⟨y,by rw [z];rfl⟩)) hk
   ·rw [ho k y] at z;cases z
 ·show ∃ s,(if k ∈ cs++[w] then some r else hd k)=some s∧s < M∧e k ≤ if s=r then e w else f s
  by_cases c:k ∈ cs++[w]
  ·exact ⟨r,by rw [if_pos c],rM,by rw [if_pos rfl];exact (inC k c).2.2.2⟩
  ·have kh:k ∈ hel:=by
    rcases aX.mp hk with z | z
    ·exact z
    ·exact absurd z c
   obtain ⟨k1,k2⟩:=(hh k).mp kh
   obtain ⟨s,es⟩:=cN.mp k2
   refine ⟨s,by rw [if_neg c];exact es,(W.hh k s k1 es).1,?_⟩
   by_cases z:s=r
   ·rw [if_pos z]
    rw [z] at es
    have:=heldB k k1 es
    omega
   ·rw [if_neg z]
    rcases hf s (W.hh k s k1 es).1 with ⟨l,l1,l2,l3⟩ | ⟨l1,_⟩
    ·rw [l3,W.one k l s k1 l1 es l2]
     exact eY _
    ·exact absurd es (l1 k k1)
 ·show (if s=r then e w else f s) ≤ now∨∃ p ∈ hel++(cs++[w]),(if p ∈ cs++[w] then some r else hd p)=some s∧e p=if s=r then e w else f s
  by_cases z:s=r
  ·right
   have m:w ∈ cs++[w]:=aU _ (aK.mpr rfl)
   exact ⟨w,aU _ m,by rw [if_pos m,z],by rw [if_pos z]⟩
  ·rw [if_neg z]
   rcases hf s hs with ⟨l,l1,l2,l3⟩ | ⟨_,l3⟩
   ·exact .inr ⟨l,bf _ ((hh l).mpr ⟨l1,by rw [l2];rfl⟩),by rw [if_neg (held l s l1 l2)];exact l2,l3.symm⟩
   ·exact .inl (by omega)
 ·have hs:(if k ∈ cs++[w] then some r else hd k)=if l ∈ cs++[w] then some r else hd l:=hs
  by_cases c:k ∈ cs++[w]
  ·by_cases d:l ∈ cs++[w]
   ·exact ap k l c d kl
   ·rw [if_pos c,if_neg d] at hs
    have lh:l ∈ hel:=by
     rcases aX.mp hl with z | z
     ·exact z
     ·exact absurd z d
    have:=heldB l ((hh l).mp lh).1 hs.symm
    have:=(inC k c).2.2.1
    omega
  ·have kh:k ∈ hel:=by
    rcases aX.mp hk with z | z
    ·exact z
    ·exact absurd z c
   rw [if_neg c] at hs
   by_cases d:l ∈ cs++[w]
   ·rw [if_pos d] at hs
    have:=heldB k ((hh k).mp kh).1 hs
    have:=(inC l d).2.2.1
    omega
   ·rw [if_neg d] at hs
    have lh:l ∈ hel:=by
     rcases aX.mp hl with z | z
     ·exact z
     ·exact absurd z d
    obtain ⟨k1,k2⟩:=(hh k).mp kh
    obtain ⟨s,es⟩:=cN.mp k2
    exact absurd (W.one k l s k1 ((hh l).mp lh).1 es (hs.symm.trans es)) kl
theorem room (W:Wd n M b e hd now w r B) (hB:B ≤ b w) {cs:List Nat} (p:Pth n M b e hd w B cs (b w)) {done:List Nat} {seat:Nat→Option Nat} {fs:Nat→Int} {c:Nat} (I:GInv now M b e done seat fs) (hc:c ∉ done) (hcn:c < n) (hcf:hd c=none) (hdn:∀ k ∈ done,k < n)
 (hA:∀ k ∈ done,k ∈ cs++[w]∨b k ≤ b c) (hC:∀ k ∈ cs++[w],k ∈ done∧seat k=some r) (hG:∀ k,k < n→hd k=some r→k ∈ done∧seat k=some r):∃ s,s < M∧fs s ≤ b c:=by
 apply Classical.byContradiction
 intro no
 have nb:=W.hn c hcn hcf
 have lc:=W.lt c hcn
 have cm:=W.full c hcn nb
 have all:∀ s,s < M→∃ k,k ∈ done∧seat k=some s∧b c < e k:=fun s hs=>by
  have hn:¬ fs s ≤ b c:=fun z=>no ⟨s,hs,z⟩
  rcases I.bk s hs with z | ⟨k,hk,h2,h3⟩
  ·omega
  ·exact ⟨k,hk,h2,by omega⟩
 have sub:∀ l:List Nat,(∀ k ∈ l,k ∈ done∧b k ≤ b c∧b c < e k)→l.Nodup→l.length + 1 ≤ cnt n b e (b c):=fun l hl nd=>by
  have nd2:(c :: l).Nodup:=cD.mpr ⟨fun z=>hc (hl c z).1,nd⟩
  have:=List.Nodup.length_le_of_subset (l₂:=(aH n).filter (holds b e (b c))) nd2 fun k hk=>by
   rcases bA.mp hk with rfl | z
   ·exact rQ.mpr ⟨hcn,eY _,lc⟩
   ·obtain ⟨h1,h2,h3⟩:=hl k z
    exact rQ.mpr ⟨hdn k h1,h2,h3⟩
  rwa [bN] at this
 have oth:∀ s,s < M→s ≠ r→∃ k,k ∈ done∧seat k=some s∧b k ≤ b c∧b c < e k:=fun s hs sr=>by
  obtain ⟨k,k1,k2,k3⟩:=all s hs
  refine ⟨k,k1,k2,?_,k3⟩
  rcases hA k k1 with z | z
  ·rw [(hC k z).2] at k2
   injection k2 with k2
   exact absurd k2.symm sr
  ·exact z
 have uni:∀ s s' k,(k ∈ done∧seat k=some s∧b k ≤ b c∧b c < e k)→(k ∈ done∧seat k=some s'∧b k ≤ b c∧b c < e k)→s=s':=fun s s' k z z'=>by
  have:=z.2.1.symm.trans z'.2.1
  injection this
 by_cases own:∃ k,k ∈ done∧seat k=some r∧b k ≤ b c∧b c < e k
 ·obtain ⟨l,l1,l2,l3⟩:=Lb (fun s k=>k ∈ done∧seat k=some s∧b k ≤ b c∧b c < e k) (aH M) jc (fun s hs=>by
   by_cases z:s=r
   ·rw [z];exact own
   ·exact oth s (aR.mp hs) z) uni
  have:=sub l (fun k hk=>let ⟨_,_,q⟩:=l3 k hk;⟨q.1,q.2.2⟩) l2
  rw [l1,bB] at this
  omega
 ·obtain ⟨l,l1,l2,l3⟩:=Lb (fun s k=>k ∈ done∧seat k=some s∧b k ≤ b c∧b c < e k) ((aH M).erase r) (List.Nodup.erase r jc) (fun s hs=>by
   obtain ⟨h1,h2⟩:=(List.Nodup.mem_erase_iff jc).mp hs
   exact oth s (aR.mp h2) h1) uni
  have q:=sub l (fun k hk=>let ⟨_,_,q⟩:=l3 k hk;⟨q.1,q.2.2⟩) l2
  rw [l1,List.length_erase_of_mem (aR.mpr W.rM),bB] at q
  have rM:=W.rM
  have eM:cnt n b e (b c)=M:=by omega
  obtain ⟨k,k1,k2,k3⟩:=all r rM
  have kc:k ∈ cs++[w]:=by
   rcases hA k k1 with z | z
   ·exact z
   ·exact absurd ⟨k,k1,k2,z,k3⟩ own
  have cw:b c < b w:=by
   rcases sY (b c) (b w) with z | z
   ·exact z
   ·have:b c < e w:=by
     rcases aX.mp kc with y | y
     ·have:=(p.mem W k y).2.2
      have:=W.lt w W.wn
      omega
     ·rw [aK.mp y] at k3
      exact k3
    have m:w ∈ cs++[w]:=aU _ (aK.mpr rfl)
    exact absurd ⟨w,(hC w m).1,(hC w m).2,z,this⟩ own
  have cB:B ≤ b c:=by
   rcases W.beg with ⟨l,l1,l2,l3⟩ | ⟨_,l3⟩
   ·rcases sY (b c) B with z | z
    ·obtain ⟨q1,q2⟩:=hG l l1 l2
     have q3:=(W.hh l r l1 l2).2.1
     exact absurd ⟨l,q1,q2,by omega,by omega⟩ own
    ·exact z
   ·omega
  rcases p.cov W (b c) cB cw with ⟨k',m,q1,q2⟩ | q1
  ·have m':k' ∈ cs++[w]:=bf _ m
   exact absurd ⟨k',(hC k' m').1,(hC k' m').2,q1,q2⟩ own
  ·exact q1 eM
end
end Rch
namespace K47
open PySem D3
noncomputable abbrev fH:List D→Option D:=Com.fH
noncomputable def iK:List D→Option D:=fnD 1 0 (cT (dCall Dr (aG (gh (R5 (aF 0)) (gNl 0) (jR) (dCall fH (aG (aF 0) (aV))) 1 []) (aV))))
noncomputable def lN:List D→Option D:=fnD 2 0 (cT (uo (dUn (gIs "tuple") (aF 0)) (uo (dOp gEq (dCall jM (aG (aF 0) (aV))) (aF 1)) (dCall iK (aG (aF 0) (aV))))))
noncomputable def oU:List D→Option D:=fnD 1 0 (cT (dCall lN (aG (aF 0) (aG (dC (.int 2)) (aV)))))
noncomputable def eN:List D→Option D:=fnD 1 0 (cT (uo (dUn (gIs "list") (aF 0)) (dCall iK (aG (aF 0) (aV)))))
noncomputable abbrev iJ:List D→Option D:=Com.iJ
noncomputable def k_:List D→Option D:=fnD 1 0 (cT (uo (dCall oU (aG (aF 0) (aV))) (vp gLe gLt gLe (dC (.int 0)) (dOp gIx (aF 0) (dC (.int 0))) (dOp gIx (aF 0) (dC (.int 1))) (dC (.int 400)))))
noncomputable abbrev cM:List D→Option D:=Com.cM
noncomputable abbrev jO:List D→Option D:=Com.jO
noncomputable abbrev oR:List D→Option D:=Com.oR
noncomputable abbrev mK:List D→Option D:=Com.mK
noncomputable abbrev iR:List D→Option D:=Com.iR
noncomputable abbrev m_:List D→Option D:=Com.m_
noncomputable abbrev kZ:List D→Option D:=Com.kZ
noncomputable def lB:List D→Option D:=fnD 3 1 (b_ (sIf (D3.tOr (D3.oH (aY (dUn (gIs "tuple") (aF 0)))) (D3.tOr (aY (dOp gNe (dCall jM (aG (aF 0) (aV))) (dC (.int 3)))) (D3.oH (aY (dCall k_ (aG (dCall cM (aG (aF 0) (aV))) (aV))))))) (cT (dC (.bool false))) (dM))
 (b_ (bW 3 (dOp gIx (aF 0) (dC (.int 2))))
 (b_ (sIf (aY (dUn nA (aF 3))) (cT (dOp gGe (dOp gIx (aF 0) (dC (.int 0))) (aF 2))) (dM))
 (cT (uo (dCall fH (aG (aF 3) (aV))) (uo (mY gLe gLt (dC (.int 0)) (aF 3) (aF 1)) (dCall jO (aG (dCall cM (aG (aF 0) (aV))) (aG (aF 2) (aV))))))))))
noncomputable def iU:List D→Option D:=fnD 3 3 (b_ (bW 3 (dC (.dict [])))
 (lQ (uP (aF 0)) (gTn 2 (fj (gNl 4) (fj (gNl 5) (mz)))) (b_ (sIf (D3.oH (aY (dCall lB (aG (aF 5) (aG (aF 1) (aG (aF 2) (aV))))))) ((fun _=>none)) (dM))
 (b_ (sIf (aY (dOp xW (dOp gIx (aF 5) (dC (.int 2))) (aF 3))) ((fun _=>none)) (dM))
 (sIf (aY (dUn lR (dOp gIx (aF 5) (dC (.int 2))))) (B_ 3 (dOp gIx (aF 5) (dC (.int 2)))) (dM))))))
noncomputable abbrev iH:List D→Option D:=Com.iH
noncomputable def ju:List D→Option D:=fnD 1 1 (b_ (bW 1 (gh (uP (aF 0)) (gTn 2 (fj (gNl 0) (fj (gNl 1) (mz)))) (aY (dUn nA (dOp gIx (aF 1) (dC (.int 2))))) (cV (aF 0)) 2 []))
 (cT (XS.zY (aF 1) XS.dK0 [0])))
noncomputable abbrev bY:List D→Option D:=Com.bY
noncomputable abbrev gH:List D→Option D:=Com.gH
noncomputable def qY:List D→Option D:=fnD 3 4 (b_ (bW 3 (dUn oM (aF 1)))
 (b_ (bW 4 (dUn oM (aF 2)))
 (b_ (lQ (jT (dCall ju (aG (aF 0) (aV)))) (gNl 5) (sIf (aY (dUn nA (dOp gIx (aF 3) (aF 5)))) (b_ (bW 6 (dCall gH (aG (aF 4) (aG (dOp gIx (dOp gIx (aF 0) (aF 5)) (dC (.int 0))) (aV)))))
 (b_ (tG 3 (aF 5) (aF 6))
 (tG 4 (aF 6) (dOp gIx (dOp gIx (aF 0) (aF 5)) (dC (.int 1)))))) (dM)))
 (cT (ou (aF 3))))))
noncomputable def iM:List D→Option D:=fnD 4 0 (b_ (qj (dCall iU (aG (aF 0) (aG (aF 1) (aG (aF 2) (aV))))))
 (b_ (qj (dCall iH (aG (aF 0) (aG (aF 1) (aG (aF 2) (aV))))))
 (sIf (D3.tOr (D3.oH (aY (mY gLe gLt (dC (.int 0)) (aF 3) (dCall jM (aG (aF 0) (aV)))))) (aY (dUn lR (dOp gIx (dOp gIx (aF 0) (aF 3)) (dC (.int 2)))))) ((fun _=>none)) (dM))))
noncomputable abbrev dI:List D→Option D:=Com.dI
noncomputable abbrev jr:List D→Option D:=Com.jr
noncomputable abbrev fQ:List D→Option D:=Com.fQ
noncomputable abbrev dJ:List D→Option D:=Com.dJ
noncomputable def fP:List D→Option D:=fnD 4 3 (b_ (bW 4 (wO (aF 3)))
 (b_ (lQ (Fz (aG (aF 3) (aG (dOp gIx (dOp gIx (aF 0) (aF 2)) (dC (.int 0))) (aV)))) (gNl 5) (sIf (aY (dOp Ca (aF 5) (aF 4))) (lQ (jT (dCall dJ (aG (aF 0) (aG (aF 1) (aG (aF 2) (aG (aF 5) (aV))))))) (gNl 6) (wQ 4 (dOp gIx (aF 6) (dC (.int 0))) (dTup (aG (aF 5) (aG (dOp gIx (aF 6) (dC (.int 1))) (aV)))))) (dM)))
 (cT (aF 4))))
noncomputable def nj:List D→Option D:=fnD 2 3 (b_ (bW 2 (gU (aV)))
 (b_ (bW 3 (aF 1))
 (b_ (uq (aY (dUn lR (dOp pJ (aF 0) (aF 3)))) (b_ (bW 4 (dOp gIx (dOp pJ (aF 0) (aF 3)) (dC (.int 1))))
 (b_ (sIf (aY (dUn lR (aF 4))) (xU 2 (dC (.int 0)) (aF 4)) (dM))
 (bW 3 (dOp gIx (dOp pJ (aF 0) (aF 3)) (dC (.int 0)))))))
 (cT (ou (aF 2))))))
noncomputable def lX:List D→Option D:=fnD 6 3 (b_ (bW 6 (gh (jT (aF 0)) (gNl 0) (jR) (cV (dOp gIx (aF 0) (dC (.int 2)))) 1 []))
 (b_ (lQ (jT (dOp ql (aF 5) (gU (aG (aF 3) (aV))))) (gNl 7) (tG 6 (aF 7) (aF 4)))
 (b_ (bW 8 (ou (dCall bY (aG (aF 0) (aG (aF 1) (aG (aF 2) (aV)))))))
 (b_ (tG 8 (aF 4) (dOp gIx (dOp gIx (aF 0) (aF 3)) (dC (.int 1))))
 (cT (dCall qY (aG (aF 0) (aG (aF 6) (aG (aF 8) (aV))))))))))
noncomputable def eV:List D→Option D:=fnD 5 4 (b_ (qj (dCall iM (aG (aF 0) (aG (aF 1) (aG (aF 2) (aG (aF 3) (aV)))))))
 (b_ (qj (dCall dI (aG (aF 1) (aG (aF 4) (aV)))))
 (b_ (bW 5 (dOp gIx (dCall bY (aG (aF 0) (aG (aF 1) (aG (aF 2) (aV))))) (aF 4)))
 (b_ (bW 6 (dOp gIx (dOp gIx (aF 0) (aF 3)) (dC (.int 0))))
 (b_ (sIf (aY (dOp gGt (aF 5) (aF 6))) (cT (dTup (aG (dC (.str "no")) (aG (gU (aV)) (aV))))) (dM))
 (b_ (bW 7 (dCall fP (aG (aF 0) (aG (aF 1) (aG (aF 3) (aG (aF 5) (aV)))))))
 (b_ (sIf (aY (dOp tU (aF 6) (aF 7))) (cT (dTup (aG (dC (.str "no")) (aG (dCall tW (aG (aF 7) (aV))) (aV))))) (dM))
 (b_ (bW 8 (ou (dCall nj (aG (aF 7) (aG (aF 6) (aV))))))
 (cT (dTup (aG (dC (.str "yes")) (aG (ou (aF 8)) (aG (dCall lX (aG (aF 0) (aG (aF 1) (aG (aF 2) (aG (aF 3) (aG (aF 4) (aG (aF 8) (aV)))))))) (aV))))))))))))))
noncomputable abbrev fX:List D→Option D:=Com.fX
noncomputable def jw:List D→Option D:=fnD 6 2 (b_ (qj (dCall iM (aG (aF 0) (aG (aF 1) (aG (aF 2) (aG (aF 3) (aV)))))))
 (b_ (qj (dCall dI (aG (aF 1) (aG (aF 4) (aV)))))
 (b_ (sIf (D3.tOr (D3.oH (aY (dCall eN (aG (aF 5) (aV))))) (D3.oH (aY (dCall iJ (aG (aF 5) (aV)))))) (cT (dC (.bool false))) (dM))
 (b_ (bW 6 (dOp gIx (dCall bY (aG (aF 0) (aG (aF 1) (aG (aF 2) (aV))))) (aF 4)))
 (b_ (bW 7 (dOp gIx (dOp gIx (aF 0) (aF 3)) (dC (.int 0))))
 (b_ (sIf (aY (dOp gGt (aF 6) (aF 7))) (cT (dOp gEq (aF 5) (gU (aV)))) (dM))
 (b_ (sIf (D3.tOr (aY (dOp gZ (aF 6) (aF 5))) (D3.tOr (aY (dOp gLt (dCall FN (aG (aF 5) (aV))) (aF 6))) (aY (dOp gGe (dCall FJ (aG (aF 5) (aV))) (aF 7))))) (cT (dC (.bool false))) (dM))
 (cT (dCall fX (aG (aF 0) (aG (aF 1) (aG (aF 3) (aG (aF 5) (aV))))))))))))))
noncomputable def gP:List D→Option D:=fnD 4 0 (b_ (qj (dCall iM (aG (aF 0) (aG (aF 1) (aG (aF 2) (aG (aF 3) (aV)))))))
 (cT (gh (mC (aG (aF 1) (aV))) (gNl 0) (aY (dOp gEq (dOp gIx (dCall eV (aG (aF 1) (aG (aF 2) (aG (aF 3) (aG (aF 4) (aG (aF 0) (aV))))))) (dC (.int 0))) (dC (.str "yes")))) (cV (aF 0)) 1 [0,1,2,3])))
noncomputable abbrev cP:List D→Option D:=Com.cP
noncomputable abbrev g_:List D→Option D:=Com.g_
noncomputable def jP:List D→Option D:=fnD 4 2 (b_ (qj (dCall iU (aG (aF 0) (aG (aF 1) (aG (aF 2) (aV))))))
 (b_ (sIf (D3.tOr (D3.oH (aY (dCall eN (aG (aF 3) (aV))))) (aY (dOp gNe (dCall jM (aG (aF 3) (aV))) (dCall jM (aG (aF 0) (aV)))))) (cT (dC (.bool false))) (dM))
 (b_ (lQ (uP (aF 0)) (gTn 2 (fj (gNl 4) (fj (gNl 5) (mz)))) (sIf (D3.tOr (D3.oH (aY (dCall cP (aG (aF 5) (aG (dOp gIx (aF 3) (aF 4)) (aG (aF 1) (aV))))))) (D3.oH (aY (dCall g_ (aG (aF 0) (aG (aF 3) (aG (aF 4) (aV)))))))) (cT (dC (.bool false))) (dM)))
 (cT (dC (.bool true))))))
noncomputable abbrev ji:List D→Option D:=Com.ji
noncomputable abbrev bO:List D→Option D:=Com.bO
noncomputable abbrev fV:List D→Option D:=Com.fV
noncomputable abbrev gJ:List D→Option D:=Com.gJ
noncomputable abbrev fW:List D→Option D:=Com.fW
noncomputable abbrev j_:List D→Option D:=Com.j_
noncomputable abbrev iI:List D→Option D:=Com.iI
noncomputable def iQ:List D→Option D:=fnD 4 5 (b_ (bW 4 (gh (jT (aF 2)) (gNl 0) (jR) (cV (dOp gIx (aF 0) (dC (.int 2)))) 1 []))
 (b_ (lQ (jT (dCall XS.wL (aG (gh (mC (aG (dCall jM (aG (aF 2) (aV))) (aV))) (gNl 0) (jR) (cV (dTup (aG (dOp gIx (dOp gIx (aF 1) (aF 0)) (dC (.int 0))) (aG (aF 0) (aV))))) 1 [2]) (aV)))) (gTn 2 (fj (gNl 5) (fj (gNl 6) (mz)))) (b_ (bW 7 (gh (mC (aG (dCall jM (aG (aF 2) (aV))) (aV))) (gNl 0) (D3.o9 (aY (dOp gLe (dOp gIx (dOp gIx (aF 3) (aF 0)) (dC (.int 0))) (aF 2))) (aY (dOp gLt (aF 2) (dOp gIx (dOp gIx (aF 3) (aF 0)) (dC (.int 1)))))) (cV (dOp gIx (aF 1) (aF 0))) 1 [4,5,2]))
 (b_ (bW 8 (gh (mC (aG (aF 3) (aV))) (gNl 0) (aY (dOp gZ (aF 0) (aF 1))) (cV (aF 0)) 1 [7]))
 (sIf (aY (dUn nA (dOp gIx (aF 4) (aF 6)))) (tG 4 (aF 6) (dOp gIx (aF 8) (dCall bO (aG (aF 0) (aG (aF 1) (aG (aF 6) (aG (dCall jM (aG (aF 8) (aV))) (aV)))))))) (dM)))))
 (cT (ou (aF 4)))))
noncomputable def iV:List D→Option D:=fnD 5 4 (b_ (bW 5 (gU (aV)))
 (b_ (lQ (mC (aG (aF 1) (aV))) (gNl 6) (b_ (bW 7 (dCall eV (aG (dUn oM (aF 0)) (aG (aF 1) (aG (aF 2) (aG (aF 3) (aG (aF 6) (aV))))))))
 (sIf (aY (dOp gEq (dOp gIx (aF 7) (dC (.int 0))) (dC (.str "yes")))) (b_ (sIf (D3.tOr (aY (dUn v5 (dCall jP (aG (aF 0) (aG (aF 1) (aG (aF 2) (aG (dOp gIx (aF 7) (dC (.int 2))) (aV)))))))) (aY (dOp gNe (dOp gIx (dOp gIx (aF 7) (dC (.int 2))) (aF 3)) (aF 6)))) (cT (dC (.none))) (dM))
 (b_ (lQ (jT (aF 4)) (gNl 8) (sIf (aY (dUn JG (dCall jw (aG (aF 0) (aG (aF 1) (aG (aF 2) (aG (aF 3) (aG (aF 6) (aG (aF 8) (aV)))))))))) (cT (dC (.none))) (dM)))
 (xT 5 (aF 6)))) (sIf (D3.tOr (aY (dOp gNe (dOp gIx (aF 7) (dC (.int 0))) (dC (.str "no")))) (aY (dUn v5 (dCall jw (aG (aF 0) (aG (aF 1) (aG (aF 2) (aG (aF 3) (aG (aF 6) (aG (dOp gIx (aF 7) (dC (.int 1))) (aV))))))))))) (cT (dC (.none))) (xT 4 (dUn oM (dOp gIx (aF 7) (dC (.int 1)))))))))
 (cT (ou (aF 5)))))
noncomputable def Ld:List D→Option D:=fnD 1 12 (b_ (bW 1 (dCall vX (aG (dOp gEq (dCall bO (aG (aF 0) (aG (dC (.int 0)) (aG (dC (.int 4)) (aG (dC (.int 6)) (aV)))))) (dC (.int 1))) (aV))))
 (b_ (bW 2 (dOp jo (dC (.int 1)) (dCall bO (aG (aF 0) (aG (dC (.int 0)) (aG (dC (.int 3)) (aG (dOp gIx (gU (aG (dC (.int 4)) (aG (dC (.int 12)) (aV)))) (aF 1)) (aV))))))))
 (b_ (bW 3 (dCall j_ (aG (aF 0) (aV))))
 (b_ (bW 4 (gU (aV)))
 (b_ (lQ (jT (dCall iI (aG (aF 0) (aG (aF 2) (aG (aF 3) (aG (dC (.int 24)) (aV))))))) (gNl 5) (b_ (bW 6 (dCall jM (aG (gh (jT (aF 4)) (gNl 0) (aY (dUn nA (dOp gIx (aF 0) (dC (.int 2))))) (cV (aF 0)) 1 []) (aV))))
 (sIf (D3.tOr (aY (dUn lR (dOp gIx (aF 5) (dC (.int 2))))) (aY (dOp gLt (aF 6) (dOp gIx (gU (aG (dC (.int 12)) (aG (dC (.int 3)) (aV)))) (aF 1))))) (xT 4 (aF 5)) (dM))))
 (b_ (bW 7 (gh (mC (aG (dC (.int 2)) (aV))) (gNl 0) (jR) (dCall iQ (aG (aF 1) (aG (dOp jo (dC (.int 40)) (aF 0)) (aG (aF 2) (aG (aF 3) (aV)))))) 1 [0,4,2]))
 (b_ (bW 8 (gh (mC (aG (dCall jM (aG (aF 4) (aV))) (aV))) (gNl 0) (aY (dUn nA (dOp gIx (dOp gIx (aF 1) (aF 0)) (dC (.int 2))))) (cV (aF 0)) 1 [4]))
 (b_ (bW 9 (dC (.none)))
 (b_ (sIf (aY (dOp gNe (aF 8) (gU (aV)))) (bW 9 (dOp gIx (aF 8) (dCall bO (aG (aF 0) (aG (dC (.int 42)) (aG (dC (.int 0)) (aG (dCall jM (aG (aF 8) (aV))) (aV)))))))) (dM))
 (b_ (lQ (jT (dSl (aF 8) rY (qm (dC (.int 5))))) (gNl 10) (b_ (bW 11 (uI iV (aG (aF 4) (aG (aF 2) (aG (aF 3) (aG (aF 10) (aG (gU (aG (gU (aV)) (aG (ou (gU (aG (aF 3) (aV)))) (aV)))) (aV))))))))
 (b_ (sIf (D3.tOr (aY (dUn nA (aF 11))) (D3.tOr (aY (dOp gEq (aF 11) (gU (aV)))) (aY (dOp gNe (dCall gP (aG (dUn oM (aF 4)) (aG (aF 2) (aG (aF 3) (aG (aF 10) (aV)))))) (aF 11))))) (cT (dC (.bool false))) (dM))
 (b_ (sIf (D3.tOr (aY (dOp gZ (dOp gIx (dOp gIx (aF 7) (dC (.int 0))) (aF 10)) (aF 11))) (aY (dOp gZ (dOp gIx (dOp gIx (aF 7) (dC (.int 1))) (aF 10)) (aF 11)))) (cT (dC (.bool false))) (dM))
 (sIf (aY (dOp gNe (aF 10) (aF 9))) (b_ (bW 12 (dCall gP (aG (dOp ql (dSl (aF 4) rY (qm (aF 9))) (dSl (aF 4) (qm (dOp jo (aF 9) (dC (.int 1)))) rY)) (aG (aF 2) (aG (aF 3) (aG (dOp Bc (aF 10) (dCall vX (aG (dOp gLt (aF 9) (aF 10)) (aV)))) (aV)))))))
 (sIf (aY (dOp gNe (gh (jT (aF 11)) (gNl 0) (aY (dOp gZ (aF 0) (aF 1))) (cV (aF 0)) 1 [12]) (gU (aV)))) (cT (dC (.bool false))) (dM))) (dM))))))
 (cT (dC (.bool true)))))))))))))
end K47
namespace K47
open PySem D3 My Com XS
structure TO0 (L:List Ty) (M:Nat) (now:Int):Prop where
 len:L.length ≤ 24
 ok:∀ s ∈ L,(s.1 < s.2.1∧0 ≤ s.1∧s.2.1 ≤ 400)∧(∀ r,s.2.2=some r→r < M∧s.1 ≤ now∧now < s.2.1)∧(s.2.2=none→now ≤ s.1)
 nd:(L.filterMap (·.2.2)).Nodup
def bk (L:List Ty) (k:Nat):Int:=(tAt L k).1
def ek (L:List Ty) (k:Nat):Int:=(tAt L k).2.1
def hk (L:List Ty) (k:Nat):Option Nat:=(tAt L k).2.2
theorem vH {g:FG} {b:FS} {v:D} (Inv:Nat→DS→Prop) (P:Nat→Prop) (l:List D) (δ:DS) (h0:Inv 0 δ) (hs:∀ i d δ,l[i]? = some d→(∀ j,j < i→P j)→Inv i δ→∃ δ1,g d δ=some δ1∧((P i∧∃ δ',b δ1=some (.nx δ')∧Inv (i + 1) δ')∨(¬ P i∧b δ1=some (.rt v)))) :
 (∃ δ',jA g b l δ=some (.nx δ')∧Inv l.length δ'∧∀ j,j < l.length→P j)∨(jA g b l δ=some (.rt v)∧∃ j,j < l.length∧¬ P j):=by
 have key:∀ (l:List D) (k:Nat) (δ:DS),Inv k δ→(∀ j,j < k→P j)→(∀ i d δ,l[i]? = some d→(∀ j,j < k + i→P j)→Inv (k + i) δ→∃ δ1,g d δ=some δ1∧((P (k + i)∧∃ δ',b δ1=some (.nx δ')∧Inv (k + i + 1) δ')∨(¬ P (k + i)∧b δ1=some (.rt v)))) →
  (∃ δ',jA g b l δ=some (.nx δ')∧Inv (k + l.length) δ'∧∀ j,j < k + l.length→P j)∨(jA g b l δ=some (.rt v)∧∃ j,j < k + l.length∧¬ P j):=by
  intro l
  induction l with
  | nil=>exact fun k δ h hp _=>.inl ⟨δ,rfl,h,hp⟩
  | cons d r ih =>
   intro k δ h hp hs
   obtain ⟨δ1,e1,z⟩:=hs 0 d δ rfl hp h
   rcases z with ⟨p,δ',e2,e3⟩ | ⟨p,e2⟩
   ·have hp':∀ j,j < k + 1→P j:=fun j hj=>by
     by_cases w:j < k
     ·exact hp j w
     ·have:j=k + 0:=by omega
      rw [this];exact p
    have:=ih (k + 1) δ' e3 hp' fun i d' δ'' hd hq hi=>by
     have:=hs (i + 1) d' δ'' (by simpa using hd) (by rw [show k + (i + 1)=k + 1 + i by omega];exact hq) (by rw [show k + (i + 1)=k + 1 + i by omega];exact hi)
     rw [show k + (i + 1)=k + 1 + i by omega] at this
     exact this
    rw [bN,show k + (r.length + 1)=k + 1 + r.length by omega,jA,e1,aL,e2]
    exact this
   ·refine .inr ⟨?_,k + 0,by rw [bN];omega,p⟩
    rw [jA,e1,aL,e2]
    rfl
 have:=key l 0 δ h0 (fun j hj=>absurd hj (pQ _)) fun i d δ hd hp hi=>by
  rw [kO] at hp hi ⊢
  exact hs i d δ hd hp hi
 rw [kO] at this
 exact this
def isI:D→Bool
 | .int _=>true
 | _=>false
def Pk (L:List Ty) (M:Nat) (ds:List D) (i:Nat):Prop:=∃ v:Int,ds[i]? = some (.int v)∧0 ≤ v∧v < (M:Int)∧(∀ r,hk L i=some r→(r:Int)=v)∧∀ k,k < i→¬ (ds[k]? = ds[i]?∧bk L k < ek L i∧bk L i < ek L k)
theorem ay {L:List Ty} {k:Nat} (h:k < L.length):pAt (L.map yD) (k:Int)=some (.tuple [.int (bk L k),.int (ek L k),hD (hk L k)]):=by rw [lK,vf _ h];rfl
theorem Py (n:Nat) (h:n ≤ 1000):pW (some [.int (n:Int)])=some (fM 0 (n:Int)):=Ei (by omega) (by omega)
theorem isList {ds:List D}:D3.isT "list" (tyD (.list ds))=true:=rfl
theorem Le {α:Type} (l:List α) (f:α→D):((l.map f).length:Int)=(l.length:Int):=by rw [aJ]
theorem allB {α:Type} (f:α→Bool) (l:List α):Dr [.list (l.map fun a=>PyData.bool (f a))]=some (.bool (l.all f)):=by
 have:oA (l.map fun a=>PyData.bool (f a))=some (l.map f):=by
  induction l with
  | nil=>rfl
  | cons a r ih=>rw [bI,oA,ih];rfl
 show (oA (l.map fun a=>PyData.bool (f a))).map _=_
 rw [this,gq,List.all_map]
 rfl
theorem wh (d:D):fH [d]=some (.bool (isI d)):=by
 unfold fH Com.fH
 cases d <;> rfl
theorem Pz (a b:Int):oU [.tuple [.int a,.int b]]=some (.bool true):=by
 have e:iK [.tuple [.int a,.int b]]=some (.bool true):=by
  have c:d_ (gNl 0) (D3.jR) (dCall fH (aG (aF 0) (aV))) (jx 1 [] [some (.d (.tuple [.int a,.int b]))]) [.int a,.int b]=some [.bool true,.bool true] :=
   xg (g:=(gNl 0)) (c:=(D3.jR)) (e:=(dCall fH (aG (aF 0) (aV)))) (δ:=jx 1 [] [some (.d (.tuple [.int a,.int b]))]) (fun i:Int=>PyData.int i) (fun _=>PyData.bool true) [a,b] fun d _=>⟨[some (.d (.int d))],rfl,rfl,by
    have:=wh (.int d)
    simp only [EV,reduceIte,au,aA,ao,aq,aB,aC,aD,this]
    rfl⟩
  have al:Dr [.list [.bool true,.bool true]]=some (.bool true):=rfl
  have l2:(0 + 1 + 1:Nat) ≤ 100000:=by decide
  unfold iK
  simp only [EV,reduceIte,au,aA,ao,aq,aB,aC,aD,Vy,R7,c,al,l2]
 have it:D3.isT "tuple" (tyD (.tuple [.int a,.int b]))=true:=rfl
 have e2:gEq (.int ((0 + 1 + 1:Nat):Int)) (.int 2)=some (.bool true):=rfl
 unfold oU lN
 simp only [EV,reduceIte,au,aA,ao,aq,aB,aC,aD,it,e2,e]
theorem mV (a b:Int) (d:D):cM [.tuple [.int a,.int b,d]]=some (.tuple [.int a,.int b]):=by
 unfold cM Com.cM
 simp only [EV,reduceIte,au,aA,ao,aq,aB,aC,aD,at0,at1,fli,zl2]
theorem Lf (a b x:Int):jO [.tuple [.int a,.int b],.int x]=some (.bool (decide (a ≤ x) && decide (x < b))):=by
 unfold jO Com.jO
 by_cases c:a ≤ x
 ·simp only [EV,reduceIte,au,aA,ao,aq,aB,aC,aD,at0,at1,dTr c]
  simp
 ·simp only [EV,reduceIte,au,aA,ao,aq,aB,aC,aD,at0,at1,dFa c]
  simp
theorem Et {a b:Int} (h:0 ≤ a∧a < b∧b ≤ 400):k_ [.tuple [.int a,.int b]]=some (.bool true):=by
 unfold k_
 simp only [EV,reduceIte,au,aA,ao,aq,aB,aC,aD,Pz,at0,at1,dTr h.1,dTr h.2.1,dTr h.2.2]
theorem PB {L:List Ty} {M:Nat} {now:Int} (ok:TO0 L M now) {k:Nat} (h:k < L.length):lB [.tuple [.int (bk L k),.int (ek L k),hD (hk L k)],.int (M:Int),.int now]=some (.bool true):=by
 obtain ⟨⟨o1,o2,o3⟩,o4,o5⟩:=ok.ok _ (gj h)
 have o1:bk L k < ek L k:=o1
 have st:=Et (a:=bk L k) (b:=ek L k) ⟨o2,o1,o3⟩
 have it:∀ l,D3.isT "tuple" (tyD (.tuple l))=true:=fun _=>rfl
 have e3:gNe (.int ((0 + 1 + 1 + 1:Nat):Int)) (.int 3)=some (.bool false):=rfl
 cases hh:hk L k with
 | none =>
  have o5:now ≤ bk L k:=o5 hh
  have nn:isNone (hD none)=true:=rfl
  unfold lB
  simp only [EV,reduceIte,au,aA,ao,aq,aB,aC,aD,it,e3,mV,st,at0,at2,nn,dTr o5]
 | some r =>
  obtain ⟨q1,q2,q3⟩:=o4 r hh
  have q2:bk L k ≤ now:=q2
  have q3:now < ek L k:=q3
  have nn:isNone (hD (some r))=false:=rfl
  have hw:fH [hD (some r)]=some (.bool true):=wh (.int (r:Int))
  have hv:hD (some r) = .int (r:Int):=rfl
  have r0:(0:Int) ≤ (r:Int):=by omega
  have r1:(r:Int) < (M:Int):=by omega
  unfold lB
  simp only [EV,reduceIte,au,aA,ao,aq,aB,aC,aD,it,e3,mV,st,at0,at2,nn,hw]
  rw [hv]
  simp only [EV,reduceIte,au,aA,ao,aq,aB,aC,aD,dTr r0,dTr r1,mV,Lf,dTr q2,dTr q3]
def qBP (i:Nat) (x y:Option D) (δ:DS):Option Oc:=match x,y with
 | some x,some y=>(Hy x).bind fun S=>match y with
  | .int k=>if S.length < 1000000 then some (.nx (δ.set i (some (.d (dsB (wN S k)))))) else none
  | _=>none
 | _,_=>none
theorem Uo {i:Nat} {fk:FE} {δ:DS}:B_ i fk δ=qBP i (aF i δ) (fk δ) δ:=by
 unfold B_ qBP
 cases aF i δ with
 | none=>rfl
 | some x=>cases fk δ <;> rfl
theorem Lg {i:Nat} {S:List Int} {k:Int} {δ:DS} (h:S.length < 1000000):qBP i (some (dsB S)) (some (.int k)) δ=some (.nx (δ.set i (some (.d (dsB (wN S k)))))):=by
 unfold qBP
 dsimp only
 rw [zQ,aL,if_pos h]
theorem W3 {S:List Int} {k:Int}:xW (.int k) (dsB S)=some (.bool (decide (k ∈ S))):=by
 unfold xW
 rw [zQ]
 rfl
theorem Uq {S:List Int}:xW .none (dsB S)=some (.bool false):=by
 unfold xW
 rw [zQ]
 rfl
theorem Cu {L:List Ty} {M:Nat} {now:Int} (ok:TO0 L M now):iU [.list (L.map yD),.int (M:Int),.int now]=some .none:=by
 have l24:=ok.len
 have en:kY (L.map yD)=(aH L.length).map fun p:Nat=>PyData.tuple [.int (p:Int),.tuple [.int (bk L p),.int (ek L p),hD (hk L p)]]:=by
  rw [lK,Aa]
  rfl
 obtain ⟨δ',e,S,x,y,_,_,rfl⟩:=jN (g:=(gTn 2 (fj (gNl 4) (fj (gNl 5) (mz))))) (b:=(b_ (sIf (D3.oH (aY (dCall lB (aG (aF 5) (aG (aF 1) (aG (aF 2) (aV))))))) ((fun _=>none)) (dM)) (b_ (sIf (aY (dOp xW (dOp gIx (aF 5) (dC (.int 2))) (aF 3))) ((fun _=>none)) (dM)) (sIf (aY (dUn lR (dOp gIx (aF 5) (dC (.int 2))))) (B_ 3 (dOp gIx (aF 5) (dC (.int 2)))) (dM)))))
  (fun i δ=>∃ (S:List Int) (x y:Option U),S.length ≤ i∧(∀ s ∈ S,∃ (j:Nat) (r:Nat),j < i∧j < L.length∧hk L j=some r∧s=(r:Int))∧δ=[some (.d (.list (L.map yD))),some (.d (.int (M:Int))),some (.d (.int now)),some (.d (dsB S)),x,y]) ((aH L.length).map fun p:Nat=>PyData.tuple [.int (p:Int),.tuple [.int (bk L p),.int (ek L p),hD (hk L p)]])
  [some (.d (.list (L.map yD))),some (.d (.int (M:Int))),some (.d (.int now)),some (.d (.dict [])),none,none] ⟨[],none,none,bh _,fun _ h=>(by cases h),rfl⟩ (by
   rintro i d δ hd ⟨S,x,y,s1,s2,rfl⟩
   rw [aN] at hd
   by_cases hi:i < L.length
   case neg=>rw [bD (by simpa using hi)] at hd;cases hd
   rw [bU hi] at hd
   cases hd
   have st:=PB ok hi
   cases hh:hk L i with
   | none =>
    rw [hh] at st
    have nn:isNone (hD none)=true:=rfl
    have nb:xW (hD none) (dsB S)=some (.bool false):=Uq
    refine ⟨_,[some (.d (.list (L.map yD))),some (.d (.int (M:Int))),some (.d (.int now)),some (.d (dsB S)),some (.d (.int (i:Int))),some (.d (.tuple [.int (bk L i),.int (ek L i),hD none]))],rfl,.inl ?_,S,_,_,by omega,fun s hs=>?_,rfl⟩
    ·simp only [EV,reduceIte,au,aA,ao,aq,aB,aC,aD,hh,st,at2,nb,nn]
    ·obtain ⟨j,r,j1,j2⟩:=s2 s hs
     exact ⟨j,r,by omega,j2⟩
   | some r =>
    rw [hh] at st
    have nn:isNone (hD (some r))=false:=rfl
    have ns:¬ (r:Int) ∈ S:=fun z=>by
     obtain ⟨j,r',j1,j2,j3,j4⟩:=s2 _ z
     have:r'=r:=by omega
     subst this
     have:=xJ ok.nd j2 hi j3 hh
     omega
    have nb:xW (hD (some r)) (dsB S)=some (.bool false):=by
     show xW (.int (r:Int)) _=_
     rw [W3,dFa ns]
    have pb:∀ δ:DS,qBP 3 (some (dsB S)) (some (hD (some r))) δ=some (.nx (δ.set 3 (some (.d (dsB (wN S (r:Int))))))):=fun δ=>Lg (by omega)
    have ep:wN S (r:Int)=S++[(r:Int)]:=by unfold wN;rw [if_neg ns]
    refine ⟨_,[some (.d (.list (L.map yD))),some (.d (.int (M:Int))),some (.d (.int now)),some (.d (dsB (wN S (r:Int)))),some (.d (.int (i:Int))),some (.d (.tuple [.int (bk L i),.int (ek L i),hD (some r)]))],rfl,.inl ?_,wN S (r:Int),_,_,?_,fun s hs=>?_,rfl⟩
    ·simp only [EV,reduceIte,au,aA,ao,aq,aB,aC,aD,hh,st,at2,nb,nn,Uo,pb]
    ·rw [ep,bH];simp;omega
    ·rw [ep] at hs
     rcases aX.mp hs with w | w
     ·obtain ⟨j,r,j1,j2⟩:=s2 s w
      exact ⟨j,r,by omega,j2⟩
     ·exact ⟨i,r,by omega,hi,hh,aK.mp w⟩)
 unfold iU
 simp only [EV,reduceIte,au,aA,ao,aq,aB,aC,aD,en]
 rw [e]
 simp only [EV,reduceIte,au,aA,ao,aq,aB,aC,aD]
theorem Eu {L:List Ty} (hl:L.length < 64):∃ P:List Nat,ju [.list (L.map yD)]=some (.list (P.map fun i:Nat=>PyData.int (i:Int)))∧P.Perm (opn L)∧P.Pairwise fun a b=>bk L a ≤ bk L b:=by
 have en:kY (L.map yD)=(aH L.length).map fun p:Nat=>PyData.tuple [.int (p:Int),yD (tAt L p)]:=by rw [lK];exact Aa _
 have C1:d_ (gTn 2 (fj (gNl 0) (fj (gNl 1) (mz)))) (aY (dUn nA (dOp gIx (aF 1) (dC (.int 2))))) (cV (aF 0)) (jx 2 [] [some (.d (.list (L.map yD))),none]) (kY (L.map yD))=some ((opn L).map fun p:Nat=>PyData.int (p:Int)):=by
  rw [en]
  exact w6 (fun p:Nat=>PyData.tuple [.int (p:Int),yD (tAt L p)]) (fun p=>!(tAt L p).2.2.isSome) (fun p:Nat=>PyData.int (p:Int)) (aH L.length) fun p _=>⟨[some (.d (.int (p:Int))),some (.d (yD (tAt L p)))],rfl,by
   have:=xr (tAt L p).2.2
   unfold yD
   simp only [EV,reduceIte,au,aA,ao,aq,aB,aC,aD,at2,this],fun _=>by simp only [EV,reduceIte,au,aA,ao,aq,aB,aC,aD,fli]⟩
 have el:(kY (L.map yD)).length ≤ 100000:=by rw [en,aJ,bB];omega
 have ml:∀ p ∈ opn L,p < L.length:=fun p hp=>aR.mp (bM.mp hp).1
 have lo:(opn L).length ≤ L.length:=by
  have:=d8 (fun p=>!(tAt L p).2.2.isSome) (aH L.length)
  rwa [bB] at this
 have C2:=W0 (L:=L) (some (.d (.list ((opn L).map fun p:Nat=>PyData.int (p:Int))))) (opn L) ml
 obtain ⟨P,eP,pP,sP⟩:=Er (opn L) (bk L)
 refine ⟨P,?_,pP,sP⟩
 have V:=Ia (l:=(opn L).map fun p:Nat=>PyData.int (p:Int)) (by rw [aJ];omega) (iw _ (fun _=>rfl) _) C2 (mU _)
 unfold ju
 simp only [EV,reduceIte,au,aA,ao,aq,aB,aC,aD,el,C1,Og]
 rw [V]
 simp only [EV,reduceIte,au,aA,ao,aq,aB,aC,aD]
 rw [← eP]
 rfl
theorem Ew {M:Nat} {fs:Nat→Int} {x:Int} (hM:M ≤ 1000) (h:∃ r,r < M∧fs r ≤ x):∃ r:Nat,r < M∧fs r ≤ x∧gH [.list ((aH M).map fun r:Nat=>PyData.int (fs r)),.int x]=some (.int (r:Int)):=by
 have en:kY ((aH M).map fun r:Nat=>PyData.int (fs r))=(aH M).map fun r:Nat=>PyData.tuple [.int (r:Int),.int (fs r)]:=by
  unfold kY
  apply fu
  intro i
  rw [jB,aN,aN]
  by_cases hi:i < M
  ·rw [bU hi];rfl
  ·rw [bD (by simpa using hi)];rfl
 have C:d_ (gTn 2 (fj (gNl 0) (fj (gNl 1) (mz)))) (aY (dOp gLe (aF 1) (aF 2))) (cV (aF 0)) (jx 2 [1] [some (.d (.list ((aH M).map fun r:Nat=>PyData.int (fs r)))),some (.d (.int x))]) (kY ((aH M).map fun r:Nat=>PyData.int (fs r)))=some (((aH M).filter fun r=>decide (fs r ≤ x)).map fun r:Nat=>PyData.int (r:Int)):=by
  rw [en]
  exact w6 (fun r:Nat=>PyData.tuple [.int (r:Int),.int (fs r)]) _ (fun r:Nat=>PyData.int (r:Int)) (aH M) fun r hr=>⟨[some (.d (.int (r:Int))),some (.d (.int (fs r))),some (.d (.int x))],rfl,by simp only [EV,reduceIte,au,aA,ao,aq,aB,aC,aD],fun _=>by simp only [EV,reduceIte,au,aA,ao,aq,aB,aC,aD]⟩
 have el:(kY ((aH M).map fun r:Nat=>PyData.int (fs r))).length ≤ 100000:=by rw [en,aJ,bB];omega
 cases e:(aH M).filter fun r=>decide (fs r ≤ x) with
 | nil =>
  obtain ⟨r,h1,h2⟩:=h
  have:r ∈ (aH M).filter fun r=>decide (fs r ≤ x):=bM.mpr ⟨aR.mpr h1,dTr h2⟩
  rw [e] at this
  cases this
 | cons r l =>
  have hr:r ∈ (aH M).filter fun r=>decide (fs r ≤ x):=by rw [e];exact aO
  obtain ⟨h1,h2⟩:=bM.mp hr
  refine ⟨r,aR.mp h1,of_decide_eq_true h2,?_⟩
  rw [e,bI] at C
  show Com.gH _=_
  unfold Com.gH
  simp only [EV,reduceIte,au,aA,ao,aq,aB,aC,aD,el,C,at0]
theorem PJ (n:Nat) (d:D):bF n d=(aH n).map fun _=>d:=by
 rw [List.map_const',bB]
theorem W4 {d:D} {k:Int} (h:k ≤ 1000000) (h' : -(2 ^ 63) ≤ k):JF (.list [d]) (.int k)=some (.list (bF k.toNat d)):=by
 show (if [d].length * k.toNat ≤ 1000000∧-(2 ^ 63) ≤ k∧k < 2 ^ 63 then some (PyData.list (bF k.toNat [d]).flatten) else none)=_
 rw [if_pos ⟨by simp only [bN,iu];omega,h',by omega⟩]
 congr 2
 generalize k.toNat=n
 induction n with
 | zero=>rfl
 | succ n ih=>rw [cW,fY,ih,cW];rfl
theorem Cv {g:FG} {b:FS} (Inv:DS→Prop) (p:Int→Bool):∀ (l:List Int) (δ:DS),Inv δ→(∀ x ∈ l,∀ δ,Inv δ→∃ δ1,g (.int x) δ=some δ1∧((p x=true∧b δ1=some (.rt (.int x)))∨(p x=false∧∃ δ',b δ1=some (.nx δ')∧Inv δ'))) →
 (∃ x,l.find? p=some x∧jA g b (l.map .int) δ=some (.rt (.int x)))∨(l.find? p=none∧∃ δ',jA g b (l.map .int) δ=some (.nx δ')∧Inv δ')
 | [],δ,h,_=>.inr ⟨rfl,δ,rfl,h⟩
 | x :: r,δ,h,hs=>by
  obtain ⟨δ1,e1,q⟩:=hs x aO δ h
  rcases q with ⟨hp,e2⟩ | ⟨hp,δ',e2,h'⟩
  ·refine .inl ⟨x,by rw [gw,hp],?_⟩
   rw [bI,jA,e1,aL,e2]
   rfl
  ·have ih:=Cv Inv p r δ' h' fun y hy=>hs y (aM _ hy)
   have ef:(x :: r).find? p=r.find? p:=by rw [gw,hp]
   have eg:jA g b ((x :: r).map .int) δ=jA g b (r.map .int) δ':=by
    rw [bI,jA,e1,aL,e2]
    rfl
   rw [ef,eg]
   exact ih
def outI:Option Int→D
 | none=>.none
 | some x=>.int x
def pM (L:List Ty) (M:Nat) (x:Int):Bool:=decide ((M:Int) < (jU L x:Int))
def nS (L:List Ty):List Sh:=L.map fun s=>(s.1,s.2.1)
theorem Lh (L:List Ty) (x:Int):cnt (nS L) x=jU L x:=by
 unfold cnt jU nS
 rw [List.filter_map,aJ]
 rfl
def LT (L:List Ty) (now:Int):List Int:=(L.map (·.1)).filter fun x=>decide (now < x)
theorem PK {L:List Ty} {M:Nat} {now:Int} (hl:L.length ≤ 24):kZ [.list ((nS L).map stD),.int (M:Int),.int now]=some (outI ((now :: oK (LT L now)).find? (pM L M))):=by
 have ln:(nS L).length=L.length:=aJ _
 have fs:=Cp (ss:=nS L) (by omega)
 have fe:(nS L).map (·.1)=L.map (·.1):=by unfold nS;rw [dX];rfl
 rw [fe] at fs
 have cf:d_ (gNl 0) (aY (dOp gGt (aF 0) (aF 1))) (cV (aF 0)) [none,some (.d (.int now))] ((L.map (·.1)).map .int)=some ((LT L now).map .int):=by
  unfold LT
  generalize L.map (·.1)=l
  induction l with
  | nil=>rfl
  | cons x r ih =>
   rw [bI,d_]
   by_cases c:now < x
   ·simp only [EV,reduceIte,au,aA,ao,aq,aB,aC,aD,dTr c,aL,ih]
    rw [iZ (by simpa using c)]
    rfl
   ·simp only [EV,reduceIte,au,aA,ao,aq,aB,aC,aD,dFa c,aL,ih]
    rw [i_ (by simpa using c),if_neg (by decide)]
 have ll:(LT L now).length ≤ 60:=bV (d8 _ _) (by rw [aJ];omega)
 have gs:tH [.list ((LT L now).map .int)]=some (.list ((oK (LT L now)).map .int)):=by
  unfold tH
  simp only
  rw [mU,aL,if_pos (by omega)]
 have c1:ql (.list [.int now]) (.list ((oK (LT L now)).map .int))=some (.list (.int now :: (oK (LT L now)).map .int)):=by
  rw [yS,if_pos (by rw [aJ,(je _).length_eq];simp;omega)]
  rfl
 have ca:∀ a c d e f:Option U,jx 1 [2] [a,c,d,e,f]=[none,d]:=fun _ _ _ _ _=>rfl
 show Com.kZ _=_
 unfold Com.kZ
 simp only [EV,reduceIte,au,aA,ao,aq,aB,aC,aD,fs,lMp,show L.length ≤ 100000 by omega,ca,cf,gs,zl1,c1]
 rcases Cv (g:=gNl 4) (b:=(sIf (aY (dOp gGt (dCall Com.iR (aG (aF 0) (aG (aF 4) (aV)))) (aF 1))) (cT (cV (aF 4))) (dM))) (fun δ=>∃ y,δ=[some (.d (.list ((nS L).map stD))),some (.d (.int (M:Int))),some (.d (.int now)),some (.d (.list ((LT L now).map .int))),y]) (pM L M) (now :: oK (LT L now))
  [some (.d (.list ((nS L).map stD))),some (.d (.int (M:Int))),some (.d (.int now)),some (.d (.list ((LT L now).map .int))),none] ⟨none,rfl⟩ (by
   rintro x hx δ ⟨y,rfl⟩
   refine ⟨_,rfl,?_⟩
   have cs:=xq (ss:=nS L) (by omega) x
   rw [Lh] at cs
   cases z:pM L M x with
   | true =>
    have z:decide ((M:Int) < (jU L x:Int))=true:=z
    refine .inl ⟨rfl,?_⟩
    simp only [EV,reduceIte,au,aA,ao,aq,aB,aC,aD,cs,z]
   | false =>
    have z:decide ((M:Int) < (jU L x:Int))=false:=z
    refine .inr ⟨rfl,_,?_,some (.d (.int x)),rfl⟩
    simp only [EV,reduceIte,au,aA,ao,aq,aB,aC,aD,cs,z]) with ⟨x,e1,e2⟩ | ⟨e1,δ',e2,y,rfl⟩
 ·rw [bI] at e2
  rw [e2,e1]
  simp only [EV,reduceIte,au,aA,ao,aq,aB,aC,aD]
  rfl
 ·rw [bI] at e2
  rw [e2,e1]
  simp only [EV,reduceIte,au,aA,ao,aq,aB,aC,aD]
  rfl
theorem PN (l:List (Option Nat)) (r:Nat):((l.map hD).any fun z=>PyData.eqv z (.int (r:Int)))=decide (some r ∈ l):=by
 induction l with
 | nil=>rfl
 | cons o l ih =>
  rw [bI,jV,ih]
  cases o with
  | none =>
   show (false || _)=_
   rw [Bool.false_or]
   simp
  | some x =>
   have:PyData.eqv (hD (some x)) (.int (r:Int))=decide (x=r):=by
    show decide ((x:Int)=(r:Int))=_
    exact decide_eq_decide.mpr (by omega)
   rw [this]
   by_cases h:x=r
   ·subst h;simp
   ·have h2:¬ r=x:=fun z=>h z.symm
    simp [h,h2]
theorem Ey (l:List (Option Nat)) (r:Nat):gZ (.int (r:Int)) (.list (l.map hD))=some (.bool (!decide (some r ∈ l))):=by
 have s1:SeqAt.shaped (.int (r:Int))=true:=rO (Ej (n:=59))
 have s2:SeqAt.shaped (.list (l.map hD))=true:=rO (Gz (n:=59) (z7 _ WX _))
 show (if (SeqAt.shaped (.int (r:Int)) && SeqAt.shaped (.list (l.map hD)))=true then some (PyData.bool (!(l.map hD).any fun z=>PyData.eqv z (.int (r:Int)))) else none)=_
 rw [s1,s2,PN]
 rfl
theorem yX (ns:List Int) {at':Int} {L:List Ty} {M:Nat} {now:Int} (ok:TOk L M now) (hM:M ≤ 12) (ha:0 ≤ at') :
 ∃ h:Nat→Int,iQ [.list (ns.map .int),.int at',.list (L.map yD),.int (M:Int)]=some (.list (plD L.length h))∧Xg.Valid (ssT L now) h∧(∀ k,k < L.length→0 ≤ h k∧h k < (M:Int))∧∀ k r,k < L.length→hk L k=some r→h k=(r:Int):=by
 have l24:=ok.len
 have C0:d_ (gNl 0) (D3.jR) (cV (dOp gIx (aF 0) (dC (.int 2)))) (jx 1 [] [some (.d (.list (ns.map .int))),some (.d (.int at')),some (.d (.list (L.map yD))),some (.d (.int (M:Int))),none,none,none,none,none]) (L.map yD)=some ((aH L.length).map fun k=>hD (hk L k)):=by
  rw [lK]
  exact xg (fun k=>yD (tAt L k)) (fun k=>hD (hk L k)) (aH L.length) fun k _=>⟨[some (.d (yD (tAt L k)))],rfl,rfl,by
   have fl:flat (hD (tAt L k).2.2)=true:=by cases (tAt L k).2.2 <;> rfl
   unfold yD hk
   simp only [EV,reduceIte,au,aA,ao,aq,aB,aC,aD,at2,fl]⟩
 have lL:(L.map yD).length=L.length:=aJ _
 have lL':L.length ≤ 100000:=by omega
 have rg:pW (some [.int (L.length:Int)])=some (fM 0 (L.length:Int)):=Ei (by omega) (by omega)
 have rgM:pW (some [.int (M:Int)])=some (fM 0 (M:Int)):=Ei (by omega) (by omega)
 have rn:fM 0 (L.length:Int)=(aH L.length).map fun k:Nat=>PyData.int (k:Int):=by rw [t_];rfl
 have rM:fM 0 (M:Int)=(aH M).map fun k:Nat=>PyData.int (k:Int):=by rw [t_];rfl
 have lr:(fM 0 (L.length:Int)).length ≤ 100000:=by rw [n6];omega
 have lrM:(fM 0 (M:Int)).length ≤ 100000:=by rw [n6];omega
 have ay:∀ k:Nat,k < L.length→pAt (L.map yD) (k:Int)=some (.tuple [.int (bk L k),.int (ek L k),hD (hk L k)]):=fun k hk'=>by rw [lK,vf _ hk'];rfl
 have C1:∀ u,d_ (gNl 0) (D3.jR) (cV (dTup (aG (dOp gIx (dOp gIx (aF 1) (aF 0)) (dC (.int 0))) (aG (aF 0) (aV))))) (jx 1 [2] [some (.d (.list (ns.map .int))),some (.d (.int at')),some (.d (.list (L.map yD))),some (.d (.int (M:Int))),u,none,none,none,none]) (fM 0 (L.length:Int))=some ((aH L.length).map fun k:Nat=>PyData.tuple [.int (bk L k),.int (k:Int)]):=fun u=>by
  rw [rn]
  exact xg (fun k:Nat=>PyData.int (k:Int)) _ (aH L.length) fun k hk'=>⟨[some (.d (.int (k:Int))),some (.d (.list (L.map yD)))],rfl,rfl,by
   have a:=ay k (aR.mp hk')
   have fl:flat (.tuple [.int (bk L k),.int (k:Int)])=true:=rfl
   simp only [EV,reduceIte,au,aA,ao,aq,aB,aC,aD,a,at0,zl2,fl]⟩
 obtain ⟨O,eO,pO,sO⟩:=Es L.length (bk L) (by omega)
 have nO:O.Nodup:=pO.nodup_iff.mpr jc
 have okk:∀ k,k < L.length→bk L k < ek L k:=fun k h=>(ok.ok _ (gj h)).1
 have g1:∀ k r,k < L.length→hk L k=some r→bk L k ≤ now:=fun k r h z=>((ok.ok _ (gj h)).2.1 r z).2.1
 have g2:∀ k,k < L.length→hk L k=none→now ≤ bk L k:=fun k h z=>(ok.ok _ (gj h)).2.2 z
 have P0:Pl.PInv L.length M (bk L) (ek L) (hk L) [] (hk L):=Pl.start (fun k r h z=>((ok.ok _ (gj h)).2.1 r z).1) (fun k l r h1 h2 z1 z2=>xJ ok.nd h1 h2 z1 z2)
 obtain ⟨δ',e,seat,u5,u6,u7,u8,I,rfl⟩:=jN (g:=(gTn 2 (fj (gNl 5) (fj (gNl 6) (mz))))) (b:=(b_ (bW 7 (gh (mC (aG (dCall jM (aG (aF 2) (aV))) (aV))) (gNl 0) (D3.o9 (aY (dOp gLe (dOp gIx (dOp gIx (aF 3) (aF 0)) (dC (.int 0))) (aF 2))) (aY (dOp gLt (aF 2) (dOp gIx (dOp gIx (aF 3) (aF 0)) (dC (.int 1)))))) (cV (dOp gIx (aF 1) (aF 0))) 1 [4,5,2])) (b_ (bW 8 (gh (mC (aG (aF 3) (aV))) (gNl 0) (aY (dOp gZ (aF 0) (aF 1))) (cV (aF 0)) 1 [7])) (sIf (aY (dUn nA (dOp gIx (aF 4) (aF 6)))) (tG 4 (aF 6) (dOp gIx (aF 8) (dCall bO (aG (aF 0) (aG (aF 1) (aG (aF 6) (aG (dCall jM (aG (aF 8) (aV))) (aV)))))))) (dM)))))
  (fun i δ=>∃ (seat:Nat→Option Nat) (u5 u6 u7 u8:Option U),Pl.PInv L.length M (bk L) (ek L) (hk L) (O.take i) seat∧δ=[some (.d (.list (ns.map .int))),some (.d (.int at')),some (.d (.list (L.map yD))),some (.d (.int (M:Int))),some (.d (.list ((aH L.length).map fun k=>hD (seat k)))),u5,u6,u7,u8]) (O.map fun k:Nat=>PyData.tuple [.int (bk L k),.int (k:Int)])
  [some (.d (.list (ns.map .int))),some (.d (.int at')),some (.d (.list (L.map yD))),some (.d (.int (M:Int))),some (.d (.list ((aH L.length).map fun k=>hD (hk L k)))),none,none,none,none] ⟨hk L,none,none,none,none,P0,rfl⟩ (by
   rintro i d δ hd ⟨seat,u5,u6,u7,u8,I,rfl⟩
   rw [aN] at hd
   cases hi:O[i]? with
   | none=>rw [hi] at hd;cases hd
   | some c =>
    rw [hi] at hd
    cases hd
    have hiL:i < O.length:=(dh.mp hi).1
    have et:O.take (i + 1)=O.take i++[c]:=by rw [jz,hi];rfl
    have sp:O=O.take i++c :: O.drop (i + 1):=by
     rw [aZ hiL] at hi
     cases hi
     rw [oZ,lg]
    have hc:c ∉ O.take i:=fun z=>by
     rw [sp] at nO
     exact (nG.mp nO).2.2 c z c aO rfl
    have mem:∀ p ∈ O,p < L.length:=fun p hp=>aR.mp (pO.mem_iff.mp hp)
    have hcn:c < L.length:=mem c (cZ hi)
    have hb:∀ p ∈ O.take i,bk L p ≤ bk L c:=fun p hp=>by
     rw [sp] at sO
     exact (jC.mp sO).2.2 p hp c aO
    have as:∀ k:Nat,k < L.length→pAt ((aH L.length).map fun k=>hD (seat k)) (k:Int)=some (hD (seat k)):=fun k h=>vf _ h
    have C2:d_ (gNl 0) (D3.o9 (aY (dOp gLe (dOp gIx (dOp gIx (aF 3) (aF 0)) (dC (.int 0))) (aF 2))) (aY (dOp gLt (aF 2) (dOp gIx (dOp gIx (aF 3) (aF 0)) (dC (.int 1)))))) (cV (dOp gIx (aF 1) (aF 0))) (jx 1 [4,5,2] [some (.d (.list (ns.map .int))),some (.d (.int at')),some (.d (.list (L.map yD))),some (.d (.int (M:Int))),some (.d (.list ((aH L.length).map fun k=>hD (seat k)))),some (.d (.int (bk L c))),some (.d (.int (c:Int))),u7,u8]) (fM 0 (L.length:Int))=some ((((aH L.length).filter (Gr.holds (bk L) (ek L) (bk L c))).map seat).map hD):=by
     rw [rn,dX]
     exact w6 (fun k:Nat=>PyData.int (k:Int)) (Gr.holds (bk L) (ek L) (bk L c)) _ (aH L.length) fun k hk'=>⟨[some (.d (.int (k:Int))),some (.d (.list ((aH L.length).map fun k=>hD (seat k)))),some (.d (.int (bk L c))),some (.d (.list (L.map yD)))],rfl,by
      have a:=ay k (aR.mp hk')
      unfold Gr.holds
      simp only [EV,reduceIte,au,aA,ao,aq,aB,aC,aD,a,at0,at1]
      cases decide (bk L k ≤ bk L c) <;> simp only [D3.qTA,jW,gW] <;> simp only [EV,reduceIte,au,aA,ao,aq,aB,aC,aD,a,at0,at1],fun _=>by
      have a:=as k (aR.mp hk')
      have fl:flat (hD (seat k))=true:=by cases seat k <;> rfl
      simp only [EV,reduceIte,au,aA,ao,aq,aB,aC,aD,a,fl]
      rfl⟩
    obtain ⟨B,hB⟩:∃ B,B=((aH L.length).filter (Gr.holds (bk L) (ek L) (bk L c))).map seat:=⟨_,rfl⟩
    rw [← hB] at C2
    have C3:d_ (gNl 0) (aY (dOp gZ (aF 0) (aF 1))) (cV (aF 0)) (jx 1 [7] [some (.d (.list (ns.map .int))),some (.d (.int at')),some (.d (.list (L.map yD))),some (.d (.int (M:Int))),some (.d (.list ((aH L.length).map fun k=>hD (seat k)))),some (.d (.int (bk L c))),some (.d (.int (c:Int))),some (.d (.list (B.map hD))),u8]) (fM 0 (M:Int))=some (((aH M).filter fun r=>!decide (some r ∈ B)).map fun r:Nat=>PyData.int (r:Int)):=by
     rw [rM]
     exact w6 (fun k:Nat=>PyData.int (k:Int)) (fun r=>!decide (some r ∈ B)) _ (aH M) fun r _=>⟨[some (.d (.int (r:Int))),some (.d (.list (B.map hD)))],rfl,by
      have:=Ey B r
      simp only [EV,reduceIte,au,aA,ao,aq,aB,aC,aD,this],fun _=>by simp only [EV,reduceIte,au,aA,ao,aq,aB,aC,aD,fli]⟩
    have an:=as c hcn
    cases hs:seat c with
    | some x =>
     rw [hs] at an
     refine ⟨_,[some (.d (.list (ns.map .int))),some (.d (.int at')),some (.d (.list (L.map yD))),some (.d (.int (M:Int))),some (.d (.list ((aH L.length).map fun k=>hD (seat k)))),some (.d (.int (bk L c))),some (.d (.int (c:Int))),some (.d (.list (B.map hD))),some (.d (.list (((aH M).filter fun r=>!decide (some r ∈ B)).map fun r:Nat=>PyData.int (r:Int))))],rfl,.inl ?_,seat,_,_,_,_,?_,rfl⟩
     ·have nN:isNone (hD (some x))=false:=rfl
      simp only [EV,reduceIte,au,aA,ao,aq,aB,aC,aD,lL,rg,lr,C2,rgM,lrM,C3,an,nN]
     ·rw [et]
      exact Pl.skip I (by rw [hs];simp)
    | none =>
     rw [hs] at an
     have hcN:hk L c=none:=by
      cases z:hk L c with
      | none=>rfl
      | some r=>rw [I.hl c r hcn z] at hs;cases hs
     have cnt:((aH L.length).filter (Gr.holds (bk L) (ek L) (bk L c))).length ≤ M:=by
      have z:=ok.full _ (gj hcn)
      have y:=g2 c hcn hcN
      have e:(if (tAt L c).1 > now then (tAt L c).1 else now)=bk L c:=by
       unfold bk at y ⊢
       split <;> omega
      rw [e,QJ] at z
      exact z
     obtain ⟨r0,hr0,hf0⟩:=Pl.Iv I hcn hs (okk c hcn) cnt
     have inB:∀ r,some r ∉ B→∀ k,k < L.length→Gr.holds (bk L) (ek L) (bk L c) k=true→seat k ≠ some r:=fun r h k h1 h2 h3=>h (by rw [hB];exact cX.mpr ⟨k,bM.mpr ⟨aR.mpr h1,h2⟩,h3⟩)
     have fm:r0 ∈ (aH M).filter fun r=>!decide (some r ∈ B):=bM.mpr ⟨aR.mpr hr0,by
      have:¬ some r0 ∈ B:=fun z=>by
       rw [hB] at z
       obtain ⟨k,h1,h2⟩:=cX.mp z
       obtain ⟨h3,h4⟩:=bM.mp h1
       exact hf0 k (aR.mp h3) h4 h2
      simp [this]⟩
     obtain ⟨Fr,hFr⟩:∃ Fr,Fr=(aH M).filter fun r=>!decide (some r ∈ B):=⟨_,rfl⟩
     rw [← hFr] at C3 fm
     have Fpos:0 < Fr.length:=List.length_pos_of_mem fm
     have q:=d9 (ns:=ns) (i:=at') (k:=(c:Int)) (m:=(Fr.length:Int)) ha (by omega) (by omega) (by omega)
     have qr:=dO ns at' (c:Int) (m:=(Fr.length:Int)) (by omega)
     generalize jh ns at' (c:Int) (Fr.length:Int)=ix at *
     obtain ⟨r,hr,er⟩:=Ph (fun r:Nat=>PyData.int (r:Int)) (l:=Fr) qr.1 qr.2
     rw [hFr] at hr
     obtain ⟨hr1,hr2⟩:=bM.mp hr
     have hr3:some r ∉ B:=by simpa using hr2
     have lF:(Fr.map fun r:Nat=>PyData.int (r:Int)).length=Fr.length:=aJ _
     have p4:=Iu (l:=(aH L.length).map fun k=>hD (seat k)) (n:=L.length) (by rw [aJ,bB]) hcn
     refine ⟨_,[some (.d (.list (ns.map .int))),some (.d (.int at')),some (.d (.list (L.map yD))),some (.d (.int (M:Int))),some (.d (.list (((aH L.length).map fun k=>hD (seat k)).set c (.int (r:Int))))),some (.d (.int (bk L c))),some (.d (.int (c:Int))),some (.d (.list (B.map hD))),some (.d (.list (Fr.map fun r:Nat=>PyData.int (r:Int))))],rfl,.inl ?_,?_⟩
     ·have nN:isNone (hD none)=true:=rfl
      generalize (aH L.length).map (fun k=>hD (seat k))=SS at *
      simp only [EV,reduceIte,au,aA,ao,aq,aB,aC,aD,lL,rg,lr,C2,rgM,lrM,C3,an,nN,lF,q,er,p4,aL]
     ·refine ⟨fun k=>if k=c then some r else seat k,some (.d (.int (bk L c))),some (.d (.int (c:Int))),some (.d (.list (B.map hD))),some (.d (.list (Fr.map fun r:Nat=>PyData.int (r:Int)))),?_,?_⟩
      ·rw [et]
       exact Pl.step I hcn hs hc hb g1 g2 (aR.mp hr1) (inB r hr3)
      ·rw [yW]
       have:(fun p=>if p=c then PyData.int (r:Int) else hD (seat p))=fun p=>hD (if p=c then some r else seat p):=by
        funext p
        by_cases z:p=c
        ·rw [if_pos z,if_pos z];rfl
        ·rw [if_neg z,if_neg z]
       rw [this])
 rw [aJ,jL] at I
 have all:∀ k,k < L.length→∃ r,seat k=some r∧r < M:=fun k hk'=>by
  cases z:seat k with
  | none=>exact absurd z (I.inn k (pO.mem_iff.mpr (aR.mpr hk')) hk')
  | some r=>exact ⟨r,rfl,I.lt k r hk' z⟩
 have pe:(aH L.length).map (fun k=>hD (seat k))=plD L.length (fun k=>(((seat k).getD 0:Nat):Int)):=QG fun k hk'=>by
  obtain ⟨r,z,_⟩:=all k hk'
  show hD (seat k)=PyData.int (((seat k).getD 0:Nat):Int)
  rw [z];rfl
 refine ⟨fun k=>(((seat k).getD 0:Nat):Int),?_,fun k l h1 h2 ne a b z=>?_,fun k h=>?_,fun k r h z=>?_⟩
 ·have fl:flats ((aH L.length).map fun k=>hD (seat k))=true:=iw _ (fun k=>by cases seat k <;> rfl) _
  unfold iQ
  simp only [EV,reduceIte,au,aA,ao,aq,aB,aC,aD,lL',C0,lL,rg,lr,C1,eO]
  rw [e]
  simp only [EV,reduceIte,au,aA,ao,aq,aB,aC,aD,m9,fl]
  rw [pe]
 ·obtain ⟨r,z1,_⟩:=all k h1
  obtain ⟨r',z2,_⟩:=all l h2
  have z:(((seat k).getD 0:Nat):Int)=(((seat l).getD 0:Nat):Int):=z
  rw [z1,z2] at z
  have:r=r':=by
   have z:(r:Int)=(r':Int):=z
   omega
  subst this
  have:=I.dj k l r h1 h2 ne z1 z2
  have a':bk L k < ek L l:=a
  have b':bk L l < ek L k:=b
  omega
 ·obtain ⟨r,z1,z2⟩:=all k h
  show (0:Int) ≤ (((seat k).getD 0:Nat):Int)∧(((seat k).getD 0:Nat):Int) < M
  rw [z1]
  show (0:Int) ≤ (r:Int)∧(r:Int) < M
  omega
 ·show (((seat k).getD 0:Nat):Int)=_
  rw [I.hl k r h z];rfl
theorem Yl {L:List Ty} {k:Nat} (h:L.length ≤ k):hk L k=none:=by
 unfold hk tAt
 rw [bG,bD h]
 rfl
section
variable {L:List Ty} {M:Nat} {now:Int}
theorem xK (ok:TO0 L M now) (hM:M ≤ 12):∃ f:Nat→Int,bY [.list (L.map yD),.int (M:Int),.int now]=some (.list ((aH M).map fun r:Nat=>PyData.int (f r)))∧∀ r,r < M→(∃ k,k < L.length∧hk L k=some r∧f r=ek L k)∨((∀ k,k < L.length→hk L k ≠ some r)∧f r=now):=by
 have l24:=ok.len
 have rp:JF (.list [.int now]) (.int (M:Int))=some (.list ((aH M).map fun r:Nat=>PyData.int ((fun _=>now) r))):=by
  rw [W4 (by omega) (by omega),f9,PJ]
 have mt:L.map yD=(aH L.length).map fun k=>PyData.tuple [.int (bk L k),.int (ek L k),hD (hk L k)]:=by rw [lK];rfl
 obtain ⟨δ',e,f,u,hf,rfl⟩:=jN (g:=(gNl 4)) (b:=(sIf (aY (dUn lR (dOp gIx (aF 4) (dC (.int 2))))) (tG 3 (dOp gIx (aF 4) (dC (.int 2))) (dOp gIx (aF 4) (dC (.int 1)))) (dM)))
  (fun i δ=>∃ (f:Nat→Int) (u:Option U),(∀ r,r < M→(∃ k,k < i∧hk L k=some r∧f r=ek L k)∨((∀ k,k < i→hk L k ≠ some r)∧f r=now))∧δ=[some (.d (.list (L.map yD))),some (.d (.int (M:Int))),some (.d (.int now)),some (.d (.list ((aH M).map fun r:Nat=>PyData.int (f r)))),u]) (L.map yD)
  [some (.d (.list (L.map yD))),some (.d (.int (M:Int))),some (.d (.int now)),some (.d (.list ((aH M).map fun r:Nat=>PyData.int ((fun _=>now) r)))),none] ⟨fun _=>now,none,fun r _=>.inr ⟨fun k hk'=>absurd hk' (pQ _),rfl⟩,rfl⟩ (by
   rintro i d δ hd ⟨f,u,hf,rfl⟩
   have hi:i < L.length:=by
    have:=(dh.mp hd).1
    rwa [aJ] at this
   rw [mt,aN,bU hi] at hd
   cases hd
   cases hh:hk L i with
   | none =>
    have nn:isNone (hD none)=true:=rfl
    refine ⟨_,[some (.d (.list (L.map yD))),some (.d (.int (M:Int))),some (.d (.int now)),some (.d (.list ((aH M).map fun r:Nat=>PyData.int (f r)))),some (.d (.tuple [.int (bk L i),.int (ek L i),hD none]))],rfl,.inl ?_,f,_,fun r hr=>?_,rfl⟩
    ·simp only [EV,reduceIte,au,aA,ao,aq,aB,aC,aD,hh,at2,nn,bR]
    ·rcases hf r hr with ⟨k,k1,k2⟩ | ⟨k1,k2⟩
     ·exact .inl ⟨k,by omega,k2⟩
     ·refine .inr ⟨fun k hk'=>?_,k2⟩
      by_cases z:k=i
      ·rw [z,hh];exact fun w=>nomatch w
      ·exact k1 k (by omega)
   | some r0 =>
    have nn:isNone (hD (some r0))=false:=rfl
    have hr0:r0 < M:=((ok.ok _ (gj hi)).2.1 r0 hh).1
    have hv:hD (some r0) = .int (r0:Int):=rfl
    have p3:=Iu (l:=(aH M).map fun r:Nat=>PyData.int (f r)) (by rw [aJ,bB]) hr0
    have st:=yW (n:=M) (c:=r0) (d:=.int (ek L i)) (fun r:Nat=>PyData.int (f r))
    refine ⟨_,[some (.d (.list (L.map yD))),some (.d (.int (M:Int))),some (.d (.int now)),some (.d (.list (((aH M).map fun r:Nat=>PyData.int (f r)).set r0 (.int (ek L i))))),some (.d (.tuple [.int (bk L i),.int (ek L i),hD (some r0)]))],rfl,.inl ?_,fun r=>if r=r0 then ek L i else f r,some (.d (.tuple [.int (bk L i),.int (ek L i),hD (some r0)])),fun r hr=>?_,?_⟩
    ·generalize (aH M).map (fun r:Nat=>PyData.int (f r))=FF at *
     simp only [EV,reduceIte,au,aA,ao,aq,aB,aC,aD,hh,hv,at1,at2,cO,p3,aL]
    ·by_cases z:r=r0
     ·exact .inl ⟨i,by omega,by rw [z];exact hh,by show (if r=r0 then ek L i else f r)=_;rw [if_pos z]⟩
     ·show (∃ k,k < i + 1∧hk L k=some r∧(if r=r0 then ek L i else f r)=ek L k)∨((∀ k,k < i + 1→hk L k ≠ some r)∧(if r=r0 then ek L i else f r)=now)
      rw [if_neg z]
      rcases hf r hr with ⟨k,k1,k2⟩ | ⟨k1,k2⟩
      ·exact .inl ⟨k,by omega,k2⟩
      ·refine .inr ⟨fun k hk'=>?_,k2⟩
       by_cases w:k=i
       ·rw [w,hh]
        intro y
        injection y with y
        exact z y.symm
       ·exact k1 k (by omega)
    ·rw [st]
     have:(fun x:Nat=>if x=r0 then PyData.int (ek L i) else PyData.int (f x))=fun x=>PyData.int (if x=r0 then ek L i else f x):=by
      funext x
      by_cases z:x=r0
      ·rw [if_pos z,if_pos z]
      ·rw [if_neg z,if_neg z]
     rw [this])
 rw [aJ] at hf
 refine ⟨f,?_,hf⟩
 have fl:flats ((aH M).map fun r:Nat=>PyData.int (f r))=true:=iw _ (fun _=>rfl) _
 show Com.bY _=_
 unfold Com.bY
 simp only [EV,reduceIte,au,aA,ao,aq,aB,aC,aD,zl1,rp]
 rw [e]
 simp only [EV,reduceIte,au,aA,ao,aq,aB,aC,aD,m9,fl]
def hel (L:List Ty):List Nat:=(aH L.length).filter fun k=>(hk L k).isSome
theorem rR {k:Nat}:k ∈ hel L↔k < L.length∧(hk L k).isSome=true:=by
 unfold hel
 rw [bM,aR]
end
theorem TO0.of {L:List Ty} {M:Nat} {now:Int} (ok:TOk L M now):TO0 L M now:=⟨ok.len,fun s hs=>⟨⟨(ok.ok s hs).1,(ok.bd s hs).1,(ok.bd s hs).2⟩,(ok.ok s hs).2⟩,ok.nd⟩
theorem Cw {L:List Ty} {M:Nat} {now:Int} (ok:TOk L M now):jU L now ≤ M:=by
 cases e:L.filter (hol now) with
 | nil=>unfold jU;rw [e];exact fJ _
 | cons s r =>
  have hs:s ∈ L.filter (hol now):=by rw [e];exact aO
  obtain ⟨h1,h2⟩:=bM.mp hs
  have:=ok.full s h1
  unfold hol at h2
  rw [aW,decide_eq_true_iff] at h2
  rwa [if_neg (by omega)] at this
theorem GF {L:List Ty} {M:Nat} {now:Int} (ok:TOk L M now) {s:Ty} (hs:s ∈ L) (h:now ≤ s.1):jU L s.1 ≤ M:=by
 have:=ok.full s hs
 by_cases z:s.1 > now
 ·rwa [if_pos z] at this
 ·rw [if_neg z] at this
  have:s.1=now:=by omega
  rw [this]
  exact Cw ok
theorem GJ {L:List Ty} {g:FG} {c:FT} {e:FE} (hg:g=gNl 0) (hc:c=D3.jR) (he:e=dCall Com.cM (aG (aF 0) (aV))) (δ0:DS):d_ g c e (jx 1 [] δ0) (L.map yD)=some ((nS L).map stD):=by
 subst hg hc he
 unfold nS
 rw [dX]
 exact xg yD _ L fun s _=>⟨[some (.d (yD s))],rfl,rfl,by
  obtain ⟨a,b,c⟩:=s
  have:Com.cM [.tuple [.int a,.int b,hD c]]=_:=mV a b (hD c)
  unfold yD
  simp only [EV,reduceIte,au,aA,ao,aq,aB,aC,aD,this]
  rfl⟩
theorem PX {L:List Ty} {M:Nat} {now:Int} (ok:TOk L M now):iH [.list (L.map yD),.int (M:Int),.int now]=some .none:=by
 have l24:=ok.len
 have len:(L.map yD).length ≤ 100000:=by rw [aJ];omega
 have ff:=PK (L:=L) (M:=M) (now:=now) l24
 have no:(now :: oK (LT L now)).find? (pM L M)=none:=sy.mpr fun x hx=>by
  have:jU L x ≤ M:=by
   rcases bA.mp hx with rfl | z
   ·exact Cw ok
   ·obtain ⟨z1,z2⟩:=bM.mp ((je _).mem_iff.mp z)
    obtain ⟨s,s1,rfl⟩:=cX.mp z1
    have z2:=of_decide_eq_true z2
    exact GF ok s1 (by omega)
  unfold pM
  rw [decide_eq_true_iff]
  omega
 rw [no] at ff
 have ff:Com.kZ [.list ((nS L).map stD),.int (M:Int),.int now]=some .none:=ff
 have C:=fun δ0=>GJ (L:=L) (g:=(gNl 0)) (c:=(D3.jR)) (e:=(dCall cM (aG (aF 0) (aV)))) rfl rfl rfl δ0
 have nn:isNone .none=true:=rfl
 show Com.iH _=_
 unfold Com.iH
 simp only [EV,reduceIte,au,aA,ao,aq,aB,aC,aD,len,C,ff,nn,bR]
theorem xM {L:List Ty} {M:Nat} {now:Int} (ok:TOk L M now) {w:Nat} (hw:w < L.length) (hn:hk L w=none):iM [.list (L.map yD),.int (M:Int),.int now,.int (w:Int)]=some .none:=by
 have l24:=ok.len
 have c1:=Cu (TO0.of ok)
 have c2:=PX ok
 have a1:=ay hw
 have ll:((L.map yD).length:Int)=(L.length:Int):=by rw [aJ]
 have z1:decide ((0:Int) ≤ (w:Int))=true:=dTr (by omega)
 have z2:decide ((w:Int) < (L.length:Int))=true:=dTr (by omega)
 have nn:isNone (hD none)=true:=rfl
 rw [hn] at a1
 unfold iM
 simp only [EV,reduceIte,au,aA,ao,aq,aB,aC,aD,c1,c2,ll,z1,z2,a1,at2,nn,bR]
theorem vI {M r:Nat} (h:r < M):dI [.int (M:Int),.int (r:Int)]=some .none:=by
 have z1:decide ((0:Int) ≤ (r:Int))=true:=dTr (by omega)
 have z2:decide ((r:Int) < (M:Int))=true:=dTr (by omega)
 show Com.dI _=_
 unfold Com.dI
 simp only [EV,reduceIte,au,aA,ao,aq,aB,aC,aD,z1,z2,bR]
def gA (L:List Ty) (w k:Nat) (x:Int):Bool:=!decide (k=w) && (!(hk L k).isSome && (decide (bk L k=x) && decide (ek L k ≤ bk L w)))
theorem Li {L:List Ty} {w k:Nat} {x:Int} (hw:w < L.length) (hk':k < L.length):fQ [.list (L.map yD),.int (w:Int),.int (k:Int),.int x]=some (.bool (gA L w k x)):=by
 have a1:=ay hw
 have a2:=ay hk'
 have nn:=xr (hk L k)
 have e1:decide ((k:Int)=(w:Int))=decide (k=w):=decide_eq_decide.mpr (by omega)
 unfold gA
 show Com.fQ _=_
 unfold Com.fQ
 cases c1:decide (k=w) with
 | true=>simp only [EV,reduceIte,au,aA,ao,aq,aB,aC,aD,a1,a2,at0,at1,at2,nn,e1,c1,bR,gW]
 | false =>
  cases c2:(hk L k).isSome with
  | true=>simp only [EV,reduceIte,au,aA,ao,aq,aB,aC,aD,a1,a2,at0,at1,at2,nn,e1,c1,c2,bR,cO,gW,jW]
  | false =>
   cases c3:decide (bk L k=x) with
   | true=>simp only [EV,reduceIte,au,aA,ao,aq,aB,aC,aD,a1,a2,at0,at1,at2,nn,e1,c1,c2,c3,bR,cO,gW,jW]
   | false=>simp only [EV,reduceIte,au,aA,ao,aq,aB,aC,aD,a1,a2,at0,at1,at2,nn,e1,c1,c2,c3,bR,cO,gW,jW]
theorem Lj {L:List Ty} {M:Nat} {x:Int} (hl:L.length ≤ 24):jr [.list (L.map yD),.int (M:Int),.int x]=some (.bool (decide (jU L x=M))):=by
 have len:(L.map yD).length ≤ 100000:=by rw [aJ];omega
 have C:=fun δ0=>GJ (L:=L) (g:=(gNl 0)) (c:=(D3.jR)) (e:=(dCall cM (aG (aF 0) (aV)))) rfl rfl rfl δ0
 have cs:=xq (ss:=nS L) (by unfold nS;rw [aJ];omega) x
 rw [Lh] at cs
 have e1:decide ((jU L x:Int)=(M:Int))=decide (jU L x=M):=decide_eq_decide.mpr (by omega)
 show Com.jr _=_
 unfold Com.jr
 simp only [EV,reduceIte,au,aA,ao,aq,aB,aC,aD,len,C,cs,e1]
def pqD (s:Int × Option Nat):D:=.tuple [.int s.1,hD s.2]
def gos (L:List Ty) (w:Nat) (x:Int):List Nat:=(aH L.length).filter fun k=>gA L w k x
def stp (L:List Ty) (M w:Nat) (x:Int):List (Int × Option Nat):=((gos L w x).map fun k=>(ek L k,some k))++if jU L x=M then [] else [(x + 1,none)]
theorem Lk {L:List Ty} {M w:Nat} {x:Int} (hl:L.length ≤ 24) (hw:w < L.length):dJ [.list (L.map yD),.int (M:Int),.int (w:Int),.int x]=some (.list ((stp L M w x).map pqD)):=by
 have en:kY (L.map yD)=(aH L.length).map fun p:Nat=>PyData.tuple [.int (p:Int),yD (tAt L p)]:=by rw [lK];exact Aa _
 have C:d_ (gTn 2 (fj (gNl 0) (fj (gNl 1) (mz)))) (aY (dCall fQ (aG (aF 2) (aG (aF 3) (aG (aF 0) (aG (aF 4) (aV))))))) (cV (dTup (aG (dOp gIx (aF 1) (dC (.int 1))) (aG (aF 0) (aV))))) (jx 2 [0,2,3] [some (.d (.list (L.map yD))),some (.d (.int (M:Int))),some (.d (.int (w:Int))),some (.d (.int x)),none]) (kY (L.map yD))=some ((gos L w x).map fun k=>pqD (ek L k,some k)):=by
  rw [en]
  exact w6 (fun p:Nat=>PyData.tuple [.int (p:Int),yD (tAt L p)]) (fun k=>gA L w k x) (fun k=>pqD (ek L k,some k)) (aH L.length) fun p hp=>⟨[some (.d (.int (p:Int))),some (.d (yD (tAt L p))),some (.d (.list (L.map yD))),some (.d (.int (w:Int))),some (.d (.int x))],rfl,by
   have:=Li (x:=x) hw (aR.mp hp)
   have:Com.fQ _=_:=this
   simp only [EV,reduceIte,au,aA,ao,aq,aB,aC,aD,this],fun _=>by
   unfold yD
   simp only [EV,reduceIte,au,aA,ao,aq,aB,aC,aD,at1]
   rfl⟩
 have el:(kY (L.map yD)).length ≤ 100000:=by rw [en,aJ,bB];omega
 have tt:Com.jr _=_:=Lj (M:=M) (x:=x) hl
 have gl:(gos L w x).length ≤ 24:=by
  have:=d8 (fun k=>gA L w k x) (aH L.length)
  rw [bB] at this
  exact bV this hl
 have lm:((gos L w x).map fun k=>pqD (ek L k,some k)).length < 1000000:=by rw [aJ];omega
 have f1:flats ((gos L w x).map fun k=>pqD (ek L k,some k))=true:=iw _ (fun _=>rfl) _
 unfold stp
 show Com.dJ _=_
 unfold Com.dJ
 by_cases z:jU L x=M
 ·rw [dTr z] at tt
  rw [if_pos z,cY,dX]
  simp only [EV,reduceIte,au,aA,ao,aq,aB,aC,aD,el,C,tt,bR,m9,f1]
  rfl
 ·rw [dFa z] at tt
  rw [if_neg z,cI,dX]
  have f2:flats (((gos L w x).map fun k=>pqD (ek L k,some k))++[pqD (x + 1,none)])=true:=by
   rw [show [pqD (x + 1,none)]=([(x + 1,none)]:List (Int × Option Nat)).map pqD from rfl]
   rw [show ((gos L w x).map fun k=>pqD (ek L k,some k))=((gos L w x).map fun k=>(ek L k,some k)).map pqD by rw [dX];rfl,← cI]
   exact iw _ (fun s=>by obtain ⟨a,b⟩:=s;cases b <;> rfl) _
  have f2':flats (((gos L w x).map fun k=>pqD (ek L k,some k))++[PyData.tuple [.int (x + 1),.none]])=true:=f2
  simp only [EV,reduceIte,au,aA,ao,aq,aB,aC,aD,el,C,tt,cO,zl2,lm,m9,f2']
  rfl
theorem vJ {S:List (Int × D)} {k x:Int} {d:D} (h:(d7 S x).isSome=true):d7 (nC S k d) x=d7 S x:=by
 unfold nC
 split
 ·rfl
 ·unfold d7 at h ⊢
  rw [sZ]
  cases e:S.find? fun q=>decide (q.1=x) with
  | none=>rw [e] at h;cases h
  | some q=>rfl
theorem Ab {S:List (Int × D)} {k x:Int} {d:D} (h:d7 S x=none):d7 (nC S k d) x=if x=k then some d else none:=by
 unfold nC
 split
 ·next c =>
  by_cases z:x=k
  ·rw [← z,h] at c;cases c
  ·rw [if_neg z];exact h
 ·unfold d7 at h ⊢
  rw [sZ]
  cases e:S.find? fun q=>decide (q.1=x) with
  | some q=>rw [e] at h;cases h
  | none =>
   show (([(k,d)]:List (Int × D)).find? fun q=>decide (q.1=x)).map (·.2)=_
   by_cases z:x=k
   ·rw [if_pos z,o7 (by simp [z])];rfl
   ·rw [if_neg z,o8 (by simp;exact fun y=>z y.symm)];rfl
theorem uc {S:List (Int × D)} {k x:Int} {d:D} (h:(d7 S x).isSome=true):(d7 (nC S k d) x).isSome=true:=by rw [vJ h];exact h
theorem Ln {S:List (Int × D)} {k:Int} {d:D}:(d7 (nC S k d) k).isSome=true:=by
 cases h:d7 S k with
 | none=>rw [Ab h,if_pos rfl];rfl
 | some v=>rw [vJ (by rw [h];rfl),h];rfl
theorem P_ (S:List (Int × D)) (k:Int) (d:D):(nC S k d).length ≤ S.length + 1:=by
 unfold nC
 split
 ·omega
 ·rw [bH];exact bh _
def qTv (i:Nat) (x y z:Option D) (δ:DS):Option Oc:=x.bind fun x=>y.bind fun y=>z.bind fun z=>(vd x).bind fun S=>match y with
 | .int k=>if tvD z=true∧S.length < 1000000 then some (.nx (δ.set i (some (.d (dtv (nC S k z)))))) else none
 | _=>none
theorem Qa {i:Nat} {fk fv:FE} {δ:DS}:wQ i fk fv δ=qTv i (aF i δ) (fk δ) (fv δ) δ:=rfl
theorem Iw {i:Nat} {S:List (Int × D)} {k:Int} {z:D} {δ:DS} (hA:tvA S=true) (hz:tvD z=true) (h:S.length < 1000000):qTv i (some (dtv S)) (some (.int k)) (some z) δ=some (.nx (δ.set i (some (.d (dtv (nC S k z)))))):=by
 unfold qTv
 rw [aL,aL,aL,rN hA,aL]
 show (if _ then _ else _)=_
 rw [if_pos ⟨hz,h⟩]
theorem Qc {fk:FE} {δ:DS} {i:Int} (h:fk δ=some (.int i)):wO fk δ=some (dtv [(i,.none)]):=by
 unfold wO
 rw [h]
 rfl
theorem Ur {S:List (Int × D)} {k:Int} (hA:tvA S=true):Ca (.int k) (dtv S)=some (.bool (d7 S k).isSome):=by
 unfold Ca
 rw [rN hA]
 rfl
theorem yZ {S:List (Int × D)} {k:Int} (hA:tvA S=true):tU (.int k) (dtv S)=some (.bool (!(d7 S k).isSome)):=by
 unfold tU
 rw [rN hA]
 rfl
theorem GK {S:List (Int × D)} {k:Int} (hA:tvA S=true):pJ (dtv S) (.int k)=d7 S k:=by
 unfold pJ
 rw [rN hA]
 rfl
theorem QK (x:Int) (p:Option Nat):tvD (.tuple [.int x,hD p])=true:=by cases p <;> rfl
abbrev Gk (L:List Ty) (w k:Nat):Prop:=Rch.Go L.length (bk L) (ek L) (hk L) w k
def Stp (L:List Ty) (M w:Nat) (y:Int) (p:Option Nat) (x:Int):Prop:=match p with
 | none=>jU L y ≠ M∧x=y + 1
 | some k=>Gk L w k∧bk L k=y∧ek L k=x
theorem vK {L:List Ty} {M w:Nat} {y:Int} {s:Int × Option Nat}:s ∈ stp L M w y↔Stp L M w y s.2 s.1:=by
 obtain ⟨x,p⟩:=s
 unfold stp Stp
 rw [aX,cX]
 cases p with
 | none =>
  constructor
  ·rintro (⟨k,_,e⟩ | h)
   ·cases e
   ·by_cases z:jU L y=M
    ·rw [if_pos z] at h;cases h
    ·rw [if_neg z] at h
     have:=aK.mp h
     injection this with h1 h2
     exact ⟨z,h1⟩
  ·rintro ⟨h1,h2⟩
   right
   rw [if_neg h1]
   have h2:x=y + 1:=h2
   rw [h2]
   exact aK.mpr rfl
 | some k =>
  have gk:k ∈ gos L w y↔Gk L w k∧bk L k=y:=by
   unfold gos gA
   rw [bM,aR,aW,aW,aW,decide_eq_true_iff,decide_eq_true_iff]
   have:(!(hk L k).isSome)=true↔hk L k=none:=by cases hk L k <;> simp
   rw [this]
   simp only [tu,decide_eq_false_iff_not]
   constructor
   ·rintro ⟨h1,h2,h3,h4,h5⟩;exact ⟨⟨h1,h2,h3,h5⟩,h4⟩
   ·rintro ⟨⟨h1,h2,h3,h5⟩,h4⟩;exact ⟨h1,h2,h3,h4,h5⟩
  constructor
  ·rintro (⟨k',h1,e⟩ | h)
   ·injection e with e1 e2
    injection e2 with e2
    subst e2
    obtain ⟨g1,g2⟩:=gk.mp h1
    exact ⟨g1,g2,e1⟩
   ·split at h
    ·cases h
    ·have:=aK.mp h
     injection this with h1 h2
     cases h2
  ·rintro ⟨h1,h2,h3⟩
   exact .inl ⟨k,gk.mpr ⟨h1,h2⟩,by rw [show ek L k=x from h3]⟩
theorem Ac {S:List (Int × D)} {x:Int}:(d7 S x).isSome=true↔x ∈ S.map (·.1):=by
 unfold d7
 rw [kJ,List.find?_isSome]
 constructor
 ·rintro ⟨q,h1,h2⟩
  exact cX.mpr ⟨q,h1,of_decide_eq_true h2⟩
 ·intro h
  obtain ⟨q,h1,h2⟩:=cX.mp h
  exact ⟨q,h1,dTr h2⟩
theorem Us {S:List (Int × D)} {k:Int} {d:D} (h:(S.map (·.1)).Nodup):((nC S k d).map (·.1)).Nodup:=by
 unfold nC
 split
 ·exact h
 ·next c =>
  rw [cI]
  refine nG.mpr ⟨h,kj _ _,fun a ha b hb z=>c ?_⟩
  have hb:b=k:=aK.mp hb
  rw [hb] at z
  rw [z] at ha
  exact Ac.mpr ha
structure Sok (L:List Ty) (M w:Nat) (B:Int) (S:List (Int × D)):Prop where
 a:tvA S=true
 b:d7 S B=some .none
 nd:(S.map (·.1)).Nodup
 c:∀ x d,d7 S x=some d→(x=B∧d = .none)∨∃ (y:Int) (p:Option Nat),d = .tuple [.int y,hD p]∧B ≤ y∧y < x∧y < bk L w∧(d7 S y).isSome=true∧Stp L M w y p x
theorem Sok.add {L:List Ty} {M w:Nat} {B x z:Int} {p:Option Nat} {S:List (Int × D)} (h:Sok L M w B S) (h1:B ≤ x) (h2:x < z) (h3:x < bk L w) (h4:(d7 S x).isSome=true) (h5:Stp L M w x p z):Sok L M w B (nC S z (.tuple [.int x,hD p])):=by
 refine ⟨Ny h.a (QK _ _),by rw [vJ (by rw [h.b];rfl)];exact h.b,Us h.nd,fun y d e=>?_⟩
 cases hy:d7 S y with
 | some v =>
  rw [vJ (by rw [hy];rfl)] at e
  rcases h.c y d e with q | ⟨y',p',q1,q2,q3,q4,q5,q6⟩
  ·exact .inl q
  ·exact .inr ⟨y',p',q1,q2,q3,q4,uc q5,q6⟩
 | none =>
  rw [Ab hy] at e
  split at e
  ·next c =>
   cases e
   exact .inr ⟨x,p,rfl,h1,by omega,h3,uc h4,by rw [c];exact h5⟩
  ·cases e
theorem Qd {L:List Ty} {M w:Nat} {x:Int} (hl:L.length ≤ 24):(stp L M w x).length ≤ 25:=by
 have:=d8 (fun k=>gA L w k x) (aH L.length)
 rw [bB] at this
 unfold stp gos
 rw [bH,aJ]
 split <;> simp only [iu,bN] <;> omega
theorem W5 {lo hi:Int} {i:Nat} {d:D} (h:(fM lo hi)[i]? = some d):lo + (i:Int) < hi∧d = .int (lo + (i:Int)):=by
 unfold fM at h
 rw [aN] at h
 by_cases z:i < (hi - lo).toNat
 ·rw [bU z] at h
  cases h
  exact ⟨by omega,rfl⟩
 ·rw [bD (by simpa using z)] at h
  cases h
theorem sU {L:List Ty} {M w:Nat} {now B:Int} (ok:TOk L M now) (hw:w < L.length) (B0:0 ≤ B) (hB:B ≤ bk L w) :
 ∃ S,fP [.list (L.map yD),.int (M:Int),.int (w:Int),.int B]=some (dtv S)∧Sok L M w B S∧∀ x,B ≤ x→x < bk L w→(d7 S x).isSome=true→∀ s ∈ stp L M w x,(d7 S s.1).isSome=true:=by
 have l24:=ok.len
 have lt:∀ k,k < L.length→bk L k < ek L k:=fun k hk'=>(ok.ok _ (gj hk')).1
 have g400:bk L w ≤ 400:=by
  have:=(ok.bd _ (gj hw)).2
  have:=lt w hw
  show (tAt L w).1 ≤ 400
  have:(tAt L w).1 < (tAt L w).2.1:=this
  omega
 have aw:=ay hw
 have st0:Sok L M w B [(B,.none)]:=⟨rfl,by simp [d7],by simp,fun x d e=>by
  unfold d7 at e
  by_cases z:B=x
  ·rw [o7 (by simp [z])] at e
   cases e
   exact .inl ⟨z.symm,rfl⟩
  ·rw [o8 (by simp [z])] at e
   cases e⟩
 obtain ⟨δ',e,S,u5,u6,h1,h2,h3,rfl⟩:=jN (g:=(gNl 5)) (b:=(sIf (aY (dOp Ca (aF 5) (aF 4))) (lQ (jT (dCall dJ (aG (aF 0) (aG (aF 1) (aG (aF 2) (aG (aF 5) (aV))))))) (gNl 6) (wQ 4 (dOp gIx (aF 6) (dC (.int 0))) (dTup (aG (aF 5) (aG (dOp gIx (aF 6) (dC (.int 1))) (aV)))))) (dM)))
  (fun i δ=>∃ (S:List (Int × D)) (u5 u6:Option U),Sok L M w B S∧S.length ≤ 1 + 25 * i∧(∀ x,B ≤ x→x < B + (i:Int)→(d7 S x).isSome=true→∀ s ∈ stp L M w x,(d7 S s.1).isSome=true) ∧
   δ=[some (.d (.list (L.map yD))),some (.d (.int (M:Int))),some (.d (.int (w:Int))),some (.d (.int B)),some (.d (dtv S)),u5,u6]) (fM B (bk L w))
  [some (.d (.list (L.map yD))),some (.d (.int (M:Int))),some (.d (.int (w:Int))),some (.d (.int B)),some (.d (dtv [(B,.none)])),none,none] ⟨_,none,none,st0,(show 1 ≤ 1 + 25 * 0 by decide),fun x q1 q2=>by omega,rfl⟩ (by
   rintro i d δ hd ⟨S,u5,u6,h1,h2,h3,rfl⟩
   obtain ⟨hi,rfl⟩:=W5 hd
   have i400:i ≤ 400:=by omega
   have q1:=Ur (k:=B + (i:Int)) h1.a
   cases kx:(d7 S (B + (i:Int))).isSome with
   | false =>
    rw [kx] at q1
    refine ⟨_,[some (.d (.list (L.map yD))),some (.d (.int (M:Int))),some (.d (.int (w:Int))),some (.d (.int B)),some (.d (dtv S)),some (.d (.int (B + (i:Int)))),u6],rfl,.inl ?_,S,_,_,h1,by omega,fun x x1 x2 x3=>?_,rfl⟩
    ·simp only [EV,reduceIte,au,aA,ao,aq,aB,aC,aD,q1]
    ·by_cases z:x=B + (i:Int)
     ·rw [z,kx] at x3;cases x3
     ·exact h3 x x1 (by omega) x3
   | true =>
    rw [kx] at q1
    have sl:=Qd (M:=M) (w:=w) (x:=B + (i:Int)) l24
    have so:Com.dJ _=_:=Lk (M:=M) (x:=B + (i:Int)) l24 hw
    obtain ⟨δ2,e2,S2,v6,g1,g2,g3,g4,g5,rfl⟩:=jN (g:=(gNl 6)) (b:=(wQ 4 (dOp gIx (aF 6) (dC (.int 0))) (dTup (aG (aF 5) (aG (dOp gIx (aF 6) (dC (.int 1))) (aV))))))
     (fun j δ=>∃ (S2:List (Int × D)) (v6:Option U),Sok L M w B S2∧S2.length ≤ S.length + j∧(∀ x,(d7 S x).isSome=true→(d7 S2 x).isSome=true)∧(∀ x,x ≤ B + (i:Int)→(d7 S2 x).isSome=true→(d7 S x).isSome=true) ∧
      (∀ s ∈ (stp L M w (B + (i:Int))).take j,(d7 S2 s.1).isSome=true)∧δ=[some (.d (.list (L.map yD))),some (.d (.int (M:Int))),some (.d (.int (w:Int))),some (.d (.int B)),some (.d (dtv S2)),some (.d (.int (B + (i:Int)))),v6]) ((stp L M w (B + (i:Int))).map pqD)
     [some (.d (.list (L.map yD))),some (.d (.int (M:Int))),some (.d (.int (w:Int))),some (.d (.int B)),some (.d (dtv S)),some (.d (.int (B + (i:Int)))),u6] ⟨S,u6,h1,by omega,fun _ h=>h,fun _ _ h=>h,fun s hs=>(by cases hs),rfl⟩ (by
      rintro j d δ hd ⟨S2,v6,g1,g2,g3,g4,g5,rfl⟩
      rw [aN] at hd
      cases es:(stp L M w (B + (i:Int)))[j]? with
      | none=>rw [es] at hd;cases hd
      | some s =>
       rw [es] at hd
       cases hd
       have jl:j < 25:=bT (dh.mp es).1 sl
       have sm:=cZ es
       obtain ⟨z,p⟩:=s
       have sp:=vK.mp sm
       have zx:B + (i:Int) < z:=by
        cases p with
        | none =>
         have:z=B + (i:Int) + 1:=sp.2
         omega
        | some k =>
         have h:=lt k sp.1.1
         have h4:bk L k=B + (i:Int):=sp.2.1
         have h5:ek L k=z:=sp.2.2
         omega
       have et:(stp L M w (B + (i:Int))).take (j + 1)=(stp L M w (B + (i:Int))).take j++[(z,p)]:=by rw [jz,es];rfl
       have vs:=Iw (i:=4) (k:=z) (δ:=[some (.d (.list (L.map yD))),some (.d (.int (M:Int))),some (.d (.int (w:Int))),some (.d (.int B)),some (.d (dtv S2)),some (.d (.int (B + (i:Int)))),some (.d (pqD (z,p)))]) g1.a (QK (B + (i:Int)) p) (by omega)
       refine ⟨_,[some (.d (.list (L.map yD))),some (.d (.int (M:Int))),some (.d (.int (w:Int))),some (.d (.int B)),some (.d (dtv (nC S2 z (.tuple [.int (B + (i:Int)),hD p])))),some (.d (.int (B + (i:Int)))),some (.d (pqD (z,p)))],rfl,.inl ?_,nC S2 z (.tuple [.int (B + (i:Int)),hD p]),_,g1.add (by omega) zx hi (g3 _ kx) sp,?_,fun x hx=>uc (g3 x hx),fun x x1 x2=>?_,fun s hs=>?_,rfl⟩
       ·have i0:gIx (pqD (z,p)) (.int 0)=some (.int z):=rfl
        have i1:gIx (pqD (z,p)) (.int 1)=some (hD p):=rfl
        simp only [EV,reduceIte,au,aA,ao,aq,aB,aC,aD,Qa,i0,i1,zl2]
        exact vs
       ·have:=P_ S2 z (.tuple [.int (B + (i:Int)),hD p])
        omega
       ·refine g4 x x1 ?_
        cases hy:d7 S2 x with
        | some v=>rfl
        | none =>
         rw [Ab hy,if_neg (by omega)] at x2
         cases x2
       ·rw [et] at hs
        rcases aX.mp hs with y | y
        ·exact uc (g5 s y)
        ·rw [aK.mp y]
         exact Ln)
    rw [aJ] at g2 g5
    rw [jL] at g5
    refine ⟨_,[some (.d (.list (L.map yD))),some (.d (.int (M:Int))),some (.d (.int (w:Int))),some (.d (.int B)),some (.d (dtv S2)),some (.d (.int (B + (i:Int)))),v6],rfl,.inl ?_,S2,_,_,g1,by omega,fun x x1 x2 x3=>?_,rfl⟩
    ·simp only [EV,reduceIte,au,aA,ao,aq,aB,aC,aD,q1,so]
     exact e2
    ·by_cases z:x=B + (i:Int)
     ·rw [z];exact g5
     ·intro s hs
      exact g3 _ (h3 x x1 (by omega) (g4 x (by omega) x3) s hs))
 refine ⟨S,?_,h1,fun x x1 x2=>h3 x x1 (by unfold fM;rw [aJ,bB];omega)⟩
 have rg:Gx (some [.int B,.int (bk L w)])=some (fM B (bk L w)):=Yb (by omega) (by omega) (by omega) (by omega)
 have nw:wO (aF 3) [some (.d (.list (L.map yD))),some (.d (.int (M:Int))),some (.d (.int (w:Int))),some (.d (.int B)),none,none,none]=some (dtv [(B,.none)]):=Qc rfl
 unfold fP
 simp only [EV,reduceIte,au,aA,ao,aq,aB,aC,aD,nw,aw,at0,rg]
 rw [e]
 simp only [EV,reduceIte,au,aA,ao,aq,aB,aC,aD]
theorem Ez {L:List Ty} (x:Int):jU L x=Rch.cnt L.length (bk L) (ek L) x:=QJ x
abbrev Pt (L:List Ty) (M w:Nat) (B:Int):List Nat→Int→Prop:=Rch.Pth L.length M (bk L) (ek L) (hk L) w B
def nD (t:List Nat):List D:=t.map fun k:Nat=>PyData.int (k:Int)
theorem EY {L:List Ty} {M w:Nat} {B:Int} {S:List (Int × D)} (h:Sok L M w B S):∀ (m:Nat) (x:Int) (t:List Nat) (u4:Option U),(x - B).toNat ≤ m→(d7 S x).isSome=true→t.length + m ≤ 1000→(∀ cs,Pt L M w B cs x→Pt L M w B (cs++t) (bk L w)) →
 ∃ n t' z4,ig ((aY (dUn lR (dOp pJ (aF 0) (aF 3))))) ((b_ (bW 4 (dOp gIx (dOp pJ (aF 0) (aF 3)) (dC (.int 1)))) (b_ (sIf (aY (dUn lR (aF 4))) (xU 2 (dC (.int 0)) (aF 4)) (dM)) (bW 3 (dOp gIx (dOp pJ (aF 0) (aF 3)) (dC (.int 0))))))) n [some (.d (dtv S)),some (.d (.int (bk L w))),some (.d (.list (nD t))),some (.d (.int x)),u4] =
  some (.nx [some (.d (dtv S)),some (.d (.int (bk L w))),some (.d (.list (nD t'))),some (.d (.int B)),z4])∧Pt L M w B t' (bk L w):=by
 intro m
 induction m with
 | zero =>
  intro x t u4 hm hx _ hP
  obtain ⟨d,ed⟩:=cN.mp hx
  rcases h.c x d ed with ⟨rfl,rfl⟩ | ⟨y,p,_,y1,y2,_⟩
  ·have g:=GK (k:=x) h.a
   rw [ed] at g
   have nn:isNone .none=true:=rfl
   refine ⟨1,t,u4,?_,hP [] .start⟩
   rw [ig]
   simp only [EV,reduceIte,au,aA,ao,aq,aB,aC,aD,g,nn,bR]
   rfl
  ·omega
 | succ m ih =>
  intro x t u4 hm hx hl hP
  obtain ⟨d,ed⟩:=cN.mp hx
  have g:=GK (k:=x) h.a
  rw [ed] at g
  rcases h.c x d ed with ⟨rfl,rfl⟩ | ⟨y,p,rfl,y1,y2,y3,y4,y5⟩
  ·have nn:isNone .none=true:=rfl
   refine ⟨1,t,u4,?_,hP [] .start⟩
   rw [ig]
   simp only [EV,reduceIte,au,aA,ao,aq,aB,aC,aD,g,nn,bR]
   rfl
  ·cases p with
   | none =>
    obtain ⟨n,t',z4,e1,e2⟩:=ih y t (some (.d .none)) (by omega) y4 (by omega) (fun cs hc=>hP cs (by
     have:=Rch.Pth.gap hc (by rw [← Ez];exact y5.1) y3
     rwa [← y5.2] at this))
    refine ⟨n + 1,t',z4,?_,e2⟩
    have nt:isNone (.tuple [.int y,hD none])=false:=rfl
    have nn:isNone (hD none)=true:=rfl
    rw [ig]
    simp only [EV,reduceIte,au,aA,ao,aq,aB,aC,aD,g,nt,nn,at0,at1,cO,bR,aL]
    exact e1
   | some k =>
    obtain ⟨n,t',z4,e1,e2⟩:=ih y (k :: t) (some (.d (.int (k:Int)))) (by omega) y4 (by rw [bN];omega) (fun cs hc=>by
     have h1:bk L k=y:=y5.2.1
     have h2:ek L k=x:=y5.2.2
     have:=hP (cs++[k]) (by
      have:=Rch.Pth.stay (k:=k) (by rw [h1];exact hc) y5.1
      rwa [h2] at this)
     rwa [fZ] at this)
    refine ⟨n + 1,t',z4,?_,e2⟩
    have nt:isNone (.tuple [.int y,hD (some k)])=false:=rfl
    have nn:isNone (hD (some k))=false:=rfl
    have hk':hD (some k) = .int (k:Int):=rfl
    have ei:DN 0 (.int (k:Int)) (nD t)=some (nD (k :: t)):=by
     unfold DN
     rw [if_pos (by unfold nD;rw [aJ];omega)]
     rfl
    rw [ig]
    simp only [EV,reduceIte,au,aA,ao,aq,aB,aC,aD,g,nt,nn,hk',at0,at1,cO,bR,aL,J2,zK,R9 ei]
    exact e1
theorem Lp {L:List Ty} {M w:Nat} {B:Int} {S:List (Int × D)} (h:Sok L M w B S) (hx:(d7 S (bk L w)).isSome=true) (hb:(bk L w - B).toNat ≤ 1000) :
 ∃ t:List Nat,nj [dtv S,.int (bk L w)]=some (.list (nD t))∧Pt L M w B t (bk L w):=by
 obtain ⟨n,t,z4,e1,e2⟩:=EY h (bk L w - B).toNat (bk L w) [] none (bh _) hx (by rw [iu];omega) (fun cs hc=>by rw [cY];exact hc)
 refine ⟨t,?_,e2⟩
 have sw:=Hl e1
 have fl:flats (nD t)=true:=iw _ (fun _=>rfl) _
 have n0:nD []=[]:=rfl
 rw [n0] at sw
 unfold nj
 simp only [EV,reduceIte,au,aA,ao,aq,aB,aC,aD,zl0]
 rw [sw]
 simp only [EV,reduceIte,au,aA,ao,aq,aB,aC,aD,m9,fl]
section
variable {L:List Ty} {M:Nat} {now:Int}
theorem wd (ok:TOk L M now) {w r:Nat} {f:Nat→Int} (hw:w < L.length) (hn:hk L w=none) (hr:r < M) (hf:∀ s,s < M→(∃ k,k < L.length∧hk L k=some s∧f s=ek L k)∨((∀ k,k < L.length→hk L k ≠ some s)∧f s=now)):Rch.Wd L.length M (bk L) (ek L) (hk L) now w r (f r) :=
 ⟨fun k h=>(ok.ok _ (gj h)).1,fun k s h e=>(ok.ok _ (gj h)).2.1 s e,fun k h e=>(ok.ok _ (gj h)).2.2 e,fun k l s h1 h2 e1 e2=>xJ ok.nd h1 h2 e1 e2,
  fun k h e=>by rw [← Ez];exact GF ok (gj h) e,hw,hn,hr,hf r hr⟩
def s0 (L:List Ty) (r w:Nat) (t:List Nat) (k:Nat):Option Nat:=if k ∈ t++[w] then some r else hk L k
def f0 (L:List Ty) (r w:Nat) (f:Nat→Int) (s:Nat):Int:=if s=r then ek L w else f s
theorem Qe (ok:TOk L M now) (hM:M ≤ 12) {w r:Nat} {f:Nat→Int} (hw:w < L.length) (hn:hk L w=none) (hr:r < M) (hf:∀ s,s < M→(∃ k,k < L.length∧hk L k=some s∧f s=ek L k)∨((∀ k,k < L.length→hk L k ≠ some s)∧f s=now))
 (hB:f r ≤ bk L w) {t:List Nat} (pt:Pt L M w (f r) t (bk L w)) :
 ∃ seat:Nat→Option Nat,qY [.list (L.map yD),.list ((aH L.length).map fun k=>hD (s0 L r w t k)),.list ((aH M).map fun s:Nat=>PyData.int (f0 L r w f s))]=some (.list ((aH L.length).map fun p=>hD (seat p))) ∧
  (∀ p,p < L.length→∃ s,seat p=some s∧s < M)∧(∀ p s,s0 L r w t p=some s→seat p=some s)∧(∀ p q,p < L.length→q < L.length→p ≠ q→seat p=seat q→ek L p ≤ bk L q∨ek L q ≤ bk L p) ∧
  ∀ p,seat p=some r→p ∈ t++[w]∨(hk L p).isSome=true∨ek L w ≤ bk L p:=by
 have l24:=ok.len
 have W:=wd ok hw hn hr hf
 obtain ⟨P,eP,pP,sP⟩:=Eu (L:=L) (by omega)
 have nP:P.Nodup:=pP.nodup_iff.mpr (List.Pairwise.filter _ jc)
 have mP:∀ p ∈ P,p < L.length∧hk L p=none:=fun p hp=>by
  obtain ⟨h1,h2⟩:=bM.mp (pP.mem_iff.mp hp)
  refine ⟨aR.mp h1,?_⟩
  cases z:hk L p with
  | none=>rfl
  | some s =>
   have z:(tAt L p).2.2=some s:=z
   rw [z] at h2
   cases h2
 have lt:∀ p,p < L.length→bk L p < ek L p:=W.lt
 have lw:=lt w hw
 have nhk:∀ k,k ∈ t++[w]→k < L.length:=fun k hk'=>by
  rcases aX.mp hk' with z | z
  ·exact (pt.mem W k z).1.1
  ·rw [aK.mp z];exact hw
 obtain ⟨δ',e,seat,fs,x,y,I,hH,hF,hR,rfl⟩:=jN (g:=(gNl 5)) (b:=(sIf (aY (dUn nA (dOp gIx (aF 3) (aF 5)))) (b_ (bW 6 (dCall gH (aG (aF 4) (aG (dOp gIx (dOp gIx (aF 0) (aF 5)) (dC (.int 0))) (aV))))) (b_ (tG 3 (aF 5) (aF 6)) (tG 4 (aF 6) (dOp gIx (dOp gIx (aF 0) (aF 5)) (dC (.int 1)))))) (dM)))
  (fun i δ=>∃ (seat:Nat→Option Nat) (fs:Nat→Int) (x y:Option U),Rch.GInv now M (bk L) (ek L) (hel L++(t++[w])++(P.take i).filter fun k=>!decide (k ∈ t++[w])) seat fs∧(∀ p s,s0 L r w t p=some s→seat p=some s)∧ek L w ≤ fs r ∧
   (∀ p,seat p=some r→p ∈ t++[w]∨(hk L p).isSome=true∨ek L w ≤ bk L p) ∧
   δ=[some (.d (.list (L.map yD))),some (.d (.list ((aH L.length).map fun k=>hD (s0 L r w t k)))),some (.d (.list ((aH M).map fun s:Nat=>PyData.int (f0 L r w f s)))),some (.d (.list ((aH L.length).map fun p=>hD (seat p)))),some (.d (.list ((aH M).map fun s:Nat=>PyData.int (fs s)))),x,y]) (P.map fun i:Nat=>PyData.int (i:Int))
  [some (.d (.list (L.map yD))),some (.d (.list ((aH L.length).map fun k=>hD (s0 L r w t k)))),some (.d (.list ((aH M).map fun s:Nat=>PyData.int (f0 L r w f s)))),some (.d (.list ((aH L.length).map fun k=>hD (s0 L r w t k)))),some (.d (.list ((aH M).map fun s:Nat=>PyData.int (f0 L r w f s)))),none,none]
  ⟨s0 L r w t,f0 L r w f,none,none,by
   rw [List.take_zero,List.filter_nil,cY]
   exact Rch.W2 W hB pt hf rfl (fun k=>rR) (fun k h=>Yl h),fun _ _ h=>h,by unfold f0;rw [if_pos rfl];exact eY _,fun p hp=>by
    unfold s0 at hp
    by_cases z:p ∈ t++[w]
    ·exact .inl z
    ·rw [if_neg z] at hp;exact .inr (.inl (by rw [hp];rfl)),rfl⟩ (by
   rintro i d δ hd ⟨seat,fs,x,y,I,hH,hF,hR,rfl⟩
   rw [aN] at hd
   cases hi:P[i]? with
   | none=>rw [hi] at hd;cases hd
   | some c =>
    rw [hi] at hd
    cases hd
    have hiL:i < P.length:=(dh.mp hi).1
    have et:P.take (i + 1)=P.take i++[c]:=by rw [jz,hi];rfl
    have sp:P=P.take i++c :: P.drop (i + 1):=by
     rw [aZ hiL] at hi
     cases hi
     rw [oZ,lg]
    obtain ⟨hcn,hcf⟩:=mP c (cZ hi)
    have ayc:=ay hcn
    by_cases ct:c ∈ t++[w]
    ·have sc:seat c=some r:=hH c r (by unfold s0;rw [if_pos ct])
     have a1:=vf (fun p=>hD (seat p)) hcn
     rw [sc] at a1
     have nN:isNone (hD (some r))=false:=rfl
     refine ⟨_,[some (.d (.list (L.map yD))),some (.d (.list ((aH L.length).map fun k=>hD (s0 L r w t k)))),some (.d (.list ((aH M).map fun s:Nat=>PyData.int (f0 L r w f s)))),some (.d (.list ((aH L.length).map fun p=>hD (seat p)))),some (.d (.list ((aH M).map fun s:Nat=>PyData.int (fs s)))),some (.d (.int (c:Int))),y],rfl,.inl ?_,seat,fs,_,y,?_,hH,hF,hR,rfl⟩
     ·generalize (aH L.length).map (fun p=>hD (seat p))=SQ at *
      generalize (aH L.length).map (fun k=>hD (s0 L r w t k))=SP at *
      generalize (aH M).map (fun s:Nat=>PyData.int (fs s))=FF at *
      generalize (aH M).map (fun s:Nat=>PyData.int (f0 L r w f s))=FB at *
      simp only [EV,reduceIte,au,aA,ao,aq,aB,aC,aD,a1,nN]
     ·rw [et,mX,show ([c].filter fun k=>!decide (k ∈ t++[w]))=[] by rw [i_ (by rw [dTr ct];simp)];rfl,cY]
      exact I
    ·have hc:c ∉ hel L++(t++[w])++(P.take i).filter fun k=>!decide (k ∈ t++[w]):=fun z=>by
      rcases aX.mp z with z | z
      ·rcases aX.mp z with z | z
       ·have:=(rR.mp z).2
        rw [hcf] at this
        cases this
       ·exact ct z
      ·rw [sp] at nP
       exact (nG.mp nP).2.2 c (bM.mp z).1 c aO rfl
     have hdn:∀ k ∈ hel L++(t++[w])++(P.take i).filter (fun k=>!decide (k ∈ t++[w])),k < L.length:=fun k hk'=>by
      rcases aX.mp hk' with z | z
      ·rcases aX.mp z with z | z
       ·exact (rR.mp z).1
       ·exact nhk k z
      ·exact (mP k (p7 (bM.mp z).1)).1
     have hA:∀ k ∈ hel L++(t++[w])++(P.take i).filter (fun k=>!decide (k ∈ t++[w])),k ∈ t++[w]∨bk L k ≤ bk L c:=fun k hk'=>by
      rcases aX.mp hk' with z | z
      ·rcases aX.mp z with z | z
       ·obtain ⟨h1,h2⟩:=rR.mp z
        obtain ⟨s,hs⟩:=cN.mp h2
        have q1:=(W.hh k s h1 hs).2.1
        have q2:=W.hn c hcn hcf
        exact .inr (by omega)
       ·exact .inl z
      ·rw [sp] at sP
       exact .inr ((jC.mp sP).2.2 k (bM.mp z).1 c aO)
     obtain ⟨r',r1,r2,r3⟩:=Ew (show M ≤ 1000 by omega) (Rch.room W hB pt I hc hcn hcf hdn hA
      (fun k hk'=>⟨bf _ (aU _ hk'),hH k r (by unfold s0;rw [if_pos hk'])⟩)
      (fun k k1 k2=>⟨bf _ (bf _ (rR.mpr ⟨k1,by rw [k2];rfl⟩)),hH k r (by
       unfold s0
       by_cases z:k ∈ t++[w]
       ·rw [if_pos z]
       ·rw [if_neg z];exact k2)⟩))
     have sc:seat c=none:=I.out c hc
     have a1:=vf (fun p=>hD (seat p)) hcn
     rw [sc] at a1
     have a1:pAt ((aH L.length).map fun p=>hD (seat p)) (c:Int)=some .none:=a1
     have nN:isNone .none=true:=rfl
     have p1:=Iu (l:=(aH L.length).map fun p=>hD (seat p)) (by rw [aJ,bB]) hcn
     have p2:=Iu (l:=(aH M).map fun s:Nat=>PyData.int (fs s)) (by rw [aJ,bB]) r1
     have s1:=yW (n:=L.length) (c:=c) (d:=.int (r':Int)) (fun p=>hD (seat p))
     have s2:=yW (n:=M) (c:=r') (d:=.int (ek L c)) (fun s:Nat=>PyData.int (fs s))
     refine ⟨_,[some (.d (.list (L.map yD))),some (.d (.list ((aH L.length).map fun k=>hD (s0 L r w t k)))),some (.d (.list ((aH M).map fun s:Nat=>PyData.int (f0 L r w f s)))),some (.d (.list (((aH L.length).map fun p=>hD (seat p)).set c (.int (r':Int))))),some (.d (.list (((aH M).map fun s:Nat=>PyData.int (fs s)).set r' (.int (ek L c))))),some (.d (.int (c:Int))),some (.d (.int (r':Int)))],rfl,.inl ?_,?_⟩
     ·generalize (aH L.length).map (fun p=>hD (seat p))=SQ at *
      generalize (aH L.length).map (fun k=>hD (s0 L r w t k))=SP at *
      generalize (aH M).map (fun s:Nat=>PyData.int (fs s))=FF at *
      generalize (aH M).map (fun s:Nat=>PyData.int (f0 L r w f s))=FB at *
      simp only [EV,reduceIte,au,aA,ao,aq,aB,aC,aD,a1,nN,ayc,at0,at1,r3,p1,p2,aL]
     ·refine ⟨fun p=>if p=c then some r' else seat p,fun x=>if x=r' then ek L c else fs x,some (.d (.int (c:Int))),some (.d (.int (r':Int))),?_,fun p s hp=>?_,?_,fun p hp=>?_,?_⟩
      ·rw [et,mX,show ([c].filter fun k=>!decide (k ∈ t++[w]))=[c] by rw [iZ (by rw [dFa ct];rfl)];rfl,← fZ]
       exact I.step hc r1 r2 (lt c hcn)
      ·have:p ≠ c:=fun z=>by
        unfold s0 at hp
        rw [z,if_neg ct,hcf] at hp
        cases hp
       show (if p=c then some r' else seat p)=_
       rw [if_neg this]
       exact hH p s hp
      ·show ek L w ≤ if r=r' then ek L c else fs r
       by_cases z:r=r'
       ·rw [if_pos z]
        have:=lt c hcn
        rw [← z] at r2
        omega
       ·rw [if_neg z];exact hF
      ·have hp:(if p=c then some r' else seat p)=some r:=hp
       by_cases z:p=c
       ·rw [if_pos z] at hp
        injection hp with hp
        rw [hp] at r2
        rw [z]
        exact .inr (.inr (by omega))
       ·rw [if_neg z] at hp;exact hR p hp
      ·rw [s1,s2]
       have q1:(fun p=>if p=c then PyData.int (r':Int) else hD (seat p))=fun p=>hD (if p=c then some r' else seat p):=by
        funext p
        by_cases z:p=c
        ·rw [if_pos z,if_pos z];rfl
        ·rw [if_neg z,if_neg z]
       have q2:(fun x:Nat=>if x=r' then PyData.int (ek L c) else PyData.int (fs x))=fun x=>PyData.int (if x=r' then ek L c else fs x):=by
        funext x
        by_cases z:x=r'
        ·rw [if_pos z,if_pos z]
        ·rw [if_neg z,if_neg z]
       rw [q1,q2])
 rw [aJ,jL] at I
 have all:∀ p,p < L.length→p ∈ hel L++(t++[w])++P.filter fun k=>!decide (k ∈ t++[w]):=fun p hp=>by
  by_cases ct:p ∈ t++[w]
  ·exact bf _ (aU _ ct)
  ·cases z:hk L p with
   | some s=>exact bf _ (bf _ (rR.mpr ⟨hp,by rw [z];rfl⟩))
   | none =>
    refine aU _ (bM.mpr ⟨pP.mem_iff.mpr (bM.mpr ⟨aR.mpr hp,?_⟩),by rw [dFa ct];rfl⟩)
    have z:(tAt L p).2.2=none:=z
    rw [z];rfl
 refine ⟨seat,?_,fun p hp=>?_,hH,fun p q hp hq ne hs=>I.dj p (all p hp) q (all q hq) ne hs,hR⟩
 ·have fl:flats ((aH L.length).map fun p=>hD (seat p))=true:=iw _ (fun p=>by cases seat p <;> rfl) _
  unfold qY
  simp only [EV,reduceIte,au,aA,ao,aq,aB,aC,aD,eP]
  rw [e]
  simp only [EV,reduceIte,au,aA,ao,aq,aB,aC,aD,m9,fl]
 ·obtain ⟨s,h1,h2,_⟩:=I.inn p (all p hp)
  exact ⟨s,h1,h2⟩
end
section
variable {L:List Ty} {M:Nat} {now:Int}
structure Pn (L:List Ty) (M:Nat) (rr:Nat→Nat):Prop where
 lt:∀ k,k < L.length→rr k < M
 held:∀ k r,k < L.length→hk L k=some r→rr k=r
 dj:∀ p q,p < L.length→q < L.length→p ≠ q→rr p=rr q→ek L p ≤ bk L q∨ek L q ≤ bk L p
theorem Pn.pk {rr:Nat→Nat} (P:Pn L M rr):∀ i,i < L.length→Pk L M (plD L.length fun k=>(rr k:Int)) i:=fun i hi=>by
 have g:∀ k,k < L.length→(plD L.length fun k=>(rr k:Int))[k]? = some (.int (rr k:Int)):=fun k hk'=>by
  unfold plD
  rw [aN,bU hk'];rfl
 have:=P.lt i hi
 refine ⟨(rr i:Int),g i hi,by omega,by omega,fun r hr=>by rw [P.held i r hi hr],fun k hk' z=>?_⟩
 have hkL:k < L.length:=by omega
 obtain ⟨z1,z2,z3⟩:=z
 rw [g k hkL,g i hi] at z1
 have z1:(rr k:Int)=(rr i:Int):=by
  injection z1 with z1
  injection z1
 rcases P.dj k i hkL hi (by omega) (by omega) with w | w <;> omega
theorem W6 (g:FG) (c:FT) (e:FE) (hg:g=gNl 0) (hc:c=D3.jR) (he:e=cV (dOp gIx (aF 0) (dC (.int 2)))) (δ0:DS):d_ g c e (jx 1 [] δ0) (L.map yD)=some ((aH L.length).map fun k=>hD (hk L k)):=by
 rw [lK,hg,hc,he]
 exact xg (fun k=>yD (tAt L k)) (fun k=>hD (hk L k)) (aH L.length) fun k _=>⟨[some (.d (yD (tAt L k)))],rfl,rfl,by
  have fl:flat (hD (tAt L k).2.2)=true:=by cases (tAt L k).2.2 <;> rfl
  unfold yD hk
  simp only [EV,reduceIte,au,aA,ao,aq,aB,aC,aD,at2,fl]⟩
theorem Ut (n:Nat) (g:Nat→Int):(plD n g).length=n:=by unfold plD;rw [aJ,bB]
theorem Ad (ok:TOk L M now) (hM:M ≤ 12) {w r:Nat} {f:Nat→Int} (ef:bY [.list (L.map yD),.int (M:Int),.int now]=some (.list ((aH M).map fun r:Nat=>PyData.int (f r)))) (hw:w < L.length) (hn:hk L w=none) (hr:r < M) (hf:∀ s,s < M→(∃ k,k < L.length∧hk L k=some s∧f s=ek L k)∨((∀ k,k < L.length→hk L k ≠ some s)∧f s=now))
 (hB:f r ≤ bk L w) {t:List Nat} (pt:Pt L M w (f r) t (bk L w)) (tl:t.length ≤ 24) :
 ∃ rr:Nat→Nat,lX [.list (L.map yD),.int (M:Int),.int now,.int (w:Int),.int (r:Int),.list (nD t)]=some (.list (plD L.length fun k=>(rr k:Int)))∧Pn L M rr∧rr w=r∧∀ k,k < L.length→hk L k=none→bk L k < bk L w→(rr k=r↔k ∈ t):=by
 have l24:=ok.len
 have W:=wd ok hw hn hr hf
 obtain ⟨seat,es,q1,q2,q3,q4⟩:=Qe ok hM hw hn hr hf hB pt
 have sl:(aH L.length).map (fun p=>hD (seat p))=plD L.length fun p=>(((seat p).getD 0:Nat):Int):=QG fun p hp=>by
  obtain ⟨s,hs,_⟩:=q1 p hp
  show hD (seat p)=PyData.int (((seat p).getD 0:Nat):Int)
  rw [hs];rfl
 rw [sl] at es
 have inT:∀ k,k ∈ t++[w]→k < L.length:=fun k hk'=>by
  rcases aX.mp hk' with z | z
  ·exact (pt.mem W k z).1.1
  ·rw [aK.mp z];exact hw
 have sr:∀ k,k ∈ t++[w]→seat k=some r:=fun k hk'=>q2 k r (by unfold s0;rw [if_pos hk'])
 have noT:∀ k,hk L k ≠ none→k ∉ t++[w]:=fun k h1 h2=>by
  rcases aX.mp h2 with z | z
  ·exact h1 (pt.mem W k z).1.2.2.1
  ·rw [aK.mp z] at h1;exact h1 hn
 refine ⟨fun p=>(seat p).getD 0,?_,⟨fun k hk'=>?_,fun k s hk' hs=>?_,fun p q hp hq ne e=>q3 p q hp hq ne ?_⟩,?_,fun k k1 k2 k3=>?_⟩
 ·have C:=fun δ0=>W6 (L:=L) ((gNl 0)) ((D3.jR)) ((cV (dOp gIx (aF 0) (dC (.int 2))))) rfl rfl rfl δ0
  have len:(L.map yD).length ≤ 100000:=by rw [aJ];omega
  have cat:ql (.list (nD t)) (.list [.int (w:Int)])=some (.list (nD (t++[w]))):=by
   rw [yS,if_pos (by unfold nD;rw [aJ];show t.length + 1 ≤ _;omega)]
   unfold nD
   rw [cI]
   rfl
  have aw:=ay hw
  obtain ⟨δ',e,u7,rfl⟩:=jN (g:=(gNl 7)) (b:=(tG 6 (aF 7) (aF 4)))
   (fun i δ=>∃ u7:Option U,δ=[some (.d (.list (L.map yD))),some (.d (.int (M:Int))),some (.d (.int now)),some (.d (.int (w:Int))),some (.d (.int (r:Int))),some (.d (.list (nD t))),some (.d (.list ((aH L.length).map fun k=>hD (if k ∈ (t++[w]).take i then some r else hk L k)))),u7,none]) (nD (t++[w]))
   [some (.d (.list (L.map yD))),some (.d (.int (M:Int))),some (.d (.int now)),some (.d (.int (w:Int))),some (.d (.int (r:Int))),some (.d (.list (nD t))),some (.d (.list ((aH L.length).map fun k=>hD (hk L k)))),none,none] ⟨none,by rw [List.take_zero];simp only [fL,if_false]⟩ (by
    rintro i d δ hd ⟨u7,rfl⟩
    unfold nD at hd
    rw [aN] at hd
    cases hi:(t++[w])[i]? with
    | none=>rw [hi] at hd;cases hd
    | some c =>
     rw [hi] at hd
     cases hd
     have et:(t++[w]).take (i + 1)=(t++[w]).take i++[c]:=by rw [jz,hi];rfl
     have hc:=inT c (cZ hi)
     have p1:=Iu (l:=(aH L.length).map fun k=>hD (if k ∈ (t++[w]).take i then some r else hk L k)) (by rw [aJ,bB]) hc
     have s1:=yW (n:=L.length) (c:=c) (d:=.int (r:Int)) (fun k=>hD (if k ∈ (t++[w]).take i then some r else hk L k))
     refine ⟨_,[some (.d (.list (L.map yD))),some (.d (.int (M:Int))),some (.d (.int now)),some (.d (.int (w:Int))),some (.d (.int (r:Int))),some (.d (.list (nD t))),some (.d (.list (((aH L.length).map fun k=>hD (if k ∈ (t++[w]).take i then some r else hk L k)).set c (.int (r:Int))))),some (.d (.int (c:Int))),none],rfl,.inl ?_,some (.d (.int (c:Int))),?_⟩
     ·generalize (aH L.length).map (fun k=>hD (if k ∈ (t++[w]).take i then some r else hk L k))=SQ at *
      simp only [EV,reduceIte,au,aA,ao,aq,aB,aC,aD,p1,aL]
     ·rw [s1,et]
      have:(fun p=>if p=c then PyData.int (r:Int) else hD (if p ∈ (t++[w]).take i then some r else hk L p))=fun k=>hD (if k ∈ (t++[w]).take i++[c] then some r else hk L k):=by
       funext k
       by_cases z:k=c
       ·rw [if_pos z,if_pos (aU _ (by rw [z];exact aK.mpr rfl))];rfl
       ·rw [if_neg z]
        by_cases y:k ∈ (t++[w]).take i
        ·rw [if_pos y,if_pos (bf _ y)]
        ·rw [if_neg y,if_neg (fun x=>by
          rcases aX.mp x with x | x
          ·exact y x
          ·exact z (aK.mp x))]
      rw [this])
  have lT:(nD (t++[w])).length=(t++[w]).length:=aJ _
  rw [lT,jL] at e
  have p2:=Iu (l:=(aH M).map fun s:Nat=>PyData.int (f s)) (by rw [aJ,bB]) hr
  have s2:=yW (n:=M) (c:=r) (d:=.int (ek L w)) (fun s:Nat=>PyData.int (f s))
  have e2:((aH M).map fun s:Nat=>PyData.int (f s)).set r (.int (ek L w))=(aH M).map fun s:Nat=>PyData.int (f0 L r w f s):=by
   rw [s2]
   congr 1
   funext s
   unfold f0
   by_cases z:s=r
   ·rw [if_pos z,if_pos z]
   ·rw [if_neg z,if_neg z]
  have fl:flats ((aH M).map fun s:Nat=>PyData.int (f s))=true:=iw _ (fun _=>rfl) _
  have ef:Com.bY _=_:=ef
  unfold s0 at es
  unfold lX
  generalize hSQ:(aH L.length).map (fun k=>hD (if k ∈ t++[w] then some r else hk L k))=SQ at *
  generalize hSP:(aH L.length).map (fun k=>hD (hk L k))=SP at *
  generalize hFB:(aH M).map (fun s:Nat=>PyData.int (f0 L r w f s))=FB at *
  generalize hFF:(aH M).map (fun s:Nat=>PyData.int (f s))=FF at *
  simp only [EV,reduceIte,au,aA,ao,aq,aB,aC,aD,len,C,zl1,cat]
  rw [e]
  simp only [EV,reduceIte,au,aA,ao,aq,aB,aC,aD,ef,m9,fl,aw,at1,p2,aL,e2,es]
 ·obtain ⟨s,hs,hsM⟩:=q1 k hk'
  show (seat k).getD 0 < M
  rw [hs];exact hsM
 ·show (seat k).getD 0=s
  rw [q2 k s (by unfold s0;rw [if_neg (noT k (by rw [hs];exact fun z=>nomatch z))];exact hs)];rfl
 ·obtain ⟨s,hs,_⟩:=q1 p hp
  obtain ⟨s',hs',_⟩:=q1 q hq
  have e:(seat p).getD 0=(seat q).getD 0:=e
  rw [hs,hs'] at e
  rw [hs,hs',show s=s' from e]
 ·show (seat w).getD 0=r
  rw [sr w (aU _ (aK.mpr rfl))];rfl
 ·obtain ⟨s,hs,_⟩:=q1 k k1
  show (seat k).getD 0=r↔k ∈ t
  rw [hs]
  constructor
  ·intro z
   have z:s=r:=z
   rw [z] at hs
   rcases q4 k hs with y | y | y
   ·rcases aX.mp y with x | x
    ·exact x
    ·rw [aK.mp x] at k3;omega
   ·rw [k2] at y;cases y
   ·have:=W.lt w hw
    omega
  ·intro z
   have:=sr k (bf _ z)
   rw [hs] at this
   injection this
theorem Cy (ok:TOk L M now) {w r:Nat} {f h:Nat→Int} (hw:w < L.length) (hn:hk L w=none) (hr:r < M) (hf:∀ s,s < M→(∃ k,k < L.length∧hk L k=some s∧f s=ek L k)∨((∀ k,k < L.length→hk L k ≠ some s)∧f s=now))
 (hv:Xg.Valid (ssT L now) h) (hb:∀ k,k < L.length→0 ≤ h k∧h k < (M:Int)) (hh:∀ k s,k < L.length→hk L k=some s→h k=(s:Int)) (e:h w=(r:Int)) :
 f r ≤ bk L w∧∀ S,Sok L M w (f r) S→(∀ x,f r ≤ x→x < bk L w→(d7 S x).isSome=true→∀ s ∈ stp L M w x,(d7 S s.1).isSome=true)→(d7 S (bk L w)).isSome=true:=by
 have W:=wd ok hw hn hr hf
 obtain ⟨h1,h2⟩:=Rch.reach W (h:=h) (fun k l k1 l1 kl a b=>hv k l k1 l1 kl a b) hb hh e
 refine ⟨h1,fun S so cl=>h2 (fun x=>(d7 S x).isSome=true) (by show (d7 S (f r)).isSome=true;rw [so.b];rfl) fun x x1 x2 x3=>⟨fun c=>?_,fun k g kx=>?_⟩⟩
 ·exact cl x x1 x2 x3 (x + 1,none) (vK.mpr ⟨by rw [Ez];exact c,rfl⟩)
 ·exact cl x x1 x2 x3 (ek L k,some k) (vK.mpr ⟨g,kx,rfl⟩)
theorem Qf (ok:TOk L M now) (hM:M ≤ 12) {w r:Nat} {f:Nat→Int} (hw:w < L.length) (hn:hk L w=none) (hr:r < M)
 (ef:bY [.list (L.map yD),.int (M:Int),.int now]=some (.list ((aH M).map fun s:Nat=>PyData.int (f s)))) (hf:∀ s,s < M→(∃ k,k < L.length∧hk L k=some s∧f s=ek L k)∨((∀ k,k < L.length→hk L k ≠ some s)∧f s=now))
 (hB:f r ≤ bk L w) (fB:0 ≤ f r) {S:List (Int × D)} (eS:fP [.list (L.map yD),.int (M:Int),.int (w:Int),.int (f r)]=some (dtv S)) (so:Sok L M w (f r) S) (kg:(d7 S (bk L w)).isSome=true) :
 ∃ (t:List Nat) (rr:Nat→Nat),eV [.list (L.map yD),.int (M:Int),.int now,.int (w:Int),.int (r:Int)]=some (.tuple [.str "yes", .list (nD t),.list (plD L.length fun k=>(rr k:Int))])∧Pn L M rr∧rr w=r ∧
  (∀ k,k < L.length→hk L k=none→bk L k < bk L w→(rr k=r↔k ∈ t))∧t.Pairwise (fun a b=>bk L a < bk L b)∧(∀ k ∈ t,k < L.length∧hk L k=none∧bk L k < bk L w)∧t.length < L.length:=by
 have l24:=ok.len
 have W:=wd ok hw hn hr hf
 have g400:bk L w ≤ 400:=by
  have h1:=(ok.bd _ (gj hw)).2
  have h2:=W.lt w hw
  have h1:ek L w ≤ 400:=h1
  omega
 obtain ⟨t,et,pt⟩:=Lp so kg (by omega)
 have mt:∀ k ∈ t,k < L.length∧hk L k=none∧bk L k < bk L w:=fun k hk'=>by
  obtain ⟨g,_,g2⟩:=pt.mem W k hk'
  have:=W.lt k g.1
  exact ⟨g.1,g.2.2.1,by omega⟩
 have pw:t.Pairwise fun a b=>bk L a < bk L b:=List.Pairwise.imp_of_mem (fun {a b} ha hb' q=>by
  have:=W.lt a (mt a ha).1
  omega) (pt.pw W)
 have nd:(w :: t).Nodup:=cD.mpr ⟨fun z=>(pt.mem W w z).1.2.1 rfl,pw.imp fun {a b} q z=>by rw [z] at q;omega⟩
 have tl:=List.Nodup.length_le_of_subset (l₂:=aH L.length) nd fun k hk'=>by
  rcases bA.mp hk' with rfl | z
  ·exact aR.mpr hw
  ·exact aR.mpr (mt k z).1
 rw [bN,bB] at tl
 obtain ⟨rr,er,P,rw',rt⟩:=Ad ok hM ef hw hn hr hf hB pt (by omega)
 refine ⟨t,rr,?_,P,rw',rt,pw,mt,by omega⟩
 have c1:=xM ok hw hn
 have c2:Com.dI _=_:=vI hr
 have aw:=ay hw
 have ab:=vf (n:=M) (c:=r) (fun s:Nat=>PyData.int (f s)) hr
 have z1:decide (f r > bk L w)=false:=dFa (by omega)
 have ni:=yZ (k:=bk L w) so.a
 rw [kg] at ni
 have fl:flats (nD t)=true:=iw _ (fun _=>rfl) _
 have ef:Com.bY _=_:=ef
 unfold eV
 simp only [EV,reduceIte,au,aA,ao,aq,aB,aC,aD,c1,c2,ef,ab,aw,at0,z1,eS,ni,bR,et,m9,fl,er,zl3]
theorem Uu:ly 1 (.str "yes"):=⟨by decide +kernel,by simp [PyData.depth]⟩
end
theorem Lq (a b c d:Int):mK [.tuple [.int a,.int b],.tuple [.int c,.int d]]=some (.bool (!decide ((if d < b then d else b) ≤ (if c > a then c else a)))):=by
 unfold mK Com.mK Com.oR
 generalize hx:(if d < b then d else b)=x
 generalize hy:(if c > a then c else a)=y
 by_cases z:x ≤ y
 ·have nn:isNone .none=true:=rfl
  simp only [EV,reduceIte,au,aA,ao,aq,aB,aC,aD,at0,at1,Ck,Cm,hx,hy,dTr z,nn]
 ·have nn:isNone (.tuple [.int y,.int x])=false:=rfl
  simp only [EV,reduceIte,au,aA,ao,aq,aB,aC,aD,at0,at1,Ck,Cm,hx,hy,dFa z,nn,fli,zl2]
theorem Lr {L:List Ty} {M:Nat} {k:Nat} {v:Int}:∃ b,cP [.tuple [.int (bk L k),.int (ek L k),hD (hk L k)],.int v,.int (M:Int)]=some (.bool b)∧(b=true↔(∀ r,hk L k=some r→(r:Int)=v)∧(hk L k=none→0 ≤ v∧v < (M:Int))):=by
 cases hh:hk L k with
 | none =>
  have nn:isNone (hD none)=true:=rfl
  by_cases c1:0 ≤ v
  ·by_cases c2:v < (M:Int)
   ·refine ⟨true,?_,⟨fun _=>⟨fun _ z=>(by cases z),fun _=>⟨c1,c2⟩⟩,fun _=>rfl⟩⟩
    unfold cP Com.cP
    simp only [EV,reduceIte,au,aA,ao,aq,aB,aC,aD,at2,nn,dTr c1,dTr c2]
   ·refine ⟨false,?_,⟨fun z=>(by cases z),fun z=>absurd (z.2 rfl).2 c2⟩⟩
    unfold cP Com.cP
    simp only [EV,reduceIte,au,aA,ao,aq,aB,aC,aD,at2,nn,dTr c1,dFa c2]
  ·refine ⟨false,?_,⟨fun z=>(by cases z),fun z=>absurd (z.2 rfl).1 c1⟩⟩
   unfold cP Com.cP
   simp only [EV,reduceIte,au,aA,ao,aq,aB,aC,aD,at2,nn,dFa c1]
 | some r =>
  have nn:isNone (hD (some r))=false:=rfl
  have eq:gEq (.int v) (hD (some r))=some (.bool (decide (v=(r:Int)))):=rfl
  refine ⟨decide (v=(r:Int)),?_,⟨fun z=>⟨fun r' z'=>(by cases z';exact (of_decide_eq_true z).symm),fun z'=>(by cases z')⟩,fun z=>dTr (z.1 r rfl).symm⟩⟩
  unfold cP Com.cP
  simp only [EV,reduceIte,au,aA,ao,aq,aB,aC,aD,at2,nn,eq]
theorem Iz {a b c d:Int} (h1:a < b) (h2:c < d):(!decide ((if d < b then d else b) ≤ (if c > a then c else a)))=true↔a < d∧c < b:=by
 rw [tu,decide_eq_false_iff_not]
 split <;> split <;> constructor <;> intro h <;> (try constructor) <;> omega
theorem E_ {L:List Ty} {M:Nat} {now:Int} (ok:TO0 L M now) {ds:List D} (hd:ds.length=L.length) (hI:∀ k,k < L.length→∃ w,ds[k]? = some (.int w)) {i:Nat} (hi:i < L.length) :
 ∃ b,g_ [.list (L.map yD),.list ds,.int (i:Int)]=some (.bool b)∧(b=true↔∀ k,k < i→¬ (ds[k]? = ds[i]?∧bk L k < ek L i∧bk L i < ek L k)):=by
 have l24:=ok.len
 obtain ⟨v,hv⟩:=hI i hi
 have a0:pAt ds (i:Int)=some (.int v):=by rw [lJ];exact hv
 have a1:=ay hi
 have oi:bk L i < ek L i:=(ok.ok _ (gj hi)).1.1
 have F:=vH (v:=.bool false) (g:=(gNl 3)) (b:=(sIf (D3.o9 (aY (dOp gEq (dOp gIx (aF 1) (aF 3)) (dOp gIx (aF 1) (aF 2)))) (aY (dCall mK (aG (dCall cM (aG (dOp gIx (aF 0) (aF 3)) (aV))) (aG (dCall cM (aG (dOp gIx (aF 0) (aF 2)) (aV))) (aV)))))) (cT (dC (.bool false))) (dM)))
  (fun _ δ=>∃ x,δ=[some (.d (.list (L.map yD))),some (.d (.list ds)),some (.d (.int (i:Int))),x]) (fun k=>¬ (ds[k]? = ds[i]?∧bk L k < ek L i∧bk L i < ek L k)) (fM 0 (i:Int))
  [some (.d (.list (L.map yD))),some (.d (.list ds)),some (.d (.int (i:Int))),none] ⟨none,rfl⟩ (by
   rintro k d δ hd'' _ ⟨y,rfl⟩
   obtain ⟨hk',rfl⟩:=z6 hd''
   have hk':k < i:=by omega
   obtain ⟨w,hw⟩:=hI k (by omega)
   have b0:pAt ds (k:Int)=some (.int w):=by rw [lJ];exact hw
   have b1:=ay (L:=L) (k:=k) (by omega)
   have ok':bk L k < ek L k:=(ok.ok _ (gj (by omega))).1.1
   have mt:=Lq (bk L k) (ek L k) (bk L i) (ek L i)
   have mi:=Iz ok' oi
   refine ⟨[some (.d (.list (L.map yD))),some (.d (.list ds)),some (.d (.int (i:Int))),some (.d (.int (k:Int)))],rfl,?_⟩
   generalize (!decide ((if ek L i < ek L k then ek L i else ek L k) ≤ (if bk L i > bk L k then bk L i else bk L k)))=m at mt mi
   rw [hw,hv]
   by_cases d1:w=v
   ·cases m with
    | true =>
     refine .inr ⟨fun z=>z ⟨by rw [d1],mi.mp rfl⟩,?_⟩
     simp only [EV,reduceIte,au,aA,ao,aq,aB,aC,aD,a0,b0,a1,b1,dTr d1,mV,mt]
    | false =>
     refine .inl ⟨fun z=>(by have:=mi.mpr z.2;cases this),[some (.d (.list (L.map yD))),some (.d (.list ds)),some (.d (.int (i:Int))),some (.d (.int (k:Int)))],?_,_,rfl⟩
     simp only [EV,reduceIte,au,aA,ao,aq,aB,aC,aD,a0,b0,a1,b1,dTr d1,mV,mt]
   ·refine .inl ⟨fun z=>d1 (by have:=z.1;injection this with this;injection this),[some (.d (.list (L.map yD))),some (.d (.list ds)),some (.d (.int (i:Int))),some (.d (.int (k:Int)))],?_,_,rfl⟩
    simp only [EV,reduceIte,au,aA,ao,aq,aB,aC,aD,a0,b0,dFa d1])
 have r0:=Py i (by omega)
 rw [n6,f9] at F
 rcases F with ⟨δ',e,⟨x,rfl⟩,al⟩ | ⟨e,j,j1,j2⟩
 ·refine ⟨true,?_,⟨fun _=>al,fun _=>rfl⟩⟩
  unfold g_ Com.g_
  simp only [EV,reduceIte,au,aA,ao,aq,aB,aC,aD,r0]
  rw [e]
  simp only [EV,reduceIte,au,aA,ao,aq,aB,aC,aD]
 ·refine ⟨false,?_,⟨fun z=>(by cases z),fun z=>absurd (z j j1) j2⟩⟩
  unfold g_ Com.g_
  simp only [EV,reduceIte,au,aA,ao,aq,aB,aC,aD,r0]
  rw [e]
  simp only [EV,reduceIte,au,aA,ao,aq,aB,aC,aD]
theorem IK {L:List Ty} {M:Nat} {now:Int} (ok:TO0 L M now) {ds:List D} (hd:ds.length=L.length) (hI:∀ k,k < L.length→∃ w,ds[k]? = some (.int w)) (hw:eN [.list ds]=some (.bool true)) :
 ∃ b,jP [.list (L.map yD),.int (M:Int),.int now,.list ds]=some (.bool b)∧(b=true↔∀ i,i < L.length→Pk L M ds i):=by
 have l24:=ok.len
 have en:kY (L.map yD)=(aH L.length).map fun p:Nat=>PyData.tuple [.int (p:Int),.tuple [.int (bk L p),.int (ek L p),hD (hk L p)]]:=by
  rw [lK,Aa]
  rfl
 have F:=vH (v:=.bool false) (g:=(gTn 2 (fj (gNl 4) (fj (gNl 5) (mz))))) (b:=(sIf (D3.tOr (D3.oH (aY (dCall cP (aG (aF 5) (aG (dOp gIx (aF 3) (aF 4)) (aG (aF 1) (aV))))))) (D3.oH (aY (dCall g_ (aG (aF 0) (aG (aF 3) (aG (aF 4) (aV)))))))) (cT (dC (.bool false))) (dM)))
  (fun _ δ=>∃ x y,δ=[some (.d (.list (L.map yD))),some (.d (.int (M:Int))),some (.d (.int now)),some (.d (.list ds)),x,y]) (Pk L M ds) ((aH L.length).map fun p:Nat=>PyData.tuple [.int (p:Int),.tuple [.int (bk L p),.int (ek L p),hD (hk L p)]])
  [some (.d (.list (L.map yD))),some (.d (.int (M:Int))),some (.d (.int now)),some (.d (.list ds)),none,none] ⟨none,none,rfl⟩ (by
   rintro i d δ hd' _ ⟨x,y,rfl⟩
   rw [aN] at hd'
   by_cases hi:i < L.length
   case neg=>rw [bD (by simpa using hi)] at hd';cases hd'
   rw [bU hi] at hd'
   cases hd'
   obtain ⟨v,hv⟩:=hI i hi
   have a0:pAt ds (i:Int)=some (.int v):=by rw [lJ];exact hv
   obtain ⟨b1,e1,i1⟩:=Lr (L:=L) (M:=M) (k:=i) (v:=v)
   obtain ⟨b2,e2,i2⟩:=E_ ok hd hI hi
   have pk:Pk L M ds i↔b1=true∧b2=true:=by
    rw [i1,i2]
    constructor
    ·rintro ⟨w,z1,z2,z3,z4,z5⟩
     rw [hv] at z1
     cases z1
     exact ⟨⟨z4,fun _=>⟨z2,z3⟩⟩,z5⟩
    ·rintro ⟨⟨z1,z2⟩,z3⟩
     refine ⟨v,hv,?_,?_,z1,z3⟩
     ·cases hh:hk L i with
      | none=>exact (z2 hh).1
      | some r=>have:=z1 r hh;omega
     ·cases hh:hk L i with
      | none=>exact (z2 hh).2
      | some r =>
       have:=z1 r hh
       have:=((ok.ok _ (gj hi)).2.1 r hh).1
       omega
   refine ⟨[some (.d (.list (L.map yD))),some (.d (.int (M:Int))),some (.d (.int now)),some (.d (.list ds)),some (.d (.int (i:Int))),some (.d (.tuple [.int (bk L i),.int (ek L i),hD (hk L i)]))],rfl,?_⟩
   rw [pk]
   cases b1 with
   | false =>
    refine .inr ⟨fun z=>(by cases z.1),?_⟩
    simp only [EV,reduceIte,au,aA,ao,aq,aB,aC,aD,a0,e1]
   | true =>
    cases b2 with
    | false =>
     refine .inr ⟨fun z=>(by cases z.2),?_⟩
     simp only [EV,reduceIte,au,aA,ao,aq,aB,aC,aD,a0,e1,e2]
    | true =>
     refine .inl ⟨⟨rfl,rfl⟩,[some (.d (.list (L.map yD))),some (.d (.int (M:Int))),some (.d (.int now)),some (.d (.list ds)),some (.d (.int (i:Int))),some (.d (.tuple [.int (bk L i),.int (ek L i),hD (hk L i)]))],?_,_,_,rfl⟩
     simp only [EV,reduceIte,au,aA,ao,aq,aB,aC,aD,a0,e1,e2])
 have eL:gNe (.int (ds.length:Int)) (.int (L.length:Int))=some (.bool false):=by rw [QB,hd];simp
 rw [aJ,bB] at F
 have ck:=Cu ok
 rcases F with ⟨δ',e,⟨x,y,rfl⟩,al⟩ | ⟨e,j,j1,j2⟩
 ·refine ⟨true,?_,⟨fun _=>al,fun _=>rfl⟩⟩
  unfold jP
  simp only [EV,reduceIte,au,aA,ao,aq,aB,aC,aD,ck,hw,Le,eL,en]
  rw [e]
  simp only [EV,reduceIte,au,aA,ao,aq,aB,aC,aD]
 ·refine ⟨false,?_,⟨fun z=>(by cases z),fun z=>absurd (z j j1) j2⟩⟩
  unfold jP
  simp only [EV,reduceIte,au,aA,ao,aq,aB,aC,aD,ck,hw,Le,eL,en]
  rw [e]
  simp only [EV,reduceIte,au,aA,ao,aq,aB,aC,aD]
section
variable {L:List Ty} {M:Nat} {now:Int}
def ks (S:List (Int × D)):List Int:=oK (S.map (·.1))
theorem uJ {S:List (Int × D)} {x:Int}:x ∈ ks S↔(d7 S x).isSome=true:=by
 unfold ks
 rw [(je _).mem_iff,Ac]
theorem W7 {S:List (Int × D)} (h:(S.map (·.1)).Nodup):(ks S).Pairwise (· < ·):=by
 have nd:(ks S).Nodup:=(je _).nodup_iff.mpr h
 refine ((nM _).and nd).imp fun {a b} q=>?_
 have:=q.1
 have:=q.2
 omega
theorem Sok.rg {w:Nat} {B:Int} {S:List (Int × D)} (h:Sok L M w B S) (hB:B ≤ bk L w) {x:Int} (hx:(d7 S x).isSome=true):B ≤ x∧x ≤ bk L w:=by
 obtain ⟨d,ed⟩:=cN.mp hx
 rcases h.c x d ed with ⟨rfl,_⟩ | ⟨y,p,_,y1,y2,y3,_,y5⟩
 ·exact ⟨eY _,hB⟩
 ·refine ⟨by omega,?_⟩
  cases p with
  | none =>
   have:x=y + 1:=y5.2
   omega
  | some k =>
   have h1:ek L k=x:=y5.2.2
   have h2:ek L k ≤ bk L w:=y5.1.2.2.2
   omega
theorem Sok.len {w:Nat} {B:Int} {S:List (Int × D)} (h:Sok L M w B S) (hB:B ≤ bk L w) (g4:bk L w ≤ B + 59):S.length ≤ 60:=by
 have:=List.Nodup.length_le_of_subset (l₂:=(aH 60).map fun k:Nat=>B + (k:Int)) h.nd fun x hx=>by
  obtain ⟨h1,h2⟩:=h.rg hB (Ac.mpr hx)
  exact cX.mpr ⟨(x - B).toNat,aR.mpr (by omega),by omega⟩
 rwa [aJ,aJ,bB] at this
theorem Ls {S:List (Int × D)} (hA:tvA S=true) (h:S.length < 64):tW [dtv S]=some (.list ((ks S).map .int)):=by
 unfold tW
 dsimp only
 rw [rN hA,aL,if_pos h]
 rfl
theorem W8:ly 1 (.str "no"):=⟨by decide +kernel,by simp [PyData.depth]⟩
theorem Qg (ok:TOk L M now) {w r:Nat} {f:Nat→Int} (hw:w < L.length) (hn:hk L w=none) (hr:r < M)
 (ef:bY [.list (L.map yD),.int (M:Int),.int now]=some (.list ((aH M).map fun s:Nat=>PyData.int (f s)))) (hB:bk L w < f r) :
 eV [.list (L.map yD),.int (M:Int),.int now,.int (w:Int),.int (r:Int)]=some (.tuple [.str "no", .list []]):=by
 have c1:=xM ok hw hn
 have c2:Com.dI _=_:=vI hr
 have aw:=ay hw
 have ab:=vf (n:=M) (c:=r) (fun s:Nat=>PyData.int (f s)) hr
 have z1:decide (f r > bk L w)=true:=dTr hB
 have ef:Com.bY _=_:=ef
 unfold eV
 simp only [EV,reduceIte,au,aA,ao,aq,aB,aC,aD,c1,c2,ef,ab,aw,at0,z1,zl0,zl2]
theorem Qh (ok:TOk L M now) {w r:Nat} {f:Nat→Int} (hw:w < L.length) (hn:hk L w=none) (hr:r < M)
 (ef:bY [.list (L.map yD),.int (M:Int),.int now]=some (.list ((aH M).map fun s:Nat=>PyData.int (f s)))) (hB:f r ≤ bk L w)
 {S:List (Int × D)} (eS:fP [.list (L.map yD),.int (M:Int),.int (w:Int),.int (f r)]=some (dtv S)) (hA:tvA S=true) (hl:S.length < 64) (kg:(d7 S (bk L w)).isSome=false) :
 eV [.list (L.map yD),.int (M:Int),.int now,.int (w:Int),.int (r:Int)]=some (.tuple [.str "no", .list ((ks S).map .int)]):=by
 have c1:=xM ok hw hn
 have c2:Com.dI _=_:=vI hr
 have aw:=ay hw
 have ab:=vf (n:=M) (c:=r) (fun s:Nat=>PyData.int (f s)) hr
 have z1:decide (f r > bk L w)=false:=dFa (by omega)
 have ef:Com.bY _=_:=ef
 have ni:=yZ (k:=bk L w) hA
 rw [kg] at ni
 have ts:=Ls hA hl
 unfold eV
 simp only [EV,reduceIte,au,aA,ao,aq,aB,aC,aD,c1,c2,ef,ab,aw,at0,z1,eS,ni,cO,ts,zl2]
end
section
variable {L:List Ty} {M:Nat} {now:Int}
theorem inI (cs:List Int) (x:Int):gIn (.int x) (.list (cs.map .int))=some (.bool (decide (x ∈ cs))):=by
 show (if (SeqAt.shaped (.int x) && SeqAt.shaped (.list (cs.map .int)))=true then some (PyData.bool ((cs.map PyData.int).any fun z=>PyData.eqv z (.int x))) else none)=_
 rw [shaped_ints cs,if_pos (by rfl),List.any_map]
 congr 2
 rw [Bool.eq_iff_iff,List.any_eq_true,decide_eq_true_eq]
 constructor
 ·rintro ⟨y,h1,h2⟩
  have h2:PyData.eqv (.int y) (.int x)=true:=h2
  have:y=x:=by simpa [PyData.eqv] using h2
  rw [← this];exact h1
 ·intro h
  exact ⟨x,h,by show PyData.eqv (.int x) (.int x)=true;simp [PyData.eqv]⟩
theorem Fb (cs:List Int) (x:Int):gZ (.int x) (.list (cs.map .int))=some (.bool (!decide (x ∈ cs))):=by
 have:=inI cs x
 unfold gIn at this
 unfold gZ
 dsimp only at this ⊢
 split at this
 ·next c =>
  rw [if_pos c]
  injection this with this
  injection this with this
  rw [this]
 ·cases this
end
section
variable {L:List Ty} {M:Nat} {now:Int}
def Cl (L:List Ty) (M w:Nat) (B:Int) (K:Int→Prop):Prop:=K B∧∀ x,B ≤ x→x < bk L w→K x→∀ s ∈ stp L M w x,K s.1
def Rc (L:List Ty) (M w:Nat) (B:Int):Prop:=B ≤ bk L w∧∀ K,Cl L M w B K→K (bk L w)
theorem Sok.sound {w:Nat} {B:Int} {S:List (Int × D)} (so:Sok L M w B S) {K:Int→Prop} (hK:Cl L M w B K):∀ (m:Nat) (x:Int),(x - B).toNat ≤ m→(d7 S x).isSome=true→K x:=by
 intro m
 induction m with
 | zero =>
  intro x hm hx
  obtain ⟨d,ed⟩:=cN.mp hx
  rcases so.c x d ed with ⟨rfl,_⟩ | ⟨y,p,_,y1,y2,_⟩
  ·exact hK.1
  ·omega
 | succ m ih =>
  intro x hm hx
  obtain ⟨d,ed⟩:=cN.mp hx
  rcases so.c x d ed with ⟨rfl,_⟩ | ⟨y,p,_,y1,y2,y3,y4,y5⟩
  ·exact hK.1
  ·exact hK.2 y y1 y3 (ih y (by omega) y4) _ (vK (s:=(x,p)).mpr y5)
theorem uK {w:Nat} {B:Int} {S:List (Int × D)} (hB:B ≤ bk L w) (so:Sok L M w B S) (cl:∀ x,B ≤ x→x < bk L w→(d7 S x).isSome=true→∀ s ∈ stp L M w x,(d7 S s.1).isSome=true):(d7 S (bk L w)).isSome=true↔Rc L M w B :=
 ⟨fun h=>⟨hB,fun K hK=>so.sound hK _ _ (bh _) h⟩,fun h=>h.2 (fun x=>(d7 S x).isSome=true) ⟨by show (d7 S B).isSome=true;rw [so.b];rfl,cl⟩⟩
def Sh (L:List Ty) (M w:Nat) (B:Int) (Q:List Int):Prop:=Q.Pairwise (· < ·)∧((bk L w < B∧Q=[])∨(B ≤ bk L w∧B ∈ Q∧(∀ x ∈ Q,B ≤ x∧x < bk L w)∧∀ x ∈ Q,∀ s ∈ stp L M w x,s.1 ∈ Q))
theorem Sh.no {w:Nat} {B:Int} {Q:List Int} (h:Sh L M w B Q):¬ Rc L M w B:=fun r=>by
 rcases h.2 with ⟨z,_⟩ | ⟨_,z1,z2,z3⟩
 ·have:=r.1
  omega
 ·have:=r.2 (fun x=>x ∈ Q) ⟨z1,fun x _ _ hx s hs=>z3 x hx s hs⟩
  have:=(z2 _ this).2
  omega
theorem uL (ok:TOk L M now) (hM:M ≤ 12) (n0:0 ≤ now) {w r:Nat} {f:Nat→Int} (hw:w < L.length) (hn:hk L w=none) (hr:r < M)
 (ef:bY [.list (L.map yD),.int (M:Int),.int now]=some (.list ((aH M).map fun s:Nat=>PyData.int (f s)))) (hf:∀ s,s < M→(∃ k,k < L.length∧hk L k=some s∧f s=ek L k)∨((∀ k,k < L.length→hk L k ≠ some s)∧f s=now)) (nf:now ≤ f r) :
 (Rc L M w (f r)∧∃ (t:List Nat) (rr:Nat→Nat),eV [.list (L.map yD),.int (M:Int),.int now,.int (w:Int),.int (r:Int)]=some (.tuple [.str "yes", .list (nD t),.list (plD L.length fun k=>(rr k:Int))])∧Pn L M rr∧rr w=r) ∨
 (¬ Rc L M w (f r)∧∃ Q:List Int,eV [.list (L.map yD),.int (M:Int),.int now,.int (w:Int),.int (r:Int)]=some (.tuple [.str "no", .list (Q.map .int)])∧Q.length ≤ 63∧Sh L M w (f r) Q):=by
 have W:=wd ok hw hn hr hf
 have g59:bk L w ≤ f r + 59:=by
  have h1:bk L w ≤ now + 59:=ok.nr _ (gj hw) hn
  omega
 have fB:0 ≤ f r:=by omega
 by_cases hB:f r ≤ bk L w
 ·obtain ⟨S,eS,so,cl⟩:=sU ok hw fB hB
  have ri:=uK hB so cl
  have len:=so.len hB g59
  cases kg:(d7 S (bk L w)).isSome with
  | true =>
   obtain ⟨t,rr,em,P,rw',_⟩:=Qf ok hM hw hn hr ef hf hB fB eS so kg
   exact .inl ⟨ri.mp kg,t,rr,em,P,rw'⟩
  | false =>
   have em:=Qh ok hw hn hr ef hB eS so.a (by omega) kg
   have hg:bk L w ∉ ks S:=fun z=>by rw [uJ,kg] at z;cases z
   have kl:(ks S).length=S.length:=by unfold ks;rw [(je _).length_eq,aJ]
   refine .inr ⟨fun z=>(by rw [← ri,kg] at z;cases z),ks S,em,by omega,W7 so.nd,.inr ⟨hB,uJ.mpr (by rw [so.b];rfl),fun x hx=>?_,fun x hx s hs=>uJ.mpr ?_⟩⟩
   ·obtain ⟨x1,x2⟩:=so.rg hB (uJ.mp hx)
    have:x ≠ bk L w:=fun z=>hg (z ▸ hx)
    omega
   ·obtain ⟨x1,x2⟩:=so.rg hB (uJ.mp hx)
    have:x ≠ bk L w:=fun z=>hg (z ▸ hx)
    exact cl x x1 (by omega) (uJ.mp hx) s hs
 ·have em:=Qg ok hw hn hr ef (by omega)
  exact .inr ⟨fun z=>hB z.1,[],em,by decide,.nil,.inl ⟨by omega,rfl⟩⟩
theorem GP (Q:List Int) (h:Q.length ≤ 100000):eN [.list (Q.map .int)]=some (.bool true):=by
 have C:∀ δ0,d_ (gNl 0) (D3.jR) (dCall fH (aG (aF 0) (aV))) (jx 1 [] δ0) (Q.map .int)=some (Q.map fun _=>PyData.bool true):=fun δ0 =>
  xg (fun k:Int=>PyData.int k) (fun _=>PyData.bool true) Q fun k _=>⟨[some (.d (.int k))],rfl,rfl,by
   have:=wh (.int k)
   simp only [EV,reduceIte,au,aA,ao,aq,aB,aC,aD,this]
   rfl⟩
 have al:Dr [.list (Q.map fun _=>PyData.bool true)]=some (.bool true):=by
  have:=allB (fun _:Int=>true) Q
  rw [this,jK.mpr fun _ _=>rfl]
 have l1:(Q.map PyData.int).length ≤ 100000:=by rw [aJ];exact h
 have i2:D3.isT "list" (tyD (.list (Q.map PyData.int)))=true:=rfl
 have aw:iK [.list (Q.map .int)]=some (.bool true):=by
  unfold iK
  simp only [EV,reduceIte,au,aA,ao,aq,aB,aC,aD,l1,Vy,R6,C,al]
 unfold eN
 simp only [EV,reduceIte,au,aA,ao,aq,aB,aC,aD,i2,aw]
def mnQ:List Int→Int
 | []=>0
 | x :: r=>mnI x r
def mxQ:List Int→Int
 | []=>0
 | x :: r=>mxI x r
theorem W9 {l:List Int} (h:l ≠ []):FN [.list (l.map .int)]=some (.int (mnQ l)):=by
 cases l with
 | nil=>exact absurd rfl h
 | cons x r =>
  show (match jd ((x :: r).map .int) with | some (i :: r)=>some (PyData.int (mnI i r)) | _=>none)=_
  rw [mU]
  rfl
theorem W_ {l:List Int} (h:l ≠ []):FJ [.list (l.map .int)]=some (.int (mxQ l)):=by
 cases l with
 | nil=>exact absurd rfl h
 | cons x r =>
  show (match jd ((x :: r).map .int) with | some (i :: r)=>some (PyData.int (mxI i r)) | _=>none)=_
  rw [mU]
  rfl
theorem Uv:∀ (r:List Int) (i:Int),mnI i r ∈ i :: r∧∀ x ∈ i :: r,mnI i r ≤ x:=wj
theorem Uw:∀ (r:List Int) (i:Int),mxI i r ∈ i :: r∧∀ x ∈ i :: r,x ≤ mxI i r:=wu
theorem Cz:∀ (l m:List Int),sH (l.map .int) (m.map .int)=(l.zip m).map fun p=>PyData.tuple [.int p.1,.int p.2]
 | [],_=>rfl
 | _ :: _,[]=>rfl
 | a :: l,b :: m=>by
  show PyData.tuple [.int a,.int b] :: sH (l.map .int) (m.map .int)=_
  rw [Cz l m]
  rfl
def Qi (Q:List Int):Bool:=(Q.zip (Q.drop 1)).all fun p=>decide (p.1 < p.2)
theorem Ux (Q:List Int) (h:Q.length ≤ 1000):iJ [.list (Q.map .int)]=some (.bool (Qi Q)):=by
 have ct:cutD (Q.map .int) (some 1) none=(Q.drop 1).map .int:=by rw [QD (by decide),rW];rfl
 have C:∀ δ0,d_ (gTn 2 (fj (gNl 0) (fj (gNl 1) (mz)))) (D3.jR) (dOp gLt (aF 0) (aF 1)) (jx 2 [] δ0) ((Q.zip (Q.drop 1)).map fun p=>PyData.tuple [.int p.1,.int p.2])=some ((Q.zip (Q.drop 1)).map fun p=>PyData.bool (decide (p.1 < p.2))):=fun δ0 =>
  xg (fun p:Int × Int=>PyData.tuple [.int p.1,.int p.2]) (fun p=>PyData.bool (decide (p.1 < p.2))) _ fun p _=>⟨[some (.d (.int p.1)),some (.d (.int p.2))],rfl,rfl,by simp only [EV,reduceIte,au,aA,ao,aq,aB,aC,aD]⟩
 have al:=allB (fun p:Int × Int=>decide (p.1 < p.2)) (Q.zip (Q.drop 1))
 have l1:((Q.zip (Q.drop 1)).map fun p=>PyData.tuple [.int p.1,.int p.2]).length ≤ 100000:=by
  rw [aJ,List.length_zip]
  omega
 show Com.iJ _=_
 unfold Com.iJ
 simp only [EV,reduceIte,au,aA,ao,aq,aB,aC,aD,ct,Cz,l1,C,al]
 rfl
theorem Uy {Q:List Int} (h:Q.Pairwise (· < ·)):Qi Q=true:=by
 unfold Qi
 refine jK.mpr fun p hp=>dTr ?_
 obtain ⟨i,hi,ei⟩:=gB hp
 rw [List.length_zip,gR] at hi
 rw [List.getElem_zip] at ei
 have i1:i < Q.length:=by omega
 have i2:i < (Q.drop 1).length:=by rw [gR];omega
 rw [← ei]
 show Q[i]'i1 < (Q.drop 1)[i]'i2
 rw [List.getElem_drop]
 exact h_.mp h i (1 + i) (by omega) (by omega) (by omega)
theorem IV {w:Nat} {Q:List Int} (hl:L.length ≤ 24) (hw:w < L.length):∃ b,fX [.list (L.map yD),.int (M:Int),.int (w:Int),.list (Q.map .int)]=some (.bool b)∧(b=true↔∀ x ∈ Q,∀ s ∈ stp L M w x,s.1 ∈ Q):=by
 have F:=vH (v:=.bool false) (g:=(gNl 4)) (b:=(lQ (jT (dCall dJ (aG (aF 0) (aG (aF 1) (aG (aF 2) (aG (aF 4) (aV))))))) (gNl 5) (sIf (aY (dOp gZ (dOp gIx (aF 5) (dC (.int 0))) (aF 3))) (cT (dC (.bool false))) (dM))))
  (fun _ δ=>∃ x y,δ=[some (.d (.list (L.map yD))),some (.d (.int (M:Int))),some (.d (.int (w:Int))),some (.d (.list (Q.map .int))),x,y]) (fun i=>∀ x,Q[i]? = some x→∀ s ∈ stp L M w x,s.1 ∈ Q) (Q.map .int)
  [some (.d (.list (L.map yD))),some (.d (.int (M:Int))),some (.d (.int (w:Int))),some (.d (.list (Q.map .int))),none,none] ⟨none,none,rfl⟩ (by
   rintro i d δ hd _ ⟨x',y,rfl⟩
   rw [aN] at hd
   cases hx:Q[i]? with
   | none=>rw [hx] at hd;cases hd
   | some x =>
    rw [hx] at hd
    cases hd
    have so:Com.dJ _=_:=Lk (M:=M) (x:=x) hl hw
    refine ⟨[some (.d (.list (L.map yD))),some (.d (.int (M:Int))),some (.d (.int (w:Int))),some (.d (.list (Q.map .int))),some (.d (.int x)),y],rfl,?_⟩
    have I:=vH (v:=.bool false) (g:=(gNl 5)) (b:=(sIf (aY (dOp gZ (dOp gIx (aF 5) (dC (.int 0))) (aF 3))) (cT (dC (.bool false))) (dM)))
     (fun _ δ=>∃ y,δ=[some (.d (.list (L.map yD))),some (.d (.int (M:Int))),some (.d (.int (w:Int))),some (.d (.list (Q.map .int))),some (.d (.int x)),y]) (fun j=>∀ s,(stp L M w x)[j]? = some s→s.1 ∈ Q) ((stp L M w x).map pqD)
     [some (.d (.list (L.map yD))),some (.d (.int (M:Int))),some (.d (.int (w:Int))),some (.d (.list (Q.map .int))),some (.d (.int x)),y] ⟨y,rfl⟩ (by
      rintro j d δ hd _ ⟨y,rfl⟩
      rw [aN] at hd
      cases hs:(stp L M w x)[j]? with
      | none=>rw [hs] at hd;cases hd
      | some s =>
       rw [hs] at hd
       cases hd
       have i0:gIx (pqD s) (.int 0)=some (.int s.1):=rfl
       have ni:=Fb Q s.1
       refine ⟨[some (.d (.list (L.map yD))),some (.d (.int (M:Int))),some (.d (.int (w:Int))),some (.d (.list (Q.map .int))),some (.d (.int x)),some (.d (pqD s))],rfl,?_⟩
       by_cases c:s.1 ∈ Q
       ·rw [dTr c] at ni
        refine .inl ⟨fun s' e=>by cases e;exact c,[some (.d (.list (L.map yD))),some (.d (.int (M:Int))),some (.d (.int (w:Int))),some (.d (.list (Q.map .int))),some (.d (.int x)),some (.d (pqD s))],?_,_,rfl⟩
        simp only [EV,reduceIte,au,aA,ao,aq,aB,aC,aD,i0,ni,bR]
       ·rw [dFa c] at ni
        refine .inr ⟨fun z=>c (z s rfl),?_⟩
        simp only [EV,reduceIte,au,aA,ao,aq,aB,aC,aD,i0,ni,cO])
    rw [aJ] at I
    rcases I with ⟨δ',e,⟨y',rfl⟩,al⟩ | ⟨e,j,j1,j2⟩
    ·refine .inl ⟨fun x' e' s hs=>?_,[some (.d (.list (L.map yD))),some (.d (.int (M:Int))),some (.d (.int (w:Int))),some (.d (.list (Q.map .int))),some (.d (.int x)),y'],?_,_,_,rfl⟩
     ·cases e'
      obtain ⟨j,hj,ej⟩:=gB hs
      exact al j hj s (by rw [aZ hj,ej])
     ·simp only [EV,reduceIte,au,aA,ao,aq,aB,aC,aD,so]
      exact e
    ·refine .inr ⟨fun z=>j2 fun s hs=>z x rfl s (cZ hs),?_⟩
     simp only [EV,reduceIte,au,aA,ao,aq,aB,aC,aD,so]
     exact e)
 rw [aJ] at F
 rcases F with ⟨δ',e,⟨x,y,rfl⟩,al⟩ | ⟨e,j,j1,j2⟩
 ·refine ⟨true,?_,⟨fun _ x hx s hs=>?_,fun _=>rfl⟩⟩
  ·show Com.fX _=_
   unfold Com.fX
   simp only [EV,reduceIte,au,aA,ao,aq,aB,aC,aD]
   rw [e]
   simp only [EV,reduceIte,au,aA,ao,aq,aB,aC,aD]
  ·obtain ⟨j,hj,ej⟩:=gB hx
   exact al j hj x (by rw [aZ hj,ej]) s hs
 ·refine ⟨false,?_,⟨fun z=>(by cases z),fun z=>absurd (fun x hx s hs=>z x (cZ hx) s hs) j2⟩⟩
  show Com.fX _=_
  unfold Com.fX
  simp only [EV,reduceIte,au,aA,ao,aq,aB,aC,aD]
  rw [e]
  simp only [EV,reduceIte,au,aA,ao,aq,aB,aC,aD]
theorem zc (ok:TOk L M now) {w r:Nat} {f:Nat→Int} (hw:w < L.length) (hn:hk L w=none) (hr:r < M)
 (ef:bY [.list (L.map yD),.int (M:Int),.int now]=some (.list ((aH M).map fun s:Nat=>PyData.int (f s)))) {Q:List Int} (hl:Q.length ≤ 1000) :
 ∃ b,jw [.list (L.map yD),.int (M:Int),.int now,.int (w:Int),.int (r:Int),.list (Q.map .int)]=some (.bool b)∧(Rc L M w (f r)→b=false)∧(Sh L M w (f r) Q→b=true):=by
 have c1:=xM ok hw hn
 have c2:Com.dI _=_:=vI hr
 have aw:=ay hw
 have ab:=vf (n:=M) (c:=r) (fun s:Nat=>PyData.int (f s)) hr
 have ef:Com.bY _=_:=ef
 have wl:=GP Q (by omega)
 have ri:Com.iJ _=_:=Ux Q hl
 obtain ⟨bc,ec,ic⟩:=IV (M:=M) (Q:=Q) ok.len hw
 have ec:Com.fX _=_:=ec
 unfold jw
 cases hris:Qi Q with
 | false =>
  rw [hris] at ri
  refine ⟨false,?_,fun _=>rfl,fun z=>(by rw [Uy z.1] at hris;cases hris)⟩
  simp only [EV,reduceIte,au,aA,ao,aq,aB,aC,aD,c1,c2,wl,ri,bR,cO]
 | true =>
  rw [hris] at ri
  by_cases hB:bk L w < f r
  ·have z1:decide (f r > bk L w)=true:=dTr hB
   have es:=eq_empty (ns:=Q)
   by_cases hq:Q=[]
   ·rw [dTr hq] at es
    refine ⟨true,?_,fun z=>absurd z.1 (by omega),fun _=>rfl⟩
    simp only [EV,reduceIte,au,aA,ao,aq,aB,aC,aD,c1,c2,wl,ri,bR,ef,ab,aw,at0,z1,zl0,es]
   ·rw [dFa hq] at es
    refine ⟨false,?_,fun _=>rfl,fun z=>?_⟩
    ·simp only [EV,reduceIte,au,aA,ao,aq,aB,aC,aD,c1,c2,wl,ri,bR,ef,ab,aw,at0,z1,zl0,es]
    ·rcases z.2 with ⟨_,z⟩ | ⟨z,_⟩
     ·exact absurd z hq
     ·omega
  ·have z1:decide (f r > bk L w)=false:=dFa (by omega)
   have ni:=Fb Q (f r)
   by_cases hb:f r ∈ Q
   ·rw [dTr hb] at ni
    have ne:Q ≠ []:=fun z=>by rw [z] at hb;cases hb
    have m1:=W9 ne
    have m2:=W_ ne
    obtain ⟨p1,p2⟩:(mnQ Q ∈ Q∧∀ x ∈ Q,mnQ Q ≤ x)∧mxQ Q ∈ Q∧∀ x ∈ Q,x ≤ mxQ Q:=by
     cases Q with
     | nil=>exact absurd rfl ne
     | cons q Q=>exact ⟨Uv Q q,Uw Q q⟩
    by_cases k1:mnQ Q < f r
    ·refine ⟨false,?_,fun _=>rfl,fun z=>?_⟩
     ·simp only [EV,reduceIte,au,aA,ao,aq,aB,aC,aD,c1,c2,wl,ri,bR,ef,ab,aw,at0,z1,ni,m1,dTr k1]
     ·rcases z.2 with ⟨z,_⟩ | ⟨_,_,z,_⟩
      ·omega
      ·have:=(z _ p1.1).1
       omega
    ·by_cases k2:bk L w ≤ mxQ Q
     ·refine ⟨false,?_,fun _=>rfl,fun z=>?_⟩
      ·simp only [EV,reduceIte,au,aA,ao,aq,aB,aC,aD,c1,c2,wl,ri,bR,ef,ab,aw,at0,z1,ni,m1,dFa k1,m2,dTr k2]
      ·rcases z.2 with ⟨z,_⟩ | ⟨_,_,z,_⟩
       ·omega
       ·have:=(z _ p2.1).2
        omega
     ·refine ⟨bc,?_,fun z=>?_,fun z=>ic.mpr ?_⟩
      ·simp only [EV,reduceIte,au,aA,ao,aq,aB,aC,aD,c1,c2,wl,ri,bR,ef,ab,aw,at0,z1,ni,m1,dFa k1,m2,dFa k2,ec]
      ·cases hbc:bc with
       | false=>rfl
       | true =>
        have:=z.2 (fun x=>x ∈ Q) ⟨hb,fun x _ _ hx s hs=>ic.mp hbc x hx s hs⟩
        have:=p2.2 _ this
        omega
      ·rcases z.2 with ⟨z,_⟩ | ⟨_,_,_,z⟩
       ·omega
       ·exact z
   ·rw [dFa hb] at ni
    refine ⟨false,?_,fun _=>rfl,fun z=>?_⟩
    ·simp only [EV,reduceIte,au,aA,ao,aq,aB,aC,aD,c1,c2,wl,ri,bR,cO,ef,ab,aw,at0,z1,ni]
    ·rcases z.2 with ⟨z,_⟩ | ⟨_,z,_⟩
     ·omega
     ·exact absurd z hb
end
section
variable {L:List Ty} {M:Nat} {now:Int}
noncomputable def rcB (L:List Ty) (M w:Nat) (B:Int):Bool:=@decide (Rc L M w B) (Classical.propDecidable _)
theorem pK {w:Nat} {B:Int}:rcB L M w B=true↔Rc L M w B:=by
 unfold rcB
 exact @decide_eq_true_iff _ (Classical.propDecidable _)
noncomputable def due (L:List Ty) (M w:Nat) (f:Nat→Int) (n:Nat):List Nat:=(aH n).filter fun r=>rcB L M w (f r)
theorem Lw (w:Nat) (f:Nat→Int) (n:Nat):due L M w f (n + 1)=due L M w f n++(if rcB L M w (f n)=true then [n] else []):=by
 unfold due
 rw [List.range_succ,mX]
 by_cases c:rcB L M w (f n)=true
 ·rw [iZ (p:=fun r=>rcB L M w (f r)) c,if_pos c];rfl
 ·rw [i_ (p:=fun r=>rcB L M w (f r)) c,if_neg c];rfl
theorem Ae (w:Nat) (f:Nat→Int) (n:Nat):(due L M w f n).length ≤ n:=by
 have:=d8 (fun r=>rcB L M w (f r)) (aH n)
 rwa [bB] at this
theorem QL:gEq (.str "yes") (.str "yes")=some (.bool true):=Com.eq_self (KY Uu (by decide))
theorem Xa:gEq (.str "no") (.str "yes")=some (.bool false):=by
 unfold gEq
 rw [if_pos (by decide +kernel),show PyData.eqv (.str "no") (.str "yes")=false by decide +kernel]
theorem CG (ok:TOk L M now) (hM:M ≤ 12) (n0:0 ≤ now) {w:Nat} {f:Nat→Int} (hw:w < L.length) (hn:hk L w=none)
 (ef:bY [.list (L.map yD),.int (M:Int),.int now]=some (.list ((aH M).map fun s:Nat=>PyData.int (f s)))) (hf:∀ s,s < M→(∃ k,k < L.length∧hk L k=some s∧f s=ek L k)∨((∀ k,k < L.length→hk L k ≠ some s)∧f s=now)) (nf:∀ r,r < M→now ≤ f r) :
 gP [.list (L.map yD),.int (M:Int),.int now,.int (w:Int)]=some (.list (nD (due L M w f M))):=by
 have C:d_ (gNl 0) (aY (dOp gEq (dOp gIx (dCall eV (aG (aF 1) (aG (aF 2) (aG (aF 3) (aG (aF 4) (aG (aF 0) (aV))))))) (dC (.int 0))) (dC (.str "yes")))) (cV (aF 0)) (jx 1 [0,1,2,3] [some (.d (.list (L.map yD))),some (.d (.int (M:Int))),some (.d (.int now)),some (.d (.int (w:Int)))]) (fM 0 (M:Int))=some (nD (due L M w f M)):=by
  rw [t_,f9]
  exact w6 (fun k:Nat=>PyData.int (k:Int)) (fun r=>rcB L M w (f r)) (fun k:Nat=>PyData.int (k:Int)) (aH M) fun r hr=>⟨[some (.d (.int (r:Int))),some (.d (.list (L.map yD))),some (.d (.int (M:Int))),some (.d (.int now)),some (.d (.int (w:Int)))],rfl,by
   have hr:=aR.mp hr
   rcases uL ok hM n0 hw hn hr ef hf (nf r hr) with ⟨rc,t,rr,em,_⟩ | ⟨rc,Q,em,_⟩
   ·rw [pK.mpr rc]
    simp only [EV,reduceIte,au,aA,ao,aq,aB,aC,aD,em,at0,QL]
   ·rw [Bool.eq_false_iff.mpr fun z=>rc (pK.mp z)]
    simp only [EV,reduceIte,au,aA,ao,aq,aB,aC,aD,em,at0,Xa],fun _=>by simp only [EV,reduceIte,au,aA,ao,aq,aB,aC,aD,fli]⟩
 have c1:=xM ok hw hn
 have rg:pW (some [.int (M:Int)])=some (fM 0 (M:Int)):=Py _ (by omega)
 have l2:(fM 0 (M:Int)).length ≤ 100000:=by rw [n6];omega
 unfold gP
 simp only [EV,reduceIte,au,aA,ao,aq,aB,aC,aD,c1,rg,l2,C]
def qD (q:List Int):D:=.list (q.map .int)
theorem IW (ok:TOk L M now) {rr:Nat→Nat} (P:Pn L M rr):jP [.list (L.map yD),.int (M:Int),.int now,.list (plD L.length fun k=>(rr k:Int))]=some (.bool true):=by
 have l24:=ok.len
 have wl:=GP ((aH L.length).map fun k=>(rr k:Int)) (by rw [aJ,bB];omega)
 rw [dX] at wl
 have wl:eN [.list (plD L.length fun k=>(rr k:Int))]=some (.bool true):=wl
 obtain ⟨b,e,i⟩:=IK (TO0.of ok) (ds:=plD L.length fun k=>(rr k:Int)) (Ut _ _) (fun k hk'=>⟨(rr k:Int),by
  unfold plD
  rw [aN,bU hk']
  rfl⟩) wl
 rw [i.mpr P.pk] at e
 exact e
theorem Uz (ok:TOk L M now) (hM:M ≤ 12) (n0:0 ≤ now) {w:Nat} {f:Nat→Int} (hw:w < L.length) (hn:hk L w=none)
 (ef:bY [.list (L.map yD),.int (M:Int),.int now]=some (.list ((aH M).map fun s:Nat=>PyData.int (f s)))) (hf:∀ s,s < M→(∃ k,k < L.length∧hk L k=some s∧f s=ek L k)∨((∀ k,k < L.length→hk L k ≠ some s)∧f s=now)) (nf:∀ r,r < M→now ≤ f r) :
 iV [.list (L.map yD),.int (M:Int),.int now,.int (w:Int),.list [.list [],.list [.int now]]]=some (.list (nD (due L M w f M))):=by
 have l24:=ok.len
 obtain ⟨δ',e,NS,u6,u7,u8,h1,h2,rfl⟩:=jN (g:=(gNl 6)) (b:=(b_ (bW 7 (dCall eV (aG (dUn oM (aF 0)) (aG (aF 1) (aG (aF 2) (aG (aF 3) (aG (aF 6) (aV)))))))) (sIf (aY (dOp gEq (dOp gIx (aF 7) (dC (.int 0))) (dC (.str "yes")))) (b_ (sIf (D3.tOr (aY (dUn v5 (dCall jP (aG (aF 0) (aG (aF 1) (aG (aF 2) (aG (dOp gIx (aF 7) (dC (.int 2))) (aV)))))))) (aY (dOp gNe (dOp gIx (dOp gIx (aF 7) (dC (.int 2))) (aF 3)) (aF 6)))) (cT (dC (.none))) (dM)) (b_ (lQ (jT (aF 4)) (gNl 8) (sIf (aY (dUn JG (dCall jw (aG (aF 0) (aG (aF 1) (aG (aF 2) (aG (aF 3) (aG (aF 6) (aG (aF 8) (aV)))))))))) (cT (dC (.none))) (dM))) (xT 5 (aF 6)))) (sIf (D3.tOr (aY (dOp gNe (dOp gIx (aF 7) (dC (.int 0))) (dC (.str "no")))) (aY (dUn v5 (dCall jw (aG (aF 0) (aG (aF 1) (aG (aF 2) (aG (aF 3) (aG (aF 6) (aG (dOp gIx (aF 7) (dC (.int 1))) (aV))))))))))) (cT (dC (.none))) (xT 4 (dUn oM (dOp gIx (aF 7) (dC (.int 1)))))))))
  (fun i δ=>∃ (NS:List (List Int)) (u6 u7 u8:Option U),NS.length ≤ 2 + i∧(∀ q ∈ NS,q.length ≤ 63) ∧
   δ=[some (.d (.list (L.map yD))),some (.d (.int (M:Int))),some (.d (.int now)),some (.d (.int (w:Int))),some (.d (.list (NS.map qD))),some (.d (.list (nD (due L M w f i)))),u6,u7,u8]) (fM 0 (M:Int))
  [some (.d (.list (L.map yD))),some (.d (.int (M:Int))),some (.d (.int now)),some (.d (.int (w:Int))),some (.d (.list [.list [],.list [.int now]])),some (.d (.list [])),none,none,none]
  ⟨[[],[now]],none,none,none,(show 2 ≤ 2 + 0 by decide),fun q hq=>by
   rcases bA.mp hq with rfl | z
   ·decide
   ·rw [aK.mp z];show 1 ≤ 63;decide,rfl⟩ (by
   rintro r d δ hd ⟨NS,u6,u7,u8,h1,h2,rfl⟩
   obtain ⟨hr,rfl⟩:=z6 hd
   have hr:r < M:=by omega
   have dl:(nD (due L M w f r)).length < 1000000:=by
    have:=Ae (L:=L) (M:=M) w f r
    unfold nD
    rw [aJ]
    omega
   have nl:(NS.map qD).length < 1000000:=by rw [aJ];omega
   rw [Lw]
   rcases uL ok hM n0 hw hn hr ef hf (nf r hr) with ⟨rc,t,rr,em,P,rw'⟩ | ⟨rc,Q,em,Ql,sh⟩
   ·have pt:=IW ok P
    have pt:jP _=_:=pt
    have nT:v5 (.bool true)=some (.bool false):=rfl
    have iT:JG (.bool false)=some (.bool false):=rfl
    have ap:pAt (plD L.length fun k=>(rr k:Int)) (w:Int)=some (.int (r:Int)):=by
     have:=vf (fun k=>PyData.int (rr k:Int)) hw
     rw [rw'] at this
     exact this
    have zr:decide ((r:Int)=(r:Int))=true:=dTr rfl
    rw [if_pos (pK.mpr rc)]
    have ed:nD (due L M w f r++[r])=nD (due L M w f r)++[.int (r:Int)]:=by
     unfold nD
     rw [cI]
     rfl
    rw [ed]
    generalize nD (due L M w f r)=DU at *
    obtain ⟨δ2,e2,v8,rfl⟩:=jN (g:=(gNl 8)) (b:=(sIf (aY (dUn JG (dCall jw (aG (aF 0) (aG (aF 1) (aG (aF 2) (aG (aF 3) (aG (aF 6) (aG (aF 8) (aV)))))))))) (cT (dC (.none))) (dM)))
     (fun i δ=>∃ u8:Option U,δ=[some (.d (.list (L.map yD))),some (.d (.int (M:Int))),some (.d (.int now)),some (.d (.int (w:Int))),some (.d (.list (NS.map qD))),some (.d (.list DU)),some (.d (.int (r:Int))),some (.d (.tuple [.str "yes", .list (nD t),.list (plD L.length fun k=>(rr k:Int))])),u8]) (NS.map qD)
     [some (.d (.list (L.map yD))),some (.d (.int (M:Int))),some (.d (.int now)),some (.d (.int (w:Int))),some (.d (.list (NS.map qD))),some (.d (.list DU)),some (.d (.int (r:Int))),some (.d (.tuple [.str "yes", .list (nD t),.list (plD L.length fun k=>(rr k:Int))])),u8] ⟨u8,rfl⟩ (by
      rintro j d δ hd ⟨u8,rfl⟩
      obtain ⟨q,hq,rfl⟩:=cX.mp (cZ hd)
      obtain ⟨b,eb,b1,_⟩:=zc ok hw hn hr ef (Q:=q) (by have:=h2 q hq;omega)
      rw [b1 rc] at eb
      have eb:jw [.list (L.map yD),.int (M:Int),.int now,.int (w:Int),.int (r:Int),qD q]=some (.bool false):=eb
      refine ⟨_,[some (.d (.list (L.map yD))),some (.d (.int (M:Int))),some (.d (.int now)),some (.d (.int (w:Int))),some (.d (.list (NS.map qD))),some (.d (.list DU)),some (.d (.int (r:Int))),some (.d (.tuple [.str "yes", .list (nD t),.list (plD L.length fun k=>(rr k:Int))])),some (.d (qD q))],rfl,.inl ?_,_,rfl⟩
      simp only [EV,reduceIte,au,aA,ao,aq,aB,aC,aD,eb,iT])
    refine ⟨_,[some (.d (.list (L.map yD))),some (.d (.int (M:Int))),some (.d (.int now)),some (.d (.int (w:Int))),some (.d (.list (NS.map qD))),some (.d (.list (DU++[.int (r:Int)]))),some (.d (.int (r:Int))),some (.d (.tuple [.str "yes", .list (nD t),.list (plD L.length fun k=>(rr k:Int))])),v8],rfl,.inl ?_,NS,_,_,_,by omega,h2,rfl⟩
    simp only [EV,reduceIte,au,aA,ao,aq,aB,aC,aD,em,at0,at2,QL,pt,nT,ap,zr,bR]
    rw [e2]
    simp only [EV,reduceIte,au,aA,ao,aq,aB,aC,aD,dl]
   ·obtain ⟨b,eb,_,b1⟩:=zc ok hw hn hr ef (Q:=Q) (by omega)
    rw [b1 sh] at eb
    have nT:v5 (.bool true)=some (.bool false):=rfl
    have ny:gNe (.str "no") (.str "no")=some (.bool false):=ne_self (KY W8 (by decide))
    rw [if_neg (fun z=>rc (pK.mp z)),cY]
    generalize nD (due L M w f r)=DU at *
    refine ⟨_,[some (.d (.list (L.map yD))),some (.d (.int (M:Int))),some (.d (.int now)),some (.d (.int (w:Int))),some (.d (.list (NS.map qD++[.list (Q.map .int)]))),some (.d (.list DU)),some (.d (.int (r:Int))),some (.d (.tuple [.str "no", .list (Q.map .int)])),u8],rfl,.inl ?_,NS++[Q],some (.d (.int (r:Int))),some (.d (.tuple [.str "no", .list (Q.map .int)])),u8,?_,fun q hq=>?_,?_⟩
    ·simp only [EV,reduceIte,au,aA,ao,aq,aB,aC,aD,em,at0,at1,Xa,ny,eb,nT,nl]
    ·rw [bH];show NS.length + 1 ≤ _;omega
    ·rcases aX.mp hq with z | z
     ·exact h2 q z
     ·rw [aK.mp z];exact Ql
    ·rw [cI];rfl)
 rw [n6,f9] at e
 have rg:pW (some [.int (M:Int)])=some (fM 0 (M:Int)):=Py _ (by omega)
 have fl:flats (nD (due L M w f M))=true:=iw _ (fun _=>rfl) _
 unfold iV
 simp only [EV,reduceIte,au,aA,ao,aq,aB,aC,aD,zl0,rg]
 rw [e]
 simp only [EV,reduceIte,au,aA,ao,aq,aB,aC,aD,m9,fl]
end
section
variable {L:List Ty} {M:Nat} {now:Int}
theorem Af {Z:List Ty} (ok:TOk L M now) (s:Z.Sublist L):TOk Z M now :=
 ⟨bV s.length_le ok.len,fun t ht=>ok.ok t (s.subset ht),ok.nd.sublist (s.filterMap _),fun t ht=>bV (s.filter _).length_le (ok.full t (s.subset ht)),fun t ht=>ok.bd t (s.subset ht),fun t ht=>ok.nr t (s.subset ht)⟩
def er (L:List Ty) (g:Nat):List Ty:=L.take g++L.drop (g + 1)
def io (g k:Nat):Nat:=if k < g then k else k + 1
theorem GQ {g k:Nat} (h:g < L.length):tAt (er L g) k=tAt L (io g k):=by
 have lt:(L.take g).length=g:=by rw [gQ];omega
 unfold tAt er io
 rw [bG,bG]
 by_cases c:k < g
 ·rw [if_pos c,cL (by omega),n8 c]
 ·rw [if_neg c,cC (by omega),lt,j8,show g + 1 + (k - g)=k + 1 by omega]
theorem Lx {g:Nat} (h:g < L.length):(er L g).length=L.length - 1:=by
 unfold er
 rw [bH,gQ,gR]
 omega
theorem Ly (L:List Ty) (g:Nat):(er L g).Sublist L:=by
 unfold er
 have:=List.eraseIdx_sublist L g
 rwa [iW] at this
theorem GR {g k:Nat} (h:g < L.length) (hk':k < (er L g).length):io g k < L.length:=by
 rw [Lx h] at hk'
 unfold io
 split <;> omega
theorem Xb {g k l:Nat} (h:k ≠ l):io g k ≠ io g l:=by
 unfold io
 split <;> split <;> omega
theorem Lz (ok:TOk L M now) (hM:M ≤ 12) (n0:0 ≤ now) {g w w' r:Nat} {f f':Nat→Int} (hg:g < L.length) (hw:w < L.length) (hn:hk L w=none) (hr:r < M) (hi:io g w'=w) (hw':w' < (er L g).length)
 (ef:bY [.list (L.map yD),.int (M:Int),.int now]=some (.list ((aH M).map fun s:Nat=>PyData.int (f s)))) (hf:∀ s,s < M→(∃ k,k < L.length∧hk L k=some s∧f s=ek L k)∨((∀ k,k < L.length→hk L k ≠ some s)∧f s=now)) (nf:now ≤ f r)
 (hf':∀ s,s < M→(∃ k,k < (er L g).length∧hk (er L g) k=some s∧f' s=ek (er L g) k)∨((∀ k,k < (er L g).length→hk (er L g) k ≠ some s)∧f' s=now)) (nf':now ≤ f' r) (rc:Rc L M w (f r)):Rc (er L g) M w' (f' r):=by
 have ok':=Af ok (Ly L g)
 rcases uL ok hM n0 hw hn hr ef hf nf with ⟨_,t,rr,_,P,rw'⟩ | ⟨z,_⟩
 ·have b':∀ k,bk (er L g) k=bk L (io g k):=fun k=>by unfold bk;rw [GQ hg]
  have e':∀ k,ek (er L g) k=ek L (io g k):=fun k=>by unfold ek;rw [GQ hg]
  have h':∀ k,hk (er L g) k=hk L (io g k):=fun k=>by unfold hk;rw [GQ hg]
  have hn':hk (er L g) w'=none:=by rw [h',hi];exact hn
  obtain ⟨hB,key⟩:=Cy (h:=fun k=>(rr (io g k):Int)) ok' hw' hn' hr hf' (fun k l k1 l1 kl a b z=>by
   have k1:k < (er L g).length:=k1
   have l1:l < (er L g).length:=l1
   have a:bk (er L g) k < ek (er L g) l:=a
   have b:bk (er L g) l < ek (er L g) k:=b
   rw [b',e'] at a b
   have z:(rr (io g k):Int)=(rr (io g l):Int):=z
   rcases P.dj _ _ (GR hg k1) (GR hg l1) (Xb kl) (by omega) with y | y <;> omega) (fun k k1=>⟨by omega,by have:=P.lt _ (GR hg k1);omega⟩) (fun k s k1 hs=>by
    rw [h'] at hs
    rw [P.held _ s (GR hg k1) hs]) (by show (rr (io g w'):Int)=_;rw [hi,rw'])
  obtain ⟨S,eS,so,cl⟩:=sU ok' hw' (by omega) hB
  exact (uK hB so cl).mp (key S so cl)
 ·exact absurd rc z
theorem Ag (Q:List Nat):nD Q=(Q.map fun k:Nat=>(k:Int)).map PyData.int:=by
 unfold nD
 rw [dX]
 rfl
theorem Fd {Q:List Nat} {r:Nat} (h:r ∈ Q):gZ (.int (r:Int)) (.list (nD Q))=some (.bool false):=by
 have:=Fb (Q.map fun k:Nat=>(k:Int)) (r:Int)
 rw [dTr (cX.mpr ⟨r,h,rfl⟩),← Ag] at this
 exact this
theorem neN {Q:List Nat} (h:Q ≠ []):gEq (.list (nD Q)) (.list [])=some (.bool false):=by
 have:=eq_empty (Q.map fun k:Nat=>(k:Int))
 rw [← Ag,dFa (fun z=>h (List.map_eq_nil_iff.mp z))] at this
 exact this
theorem Ym {Q:List Nat} (h:Q ≠ []):gNe (.list (nD Q)) (.list [])=some (.bool true):=by
 rw [Ag]
 unfold gNe
 rw [shaped_ints]
 cases Q with
 | nil=>exact absurd rfl h
 | cons a r=>rfl
end
theorem LC (ns:List Int) (h63:ns.length ≤ 63):Ld [.list (ns.map .int)]=some (.bool true):=by
 obtain ⟨now,n0,n1,en⟩:=K1 ns
 have p4:=d9 (ns:=ns) (i:=0) (k:=4) (m:=6) (by decide) (by decide) (by decide) (by decide)
 obtain ⟨b4,hb4⟩:∃ b4,decide (jh ns 0 4 6=1)=b4:=⟨_,rfl⟩
 generalize jh ns 0 4 6=x4 at *
 obtain ⟨iv,hiv⟩:∃ iv:Int,iv=if b4=true then 1 else 0:=⟨_,rfl⟩
 have iN:vX [.bool b4]=some (.int iv):=by rw [hiv];rfl
 have ix:pAt [.int 4,.int 12] iv=some (.int (if b4=true then 12 else 4)):=by rw [hiv];cases b4 <;> rfl
 have ix2:pAt [.int 12,.int 3] iv=some (.int (if b4=true then 3 else 12)):=by rw [hiv];cases b4 <;> rfl
 have mm:(0:Int) < (if b4=true then 12 else 4)∧(if b4=true then (12:Int) else 4) ≤ 12:=by cases b4 <;> decide
 have p3:=d9 (ns:=ns) (i:=0) (k:=3) (m:=if b4=true then 12 else 4) (by decide) (by decide) (by decide) mm.1
 have r3:=dO ns 0 3 mm.1
 generalize jh ns 0 3 (if b4=true then 12 else 4)=x3 at *
 obtain ⟨M,eM⟩:∃ M:Nat,(M:Int)=1 + x3:=⟨(1 + x3).toNat,by omega⟩
 have hM:M ≤ 12:=by omega
 obtain ⟨L0,ok0,eS⟩:=En ns (M:=M) (now:=now) hM n0 n1
 have l0:=ok0.len
 generalize (if b4=true then (3:Int) else 12)=cp at *
 obtain ⟨δ1,e1,L,u5,u6,s1,rfl⟩:=jN (g:=(gNl 5)) (b:=(b_ (bW 6 (dCall jM (aG (gh (jT (aF 4)) (gNl 0) (aY (dUn nA (dOp gIx (aF 0) (dC (.int 2))))) (cV (aF 0)) 1 []) (aV)))) (sIf (D3.tOr (aY (dUn lR (dOp gIx (aF 5) (dC (.int 2))))) (aY (dOp gLt (aF 6) (dOp gIx (gU (aG (dC (.int 12)) (aG (dC (.int 3)) (aV)))) (aF 1))))) (xT 4 (aF 5)) (dM))))
  (fun i δ=>∃ (Z:List Ty) (u5 u6:Option U),Z.Sublist (L0.take i)∧δ=[some (.d (.list (ns.map .int))),some (.d (.int iv)),some (.d (.int (M:Int))),some (.d (.int now)),some (.d (.list (Z.map yD))),u5,u6,none,none,none,none,none,none]) (L0.map yD)
  [some (.d (.list (ns.map .int))),some (.d (.int iv)),some (.d (.int (M:Int))),some (.d (.int now)),some (.d (.list [])),none,none,none,none,none,none,none,none] ⟨[],none,none,List.nil_sublist _,rfl⟩ (by
   rintro i d δ hd ⟨Z,u5,u6,s1,rfl⟩
   rw [aN] at hd
   cases hs:L0[i]? with
   | none=>rw [hs] at hd;cases hd
   | some s =>
    rw [hs] at hd
    cases hd
    have et:L0.take (i + 1)=L0.take i++[s]:=by rw [jz,hs];rfl
    have zl:Z.length ≤ 24:=by
     have:=s1.length_le
     rw [gQ] at this
     omega
    have C:∀ δ0,d_ (gNl 0) (aY (dUn nA (dOp gIx (aF 0) (dC (.int 2))))) (cV (aF 0)) (jx 1 [] δ0) (Z.map yD)=some ((Z.filter fun s=>!s.2.2.isSome).map yD):=fun δ0 =>
     w6 yD (fun s=>!s.2.2.isSome) yD Z fun s _=>⟨[some (.d (yD s))],rfl,by
      obtain ⟨a,b,c⟩:=s
      have nn:=xr c
      unfold yD
      simp only [EV,reduceIte,au,aA,ao,aq,aB,aC,aD,at2,nn],fun _=>by simp only [EV,reduceIte,au,aA,ao,aq,aB,aC,aD,z8]⟩
    have len:(Z.map yD).length ≤ 100000:=by rw [aJ];omega
    have lenZ:(Z.map yD).length < 1000000:=by rw [aJ];omega
    have i2:gIx (yD s) (.int 2)=some (hD s.2.2):=rfl
    have nn:=xr s.2.2
    have add:(Z++[s]).Sublist (L0.take (i + 1)):=by rw [et];exact s1.append (List.Sublist.refl _)
    have stay:Z.Sublist (L0.take (i + 1)):=by rw [et];exact s1.trans (List.sublist_append_left _ _)
    generalize hc:(((Z.filter fun s=>!s.2.2.isSome).map yD).length:Int)=cnt at *
    cases c:s.2.2.isSome with
    | true =>
     rw [c] at nn
     refine ⟨_,[some (.d (.list (ns.map .int))),some (.d (.int iv)),some (.d (.int (M:Int))),some (.d (.int now)),some (.d (.list (Z.map yD++[yD s]))),some (.d (yD s)),some (.d (.int cnt)),none,none,none,none,none,none],rfl,.inl ?_,Z++[s],some (.d (yD s)),some (.d (.int cnt)),add,by rw [cI];rfl⟩
     simp only [EV,reduceIte,au,aA,ao,aq,aB,aC,aD,len,C,hc,i2,nn,bR,cO,lenZ]
    | false =>
     rw [c] at nn
     by_cases c5:cnt < cp
     ·have dc:decide (cnt < cp)=true:=dTr c5
      refine ⟨_,[some (.d (.list (ns.map .int))),some (.d (.int iv)),some (.d (.int (M:Int))),some (.d (.int now)),some (.d (.list (Z.map yD++[yD s]))),some (.d (yD s)),some (.d (.int cnt)),none,none,none,none,none,none],rfl,.inl ?_,Z++[s],some (.d (yD s)),some (.d (.int cnt)),add,by rw [cI];rfl⟩
      simp only [EV,reduceIte,au,aA,ao,aq,aB,aC,aD,len,C,hc,i2,nn,bR,cO,zl2,ix2,dc,lenZ]
     ·have dc:decide (cnt < cp)=false:=dFa c5
      refine ⟨_,[some (.d (.list (ns.map .int))),some (.d (.int iv)),some (.d (.int (M:Int))),some (.d (.int now)),some (.d (.list (Z.map yD))),some (.d (yD s)),some (.d (.int cnt)),none,none,none,none,none,none],rfl,.inl ?_,Z,some (.d (yD s)),some (.d (.int cnt)),stay,rfl⟩
      simp only [EV,reduceIte,au,aA,ao,aq,aB,aC,aD,len,C,hc,i2,nn,bR,cO,zl2,ix2,dc])
 rw [aJ,jL] at s1
 have ok:=Af ok0 s1
 clear s1 ok0
 have l24:=ok.len
 obtain ⟨h0,q0,v0,b0,z0⟩:=yX ns (at':=40) ok hM (by decide)
 obtain ⟨h1,q1,v1,b1,z1⟩:=yX ns (at':=41) ok hM (by decide)
 obtain ⟨f,ef,hf⟩:=xK (TO0.of ok) hM
 have nfg:∀ (L:List Ty) (f:Nat→Int),TOk L M now→(∀ s,s < M→(∃ k,k < L.length∧hk L k=some s∧f s=ek L k)∨((∀ k,k < L.length→hk L k ≠ some s)∧f s=now))→∀ r,r < M→now ≤ f r:=fun L f ok hf r hr=>by
  rcases hf r hr with ⟨k,k1,k2,k3⟩ | ⟨_,k3⟩
  ·have:=((ok.ok _ (gj k1)).2.1 r k2).2.2
   have:now < ek L k:=this
   omega
  ·omega
 have nf:=nfg L f ok hf
 have rg:pW (some [.int (L.length:Int)])=some (fM 0 (L.length:Int)):=Py _ (by omega)
 have rg2:pW (some [.int 2])=some (fM 0 2):=Ei (by decide) (by decide)
 have ll:((L.map yD).length:Int)=(L.length:Int):=by rw [aJ]
 have rl:(fM 0 (L.length:Int)).length ≤ 100000:=by rw [n6];omega
 have rl2:(fM 0 2).length ≤ 100000:=by decide
 have C0:d_ (gNl 0) (D3.jR) (dCall iQ (aG (aF 1) (aG (dOp jo (dC (.int 40)) (aF 0)) (aG (aF 2) (aG (aF 3) (aV)))))) (jx 1 [0,4,2] [some (.d (.list (ns.map .int))),some (.d (.int iv)),some (.d (.int (M:Int))),some (.d (.int now)),some (.d (.list (L.map yD))),u5,u6,none,none,none,none,none,none]) (fM 0 2)=some [.list (plD L.length h0),.list (plD L.length h1)]:=by
  have:=xg (g:=(gNl 0)) (c:=(D3.jR)) (e:=(dCall iQ (aG (aF 1) (aG (dOp jo (dC (.int 40)) (aF 0)) (aG (aF 2) (aG (aF 3) (aV))))))) (δ:=jx 1 [0,4,2] [some (.d (.list (ns.map .int))),some (.d (.int iv)),some (.d (.int (M:Int))),some (.d (.int now)),some (.d (.list (L.map yD))),u5,u6,none,none,none,none,none,none]) (fun k:Int=>PyData.int k) (fun k=>PyData.list (plD L.length (if k=0 then h0 else h1))) [0,1] fun k hk'=>⟨[some (.d (.int k)),some (.d (.list (ns.map .int))),some (.d (.list (L.map yD))),some (.d (.int (M:Int)))],rfl,rfl,by
   rcases bA.mp hk' with rfl | z
   ·have q0:iQ [.list (ns.map .int),.int (40 + 0),.list (L.map yD),.int (M:Int)]=_:=q0
    rw [if_pos rfl]
    simp only [EV,reduceIte,au,aA,ao,aq,aB,aC,aD,q0]
   ·have z:=aK.mp z
    subst z
    have q1:iQ [.list (ns.map .int),.int (40 + 1),.list (L.map yD),.int (M:Int)]=_:=q1
    rw [if_neg (by decide)]
    simp only [EV,reduceIte,au,aA,ao,aq,aB,aC,aD,q1]⟩
  exact this
 let sm:=(aH L.length).filter fun k=>!(hk L k).isSome
 have hsm:sm=(aH L.length).filter fun k=>!(hk L k).isSome:=rfl
 have sl:sm.length ≤ 24:=by
  have:=d8 (fun k=>!(hk L k).isSome) (aH L.length)
  rw [bB] at this
  rw [hsm]
  omega
 have ms:∀ k ∈ sm,k < L.length∧hk L k=none:=fun k hk'=>by
  obtain ⟨k1,k2⟩:=bM.mp hk'
  refine ⟨aR.mp k1,?_⟩
  cases z:hk L k with
  | none=>rfl
  | some s=>rw [z] at k2;cases k2
 have C1:d_ (gNl 0) (aY (dUn nA (dOp gIx (dOp gIx (aF 1) (aF 0)) (dC (.int 2))))) (cV (aF 0)) (jx 1 [4] [some (.d (.list (ns.map .int))),some (.d (.int iv)),some (.d (.int (M:Int))),some (.d (.int now)),some (.d (.list (L.map yD))),u5,u6,some (.d (.list [.list (plD L.length h0),.list (plD L.length h1)])),none,none,none,none,none]) (fM 0 (L.length:Int))=some (nD sm):=by
  rw [t_,f9]
  exact w6 (fun k:Nat=>PyData.int (k:Int)) (fun k=>!(hk L k).isSome) (fun k:Nat=>PyData.int (k:Int)) (aH L.length) fun k hk'=>⟨[some (.d (.int (k:Int))),some (.d (.list (L.map yD)))],rfl,by
   have ak:=ay (aR.mp hk')
   have nn:=xr (hk L k)
   simp only [EV,reduceIte,au,aA,ao,aq,aB,aC,aD,ak,at2,nn],fun _=>by simp only [EV,reduceIte,au,aA,ao,aq,aB,aC,aD,fli]⟩
 clear_value sm
 clear hsm
 have lsm:((nD sm).length:Int)=(sm.length:Int):=by unfold nD;rw [aJ]
 have cut:cutD (nD sm) none (some 5)=nD (sm.take 5):=by
  rw [QF (by decide)]
  unfold nD
  rw [rU]
  rfl
 have loop:∀ G:D,(sm=[]∨∃ g:Nat,g < L.length∧G = .int (g:Int))→∃ u10 u11 u12,jA (gNl 10) (b_ (bW 11 (uI iV (aG (aF 4) (aG (aF 2) (aG (aF 3) (aG (aF 10) (aG (gU (aG (gU (aV)) (aG (ou (gU (aG (aF 3) (aV)))) (aV)))) (aV)))))))) (b_ (sIf (D3.tOr (aY (dUn nA (aF 11))) (D3.tOr (aY (dOp gEq (aF 11) (gU (aV)))) (aY (dOp gNe (dCall gP (aG (dUn oM (aF 4)) (aG (aF 2) (aG (aF 3) (aG (aF 10) (aV)))))) (aF 11))))) (cT (dC (.bool false))) (dM)) (b_ (sIf (D3.tOr (aY (dOp gZ (dOp gIx (dOp gIx (aF 7) (dC (.int 0))) (aF 10)) (aF 11))) (aY (dOp gZ (dOp gIx (dOp gIx (aF 7) (dC (.int 1))) (aF 10)) (aF 11)))) (cT (dC (.bool false))) (dM)) (sIf (aY (dOp gNe (aF 10) (aF 9))) (b_ (bW 12 (dCall gP (aG (dOp ql (dSl (aF 4) rY (qm (aF 9))) (dSl (aF 4) (qm (dOp jo (aF 9) (dC (.int 1)))) rY)) (aG (aF 2) (aG (aF 3) (aG (dOp Bc (aF 10) (dCall vX (aG (dOp gLt (aF 9) (aF 10)) (aV)))) (aV))))))) (sIf (aY (dOp gNe (gh (jT (aF 11)) (gNl 0) (aY (dOp gZ (aF 0) (aF 1))) (cV (aF 0)) 1 [12]) (gU (aV)))) (cT (dC (.bool false))) (dM))) (dM))))) (nD (sm.take 5)) [some (.d (.list (ns.map .int))),some (.d (.int iv)),some (.d (.int (M:Int))),some (.d (.int now)),some (.d (.list (L.map yD))),u5,u6,some (.d (.list [.list (plD L.length h0),.list (plD L.length h1)])),some (.d (.list (nD sm))),some (.d G),none,none,none] =
  some (.nx [some (.d (.list (ns.map .int))),some (.d (.int iv)),some (.d (.int (M:Int))),some (.d (.int now)),some (.d (.list (L.map yD))),u5,u6,some (.d (.list [.list (plD L.length h0),.list (plD L.length h1)])),some (.d (.list (nD sm))),some (.d G),u10,u11,u12]):=fun G hG=>by
  obtain ⟨δ',e,u10,u11,u12,rfl⟩:=jN (g:=(gNl 10)) (b:=(b_ (bW 11 (uI iV (aG (aF 4) (aG (aF 2) (aG (aF 3) (aG (aF 10) (aG (gU (aG (gU (aV)) (aG (ou (gU (aG (aF 3) (aV)))) (aV)))) (aV)))))))) (b_ (sIf (D3.tOr (aY (dUn nA (aF 11))) (D3.tOr (aY (dOp gEq (aF 11) (gU (aV)))) (aY (dOp gNe (dCall gP (aG (dUn oM (aF 4)) (aG (aF 2) (aG (aF 3) (aG (aF 10) (aV)))))) (aF 11))))) (cT (dC (.bool false))) (dM)) (b_ (sIf (D3.tOr (aY (dOp gZ (dOp gIx (dOp gIx (aF 7) (dC (.int 0))) (aF 10)) (aF 11))) (aY (dOp gZ (dOp gIx (dOp gIx (aF 7) (dC (.int 1))) (aF 10)) (aF 11)))) (cT (dC (.bool false))) (dM)) (sIf (aY (dOp gNe (aF 10) (aF 9))) (b_ (bW 12 (dCall gP (aG (dOp ql (dSl (aF 4) rY (qm (aF 9))) (dSl (aF 4) (qm (dOp jo (aF 9) (dC (.int 1)))) rY)) (aG (aF 2) (aG (aF 3) (aG (dOp Bc (aF 10) (dCall vX (aG (dOp gLt (aF 9) (aF 10)) (aV)))) (aV))))))) (sIf (aY (dOp gNe (gh (jT (aF 11)) (gNl 0) (aY (dOp gZ (aF 0) (aF 1))) (cV (aF 0)) 1 [12]) (gU (aV)))) (cT (dC (.bool false))) (dM))) (dM))))))
   (fun i δ=>∃ u10 u11 u12:Option U,δ=[some (.d (.list (ns.map .int))),some (.d (.int iv)),some (.d (.int (M:Int))),some (.d (.int now)),some (.d (.list (L.map yD))),u5,u6,some (.d (.list [.list (plD L.length h0),.list (plD L.length h1)])),some (.d (.list (nD sm))),some (.d G),u10,u11,u12]) (nD (sm.take 5))
   [some (.d (.list (ns.map .int))),some (.d (.int iv)),some (.d (.int (M:Int))),some (.d (.int now)),some (.d (.list (L.map yD))),u5,u6,some (.d (.list [.list (plD L.length h0),.list (plD L.length h1)])),some (.d (.list (nD sm))),some (.d G),none,none,none] ⟨none,none,none,rfl⟩ (by
    rintro i d δ hd ⟨u10,u11,u12,rfl⟩
    obtain ⟨w,hwm,rfl⟩:=cX.mp (cZ hd)
    have hwm:=p7 hwm
    obtain ⟨hw,hn⟩:=ms w hwm
    obtain ⟨g,hg,rfl⟩:∃ g:Nat,g < L.length∧G = .int (g:Int):=by
     rcases hG with z | z
     ·rw [z] at hwm;cases hwm
     ·exact z
    have o1:iV _=_:=Uz ok hM n0 hw hn ef hf nf
    have o2:Gp iV [.list (L.map yD),.int (M:Int),.int now,.int (w:Int),.list [.list [],.list [.int now]]]=some (.list (nD (due L M w f M))):=o1
    have oc:∀ δ:DS,(aG (aF 4) (aG (aF 2) (aG (aF 3) (aG (aF 10) (aG (gU (aG (gU (aV)) (aG (ou (gU (aG (aF 3) (aV)))) (aV)))) (aV)))))) δ=some [.list (L.map yD),.int (M:Int),.int now,.int (w:Int),.list [.list [],.list [.int now]]]→uI iV (aG (aF 4) (aG (aF 2) (aG (aF 3) (aG (aF 10) (aG (gU (aG (gU (aV)) (aG (ou (gU (aG (aF 3) (aV)))) (aV)))) (aV)))))) δ=some (.list (nD (due L M w f M))):=fun δ h=>by
     unfold uI
     rw [h,aL,o2]
    have rf:=CG ok hM n0 hw hn ef hf nf
    have inD:∀ h:Nat→Int,Xg.Valid (ssT L now) h→(∀ k,k < L.length→0 ≤ h k∧h k < (M:Int))→(∀ k s,k < L.length→hk L k=some s→h k=(s:Int))→∃ r:Nat,pAt (plD L.length h) (w:Int)=some (.int (r:Int))∧r ∈ due L M w f M:=fun h v0 b0 z0=>by
     obtain ⟨r,er⟩:∃ r:Nat,(r:Int)=h w:=⟨(h w).toNat,by have:=(b0 w hw).1;omega⟩
     have hr:r < M:=by have:=(b0 w hw).2;omega
     refine ⟨r,by rw [er];exact vf (fun k=>PyData.int (h k)) hw,bM.mpr ⟨aR.mpr hr,pK.mpr ?_⟩⟩
     obtain ⟨hB,key⟩:=Cy ok hw hn hr hf v0 b0 z0 er.symm
     obtain ⟨S,eS',so,cl⟩:=sU ok hw (by have:=nf r hr;omega) hB
     exact (uK hB so cl).mp (key S so cl)
    obtain ⟨r0,a0,m0⟩:=inD h0 v0 b0 z0
    obtain ⟨r1,a1,m1⟩:=inD h1 v1 b1 z1
    have k0:=Fd m0
    have k1:=Fd m1
    have kn:=neN (Q:=due L M w f M) (fun z=>by rw [z] at m0;cases m0)
    have ks:=ne_self (d:=.list (nD (due L M w f M))) (KY (n:=2) (Gz (z7 _ (fun _=>Ej) _)) (by decide))
    have nN:isNone (.list (nD (due L M w f M)))=false:=rfl
    have dl:=Ae (L:=L) (M:=M) w f M
    by_cases wg:w=g
    ·have e0:decide ((w:Int)=(g:Int))=true:=dTr (by omega)
     refine ⟨_,[some (.d (.list (ns.map .int))),some (.d (.int iv)),some (.d (.int (M:Int))),some (.d (.int now)),some (.d (.list (L.map yD))),u5,u6,some (.d (.list [.list (plD L.length h0),.list (plD L.length h1)])),some (.d (.list (nD sm))),some (.d (.int (g:Int))),some (.d (.int (w:Int))),some (.d (.list (nD (due L M w f M)))),u12],rfl,.inl ?_,_,_,_,rfl⟩
     generalize nD (due L M w f M)=DU at *
     generalize nD sm=SM at *
     simp only [EV,reduceIte,au,aA,ao,aq,aB,aC,aD]
     rw [oc _ (by simp only [EV,reduceIte,au,aA,ao,aq,aB,aC,aD,zl0,zl1,zl2])]
     simp only [EV,reduceIte,au,aA,ao,aq,aB,aC,aD,nN,zl0,kn,rf,ks,at0,at1,a0,k0,a1,k1,e0,bR]
    ·have e0:decide ((w:Int)=(g:Int))=false:=dFa (by omega)
     obtain ⟨w',hi,ew⟩:∃ w':Nat,io g w'=w∧(w':Int)=(w:Int) - (if decide ((g:Int) < (w:Int))=true then 1 else 0):=by
      by_cases c:g < w
      ·refine ⟨w - 1,?_,?_⟩
       ·unfold io;rw [if_neg (by omega)];omega
       ·rw [if_pos (dTr (by omega))];omega
      ·refine ⟨w,?_,?_⟩
       ·unfold io;rw [if_pos (by omega)]
       ·rw [if_neg (by rw [dFa (by omega)];exact dB)];omega
     have hw':w' < (er L g).length:=by
      rw [Lx hg]
      unfold io at hi
      split at hi <;> omega
     have ok':=Af ok (Ly L g)
     obtain ⟨f',ef',hf'⟩:=xK (TO0.of ok') hM
     have nf':=nfg _ f' ok' hf'
     have hn':hk (er L g) w'=none:=by
      have:hk (er L g) w'=hk L w:=by unfold hk;rw [GQ hg,hi]
      rw [this];exact hn
     have rf':=CG ok' hM n0 hw' hn' ef' hf' nf'
     have iG:∀ b:Bool,vX [.bool b]=some (.int (if b=true then 1 else 0)):=fun _=>rfl
     rw [ew] at rf'
     have ct1:cutD (L.map yD) none (some (g:Int))=(L.take g).map yD:=by rw [QF (by omega),f9,rU]
     have ct2:cutD (L.map yD) (some ((g:Int) + 1)) none=(L.drop (g + 1)).map yD:=by rw [QD (by omega),show ((g:Int) + 1).toNat=g + 1 by omega,rW]
     have cat:ql (.list ((L.take g).map yD)) (.list ((L.drop (g + 1)).map yD))=some (.list ((er L g).map yD)):=by
      rw [yS,if_pos (by rw [aJ,aJ,gQ,gR];omega)]
      unfold er
      rw [cI]
     have dl':=Ae (L:=er L g) (M:=M) w' f' M
     have C3:d_ (gNl 0) (aY (dOp gZ (aF 0) (aF 1))) (cV (aF 0)) (jx 1 [12] [some (.d (.list (ns.map .int))),some (.d (.int iv)),some (.d (.int (M:Int))),some (.d (.int now)),some (.d (.list (L.map yD))),u5,u6,some (.d (.list [.list (plD L.length h0),.list (plD L.length h1)])),some (.d (.list (nD sm))),some (.d (.int (g:Int))),some (.d (.int (w:Int))),some (.d (.list (nD (due L M w f M)))),some (.d (.list (nD (due (er L g) M w' f' M))))]) (nD (due L M w f M))=some []:=by
      have:=w6 (g:=(gNl 0)) (c:=(aY (dOp gZ (aF 0) (aF 1)))) (e:=(cV (aF 0))) (δ:=[none,some (.d (.list (nD (due (er L g) M w' f' M))))]) (fun k:Nat=>PyData.int (k:Int)) (fun _=>false) (fun k:Nat=>PyData.int (k:Int)) (due L M w f M) fun r hr=>⟨[some (.d (.int (r:Int))),some (.d (.list (nD (due (er L g) M w' f' M))))],rfl,by
       obtain ⟨hr1,hr2⟩:=bM.mp hr
       have hr1:=aR.mp hr1
       have:=Fd (Q:=due (er L g) M w' f' M) (r:=r) (bM.mpr ⟨aR.mpr hr1,pK.mpr (Lz ok hM n0 hg hw hn hr1 hi hw' ef hf (nf r hr1) hf' (nf' r hr1) (pK.mp hr2))⟩)
       simp only [EV,reduceIte,au,aA,ao,aq,aB,aC,aD,this],fun z=>by cases z⟩
      rw [show (due L M w f M).filter (fun _=>false)=[] by rw [List.filter_eq_nil_iff];simp] at this
      exact this
     have lD:(nD (due L M w f M)).length ≤ 100000:=by unfold nD;rw [aJ];omega
     have nE:gNe (.list []) (.list [])=some (.bool false):=rfl
     refine ⟨_,[some (.d (.list (ns.map .int))),some (.d (.int iv)),some (.d (.int (M:Int))),some (.d (.int now)),some (.d (.list (L.map yD))),u5,u6,some (.d (.list [.list (plD L.length h0),.list (plD L.length h1)])),some (.d (.list (nD sm))),some (.d (.int (g:Int))),some (.d (.int (w:Int))),some (.d (.list (nD (due L M w f M)))),some (.d (.list (nD (due (er L g) M w' f' M))))],rfl,.inl ?_,_,_,_,rfl⟩
     generalize nD (due L M w f M)=DU at *
     generalize nD (due (er L g) M w' f' M)=DV at *
     generalize nD sm=SM at *
     simp only [EV,reduceIte,au,aA,ao,aq,aB,aC,aD]
     rw [oc _ (by simp only [EV,reduceIte,au,aA,ao,aq,aB,aC,aD,zl0,zl1,zl2])]
     simp only [EV,reduceIte,au,aA,ao,aq,aB,aC,aD,nN,zl0,kn,rf,ks,at0,at1,a0,k0,a1,k1,e0,cO,ct1,ct2,cat,iG,rf',lD,C3,nE])
  exact ⟨u10,u11,u12,e⟩
 unfold Ld
 by_cases hs:sm=[]
 ·have ne:gNe (.list (nD sm)) (.list [])=some (.bool false):=by rw [hs];rfl
  obtain ⟨u10,u11,u12,e⟩:=loop .none (.inl hs)
  generalize hPL:plD L.length h0=PL0 at *
  generalize hPL1:plD L.length h1=PL1 at *
  generalize nD (sm.take 5)=S5 at *
  generalize nD sm=SM at *
  simp only [EV,reduceIte,au,aA,ao,aq,aB,aC,aD,p4,hb4,iN,zl2,ix,p3,← eM,en,zl0,eS]
  rw [e1]
  simp only [EV,reduceIte,au,aA,ao,aq,aB,aC,aD,rg2,rl2,C0,ll,rg,rl,C1,zl0,ne,cut]
  rw [e]
  simp only [EV,reduceIte,au,aA,ao,aq,aB,aC,aD]
 ·have ne:=Ym hs
  have sp:(0:Int) < (sm.length:Int):=by
   have:=List.length_pos_iff.mpr hs
   omega
  have pg:=d9 (ns:=ns) (i:=42) (k:=0) (m:=(sm.length:Int)) (by decide) (by decide) (by decide) sp
  have rgg:=dO ns 42 0 sp
  generalize jh ns 42 0 (sm.length:Int)=y at *
  obtain ⟨j,ej⟩:∃ j:Nat,(j:Int)=y:=⟨y.toNat,by omega⟩
  have jl:j < sm.length:=by omega
  have aj:pAt (nD sm) y=some (.int ((sm[j]:Nat):Int)):=by
   rw [← ej,lJ]
   unfold nD
   rw [aN,aZ jl]
   rfl
  obtain ⟨u10,u11,u12,e⟩:=loop (.int ((sm[j]:Nat):Int)) (.inr ⟨sm[j],(ms _ (lq jl)).1,rfl⟩)
  generalize hPL:plD L.length h0=PL0 at *
  generalize hPL1:plD L.length h1=PL1 at *
  generalize nD (sm.take 5)=S5 at *
  generalize nD sm=SM at *
  simp only [EV,reduceIte,au,aA,ao,aq,aB,aC,aD,p4,hb4,iN,zl2,ix,p3,← eM,en,zl0,eS]
  rw [e1]
  simp only [EV,reduceIte,au,aA,ao,aq,aB,aC,aD,rg2,rl2,C0,ll,rg,rl,C1,zl0,ne,lsm,pg,aj,cut]
  rw [e]
  simp only [EV,reduceIte,au,aA,ao,aq,aB,aC,aD]
end K47
namespace K47
open PySem PySem.Spec PyProof.Rows L2 My D3 XS XK
def top (i:Nat):Stmt:=PySem.Challenge.pw_nightbook_k47_whole_one_of_both.main.body.getD i (.Pass ⟨0,0,0,0⟩)
section
seal PE PT PW PA PS PSs PG PGs PI PO PTs
variable {P:Program} {w:World} {K:PySem.W.Frag} {mg:Str→Option Value} {base:Heap} {n:Nat}
theorem CJ (D:Dg K mg "is_whole" (top 7) ["thing"]) (B:Bl mg):Has P w K mg base (n + 1) "is_whole" ["thing"] (spD K fH):=by
 have sc:FnScope ["thing"] ["thing"] (bx (top 7)):=fsc
 exact eG (fl:=[.A]) D sc (by decide) (by decide) fun f cdv A outer s H E hr=>aQ (bZ (cA (oE (bK (wH (T := "int") (by decide) (vP 0) (by rfl) B.isinstance_ (by rfl) B.int_ PyProof.Rows.boot_int)) (uz (RM (bK (wH (T := "bool") (by decide) (vP 0) (by rfl) B.isinstance_ (by rfl) B.bool_ PyProof.Rows.boot_bool)))))))
theorem Ah (D:Dg K mg "all_whole" (top 8) ["things"]) (B:Bl mg) (his_whole:Has P w K mg base n "is_whole" ["thing"] (spD K fH)):Has P w K mg base (n + 1) "all_whole" ["things"] (spD K iK):=by
 have sc:FnScope ["things"] ["things"] (bx (top 8)):=fsc
 exact eG (fl:=[.A]) D sc (by decide) (by decide) fun f cdv A outer s H E hr=>aQ (bZ (cA (eU (yJ rfl) Gb (by rfl) B.all_ (show bootBuiltins "all" = some (.builtin "all") by decide +kernel) (dq (bK (jq (L:=[]) (fl':=[.A]) rfl ["thing"] [] [] (Sd (vB 0)) (fun _ _ _ _ _=>gN' (i:=0) (show (["thing"]:List Str).Nodup by decide +kernel)) (fun _ _ _ _ _=>lH) (fun _ _ _ _ _=>bC his_whole hr (dq (vP 0) dz)))) dz))))
theorem xO (D:Dg K mg "is_tuple_of" (top 9) ["thing", "many"]) (B:Bl mg) (hall_whole:Has P w K mg base n "all_whole" ["things"] (spD K iK)):Has P w K mg base (n + 1) "is_tuple_of" ["thing", "many"] (spD K lN):=by
 have sc:FnScope ["thing", "many"] ["thing", "many"] (bx (top 9)):=fsc
 exact eG (fl:=[.A,.A]) D sc (by decide) (by decide) fun f cdv A outer s H E hr=>aQ (bZ (uR (oE (bK (wH (T := "tuple") (by decide) (vP 0) (by rfl) B.isinstance_ (by rfl) B.tuple_ PyProof.Rows.boot_tuple)) (oE (bK (lY (lu hr.units) ux (bK (eU cG jQ (by rfl) B.len_ PySem.boot_len (dq (vP 0) dz))) (vP 1) (cQ _))) (uz (bC hall_whole hr (dq (vP 0) dz)))))))
theorem Fe (D:Dg K mg "is_pair" (top 10) ["thing"]) (B:Bl mg) (his_tuple_of:Has P w K mg base n "is_tuple_of" ["thing", "many"] (spD K lN)):Has P w K mg base (n + 1) "is_pair" ["thing"] (spD K oU):=by
 have sc:FnScope ["thing"] ["thing"] (bx (top 10)):=fsc
 exact eG (fl:=[.A]) D sc (by decide) (by decide) fun f cdv A outer s H E hr=>aQ (bZ (uR (bC his_tuple_of hr (dq (vP 0) (dq iP dz)))))
theorem uM (D:Dg K mg "is_whole_list" (top 11) ["thing"]) (B:Bl mg) (hall_whole:Has P w K mg base n "all_whole" ["things"] (spD K iK)):Has P w K mg base (n + 1) "is_whole_list" ["thing"] (spD K eN):=by
 have sc:FnScope ["thing"] ["thing"] (bx (top 11)):=fsc
 exact eG (fl:=[.A]) D sc (by decide) (by decide) fun f cdv A outer s H E hr=>aQ (bZ (uR (oE (bK (wH (T := "list") (by decide) (vP 0) (by rfl) B.isinstance_ (by rfl) B.list_ PyProof.Rows.boot_list)) (uz (bC hall_whole hr (dq (vP 0) dz))))))
theorem Ai (D:Dg K mg "is_rising" (top 12) ["numbers"]) (B:Bl mg):Has P w K mg base (n + 1) "is_rising" ["numbers"] (spD K iJ):=by
 have sc:FnScope ["numbers"] ["numbers"] (bx (top 12)):=fsc
 exact eG (fl:=[.A]) D sc (by decide) (by decide) fun f cdv A outer s H E hr=>aQ (bZ (cA (eU (yJ rfl) Gb (by rfl) B.all_ (show bootBuiltins "all" = some (.builtin "all") by decide +kernel) (dq (bK (jq (L:=[]) (fl':=[.A,.A]) rfl ["one", "other"] [] [] (R3 (L1:=[]) (L2:=[]) (vB 0) (dG (oN (Ga (vB 0) (vC iP) vq))) (by rfl) B.zip_) (fun _ _ _ _ _=>sI rfl (iD (gN' (i:=0) (show (["one", "other"]:List Str).Nodup by decide +kernel)) (iD (gN' (i:=1) (show (["one", "other"]:List Str).Nodup by decide +kernel)) (pH)))) (fun _ _ _ _ _=>lH) (fun _ _ _ _ _=>gF (lY mq b_lt (vP 0) (vP 1) (cQ _))))) dz))))
theorem xY (D:Dg K mg "is_stretch" (top 15) ["thing"]) (B:Bl mg) (his_pair:Has P w K mg base n "is_pair" ["thing"] (spD K oU)) (gNIGHTS:∃ t,mg "NIGHTS" = some (.int 400 t)):Has P w K mg base (n + 1) "is_stretch" ["thing"] (spD K k_):=by
 have sc:FnScope ["thing"] ["thing"] (bx (top 15)):=fsc
 exact eG (fl:=[.A]) D sc (by decide) (by decide) fun f cdv A outer s H E hr=>aQ (bZ (cA (oE (dU (bC his_pair hr (dq (vP 0) dz))) (uz (Hs qd mq qd wD b_lt wD iP (cF (dx (vB 0) iP)) (cF (dx (vB 0) iP)) (bK (M5 gNIGHTS)))))))
theorem Aj (D:Dg K mg "nights_of" (top 16) ["stay"]) (B:Bl mg):Has P w K mg base (n + 1) "nights_of" ["stay"] (spD K cM):=by
 have sc:FnScope ["stay"] ["stay"] (bx (top 16)):=fsc
 exact eG (fl:=[.A]) D sc (by decide) (by decide) fun f cdv A outer s H E hr=>aQ (bZ (mZ rfl (dq (cA (fO (cF (dx (vB 0) iP)))) (dq (cA (fO (cF (dx (vB 0) iP)))) dz))))
theorem LK (D:Dg K mg "holds" (top 17) ["stretch", "night"]) (B:Bl mg):Has P w K mg base (n + 1) "holds" ["stretch", "night"] (spD K jO):=by
 have sc:FnScope ["stretch", "night"] ["stretch", "night"] (bx (top 17)):=fsc
 exact eG (fl:=[.A,.A]) D sc (by decide) (by decide) fun f cdv A outer s H E hr=>aQ (bZ (cA (wG qd mq wD b_lt (cF (dx (vB 0) iP)) (vP 1) (cF (dx (vB 0) iP)))))
theorem I_ (D:Dg K mg "shared" (top 18) ["one", "other"]) (B:Bl mg):Has P w K mg base (n + 1) "shared" ["one", "other"] (spD K oR):=by
 have sc:FnScope ["one", "other", "first", "behind"] ["one", "other"] (bx (top 18)):=fsc
 exact eG (fl:=[.A,.A,.A,.A]) D sc (by decide) (by decide) fun f cdv A outer s H E hr=>aP (sA (i:=2) sc.nd (fD (eU (um rfl) DK (by rfl) B.max_ PyProof.Rows.boot_max (dq (cF (dx (vB 0) iP)) (dq (cF (dx (vB 1) iP)) dz)))))
  (aP (sA (i:=3) sc.nd (fD (eU (q_ rfl) zF (by rfl) B.min_ PyProof.Rows.boot_min (dq (cF (dx (vB 0) iP)) (dq (cF (dx (vB 1) iP)) dz)))))
  (aP (eE (cR Fv M9 (vP 2) (vP 3) (cQ _)) (aQ (bZ (cA (pG)))) (cH))
  (aQ (bZ (mZ rfl (dq (cA (fO (vP 2))) (dq (cA (fO (vP 3))) dz)))))))
theorem LQ (D:Dg K mg "meets" (top 19) ["one", "other"]) (B:Bl mg) (hshared:Has P w K mg base n "shared" ["one", "other"] (spD K oR)):Has P w K mg base (n + 1) "meets" ["one", "other"] (spD K mK):=by
 have sc:FnScope ["one", "other"] ["one", "other"] (bx (top 19)):=fsc
 exact eG (fl:=[.A,.A]) D sc (by decide) (by decide) fun f cdv A outer s H E hr=>aQ (bZ (cA (Ng (dU (bC hshared hr (dq (vP 0) (dq (vP 1) dz)))))))
theorem CK (D:Dg K mg "count_at" (top 20) ["stretches", "night"]) (B:Bl mg) (hholds:Has P w K mg base n "holds" ["stretch", "night"] (spD K jO)):Has P w K mg base (n + 1) "count_at" ["stretches", "night"] (spD K iR):=by
 have sc:FnScope ["stretches", "night"] ["stretches", "night"] (bx (top 20)):=fsc
 exact eG (fl:=[.A,.A]) D sc (by decide) (by decide) fun f cdv A outer s H E hr=>aQ (bZ (cA (eU cG jQ (by rfl) B.len_ PySem.boot_len (dq (bK (jq (L:=[]) (fl':=[.A,.A]) rfl ["stretch"] ["night"] [1] (fG (vB 0)) (fun _ _ _ _ _=>gN' (i:=0) (show (["stretch", "night"]:List Str).Nodup by decide +kernel)) (fun _ _ _ _ _=>jZ (lZ (dU (bC hholds hr (dq (vP 0) (dq (vP 1) dz)))))) (fun _ _ _ _ _=>gF (fO (vP 0))))) dz))))
theorem Ja (D:Dg K mg "firsts" (top 21) ["stretches"]) (B:Bl mg):Has P w K mg base (n + 1) "firsts" ["stretches"] (spD K m_):=by
 have sc:FnScope ["stretches"] ["stretches"] (bx (top 21)):=fsc
 exact eG (fl:=[.A]) D sc (by decide) (by decide) fun f cdv A outer s H E hr=>aQ (bZ (cA (jq (L:=[]) (fl':=[.A]) rfl ["stretch"] [] [] (fG (vB 0)) (fun _ _ _ _ _=>gN' (i:=0) (show (["stretch"]:List Str).Nodup by decide +kernel)) (fun _ _ _ _ _=>lH) (fun _ _ _ _ _=>gF (fO (cF (dx (vB 0) iP)))))))
theorem Jb (D:Dg K mg "fuller" (top 22) ["stretches", "many", "since"]) (B:Bl mg) (hcount_at:Has P w K mg base n "count_at" ["stretches", "night"] (spD K iR)) (hfirsts:Has P w K mg base n "firsts" ["stretches"] (spD K m_)):Has P w K mg base (n + 1) "fuller" ["stretches", "many", "since"] (spD K kZ):=by
 have sc:FnScope ["stretches", "many", "since", "later", "night"] ["stretches", "many", "since"] (bx (top 22)):=fsc
 exact eG (fl:=[.A,.A,.A,.A,.A]) D sc (by decide) (by decide) fun f cdv A outer s H E hr=>aP (qx (i:=3) (L:=[]) (fl':=[.A,.A]) rfl sc.nd rfl rfl rfl ["first"] ["since"] [2] (fG (dG (jD (bC hfirsts hr (dq (vP 0) dz))))) (fun _ _ _ _ _=>gN' (i:=0) (show (["first", "since"]:List Str).Nodup by decide +kernel)) (fun _ _ _ _ _=>jZ (cR yt Ho (vP 0) (vP 1) (cQ _))) (fun _ _ _ _ _=>gF (fO (vP 0))))
  (aP (jg (L:=[]) PassesOwn.never rfl (fG (dG (oN (wI (dG (oN (rD (dq (vA 2) dz)))) (dG (fD (uF (dq (vP 3) dz) (by rfl) B.sorted_))))))) (gN' (i:=4) sc.nd) (aQ (eE (cR yt Ho (dU (bC hcount_at hr (dq (vP 0) (dq (vP 4) dz)))) (vP 1) (cQ _)) (aQ (bZ (cA (fO (vP 4))))) (cH))))
  (aQ (bZ (cA (pG)))))
theorem Fg (D:Dg K mg "is_stay" (top 24) ["thing", "rooms", "now"]) (B:Bl mg) (his_whole:Has P w K mg base n "is_whole" ["thing"] (spD K fH)) (his_stretch:Has P w K mg base n "is_stretch" ["thing"] (spD K k_)) (hnights_of:Has P w K mg base n "nights_of" ["stay"] (spD K cM)) (hholds:Has P w K mg base n "holds" ["stretch", "night"] (spD K jO)):Has P w K mg base (n + 1) "is_stay" ["thing", "rooms", "now"] (spD K lB):=by
 have sc:FnScope ["thing", "rooms", "now", "room"] ["thing", "rooms", "now"] (bx (top 24)):=fsc
 exact eG (fl:=[.A,.A,.A,.A]) D sc (by decide) (by decide) fun f cdv A outer s H E hr=>aP (eE (qu (nW (m5 (lZ (bK (wH (T := "tuple") (by decide) (vP 0) (by rfl) B.isinstance_ (by rfl) B.tuple_ PyProof.Rows.boot_tuple)))) (nW (cR (pA hr.units) zA (bK (eU cG jQ (by rfl) B.len_ PySem.boot_len (dq (vP 0) dz))) iP (cQ _)) (m6 (m5 (lZ (dU (bC his_stretch hr (dq (dU (bC hnights_of hr (dq (vP 0) dz))) dz))))))))) (aQ (bZ (cA (nR)))) (cH))
  (aP (sA (i:=3) sc.nd (dx (vB 0) iP))
  (aP (eE (qH (vP 3)) (aQ (bZ (cA (lY Fv M9 (cF (dx (vB 0) iP)) (vP 2) (cQ _))))) (cH))
  (aQ (bZ (uR (oE (dU (bC his_whole hr (dq (vP 3) dz))) (oE (bK (wG qd mq wD b_lt iP (vP 3) (vP 1))) (uz (bC hholds hr (dq (dU (bC hnights_of hr (dq (vP 0) dz))) (dq (vP 2) dz)))))))))))
theorem xP (D:Dg K mg "check_stays" (top 25) ["stays", "rooms", "now"]) (B:Bl mg) (his_stay:Has P w K mg base n "is_stay" ["thing", "rooms", "now"] (spD K lB)):Has P w K mg base (n + 1) "check_stays" ["stays", "rooms", "now"] (spD K iU):=by
 have sc:FnScope ["stays", "rooms", "now", "taken", "at", "stay"] ["stays", "rooms", "now"] (bx (top 25)):=fsc
 exact eG (fl:=[.A,.A,.A,.N,.A,.A]) D sc (by decide) (by decide) fun f cdv A outer s H E hr=>aP (Gf (i:=3) rfl sc.nd rfl (by first | exact Or.inl rfl | exact Or.inr rfl) (Nq))
  (aQ (jg (L:=[]) PassesOwn.never rfl (tO (vB 0) (by rfl) B.enumerate_) (sI rfl (iD (gN' (i:=4) sc.nd) (iD (gN' (i:=5) sc.nd) (pH)))) (aP (eE (m5 (lZ (dU (bC his_stay hr (dq (vP 5) (dq (vP 1) (dq (vP 2) dz))))))) (aQ (qy)) (cH))
  (aP (eE (cR (XB.SJ hr.units) XB.VP (cF (dx (vB 5) iP)) (Ge 3 rfl) (by with_unfolding_all rfl)) (aQ (qy)) (cH))
  (aQ (eE (nY (cF (dx (vB 5) iP))) (aQ (XB.N_ (XK.hu1 hr.units) (i:=3) rfl Qj (cF (dx (vB 5) iP)) rfl)) (cH)))))))
theorem xZ (D:Dg K mg "check_full" (top 26) ["stays", "rooms", "now"]) (B:Bl mg) (hnights_of:Has P w K mg base n "nights_of" ["stay"] (spD K cM)) (hfuller:Has P w K mg base n "fuller" ["stretches", "many", "since"] (spD K kZ)):Has P w K mg base (n + 1) "check_full" ["stays", "rooms", "now"] (spD K iH):=by
 have sc:FnScope ["stays", "rooms", "now", "night"] ["stays", "rooms", "now"] (bx (top 26)):=fsc
 exact eG (fl:=[.A,.A,.A,.A]) D sc (by decide) (by decide) fun f cdv A outer s H E hr=>aP (sA (i:=3) sc.nd (jD (bC hfuller hr (dq (bK (jq (L:=[]) (fl':=[.A]) rfl ["stay"] [] [] (fG (vB 0)) (fun _ _ _ _ _=>gN' (i:=0) (show (["stay"]:List Str).Nodup by decide +kernel)) (fun _ _ _ _ _=>lH) (fun _ _ _ _ _=>bC hnights_of hr (dq (vP 0) dz)))) (dq (vP 1) (dq (vP 2) dz))))))
  (aQ (eE (nY (vP 3)) (aQ (qy)) (cH)))
theorem uN {Pt:Addr} (D:XL.DgT K mg "still_to_come" (top 27) ["stays"] Pt "still_to_come.<locals>.<lambda>" ⟨82,30,82,59⟩) (B:Bl mg):Has P w K mg base (n + 1) "still_to_come" ["stays"] (spD K ju):=by
 have sc:FnScope ["stays", "places"] ["stays"] (bx (top 27)):=fsc
 exact XL.Td (fl:=[.A,.A]) D sc (by decide) (by decide) fun f c A outer s H E hcd hr=>aP (qx (i:=1) (L:=[]) (fl':=[.A,.A]) rfl sc.nd rfl rfl rfl ["place", "stay"] [] [] (tO (vB 0) (by rfl) B.enumerate_) (fun _ _ _ _ _=>sI rfl (iD (gN' (i:=0) (show (["place", "stay"]:List Str).Nodup by decide +kernel)) (iD (gN' (i:=1) (show (["place", "stay"]:List Str).Nodup by decide +kernel)) (pH)))) (fun _ _ _ _ _=>jZ (qH (cF (dx (vB 1) iP)))) (fun _ _ _ _ _=>gF (fO (vP 0))))
  (aQ (bZ (cA (XL.Eh (i:=0) ⟨⟨_,rfl,hcd⟩,rfl,D.tb⟩ hr (dq (vP 1) JT) (by rfl) B.sorted_ rfl rfl rfl rfl (fun _ h=>XL.Kr rfl h) (fun _ _ _ _ _=>rfl) rfl rfl rfl (by decide +kernel) rfl rfl (by decide) (by decide) (by decide) rfl rfl))))
theorem yc (D:Dg K mg "beginnings" (top 28) ["stays", "rooms", "now"]) (B:Bl mg):Has P w K mg base (n + 1) "beginnings" ["stays", "rooms", "now"] (spD K bY):=by
 have sc:FnScope ["stays", "rooms", "now", "nights", "stay"] ["stays", "rooms", "now"] (bx (top 28)):=fsc
 exact eG (fl:=[.A,.A,.A,.O,.A]) D sc (by decide) (by decide) fun f cdv A outer s H E hr=>aP (lE (i:=3) rfl sc.nd rfl (by first | exact Or.inl rfl | exact Or.inr rfl) (RP (rD (dq (vA 2) dz)) (vP 1)))
  (aP (jg (L:=[]) PassesOwn.never rfl (fG (vB 0)) (gN' (i:=4) sc.nd) (aQ (eE (nY (cF (dx (vB 4) iP))) (aQ (uy (i:=3) rfl (dx (vB 4) iP) (cF (dx (vB 4) iP)) rfl)) (cH))))
  (aQ (bZ (nQ 3 (by decide)))))
theorem yd (D:Dg K mg "first_free" (top 29) ["begin", "night"]) (B:Bl mg):Has P w K mg base (n + 1) "first_free" ["begin", "night"] (spD K gH):=by
 have sc:FnScope ["begin", "night"] ["begin", "night"] (bx (top 29)):=fsc
 exact eG (fl:=[.A,.A]) D sc (by decide) (by decide) fun f cdv A outer s H E hr=>aQ (bZ (cA (fO (cF (dx (dG (fD (jq (L:=[]) (fl':=[.A,.A,.A]) rfl ["room", "since"] ["night"] [1] (tO (vB 0) (by rfl) B.enumerate_) (fun _ _ _ _ _=>sI rfl (iD (gN' (i:=0) (show (["room", "since", "night"]:List Str).Nodup by decide +kernel)) (iD (gN' (i:=1) (show (["room", "since", "night"]:List Str).Nodup by decide +kernel)) (pH)))) (fun _ _ _ _ _=>jZ (cR qd wD (vP 1) (vP 2) (cQ _))) (fun _ _ _ _ _=>gF (fO (vP 0)))))) iP)))))
theorem Jc (D:Dg K mg "filled" (top 30) ["stays", "plan", "begin"]) (B:Bl mg) (hstill_to_come:Has P w K mg base n "still_to_come" ["stays"] (spD K ju)) (hfirst_free:Has P w K mg base n "first_free" ["begin", "night"] (spD K gH)):Has P w K mg base (n + 1) "filled" ["stays", "plan", "begin"] (spD K qY):=by
 have sc:FnScope ["stays", "plan", "begin", "seats", "free_since", "place", "room"] ["stays", "plan", "begin"] (bx (top 30)):=fsc
 exact eG (fl:=[.A,.A,.A,.O,.O,.A,.A]) D sc (by decide) (by decide) fun f cdv A outer s H E hr=>aP (lE (i:=3) rfl sc.nd rfl (by first | exact Or.inl rfl | exact Or.inr rfl) (tM (vB 1) (by rfl) B.list_))
  (aP (lE (i:=4) rfl sc.nd rfl (by first | exact Or.inl rfl | exact Or.inr rfl) (tM (vB 2) (by rfl) B.list_))
  (aP (jg (L:=[]) PassesOwn.never rfl (fG (dG (jD (bC hstill_to_come hr (dq (vP 0) dz))))) (gN' (i:=5) sc.nd) (aQ (eE (qH (cF (dx (jy 3) (vP 5)))) (aP (sA (i:=6) sc.nd (jD (bC hfirst_free hr (dq (qt (jy 4)) (dq (cF (dx (dG (dx (vB 0) (vP 5))) iP)) dz)))))
  (aP (uy (i:=3) rfl (vA 6) (vP 5) rfl)
  (aQ (uy (i:=4) rfl (dx (dG (dx (vB 0) (vP 5))) iP) (vP 6) rfl)))) (cH))))
  (aQ (bZ (nQ 3 (by decide))))))
theorem Ak (D:Dg K mg "check_who" (top 32) ["stays", "rooms", "now", "who"]) (B:Bl mg) (hcheck_stays:Has P w K mg base n "check_stays" ["stays", "rooms", "now"] (spD K iU)) (hcheck_full:Has P w K mg base n "check_full" ["stays", "rooms", "now"] (spD K iH)):Has P w K mg base (n + 1) "check_who" ["stays", "rooms", "now", "who"] (spD K iM):=by
 have sc:FnScope ["stays", "rooms", "now", "who"] ["stays", "rooms", "now", "who"] (bx (top 32)):=fsc
 exact eG (fl:=[.A,.A,.A,.A]) D sc (by decide) (by decide) fun f cdv A outer s H E hr=>aP (nU (dU (bC hcheck_stays hr (dq (vP 0) (dq (vP 1) (dq (vP 2) dz))))))
  (aP (nU (dU (bC hcheck_full hr (dq (vP 0) (dq (vP 1) (dq (vP 2) dz))))))
  (aQ (eE (qu (nW (m5 (BK qd mq wD b_lt iP (vP 3) (bK (eU cG jQ (by rfl) B.len_ PySem.boot_len (dq (vP 0) dz))))) (m6 (nY (cF (dx (dG (dx (vB 0) (vP 3))) iP)))))) (aQ (qy)) (cH))))
theorem yg (D:Dg K mg "check_room" (top 33) ["rooms", "room"]) (B:Bl mg):Has P w K mg base (n + 1) "check_room" ["rooms", "room"] (spD K dI):=by
 have sc:FnScope ["rooms", "room"] ["rooms", "room"] (bx (top 33)):=fsc
 exact eG (fl:=[.A,.A]) D sc (by decide) (by decide) fun f cdv A outer s H E hr=>aQ (eE (m5 (BK qd mq wD b_lt iP (vP 1) (vP 0))) (aQ (qy)) (cH))
theorem CN (D:Dg K mg "is_tight" (top 34) ["stays", "rooms", "night"]) (B:Bl mg) (hnights_of:Has P w K mg base n "nights_of" ["stay"] (spD K cM)) (hcount_at:Has P w K mg base n "count_at" ["stretches", "night"] (spD K iR)):Has P w K mg base (n + 1) "is_tight" ["stays", "rooms", "night"] (spD K jr):=by
 have sc:FnScope ["stays", "rooms", "night"] ["stays", "rooms", "night"] (bx (top 34)):=fsc
 exact eG (fl:=[.A,.A,.A]) D sc (by decide) (by decide) fun f cdv A outer s H E hr=>aQ (bZ (cA (lY (lu hr.units) ux (dU (bC hcount_at hr (dq (bK (jq (L:=[]) (fl':=[.A]) rfl ["stay"] [] [] (fG (vB 0)) (fun _ _ _ _ _=>gN' (i:=0) (show (["stay"]:List Str).Nodup by decide +kernel)) (fun _ _ _ _ _=>lH) (fun _ _ _ _ _=>bC hnights_of hr (dq (vP 0) dz)))) (dq (vP 2) dz)))) (vP 1) (cQ _))))
theorem yh (D:Dg K mg "goes_ahead" (top 35) ["stays", "who", "place", "night"]) (B:Bl mg):Has P w K mg base (n + 1) "goes_ahead" ["stays", "who", "place", "night"] (spD K fQ):=by
 have sc:FnScope ["stays", "who", "place", "night", "stay"] ["stays", "who", "place", "night"] (bx (top 35)):=fsc
 exact eG (fl:=[.A,.A,.A,.A,.A]) D sc (by decide) (by decide) fun f cdv A outer s H E hr=>aP (sA (i:=4) sc.nd (dx (vB 0) (vP 2)))
  (aQ (bZ (cA (oE (bK (lY (pA hr.units) zA (vP 2) (vP 1) (cQ _))) (oE (bK (RN (cF (dx (vB 4) iP)))) (oE (bK (lY (lu hr.units) ux (cF (dx (vB 4) iP)) (vP 3) (cQ _))) (uz (lY qd wD (cF (dx (vB 4) iP)) (cF (dx (dG (dx (vB 0) (vP 1))) iP)) (cQ _)))))))))
theorem yj (D:Dg K mg "steps_from" (top 36) ["stays", "rooms", "who", "night"]) (B:Bl mg) (his_tight:Has P w K mg base n "is_tight" ["stays", "rooms", "night"] (spD K jr)) (hgoes_ahead:Has P w K mg base n "goes_ahead" ["stays", "who", "place", "night"] (spD K fQ)):Has P w K mg base (n + 1) "steps_from" ["stays", "rooms", "who", "night"] (spD K dJ):=by
 have sc:FnScope ["stays", "rooms", "who", "night", "steps"] ["stays", "rooms", "who", "night"] (bx (top 36)):=fsc
 exact eG (fl:=[.A,.A,.A,.A,.O]) D sc (by decide) (by decide) fun f cdv A outer s H E hr=>aP (Bv (i:=4) (L:=[]) (fl':=[.A,.A,.A,.A,.A]) rfl sc.nd rfl rfl rfl ["place", "stay"] ["stays", "who", "night"] [0,2,3] (tO (vB 0) (by rfl) B.enumerate_) (fun _ _ _ _ _=>sI rfl (iD (gN' (i:=0) (show (["place", "stay", "stays", "who", "night"]:List Str).Nodup by decide +kernel)) (iD (gN' (i:=1) (show (["place", "stay", "stays", "who", "night"]:List Str).Nodup by decide +kernel)) (pH)))) (fun _ _ _ _ _=>jZ (lZ (dU (bC hgoes_ahead hr (dq (vP 2) (dq (vP 3) (dq (vP 0) (dq (vP 4) dz)))))))) (fun _ _ _ _ _=>gF (fO (cF (mZ rfl (dq (dx (vB 1) iP) (dq (vA 0) dz)))))))
  (aP (eE (m5 (lZ (dU (bC his_tight hr (dq (vP 0) (dq (vP 1) (dq (vP 3) dz))))))) (aQ (rB (i:=4) rfl (jD (mZ rfl (dq (gF (dW gY jE (vP 3) iP)) (dq (gF (pG)) dz)))) rfl)) (cH))
  (aQ (bZ (nQ 4 (by decide)))))
theorem ud (D:Dg K mg "nights_reached" (top 37) ["stays", "rooms", "who", "begin"]) (B:Bl mg) (hsteps_from:Has P w K mg base n "steps_from" ["stays", "rooms", "who", "night"] (spD K dJ)):Has P w K mg base (n + 1) "nights_reached" ["stays", "rooms", "who", "begin"] (spD K fP):=by
 have sc:FnScope ["stays", "rooms", "who", "begin", "reached", "night", "step"] ["stays", "rooms", "who", "begin"] (bx (top 37)):=fsc
 exact eG (fl:=[.A,.A,.A,.A,.N,.A,.A]) D sc (by decide) (by decide) fun f cdv A outer s H E hr=>aP (Gf (i:=4) rfl sc.nd rfl (by first | exact Or.inl rfl | exact Or.inr rfl) (XD.Kl (vP 3)))
  (aP (jg (L:=[]) PassesOwn.never rfl (Hq (by rfl) B.range_ (pU (dq (vP 3) (dq (cF (dx (dG (dx (vB 0) (vP 2))) iP)) dz)))) (gN' (i:=5) sc.nd) (aQ (eE (cR (XK.Sx hr.units) XD.SX (vP 5) (Ge 4 rfl) (by with_unfolding_all rfl)) (aQ (jg (L:=[]) PassesOwn.never rfl (fG (dG (jD (bC hsteps_from hr (dq (vP 0) (dq (vP 1) (dq (vP 2) (dq (vP 5) dz)))))))) (gN' (i:=6) sc.nd) (aQ (XD.S9 (i:=4) rfl (cF (dx (vB 6) iP)) (cF (mZ rfl (dq (vA 5) (dq (dx (vB 6) iP) dz)))) rfl ⟨rfl,rfl,rfl,rfl⟩)))) (cH))))
  (aQ (bZ (J1 4 rfl))))
theorem CP (D:Dg K mg "chain_to" (top 38) ["reached", "last"]) (B:Bl mg):Has P w K mg base (n + 1) "chain_to" ["reached", "last"] (spD K nj):=by
 have sc:FnScope ["reached", "last", "chain", "night", "place"] ["reached", "last"] (bx (top 38)):=fsc
 exact eG (fl:=[.A,.A,.O,.A,.A]) D sc (by decide) (by decide) fun f cdv A outer s H E hr=>aP (lE (i:=2) rfl sc.nd rfl (by first | exact Or.inl rfl | exact Or.inr rfl) (qp (gG dz)))
  (aP (sA (i:=3) sc.nd (vA 1))
  (aP (JQ PassesOwn.never (nY (bK (XD.wY (XK.hu1 hr.units) (vP 0) (vP 3) (fun _ _=>rfl)))) (aP (sA (i:=4) sc.nd (dx (dG (fD (XD.wY (XK.hu1 hr.units) (vP 0) (vP 3) (fun _ _=>rfl)))) iP))
  (aP (eE (nY (vP 4)) (aQ (DP (i:=2) rfl iP (vA 4) rfl)) (cH))
  (aQ (sA (i:=3) sc.nd (dx (dG (fD (XD.wY (XK.hu1 hr.units) (vP 0) (vP 3) (fun _ _=>rfl)))) iP))))))
  (aQ (bZ (nQ 2 (by decide))))))
theorem Al (D:Dg K mg "plan_with" (top 39) ["stays", "rooms", "now", "who", "room", "chain"]) (B:Bl mg) (hbeginnings:Has P w K mg base n "beginnings" ["stays", "rooms", "now"] (spD K bY)) (hfilled:Has P w K mg base n "filled" ["stays", "plan", "begin"] (spD K qY)):Has P w K mg base (n + 1) "plan_with" ["stays", "rooms", "now", "who", "room", "chain"] (spD K lX):=by
 have sc:FnScope ["stays", "rooms", "now", "who", "room", "chain", "plan", "place", "begin"] ["stays", "rooms", "now", "who", "room", "chain"] (bx (top 39)):=fsc
 exact eG (fl:=[.A,.A,.A,.A,.A,.A,.O,.A,.O]) D sc (by decide) (by decide) fun f cdv A outer s H E hr=>aP (Bv (i:=6) (L:=[]) (fl':=[.A]) rfl sc.nd rfl rfl rfl ["stay"] [] [] (fG (vB 0)) (fun _ _ _ _ _=>gN' (i:=0) (show (["stay"]:List Str).Nodup by decide +kernel)) (fun _ _ _ _ _=>lH) (fun _ _ _ _ _=>gF (fO (cF (dx (vB 0) iP)))))
  (aP (jg (L:=[]) PassesOwn.never rfl (fG (dG (oN (wI (vB 5) (dG (oN (rD (dq (vA 3) dz)))))))) (gN' (i:=7) sc.nd) (aQ (uy (i:=6) rfl (vA 4) (vP 7) rfl)))
  (aP (lE (i:=8) rfl sc.nd rfl (by first | exact Or.inl rfl | exact Or.inr rfl) (qp (JK (bC hbeginnings hr (dq (vP 0) (dq (vP 1) (dq (vP 2) dz)))))))
  (aP (uy (i:=8) rfl (dx (dG (dx (vB 0) (vP 3))) iP) (vP 4) rfl)
  (aQ (bZ (uR (bC hfilled hr (dq (vP 0) (dq (qt (jy 6)) (dq (qt (jy 8)) dz))))))))))
theorem CQ (D:Dg K mg "may_have" (top 40) ["stays", "rooms", "now", "who", "room"]) (B:Bl mg) (hbeginnings:Has P w K mg base n "beginnings" ["stays", "rooms", "now"] (spD K bY)) (hcheck_who:Has P w K mg base n "check_who" ["stays", "rooms", "now", "who"] (spD K iM)) (hcheck_room:Has P w K mg base n "check_room" ["rooms", "room"] (spD K dI)) (hnights_reached:Has P w K mg base n "nights_reached" ["stays", "rooms", "who", "begin"] (spD K fP)) (hchain_to:Has P w K mg base n "chain_to" ["reached", "last"] (spD K nj)) (hplan_with:Has P w K mg base n "plan_with" ["stays", "rooms", "now", "who", "room", "chain"] (spD K lX)):Has P w K mg base (n + 1) "may_have" ["stays", "rooms", "now", "who", "room"] (spD K eV):=by
 have sc:FnScope ["stays", "rooms", "now", "who", "room", "begin", "first", "reached", "chain"] ["stays", "rooms", "now", "who", "room"] (bx (top 40)):=fsc
 exact eG (fl:=[.A,.A,.A,.A,.A,.A,.A,.A,.O]) D sc (by decide) (by decide) fun f cdv A outer s H E hr=>aP (nU (dU (bC hcheck_who hr (dq (vP 0) (dq (vP 1) (dq (vP 2) (dq (vP 3) dz)))))))
  (aP (nU (dU (bC hcheck_room hr (dq (vP 1) (dq (vP 4) dz)))))
  (aP (sA (i:=5) sc.nd (dx (dG (jD (bC hbeginnings hr (dq (vP 0) (dq (vP 1) (dq (vP 2) dz)))))) (vP 4)))
  (aP (sA (i:=6) sc.nd (dx (dG (dx (vB 0) (vP 3))) iP))
  (aP (eE (cR yt Ho (vP 5) (vP 6) (cQ _)) (aQ (bZ (mZ rfl (dq (cA (ur)) (dq (cA (gG dz)) dz))))) (cH))
  (aP (sA (i:=7) sc.nd (jD (bC hnights_reached hr (dq (vP 0) (dq (vP 1) (dq (vP 3) (dq (vP 5) dz)))))))
  (aP (eE (cR (XK.HN hr.units) XD.HX (vP 6) (vP 7) (by with_unfolding_all rfl)) (aQ (bZ (mZ rfl (dq (cA (ur)) (dq (cA (XD.HY rfl (dq (vP 7) dz) (by rfl) B.sorted_)) dz))))) (cH))
  (aP (lE (i:=8) rfl sc.nd rfl (by first | exact Or.inl rfl | exact Or.inr rfl) (qp (JK (bC hchain_to hr (dq (vP 7) (dq (vP 6) dz))))))
  (aQ (bZ (mZ rfl (dq (cA (ur)) (dq (nQ 8 (by decide)) (dq (uR (bC hplan_with hr (dq (vP 0) (dq (vP 1) (dq (vP 2) (dq (vP 3) (dq (vP 4) (dq (qt (jy 8)) dz)))))))) dz)))))))))))))
theorem Am (D:Dg K mg "is_closed" (top 41) ["stays", "rooms", "who", "nights"]) (B:Bl mg) (hsteps_from:Has P w K mg base n "steps_from" ["stays", "rooms", "who", "night"] (spD K dJ)):Has P w K mg base (n + 1) "is_closed" ["stays", "rooms", "who", "nights"] (spD K fX):=by
 have sc:FnScope ["stays", "rooms", "who", "nights", "night", "step"] ["stays", "rooms", "who", "nights"] (bx (top 41)):=fsc
 exact eG (fl:=[.A,.A,.A,.A,.A,.A]) D sc (by decide) (by decide) fun f cdv A outer s H E hr=>aP (jg (L:=[]) PassesOwn.never rfl (fG (vB 3)) (gN' (i:=4) sc.nd) (aQ (jg (L:=[]) PassesOwn.never rfl (fG (dG (jD (bC hsteps_from hr (dq (vP 0) (dq (vP 1) (dq (vP 2) (dq (vP 4) dz)))))))) (gN' (i:=5) sc.nd) (aQ (eE (cR (mO hr.units) rH (cF (dx (vB 5) iP)) (vP 3) (by with_unfolding_all rfl)) (aQ (bZ (cA (nR)))) (cH))))))
  (aQ (bZ (cA (nR))))
theorem Fi (D:Dg K mg "is_shut" (top 42) ["stays", "rooms", "now", "who", "room", "thing"]) (B:Bl mg) (his_whole_list:Has P w K mg base n "is_whole_list" ["thing"] (spD K eN)) (his_rising:Has P w K mg base n "is_rising" ["numbers"] (spD K iJ)) (hbeginnings:Has P w K mg base n "beginnings" ["stays", "rooms", "now"] (spD K bY)) (hcheck_who:Has P w K mg base n "check_who" ["stays", "rooms", "now", "who"] (spD K iM)) (hcheck_room:Has P w K mg base n "check_room" ["rooms", "room"] (spD K dI)) (his_closed:Has P w K mg base n "is_closed" ["stays", "rooms", "who", "nights"] (spD K fX)):Has P w K mg base (n + 1) "is_shut" ["stays", "rooms", "now", "who", "room", "thing"] (spD K jw):=by
 have sc:FnScope ["stays", "rooms", "now", "who", "room", "thing", "begin", "first"] ["stays", "rooms", "now", "who", "room", "thing"] (bx (top 42)):=fsc
 exact eG (fl:=[.A,.A,.A,.A,.A,.A,.A,.A]) D sc (by decide) (by decide) fun f cdv A outer s H E hr=>aP (nU (dU (bC hcheck_who hr (dq (vP 0) (dq (vP 1) (dq (vP 2) (dq (vP 3) dz)))))))
  (aP (nU (dU (bC hcheck_room hr (dq (vP 1) (dq (vP 4) dz)))))
  (aP (eE (qu (nW (m5 (lZ (dU (bC his_whole_list hr (dq (vP 5) dz))))) (m6 (m5 (lZ (dU (bC his_rising hr (dq (vP 5) dz)))))))) (aQ (bZ (cA (nR)))) (cH))
  (aP (sA (i:=6) sc.nd (dx (dG (jD (bC hbeginnings hr (dq (vP 0) (dq (vP 1) (dq (vP 2) dz)))))) (vP 4)))
  (aP (sA (i:=7) sc.nd (dx (dG (dx (vB 0) (vP 3))) iP))
  (aP (eE (cR yt Ho (vP 6) (vP 7) (cQ _)) (aQ (bZ (cA (lY (lu hr.units) ux (vP 5) (bK (gG dz)) (cQ _))))) (cH))
  (aP (eE (qu (nW (cR (mO hr.units) rH (vP 6) (vP 5) (by with_unfolding_all rfl)) (nW (cR mq b_lt (bK (eU (Hv rfl) RX (by rfl) B.min_ PyProof.Rows.boot_min (dq (vP 5) dz))) (vP 6) (cQ _)) (m6 (cR Fv M9 (bK (eU (Hu rfl) RV (by rfl) B.max_ PyProof.Rows.boot_max (dq (vP 5) dz))) (vP 7) (cQ _)))))) (aQ (bZ (cA (nR)))) (cH))
  (aQ (bZ (uR (bC his_closed hr (dq (vP 0) (dq (vP 1) (dq (vP 3) (dq (vP 5) dz))))))))))))))
theorem Ao (D:Dg K mg "rooms_for" (top 43) ["stays", "rooms", "now", "who"]) (B:Bl mg) (hcheck_who:Has P w K mg base n "check_who" ["stays", "rooms", "now", "who"] (spD K iM)) (hmay_have:Has P w K mg base n "may_have" ["stays", "rooms", "now", "who", "room"] (spD K eV)):Has P w K mg base (n + 1) "rooms_for" ["stays", "rooms", "now", "who"] (spD K gP):=by
 have sc:FnScope ["stays", "rooms", "now", "who"] ["stays", "rooms", "now", "who"] (bx (top 43)):=fsc
 exact eG (fl:=[.A,.A,.A,.A]) D sc (by decide) (by decide) fun f cdv A outer s H E hr=>aP (nU (dU (bC hcheck_who hr (dq (vP 0) (dq (vP 1) (dq (vP 2) (dq (vP 3) dz)))))))
  (aQ (bZ (cA (jq (L:=[]) (fl':=[.A,.A,.A,.A,.A]) rfl ["room"] ["stays", "rooms", "now", "who"] [0,1,2,3] (jf (by rfl) B.range_ (pU (dq (vP 1) dz))) (fun _ _ _ _ _=>gN' (i:=0) (show (["room", "stays", "rooms", "now", "who"]:List Str).Nodup by decide +kernel)) (fun _ _ _ _ _=>jZ (cR (lu hr.units) ux (cF (dx (dG (jD (bC hmay_have hr (dq (vP 1) (dq (vP 2) (dq (vP 3) (dq (vP 4) (dq (vP 0) dz)))))))) iP)) (bK (ur)) (cQ _))) (fun _ _ _ _ _=>gF (fO (vP 0)))))))
theorem vg (D:Dg K mg "has_fit_room" (top 45) ["stay", "room", "rooms"]) (B:Bl mg):Has P w K mg base (n + 1) "has_fit_room" ["stay", "room", "rooms"] (spD K cP):=by
 have sc:FnScope ["stay", "room", "rooms"] ["stay", "room", "rooms"] (bx (top 45)):=fsc
 exact eG (fl:=[.A,.A,.A]) D sc (by decide) (by decide) fun f cdv A outer s H E hr=>aP (eE (nY (cF (dx (vB 0) iP))) (aQ (bZ (cA (lY (lu hr.units) ux (vP 1) (cF (dx (vB 0) iP)) (cQ _))))) (cH))
  (aQ (bZ (cA (wG qd mq wD b_lt iP (vP 1) (vP 2)))))
theorem CT (D:Dg K mg "is_apart" (top 46) ["stays", "plan", "place"]) (B:Bl mg) (hnights_of:Has P w K mg base n "nights_of" ["stay"] (spD K cM)) (hmeets:Has P w K mg base n "meets" ["one", "other"] (spD K mK)):Has P w K mg base (n + 1) "is_apart" ["stays", "plan", "place"] (spD K g_):=by
 have sc:FnScope ["stays", "plan", "place", "other"] ["stays", "plan", "place"] (bx (top 46)):=fsc
 exact eG (fl:=[.A,.A,.A,.A]) D sc (by decide) (by decide) fun f cdv A outer s H E hr=>aP (jg (L:=[]) PassesOwn.never rfl (jf (by rfl) B.range_ (pU (dq (vP 2) dz))) (gN' (i:=3) sc.nd) (aQ (eE (qu (uD (cR (lu hr.units) ux (cF (dx (vB 1) (vP 3))) (cF (dx (vB 1) (vP 2))) (cQ _)) (rE (lZ (dU (bC hmeets hr (dq (dU (bC hnights_of hr (dq (cF (dx (vB 0) (vP 3))) dz))) (dq (dU (bC hnights_of hr (dq (cF (dx (vB 0) (vP 2))) dz))) dz)))))))) (aQ (bZ (cA (nR)))) (cH))))
  (aQ (bZ (cA (nR))))
theorem Fj (D:Dg K mg "is_plan" (top 47) ["stays", "rooms", "now", "thing"]) (B:Bl mg) (his_whole_list:Has P w K mg base n "is_whole_list" ["thing"] (spD K eN)) (hcheck_stays:Has P w K mg base n "check_stays" ["stays", "rooms", "now"] (spD K iU)) (hhas_fit_room:Has P w K mg base n "has_fit_room" ["stay", "room", "rooms"] (spD K cP)) (his_apart:Has P w K mg base n "is_apart" ["stays", "plan", "place"] (spD K g_)):Has P w K mg base (n + 1) "is_plan" ["stays", "rooms", "now", "thing"] (spD K jP):=by
 have sc:FnScope ["stays", "rooms", "now", "thing", "place", "stay"] ["stays", "rooms", "now", "thing"] (bx (top 47)):=fsc
 exact eG (fl:=[.A,.A,.A,.A,.A,.A]) D sc (by decide) (by decide) fun f cdv A outer s H E hr=>aP (nU (dU (bC hcheck_stays hr (dq (vP 0) (dq (vP 1) (dq (vP 2) dz))))))
  (aP (eE (qu (nW (m5 (lZ (dU (bC his_whole_list hr (dq (vP 3) dz))))) (m6 (cR (pA hr.units) zA (bK (eU cG jQ (by rfl) B.len_ PySem.boot_len (dq (vP 3) dz))) (bK (eU cG jQ (by rfl) B.len_ PySem.boot_len (dq (vP 0) dz))) (cQ _))))) (aQ (bZ (cA (nR)))) (cH))
  (aP (jg (L:=[]) PassesOwn.never rfl (tO (vB 0) (by rfl) B.enumerate_) (sI rfl (iD (gN' (i:=4) sc.nd) (iD (gN' (i:=5) sc.nd) (pH)))) (aQ (eE (qu (nW (m5 (lZ (dU (bC hhas_fit_room hr (dq (vP 5) (dq (cF (dx (vB 3) (vP 4))) (dq (vP 1) dz))))))) (m6 (m5 (lZ (dU (bC his_apart hr (dq (vP 0) (dq (vP 3) (dq (vP 4) dz)))))))))) (aQ (bZ (cA (nR)))) (cH))))
  (aQ (bZ (cA (nR))))))
theorem Aq (D:Dg K mg "_law_cell" (top 49) ["_law_script", "_law_at"]) (B:Bl mg):Has P w K mg base (n + 1) "_law_cell" ["_law_script", "_law_at"] (spD K ji):=by
 have sc:FnScope ["_law_script", "_law_at"] ["_law_script", "_law_at"] (bx (top 49)):=fsc
 exact eG (fl:=[.A,.A]) D sc (by decide) (by decide) fun f cdv A outer s H E hr=>aP (eE (cR mq b_lt (vP 1) (bK (eU cG jQ (by rfl) B.len_ PySem.boot_len (dq (vP 0) dz))) (cQ _)) (aQ (bZ (cA (dW mF tL (cF (dx (vB 0) (vP 1))) iP)))) (cH))
  (aP (eE (cR (lu hr.units) ux (vP 0) (bK (gG dz)) (cQ _)) (aQ (bZ (cA (dW gY jE (bK (dW mH tK iP (vP 1))) iP)))) (cH))
  (aQ (bZ (cA (dW gY jE (bK (dW mF tL (cF (dx (vB 0) (bK (dW mF tL (bK (dW mH tK (vP 1) iP)) (bK (eU cG jQ (by rfl) B.len_ PySem.boot_len (dq (vP 0) dz))))))) iP)) (bK (dW mH tK iP (vP 1))))))))
theorem Ar (D:Dg K mg "_law_part" (top 50) ["_law_script", "_law_at", "_law_k", "_law_many"]) (B:Bl mg) (h_law_cell:Has P w K mg base n "_law_cell" ["_law_script", "_law_at"] (spD K ji)):Has P w K mg base (n + 1) "_law_part" ["_law_script", "_law_at", "_law_k", "_law_many"] (spD K bO):=by
 have sc:FnScope ["_law_script", "_law_at", "_law_k", "_law_many", "_law_number", "_law_j"] ["_law_script", "_law_at", "_law_k", "_law_many"] (bx (top 50)):=fsc
 exact eG (fl:=[.A,.A,.A,.A,.A,.A]) D sc (by decide) (by decide) fun f cdv A outer s H E hr=>aP (eE (qu (uD (cR mq b_lt (vP 1) (bK (eU cG jQ (by rfl) B.len_ PySem.boot_len (dq (vP 0) dz))) (cQ _)) (rE (cR Fv M9 (cF (dx (vB 0) (vP 1))) (bK (dW Rq Vt iP iP)) (cQ _))))) (aP (sA (i:=4) sc.nd (dx (vB 0) (vP 1)))
  (aP (jg (L:=[]) PassesOwn.never rfl (jf (by rfl) B.range_ (pU (dq (vP 2) dz))) (gN' (i:=5) sc.nd) (aQ (sA (i:=4) sc.nd (fD (dW FP Qs (vP 4) iP)))))
  (aQ (eE (cR yt Ho (vP 4) iP (cQ _)) (aQ (bZ (cA (dW mF tL (bK (dW mF tL (vP 4) iP)) (vP 3))))) (cH))))) (cH))
  (aP (sA (i:=4) sc.nd (fD (dW mF tL (bK (dW mH tK (bK (dW gY jE (bK (dW gY jE (dU (bC h_law_cell hr (dq (vP 0) (dq (vP 1) dz)))) (bK (dW mH tK iP (vP 1))))) iP)) (bK (dW gY jE iP (bK (dW mH tK iP (vP 2))))))) iP)))
  (aP (sA (i:=4) sc.nd (fD (dW gY jE (bK (dW mF tL (bK (dW mH tK (vP 4) (vP 4))) iP)) iP)))
  (aQ (bZ (cA (dW mF tL (bK (dW FP Qs (bK (dW mF tL (bK (dW mH tK (vP 4) (vP 4))) iP)) iP)) (vP 3)))))))
theorem Av (D:Dg K mg "_law_stay" (top 51) ["_law_script", "_law_at", "_law_turn", "_law_mode", "_law_now_here"]) (B:Bl mg) (h_law_part:Has P w K mg base n "_law_part" ["_law_script", "_law_at", "_law_k", "_law_many"] (spD K bO)):Has P w K mg base (n + 1) "_law_stay" ["_law_script", "_law_at", "_law_turn", "_law_mode", "_law_now_here"] (spD K fV):=by
 have sc:FnScope ["_law_script", "_law_at", "_law_turn", "_law_mode", "_law_now_here", "_law_first", "_law_long"] ["_law_script", "_law_at", "_law_turn", "_law_mode", "_law_now_here"] (bx (top 51)):=fsc
 exact eG (fl:=[.A,.A,.A,.A,.A,.A,.A]) D sc (by decide) (by decide) fun f cdv A outer s H E hr=>aP (sA (i:=5) sc.nd (fD (eU (q_ rfl) zF (by rfl) B.min_ PyProof.Rows.boot_min (dq iP (dq (bK (dW gY jE (vP 4) (dU (bC h_law_part hr (dq (vP 0) (dq (vP 1) (dq (vP 2) (dq (cF (dx (dG (fD (gG (dq iC (dq iC (dq iC (dq iC dz))))))) (vP 3))) dz)))))))) dz)))))
  (aP (sA (i:=6) sc.nd (fD (dW gY jE iP (dU (bC h_law_part hr (dq (vP 0) (dq (vP 1) (dq (bK (dW gY jE (vP 2) iP)) (dq (cF (dx (dG (fD (gG (dq iC (dq iC (dq iC (dq iC dz))))))) (dU (bC h_law_part hr (dq (vP 0) (dq (vP 1) (dq (bK (dW gY jE (vP 2) iP)) (dq iP dz)))))))) dz)))))))))
  (aQ (bZ (mZ rfl (dq (cA (fO (vP 5))) (dq (cA (eU (q_ rfl) zF (by rfl) B.min_ PyProof.Rows.boot_min (dq iP (dq (bK (dW gY jE (vP 5) (vP 6))) dz)))) (dq (cA (pG)) dz)))))))
theorem yp (D:Dg K mg "_law_guest" (top 52) ["_law_script", "_law_at", "_law_turn", "_law_now_here", "_law_room"]) (B:Bl mg) (h_law_part:Has P w K mg base n "_law_part" ["_law_script", "_law_at", "_law_k", "_law_many"] (spD K bO)):Has P w K mg base (n + 1) "_law_guest" ["_law_script", "_law_at", "_law_turn", "_law_now_here", "_law_room"] (spD K gJ):=by
 have sc:FnScope ["_law_script", "_law_at", "_law_turn", "_law_now_here", "_law_room", "_law_first", "_law_more"] ["_law_script", "_law_at", "_law_turn", "_law_now_here", "_law_room"] (bx (top 52)):=fsc
 exact eG (fl:=[.A,.A,.A,.A,.A,.A,.A]) D sc (by decide) (by decide) fun f cdv A outer s H E hr=>aP (sA (i:=5) sc.nd (fD (eU (um rfl) DK (by rfl) B.max_ PyProof.Rows.boot_max (dq iP (dq (bK (dW Jr Qq (vP 3) (dU (bC h_law_part hr (dq (vP 0) (dq (vP 1) (dq (vP 2) (dq iP dz)))))))) dz)))))
  (aP (sA (i:=6) sc.nd (jD (bC h_law_part hr (dq (vP 0) (dq (vP 1) (dq (bK (dW gY jE (vP 2) iP)) (dq (cF (dx (dG (fD (gG (dq iC (dq iC (dq iC dz)))))) (dU (bC h_law_part hr (dq (vP 0) (dq (vP 1) (dq (bK (dW gY jE (vP 2) iP)) (dq iP dz)))))))) dz)))))))
  (aQ (bZ (mZ rfl (dq (cA (fO (vP 5))) (dq (cA (eU (q_ rfl) zF (by rfl) B.min_ PyProof.Rows.boot_min (dq iP (dq (bK (dW gY jE (bK (dW gY jE (vP 3) iP)) (vP 6))) dz)))) (dq (cA (fO (vP 4))) dz)))))))
theorem Aw (D:Dg K mg "_law_full" (top 53) ["_law_stays_here", "_law_rooms", "_law_now_here"]) (B:Bl mg):Has P w K mg base (n + 1) "_law_full" ["_law_stays_here", "_law_rooms", "_law_now_here"] (spD K fW):=by
 have sc:FnScope ["_law_stays_here", "_law_rooms", "_law_now_here", "_law_night"] ["_law_stays_here", "_law_rooms", "_law_now_here"] (bx (top 53)):=fsc
 exact eG (fl:=[.A,.A,.A,.A]) D sc (by decide) (by decide) fun f cdv A outer s H E hr=>aP (jg (L:=[]) PassesOwn.never rfl (fG (dG (fD (uF (dq (Br (wI (dG (oN (rD (dq (vA 2) dz)))) (dG (fD (jq (L:=[]) (fl':=[.A,.A]) rfl ["_law_one_here"] ["_law_now_here"] [2] (fG (vB 0)) (fun _ _ _ _ _=>gN' (i:=0) (show (["_law_one_here", "_law_now_here"]:List Str).Nodup by decide +kernel)) (fun _ _ _ _ _=>lH) (fun _ _ _ _ _=>gF (eU (um rfl) DK (by rfl) B.max_ PyProof.Rows.boot_max (dq (vP 1) (dq (cF (dx (vB 0) iP)) dz))))))))) dz) (by rfl) B.sorted_)))) (gN' (i:=3) sc.nd) (aQ (eE (cR yt Ho (bK (eU cG jQ (by rfl) B.len_ PySem.boot_len (dq (bK (jq (L:=[]) (fl':=[.A,.A]) rfl ["_law_one_here"] ["_law_night"] [3] (fG (vB 0)) (fun _ _ _ _ _=>gN' (i:=0) (show (["_law_one_here", "_law_night"]:List Str).Nodup by decide +kernel)) (fun _ _ _ _ _=>jZ (qu (uD (cR qd wD (cF (dx (vB 0) iP)) (vP 1) (cQ _)) (rE (cR mq b_lt (vP 1) (cF (dx (vB 0) iP)) (cQ _)))))) (fun _ _ _ _ _=>gF (fO (vP 0))))) dz))) (vP 1) (cQ _)) (aQ (bZ (cA (fO (vP 3))))) (cH))))
  (aQ (bZ (cA (pG))))
theorem CV (D:Dg K mg "_law_now" (top 54) ["_law_script"]) (B:Bl mg) (h_law_part:Has P w K mg base n "_law_part" ["_law_script", "_law_at", "_law_k", "_law_many"] (spD K bO)):Has P w K mg base (n + 1) "_law_now" ["_law_script"] (spD K j_):=by
 have sc:FnScope ["_law_script"] ["_law_script"] (bx (top 54)):=fsc
 exact eG (fl:=[.A]) D sc (by decide) (by decide) fun f cdv A outer s H E hr=>aQ (bZ (cA (fO (cF (dx (dG (fD (gG (dq iC (dq (bC h_law_part hr (dq (vP 0) (dq iP (dq iP (dq iP dz))))) (dq (bC h_law_part hr (dq (vP 0) (dq iP (dq iP (dq iP dz))))) (dq iC dz))))))) (dU (bC h_law_part hr (dq (vP 0) (dq iP (dq iP (dq iP dz)))))))))))
theorem yq (D:Dg K mg "_law_stays" (top 55) ["_law_script", "_law_rooms", "_law_now_here", "_law_most"]) (B:Bl mg) (h_law_part:Has P w K mg base n "_law_part" ["_law_script", "_law_at", "_law_k", "_law_many"] (spD K bO)) (h_law_stay:Has P w K mg base n "_law_stay" ["_law_script", "_law_at", "_law_turn", "_law_mode", "_law_now_here"] (spD K fV)) (h_law_guest:Has P w K mg base n "_law_guest" ["_law_script", "_law_at", "_law_turn", "_law_now_here", "_law_room"] (spD K gJ)) (h_law_full:Has P w K mg base n "_law_full" ["_law_stays_here", "_law_rooms", "_law_now_here"] (spD K fW)):Has P w K mg base (n + 1) "_law_stays" ["_law_script", "_law_rooms", "_law_now_here", "_law_most"] (spD K iI):=by
 have sc:FnScope ["_law_script", "_law_rooms", "_law_now_here", "_law_most", "_law_mode", "_law_stays_here", "_law_room", "_law_at", "_law_wide", "_law_k", "_law_new"] ["_law_script", "_law_rooms", "_law_now_here", "_law_most"] (bx (top 55)):=fsc
 exact eG (fl:=[.A,.A,.A,.A,.A,.O,.A,.A,.A,.A,.A]) D sc (by decide) (by decide) fun f cdv A outer s H E hr=>aP (sA (i:=4) sc.nd (jD (bC h_law_part hr (dq (vP 0) (dq iP (dq iP (dq iP dz)))))))
  (aP (lE (i:=5) rfl sc.nd rfl (by first | exact Or.inl rfl | exact Or.inr rfl) (qp (gG dz)))
  (aP (jg (L:=[]) PassesOwn.never rfl (jf (by rfl) B.range_ (pU (dq (vP 1) dz))) (gN' (i:=6) sc.nd) (aQ (eE (qu (uD (cR (lu hr.units) ux (dU (bC h_law_part hr (dq (vP 0) (dq iP (dq (vP 6) (dq iP dz)))))) iP (cQ _)) (rE (cR mq b_lt (bK (eU cG jQ (by rfl) B.len_ PySem.boot_len (dq (qt (jy 5)) dz))) (vP 3) (cQ _))))) (aP (sA (i:=7) sc.nd (jD (bC h_law_part hr (dq (vP 0) (dq iP (dq (bK (dW gY jE iP (vP 6))) (dq (bK (dW gY jE (bK (eU cG jQ (by rfl) B.len_ PySem.boot_len (dq (qt (jy 5)) dz))) iP)) dz)))))))
  (aQ (DP (i:=5) rfl (vP 7) (jD (bC h_law_guest hr (dq (vP 0) (dq iP (dq (bK (dW mH tK iP (vP 6))) (dq (vP 2) (dq (vP 6) dz))))))) rfl))) (cH))))
  (aP (sA (i:=8) sc.nd (fD (lY (lu hr.units) ux (dU (bC h_law_part hr (dq (vP 0) (dq iP (dq iP (dq iP dz)))))) iP (cQ _))))
  (aP (jg (L:=[]) PassesOwn.never rfl (jf (by rfl) B.range_ (pU (dq (cF (dx (dG (fD (gG (dq iC (dq iC dz))))) (bK (zJ (dq (vP 8) dz) (by rfl) B.int_)))) dz))) (gN' (i:=9) sc.nd) (aP (sA (i:=10) sc.nd (jD (bC h_law_stay hr (dq (vP 0) (dq (bK (dW gY jE iP (vP 9))) (dq iP (dq (vP 4) (dq (vP 2) dz))))))))
  (aP (sA (i:=7) sc.nd (jD (bC h_law_part hr (dq (vP 0) (dq iP (dq (vP 9) (dq (bK (dW gY jE (bK (eU cG jQ (by rfl) B.len_ PySem.boot_len (dq (qt (jy 5)) dz))) iP)) dz)))))))
  (aQ (eE (qu (uD (cR mq b_lt (bK (eU cG jQ (by rfl) B.len_ PySem.boot_len (dq (qt (jy 5)) dz))) (vP 3) (cQ _)) (rE (qH (dU (bC h_law_full hr (dq (Br (wI (jy 5) (dG (oN (rD (dq (vA 10) dz)))))) (dq (vP 1) (dq (vP 2) dz))))))))) (aQ (DP (i:=5) rfl (vP 7) (vA 10) rfl)) (cH))))))
  (aQ (bZ (nQ 5 (by decide))))))))
theorem Ax (D:Dg K mg "_law_plan" (top 56) ["_law_script", "_law_at", "_law_stays_here", "_law_rooms"]) (B:Bl mg) (h_law_part:Has P w K mg base n "_law_part" ["_law_script", "_law_at", "_law_k", "_law_many"] (spD K bO)):Has P w K mg base (n + 1) "_law_plan" ["_law_script", "_law_at", "_law_stays_here", "_law_rooms"] (spD K iQ):=by
 have sc:FnScope ["_law_script", "_law_at", "_law_stays_here", "_law_rooms", "_law_plan_here", "_law_first", "_law_who", "_law_busy", "_law_free"] ["_law_script", "_law_at", "_law_stays_here", "_law_rooms"] (bx (top 56)):=fsc
 exact eG (fl:=[.A,.A,.A,.A,.O,.A,.A,.A,.A]) D sc (by decide) (by decide) fun f cdv A outer s H E hr=>aP (lE (i:=4) rfl sc.nd rfl (by first | exact Or.inl rfl | exact Or.inr rfl) (qp (jq (L:=[]) (fl':=[.A]) rfl ["_law_stay_here"] [] [] (fG (vB 2)) (fun _ _ _ _ _=>gN' (i:=0) (show (["_law_stay_here"]:List Str).Nodup by decide +kernel)) (fun _ _ _ _ _=>lH) (fun _ _ _ _ _=>gF (fO (cF (dx (vB 0) iP)))))))
  (aP (jg (L:=[]) PassesOwn.never rfl (fG (dG (fD (J4 (dq (bK (jq (L:=[]) (fl':=[.A,.A]) rfl ["_law_k"] ["_law_stays_here"] [2] (jf (by rfl) B.range_ (pU (dq (bK (eU cG jQ (by rfl) B.len_ PySem.boot_len (dq (vP 2) dz))) dz))) (fun _ _ _ _ _=>gN' (i:=0) (show (["_law_k", "_law_stays_here"]:List Str).Nodup by decide +kernel)) (fun _ _ _ _ _=>lH) (fun _ _ _ _ _=>gF (fO (cF (mZ rfl (dq (dx (dG (dx (vB 1) (vP 0))) iP) (dq (vA 0) dz)))))))) dz) (by rfl) B.sorted_)))) (sI rfl (iD (gN' (i:=5) sc.nd) (iD (gN' (i:=6) sc.nd) (pH)))) (aP (sA (i:=7) sc.nd (fD (jq (L:=[]) (fl':=[.A,.A,.A,.A]) rfl ["_law_k"] ["_law_plan_here", "_law_first", "_law_stays_here"] [4,5,2] (jf (by rfl) B.range_ (pU (dq (bK (eU cG jQ (by rfl) B.len_ PySem.boot_len (dq (vP 2) dz))) dz))) (fun _ _ _ _ _=>gN' (i:=0) (show (["_law_k", "_law_plan_here", "_law_first", "_law_stays_here"]:List Str).Nodup by decide +kernel)) (fun _ _ _ _ _=>jZ (qu (uD (cR qd wD (cF (dx (dG (dx (vB 3) (vP 0))) iP)) (vP 2) (cQ _)) (rE (cR mq b_lt (vP 2) (cF (dx (dG (dx (vB 3) (vP 0))) iP)) (cQ _)))))) (fun _ _ _ _ _=>gF (fO (cF (dx (vB 1) (vP 0))))))))
  (aP (qx (i:=8) (L:=[]) (fl':=[.A,.A]) rfl sc.nd rfl rfl rfl ["_law_room"] ["_law_busy"] [7] (jf (by rfl) B.range_ (pU (dq (vP 3) dz))) (fun _ _ _ _ _=>gN' (i:=0) (show (["_law_room", "_law_busy"]:List Str).Nodup by decide +kernel)) (fun _ _ _ _ _=>jZ (cR (mO hr.units) rH (vP 0) (vP 1) (by with_unfolding_all rfl))) (fun _ _ _ _ _=>gF (fO (vP 0))))
  (aQ (eE (qH (cF (dx (jy 4) (vP 6)))) (aQ (uy (i:=4) rfl (dx (vB 8) (dU (bC h_law_part hr (dq (vP 0) (dq (vP 1) (dq (vP 6) (dq (bK (eU cG jQ (by rfl) B.len_ PySem.boot_len (dq (vP 8) dz))) dz))))))) (vP 6) rfl)) (cH))))))
  (aQ (bZ (nQ 4 (by decide)))))
theorem CW (D:Dg K mg "_law_one" (top 57) ["_law_stays_here", "_law_rooms", "_law_now_here", "_law_who", "_law_nights"]) (B:Bl mg) (hmay_have:Has P w K mg base n "may_have" ["stays", "rooms", "now", "who", "room"] (spD K eV)) (his_shut:Has P w K mg base n "is_shut" ["stays", "rooms", "now", "who", "room", "thing"] (spD K jw)) (his_plan:Has P w K mg base n "is_plan" ["stays", "rooms", "now", "thing"] (spD K jP)):Has P w K mg base (n + 1) "_law_one" ["_law_stays_here", "_law_rooms", "_law_now_here", "_law_who", "_law_nights"] (XG.spG K iV):=by
 have sc:FnScope ["_law_stays_here", "_law_rooms", "_law_now_here", "_law_who", "_law_nights", "_law_found", "_law_room", "_law_told", "_law_some"] ["_law_stays_here", "_law_rooms", "_law_now_here", "_law_who", "_law_nights"] (bx (top 57)):=fsc
 exact XG.Sy (fl:=[.A,.A,.A,.A,.O,.O,.A,.A,.A]) D sc rfl (by decide) rfl (by decide) fun f cdv A outer s H E hr=>aP (lE (i:=5) rfl sc.nd rfl (by first | exact Or.inl rfl | exact Or.inr rfl) (qp (gG dz)))
  (aP (jg (L:=[]) PassesOwn.never rfl (jf (by rfl) B.range_ (pU (dq (vP 1) dz))) (gN' (i:=6) sc.nd) (aP (sA (i:=7) sc.nd (jD (bC hmay_have hr (dq (Br (tM (vB 0) (by rfl) B.list_)) (dq (vP 1) (dq (vP 2) (dq (vP 3) (dq (vP 6) dz))))))))
  (aQ (eE (cR (lu hr.units) ux (cF (dx (vB 7) iP)) (bK (ur)) (cQ _)) (aP (eE (qu (nW (Gd (dU (bC his_plan hr (dq (vP 0) (dq (vP 1) (dq (vP 2) (dq (cF (dx (vB 7) iP)) dz))))))) (m6 (cR (pA hr.units) zA (cF (dx (dG (dx (vB 7) iP)) (vP 3))) (vP 6) (cQ _))))) (aQ (bZ (cA (pG)))) (cH))
  (aP (jg (L:=[4]) PassesOwn.never rfl (fG (jy 4)) (gN' (i:=8) sc.nd) (aQ (eE (XS.Nx (dU (bC his_shut hr (dq (vP 0) (dq (vP 1) (dq (vP 2) (dq (vP 3) (dq (vP 6) (dq (vP 8) dz))))))))) (aQ (bZ (cA (pG)))) (cH))))
  (aQ (rB (i:=5) rfl (vA 6) rfl)))) (aQ (eE (qu (nW (cR (pA hr.units) zA (cF (dx (vB 7) iP)) (bK (ur)) (cQ _)) (m6 (Gd (dU (bC his_shut hr (dq (vP 0) (dq (vP 1) (dq (vP 2) (dq (vP 3) (dq (vP 6) (dq (cF (dx (vB 7) iP)) dz)))))))))))) (aQ (bZ (cA (pG)))) (aQ (rB (i:=4) rfl (oN (tM (dG (dx (vB 7) iP)) (by rfl) B.list_)) rfl))))))))
  (aQ (bZ (nQ 5 (by decide)))))
theorem UG {f:Addr} {fd:FuncData} (Fn:FunD K "law" (top 58) f fd) (B:Bl mg) (hrooms_for:Has P w K mg base n "rooms_for" ["stays", "rooms", "now", "who"] (spD K gP)) (h_law_part:Has P w K mg base n "_law_part" ["_law_script", "_law_at", "_law_k", "_law_many"] (spD K bO)) (h_law_now:Has P w K mg base n "_law_now" ["_law_script"] (spD K j_)) (h_law_stays:Has P w K mg base n "_law_stays" ["_law_script", "_law_rooms", "_law_now_here", "_law_most"] (spD K iI)) (h_law_plan:Has P w K mg base n "_law_plan" ["_law_script", "_law_at", "_law_stays_here", "_law_rooms"] (spD K iQ)) (h_law_one:Has P w K mg base n "_law_one" ["_law_stays_here", "_law_rooms", "_law_now_here", "_law_who", "_law_nights"] (XG.spG K iV)):FnOk P w K mg base CX0 (n + 1) f fd ["_law_script"] (spD K Ld):=by
 have sc:FnScope ["_law_script", "_law_many", "_law_rooms", "_law_now_here", "_law_stays_here", "_law_stay_here", "_law_coming", "_law_plans", "_law_some", "_law_gone", "_law_who", "_law_found", "_law_fewer"] ["_law_script"] (bx (top 58)):=fsc
 exact JX (fl:=[.A,.A,.A,.A,.O,.A,.A,.A,.A,.A,.A,.A,.A]) Fn sc (by decide) (by decide) fun f cdv A outer s H E hr=>aP (sA (i:=1) sc.nd (fD (zJ (dq (bK (lY (lu hr.units) ux (dU (bC h_law_part hr (dq (vP 0) (dq iP (dq iP (dq iP dz)))))) iP (cQ _))) dz) (by rfl) B.int_)))
  (aP (sA (i:=2) sc.nd (fD (dW gY jE iP (dU (bC h_law_part hr (dq (vP 0) (dq iP (dq iP (dq (cF (dx (dG (fD (gG (dq iC (dq iC dz))))) (vP 1))) dz)))))))))
  (aP (sA (i:=3) sc.nd (jD (bC h_law_now hr (dq (vP 0) dz))))
  (aP (lE (i:=4) rfl sc.nd rfl (by first | exact Or.inl rfl | exact Or.inr rfl) (qp (gG dz)))
  (aP (jg (L:=[]) PassesOwn.never rfl (fG (dG (jD (bC h_law_stays hr (dq (vP 0) (dq (vP 2) (dq (vP 3) (dq iP dz)))))))) (gN' (i:=5) sc.nd) (aP (sA (i:=6) sc.nd (fD (eU cG jQ (by rfl) B.len_ PySem.boot_len (dq (bK (jq (L:=[4]) (fl':=[.A]) rfl ["_law_one_here"] [] [] (fG (jy 4)) (fun _ _ _ _ _=>gN' (i:=0) (show (["_law_one_here"]:List Str).Nodup by decide +kernel)) (fun _ _ _ _ _=>jZ (qH (cF (dx (vB 0) iP)))) (fun _ _ _ _ _=>gF (fO (vP 0))))) dz))))
  (aQ (eE (qu (nW (nY (cF (dx (vB 5) iP))) (m6 (cR mq b_lt (vP 6) (cF (dx (dG (fD (gG (dq iC (dq iC dz))))) (vP 1))) (cQ _))))) (aQ (rB (i:=4) rfl (vA 5) rfl)) (cH)))))
  (aP (qx (i:=7) (L:=[]) (fl':=[.A,.A,.A,.A]) rfl sc.nd rfl rfl rfl ["_law_k"] ["_law_script", "_law_stays_here", "_law_rooms"] [0,4,2] (jf (by rfl) B.range_ (pU (dq iP dz))) (fun _ _ _ _ _=>gN' (i:=0) (show (["_law_k", "_law_script", "_law_stays_here", "_law_rooms"]:List Str).Nodup by decide +kernel)) (fun _ _ _ _ _=>lH) (fun _ _ _ _ _=>bC h_law_plan hr (dq (vP 1) (dq (bK (dW gY jE iP (vP 0))) (dq (vP 2) (dq (vP 3) dz))))))
  (aP (qx (i:=8) (L:=[]) (fl':=[.A,.A]) rfl sc.nd rfl rfl rfl ["_law_k"] ["_law_stays_here"] [4] (jf (by rfl) B.range_ (pU (dq (bK (eU cG jQ (by rfl) B.len_ PySem.boot_len (dq (qt (jy 4)) dz))) dz))) (fun _ _ _ _ _=>gN' (i:=0) (show (["_law_k", "_law_stays_here"]:List Str).Nodup by decide +kernel)) (fun _ _ _ _ _=>jZ (qH (cF (dx (dG (dx (vB 1) (vP 0))) iP)))) (fun _ _ _ _ _=>gF (fO (vP 0))))
  (aP (sA (i:=9) sc.nd (fD (pG)))
  (aP (eE (cR (pA hr.units) zA (vP 8) (bK (gG dz)) (cQ _)) (aQ (sA (i:=9) sc.nd (dx (vB 8) (dU (bC h_law_part hr (dq (vP 0) (dq iP (dq iP (dq (bK (eU cG jQ (by rfl) B.len_ PySem.boot_len (dq (vP 8) dz))) dz))))))))) (cH))
  (aP (jg (L:=[]) PassesOwn.never rfl (fG (dG (oN (Ga (vB 8) vq (vC iP))))) (gN' (i:=10) sc.nd) (aP (sA (i:=11) sc.nd (jD (XG.Kc h_law_one hr (XG.tY (qt (jy 4)) (XG.tY (vP 2) (XG.tY (vP 3) (XG.tY (vP 10) (XG.Ka (gG (dq (gF (gG dz)) (dq (gF (RJ (rD (dq (vA 3) dz)))) dz)))))))))))
  (aP (eE (qu (nW (qH (vP 11)) (nW (cR (lu hr.units) ux (vP 11) (bK (gG dz)) (cQ _)) (m6 (cR (pA hr.units) zA (dU (bC hrooms_for hr (dq (Br (tM (jy 4) (by rfl) B.list_)) (dq (vP 2) (dq (vP 3) (dq (vP 10) dz)))))) (vP 11) (cQ _)))))) (aQ (bZ (cA (nR)))) (cH))
  (aP (eE (qu (nW (cR (mO hr.units) rH (cF (dx (dG (dx (vB 7) iP)) (vP 10))) (vP 11) (by with_unfolding_all rfl)) (m6 (cR (mO hr.units) rH (cF (dx (dG (dx (vB 7) iP)) (vP 10))) (vP 11) (by with_unfolding_all rfl))))) (aQ (bZ (cA (nR)))) (cH))
  (aQ (eE (cR (pA hr.units) zA (vP 10) (vP 9) (cQ _)) (aP (sA (i:=12) sc.nd (jD (bC hrooms_for hr (dq (Br (wI (dG (oN (Ga (jy 4) vq (vC (vP 9))))) (dG (oN (Ga (jy 4) (vC (bK (dW gY jE (vP 9) iP))) vq))))) (dq (vP 2) (dq (vP 3) (dq (bK (dW Jr Qq (vP 10) (bK (zJ (dq (bK (lY mq b_lt (vP 9) (vP 10) (cQ _))) dz) (by rfl) B.int_)))) dz)))))))
  (aQ (eE (cR (pA hr.units) zA (bK (jq (L:=[]) (fl':=[.A,.A]) rfl ["_law_room"] ["_law_fewer"] [12] (fG (vB 11)) (fun _ _ _ _ _=>gN' (i:=0) (show (["_law_room", "_law_fewer"]:List Str).Nodup by decide +kernel)) (fun _ _ _ _ _=>jZ (cR (mO hr.units) rH (vP 0) (vP 1) (by with_unfolding_all rfl))) (fun _ _ _ _ _=>gF (fO (vP 0))))) (bK (gG dz)) (cQ _)) (aQ (bZ (cA (nR)))) (cH)))) (cH)))))))
  (aQ (bZ (cA (nR)))))))))))))
end
end K47
namespace D3
theorem len0 {p:List PySem.Value→Prop} (h:p []):∀ us,us.length=0→p us:=fun us hl=>by
 cases us with
 | nil=>exact h
 | cons _ _=>cases hl
theorem cg {n:Nat} {p:List PySem.Value→Prop} (h:∀ a us,us.length=n→p (a :: us)):∀ us,us.length=n + 1→p us:=fun us hl=>by
 cases us with
 | nil=>cases hl
 | cons a r=>exact h a r (Nat.succ.inj hl)
end D3
namespace K47
open PySem L2 My D3
structure Txt (K:PySem.W.Frag) (mg:Str→Option Value):Prop where
 d_is_whole:Dg K mg "is_whole" (top 7) ["thing"]
 d_all_whole:Dg K mg "all_whole" (top 8) ["things"]
 d_is_tuple_of:Dg K mg "is_tuple_of" (top 9) ["thing", "many"]
 d_is_pair:Dg K mg "is_pair" (top 10) ["thing"]
 d_is_whole_list:Dg K mg "is_whole_list" (top 11) ["thing"]
 d_is_rising:Dg K mg "is_rising" (top 12) ["numbers"]
 d_is_stretch:Dg K mg "is_stretch" (top 15) ["thing"]
 d_nights_of:Dg K mg "nights_of" (top 16) ["stay"]
 d_holds:Dg K mg "holds" (top 17) ["stretch", "night"]
 d_shared:Dg K mg "shared" (top 18) ["one", "other"]
 d_meets:Dg K mg "meets" (top 19) ["one", "other"]
 d_count_at:Dg K mg "count_at" (top 20) ["stretches", "night"]
 d_firsts:Dg K mg "firsts" (top 21) ["stretches"]
 d_fuller:Dg K mg "fuller" (top 22) ["stretches", "many", "since"]
 d_is_stay:Dg K mg "is_stay" (top 24) ["thing", "rooms", "now"]
 d_check_stays:Dg K mg "check_stays" (top 25) ["stays", "rooms", "now"]
 d_check_full:Dg K mg "check_full" (top 26) ["stays", "rooms", "now"]
 d_still_to_come:XL.DgT K mg "still_to_come" (top 27) ["stays"] 213 "still_to_come.<locals>.<lambda>" ⟨82,30,82,59⟩
 d_beginnings:Dg K mg "beginnings" (top 28) ["stays", "rooms", "now"]
 d_first_free:Dg K mg "first_free" (top 29) ["begin", "night"]
 d_filled:Dg K mg "filled" (top 30) ["stays", "plan", "begin"]
 d_check_who:Dg K mg "check_who" (top 32) ["stays", "rooms", "now", "who"]
 d_check_room:Dg K mg "check_room" (top 33) ["rooms", "room"]
 d_is_tight:Dg K mg "is_tight" (top 34) ["stays", "rooms", "night"]
 d_goes_ahead:Dg K mg "goes_ahead" (top 35) ["stays", "who", "place", "night"]
 d_steps_from:Dg K mg "steps_from" (top 36) ["stays", "rooms", "who", "night"]
 d_nights_reached:Dg K mg "nights_reached" (top 37) ["stays", "rooms", "who", "begin"]
 d_chain_to:Dg K mg "chain_to" (top 38) ["reached", "last"]
 d_plan_with:Dg K mg "plan_with" (top 39) ["stays", "rooms", "now", "who", "room", "chain"]
 d_may_have:Dg K mg "may_have" (top 40) ["stays", "rooms", "now", "who", "room"]
 d_is_closed:Dg K mg "is_closed" (top 41) ["stays", "rooms", "who", "nights"]
 d_is_shut:Dg K mg "is_shut" (top 42) ["stays", "rooms", "now", "who", "room", "thing"]
 d_rooms_for:Dg K mg "rooms_for" (top 43) ["stays", "rooms", "now", "who"]
 d_has_fit_room:Dg K mg "has_fit_room" (top 45) ["stay", "room", "rooms"]
 d_is_apart:Dg K mg "is_apart" (top 46) ["stays", "plan", "place"]
 d_is_plan:Dg K mg "is_plan" (top 47) ["stays", "rooms", "now", "thing"]
 d__law_cell:Dg K mg "_law_cell" (top 49) ["_law_script", "_law_at"]
 d__law_part:Dg K mg "_law_part" (top 50) ["_law_script", "_law_at", "_law_k", "_law_many"]
 d__law_stay:Dg K mg "_law_stay" (top 51) ["_law_script", "_law_at", "_law_turn", "_law_mode", "_law_now_here"]
 d__law_guest:Dg K mg "_law_guest" (top 52) ["_law_script", "_law_at", "_law_turn", "_law_now_here", "_law_room"]
 d__law_full:Dg K mg "_law_full" (top 53) ["_law_stays_here", "_law_rooms", "_law_now_here"]
 d__law_now:Dg K mg "_law_now" (top 54) ["_law_script"]
 d__law_stays:Dg K mg "_law_stays" (top 55) ["_law_script", "_law_rooms", "_law_now_here", "_law_most"]
 d__law_plan:Dg K mg "_law_plan" (top 56) ["_law_script", "_law_at", "_law_stays_here", "_law_rooms"]
 d__law_one:Dg K mg "_law_one" (top 57) ["_law_stays_here", "_law_rooms", "_law_now_here", "_law_who", "_law_nights"]
 d_law:Dl K mg "law" "_law_script" (top 58)
 blt:Bl mg
 c_NIGHTS:∃ t,mg "NIGHTS" = some (.int 400 t)
theorem UJ {P:Program} {w:World} {K:PySem.W.Frag} {mg:Str→Option Value} {base:Heap} (T:Txt K mg) {f:Addr} {fd:FuncData} (F:FunD K "law" (top 58) f fd):FnOk P w K mg base CX0 65 f fd ["_law_script"] (JZ K):=by
 have h_is_whole:=CJ (P:=P) (w:=w) (base:=base) (n:=0) T.d_is_whole T.blt
 have h_is_rising:=Ai (P:=P) (w:=w) (base:=base) (n:=0) T.d_is_rising T.blt
 have h_nights_of:=Aj (P:=P) (w:=w) (base:=base) (n:=0) T.d_nights_of T.blt
 have h_holds:=LK (P:=P) (w:=w) (base:=base) (n:=0) T.d_holds T.blt
 have h_shared:=I_ (P:=P) (w:=w) (base:=base) (n:=0) T.d_shared T.blt
 have h_firsts:=Ja (P:=P) (w:=w) (base:=base) (n:=0) T.d_firsts T.blt
 have h_still_to_come:=uN (P:=P) (w:=w) (base:=base) (n:=0) T.d_still_to_come T.blt
 have h_beginnings:=yc (P:=P) (w:=w) (base:=base) (n:=0) T.d_beginnings T.blt
 have h_first_free:=yd (P:=P) (w:=w) (base:=base) (n:=0) T.d_first_free T.blt
 have h_check_room:=yg (P:=P) (w:=w) (base:=base) (n:=0) T.d_check_room T.blt
 have h_goes_ahead:=yh (P:=P) (w:=w) (base:=base) (n:=0) T.d_goes_ahead T.blt
 have h_chain_to:=CP (P:=P) (w:=w) (base:=base) (n:=0) T.d_chain_to T.blt
 have h_has_fit_room:=vg (P:=P) (w:=w) (base:=base) (n:=0) T.d_has_fit_room T.blt
 have h__law_cell:=Aq (P:=P) (w:=w) (base:=base) (n:=0) T.d__law_cell T.blt
 have h__law_full:=Aw (P:=P) (w:=w) (base:=base) (n:=0) T.d__law_full T.blt
 have h_all_whole:=Ah (P:=P) (w:=w) (base:=base) (n:=1) T.d_all_whole T.blt (h_is_whole.mono (by decide))
 have h_meets:=LQ (P:=P) (w:=w) (base:=base) (n:=1) T.d_meets T.blt (h_shared.mono (by decide))
 have h_count_at:=CK (P:=P) (w:=w) (base:=base) (n:=1) T.d_count_at T.blt (h_holds.mono (by decide))
 have h_filled:=Jc (P:=P) (w:=w) (base:=base) (n:=1) T.d_filled T.blt (h_still_to_come.mono (by decide)) (h_first_free.mono (by decide))
 have h__law_part:=Ar (P:=P) (w:=w) (base:=base) (n:=1) T.d__law_part T.blt (h__law_cell.mono (by decide))
 have h_is_tuple_of:=xO (P:=P) (w:=w) (base:=base) (n:=2) T.d_is_tuple_of T.blt (h_all_whole.mono (by decide))
 have h_is_whole_list:=uM (P:=P) (w:=w) (base:=base) (n:=2) T.d_is_whole_list T.blt (h_all_whole.mono (by decide))
 have h_fuller:=Jb (P:=P) (w:=w) (base:=base) (n:=2) T.d_fuller T.blt (h_count_at.mono (by decide)) (h_firsts.mono (by decide))
 have h_is_tight:=CN (P:=P) (w:=w) (base:=base) (n:=2) T.d_is_tight T.blt (h_nights_of.mono (by decide)) (h_count_at.mono (by decide))
 have h_plan_with:=Al (P:=P) (w:=w) (base:=base) (n:=2) T.d_plan_with T.blt (h_beginnings.mono (by decide)) (h_filled.mono (by decide))
 have h_is_apart:=CT (P:=P) (w:=w) (base:=base) (n:=2) T.d_is_apart T.blt (h_nights_of.mono (by decide)) (h_meets.mono (by decide))
 have h__law_stay:=Av (P:=P) (w:=w) (base:=base) (n:=2) T.d__law_stay T.blt (h__law_part.mono (by decide))
 have h__law_guest:=yp (P:=P) (w:=w) (base:=base) (n:=2) T.d__law_guest T.blt (h__law_part.mono (by decide))
 have h__law_now:=CV (P:=P) (w:=w) (base:=base) (n:=2) T.d__law_now T.blt (h__law_part.mono (by decide))
 have h__law_plan:=Ax (P:=P) (w:=w) (base:=base) (n:=2) T.d__law_plan T.blt (h__law_part.mono (by decide))
 have h_is_pair:=Fe (P:=P) (w:=w) (base:=base) (n:=3) T.d_is_pair T.blt (h_is_tuple_of.mono (by decide))
 have h_check_full:=xZ (P:=P) (w:=w) (base:=base) (n:=3) T.d_check_full T.blt (h_nights_of.mono (by decide)) (h_fuller.mono (by decide))
 have h_steps_from:=yj (P:=P) (w:=w) (base:=base) (n:=3) T.d_steps_from T.blt (h_is_tight.mono (by decide)) (h_goes_ahead.mono (by decide))
 have h__law_stays:=yq (P:=P) (w:=w) (base:=base) (n:=3) T.d__law_stays T.blt (h__law_part.mono (by decide)) (h__law_stay.mono (by decide)) (h__law_guest.mono (by decide)) (h__law_full.mono (by decide))
 have h_is_stretch:=xY (P:=P) (w:=w) (base:=base) (n:=4) T.d_is_stretch T.blt (h_is_pair.mono (by decide)) T.c_NIGHTS
 have h_nights_reached:=ud (P:=P) (w:=w) (base:=base) (n:=4) T.d_nights_reached T.blt (h_steps_from.mono (by decide))
 have h_is_closed:=Am (P:=P) (w:=w) (base:=base) (n:=4) T.d_is_closed T.blt (h_steps_from.mono (by decide))
 have h_is_stay:=Fg (P:=P) (w:=w) (base:=base) (n:=5) T.d_is_stay T.blt (h_is_whole.mono (by decide)) (h_is_stretch.mono (by decide)) (h_nights_of.mono (by decide)) (h_holds.mono (by decide))
 have h_check_stays:=xP (P:=P) (w:=w) (base:=base) (n:=6) T.d_check_stays T.blt (h_is_stay.mono (by decide))
 have h_check_who:=Ak (P:=P) (w:=w) (base:=base) (n:=7) T.d_check_who T.blt (h_check_stays.mono (by decide)) (h_check_full.mono (by decide))
 have h_is_plan:=Fj (P:=P) (w:=w) (base:=base) (n:=7) T.d_is_plan T.blt (h_is_whole_list.mono (by decide)) (h_check_stays.mono (by decide)) (h_has_fit_room.mono (by decide)) (h_is_apart.mono (by decide))
 have h_may_have:=CQ (P:=P) (w:=w) (base:=base) (n:=8) T.d_may_have T.blt (h_beginnings.mono (by decide)) (h_check_who.mono (by decide)) (h_check_room.mono (by decide)) (h_nights_reached.mono (by decide)) (h_chain_to.mono (by decide)) (h_plan_with.mono (by decide))
 have h_is_shut:=Fi (P:=P) (w:=w) (base:=base) (n:=8) T.d_is_shut T.blt (h_is_whole_list.mono (by decide)) (h_is_rising.mono (by decide)) (h_beginnings.mono (by decide)) (h_check_who.mono (by decide)) (h_check_room.mono (by decide)) (h_is_closed.mono (by decide))
 have h_rooms_for:=Ao (P:=P) (w:=w) (base:=base) (n:=9) T.d_rooms_for T.blt (h_check_who.mono (by decide)) (h_may_have.mono (by decide))
 have h__law_one:=CW (P:=P) (w:=w) (base:=base) (n:=9) T.d__law_one T.blt (h_may_have.mono (by decide)) (h_is_shut.mono (by decide)) (h_is_plan.mono (by decide))
 exact ((UG (P:=P) (w:=w) (base:=base) (n:=10) F T.blt (h_rooms_for.mono (by decide)) (h__law_part.mono (by decide)) (h__law_now.mono (by decide)) (h__law_stays.mono (by decide)) (h__law_plan.mono (by decide)) (h__law_one.mono (by decide))).mono (by decide)).imp (Nm K47.LC)
end K47
def PySem.W.Fast.tw11686661665069181681:=0
def PySem.W.Fast.tw9111609085968034740:=0
def PySem.W.Fast.tw16599261246430335146:=0
def PySem.W.Fast.tw4219031309591724832:=0
def PySem.W.Fast.tw3615455922314269455:=0
def PySem.W.Fast.tw8284240826239037489:=0
def PySem.W.Fast.tw3037872190849517892:=0
def PySem.W.Fast.tw3521696806212672476:=0
def PySem.W.Fast.tw6910459944395263235:=0
def PySem.W.Fast.tw7784275908337628170:=0
def PySem.W.Fast.tw9211856849549644458:=0
def PySem.W.Fast.tw6147284566503854004:=0
def PySem.W.Fast.tw2221004182769886543:=0
def PySem.W.Fast.tw16375750884144910061:=0
def PySem.W.Fast.tw15401106586310799371:=0
def PySem.W.Fast.tw16355204966591733257:=0
def PySem.W.Fast.tw1409241011373204637:=0
def PySem.W.Fast.tw6593327335197683464:=0
def PySem.W.Fast.tw6693008058788850068:=0
def PySem.W.Fast.tw17745385683658338716:=0
open PySem PySem.W PyProof.Rows
set_option maxRecDepth 100000 in
set_option maxHeartbeats 0 in
theorem PySem.Challenge.cw_nightbook_k47_whole_one_of_both_holds : PySem.Challenge.rw_nightbook_k47_whole_one_of_both.Holds := by
 w_on;o_law;k_head;(case hw=>w_witness2)
 k_fill
 refine L2.JB (l:=PySem.Challenge.rw_nightbook_k47_whole_one_of_both) (n:=63) (k:=65) (x := "_law_script") (CX:=L2.CX0) (sp:=D3.JZ) rfl (by decide) rfl ⟨rfl,by decide,by decide⟩ (fun w h Y=>PySem.W.km_in_of Y) ?F D3.tabs (fun w h Y=>XL.Oj (c:=215) (PySem.W.km_in_of Y) (PySem.W.km_tabs_of Y _ (aO)) (by kernel_rfl) (by kernel_rfl)) XL.Kq ?S ?C
 case F =>
  intro w mg fa h KX G hmg
  have T:K47.Txt (L2.KOf KX) mg:=by
   dsimp only [L2.KOf]
   have d_is_whole:D3.Dg (L2.KOf KX) mg "is_whole" (K47.top 7) ["thing"]:=by
    dsimp only [L2.KOf]
    refine' D3.eF KX G ?b ?a ?l ?c ?k
    (case a=>k_is);(case l=>k_is);(case c=>k_is);(case k=>k_is)
    (case b=>exact fun _ _ _ _ _ _=>D3.cg fun _=>D3.len0 rfl)
   have d_all_whole:D3.Dg (L2.KOf KX) mg "all_whole" (K47.top 8) ["things"]:=by
    dsimp only [L2.KOf]
    refine' D3.eF KX G ?b ?a ?l ?c ?k
    (case a=>k_is);(case l=>k_is);(case c=>k_is);(case k=>k_is)
    (case b=>exact fun _ _ _ _ _ _=>D3.cg fun _=>D3.len0 rfl)
   have d_is_tuple_of:D3.Dg (L2.KOf KX) mg "is_tuple_of" (K47.top 9) ["thing", "many"]:=by
    dsimp only [L2.KOf]
    refine' D3.eF KX G ?b ?a ?l ?c ?k
    (case a=>k_is);(case l=>k_is);(case c=>k_is);(case k=>k_is)
    (case b=>exact fun _ _ _ _ _ _=>D3.cg fun _=>D3.cg fun _=>D3.len0 rfl)
   have d_is_pair:D3.Dg (L2.KOf KX) mg "is_pair" (K47.top 10) ["thing"]:=by
    dsimp only [L2.KOf]
    refine' D3.eF KX G ?b ?a ?l ?c ?k
    (case a=>k_is);(case l=>k_is);(case c=>k_is);(case k=>k_is)
    (case b=>exact fun _ _ _ _ _ _=>D3.cg fun _=>D3.len0 rfl)
   have d_is_whole_list:D3.Dg (L2.KOf KX) mg "is_whole_list" (K47.top 11) ["thing"]:=by
    dsimp only [L2.KOf]
    refine' D3.eF KX G ?b ?a ?l ?c ?k
    (case a=>k_is);(case l=>k_is);(case c=>k_is);(case k=>k_is)
    (case b=>exact fun _ _ _ _ _ _=>D3.cg fun _=>D3.len0 rfl)
   have d_is_rising:D3.Dg (L2.KOf KX) mg "is_rising" (K47.top 12) ["numbers"]:=by
    dsimp only [L2.KOf]
    refine' D3.eF KX G ?b ?a ?l ?c ?k
    (case a=>k_is);(case l=>k_is);(case c=>k_is);(case k=>k_is)
    (case b=>exact fun _ _ _ _ _ _=>D3.cg fun _=>D3.len0 rfl)
   have d_is_stretch:D3.Dg (L2.KOf KX) mg "is_stretch" (K47.top 15) ["thing"]:=by
    dsimp only [L2.KOf]
    refine' D3.eF KX G ?b ?a ?l ?c ?k
    (case a=>k_is);(case l=>k_is);(case c=>k_is);(case k=>k_is)
    (case b=>exact fun _ _ _ _ _ _=>D3.cg fun _=>D3.len0 rfl)
   have d_nights_of:D3.Dg (L2.KOf KX) mg "nights_of" (K47.top 16) ["stay"]:=by
    dsimp only [L2.KOf]
    refine' D3.eF KX G ?b ?a ?l ?c ?k
    (case a=>k_is);(case l=>k_is);(case c=>k_is);(case k=>k_is)
    (case b=>exact fun _ _ _ _ _ _=>D3.cg fun _=>D3.len0 rfl)
   have d_holds:D3.Dg (L2.KOf KX) mg "holds" (K47.top 17) ["stretch", "night"]:=by
    dsimp only [L2.KOf]
    refine' D3.eF KX G ?b ?a ?l ?c ?k
    (case a=>k_is);(case l=>k_is);(case c=>k_is);(case k=>k_is)
    (case b=>exact fun _ _ _ _ _ _=>D3.cg fun _=>D3.cg fun _=>D3.len0 rfl)
   have d_shared:D3.Dg (L2.KOf KX) mg "shared" (K47.top 18) ["one", "other"]:=by
    dsimp only [L2.KOf]
    refine' D3.eF KX G ?b ?a ?l ?c ?k
    (case a=>k_is);(case l=>k_is);(case c=>k_is);(case k=>k_is)
    (case b=>exact fun _ _ _ _ _ _=>D3.cg fun _=>D3.cg fun _=>D3.len0 rfl)
   have d_meets:D3.Dg (L2.KOf KX) mg "meets" (K47.top 19) ["one", "other"]:=by
    dsimp only [L2.KOf]
    refine' D3.eF KX G ?b ?a ?l ?c ?k
    (case a=>k_is);(case l=>k_is);(case c=>k_is);(case k=>k_is)
    (case b=>exact fun _ _ _ _ _ _=>D3.cg fun _=>D3.cg fun _=>D3.len0 rfl)
   have d_count_at:D3.Dg (L2.KOf KX) mg "count_at" (K47.top 20) ["stretches", "night"]:=by
    dsimp only [L2.KOf]
    refine' D3.eF KX G ?b ?a ?l ?c ?k
    (case a=>k_is);(case l=>k_is);(case c=>k_is);(case k=>k_is)
    (case b=>exact fun _ _ _ _ _ _=>D3.cg fun _=>D3.cg fun _=>D3.len0 rfl)
   have d_firsts:D3.Dg (L2.KOf KX) mg "firsts" (K47.top 21) ["stretches"]:=by
    dsimp only [L2.KOf]
    refine' D3.eF KX G ?b ?a ?l ?c ?k
    (case a=>k_is);(case l=>k_is);(case c=>k_is);(case k=>k_is)
    (case b=>exact fun _ _ _ _ _ _=>D3.cg fun _=>D3.len0 rfl)
   have d_fuller:D3.Dg (L2.KOf KX) mg "fuller" (K47.top 22) ["stretches", "many", "since"]:=by
    dsimp only [L2.KOf]
    refine' D3.RQ KX G ?b ?a ?l ?c ?k ?t ?s
    (case a=>k_is);(case l=>k_is);(case c=>k_is);(case k=>k_is);(case t=>k_is);(case s=>rfl)
    (case b=>exact fun _ _ _ _ _ _=>D3.cg fun _=>D3.cg fun _=>D3.cg fun _=>D3.len0 ⟨_,rfl,rfl⟩)
   have d_is_stay:D3.Dg (L2.KOf KX) mg "is_stay" (K47.top 24) ["thing", "rooms", "now"]:=by
    dsimp only [L2.KOf]
    refine' D3.eF KX G ?b ?a ?l ?c ?k
    (case a=>k_is);(case l=>k_is);(case c=>k_is);(case k=>k_is)
    (case b=>exact fun _ _ _ _ _ _=>D3.cg fun _=>D3.cg fun _=>D3.cg fun _=>D3.len0 rfl)
   have d_check_stays:D3.Dg (L2.KOf KX) mg "check_stays" (K47.top 25) ["stays", "rooms", "now"]:=by
    dsimp only [L2.KOf]
    refine' D3.eF KX G ?b ?a ?l ?c ?k
    (case a=>k_is);(case l=>k_is);(case c=>k_is);(case k=>k_is)
    (case b=>exact fun _ _ _ _ _ _=>D3.cg fun _=>D3.cg fun _=>D3.cg fun _=>D3.len0 rfl)
   have d_check_full:D3.Dg (L2.KOf KX) mg "check_full" (K47.top 26) ["stays", "rooms", "now"]:=by
    dsimp only [L2.KOf]
    refine' D3.eF KX G ?b ?a ?l ?c ?k
    (case a=>k_is);(case l=>k_is);(case c=>k_is);(case k=>k_is)
    (case b=>exact fun _ _ _ _ _ _=>D3.cg fun _=>D3.cg fun _=>D3.cg fun _=>D3.len0 rfl)
   have d_still_to_come:XL.DgT (L2.KOf KX) mg "still_to_come" (K47.top 27) ["stays"] 213 "still_to_come.<locals>.<lambda>" ⟨82,30,82,59⟩:=by
    dsimp only [L2.KOf]
    refine' XL.Tc KX G ?b ?a ?l ?c ?k ?h ?t
    (case a=>k_is);(case l=>k_is);(case c=>k_is);(case k=>k_is);(case h=>kernel_rfl);(case t=>exact aO)
    (case b=>exact fun _ _ _ _ _ _=>D3.cg fun _=>D3.len0 rfl)
   have d_beginnings:D3.Dg (L2.KOf KX) mg "beginnings" (K47.top 28) ["stays", "rooms", "now"]:=by
    dsimp only [L2.KOf]
    refine' D3.eF KX G ?b ?a ?l ?c ?k
    (case a=>k_is);(case l=>k_is);(case c=>k_is);(case k=>k_is)
    (case b=>exact fun _ _ _ _ _ _=>D3.cg fun _=>D3.cg fun _=>D3.cg fun _=>D3.len0 rfl)
   have d_first_free:D3.Dg (L2.KOf KX) mg "first_free" (K47.top 29) ["begin", "night"]:=by
    dsimp only [L2.KOf]
    refine' D3.eF KX G ?b ?a ?l ?c ?k
    (case a=>k_is);(case l=>k_is);(case c=>k_is);(case k=>k_is)
    (case b=>exact fun _ _ _ _ _ _=>D3.cg fun _=>D3.cg fun _=>D3.len0 rfl)
   have d_filled:D3.Dg (L2.KOf KX) mg "filled" (K47.top 30) ["stays", "plan", "begin"]:=by
    dsimp only [L2.KOf]
    refine' D3.eF KX G ?b ?a ?l ?c ?k
    (case a=>k_is);(case l=>k_is);(case c=>k_is);(case k=>k_is)
    (case b=>exact fun _ _ _ _ _ _=>D3.cg fun _=>D3.cg fun _=>D3.cg fun _=>D3.len0 rfl)
   have d_check_who:D3.Dg (L2.KOf KX) mg "check_who" (K47.top 32) ["stays", "rooms", "now", "who"]:=by
    dsimp only [L2.KOf]
    refine' D3.eF KX G ?b ?a ?l ?c ?k
    (case a=>k_is);(case l=>k_is);(case c=>k_is);(case k=>k_is)
    (case b=>exact fun _ _ _ _ _ _=>D3.cg fun _=>D3.cg fun _=>D3.cg fun _=>D3.cg fun _=>D3.len0 rfl)
   have d_check_room:D3.Dg (L2.KOf KX) mg "check_room" (K47.top 33) ["rooms", "room"]:=by
    dsimp only [L2.KOf]
    refine' D3.eF KX G ?b ?a ?l ?c ?k
    (case a=>k_is);(case l=>k_is);(case c=>k_is);(case k=>k_is)
    (case b=>exact fun _ _ _ _ _ _=>D3.cg fun _=>D3.cg fun _=>D3.len0 rfl)
   have d_is_tight:D3.Dg (L2.KOf KX) mg "is_tight" (K47.top 34) ["stays", "rooms", "night"]:=by
    dsimp only [L2.KOf]
    refine' D3.eF KX G ?b ?a ?l ?c ?k
    (case a=>k_is);(case l=>k_is);(case c=>k_is);(case k=>k_is)
    (case b=>exact fun _ _ _ _ _ _=>D3.cg fun _=>D3.cg fun _=>D3.cg fun _=>D3.len0 rfl)
   have d_goes_ahead:D3.Dg (L2.KOf KX) mg "goes_ahead" (K47.top 35) ["stays", "who", "place", "night"]:=by
    dsimp only [L2.KOf]
    refine' D3.eF KX G ?b ?a ?l ?c ?k
    (case a=>k_is);(case l=>k_is);(case c=>k_is);(case k=>k_is)
    (case b=>exact fun _ _ _ _ _ _=>D3.cg fun _=>D3.cg fun _=>D3.cg fun _=>D3.cg fun _=>D3.len0 rfl)
   have d_steps_from:D3.Dg (L2.KOf KX) mg "steps_from" (K47.top 36) ["stays", "rooms", "who", "night"]:=by
    dsimp only [L2.KOf]
    refine' D3.eF KX G ?b ?a ?l ?c ?k
    (case a=>k_is);(case l=>k_is);(case c=>k_is);(case k=>k_is)
    (case b=>exact fun _ _ _ _ _ _=>D3.cg fun _=>D3.cg fun _=>D3.cg fun _=>D3.cg fun _=>D3.len0 rfl)
   have d_nights_reached:D3.Dg (L2.KOf KX) mg "nights_reached" (K47.top 37) ["stays", "rooms", "who", "begin"]:=by
    dsimp only [L2.KOf]
    refine' D3.eF KX G ?b ?a ?l ?c ?k
    (case a=>k_is);(case l=>k_is);(case c=>k_is);(case k=>k_is)
    (case b=>exact fun _ _ _ _ _ _=>D3.cg fun _=>D3.cg fun _=>D3.cg fun _=>D3.cg fun _=>D3.len0 rfl)
   have d_chain_to:D3.Dg (L2.KOf KX) mg "chain_to" (K47.top 38) ["reached", "last"]:=by
    dsimp only [L2.KOf]
    refine' D3.eF KX G ?b ?a ?l ?c ?k
    (case a=>k_is);(case l=>k_is);(case c=>k_is);(case k=>k_is)
    (case b=>exact fun _ _ _ _ _ _=>D3.cg fun _=>D3.cg fun _=>D3.len0 rfl)
   have d_plan_with:D3.Dg (L2.KOf KX) mg "plan_with" (K47.top 39) ["stays", "rooms", "now", "who", "room", "chain"]:=by
    dsimp only [L2.KOf]
    refine' D3.eF KX G ?b ?a ?l ?c ?k
    (case a=>k_is);(case l=>k_is);(case c=>k_is);(case k=>k_is)
    (case b=>exact fun _ _ _ _ _ _=>D3.cg fun _=>D3.cg fun _=>D3.cg fun _=>D3.cg fun _=>D3.cg fun _=>D3.cg fun _=>D3.len0 rfl)
   have d_may_have:D3.Dg (L2.KOf KX) mg "may_have" (K47.top 40) ["stays", "rooms", "now", "who", "room"]:=by
    dsimp only [L2.KOf]
    refine' D3.eF KX G ?b ?a ?l ?c ?k
    (case a=>k_is);(case l=>k_is);(case c=>k_is);(case k=>k_is)
    (case b=>exact fun _ _ _ _ _ _=>D3.cg fun _=>D3.cg fun _=>D3.cg fun _=>D3.cg fun _=>D3.cg fun _=>D3.len0 rfl)
   have d_is_closed:D3.Dg (L2.KOf KX) mg "is_closed" (K47.top 41) ["stays", "rooms", "who", "nights"]:=by
    dsimp only [L2.KOf]
    refine' D3.eF KX G ?b ?a ?l ?c ?k
    (case a=>k_is);(case l=>k_is);(case c=>k_is);(case k=>k_is)
    (case b=>exact fun _ _ _ _ _ _=>D3.cg fun _=>D3.cg fun _=>D3.cg fun _=>D3.cg fun _=>D3.len0 rfl)
   have d_is_shut:D3.Dg (L2.KOf KX) mg "is_shut" (K47.top 42) ["stays", "rooms", "now", "who", "room", "thing"]:=by
    dsimp only [L2.KOf]
    refine' D3.eF KX G ?b ?a ?l ?c ?k
    (case a=>k_is);(case l=>k_is);(case c=>k_is);(case k=>k_is)
    (case b=>exact fun _ _ _ _ _ _=>D3.cg fun _=>D3.cg fun _=>D3.cg fun _=>D3.cg fun _=>D3.cg fun _=>D3.cg fun _=>D3.len0 rfl)
   have d_rooms_for:D3.Dg (L2.KOf KX) mg "rooms_for" (K47.top 43) ["stays", "rooms", "now", "who"]:=by
    dsimp only [L2.KOf]
    refine' D3.eF KX G ?b ?a ?l ?c ?k
    (case a=>k_is);(case l=>k_is);(case c=>k_is);(case k=>k_is)
    (case b=>exact fun _ _ _ _ _ _=>D3.cg fun _=>D3.cg fun _=>D3.cg fun _=>D3.cg fun _=>D3.len0 rfl)
   have d_has_fit_room:D3.Dg (L2.KOf KX) mg "has_fit_room" (K47.top 45) ["stay", "room", "rooms"]:=by
    dsimp only [L2.KOf]
    refine' D3.eF KX G ?b ?a ?l ?c ?k
    (case a=>k_is);(case l=>k_is);(case c=>k_is);(case k=>k_is)
    (case b=>exact fun _ _ _ _ _ _=>D3.cg fun _=>D3.cg fun _=>D3.cg fun _=>D3.len0 rfl)
   have d_is_apart:D3.Dg (L2.KOf KX) mg "is_apart" (K47.top 46) ["stays", "plan", "place"]:=by
    dsimp only [L2.KOf]
    refine' D3.eF KX G ?b ?a ?l ?c ?k
    (case a=>k_is);(case l=>k_is);(case c=>k_is);(case k=>k_is)
    (case b=>exact fun _ _ _ _ _ _=>D3.cg fun _=>D3.cg fun _=>D3.cg fun _=>D3.len0 rfl)
   have d_is_plan:D3.Dg (L2.KOf KX) mg "is_plan" (K47.top 47) ["stays", "rooms", "now", "thing"]:=by
    dsimp only [L2.KOf]
    refine' D3.eF KX G ?b ?a ?l ?c ?k
    (case a=>k_is);(case l=>k_is);(case c=>k_is);(case k=>k_is)
    (case b=>exact fun _ _ _ _ _ _=>D3.cg fun _=>D3.cg fun _=>D3.cg fun _=>D3.cg fun _=>D3.len0 rfl)
   have d__law_cell:D3.Dg (L2.KOf KX) mg "_law_cell" (K47.top 49) ["_law_script", "_law_at"]:=by
    dsimp only [L2.KOf]
    refine' D3.eF KX G ?b ?a ?l ?c ?k
    (case a=>k_is);(case l=>k_is);(case c=>k_is);(case k=>k_is)
    (case b=>exact fun _ _ _ _ _ _=>D3.cg fun _=>D3.cg fun _=>D3.len0 rfl)
   have d__law_part:D3.Dg (L2.KOf KX) mg "_law_part" (K47.top 50) ["_law_script", "_law_at", "_law_k", "_law_many"]:=by
    dsimp only [L2.KOf]
    refine' D3.eF KX G ?b ?a ?l ?c ?k
    (case a=>k_is);(case l=>k_is);(case c=>k_is);(case k=>k_is)
    (case b=>exact fun _ _ _ _ _ _=>D3.cg fun _=>D3.cg fun _=>D3.cg fun _=>D3.cg fun _=>D3.len0 rfl)
   have d__law_stay:D3.Dg (L2.KOf KX) mg "_law_stay" (K47.top 51) ["_law_script", "_law_at", "_law_turn", "_law_mode", "_law_now_here"]:=by
    dsimp only [L2.KOf]
    refine' D3.eF KX G ?b ?a ?l ?c ?k
    (case a=>k_is);(case l=>k_is);(case c=>k_is);(case k=>k_is)
    (case b=>exact fun _ _ _ _ _ _=>D3.cg fun _=>D3.cg fun _=>D3.cg fun _=>D3.cg fun _=>D3.cg fun _=>D3.len0 rfl)
   have d__law_guest:D3.Dg (L2.KOf KX) mg "_law_guest" (K47.top 52) ["_law_script", "_law_at", "_law_turn", "_law_now_here", "_law_room"]:=by
    dsimp only [L2.KOf]
    refine' D3.eF KX G ?b ?a ?l ?c ?k
    (case a=>k_is);(case l=>k_is);(case c=>k_is);(case k=>k_is)
    (case b=>exact fun _ _ _ _ _ _=>D3.cg fun _=>D3.cg fun _=>D3.cg fun _=>D3.cg fun _=>D3.cg fun _=>D3.len0 rfl)
   have d__law_full:D3.Dg (L2.KOf KX) mg "_law_full" (K47.top 53) ["_law_stays_here", "_law_rooms", "_law_now_here"]:=by
    dsimp only [L2.KOf]
    refine' D3.eF KX G ?b ?a ?l ?c ?k
    (case a=>k_is);(case l=>k_is);(case c=>k_is);(case k=>k_is)
    (case b=>exact fun _ _ _ _ _ _=>D3.cg fun _=>D3.cg fun _=>D3.cg fun _=>D3.len0 rfl)
   have d__law_now:D3.Dg (L2.KOf KX) mg "_law_now" (K47.top 54) ["_law_script"]:=by
    dsimp only [L2.KOf]
    refine' D3.eF KX G ?b ?a ?l ?c ?k
    (case a=>k_is);(case l=>k_is);(case c=>k_is);(case k=>k_is)
    (case b=>exact fun _ _ _ _ _ _=>D3.cg fun _=>D3.len0 rfl)
   have d__law_stays:D3.Dg (L2.KOf KX) mg "_law_stays" (K47.top 55) ["_law_script", "_law_rooms", "_law_now_here", "_law_most"]:=by
    dsimp only [L2.KOf]
    refine' D3.eF KX G ?b ?a ?l ?c ?k
    (case a=>k_is);(case l=>k_is);(case c=>k_is);(case k=>k_is)
    (case b=>exact fun _ _ _ _ _ _=>D3.cg fun _=>D3.cg fun _=>D3.cg fun _=>D3.cg fun _=>D3.len0 rfl)
   have d__law_plan:D3.Dg (L2.KOf KX) mg "_law_plan" (K47.top 56) ["_law_script", "_law_at", "_law_stays_here", "_law_rooms"]:=by
    dsimp only [L2.KOf]
    refine' D3.eF KX G ?b ?a ?l ?c ?k
    (case a=>k_is);(case l=>k_is);(case c=>k_is);(case k=>k_is)
    (case b=>exact fun _ _ _ _ _ _=>D3.cg fun _=>D3.cg fun _=>D3.cg fun _=>D3.cg fun _=>D3.len0 rfl)
   have d__law_one:D3.Dg (L2.KOf KX) mg "_law_one" (K47.top 57) ["_law_stays_here", "_law_rooms", "_law_now_here", "_law_who", "_law_nights"]:=by
    dsimp only [L2.KOf]
    refine' D3.eF KX G ?b ?a ?l ?c ?k
    (case a=>k_is);(case l=>k_is);(case c=>k_is);(case k=>k_is)
    (case b=>exact fun _ _ _ _ _ _=>D3.cg fun _=>D3.cg fun _=>D3.cg fun _=>D3.cg fun _=>D3.cg fun _=>D3.len0 rfl)
   have d_law:D3.Dl (L2.KOf KX) mg "law" "_law_script" (K47.top 58):=by
    dsimp only [L2.KOf]
    refine' D3.Vx KX G ?b ?a ?l ?c ?k
    (case a=>k_is);(case l=>k_is);(case c=>k_is);(case k=>k_is)
    (case b=>exact fun _ _ _ _ _ _ u=>rfl)
   have jQ:mg "len" = none:=by
    refine' PySem.W.mg_none_of KX G ?z
    (case z=>k_is)
   have b_range:mg "range" = none:=by
    refine' PySem.W.mg_none_of KX G ?z
    (case z=>k_is)
   have b_abs:mg "abs" = none:=by
    refine' PySem.W.mg_none_of KX G ?z
    (case z=>k_is)
   have b_isinstance:mg "isinstance" = none:=by
    refine' PySem.W.mg_none_of KX G ?z
    (case z=>k_is)
   have b_int:mg "int" = none:=by
    refine' PySem.W.mg_none_of KX G ?z
    (case z=>k_is)
   have b_bool:mg "bool" = none:=by
    refine' PySem.W.mg_none_of KX G ?z
    (case z=>k_is)
   have b_tuple:mg "tuple" = none:=by
    refine' PySem.W.mg_none_of KX G ?z
    (case z=>k_is)
   have b_list:mg "list" = none:=by
    refine' PySem.W.mg_none_of KX G ?z
    (case z=>k_is)
   have b_str:mg "str" = none:=by
    refine' PySem.W.mg_none_of KX G ?z
    (case z=>k_is)
   have b_max:mg "max" = none:=by
    refine' PySem.W.mg_none_of KX G ?z
    (case z=>k_is)
   have b_min:mg "min" = none:=by
    refine' PySem.W.mg_none_of KX G ?z
    (case z=>k_is)
   have b_sorted:mg "sorted" = none:=by
    refine' PySem.W.mg_none_of KX G ?z
    (case z=>k_is)
   have Qu:mg "sum" = none:=by
    refine' PySem.W.mg_none_of KX G ?z
    (case z=>k_is)
   have b_reversed:mg "reversed" = none:=by
    refine' PySem.W.mg_none_of KX G ?z
    (case z=>k_is)
   have b_enumerate:mg "enumerate" = none:=by
    refine' PySem.W.mg_none_of KX G ?z
    (case z=>k_is)
   have b_zip:mg "zip" = none:=by
    refine' PySem.W.mg_none_of KX G ?z
    (case z=>k_is)
   have b_set:mg "set" = none:=by
    refine' PySem.W.mg_none_of KX G ?z
    (case z=>k_is)
   have b_any:mg "any" = none:=by
    refine' PySem.W.mg_none_of KX G ?z
    (case z=>k_is)
   have Gb:mg "all" = none:=by
    refine' PySem.W.mg_none_of KX G ?z
    (case z=>k_is)
   have b_dict:mg "dict" = none:=by
    refine' PySem.W.mg_none_of KX G ?z
    (case z=>k_is)
   have c_NIGHTS:∃ t,mg "NIGHTS" = some (.int 400 t):=by
    refine' ⟨?t_NIGHTS,PySem.W.mg_of KX G ?z⟩
    (case z=>rfl)
   exact ⟨d_is_whole,d_all_whole,d_is_tuple_of,d_is_pair,d_is_whole_list,d_is_rising,d_is_stretch,d_nights_of,d_holds,d_shared,d_meets,d_count_at,d_firsts,d_fuller,d_is_stay,d_check_stays,d_check_full,d_still_to_come,d_beginnings,d_first_free,d_filled,d_check_who,d_check_room,d_is_tight,d_goes_ahead,d_steps_from,d_nights_reached,d_chain_to,d_plan_with,d_may_have,d_is_closed,d_is_shut,d_rooms_for,d_has_fit_room,d_is_apart,d_is_plan,d__law_cell,d__law_part,d__law_stay,d__law_guest,d__law_full,d__law_now,d__law_stays,d__law_plan,d__law_one,d_law,⟨jQ,b_range,b_abs,b_isinstance,b_int,b_bool,b_tuple,b_list,b_str,b_max,b_min,b_sorted,Qu,b_reversed,b_enumerate,b_zip,b_set,b_any,Gb,b_dict⟩,c_NIGHTS⟩
  obtain ⟨f,fd,F,b,m⟩:=T.d_law.ex
  have e0:=hmg.symm.trans m
  cases e0
  exact ⟨fd,b,fun base kb nb=>K47.UJ T F⟩
 case S=>exact fun K H a ns hl hO hS=>⟨a,ns,hO,rfl,hS,hl,fun _=>rfl⟩
 case C=>exact fun _ _ _ _ z=>z
