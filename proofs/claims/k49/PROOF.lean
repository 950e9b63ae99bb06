import PyProof.Rows.All
import Wide.All
import OpenK.AllK
import Wide.FinOn
import Lean
import PyProof.EqAt
import PyProof.EqKinds
import PyProof.TupleCall
import PyProof.EqLayable
import KE.KSortTup
import PyProof.AttrMissHeap
import KE.KDictOf
import KE.KDictSum
import PyProof.Rows.SortWalk
import PyProof.NeKinds
import PyProof.DictWalks
import KE.KMinBuiltin
import Wide.Seal
import KE.KDictLaws
import KE.KLam
import KE.KNestM
import PySem.Challenge.RW_nightbook_k49_whole_to_the_evening
set_option Elab.async false
set_option linter.all false
set_option maxRecDepth 100000
set_option maxHeartbeats 4000000
set_option exponentiation.threshold 40000
open PySem.Heap renaming lt_size->aa,get?_push_of_some->ac,get?_push_size->af,get?_update_other->bp,get?_push_cases->br
open PySem.SeqAt renaming canLay_of_shaped->ad
open PySem renaming wpAny_bind->ae,wpAny_pure->ah,wpAny_truthy_bool->ai,wpAny_mono->av,wpAny_Call_Name_kw->ax,wpAny_passesOwn->az,tupleKind_room_in1->aS,wpAny_holding->a5,wpAny_execs_nil->a7,wpAny_standAt->a9,wpAny_Name->be,seqIndex_neg->bi,seqIndex_of->bn,call_meets->bt
open PySem.W renaming kas_descPart->am,kas_desc->ar,kas_place->aE,kas_rev->aI,kas_tail3->aT,kas_count->a4,kas_asc->a6,kas_sort->a_
open PySem.Calls renaming spliced_cons->a8,Name_function_global->ba,callWith_builtin->bj,evalArgs_plain->bq
open PyProof.Rows renaming Subscript_->bg
set_option genSizeOf false
set_option genSizeOfSpec false
set_option genInjectivity false
set_option bootstrap.genMatcherCode false
noncomputable section
open List renaming range→aB,length_map→aD,mem_singleton→aJ,mem_cons_self→aK,mem_cons_of_mem→aM,getElem?_map→aP,mem_range→aQ,mem_append→aR,mem_append_right→aU,getElem?_eq_getElem→aV,length_range→aX,mem_cons→aY,mem_filter→bx,getD_eq_getElem?_getD→bC,mem_append_left→bD,getElem?_eq_none→bF,length_cons→bH,getElem?_set_ne→bI,map_cons→bJ,size_toArray→bK,length_append→bL,replicate→bO,getElem?_range→cj,nodup_cons→cF,length_replicate→cG,mem_of_getElem?→cN,getElem?_append_right→cO,length_filter_le→cQ,getElem?_eq_some_iff→cT,append_nil→cU,map_append→cV,replicate_succ→cX,pairwise_append→cZ,getElem?_append_left→dw,getElem?_set_self→dB,lookup_cons→dI,nodup_range→dJ,map_map→dO,mem_map→dR,filter_cons_of_pos→dY,length_set→d9,not_mem_nil→d_,filterMap_cons→eE,pairwise_cons→eY,filter_cons_of_neg→eZ,ext_getElem?→fD,mem_filterMap→fP,getElem?_replicate→gF,flatten_cons→gG,getElem_of_mem→gW,pairwise_iff_getElem→iH,toArray→iQ,take_add_one→iR,map_congr_left→jd,pairwise_singleton→je,take_length→jf,length_nil→jz,take_append_drop→jD,append_assoc→jG,getElem?_mapIdx→jJ,length_drop→jP,all_eq_true→jR,filter_append→jY,nodup_append→k_,getElem_cons_drop→lq,eraseIdx_eq_take_drop_succ→lJ,length_take→lN,any_cons→mj,countP_eq_length_filter→mO,getElem?_drop→nO,mem_of_find?_eq_some→oh,drop_eq_getElem_cons→ou,getElem?_set→oF,pairwise_map→oG,all_cons→oY,mem_singleton_self→pB,map_nil→pQ,drop_eq_nil_of_le→pR,take_of_length_le→pU,drop_of_length_le→pW,find?_cons_of_pos→pY,find?_cons_of_neg→pZ,of_mem_zip→qu,nil_append→qw,filter_map→qH,length_singleton→qY,getElem?_of_mem→q_,nodup_nil→rm,take_zero→rA,mem_of_mem_take→rB,find?_eq_none→sY,find?_append→tQ,lookup→vd
open Nat renaming reduceAdd→ak,reduceLeDiff→au,reduceEqDiff→aA,reduceLT→aC,le_refl→bB,lt_of_lt_of_le→bV,ne_of_lt→bW,le_trans→bY,le_of_lt→gZ,zero_le→iK,lt_or_ge→iM,lt_irrefl→iY,lt_trans→jQ,zero_add→kY,lt_succ_self→lQ,not_lt_zero→mL,le_succ→vf
open Int renaming reduceEq→aF,reduceLT→aG,reduceLE→aH,le_refl→d7,toNat_natCast→fG,le_trans→kO,lt_or_le→kZ,emod_lt_of_pos→nU,le_antisymm→qx,emod_nonneg→qz,sub_zero→tO
open Option renaming bind_some→aN,isSome_iff_exists→bR,some→cM,map_some→gO,isSome_map→kW
open Bool renaming and_eq_true→aW,false_ne_true→dZ,not_true→fV,false_and→f9,true_and→iZ,not_false→nR,not_eq_true'→oH,eq_iff_iff→qy
open Array renaming length_toList→dM,getD_eq_getD_getElem?→g_,perm_iff_toList_perm→nQ
theorem dTr {p:Prop} [Decidable p] (h:p):decide p=true:=decide_eq_true h
theorem dFa {p:Prop} [Decidable p] (h:¬ p):decide p=false:=decide_eq_false h
theorem lMp {α β:Type} {f:α→β} {l:List α}:(l.map f).length=l.length:=aD f

namespace L2
open PySem PySem.Spec PyProof.Rows
abbrev Key:=Sum Int Str
noncomputable def pC:Key→Value→Bool
 | .inl k,v=>Value.isInt k v
 | .inr x,v=>Value.isStrOf x v
noncomputable def Vi (w:World):Key→Int
 | .inl k=>hashInt k
 | .inr x=>hashStr w x
theorem eG:∀ {k:Key} {v:Value},pC k v=true→(∃ i t,k=Sum.inl i∧v=Value.int i t)∨(∃ x t,k=Sum.inr x∧v=Value.str x t)
 | .inl i,v,h=>by
  obtain ⟨t,e⟩:=Value.isInt_shape (k:=i) (v:=v) h;exact .inl ⟨i,t,rfl,e⟩
 | .inr x,v,h=>by
  obtain ⟨t,e⟩:=Value.isStrOf_shape (x:=x) (v:=v) h;exact .inr ⟨x,t,rfl,e⟩
theorem Hl (i:Int) (t:Tok):pC (.inl i) (.int i t)=true:=by simp [pC,Value.isInt]
theorem Ho (x:Str) (t:Tok):pC (.inr x) (.str x t)=true:=by simp [pC,Value.isStrOf]
theorem Ri (a b:Int):decide ((Sum.inl a:Key)=Sum.inl b)=(a == b):=by
 by_cases e:a=b
 ·subst e;simp
 ·have h:¬ (Sum.inl a:Key)=Sum.inl b:=fun q=>e (Sum.inl.inj q)
  rw [dFa h];exact (beq_eq_false_iff_ne.mpr e).symm
theorem Rj (a b:Str):decide ((Sum.inr a:Key)=Sum.inr b)=decide (a=b):=by
 by_cases e:a=b
 ·subst e;simp
 ·have h:¬ (Sum.inr a:Key)=Sum.inr b:=fun q=>e (Sum.inr.inj q)
  rw [dFa h,dFa e]
theorem Rm (a:Int) (b:Str):decide ((Sum.inl a:Key)=Sum.inr b)=false:=dFa (fun q=>nomatch q)
theorem Rn (a:Str) (b:Int):decide ((Sum.inr a:Key)=Sum.inl b)=false:=dFa (fun q=>nomatch q)
def fu (prog:Program) (w:World):PySem.KeyKind prog w Key where
 is:=pC
 hash:=Vi w
 inj:=fun v a b ha hb=>by
  rcases eG ha with ⟨i,t,rfl,rfl⟩ | ⟨x,t,rfl,rfl⟩
  ·rcases eG hb with ⟨j,u,rfl,e⟩ | ⟨y,u,rfl,e⟩
   ·injection e with e1 _;rw [e1]
   ·exact nomatch e
  ·rcases eG hb with ⟨j,u,rfl,e⟩ | ⟨y,u,rfl,e⟩
   ·exact nomatch e
   ·injection e with e1 _;rw [e1]
 byValue:=fun k v h=>by
  rcases eG h with ⟨i,t,rfl,rfl⟩ | ⟨x,t,rfl,rfl⟩ <;> rfl
 pyHash:=fun hv h=>by
  rcases eG hv with ⟨i,t,rfl,rfl⟩ | ⟨x,t,rfl,rfl⟩
  ·exact wpAny_pyHash_int h
  ·exact wpAny_pyHash_str h
 eqBool:=fun hu hv h=>by
  rcases eG hu with ⟨i,t,rfl,rfl⟩ | ⟨x,t,rfl,rfl⟩
  ·rcases eG hv with ⟨j,u,rfl,rfl⟩ | ⟨y,u,rfl,rfl⟩
   ·rw [Ri] at h;exact wpAny_eqBool_int h
   ·rw [Rm] at h;exact SeqAt.EqAt.int_str i t y u _ _ _ _ h
  ·rcases eG hv with ⟨j,u,rfl,rfl⟩ | ⟨y,u,rfl,rfl⟩
   ·rw [Rn] at h;exact SeqAt.EqAt.str_int x t j u _ _ _ _ h
   ·rw [Rj] at h;exact wpAny_eqBool_str h
 «strs»:=fun k x t v h=>by
  rcases eG h with ⟨i,u,rfl,e⟩ | ⟨y,u,rfl,e⟩
  ·exact nomatch e
  ·injection e with e1 _
   subst e1
   cases v <;> rfl
theorem Dy (prog:Program) (w:World) (k:Key) (v:Value):(fu prog w).is k v=pC k v:=rfl
theorem Bo (prog:Program) (w:World) (i:Int) (t:Tok):(fu prog w).is (.inl i) (.int i t)=true:=Hl i t
theorem Bp (prog:Program) (w:World) (x:Str) (t:Tok):(fu prog w).is (.inr x) (.str x t)=true:=Ho x t
end L2
namespace L2
open PySem PySem.Spec PyProof.Rows
inductive V where
 | non | bl (b:Bool) | int (i:Int) | str (x:Str) | byt (b:Array UInt8) | flt (b:UInt64) | ref (a:Addr) | ty (n:String)
 deriving DecidableEq
def RelV:V→Value→Prop
 | .non,u=>u=Value.none
 | .bl b,u=>u=Value.bool b
 | .int i,u=>∃ t,u=Value.int i t
 | .str x,u=>∃ t,u=Value.str x t
 | .byt b,u=>∃ t,u=Value.bytes b t
 | .flt b,u=>∃ t,u=Value.float b t
 | .ref a,u=>u=Value.ref a
 | .ty n,u=>u=Value.type n
abbrev Vals:List V→List Value→Prop:=Paired RelV
theorem Vals.length {xs:List V} {us:List Value} (r:Vals xs us):xs.length=us.length:=Paired.length r
theorem Vals.get:∀ {xs:List V} {us:List Value} {i:Nat} {x:V},Vals xs us→xs[i]? = some x→∃ u,us[i]? = some u∧RelV x u
 | _,_,_,_,.nil,e=>by simp at e
 | _,_,0,_,.cons r _,e=>by simp at e;subst e;exact ⟨_,rfl,r⟩
 | _,_,i + 1,x,.cons _ t,e=>by
  obtain ⟨u,h1,h2⟩:=Vals.get (i:=i) (x:=x) t (by simpa using e);exact ⟨u,by simpa using h1,h2⟩
theorem Vals.set {x:V} {u:Value} (r:RelV x u):∀ {xs:List V} {us:List Value} (i:Nat),Vals xs us→Vals (xs.set i x) (us.set i u)
 | _,_,_,.nil=>.nil
 | _,_,0,.cons _ t=>.cons r t
 | _,_,i + 1,.cons q t=>.cons q (Vals.set r i t)
theorem Vals.append:∀ {xs ys:List V} {us ws:List Value},Vals xs us→Vals ys ws→Vals (xs++ys) (us++ws)
 | _,_,_,_,.nil,s=>s
 | _,_,_,_,.cons r t,s=>.cons r (Vals.append t s)
theorem Vals.take:∀ {xs:List V} {us:List Value} (n:Nat),Vals xs us→Vals (xs.take n) (us.take n)
 | _,_,0,_=>.nil
 | _,_,_ + 1,.nil=>.nil
 | _,_,n + 1,.cons r t=>.cons r (Vals.take n t)
theorem Vals.drop:∀ {xs:List V} {us:List Value} (n:Nat),Vals xs us→Vals (xs.drop n) (us.drop n)
 | _,_,0,r=>r
 | _,_,_ + 1,.nil=>.nil
 | _,_,n + 1,.cons _ t=>Vals.drop n t
def uD:Option V→Option Value→Prop
 | some v,some u=>RelV v u
 | none,none=>True
 | _,_=>False
def KV {κ:Type}:List (κ × V)→List (κ × Value)→Prop:=Paired fun (p:κ × V) (q:κ × Value)=>p.1=q.1∧RelV p.2 q.2
def kV:Key→V
 | .inl i=>.int i
 | .inr x=>.str x
inductive HO where
 /-- a list -/
 | lst (xs:List V)
 /-- a tuple (never changes) -/
 | tup (xs:List V)
 /-- a dict whose keys are ints and texts;one whose keys are tuples of ints and texts (the empty one is both) -/
 | dK (kvs:List (Key × V)) | dT (kvs:List (List Key × V))
 /-- a set of ints: its members,its size -/
 | set (S:Int→Bool) (n:Nat)
 /-- an instance of the class at C,its dict at dx,its attributes -/
 | ins (C dx:Addr) (fs:List (Str × V))
 /-- the dict of the instance at x -/
 | own (x:Addr)
 /-- the dict of an exception -/
 | xd (fs:List (Str × V))
 /-- a bound method,f of x -/
 | met (f x:Addr)
 /-- a range object lo,lo + 1,.. below hi -/
 | rng (lo hi:Int)
 /-- a thing that is known to the object (the script;a dict while a loop walks it): read,never written while it is so -/
 | frz (o:Obj) (u:HO)
 /-- a code object's table -/
 | tbl (q:Str) (p:Pos)
 /-- any other thing,by what is true of its one object (a def of one's own: SetO a S n:=HO.ext fun h=>..) -/
 | ext (φ:Heap→Prop)
noncomputable abbrev Hp:=Addr→Option HO
noncomputable def upd (H:Hp) (a:Addr) (o:HO):Hp:=fun b=>if b=a then some o else H b
theorem dU {H:Hp} {a:Addr} {o:HO}:upd H a o a=some o:=by unfold upd;rw [if_pos rfl]
theorem cJ {H:Hp} {a b:Addr} {o:HO} (h:b ≠ a):upd H a o b=H b:=by unfold upd;rw [if_neg h]
theorem FZ {H:Hp} {a b:Addr} {o u:HO} (h:H a=some o) (h':H b=some u) (d:o ≠ u):a ≠ b:=by
 intro e;subst e;rw [h] at h';exact d (cM.inj h')
theorem jm {H:Hp} {a b:Addr} {o:HO} (h:H a=some o) (h':H b=none):a ≠ b:=by
 intro e;subst e;rw [h] at h';cases h'
section
variable (P:Program) (w:World)
def iz (H:Hp) (h:Heap) (a:Addr):HO→Prop
 | .lst xs=>xs.length ≤ sizeLine∧∃ (its:List Value) (n:Nat),Vals xs its∧h.get? a=some { cls:=.type "list", data:=.seq its.toArray n }
 | .tup xs=>xs.length ≤ sizeLine∧∃ its:List Value,Vals xs its∧IsTup h a its.toArray
 | .dK kvs=>kvs.length ≤ sizeLine∧(a == sysModules)=false∧∃ vs,KV kvs vs∧h.DictOf (fu P w) a vs
 | .dT kvs=>kvs.length ≤ sizeLine∧(a == sysModules)=false∧∃ xs:List (List Key × Addr × Value),
  Paired (fun (p:List Key × V) (q:List Key × Addr × Value)=>p.1=q.1∧H q.2.1=some (.tup (p.1.map kV))∧RelV p.2 q.2.2) kvs xs ∧
  ∃ o es ep,h.get? a=some o∧o.ExactDict∧o.data = .dict es ep∧es.toList=xs.map (entryOfKey (tupleKind (fu P w)))∧(xs.map (·.1)).Nodup
 | .set S n=>h.SetOf (intKind P w) a S n
 | .ins C dx fs=>H dx=some (.own a)∧fs.length ≤ 1000∧dx ≠ a∧h.get? a=some (PySem.W.instObj C dx) ∧
  ∃ mA,h.Ns1 dx mA∧(∀ f,uD (fs.lookup f) (mA f))∧PySem.Within mA (fs.map (·.1))
 | .own _=>∃ o,h.get? a=some o
 | .xd fs=>∃ mA,h.Ns1 a mA∧∀ f,uD (fs.lookup f) (mA f)
 | .rng lo hi=>∃ t u v,h.get? a=some { cls:=.type "range", data:=.fields #[.int lo t,.int hi u,.int 1 v] }
 | .frz o u=>h.get? a=some o∧iz H h a u
 | .tbl q p=>∃ ps,h.get? a=some { cls:=.none,data:=.fields ps }∧(ps = #[]∨∃ c',ps = #[rawInt p.line,rawInt p.col,.ref c']∧H c'=some (.own a)∧h.CodeRec (.ref c') q)
 | .met f x=>h.get? a=some (PySem.W.methodObj (.ref f) (.ref x))
 | .ext φ=>φ h∧(∃ o,h.get? a=some o)∧∀ h1 h2:Heap,φ h1→(∀ o,h1.get? a=some o→h2.get? a=some o)→φ h2
def HOk (H:Hp) (h:Heap):Prop:=∀ a o,H a=some o→iz P w H h a o
end
section
variable {P:Program} {w:World} {H H':Hp} {h h':Heap} {a:Addr} {o:HO}
theorem iz.lt (x:iz P w H h a o):a < h.objs.size:=by
 cases o with
 | lst xs=>obtain ⟨_,_,_,_,e⟩:=x;exact aa e
 | tup xs=>obtain ⟨_,_,_,p⟩:=x;exact p.lt
 | dK kvs=>obtain ⟨_,_,_,_,o,_,_,e,_⟩:=x;exact aa e
 | dT kvs=>obtain ⟨_,_,_,_,o,_,_,e,_⟩:=x;exact aa e
 | set S n=>obtain ⟨o,_,_,_,e,_⟩:=x;exact aa e
 | ins C dx fs=>obtain ⟨_,_,_,e,_⟩:=x;exact aa e
 | own y=>obtain ⟨_,e⟩:=x;exact aa e
 | xd fs=>obtain ⟨_,⟨_,_,_,e,_⟩,_⟩:=x;exact aa e
 | rng lo hi=>obtain ⟨_,_,_,e⟩:=x;exact aa e
 | frz ob u=>obtain ⟨e,_⟩:=x;exact aa e
 | tbl q p=>obtain ⟨_,e,_⟩:=x;exact aa e
 | met f y=>exact aa (show h.get? a=some _ from x)
 | ext φ=>obtain ⟨_,⟨_,e⟩,_⟩:=x;exact aa e
theorem Paired.mapP {α β:Type} {F G:α→β→Prop}:∀ {l₁:List α} {l₂:List β},Paired F l₁ l₂→(∀ a b,F a b→G a b)→Paired G l₁ l₂
 | _,_,.nil,_=>.nil
 | _,_,.cons r t,f=>.cons (f _ _ r) (Paired.mapP t f)
theorem iz.stay (x:iz P w H h a o) (k:∀ b u,(b=a∨H b=some (.own a))→h.get? b=some u→h'.get? b=some u)
 (ho:∀ b,H b=some (.own a)→H' b=some (.own a)) (ht:∀ b xs,H b=some (.tup xs)→H' b=some (.tup xs)):iz P w H' h' a o:=by
 induction o with
 | lst xs=>obtain ⟨z,its,n,r,e⟩:=x;exact ⟨z,its,n,r,k _ _ (.inl rfl) e⟩
 | tup xs=>obtain ⟨z,its,r,ob,e,c⟩:=x;exact ⟨z,its,r,ob,k _ _ (.inl rfl) e,c⟩
 | dK kvs=>obtain ⟨z,y,vs,r,ob,es,ep,e,c⟩:=x;exact ⟨z,y,vs,r,ob,es,ep,k _ _ (.inl rfl) e,c⟩
 | dT kvs =>
  obtain ⟨z,y,xs,r,ob,es,ep,e,c⟩:=x;exact ⟨z,y,xs,Paired.mapP r fun p q z=>⟨z.1,ht _ _ z.2.1,z.2.2⟩,ob,es,ep,k _ _ (.inl rfl) e,c⟩
 | set S n=>obtain ⟨ob,es,ep,t,e,c⟩:=x;exact ⟨ob,es,ep,t,k _ _ (.inl rfl) e,c⟩
 | ins C dx fs =>
  obtain ⟨d,z,ne,e,mA,⟨od,es,ep,e2,c⟩,r⟩:=x;exact ⟨ho _ d,z,ne,k _ _ (.inl rfl) e,mA,⟨od,es,ep,k _ _ (.inr d) e2,c⟩,r⟩
 | own y=>obtain ⟨ob,e⟩:=x;exact ⟨ob,k _ _ (.inl rfl) e⟩
 | xd fs=>obtain ⟨mA,⟨od,es,ep,e,c⟩,r⟩:=x;exact ⟨mA,⟨od,es,ep,k _ _ (.inl rfl) e,c⟩,r⟩
 | rng lo hi=>obtain ⟨t,u,v,e⟩:=x;exact ⟨t,u,v,k _ _ (.inl rfl) e⟩
 | frz ob u ih=>obtain ⟨e,q⟩:=x;exact ⟨k _ _ (.inl rfl) e,ih q⟩
 | tbl q p =>
  obtain ⟨ps,e,z⟩:=x;refine ⟨ps,k a _ (.inl rfl) e,?_⟩;rcases z with z | ⟨c',z1,z2,z3⟩
  ·exact .inl z
  ·obtain ⟨c,oc,vs,tq,hc,hoc,hdc,hq⟩:=z3;have hc':c'=c:=by injection hc
   exact .inr ⟨c',z1,ho _ z2,c,oc,vs,tq,hc,k _ _ (.inr (hc' ▸ z2)) hoc,hdc,hq⟩
 | met f y =>
  have e:=x;exact k a _ (.inl rfl) e
 | ext φ=>obtain ⟨p,⟨o,e⟩,st⟩:=x;exact ⟨st _ _ p fun o q=>k _ _ (.inl rfl) q,⟨o,k _ _ (.inl rfl) e⟩,st⟩
theorem HOk.lt (x:HOk P w H h) (e:H a=some o):a < h.objs.size:=(x a o e).lt
theorem HOk.fresh (x:HOk P w H h) (e:h.objs.size ≤ a):H a=none:=by
 cases q:H a with
 | none=>rfl
 | some u=>exact absurd (bV (x.lt q) e) (iY _)
theorem HOk.kept (x:HOk P w H h) (k:∀ b u,h.get? b=some u→h'.get? b=some u):HOk P w H h':=fun a o e =>
 (x a o e).stay (fun b u _ q=>k b u q) (fun _ q=>q) fun _ _ q=>q
theorem HOk.laid (x:HOk P w H h) (k:∀ b u,h.get? b=some u→h'.get? b=some u) (hp:h.objs.size ≤ a) (new:iz P w (upd H a o) h' a o):HOk P w (upd H a o) h':=fun b u e=>by
 have hn:=x.fresh hp;by_cases hb:b=a
 ·subst hb;rw [dU] at e;cases e;exact new
 ·rw [cJ hb] at e;exact (x b u e).stay (fun c v _ q=>k c v q) (fun c q=>by rwa [cJ (jm q hn)]) fun c xs q=>by rwa [cJ (jm q hn)]
end
def Rd (H:Hp) (a:Addr) (u:HO):Prop:=H a=some u∨∃ o,H a=some (.frz o u)
theorem Rd.ok {P:Program} {w:World} {H:Hp} {h:Heap} {a:Addr} {u:HO} (r:Rd H a u) (x:HOk P w H h):iz P w H h a u:=by
 rcases r with r | ⟨o,r⟩
 ·exact x a u r
 ·obtain ⟨_,q⟩:=x a _ r;exact q
def Mut:Option HO→Prop
 | some (.lst _)=>True
 | some (.dK _)=>True
 | some (.dT _)=>True
 | some (.set _ _)=>True
 | some (.ins _ _ _)=>True
 | some (.ext _)=>True
 | _=>False
section
variable {P:Program} {w:World} {H:Hp} {h h':Heap} {x e:Addr} {o':HO}
theorem HOk.write (ok:HOk P w H h) (mu:Mut (H x)) (he:e=x∨H e=some (.own x)) (k:∀ b u,b ≠ e→h.get? b=some u→h'.get? b=some u) (heo:∃ u,h'.get? e=some u)
 (new:iz P w (upd H x o') h' x o'):HOk P w (upd H x o') h':=fun b u q=>by
 have nown:∀ c y,H c=some (.own y)→c ≠ x:=fun c y r z=>by subst z;rw [r] at mu;exact mu
 have ntup:∀ c xs,H c=some (.tup xs)→c ≠ x:=fun c xs r z=>by subst z;rw [r] at mu;exact mu
 by_cases hb:b=x
 ·subst hb;rw [dU] at q;cases q;exact new
 ·rw [cJ hb] at q;by_cases hbe:b=e
  ·have q':H b=some (.own x):=by
    rcases he with z | z
    ·exact absurd (hbe.trans z) hb
    ·rwa [hbe]
   rw [q] at q';cases q';obtain ⟨v,hv⟩:=heo;exact ⟨v,by rwa [hbe]⟩
  ·refine (ok b u q).stay (fun c v hc r=>k c v ?_ r) (fun c r=>by rwa [cJ (nown c b r)]) fun c xs r=>by rwa [cJ (ntup c xs r)]
   rcases hc with rfl | hc
   ·exact hbe
   ·rintro rfl;rcases he with z | z
    ·exact nown c b hc z
    ·rw [hc] at z;cases z;exact hb rfl
end
structure Un (fs ex:List Addr) (H H':Hp) (h h':Heap):Prop where
 keep:∀ b o,h.get? b=some o→H b=none→b ∉ fs→b ∉ ex→h'.get? b=some o
 slot:∀ b o,h.get? b=some o→H b=none→b ∈ fs→b ∉ ex→∃ sl,h'.get? b=some { o with slots:=sl }
 free:∀ b o,h.get? b=some o→H b=none→b ∉ ex→H' b=none
 there:∀ b o,h.get? b=some o→b ∉ ex→∃ o',h'.get? b=some o'
 tups:∀ b xs,H b=some (.tup xs)→H' b=some (.tup xs)
 frzs:∀ b o u,H b=some (.frz o u)→H' b=some (.frz o u)
 tbls:∀ b q p,H b=some (.tbl q p)→H' b=some (.tbl q p)
section
variable {fs fs' ex ex':List Addr} {H H1 H2:Hp} {h h1 h2 h':Heap} {a x e:Addr} {o:HO}
theorem Un.any (u:Un fs ex H H1 h h1) {b:Addr} {ob:Obj} (q:h.get? b=some ob) (n:H b=none) (hx:b ∉ ex):∃ sl,h1.get? b=some { ob with slots:=sl }:=by
 by_cases hb:b ∈ fs
 ·exact u.slot b ob q n hb hx
 ·exact ⟨ob.slots,u.keep b ob q n hb hx⟩
theorem Un.kept (k:∀ b u,h.get? b=some u→h'.get? b=some u):Un fs ex H H h h' :=
 ⟨fun b ob q _ _ _=>k b ob q,fun b ob q _ _ _=>⟨ob.slots,k b ob q⟩,fun _ _ _ n _=>n,fun b ob q _=>⟨ob,k b ob q⟩,fun _ _ q=>q,fun _ _ _ q=>q,fun _ _ _ q=>q⟩
theorem Un.refl:Un fs ex H H h h:=Un.kept fun _ _ q=>q
theorem Un.laid (k:∀ b u,h.get? b=some u→h'.get? b=some u) (hp:h.objs.size ≤ a) (hn:H a=none):Un fs ex H (upd H a o) h h' where
 keep:=fun b u q _ _ _=>k b u q
 slot:=fun b u q _ _ _=>⟨u.slots,k b u q⟩
 free:=fun b u q n _=>by rwa [cJ (bW (bV (aa q) hp))]
 there:=fun b u q _=>⟨u,k b u q⟩
 tups:=fun b xs q=>by rwa [cJ (jm q hn)]
 frzs:=fun b u xs q=>by rwa [cJ (jm q hn)]
 tbls:=fun b q p e=>by rwa [cJ (jm e hn)]
theorem Un.write (mu:Mut (H x)) (he:e=x∨H e=some (.own x)) (k:∀ b u,b ≠ e→h.get? b=some u→h'.get? b=some u) (heo:∃ u,h'.get? e=some u):Un fs ex H (upd H x o) h h':=by
 have hx:∀ b,H b=none→b ≠ x:=fun b n z=>by subst z;rw [n] at mu;exact mu
 have hb:∀ b,H b=none→b ≠ e:=fun b n z=>by
  subst z;rcases he with r | r
  ·exact hx b n r
  ·rw [n] at r;cases r
 have hm:∀ b u,H b=some u→¬ Mut (some u)→b ≠ x:=fun b u q nm z=>by subst z;rw [q] at mu;exact nm mu
 refine ⟨fun b u q n _ _=>k b u (hb b n) q,fun b u q n _ _=>⟨u.slots,k b u (hb b n) q⟩,fun b u q n _=>by rwa [cJ (hx b n)],fun b u q _=>?_,
  fun b xs q=>by rwa [cJ (hm b _ q fun z=>z)],fun b u xs q=>by rwa [cJ (hm b _ q fun z=>z)],fun b q p e=>by rwa [cJ (hm b _ e fun z=>z)]⟩
 by_cases hbe:b=e
 ·subst hbe;exact heo
 ·exact ⟨u,k b u hbe q⟩
end
noncomputable def trk (h:Heap) (H:Hp):List Addr:=(aB h.objs.size).filter fun a=>(H a).isSome
def Bq (h:Heap) (H:Hp):Heap:=PySem.W.hideAll h (trk h H)
theorem Hq (h:Heap) (H:Hp):(Bq h H).objs.size=h.objs.size:=PySem.W.hideAll_size _ _
theorem Jx {h:Heap} {H:Hp} {b:Addr} {o:Obj} (e:h.get? b=some o) (n:H b=none):(Bq h H).get? b=some o :=
 PySem.W.hideAll_get _ e fun hm=>by
  have q:=(bx.mp hm).2;rw [n] at q;simp at q
theorem MP {h:Heap} {H:Hp} {b:Addr} {o:Obj} (e:(Bq h H).get? b=some o):h.get? b=some o∧H b=none:=by
 have e':h.get? b=some o:=PySem.W.of_hideAll (trk h H) e;refine ⟨e',?_⟩
 cases q:H b with
 | none=>rfl
 | some x =>
  have hm:b ∈ trk h H:=bx.mpr ⟨aQ.mpr (aa e'),by simp [q]⟩;have z:(Bq h H).get? b=none:=PySem.W.hideAll_none (trk h H) hm;rw [z] at e;cases e
noncomputable def oJ (g h:Heap) (L:Addr):List (Addr × Obj):=(aB h.objs.size).filterMap fun a=>if a=L∨(g.get? a).isSome=true then none else (h.get? a).map fun o=>(a,o)
theorem Br {g h:Heap} {L a:Addr} {o:Obj} (h1:a ≠ L) (h2:g.get? a=none) (h3:h.get? a=some o):(a,o) ∈ oJ g h L :=
 fP.mpr ⟨a,aQ.mpr (aa h3),by simp [h1,h2,h3]⟩
theorem wu {g h:Heap} {L:Addr} {p:Addr × Obj} (hp:p ∈ oJ g h L):p.1 ≠ L∧g.get? p.1=none∧h.get? p.1=some p.2:=by
 obtain ⟨b,_,e⟩:=fP.mp hp;split at e
 ·cases e
 ·rename_i hn
  cases q:h.get? b with
  | none=>rw [q] at e;simp at e
  | some u =>
   rw [q] at e;simp only [gO,cM.injEq] at e;subst e;refine ⟨fun z=>hn (.inl z),?_,q⟩
   cases r:g.get? b with
   | none=>rfl
   | some v=>exact (hn (.inr (by simp [r]))).elim
theorem Bt {g h:Heap} {L:Addr}:News g L h (oJ g h L):=fun p hp=>let ⟨a,b,c⟩:=wu hp;⟨c,a,b⟩
end L2
namespace L2
open PySem PySem.Spec PyProof.Rows
structure Mod (K:PySem.W.Frag) (mg:Str→Option Value) (base:Heap):Prop where
 kin:K.In base
 glob:base.Ns mainGlobals mg
 blt:∃ mb,base.Ns builtinsNs mb∧∀ x:Str,x ≠ "__name__" → mb x=bootBuiltins x
 nolimit:base.NoLimit
 bm:∃ bm ob,mg "__builtins__" = some (.ref bm)∧bm ≠ builtinsNs∧base.get? bm=some ob∧ob.cls = .type "module" ∧ ob.dict=some builtinsNs∧ob.data = .plain
structure Cx where
 prog:Program
 w:World
 K:PySem.W.Frag
 mg:Str→Option Value
 base:Heap
 A:Around
 N:List Str
 s₀:Shared
 H₀:Hp
 env:Env
 outer:List Env
 stack:List Env
 ex:List Addr
 fn:Str→Bool
 calm:Bool
 pn:List (Addr × Obj)
 xe:Value→Shared→Prop
def frs (l:List Env):List Addr:=l.filterMap (·.frame)
abbrev Cx.fs (X:Cx):List Addr:=frs X.outer
def Vis (sc:Scope) (x:Str):Prop:=sc.names.lookup x=some .local∨sc.names.lookup x=some .cell∨sc.names.lookup x=some .free
def Loc (sc:Scope) (x:Str):Prop:=sc.names.lookup x=some .local∨sc.names.lookup x=some .cell
def Look (env:Env) (h:Heap) (m:Str→Option Value) (x:Str) (u:Value):Prop :=
 (env.kindOf x=some .local∧m x=some u)∨((env.kindOf x=some .cell∨env.kindOf x=some .free)∧∃ c,env.cells.lookup x=some c∧h.IsCell c (some u))
structure Cx.Ok (X:Cx):Prop where
 mod:Mod X.K X.mg X.base
 kind:X.env.scope.kind = .function
 glob:X.env.globals=mainGlobals
 blt:X.env.builtins=builtinsNs
 above:X.s₀.heap.objs.size ≤ X.env.locals
 inj:∀ x y c,X.env.cells.lookup x=some c→X.env.cells.lookup y=some c→x=y
 has:∀ x,(X.env.kindOf x=some .cell∨X.env.kindOf x=some .free)→∃ c,X.env.cells.lookup x=some c
 cab:∀ x c,X.fn x=true→X.env.cells.lookup x=some c→X.s₀.heap.objs.size ≤ c
 hd:X.calm=true→X.A.handled=none
 frames:X.A.frames=some X.stack
 stk:X.stack=X.outer∨(X.stack=X.env :: X.outer∧X.env.frame=some X.env.locals)
 exf:∀ b ∈ X.ex,b ≠ X.env.locals∧∀ x c,X.env.cells.lookup x=some c→c ≠ b
 bs:∀ b o,X.base.get? b=some o→X.s₀.heap.get? b=some o∧X.H₀ b=none
 bsz:X.base.objs.size ≤ X.s₀.heap.objs.size
 noex:∀ b o,X.base.get? b=some o→b ∉ X.ex
 exfs:∀ b ∈ X.ex,b ∉ X.fs
 funs:X.s₀.heap.FunFrames X.base X.outer
 frf:∀ b ∈ X.fs,X.H₀ b=none
structure Inv (X:Cx) (pins:List (Addr × Obj)) (σ:List (Option V)) (H:Hp) (s:Shared):Prop where
 ok:X.Ok
 os:s.os=X.s₀.os
 bare:AllBare s.gens
 base:Un X.fs X.ex X.H₀ H X.s₀.heap s.heap
 loc:∃ m,s.heap.Ns X.env.locals m∧∀ (i:Nat) (x:Str) (v:V),X.N[i]? = some x→σ[i]? = some (some v)→Vis X.env.scope x→∃ u,RelV v u∧Look X.env s.heap m x u
 cell:∀ x c,X.env.cells.lookup x=some c→∃ v,s.heap.IsCell c v
 free:H X.env.locals=none
 freeC:∀ x c,X.env.cells.lookup x=some c→H c=none
 pin:∀ p ∈ X.pn++pins,s.heap.get? p.1=some p.2∧H p.1=none∧p.1 ≠ X.env.locals∧p.1 ∉ X.fs∧∀ v,p.2.data ≠ .cell v
 hok:HOk X.prog X.w H s.heap
 len:σ.length=X.N.length
section
variable {X:Cx} {pins:List (Addr × Obj)} {σ:List (Option V)} {H H':Hp} {s:Shared} {h':Heap}
theorem Cx.Ok.nofr (ok:X.Ok) {b:Addr} {o:Obj} (e:X.base.get? b=some o):b ∉ X.fs:=fun hb=>by
 have:=(ok.funs.mem hb).1;rw [e] at this;cases this
theorem Inv.bs (I:Inv X pins σ H s):∀ b o,X.base.get? b=some o→s.heap.get? b=some o∧H b=none:=fun b o e =>
 ⟨I.base.keep b o (I.ok.bs b o e).1 (I.ok.bs b o e).2 (I.ok.nofr e) (I.ok.noex b o e),I.base.free b o (I.ok.bs b o e).1 (I.ok.bs b o e).2 (I.ok.noex b o e)⟩
theorem Inv.bk (I:Inv X pins σ H s):∀ b o,X.base.get? b=some o→s.heap.get? b=some o:=fun b o e=>(I.bs b o e).1
theorem Inv.mod (I:Inv X pins σ H s):Mod X.K X.mg X.base:=I.ok.mod
theorem Inv.kIn (I:Inv X pins σ H s):X.K.In s.heap:=I.ok.mod.kin.keeps I.bk
theorem Inv.lt (I:Inv X pins σ H s):X.env.locals < s.heap.objs.size:=let ⟨_,hn,_⟩:=I.loc;hn.lt
theorem Inv.sz (I:Inv X pins σ H s):X.s₀.heap.objs.size ≤ s.heap.objs.size:=bY I.ok.above (gZ I.lt)
theorem Inv.nofs (I:Inv X pins σ H s) {a:Addr} (h:s.heap.objs.size ≤ a):a ∉ X.fs:=fun hb=>by
 obtain ⟨_,o,ho,_⟩:=I.ok.funs.mem hb;exact absurd (bV (aa ho) (bY I.sz h)) (iY _)
theorem Inv.cne (I:Inv X pins σ H s):∀ x c,X.env.cells.lookup x=some c→c ≠ X.env.locals:=fun x c e z=>by
 obtain ⟨v,o,ho,hd⟩:=I.cell x c e;obtain ⟨m,⟨o',es,ep,ho',hd',_⟩,_⟩:=I.loc;rw [z,ho'] at ho;cases ho;rw [hd'] at hd;cases hd
theorem Inv.funs (I:Inv X pins σ H s):s.heap.FunFrames X.base X.outer:=by
 have all:∀ (l:List Env),(∀ b ∈ frs l,b ∈ X.fs)→X.s₀.heap.FunFrames X.base l→s.heap.FunFrames X.base l:=by
  intro l
  induction l with
  | nil=>intro _ _;trivial
  | cons env r ih =>
   intro hs hl;obtain ⟨hk,⟨L,o,hf,hn,ho,hd⟩,hr⟩:=hl;have hL:=hs L (by unfold frs;rw [eE,hf];exact aK);obtain ⟨sl,e⟩:=I.base.slot L o ho (I.ok.frf L hL) hL fun z=>I.ok.exfs L z hL
   exact ⟨hk,⟨L,_,hf,hn,e,hd⟩,ih (fun b hb=>hs b (by unfold frs;rw [eE,hf];exact aM _ hb)) hr⟩
 exact all X.outer (fun _ hb=>hb) I.ok.funs
theorem Inv.stack (I:Inv X pins σ H s):s.heap.FunFrames X.base X.stack:=by
 rcases I.ok.stk with e | ⟨e,hf⟩
 ·rw [e];exact I.funs
 ·rw [e];obtain ⟨m,hn,_⟩:=I.loc;refine .cons (by rw [I.ok.kind];decide) hf hn ?_ I.funs;exact Heap.get?_none_of_le (bY I.ok.bsz I.ok.above)
theorem Inv.stkSub (I:Inv X pins σ H s):∀ b ∈ frs X.stack,b ∈ X.env.locals :: X.fs:=fun b hb=>by
 rcases I.ok.stk with e | ⟨e,hf⟩
 ·rw [e] at hb;exact aM _ hb
 ·rw [e] at hb;unfold frs at hb;rwa [eE,hf] at hb
theorem Inv.stkFree (I:Inv X pins σ H s):∀ b ∈ frs X.stack,H b=none:=fun b hb=>by
 rcases aY.mp (I.stkSub b hb) with e | hb
 ·rw [e];exact I.free
 ·obtain ⟨_,o,ho,_⟩:=I.ok.funs.mem hb;exact I.base.free b o ho (I.ok.frf b hb) fun z=>I.ok.exfs b z hb
theorem Inv.step {g':Array GenState} {t':Nat} {d':Drawn} {ch:List Addr} (I:Inv X pins σ H s)
 (hch:∀ b ∈ ch,(b ∈ X.ex∨X.s₀.heap.objs.size ≤ b)∧b ≠ X.env.locals∧(∀ x c,X.env.cells.lookup x=some c→c ≠ b)∧∀ p ∈ X.pn++pins,p.1 ≠ b)
 (keep:∀ b o,b ≠ X.env.locals→b ∉ X.fs→b ∉ ch→s.heap.get? b=some o→H b=none→h'.get? b=some o)
 (slot:∀ b o,b ≠ X.env.locals→b ∈ X.fs→b ∉ ch→s.heap.get? b=some o→H b=none→∃ sl,h'.get? b=some { o with slots:=sl }) (free:∀ b o,b ∉ ch→s.heap.get? b=some o→H b=none→H' b=none)
 (there:∀ b o,b ∉ ch→s.heap.get? b=some o→∃ o',h'.get? b=some o')
 (tups:∀ b xs,H b=some (.tup xs)→H' b=some (.tup xs)) (frzs:∀ b o u,H b=some (.frz o u)→H' b=some (.frz o u)) (tbls:∀ b q p,H b=some (.tbl q p)→H' b=some (.tbl q p))
 (ns:∀ m,s.heap.Ns X.env.locals m→h'.Ns X.env.locals m) (hok:HOk X.prog X.w H' h') (hg:AllBare g') :
 Inv X pins σ H' { s with heap:=h',gens:=g',drawn:=d',toks:=t' }:=by
 have neL:∀ b o,X.s₀.heap.get? b=some o→b ≠ X.env.locals:=fun b o e=>bW (bV (aa e) I.ok.above)
 have neC:∀ b o,X.s₀.heap.get? b=some o→b ∉ X.ex→b ∉ ch:=fun b o e hx hb=>by
  rcases (hch b hb).1 with z | z
  ·exact hx z
  ·exact absurd (bV (aa e) z) (iY _)
 have cellK:∀ x c,X.env.cells.lookup x=some c→∀ v,s.heap.IsCell c v→h'.IsCell c v:=fun x c e v ⟨o,ho,hd⟩=>by
  have nch:=fun z=>(hch c z).2.2.1 x c e rfl
  by_cases hc:c ∈ X.fs
  ·obtain ⟨sl,q⟩:=slot c o (I.cne x c e) hc nch ho (I.freeC x c e);exact ⟨_,q,hd⟩
  ·exact ⟨o,keep c o (I.cne x c e) hc nch ho (I.freeC x c e),hd⟩
 refine ⟨I.ok,I.os,hg,⟨fun b o e n hb hx=>?_,fun b o e n hb hx=>?_,fun b o e n hx=>?_,fun b o e hx=>?_,fun b xs e=>tups b xs (I.base.tups b xs e),fun b o xs e=>frzs b o xs (I.base.frzs b o xs e),fun b q p e=>tbls b q p (I.base.tbls b q p e)⟩,?_,fun x c e=>?_,?_,fun x c e=>?_,fun p hp=>?_,hok,I.len⟩
 ·exact keep b o (neL b o e) hb (neC b o e hx) (I.base.keep b o e n hb hx) (I.base.free b o e n hx)
 ·obtain ⟨sl,e1⟩:=I.base.slot b o e n hb hx;obtain ⟨sl',e2⟩:=slot b _ (neL b o e) hb (neC b o e hx) e1 (I.base.free b o e n hx);exact ⟨sl',e2⟩
 ·obtain ⟨o',e1⟩:=I.base.there b o e hx;exact free b o' (neC b o e hx) e1 (I.base.free b o e n hx)
 ·obtain ⟨o',e1⟩:=I.base.there b o e hx;exact there b o' (neC b o e hx) e1
 ·obtain ⟨m,hn,hl⟩:=I.loc;refine ⟨m,ns m hn,fun i x v e1 e2 e3=>?_⟩;obtain ⟨u,r,l⟩:=hl i x v e1 e2 e3;refine ⟨u,r,?_⟩;rcases l with l | ⟨k,c,e,z⟩
  ·exact .inl l
  ·exact .inr ⟨k,c,e,cellK x c e _ z⟩
 ·obtain ⟨v,z⟩:=I.cell x c e;exact ⟨v,cellK x c e v z⟩
 ·obtain ⟨m,⟨o,_,_,ho,_⟩,_⟩:=I.loc;exact free _ o (fun z=>(hch _ z).2.1 rfl) ho I.free
 ·obtain ⟨v,o,ho,hd⟩:=I.cell x c e;exact free c o (fun z=>(hch c z).2.2.1 x c e rfl) ho (I.freeC x c e)
 ·obtain ⟨e,n,ne,nf,d⟩:=I.pin p hp;have nch:=fun z=>(hch p.1 z).2.2.2 p hp rfl
  exact ⟨keep p.1 p.2 ne nf nch e n,free p.1 p.2 nch e n,ne,nf,d⟩
theorem Inv.un {t':Nat} (I:Inv X pins σ H s) (u:Un X.fs [] H H' s.heap h') (hok:HOk X.prog X.w H' h'):Inv X pins σ H' { s with heap:=h',toks:=t' }:=by
 obtain ⟨m,⟨o,es,ep,ho,r⟩,_⟩:=id I.loc;obtain ⟨sl,hL⟩:=u.any ho I.free (by simp);exact I.step (g':=s.gens) (d':=s.drawn) (ch:=[]) (fun _ z=>nomatch z) (fun b o _ hb _ e n=>u.keep b o e n hb (by simp)) (fun b o _ hb _ e n=>u.slot b o e n hb (by simp)) (fun b o _ e n=>u.free b o e n (by simp)) (fun b o _ e=>u.there b o e (by simp)) u.tups u.frzs u.tbls (fun m' hm=>by
  obtain ⟨o',es',ep',ho',r'⟩:=hm;rw [ho] at ho';cases ho';exact ⟨_,es',ep',hL,r'⟩) hok I.bare
theorem Inv.call {g':Array GenState} {t':Nat} {d':Drawn} {ch:List Addr} (I:Inv X pins σ H s) (u:Un (frs X.stack) ch H H' s.heap h') (hok:HOk X.prog X.w H' h') (hg:AllBare g')
 (hch:∀ b ∈ ch,(b ∈ X.ex∨X.s₀.heap.objs.size ≤ b)∧b ≠ X.env.locals∧(∀ x c,X.env.cells.lookup x=some c→c ≠ b)∧∀ p ∈ X.pn++pins,p.1 ≠ b) :
 Inv X pins σ H' { s with heap:=h',gens:=g',drawn:=d',toks:=t' }:=by
 obtain ⟨m,⟨o,es,ep,ho,r⟩,_⟩:=id I.loc;obtain ⟨sl,hL⟩:=u.any ho I.free fun z=>(hch _ z).2.1 rfl
 exact I.step (ch:=ch) hch (fun b o hL hb hc e n=>u.keep b o e n (fun z=>(aY.mp (I.stkSub b z)).elim hL hb) hc) (fun b o _ _ hc e n=>u.any e n hc) (fun b o hc e n=>u.free b o e n hc) (fun b o hc e=>u.there b o e hc) u.tups u.frzs u.tbls (fun m' hm=>by
  obtain ⟨o',es',ep',ho',r'⟩:=hm;rw [ho] at ho';cases ho';exact ⟨_,es',ep',hL,r'⟩) hok hg
theorem Inv.turned {t':Nat} {it:Addr} (I:Inv X pins σ H s) (k:∀ b o,b ≠ it→s.heap.get? b=some o→h'.get? b=some o) (hn:H it=none) (hL:it ≠ X.env.locals)
 (h1:it ∈ X.ex∨X.s₀.heap.objs.size ≤ it) (h2:∀ x c,X.env.cells.lookup x=some c→c ≠ it) (h3:∀ p ∈ X.pn++pins,p.1 ≠ it):Inv X pins σ H { s with heap:=h',toks:=t' }:=by
 have nit:∀ b u,H b=some u→b ≠ it:=fun b u e z=>by rw [z,hn] at e;cases e
 refine I.step (g':=s.gens) (d':=s.drawn) (ch:=[it]) (fun b hb=>?_) (fun b o _ _ hc e _=>k b o (fun z=>hc (by simp [z])) e) (fun b o _ _ hc e _=>⟨o.slots,k b o (fun z=>hc (by simp [z])) e⟩) (fun _ _ _ _ n=>n)
  (fun b o hc e=>⟨o,k b o (fun z=>hc (by simp [z])) e⟩) (fun _ _ e=>e) (fun _ _ _ e=>e) (fun _ _ _ e=>e) (fun m hm=>?_) (fun b u e=>?_) I.bare
 ·have e:b=it:=by simpa using hb
  subst e;exact ⟨h1,hL,h2,h3⟩
 ·obtain ⟨o,es,ep,ho,r⟩:=hm;exact ⟨o,es,ep,k _ o (Ne.symm hL) ho,r⟩
 ·refine (I.hok b u e).stay (fun c v hc q=>k c v ?_ q) (fun _ q=>q) fun _ _ q=>q
  rcases hc with z | z
  ·rw [z];exact nit b u e
  ·exact nit c _ z
theorem Inv.tok (I:Inv X pins σ H s) (t:Nat):Inv X pins σ H { s with toks:=t }:=I.un (h':=s.heap) (t':=t) Un.refl I.hok
theorem Inv.kept {t':Nat} (I:Inv X pins σ H s) (k:∀ b u,s.heap.get? b=some u→h'.get? b=some u):Inv X pins σ H { s with heap:=h',toks:=t' }:=I.un (Un.kept k) (I.hok.kept k)
theorem Inv.laid {a:Addr} {o:HO} {t':Nat} (I:Inv X pins σ H s) (k:∀ b u,s.heap.get? b=some u→h'.get? b=some u) (hp:s.heap.objs.size ≤ a) (new:iz X.prog X.w (upd H a o) h' a o) :
 Inv X pins σ (upd H a o) { s with heap:=h',toks:=t' }:=I.un (Un.laid k hp (I.hok.fresh hp)) (I.hok.laid k hp new)
theorem Inv.write {x e:Addr} {o:HO} {t':Nat} (I:Inv X pins σ H s) (mu:Mut (H x)) (he:e=x∨H e=some (.own x)) (k:∀ b u,b ≠ e→s.heap.get? b=some u→h'.get? b=some u) (heo:∃ u,h'.get? e=some u)
 (new:iz X.prog X.w (upd H x o) h' x o):Inv X pins σ (upd H x o) { s with heap:=h',toks:=t' }:=I.un (Un.write mu he k heo) (I.hok.write mu he k heo new)
theorem Inv.pins_of {pins':List (Addr × Obj)} (I:Inv X pins σ H s) (h:∀ p ∈ pins',s.heap.get? p.1=some p.2∧H p.1=none∧p.1 ≠ X.env.locals∧p.1 ∉ X.fs∧∀ v,p.2.data ≠ .cell v):Inv X pins' σ H s :=
 ⟨I.ok,I.os,I.bare,I.base,I.loc,I.cell,I.free,I.freeC,fun p hp=>(aR.mp hp).elim (fun z=>I.pin p (bD _ z)) (h p),I.hok,I.len⟩
theorem Bu {N:List Str} (hN:N.Nodup) {i j:Nat} {x:Str} (a:N[i]? = some x) (b:N[j]? = some x):i=j:=by
 obtain ⟨h1,e1⟩:=cT.mp a;obtain ⟨h2,e2⟩:=cT.mp b;exact (List.getElem_inj hN).mp (e1.trans e2.symm)
theorem yP {M:Model} {A:Around} {E:Value→Shared→Prop} {i:Nat} {x:Str} {v:V} {u:Value} {Q:Unit→Shared→Prop} (I:Inv X pins σ H s) (hN:X.N.Nodup) (hi:X.N[i]? = some x) (hx:Loc X.env.scope x) (r:RelV v u)
 (h:∀ s',Inv X pins (σ.set i (some v)) H s'→(∃ a,Heap.SameBut a s.heap s'.heap∧(a=X.env.locals∨X.env.cells.lookup x=some a))→Q () s') (hf:X.fn x=true∨X.env.scope.names.lookup x=some .local:=by first | exact .inl rfl | exact .inr rfl | assumption):wpAny M A (storeName X.env x u) Q E s:=by
 obtain ⟨m,hn,hl⟩:=id I.loc;have hcls:(X.env.scope.kind == .class || (X.env.scope.kind == .module && X.env.locals != X.env.globals))=false:=by rw [I.ok.kind];rfl
 have hiσ:i < σ.length:=by rw [I.len];exact (cT.mp hi).1
 have cne:=I.cne;have tracked:∀ {a:Addr} {h':Heap},(∃ o,s.heap.get? a=some o∧H a=none)→Heap.SameBut a s.heap h'→HOk X.prog X.w H h':=fun {a h'} ha hs b ob e=>by
  obtain ⟨_,_,hfree⟩:=ha;refine (I.hok b ob e).stay (fun c w' hc q=>(hs.2 c ?_).trans q) (fun _ q=>q) fun _ _ q=>q
  rintro rfl;rcases hc with rfl | hc
  ·rw [hfree] at e;cases e
  ·rw [hfree] at hc;cases hc
 rcases hx with hk | hk
 ·refine wpAny_storeName_local hk hn (fun h' hn' hs=>?_) hcls;obtain ⟨oL,_,_,hoL,_⟩:=id hn;refine h _ ⟨I.ok,I.os,I.bare,⟨fun b o e n hb hx=>?_,fun b o e n hb hx=>?_,I.base.free,fun b o e hx=>?_,I.base.tups,I.base.frzs,I.base.tbls⟩,⟨_,hn',fun j y v' e1 e2 e3=>?_⟩,fun y c e=>?_,I.free,I.freeC,fun p hp=>?_,tracked ⟨oL,hoL,I.free⟩ hs,by simpa using I.len⟩ ⟨_,hs,.inl rfl⟩
  ·exact (hs.2 b (bW (bV (aa e) I.ok.above))).trans (I.base.keep b o e n hb hx)
  ·obtain ⟨sl,e1⟩:=I.base.slot b o e n hb hx;exact ⟨sl,(hs.2 b (bW (bV (aa e) I.ok.above))).trans e1⟩
  ·obtain ⟨o',e1⟩:=I.base.there b o e hx;exact ⟨o',(hs.2 b (bW (bV (aa e) I.ok.above))).trans e1⟩
  ·by_cases hj:j=i
   ·subst hj;rw [hi] at e1;cases e1;rw [dB hiσ] at e2
    cases e2;exact ⟨u,r,.inl ⟨hk,by simp⟩⟩
   ·rw [bI (Ne.symm hj)] at e2;obtain ⟨u',r',q⟩:=hl j y v' e1 e2 e3;refine ⟨u',r',?_⟩;rcases q with ⟨k,e⟩ | ⟨k,c,e,z⟩
    ·refine .inl ⟨k,?_⟩;have:y ≠ x:=fun e=>hj (Bu hN e1 (e ▸ hi))
     simp [this,e]
    ·exact .inr ⟨k,c,e,z.sameBut hs (cne y c e)⟩
  ·obtain ⟨w',z⟩:=I.cell y c e;exact ⟨w',z.sameBut hs (cne y c e)⟩
  ·obtain ⟨e,n,ne,nf,d⟩:=I.pin p hp;exact ⟨(hs.2 p.1 ne).trans e,n,ne,nf,d⟩
 ·have hfn:X.fn x=true:=by
   rcases hf with z | z
   ·exact z
   ·rw [z] at hk;cases hk
  obtain ⟨c,hc⟩:=I.ok.has x (.inl hk);obtain ⟨w',z⟩:=I.cell x c hc;refine wpAny_storeName_cell I.ok.kind hk hc z (fun h' hc' hs=>?_);obtain ⟨oc,hoc,hocd⟩:=id z;refine h { s with heap:=h' } ⟨I.ok,I.os,I.bare,⟨fun b o e n hb hx=>?_,fun b o e n hb hx=>?_,I.base.free,fun b o e hx=>?_,I.base.tups,I.base.frzs,I.base.tbls⟩,⟨m,hn.sameBut hs (Ne.symm (cne x c hc)),fun j y v' e1 e2 e3=>?_⟩,fun y c' e=>?_,I.free,I.freeC,fun p hp=>?_,tracked ⟨oc,hoc,I.freeC x c hc⟩ hs,by simpa using I.len⟩ ⟨c,hs,.inr hc⟩
  ·exact (hs.2 b (bW (bV (aa e) (I.ok.cab x c hfn hc)))).trans (I.base.keep b o e n hb hx)
  ·obtain ⟨sl,e1⟩:=I.base.slot b o e n hb hx;exact ⟨sl,(hs.2 b (bW (bV (aa e) (I.ok.cab x c hfn hc)))).trans e1⟩
  ·obtain ⟨o',e1⟩:=I.base.there b o e hx;exact ⟨o',(hs.2 b (bW (bV (aa e) (I.ok.cab x c hfn hc)))).trans e1⟩
  ·by_cases hj:j=i
   ·subst hj;rw [hi] at e1;cases e1;rw [dB hiσ] at e2
    cases e2;exact ⟨u,r,.inr ⟨.inl hk,c,hc,hc'⟩⟩
   ·rw [bI (Ne.symm hj)] at e2;obtain ⟨u',r',q⟩:=hl j y v' e1 e2 e3;refine ⟨u',r',?_⟩;rcases q with q | ⟨k,c',e,z'⟩
    ·exact .inl q
    ·refine .inr ⟨k,c',e,z'.sameBut hs ?_⟩;rintro rfl;exact hj (Bu hN e1 (I.ok.inj _ _ _ e hc ▸ hi))
  ·by_cases hcc:c'=c
   ·subst hcc;exact ⟨_,hc'⟩
   ·obtain ⟨w2,z2⟩:=I.cell y c' e;exact ⟨w2,z2.sameBut hs hcc⟩
  ·obtain ⟨e,n,ne,nf,d⟩:=I.pin p hp;refine ⟨(hs.2 p.1 ?_).trans e,n,ne,nf,d⟩;intro q;rw [q,hoc] at e;have q':oc=p.2:=cM.inj e;exact d w' (by rwa [← q'])
theorem Bv {M:Model} {A:Around} {E:Value→Shared→Prop} {i:Nat} {x:Str} {v:V} {u:Value} {Q:Unit→Shared→Prop} (I:Inv X pins σ H s) (hN:X.N.Nodup) (hi:X.N[i]? = some x) (hx:Loc X.env.scope x) (r:RelV v u)
 (h:∀ s',Inv X pins (σ.set i (some v)) H s'→Q () s') (hf:X.fn x=true∨X.env.scope.names.lookup x=some .local:=by first | exact .inl rfl | exact .inr rfl | assumption):wpAny M A (storeName X.env x u) Q E s :=
 yP I hN hi hx r (fun s' I' _=>h s' I') hf
end
abbrev XK:=Value→Option Addr→Hp→Prop
abbrev St:=List (Option V)
abbrev VK:=V→Hp→Prop
abbrev TE:=St→Hp→VK→Prop
abbrev TT:=St→Hp→(Bool→Hp→Prop)→Prop
abbrev TA:=St→Hp→(List V→Hp→Prop)→Prop
structure Ends where
 nx:St→Hp→Prop
 rt:VK
 bk:St→Hp→Prop:=fun _ _=>False
 ct:St→Hp→Prop:=fun _ _=>False
abbrev TS:=Ends→St→Hp→Prop
def EP (X:Cx) (pins:List (Addr × Obj)) (σ:St) (Q:VK) (u:Value) (s':Shared):Prop:=∃ v H',Inv X pins σ H' s'∧RelV v u∧Q v H'
def TP (X:Cx) (pins:List (Addr × Obj)) (σ:St) (Q:Bool→Hp→Prop) (b:Bool) (s':Shared):Prop:=∃ H',Inv X pins σ H' s'∧Q b H'
def AP (X:Cx) (pins:List (Addr × Obj)) (σ:St) (Q:List V→Hp→Prop) (us:List Value) (s':Shared):Prop:=∃ vs H',Inv X pins σ H' s'∧Vals vs us∧Q vs H'
def SP (X:Cx) (pins:List (Addr × Obj)) (D:Ends) (f:Flow) (s':Shared):Prop :=
 match f with
 | .next=>∃ σ' H',Inv X pins σ' H' s'∧D.nx σ' H'
 | .brk=>∃ σ' H',Inv X pins σ' H' s'∧D.bk σ' H'
 | .cont=>∃ σ' H',Inv X pins σ' H' s'∧D.ct σ' H'
 | .ret u=>∃ v σ' H',Inv X pins σ' H' s'∧RelV v u∧D.rt v H'
def PE (X:Cx) (e:Expr) (t:TE):Prop :=
 ∀ (pins:List (Addr × Obj)) (s:Shared) (σ:St) (H:Hp) (Q:VK),Inv X pins σ H s→t σ H Q→wpAny (model X.prog X.w) X.A (eval e X.env) (EP X pins σ Q) X.xe s
def PT (X:Cx) (e:Expr) (t:TT):Prop :=
 ∀ (pins:List (Addr × Obj)) (s:Shared) (σ:St) (H:Hp) (Q:Bool→Hp→Prop),Inv X pins σ H s→t σ H Q→wpAny (model X.prog X.w) X.A (isTrue e X.env (eval e X.env)) (TP X pins σ Q) X.xe s
def PW (X:Cx) (e:Expr) (t:TT):Prop :=
 ∀ (whole:Sem Value) (pins:List (Addr × Obj)) (s:Shared) (σ:St) (H:Hp) (Q:Bool→Hp→Prop),Inv X pins σ H s→t σ H Q→wpAny (model X.prog X.w) X.A (isTrue e X.env whole) (TP X pins σ Q) X.xe s
theorem PW.pt {X:Cx} {e:Expr} {t:TT} (h:PW X e t):PT X e t:=h _
def PA (X:Cx) (es:List Expr) (t:TA):Prop :=
 ∀ (pos:Pos) (pins:List (Addr × Obj)) (s:Shared) (σ:St) (H:Hp) (Q:List V→Hp→Prop),Inv X pins σ H s→t σ H Q→wpAny (model X.prog X.w) X.A (spliced (backTo pos (starEach es X.env))) (AP X pins σ Q) X.xe s
def PS (X:Cx) (st:Stmt) (t:TS):Prop :=
 ∀ (pins:List (Addr × Obj)) (s:Shared) (σ:St) (H:Hp) (D:Ends),Inv X pins σ H s→t D σ H→wpAny (model X.prog X.w) X.A (exec st X.env) (SP X pins D) X.xe s
def PSs (X:Cx) (st:List Stmt) (t:TS):Prop :=
 ∀ (pins:List (Addr × Obj)) (s:Shared) (σ:St) (H:Hp) (D:Ends),Inv X pins σ H s→t D σ H→wpAny (model X.prog X.w) X.A (execs st X.env) (SP X pins D) X.xe s
theorem thn {α:Type} {t:Sem α} {Q Q':α→Shared→Prop} {M:Model} {A:Around} {E:Value→Shared→Prop} {s:Shared} (h:wpAny M A t Q E s) (hQ:∀ a s,Q a s→Q' a s):wpAny M A t Q' E s:=av h hQ fun _ _ x=>x
end L2
namespace L2
open PySem PySem.Spec PyProof.Rows
section
variable {X:Cx}
def X5 (i:Nat):TE:=fun σ H Q=>∃ v,σ[i]? = some (some v)∧Q v H
def tC (v:V):TE:=fun _ H Q=>Q v H
theorem oZ {i:Nat} {x:Str} {pos:Pos} (hN:X.N[i]? = some x) (hv:Vis X.env.scope x) (hd:(x == ("__debug__" : Str))=false:=by decide) (hcd:(x == ("__classdict__" : Str))=false:=by decide):PE X (.Name x pos) (X5 i):=by
 intro pins s σ H Q I h;obtain ⟨v,e,h⟩:=h;obtain ⟨m,hn,hl⟩:=I.loc;obtain ⟨u,r,l⟩:=hl i x v hN e hv;have fin:EP X pins σ Q u s:=⟨v,H,I,r,h⟩;rcases l with ⟨hk,hm⟩ | ⟨hk,c,hc,hcell⟩
 ·exact be (wpAny_loadName_local I.ok.kind hk hn hm fin) hd
 ·rcases hk with hk | hk
  ·exact be (wpAny_loadName_cell I.ok.kind hk hc hcell fin) hd
  ·exact be (wpAny_loadName_free I.ok.kind hk hc hcell fin hcd) hd
theorem Ro {i j pos}:PE X (.Constant (.int i) j pos) (tC (.int i)):=fun _ _ _ H _ I h=>wpAny_Constant_int ⟨.int i,H,I.tok _,⟨_,rfl⟩,h⟩
theorem QG {b j pos}:PE X (.Constant (.bool b) j pos) (tC (.bl b)):=fun _ _ _ H _ I h=>Constant_bool ⟨.bl b,H,I,rfl,h⟩
theorem Jy {j pos}:PE X (.Constant .none j pos) (tC .non):=fun _ _ _ H _ I h=>Constant_none ⟨.non,H,I,rfl,h⟩
theorem Rp {x j pos}:PE X (.Constant (.str x) j pos) (tC (.str x)):=fun _ _ _ H _ I h=>Calls.Constant_str ⟨.str x,H,I.tok _,⟨_,rfl⟩,h⟩
def Gl (X:Cx) (x:Str):Prop:=X.env.kindOf x=some .globalImplicit
theorem Ga {E:Value→Shared→Prop} {pins:List (Addr × Obj)} {s:Shared} {σ:St} {H:Hp} {x:Str} {u:Value} {pos:Pos} {Q:Value→Shared→Prop} (I:Inv X pins σ H s) (hg:Gl X x) (hm:X.mg x=some u) (h:Q u s)
 (hd:(x == ("__debug__" : Str))=false:=by decide):wpAny (model X.prog X.w) X.A (eval (.Name x pos) X.env) Q E s :=
 ba I.ok.kind hg (Calls.loadGlobal_global (by rw [I.ok.glob];exact I.mod.glob.keeps I.bk) hm h) hd
theorem rC {E:Value→Shared→Prop} {pins:List (Addr × Obj)} {s:Shared} {σ:St} {H:Hp} {x:Str} {u:Value} {pos:Pos} {Q:Value→Shared→Prop} (I:Inv X pins σ H s) (hg:Gl X x) (hm:X.mg x=none) (hv:bootBuiltins x=some u) (h:Q u s)
 (hn:x ≠ "__name__" := by decide) (hd:(x == ("__debug__" : Str))=false:=by decide):wpAny (model X.prog X.w) X.A (eval (.Name x pos) X.env) Q E s:=by
 obtain ⟨mb,h1,h2⟩:=I.mod.blt;exact ba I.ok.kind hg (Calls.loadGlobal_builtin (by rw [I.ok.glob];exact I.mod.glob.keeps I.bk) hm (by rw [I.ok.blt];exact h1.keeps I.bk) ((h2 x hn).trans hv) h) hd
theorem M4 {x:Str} {v:V} {u:Value} {pos:Pos} (hg:Gl X x) (hm:X.mg x=some u) (r:RelV v u) (hd:(x == ("__debug__" : Str))=false:=by decide):PE X (.Name x pos) (tC v) :=
 fun _ _ _ H _ I h=>Ga I hg hm ⟨v,H,I,r,h⟩ hd
theorem M5 {x:Str} {v:V} {u:Value} {pos:Pos} (hg:Gl X x) (hm:X.mg x=none) (hv:bootBuiltins x=some u) (r:RelV v u) (hn:x ≠ "__name__" := by decide) (hd:(x == ("__debug__" : Str))=false:=by decide):PE X (.Name x pos) (tC v) :=
 fun _ _ _ H _ I h=>rC I hg hm hv ⟨v,H,I,r,h⟩ hn hd
variable {a b:Expr} {ta tb:TE} {pos:Pos}
def PC (X:Cx) (op:CmpOp) (a b:Expr) (t:TE):Prop :=
 ∀ (pins:List (Addr × Obj)) (s:Shared) (σ:St) (H:Hp) (Q:VK),Inv X pins σ H s→t σ H Q →
  wpAny (model X.prog X.w) X.A (eval a X.env) (fun v s₁=>wpAny (model X.prog X.w) X.A (eval b X.env) (fun u s₂=>wpAny (model X.prog X.w) X.A (compareOp op v u) (EP X pins σ Q) X.xe s₂) X.xe s₁) X.xe s
theorem Bw (b:Expr) {op:CmpOp} (h:op ≠ .In) (h2:op ≠ .NotIn):behindInMarks op b=false:=by
 have e1:(op == CmpOp.In)=false:=by cases op <;> first | rfl | exact absurd rfl h
 have e2:(op == CmpOp.NotIn)=false:=by cases op <;> first | rfl | exact absurd rfl h2
 cases b <;> simp [behindInMarks,e1,e2]
def X6 (ta:TE):TE:=fun σ H Q=>ta σ H fun x H1=>Q (.bl (decide (x = .non))) H1
def Vj (ta:TE):TE:=fun σ H Q=>ta σ H fun x H1=>Q (.bl (!decide (x = .non))) H1
theorem RelV.none_iff {x:V} {v:Value} (r:RelV x v):(v == Value.none)=decide (x = .non):=by
 cases x with
 | non=>cases r;rfl
 | bl _=>cases r;rfl
 | int _=>obtain ⟨t,rfl⟩:=r;rfl
 | str _=>obtain ⟨t,rfl⟩:=r;rfl
 | byt _=>obtain ⟨t,rfl⟩:=r;rfl
 | flt _=>obtain ⟨t,rfl⟩:=r;rfl
 | ref _=>cases r;rfl
 | ty _=>cases r;rfl
theorem Jz {j pos'} (ha:PE X a ta):PC X .Is a (.Constant .none j pos') (X6 ta):=by
 intro pins s σ H Q I h;refine thn (ha pins s σ H _ I h) fun v s1 ⟨x,H1,I1,r1,q1⟩=>?_
 exact Constant_none (is_none_gen ⟨.bl _,H1,I1,by rw [r1.none_iff];rfl,q1⟩)
theorem Gb {j pos'} (ha:PE X a ta):PC X .IsNot a (.Constant .none j pos') (Vj ta):=by
 intro pins s σ H Q I h;refine thn (ha pins s σ H _ I h) fun v s1 ⟨x,H1,I1,r1,q1⟩=>?_
 exact Constant_none (isnot_none_gen ⟨.bl _,H1,I1,by rw [r1.none_iff];rfl,q1⟩)
def tB (t:TE):TT:=fun σ H Q=>t σ H fun x H1=>∃ c,x = .bl c∧Q c H1
theorem JB {op:CmpOp} {t:TE} (h:PC X op a b t) (h1:behindInMarks op b=false:=by first | exact Bw _ (by decide) (by decide) | rfl):PE X (.Compare a [op] [b] pos) t:=fun pins s σ H Q I hw=>wpAny_Compare1 (h pins s σ H Q I hw) h1
theorem Dz {op:CmpOp} {t:TE} (h:PC X op a b t) (h1:behindInMarks op b=false:=by first | exact Bw _ (by decide) (by decide) | rfl):PT X (.Compare a [op] [b] pos) (tB t):=by
 intro pins s σ H Q I hw;refine wpAny_isTrue_Compare1 (thn (h pins s σ H _ I hw) fun v s1 h1=>thn h1 fun u s2 h2=>thn h2 fun c s3 ⟨x,H1,I1,r1,q1⟩=>?_) h1;obtain ⟨d,rfl,q⟩:=q1
 cases r1;exact ai ⟨H1,I1,q⟩
theorem Rq {e:Expr} {t:TE} (h:PE X e t) (he:∀ whole,isTrue e X.env whole=(do let v ← whole;standAt e.pos;holding [v] (truthy v)):=by intro _;rfl):PT X e (tB t):=by
 intro pins s σ H Q I hw;refine isTrue_plain (thn (h pins s σ H _ I hw) fun v s1 ⟨x,H1,I1,r1,q1⟩=>?_) (he _);obtain ⟨d,rfl,q⟩:=q1
 cases r1;exact ai ⟨H1,I1,q⟩
variable {tA tB':TT} {rest:List Expr}
def oA (t u:TT):TT:=fun σ H Q=>t σ H fun c H1=>if c=true then u σ H1 Q else Q false H1
def tOr (t u:TT):TT:=fun σ H Q=>t σ H fun c H1=>if c=true then Q true H1 else u σ H1 Q
def lU (t:TT):TT:=fun σ H Q=>t σ H fun c H1=>Q (!c) H1
theorem M6 (ha:PT X a tA):PW X (.BoolOp .And [a] pos) tA:=by
 intro wh pins s σ H Q I h;refine isTrue_and (thn (ha pins s σ H Q I h) fun c s1 e=>?_)
 cases c with
 | true=>exact isTrue_and_nil e
 | false=>exact e
theorem Rr (ha:PT X a tA):PW X (.BoolOp .Or [a] pos) tA:=by
 intro wh pins s σ H Q I h;refine isTrue_or (thn (ha pins s σ H Q I h) fun c s1 e=>?_)
 cases c with
 | false=>exact isTrue_or_nil e
 | true=>exact e
theorem Rt (ha:PT X a tA) (hb:PW X (.BoolOp .And (b :: rest) pos) tB'):PW X (.BoolOp .And (a :: b :: rest) pos) (oA tA tB'):=by
 intro wh pins s σ H Q I h;refine isTrue_and (thn (ha pins s σ H _ I h) fun c s1 ⟨H1,I1,q1⟩=>?_)
 cases c with
 | true=>exact hb wh pins s1 σ H1 Q I1 q1
 | false=>exact ⟨H1,I1,q1⟩
theorem Vk (ha:PT X a tA) (hb:PW X (.BoolOp .Or (b :: rest) pos) tB'):PW X (.BoolOp .Or (a :: b :: rest) pos) (tOr tA tB'):=by
 intro wh pins s σ H Q I h;refine isTrue_or (thn (ha pins s σ H _ I h) fun c s1 ⟨H1,I1,q1⟩=>?_)
 cases c with
 | true=>exact ⟨H1,I1,q1⟩
 | false=>exact hb wh pins s1 σ H1 Q I1 q1
theorem Ru (ha:PT X a tA):PT X (.UnaryOp .Not a pos) (lU tA):=by
 intro pins s σ H Q I h;exact isTrue_not (ha pins s σ H (fun c H1=>Q (!c) H1) I h)
def Vl (ta tb:TE):TE:=fun σ H Q=>ta σ H fun x H1=>∃ c,x = .bl c∧if c=true then tb σ H1 Q else Q (.bl false) H1
def X7 (ta tb:TE):TE:=fun σ H Q=>ta σ H fun x H1=>∃ c,x = .bl c∧if c=true then Q (.bl true) H1 else tb σ H1 Q
def Vm (ta:TE):TE:=fun σ H Q=>ta σ H fun x H1=>∃ c,x = .bl c∧Q (.bl (!c)) H1
theorem Rv {op} {t:TE} (h:PE X a t):PE X (.BoolOp op [a] pos) t:=fun pins s σ H Q I hw=>BoolOp_one (h pins s σ H Q I hw)
theorem Rw (ha:PE X a ta) (hb:PE X (.BoolOp .And (b :: rest) pos) tb):PE X (.BoolOp .And (a :: b :: rest) pos) (Vl ta tb):=by
 intro pins s σ H Q I h;refine BoolOp_and (thn (ha pins s σ H _ I h) fun v s1 ⟨x,H1,I1,r1,q1⟩=>?_);obtain ⟨c,rfl,q1⟩:=q1
 cases r1;refine ai ?_
 cases c with
 | true=>exact hb pins s1 σ H1 Q I1 q1
 | false=>exact ⟨.bl false,H1,I1,rfl,q1⟩
theorem Vp (ha:PE X a ta) (hb:PE X (.BoolOp .Or (b :: rest) pos) tb):PE X (.BoolOp .Or (a :: b :: rest) pos) (X7 ta tb):=by
 intro pins s σ H Q I h;refine BoolOp_or (thn (ha pins s σ H _ I h) fun v s1 ⟨x,H1,I1,r1,q1⟩=>?_);obtain ⟨c,rfl,q1⟩:=q1
 cases r1;refine ai ?_
 cases c with
 | false=>exact hb pins s1 σ H1 Q I1 q1
 | true=>exact ⟨.bl true,H1,I1,rfl,q1⟩
theorem Rx (ha:PE X a ta):PE X (.UnaryOp .Not a pos) (Vm ta):=by
 intro pins s σ H Q I h;refine UnaryOp_ (thn (ha pins s σ H _ I h) fun v s1 ⟨x,H1,I1,r1,q1⟩=>?_);obtain ⟨c,rfl,q1⟩:=q1
 cases r1;exact not_of (ai ⟨.bl (!c),H1,I1,rfl,q1⟩)
end
end L2
namespace L2
open PySem PySem.Spec PyProof.Rows
def SqL (K:PySem.W.Frag) (H:Hp) (a:Addr) (xs:List V):Prop :=
 Rd H a (.lst xs) ∨
  ∃ (o:Obj) (its:Array Value) (n:Nat),K.lookup a=some o∧o.cls = .type "list" ∧ o.dict=none∧o.data = .seq its n∧its.size ≤ sizeLine∧Vals xs its.toList
def SqT (K:PySem.W.Frag) (H:Hp) (a:Addr) (xs:List V):Prop :=
 Rd H a (.tup xs) ∨
  ∃ (o:Obj) (its:Array Value) (n:Nat),K.lookup a=some o∧o.cls = .type "tuple" ∧ o.data = .seq its n∧its.size ≤ sizeLine∧Vals xs its.toList
noncomputable def X8:Value→Option V
 | .none=>some .non
 | .bool b=>some (.bl b)
 | .int i _=>some (.int i)
 | .str x _=>some (.str x)
 | .bytes b _=>some (.byt b)
 | .float b _=>some (.flt b)
 | .ref a=>some (.ref a)
 | .type n=>some (.ty n)
 | _=>none
theorem RelV.abs {x:V} {u:Value} (r:RelV x u):X8 u=some x:=by
 cases x with
 | non=>cases r;rfl
 | bl _=>cases r;rfl
 | int _=>obtain ⟨t,rfl⟩:=r;rfl
 | str _=>obtain ⟨t,rfl⟩:=r;rfl
 | byt _=>obtain ⟨t,rfl⟩:=r;rfl
 | flt _=>obtain ⟨t,rfl⟩:=r;rfl
 | ref _=>cases r;rfl
 | ty _=>cases r;rfl
theorem RelV.inj {x y:V} {u:Value} (r:RelV x u) (q:RelV y u):x=y:=cM.inj (r.abs.symm.trans q.abs)
theorem Vals.inj:∀ {xs ys:List V} {us:List Value},Vals xs us→Vals ys us→xs=ys
 | _,_,_,.nil,.nil=>rfl
 | _,_,_,.cons r t,.cons r' t'=>by rw [r.inj r',Vals.inj t t']
section
variable {X:Cx} {pins:List (Addr × Obj)} {σ:St} {H:Hp} {s:Shared} {a:Addr} {xs ys:List V}
theorem SqL.of {K:PySem.W.Frag} (h:H a=some (.lst xs)):SqL K H a xs:=.inl (.inl h)
theorem Inv.list (I:Inv X pins σ H s) (h:SqL X.K H a xs):∃ its:List Value,Vals xs its∧PlainL s.heap a its.toArray∧xs.length ≤ sizeLine:=by
 rcases h with h | ⟨o,its,n,hk,hc,hd,hs,hz,r⟩
 ·obtain ⟨z,its,n,r,e⟩:=h.ok I.hok;exact ⟨its,r,⟨_,n,e,rfl,rfl,rfl⟩,z⟩
 ·refine ⟨its.toList,r,⟨o,n,I.kIn a o hk,hc,hd,by simpa using hs⟩,?_⟩;have e:=r.length;simp only [dM] at e;omega
theorem Inv.tuple (I:Inv X pins σ H s) (h:SqT X.K H a xs):∃ its:List Value,Vals xs its∧IsTup s.heap a its.toArray∧xs.length ≤ sizeLine:=by
 rcases h with h | ⟨o,its,n,hk,hc,hs,hz,r⟩
 ·obtain ⟨z,its,r,p⟩:=h.ok I.hok;exact ⟨its,r,p,z⟩
 ·refine ⟨its.toList,r,⟨o,I.kIn a o hk,hc,n,by simpa using hs⟩,?_⟩;have e:=r.length;simp only [dM] at e;omega
theorem Inv.list_inj (I:Inv X pins σ H s) (h:SqL X.K H a xs) (h':SqL X.K H a ys):xs=ys:=by
 obtain ⟨its,r,⟨o,n,e,_,_,d⟩,_⟩:=I.list h;obtain ⟨its',r',⟨o',n',e',_,_,d'⟩,_⟩:=I.list h';rw [e] at e';cases e';rw [d] at d';injection d' with d1 _
 have:its=its':=by simpa using congrArg Array.toList d1
 subst this;exact r.inj r'
theorem Inv.tuple_inj (I:Inv X pins σ H s) (h:SqT X.K H a xs) (h':SqT X.K H a ys):xs=ys:=by
 obtain ⟨its,r,⟨o,e,_,n,d⟩,_⟩:=I.tuple h;obtain ⟨its',r',⟨o',e',_,n',d'⟩,_⟩:=I.tuple h';rw [e] at e';cases e';rw [d] at d';injection d' with d1 _
 have:its=its':=by simpa using congrArg Array.toList d1
 subst this;exact r.inj r'
end
abbrev Cx.wish (X:Cx) (E:Value→Shared→Prop):Cx:={ X with xe:=E }
abbrev Cx.nox (X:Cx):Cx:=X.wish fun _ _=>False
theorem Cx.Ok.wish {X:Cx} (ok:X.Ok) (E:Value→Shared→Prop):(X.wish E).Ok :=
 ⟨ok.mod,ok.kind,ok.glob,ok.blt,ok.above,ok.inj,ok.has,ok.cab,ok.hd,ok.frames,ok.stk,ok.exf,ok.bs,ok.bsz,ok.noex,ok.exfs,ok.funs,ok.frf⟩
theorem Cx.Ok.unwish {X:Cx} {E:Value→Shared→Prop} (ok:(X.wish E).Ok):X.Ok :=
 ⟨ok.mod,ok.kind,ok.glob,ok.blt,ok.above,ok.inj,ok.has,ok.cab,ok.hd,ok.frames,ok.stk,ok.exf,ok.bs,ok.bsz,ok.noex,ok.exfs,ok.funs,ok.frf⟩
section
variable {X:Cx} {pins:List (Addr × Obj)} {σ:St} {H:Hp} {s:Shared} {E:Value→Shared→Prop}
theorem Inv.wish (I:Inv X pins σ H s) (E:Value→Shared→Prop):Inv (X.wish E) pins σ H s:=⟨I.ok.wish E,I.os,I.bare,I.base,I.loc,I.cell,I.free,I.freeC,I.pin,I.hok,I.len⟩
theorem Inv.unwish (I:Inv (X.wish E) pins σ H s):Inv X pins σ H s:=⟨I.ok.unwish,I.os,I.bare,I.base,I.loc,I.cell,I.free,I.freeC,I.pin,I.hok,I.len⟩
theorem SP.unwish {D:Ends} {f:Flow} {s':Shared} (h:SP (X.wish E) pins D f s'):SP X pins D f s':=by
 cases f with
 | next=>obtain ⟨σ',H',I,q⟩:=h;exact ⟨σ',H',I.unwish,q⟩
 | brk=>obtain ⟨σ',H',I,q⟩:=h;exact ⟨σ',H',I.unwish,q⟩
 | cont=>obtain ⟨σ',H',I,q⟩:=h;exact ⟨σ',H',I.unwish,q⟩
 | ret u=>obtain ⟨v,σ',H',I,r,q⟩:=h;exact ⟨v,σ',H',I.unwish,r,q⟩
theorem PSs.nox {st:List Stmt} {t:TS} (h:PSs X.nox st t):PSs X st t:=fun pins s σ H D I hw =>
 av (h pins s σ H D (I.wish _) hw) (fun _ _ q=>q.unwish) fun _ _ z=>False.elim z
end
section
variable {X:Cx} {st:Stmt} {rest:List Stmt} {t u:TS} {e:Expr} {te:TE} {pos:Pos}
def Vq:TS:=fun D σ H=>D.nx σ H
def X_ (t u:TS):TS:=fun D σ H=>t { D with nx:=u D } σ H
theorem M7:PSs X [] Vq:=fun _ _ σ H _ I h=>a7 ⟨σ,H,I,h⟩
theorem JC (h1:PS X st t) (h2:PSs X rest u):PSs X (st :: rest) (X_ t u):=by
 intro pins s σ H D I h;refine wpAny_execs_cons (thn (h1 pins s σ H { D with nx:=u D } I h) fun f s1 q=>?_)
 cases f with
 | next =>
  obtain ⟨σ',H',I',q⟩:=q;exact h2 pins s1 σ' H' D I' q
 | ret v=>exact q
 | brk=>exact q
 | cont=>exact q
theorem M8 (h1:PS X st t):PSs X [st] t:=by
 intro pins s σ H D I h;refine wpAny_execs_cons (thn (h1 pins s σ H D I h) fun f s1 q=>?_)
 cases f with
 | next=>exact a7 q
 | ret v=>exact q
 | brk=>exact q
 | cont=>exact q
theorem Inv.quiet {pins:List (Addr × Obj)} {σ:St} {H:Hp} {s:Shared} (I:Inv X pins σ H s):interactive X.env=false:=by simp [interactive,I.ok.kind]
def Vr (te:TE):TS:=fun D σ H=>te σ H fun _ H1=>D.nx σ H1
theorem vO (he:PE X e te) (hs:swapsWith e none pos.line X.env=pure false:=by rfl):PS X (.Expr e pos) (Vr te):=by
 intro pins s σ H D I h;exact wpAny_Expr_any (thn (he pins s σ H _ I h) fun v s1 ⟨x,H1,I1,r1,q1⟩=>⟨σ,H1,I1,q1⟩) I.quiet hs
def Yb (te:TE):TS:=fun D σ H=>te σ H D.rt
theorem Ry (he:PE X e te):PS X (.Return (some e) pos) (Yb te):=by
 intro pins s σ H D I h;exact wpAny_Return_some (thn (he pins s σ H _ I h) fun v s1 ⟨x,H1,I1,r1,q1⟩=>⟨x,σ,H1,I1,r1,q1⟩)
def Yc (c:TT) (t u:TS):TS:=fun D σ H=>c σ H fun b H1=>if b=true then t D σ H1 else u D σ H1
theorem Vs {c:Expr} {a b:List Stmt} {tc:TT} (hc:PT X c tc) (ha:PSs X a t) (hb:PSs X b u):PS X (.If c a b pos) (Yc tc t u):=by
 intro pins s σ H D I h;refine wpAny_If (thn (hc pins s σ H _ I h) fun d s1 ⟨H1,I1,q1⟩=>?_)
 cases d with
 | true=>exact ha pins s1 σ H1 D I1 q1
 | false=>exact hb pins s1 σ H1 D I1 q1
def Rz:TS:=fun _ _ _=>False
theorem JD:PS X st Rz:=fun _ _ _ _ _ _ h=>h.elim
end
abbrev TG:=V→St→Hp→(St→Hp→Prop)→Prop
abbrev TGs:=List V→St→Hp→(St→Hp→Prop)→Prop
def PG (X:Cx) (target:Expr) (t:TG):Prop :=
 ∀ (pins:List (Addr × Obj)) (s:Shared) (σ:St) (H:Hp) (v:V) (u:Value) (Q:St→Hp→Prop),Inv X pins σ H s→RelV v u→t v σ H Q →
  wpAny (model X.prog X.w) X.A (assign target X.env u) (fun _ s'=>∃ σ' H',Inv X pins σ' H' s'∧Q σ' H') X.xe s
def PGs (X:Cx) (ts:List Expr) (t:TGs):Prop :=
 ∀ (pins:List (Addr × Obj)) (s:Shared) (σ:St) (H:Hp) (vs:List V) (us:List Value) (Q:St→Hp→Prop),Inv X pins σ H s→Vals vs us→t vs σ H Q →
  wpAny (model X.prog X.w) X.A (assignInOrder ((assignEach ts X.env).map (·.2)) us) (fun _ s'=>∃ σ' H',Inv X pins σ' H' s'∧Q σ' H') X.xe s
abbrev RB:=V→V→V→Hp→(Hp→Prop)→Prop
def RD (X:Cx) (t:RB):Prop :=
 ∀ (pins:List (Addr × Obj)) (s:Shared) (σ:St) (H:Hp) (o i v:V) (ov iv u:Value) (Q:Hp→Prop),Inv X pins σ H s→RelV o ov→RelV i iv→RelV v u→t o i v H Q →
  wpAny (model X.prog X.w) X.A (setItem ov iv u) (fun _ s'=>∃ H',Inv X pins σ H' s'∧Q H') X.xe s
section
variable {X:Cx} {pos:Pos}
def JF (i:Nat):TG:=fun v σ H Q=>Q (σ.set i (some v)) H
theorem M9 {i:Nat} {x:Str} (hN:X.N.Nodup) (hi:X.N[i]? = some x) (hx:Loc X.env.scope x) (hf:X.fn x=true∨X.env.scope.names.lookup x=some .local:=by first | exact .inl rfl | exact .inr rfl | assumption):PG X (.Name x pos) (JF i):=by
 intro pins s σ H v u Q I r h;exact wpAny_assign_Name (Bv I hN hi hx r (fun s' I'=>⟨_,H,I',h⟩) hf)
def Yd:TGs:=fun vs σ H Q=>vs=[]∧Q σ H
def Vt (t:TG) (u:TGs):TGs:=fun vs σ H Q=>∃ v r,vs=v :: r∧t v σ H fun σ' H'=>u r σ' H' Q
theorem M_:PGs X [] Yd:=by
 intro pins s σ H vs us Q I r h;obtain ⟨e,h⟩:=h;subst e
 cases r;exact assignInOrder_nil ⟨σ,H,I,h⟩
theorem JG {e:Expr} {es:List Expr} {t:TG} {u:TGs} (h1:PG X e t) (h2:PGs X es u)
 (hs:(assignEach (e :: es) X.env).map (·.2)=assign e X.env :: (assignEach es X.env).map (·.2):=by rfl):PGs X (e :: es) (Vt t u):=by
 intro pins s σ H vs us Q I r h;obtain ⟨v,vr,e1,h⟩:=h;subst e1
 cases r with
 | cons r rr =>
  rw [hs];refine assignInOrder_cons (thn (h1 pins s σ H _ _ _ I r h) fun _ s1 ⟨σ1,H1,I1,q1⟩=>?_);exact h2 pins s1 σ1 H1 _ _ Q I1 rr q1
def Ye (K:PySem.W.Frag) (n:Nat) (t:TGs):TG:=fun v σ H Q=>∃ a xs,v = .ref a∧SqT K H a xs∧xs.length=n∧t xs σ H Q
theorem RG {es:List Expr} {k:Nat} {t:TGs} {n:Nat} (hc:X.calm=true) (h:PGs X es t)
 (hn:(assignEach es X.env).length=n:=by rfl) (hst:(assignEach es X.env).findIdx? (·.1)=none:=by rfl):PG X (.Tuple es k pos) (Ye X.K n t):=by
 intro pins s σ H v u Q I r hw;obtain ⟨a,xs,e1,hq,hl,hw⟩:=hw;subst e1
 cases r;obtain ⟨its,rv,ht,hz⟩:=I.tuple hq;refine assign_Tuple_tuple (I.ok.hd hc) ht (by simp [hn,← hl,rv.length]) hst fun h' hx=>?_
 have I1:=I.kept (t':=s.toks) fun b o e=>hx b o (bW (aa e)) e
 exact h pins _ σ H xs _ Q I1 (by simpa using rv) hw
def DK (to ti:TE) (t:RB):TG:=fun v σ H Q=>to σ H fun o H1=>ti σ H1 fun i H2=>t o i v H2 fun H3=>Q σ H3
theorem JH {o i:Expr} {to ti:TE} {t:RB} (ho:PE X o to) (hi:PE X i ti) (hs:RD X t)
 (ha:∀ v,assign (.Subscript o i pos) X.env v=(do
  let ov ← holding [v] (eval o X.env)
  let iv ← holding [v,ov] (eval i X.env)
  standAt pos
  holding [v,ov,iv] (setItem ov iv v)
  release [v,ov,iv] []):=by intro _;rfl):PG X (.Subscript o i pos) (DK to ti t):=by
 intro pins s σ H v u Q I r h;rw [ha];refine ae (a5 (thn (ho pins s σ H _ I h) fun ov s1 ⟨x,H1,I1,r1,q1⟩=>?_));refine ae (a5 (thn (hi pins s1 σ H1 _ I1 q1) fun iv s2 ⟨y,H2,I2,r2,q2⟩=>?_));refine ae (a9 (ae (a5 (thn (hs pins s2 σ H2 x y v ov iv u _ I2 r1 r2 r q2) fun _ s3 ⟨H3,I3,q3⟩=>?_))));exact wpAny_release ⟨σ,H3,I3,q3⟩
def RJ (te:TE) (g:TG):TS:=fun D σ H=>te σ H fun x H1=>g x σ H1 D.nx
theorem DN {tg e:Expr} {te:TE} {g:TG} (he:PE X e te) (hg:PG X tg g) (hs:swapsWithSole [tg] e pos.line X.env=pure false:=by rfl) (hw:swappedStores [tg] e X.env=pure none:=by rfl)
 (h1:(assignEach [tg] X.env).map (·.2)=[assign tg X.env]:=by rfl):PS X (.Assign [tg] e pos) (RJ te g):=by
 intro pins s σ H D I h;refine wpAny_Assign_stores (thn (he pins s σ H _ I h) fun v s1 ⟨x,H1,I1,r1,q1⟩=>?_) hs hw;rw [h1];exact thn (hg pins s1 σ H1 x v _ I1 r1 q1) fun _ s2 q=>q
theorem DP {i:Nat} {x:Str} {e:Expr} {te:TE} {pos':Pos} (hN:X.N.Nodup) (hi:X.N[i]? = some x) (hx:Loc X.env.scope x) (he:PE X e te) (hs:swapsWith e (some (.Name x pos')) pos.line X.env=pure false:=by rfl) (hf:X.fn x=true∨X.env.scope.names.lookup x=some .local:=by first | exact .inl rfl | exact .inr rfl | assumption) :
 PS X (.Assign [.Name x pos'] e pos) (RJ te (JF i)):=by
 intro pins s σ H D I h;refine wpAny_Assign_Name (thn (he pins s σ H _ I h) fun v s1 ⟨y,H1,I1,r1,q1⟩=>?_) hs;exact Bv I1 hN hi hx r1 (fun s2 I2=>⟨_,H1,I2,q1⟩) hf
end
section
variable {X:Cx} {pos:Pos}
def RK (c:TT) (tb:TS):TS:=fun D σ H=>∃ W:Nat→St→Hp→Prop,(∃ m,W m σ H)∧∀ m σ H,W m σ H →
 c σ H fun b H1=>if b=true then ∃ N:St→Hp→Prop,(∀ σ' H',N σ' H'→∃ m',m' < m∧W m' σ' H')∧tb { D with nx:=N,ct:=N,bk:=D.nx } σ H1 else D.nx σ H1
theorem JK {c:Expr} {body:List Stmt} {tc:TT} {tb:TS} (hp:PassesOwn (model X.prog X.w) X.A X.env X.xe) (hc:PT X c tc) (hb:PSs X body tb):PS X (.While c body [] pos) (RK tc tb):=by
 intro pins s σ H D I h;obtain ⟨W,⟨m0,w0⟩,turn⟩:=h;refine wpAny_While (codeAny_whileLoop (fun n s'=>∃ σ' H',Inv X pins σ' H' s'∧W n σ' H') ?_ m0 ⟨σ,H,I,w0⟩);rintro n s1 ⟨σ1,H1,I1,w1⟩;refine az hp (thn (hc pins s1 σ1 H1 _ I1 (turn n σ1 H1 w1)) fun b s2 ⟨H2,I2,q2⟩=>?_)
 cases b with
 | true =>
  obtain ⟨N,hN,q2⟩:=q2;rw [if_pos rfl];refine az hp (thn (hb pins s2 σ1 H2 _ I2 q2) fun f s3 q3=>?_)
  cases f with
  | next =>
   obtain ⟨σ3,H3,I3,n3⟩:=q3;obtain ⟨m',hm,w3⟩:=hN σ3 H3 n3;exact ⟨m',hm,σ3,H3,I3,w3⟩
  | cont =>
   obtain ⟨σ3,H3,I3,n3⟩:=q3;obtain ⟨m',hm,w3⟩:=hN σ3 H3 n3;exact ⟨m',hm,σ3,H3,I3,w3⟩
  | brk=>exact q3
  | ret v=>exact q3
 | false =>
  rw [if_neg dZ];exact a7 ⟨σ1,H2,I2,q2⟩
end
structure It where
 go:Nat→Hp→Prop
 yld:Nat→Hp→V→Hp→Prop
 stop:Nat→Hp→Prop
def uE (X:Cx) (pins:List (Addr × Obj)) (H:Hp) (b:Addr):Prop :=
 H b=none∧b ≠ X.env.locals∧b ∉ X.fs∧(b ∈ X.ex∨X.s₀.heap.objs.size ≤ b)∧(∀ x c,X.env.cells.lookup x=some c→c ≠ b)∧∀ p ∈ X.pn++pins,p.1 ≠ b
theorem Inv.fpOk {X:Cx} {pins:List (Addr × Obj)} {σ:St} {H H':Hp} {s:Shared} {b:Addr} (I:Inv X pins σ H s) (hb:s.heap.objs.size ≤ b) (hn:H' b=none):uE X pins H' b:=by
 refine ⟨hn,Nat.ne_of_gt (bV I.lt hb),I.nofs hb,.inr (bY I.sz hb),fun x c e z=>?_,fun p hp z=>?_⟩
 ·obtain ⟨v,q⟩:=I.cell x c e;exact absurd (bV q.lt (by rwa [z])) (iY _)
 ·exact absurd (bV (aa (I.pin p hp).1) (by rwa [z])) (iY _)
structure Turn (P:Program) (w:World) (K:PySem.W.Frag) (tg:Expr) (J:It) (fp:List Addr) (it:Addr) (tn:Nat→Heap→Prop):Prop where
 mem:it ∈ fp
 obj:∀ i h,tn i h→∀ b ∈ fp,∃ o,h.get? b=some o∧∀ v,o.data ≠ .cell v
 keep:∀ i h h',tn i h→(∀ b ∈ fp,∀ o,h.get? b=some o→h'.get? b=some o)→tn i h'
 item:∀ (X:Cx),X.prog=P→X.w=w→X.K=K→X.calm=true→∀ (i:Nat) (pins:List (Addr × Obj)) (s:Shared) (σ:St) (H:Hp) (E:Value→Shared→Prop),Inv X pins σ H s→(∀ b ∈ fp,uE X pins H b)→tn i s.heap→J.go i H →
  wpAny (model P w) X.A (pyNext (.ref it)) (fun r s1=>∃ u,r=some u ∧
   wpAny (model P w) X.A (letOwnedTupleGo tg (.ref it) u) (fun _ s2=>∃ x H',Inv X pins σ H' s2∧RelV x u∧J.yld i H x H'∧tn (i + 1) s2.heap∧∀ b ∈ fp,H' b=none) E s1) E s
 done:∀ (X:Cx),X.prog=P→X.w=w→X.K=K→X.calm=true→∀ (i:Nat) (pins:List (Addr × Obj)) (s:Shared) (σ:St) (H:Hp) (E:Value→Shared→Prop),Inv X pins σ H s→(∀ b ∈ fp,uE X pins H b)→tn i s.heap→J.stop i H →
  wpAny (model P w) X.A (pyNext (.ref it)) (fun r s1=>r=none∧Inv X pins σ H s1) E s
 self:∀ (A:Around) (i:Nat) (s:Shared) (Q:Value→Shared→Prop) (E:Value→Shared→Prop),tn i s.heap→Q (.ref it) s→wpAny (model P w) A (pyIter (.ref it)) Q E s
abbrev TI:=St→Hp→(It→Hp→Prop)→Prop
def PIE (X:Cx) (pins:List (Addr × Obj)) (σ:St) (tg:Expr) (R:It→Hp→Prop) (itv:Value) (s2:Shared):Prop :=
 ∃ (it:Addr) (fp:List Addr) (tn:Nat→Heap→Prop) (J:It) (H':Hp),itv = .ref it∧Inv X pins σ H' s2∧Turn X.prog X.w X.K tg J fp it tn∧tn 0 s2.heap∧(∀ b ∈ fp,uE X pins H' b)∧R J H'
def PI (X:Cx) (tg iter:Expr) (wi:TI):Prop :=
 ∀ (pins:List (Addr × Obj)) (s:Shared) (σ:St) (H:Hp) (R:It→Hp→Prop),Inv X pins σ H s→wi σ H R →
  wpAny (model X.prog X.w) X.A (eval iter X.env) (fun v s1=>wpAny (model X.prog X.w) X.A (pyIter v) (PIE X pins σ tg R) X.xe s1) X.xe s
theorem JL {M:Model} {A:Around} {E:Value→Shared→Prop} {s:Shared} {tg:Expr} {it:Addr} {u:Value} {o:Obj} {n:String} {vs:Array Value} {Q:Unit→Shared→Prop} (ho:s.heap.get? it=some o) (hc:o.cls = .type n) (hd:o.data = .fields vs)
 (hn:["enumerate", "zip", "dict_itemiterator", "dict_reverseitemiterator", "odict_iterator", "itertools.zip_longest", "itertools.pairwise"].contains n=false) (hQ:Q () s):wpAny M A (letOwnedTupleGo tg (.ref it) u) Q E s:=by
 cases tg <;> first
  | exact ah hQ
  | (cases u <;> first
   | exact ah hQ
   | (refine ae (wpAny_load ho ?_)
      rw [hc,hd];show wpAny M A (if (["enumerate", "zip", "dict_itemiterator", "dict_reverseitemiterator", "odict_iterator", "itertools.zip_longest", "itertools.pairwise"].contains n && vs[0]? == some (rawInt _))=true then _ else _) Q E s;rw [if_neg (by intro h;rw [hn,f9] at h;cases h)];exact ah hQ))
noncomputable def Itl (K:PySem.W.Frag) (a:Addr):It :=
 ⟨fun i H=>∃ xs x,SqL K H a xs∧xs[i]? = some x,fun i H x H'=>H'=H∧∀ xs,SqL K H a xs→xs[i]? = some x,fun i H=>∃ xs,SqL K H a xs∧xs.length ≤ i⟩
noncomputable def Itt (K:PySem.W.Frag) (a:Addr):It :=
 ⟨fun i H=>∃ xs x,SqT K H a xs∧xs[i]? = some x,fun i H x H'=>H'=H∧∀ xs,SqT K H a xs→xs[i]? = some x,fun i H=>∃ xs,SqT K H a xs∧xs.length ≤ i⟩
noncomputable def Itr (lo:Int) (n:Nat):It:=⟨fun i _=>i < n,fun i H x H'=>H'=H∧x = .int (lo + i),fun i _=>n ≤ i⟩
theorem Hr {P:Program} {w:World} {K:PySem.W.Frag} {tg:Expr} (a it:Addr):Turn P w K tg (Itl K a) [it] it (fun i h=>h.IsListIter it a i) where
 mem:=by simp
 obj:=fun i h st b hb=>by
  have e:b=it:=by simpa using hb
  subst e;obtain ⟨o,e,c,d⟩:=st;exact ⟨o,e,fun v z=>by rw [d] at z;cases z⟩
 keep:=fun i h h' st k=>st.at fun o e=>k it (by simp) o e
 item:=by
  intro X hP hw hK hc i pins s σ H E I hf st hg;subst hP hw hK;obtain ⟨xs,x,hq,hx⟩:=hg;obtain ⟨its,rv,p,hz⟩:=I.list hq;obtain ⟨u,hu,ru⟩:=rv.get hx;obtain ⟨f0,f1,f2,f3,f4,f5⟩:=hf it (by simp);refine wpAny_pyNext_list_item st p.isList (x:=u) (by simpa using hu) fun h' st' sb=>?_
  have I1:=I.turned (t':=s.toks) (fun b o hb e=>(sb.2 b hb).trans e) f0 f1 f3 f4 f5;obtain ⟨o,e,c,d⟩:=id st';exact ⟨u,rfl,JL (s:={ s with heap:=h' }) e c d (by decide) ⟨x,H,I1,ru,⟨rfl,fun ys hy=>by rwa [I.list_inj hy hq]⟩,st',fun b hb=>(hf b hb).1⟩⟩
 done:=by
  intro X hP hw hK hc i pins s σ H E I hf st hg;subst hP hw hK;obtain ⟨xs,hq,hx⟩:=hg;obtain ⟨its,rv,p,hz⟩:=I.list hq;obtain ⟨f0,f1,f2,f3,f4,f5⟩:=hf it (by simp);have hl:=rv.length;exact wpAny_pyNext_list_end (I.ok.hd hc) st p.isList (by simp;omega) fun h' eb=>⟨rfl,I.turned (t':=s.toks) (fun b o hb e=>eb b o hb e) f0 f1 f3 f4 f5⟩
 self:=fun _ _ _ _ _ st h=>wpAny_pyIter_listiter st h
theorem DQ {P:Program} {w:World} {K:PySem.W.Frag} {tg:Expr} (a it:Addr):Turn P w K tg (Itt K a) [it] it (fun i h=>h.IsTupleIter it a i) where
 mem:=by simp
 obj:=fun i h st b hb=>by
  have e:b=it:=by simpa using hb
  subst e;obtain ⟨o,e,c,d⟩:=st;exact ⟨o,e,fun v z=>by rw [d] at z;cases z⟩
 keep:=fun i h h' st k=>st.at fun o e=>k it (by simp) o e
 item:=by
  intro X hP hw hK hc i pins s σ H E I hf st hg;subst hP hw hK;obtain ⟨xs,x,hq,hx⟩:=hg;obtain ⟨its,rv,p,hz⟩:=I.tuple hq;obtain ⟨u,hu,ru⟩:=rv.get hx;obtain ⟨f0,f1,f2,f3,f4,f5⟩:=hf it (by simp);refine wpAny_pyNext_tuple_item st (show s.heap.IsTuple a its.toArray from p) (x:=u) (by simpa using hu) fun h' st' sb=>?_
  have I1:=I.turned (t':=s.toks) (fun b o hb e=>(sb.2 b hb).trans e) f0 f1 f3 f4 f5;obtain ⟨o,e,c,d⟩:=id st';exact ⟨u,rfl,JL (s:={ s with heap:=h' }) e c d (by decide) ⟨x,H,I1,ru,⟨rfl,fun ys hy=>by rwa [I.tuple_inj hy hq]⟩,st',fun b hb=>(hf b hb).1⟩⟩
 done:=by
  intro X hP hw hK hc i pins s σ H E I hf st hg;subst hP hw hK;obtain ⟨xs,hq,hx⟩:=hg;obtain ⟨its,rv,p,hz⟩:=I.tuple hq;obtain ⟨f0,f1,f2,f3,f4,f5⟩:=hf it (by simp);have hl:=rv.length;exact wpAny_pyNext_tuple_end (I.ok.hd hc) st (show s.heap.IsTuple a its.toArray from p) (by simp;omega) fun h' eb=>⟨rfl,I.turned (t':=s.toks) (fun b o hb e=>eb b o hb e) f0 f1 f3 f4 f5⟩
 self:=fun _ _ _ _ _ st h=>wpAny_pyIter_tupleiter st h
theorem DR {P:Program} {w:World} {K:PySem.W.Frag} {tg:Expr} (it:Addr) (lo:Int) (n:Nat):Turn P w K tg (Itr lo n) [it] it (fun i h=>IsRangeIter h it (lo + (i:Nat) * 1) ((n:Int) - (i:Nat)) 1) where
 mem:=by simp
 obj:=fun i h st b hb=>by
  have e:b=it:=by simpa using hb
  subst e;exact ⟨_,st,fun v z=>by
   have z':Data.fields _=Data.cell v:=z
   cases z'⟩
 keep:=fun i h h' st k=>k it (by simp) _ st
 item:=by
  intro X hP hw hK hc i pins s σ H E I hf st hg;subst hP hw hK;obtain ⟨f0,f1,f2,f3,f4,f5⟩:=hf it (by simp);have W:=Walks.range (prog:=X.prog) (w:=X.w) (I.ok.hd hc) it lo 1 n;refine W.item i s _ _ hg st fun v h' tk hv st' kk=>?_
  obtain ⟨t,rfl⟩:=hv;have I1:Inv X pins σ H { s with heap:=h',toks:=tk }:=I.turned (fun b o hb e=>kk b o (by simpa using hb) e) f0 f1 f3 f4 f5;refine ⟨_,rfl,JL (s:={ s with heap:=h',toks:=tk }) (n := "range_iterator") st' rfl rfl (by decide) ⟨.int (lo + i),H,I1,⟨t,?_⟩,⟨rfl,rfl⟩,st',fun b hb=>(hf b hb).1⟩⟩;rw [Int.mul_one]
 done:=by
  intro X hP hw hK hc i pins s σ H E I hf st hg;subst hP hw hK;obtain ⟨f0,f1,f2,f3,f4,f5⟩:=hf it (by simp);exact wpAny_pyNext_range_end (I.ok.hd hc) st (by have:n ≤ i:=hg;omega) fun h' eb=>⟨rfl,I.turned (t':=s.toks) (fun b o hb e=>eb b o hb e) f0 f1 f3 f4 f5⟩
 self:=fun _ _ _ _ _ st h=>wpAny_pyIter_rangeiter st h
end L2
namespace L2
open PySem PySem.Spec PyProof.Rows
section
variable {X:Cx} {tg:Expr}
def Vu (K:PySem.W.Frag) (tl:TE):TI:=fun σ H R=>tl σ H fun x H1=>∃ a,x = .ref a∧(∃ xs,SqL K H1 a xs)∧R (Itl K a) H1
def Yg (K:PySem.W.Frag) (tl:TE):TI:=fun σ H R=>tl σ H fun x H1=>∃ a,x = .ref a∧(∃ xs,SqT K H1 a xs)∧R (Itt K a) H1
theorem Gd {l:Expr} {tl:TE} (hl:PE X l tl):PI X tg l (Vu X.K tl):=by
 intro pins s σ H R I h;refine thn (hl pins s σ H _ I h) fun v s1 ⟨x,H1,I1,r1,q1⟩=>?_
 obtain ⟨a,e,⟨xs,hq⟩,q⟩:=q1;subst e
 cases r1;obtain ⟨its,rv,p,hz⟩:=I1.list hq;refine wpAny_pyIter_list p.isList ?_;refine ⟨s1.heap.objs.size,[s1.heap.objs.size],_,_,H1,rfl,I1.kept (t':=s1.toks) fun b o e=>ac _ e,Hr a _,⟨_,af _ rfl,rfl,rfl⟩,fun b hb=>?_,q⟩;have e:b=s1.heap.objs.size:=by simpa using hb
 subst e;exact I1.fpOk (bB _) (I1.hok.fresh (bB _))
theorem RM {l:Expr} {tl:TE} (hl:PE X l tl):PI X tg l (Yg X.K tl):=by
 intro pins s σ H R I h;refine thn (hl pins s σ H _ I h) fun v s1 ⟨x,H1,I1,r1,q1⟩=>?_
 obtain ⟨a,e,⟨xs,hq⟩,q⟩:=q1;subst e
 cases r1;obtain ⟨its,rv,p,hz⟩:=I1.tuple hq;refine wpAny_pyIter_tuple (show s1.heap.IsTuple a its.toArray from p) ?_;refine ⟨s1.heap.objs.size,[s1.heap.objs.size],_,_,H1,rfl,I1.kept (t':=s1.toks) fun b o e=>ac _ e,DQ a _,⟨_,af _ rfl,rfl,rfl⟩,fun b hb=>?_,q⟩;have e:b=s1.heap.objs.size:=by simpa using hb
 subst e;exact I1.fpOk (bB _) (I1.hok.fresh (bB _))
theorem Bx {pins:List (Addr × Obj)} {σ:St} {H:Hp} {s:Shared} {R:It→Hp→Prop} {E:Value→Shared→Prop} {lo hi:Int} {t u v:Tok} {tk:Nat} (I:Inv X pins σ H s) (h1 : -(2 ^ 62) ≤ lo) (h2:lo < 2 ^ 62) (h3 : -(2 ^ 62) ≤ hi) (h4:hi < 2 ^ 62)
 (q:R (Itr lo (hi - lo).toNat) H):wpAny (model X.prog X.w) X.A (pyIter (.ref s.heap.objs.size)) (PIE X pins σ tg R) E { s with heap:=s.heap.push { cls:=.type "range", data:=.fields #[.int lo t,.int hi u,.int 1 v] },toks:=tk }:=by
 refine wpAny_pyIter_range (IsRange.new ..) (small_one h1 h2 h3 h4) ?_;have I1:Inv X pins σ H { s with heap:=s.heap.push { cls:=.type "range", data:=.fields #[.int lo t,.int hi u,.int 1 v] },toks:=tk }:=I.kept fun b o e=>ac _ e
 refine ⟨(s.heap.push { cls:=.type "range", data:=.fields #[.int lo t,.int hi u,.int 1 v] }).objs.size,[(s.heap.push { cls:=.type "range", data:=.fields #[.int lo t,.int hi u,.int 1 v] }).objs.size],_,_,H,rfl,
  I1.kept (t':=tk) fun b o e=>ac _ e,DR _ lo (hi - lo).toNat,?_,fun b hb=>?_,q⟩
 ·have e1:lo + ((0:Nat):Int) * 1=lo:=by simp
  have e2:(((hi - lo).toNat:Nat):Int) - ((0:Nat):Int)=Builtin.Range.rangeSize lo hi 1:=by rw [rangeSize_one];split <;> omega
  rw [e1,e2];exact af _ rfl
 ·have e:b=(s.heap.push { cls:=.type "range", data:=.fields #[.int lo t,.int hi u,.int 1 v] }).objs.size:=by simpa using hb
  subst e;exact I1.fpOk (bB _) (I1.hok.fresh (bB _))
def Vv (ta:TA):TI:=fun σ H R=>ta σ H fun vs H1=>∃ j:Int,vs=[.int j]∧-(2 ^ 62) ≤ j∧j < 2 ^ 62∧R (Itr 0 j.toNat) H1
def Vw (ta:TA):TI:=fun σ H R=>ta σ H fun vs H1=>∃ i j:Int,vs=[.int i,.int j]∧(-(2 ^ 62) ≤ i∧i < 2 ^ 62∧-(2 ^ 62) ≤ j∧j < 2 ^ 62)∧R (Itr i (j - i).toNat) H1
theorem Hs {a:Expr} {ta:TA} {p pos:Pos} (hg:Gl X "range") (hm:X.mg "range" = none) (ha:PA X [a] ta) (hs:starEach [a] X.env=[(false,eval a X.env)]:=by rfl):PI X tg (.Call (.Name "range" p) [a] [] pos) (Vv ta):=by
 intro pins s σ H R I h;refine Call_ (rC I hg hm boot_range (PyProof.Rows.callWith_type1 (thn (ha pos pins s σ H _ I h) fun us s1 ⟨vs,H1,I1,r1,q1⟩=>?_) hs rfl));obtain ⟨j,e,q1,q2,q⟩:=q1;subst e
 cases r1 with
 | cons r rr =>
  cases rr;obtain ⟨t,rfl⟩:=r;exact call_range_1 (Bx I1 (by omega) (by omega) q1 q2 (by simpa using q))
theorem Ht {a b:Expr} {ta:TA} {p pos:Pos} (hg:Gl X "range") (hm:X.mg "range" = none) (ha:PA X [a,b] ta) (hs:starEach [a,b] X.env=[(false,eval a X.env),(false,eval b X.env)]:=by rfl) (hs2:starEach [b] X.env=[(false,eval b X.env)]:=by rfl) :
 PI X tg (.Call (.Name "range" p) [a,b] [] pos) (Vw ta):=by
 intro pins s σ H R I h;refine Call_ (rC I hg hm boot_range (PyProof.Rows.callWith_type1 (thn (ha pos pins s σ H _ I h) fun us s1 ⟨vs,H1,I1,r1,q1⟩=>?_) (by rw [hs,hs2]) (by rw [hs2];rfl)));obtain ⟨i,j,e,⟨q1,q2,q3,q4⟩,q⟩:=q1;subst e
 cases r1 with
 | cons r rr =>
  cases rr with
  | cons r' rr =>
   cases rr;obtain ⟨t,rfl⟩:=r;obtain ⟨t',rfl⟩:=r';exact call_range_2 (Bx I1 q1 q2 q3 q4 q)
def Yh (wi:TI) (g:TG) (tb:TS):TS:=fun D σ H=>wi σ H fun J H1=>∃ W:Nat→Nat→St→Hp→Prop,(∃ m,W 0 m σ H1)∧∀ i m σ H,W i m σ H →
 (J.stop i H∧D.nx σ H)∨(J.go i H∧∃ N:St→Hp→Prop,(∀ σ' H',N σ' H'→∃ m',m' < m∧W (i + 1) m' σ' H')∧∀ x H',J.yld i H x H'→g x σ H' fun σ2 H2=>tb { D with nx:=N,ct:=N,bk:=D.nx } σ2 H2)
def wA (fp:List Addr) (h:Heap):List (Addr × Obj):=fp.filterMap fun b=>(h.get? b).map fun o=>(b,o)
theorem p7 {fp:List Addr} {h:Heap} {b:Addr} {o:Obj} (hb:b ∈ fp) (e:h.get? b=some o):(b,o) ∈ wA fp h:=fP.mpr ⟨b,hb,by rw [e];rfl⟩
theorem Hu {fp:List Addr} {h:Heap} {p:Addr × Obj} (hp:p ∈ wA fp h):p.1 ∈ fp∧h.get? p.1=some p.2:=by
 obtain ⟨b,hb,e⟩:=fP.mp hp
 cases q:h.get? b with
 | none=>rw [q] at e;cases e
 | some o =>
  rw [q] at e;have e':(b,o)=p:=cM.inj e;subst e';exact ⟨hb,q⟩
theorem Inv.pinned {pins:List (Addr × Obj)} {σ:St} {H:Hp} {s:Shared} {fp:List Addr} (I:Inv X pins σ H s) (hf:∀ b ∈ fp,uE X pins H b) (ho:∀ b ∈ fp,∃ o,s.heap.get? b=some o∧∀ v,o.data ≠ .cell v):Inv X (pins++wA fp s.heap) σ H s :=
 I.pins_of fun p hp=>(aR.mp hp).elim (fun z=>I.pin p (aU _ z)) fun z=>by
  obtain ⟨hb,e⟩:=Hu z;obtain ⟨f0,f1,f2,_⟩:=hf p.1 hb;obtain ⟨o,e',d⟩:=ho p.1 hb;rw [e] at e';cases e';exact ⟨e,f0,f1,f2,d⟩
theorem Inv.unpinned {pins pl:List (Addr × Obj)} {σ:St} {H:Hp} {s:Shared} (I:Inv X (pins++pl) σ H s):Inv X pins σ H s:=I.pins_of fun p hp=>I.pin p (aU _ (bD _ hp))
theorem RN {iter:Expr} {body:List Stmt} {wi:TI} {g:TG} {tb:TS} {pos:Pos} (hp:PassesOwn (model X.prog X.w) X.A X.env X.xe) (hc:X.calm=true) (hi:PI X tg iter wi) (hg:PG X tg g) (hb:PSs X body tb)
 (hs:∀ x,foldedSetIterable iter X.env x=pure x:=by intro _;rfl):PS X (.For tg iter body [] pos) (Yh wi g tb):=by
 intro pins s σ H D I h;refine wpAny_For (thn (hi pins s σ H _ I h) fun v s1 h1=>thn h1 fun itv s2 h2=>?_) hs;obtain ⟨it,fp,tn,J,H2,e,I2,T,st2,f2,W,⟨m0,w0⟩,turn⟩:=h2;subst e;have stat:∀ {H':Hp},(∀ b ∈ fp,H' b=none)→∀ b ∈ fp,uE X pins H' b:=fun hn b hb=>⟨hn b hb,(f2 b hb).2⟩
 refine codeAny_forLoop_any (fun n s'=>∃ i σ' H',Inv X pins σ' H' s'∧tn i s'.heap∧(∀ b ∈ fp,H' b=none)∧W i n σ' H') ?_ m0 ⟨0,σ,H2,I2,st2,fun b hb=>(f2 b hb).1,w0⟩;rintro n s3 ⟨i,σ3,H3,I3,st3,fr3,w3⟩;rcases turn i n σ3 H3 w3 with ⟨stop,qn⟩ | ⟨go,N,hN,step⟩
 ·refine az hp (thn (T.done X rfl rfl rfl hc i pins s3 σ3 H3 X.xe I3 (stat fr3) st3 stop) fun r s4 ⟨hr,I4⟩=>?_);subst hr;exact a7 ⟨σ3,H3,I4,qn⟩
 ·refine az hp (thn (T.item X rfl rfl rfl hc i pins s3 σ3 H3 X.xe I3 (stat fr3) st3 go) fun r s4 ⟨u,hr,h4⟩=>?_);subst hr;refine az hp (thn h4 fun _ s5 ⟨x,H5,I5,r5,y5,st5,fr5⟩=>?_);have I5':=I5.pinned (stat fr5) (T.obj _ _ st5);refine az hp (thn (hg _ s5 σ3 H5 x u _ I5' r5 (step x H5 y5)) fun _ s6 ⟨σ6,H6,I6,q6⟩=>?_);refine az hp (thn (hb _ s6 σ6 H6 _ I6 q6) fun f s7 q7=>?_);have again:∀ {σ7:St} {H7:Hp},Inv X (pins++wA fp s5.heap) σ7 H7 s7→N σ7 H7→∃ m,m < n∧∃ i σ' H',Inv X pins σ' H' s7∧tn i s7.heap∧(∀ b ∈ fp,H' b=none)∧W i m σ' H':=fun {σ7 H7} I7 n7=>by
   obtain ⟨m',hm,w7⟩:=hN σ7 H7 n7;refine ⟨m',hm,i + 1,σ7,H7,I7.unpinned,T.keep _ _ _ st5 fun b hb o e=>(I7.pin (b,o) (aU _ (aU _ (p7 hb e)))).1,fun b hb=>?_,w7⟩;obtain ⟨o,e,d⟩:=T.obj _ _ st5 b hb;exact (I7.pin (b,o) (aU _ (aU _ (p7 hb e)))).2.1
  cases f with
  | next=>obtain ⟨σ7,H7,I7,n7⟩:=q7;exact again I7 n7
  | cont=>obtain ⟨σ7,H7,I7,n7⟩:=q7;exact again I7 n7
  | brk=>obtain ⟨σ7,H7,I7,q7⟩:=q7;exact ⟨σ7,H7,I7.unpinned,q7⟩
  | ret v=>obtain ⟨x7,σ7,H7,I7,r7,q7⟩:=q7;exact ⟨x7,σ7,H7,I7.unpinned,r7,q7⟩
end
end L2
namespace L2
open PySem PySem.Spec PyProof.Rows
abbrev R2:=V→V→Hp→VK→Prop
def OpR (X:Cx) (f:Value→Value→Sem Value) (r:R2):Prop :=
 ∀ (pins:List (Addr × Obj)) (s:Shared) (σ:St) (H:Hp) (x y:V) (v u:Value) (Q:VK),Inv X pins σ H s→RelV x v→RelV y u→r x y H Q →
  wpAny (model X.prog X.w) X.A (f v u) (EP X pins σ Q) X.xe s
def oK (X:Cx) (f:Value) (r:List V→Hp→VK→Prop):Prop :=
 ∀ (pins:List (Addr × Obj)) (s:Shared) (σ:St) (H:Hp) (xs:List V) (us:List Value) (Q:VK),Inv X pins σ H s→Vals xs us→r xs H Q →
  wpAny (model X.prog X.w) X.A (call f us) (EP X pins σ Q) X.xe s
def tOp (r:R2) (ta tb:TE):TE:=fun σ H Q=>ta σ H fun x H1=>tb σ H1 fun y H2=>r x y H2 Q
def rI (C:Int→Int→Prop) (g:Int→Int→V):R2:=fun x y H Q=>∃ i j,x = .int i∧y = .int j∧C i j∧Q (g i j) H
def rI0 (g:Int→Int→V):R2:=fun x y H Q=>∃ i j,x = .int i∧y = .int j∧Q (g i j) H
section
variable {X:Cx} {a b c:Expr} {ta tb tc:TE} {pos:Pos}
theorem RP (ha:PE X a ta) (hb:PE X b tb) {pins:List (Addr × Obj)} {s:Shared} {σ:St} {H:Hp} {R:V→V→Hp→Prop} (I:Inv X pins σ H s)
 (h:ta σ H fun x H1=>tb σ H1 fun y H2=>R x y H2) {Q:Value→Shared→Prop} {f:Value→Value→Sem Value}
 (hf:∀ v u s2 x y H2,Inv X pins σ H2 s2→RelV x v→RelV y u→R x y H2→wpAny (model X.prog X.w) X.A (f v u) Q X.xe s2) :
 wpAny (model X.prog X.w) X.A (eval a X.env) (fun v s₁=>wpAny (model X.prog X.w) X.A (eval b X.env) (fun u s₂=>wpAny (model X.prog X.w) X.A (f v u) Q X.xe s₂) X.xe s₁) X.xe s:=by
 refine thn (ha pins s σ H _ I h) fun v s1 ⟨x,H1,I1,r1,q1⟩=>?_
 refine thn (hb pins s1 σ H1 _ I1 q1) fun u s2 ⟨y,H2,I2,r2,q2⟩=>?_
 exact hf v u s2 x y H2 I2 r1 r2 q2
theorem JM {op:Operator} {r:R2} (ho:OpR X (binaryOp op) r) (ha:PE X a ta) (hb:PE X b tb):PE X (.BinOp a op b pos) (tOp r ta tb):=by
 intro pins s σ H Q I h;exact wpAny_BinOp (RP ha hb I h fun v u s2 x y H2 I2 rx ry q=>ho pins s2 σ H2 x y v u Q I2 rx ry q)
theorem opI {f:Value→Value→Sem Value} {C:Int→Int→Prop} {g:Int→Int→Int}
 (rule:∀ (i j:Int) (t u:Tok) (s:Shared) (Q:Value→Shared→Prop) (E:Value→Shared→Prop),C i j→Q (.int (g i j) s.toks) { s with toks:=s.toks + 1 }→wpAny (model X.prog X.w) X.A (f (.int i t) (.int j u)) Q E s) :
 OpR X f (rI C fun i j=>.int (g i j)):=by
 intro pins s σ H x y v u Q I rx ry h;obtain ⟨i,j,rfl,rfl,hc,q⟩:=h;obtain ⟨t,rfl⟩:=rx;obtain ⟨t',rfl⟩:=ry;exact rule i j t t' s _ _ hc ⟨.int (g i j),H,I.tok _,⟨_,rfl⟩,q⟩
theorem Vx {f:Value→Value→Sem Value} {g:Int→Int→Int}
 (rule:∀ (i j:Int) (t u:Tok) (s:Shared) (Q:Value→Shared→Prop) (E:Value→Shared→Prop),Q (.int (g i j) s.toks) { s with toks:=s.toks + 1 }→wpAny (model X.prog X.w) X.A (f (.int i t) (.int j u)) Q E s) :
 OpR X f (rI0 fun i j=>.int (g i j)):=by
 intro pins s σ H x y v u Q I rx ry h;obtain ⟨i,j,rfl,rfl,q⟩:=h;obtain ⟨t,rfl⟩:=rx;obtain ⟨t',rfl⟩:=ry;exact rule i j t t' s _ _ ⟨.int (g i j),H,I.tok _,⟨_,rfl⟩,q⟩
theorem Nb {f:Value→Value→Sem Value} {g:Int→Int→Bool}
 (rule:∀ (i j:Int) (t u:Tok) (s:Shared) (Q:Value→Shared→Prop) (E:Value→Shared→Prop),Q (.bool (g i j)) s→wpAny (model X.prog X.w) X.A (f (.int i t) (.int j u)) Q E s) :
 OpR X f (rI0 fun i j=>.bl (g i j)):=by
 intro pins s σ H x y v u Q I rx ry h;obtain ⟨i,j,rfl,rfl,q⟩:=h;obtain ⟨t,rfl⟩:=rx;obtain ⟨t',rfl⟩:=ry;exact rule i j t t' s _ _ ⟨.bl (g i j),H,I,rfl,q⟩
def RQ (i j:Int):Prop:=0 ≤ j∧j ≤ 1000000∧i.natAbs < 2 ^ 64
theorem gh:OpR X (binaryOp .Add) (rI0 fun i j=>.int (i + j)):=Vx fun _ _ _ _ _ _ _ q=>add_int q
theorem JN:OpR X (binaryOp .Sub) (rI0 fun i j=>.int (i - j)):=Vx fun _ _ _ _ _ _ _ q=>sub_int q
theorem m5:OpR X (binaryOp .Mod) (rI (fun _ j=>j ≠ 0) fun i j=>.int (i.fmod j)):=opI fun _ _ _ _ _ _ _ hc q=>mod_int' hc q
theorem RV:OpR X (binaryOp .Pow) (rI RQ fun i j=>.int (i ^ j.toNat)):=opI fun _ _ _ _ _ _ _ hc q=>pow_int_small hc.1 hc.2.1 hc.2.2 q
end
section
variable {X:Cx} {a b c:Expr} {ta tb tc:TE} {pos:Pos}
theorem mD:OpR X (compareOp .Lt) (rI0 fun i j=>.bl (decide (i < j))):=Nb fun _ _ _ _ _ _ _ q=>lt_int q
theorem qJ:OpR X (compareOp .LtE) (rI0 fun i j=>.bl (decide (i ≤ j))):=Nb fun _ _ _ _ _ _ _ q=>le_int q
theorem sW:OpR X (compareOp .Gt) (rI0 fun i j=>.bl (decide (j < i))):=Nb fun _ _ _ _ _ _ _ q=>gt_int q
theorem Ge:OpR X (compareOp .GtE) (rI0 fun i j=>.bl (decide (j ≤ i))):=Nb fun _ _ _ _ _ _ _ q=>ge_int q
theorem cg (b:Expr) {op:CmpOp} (h:op ≠ .In:=by decide) (h2:op ≠ .NotIn:=by decide):behindInMarks op b=false:=by
 have e1:(op == CmpOp.In)=false:=by cases op <;> first | rfl | exact absurd rfl h
 have e2:(op == CmpOp.NotIn)=false:=by cases op <;> first | rfl | exact absurd rfl h2
 cases b <;> simp [behindInMarks,e1,e2]
theorem Nf {op:CmpOp} {r:R2} (ho:OpR X (compareOp op) r) (ha:PE X a ta) (hb:PE X b tb) (hm:behindInMarks op b=false):PE X (.Compare a [op] [b] pos) (tOp r ta tb):=by
 intro pins s σ H Q I h;exact wpAny_Compare1 (RP ha hb I h fun v u s2 x y H2 I2 rx ry q=>ho pins s2 σ H2 x y v u Q I2 rx ry q) hm
def QH (t:TE):TT:=fun σ H Q=>t σ H fun x H'=>∃ k,x = .bl k∧Q k H'
theorem Ng {op:CmpOp} {r:R2} (ho:OpR X (compareOp op) r) (ha:PE X a ta) (hb:PE X b tb) (hm:behindInMarks op b=false):PT X (.Compare a [op] [b] pos) (QH (tOp r ta tb)):=by
 intro pins s σ H Q I h;refine wpAny_isTrue_Compare1 (thn (ha pins s σ H _ I h) fun v s1 ⟨x,H1,I1,r1,q1⟩=>thn (hb pins s1 σ H1 _ I1 q1) fun u s2 ⟨y,H2,I2,r2,q2⟩ =>
  thn (ho pins s2 σ H2 x y v u _ I2 r1 r2 q2) fun c s3 ⟨z,H3,I3,r3,k,e,q3⟩=>?_) hm
 subst e
 cases r3;exact ai ⟨H3,I3,q3⟩
noncomputable def JQ (r r':R2) (ta tb tc:TE):TE:=fun σ H Q=>ta σ H fun x H1=>tb σ H1 fun y H2=>r x y H2 fun z H3=>∃ k,z = .bl k ∧
 (if k=true then tc σ H3 fun w' H4=>r' y w' H4 Q else Q (.bl false) H3)
theorem JR {op op':CmpOp} {r r':R2} (ho:OpR X (compareOp op) r) (ho':OpR X (compareOp op') r') (ha:PE X a ta) (hb:PE X b tb) (hc:PE X c tc)
 (hm:lastMarks [op,op'] [b,c]=false:=by with_unfolding_all rfl):PE X (.Compare a [op,op'] [b,c] pos) (JQ r r' ta tb tc):=by
 intro pins s σ H Q I h;refine Compare_chain (thn (ha pins s σ H _ I h) fun v s1 ⟨x,H1,I1,r1,q1⟩=>chain_link (thn (hb pins s1 σ H1 _ I1 q1) fun u s2 ⟨y,H2,I2,r2,q2⟩ =>
  thn (ho pins s2 σ H2 x y v u _ I2 r1 r2 q2) fun d s3 ⟨z,H3,I3,r3,k,e,q3⟩=>?_)) hm
 subst e
 cases r3;refine ai ?_
 cases k with
 | false=>exact ite_ff ⟨.bl false,H3,I3,rfl,q3⟩
 | true=>exact ite_tt (chain_last (thn (hc pins s3 σ H3 _ I3 q3) fun w' s4 ⟨z',H4,I4,r4,q4⟩=>ho' pins s4 σ H4 y z' u w' Q I4 r2 r4 q4))
theorem JT {op op':CmpOp} {r r':R2} (ho:OpR X (compareOp op) r) (ho':OpR X (compareOp op') r') (ha:PE X a ta) (hb:PE X b tb) (hc:PE X c tc)
 (hm:lastMarks [op,op'] [b,c]=false:=by with_unfolding_all rfl):PT X (.Compare a [op,op'] [b,c] pos) (QH (JQ r r' ta tb tc)):=by
 intro pins s σ H Q I h;refine isTrue_chain (thn (ha pins s σ H _ I h) fun v s1 ⟨x,H1,I1,r1,q1⟩=>test_link (thn (hb pins s1 σ H1 _ I1 q1) fun u s2 ⟨y,H2,I2,r2,q2⟩ =>
  thn (ho pins s2 σ H2 x y v u _ I2 r1 r2 q2) fun d s3 ⟨z,H3,I3,r3,k,e,q3⟩=>?_)) hm
 subst e
 cases r3;refine ai ?_
 cases k with
 | false =>
  obtain ⟨k',e',q'⟩:=q3
  cases e';exact ite_ff ⟨H3,I3,q'⟩
 | true =>
  refine ite_tt (test_last (thn (hc pins s3 σ H3 _ I3 q3) fun w' s4 ⟨z',H4,I4,r4,q4⟩=>thn (ho' pins s4 σ H4 y z' u w' _ I4 r2 r4 q4) fun d' s5 ⟨z2,H5,I5,r5,k2,e2,q5⟩=>?_));subst e2
  cases r5;exact ai ⟨H5,I5,q5⟩
theorem uF:(sizeLine:Nat) < 2 ^ 63:=by rw [sizeLine_eq];decide
theorem vals1 {x:V} {us:List Value} (r:Vals [x] us):∃ u,us=[u]∧RelV x u:=by
 cases r with
 | cons r1 r2=>cases r2;exact ⟨_,rfl,r1⟩
theorem vals2 {x y:V} {us:List Value} (r:Vals [x,y] us):∃ u w',us=[u,w']∧RelV x u∧RelV y w':=by
 cases r with
 | cons r1 r2 =>
  cases r2 with
  | cons r3 r4=>cases r4;exact ⟨_,_,rfl,r1,r3⟩
theorem uG (hc:X.calm=true):oK X (.builtin "max") (fun xs H Q=>∃ i j,xs=[.int i,.int j]∧Q (.int (if j > i then j else i)) H):=by
 intro pins s σ H xs us Q I r h;obtain ⟨i,j,rfl,q⟩:=h;obtain ⟨u,w',rfl,⟨t,rfl⟩,⟨t',rfl⟩⟩:=vals2 r;refine max_two_ints (I.ok.hd hc) fun h' tk k=>⟨_,H,I.kept k,?_,q⟩
 by_cases hj:j > i
 ·rw [if_pos hj,if_pos hj];exact ⟨_,rfl⟩
 ·rw [if_neg hj,if_neg hj];exact ⟨_,rfl⟩
theorem nA (hc:X.calm=true):oK X (.builtin "min") (fun xs H Q=>∃ i j,xs=[.int i,.int j]∧Q (.int (if j < i then j else i)) H):=by
 intro pins s σ H xs us Q I r h;obtain ⟨i,j,rfl,q⟩:=h;obtain ⟨u,w',rfl,⟨t,rfl⟩,⟨t',rfl⟩⟩:=vals2 r;refine min_two_ints (I.ok.hd hc) fun h' tk k=>⟨_,H,I.kept k,?_,q⟩
 by_cases hj:j < i
 ·rw [if_pos hj,if_pos hj];exact ⟨_,rfl⟩
 ·rw [if_neg hj,if_neg hj];exact ⟨_,rfl⟩
theorem Hv:oK X (.type "int") (fun xs H Q=>(∃ i,xs=[.int i]∧Q (.int i) H)∨∃ k,xs=[.bl k]∧Q (.int (if k then 1 else 0)) H):=by
 intro pins s σ H xs us Q I r h;rcases h with ⟨i,rfl,q⟩ | ⟨k,rfl,q⟩
 ·obtain ⟨u,rfl,t,rfl⟩:=vals1 r;exact call_int_int ⟨.int i,H,I,⟨_,rfl⟩,q⟩
 ·obtain ⟨u,rfl,r1⟩:=vals1 r
  cases r1;exact call_int_bool ⟨.int (if k then 1 else 0),H,I.tok _,⟨_,rfl⟩,q⟩
end
end L2
namespace L2
open PySem PySem.Spec PyProof.Rows
structure ObjM (h:Heap) (x dx C:Addr) (mA:Str→Option Value):Prop where
 obj:h.get? x=some (PySem.W.instObj C dx)
 ns:h.Ns1 dx mA
 ne:dx ≠ x
theorem Hw {h:Heap} {dx:Addr} {mA:Str→Option Value} (n:h.Ns1 dx mA):∃ od,h.get? dx=some od∧∀ name,PySem.W.lookIn name od=some (mA name):=by
 obtain ⟨o,es,ep,ho,hd,hk,_,hm⟩:=n;refine ⟨o,ho,fun name=>?_⟩;have e:=hm name;unfold nsFind findBy at e;rw [← Array.find?_toList] at e;unfold PySem.W.lookIn;rw [hd];dsimp only;split
 ·rename_i y q;rw [q] at e;exact congrArg some e
 ·rename_i q;rw [q] at e;have a:es.toList.any (·.refKey)=false:=by
   rw [List.any_eq_false];intro y hy;obtain ⟨z,t,hkey⟩:=hk y (Array.mem_toList_iff.mp hy);simp [DictEntry.refKey,hkey]
  have a':¬ es.toList.any (·.refKey)=true:=by rw [a];exact dZ
  rw [if_neg a'];exact congrArg some e
theorem ObjM.look {h:Heap} {x dx C:Addr} {mA:Str→Option Value} (I:ObjM h x dx C mA):∃ od,PySem.W.InstAt h x (PySem.W.instObj C dx) C (some od)∧∀ name,PySem.W.lookIn name od=some (mA name) :=
 let ⟨od,ho,hl⟩:=Hw I.ns
 ⟨od,⟨I.obj,rfl,rfl,ho⟩,hl⟩
section
variable {prog:Program} {w:World} {A:Around} {E:Value→Shared→Prop} {s:Shared} {K:PySem.W.Frag} {x dx C f:Addr} {mA:Str→Option Value} {name:Str} {v:Value}
end
theorem uD.some_of {v:V} {o:Option Value} (r:uD (some v) o):∃ u,o=some u∧RelV v u:=by
 cases o with
 | none=>exact (show False from r).elim
 | some u=>exact ⟨u,rfl,r⟩
section
variable {P:Program} {w:World} {H H':Hp} {h h':Heap} {a C dx:Addr} {fs fs':List (Str × V)}
theorem Nh (hok:HOk P w H h) (e:H a=some (.ins C dx fs)):∃ mA,ObjM h a dx C mA∧(∀ f,uD (fs.lookup f) (mA f))∧PySem.Within mA (fs.map (·.1))∧fs.length ≤ 1000∧H dx=some (.own a):=by
 obtain ⟨d,z,ne,ob,mA,n,r,q⟩:=(show iz P w H h a (.ins C dx fs) from hok a _ e);exact ⟨mA,⟨ob,n,ne⟩,r,q,z,d⟩
end
structure Cls (K:PySem.W.Frag) (C:Addr):Prop where
 pg:PySem.W.plainGet K C Str.empty=true
 hd:PySem.W.hasDictIn K C=true
 po:PySem.W.plainOver K C=true
 sa:PySem.W.findIn K (.ref C) "__setattr__" = some (some (.builtin "object.__setattr__"))
theorem Cls.get {K:PySem.W.Frag} {C:Addr} (c:Cls K C) (f:Str):PySem.W.plainGet K C f=true:=c.pg
structure Con (K:PySem.W.Frag) (C:Addr) (f:Str) (v:V) (u:Value):Prop where
 at_:PySem.W.findIn K (.ref C) f=some (some u)
 rel:RelV v u
 get:PySem.W.specialIn K u "__get__" = some none
 cp:PySem.W.copiedNames.contains f=false
structure Meth (K:PySem.W.Frag) (C:Addr) (m:Str) (f:Addr):Prop where
 at_:PySem.W.findIn K (.ref C) m=some (some (.ref f))
 fn:PySem.W.isFn K (.ref f)=true
 kp:PySem.W.keepIn K (.ref f)=true
section
variable {X:Cx} {pins:List (Addr × Obj)} {σ:St} {H:Hp} {s:Shared} {a C dx:Addr} {fs:List (Str × V)} {f:Str} {v:V} {A:Around} {E:Value→Shared→Prop}
end
section
variable {X:Cx} {o e value:Expr} {f:Str} {pos pos' tpos:Pos} {ta tv:TE}
end
section
variable {X:Cx} {pins:List (Addr × Obj)} {σ:St} {H:Hp} {s:Shared} {A:Around} {E:Value→Shared→Prop} {Q:Value→Shared→Prop} {c:Value} {b:Bool}
inductive TyOf (K:PySem.W.Frag) (H:Hp):V→Value→Prop where
 | non:TyOf K H .non (.type "NoneType")
 | bl (x:Bool):TyOf K H (.bl x) (.type "bool")
 | int (i:Int):TyOf K H (.int i) (.type "int")
 | str (x:Str):TyOf K H (.str x) (.type "str")
 | flt (x:UInt64):TyOf K H (.flt x) (.type "float")
 | lst {a:Addr} {xs:List V} (e:H a=some (.lst xs)):TyOf K H (.ref a) (.type "list")
 | frz {a:Addr} {o:Obj} {xs:List V} (e:H a=some (.frz o (.lst xs))):TyOf K H (.ref a) (.type "list")
 | tup {a:Addr} {xs:List V} (e:H a=some (.tup xs)):TyOf K H (.ref a) (.type "tuple")
 | dK {a:Addr} {kvs:List (Key × V)} (e:H a=some (.dK kvs)):TyOf K H (.ref a) (.type "dict")
 | dT {a:Addr} {kvs:List (List Key × V)} (e:H a=some (.dT kvs)):TyOf K H (.ref a) (.type "dict")
 | ins {a C dx:Addr} {fs:List (Str × V)} (e:H a=some (.ins C dx fs)) (cl:Cls K C) (ha:PySem.W.findIn K (.ref C) "__class__" = some (some (.builtin "object.__class__")))
  (hn:PySem.W.specialIn K (.builtin "object.__class__") "__get__" = some (some (.builtin "getset_descriptor.__get__"))) (htk:PySem.W.takesIn K (.builtin "object.__class__")=some true)
  (hm:PySem.W.mroIn K C (.type "object")=some true):TyOf K H (.ref a) (.ref C)
theorem yQ {x:V} {u t:Value} (I:Inv X pins σ H s) (rx:RelV x u) (ty:TyOf X.K H x t) (e:PySem.W.kitOne X.K t c=some b) (h:∀ tk,Q (.bool b) { s with toks:=tk }) :
 wpAny (model X.prog X.w) A (call (.builtin "isinstance") [u,c]) Q E s:=by
 cases ty with
 | non=>cases (show u=Value.none from rx);exact PySem.W.kia_one PySem.W.kitx_none I.kIn True.intro e (fun z=>nomatch z) h
 | bl y=>cases (show u=Value.bool y from rx);exact PySem.W.kia_one PySem.W.kitx_bool I.kIn True.intro e (fun z=>nomatch z) h
 | int i=>obtain ⟨t,q⟩:=(show ∃ t,u=Value.int i t from rx);cases q;exact PySem.W.kia_one PySem.W.kitx_int I.kIn True.intro e (fun z=>nomatch z) h
 | str y=>obtain ⟨t,q⟩:=(show ∃ t,u=Value.str y t from rx);cases q;exact PySem.W.kia_one PySem.W.kitx_str I.kIn True.intro e (fun z=>nomatch z) h
 | flt y=>obtain ⟨t,q⟩:=(show ∃ t,u=Value.float y t from rx);cases q;exact PySem.W.kia_one PySem.W.kitx_float I.kIn True.intro e (fun z=>nomatch z) h
 | @lst a xs ea =>
  cases (show u=Value.ref a from rx);obtain ⟨_,_,n,_,h1⟩:=(show iz X.prog X.w H s.heap a (.lst xs) from I.hok a _ ea);exact PySem.W.kia_one PySem.W.kitx_list I.kIn ⟨_,h1,rfl⟩ e (fun z=>nomatch z) h
 | @frz a ob xs ea =>
  cases (show u=Value.ref a from rx);obtain ⟨_,_,_,n,_,h1⟩:=(show iz X.prog X.w H s.heap a (.frz ob (.lst xs)) from I.hok a _ ea);exact PySem.W.kia_one PySem.W.kitx_list I.kIn ⟨_,h1,rfl⟩ e (fun z=>nomatch z) h
 | @tup a xs ea =>
  cases (show u=Value.ref a from rx);obtain ⟨_,_,_,p⟩:=(show iz X.prog X.w H s.heap a (.tup xs) from I.hok a _ ea);obtain ⟨o,h1,h2,_⟩:=p;exact PySem.W.kia_one PySem.W.kitx_tuple I.kIn ⟨o,h1,h2⟩ e (fun z=>nomatch z) h
 | @dK a kvs ea =>
  cases (show u=Value.ref a from rx);obtain ⟨_,_,vs,_,p⟩:=(show iz X.prog X.w H s.heap a (.dK kvs) from I.hok a _ ea);obtain ⟨o,es,ep,h1,h2,_⟩:=p;exact PySem.W.kia_one PySem.W.kitx_dict I.kIn ⟨o,h1,h2.1⟩ e (fun z=>nomatch z) h
 | @dT a kvs ea =>
  cases (show u=Value.ref a from rx);obtain ⟨_,_,xs,_,o,es,ep,h1,h2,_⟩:=(show iz X.prog X.w H s.heap a (.dT kvs) from I.hok a _ ea);exact PySem.W.kia_one PySem.W.kitx_dict I.kIn ⟨o,h1,h2.1⟩ e (fun z=>nomatch z) h
 | @ins a C dx fs ea cl ha hn htk hm =>
  cases (show u=Value.ref a from rx);obtain ⟨mA,O,_⟩:=Nh I.hok ea;obtain ⟨od,J,_⟩:=O.look;exact PySem.W.kia_one (PySem.W.kitx_own (cl.get _) cl.hd ha hn htk hm) I.kIn J e (fun z=>nomatch z) h
end
end L2
namespace L2
open PySem PySem.Spec PyProof.Rows
structure Room (k:Nat) (A:Around):Prop where
 hd:A.handled=none
 dp:A.depth + 3 * k + 5 < recursionLimit
 un:A.units + 16 * k + 200 < cLine
theorem Room.mono {j k:Nat} {A:Around} (r:Room k A) (h:j ≤ k):Room j A:=⟨r.hd,by have:=r.dp;omega,by have:=r.un;omega⟩
theorem Room.deeper {k:Nat} {A:Around} (r:Room (k + 1) A) (env:Env):Room k (A.deeper env) :=
 ⟨r.hd,by have:=r.dp;show A.depth + 1 + 3 * k + 5 < _;omega,by have:=r.un;show A.units + 3 + 16 * k + 200 < _;omega⟩
theorem Room.depth {k:Nat} {A:Around} (r:Room k A):A.depth < recursionLimit:=by have:=r.dp;omega
theorem Room.units {k:Nat} {A:Around} (r:Room k A):A.units + 64 < cLine:=by have:=r.un;omega
def Yi:TA:=fun _ H Q=>Q [] H
def Vy (ta:TE) (tr:TA):TA:=fun σ H Q=>ta σ H fun x H1=>tr σ H1 fun xs H2=>Q (x :: xs) H2
section
variable {X:Cx} {e:Expr} {es:List Expr} {te:TE} {t:TA} {pos:Pos}
theorem sZ:PA X [] Yi:=fun _ _ _ _ H Q I h=>Calls.spliced_nil ⟨[],H,I,.nil,h⟩
theorem mq (ha:PE X e te) (hr:PA X es t) (hs:starEach (e :: es) X.env=(false,eval e X.env) :: starEach es X.env:=by rfl):PA X (e :: es) (Vy te t):=by
 intro pos pins s σ H Q I h;rw [hs];refine a8 (thn (ha pins s σ H _ I h) fun u s1 ⟨x,H1,I1,r1,q1⟩=>?_);exact thn (hr pos pins s1 σ H1 _ I1 q1) fun us s2 ⟨xs,H2,I2,r2,q2⟩=>⟨x :: xs,H2,I2,.cons r1 r2,q2⟩
def Yj (t:TA):TE:=fun σ H Q=>t σ H fun xs H1=>xs.length ≤ sizeLine∧∀ p,H1 p=none→Q (.ref p) (upd H1 p (.tup xs))
def Yk (t:TA):TE:=fun σ H Q=>t σ H fun xs H1=>xs.length ≤ sizeLine∧∀ p,H1 p=none→Q (.ref p) (upd H1 p (.lst xs))
theorem RX {x1} (h:PA X es t):PE X (.Tuple es x1 pos) (Yj t):=by
 intro pins s σ H Q I hq;refine wpAny_Tuple_spliced (thn (h pos pins s σ H _ I hq) fun us s1 ⟨xs,H1,I1,r,z,q⟩=>⟨by rwa [← r.length],?_⟩);have hf:=I1.hok.fresh (bB _);refine ⟨.ref s1.heap.objs.size,upd H1 s1.heap.objs.size (.tup xs),I1.laid (t':=s1.toks) (fun b u e=>ac _ e) (bB _) ?_,rfl,q _ hf⟩;exact ⟨z,us,r,⟨_,af _ rfl,rfl,_,rfl⟩⟩
theorem JV (h:PA X es t):PE X (.List es pos) (Yk t):=by
 intro pins s σ H Q I hq;refine wpAny_List_spliced (thn (h pos pins s σ H _ I hq) fun us s1 ⟨xs,H1,I1,r,z,q⟩=>⟨by rwa [← r.length],?_⟩);have hf:=I1.hok.fresh (bB _);refine ⟨.ref s1.heap.objs.size,upd H1 s1.heap.objs.size (.lst xs),I1.laid (t':=s1.toks) (fun b u e=>ac _ e) (bB _) ?_,rfl,q _ hf⟩;exact ⟨z,us,0,r,af _ rfl⟩
end
abbrev Sp:=List V→Hp→VK→XK→Prop
abbrev CXT:=List Env→Hp→Shared→XK→Value→Shared→Prop
structure Env0 (P:Program) (w:World) (K:PySem.W.Frag) (mg:Str→Option Value) (base:Heap) (A:Around) (outer:List Env) (s:Shared) (H:Hp):Prop where
 frames:A.frames=some outer
 mod:Mod K mg base
 bs:∀ b o,base.get? b=some o→s.heap.get? b=some o∧H b=none
 bsz:base.objs.size ≤ s.heap.objs.size
 funs:s.heap.FunFrames base outer
 frf:∀ b ∈ frs outer,H b=none
 hok:HOk P w H s.heap
 bare:AllBare s.gens
def CE (outer:List Env) (P:Program) (w:World) (H:Hp) (s:Shared) (Q:VK) (u:Value) (s':Shared):Prop :=
 ∃ v H',s'.os=s.os∧AllBare s'.gens∧Un (frs outer) [] H H' s.heap s'.heap∧HOk P w H' s'.heap∧RelV v u∧Q v H'
def CR (CX:CXT) (outer:List Env) (P:Program) (w:World) (H:Hp) (s:Shared) (Q:VK) (E:XK) (r:Result) (s':Shared):Prop :=
 match r with
 | .ok (.ret u)=>CE outer P w H s Q u s'
 | .ok _=>False
 | .error e=>CX outer H s E e s'
structure FnOk (P:Program) (w:World) (K:PySem.W.Frag) (mg:Str→Option Value) (base:Heap) (CX:CXT) (k:Nat) (f:Addr) (fd:FuncData) (ps:List Str) (sp:Sp):Prop where
 len:∀ vs H Q E,sp vs H Q E→vs.length=ps.length
 run:∀ (A:Around) (outer:List Env) (s:Shared) (H:Hp) (args:Args) (us:List Value) (vs:List V) (Q:VK) (E:XK),Room k A→Env0 P w K mg base A outer s H→BindsTo s fd args (ps.zip us)→Vals vs us→sp vs H Q E →
  codeAny (model P w) A (.call (.ref f) args) (CR CX outer P w H s Q E) s
theorem FnOk.mono {P:Program} {w:World} {K:PySem.W.Frag} {mg:Str→Option Value} {base:Heap} {CX:CXT} {j k:Nat} {f:Addr} {fd:FuncData} {ps:List Str} {sp:Sp} (F:FnOk P w K mg base CX j f fd ps sp) (h:j ≤ k) :
 FnOk P w K mg base CX k f fd ps sp:=⟨F.len,fun A outer s H args us vs Q E hr=>F.run A outer s H args us vs Q E (hr.mono h)⟩
theorem FnOk.imp {P:Program} {w:World} {K:PySem.W.Frag} {mg:Str→Option Value} {base:Heap} {CX:CXT} {k:Nat} {f:Addr} {fd:FuncData} {ps:List Str} {sp sp':Sp} (F:FnOk P w K mg base CX k f fd ps sp)
 (h:∀ vs H Q E,sp' vs H Q E→sp vs H Q E):FnOk P w K mg base CX k f fd ps sp' :=
 ⟨fun vs H Q E q=>F.len vs H Q E (h _ _ _ _ q),fun A outer s H args us vs Q E hr he hb hv hs=>F.run A outer s H args us vs Q E hr he hb hv (h _ _ _ _ hs)⟩
section
variable {X:Cx} {pins:List (Addr × Obj)} {σ:St} {H:Hp} {s s':Shared}
theorem Inv.env0 (I:Inv X pins σ H s):Env0 X.prog X.w X.K X.mg X.base X.A X.stack s H :=
 ⟨I.ok.frames,I.ok.mod,I.bs,bY I.ok.bsz I.sz,I.stack,I.stkFree,I.hok,I.bare⟩
theorem Inv.after {Q:VK} {u:Value} (I:Inv X pins σ H s) (h:CE X.stack X.prog X.w H s Q u s'):EP X pins σ Q u s':=by
 obtain ⟨v,H',os,bare,un,hok,r,q⟩:=h;obtain ⟨hh,g,d,t,os'⟩:=s';obtain rfl:os'=s.os:=os;exact ⟨v,H',I.call (h':=hh) (g':=g) (d':=d) (t':=t) (ch:=[]) un hok bare (fun b z=>absurd z (by simp)),r,q⟩
end
def QJ (sp:Sp) (dvs:List V) (E:XK) (t:TA):TE:=fun σ H Q=>t σ H fun vs H1=>sp (vs++dvs) H1 Q E
def Binds (K:PySem.W.Frag) (fd:FuncData) (ps:List Str) (ds:List Value):Prop :=
 ∀ (s:Shared) (us:List Value),K.In s.heap→(us++ds).length=ps.length→BindsTo s fd ⟨us,[]⟩ (ps.zip (us++ds))
theorem Binds.all {K:PySem.W.Frag} {fd:FuncData} {ps:List Str} (h:∀ us:List Value,us.length=ps.length→bindArgs fd ⟨us,[]⟩=pure (ps.zip us)):Binds K fd ps []:=fun s us _ hl=>by
 rw [cU] at hl ⊢;exact .of_eq (h us hl)
def Passes (CX:CXT) (X:Cx) (E:XK):Prop:=∀ (pins:List (Addr × Obj)) (σ:St) (H:Hp) (s:Shared) (e:Value) (s':Shared),Inv X pins σ H s→CX X.stack H s E e s'→X.xe e s'
section
variable {X:Cx} {CX:CXT} {k:Nat} {f C:Addr} {fd:FuncData} {ps:List Str} {sp:Sp} {dvs:List V} {ds:List Value} {E:XK} {x m:Str} {p pos apos:Pos} {e o:Expr} {es:List Expr} {ta:TE} {t:TA}
theorem RZ {pins:List (Addr × Obj)} {σ:St} {H:Hp} {s:Shared} {Q:VK} {us:List Value} {vs:List V} (F:FnOk X.prog X.w X.K X.mg X.base CX k f fd ps sp) (hr:Room k X.A) (hb:Binds X.K fd ps ds) (hd:Vals dvs ds) (hx:Passes CX X E)
 (I:Inv X pins σ H s) (r:Vals vs us) (h:sp (vs++dvs) H Q E):wpAny (model X.prog X.w) X.A (call (.ref f) us) (EP X pins σ Q) X.xe s:=by
 have r2:=r.append hd;have hl:(us++ds).length=ps.length:=by rw [← r2.length];exact F.len _ _ _ _ h
 refine wpAny_call (codeAny_mono (F.run X.A X.stack s H ⟨us,[]⟩ (us++ds) (vs++dvs) Q E hr I.env0 (hb s us I.kIn hl) r2 h) fun r s' hq=>?_)
 cases r with
 | error e=>exact hx pins σ H s e s' I hq
 | ok fl =>
  cases fl with
  | ret u=>exact I.after hq
  | next=>exact False.elim hq
  | brk=>exact False.elim hq
  | cont=>exact False.elim hq
theorem Ni (F:FnOk X.prog X.w X.K X.mg X.base CX k f fd ps sp) (hr:Room k X.A) (hg:Gl X x) (hm:X.mg x=some (.ref f)) (hk:PySem.W.keepIn X.K (.ref f)=true) (hb:Binds X.K fd ps ds) (hd:Vals dvs ds) (hx:Passes CX X E)
 (ha:PA X (e :: es) t) (hdb:(x == ("__debug__" : Str))=false:=by decide) (he:starEach (e :: es) X.env=(false,eval e X.env) :: starEach es X.env:=by rfl) (hpl:(backTo pos (starEach es X.env)).any (·.1)=false:=by rfl) :
 PE X (.Call (.Name x p) (e :: es) [] pos) (QJ sp dvs E t):=by
 intro pins s σ H Q I h;refine ax (Ga I hg hm ?_ hdb);refine PySem.W.callWith_K (h₀:=X.base) I.ok.mod.kin hk (thn (ha pos pins s σ H _ I h) fun us s1 ⟨vs,H1,I1,r,q⟩=>⟨I1.kIn,?_⟩) he hpl;exact RZ F hr hb hd hx I1 r q
structure Mk (K:PySem.W.Frag) (C f:Addr):Prop where
 makes:PySem.W.makesIn K C=true
 init:PySem.W.findIn K (.ref C) "__init__" = some (some (.ref f))
 fn:PySem.W.isFn K (.ref f)=true
 kp:PySem.W.keepIn K (.ref C)=true
end
section
variable {X:Cx} {CX:CXT} {k:Nat} {f C:Addr} {fd:FuncData} {ps ks:List Str} {sp:Sp} {E:XK} {x m:Str} {p pos apos kpos:Pos} {e o:Expr} {es:List Expr} {kws:List Keyword} {te ta:TE} {t tk:TA} {nm:Option Str}
structure KBinds (K:PySem.W.Frag) (fd:FuncData) (ps ks:List Str) (g:List Value→List Value→List Value) (gV:List V→List V→List V):Prop where
 to:∀ (s:Shared) (us ws:List Value),K.In s.heap→(g us ws).length=ps.length→BindsTo s fd ⟨us,ks.zip ws⟩ (ps.zip (g us ws))
 rel:∀ {vs:List V} {us:List Value} {zs:List V} {ws:List Value},Vals vs us→Vals zs ws→Vals (gV vs zs) (g us ws)
variable {g:List Value→List Value→List Value} {gV:List V→List V→List V}
end
structure FnScope (N P:List Str) (sc:Scope):Prop where
 kind:sc.kind = .function
 co:sc.isCoroutine=false
 gen:sc.isGenerator=false
 nd:N.Nodup
 pre:N.take P.length=P
 par:∀ x ∈ P,sc.names.lookup x=some .local∨sc.names.lookup x=some .cell
 nofree:∀ y ∈ sc.names,y.2 ≠ .free
theorem yR {kindOf:Str→Option NameKind} {x:Str}:∀ {binds:List (Str × Value)} {m:Str→Option Value},(∀ v,(x,v) ∉ binds)→bindL kindOf binds m x=m x
 | [],_,_=>rfl
 | (n,v) :: r,m,h=>by
  unfold bindL;rw [yR fun w hw=>h w (aM _ hw)];split
  ·have:x ≠ n:=by rintro rfl;exact h v aK
   simp [this]
  ·rfl
theorem yS {kindOf:Str→Option NameKind} {x:Str}:∀ {binds:List (Str × Value)} {m:Str→Option Value},(∀ v,(x,v) ∉ binds)→bindC kindOf binds m x=m x
 | [],_,_=>rfl
 | (n,v) :: r,m,h=>by
  unfold bindC;rw [yS fun w hw=>h w (aM _ hw)];split
  ·rfl
  ·have:x ≠ n:=by rintro rfl;exact h v aK
   simp [this]
theorem yU {kindOf:Str→Option NameKind} {x:Str} {v:Value}:∀ {P:List Str} {vs:List Value} {i:Nat} {m:Str→Option Value},P.Nodup→P[i]? = some x→vs[i]? = some v→kindOf x=some .local →
 bindL kindOf (P.zip vs) m x=some v
 | [],_,_,_,_,h,_,_=>by simp at h
 | _ :: _,[],_,_,_,_,h,_=>by simp at h
 | p :: P,w :: vs,0,m,nd,h1,h2,hk=>by
  simp at h1 h2;subst h1;subst h2;show bindL kindOf ((p,w) :: P.zip vs) m p=_;unfold bindL;rw [yR fun v hv=>(cF.mp nd).1 (qu hv).1,if_pos hk];simp
 | p :: P,w :: vs,i + 1,m,nd,h1,h2,hk=>by
  show bindL kindOf ((p,w) :: P.zip vs) m x=_;unfold bindL;exact yU (i:=i) (cF.mp nd).2 (by simpa using h1) (by simpa using h2) hk
theorem yV {kindOf:Str→Option NameKind} {x:Str} {v:Value}:∀ {P:List Str} {vs:List Value} {i:Nat} {m:Str→Option Value},P.Nodup→P[i]? = some x→vs[i]? = some v→kindOf x ≠ some .local →
 bindC kindOf (P.zip vs) m x=some v
 | [],_,_,_,_,h,_,_=>by simp at h
 | _ :: _,[],_,_,_,_,h,_=>by simp at h
 | p :: P,w :: vs,0,m,nd,h1,h2,hk=>by
  simp at h1 h2;subst h1;subst h2;show bindC kindOf ((p,w) :: P.zip vs) m p=_;unfold bindC;rw [yS fun v hv=>(cF.mp nd).1 (qu hv).1,if_neg hk];simp
 | p :: P,w :: vs,i + 1,m,nd,h1,h2,hk=>by
  show bindC kindOf ((p,w) :: P.zip vs) m x=_;unfold bindC;exact yV (i:=i) (cF.mp nd).2 (by simpa using h1) (by simpa using h2) hk
def start (N:List Str) (vs:List V):St:=vs.map some++bO (N.length - vs.length) none
noncomputable def BJ (CX:CXT) (P:Program) (w:World) (K:PySem.W.Frag) (mg:Str→Option Value) (base:Heap) (N:List Str) (qual:Str) (scope:Scope) (f:Addr) (cd:Value) (A:Around) (outer:List Env) (s:Shared) (H:Hp) (E:XK):Cx where
 prog:=P
 w:=w
 K:=K
 mg:=mg
 base:=base
 A:=A.deeper (envOfC qual scope s.heap.objs.size f cd)
 N:=N
 s₀:=s
 H₀:=H
 env:=envOfC qual scope s.heap.objs.size f cd
 outer:=outer
 stack:=envOfC qual scope s.heap.objs.size f cd :: outer
 ex:=[]
 calm:=true
 fn:=fun _=>true
 pn:=[]
 xe:=fun e s'=>wpAny (model P w) (A.deeper (envOfC qual scope s.heap.objs.size f cd)) (leaving (envOfC qual scope s.heap.objs.size f cd) e) (fun _ s''=>CX outer H s E e s'') (fun e' s''=>CX outer H s E e' s'') s'
theorem BK {sc:Scope} {n:Nat} {x:Str} (h:sc.names.lookup x=some .cell):∃ c,(cellsFrom n sc.names []).lookup x=some c:=by
 have q:=PySem.W.cellsFrom_some sc.names n [] (.inl h);exact bR.mp q
theorem Hy {CX:CXT} {P:Program} {w:World} {K:PySem.W.Frag} {mg:Str→Option Value} {base:Heap} {N ps:List Str} {qual:Str} {scope:Scope} {f:Addr} {cd:Value} {A:Around} {outer:List Env} {s s1:Shared} {H:Hp} {E:XK} {us:List Value} {vs:List V}
 (S:FnScope N ps scope) (hd:A.handled=none) (e0:Env0 P w K mg base A outer s H) (hl:vs.length=ps.length) (r:Vals vs us)
 (x:InCallC s s.heap.objs.size (bindL (envOfC qual scope s.heap.objs.size f cd).kindOf (ps.zip us) fun _=>none) (cellsFrom (s.heap.objs.size + 1) scope.names []) (bindC (envOfC qual scope s.heap.objs.size f cd).kindOf (ps.zip us) fun _=>none) s1) :
 Inv (BJ CX P w K mg base N qual scope f cd A outer s H E) [] (start N vs) H s1:=by
 have hpl:ps.length ≤ N.length:=by have:=congrArg List.length S.pre;rw [lN] at this;omega
 obtain ⟨h1,tk,rfl,hk⟩:=x.done;have noA:∀ b:Addr,b ∉ (BJ CX P w K mg base N qual scope f cd A outer s H E).ex:=fun b z=>absurd (show b ∈ ([]:List Addr) from z) (by simp)
 refine ⟨⟨e0.mod,S.kind,rfl,rfl,bB _,fun y z c h1 h2=>?_,fun y hy=>?_,fun y c _ h=>?_,fun _=>hd,Around.frames_deeper e0.frames,.inr ⟨rfl,rfl⟩,fun b z=>absurd z (noA b),e0.bs,e0.bsz,fun b _ _=>noA b,fun b z=>absurd z (noA b),e0.funs,e0.frf⟩,
  rfl,e0.bare,Un.kept hk,⟨_,x.toInCall.ns,fun i y v h1 h2 h3=>?_⟩,fun y c h=>⟨_,x.cell y c h⟩,e0.hok.fresh (bB _),fun y c h=>?_,fun p hp=>absurd (show p ∈ ([]:List (Addr × Obj)) from hp) (by simp),e0.hok.kept hk,?_⟩
 ·exact name_of_addr x.apart (PySem.mem_of_lookup h1) (PySem.mem_of_lookup h2)
 ·have hy:=hy;rcases hy with hy | hy
  ·exact BK hy
  ·exact absurd rfl (S.nofree _ (PySem.mem_of_lookup hy))
 ·exact gZ (x.above y c (PySem.mem_of_lookup h))
 ·have hi:i < vs.length:=by
   unfold start at h2;by_cases hi:i < vs.length
   ·exact hi
   ·rw [cO (by simpa using hi)] at h2;rw [gF] at h2;split at h2 <;> cases h2
  have ha:vs[i]? = some v:=by
   unfold start at h2;rw [dw (by simpa using hi),aP] at h2
   cases e:vs[i]? with
   | none=>rw [e] at h2;cases h2
   | some a=>rw [e] at h2;cases h2;rfl
  obtain ⟨u,hu,rv⟩:=r.get ha;have hp:ps[i]? = some y:=by
   rwa [← S.pre,List.getElem?_take_of_lt (by omega)]
  have ndP:ps.Nodup:=by rw [← S.pre];exact S.nd.sublist (List.take_sublist _ _)
  refine ⟨u,rv,?_⟩;rcases S.par y (cN hp) with k | k
  ·exact .inl ⟨k,yU ndP hp hu k⟩
  ·obtain ⟨c,e⟩:=BK (n:=s.heap.objs.size + 1) k;refine .inr ⟨.inl k,c,e,?_⟩;have q:=x.cell y c e;rwa [yV ndP hp hu (by show scope.names.lookup y ≠ _;rw [k];decide)] at q
 ·exact e0.hok.fresh (gZ (x.above y c (PySem.mem_of_lookup h)))
 ·unfold start;show _=N.length;rw [bL,aD,cG];omega
theorem QK {CX:CXT} {P:Program} {w:World} {K:PySem.W.Frag} {mg:Str→Option Value} {base:Heap} {k:Nat} {f:Addr} {name qual:Str} {params:Arguments} {body:List Stmt} {scope:Scope} {dV kV doc pm cdv ct oc:Value} {an od:Option Addr}
 {osl:Array (Option Value)} {N ps:List Str} {sp:Sp} (lk:K.lookup f=some ⟨oc,od,.func (PySem.W.fnOf name qual params body scope dV kV doc pm an cdv ct),osl⟩) (hcd:PySem.W.codeIn K cdv qual=true) (S:FnScope N ps scope)
 (len:∀ vs H Q E,sp vs H Q E→vs.length=ps.length)
 (hbody:∀ (A:Around) (outer:List Env) (s:Shared) (H:Hp) (vs:List V) (Q:VK) (E:XK),Room k (A.deeper (envOfC qual scope s.heap.objs.size f cdv))→sp vs H Q E →
  ∃ t,PSs (BJ CX P w K mg base N qual scope f cdv A outer s H E) body t∧t { nx:=fun _ H'=>Q .non H',rt:=Q } (start N vs) H) :
 FnOk P w K mg base CX (k + 1) f (PySem.W.fnOf name qual params body scope dV kV doc pm an cdv ct) ps sp:=by
 refine ⟨len,fun A outer s H args us vs Q E hr e0 hb r hsp=>?_⟩;have hl:=len _ _ _ _ hsp;have KX:K.In s.heap:=e0.mod.kin.keeps fun b o e=>(e0.bs b o e).1
 have lim:s.heap.NoLimit:=e0.mod.nolimit.keeps fun b o e=>(e0.bs b o e).1
 have hkind:∀ y ∈ ps.zip us,scope.names.lookup y.1=some .local∨(scope.names.lookup y.1=some .cell∧((cellsFrom (s.heap.objs.size + 1) scope.names []).lookup y.1).isSome=true):=fun ⟨n,v⟩ hy=>by
  rcases S.par n (qu hy).1 with q | q
  ·exact .inl q
  ·exact .inr ⟨q,PySem.W.cellsFrom_some _ _ _ (.inl q)⟩
 refine codeAny_call_function hr.depth (KX _ _ lk) rfl S.co S.gen rfl (PySem.W.codeRec_of KX hcd) (hb _ _ _ _ ?_);refine wpAny_newFunctionEnv_cells S.kind hkind fun env he s1 x=>?_
 subst he;refine ⟨lim.keeps x.toInCall.keep,codeAny_func ?_⟩;obtain ⟨t,ht,hq⟩:=hbody A outer s H vs Q E (hr.deeper _) hsp;have I:Inv (BJ CX P w K mg base N qual scope f cdv A outer s H E) [] (start N vs) H s1:=Hy S hr.hd e0 hl r x;refine av (ht [] s1 (start N vs) H _ I hq) (fun fl s' hs=>?_) fun e s' hs=>hs
 have fin:∀ {σ':St} {H':Hp} {v:V} {u:Value},Inv (BJ CX P w K mg base N qual scope f cdv A outer s H E) [] σ' H' s'→RelV v u→Q v H'→CE outer P w H s Q u s' :=
  fun {σ' H' v u} J rv q=>⟨v,H',J.os,J.bare,J.base,J.hok,rv,q⟩
 cases fl with
 | ret u =>
  obtain ⟨v,σ',H',J,rv,q⟩:=hs;exact fin J rv q
 | next =>
  obtain ⟨σ',H',J,q⟩:=hs;exact fin (v:=V.non) (u:=Value.none) J rfl q
 | brk =>
  obtain ⟨_,_,_,q⟩:=hs;exact False.elim q
 | cont =>
  obtain ⟨_,_,_,q⟩:=hs;exact False.elim q
end L2
namespace L2
open PySem PySem.Spec PyProof.Rows
section
variable {X:Cx} {x:Str} {p pos:Pos} {e:Expr} {es:List Expr} {t:TA} {id T:String} {r:List V→Hp→VK→Prop}
def tCB (r:List V→Hp→VK→Prop) (t:TA):TE:=fun σ H Q=>t σ H fun vs H1=>r vs H1 Q
theorem tR (hc:oK X (.builtin id) r) (hg:Gl X x) (hm:X.mg x=none) (hv:bootBuiltins x=some (.builtin id)) (ha:PA X (e :: es) t) (hn:x ≠ "__name__" := by decide) (hdb:(x == ("__debug__" : Str))=false:=by decide)
 (he:starEach (e :: es) X.env=(false,eval e X.env) :: starEach es X.env:=by rfl) (hpl:(backTo pos (starEach es X.env)).any (·.1)=false:=by rfl):PE X (.Call (.Name x p) (e :: es) [] pos) (tCB r t):=by
 intro pins s σ H Q I h;refine ax (rC I hg hm hv ?_ hn hdb);exact PyProof.Rows.callWith_builtin1 (thn (ha pos pins s σ H _ I h) fun us s1 ⟨vs,H1,I1,r1,q1⟩=>hc pins s1 σ H1 vs us Q I1 r1 q1) he hpl
theorem yW (hc:oK X (.type T) r) (hg:Gl X x) (hm:X.mg x=none) (hv:bootBuiltins x=some (.type T)) (ha:PA X (e :: es) t) (hn:x ≠ "__name__" := by decide) (hdb:(x == ("__debug__" : Str))=false:=by decide)
 (he:starEach (e :: es) X.env=(false,eval e X.env) :: starEach es X.env:=by rfl) (hpl:(backTo pos (starEach es X.env)).any (·.1)=false:=by rfl):PE X (.Call (.Name x p) (e :: es) [] pos) (tCB r t):=by
 intro pins s σ H Q I h;refine ax (rC I hg hm hv ?_ hn hdb);exact PyProof.Rows.callWith_type1 (thn (ha pos pins s σ H _ I h) fun us s1 ⟨vs,H1,I1,r1,q1⟩=>hc pins s1 σ H1 vs us Q I1 r1 q1) he hpl
end
end L2
namespace HT
open PySem PyProof.Rows
section
open PySem.SeqAt
open PySem.AutoSeq1 (wpAny_loadPart')
open PySem.MeetsSeq PySem.MeetsSeq2 PySem.MeetsSeq3
end
section
variable {prog:Program} {w:World} {A:Around} {E:Value→Shared→Prop} {s:Shared}
noncomputable def sIx (n d:Nat):Option Int→Nat
 | none=>d
 | some v=>if v < 0 then (v + (n:Int)).toNat else min v.toNat n
end
end HT
namespace L2
open PySem PySem.Spec PyProof.Rows
abbrev TO:=St→Hp→(Option Int→Hp→Prop)→Prop
def PO (X:Cx) (e:Option Expr) (t:TO):Prop :=
 ∀ (pins:List (Addr × Obj)) (s:Shared) (σ:St) (H:Hp) (Q:Option Int→Hp→Prop),Inv X pins σ H s→t σ H Q →
  wpAny (model X.prog X.w) X.A (evalPart e X.env) (fun u s'=>∃ o H',Inv X pins σ H' s'∧IsPart u o∧Q o H') X.xe s
def Nj:TO:=fun _ H Q=>Q none H
def Vz (t:TE):TO:=fun σ H Q=>t σ H fun x H1=>∃ i,x = .int i∧Q (some i) H1
section
variable {X:Cx} {e:Expr} {te:TE} {lo hi:Option Expr} {tl th:TO} {pos p2:Pos}
theorem Nk:PO X none Nj:=by
 intro pins s σ H Q I h;rw [evalPart_none];exact ah ⟨none,H,I,.none,h⟩
theorem Nm (h:PE X e te):PO X (some e) (Vz te):=by
 intro pins s σ H Q I hw;rw [evalPart_some];refine thn (h pins s σ H _ I hw) fun u s1 ⟨x,H1,I1,r1,q1⟩=>?_
 obtain ⟨i,rfl,q⟩:=q1;obtain ⟨t,rfl⟩:=r1;exact ⟨some i,H1,I1,.int i t,q⟩
def SlR (X:Cx) (r:V→Option Int→Option Int→Hp→VK→Prop):Prop :=
 ∀ (pins:List (Addr × Obj)) (s:Shared) (σ:St) (H:Hp) (x:V) (v vl vu:Value) (lo hi:Option Int) (sl:Addr) (Q:VK),Inv X pins σ H s→RelV x v→s.heap.IsSliceOf sl vl vu .none→IsPart vl lo→IsPart vu hi→r x lo hi H Q →
  ∃ T id,typeLookup (.type T) "__getitem__" = pure (some (.builtin id))∧s.TypeIs v T∧wpAny (model X.prog X.w) X.A (getItem v (.ref sl)) (EP X pins σ Q) X.xe s
noncomputable def tSl (r:V→Option Int→Option Int→Hp→VK→Prop) (te:TE) (tl th:TO):TE:=fun σ H Q=>te σ H fun x H1=>tl σ H1 fun l H2=>th σ H2 fun u H3=>r x l u H3 Q
theorem JW {r:V→Option Int→Option Int→Hp→VK→Prop} (hr:SlR X r) (he:PE X e te) (hl:PO X lo tl) (hu:PO X hi th):PE X (.Subscript e (.Slice lo hi none p2) pos) (tSl r te tl th):=by
 intro pins s σ H Q I h;refine bg (thn (he pins s σ H _ I h) fun v s1 ⟨x,H1,I1,r1,q1⟩=>?_);refine wpAny_Slice (thn (hl pins s1 σ H1 _ I1 q1) fun vl s2 ⟨l,H2,I2,pl,q2⟩=>thn (hu pins s2 σ H2 _ I2 q2) fun vu s3 ⟨u,H3,I3,pu,q3⟩=>?_);rw [evalPart_none];refine ah ?_;have I4:Inv X pins σ H3 { s3 with heap:=s3.heap.push { cls:=.type "slice", data:=.fields #[vl,vu,.none] } }:=I3.kept (t':=s3.toks) fun b ob q=>ac _ q
 obtain ⟨T,id,hT,ht,hg⟩:=hr pins { s3 with heap:=s3.heap.push { cls:=.type "slice", data:=.fields #[vl,vu,.none] } } σ H3 x v vl vu l u s3.heap.objs.size Q I4 r1 (Heap.IsSliceOf.new ..) pl pu q3;exact tail_any (ops:=[.ref s3.heap.objs.size,v]) ht hT hg (by with_unfolding_all rfl)
def Hz (xs:List V) (lo hi:Option Int):List V:=(xs.drop (HT.sIx xs.length 0 lo)).take (HT.sIx xs.length xs.length hi - HT.sIx xs.length 0 lo)
theorem BL (xs:List V) (lo hi:Option Int):(Hz xs lo hi).length ≤ xs.length:=by
 unfold Hz;rw [lN,jP];omega
end
end L2
namespace L2
open PySem PySem.Spec PyProof.Rows
noncomputable def ixN (n:Nat) (i:Int):Option Nat:=if 0 ≤ i then (if i < n then some i.toNat else none) else if -(n:Int) ≤ i then some (i + n).toNat else none
def atI {α:Type} (xs:List α) (i:Int):Option α:=(ixN xs.length i).bind fun j=>xs[j]?
theorem Gf {n:Nat} {i:Int} {j:Nat} (h:ixN n i=some j):seqIndex? i n=some j∧j < n∧-(n:Int) ≤ i∧i < n:=by
 unfold ixN at h;by_cases h0:0 ≤ i
 ·rw [if_pos h0] at h;by_cases h1:i < n
  ·rw [if_pos h1] at h;have e:=cM.inj h;exact ⟨by rw [bn h0 h1,e],by omega,by omega,h1⟩
  ·rw [if_neg h1] at h;cases h
 ·rw [if_neg h0] at h;by_cases h1 : -(n:Int) ≤ i
  ·rw [if_pos h1] at h;have e:=cM.inj h;exact ⟨by rw [bi (by omega) h1,e],by omega,h1,by omega⟩
  ·rw [if_neg h1] at h;cases h
theorem vQ {α:Type} {xs:List α} {i:Int} {v:α} (h:atI xs i=some v):∃ j,seqIndex? i xs.length=some j∧xs[j]? = some v∧j < xs.length∧-(xs.length:Int) ≤ i∧i < xs.length:=by
 unfold atI at h
 cases e:ixN xs.length i with
 | none=>rw [e] at h;cases h
 | some j =>
  rw [e] at h;obtain ⟨h1,h2,h3,h4⟩:=Gf e;exact ⟨j,h1,h,h2,h3,h4⟩
def zQ (b:Expr):Prop:=∀ o i,subscripted b false o i=operate [o,i] (getItem o i)
def IxR (X:Cx) (r:R2):Prop :=
 ∀ (value slice:Expr) (pins:List (Addr × Obj)) (s:Shared) (σ:St) (H:Hp) (x y:V) (v u:Value) (Q:VK),Inv X pins σ H s→RelV x v→RelV y u→r x y H Q →
  subscripted slice false v u=operate [v,u] (getItem v u)→wpAny (model X.prog X.w) X.A (subscriptTail value slice v u) (EP X pins σ Q) X.xe s
def MtR (X:Cx) (id:String) (r:V→List V→Hp→VK→Prop):Prop :=
 ∀ (pins:List (Addr × Obj)) (s:Shared) (σ:St) (H:Hp) (x:V) (xs:List V) (v:Value) (us:List Value) (Q:VK),Inv X pins σ H s→RelV x v→Vals xs us→r x xs H Q →
  wpAny (model X.prog X.w) X.A (call (.builtin id) (v :: us)) (EP X pins σ Q) X.xe s
section
variable {X:Cx} {a b:Expr} {ta tb:TE} {pos:Pos}
theorem IxR.or {r r':R2} (h:IxR X r) (h':IxR X r'):IxR X (fun x y H Q=>r x y H Q∨r' x y H Q):=by
 intro value slice pins s σ H x y v u Q I rx ry q hs;rcases q with q | q
 ·exact h value slice pins s σ H x y v u Q I rx ry q hs
 ·exact h' value slice pins s σ H x y v u Q I rx ry q hs
theorem VB {r:R2} (hr:IxR X r) (ha:PE X a ta) (hb:PE X b tb) (hs:zQ b):PE X (.Subscript a b pos) (tOp r ta tb):=by
 intro pins s σ H Q I h;exact bg (RP ha hb I h fun v u s2 x y H2 I2 rx ry q=>hr a b pins s2 σ H2 x y v u Q I2 rx ry q (hs _ _))
def VD (K:PySem.W.Frag):R2:=fun x y H Q=>∃ p xs i v,x = .ref p∧y = .int i∧SqL K H p xs∧atI xs i=some v∧Q v H
def VF (K:PySem.W.Frag):R2:=fun x y H Q=>∃ p xs i v,x = .ref p∧y = .int i∧SqT K H p xs∧atI xs i=some v∧Q v H
def VG:R2:=fun x y H Q=>∃ z i c,x = .str z∧y = .int i∧z.length ≤ sizeLine∧atI z.cps.toList i=some c∧Q (.str ⟨#[c]⟩) H
theorem Np:IxR X (VD X.K):=by
 intro value slice pins s σ H x y v u Q I rx ry h hs;obtain ⟨p,xs,i,z,rfl,rfl,hq,he,q⟩:=h
 cases rx;obtain ⟨t,rfl⟩:=ry;obtain ⟨its,r,pl,hz⟩:=I.list hq;obtain ⟨j,h1,h2,h3,h4,h5⟩:=vQ he;obtain ⟨w,ew,rw'⟩:=r.get h2;have hl:=r.length;have hn:=uF;have fin:EP X pins σ Q w s:=⟨z,H,I,rw',q⟩;by_cases h0:0 ≤ i
 ·have hj:i.toNat=j:=by
   rw [bn h0 h5] at h1;exact cM.inj h1
  exact item_listR pl.isList h0 (by omega) (by rw [hj];simpa using ew) fin hs
 ·have hj:(i + (its.toArray.size:Int)).toNat=j:=by
   rw [bi (by omega) h4] at h1;rw [bK,← hl];exact cM.inj h1
  exact subscriptTail_builtinR (x:=w) pl.isList.typeIs slot_list_getitem.lookup
   (wpAny_getItem_list_neg (Q:=fun r s'=>r=w∧EP X pins σ Q r s') pl.isList (by omega) (by rw [bK] <;> omega) (by omega) (by rw [hj];simpa using ew) ⟨rfl,fin⟩) hs
theorem R3:IxR X (VF X.K):=by
 intro value slice pins s σ H x y v u Q I rx ry h hs;obtain ⟨p,xs,i,z,rfl,rfl,hq,he,q⟩:=h
 cases rx;obtain ⟨t,rfl⟩:=ry;obtain ⟨its,r,pl,hz⟩:=I.tuple hq;obtain ⟨j,h1,h2,h3,h4,h5⟩:=vQ he;obtain ⟨w,ew,rw'⟩:=r.get h2;have hl:=r.length;have hn:=uF;have fin:EP X pins σ Q w s:=⟨z,H,I,rw',q⟩;exact subscriptTail_builtinR (x:=w) pl.typeIs slot_tuple_getitem.lookup
  (getItem_tuple (j:=j) (Q:=fun r s'=>r=w∧EP X pins σ Q r s') pl (by omega) (by omega) (by rwa [bK,← hl]) (by simpa using ew) ⟨rfl,fin⟩) hs
theorem R5:IxR X VG:=by
 intro value slice pins s σ H x y v u Q I rx ry h hs;obtain ⟨z,i,c,rfl,rfl,hz,he,q⟩:=h;obtain ⟨t,rfl⟩:=rx;obtain ⟨t',rfl⟩:=ry;obtain ⟨j,h1,h2,h3,h4,h5⟩:=vQ he;have hl:z.cps.toList.length=z.length:=by simp [Str.length]
 rw [hl] at h1 h4 h5;have hn:=uF;exact tail_any (typeIs_str s z t) slot_str_getitem.lookup (getItem_str (c:=c) (by
  have e1:decide (i < -(2 ^ 63:Int))=false:=dFa (by omega);have e2:decide (i ≥ 2 ^ 63)=false:=dFa (by omega);rw [e1,e2,Bool.or_false]) (by rw [h1];simpa using h2) ⟨.str ⟨#[c]⟩,H,I.tok _,⟨_,rfl⟩,q⟩) hs
def rIx (K:PySem.W.Frag):R2:=fun x y H Q=>VD K x y H Q∨VF K x y H Q∨VG x y H Q
theorem R6:IxR X (rIx X.K):=Np.or (R3.or R5)
theorem DX (its:List Value) (n j:Nat) (u:Value):Obj.mapSeq (·.setIfInBounds j u) { cls:=.type "list", data:=.seq its.toArray n } = { cls:=.type "list", data:=.seq (its.set j u).toArray n }:=by
 simp [Obj.mapSeq]
theorem Inv.lst {pins:List (Addr × Obj)} {σ:St} {H:Hp} {s:Shared} {p:Addr} {xs:List V} (I:Inv X pins σ H s) (h:H p=some (.lst xs)) :
 ∃ (its:List Value) (n:Nat),Vals xs its∧s.heap.get? p=some { cls:=.type "list", data:=.seq its.toArray n }∧xs.length ≤ sizeLine:=by
 obtain ⟨z,its,n,r,e⟩:=I.hok p _ h;exact ⟨its,n,r,e,z⟩
theorem Inv.lstUpd {pins:List (Addr × Obj)} {σ:St} {H:Hp} {s:Shared} {p:Addr} {xs ys:List V} {its its':List Value} {n n':Nat} {f:Obj→Obj} (I:Inv X pins σ H s) (h:H p=some (.lst xs))
 (ho:s.heap.get? p=some { cls:=.type "list", data:=.seq its.toArray n }) (hf:f { cls:=.type "list", data:=.seq its.toArray n } = { cls:=.type "list", data:=.seq its'.toArray n' }) (r:Vals ys its') (hz:ys.length ≤ sizeLine) (t:Nat) :
 Inv X pins σ (upd H p (.lst ys)) { s with heap:=s.heap.update p f,toks:=t }:=by
 have e:(s.heap.update p f).get? p=some { cls:=.type "list", data:=.seq its'.toArray n' }:=by
  rw [Heap.get?_update_self f ho (by rw [hf] <;> rfl),hf]
 refine I.write (x:=p) (e:=p) (by rw [h];trivial) (.inl rfl) (fun b u hb q=>(bp _ _ (Ne.symm hb)).trans q) ⟨_,e⟩ ?_;exact ⟨hz,its',n',r,e⟩
def VH:V→V→V→Hp→(Hp→Prop)→Prop:=fun o i v H Q=>∃ p xs k j,o = .ref p∧i = .int k∧H p=some (.lst xs)∧ixN xs.length k=some j∧Q (upd H p (.lst (xs.set j v)))
theorem set_list:RD X VH:=by
 intro pins s σ H o i v ov iv u Q I ro ri rv h;obtain ⟨p,xs,k,j,rfl,rfl,hp,hj,q⟩:=h
 cases ro;obtain ⟨t,rfl⟩:=ri;obtain ⟨its,n,r,ho,hz⟩:=I.lst hp;obtain ⟨h1,h2,h3,h4⟩:=Gf hj;have hl:=r.length;have hn:=uF;have I':Inv X pins σ (upd H p (.lst (xs.set j v))) { s with heap:=s.heap.update p (Obj.mapSeq (·.setIfInBounds j u)) } :=
  I.lstUpd hp ho (DX its n j u) (r.set rv j) (by rwa [d9]) s.toks
 by_cases h0:0 ≤ k
 ·have hk:k.toNat=j:=by
   rw [bn h0 h4] at h1;exact cM.inj h1
  exact PySem.W.ki_setAt ho h0 (by omega) (by rwa [bK,← hl]) (by rw [hk];exact ⟨_,I',q⟩)
 ·have hk:(k + (its.toArray.size:Int)).toNat=j:=by
   rw [bi (by omega) h3] at h1;rw [bK,← hl];exact cM.inj h1
  exact PySem.W.ki_setBack ho (by omega) (by rwa [bK,← hl]) (by omega) (by rw [hk];exact ⟨_,I',q⟩)
theorem zR (lo hi:Option Int) (n:Nat):(sliceBounds lo hi none n).1=((HT.sIx n 0 lo:Nat):Int)∧(sliceBounds lo hi none n).2.1=((HT.sIx n n hi:Nat):Int)∧(sliceBounds lo hi none n).2.2=1:=by
 refine ⟨?_,?_,rfl⟩
 ·cases lo with
  | none=>simp [sliceBounds,HT.sIx]
  | some i =>
   simp only [sliceBounds,HT.sIx,Option.getD_none,show (1:Int) > 0 by decide,if_true];by_cases h:i < 0
   ·simp only [h,if_true] <;> omega
   ·simp only [h,if_false] <;> omega
 ·cases hi with
  | none=>simp [sliceBounds,HT.sIx]
  | some i =>
   simp only [sliceBounds,HT.sIx,Option.getD_none,show (1:Int) > 0 by decide,if_true];by_cases h:i < 0
   ·simp only [h,if_true] <;> omega
   ·simp only [h,if_false] <;> omega
theorem yt (its:List Value) (lo hi:Option Int):slicePick its.toArray lo hi none=((its.drop (HT.sIx its.length 0 lo)).take (HT.sIx its.length its.length hi - HT.sIx its.length 0 lo)).toArray:=by
 obtain ⟨h1,h2,h3⟩:=zR lo hi its.toArray.size;unfold slicePick;rw [h1,h2,h3];simp only [sliceRange_one,pick_run,bK] <;> rfl
def Yl (K:PySem.W.Frag):V→Option Int→Option Int→Hp→VK→Prop:=fun x lo hi H Q=>∃ a xs,x = .ref a∧SqL K H a xs∧∀ p,H p=none→Q (.ref p) (upd H p (.lst (Hz xs lo hi)))
theorem Nq:SlR X (Yl X.K):=by
 intro pins s σ H x v vl vu lo hi sl Q I rx hs pl pu h;obtain ⟨a,xs,rfl,hx,q⟩:=h
 cases rx;obtain ⟨its,r,ht,hz⟩:=I.list hx;have hlen:=r.length;refine ⟨"list", _,slot_list_getitem.lookup,ht.isList.typeIs,?_⟩;refine wpAny_getItem_list_slice ht.isList hs pl pu .none (by simp) ?_ (by rw [bK] <;> omega);rw [yt,← hlen];refine ⟨.ref s.heap.objs.size,_,I.laid (t':=s.toks) (o:=.lst (Hz xs lo hi)) (fun b ob q=>ac _ q) (bB _) ?_,rfl,q _ (I.hok.fresh (bB _))⟩;exact ⟨bY (BL xs lo hi) hz,_,0,(r.drop (HT.sIx xs.length 0 lo)).take (HT.sIx xs.length xs.length hi - HT.sIx xs.length 0 lo),af _ rfl⟩
theorem cC:oK X (.builtin "len") (fun xs H Q=>∃ p ys,xs=[.ref p]∧(SqL X.K H p ys∨SqT X.K H p ys)∧Q (.int ys.length) H):=by
 intro pins s σ H xs us Q I r h;obtain ⟨p,ys,rfl,hq,q⟩:=h;obtain ⟨u,rfl,rx⟩:=vals1 r
 cases rx;have hn:=uF;rcases hq with hq | hq
 ·obtain ⟨its,r',pl,hz⟩:=I.list hq;have hlen:=r'.length;exact Calls.call_len_list pl.isList (by simp only [bK] <;> omega) ⟨.int ys.length,H,I.tok _,⟨s.toks + 1,by rw [bK,hlen]⟩,q⟩
 ·obtain ⟨its,r',pl,hz⟩:=I.tuple hq;have hlen:=r'.length;exact len_tuple pl (by simp only [bK] <;> omega) ⟨.int ys.length,H,I.tok _,⟨s.toks + 1,by rw [bK,hlen]⟩,q⟩
theorem zT:oK X (.type "list") (fun xs H Q=>∃ p ys,xs=[.ref p]∧(SqL X.K H p ys∨SqT X.K H p ys)∧∀ l,H l=none→Q (.ref l) (upd H l (.lst ys))):=by
 intro pins s σ H xs us Q I r h;obtain ⟨p,ys,rfl,hq,q⟩:=h;obtain ⟨u,rfl,rx⟩:=vals1 r
 cases rx;have fin:∀ (its:List Value),Vals ys its→ys.length ≤ sizeLine→∀ (h':Heap) (c':Nat),(∀ b o',s.heap.get? b=some o'→h'.get? b=some o') →
  h'.get? s.heap.objs.size=some { cls:=.type "list", dict:=none,data:=.seq its.toArray c',slots:=#[] }→EP X pins σ Q (.ref s.heap.objs.size) { s with heap:=h' }:=fun its r' hz h' c' kp e =>
  ⟨.ref s.heap.objs.size,_,I.laid (t':=s.toks) kp (bB _) (show iz X.prog X.w _ h' _ (.lst ys) from ⟨hz,its,c',r',e⟩),rfl,q _ (I.hok.fresh (bB _))⟩
 rcases hq with hq | hq
 ·obtain ⟨its,r',pl,hz⟩:=I.list hq;have hlen:=r'.length;obtain ⟨o,ho,hc,n,hd⟩:=pl.isList;exact call_list_seq p (.inl rfl) ho hc hd (fun h' c' kp e=>fin its r' hz h' c' kp e) (by simp only [bK] <;> omega)
 ·obtain ⟨its,r',pl,hz⟩:=I.tuple hq;have hlen:=r'.length;obtain ⟨o,ho,hc,n,hd⟩:=pl;exact call_list_seq p (.inr rfl) ho hc hd (fun h' c' kp e=>fin its r' hz h' c' kp e) (by simp only [bK] <;> omega)
def tyV (K:PySem.W.Frag) (T:String) (x:V) (H:Hp):Prop:=match x with
 | .str _=>T = "str"
 | .int _=>T = "int"
 | .ref p=>(T = "list" ∧ ∃ xs,SqL K H p xs)∨(T = "tuple" ∧ ∃ o,K.lookup p=some o∧o.cls = .type "tuple" ∧ o.dict=none) ∨
  (T = "dict" ∧ ((∃ kvs,H p=some (.dK kvs))∨∃ kvs,H p=some (.dT kvs)))∨(T = "set" ∧ ∃ S n,H p=some (.set S n))
 | _=>False
theorem R7 {pins:List (Addr × Obj)} {σ:St} {H:Hp} {s:Shared} {T:String} {x:V} {v:Value} (I:Inv X pins σ H s) (r:RelV x v) (ty:tyV X.K T x H) :
 s.TypeIs v T∧∀ a,v = .ref a→∃ ob,s.heap.get? a=some ob∧ob.dict=none:=by
 cases x with
 | str z =>
  obtain ⟨t,rfl⟩:=r
  cases (show T = "str" from ty);exact ⟨typeIs_str s z t,fun _ e=>nomatch e⟩
 | int i =>
  obtain ⟨t,rfl⟩:=r
  cases (show T = "int" from ty);exact ⟨typeIs_int s i t,fun _ e=>nomatch e⟩
 | ref p =>
  cases r;rcases ty with ⟨rfl,xs,hq⟩ | ⟨rfl,o,hk,hc,hd⟩ | ⟨rfl,hk⟩ | ⟨rfl,S,n,hk⟩
  ·obtain ⟨its,_,pl,_⟩:=I.list hq;refine ⟨pl.isList.typeIs,fun a e=>?_⟩
   cases e;obtain ⟨o,n,e,c,hd,_⟩:=pl;exact ⟨o,e,hd⟩
  ·refine ⟨⟨o,I.kIn p o hk,hc⟩,fun a e=>?_⟩
   cases e;exact ⟨o,I.kIn _ o hk,hd⟩
  ·have z:∃ o,s.heap.get? p=some o∧o.ExactDict:=by
    rcases hk with ⟨kvs,hk⟩ | ⟨kvs,hk⟩
    ·obtain ⟨_,_,_,_,o,_,_,e,ex,_⟩:=I.hok p _ hk;exact ⟨o,e,ex⟩
    ·obtain ⟨_,_,_,_,o,_,_,e,ex,_⟩:=I.hok p _ hk;exact ⟨o,e,ex⟩
   obtain ⟨o,e,ex⟩:=z;refine ⟨⟨o,e,ex.1⟩,fun a e2=>?_⟩
   cases e2;exact ⟨o,e,ex.2.1⟩
  ·obtain ⟨o,_,_,_,e,ex,_⟩:=I.hok p _ hk;refine ⟨⟨o,e,ex.1⟩,fun a e2=>?_⟩
   cases e2;exact ⟨o,e,ex.2.1⟩
 | _=>exact False.elim ty
noncomputable def tBM (K:PySem.W.Frag) (T:String) (r:V→List V→Hp→VK→Prop) (to:TE) (t:TA):TE:=fun σ H Q=>to σ H fun x H1=>tyV K T x H1∧t σ H1 fun xs H2=>r x xs H2 Q
variable {o e:Expr} {es:List Expr} {to:TE} {t:TA} {name:Str} {apos cpos:Pos} {T id:String} {r:V→List V→Hp→VK→Prop}
theorem QL (pa:PlainAttrs T) (slot:Slot T name id) (hty:typeOf (.builtin id)=pure (.type "method_descriptor")) (hm:MtR X id r) (ho:PE X o to) (ha:PA X (e :: es) t)
 (hbase:attributeBase o name X.env (eval o X.env)=eval o X.env:=by rfl)
 (hfew:((backTo cpos (starEach (e :: es) X.env)).all (fun x=>!x.1) && (backToKw cpos (keywordEach [] X.env)).all (fun x=>x.1.isSome)
  && decide ((e :: es).length + ([]:List Keyword).length + (if ([]:List Keyword).isEmpty then 0 else 1) < 30))=true:=by rfl)
 (hline:(apos.endLine == cpos.line)=true:=by rfl) (hs:starEach (e :: es) X.env=(false,eval e X.env) :: starEach es X.env:=by rfl) (hplain:(backTo cpos (starEach es X.env)).any (·.1)=false:=by rfl) :
 PE X (.Call (.Attribute o name apos) (e :: es) [] cpos) (tBM X.K T r to t):=by
 intro pins s σ H Q I h;refine wpAny_Call_method_late hbase hfew hline rfl (thn (ho pins s σ H _ I h) fun v s1 ⟨x,H1,I1,r1,ty,q1⟩=>?_);obtain ⟨h1,h2⟩:=R7 I1 r1 ty;refine ⟨T,id,pa,slot,hty,h1,h2,?_⟩;have hA:=ha cpos pins s1 σ H1 _ I1 q1;rw [hs] at hA ⊢;refine bj (by show (false || (backTo cpos (starEach es X.env)).any (·.1))=false;rw [hplain] <;> rfl) (bq ?_);exact thn hA fun us s2 ⟨vs,H2,I2,r2,q2⟩=>hm pins s2 σ H2 x vs v us Q I2 r1 r2 q2
/- xs.append(e),list.index on a module's tuple .. are MtR facts of 06m -/
end
end L2
namespace L2
open PySem PySem.Spec PyProof.Rows
def MtM (X:Cx) (id:String) (r:V→List V→Hp→VK→Prop):Prop :=
 ∀ (pins:List (Addr × Obj)) (s:Shared) (σ:St) (H:Hp) (x:V) (xs:List V) (v:Value) (us:List Value) (Q:VK),Inv X pins σ H s→RelV x v→Vals xs us→r x xs H Q →
  wpAny (model X.prog X.w) X.A (call (.builtin id) (v :: us)) (EP X pins σ Q) X.xe s
theorem Vals.one:∀ {x:V} {us:List Value},Vals [x] us→∃ u,us=[u]∧RelV x u
 | _,_,.cons r .nil=>⟨_,rfl,r⟩
theorem Vals.two:∀ {x y:V} {us:List Value},Vals [x,y] us→∃ u v,us=[u,v]∧RelV x u∧RelV y v
 | _,_,_,.cons r (.cons q .nil)=>⟨_,_,rfl,r,q⟩
theorem Vals.zero:∀ {us:List Value},Vals [] us→us=[]
 | _,.nil=>rfl
theorem Vals.eraseIdx:∀ {xs:List V} {us:List Value} (i:Nat),Vals xs us→Vals (xs.eraseIdx i) (us.eraseIdx i)
 | _,_,_,.nil=>.nil
 | _,_,0,.cons _ t=>t
 | _,_,i + 1,.cons r t=>.cons r (Vals.eraseIdx i t)
theorem Vals.rep {xs:List V} {us:List Value} (h:Vals xs us):∀ k:Nat,Vals (bO k xs).flatten (bO k us).flatten
 | 0=>.nil
 | k + 1=>by
  rw [cX,cX,gG,gG];exact Vals.append h (Vals.rep h k)
theorem foldl_rep (its:List Value):∀ (k:Nat) (acc:List Value),
 List.foldl (fun x1 x2=>x1++x2) acc.toArray (bO k its.toArray)=(acc++(bO k its).flatten).toArray
 | 0,acc=>by simp
 | k + 1,acc=>by
  have e:acc.toArray++its.toArray=(acc++its).toArray:=by simp
  have e2:(acc++its)++(bO k its).flatten=acc++(bO (k + 1) its).flatten:=by
   rw [cX,gG,jG]
  rw [← e2,← foldl_rep its k (acc++its),← e,cX,List.foldl_cons]
section
variable {X:Cx} {pins:List (Addr × Obj)} {σ:St} {H:Hp} {s:Shared} {l b:Addr} {xs ys zs:List V}
theorem Inv.lset {its its':List Value} {n:Nat} {f:Array Value→Array Value} {t':Nat} (I:Inv X pins σ H s) (hH:H l=some (.lst xs))
 (e:s.heap.get? l=some { cls:=.type "list", data:=.seq its.toArray n }) (hf:f its.toArray=its'.toArray) (hv:Vals ys its') (hz:ys.length ≤ sizeLine) :
 Inv X pins σ (upd H l (.lst ys)) { s with heap:=s.heap.update l (Obj.mapSeq f),toks:=t' }:=by
 have q:=PySem.IsL.update e f;rw [hf] at q;refine I.write (x:=l) (e:=l) (by rw [hH];exact trivial) (.inl rfl) (fun b' u hb hu=>(bp s.heap (Obj.mapSeq f) (Ne.symm hb)).trans hu) ⟨_,q⟩ ?_;exact ⟨hz,its',_,hv,q⟩
theorem Inv.lnew {its:List Value} {t':Nat} (I:Inv X pins σ H s) (hv:Vals ys its) (hz:ys.length ≤ sizeLine) :
 Inv X pins σ (upd H s.heap.objs.size (.lst ys)) { s with heap:=s.heap.push { cls:=.type "list", data:=.seq its.toArray },toks:=t' } :=
 I.laid (fun _ _ q=>ac _ q) (bB _) ⟨hz,its,0,hv,af _ rfl⟩
theorem Inv.fresh (I:Inv X pins σ H s):H s.heap.objs.size=none:=I.hok.fresh (bB _)
theorem Inv.lstM (I:Inv X pins σ H s) (hH:H l=some (.lst xs)):xs.length ≤ sizeLine∧∃ (its:List Value) (n:Nat),Vals xs its∧xs.length=its.length∧s.heap.get? l=some { cls:=.type "list", data:=.seq its.toArray n }:=by
 obtain ⟨z,its,n,r,e⟩:=I.hok l _ hH;exact ⟨z,its,n,r,r.length,e⟩
theorem JX {n:Nat} (h:n ≤ sizeLine):Builtin.List.listTooLong n=false:=by
 exact dFa (by omega)
end
section
variable {X:Cx}
def Nr:V→List V→Hp→VK→Prop:=fun x vs H Q=>∃ l xs y,x = .ref l∧vs=[y]∧H l=some (.lst xs)∧xs.length < sizeLine∧Q .non (upd H l (.lst (xs++[y])))
theorem yX:MtM X "list.append" Nr:=by
 intro pins s σ H x vs v us Q I rx rv h;obtain ⟨l,xs,y,rfl,rfl,hH,hz,q⟩:=h
 cases rx;obtain ⟨u,rfl,ru⟩:=rv.one;obtain ⟨z,its,n,r,hl,e⟩:=I.lstM hH;refine bt F.slot_list_append ⟨_,e,rfl⟩ F.entry_list_append (F.args_list_append_2 _ _) (PySem.list_append l its.toArray n u (by rw [bK];omega)) ⟨e,?_⟩;refine ⟨.non,_,I.lset (its':=its++[u]) hH e (by simp) (r.append (.cons ru .nil)) ?_,rfl,q⟩;rw [bL,qY];omega
def Ym:R2:=fun x y H Q=>∃ l k xs,x = .ref l∧y = .int k∧H l=some (.lst xs)∧-(2 ^ 63) ≤ k∧k < 2 ^ 63∧xs.length * k.toNat ≤ sizeLine ∧
 ∀ p,H p=none→Q (.ref p) (upd H p (.lst (bO k.toNat xs).flatten))
theorem len_rep {α:Type} (xs:List α) (k:Nat):(bO k xs).flatten.length=k * xs.length:=by
 induction k with
 | zero=>simp
 | succ k ih=>rw [cX,gG,bL,ih,Nat.succ_mul,Nat.add_comm]
theorem R8:OpR X (binaryOp .Mult) Ym:=by
 intro pins s σ H x y v u Q I rx ry h;obtain ⟨l,k,xs,rfl,rfl,hH,h1,h2,hz,q⟩:=h
 cases rx;obtain ⟨t,rfl⟩:=ry;obtain ⟨z,its,n,r,hl,e⟩:=I.lstM hH;have hlen:its.toArray.size * k.toNat ≤ sizeLine:=by rwa [bK,← hl]
 have hcap:¬ its.toArray.size * k.toNat > (2 ^ 63 - 1) / 8:=by
  have:(sizeLine:Nat) ≤ (2 ^ 63 - 1) / 8:=by decide
  omega
 have hfit:¬ (!Builtin.List.listFitsIndex k)=true:=by
  rw [fitsIndex_both h1 h2];exact dZ
 have hlong:¬ Builtin.List.listTooLong (its.toArray.size * k.toNat)=true:=by
  rw [JX hlen];exact dZ
 have hnew:List.foldl (fun x1 x2=>x1++x2) #[] (bO (if its.toArray.isEmpty=true then 0 else k.toNat) its.toArray)=(bO k.toNat its).flatten.toArray:=by
  have f0:=fun m=>by
   have:=foldl_rep its m [];rwa [qw] at this
  rw [f0]
  cases its with
  | nil=>simp
  | cons a r'=>rw [if_neg (by simp)]
 refine wpAny_binaryOp_repeat_ref (T := "list") (U := "int") (by decide) ⟨_,e,rfl⟩ (fun s'=>typeIs_int s' k t) noFill_list_mul F.fills_int_mul F.slot_int_rmul repeat_list F.slot_int_index.lookup
  (bt F.slot_int_rmul (typeIs_int s k t) F.entry_int_rmul (F.args_int_rmul_2 _ _) (int___rmul___int_list k t l its.toArray n)
   ⟨e,rfl,⟨_,e,rfl⟩,bt F.slot_list_mul ⟨_,e,rfl⟩ F.entry_list_mul (F.args_list_mul_2 _ _) (AutoListH.list___mul___list_int_3 l its.toArray n k t hfit hcap hlong) ⟨e,?_⟩⟩)
 rw [hnew];exact ⟨.ref _,_,I.lnew (t':=s.toks) (r.rep k.toNat) (by rwa [len_rep,Nat.mul_comm]),rfl,q _ I.fresh⟩
end
section
variable {prog:Program} {w:World} {A:Around} {E:Value→Shared→Prop} {s:Shared}
set_option maxRecDepth 100000 in
end
section
variable {X:Cx}
end
end L2
namespace Att
open PySem PySem.W PySem.Calls PyProof.Rows
theorem vI {P:Params} {h:Heap}:∀ (ns:List Int) (vs:List Value),WellAll P h vs (ns.map WData.int)→IntsAre vs ns:=by
 intro ns
 induction ns with
 | nil =>
  intro vs w;rw [pQ] at w
  cases w;exact .nil
 | cons n ns ih =>
  intro vs w;rw [bJ] at w
  cases w with
  | cons a b =>
   cases a;exact .cons _ _ (ih _ b)
theorem HB {l:OpenLaw} {n:Nat} (hn:l.most=some n) {P:Params} {h:Heap} {args:List WData} {vals:List Value}
 (hpre:l.row.toRowW.claim.pre args=true) (hwl:WellAll P h vals args) :
 ∃ a vs ns,vals=[Value.ref a]∧args=[WData.list (ns.map WData.int)]∧h.get? a=some { cls:=.type "list", data:=.seq vs.toArray }∧IntsAre vs ns∧ns.length ≤ n:=by
 have hsh:=(pre_splitW hpre).1;have hc:=(pre_splitW hpre).2;obtain ⟨d,r,rfl,h1,h2⟩:=hasAllW_cons hsh;obtain rfl:=hasAllW_nil h2;obtain ⟨xs,rfl,h3⟩:=hasW_list h1;obtain ⟨ns,rfl⟩:=items_int h3;have hlen:ns.length ≤ n:=by
  have h4:(WTm.not (.lt (.lit (.int (n:Int))) (.len (.arg 0)))).holds [] { args:=[.list (ns.map .int)] }=true:=by
   have h4:=(holds_andW hc).1;rwa [hn] at h4
  have h5:=condW_of h4 (w_not (w_lt w_lit (w_len_list (w_arg rfl))));rw [aD] at h5;refine Nat.le_of_not_lt fun q=>?_
  have q':(n:Int) < ((ns.length:Nat):Int):=by omega
  first
   | (rw [dTr q'] at h5;exact absurd h5 (by decide))
   | (simp at h5;omega)
 cases hwl with
 | cons w1 w2 =>
  cases w2
  cases w1 with
  | list ho hall=>exact ⟨_,_,ns,rfl,rfl,ho,vI ns _ hall,hlen⟩
theorem HD (l:OpenLaw) (args:List WData):l.row.toRowW.claim.post args (.bool true) args=true :=
 postW_of (r:=l.row.toRowW) (X:=(true == true))
  (show WShape.has [] (.bool true) .bool=true by first | rfl | decide | simp [WShape.has,WShape.arms,WShape.armsAll])
  (show (WTm.eq .res (.lit (.bool true))).value [] { args:=args,res:=some (.bool true),after:=args }=some (.bool (true == true)) from w_eq_bool (w_res rfl) w_lit) rfl
theorem BP {l:OpenLaw} {n:Nat} {q:Program} {loose:List Str} {XP:(Str→Option Value)→Heap→Prop} {YP:World→Heap→Prop} {d:DefRec}
 (hn:l.most=some n) (hdf:d.params.defaults=[])
 (call:∀ (w:World) (s₀ s₁:Shared) (mg mb:Str→Option Value) (fa:Addr) (o:Obj) (pm cd doc:Value) (a:Addr) (vs:List Value) (ns:List Int),
  Ground q loose [] XP w s₀ mg mb s₁.heap→YP w s₁.heap →
  s₁.heap.get? fa=some o→o.data = .func (docDef d.name d.params d.body d.scope pm cd doc)→s₁.heap.CodeRec cd d.name→mg d.name=some (.ref fa) →
  s₁.heap.get? a=some { cls:=.type "list", data:=.seq vs.toArray }→IntsAre vs ns→ns.length ≤ n→s₁.gens = #[] →
  codeAny (model l.prog w) callerA (.call (.ref fa) ⟨[.ref a],[]⟩) (fun r s'=>r = .ok (.ret (.bool true))∧OldK s₁.heap s'.heap∧s'.os=s₁.os∧AllBare s'.gens) s₁) :
 WalkO q loose XP YP l.row.toRowW d [] (fun f vs=>PySem.call f vs):=by
 intro w s₀ s₁ mg mb G Y fa o pm cd doc dV kV ho hd hcd hD hmg hg args vals as hpre hlay hrd hwl hlo;obtain rfl:dV = .none:=Dflts.none hD hdf;obtain rfl:kV = .none:=Dflts.noKw hD;obtain ⟨a,vs,ns,rfl,rfl,hobj,hints,hlen⟩:=HB hn hpre hwl;refine enter_call (codeAny_mono (call w s₀ s₁ mg mb fa o pm cd doc a vs ns G Y ho (fd_plain hd) hcd hmg hobj hints hlen hg) fun r s' hq=>?_);obtain ⟨rfl,h2,h3,h4⟩:=hq;exact ⟨.inl ⟨.bool true,.bool true,[],rfl,fun _=>rfl,.bool true,HD l _,fun _=>⟨List.Pairwise.nil,fun _ hm=>(nomatch hm)⟩⟩,h2,h3,h4⟩
section
variable {prog:Program} {w:World} {A:Around} {E:Value→Shared→Prop} {s:Shared} {K:Frag}
def o7 (h:Heap):Heap:={ h with objs:=#[] }
theorem wC (h:Heap) (b:Addr):(o7 h).get? b=none:=by
 cases e:(o7 h).get? b with
 | none=>rfl
 | some o=>exact absurd (aa e) (mL _)
theorem JZ {h:Heap} {L:Addr} {m:Str→Option Value} (n:h.Ns L m):Fr (o7 h) L h m :=
 ⟨n,fun b o e=>(by rw [wC] at e;cases e),iK _⟩
end
end Att
namespace L2
open PySem PySem.Spec PyProof.Rows
theorem nC:∀ {vs:List Value} {ns:List Int},IntsAre vs ns→Vals (ns.map V.int) vs
 | _,_,.nil=>.nil
 | _,_,.cons n t h=>.cons ⟨t,rfl⟩ (nC h)
def Only (H:Hp):Prop:=∀ b,H b=none∨∃ o xs,H b=some (.frz o (.lst xs))
noncomputable def BR (ts:List (Addr × Str × Pos)) (H:Hp):Hp:=fun b=>match ts.find? (fun t=>t.1 == b) with
 | some t=>some (.tbl t.2.1 t.2.2)
 | none=>H b
theorem J0 (ts:List (Addr × Str × Pos)) (H:Hp) (b:Addr):(BR ts H b=H b∧∀ t ∈ ts,t.1 ≠ b)∨∃ t ∈ ts,t.1=b∧BR ts H b=some (.tbl t.2.1 t.2.2):=by
 unfold BR
 cases e:ts.find? (fun t=>t.1 == b) with
 | none=>exact .inl ⟨rfl,fun t ht z=>by have:=sY.mp e t ht;simp [z] at this⟩
 | some t =>
  have h1:=oh e;have h2:=List.find?_some e;exact .inr ⟨t,h1,by simpa using h2,rfl⟩
theorem J1 {P:Program} {w:World} {K:PySem.W.Frag} {mg mb:Str→Option Value} {CX:CXT} {k:Nat} {fa a:Addr} {fd:FuncData} {x:Str} {sp:Sp} {s₁:Shared} {vs:List Value} {ns:List Int}
 (KX:K.In s₁.heap) (hns:s₁.heap.Ns mainGlobals mg) (hb:s₁.heap.Ns builtinsNs mb) (hbb:∀ x:Str,x ≠ "__name__" → mb x=bootBuiltins x) (hlim:s₁.heap.NoLimit) (hbm:∃ bm ob,mg "__builtins__" = some (.ref bm)∧bm ≠ builtinsNs∧s₁.heap.get? bm=some ob∧ob.cls = .type "module" ∧ ob.dict=some builtinsNs∧ob.data = .plain) (hg:s₁.gens = #[])
 (ha:s₁.heap.get? a=some { cls:=.type "list", data:=.seq vs.toArray }) (hi:IntsAre vs ns) (hl:ns.length ≤ sizeLine) (hr:Room k callerA)
 (F:∀ base:Heap,K.In base→base.Ns mainGlobals mg→FnOk P w K mg base CX k fa fd [x] sp) (hbind:∀ (s:Shared) (u:Value),BindsTo s fd ⟨[u],[]⟩ [(x,u)])
 (ts:List (Addr × Str × Pos)) (hts:∀ t ∈ ts,s₁.heap.get? t.1=some { cls:=.none,data:=.fields #[] }) (hCT:∀ t ∈ ts,isCodeTable s₁.heap t.1) (hKt:∀ t ∈ ts,K.lookup t.1=none) (htu:∀ t ∈ ts,∀ t' ∈ ts,t.1=t'.1→t=t')
 (hsp:∀ H:Hp,(∀ t ∈ ts,H t.1=some (.tbl t.2.1 t.2.2))→SqL K H a (ns.map V.int)→sp [.ref a] H (fun v _=>v = .bl true) fun _ _ _=>False)
 (hCX:∀ H e s',CX [] H s₁ (fun _ _ _=>False) e s'→False) :
 codeAny (model P w) callerA (.call (.ref fa) ⟨[.ref a],[]⟩) (fun r s'=>r = .ok (.ret (.bool true))∧OldK s₁.heap s'.heap∧s'.os=s₁.os∧AllBare s'.gens) s₁:=by
 have rv:=nC hi;have lenV:=hi.length;have core:∀ H:Hp,(∀ b,H b=none∨(∃ o xs,H b=some (.frz o (.lst xs)))∨∃ t ∈ ts,t.1=b∧H b=some (.tbl t.2.1 t.2.2))→(∀ t ∈ ts,H t.1=some (.tbl t.2.1 t.2.2))→SqL K H a (ns.map V.int)→HOk P w H s₁.heap→(∀ b,H b ≠ none→b=a∨∃ t ∈ ts,t.1=b)→(H a ≠ none→K.lookup a=none) →
  codeAny (model P w) callerA (.call (.ref fa) ⟨[.ref a],[]⟩) (fun r s'=>r = .ok (.ret (.bool true))∧OldK s₁.heap s'.heap∧s'.os=s₁.os∧AllBare s'.gens) s₁:=by
  intro H hO hT hS hok hA hK;have base_of:∀ {b:Addr} {o:Obj},s₁.heap.get? b=some o→H b=none→(Bq s₁.heap H).get? b=some o:=fun e n=>Jx e n
  have noA:∀ {b:Addr} {o:Obj} {es:Array DictEntry} {ep:Nat},s₁.heap.get? b=some o→o.data = .dict es ep→H b=none:=fun {b o es ep} e d=>by
   cases q:H b with
   | none=>rfl
   | some u =>
    rcases hA b (by rw [q];simp) with e' | ⟨t,ht,e'⟩
    case inr =>
     subst e';rw [hts t ht] at e;cases e;have d':Data.fields #[]=Data.dict es ep:=d
     cases d'
    subst e';rw [ha] at e;cases e;have d':Data.seq vs.toArray _=Data.dict es ep:=d
    cases d'
  have nsK:∀ {b:Addr} {m:Str→Option Value},s₁.heap.Ns b m→(Bq s₁.heap H).Ns b m:=fun {b m} ⟨o,es,ep,e,d,r⟩=>⟨o,es,ep,base_of e (noA e d),d,r⟩
  have hKb:=fun b o e=>base_of (KX b o e) (by
   cases q:H b with
   | none=>rfl
   | some u =>
    rcases hA b (by rw [q];simp) with e' | ⟨t,ht,e'⟩
    ·subst e';rw [hK (by rw [q];simp)] at e;cases e
    ·subst e';rw [hKt t ht] at e;cases e)
  have hM:Mod K mg (Bq s₁.heap H):=⟨hKb,nsK hns,⟨mb,nsK hb,hbb⟩,let ⟨mc,h1,h2⟩:=hlim;⟨mc,nsK h1,h2⟩,let ⟨bm,ob,g1,g2,g3,g4,g5,g6⟩:=hbm;⟨bm,ob,g1,g2,base_of g3 (by
   cases q:H bm with
   | none=>rfl
   | some u =>
    rcases hA bm (by rw [q];simp) with e' | ⟨t,ht,e'⟩
    ·rw [e',ha] at g3;cases g3;have z:=g4;injection z with z
     exact absurd z (by decide)
    ·rw [← e',hts t ht] at g3;cases g3
     cases g4),g4,g5,g6⟩⟩
  have e0:Env0 P w K mg (Bq s₁.heap H) callerA [] s₁ H:=⟨rfl,hM,fun b o e=>MP e,Nat.le_of_eq (Hq _ _),trivial,fun b hb=>absurd (show b ∈ ([]:List Addr) from hb) (by simp),hok,.of_eq hg⟩;refine codeAny_mono ((F _ hKb (nsK hns)).run callerA [] s₁ H ⟨[.ref a],[]⟩ [.ref a] [.ref a] _ _ hr e0 (hbind s₁ (.ref a)) (.cons rfl .nil) (hsp H hT hS)) fun r s' h=>?_
  cases r with
  | error e=>exact (hCX H e s' h).elim
  | ok fl =>
   cases fl with
   | next=>exact False.elim h
   | brk=>exact False.elim h
   | cont=>exact False.elim h
   | ret u =>
    obtain ⟨v,H',os,bare,un,hok',r',q⟩:=h;have q':v = .bl true:=q;subst q';obtain rfl:u=Value.bool true:=r';refine ⟨rfl,⟨fun b o e=>?_,fun b o e=>un.there b o e (by simp)⟩,os,bare⟩
    cases q:H b with
    | none=>exact .inl <| un.keep b o e q (by intro z;exact absurd (show b ∈ ([]:List Addr) from z) (by simp)) (by simp)
    | some u =>
     rcases hO b with z | ⟨ob,xs,z⟩ | ⟨t,ht,rfl,z⟩
     case inr.inr =>
      have z2:=un.tbls _ _ _ z;obtain ⟨ps,e2,_⟩:=hok' _ _ z2;rw [hts t ht] at e;cases e;exact .inr (.inl ⟨hCT t ht,rfl,#[],ps,rfl,by rw [e2];simp⟩)
     ·rw [q] at z;cases z
     ·have z2:=un.frzs b ob _ z;obtain ⟨e1,_⟩:=hok b _ z;obtain ⟨e2,_⟩:=hok' b _ z2;rw [e] at e1;cases e1;exact .inl e2
 have core1:∀ H:Hp,Only H→SqL K H a (ns.map V.int)→HOk P w H s₁.heap→(∀ b,H b ≠ none→b=a)→(H a ≠ none→K.lookup a=none) →
  codeAny (model P w) callerA (.call (.ref fa) ⟨[.ref a],[]⟩) (fun r s'=>r = .ok (.ret (.bool true))∧OldK s₁.heap s'.heap∧s'.os=s₁.os∧AllBare s'.gens) s₁:=by
  intro H hO hS hok hA hK;have na:∀ t ∈ ts,t.1 ≠ a:=fun t ht z=>by
   have z2:=hts t ht;rw [z,ha] at z2
   cases z2
  have cs:=J0 ts H;have la:BR ts H a=H a:=by
   rcases cs a with z | ⟨t,ht,z,_⟩
   ·exact z.1
   ·exact absurd z (na t ht)
  have noown:∀ b x,H b ≠ some (.own x):=fun b x z=>by rcases hO b with y | ⟨_,_,y⟩ <;> (rw [y] at z;cases z)
  have notup:∀ b x,H b ≠ some (.tup x):=fun b x z=>by rcases hO b with y | ⟨_,_,y⟩ <;> (rw [y] at z;cases z)
  refine core (BR ts H) (fun b=>?_) (fun t ht=>?_) ?_ (fun b u z=>?_) (fun b z=>?_) (fun z=>hK (by rwa [← la]))
  ·rcases cs b with z | ⟨t,ht,z1,z2⟩
   ·rcases hO b with y | y
    ·exact .inl (z.1.trans y)
    ·obtain ⟨o,xs,y⟩:=y;exact .inr (.inl ⟨o,xs,z.1.trans y⟩)
   ·exact .inr (.inr ⟨t,ht,z1,z2⟩)
  ·rcases cs t.1 with z | ⟨t',ht',z1,z2⟩
   ·exact absurd rfl (z.2 t ht)
   ·have:=htu t' ht' t ht z1;subst this;exact z2
  ·rcases hS with (z | ⟨o,z⟩) | z
   ·exact .inl (.inl (by rwa [la]))
   ·exact .inl (.inr ⟨o,by rwa [la]⟩)
   ·exact .inr z
  ·rcases cs b with y | ⟨t,ht,z1,z2⟩
   ·rw [y.1] at z;exact (hok b u z).stay (fun _ _ _ q=>q) (fun c q=>absurd q (noown c b)) fun c xs q=>absurd q (notup c xs)
   ·rw [z2] at z
    cases z;subst z1;exact ⟨#[],hts t ht,.inl rfl⟩
  ·rcases cs b with y | ⟨t,ht,z1,z2⟩
   ·exact .inl (hA b (by rwa [← y.1]))
   ·exact .inr ⟨t,ht,z1⟩
 cases hk:K.lookup a with
 | some o =>
  have e:=KX a o hk;rw [ha] at e
  cases e;refine core1 (fun _=>none) (fun _=>.inl rfl) (.inr ⟨_,vs.toArray,_,hk,rfl,rfl,rfl,by rwa [bK,lenV],by simpa using rv⟩) (fun b u z=>by have z':(none:Option HO)=some u:=z;cases z') (fun b z=>absurd rfl z) fun z=>absurd rfl z
 | none =>
  refine core1 (fun b=>if b=a then some (.frz { cls:=.type "list", data:=.seq vs.toArray } (.lst (ns.map V.int))) else none) (fun b=>?_) (.inl (.inr ⟨{ cls:=.type "list", data:=.seq vs.toArray },if_pos rfl⟩)) (fun b u z=>?_) (fun b z=>?_) fun _=>hk
  ·by_cases hb:b=a
   ·exact .inr ⟨_,_,if_pos hb⟩
   ·exact .inl (if_neg hb)
  ·by_cases hb:b=a
   ·have z':=(if_pos hb).symm.trans z
    cases z';subst hb;exact ⟨ha,by rwa [aD],vs,_,rv,ha⟩
   ·have z':=(if_neg hb).symm.trans z
    cases z'
  ·by_cases hb:b=a
   ·exact hb
   ·exact absurd (if_neg hb) z
end L2
namespace L2
open PySem PySem.Spec PyProof.Rows
abbrev KOf {K:PySem.W.Frag} {h:Heap} (_:K.In h):PySem.W.Frag:=K
theorem Nt {l:PySem.W.OpenLaw} {n k:Nat} {q:Program} {loose:List Str} {XP:(Str→Option Value)→Heap→Prop} {YP:World→Heap→Prop} {d:DefRec} {K:Params→PySem.W.Frag} {CX:World→CXT} {sp:World→Sp} {x:Str}
 (hn:l.most=some n) (hn2:n ≤ sizeLine) (hdf:d.params.defaults=[]) (hr:Room k callerA)
 (hY:∀ (w:World) (h:Heap),YP w h→(K w.params).In h)
 (F:∀ (w:World) (mg:Str→Option Value) (fa:Addr) (h:Heap),(K w.params).In h→h.Ns mainGlobals mg→mg d.name=some (.ref fa) →
  ∃ fd:FuncData,(∀ (s:Shared) (u:Value),BindsTo s fd ⟨[u],[]⟩ [(x,u)]) ∧
   ∀ base:Heap,(K w.params).In base→base.Ns mainGlobals mg→FnOk l.prog w (K w.params) mg base (CX w) k fa fd [x] (sp w))
 (ts:List (Addr × Str × Pos)) (hts:∀ (w:World) (h:Heap),YP w h→(∀ t ∈ ts,h.get? t.1=some { cls:=.none,data:=.fields #[] })∧(∀ t ∈ ts,isCodeTable h t.1)∧∀ t ∈ ts,(K w.params).lookup t.1=none) (htu:∀ t ∈ ts,∀ t' ∈ ts,t.1=t'.1→t=t')
 (hsp:∀ (w:World) (H:Hp) (a:Addr) (ns:List Int),ns.length ≤ n→(∀ t ∈ ts,H t.1=some (.tbl t.2.1 t.2.2))→SqL (K w.params) H a (ns.map V.int)→sp w [.ref a] H (fun v _=>v = .bl true) fun _ _ _=>False)
 (hCX:∀ (w:World) (H:Hp) (s:Shared) (e:Value) (s':Shared),CX w [] H s (fun _ _ _=>False) e s'→False) :
 PySem.W.WalkO q loose XP YP l.row.toRowW d [] (fun f vs=>PySem.call f vs):=by
 refine Att.BP hn hdf fun w s₀ s₁ mg mb fa o pm cd doc a vs ns G Y ho hd hcd hmg hobj hints hlen hg=>?_
 have KX:=hY w _ Y;obtain ⟨fd,hb,hF⟩:=F w mg fa _ KX G.T.g hmg;exact J1 KX G.T.g G.T.b G.T.builtins G.T.nolimit G.T.bmain hg hobj hints (bY hlen hn2) hr hF hb ts (hts w _ Y).1 (hts w _ Y).2.1 (hts w _ Y).2.2 htu (fun H hO hS=>hsp w H a ns hlen hO hS) fun H e s'=>hCX w H s₁ e s'
theorem J2 {l:PySem.W.OpenLaw} {n k:Nat} {q:Program} {loose:List Str} {XP:(Str→Option Value)→Heap→Prop} {YP:World→Heap→Prop} {d:DefRec} {K:Params→PySem.W.Frag} {CX:CXT} {sp:PySem.W.Frag→Sp} {x:Str}
 (hn:l.most=some n) (hn2:n ≤ sizeLine) (hdf:d.params.defaults=[]) (hr:Room k callerA)
 (hY:∀ (w:World) (h:Heap),YP w h→(K w.params).In h)
 (F:∀ (w:World) (mg:Str→Option Value) (fa:Addr) (h:Heap),(K w.params).In h→h.Ns mainGlobals mg→mg d.name=some (.ref fa) →
  ∃ fd:FuncData,(∀ (s:Shared) (u:Value),BindsTo s fd ⟨[u],[]⟩ [(x,u)]) ∧
   ∀ base:Heap,(K w.params).In base→base.Ns mainGlobals mg→FnOk l.prog w (K w.params) mg base CX k fa fd [x] (sp (K w.params)))
 (ts:List (Addr × Str × Pos)) (hts:∀ (w:World) (h:Heap),YP w h→(∀ t ∈ ts,h.get? t.1=some { cls:=.none,data:=.fields #[] })∧(∀ t ∈ ts,isCodeTable h t.1)∧∀ t ∈ ts,(K w.params).lookup t.1=none) (htu:∀ t ∈ ts,∀ t' ∈ ts,t.1=t'.1→t=t')
 (hsp:∀ (K:PySem.W.Frag) (H:Hp) (a:Addr) (ns:List Int),ns.length ≤ n→(∀ t ∈ ts,H t.1=some (.tbl t.2.1 t.2.2))→SqL K H a (ns.map V.int)→sp K [.ref a] H (fun v _=>v = .bl true) fun _ _ _=>False)
 (hCX:∀ (H:Hp) (s:Shared) (e:Value) (s':Shared),CX [] H s (fun _ _ _=>False) e s'→False) :
 PySem.W.WalkO q loose XP YP l.row.toRowW d [] (fun f vs=>PySem.call f vs) :=
 Nt (K:=K) (CX:=fun _=>CX) (sp:=fun w=>sp (K w.params)) hn hn2 hdf hr hY F ts hts htu (fun w H a ns h1 h2 h3=>hsp (K w.params) H a ns h1 h2 h3) fun _ H s e s'=>hCX H s e s'
end L2
/- THE LAST THEOREM (shape;LID,My.* are yours):
   My.Adr: a structure of the addresses that your layer names (classes,functions);My.Txt K t: a structure (Prop) of the equations over K;
   My.txt_mk:{K} {implicit addresses ..} (e1:nsIn K mainGlobals "law" = some (some (.ref f))) (e2:K.lookup f=some ⟨oc,od,.func (fnOf "law" "law" params body scope dV kV doc pm an cdv ct),sl⟩) (e3:codeIn K cdv "law" = true) .. : ∃ t,My.Txt K t
set_option maxRecDepth 100000 in
set_option maxHeartbeats 0 in
(the tactic k_is has no namespace: write k_is) -/
namespace L2
open PySem PySem.Spec PyProof.Rows
noncomputable def mz (s:Stmt):Arguments:=match s with
 | .FunctionDef _ a _ _ _ _ _ _ _ _=>a
 | _=>{ posonlyargs:=[],args:=[],vararg:=none,kwonlyargs:=[],kw_defaults:=[],kwarg:=none,defaults:=[] }
def jo (s:Stmt):List Stmt:=match s with
 | .FunctionDef _ _ b _ _ _ _ _ _ _=>b
 | _=>[]
noncomputable def bA (s:Stmt):Scope:=match s with
 | .FunctionDef _ _ _ _ _ _ sc _ _ _=>sc
 | _=>{ kind:=.function,names:=[],isGenerator:=false,isCoroutine:=false }
abbrev CX0:CXT:=fun _ _ _ _ _ _=>False
abbrev E0:XK:=fun _ _ _=>False
theorem VJ {X:Cx}:Passes CX0 X E0:=fun _ _ _ _ _ _ _ h=>h.elim
structure Fun (K:PySem.W.Frag) (x qual:Str) (st:Stmt) (f:Addr) (fd:FuncData):Prop where
 ex:∃ (oc:Value) (od:Option Addr) (kV doc pm:Value) (an:Option Addr) (cdv ct:Value) (osl:Array (Option Value)),
  fd=PySem.W.fnOf x qual (mz st) (jo st) (bA st) .none kV doc pm an cdv ct∧K.lookup f=some ⟨oc,od,.func fd,osl⟩∧PySem.W.codeIn K cdv qual=true
 kp:PySem.W.keepIn K (.ref f)=true
section
variable {P:Program} {w:World} {K:PySem.W.Frag} {mg:Str→Option Value} {base:Heap}
end
section
variable {X:Cx}
end
theorem zU {A B:Prop} (h:B):if false=true then A else B:=by
 rwa [if_neg dZ]
theorem zV {A B:Prop} (h:A):if true=true then A else B:=by
 rwa [if_pos rfl]
def Same (H H':Hp):Prop:=∀ b o,H b=some o→H' b=some o
theorem Same.refl (H:Hp):Same H H:=fun _ _ h=>h
theorem Same.trans {H H1 H2:Hp} (a:Same H H1) (b:Same H1 H2):Same H H2:=fun c o h=>b c o (a c o h)
theorem Same.free {H H':Hp} (e:Same H H') {l:Addr} (h:H' l=Option.none):H l=Option.none:=by
 cases q:H l with
 | none=>rfl
 | some o =>
  rw [e l o q] at h
  cases h
theorem Same.seq {K:PySem.W.Frag} {H H':Hp} {a:Addr} {xs:List V} (e:Same H H') (h:SqL K H a xs):SqL K H' a xs:=by
 rcases h with (h | ⟨o,h⟩) | h
 ·exact .inl (.inl (e _ _ h))
 ·exact .inl (.inr ⟨o,e _ _ h⟩)
 ·exact .inr h
end L2
namespace My
open PySem PySem.Spec PyProof.Rows L2
abbrev St:=L2.St
theorem fH {H:Hp} {p:Addr} (h:H p=none) (o:HO):Same H (upd H p o):=fun b u q=>by rwa [cJ (jm q h)]
structure Df (K:PySem.W.Frag) (mg:Str→Option Value) (x:Str) (st:Stmt) (ps:List Str):Prop where
 ex:∃ (f:Addr) (fd:FuncData),Fun K x x st f fd∧Binds K fd ps []∧mg x=some (.ref f)
structure Has (P:Program) (w:World) (K:PySem.W.Frag) (mg:Str→Option Value) (base:Heap) (n:Nat) (x:Str) (ps:List Str) (sp:Sp):Prop where
 ex:∃ (f:Addr) (fd:FuncData),FnOk P w K mg base CX0 n f fd ps sp∧Binds K fd ps []∧PySem.W.keepIn K (.ref f)=true∧mg x=some (.ref f)
section
variable {P:Program} {w:World} {K:PySem.W.Frag} {mg:Str→Option Value} {base:Heap} {x:Str} {ps N:List Str} {sp:Sp} {st:Stmt} {k n:Nat}
theorem Has.mono (h:Has P w K mg base k x ps sp) (l:k ≤ n):Has P w K mg base n x ps sp:=by
 obtain ⟨f,fd,F,b,kp,m⟩:=h.ex;exact ⟨f,fd,F.mono l,b,kp,m⟩
end
section
variable {X:Cx} {x:Str} {ps:List Str} {sp:Sp} {n:Nat} {p pos:Pos} {e:Expr} {es:List Expr} {t:TA}
theorem J3 (h:Has X.prog X.w X.K X.mg X.base n x ps sp) (hr:Room n X.A) (ha:PA X (e :: es) t) (hg:Gl X x:=by rfl) (hdb:(x == ("__debug__" : Str))=false:=by decide)
 (he:starEach (e :: es) X.env=(false,eval e X.env) :: starEach es X.env:=by rfl) (hpl:(backTo pos (starEach es X.env)).any (·.1)=false:=by rfl) :
 PE X (.Call (.Name x p) (e :: es) [] pos) (QJ sp [] E0 t):=by
 obtain ⟨f,fd,F,b,kp,m⟩:=h.ex;exact Ni F hr hg m kp b .nil VJ ha hdb he hpl
end
mutual
inductive RdV (K:PySem.W.Frag) (H:Hp):V→PyData→Prop
 | non:RdV K H .non .none
 | bl (b:Bool):RdV K H (.bl b) (.bool b)
 | int (i:Int):RdV K H (.int i) (.int i)
 | str (x:Str):RdV K H (.str x) (.str x)
 | lst {a:Addr} {xs:List V} {ds:List PyData}:SqL K H a xs→RdVs K H xs ds→RdV K H (.ref a) (.list ds)
 | tup {a:Addr} {xs:List V} {ds:List PyData}:SqT K H a xs→RdVs K H xs ds→RdV K H (.ref a) (.tuple ds)
inductive RdVs (K:PySem.W.Frag) (H:Hp):List V→List PyData→Prop
 | nil:RdVs K H [] []
 | cons {v:V} {d:PyData} {vs:List V} {ds:List PyData}:RdV K H v d→RdVs K H vs ds→RdVs K H (v :: vs) (d :: ds)
end
section
variable {X:Cx} {pins:List (Addr × Obj)} {σ:St} {H:Hp} {s:Shared}
mutual
theorem RdV.reads (I:Inv X pins σ H s):∀ {v:V} {d:PyData},RdV X.K H v d→∀ {u:Value},RelV v u→∃ as,Reads s.heap u d as
 | _,_,.non,_,r=>by cases r;exact ⟨_,.none⟩
 | _,_,.bl b,_,r=>by cases r;exact ⟨_,.bool b⟩
 | _,_,.int i,_,r=>by obtain ⟨t,rfl⟩:=r;exact ⟨_,.int i t⟩
 | _,_,.str x,_,r=>by obtain ⟨t,rfl⟩:=r;exact ⟨_,.str x t⟩
 | _,_,.lst h q,_,r=>by
  cases r;obtain ⟨its,rv,⟨o,n,e,c,_,d⟩,_⟩:=I.list h;obtain ⟨as,z⟩:=RdVs.reads I q rv;exact ⟨_,.list e c d (by simpa using z)⟩
 | _,_,.tup h q,_,r=>by
  cases r;obtain ⟨its,rv,⟨o,e,c,n,d⟩,_⟩:=I.tuple h;obtain ⟨as,z⟩:=RdVs.reads I q rv;exact ⟨_,.tuple e c d (by simpa using z)⟩
theorem RdVs.reads (I:Inv X pins σ H s):∀ {vs:List V} {ds:List PyData},RdVs X.K H vs ds→∀ {us:List Value},Vals vs us→∃ as,ReadsAll s.heap us ds as
 | _,_,.nil,_,r=>by cases r;exact ⟨_,.nil⟩
 | _,_,.cons h q,_,r=>by
  cases r with
  | cons r1 r2 =>
   obtain ⟨as,z⟩:=RdV.reads I h r1;obtain ⟨bs,y⟩:=RdVs.reads I q r2;exact ⟨_,.cons z y⟩
end
end
section
variable {X:Cx}
noncomputable def VL (K:PySem.W.Frag):R2:=fun x y H Q=>∃ da db,RdV K H x da∧RdV K H y db∧SeqAt.shaped da=true∧SeqAt.shaped db=true∧Q (.bl (PyData.eqv da db)) H
noncomputable def VN (K:PySem.W.Frag):R2:=fun x y H Q=>∃ da db,RdV K H x da∧RdV K H y db∧SeqAt.shaped da=true∧SeqAt.shaped db=true∧Q (.bl (!PyData.eqv da db)) H
theorem gP (hu:X.A.units + 64 < cLine):OpR X (compareOp .Eq) (VL X.K):=by
 intro pins s σ H x y v u Q I rx ry h;obtain ⟨da,db,ha,hb,sa,sb,q⟩:=h;obtain ⟨as,za⟩:=ha.reads I rx;obtain ⟨bs,zb⟩:=hb.reads I ry;exact SeqAt.compareEq_shaped za zb sa sb hu ⟨.bl _,H,I,rfl,q⟩
theorem rD (hu:X.A.units + 64 < cLine):OpR X (compareOp .NotEq) (VN X.K):=by
 intro pins s σ H x y v u Q I rx ry h;obtain ⟨da,db,ha,hb,sa,sb,q⟩:=h;obtain ⟨as,za⟩:=ha.reads I rx;obtain ⟨bs,zb⟩:=hb.reads I ry;exact SeqAt.compareNe_shaped za zb sa sb hu ⟨.bl _,H,I,rfl,q⟩
end
def isT (c T:String):Bool:=T == c || (T == "bool" && c == "int")
section
variable {K:PySem.W.Frag}
theorem R9 (h:c = "int" ∨ c = "bool" ∨ c = "tuple" ∨ c = "list" ∨ c = "str") (g:T = "NoneType" ∨ T = "bool" ∨ T = "int" ∨ T = "str" ∨ T = "list" ∨ T = "tuple" ∨ T = "dict") :
 PySem.W.kitOne K (.type T) (.type c)=some (isT c T):=by
 rcases h with rfl | rfl | rfl | rfl | rfl <;> rcases g with rfl | rfl | rfl | rfl | rfl | rfl | rfl <;> kernel_rfl
end
section
variable {X:Cx}
end
theorem big {X:Cx} {pins:List (Addr × Obj)} {σ:St} {H:Hp} {s:Shared} (I:Inv X pins σ H s):sysModules < s.heap.objs.size:=by
 have h:=(I.mod.glob.keeps I.bk).lt;exact jQ (by decide) h
theorem wD {P:Program} {w:World} {H:Hp} (h:Heap) (hb:sysModules < h.objs.size):iz P w H (h.push { cls:=.type "dict", data:=.dict #[] }) h.objs.size (.dK []) :=
 ⟨iK _,beq_eq_false_iff_ne.mpr (Ne.symm (bW hb)),[],.nil,Heap.DictOf.new h⟩
def R_:TE:=fun _ H Q=>∀ p,H p=none→Q (.ref p) (upd H p (.dK []))
theorem J4 {X:Cx} {pos:Pos}:PE X (.Dict [] [] pos) R_:=fun pins s σ H Q I h =>
 wpAny_Dict_empty ⟨.ref s.heap.objs.size,_,I.laid (a:=s.heap.objs.size) (o:=.dK []) (t':=s.toks) (fun _ _ q=>ac _ q) (bB _) (wD s.heap (big I)),rfl,h _ (I.hok.fresh (bB _))⟩
end My
namespace My
open PySem PySem.Spec PyProof.Rows L2
section
variable {X:Cx} {a b c d:Expr} {ta tb tc td:TE} {pos:Pos}
noncomputable def Nu (r r' r'':R2) (ta tb tc td:TE):TE:=fun σ H Q=>ta σ H fun x H1=>tb σ H1 fun y H2=>r x y H2 fun z H3=>∃ k,z = .bl k ∧
 (if k=true then tc σ H3 fun w' H4=>r' y w' H4 fun z' H5=>∃ k',z' = .bl k'∧(if k'=true then td σ H5 fun v' H6=>r'' w' v' H6 Q else Q (.bl false) H5) else Q (.bl false) H3)
theorem HJ {op op' op'':CmpOp} {r r' r'':R2} (ho:OpR X (compareOp op) r) (ho':OpR X (compareOp op') r') (ho'':OpR X (compareOp op'') r'') (ha:PE X a ta) (hb:PE X b tb) (hc:PE X c tc) (hd:PE X d td)
 (hm:lastMarks [op,op',op''] [b,c,d]=false:=by with_unfolding_all rfl):PE X (.Compare a [op,op',op''] [b,c,d] pos) (Nu r r' r'' ta tb tc td):=by
 intro pins s σ H Q I h;refine Compare_chain (thn (ha pins s σ H _ I h) fun v s1 ⟨x,H1,I1,r1,q1⟩=>chain_link (thn (hb pins s1 σ H1 _ I1 q1) fun u s2 ⟨y,H2,I2,r2,q2⟩ =>
  thn (ho pins s2 σ H2 x y v u _ I2 r1 r2 q2) fun d s3 ⟨z,H3,I3,r3,k,e,q3⟩=>?_)) hm
 subst e
 cases r3;refine ai ?_
 cases k with
 | false=>exact ite_ff ⟨.bl false,H3,I3,rfl,q3⟩
 | true =>
  refine ite_tt (chain_link (thn (hc pins s3 σ H3 _ I3 q3) fun w' s4 ⟨z',H4,I4,r4,q4⟩=>thn (ho' pins s4 σ H4 y z' u w' _ I4 r2 r4 q4) fun d' s5 ⟨z2,H5,I5,r5,k2,e2,q5⟩=>?_));subst e2
  cases r5;refine ai ?_
  cases k2 with
  | false=>exact ite_ff ⟨.bl false,H5,I5,rfl,q5⟩
  | true=>exact ite_tt (chain_last (thn (hd pins s5 σ H5 _ I5 q5) fun w3 s6 ⟨z3,H6,I6,r6,q6⟩=>ho'' pins s6 σ H6 z' z3 w' w3 Q I6 r4 r6 q6))
end
structure Blt (mg:Str→Option Value):Prop where
 len_:mg "len" = none
 range_:mg "range" = none
 abs_:mg "abs" = none
 isinstance_:mg "isinstance" = none
 int_:mg "int" = none
 bool_:mg "bool" = none
 tuple_:mg "tuple" = none
 max_:mg "max" = none
 min_:mg "min" = none
end My
namespace My
open PySem PySem.Spec PyProof.Rows L2
abbrev cx (P:Program) (w:World) (K:PySem.W.Frag) (mg:Str→Option Value) (base:Heap) (N:List Str) (x:Str) (st:Stmt) (f:Addr) (cdv:Value) (A:Around) (outer:List Env) (s:Shared) (H:Hp) (E:XK):Cx :=
 (BJ CX0 P w K mg base N x (bA st) f cdv A outer s H E).nox
end My
namespace My
open PySem PySem.Spec PyProof.Rows L2
noncomputable def p8 (env:Env):List (Str × NameKind)→List (Str × Addr)→List (Str × Addr)
 | [],cs=>cs
 | (n,k) :: r,cs=>if (k == NameKind.free)=true then p8 env r ((n,(env.cells.lookup n).getD 0) :: cs) else p8 env r cs
theorem tu {env:Env}:∀ (l:List (Str × NameKind)) (cs:List (Str × Addr)),(∀ x ∈ l,x.2 = .free→∃ c,env.cells.lookup x.1=some c) →
 (forIn l cs fun (x:Str × NameKind) (r:List (Str × Addr))=>(if (x.2 == NameKind.free)=true then (do let c ← cellOf env x.1;pure (ForInStep.yield ((x.1,c) :: r))) else pure (ForInStep.yield r):Sem (ForInStep (List (Str × Addr)))))=pure (p8 env l cs)
 | [],_,_=>rfl
 | (n,k) :: r,cs,h=>by
  rw [List.forIn_cons];by_cases hk:(k == NameKind.free)=true
  ·obtain ⟨c,hc⟩:=h (n,k) aK (beq_iff_eq.mp hk);have hc':cellOf env n=pure c:=by
    unfold cellOf;rw [show env.cells.lookup n=some c from hc]
   rw [if_pos hk,hc'];have ih:=tu r ((n,c) :: cs) fun x hx=>h x (aM _ hx)
   rwa [p8,if_pos hk,show env.cells.lookup n=some c from hc]
  ·rw [if_neg hk];have ih:=tu r cs fun x hx=>h x (aM _ hx)
   rwa [p8,if_neg hk]
theorem DY {env:Env} {scope:Scope} (h:∀ x ∈ scope.names,x.2 = .free→∃ c,env.cells.lookup x.1=some c):closureFor scope env=pure (p8 env scope.names []):=by
 have z:=tu (env:=env) scope.names [] h;show (forIn scope.names [] fun (x:Str × NameKind) (r:List (Str × Addr))=>(if (x.2 == NameKind.free)=true then (do let c ← cellOf env x.1;pure (ForInStep.yield ((x.1,c) :: r))) else pure (ForInStep.yield r):Sem (ForInStep (List (Str × Addr))))) >>= (fun cs=>pure cs)=_;rw [z];rfl
theorem wF {env:Env}:∀ (l:List (Str × NameKind)) (cs:List (Str × Addr)),(∀ x ∈ l,x.2 = .free→∃ c,env.cells.lookup x.1=some c)→(∀ x c,cs.lookup x=some c→env.cells.lookup x=some c) →
 ∀ x c,(p8 env l cs).lookup x=some c→env.cells.lookup x=some c
 | [],_,_,hc,x,c,e=>hc x c e
 | (n,k) :: r,cs,h,hc,x,c,e=>by
  rw [p8] at e;by_cases hk:(k == NameKind.free)=true
  ·rw [if_pos hk] at e;obtain ⟨d,hd⟩:=h (n,k) aK (beq_iff_eq.mp hk);refine wF r _ (fun x hx=>h x (aM _ hx)) (fun y c' e'=>?_) x c e;rw [dI] at e'
   cases hy:y == n with
   | true =>
    rw [hy] at e';have:y=n:=beq_iff_eq.mp hy;subst this;rw [show env.cells.lookup y=some d from hd] at e' ⊢;exact e'
   | false =>
    rw [hy] at e';exact hc y c' e'
  ·rw [if_neg hk] at e;exact wF r cs (fun x hx=>h x (aM _ hx)) hc x c e
theorem rE {env:Env}:∀ (l:List (Str × NameKind)) (cs:List (Str × Addr)) (x:Str),((x,NameKind.free) ∈ l∨∃ c,cs.lookup x=some c)→∃ c,(p8 env l cs).lookup x=some c
 | [],_,x,h=>by
  rcases h with h | h
  ·exact absurd h (by simp)
  ·exact h
 | (n,k) :: r,cs,x,h=>by
  rw [p8];by_cases hk:(k == NameKind.free)=true
  ·rw [if_pos hk];refine rE r _ x ?_;by_cases e:x=n
   ·subst e;exact .inr ⟨_,by rw [dI,beq_self_eq_true]⟩
   ·rcases h with h | ⟨c,h⟩
    ·rcases aY.mp h with h | h
     ·exact absurd (congrArg Prod.fst h) e
     ·exact .inl h
    ·exact .inr ⟨c,by rwa [dI,beq_eq_false_iff_ne.mpr e]⟩
  ·rw [if_neg hk];refine rE r cs x ?_;rcases h with h | h
   ·rcases aY.mp h with h | h
    ·have:k = .free:=(congrArg Prod.snd h).symm;subst this;exact absurd rfl hk
    ·exact .inl h
   ·exact .inr h
noncomputable abbrev blk (X:Cx) (N':List Str) (scope:Scope) (cl:List (Str × Addr)) (C:Addr) (s3:Shared) (H3:Hp) (fp:List Addr):Cx :=
 { X with N:=N',s₀:=s3,H₀:=H3,env:=compEnvC scope cl C X.env,outer:=X.stack,ex:=fp,fn:=fun _=>false,xe:=fun _ _=>False }
noncomputable def vJ (N:List Str) (kinds sn:List (Str × NameKind)):List Str→List Nat→Bool
 | [],[]=>true
 | x :: V,j :: ix=>(N[j]? == some x) && ((kinds.lookup x == some NameKind.cell) && ((sn.lookup x == some NameKind.free) && vJ N kinds sn V ix))
 | _,_=>false
def yu (t:Nat) (ix:List Nat) (σ:St):St:=bO t none++ix.map fun j=>(σ[j]?).getD none
theorem wG {N:List Str} {kinds sn:List (Str × NameKind)}:∀ {V:List Str} {ix:List Nat},vJ N kinds sn V ix=true→ix.length=V.length∧∀ (k:Nat) (x:Str),V[k]? = some x→∃ j,ix[k]? = some j∧N[j]? = some x∧kinds.lookup x=some .cell∧sn.lookup x=some .free
 | [],[],_=>⟨rfl,fun k x h=>by simp at h⟩
 | x :: V,j :: ix,h=>by
  rw [vJ,aW,aW,aW] at h;obtain ⟨h1,h2,h3,h4⟩:=h;obtain ⟨l,r⟩:=wG h4;refine ⟨by simp [l],fun k y hy=>?_⟩
  cases k with
  | zero =>
   simp at hy;subst hy;exact ⟨j,rfl,beq_iff_eq.mp h1,beq_iff_eq.mp h2,beq_iff_eq.mp h3⟩
  | succ k=>exact r k y (by simpa using hy)
 | [],_ :: _,h=>by simp [vJ] at h
 | _ :: _,[],h=>by simp [vJ] at h
theorem tU {env:Env} (hf:env.scope.kind = .function):∀ {names:List (Str × NameKind)} {x:Str},names.lookup x=some .free→env.kindOf x=some .cell →
 (names.map fun (n,k)=>if (k == NameKind.free && env.scope.kind == .function && env.kindOf n == some .cell) then (n,NameKind.cell) else (n,k)).lookup x=some .cell
 | [],_,h,_=>by simp at h
 | (n,k) :: r,x,h,hc=>by
  have ih:=@tU env hf r x;show vd x ((if (k == NameKind.free && env.scope.kind == .function && env.kindOf n == some .cell)=true then (n,NameKind.cell) else (n,k)) :: _)=_
  cases hx:x == n with
  | true =>
   have e:=beq_iff_eq.mp hx;subst e;simp only [dI,hx] at h
   cases h;rw [if_pos (by rw [hf,hc];rfl)];simp [dI]
  | false =>
   simp only [dI,hx] at h;by_cases hq:(k == NameKind.free && env.scope.kind == .function && env.kindOf n == some .cell)=true
   ·rw [if_pos hq];simp only [dI,hx];exact ih h hc
   ·rw [if_neg hq];simp only [dI,hx];exact ih h hc
theorem qb {env:Env}:∀ {names:List (Str × NameKind)} {x:Str} {k:NameKind},(∀ y ∈ names,y.2 ≠ .cell)→(k = .cell∨k = .free) →
 (names.map fun (n,k)=>if (k == NameKind.free && env.scope.kind == .function && env.kindOf n == some .cell) then (n,NameKind.cell) else (n,k)).lookup x=some k→(x,NameKind.free) ∈ names
 | [],_,_,_,_,h=>by simp at h
 | (n,k') :: r,x,k,hc,hk,h=>by
  have ih:=@qb env r x k (fun y hy=>hc y (aM _ hy)) hk;have h':vd x ((if (k' == NameKind.free && env.scope.kind == .function && env.kindOf n == some .cell)=true then (n,NameKind.cell) else (n,k')) :: (r.map fun (n,k)=>if (k == NameKind.free && env.scope.kind == .function && env.kindOf n == some .cell) then (n,NameKind.cell) else (n,k)))=some k:=h;by_cases hq:(k' == NameKind.free && env.scope.kind == .function && env.kindOf n == some .cell)=true
  ·rw [if_pos hq] at h';have kf:k' = .free:=by
    rw [aW,aW] at hq;exact beq_iff_eq.mp hq.1.1
   cases hx:x == n with
   | true =>
    have e:=beq_iff_eq.mp hx;subst e;subst kf;exact aK
   | false =>
    simp only [dI,hx] at h';exact aM _ (ih h')
  ·rw [if_neg hq] at h'
   cases hx:x == n with
   | true =>
    have e:=beq_iff_eq.mp hx;subst e;simp only [dI,hx] at h'
    cases h';rcases hk with hk | hk
    ·exact absurd hk (hc _ aK)
    ·subst hk;exact aK
   | false =>
    simp only [dI,hx] at h';exact aM _ (ih h')
section
variable {X:Cx} {pins:List (Addr × Obj)} {σ:St} {H:Hp} {s:Shared}
theorem Inv.forget {σ':St} (I:Inv X pins σ H s) (hl:σ'.length=X.N.length) (h:∀ (i:Nat) (v:V),σ'[i]? = some (some v)→σ[i]? = some (some v)):Inv X pins σ' H s:=by
 obtain ⟨m,hn,hx⟩:=I.loc;exact ⟨I.ok,I.os,I.bare,I.base,⟨m,hn,fun i x v e1 e2 e3=>hx i x v e1 (h i v e2) e3⟩,I.cell,I.free,I.freeC,I.pin,I.hok,hl⟩
end
end My
namespace My
open PySem PySem.Spec PyProof.Rows L2
theorem BW {prog:Program} {w:World} {A:Around} {R:Result→Shared→Prop} {elt target iter:Expr} {ifs:List Expr} {scope:Scope} {pos:Pos} {it acc:Value} {env:Env} {s:Shared} (I:Nat→Shared→Prop)
 (turn:∀ n s,I n s→wpAny (model prog w) A (pyNext it) (fun r s₁=>match r with
  | none=>R (.ok .next) s₁
  | some v=>wpAny (model prog w) A (letOwnedTupleGo target it v) (fun _ s₁'=>wpAny (model prog w) A (assign target env v) (fun _ s₂ =>
   wpAny (model prog w) A (forIn ifs true fun c r=>if r=true then do let ok ← isTrue c env (eval c env);pure (ForInStep.yield ok) else pure (ForInStep.yield r)) (fun ok s₃ =>
    if ok=true then wpAny (model prog w) A (eval elt env) (fun x s₄ =>
     wpAny (model prog w) A (call (.builtin "list.append") [acc,x]) (fun _ s₅=>∃ m,m < n∧I m s₅) (fun _ _=>False) s₄) (fun _ _=>False) s₃
    else ∃ m,m < n∧I m s₃) (fun _ _=>False) s₂) (fun _ _=>False) s₁') (fun _ _=>False) s₁) (fun _ _=>False) s)
 (n:Nat) (h:I n s) :
 codeAny (model prog w) A (.compLoop (.ListComp elt [⟨target,iter,ifs,0⟩] scope pos) 0 it acc env) R s:=by
 refine codeAny_loop rfl I (fun n s hI=>?_) n h;refine wpAny_noted ?_;rw [compTurn_list];refine ae (a9 (ae (av (turn n s hI) (fun r s₁ h₁=>?_) fun _ _ h'=>h'.elim)))
 cases r with
 | none=>exact ah h₁
 | some v =>
  refine ae (av h₁ (fun _ s₁' h₁'=>?_) fun _ _ h'=>h'.elim);refine ae (av h₁' (fun _ s₂ h₂=>ae (av h₂ (fun ok s₃ h₃=>?_) fun _ _ h'=>h'.elim)) fun _ _ h'=>h'.elim)
  cases ok with
  | false=>exact ah ⟨rfl,h₃⟩
  | true =>
   exact ae (ae (av h₃ (fun x s₄ h₄=>ae (av h₄ (fun _ s₅ h₅=>ah (ah ⟨rfl,h₅⟩)) fun _ _ h'=>h'.elim)) fun _ _ h'=>h'.elim))
section
variable {X:Cx} {pins:List (Addr × Obj)} {σ:St} {H:Hp}
theorem HN {T V:List Str} {ix:List Nat} {scope:Scope} {s3:Shared} {fp:List Addr} {h₁:Heap} {tk:Nat} {m:Str→Option Value}
 (I:Inv X pins σ H s3) (hf:∀ b ∈ fp,uE X pins H b) (ho:∀ b ∈ fp,∃ o,s3.heap.get? b=some o)
 (hk:scope.kind = .function) (hcell:∀ y ∈ scope.names,y.2 ≠ .cell) (hfr:∀ x ∈ scope.names,x.2 = .free→x.1 ∈ V) (hB:vJ X.N X.env.scope.names scope.names V ix=true)
 (hns:h₁.Ns s3.heap.objs.size m) (keep:∀ b o,s3.heap.get? b=some o→h₁.get? b=some o) :
 Inv (blk X (T++V) scope (p8 X.env scope.names []) s3.heap.objs.size s3 H fp) pins (yu T.length ix σ) H { s3 with heap:=h₁,toks:=tk }:=by
 obtain ⟨lV,capV⟩:=wG hB;have hcl:∀ x ∈ scope.names,x.2 = .free→∃ c,X.env.cells.lookup x.1=some c:=fun x hx e=>by
  obtain ⟨k,ek⟩:=q_ (hfr x hx e);obtain ⟨j,_,_,hc,_⟩:=capV k _ ek;exact I.ok.has _ (.inl hc)
 have sub:=wF (env:=X.env) scope.names [] hcl (fun x c e=>by simp at e);have stkSub:=fun b z=>aY.mp (I.stkSub b z)
 have lt:∀ b o,s3.heap.get? b=some o→b ≠ s3.heap.objs.size:=fun b o e=>bW (aa e)
 have cellK:∀ c v,s3.heap.IsCell c v→h₁.IsCell c v:=fun c v ⟨o,e,d⟩=>⟨o,keep c o e,d⟩
 refine ⟨⟨I.ok.mod,hk,I.ok.glob,I.ok.blt,bB _,fun x y c e1 e2=>I.ok.inj x y c (sub x c e1) (sub y c e2),fun x hx=>?_,fun x c hx=>?_,I.ok.hd,I.ok.frames,.inl rfl,fun b hb=>⟨?_,fun x c e=>?_⟩,I.bs,bY I.ok.bsz I.sz,fun b o e hb=>?_,fun b hb z=>?_,I.stack,I.stkFree⟩,
  rfl,I.bare,Un.kept keep,⟨m,hns,fun i x v e1 e2 e3=>?_⟩,fun x c e=>?_,I.hok.fresh (bB _),fun x c e=>I.freeC x c (sub x c e),fun p hp=>?_,I.hok.kept keep,?_⟩
 ·rcases hx with hx | hx
  ·exact rE _ _ x (.inl (qb hcell (.inl rfl) hx))
  ·exact rE _ _ x (.inl (qb hcell (.inr rfl) hx))
 ·exact absurd hx (by simp)
 ·obtain ⟨o,e⟩:=ho b hb;exact lt b o e
 ·exact (hf b hb).2.2.2.2.1 x c (sub x c e)
 ·rcases (hf b hb).2.2.2.1 with z | z
  ·exact I.ok.noex b o e z
  ·exact absurd (bV (aa e) (bY I.ok.bsz z)) (iY _)
 ·rcases stkSub b z with z | z
  ·exact (hf b hb).2.1 z
  ·exact (hf b hb).2.2.1 z
 ·by_cases hi:i < T.length
  ·have e2':(bO T.length none++ix.map fun j=>(σ[j]?).getD none)[i]? = some (some v):=e2;rw [dw (by rwa [cG]),gF,if_pos hi] at e2';exact absurd e2' (by simp)
  ·have e1':(T++V)[i]? = some x:=e1;rw [cO (by omega)] at e1';obtain ⟨j,hj,hN,hc,hfree⟩:=capV _ x e1';have e2':(bO T.length none++ix.map fun j=>(σ[j]?).getD none)[i]? = some (some v):=e2;rw [cO (by rw [cG];omega),cG,aP,hj] at e2';have e2'':(σ[j]?).getD none=some v:=by simpa using e2'
   have e3':σ[j]? = some (some v):=by
    cases q:σ[j]? with
    | none=>rw [q] at e2'';exact absurd e2'' (by simp)
    | some o=>rw [q] at e2'';simp at e2'';rw [e2'']
   obtain ⟨m0,hn0,hl⟩:=I.loc;obtain ⟨u,r,l⟩:=hl j x v hN e3' (.inr (.inl hc));rcases l with ⟨z,_⟩ | ⟨_,c,ec,hcell'⟩
   ·have z':X.env.scope.names.lookup x=some .local:=z;rw [hc] at z';exact absurd z' (by simp)
   ·obtain ⟨c',ec'⟩:=rE (env:=X.env) scope.names [] x (.inl (PySem.mem_of_lookup hfree));have:c'=c:=by
     have q:=sub x c' ec';rw [ec] at q;exact (cM.inj q).symm
    subst this;exact ⟨u,r,.inr ⟨.inl (tU I.ok.kind hfree hc),c',ec',cellK _ _ hcell'⟩⟩
 ·obtain ⟨v,z⟩:=I.cell x c (sub x c e);exact ⟨v,cellK c v z⟩
 ·obtain ⟨e,n,ne,nf,d⟩:=I.pin p hp;refine ⟨keep _ _ e,n,lt _ _ e,fun z=>?_,d⟩;rcases stkSub p.1 z with z | z
  ·exact ne z
  ·exact nf z
 ·show (bO T.length none++ix.map fun j=>(σ[j]?).getD none).length=(T++V).length;rw [bL,cG,aD,bL,lV]
theorem J5 {N':List Str} {scope:Scope} {cl:List (Str × Addr)} {pins':List (Addr × Obj)} {σ':St} {H3 H':Hp} {s3 s':Shared} {fp:List Addr} (I3:Inv X pins σ H3 s3) (hf:∀ b ∈ fp,uE X pins H3 b)
 (I':Inv (blk X N' scope cl s3.heap.objs.size s3 H3 fp) pins' σ' H' s'):Inv X pins σ H' s'∧uE X pins H' s3.heap.objs.size:=by
 have fr:=I'.free;refine ⟨?_,I3.fpOk (bB _) fr⟩;have os:=I'.os;have u:=I'.base;have ho:=I'.hok;have hb:=I'.bare;obtain ⟨hh,g,d,t,os'⟩:=s';obtain rfl:os'=s3.os:=os;exact I3.call (h':=hh) (g':=g) (d':=d) (t':=t) (ch:=fp) u ho hb fun b hb'=>⟨(hf b hb').2.2.2.1,(hf b hb').2.1,(hf b hb').2.2.2.2.1,(hf b hb').2.2.2.2.2⟩
end
def PTs (X:Cx) (ifs:List Expr) (t:TT):Prop :=
 ∀ (pins:List (Addr × Obj)) (s:Shared) (σ:St) (H:Hp) (Q:Bool→Hp→Prop),Inv X pins σ H s→t σ H Q →
  wpAny (model X.prog X.w) X.A (forIn ifs true fun c r=>if r=true then do let ok ← isTrue c X.env (eval c X.env);pure (ForInStep.yield ok) else pure (ForInStep.yield r)) (TP X pins σ Q) X.xe s
def kJ:TT:=fun _ H Q=>Q true H
theorem Nv {X:Cx}:PTs X [] kJ:=fun _ _ _ H _ I h=>wpAny_tests_nil ⟨H,I,h⟩
theorem jq {X:Cx} {c:Expr} {t:TT} (h:PT X c t):PTs X [c] t:=fun pins s σ H Q I q=>wpAny_tests_one (h pins s σ H Q I q)
def Gg (wi:TI) (g:TG) (tt:TT) (te:TE) (t:Nat) (cap:St→St):TE:=fun σ H Q=>wi σ H fun J H1=>∀ D,H1 D=none→∃ W:Nat→Nat→List V→Hp→Prop,(∃ m,W 0 m [] (upd H1 D (.lst []))) ∧
 ∀ i m xs H2,W i m xs H2→H2 D=some (.lst xs)∧((J.stop i H2∧Q (.ref D) H2)∨(J.go i H2∧xs.length < sizeLine∧∀ x H3,J.yld i H2 x H3→g x (cap σ) H3 fun σ4 H4=>σ4.drop t=(cap σ).drop t ∧
  tt σ4 H4 fun b H5=>if b=true then te σ4 H5 fun v H6=>H6 D=some (.lst xs)∧∃ m',m' < m∧W (i + 1) m' (xs++[v]) (upd H6 D (.lst (xs++[v]))) else ∃ m',m' < m∧W (i + 1) m' xs H5))
section
variable {X:Cx} {elt tg iter:Expr} {ifs:List Expr} {scope:Scope} {pos:Pos} {T V:List Str} {ix:List Nat} {wi:TI} {g:TG} {tt:TT} {te:TE}
theorem yZ (hc:X.calm=true) (hi:PI X tg iter wi)
 (hg:∀ cl C s3 H3 fp,PG (blk X (T++V) scope cl C s3 H3 fp) tg g) (ht:∀ cl C s3 H3 fp,PTs (blk X (T++V) scope cl C s3 H3 fp) ifs tt) (he:∀ cl C s3 H3 fp,PE (blk X (T++V) scope cl C s3 H3 fp) elt te)
 (hB:vJ X.N X.env.scope.names scope.names V ix=true) (hk:scope.kind = .function) (hcell:∀ y ∈ scope.names,y.2 ≠ .cell) (hnames:∀ x ∈ scope.names,x.2 = .local→scope.names.lookup x.1=some .local)
 (hfr:∀ x ∈ scope.names,x.2 = .free→x.1 ∈ V) (hs:∀ x,foldedSetIterable iter X.env x=pure x) {p:Pos}
 {pins:List (Addr × Obj)} {s:Shared} {σ:St} {H:Hp} (I:Inv X pins σ H s) {use:Option (Value→Sem Unit)} {Qp:Value→Shared→Prop} {Qv:VK} (h:Gg wi g tt te T.length (yu T.length ix) σ H Qv)
 (fin:∀ (D C:Addr) (H':Hp) (s':Shared) (m:Str→Option Value),Inv X pins σ H' s'→uE X pins H' C→s'.heap.Ns C m→Qv (.ref D) H'→compPost (model X.prog X.w) X.A X.xe use Qp (.ref D) C (.ok .next) s') :
 wpAny (model X.prog X.w) X.A (comprehension (.ListComp elt [⟨tg,iter,ifs,0⟩] scope pos) scope X.env p (newList []) false (eval iter X.env) use) Qp X.xe s:=by
 obtain ⟨lV,capV⟩:=wG hB;have hcl:∀ x ∈ scope.names,x.2 = .free→∃ c,X.env.cells.lookup x.1=some c:=fun x hx e=>by
  obtain ⟨k,ek⟩:=q_ (hfr x hx e);obtain ⟨j,_,_,hc',_⟩:=capV k _ ek;exact I.ok.has _ (.inl hc')
 refine wpAny_comprehension_free rfl hs (DY hcl) hk hnames ?_;refine thn (hi pins s σ H _ I h) fun v s1 h1=>thn h1 fun itv s2 h2=>?_
 obtain ⟨it,fp,tn,J,H2,e,I2,Tn,st2,f2,R⟩:=h2;subst e;refine wpAny_newObj_type (hd:=by size_fits) ?_;have hD:=I2.hok.fresh (bB _);have I3:Inv X pins σ (upd H2 s2.heap.objs.size (.lst [])) { s2 with heap:=s2.heap.push { cls:=.type "list", dict:=none,data:=.seq ([]:List Value).toArray } } :=
  I2.laid (t':=s2.toks) (fun b o e=>ac _ e) (bB _) ⟨iK _,[],0,.nil,af _ rfl⟩
 obtain ⟨W,⟨m0,w0⟩,turn⟩:=R s2.heap.objs.size hD;generalize hs3:({ s2 with heap:=s2.heap.push { cls:=.type "list", dict:=none,data:=.seq ([]:List Value).toArray } }:Shared)=s3 at I3 ⊢;have st3:tn 0 s3.heap:=by
  rw [← hs3];exact Tn.keep 0 s2.heap _ st2 fun b hb o e=>ac _ e
 have f3:∀ b ∈ fp,uE X pins (upd H2 s2.heap.objs.size (.lst [])) b:=fun b hb=>by
  obtain ⟨z0,z1⟩:=f2 b hb;refine ⟨?_,z1⟩;obtain ⟨o,eo,_⟩:=Tn.obj 0 _ st2 b hb;rwa [cJ (bW (aa eo))]
 generalize hH3:upd H2 s2.heap.objs.size (.lst [])=H3 at I3 f3 w0;generalize hDn:s2.heap.objs.size=D at turn;refine wpAny_newFunctionEnv hcell (by intro y hy;simp at hy) (fun h₁ hns₁ hsb₁=>?_) hk;have keep:=fun b o e=>hsb₁.extBut b o (bW (aa e)) (ac _ e)
 have I4:=HN (T:=T) (tk:=s3.toks + ([]:List (Str × Value)).length) I3 f3 (fun b hb=>let ⟨o,eo,_⟩:=Tn.obj 0 _ st3 b hb;⟨o,eo⟩) hk hcell hfr hB hns₁ keep;have st4:=Tn.keep 0 _ _ st3 fun b hb o e=>keep b o e
 have loop:codeAny (model X.prog X.w) X.A (.compLoop (.ListComp elt [⟨tg,iter,ifs,0⟩] scope pos) 0 (.ref it) (.ref D) (compEnvC scope (p8 X.env scope.names []) s3.heap.objs.size X.env))
  (compPost (model X.prog X.w) X.A X.xe use Qp (.ref D) s3.heap.objs.size) { s3 with heap:=h₁,toks:=s3.toks + ([]:List (Str × Value)).length }:=by
  refine BW (fun n s'=>∃ i xs H',Inv (blk X (T++V) scope (p8 X.env scope.names []) s3.heap.objs.size s3 H3 fp) pins (yu T.length ix σ) H' s'∧tn i s'.heap∧(∀ b ∈ fp,H' b=none)∧W i n xs H') ?_ m0
   ⟨0,[],H3,I4,st4,fun b hb=>(f3 b hb).1,w0⟩
  rintro n s5 ⟨i,xs,H5,I5,st5,fr5,w5⟩;have stat:∀ {H':Hp} {pins':List (Addr × Obj)} {σ':St} {s':Shared},Inv (blk X (T++V) scope (p8 X.env scope.names []) s3.heap.objs.size s3 H3 fp) pins σ' H' s'→(∀ b ∈ fp,H' b=none)→∀ b ∈ fp,uE (blk X (T++V) scope (p8 X.env scope.names []) s3.heap.objs.size s3 H3 fp) pins H' b:=fun I' hn b hb=>by
   obtain ⟨x1,x2⟩:=I'.ok.exf b hb;refine ⟨hn b hb,x1,I'.ok.exfs b hb,.inl hb,x2,fun q hq=>?_⟩;exact (f3 b hb).2.2.2.2.2 q hq
  obtain ⟨hD5,r5⟩:=turn i n xs H5 w5;rcases r5 with ⟨stop,q⟩ | ⟨go,hz,step⟩
  ·refine thn (Tn.done (blk X (T++V) scope (p8 X.env scope.names []) s3.heap.objs.size s3 H3 fp) rfl rfl rfl hc i pins s5 _ H5 _ I5 (stat (pins':=pins) I5 fr5) st5 stop) fun r s6 ⟨hr,I6⟩=>?_
   subst hr;obtain ⟨Ib,fC⟩:=J5 I3 f3 I6;obtain ⟨m,hn,_⟩:=I6.loc;exact fin D _ H5 s6 m Ib fC hn q
  ·refine thn (Tn.item (blk X (T++V) scope (p8 X.env scope.names []) s3.heap.objs.size s3 H3 fp) rfl rfl rfl hc i pins s5 _ H5 _ I5 (stat (pins':=pins) I5 fr5) st5 go) fun r s6 ⟨u,hr,h6⟩=>?_
   subst hr;refine thn h6 fun _ s7 ⟨x,H7,I7,rx,y7,st7,fr7⟩=>?_
   have I7':=I7.pinned (stat (pins':=pins) I7 fr7) (Tn.obj _ _ st7);refine thn (hg _ _ _ _ _ _ s7 _ H7 x u _ I7' rx (step x H7 y7)) fun _ s8 ⟨σ8,H8,I8,k8,q8⟩=>?_
   have again:∀ {H9:Hp} {s9:Shared},Inv (blk X (T++V) scope (p8 X.env scope.names []) s3.heap.objs.size s3 H3 fp) (pins++wA fp s7.heap) σ8 H9 s9 →
    Inv (blk X (T++V) scope (p8 X.env scope.names []) s3.heap.objs.size s3 H3 fp) pins (yu T.length ix σ) H9 s9∧tn (i + 1) s9.heap∧∀ b ∈ fp,H9 b=none:=fun {H9 s9} I9=>by
    refine ⟨Inv.forget I9.unpinned I4.len fun j v e=>?_,Tn.keep _ _ _ st7 fun b hb o e=>(I9.pin (b,o) (aU _ (aU _ (p7 hb e)))).1,fun b hb=>?_⟩
    ·by_cases hj:j < T.length
     ·have e':(bO T.length none++ix.map fun j=>(σ[j]?).getD none)[j]? = some (some v):=e;rw [dw (by rwa [cG]),gF,if_pos hj] at e';exact absurd e' (by simp)
     ·have ej:j=T.length + (j - T.length):=by omega
      rw [ej,← nO] at e ⊢;rwa [k8]
    ·obtain ⟨o,e,d⟩:=Tn.obj _ _ st7 b hb;exact (I9.pin (b,o) (aU _ (aU _ (p7 hb e)))).2.1
   refine thn (ht _ _ _ _ _ _ s8 σ8 H8 _ I8 q8) fun ok s9 ⟨H9,I9,q9⟩=>?_
   cases ok with
   | false =>
    obtain ⟨m',lm,w9⟩:=q9;obtain ⟨a1,a2,a3⟩:=again I9;exact ⟨m',lm,i + 1,xs,H9,a1,a2,a3,w9⟩
   | true =>
    refine thn (he _ _ _ _ _ _ s9 σ8 H9 _ I9 q9) fun y s10 ⟨v,H10,I10,ry,hD10,m',lm,w10⟩=>?_
    refine thn (yX _ s10 σ8 H10 (.ref D) [v] (.ref D) [y] (fun _ Hn=>Hn=upd H10 D (.lst (xs++[v]))) I10 rfl (.cons ry .nil) ⟨D,xs,v,rfl,rfl,hD10,hz,rfl⟩) fun _ s11 ⟨_,H11,I11,_,e11⟩=>?_
    subst e11;obtain ⟨a1,a2,a3⟩:=again I11;exact ⟨m',lm,i + 1,_,_,a1,a2,a3,w10⟩
 exact codeAny_compStart_list loop (Tn.self _ 0 _ _ _ st4 loop)
theorem Nx (hc:X.calm=true) (T V:List Str) (ix:List Nat) (hi:PI X tg iter wi)
 (hg:∀ cl C s3 H3 fp,PG (blk X (T++V) scope cl C s3 H3 fp) tg g) (ht:∀ cl C s3 H3 fp,PTs (blk X (T++V) scope cl C s3 H3 fp) ifs tt) (he:∀ cl C s3 H3 fp,PE (blk X (T++V) scope cl C s3 H3 fp) elt te)
 (hB:vJ X.N X.env.scope.names scope.names V ix=true:=by rfl) (hk:scope.kind = .function:=by rfl) (hcell:∀ y ∈ scope.names,y.2 ≠ .cell:=by decide +kernel)
 (hnames:∀ x ∈ scope.names,x.2 = .local→scope.names.lookup x.1=some .local:=by decide +kernel)
 (hfr:∀ x ∈ scope.names,x.2 = .free→x.1 ∈ V:=by decide +kernel) (hs:∀ x,foldedSetIterable iter X.env x=pure x:=by intro _;rfl) :
 PE X (.ListComp elt [⟨tg,iter,ifs,0⟩] scope pos) (Gg wi g tt te T.length (yu T.length ix)):=by
 intro pins s σ H Q I h;rw [eval_ListComp];refine yZ (use:=none) hc hi hg ht he hB hk hcell hnames hfr hs I h fun D C H' s' m I' fC hn q=>⟨m,hn,fun h' sb=>⟨.ref D,H',?_,rfl,q⟩⟩
 obtain ⟨z0,z1,z2,z3,z4,z5⟩:=fC;exact I'.turned (t':=s'.toks) (fun b o hb e=>sb.extBut b o hb e) z0 z1 z3 z4 z5
theorem Gi {i:Nat} {x:Str} {pos' spos:Pos} (hN:X.N.Nodup) (hi':X.N[i]? = some x) (hx:X.env.scope.names.lookup x=some .local) (hc:X.calm=true) (T V:List Str) (ix:List Nat) (hi:PI X tg iter wi)
 (hg:∀ cl C s3 H3 fp,PG (blk X (T++V) scope cl C s3 H3 fp) tg g) (ht:∀ cl C s3 H3 fp,PTs (blk X (T++V) scope cl C s3 H3 fp) ifs tt) (he:∀ cl C s3 H3 fp,PE (blk X (T++V) scope cl C s3 H3 fp) elt te)
 (hsw:swapsWith (.ListComp elt [⟨tg,iter,ifs,0⟩] scope pos) (some (.Name x pos')) spos.line X.env=pure true:=by rfl)
 (hB:vJ X.N X.env.scope.names scope.names V ix=true:=by rfl) (hk:scope.kind = .function:=by rfl) (hcell:∀ y ∈ scope.names,y.2 ≠ .cell:=by decide +kernel)
 (hnames:∀ x ∈ scope.names,x.2 = .local→scope.names.lookup x.1=some .local:=by decide +kernel)
 (hfr:∀ x ∈ scope.names,x.2 = .free→x.1 ∈ V:=by decide +kernel) (hs:∀ x,foldedSetIterable iter X.env x=pure x:=by intro _;rfl) :
 PS X (.Assign [.Name x pos'] (.ListComp elt [⟨tg,iter,ifs,0⟩] scope pos) spos) (RJ (Gg wi g tt te T.length (yu T.length ix)) (JF i)):=by
 intro pins s σ H D I h;rw [exec_Assign_Name_used _ _ _ _ hsw];refine ae (a9 (ae ?_));refine ae (av (yZ (use:=some (assign (.Name x pos') X.env)) (Qp:=fun _ s'=>SP X pins D .next s') hc hi hg ht he hB hk hcell hnames hfr hs I h fun A' C H' s' m I' fC hn q=>?_) (fun _ s' hq=>ah (ah hq)) fun _ _ e=>e);obtain ⟨z0,z1,z2,z3,z4,z5⟩:=fC;refine wpAny_assign_Name (yP I' hN hi' (.inl hx) (v:=.ref A') rfl (fun s'' I'' ⟨a,sb,ha⟩=>⟨m,hn.sameBut sb ?_,fun h' sb'=>⟨_,H',?_,q⟩⟩) (.inr hx))
 ·rcases ha with ha | ha
  ·rwa [ha]
  ·exact Ne.symm (z4 x a ha)
 ·exact I''.turned (t':=s''.toks) (fun b o hb e=>sb'.extBut b o hb e) z0 z1 z3 z4 z5
end
section
variable {X:Cx} {K:PySem.W.Frag}
end
end My
namespace D3
open PySem
theorem ex2 {α β:Type _} {A B C:α→β→Prop} {G:Prop} (h:∃ a b,A a b∧B a b∧C a b) (k:∀ a b,A a b→B a b→C a b→G):G:=h.elim fun a h=>h.elim fun b z=>k a b z.1 z.2.1 z.2.2
theorem ex1 {α:Type _} {A B:α→Prop} {G:Prop} (h:∃ a,A a∧B a) (k:∀ a,A a→B a→G):G:=h.elim fun a z=>k a z.1 z.2
theorem ex4 {α β γ ε:Type _} {A B C:α→β→γ→ε→Prop} {G:Prop} (h:∃ a b c d,A a b c d∧B a b c d∧C a b c d) (k:∀ a b c d,A a b c d→B a b c d→C a b c d→G):G:=h.elim fun a h=>h.elim fun b h=>h.elim fun c h=>h.elim fun d z=>k a b c d z.1 z.2.1 z.2.2
abbrev D:=PyData
inductive U where
 | d (x:D)
 | x (c f:Str) (v:D)
noncomputable abbrev DS:=List (Option U)
inductive Oc where
 | nx (δ:DS)
 | rt (d:D)
 | bk (δ:DS)
 | ct (δ:DS)
 | ex (c f:Str) (v:D)
abbrev FE:=DS→Option D
abbrev FA:=DS→Option (List D)
abbrev FT:=DS→Option Bool
abbrev FS:=DS→Option Oc
abbrev FG:=D→DS→Option DS
mutual
def flat:D→Bool
 | .none=>true
 | .bool _=>true
 | .int _=>true
 | .str _=>true
 | .list _=>false
 | .tuple xs=>flats xs
 | .dict _=>false
def flats:List D→Bool
 | []=>true
 | x :: r=>flat x && flats r
end
mutual
def nl:D→Nat
 | .none=>0
 | .bool _=>0
 | .int _=>0
 | .str _=>0
 | .list xs=>nls xs + 1
 | .tuple xs=>nls xs
 | .dict _=>1
def nls:List D→Nat
 | []=>0
 | x :: r=>nl x + nls r
end
def fl1:D→Bool
 | .list xs=>flats xs
 | d=>flat d
noncomputable def aj (i:Nat):FE:=fun δ=>match δ[i]? with
 | some (some (.d x))=>some x
 | _=>none
def dC (d:D):FE:=fun _=>some d
def dOp (g:D→D→Option D) (fa fb:FE):FE:=fun δ=>(fa δ).bind fun x=>(fb δ).bind fun y=>g x y
def dUn (g:D→Option D) (fa:FE):FE:=fun δ=>(fa δ).bind g
def aZ:FA:=fun _=>some []
def aq (fa:FE) (fr:FA):FA:=fun δ=>(fa δ).bind fun x=>(fr δ).bind fun r=>some (x :: r)
def dTup (fa:FA):FE:=fun δ=>(fa δ).bind fun l=>if l.length ≤ sizeLine then some (.tuple l) else none
def mQ (fa:FA):FE:=fun δ=>(fa δ).bind fun l=>if l.length ≤ sizeLine then some (.list l) else none
def dCall (F:List D→Option D) (fa:FA):FE:=fun δ=>(fa δ).bind F
def cW (fa:FE):FE:=fun δ=>(fa δ).bind fun d=>if flat d=true then some d else none
def dN1 (fa:FE):FE:=fun δ=>(fa δ).bind fun d=>if decide (nl d ≤ 1)=true then some d else none
def tV (fa:FE):FE:=fun δ=>(fa δ).bind fun d=>if fl1 d=true then some d else none
def uH (fa fb:FE):FE:=fun δ=>(fa δ).bind fun x=>match x with
 | .bool true=>fb δ
 | .bool false=>some (.bool false)
 | _=>none
def dOr (fa fb:FE):FE:=fun δ=>(fa δ).bind fun x=>match x with
 | .bool true=>some (.bool true)
 | .bool false=>fb δ
 | _=>none
def Sd (fa:FE):FE:=fun δ=>(fa δ).bind fun x=>match x with
 | .bool b=>some (.bool (!b))
 | _=>none
def dIf (c:FT) (fa fb:FE):FE:=fun δ=>(c δ).bind fun b=>if b=true then fa δ else fb δ
def bh (fa:FE):FT:=fun δ=>(fa δ).bind fun x=>match x with
 | .bool b=>some b
 | _=>none
def oA (a b:FT):FT:=fun δ=>(a δ).bind fun x=>if x=true then b δ else some false
def tOr (a b:FT):FT:=fun δ=>(a δ).bind fun x=>if x=true then some true else b δ
def lU (a:FT):FT:=fun δ=>(a δ).map fun x=>!x
def dG:FS:=fun δ=>some (.nx δ)
def bQ (a b:FS):FS:=fun δ=>(a δ).bind fun o=>match o with
 | .nx δ'=>b δ'
 | o=>some o
noncomputable def Yn (i:Nat) (fe:FE):FS:=fun δ=>(fe δ).bind fun d=>some (.nx (δ.set i (some (.d d))))
def sIf (c:FT) (a b:FS):FS:=fun δ=>(c δ).bind fun t=>if t=true then a δ else b δ
def cL (fe:FE):FS:=fun δ=>(fe δ).bind fun d=>some (.rt d)
def VP:FS:=fun _=>some (.rt .none)
def pD (fe:FE):FS:=fun δ=>(fe δ).bind fun _=>some (.nx δ)
def sBk:FS:=fun δ=>some (.bk δ)
def sCt:FS:=fun δ=>some (.ct δ)
def gN (i:Nat):FG:=fun d δ=>some (δ.set i (some (.d d)))
def ji:List D→DS→Option DS:=fun l δ=>match l with
 | []=>some δ
 | _=>none
noncomputable def cH (g:FG) (r:List D→DS→Option DS):List D→DS→Option DS:=fun l δ=>match l with
 | d :: l'=>(g d δ).bind fun δ'=>r l' δ'
 | []=>none
def Ny (fe:FE) (g:FG):FS:=fun δ=>(fe δ).bind fun d=>(g d δ).bind fun δ'=>some (.nx δ')
noncomputable def jK (g:FG) (b:FS):List D→DS→Option Oc
 | [],δ=>some (.nx δ)
 | d :: r,δ=>(g d δ).bind fun δ1=>(b δ1).bind fun o=>match o with
  | .nx δ'=>jK g b r δ'
  | .ct δ'=>jK g b r δ'
  | .bk δ'=>some (.nx δ')
  | .rt v=>some (.rt v)
  | .ex c f v=>some (.ex c f v)
def mF (fi:FA) (g:FG) (b:FS):FS:=fun δ=>(fi δ).bind fun l=>jK g b l δ
noncomputable def iI (c:FT) (b:FS):Nat→DS→Option Oc
 | 0,_=>none
 | n + 1,δ=>(c δ).bind fun t=>if t=true then (b δ).bind fun o=>match o with
     | .nx δ'=>iI c b n δ'
     | .ct δ'=>iI c b n δ'
     | .bk δ'=>some (.nx δ')
     | .rt v=>some (.rt v)
     | .ex c f v=>some (.ex c f v)
  else some (.nx δ)
theorem oM {c:FT} {b:FS}:∀ {n:Nat} {δ:DS} {o:Oc},iI c b n δ=some o→∀ {m:Nat},n ≤ m→iI c b m δ=some o
 | 0,_,_,h,_,_=>by simp [iI] at h
 | n + 1,δ,o,h,0,l=>by omega
 | n + 1,δ,o,h,m + 1,l=>by
  rw [iI] at h ⊢
  cases hc:c δ with
  | none=>rw [hc] at h;simp at h
  | some t =>
   rw [hc] at h;simp only [aN] at h ⊢
   cases t with
   | false=>exact h
   | true =>
    simp only [if_pos] at h ⊢
    cases hb:b δ with
    | none=>rw [hb] at h;simp at h
    | some q =>
     rw [hb] at h;simp only [aN] at h ⊢
     cases q with
     | nx δ'=>exact oM h (by omega)
     | ct δ'=>exact oM h (by omega)
     | bk δ'=>exact h
     | rt v=>exact h
     | ex c f v=>exact h
theorem D_ {c:FT} {b:FS} {n m:Nat} {δ:DS} {o o':Oc} (h:iI c b n δ=some o) (h':iI c b m δ=some o'):o=o':=by
 have a:=oM h (Nat.le_max_left n m);have a':=oM h' (Nat.le_max_right n m);rw [a] at a';exact cM.inj a'
open Classical in
def uI (c:FT) (b:FS):FS:=fun δ=>if h:∃ o n,iI c b n δ=some o then some (Classical.choose h) else none
theorem HS {c:FT} {b:FS} {n:Nat} {δ:DS} {o:Oc} (h:iI c b n δ=some o):uI c b δ=some o:=by
 have e:∃ o n,iI c b n δ=some o:=⟨o,n,h⟩;unfold uI;rw [dif_pos e];obtain ⟨m,hm⟩:=Classical.choose_spec e;rw [D_ hm h]
theorem Ea {c:FT} {b:FS} {δ:DS} {o:Oc} (h:uI c b δ=some o):∃ n,iI c b n δ=some o:=by
 unfold uI at h;by_cases e:∃ o n,iI c b n δ=some o
 ·rw [dif_pos e] at h;have:=Classical.choose_spec e;rwa [cM.inj h] at this
 ·rw [dif_neg e] at h
  cases h
noncomputable def fnD (p q:Nat) (b:FS):List D→Option D:=fun ds=>if ds.length=p then match b (ds.map (fun d=>some (.d d))++bO q none) with
 | some (.rt d)=>some d
 | some (.nx _)=>some .none
 | _=>none
 else none
def jE (t:Nat) (ix:List Nat) (δ:DS):DS:=bO t none++ix.map fun j=>(δ[j]?).getD none
noncomputable def eN (g:FG) (c:FT) (e:FE) (δ:DS):List D→Option (List D)
 | []=>some []
 | d :: r=>(g d δ).bind fun δ1=>(c δ1).bind fun b=>if b=true then (e δ1).bind fun x=>(eN g c e δ r).bind fun l=>some (x :: l) else eN g c e δ r
def iw (fi:FA) (g:FG) (c:FT) (e:FE) (t:Nat) (ix:List Nat):FE:=fun δ=>(fi δ).bind fun l=>if l.length ≤ 100000 then (eN g c e (jE t ix δ) l).bind fun r=>some (.list r) else none
def kJ:FT:=fun _=>some true
noncomputable def gI (g:Int→Int→Option D):D→D→Option D:=fun x y=>match x,y with
 | .int i,.int j=>g i j
 | _,_=>none
noncomputable def pIx (n:Nat) (i:Int):Option Nat:=if 0 ≤ i then (if i < n then some i.toNat else none) else if -(n:Int) ≤ i then some (i + n).toNat else none
def pAt (xs:List D) (i:Int):Option D:=(pIx xs.length i).bind fun j=>xs[j]?
def isT (c T:String):Bool:=T == c || (T == "bool" && c == "int")
def bM (i:Nat) (fe:FE):FS:=fun δ=>if i < δ.length then Yn i fe δ else none
def i_:D→D→Option D:=gI fun i j=>some (.int (i + j))
def DK:D→D→Option D:=gI fun i j=>some (.int (i - j))
def uJ (i j:Int):Bool:=decide (i.natAbs < 2 ^ 64) || decide (j.natAbs < 2 ^ 64) || (decide (i.natAbs < 2 ^ 30000) && decide (j.natAbs < 2 ^ 30000))
def mU:D→D→Option D:=gI fun i j=>if uJ i j=true then some (.int (i * j)) else none
def Eb (_ j:Int):Bool:=decide (j ≠ 0) && decide (j.natAbs < 2 ^ 9000)
def BX:D→D→Option D:=gI fun i j=>if Eb i j=true then some (.int (i.fdiv j)) else none
def tE:D→D→Option D:=gI fun i j=>if decide (j ≠ 0)=true then some (.int (i.fmod j)) else none
def Sg (i j:Int):Bool:=decide (0 ≤ j) && decide (j ≤ 1000) && decide (i.natAbs < 2 ^ 64)
def Sq:D→D→Option D:=gI fun i j=>if Sg i j=true then some (.int (i ^ j.toNat)) else none
def gLt:D→D→Option D:=gI fun i j=>some (.bool (decide (i < j)))
def gLe:D→D→Option D:=gI fun i j=>some (.bool (decide (i ≤ j)))
def gGt:D→D→Option D:=gI fun i j=>some (.bool (decide (j < i)))
def gGe:D→D→Option D:=gI fun i j=>some (.bool (decide (j ≤ i)))
def gEq:D→D→Option D:=fun x y=>if (SeqAt.shaped x && SeqAt.shaped y)=true then some (.bool (PyData.eqv x y)) else none
def gNe:D→D→Option D:=fun x y=>if (SeqAt.shaped x && SeqAt.shaped y)=true then some (.bool (!PyData.eqv x y)) else none
def gNl (i:Nat):FG:=fun d δ=>if i < δ.length then gN i d δ else none
def gTn (n:Nat) (g:List D→DS→Option DS):FG:=fun d δ=>match d with
 | .tuple l=>if l.length=n then g l δ else none
 | _=>none
def Ec (i:Nat) (f:FE):FS:=fun δ=>(aj i δ).bind fun x=>(f δ).bind fun d=>match x with
 | .list l=>if l.length < 1000000 then some (.nx (δ.set i (some (.d (.list (l++[d])))))) else none
 | _=>none
def uK (i:Nat) (fk f:FE):FS:=fun δ=>(f δ).bind fun d=>(aj i δ).bind fun x=>(fk δ).bind fun k=>match x,k with
 | .list l,.int j=>(pIx l.length j).bind fun n=>some (.nx (δ.set i (some (.d (.list (l.set n d))))))
 | _,_=>none
def putAt (x:D) (n:Nat) (d:D):D:=match x with
 | .list l=>.list (l.set n d)
 | .tuple l=>.tuple (l.set n d)
 | x=>x
noncomputable def asList:D→Option (List D)
 | .list l=>some l
 | _=>none
def lu (f:FE):FA:=fun δ=>(f δ).bind asList
noncomputable def fO (lo hi:Int):List D:=(aB (hi - lo).toNat).map fun (k:Nat)=>.int (lo + (k:Int))
def sS (i:Int):Bool:=decide (-(2 ^ 62) ≤ i) && decide (i < 2 ^ 62)
def pF (fa:FA):FA:=fun δ=>(fa δ).bind fun l=>match l with
 | [.int j]=>if sS j=true then some (fO 0 j) else none
 | _=>none
def Gj (fa:FA):FA:=fun δ=>(fa δ).bind fun l=>match l with
 | [.int i,.int j]=>if (sS i && sS j)=true then some (fO i j) else none
 | _=>none
def gIx:D→D→Option D:=fun x y=>match x,y with
 | .list l,.int i=>pAt l i
 | .tuple l,.int i=>pAt l i
 | _,_=>none
noncomputable def o8 (g g':D→D→Option D) (fa fb fc:FE):FE:=fun δ=>(fa δ).bind fun x=>(fb δ).bind fun y=>(g x y).bind fun z=>match z with
 | .bool true=>(fc δ).bind fun w=>g' y w
 | .bool false=>some (.bool false)
 | _=>none
noncomputable def vR (g g' g'':D→D→Option D) (fa fb fc fd:FE):FE:=fun δ=>(fa δ).bind fun x=>(fb δ).bind fun y=>(g x y).bind fun z=>match z with
 | .bool true=>(fc δ).bind fun w=>(g' y w).bind fun z'=>match z' with
  | .bool true=>(fd δ).bind fun u=>g'' w u
  | .bool false=>some (.bool false)
  | _=>none
 | .bool false=>some (.bool false)
 | _=>none
noncomputable def isNone:D→Bool
 | .none=>true
 | _=>false
def rF:D→Option D:=fun x=>some (.bool (isNone x))
def lK:D→Option D:=fun x=>some (.bool (!isNone x))
def jH:List D→Option D
 | [.list l]=>some (.int l.length)
 | [.tuple l]=>some (.int l.length)
 | _=>none
noncomputable def jL:List D→Option (List Int)
 | []=>some []
 | .int i :: r=>(jL r).map (i :: ·)
 | _=>none
def mxI (i:Int) (r:List Int):Int:=r.foldl (fun a b=>if a < b then b else a) i
def Gm:List D→Option D
 | [.list l]=>match jL l with
  | some (i :: r)=>some (.int (mxI i r))
  | _=>none
 | _=>none
noncomputable def insI (x:Int):List Int→List Int
 | []=>[x]
 | y :: r=>if x ≤ y then x :: y :: r else y :: insI x r
def qd:List Int→List Int
 | []=>[]
 | x :: r=>insI x (qd r)
def vg:List D→Option D
 | [.list l]=>(jL l).bind fun ns=>if ns.length < 64 then some (.list ((qd ns).map .int)) else none
 | _=>none
def J6:List D→Option D
 | [.int i]=>some (.int i)
 | [.bool b]=>some (.int (if b then 1 else 0))
 | _=>none
def Yo:List D→Option D
 | [.int i]=>some (.int (if i < 0 then -i else i))
 | _=>none
def wH:List D→Option D
 | [.int i,.int j]=>some (.int (if j > i then j else i))
 | _=>none
def rG:List D→Option D
 | [.int i,.int j]=>some (.int (if j < i then j else i))
 | _=>none
noncomputable def tyD:D→String
 | .none => "NoneType"
 | .bool _ => "bool"
 | .int _ => "int"
 | .str _ => "str"
 | .list _ => "list"
 | .tuple _ => "tuple"
 | .dict _ => "dict"
def gIs (c:String):D→Option D:=fun d=>some (.bool (isT c (tyD d)))
def Yp:D→Option D
 | .int i=>some (.int (-i))
 | _=>none
noncomputable def rH:D→D→Option D:=fun x y=>match x,y with
 | .list l,.list m=>if l.length + m.length ≤ 1000000 then some (.list (l++m)) else none
 | _,_=>none
noncomputable def J7:D→D→Option D:=fun x y=>match x,y with
 | .list l,.int k=>if l.length * k.toNat ≤ 1000000∧-(2 ^ 63) ≤ k∧k < 2 ^ 63 then some (.list (bO k.toNat l).flatten) else none
 | _,_=>none
def gY:D→Option D
 | .list l=>some (.list l)
 | .tuple l=>some (.list l)
 | _=>none
abbrev FO:=DS→Option (Option Int)
def zc:FO:=fun _=>some none
def zf (f:FE):FO:=fun δ=>(f δ).bind fun x=>match x with
 | .int i=>some (some i)
 | _=>none
noncomputable def pSx (n d:Nat):Option Int→Nat
 | none=>d
 | some i=>if i < 0 then (i + n).toNat else min i.toNat n
def cutD (xs:List D) (lo hi:Option Int):List D:=(xs.drop (pSx xs.length 0 lo)).take (pSx xs.length xs.length hi - pSx xs.length 0 lo)
def dSl (f:FE) (lo hi:FO):FE:=fun δ=>(f δ).bind fun x=>(lo δ).bind fun a=>(hi δ).bind fun b=>match x with
 | .list l=>some (.list (cutD l a b))
 | _=>none
noncomputable def Yq (i j:Nat) (fa:FA):FS:=fun δ=>(fa δ).bind fun l=>match l with
 | [x,y]=>if i < δ.length∧j < δ.length then some (.nx ((δ.set i (some (.d x))).set j (some (.d y)))) else none
 | _=>none
noncomputable def jW (l:List D):List D:=l.mapIdx fun i x=>.tuple [.int (i:Int),x]
def vh (f:FE):FA:=fun δ=>(f δ).bind fun d=>match d with
 | .list l=>some (jW l)
 | _=>none
def mnI (i:Int) (r:List Int):Int:=r.foldl (fun a b=>if b < a then b else a) i
def Gn:List D→Option D
 | [.list l]=>match jL l with
  | some (i :: r)=>some (.int (mnI i r))
  | _=>none
 | _=>none
noncomputable def o9:List D→Option (List Bool)
 | []=>some []
 | .bool b :: r=>(o9 r).map (b :: ·)
 | _=>none
def Ed:List D→Option D
 | [.list l]=>(o9 l).map fun bs=>.bool (bs.all id)
 | _=>none
noncomputable def m6:List D→List D→List D
 | x :: r,y :: s=>.tuple [x,y] :: m6 r s
 | _,_=>[]
def HW (f g:FE):FA:=fun δ=>(f δ).bind fun d=>(g δ).bind fun e=>match d,e with
 | .list l,.list m=>some (m6 l m)
 | _,_=>none
def rJ:D→Option D
 | .bool b=>some (.bool (!b))
 | _=>none
theorem wI:∀ (r:List Int) (i:Int),mnI i r ∈ i :: r∧∀ a ∈ i :: r,mnI i r ≤ a
 | [],i=>⟨aK,fun a h=>by rw [aJ.mp h];exact d7 _⟩
 | b :: r,i=>by
  have ih:=wI r (if b < i then b else i);have e:mnI i (b :: r)=mnI (if b < i then b else i) r:=rfl;rw [e]
  constructor
  ·rcases aY.mp ih.1 with z | z
   ·rw [z];split <;> simp
   ·exact aM _ (aM _ z)
  ·intro a h;have h0:=ih.2 _ aK;have hb:(if b < i then b else i) ≤ i∧(if b < i then b else i) ≤ b:=by split <;> omega
   rcases aY.mp h with rfl | h
   ·exact kO h0 hb.1
   ·rcases aY.mp h with rfl | h
    ·exact kO h0 hb.2
    ·exact ih.2 a (aM _ h)
theorem wJ:∀ (r:List Int) (i:Int),mxI i r ∈ i :: r∧∀ a ∈ i :: r,a ≤ mxI i r
 | [],i=>⟨aK,fun a h=>by rw [aJ.mp h];exact d7 _⟩
 | b :: r,i=>by
  have ih:=wJ r (if i < b then b else i);have e:mxI i (b :: r)=mxI (if i < b then b else i) r:=rfl;rw [e]
  constructor
  ·rcases aY.mp ih.1 with z | z
   ·rw [z];split <;> simp
   ·exact aM _ (aM _ z)
  ·intro a h;have h0:=ih.2 _ aK;have hb:i ≤ (if i < b then b else i)∧b ≤ (if i < b then b else i):=by split <;> omega
   rcases aY.mp h with rfl | h
   ·exact kO hb.1 h0
   ·rcases aY.mp h with rfl | h
    ·exact kO hb.2 h0
    ·exact ih.2 a (aM _ h)
theorem insI_perm (x:Int):∀ l,(insI x l).Perm (x :: l)
 | []=>.refl _
 | y :: r=>by
  unfold insI;split
  ·exact .refl _
  ·exact ((insI_perm x r).cons y).trans (.swap x y r)
theorem jg:∀ l,(qd l).Perm l
 | []=>.refl _
 | x :: r=>(insI_perm x _).trans ((jg r).cons x)
theorem vm (x:Int):∀ l,l.Pairwise (· ≤ ·)→(insI x l).Pairwise (· ≤ ·)
 | [],_=>by simp [insI]
 | y :: r,h=>by
  obtain ⟨h1,h2⟩:=eY.mp h;unfold insI;split
  ·next c =>
   refine eY.mpr ⟨fun a ha=>?_,h⟩;rcases aY.mp ha with rfl | z
   ·exact c
   ·exact kO c (h1 a z)
  ·next c =>
   refine eY.mpr ⟨fun a ha=>?_,vm x r h2⟩;rcases aY.mp ((insI_perm x r).mem_iff.mp ha) with rfl | z
   ·omega
   ·exact h1 a z
theorem oN:∀ l,(qd l).Pairwise (· ≤ ·)
 | []=>.nil
 | x :: r=>vm x _ (oN r)
end D3
namespace D3
open PySem PySem.Spec PyProof.Rows L2 My
abbrev Ok:=Addr→Prop
abbrev St:=L2.St
class Chg (u:HO):Prop where
 ch:(∃ xs,u = .lst xs)∨(∃ kvs,u = .dK kvs)∨∃ kvs,u = .dT kvs
instance (xs:List V):Chg (.lst xs):=⟨.inl ⟨xs,rfl⟩⟩
instance (kvs:List (Key × V)):Chg (.dK kvs):=⟨.inr (.inl ⟨kvs,rfl⟩)⟩
instance (kvs:List (List Key × V)):Chg (.dT kvs):=⟨.inr (.inr ⟨kvs,rfl⟩)⟩
theorem Chg.frz {o:Obj} {u:HO} (h:Chg (.frz o u)):False:=by
 rcases h.ch with ⟨_,z⟩ | ⟨_,z⟩ | ⟨_,z⟩ <;> cases z
theorem Chg.tup {xs:List V} (h:Chg (.tup xs)):False:=by
 rcases h.ch with ⟨_,z⟩ | ⟨_,z⟩ | ⟨_,z⟩ <;> cases z
def Chd (o:Option HO):Prop:=∃ u,o=some u∧Chg u
theorem Chd.ne {o:Option HO} (h:Chd o):o ≠ none:=by
 obtain ⟨u,rfl,_⟩:=h;simp
def SqK (K:PySem.W.Frag) (H:Hp) (a:Addr) (xs:List V):Prop:=(∃ o,H a=some (.frz o (.lst xs))) ∨
 ∃ (o:Obj) (its:Array Value) (n:Nat),K.lookup a=some o∧o.cls = .type "list" ∧ o.dict=none∧o.data = .seq its n∧its.size ≤ sizeLine∧Vals xs its.toList
theorem SqK.sq {K:PySem.W.Frag} {H:Hp} {a:Addr} {xs:List V} (h:SqK K H a xs):SqL K H a xs:=by
 rcases h with ⟨o,h⟩ | h
 ·exact .inl (.inr ⟨o,h⟩)
 ·exact .inr h
def jT (H:Hp) (a:Addr) (xs:List V):Prop:=H a=some (.tup xs)
theorem jT.sq {K:PySem.W.Frag} {H:Hp} {a:Addr} {xs:List V} (h:jT H a xs):SqT K H a xs:=.inl (.inl h)
theorem jT.same {H H':Hp} {a:Addr} {xs:List V} (e:Same H H') (h:jT H a xs):jT H' a xs:=e _ _ h
theorem jT.upd {H:Hp} {a b:Addr} {xs:List V} {u o:HO} [cu:Chg u] (h:H a=some u) (q:jT H b xs):jT (upd H a o) b xs:=by
 unfold jT;rwa [cJ (FZ q h (by intro z;subst z;exact cu.tup))]
noncomputable def dk0:List (D × D)→List (Key × V)
 | []=>[]
 | (.int i,.int j) :: r=>(.inl i,.int j) :: dk0 r
 | (.int i,.bool true) :: r=>(.inl i,.bl true) :: dk0 r
 | _ :: r=>(.inl 0,.non) :: dk0 r
noncomputable def tkK:List D→Option (List Key)
 | []=>some []
 | .int i :: r=>(tkK r).map (.inl i :: ·)
 | _=>none
def tkD:List (D × D)→Option (List (List Key × V))
 | []=>some []
 | (.tuple l,.bool true) :: r=>(tkK l).bind fun k=>(tkD r).map ((k,.bl true) :: ·)
 | _=>none
def dh0 (kvs:List (D × D)):HO:=match kvs with
 | []=>.dK []
 | q :: r=>match tkD (q :: r) with
  | some ts=>.dT ts
  | none=>.dK (dk0 (q :: r))
theorem J8 (kvs:List (D × D)):(∃ ks,dh0 kvs = .dK ks)∨∃ ks,dh0 kvs = .dT ks:=by
 cases kvs with
 | nil=>exact .inl ⟨_,rfl⟩
 | cons q r =>
  unfold dh0;dsimp only;split
  ·exact .inr ⟨_,rfl⟩
  ·exact .inl ⟨_,rfl⟩
instance (kvs:List (D × D)):Chg (dh0 kvs):=⟨by
 rcases J8 kvs with ⟨ks,z⟩ | ⟨ks,z⟩
 ·exact .inr (.inl ⟨ks,z⟩)
 ·exact .inr (.inr ⟨ks,z⟩)⟩
def scV:D→V
 | .int i=>.int i
 | _=>.non
def scs:List D→Bool
 | []=>true
 | .int _ :: r=>scs r
 | .none :: r=>scs r
 | _=>false
def TV (H:Hp) (v:V) (d:D):Prop:=(v = .non∧d = .none)∨∃ b ds,v = .ref b∧d = .tuple ds∧jT H b (ds.map scV)∧scs ds=true
inductive TVs (H:Hp):List (Key × V)→List (D × D)→Prop
 | nil:TVs H [] []
 | cons {i:Int} {v:V} {d:D} {r:List (Key × V)} {r':List (D × D)}:TV H v d→TVs H r r'→TVs H ((.inl i,v) :: r) ((.int i,d) :: r')
theorem TV.imp {H H':Hp} (h:∀ b xs,jT H b xs→jT H' b xs) {v:V} {d:D} (q:TV H v d):TV H' v d:=by
 rcases q with q | ⟨b,ds,h1,h2,h3,h4⟩
 ·exact .inl q
 ·exact .inr ⟨b,ds,h1,h2,h _ _ h3,h4⟩
theorem TVs.imp {H H':Hp} (h:∀ b xs,jT H b xs→jT H' b xs) {ks:List (Key × V)} {kvs:List (D × D)} (q:TVs H ks kvs):TVs H' ks kvs:=by
 induction q with
 | nil=>exact .nil
 | cons t _ ih=>exact .cons (t.imp h) ih
def Ef:List (D × D)→Bool
 | []=>true
 | (_,.int _) :: r=>Ef r
 | (_,.bool _) :: r=>Ef r
 | _=>false
def TW (H:Hp) (v:V) (m:List Int) (z:Int):Prop:=∃ b c,v = .ref b∧jT H b [.ref c,.int z]∧jT H c (m.map V.int)
inductive TTs (H:Hp):List (List Key × V)→List (D × D)→Prop
 | nil:TTs H [] []
 | cons {k m:List Int} {z:Int} {v:V} {r:List (List Key × V)} {r':List (D × D)}:TW H v m z→TTs H r r'→TTs H ((k.map Sum.inl,v) :: r) ((.tuple (k.map .int),.tuple [.tuple (m.map .int),.int z]) :: r')
theorem TTs.imp {H H':Hp} (h:∀ b xs,jT H b xs→jT H' b xs) {ks:List (List Key × V)} {kvs:List (D × D)} (q:TTs H ks kvs):TTs H' ks kvs:=by
 induction q with
 | nil=>exact .nil
 | cons t _ ih =>
  obtain ⟨b,c,h1,h2,h3⟩:=t;exact .cons ⟨b,c,h1,h _ _ h2,h _ _ h3⟩ ih
def DH (H:Hp) (u:HO) (kvs:List (D × D)):Prop:=(Ef kvs=true∧u=dh0 kvs)∨(∃ ks,u = .dK ks∧TVs H ks kvs)∨∃ q ks,u = .dT (q :: ks)∧TTs H (q :: ks) kvs
theorem DH.imp {H H':Hp} (h:∀ b xs,jT H b xs→jT H' b xs) {u:HO} {kvs:List (D × D)} (q:DH H u kvs):DH H' u kvs:=by
 rcases q with q | ⟨ks,q1,q2⟩ | ⟨k,ks,q1,q2⟩
 ·exact .inl q
 ·exact .inr (.inl ⟨ks,q1,q2.imp h⟩)
 ·exact .inr (.inr ⟨k,ks,q1,q2.imp h⟩)
theorem DH.same {H H':Hp} {u:HO} {kvs:List (D × D)} (q:DH H u kvs) (e:Same H H'):DH H' u kvs:=q.imp fun _ _ h=>jT.same e h
theorem DH.upd {H:Hp} {a:Addr} {u o u':HO} [cu:Chg u] {kvs:List (D × D)} (q:DH H u' kvs) (h:H a=some u):DH (upd H a o) u' kvs:=q.imp fun _ _ z=>jT.upd h z
theorem DH.or {H:Hp} {u:HO} {kvs:List (D × D)} (q:DH H u kvs):(∃ ks,u = .dK ks)∨∃ ks,u = .dT ks:=by
 rcases q with ⟨_,rfl⟩ | ⟨ks,rfl,_⟩ | ⟨k,ks,rfl,_⟩
 ·exact J8 kvs
 ·exact .inl ⟨ks,rfl⟩
 ·exact .inr ⟨_,rfl⟩
theorem DH.chg {H:Hp} {u:HO} {kvs:List (D × D)} (q:DH H u kvs):Chg u:=⟨.inr q.or⟩
theorem DH.old {H:Hp} {u:HO} {kvs:List (D × D)} (q:DH H u kvs) (h:Ef kvs=true):u=dh0 kvs:=by
 rcases q with q | ⟨ks,rfl,q⟩ | ⟨k,ks,rfl,q⟩
 ·exact q.2
 ·cases q with
  | nil=>rfl
  | cons t _ =>
   rcases t with ⟨_,rfl⟩ | ⟨_,_,_,rfl,_,_⟩ <;> cases h
 ·cases q with
  | cons _ _=>cases h
mutual
inductive RA (K:PySem.W.Frag) (ok:Ok) (pl:Bool) (H:Hp):V→D→Prop
 | non:RA K ok pl H .non .none
 | bl (b:Bool):RA K ok pl H (.bl b) (.bool b)
 | int (i:Int):RA K ok pl H (.int i) (.int i)
 | str (x:Str):RA K ok pl H (.str x) (.str x)
 | lst {a:Addr} {xs:List V} {ds:List D}:H a=some (.lst xs)→ok a→RAs K ok pl H xs ds→RA K ok pl H (.ref a) (.list ds)
 | lsk {a:Addr} {xs:List V} {ds:List D}:SqK K H a xs→pl=true→RAs K ok pl H xs ds→RA K ok pl H (.ref a) (.list ds)
 | tup {a:Addr} {xs:List V} {ds:List D}:jT H a xs→RAs K ok pl H xs ds→RA K ok pl H (.ref a) (.tuple ds)
 | dic {a:Addr} {u:HO} {kvs:List (D × D)}:H a=some u→DH H u kvs→ok a→RA K ok pl H (.ref a) (.dict kvs)
 | dik {a:Addr} {u:HO} {kvs:List (D × D)} {o:Obj}:H a=some (.frz o u)→DH H u kvs→pl=true→RA K ok pl H (.ref a) (.dict kvs)
inductive RAs (K:PySem.W.Frag) (ok:Ok) (pl:Bool) (H:Hp):List V→List D→Prop
 | nil:RAs K ok pl H [] []
 | cons {v:V} {d:D} {vs:List V} {ds:List D}:RA K ok pl H v d→RAs K ok pl H vs ds→RAs K ok pl H (v :: vs) (d :: ds)
end
section
variable {K:PySem.W.Frag} {ok ok':Ok} {pl pl':Bool} {H H':Hp}
theorem RA.ind {P:V→D→Prop} {Q:List V→List D→Prop} (c1:P .non .none) (c2:∀ b,P (.bl b) (.bool b)) (c3:∀ i,P (.int i) (.int i)) (c4:∀ x,P (.str x) (.str x))
 (c5:∀ {a:Addr} {xs:List V} {ds:List D},H a=some (.lst xs)→ok a→Q xs ds→P (.ref a) (.list ds)) (c6:∀ {a:Addr} {xs:List V} {ds:List D},SqK K H a xs→pl=true→Q xs ds→P (.ref a) (.list ds)) (c7:∀ {a:Addr} {xs:List V} {ds:List D},jT H a xs→Q xs ds→P (.ref a) (.tuple ds))
 (c8:∀ {a:Addr} {u:HO} {kvs:List (D × D)},H a=some u→DH H u kvs→ok a→P (.ref a) (.dict kvs)) (c9:∀ {a:Addr} {u:HO} {kvs:List (D × D)} {o:Obj},H a=some (.frz o u)→DH H u kvs→pl=true→P (.ref a) (.dict kvs)) (c10:Q [] []) (c11:∀ {v:V} {d:D} {vs:List V} {ds:List D},P v d→Q vs ds→Q (v :: vs) (d :: ds)) :
 (∀ {v:V} {d:D},RA K ok pl H v d→P v d)∧∀ {v:List V} {d:List D},RAs K ok pl H v d→Q v d :=
 ⟨fun h=>RA.rec (motive_1:=fun v d _=>P v d) (motive_2:=fun v d _=>Q v d) c1 c2 c3 c4 (fun h o _ q=>c5 h o q) (fun h o _ q=>c6 h o q) (fun h _ q=>c7 h q) (fun h g o=>c8 h g o) (fun h g o=>c9 h g o) c10 (fun _ _ a q=>c11 a q) h,
  fun h=>RAs.rec (motive_1:=fun v d _=>P v d) (motive_2:=fun v d _=>Q v d) c1 c2 c3 c4 (fun h o _ q=>c5 h o q) (fun h o _ q=>c6 h o q) (fun h _ q=>c7 h q) (fun h g o=>c8 h g o) (fun h g o=>c9 h g o) c10 (fun _ _ a q=>c11 a q) h⟩
theorem RA.imp2 (ho:∀ a,ok a→ok' a) (hp:pl=true→pl'=true):(∀ {v:V} {d:D},RA K ok pl H v d→RA K ok' pl' H v d)∧∀ {v:List V} {d:List D},RAs K ok pl H v d→RAs K ok' pl' H v d :=
 RA.ind .non .bl .int .str (fun h o q=>.lst h (ho _ o) q) (fun h o q=>.lsk h (hp o) q) (fun h q=>.tup h q) (fun h g o=>.dic h g (ho _ o)) (fun h g o=>.dik h g (hp o)) .nil .cons
theorem RA.imp (ho:∀ a,ok a→ok' a) (hp:pl=true→pl'=true) {v:V} {d:D} (h:RA K ok pl H v d):RA K ok' pl' H v d:=(RA.imp2 ho hp).1 h
theorem RAs.imp (ho:∀ a,ok a→ok' a) (hp:pl=true→pl'=true) {v:List V} {d:List D} (h:RAs K ok pl H v d):RAs K ok' pl' H v d:=(RA.imp2 ho hp).2 h
theorem SqK.same {a:Addr} {xs:List V} (e:Same H H') (h:SqK K H a xs):SqK K H' a xs:=by
 rcases h with ⟨o,h⟩ | h
 ·exact .inl ⟨o,e _ _ h⟩
 ·exact .inr h
theorem RA.same2 (e:Same H H'):(∀ {v:V} {d:D},RA K ok pl H v d→RA K ok pl H' v d)∧∀ {v:List V} {d:List D},RAs K ok pl H v d→RAs K ok pl H' v d :=
 RA.ind .non .bl .int .str (fun h o q=>.lst (e _ _ h) o q) (fun h o q=>.lsk (h.same e) o q) (fun h q=>.tup (jT.same e h) q) (fun h g o=>.dic (e _ _ h) (g.same e) o) (fun h g o=>.dik (e _ _ h) (g.same e) o) .nil .cons
theorem RA.same (e:Same H H') {v:V} {d:D} (h:RA K ok pl H v d):RA K ok pl H' v d:=(RA.same2 e).1 h
theorem RAs.same (e:Same H H') {v:List V} {d:List D} (h:RAs K ok pl H v d):RAs K ok pl H' v d:=(RA.same2 e).2 h
theorem RA.flat2:(∀ {v:V} {d:D},RA K ok pl H v d→flat d=true→RA K ok' pl' H v d)∧∀ {v:List V} {d:List D},RAs K ok pl H v d→flats d=true→RAs K ok' pl' H v d :=
 RA.ind (fun _=>.non) (fun b _=>.bl b) (fun i _=>.int i) (fun x _=>.str x) (fun _ _ _ h=>by simp [D3.flat] at h) (fun _ _ _ h=>by simp [D3.flat] at h) (fun t q h=>.tup t (q (by simpa [D3.flat] using h))) (fun _ _ _ h=>by simp [D3.flat] at h) (fun _ _ _ h=>by simp [D3.flat] at h) (fun _=>.nil) fun a q h=>by
  rw [flats,aW] at h;exact .cons (a h.1) (q h.2)
theorem RA.flat {v:V} {d:D} (hf:flat d=true) (h:RA K ok pl H v d):RA K ok' pl' H v d:=RA.flat2.1 h hf
theorem RAs.flat {v:List V} {d:List D} (hf:flats d=true) (h:RAs K ok pl H v d):RAs K ok' pl' H v d:=RA.flat2.2 h hf
theorem SqK.upd {a b:Addr} {xs:List V} {u o:HO} [cu:Chg u] (h:H a=some u) (q:SqK K H b xs):SqK K (upd H a o) b xs:=by
 rcases q with ⟨o',q⟩ | q
 ·refine .inl ⟨o',?_⟩;rwa [cJ (FZ q h (by intro z;subst z;first | exact cu.frz | exact cu.tup))]
 ·exact .inr q
theorem RA.upd2 {a:Addr} {u o:HO} [cu:Chg u] (h:H a=some u) (na:¬ ok a):(∀ {v:V} {d:D},RA K ok pl H v d→RA K ok pl (upd H a o) v d)∧∀ {v:List V} {d:List D},RAs K ok pl H v d→RAs K ok pl (upd H a o) v d :=
 RA.ind .non .bl .int .str (fun e k q=>.lst (by rwa [cJ (by intro z;subst z;exact na k)]) k q) (fun e k q=>.lsk (e.upd h) k q) (fun e q=>.tup (jT.upd h e) q) (fun e g k=>.dic (by rwa [cJ (by intro z;subst z;exact na k)]) (g.upd h) k) (fun e g k=>.dik (by rwa [cJ (FZ e h (by intro z;subst z;exact cu.frz))]) (g.upd h) k) .nil .cons
theorem RA.upd {a:Addr} {u o:HO} [cu:Chg u] (h:H a=some u) (na:¬ ok a) {v:V} {d:D} (r:RA K ok pl H v d):RA K ok pl (upd H a o) v d:=(RA.upd2 h na).1 r
theorem RAs.upd {a:Addr} {u o:HO} [cu:Chg u] (h:H a=some u) (na:¬ ok a) {v:List V} {d:List D} (r:RAs K ok pl H v d):RAs K ok pl (upd H a o) v d:=(RA.upd2 h na).2 r
theorem RA.track2:(∀ {v:V} {d:D},RA K ok pl H v d→RA K (fun b=>ok b∧H b ≠ none) pl H v d)∧∀ {v:List V} {d:List D},RAs K ok pl H v d→RAs K (fun b=>ok b∧H b ≠ none) pl H v d :=
 RA.ind .non .bl .int .str (fun e k q=>.lst e ⟨k,by rw [e];simp⟩ q) (fun e k q=>.lsk e k q) (fun e q=>.tup e q) (fun e g k=>.dic e g ⟨k,by rw [e];simp⟩) (fun e g k=>.dik e g k) .nil .cons
theorem RA.track {v:V} {d:D} (h:RA K ok pl H v d):RA K (fun b=>ok b∧H b ≠ none) pl H v d:=RA.track2.1 h
theorem RAs.track {v:List V} {d:List D} (h:RAs K ok pl H v d):RAs K (fun b=>ok b∧H b ≠ none) pl H v d:=RA.track2.2 h
theorem RAs.length:∀ {v:List V} {d:List D},RAs K ok pl H v d→v.length=d.length
 | _,_,.nil=>rfl
 | _,_,.cons _ q=>by simp [RAs.length q]
theorem RAs.get:∀ {v:List V} {d:List D} {i:Nat} {x:D},RAs K ok pl H v d→d[i]? = some x→∃ y,v[i]? = some y∧RA K ok pl H y x
 | _,_,_,_,.nil,h=>by simp at h
 | _,_,0,_,.cons a _,h=>by simp at h;subst h;exact ⟨_,rfl,a⟩
 | _,_,i + 1,_,.cons _ q,h=>by
  obtain ⟨y,e,r⟩:=RAs.get (i:=i) q (by simpa using h);exact ⟨y,by simpa using e,r⟩
theorem RAs.append:∀ {v v':List V} {d d':List D},RAs K ok pl H v d→RAs K ok pl H v' d'→RAs K ok pl H (v++v') (d++d')
 | _,_,_,_,.nil,q=>q
 | _,_,_,_,.cons a r,q=>.cons a (RAs.append r q)
theorem RAs.set {x:V} {y:D} (r:RA K ok pl H x y):∀ {v:List V} {d:List D} (i:Nat),RAs K ok pl H v d→RAs K ok pl H (v.set i x) (d.set i y)
 | _,_,_,.nil=>.nil
 | _,_,0,.cons _ q=>.cons r q
 | _,_,i + 1,.cons a q=>.cons a (RAs.set r i q)
theorem RAs.take:∀ {v:List V} {d:List D} (n:Nat),RAs K ok pl H v d→RAs K ok pl H (v.take n) (d.take n)
 | _,_,0,_=>by simp;exact .nil
 | _,_,_ + 1,.nil=>.nil
 | _,_,n + 1,.cons a q=>.cons a (RAs.take n q)
theorem RAs.drop:∀ {v:List V} {d:List D} (n:Nat),RAs K ok pl H v d→RAs K ok pl H (v.drop n) (d.drop n)
 | _,_,0,q=>q
 | _,_,_ + 1,.nil=>.nil
 | _,_,n + 1,.cons _ q=>RAs.drop n q
theorem RA.rd2:(∀ {v:V} {d:D},RA K ok pl H v d→d.canLay0=true→RdV K H v d)∧∀ {v:List V} {d:List D},RAs K ok pl H v d→PyData.canLayAll0 d=true→RdVs K H v d :=
 RA.ind (fun _=>.non) (fun b _=>.bl b) (fun i _=>.int i) (fun x _=>.str x) (fun e _ q h=>.lst (SqL.of e) (q (by simpa [PyData.canLay0] using h))) (fun e _ q h=>.lst e.sq (q (by simpa [PyData.canLay0] using h))) (fun e q h=>.tup e.sq (q (by simpa [PyData.canLay0] using h))) (fun _ _ _ h=>by simp [PyData.canLay0] at h) (fun _ _ _ h=>by simp [PyData.canLay0] at h) (fun _=>.nil) fun a q h=>by
  rw [PyData.canLayAll0,aW] at h;exact .cons (a h.1) (q h.2)
theorem RA.rd {v:V} {d:D} (hf:d.canLay0=true) (h:RA K ok pl H v d):RdV K H v d:=RA.rd2.1 h hf
theorem RA.intE {v:V} {i:Int} (h:RA K ok pl H v (.int i)):v = .int i:=by cases h;rfl
theorem RA.blE {v:V} {b:Bool} (h:RA K ok pl H v (.bool b)):v = .bl b:=by cases h;rfl
theorem RA.nonE {v:V} (h:RA K ok pl H v .none):v = .non:=by cases h;rfl
theorem RA.lstE {v:V} {ds:List D} (h:RA K ok pl H v (.list ds)):∃ a xs,v = .ref a∧SqL K H a xs∧RAs K ok pl H xs ds:=by
 cases h with
 | lst e k q=>exact ⟨_,_,rfl,SqL.of e,q⟩
 | lsk e k q=>exact ⟨_,_,rfl,e.sq,q⟩
theorem RA.dicU {v:V} {kvs:List (D × D)} (h:RA K ok pl H v (.dict kvs)):∃ a u,v = .ref a∧L2.Rd H a u∧DH H u kvs:=by
 cases h with
 | dic e g k=>exact ⟨_,_,rfl,.inl e,g⟩
 | dik e g k=>exact ⟨_,_,rfl,.inr ⟨_,e⟩,g⟩
theorem RA.dicE {v:V} {kvs:List (D × D)} (h:RA K ok pl H v (.dict kvs)) (ho:Ef kvs=true):∃ a,v = .ref a∧L2.Rd H a (dh0 kvs):=by
 obtain ⟨a,u,h1,h2,h3⟩:=h.dicU;rw [h3.old ho] at h2;exact ⟨a,h1,h2⟩
theorem RA.tupE {v:V} {ds:List D} (h:RA K ok pl H v (.tuple ds)):∃ a xs,v = .ref a∧SqT K H a xs∧RAs K ok pl H xs ds:=by
 cases h with
 | tup e q=>exact ⟨_,_,rfl,e.sq,q⟩
theorem RA.tupE0 {v:V} {ds:List D} (h:RA K ok pl H v (.tuple ds)):∃ a xs,v = .ref a∧jT H a xs∧RAs K ok pl H xs ds:=by
 cases h with
 | tup e q=>exact ⟨_,_,rfl,e,q⟩
end
inductive Fl where
 | A
 | O
 | L
 | N
 | M
 deriving DecidableEq
def isN:Option Fl→Bool
 | some .N=>true
 | some .M=>true
 | _=>false
mutual
inductive RT (K:PySem.W.Frag) (H:Hp):V→D→List Addr→Prop
 | non:RT K H .non .none []
 | bl (b:Bool):RT K H (.bl b) (.bool b) []
 | int (i:Int):RT K H (.int i) (.int i) []
 | str (x:Str):RT K H (.str x) (.str x) []
 | lst {a:Addr} {xs:List V} {ds:List D} {as:List Addr}:H a=some (.lst xs)→RTs K H xs ds as→RT K H (.ref a) (.list ds) (a :: as)
 | tup {a:Addr} {xs:List V} {ds:List D} {as:List Addr}:jT H a xs→RTs K H xs ds as→RT K H (.ref a) (.tuple ds) as
 | dic {a:Addr} {u:HO} {kvs:List (D × D)}:H a=some u→DH H u kvs→RT K H (.ref a) (.dict kvs) [a]
inductive RTs (K:PySem.W.Frag) (H:Hp):List V→List D→List Addr→Prop
 | nil:RTs K H [] [] []
 | cons {v:V} {d:D} {vs:List V} {ds:List D} {as bs:List Addr}:RT K H v d as→RTs K H vs ds bs→RTs K H (v :: vs) (d :: ds) (as++bs)
end
section
variable {K:PySem.W.Frag} {H H':Hp}
theorem RT.ind {P:V→D→List Addr→Prop} {Q:List V→List D→List Addr→Prop} (c1:P .non .none []) (c2:∀ b,P (.bl b) (.bool b) []) (c3:∀ i,P (.int i) (.int i) []) (c4:∀ x,P (.str x) (.str x) [])
 (c5:∀ {a:Addr} {xs:List V} {ds:List D} {as:List Addr},H a=some (.lst xs)→Q xs ds as→P (.ref a) (.list ds) (a :: as)) (c7:∀ {a:Addr} {xs:List V} {ds:List D} {as:List Addr},jT H a xs→Q xs ds as→P (.ref a) (.tuple ds) as)
 (c8:∀ {a:Addr} {u:HO} {kvs:List (D × D)},H a=some u→DH H u kvs→P (.ref a) (.dict kvs) [a]) (c10:Q [] [] []) (c11:∀ {v:V} {d:D} {vs:List V} {ds:List D} {as bs:List Addr},P v d as→Q vs ds bs→Q (v :: vs) (d :: ds) (as++bs)) :
 (∀ {v:V} {d:D} {as:List Addr},RT K H v d as→P v d as)∧∀ {v:List V} {d:List D} {as:List Addr},RTs K H v d as→Q v d as :=
 ⟨fun h=>RT.rec (motive_1:=fun v d as _=>P v d as) (motive_2:=fun v d as _=>Q v d as) c1 c2 c3 c4 (fun h _ q=>c5 h q) (fun h _ q=>c7 h q) (fun h g=>c8 h g) c10 (fun _ _ a q=>c11 a q) h,
  fun h=>RTs.rec (motive_1:=fun v d as _=>P v d as) (motive_2:=fun v d as _=>Q v d as) c1 c2 c3 c4 (fun h _ q=>c5 h q) (fun h _ q=>c7 h q) (fun h g=>c8 h g) c10 (fun _ _ a q=>c11 a q) h⟩
theorem RT.ra2 {ok:Ok} {pl:Bool}:(∀ {v:V} {d:D} {as:List Addr},RT K H v d as→(∀ a ∈ as,ok a)→RA K ok pl H v d)∧∀ {v:List V} {d:List D} {as:List Addr},RTs K H v d as→(∀ a ∈ as,ok a)→RAs K ok pl H v d :=
 RT.ind (fun _=>.non) (fun b _=>.bl b) (fun i _=>.int i) (fun x _=>.str x) (fun e q h=>.lst e (h _ aK) (q fun a ha=>h a (aM _ ha))) (fun e q h=>.tup e (q h)) (fun e g h=>.dic e g (h _ aK)) (fun _=>.nil) fun e q h=>.cons (e fun a ha=>h a (bD _ ha)) (q fun a ha=>h a (aU _ ha))
theorem RT.ra {ok:Ok} {pl:Bool} {v:V} {d:D} {as:List Addr} (r:RT K H v d as) (h:∀ a ∈ as,ok a):RA K ok pl H v d:=RT.ra2.1 r h
theorem RT.same2 (s:Same H H'):(∀ {v:V} {d:D} {as:List Addr},RT K H v d as→RT K H' v d as)∧∀ {v:List V} {d:List D} {as:List Addr},RTs K H v d as→RTs K H' v d as :=
 RT.ind .non .bl .int .str (fun e q=>.lst (s _ _ e) q) (fun e q=>.tup (jT.same s e) q) (fun e g=>.dic (s _ _ e) (g.same s)) .nil .cons
theorem RT.same (s:Same H H') {v:V} {d:D} {as:List Addr} (h:RT K H v d as):RT K H' v d as:=(RT.same2 s).1 h
theorem RT.upd2 {a:Addr} {u o:HO} [cu:Chg u] (h:H a=some u):(∀ {v:V} {d:D} {as:List Addr},RT K H v d as→a ∉ as→RT K (upd H a o) v d as)∧∀ {v:List V} {d:List D} {as:List Addr},RTs K H v d as→a ∉ as→RTs K (upd H a o) v d as :=
 RT.ind (fun _=>.non) (fun b _=>.bl b) (fun i _=>.int i) (fun x _=>.str x) (fun e q na=>.lst (by rwa [cJ (fun z=>na (by rw [← z];exact aK))]) (q fun z=>na (aM _ z))) (fun e q na=>.tup (jT.upd h e) (q na)) (fun e g na=>.dic (by rwa [cJ (fun z=>na (by rw [← z];exact aK))]) (g.upd h)) (fun _=>.nil) fun e q na=>.cons (e fun z=>na (bD _ z)) (q fun z=>na (aU _ z))
theorem RT.upd {a:Addr} {u o:HO} [cu:Chg u] (h:H a=some u) {v:V} {d:D} {as:List Addr} (na:a ∉ as) (r:RT K H v d as):RT K (upd H a o) v d as:=(RT.upd2 h).1 r na
theorem RT.chd2:(∀ {v:V} {d:D} {as:List Addr},RT K H v d as→∀ a ∈ as,Chd (H a))∧∀ {v:List V} {d:List D} {as:List Addr},RTs K H v d as→∀ a ∈ as,Chd (H a) :=
 RT.ind (fun _ h=>by cases h) (fun _ _ h=>by cases h) (fun _ _ h=>by cases h) (fun _ _ h=>by cases h) (fun e q a h=>by
  rcases aY.mp h with rfl | z
  ·exact ⟨_,e,inferInstance⟩
  ·exact q a z) (fun _ q=>q) (fun e g a h=>by rw [aJ.mp h];exact ⟨_,e,g.chg⟩) (fun _ h=>by cases h) fun e q a h=>by
  rcases aR.mp h with z | z
  ·exact e a z
  ·exact q a z
theorem RT.chd {v:V} {d:D} {as:List Addr} (r:RT K H v d as):∀ a ∈ as,Chd (H a):=RT.chd2.1 r
theorem RTs.chd {v:List V} {d:List D} {as:List Addr} (r:RTs K H v d as):∀ a ∈ as,Chd (H a):=RT.chd2.2 r
theorem RT.tracked {v:V} {d:D} {as:List Addr} (h:RT K H v d as) (a:Addr) (ha:a ∈ as):H a ≠ none:=(h.chd a ha).ne
theorem RA.rt2 {ok:Ok}:(∀ {v:V} {d:D},RA K ok false H v d→∃ as,RT K H v d as∧as.length=nl d∧∀ a ∈ as,ok a)∧∀ {v:List V} {d:List D},RAs K ok false H v d→∃ as,RTs K H v d as∧as.length=nls d∧∀ a ∈ as,ok a :=
 RA.ind ⟨[],.non,rfl,fun _ h=>by cases h⟩ (fun b=>⟨[],.bl b,rfl,fun _ h=>by cases h⟩) (fun i=>⟨[],.int i,rfl,fun _ h=>by cases h⟩) (fun x=>⟨[],.str x,rfl,fun _ h=>by cases h⟩) (fun e k q=>by
  obtain ⟨as,h1,h2,h3⟩:=q;refine ⟨_ :: as,.lst e h1,by rw [bH,h2,nl],fun a ha=>?_⟩;rcases aY.mp ha with rfl | z
  ·exact k
  ·exact h3 a z) (fun _ k _=>by cases k) (fun e q=>by
  obtain ⟨as,h1,h2,h3⟩:=q;exact ⟨as,.tup e h1,by rw [h2,nl],h3⟩) (fun e g k=>⟨[_],.dic e g,by simp [nl],fun a ha=>by rwa [aJ.mp ha]⟩) (fun _ _ k=>by cases k) ⟨[],.nil,rfl,fun _ h=>by cases h⟩ fun e q=>by
  obtain ⟨as,h1,h2,h3⟩:=e;obtain ⟨bs,g1,g2,g3⟩:=q;refine ⟨as++bs,.cons h1 g1,by rw [bL,h2,g2,nls],fun a ha=>?_⟩;rcases aR.mp ha with z | z
  ·exact h3 a z
  ·exact g3 a z
theorem RA.rt {ok:Ok} {v:V} {d:D} (h:RA K ok false H v d):∃ as,RT K H v d as∧as.length=nl d∧∀ a ∈ as,ok a:=RA.rt2.1 h
end
def tabs:List (Addr × Str × Pos):=[(392, "row_of.<locals>.<lambda>", ⟨232,30,232,59⟩),(232, "still_to_come.<locals>.<lambda>", ⟨86,30,86,59⟩)]
def Tb (H:Hp):Prop:=∀ t ∈ tabs,H t.1=some (.tbl t.2.1 t.2.2)
theorem Tb.same {H H':Hp} (t:Tb H) (s:Same H H'):Tb H':=fun x hx=>s _ _ (t x hx)
structure Gh where
 H0:Hp
 HF:Hp
 pk:Nat→Option Addr
 pn:Nat→List Addr
 tb:Tb H0
structure Ow where
 s:Nat→Option Addr
 n:Nat→List Addr:=fun _=>[]
instance:CoeFun Ow (fun _=>Nat→Option Addr):=⟨Ow.s⟩
abbrev ow0:Ow:=⟨fun _=>none,fun _=>[]⟩
noncomputable def okA (ow:Ow):Ok:=fun a=>(∀ i,ow i ≠ some a)∧∀ i,a ∉ ow.n i
structure Rel (K:PySem.W.Frag) (fl:List Fl) (G:Gh) (ow:Ow) (σ:St) (H:Hp) (δ:DS):Prop where
 s0:Same G.H0 G.HF
 s1:Same G.HF H
 len:σ.length=δ.length
 own:∀ i a,ow i=some a→G.H0 a=none∧((fl[i]? = some .O∧G.HF a=none)∨(fl[i]? = some .L∧∃ xs,G.HF a=some (.lst xs))) ∧
  ∃ xs ds,σ[i]? = some (some (.ref a))∧H a=some (.lst xs)∧RAs K (okA ow) true H xs ds∧δ[i]? = some (some (.d (.list ds)))
 inj:∀ i j a,ow i=some a→ow j=some a→i=j
 pin:∀ i,fl[i]? = some .L→ow i=G.pk i
 dat:∀ i d,δ[i]? = some (some (.d d))→isN fl[i]? = false→ow i=none→∃ v,σ[i]? = some (some v)∧RA K (okA ow) true H v d
 oo:∀ i d,δ[i]? = some (some (.d d))→isN fl[i]? = false→fl[i]? ≠ some .A→ow i=none→flat d=true
 nt:∀ i a,a ∈ ow.n i→G.H0 a=none∧Chd (H a)∧((fl[i]? = some .N∧G.HF a=none)∨fl[i]? = some .M)
 nd:∀ i j a,a ∈ ow.n i→a ∈ ow.n j→i=j
 ns:∀ i j a,a ∈ ow.n i→ow j ≠ some a
 np:∀ i,fl[i]? = some .M→ow.n i=G.pn i
 nr:∀ i d,isN fl[i]? = true→δ[i]? = some (some (.d d))→∃ v,σ[i]? = some (some v)∧RT K H v d (ow.n i)∧(ow.n i).Nodup
theorem Rel.tb {K:PySem.W.Frag} {fl:List Fl} {G:Gh} {ow:Ow} {σ:St} {H:Hp} {δ:DS} (R:Rel K fl G ow σ H δ):Tb H:=G.tb.same (R.s0.trans R.s1)
theorem Rel.same0 {K:PySem.W.Frag} {fl:List Fl} {G:Gh} {ow:Ow} {σ:St} {H:Hp} {δ:DS} (R:Rel K fl G ow σ H δ):Same G.H0 H:=R.s0.trans R.s1
theorem Rel.grow {K:PySem.W.Frag} {fl:List Fl} {G:Gh} {ow:Ow} {σ:St} {H H':Hp} {δ:DS} (R:Rel K fl G ow σ H δ) (e:Same H H'):Rel K fl G ow σ H' δ :=
 ⟨R.s0,R.s1.trans e,R.len,fun i a h=>by
  obtain ⟨h0,hf,xs,ds,h1,h2,h3,h4⟩:=R.own i a h;exact ⟨h0,hf,xs,ds,h1,e _ _ h2,h3.same e,h4⟩,R.inj,R.pin,fun i d h1 hn h2=>by
  obtain ⟨v,h3,h4⟩:=R.dat i d h1 hn h2;exact ⟨v,h3,h4.same e⟩,R.oo,fun i a h=>by
  obtain ⟨h1,h2,h3⟩:=R.nt i a h;exact ⟨h1,(let ⟨u,z,c⟩:=h2;⟨u,e _ _ z,c⟩),h3⟩,R.nd,R.ns,R.np,fun i d h1 h2=>by
  obtain ⟨v,h3,h4,h5⟩:=R.nr i d h1 h2;exact ⟨v,h3,h4.same e,h5⟩⟩
inductive Kd where
 | P
 | B (L:List Nat)
 | A
 | R
 | F
 | C
 | FC
 | T
noncomputable def ok1:Ok:=fun _=>True
def ok0:Ok:=fun _=>False
def okN (H:Hp):Ok:=fun a=>H a=none
def Rs (K:PySem.W.Frag) (H0:Hp) (ow:Ow) (Hb H:Hp):Kd→V→D→Prop
 | .P,v,d=>RA K ok1 true H v d
 | .B L,v,d=>RA K (okA ow) true H v d∨∃ i ∈ L,∃ a xs ds,ow i=some a∧v = .ref a∧d = .list ds∧H a=some (.lst xs)∧RAs K (okA ow) true H xs ds
 | .A,v,d=>RA K (okA ow) true H v d
 | .R,v,d=>RA K (okN H0) false H v d
 | .F,v,d=>(flat d=true∧RA K ok0 false H v d)∨∃ a xs ds,v = .ref a∧d = .list ds∧Hb a=none∧H a=some (.lst xs)∧RAs K (fun b=>okA ow b∧b ≠ a) true H xs ds
 | .C,v,d=>RA K (okN Hb) false H v d
 | .T,v,d=>∃ as,RT K H v d as∧as.Nodup∧∀ a ∈ as,Hb a=none
 | .FC,v,d=>(flat d=true∧RA K ok0 false H v d)∨∃ a xs ds,v = .ref a∧d = .list ds∧Hb a=none∧H a=some (.lst xs)∧RAs K (fun b=>okN Hb b∧b ≠ a) false H xs ds
section
variable {K:PySem.W.Frag} {Hb H H':Hp} {fl:List Fl} {G:Gh} {ow:Ow} {σ:St} {δ:DS} {v:V} {d:D}
theorem zW (R:Rel K fl G ow σ Hb δ) {a:Addr} (h:Hb a=none):okA ow a:=⟨fun i e=>(by
 obtain ⟨_,_,xs,_,_,h2,_⟩:=R.own i a e;rw [h] at h2
 cases h2),fun i e=>(R.nt i a e).2.1.ne h⟩
theorem VR (R:Rel K fl G ow σ Hb δ) {a:Addr} (h:Hb a=none):okN G.H0 a:=R.same0.free h
theorem Rs.FC_F (R:Rel K fl G ow σ Hb δ) (h:Rs K G.H0 ow Hb H .FC v d):Rs K G.H0 ow Hb H .F v d:=by
 rcases h with h | ⟨a,xs,ds,h1,h2,h3,h4,h5⟩
 ·exact .inl h
 ·exact .inr ⟨a,xs,ds,h1,h2,h3,h4,h5.imp (fun b z=>⟨zW R z.1,z.2⟩) (fun _=>rfl)⟩
theorem Rs.FC_C (h:Rs K G.H0 ow Hb H .FC v d):Rs K G.H0 ow Hb H .C v d:=by
 rcases h with h | ⟨a,xs,ds,rfl,rfl,h3,h4,h5⟩
 ·exact RA.flat h.1 h.2
 ·exact .lst h4 h3 (h5.imp (fun b z=>z.1) (fun z=>z))
theorem Rs.F_A (R:Rel K fl G ow σ Hb δ) (h:Rs K G.H0 ow Hb H .F v d):Rs K G.H0 ow Hb H .A v d:=by
 rcases h with h | ⟨a,xs,ds,rfl,rfl,h3,h4,h5⟩
 ·exact RA.flat h.1 h.2
 ·exact .lst h4 (zW R h3) (h5.imp (fun b z=>z.1) (fun z=>z))
theorem Rs.C_A (R:Rel K fl G ow σ Hb δ) (h:Rs K G.H0 ow Hb H .C v d):Rs K G.H0 ow Hb H .A v d:=RA.imp (fun _ z=>zW R z) (fun _=>rfl) h
theorem Rs.C_R (R:Rel K fl G ow σ Hb δ) (h:Rs K G.H0 ow Hb H .C v d):Rs K G.H0 ow Hb H .R v d:=RA.imp (fun _ z=>VR R z) (fun z=>z) h
theorem Rs.A_B (L:List Nat) (h:Rs K G.H0 ow Hb H .A v d):Rs K G.H0 ow Hb H (.B L) v d:=.inl h
theorem Rs.B_P {L:List Nat} (h:Rs K G.H0 ow Hb H (.B L) v d):Rs K G.H0 ow Hb H .P v d:=by
 rcases h with h | ⟨i,_,a,xs,ds,_,rfl,rfl,h4,h5⟩
 ·exact RA.imp (fun _ _=>trivial) (fun z=>z) h
 ·exact .lst h4 trivial (h5.imp (fun _ _=>trivial) (fun z=>z))
theorem Rs.P_flat (hf:flat d=true) (h:Rs K G.H0 ow Hb H .P v d):Rs K G.H0 ow Hb H .FC v d:=.inl ⟨hf,RA.flat hf h⟩
theorem Rs.C_fl1 (hf:fl1 d=true) (h:Rs K G.H0 ow Hb H .C v d):Rs K G.H0 ow Hb H .FC v d:=by
 by_cases e:∃ ds,d = .list ds
 ·obtain ⟨ds,rfl⟩:=e
  cases h with
  | lst e k q=>exact .inr ⟨_,_,_,rfl,rfl,k,e,RAs.flat hf q⟩
  | lsk e k q=>cases k
 ·have hf':flat d=true:=by
   cases d <;> first | exact hf | exact absurd ⟨_,rfl⟩ e
  exact .inl ⟨hf',RA.flat hf' h⟩
end
noncomputable def tD (K:PySem.W.Frag) (fl:List Fl) (k:Kd) (f:FE):TE:=fun σ H Q=>∃ G ow δ d,Rel K fl G ow σ H δ∧f δ=some d∧∀ v H',Same H H'→Rs K G.H0 ow H H' k v d→Q v H'
abbrev DE (X:Cx) (fl:List Fl) (k:Kd) (e:Expr) (f:FE):Prop:=PE X e (tD X.K fl k f)
def tDA (K:PySem.W.Frag) (fl:List Fl) (f:FA):TA:=fun σ H Q=>∃ G ow δ ds,Rel K fl G ow σ H δ∧f δ=some ds∧∀ vs H',Same H H'→RAs K ok1 true H' vs ds→Q vs H'
abbrev DA (X:Cx) (fl:List Fl) (es:List Expr) (f:FA):Prop:=PA X es (tDA X.K fl f)
def tDT (K:PySem.W.Frag) (fl:List Fl) (f:FT):TT:=fun σ H Q=>∃ G ow δ b,Rel K fl G ow σ H δ∧f δ=some b∧∀ H',Same H H'→Q b H'
abbrev DT (X:Cx) (fl:List Fl) (e:Expr) (f:FT):Prop:=PT X e (tDT X.K fl f)
abbrev DW (X:Cx) (fl:List Fl) (e:Expr) (f:FT):Prop:=PW X e (tDT X.K fl f)
def Eh (K:PySem.W.Frag) (fl:List Fl) (G:Gh) (Dn:Ends):Oc→Prop
 | .nx δ'=>∀ ow' σ' H',Rel K fl G ow' σ' H' δ'→Dn.nx σ' H'
 | .rt d=>∀ v H',Same G.H0 H'→RA K (okN G.H0) false H' v d→Dn.rt v H'
 | .bk δ'=>∀ ow' σ' H',Rel K fl G ow' σ' H' δ'→Dn.bk σ' H'
 | .ct δ'=>∀ ow' σ' H',Rel K fl G ow' σ' H' δ'→Dn.ct σ' H'
 | .ex _ _ d=>∀ v H',Same G.H0 H'→RA K ok1 true H' v d→Dn.rt v H'
def tDS (K:PySem.W.Frag) (fl:List Fl) (f:FS):TS:=fun Dn σ H=>∃ G ow δ o,Rel K fl G ow σ H δ∧f δ=some o∧Eh K fl G Dn o
abbrev DS1 (X:Cx) (fl:List Fl) (s:Stmt) (f:FS):Prop:=PS X s (tDS X.K fl f)
abbrev DSs (X:Cx) (fl:List Fl) (s:List Stmt) (f:FS):Prop:=PSs X s (tDS X.K fl f)
def tDG (K:PySem.W.Frag) (fl:List Fl) (tg:List Nat) (g:FG):TG:=fun v σ H Q=>∃ G ow δ d δ',Rel K fl G ow σ H δ∧RA K (okA ow) true H v d∧g d δ=some δ'∧∀ σ',Rel K fl G ow σ' H δ'→(∀ j,j ∉ tg→σ'[j]? = σ[j]?)→Q σ' H
abbrev DG (X:Cx) (fl:List Fl) (tg:List Nat) (e:Expr) (g:FG):Prop:=PG X e (tDG X.K fl tg g)
section
variable {X:Cx} {e:Expr} {es:List Expr} {st:Stmt} {sts:List Stmt}
theorem PE.imp {t t':TE} (h:PE X e t) (i:∀ σ H Q,t' σ H Q→t σ H Q):PE X e t':=fun pins s σ H Q I q=>h pins s σ H Q I (i σ H Q q)
theorem PT.imp {t t':TT} (h:PT X e t) (i:∀ σ H Q,t' σ H Q→t σ H Q):PT X e t':=fun pins s σ H Q I q=>h pins s σ H Q I (i σ H Q q)
theorem PW.imp {t t':TT} (h:PW X e t) (i:∀ σ H Q,t' σ H Q→t σ H Q):PW X e t':=fun w pins s σ H Q I q=>h w pins s σ H Q I (i σ H Q q)
theorem PA.imp {t t':TA} (h:PA X es t) (i:∀ σ H Q,t' σ H Q→t σ H Q):PA X es t':=fun p pins s σ H Q I q=>h p pins s σ H Q I (i σ H Q q)
theorem PS.imp {t t':TS} (h:PS X st t) (i:∀ D σ H,t' D σ H→t D σ H):PS X st t':=fun pins s σ H D I q=>h pins s σ H D I (i D σ H q)
theorem PSs.imp {t t':TS} (h:PSs X sts t) (i:∀ D σ H,t' D σ H→t D σ H):PSs X sts t':=fun pins s σ H D I q=>h pins s σ H D I (i D σ H q)
theorem PG.imp {t t':TG} (h:PG X e t) (i:∀ v σ H Q,t' v σ H Q→t v σ H Q):PG X e t':=fun pins s σ H v u Q I r q=>h pins s σ H v u Q I r (i v σ H Q q)
end
end D3
namespace D3
open PySem PySem.Spec PyProof.Rows L2 My
section
variable {X:Cx} {fl:List Fl} {e a b c:Expr} {es:List Expr} {k:Kd} {f fa fb fc:FE} {pos:Pos}
theorem m7 {i:Nat} {δ:DS} {d:D} (h:aj i δ=some d):δ[i]? = some (some (.d d)):=by
 unfold aj at h;split at h
 ·next x e=>rw [e];cases h;rfl
 ·cases h
theorem o_ (i:Nat) {x:Str} (hN:X.N[i]? = some x:=by rfl) (hv:Vis X.env.scope x:=by first | exact Or.inl rfl | exact Or.inr (Or.inl rfl) | exact Or.inr (Or.inr rfl)) (hd:(x == ("__debug__" : Str))=false:=by decide)
 (hcd:(x == ("__classdict__" : Str))=false:=by decide) (hn:isN fl[i]? = false:=by rfl):DE X fl (.B [i]) (.Name x pos) (aj i):=by
 refine PE.imp (oZ hN hv hd hcd) fun σ H Q h=>?_
 refine D3.ex4 h fun G ow δ d R hf q=>?_
 have e:=m7 hf
 cases ho:ow i with
 | none =>
  obtain ⟨v,h1,h2⟩:=R.dat i d e hn ho;exact ⟨v,h1,q v H (Same.refl H) (.inl h2)⟩
 | some a =>
  obtain ⟨h0,_,xs,ds,h1,h2,h3,h4⟩:=R.own i a ho;rw [e] at h4
  cases h4;exact ⟨_,h1,q _ H (Same.refl H) (.inr ⟨i,aJ.mpr rfl,a,xs,ds,ho,rfl,rfl,h2,h3⟩)⟩
theorem zX (i:Nat) (hfl:fl[i]? = some .A) {x:Str} (hN:X.N[i]? = some x:=by rfl) (hv:Vis X.env.scope x:=by first | exact Or.inl rfl | exact Or.inr (Or.inl rfl) | exact Or.inr (Or.inr rfl)) (hd:(x == ("__debug__" : Str))=false:=by decide)
 (hcd:(x == ("__classdict__" : Str))=false:=by decide):DE X fl .A (.Name x pos) (aj i):=by
 refine PE.imp (oZ hN hv hd hcd) fun σ H Q h=>?_
 refine D3.ex4 h fun G ow δ d R hf q=>?_
 have e:=m7 hf
 cases ho:ow i with
 | none =>
  obtain ⟨v,h1,h2⟩:=R.dat i d e (by rw [hfl];rfl) ho;exact ⟨v,h1,q v H (Same.refl H) h2⟩
 | some a =>
  obtain ⟨h0,hz,_⟩:=R.own i a ho;rw [hfl] at hz;rcases hz with ⟨z,_⟩ | ⟨z,_⟩ <;> cases z
theorem oO (i:Nat) (hfl:fl[i]? ≠ some .A) {x:Str} (hN:X.N[i]? = some x:=by rfl) (hv:Vis X.env.scope x:=by first | exact Or.inl rfl | exact Or.inr (Or.inl rfl) | exact Or.inr (Or.inr rfl)) (hd:(x == ("__debug__" : Str))=false:=by decide)
 (hcd:(x == ("__classdict__" : Str))=false:=by decide) (hn:isN fl[i]? = false:=by rfl):DE X fl .R (.Name x pos) (tV (aj i)):=by
 refine PE.imp (oZ hN hv hd hcd) fun σ H Q h=>?_
 refine D3.ex4 h fun G ow δ d R hf q=>?_
 unfold tV at hf
 cases hv':aj i δ with
 | none=>rw [hv'] at hf;cases hf
 | some d' =>
  rw [hv',aN] at hf;by_cases hc:fl1 d'=true
  ·rw [if_pos hc] at hf
   cases hf;have e:=m7 hv'
   cases ho:ow i with
   | none =>
    obtain ⟨v,h1,h2⟩:=R.dat i d e hn ho;exact ⟨v,h1,q v H (Same.refl H) (RA.flat (R.oo i d e hn hfl ho) h2)⟩
   | some a =>
    obtain ⟨h0,_,xs,ds,h1,h2,h3,h4⟩:=R.own i a ho;rw [e] at h4
    cases h4;exact ⟨_,h1,q _ H (Same.refl H) (.lst h2 h0 (RAs.flat hc h3))⟩
  ·rw [if_neg hc] at hf
   cases hf
theorem qe {k k':Kd} (h:DE X fl k e f) (hc:∀ (Hb H:Hp) (G:Gh) (ow:Ow) (σ:St) (δ:DS) (v:V) (d:D),Rel X.K fl G ow σ Hb δ→Rs X.K G.H0 ow Hb H k v d→Rs X.K G.H0 ow Hb H k' v d):DE X fl k' e f:=by
 refine PE.imp h fun σ H Q h=>?_
 refine D3.ex4 h fun G ow δ d R hf q=>?_
 exact ⟨G,ow,δ,d,R,hf,fun v H' s r=>q v H' s (hc _ _ G ow σ δ v d R r)⟩
theorem BZ {k k':Kd} {p:D→Bool} (h:DE X fl k e f) (hc:∀ (Hb H:Hp) (G:Gh) (ow:Ow) (σ:St) (δ:DS) (v:V) (d:D),p d=true→Rel X.K fl G ow σ Hb δ→Rs X.K G.H0 ow Hb H k v d→Rs X.K G.H0 ow Hb H k' v d) :
 DE X fl k' e (fun δ=>(f δ).bind fun d=>if p d=true then some d else none):=by
 refine PE.imp h fun σ H Q h=>?_
 refine D3.ex4 h fun G ow δ d R hf q=>?_
 dsimp only at hf
 cases hv:f δ with
 | none=>rw [hv] at hf;cases hf
 | some d' =>
  rw [hv,aN] at hf;by_cases hp:p d'=true
  ·rw [if_pos hp] at hf
   cases hf;exact ⟨G,ow,δ,d,R,hv,fun v H' s r=>q v H' s (hc _ _ G ow σ δ v d hp R r)⟩
  ·rw [if_neg hp] at hf
   cases hf
theorem tG (h:DE X fl .FC e f):DE X fl .F e f:=qe h fun _ _ _ _ _ _ _ _ R r=>r.FC_F R
theorem h_ (h:DE X fl .FC e f):DE X fl .C e f:=qe h fun _ _ _ _ _ _ _ _ R r=>r.FC_C
theorem nW (h:DE X fl .F e f):DE X fl .A e f:=qe h fun _ _ _ _ _ _ _ _ R r=>r.F_A R
theorem iB (h:DE X fl .C e f):DE X fl .A e f:=qe h fun _ _ _ _ _ _ _ _ R r=>r.C_A R
theorem tW (h:DE X fl .C e f):DE X fl .R e f:=qe h fun _ _ _ _ _ _ _ _ R r=>r.C_R R
theorem dN (h:DE X fl .A e f):DE X fl (.B []) e f:=qe h fun _ _ _ _ _ _ _ _ R r=>Rs.A_B [] r
theorem tX {L:List Nat} (h:DE X fl (.B L) e f):DE X fl .P e f:=qe h fun _ _ _ _ _ _ _ _ R r=>r.B_P
theorem eF (h:DE X fl .P e f):DE X fl .FC e (cW f):=BZ h fun _ _ _ _ _ _ _ _ hf R r=>r.P_flat hf
theorem J9 (h:DE X fl .C e f):DE X fl .FC e (tV f):=BZ h fun _ _ _ _ _ _ _ _ hf R r=>r.C_fl1 hf
theorem fJ (h:DE X fl .FC e f):DE X fl .A e f:=nW (tG h)
theorem bT (h:DE X fl .FC e f):DE X fl .R e f:=tW (h_ h)
theorem bZ (h:DE X fl .A e f):DE X fl .P e f:=tX (dN h)
theorem cY (h:DE X fl .C e f):DE X fl .P e f:=bZ (iB h)
theorem bG (h:DE X fl .FC e f):DE X fl .P e f:=bZ (fJ h)
theorem lB (h:DE X fl .F e f):DE X fl .P e f:=bZ (nW h)
theorem wK {v:V} {d:D} (h:PE X e (tC v)) (hf:flat d=true) (hr:∀ H,RA X.K ok0 false H v d):DE X fl .FC e (dC d):=by
 refine PE.imp h fun σ H Q h=>?_
 refine D3.ex4 h fun G ow δ d' R hd q=>?_
 cases hd;exact q v H (Same.refl H) (.inl ⟨hf,hr H⟩)
theorem J_ {i j pos}:DE X fl .FC (.Constant (.int i) j pos) (dC (.int i)):=wK Ro rfl fun _=>.int _
theorem jM {b j pos}:DE X fl .FC (.Constant (.bool b) j pos) (dC (.bool b)):=wK QG rfl fun _=>.bl _
theorem wM {j pos}:DE X fl .FC (.Constant .none j pos) (dC .none):=wK Jy rfl fun _=>.non
theorem uL {x j pos}:DE X fl .FC (.Constant (.str x) j pos) (dC (.str x)):=wK Rp rfl fun _=>.str _
theorem Nz {x:Str} {i:Int} {pos:Pos} (h:∃ t,X.mg x=some (.int i t)) (hg:Gl X x:=by rfl) (hd:(x == ("__debug__" : Str))=false:=by decide):DE X fl .FC (.Name x pos) (dC (.int i)):=by
 obtain ⟨t,h⟩:=h;exact wK (M4 (v:=.int i) hg h ⟨t,rfl⟩ hd) rfl fun _=>.int _
def BrO (K:PySem.W.Frag) (r:R2) (g:D→D→Option D):Prop:=∀ (H:Hp) (x y:V) (dx dy d:D) (Q:VK),RA K ok1 true H x dx→RA K ok1 true H y dy→g dx dy=some d→(∀ v,flat d=true→RA K ok0 false H v d→Q v H)→r x y H Q
theorem B_ {fa fb:FE} {g:D→D→Option D} {δ:DS} {d:D} (h:dOp g fa fb δ=some d):∃ x y,fa δ=some x∧fb δ=some y∧g x y=some d:=by
 unfold dOp at h
 cases ha:fa δ with
 | none=>rw [ha] at h;cases h
 | some x =>
  rw [ha,aN] at h
  cases hb:fb δ with
  | none=>rw [hb] at h;cases h
  | some y =>
   rw [hb,aN] at h;exact ⟨x,y,rfl,rfl,h⟩
theorem bind1 {α β:Type} {x:Option α} {g:α→Option β} {d:β} (h:x.bind g=some d):∃ y,x=some y∧g y=some d:=by
 cases x with
 | none=>cases h
 | some y=>exact ⟨y,rfl,h⟩
theorem uM {r:R2} {g:D→D→Option D} {σ:St} {H:Hp} {Q:VK} (hb:BrO X.K r g) (h:tD X.K fl .FC (dOp g fa fb) σ H Q):tOp r (tD X.K fl .P fa) (tD X.K fl .P fb) σ H Q:=by
 refine D3.ex4 h fun G ow δ d R hf q=>?_
 refine D3.ex2 (B_ hf) fun x y e1 e2 e3=>?_
 refine ⟨G,ow,δ,x,R,e1,fun v H1 s1 r1=>⟨G,ow,δ,y,R.grow s1,e2,fun u H2 s2 r2=>?_⟩⟩;exact hb H2 v u x y d Q (RA.same s2 r1) r2 e3 fun z hz rz=>q z H2 (s1.trans s2) (.inl ⟨hz,rz⟩)
theorem dH {op:Operator} {r:R2} {g:D→D→Option D} (ho:OpR X (binaryOp op) r) (hb:BrO X.K r g) (h1:DE X fl .P a fa) (h2:DE X fl .P b fb):DE X fl .FC (.BinOp a op b pos) (dOp g fa fb) :=
 PE.imp (JM ho h1 h2) fun _ _ _ h=>uM hb h
theorem jF {op:CmpOp} {r:R2} {g:D→D→Option D} (ho:OpR X (compareOp op) r) (hb:BrO X.K r g) (h1:DE X fl .P a fa) (h2:DE X fl .P b fb) (hm:behindInMarks op b=false):DE X fl .FC (.Compare a [op] [b] pos) (dOp g fa fb) :=
 PE.imp (Nf ho h1 h2 hm) fun _ _ _ h=>uM hb h
theorem cI {op:CmpOp} {r:R2} {g:D→D→Option D} (ho:OpR X (compareOp op) r) (hb:BrO X.K r g) (h1:DE X fl .P a fa) (h2:DE X fl .P b fb) (hm:behindInMarks op b=false):DT X fl (.Compare a [op] [b] pos) (bh (dOp g fa fb)):=by
 refine PT.imp (Ng ho h1 h2 hm) fun σ H Q h=>?_
 refine D3.ex4 h fun G ow δ c R hf q=>?_
 refine D3.ex1 (bind1 hf) fun d e1 e2=>?_
 cases d <;> first | (cases e2;done) | skip
 cases e2;refine uM (fl:=fl) (fa:=fa) (fb:=fb) hb ⟨G,ow,δ,_,R,e1,fun v H' s r=>?_⟩;obtain rfl:=(Rs.FC_C r).blE;exact ⟨_,rfl,q H' s⟩
theorem jr (h:DE X fl .P e f) (he:∀ whole,isTrue e X.env whole=(do let v ← whole;standAt e.pos;holding [v] (truthy v)):=by intro _;rfl):DT X fl e (bh f):=by
 refine PT.imp (Rq h he) fun σ H Q h=>?_
 refine D3.ex4 h fun G ow δ c R hf q=>?_
 refine D3.ex1 (bind1 hf) fun d e1 e2=>?_
 cases d <;> first | (cases e2;done) | skip
 cases e2;refine ⟨G,ow,δ,_,R,e1,fun v H' s r=>?_⟩;obtain rfl:=RA.blE r;exact ⟨_,rfl,q H' s⟩
theorem zj {K:PySem.W.Frag} {h:Int→Int→V} {g:Int→Int→D} (hf:∀ i j,flat (g i j)=true) (hr:∀ H i j,RA K ok0 false H (h i j) (g i j)):BrO K (rI0 h) (gI fun i j=>some (g i j)):=by
 intro H x y dx dy d Q rx ry e q;unfold gI at e;split at e
 ·next i j =>
  cases e;exact ⟨i,j,rx.intE,ry.intE,q _ (hf i j) (hr H i j)⟩
 ·cases e
theorem NK {K:PySem.W.Frag} {C:Int→Int→Prop} {h:Int→Int→V} {g:Int→Int→D} {c:Int→Int→Bool} (hc:∀ i j,c i j=true→C i j) (hf:∀ i j,flat (g i j)=true) (hr:∀ H i j,RA K ok0 false H (h i j) (g i j)) :
 BrO K (rI C h) (gI fun i j=>if c i j=true then some (g i j) else none):=by
 intro H x y dx dy d Q rx ry e q;unfold gI at e;split at e
 ·next i j =>
  dsimp only at e;by_cases z:c i j=true
  ·rw [if_pos z] at e
   cases e;exact ⟨i,j,rx.intE,ry.intE,hc i j z,q _ (hf i j) (hr H i j)⟩
  ·rw [if_neg z] at e
   cases e
 ·cases e
end
section
variable {X:Cx} {K:PySem.W.Frag}
theorem NP {i j:Int} (h:uJ i j=true):IntMulOk i j:=by
 unfold uJ at h;rw [Bool.or_eq_true,Bool.or_eq_true,aW] at h;rcases h with (h | h) | ⟨h1,h2⟩
 ·exact IntMulOk.of_left (PySem.intBits_le_iff.mpr (of_decide_eq_true h))
 ·exact IntMulOk.of_right (PySem.intBits_le_iff.mpr (of_decide_eq_true h))
 ·exact PySem.IntMulOk.of_le (PySem.intBits_le_iff.mpr (of_decide_eq_true h1)) (PySem.intBits_le_iff.mpr (of_decide_eq_true h2)) (by decide)
theorem lD:OpR X (binaryOp .Mult) (rI (fun i j=>uJ i j=true) fun i j=>.int (i * j)):=opI fun _ _ _ _ _ _ _ hc q=>mul_int q (NP hc)
theorem Gp:OpR X (binaryOp .FloorDiv) (rI (fun i j=>Eb i j=true) fun i j=>.int (i.fdiv j)):=opI fun i j _ _ _ _ _ hc q=>by
 unfold Eb at hc;rw [aW] at hc;have h1:=of_decide_eq_true hc.1;have h2:=of_decide_eq_true hc.2;refine floordiv_int h1 q (.inl (PyProof.noPylong_of_log2 ?_));exact (Nat.log2_lt (by omega)).mpr h2
theorem NQ {i j:Int} (h:Sg i j=true):RQ i j:=by
 unfold Sg at h;rw [aW,aW] at h;have h1:=of_decide_eq_true h.1.1;have h2:=of_decide_eq_true h.1.2;exact ⟨h1,by omega,of_decide_eq_true h.2⟩
theorem jj:BrO K (rI0 fun i j=>.int (i + j)) i_:=zj (fun _ _=>rfl) fun _ _ _=>.int _
theorem QM:BrO K (rI0 fun i j=>.int (i - j)) DK:=zj (fun _ _=>rfl) fun _ _ _=>.int _
theorem rK:BrO K (rI (fun i j=>uJ i j=true) fun i j=>.int (i * j)) mU:=NK (fun _ _ h=>h) (fun _ _=>rfl) fun _ _ _=>.int _
theorem QS:BrO K (rI (fun i j=>Eb i j=true) fun i j=>.int (i.fdiv j)) BX:=NK (fun _ _ h=>h) (fun _ _=>rfl) fun _ _ _=>.int _
theorem tY:BrO K (rI (fun _ j=>j ≠ 0) fun i j=>.int (i.fmod j)) tE:=NK (fun _ _ h=>of_decide_eq_true h) (fun _ _=>rfl) fun _ _ _=>.int _
theorem V0:BrO K (rI RQ fun i j=>.int (i ^ j.toNat)) Sq:=NK (fun _ _ h=>NQ h) (fun _ _=>rfl) fun _ _ _=>.int _
theorem b_lt:BrO K (rI0 fun i j=>.bl (decide (i < j))) gLt:=zj (fun _ _=>rfl) fun _ _ _=>.bl _
theorem vK:BrO K (rI0 fun i j=>.bl (decide (i ≤ j))) gLe:=zj (fun _ _=>rfl) fun _ _ _=>.bl _
theorem yw:BrO K (rI0 fun i j=>.bl (decide (j < i))) gGt:=zj (fun _ _=>rfl) fun _ _ _=>.bl _
theorem NT:BrO K (rI0 fun i j=>.bl (decide (j ≤ i))) gGe:=zj (fun _ _=>rfl) fun _ _ _=>.bl _
theorem mV:BrO K (VL K) gEq:=by
 intro H x y dx dy d Q rx ry e q;unfold gEq at e;by_cases z:(SeqAt.shaped dx && SeqAt.shaped dy)=true
 ·rw [if_pos z] at e
  cases e;rw [aW] at z;exact ⟨dx,dy,rx.rd (ad z.1),ry.rd (ad z.2),z.1,z.2,q _ rfl (.bl _)⟩
 ·rw [if_neg z] at e
  cases e
theorem Ca:BrO K (VN K) gNe:=by
 intro H x y dx dy d Q rx ry e q;unfold gNe at e;by_cases z:(SeqAt.shaped dx && SeqAt.shaped dy)=true
 ·rw [if_pos z] at e
  cases e;rw [aW] at z;exact ⟨dx,dy,rx.rd (ad z.1),ry.rd (ad z.2),z.1,z.2,q _ rfl (.bl _)⟩
 ·rw [if_neg z] at e
  cases e
end
end D3
namespace D3
open PySem PySem.Spec PyProof.Rows L2 My
section
variable {X:Cx} {fl:List Fl} {e a b c:Expr} {es:List Expr} {st:Stmt} {sts body orelse:List Stmt} {k:Kd} {f fa fb fc:FE} {fs gs:FS} {ft gt:FT} {pos:Pos}
theorem Eh.nx_imp {K:PySem.W.Frag} {G:Gh} {Dn:Ends} {N:St→Hp→Prop} {o:Oc} (h:Eh K fl G Dn o) (hn:∀ δ',o ≠ .nx δ'):Eh K fl G { Dn with nx:=N } o:=by
 cases o with
 | nx δ'=>exact absurd rfl (hn δ')
 | rt d=>exact h
 | bk δ'=>exact h
 | ct δ'=>exact h
 | ex c f v=>exact h
theorem cA:DSs X fl [] dG:=PSs.imp M7 fun Dn σ H h=>by
 refine D3.ex4 h fun G ow δ o R hf q=>?_
 cases hf;exact q ow σ H R
theorem aL (h1:DS1 X fl st fs) (h2:DSs X fl sts gs):DSs X fl (st :: sts) (bQ fs gs):=PSs.imp (JC h1 h2) fun Dn σ H h=>by
 refine D3.ex4 h fun G ow δ o R hf q=>?_
 refine D3.ex1 (bind1 hf) fun o1 e1 e2=>?_
 refine ⟨G,ow,δ,o1,R,e1,?_⟩
 cases o1 with
 | nx δ'=>exact fun ow' σ' H' R'=>⟨G,ow',δ',o,R',e2,q⟩
 | rt d=>cases e2;exact Eh.nx_imp q (fun _ z=>by cases z)
 | bk d=>cases e2;exact Eh.nx_imp q (fun _ z=>by cases z)
 | ct d=>cases e2;exact Eh.nx_imp q (fun _ z=>by cases z)
 | ex c f v=>cases e2;exact q
theorem aO (h1:DS1 X fl st fs):DSs X fl [st] fs:=PSs.imp (M8 h1) fun _ _ _ h=>h
theorem bN (h:DE X fl .R e f):DS1 X fl (.Return (some e) pos) (cL f):=PS.imp (Ry h) fun Dn σ H h=>by
 refine D3.ex4 h fun G ow δ o R hf q=>?_
 refine D3.ex1 (bind1 hf) fun d e1 e2=>?_
 cases e2;exact ⟨G,ow,δ,d,R,e1,fun v H' s r=>q v H' (R.same0.trans s) r⟩
theorem lE (h:DE X fl .P e f) (hs:swapsWith e none pos.line X.env=pure false:=by rfl):DS1 X fl (.Expr e pos) (pD f):=PS.imp (vO h hs) fun Dn σ H h=>by
 refine D3.ex4 h fun G ow δ o R hf q=>?_
 refine D3.ex1 (bind1 hf) fun d e1 e2=>?_
 cases e2;exact ⟨G,ow,δ,d,R,e1,fun v H' s r=>q ow σ H' (R.grow s)⟩
theorem dF (hc:DT X fl c ft) (h1:DSs X fl body fs) (h2:DSs X fl orelse gs):DS1 X fl (.If c body orelse pos) (sIf ft fs gs):=PS.imp (Vs hc h1 h2) fun Dn σ H h=>by
 refine D3.ex4 h fun G ow δ o R hf q=>?_
 refine D3.ex1 (bind1 hf) fun t e1 e2=>?_
 refine ⟨G,ow,δ,t,R,e1,fun H' s=>?_⟩
 cases t with
 | true=>exact zV ⟨G,ow,δ,o,R.grow s,e2,q⟩
 | false=>exact zU ⟨G,ow,δ,o,R.grow s,e2,q⟩
theorem iT {α:Type} {l:List (Option α)} {i j:Nat} {x y:α} (h:(l.set i (some x))[j]? = some (some y)):(j=i∧x=y)∨(j ≠ i∧l[j]? = some (some y)):=by
 rw [oF] at h;by_cases e:i=j
 ·subst e;rw [if_pos rfl] at h;by_cases z:i < l.length
  ·rw [if_pos z] at h
   cases h;exact .inl ⟨rfl,rfl⟩
  ·rw [if_neg z] at h
   cases h
 ·rw [if_neg e] at h;exact .inr ⟨fun z=>e z.symm,h⟩
theorem Rel.setA {K:PySem.W.Frag} {G:Gh} {ow:Ow} {σ:St} {H:Hp} {δ:DS} {i:Nat} {v:V} {d:D} (R:Rel K fl G ow σ H δ) (hfl:fl[i]? = some .A) (hi:i < σ.length) (r:RA K (okA ow) true H v d) :
 Rel K fl G ow (σ.set i (some v)) H (δ.set i (some (.d d))):=by
 have no:∀ a,ow i ≠ some a:=fun a z=>by
  obtain ⟨_,hz,_⟩:=R.own i a z;rw [hfl] at hz;rcases hz with ⟨z,_⟩ | ⟨z,_⟩ <;> cases z
 refine ⟨R.s0,R.s1,by rw [d9,d9];exact R.len,fun j a h=>?_,R.inj,R.pin,fun j d' h1 hn h2=>?_,fun j d' h1 hn h2 h3=>?_,R.nt,R.nd,R.ns,R.np,fun j d' hn h1=>?_⟩
 ·have hj:j ≠ i:=fun z=>no a (z ▸ h)
  obtain ⟨h0,hf,xs,ds,h1,h2,h3,h4⟩:=R.own j a h;exact ⟨h0,hf,xs,ds,by rwa [bI (Ne.symm hj)],h2,h3,by rwa [bI (Ne.symm hj)]⟩
 ·rcases iT h1 with ⟨rfl,e⟩ | ⟨hj,e⟩
  ·cases e;exact ⟨v,by rw [dB hi],r⟩
  ·obtain ⟨v',h3,h4⟩:=R.dat j d' e hn h2;exact ⟨v',by rwa [bI (Ne.symm hj)],h4⟩
 ·rcases iT h1 with ⟨rfl,e⟩ | ⟨hj,e⟩
  ·exact absurd hfl h2
  ·exact R.oo j d' e hn h2 h3
 ·rcases iT h1 with ⟨rfl,e⟩ | ⟨hj,e⟩
  ·rw [hfl] at hn;cases hn
  ·obtain ⟨v',h3,h4⟩:=R.nr j d' hn e;exact ⟨v',by rwa [bI (Ne.symm hj)],h4⟩
def vp (ow:Ow) (i:Nat) (a:Option Addr):Ow:=⟨fun j=>if j=i then a else ow j,ow.n⟩
theorem jA {ow:Ow} {i:Nat} {a:Option Addr}:vp ow i a i=a:=if_pos rfl
theorem gj {ow:Ow} {i j:Nat} {a:Option Addr} (h:j ≠ i):vp ow i a j=ow j:=if_neg h
theorem Rel.setO {K:PySem.W.Frag} {G:Gh} {ow:Ow} {σ:St} {H H':Hp} {δ:DS} {i:Nat} {v:V} {d:D} (R:Rel K fl G ow σ H δ) (s:Same H H') (hfl:fl[i]? = some .O) (hi:i < σ.length) (r:Rs K G.H0 ow H H' .F v d) :
 ∃ ow',Rel K fl G ow' (σ.set i (some v)) H' (δ.set i (some (.d d))):=by
 have R':=R.grow s;have sub0:∀ b,okA ow b→okA (vp ow i none) b:=fun b z=>⟨fun j e=>by
  by_cases hj:j=i
  ·subst hj;rw [jA] at e;cases e
  ·rw [gj hj] at e;exact z.1 j e,z.2⟩
 have nrs:∀ j d',isN fl[j]? = true→(δ.set i (some (.d d)))[j]? = some (some (.d d'))→∃ v',(σ.set i (some v))[j]? = some (some v')∧RT K H' v' d' (ow.n j)∧(ow.n j).Nodup:=fun j d' hn h1=>by
  rcases iT h1 with ⟨rfl,e⟩ | ⟨hj,e⟩
  ·rw [hfl] at hn;cases hn
  ·obtain ⟨v',h3,h4⟩:=R'.nr j d' hn e;exact ⟨v',by rwa [bI (Ne.symm hj)],h4⟩
 rcases r with ⟨hfd,r⟩ | ⟨a,xs,ds,rfl,rfl,ha,hx,hr⟩
 ·refine ⟨vp ow i none,R'.s0,R'.s1,by rw [d9,d9];exact R.len,fun j a h=>?_,fun j j' a h h'=>?_,fun j h=>?_,fun j d' h1 hn h2=>?_,fun j d' h1 hn h2 h3=>?_,R'.nt,R'.nd,fun j j' a h h'=>?_,R'.np,nrs⟩
  ·have hj:j ≠ i:=fun z=>by subst z;rw [jA] at h;cases h
   rw [gj hj] at h;obtain ⟨h0,hf,xs,ds,h1,h2,h3,h4⟩:=R'.own j a h;exact ⟨h0,hf,xs,ds,by rwa [bI (Ne.symm hj)],h2,h3.imp sub0 (fun z=>z),by rwa [bI (Ne.symm hj)]⟩
  ·have hj:j ≠ i:=fun z=>by subst z;rw [jA] at h;cases h
   have hj':j' ≠ i:=fun z=>by subst z;rw [jA] at h';cases h'
   rw [gj hj] at h;rw [gj hj'] at h';exact R.inj j j' a h h'
  ·have hj:j ≠ i:=fun z=>by subst z;rw [hfl] at h;cases h
   rw [gj hj];exact R.pin j h
  ·rcases iT h1 with ⟨rfl,e⟩ | ⟨hj,e⟩
   ·cases e;exact ⟨v,by rw [dB hi],RA.flat hfd r⟩
   ·rw [gj hj] at h2;obtain ⟨v',h3,h4⟩:=R'.dat j d' e hn h2;exact ⟨v',by rwa [bI (Ne.symm hj)],h4.imp sub0 (fun z=>z)⟩
  ·rcases iT h1 with ⟨rfl,e⟩ | ⟨hj,e⟩
   ·cases e;exact hfd
   ·rw [gj hj] at h3;exact R.oo j d' e hn h2 h3
  ·by_cases hj:j'=i
   ·subst hj;rw [jA] at h';cases h'
   ·rw [gj hj] at h';exact R.ns j j' a h h'
 ·have sub:∀ b,okA ow b∧b ≠ a→okA (vp ow i (some a)) b:=fun b z=>⟨fun j e=>by
   by_cases hj:j=i
   ·subst hj;rw [jA] at e;exact z.2 (cM.inj e).symm
   ·rw [gj hj] at e;exact z.1.1 j e,z.1.2⟩
  have old:∀ {v:V} {d:D},RA K (okA ow) true H v d→RA K (okA (vp ow i (some a))) true H' v d:=fun r=>(r.track.imp (fun b z=>sub b ⟨z.1,fun e=>z.2 (e ▸ ha)⟩) (fun z=>z)).same s
  have olds:∀ {v:List V} {d:List D},RAs K (okA ow) true H v d→RAs K (okA (vp ow i (some a))) true H' v d:=fun r=>(r.track.imp (fun b z=>sub b ⟨z.1,fun e=>z.2 (e ▸ ha)⟩) (fun z=>z)).same s
  have nota:∀ j,ow j ≠ some a:=fun j z=>by
   obtain ⟨_,_,_,_,_,h2,_⟩:=R.own j a z;rw [ha] at h2
   cases h2
  have hF:=R.s1.free ha;refine ⟨vp ow i (some a),R'.s0,R'.s1,by rw [d9,d9];exact R.len,fun j b h=>?_,fun j j' b h h'=>?_,fun j h=>?_,fun j d' h1 hn h2=>?_,fun j d' h1 hn h2 h3=>?_,R'.nt,R'.nd,fun j j' b h h'=>?_,R'.np,nrs⟩
  ·by_cases hj:j=i
   ·subst hj;rw [jA] at h
    cases h;exact ⟨R.same0.free ha,.inl ⟨hfl,hF⟩,xs,ds,by rw [dB hi],hx,hr.imp sub (fun z=>z),by rw [dB (by rwa [← R.len])]⟩
   ·rw [gj hj] at h;obtain ⟨h0,hf,ys,ds',h1,h2,h3,h4⟩:=R.own j b h;exact ⟨h0,hf,ys,ds',by rwa [bI (Ne.symm hj)],s _ _ h2,olds h3,by rwa [bI (Ne.symm hj)]⟩
  ·by_cases hj:j=i
   ·by_cases hj':j'=i
    ·rw [hj,hj']
    ·subst hj;rw [jA] at h
     cases h;rw [gj hj'] at h';exact absurd h' (nota j')
   ·rw [gj hj] at h;by_cases hj':j'=i
    ·subst hj';rw [jA] at h'
     cases h';exact absurd h (nota j)
    ·rw [gj hj'] at h';exact R.inj j j' b h h'
  ·have hj:j ≠ i:=fun z=>by subst z;rw [hfl] at h;cases h
   rw [gj hj];exact R.pin j h
  ·rcases iT h1 with ⟨rfl,e⟩ | ⟨hj,e⟩
   ·rw [jA] at h2;cases h2
   ·rw [gj hj] at h2;obtain ⟨v',h3,h4⟩:=R.dat j d' e hn h2;exact ⟨v',by rw [bI (Ne.symm hj)];exact h3,old h4⟩
  ·rcases iT h1 with ⟨rfl,e⟩ | ⟨hj,e⟩
   ·rw [jA] at h3;cases h3
   ·rw [gj hj] at h3;exact R.oo j d' e hn h2 h3
  ·by_cases hj:j'=i
   ·subst hj;rw [jA] at h'
    cases h';exact (R.nt j a h).2.1.ne ha
   ·rw [gj hj] at h';exact R.ns j j' b h h'
theorem Rel.mut {K:PySem.W.Frag} {G:Gh} {ow:Ow} {σ:St} {H:Hp} {δ:DS} {i:Nat} {a:Addr} {ys:List V} {ds:List D} (R:Rel K fl G ow σ H δ) (hfl:fl[i]? = some .O) (ho:ow i=some a) (r:RAs K (okA ow) true H ys ds) :
 Rel K fl G ow σ (upd H a (.lst ys)) (δ.set i (some (.d (.list ds)))):=by
 obtain ⟨h0,hz,xs,ds0,e1,e2,e3,e4⟩:=R.own i a ho;have na:¬ okA ow a:=fun z=>z.1 i ho
 have hF:G.HF a=none:=by
  rcases hz with ⟨_,z⟩ | ⟨z,_⟩
  ·exact z
  ·rw [hfl] at z;cases z
 have hi:i < δ.length:=by
  rcases iM i δ.length with z | z
  ·exact z
  ·rw [bF z] at e4;cases e4
 refine ⟨R.s0,fun b o hb=>?_,by rw [d9];exact R.len,fun j b h=>?_,R.inj,R.pin,fun j d' h1 hn h2=>?_,fun j d' h1 hn h2 h3=>?_,fun j b h=>?_,R.nd,R.ns,R.np,fun j d' hn h1=>?_⟩
 ·rw [cJ (fun z=>by subst z;rw [hF] at hb;cases hb)];exact R.s1 b o hb
 ·by_cases hj:j=i
  ·subst hj;rw [ho] at h
   cases h;exact ⟨h0,hz,ys,ds,e1,dU,r.upd e2 na,by rw [dB hi]⟩
  ·obtain ⟨h0',hf',zs,ds',h1,h2,h3,h4⟩:=R.own j b h;have hb:b ≠ a:=fun z=>hj (R.inj j i a (z ▸ h) ho)
   exact ⟨h0',hf',zs,ds',h1,by rwa [cJ hb],h3.upd e2 na,by rwa [bI (Ne.symm hj)]⟩
 ·rcases iT h1 with ⟨rfl,e⟩ | ⟨hj,e⟩
  ·rw [ho] at h2;cases h2
  ·obtain ⟨v',h3,h4⟩:=R.dat j d' e hn h2;exact ⟨v',h3,h4.upd e2 na⟩
 ·rcases iT h1 with ⟨rfl,e⟩ | ⟨hj,e⟩
  ·rw [ho] at h3;cases h3
  ·exact R.oo j d' e hn h2 h3
 ·obtain ⟨g1,g2,g3⟩:=R.nt j b h;refine ⟨g1,?_,g3⟩;by_cases hb:b=a
  ·rw [hb,dU];exact ⟨_,rfl,inferInstance⟩
  ·rwa [cJ hb]
 ·rcases iT h1 with ⟨rfl,e⟩ | ⟨hj,e⟩
  ·rw [hfl] at hn;cases hn
  ·obtain ⟨v',h3,h4,h5⟩:=R.nr j d' hn e;exact ⟨v',h3,h4.upd e2 (fun z=>R.ns j i a z ho),h5⟩
theorem rY {K:PySem.W.Frag} {G:Gh} {ow:Ow} {σ:St} {H:Hp} {δ:DS} {i:Nat} (R:Rel K fl G ow σ H δ) (h:i < δ.length):i < σ.length:=by rwa [R.len]
theorem NZ {i:Nat} {x:Str} {pos':Pos} (hfl:fl[i]? = some .A) (hN:X.N.Nodup) (hi:X.N[i]? = some x) (hv:X.env.scope.names.lookup x=some .local∨X.env.scope.names.lookup x=some .cell) (h:DE X fl .A e f)
 (hs:swapsWith e (some (.Name x pos')) pos.line X.env=pure false:=by rfl) (hfn:X.fn x=true∨X.env.scope.names.lookup x=some .local:=by first | exact .inl rfl | exact .inr rfl) :
 DS1 X fl (.Assign [.Name x pos'] e pos) (bM i f):=PS.imp (DP (i:=i) hN hi hv h hs hfn) fun Dn σ H h=>by
 refine D3.ex4 h fun G ow δ o R hf q=>?_
 unfold bM at hf;by_cases hl:i < δ.length
 ·rw [if_pos hl] at hf;refine D3.ex1 (bind1 hf) fun d e1 e2=>?_
  cases e2;exact ⟨G,ow,δ,d,R,e1,fun v H' s r=>q ow _ H' ((R.grow s).setA hfl (rY R hl) r)⟩
 ·rw [if_neg hl] at hf
  cases hf
theorem m8 {i:Nat} {x:Str} {pos':Pos} (hfl:fl[i]? = some .O) (hN:X.N.Nodup) (hi:X.N[i]? = some x) (hv:X.env.scope.names.lookup x=some .local∨X.env.scope.names.lookup x=some .cell) (h:DE X fl .F e f)
 (hs:swapsWith e (some (.Name x pos')) pos.line X.env=pure false:=by rfl) (hfn:X.fn x=true∨X.env.scope.names.lookup x=some .local:=by first | exact .inl rfl | exact .inr rfl) :
 DS1 X fl (.Assign [.Name x pos'] e pos) (bM i f):=PS.imp (DP (i:=i) hN hi hv h hs hfn) fun Dn σ H h=>by
 refine D3.ex4 h fun G ow δ o R hf q=>?_
 unfold bM at hf;by_cases hl:i < δ.length
 ·rw [if_pos hl] at hf;refine D3.ex1 (bind1 hf) fun d e1 e2=>?_
  cases e2;refine ⟨G,ow,δ,d,R,e1,fun v H' s r=>?_⟩;obtain ⟨ow',R'⟩:=R.setO s hfl (rY R hl) r;exact q ow' _ H' R'
 ·rw [if_neg hl] at hf
  cases hf
theorem N5 {i:Nat} {x:Str} {pos:Pos} (hfl:fl[i]? = some .A) (hN:X.N.Nodup) (hi:X.N[i]? = some x) (hv:X.env.scope.names.lookup x=some .local∨X.env.scope.names.lookup x=some .cell)
 (hfn:X.fn x=true∨X.env.scope.names.lookup x=some .local:=by first | exact .inl rfl | exact .inr rfl):DG X fl [i] (.Name x pos) (gNl i) :=
 PG.imp (M9 (i:=i) hN hi hv hfn) fun v σ H Q h=>by
 obtain ⟨G,ow,δ,d,δ',R,r,hf,q⟩:=h;unfold gNl at hf;by_cases hl:i < δ.length
 ·rw [if_pos hl] at hf
  cases hf;exact q _ (R.setA hfl (rY R hl) r) fun j hj=>bI (fun z=>hj (by rw [z];exact aJ.mpr rfl))
 ·rw [if_neg hl] at hf
  cases hf
def Yr (K:PySem.W.Frag) (fl:List Fl) (tg:List Nat) (g:List D→DS→Option DS):TGs:=fun vs σ H Q=>∃ G ow δ ds δ',Rel K fl G ow σ H δ∧RAs K (okA ow) true H vs ds∧g ds δ=some δ'∧∀ σ',Rel K fl G ow σ' H δ'→(∀ j,j ∉ tg→σ'[j]? = σ[j]?)→Q σ' H
theorem PGs.imp {t t':TGs} (h:PGs X es t) (i:∀ v σ H Q,t' v σ H Q→t v σ H Q):PGs X es t':=fun pins s σ H v u Q I r q=>h pins s σ H v u Q I r (i v σ H Q q)
abbrev DGs (X:Cx) (fl:List Fl) (tg:List Nat) (es:List Expr) (g:List D→DS→Option DS):Prop:=PGs X es (Yr X.K fl tg g)
theorem jX:DGs X fl [] [] ji:=PGs.imp M_ fun vs σ H Q h=>by
 obtain ⟨G,ow,δ,ds,δ',R,r,hf,q⟩:=h
 cases r with
 | nil=>cases hf;exact ⟨rfl,q σ R fun _ _=>rfl⟩
 | cons _ _=>cases hf
theorem dg {tg tg':List Nat} {g:FG} {gs:List D→DS→Option DS} (h1:DG X fl tg e g) (h2:DGs X fl tg' es gs) (hs:(assignEach (e :: es) X.env).map (·.2)=assign e X.env :: (assignEach es X.env).map (·.2):=by rfl) :
 DGs X fl (tg++tg') (e :: es) (cH g gs):=PGs.imp (JG h1 h2 hs) fun vs σ H Q h=>by
 obtain ⟨G,ow,δ,ds,δ',R,r,hf,q⟩:=h
 cases r with
 | nil=>cases hf
 | cons r1 r2 =>
  refine D3.ex1 (bind1 hf) fun δ1 e1 e2=>?_
  refine ⟨_,_,rfl,G,ow,δ,_,δ1,R,r1,e1,fun σ' R' k1=>⟨G,ow,δ1,_,δ',R',r2,e2,fun σ'' R'' k2=>q σ'' R'' fun j hj=>?_⟩⟩;rw [k2 j fun z=>hj (aU _ z),k1 j fun z=>hj (bD _ z)]
theorem mW {tg:List Nat} {gs:List D→DS→Option DS} {k n:Nat} (hc:X.calm=true) (h:DGs X fl tg es gs) (hn:(assignEach es X.env).length=n:=by rfl) (hst:(assignEach es X.env).findIdx? (·.1)=none:=by rfl) :
 DG X fl tg (.Tuple es k pos) (gTn n gs):=PG.imp (RG (n:=n) hc h hn hst) fun v σ H Q h=>by
 obtain ⟨G,ow,δ,d,δ',R,r,hf,q⟩:=h;unfold gTn at hf;split at hf
 ·next l =>
  by_cases z:l.length=n
  ·rw [if_pos z] at hf;obtain ⟨a,xs,rfl,hx,hr⟩:=r.tupE;exact ⟨a,xs,rfl,hx,by rwa [hr.length],G,ow,δ,l,δ',R,hr,hf,q⟩
  ·rw [if_neg z] at hf
   cases hf
 ·cases hf
theorem Sv {tg:List Nat} {g:FG} {t:Expr} (h:DE X fl .A e f) (hg:DG X fl tg t g) (hs:swapsWithSole [t] e pos.line X.env=pure false:=by rfl) (hw:swappedStores [t] e X.env=pure none:=by rfl)
 (h1:(assignEach [t] X.env).map (·.2)=[assign t X.env]:=by rfl):DS1 X fl (.Assign [t] e pos) (Ny f g):=PS.imp (DN h hg hs hw h1) fun Dn σ H h=>by
 refine D3.ex4 h fun G ow δ o R hf q=>?_
 refine D3.ex1 (bind1 hf) fun d e1 e2=>?_
 refine D3.ex1 (bind1 e2) fun δ' e3 e4=>?_
 cases e4;exact ⟨G,ow,δ,d,R,e1,fun v H' s r=>⟨G,ow,δ,d,δ',R.grow s,r,e3,fun σ' R' _=>q ow σ' H' R'⟩⟩
end
end D3
namespace D3
open PySem PySem.Spec PyProof.Rows L2 My
section
variable {X:Cx} {fl:List Fl} {e a b c:Expr} {es:List Expr} {st:Stmt} {sts body orelse:List Stmt} {k:Kd} {f fa fb fc:FE} {fs gs:FS} {ft gt:FT} {pos:Pos}
theorem Ei {K:PySem.W.Frag} {G:Gh} {ow:Ow} {σ:St} {H:Hp} {δ:DS} {i:Nat} {l:List D} (R:Rel K fl G ow σ H δ) (hfl:fl[i]? = some .O) (h:aj i δ=some (.list l)) :
 ∃ a xs,ow i=some a∧σ[i]? = some (some (.ref a))∧H a=some (.lst xs)∧RAs K (okA ow) true H xs l:=by
 have e:=m7 h
 cases ho:ow i with
 | none =>
  have z:=R.oo i _ e (by rw [hfl];rfl) (by rw [hfl];simp) ho;simp [flat] at z
 | some a =>
  obtain ⟨h0,_,xs,ds,h1,h2,h3,h4⟩:=R.own i a ho;rw [e] at h4
  cases h4;exact ⟨a,xs,rfl,h1,h2,h3⟩
theorem uN {i:Nat} {x:Str} {vpos apos cpos:Pos} (hfl:fl[i]? = some .O) (h:DE X fl .A e f) (hN:X.N[i]? = some x) (hv:Vis X.env.scope x:=by first | exact Or.inl rfl | exact Or.inr (Or.inl rfl) | exact Or.inr (Or.inr rfl)) (hd:(x == ("__debug__" : Str))=false:=by decide)
 (hcd:(x == ("__classdict__" : Str))=false:=by decide)
 (hs:swapsWith (.Call (.Attribute (.Name x vpos) "append" apos) [e] [] cpos) none pos.line X.env=pure false:=by rfl)
 (hbase:attributeBase (.Name x vpos) "append" X.env (eval (.Name x vpos) X.env)=eval (.Name x vpos) X.env:=by rfl)
 (hfew:((backTo cpos (starEach [e] X.env)).all (fun x=>!x.1) && (backToKw cpos (keywordEach [] X.env)).all (fun x=>x.1.isSome)
  && decide (([e]:List Expr).length + ([]:List Keyword).length + (if ([]:List Keyword).isEmpty then 0 else 1) < 30))=true:=by rfl)
 (hline:(apos.endLine == cpos.line)=true:=by rfl) (hst:starEach [e] X.env=(false,eval e X.env) :: starEach [] X.env:=by rfl) (hplain:(backTo cpos (starEach [] X.env)).any (·.1)=false:=by rfl) :
 DS1 X fl (.Expr (.Call (.Attribute (.Name x vpos) "append" apos) [e] [] cpos) pos) (Ec i f) :=
 PS.imp (vO (QL PySem.F.plainAttrs_list PySem.F.slot_list_append PySem.F.type_list_append yX (oZ hN hv hd hcd) (mq h sZ hst) hbase hfew hline hst hplain) hs) fun Dn σ H h=>by
 refine D3.ex4 h fun G ow δ o R hf q=>?_
 refine D3.ex1 (bind1 hf) fun x e1 hf1=>?_
 refine D3.ex1 (bind1 hf1) fun d e2 hf2=>?_
 have hf:=hf2;split at hf
 case h_2=>cases hf
 next l =>
 by_cases hl:l.length < 1000000
 ·rw [if_pos hl] at hf
  cases hf;obtain ⟨a,xs,ho,h1,h2,h3⟩:=Ei R hfl e1;refine ⟨_,h1,.inl ⟨rfl,_,SqL.of h2⟩,G,ow,δ,d,R,e2,fun v H' s r=>?_⟩;have R':=R.grow s;refine ⟨a,xs,v,rfl,rfl,s _ _ h2,by rw [h3.length];exact jQ hl (by decide),?_⟩;exact q ow σ _ (R'.mut hfl ho ((h3.same s).append (.cons r .nil)))
 ·rw [if_neg hl] at hf
  cases hf
theorem wN {i:Nat} {x:Str} {vpos spos:Pos} {ke:Expr} {fk:FE} (hfl:fl[i]? = some .O) (h:DE X fl .A e f) (hk:DE X fl .P ke fk) (hN:X.N[i]? = some x) (hv:Vis X.env.scope x:=by first | exact Or.inl rfl | exact Or.inr (Or.inl rfl) | exact Or.inr (Or.inr rfl)) (hd:(x == ("__debug__" : Str))=false:=by decide)
 (hcd:(x == ("__classdict__" : Str))=false:=by decide) (ha:∀ v,assign (.Subscript (.Name x vpos) ke spos) X.env v=(do
  let ov ← holding [v] (eval (.Name x vpos) X.env)
  let iv ← holding [v,ov] (eval ke X.env)
  standAt spos
  holding [v,ov,iv] (setItem ov iv v)
  release [v,ov,iv] []):=by intro _;rfl)
 (hs:swapsWithSole [.Subscript (.Name x vpos) ke spos] e pos.line X.env=pure false:=by rfl) (hw:swappedStores [.Subscript (.Name x vpos) ke spos] e X.env=pure none:=by rfl)
 (h1:(assignEach [.Subscript (.Name x vpos) ke spos] X.env).map (·.2)=[assign (.Subscript (.Name x vpos) ke spos) X.env]:=by rfl) :
 DS1 X fl (.Assign [.Subscript (.Name x vpos) ke spos] e pos) (uK i fk f) :=
 PS.imp (DN h (JH (oZ hN hv hd hcd) hk set_list ha) hs hw h1) fun Dn σ H h=>by
 refine D3.ex4 h fun G ow δ o R hf q=>?_
 refine D3.ex1 (bind1 hf) fun d e2 hf1=>?_
 refine D3.ex1 (bind1 hf1) fun x e1 hf2=>?_
 refine D3.ex1 (bind1 hf2) fun k e3 hf3=>?_
 have hf:=hf3;split at hf
 case h_2=>cases hf
 next l j =>
 refine D3.ex1 (bind1 hf) fun n e4 e5=>?_
 cases e5;obtain ⟨a,xs,ho,h1,h2,h3⟩:=Ei R hfl e1;refine ⟨G,ow,δ,d,R,e2,fun v H' s r=>⟨_,h1,G,ow,δ,_,R.grow s,e3,fun u H2 s2 r2=>?_⟩⟩;obtain rfl:=RA.intE r2;have R2:=R.grow (s.trans s2);refine ⟨a,xs,j,n,rfl,rfl,(s.trans s2) _ _ h2,by rwa [h3.length],?_⟩;exact q ow σ _ (R2.mut hfl ho (RAs.set (RA.same s2 r) n (h3.same (s.trans s2))))
def QT (K:PySem.W.Frag) (ow:Ow) (L:List Nat) (H1:Hp) (J:It) (l:List D):Prop:=∀ H2:Hp,(∀ b o,H1 b=some o→(∀ i,ow i=some b→i ∈ L)→(∀ i,b ∉ ow.n i)→H2 b=some o)→∀ i:Nat,
 (∀ d,l[i]? = some d→J.go i H2∧∀ x H3,J.yld i H2 x H3→Same H2 H3∧RA K (fun b=>okA ow b∧H1 b ≠ none) true H3 x d)∧(l.length ≤ i→J.stop i H2)
noncomputable def tDI (K:PySem.W.Frag) (fl:List Fl) (L:List Nat) (fi:FA):TI:=fun σ H R'=>∃ G ow δ l,Rel K fl G ow σ H δ∧fi δ=some l∧∀ J H1,Same H H1→QT K ow L H1 J l→R' J H1
abbrev DI (X:Cx) (fl:List Fl) (L:List Nat) (tg iter:Expr) (fi:FA):Prop:=PI X tg iter (tDI X.K fl L fi)
theorem PI.imp {tg iter:Expr} {t t':TI} (h:PI X tg iter t) (i:∀ σ H R',t' σ H R'→t σ H R'):PI X tg iter t':=fun pins s σ H R' I q=>h pins s σ H R' I (i σ H R' q)
section
variable {K:PySem.W.Frag} {ok:Ok} {pl:Bool} {H1 H2:Hp} {ow:Ow} {L:List Nat}
theorem nm {b:Addr} {o:HO} (hl:∀ i b,ow i=some b→∃ xs,H1 b=some (.lst xs)) (h:H1 b=some o) (hn:∀ xs,o ≠ .lst xs):∀ i,ow i=some b→i ∈ L:=fun i e=>by
 obtain ⟨xs,z⟩:=hl i b e;rw [h] at z;exact absurd (cM.inj z) (hn xs)
theorem nm2 {b:Addr} {o:HO} (hl:∀ i b,b ∈ ow.n i→Chd (H1 b)) (h:H1 b=some o) (hn:Chg o→False):∀ i,b ∉ ow.n i:=fun i e=>by
 obtain ⟨u,z,c⟩:=hl i b e;rw [h] at z
 cases z;exact hn c
mutual
theorem RA.keep (hk:∀ b o,H1 b=some o→(∀ i,ow i=some b→i ∈ L)→(∀ i,b ∉ ow.n i)→H2 b=some o) (hl:∀ i b,ow i=some b→∃ xs,H1 b=some (.lst xs)) (hm:∀ i b,b ∈ ow.n i→Chd (H1 b)) (ho:∀ b,ok b→okA ow b):∀ {v:V} {d:D},RA K ok pl H1 v d→RA K ok pl H2 v d
 | _,_,.non=>.non
 | _,_,.bl b=>.bl b
 | _,_,.int i=>.int i
 | _,_,.str x=>.str x
 | _,_,.lst e k q=>.lst (hk _ _ e (fun i z=>absurd z ((ho _ k).1 i)) (ho _ k).2) k (RAs.keep hk hl hm ho q)
 | _,_,.lsk e k q=>.lsk (by
  rcases e with ⟨o,e⟩ | e
  ·exact .inl ⟨o,hk _ _ e (nm hl e (by intro xs z;cases z)) (nm2 hm e Chg.frz)⟩
  ·exact .inr e) k (RAs.keep hk hl hm ho q)
 | _,_,.tup e q=>.tup (hk _ _ e (nm hl e (by intro xs z;cases z)) (nm2 hm e Chg.tup)) (RAs.keep hk hl hm ho q)
 | _,_,.dic e g k=>.dic (hk _ _ e (fun i z=>absurd z ((ho _ k).1 i)) (ho _ k).2) (g.imp fun _ _ t=>hk _ _ t (nm hl t (by intro xs z;cases z)) (nm2 hm t Chg.tup)) k
 | _,_,.dik e g k=>.dik (hk _ _ e (nm hl e (by intro xs z;cases z)) (nm2 hm e Chg.frz)) (g.imp fun _ _ t=>hk _ _ t (nm hl t (by intro xs z;cases z)) (nm2 hm t Chg.tup)) k
theorem RAs.keep (hk:∀ b o,H1 b=some o→(∀ i,ow i=some b→i ∈ L)→(∀ i,b ∉ ow.n i)→H2 b=some o) (hl:∀ i b,ow i=some b→∃ xs,H1 b=some (.lst xs)) (hm:∀ i b,b ∈ ow.n i→Chd (H1 b)) (ho:∀ b,ok b→okA ow b):∀ {v:List V} {d:List D},RAs K ok pl H1 v d→RAs K ok pl H2 v d
 | _,_,.nil=>.nil
 | _,_,.cons e q=>.cons (RA.keep hk hl hm ho e) (RAs.keep hk hl hm ho q)
end
end
theorem Rel.ownL {K:PySem.W.Frag} {G:Gh} {ow:Ow} {σ:St} {H:Hp} {δ:DS} (R:Rel K fl G ow σ H δ):∀ i b,ow i=some b→∃ xs,H b=some (.lst xs):=fun i b e=>by
 obtain ⟨_,_,xs,_,_,h2,_⟩:=R.own i b e;exact ⟨xs,h2⟩
theorem Rel.ownC {K:PySem.W.Frag} {G:Gh} {ow:Ow} {σ:St} {H:Hp} {δ:DS} (R:Rel K fl G ow σ H δ):∀ i b,b ∈ ow.n i→Chd (H b):=fun i b e=>(R.nt i b e).2.1
theorem wO {K:PySem.W.Frag} {G:Gh} {ow:Ow} {σ:St} {H Hb:Hp} {δ:DS} {L:List Nat} {v:V} {l:List D} (R:Rel K fl G ow σ H δ) (r:Rs K G.H0 ow Hb H (.B L) v (.list l)):∃ a xs,v = .ref a∧SqL K H a xs ∧
 ∀ H2:Hp,(∀ b o,H b=some o→(∀ i,ow i=some b→i ∈ L)→(∀ i,b ∉ ow.n i)→H2 b=some o)→SqL K H2 a xs∧RAs K (fun b=>okA ow b∧H b ≠ none) true H2 xs l:=by
 rcases r with r | ⟨i,hi,a,xs,ds,ho,rfl,e,hx,hr⟩
 ·cases r with
  | lst e k q=>exact ⟨_,_,rfl,SqL.of e,fun H2 hk=>⟨SqL.of (hk _ _ e (fun i z=>absurd z (k.1 i)) k.2),RAs.keep hk R.ownL R.ownC (fun b z=>z.1) q.track⟩⟩
  | lsk e k q=>exact ⟨_,_,rfl,e.sq,fun H2 hk=>⟨SqK.sq (by
   rcases e with ⟨o,e⟩ | e
   ·exact .inl ⟨o,hk _ _ e (nm R.ownL e (by intro xs z;cases z)) (nm2 R.ownC e Chg.frz)⟩
   ·exact .inr e),RAs.keep hk R.ownL R.ownC (fun b z=>z.1) q.track⟩⟩
 ·cases e;exact ⟨a,xs,rfl,SqL.of hx,fun H2 hk=>⟨SqL.of (hk _ _ hx (fun j z=>by rwa [R.inj j i a z ho]) (fun j z=>R.ns j i a z ho)),RAs.keep hk R.ownL R.ownC (fun b z=>z.1) hr.track⟩⟩
theorem fM {tg:Expr} {L:List Nat} (h:DE X fl (.B L) e f):DI X fl L tg e (lu f):=PI.imp (Gd h) fun σ H R' h=>by
 refine D3.ex4 h fun G ow δ l R hf q=>?_
 refine D3.ex1 (bind1 hf) fun d e1 e2=>?_
 cases d <;> first | (cases e2;done) | skip
 cases e2;refine ⟨G,ow,δ,_,R,e1,fun v H1 s r=>?_⟩;obtain ⟨a,xs,rfl,hx,keep⟩:=wO (R.grow s) r;refine ⟨a,rfl,⟨xs,hx⟩,q _ _ s fun H2 k2 i=>?_⟩;obtain ⟨k3,k4⟩:=keep H2 k2;refine ⟨fun d hd=>?_,fun hl=>⟨xs,k3,by rwa [k4.length]⟩⟩;obtain ⟨y,hy,ry⟩:=k4.get hd;refine ⟨⟨xs,y,k3,hy⟩,fun x H3 hyl=>?_⟩;obtain ⟨e,hz⟩:=hyl;subst e;have:some y=some x:=hy.symm.trans (hz xs k3)
 cases this;exact ⟨Same.refl _,ry⟩
theorem Ka (lo hi:Int):(fO lo hi).length=(hi - lo).toNat:=by simp [fO]
theorem Cd {K:PySem.W.Frag} {ow:Ow} {L:List Nat} {H1:Hp} (lo hi:Int):QT K ow L H1 (Itr lo (hi - lo).toNat) (fO lo hi):=by
 intro H2 _ i;refine ⟨fun d hd=>?_,fun hl=>by rw [Ka] at hl;exact hl⟩;unfold fO at hd;rw [aP] at hd;by_cases hi':i < (hi - lo).toNat
 ·rw [cj hi'] at hd
  cases hd;refine ⟨hi',fun x H3 hy=>?_⟩;obtain ⟨e,e2⟩:=hy;subst e e2;exact ⟨Same.refl _,.int _⟩
 ·rw [bF (by simpa using hi')] at hd
  cases hd
theorem rZ {i:Int} (h:sS i=true) : -(2 ^ 62) ≤ i∧i < 2 ^ 62:=by
 unfold sS at h;rw [aW] at h;exact ⟨of_decide_eq_true h.1,of_decide_eq_true h.2⟩
theorem jh {tg:Expr} {L:List Nat} {p:Pos} {fa:FA} (hg:Gl X "range") (hm:X.mg "range" = none) (h:DA X fl [a] fa) (hs:starEach [a] X.env=[(false,eval a X.env)]:=by rfl):DI X fl L tg (.Call (.Name "range" p) [a] [] pos) (pF fa) :=
 PI.imp (Hs hg hm h hs) fun σ H R' h=>by
 refine D3.ex4 h fun G ow δ l R hf q=>?_
 refine D3.ex1 (bind1 hf) fun ds e1 e2=>?_
 split at e2
 ·next j =>
  by_cases z:sS j=true
  ·rw [if_pos z] at e2
   cases e2;refine ⟨G,ow,δ,_,R,e1,fun vs H1 s r=>?_⟩
   cases r with
   | cons r1 r2 =>
    cases r2;obtain rfl:=r1.intE;refine ⟨j,rfl,(rZ z).1,(rZ z).2,?_⟩;have w:=Cd (K:=X.K) (ow:=ow) (L:=L) (H1:=H1) 0 j;rw [tO] at w;exact q _ _ s w
  ·rw [if_neg z] at e2
   cases e2
 ·cases e2
theorem zm {tg:Expr} {L:List Nat} {p:Pos} {fa:FA} (hg:Gl X "range") (hm:X.mg "range" = none) (h:DA X fl [a,b] fa) (hs:starEach [a,b] X.env=[(false,eval a X.env),(false,eval b X.env)]:=by rfl) (hs2:starEach [b] X.env=[(false,eval b X.env)]:=by rfl) :
 DI X fl L tg (.Call (.Name "range" p) [a,b] [] pos) (Gj fa):=PI.imp (Ht hg hm h hs hs2) fun σ H R' h=>by
 refine D3.ex4 h fun G ow δ l R hf q=>?_
 refine D3.ex1 (bind1 hf) fun ds e1 e2=>?_
 split at e2
 ·next i j =>
  by_cases z:(sS i && sS j)=true
  ·rw [if_pos z] at e2
   cases e2;rw [aW] at z;refine ⟨G,ow,δ,_,R,e1,fun vs H1 s r=>?_⟩
   cases r with
   | cons r1 r2 =>
    cases r2 with
    | cons r2 r3 =>
     cases r3;obtain rfl:=r1.intE;obtain rfl:=r2.intE;exact ⟨i,j,rfl,⟨(rZ z.1).1,(rZ z.1).2,(rZ z.2).1,(rZ z.2).2⟩,q _ _ s (Cd i j)⟩
  ·rw [if_neg z] at e2
   cases e2
 ·cases e2
def lock (L:List Nat) (fl:List Fl):List Fl:=fl.mapIdx fun i x=>if x = .O∧i ∈ L then .L else x
theorem mG {L:List Nat} {i:Nat}:(lock L fl)[i]? = (fl[i]?).map fun x=>if x = .O∧i ∈ L then .L else x:=by
 unfold lock;rw [jJ]
theorem Kc {L:List Nat} {i:Nat}:(lock L fl)[i]? = some .A↔fl[i]? = some .A:=by
 rw [mG]
 cases h:fl[i]? with
 | none=>simp
 | some x =>
  cases x <;> simp
  by_cases z:i ∈ L <;> simp [z]
theorem Ej {L:List Nat} {i:Nat} (h:(lock L fl)[i]? = some .O):fl[i]? = some .O∧i ∉ L:=by
 rw [mG] at h
 cases e:fl[i]? with
 | none=>rw [e] at h;simp at h
 | some x =>
  rw [e] at h
  cases x <;> simp at h
  by_cases z:i ∈ L
  ·simp [z] at h
  ·exact ⟨rfl,z⟩
theorem Ek {L:List Nat} {i:Nat} (h:fl[i]? = some .L):(lock L fl)[i]? = some .L:=by
 rw [mG,h];simp
theorem Gq {L:List Nat} {i:Nat} (h:fl[i]? = some .O) (hi:i ∈ L):(lock L fl)[i]? = some .L:=by
 rw [mG,h];simp [hi]
theorem Gs {L:List Nat} {i:Nat} (h:fl[i]? = some .O) (hi:i ∉ L):(lock L fl)[i]? = some .O:=by
 rw [mG,h];simp [hi]
theorem zY {L:List Nat} {i:Nat}:(lock L fl)[i]? = some .N↔fl[i]? = some .N:=by
 rw [mG]
 cases h:fl[i]? with
 | none=>simp
 | some x =>
  cases x <;> simp
  by_cases z:i ∈ L <;> simp [z]
theorem El {L:List Nat} {i:Nat}:(lock L fl)[i]? = some .M↔fl[i]? = some .M:=by
 rw [mG]
 cases h:fl[i]? with
 | none=>simp
 | some x =>
  cases x <;> simp
  by_cases z:i ∈ L <;> simp [z]
theorem pG {L:List Nat} {i:Nat}:isN (lock L fl)[i]? = isN fl[i]?:=by
 rw [mG]
 cases h:fl[i]? with
 | none=>rfl
 | some x =>
  cases x <;> simp [isN]
  by_cases z:i ∈ L <;> simp [z]
def Let (fl':List Fl) (ow:Ow) (b:Addr):Prop:=(∃ j,ow j=some b∧fl'[j]? = some .O)∨∃ j,b ∈ ow.n j∧fl'[j]? = some .N
open Classical in
def ghL (fl':List Fl) (G:Gh) (ow:Ow) (H:Hp):Gh:=⟨G.H0,fun b=>if Let fl' ow b then none else H b,ow,ow.n,G.tb⟩
open Classical in
theorem qg {fl':List Fl} {G:Gh} {ow:Ow} {H:Hp} {b:Addr} (h:¬ Let fl' ow b):(ghL fl' G ow H).HF b=H b:=by
 unfold ghL;dsimp only;rw [if_neg h]
open Classical in
theorem Em {fl':List Fl} {G:Gh} {ow:Ow} {H:Hp} {b:Addr} (h:Let fl' ow b):(ghL fl' G ow H).HF b=none:=by
 unfold ghL;dsimp only;rw [if_pos h]
theorem Rel.lock {K:PySem.W.Frag} {G:Gh} {ow:Ow} {σ:St} {H:Hp} {δ:DS} (L:List Nat) (R:Rel K fl G ow σ H δ):Rel K (lock L fl) (ghL (lock L fl) G ow H) ow σ H δ:=by
 refine ⟨fun b o hb=>?_,fun b o hb=>?_,R.len,fun i a h=>?_,R.inj,fun i h=>rfl,fun i d h1 hn h2=>R.dat i d h1 (by rw [pG] at hn;exact hn) h2,fun i d h1 hn h2 h3=>R.oo i d h1 (by rw [pG] at hn;exact hn) (fun z=>h2 (Kc.mpr z)) h3,fun i a h=>?_,R.nd,R.ns,fun i h=>rfl,fun i d hn h1=>R.nr i d (by rw [pG] at hn;exact hn) h1⟩
 ·have hb':G.H0 b=some o:=hb;rw [qg]
  ·exact R.same0 b o hb'
  ·rintro (⟨j,e,_⟩ | ⟨j,e,_⟩)
   ·have:=(R.own j b e).1;rw [hb'] at this
    cases this
   ·have:=(R.nt j b e).1;rw [hb'] at this
    cases this
 ·by_cases z:Let (D3.lock L fl) ow b
  ·rw [Em z] at hb;cases hb
  ·rw [qg z] at hb;exact hb
 ·obtain ⟨h0,hf,xs,ds,h1,h2,h3,h4⟩:=R.own i a h;refine ⟨h0,?_,xs,ds,h1,h2,h3,h4⟩;have out:(D3.lock L fl)[i]? = some .L→(ghL (D3.lock L fl) G ow H).HF a=H a:=fun hl=>qg (by
   rintro (⟨j,e,hj⟩ | ⟨j,e,hj⟩)
   ·rw [R.inj j i a e h,hl] at hj
    cases hj
   ·exact R.ns j i a e h)
  rcases hf with ⟨hf,_⟩ | ⟨hf,_⟩
  ·by_cases hi:i ∈ L
   ·exact .inr ⟨Gq hf hi,xs,by rwa [out (Gq hf hi)]⟩
   ·exact .inl ⟨Gs hf hi,Em (.inl ⟨i,h,Gs hf hi⟩)⟩
  ·exact .inr ⟨Ek hf,xs,by rwa [out (Ek hf)]⟩
 ·obtain ⟨g1,g2,g3⟩:=R.nt i a h;refine ⟨g1,g2,?_⟩;rcases g3 with ⟨z,_⟩ | z
  ·exact .inl ⟨zY.mpr z,Em (.inr ⟨i,h,zY.mpr z⟩)⟩
  ·exact .inr (El.mpr z)
theorem Rel.unlock {K:PySem.W.Frag} {G:Gh} {ow ow':Ow} {σ σ':St} {H H':Hp} {δ δ':DS} {L:List Nat} (R:Rel K fl G ow σ H δ) (R':Rel K (D3.lock L fl) (ghL (D3.lock L fl) G ow H) ow' σ' H' δ'):Rel K fl G ow' σ' H' δ':=by
 have sub:Same G.HF (ghL (D3.lock L fl) G ow H).HF:=fun b o hb=>by
  rw [qg]
  ·exact R.s1 b o hb
  ·rintro (⟨j,e,hj⟩ | ⟨j,e,hj⟩)
   ·rcases (R.own j b e).2.1 with ⟨_,z⟩ | ⟨z,_⟩
    ·rw [hb] at z;cases z
    ·have:=(Ej hj).1;rw [z] at this
     cases this
   ·rcases (R.nt j b e).2.2 with ⟨_,z⟩ | z
    ·rw [hb] at z;cases z
    ·have:=zY.mp hj;rw [z] at this
     cases this
 refine ⟨R.s0,sub.trans R'.s1,R'.len,fun i a h=>?_,R'.inj,fun i h=>?_,fun i d h1 hn h2=>R'.dat i d h1 (by rwa [pG]) h2,fun i d h1 hn h2 h3=>R'.oo i d h1 (by rwa [pG]) (fun z=>h2 (Kc.mp z)) h3,fun i a h=>?_,R'.nd,R'.ns,fun i h=>?_,fun i d hn h1=>R'.nr i d (by rwa [pG]) h1⟩
 ·obtain ⟨h0,hf,rest⟩:=R'.own i a h;refine ⟨h0,?_,rest⟩;rcases hf with ⟨hf,hz⟩ | ⟨hf,_⟩
  ·exact .inl ⟨(Ej hf).1,sub.free hz⟩
  ·have e:=R'.pin i hf;rw [e] at h;exact (R.own i a h).2.1
 ·have e:=R'.pin i (Ek h);rw [e];exact R.pin i h
 ·obtain ⟨g1,g2,g3⟩:=R'.nt i a h;rcases g3 with ⟨z,hz⟩ | z
  ·exact ⟨g1,g2,.inl ⟨zY.mp z,sub.free hz⟩⟩
  ·exact ⟨g1,g2,.inr (El.mp z)⟩
 ·have e:=R'.np i (El.mpr h);rw [e];exact R.np i h
theorem iJ {tg iter:Expr} {L:List Nat} {T:List Nat} {fi:FA} {g:FG} (hp:PassesOwn (model X.prog X.w) X.A X.env X.xe) (hc:X.calm=true) (hi:DI X fl L tg iter fi) (hg:DG X (lock L fl) T tg g) (hb:DSs X (lock L fl) body fs)
 (hs:∀ x,foldedSetIterable iter X.env x=pure x:=by intro _;rfl):DS1 X fl (.For tg iter body [] pos) (mF fi g fs):=PS.imp (RN hp hc hi hg hb hs) fun Dn σ H h=>by
 refine D3.ex4 h fun G ow δ o R0 hf q=>?_
 refine D3.ex1 (bind1 hf) fun l e1 e2=>?_
 refine ⟨G,ow,δ,l,R0,e1,fun J H1 s wk=>?_⟩;have R1:=R0.grow s;have RL:=R1.lock L;refine ⟨fun i m σ' H'=>m=l.length - i∧∃ ow' δ',Rel X.K (lock L fl) (ghL (lock L fl) G ow H1) ow' σ' H' δ'∧jK g fs (l.drop i) δ'=some o,⟨_,rfl,ow,δ,RL,by simpa using e2⟩,?_⟩;rintro i m σ' H' ⟨rfl,ow',δ',R',hd⟩;have kept:∀ b o,H1 b=some o→(∀ i,ow i=some b→i ∈ L)→(∀ i,b ∉ ow.n i)→H' b=some o:=fun b o hb hl hn=>R'.s1 b o (by
  rw [qg]
  ·exact hb
  ·rintro (⟨j,e,hj⟩ | ⟨j,e,_⟩)
   ·exact (Ej hj).2 (hl j e)
   ·exact hn j e)
 obtain ⟨w1,w2⟩:=wk H' kept i;by_cases hlt:i < l.length
 ·have hdrop:=ou hlt;rw [hdrop,jK] at hd;refine D3.ex1 (bind1 hd) fun δ1 e3 hd=>?_
  refine D3.ex1 (bind1 hd) fun o1 e4 hd=>?_
  obtain ⟨go,yl⟩:=w1 l[i] (aV hlt);refine .inr ⟨go,fun σ' H'=>∃ ow' δ',Rel X.K (lock L fl) (ghL (lock L fl) G ow H1) ow' σ' H' δ'∧jK g fs (l.drop (i + 1)) δ'=some o,fun σ2 H2 ⟨ow2,δ2,R2,h2⟩=>⟨l.length - (i + 1),by omega,rfl,ow2,δ2,R2,h2⟩,fun x H3 hy=>?_⟩;obtain ⟨s3,r3⟩:=yl x H3 hy;have sub:∀ b,okA ow b∧H1 b ≠ none→okA ow' b:=fun b z=>by
   obtain ⟨z1,z2⟩:=z;refine ⟨fun j e=>?_,fun j e=>?_⟩
   ·rcases (R'.own j b e).2.1 with ⟨_,hz⟩ | ⟨hz,_⟩
    ·have:(ghL (lock L fl) G ow H1).HF b=H1 b:=qg (by rintro (⟨j',e',_⟩ | ⟨j',e',_⟩);exact z1.1 j' e';exact z1.2 j' e');rw [this] at hz;exact z2 hz
    ·have e':ow' j=ow j:=R'.pin j hz;rw [e'] at e;exact z1.1 j e
   ·rcases (R'.nt j b e).2.2 with ⟨_,hz⟩ | w
    ·have:(ghL (lock L fl) G ow H1).HF b=H1 b:=qg (by rintro (⟨j',e',_⟩ | ⟨j',e',_⟩);exact z1.1 j' e';exact z1.2 j' e');rw [this] at hz;exact z2 hz
    ·have e':ow'.n j=ow.n j:=R'.np j w;rw [e'] at e;exact z1.2 j e
  refine ⟨_,ow',δ',_,δ1,R'.grow s3,r3.imp sub (fun z=>z),e3,fun σ4 R4 _=>⟨_,ow',δ1,o1,R4,e4,?_⟩⟩
  ·cases o1 with
   | nx δ2=>exact fun ow2 σ2 H2 R2=>⟨ow2,δ2,R2,hd⟩
   | ct δ2=>exact fun ow2 σ2 H2 R2=>⟨ow2,δ2,R2,hd⟩
   | bk δ2=>cases hd;exact fun ow2 σ2 H2 R2=>q ow2 σ2 H2 (R1.unlock R2)
   | rt d=>cases hd;exact q
   | ex c f v=>cases hd;exact q
 ·have e:l.drop i=[]:=pR (by omega);rw [e,jK] at hd
  cases hd;exact .inl ⟨w2 (by omega),q ow' σ' H' (R1.unlock R')⟩
theorem Ke (hp:PassesOwn (model X.prog X.w) X.A X.env X.xe) (hc:DT X fl c ft) (hb:DSs X fl body fs):DS1 X fl (.While c body [] pos) (uI ft fs):=PS.imp (JK hp hc hb) fun Dn σ H h=>by
 refine D3.ex4 h fun G ow δ o R0 hf q=>?_
 obtain ⟨n,hn⟩:=Ea hf;refine ⟨fun m σ' H'=>∃ ow' δ',Rel X.K fl G ow' σ' H' δ'∧iI ft fs m δ'=some o,⟨n,ow,δ,R0,hn⟩,?_⟩;rintro m σ' H' ⟨ow',δ',R',hw⟩
 cases m with
 | zero=>simp [iI] at hw
 | succ m =>
  rw [iI] at hw;refine D3.ex1 (bind1 hw) fun t e1 hw=>?_
  refine ⟨G,ow',δ',t,R',e1,fun H1 s=>?_⟩
  cases t with
  | false =>
   rw [if_neg dZ] at hw ⊢
   cases hw;exact q ow' σ' H1 (R'.grow s)
  | true =>
   rw [if_pos rfl] at hw ⊢;refine D3.ex1 (bind1 hw) fun o1 e2 hw=>?_
   refine ⟨fun σ2 H2=>∃ ow2 δ2,Rel X.K fl G ow2 σ2 H2 δ2∧iI ft fs m δ2=some o,fun σ2 H2 ⟨ow2,δ2,R2,h2⟩=>⟨m,lQ m,ow2,δ2,R2,h2⟩,G,ow',δ',o1,R'.grow s,e2,?_⟩
   cases o1 with
   | nx δ2=>exact fun ow2 σ2 H2 R2=>⟨ow2,δ2,R2,hw⟩
   | ct δ2=>exact fun ow2 σ2 H2 R2=>⟨ow2,δ2,R2,hw⟩
   | bk δ2=>cases hw;exact q
   | rt d=>cases hw;exact q
   | ex c f v=>cases hw;exact q
end
end D3
namespace D3
open PySem PySem.Spec PyProof.Rows L2 My
def notStar:Expr→Bool
 | .Starred _ _=>false
 | _=>true
theorem qj {e:Expr} {es:List Expr} {env:Env} (h:notStar e=true):starEach (e :: es) env=(false,eval e env) :: starEach es env:=by
 cases e <;> first | rfl | cases h
theorem Kf {es:List Expr} {env:Env} {pos:Pos} (h:es.all notStar=true):(backTo pos (starEach es env)).any (·.1)=false:=by
 induction es with
 | nil=>rfl
 | cons e es ih =>
  rw [oY,aW] at h;rw [qj h.1];have:=ih h.2;unfold backTo at this ⊢;rw [bJ,mj,this];rfl
def isR:Kd→Bool
 | .P=>true
 | .A=>true
 | .R=>true
 | .C=>true
 | _=>false
def Kg (H0:Hp) (ow:Ow) (Hb:Hp):Kd→Ok
 | .P=>ok1
 | .A=>okA ow
 | .R=>okN H0
 | _=>okN Hb
def Sw:Kd→Bool
 | .P=>true
 | .A=>true
 | _=>false
section
variable {K:PySem.W.Frag} {H0 Hb Hc H:Hp} {ow:Ow} {v:V} {d:D} {k:Kd}
theorem Rs.ra (hk:isR k=true) (h:Rs K H0 ow Hb H k v d):RA K (Kg H0 ow Hb k) (Sw k) H v d:=by
 cases k <;> first | exact h | cases hk
theorem Rs.of_ra (hk:isR k=true) (h:RA K (Kg H0 ow Hb k) (Sw k) H v d):Rs K H0 ow Hb H k v d:=by
 cases k <;> first | exact h | cases hk
theorem HX (s:Same Hb Hc) (hk:isR k=true):∀ a,Kg H0 ow Hc k a→Kg H0 ow Hb k a:=fun a z=>by
 cases k <;> first | exact z | exact s.free z | cases hk
theorem Rs.of_flat (hf:flat d=true) (h:RA K ok0 false H v d):Rs K H0 ow Hb H k v d:=by
 cases k with
 | P=>exact RA.flat hf h
 | B L=>exact .inl (RA.flat hf h)
 | A=>exact RA.flat hf h
 | R=>exact RA.flat hf h
 | F=>exact .inl ⟨hf,h⟩
 | C=>exact RA.flat hf h
 | FC=>exact .inl ⟨hf,h⟩
 | T =>
  obtain ⟨as,h1,_,h3⟩:=RA.rt h
  cases as with
  | nil=>exact ⟨[],h1,.nil,fun _ z=>by cases z⟩
  | cons a r=>exact (h3 a aK).elim
theorem Rs.back (s:Same Hb Hc) (h:Rs K H0 ow Hc H k v d):Rs K H0 ow Hb H k v d:=by
 cases k with
 | P=>exact h
 | B L=>exact h
 | A=>exact h
 | R=>exact h
 | F =>
  rcases h with h | ⟨a,xs,ds,h1,h2,h3,h4⟩
  ·exact .inl h
  ·exact .inr ⟨a,xs,ds,h1,h2,s.free h3,h4⟩
 | C=>exact RA.imp (fun a z=>s.free z) (fun z=>z) h
 | FC =>
  rcases h with h | ⟨a,xs,ds,h1,h2,h3,h4,h5⟩
  ·exact .inl h
  ·exact .inr ⟨a,xs,ds,h1,h2,s.free h3,h4,h5.imp (fun b z=>⟨s.free z.1,z.2⟩) (fun z=>z)⟩
 | T =>
  obtain ⟨as,h1,h2,h3⟩:=h;exact ⟨as,h1,h2,fun a z=>s.free (h3 a z)⟩
end
def tDB (K:PySem.W.Frag) (fl:List Fl) (k:Kd) (f:FA):TA:=fun σ H Q=>∃ G ow δ ds,Rel K fl G ow σ H δ∧f δ=some ds∧∀ vs H',Same H H'→RAs K (Kg G.H0 ow H k) (Sw k) H' vs ds→Q vs H'
abbrev DB (X:Cx) (fl:List Fl) (k:Kd) (es:List Expr) (f:FA):Prop:=PA X es (tDB X.K fl k f)
section
variable {X:Cx} {fl:List Fl} {e a b c:Expr} {es rest:List Expr} {k:Kd} {f fa fb fc:FE} {ft gt:FT} {pos:Pos}
theorem En:DB X fl k [] aZ:=PA.imp sZ fun σ H Q h=>by
 refine D3.ex4 h fun G ow δ ds R hf q=>?_
 cases hf;exact q [] H (Same.refl H) .nil
theorem N6 {fr:FA} (hk:isR k=true) (h:DE X fl k e f) (hr:DB X fl k es fr) (hs:starEach (e :: es) X.env=(false,eval e X.env) :: starEach es X.env:=by exact qj rfl):DB X fl k (e :: es) (aq f fr):=PA.imp (mq h hr hs) fun σ H Q h=>by
 refine D3.ex4 h fun G ow δ ds R hf q=>?_
 refine D3.ex1 (bind1 hf) fun d e1 hf=>?_
 refine D3.ex1 (bind1 hf) fun r e2 hf=>?_
 cases hf;refine ⟨G,ow,δ,d,R,e1,fun v H1 s1 r1=>⟨G,ow,δ,r,R.grow s1,e2,fun vs H2 s2 r2=>?_⟩⟩;exact q _ H2 (s1.trans s2) (.cons ((r1.ra hk).same s2) (r2.imp (HX s1 hk) (fun z=>z)))
theorem pI (h:DB X fl .P es fa'):DA X fl es fa':=PA.imp h fun σ H Q h=>by
 refine D3.ex4 h fun G ow δ ds R hf q=>?_
 exact ⟨G,ow,δ,ds,R,hf,fun vs H' s r=>q vs H' s r⟩
theorem mY {x1} {fa:FA} (hk:isR k=true) (h:DB X fl k es fa):DE X fl k (.Tuple es x1 pos) (dTup fa):=PE.imp (RX h) fun σ H Q h=>by
 refine D3.ex4 h fun G ow δ d R hf q=>?_
 refine D3.ex1 (bind1 hf) fun l e1 e2=>?_
 by_cases z:l.length ≤ sizeLine
 ·rw [if_pos z] at e2
  cases e2;refine ⟨G,ow,δ,l,R,e1,fun vs H' s r=>⟨by rwa [r.length],fun p hp=>?_⟩⟩;have g:=fH hp (.tup vs);exact q _ _ (s.trans g) (Rs.of_ra hk (.tup dU (r.same g)))
 ·rw [if_neg z] at e2
  cases e2
theorem su {fa:FA} (h:DB X fl .A es fa):DE X fl .F (.List es pos) (mQ fa):=PE.imp (JV h) fun σ H Q h=>by
 refine D3.ex4 h fun G ow δ d R hf q=>?_
 refine D3.ex1 (bind1 hf) fun l e1 e2=>?_
 by_cases z:l.length ≤ sizeLine
 ·rw [if_pos z] at e2
  cases e2;refine ⟨G,ow,δ,l,R,e1,fun vs H' s r=>⟨by rwa [r.length],fun p hp=>?_⟩⟩;have g:=fH hp (.lst vs);exact q _ _ (s.trans g) (.inr ⟨p,vs,l,rfl,rfl,s.free hp,dU,(r.track.imp (fun b w=>⟨w.1,fun e=>w.2 (e ▸ hp)⟩) (fun z=>z)).same g⟩)
 ·rw [if_neg z] at e2
  cases e2
theorem jU {fa:FA} (h:DB X fl .C es fa):DE X fl .FC (.List es pos) (mQ fa):=PE.imp (JV h) fun σ H Q h=>by
 refine D3.ex4 h fun G ow δ d R hf q=>?_
 refine D3.ex1 (bind1 hf) fun l e1 e2=>?_
 by_cases z:l.length ≤ sizeLine
 ·rw [if_pos z] at e2
  cases e2;refine ⟨G,ow,δ,l,R,e1,fun vs H' s r=>⟨by rwa [r.length],fun p hp=>?_⟩⟩;have g:=fH hp (.lst vs);exact q _ _ (s.trans g) (.inr ⟨p,vs,l,rfl,rfl,s.free hp,dU,(r.track.imp (fun b w=>⟨w.1,fun e=>w.2 (e ▸ hp)⟩) (fun z=>z)).same g⟩)
 ·rw [if_neg z] at e2
  cases e2
theorem RAs.at {K:PySem.W.Frag} {ok:Ok} {pl:Bool} {H:Hp} {vs:List V} {l:List D} {i:Int} {d:D} (r:RAs K ok pl H vs l) (h:pAt l i=some d):∃ v,atI vs i=some v∧RA K ok pl H v d:=by
 unfold atI;refine D3.ex1 (bind1 h) fun j e1 e2=>?_
 obtain ⟨y,e3,ry⟩:=r.get e2;exact ⟨y,by rwa [r.length,show ixN l.length i=some j from e1],ry⟩
theorem V1 {L:List Nat} (ha:DE X fl (.B L) a fa) (hb:DE X fl .P b fb) (hs:zQ b):DE X fl .A (.Subscript a b pos) (dOp gIx fa fb):=PE.imp (VB R6 ha hb hs) fun σ H Q h=>by
 refine D3.ex4 h fun G ow δ d R hf q=>?_
 refine D3.ex2 (B_ hf) fun x y e1 e2 e3=>?_
 refine ⟨G,ow,δ,x,R,e1,fun v H1 s1 r1=>⟨G,ow,δ,y,R.grow s1,e2,fun u H2 s2 r2=>?_⟩⟩;unfold gIx at e3;split at e3
 ·next l i =>
  obtain rfl:=RA.intE r2;rcases r1 with r1 | ⟨i',_,p,xs,ds,ho,rfl,ez,hx,hr⟩
  ·obtain ⟨p,xs,rfl,hx,hr⟩:=RA.lstE (RA.same s2 r1);obtain ⟨z,ez,rz⟩:=hr.at e3;exact .inl ⟨p,xs,i,z,rfl,rfl,hx,ez,q z H2 (s1.trans s2) rz⟩
  ·cases ez;obtain ⟨z,ez,rz⟩:=(hr.same s2).at e3;exact .inl ⟨p,xs,i,z,rfl,rfl,SqL.of (s2 _ _ hx),ez,q z H2 (s1.trans s2) rz⟩
 ·next l i =>
  obtain rfl:=RA.intE r2;rcases r1 with r1 | ⟨i',_,p,xs,ds,ho,rfl,ez,hx,hr⟩
  ·obtain ⟨p,xs,rfl,hx,hr⟩:=RA.tupE (RA.same s2 r1);obtain ⟨z,ez,rz⟩:=hr.at e3;exact .inr (.inl ⟨p,xs,i,z,rfl,rfl,hx,ez,q z H2 (s1.trans s2) rz⟩)
  ·cases ez
 ·cases e3
theorem ql {op:BoolOp} (h:DE X fl k a f):DE X fl k (.BoolOp op [a] pos) f:=Rv h
theorem nY (h1:DE X fl .P a fa) (h2:DE X fl k (.BoolOp .And (b :: rest) pos) fb):DE X fl k (.BoolOp .And (a :: b :: rest) pos) (uH fa fb):=PE.imp (Rw h1 h2) fun σ H Q h=>by
 refine D3.ex4 h fun G ow δ d R hf q=>?_
 refine D3.ex1 (bind1 hf) fun x e1 e2=>?_
 refine ⟨G,ow,δ,x,R,e1,fun v H1 s1 r1=>?_⟩;split at e2
 ·obtain rfl:=RA.blE r1;exact ⟨true,rfl,zV ⟨G,ow,δ,d,R.grow s1,e2,fun u H2 s2 r2=>q u H2 (s1.trans s2) (r2.back s1)⟩⟩
 ·obtain rfl:=RA.blE r1
  cases e2;exact ⟨false,rfl,zU (q _ H1 s1 (Rs.of_flat rfl (.bl _)))⟩
 ·cases e2
theorem QV (h1:DE X fl .P a fa) (h2:DE X fl k (.BoolOp .Or (b :: rest) pos) fb):DE X fl k (.BoolOp .Or (a :: b :: rest) pos) (dOr fa fb):=PE.imp (Vp h1 h2) fun σ H Q h=>by
 refine D3.ex4 h fun G ow δ d R hf q=>?_
 refine D3.ex1 (bind1 hf) fun x e1 e2=>?_
 refine ⟨G,ow,δ,x,R,e1,fun v H1 s1 r1=>?_⟩;split at e2
 ·obtain rfl:=RA.blE r1
  cases e2;exact ⟨true,rfl,zV (q _ H1 s1 (Rs.of_flat rfl (.bl _)))⟩
 ·obtain rfl:=RA.blE r1;exact ⟨false,rfl,zU ⟨G,ow,δ,d,R.grow s1,e2,fun u H2 s2 r2=>q u H2 (s1.trans s2) (r2.back s1)⟩⟩
 ·cases e2
theorem Sx (h1:DE X fl .P a fa):DE X fl .FC (.UnaryOp .Not a pos) (Sd fa):=PE.imp (Rx h1) fun σ H Q h=>by
 refine D3.ex4 h fun G ow δ d R hf q=>?_
 refine D3.ex1 (bind1 hf) fun x e1 e2=>?_
 refine ⟨G,ow,δ,x,R,e1,fun v H1 s1 r1=>?_⟩;split at e2
 ·next c =>
  obtain rfl:=RA.blE r1
  cases e2;exact ⟨c,rfl,q _ H1 s1 (Rs.of_flat rfl (.bl _))⟩
 ·cases e2
theorem jZ (h:DT X fl a ft):DT X fl (.UnaryOp .Not a pos) (lU ft):=PT.imp (Ru h) fun σ H Q h=>by
 refine D3.ex4 h fun G ow δ t R hf q=>?_
 unfold lU at hf
 cases e:ft δ with
 | none=>rw [e] at hf;cases hf
 | some x =>
  rw [e] at hf
  cases hf;exact ⟨G,ow,δ,x,R,e,fun H' s=>q H' s⟩
theorem oR (h:DT X fl a ft):DW X fl (.BoolOp .And [a] pos) ft:=M6 h
theorem lW (h:DT X fl a ft):DW X fl (.BoolOp .Or [a] pos) ft:=Rr h
theorem rN (h1:DT X fl a ft) (h2:DW X fl (.BoolOp .And (b :: rest) pos) gt):DW X fl (.BoolOp .And (a :: b :: rest) pos) (oA ft gt):=PW.imp (Rt h1 h2) fun σ H Q h=>by
 refine D3.ex4 h fun G ow δ t R hf q=>?_
 refine D3.ex1 (bind1 hf) fun x e1 e2=>?_
 refine ⟨G,ow,δ,x,R,e1,fun H1 s1=>?_⟩
 cases x with
 | true=>exact zV ⟨G,ow,δ,t,R.grow s1,e2,fun H2 s2=>q H2 (s1.trans s2)⟩
 | false=>cases e2;exact zU (q H1 s1)
theorem mZ (h1:DT X fl a ft) (h2:DW X fl (.BoolOp .Or (b :: rest) pos) gt):DW X fl (.BoolOp .Or (a :: b :: rest) pos) (tOr ft gt):=PW.imp (Vk h1 h2) fun σ H Q h=>by
 refine D3.ex4 h fun G ow δ t R hf q=>?_
 refine D3.ex1 (bind1 hf) fun x e1 e2=>?_
 refine ⟨G,ow,δ,x,R,e1,fun H1 s1=>?_⟩
 cases x with
 | true=>cases e2;exact zV (q H1 s1)
 | false=>exact zU ⟨G,ow,δ,t,R.grow s1,e2,fun H2 s2=>q H2 (s1.trans s2)⟩
theorem pq (h:DW X fl a ft):DT X fl a ft:=PW.pt h
theorem wQ {op op':CmpOp} {r r':R2} {g g':D→D→Option D} (ho:OpR X (compareOp op) r) (ho':OpR X (compareOp op') r') (hb:BrO X.K r g) (hb':BrO X.K r' g') (h1:DE X fl .P a fa) (h2:DE X fl .P b fb) (h3:DE X fl .P c fc)
 (hm:lastMarks [op,op'] [b,c]=false:=by with_unfolding_all rfl):DE X fl .FC (.Compare a [op,op'] [b,c] pos) (o8 g g' fa fb fc):=PE.imp (JR ho ho' h1 h2 h3 hm) fun σ H Q h=>by
 refine D3.ex4 h fun G ow δ d R hf q=>?_
 refine D3.ex1 (bind1 hf) fun x e1 hf=>?_
 refine D3.ex1 (bind1 hf) fun y e2 hf=>?_
 refine D3.ex1 (bind1 hf) fun z e3 hf=>?_
 refine ⟨G,ow,δ,x,R,e1,fun v H1 s1 r1=>⟨G,ow,δ,y,R.grow s1,e2,fun u H2 s2 r2=>?_⟩⟩;refine hb H2 v u x y z _ (RA.same s2 r1) r2 e3 fun zv hz rz=>?_
 split at hf
 ·obtain rfl:=rz.blE;refine D3.ex1 (bind1 hf) fun w e4 e5=>?_
  refine ⟨true,rfl,zV ⟨G,ow,δ,w,R.grow (s1.trans s2),e4,fun wv H3 s3 r3=>?_⟩⟩;exact hb' H3 u wv y w d Q (RA.same s3 r2) r3 e5 fun z hz rz=>q z H3 (s1.trans (s2.trans s3)) (.inl ⟨hz,rz⟩)
 ·obtain rfl:=rz.blE
  cases hf;exact ⟨false,rfl,zU (q _ H2 (s1.trans s2) (.inl ⟨rfl,.bl _⟩))⟩
 ·cases hf
theorem HY {op op' op'':CmpOp} {r r' r'':R2} {g g' g'':D→D→Option D} {d:Expr} {fd:FE} (ho:OpR X (compareOp op) r) (ho':OpR X (compareOp op') r') (ho'':OpR X (compareOp op'') r'') (hb:BrO X.K r g) (hb':BrO X.K r' g') (hb'':BrO X.K r'' g'') (h1:DE X fl .P a fa) (h2:DE X fl .P b fb) (h3:DE X fl .P c fc) (h4:DE X fl .P d fd)
 (hm:lastMarks [op,op',op''] [b,c,d]=false:=by with_unfolding_all rfl):DE X fl .FC (.Compare a [op,op',op''] [b,c,d] pos) (vR g g' g'' fa fb fc fd):=PE.imp (HJ ho ho' ho'' h1 h2 h3 h4 hm) fun σ H Q h=>by
 refine D3.ex4 h fun G ow δ dd R hf q=>?_
 refine D3.ex1 (bind1 hf) fun x e1 hf=>?_
 refine D3.ex1 (bind1 hf) fun y e2 hf=>?_
 refine D3.ex1 (bind1 hf) fun z e3 hf=>?_
 refine ⟨G,ow,δ,x,R,e1,fun v H1 s1 r1=>⟨G,ow,δ,y,R.grow s1,e2,fun u H2 s2 r2=>?_⟩⟩;refine hb H2 v u x y z _ (RA.same s2 r1) r2 e3 fun zv hz rz=>?_
 split at hf
 ·obtain rfl:=rz.blE;refine D3.ex1 (bind1 hf) fun w e4 hf=>?_
  refine D3.ex1 (bind1 hf) fun z' e5 hf=>?_
  refine ⟨true,rfl,zV ⟨G,ow,δ,w,R.grow (s1.trans s2),e4,fun wv H3 s3 r3=>?_⟩⟩;refine hb' H3 u wv y w z' _ (RA.same s3 r2) r3 e5 fun zv' hz' rz'=>?_
  split at hf
  ·obtain rfl:=rz'.blE;refine D3.ex1 (bind1 hf) fun t e6 e7=>?_
   refine ⟨true,rfl,zV ⟨G,ow,δ,t,R.grow (s1.trans (s2.trans s3)),e6,fun tv H4 s4 r4=>?_⟩⟩;exact hb'' H4 wv tv w t dd Q (RA.same s4 r3) r4 e7 fun z hz rz=>q z H4 (s1.trans (s2.trans (s3.trans s4))) (.inl ⟨hz,rz⟩)
  ·obtain rfl:=rz'.blE
   cases hf;exact ⟨false,rfl,zU (q _ H3 (s1.trans (s2.trans s3)) (.inl ⟨rfl,.bl _⟩))⟩
  ·cases hf
 ·obtain rfl:=rz.blE
  cases hf;exact ⟨false,rfl,zU (q _ H2 (s1.trans s2) (.inl ⟨rfl,.bl _⟩))⟩
 ·cases hf
theorem zZ {K:PySem.W.Frag} {ok:Ok} {pl:Bool} {H:Hp} {v:V} {d:D} (r:RA K ok pl H v d):decide (v = .non)=isNone d:=by
 cases r <;> rfl
theorem Sy {j pos'} (h:DE X fl .P a f):DE X fl .FC (.Compare a [.Is] [.Constant .none j pos'] pos) (dUn rF f):=PE.imp (JB (Jz h)) fun σ H Q h=>by
 refine D3.ex4 h fun G ow δ d R hf q=>?_
 refine D3.ex1 (bind1 hf) fun x e1 e2=>?_
 cases e2;refine ⟨G,ow,δ,x,R,e1,fun v H1 s1 r1=>?_⟩;show Q (.bl (decide (v = .non))) H1;rw [zZ (RA.same (Same.refl H1) r1)];exact q _ H1 s1 (.inl ⟨rfl,.bl _⟩)
theorem Gu {j pos'} (h:DE X fl .P a f):DE X fl .FC (.Compare a [.IsNot] [.Constant .none j pos'] pos) (dUn lK f):=PE.imp (JB (Gb h)) fun σ H Q h=>by
 refine D3.ex4 h fun G ow δ d R hf q=>?_
 refine D3.ex1 (bind1 hf) fun x e1 e2=>?_
 cases e2;refine ⟨G,ow,δ,x,R,e1,fun v H1 s1 r1=>?_⟩;show Q (.bl (!decide (v = .non))) H1;rw [zZ (RA.same (Same.refl H1) r1)];exact q _ H1 s1 (.inl ⟨rfl,.bl _⟩)
def BrC (K:PySem.W.Frag) (r:List V→Hp→VK→Prop) (g:List D→Option D):Prop:=∀ (H:Hp) (xs:List V) (ds:List D) (d:D) (Q:VK),RAs K ok1 true H xs ds→g ds=some d→(∀ v,flat d=true→RA K ok0 false H v d→Q v H)→r xs H Q
theorem dW {id:String} {r:List V→Hp→VK→Prop} {g:List D→Option D} {x:Str} {p:Pos} {fa:FA} (hc:oK X (.builtin id) r) (hb:BrC X.K r g) (hg:Gl X x) (hm:X.mg x=none) (hv:bootBuiltins x=some (.builtin id)) (ha:DB X fl .P (e :: es) fa) (hn:x ≠ "__name__" := by decide) (hdb:(x == ("__debug__" : Str))=false:=by decide)
 (he:starEach (e :: es) X.env=(false,eval e X.env) :: starEach es X.env:=by exact qj rfl) (hpl:(backTo pos (starEach es X.env)).any (·.1)=false:=by exact Kf rfl):DE X fl .FC (.Call (.Name x p) (e :: es) [] pos) (dCall g fa) :=
 PE.imp (tR hc hg hm hv ha hn hdb he hpl) fun σ H Q h=>by
 refine D3.ex4 h fun G ow δ d R hf q=>?_
 refine D3.ex1 (bind1 hf) fun ds e1 e2=>?_
 exact ⟨G,ow,δ,ds,R,e1,fun vs H' s r'=>hb H' vs ds d Q r' e2 fun v hv rv=>q v H' s (.inl ⟨hv,rv⟩)⟩
theorem jN {K:PySem.W.Frag}:BrC K (fun xs H Q=>∃ p ys,xs=[.ref p]∧(SqL K H p ys∨SqT K H p ys)∧Q (.int ys.length) H) jH:=by
 intro H xs ds d Q r e q;unfold jH at e;split at e
 ·next l =>
  cases e
  cases r with
  | cons r1 r2 =>
   cases r2;obtain ⟨a,ys,rfl,hx,hr⟩:=r1.lstE;refine ⟨a,ys,rfl,.inl hx,?_⟩;rw [hr.length];exact q _ rfl (.int _)
 ·next l =>
  cases e
  cases r with
  | cons r1 r2 =>
   cases r2;obtain ⟨a,ys,rfl,hx,hr⟩:=r1.tupE;refine ⟨a,ys,rfl,.inr hx,?_⟩;rw [hr.length];exact q _ rfl (.int _)
 ·cases e
theorem Eo {K:PySem.W.Frag}:BrC K (fun xs H Q=>∃ i j,xs=[.int i,.int j]∧Q (.int (if j > i then j else i)) H) wH:=by
 intro H xs ds d Q r e q;unfold wH at e;split at e
 ·cases e
  cases r with
  | cons r1 r2 =>
   cases r2 with
   | cons r2 r3 =>
    cases r3;obtain rfl:=r1.intE;obtain rfl:=r2.intE;exact ⟨_,_,rfl,q _ rfl (.int _)⟩
 ·cases e
theorem uO {K:PySem.W.Frag}:BrC K (fun xs H Q=>∃ i j,xs=[.int i,.int j]∧Q (.int (if j < i then j else i)) H) rG:=by
 intro H xs ds d Q r e q;unfold rG at e;split at e
 ·cases e
  cases r with
  | cons r1 r2 =>
   cases r2 with
   | cons r2 r3 =>
    cases r3;obtain rfl:=r1.intE;obtain rfl:=r2.intE;exact ⟨_,_,rfl,q _ rfl (.int _)⟩
 ·cases e
theorem N7 (d:D):tyD d = "NoneType" ∨ tyD d = "bool" ∨ tyD d = "int" ∨ tyD d = "str" ∨ tyD d = "list" ∨ tyD d = "tuple" ∨ tyD d = "dict" := by
 cases d <;> simp [tyD]
def Ys (K:PySem.W.Frag):List V→Hp→VK→Prop:=fun xs H Q=>∃ x c d,xs=[x,.ty c]∧(c = "int" ∨ c = "bool" ∨ c = "tuple" ∨ c = "list" ∨ c = "str")∧RA K ok1 true H x d∧Q (.bl (isT c (tyD d))) H
theorem Kh:oK X (.builtin "isinstance") (Ys X.K):=by
 intro pins s σ H xs us Q I r h;obtain ⟨x,c,d,rfl,hc,ra,q⟩:=h;obtain ⟨u,w',rfl,rx,rc⟩:=vals2 r
 cases rc;have kn:=R9 (K:=X.K) hc (N7 d);have fin:∀ tk,EP X pins σ Q (.bool (isT c (tyD d))) { s with toks:=tk }:=fun tk=>⟨.bl _,H,I.tok _,rfl,q⟩
 cases ra with
 | non=>cases (show u=Value.none from rx);exact PySem.W.kia_one PySem.W.kitx_none I.kIn True.intro kn (fun z=>nomatch z) fin
 | bl b=>cases (show u=Value.bool b from rx);exact PySem.W.kia_one PySem.W.kitx_bool I.kIn True.intro kn (fun z=>nomatch z) fin
 | int i=>obtain ⟨t,z⟩:=(show ∃ t,u=Value.int i t from rx);cases z;exact PySem.W.kia_one PySem.W.kitx_int I.kIn True.intro kn (fun z=>nomatch z) fin
 | str y=>obtain ⟨t,z⟩:=(show ∃ t,u=Value.str y t from rx);cases z;exact PySem.W.kia_one PySem.W.kitx_str I.kIn True.intro kn (fun z=>nomatch z) fin
 | @lst a xs ds e k q' =>
  cases (show u=Value.ref a from rx);obtain ⟨its,_,⟨o,n,e1,e2,_⟩,_⟩:=I.list (SqL.of e);exact PySem.W.kia_one PySem.W.kitx_list I.kIn ⟨_,e1,e2⟩ kn (fun z=>nomatch z) fin
 | @lsk a xs ds e k q' =>
  cases (show u=Value.ref a from rx);obtain ⟨its,_,⟨o,n,e1,e2,_⟩,_⟩:=I.list e.sq;exact PySem.W.kia_one PySem.W.kitx_list I.kIn ⟨_,e1,e2⟩ kn (fun z=>nomatch z) fin
 | @tup a xs ds e q' =>
  cases (show u=Value.ref a from rx);obtain ⟨its,_,⟨o,e1,e2,_⟩,_⟩:=I.tuple e.sq;exact PySem.W.kia_one PySem.W.kitx_tuple I.kIn ⟨_,e1,e2⟩ kn (fun z=>nomatch z) fin
 | @dic a u0 kvs e g k =>
  rcases g.or with ⟨ks,z⟩ | ⟨ks,z⟩
  ·rw [z] at e;exact yQ I rx (TyOf.dK e) kn fin
  ·rw [z] at e;exact yQ I rx (TyOf.dT e) kn fin
 | @dik a u0 kvs ob e g k =>
  cases (show u=Value.ref a from rx);have ob:=(show iz X.prog X.w H s.heap a u0 from (show L2.Rd H a u0 from .inr ⟨_,e⟩).ok I.hok);rcases g.or with ⟨ks,z⟩ | ⟨ks,z⟩
  ·rw [z] at ob;obtain ⟨_,_,vs,_,dd⟩:=ob;obtain ⟨o1,_,_,h1,h2,_⟩:=dd;exact PySem.W.kia_one PySem.W.kitx_dict I.kIn ⟨_,h1,h2.1⟩ kn (fun z=>nomatch z) fin
  ·rw [z] at ob;obtain ⟨_,_,xs,_,o1,_,_,h1,h2,_⟩:=ob;exact PySem.W.kia_one PySem.W.kitx_dict I.kIn ⟨_,h1,h2.1⟩ kn (fun z=>nomatch z) fin
theorem wR {T:String} {x:Str} {p p':Pos} (hc:T = "int" ∨ T = "bool" ∨ T = "tuple" ∨ T = "list" ∨ T = "str") (h:DE X fl .P a f) (hg:Gl X "isinstance") (hm:X.mg "isinstance" = none) (hg':Gl X x) (hm':X.mg x=none) (hv':bootBuiltins x=some (.type T))
 (hn':x ≠ "__name__" := by decide) (hd':(x == ("__debug__" : Str))=false:=by decide)
 (he:starEach [a,.Name x p'] X.env=(false,eval a X.env) :: starEach [.Name x p'] X.env:=by rfl) (he2:starEach [.Name x p'] X.env=(false,eval (.Name x p') X.env) :: starEach [] X.env:=by rfl) (hpl:(backTo pos (starEach [.Name x p'] X.env)).any (·.1)=false:=by rfl) :
 DE X fl .FC (.Call (.Name "isinstance" p) [a,.Name x p'] [] pos) (dUn (gIs T) f) :=
 PE.imp (tR Kh hg hm boot_isinstance (mq h (mq (M5 (v:=.ty T) hg' hm' hv' rfl hn' hd') sZ he2) he) (by decide) (by decide) he hpl) fun σ H Q h=>by
 refine D3.ex4 h fun G ow δ d R hf q=>?_
 refine D3.ex1 (bind1 hf) fun x e1 e2=>?_
 cases e2;exact ⟨G,ow,δ,x,R,e1,fun v H1 s1 r1=>⟨v,T,x,rfl,hc,r1,q _ H1 s1 (.inl ⟨rfl,.bl _⟩)⟩⟩
end
def spD (K:PySem.W.Frag) (F:List D→Option D):Sp:=fun vs H Q _=>∃ ds d,(Tb H∧RAs K ok1 true H vs ds)∧F ds=some d∧∀ v H',Same H H'→RA K (okN H) false H' v d→Q v H'
section
variable {P:Program} {w:World} {K:PySem.W.Frag} {mg:Str→Option Value} {base:Heap} {x:Str} {ps N:List Str} {st:Stmt} {k n:Nat} {fs:FS} {fl:List Fl}
theorem sy {vs:List V} {ds:List D} {H:Hp} (p:Nat) (hp:∀ i,i < p→fl[i]? = some .A) (hl:ds.length=p) (hN:p ≤ N.length) (r':Tb H∧RAs K ok1 true H vs ds) :
 Rel K fl ⟨H,H,fun _=>none,fun _=>[],r'.1⟩ ow0 (L2.start N vs) H (ds.map (fun d=>some (.d d))++bO (N.length - p) none):=by
 have r:=r'.2;have hv:vs.length=p:=by rwa [r.length]
 have get:∀ i d,(ds.map (fun d=>some (U.d d))++bO (N.length - p) none)[i]? = some (some (.d d))→i < p∧ds[i]? = some d:=fun i d h=>by
  by_cases hi:i < p
  ·rw [dw (by rwa [aD,hl]),aP] at h
   cases e:ds[i]? with
   | none=>rw [e] at h;cases h
   | some z=>rw [e] at h;cases h;exact ⟨hi,rfl⟩
  ·rw [cO (by rw [aD,hl];omega),gF] at h;split at h <;> cases h
 refine ⟨Same.refl H,Same.refl H,?_,fun i a h=>(by cases h),fun i j a h=>(by cases h),fun i h=>rfl,fun i d h _ _=>?_,fun i d h _ h2 _=>?_,fun i a h=>(by cases h),fun i j a h=>(by cases h),fun i j a h=>(by cases h),fun i h=>rfl,fun i d hn h=>?_⟩
 ·unfold L2.start;simp only [bL,aD,cG,hv,hl]
 ·obtain ⟨hi,e⟩:=get i d h;obtain ⟨v,e1,e2⟩:=r.get e;refine ⟨v,?_,e2.imp (fun _ _=>⟨fun i z=>(by cases z),fun i z=>(by cases z)⟩) (fun z=>z)⟩;unfold L2.start;rw [dw (by rwa [aD,hv]),aP,e1];rfl
 ·exact absurd (hp i (get i d h).1) h2
 ·rw [hp i (get i d h).1] at hn
  cases hn
end
section
variable {X:Cx} {fl:List Fl} {e:Expr} {es:List Expr} {pos p:Pos} {x:Str} {ps:List Str} {n:Nat} {F:List D→Option D} {fa:FA}
theorem bf (h:Has X.prog X.w X.K X.mg X.base n x ps (spD X.K F)) (hr:Room n X.A) (ha:DB X fl .P (e :: es) fa) (hg:Gl X x:=by rfl) (hdb:(x == ("__debug__" : Str))=false:=by decide)
 (he:starEach (e :: es) X.env=(false,eval e X.env) :: starEach es X.env:=by exact qj rfl) (hpl:(backTo pos (starEach es X.env)).any (·.1)=false:=by exact Kf rfl) :
 DE X fl .C (.Call (.Name x p) (e :: es) [] pos) (dCall F fa):=PE.imp (J3 h hr ha hg hdb he hpl) fun σ H Q h=>by
 refine D3.ex4 h fun G ow δ d R hf q=>?_
 refine D3.ex1 (bind1 hf) fun ds e1 e2=>?_
 refine ⟨G,ow,δ,ds,R,e1,fun vs H' s r=>?_⟩;show spD X.K F (vs++[]) H' Q E0;rw [cU];exact ⟨ds,d,⟨R.tb.same s,r⟩,e2,fun v H2 s2 r2=>q v H2 (s.trans s2) (RA.imp (fun a z=>s.free z) (fun z=>z) r2)⟩
end
end D3
namespace D3
open PySem PySem.Spec PyProof.Rows L2 My
section
variable {X:Cx} {fl fl':List Fl} {e a b c elt tg iter:Expr} {es ifs:List Expr} {k:Kd} {f fa fb fc:FE} {ft gt:FT} {pos:Pos} {scope:Scope} {ix L TT:List Nat} {fi:FA} {g:FG}
theorem m9:PTs X [] (tDT X.K fl D3.kJ):=fun pins s σ H Q I h=>by
 refine D3.ex4 h fun G ow δ b R hf q=>?_
 cases hf;exact Nv pins s σ H Q I (q H (Same.refl H))
theorem N8 {K:PySem.W.Frag} {G:Gh} {ow:Ow} {σ:St} {H H1:Hp} {δ:DS} (t:Nat) (ix:List Nat) (hfl:∀ i,i < t + ix.length→fl'[i]? = some .A) (R:Rel K fl G ow σ H δ) (s:Same H H1) :
 Rel K fl' ⟨H,H,fun _=>none,fun _=>[],R.tb⟩ ow0 (yu t ix σ) H1 (jE t ix δ):=by
 have get:∀ i d,(jE t ix δ)[i]? = some (some (.d d))→i < t + ix.length∧∃ j,ix[i - t]? = some j∧t ≤ i∧δ[j]? = some (some (.d d)):=fun i d h=>by
  unfold jE at h;by_cases hi:i < t
  ·rw [dw (by rwa [cG]),gF,if_pos hi] at h
   cases h
  ·rw [cO (by rw [cG];omega),cG,aP] at h
   cases e:ix[i - t]? with
   | none=>rw [e] at h;cases h
   | some j =>
    rw [e] at h;have hl:i - t < ix.length:=by
     rcases iM (i - t) ix.length with z | z
     ·exact z
     ·rw [bF z] at e;cases e
    refine ⟨by omega,j,rfl,by omega,?_⟩;have h':(δ[j]?).getD none=some (.d d):=by simpa using h
    cases q:δ[j]? with
    | none=>rw [q] at h';cases h'
    | some o=>rw [q] at h';simp at h';rw [h']
 refine ⟨Same.refl H,s,?_,fun i a h=>(by cases h),fun i j a h=>(by cases h),fun i h=>rfl,fun i d h _ _=>?_,fun i d h _ h2 _=>absurd (hfl i (get i d h).1) h2,fun i a h=>(by cases h),fun i j a h=>(by cases h),fun i j a h=>(by cases h),fun i h=>rfl,fun i d hn h=>(by rw [hfl i (get i d h).1] at hn;cases hn)⟩
 ·unfold yu jE;simp
 ·obtain ⟨hi,j,ej,ht,ed⟩:=get i d h;have key:∃ v,σ[j]? = some (some v)∧RA K ok1 true H v d:=by
   cases hN:isN fl[j]? with
   | true =>
    obtain ⟨v,h1,h2,_⟩:=R.nr j d hN ed;exact ⟨v,h1,h2.ra fun _ _=>trivial⟩
   | false =>
   cases ho:ow j with
   | none =>
    obtain ⟨v,h1,h2⟩:=R.dat j d ed hN ho;exact ⟨v,h1,h2.imp (fun _ _=>trivial) (fun z=>z)⟩
   | some a =>
    obtain ⟨_,_,xs,ds,h1,h2,h3,h4⟩:=R.own j a ho;rw [ed] at h4
    cases h4;exact ⟨_,h1,.lst h2 trivial (h3.imp (fun _ _=>trivial) (fun z=>z))⟩
  obtain ⟨v,h1,h2⟩:=key;refine ⟨v,?_,(h2.imp (fun _ _=>⟨fun i z=>(by cases z),fun i z=>(by cases z)⟩) (fun z=>z)).same s⟩;unfold yu;rw [cO (by rw [cG];omega),cG,aP,ej];show some ((σ[j]?).getD none)=_;rw [h1];rfl
theorem rO {σ:St} {H:Hp} {Q:VK} {t:Nat} (hfl:∀ i,i < t + ix.length→fl'[i]? = some .A) (htg:∀ j ∈ TT,j < t)
 (h:tD X.K fl .FC (iw fi g ft f t ix) σ H Q):Gg (tDI X.K fl L fi) (tDG X.K fl' TT g) (tDT X.K fl' ft) (tD X.K fl' .C f) t (yu t ix) σ H Q:=by
 refine D3.ex4 h fun G ow δ d R hf q=>?_
 refine D3.ex1 (bind1 hf) fun l e1 e2=>?_
 by_cases hl:l.length ≤ 100000
 case neg=>rw [if_neg hl] at e2;cases e2
 rw [if_pos hl] at e2;refine D3.ex1 (bind1 e2) fun r e3 e4=>?_
 cases e4;refine ⟨G,ow,δ,l,R,e1,fun J H1 s1 wk Dl hD=>?_⟩;have R1:=R.grow s1
 let okD:Ok:=fun b=>okN H b∧b ≠ Dl
 refine ⟨fun i m xs H2=>m=l.length - i∧H2 Dl=some (.lst xs)∧Same H1 H2∧xs.length ≤ i∧i ≤ l.length∧∃ ds rest,RAs X.K okD false H2 xs ds∧eN g ft f (jE t ix δ) (l.drop i)=some rest∧r=ds++rest,
  ⟨_,rfl,dU,fH hD _,bB _,iK _,[],r,.nil,by simpa using e3,rfl⟩,?_⟩
 rintro i m xs H2 ⟨rfl,hDl,s2,hxl,hil,ds,rest,hr,hc,rfl⟩;refine ⟨hDl,?_⟩;obtain ⟨w1,w2⟩:=wk H2 (fun b o hb _ _=>s2 b o hb) i;by_cases hlt:i < l.length
 ·have hdrop:=ou hlt;rw [hdrop,eN] at hc;refine D3.ex1 (bind1 hc) fun δ1 e5 hc=>?_
  refine D3.ex1 (bind1 hc) fun bb e6 hc=>?_
  obtain ⟨go,yl⟩:=w1 l[i] (aV hlt);refine .inr ⟨go,Nat.lt_of_le_of_lt (bY hxl (bY hil hl)) (by decide),fun x H3 hy=>?_⟩;obtain ⟨s3,r3⟩:=yl x H3 hy;have s13:=s2.trans s3;have Rb:=(N8 t ix hfl R1 (Same.refl H1)).grow s13;refine ⟨_,_,_,_,δ1,Rb,r3.imp (fun _ _=>⟨fun i z=>(by cases z),fun i z=>(by cases z)⟩) (fun z=>z),e5,fun σ4 R4 keep4=>⟨?_,?_⟩⟩
  ·apply fD;intro n;rw [nO,nO];exact keep4 (t + n) fun z=>absurd (htg _ z) (by omega)
  ·refine ⟨_,_,δ1,bb,R4,e6,fun H5 s5=>?_⟩
   cases bb with
   | false =>
    rw [if_neg dZ] at hc ⊢;have s35:=s3.trans s5;exact ⟨l.length - (i + 1),by omega,rfl,s35 _ _ hDl,s2.trans s35,by omega,hlt,ds,rest,hr.same s35,hc,rfl⟩
   | true =>
    rw [if_pos rfl] at hc ⊢;refine D3.ex1 (bind1 hc) fun y e7 hc=>?_
    refine D3.ex1 (bind1 hc) fun l' e8 hc=>?_
    cases hc;refine ⟨_,_,δ1,y,R4.grow s5,e7,fun v H6 s6 r6=>?_⟩;have s35:=s3.trans s5;have s36:=s35.trans s6;refine ⟨s36 _ _ hDl,l.length - (i + 1),by omega,rfl,dU,?_,by rw [bL,qY];omega,hlt,ds++[y],l',?_,e8,by simp⟩
    ·intro b o hb;rw [cJ (fun z=>by subst z;rw [hD] at hb;cases hb)];exact (s2.trans s36) b o hb
    ·have nd:¬ okD Dl:=fun z=>z.2 rfl
     have s05:=s1.trans (s2.trans s35);have ry:RA X.K okD false H6 v y:=RA.imp (fun b z=>⟨s05.free z,fun e=>by subst e;rw [okN,s35 _ _ hDl] at z;cases z⟩) (fun z=>z) r6;exact ((hr.same s36).append (.cons ry .nil)).upd (s36 _ _ hDl) nd
 ·have ed:l.drop i=[]:=pR (by omega);rw [ed,eN] at hc
  cases hc;refine .inl ⟨w2 (by omega),?_⟩;rw [cU] at q;exact q (.ref Dl) H2 (s1.trans s2) (.inr ⟨Dl,xs,ds,rfl,rfl,s1.free hD,hDl,hr⟩)
theorem iG (hc:X.calm=true) (T Vn:List Str) (ix:List Nat) (hi:DI X fl L tg iter fi)
 (hg:∀ cl C s3 H3 fp,DG (blk X (T++Vn) scope cl C s3 H3 fp) fl' TT tg g) (ht:∀ cl C s3 H3 fp,PTs (blk X (T++Vn) scope cl C s3 H3 fp) ifs (tDT X.K fl' ft)) (he:∀ cl C s3 H3 fp,DE (blk X (T++Vn) scope cl C s3 H3 fp) fl' .C elt f)
 (hfl:∀ i,i < T.length + ix.length→fl'[i]? = some .A:=by decide) (htg:∀ j ∈ TT,j < T.length:=by decide)
 (hB:vJ X.N X.env.scope.names scope.names Vn ix=true:=by rfl) (hk:scope.kind = .function:=by rfl) (hcell:∀ y ∈ scope.names,y.2 ≠ .cell:=by decide +kernel)
 (hnames:∀ x ∈ scope.names,x.2 = .local→scope.names.lookup x.1=some .local:=by decide +kernel)
 (hfr:∀ x ∈ scope.names,x.2 = .free→x.1 ∈ Vn:=by decide +kernel) (hs:∀ x,foldedSetIterable iter X.env x=pure x:=by intro _;rfl) :
 DE X fl .FC (.ListComp elt [⟨tg,iter,ifs,0⟩] scope pos) (iw fi g ft f T.length ix) :=
 PE.imp (Nx hc T Vn ix hi hg ht he hB hk hcell hnames hfr hs) fun _ _ _ h=>rO hfl htg h
theorem tZ {i:Nat} {x:Str} {pos' spos:Pos} (hfx:fl[i]? = some .A) (hN:X.N.Nodup) (hi':X.N[i]? = some x) (hx:X.env.scope.names.lookup x=some .local) (hc:X.calm=true) (T Vn:List Str) (ix:List Nat) (hi:DI X fl L tg iter fi)
 (hg:∀ cl C s3 H3 fp,DG (blk X (T++Vn) scope cl C s3 H3 fp) fl' TT tg g) (ht:∀ cl C s3 H3 fp,PTs (blk X (T++Vn) scope cl C s3 H3 fp) ifs (tDT X.K fl' ft)) (he:∀ cl C s3 H3 fp,DE (blk X (T++Vn) scope cl C s3 H3 fp) fl' .C elt f)
 (hfl:∀ i,i < T.length + ix.length→fl'[i]? = some .A:=by decide) (htg:∀ j ∈ TT,j < T.length:=by decide)
 (hsw:swapsWith (.ListComp elt [⟨tg,iter,ifs,0⟩] scope pos) (some (.Name x pos')) spos.line X.env=pure true:=by rfl)
 (hB:vJ X.N X.env.scope.names scope.names Vn ix=true:=by rfl) (hk:scope.kind = .function:=by rfl) (hcell:∀ y ∈ scope.names,y.2 ≠ .cell:=by decide +kernel)
 (hnames:∀ x ∈ scope.names,x.2 = .local→scope.names.lookup x.1=some .local:=by decide +kernel)
 (hfr:∀ x ∈ scope.names,x.2 = .free→x.1 ∈ Vn:=by decide +kernel) (hs:∀ x,foldedSetIterable iter X.env x=pure x:=by intro _;rfl) :
 DS1 X fl (.Assign [.Name x pos'] (.ListComp elt [⟨tg,iter,ifs,0⟩] scope pos) spos) (bM i (iw fi g ft f T.length ix)) :=
 PS.imp (Gi hN hi' hx hc T Vn ix hi hg ht he hsw hB hk hcell hnames hfr hs) fun Dn σ H h=>by
 refine D3.ex4 h fun G ow δ o R hf q=>?_
 unfold bM at hf;by_cases hl:i < δ.length
 ·rw [if_pos hl] at hf;refine D3.ex1 (bind1 hf) fun d e1 e2=>?_
  cases e2;exact rO (fl:=fl) hfl htg ⟨G,ow,δ,d,R,e1,fun v H' s r=>q ow _ H' ((R.grow s).setA hfx (rY R hl) ((r.FC_F R).F_A R))⟩
 ·rw [if_neg hl] at hf
  cases hf
theorem Ce {i:Nat} {x:Str} {pos' spos:Pos} (hfx:fl[i]? = some .O) (hN:X.N.Nodup) (hi':X.N[i]? = some x) (hx:X.env.scope.names.lookup x=some .local) (hc:X.calm=true) (T Vn:List Str) (ix:List Nat) (hi:DI X fl L tg iter fi)
 (hg:∀ cl C s3 H3 fp,DG (blk X (T++Vn) scope cl C s3 H3 fp) fl' TT tg g) (ht:∀ cl C s3 H3 fp,PTs (blk X (T++Vn) scope cl C s3 H3 fp) ifs (tDT X.K fl' ft)) (he:∀ cl C s3 H3 fp,DE (blk X (T++Vn) scope cl C s3 H3 fp) fl' .C elt f)
 (hfl:∀ i,i < T.length + ix.length→fl'[i]? = some .A:=by decide) (htg:∀ j ∈ TT,j < T.length:=by decide)
 (hsw:swapsWith (.ListComp elt [⟨tg,iter,ifs,0⟩] scope pos) (some (.Name x pos')) spos.line X.env=pure true:=by rfl)
 (hB:vJ X.N X.env.scope.names scope.names Vn ix=true:=by rfl) (hk:scope.kind = .function:=by rfl) (hcell:∀ y ∈ scope.names,y.2 ≠ .cell:=by decide +kernel)
 (hnames:∀ x ∈ scope.names,x.2 = .local→scope.names.lookup x.1=some .local:=by decide +kernel)
 (hfr:∀ x ∈ scope.names,x.2 = .free→x.1 ∈ Vn:=by decide +kernel) (hs:∀ x,foldedSetIterable iter X.env x=pure x:=by intro _;rfl) :
 DS1 X fl (.Assign [.Name x pos'] (.ListComp elt [⟨tg,iter,ifs,0⟩] scope pos) spos) (bM i (iw fi g ft f T.length ix)) :=
 PS.imp (Gi hN hi' hx hc T Vn ix hi hg ht he hsw hB hk hcell hnames hfr hs) fun Dn σ H h=>by
 refine D3.ex4 h fun G ow δ o R hf q=>?_
 unfold bM at hf;by_cases hl:i < δ.length
 ·rw [if_pos hl] at hf;refine D3.ex1 (bind1 hf) fun d e1 e2=>?_
  cases e2;refine rO (fl:=fl) hfl htg ⟨G,ow,δ,d,R,e1,fun v H' s r=>?_⟩;obtain ⟨ow',R'⟩:=R.setO s hfx (rY R hl) (r.FC_F R);exact q ow' _ H' R'
 ·rw [if_neg hl] at hf
  cases hf
theorem Cg {K:PySem.W.Frag} {G:Gh} {ow:Ow} {H H1:Hp} {p:Addr} {vs:List V} {l:List D} (s:Same H H1) (hp:H1 p=none) (r:RAs K (okA ow) true H1 vs l):Rs K G.H0 ow H (upd H1 p (.lst vs)) .F (.ref p) (.list l) :=
 .inr ⟨p,vs,l,rfl,rfl,s.free hp,dU,(r.track.imp (fun b w=>⟨w.1,fun e=>w.2 (e ▸ hp)⟩) (fun z=>z)).same (fH hp _)⟩
theorem z6 {K:PySem.W.Frag} {H0:Hp} {ow:Ow} {Hb H:Hp} {L:List Nat} {v:V} {l:List D} (r:Rs K H0 ow Hb H (.B L) v (.list l)):∃ a xs,v = .ref a∧SqL K H a xs∧RAs K (okA ow) true H xs l:=by
 rcases r with r | ⟨i,hi,a,xs,ds,ho,rfl,e,hx,hr⟩
 ·exact r.lstE
 ·cases e;exact ⟨a,xs,rfl,SqL.of hx,hr⟩
def V2 (K:PySem.W.Frag):R2:=fun x y H Q=>∃ l b xs zs,x = .ref l∧y = .ref b∧SqL K H l xs∧SqL K H b zs∧xs.length + zs.length ≤ sizeLine∧∀ p,H p=none→Q (.ref p) (upd H p (.lst (xs++zs)))
theorem N_:OpR X (binaryOp .Add) (V2 X.K):=by
 intro pins s σ H x y v u Q I rx ry h;obtain ⟨l,b,xs,zs,rfl,rfl,hH,hB,hz,q⟩:=h
 cases rx
 cases ry;obtain ⟨its,r,p,_⟩:=I.list hH;obtain ⟨its2,r2,p2,_⟩:=I.list hB;obtain ⟨⟨cls,dd,data,sl⟩,ho,hc,n,hd⟩:=p.isList;obtain ⟨⟨cls2,dd2,data2,sl2⟩,ho2,hc2,n2,hd2⟩:=p2.isList;simp only at hc hd hc2 hd2;subst hc hd hc2 hd2;have e1:=r.length;have e2:=r2.length;have e:its.toArray++its2.toArray=(its++its2).toArray:=by simp
 refine concat_meets ⟨_,ho,rfl⟩ ⟨_,ho2,rfl⟩ noFill_list_add seq_list_add PySem.F.slot_list_add PySem.F.entry_list_add (PySem.F.args_list_add_2 _ _) (list_addW l b its.toArray its2.toArray n n2 dd dd2 sl sl2 (by simp;omega)) ⟨ho,ho2,?_⟩;rw [e];exact ⟨.ref _,_,I.lnew (t':=s.toks) (r.append r2) (by rw [bL];omega),rfl,q _ I.fresh⟩
theorem uP {L L':List Nat} (h1:DE X fl (.B L) a fa) (h2:DE X fl (.B L') b fb):DE X fl .F (.BinOp a .Add b pos) (dOp rH fa fb):=PE.imp (JM N_ h1 h2) fun σ H Q h=>by
 refine D3.ex4 h fun G ow δ d R hf q=>?_
 refine D3.ex2 (B_ hf) fun x y e1 e2 e3=>?_
 refine ⟨G,ow,δ,x,R,e1,fun v H1 s1 r1=>⟨G,ow,δ,y,R.grow s1,e2,fun u H2 s2 r2=>?_⟩⟩;unfold rH at e3;split at e3
 ·next l m =>
  by_cases z:l.length + m.length ≤ 1000000
  ·rw [if_pos z] at e3
   cases e3;obtain ⟨p,xs,rfl,hx,hr⟩:=z6 r1;obtain ⟨p',ys,rfl,hy,hr'⟩:=z6 r2;refine ⟨p,p',xs,ys,rfl,rfl,s2.seq hx,hy,?_,fun pn hp=>q _ _ ((s1.trans s2).trans (fH hp _)) (Cg (G:=G) (s1.trans s2) hp ((hr.same s2).append hr'))⟩;rw [hr.length,hr'.length];exact bY z (by decide)
  ·rw [if_neg z] at e3
   cases e3
 ·cases e3
theorem RAs.rep {K:PySem.W.Frag} {ok:Ok} {pl:Bool} {H:Hp} {vs:List V} {l:List D} (r:RAs K ok pl H vs l):∀ n:Nat,RAs K ok pl H (bO n vs).flatten (bO n l).flatten
 | 0=>.nil
 | n + 1=>by
  rw [cX,cX,gG,gG];exact r.append (RAs.rep r n)
theorem SJ (h1:DE X fl .F a fa) (h2:DE X fl .P b fb):DE X fl .F (.BinOp a .Mult b pos) (dOp J7 fa fb):=PE.imp (JM R8 h1 h2) fun σ H Q h=>by
 refine D3.ex4 h fun G ow δ d R hf q=>?_
 refine D3.ex2 (B_ hf) fun x y e1 e2 e3=>?_
 refine ⟨G,ow,δ,x,R,e1,fun v H1 s1 r1=>⟨G,ow,δ,y,R.grow s1,e2,fun u H2 s2 r2=>?_⟩⟩;unfold J7 at e3;split at e3
 ·next l k =>
  by_cases z:l.length * k.toNat ≤ 1000000∧-(2 ^ 63) ≤ k∧k < 2 ^ 63
  ·rw [if_pos z] at e3
   cases e3;obtain rfl:=RA.intE r2;rcases r1 with ⟨hz,_⟩ | ⟨p,xs,ds,rfl,ez,h3,h4,h5⟩
   ·simp [flat] at hz
   ·cases ez;refine ⟨p,k,xs,rfl,rfl,s2 _ _ h4,z.2.1,z.2.2,?_,fun pn hp=>q _ _ ((s1.trans s2).trans (fH hp _)) (Cg (G:=G) (s1.trans s2) hp (((h5.imp (fun b w=>w.1) (fun z=>z)).same s2).rep _))⟩;rw [h5.length];exact bY z.1 (by decide)
  ·rw [if_neg z] at e3
   cases e3
 ·cases e3
theorem gH {L:List Nat} {p:Pos} (h:DE X fl (.B L) a f) (hg:Gl X "list") (hm:X.mg "list" = none)
 (he:starEach [a] X.env=(false,eval a X.env) :: starEach [] X.env:=by rfl) (hpl:(backTo pos (starEach [] X.env)).any (·.1)=false:=by rfl):DE X fl .F (.Call (.Name "list" p) [a] [] pos) (dUn gY f) :=
 PE.imp (yW zT hg hm boot_list (mq h sZ he) (by decide) (by decide) he hpl) fun σ H Q h=>by
 refine D3.ex4 h fun G ow δ d R hf q=>?_
 refine D3.ex1 (bind1 hf) fun x e1 e2=>?_
 refine ⟨G,ow,δ,x,R,e1,fun v H1 s1 r1=>?_⟩;unfold gY at e2;split at e2
 ·cases e2;obtain ⟨p,xs,rfl,hx,hr⟩:=z6 r1;exact ⟨p,xs,rfl,.inl hx,fun pn hp=>q _ _ (s1.trans (fH hp _)) (Cg (G:=G) s1 hp hr)⟩
 ·cases e2;rcases r1 with r1 | ⟨i,hi,a,xs,ds,ho,rfl,e,hx,hr⟩
  ·obtain ⟨p,xs,rfl,hx,hr⟩:=r1.tupE;exact ⟨p,xs,rfl,.inr hx,fun pn hp=>q _ _ (s1.trans (fH hp _)) (Cg (G:=G) s1 hp hr)⟩
  ·cases e
 ·cases e2
def tDO (K:PySem.W.Frag) (fl:List Fl) (f:FO):TO:=fun σ H Q=>∃ G ow δ o,Rel K fl G ow σ H δ∧f δ=some o∧∀ H',Same H H'→Q o H'
theorem PO.imp {o:Option Expr} {t t':TO} (h:PO X o t) (i:∀ σ H Q,t' σ H Q→t σ H Q):PO X o t':=fun pins s σ H Q I q=>h pins s σ H Q I (i σ H Q q)
theorem z7:PO X none (tDO X.K fl zc):=PO.imp Nk fun σ H Q h=>by
 refine D3.ex4 h fun G ow δ o R hf q=>?_
 cases hf;exact q H (Same.refl H)
theorem z8 (h:DE X fl .P e f):PO X (some e) (tDO X.K fl (zf f)):=PO.imp (Nm h) fun σ H Q h=>by
 refine D3.ex4 h fun G ow δ o R hf q=>?_
 refine D3.ex1 (bind1 hf) fun d e1 e2=>?_
 split at e2
 ·cases e2;refine ⟨G,ow,δ,_,R,e1,fun v H1 s1 r1=>?_⟩;obtain rfl:=RA.intE r1;exact ⟨_,rfl,q H1 s1⟩
 ·cases e2
theorem Kl (n d:Nat) (o:Option Int):HT.sIx n d o=pSx n d o:=by
 cases o <;> rfl
theorem RAs.cut {K:PySem.W.Frag} {ok:Ok} {pl:Bool} {H:Hp} {vs:List V} {l:List D} (r:RAs K ok pl H vs l) (lo hi:Option Int):RAs K ok pl H (Hz vs lo hi) (cutD l lo hi):=by
 unfold Hz cutD;rw [r.length,Kl,Kl];exact (r.drop _).take _
theorem Km {L:List Nat} {lo hi:Option Expr} {p2:Pos} {fl1 fh:FO} (h:DE X fl (.B L) a f) (h1:PO X lo (tDO X.K fl fl1)) (h2:PO X hi (tDO X.K fl fh)):DE X fl .F (.Subscript a (.Slice lo hi none p2) pos) (dSl f fl1 fh):=PE.imp (JW Nq h h1 h2) fun σ H Q h=>by
 refine D3.ex4 h fun G ow δ d R hf q=>?_
 refine D3.ex1 (bind1 hf) fun x e1 hf=>?_
 refine D3.ex1 (bind1 hf) fun o1 e2 hf=>?_
 refine D3.ex1 (bind1 hf) fun o2 e3 e4=>?_
 refine ⟨G,ow,δ,x,R,e1,fun v H1 s1 r1=>⟨G,ow,δ,o1,R.grow s1,e2,fun H2 s2=>⟨G,ow,δ,o2,R.grow (s1.trans s2),e3,fun H3 s3=>?_⟩⟩⟩;split at e4
 ·cases e4;obtain ⟨p,xs,rfl,hx,hr⟩:=z6 r1;have s13:=s2.trans s3;exact ⟨p,xs,rfl,s13.seq hx,fun pn hp=>q _ _ ((s1.trans s13).trans (fH hp _)) (Cg (G:=G) (s1.trans s13) hp ((hr.same s13).cut o1 o2))⟩
 ·cases e4
theorem nZ {st:Stmt}:DS1 X fl st (fun _=>none):=PS.imp JD fun Dn σ H h=>by
 refine D3.ex4 h fun G ow δ o R hf q=>?_
 cases hf
end
end D3
namespace D3
open PySem PySem.Spec PyProof.Rows L2 My
section
variable {X:Cx} {pins:List (Addr × Obj)} {σ:St} {H:Hp} {s:Shared} {h':Heap}
theorem Inv.turnedL {t':Nat} {ch:List Addr} (I:Inv X pins σ H s) (k:∀ b o,b ∉ ch→s.heap.get? b=some o→h'.get? b=some o) (hf:∀ b ∈ ch,uE X pins H b):Inv X pins σ H { s with heap:=h',toks:=t' }:=by
 have nit:∀ b u,H b=some u→b ∉ ch:=fun b u e z=>by rw [(hf b z).1] at e;cases e
 refine I.step (g':=s.gens) (d':=s.drawn) (ch:=ch) (fun b hb=>?_) (fun b o _ _ hc e _=>k b o hc e) (fun b o _ _ hc e _=>⟨o.slots,k b o hc e⟩) (fun _ _ _ _ n=>n)
  (fun b o hc e=>⟨o,k b o hc e⟩) (fun _ _ e=>e) (fun _ _ _ e=>e) (fun _ _ _ e=>e) (fun m hm=>?_) (fun b u e=>?_) I.bare
 ·obtain ⟨f0,f1,f2,f3,f4,f5⟩:=hf b hb;exact ⟨f3,f1,f4,f5⟩
 ·obtain ⟨o,es,ep,ho,r⟩:=hm;exact ⟨o,es,ep,k _ o (fun z=>(hf _ z).2.1 rfl) ho,r⟩
 ·refine (I.hok b u e).stay (fun c v hc q=>k c v ?_ q) (fun _ q=>q) fun _ _ q=>q
  rcases hc with z | z
  ·rw [z];exact nit b u e
  ·exact nit c _ z
end
def Ite (K:PySem.W.Frag) (a:Addr):It :=
 ⟨fun i H=>∃ xs x,SqL K H a xs∧xs[i]? = some x,fun i H x H'=>∃ p y,H p=none∧H'=upd H p (.tup [.int i,y])∧x = .ref p∧∀ xs,SqL K H a xs→xs[i]? = some y,fun i H=>∃ xs,SqL K H a xs∧xs.length ≤ i⟩
theorem H_ {P:Program} {w:World} {K:PySem.W.Frag} {elts:List Expr} {x1} {tpos:Pos} (a it:Addr) :
 Turn P w K (.Tuple elts x1 tpos) (Ite K a) [it + 1,it] (it + 1) (fun i h=>∃ old,IsEnum h (it + 1) it (i:Int) old∧h.IsListIter it a i) where
 mem:=by simp
 obj:=fun i h st b hb=>by
  obtain ⟨old,he,o,e,c,d⟩:=st;rcases aY.mp hb with z | z
  ·subst z;exact ⟨_,he,fun v z=>by cases z⟩
  ·have z:b=it:=by simpa using z
   subst z;exact ⟨o,e,fun v z=>by rw [d] at z;cases z⟩
 keep:=fun i h h' st k=>by
  obtain ⟨old,he,hi⟩:=st;exact ⟨old,k _ (by simp) _ he,hi.at fun o e=>k it (by simp) o e⟩
 item:=by
  intro X hP hw hK hc i pins s σ H E I hf st hg;subst hP hw hK;obtain ⟨xs,x,hq,hx⟩:=hg;obtain ⟨its,rv,p,hz⟩:=I.list hq;obtain ⟨u,hu,ru⟩:=rv.get hx;obtain ⟨old,he,hi⟩:=st;have hlt:=aa he;refine wpAny_pyNext_enum_item he hi p.isList (x:=u) (by simpa using hu) (Nat.succ_ne_self it) fun h1 ho hi1 ht hsz hk=>?_
  refine ⟨_,rfl,wpAny_letOwnedTupleGo_enum ho fun h2 he2 hs2=>?_⟩
  replace hs2:Heap.SameBut (it + 1) h1 h2:=hs2
  have hn:=I.hok.fresh (bB _);have I0:Inv X pins σ (upd H s.heap.objs.size (.tup [.int (i:Int),x])) { s with heap:=s.heap.push { cls:=.type "tuple", data:=.seq #[.int (i:Int) s.toks,u] } } :=
   I.laid (t':=s.toks) (fun b o e=>ac _ e) (bB _) ⟨show 2 ≤ sizeLine by decide,[.int (i:Int) s.toks,u],.cons ⟨_,rfl⟩ (.cons ru .nil),⟨_,af _ rfl,rfl,_,rfl⟩⟩
  have ne:∀ b,b ∈ [it + 1,it]→b ≠ s.heap.objs.size:=fun b hb=>by
   rcases aY.mp hb with w' | w'
   ·rw [w'];exact bW hlt
   ·rw [show b=it by simpa using w'];exact bW (Nat.lt_of_succ_lt hlt)
  have I1:Inv X pins σ (upd H s.heap.objs.size (.tup [.int (i:Int),x])) { s with heap:=h2,toks:=s.toks + 1 }:=by
   refine Inv.turnedL (s:={ s with heap:=s.heap.push { cls:=.type "tuple", data:=.seq #[.int (i:Int) s.toks,u] } }) (ch:=[it + 1,it]) I0 (fun b o hb e=>?_) fun b hb=>⟨by rw [cJ (ne b hb)];exact (hf b hb).1,(hf b hb).2⟩
   have b1:b ≠ it + 1:=fun z=>hb (by simp [z])
   have b2:b ≠ it:=fun z=>hb (by simp [z])
   rcases br e with ⟨e1,e2⟩ | e1
   ·subst e1 e2;exact (hs2.2 _ b1).trans ht
   ·exact (hs2.2 _ b1).trans (hk b o b1 b2 e1)
  refine ⟨.ref s.heap.objs.size,_,I1,rfl,⟨_,x,hn,rfl,rfl,fun ys hy=>by rwa [I.list_inj hy hq]⟩,⟨_,he2,hi1.at fun o e=>(hs2.2 _ (bW (lQ it))).trans e⟩,fun b hb=>?_⟩;rw [cJ (ne b hb)];exact (hf b hb).1
 done:=by
  intro X hP hw hK hc i pins s σ H E I hf st hg;subst hP hw hK;obtain ⟨xs,hq,hx⟩:=hg;obtain ⟨its,rv,p,hz⟩:=I.list hq;obtain ⟨old,he,hi⟩:=st;have hl:=rv.length;refine wpAny_pyNext_enum_end (I.ok.hd hc) he hi p.isList (by simp;omega) fun h' eb=>⟨rfl,Inv.turnedL (t':=s.toks) (ch:=[it + 1,it]) I (fun b o hb e=>eb b o (fun z=>hb (by simp [z])) e) hf⟩
 self:=fun _ _ _ _ _ st h=>by
  obtain ⟨old,he,_⟩:=st;exact wpAny_pyIter_enum he h
section
variable {X:Cx} {fl:List Fl} {a:Expr} {f:FE} {pos:Pos}
def V3 (K:PySem.W.Frag) (tl:TE):TI:=fun σ H R=>tl σ H fun x H1=>∃ a,x = .ref a∧(∃ xs,SqL K H1 a xs)∧R (Ite K a) H1
theorem Oa {elts:List Expr} {x1} {tpos p:Pos} {tl:TE} (hg:Gl X "enumerate") (hm:X.mg "enumerate" = none) (hl:PE X a tl) (he:starEach [a] X.env=(false,eval a X.env) :: starEach [] X.env:=by rfl)
 (hpl:(backTo pos (starEach [] X.env)).any (·.1)=false:=by rfl):PI X (.Tuple elts x1 tpos) (.Call (.Name "enumerate" p) [a] [] pos) (V3 X.K tl):=by
 intro pins s σ H R I h;refine ax (rC I hg hm boot_enumerate (PyProof.Rows.callWith_type1 (thn ((mq hl sZ he) pos pins s σ H (fun vs H1=>match vs with | [x]=>∃ a,x = .ref a∧(∃ xs,SqL X.K H1 a xs)∧R (Ite X.K a) H1 | _=>False) I h) fun us s1 ⟨vs,H1,I1,r1,q1⟩=>?_) he hpl))
 cases r1 with
 | nil=>exact q1.elim
 | cons r rr =>
  cases rr with
  | cons _ _=>exact q1.elim
  | nil =>
  obtain ⟨l,e,⟨xs,hq⟩,q⟩:=q1;subst e
  cases r;obtain ⟨its,rv,pl,hz⟩:=I1.list hq;refine call_enumerate_list pl.isList fun h' he' hi' hsz hk=>?_
  have I2:=I1.kept (t':=s1.toks) hk;refine wpAny_pyIter_enum (s:={ s1 with heap:=h' }) he' ?_;refine ⟨s1.heap.objs.size + 1,[s1.heap.objs.size + 1,s1.heap.objs.size],_,_,H1,rfl,I2,H_ l s1.heap.objs.size,⟨_,he',hi'⟩,fun b hb=>?_,q⟩;have hb':s1.heap.objs.size ≤ b:=by
   rcases aY.mp hb with z | z
   ·rw [z];exact vf _
   ·rw [show b=s1.heap.objs.size by simpa using z];exact bB _
  exact I1.fpOk hb' (I1.hok.fresh hb')
theorem sE {elts:List Expr} {x1} {tpos p:Pos} {L:List Nat} (h:DE X fl (.B L) a f) (hg:Gl X "enumerate") (hm:X.mg "enumerate" = none) (he:starEach [a] X.env=(false,eval a X.env) :: starEach [] X.env:=by rfl)
 (hpl:(backTo pos (starEach [] X.env)).any (·.1)=false:=by rfl):DI X fl L (.Tuple elts x1 tpos) (.Call (.Name "enumerate" p) [a] [] pos) (vh f):=PI.imp (Oa hg hm h he hpl) fun σ H R' h=>by
 refine D3.ex4 h fun G ow δ l R hf q=>?_
 refine D3.ex1 (bind1 hf) fun d e1 e2=>?_
 cases d <;> first | (cases e2;done) | skip
 next l0 =>
 cases e2;refine ⟨G,ow,δ,_,R,e1,fun v H1 s r=>?_⟩;obtain ⟨a,xs,rfl,hx,keep⟩:=wO (R.grow s) r;refine ⟨a,rfl,⟨xs,hx⟩,q _ _ s fun H2 k2 i=>?_⟩;obtain ⟨k3,k4⟩:=keep H2 k2;refine ⟨fun d hd=>?_,fun hl=>⟨xs,k3,by rw [k4.length];simpa [jW] using hl⟩⟩;have hd':(l0[i]?).map (fun x=>PyData.tuple [.int (i:Int),x])=some d:=by
  have:=hd;unfold jW at this;rwa [jJ] at this
 cases e:l0[i]? with
 | none=>rw [e] at hd';cases hd'
 | some x0 =>
  rw [e] at hd'
  cases hd';obtain ⟨y,hy,ry⟩:=k4.get e;refine ⟨⟨xs,y,k3,hy⟩,fun x H3 hyl=>?_⟩;obtain ⟨p,y',hp,rfl,rfl,hz⟩:=hyl;have:some y=some y':=hy.symm.trans (hz xs k3)
  cases this;have g:=fH hp (.tup [.int (i:Int),y]);exact ⟨g,.tup dU (.cons (.int _) (.cons (ry.same g) .nil))⟩
end
structure Bl (mg:Str→Option Value):Prop where
 len_:mg "len" = none
 range_:mg "range" = none
 abs_:mg "abs" = none
 isinstance_:mg "isinstance" = none
 int_:mg "int" = none
 bool_:mg "bool" = none
 tuple_:mg "tuple" = none
 list_:mg "list" = none
 str_:mg "str" = none
 max_:mg "max" = none
 min_:mg "min" = none
 sorted_:mg "sorted" = none
 sum_:mg "sum" = none
 reversed_:mg "reversed" = none
 enumerate_:mg "enumerate" = none
 zip_:mg "zip" = none
 set_:mg "set" = none
 any_:mg "any" = none
 all_:mg "all" = none
 dict_:mg "dict" = none
end D3
namespace D3
open PySem PySem.Spec PyProof.Rows L2 My
structure FunD (K:PySem.W.Frag) (x:Str) (st:Stmt) (f:Addr) (fd:FuncData):Prop where
 ex:∃ (oc:Value) (od:Option Addr) (dV kV doc pm:Value) (an:Option Addr) (cdv ct:Value) (osl:Array (Option Value)),
  fd=PySem.W.fnOf x x (mz st) (jo st) (bA st) dV kV doc pm an cdv ct∧K.lookup f=some ⟨oc,od,.func fd,osl⟩∧PySem.W.codeIn K cdv x=true
 kp:PySem.W.keepIn K (.ref f)=true
structure Dg (K:PySem.W.Frag) (mg:Str→Option Value) (x:Str) (st:Stmt) (ps:List Str):Prop where
 ex:∃ (f:Addr) (fd:FuncData),FunD K x st f fd∧Binds K fd ps []∧mg x=some (.ref f)
theorem SM {K:PySem.W.Frag} {h:Heap} {mg:Str→Option Value} {f T:Addr} {oc kV dc pm cd ct:Value} {od an:Option Addr} {sl:Array (Option Value)} {x:Str} {st:Stmt} {ps:List Str} {o:Obj} {items:Array Value} {n:Nat} (X:K.In h) (G:h.Ns mainGlobals mg)
 (hb:∀ (kV doc pm:Value) (an:Option Addr) (cdv ct:Value) (us:List Value),us.length=ps.length→∃ k,bindArgs (PySem.W.fnOf x x (mz st) (jo st) (bA st) (.ref T) kV doc pm an cdv ct) ⟨us,[]⟩=(seqItems? (.ref T) >>= k)∧k (some items)=pure (ps.zip us))
 (a:PySem.W.nsIn K mainGlobals x=some (some (.ref f))) (l:K.lookup f=some ⟨oc,od,.func (PySem.W.fnOf x x (mz st) (jo st) (bA st) (.ref T) kV dc pm an cd ct),sl⟩) (c:PySem.W.codeIn K cd x=true) (k:PySem.W.keepIn K (.ref f)=true)
 (hT:K.lookup T=some o) (hs:o.data = .seq items n):Dg K mg x st ps :=
 ⟨_,_,⟨⟨oc,od,.ref T,kV,dc,pm,an,cd,ct,sl,rfl,l,c⟩,k⟩,fun s us KX hl=>by
  rw [cU] at hl ⊢;obtain ⟨k,h1,h2⟩:=hb kV dc pm an cd ct us hl;exact BindsTo.of_defaults (T:=T) rfl (KX T o hT) hs h1 h2,PySem.W.mg_of X G a⟩
theorem V4 {K:PySem.W.Frag} {h:Heap} {mg:Str→Option Value} {f:Addr} {oc kV dc pm cd ct:Value} {od an:Option Addr} {sl:Array (Option Value)} {x:Str} {st:Stmt} {ps:List Str} (X:K.In h) (G:h.Ns mainGlobals mg)
 (hb:∀ (kV doc pm:Value) (an:Option Addr) (cdv ct:Value) (us:List Value),us.length=ps.length→bindArgs (PySem.W.fnOf x x (mz st) (jo st) (bA st) .none kV doc pm an cdv ct) ⟨us,[]⟩=pure (ps.zip us))
 (a:PySem.W.nsIn K mainGlobals x=some (some (.ref f))) (l:K.lookup f=some ⟨oc,od,.func (PySem.W.fnOf x x (mz st) (jo st) (bA st) .none kV dc pm an cd ct),sl⟩) (c:PySem.W.codeIn K cd x=true) (k:PySem.W.keepIn K (.ref f)=true):Dg K mg x st ps :=
 ⟨_,_,⟨⟨oc,od,.none,kV,dc,pm,an,cd,ct,sl,rfl,l,c⟩,k⟩,.all (hb kV dc pm an cd ct),PySem.W.mg_of X G a⟩
structure Dl (K:PySem.W.Frag) (mg:Str→Option Value) (x y:Str) (st:Stmt):Prop where
 ex:∃ (f:Addr) (fd:FuncData),FunD K x st f fd∧(∀ (s:Shared) (u:Value),BindsTo s fd ⟨[u],[]⟩ [(y,u)])∧mg x=some (.ref f)
theorem V5 {K:PySem.W.Frag} {h:Heap} {mg:Str→Option Value} {f:Addr} {oc kV dc pm cd ct:Value} {od an:Option Addr} {sl:Array (Option Value)} {x y:Str} {st:Stmt} (X:K.In h) (G:h.Ns mainGlobals mg)
 (hb:∀ (kV doc pm:Value) (an:Option Addr) (cdv ct:Value) (u:Value),bindArgs (PySem.W.fnOf x x (mz st) (jo st) (bA st) .none kV doc pm an cdv ct) ⟨[u],[]⟩=pure [(y,u)])
 (a:PySem.W.nsIn K mainGlobals x=some (some (.ref f))) (l:K.lookup f=some ⟨oc,od,.func (PySem.W.fnOf x x (mz st) (jo st) (bA st) .none kV dc pm an cd ct),sl⟩) (c:PySem.W.codeIn K cd x=true) (k:PySem.W.keepIn K (.ref f)=true):Dl K mg x y st :=
 ⟨_,_,⟨⟨oc,od,.none,kV,dc,pm,an,cd,ct,sl,rfl,l,c⟩,k⟩,fun s u=>.of_eq (hb kV dc pm an cd ct u),PySem.W.mg_of X G a⟩
section
variable {P:Program} {w:World} {K:PySem.W.Frag} {mg:Str→Option Value} {base:Heap} {x:Str} {ps N:List Str} {st:Stmt} {k n:Nat} {fs:FS} {fl:List Fl}
theorem FunD.ok {f:Addr} {fd:FuncData} {sp:Sp} (F:FunD K x st f fd) (S:FnScope N ps (bA st)) (len:∀ vs H Q E,sp vs H Q E→vs.length=ps.length)
 (hbody:∀ (cdv:Value) (A:Around) (outer:List Env) (s:Shared) (H:Hp) (vs:List V) (Q:VK) (E:XK),Room k (A.deeper (envOfC x (bA st) s.heap.objs.size f cdv))→sp vs H Q E →
  ∃ t,PSs (BJ CX0 P w K mg base N x (bA st) f cdv A outer s H E).nox (jo st) t∧t { nx:=fun _ H'=>Q .non H',rt:=Q } (L2.start N vs) H):FnOk P w K mg base CX0 (k + 1) f fd ps sp:=by
 obtain ⟨oc,od,dV,kV,doc,pm,an,cdv,ct,osl,rfl,lk,hcd⟩:=F.ex;refine QK lk hcd S len fun A outer s H vs Q E hr hsp=>?_
 obtain ⟨t,h,q⟩:=hbody cdv A outer s H vs Q E hr hsp;exact ⟨t,h.nox,q⟩
theorem Ko {f:Addr} {fd:FuncData} (Fn:FunD K x st f fd) (S:FnScope N ps (bA st)) (hp:∀ i,i < ps.length→fl[i]? = some .A) (hN:ps.length ≤ N.length)
 (hbody:∀ (f:Addr) (cdv:Value) (A:Around) (outer:List Env) (s:Shared) (H:Hp) (E:XK),Room k (A.deeper (envOfC x (bA st) s.heap.objs.size f cdv))→DSs (cx P w K mg base N x st f cdv A outer s H E) fl (jo st) fs) :
 FnOk P w K mg base CX0 (k + 1) f fd ps (spD K (fnD ps.length (N.length - ps.length) fs)):=by
 refine Fn.ok S (fun vs H Q E h=>?_) (fun cdv A outer s H vs Q E hr h=>?_)
 ·obtain ⟨ds,d,r,hf,_⟩:=h;unfold fnD at hf;by_cases z:ds.length=ps.length
  ·rwa [r.2.length]
  ·rw [if_neg z] at hf;cases hf
 ·obtain ⟨ds,d,r,hf,q⟩:=h;refine ⟨_,hbody f cdv A outer s H E hr,?_⟩;unfold fnD at hf;by_cases z:ds.length=ps.length
  ·rw [if_pos z] at hf;split at hf
   ·next d' e =>
    cases hf;exact ⟨_,_,_,_,sy ps.length hp z hN r,e,fun v H' s r=>q v H' s r⟩
   ·next δ' e =>
    cases hf;exact ⟨_,_,_,_,sy ps.length hp z hN r,e,fun ow' σ' H' R'=>q .non H' R'.same0 .non⟩
   ·cases hf
  ·rw [if_neg z] at hf;cases hf
theorem dh (Dd:Dg K mg x st ps) (S:FnScope N ps (bA st)) (hp:∀ i,i < ps.length→fl[i]? = some .A) (hN:ps.length ≤ N.length)
 (hbody:∀ (f:Addr) (cdv:Value) (A:Around) (outer:List Env) (s:Shared) (H:Hp) (E:XK),Room k (A.deeper (envOfC x (bA st) s.heap.objs.size f cdv))→DSs (cx P w K mg base N x st f cdv A outer s H E) fl (jo st) fs) :
 Has P w K mg base (k + 1) x ps (spD K (fnD ps.length (N.length - ps.length) fs)):=by
 obtain ⟨f,fd,Fn,b,m⟩:=Dd.ex;exact ⟨f,fd,Ko Fn S hp hN hbody,b,Fn.kp,m⟩
end
noncomputable def Kp (K:PySem.W.Frag):Sp:=fun vs H Q _=>∃ (a:Addr) (ns:List Int),Tb H∧vs=[.ref a]∧SqL K H a (ns.map V.int)∧ns.length ≤ 63∧∀ H',Q (.bl true) H'
theorem sG {K:PySem.W.Frag} {ok:Ok} {pl:Bool} {H:Hp}:∀ ns:List Int,RAs K ok pl H (ns.map V.int) (ns.map PyData.int)
 | []=>.nil
 | n :: r=>.cons (.int n) (sG r)
theorem Ob {K:PySem.W.Frag} {F:List D→Option D} (hF:∀ ns:List Int,ns.length ≤ 63→F [.list (ns.map .int)]=some (.bool true)) (vs:List V) (H:Hp) (Q:VK) (E:XK) (h:Kp K vs H Q E):spD K F vs H Q E:=by
 obtain ⟨a,ns,tb,rfl,hS,hl,q⟩:=h;refine ⟨_,_,⟨tb,.cons ?_ .nil⟩,hF ns hl,fun v H' s r=>?_⟩
 ·rcases hS with (h | ⟨o,h⟩) | h
  ·exact .lst h trivial (sG ns)
  ·exact .lsk (.inl ⟨o,h⟩) rfl (sG ns)
  ·exact .lsk (.inr h) rfl (sG ns)
 ·obtain rfl:=r.blE;exact q H'
end D3
namespace D3
open PySem PySem.Spec PyProof.Rows L2 My
section
variable {prog:Program} {w:World} {A:Around} {E:Value→Shared→Prop} {s:Shared}
end
section
variable {X:Cx} {fl:List Fl} {a:Expr} {f:FE} {pos p p2 pos2:Pos}
end
section
variable {X:Cx} {fl:List Fl} {a b:Expr} {pos p p2 pos2:Pos} {fa:FA}
end
end D3
namespace D3
open PySem PySem.Spec PyProof.Rows L2 My
section
variable {X:Cx}
theorem t_:∀ {ns:List Int} {its:List Value},Vals (ns.map V.int) its→IntsAre its ns
 | [],_,.nil=>.nil
 | n :: r,_,.cons h t=>by
  obtain ⟨k,rfl⟩:=h;exact .cons _ _ (t_ t)
theorem uc {K:PySem.W.Frag} {ok:Ok} {pl:Bool} {H:Hp}:∀ {l:List D} {ns:List Int} {ys:List V},jL l=some ns→RAs K ok pl H ys l→ys=ns.map V.int
 | [],_,_,e,.nil=>by cases e;rfl
 | d :: r,ns,_,e,.cons h t=>by
  cases d <;> first | (cases e;done) | skip
  obtain rfl:=h.intE
  cases e2:jL r with
  | none=>rw [jL,e2] at e;cases e
  | some m =>
   rw [jL,e2] at e
   cases e;rw [uc e2 t];rfl
theorem Ia (hc:X.calm=true):oK X (.builtin "max") (fun xs H Q=>∃ (p:Addr) (i:Int) (r:List Int),xs=[.ref p]∧SqL X.K H p ((i :: r).map V.int)∧Q (.int (mxI i r)) H):=by
 intro pins s σ H xs us Q I r h;obtain ⟨p,i,r0,rfl,hx,q⟩:=h;obtain ⟨u,rfl,rx⟩:=vals1 r
 cases rx;obtain ⟨its,rvs,pl,hz⟩:=I.list hx;have hi:=t_ rvs;obtain ⟨xs,e⟩:=hi.allInts.items;have hns:i :: r0=xs.toList.map (·.1):=by rw [← hi.numsOf,← nums_intItems,← e]
 have hsz:0 < xs.size:=by
  have h3:0 < (i :: r0).length:=by simp
  rw [hns,aD,dM] at h3;exact h3
 have hl:=e ▸ pl.isList;refine max_intList (I.ok.hd hc) hl hsz fun v h' tk hv hk=>?_
 obtain ⟨t,rfl⟩:=intItems_at hv;obtain ⟨h1,h2⟩:=argBest_gt (numAt xs) (xs.size - 1);have m1:numAt xs (argBest (fun i j=>decide (numAt xs i > numAt xs j)) (xs.size - 1)) ∈ i :: r0:=by
  rw [hns,numAt_eq];exact getD_mem (by rw [aD,dM];omega)
 have m2:∀ a ∈ i :: r0,a ≤ numAt xs (argBest (fun i j=>decide (numAt xs i > numAt xs j)) (xs.size - 1)):=fun a ha=>by
  rw [hns] at ha;obtain ⟨j,hj,rfl⟩:=mem_getD ha;rw [aD,dM] at hj;rw [← numAt_eq];exact h2 j (by omega)
 have sp:=wJ r0 i;have eq:=qx (sp.2 _ m1) (m2 _ sp.1);rw [eq];exact ⟨.int _,H,I.kept hk,⟨_,rfl⟩,q⟩
theorem SN {K:PySem.W.Frag}:BrC K (fun xs H Q=>∃ (p:Addr) (i:Int) (r:List Int),xs=[.ref p]∧SqL K H p ((i :: r).map V.int)∧Q (.int (mxI i r)) H) Gm:=by
 intro H xs ds d Q r e q;unfold Gm at e;split at e
 ·next l =>
  split at e
  ·next i r0 e2 =>
   cases e
   cases r with
   | cons r1 r2 =>
    cases r2;obtain ⟨a,ys,rfl,hx,hr⟩:=r1.lstE;obtain rfl:=uc e2 hr;exact ⟨a,i,r0,rfl,hx,q _ rfl (.int _)⟩
  ·cases e
 ·cases e
theorem uQ:∀ {l m:List Int},l.Perm m→l.Pairwise (· ≤ ·)→m.Pairwise (· ≤ ·)→l=m
 | [],m,p,_,_=>p.nil_eq
 | a :: l,m,p,h1,h2=>by
  cases m with
  | nil=>exact absurd p.length_eq (by simp)
  | cons b m =>
   obtain ⟨a1,a2⟩:=eY.mp h1;obtain ⟨b1,b2⟩:=eY.mp h2;have e:a=b:=by
    have x1:=p.mem_iff.mp aK;have x2:=p.mem_iff.mpr aK;rcases aY.mp x1 with z | z
    ·exact z
    ·rcases aY.mp x2 with y | y
     ·exact y.symm
     ·exact qx (a1 b y) (b1 a z)
   subst e;rw [uQ (List.Perm.cons_inv p) a2 b2]
theorem nC:∀ {ns:List Int} {its:List Value},IntsAre its ns→Vals (ns.map V.int) its
 | _,_,.nil=>.nil
 | _,_,.cons n t r=>.cons ⟨t,rfl⟩ (nC r)
theorem z9:oK X (.builtin "sorted") (fun xs H Q=>∃ (p:Addr) (ns:List Int),xs=[.ref p]∧SqL X.K H p (ns.map V.int)∧ns.length < 64∧∀ l,H l=none→Q (.ref l) (upd H l (.lst ((qd ns).map V.int)))):=by
 intro pins s σ H xs us Q I r h;obtain ⟨p,ns,rfl,hx,h64,q⟩:=h;obtain ⟨u,rfl,rx⟩:=vals1 r
 cases rx;obtain ⟨its,rvs,pl,hz⟩:=I.list hx;have hi:=t_ rvs;refine sorted_ints pl.isList hi (by rwa [hi.length]) fun out ns' a1 a2 a3=>?_
 obtain rfl:=uQ (a2.trans (jg ns).symm) a3 (oN ns);obtain ⟨e,he⟩:=sortedAll_at s.heap its out;have hn:=I.hok.fresh (vf _);have ll:=(jg ns).length_eq;have I2:=I.laid (h':=sortedAll s.heap its out) (t':=s.toks) (a:=s.heap.objs.size + 1) (o:=.lst ((qd ns).map V.int)) (fun b u e=>sortedAll_old e) (vf _)
  ⟨by rw [aD,ll];exact bY (gZ h64) (by decide),out.toList,e,nC a1,by simpa [seqObj] using he⟩
 exact ⟨.ref _,_,I2,rfl,q _ hn⟩
theorem zp {fl:List Fl} {e:Expr} {fa:FA} {p pos:Pos} (ha:DB X fl .P [e] fa) (hg:Gl X "sorted") (hm:X.mg "sorted" = none)
 (he:starEach [e] X.env=(false,eval e X.env) :: starEach [] X.env:=by rfl) (hpl:(backTo pos (starEach [] X.env)).any (·.1)=false:=by rfl):DE X fl .FC (.Call (.Name "sorted" p) [e] [] pos) (dCall vg fa) :=
 PE.imp (tR z9 hg hm (show bootBuiltins "sorted" = some (.builtin "sorted") by decide +kernel) ha (by decide) (by decide) he hpl) fun σ H Q h=>by
 refine D3.ex4 h fun G ow δ d R hf q=>?_
 refine D3.ex1 (bind1 hf) fun ds e1 e2=>?_
 refine ⟨G,ow,δ,ds,R,e1,fun vs H' s r'=>?_⟩;unfold vg at e2;split at e2
 ·next l =>
  cases e3:jL l with
  | none=>rw [e3] at e2;cases e2
  | some ns =>
   rw [e3,aN] at e2;by_cases h64:ns.length < 64
   ·rw [if_pos h64] at e2
    cases e2
    cases r' with
    | cons r1 r2 =>
     cases r2;obtain ⟨a,ys,rfl,hx,hr⟩:=r1.lstE;obtain rfl:=uc e3 hr;exact ⟨a,ns,rfl,hx,h64,fun l hn=>q _ _ (s.trans (fH hn _)) (.inr ⟨_,_,_,rfl,rfl,s.free hn,dU,sG _⟩)⟩
   ·rw [if_neg h64] at e2;cases e2
 ·cases e2
end
end D3
namespace D3
open PySem PySem.Spec PyProof.Rows L2 My
def gK (n:Nat) (us ws:List α):List α:=if ws.length=n then us++ws else []
structure HasD (P:Program) (w:World) (K:PySem.W.Frag) (mg:Str→Option Value) (base:Heap) (n:Nat) (x:Str) (ps:List Str) (sp:Sp) (dvs:List V) (ks:List Str):Prop where
 ex:∃ (f:Addr) (fd:FuncData) (ds:List Value),FnOk P w K mg base CX0 n f fd ps sp∧Binds K fd ps ds∧Vals dvs ds∧KBinds K fd ps ks (gK ks.length) (gK ks.length)∧PySem.W.keepIn K (.ref f)=true∧mg x=some (.ref f)
structure DgD (K:PySem.W.Frag) (mg:Str→Option Value) (x:Str) (st:Stmt) (ps:List Str) (dvs:List V) (ks:List Str):Prop where
 ex:∃ (f:Addr) (fd:FuncData) (ds:List Value),FunD K x st f fd∧Binds K fd ps ds∧Vals dvs ds∧KBinds K fd ps ks (gK ks.length) (gK ks.length)∧mg x=some (.ref f)
section
variable {P:Program} {w:World} {K:PySem.W.Frag} {mg:Str→Option Value} {base:Heap} {x:Str} {ps N ks:List Str} {st:Stmt} {k n:Nat} {fs:FS} {fl:List Fl} {dvs:List V}
end
section
variable {X:Cx} {fl:List Fl} {e ke:Expr} {es:List Expr} {pos p kpos:Pos} {x kn:Str} {ps:List Str} {n:Nat} {F:List D→Option D} {fa:FA} {fk:FE} {i:Int} {dvs:List V}
theorem SX {K:PySem.W.Frag}:BrC K (fun xs H Q=>(∃ i,xs=[.int i]∧Q (.int i) H)∨∃ k,xs=[.bl k]∧Q (.int (if k then 1 else 0)) H) J6:=by
 intro H xs ds d Q r e q;unfold J6 at e;split at e
 ·cases e
  cases r with
  | cons r1 r2 =>
   cases r2;obtain rfl:=r1.intE;exact .inl ⟨_,rfl,q _ rfl (.int _)⟩
 ·cases e
  cases r with
  | cons r1 r2 =>
   cases r2;obtain rfl:=r1.blE;exact .inr ⟨_,rfl,q _ rfl (.int _)⟩
 ·cases e
theorem uR {j pos'} {a:Expr} {f:FE} (h:DE X fl .P a f):DT X fl (.Compare a [.Is] [.Constant .none j pos'] pos) (bh (dUn rF f)):=PT.imp (Dz (Jz h)) fun σ H Q h=>by
 refine D3.ex4 h fun G ow δ c R hf q=>?_
 refine D3.ex1 (bind1 hf) fun d e1 e2=>?_
 refine D3.ex1 (bind1 e1) fun x e3 e4=>?_
 cases e4
 cases e2;refine ⟨G,ow,δ,x,R,e3,fun v H1 s1 r1=>?_⟩;refine ⟨decide (v = .non),rfl,?_⟩;rw [zZ (RA.same (Same.refl H1) r1)];exact q H1 s1
theorem Od {p:Pos} (ha:DB X fl .P [e] fa) (hg:Gl X "int") (hm:X.mg "int" = none)
 (he:starEach [e] X.env=(false,eval e X.env) :: starEach [] X.env:=by rfl) (hpl:(backTo pos (starEach [] X.env)).any (·.1)=false:=by rfl):DE X fl .FC (.Call (.Name "int" p) [e] [] pos) (dCall J6 fa) :=
 PE.imp (yW Hv hg hm boot_int ha (by decide) (by decide) he hpl) fun σ H Q h=>by
 refine D3.ex4 h fun G ow δ d R hf q=>?_
 refine D3.ex1 (bind1 hf) fun ds e1 e2=>?_
 exact ⟨G,ow,δ,ds,R,e1,fun vs H' s r'=>SX H' vs ds d Q r' e2 fun v hv rv=>q v H' s (.inl ⟨hv,rv⟩)⟩
end
end D3
namespace D3
open PySem PySem.Spec PyProof.Rows L2 My
section
variable {X:Cx}
theorem Ie (hc:X.calm=true):oK X (.builtin "min") (fun xs H Q=>∃ (p:Addr) (i:Int) (r:List Int),xs=[.ref p]∧SqL X.K H p ((i :: r).map V.int)∧Q (.int (mnI i r)) H):=by
 intro pins s σ H xs us Q I r h;obtain ⟨p,i,r0,rfl,hx,q⟩:=h;obtain ⟨u,rfl,rx⟩:=vals1 r
 cases rx;obtain ⟨its,rvs,pl,hz⟩:=I.list hx;have hi:=t_ rvs;obtain ⟨xs,e⟩:=hi.allInts.items;have hns:i :: r0=xs.toList.map (·.1):=by rw [← hi.numsOf,← nums_intItems,← e]
 have hsz:0 < xs.size:=by
  have h3:0 < (i :: r0).length:=by simp
  rw [hns,aD,dM] at h3;exact h3
 have hl:=e ▸ pl.isList;refine min_intList (I.ok.hd hc) hl hsz fun v h' tk hv hk=>?_
 obtain ⟨t,rfl⟩:=intItems_at hv;obtain ⟨h1,h2⟩:=argBest_lt (numAt xs) (xs.size - 1);have m1:numAt xs (argBest (fun i j=>decide (numAt xs i < numAt xs j)) (xs.size - 1)) ∈ i :: r0:=by
  rw [hns,numAt_eq];exact getD_mem (by rw [aD,dM];omega)
 have m2:∀ a ∈ i :: r0,numAt xs (argBest (fun i j=>decide (numAt xs i < numAt xs j)) (xs.size - 1)) ≤ a:=fun a ha=>by
  rw [hns] at ha;obtain ⟨j,hj,rfl⟩:=mem_getD ha;rw [aD,dM] at hj;rw [← numAt_eq];exact h2 j (by omega)
 have sp:=wI r0 i;have eq:=qx (m2 _ sp.1) (sp.2 _ m1);rw [eq];exact ⟨.int _,H,I.kept hk,⟨_,rfl⟩,q⟩
theorem S5 {K:PySem.W.Frag}:BrC K (fun xs H Q=>∃ (p:Addr) (i:Int) (r:List Int),xs=[.ref p]∧SqL K H p ((i :: r).map V.int)∧Q (.int (mnI i r)) H) Gn:=by
 intro H xs ds d Q r e q;unfold Gn at e;split at e
 ·next l =>
  split at e
  ·next i r0 e2 =>
   cases e
   cases r with
   | cons r1 r2 =>
    cases r2;obtain ⟨a,ys,rfl,hx,hr⟩:=r1.lstE;obtain rfl:=uc e2 hr;exact ⟨a,i,r0,rfl,hx,q _ rfl (.int _)⟩
  ·cases e
 ·cases e
theorem Ci:∀ {bs:List Bool} {its:List Value},Vals (bs.map V.bl) its→its=bs.map Value.bool
 | [],_,.nil=>rfl
 | b :: r,_,.cons h t=>by
  cases h;rw [Ci t];rfl
theorem all_range (bs:List Bool):(aB bs.length).all (fun i=>bs.getD i false)=bs.all id:=by
 rw [qy,jR,jR]
 constructor
 ·intro h b hb;obtain ⟨i,hi,rfl⟩:=gW hb;have:=h i (aQ.mpr hi);rwa [bC,aV hi] at this
 ·intro h i hi;have hi:=aQ.mp hi;rw [bC,aV hi];exact h _ (List.getElem_mem hi)
theorem Cj {prog:Program} {w:World} {A:Around} (bs:List Bool):TruthOf prog w A (fun i v=>(bs.map Value.bool).toArray[i]? = some v) (fun i=>bs.getD i false):=by
 intro i v s Q E hv hQ;have hv':(bs.map Value.bool)[i]? = some v:=by simpa using hv
 rw [aP] at hv'
 cases e:bs[i]? with
 | none=>rw [e] at hv';cases hv'
 | some b =>
  rw [e] at hv'
  cases hv';have eb:bs.getD i false=b:=by rw [bC,e];rfl
  have hQ':Q (bs.getD i false) s:=hQ;rw [eb] at hQ';exact ai hQ'
theorem zq (hc:X.calm=true):oK X (.builtin "all") (fun xs H Q=>∃ (p:Addr) (bs:List Bool),xs=[.ref p]∧SqL X.K H p (bs.map V.bl)∧Q (.bl (bs.all id)) H):=by
 intro pins s σ H xs us Q I r h;obtain ⟨p,bs,rfl,hx,q⟩:=h;obtain ⟨u,rfl,rx⟩:=vals1 r
 cases rx;obtain ⟨its,rvs,pl,hz⟩:=I.list hx;obtain rfl:=Ci rvs;have hl:=pl.isList;have hlt:p < s.heap.objs.size:=by obtain ⟨_,e,_⟩:=id hl;exact aa e
 refine call_all_walk (wpAny_pyIter_list hl ?_);refine ⟨_,_,_,_,_,_,_,rfl,Walks.list (A:=X.A.in1) (I.ok.hd hc) _ p (bW hlt) (bs.map Value.bool).toArray,⟨⟨_,af _ rfl,rfl,rfl⟩,hl.push _⟩,Cj bs,fun h' tk hk=>?_⟩;have e:(bs.map Value.bool).toArray.size=bs.length:=by simp
 rw [e,all_range];exact ⟨.bl _,H,I.kept (old_kept hk),rfl,q⟩
theorem zu {K:PySem.W.Frag} {ok:Ok} {pl:Bool} {H:Hp}:∀ {l:List D} {bs:List Bool} {ys:List V},o9 l=some bs→RAs K ok pl H ys l→ys=bs.map V.bl
 | [],_,_,e,.nil=>by cases e;rfl
 | d :: r,bs,_,e,.cons h t=>by
  cases d <;> first | (cases e;done) | skip
  obtain rfl:=h.blE
  cases e2:o9 r with
  | none=>rw [o9,e2] at e;cases e
  | some m =>
   rw [o9,e2] at e
   cases e;rw [zu e2 t];rfl
theorem QW {K:PySem.W.Frag}:BrC K (fun xs H Q=>∃ (p:Addr) (bs:List Bool),xs=[.ref p]∧SqL K H p (bs.map V.bl)∧Q (.bl (bs.all id)) H) Ed:=by
 intro H xs ds d Q r e q;unfold Ed at e;split at e
 ·next l =>
  cases e2:o9 l with
  | none=>rw [e2] at e;cases e
  | some bs =>
   rw [e2] at e
   cases e
   cases r with
   | cons r1 r2 =>
    cases r2;obtain ⟨a,ys,rfl,hx,hr⟩:=r1.lstE;obtain rfl:=zu e2 hr;exact ⟨a,bs,rfl,hx,q _ rfl (.bl _)⟩
 ·cases e
end
section
variable {X:Cx} {fl:List Fl} {a:Expr} {f:FE} {pos:Pos} {ta:TE}
theorem Oe {j pos'} (ha:PE X a ta):PC X .IsNot a (.Constant (.bool true) j pos') (fun σ H Q=>ta σ H fun x H1=>∃ b,x = .bl b∧Q (.bl (!b)) H1):=by
 intro pins s σ H Q I h;refine thn (ha pins s σ H _ I h) fun v s1 ⟨x,H1,I1,r1,q1⟩=>?_
 obtain ⟨b,rfl,q⟩:=q1
 cases r1;refine Constant_bool ?_
 cases b
 ·exact ah ⟨.bl true,H1,I1,rfl,q⟩
 ·exact ah ⟨.bl false,H1,I1,rfl,q⟩
end
section
variable {X:Cx} {fl:List Fl} {a b c:Expr} {f fa fb fc:FE} {pos:Pos}
theorem Ck {op op':CmpOp} {r r':R2} {g g':D→D→Option D} (ho:OpR X (compareOp op) r) (ho':OpR X (compareOp op') r') (hb:BrO X.K r g) (hb':BrO X.K r' g') (h1:DE X fl .P a fa) (h2:DE X fl .P b fb) (h3:DE X fl .P c fc)
 (hm:lastMarks [op,op'] [b,c]=false:=by with_unfolding_all rfl):DT X fl (.Compare a [op,op'] [b,c] pos) (bh (o8 g g' fa fb fc)):=PT.imp (JT ho ho' h1 h2 h3 hm) fun σ H Q h=>by
 refine D3.ex4 h fun G ow δ bb R hf q=>?_
 refine D3.ex1 (bind1 hf) fun d hf hd=>?_
 have hd':d = .bool bb:=by cases d <;> first | (cases hd;rfl) | (cases hd;done)
 subst hd';refine D3.ex1 (bind1 hf) fun x e1 hf=>?_
 refine D3.ex1 (bind1 hf) fun y e2 hf=>?_
 refine D3.ex1 (bind1 hf) fun z e3 hf=>?_
 refine ⟨G,ow,δ,x,R,e1,fun v H1 s1 r1=>⟨G,ow,δ,y,R.grow s1,e2,fun u H2 s2 r2=>?_⟩⟩;refine hb H2 v u x y z _ (RA.same s2 r1) r2 e3 fun zv hz rz=>?_
 split at hf
 ·obtain rfl:=rz.blE;refine D3.ex1 (bind1 hf) fun w e4 e5=>?_
  refine ⟨true,rfl,zV ⟨G,ow,δ,w,R.grow (s1.trans s2),e4,fun wv H3 s3 r3=>?_⟩⟩;refine hb' H3 u wv y w _ _ (RA.same s3 r2) r3 e5 fun z hz rz=>?_
  obtain rfl:=rz.blE;exact ⟨_,rfl,q H3 (s1.trans (s2.trans s3))⟩
 ·obtain rfl:=rz.blE
  cases hf;exact ⟨false,rfl,zU ⟨_,rfl,q H2 (s1.trans s2)⟩⟩
 ·cases hf
theorem vU {j pos'} (h:DE X fl .P a f):DT X fl (.Compare a [.IsNot] [.Constant (.bool true) j pos'] pos) (bh (dUn rJ f)):=PT.imp (Dz (Oe h)) fun σ H Q h=>by
 refine D3.ex4 h fun G ow δ bb R hf q=>?_
 refine D3.ex1 (bind1 hf) fun d hf hd=>?_
 refine D3.ex1 (bind1 hf) fun x e1 e2=>?_
 cases x <;> first | (cases e2;done) | skip
 cases e2
 cases hd;refine ⟨G,ow,δ,_,R,e1,fun v H1 s1 r1=>?_⟩;obtain rfl:=RA.blE r1;exact ⟨_,rfl,_,rfl,q H1 s1⟩
theorem oU {j pos'} (h:DE X fl .P a f):DT X fl (.Compare a [.IsNot] [.Constant .none j pos'] pos) (bh (dUn lK f)):=PT.imp (Dz (Gb h)) fun σ H Q h=>by
 refine D3.ex4 h fun G ow δ bb R hf q=>?_
 refine D3.ex1 (bind1 hf) fun d hf hd=>?_
 refine D3.ex1 (bind1 hf) fun x e1 e2=>?_
 cases e2
 cases hd;refine ⟨G,ow,δ,x,R,e1,fun v H1 s1 r1=>?_⟩;refine ⟨!decide (v = .non),rfl,?_⟩;rw [zZ (RA.same (Same.refl H1) r1)];exact q H1 s1
end
def Itz (K:PySem.W.Frag) (a b:Addr):It :=
 ⟨fun i H=>∃ xs ys x y,SqL K H a xs∧SqL K H b ys∧xs[i]? = some x∧ys[i]? = some y,
  fun i H x H'=>∃ p u v,H p=none∧H'=upd H p (.tup [u,v])∧x = .ref p∧(∀ xs,SqL K H a xs→xs[i]? = some u)∧∀ ys,SqL K H b ys→ys[i]? = some v,
  fun i H=>∃ xs ys,SqL K H a xs∧SqL K H b ys∧(xs.length ≤ i∨ys.length ≤ i)⟩
theorem zy {h:Heap} {z TI TO i1 i2 l1 l2:Addr} {k1 k2:Nat} {f0 a b:Value} {x y:Value} {xs ys:Array Value} (hz:IsZip h z TI TO f0) (hTI:IsPair h TI x y) (hTO:IsPair h TO a b) (h1:h.IsListIter i1 l1 k1) (h2:h.IsListIter i2 l2 k2) (hl1:h.IsList l1 xs) (hl2:h.IsList l2 ys) (nT:TI ≠ TO) (ni:i1 ≠ i2) :
 ZipApart z TI TO i1 i2 l1 l2:=by
 obtain ⟨o1,e1,c1,d1⟩:=h1;obtain ⟨o2,e2,c2,d2⟩:=h2;obtain ⟨p1,g1,k1,m1⟩:=hl1;obtain ⟨p2,g2,k2,m2⟩:=hl2;have ne:∀ {u v:Addr} {o o':Obj},h.get? u=some o→h.get? v=some o'→o.cls ≠ o'.cls→u ≠ v:=fun e e' n z=>by
  subst z;rw [e] at e'
  cases e';exact n rfl
 exact ⟨ne hTI hz (by simp),ne hTO hz (by simp),ne e1 hz (by rw [c1];simp),ne e2 hz (by rw [c2];simp),nT,ne hTI e1 (by rw [c1];simp),ne hTI e2 (by rw [c2];simp),ne hTO e1 (by rw [c1];simp),ne hTO e2 (by rw [c2];simp),ni,
  ne g1 hz (by rw [k1];simp),ne g1 hTO (by rw [k1];simp),ne g1 e1 (by rw [k1,c1];simp),ne g1 e2 (by rw [k1,c2];simp),ne g2 hz (by rw [k2];simp),ne g2 hTO (by rw [k2];simp),ne g2 e1 (by rw [k2,c1];simp),ne g2 e2 (by rw [k2,c2];simp)⟩
theorem Kq {P:Program} {w:World} {K:PySem.W.Frag} {elts:List Expr} {x1} {tpos:Pos} (a b z TI TO i1 i2:Addr) (nT:TI ≠ TO) (ni:i1 ≠ i2) :
 Turn P w K (.Tuple elts x1 tpos) (Itz K a b) [z,TI,TO,i1,i2] z (fun i h=>IsZip h z TI TO .none∧IsPair h TI (.ref i1) (.ref i2)∧(∃ u v,IsPair h TO u v)∧h.IsListIter i1 a i∧h.IsListIter i2 b i) where
 mem:=by simp
 obj:=fun i h st c hc=>by
  obtain ⟨hz,hTI,⟨u,v,hTO⟩,⟨o1,e1,c1,d1⟩,⟨o2,e2,c2,d2⟩⟩:=st;simp only [aY,d_,or_false] at hc;rcases hc with rfl | rfl | rfl | rfl | rfl
  ·exact ⟨_,hz,fun v z=>by cases z⟩
  ·exact ⟨_,hTI,fun v z=>by cases z⟩
  ·exact ⟨_,hTO,fun v z=>by cases z⟩
  ·exact ⟨o1,e1,fun v z=>by rw [d1] at z;cases z⟩
  ·exact ⟨o2,e2,fun v z=>by rw [d2] at z;cases z⟩
 keep:=fun i h h' st k=>by
  obtain ⟨hz,hTI,⟨u,v,hTO⟩,h1,h2⟩:=st;exact ⟨k _ (by simp) _ hz,k _ (by simp) _ hTI,⟨u,v,k _ (by simp) _ hTO⟩,h1.at fun o e=>k i1 (by simp) o e,h2.at fun o e=>k i2 (by simp) o e⟩
 item:=by
  intro X hP hw hK hc i pins s σ H E I hf st hg;subst hP hw hK;obtain ⟨xs,ys,x,y,hqa,hqb,hx,hy⟩:=hg;obtain ⟨itsa,rva,pa,hza⟩:=I.list hqa;obtain ⟨itsb,rvb,pb,hzb⟩:=I.list hqb;obtain ⟨ua,hua,rua⟩:=rva.get hx;obtain ⟨ub,hub,rub⟩:=rvb.get hy;obtain ⟨hz,hTI,⟨u,v,hTO⟩,h1,h2⟩:=st;have D:=zy hz hTI hTO h1 h2 pa.isList pb.isList nT ni;have lts:∀ c ∈ [z,TI,TO,i1,i2],c < s.heap.objs.size:=fun c hc=>by
   simp only [aY,d_,or_false] at hc;rcases hc with rfl | rfl | rfl | rfl | rfl
   ·exact aa hz
   ·exact aa hTI
   ·exact aa hTO
   ·obtain ⟨o,e,_⟩:=h1;exact aa e
   ·obtain ⟨o,e,_⟩:=h2;exact aa e
  refine wpAny_pyNext_zip_item D hz hTI hTO h1 h2 pa.isList pb.isList (x:=ua) (y:=ub) (by simpa using hua) (by simpa using hub) fun hh g1 g2 g3 g4 g5 g6 g7=>?_
  refine ⟨_,rfl,wpAny_letOwnedTupleGo_zip g1 fun hh2 e1 e2=>?_⟩
  replace e2:Heap.SameBut z hh hh2:=e2
  have hn:=I.hok.fresh (bB _);have I0:Inv X pins σ (upd H s.heap.objs.size (.tup [x,y])) { s with heap:=s.heap.push { cls:=.type "tuple", data:=.seq #[ua,ub] } } :=
   I.laid (t':=s.toks) (fun b o e=>ac _ e) (bB _) ⟨show 2 ≤ sizeLine by decide,[ua,ub],.cons rua (.cons rub .nil),⟨_,af _ rfl,rfl,_,rfl⟩⟩
  have ne:=fun c hc=>bW (lts c hc)
  have I1:Inv X pins σ (upd H s.heap.objs.size (.tup [x,y])) { s with heap:=hh2,toks:=s.toks }:=by
   refine Inv.turnedL (s:={ s with heap:=s.heap.push { cls:=.type "tuple", data:=.seq #[ua,ub] } }) (ch:=[z,TI,TO,i1,i2]) I0 (fun c o hc e=>?_) fun c hc=>⟨by rw [cJ (ne c hc)];exact (hf c hc).1,(hf c hc).2⟩
   have b1:c ≠ z:=fun q=>hc (by simp [q])
   have b2:c ≠ TO:=fun q=>hc (by simp [q])
   have b3:c ≠ i1:=fun q=>hc (by simp [q])
   have b4:c ≠ i2:=fun q=>hc (by simp [q])
   rcases br e with ⟨e3,e4⟩ | e3
   ·subst e3 e4;exact (e2.2 _ b1).trans g5
   ·exact (e2.2 _ b1).trans (g7 c o b1 b2 b3 b4 e3)
  refine ⟨.ref s.heap.objs.size,_,I1,rfl,⟨_,x,y,hn,rfl,rfl,fun zs hz'=>by rwa [I.list_inj hz' hqa],fun zs hz'=>by rwa [I.list_inj hz' hqb]⟩,⟨e1,(e2.2 _ D.TIz).trans (g7 _ _ D.TIz D.TITO D.TIi1 D.TIi2 hTI),⟨_,_,(e2.2 _ D.TOz).trans g2⟩,g3.at fun o e=>(e2.2 _ D.i1z).trans e,g4.at fun o e=>(e2.2 _ D.i2z).trans e⟩,fun c hc=>?_⟩;rw [cJ (ne c hc)];exact (hf c hc).1
 done:=by
  intro X hP hw hK hc i pins s σ H E I hf st hg;subst hP hw hK;obtain ⟨xs,ys,hqa,hqb,hx⟩:=hg;obtain ⟨itsa,rva,pa,hza⟩:=I.list hqa;obtain ⟨itsb,rvb,pb,hzb⟩:=I.list hqb;obtain ⟨hz,hTI,⟨u,v,hTO⟩,h1,h2⟩:=st;have D:=zy hz hTI hTO h1 h2 pa.isList pb.isList nT ni;have la:=rva.length;have lb:=rvb.length;refine wpAny_pyNext_zip_end (I.ok.hd hc) D hz hTI hTO h1 h2 pa.isList pb.isList ?_ fun h' eb=>⟨rfl,Inv.turnedL (t':=s.toks) (ch:=[z,TI,TO,i1,i2]) I (fun c o hc e=>eb c o (fun q=>hc (by simp [q])) (fun q=>hc (by simp [q])) (fun q=>hc (by simp [q])) (fun q=>hc (by simp [q])) e) hf⟩
  rcases hx with hx | hx
  ·exact .inl (by simp;omega)
  ·exact .inr (by simp;omega)
 self:=fun _ _ _ _ _ st h=>wpAny_pyIter_zip st.1 h
section
variable {X:Cx} {fl:List Fl} {a b:Expr} {f g:FE} {pos:Pos}
def Yt (K:PySem.W.Frag) (ta tb:TE):TI:=fun σ H R=>ta σ H fun x H1=>tb σ H1 fun y H2=>∃ p q,x = .ref p∧y = .ref q∧(∃ xs,SqL K H2 p xs)∧(∃ ys,SqL K H2 q ys)∧R (Itz K p q) H2
theorem boot_zip:bootBuiltins "zip" = some (.type "zip"):=by decide +kernel
theorem S6 {elts:List Expr} {x1} {tpos p:Pos} {ta tb:TE} (hg:Gl X "zip") (hm:X.mg "zip" = none) (ha:PE X a ta) (hb:PE X b tb) (he:starEach [a,b] X.env=(false,eval a X.env) :: starEach [b] X.env:=by rfl) (he2:starEach [b] X.env=(false,eval b X.env) :: starEach [] X.env:=by rfl)
 (hpl:(backTo pos (starEach [b] X.env)).any (·.1)=false:=by rfl):PI X (.Tuple elts x1 tpos) (.Call (.Name "zip" p) [a,b] [] pos) (Yt X.K ta tb):=by
 intro pins s σ H R I h;refine ax (rC I hg hm boot_zip (PyProof.Rows.callWith_type1 (thn ((mq ha (mq hb sZ he2) he) pos pins s σ H (fun vs H1=>match vs with | [x,y]=>∃ p q,x = .ref p∧y = .ref q∧(∃ xs,SqL X.K H1 p xs)∧(∃ ys,SqL X.K H1 q ys)∧R (Itz X.K p q) H1 | _=>False) I h) fun us s1 ⟨vs,H1,I1,r1,q1⟩=>?_) he hpl))
 cases r1 with
 | nil=>exact q1.elim
 | cons r rr =>
  cases rr with
  | nil=>exact q1.elim
  | cons r' rr' =>
  cases rr' with
  | cons _ _=>exact q1.elim
  | nil =>
  obtain ⟨l,m,e,e',⟨xs,hq⟩,⟨ys,hq'⟩,q⟩:=q1;subst e e'
  cases r
  cases r';obtain ⟨its,rv,pl,hz⟩:=I1.list hq;obtain ⟨its',rv',pl',hz'⟩:=I1.list hq';refine call_zip_2 pl.isList pl'.isList fun h' g1 g2 g3 g4 g5 g6 hk=>?_
  have I2:=I1.kept (t':=s1.toks) hk;refine wpAny_pyIter_zip (s:={ s1 with heap:=h' }) g1 ?_;refine ⟨s1.heap.objs.size + 4,[s1.heap.objs.size + 4,s1.heap.objs.size + 2,s1.heap.objs.size + 3,s1.heap.objs.size,s1.heap.objs.size + 1],_,_,H1,rfl,I2,Kq l m (s1.heap.objs.size + 4) (s1.heap.objs.size + 2) (s1.heap.objs.size + 3) s1.heap.objs.size (s1.heap.objs.size + 1) (bW (lQ _)) (bW (lQ _)),⟨g1,g2,⟨_,_,g3⟩,g4,g5⟩,fun b hb=>?_,q⟩;have hb':s1.heap.objs.size ≤ b:=by
   simp only [aY,d_,or_false] at hb;rcases hb with rfl | rfl | rfl | rfl | rfl <;> omega
  exact I1.fpOk hb' (I1.hok.fresh hb')
theorem Cm:∀ (l m:List D) (i:Nat),(m6 l m)[i]? = (l[i]?).bind fun x=>(m[i]?).map fun y=>PyData.tuple [x,y]
 | [],_,i=>by simp [m6]
 | _ :: _,[],i=>by cases i <;> simp [m6]
 | x :: l,y :: m,0=>by simp [m6]
 | x :: l,y :: m,i + 1=>by simp [m6,Cm l m i]
theorem Cp:∀ (l m:List D),(m6 l m).length=min l.length m.length
 | [],_=>by simp [m6]
 | _ :: _,[]=>by simp [m6]
 | x :: l,y :: m=>by simp [m6,Cp l m]
theorem RsB.same {K:PySem.W.Frag} {G:Gh} {ow:Ow} {Hb H H':Hp} {L:List Nat} {v:V} {d:D} (e:Same H H') (h:Rs K G.H0 ow Hb H (.B L) v d):Rs K G.H0 ow Hb H' (.B L) v d:=by
 rcases h with h | ⟨i,hi,a,xs,ds,h1,h2,h3,h4,h5⟩
 ·exact .inl (RA.same e h)
 ·exact .inr ⟨i,hi,a,xs,ds,h1,h2,h3,e _ _ h4,h5.same e⟩
theorem z_ {elts:List Expr} {x1} {tpos p:Pos} {L1 L2 L:List Nat} (ha:DE X fl (.B L1) a f) (hb:DE X fl (.B L2) b g) (hg:Gl X "zip") (hm:X.mg "zip" = none) (hL:L=L1++L2:=by rfl)
 (he:starEach [a,b] X.env=(false,eval a X.env) :: starEach [b] X.env:=by rfl) (he2:starEach [b] X.env=(false,eval b X.env) :: starEach [] X.env:=by rfl)
 (hpl:(backTo pos (starEach [b] X.env)).any (·.1)=false:=by rfl):DI X fl L (.Tuple elts x1 tpos) (.Call (.Name "zip" p) [a,b] [] pos) (HW f g):=PI.imp (S6 hg hm ha hb he he2 hpl) fun σ H R' h=>by
 subst hL;refine D3.ex4 h fun G ow δ l R hf q=>?_
 refine D3.ex1 (bind1 hf) fun d e1 hf=>?_
 refine D3.ex1 (bind1 hf) fun d' e2 hf=>?_
 obtain ⟨l0,rfl⟩:∃ l0,d = .list l0:=by cases d <;> first | exact ⟨_,rfl⟩ | (cases hf;done)
 obtain ⟨m0,rfl⟩:∃ m0,d' = .list m0:=by cases d' <;> first | exact ⟨_,rfl⟩ | (cases hf;done)
 cases hf;refine ⟨G,ow,δ,_,R,e1,fun v H1 s1 r1=>⟨G,ow,δ,_,R.grow s1,e2,fun v' H2 s2 r2=>?_⟩⟩;have r1':=RsB.same s2 r1;obtain ⟨pa,xs,rfl,hx,keepa⟩:=wO ((R.grow s1).grow s2) r1';obtain ⟨pb,ys,rfl,hy,keepb⟩:=wO ((R.grow s1).grow s2) r2;refine ⟨pa,pb,rfl,rfl,⟨xs,hx⟩,⟨ys,hy⟩,q _ _ (s1.trans s2) fun H3 k3 i=>?_⟩;obtain ⟨a1,a2⟩:=keepa H3 fun b o e z=>k3 b o e fun i w=>bD _ (z i w)
 obtain ⟨b1,b2⟩:=keepb H3 fun b o e z=>k3 b o e fun i w=>aU _ (z i w)
 refine ⟨fun d hd=>?_,fun hl=>⟨xs,ys,a1,b1,?_⟩⟩
 ·rw [Cm] at hd
  cases ea:l0[i]? with
  | none=>rw [ea] at hd;cases hd
  | some x0 =>
   cases eb:m0[i]? with
   | none=>rw [ea,eb] at hd;cases hd
   | some y0 =>
    rw [ea,eb] at hd
    cases hd;obtain ⟨x,hx1,rx⟩:=a2.get ea;obtain ⟨y,hy1,ry⟩:=b2.get eb;refine ⟨⟨xs,ys,x,y,a1,b1,hx1,hy1⟩,fun z H4 hyl=>?_⟩;obtain ⟨p',u,v,hp,rfl,rfl,hu,hv⟩:=hyl;have eu:=hx1.symm.trans (hu xs a1);have ev:=hy1.symm.trans (hv ys b1)
    cases eu
    cases ev;have gg:=fH hp (.tup [x,y]);exact ⟨gg,.tup dU (.cons (rx.same gg) (.cons (ry.same gg) .nil))⟩
 ·rw [Cp] at hl;rw [a2.length,b2.length];omega
end
end D3
namespace D3
open PySem PySem.Spec PyProof.Rows L2 My
section
variable {X:Cx} {fl:List Fl} {e a b c:Expr} {es rest:List Expr} {k:Kd} {f fa fb fc:FE} {ft gt:FT} {pos:Pos}
theorem Og:DE X fl .T (.Dict [] [] pos) (dC (.dict [])):=PE.imp J4 fun σ H Q h=>by
 refine D3.ex4 h fun G ow δ d R hf q=>?_
 cases hf;intro p hp;exact q _ _ (fH hp _) ⟨[p],.dic dU (.inl ⟨rfl,rfl⟩),cF.mpr ⟨d_,.nil⟩,fun x hx=>by rwa [aJ.mp hx]⟩
theorem Gv (i:Nat) (hn:isN fl[i]? = true) {x:Str} (hN:X.N[i]? = some x:=by rfl) (hv:Vis X.env.scope x:=by first | exact Or.inl rfl | exact Or.inr (Or.inl rfl) | exact Or.inr (Or.inr rfl)) (hd:(x == ("__debug__" : Str))=false:=by decide)
 (hcd:(x == ("__classdict__" : Str))=false:=by decide):DE X fl .P (.Name x pos) (aj i):=by
 refine PE.imp (oZ hN hv hd hcd) fun σ H Q h=>?_
 refine D3.ex4 h fun G ow δ d R hf q=>?_
 obtain ⟨v,h1,h2,_⟩:=R.nr i d hn (m7 hf);exact ⟨v,h1,q v H (Same.refl H) (h2.ra fun _ _=>trivial)⟩
theorem Kr (i:Nat) (hn:isN fl[i]? = true) {x:Str} (hN:X.N[i]? = some x:=by rfl) (hv:Vis X.env.scope x:=by first | exact Or.inl rfl | exact Or.inr (Or.inl rfl) | exact Or.inr (Or.inr rfl)) (hd:(x == ("__debug__" : Str))=false:=by decide)
 (hcd:(x == ("__classdict__" : Str))=false:=by decide):DE X fl .R (.Name x pos) (aj i):=by
 refine PE.imp (oZ hN hv hd hcd) fun σ H Q h=>?_
 refine D3.ex4 h fun G ow δ d R hf q=>?_
 obtain ⟨v,h1,h2,_⟩:=R.nr i d hn (m7 hf);exact ⟨v,h1,q v H (Same.refl H) (h2.ra fun a ha=>(R.nt i a ha).1)⟩
end
section
variable {K:PySem.W.Frag} {fl:List Fl}
def owN (ow:Ow) (i:Nat) (as:List Addr):Ow:=⟨ow.s,fun j=>if j=i then as else ow.n j⟩
theorem lX {ow:Ow} {i:Nat} {as:List Addr}:(owN ow i as).n i=as:=if_pos rfl
theorem j8 {ow:Ow} {i j:Nat} {as:List Addr} (h:j ≠ i):(owN ow i as).n j=ow.n j:=if_neg h
theorem Rel.setN {G:Gh} {ow:Ow} {σ:St} {H H':Hp} {δ:DS} {i:Nat} {v:V} {d:D} (R:Rel K fl G ow σ H δ) (s:Same H H') (hfl:fl[i]? = some .N) (hi:i < σ.length) (r:Rs K G.H0 ow H H' .T v d) :
 ∃ ow',Rel K fl G ow' (σ.set i (some v)) H' (δ.set i (some (.d d))):=by
 have R':=R.grow s;obtain ⟨as,h1,h2,h3⟩:=r;have no:∀ a,ow i ≠ some a:=fun a z=>by
  obtain ⟨_,hz,_⟩:=R.own i a z;rw [hfl] at hz;rcases hz with ⟨z,_⟩ | ⟨z,_⟩ <;> cases z
 have sub:∀ b,okA ow b∧H b ≠ none→okA (owN ow i as) b:=fun b z=>⟨z.1.1,fun j e=>by
  by_cases hj:j=i
  ·subst hj;rw [lX] at e;exact z.2 (h3 b e)
  ·rw [j8 hj] at e;exact z.1.2 j e⟩
 have old:∀ {v:V} {d:D},RA K (okA ow) true H v d→RA K (okA (owN ow i as)) true H' v d:=fun r=>(r.track.imp sub (fun z=>z)).same s
 have olds:∀ {v:List V} {d:List D},RAs K (okA ow) true H v d→RAs K (okA (owN ow i as)) true H' v d:=fun r=>(r.track.imp sub (fun z=>z)).same s
 refine ⟨owN ow i as,R'.s0,R'.s1,by rw [d9,d9];exact R.len,fun j a h=>?_,R.inj,R.pin,fun j d' g1 gn g2=>?_,fun j d' g1 gn g2 g3=>?_,fun j a h=>?_,fun j j' a h h'=>?_,fun j j' a h=>?_,fun j h=>?_,fun j d' gn g1=>?_⟩
 ·have hj:j ≠ i:=fun z=>no a (z ▸ h)
  obtain ⟨h0,hf,xs,ds,g1,g2,g3,g4⟩:=R.own j a h;exact ⟨h0,hf,xs,ds,by rwa [bI (Ne.symm hj)],s _ _ g2,olds g3,by rwa [bI (Ne.symm hj)]⟩
 ·rcases iT g1 with ⟨rfl,e⟩ | ⟨hj,e⟩
  ·rw [hfl] at gn;cases gn
  ·obtain ⟨v',g3,g4⟩:=R.dat j d' e gn g2;exact ⟨v',by rwa [bI (Ne.symm hj)],old g4⟩
 ·rcases iT g1 with ⟨rfl,e⟩ | ⟨hj,e⟩
  ·rw [hfl] at gn;cases gn
  ·exact R.oo j d' e gn g2 g3
 ·by_cases hj:j=i
  ·subst hj;rw [lX] at h;exact ⟨R.same0.free (h3 a h),h1.chd a h,.inl ⟨hfl,R.s1.free (h3 a h)⟩⟩
  ·rw [j8 hj] at h;exact R'.nt j a h
 ·by_cases hj:j=i
  ·by_cases hj':j'=i
   ·rw [hj,hj']
   ·subst hj;rw [lX] at h;rw [j8 hj'] at h';exact absurd (h3 a h) (R.nt j' a h').2.1.ne
  ·rw [j8 hj] at h;by_cases hj':j'=i
   ·subst hj';rw [lX] at h';exact absurd (h3 a h') (R.nt j a h).2.1.ne
   ·rw [j8 hj'] at h';exact R.nd j j' a h h'
 ·by_cases hj:j=i
  ·subst hj;rw [lX] at h;exact fun z=>by
    obtain ⟨_,_,_,_,_,g2,_⟩:=R.own j' a z;rw [h3 a h] at g2
    cases g2
  ·rw [j8 hj] at h;exact R.ns j j' a h
 ·have hj:j ≠ i:=fun z=>by subst z;rw [hfl] at h;cases h
  rw [j8 hj];exact R.np j h
 ·rcases iT g1 with ⟨rfl,e⟩ | ⟨hj,e⟩
  ·cases e;exact ⟨v,by rw [dB hi],by rwa [lX],by rwa [lX]⟩
  ·obtain ⟨v',g3,g4⟩:=R'.nr j d' gn e;exact ⟨v',by rwa [bI (Ne.symm hj)],by rwa [j8 hj]⟩
theorem Rel.mutN {G:Gh} {ow:Ow} {σ:St} {H:Hp} {δ:DS} {i:Nat} {a:Addr} {u u':HO} [cu:Chg u] [cu':Chg u'] {d:D} {v:V} {as:List Addr} (R:Rel K fl G ow σ H δ) (hfl:fl[i]? = some .N) (hi:i < δ.length) (ha:a ∈ ow.n i) (hx:H a=some u) (hv:σ[i]? = some (some v))
 (hr:RT K (upd H a u') v d as) (hs:∀ b ∈ as,b ∈ ow.n i) (hd:as.Nodup):∃ ow',Rel K fl G ow' σ (upd H a u') (δ.set i (some (.d d))):=by
 have na:¬ okA ow a:=fun z=>z.2 i ha
 have hF:G.HF a=none:=by
  rcases (R.nt i a ha).2.2 with ⟨_,z⟩ | z
  ·exact z
  ·rw [hfl] at z;cases z
 have no:∀ a,ow i ≠ some a:=fun a z=>by
  obtain ⟨_,hz,_⟩:=R.own i a z;rw [hfl] at hz;rcases hz with ⟨z,_⟩ | ⟨z,_⟩ <;> cases z
 have sub:∀ b,okA ow b→okA (owN ow i as) b:=fun b z=>⟨z.1,fun j e=>by
  by_cases hj:j=i
  ·subst hj;rw [lX] at e;exact z.2 j (hs b e)
  ·rw [j8 hj] at e;exact z.2 j e⟩
 have tr:∀ b,Chd (H b)→Chd (upd H a u' b):=fun b z=>by
  by_cases hb:b=a
  ·rw [hb,dU];exact ⟨_,rfl,cu'⟩
  ·rwa [cJ hb]
 refine ⟨owN ow i as,R.s0,fun b o hb=>?_,by rw [d9];exact R.len,fun j b h=>?_,R.inj,R.pin,fun j d' g1 gn g2=>?_,fun j d' g1 gn g2 g3=>?_,fun j b h=>?_,fun j j' b h h'=>?_,fun j j' b h=>?_,fun j h=>?_,fun j d' gn g1=>?_⟩
 ·rw [cJ (fun z=>by subst z;rw [hF] at hb;cases hb)];exact R.s1 b o hb
 ·have hj:j ≠ i:=fun z=>no b (z ▸ h)
  obtain ⟨h0,hf,zs,ds,g1,g2,g3,g4⟩:=R.own j b h;have hb:b ≠ a:=fun z=>R.ns i j a ha (z ▸ h)
  exact ⟨h0,hf,zs,ds,g1,by rwa [cJ hb],(g3.upd hx na).imp sub (fun z=>z),by rwa [bI (Ne.symm hj)]⟩
 ·rcases iT g1 with ⟨rfl,e⟩ | ⟨hj,e⟩
  ·rw [hfl] at gn;cases gn
  ·obtain ⟨v',g3,g4⟩:=R.dat j d' e gn g2;exact ⟨v',g3,(g4.upd hx na).imp sub (fun z=>z)⟩
 ·rcases iT g1 with ⟨rfl,e⟩ | ⟨hj,e⟩
  ·rw [hfl] at gn;cases gn
  ·exact R.oo j d' e gn g2 g3
 ·by_cases hj:j=i
  ·subst hj;rw [lX] at h;obtain ⟨g1,g2,g3⟩:=R.nt j b (hs b h);exact ⟨g1,tr b g2,g3⟩
  ·rw [j8 hj] at h;obtain ⟨g1,g2,g3⟩:=R.nt j b h;exact ⟨g1,tr b g2,g3⟩
 ·have old:∀ j b,b ∈ (owN ow i as).n j→b ∈ ow.n j:=fun j b h=>by
   by_cases hj:j=i
   ·subst hj;rw [lX] at h;exact hs b h
   ·rw [j8 hj] at h;exact h
  exact R.nd j j' b (old j b h) (old j' b h')
 ·by_cases hj:j=i
  ·subst hj;rw [lX] at h;exact R.ns j j' b (hs b h)
  ·rw [j8 hj] at h;exact R.ns j j' b h
 ·have hj:j ≠ i:=fun z=>by subst z;rw [hfl] at h;cases h
  rw [j8 hj];exact R.np j h
 ·rcases iT g1 with ⟨rfl,e⟩ | ⟨hj,e⟩
  ·cases e;exact ⟨v,hv,by rwa [lX],by rwa [lX]⟩
  ·obtain ⟨v',g3,g4,g5⟩:=R.nr j d' gn e;exact ⟨v',g3,by rw [j8 hj];exact g4.upd hx (fun z=>hj (R.nd j i a z ha)),by rwa [j8 hj]⟩
end
section
variable {K:PySem.W.Frag} {H:Hp}
end
section
variable {X:Cx} {fl:List Fl} {e ke:Expr} {f fk:FE} {pos:Pos}
theorem Gw {i:Nat} {x:Str} {pos':Pos} (hfl:fl[i]? = some .N) (hN:X.N.Nodup) (hi:X.N[i]? = some x) (hv:X.env.scope.names.lookup x=some .local∨X.env.scope.names.lookup x=some .cell) (h:DE X fl .T e f)
 (hs:swapsWith e (some (.Name x pos')) pos.line X.env=pure false:=by rfl) (hfn:X.fn x=true∨X.env.scope.names.lookup x=some .local:=by first | exact .inl rfl | exact .inr rfl) :
 DS1 X fl (.Assign [.Name x pos'] e pos) (bM i f):=PS.imp (DP (i:=i) hN hi hv h hs hfn) fun Dn σ H h=>by
 refine D3.ex4 h fun G ow δ o R hf q=>?_
 unfold bM at hf;by_cases hl:i < δ.length
 ·rw [if_pos hl] at hf;refine D3.ex1 (bind1 hf) fun d e1 e2=>?_
  cases e2;refine ⟨G,ow,δ,d,R,e1,fun v H' s r=>?_⟩;obtain ⟨ow',R'⟩:=R.setN s hfl (rY R hl) r;exact q ow' _ H' R'
 ·rw [if_neg hl] at hf
  cases hf
end
end D3
namespace D3
open PySem
noncomputable def qM (g:List D→Option (List D)) (i:Nat) (x:Option D) (δ:DS):Option Oc:=match x with
 | some (.list l)=>match g l with
  | some m=>some (.nx (δ.set i (some (.d (.list m)))))
  | none=>none
 | _=>none
noncomputable def Cq (n:Nat) (j:Int):Nat:=if j < 0 then (j + n).toNat else min j.toNat n
def Ep (j:Int) (d:D) (l:List D):Option (List D):=if l.length < 1000000∧-(2 ^ 62) ≤ j∧j < 2 ^ 62 then some (l.take (Cq l.length j)++d :: l.drop (Cq l.length j)) else none
def qIn (i:Nat) (k d x:Option D) (δ:DS):Option Oc:=match k,d with
 | some (.int j),some d=>qM (Ep j d) i x δ
 | _,_=>none
def yx (i:Nat) (fk f:FE):FS:=fun δ=>qIn i (fk δ) (f δ) (aj i δ) δ
noncomputable def iiD:List (D × D)→Option (List (Int × Int))
 | []=>some []
 | (.int i,.int j) :: r=>(iiD r).map ((i,j) :: ·)
 | _=>none
noncomputable def QX:D→Option (List D)
 | .list l=>some l
 | .tuple l=>some l
 | _=>none
def qSq (x:Option D):Option (List D):=x.bind QX
def S7 (f:FE):FA:=fun δ=>(f δ).bind QX
theorem V6 {f:FE} {δ:DS}:S7 f δ=qSq (f δ):=rfl
theorem S8 {l:List D}:qSq (some (.list l))=some l:=rfl
theorem S9 {l:List D}:qSq (some (.tuple l))=some l:=rfl
theorem S_ {g:List D→Option (List D)} {i:Nat} {x:Option D} {δ:DS} {o:Oc} (h:qM g i x δ=some o):∃ l m,x=some (.list l)∧g l=some m∧o = .nx (δ.set i (some (.d (.list m)))):=by
 unfold qM at h;split at h
 ·next l =>
  split at h
  ·next m e=>cases h;exact ⟨l,m,rfl,e,rfl⟩
  ·cases h
 ·cases h
theorem Ks {i:Nat} {fk f:FE} {δ:DS}:yx i fk f δ=qIn i (fk δ) (f δ) (aj i δ) δ:=rfl
theorem Aa {i:Nat} {j:Int} {d:D} {x:Option D} {δ:DS}:qIn i (some (.int j)) (some d) x δ=qM (Ep j d) i x δ:=rfl
theorem Tc {g:List D→Option (List D)} {i:Nat} {l m:List D} {δ:DS} (h:g l=some m):qM g i (some (.list l)) δ=some (.nx (δ.set i (some (.d (.list m))))):=by
 show (match g l with
  | some m=>some (Oc.nx (δ.set i (some (.d (.list m)))))
  | none=>none)=_
 rw [h]
noncomputable def gIn:D→D→Option D:=fun x y=>match y with
 | .list l=>if (SeqAt.shaped x && SeqAt.shaped (.list l))=true then some (.bool (l.any fun z=>PyData.eqv z x)) else none
 | .tuple l=>if (SeqAt.shaped x && SeqAt.shaped (.tuple l))=true then some (.bool (l.any fun z=>PyData.eqv z x)) else none
 | _=>none
noncomputable def qm:D→D→Option D:=fun x y=>match y with
 | .list l=>if (SeqAt.shaped x && SeqAt.shaped (.list l))=true then some (.bool (!l.any fun z=>PyData.eqv z x)) else none
 | .tuple l=>if (SeqAt.shaped x && SeqAt.shaped (.tuple l))=true then some (.bool (!l.any fun z=>PyData.eqv z x)) else none
 | _=>none
end D3
namespace D3
open PySem PySem.Spec PyProof.Rows L2 My
section
variable {X:Cx}
def Oh:V→List V→Hp→VK→Prop:=fun x vs H Q=>∃ l xs i y,x = .ref l∧vs=[.int i,y]∧H l=some (.lst xs)∧-(2 ^ 63) ≤ i∧i < 2 ^ 63∧xs.length < sizeLine∧Q .non (upd H l (.lst (xs.take (Cq xs.length i)++y :: xs.drop (Cq xs.length i))))
theorem Oi (li:List Value) (k:Nat) (y:Value):(li.toArray.extract 0 k).push y++li.toArray.extract k=(li.take k++y :: li.drop k).toArray:=by
 apply Array.ext';simp [List.extract_eq_drop_take];exact pU (by simp)
theorem Ig:MtM X "list.insert" Oh:=by
 intro pins s σ H x vs v us Q I rx rv h;obtain ⟨l,xs,i,y,rfl,rfl,hH,h1,h2,hz,q⟩:=h
 cases rx;obtain ⟨u1,u2,rfl,ru1,ru2⟩:=rv.two;obtain ⟨t,rfl⟩:=ru1;obtain ⟨z,its,n,r,hl,e⟩:=I.lstM hH;refine bt F.slot_list_insert ⟨_,e,rfl⟩ F.entry_list_insert (F.args_list_insert_3 _ _ _) (AutoSeq1.list_insert_list_int_val_1 l its.toArray n i t u2 (by simp [fitsIndex_both h1 h2]) (by rw [bK];omega)) ⟨e,?_⟩;refine ⟨.non,_,I.lset (its':=its.take (Cq xs.length i)++u2 :: its.drop (Cq xs.length i)) hH e ?_ ((r.take _).append (.cons ru2 (r.drop _))) ?_,rfl,q⟩
 ·rw [hl];exact Oi its (Cq its.length i) u2
 ·rw [bL,bH,lN,jP];omega
end
section
variable {X:Cx} {fl:List Fl} {e ke:Expr} {f fk:FE} {pos:Pos}
theorem RAs.erase {K:PySem.W.Frag} {ok:Ok} {pl:Bool} {H:Hp} {v:List V} {d:List D} (n:Nat) (r:RAs K ok pl H v d):RAs K ok pl H (v.eraseIdx n) (d.eraseIdx n):=by
 rw [lJ,lJ];exact (r.take n).append (r.drop (n + 1))
theorem Er {i:Nat} {x:Str} {vpos apos cpos:Pos} (hfl:fl[i]? = some .O) (hk:DE X fl .P ke fk) (h:DE X fl .A e f) (hN:X.N[i]? = some x) (hv:Vis X.env.scope x:=by first | exact Or.inl rfl | exact Or.inr (Or.inl rfl) | exact Or.inr (Or.inr rfl)) (hd:(x == ("__debug__" : Str))=false:=by decide)
 (hcd:(x == ("__classdict__" : Str))=false:=by decide)
 (hs:swapsWith (.Call (.Attribute (.Name x vpos) "insert" apos) [ke,e] [] cpos) none pos.line X.env=pure false:=by rfl)
 (hbase:attributeBase (.Name x vpos) "insert" X.env (eval (.Name x vpos) X.env)=eval (.Name x vpos) X.env:=by rfl)
 (hfew:((backTo cpos (starEach [ke,e] X.env)).all (fun x=>!x.1) && (backToKw cpos (keywordEach [] X.env)).all (fun x=>x.1.isSome)
  && decide (([ke,e]:List Expr).length + ([]:List Keyword).length + (if ([]:List Keyword).isEmpty then 0 else 1) < 30))=true:=by rfl)
 (hline:(apos.endLine == cpos.line)=true:=by rfl) (hst:starEach [ke,e] X.env=(false,eval ke X.env) :: starEach [e] X.env:=by exact qj rfl) (hst2:starEach [e] X.env=(false,eval e X.env) :: starEach [] X.env:=by exact qj rfl) (hplain:(backTo cpos (starEach [e] X.env)).any (·.1)=false:=by exact Kf rfl) :
 DS1 X fl (.Expr (.Call (.Attribute (.Name x vpos) "insert" apos) [ke,e] [] cpos) pos) (yx i fk f) :=
 PS.imp (vO (QL PySem.F.plainAttrs_list PySem.F.slot_list_insert PySem.F.type_list_insert Ig (oZ hN hv hd hcd) (mq hk (mq h sZ hst2) hst) hbase hfew hline hst hplain) hs) fun Dn σ H hh=>by
 refine D3.ex4 hh fun G ow δ o R hf q=>?_
 unfold yx qIn at hf;split at hf
 case h_2=>cases hf
 next j d ek ed =>
 obtain ⟨l,m,e1,e2,rfl⟩:=S_ hf;unfold Ep at e2;by_cases hl:l.length < 1000000∧-(2 ^ 62) ≤ j∧j < 2 ^ 62
 case neg=>rw [if_neg hl] at e2;cases e2
 rw [if_pos hl] at e2
 cases e2;obtain ⟨a,xs,ho,h1,h2,h3⟩:=Ei R hfl e1;refine ⟨_,h1,.inl ⟨rfl,_,SqL.of h2⟩,G,ow,δ,_,R,ek,fun v H' s r=>?_⟩;obtain rfl:=RA.intE r;refine ⟨G,ow,δ,d,R.grow s,ed,fun u H2 s2 r2=>?_⟩;have S:=s.trans s2;refine ⟨a,xs,j,u,rfl,rfl,S _ _ h2,by omega,by omega,by rw [h3.length];exact jQ hl.1 (by decide),?_⟩;have R':=R.grow S;have h3':=h3.same S;refine q ow σ _ (R'.mut hfl ho ?_);rw [h3.length];exact (h3'.take _).append (.cons r2 (h3'.drop _))
end
section
variable {X:Cx} {fl:List Fl} {a:Expr} {pos p p2 pos2:Pos} {fa:FA}
end
end D3
namespace D3
open PySem PySem.Spec PyProof.Rows L2 My
section
variable {X:Cx} {pins:List (Addr × Obj)} {σ:L2.St} {H:Hp} {s:Shared}
end
section
variable {X:Cx} {K:PySem.W.Frag}
end
section
variable {X:Cx} {fl:List Fl} {es:List Expr} {pos:Pos}
end
section
variable {X:Cx} {fl:List Fl} {e:Expr} {f:FE}
theorem V7 {tg l:Expr} {t1 t2:TI} (h1:PI X tg l t1) (h2:PI X tg l t2):PI X tg l (fun σ H R=>t1 σ H R∨t2 σ H R):=fun pins s σ H R I h=>by
 rcases h with h | h
 ·exact h1 pins s σ H R I h
 ·exact h2 pins s σ H R I h
theorem Td {K:PySem.W.Frag} {G:Gh} {ow:Ow} {σ:St} {H Hb:Hp} {δ:DS} {L:List Nat} {v:V} {l:List D} (R:Rel K fl G ow σ H δ) (r:Rs K G.H0 ow Hb H (.B L) v (.tuple l)):∃ a xs,v = .ref a∧SqT K H a xs ∧
 ∀ H2:Hp,(∀ b o,H b=some o→(∀ i,ow i=some b→i ∈ L)→(∀ i,b ∉ ow.n i)→H2 b=some o)→SqT K H2 a xs∧RAs K (fun b=>okA ow b∧H b ≠ none) true H2 xs l:=by
 rcases r with r | ⟨i,hi,a,xs,ds,ho,rfl,e,hx,hr⟩
 ·cases r with
  | tup e q =>
   refine ⟨_,_,rfl,e.sq,fun H2 hk=>⟨?_,RAs.keep hk R.ownL R.ownC (fun b z=>z.1) q.track⟩⟩;exact .inl (.inl (hk _ _ e (nm R.ownL e (by intro xs z;cases z)) (nm2 R.ownC e Chg.tup)))
 ·cases e
theorem Te {tg:Expr} {L:List Nat} (h:DE X fl (.B L) e f):DI X fl L tg e (S7 f):=PI.imp (V7 (Gd h) (RM h)) fun σ H R' h=>by
 refine D3.ex4 h fun G ow δ l R hf q=>?_
 refine D3.ex1 (bind1 hf) fun d e1 e2=>?_
 cases d with
 | list l' =>
  cases e2;refine .inl ⟨G,ow,δ,_,R,e1,fun v H1 s r=>?_⟩;obtain ⟨a,xs,rfl,hx,keep⟩:=wO (R.grow s) r;refine ⟨a,rfl,⟨xs,hx⟩,q _ _ s fun H2 k2 i=>?_⟩;obtain ⟨k3,k4⟩:=keep H2 k2;refine ⟨fun d hd=>?_,fun hl=>⟨xs,k3,by rwa [k4.length]⟩⟩;obtain ⟨y,hy,ry⟩:=k4.get hd;refine ⟨⟨xs,y,k3,hy⟩,fun x H3 hyl=>?_⟩;obtain ⟨e,hz⟩:=hyl;subst e;have:some y=some x:=hy.symm.trans (hz xs k3)
  cases this;exact ⟨Same.refl _,ry⟩
 | tuple l' =>
  cases e2;refine .inr ⟨G,ow,δ,_,R,e1,fun v H1 s r=>?_⟩;obtain ⟨a,xs,rfl,hx,keep⟩:=Td (R.grow s) r;refine ⟨a,rfl,⟨xs,hx⟩,q _ _ s fun H2 k2 i=>?_⟩;obtain ⟨k3,k4⟩:=keep H2 k2;refine ⟨fun d hd=>?_,fun hl=>⟨xs,k3,by rwa [k4.length]⟩⟩;obtain ⟨y,hy,ry⟩:=k4.get hd;refine ⟨⟨xs,y,k3,hy⟩,fun x H3 hyl=>?_⟩;obtain ⟨e,hz⟩:=hyl;subst e;have:some y=some x:=hy.symm.trans (hz xs k3)
  cases this;exact ⟨Same.refl _,ry⟩
 | none=>cases e2
 | bool _=>cases e2
 | int _=>cases e2
 | str _=>cases e2
 | dict _=>cases e2
end
section
variable {X:Cx} {fl:List Fl} {a:Expr} {f:FE} {pos p:Pos}
end
section
variable {X:Cx} {fl:List Fl} {a b:Expr} {fa fb:FE} {pos:Pos}
end
end D3
namespace D3
open PySem PySem.Spec PyProof.Rows L2 My
section
variable {X:Cx} {K:PySem.W.Frag}
noncomputable def V8 (K:PySem.W.Frag):R2:=fun x y H Q=>∃ da l,RdV K H x da∧((RdV K H y (.list l)∧SeqAt.shaped (.list l)=true)∨(RdV K H y (.tuple l)∧SeqAt.shaped (.tuple l)=true))∧SeqAt.shaped da=true∧Q (.bl (l.any fun z=>PyData.eqv z da)) H
noncomputable def Gx (K:PySem.W.Frag):R2:=fun x y H Q=>∃ da l,RdV K H x da∧((RdV K H y (.list l)∧SeqAt.shaped (.list l)=true)∨(RdV K H y (.tuple l)∧SeqAt.shaped (.tuple l)=true))∧SeqAt.shaped da=true∧Q (.bl (!l.any fun z=>PyData.eqv z da)) H
theorem vV {A:Around} {l:List D} {d:D} (hu:A.units + 64 < cLine) (h:PyData.depthAll l + 1 ≤ 64):A.units + 1 + min (PyData.depthAll l) d.depth < cLine:=by
 have:=Nat.min_le_left (PyData.depthAll l) d.depth;omega
theorem oV {l:List D} (h:SeqAt.shaped (.list l)=true):PyData.canLayAll0 l=true∧PyData.depthAll l + 1 ≤ 64:=by
 unfold SeqAt.shaped at h;rw [aW] at h;refine ⟨by simpa [PyData.canLay0] using h.1,?_⟩;have:=of_decide_eq_true h.2;simpa [PyData.depth] using this
theorem m_ {l:List D} (h:SeqAt.shaped (.tuple l)=true):PyData.canLayAll0 l=true∧PyData.depthAll l + 1 ≤ 64:=by
 unfold SeqAt.shaped at h;rw [aW] at h;refine ⟨by simpa [PyData.canLay0] using h.1,?_⟩;have:=of_decide_eq_true h.2;simpa [PyData.depth] using this
theorem Ku (hu:X.A.units + 64 < cLine):OpR X (compareOp .In) (V8 X.K):=by
 intro pins s σ H x y v u Q I rx ry h;obtain ⟨da,l,ha,hb,sa,q⟩:=h;obtain ⟨as,za⟩:=ha.reads I rx;rcases hb with ⟨hb,sb⟩ | ⟨hb,sb⟩
 ·obtain ⟨bs,zb⟩:=hb.reads I ry;exact SeqAt.in_list_reads zb za (oV sb).1 (ad sa) (vV hu (oV sb).2) ⟨.bl _,H,I,rfl,q⟩
 ·obtain ⟨bs,zb⟩:=hb.reads I ry;exact SeqAt.in_tuple_reads zb za (m_ sb).1 (ad sa) (vV hu (m_ sb).2) ⟨.bl _,H,I,rfl,q⟩
theorem uT (hu:X.A.units + 64 < cLine):OpR X (compareOp .NotIn) (Gx X.K):=by
 intro pins s σ H x y v u Q I rx ry h;obtain ⟨da,l,ha,hb,sa,q⟩:=h;obtain ⟨as,za⟩:=ha.reads I rx;rcases hb with ⟨hb,sb⟩ | ⟨hb,sb⟩
 ·obtain ⟨bs,zb⟩:=hb.reads I ry;exact SeqAt.notIn_list_reads zb za (oV sb).1 (ad sa) (vV hu (oV sb).2) ⟨.bl _,H,I,rfl,q⟩
 ·obtain ⟨bs,zb⟩:=hb.reads I ry;exact SeqAt.notIn_tuple_reads zb za (m_ sb).1 (ad sa) (vV hu (m_ sb).2) ⟨.bl _,H,I,rfl,q⟩
theorem V9:BrO K (V8 K) gIn:=by
 intro H x y dx dy d Q rx ry e q
 cases dy with
 | list l =>
  by_cases z:(SeqAt.shaped dx && SeqAt.shaped (.list l))=true
  ·have e:(if (SeqAt.shaped dx && SeqAt.shaped (.list l))=true then some (PyData.bool (l.any fun z=>PyData.eqv z dx)) else none)=some d:=e;rw [if_pos z] at e
   cases e;rw [aW] at z;exact ⟨dx,l,rx.rd (ad z.1),.inl ⟨ry.rd (ad z.2),z.2⟩,z.1,q _ rfl (.bl _)⟩
  ·have e:(if (SeqAt.shaped dx && SeqAt.shaped (.list l))=true then some (PyData.bool (l.any fun z=>PyData.eqv z dx)) else none)=some d:=e;rw [if_neg z] at e
   cases e
 | tuple l =>
  by_cases z:(SeqAt.shaped dx && SeqAt.shaped (.tuple l))=true
  ·have e:(if (SeqAt.shaped dx && SeqAt.shaped (.tuple l))=true then some (PyData.bool (l.any fun z=>PyData.eqv z dx)) else none)=some d:=e;rw [if_pos z] at e
   cases e;rw [aW] at z;exact ⟨dx,l,rx.rd (ad z.1),.inr ⟨ry.rd (ad z.2),z.2⟩,z.1,q _ rfl (.bl _)⟩
  ·have e:(if (SeqAt.shaped dx && SeqAt.shaped (.tuple l))=true then some (PyData.bool (l.any fun z=>PyData.eqv z dx)) else none)=some d:=e;rw [if_neg z] at e
   cases e
 | _=>cases e
theorem Ab:BrO K (Gx K) qm:=by
 intro H x y dx dy d Q rx ry e q
 cases dy with
 | list l =>
  by_cases z:(SeqAt.shaped dx && SeqAt.shaped (.list l))=true
  ·have e:(if (SeqAt.shaped dx && SeqAt.shaped (.list l))=true then some (PyData.bool (!l.any fun z=>PyData.eqv z dx)) else none)=some d:=e;rw [if_pos z] at e
   cases e;rw [aW] at z;exact ⟨dx,l,rx.rd (ad z.1),.inl ⟨ry.rd (ad z.2),z.2⟩,z.1,q _ rfl (.bl _)⟩
  ·have e:(if (SeqAt.shaped dx && SeqAt.shaped (.list l))=true then some (PyData.bool (!l.any fun z=>PyData.eqv z dx)) else none)=some d:=e;rw [if_neg z] at e
   cases e
 | tuple l =>
  by_cases z:(SeqAt.shaped dx && SeqAt.shaped (.tuple l))=true
  ·have e:(if (SeqAt.shaped dx && SeqAt.shaped (.tuple l))=true then some (PyData.bool (!l.any fun z=>PyData.eqv z dx)) else none)=some d:=e;rw [if_pos z] at e
   cases e;rw [aW] at z;exact ⟨dx,l,rx.rd (ad z.1),.inr ⟨ry.rd (ad z.2),z.2⟩,z.1,q _ rfl (.bl _)⟩
  ·have e:(if (SeqAt.shaped dx && SeqAt.shaped (.tuple l))=true then some (PyData.bool (!l.any fun z=>PyData.eqv z dx)) else none)=some d:=e;rw [if_neg z] at e
   cases e
 | _=>cases e
end
section
variable {X:Cx} {fl:List Fl} {a:Expr} {f:FE} {pos:Pos}
end
section
variable {X:Cx} {fl:List Fl} {e:Expr} {es:List Expr} {f:FE} {pos p:Pos} {x:Str} {n:Nat} {F:List D→Option D} {fa:FA}
end
section
variable {P:Program} {w:World} {K:PySem.W.Frag} {mg:Str→Option Value} {base:Heap} {x:Str} {ps N:List Str} {st:Stmt} {k n:Nat} {fs:FS} {fl:List Fl}
end
section
variable {P:Program} {w:World} {K:PySem.W.Frag} {mg:Str→Option Value} {base:Heap} {x:Str} {ps:List Str} {st:Stmt} {n:Nat}
end
end D3
namespace D3
open PySem PySem.Spec PyProof.Rows L2 My
section
variable {K:PySem.W.Frag} {fl flA:List Fl} {G:Gh} {ow:Ow} {σ σ':St} {H H1:Hp} {δ:DS} {T:List Nat}
end
section
variable {X:Cx} {fl flA:List Fl} {e:Expr} {es:List Expr} {f:FE} {fa:FA} {pos:Pos}
end
section
variable {X:Cx} {fl:List Fl} {pos:Pos}
end
end D3
namespace XS
open PySem PySem.W PyProof.Rows
noncomputable def dX {α:Type} (lt:Nat→Nat→Bool):KasT α→α
 | .ret a=>a
 | .ask i j k=>dX lt (k (lt i j))
def oW {α:Type} (n:Nat) (R:α→Prop):KasT α→Prop
 | .ret a=>R a
 | .ask i j k=>i < n∧j < n∧∀ b,oW n R (k b)
section
variable {α β:Type} {n:Nat} {R:α→Prop} {R':β→Prop} {lt:Nat→Nat→Bool}
theorem nF (f:α→KasT β):∀ t:KasT α,dX lt (t.bind f)=dX lt (f (dX lt t))
 | .ret _=>rfl
 | .ask _ _ k=>nF f (k _)
theorem nG {f:α→KasT β} (hf:∀ a,R a→oW n R' (f a)):∀ t:KasT α,oW n R t→oW n R' (t.bind f)
 | .ret a,h=>hf a h
 | .ask _ _ k,h=>⟨h.1,h.2.1,fun b=>nG hf (k b) (h.2.2 b)⟩
theorem Cr:∀ t:KasT α,oW n R t→R (dX lt t)
 | .ret _,h=>h
 | .ask _ _ k,h=>Cr (k _) (h.2.2 _)
theorem Gy {cmp:Nat→Nat→(Bool→Shared→Prop)→Shared→Prop} {G:α→Shared→Prop} {s:Shared} (hc:∀ i j C,i < n→j < n→C (lt i j) s→cmp i j C s) :
 ∀ t:KasT α,oW n R t→G (dX lt t) s→t.kasWp cmp G s
 | .ret _,_,q=>q
 | .ask _ _ k,h,q=>hc _ _ _ h.1 h.2.1 (Gy hc (k _) (h.2.2 _) q)
end
def good (n:Nat) (p:Array Nat):Prop:=p.Perm (aB n).toArray
section
variable {n:Nat} {p:Array Nat}
theorem good.mem (g:good n p) {x:Nat} (h:x ∈ p.toList):x < n:=by
 have:x ∈ (aB n):=by
  have:=(nQ.mp g).mem_iff.mp h;simpa using this
 exact aQ.mp this
theorem good.get (g:good n p) (h0:0 < n) (i:Nat):p.getD i 0 < n:=by
 unfold Array.getD;split
 ·exact g.mem (by simp)
 ·exact h0
theorem good.rev (g:good n p) (i j:Nat):good n (aI p i j):=(mirror_perm _ _ _ _).trans g
theorem good.bub (g:good n p) (i j:Nat):good n (bubble p i j):=(bubble_perm _ _ _).trans g
theorem wU (h0:0 < n) (g:good n p):∀ f a,oW n (fun _=>True) (a6 p f a)
 | 0,a=>trivial
 | f + 1,a=>⟨g.get h0 _,g.get h0 _,fun b=>by
  cases b
  ·exact wU h0 g f (a + 1)
  ·trivial⟩
theorem sH (h0:0 < n):∀ f (p:Array Nat) a q,good n p→oW n (fun r=>good n r.1) (ar f p a q)
 | 0,p,a,q,g=>g
 | f + 1,p,a,q,g=>by
  refine ⟨g.get h0 _,g.get h0 _,fun b=>?_⟩
  cases b
  ·refine ⟨g.get h0 _,g.get h0 _,fun c=>?_⟩
   cases c
   ·exact sH h0 f p (a + 1) (q + 1) g
   ·exact g
  ·split
   ·exact sH h0 f _ _ _ (g.rev _ _)
   ·exact sH h0 f _ _ _ g
theorem wV (h0:0 < n) (g:good n p) (a m:Nat):oW n (fun r=>good n r.2) (aT a m p):=by
 refine nG (R:=fun _=>True) (fun c _=>?_) _ (wU h0 (g.rev _ _) _ _);exact g.rev _ _
theorem zA (h0:0 < n) (g:good n p) (a m:Nat):oW n (fun r=>good n r.2) (am a m p) :=
 nG (R:=fun r=>good n r.1) (fun r h=>by
  split
  ·exact wV h0 (good.rev h _ _) _ _
  ·exact wV h0 h _ _) _ (sH h0 _ _ _ _ g)
theorem Es (h0:0 < n) (g:good n p) (m:Nat):oW n (fun r=>good n r.2) (a4 m p) :=
 nG (R:=fun _=>True) (fun a _=>by
  split
  ·exact g
  ·split
   ·refine ⟨g.get h0 _,g.get h0 _,fun b=>?_⟩
    cases b
    ·exact zA h0 (g.rev _ _) _ _
    ·exact g
   ·exact zA h0 g _ _) _ (wU h0 g _ _)
theorem tH (h0:0 < n) (g:good n p) (k:Nat):∀ f l r,oW n (fun _=>True) (aE p k f l r)
 | 0,l,r=>trivial
 | f + 1,l,r=>by
  unfold aE;split
  ·trivial
  ·refine ⟨g.get h0 _,g.get h0 _,fun b=>?_⟩
   cases b
   ·exact tH h0 g k f _ _
   ·exact tH h0 g k f _ _
theorem Cu (h0:0 < n):∀ f (p:Array Nat) k,good n p→oW n (good n) (kas_bin f p k)
 | 0,p,k,g=>g
 | f + 1,p,k,g=>nG (R:=fun _=>True) (fun l _=>Cu h0 f _ _ (g.bub _ _)) _ (tH h0 g k _ _ _)
theorem zB (h0:0 < n):oW n (good n) (a_ n) :=
 nG (R:=fun r=>good n r.2) (fun r h=>by
  split
  ·exact Cu h0 _ _ _ h
  ·exact h) _ (Es h0 (Array.Perm.refl _) n)
end
def sU (n:Nat) (lt:Nat→Nat→Bool):List Nat:=(dX lt (a_ n)).toList
theorem n6 {n:Nat} (h0:0 < n) (lt:Nat→Nat→Bool):(sU n lt).Perm (aB n):=by
 have:good n (dX lt (a_ n)):=Cr _ (zB h0);have:=nQ.mp this;simpa [sU] using this
open D3
end XS
namespace XS
open PySem PySem.Spec PySem.W PyProof.Rows L2 My D3
theorem zE {P:Program} {w:World} {H:Hp} {h:Heap} {a:Addr} {o:HO} (x:iz P w H h a o):∃ u,h.get? a=some u:=by
 cases o with
 | lst xs=>obtain ⟨_,_,_,_,e⟩:=x;exact ⟨_,e⟩
 | tup xs=>obtain ⟨_,_,_,u,e,_⟩:=x;exact ⟨_,e⟩
 | dK kvs=>obtain ⟨_,_,_,_,u,_,_,e,_⟩:=x;exact ⟨_,e⟩
 | dT kvs=>obtain ⟨_,_,_,_,u,_,_,e,_⟩:=x;exact ⟨_,e⟩
 | set S n=>obtain ⟨u,_,_,_,e,_⟩:=x;exact ⟨_,e⟩
 | ins C dx fs=>obtain ⟨_,_,_,e,_⟩:=x;exact ⟨_,e⟩
 | own y=>exact x
 | xd fs=>obtain ⟨_,⟨u,_,_,e,_⟩,_⟩:=x;exact ⟨_,e⟩
 | met f y=>exact ⟨_,x⟩
 | rng lo hi=>obtain ⟨_,_,_,e⟩:=x;exact ⟨_,e⟩
 | frz u v=>exact ⟨_,x.1⟩
 | tbl q p=>obtain ⟨_,e,_⟩:=x;exact ⟨_,e⟩
 | ext φ=>exact x.2.1
section
variable {X:Cx} {pins:List (Addr × Obj)} {σ:L2.St} {H:Hp} {s:Shared}
theorem Tf {h:Heap} {L:Addr} {m m':Str→Option Value} (a:h.Ns L m) (b:h.Ns L m'):m=m':=by
 obtain ⟨o,es,ep,e,d,_,f⟩:=a;obtain ⟨o',es',ep',e',d',_,f'⟩:=b;rw [e] at e';cases e';rw [d] at d';cases d'
 funext x
 rw [← f,← f']
theorem Oj {h':Heap} {m:Str→Option Value} {D:Addr} {o:HO} (I:Inv X pins σ H s) (hm:s.heap.Ns X.env.locals m) (hm':h'.Ns X.env.locals m) (k:∀ b u,b ≠ X.env.locals→s.heap.get? b=some u→h'.get? b=some u)
 (hD:s.heap.get? D=none) (new:iz X.prog X.w (upd H D o) h' D o):Inv X pins σ (upd H D o) { s with heap:=h' }:=by
 have hn:H D=none:=by
  cases e:H D with
  | none=>rfl
  | some u =>
   obtain ⟨w,hw⟩:=zE (I.hok D u e);rw [hD] at hw;cases hw
 have ne:∀ {b u},H b=some u→b ≠ D:=fun e=>jm e hn
 refine I.step (g':=s.gens) (d':=s.drawn) (t':=s.toks) (ch:=[]) (fun b hb=>by cases hb) (fun b u hL _ _ e _=>k b u hL e) (fun b u hL _ _ e _=>⟨u.slots,k b u hL e⟩) (fun b u _ e n=>?_) (fun b u _ e=>?_)
  (fun b xs e=>by rwa [cJ (ne e)]) (fun b u v e=>by rwa [cJ (ne e)]) (fun b q p e=>by rwa [cJ (ne e)]) (fun m2 h2=>by rw [← Tf hm h2];exact hm') (fun b u e=>?_) I.bare
 ·rwa [cJ (fun z=>by rw [z,hD] at e;cases e)]
 ·by_cases z:b=X.env.locals
  ·obtain ⟨w,_,_,hw,_⟩:=hm';exact ⟨w,by rwa [z]⟩
  ·exact ⟨u,k b u z e⟩
 ·by_cases z:b=D
  ·subst z;rw [dU] at e
   cases e;exact new
  ·rw [cJ z] at e;refine (I.hok b u e).stay (fun c w hc q=>k c w (fun y=>?_) q) (fun c q=>by rwa [cJ (ne q)]) fun c xs q=>by rwa [cJ (ne q)]
   rcases hc with rfl | y2
   ·rw [y,I.free] at e;cases e
   ·rw [y,I.free] at y2;cases y2
end
section
variable {prog:Program} {w:World} {A:Around} {E:Value→Shared→Prop} {s:Shared}
end
end XS
namespace XS
open PySem PySem.Spec PySem.W PyProof.Rows L2 My D3
section
variable {X:Cx} {pins:List (Addr × Obj)} {σ:L2.St} {H:Hp} {s:Shared}
end
end XS
namespace XS
open PySem PySem.Spec PySem.W PyProof.Rows L2 My D3
section
variable {prog:Program} {w:World} {A:Around} {E:Value→Shared→Prop} {s:Shared}
end
section
variable {X:Cx}
end
end XS
namespace XS
open PySem PySem.Spec PySem.W PyProof.Rows L2 My D3
section
variable {K:PySem.W.Frag} {H:Hp}
theorem Cv:∀ {l:List D},flats l=true→∀ i,flat (l.getD i .none)=true
 | [],_,i=>by simp [flat]
 | d :: l,h,0=>by rw [flats,aW] at h;exact h.1
 | d :: l,h,i + 1=>by
  rw [flats,aW] at h;simpa using Cv h.2 i
theorem Gz:∀ {ys:List V} {l:List D} {ok:Ok} {pl:Bool},RAs K ok pl H ys l→∀ i,RA K ok pl H (ys.getD i .non) (l.getD i .none)
 | _,_,_,_,.nil,i=>by simp;exact .non
 | _,_,_,_,.cons a b,0=>a
 | _,_,_,_,.cons a b,i + 1=>by simpa using Gz b i
end
end XS
namespace XS
open PySem PySem.Spec PySem.W PyProof.Rows
section
variable {prog:Program} {w:World} {A:Around} {E:Value→Shared→Prop} {s:Shared}
structure PL (h:Heap) (D I l:Addr) (its:Array Value) (vs:List (L2.Key × Value)) (i:Nat):Prop where
 iter:h.IsListIter I l i
 lst:h.IsList l its
 prs:∀ (j:Nat) (u:Value),its[j]? = some u→∃ (a:Addr) (n:Int) (t:Tok) (v:Value),u=Value.ref a∧IsTup h a #[Value.int n t,v]∧vs[j]? = some (Sum.inl n,v)∧a ≠ D∧a ≠ I
 ne:l ≠ D∧l ≠ I∧D ≠ I
end
end XS
namespace XS
open PySem PySem.Spec PySem.W PyProof.Rows
section
variable {prog:Program} {w:World} {A:Around} {E:Value→Shared→Prop} {s:Shared}
end
end XS
namespace XS
open PySem PySem.Spec PySem.W PyProof.Rows L2 My D3
section
variable {X:Cx} {pins:List (Addr × Obj)} {σ:L2.St} {H:Hp} {s:Shared}
end
end XS
namespace XS
open PySem PySem.Spec PySem.W PyProof.Rows L2 My D3
section
variable {X:Cx} {fl:List Fl} {a:Expr} {f:FE} {pos:Pos} {ta:TE}
end
end XS
namespace D3
open PySem
def Zu:D→Option (List (Int × Int))
 | .dict kvs=>iiD kvs
 | _=>none
end D3
namespace D3
open PySem
end D3
namespace D3
open PySem
end D3
namespace D3
open PySem
end D3
namespace D3
open PySem
def dsB (S:List Int):D:=.dict (S.map fun i=>(.int i,.bool true))
noncomputable def bsD:List (D × D)→Option (List Int)
 | []=>some []
 | (.int i,.bool true) :: r=>(bsD r).map (i :: ·)
 | _=>none
def Ih:D→Option (List Int)
 | .dict kvs=>bsD kvs
 | _=>none
def yC:D→D→Option D:=fun y x=>(Ih x).bind fun S=>match y with
 | .int i=>some (.bool (decide (i ∈ S)))
 | .none=>some (.bool false)
 | _=>none
def wW (S:List Int) (i:Int):List Int:=if i ∈ S then S else S++[i]
def Cw (i:Nat) (fk:FE):FS:=fun δ=>(aj i δ).bind fun x=>(fk δ).bind fun y=>(Ih x).bind fun S=>match y with
 | .int k=>if S.length < 1000000 then some (.nx (δ.set i (some (.d (dsB (wW S k)))))) else none
 | _=>none
theorem GC:∀ S:List Int,bsD (S.map fun i=>((.int i,.bool true):D × D))=some S
 | []=>rfl
 | i :: S=>by
  rw [bJ,bsD,GC S];rfl
theorem Ac (S:List Int):Ih (dsB S)=some S:=GC S
end D3
namespace D3
open PySem
noncomputable def scD:List D→Bool
 | []=>true
 | .int _ :: r=>scD r
 | .none :: r=>scD r
 | _=>false
def tvD:D→Bool
 | .none=>true
 | .tuple ds=>scD ds
 | _=>false
def Ii:List (D × D)→Option (List (Int × D))
 | []=>some []
 | (.int i,d) :: r=>if tvD d=true then (Ii r).map ((i,d) :: ·) else none
 | _=>none
def vL:D→Option (List (Int × D))
 | .dict kvs=>Ii kvs
 | _=>none
noncomputable def tvP (S:List (Int × D)):List (D × D):=S.map fun q=>(.int q.1,q.2)
def dtv (S:List (Int × D)):D:=.dict (tvP S)
noncomputable def eO (S:List (Int × D)) (i:Int):Option D:=(S.find? fun q=>decide (q.1=i)).map (·.2)
def Cy:D→D→Option D:=fun y x=>(vL x).bind fun S=>match y with
 | .int i=>some (.bool (eO S i).isSome)
 | _=>none
def ud:D→D→Option D:=fun y x=>(vL x).bind fun S=>match y with
 | .int i=>some (.bool (!(eO S i).isSome))
 | _=>none
def qp:D→D→Option D:=fun x y=>(vL x).bind fun S=>match y with
 | .int i=>eO S i
 | _=>none
def wX (fk:FE):FE:=fun δ=>(fk δ).bind fun y=>match y with
 | .int i=>some (dtv [(i,.none)])
 | _=>none
def oE (S:List (Int × D)) (k:Int) (d:D):List (Int × D):=if (eO S k).isSome=true then S else S++[(k,d)]
def wY (i:Nat) (fk fv:FE):FS:=fun δ=>(aj i δ).bind fun x=>(fk δ).bind fun y=>(fv δ).bind fun z=>(vL x).bind fun S=>match y with
 | .int k=>if tvD z=true∧S.length < 1000000 then some (.nx (δ.set i (some (.d (dtv (oE S k z)))))) else none
 | _=>none
def tvA (S:List (Int × D)):Bool:=S.all fun q=>tvD q.2
theorem sI:∀ {S:List (Int × D)},tvA S=true→vL (dtv S)=some S
 | [],_=>rfl
 | q :: S,h=>by
  rw [tvA,oY,aW] at h;have ih:=sI (S:=S) h.2;unfold vL dtv tvP at ih;unfold vL dtv tvP;dsimp only at ih;rw [bJ];dsimp only;rw [Ii,if_pos h.1,ih];rfl
theorem uf:∀ {kvs:List (D × D)} {S:List (Int × D)},Ii kvs=some S→tvA S=true∧kvs=tvP S
 | [],S,h=>by cases h;exact ⟨rfl,rfl⟩
 | (a,b) :: r,S,h=>by
  unfold Ii at h;split at h
  ·next e=>cases e
  ·next e =>
   cases e;split at h
   ·next hd =>
    cases e3:Ii r with
    | none=>rw [e3] at h;cases h
    | some S' =>
     rw [e3] at h
     cases h;obtain ⟨h1,h2⟩:=uf e3;refine ⟨?_,?_⟩
     ·rw [tvA,oY,aW];exact ⟨hd,h1⟩
     ·rw [h2];rfl
   ·cases h
  ·cases h
theorem Ol {S:List (Int × D)} {k:Int} {d:D} (h:tvA S=true) (hd:tvD d=true):tvA (oE S k d)=true:=by
 unfold oE;split
 ·exact h
 ·unfold tvA at h ⊢;rw [List.all_append,h];simp [hd]
end D3
namespace D3
open PySem
def ug:List D→Option D
 | [x]=>(vL x).bind fun S=>if S.length < 64 then some (.list ((qd (S.map (·.1))).map .int)) else none
 | _=>none
end D3
namespace L2
open PySem PySem.Spec PyProof.Rows
section
variable {κ:Type} [DecidableEq κ]
noncomputable def nj (kvs:List (κ × V)) (k:κ):Option V:=(kvs.find? fun kv=>decide (kv.1=k)).map (·.2)
noncomputable def putK (kvs:List (κ × V)) (k:κ) (v:V):List (κ × V) :=
 if (kvs.any fun kv=>decide (kv.1=k))=true then kvs.map (fun kv=>if kv.1=k then (kv.1,v) else kv) else kvs++[(k,v)]
theorem rP {p:κ × V} {r:List (κ × V)} {k:κ} (e:p.1=k):nj (p :: r) k=some p.2:=by simp [nj,e]
theorem rQ {p:κ × V} {r:List (κ × V)} {k:κ} (e:¬ p.1=k):nj (p :: r) k=nj r k:=by simp [nj,e]
theorem wZ (k:κ):∀ kvs:List (κ × V),(kvs.any fun kv=>decide (kv.1=k))=(nj kvs k).isSome
 | []=>rfl
 | p :: r=>by
  rw [mj];by_cases e:p.1=k
  ·simp only [rP e,dTr e,Bool.true_or,Option.isSome_some]
  ·rw [rQ e,dFa e,Bool.false_or];exact wZ k r
theorem rR (kvs:List (κ × V)) (k:κ) (v:V):(putK kvs k v).length ≤ kvs.length + 1:=by
 unfold putK;split
 ·rw [aD];omega
 ·rw [bL,bH,jz];omega
theorem Kv {kvs:List (κ × V)} {k:κ} (v:V) (h:nj kvs k=none):putK kvs k v=kvs++[(k,v)]:=by
 unfold putK;rw [wZ,h];exact if_neg (by decide)
theorem uD.isSome_eq {o:Option V} {u:Option Value} (r:uD o u):o.isSome=u.isSome:=by
 cases o with
 | none=>cases u with
  | none=>rfl
  | some _=>exact (show False from r).elim
 | some _=>cases u with
  | none=>exact (show False from r).elim
  | some _=>rfl
theorem uD.getD {o:Option V} {u:Option Value} {d:V} {d':Value} (r:uD o u) (rd:RelV d d'):RelV (o.getD d) (u.getD d'):=by
 cases o with
 | none=>cases u with
  | none=>exact rd
  | some _=>exact (show False from r).elim
 | some _=>cases u with
  | none=>exact (show False from r).elim
  | some _=>exact r
theorem KV.val {kvs:List (κ × V)} {vs:List (κ × Value)} (r:KV kvs vs) (k:κ):uD (nj kvs k) (valueAt vs k):=by
 induction r with
 | nil=>exact True.intro
 | @cons p q ps qs h t ih =>
  obtain ⟨h1,h2⟩:=h;by_cases e:p.1=k
  ·have e':q.1=k:=h1.symm.trans e;have b:valueAt (q :: qs) k=some q.2:=by simp [valueAt,e']
   rwa [rP e,b]
  ·have e':¬ q.1=k:=fun z=>e (h1.trans z)
   have b:valueAt (q :: qs) k=valueAt qs k:=by simp [valueAt,e']
   rwa [rQ e,b]
theorem KV.any {kvs:List (κ × V)} {vs:List (κ × Value)} (r:KV kvs vs) (k:κ):(kvs.any fun kv=>decide (kv.1=k))=vs.any fun kv=>decide (kv.1=k):=by
 induction r with
 | nil=>rfl
 | cons h t ih=>rw [mj,mj,ih,h.1]
theorem KV.repl {kvs:List (κ × V)} {vs:List (κ × Value)} (r:KV kvs vs) (k:κ) {y:V} {u:Value} (ry:RelV y u) :
 KV (kvs.map fun kv=>if kv.1=k then (kv.1,y) else kv) (vs.map fun kv=>if kv.1=k then (kv.1,u) else kv):=by
 unfold KV at r ⊢
 induction r with
 | nil=>exact .nil
 | @cons p q ps qs h t ih =>
  rw [bJ,bJ];refine .cons ?_ ih;obtain ⟨h1,h2⟩:=h;by_cases e:p.1=k
  ·rw [if_pos e,if_pos (h1.symm.trans e)];exact ⟨h1,ry⟩
  ·rw [if_neg e,if_neg (fun z=>e (h1.trans z))];exact ⟨h1,h2⟩
theorem KV.put {kvs:List (κ × V)} {vs:List (κ × Value)} (r:KV kvs vs) (k:κ) {y:V} {u:Value} (ry:RelV y u):KV (putK kvs k y) (stored vs k u):=by
 unfold putK stored;rw [r.any k];by_cases e:(vs.any fun kv=>decide (kv.1=k))=true
 ·rw [if_pos e,if_pos e];exact r.repl k ry
 ·rw [if_neg e,if_neg e];exact Paired.snoc r ⟨rfl,ry⟩
theorem KV.keys {kvs:List (κ × V)} {vs:List (κ × Value)} (r:KV kvs vs):kvs.map (·.1)=vs.map (·.1):=by
 induction r with
 | nil=>rfl
 | cons h t ih=>rw [bJ,bJ,ih,h.1]
theorem KV.length {kvs:List (κ × V)} {vs:List (κ × Value)} (r:KV kvs vs):kvs.length=vs.length:=Paired.length r
end
theorem w6 {P:Program} {w:World} {k:Key} {u:Value} (r:RelV (kV k) u):(fu P w).is k u=true:=by
 cases k with
 | inl i=>obtain ⟨t,e⟩:=(show ∃ t,u=Value.int i t from r);subst e;exact Bo P w i t
 | inr x=>obtain ⟨t,e⟩:=(show ∃ t,u=Value.str x t from r);subst e;exact Bp P w x t
theorem zF {P:Program} {w:World}:∀ {ks:List Key} {us:List Value},Vals (ks.map kV) us→ItemsAre (fu P w) ks us
 | [],_,r=>by rw [pQ] at r;cases r;exact .nil
 | k :: ks,_,r=>by
  rw [bJ] at r
  cases r with
  | cons h t=>exact .cons (w6 h) (zF t)
abbrev KT (H:Hp):List (List Key × V)→List (List Key × Addr × Value)→Prop:=Paired fun p q=>p.1=q.1∧H q.2.1=some (.tup (p.1.map kV))∧RelV p.2 q.2.2
theorem KT.val {H:Hp} {kvs:List (List Key × V)} {xs:List (List Key × Addr × Value)} (r:KT H kvs xs) (k:List Key):uD (nj kvs k) ((atKey xs k).map (·.2)):=by
 induction r with
 | nil=>exact True.intro
 | @cons p q ps qs h t ih =>
  obtain ⟨h1,_,h2⟩:=h;by_cases e:p.1=k
  ·have e':q.1=k:=h1.symm.trans e;have b:atKey (q :: qs) k=some q.2:=by simp [atKey,e']
   rwa [rP e,b]
  ·have e':¬ q.1=k:=fun z=>e (h1.trans z)
   have b:atKey (q :: qs) k=atKey qs k:=by simp [atKey,e']
   rwa [rQ e,b]
theorem KT.repl {H:Hp} {kvs:List (List Key × V)} {xs:List (List Key × Addr × Value)} (r:KT H kvs xs) (k:List Key) {y:V} {u:Value} (ry:RelV y u) :
 KT H (kvs.map fun kv=>if kv.1=k then (kv.1,y) else kv) (xs.map (putAt k u)):=by
 induction r with
 | nil=>exact .nil
 | @cons p q ps qs h t ih =>
  rw [bJ,bJ];refine .cons ?_ ih;obtain ⟨h1,h2,h3⟩:=h;unfold putAt;by_cases e:p.1=k
  ·rw [if_pos e,if_pos (h1.symm.trans e)];exact ⟨h1,h2,ry⟩
  ·rw [if_neg e,if_neg (fun z=>e (h1.trans z))];exact ⟨h1,h2,h3⟩
theorem KT.put {H:Hp} {kvs:List (List Key × V)} {xs:List (List Key × Addr × Value)} (r:KT H kvs xs) (k:List Key) {b:Addr} {y:V} {u:Value} (hb:H b=some (.tup (k.map kV))) (ry:RelV y u) :
 KT H (putK kvs k y) (storedH xs k b u):=by
 have e:(kvs.any fun kv=>decide (kv.1=k))=(atKey xs k).isSome:=by
  rw [wZ,(r.val k).isSome_eq,kW]
 unfold putK storedH;rw [e];by_cases q:(atKey xs k).isSome=true
 ·rw [if_pos q,if_pos q];exact r.repl k ry
 ·rw [if_neg q,if_neg q];exact Paired.snoc r ⟨rfl,hb,ry⟩
theorem KT.keeps {H H':Hp} {kvs:List (List Key × V)} {xs:List (List Key × Addr × Value)} (r:KT H kvs xs) (ht:∀ b ys,H b=some (.tup ys)→H' b=some (.tup ys)):KT H' kvs xs :=
 Paired.mapP r fun _ _ z=>⟨z.1,ht _ _ z.2.1,z.2.2⟩
section
variable {P:Program} {w:World} {H:Hp} {h:Heap} {a:Addr}
theorem QZ {u:HO} (ok:HOk P w H h) (e:Rd H a u):iz P w H h a u:=e.ok ok
theorem vq {kvs:List (Key × V)} (ok:HOk P w H h) (e:Rd H a (.dK kvs)):kvs.length ≤ sizeLine∧(a == sysModules)=false∧∃ vs,KV kvs vs∧h.DictOf (fu P w) a vs :=
 show iz P w H h a (.dK kvs) from QZ ok e
theorem Kw {kvs:List (Key × V)} (ok:HOk P w H h) (e:H a=some (.dK kvs)):kvs.length ≤ sizeLine∧(a == sysModules)=false∧∃ vs,KV kvs vs∧h.DictOf (fu P w) a vs:=vq ok (.inl e)
theorem xg {ks:List Key} (ok:HOk P w H h) (e:H a=some (.tup (ks.map kV))):(tupleKind (fu P w)).is h ks a:=by
 obtain ⟨_,its,r,o,h1,h2,n,h3⟩:=(show iz P w H h a (.tup (ks.map kV)) from ok a _ e);exact ⟨o,its.toArray,n,h1,h2,h3,by simpa using zF r⟩
theorem zG {kvs:List (List Key × V)} (ok:HOk P w H h) (e:Rd H a (.dT kvs)):kvs.length ≤ sizeLine∧(a == sysModules)=false ∧
 ∃ xs,KT H kvs xs∧h.DictOfH (tupleKind (fu P w)) a xs:=by
 obtain ⟨z,y,xs,r,o,es,ep,h1,h2,h3,h4,h5⟩:=(show iz P w H h a (.dT kvs) from QZ ok e);refine ⟨z,y,xs,r,o,es,ep,h1,h2,h3,h4,fun x hx=>?_,h5⟩;have all:∀ {l:List (List Key × V)} {m:List (List Key × Addr × Value)},KT H l m→∀ x ∈ m,(tupleKind (fu P w)).is h x.1 x.2.1:=by
  intro l m q
  induction q with
  | nil=>intro x hx;exact nomatch hx
  | @cons p q ps qs hq t ih =>
   intro x hx;rcases aY.mp hx with e | hx
   ·subst e;exact xg ok (by rw [← hq.1];exact hq.2.1)
   ·exact ih x hx
 exact all r x hx
theorem V_ {kvs:List (List Key × V)} (ok:HOk P w H h) (e:H a=some (.dT kvs)):kvs.length ≤ sizeLine∧(a == sysModules)=false ∧
 ∃ xs,KT H kvs xs∧h.DictOfH (tupleKind (fu P w)) a xs:=zG ok (.inl e)
end
def yE (H:Hp) (a:Addr) (y:V) (r:Option V):Prop :=
 (∃ kvs k,Rd H a (.dK kvs)∧y=kV k∧r=nj kvs k)∨∃ kvs k b,Rd H a (.dT kvs)∧y = .ref b∧H b=some (.tup (k.map kV))∧r=nj kvs k
def Ij (H:Hp) (a:Addr) (y v:V) (H':Hp):Prop :=
 (∃ kvs k,H a=some (.dK kvs)∧y=kV k∧kvs.length < sizeLine∧H'=upd H a (.dK (putK kvs k v))) ∨
 ∃ kvs k b,H a=some (.dT kvs)∧y = .ref b∧H b=some (.tup (k.map kV))∧kvs.length < sizeLine∧H'=upd H a (.dT (putK kvs k v))
theorem yE.t {H:Hp} {a b:Addr} {kvs:List (List Key × V)} {k:List Key} (e:H a=some (.dT kvs)) (eb:H b=some (.tup (k.map kV))):yE H a (.ref b) (nj kvs k):=.inr ⟨kvs,k,b,.inl e,rfl,eb,rfl⟩
theorem Ij.k {H:Hp} {a:Addr} {kvs:List (Key × V)} {k:Key} {v:V} (e:H a=some (.dK kvs)) (hl:kvs.length < sizeLine):Ij H a (kV k) v (upd H a (.dK (putK kvs k v))):=.inl ⟨kvs,k,e,rfl,hl,rfl⟩
theorem Ij.t {H:Hp} {a b:Addr} {kvs:List (List Key × V)} {k:List Key} {v:V} (e:H a=some (.dT kvs)) (eb:H b=some (.tup (k.map kV))) (hl:kvs.length < sizeLine) :
 Ij H a (.ref b) v (upd H a (.dT (putK kvs k v))):=.inr ⟨kvs,k,b,e,rfl,eb,hl,rfl⟩
section
variable {X:Cx} {pins:List (Addr × Obj)} {σ:St} {H:Hp} {s:Shared} {a:Addr} {y v:V} {u r:Value} {o:Option V} {A:Around} {E:Value→Shared→Prop}
theorem Inv.big (I:Inv X pins σ H s):sysModules < s.heap.objs.size:=by
 have h:=(I.mod.glob.keeps I.bk).lt;exact jQ (by decide) h
theorem Ik {Q:Value→Shared→Prop} (hu:A.units + 1 < cLine) (I:Inv X pins σ H s) (g:yE H a y (some v)) (ry:RelV y u) (h:∀ w' s',Inv X pins σ H s'→RelV v w'→Q w' s') :
 wpAny (model X.prog X.w) A (getItem (.ref a) u) Q E s:=by
 rcases g with ⟨kvs,k,e,ey,l⟩ | ⟨kvs,k,b,e,ey,eb,l⟩
 ·subst ey;obtain ⟨z,hd,vs,rel,dd⟩:=vq I.hok e;obtain ⟨w',hw,rw'⟩:=uD.some_of (v:=v) (o:=valueAt vs k) (by rw [l];exact rel.val k);exact wpAny_getItem_of (w6 ry) dd.mapOf hw (h w' _ (I.tok _) rw')
 ·subst ey
  cases (show u=Value.ref b from ry);obtain ⟨z,hd,xs,rel,dd⟩:=zG I.hok e;obtain ⟨w',hw,rw'⟩:=uD.some_of (v:=v) (o:=(atKey xs k).map (·.2)) (by rw [l];exact rel.val k);obtain ⟨p,hp,hp2⟩:=Option.map_eq_some_iff.mp hw;refine wpAny_getItem_heap (aS hu) (xg I.hok eb) dd hp ?_;rw [hp2];exact h w' _ (I.tok _) rw'
theorem Wa {Q:Value→Shared→Prop} (hu:A.units + 1 < cLine) (I:Inv X pins σ H s) (g:yE H a y o) (ry:RelV y u) (h:∀ s',Inv X pins σ H s'→Q (.bool o.isSome) s') :
 wpAny (model X.prog X.w) A (compareOp .In u (.ref a)) Q E s:=by
 rcases g with ⟨kvs,k,e,ey,l⟩ | ⟨kvs,k,b,e,ey,eb,l⟩
 ·subst ey;obtain ⟨z,hd,vs,rel,dd⟩:=vq I.hok e;refine wpAny_in_of (w6 ry) hd dd.mapOf ?_;rw [← (rel.val k).isSome_eq,← l];exact h _ (I.tok _)
 ·subst ey
  cases (show u=Value.ref b from ry);obtain ⟨z,hd,xs,rel,dd⟩:=zG I.hok e;refine wpAny_in_heap (aS hu) (xg I.hok eb) hd dd ?_;have q:=(rel.val k).isSome_eq;rw [kW] at q;rw [← q,← l];exact h _ (I.tok _)
theorem Om {Q:Value→Shared→Prop} (hu:A.units + 1 < cLine) (I:Inv X pins σ H s) (g:yE H a y o) (ry:RelV y u) (h:∀ s',Inv X pins σ H s'→Q (.bool (!o.isSome)) s') :
 wpAny (model X.prog X.w) A (compareOp .NotIn u (.ref a)) Q E s:=by
 rcases g with ⟨kvs,k,e,ey,l⟩ | ⟨kvs,k,b,e,ey,eb,l⟩
 ·subst ey;obtain ⟨z,hd,vs,rel,dd⟩:=vq I.hok e;refine wpAny_notIn_of (w6 ry) hd dd.mapOf ?_;rw [← (rel.val k).isSome_eq,← l];exact h _ (I.tok _)
 ·subst ey
  cases (show u=Value.ref b from ry);obtain ⟨z,hd,xs,rel,dd⟩:=zG I.hok e;refine wpAny_notIn_heap (aS hu) (xg I.hok eb) hd dd ?_;have q:=(rel.val k).isSome_eq;rw [kW] at q;rw [← q,← l];exact h _ (I.tok _)
theorem vW {h':Heap} {t':Nat} {ob:HO} (I:Inv X pins σ H s) (mu:Mut (H a)) (hs:Heap.SameBut a s.heap h') (he:∃ q,h'.get? a=some q) (new:iz X.prog X.w (upd H a ob) h' a ob) :
 Inv X pins σ (upd H a ob) { s with heap:=h',toks:=t' } :=
 I.write (x:=a) (e:=a) mu (.inl rfl) (fun b q hb z=>(hs.2 b hb).trans z) he new
theorem Et {P:Program} {w:World} {H':Hp} {h':Heap} {kvs:List (Key × V)} {vs:List (Key × Value)} (z:kvs.length ≤ sizeLine) (hd:(a == sysModules)=false) (rel:KV kvs vs) (dd:h'.DictOf (fu P w) a vs) :
 iz P w H' h' a (.dK kvs):=⟨z,hd,vs,rel,dd⟩
theorem Il {H':Hp} {Q:Unit→Shared→Prop} (hu:A.units + 1 < cLine) (I:Inv X pins σ H s) (g:Ij H a y v H') (ry:RelV y u) (rv:RelV v r) (h:∀ s',Inv X pins σ H' s'→Q () s') :
 wpAny (model X.prog X.w) A (setItem (.ref a) u r) Q E s:=by
 rcases g with ⟨kvs,k,e,ey,l,eH⟩ | ⟨kvs,k,b,e,ey,eb,l,eH⟩
 ·subst ey eH;obtain ⟨z,hd,vs,rel,dd⟩:=Kw I.hok e;have hz:vs.length ≤ sizeLine:=by rwa [← rel.length]
  have hl:(putK kvs k v).length ≤ sizeLine:=by have:=rR kvs k v;omega
  refine wpAny_setItem_pairs (hsz:=hz) (w6 ry) dd fun h' dd' hs=>h _ ?_
  have he:∃ q,h'.get? a=some q:=let ⟨q,_,_,hq,_⟩:=dd';⟨q,hq⟩;exact vW I (by rw [e];exact True.intro) hs he (Et hl hd (rel.put k rv) dd')
 ·subst ey eH
  cases (show u=Value.ref b from ry);obtain ⟨z,hd,xs,rel,dd⟩:=V_ I.hok e;have hz:xs.length ≤ sizeLine:=by rwa [← Paired.length rel]
  have hl:(putK kvs k v).length ≤ sizeLine:=by have:=rR kvs k v;omega
  refine wpAny_setItem_heap (hsz:=hz) (aS hu) (xg I.hok eb) dd fun h' dd' hs=>h _ ?_
  obtain ⟨q,es,ep,hq,h2,h3,h4,_,h5⟩:=dd';refine vW I (by rw [e];exact True.intro) hs ⟨q,hq⟩ ⟨hl,hd,_,(rel.put k eb rv).keeps fun c ys ec=>?_,q,es,ep,hq,h2,h3,h4,h5⟩;rwa [cJ (FZ ec e (fun z=>nomatch z))]
end
section
variable {X:Cx} {pins:List (Addr × Obj)} {σ:St} {H:Hp} {s:Shared} {a:Addr} {kvs:List (Key × V)} {k:Key} {u:Value} {A:Around} {E:Value→Shared→Prop}
end
def Tg (i:Expr):Prop:=∀ ov iv,subscripted i false ov iv=operate [ov,iv] (getItem ov iv)
theorem Oo {prog:Program} {w:World} {A:Around} {E:Value→Shared→Prop} {s:Shared} {env:Env} {value slice:Expr} {pos:Pos} {T id:String} {Q:Value→Shared→Prop}
 (hl:typeLookup (.type T) "__getitem__" = pure (some (.builtin id))) (hs:Tg slice)
 (h:wpAny (model prog w) A (eval value env) (fun o s₁=>wpAny (model prog w) A (eval slice env) (fun i s₂=>s₂.TypeIs o T∧wpAny (model prog w) A (getItem o i) Q E s₂) E s₁) E s) :
 wpAny (model prog w) A (eval (.Subscript value slice pos) env) Q E s:=by
 refine bg (av h (fun o s₁ h₁=>av h₁ (fun i s₂ h₂=>?_) fun _ _ x=>x) fun _ _ x=>x);obtain ⟨hT,h₂⟩:=h₂;refine ae ?_;rw [getitemInPython_of_ne hT.not_modules];refine ae (wpAny_specialOf hT hl ?_);have fin:wpAny (model prog w) A (subscripted slice false o i) (fun r s₃=>wpAny (model prog w) A (letTemporaryGo value o r >>= fun _=>pure r) Q E s₃) E s₂:=by
  rw [hs o i];exact wpAny_operating (av h₂ (fun r s₃ h₃=>ae (wpAny_letTemporaryGo (ah h₃))) fun _ _ x=>x)
 first
  | exact ah (ae fin)
  | exact ae (ah (ae fin))
  | exact ae fin
theorem Cz {X:Cx} {pins:List (Addr × Obj)} {σ:St} {H:Hp} {s:Shared} {a:Addr} {y:V} {o:Option V} (I:Inv X pins σ H s) (g:yE H a y o):s.TypeIs (.ref a) "dict" := by
 rcases g with ⟨kvs,k,e,_,_⟩ | ⟨kvs,k,b,e,_,_,_⟩
 ·obtain ⟨_,_,vs,_,dd⟩:=vq I.hok e;exact dd.typeIs
 ·obtain ⟨_,_,xs,_,dd⟩:=zG I.hok e;exact dd.typeIs
def Wb (td ty:TE):TE:=fun σ H Q=>td σ H fun x H1=>ty σ H1 fun y H2=>∃ a v,x = .ref a∧yE H2 a y (some v)∧Q v H2
section
variable {X:Cx} {o i e value:Expr} {pos pos' tpos:Pos} {td ty tv:TE}
theorem Oq (hu:X.A.units + 1 < cLine) (ho:PE X o td) (hi:PE X i ty) (hs:Tg i):PE X (.Subscript o i pos) (Wb td ty):=by
 intro pins s σ H Q I h;refine Oo PySem.F.slot_dict_getitem.lookup hs (thn (ho pins s σ H _ I h) fun u s1 ⟨x,H1,I1,rx,q1⟩=>thn (hi pins s1 σ H1 _ I1 q1) fun iv s2 ⟨y,H2,I2,ry,a,v,ex,g,q2⟩=>?_);subst ex;obtain rfl:u=Value.ref a:=rx;exact ⟨Cz I2 g,Ik hu I2 g ry fun w' s3 I3 rw'=>⟨v,H2,I3,rw',q2⟩⟩
end
theorem wD {P:Program} {w:World} {H:Hp} (h:Heap) (hb:sysModules < h.objs.size):iz P w H (h.push { cls:=.type "dict", data:=.dict #[] }) h.objs.size (.dK []) :=
 ⟨iK _,beq_eq_false_iff_ne.mpr (Ne.symm (bW hb)),[],.nil,Heap.DictOf.new h⟩
section
variable {X:Cx} {pos:Pos}
end
def Eu:List (TE × TE)→St→Hp→(List (V × V)→Hp→Prop)→Prop
 | [],_,H,Q=>Q [] H
 | (tk,tv) :: r,σ,H,Q=>tk σ H fun x H1=>tv σ H1 fun y H2=>Eu r σ H2 fun ps H3=>Q ((x,y) :: ps) H3
abbrev VV:List (V × V)→List (Value × Value)→Prop:=Paired fun p q=>RelV p.1 q.1∧RelV p.2 q.2
def PPs (X:Cx) (pos:Pos) (keys:List (Option Expr)) (values:List Expr) (trs:List (TE × TE)):Prop :=
 ∀ (pins:List (Addr × Obj)) (s:Shared) (σ:St) (H:Hp) (Q:List (V × V)→Hp→Prop),Inv X pins σ H s→Eu trs σ H Q →
  wpAny (model X.prog X.w) X.A (evalPairs (pairTrees keys values X.env pos)) (fun vs s'=>∃ ps H',Inv X pins σ H' s'∧VV ps vs∧Q ps H') X.xe s
theorem Ot {X:Cx} {pos:Pos}:PPs X pos [] [] []:=fun pins s σ H Q I h=>pairTrees_nil_walk ⟨[],H,I,.nil,h⟩
theorem Ky {X:Cx} {pos:Pos} {k v:Expr} {ks:List (Option Expr)} {vs:List Expr} {tk tv:TE} {trs:List (TE × TE)} (hk:PE X k tk) (hv:PE X v tv) (hr:PPs X pos ks vs trs) :
 PPs X pos (some k :: ks) (v :: vs) ((tk,tv) :: trs):=fun pins s σ H Q I h =>
 pairTrees_cons_walk (thn (hk pins s σ H _ I h) fun u s1 ⟨x,H1,I1,rx,q1⟩=>thn (hv pins s1 σ H1 _ I1 q1) fun w2 s2 ⟨y,H2,I2,ry,q2⟩ =>
  thn (hr pins s2 σ H2 _ I2 q2) fun ws s3 ⟨ps,H3,I3,rel,q3⟩=>⟨(x,y) :: ps,H3,I3,.cons ⟨rx,ry⟩ rel,q3⟩)
def xq (kvs more:List (Key × V)):List (Key × V):=more.foldl (fun acc kv=>putK acc kv.1 kv.2) kvs
theorem KV.merge:∀ {more:List (Key × V)} {rs:List (Key × Value)} {kvs:List (Key × V)} {vs:List (Key × Value)},KV more rs→KV kvs vs→KV (xq kvs more) (merged vs rs):=by
 intro more rs kvs vs r
 induction r generalizing kvs vs with
 | nil=>intro q;exact q
 | @cons p q ps qs h t ih =>
  intro r0;have e:KV (putK kvs p.1 p.2) (stored vs q.1 q.2):=by
   have:=r0.put p.1 h.2;rwa [← h.1]
  exact ih e
theorem sX:∀ (more kvs:List (Key × V)),(xq kvs more).length ≤ kvs.length + more.length
 | [],kvs=>by show kvs.length ≤ kvs.length + 0;omega
 | p :: r,kvs=>by
  have h1:=sX r (putK kvs p.1 p.2);have h2:=rR kvs p.1 p.2;show (xq (putK kvs p.1 p.2) r).length ≤ _;rw [bH];omega
theorem xr {P:Program} {w:World}:∀ {kvs:List (Key × V)} {ws:List (Value × Value)},VV (kvs.map fun kv=>(kV kv.1,kv.2)) ws→∃ rs,Carries (fu P w) ws rs∧KV kvs rs
 | [],_,r=>by rw [pQ] at r;cases r;exact ⟨[],True.intro,.nil⟩
 | p :: kvs,_,r=>by
  rw [bJ] at r
  cases r with
  | @cons a b as bs h t =>
   obtain ⟨rs,c,q⟩:=xr (P:=P) (w:=w) t;obtain ⟨b1,b2⟩:=b;exact ⟨(p.1,b2) :: rs,⟨w6 h.1,rfl,c⟩,.cons ⟨rfl,h.2⟩ q⟩
def Wc (trs:List (TE × TE)):TE:=fun σ H Q=>∀ p,H p=none→Eu trs σ (upd H p (.dK [])) fun ps H2=>H2 p=some (.dK [])∧∃ kvs:List (Key × V),ps=kvs.map (fun kv=>(kV kv.1,kv.2))∧kvs.length ≤ 15∧Q (.ref p) (upd H2 p (.dK (xq [] kvs)))
theorem Ou {X:Cx} {pos:Pos} {keys:List (Option Expr)} {values:List Expr} {trs:List (TE × TE)} (h:PPs X pos keys values trs) (hall:keys.all (·.isSome)=true) (hl:keys.length=values.length) (h0:keys ≠ [])
 (h15:keys.length ≤ 15):PE X (.Dict keys values pos) (Wc trs):=by
 intro pins s σ H Q I q;have hn:=I.hok.fresh (bB s.heap.objs.size);have I1:=I.laid (a:=s.heap.objs.size) (o:=.dK []) (h':=s.heap.push { cls:=.type "dict", data:=.dict #[] }) (t':=s.toks) (fun _ _ q=>ac _ q) (bB _) (wD s.heap I.big);refine wpAny_Dict_walk (knd:=fu X.prog X.w) hall hl h0 h15 (thn (h pins _ σ _ _ I1 (q _ hn)) fun ws s2 ⟨ps,H2,I2,rel,e,kvs,ep,lk,q2⟩=>?_);subst ep;obtain ⟨rs,c,rk⟩:=xr (P:=X.prog) (w:=X.w) rel;obtain ⟨z,hd,vs0,r0,dd⟩:=Kw I2.hok e
 cases r0;refine ⟨rs,c,dd,fun h' dd' hs=>⟨.ref s.heap.objs.size,_,?_,rfl,q2⟩⟩;have hz:(xq [] kvs).length ≤ sizeLine:=by
  have h1:=sX kvs [];rw [jz] at h1;rw [sizeLine_eq];omega
 have he:∃ q,h'.get? s.heap.objs.size=some q:=let ⟨q,_,_,hq,_⟩:=dd';⟨q,hq⟩;exact vW I2 (by rw [e];exact True.intro) hs he (Et hz hd (rk.merge .nil) dd')
structure M1 (X:Cx) (o:Expr) (m:Str) (apos:Pos) (e:Expr) (cpos:Pos):Prop where
 base:attributeBase o m X.env (eval o X.env)=eval o X.env
 few:((backTo cpos (starEach [e] X.env)).all (fun x=>!x.1) && (backToKw cpos (keywordEach [] X.env)).all (fun x=>x.1.isSome)
  && decide (([e]:List Expr).length + ([]:List Keyword).length + (if ([]:List Keyword).isEmpty then 0 else 1) < 30))=true
 line:(apos.endLine == cpos.line)=true
 trees:backTo cpos (starEach [e] X.env)=[(false,eval e X.env)]
structure M2 (X:Cx) (o:Expr) (m:Str) (apos:Pos) (e f:Expr) (cpos:Pos):Prop where
 base:attributeBase o m X.env (eval o X.env)=eval o X.env
 few:((backTo cpos (starEach [e,f] X.env)).all (fun x=>!x.1) && (backToKw cpos (keywordEach [] X.env)).all (fun x=>x.1.isSome)
  && decide (([e,f]:List Expr).length + ([]:List Keyword).length + (if ([]:List Keyword).isEmpty then 0 else 1) < 30))=true
 line:(apos.endLine == cpos.line)=true
 trees:backTo cpos (starEach [e,f] X.env)=[(false,eval e X.env),(false,eval f X.env)]
def IsD (H:Hp) (a:Addr):Prop:=(∃ kvs,Rd H a (.dK kvs))∨∃ kvs,Rd H a (.dT kvs)
theorem Ti {X:Cx} {pins:List (Addr × Obj)} {σ:St} {H:Hp} {s:Shared} {a:Addr} (I:Inv X pins σ H s) (d:IsD H a) :
 s.TypeIs (.ref a) "dict" ∧ (∀ b,Value.ref a = .ref b→∃ ob,s.heap.get? b=some ob∧ob.dict=none)∧(a == sysModules)=false:=by
 rcases d with ⟨kvs,e⟩ | ⟨kvs,e⟩
 ·obtain ⟨_,hd,vs,_,dd⟩:=vq I.hok e;refine ⟨dd.typeIs,fun b q=>?_,hd⟩
  cases q;obtain ⟨ob,_,_,h1,h2,_⟩:=dd;exact ⟨ob,h1,h2.2.1⟩
 ·obtain ⟨_,hd,xs,_,dd⟩:=zG I.hok e;refine ⟨dd.typeIs,fun b q=>?_,hd⟩
  cases q;obtain ⟨ob,_,_,h1,h2,_⟩:=dd;exact ⟨ob,h1,h2.2.1⟩
section
variable {X:Cx} {pins:List (Addr × Obj)} {σ:St} {H:Hp} {s:Shared} {a:Addr} {y d:V} {u r:Value} {o:Option V} {A:Around} {E:Value→Shared→Prop}
end
section
variable {X:Cx} {o e f:Expr} {apos cpos:Pos} {td ty tx:TE}
end
section
variable {X:Cx} {pins:List (Addr × Obj)} {σ:St} {H:Hp} {s:Shared} {a:Addr} {kvs:List (Key × V)} {A:Around} {E:Value→Shared→Prop}
end
section
variable {X:Cx} {pins:List (Addr × Obj)} {σ:St} {H:Hp} {s:Shared} {a:Addr} {y:V} {u:Value} {A:Around} {E:Value→Shared→Prop}
end
section
variable {κ:Type} [DecidableEq κ]
end
end L2
namespace XK
open PySem PySem.Spec PyProof.Rows L2 My D3
section
variable {K:PySem.W.Frag} {H:Hp}
theorem Ov {H H':Hp} {a:Addr} {u:HO} (s:Same H H') (h:L2.Rd H a u):L2.Rd H' a u:=by
 rcases h with h | ⟨o,h⟩
 ·exact .inl (s _ _ h)
 ·exact .inr ⟨o,s _ _ h⟩
end
section
variable {X:Cx} {fl:List Fl} {e a b c ke:Expr} {f fa fb fc fk:FE} {pos:Pos}
def Wf:R2:=fun x y H Q=>∃ p o,y = .ref p∧yE H p x o∧Q (.bl o.isSome) H
def GD:R2:=fun x y H Q=>∃ p o,y = .ref p∧yE H p x o∧Q (.bl (!o.isSome)) H
theorem Tj (hu:X.A.units + 64 < cLine):OpR X (compareOp .In) Wf:=by
 intro pins s σ H x y v u Q I rx ry h;obtain ⟨p,o,rfl,g,q⟩:=h;obtain rfl:u=Value.ref p:=ry;exact Wa (by omega) I g rx fun s' I'=>⟨.bl o.isSome,H,I',rfl,q⟩
theorem Im (hu:X.A.units + 64 < cLine):OpR X (compareOp .NotIn) GD:=by
 intro pins s σ H x y v u Q I rx ry h;obtain ⟨p,o,rfl,g,q⟩:=h;obtain rfl:u=Value.ref p:=ry;exact Om (by omega) I g rx fun s' I'=>⟨.bl (!o.isSome),H,I',rfl,q⟩
theorem GF:∀ (l:List Value) (ns:List Int),l.length=ns.length→(∀ (j:Nat) (v:Value),l[j]? = some v→∃ n t,ns[j]? = some n∧v=Value.int n t)→IntsAre l ns
 | [],[],_,_=>.nil
 | [],_ :: _,h,_=>by simp at h
 | _ :: _,[],h,_=>by simp at h
 | v :: l,n :: ns,h,g=>by
  obtain ⟨n',t,e1,e2⟩:=g 0 v rfl
  cases e1;subst e2;exact .cons _ _ (GF l ns (by simpa using h) fun j v hv=>by simpa using g (j + 1) v (by simpa using hv))
end
end XK
namespace XK
open PySem PySem.Spec PyProof.Rows L2 My D3
theorem hu1 {n:Nat} (h:n + 64 < cLine):n + 1 < cLine:=by omega
section
variable {K:PySem.W.Frag} {fl:List Fl}
end
def Wg:V→V→V→Hp→(Hp→Prop)→Prop:=fun o i v H Q=>∃ p kvs k,o = .ref p∧i=kV k∧H p=some (.dK kvs)∧kvs.length < sizeLine∧Q (upd H p (.dK (putK kvs k v)))
section
variable {X:Cx} {fl:List Fl} {e a b c ke:Expr} {f fa fb fc fk:FE} {pos:Pos}
theorem Kz (hu:X.A.units + 1 < cLine):RD X Wg:=by
 intro pins s σ H o i v ov iv u Q I ro ri rv h;obtain ⟨p,kvs,k,rfl,rfl,hp,hl,q⟩:=h
 cases ro;exact Il hu I (Ij.k hp hl) ri rv fun s' I'=>⟨_,I',q⟩
end
end XK
namespace XB
open PySem PySem.Spec PyProof.Rows L2 My D3 XK
def nIs:Option Key→Value→Bool
 | none,.none=>true
 | none,_=>false
 | some k,v=>pC k v
def nH (w:World):Option Key→Int
 | none=>0xFCA86420
 | some k=>Vi w k
theorem mJ {v:Value} (h:nIs none v=true):v = .none:=by
 cases v <;> first | rfl | cases h
theorem Io {P:Program} {w:World} {A:Around} {E:Value→Shared→Prop} {s:Shared} {Q:Int→Shared→Prop} (h:Q 0xFCA86420 { s with toks:=s.toks + 1 }):wpAny (model P w) A (pyHash .none) Q E s :=
 PySem.W.pyHash_slot (T := "NoneType") rfl F.slot_NoneType_hash F.entry_NoneType_hash (F.args_NoneType_hash_1 _) (beq_builtin_none _) (.inl rfl) (ae (ah (ae (wpAny_mkInt (ah ⟨_,_,rfl,h⟩)))))
theorem Ox {P:Program} {w:World} {A:Around} {E:Value→Shared→Prop} {s:Shared} {Q:Bool→Shared→Prop} (h:Q true s):wpAny (model P w) A (eqBool .none .none) Q E s:=by
 refine a5 ?_;refine wpAny_ite_split (fun _=>ae (wpAny_rule (ah h))) (fun z=>absurd rfl z)
def Q0 (P:Program) (w:World):PySem.KeyKind P w (Option Key) where
 is:=nIs
 hash:=nH w
 inj:=fun v a b ha hb=>by
  cases a with
  | none =>
   cases b with
   | none=>rfl
   | some k =>
    rw [mJ ha] at hb;rcases eG (show pC k .none=true from hb) with ⟨i,t,_,e⟩ | ⟨x,t,_,e⟩ <;> cases e
  | some k =>
   cases b with
   | none =>
    rw [mJ hb] at ha;rcases eG (show pC k .none=true from ha) with ⟨i,t,_,e⟩ | ⟨x,t,_,e⟩ <;> cases e
   | some l=>rw [(fu P w).inj v k l ha hb]
 byValue:=fun k v h=>by
  cases k with
  | none=>rw [mJ h];rfl
  | some k=>exact (fu P w).byValue k v h
 pyHash:=fun {A E s k v Q} h q=>by
  cases k with
  | none=>rw [mJ h];exact Io q
  | some k=>exact (fu P w).pyHash (k:=k) h q
 eqBool:=fun {A E s a b u v Q} ha hb q=>by
  cases a with
  | none =>
   rw [mJ ha]
   cases b with
   | none=>rw [mJ hb];exact Ox q
   | some k =>
    rcases eG (show pC k v=true from hb) with ⟨i,t,_,rfl⟩ | ⟨x,t,_,rfl⟩
    ·exact PySem.SeqAt.EqAt.none_int i t P w E Q q
    ·exact PySem.SeqAt.EqAt.none_str x t P w E Q q
  | some k =>
   cases b with
   | none =>
    rw [mJ hb];rcases eG (show pC k u=true from ha) with ⟨i,t,_,rfl⟩ | ⟨x,t,_,rfl⟩
    ·exact PySem.SeqAt.EqAt.int_none i t P w E Q q
    ·exact PySem.SeqAt.EqAt.str_none x t P w E Q q
   | some l =>
    have e:decide (some k=some l)=decide (k=l):=by simp
    exact (fu P w).eqBool (a:=k) (b:=l) ha hb (e ▸ q)
 «strs»:=fun k x t v h=>by
  cases k with
  | none=>cases h
  | some k=>exact (fu P w).«strs» k x t v h
theorem map_none {P:Program} {w:World} {h:Heap} {a:Addr} {vs:List (Key × Value)} (d:h.DictOf (fu P w) a vs):h.MapOf (Q0 P w) a fun k=>match k with | none=>none | some k=>valueAt vs k:=by
 obtain ⟨o,es,ep,h1,h2,h3,h4,h5⟩:=d.mapOf;refine ⟨o,es,ep,h1,h2,h3,fun e he=>?_,fun k=>?_⟩
 ·obtain ⟨k,k1,k2⟩:=h4 e he;exact ⟨some k,k1,k2⟩
 ·cases k with
  | some k=>exact h5 k
  | none =>
   unfold findBy;rw [Option.map_eq_none_iff,Array.find?_eq_none];intro e he z;obtain ⟨k,k1,_⟩:=h4 e he;rw [mJ z] at k1;rcases eG (show pC k .none=true from k1) with ⟨i,t,_,e⟩ | ⟨x,t,_,e⟩ <;> cases e
theorem Ip {X:Cx} {pins:List (Addr × Obj)} {σ:L2.St} {H:Hp} {s:Shared} {a:Addr} {kvs:List (Key × V)} {A:Around} {E:Value→Shared→Prop} {Q:Value→Shared→Prop} (I:Inv X pins σ H s) (g:Rd H a (.dK kvs)) (h:∀ s',Inv X pins σ H s'→Q (.bool false) s') :
 wpAny (model X.prog X.w) A (compareOp .In .none (.ref a)) Q E s:=by
 obtain ⟨z,hd,vs,rel,dd⟩:=vq I.hok g;exact wpAny_in_of (knd:=Q0 X.prog X.w) (k:=none) rfl hd (map_none dd) (h _ (I.tok _))
def dbI (S:List Int):List (Key × V):=S.map fun i=>(.inl i,.bl true)
def Wh:R2:=fun x y H Q=>∃ p kvs,y = .ref p∧Rd H p (.dK kvs)∧((x = .non∧Q (.bl false) H)∨∃ k,x=kV k∧Q (.bl (nj kvs k).isSome) H)
theorem Tp {X:Cx} (hu:X.A.units + 64 < cLine):OpR X (compareOp .In) Wh:=by
 intro pins s σ H x y v u Q I rx ry h;obtain ⟨p,kvs,rfl,g,h⟩:=h;obtain rfl:u=Value.ref p:=ry;rcases h with ⟨rfl,q⟩ | ⟨k,rfl,q⟩
 ·obtain rfl:v=Value.none:=rx;exact Ip I g fun s' I'=>⟨.bl false,H,I',rfl,q⟩
 ·exact Wa (by omega) I (.inl ⟨kvs,k,g,rfl,rfl⟩) rx fun s' I'=>⟨.bl (nj kvs k).isSome,H,I',rfl,q⟩
theorem KC:∀ {kvs:List (D × D)} {S:List Int},bsD kvs=some S→dk0 kvs=dbI S
 | [],S,h=>by cases h;rfl
 | (a,b) :: r,S,h=>by
  unfold bsD at h;split at h
  ·next e=>cases e
  ·next i r' e =>
   cases e
   cases e3:bsD r with
   | none=>rw [e3] at h;cases h
   | some S' =>
    rw [e3] at h
    cases h;rw [dk0,KC e3];rfl
  ·cases h
theorem Ad:∀ {kvs:List (D × D)} {S:List Int},bsD kvs=some S→Ef kvs=true
 | [],_,_=>rfl
 | (a,b) :: r,S,h=>by
  unfold bsD at h;split at h
  ·next e=>cases e
  ·next e =>
   cases e
   cases e3:bsD r with
   | none=>rw [e3] at h;cases h
   | some S=>exact (show Ef r=true from Ad e3)
  ·cases h
theorem Ew {kvs:List (D × D)} {S:List Int} (h:bsD kvs=some S):dh0 kvs = .dK (dbI S):=by
 rw [← KC h]
 cases kvs with
 | nil=>rfl
 | cons q r =>
  obtain ⟨k,v⟩:=q
  cases k with
  | int i=>rfl
  | _=>unfold bsD at h;cases h
theorem Oz {K:PySem.W.Frag} {ok:Ok} {pl:Bool} {H:Hp} {v:V} {x:D} {S:List Int} (e:Ih x=some S) (r:RA K ok pl H v x):∃ a,v = .ref a∧L2.Rd H a (.dK (dbI S)):=by
 cases x with
 | dict kvs =>
  obtain ⟨a,rfl,h⟩:=r.dicE (Ad e);rw [Ew e] at h;exact ⟨a,rfl,h⟩
 | _=>cases e
theorem KD:∀ (S:List Int) (i:Int),(nj (dbI S) (Sum.inl i)).isSome=decide (i ∈ S)
 | [],i=>rfl
 | q :: S,i=>by
  unfold dbI;rw [bJ];by_cases h:q=i
  ·subst h;rw [rP rfl];simp
  ·rw [rQ (fun z=>h (by injection z))];have:=KD S i;unfold dbI at this;rw [this];have h2:¬ i=q:=fun z=>h z.symm
   simp [h2]
theorem Tq (S:List Int) (i:Int):putK (dbI S) (Sum.inl i) (.bl true)=dbI (wW S i):=by
 unfold putK wW dbI;have e:((S.map fun i=>((Sum.inl i,V.bl true):Key × V)).any fun q=>decide (q.1=Sum.inl i))=decide (i ∈ S):=by
  induction S with
  | nil=>rfl
  | cons q S ih =>
   rw [bJ,mj,ih];by_cases h:q=i
   ·subst h;simp
   ·have h2:¬ i=q:=fun z=>h z.symm
    simp [h2,h]
 rw [e];by_cases h:i ∈ S
 ·rw [dTr h,if_pos rfl,if_pos h,dO];refine jd fun q _=>?_
  show (if (Sum.inl q:Key)=Sum.inl i then ((Sum.inl q:Key),V.bl true) else (Sum.inl q,V.bl true))=_;split <;> rfl
 ·rw [dFa h,if_neg dZ,if_neg h,cV];rfl
theorem Wi {K:PySem.W.Frag}:BrO K Wh yC:=by
 intro H x y dx dy d Q rx ry e q;refine D3.ex1 (bind1 e) fun S e4 e5=>?_
 obtain ⟨p,rfl,hp⟩:=Oz e4 ry;split at e5
 ·next i =>
  cases e5;obtain rfl:=RA.intE rx;refine ⟨p,_,rfl,hp,.inr ⟨.inl i,rfl,?_⟩⟩;rw [KD];exact q _ rfl (.bl _)
 ·cases e5;obtain rfl:=RA.nonE rx;exact ⟨p,_,rfl,hp,.inl ⟨rfl,q _ rfl (.bl _)⟩⟩
 ·cases e5
section
variable {K:PySem.W.Frag} {fl:List Fl}
theorem KH {G:Gh} {ow:Ow} {σ:L2.St} {H:Hp} {δ:DS} {i:Nat} {x:D} {S:List Int} (R:Rel K fl G ow σ H δ) (hfl:fl[i]? = some .N) (hx:aj i δ=some x) (hq:Ih x=some S) :
 ∃ a,σ[i]? = some (some (.ref a))∧H a=some (.dK (dbI S))∧∀ H',Same H H'→∀ S',∃ ow',Rel K fl G ow' σ (upd H' a (.dK (dbI S'))) (δ.set i (some (.d (dsB S')))):=by
 have e:=m7 hx;have hi:i < δ.length:=by
  rcases iM i δ.length with z | z
  ·exact z
  ·rw [bF z] at e;cases e
 obtain ⟨v,h1,h2,h3⟩:=R.nr i x (by rw [hfl];rfl) e;generalize hN:ow.n i=as at h2 h3
 cases h2 with
 | dic ha hg =>
  rename_i a u kvs;rw [hg.old (Ad hq)] at ha;have ha':=ha;rw [Ew hq] at ha';refine ⟨a,h1,ha',fun H' s S'=>?_⟩;refine (R.grow s).mutN (as:=[a]) hfl hi (by rw [hN];exact pB _) (s _ _ ha) h1 ?_ (fun b hb=>by rwa [hN]) (cF.mpr ⟨d_,.nil⟩);refine .dic dU (.inl ⟨Ad (GC S'),?_⟩);rw [Ew (GC S')]
 | non=>cases hq
 | bl _=>cases hq
 | int _=>cases hq
 | str _=>cases hq
 | lst _ _=>cases hq
 | tup _ _=>cases hq
end
section
variable {X:Cx} {fl:List Fl} {e a b c ke:Expr} {f fa fb fc fk:FE} {pos:Pos}
theorem OD (hu:X.A.units + 1 < cLine) {i:Nat} {x:Str} {vpos spos:Pos} (hfl:fl[i]? = some .N) (he:PE X e (tC (.bl true))) (hk:DE X fl .P ke fk) (hN:X.N[i]? = some x) (hv:Vis X.env.scope x:=by first | exact Or.inl rfl | exact Or.inr (Or.inl rfl) | exact Or.inr (Or.inr rfl)) (hd:(x == ("__debug__" : Str))=false:=by decide)
 (hcd:(x == ("__classdict__" : Str))=false:=by decide) (ha:∀ v,assign (.Subscript (.Name x vpos) ke spos) X.env v=(do
  let ov ← holding [v] (eval (.Name x vpos) X.env)
  let iv ← holding [v,ov] (eval ke X.env)
  standAt spos
  holding [v,ov,iv] (setItem ov iv v)
  release [v,ov,iv] []):=by intro _;rfl)
 (hs:swapsWithSole [.Subscript (.Name x vpos) ke spos] e pos.line X.env=pure false:=by rfl) (hw:swappedStores [.Subscript (.Name x vpos) ke spos] e X.env=pure none:=by rfl)
 (h1:(assignEach [.Subscript (.Name x vpos) ke spos] X.env).map (·.2)=[assign (.Subscript (.Name x vpos) ke spos) X.env]:=by rfl) :
 DS1 X fl (.Assign [.Subscript (.Name x vpos) ke spos] e pos) (Cw i fk) :=
 PS.imp (DN he (JH (oZ hN hv hd hcd) hk (Kz hu) ha) hs hw h1) fun Dn σ H h=>by
 refine D3.ex4 h fun G ow δ o R hf q=>?_
 refine D3.ex1 (bind1 hf) fun y e1 hf=>?_
 refine D3.ex1 (bind1 hf) fun z e2 hf=>?_
 refine D3.ex1 (bind1 hf) fun S e3 hf=>?_
 split at hf
 case h_2=>cases hf
 next k _ =>
 by_cases hc:S.length < 1000000
 case neg=>rw [if_neg hc] at hf;cases hf
 rw [if_pos hc] at hf
 cases hf;obtain ⟨p,h1,h2,h3⟩:=KH R hfl e1 e3;refine ⟨_,h1,G,ow,δ,_,R,e2,fun u H2 s2 r2=>?_⟩;obtain rfl:=RA.intE r2;obtain ⟨ow',R'⟩:=h3 H2 s2 (wW S k);refine ⟨p,dbI S,.inl k,rfl,rfl,s2 _ _ h2,by unfold dbI;rw [aD];exact jQ hc (by decide),?_⟩;rw [Tq];exact q ow' σ _ R'
end
end XB
namespace XD
open PySem PySem.Spec PyProof.Rows L2 My D3 XK
theorem GJ:∀ ds:List D,scD ds=scs ds
 | []=>rfl
 | .int _ :: r=>GJ r
 | .none :: r=>GJ r
 | .bool _ :: _=>rfl
 | .str _ :: _=>rfl
 | .list _ :: _=>rfl
 | .tuple _ :: _=>rfl
 | .dict _ :: _=>rfl
theorem Ey {K:PySem.W.Frag} {ok:Ok} {pl:Bool} {H:Hp}:∀ {ds:List D},scs ds=true→RAs K ok pl H (ds.map scV) ds
 | [],_=>.nil
 | .int i :: r,h=>.cons (.int i) (Ey h)
 | .none :: r,h=>.cons .non (Ey h)
theorem Ez {K:PySem.W.Frag} {ok:Ok} {pl:Bool} {H:Hp}:∀ {ds:List D} {xs:List V},scs ds=true→RAs K ok pl H xs ds→xs=ds.map scV
 | [],_,_,.nil=>rfl
 | .int i :: r,_ :: _,h,.cons a q=>by
  have h1:=RA.intE a;have h2:=Ez (show scs r=true from h) q;subst h1 h2;rfl
 | .none :: r,_ :: _,h,.cons a q=>by
  have h1:=RA.nonE a;have h2:=Ez (show scs r=true from h) q;subst h1 h2;rfl
theorem Ae:∀ {ds:List D},scs ds=true→flats ds=true
 | [],_=>rfl
 | .int i :: r,h=>by rw [flats,aW];exact ⟨rfl,Ae h⟩
 | .none :: r,h=>by rw [flats,aW];exact ⟨rfl,Ae h⟩
theorem OJ {d:D} (h:tvD d=true):flat d=true:=by
 cases d with
 | none=>rfl
 | tuple ds =>
  have:=Ae (show scs ds=true by rwa [← GJ]);simpa [flat] using this
 | _=>cases h
theorem Wj {K:PySem.W.Frag} {ok:Ok} {pl:Bool} {H:Hp} {v:V} {d:D} (t:TV H v d):RA K ok pl H v d:=by
 rcases t with ⟨rfl,rfl⟩ | ⟨b,ds,rfl,rfl,h1,h2⟩
 ·exact .non
 ·exact .tup h1 (Ey h2)
theorem Wk {K:PySem.W.Frag} {ok:Ok} {pl:Bool} {H:Hp} {v:V} {d:D} (h:tvD d=true) (r:RA K ok pl H v d):TV H v d:=by
 cases d with
 | none=>exact .inl ⟨RA.nonE r,rfl⟩
 | tuple ds =>
  have hs:scs ds=true:=by rwa [← GJ]
  obtain ⟨a,xs,rfl,h1,h2⟩:=r.tupE0;rw [Ez hs h2] at h1;exact .inr ⟨a,ds,rfl,rfl,h1,hs⟩
 | _=>cases h
theorem Q5 {H:Hp} {u:HO} {S:List (Int × D)} (g:DH H u (tvP S)) (h:tvA S=true):∃ ks,u = .dK ks∧TVs H ks (tvP S):=by
 rcases g with ⟨g1,g2⟩ | g | g
 ·cases S with
  | nil=>exact ⟨[],g2,.nil⟩
  | cons q S =>
   exfalso
   rw [tvA,oY,aW] at h;obtain ⟨i,d⟩:=q;have hd:=h.1
   cases d <;> first | (cases hd;done) | exact absurd g1 dZ
 ·exact g
 ·obtain ⟨k,ks,_,g⟩:=g
  cases S with
  | nil=>cases g
  | cons q S=>cases g
theorem vX {K:PySem.W.Frag} {ok:Ok} {pl:Bool} {H:Hp} {v:V} {x:D} {S:List (Int × D)} (e:vL x=some S) (r:RA K ok pl H v x):∃ a ks,v = .ref a∧L2.Rd H a (.dK ks)∧TVs H ks (tvP S):=by
 cases x with
 | dict kvs =>
  obtain ⟨h1,rfl⟩:=uf e;obtain ⟨a,u,rfl,h2,g⟩:=r.dicU;obtain ⟨ks,rfl,t⟩:=Q5 g h1;exact ⟨a,ks,rfl,h2,t⟩
 | _=>cases e
theorem Af {H:Hp}:∀ {S:List (Int × D)} {ks:List (Key × V)} (i:Int),TVs H ks (tvP S)→(eO S i=none∧nj ks (Sum.inl i)=none)∨∃ d v,eO S i=some d∧nj ks (Sum.inl i)=some v∧TV H v d
 | [],_,i,h=>by cases h;exact .inl ⟨rfl,rfl⟩
 | q :: S,_,i,h=>by
  cases h with
  | cons t r =>
   rename_i v r0;by_cases e:q.1=i
   ·refine .inr ⟨q.2,v,?_,rP (by rw [e]),t⟩;simp [eO,e]
   ·rw [rQ (fun z=>e (by injection z))];have:eO (q :: S) i=eO S i:=by simp [eO,e]
    rw [this];exact Af i r
theorem CG {H:Hp} {v:V} {d:D} {k:Int} (t:TV H v d):∀ {S:List (Int × D)} {ks:List (Key × V)},TVs H ks (tvP S)→TVs H (ks++[(.inl k,v)]) (tvP (S++[(k,d)]))
 | [],_,h=>by cases h;exact .cons t .nil
 | q :: S,_,h=>by
  cases h with
  | cons t' r=>exact .cons t' (CG t r)
theorem Ag {H:Hp} {a:Addr} {S:List (Int × D)} {ks:List (Key × V)} (i:Int) (h:L2.Rd H a (.dK ks)) (t:TVs H ks (tvP S)):∃ o,yE H a (.int i) o∧o.isSome=(eO S i).isSome∧∀ d,eO S i=some d→∃ v,o=some v∧TV H v d:=by
 rcases Af i t with ⟨h1,h2⟩ | ⟨d,v,h1,h2,h3⟩
 ·exact ⟨none,.inl ⟨ks,.inl i,h,rfl,h2.symm⟩,by rw [h1];rfl,fun d z=>by rw [h1] at z;cases z⟩
 ·exact ⟨some v,.inl ⟨ks,.inl i,h,rfl,h2.symm⟩,by rw [h1];rfl,fun d' z=>by rw [h1] at z;cases z;exact ⟨v,rfl,h3⟩⟩
theorem Tr {K:PySem.W.Frag}:BrO K Wf Cy:=by
 intro H x y dx dy d Q rx ry e q;refine D3.ex1 (bind1 e) fun S e4 e5=>?_
 obtain ⟨p,ks,rfl,hp,t⟩:=vX e4 ry;split at e5
 ·next i =>
  cases e5;obtain rfl:=RA.intE rx;obtain ⟨o,g1,g2,_⟩:=Ag i hp t;refine ⟨p,o,rfl,g1,?_⟩;rw [g2];exact q _ rfl (.bl _)
 ·cases e5
theorem Ir {K:PySem.W.Frag}:BrO K GD ud:=by
 intro H x y dx dy d Q rx ry e q;refine D3.ex1 (bind1 e) fun S e4 e5=>?_
 obtain ⟨p,ks,rfl,hp,t⟩:=vX e4 ry;split at e5
 ·next i =>
  cases e5;obtain rfl:=RA.intE rx;obtain ⟨o,g1,g2,_⟩:=Ag i hp t;refine ⟨p,o,rfl,g1,?_⟩;rw [g2];exact q _ rfl (.bl _)
 ·cases e5
section
variable {X:Cx} {fl:List Fl} {e a b c ke ve:Expr} {f fa fb fc fk fv:FE} {pos:Pos}
theorem Tt {S:List (Int × D)} {i:Int} {d:D} (h:tvA S=true) (e:eO S i=some d):tvD d=true:=by
 unfold eO at e
 cases e1:S.find? fun q=>decide (q.1=i) with
 | none=>rw [e1] at e;cases e
 | some q =>
  rw [e1] at e
  cases e;exact jR.mp h q (oh e1)
theorem xu (hu:X.A.units + 1 < cLine) (ha:DE X fl .P a fa) (hb:DE X fl .P b fb) (hs:Tg b):DE X fl .FC (.Subscript a b pos) (dOp qp fa fb):=PE.imp (Oq hu ha hb hs) fun σ H Q h=>by
 refine D3.ex4 h fun G ow δ d R hf q=>?_
 refine D3.ex2 (B_ hf) fun x y e1 e2 e3=>?_
 refine ⟨G,ow,δ,x,R,e1,fun v H1 s1 r1=>⟨G,ow,δ,y,R.grow s1,e2,fun u H2 s2 r2=>?_⟩⟩;refine D3.ex1 (bind1 e3) fun S e4 e5=>?_
 obtain ⟨p,ks,rfl,hp,t⟩:=vX e4 r1;split at e5
 ·next i =>
  obtain rfl:=RA.intE r2;obtain ⟨o,g1,g2,g3⟩:=Ag i (Ov s2 hp) (t.imp fun _ _ z=>jT.same s2 z);obtain ⟨w,rfl,tw⟩:=g3 d e5;have hA:tvA S=true:=by
   cases x with
   | dict kvs=>exact (uf e4).1
   | _=>cases e4
  exact ⟨p,w,rfl,g1,q _ H2 (s1.trans s2) (.inl ⟨OJ (Tt hA e5),Wj tw⟩)⟩
 ·cases e5
end
section
variable {K:PySem.W.Frag} {fl:List Fl}
theorem Tv {G:Gh} {ow:Ow} {σ:L2.St} {H:Hp} {δ:DS} {i:Nat} {x:D} {S:List (Int × D)} (R:Rel K fl G ow σ H δ) (hfl:fl[i]? = some .N) (hx:aj i δ=some x) (hq:vL x=some S) :
 ∃ a ks,σ[i]? = some (some (.ref a))∧H a=some (.dK ks)∧TVs H ks (tvP S)∧∀ H',Same H H'→∀ ks' S',TVs H' ks' (tvP S')→∃ ow',Rel K fl G ow' σ (upd H' a (.dK ks')) (δ.set i (some (.d (dtv S')))):=by
 have e:=m7 hx;have hi:i < δ.length:=by
  rcases iM i δ.length with z | z
  ·exact z
  ·rw [bF z] at e;cases e
 obtain ⟨v,h1,h2,h3⟩:=R.nr i x (by rw [hfl];rfl) e;generalize hN:ow.n i=as at h2 h3
 cases h2 with
 | dic ha hg =>
  rename_i a u kvs;obtain ⟨hA,rfl⟩:=uf hq;obtain ⟨ks,rfl,t⟩:=Q5 hg hA;refine ⟨a,ks,h1,ha,t,fun H' s ks' S' t'=>?_⟩;refine (R.grow s).mutN (as:=[a]) hfl hi (by rw [hN];exact pB _) (s _ _ ha) h1 ?_ (fun b hb=>by rwa [hN]) (cF.mpr ⟨d_,.nil⟩);exact .dic dU (.inr (.inl ⟨ks',rfl,t'.imp fun _ _ z=>jT.upd (s _ _ ha) z⟩))
 | non=>cases hq
 | bl _=>cases hq
 | int _=>cases hq
 | str _=>cases hq
 | lst _ _=>cases hq
 | tup _ _=>cases hq
end
section
variable {X:Cx} {pins:List (Addr × Obj)} {σ:L2.St} {H:Hp} {s:Shared} {a:Addr} {kvs:List (Key × V)} {k:Key} {z:V} {u r:Value} {A:Around} {E:Value→Shared→Prop}
theorem KJ {Q:Value→Shared→Prop} (I:L2.Inv X pins σ H s) (e:H a=some (.dK kvs)) (hl:kvs.length < sizeLine) (ry:RelV (kV k) u) (rz:RelV z r)
 (h1:∀ v w' s',nj kvs k=some v→L2.Inv X pins σ H s'→RelV v w'→Q w' s') (h2:∀ s',nj kvs k=none→L2.Inv X pins σ (upd H a (.dK (kvs++[(k,z)]))) s'→Q r s') :
 wpAny (model X.prog X.w) A (call (.builtin "dict.setdefault") [.ref a,u,r]) Q E s:=by
 obtain ⟨z0,hd,vs,rel,dd⟩:=Kw I.hok e;refine call_meetsIn PySem.F.slot_dict_setdefault dd.typeIs PySem.F.entry_dict_setdefault (PySem.F.args_dict_setdefault_3 _ _ _) (kt_meets_setdefault (fu X.prog X.w) a (w6 ry) hd r)
  ⟨vs,dd,by rwa [← rel.length],fun w' hw=>?_,fun hw h' dd' hs=>?_⟩
 ·have q:=rel.val k;rw [hw] at q
  cases e1:nj kvs k with
  | none=>rw [e1] at q;cases q
  | some v =>
   rw [e1] at q;exact h1 v w' _ e1 (I.tok _) q
 ·have q:=rel.val k;rw [hw] at q;have e1:nj kvs k=none:=by
   cases e1:nj kvs k with
   | none=>rfl
   | some v=>rw [e1] at q;cases q
  have he:∃ q,h'.get? a=some q:=let ⟨q,_,_,hq,_⟩:=dd';⟨q,hq⟩;refine h2 _ e1 (vW I (by rw [e];exact True.intro) hs he (Et ?_ hd ?_ dd'))
  ·rwa [bL]
  ·rw [← Kv z e1];exact rel.put k rz
end
def Wl (td ty tx:TE):TE:=fun σ H Q=>td σ H fun x H1=>∃ a,x = .ref a∧IsD H1 a∧ty σ H1 fun y H2=>tx σ H2 fun z H3=>∃ kvs k,H3 a=some (.dK kvs)∧kvs.length < sizeLine∧y=kV k ∧
 (∀ v,nj kvs k=some v→Q v H3)∧(nj kvs k=none→Q z (upd H3 a (.dK (kvs++[(k,z)]))))
section
variable {X:Cx} {o e f:Expr} {apos cpos:Pos} {td ty tx:TE}
theorem O1 (ho:PE X o td) (he:PE X e ty) (hf:PE X f tx) (m:M2 X o "setdefault" apos e f cpos):PE X (.Call (.Attribute o "setdefault" apos) [e,f] [] cpos) (Wl td ty tx):=by
 intro pins s σ H Q I h;refine wpAny_Call_method m.base m.few m.line PySem.F.plainAttrs_dict PySem.F.slot_dict_setdefault PySem.F.type_dict_setdefault (thn (ho pins s σ H _ I h) fun u s1 ⟨x,H1,I1,rx,a,ex,d,q1⟩=>?_);subst ex;obtain rfl:u=Value.ref a:=rx;obtain ⟨t1,t2,_⟩:=Ti I1 d;refine ⟨t1,t2,?_⟩;rw [m.trees];refine bj rfl (bq (a8 (thn (he pins s1 σ H1 _ I1 q1) fun iv s2 ⟨y,H2,I2,ry,q2⟩ =>
  a8 (thn (hf pins s2 σ H2 _ I2 q2) fun fv s3 ⟨z,H3,I3,rz,kvs,k,ea,hl,ey,q3,q4⟩=>Calls.spliced_nil ?_))))
 subst ey;exact KJ I3 ea hl ry rz (fun v w' s4 l I4 rw'=>⟨v,H3,I4,rw',q3 v l⟩) fun s4 l I4=>⟨z,_,I4,rz,q4 l⟩
end
section
variable {X:Cx} {fl:List Fl} {ke ve:Expr} {fk fv:FE} {pos:Pos}
theorem GK {H:Hp}:∀ {S:List (Int × D)} {ks:List (Key × V)},TVs H ks (tvP S)→ks.length=S.length
 | [],_,h=>by cases h;rfl
 | q :: S,_,h=>by
  cases h with
  | cons _ r=>rw [bH,bH,GK r]
theorem Tw {y:D} {S:List (Int × D)} (e:vL y=some S):dtv S=y:=by
 cases y with
 | dict kvs=>rw [dtv,(uf e).2]
 | _=>cases e
theorem set_same {δ:DS} {i:Nat} {y:D} (h:δ[i]? = some (some (.d y))):δ.set i (some (.d y))=δ:=by
 apply fD;intro j;rw [oF];split
 ·next z =>
  subst z;split
  ·exact h.symm
  ·next z=>rw [bF (Nat.le_of_not_lt z)] at h;cases h
 ·rfl
theorem Tz {i:Nat} {x:Str} {vpos apos cpos:Pos} (hfl:fl[i]? = some .N) (hk:DE X fl .P ke fk) (hw:DE X fl .P ve fv) (hN:X.N[i]? = some x) (hm:M2 X (.Name x vpos) "setdefault" apos ke ve cpos) (hv:Vis X.env.scope x:=by first | exact Or.inl rfl | exact Or.inr (Or.inl rfl) | exact Or.inr (Or.inr rfl)) (hd:(x == ("__debug__" : Str))=false:=by decide)
 (hcd:(x == ("__classdict__" : Str))=false:=by decide) (hs:swapsWith (.Call (.Attribute (.Name x vpos) "setdefault" apos) [ke,ve] [] cpos) none pos.line X.env=pure false:=by rfl) :
 DS1 X fl (.Expr (.Call (.Attribute (.Name x vpos) "setdefault" apos) [ke,ve] [] cpos) pos) (wY i fk fv):=PS.imp (vO (O1 (oZ hN hv hd hcd) hk hw hm) hs) fun Dn σ H hh=>by
 refine D3.ex4 hh fun G ow δ o R hf q=>?_
 refine D3.ex1 (bind1 hf) fun y e1 hg=>?_
 refine D3.ex1 (bind1 hg) fun kk e2 hf=>?_
 refine D3.ex1 (bind1 hf) fun zz e3 hg=>?_
 clear hf;refine D3.ex1 (bind1 hg) fun S e4 hf=>?_
 split at hf
 case h_2=>cases hf
 next k =>
 by_cases hc:tvD zz=true∧S.length < 1000000
 case neg=>rw [if_neg hc] at hf;cases hf
 rw [if_pos hc] at hf
 cases hf;obtain ⟨p,ks,h1,h2,h3,h4⟩:=Tv R hfl e1 e4;refine ⟨_,h1,p,rfl,.inl ⟨_,.inl h2⟩,G,ow,δ,_,R,e2,fun u H1 s1 r1=>⟨G,ow,δ,_,R.grow s1,e3,fun w H2 s2 r2=>?_⟩⟩;obtain rfl:=RA.intE r1;have t2:=Wk hc.1 r2;have s12:=s1.trans s2;have h3':TVs H2 ks (tvP S):=h3.imp fun _ _ z=>jT.same s12 z
 refine ⟨ks,.inl k,s12 _ _ h2,by rw [GK h3];exact jQ hc.2 (by decide),rfl,fun v hv'=>?_,fun hv'=>?_⟩
 ·have hx:oE S k zz=S:=by
   unfold oE;rcases Af k h3' with ⟨_,b⟩ | ⟨d,v',a,b,_⟩
   ·rw [b] at hv';cases hv'
   ·rw [if_pos (by rw [a];rfl)]
  rw [hx] at q;rw [Tw e4,set_same (m7 e1)] at q;exact q ow σ _ (R.grow s12)
 ·have hx:oE S k zz=S++[(k,zz)]:=by
   unfold oE;rcases Af k h3' with ⟨a,_⟩ | ⟨d,v',a,b,_⟩
   ·rw [if_neg (by rw [a];simp)]
   ·rw [b] at hv';cases hv'
  rw [hx] at q;obtain ⟨ow',R'⟩:=h4 H2 s12 (ks++[(.inl k,w)]) (S++[(k,zz)]) (CG t2 h3');exact q ow' σ _ R'
theorem KN {j:Nat} {p1:Pos} (hk:DE X fl .P ke fk):DE X fl .T (.Dict [some ke] [.Constant .none j p1] pos) (wX fk):=PE.imp (Ou (Ky hk Jy Ot) rfl rfl (by intro z;cases z) (show 1 ≤ 15 by decide)) fun σ H Q h=>by
 refine D3.ex4 h fun G ow δ d R hf q=>?_
 refine D3.ex1 (bind1 hf) fun y e1 e2=>?_
 split at e2
 case h_2=>cases e2
 next i =>
 cases e2;intro p hp;refine ⟨G,ow,δ,_,R.grow (fH hp _),e1,fun v H1 s1 r1=>?_⟩;obtain rfl:=RA.intE r1;refine ⟨s1 _ _ dU,[(.inl i,.non)],rfl,(show 1 ≤ 15 by decide),q _ _ (fun b0 o e=>?_) ⟨[p],.dic dU (.inr (.inl ⟨_,rfl,.cons (.inl ⟨rfl,rfl⟩) .nil⟩)),cF.mpr ⟨d_,.nil⟩,fun x hx=>by rwa [aJ.mp hx]⟩⟩;have ne:=jm e hp;rw [cJ ne];exact s1 _ _ (by rwa [cJ ne])
end
end XD
namespace XD
open PySem PySem.Spec PyProof.Rows L2 My D3 XK
section
variable {X:Cx} {fl:List Fl} {e:Expr} {pos:Pos}
theorem Ah (hc:X.calm=true):oK X (.builtin "sorted") (fun xs H Q=>∃ (p:Addr) (ks:List (Key × V)) (is:List Int),xs=[.ref p]∧L2.Rd H p (.dK ks)∧ks.map (·.1)=is.map Sum.inl∧is.length < 64∧∀ l,H l=none→Q (.ref l) (upd H l (.lst ((qd is).map V.int)))):=by
 intro pins s σ H xs us Q I r h;obtain ⟨p,ks,is,rfl,hx,hK,h64,q⟩:=h;obtain ⟨u,rfl,rx⟩:=vals1 r
 cases rx;obtain ⟨_,hd,vs,rel,dd⟩:=vq I.hok hx;obtain ⟨ep,hat⟩:=dd.dictAt;have hv:vs.map (·.1)=is.map Sum.inl:=by rwa [← rel.keys]
 have hlen:vs.length=is.length:=by
  have:=congrArg List.length hv;rwa [aD,aD] at this
 refine Calls.call_function_entry kind_sorted plain_sorted entry_sorted (args_sorted1 _) ?_;unfold Builtin.«sorted»;refine ae (m:=checkCount "sorted" 1 1 _) (ah ?_);refine ae (PySem.W.kdu_collect (A:=X.A.in1) (PySem.W.kdl_dict (knd:=fu X.prog X.w) (kvs:=vs) (ep:=ep) hd) (I.ok.hd hc) hat (by rw [hlen];exact bY (gZ h64) (by decide)) fun h' tk acc hk hacc=>?_);have hl:acc.toList.length=is.length:=by rw [dM,hacc.1,hlen]
 have hI:=GF _ _ hl fun j v hv'=>by
  obtain ⟨k,x,hkx,his⟩:=hacc.2 j v (by rw [← Array.getElem?_toList];exact hv');have e1:(vs.map (·.1))[j]? = some k:=by rw [aP,hkx];rfl
  rw [hv,aP] at e1
  cases e2:is[j]? with
  | none=>rw [e2] at e1;cases e1
  | some i =>
   rw [e2] at e1;have e3:k=Sum.inl i:=by
    cases e1;rfl
   subst e3;rw [Dy] at his;obtain ⟨t,rfl⟩:∃ t,v=Value.int i t:=Value.isInt_shape his;exact ⟨i,t,rfl,rfl⟩
 have I1:L2.Inv X pins σ H { s with heap:=h',toks:=tk }:=I.kept hk;refine ae (wpAny_newList ?_ (by rw [hl];exact bY (gZ h64) (by decide)));have hoL:(h'.push (seqObj "list" acc.toList.toArray 0)).get? h'.objs.size=some (seqObj "list" acc.toList.toArray 0):=af _ rfl;refine ae (a5 (wpAny_call_entry slot_list_sort ⟨_,hoL,rfl⟩ entry_list_sort (list_sort_tree hoL hI (by rwa [hl]) fun out ns' a1 a2 a3=>⟨_,rfl,?_⟩) (args_list_sort _)));refine ah ⟨_,rfl,?_⟩;obtain rfl:=uQ (a2.trans (jg _).symm) a3 (oN _);obtain ⟨e,he⟩:=sortedHeap_at (out:=out) hoL;have hn:=I1.hok.fresh (bB _);have ll:(qd is).length=is.length:=(jg _).length_eq;have I2:=I1.laid (h':=sortedHeap (h'.push (seqObj "list" acc.toList.toArray 0)) h'.objs.size acc.toList out) (t':=tk) (a:=h'.objs.size) (o:=.lst ((qd is).map V.int)) (fun b u e=>by
  have hlt:=aa e;rw [sortedHeap_old (bW hlt) (by rw [size_push'];exact Nat.lt_succ_of_lt hlt)];exact ac _ e) (bB _)
  ⟨by rw [aD,ll];exact bY (gZ h64) (by decide),out.toList,e,D3.nC a1,by simpa [seqObj] using he⟩
 exact ⟨.ref _,_,I2,rfl,q _ hn⟩
theorem CJ {H:Hp}:∀ {S:List (Int × D)} {ks:List (Key × V)},TVs H ks (tvP S)→ks.map (·.1)=(S.map (·.1)).map Sum.inl
 | [],_,h=>by cases h;rfl
 | q :: S,_,h=>by
  cases h with
  | cons _ r=>rw [bJ,CJ r];rfl
theorem Iu (hc:X.calm=true) {fa:FA} {p:Pos} (ha:DB X fl .P [e] fa) (hg:Gl X "sorted") (hm:X.mg "sorted" = none)
 (he:starEach [e] X.env=(false,eval e X.env) :: starEach [] X.env:=by rfl) (hpl:(backTo pos (starEach [] X.env)).any (·.1)=false:=by rfl):DE X fl .FC (.Call (.Name "sorted" p) [e] [] pos) (dCall ug fa) :=
 PE.imp (tR (Ah hc) hg hm (show bootBuiltins "sorted" = some (.builtin "sorted") by decide +kernel) ha (by decide) (by decide) he hpl) fun σ H Q h=>by
 refine D3.ex4 h fun G ow δ d R hf q=>?_
 refine D3.ex1 (bind1 hf) fun ds e1 e2=>?_
 refine ⟨G,ow,δ,ds,R,e1,fun vs H' s r'=>?_⟩;unfold ug at e2;split at e2
 ·next x =>
  refine D3.ex1 (bind1 e2) fun S e3 e4=>?_
  by_cases hS:S.length < 64
  ·rw [if_pos hS] at e4
   cases e4
   cases r' with
   | cons r1 r2 =>
    cases r2;obtain ⟨a,ks,rfl,hx,t⟩:=vX e3 r1;exact ⟨a,ks,S.map (·.1),rfl,hx,CJ t,by rwa [aD],fun l hn=>q _ _ (s.trans (fH hn _)) (.inr ⟨_,_,_,rfl,rfl,s.free hn,dU,sG _⟩)⟩
  ·rw [if_neg hS] at e4;cases e4
 ·cases e2
end
end XD
namespace XL
open PySem PySem.Spec PySem.W PyProof.Rows L2 My D3
abbrev O2 (x y:Str) (p1 p2 p3 p4 p5:Pos) (kd:Nat):Expr:=.Subscript (.Subscript (.Name x p1) (.Name y p2) p3) (.Constant (.int 0) kd p4) p5
section
variable {prog:Program} {w:World} {A:Around} {R:Result→Shared→Prop} {s:Shared} {f c' a b cell:Addr} {nm q x y:Str} {params:Arguments} {scope:Scope} {pm ctv:Value} {p1 p2 p3 p4 p5:Pos} {kd:Nat} {i k:Int} {j:Nat} {t t':Tok} {its its2:Array Value}
theorem KQ {x:Value} {E:Value→Shared→Prop} {Q:Value→Shared→Prop} (hl:s.heap.IsList a its) (hlo : -(its.size:Int) ≤ i) (hhi:i < its.size) (hsz:its.size ≤ sizeLine) (hsx:seqIndex? i its.size=some j) (hi:its[j]? = some x) (h:Q x s) :
 wpAny (model prog w) A (getItem (.ref a) (.int i t)) Q E s:=by
 have hn:=uF;by_cases h0:0 ≤ i
 ·have hj:i.toNat=j:=by
   rw [bn h0 hhi] at hsx;exact cM.inj hsx
  exact wpAny_getItem_list hl h0 (by omega) (by rwa [hj]) h
 ·have hj:(i + (its.size:Int)).toNat=j:=by
   rw [bi (by omega) hlo] at hsx;exact cM.inj hsx
  exact wpAny_getItem_list_neg hl (by omega) hlo (by omega) (by rwa [hj]) h
theorem O3 (ho:s.heap.get? f=some (kla_obj nm q params (O2 x y p1 p2 p3 p4 p5 kd) scope [(x,cell)] pm c' ctv)) (hcd:s.heap.CodeRec (.ref c') q) (hroom:A.depth < recursionLimit) (hlim:s.heap.NoLimit)
 (hbind:∀ u,bindArgs (kla_fn nm q params (O2 x y p1 p2 p3 p4 p5 kd) scope [(x,cell)] pm (.ref c') ctv) ⟨[u],[]⟩=pure [(y,u)])
 (hco:scope.isCoroutine=false) (hgen:scope.isGenerator=false) (hk:scope.kind = .function) (hcell:∀ z ∈ scope.names,z.2 ≠ .cell) (hy:scope.names.lookup y=some .local) (hx:scope.names.lookup x=some .free)
 (hxd:(x == ("__debug__" : Str))=false) (hyd:(y == ("__debug__" : Str))=false) (hxc:(x == ("__classdict__" : Str))=false)
 (hc:s.heap.IsCell cell (some (.ref a))) (hl:s.heap.IsList a its) (hlo : -(its.size:Int) ≤ i) (hhi:i < its.size) (hsz:its.size ≤ sizeLine) (hsx:seqIndex? i its.size=some j) (hi:its[j]? = some (.ref b)) (ht:IsTup s.heap b its2) (hk0:its2[0]? = some (.int k t'))
 (h:∀ h' tk,(∀ b o,s.heap.get? b=some o→h'.get? b=some o)→R (.ok (.ret (.int k t'))) { s with heap:=h',toks:=tk }) :
 codeAny (model prog w) A (.call (.ref f) ⟨[.int i t],[]⟩) R s:=by
 refine kla_callFunE hroom ho rfl hco hgen rfl hcd ?_;rw [hbind];refine ah (wpAny_newFunctionEnv hcell (fun z hz=>?_) (fun h₁ hns hsb=>⟨hlim.fresh _ hsb,?_⟩) hk)
 ·rwa [aJ.mp hz]
 have hk₁:=fun b o e=>hsb.extBut b o (bW (aa e)) (ac _ e)
 refine kla_codeExpr ?_;have hl':h₁.IsList a its:=by
  obtain ⟨o,e1,e2⟩:=hl;exact ⟨o,hk₁ _ _ e1,e2⟩
 have ht':IsTup h₁ b its2:=by
  obtain ⟨o,e1,e2⟩:=ht;exact ⟨o,hk₁ _ _ e1,e2⟩
 refine bg ?_;refine bg ?_;refine be ?_ hxd;refine wpAny_loadName_free (c:=cell) (v:=.ref a) hk hx ?_ ?_ ?_ hxc
 ·show vd x [(x,cell)]=some cell;simp
 ·obtain ⟨o,e1,e2⟩:=hc;exact ⟨o,hk₁ _ _ e1,e2⟩
 refine be ?_ hyd;refine wpAny_loadName_local (v:=.int i t) hk hy hns ?_ ?_
 ·simp
 refine subscriptTail_builtin (T := "list") (id := "list.__getitem__") ?_ PySem.F.slot_list_getitem.lookup ?_
 ·obtain ⟨o,e1,e2,_⟩:=hl';exact ⟨o,e1,e2⟩
 refine KQ hl' hlo hhi hsz hsx hi ?_;refine wpAny_Constant_int ?_;refine kba_turn (value':=PySem.Expr.Name (PySem.Str.ofString "_") ⟨0,0,0,0⟩) (fun _=>rfl) ?_;refine subscriptTail_builtin (T := "tuple") (id := "tuple.__getitem__") ?_ PySem.F.slot_tuple_getitem.lookup ?_
 ·obtain ⟨o,e1,e2,_⟩:=ht';exact ⟨o,e1,e2⟩
 refine PyProof.Rows.getItem_tuple (j:=0) (x:=.int k t') ht' (by decide) (by decide) ?_ hk0 ?_
 ·have:0 < its2.size:=by
   rcases iM 0 its2.size with z | z
   ·exact z
   ·rw [Array.getElem?_eq_none z] at hk0;cases hk0
  unfold seqIndex?;have h2:(0:Int) < (its2.size:Int):=by omega
  show (if (decide ((0:Int) ≤ 0) && decide ((0:Int) < (its2.size:Int)))=true then some (0:Int).toNat else none)=some 0;rw [dTr (d7 0),dTr h2];rfl
 ·exact h h₁ _ hk₁
end
section
variable {M:Model} {A:Around} {E:Value→Shared→Prop} {s:Shared} {params:Arguments} {body:Expr} {scope:Scope} {env:Env} {c P:Addr} {pos:Pos} {mg:Str→Option Value} {clos:List (Str × Addr)} {Q:Value→Shared→Prop} {q:Str}
abbrev ent (pos:Pos) (c':Addr):Array Value:=#[rawInt pos.line,rawInt pos.col,.ref c']
theorem KR (hq:env.qual ++ "<lambda>" = q) (hdef:defaultsOf params env=([],[])) (hcl:closureFor scope env=pure clos) (hge0:env.globals=mainGlobals) (hg:s.heap.Ns mainGlobals mg) (hcode:env.code = .ref c) (C:CodeHd s.heap c P) (hgP:mainGlobals ≠ P) (hb:s.heap.BuiltinsAt mg P)
 (hT:∃ ps,s.heap.get? P=some (tabObj ps)∧(ps = #[]∨∃ c',ps=ent pos c'∧s.heap.CodeRec (.ref c') q))
 (h:∀ f c' ctv h' tk,(∀ b o,b ≠ P→s.heap.get? b=some o→h'.get? b=some o)→h'.get? P=some (tabObj (ent pos c'))→(s.heap.get? P=some (tabObj (ent pos c'))∨(s.heap.get? P=some (tabObj #[])∧s.heap.objs.size ≤ c'∧c' ≠ f))→s.heap.objs.size ≤ f →
  h'.get? f=some (kla_obj "<lambda>" q params body scope clos ((mg "__name__").getD .none) c' ctv)→h'.CodeRec (.ref c') q→Q (.ref f) { s with heap:=h',toks:=tk }) :
 wpAny M A (eval (.Lambda params body scope pos) env) Q E s:=by
 refine kla_eval hdef ?_;rw [hq];obtain ⟨ps,hP,z | ⟨c',z,hr⟩⟩:=hT
 ·subst z;refine kla_makeFunction (mg:=mg) hcl hge0 hg hcode C hP trivial rfl hgP hb fun c' ctv h' tk hx hge hlt hrec htb=>?_
  have up:∀ b o,h'.get? b=some o→(h'.push (kla_obj "<lambda>" q params body scope clos ((mg "__name__").getD .none) c' ctv)).get? b=some o:=fun b o e=>ac _ e
  obtain ⟨c2,oc,vs,tq,e1,e2,e3⟩:=hrec;refine h h'.objs.size c' ctv _ tk (fun b o hb e=>up b o (hx b o hb e)) (up _ _ (by rw [htb];rfl)) (.inr ⟨hP,hge,bW hlt⟩) (bY hge (gZ hlt)) (af _ rfl) ⟨c2,oc,vs,tq,e1,up _ _ e2,e3⟩
 ·subst z;have ha:codeAmong pos (ent pos c').toList=some (.ref c'):=by simp [codeAmong,rawInt]
  refine kla_makeFunctionHit (mg:=mg) hcl hge0 hg hcode C hP trivial ha hb fun ctv h' tk hk hsz=>?_
  have up:∀ b o,s.heap.get? b=some o→(h'.push (kla_obj "<lambda>" q params body scope clos ((mg "__name__").getD .none) c' ctv)).get? b=some o:=fun b o e=>ac _ (hk b o e)
  obtain ⟨c2,oc,vs,tq,e1,e2,e3⟩:=hr;exact h h'.objs.size c' ctv _ tk (fun b o _ e=>up b o e) (up _ _ hP) (.inl hP) hsz (af _ rfl) ⟨c2,oc,vs,tq,e1,up _ _ e2,e3⟩
end
end XL
namespace XL
open PySem PySem.Spec PySem.W PyProof.Rows L2 My D3 XS
section
variable {prog:Program} {w:World} {A:Around} {h₀:Heap} {L kS:Addr} {m:Str→Option Value} {f:Value} {nw:List (Addr × Obj)}
def CK (prog:Program) (w:World) (A:Around) (nw:List (Addr × Obj)) (f v:Value) (k:Int):Prop :=
 ∃ t,∀ (s:Shared) (R:Result→Shared→Prop),(∀ p ∈ nw,s.heap.get? p.1=some p.2)→s.heap.NoLimit→(∀ h' tk,(∀ b o,s.heap.get? b=some o→h'.get? b=some o)→R (.ok (.ret (.int k t))) { s with heap:=h',toks:=tk }) →
  codeAny (model prog w) A (.call f ⟨[v],[]⟩) R s
theorem CN {Fin:List Value→Nat→Shared→Prop} (hne:∀ y ∈ nw,y.1 ≠ kS) (hlim:∀ s:Shared,(∀ p ∈ nw,s.heap.get? p.1=some p.2)→s.heap.NoLimit):∀ (vs:List Value) (ns:List Int) (ks:List Value) (e:Nat) (s:Shared),Paired (fun v k=>CK prog w A nw f v k) vs ns →
 Fr h₀ L s.heap m→News h₀ L s.heap ((kS,seqObj "list" (iQ ks) e) :: nw) →
 (∀ ks' e' s',Fr h₀ L s'.heap m→News h₀ L s'.heap ((kS,seqObj "list" (iQ (ks++ks')) e') :: nw)→s'.gens=s.gens→s'.drawn=s.drawn→s'.os=s.os→Paired (fun (v:Value) (k:Int)=>∃ t,v = .int k t) ks' ns→Fin (ks++ks') e' s') →
 KatKeys prog w A h₀ L m kS f Fin vs ks e s
 | [],_,ks,e,s,p,F,N,h=>by
  cases p;have:=h [] e s F (by rwa [cU]) rfl rfl rfl .nil;rwa [cU] at this
 | v :: vs,_,ks,e,s,p,F,N,h=>by
  cases p with
  | cons p1 p2 =>
  rename_i k ns;obtain ⟨t,c⟩:=p1;have hnw:=fun p hp=>(N p (aM _ hp)).1
  refine KatKeys.cons (wpAny_call (c s _ hnw (hlim s hnw) fun h' tk hk=>?_));have F':Fr h₀ L h' m:=⟨F.ns.keeps hk,fun b o z=>hk b o (F.keep b o z),F.above⟩;have N':News h₀ L h' ((kS,seqObj "list" (iQ ks) e) :: nw):=fun p hp=>⟨hk _ _ (N p hp).1,(N p hp).2⟩
  refine KatBack.intro (s:={ s with heap:=h',toks:=tk }) F' N' (.head hne) fun h2 e2 F2 N2=>?_
  refine CN hne hlim vs ns (ks++[.int k t]) e2 { s with heap:=h2,toks:=tk } p2 F2 N2 fun ks' e' s' F3 N3 g1 g2 g3 q=>?_
  have z:=h (.int k t :: ks') e' s' F3 (by rwa [show ks++.int k t :: ks'=ks++[.int k t]++ks' by simp]) g1 g2 g3 (.cons ⟨t,rfl⟩ q);rwa [show ks++.int k t :: ks'=ks++[.int k t]++ks' by simp] at z
end
section
variable {prog:Program} {w:World} {A:Around} {E:Value→Shared→Prop} {s:Shared} {h₀:Heap} {L l fa:Addr} {m:Str→Option Value} {vs:List Value} {ns:List Int} {news:List (Addr × Obj)} {Q:Value→Shared→Prop}
def ltK (ns:List Int) (i j:Nat):Bool:=decide (ns.getD i 0 < ns.getD j 0)
theorem xG (a b:Value):argsOk "sorted" ⟨[a],[(Str.ofString "key", b)]⟩:=by unfold argsOk;kernel_rfl
theorem vC (a b:Value):argsOk "list.sort" ⟨[a],[(Str.ofString "key", b)]⟩:=by unfold argsOk;kernel_rfl
theorem ints_of:∀ {ks:List Value} {ns:List Int},Paired (fun (v:Value) (k:Int)=>∃ t,v = .int k t) ks ns→IntsAre ks ns
 | _,_,.nil=>.nil
 | _,_,.cons p q=>by
  obtain ⟨t,rfl⟩:=p;exact .cons _ _ (ints_of q)
theorem Ai:∀ {ks:List Value} {ns:List Int},Paired (fun (v:Value) (k:Int)=>∃ t,v = .int k t) ks ns→∀ i,i < ks.length→∃ t,ks.getD i .none = .int (ns.getD i 0) t
 | _,_,.nil,i,h=>by cases h
 | _,_,.cons p q,0,h=>by obtain ⟨t,rfl⟩:=p;exact ⟨t,rfl⟩
 | _,_,.cons p q,i + 1,h=>by
  obtain ⟨t,e⟩:=Ai q i (by simpa using h);exact ⟨t,by simpa using e⟩
theorem KY (F:Fr h₀ L s.heap m) (N:News h₀ L s.heap news) (hl:s.heap.IsList l vs.toArray) (h2:2 ≤ vs.length) (h64:vs.length < 64)
 (hc:Paired (fun v k=>CK prog w A.in1.in1 news (.ref fa) v k) vs ns) (hlim:∀ s:Shared,(∀ p ∈ news,s.heap.get? p.1=some p.2)→s.heap.NoLimit)
 (h:∀ D h' e tk,Fr h₀ L h' m→News h₀ L h' ((D,seqObj "list" (iQ ((sU vs.length (ltK ns)).map fun i=>vs.getD i Value.none)) e) :: news)→(∀ q ∈ news,q.1 < D)→Q (.ref D) { s with heap:=h',toks:=tk }) :
 wpAny (model prog w) A (call (.builtin "sorted") [.ref l] [(Str.ofString "key", .ref fa)]) Q E s:=by
 refine kat_sortedK (b:=false) (f:=.ref fa) F N hl h2 h64 (xG _ _) (fun x=>vC _ _) (fun x=>ksk_t1 fa x) fun D kS e1 h' F' N' lt1 lt2=>?_
 have hne:∀ y ∈ (D,seqObj "list" #[] e1) :: news,y.1 ≠ kS:=fun y hy=>by
  rcases aY.mp hy with rfl | z
  ·exact bW lt1
  ·exact bW (jQ (lt2 y z) lt1)
 have hc':Paired (fun v k=>CK prog w A.in1.in1 ((D,seqObj "list" #[] e1) :: news) (.ref fa) v k) vs ns:=Paired.mapP hc fun v k ⟨t,z⟩=>⟨t,fun s R q1 q2 q3=>z s R (fun p hp=>q1 p (aM _ hp)) q2 q3⟩
 refine CN (kS:=kS) hne (fun s q=>hlim s fun p hp=>q p (aM _ hp)) vs ns [] 0 _ hc' F' N' fun ks e s' F2 N2 g1 g2 g3 pk=>?_
 have lk:=pk.length.trans hc.length.symm;rw [qw] at N2 ⊢;rw [ksk_kind (ints_of pk) (by rwa [bK,lk])];refine ah ?_;refine Gy (n:=vs.length) (lt:=ltK ns) (R:=good vs.length) (fun i j C hi hj hC=>?_) _ (zB (by omega)) ?_
 ·obtain ⟨t1,q1⟩:=Ai pk i (by rwa [lk]);obtain ⟨t2,q2⟩:=Ai pk j (by rwa [lk]);show wpAny _ _ (keyLt' oneType' (ks.getD i Value.none) (ks.getD j Value.none)) _ _ _;rw [q1,q2];exact kat_lt_int hC
 ·obtain ⟨hp,gn,dr,tk,os⟩:=s';simp only at g1 g2 g3 F2 N2;subst g1 g2 g3;refine KatFin.intro F2 N2 (.head hne) fun h3 c3 F3 N3=>?_
  refine KasFin.intro F3 N3 (.tail (Nat.ne_of_gt lt1) (.head fun y hy=>bW (lt2 y hy))) fun h4 c4 F4 N4=>?_
  exact h D h4 c4 tk F4 (fun p hp=>N4 p (aM _ hp)) lt2
theorem zH {α β:Type} {R:α→β→Prop}:∀ {l:List α} {r:List β},Paired R l r→∀ {i:Nat} {a:α} {b:β},l[i]? = some a→r[i]? = some b→R a b
 | _,_,.nil,i,a,b,h,_=>by simp at h
 | _,_,.cons p q,0,a,b,h1,h2=>by
  simp at h1 h2;subst h1 h2;exact p
 | _,_,.cons p q,i + 1,a,b,h1,h2=>zH q (i:=i) (by simpa using h1) (by simpa using h2)
theorem O4 (F:Fr h₀ L s.heap m) (N:News h₀ L s.heap news) (hl:s.heap.IsList l vs.toArray) (h1:vs.length ≤ 1)
 (hc:Paired (fun v k=>CK prog w A.in1.in1 news (.ref fa) v k) vs ns) (hlim:∀ s:Shared,(∀ p ∈ news,s.heap.get? p.1=some p.2)→s.heap.NoLimit)
 (h:∀ D h' e tk,Fr h₀ L h' m→News h₀ L h' ((D,seqObj "list" (iQ vs) e) :: news)→(∀ q ∈ news,q.1 < D)→Q (.ref D) { s with heap:=h',toks:=tk }) :
 wpAny (model prog w) A (call (.builtin "sorted") [.ref l] [(Str.ofString "key", .ref fa)]) Q E s:=by
 refine ksk_sorted (b:=false) (kz:=ns) (f:=.ref fa) F N hl hc.length.symm (by omega) (xG _ _) (fun x=>vC _ _) (fun x=>ksk_t1 fa x) (fun i v k hv hk hp tk own F' N'=>?_) fun D h' tk out c F' N' lt ko=>?_
 ·obtain ⟨t,z⟩:=zH hc hv hk;have hnw:=fun p q=>(N' p (bD _ q)).1
  refine wpAny_call (z { s with heap:=hp,toks:=tk } _ hnw (hlim { s with heap:=hp,toks:=tk } hnw) fun h2 tk2 hk2=>?_);exact ⟨h2,tk2,t,rfl,rfl,⟨F'.ns.keeps hk2,fun b o z=>hk2 b o (F'.keep b o z),F'.above⟩,fun p q=>⟨hk2 _ _ (N' p q).1,(N' p q).2⟩⟩
 ·obtain ⟨ps,hp,ho,_⟩:=ko;have e:out.toList=vs:=by
   cases hc with
   | nil =>
    have hp:=hp;rwa [List.perm_nil.mp hp] at ho
   | cons p q =>
    cases q with
    | nil =>
     have hp:=hp;rwa [List.perm_singleton.mp hp] at ho
    | cons _ _=>simp at h1
  have e2:out=vs.toArray:=Array.toList_inj.mp (e.trans (by simp));rw [e2] at N';exact h D h' c tk F' N' lt
end
end XL
namespace XS
open PySem D3
def qQ (l:List D) (ns:List Int):List D:=if l.length ≤ 1 then l else (sU l.length fun i j=>decide (ns.getD i 0 < ns.getD j 0)).map fun i=>l.getD i .none
def xH (fa fe:FE) (ix:List Nat):FE:=fun δ=>(fa δ).bind fun x=>match x with
 | .list l=>if l.length < 64∧flats l=true then (eN (gNl 0) D3.kJ fe (jE 1 ix δ) l).bind fun ks=>(jL ks).map fun ns=>.list (qQ l ns) else none
 | _=>none
def dK0:FE:=fun δ=>match δ with
 | [some (.d (.int z)),some (.d (.list ds))]=>(pAt ds z).bind fun t=>match t with
  | .tuple (.int n :: _)=>some (.int n)
  | _=>none
 | _=>none
def qSK (x:Option D) (k:List D→Option (List D)):Option D:=match x with
 | some (.list l)=>if l.length < 64∧flats l=true then (k l).bind fun ks=>(jL ks).map fun ns=>.list (qQ l ns) else none
 | _=>none
theorem GP {fa fe:FE} {ix:List Nat} {δ:DS}:xH fa fe ix δ=qSK (fa δ) (eN (gNl 0) D3.kJ fe (jE 1 ix δ)):=by
 unfold xH qSK
 cases fa δ with
 | none=>rfl
 | some d=>cases d <;> rfl
theorem zJ {l ks:List D} {ns:List Int} {k:List D→Option (List D)} (h1:l.length < 64) (h2:flats l=true) (h3:k l=some ks) (h4:jL ks=some ns):qSK (some (.list l)) k=some (.list (qQ l ns)):=by
 unfold qSK;dsimp only;rw [if_pos ⟨h1,h2⟩,h3,aN,h4];rfl
end XS
namespace XL
open PySem PySem.Spec PySem.W PyProof.Rows L2 My D3 XS
section
variable {X:Cx} {pins:List (Addr × Obj)} {σ:L2.St} {H:Hp} {s:Shared} {h':Heap} {P c':Addr} {q:Str} {lp:Pos} {tk:Nat}
theorem O5 (I:Inv X pins σ H s) (hT:H P=some (.tbl q lp)) (kp:∀ b o,b ≠ P→s.heap.get? b=some o→h'.get? b=some o) (hP:h'.get? P=some (tabObj (ent lp c')))
 (hor:s.heap.get? P=some (tabObj (ent lp c'))∨(s.heap.get? P=some (tabObj #[])∧s.heap.objs.size ≤ c')) (hrec:h'.CodeRec (.ref c') q) :
 ∃ H2,Inv X pins σ H2 { s with heap:=h',toks:=tk }∧Same H H2:=by
 rcases hor with z | ⟨z,hge⟩
 ·refine ⟨H,I.kept fun b o e=>?_,fun _ _ e=>e⟩;by_cases hb:b=P
  ·subst hb;rw [z] at e;cases e;exact hP
  ·exact kp b o hb e
 ·have hn:=I.hok.fresh hge;have ne:∀ {b u},H b=some u→b ≠ c':=fun e=>jm e hn
  have nP:∀ {b},H b=none→b ≠ P:=fun e y=>by rw [y,hT] at e;cases e
  refine ⟨upd H c' (.own P),?_,fH hn _⟩;refine I.step (g':=s.gens) (d':=s.drawn) (ch:=[]) (fun b hb=>by cases hb) (fun b u _ _ _ e n=>kp b u (nP n) e) (fun b u _ _ _ e n=>⟨u.slots,kp b u (nP n) e⟩) (fun b u _ e n=>?_) (fun b u _ e=>?_)
   (fun b xs e=>by rwa [cJ (ne e)]) (fun b u v e=>by rwa [cJ (ne e)]) (fun b q p e=>by rwa [cJ (ne e)]) (fun m ⟨o,es,ep,e,r⟩=>⟨o,es,ep,kp _ o (nP I.free) e,r⟩) (fun b u e=>?_) I.bare
  ·rwa [cJ (bW (bV (aa e) hge))]
  ·by_cases hb:b=P
   ·exact ⟨_,by rwa [hb]⟩
   ·exact ⟨u,kp b u hb e⟩
  ·by_cases hb:b=c'
   ·subst hb;rw [dU] at e
    cases e;obtain ⟨c2,oc,vs,tq,e1,e2,_⟩:=hrec
    cases e1;exact ⟨_,e2⟩
   ·rw [cJ hb] at e;by_cases hbP:b=P
    ·subst hbP;rw [hT] at e;cases e;exact ⟨_,hP,.inr ⟨c',rfl,dU,hrec⟩⟩
    ·refine (I.hok b u e).stay (fun c w hc y=>kp c w (fun y2=>?_) y) (fun c y=>by rwa [cJ (ne y)]) fun c xs y=>by rwa [cJ (ne y)]
     rcases hc with rfl | y3
     ·exact hbP y2
     ·rw [y2,hT] at y3;cases y3
end
theorem O6 {K:Frag} {H H':Hp} {a:Addr} {xs:List V} (e:Same H H') (h:SqL K H a xs):SqL K H' a xs:=by
 rcases h with (h | ⟨o,h⟩) | h
 ·exact .inl (.inl (e _ _ h))
 ·exact .inl (.inr ⟨o,e _ _ h⟩)
 ·exact .inr h
theorem zK:∀ {ys:List V} {vs:List Value},Vals ys vs→∀ i,RelV (ys.getD i .non) (vs.getD i .none)
 | _,_,.nil,i=>by simp;rfl
 | _,_,.cons r rs,0=>r
 | _,_,.cons r rs,i + 1=>by simpa using zK rs i
theorem zL {fe:FE} {δ0:DS}:∀ {l ks:List D} {ns:List Int},eN (gNl 0) D3.kJ fe δ0 l=some ks→jL ks=some ns→Paired (fun d n=>∃ δ1,gNl 0 d δ0=some δ1∧fe δ1=some (.int n)) l ns
 | [],ks,ns,h1,h2=>by
  cases h1
  cases h2;exact .nil
 | d :: l,ks,ns,h1,h2=>by
  unfold eN at h1;refine D3.ex1 (bind1 h1) fun δ1 e1 h1=>?_
  refine D3.ex1 (bind1 h1) fun b e2 h1=>?_
  cases e2;rw [if_pos rfl] at h1;refine D3.ex1 (bind1 h1) fun x e3 h1=>?_
  refine D3.ex1 (bind1 h1) fun r e4 h1=>?_
  cases h1
  cases x with
  | int n =>
   have h2':(jL r).bind (fun m=>some (n :: m))=some ns:=by
    cases e5:jL r with
    | none=>unfold jL at h2;rw [e5] at h2;cases h2
    | some m=>unfold jL at h2;rw [e5] at h2;cases h2;rfl
   refine D3.ex1 (bind1 h2') fun m e5 e6=>?_
   cases e6;exact .cons ⟨δ1,e1,e3⟩ (zL e4 e5)
  | _=>unfold jL at h2;cases h2
theorem GQ {K:PySem.W.Frag} {ok:Ok} {pl:Bool} {H:Hp} {S:D→Int→Prop} {R:Value→Int→Prop} (f:∀ y d v n,RA K ok pl H y d→RelV y v→S d n→R v n):∀ {ys:List V} {l:List D} {vs:List Value} {ns:List Int},RAs K ok pl H ys l→Vals ys vs→Paired S l ns→Paired R vs ns
 | _,_,_,_,.nil,.nil,.nil=>.nil
 | _,_,_,_,.cons a b,.cons c d,.cons e g=>.cons (f _ _ _ _ a c e) (GQ f b d g)
structure LamAt (X:Cx) (P:Addr) (q:Str) (lp:Pos):Prop where
 cd:∃ c,X.env.code = .ref c∧codeHdIn X.K c P=true
 qn:X.env.qual ++ "<lambda>" = q
 tb:(P,q,lp) ∈ tabs
section
variable {X:Cx} {fl:List Fl} {e:Expr} {fa:FE} {p pos kpos lp p1 p2 p3 p4 p5:Pos} {x y q:Str} {P:Addr} {kd i k:Nat} {params:Arguments} {scope:Scope}
theorem TF {δ0 δ1:DS} {d:D} {n:Int} {u:Option U} (h0:δ0=[none,u]) (h1:gNl 0 d δ0=some δ1) (h2:dK0 δ1=some (.int n)):∃ z ds r,d = .int z∧u=some (.d (.list ds))∧pAt ds z=some (.tuple (.int n :: r)):=by
 subst h0
 cases h1;unfold dK0 at h2;split at h2
 ·next z ds e =>
  cases e;refine D3.ex1 (bind1 h2) fun t e1 e2=>?_
  split at e2
  ·next m r=>cases e2;exact ⟨z,ds,r,rfl,rfl,e1⟩
  ·cases e2
 ·cases h2
theorem xJ (hl:LamAt X P q lp) (hr:Room k X.A) (ha:DB X fl .P [e] (aq fa aZ)) (hg:Gl X "sorted") (hm:X.mg "sorted" = none)
 (hix:X.N[i]? = some x) (hfl:fl[i]? = some .A) (hcell:X.env.kindOf x=some .cell)
 (hdef:defaultsOf params X.env=([],[])) (hcl:∀ c,X.env.cells.lookup x=some c→closureFor scope X.env=pure [(x,c)])
 (hbind:∀ (cl:List (Str × Addr)) (pm:Value) (c':Addr) (ctv u:Value),bindArgs (kla_fn "<lambda>" q params (O2 x y p1 p2 p3 p4 p5 kd) scope cl pm (.ref c') ctv) ⟨[u],[]⟩=pure [(y,u)])
 (hco:scope.isCoroutine=false) (hgen:scope.isGenerator=false) (hk:scope.kind = .function) (hcells:∀ z ∈ scope.names,z.2 ≠ .cell) (hy:scope.names.lookup y=some .local) (hxf:scope.names.lookup x=some .free)
 (hxd:(x == ("__debug__" : Str))=false) (hyd:(y == ("__debug__" : Str))=false) (hxc:(x == ("__classdict__" : Str))=false)
 (he:backTo pos (starEach [e] X.env)=(false,eval e X.env) :: backTo pos (starEach [] X.env)) (hpl:(backTo pos (starEach [e] X.env)).any (·.1)=false)
 : DE X fl .FC (.Call (.Name "sorted" p) [e] [⟨some (Str.ofString "key"),.Lambda params (O2 x y p1 p2 p3 p4 p5 kd) scope lp,kpos⟩] pos) (xH fa dK0 [i]):=by
 have bs:bootBuiltins "sorted" = some (.builtin "sorted"):=by decide +kernel
 intro pins s σ H Q I hq;refine D3.ex4 hq fun G ow δ d R hf q0=>?_
 refine D3.ex1 (bind1 hf) fun xd e1 hf1=>?_
 obtain ⟨l,rfl⟩:∃ l,xd = .list l:=by
  cases xd <;> first | exact ⟨_,rfl⟩ | cases hf1
 dsimp only at hf1;by_cases hc:l.length < 64∧flats l=true
 case neg=>rw [if_neg hc] at hf1;cases hf1
 rw [if_pos hc] at hf1;refine D3.ex1 (bind1 hf1) fun ks e2 hf2=>?_
 cases e3:jL ks with
 | none=>rw [e3] at hf2;cases hf2
 | some ns =>
 rw [e3] at hf2
 cases hf2;have e1':aq fa aZ δ=some [.list l]:=by unfold aq;rw [e1];rfl
 refine ax (rC I hg hm bs ?_);refine PyProof.Rows.callWith_kw ?_ he hpl rfl rfl;refine thn (ha pos pins s σ H (fun vs H1=>Same H H1∧RAs X.K ok1 true H1 vs [.list l]) I ⟨G,ow,δ,_,R,e1',fun vs H' s' r'=>⟨s',r'⟩⟩) fun us s1 ⟨vs,H1,I1,r1,sm1,ra⟩=>?_
 cases ra with
 | cons ra1 ra2 =>
 cases ra2;obtain ⟨a,ys,rfl,hx,hrs⟩:=ra1.lstE
 cases r1 with
 | cons c1 c2 =>
 cases c2
 cases c1;have R1:=R.grow sm1;have hT:=R1.tb _ hl.tb;obtain ⟨c,hcx⟩:=I1.ok.has x (.inl hcell);obtain ⟨cc,hcode,hhd⟩:=hl.cd;have KX:=I1.kIn;have hgl:=I1.mod.glob.keeps I1.bk;have hgP:mainGlobals ≠ P:=fun z=>by
  obtain ⟨o,_,_,g1,_⟩:=I1.mod.glob;have:=(I1.bs _ _ g1).2;rw [z,hT] at this;cases this
 have hbm:s1.heap.BuiltinsAt X.mg P:=by
  obtain ⟨bm,ob,g1,g2,g3,g4,g5,g6⟩:=I1.mod.bm;refine ⟨bm,ob,g1,g2,fun z=>?_,fun z=>?_,I1.bk _ _ g3,g4,g5,g6⟩
  ·obtain ⟨o,_,_,k1,k2,_⟩:=I1.mod.glob;rw [z,k1] at g3;cases g3;rw [k2] at g6;cases g6
  ·have:=(I1.bs _ _ g3).2;rw [z,hT] at this;cases this
 have hTT:∃ ps,s1.heap.get? P=some (tabObj ps)∧(ps = #[]∨∃ c',ps=ent lp c'∧s1.heap.CodeRec (.ref c') q):=by
  obtain ⟨ps,g1,g2⟩:=I1.hok P _ hT;refine ⟨ps,g1,?_⟩;rcases g2 with g | ⟨c',g,_,g3⟩
  ·exact .inl g
  ·exact .inr ⟨c',g,g3⟩
 refine wpAny_evalAll_cons (ae ?_);refine KR (mg:=X.mg) hl.qn hdef (hcl c hcx) I1.ok.glob hgl hcode (codeHd_of_K KX hhd) hgP hbm hTT fun f c' ctv h' tk kp hP' hor hfs hfo hrec=>ae (a9 (ah ?_))
 refine wpAny_evalAll_nil ?_;obtain ⟨H2,I2,sm2⟩:=O5 (tk:=tk) I1 hT kp hP' (hor.imp (fun z=>z) fun z=>⟨z.1,z.2.1⟩) hrec;have R2:=R1.grow sm2;obtain ⟨its,rvs,pli,hz⟩:=I2.list (show SqL X.K H2 a ys from O6 sm2 hx);have hrs2:=hrs.same sm2;have len:=rvs.length.symm.trans hrs2.length;obtain ⟨m,hmm,hlk⟩:=id I2.loc;have notL:∀ {b:Addr} {o:Obj},h'.get? b=some o→(∀ es ep,o.data ≠ .dict es ep)→b ≠ X.env.locals:=fun {b o} g1 g2 z=>by
  obtain ⟨o2,es,ep,k1,k2,_⟩:=hmm;rw [← z] at k1;rw [show h'.get? b=some o2 from k1] at g1;cases g1;exact g2 _ _ k2
 have mem:∀ {b:Addr} {o:Obj},h'.get? b=some o→b ≠ X.env.locals→(b,o) ∈ oJ (Att.o7 h') h' X.env.locals:=fun g1 g2=>Br g2 (Att.wC _ _) g1
 have hlim:∀ s':Shared,(∀ p ∈ oJ (Att.o7 h') h' X.env.locals,s'.heap.get? p.1=some p.2)→s'.heap.NoLimit:=fun s' hk'=>I2.ok.mod.nolimit.keeps fun b o g=>hk' (b,o) (mem (I2.bk b o g) (bW (bV (aa (I2.ok.bs b o g).1) I2.ok.above)))
 have calls:Paired (fun v n=>CK X.prog X.w X.A.in1.in1 (oJ (Att.o7 h') h' X.env.locals) (.ref f) v n) its ns:=by
  refine GQ (S:=fun d n=>∃ δ1,gNl 0 d (jE 1 [i] δ)=some δ1∧dK0 δ1=some (.int n)) (fun y0 d v n r1 r2 ⟨δ1,g1,g2⟩=>?_) hrs2 rvs (zL e2 e3);obtain ⟨z,ds,r,rfl,g4,g5⟩:=TF (u:=(δ[i]?).getD none) rfl g1 g2;obtain rfl:=r1.intE;obtain ⟨t0,rfl⟩:=r2;have g6:δ[i]? = some (some (.d (.list ds))):=by
   cases g7:δ[i]? with
   | none=>rw [g7] at g4;cases g4
   | some u=>rw [g7] at g4;exact congrArg some g4
  have own0:ow i=none:=by
   cases g7:ow i with
   | none=>rfl
   | some b =>
    obtain ⟨_,g8,_⟩:=R2.own i b g7;rw [hfl] at g8;rcases g8 with ⟨g8,_⟩ | ⟨g8,_⟩ <;> cases g8
  obtain ⟨v0,k1,k2⟩:=R2.dat i _ g6 (by rw [hfl];rfl) own0;obtain ⟨b,xs,rfl,k3,k4⟩:=k2.lstE;obtain ⟨v1,k5,k6⟩:=k4.at g5;obtain ⟨b2,ws,rfl,k7,k8⟩:=k6.tupE
  cases k8 with
  | cons k9 k10 =>
  obtain rfl:=k9.intE;obtain ⟨it2,rv2,pl2,hz2⟩:=I2.list k3;obtain ⟨it3,rv3,pl3,_⟩:=I2.tuple k7;obtain ⟨j,j1,j2,j3,j4,j5⟩:=vQ k5;obtain ⟨w1,j6,j7⟩:=rv2.get j2
  cases j7
  cases rv3 with
  | cons r3 rv3 =>
  obtain ⟨t3,rfl⟩:=r3;have l2:=rv2.length;obtain ⟨u,u1,u2⟩:=hlk i x _ hix k1 (.inr (.inl hcell))
  cases u1;rcases u2 with ⟨u3,_⟩ | ⟨_,cl,u4,u5⟩
  ·have:some NameKind.cell=some NameKind.local:=hcell.symm.trans u3
   cases this
  have:cl=c:=by rw [hcx] at u4;exact (cM.inj u4).symm
  subst this;refine ⟨t3,fun s' R' hk' hlim' hR=>?_⟩;have kk:∀ {b:Addr} {o:Obj},h'.get? b=some o→(∀ es ep,o.data ≠ .dict es ep)→s'.heap.get? b=some o:=fun g1 g2=>hk' _ (mem g1 (notL g1 g2))
  have f1:=kk hfo (fun _ _ z=>by cases z);have f2:s'.heap.CodeRec (.ref c') q:=by
   obtain ⟨c2,oc,vs2,tq,w1,w2,w3,w4⟩:=hrec;exact ⟨c2,oc,vs2,tq,w1,kk w2 (fun _ _ z=>by rw [w3] at z;cases z),w3,w4⟩
  have f3:s'.heap.IsCell cl (some (.ref b)):=by
   obtain ⟨o,w1,w2⟩:=u5;exact ⟨o,kk w1 (fun _ _ z=>by rw [w2] at z;cases z),w2⟩
  have f4:s'.heap.IsList b it2.toArray:=by
   obtain ⟨o,w1,w2,w3,w4⟩:=pl2.isList;exact ⟨o,kk w1 (fun _ _ z=>by rw [w4] at z;cases z),w2,w3,w4⟩
  have f5:∀ {it5:Array Value},IsTup h' b2 it5→IsTup s'.heap b2 it5:=fun ⟨o,w1,w2,w3,w4⟩=>⟨o,kk w1 (fun _ _ z=>by rw [w4] at z;cases z),w2,w3,w4⟩
  exact O3 (i:=z) (j:=j) (its:=it2.toArray) f1 f2 (by have:=hr.dp;show X.A.depth < _;omega) hlim' (fun u=>hbind _ _ _ _ u) hco hgen hk hcells hy hxf hxd hyd hxc f3 f4 (by rwa [bK,← l2]) (by rw [bK,← l2];exact j5)
   (by rw [bK,← l2];exact hz2) (by rw [bK,← l2];exact j1) (by simpa using j6) (f5 pl3) (by simp) hR
 have fin:∀ (D:Addr) (h3:Heap) (ec tk3:Nat) (is:List V) (ds:List D3.D) (vo:List Value),Vals is vo→is.length ≤ sizeLine→(∀ (Hx:Hp),RAs X.K ok1 true Hx ys l→RAs X.K ok0 false Hx is ds) →
  qQ l ns=ds→Fr (Att.o7 h') X.env.locals h3 m→News (Att.o7 h') X.env.locals h3 ((D,seqObj "list" (iQ vo) ec) :: oJ (Att.o7 h') h' X.env.locals)→(∀ z ∈ oJ (Att.o7 h') h' X.env.locals,z.1 < D) →
  EP X pins σ Q (.ref D) { s1 with heap:=h3,toks:=tk3 }:=fun D h3 ec tk3 is ds vo v1 v2 v3 v4 F3 N3 lt=>by
  have kept3:=fun b o hb g=>(N3 (b,o) (aM _ (mem g hb))).1
  have hD:h'.get? D=none:=by
   cases g:h'.get? D with
   | none=>rfl
   | some o =>
    by_cases z:D=X.env.locals
    ·exact absurd z (N3 _ (aK ..)).2.1
    ·exact absurd (lt (D,o) (mem g z)) (iY _)
  have hn:H2 D=none:=by
   cases g:H2 D with
   | none=>rfl
   | some u =>
    obtain ⟨w,hw⟩:=zE (I2.hok D u g);rw [show h'.get? D=some w from hw] at hD;cases hD
  have new:iz X.prog X.w (upd H2 D (.lst is)) h3 D (.lst is):=⟨v2,vo,ec,v1,(N3 _ (aK ..)).1⟩;have J:=Oj (s:={ s1 with heap:=h',toks:=tk }) (h':=h3) I2 hmm F3.ns kept3 hD new;refine ⟨.ref D,_,J.tok tk3,rfl,q0 _ _ ((sm1.trans sm2).trans (fH hn _)) (.inr ⟨D,is,ds,rfl,(by show PyData.list (qQ l ns)=_;rw [v4]),(sm1.trans sm2).free hn,dU,?_⟩)⟩;exact (v3 _ (hrs2.same (fH hn _))).imp (fun _ z=>z.elim) (fun z=>z)
 by_cases h1:l.length ≤ 1
 ·refine O4 (Att.JZ hmm) Bt pli.isList (by rw [len];exact h1) calls hlim fun D h3 ec tk3 F3 N3 lt=>?_
  exact fin D h3 ec tk3 ys l its rvs (by rw [hrs2.length];exact bY h1 (by decide)) (fun Hx r=>RAs.flat hc.2 r) (by unfold qQ;rw [if_pos h1]) F3 N3 lt
 ·refine KY (Att.JZ hmm) Bt pli.isList (by omega) (by omega) calls hlim fun D h3 ec tk3 F3 N3 lt=>?_
  have eo:qQ l ns=(sU its.length (ltK ns)).map fun i=>l.getD i .none:=by unfold qQ;rw [if_neg h1,len];rfl
  have pm:=n6 (n:=its.length) (by omega) (ltK ns);refine fin D h3 ec tk3 ((sU its.length (ltK ns)).map fun i=>ys.getD i .non) _ _ ?_ ?_ ?_ eo F3 N3 lt
  ·generalize sU its.length (ltK ns)=is
   induction is with
   | nil=>exact .nil
   | cons i is ih=>exact .cons (zK rvs i) ih
  ·rw [aD,pm.length_eq,aX,len];exact bY (gZ hc.1) (by decide)
  ·intro Hx r;generalize sU its.length (ltK ns)=is
   induction is with
   | nil=>exact .nil
   | cons i is ih=>exact .cons (RA.flat (Cv hc.2 i) (Gz r i)) ih
end
theorem GR {K:Frag} {h:Heap} {c P:Addr} {q:Str} {lp:Pos} (KX:K.In h) (hP:h.get? P=some (tabObj #[])) (hc:codeHdIn K c P=true) (hn:K.lookup P=none) :
 (∀ t ∈ [(P,q,lp)],h.get? t.1=some { cls:=.none,data:=.fields #[] })∧(∀ t ∈ [(P,q,lp)],isCodeTable h t.1)∧∀ t ∈ [(P,q,lp)],K.lookup t.1=none :=
 ⟨fun t ht=>by rwa [aJ.mp ht],fun t ht=>by rw [aJ.mp ht];exact ((codeHd_of_K KX hc).tab hP).isCodeTable,fun t ht=>by rwa [aJ.mp ht]⟩
theorem CP {K:Frag} {h:Heap} {c c' P P':Addr} {q q':Str} {lp lp':Pos} (KX:K.In h) (hP:h.get? P=some (tabObj #[])) (hP':h.get? P'=some (tabObj #[])) (hc:codeHdIn K c P=true) (hc':codeHdIn K c' P'=true) (hn:K.lookup P=none) (hn':K.lookup P'=none) :
 (∀ t ∈ [(P,q,lp),(P',q',lp')],h.get? t.1=some { cls:=.none,data:=.fields #[] })∧(∀ t ∈ [(P,q,lp),(P',q',lp')],isCodeTable h t.1)∧∀ t ∈ [(P,q,lp),(P',q',lp')],K.lookup t.1=none:=by
 obtain ⟨a1,a2,a3⟩:=GR (q:=q) (lp:=lp) KX hP hc hn;obtain ⟨b1,b2,b3⟩:=GR (q:=q') (lp:=lp') KX hP' hc' hn';exact ⟨fun t ht=>(aY.mp ht).elim (fun z=>a1 t (z ▸ aK)) (b1 t),fun t ht=>(aY.mp ht).elim (fun z=>a2 t (z ▸ aK)) (b2 t),fun t ht=>(aY.mp ht).elim (fun z=>a3 t (z ▸ aK)) (b3 t)⟩
theorem KZ {P P':Addr} {q q':Str} {lp lp':Pos} (ne:P ≠ P'):∀ t ∈ [(P,q,lp),(P',q',lp')],∀ t' ∈ [(P,q,lp),(P',q',lp')],t.1=t'.1→t=t':=fun t ht t' ht' e=>by
 rcases aY.mp ht with rfl | h1
 ·rcases aY.mp ht' with rfl | h2
  ·rfl
  ·rw [aJ.mp h2] at e;exact absurd e ne
 ·rw [aJ.mp h1] at e ⊢;rcases aY.mp ht' with rfl | h2
  ·exact absurd e.symm ne
  ·rw [aJ.mp h2]
theorem CQ {scope:Scope} {env:Env} {x y:Str} {c:Addr} (hn:scope.names=[(y,.local),(x,.free)]) (h:env.cells.lookup x=some c):closureFor scope env=pure [(x,c)]:=by
 unfold closureFor;rw [hn];simp [cellOf,h]
section
variable {P:Program} {w:World} {K:PySem.W.Frag} {mg:Str→Option Value} {base:Heap} {x:Str} {ps N:List Str} {st:Stmt} {k n:Nat} {fs:FS} {fl:List Fl} {Pt:Addr} {q:Str} {lp:Pos}
structure DgT (K:PySem.W.Frag) (mg:Str→Option Value) (x:Str) (st:Stmt) (ps:List Str) (Pt:Addr) (q:Str) (lp:Pos):Prop where
 ex:∃ (f:Addr) (fd:FuncData) (c:Addr),FunD K x st f fd∧Binds K fd ps []∧mg x=some (.ref f)∧fd.code = .ref c∧codeHdIn K c Pt=true
 tb:(Pt,q,lp) ∈ tabs
theorem TJ {h:Heap} {f c:Addr} {oc kV dc pm ct:Value} {od an:Option Addr} {sl:Array (Option Value)} (X:K.In h) (G:h.Ns mainGlobals mg)
 (hb:∀ (kV doc pm:Value) (an:Option Addr) (cdv ct:Value) (us:List Value),us.length=ps.length→bindArgs (PySem.W.fnOf x x (mz st) (jo st) (bA st) .none kV doc pm an cdv ct) ⟨us,[]⟩=pure (ps.zip us))
 (a:PySem.W.nsIn K mainGlobals x=some (some (.ref f))) (l:K.lookup f=some ⟨oc,od,.func (PySem.W.fnOf x x (mz st) (jo st) (bA st) .none kV dc pm an (.ref c) ct),sl⟩) (ci:PySem.W.codeIn K (.ref c) x=true) (k:PySem.W.keepIn K (.ref f)=true)
 (hd:codeHdIn K c Pt=true) (tb:(Pt,q,lp) ∈ tabs):DgT K mg x st ps Pt q lp :=
 ⟨⟨_,_,c,⟨⟨oc,od,.none,kV,dc,pm,an,.ref c,ct,sl,rfl,l,ci⟩,k⟩,.all (hb kV dc pm an (.ref c) ct),PySem.W.mg_of X G a,rfl,hd⟩,tb⟩
theorem okT {f c:Addr} {fd:FuncData} {sp:Sp} (F:FunD K x st f fd) (hcd:fd.code = .ref c) (S:FnScope N ps (bA st)) (len:∀ vs H Q E,sp vs H Q E→vs.length=ps.length)
 (hbody:∀ (A:Around) (outer:List Env) (s:Shared) (H:Hp) (vs:List V) (Q:VK) (E:XK),Room k (A.deeper (envOfC x (bA st) s.heap.objs.size f (.ref c)))→sp vs H Q E →
  ∃ t,PSs (BJ CX0 P w K mg base N x (bA st) f (.ref c) A outer s H E).nox (jo st) t∧t { nx:=fun _ H'=>Q .non H',rt:=Q } (L2.start N vs) H):FnOk P w K mg base CX0 (k + 1) f fd ps sp:=by
 obtain ⟨oc,od,dV,kV,doc,pm,an,cdv,ct,osl,rfl,lk,hcd'⟩:=F.ex;have e:cdv = .ref c:=hcd;subst e;refine QK lk hcd' S len fun A outer s H vs Q E hr hsp=>?_
 obtain ⟨t,h,q⟩:=hbody A outer s H vs Q E hr hsp;exact ⟨t,h.nox,q⟩
theorem K1 (Dd:DgT K mg x st ps Pt q lp) (S:FnScope N ps (bA st)) (hp:∀ i,i < ps.length→fl[i]? = some .A) (hN:ps.length ≤ N.length)
 (hbody:∀ (f c:Addr) (A:Around) (outer:List Env) (s:Shared) (H:Hp) (E:XK),codeHdIn K c Pt=true→Room k (A.deeper (envOfC x (bA st) s.heap.objs.size f (.ref c)))→DSs (cx P w K mg base N x st f (.ref c) A outer s H E) fl (jo st) fs) :
 Has P w K mg base (k + 1) x ps (spD K (fnD ps.length (N.length - ps.length) fs)):=by
 obtain ⟨f,fd,c,Fn,b,m,hcd,hhd⟩:=Dd.ex;refine ⟨f,fd,?_,b,Fn.kp,m⟩;refine okT Fn hcd S (fun vs H Q E h=>?_) (fun A outer s H vs Q E hr h=>?_)
 ·obtain ⟨ds,d,r,hf,_⟩:=h;unfold fnD at hf;by_cases z:ds.length=ps.length
  ·rwa [r.2.length]
  ·rw [if_neg z] at hf;cases hf
 ·obtain ⟨ds,d,r,hf,q⟩:=h;refine ⟨_,hbody f c A outer s H E hhd hr,?_⟩;unfold fnD at hf;by_cases z:ds.length=ps.length
  ·rw [if_pos z] at hf;split at hf
   ·next d' e =>
    cases hf;exact ⟨_,_,_,_,sy ps.length hp z hN r,e,fun v H' s r=>q v H' s r⟩
   ·next δ' e =>
    cases hf;exact ⟨_,_,_,_,sy ps.length hp z hN r,e,fun ow' σ' H' R'=>q .non H' R'.same0 .non⟩
   ·cases hf
  ·rw [if_neg z] at hf;cases hf
end
end XL
namespace D3
open PySem PySem.Spec PyProof.Rows L2 My
section
variable {X:Cx} {fl:List Fl} {e a b:Expr} {es:List Expr} {f fa fb:FE} {fr:FA} {k:Kd} {pos:Pos}
theorem vA (i:Nat) {x:Str} (hfl:fl[i]? = some .A:=by rfl) (hN:X.N[i]? = some x:=by rfl) (hv:Vis X.env.scope x:=by first | exact Or.inl rfl | exact Or.inr (Or.inl rfl) | exact Or.inr (Or.inr rfl)) (hd:(x == ("__debug__" : Str))=false:=by decide)
 (hcd:(x == ("__classdict__" : Str))=false:=by decide):DE X fl .A (.Name x pos) (aj i):=zX i hfl hN hv hd hcd
theorem vP (i:Nat) {x:Str} (hfl:fl[i]? = some .A:=by rfl) (hN:X.N[i]? = some x:=by rfl) (hv:Vis X.env.scope x:=by first | exact Or.inl rfl | exact Or.inr (Or.inl rfl) | exact Or.inr (Or.inr rfl)) (hd:(x == ("__debug__" : Str))=false:=by decide)
 (hcd:(x == ("__classdict__" : Str))=false:=by decide):DE X fl .P (.Name x pos) (aj i):=bZ (zX i hfl hN hv hd hcd)
theorem vB (i:Nat) {x:Str} (hfl:fl[i]? = some .A:=by rfl) (hN:X.N[i]? = some x:=by rfl) (hv:Vis X.env.scope x:=by first | exact Or.inl rfl | exact Or.inr (Or.inl rfl) | exact Or.inr (Or.inr rfl)) (hd:(x == ("__debug__" : Str))=false:=by decide)
 (hcd:(x == ("__classdict__" : Str))=false:=by decide):DE X fl (.B []) (.Name x pos) (aj i):=dN (zX i hfl hN hv hd hcd)
theorem iP {i j pos}:DE X fl .P (.Constant (.int i) j pos) (dC (.int i)):=bG J_
theorem iC {i j pos}:DE X fl .C (.Constant (.int i) j pos) (dC (.int i)):=h_ J_
theorem dz:DB X fl k [] aZ:=En
theorem dq (h:DE X fl k e f) (hr:DB X fl k es fr) (hk:isR k=true:=by rfl) (hs:starEach (e :: es) X.env=(false,eval e X.env) :: starEach es X.env:=by exact qj rfl):DB X fl k (e :: es) (aq f fr):=N6 hk h hr hs
theorem dx {L:List Nat} (ha:DE X fl (.B L) a fa) (hb:DE X fl .P b fb) (hs:zQ b:=by exact fun _ _=>rfl):DE X fl .A (.Subscript a b pos) (dOp gIx fa fb):=V1 ha hb hs
theorem sA {i:Nat} {x:Str} {pos':Pos} (hN:X.N.Nodup) (h:DE X fl .A e f) (hfl:fl[i]? = some .A:=by rfl) (hi:X.N[i]? = some x:=by rfl) (hv:X.env.scope.names.lookup x=some .local∨X.env.scope.names.lookup x=some .cell:=by first | exact Or.inl rfl | exact Or.inr rfl)
 (hs:swapsWith e (some (.Name x pos')) pos.line X.env=pure false:=by rfl) (hfn:X.fn x=true∨X.env.scope.names.lookup x=some .local:=by first | exact .inl rfl | exact .inr rfl) :
 DS1 X fl (.Assign [.Name x pos'] e pos) (bM i f):=NZ hfl hN hi hv h hs hfn
theorem gN' {i:Nat} {x:Str} {pos:Pos} (hN:X.N.Nodup) (hfl:fl[i]? = some .A:=by rfl) (hi:X.N[i]? = some x:=by rfl) (hv:X.env.scope.names.lookup x=some .local∨X.env.scope.names.lookup x=some .cell:=by first | exact Or.inl rfl | exact Or.inr rfl)
 (hfn:X.fn x=true∨X.env.scope.names.lookup x=some .local:=by first | exact .inl rfl | exact .inr rfl):DG X fl [i] (.Name x pos) (gNl i):=N5 hfl hN hi hv hfn
end
theorem fsc {N P:List Str} {sc:Scope} (a:sc.kind = .function:=by rfl) (b:sc.isCoroutine=false:=by rfl) (c:sc.isGenerator=false:=by rfl) (d:N.Nodup:=by decide +kernel) (e:N.take P.length=P:=by rfl) (f:∀ x ∈ P,sc.names.lookup x=some .local∨sc.names.lookup x=some .cell:=by decide +kernel) (g:∀ y ∈ sc.names,y.2 ≠ .free:=by decide +kernel):FnScope N P sc:=⟨a,b,c,d,e,f,g⟩
end D3
namespace D3
open PySem
def qS (o:Option Oc) (b:FS):Option Oc:=o.bind fun o=>match o with
 | .nx δ'=>b δ'
 | o=>some o
def qI (o:Option Bool) (a b:FS) (δ:DS):Option Oc:=o.bind fun t=>if t=true then a δ else b δ
noncomputable def qO (g:D→D→Option D) (a b:Option D):Option D:=a.bind fun x=>b.bind fun y=>g x y
def qU (g:D→Option D) (a:Option D):Option D:=a.bind g
def qC (a:Option D) (r:Option (List D)):Option (List D):=a.bind fun x=>r.bind fun r=>some (x :: r)
def qF (F:List D→Option D) (l:Option (List D)):Option D:=l.bind F
def qR (a:Option D):Option Oc:=a.bind fun d=>some (.rt d)
def uh (i:Nat) (a:Option D) (δ:DS):Option Oc:=if i < δ.length then a.bind fun d=>some (.nx (δ.set i (some (.d d)))) else none
noncomputable def K3 (a:Option D) (fb:FE) (δ:DS):Option D:=a.bind fun x=>match x with
 | .bool true=>fb δ
 | .bool false=>some (.bool false)
 | _=>none
def qOr (a:Option D) (fb:FE) (δ:DS):Option D:=a.bind fun x=>match x with
 | .bool true=>some (.bool true)
 | .bool false=>fb δ
 | _=>none
def qN (a:Option D):Option D:=a.bind fun x=>match x with
 | .bool b=>some (.bool (!b))
 | _=>none
def qB (a:Option D):Option Bool:=a.bind fun x=>match x with
 | .bool b=>some b
 | _=>none
def qTA (a:Option Bool) (b:FT) (δ:DS):Option Bool:=a.bind fun x=>if x=true then b δ else some false
def qTO (a:Option Bool) (b:FT) (δ:DS):Option Bool:=a.bind fun x=>if x=true then some true else b δ
def qTN (a:Option Bool):Option Bool:=a.map fun x=>!x
def qE (a:Option Bool) (fa fb:FE) (δ:DS):Option D:=a.bind fun b=>if b=true then fa δ else fb δ
def qL (a:Option D):Option (List D):=a.bind asList
def Wm (a:Option (List D)) (g:FG) (b:FS) (δ:DS):Option Oc:=a.bind fun l=>jK g b l δ
def qD (a:Option DS):Option Oc:=a.bind fun δ'=>some (.nx δ')
def qG (a:Option D) (g:FG) (δ:DS):Option Oc:=a.bind fun d=>(g d δ).bind fun δ'=>some (.nx δ')
def qGs (a:Option DS) (r:List D→DS→Option DS) (l:List D):Option DS:=a.bind fun δ'=>r l δ'
def qT (a:Option (List D)):Option D:=a.bind fun l=>if l.length ≤ sizeLine then some (.tuple l) else none
def qK (a:Option (List D)):Option D:=a.bind fun l=>if l.length ≤ sizeLine then some (.list l) else none
def qFl (p:D→Bool) (a:Option D):Option D:=a.bind fun d=>if p d=true then some d else none
noncomputable def qA (i:Nat) (x a:Option D) (δ:DS):Option Oc:=x.bind fun x=>a.bind fun d=>match x with
 | .list l=>if l.length < 1000000 then some (.nx (δ.set i (some (.d (.list (l++[d])))))) else none
 | _=>none
def qP (i:Nat) (a x k:Option D) (δ:DS):Option Oc:=a.bind fun d=>x.bind fun x=>k.bind fun k=>match x,k with
 | .list l,.int j=>(pIx l.length j).bind fun n=>some (.nx (δ.set i (some (.d (.list (l.set n d))))))
 | _,_=>none
def qCh (g':D→D→Option D) (z:Option D) (y:Option D) (fc:FE) (δ:DS):Option D:=z.bind fun z=>match z with
 | .bool true=>qO g' y (fc δ)
 | .bool false=>some (.bool false)
 | _=>none
noncomputable def qC0 (g g':D→D→Option D) (a b:Option D) (fc:FE) (δ:DS):Option D:=a.bind fun x=>b.bind fun y=>(g x y).bind fun z=>match z with
 | .bool true=>(fc δ).bind fun w=>g' y w
 | .bool false=>some (.bool false)
 | _=>none
def qFn (o:Option Oc):Option D:=match o with
 | some (.rt d)=>some d
 | some (.nx _)=>some .none
 | _=>none
def qLs (a:Option (List D)):Option D:=a.bind fun r=>some (.list r)
def qCo (a:Option (List D)) (g:FG) (c:FT) (e:FE) (t:Nat) (ix:List Nat) (δ:DS):Option D:=a.bind fun l=>if l.length ≤ 100000 then (eN g c e (jE t ix δ) l).bind fun r=>some (.list r) else none
section
variable {a b:FS} {c c':FT} {fa fb fc:FE} {fr:FA} {δ:DS} {g:D→D→Option D} {h:D→Option D} {F:List D→Option D} {i:Nat} {G:FG} {d:D}
theorem Wn:bQ a b δ=qS (a δ) b:=rfl
theorem K4 {δ':DS}:qS (some (.nx δ')) b=b δ':=(rfl)
theorem K5:qS (some (.rt d)) b=some (.rt d):=rfl
theorem K6 {δ':DS}:qS (some (.bk δ')) b=some (.bk δ'):=rfl
theorem K7 {δ':DS}:qS (some (.ct δ')) b=some (.ct δ'):=rfl
theorem Wo:dG δ=some (.nx δ):=rfl
theorem Yu:sBk δ=some (.bk δ):=rfl
theorem Yv:sCt δ=some (.ct δ):=rfl
theorem Yw:sIf c a b δ=qI (c δ) a b δ:=rfl
theorem TQ:qI (some true) a b δ=a δ:=(rfl)
theorem TX:qI (some false) a b δ=b δ:=(rfl)
theorem v_op:dOp g fa fb δ=qO g (fa δ) (fb δ):=rfl
theorem TY {x y:D}:qO g (some x) (some y)=g x y:=(rfl)
theorem Yx:dUn h fa δ=qU h (fa δ):=rfl
theorem T3 {x:D}:qU h (some x)=h x:=(rfl)
theorem T4:aZ δ=some []:=rfl
theorem O7:aq fa fr δ=qC (fa δ) (fr δ):=rfl
theorem Iv {x:D} {l:List D}:qC (some x) (some l)=some (x :: l):=rfl
theorem T5:dCall F fr δ=qF F (fr δ):=rfl
theorem K8 {l:List D}:qF F (some l)=F l:=(rfl)
theorem Wq:cL fa δ=qR (fa δ):=rfl
theorem O8:qR (some d)=some (.rt d):=rfl
theorem T6:VP δ=some (.rt .none):=rfl
theorem Wr:bM i fa δ=uh i (fa δ) δ:=rfl
theorem Yy:uh (i + 12) (some d) δ=if i + 12 < δ.length then some (.nx (δ.set (i + 12) (some (.d d)))) else none:=(rfl)
theorem v_c:dC d δ=some d:=rfl
theorem v_and:uH fa fb δ=K3 (fa δ) fb δ:=rfl
theorem O9:K3 (some (.bool true)) fb δ=fb δ:=(rfl)
theorem O_:K3 (some (.bool false)) fb δ=some (.bool false):=rfl
theorem v_or:dOr fa fb δ=qOr (fa δ) fb δ:=rfl
theorem T7:qOr (some (.bool true)) fb δ=some (.bool true):=rfl
theorem T8:qOr (some (.bool false)) fb δ=fb δ:=(rfl)
theorem v_not:Sd fa δ=qN (fa δ):=rfl
theorem Pa {b:Bool}:qN (some (.bool b))=some (.bool (!b)):=rfl
theorem Yz:bh fa δ=qB (fa δ):=rfl
theorem T_ {b:Bool}:qB (some (.bool b))=some b:=rfl
theorem Ua:D3.oA c c' δ=qTA (c δ) c' δ:=rfl
theorem xK:qTA (some true) c δ=c δ:=(rfl)
theorem xM:qTA (some false) c δ=some false:=rfl
theorem Ws:D3.tOr c c' δ=qTO (c δ) c' δ:=rfl
theorem Pb:qTO (some true) c δ=some true:=rfl
theorem Pg:qTO (some false) c δ=c δ:=(rfl)
theorem Ub:D3.lU c δ=qTN (c δ):=rfl
theorem K9 {b:Bool}:qTN (some b)=some (!b):=rfl
theorem v_ite:dIf c fa fb δ=qE (c δ) fa fb δ:=rfl
theorem Ph:qE (some true) fa fb δ=fa δ:=(rfl)
theorem Pj:qE (some false) fa fb δ=fb δ:=(rfl)
theorem Wt:lu fa δ=qL (fa δ):=rfl
theorem Pq {l:List D}:qL (some (.list l))=some l:=rfl
theorem Wu:mF fr G b δ=Wm (fr δ) G b δ:=rfl
theorem Pr {l:List D}:Wm (some l) G b δ=jK G b l δ:=(rfl)
theorem Iw:jK G b [] δ=some (.nx δ):=rfl
theorem Wv:Ny fa G δ=qG (fa δ) G δ:=rfl
theorem Pu:qG (some d) G δ=qD (G d δ):=(rfl)
theorem Px {δ':DS}:qD (some δ')=some (.nx δ'):=rfl
theorem YB:gNl (i + 12) d δ=if i + 12 < δ.length then some (δ.set (i + 12) (some (.d d))) else none:=(rfl)
theorem YC {n:Nat} {gs:List D→DS→Option DS} {l:List D}:gTn n gs (.tuple l) δ=if l.length=n then gs l δ else none:=(rfl)
theorem Ww:ji [] δ=some δ:=rfl
theorem Wx {gs:List D→DS→Option DS} {l:List D}:cH G gs (d :: l) δ=qGs (G d δ) gs l:=rfl
theorem Py {gs:List D→DS→Option DS} {l:List D} {δ':DS}:qGs (some δ') gs l=gs l δ':=(rfl)
theorem Wy:dTup fr δ=qT (fr δ):=rfl
theorem Pz {l:List D}:qT (some l)=if l.length ≤ sizeLine then some (.tuple l) else none:=(rfl)
theorem YD:mQ fr δ=qK (fr δ):=rfl
theorem Uc {l:List D}:qK (some l)=if l.length ≤ sizeLine then some (.list l) else none:=(rfl)
theorem Ud:cW fa δ=qFl flat (fa δ):=rfl
theorem Wz:tV fa δ=qFl fl1 (fa δ):=rfl
theorem Ue {p:D→Bool}:qFl p (some d)=if p d=true then some d else none:=(rfl)
theorem WD:Ec i fa δ=qA i (aj i δ) (fa δ) δ:=rfl
theorem PB {l:List D}:qA i (some (.list l)) (some d) δ=if l.length < 1000000 then some (.nx (δ.set i (some (.d (.list (l++[d])))))) else none:=(rfl)
theorem WK {fk:FE}:uK i fk fa δ=qP i (fa δ) (aj i δ) (fk δ) δ:=rfl
theorem PJ {l:List D} {j:Int}:qP i (some d) (some (.list l)) (some (.int j)) δ=(pIx l.length j).bind fun n=>some (.nx (δ.set i (some (.d (.list (l.set n d)))))):=(rfl)
theorem PK {g':D→D→Option D}:o8 g g' fa fb fc δ=qC0 g g' (fa δ) (fb δ) fc δ:=rfl
theorem Iz {g':D→D→Option D} {x y:D}:qC0 g g' (some x) (some y) fc δ=qCh g' (g x y) (some y) fc δ:=(rfl)
theorem IK {g':D→D→Option D} {y:Option D}:qCh g' (some (.bool true)) y fc δ=qO g' y (fc δ):=(rfl)
theorem IV {g':D→D→Option D} {y:Option D}:qCh g' (some (.bool false)) y fc δ=some (.bool false):=rfl
theorem WL {p q:Nat} {ds:List D}:fnD p q b ds=if ds.length=p then qFn (b (ds.map (fun d=>some (.d d))++bO q none)) else none:=(rfl)
theorem PN:qFn (some (.rt d))=some d:=rfl
theorem PX {δ':DS}:qFn (some (.nx δ'))=some .none:=rfl
theorem Ug {t:Nat} {ix:List Nat}:iw fr G c fa t ix δ=qCo (fr δ) G c fa t ix δ:=rfl
theorem K_ {t:Nat} {ix:List Nat} {l:List D}:qCo (some l) G c fa t ix δ=if l.length ≤ 100000 then qLs (eN G c fa (jE t ix δ) l) else none:=(rfl)
theorem YF {l:List D}:qLs (some l)=some (.list l):=rfl
theorem WM:D3.kJ δ=some true:=rfl
theorem Uh {r:DS} {x:D}:aj 0 (some (.d x) :: r)=some x:=rfl
theorem Ui {r:DS} {y:Option U}:aj (i + 1) (y :: r)=aj i r:=rfl
theorem YG {x0:Option U} {r:DS}:uh 0 (some d) (x0 :: r)=some (.nx (some (.d d) :: r)):=rfl
theorem YH {x0:Option U} {r:DS}:gNl 0 d (x0 :: r)=some (some (.d d) :: r):=rfl
theorem YJ {x0 x1:Option U} {r:DS}:uh 1 (some d) (x0 :: x1 :: r)=some (.nx (x0 :: some (.d d) :: r)):=rfl
theorem YK {x0 x1:Option U} {r:DS}:gNl 1 d (x0 :: x1 :: r)=some (x0 :: some (.d d) :: r):=rfl
theorem YM {x0 x1 x2:Option U} {r:DS}:uh 2 (some d) (x0 :: x1 :: x2 :: r)=some (.nx (x0 :: x1 :: some (.d d) :: r)):=rfl
theorem YQ {x0 x1 x2:Option U} {r:DS}:gNl 2 d (x0 :: x1 :: x2 :: r)=some (x0 :: x1 :: some (.d d) :: r):=rfl
theorem YS {x0 x1 x2 x3:Option U} {r:DS}:uh 3 (some d) (x0 :: x1 :: x2 :: x3 :: r)=some (.nx (x0 :: x1 :: x2 :: some (.d d) :: r)):=rfl
theorem YT {x0 x1 x2 x3:Option U} {r:DS}:gNl 3 d (x0 :: x1 :: x2 :: x3 :: r)=some (x0 :: x1 :: x2 :: some (.d d) :: r):=rfl
theorem YW {x0 x1 x2 x3 x4:Option U} {r:DS}:uh 4 (some d) (x0 :: x1 :: x2 :: x3 :: x4 :: r)=some (.nx (x0 :: x1 :: x2 :: x3 :: some (.d d) :: r)):=rfl
theorem YX {x0 x1 x2 x3 x4:Option U} {r:DS}:gNl 4 d (x0 :: x1 :: x2 :: x3 :: x4 :: r)=some (x0 :: x1 :: x2 :: x3 :: some (.d d) :: r):=rfl
theorem YZ {x0 x1 x2 x3 x4 x5:Option U} {r:DS}:uh 5 (some d) (x0 :: x1 :: x2 :: x3 :: x4 :: x5 :: r)=some (.nx (x0 :: x1 :: x2 :: x3 :: x4 :: some (.d d) :: r)):=rfl
theorem Y0 {x0 x1 x2 x3 x4 x5:Option U} {r:DS}:gNl 5 d (x0 :: x1 :: x2 :: x3 :: x4 :: x5 :: r)=some (x0 :: x1 :: x2 :: x3 :: x4 :: some (.d d) :: r):=rfl
theorem Y4 {x0 x1 x2 x3 x4 x5 x6:Option U} {r:DS}:uh 6 (some d) (x0 :: x1 :: x2 :: x3 :: x4 :: x5 :: x6 :: r)=some (.nx (x0 :: x1 :: x2 :: x3 :: x4 :: x5 :: some (.d d) :: r)):=rfl
theorem Y5 {x0 x1 x2 x3 x4 x5 x6:Option U} {r:DS}:gNl 6 d (x0 :: x1 :: x2 :: x3 :: x4 :: x5 :: x6 :: r)=some (x0 :: x1 :: x2 :: x3 :: x4 :: x5 :: some (.d d) :: r):=rfl
theorem Y6 {x0 x1 x2 x3 x4 x5 x6 x7:Option U} {r:DS}:uh 7 (some d) (x0 :: x1 :: x2 :: x3 :: x4 :: x5 :: x6 :: x7 :: r)=some (.nx (x0 :: x1 :: x2 :: x3 :: x4 :: x5 :: x6 :: some (.d d) :: r)):=rfl
theorem Y7 {x0 x1 x2 x3 x4 x5 x6 x7:Option U} {r:DS}:gNl 7 d (x0 :: x1 :: x2 :: x3 :: x4 :: x5 :: x6 :: x7 :: r)=some (x0 :: x1 :: x2 :: x3 :: x4 :: x5 :: x6 :: some (.d d) :: r):=rfl
theorem Y8 {x0 x1 x2 x3 x4 x5 x6 x7 x8:Option U} {r:DS}:uh 8 (some d) (x0 :: x1 :: x2 :: x3 :: x4 :: x5 :: x6 :: x7 :: x8 :: r)=some (.nx (x0 :: x1 :: x2 :: x3 :: x4 :: x5 :: x6 :: x7 :: some (.d d) :: r)):=rfl
theorem Y9 {x0 x1 x2 x3 x4 x5 x6 x7 x8:Option U} {r:DS}:gNl 8 d (x0 :: x1 :: x2 :: x3 :: x4 :: x5 :: x6 :: x7 :: x8 :: r)=some (x0 :: x1 :: x2 :: x3 :: x4 :: x5 :: x6 :: x7 :: some (.d d) :: r):=rfl
theorem Y_ {x0 x1 x2 x3 x4 x5 x6 x7 x8 x9:Option U} {r:DS}:uh 9 (some d) (x0 :: x1 :: x2 :: x3 :: x4 :: x5 :: x6 :: x7 :: x8 :: x9 :: r)=some (.nx (x0 :: x1 :: x2 :: x3 :: x4 :: x5 :: x6 :: x7 :: x8 :: some (.d d) :: r)):=rfl
theorem Za {x0 x1 x2 x3 x4 x5 x6 x7 x8 x9:Option U} {r:DS}:gNl 9 d (x0 :: x1 :: x2 :: x3 :: x4 :: x5 :: x6 :: x7 :: x8 :: x9 :: r)=some (x0 :: x1 :: x2 :: x3 :: x4 :: x5 :: x6 :: x7 :: x8 :: some (.d d) :: r):=rfl
theorem WQ {x0 x1 x2 x3 x4 x5 x6 x7 x8 x9 x10:Option U} {r:DS}:uh 10 (some d) (x0 :: x1 :: x2 :: x3 :: x4 :: x5 :: x6 :: x7 :: x8 :: x9 :: x10 :: r)=some (.nx (x0 :: x1 :: x2 :: x3 :: x4 :: x5 :: x6 :: x7 :: x8 :: x9 :: some (.d d) :: r)):=rfl
theorem WR {x0 x1 x2 x3 x4 x5 x6 x7 x8 x9 x10:Option U} {r:DS}:gNl 10 d (x0 :: x1 :: x2 :: x3 :: x4 :: x5 :: x6 :: x7 :: x8 :: x9 :: x10 :: r)=some (x0 :: x1 :: x2 :: x3 :: x4 :: x5 :: x6 :: x7 :: x8 :: x9 :: some (.d d) :: r):=rfl
theorem WT {x0 x1 x2 x3 x4 x5 x6 x7 x8 x9 x10 x11:Option U} {r:DS}:uh 11 (some d) (x0 :: x1 :: x2 :: x3 :: x4 :: x5 :: x6 :: x7 :: x8 :: x9 :: x10 :: x11 :: r)=some (.nx (x0 :: x1 :: x2 :: x3 :: x4 :: x5 :: x6 :: x7 :: x8 :: x9 :: x10 :: some (.d d) :: r)):=rfl
theorem WW {x0 x1 x2 x3 x4 x5 x6 x7 x8 x9 x10 x11:Option U} {r:DS}:gNl 11 d (x0 :: x1 :: x2 :: x3 :: x4 :: x5 :: x6 :: x7 :: x8 :: x9 :: x10 :: x11 :: r)=some (x0 :: x1 :: x2 :: x3 :: x4 :: x5 :: x6 :: x7 :: x8 :: x9 :: x10 :: some (.d d) :: r):=rfl
end
section
variable {i j:Int} {l m:List D} {d:D}
theorem WX:i_ (.int i) (.int j)=some (.int (i + j)):=rfl
theorem WY:DK (.int i) (.int j)=some (.int (i - j)):=rfl
theorem W0:mU (.int i) (.int j)=if uJ i j=true then some (.int (i * j)) else none:=rfl
theorem Zb:gLt (.int i) (.int j)=some (.bool (decide (i < j))):=rfl
theorem Zc:gLe (.int i) (.int j)=some (.bool (decide (i ≤ j))):=rfl
theorem Zd:gGt (.int i) (.int j)=some (.bool (decide (j < i))):=rfl
theorem Ze:gGe (.int i) (.int j)=some (.bool (decide (j ≤ i))):=rfl
theorem W2:gEq (.int i) (.int j)=some (.bool (decide (i=j))):=rfl
theorem Q6:gNe (.int i) (.int j)=some (.bool (!decide (i=j))):=rfl
theorem W3:jH [.list l]=some (.int l.length):=rfl
theorem Uj:jH [.tuple l]=some (.int l.length):=rfl
theorem lY:∀ ns:List Int,jL (ns.map .int)=some ns
 | []=>rfl
 | n :: r=>by rw [bJ,jL,lY r];rfl
theorem W4:Yo [.int i]=some (.int (if i < 0 then -i else i)):=rfl
theorem GX:wH [.int i,.int j]=some (.int (if j > i then j else i)):=rfl
theorem xO:rG [.int i,.int j]=some (.int (if j < i then j else i)):=rfl
theorem W5:Yp (.int i)=some (.int (-i)):=rfl
theorem Zf:gIx (.list l) (.int i)=pAt l i:=(rfl)
theorem W6:gIx (.tuple l) (.int i)=pAt l i:=(rfl)
theorem xP:rH (.list l) (.list m)=if l.length + m.length ≤ 1000000 then some (.list (l++m)) else none:=(rfl)
theorem qt:gY (.list l)=some (.list l):=rfl
theorem P_:gY (.tuple l)=some (.list l):=rfl
theorem W7:pAt (d :: l) 0=some d:=by
 unfold pAt pIx;rw [if_pos (by decide),if_pos (by simp)];rfl
end
noncomputable def W8 (i j:Nat) (a:Option (List D)) (δ:DS):Option Oc:=a.bind fun l=>match l with
 | [x,y]=>if i < δ.length∧j < δ.length then some (.nx ((δ.set i (some (.d x))).set j (some (.d y)))) else none
 | _=>none
def qW (a:Option (List D)):Option (List D):=a.bind fun l=>match l with
 | [.int j]=>if sS j=true then some (fO 0 j) else none
 | _=>none
def GZ (a:Option (List D)):Option (List D):=a.bind fun l=>match l with
 | [.int i,.int j]=>if (sS i && sS j)=true then some (fO i j) else none
 | _=>none
def qSl (x:Option D) (a b:Option (Option Int)):Option D:=x.bind fun x=>a.bind fun a=>b.bind fun b=>match x with
 | .list l=>some (.list (cutD l a b))
 | _=>none
def qOP (x:Option D):Option (Option Int):=x.bind fun x=>match x with
 | .int i=>some (some i)
 | _=>none
def qEn (x:Option D):Option (List D):=x.bind fun d=>match d with
 | .list l=>some (jW l)
 | _=>none
section
variable {a b:FS} {fa:FE} {fr:FA} {δ:DS} {i j:Nat} {g:FG}
theorem W9:Yq i j fr δ=W8 i j (fr δ) δ:=rfl
theorem Qa {x y:D}:W8 i j (some [x,y]) δ=if i < δ.length∧j < δ.length then some (.nx ((δ.set i (some (.d x))).set j (some (.d y)))) else none:=(rfl)
theorem Uk:pF fr δ=qW (fr δ):=rfl
theorem EY {k:Int} (h : -(2 ^ 62) ≤ k) (h2:k < 2 ^ 62):qW (some [.int k])=some (fO 0 k):=by
 show (if sS k=true then some (fO 0 k) else none)=_;rw [if_pos];unfold sS;rw [dTr h,dTr h2];rfl
theorem Ul:Gj fr δ=GZ (fr δ):=rfl
theorem W_ {i k:Int} (h : -(2 ^ 62) ≤ k) (h2:k < 2 ^ 62) (h3 : -(2 ^ 62) ≤ i) (h4:i < 2 ^ 62):GZ (some [.int i,.int k])=some (fO i k):=by
 show (if (sS i && sS k)=true then some (fO i k) else none)=_;rw [if_pos];unfold sS;rw [dTr h,dTr h2,dTr h3,dTr h4];rfl
theorem Zg {lo hi:FO}:dSl fa lo hi δ=qSl (fa δ) (lo δ) (hi δ):=rfl
theorem Um {l:List D} {p r:Option Int}:qSl (some (.list l)) (some p) (some r)=some (.list (cutD l p r)):=rfl
theorem Zh:zc δ=some none:=rfl
theorem Zi:zf fa δ=qOP (fa δ):=rfl
theorem Uo {k:Int}:qOP (some (.int k))=some (some k):=rfl
theorem Uq:vh fa δ=qEn (fa δ):=rfl
theorem La {l:List D}:qEn (some (.list l))=some (jW l):=rfl
theorem jt (Inv:Nat→DS→Prop):∀ (l:List D) (δ:DS),Inv 0 δ→(∀ i d δ,l[i]? = some d→Inv i δ→∃ δ1 δ',g d δ=some δ1∧(b δ1=some (.nx δ')∨b δ1=some (.ct δ'))∧Inv (i + 1) δ')→∃ δ',jK g b l δ=some (.nx δ')∧Inv l.length δ':=by
 have key:∀ (l:List D) (k:Nat) (δ:DS),Inv k δ→(∀ i d δ,l[i]? = some d→Inv (k + i) δ→∃ δ1 δ',g d δ=some δ1∧(b δ1=some (.nx δ')∨b δ1=some (.ct δ'))∧Inv (k + i + 1) δ')→∃ δ',jK g b l δ=some (.nx δ')∧Inv (k + l.length) δ':=by
  intro l
  induction l with
  | nil=>exact fun k δ h _=>⟨δ,rfl,h⟩
  | cons d r ih =>
   intro k δ h hs;obtain ⟨δ1,δ',e1,e2,e3⟩:=hs 0 d δ rfl h;obtain ⟨δ2,e4,e5⟩:=ih (k + 1) δ' e3 fun i d' δ'' hd hi=>by
    have:=hs (i + 1) d' δ'' (by simpa using hd) (by rwa [show k + (i + 1)=k + 1 + i by omega]);rwa [show k + (i + 1) + 1=k + 1 + i + 1 by omega] at this
   refine ⟨δ2,?_,by rwa [bH,show k + (r.length + 1)=k + 1 + r.length by omega]⟩;rw [jK,e1,aN];rcases e2 with e2 | e2
   ·rwa [e2]
   ·rwa [e2]
 intro l δ h hs;have:=key l 0 δ h fun i d δ hd hi=>by
  have:=hs i d δ hd (by rw [kY] at hi;exact hi);rwa [kY]
 rwa [kY] at this
end
def qX (a:Option D) (δ:DS):Option Oc:=a.bind fun _=>some (.nx δ)
theorem Ur {fa:FE} {δ:DS}:pD fa δ=qX (fa δ) δ:=rfl
theorem Lb {d:D} {δ:DS}:qX (some d) δ=some (.nx δ):=rfl
theorem Ld {g g' g'':D→D→Option D} {fa fb fc fd:FE} {δ:DS}:vR g g' g'' fa fb fc fd δ=K3 (qO g (fa δ) (fb δ)) (o8 g' g'' fb fc fd) δ:=by
 unfold vR K3 o8 qO
 cases fa δ with
 | none=>rfl
 | some x=>cases fb δ <;> rfl
def qZ (a b:Option D):Option (List D):=a.bind fun d=>b.bind fun e=>match d,e with
 | .list l,.list m=>some (m6 l m)
 | _,_=>none
theorem Xa {f g:FE} {δ:DS}:HW f g δ=qZ (f δ) (g δ):=rfl
theorem Qc {l m:List D}:qZ (some (.list l)) (some (.list m))=some (m6 l m):=rfl
theorem Zj {fa:FE} {δ:DS}:dN1 fa δ=qFl (fun d=>decide (nl d ≤ 1)) (fa δ):=rfl
theorem Xb:flat .none=true:=rfl
theorem Zk {b:Bool}:flat (.bool b)=true:=rfl
theorem f_int {i:Int}:flat (.int i)=true:=rfl
theorem Xc {x:Str}:flat (.str x)=true:=rfl
theorem Xd {l:List D}:flat (.list l)=false:=rfl
theorem f_tup {l:List D}:flat (.tuple l)=flats l:=rfl
theorem Xe:flats []=true:=rfl
theorem Us {d:D} {l:List D}:flats (d :: l)=(flat d && flats l):=rfl
theorem Ut:fl1 .none=true:=rfl
theorem Xf {b:Bool}:fl1 (.bool b)=true:=rfl
theorem Uu {i:Int}:fl1 (.int i)=true:=rfl
theorem Uv {x:Str}:fl1 (.str x)=true:=rfl
theorem xQ {l:List D}:fl1 (.list l)=flats l:=rfl
theorem Uw {l:List D}:fl1 (.tuple l)=flats l:=rfl
theorem Zm {c:String} {d:D}:gIs c d=some (.bool (isT c (tyD d))):=rfl
theorem Xh {d:D}:rF d=some (.bool (isNone d)):=rfl
theorem Ux {d:D}:lK d=some (.bool (!isNone d)):=rfl
theorem Xi:isNone .none=true:=rfl
theorem Zn {b:Bool}:isNone (.bool b)=false:=rfl
theorem Xj {i:Int}:isNone (.int i)=false:=rfl
theorem Xk {x:Str}:isNone (.str x)=false:=rfl
theorem Xl {l:List D}:isNone (.list l)=false:=rfl
theorem Xm {l:List D}:isNone (.tuple l)=false:=rfl
theorem Xn {l:List (D × D)}:isNone (.dict l)=false:=rfl
end D3
local macro_rules|`(tactic|simp![$xs,*]$[$l:location]?)=>do let a←("D3.Xb D3.Zk D3.f_int D3.Xc D3.Xd D3.f_tup D3.Xe D3.Us D3.Ut D3.Xf D3.Uu D3.Uv D3.xQ D3.Uw D3.Zm D3.Xh D3.Ux D3.Xi D3.Zn D3.Xj D3.Xk D3.Xl D3.Xm D3.Xn bH jz bJ pQ cX List.replicate_zero List.cons_append qw cU List.set_cons_zero List.set_cons_succ kY if_true decide_true decide_false Int.cast_ofNat_Int fV nR Bool.and_self D3.YG D3.YH D3.YJ D3.YK D3.YM D3.YQ D3.YS D3.YT D3.YW D3.YX D3.YZ D3.Y0 D3.Y4 D3.Y5 D3.Y6 D3.Y7 D3.Y8 D3.Y9 D3.Y_ D3.Za D3.WQ D3.WR D3.WT D3.WW D3.Zj D3.Xa D3.Qc D3.Ur D3.Lb D3.Ld D3.Wn D3.K4 D3.K5 D3.K6 D3.K7 D3.Wo D3.Yu D3.Yv D3.Yw D3.TQ D3.TX D3.v_op D3.TY D3.Yx D3.T3 D3.T4 D3.O7 D3.Iv D3.T5 D3.K8 D3.Wq D3.O8 D3.T6 D3.Wr D3.Yy D3.v_c D3.v_and D3.O9 D3.O_ D3.v_or D3.T7 D3.T8 D3.v_not D3.Pa D3.Yz D3.T_ D3.Ua D3.xK D3.xM D3.Ws D3.Pb D3.Pg D3.Ub D3.K9 D3.v_ite D3.Ph D3.Pj D3.Wt D3.Pq D3.Wu D3.Pr D3.Iw D3.Wv D3.Pu D3.Px D3.YB D3.YC D3.Ww D3.Wx D3.Py D3.Wy D3.Pz D3.YD D3.Uc D3.Ud D3.Wz D3.Ue D3.WD D3.PB D3.WK D3.PJ D3.PK D3.IK D3.IV D3.WL D3.PN D3.PX D3.Ug D3.K_ D3.YF D3.Iz D3.WM D3.Uh D3.Ui D3.WX D3.WY D3.Zb D3.Zc D3.Zd D3.Ze D3.W2 D3.Q6 D3.W3 D3.Uj D3.W4 D3.GX D3.xO D3.W5 D3.Zf D3.W6 D3.xP D3.qt D3.P_ D3.W7 D3.W9 D3.Qa D3.Uk D3.Ul D3.Zg D3.Um D3.Zh D3.Zi D3.Uo D3.Uq D3.La Int.reduceEq Int.reduceLE Int.reduceLT Nat.reduceAdd Nat.reduceEqDiff Nat.reduceLT Nat.reduceLeDiff reduceIte".splitOn " ").toArray.mapM λs=>`(Lean.Parser.Tactic.simpLemma|$(Lean.mkIdent s.toName):ident);`(tactic|simp only[$a,*,$xs,*]$[$l]?)
namespace My
noncomputable def vD (ns:List Int) (i:Int):Int :=
 if i < (ns.length:Int) then ns.getD i.toNat 0 % 1000000007
 else if ns=[] then 7919 * i + 5000011
 else ns.getD (i * 7 % (ns.length:Int)).toNat 0 % 1000000007 + 7919 * i
def divs (n:Int):Nat→Int
 | 0=>n
 | k + 1=>divs n k / 1000003
noncomputable def G3 (c i k m:Int):Int :=
 (((c + 65537 * i + 3) * (1299709 + 15485863 * k) % 2147483629 * ((c + 65537 * i + 3) * (1299709 + 15485863 * k) % 2147483629) % 1500450271 + 104729) *
  ((c + 65537 * i + 3) * (1299709 + 15485863 * k) % 2147483629 * ((c + 65537 * i + 3) * (1299709 + 15485863 * k) % 2147483629) % 1500450271 + 104729)) % 715827883 / 64 % m
def jB (ns:List Int) (i k m:Int):Int :=
 if i < (ns.length:Int)∧10 ^ 40 ≤ ns.getD i.toNat 0∧0 < divs (ns.getD i.toNat 0) k.toNat then divs (ns.getD i.toNat 0) k.toNat % 1000003 % m
 else G3 (vD ns i) i k m
theorem d8 (ns:List Int) (i k:Int) {m:Int} (h:0 < m):0 ≤ jB ns i k m∧jB ns i k m < m:=by
 unfold jB G3;split
 ·exact ⟨qz _ (by omega),nU _ h⟩
 ·exact ⟨qz _ (by omega),nU _ h⟩
theorem IW {ns:List Int} {i k m:Int} (h1:i < (ns.length:Int)) (h2:10 ^ 40 ≤ ns.getD i.toNat 0) (h3:0 < divs (ns.getD i.toNat 0) k.toNat) :
 jB ns i k m=divs (ns.getD i.toNat 0) k.toNat % 1000003 % m:=by
 unfold jB;rw [if_pos ⟨h1,h2,h3⟩]
theorem tK {ns:List Int} {i k m:Int} (h:¬ (i < (ns.length:Int)∧10 ^ 40 ≤ ns.getD i.toNat 0∧0 < divs (ns.getD i.toNat 0) k.toNat)) :
 jB ns i k m=G3 (vD ns i) i k m:=by
 unfold jB;rw [if_neg h]
end My
namespace Com
open PySem D3
def gQ:List D→Option D:=fnD 1 0 (cL (uH (dUn (gIs "int") (aj 0)) (Sd (dUn (gIs "bool") (aj 0)))))
def jk:List D→Option D:=fnD 2 0 (bQ (sIf (bh (dOp gLt (aj 1) (dCall jH (aq (aj 0) (aZ))))) (cL (dOp tE (dOp gIx (aj 0) (aj 1)) (dC (.int 1000000007)))) (dG))
    (bQ (sIf (bh (dOp gEq (aj 0) (mQ (aZ)))) (cL (dOp i_ (dOp mU (dC (.int 7919)) (aj 1)) (dC (.int 5000011)))) (dG))
    (cL (dOp i_ (dOp tE (dOp gIx (aj 0) (dOp tE (dOp mU (aj 1) (dC (.int 7))) (dCall jH (aq (aj 0) (aZ))))) (dC (.int 1000000007))) (dOp mU (dC (.int 7919)) (aj 1))))))
def bU:List D→Option D:=fnD 4 2 (bQ (sIf (D3.oA (bh (dOp gLt (aj 1) (dCall jH (aq (aj 0) (aZ))))) (bh (dOp gGe (dOp gIx (aj 0) (aj 1)) (dOp Sq (dC (.int 10)) (dC (.int 40)))))) (bQ (bM 4 (dOp gIx (aj 0) (aj 1)))
    (bQ (mF (pF (aq (aj 2) (aZ))) (gNl 5) (bM 4 (dOp BX (aj 4) (dC (.int 1000003)))))
    (sIf (bh (dOp gGt (aj 4) (dC (.int 0)))) (cL (dOp tE (dOp tE (aj 4) (dC (.int 1000003))) (aj 3))) (dG)))) (dG))
    (bQ (bM 4 (dOp tE (dOp mU (dOp i_ (dOp i_ (dCall jk (aq (aj 0) (aq (aj 1) (aZ)))) (dOp mU (dC (.int 65537)) (aj 1))) (dC (.int 3))) (dOp i_ (dC (.int 1299709)) (dOp mU (dC (.int 15485863)) (aj 2)))) (dC (.int 2147483629))))
    (bQ (bM 4 (dOp i_ (dOp tE (dOp mU (aj 4) (aj 4)) (dC (.int 1500450271))) (dC (.int 104729))))
    (cL (dOp tE (dOp BX (dOp tE (dOp mU (aj 4) (aj 4)) (dC (.int 715827883))) (dC (.int 64))) (aj 3))))))
def ig:List D→Option D:=fnD 2 0 (cL (o8 gLe gLt (dOp gIx (aj 0) (dC (.int 0))) (aj 1) (dOp gIx (aj 0) (dC (.int 1)))))
def pJ:List D→Option D:=fnD 2 2 (bQ (bM 2 (dCall wH (aq (dOp gIx (aj 0) (dC (.int 0))) (aq (dOp gIx (aj 1) (dC (.int 0))) (aZ)))))
    (bQ (bM 3 (dCall rG (aq (dOp gIx (aj 0) (dC (.int 1))) (aq (dOp gIx (aj 1) (dC (.int 1))) (aZ)))))
    (bQ (sIf (bh (dOp gGe (aj 2) (aj 3))) (cL (dC (.none))) (dG))
    (cL (dTup (aq (cW (aj 2)) (aq (cW (aj 3)) (aZ))))))))
def nq:List D→Option D:=fnD 2 0 (cL (dUn lK (dCall pJ (aq (aj 0) (aq (aj 1) (aZ))))))
def jc:List D→Option D:=fnD 2 0 (cL (dCall jH (aq (iw (lu (aj 0)) (gNl 0) (bh (dCall ig (aq (aj 0) (aq (aj 1) (aZ))))) (cW (aj 0)) 1 [1]) (aZ))))
def n8:List D→Option D:=fnD 1 0 (cL (iw (lu (aj 0)) (gNl 0) (kJ) (cW (dOp gIx (aj 0) (dC (.int 0)))) 1 []))
def lF:List D→Option D:=fnD 3 2 (bQ (bM 3 (iw (lu (dCall n8 (aq (aj 0) (aZ)))) (gNl 0) (bh (dOp gGt (aj 0) (aj 1))) (cW (aj 0)) 1 [2]))
    (bQ (mF (lu (dOp rH (mQ (aq (aj 2) (aZ))) (dCall vg (aq (aj 3) (aZ))))) (gNl 4) (sIf (bh (dOp gGt (dCall jc (aq (aj 0) (aq (aj 4) (aZ)))) (aj 1))) (cL (cW (aj 4))) (dG)))
    (cL (dC (.none)))))
def b_:List D→Option D:=fnD 1 0 (cL (dTup (aq (cW (dOp gIx (aj 0) (dC (.int 0)))) (aq (cW (dOp gIx (aj 0) (dC (.int 1)))) (aZ)))))
def gq:List D→Option D:=fnD 5 2 (bQ (bM 5 (dCall rG (aq (dC (.int 399)) (aq (dOp i_ (aj 4) (dCall bU (aq (aj 0) (aq (aj 1) (aq (aj 2) (aq (dOp gIx (mQ (aq (dC (.int 3)) (aq (dC (.int 9)) (aq (dC (.int 24)) (aq (dC (.int 60)) (aZ)))))) (aj 3)) (aZ))))))) (aZ)))))
    (bQ (bM 6 (dOp i_ (dC (.int 1)) (dCall bU (aq (aj 0) (aq (aj 1) (aq (dOp i_ (aj 2) (dC (.int 1))) (aq (dOp gIx (mQ (aq (dC (.int 2)) (aq (dC (.int 6)) (aq (dC (.int 24)) (aq (dC (.int 60)) (aZ)))))) (dCall bU (aq (aj 0) (aq (aj 1) (aq (dOp i_ (aj 2) (dC (.int 2))) (aq (dC (.int 4)) (aZ))))))) (aZ))))))))
    (cL (dTup (aq (cW (aj 5)) (aq (dCall rG (aq (dC (.int 400)) (aq (dOp i_ (aj 5) (aj 6)) (aZ)))) (aq (dC (.none)) (aZ))))))))
def fW:List D→Option D:=fnD 3 1 (bQ (bM 3 (dCall lF (aq (iw (lu (aj 0)) (gNl 0) (kJ) (dCall b_ (aq (aj 0) (aZ))) 1 []) (aq (aj 1) (aq (aj 2) (aZ))))))
    (sIf (bh (dUn lK (aj 3))) ((fun _=>none)) (dG)))
def cD:List D→Option D:=fnD 3 2 (bQ (bM 3 (dOp J7 (mQ (aq (aj 2) (aZ))) (aj 1)))
    (bQ (mF (lu (aj 0)) (gNl 4) (sIf (bh (dUn lK (dOp gIx (aj 4) (dC (.int 2))))) (uK 3 (dOp gIx (aj 4) (dC (.int 2))) (dOp gIx (aj 4) (dC (.int 1)))) (dG)))
    (cL (tV (aj 3)))))
def fX:List D→Option D:=fnD 2 0 (cL (cW (dOp gIx (iw (vh (aj 0)) (gTn 2 (cH (gNl 0) (cH (gNl 1) (ji)))) (bh (dOp gLe (aj 1) (aj 2))) (cW (aj 0)) 2 [1]) (dC (.int 0)))))
def iu:List D→Option D:=fnD 5 2 (bQ (bM 5 (dCall wH (aq (dC (.int 0)) (aq (dOp DK (aj 3) (dCall bU (aq (aj 0) (aq (aj 1) (aq (aj 2) (aq (dC (.int 6)) (aZ))))))) (aZ)))))
    (bQ (bM 6 (dCall bU (aq (aj 0) (aq (aj 1) (aq (dOp i_ (aj 2) (dC (.int 1))) (aq (dOp gIx (mQ (aq (dC (.int 2)) (aq (dC (.int 9)) (aq (dC (.int 30)) (aZ))))) (dCall bU (aq (aj 0) (aq (aj 1) (aq (dOp i_ (aj 2) (dC (.int 2))) (aq (dC (.int 3)) (aZ))))))) (aZ)))))))
    (cL (dTup (aq (cW (aj 5)) (aq (dCall rG (aq (dC (.int 400)) (aq (dOp i_ (dOp i_ (aj 3) (dC (.int 1))) (aj 6)) (aZ)))) (aq (cW (aj 4)) (aZ))))))))
def gB:List D→Option D:=fnD 3 1 (bQ (mF (lu (dCall vg (aq (dOp rH (mQ (aq (aj 2) (aZ))) (iw (lu (aj 0)) (gNl 0) (kJ) (dCall wH (aq (aj 1) (aq (dOp gIx (aj 0) (dC (.int 0))) (aZ)))) 1 [2])) (aZ)))) (gNl 3) (sIf (bh (dOp gGt (dCall jH (aq (iw (lu (aj 0)) (gNl 0) (D3.oA (bh (dOp gLe (dOp gIx (aj 0) (dC (.int 0))) (aj 1))) (bh (dOp gLt (aj 1) (dOp gIx (aj 0) (dC (.int 1)))))) (cW (aj 0)) 1 [3]) (aZ))) (aj 1))) (cL (cW (aj 3))) (dG)))
    (cL (dC (.none))))
def ju:List D→Option D:=fnD 4 7 (bQ (bM 4 (dCall bU (aq (aj 0) (aq (dC (.int 0)) (aq (dC (.int 0)) (aq (dC (.int 4)) (aZ)))))))
    (bQ (bM 5 (mQ (aZ)))
    (bQ (mF (pF (aq (aj 1) (aZ))) (gNl 6) (sIf (D3.oA (bh (dOp gEq (dCall bU (aq (aj 0) (aq (dC (.int 1)) (aq (aj 6) (aq (dC (.int 3)) (aZ)))))) (dC (.int 1)))) (bh (dOp gLt (dCall jH (aq (aj 5) (aZ))) (aj 3)))) (bQ (bM 7 (dCall bU (aq (aj 0) (aq (dC (.int 1)) (aq (dOp i_ (dC (.int 12)) (aj 6)) (aq (dOp i_ (dCall jH (aq (aj 5) (aZ))) (dC (.int 1))) (aZ)))))))
    (yx 5 (aj 7) (dCall iu (aq (aj 0) (aq (dC (.int 2)) (aq (dOp mU (dC (.int 3)) (aj 6)) (aq (aj 2) (aq (aj 6) (aZ))))))))) (dG)))
    (bQ (bM 8 (dOp gEq (dCall bU (aq (aj 0) (aq (dC (.int 0)) (aq (dC (.int 6)) (aq (dC (.int 6)) (aZ)))))) (dC (.int 1))))
    (bQ (mF (pF (aq (dOp gIx (mQ (aq (dC (.int 10)) (aq (dC (.int 30)) (aZ)))) (dCall J6 (aq (aj 8) (aZ)))) (aZ))) (gNl 9) (bQ (bM 10 (dCall gq (aq (aj 0) (aq (dOp i_ (dC (.int 10)) (aj 9)) (aq (dC (.int 0)) (aq (aj 4) (aq (aj 2) (aZ))))))))
    (bQ (bM 7 (dCall bU (aq (aj 0) (aq (dC (.int 4)) (aq (aj 9) (aq (dOp i_ (dCall jH (aq (aj 5) (aZ))) (dC (.int 1))) (aZ)))))))
    (sIf (D3.oA (bh (dOp gLt (dCall jH (aq (aj 5) (aZ))) (aj 3))) (bh (dUn rF (dCall gB (aq (dOp rH (aj 5) (mQ (aq (aj 10) (aZ)))) (aq (aj 1) (aq (aj 2) (aZ)))))))) (yx 5 (aj 7) (aj 10)) (dG)))))
    (cL (tV (aj 5))))))))
def cP:List D→Option D:=fnD 3 0 (bQ (sIf (bh (dUn lK (dOp gIx (aj 0) (dC (.int 2))))) (cL (dOp gEq (aj 1) (dOp gIx (aj 0) (dC (.int 2))))) (dG))
    (cL (o8 gLe gLt (dC (.int 0)) (aj 1) (aj 2))))
def iD:List D→Option D:=fnD 3 1 (bQ (mF (pF (aq (aj 2) (aZ))) (gNl 3) (sIf (D3.oA (bh (dOp gEq (dOp gIx (aj 1) (aj 3)) (dOp gIx (aj 1) (aj 2)))) (bh (dCall nq (aq (dCall b_ (aq (dOp gIx (aj 0) (aj 3)) (aZ))) (aq (dCall b_ (aq (dOp gIx (aj 0) (aj 2)) (aZ))) (aZ)))))) (cL (dC (.bool false))) (dG)))
    (cL (dC (.bool true))))
def fK:List D→Option D:=fnD 3 5 (bQ (bM 3 (mQ (aZ)))
    (bQ (mF (pF (aq (dCall jH (aq (aj 0) (aZ))) (aZ))) (gNl 4) (bQ (Ny (dOp gIx (aj 0) (aj 4)) (gTn 3 (cH (gNl 5) (cH (gNl 6) (cH (gNl 7) (ji))))))
    (bQ (sIf (bh (dOp gEq (aj 5) (aj 2))) (bM 7 (dOp gIx (aj 1) (aj 4))) (dG))
    (sIf (bh (dOp gGt (aj 6) (dOp i_ (aj 2) (dC (.int 1))))) (Ec 3 (dTup (aq (aj 5) (aq (aj 6) (aq (aj 7) (aZ)))))) (dG)))))
    (cL (tV (aj 3)))))
def fL:List D→Option D:=fnD 2 0 (sIf (D3.lU (bh (o8 gLe gLt (dC (.int 0)) (aj 1) (aj 0)))) ((fun _=>none)) (dG))
def jO:List D→Option D:=fnD 3 0 (cL (dOp gEq (dCall jc (aq (iw (lu (aj 0)) (gNl 0) (kJ) (dCall b_ (aq (aj 0) (aZ))) 1 []) (aq (aj 2) (aZ)))) (aj 1)))
def fY:List D→Option D:=fnD 4 1 (bQ (bM 4 (dOp gIx (aj 0) (aj 2)))
    (cL (uH (dOp gNe (aj 2) (aj 1)) (uH (dUn rF (dOp gIx (aj 4) (dC (.int 2)))) (uH (dOp gEq (dOp gIx (aj 4) (dC (.int 0))) (aj 3)) (dOp gLe (dOp gIx (aj 4) (dC (.int 1))) (dOp gIx (dOp gIx (aj 0) (aj 1)) (dC (.int 0)))))))))
def eU:List D→Option D:=fnD 4 1 (bQ (bM 4 (iw (vh (aj 0)) (gTn 2 (cH (gNl 0) (cH (gNl 1) (ji)))) (bh (dCall fY (aq (aj 2) (aq (aj 3) (aq (aj 0) (aq (aj 4) (aZ))))))) (cW (dTup (aq (dOp gIx (aj 1) (dC (.int 1))) (aq (aj 0) (aZ))))) 2 [0,2,3]))
    (bQ (sIf (D3.lU (bh (dCall jO (aq (aj 0) (aq (aj 1) (aq (aj 3) (aZ))))))) (Ec 4 (dTup (aq (dOp i_ (aj 3) (dC (.int 1))) (aq (dC (.none)) (aZ))))) (dG))
    (cL (tV (aj 4)))))
def j9:List D→Option D:=fnD 1 0 (cL (cW (dOp gIx (mQ (aq (dC (.int 0)) (aq (dCall bU (aq (aj 0) (aq (dC (.int 0)) (aq (dC (.int 1)) (aq (dC (.int 40)) (aZ)))))) (aq (dCall bU (aq (aj 0) (aq (dC (.int 0)) (aq (dC (.int 1)) (aq (dC (.int 400)) (aZ)))))) (aq (dC (.int 390)) (aZ)))))) (dCall bU (aq (aj 0) (aq (dC (.int 0)) (aq (dC (.int 2)) (aq (dC (.int 4)) (aZ)))))))))
def iU:List D→Option D:=fnD 1 0 (cL (dCall Ed (aq (iw (HW (aj 0) (dSl (aj 0) (zf (dC (.int 1))) zc)) (gTn 2 (cH (gNl 0) (cH (gNl 1) (ji)))) (kJ) (dOp gLt (aj 0) (aj 1)) 2 []) (aZ))))
def gC:List D→Option D:=fnD 4 2 (bQ (mF (lu (aj 3)) (gNl 4) (mF (lu (dCall eU (aq (aj 0) (aq (aj 1) (aq (aj 2) (aq (aj 4) (aZ))))))) (gNl 5) (sIf (bh (dOp qm (dOp gIx (aj 5) (dC (.int 0))) (aj 3))) (cL (dC (.bool false))) (dG))))
    (cL (dC (.bool true))))
def kj:List D→Option D:=fnD 2 0 (cL (uH (dOr (dUn lK (dOp gIx (aj 0) (dC (.int 2)))) (dOp gLt (dOp gIx (aj 0) (dC (.int 0))) (aj 1))) (dOp gGt (dOp gIx (aj 0) (dC (.int 1))) (aj 1))))
def fQ:List D→Option D:=fnD 6 2 (bQ (sIf (D3.tOr (bh (dOp gLt (aj 3) (aj 2))) (bh (dOp gEq (aj 4) (aj 5)))) ((fun _=>none)) (dG))
    (mF (HW (aj 0) (aj 1)) (gTn 2 (cH (gNl 6) (cH (gNl 7) (ji)))) (sIf (D3.oA (D3.tOr (bh (dOp gEq (aj 7) (aj 4))) (bh (dOp gEq (aj 7) (aj 5)))) (bh (dCall kj (aq (aj 6) (aq (aj 3) (aZ)))))) ((fun _=>none)) (dG))))
def iy:List D→Option D:=fnD 5 0 (bQ (sIf (bh (dOp gLt (dOp gIx (aj 0) (dC (.int 0))) (aj 2))) (cL (cW (aj 1))) (dG))
    (bQ (sIf (bh (dOp gEq (aj 1) (aj 3))) (cL (cW (aj 4))) (dG))
    (bQ (sIf (bh (dOp gEq (aj 1) (aj 4))) (cL (cW (aj 3))) (dG))
    (cL (cW (aj 1))))))
def gD:List D→Option D:=fnD 6 0 (bQ (pD (dCall fQ (aq (aj 0) (aq (aj 1) (aq (aj 2) (aq (aj 3) (aq (aj 4) (aq (aj 5) (aZ)))))))))
    (cL (iw (HW (aj 0) (aj 1)) (gTn 2 (cH (gNl 0) (cH (gNl 1) (ji)))) (kJ) (dCall iy (aq (aj 0) (aq (aj 1) (aq (aj 2) (aq (aj 3) (aq (aj 4) (aZ))))))) 2 [3,4,5])))
def jC:List D→Option D:=fnD 4 1 (bQ (bM 4 (iw (HW (aj 0) (aj 1)) (gTn 2 (cH (gNl 0) (cH (gNl 1) (ji)))) (bh (dCall ig (aq (dCall b_ (aq (aj 0) (aZ))) (aq (aj 2) (aZ))))) (cW (aj 1)) 2 [3]))
    (cL (iw (pF (aq (aj 2) (aZ))) (gNl 0) (bh (dOp qm (aj 0) (aj 1))) (cW (aj 0)) 1 [4])))
end Com
namespace Com
open PySem D3 My
theorem um {ns:List Int} {i:Int} (h0:0 ≤ i) (h1:i < ns.length):pAt (ns.map PyData.int) i=some (.int (ns.getD i.toNat 0)):=by
 unfold pAt pIx;rw [aD,if_pos h0,if_pos h1,aN,aP];have h:i.toNat < ns.length:=by omega
 rw [aV h];simp [List.getD,h]
theorem nu {l:List D} {k:Nat}:pAt l (k:Int)=l[k]?:=by
 unfold pAt pIx;rw [if_pos (by omega)];by_cases h:k < l.length
 ·rw [if_pos (by omega),aN];simp
 ·rw [if_neg (by omega),bF (by omega)];rfl
theorem at0 {a:D} {l:List D}:pAt (a :: l) 0=some a:=nu (k:=0)
theorem at1 {a b:D} {l:List D}:pAt (a :: b :: l) 1=some b:=nu (k:=1)
theorem Aj {i j:Int} (h:0 < j):tE (.int i) (.int j)=some (.int (i % j)):=by
 show (if decide (j ≠ 0)=true then some (PyData.int (i.fmod j)) else none)=_;rw [if_pos (dTr (by omega)),Int.fmod_eq_emod_of_nonneg i (by omega)]
theorem Le {j:Int} (h:j.natAbs < 2 ^ 64):j.natAbs < 2 ^ 9000:=bV h (Nat.pow_le_pow_right (by decide) (by decide))
theorem Zo {i j:Int} (h:0 < j) (h2:j.natAbs < 2 ^ 9000):BX (.int i) (.int j)=some (.int (i / j)):=by
 show (if Eb i j=true then some (PyData.int (i.fdiv j)) else none)=_;have e:Eb i j=true:=by
  unfold Eb;rw [aW];exact ⟨dTr (by omega),dTr h2⟩
 rw [if_pos e,Int.fdiv_eq_ediv_of_nonneg i (by omega)]
theorem Xo {i j:Int} (h:0 < j) (h2:j < 18446744073709551616):BX (.int i) (.int j)=some (.int (i / j)):=Zo h (Le (by omega))
theorem mulL {i j:Int} (h1 : -18446744073709551616 < i) (h2:i < 18446744073709551616):mU (.int i) (.int j)=some (.int (i * j)):=by
 show (if uJ i j=true then some (PyData.int (i * j)) else none)=_;have e:uJ i j=true:=by
  unfold uJ;rw [dTr (show i.natAbs < 2 ^ 64 by omega)];rfl
 rw [if_pos e]
theorem mulR {i j:Int} (h1 : -18446744073709551616 < j) (h2:j < 18446744073709551616):mU (.int i) (.int j)=some (.int (i * j)):=by
 show (if uJ i j=true then some (PyData.int (i * j)) else none)=_;have e:uJ i j=true:=by
  unfold uJ;rw [dTr (show j.natAbs < 2 ^ 64 by omega),Bool.or_true];rfl
 rw [if_pos e]
theorem Q7:Sq (.int 10) (.int 40)=some (.int (10 ^ 40)):=rfl
theorem sz {n:Nat} (h:n ≤ 1000000):n ≤ sizeLine:=bY h (by decide)
theorem shaped_ints (ns:List Int):SeqAt.shaped (.list (ns.map PyData.int))=true:=by
 have h1:∀ ns:List Int,PyData.canLayAll0 (ns.map PyData.int)=true:=fun ns=>by
  induction ns with
  | nil=>rfl
  | cons a r ih=>simp [PyData.canLayAll0,PyData.canLay0,ih]
 have h2:∀ ns:List Int,PyData.depthAll (ns.map PyData.int) ≤ 1:=fun ns=>by
  induction ns with
  | nil=>simp [PyData.depthAll]
  | cons a r ih=>simp [PyData.depthAll,PyData.depth];omega
 unfold SeqAt.shaped;rw [aW];refine ⟨by simp [PyData.canLay0,h1],dTr ?_⟩;have:=h2 ns;simp only [PyData.depth];omega
theorem eq_empty (ns:List Int):gEq (.list (ns.map PyData.int)) (.list [])=some (.bool (decide (ns=[]))):=by
 unfold gEq;rw [shaped_ints ns]
 cases ns with
 | nil=>rfl
 | cons a r=>rfl
theorem I_ {ns:List Int} {i:Int} (h0:0 ≤ i):jk [.list (ns.map .int),.int i]=some (.int (vD ns i)):=by
 unfold jk vD;by_cases h:i < (ns.length:Int)
 ·rw [if_pos h];simp![ak,lMp,dTr h,um h0 h,Aj (show (0:Int) < 1000000007 by decide)]
 ·rw [if_neg h];by_cases hn:ns=[]
  ·rw [if_pos hn];simp![ak,lMp,dFa h,eq_empty,dTr hn,iK,mulL (show (-18446744073709551616:Int) < 7919 by decide) (show (7919:Int) < 18446744073709551616 by decide)]
  ·rw [if_neg hn];have hl:0 < ns.length:=by
    cases ns with
    | nil=>exact absurd rfl hn
    | cons _ _=>simp
   have h7:0 ≤ i * 7 % (ns.length:Int):=qz _ (by omega);have h8:i * 7 % (ns.length:Int) < (ns.length:Int):=nU _ (by omega);simp![ak,lMp,dFa h,eq_empty,dFa hn,iK,mulL (show (-18446744073709551616:Int) < 7919 by decide) (show (7919:Int) < 18446744073709551616 by decide),mulR (show (-18446744073709551616:Int) < 7 by decide) (show (7:Int) < 18446744073709551616 by decide),Aj (show (0:Int) < 1000000007 by decide),Aj (show (0:Int) < ns.length by omega),um h7 h8]
theorem zM {l:D} {i k m:D} (n:Int):∀ (js:List D) (c:Nat) (y:Option U),(∀ j ∈ js,∃ x,j = .int x)→∃ y',jK (gNl 5) (bM 4 (dOp BX (aj 4) (dC (.int 1000003)))) js [some (.d l),some (.d i),some (.d k),some (.d m),some (.d (.int (divs n c))),y] =
 some (.nx [some (.d l),some (.d i),some (.d k),some (.d m),some (.d (.int (divs n (c + js.length)))),y'])
 | [],c,y,_=>⟨y,rfl⟩
 | j :: js,c,y,h=>by
  obtain ⟨y',e⟩:=zM (l:=l) (i:=i) (k:=k) (m:=m) n js (c + 1) (some (.d j)) fun j' hj=>h j' (aM _ hj)
  refine ⟨y',?_⟩;rw [jK];simp![ak,aC,Xo (show (0:Int) < 1000003 by decide) (show (1000003:Int) < 18446744073709551616 by decide),aN];rw [show c + (js.length + 1)=c + 1 + js.length by omega,← e];rfl
theorem Ja (lo hi:Int):∀ j ∈ fO lo hi,∃ x,j = .int x:=by
 intro j hj;obtain ⟨k,_,rfl⟩:=dR.mp hj;exact ⟨_,rfl⟩
theorem fj {ns:List Int} {i k m:Int} (h0:0 ≤ i) (hk0:0 ≤ k) (hk:k ≤ 1000) (hm:0 < m):bU [.list (ns.map .int),.int i,.int k,.int m]=some (.int (jB ns i k m)):=by
 have rest:∀ x y:Option U,qFn ((bQ (bM 4 (dOp tE (dOp mU (dOp i_ (dOp i_ (dCall jk (aq (aj 0) (aq (aj 1) (aZ)))) (dOp mU (dC (.int 65537)) (aj 1))) (dC (.int 3))) (dOp i_ (dC (.int 1299709)) (dOp mU (dC (.int 15485863)) (aj 2)))) (dC (.int 2147483629))))
  (bQ (bM 4 (dOp i_ (dOp tE (dOp mU (aj 4) (aj 4)) (dC (.int 1500450271))) (dC (.int 104729))))
  (cL (dOp tE (dOp BX (dOp tE (dOp mU (aj 4) (aj 4)) (dC (.int 715827883))) (dC (.int 64))) (aj 3))))) [some (.d (.list (ns.map .int))),some (.d (.int i)),some (.d (.int k)),some (.d (.int m)),x,y])=some (.int (G3 (vD ns i) i k m)):=by
  intro x y;simp![ak,aC,I_ h0,mulL (show (-18446744073709551616:Int) < 65537 by decide) (show (65537:Int) < 18446744073709551616 by decide),mulL (show (-18446744073709551616:Int) < 15485863 by decide) (show (15485863:Int) < 18446744073709551616 by decide),mulR (i:=vD ns i + 65537 * i + 3) (show (-18446744073709551616:Int) < 1299709 + 15485863 * k by omega) (show 1299709 + 15485863 * k < (18446744073709551616:Int) by omega),Aj (show (0:Int) < 2147483629 by decide)];simp only [mulL (show (-18446744073709551616:Int) < (vD ns i + 65537 * i + 3) * (1299709 + 15485863 * k) % 2147483629 by omega) (show (vD ns i + 65537 * i + 3) * (1299709 + 15485863 * k) % 2147483629 < (18446744073709551616:Int) by omega)];simp![ak,aC,Aj (show (0:Int) < 1500450271 by decide)];rw [mulL (by omega) (by omega)];simp![Aj (show (0:Int) < 715827883 by decide),Xo (show (0:Int) < 64 by decide) (show (64:Int) < 18446744073709551616 by decide),Aj hm];rfl
 unfold bU;rw [WL];simp![ak];by_cases h:i < (ns.length:Int)
 ·by_cases h2:10 ^ 40 ≤ ns.getD i.toNat 0
  ·simp![ak,aC,lMp,dTr h,um h0 h,Q7,dTr h2];obtain ⟨y',e⟩:=zM (l:=.list (ns.map .int)) (i:=.int i) (k:=.int k) (m:=.int m) (ns.getD i.toNat 0) (fO 0 k) 0 none (Ja 0 k);have el:0 + (fO 0 k).length=k.toNat:=by simp [fO]
   rw [el] at e;have e':jK (gNl 5) (bM 4 (dOp BX (aj 4) (dC (.int 1000003)))) (fO 0 k) [some (.d (.list (ns.map .int))),some (.d (.int i)),some (.d (.int k)),some (.d (.int m)),some (.d (.int (ns.getD i.toNat 0))),none] =
    some (.nx [some (.d (.list (ns.map .int))),some (.d (.int i)),some (.d (.int k)),some (.d (.int m)),some (.d (.int (divs (ns.getD i.toNat 0) k.toNat))),y']):=e
   rw [EY (by omega) (by omega)];simp![e'];by_cases h3:0 < divs (ns.getD i.toNat 0) k.toNat
   ·simp![dTr h3,Aj (show (0:Int) < 1000003 by decide),Aj hm];rw [IW h h2 h3]
   ·simp![dFa h3];rw [tK (fun z=>h3 z.2.2)];have:=rest (some (.d (.int (divs (ns.getD i.toNat 0) k.toNat)))) y';simp![] at this;exact this
  ·simp![lMp,dTr h,um h0 h,Q7,dFa h2];rw [tK (fun z=>h2 z.2.1)];have:=rest none none;simp![] at this;exact this
 ·simp![lMp,dFa h];rw [tK (fun z=>h z.1)];have:=rest none none;simp![] at this;exact this
end Com
namespace Com
open PySem D3 My
theorem uo {α:Type} {g:FG} {c:FT} {e:FE} {δ:DS} (f:α→D) (p:α→Bool) (h:α→D):∀ l:List α,(∀ s ∈ l,∃ δ1,g (f s) δ=some δ1∧c δ1=some (p s)∧(p s=true→e δ1=some (h s)))→eN g c e δ (l.map f)=some ((l.filter p).map h)
 | [],_=>rfl
 | s :: r,hs=>by
  obtain ⟨δ1,e1,e2,e3⟩:=hs s aK;have ih:=uo f p h r fun x hx=>hs x (aM _ hx)
  rw [bJ,eN,e1,aN,e2,aN];by_cases c:p s=true
  ·rw [if_pos c,e3 c,aN,ih,List.filter_cons,if_pos c];rfl
  ·rw [if_neg c,ih,List.filter_cons,if_neg c]
theorem Ak {α:Type} {g:FG} {c:FT} {e:FE} {δ:DS} (f:α→D) (h:α→D):∀ l:List α,(∀ s ∈ l,∃ δ1,g (f s) δ=some δ1∧c δ1=some true∧e δ1=some (h s))→eN g c e δ (l.map f)=some (l.map h)
 | [],_=>rfl
 | s :: r,hs=>by
  obtain ⟨δ1,e1,e2,e3⟩:=hs s aK;rw [bJ,eN,e1,aN,e2,aN,if_pos rfl,e3,aN,Ak f h r fun x hx=>hs x (aM _ hx)];rfl
theorem gJ {α:Type} (f:α→D) (h:∀ a,flat (f a)=true):∀ l:List α,flats (l.map f)=true
 | []=>rfl
 | a :: r=>by rw [bJ,flats,h,gJ f h r];rfl
theorem at2 {a b c:D} {l:List D}:pAt (a :: b :: c :: l) 2=some c:=nu (k:=2)
theorem at3 {a b c d:D} {l:List D}:pAt (a :: b :: c :: d :: l) 3=some d:=nu (k:=3)
theorem oX {m:Int}:(fO 0 m).length=m.toNat:=by unfold fO;rw [aD,aX,tO]
theorem uq (m:Int):fO 0 m=(aB m.toNat).map fun k:Nat=>PyData.int (k:Int):=by
 unfold fO;rw [tO];apply jd;intro k _;rw [Int.zero_add]
theorem xR {m:Int} {i:Nat} {d:D} (h:(fO 0 m)[i]? = some d):(i:Int) < m∧d = .int (i:Int):=by
 rw [uq,aP] at h;by_cases hi:i < m.toNat
 ·rw [cj hi] at h
  cases h;exact ⟨by omega,rfl⟩
 ·rw [bF (by simpa using hi)] at h
  cases h
theorem Xp {l:List D} {k:Int} (h:0 ≤ k):cutD l (some k) none=l.drop k.toNat:=by
 unfold cutD;have e:pSx l.length 0 (some k)=min k.toNat l.length:=by
  show (if k < 0 then _ else _)=_;rw [if_neg (by omega)]
 rw [e,show pSx l.length l.length none=l.length from rfl];by_cases c:k.toNat ≤ l.length
 ·rw [show min k.toNat l.length=k.toNat by omega,pU (by rw [jP];omega)]
 ·rw [show min k.toNat l.length=l.length by omega,pW (by omega),pW (by omega)];simp
theorem Q8 {l:List D} {k:Int} (h:0 ≤ k):cutD l none (some k)=l.take k.toNat:=by
 unfold cutD;have e:pSx l.length l.length (some k)=min k.toNat l.length:=by
  show (if k < 0 then _ else _)=_;rw [if_neg (by omega)]
 rw [e,show pSx l.length 0 none=0 from rfl,List.drop_zero,Nat.sub_zero,List.take_eq_take_iff];omega
theorem isList:D3.isT "list" "list" = true:=rfl
mutual
theorem eqv_refl:∀ d:D,d.canLay0=true→PyData.eqv d d=true
 | .none,_=>by simp [PyData.eqv]
 | .bool b,_=>by simp [PyData.eqv]
 | .int i,_=>by simp [PyData.eqv]
 | .str x,_=>by simp [PyData.eqv]
 | .list l,h=>by
  have:=eqvAll_refl l (by simpa [PyData.canLay0] using h);simpa [PyData.eqv] using this
 | .tuple l,h=>by
  have:=eqvAll_refl l (by simpa [PyData.canLay0] using h);simpa [PyData.eqv] using this
 | .dict l,h=>by simp [PyData.canLay0] at h
theorem eqvAll_refl:∀ l:List D,PyData.canLayAll0 l=true→PyData.eqvAll l l=true
 | [],_=>by simp [PyData.eqvAll]
 | d :: r,h=>by
  rw [PyData.canLayAll0,aW] at h;rw [PyData.eqvAll,eqv_refl d h.1,eqvAll_refl r h.2];rfl
end
def ly (n:Nat) (d:D):Prop:=d.canLay0=true∧d.depth ≤ n
def lys (n:Nat) (l:List D):Prop:=PyData.canLayAll0 l=true∧PyData.depthAll l ≤ n
theorem Lf {n m:Nat} {d:D} (h:ly n d) (l:n ≤ m):ly m d:=⟨h.1,bY h.2 l⟩
theorem Qd {n:Nat}:lys n []:=⟨by simp [PyData.canLayAll0],by simp [PyData.depthAll]⟩
theorem Lg {n:Nat} {d:D} {l:List D} (h:ly n d) (q:lys n l):lys n (d :: l) :=
 ⟨by rw [PyData.canLayAll0,h.1,q.1];rfl,by have:=h.2;have:=q.2;simp only [PyData.depthAll];omega⟩
theorem Al {α:Type} {n:Nat} (f:α→D) (h:∀ a,ly n (f a)):∀ l:List α,lys n (l.map f)
 | []=>Qd
 | a :: r=>Lg (h a) (Al f h r)
theorem G4 {n:Nat} {l:List D} (h:lys n l):ly (n + 1) (.list l):=⟨by simp [PyData.canLay0,h.1],by have:=h.2;simp only [PyData.depth];omega⟩
theorem Lh {n:Nat} {i:Int}:ly (n + 1) (.int i):=⟨rfl,by simp [PyData.depth]⟩
theorem uU {d:D} (h:ly 60 d):SeqAt.shaped d=true:=by
 unfold SeqAt.shaped;rw [aW];exact ⟨h.1,dTr (by have:=h.2;omega)⟩
theorem eq_self {d:D} (h:ly 60 d):gEq d d=some (.bool true):=by
 unfold gEq;rw [uU h,eqv_refl d h.1];rfl
theorem ne_self {d:D} (h:ly 60 d):gNe d d=some (.bool false):=by
 unfold gNe;rw [uU h,eqv_refl d h.1];rfl
theorem ne_nil {l:List D} (h:ly 60 (.list l)):gNe (.list l) (.list [])=some (.bool (!l.isEmpty)):=by
 unfold gNe;rw [uU h,show SeqAt.shaped (.list [])=true from rfl]
 cases l <;> simp [PyData.eqv,PyData.eqvAll]
end Com
namespace Com
open PySem D3 My
def q (t b:Int):Rat:=mkRat t b.toNat
end Com
namespace Com
open PySem D3 My
def sm (k:Nat) (x:Int):Prop:=x.natAbs < 2 ^ k
end Com
namespace Com
open PySem D3 My
structure Tb where
 N:Nat
 w:Nat→Int
 B:Int
def sumTo (f:Nat→Int):Nat→Int
 | 0=>0
 | n + 1=>sumTo f n + f n
structure TbOk (t:Tb) (k:Nat):Prop where
 B0:0 < t.B
 Bs:sm (7 * k + 1) t.B
 w0:∀ j,0 ≤ t.w j
 wB:∀ j,t.w j ≤ t.B
 wz:∀ j,t.N ≤ j→t.w j=0
 N1:1 ≤ t.N
 N4:t.N ≤ 1 + 4 * k
 sum:sumTo t.w t.N=t.B
theorem comp_map {g:FG} {c:FT} {e:FE} {δ:DS} (h:D→D):∀ l:List D,(∀ d ∈ l,∃ δ1,g d δ=some δ1∧c δ1=some true∧e δ1=some (h d))→eN g c e δ l=some (l.map h)
 | [],_=>rfl
 | d :: r,hs=>by
  obtain ⟨δ1,e1,e2,e3⟩:=hs d aK;rw [eN,e1,aN,e2,aN,if_pos rfl,e3,aN,comp_map h r fun x hx=>hs x (aM _ hx)];rfl
end Com
namespace Com
open PySem D3 My
end Com
namespace Com
open PySem D3 My
theorem sm1 (k:Nat) {x:Int} (h:x.natAbs ≤ 1):sm (k + 1) x:=by
 unfold sm;rw [Nat.pow_succ];have:=Nat.one_le_two_pow (n:=k);omega
structure bd (k:Nat) (a:Rat):Prop where
 n:sm k a.num
 d:sm k (a.den:Int)
end Com
namespace Com
open PySem D3 My
end Com
namespace Com
open PySem D3 My
abbrev Sh:=Int × Int
def stD (s:Sh):D:=.tuple [.int s.1,.int s.2]
def Jb (s:Sh):Prop:=0 ≤ s.1∧s.1 < s.2∧s.2 ≤ 400
def hb (n:Int) (s:Sh):Bool:=decide (s.1 ≤ n) && decide (n < s.2)
def cnt (ss:List Sh) (n:Int):Nat:=(ss.filter (hb n)).length
theorem Qe (r:Sh):flat (stD r)=true:=rfl
theorem E_ (s:Sh) (n:Int):ig [stD s,.int n]=some (.bool (hb n s)):=by
 unfold ig stD hb;by_cases h:s.1 ≤ n
 ·simp![ak,at1,dTr h,iZ]
 ·simp![ak,dFa h,f9]
theorem vG {g:FG} {c:FT} {e:FE} {δ:DS} (f:Sh→D) (p:Sh→Bool) (h:Sh→D):∀ l:List Sh,(∀ s ∈ l,∃ δ1,g (f s) δ=some δ1∧c δ1=some (p s)∧e δ1=some (h s))→eN g c e δ (l.map f)=some ((l.filter p).map h)
 | [],_=>rfl
 | s :: r,hs=>by
  obtain ⟨δ1,e1,e2,e3⟩:=hs s aK;have ih:=vG f p h r fun x hx=>hs x (aM _ hx)
  rw [bJ,eN,e1,aN,e2,aN]
  cases hp:p s with
  | true =>
   rw [if_pos rfl,e3,aN,ih,dY (by simpa using hp)];rfl
  | false =>
   rw [if_neg (by decide),ih,eZ (by simpa using hp)]
theorem xT {ss:List Sh} (hl:ss.length ≤ 1000) (n:Int):jc [.list (ss.map stD),.int n]=some (.int (cnt ss n:Int)):=by
 have C:=vG (g:=gNl 0) (c:=bh (dCall ig (aq (aj 0) (aq (aj 1) (aZ))))) (e:=cW (aj 0)) (δ:=[none,some (.d (.int n))]) stD (hb n) stD ss (fun s _=>⟨[some (.d (stD s)),some (.d (.int n))],rfl,by simp![E_],by simp![Qe]⟩);unfold jc;simp![ak,lMp,show ss.length ≤ 100000 by omega];rw [show jE 1 [1] [some (U.d (PyData.list (ss.map stD))),some (U.d (PyData.int n))]=[none,some (.d (.int n))] from rfl,C];simp![lMp];rfl
theorem CT {ss:List Sh} (hl:ss.length ≤ 1000):n8 [.list (ss.map stD)]=some (.list ((ss.map (·.1)).map .int)):=by
 unfold n8;have C:=comp_map (g:=gNl 0) (c:=D3.kJ) (e:=cW (dOp gIx (aj 0) (dC (.int 0)))) (δ:=[none]) (fun d=>match d with | .tuple (a :: _)=>a | _=>.none) (ss.map stD) (fun d hd=>by
  obtain ⟨r,_,rfl⟩:=dR.mp hd;refine ⟨[some (.d (stD r))],rfl,rfl,?_⟩;unfold stD;simp![])
 simp![lMp,show ss.length ≤ 100000 by omega];rw [show ∀ a:Option U,jE 1 [] [a]=[none] from fun _=>rfl,C];simp![];rw [dO,dO];rfl
end Com
namespace Com
open PySem D3 My
end Com
namespace Com
open PySem D3 My
theorem zl0:0 ≤ sizeLine:=iK _
theorem zl1:1 ≤ sizeLine:=sz (by decide)
theorem zl2:2 ≤ sizeLine:=sz (by decide)
theorem zl3:3 ≤ sizeLine:=sz (by decide)
theorem zl4:4 ≤ sizeLine:=sz (by decide)
abbrev Ty:=Int × Int × Option Nat
noncomputable def hD:Option Nat→D
 | none=>.none
 | some r=>.int (r:Int)
def yD (s:Ty):D:=.tuple [.int s.1,.int s.2.1,hD s.2.2]
theorem fli (i:Int):flat (.int i)=true:=rfl
theorem ur (s:Ty):flat (yD s)=true:=by
 obtain ⟨a,b,c⟩:=s
 cases c <;> rfl
noncomputable def hol (x:Int) (s:Ty):Bool:=decide (s.1 ≤ x) && decide (x < s.2.1)
def jw (L:List Ty) (x:Int):Nat:=(L.filter (hol x)).length
theorem Jc {L L':List Ty} (p:L.Perm L') (x:Int):jw L x=jw L' x:=(p.filter _).length_eq
theorem G5 (L:List Ty) (x:Int):jw L x ≤ L.length:=cQ _ _
theorem Fb (ns:List Int) {a m now:Int} (h0:0 ≤ a) (m0:0 ≤ m) (m1:m < 4) (n1:now ≤ 399) :
 ∃ s:Ty,(now ≤ s.1∧s.1 ≤ now + 59)∧(s.1 < s.2.1∧s.2.1 ≤ 400)∧s.2.2=none∧gq [.list (ns.map .int),.int a,.int 0,.int m,.int now]=some (yD s):=by
 have go:∀ A:Int,pAt [.int 3,.int 9,.int 24,.int 60] m=some (.int A)→0 < A→A ≤ 60→∃ s:Ty,(now ≤ s.1∧s.1 ≤ now + 59)∧(s.1 < s.2.1∧s.2.1 ≤ 400)∧s.2.2=none∧gq [.list (ns.map .int),.int a,.int 0,.int m,.int now]=some (yD s):=by
  intro A eA A0 A6;have p1:=fj (ns:=ns) (i:=a) (k:=0) (m:=A) h0 (by decide) (by decide) A0;have p2:=fj (ns:=ns) (i:=a) (k:=2) (m:=4) h0 (by decide) (by decide) (by decide);have r1:=d8 ns a 0 A0;have r2:=d8 ns a 2 (m:=4) (by decide);generalize jB ns a 0 A=x1 at *;generalize jB ns a 2 4=x2 at *;have inner:∀ B:Int,pAt [.int 2,.int 6,.int 24,.int 60] x2=some (.int B)→0 < B→∃ s:Ty,(now ≤ s.1∧s.1 ≤ now + 59)∧(s.1 < s.2.1∧s.2.1 ≤ 400)∧s.2.2=none∧gq [.list (ns.map .int),.int a,.int 0,.int m,.int now]=some (yD s):=by
   intro B eB B0;have p3:=fj (ns:=ns) (i:=a) (k:=1) (m:=B) h0 (by decide) (by decide) B0;have r3:=d8 ns a 1 B0;generalize jB ns a 1 B=x3 at *;refine ⟨(if now + x1 < 399 then now + x1 else 399,if (if now + x1 < 399 then now + x1 else 399) + (1 + x3) < 400 then (if now + x1 < 399 then now + x1 else 399) + (1 + x3) else 400,none),?_,?_,rfl,?_⟩
   ·dsimp only;refine ⟨?_,?_⟩ <;> split <;> omega
   ·dsimp only;refine ⟨?_,?_⟩ <;> split <;> split <;> omega
   ·have z1:(0:Int) + 1=1:=rfl;have z2:(0:Int) + 2=2:=rfl;unfold gq;simp![ak,aC,zl4,zl3,eA,p1,z1,z2,p2,eB,p3];rfl
  have:x2=0∨x2=1∨x2=2∨x2=3:=by omega
  rcases this with rfl | rfl | rfl | rfl
  ·exact inner 2 rfl (by decide)
  ·exact inner 6 rfl (by decide)
  ·exact inner 24 rfl (by decide)
  ·exact inner 60 rfl (by decide)
 have:m=0∨m=1∨m=2∨m=3:=by omega
 rcases this with rfl | rfl | rfl | rfl
 ·exact go 3 rfl (by decide) (by decide)
 ·exact go 9 rfl (by decide) (by decide)
 ·exact go 24 rfl (by decide) (by decide)
 ·exact go 60 rfl (by decide) (by decide)
theorem Fd (ns:List Int) {now:Int} {r:Nat} (hr:r ≤ 12) (n0:0 ≤ now) (n1:now ≤ 399) :
 ∃ b e:Int,(0 ≤ b∧b ≤ now)∧(now < e∧e ≤ 400)∧iu [.list (ns.map .int),.int 2,.int (3 * (r:Int)),.int now,.int (r:Int)]=some (yD (b,e,some r)):=by
 have p1:=fj (ns:=ns) (i:=2) (k:=3 * (r:Int)) (m:=6) (by decide) (by omega) (by omega) (by decide);have p2:=fj (ns:=ns) (i:=2) (k:=3 * (r:Int) + 2) (m:=3) (by decide) (by omega) (by omega) (by decide);have r1:=d8 ns 2 (3 * (r:Int)) (m:=6) (by decide);have r2:=d8 ns 2 (3 * (r:Int) + 2) (m:=3) (by decide);generalize jB ns 2 (3 * (r:Int)) 6=x1 at *;generalize jB ns 2 (3 * (r:Int) + 2) 3=x2 at *;have inner:∀ B:Int,pAt [.int 2,.int 9,.int 30] x2=some (.int B)→0 < B→∃ b e:Int,(0 ≤ b∧b ≤ now)∧(now < e∧e ≤ 400)∧iu [.list (ns.map .int),.int 2,.int (3 * (r:Int)),.int now,.int (r:Int)]=some (yD (b,e,some r)):=by
  intro B eB B0;have p3:=fj (ns:=ns) (i:=2) (k:=3 * (r:Int) + 1) (m:=B) (by decide) (by omega) (by omega) B0;have r3:=d8 ns 2 (3 * (r:Int) + 1) B0;generalize jB ns 2 (3 * (r:Int) + 1) B=x3 at *;refine ⟨if now - x1 > 0 then now - x1 else 0,if now + 1 + x3 < 400 then now + 1 + x3 else 400,?_,?_,?_⟩
  ·refine ⟨?_,?_⟩ <;> split <;> omega
  ·refine ⟨?_,?_⟩ <;> split <;> omega
  ·unfold iu;simp![ak,aC,zl3,p1,p2,eB,p3];rfl
 have:x2=0∨x2=1∨x2=2:=by omega
 rcases this with rfl | rfl | rfl
 ·exact inner 2 rfl (by decide)
 ·exact inner 9 rfl (by decide)
 ·exact inner 30 rfl (by decide)
theorem Li (ns:List Int):∃ now:Int,0 ≤ now∧now ≤ 399∧j9 [.list (ns.map .int)]=some (.int now):=by
 have p1:=fj (ns:=ns) (i:=0) (k:=1) (m:=40) (by decide) (by decide) (by decide) (by decide);have p2:=fj (ns:=ns) (i:=0) (k:=1) (m:=400) (by decide) (by decide) (by decide) (by decide);have p3:=fj (ns:=ns) (i:=0) (k:=2) (m:=4) (by decide) (by decide) (by decide) (by decide);have r1:=d8 ns 0 1 (m:=40) (by decide);have r2:=d8 ns 0 1 (m:=400) (by decide);have r3:=d8 ns 0 2 (m:=4) (by decide);generalize jB ns 0 1 40=x1 at *;generalize jB ns 0 1 400=x2 at *;generalize jB ns 0 2 4=x3 at *;have:x3=0∨x3=1∨x3=2∨x3=3:=by omega
 have fl:∀ i,flat (.int i)=true:=fun _=>rfl
 unfold j9;rcases this with rfl | rfl | rfl | rfl
 ·exact ⟨0,by omega,by omega,by simp![ak,zl4,p1,p2,p3,fl]⟩
 ·exact ⟨x1,by omega,by omega,by simp![ak,zl4,p1,p2,p3,at1,fl]⟩
 ·exact ⟨x2,by omega,by omega,by simp![ak,zl4,p1,p2,p3,at2,fl]⟩
 ·exact ⟨390,by omega,by omega,by simp![ak,zl4,p1,p2,p3,at3,fl]⟩
theorem Fe {g:FG} {b:FS} (Inv:DS→Prop) (P V:D→Prop):∀ (l:List D) (δ:DS),Inv δ→(∀ d ∈ l,∀ δ,Inv δ→∃ δ1,g d δ=some δ1∧((∃ δ',b δ1=some (.nx δ')∧Inv δ'∧P d)∨∃ v,b δ1=some (.rt v)∧V v)) →
 (∃ δ',jK g b l δ=some (.nx δ')∧Inv δ'∧∀ d ∈ l,P d)∨∃ v,jK g b l δ=some (.rt v)∧V v
 | [],δ,h,_=>.inl ⟨δ,rfl,h,fun _ z=>by cases z⟩
 | d :: l,δ,h,s=>by
  obtain ⟨δ1,e1,z⟩:=s d aK δ h;rcases z with ⟨δ',e2,h2,hp⟩ | ⟨v,e2,hv⟩
  ·have e:jK g b (d :: l) δ=jK g b l δ':=by rw [jK,e1,aN,e2,aN]
   rw [e];rcases Fe Inv P V l δ' h2 (fun d hd=>s d (aM _ hd)) with ⟨δ2,a1,a2,a3⟩ | z
   ·exact .inl ⟨δ2,a1,a2,fun x hx=>by
     rcases aY.mp hx with rfl | y
     ·exact hp
     ·exact a3 x y⟩
   ·exact .inr z
  ·exact .inr ⟨v,by rw [jK,e1,aN,e2,aN],hv⟩
theorem Jd {L:List Ty} {M:Nat} {now:Int} (hl:L.length ≤ 62) :
 (gB [.list (L.map yD),.int (M:Int),.int now]=some .none∧∀ s ∈ L,jw L (if s.1 > now then s.1 else now) ≤ M)∨∃ x,gB [.list (L.map yD),.int (M:Int),.int now]=some (.int x)∧M < jw L x:=by
 have C:eN (gNl 0) (D3.kJ) (dCall wH (aq (aj 1) (aq (dOp gIx (aj 0) (dC (.int 0))) (aZ)))) (jE 1 [2] [some (.d (.list (L.map yD))),some (.d (.int (M:Int))),some (.d (.int now)),none]) (L.map yD)=some ((L.map fun s=>if s.1 > now then s.1 else now).map PyData.int):=by
  rw [dO];exact Ak yD _ L fun s _=>⟨[some (.d (yD s)),some (.d (.int now))],rfl,rfl,by unfold yD;simp![ak,aC,au,aA,aF,aG,aH,at0,GX];rfl⟩
 have len:(L.map yD).length ≤ 100000:=by rw [aD];omega
 have C2:∀ x:Int,∀ u:Option U,eN (gNl 0) (D3.oA (bh (dOp gLe (dOp gIx (aj 0) (dC (.int 0))) (aj 1))) (bh (dOp gLt (aj 1) (dOp gIx (aj 0) (dC (.int 1)))))) (cW (aj 0)) (jE 1 [3] [some (.d (.list (L.map yD))),some (.d (.int (M:Int))),some (.d (.int now)),some (.d (.int x))]) (L.map yD)=some ((L.filter (hol x)).map yD):=fun x u =>
  uo yD (hol x) yD L fun s _=>⟨[some (.d (yD s)),some (.d (.int x))],rfl,by
   obtain ⟨a,b,c⟩:=s;unfold yD hol;simp![ak,aC,au,aA,aF,aG,aH,at0,at1]
   cases decide (a ≤ x) <;> simp only [xK,xM,iZ,f9] <;> simp![ak,aC,au,aA,aF,aG,aH,at0,at1],fun _=>by simp![ak,aC,au,aA,aF,aG,aH,ur]⟩
 let S:=now :: (L.map fun s=>if s.1 > now then s.1 else now)
 have gs:vg [.list (S.map PyData.int)]=some (.list ((qd S).map .int)):=by
  unfold vg;have:S.length < 64:=by show (L.map _).length + 1 < 64;rw [aD];omega
  simp only [lY,aN,if_pos this]
 have cat:rH (.list [.int now]) (.list ((L.map fun s=>if s.1 > now then s.1 else now).map PyData.int))=some (.list (S.map PyData.int)):=by
  rw [xP,if_pos (by rw [aD,aD];show 1 + L.length ≤ _;omega)];rfl
 have F:=Fe (g:=(gNl 3)) (b:=(sIf (bh (dOp gGt (dCall jH (aq (iw (lu (aj 0)) (gNl 0) (D3.oA (bh (dOp gLe (dOp gIx (aj 0) (dC (.int 0))) (aj 1))) (bh (dOp gLt (aj 1) (dOp gIx (aj 0) (dC (.int 1)))))) (cW (aj 0)) 1 [3]) (aZ))) (aj 1))) (cL (cW (aj 3))) (dG))) (fun δ=>∃ u,δ=[some (.d (.list (L.map yD))),some (.d (.int (M:Int))),some (.d (.int now)),u]) (fun d=>∀ x,d = .int x→jw L x ≤ M) (fun v=>∃ x,v = .int x∧M < jw L x) ((qd S).map .int)
  [some (.d (.list (L.map yD))),some (.d (.int (M:Int))),some (.d (.int now)),none] ⟨none,rfl⟩ (by
   rintro d hd δ ⟨u,rfl⟩;obtain ⟨x,hx,rfl⟩:=dR.mp hd;refine ⟨[some (.d (.list (L.map yD))),some (.d (.int (M:Int))),some (.d (.int now)),some (.d (.int x))],rfl,?_⟩;have c2:=C2 x none;have lf:((L.filter (hol x)).map yD).length=jw L x:=by rw [aD];rfl
   by_cases z:jw L x ≤ M
   ·left
    refine ⟨[some (.d (.list (L.map yD))),some (.d (.int (M:Int))),some (.d (.int now)),some (.d (.int x))],?_,⟨_,rfl⟩,fun y hy=>by cases hy;exact z⟩;have:decide ((jw L x:Int) > (M:Int))=false:=dFa (by omega);simp![ak,aC,au,aA,aF,aG,aH,len,c2,lf,this]
   ·right
    refine ⟨.int x,?_,x,rfl,by omega⟩;have:decide ((jw L x:Int) > (M:Int))=true:=dTr (by omega);have fl:flat (.int x)=true:=rfl;simp![ak,aC,au,aA,aF,aG,aH,len,c2,lf,this,fl])
 rcases F with ⟨δ',e,⟨u,rfl⟩,hP⟩ | ⟨v,e,x,rfl,hx⟩
 ·left
  refine ⟨?_,fun s hs=>hP (.int (if s.1 > now then s.1 else now)) (List.mem_map_of_mem ((jg S).mem_iff.mpr (aM _ (dR.mpr ⟨s,hs,rfl⟩)))) _ rfl⟩;unfold gB;simp![ak,aC,au,aA,aF,aG,aH,zl1,len,C,cat,gs];rw [e];simp![ak,aC,au,aA,aF,aG,aH]
 ·right
  refine ⟨x,?_,hx⟩;unfold gB;simp![ak,aC,au,aA,aF,aG,aH,zl1,len,C,cat,gs];rw [e];simp![ak,aC,au,aA,aF,aG,aH]
end Com
namespace Com
open PySem D3 My
structure TOk (L:List Ty) (M:Nat) (now:Int):Prop where
 len:L.length ≤ 24
 ok:∀ s ∈ L,s.1 < s.2.1∧(∀ r,s.2.2=some r→r < M∧s.1 ≤ now∧now < s.2.1)∧(s.2.2=none→now ≤ s.1)
 nd:(L.filterMap (·.2.2)).Nodup
 full:∀ s ∈ L,jw L (if s.1 > now then s.1 else now) ≤ M
 bd:∀ s ∈ L,0 ≤ s.1∧s.2.1 ≤ 400
 nr:∀ s ∈ L,s.2.2=none→s.1 ≤ now + 59
def CV (k:Nat) (s:Ty) (L:List Ty):List Ty:=L.take k++s :: L.drop k
theorem zN (k:Nat) (s:Ty) (L:List Ty):(CV k s L).Perm (s :: L):=by
 refine List.perm_middle.trans ?_;rw [jD]
theorem CW {s:Ty} {L:List Ty} {j:Int} (hl:L.length ≤ 1000) (h0:0 ≤ j) (h1:j ≤ 1000):∃ k,Ep j (yD s) (L.map yD)=some ((CV k s L).map yD):=by
 refine ⟨Cq (L.map yD).length j,?_⟩;unfold Ep;rw [if_pos ⟨by rw [aD];omega,by omega,by omega⟩];unfold CV;rw [cV,bJ,List.map_take,List.map_drop]
theorem Lj {L:List Ty} (h:∀ s ∈ L,∃ r,s.2.2=some r):(L.filterMap (·.2.2)).length=L.length:=by
 induction L with
 | nil=>rfl
 | cons s L ih =>
  obtain ⟨r,e⟩:=h s aK;rw [eE,e];show _ + 1=_ + 1;rw [ih fun s hs=>h s (aM _ hs)]
theorem Qf (x:Int):decide (x=1)=true∨decide (x=1)=false:=by cases decide (x=1) <;> simp
theorem CZ (ns:List Int) {M:Nat} {now B:Int} (hM:M ≤ 12) (n0:0 ≤ now) (n1:now ≤ 399) (b1:1 ≤ B) (b2:B ≤ 24) :
 ∃ L:List Ty,TOk L M now∧(1 ≤ M→L ≠ [])∧ju [.list (ns.map .int),.int (M:Int),.int now,.int B]=some (.list (L.map yD)):=by
 have p0:=fj (ns:=ns) (i:=0) (k:=0) (m:=4) (by decide) (by decide) (by decide) (by decide);have r0:=d8 ns 0 0 (m:=4) (by decide);have p6:=fj (ns:=ns) (i:=0) (k:=6) (m:=6) (by decide) (by decide) (by decide) (by decide);generalize jB ns 0 0 4=mo at *;generalize jB ns 0 6 6=wi at *;have rg:qW (some [.int (M:Int)])=some (fO 0 (M:Int)):=EY (by omega) (by omega);obtain ⟨bw,hb⟩:∃ bw,decide (wi=1)=bw:=⟨_,rfl⟩;obtain ⟨δ1,e1,L1,u6,u7,l1,g1,d1,rfl⟩:=jt (g:=(gNl 6)) (b:=(sIf (D3.oA (bh (dOp gEq (dCall bU (aq (aj 0) (aq (dC (.int 1)) (aq (aj 6) (aq (dC (.int 3)) (aZ)))))) (dC (.int 1)))) (bh (dOp gLt (dCall jH (aq (aj 5) (aZ))) (aj 3)))) (bQ (bM 7 (dCall bU (aq (aj 0) (aq (dC (.int 1)) (aq (dOp i_ (dC (.int 12)) (aj 6)) (aq (dOp i_ (dCall jH (aq (aj 5) (aZ))) (dC (.int 1))) (aZ))))))) (yx 5 (aj 7) (dCall iu (aq (aj 0) (aq (dC (.int 2)) (aq (dOp mU (dC (.int 3)) (aj 6)) (aq (aj 2) (aq (aj 6) (aZ))))))))) (dG)))
  (fun i δ=>∃ (L:List Ty) (u6 u7:Option U),L.length ≤ 24∧(∀ s ∈ L,∃ r,s.2.2=some r∧r < i∧(0 ≤ s.1∧s.1 ≤ now)∧(now < s.2.1∧s.2.1 ≤ 400))∧(L.filterMap (·.2.2)).Nodup ∧
   δ=[some (.d (.list (ns.map .int))),some (.d (.int (M:Int))),some (.d (.int now)),some (.d (.int B)),some (.d (.int mo)),some (.d (.list (L.map yD))),u6,u7,none,none,none]) (fO 0 (M:Int))
  [some (.d (.list (ns.map .int))),some (.d (.int (M:Int))),some (.d (.int now)),some (.d (.int B)),some (.d (.int mo)),some (.d (.list [])),none,none,none,none,none]
  ⟨[],none,none,by decide,fun _ h=>(by cases h),rm,rfl⟩ (by
   rintro i d δ hd ⟨L,u6,u7,l1,g1,d1,rfl⟩;obtain ⟨hi,rfl⟩:=xR hd;have g1':∀ s ∈ L,∃ r,s.2.2=some r∧r < i + 1∧(0 ≤ s.1∧s.1 ≤ now)∧(now < s.2.1∧s.2.1 ≤ 400):=fun s hs=>by
    obtain ⟨r,a,b,c⟩:=g1 s hs;exact ⟨r,a,by omega,c⟩
   have q1:=fj (ns:=ns) (i:=1) (k:=(i:Int)) (m:=3) (by decide) (by omega) (by omega) (by decide);have q2:=fj (ns:=ns) (i:=1) (k:=12 + (i:Int)) (m:=(L.length:Int) + 1) (by decide) (by omega) (by omega) (by omega);have q2r:=d8 ns 1 (12 + (i:Int)) (m:=(L.length:Int) + 1) (by omega);obtain ⟨b,e,gb,ge,gs⟩:=Fd ns (r:=i) (by omega) n0 n1;generalize jB ns 1 (i:Int) 3=y1 at *;generalize jB ns 1 (12 + (i:Int)) ((L.length:Int) + 1)=y2 at *;obtain ⟨k,ek⟩:=CW (s:=(b,e,some i)) (L:=L) (j:=y2) (by omega) q2r.1 (by omega);have ll:((L.map yD).length:Int)=(L.length:Int):=by rw [aD]
   have m3:mU (.int 3) (.int (i:Int))=some (.int (3 * (i:Int))):=mulL (by decide) (by decide);rcases Qf y1 with z | z
   ·by_cases hlt:(L.length:Int) < B
    ·have z2:decide ((L.length:Int) < B)=true:=dTr (by omega);refine ⟨_,[some (.d (.list (ns.map .int))),some (.d (.int (M:Int))),some (.d (.int now)),some (.d (.int B)),some (.d (.int mo)),some (.d (.list ((CV k (b,e,some i) L).map yD))),some (.d (.int (i:Int))),some (.d (.int y2)),none,none,none],rfl,.inl ?_,?_⟩
     ·simp![ak,aC,au,aA,aF,aG,aH,q1,z,ll,z2,q2,m3,gs,Ks,Aa,Tc ek]
     ·have pm:=zN k (b,e,some i) L;refine ⟨CV k (b,e,some i) L,_,_,?_,fun s hs=>?_,?_,rfl⟩
      ·rw [pm.length_eq,bH];omega
      ·rcases aY.mp (pm.mem_iff.mp hs) with rfl | y
       ·exact ⟨i,rfl,by omega,gb,ge⟩
       ·exact g1' s y
      ·rw [(pm.filterMap _).nodup_iff];show (i :: L.filterMap _).Nodup;refine cF.mpr ⟨fun y=>?_,d1⟩;obtain ⟨s,hs,es⟩:=fP.mp y;obtain ⟨r,a,c,_⟩:=g1 s hs;rw [a] at es
       cases es;omega
    ·have z2:decide ((L.length:Int) < B)=false:=dFa (by omega);refine ⟨_,[some (.d (.list (ns.map .int))),some (.d (.int (M:Int))),some (.d (.int now)),some (.d (.int B)),some (.d (.int mo)),some (.d (.list (L.map yD))),some (.d (.int (i:Int))),u7,none,none,none],rfl,.inl ?_,L,_,_,l1,g1',d1,rfl⟩;simp![ak,aC,au,aA,aF,aG,aH,q1,z,ll,z2]
   ·refine ⟨_,[some (.d (.list (ns.map .int))),some (.d (.int (M:Int))),some (.d (.int now)),some (.d (.int B)),some (.d (.int mo)),some (.d (.list (L.map yD))),some (.d (.int (i:Int))),u7,none,none,none],rfl,.inl ?_,L,_,_,l1,g1',d1,rfl⟩;simp![ak,aC,au,aA,aF,aG,aH,q1,z])
 rw [oX] at g1;have ok1:TOk L1 M now:=by
  have hs:∀ s ∈ L1,∃ r,s.2.2=some r:=fun s hs=>let ⟨r,a,_⟩:=g1 s hs;⟨r,a⟩
  have lM:L1.length ≤ M:=by
   rw [← Lj hs];have:=List.Nodup.length_le_of_subset (l₂:=aB M) d1 fun r hr=>by
    obtain ⟨s,h1,h2⟩:=fP.mp hr;obtain ⟨r',a,b,_⟩:=g1 s h1;rw [a] at h2
    cases h2;exact aQ.mpr (by omega)
   rwa [aX] at this
  refine ⟨l1,fun s h=>?_,d1,fun s h=>bY (G5 _ _) lM,fun s h=>(let ⟨_,_,_,c,d⟩:=g1 s h;⟨c.1,d.2⟩),fun s h e=>(by obtain ⟨r,a,_⟩:=g1 s h;rw [a] at e;cases e)⟩;obtain ⟨r,a,b,c,d⟩:=g1 s h;refine ⟨by omega,fun r' e=>?_,fun e=>(by rw [a] at e;cases e)⟩;rw [a] at e
  cases e;exact ⟨by omega,c.2,d.1⟩
 clear g1 d1 l1;have loop:∀ N:Int,0 ≤ N→N ≤ 30→∃ δ',jK (gNl 9) (bQ (bM 10 (dCall gq (aq (aj 0) (aq (dOp i_ (dC (.int 10)) (aj 9)) (aq (dC (.int 0)) (aq (aj 4) (aq (aj 2) (aZ)))))))) (bQ (bM 7 (dCall bU (aq (aj 0) (aq (dC (.int 4)) (aq (aj 9) (aq (dOp i_ (dCall jH (aq (aj 5) (aZ))) (dC (.int 1))) (aZ))))))) (sIf (D3.oA (bh (dOp gLt (dCall jH (aq (aj 5) (aZ))) (aj 3))) (bh (dUn rF (dCall gB (aq (dOp rH (aj 5) (mQ (aq (aj 10) (aZ)))) (aq (aj 1) (aq (aj 2) (aZ)))))))) (yx 5 (aj 7) (aj 10)) (dG)))) (fO 0 N) [some (.d (.list (ns.map .int))),some (.d (.int (M:Int))),some (.d (.int now)),some (.d (.int B)),some (.d (.int mo)),some (.d (.list (L1.map yD))),u6,u7,some (.d (.bool (bw))),none,none]=some (.nx δ') ∧
  ∃ (L:List Ty) (u7 u9 u10:Option U),TOk L M now∧(0 < N→1 ≤ M→L ≠ [])∧δ'=[some (.d (.list (ns.map .int))),some (.d (.int (M:Int))),some (.d (.int now)),some (.d (.int B)),some (.d (.int mo)),some (.d (.list (L.map yD))),u6,u7,some (.d (.bool (bw))),u9,u10]:=by
  intro N N0 N1;have:=jt (g:=(gNl 9)) (b:=(bQ (bM 10 (dCall gq (aq (aj 0) (aq (dOp i_ (dC (.int 10)) (aj 9)) (aq (dC (.int 0)) (aq (aj 4) (aq (aj 2) (aZ)))))))) (bQ (bM 7 (dCall bU (aq (aj 0) (aq (dC (.int 4)) (aq (aj 9) (aq (dOp i_ (dCall jH (aq (aj 5) (aZ))) (dC (.int 1))) (aZ))))))) (sIf (D3.oA (bh (dOp gLt (dCall jH (aq (aj 5) (aZ))) (aj 3))) (bh (dUn rF (dCall gB (aq (dOp rH (aj 5) (mQ (aq (aj 10) (aZ)))) (aq (aj 1) (aq (aj 2) (aZ)))))))) (yx 5 (aj 7) (aj 10)) (dG))))) (fun i δ=>∃ (L:List Ty) (u7 u9 u10:Option U),TOk L M now∧(0 < i→1 ≤ M→L ≠ [])∧δ=[some (.d (.list (ns.map .int))),some (.d (.int (M:Int))),some (.d (.int now)),some (.d (.int B)),some (.d (.int mo)),some (.d (.list (L.map yD))),u6,u7,some (.d (.bool (bw))),u9,u10]) (fO 0 N) [some (.d (.list (ns.map .int))),some (.d (.int (M:Int))),some (.d (.int now)),some (.d (.int B)),some (.d (.int mo)),some (.d (.list (L1.map yD))),u6,u7,some (.d (.bool (bw))),none,none] ⟨L1,u7,none,none,ok1,fun z=>absurd z (iY 0),rfl⟩ ?step
  ·obtain ⟨δ',e,L,a,b,c,h1,h2,h3⟩:=this;exact ⟨δ',e,L,a,b,c,h1,fun z=>h2 (by rw [oX];omega),h3⟩
  rintro i d δ hd ⟨L,u7,u9,u10,ok,_,rfl⟩;obtain ⟨hi,rfl⟩:=xR hd;have l24:=ok.len;obtain ⟨s,s1,s2,s3,es⟩:=Fb ns (a:=10 + (i:Int)) (m:=mo) (now:=now) (by omega) r0.1 r0.2 n1;have q2:=fj (ns:=ns) (i:=4) (k:=(i:Int)) (m:=(L.length:Int) + 1) (by decide) (by omega) (by omega) (by omega);have q2r:=d8 ns 4 (i:Int) (m:=(L.length:Int) + 1) (by omega);generalize jB ns 4 (i:Int) ((L.length:Int) + 1)=y2 at *;obtain ⟨k,ek⟩:=CW (s:=s) (L:=L) (j:=y2) (by omega) q2r.1 (by omega);have ll:((L.map yD).length:Int)=(L.length:Int):=by rw [aD]
  by_cases hlt:(L.length:Int) < B
  ·have z2:decide ((L.length:Int) < B)=true:=dTr (by omega);have cat:rH (.list (L.map yD)) (.list [yD s])=some (.list ((L++[s]).map yD)):=by
    rw [xP,if_pos (by rw [aD];show L.length + 1 ≤ _;omega),cV];rfl
   rcases Jd (L:=L++[s]) (M:=M) (now:=now) (by rw [bL];show L.length + 1 ≤ 62;omega) with ⟨f1,f2⟩ | ⟨x,f1,f3⟩
   ·have nN:isNone .none=true:=rfl;refine ⟨_,[some (.d (.list (ns.map .int))),some (.d (.int (M:Int))),some (.d (.int now)),some (.d (.int B)),some (.d (.int mo)),some (.d (.list ((CV k s L).map yD))),u6,some (.d (.int y2)),some (.d (.bool (bw))),some (.d (.int (i:Int))),some (.d (yD s))],rfl,.inl ?_,?_⟩
    ·simp![ak,aC,au,aA,aF,aG,aH,es,ll,q2,z2,zl1,cat,f1,nN,Ks,Aa,Tc ek]
    ·have pm:=zN k s L;have pm2:(CV k s L).Perm (L++[s]):=pm.trans (List.perm_append_singleton s L).symm;refine ⟨CV k s L,_,_,_,⟨?_,fun t ht=>?_,?_,fun t ht=>?_,fun t ht=>?_,fun t ht en=>?_⟩,fun _ _ z=>by (have:=pm.length_eq;rw [z] at this;cases this),rfl⟩
     ·rw [pm.length_eq,bH];omega
     ·rcases aY.mp (pm.mem_iff.mp ht) with rfl | y
      ·exact ⟨s2.1,fun r e=>(by rw [s3] at e;cases e),fun _=>s1.1⟩
      ·exact ok.ok t y
     ·rw [(pm.filterMap _).nodup_iff,eE,s3];exact ok.nd
     ·rw [Jc pm2];exact f2 t (pm2.mem_iff.mp ht)
     ·rcases aY.mp (pm.mem_iff.mp ht) with rfl | y
      ·exact ⟨kO n0 s1.1,s2.2⟩
      ·exact ok.bd t y
     ·rcases aY.mp (pm.mem_iff.mp ht) with rfl | y
      ·exact s1.2
      ·exact ok.nr t y en
   ·have nN:isNone (.int x)=false:=rfl;refine ⟨_,[some (.d (.list (ns.map .int))),some (.d (.int (M:Int))),some (.d (.int now)),some (.d (.int B)),some (.d (.int mo)),some (.d (.list (L.map yD))),u6,some (.d (.int y2)),some (.d (.bool (bw))),some (.d (.int (i:Int))),some (.d (yD s))],rfl,.inl ?_,L,_,_,_,ok,fun _ m1 z=>by
     rw [z] at f3;have:=G5 [s] x;have f3:M < jw [s] x:=f3;have:jw [s] x ≤ 1:=this;omega,rfl⟩
    simp![ak,aC,au,aA,aF,aG,aH,es,ll,q2,z2,zl1,cat,f1,nN]
  ·have z2:decide ((L.length:Int) < B)=false:=dFa (by omega);refine ⟨_,[some (.d (.list (ns.map .int))),some (.d (.int (M:Int))),some (.d (.int now)),some (.d (.int B)),some (.d (.int mo)),some (.d (.list (L.map yD))),u6,some (.d (.int y2)),some (.d (.bool (bw))),some (.d (.int (i:Int))),some (.d (yD s))],rfl,.inl ?_,L,_,_,_,ok,fun _ _ z=>by rw [z] at hlt;exact hlt (by show ((0:Nat):Int) < B;omega),rfl⟩;simp![ak,aC,au,aA,aF,aG,aH,es,ll,q2,z2]
 have w10:pAt [.int 10,.int 30] (if bw=true then 1 else 0)=some (.int (if bw=true then 30 else 10)):=by
  cases bw <;> rfl
 have iN:J6 [.bool (bw)]=some (.int (if bw=true then 1 else 0)):=rfl;obtain ⟨δ2,e2,L,v7,v9,v10,ok,hne,rfl⟩:=loop (if bw=true then 30 else 10) (by split <;> decide) (by split <;> decide);refine ⟨L,ok,hne (by split <;> decide),?_⟩;clear hne;have rg2:qW (some [.int (if bw=true then 30 else 10)])=some (fO 0 (if bw=true then 30 else 10)):=EY (by split <;> decide) (by split <;> decide);have fl:flats (L.map yD)=true:=gJ _ ur L;unfold ju;simp![ak,aC,au,aA,aF,aG,aH,p0,zl0,rg];rw [e1];generalize (if bw=true then (30:Int) else 10)=NN at *;simp![ak,aC,au,aA,aF,aG,aH,p6,hb,zl2,iN,w10,rg2];rw [e2];simp![ak,aC,au,aA,aF,aG,aH,xQ,fl]
end Com
namespace Xg
structure Ss where
 n:Nat
 fst:Nat→Int
 bhd:Nat→Int
 hld:Nat→Bool
 now:Int
structure Ss.Ok (S:Ss):Prop where
 lt:∀ k,k < S.n→S.fst k < S.bhd k
 h1:∀ k,k < S.n→S.hld k=true→S.fst k ≤ S.now∧S.now < S.bhd k
 h2:∀ k,k < S.n→S.hld k=false→S.now ≤ S.fst k
def Valid (S:Ss) (h:Nat→Int):Prop:=∀ k l,k < S.n→l < S.n→k ≠ l→S.fst k < S.bhd l→S.fst l < S.bhd k→h k ≠ h l
def hind (S:Ss) (t:Int) (k:Nat):Prop:=(S.hld k=true∨S.fst k < t)∧t < S.bhd k
noncomputable def swp (S:Ss) (h:Nat→Int) (t a b:Int) (k:Nat):Int:=if S.fst k < t then h k else if h k=a then b else if h k=b then a else h k
structure Agr (S:Ss) (h o:Nat→Int) (done:Nat→Prop):Prop where
 held:∀ k,k < S.n→S.hld k=true→h k=o k
 don:∀ k,k < S.n→done k→h k=o k
section
variable {S:Ss} {h o:Nat→Int} {done:Nat→Prop} {p:Nat}
theorem Uy (K:S.Ok) (Vh:Valid S h) (Vo:Valid S o) (A:Agr S h o done) (hp:p < S.n) (hf:S.hld p=false) (hl:∀ k,k < S.n→S.hld k=false→S.fst k < S.fst p→done k) :
 ∀ k,k < S.n→(h k=h p∨h k=o p)→¬ hind S (S.fst p) k:=by
 intro k hk e ⟨c1,c2⟩;have ne:k ≠ p:=fun z=>by
  subst z;rcases c1 with c1 | c1
  ·rw [hf] at c1;cases c1
  ·omega
 have le:S.fst k ≤ S.fst p:=by
  rcases c1 with c1 | c1
  ·have:=(K.h1 k hk c1).1;have:=K.h2 p hp hf;omega
  ·omega
 have ag:h k=o k:=by
  cases z:S.hld k with
  | true=>exact A.held k hk z
  | false =>
   rcases c1 with c1 | c1
   ·rw [z] at c1;cases c1
   ·exact A.don k hk (hl k hk z c1)
 have lp:=K.lt p hp;rcases e with e | e
 ·exact Vh k p hk hp ne (by omega) c2 e
 ·exact Vo k p hk hp ne (by omega) c2 (ag.symm.trans e)
theorem G6 {t x y:Int} (Vh:Valid S h) (nh:∀ k,k < S.n→(h k=x∨h k=y)→¬ hind S t k):Valid S (swp S h t x y):=by
 have one:∀ k l,k < S.n→l < S.n→S.fst k < t→¬ S.fst l < t→S.fst l < S.bhd k→h k ≠ h l→swp S h (t) x y k ≠ swp S h (t) x y l:=by
  intro k l hk hl a b c d;have e1:h k ≠ x:=fun z=>nh k hk (.inl z) ⟨.inr a,by omega⟩
  have e2:h k ≠ y:=fun z=>nh k hk (.inr z) ⟨.inr a,by omega⟩
  unfold swp;rw [if_pos a,if_neg b];by_cases z:h l=x
  ·rw [if_pos z];exact e2
  ·rw [if_neg z];by_cases z2:h l=y
   ·rw [if_pos z2];exact e1
   ·rw [if_neg z2];exact d
 intro k l hk hl ne a b;have d:=Vh k l hk hl ne a b;by_cases c1:S.fst k < t
 ·by_cases c2:S.fst l < t
  ·unfold swp;rw [if_pos c1,if_pos c2];exact d
  ·exact one k l hk hl c1 c2 b d
 ·by_cases c2:S.fst l < t
  ·exact (one l k hl hk c2 c1 a d.symm).symm
  ·unfold swp;rw [if_neg c1,if_neg c2];by_cases z1:h k=x
   ·rw [if_pos z1];by_cases z2:h l=x
    ·exact absurd (z1.trans z2.symm) d
    ·rw [if_neg z2];by_cases z3:h l=y
     ·rw [if_pos z3];intro z;exact d (by rw [z1,z3,z])
     ·rw [if_neg z3];exact fun z=>z3 z.symm
   ·rw [if_neg z1];by_cases z4:h k=y
    ·rw [if_pos z4];by_cases z2:h l=x
     ·rw [if_pos z2];intro z;exact d (by rw [z4,z2,z])
     ·rw [if_neg z2];by_cases z3:h l=y
      ·exact absurd (z4.trans z3.symm) d
      ·rw [if_neg z3];exact fun z=>z2 z.symm
    ·rw [if_neg z4];by_cases z2:h l=x
     ·rw [if_pos z2];exact z4
     ·rw [if_neg z2];by_cases z3:h l=y
      ·rw [if_pos z3];exact z1
      ·rw [if_neg z3];exact d
theorem Je (K:S.Ok) (Vh:Valid S h) (hp:p < S.n) (nh:∀ k,k < S.n→(h k=h p∨h k=o p)→¬ hind S (S.fst p) k):Valid S (swp S h (S.fst p) (h p) (o p)):=G6 Vh nh
theorem Qg (K:S.Ok) (Vh:Valid S h) (Vo:Valid S o) (A:Agr S h o done) (hp:p < S.n) (hf:S.hld p=false) (nh:∀ k,k < S.n→(h k=h p∨h k=o p)→¬ hind S (S.fst p) k)
 (hd:∀ k,k < S.n→done k→S.fst k ≤ S.fst p) (np:¬ done p):Agr S (swp S h (S.fst p) (h p) (o p)) o (fun k=>done k∨k=p):=by
 refine ⟨fun k hk z=>?_,fun k hk z=>?_⟩
 ·have e:=A.held k hk z;by_cases c:S.fst k < S.fst p
  ·unfold swp;rw [if_pos c];exact e
  ·have:=K.h1 k hk z;have:=K.h2 p hp hf;have nn:=fun y=>nh k hk y ⟨.inl z,by omega⟩
   unfold swp;rw [if_neg c,if_neg fun y=>nn (.inl y),if_neg fun y=>nn (.inr y)];exact e
 ·by_cases y:k=p
  ·subst y;unfold swp;rw [if_neg (by omega),if_pos rfl]
  ·rcases z with z | z
   ·have e:=A.don k hk z;by_cases c:S.fst k < S.fst p
    ·unfold swp;rw [if_pos c];exact e
    ·have:=hd k hk z;have eq:S.fst k=S.fst p:=by omega
     have l1:=K.lt k hk;have l2:=K.lt p hp;have n1:=Vh k p hk hp y (by omega) (by omega);have n2:=Vo k p hk hp y (by omega) (by omega);unfold swp;rw [if_neg c,if_neg n1,if_neg fun z=>n2 (e.symm.trans z)];exact e
   ·exact absurd z y
end
end Xg
namespace Xg
abbrev Sp3:=Int × Int × Int
def j_ (S:Ss) (h:Nat→Int) (st:List Sp3):Nat→Int:=st.foldl (fun g s=>swp S g s.1 s.2.1 s.2.2) h
structure Jb (S:Ss) (M:Int) (g:Nat→Int) (s:Sp3):Prop where
 now:S.now ≤ s.1
 ne:s.2.1 ≠ s.2.2
 a0:0 ≤ s.2.1
 a1:s.2.1 < M
 b0:0 ≤ s.2.2
 b1:s.2.2 < M
 nh:∀ k,k < S.n→(g k=s.2.1∨g k=s.2.2)→¬ hind S s.1 k
def Good (S:Ss) (M:Int) (h:Nat→Int) (st:List Sp3):Prop:=∀ i s,st[i]? = some s→Jb S M (j_ S h (st.take i)) s
variable {S:Ss} {M:Int} {h o:Nat→Int} {st:List Sp3} {s:Sp3} {done:List Nat} {p:Nat}
theorem pK:j_ S h (st++[s])=swp S (j_ S h st) s.1 s.2.1 s.2.2:=by
 unfold j_;rw [List.foldl_append];rfl
theorem Jf {i:Nat} (e:st[i]? = some s):j_ S h (st.take (i + 1))=swp S (j_ S h (st.take i)) s.1 s.2.1 s.2.2:=by
 rw [iR,e];exact pK
theorem Good.snoc (G:Good S M h st) (k:Jb S M (j_ S h st) s):Good S M h (st++[s]):=by
 intro i x e;rcases iM i st.length with z | z
 ·rw [dw z] at e;rw [List.take_append_of_le_length (gZ z)];exact G i x e
 ·have:i=st.length:=by
   rcases iM i (st++[s]).length with y | y
   ·simp at y;omega
   ·rw [bF y] at e;cases e
  subst this;rw [cO (bB _),Nat.sub_self] at e
  cases e;rw [List.take_left];exact k
structure LInv (S:Ss) (M:Int) (h o:Nat→Int) (done:List Nat) (st:List Sp3):Prop where
 good:Good S M h st
 val:Valid S (j_ S h st)
 agr:Agr S (j_ S h st) o (· ∈ done)
 bd:∀ k,k < S.n→0 ≤ j_ S h st k∧j_ S h st k < M
 len:st.length ≤ done.length
theorem LInv.start (Vh:Valid S h) (A:∀ k,k < S.n→S.hld k=true→h k=o k) (bd:∀ k,k < S.n→0 ≤ h k∧h k < M):LInv S M h o [] [] :=
 ⟨fun i s e=>(by simp at e),Vh,⟨A,fun k _ z=>(by cases z)⟩,bd,bB _⟩
theorem LInv.same (I:LInv S M h o done st) (e:j_ S h st p=o p):LInv S M h o (done++[p]) st :=
 ⟨I.good,I.val,⟨I.agr.held,fun k hk z=>by
  rcases aR.mp z with z | z
  ·exact I.agr.don k hk z
  ·rw [aJ.mp z];exact e⟩,I.bd,by rw [bL];exact bY I.len (Nat.le_add_right _ _)⟩
theorem LInv.step (I:LInv S M h o done st) (K:S.Ok) (Vo:Valid S o) (bo:∀ k,k < S.n→0 ≤ o k∧o k < M) (hp:p < S.n) (hf:S.hld p=false) (hl:∀ k,k < S.n→S.hld k=false→S.fst k < S.fst p→k ∈ done)
 (hd:∀ k ∈ done,S.fst k ≤ S.fst p) (np:p ∉ done) (e:j_ S h st p ≠ o p):Jb S M (j_ S h st) (S.fst p,j_ S h st p,o p)∧LInv S M h o (done++[p]) (st++[(S.fst p,j_ S h st p,o p)]):=by
 have nh:=Uy K I.val Vo I.agr hp hf hl;have ok:Jb S M (j_ S h st) (S.fst p,j_ S h st p,o p):=⟨K.h2 p hp hf,e,(I.bd p hp).1,(I.bd p hp).2,(bo p hp).1,(bo p hp).2,nh⟩;refine ⟨ok,⟨I.good.snoc ok,?_,?_,fun k hk=>?_,?_⟩⟩
 ·rw [pK];exact Je K I.val hp nh
 ·rw [pK];have A:=Qg K I.val Vo I.agr hp hf nh (fun k _ z=>hd k z) np;exact ⟨A.held,fun k hk z=>A.don k hk (by
   rcases aR.mp z with z | z
   ·exact .inl z
   ·exact .inr (aJ.mp z))⟩
 ·rw [pK];have z:=I.bd k hk;have y:=I.bd p hp;have x:=bo p hp;show 0 ≤ swp S (j_ S h st) (S.fst p) (j_ S h st p) (o p) k∧swp S (j_ S h st) (S.fst p) (j_ S h st p) (o p) k < M;unfold swp;split
  ·exact z
  ·split
   ·exact x
   ·split
    ·exact y
    ·exact z
 ·rw [bL,bL];exact Nat.add_le_add I.len (bB _)
theorem LInv.fin (I:LInv S M h o done st) (all:∀ k,k < S.n→S.hld k=false→k ∈ done):∀ k,k < S.n→j_ S h st k=o k:=fun k hk=>by
 cases z:S.hld k with
 | true=>exact I.agr.held k hk z
 | false=>exact I.agr.don k hk (all k hk z)
end Xg
namespace Com
open PySem D3 My
theorem Fg {n c:Nat} {l:List D} (hl:l.length=n) (h:c < n):pIx l.length (c:Int)=some c:=by
 unfold pIx;rw [hl,if_pos (by omega),if_pos (by omega)];rfl
theorem sV {n c:Nat} (f:Nat→D) (h:c < n):pAt ((aB n).map f) (c:Int)=some (f c):=by
 rw [nu,aP,cj h];rfl
theorem xU {n c:Nat} {d:D} (f:Nat→D):((aB n).map f).set c d=(aB n).map fun p=>if p=c then d else f p:=by
 apply fD;intro i;rw [oF,aP,aP];by_cases hi:i < n
 ·rw [cj hi,gO,gO];by_cases z:c=i
  ·subst z;rw [if_pos rfl,if_pos (by simpa using hi),if_pos rfl]
  ·rw [if_neg z,if_neg (fun w=>z w.symm)]
 ·rw [bF (l:=aB n) (by simpa using hi)];by_cases z:c=i
  ·subst z;rw [if_pos rfl,if_neg (by simpa using hi)];rfl
  ·rw [if_neg z];rfl
theorem G7 {n:Nat} {f g:Nat→D} (h:∀ k,k < n→f k=g k):(aB n).map f=(aB n).map g:=jd fun k hk=>h k (aQ.mp hk)
noncomputable def tAt (L:List Ty) (k:Nat):Ty:=L.getD k (0,0,none)
theorem cR {L:List Ty} {k:Nat} (h:k < L.length):tAt L k ∈ L:=by
 unfold tAt;rw [bC,aV h];exact List.getElem_mem h
theorem jx (L:List Ty):L.map yD=(aB L.length).map fun k=>yD (tAt L k):=by
 apply fD;intro i;rw [aP,aP];by_cases h:i < L.length
 ·rw [cj h,aV h];unfold tAt;rw [gO,gO,bC,aV h];rfl
 ·rw [bF (by omega),bF (by simpa using h)];rfl
theorem G8 {n:Nat} (f g:Nat→D):m6 ((aB n).map f) ((aB n).map g)=(aB n).map fun k=>PyData.tuple [f k,g k]:=by
 have:∀ l:List Nat,m6 (l.map f) (l.map g)=l.map fun k=>PyData.tuple [f k,g k]:=fun l=>by
  induction l with
  | nil=>rfl
  | cons a l ih=>rw [bJ,bJ,bJ,m6,ih]
 exact this _
def plD (n:Nat) (h:Nat→Int):List D:=(aB n).map fun k=>PyData.int (h k)
def ssT (L:List Ty) (now:Int):Xg.Ss:=⟨L.length,fun k=>(tAt L k).1,fun k=>(tAt L k).2.1,fun k=>(tAt L k).2.2.isSome,now⟩
def hB (s:Ty) (t:Int):Bool:=(s.2.2.isSome || decide (s.1 < t)) && decide (t < s.2.1)
theorem Qh {L:List Ty} {now t:Int} {k:Nat}:hB (tAt L k) t=true↔Xg.hind (ssT L now) t k:=by
 unfold hB Xg.hind ssT;simp
theorem xV (o:Option Nat):isNone (hD o) = !o.isSome:=by cases o <;> rfl
theorem Am (s:Ty) (t:Int):kj [yD s,.int t]=some (.bool (hB s t)):=by
 obtain ⟨a,b,c⟩:=s;have:=xV c;unfold kj yD hB;simp![ak,aC,au,aA,aF,aG,aH,at0,at1,at2,this,Bool.not_not]
 cases c.isSome <;> simp only [Bool.true_or,Bool.false_or]
 ·simp![ak,aC,au,aA,aF,aG,aH,at0,at1]
  cases decide (a < t) <;> simp only [iZ,f9] <;> simp![ak,aC,au,aA,aF,aG,aH,at1]
 ·simp![ak,aC,au,aA,aF,aG,aH,at1];rfl
theorem C_ (s:Ty) (r t a b:Int):iy [yD s,.int r,.int t,.int a,.int b]=some (.int (if s.1 < t then r else if r=a then b else if r=b then a else r)):=by
 obtain ⟨x,y,c⟩:=s;unfold iy yD;by_cases h1:x < t
 ·have e1:decide (x < t)=true:=dTr h1;rw [if_pos h1];simp![ak,aC,au,aA,aF,aG,aH,at0,e1,fli]
 ·have e1:decide (x < t)=false:=dFa h1;rw [if_neg h1];by_cases h2:r=a
  ·have e2:decide (r=a)=true:=dTr h2;rw [if_pos h2];simp![ak,aC,au,aA,aF,aG,aH,at0,e1,e2,fli]
  ·have e2:decide (r=a)=false:=dFa h2;rw [if_neg h2];by_cases h3:r=b
   ·have e3:decide (r=b)=true:=dTr h3;rw [if_pos h3];simp![ak,aC,au,aA,aF,aG,aH,at0,e1,e2,e3,fli]
   ·have e3:decide (r=b)=false:=dFa h3;rw [if_neg h3];simp![ak,aC,au,aA,aF,aG,aH,at0,e1,e2,e3,fli]
section
variable {L:List Ty} {now t a b:Int} {h:Nat→Int}
theorem Fi (hn:now ≤ t) (hab:a ≠ b) (nh:∀ k,k < L.length→(h k=a∨h k=b)→¬ Xg.hind (ssT L now) t k):fQ [.list (L.map yD),.list (plD L.length h),.int now,.int t,.int a,.int b]=some .none:=by
 have e1:decide (t < now)=false:=dFa (by omega);have e2:decide (a=b)=false:=dFa hab;obtain ⟨δ',e,u,v,rfl⟩:=jt (g:=(gTn 2 (cH (gNl 6) (cH (gNl 7) (ji))))) (b:=(sIf (D3.oA (D3.tOr (bh (dOp gEq (aj 7) (aj 4))) (bh (dOp gEq (aj 7) (aj 5)))) (bh (dCall kj (aq (aj 6) (aq (aj 3) (aZ)))))) ((fun _=>none)) (dG)))
  (fun i δ=>∃ u v:Option U,δ=[some (.d (.list (L.map yD))),some (.d (.list (plD L.length h))),some (.d (.int now)),some (.d (.int t)),some (.d (.int a)),some (.d (.int b)),u,v]) (m6 (L.map yD) (plD L.length h))
  [some (.d (.list (L.map yD))),some (.d (.list (plD L.length h))),some (.d (.int now)),some (.d (.int t)),some (.d (.int a)),some (.d (.int b)),none,none] ⟨none,none,rfl⟩ (by
   rintro i d δ hd ⟨u,v,rfl⟩;rw [jx,show plD L.length h=(aB L.length).map fun k=>PyData.int (h k) from rfl,G8,aP] at hd
   cases hi:(aB L.length)[i]? with
   | none=>rw [hi] at hd;cases hd
   | some k =>
    rw [hi] at hd
    cases hd;have hk:=aQ.mp (cN hi);have hs:=Am (tAt L k) t;refine ⟨_,[some (.d (.list (L.map yD))),some (.d (.list (plD L.length h))),some (.d (.int now)),some (.d (.int t)),some (.d (.int a)),some (.d (.int b)),some (.d (yD (tAt L k))),some (.d (.int (h k)))],rfl,.inl ?_,_,_,rfl⟩;by_cases c:h k=a∨h k=b
    ·have hf:hB (tAt L k) t=false:=by
      cases z:hB (tAt L k) t with
      | false=>rfl
      | true=>exact absurd (Qh.mp z) (nh k hk c)
     rw [hf] at hs;by_cases c1:h k=a
     ·have c1:decide (h k=a)=true:=dTr c1;simp![ak,aC,au,aA,aF,aG,aH,c1,hs]
     ·have c2:decide (h k=b)=true:=dTr (c.resolve_left c1);have c1:decide (h k=a)=false:=dFa c1;simp![ak,aC,au,aA,aF,aG,aH,c1,c2,hs]
    ·have c1:decide (h k=a)=false:=dFa fun z=>c (.inl z)
     have c2:decide (h k=b)=false:=dFa fun z=>c (.inr z)
     simp![ak,aC,au,aA,aF,aG,aH,c1,c2])
 unfold fQ;simp![ak,aC,au,aA,aF,aG,aH,e1,e2];rw [e];rfl
theorem rT (hl:L.length ≤ 1000) (hn:now ≤ t) (hab:a ≠ b) (nh:∀ k,k < L.length→(h k=a∨h k=b)→¬ Xg.hind (ssT L now) t k) :
 gD [.list (L.map yD),.list (plD L.length h),.int now,.int t,.int a,.int b]=some (.list (plD L.length (Xg.swp (ssT L now) h t a b))):=by
 have c:=Fi hn hab nh;have C:eN (gTn 2 (cH (gNl 0) (cH (gNl 1) (ji)))) (D3.kJ) (dCall iy (aq (aj 0) (aq (aj 1) (aq (aj 2) (aq (aj 3) (aq (aj 4) (aZ))))))) (jE 2 [3,4,5] [some (.d (.list (L.map yD))),some (.d (.list (plD L.length h))),some (.d (.int now)),some (.d (.int t)),some (.d (.int a)),some (.d (.int b))]) (m6 (L.map yD) (plD L.length h))=some (plD L.length (Xg.swp (ssT L now) h t a b)):=by
  rw [jx,show plD L.length h=(aB L.length).map fun k=>PyData.int (h k) from rfl,G8];exact Ak (fun k=>PyData.tuple [yD (tAt L k),.int (h k)]) _ (aB L.length) fun k hk=>⟨[some (.d (yD (tAt L k))),some (.d (.int (h k))),some (.d (.int t)),some (.d (.int a)),some (.d (.int b))],rfl,rfl,by
   have:=C_ (tAt L k) (h k) t a b;simp![ak,aC,au,aA,aF,aG,aH,this];rfl⟩
 have len:(m6 (L.map yD) (plD L.length h)).length ≤ 100000:=by
  rw [jx,show plD L.length h=(aB L.length).map fun k=>PyData.int (h k) from rfl,G8,aD,aX];omega
 unfold gD;simp![ak,aC,au,aA,aF,aG,aH,c,len,C]
end
end Com
namespace Gr
structure GInv (M:Nat) (b e:Nat→Int) (done:List Nat) (seat:Nat→Option Nat) (fs:Nat→Int):Prop where
 out:∀ p,p ∉ done→seat p=none
 inn:∀ p ∈ done,∃ r,seat p=some r∧r < M∧e p ≤ fs r
 bk:∀ r,r < M→fs r ≤ 0∨∃ p ∈ done,seat p=some r∧e p=fs r
 dj:∀ p ∈ done,∀ q ∈ done,p ≠ q→seat p=seat q→e p ≤ b q∨e q ≤ b p
noncomputable def holds (b e:Nat→Int) (x:Int) (p:Nat):Bool:=decide (b p ≤ x) && decide (x < e p)
theorem pick {α:Type} (P:Nat→α→Prop):∀ M,(∀ r,r < M→∃ a,P r a)→(∀ r r' a,P r a→P r' a→r=r')→∃ l:List α,l.length=M∧l.Nodup∧∀ a ∈ l,∃ r,r < M∧P r a
 | 0,_,_=>⟨[],rfl,rm,fun _ h=>by cases h⟩
 | M + 1,h,u=>by
  obtain ⟨l,h1,h2,h3⟩:=pick P M (fun r hr=>h r (by omega)) u;obtain ⟨a,ha⟩:=h M (by omega);refine ⟨a :: l,by rw [bH,h1],cF.mpr ⟨fun z=>?_,h2⟩,fun x hx=>?_⟩
  ·obtain ⟨r,hr,hp⟩:=h3 a z;have:=u r M a hp ha;omega
  ·rcases aY.mp hx with rfl | z
   ·exact ⟨M,by omega,ha⟩
   ·obtain ⟨r,hr,hp⟩:=h3 x z;exact ⟨r,by omega,hp⟩
theorem Jg {M n:Nat} {b e:Nat→Int} {done:List Nat} {seat:Nat→Option Nat} {fs:Nat→Int} {c:Nat} (I:GInv M b e done seat fs) (hc:c ∉ done) (hcn:c < n) (hd:∀ p ∈ done,p < n)
 (hb:∀ p ∈ done,b p ≤ b c) (h0:0 ≤ b c) (h1:b c < e c) (hm:((aB n).filter (holds b e (b c))).length ≤ M):∃ r,r < M∧fs r ≤ b c:=by
 apply Classical.byContradiction;intro no;have all:∀ r,r < M→∃ p,(p ∈ done∧seat p=some r∧b c < e p):=fun r hr=>by
  have hn:¬ fs r ≤ b c:=fun z=>no ⟨r,hr,z⟩
  rcases I.bk r hr with z | ⟨p,hp,h2,h3⟩
  ·omega
  ·exact ⟨p,hp,h2,by omega⟩
 obtain ⟨l,l1,l2,l3⟩:=pick (fun r p=>p ∈ done∧seat p=some r∧b c < e p) M all (fun r r' p z z'=>by
  have:=z.2.1.symm.trans z'.2.1;injection this)
 have nd:(c :: l).Nodup:=cF.mpr ⟨fun z=>by obtain ⟨r,_,hp,_⟩:=l3 c z;exact hc hp,l2⟩;have sub:(c :: l) ⊆ (aB n).filter (holds b e (b c)):=fun p hp=>by
  rcases aY.mp hp with rfl | z
  ·exact bx.mpr ⟨aQ.mpr hcn,by unfold holds;rw [dTr (d7 _),dTr h1];rfl⟩
  ·obtain ⟨r,_,hp,_,h3⟩:=l3 p z;exact bx.mpr ⟨aQ.mpr (hd p hp),by unfold holds;rw [dTr (hb p hp),dTr h3];rfl⟩
 have:=List.Nodup.length_le_of_subset nd sub;rw [bH,l1] at this;omega
theorem GInv.step {M:Nat} {b e:Nat→Int} {done:List Nat} {seat:Nat→Option Nat} {fs:Nat→Int} {c r:Nat} (I:GInv M b e done seat fs) (hc:c ∉ done) (hr:r < M) (hf:fs r ≤ b c) (h1:b c < e c) :
 GInv M b e (done++[c]) (fun p=>if p=c then some r else seat p) (fun x=>if x=r then e c else fs x):=by
 have ne:∀ p ∈ done,p ≠ c:=fun p hp z=>hc (z ▸ hp)
 refine ⟨fun p hp=>?_,fun p hp=>?_,fun x hx=>?_,fun p hp q hq hpq hs=>?_⟩
 ·have h2:p ≠ c:=fun z=>hp (aU _ (by rw [z];exact aJ.mpr rfl))
  rw [if_neg h2];exact I.out p fun z=>hp (bD _ z)
 ·rcases aR.mp hp with z | z
  ·obtain ⟨x,s1,s2,s3⟩:=I.inn p z;refine ⟨x,by rwa [if_neg (ne p z)],s2,?_⟩;by_cases hx:x=r
   ·rw [if_pos hx];rw [hx] at s3;omega
   ·rwa [if_neg hx]
  ·have z:=aJ.mp z;exact ⟨r,by rw [if_pos z],hr,by rw [if_pos rfl,z];exact d7 _⟩
 ·by_cases z:x=r
  ·exact .inr ⟨c,aU _ (aJ.mpr rfl),by rw [if_pos rfl,z],by rw [if_pos z]⟩
  ·rw [if_neg z];rcases I.bk x hx with w | ⟨p,hp,w1,w2⟩
   ·exact .inl w
   ·exact .inr ⟨p,bD _ hp,by rwa [if_neg (ne p hp)],w2⟩
 ·rcases aR.mp hp with z | z
  ·rcases aR.mp hq with w | w
   ·rw [if_neg (ne p z),if_neg (ne q w)] at hs;exact I.dj p z q w hpq hs
   ·have w:=aJ.mp w;rw [if_neg (ne p z),if_pos w] at hs;obtain ⟨x,s1,_,s3⟩:=I.inn p z;rw [s1] at hs;injection hs with hs
    rw [hs] at s3
    left
    rw [w];omega
  ·have z:=aJ.mp z;rcases aR.mp hq with w | w
   ·rw [if_pos z,if_neg (ne q w)] at hs;obtain ⟨x,s1,_,s3⟩:=I.inn q w;rw [s1] at hs;injection hs with hs
    rw [← hs] at s3
    right
    rw [z];omega
   ·exact absurd (z.trans (aJ.mp w).symm) hpq
end Gr
namespace Pl
open Gr
structure PInv (n M:Nat) (b e:Nat→Int) (held:Nat→Option Nat) (done:List Nat) (seat:Nat→Option Nat):Prop where
 hl:∀ k r,k < n→held k=some r→seat k=some r
 out:∀ k,k < n→held k=none→k ∉ done→seat k=none
 inn:∀ k,k ∈ done→k < n→seat k ≠ none
 lt:∀ k r,k < n→seat k=some r→r < M
 dj:∀ k l r,k < n→l < n→k ≠ l→seat k=some r→seat l=some r→e k ≤ b l∨e l ≤ b k
variable {n M:Nat} {b e:Nat→Int} {held seat:Nat→Option Nat} {done:List Nat} {now:Int} {c r:Nat}
theorem skip (I:PInv n M b e held done seat) (hs:seat c ≠ none):PInv n M b e held (done++[c]) seat :=
 ⟨I.hl,fun k hk h hn=>I.out k hk h fun z=>hn (bD _ z),fun k hk hn=>by
  rcases aR.mp hk with w | w
  ·exact I.inn k w hn
  ·rwa [aJ.mp w],I.lt,I.dj⟩
end Pl
namespace XS
open PySem PySem.W PyProof.Rows
structure Weak (lt:Nat→Nat→Bool):Prop where
 irr:∀ a,lt a a=false
 tr:∀ a b c,lt a b=true→lt b c=true→lt a c=true
 nt:∀ a b c,lt a c=true→lt a b=true∨lt b c=true
def Rk (lt:Nat→Nat→Bool) (a b:Nat):Prop:=lt a b=true∨(lt b a=false∧a < b)
section
variable {lt:Nat→Nat→Bool} {p:Array Nat} {n:Nat}
theorem Weak.not (W:Weak lt) {a b c:Nat} (h1:lt a b=false) (h2:lt b c=false):lt a c=false:=by
 cases q:lt a c with
 | false=>rfl
 | true =>
  rcases W.nt a b c q with z | z
  ·rw [z] at h1;cases h1
  ·rw [z] at h2;cases h2
theorem Rk.trans (W:Weak lt) {a b c:Nat} (h1:Rk lt a b) (h2:Rk lt b c):Rk lt a c:=by
 rcases h1 with h1 | ⟨h1,l1⟩
 ·rcases h2 with h2 | ⟨h2,l2⟩
  ·exact .inl (W.tr _ _ _ h1 h2)
  ·rcases W.nt a c b h1 with z | z
   ·exact .inl z
   ·rw [z] at h2;cases h2
 ·rcases h2 with h2 | ⟨h2,l2⟩
  ·rcases W.nt b a c h2 with z | z
   ·rw [z] at h1;cases h1
   ·exact .inl z
  ·exact .inr ⟨W.not h2 h1,by omega⟩
abbrev ga (p:Array Nat) (i:Nat):Nat:=p.getD i 0
def Asc (lt:Nat→Nat→Bool) (p:Array Nat) (m:Nat):Prop:=∀ i j,i < j→j < m→Rk lt (ga p i) (ga p j)
structure Run (lt:Nat→Nat→Bool) (n:Nat) (p:Array Nat) (m:Nat):Prop where
 asc:Asc lt p m
 rest:∀ k,m ≤ k→k < n→ga p k=k
 low:∀ k,k < m→ga p k < m
theorem Run.snoc (W:Weak lt) {a:Nat} (R:Run lt n p a) (h1:1 ≤ a) (ha:a < n) (h:lt (ga p a) (ga p (a - 1))=false):Run lt n p (a + 1):=by
 have ea:=R.rest a (bB _) ha;have la:=R.low (a - 1) (by omega);have st:Rk lt (ga p (a - 1)) (ga p a):=.inr ⟨h,by omega⟩;refine ⟨fun i j hij hj=>?_,fun k hk hn=>R.rest k (by omega) hn,fun k hk=>?_⟩
 ·by_cases z:j < a
  ·exact R.asc i j hij z
  ·have:j=a:=by omega
   subst this;by_cases y:i=j - 1
   ·rwa [y]
   ·exact (R.asc i (j - 1) (by omega) (by omega)).trans W st
 ·by_cases z:k < a
  ·have:=R.low k z;omega
  ·have:k=a:=by omega
   subst this;omega
theorem Fj (W:Weak lt):∀ (f a:Nat),Run lt n p a→1 ≤ a→a + f ≤ n→Run lt n p (dX lt (a6 p f a))∧a ≤ dX lt (a6 p f a)∧dX lt (a6 p f a) ≤ a + f∧(dX lt (a6 p f a) < a + f→lt (ga p (dX lt (a6 p f a))) (ga p (dX lt (a6 p f a) - 1))=true)
 | 0,a,R,h1,hf=>⟨R,bB _,bB _,fun z=>by
  have z:a < a + 0:=z;omega⟩
 | f + 1,a,R,h1,hf=>by
  have e:dX lt (a6 p (f + 1) a)=dX lt (if lt (ga p a) (ga p (a - 1))=true then .ret a else a6 p f (a + 1)):=rfl;rw [e];by_cases c:lt (ga p a) (ga p (a - 1))=true
  ·rw [if_pos c];exact ⟨R,bB _,by show a ≤ a + (f + 1);omega,fun _=>c⟩
  ·rw [if_neg c];obtain ⟨q1,q2,q3,q4⟩:=Fj W f (a + 1) (R.snoc W h1 (by omega) (by simpa using c)) (by omega) (by omega);exact ⟨q1,by omega,by omega,fun z=>q4 (by omega)⟩
theorem xW (W:Weak lt) {k:Nat} (R:Run lt n p k):∀ (f l r:Nat),l ≤ r→r ≤ k→r - l ≤ f→(∀ i,i < l→lt (ga p k) (ga p i)=false)→(∀ i,r ≤ i→i < k→lt (ga p k) (ga p i)=true) →
 dX lt (aE p k f l r) ≤ k∧(∀ i,i < dX lt (aE p k f l r)→lt (ga p k) (ga p i)=false)∧(∀ i,dX lt (aE p k f l r) ≤ i→i < k→lt (ga p k) (ga p i)=true)
 | 0,l,r,h1,h2,h3,h4,h5=>by
  have:l=r:=by omega
  subst this;exact ⟨h2,h4,h5⟩
 | f + 1,l,r,h1,h2,h3,h4,h5=>by
  by_cases z:l ≥ r
  ·have:l=r:=by omega
   subst this;have e:aE p k (f + 1) l l = .ret l:=by unfold aE;rw [if_pos z]
   rw [e];exact ⟨h2,h4,h5⟩
  ·have e:dX lt (aE p k (f + 1) l r)=dX lt (if lt (ga p k) (ga p ((l + r) / 2))=true then aE p k f l ((l + r) / 2) else aE p k f ((l + r) / 2 + 1) r):=by
    conv=>lhs;unfold aE
    rw [if_neg z];rfl
   rw [e];have m1:l ≤ (l + r) / 2:=by omega
   by_cases c:lt (ga p k) (ga p ((l + r) / 2))=true
   ·rw [if_pos c];refine xW W R f l ((l + r) / 2) m1 (by omega) (by omega) h4 fun i hi hk=>?_
    by_cases y:i=(l + r) / 2
    ·rwa [y]
    ·rcases R.asc ((l + r) / 2) i (by omega) hk with q | ⟨q,_⟩
     ·exact W.tr _ _ _ c q
     ·rcases W.nt _ (ga p i) _ c with w | w
      ·exact w
      ·rw [w] at q;cases q
   ·rw [if_neg c];have c:lt (ga p k) (ga p ((l + r) / 2))=false:=by simpa using c
    refine xW W R f ((l + r) / 2 + 1) r (by omega) h2 (by omega) (fun i hi=>?_) h5;by_cases y:i=(l + r) / 2
    ·rwa [y]
    ·cases q:lt (ga p k) (ga p i) with
     | false=>rfl
     | true =>
      rcases R.asc i ((l + r) / 2) (by omega) (by omega) with w | ⟨w,_⟩
      ·rw [W.tr _ _ _ q w] at c;cases c
      ·rcases W.nt _ (ga p ((l + r) / 2)) _ q with w2 | w2
       ·rw [w2] at c;cases c
       ·rw [w2] at w;cases w
theorem Uz {k l:Nat} (hk:k < p.size) (hl:l ≤ k) (i:Nat):ga (bubble p k (k - l)) i=if i=l then ga p k else if l < i∧i ≤ k then ga p (i - 1) else ga p i:=by
 have e:=getElem?_bubble hk (k - l) (by omega) i;rw [show k - (k - l)=l by omega] at e;have g:∀ (q:Array Nat) (i:Nat),ga q i=(q[i]?).getD 0:=fun q i=>by simp [ga,g_]
 rw [g,e,g p k,g p (i - 1),g p i];by_cases c1:i=l
 ·rw [if_pos c1,if_pos c1]
 ·rw [if_neg c1,if_neg c1];by_cases c2:l < i∧i ≤ k
  ·rw [if_pos c2,if_pos c2]
  ·rw [if_neg c2,if_neg c2]
theorem Lk (W:Weak lt) (hs:p.size=n) {k l:Nat} (R:Run lt n p k) (hk:k < n) (hl:l ≤ k) (h1:∀ i,i < l→lt (ga p k) (ga p i)=false) (h2:∀ i,l ≤ i→i < k→lt (ga p k) (ga p i)=true):Run lt n (bubble p k (k - l)) (k + 1):=by
 have ek:=R.rest k (bB _) hk;have B:=Uz (p:=p) (k:=k) (by omega) hl;refine ⟨fun i j hij hj=>?_,fun m hm hn=>?_,fun m hm=>?_⟩
 ·rw [B,B];by_cases c1:i=l
  ·rw [if_pos c1,if_neg (by omega),if_pos (by omega)];exact .inl (h2 (j - 1) (by omega) (by omega))
  ·rw [if_neg c1];by_cases c2:j=l
   ·rw [if_pos c2,if_neg (by omega)];exact .inr ⟨h1 i (by omega),by rw [ek];exact R.low i (by omega)⟩
   ·rw [if_neg c2];by_cases c3:l < i∧i ≤ k
    ·rw [if_pos c3,if_pos (by omega)];exact R.asc _ _ (by omega) (by omega)
    ·rw [if_neg c3];by_cases c4:l < j∧j ≤ k
     ·rw [if_pos c4];exact R.asc _ _ (by omega) (by omega)
     ·rw [if_neg c4];exact R.asc _ _ hij (by omega)
 ·rw [B,if_neg (by omega),if_neg (by omega)];exact R.rest m (by omega) hn
 ·rw [B];split
  ·omega
  ·split
   ·have:=R.low (m - 1) (by omega);omega
   ·have:=R.low m (by omega);omega
theorem Ln (W:Weak lt):∀ (f:Nat) (p:Array Nat) (k:Nat),p.size=n→Run lt n p k→k + f=n→Run lt n (dX lt (kas_bin f p k)) n
 | 0,p,k,hs,R,h=>by
  have:k=n:=by omega
  subst this;exact R
 | f + 1,p,k,hs,R,h=>by
  have e:dX lt (kas_bin (f + 1) p k)=dX lt (kas_bin f (bubble p k (k - dX lt (aE p k k 0 k))) (k + 1)):=nF _ _;rw [e];obtain ⟨q1,q2,q3⟩:=xW W R k 0 k (iK _) (bB _) (by omega) (fun i hi=>by omega) (fun i h1 h2=>by omega);exact Ln W f _ (k + 1) (by rwa [bubble_size]) (Lk W hs R (by omega) q1 q2 q3) (by omega)
end
end XS
namespace XS
open PySem PySem.W PyProof.Rows
section
variable {lt:Nat→Nat→Bool} {p p':Array Nat} {n a q:Nat}
theorem Rk.nr (W:Weak lt) {a b:Nat} (h:Rk lt a b):lt b a=false:=by
 rcases h with h | ⟨h,_⟩
 ·cases z:lt b a with
  | false=>rfl
  | true=>have:=W.tr _ _ _ h z;rw [W.irr] at this;cases this
 ·exact h
theorem Fo {i j:Nat} (hj:j ≤ p.size) (k:Nat):ga (aI p i j) k=if i ≤ k∧k < j then ga p (i + j - 1 - k) else ga p k:=by
 have e:=getElem?_mirror_all (i:=i) hj k;have g:∀ (q:Array Nat) (i:Nat),ga q i=(q[i]?).getD 0:=fun q i=>by simp [ga,g_]
 rw [g,g p (i + j - 1 - k),g p k];unfold aI;rw [e];by_cases c:i ≤ k∧k < j
 ·rw [if_pos c,if_pos c]
 ·rw [if_neg c,if_neg c]
theorem xX (i j:Nat):(aI p i j).size=p.size:=mirror_size _ _ _ _
structure Dn (lt:Nat→Nat→Bool) (n:Nat) (p:Array Nat) (a q:Nat):Prop where
 le:q + 1 ≤ a
 desc:∀ i j,i < j→j < a - (q + 1)→Rk lt (ga p j) (ga p i)
 strict:∀ i j,i < a - (q + 1)→a - (q + 1) ≤ j→j < a→lt (ga p j) (ga p i)=true
 run:∀ i j,a - (q + 1) ≤ i→i < j→j < a→lt (ga p i) (ga p j)=false∧lt (ga p j) (ga p i)=false∧ga p i < ga p j
 rest:∀ k,a ≤ k→k < n→ga p k=k
 low:∀ k,k < a→ga p k < a
structure Desc (lt:Nat→Nat→Bool) (n:Nat) (p:Array Nat) (a:Nat):Prop where
 desc:∀ i j,i < j→j < a→Rk lt (ga p j) (ga p i)
 rest:∀ k,a ≤ k→k < n→ga p k=k
 low:∀ k,k < a→ga p k < a
theorem Dn.turn (D:Dn lt n p a q) (h:∀ k,ga p' k=if a - (q + 1) ≤ k∧k < a then ga p (a - (q + 1) + a - 1 - k) else ga p k):Desc lt n p' a:=by
 refine ⟨fun i j hij hj=>?_,fun k hk hn=>?_,fun k hk=>?_⟩
 ·by_cases c:j < a - (q + 1)
  ·rw [h,h,if_neg (by omega),if_neg (by omega)];exact D.desc i j hij c
  ·rw [h j,if_pos (by omega),h i];by_cases e:i < a - (q + 1)
   ·rw [if_neg (by omega)];exact .inl (D.strict _ _ e (by omega) (by omega))
   ·rw [if_pos (by omega)];obtain ⟨x,y,z⟩:=D.run (a - (q + 1) + a - 1 - j) (a - (q + 1) + a - 1 - i) (by omega) (by omega) (by omega);exact .inr ⟨y,z⟩
 ·rw [h,if_neg (by omega)];exact D.rest k hk hn
 ·rw [h];split
  ·exact D.low _ (by omega)
  ·exact D.low _ hk
theorem Desc.up (D:Desc lt n p a) (ha:a < n) (h:∀ i,i < a→lt (ga p a) (ga p i)=true):Dn lt n p (a + 1) 0:=by
 refine ⟨by omega,fun i j hij hj=>D.desc i j hij (by omega),fun i j hi h1 h2=>?_,fun i j h1 h2 h3=>by omega,fun k hk hn=>D.rest k (by omega) hn,fun k hk=>?_⟩
 ·have:j=a:=by omega
  subst this;exact h i (by omega)
 ·by_cases z:k < a
  ·have:=D.low k z;omega
  ·have:k=a:=by omega
   subst this;rw [D.rest k (bB _) ha];omega
def turned (p:Array Nat) (a q:Nat):Array Nat:=if q > 0 then aI p (a - (q + 1)) a else p
theorem sJ (hs:p.size=n) (ha:a ≤ n) (l:q + 1 ≤ a) (k:Nat):ga (turned p a q) k=if a - (q + 1) ≤ k∧k < a then ga p (a - (q + 1) + a - 1 - k) else ga p k:=by
 unfold turned;by_cases c:q > 0
 ·rw [if_pos c];exact Fo (by omega) k
 ·rw [if_neg c];by_cases e:a - (q + 1) ≤ k∧k < a
  ·rw [if_pos e,show a - (q + 1) + a - 1 - k=k by omega]
  ·rw [if_neg e]
theorem vH:(turned p a q).size=p.size:=by
 unfold turned;split
 ·exact xX _ _
 ·rfl
theorem Dn.below (W:Weak lt) (D:Dn lt n p a q) (hs:p.size=n) (ha:a < n) (h:lt (ga p a) (ga p (a - 1))=true) (i:Nat) (hi:i < a):lt (ga (turned p a q) a) (ga (turned p a q) i)=true:=by
 have l:=D.le;have all:∀ i,i < a→lt (ga p a) (ga p i)=true:=fun i hi=>by
  by_cases c:i < a - (q + 1)
  ·exact W.tr _ _ _ h (D.strict i (a - 1) c (by omega) (by omega))
  ·by_cases e:i=a - 1
   ·rwa [e]
   ·rcases W.nt _ (ga p i) _ h with w | w
    ·exact w
    ·rw [(D.run i (a - 1) (by omega) (by omega) (by omega)).1] at w;cases w
 rw [sJ hs (by omega) l,if_neg (by omega),sJ hs (by omega) l];split
 ·exact all _ (by omega)
 ·exact all _ hi
theorem Dn.same (W:Weak lt) (D:Dn lt n p a q) (ha:a < n) (h1:lt (ga p a) (ga p (a - 1))=false) (h2:lt (ga p (a - 1)) (ga p a)=false):Dn lt n p (a + 1) (q + 1):=by
 have l:=D.le;have ea:=D.rest a (bB _) ha;refine ⟨by omega,fun i j hij hj=>D.desc i j hij (by omega),fun i j hi q1 q2=>?_,fun i j q1 q2 q3=>?_,fun k hk hn=>D.rest k (by omega) hn,fun k hk=>?_⟩
 ·by_cases z:j < a
  ·exact D.strict i j (by omega) (by omega) z
  ·have:j=a:=by omega
   subst this;rcases W.nt _ (ga p j) _ (D.strict i (j - 1) (by omega) (by omega) (by omega)) with w | w
   ·rw [w] at h2;cases h2
   ·exact w
 ·by_cases z:j < a
  ·exact D.run i j (by omega) q2 z
  ·have:j=a:=by omega
   subst this;have lo:=D.low i (by omega);by_cases e:i=j - 1
   ·subst e;exact ⟨h2,h1,by omega⟩
   ·obtain ⟨x,y,_⟩:=D.run i (j - 1) (by omega) (by omega) (by omega);exact ⟨W.not x h2,W.not h1 y,by omega⟩
 ·by_cases z:k < a
  ·have:=D.low k z;omega
  ·have:k=a:=by omega
   subst this;omega
theorem Ao (W:Weak lt):∀ (f:Nat) (p:Array Nat) (a q:Nat),p.size=n→Dn lt n p a q→a + f ≤ n →
 (dX lt (ar f p a q)).1.size=n∧Dn lt n (dX lt (ar f p a q)).1 (dX lt (ar f p a q)).2.1 (dX lt (ar f p a q)).2.2∧(dX lt (ar f p a q)).2.1 ≤ n
 | 0,p,a,q,hs,D,h=>⟨hs,D,h⟩
 | f + 1,p,a,q,hs,D,h=>by
  have e:dX lt (ar (f + 1) p a q)=dX lt (if lt (ga p a) (ga p (a - 1))=true then (if q > 0 then ar f (aI p (a - (q + 1)) a) (a + 1) 0 else ar f p (a + 1) 0) else .ask (ga p (a - 1)) (ga p a) fun d=>if d=true then .ret (p,a,q) else ar f p (a + 1) (q + 1)):=rfl;rw [e];by_cases c:lt (ga p a) (ga p (a - 1))=true
  ·rw [if_pos c];have e2:(if q > 0 then ar f (aI p (a - (q + 1)) a) (a + 1) 0 else ar f p (a + 1) 0)=ar f (turned p a q) (a + 1) 0:=by
    unfold turned;split <;> rfl
   rw [e2];exact Ao W f (turned p a q) (a + 1) 0 (by rwa [vH]) ((D.turn (sJ hs (by omega) D.le)).up (by omega) (D.below W hs (by omega) c)) (by omega)
  ·rw [if_neg c];have e3:dX lt (.ask (ga p (a - 1)) (ga p a) fun d=>if d=true then .ret (p,a,q) else ar f p (a + 1) (q + 1))=dX lt (if lt (ga p (a - 1)) (ga p a)=true then .ret (p,a,q) else ar f p (a + 1) (q + 1)):=rfl;rw [e3];by_cases d:lt (ga p (a - 1)) (ga p a)=true
   ·rw [if_pos d];exact ⟨hs,D,by show a ≤ n;omega⟩
   ·rw [if_neg d];exact Ao W f p (a + 1) (q + 1) hs (D.same W (by omega) (by simpa using c) (by simpa using d)) (by omega)
theorem Qi (W:Weak lt) (hs:p.size=n) (D:Desc lt n p a) (h1:1 ≤ a) (ha:a ≤ n) :
 (dX lt (aT a n p)).2.size=n∧Run lt n (dX lt (aT a n p)).2 (dX lt (aT a n p)).1∧1 ≤ (dX lt (aT a n p)).1∧(dX lt (aT a n p)).1 ≤ n:=by
 have e:dX lt (aT a n p)=(dX lt (a6 (aI p 0 a) (n - a) a),aI p 0 a):=nF _ _;rw [e];have B:=Fo (p:=p) (i:=0) (j:=a) (by omega);have R:Run lt n (aI p 0 a) a:=by
  refine ⟨fun i j hij hj=>?_,fun k hk hn=>?_,fun k hk=>?_⟩
  ·rw [B,B,if_pos (by omega),if_pos (by omega)];exact D.desc _ _ (by omega) (by omega)
  ·rw [B,if_neg (by omega)];exact D.rest k hk hn
  ·rw [B,if_pos (by omega)];exact D.low _ (by omega)
 obtain ⟨q1,q2,q3,_⟩:=Fj W (n - a) a R h1 (by omega);exact ⟨by rwa [xX],q1,by show 1 ≤ dX lt _;omega,by show dX lt _ ≤ n;omega⟩
theorem G9 (W:Weak lt) (hs:p.size=n) (D:Dn lt n p (a + 1) 0) (ha:a < n) :
 (dX lt (am a n p)).2.size=n∧Run lt n (dX lt (am a n p)).2 (dX lt (am a n p)).1∧1 ≤ (dX lt (am a n p)).1∧(dX lt (am a n p)).1 ≤ n:=by
 obtain ⟨q1,q2,q3⟩:=Ao W (n - (a + 1)) p (a + 1) 0 hs D (by omega);have e:dX lt (am a n p)=dX lt (aT (dX lt (ar (n - (a + 1)) p (a + 1) 0)).2.1 n (turned (dX lt (ar (n - (a + 1)) p (a + 1) 0)).1 (dX lt (ar (n - (a + 1)) p (a + 1) 0)).2.1 (dX lt (ar (n - (a + 1)) p (a + 1) 0)).2.2)):=by
  refine (nF _ _).trans ?_;unfold turned;split <;> rfl
 rw [e];have l:=q2.le;exact Qi W (by rwa [vH]) (q2.turn (sJ q1 q3 l)) (by omega) q3
theorem Lp (W:Weak lt) (hs:p.size=n) (hn:1 ≤ n) (R:Run lt n p 1) :
 (dX lt (a4 n p)).2.size=n∧Run lt n (dX lt (a4 n p)).2 (dX lt (a4 n p)).1∧1 ≤ (dX lt (a4 n p)).1∧(dX lt (a4 n p)).1 ≤ n:=by
 obtain ⟨q1,q2,q3,q4⟩:=Fj W (n - 1) 1 R (bB _) (by omega);have e:dX lt (a4 n p)=_:=nF _ _;rw [e];generalize dX lt (a6 p (n - 1) 1)=m at q1 q2 q3 q4 ⊢;by_cases c:(m == n)=true
 ·rw [if_pos c];exact ⟨hs,q1,q2,by show m ≤ n;omega⟩
 ·rw [if_neg c];have c:m < n:=by
   have:¬ m=n:=by simpa using c
   omega
  have dn:=q4 (by omega);have st:∀ p',(∀ k,ga p' k=if 0 ≤ k∧k < m then ga p (0 + m - 1 - k) else ga p k)→lt (ga p 0) (ga p (m - 1))=false→Dn lt n p' (m + 1) 0:=fun p' B z=>by
   have D:Desc lt n p' m:=by
    refine ⟨fun i j hij hj=>?_,fun k hk hn=>?_,fun k hk=>?_⟩
    ·rw [B,B,if_pos (by omega),if_pos (by omega)];exact q1.asc _ _ (by omega) (by omega)
    ·rw [B,if_neg (by omega)];exact q1.rest k hk hn
    ·rw [B,if_pos (by omega)];exact q1.low _ (by omega)
   have all:∀ i,i < m→lt (ga p m) (ga p i)=true:=fun i hi=>by
    rcases W.nt _ (ga p i) _ dn with w | w
    ·exact w
    ·by_cases y:i=0
     ·subst y;rw [z] at w;cases w
     ·rcases W.nt _ (ga p 0) _ w with v | v
      ·rw [(q1.asc 0 i (by omega) hi).nr W] at v;cases v
      ·rw [z] at v;cases v
   refine D.up c fun i hi=>?_
   rw [B,if_neg (by omega),B,if_pos (by omega)];exact all _ (by omega)
  by_cases g:m > 1
  ·rw [if_pos g];show _∧Run lt n (dX lt (if lt (ga p 0) (ga p (m - 1))=true then .ret (m,p) else am m n (aI p 0 m))).2 (dX lt (if lt (ga p 0) (ga p (m - 1))=true then .ret (m,p) else am m n (aI p 0 m))).1∧_;by_cases z:lt (ga p 0) (ga p (m - 1))=true
   ·have e:dX lt (.ask (ga p 0) (ga p (m - 1)) fun c=>if c=true then .ret (m,p) else am m n (aI p 0 m))=(m,p):=by
     show dX lt (if lt (ga p 0) (ga p (m - 1))=true then .ret (m,p) else am m n (aI p 0 m))=_;rw [if_pos z];rfl
    rw [e,if_pos z];exact ⟨hs,q1,q2,by show m ≤ n;omega⟩
   ·have e:dX lt (.ask (ga p 0) (ga p (m - 1)) fun c=>if c=true then .ret (m,p) else am m n (aI p 0 m))=dX lt (am m n (aI p 0 m)):=by
     show dX lt (if lt (ga p 0) (ga p (m - 1))=true then .ret (m,p) else am m n (aI p 0 m))=_;rw [if_neg z]
    rw [e,if_neg z];exact G9 W (by rwa [xX]) (st _ (Fo (by omega)) (by simpa using z)) c
  ·rw [if_neg g];have:m=1:=by omega
   subst this;refine G9 W hs (st p (fun k=>?_) (W.irr _)) c;split
   ·rw [show 0 + 1 - 1 - k=k by omega]
   ·rfl
theorem Qj (W:Weak lt) (hn:1 ≤ n):Run lt n (dX lt (a_ n)) n:=by
 have gr:∀ k,k < n→ga (iQ (aB n)) k=k:=fun k hk=>by
  simp [ga,g_,hk]
 obtain ⟨q1,q2,q3,q4⟩:=Lp (p:=iQ (aB n)) W (by simp) hn ⟨fun i j h1 h2=>by omega,fun k hk h=>gr k h,fun k hk=>by rwa [gr k (by omega)]⟩;have e:dX lt (a_ n)=_:=nF _ _;rw [e];generalize dX lt (a4 n (iQ (aB n)))=r at q1 q2 q3 q4 ⊢;by_cases c:r.1 < n
 ·rw [if_pos c,show max r.1 1=r.1 by omega];exact Ln W _ _ _ q1 q2 (by omega)
 ·rw [if_neg c];have:r.1=n:=by omega
  rw [← this];rwa [← this] at q2
theorem Fp (W:Weak lt) (hn:1 ≤ n):(sU n lt).Pairwise (Rk lt):=by
 have R:=Qj W hn;have z:(sU n lt).length=n:=by
  have:=(n6 (n:=n) (by omega) lt).length_eq;simpa using this
 rw [iH];intro i j hi hj hij;have:=R.asc i j hij (by omega);have g:∀ k (h:k < (sU n lt).length),ga (dX lt (a_ n)) k=(sU n lt)[k]:=fun k h=>by
  unfold sU at h ⊢;have h':k < (dX lt (a_ n)).size:=by simpa using h
  simp [ga,g_,h']
 rwa [g i hi,g j hj] at this
end
end XS
namespace XS
theorem Lr {k:Nat→Int}:Weak fun i j=>decide (k i < k j):=by
 refine ⟨fun a=>?_,fun a b c h1 h2=>?_,fun a b c h=>?_⟩
 ·simp
 ·simp only [decide_eq_true_eq] at *;omega
 ·simp only [decide_eq_true_eq] at *;omega
end XS
namespace Com
open PySem D3 My XS
theorem Xq {k:Nat→Int} {i j:Nat} (h:Rk (fun i j=>decide (k i < k j)) i j):k i ≤ k j:=by
 rcases h with z | ⟨z,_⟩
 ·have z:=of_decide_eq_true z;omega
 ·have z:=of_decide_eq_false z;omega
theorem Ls {l:List Nat} {lt:Nat→Nat→Bool} (h0:0 < l.length):((sU l.length lt).map fun i=>l.getD i 0).Perm l:=by
 have e:(aB l.length).map (fun i=>l.getD i 0)=l:=by
  apply fD;intro i;rw [aP];by_cases h:i < l.length
  ·rw [cj h,aV h,gO,bC,aV h];rfl
  ·rw [bF (by simpa using h),bF (by omega)];rfl
 have:=(n6 h0 lt).map (fun i=>l.getD i 0);rwa [e] at this
theorem xY (l:List Nat) (f:Nat→Int):∃ L':List Nat,qQ (l.map fun p:Nat=>PyData.int (p:Int)) (l.map f)=L'.map (fun p:Nat=>PyData.int (p:Int))∧L'.Perm l∧L'.Pairwise fun a b=>f a ≤ f b:=by
 unfold qQ;rw [aD];by_cases h1:l.length ≤ 1
 ·rw [if_pos h1];refine ⟨l,rfl,List.Perm.refl _,?_⟩
  match l,h1 with
  | [],_=>exact .nil
  | [_],_=>simp
 ·rw [if_neg h1];have gd:∀ i,i < l.length→(l.map f).getD i 0=f (l.getD i 0):=fun i hi=>by
   rw [bC,aP,bC,aV hi];rfl
  refine ⟨(sU l.length fun i j=>decide ((l.map f).getD i 0 < (l.map f).getD j 0)).map fun i=>l.getD i 0,?_,Ls (by omega),?_⟩
  ·rw [dO];apply jd;intro i hi;have hi':=aQ.mp ((n6 (n:=l.length) (by omega) _).mem_iff.mp hi);rw [bC,aP,aV hi'];show _=PyData.int ((l.getD i 0:Nat):Int);rw [bC,aV hi'];rfl
  ·rw [oG];have W:Weak fun i j=>decide ((l.map f).getD i 0 < (l.map f).getD j 0):=Lr
   refine List.Pairwise.imp_of_mem ?_ (Fp W (by omega));intro i j hi hj hr;have hi':=aQ.mp ((n6 (n:=l.length) (by omega) _).mem_iff.mp hi);have hj':=aQ.mp ((n6 (n:=l.length) (by omega) _).mem_iff.mp hj);have:=Xq (k:=fun i=>(l.map f).getD i 0) hr;rwa [gd i hi',gd j hj'] at this
theorem xZ {n:Nat} (f:Nat→D):jW ((aB n).map f)=(aB n).map fun p:Nat=>PyData.tuple [.int (p:Int),f p]:=by
 unfold jW;apply fD;intro i;rw [jJ,aP,aP];by_cases h:i < n
 ·rw [cj h];rfl
 ·rw [bF (by simpa using h)];rfl
theorem Q9 {L:List Ty} (u:Option U) (ps:List Nat) (h:∀ p ∈ ps,p < L.length):eN (gNl 0) D3.kJ dK0 (jE 1 [0] [some (.d (.list (L.map yD))),u]) (ps.map fun p:Nat=>PyData.int (p:Int))=some ((ps.map fun p=>(tAt L p).1).map PyData.int):=by
 rw [dO];exact Ak (fun p:Nat=>PyData.int (p:Int)) (fun p:Nat=>PyData.int (tAt L p).1) ps fun p hp=>⟨[some (.d (.int (p:Int))),some (.d (.list (L.map yD)))],rfl,rfl,by
  show (pAt (L.map yD) (p:Int)).bind _=_;rw [jx,sV _ (h p hp)];rfl⟩
def opn (L:List Ty):List Nat:=(aB L.length).filter fun p=>!(tAt L p).2.2.isSome
theorem Lw {L:List Ty} (x:Int):jw L x=((aB L.length).filter (Gr.holds (fun k=>(tAt L k).1) (fun k=>(tAt L k).2.1) x)).length:=by
 have e:L=(aB L.length).map (tAt L):=by
  apply fD;intro i;rw [aP];by_cases h:i < L.length
  ·rw [cj h,aV h,gO];unfold tAt;rw [bC,aV h];rfl
  ·rw [bF (by omega),bF (by simpa using h)];rfl
 unfold jw
 conv=>lhs;rw [e]
 rw [qH,aD];rfl
theorem rU {L:List Ty} (nd:(L.filterMap (·.2.2)).Nodup) {k l r:Nat} (hk:k < L.length) (hl:l < L.length) (z1:(tAt L k).2.2=some r) (z2:(tAt L l).2.2=some r):k=l:=by
 induction L generalizing k l with
 | nil=>cases hk
 | cons s L ih =>
  have nd':(L.filterMap (·.2.2)).Nodup:=by
   cases h:s.2.2 with
   | none=>rw [eE,h] at nd;exact nd
   | some x=>rw [eE,h] at nd;exact (cF.mp nd).2
  have no:∀ m,m < L.length→s.2.2=some r→(tAt L m).2.2=some r→False:=fun m hm a b=>by
   rw [eE,a] at nd;exact (cF.mp nd).1 (fP.mpr ⟨_,cR hm,b⟩)
  cases k with
  | zero =>
   cases l with
   | zero=>rfl
   | succ l=>exact (no l (by simpa using hl) z1 z2).elim
  | succ k =>
   cases l with
   | zero=>exact (no k (by simpa using hk) z2 z1).elim
   | succ l=>exact congrArg (· + 1) (ih nd' (k:=k) (l:=l) (by simpa using hk) (by simpa using hl) z1 z2)
theorem Xr {L:List Ty} {M:Nat} {now:Int} (ok:TOk L M now):(ssT L now).Ok:=by
 refine ⟨fun k hk=>(ok.ok _ (cR hk)).1,fun k hk z=>?_,fun k hk z=>?_⟩
 ·obtain ⟨r,e⟩:=bR.mp z;exact ((ok.ok _ (cR hk)).2.1 r e).2
 ·exact (ok.ok _ (cR hk)).2.2 (Option.isSome_eq_false_iff.mp z |> Option.isNone_iff_eq_none.mp)
end Com
namespace Rch
structure GInv (z:Int) (M:Nat) (b e:Nat→Int) (done:List Nat) (seat:Nat→Option Nat) (fs:Nat→Int):Prop where
 out:∀ p,p ∉ done→seat p=none
 inn:∀ p ∈ done,∃ r,seat p=some r∧r < M∧e p ≤ fs r
 bk:∀ r,r < M→fs r ≤ z∨∃ p ∈ done,seat p=some r∧e p=fs r
 dj:∀ p ∈ done,∀ q ∈ done,p ≠ q→seat p=seat q→e p ≤ b q∨e q ≤ b p
theorem GInv.step {z:Int} {M:Nat} {b e:Nat→Int} {done:List Nat} {seat:Nat→Option Nat} {fs:Nat→Int} {c r:Nat} (I:GInv z M b e done seat fs) (hc:c ∉ done) (hr:r < M) (hf:fs r ≤ b c) (h1:b c < e c) :
 GInv z M b e (done++[c]) (fun p=>if p=c then some r else seat p) (fun x=>if x=r then e c else fs x):=by
 have ne:∀ p ∈ done,p ≠ c:=fun p hp z=>hc (z ▸ hp)
 refine ⟨fun p hp=>?_,fun p hp=>?_,fun x hx=>?_,fun p hp q hq hpq hs=>?_⟩
 ·have h2:p ≠ c:=fun z=>hp (aU _ (by rw [z];exact aJ.mpr rfl))
  rw [if_neg h2];exact I.out p fun z=>hp (bD _ z)
 ·rcases aR.mp hp with z | z
  ·obtain ⟨x,s1,s2,s3⟩:=I.inn p z;refine ⟨x,by rwa [if_neg (ne p z)],s2,?_⟩;by_cases hx:x=r
   ·rw [if_pos hx];rw [hx] at s3;omega
   ·rwa [if_neg hx]
  ·have z:=aJ.mp z;exact ⟨r,by rw [if_pos z],hr,by rw [if_pos rfl,z];exact d7 _⟩
 ·by_cases z:x=r
  ·exact .inr ⟨c,aU _ (aJ.mpr rfl),by rw [if_pos rfl,z],by rw [if_pos z]⟩
  ·rw [if_neg z];rcases I.bk x hx with w | ⟨p,hp,w1,w2⟩
   ·exact .inl w
   ·exact .inr ⟨p,bD _ hp,by rwa [if_neg (ne p hp)],w2⟩
 ·rcases aR.mp hp with z | z
  ·rcases aR.mp hq with w | w
   ·rw [if_neg (ne p z),if_neg (ne q w)] at hs;exact I.dj p z q w hpq hs
   ·have w:=aJ.mp w;rw [if_neg (ne p z),if_pos w] at hs;obtain ⟨x,s1,_,s3⟩:=I.inn p z;rw [s1] at hs;injection hs with hs
    rw [hs] at s3
    left
    rw [w];omega
  ·have z:=aJ.mp z;rcases aR.mp hq with w | w
   ·rw [if_pos z,if_neg (ne q w)] at hs;obtain ⟨x,s1,_,s3⟩:=I.inn q w;rw [s1] at hs;injection hs with hs
    rw [← hs] at s3
    right
    rw [z];omega
   ·exact absurd (z.trans (aJ.mp w).symm) hpq
theorem Lx {α:Type} (P:Nat→α→Prop):∀ rs:List Nat,rs.Nodup→(∀ r ∈ rs,∃ a,P r a)→(∀ r r' a,P r a→P r' a→r=r')→∃ l:List α,l.length=rs.length∧l.Nodup∧∀ a ∈ l,∃ r ∈ rs,P r a
 | [],_,_,_=>⟨[],rfl,rm,fun _ h=>by cases h⟩
 | r0 :: rs,nd,h,u=>by
  obtain ⟨n1,n2⟩:=cF.mp nd;obtain ⟨l,h1,h2,h3⟩:=Lx P rs n2 (fun r hr=>h r (aM _ hr)) u;obtain ⟨a,ha⟩:=h r0 aK;refine ⟨a :: l,by rw [bH,bH,h1],cF.mpr ⟨fun z=>?_,h2⟩,fun x hx=>?_⟩
  ·obtain ⟨r,hr,hp⟩:=h3 a z;have:=u r r0 a hp ha;exact n1 (this ▸ hr)
  ·rcases aY.mp hx with rfl | z
   ·exact ⟨r0,aK,ha⟩
   ·obtain ⟨r,hr,hp⟩:=h3 x z;exact ⟨r,aM _ hr,hp⟩
def holds (b e:Nat→Int) (x:Int) (p:Nat):Bool:=decide (b p ≤ x) && decide (x < e p)
theorem holds_iff {b e:Nat→Int} {x:Int} {p:Nat}:holds b e x p=true↔b p ≤ x∧x < e p:=by
 unfold holds;rw [aW,decide_eq_true_iff,decide_eq_true_iff]
def cnt (n:Nat) (b e:Nat→Int) (x:Int):Nat:=((aB n).filter (holds b e x)).length
theorem sO {n:Nat} {b e:Nat→Int} {x:Int} {p:Nat}:p ∈ (aB n).filter (holds b e x)↔p < n∧b p ≤ x∧x < e p:=by
 rw [bx,aQ,holds_iff]
theorem UG {n M:Nat} {b e h:Nat→Int} {x r:Int} (hv:∀ k l,k < n→l < n→k ≠ l→b k < e l→b l < e k→h k ≠ h l) (hb:∀ k,k < n→0 ≤ h k∧h k < (M:Int)) (r0:0 ≤ r) (r1:r < (M:Int))
 (no:∀ k,k < n→b k ≤ x→x < e k→h k ≠ r):cnt n b e x < M:=by
 have nd:(r :: ((aB n).filter (holds b e x)).map h).Nodup:=by
  refine cF.mpr ⟨fun z=>?_,?_⟩
  ·obtain ⟨k,hk,ek⟩:=dR.mp z;obtain ⟨k1,k2,k3⟩:=sO.mp hk;exact no k k1 k2 k3 ek
  ·refine oG.mpr (List.Pairwise.imp_of_mem ?_ (List.Pairwise.filter _ dJ));intro p q hp hq hne;obtain ⟨p1,p2,p3⟩:=sO.mp hp;obtain ⟨q1,q2,q3⟩:=sO.mp hq;exact hv p q p1 q1 hne (by omega) (by omega)
 have sub:(r :: ((aB n).filter (holds b e x)).map h) ⊆ (aB M).map fun r:Nat=>(r:Int):=fun y hy=>by
  have go:∀ y:Int,0 ≤ y→y < (M:Int)→y ∈ (aB M).map fun r:Nat=>(r:Int):=fun y y0 y1=>dR.mpr ⟨y.toNat,aQ.mpr (by omega),by omega⟩
  rcases aY.mp hy with rfl | z
  ·exact go _ r0 r1
  ·obtain ⟨k,hk,ek⟩:=dR.mp z;obtain ⟨k1,_,_⟩:=sO.mp hk;rw [← ek];exact go _ (hb k k1).1 (hb k k1).2
 have:=List.Nodup.length_le_of_subset nd sub;rw [bH,aD,aD,aX] at this;exact this
structure Wd (n M:Nat) (b e:Nat→Int) (hd:Nat→Option Nat) (now:Int) (w r:Nat) (B:Int):Prop where
 lt:∀ k,k < n→b k < e k
 hh:∀ k s,k < n→hd k=some s→s < M∧b k ≤ now∧now < e k
 hn:∀ k,k < n→hd k=none→now ≤ b k
 one:∀ k l s,k < n→l < n→hd k=some s→hd l=some s→k=l
 full:∀ k,k < n→now ≤ b k→cnt n b e (b k) ≤ M
 wn:w < n
 wh:hd w=none
 rM:r < M
 beg:(∃ k,k < n∧hd k=some r∧B=e k)∨((∀ k,k < n→hd k ≠ some r)∧B=now)
section
variable {n M:Nat} {b e:Nat→Int} {hd:Nat→Option Nat} {now:Int} {w r:Nat} {B:Int}
def Go (n:Nat) (b e:Nat→Int) (hd:Nat→Option Nat) (w k:Nat):Prop:=k < n∧k ≠ w∧hd k=none∧e k ≤ b w
inductive Pth (n M:Nat) (b e:Nat→Int) (hd:Nat→Option Nat) (w:Nat) (B:Int):List Nat→Int→Prop
 | start:Pth n M b e hd w B [] B
 | gap {cs:List Nat} {x:Int}:Pth n M b e hd w B cs x→cnt n b e x ≠ M→x < b w→Pth n M b e hd w B cs (x + 1)
 | stay {cs:List Nat} {k:Nat}:Pth n M b e hd w B cs (b k)→Go n b e hd w k→Pth n M b e hd w B (cs++[k]) (e k)
theorem Pth.ge (W:Wd n M b e hd now w r B) {cs:List Nat} {x:Int} (h:Pth n M b e hd w B cs x):B ≤ x:=by
 induction h with
 | start=>exact d7 _
 | gap _ _ _ ih=>omega
 | stay _ g ih =>
  have:=W.lt _ g.1;omega
theorem Pth.mem (W:Wd n M b e hd now w r B) {cs:List Nat} {x:Int} (h:Pth n M b e hd w B cs x):∀ k ∈ cs,Go n b e hd w k∧B ≤ b k∧e k ≤ x:=by
 induction h with
 | start=>intro k hk;cases hk
 | gap _ _ _ ih=>intro k hk;obtain ⟨h1,h2,h3⟩:=ih k hk;exact ⟨h1,h2,by omega⟩
 | stay p g ih =>
  intro k hk;rcases aR.mp hk with z | z
  ·obtain ⟨h1,h2,h3⟩:=ih k z;have:=W.lt _ g.1;exact ⟨h1,h2,by omega⟩
  ·rw [aJ.mp z];exact ⟨g,p.ge W,d7 _⟩
theorem Pth.pw (W:Wd n M b e hd now w r B) {cs:List Nat} {x:Int} (h:Pth n M b e hd w B cs x):cs.Pairwise fun p q=>e p ≤ b q:=by
 induction h with
 | start=>exact .nil
 | gap _ _ _ ih=>exact ih
 | stay p g ih=>exact cZ.mpr ⟨ih,je _ _,fun a ha q hq=>by rw [aJ.mp hq];exact (p.mem W a ha).2.2⟩
theorem Pth.cov (W:Wd n M b e hd now w r B) {cs:List Nat} {x:Int} (h:Pth n M b e hd w B cs x):∀ y,B ≤ y→y < x→(∃ k ∈ cs,b k ≤ y∧y < e k)∨cnt n b e y ≠ M:=by
 induction h with
 | start=>intro y h1 h2;omega
 | @gap cs x p g1 g2 ih =>
  intro y h1 h2;by_cases z:y=x
  ·rw [z];exact .inr g1
  ·exact ih y h1 (by omega)
 | @stay cs k p g ih =>
  intro y h1 h2;by_cases z:b k ≤ y
  ·exact .inl ⟨k,aU _ (aJ.mpr rfl),z,h2⟩
  ·rcases ih y h1 (by omega) with ⟨k',m,q⟩ | q
   ·exact .inl ⟨k',bD _ m,q⟩
   ·exact .inr q
theorem reach (W:Wd n M b e hd now w r B) {h:Nat→Int} (hv:∀ k l,k < n→l < n→k ≠ l→b k < e l→b l < e k→h k ≠ h l) (hb:∀ k,k < n→0 ≤ h k∧h k < (M:Int)) (hf:∀ k s,k < n→hd k=some s→h k=(s:Int)) (hw:h w=(r:Int)) :
 B ≤ b w∧∀ K:Int→Prop,K B→(∀ x,B ≤ x→x < b w→K x→(cnt n b e x ≠ M→K (x + 1))∧∀ k,Go n b e hd w k→b k=x→K (e k))→K (b w):=by
 have rM:=W.rM;have late:∀ k,k < n→hd k=none→h k=(r:Int)→B ≤ b k:=fun k k1 k2 k3=>by
  rcases W.beg with ⟨l,l1,l2,l3⟩ | ⟨_,l3⟩
  ·have kl:k ≠ l:=fun z=>by rw [z,l2] at k2;cases k2
   obtain ⟨_,q1,q2⟩:=W.hh l r l1 l2;have q3:=W.hn k k1 k2;have q4:=W.lt k k1;rcases kZ (b k) (e l) with z | z
   ·exact absurd (k3.trans (hf l r l1 l2).symm) (hv k l k1 l1 kl z (by omega))
   ·omega
  ·rw [l3];exact W.hn k k1 k2
 have hB:=late w W.wn W.wh hw;refine ⟨hB,fun K K0 KS=>?_⟩;have main:∀ m:Nat,∀ x:Int,x=B + (m:Int)→x ≤ b w→(∀ k,k < n→h k=(r:Int)→¬ (b k < x∧x < e k))→K x:=by
  intro m
  induction m using Nat.strongRecOn with
  | _ m ih =>
   intro x hx hg nb
   cases m with
   | zero =>
    have:x=B:=by omega
    rw [this];exact K0
   | succ m =>
    by_cases em:∃ k,k < n∧h k=(r:Int)∧b k ≤ x - 1∧x - 1 < e k
    ·obtain ⟨k,k1,k2,k3,k4⟩:=em;have k5:e k=x:=by
      have:=nb k k1 k2;omega
     have kn:hd k=none:=by
      cases z:hd k with
      | none=>rfl
      | some s =>
       have:=hf k s k1 z;have sr:s=r:=by omega
       rw [sr] at z
       exfalso
       rcases W.beg with ⟨l,l1,l2,l3⟩ | ⟨l1,_⟩
       ·have:=W.one k l r k1 l1 z l2;rw [this] at k5;omega
       ·exact l1 k k1 z
     have kw:k ≠ w:=fun z=>by
      have:=W.lt w W.wn;rw [z] at k5;omega
     have kb:=late k k1 kn k2;have lk:=W.lt k k1;have:=ih (b k - B).toNat (by omega) (b k) (by omega) (by omega) (fun l l1 l2 l3=>by
      have kl:k ≠ l:=fun z=>by rw [z] at l3;omega
      exact hv k l k1 l1 kl (by omega) (by omega) (k2.trans l2.symm))
     have:=(KS (b k) kb (by omega) this).2 k ⟨k1,kw,kn,by omega⟩ rfl;rwa [k5] at this
    ·have c:=UG (x:=x - 1) (r:=(r:Int)) hv hb (by omega) (by omega) (fun k k1 k2 k3 k4=>em ⟨k,k1,k4,k2,k3⟩);have:=ih m (by omega) (x - 1) (by omega) (by omega) (fun k k1 k2 k3=>em ⟨k,k1,k2,by omega,k3.2⟩);have:=(KS (x - 1) (by omega) (by omega) this).1 (by omega);rwa [show x - 1 + 1=x by omega] at this
 refine main (b w - B).toNat (b w) (by omega) (d7 _) fun k k1 k2 k3=>?_
 have kw:k ≠ w:=fun z=>by rw [z] at k3;omega
 have:=W.lt w W.wn;exact hv k w k1 W.wn kw (by omega) (by omega) (k2.trans hw.symm)
theorem Xu (W:Wd n M b e hd now w r B) (hB:B ≤ b w) {cs:List Nat} (p:Pth n M b e hd w B cs (b w)) {f:Nat→Int} (hf:∀ s,s < M→(∃ k,k < n∧hd k=some s∧f s=e k)∨((∀ k,k < n→hd k ≠ some s)∧f s=now)) (hr:f r=B) {hel:List Nat} (hh:∀ k,k ∈ hel↔k < n∧(hd k).isSome=true) (ho:∀ k,n ≤ k→hd k=none) :
 GInv now M b e (hel++(cs++[w])) (fun k=>if k ∈ cs++[w] then some r else hd k) (fun s=>if s=r then e w else f s):=by
 have lw:=W.lt w W.wn;have rM:=W.rM;have inC:∀ k ∈ cs++[w],k < n∧hd k=none∧B ≤ b k∧e k ≤ e w:=fun k hk=>by
  rcases aR.mp hk with z | z
  ·obtain ⟨g,g1,g2⟩:=p.mem W k z;exact ⟨g.1,g.2.2.1,g1,by omega⟩
  ·rw [aJ.mp z];exact ⟨W.wn,W.wh,hB,d7 _⟩
 have ap:∀ k l,k ∈ cs++[w]→l ∈ cs++[w]→k ≠ l→e k ≤ b l∨e l ≤ b k:=by
  have pw:=cZ.mpr ⟨p.pw W,je _ _,fun a ha q hq=>by rw [aJ.mp hq];exact (p.mem W a ha).2.2⟩;intro k l hk hl kl;obtain ⟨i,hi,ei⟩:=gW hk;obtain ⟨j,hj,ej⟩:=gW hl;rcases Nat.lt_trichotomy i j with z | z | z
  ·left
   have:=iH.mp pw i j hi hj z;rwa [ei,ej] at this
  ·subst z;exact absurd (ei.symm.trans ej) kl
  ·right
   have:=iH.mp pw j i hj hi z;rwa [ei,ej] at this
 have held:∀ k s,k < n→hd k=some s→k ∉ cs++[w]:=fun k s _ k2 z=>by
  rw [(inC k z).2.1] at k2;cases k2
 have heldB:∀ k,k < n→hd k=some r→e k=B:=fun k k1 k2=>by
  rcases W.beg with ⟨l,l1,l2,l3⟩ | ⟨l1,_⟩
  ·rw [W.one k l r k1 l1 k2 l2,l3]
  ·exact absurd k2 (l1 k k1)
 refine ⟨fun k hk=>?_,fun k hk=>?_,fun s hs=>?_,fun k hk l hl kl hs=>?_⟩
 ·have h1:=fun z=>hk (aU _ z)
  rw [if_neg h1]
  cases z:hd k with
  | none=>rfl
  | some s =>
   rcases iM k n with y | y
   ·exact absurd (bD _ ((hh k).mpr ⟨y,by rw [z];rfl⟩)) hk
   ·rw [ho k y] at z;cases z
 ·by_cases c:k ∈ cs++[w]
  ·exact ⟨r,by rw [if_pos c],rM,by rw [if_pos rfl];exact (inC k c).2.2.2⟩
  ·have kh:k ∈ hel:=by
    rcases aR.mp hk with z | z
    ·exact z
    ·exact absurd z c
   obtain ⟨k1,k2⟩:=(hh k).mp kh;obtain ⟨s,es⟩:=bR.mp k2;refine ⟨s,by rwa [if_neg c],(W.hh k s k1 es).1,?_⟩;by_cases z:s=r
   ·rw [if_pos z];rw [z] at es;have:=heldB k k1 es;omega
   ·rw [if_neg z];rcases hf s (W.hh k s k1 es).1 with ⟨l,l1,l2,l3⟩ | ⟨l1,_⟩
    ·rw [l3,W.one k l s k1 l1 es l2];exact d7 _
    ·exact absurd es (l1 k k1)
 ·by_cases z:s=r
  ·right
   have m:w ∈ cs++[w]:=aU _ (aJ.mpr rfl);exact ⟨w,aU _ m,by rw [if_pos m,z],by rw [if_pos z]⟩
  ·rw [if_neg z];rcases hf s hs with ⟨l,l1,l2,l3⟩ | ⟨_,l3⟩
   ·exact .inr ⟨l,bD _ ((hh l).mpr ⟨l1,by rw [l2];rfl⟩),by rwa [if_neg (held l s l1 l2)],l3.symm⟩
   ·exact .inl (by omega)
 ·have hs:=hs;by_cases c:k ∈ cs++[w]
  ·by_cases d:l ∈ cs++[w]
   ·exact ap k l c d kl
   ·rw [if_pos c,if_neg d] at hs;have lh:l ∈ hel:=by
     rcases aR.mp hl with z | z
     ·exact z
     ·exact absurd z d
    have:=heldB l ((hh l).mp lh).1 hs.symm;have:=(inC k c).2.2.1;omega
  ·have kh:k ∈ hel:=by
    rcases aR.mp hk with z | z
    ·exact z
    ·exact absurd z c
   rw [if_neg c] at hs;by_cases d:l ∈ cs++[w]
   ·rw [if_pos d] at hs;have:=heldB k ((hh k).mp kh).1 hs;have:=(inC l d).2.2.1;omega
   ·rw [if_neg d] at hs;have lh:l ∈ hel:=by
     rcases aR.mp hl with z | z
     ·exact z
     ·exact absurd z d
    obtain ⟨k1,k2⟩:=(hh k).mp kh;obtain ⟨s,es⟩:=bR.mp k2;exact absurd (W.one k l s k1 ((hh l).mp lh).1 es (hs.symm.trans es)) kl
theorem room (W:Wd n M b e hd now w r B) (hB:B ≤ b w) {cs:List Nat} (p:Pth n M b e hd w B cs (b w)) {done:List Nat} {seat:Nat→Option Nat} {fs:Nat→Int} {c:Nat} (I:GInv now M b e done seat fs) (hc:c ∉ done) (hcn:c < n) (hcf:hd c=none) (hdn:∀ k ∈ done,k < n)
 (hA:∀ k ∈ done,k ∈ cs++[w]∨b k ≤ b c) (hC:∀ k ∈ cs++[w],k ∈ done∧seat k=some r) (hG:∀ k,k < n→hd k=some r→k ∈ done∧seat k=some r):∃ s,s < M∧fs s ≤ b c:=by
 apply Classical.byContradiction;intro no;have nb:=W.hn c hcn hcf;have lc:=W.lt c hcn;have cm:=W.full c hcn nb;have all:∀ s,s < M→∃ k,k ∈ done∧seat k=some s∧b c < e k:=fun s hs=>by
  have hn:¬ fs s ≤ b c:=fun z=>no ⟨s,hs,z⟩
  rcases I.bk s hs with z | ⟨k,hk,h2,h3⟩
  ·omega
  ·exact ⟨k,hk,h2,by omega⟩
 have sub:∀ l:List Nat,(∀ k ∈ l,k ∈ done∧b k ≤ b c∧b c < e k)→l.Nodup→l.length + 1 ≤ cnt n b e (b c):=fun l hl nd=>by
  have nd2:=cF.mpr ⟨fun z=>hc (hl c z).1,nd⟩;have:=List.Nodup.length_le_of_subset (l₂:=(aB n).filter (holds b e (b c))) nd2 fun k hk=>by
   rcases aY.mp hk with rfl | z
   ·exact sO.mpr ⟨hcn,d7 _,lc⟩
   ·obtain ⟨h1,h2,h3⟩:=hl k z;exact sO.mpr ⟨hdn k h1,h2,h3⟩
  rwa [bH] at this
 have oth:∀ s,s < M→s ≠ r→∃ k,k ∈ done∧seat k=some s∧b k ≤ b c∧b c < e k:=fun s hs sr=>by
  obtain ⟨k,k1,k2,k3⟩:=all s hs;refine ⟨k,k1,k2,?_,k3⟩;rcases hA k k1 with z | z
  ·rw [(hC k z).2] at k2;injection k2 with k2
   exact absurd k2.symm sr
  ·exact z
 have uni:∀ s s' k,(k ∈ done∧seat k=some s∧b k ≤ b c∧b c < e k)→(k ∈ done∧seat k=some s'∧b k ≤ b c∧b c < e k)→s=s':=fun s s' k z z'=>by
  have:=z.2.1.symm.trans z'.2.1;injection this
 by_cases own:∃ k,k ∈ done∧seat k=some r∧b k ≤ b c∧b c < e k
 ·obtain ⟨l,l1,l2,l3⟩:=Lx (fun s k=>k ∈ done∧seat k=some s∧b k ≤ b c∧b c < e k) (aB M) dJ (fun s hs=>by
   by_cases z:s=r
   ·rwa [z]
   ·exact oth s (aQ.mp hs) z) uni
  have:=sub l (fun k hk=>let ⟨_,_,q⟩:=l3 k hk;⟨q.1,q.2.2⟩) l2;rw [l1,aX] at this;omega
 ·obtain ⟨l,l1,l2,l3⟩:=Lx (fun s k=>k ∈ done∧seat k=some s∧b k ≤ b c∧b c < e k) ((aB M).erase r) (List.Nodup.erase r dJ) (fun s hs=>by
   obtain ⟨h1,h2⟩:=(List.Nodup.mem_erase_iff dJ).mp hs;exact oth s (aQ.mp h2) h1) uni
  have q:=sub l (fun k hk=>let ⟨_,_,q⟩:=l3 k hk;⟨q.1,q.2.2⟩) l2;rw [l1,List.length_erase_of_mem (aQ.mpr W.rM),aX] at q;have rM:=W.rM;have eM:cnt n b e (b c)=M:=by omega
  obtain ⟨k,k1,k2,k3⟩:=all r rM;have kc:k ∈ cs++[w]:=by
   rcases hA k k1 with z | z
   ·exact z
   ·exact absurd ⟨k,k1,k2,z,k3⟩ own
  have cw:b c < b w:=by
   rcases kZ (b c) (b w) with z | z
   ·exact z
   ·have:b c < e w:=by
     rcases aR.mp kc with y | y
     ·have:=(p.mem W k y).2.2;have:=W.lt w W.wn;omega
     ·rwa [aJ.mp y] at k3
    have m:w ∈ cs++[w]:=aU _ (aJ.mpr rfl);exact absurd ⟨w,(hC w m).1,(hC w m).2,z,this⟩ own
  have cB:B ≤ b c:=by
   rcases W.beg with ⟨l,l1,l2,l3⟩ | ⟨_,l3⟩
   ·rcases kZ (b c) B with z | z
    ·obtain ⟨q1,q2⟩:=hG l l1 l2;have q3:=(W.hh l r l1 l2).2.1;exact absurd ⟨l,q1,q2,by omega,by omega⟩ own
    ·exact z
   ·omega
  rcases p.cov W (b c) cB cw with ⟨k',m,q1,q2⟩ | q1
  ·have m':k' ∈ cs++[w]:=bD _ m;exact absurd ⟨k',(hC k' m').1,(hC k' m').2,q1,q2⟩ own
  ·exact q1 eM
end
end Rch
namespace K49
open PySem D3
abbrev gQ:List D→Option D:=Com.gQ
def iV:List D→Option D:=fnD 1 0 (cL (dCall Ed (aq (iw (S7 (aj 0)) (gNl 0) (kJ) (dCall gQ (aq (aj 0) (aZ))) 1 []) (aZ))))
def mC:List D→Option D:=fnD 2 0 (cL (uH (dUn (gIs "tuple") (aj 0)) (uH (dOp gEq (dCall jH (aq (aj 0) (aZ))) (aj 1)) (dCall iV (aq (aj 0) (aZ))))))
def pN:List D→Option D:=fnD 1 0 (cL (dCall mC (aq (aj 0) (aq (dC (.int 2)) (aZ)))))
def eV:List D→Option D:=fnD 1 0 (cL (uH (dUn (gIs "list") (aj 0)) (dCall iV (aq (aj 0) (aZ)))))
abbrev iU:List D→Option D:=Com.iU
def lG:List D→Option D:=fnD 1 0 (cL (uH (dCall pN (aq (aj 0) (aZ))) (vR gLe gLt gLe (dC (.int 0)) (dOp gIx (aj 0) (dC (.int 0))) (dOp gIx (aj 0) (dC (.int 1))) (dC (.int 400)))))
abbrev b_:List D→Option D:=Com.b_
abbrev ig:List D→Option D:=Com.ig
abbrev pJ:List D→Option D:=Com.pJ
abbrev nq:List D→Option D:=Com.nq
abbrev jc:List D→Option D:=Com.jc
abbrev n8:List D→Option D:=Com.n8
abbrev lF:List D→Option D:=Com.lF
def lZ:List D→Option D:=fnD 3 1 (bQ (sIf (D3.tOr (D3.lU (bh (dUn (gIs "tuple") (aj 0)))) (D3.tOr (bh (dOp gNe (dCall jH (aq (aj 0) (aZ))) (dC (.int 3)))) (D3.lU (bh (dCall lG (aq (dCall b_ (aq (aj 0) (aZ))) (aZ))))))) (cL (dC (.bool false))) (dG))
    (bQ (bM 3 (dOp gIx (aj 0) (dC (.int 2))))
    (bQ (sIf (bh (dUn rF (aj 3))) (cL (dOp gGe (dOp gIx (aj 0) (dC (.int 0))) (aj 2))) (dG))
    (cL (uH (dCall gQ (aq (aj 3) (aZ))) (uH (o8 gLe gLt (dC (.int 0)) (aj 3) (aj 1)) (dCall ig (aq (dCall b_ (aq (aj 0) (aZ))) (aq (aj 2) (aZ))))))))))
def fZ:List D→Option D:=fnD 3 3 (bQ (bM 3 (dC (.dict [])))
    (mF (vh (aj 0)) (gTn 2 (cH (gNl 4) (cH (gNl 5) (ji)))) (bQ (sIf (D3.lU (bh (dCall lZ (aq (aj 5) (aq (aj 1) (aq (aj 2) (aZ))))))) ((fun _=>none)) (dG))
    (bQ (sIf (bh (dOp yC (dOp gIx (aj 5) (dC (.int 2))) (aj 3))) ((fun _=>none)) (dG))
    (sIf (bh (dUn lK (dOp gIx (aj 5) (dC (.int 2))))) (Cw 3 (dOp gIx (aj 5) (dC (.int 2)))) (dG))))))
abbrev fW:List D→Option D:=Com.fW
def gR:List D→Option D:=fnD 1 1 (bQ (bM 1 (iw (vh (aj 0)) (gTn 2 (cH (gNl 0) (cH (gNl 1) (ji)))) (bh (dUn rF (dOp gIx (aj 1) (dC (.int 2))))) (cW (aj 0)) 2 []))
    (cL (XS.xH (aj 1) XS.dK0 [0])))
abbrev cD:List D→Option D:=Com.cD
abbrev fX:List D→Option D:=Com.fX
def lH:List D→Option D:=fnD 3 4 (bQ (bM 3 (dUn gY (aj 1)))
    (bQ (bM 4 (dUn gY (aj 2)))
    (bQ (mF (lu (dCall gR (aq (aj 0) (aZ)))) (gNl 5) (sIf (bh (dUn rF (dOp gIx (aj 3) (aj 5)))) (bQ (bM 6 (dCall fX (aq (aj 4) (aq (dOp gIx (dOp gIx (aj 0) (aj 5)) (dC (.int 0))) (aZ)))))
    (bQ (uK 3 (aj 5) (aj 6))
    (uK 4 (aj 6) (dOp gIx (dOp gIx (aj 0) (aj 5)) (dC (.int 1)))))) (dG)))
    (cL (tV (aj 3))))))
def rW:List D→Option D:=fnD 3 0 (bQ (pD (dCall fZ (aq (aj 0) (aq (aj 1) (aq (aj 2) (aZ))))))
    (bQ (pD (dCall fW (aq (aj 0) (aq (aj 1) (aq (aj 2) (aZ))))))
    (cL (dCall lH (aq (aj 0) (aq (iw (lu (aj 0)) (gNl 0) (kJ) (cW (dOp gIx (aj 0) (dC (.int 2)))) 1 []) (aq (dCall cD (aq (aj 0) (aq (aj 1) (aq (aj 2) (aZ))))) (aZ))))))))
def iW:List D→Option D:=fnD 4 0 (bQ (pD (dCall fZ (aq (aj 0) (aq (aj 1) (aq (aj 2) (aZ))))))
    (bQ (pD (dCall fW (aq (aj 0) (aq (aj 1) (aq (aj 2) (aZ))))))
    (sIf (D3.tOr (D3.lU (bh (o8 gLe gLt (dC (.int 0)) (aj 3) (dCall jH (aq (aj 0) (aZ)))))) (bh (dUn lK (dOp gIx (dOp gIx (aj 0) (aj 3)) (dC (.int 2)))))) ((fun _=>none)) (dG))))
abbrev fL:List D→Option D:=Com.fL
abbrev jO:List D→Option D:=Com.jO
abbrev fY:List D→Option D:=Com.fY
abbrev eU:List D→Option D:=Com.eU
def fU:List D→Option D:=fnD 4 3 (bQ (bM 4 (wX (aj 3)))
    (bQ (mF (Gj (aq (aj 3) (aq (dOp gIx (dOp gIx (aj 0) (aj 2)) (dC (.int 0))) (aZ)))) (gNl 5) (sIf (bh (dOp Cy (aj 5) (aj 4))) (mF (lu (dCall eU (aq (aj 0) (aq (aj 1) (aq (aj 2) (aq (aj 5) (aZ))))))) (gNl 6) (wY 4 (dOp gIx (aj 6) (dC (.int 0))) (dTup (aq (aj 5) (aq (dOp gIx (aj 6) (dC (.int 1))) (aZ)))))) (dG)))
    (cL (aj 4))))
def n_:List D→Option D:=fnD 2 3 (bQ (bM 2 (mQ (aZ)))
    (bQ (bM 3 (aj 1))
    (bQ (uI (bh (dUn lK (dOp qp (aj 0) (aj 3)))) (bQ (bM 4 (dOp gIx (dOp qp (aj 0) (aj 3)) (dC (.int 1))))
    (bQ (sIf (bh (dUn lK (aj 4))) (yx 2 (dC (.int 0)) (aj 4)) (dG))
    (bM 3 (dOp gIx (dOp qp (aj 0) (aj 3)) (dC (.int 0)))))))
    (cL (tV (aj 2))))))
def mK:List D→Option D:=fnD 6 3 (bQ (bM 6 (iw (lu (aj 0)) (gNl 0) (kJ) (cW (dOp gIx (aj 0) (dC (.int 2)))) 1 []))
    (bQ (mF (lu (dOp rH (aj 5) (mQ (aq (aj 3) (aZ))))) (gNl 7) (uK 6 (aj 7) (aj 4)))
    (bQ (bM 8 (tV (dCall cD (aq (aj 0) (aq (aj 1) (aq (aj 2) (aZ)))))))
    (bQ (uK 8 (aj 4) (dOp gIx (dOp gIx (aj 0) (aj 3)) (dC (.int 1))))
    (cL (dCall lH (aq (aj 0) (aq (aj 6) (aq (aj 8) (aZ))))))))))
def dD:List D→Option D:=fnD 5 4 (bQ (pD (dCall iW (aq (aj 0) (aq (aj 1) (aq (aj 2) (aq (aj 3) (aZ)))))))
    (bQ (pD (dCall fL (aq (aj 1) (aq (aj 4) (aZ)))))
    (bQ (bM 5 (dOp gIx (dCall cD (aq (aj 0) (aq (aj 1) (aq (aj 2) (aZ))))) (aj 4)))
    (bQ (bM 6 (dOp gIx (dOp gIx (aj 0) (aj 3)) (dC (.int 0))))
    (bQ (sIf (bh (dOp gGt (aj 5) (aj 6))) (cL (dTup (aq (dC (.str "no")) (aq (mQ (aZ)) (aZ))))) (dG))
    (bQ (bM 7 (dCall fU (aq (aj 0) (aq (aj 1) (aq (aj 3) (aq (aj 5) (aZ)))))))
    (bQ (sIf (bh (dOp ud (aj 6) (aj 7))) (cL (dTup (aq (dC (.str "no")) (aq (dCall ug (aq (aj 7) (aZ))) (aZ))))) (dG))
    (bQ (bM 8 (tV (dCall n_ (aq (aj 7) (aq (aj 6) (aZ))))))
    (cL (dTup (aq (dC (.str "yes")) (aq (tV (aj 8)) (aq (dCall mK (aq (aj 0) (aq (aj 1) (aq (aj 2) (aq (aj 3) (aq (aj 4) (aq (aj 8) (aZ)))))))) (aZ))))))))))))))
abbrev gC:List D→Option D:=Com.gC
def nJ:List D→Option D:=fnD 6 2 (bQ (pD (dCall iW (aq (aj 0) (aq (aj 1) (aq (aj 2) (aq (aj 3) (aZ)))))))
    (bQ (pD (dCall fL (aq (aj 1) (aq (aj 4) (aZ)))))
    (bQ (sIf (D3.tOr (D3.lU (bh (dCall eV (aq (aj 5) (aZ))))) (D3.lU (bh (dCall iU (aq (aj 5) (aZ)))))) (cL (dC (.bool false))) (dG))
    (bQ (bM 6 (dOp gIx (dCall cD (aq (aj 0) (aq (aj 1) (aq (aj 2) (aZ))))) (aj 4)))
    (bQ (bM 7 (dOp gIx (dOp gIx (aj 0) (aj 3)) (dC (.int 0))))
    (bQ (sIf (bh (dOp gGt (aj 6) (aj 7))) (cL (dOp gEq (aj 5) (mQ (aZ)))) (dG))
    (bQ (sIf (D3.tOr (bh (dOp qm (aj 6) (aj 5))) (D3.tOr (bh (dOp gLt (dCall Gn (aq (aj 5) (aZ))) (aj 6))) (bh (dOp gGe (dCall Gm (aq (aj 5) (aZ))) (aj 7))))) (cL (dC (.bool false))) (dG))
    (cL (dCall gC (aq (aj 0) (aq (aj 1) (aq (aj 3) (aq (aj 5) (aZ))))))))))))))
def kE:List D→Option D:=fnD 4 0 (bQ (pD (dCall iW (aq (aj 0) (aq (aj 1) (aq (aj 2) (aq (aj 3) (aZ)))))))
    (cL (iw (pF (aq (aj 1) (aZ))) (gNl 0) (bh (dOp gEq (dOp gIx (dCall dD (aq (aj 1) (aq (aj 2) (aq (aj 3) (aq (aj 4) (aq (aj 0) (aZ))))))) (dC (.int 0))) (dC (.str "yes")))) (cW (aj 0)) 1 [0,1,2,3])))
abbrev kj:List D→Option D:=Com.kj
abbrev fQ:List D→Option D:=Com.fQ
abbrev iy:List D→Option D:=Com.iy
abbrev gD:List D→Option D:=Com.gD
def Dc:List D→Option D:=fnD 4 4 (bQ (bM 4 (mQ (aZ)))
    (bQ (bM 5 (dUn gY (aj 2)))
    (bQ (mF (lu (dCall gR (aq (aj 0) (aZ)))) (gNl 6) (sIf (bh (dOp gNe (dOp gIx (aj 5) (aj 6)) (dOp gIx (aj 3) (aj 6)))) (bQ (bM 7 (dTup (aq (dOp gIx (dOp gIx (aj 0) (aj 6)) (dC (.int 0))) (aq (dOp gIx (aj 5) (aj 6)) (aq (dOp gIx (aj 3) (aj 6)) (aZ))))))
    (bQ (bM 5 (dCall gD (aq (aj 0) (aq (aj 5) (aq (aj 1) (aq (dOp gIx (aj 7) (dC (.int 0))) (aq (dOp gIx (aj 7) (dC (.int 1))) (aq (dOp gIx (aj 7) (dC (.int 2))) (aZ)))))))))
    (Ec 4 (aj 7)))) (dG)))
    (cL (tV (aj 4))))))
abbrev cP:List D→Option D:=Com.cP
abbrev iD:List D→Option D:=Com.iD
def gM:List D→Option D:=fnD 4 2 (bQ (pD (dCall fZ (aq (aj 0) (aq (aj 1) (aq (aj 2) (aZ))))))
    (bQ (sIf (D3.tOr (D3.lU (bh (dCall eV (aq (aj 3) (aZ))))) (bh (dOp gNe (dCall jH (aq (aj 3) (aZ))) (dCall jH (aq (aj 0) (aZ)))))) (cL (dC (.bool false))) (dG))
    (bQ (mF (vh (aj 0)) (gTn 2 (cH (gNl 4) (cH (gNl 5) (ji)))) (sIf (D3.tOr (D3.lU (bh (dCall cP (aq (aj 5) (aq (dOp gIx (aj 3) (aj 4)) (aq (aj 1) (aZ))))))) (D3.lU (bh (dCall iD (aq (aj 0) (aq (aj 3) (aq (aj 4) (aZ)))))))) (cL (dC (.bool false))) (dG)))
    (cL (dC (.bool true))))))
def pO:List D→Option D:=fnD 3 1 (bQ (bM 3 (iw (vh (aj 1)) (gTn 2 (cH (gNl 0) (cH (gNl 1) (ji)))) (bh (dOp gEq (aj 1) (aj 2))) (cW (aj 0)) 2 [2]))
    (cL (XS.xH (aj 3) XS.dK0 [0])))
abbrev jC:List D→Option D:=Com.jC
abbrev jk:List D→Option D:=Com.jk
abbrev bU:List D→Option D:=Com.bU
abbrev gq:List D→Option D:=Com.gq
abbrev iu:List D→Option D:=Com.iu
abbrev gB:List D→Option D:=Com.gB
abbrev j9:List D→Option D:=Com.j9
abbrev ju:List D→Option D:=Com.ju
def jV:List D→Option D:=fnD 5 5 (bQ (bM 5 (dCall Dc (aq (dUn gY (aj 0)) (aq (aj 2) (aq (dUn gY (aj 3)) (aq (dUn gY (aj 4)) (aZ)))))))
    (bQ (sIf (bh (dOp gGt (dCall jH (aq (aj 5) (aZ))) (dCall jH (aq (iw (lu (aj 0)) (gNl 0) (bh (dUn rF (dOp gIx (aj 0) (dC (.int 2))))) (cW (aj 0)) 1 []) (aZ))))) (cL (dC (.bool false))) (dG))
    (bQ (bM 6 (dUn gY (aj 3)))
    (bQ (mF (lu (aj 5)) (gTn 3 (cH (gNl 7) (cH (gNl 8) (cH (gNl 9) (ji))))) (bQ (bM 6 (dCall gD (aq (dUn gY (aj 0)) (aq (aj 6) (aq (aj 2) (aq (aj 7) (aq (aj 8) (aq (aj 9) (aZ)))))))))
    (sIf (bh (dUn rJ (dCall gM (aq (dUn gY (aj 0)) (aq (aj 1) (aq (aj 2) (aq (aj 6) (aZ)))))))) (cL (dC (.bool false))) (dG))))
    (cL (dOp gEq (aj 6) (aj 4)))))))
def kI:List D→Option D:=fnD 7 4 (bQ (bM 7 (dCall pO (aq (dUn gY (aj 0)) (aq (dUn gY (aj 6)) (aq (aj 4) (aZ))))))
    (bQ (bM 8 (dOp rH (dOp rH (iw (pF (aq (dCall jH (aq (aj 0) (aZ))) (aZ))) (gNl 0) (D3.oA (bh (dUn lK (dOp gIx (dOp gIx (aj 2) (aj 0)) (dC (.int 2))))) (bh (dOp gEq (dOp gIx (dOp gIx (aj 2) (aj 0)) (dC (.int 2))) (aj 1)))) (cW (aj 0)) 1 [4,0]) (aj 5)) (mQ (aq (aj 3) (aZ)))))
    (bQ (sIf (bh (dOp gNe (dSl (aj 7) zc (zf (dCall jH (aq (aj 8) (aZ))))) (aj 8))) (cL (dC (.bool false))) (dG))
    (bQ (mF (Gj (aq (aj 2) (aq (dCall rG (aq (dC (.int 400)) (aq (dOp i_ (dOp gIx (dOp gIx (aj 0) (aj 3)) (dC (.int 1))) (dC (.int 1))) (aZ)))) (aZ)))) (gNl 9) (bQ (bM 10 (dOp gNe (iw (lu (aj 7)) (gNl 0) (D3.oA (bh (dOp gLe (dOp gIx (dOp gIx (aj 2) (aj 0)) (dC (.int 0))) (aj 1))) (bh (dOp gLt (aj 1) (dOp gIx (dOp gIx (aj 2) (aj 0)) (dC (.int 1)))))) (cW (aj 0)) 1 [9,0]) (mQ (aZ))))
    (sIf (bh (dOp gEq (dOp gIn (aj 4) (dCall jC (aq (dUn gY (aj 0)) (aq (dUn gY (aj 6)) (aq (aj 1) (aq (aj 9) (aZ))))))) (aj 10))) (cL (dC (.bool false))) (dG))))
    (cL (dC (.bool true)))))))
abbrev fK:List D→Option D:=Com.fK
def gU:List D→Option D:=fnD 6 3 (bQ (mF (pF (aq (dC (.int 12)) (aZ))) (gNl 6) (bQ (sIf (D3.tOr (bh (dOp gEq (dOp gIx (dOp gIx (aj 0) (aj 3)) (dC (.int 0))) (aj 2))) (bh (dOp gEq (aj 2) (dC (.int 399))))) (cL (dOr (dOp gGt (dOp gIx (dOp gIx (aj 0) (aj 3)) (dC (.int 0))) (aj 2)) (dOp gEq (dOp gIx (aj 5) (aj 3)) (aj 4)))) (dG))
    (bQ (bM 7 (dCall jH (aq (iw (lu (dSl (aj 0) zc (zf (aj 3)))) (gNl 0) (bh (dOp gLe (dOp gIx (aj 0) (dC (.int 1))) (dOp i_ (aj 1) (dC (.int 1))))) (cW (aj 0)) 1 [2]) (aZ))))
    (bQ (bM 0 (dCall fK (aq (aj 0) (aq (aj 5) (aq (aj 2) (aZ))))))
    (bQ (bM 2 (dOp i_ (aj 2) (dC (.int 1))))
    (bQ (bM 3 (dOp DK (aj 3) (aj 7)))
    (bQ (bM 8 (dCall dD (aq (dUn gY (aj 0)) (aq (aj 1) (aq (aj 2) (aq (aj 3) (aq (aj 4) (aZ))))))))
    (bQ (sIf (D3.tOr (bh (dOp gNe (dOp gIx (aj 8) (dC (.int 0))) (dC (.str "yes")))) (bh (dUn rJ (dCall gM (aq (dUn gY (aj 0)) (aq (aj 1) (aq (aj 2) (aq (dOp gIx (aj 8) (dC (.int 2))) (aZ))))))))) (cL (dC (.bool false))) (dG))
    (bM 5 (dOp gIx (aj 8) (dC (.int 2))))))))))))
    (cL (dC (.bool true))))
def Ly:List D→Option D:=fnD 1 11 (bQ (bM 1 (dOp i_ (dC (.int 1)) (dCall bU (aq (aj 0) (aq (dC (.int 0)) (aq (dC (.int 3)) (aq (dC (.int 4)) (aZ))))))))
    (bQ (bM 2 (dCall j9 (aq (aj 0) (aZ))))
    (bQ (bM 3 (dCall ju (aq (aj 0) (aq (aj 1) (aq (aj 2) (aq (dC (.int 14)) (aZ)))))))
    (bQ (bM 4 (dCall rW (aq (dUn gY (aj 3)) (aq (aj 1) (aq (aj 2) (aZ))))))
    (bQ (sIf (bh (dUn rJ (dCall gM (aq (dUn gY (aj 3)) (aq (aj 1) (aq (aj 2) (aq (aj 4) (aZ)))))))) (cL (dC (.bool false))) (dG))
    (bQ (bM 5 (iw (pF (aq (dCall jH (aq (aj 3) (aZ))) (aZ))) (gNl 0) (bh (dUn rF (dOp gIx (dOp gIx (aj 1) (aj 0)) (dC (.int 2))))) (cW (aj 0)) 1 [3]))
    (bQ (mF (pF (aq (dCall rG (aq (dC (.int 2)) (aq (dCall jH (aq (aj 5) (aZ))) (aZ)))) (aZ))) (gNl 6) (bQ (bM 7 (dOp gIx (aj 5) (dCall bU (aq (aj 0) (aq (dC (.int 41)) (aq (dOp mU (dC (.int 2)) (aj 6)) (aq (dCall jH (aq (aj 5) (aZ))) (aZ))))))))
    (bQ (bM 8 (dCall bU (aq (aj 0) (aq (dC (.int 41)) (aq (dOp i_ (dOp mU (dC (.int 2)) (aj 6)) (dC (.int 1))) (aq (aj 1) (aZ)))))))
    (bQ (bM 9 (dCall dD (aq (dUn gY (aj 3)) (aq (aj 1) (aq (aj 2) (aq (aj 7) (aq (aj 8) (aZ))))))))
    (bQ (bM 10 (dOp gIn (aj 8) (dCall kE (aq (dUn gY (aj 3)) (aq (aj 1) (aq (aj 2) (aq (aj 7) (aZ))))))))
    (sIf (bh (dOp gEq (dOp gIx (aj 9) (dC (.int 0))) (dC (.str "no")))) (bQ (bM 11 (dCall nJ (aq (dUn gY (aj 3)) (aq (aj 1) (aq (aj 2) (aq (aj 7) (aq (aj 8) (aq (dOp gIx (aj 9) (dC (.int 1))) (aZ)))))))))
    (sIf (D3.tOr (bh (aj 10)) (D3.tOr (bh (dOp gEq (dOp gIx (aj 4) (aj 7)) (aj 8))) (bh (dUn rJ (aj 11))))) (cL (dC (.bool false))) (dG))) (sIf (D3.tOr (D3.lU (bh (aj 10))) (D3.lU (bh (dCall jV (aq (aj 3) (aq (aj 1) (aq (aj 2) (aq (aj 4) (aq (dOp gIx (aj 9) (dC (.int 2))) (aZ)))))))))) (cL (dC (.bool false))) (sIf (D3.lU (bh (dCall kI (aq (aj 3) (aq (aj 1) (aq (aj 2) (aq (aj 7) (aq (aj 8) (aq (dOp gIx (aj 9) (dC (.int 1))) (aq (dOp gIx (aj 9) (dC (.int 2))) (aZ))))))))))) (cL (dC (.bool false))) (sIf (D3.tOr (bh (dOp gNe (dOp gIx (dOp gIx (aj 9) (dC (.int 2))) (aj 7)) (aj 8))) (D3.lU (bh (dCall gU (aq (aj 3) (aq (aj 1) (aq (aj 2) (aq (aj 7) (aq (aj 8) (aq (dOp gIx (aj 9) (dC (.int 2))) (aZ))))))))))) (cL (dC (.bool false))) (dG))))))))))
    (cL (dC (.bool true))))))))))
end K49
namespace K49
open PySem D3 My Com XS
structure TO0 (L:List Ty) (M:Nat) (now:Int):Prop where
 len:L.length ≤ 24
 ok:∀ s ∈ L,(s.1 < s.2.1∧0 ≤ s.1∧s.2.1 ≤ 400)∧(∀ r,s.2.2=some r→r < M∧s.1 ≤ now∧now < s.2.1)∧(s.2.2=none→now ≤ s.1)
 nd:(L.filterMap (·.2.2)).Nodup
def bk (L:List Ty) (k:Nat):Int:=(tAt L k).1
def ek (L:List Ty) (k:Nat):Int:=(tAt L k).2.1
def hk (L:List Ty) (k:Nat):Option Nat:=(tAt L k).2.2
theorem vY {g:FG} {b:FS} {v:D} (Inv:Nat→DS→Prop) (P:Nat→Prop) (l:List D) (δ:DS) (h0:Inv 0 δ) (hs:∀ i d δ,l[i]? = some d→(∀ j,j < i→P j)→Inv i δ→∃ δ1,g d δ=some δ1∧((P i∧∃ δ',b δ1=some (.nx δ')∧Inv (i + 1) δ')∨(¬ P i∧b δ1=some (.rt v)))) :
 (∃ δ',jK g b l δ=some (.nx δ')∧Inv l.length δ'∧∀ j,j < l.length→P j)∨(jK g b l δ=some (.rt v)∧∃ j,j < l.length∧¬ P j):=by
 have key:∀ (l:List D) (k:Nat) (δ:DS),Inv k δ→(∀ j,j < k→P j)→(∀ i d δ,l[i]? = some d→(∀ j,j < k + i→P j)→Inv (k + i) δ→∃ δ1,g d δ=some δ1∧((P (k + i)∧∃ δ',b δ1=some (.nx δ')∧Inv (k + i + 1) δ')∨(¬ P (k + i)∧b δ1=some (.rt v)))) →
  (∃ δ',jK g b l δ=some (.nx δ')∧Inv (k + l.length) δ'∧∀ j,j < k + l.length→P j)∨(jK g b l δ=some (.rt v)∧∃ j,j < k + l.length∧¬ P j):=by
  intro l
  induction l with
  | nil=>exact fun k δ h hp _=>.inl ⟨δ,rfl,h,hp⟩
  | cons d r ih =>
   intro k δ h hp hs;obtain ⟨δ1,e1,z⟩:=hs 0 d δ rfl hp h;rcases z with ⟨p,δ',e2,e3⟩ | ⟨p,e2⟩
   ·have hp':∀ j,j < k + 1→P j:=fun j hj=>by
     by_cases w:j < k
     ·exact hp j w
     ·have:j=k + 0:=by omega
      rwa [this]
    have:=ih (k + 1) δ' e3 hp' fun i d' δ'' hd hq hi=>by
     have:=hs (i + 1) d' δ'' (by simpa using hd) (by rwa [show k + (i + 1)=k + 1 + i by omega]) (by rwa [show k + (i + 1)=k + 1 + i by omega]);rwa [show k + (i + 1)=k + 1 + i by omega] at this
    rwa [bH,show k + (r.length + 1)=k + 1 + r.length by omega,jK,e1,aN,e2]
   ·refine .inr ⟨?_,k + 0,by rw [bH];omega,p⟩;rw [jK,e1,aN,e2];rfl
 have:=key l 0 δ h0 (fun j hj=>absurd hj (mL _)) fun i d δ hd hp hi=>by
  rw [kY] at hp hi ⊢;exact hs i d δ hd hp hi
 rwa [kY] at this
def isI:D→Bool
 | .int _=>true
 | _=>false
def Pk (L:List Ty) (M:Nat) (ds:List D) (i:Nat):Prop:=∃ v:Int,ds[i]? = some (.int v)∧0 ≤ v∧v < (M:Int)∧(∀ r,hk L i=some r→(r:Int)=v)∧∀ k,k < i→¬ (ds[k]? = ds[i]?∧bk L k < ek L i∧bk L i < ek L k)
theorem ay {L:List Ty} {k:Nat} (h:k < L.length):pAt (L.map yD) (k:Int)=some (.tuple [.int (bk L k),.int (ek L k),hD (hk L k)]):=by rw [jx,sV _ h];rfl
theorem Lz (n:Nat) (h:n ≤ 1000):qW (some [.int (n:Int)])=some (fO 0 (n:Int)):=EY (by omega) (by omega)
theorem isList {ds:List D}:D3.isT "list" (tyD (.list ds))=true:=rfl
theorem LC {α:Type} (l:List α) (f:α→D):((l.map f).length:Int)=(l.length:Int):=by rw [aD]
theorem allB {α:Type} (f:α→Bool) (l:List α):Ed [.list (l.map fun a=>PyData.bool (f a))]=some (.bool (l.all f)):=by
 have:o9 (l.map fun a=>PyData.bool (f a))=some (l.map f):=by
  induction l with
  | nil=>rfl
  | cons a r ih=>rw [bJ,o9,ih];rfl
 show (o9 (l.map fun a=>PyData.bool (f a))).map _=_;rw [this,gO,List.all_map];rfl
theorem wh (d:D):gQ [d]=some (.bool (isI d)):=by
 cases d <;> rfl
theorem Qk (a b:Int):pN [.tuple [.int a,.int b]]=some (.bool true):=by
 have e:iV [.tuple [.int a,.int b]]=some (.bool true):=by
  have c:eN (gNl 0) (D3.kJ) (dCall gQ (aq (aj 0) (aZ))) (jE 1 [] [some (.d (.tuple [.int a,.int b]))]) [.int a,.int b]=some [.bool true,.bool true] :=
   Ak (g:=(gNl 0)) (c:=(D3.kJ)) (e:=(dCall gQ (aq (aj 0) (aZ)))) (δ:=jE 1 [] [some (.d (.tuple [.int a,.int b]))]) (fun i:Int=>PyData.int i) (fun _=>PyData.bool true) [a,b] fun d _=>⟨[some (.d (.int d))],rfl,rfl,by
    have:=wh (.int d);simp![this];rfl⟩
  have al:Ed [.list [.bool true,.bool true]]=some (.bool true):=rfl;have l2:(0 + 1 + 1:Nat) ≤ 100000:=by decide
  unfold iV;simp![ak,V6,S9,c,al,l2]
 have it:D3.isT "tuple" (tyD (.tuple [.int a,.int b]))=true:=rfl;unfold pN mC;simp![ak,it,e]
theorem nM (a b:Int) (d:D):b_ [.tuple [.int a,.int b,d]]=some (.tuple [.int a,.int b]):=by
 unfold b_ Com.b_;simp![ak,at1,zl2]
theorem LK (a b x:Int):ig [.tuple [.int a,.int b],.int x]=some (.bool (decide (a ≤ x) && decide (x < b))):=by
 unfold ig Com.ig;by_cases c:a ≤ x
 ·simp![ak,at1,dTr c];simp
 ·simp![ak,dFa c];simp
theorem Fq {a b:Int} (h:0 ≤ a∧a < b∧b ≤ 400):lG [.tuple [.int a,.int b]]=some (.bool true):=by
 unfold lG;simp![Qk,at1,dTr h.1,dTr h.2.1,dTr h.2.2]
theorem Qm {L:List Ty} {M:Nat} {now:Int} (ok:TO0 L M now) {k:Nat} (h:k < L.length):lZ [.tuple [.int (bk L k),.int (ek L k),hD (hk L k)],.int (M:Int),.int now]=some (.bool true):=by
 obtain ⟨⟨o1,o2,o3⟩,o4,o5⟩:=ok.ok _ (cR h);have o1:=o1;have st:=Fq (a:=bk L k) (b:=ek L k) ⟨o2,o1,o3⟩;have it:∀ l,D3.isT "tuple" (tyD (.tuple l))=true:=fun _=>rfl
 cases hh:hk L k with
 | none =>
  have o5:now ≤ bk L k:=o5 hh;have nn:isNone (hD none)=true:=rfl;unfold lZ;simp![ak,aC,it,nM,st,at2,nn,dTr o5]
 | some r =>
  obtain ⟨q1,q2,q3⟩:=o4 r hh;have q2:bk L k ≤ now:=q2;have q3:now < ek L k:=q3;have nn:isNone (hD (some r))=false:=rfl;have hw:gQ [hD (some r)]=some (.bool true):=wh (.int (r:Int));have hv:hD (some r) = .int (r:Int):=rfl;have r0:(0:Int) ≤ (r:Int):=by omega
  have r1:(r:Int) < (M:Int):=by omega
  unfold lZ;simp![ak,aC,it,nM,st,at2,nn,hw];rw [hv];simp![dTr r0,dTr r1,nM,LK,dTr q2,dTr q3]
def qBP (i:Nat) (x y:Option D) (δ:DS):Option Oc:=match x,y with
 | some x,some y=>(Ih x).bind fun S=>match y with
  | .int k=>if S.length < 1000000 then some (.nx (δ.set i (some (.d (dsB (wW S k)))))) else none
  | _=>none
 | _,_=>none
theorem UJ {i:Nat} {fk:FE} {δ:DS}:Cw i fk δ=qBP i (aj i δ) (fk δ) δ:=by
 unfold Cw qBP
 cases aj i δ with
 | none=>rfl
 | some x=>cases fk δ <;> rfl
theorem LQ {i:Nat} {S:List Int} {k:Int} {δ:DS} (h:S.length < 1000000):qBP i (some (dsB S)) (some (.int k)) δ=some (.nx (δ.set i (some (.d (dsB (wW S k)))))):=by
 unfold qBP;dsimp only;rw [Ac,aN,if_pos h]
theorem Xv {S:List Int} {k:Int}:yC (.int k) (dsB S)=some (.bool (decide (k ∈ S))):=by
 unfold yC;rw [Ac];rfl
theorem UL {S:List Int}:yC .none (dsB S)=some (.bool false):=by
 unfold yC;rw [Ac];rfl
theorem yc {L:List Ty} {M:Nat} {now:Int} (ok:TO0 L M now):fZ [.list (L.map yD),.int (M:Int),.int now]=some .none:=by
 have l24:=ok.len;have en:jW (L.map yD)=(aB L.length).map fun p:Nat=>PyData.tuple [.int (p:Int),.tuple [.int (bk L p),.int (ek L p),hD (hk L p)]]:=by
  rw [jx,xZ];rfl
 obtain ⟨δ',e,S,x,y,_,_,rfl⟩:=jt (g:=(gTn 2 (cH (gNl 4) (cH (gNl 5) (ji))))) (b:=(bQ (sIf (D3.lU (bh (dCall lZ (aq (aj 5) (aq (aj 1) (aq (aj 2) (aZ))))))) ((fun _=>none)) (dG)) (bQ (sIf (bh (dOp yC (dOp gIx (aj 5) (dC (.int 2))) (aj 3))) ((fun _=>none)) (dG)) (sIf (bh (dUn lK (dOp gIx (aj 5) (dC (.int 2))))) (Cw 3 (dOp gIx (aj 5) (dC (.int 2)))) (dG)))))
  (fun i δ=>∃ (S:List Int) (x y:Option U),S.length ≤ i∧(∀ s ∈ S,∃ (j:Nat) (r:Nat),j < i∧j < L.length∧hk L j=some r∧s=(r:Int))∧δ=[some (.d (.list (L.map yD))),some (.d (.int (M:Int))),some (.d (.int now)),some (.d (dsB S)),x,y]) ((aB L.length).map fun p:Nat=>PyData.tuple [.int (p:Int),.tuple [.int (bk L p),.int (ek L p),hD (hk L p)]])
  [some (.d (.list (L.map yD))),some (.d (.int (M:Int))),some (.d (.int now)),some (.d (.dict [])),none,none] ⟨[],none,none,bB _,fun _ h=>(by cases h),rfl⟩ (by
   rintro i d δ hd ⟨S,x,y,s1,s2,rfl⟩;rw [aP] at hd;by_cases hi:i < L.length
   case neg=>rw [bF (by simpa using hi)] at hd;cases hd
   rw [cj hi] at hd
   cases hd;have st:=Qm ok hi
   cases hh:hk L i with
   | none =>
    rw [hh] at st;have nn:isNone (hD none)=true:=rfl;have nb:yC (hD none) (dsB S)=some (.bool false):=UL;refine ⟨_,[some (.d (.list (L.map yD))),some (.d (.int (M:Int))),some (.d (.int now)),some (.d (dsB S)),some (.d (.int (i:Int))),some (.d (.tuple [.int (bk L i),.int (ek L i),hD none]))],rfl,.inl ?_,S,_,_,by omega,fun s hs=>?_,rfl⟩
    ·simp![hh,st,at2,nb,nn]
    ·obtain ⟨j,r,j1,j2⟩:=s2 s hs;exact ⟨j,r,by omega,j2⟩
   | some r =>
    rw [hh] at st;have nn:isNone (hD (some r))=false:=rfl;have ns:¬ (r:Int) ∈ S:=fun z=>by
     obtain ⟨j,r',j1,j2,j3,j4⟩:=s2 _ z;have:r'=r:=by omega
     subst this;have:=rU ok.nd j2 hi j3 hh;omega
    have nb:yC (hD (some r)) (dsB S)=some (.bool false):=by
     show yC (.int (r:Int)) _=_;rw [Xv,dFa ns]
    have pb:∀ δ:DS,qBP 3 (some (dsB S)) (some (hD (some r))) δ=some (.nx (δ.set 3 (some (.d (dsB (wW S (r:Int))))))):=fun δ=>LQ (by omega)
    have ep:wW S (r:Int)=S++[(r:Int)]:=by unfold wW;rw [if_neg ns]
    refine ⟨_,[some (.d (.list (L.map yD))),some (.d (.int (M:Int))),some (.d (.int now)),some (.d (dsB (wW S (r:Int)))),some (.d (.int (i:Int))),some (.d (.tuple [.int (bk L i),.int (ek L i),hD (some r)]))],rfl,.inl ?_,wW S (r:Int),_,_,?_,fun s hs=>?_,rfl⟩
    ·simp![hh,st,at2,nb,nn,UJ,pb]
    ·rw [ep,bL];simp;omega
    ·rw [ep] at hs;rcases aR.mp hs with w | w
     ·obtain ⟨j,r,j1,j2⟩:=s2 s w;exact ⟨j,r,by omega,j2⟩
     ·exact ⟨i,r,by omega,hi,hh,aJ.mp w⟩)
 unfold fZ;simp![ak,aC,en];rw [e];simp![]
theorem tL {L:List Ty} (hl:L.length < 64):∃ P:List Nat,gR [.list (L.map yD)]=some (.list (P.map fun i:Nat=>PyData.int (i:Int)))∧P.Perm (opn L)∧P.Pairwise fun a b=>bk L a ≤ bk L b:=by
 have en:jW (L.map yD)=(aB L.length).map fun p:Nat=>PyData.tuple [.int (p:Int),yD (tAt L p)]:=by rw [jx];exact xZ _
 have C1:eN (gTn 2 (cH (gNl 0) (cH (gNl 1) (ji)))) (bh (dUn rF (dOp gIx (aj 1) (dC (.int 2))))) (cW (aj 0)) (jE 2 [] [some (.d (.list (L.map yD))),none]) (jW (L.map yD))=some ((opn L).map fun p:Nat=>PyData.int (p:Int)):=by
  rw [en];exact uo (fun p:Nat=>PyData.tuple [.int (p:Int),yD (tAt L p)]) (fun p=>!(tAt L p).2.2.isSome) (fun p:Nat=>PyData.int (p:Int)) (aB L.length) fun p _=>⟨[some (.d (.int (p:Int))),some (.d (yD (tAt L p)))],rfl,by
   have:=xV (tAt L p).2.2;unfold yD;simp![at2,this],fun _=>by simp![]⟩
 have el:(jW (L.map yD)).length ≤ 100000:=by rw [en,aD,aX];omega
 have ml:∀ p ∈ opn L,p < L.length:=fun p hp=>aQ.mp (bx.mp hp).1
 have lo:(opn L).length ≤ L.length:=by
  have:=cQ (fun p=>!(tAt L p).2.2.isSome) (aB L.length);rwa [aX] at this
 have C2:=Q9 (L:=L) (some (.d (.list ((opn L).map fun p:Nat=>PyData.int (p:Int))))) (opn L) ml;obtain ⟨P,eP,pP,sP⟩:=xY (opn L) (bk L);refine ⟨P,?_,pP,sP⟩;have V:=zJ (l:=(opn L).map fun p:Nat=>PyData.int (p:Int)) (by rw [aD];omega) (gJ _ (fun _=>rfl) _) C2 (lY _);unfold gR;simp![ak,aC,el,C1,GP];rw [V];simp![];rw [← eP];rfl
theorem yd {M:Nat} {fs:Nat→Int} {x:Int} (hM:M ≤ 1000) (h:∃ r,r < M∧fs r ≤ x):∃ r:Nat,r < M∧fs r ≤ x∧fX [.list ((aB M).map fun r:Nat=>PyData.int (fs r)),.int x]=some (.int (r:Int)):=by
 have en:jW ((aB M).map fun r:Nat=>PyData.int (fs r))=(aB M).map fun r:Nat=>PyData.tuple [.int (r:Int),.int (fs r)]:=by
  unfold jW;apply fD;intro i;rw [jJ,aP,aP];by_cases hi:i < M
  ·rw [cj hi];rfl
  ·rw [bF (by simpa using hi)];rfl
 have C:eN (gTn 2 (cH (gNl 0) (cH (gNl 1) (ji)))) (bh (dOp gLe (aj 1) (aj 2))) (cW (aj 0)) (jE 2 [1] [some (.d (.list ((aB M).map fun r:Nat=>PyData.int (fs r)))),some (.d (.int x))]) (jW ((aB M).map fun r:Nat=>PyData.int (fs r)))=some (((aB M).filter fun r=>decide (fs r ≤ x)).map fun r:Nat=>PyData.int (r:Int)):=by
  rw [en];exact uo (fun r:Nat=>PyData.tuple [.int (r:Int),.int (fs r)]) _ (fun r:Nat=>PyData.int (r:Int)) (aB M) fun r hr=>⟨[some (.d (.int (r:Int))),some (.d (.int (fs r))),some (.d (.int x))],rfl,by simp![],fun _=>by simp![]⟩
 have el:(jW ((aB M).map fun r:Nat=>PyData.int (fs r))).length ≤ 100000:=by rw [en,aD,aX];omega
 cases e:(aB M).filter fun r=>decide (fs r ≤ x) with
 | nil =>
  obtain ⟨r,h1,h2⟩:=h;have:r ∈ (aB M).filter fun r=>decide (fs r ≤ x):=bx.mpr ⟨aQ.mpr h1,dTr h2⟩
  rw [e] at this
  cases this
 | cons r l =>
  have hr:r ∈ (aB M).filter fun r=>decide (fs r ≤ x):=by rw [e];exact aK
  obtain ⟨h1,h2⟩:=bx.mp hr;refine ⟨r,aQ.mp h1,of_decide_eq_true h2,?_⟩;rw [e,bJ] at C;show Com.fX _=_;unfold Com.fX;simp![ak,el,C]
theorem Qn (n:Nat) (d:D):bO n d=(aB n).map fun _=>d:=by
 rw [List.map_const',aX]
theorem Xw {d:D} {k:Int} (h:k ≤ 1000000) (h' : -(2 ^ 63) ≤ k):J7 (.list [d]) (.int k)=some (.list (bO k.toNat d)):=by
 show (if [d].length * k.toNat ≤ 1000000∧-(2 ^ 63) ≤ k∧k < 2 ^ 63 then some (PyData.list (bO k.toNat [d]).flatten) else none)=_;rw [if_pos ⟨by simp only [bH,jz];omega,h',by omega⟩];congr 2;generalize k.toNat=n
 induction n with
 | zero=>rfl
 | succ n ih=>rw [cX,gG,ih,cX];rfl
theorem Dh {g:FG} {b:FS} (Inv:DS→Prop) (p:Int→Bool):∀ (l:List Int) (δ:DS),Inv δ→(∀ x ∈ l,∀ δ,Inv δ→∃ δ1,g (.int x) δ=some δ1∧((p x=true∧b δ1=some (.rt (.int x)))∨(p x=false∧∃ δ',b δ1=some (.nx δ')∧Inv δ'))) →
 (∃ x,l.find? p=some x∧jK g b (l.map .int) δ=some (.rt (.int x)))∨(l.find? p=none∧∃ δ',jK g b (l.map .int) δ=some (.nx δ')∧Inv δ')
 | [],δ,h,_=>.inr ⟨rfl,δ,rfl,h⟩
 | x :: r,δ,h,hs=>by
  obtain ⟨δ1,e1,q⟩:=hs x aK δ h;rcases q with ⟨hp,e2⟩ | ⟨hp,δ',e2,h'⟩
  ·refine .inl ⟨x,by rw [List.find?_cons,hp],?_⟩;rw [bJ,jK,e1,aN,e2];rfl
  ·have ih:=Dh Inv p r δ' h' fun y hy=>hs y (aM _ hy)
   have ef:(x :: r).find? p=r.find? p:=by rw [List.find?_cons,hp]
   have eg:jK g b ((x :: r).map .int) δ=jK g b (r.map .int) δ':=by
    rw [bJ,jK,e1,aN,e2];rfl
   rwa [ef,eg]
def outI:Option Int→D
 | none=>.none
 | some x=>.int x
def pM (L:List Ty) (M:Nat) (x:Int):Bool:=decide ((M:Int) < (jw L x:Int))
def nS (L:List Ty):List Sh:=L.map fun s=>(s.1,s.2.1)
theorem LR (L:List Ty) (x:Int):cnt (nS L) x=jw L x:=by
 unfold cnt jw nS;rw [qH,aD];rfl
def LT (L:List Ty) (now:Int):List Int:=(L.map (·.1)).filter fun x=>decide (now < x)
theorem Qo {L:List Ty} {M:Nat} {now:Int} (hl:L.length ≤ 24):lF [.list ((nS L).map stD),.int (M:Int),.int now]=some (outI ((now :: qd (LT L now)).find? (pM L M))):=by
 have ln:(nS L).length=L.length:=aD _;have fs:=CT (ss:=nS L) (by omega);have fe:(nS L).map (·.1)=L.map (·.1):=by unfold nS;rw [dO];rfl
 rw [fe] at fs;have cf:eN (gNl 0) (bh (dOp gGt (aj 0) (aj 1))) (cW (aj 0)) [none,some (.d (.int now))] ((L.map (·.1)).map .int)=some ((LT L now).map .int):=by
  unfold LT;generalize L.map (·.1)=l
  induction l with
  | nil=>rfl
  | cons x r ih =>
   rw [bJ,eN];by_cases c:now < x
   ·simp![ak,aC,dTr c,aN,ih];rw [dY (by simpa using c)];rfl
   ·simp![ak,aC,dFa c,aN,ih];rw [eZ (by simpa using c),if_neg (by decide)]
 have ll:(LT L now).length ≤ 60:=bY (cQ _ _) (by rw [aD];omega);have gs:vg [.list ((LT L now).map .int)]=some (.list ((qd (LT L now)).map .int)):=by
  unfold vg;simp only;rw [lY,aN,if_pos (by omega)]
 have c1:rH (.list [.int now]) (.list ((qd (LT L now)).map .int))=some (.list (.int now :: (qd (LT L now)).map .int)):=by
  rw [xP,if_pos (by rw [aD,(jg _).length_eq];simp;omega)];rfl
 have ca:∀ a c d e f:Option U,jE 1 [2] [a,c,d,e,f]=[none,d]:=fun _ _ _ _ _=>rfl
 show Com.lF _=_;unfold Com.lF;simp![ak,aC,fs,lMp,show L.length ≤ 100000 by omega,ca,cf,gs,zl1,c1];rcases Dh (g:=gNl 4) (b:=(sIf (bh (dOp gGt (dCall Com.jc (aq (aj 0) (aq (aj 4) (aZ)))) (aj 1))) (cL (cW (aj 4))) (dG))) (fun δ=>∃ y,δ=[some (.d (.list ((nS L).map stD))),some (.d (.int (M:Int))),some (.d (.int now)),some (.d (.list ((LT L now).map .int))),y]) (pM L M) (now :: qd (LT L now))
  [some (.d (.list ((nS L).map stD))),some (.d (.int (M:Int))),some (.d (.int now)),some (.d (.list ((LT L now).map .int))),none] ⟨none,rfl⟩ (by
   rintro x hx δ ⟨y,rfl⟩;refine ⟨_,rfl,?_⟩;have cs:=xT (ss:=nS L) (by omega) x;rw [LR] at cs
   cases z:pM L M x with
   | true =>
    have z:decide ((M:Int) < (jw L x:Int))=true:=z;refine .inl ⟨rfl,?_⟩;simp![cs,z]
   | false =>
    have z:decide ((M:Int) < (jw L x:Int))=false:=z;refine .inr ⟨rfl,_,?_,some (.d (.int x)),rfl⟩;simp![cs,z]) with ⟨x,e1,e2⟩ | ⟨e1,δ',e2,y,rfl⟩
 ·rw [bJ] at e2;rw [e2,e1];simp![];rfl
 ·rw [bJ] at e2;rw [e2,e1];simp![];rfl
def Lq (P:List Nat) (f:Nat→Int):List Nat:=if P.length ≤ 1 then P else (sU P.length fun i j=>decide ((P.map f).getD i 0 < (P.map f).getD j 0)).map fun i=>P.getD i 0
theorem UW {P:List Nat} {g:Nat→D} {i:Nat} (hi:i < P.length):(P.map g).getD i .none=g (P.getD i 0):=by
 rw [bC,aP,bC,aV hi];rfl
theorem Di (P:List Nat) (f:Nat→Int):qQ (P.map fun p:Nat=>PyData.int (p:Int)) (P.map f)=(Lq P f).map fun p:Nat=>PyData.int (p:Int):=by
 unfold qQ Lq;rw [aD];by_cases h1:P.length ≤ 1
 ·rw [if_pos h1,if_pos h1]
 ·rw [if_neg h1,if_neg h1,dO];apply jd;intro i hi;have hi':=aQ.mp ((n6 (n:=P.length) (by omega) _).mem_iff.mp hi);rw [UW hi'];rfl
theorem Xx {L:List Ty} {k:Nat} (h:L.length ≤ k):hk L k=none:=by
 unfold hk tAt;rw [bC,bF h];rfl
section
variable {L:List Ty} {M:Nat} {now:Int}
theorem tM (ok:TO0 L M now) (hM:M ≤ 12):∃ f:Nat→Int,cD [.list (L.map yD),.int (M:Int),.int now]=some (.list ((aB M).map fun r:Nat=>PyData.int (f r)))∧∀ r,r < M→(∃ k,k < L.length∧hk L k=some r∧f r=ek L k)∨((∀ k,k < L.length→hk L k ≠ some r)∧f r=now):=by
 have rp:J7 (.list [.int now]) (.int (M:Int))=some (.list ((aB M).map fun r:Nat=>PyData.int ((fun _=>now) r))):=by
  rw [Xw (by omega) (by omega),fG,Qn]
 have mt:L.map yD=(aB L.length).map fun k=>PyData.tuple [.int (bk L k),.int (ek L k),hD (hk L k)]:=by rw [jx];rfl
 obtain ⟨δ',e,f,u,hf,rfl⟩:=jt (g:=(gNl 4)) (b:=(sIf (bh (dUn lK (dOp gIx (aj 4) (dC (.int 2))))) (uK 3 (dOp gIx (aj 4) (dC (.int 2))) (dOp gIx (aj 4) (dC (.int 1)))) (dG)))
  (fun i δ=>∃ (f:Nat→Int) (u:Option U),(∀ r,r < M→(∃ k,k < i∧hk L k=some r∧f r=ek L k)∨((∀ k,k < i→hk L k ≠ some r)∧f r=now))∧δ=[some (.d (.list (L.map yD))),some (.d (.int (M:Int))),some (.d (.int now)),some (.d (.list ((aB M).map fun r:Nat=>PyData.int (f r)))),u]) (L.map yD)
  [some (.d (.list (L.map yD))),some (.d (.int (M:Int))),some (.d (.int now)),some (.d (.list ((aB M).map fun r:Nat=>PyData.int ((fun _=>now) r)))),none] ⟨fun _=>now,none,fun r _=>.inr ⟨fun k hk'=>absurd hk' (mL _),rfl⟩,rfl⟩ (by
   rintro i d δ hd ⟨f,u,hf,rfl⟩;have hi:i < L.length:=by
    have:=(cT.mp hd).1;rwa [aD] at this
   rw [mt,aP,cj hi] at hd
   cases hd
   cases hh:hk L i with
   | none =>
    have nn:isNone (hD none)=true:=rfl;refine ⟨_,[some (.d (.list (L.map yD))),some (.d (.int (M:Int))),some (.d (.int now)),some (.d (.list ((aB M).map fun r:Nat=>PyData.int (f r)))),some (.d (.tuple [.int (bk L i),.int (ek L i),hD none]))],rfl,.inl ?_,f,_,fun r hr=>?_,rfl⟩
    ·simp![hh,at2,nn]
    ·rcases hf r hr with ⟨k,k1,k2⟩ | ⟨k1,k2⟩
     ·exact .inl ⟨k,by omega,k2⟩
     ·refine .inr ⟨fun k hk'=>?_,k2⟩;by_cases z:k=i
      ·rw [z,hh];exact fun w=>nomatch w
      ·exact k1 k (by omega)
   | some r0 =>
    have hr0:=((ok.ok _ (cR hi)).2.1 r0 hh).1;have hv:hD (some r0) = .int (r0:Int):=rfl;have p3:=Fg (l:=(aB M).map fun r:Nat=>PyData.int (f r)) (by rw [aD,aX]) hr0;have st:=xU (n:=M) (c:=r0) (d:=.int (ek L i)) (fun r:Nat=>PyData.int (f r));refine ⟨_,[some (.d (.list (L.map yD))),some (.d (.int (M:Int))),some (.d (.int now)),some (.d (.list (((aB M).map fun r:Nat=>PyData.int (f r)).set r0 (.int (ek L i))))),some (.d (.tuple [.int (bk L i),.int (ek L i),hD (some r0)]))],rfl,.inl ?_,fun r=>if r=r0 then ek L i else f r,some (.d (.tuple [.int (bk L i),.int (ek L i),hD (some r0)])),fun r hr=>?_,?_⟩
    ·generalize (aB M).map (fun r:Nat=>PyData.int (f r))=FF at *;simp![hh,hv,at1,at2,p3,aN]
    ·by_cases z:r=r0
     ·exact .inl ⟨i,by omega,by rwa [z],by show (if r=r0 then ek L i else f r)=_;rw [if_pos z]⟩
     ·show (∃ k,k < i + 1∧hk L k=some r∧(if r=r0 then ek L i else f r)=ek L k)∨((∀ k,k < i + 1→hk L k ≠ some r)∧(if r=r0 then ek L i else f r)=now);rw [if_neg z];rcases hf r hr with ⟨k,k1,k2⟩ | ⟨k1,k2⟩
      ·exact .inl ⟨k,by omega,k2⟩
      ·refine .inr ⟨fun k hk'=>?_,k2⟩;by_cases w:k=i
       ·rw [w,hh];intro y;injection y with y
        exact z y.symm
       ·exact k1 k (by omega)
    ·rw [st];have:(fun x:Nat=>if x=r0 then PyData.int (ek L i) else PyData.int (f x))=fun x=>PyData.int (if x=r0 then ek L i else f x):=by
      funext x
      by_cases z:x=r0
      ·rw [if_pos z,if_pos z]
      ·rw [if_neg z,if_neg z]
     rw [this])
 rw [aD] at hf;refine ⟨f,?_,hf⟩;have fl:flats ((aB M).map fun r:Nat=>PyData.int (f r))=true:=gJ _ (fun _=>rfl) _;show Com.cD _=_;unfold Com.cD;simp![ak,aC,zl1,rp];rw [e];simp![fl]
def hel (L:List Ty):List Nat:=(aB L.length).filter fun k=>(hk L k).isSome
theorem jy {k:Nat}:k ∈ hel L↔k < L.length∧(hk L k).isSome=true:=by
 unfold hel;rw [bx,aQ]
end
theorem TO0.of {L:List Ty} {M:Nat} {now:Int} (ok:TOk L M now):TO0 L M now:=⟨ok.len,fun s hs=>⟨⟨(ok.ok s hs).1,(ok.bd s hs).1,(ok.bd s hs).2⟩,(ok.ok s hs).2⟩,ok.nd⟩
theorem yg {L:List Ty} {M:Nat} {now:Int} (ok:TOk L M now):jw L now ≤ M:=by
 cases e:L.filter (hol now) with
 | nil=>unfold jw;rw [e];exact iK _
 | cons s r =>
  have hs:s ∈ L.filter (hol now):=by rw [e];exact aK
  obtain ⟨h1,h2⟩:=bx.mp hs;have:=ok.full s h1;unfold hol at h2;rw [aW,decide_eq_true_iff] at h2;rwa [if_neg (by omega)] at this
theorem uw {L:List Ty} {M:Nat} {now:Int} (ok:TOk L M now) {s:Ty} (hs:s ∈ L) (h:now ≤ s.1):jw L s.1 ≤ M:=by
 have:=ok.full s hs;by_cases z:s.1 > now
 ·rwa [if_pos z] at this
 ·rw [if_neg z] at this;have:s.1=now:=by omega
  rw [this];exact yg ok
theorem G_ {L:List Ty} {g:FG} {c:FT} {e:FE} (hg:g=gNl 0) (hc:c=D3.kJ) (he:e=dCall Com.b_ (aq (aj 0) (aZ))) (δ0:DS):eN g c e (jE 1 [] δ0) (L.map yD)=some ((nS L).map stD):=by
 subst hg hc he;unfold nS;rw [dO];exact Ak yD _ L fun s _=>⟨[some (.d (yD s))],rfl,rfl,by
  obtain ⟨a,b,c⟩:=s;have:Com.b_ [.tuple [.int a,.int b,hD c]]=_:=nM a b (hD c);simp![this];rfl⟩
theorem Hf {L:List Ty} {M:Nat} {now:Int} (ok:TOk L M now):fW [.list (L.map yD),.int (M:Int),.int now]=some .none:=by
 have l24:=ok.len;have len:(L.map yD).length ≤ 100000:=by rw [aD];omega
 have ff:=Qo (L:=L) (M:=M) (now:=now) l24;have no:(now :: qd (LT L now)).find? (pM L M)=none:=sY.mpr fun x hx=>by
  have:jw L x ≤ M:=by
   rcases aY.mp hx with rfl | z
   ·exact yg ok
   ·obtain ⟨z1,z2⟩:=bx.mp ((jg _).mem_iff.mp z);obtain ⟨s,s1,rfl⟩:=dR.mp z1;have z2:=of_decide_eq_true z2;exact uw ok s1 (by omega)
  unfold pM;rw [decide_eq_true_iff];omega
 rw [no] at ff;have ff:Com.lF [.list ((nS L).map stD),.int (M:Int),.int now]=some .none:=ff;have C:=fun δ0=>G_ (L:=L) (g:=(gNl 0)) (c:=(D3.kJ)) (e:=(dCall b_ (aq (aj 0) (aZ)))) rfl rfl rfl δ0
 have nn:isNone .none=true:=rfl;show Com.fW _=_;unfold Com.fW;simp![ak,aC,len,C,ff,nn]
theorem yh {L:List Ty} {M:Nat} {now:Int} (ok:TOk L M now) {w:Nat} (hw:w < L.length) (hn:hk L w=none):iW [.list (L.map yD),.int (M:Int),.int now,.int (w:Int)]=some .none:=by
 have c1:=yc (TO0.of ok);have c2:=Hf ok;have a1:=ay hw;have ll:((L.map yD).length:Int)=(L.length:Int):=by rw [aD]
 have z1:decide ((0:Int) ≤ (w:Int))=true:=dTr (by omega);have z2:decide ((w:Int) < (L.length:Int))=true:=dTr (by omega);have nn:isNone (hD none)=true:=rfl;rw [hn] at a1;unfold iW;simp![ak,c1,c2,ll,z1,z2,a1,at2,nn]
theorem vZ {M r:Nat} (h:r < M):fL [.int (M:Int),.int (r:Int)]=some .none:=by
 have z1:decide ((0:Int) ≤ (r:Int))=true:=dTr (by omega);have z2:decide ((r:Int) < (M:Int))=true:=dTr (by omega);show Com.fL _=_;unfold Com.fL;simp![ak,z1,z2]
def gA (L:List Ty) (w k:Nat) (x:Int):Bool:=!decide (k=w) && (!(hk L k).isSome && (decide (bk L k=x) && decide (ek L k ≤ bk L w)))
theorem L_ {L:List Ty} {w k:Nat} {x:Int} (hw:w < L.length) (hk':k < L.length):fY [.list (L.map yD),.int (w:Int),.int (k:Int),.int x]=some (.bool (gA L w k x)):=by
 have a1:=ay hw;have a2:=ay hk';have nn:=xV (hk L k);have e1:decide ((k:Int)=(w:Int))=decide (k=w):=decide_eq_decide.mpr (by omega);unfold gA;show Com.fY _=_;unfold Com.fY
 cases c1:decide (k=w) with
 | true=>simp![ak,aC,a2,e1,c1,f9]
 | false =>
  cases c2:(hk L k).isSome with
  | true=>simp![ak,aC,a2,at2,nn,e1,c1,c2,f9,iZ]
  | false =>
   cases c3:decide (bk L k=x) with
   | true=>simp![ak,aC,a1,a2,at1,at2,nn,e1,c1,c2,c3,iZ]
   | false=>simp![ak,aC,a2,at2,nn,e1,c1,c2,c3,f9,iZ]
theorem Ma {L:List Ty} {M:Nat} {x:Int} (hl:L.length ≤ 24):jO [.list (L.map yD),.int (M:Int),.int x]=some (.bool (decide (jw L x=M))):=by
 have len:(L.map yD).length ≤ 100000:=by rw [aD];omega
 have C:=fun δ0=>G_ (L:=L) (g:=(gNl 0)) (c:=(D3.kJ)) (e:=(dCall b_ (aq (aj 0) (aZ)))) rfl rfl rfl δ0
 have cs:=xT (ss:=nS L) (by unfold nS;rw [aD];omega) x;rw [LR] at cs;have e1:decide ((jw L x:Int)=(M:Int))=decide (jw L x=M):=decide_eq_decide.mpr (by omega);show Com.jO _=_;unfold Com.jO;simp![ak,len,C,cs,e1]
def pqD (s:Int × Option Nat):D:=.tuple [.int s.1,hD s.2]
def gos (L:List Ty) (w:Nat) (x:Int):List Nat:=(aB L.length).filter fun k=>gA L w k x
def stp (L:List Ty) (M w:Nat) (x:Int):List (Int × Option Nat):=((gos L w x).map fun k=>(ek L k,some k))++if jw L x=M then [] else [(x + 1,none)]
theorem Mf {L:List Ty} {M w:Nat} {x:Int} (hl:L.length ≤ 24) (hw:w < L.length):eU [.list (L.map yD),.int (M:Int),.int (w:Int),.int x]=some (.list ((stp L M w x).map pqD)):=by
 have en:jW (L.map yD)=(aB L.length).map fun p:Nat=>PyData.tuple [.int (p:Int),yD (tAt L p)]:=by rw [jx];exact xZ _
 have C:eN (gTn 2 (cH (gNl 0) (cH (gNl 1) (ji)))) (bh (dCall fY (aq (aj 2) (aq (aj 3) (aq (aj 0) (aq (aj 4) (aZ))))))) (cW (dTup (aq (dOp gIx (aj 1) (dC (.int 1))) (aq (aj 0) (aZ))))) (jE 2 [0,2,3] [some (.d (.list (L.map yD))),some (.d (.int (M:Int))),some (.d (.int (w:Int))),some (.d (.int x)),none]) (jW (L.map yD))=some ((gos L w x).map fun k=>pqD (ek L k,some k)):=by
  rw [en];exact uo (fun p:Nat=>PyData.tuple [.int (p:Int),yD (tAt L p)]) (fun k=>gA L w k x) (fun k=>pqD (ek L k,some k)) (aB L.length) fun p hp=>⟨[some (.d (.int (p:Int))),some (.d (yD (tAt L p))),some (.d (.list (L.map yD))),some (.d (.int (w:Int))),some (.d (.int x))],rfl,by
   have:=L_ (x:=x) hw (aQ.mp hp);have:Com.fY _=_:=this;simp![this],fun _=>by
   simp![ak,at1];rfl⟩
 have el:(jW (L.map yD)).length ≤ 100000:=by rw [en,aD,aX];omega
 have tt:=Ma (M:=M) (x:=x) hl;have gl:(gos L w x).length ≤ 24:=by
  have:=cQ (fun k=>gA L w k x) (aB L.length);rw [aX] at this;exact bY this hl
 have lm:((gos L w x).map fun k=>pqD (ek L k,some k)).length < 1000000:=by rw [aD];omega
 have f1:flats ((gos L w x).map fun k=>pqD (ek L k,some k))=true:=gJ _ (fun _=>rfl) _;unfold stp;show Com.eU _=_;unfold Com.eU;by_cases z:jw L x=M
 ·rw [dTr z] at tt;rw [if_pos z,cU,dO];simp![ak,aC,el,C,tt,f1];rfl
 ·rw [dFa z] at tt;rw [if_neg z,cV,dO];have f2:flats (((gos L w x).map fun k=>pqD (ek L k,some k))++[pqD (x + 1,none)])=true:=by
   rw [show [pqD (x + 1,none)]=([(x + 1,none)]:List (Int × Option Nat)).map pqD from rfl];rw [show ((gos L w x).map fun k=>pqD (ek L k,some k))=((gos L w x).map fun k=>(ek L k,some k)).map pqD by rw [dO];rfl,← cV];exact gJ _ (fun s=>by obtain ⟨a,b⟩:=s;cases b <;> rfl) _
  have f2':flats (((gos L w x).map fun k=>pqD (ek L k,some k))++[PyData.tuple [.int (x + 1),.none]])=true:=f2;simp![ak,aC,el,C,tt,zl2,lm,f2'];rfl
theorem v5 {S:List (Int × D)} {k x:Int} {d:D} (h:(eO S x).isSome=true):eO (oE S k d) x=eO S x:=by
 unfold oE;split
 ·rfl
 ·unfold eO at h ⊢;rw [tQ]
  cases e:S.find? fun q=>decide (q.1=x) with
  | none=>rw [e] at h;cases h
  | some q=>rfl
theorem Aq {S:List (Int × D)} {k x:Int} {d:D} (h:eO S x=none):eO (oE S k d) x=if x=k then some d else none:=by
 unfold oE;split
 ·next c =>
  by_cases z:x=k
  ·rw [← z,h] at c;cases c
  ·rwa [if_neg z]
 ·unfold eO at h ⊢;rw [tQ]
  cases e:S.find? fun q=>decide (q.1=x) with
  | some q=>rw [e] at h;cases h
  | none =>
   by_cases z:x=k
   ·rw [if_pos z,pY (by simp [z])];rfl
   ·rw [if_neg z,pZ (by simp;exact fun y=>z y.symm)];rfl
theorem ux {S:List (Int × D)} {k x:Int} {d:D} (h:(eO S x).isSome=true):(eO (oE S k d) x).isSome=true:=by rwa [v5 h]
theorem Mg {S:List (Int × D)} {k:Int} {d:D}:(eO (oE S k d) k).isSome=true:=by
 cases h:eO S k with
 | none=>rw [Aq h,if_pos rfl];rfl
 | some v=>rw [v5 (by rw [h];rfl),h];rfl
theorem Qq (S:List (Int × D)) (k:Int) (d:D):(oE S k d).length ≤ S.length + 1:=by
 unfold oE;split
 ·omega
 ·rw [bL];exact bB _
def qTv (i:Nat) (x y z:Option D) (δ:DS):Option Oc:=x.bind fun x=>y.bind fun y=>z.bind fun z=>(vL x).bind fun S=>match y with
 | .int k=>if tvD z=true∧S.length < 1000000 then some (.nx (δ.set i (some (.d (dtv (oE S k z)))))) else none
 | _=>none
theorem Qs {i:Nat} {fk fv:FE} {δ:DS}:wY i fk fv δ=qTv i (aj i δ) (fk δ) (fv δ) δ:=rfl
theorem Jh {i:Nat} {S:List (Int × D)} {k:Int} {z:D} {δ:DS} (hA:tvA S=true) (hz:tvD z=true) (h:S.length < 1000000):qTv i (some (dtv S)) (some (.int k)) (some z) δ=some (.nx (δ.set i (some (.d (dtv (oE S k z)))))):=by
 unfold qTv;rw [aN,aN,aN,sI hA,aN];show (if _ then _ else _)=_;rw [if_pos ⟨hz,h⟩]
theorem Qt {fk:FE} {δ:DS} {i:Int} (h:fk δ=some (.int i)):wX fk δ=some (dtv [(i,.none)]):=by
 unfold wX;rw [h];rfl
theorem U0 {S:List (Int × D)} {k:Int} (hA:tvA S=true):Cy (.int k) (dtv S)=some (.bool (eO S k).isSome):=by
 unfold Cy;rw [sI hA];rfl
theorem zO {S:List (Int × D)} {k:Int} (hA:tvA S=true):ud (.int k) (dtv S)=some (.bool (!(eO S k).isSome)):=by
 unfold ud;rw [sI hA];rfl
theorem Hg {S:List (Int × D)} {k:Int} (hA:tvA S=true):qp (dtv S) (.int k)=eO S k:=by
 unfold qp;rw [sI hA];rfl
theorem Q_ (x:Int) (p:Option Nat):tvD (.tuple [.int x,hD p])=true:=by cases p <;> rfl
abbrev Gk (L:List Ty) (w k:Nat):Prop:=Rch.Go L.length (bk L) (ek L) (hk L) w k
def Stp (L:List Ty) (M w:Nat) (y:Int) (p:Option Nat) (x:Int):Prop:=match p with
 | none=>jw L y ≠ M∧x=y + 1
 | some k=>Gk L w k∧bk L k=y∧ek L k=x
theorem v8 {L:List Ty} {M w:Nat} {y:Int} {s:Int × Option Nat}:s ∈ stp L M w y↔Stp L M w y s.2 s.1:=by
 obtain ⟨x,p⟩:=s;unfold stp Stp;rw [aR,dR]
 cases p with
 | none =>
  constructor
  ·rintro (⟨k,_,e⟩ | h)
   ·cases e
   ·by_cases z:jw L y=M
    ·rw [if_pos z] at h;cases h
    ·rw [if_neg z] at h;have:=aJ.mp h;injection this with h1 h2
     exact ⟨z,h1⟩
  ·rintro ⟨h1,h2⟩
   right
   rw [if_neg h1];have h2:x=y + 1:=h2;rw [h2];exact aJ.mpr rfl
 | some k =>
  have gk:k ∈ gos L w y↔Gk L w k∧bk L k=y:=by
   unfold gos gA;rw [bx,aQ,aW,aW,aW,decide_eq_true_iff,decide_eq_true_iff];have:(!(hk L k).isSome)=true↔hk L k=none:=by cases hk L k <;> simp
   rw [this];simp only [oH,decide_eq_false_iff_not]
   constructor
   ·rintro ⟨h1,h2,h3,h4,h5⟩;exact ⟨⟨h1,h2,h3,h5⟩,h4⟩
   ·rintro ⟨⟨h1,h2,h3,h5⟩,h4⟩;exact ⟨h1,h2,h3,h4,h5⟩
  constructor
  ·rintro (⟨k',h1,e⟩ | h)
   ·injection e with e1 e2
    injection e2 with e2
    subst e2;obtain ⟨g1,g2⟩:=gk.mp h1;exact ⟨g1,g2,e1⟩
   ·split at h
    ·cases h
    ·have:=aJ.mp h;injection this with h1 h2
     cases h2
  ·rintro ⟨h1,h2,h3⟩;exact .inl ⟨k,gk.mpr ⟨h1,h2⟩,by rw [show ek L k=x from h3]⟩
theorem Ar {S:List (Int × D)} {x:Int}:(eO S x).isSome=true↔x ∈ S.map (·.1):=by
 unfold eO;rw [kW,List.find?_isSome]
 constructor
 ·rintro ⟨q,h1,h2⟩;exact dR.mpr ⟨q,h1,of_decide_eq_true h2⟩
 ·intro h;obtain ⟨q,h1,h2⟩:=dR.mp h;exact ⟨q,h1,dTr h2⟩
theorem U3 {S:List (Int × D)} {k:Int} {d:D} (h:(S.map (·.1)).Nodup):((oE S k d).map (·.1)).Nodup:=by
 unfold oE;split
 ·exact h
 ·next c =>
  rw [cV];refine k_.mpr ⟨h,je _ _,fun a ha b hb z=>c ?_⟩;have hb:=aJ.mp hb;rw [hb] at z;rw [z] at ha;exact Ar.mpr ha
structure Sok (L:List Ty) (M w:Nat) (B:Int) (S:List (Int × D)):Prop where
 a:tvA S=true
 b:eO S B=some .none
 nd:(S.map (·.1)).Nodup
 c:∀ x d,eO S x=some d→(x=B∧d = .none)∨∃ (y:Int) (p:Option Nat),d = .tuple [.int y,hD p]∧B ≤ y∧y < x∧y < bk L w∧(eO S y).isSome=true∧Stp L M w y p x
theorem Sok.add {L:List Ty} {M w:Nat} {B x z:Int} {p:Option Nat} {S:List (Int × D)} (h:Sok L M w B S) (h1:B ≤ x) (h2:x < z) (h3:x < bk L w) (h4:(eO S x).isSome=true) (h5:Stp L M w x p z):Sok L M w B (oE S z (.tuple [.int x,hD p])):=by
 refine ⟨Ol h.a (Q_ _ _),by rw [v5 (by rw [h.b];rfl)];exact h.b,U3 h.nd,fun y d e=>?_⟩
 cases hy:eO S y with
 | some v =>
  rw [v5 (by rw [hy];rfl)] at e;rcases h.c y d e with q | ⟨y',p',q1,q2,q3,q4,q5,q6⟩
  ·exact .inl q
  ·exact .inr ⟨y',p',q1,q2,q3,q4,ux q5,q6⟩
 | none =>
  rw [Aq hy] at e;split at e
  ·next c =>
   cases e;exact .inr ⟨x,p,rfl,h1,by omega,h3,ux h4,by rwa [c]⟩
  ·cases e
theorem Qu {L:List Ty} {M w:Nat} {x:Int} (hl:L.length ≤ 24):(stp L M w x).length ≤ 25:=by
 have:=cQ (fun k=>gA L w k x) (aB L.length);rw [aX] at this;unfold stp gos;rw [bL,aD];split <;> simp only [jz,bH] <;> omega
theorem Xy {lo hi:Int} {i:Nat} {d:D} (h:(fO lo hi)[i]? = some d):lo + (i:Int) < hi∧d = .int (lo + (i:Int)):=by
 unfold fO at h;rw [aP] at h;by_cases z:i < (hi - lo).toNat
 ·rw [cj z] at h
  cases h;exact ⟨by omega,rfl⟩
 ·rw [bF (by simpa using z)] at h
  cases h
theorem yj {L:List Ty} {M w:Nat} {now B:Int} (ok:TOk L M now) (hw:w < L.length) (B0:0 ≤ B) (hB:B ≤ bk L w) :
 ∃ S,fU [.list (L.map yD),.int (M:Int),.int (w:Int),.int B]=some (dtv S)∧Sok L M w B S∧∀ x,B ≤ x→x < bk L w→(eO S x).isSome=true→∀ s ∈ stp L M w x,(eO S s.1).isSome=true:=by
 have l24:=ok.len;have lt:∀ k,k < L.length→bk L k < ek L k:=fun k hk'=>(ok.ok _ (cR hk')).1
 have g400:bk L w ≤ 400:=by
  have:=(ok.bd _ (cR hw)).2;have:=lt w hw;show (tAt L w).1 ≤ 400;have:(tAt L w).1 < (tAt L w).2.1:=this;omega
 have aw:=ay hw;have st0:Sok L M w B [(B,.none)]:=⟨rfl,by simp [eO],by simp,fun x d e=>by
  unfold eO at e;by_cases z:B=x
  ·rw [pY (by simp [z])] at e
   cases e;exact .inl ⟨z.symm,rfl⟩
  ·rw [pZ (by simp [z])] at e
   cases e⟩
 obtain ⟨δ',e,S,u5,u6,h1,h2,h3,rfl⟩:=jt (g:=(gNl 5)) (b:=(sIf (bh (dOp Cy (aj 5) (aj 4))) (mF (lu (dCall eU (aq (aj 0) (aq (aj 1) (aq (aj 2) (aq (aj 5) (aZ))))))) (gNl 6) (wY 4 (dOp gIx (aj 6) (dC (.int 0))) (dTup (aq (aj 5) (aq (dOp gIx (aj 6) (dC (.int 1))) (aZ)))))) (dG)))
  (fun i δ=>∃ (S:List (Int × D)) (u5 u6:Option U),Sok L M w B S∧S.length ≤ 1 + 25 * i∧(∀ x,B ≤ x→x < B + (i:Int)→(eO S x).isSome=true→∀ s ∈ stp L M w x,(eO S s.1).isSome=true) ∧
   δ=[some (.d (.list (L.map yD))),some (.d (.int (M:Int))),some (.d (.int (w:Int))),some (.d (.int B)),some (.d (dtv S)),u5,u6]) (fO B (bk L w))
  [some (.d (.list (L.map yD))),some (.d (.int (M:Int))),some (.d (.int (w:Int))),some (.d (.int B)),some (.d (dtv [(B,.none)])),none,none] ⟨_,none,none,st0,(show 1 ≤ 1 + 25 * 0 by decide),fun x q1 q2=>by omega,rfl⟩ (by
   rintro i d δ hd ⟨S,u5,u6,h1,h2,h3,rfl⟩;obtain ⟨hi,rfl⟩:=Xy hd;have q1:=U0 (k:=B + (i:Int)) h1.a
   cases kx:(eO S (B + (i:Int))).isSome with
   | false =>
    rw [kx] at q1;refine ⟨_,[some (.d (.list (L.map yD))),some (.d (.int (M:Int))),some (.d (.int (w:Int))),some (.d (.int B)),some (.d (dtv S)),some (.d (.int (B + (i:Int)))),u6],rfl,.inl ?_,S,_,_,h1,by omega,fun x x1 x2 x3=>?_,rfl⟩
    ·simp![q1]
    ·by_cases z:x=B + (i:Int)
     ·rw [z,kx] at x3;cases x3
     ·exact h3 x x1 (by omega) x3
   | true =>
    rw [kx] at q1;have sl:=Qu (M:=M) (w:=w) (x:=B + (i:Int)) l24;have so:=Mf (M:=M) (x:=B + (i:Int)) l24 hw;obtain ⟨δ2,e2,S2,v6,g1,g2,g3,g4,g5,rfl⟩:=jt (g:=(gNl 6)) (b:=(wY 4 (dOp gIx (aj 6) (dC (.int 0))) (dTup (aq (aj 5) (aq (dOp gIx (aj 6) (dC (.int 1))) (aZ))))))
     (fun j δ=>∃ (S2:List (Int × D)) (v6:Option U),Sok L M w B S2∧S2.length ≤ S.length + j∧(∀ x,(eO S x).isSome=true→(eO S2 x).isSome=true)∧(∀ x,x ≤ B + (i:Int)→(eO S2 x).isSome=true→(eO S x).isSome=true) ∧
      (∀ s ∈ (stp L M w (B + (i:Int))).take j,(eO S2 s.1).isSome=true)∧δ=[some (.d (.list (L.map yD))),some (.d (.int (M:Int))),some (.d (.int (w:Int))),some (.d (.int B)),some (.d (dtv S2)),some (.d (.int (B + (i:Int)))),v6]) ((stp L M w (B + (i:Int))).map pqD)
     [some (.d (.list (L.map yD))),some (.d (.int (M:Int))),some (.d (.int (w:Int))),some (.d (.int B)),some (.d (dtv S)),some (.d (.int (B + (i:Int)))),u6] ⟨S,u6,h1,by omega,fun _ h=>h,fun _ _ h=>h,fun s hs=>(by cases hs),rfl⟩ (by
      rintro j d δ hd ⟨S2,v6,g1,g2,g3,g4,g5,rfl⟩;rw [aP] at hd
      cases es:(stp L M w (B + (i:Int)))[j]? with
      | none=>rw [es] at hd;cases hd
      | some s =>
       rw [es] at hd
       cases hd;have jl:j < 25:=bV (cT.mp es).1 sl;have sm:=cN es;obtain ⟨z,p⟩:=s;have sp:=v8.mp sm;have zx:B + (i:Int) < z:=by
        cases p with
        | none =>
         have:z=B + (i:Int) + 1:=sp.2;omega
        | some k =>
         have h:=lt k sp.1.1;have h4:bk L k=B + (i:Int):=sp.2.1;have h5:ek L k=z:=sp.2.2;omega
       have et:(stp L M w (B + (i:Int))).take (j + 1)=(stp L M w (B + (i:Int))).take j++[(z,p)]:=by rw [iR,es];rfl
       have vs:=Jh (i:=4) (k:=z) (δ:=[some (.d (.list (L.map yD))),some (.d (.int (M:Int))),some (.d (.int (w:Int))),some (.d (.int B)),some (.d (dtv S2)),some (.d (.int (B + (i:Int)))),some (.d (pqD (z,p)))]) g1.a (Q_ (B + (i:Int)) p) (by omega);refine ⟨_,[some (.d (.list (L.map yD))),some (.d (.int (M:Int))),some (.d (.int (w:Int))),some (.d (.int B)),some (.d (dtv (oE S2 z (.tuple [.int (B + (i:Int)),hD p])))),some (.d (.int (B + (i:Int)))),some (.d (pqD (z,p)))],rfl,.inl ?_,oE S2 z (.tuple [.int (B + (i:Int)),hD p]),_,g1.add (by omega) zx hi (g3 _ kx) sp,?_,fun x hx=>ux (g3 x hx),fun x x1 x2=>?_,fun s hs=>?_,rfl⟩
       ·have i0:gIx (pqD (z,p)) (.int 0)=some (.int z):=rfl;have i1:gIx (pqD (z,p)) (.int 1)=some (hD p):=rfl;simp![ak,Qs,i0,i1,zl2];exact vs
       ·have:=Qq S2 z (.tuple [.int (B + (i:Int)),hD p]);omega
       ·refine g4 x x1 ?_
        cases hy:eO S2 x with
        | some v=>rfl
        | none =>
         rw [Aq hy,if_neg (by omega)] at x2
         cases x2
       ·rw [et] at hs;rcases aR.mp hs with y | y
        ·exact ux (g5 s y)
        ·rw [aJ.mp y];exact Mg)
    rw [aD] at g2 g5;rw [jf] at g5;refine ⟨_,[some (.d (.list (L.map yD))),some (.d (.int (M:Int))),some (.d (.int (w:Int))),some (.d (.int B)),some (.d (dtv S2)),some (.d (.int (B + (i:Int)))),v6],rfl,.inl ?_,S2,_,_,g1,by omega,fun x x1 x2 x3=>?_,rfl⟩
    ·simp![q1,so];exact e2
    ·by_cases z:x=B + (i:Int)
     ·rw [z];exact g5
     ·intro s hs;exact g3 _ (h3 x x1 (by omega) (g4 x (by omega) x3) s hs))
 refine ⟨S,?_,h1,fun x x1 x2=>h3 x x1 (by unfold fO;rw [aD,aX];omega)⟩;have rg:GZ (some [.int B,.int (bk L w)])=some (fO B (bk L w)):=W_ (by omega) (by omega) (by omega) (by omega);have nw:wX (aj 3) [some (.d (.list (L.map yD))),some (.d (.int (M:Int))),some (.d (.int (w:Int))),some (.d (.int B)),none,none,none]=some (dtv [(B,.none)]):=Qt rfl;unfold fU;simp![ak,aC,nw,aw,rg];rw [e];simp![]
theorem Ft {L:List Ty} (x:Int):jw L x=Rch.cnt L.length (bk L) (ek L) x:=Lw x
abbrev Pt (L:List Ty) (M w:Nat) (B:Int):List Nat→Int→Prop:=Rch.Pth L.length M (bk L) (ek L) (hk L) w B
def nD (t:List Nat):List D:=t.map fun k:Nat=>PyData.int (k:Int)
theorem Fv {L:List Ty} {M w:Nat} {B:Int} {S:List (Int × D)} (h:Sok L M w B S):∀ (m:Nat) (x:Int) (t:List Nat) (u4:Option U),(x - B).toNat ≤ m→(eO S x).isSome=true→t.length + m ≤ 1000→(∀ cs,Pt L M w B cs x→Pt L M w B (cs++t) (bk L w)) →
 ∃ n t' z4,iI ((bh (dUn lK (dOp qp (aj 0) (aj 3))))) ((bQ (bM 4 (dOp gIx (dOp qp (aj 0) (aj 3)) (dC (.int 1)))) (bQ (sIf (bh (dUn lK (aj 4))) (yx 2 (dC (.int 0)) (aj 4)) (dG)) (bM 3 (dOp gIx (dOp qp (aj 0) (aj 3)) (dC (.int 0))))))) n [some (.d (dtv S)),some (.d (.int (bk L w))),some (.d (.list (nD t))),some (.d (.int x)),u4] =
  some (.nx [some (.d (dtv S)),some (.d (.int (bk L w))),some (.d (.list (nD t'))),some (.d (.int B)),z4])∧Pt L M w B t' (bk L w):=by
 intro m
 induction m with
 | zero =>
  intro x t u4 hm hx _ hP;obtain ⟨d,ed⟩:=bR.mp hx;rcases h.c x d ed with ⟨rfl,rfl⟩ | ⟨y,p,_,y1,y2,_⟩
  ·have g:=Hg (k:=x) h.a;rw [ed] at g;have nn:isNone .none=true:=rfl;refine ⟨1,t,u4,?_,hP [] .start⟩;rw [iI];simp![g,nn];rfl
  ·omega
 | succ m ih =>
  intro x t u4 hm hx hl hP;obtain ⟨d,ed⟩:=bR.mp hx;have g:=Hg (k:=x) h.a;rw [ed] at g;rcases h.c x d ed with ⟨rfl,rfl⟩ | ⟨y,p,rfl,y1,y2,y3,y4,y5⟩
  ·have nn:isNone .none=true:=rfl;refine ⟨1,t,u4,?_,hP [] .start⟩;rw [iI];simp![g,nn];rfl
  ·cases p with
   | none =>
    obtain ⟨n,t',z4,e1,e2⟩:=ih y t (some (.d .none)) (by omega) y4 (by omega) (fun cs hc=>hP cs (by
     have:=Rch.Pth.gap hc (by rw [← Ft];exact y5.1) y3;rwa [← y5.2] at this))
    refine ⟨n + 1,t',z4,?_,e2⟩;have nt:isNone (.tuple [.int y,hD none])=false:=rfl;have nn:isNone (hD none)=true:=rfl;rw [iI];simp![ak,aC,g,nt,nn,at1,aN];exact e1
   | some k =>
    obtain ⟨n,t',z4,e1,e2⟩:=ih y (k :: t) (some (.d (.int (k:Int)))) (by omega) y4 (by rw [bH];omega) (fun cs hc=>by
     have h1:=y5.2.1;have h2:=y5.2.2;have:=hP (cs++[k]) (by
      have:=Rch.Pth.stay (k:=k) (by rwa [h1]) y5.1;rwa [h2] at this)
     rwa [jG] at this)
    refine ⟨n + 1,t',z4,?_,e2⟩;have hk':hD (some k) = .int (k:Int):=rfl;have ei:Ep 0 (.int (k:Int)) (nD t)=some (nD (k :: t)):=by
     unfold Ep;rw [if_pos (by unfold nD;rw [aD];omega)];rfl
    rw [iI];simp![ak,aC,g,hk',at1,aN,Ks,Aa,Tc ei];exact e1
theorem Mh {L:List Ty} {M w:Nat} {B:Int} {S:List (Int × D)} (h:Sok L M w B S) (hx:(eO S (bk L w)).isSome=true) (hb:(bk L w - B).toNat ≤ 1000) :
 ∃ t:List Nat,n_ [dtv S,.int (bk L w)]=some (.list (nD t))∧Pt L M w B t (bk L w):=by
 obtain ⟨n,t,z4,e1,e2⟩:=Fv h (bk L w - B).toNat (bk L w) [] none (bB _) hx (by rw [jz];omega) (fun cs hc=>by rwa [cU]);refine ⟨t,?_,e2⟩;have sw:=HS e1;have fl:flats (nD t)=true:=gJ _ (fun _=>rfl) _;have n0:nD []=[]:=rfl;rw [n0] at sw;unfold n_;simp![ak,aC,zl0];rw [sw];simp![fl]
section
variable {L:List Ty} {M:Nat} {now:Int}
theorem wd (ok:TOk L M now) {w r:Nat} {f:Nat→Int} (hw:w < L.length) (hn:hk L w=none) (hr:r < M) (hf:∀ s,s < M→(∃ k,k < L.length∧hk L k=some s∧f s=ek L k)∨((∀ k,k < L.length→hk L k ≠ some s)∧f s=now)):Rch.Wd L.length M (bk L) (ek L) (hk L) now w r (f r) :=
 ⟨fun k h=>(ok.ok _ (cR h)).1,fun k s h e=>(ok.ok _ (cR h)).2.1 s e,fun k h e=>(ok.ok _ (cR h)).2.2 e,fun k l s h1 h2 e1 e2=>rU ok.nd h1 h2 e1 e2,
  fun k h e=>by rw [← Ft];exact uw ok (cR h) e,hw,hn,hr,hf r hr⟩
def s0 (L:List Ty) (r w:Nat) (t:List Nat) (k:Nat):Option Nat:=if k ∈ t++[w] then some r else hk L k
def f0 (L:List Ty) (r w:Nat) (f:Nat→Int) (s:Nat):Int:=if s=r then ek L w else f s
theorem Qw (ok:TOk L M now) (hM:M ≤ 12) {w r:Nat} {f:Nat→Int} (hw:w < L.length) (hn:hk L w=none) (hr:r < M) (hf:∀ s,s < M→(∃ k,k < L.length∧hk L k=some s∧f s=ek L k)∨((∀ k,k < L.length→hk L k ≠ some s)∧f s=now))
 (hB:f r ≤ bk L w) {t:List Nat} (pt:Pt L M w (f r) t (bk L w)) :
 ∃ seat:Nat→Option Nat,lH [.list (L.map yD),.list ((aB L.length).map fun k=>hD (s0 L r w t k)),.list ((aB M).map fun s:Nat=>PyData.int (f0 L r w f s))]=some (.list ((aB L.length).map fun p=>hD (seat p))) ∧
  (∀ p,p < L.length→∃ s,seat p=some s∧s < M)∧(∀ p s,s0 L r w t p=some s→seat p=some s)∧(∀ p q,p < L.length→q < L.length→p ≠ q→seat p=seat q→ek L p ≤ bk L q∨ek L q ≤ bk L p) ∧
  ∀ p,seat p=some r→p ∈ t++[w]∨(hk L p).isSome=true∨ek L w ≤ bk L p:=by
 have l24:=ok.len;have W:=wd ok hw hn hr hf;obtain ⟨P,eP,pP,sP⟩:=tL (L:=L) (by omega);have nP:=pP.nodup_iff.mpr (List.Pairwise.filter _ dJ);have mP:∀ p ∈ P,p < L.length∧hk L p=none:=fun p hp=>by
  obtain ⟨h1,h2⟩:=bx.mp (pP.mem_iff.mp hp);refine ⟨aQ.mp h1,?_⟩
  cases z:hk L p with
  | none=>rfl
  | some s =>
   have z:(tAt L p).2.2=some s:=z;rw [z] at h2
   cases h2
 have lt:=W.lt;have nhk:∀ k,k ∈ t++[w]→k < L.length:=fun k hk'=>by
  rcases aR.mp hk' with z | z
  ·exact (pt.mem W k z).1.1
  ·rwa [aJ.mp z]
 obtain ⟨δ',e,seat,fs,x,y,I,hH,hF,hR,rfl⟩:=jt (g:=(gNl 5)) (b:=(sIf (bh (dUn rF (dOp gIx (aj 3) (aj 5)))) (bQ (bM 6 (dCall fX (aq (aj 4) (aq (dOp gIx (dOp gIx (aj 0) (aj 5)) (dC (.int 0))) (aZ))))) (bQ (uK 3 (aj 5) (aj 6)) (uK 4 (aj 6) (dOp gIx (dOp gIx (aj 0) (aj 5)) (dC (.int 1)))))) (dG)))
  (fun i δ=>∃ (seat:Nat→Option Nat) (fs:Nat→Int) (x y:Option U),Rch.GInv now M (bk L) (ek L) (hel L++(t++[w])++(P.take i).filter fun k=>!decide (k ∈ t++[w])) seat fs∧(∀ p s,s0 L r w t p=some s→seat p=some s)∧ek L w ≤ fs r ∧
   (∀ p,seat p=some r→p ∈ t++[w]∨(hk L p).isSome=true∨ek L w ≤ bk L p) ∧
   δ=[some (.d (.list (L.map yD))),some (.d (.list ((aB L.length).map fun k=>hD (s0 L r w t k)))),some (.d (.list ((aB M).map fun s:Nat=>PyData.int (f0 L r w f s)))),some (.d (.list ((aB L.length).map fun p=>hD (seat p)))),some (.d (.list ((aB M).map fun s:Nat=>PyData.int (fs s)))),x,y]) (P.map fun i:Nat=>PyData.int (i:Int))
  [some (.d (.list (L.map yD))),some (.d (.list ((aB L.length).map fun k=>hD (s0 L r w t k)))),some (.d (.list ((aB M).map fun s:Nat=>PyData.int (f0 L r w f s)))),some (.d (.list ((aB L.length).map fun k=>hD (s0 L r w t k)))),some (.d (.list ((aB M).map fun s:Nat=>PyData.int (f0 L r w f s)))),none,none]
  ⟨s0 L r w t,f0 L r w f,none,none,by
   rw [rA,List.filter_nil,cU];exact Rch.Xu W hB pt hf rfl (fun k=>jy) (fun k h=>Xx h),fun _ _ h=>h,by unfold f0;rw [if_pos rfl];exact d7 _,fun p hp=>by
    unfold s0 at hp;by_cases z:p ∈ t++[w]
    ·exact .inl z
    ·rw [if_neg z] at hp;exact .inr (.inl (by rw [hp];rfl)),rfl⟩ (by
   rintro i d δ hd ⟨seat,fs,x,y,I,hH,hF,hR,rfl⟩;rw [aP] at hd
   cases hi:P[i]? with
   | none=>rw [hi] at hd;cases hd
   | some c =>
    rw [hi] at hd
    cases hd;have hiL:=(cT.mp hi).1;have et:P.take (i + 1)=P.take i++[c]:=by rw [iR,hi];rfl
    have sp:P=P.take i++c :: P.drop (i + 1):=by
     rw [aV hiL] at hi
     cases hi;rw [lq,jD]
    obtain ⟨hcn,hcf⟩:=mP c (cN hi);have ayc:=ay hcn;by_cases ct:c ∈ t++[w]
    ·have sc:=hH c r (by unfold s0;rw [if_pos ct]);have a1:=sV (fun p=>hD (seat p)) hcn;rw [sc] at a1;have nN:isNone (hD (some r))=false:=rfl;refine ⟨_,[some (.d (.list (L.map yD))),some (.d (.list ((aB L.length).map fun k=>hD (s0 L r w t k)))),some (.d (.list ((aB M).map fun s:Nat=>PyData.int (f0 L r w f s)))),some (.d (.list ((aB L.length).map fun p=>hD (seat p)))),some (.d (.list ((aB M).map fun s:Nat=>PyData.int (fs s)))),some (.d (.int (c:Int))),y],rfl,.inl ?_,seat,fs,_,y,?_,hH,hF,hR,rfl⟩
     ·generalize (aB L.length).map (fun p=>hD (seat p))=SQ at *;generalize (aB L.length).map (fun k=>hD (s0 L r w t k))=SP at *;generalize (aB M).map (fun s:Nat=>PyData.int (fs s))=FF at *;generalize (aB M).map (fun s:Nat=>PyData.int (f0 L r w f s))=FB at *;simp![a1,nN]
     ·rw [et,jY,show ([c].filter fun k=>!decide (k ∈ t++[w]))=[] by rw [eZ (by rw [dTr ct];simp)];rfl,cU];exact I
    ·have hc:c ∉ hel L++(t++[w])++(P.take i).filter fun k=>!decide (k ∈ t++[w]):=fun z=>by
      rcases aR.mp z with z | z
      ·rcases aR.mp z with z | z
       ·have:=(jy.mp z).2;rw [hcf] at this
        cases this
       ·exact ct z
      ·rw [sp] at nP;exact (k_.mp nP).2.2 c (bx.mp z).1 c aK rfl
     have hdn:∀ k ∈ hel L++(t++[w])++(P.take i).filter (fun k=>!decide (k ∈ t++[w])),k < L.length:=fun k hk'=>by
      rcases aR.mp hk' with z | z
      ·rcases aR.mp z with z | z
       ·exact (jy.mp z).1
       ·exact nhk k z
      ·exact (mP k (rB (bx.mp z).1)).1
     have hA:∀ k ∈ hel L++(t++[w])++(P.take i).filter (fun k=>!decide (k ∈ t++[w])),k ∈ t++[w]∨bk L k ≤ bk L c:=fun k hk'=>by
      rcases aR.mp hk' with z | z
      ·rcases aR.mp z with z | z
       ·obtain ⟨h1,h2⟩:=jy.mp z;obtain ⟨s,hs⟩:=bR.mp h2;have q1:=(W.hh k s h1 hs).2.1;have q2:=W.hn c hcn hcf;exact .inr (by omega)
       ·exact .inl z
      ·rw [sp] at sP;exact .inr ((cZ.mp sP).2.2 k (bx.mp z).1 c aK)
     obtain ⟨r',r1,r2,r3⟩:=yd (show M ≤ 1000 by omega) (Rch.room W hB pt I hc hcn hcf hdn hA
      (fun k hk'=>⟨bD _ (aU _ hk'),hH k r (by unfold s0;rw [if_pos hk'])⟩)
      (fun k k1 k2=>⟨bD _ (bD _ (jy.mpr ⟨k1,by rw [k2];rfl⟩)),hH k r (by
       unfold s0;by_cases z:k ∈ t++[w]
       ·rw [if_pos z]
       ·rw [if_neg z];exact k2)⟩))
     have sc:seat c=none:=I.out c hc;have a1:=sV (fun p=>hD (seat p)) hcn;rw [sc] at a1;have a1:pAt ((aB L.length).map fun p=>hD (seat p)) (c:Int)=some .none:=a1;have nN:isNone .none=true:=rfl;have p1:=Fg (l:=(aB L.length).map fun p=>hD (seat p)) (by rw [aD,aX]) hcn;have p2:=Fg (l:=(aB M).map fun s:Nat=>PyData.int (fs s)) (by rw [aD,aX]) r1;have s1:=xU (n:=L.length) (c:=c) (d:=.int (r':Int)) (fun p=>hD (seat p));have s2:=xU (n:=M) (c:=r') (d:=.int (ek L c)) (fun s:Nat=>PyData.int (fs s));refine ⟨_,[some (.d (.list (L.map yD))),some (.d (.list ((aB L.length).map fun k=>hD (s0 L r w t k)))),some (.d (.list ((aB M).map fun s:Nat=>PyData.int (f0 L r w f s)))),some (.d (.list (((aB L.length).map fun p=>hD (seat p)).set c (.int (r':Int))))),some (.d (.list (((aB M).map fun s:Nat=>PyData.int (fs s)).set r' (.int (ek L c))))),some (.d (.int (c:Int))),some (.d (.int (r':Int)))],rfl,.inl ?_,?_⟩
     ·generalize (aB L.length).map (fun p=>hD (seat p))=SQ at *;generalize (aB L.length).map (fun k=>hD (s0 L r w t k))=SP at *;generalize (aB M).map (fun s:Nat=>PyData.int (fs s))=FF at *;generalize (aB M).map (fun s:Nat=>PyData.int (f0 L r w f s))=FB at *;simp![ak,aC,a1,nN,ayc,at1,r3,p1,p2,aN]
     ·refine ⟨fun p=>if p=c then some r' else seat p,fun x=>if x=r' then ek L c else fs x,some (.d (.int (c:Int))),some (.d (.int (r':Int))),?_,fun p s hp=>?_,?_,fun p hp=>?_,?_⟩
      ·rw [et,jY,show ([c].filter fun k=>!decide (k ∈ t++[w]))=[c] by rw [dY (by rw [dFa ct];rfl)];rfl,← jG];exact I.step hc r1 r2 (lt c hcn)
      ·have:p ≠ c:=fun z=>by
        unfold s0 at hp;rw [z,if_neg ct,hcf] at hp
        cases hp
       show (if p=c then some r' else seat p)=_;rw [if_neg this];exact hH p s hp
      ·show ek L w ≤ if r=r' then ek L c else fs r
       by_cases z:r=r'
       ·rw [if_pos z];have:=lt c hcn;rw [← z] at r2;omega
       ·rw [if_neg z];exact hF
      ·have hp:(if p=c then some r' else seat p)=some r:=hp;by_cases z:p=c
       ·rw [if_pos z] at hp;injection hp with hp
        rw [hp] at r2;rw [z];exact .inr (.inr (by omega))
       ·rw [if_neg z] at hp;exact hR p hp
      ·rw [s1,s2];have q1:(fun p=>if p=c then PyData.int (r':Int) else hD (seat p))=fun p=>hD (if p=c then some r' else seat p):=by
        funext p
        by_cases z:p=c
        ·rw [if_pos z,if_pos z];rfl
        ·rw [if_neg z,if_neg z]
       have q2:(fun x:Nat=>if x=r' then PyData.int (ek L c) else PyData.int (fs x))=fun x=>PyData.int (if x=r' then ek L c else fs x):=by
        funext x
        by_cases z:x=r'
        ·rw [if_pos z,if_pos z]
        ·rw [if_neg z,if_neg z]
       rw [q1,q2])
 rw [aD,jf] at I;have all:∀ p,p < L.length→p ∈ hel L++(t++[w])++P.filter fun k=>!decide (k ∈ t++[w]):=fun p hp=>by
  by_cases ct:p ∈ t++[w]
  ·exact bD _ (aU _ ct)
  ·cases z:hk L p with
   | some s=>exact bD _ (bD _ (jy.mpr ⟨hp,by rw [z];rfl⟩))
   | none =>
    refine aU _ (bx.mpr ⟨pP.mem_iff.mpr (bx.mpr ⟨aQ.mpr hp,?_⟩),by rw [dFa ct];rfl⟩);have z:(tAt L p).2.2=none:=z;rw [z];rfl
 refine ⟨seat,?_,fun p hp=>?_,hH,fun p q hp hq ne hs=>I.dj p (all p hp) q (all q hq) ne hs,hR⟩
 ·have fl:flats ((aB L.length).map fun p=>hD (seat p))=true:=gJ _ (fun p=>by cases seat p <;> rfl) _;unfold lH;simp![ak,aC,eP];rw [e];simp![fl]
 ·obtain ⟨s,h1,h2,_⟩:=I.inn p (all p hp);exact ⟨s,h1,h2⟩
end
section
variable {L:List Ty} {M:Nat} {now:Int}
structure Pn (L:List Ty) (M:Nat) (rr:Nat→Nat):Prop where
 lt:∀ k,k < L.length→rr k < M
 held:∀ k r,k < L.length→hk L k=some r→rr k=r
 dj:∀ p q,p < L.length→q < L.length→p ≠ q→rr p=rr q→ek L p ≤ bk L q∨ek L q ≤ bk L p
theorem Pn.pk {rr:Nat→Nat} (P:Pn L M rr):∀ i,i < L.length→Pk L M (plD L.length fun k=>(rr k:Int)) i:=fun i hi=>by
 have g:∀ k,k < L.length→(plD L.length fun k=>(rr k:Int))[k]? = some (.int (rr k:Int)):=fun k hk'=>by
  unfold plD;rw [aP,cj hk'];rfl
 have:=P.lt i hi;refine ⟨(rr i:Int),g i hi,by omega,by omega,fun r hr=>by rw [P.held i r hi hr],fun k hk' z=>?_⟩;have hkL:k < L.length:=by omega
 obtain ⟨z1,z2,z3⟩:=z;rw [g k hkL,g i hi] at z1;have z1:(rr k:Int)=(rr i:Int):=by
  injection z1 with z1
  injection z1
 rcases P.dj k i hkL hi (by omega) (by omega) with w | w <;> omega
theorem Ra (g:FG) (c:FT) (e:FE) (hg:g=gNl 0) (hc:c=D3.kJ) (he:e=cW (dOp gIx (aj 0) (dC (.int 2)))) (δ0:DS):eN g c e (jE 1 [] δ0) (L.map yD)=some ((aB L.length).map fun k=>hD (hk L k)):=by
 rw [jx,hg,hc,he];exact Ak (fun k=>yD (tAt L k)) (fun k=>hD (hk L k)) (aB L.length) fun k _=>⟨[some (.d (yD (tAt L k)))],rfl,rfl,by
  have fl:flat (hD (tAt L k).2.2)=true:=by cases (tAt L k).2.2 <;> rfl
  unfold yD hk;simp![at2,fl]⟩
theorem U4 (n:Nat) (g:Nat→Int):(plD n g).length=n:=by unfold plD;rw [aD,aX]
theorem Av (ok:TOk L M now) (hM:M ≤ 12) {w r:Nat} {f:Nat→Int} (ef:cD [.list (L.map yD),.int (M:Int),.int now]=some (.list ((aB M).map fun r:Nat=>PyData.int (f r)))) (hw:w < L.length) (hn:hk L w=none) (hr:r < M) (hf:∀ s,s < M→(∃ k,k < L.length∧hk L k=some s∧f s=ek L k)∨((∀ k,k < L.length→hk L k ≠ some s)∧f s=now))
 (hB:f r ≤ bk L w) {t:List Nat} (pt:Pt L M w (f r) t (bk L w)) (tl:t.length ≤ 24) :
 ∃ rr:Nat→Nat,mK [.list (L.map yD),.int (M:Int),.int now,.int (w:Int),.int (r:Int),.list (nD t)]=some (.list (plD L.length fun k=>(rr k:Int)))∧Pn L M rr∧rr w=r∧∀ k,k < L.length→hk L k=none→bk L k < bk L w→(rr k=r↔k ∈ t):=by
 have l24:=ok.len;have W:=wd ok hw hn hr hf;obtain ⟨seat,es,q1,q2,q3,q4⟩:=Qw ok hM hw hn hr hf hB pt;have sl:(aB L.length).map (fun p=>hD (seat p))=plD L.length fun p=>(((seat p).getD 0:Nat):Int):=G7 fun p hp=>by
  obtain ⟨s,hs,_⟩:=q1 p hp;show hD (seat p)=PyData.int (((seat p).getD 0:Nat):Int);rw [hs];rfl
 rw [sl] at es;have inT:∀ k,k ∈ t++[w]→k < L.length:=fun k hk'=>by
  rcases aR.mp hk' with z | z
  ·exact (pt.mem W k z).1.1
  ·rwa [aJ.mp z]
 have sr:=fun k hk'=>q2 k r (by unfold s0;rw [if_pos hk'])
 have noT:∀ k,hk L k ≠ none→k ∉ t++[w]:=fun k h1 h2=>by
  rcases aR.mp h2 with z | z
  ·exact h1 (pt.mem W k z).1.2.2.1
  ·rw [aJ.mp z] at h1;exact h1 hn
 refine ⟨fun p=>(seat p).getD 0,?_,⟨fun k hk'=>?_,fun k s hk' hs=>?_,fun p q hp hq ne e=>q3 p q hp hq ne ?_⟩,?_,fun k k1 k2 k3=>?_⟩
 ·have C:=fun δ0=>Ra (L:=L) ((gNl 0)) ((D3.kJ)) ((cW (dOp gIx (aj 0) (dC (.int 2))))) rfl rfl rfl δ0
  have len:(L.map yD).length ≤ 100000:=by rw [aD];omega
  have cat:rH (.list (nD t)) (.list [.int (w:Int)])=some (.list (nD (t++[w]))):=by
   rw [xP,if_pos (by unfold nD;rw [aD];show t.length + 1 ≤ _;omega)];unfold nD;rw [cV];rfl
  have aw:=ay hw;obtain ⟨δ',e,u7,rfl⟩:=jt (g:=(gNl 7)) (b:=(uK 6 (aj 7) (aj 4)))
   (fun i δ=>∃ u7:Option U,δ=[some (.d (.list (L.map yD))),some (.d (.int (M:Int))),some (.d (.int now)),some (.d (.int (w:Int))),some (.d (.int (r:Int))),some (.d (.list (nD t))),some (.d (.list ((aB L.length).map fun k=>hD (if k ∈ (t++[w]).take i then some r else hk L k)))),u7,none]) (nD (t++[w]))
   [some (.d (.list (L.map yD))),some (.d (.int (M:Int))),some (.d (.int now)),some (.d (.int (w:Int))),some (.d (.int (r:Int))),some (.d (.list (nD t))),some (.d (.list ((aB L.length).map fun k=>hD (hk L k)))),none,none] ⟨none,by rw [rA];simp only [d_,if_false]⟩ (by
    rintro i d δ hd ⟨u7,rfl⟩;unfold nD at hd;rw [aP] at hd
    cases hi:(t++[w])[i]? with
    | none=>rw [hi] at hd;cases hd
    | some c =>
     rw [hi] at hd
     cases hd;have et:(t++[w]).take (i + 1)=(t++[w]).take i++[c]:=by rw [iR,hi];rfl
     have hc:=inT c (cN hi);have p1:=Fg (l:=(aB L.length).map fun k=>hD (if k ∈ (t++[w]).take i then some r else hk L k)) (by rw [aD,aX]) hc;have s1:=xU (n:=L.length) (c:=c) (d:=.int (r:Int)) (fun k=>hD (if k ∈ (t++[w]).take i then some r else hk L k));refine ⟨_,[some (.d (.list (L.map yD))),some (.d (.int (M:Int))),some (.d (.int now)),some (.d (.int (w:Int))),some (.d (.int (r:Int))),some (.d (.list (nD t))),some (.d (.list (((aB L.length).map fun k=>hD (if k ∈ (t++[w]).take i then some r else hk L k)).set c (.int (r:Int))))),some (.d (.int (c:Int))),none],rfl,.inl ?_,some (.d (.int (c:Int))),?_⟩
     ·generalize (aB L.length).map (fun k=>hD (if k ∈ (t++[w]).take i then some r else hk L k))=SQ at *;simp![p1,aN]
     ·rw [s1,et];have:(fun p=>if p=c then PyData.int (r:Int) else hD (if p ∈ (t++[w]).take i then some r else hk L p))=fun k=>hD (if k ∈ (t++[w]).take i++[c] then some r else hk L k):=by
       funext k
       by_cases z:k=c
       ·rw [if_pos z,if_pos (aU _ (by rw [z];exact aJ.mpr rfl))];rfl
       ·rw [if_neg z];by_cases y:k ∈ (t++[w]).take i
        ·rw [if_pos y,if_pos (bD _ y)]
        ·rw [if_neg y,if_neg (fun x=>by
          rcases aR.mp x with x | x
          ·exact y x
          ·exact z (aJ.mp x))]
      rw [this])
  have lT:(nD (t++[w])).length=(t++[w]).length:=aD _;rw [lT,jf] at e;have p2:=Fg (l:=(aB M).map fun s:Nat=>PyData.int (f s)) (by rw [aD,aX]) hr;have s2:=xU (n:=M) (c:=r) (d:=.int (ek L w)) (fun s:Nat=>PyData.int (f s));have e2:((aB M).map fun s:Nat=>PyData.int (f s)).set r (.int (ek L w))=(aB M).map fun s:Nat=>PyData.int (f0 L r w f s):=by
   rw [s2];congr 1
   funext s
   unfold f0;by_cases z:s=r
   ·rw [if_pos z,if_pos z]
   ·rw [if_neg z,if_neg z]
  have fl:flats ((aB M).map fun s:Nat=>PyData.int (f s))=true:=gJ _ (fun _=>rfl) _;have ef:Com.cD _=_:=ef;unfold s0 at es;unfold mK;generalize hSQ:(aB L.length).map (fun k=>hD (if k ∈ t++[w] then some r else hk L k))=SQ at *;generalize hSP:(aB L.length).map (fun k=>hD (hk L k))=SP at *;generalize hFB:(aB M).map (fun s:Nat=>PyData.int (f0 L r w f s))=FB at *;generalize hFF:(aB M).map (fun s:Nat=>PyData.int (f s))=FF at *;simp![ak,aC,len,C,zl1,cat];rw [e];simp![ak,aC,ef,fl,aw,at1,p2,aN,e2,es]
 ·obtain ⟨s,hs,hsM⟩:=q1 k hk';show (seat k).getD 0 < M;rw [hs];exact hsM
 ·show (seat k).getD 0=s;rw [q2 k s (by unfold s0;rw [if_neg (noT k (by rw [hs];exact fun z=>nomatch z))];exact hs)];rfl
 ·obtain ⟨s,hs,_⟩:=q1 p hp;obtain ⟨s',hs',_⟩:=q1 q hq;have e:(seat p).getD 0=(seat q).getD 0:=e;rw [hs,hs'] at e;rw [hs,hs',show s=s' from e]
 ·show (seat w).getD 0=r;rw [sr w (aU _ (aJ.mpr rfl))];rfl
 ·obtain ⟨s,hs,_⟩:=q1 k k1;show (seat k).getD 0=r↔k ∈ t;rw [hs]
  constructor
  ·intro z;have z:s=r:=z;rw [z] at hs;rcases q4 k hs with y | y | y
   ·rcases aR.mp y with x | x
    ·exact x
    ·rw [aJ.mp x] at k3;omega
   ·rw [k2] at y;cases y
   ·have:=W.lt w hw;omega
  ·intro z;have:=sr k (bD _ z);rw [hs] at this;injection this
theorem Mi (ok:TOk L M now) {w r:Nat} {f h:Nat→Int} (hw:w < L.length) (hn:hk L w=none) (hr:r < M) (hf:∀ s,s < M→(∃ k,k < L.length∧hk L k=some s∧f s=ek L k)∨((∀ k,k < L.length→hk L k ≠ some s)∧f s=now))
 (hv:Xg.Valid (ssT L now) h) (hb:∀ k,k < L.length→0 ≤ h k∧h k < (M:Int)) (hh:∀ k s,k < L.length→hk L k=some s→h k=(s:Int)) (e:h w=(r:Int)) :
 f r ≤ bk L w∧∀ S,Sok L M w (f r) S→(∀ x,f r ≤ x→x < bk L w→(eO S x).isSome=true→∀ s ∈ stp L M w x,(eO S s.1).isSome=true)→(eO S (bk L w)).isSome=true:=by
 have W:=wd ok hw hn hr hf;obtain ⟨h1,h2⟩:=Rch.reach W (h:=h) (fun k l k1 l1 kl a b=>hv k l k1 l1 kl a b) hb hh e;refine ⟨h1,fun S so cl=>h2 (fun x=>(eO S x).isSome=true) (by show (eO S (f r)).isSome=true;rw [so.b];rfl) fun x x1 x2 x3=>⟨fun c=>?_,fun k g kx=>?_⟩⟩
 ·exact cl x x1 x2 x3 (x + 1,none) (v8.mpr ⟨by rw [Ft];exact c,rfl⟩)
 ·exact cl x x1 x2 x3 (ek L k,some k) (v8.mpr ⟨g,kx,rfl⟩)
theorem Qx (ok:TOk L M now) (hM:M ≤ 12) {w r:Nat} {f:Nat→Int} (hw:w < L.length) (hn:hk L w=none) (hr:r < M)
 (ef:cD [.list (L.map yD),.int (M:Int),.int now]=some (.list ((aB M).map fun s:Nat=>PyData.int (f s)))) (hf:∀ s,s < M→(∃ k,k < L.length∧hk L k=some s∧f s=ek L k)∨((∀ k,k < L.length→hk L k ≠ some s)∧f s=now))
 (hB:f r ≤ bk L w) (fB:0 ≤ f r) {S:List (Int × D)} (eS:fU [.list (L.map yD),.int (M:Int),.int (w:Int),.int (f r)]=some (dtv S)) (so:Sok L M w (f r) S) (kg:(eO S (bk L w)).isSome=true) :
 ∃ (t:List Nat) (rr:Nat→Nat),dD [.list (L.map yD),.int (M:Int),.int now,.int (w:Int),.int (r:Int)]=some (.tuple [.str "yes", .list (nD t),.list (plD L.length fun k=>(rr k:Int))])∧Pn L M rr∧rr w=r ∧
  (∀ k,k < L.length→hk L k=none→bk L k < bk L w→(rr k=r↔k ∈ t))∧t.Pairwise (fun a b=>bk L a < bk L b)∧(∀ k ∈ t,k < L.length∧hk L k=none∧bk L k < bk L w)∧t.length < L.length:=by
 have l24:=ok.len;have W:=wd ok hw hn hr hf;have g400:bk L w ≤ 400:=by
  have h1:=(ok.bd _ (cR hw)).2;have h2:=W.lt w hw;have h1:ek L w ≤ 400:=h1;omega
 obtain ⟨t,et,pt⟩:=Mh so kg (by omega);have mt:∀ k ∈ t,k < L.length∧hk L k=none∧bk L k < bk L w:=fun k hk'=>by
  obtain ⟨g,_,g2⟩:=pt.mem W k hk';have:=W.lt k g.1;exact ⟨g.1,g.2.2.1,by omega⟩
 have pw:t.Pairwise fun a b=>bk L a < bk L b:=List.Pairwise.imp_of_mem (fun {a b} ha hb' q=>by
  have:=W.lt a (mt a ha).1;omega) (pt.pw W)
 have nd:=cF.mpr ⟨fun z=>(pt.mem W w z).1.2.1 rfl,pw.imp fun {a b} q z=>by rw [z] at q;omega⟩;have tl:=List.Nodup.length_le_of_subset (l₂:=aB L.length) nd fun k hk'=>by
  rcases aY.mp hk' with rfl | z
  ·exact aQ.mpr hw
  ·exact aQ.mpr (mt k z).1
 rw [bH,aX] at tl;obtain ⟨rr,er,P,rw',rt⟩:=Av ok hM ef hw hn hr hf hB pt (by omega);refine ⟨t,rr,?_,P,rw',rt,pw,mt,by omega⟩;have c1:=yh ok hw hn;have c2:=vZ hr;have aw:=ay hw;have ab:=sV (n:=M) (c:=r) (fun s:Nat=>PyData.int (f s)) hr;have z1:decide (f r > bk L w)=false:=dFa (by omega);have ni:=zO (k:=bk L w) so.a;rw [kg] at ni;have fl:flats (nD t)=true:=gJ _ (fun _=>rfl) _;have ef:=ef;unfold dD;simp![ak,aC,c1,c2,ef,ab,aw,z1,eS,ni,et,fl,er,zl3]
theorem Mj {f:Nat→Int}:∀ {l1 l2:List Nat},l1.Pairwise (fun a b=>f a < f b)→l2.Pairwise (fun a b=>f a < f b)→(∀ x,x ∈ l1↔x ∈ l2)→l1=l2
 | [],[],_,_,_=>rfl
 | [],b :: _,_,_,h=>absurd ((h b).mpr aK) d_
 | a :: _,[],_,_,h=>absurd ((h a).mp aK) d_
 | a :: l1,b :: l2,p1,p2,h=>by
  obtain ⟨a1,a2⟩:=eY.mp p1;obtain ⟨b1,b2⟩:=eY.mp p2;have ab:a=b:=by
   rcases aY.mp ((h a).mp aK) with z | z
   ·exact z
   ·rcases aY.mp ((h b).mpr aK) with y | y
    ·exact y.symm
    ·have:=b1 a z;have:=a1 b y;omega
  subst ab;rw [Mj a2 b2 fun x=>⟨fun hx=>by
   rcases aY.mp ((h x).mp (aM _ hx)) with z | z
   ·have:=a1 x hx;rw [z] at this;omega
   ·exact z,fun hx=>by
   rcases aY.mp ((h x).mpr (aM _ hx)) with z | z
   ·have:=b1 x hx;rw [z] at this;omega
   ·exact z⟩]
theorem wg (P:List Nat) (f:Nat→Int):(Lq P f).Perm P∧(Lq P f).Pairwise fun a b=>f a ≤ f b:=by
 obtain ⟨L',e,p,s⟩:=xY P f;rw [Di] at e;have:Lq P f=L':=List.map_inj_right (fun a b q=>by injection q with q;omega) |>.mp e
 rw [this];exact ⟨p,s⟩
theorem Ml:ly 1 (.str "yes"):=⟨by decide +kernel,by simp [PyData.depth]⟩
end
theorem Mp (a b c d:Int):nq [.tuple [.int a,.int b],.tuple [.int c,.int d]]=some (.bool (!decide ((if d < b then d else b) ≤ (if c > a then c else a)))):=by
 unfold nq Com.nq Com.pJ;generalize hx:(if d < b then d else b)=x;generalize hy:(if c > a then c else a)=y;by_cases z:x ≤ y
 ·have nn:isNone .none=true:=rfl;simp![ak,aC,au,aA,aF,aG,aH,at0,at1,GX,xO,hx,hy,dTr z,nn]
 ·have nn:isNone (.tuple [.int y,.int x])=false:=rfl;simp![ak,aC,au,aA,aF,aG,aH,at0,at1,GX,xO,hx,hy,dFa z,nn,fli,zl2]
theorem Mq {L:List Ty} {M:Nat} {k:Nat} {v:Int}:∃ b,cP [.tuple [.int (bk L k),.int (ek L k),hD (hk L k)],.int v,.int (M:Int)]=some (.bool b)∧(b=true↔(∀ r,hk L k=some r→(r:Int)=v)∧(hk L k=none→0 ≤ v∧v < (M:Int))):=by
 cases hh:hk L k with
 | none =>
  have nn:isNone (hD none)=true:=rfl;by_cases c1:0 ≤ v
  ·by_cases c2:v < (M:Int)
   ·refine ⟨true,?_,⟨fun _=>⟨fun _ z=>(by cases z),fun _=>⟨c1,c2⟩⟩,fun _=>rfl⟩⟩;unfold cP Com.cP;simp![ak,aC,au,aA,aF,aG,aH,at2,nn,dTr c1,dTr c2]
   ·refine ⟨false,?_,⟨fun z=>(by cases z),fun z=>absurd (z.2 rfl).2 c2⟩⟩;unfold cP Com.cP;simp![ak,aC,au,aA,aF,aG,aH,at2,nn,dTr c1,dFa c2]
  ·refine ⟨false,?_,⟨fun z=>(by cases z),fun z=>absurd (z.2 rfl).1 c1⟩⟩;unfold cP Com.cP;simp![ak,aC,au,aA,aF,aG,aH,at2,nn,dFa c1]
 | some r =>
  have nn:isNone (hD (some r))=false:=rfl;have eq:gEq (.int v) (hD (some r))=some (.bool (decide (v=(r:Int)))):=rfl;refine ⟨decide (v=(r:Int)),?_,⟨fun z=>⟨fun r' z'=>(by cases z';exact (of_decide_eq_true z).symm),fun z'=>(by cases z')⟩,fun z=>dTr (z.1 r rfl).symm⟩⟩;unfold cP Com.cP;simp![ak,aC,au,aA,aF,aG,aH,at2,nn,eq]
theorem Ji {a b c d:Int} (h1:a < b) (h2:c < d):(!decide ((if d < b then d else b) ≤ (if c > a then c else a)))=true↔a < d∧c < b:=by
 rw [oH,decide_eq_false_iff_not];split <;> split <;> constructor <;> intro h <;> (try constructor) <;> omega
theorem Fw {L:List Ty} {M:Nat} {now:Int} (ok:TO0 L M now) {ds:List D} (hd:ds.length=L.length) (hI:∀ k,k < L.length→∃ w,ds[k]? = some (.int w)) {i:Nat} (hi:i < L.length) :
 ∃ b,iD [.list (L.map yD),.list ds,.int (i:Int)]=some (.bool b)∧(b=true↔∀ k,k < i→¬ (ds[k]? = ds[i]?∧bk L k < ek L i∧bk L i < ek L k)):=by
 have l24:=ok.len;obtain ⟨v,hv⟩:=hI i hi;have a0:pAt ds (i:Int)=some (.int v):=by rw [nu];exact hv
 have a1:=ay hi;have oi:bk L i < ek L i:=(ok.ok _ (cR hi)).1.1;have F:=vY (v:=.bool false) (g:=(gNl 3)) (b:=(sIf (D3.oA (bh (dOp gEq (dOp gIx (aj 1) (aj 3)) (dOp gIx (aj 1) (aj 2)))) (bh (dCall nq (aq (dCall b_ (aq (dOp gIx (aj 0) (aj 3)) (aZ))) (aq (dCall b_ (aq (dOp gIx (aj 0) (aj 2)) (aZ))) (aZ)))))) (cL (dC (.bool false))) (dG)))
  (fun _ δ=>∃ x,δ=[some (.d (.list (L.map yD))),some (.d (.list ds)),some (.d (.int (i:Int))),x]) (fun k=>¬ (ds[k]? = ds[i]?∧bk L k < ek L i∧bk L i < ek L k)) (fO 0 (i:Int))
  [some (.d (.list (L.map yD))),some (.d (.list ds)),some (.d (.int (i:Int))),none] ⟨none,rfl⟩ (by
   rintro k d δ hd'' _ ⟨y,rfl⟩;obtain ⟨hk',rfl⟩:=xR hd'';have hk':k < i:=by omega
   obtain ⟨w,hw⟩:=hI k (by omega);have b0:pAt ds (k:Int)=some (.int w):=by rw [nu];exact hw
   have b1:=ay (L:=L) (k:=k) (by omega);have ok':bk L k < ek L k:=(ok.ok _ (cR (by omega))).1.1;have mt:=Mp (bk L k) (ek L k) (bk L i) (ek L i);have mi:=Ji ok' oi;refine ⟨[some (.d (.list (L.map yD))),some (.d (.list ds)),some (.d (.int (i:Int))),some (.d (.int (k:Int)))],rfl,?_⟩;generalize (!decide ((if ek L i < ek L k then ek L i else ek L k) ≤ (if bk L i > bk L k then bk L i else bk L k)))=m at mt mi;rw [hw,hv];by_cases d1:w=v
   ·cases m with
    | true =>
     refine .inr ⟨fun z=>z ⟨by rw [d1],mi.mp rfl⟩,?_⟩;simp![ak,aC,au,aA,aF,aG,aH,a0,b0,a1,b1,dTr d1,nM,mt]
    | false =>
     refine .inl ⟨fun z=>(by have:=mi.mpr z.2;cases this),[some (.d (.list (L.map yD))),some (.d (.list ds)),some (.d (.int (i:Int))),some (.d (.int (k:Int)))],?_,_,rfl⟩;simp![ak,aC,au,aA,aF,aG,aH,a0,b0,a1,b1,dTr d1,nM,mt]
   ·refine .inl ⟨fun z=>d1 (by have:=z.1;injection this with this;injection this),[some (.d (.list (L.map yD))),some (.d (.list ds)),some (.d (.int (i:Int))),some (.d (.int (k:Int)))],?_,_,rfl⟩;simp![ak,aC,au,aA,aF,aG,aH,a0,b0,dFa d1])
 have r0:=Lz i (by omega);rw [oX,fG] at F;rcases F with ⟨δ',e,⟨x,rfl⟩,al⟩ | ⟨e,j,j1,j2⟩
 ·refine ⟨true,?_,⟨fun _=>al,fun _=>rfl⟩⟩;unfold iD Com.iD;simp![ak,aC,au,aA,aF,aG,aH,r0];rw [e];simp![ak,aC,au,aA,aF,aG,aH]
 ·refine ⟨false,?_,⟨fun z=>(by cases z),fun z=>absurd (z j j1) j2⟩⟩;unfold iD Com.iD;simp![ak,aC,au,aA,aF,aG,aH,r0];rw [e];simp![ak,aC,au,aA,aF,aG,aH]
theorem Jj {L:List Ty} {M:Nat} {now:Int} (ok:TO0 L M now) {ds:List D} (hd:ds.length=L.length) (hI:∀ k,k < L.length→∃ w,ds[k]? = some (.int w)) (hw:eV [.list ds]=some (.bool true)) :
 ∃ b,gM [.list (L.map yD),.int (M:Int),.int now,.list ds]=some (.bool b)∧(b=true↔∀ i,i < L.length→Pk L M ds i):=by
 have l24:=ok.len;have en:jW (L.map yD)=(aB L.length).map fun p:Nat=>PyData.tuple [.int (p:Int),.tuple [.int (bk L p),.int (ek L p),hD (hk L p)]]:=by
  rw [jx,xZ];rfl
 have F:=vY (v:=.bool false) (g:=(gTn 2 (cH (gNl 4) (cH (gNl 5) (ji))))) (b:=(sIf (D3.tOr (D3.lU (bh (dCall cP (aq (aj 5) (aq (dOp gIx (aj 3) (aj 4)) (aq (aj 1) (aZ))))))) (D3.lU (bh (dCall iD (aq (aj 0) (aq (aj 3) (aq (aj 4) (aZ)))))))) (cL (dC (.bool false))) (dG)))
  (fun _ δ=>∃ x y,δ=[some (.d (.list (L.map yD))),some (.d (.int (M:Int))),some (.d (.int now)),some (.d (.list ds)),x,y]) (Pk L M ds) ((aB L.length).map fun p:Nat=>PyData.tuple [.int (p:Int),.tuple [.int (bk L p),.int (ek L p),hD (hk L p)]])
  [some (.d (.list (L.map yD))),some (.d (.int (M:Int))),some (.d (.int now)),some (.d (.list ds)),none,none] ⟨none,none,rfl⟩ (by
   rintro i d δ hd' _ ⟨x,y,rfl⟩;rw [aP] at hd';by_cases hi:i < L.length
   case neg=>rw [bF (by simpa using hi)] at hd';cases hd'
   rw [cj hi] at hd'
   cases hd';obtain ⟨v,hv⟩:=hI i hi;have a0:pAt ds (i:Int)=some (.int v):=by rw [nu];exact hv
   obtain ⟨b1,e1,i1⟩:=Mq (L:=L) (M:=M) (k:=i) (v:=v);obtain ⟨b2,e2,i2⟩:=Fw ok hd hI hi;have pk:Pk L M ds i↔b1=true∧b2=true:=by
    rw [i1,i2]
    constructor
    ·rintro ⟨w,z1,z2,z3,z4,z5⟩;rw [hv] at z1
     cases z1;exact ⟨⟨z4,fun _=>⟨z2,z3⟩⟩,z5⟩
    ·rintro ⟨⟨z1,z2⟩,z3⟩;refine ⟨v,hv,?_,?_,z1,z3⟩
     ·cases hh:hk L i with
      | none=>exact (z2 hh).1
      | some r=>have:=z1 r hh;omega
     ·cases hh:hk L i with
      | none=>exact (z2 hh).2
      | some r =>
       have:=z1 r hh;have:=((ok.ok _ (cR hi)).2.1 r hh).1;omega
   refine ⟨[some (.d (.list (L.map yD))),some (.d (.int (M:Int))),some (.d (.int now)),some (.d (.list ds)),some (.d (.int (i:Int))),some (.d (.tuple [.int (bk L i),.int (ek L i),hD (hk L i)]))],rfl,?_⟩;rw [pk]
   cases b1 with
   | false =>
    refine .inr ⟨fun z=>(by cases z.1),?_⟩;simp![ak,aC,au,aA,aF,aG,aH,a0,e1]
   | true =>
    cases b2 with
    | false =>
     refine .inr ⟨fun z=>(by cases z.2),?_⟩;simp![ak,aC,au,aA,aF,aG,aH,a0,e1,e2]
    | true =>
     refine .inl ⟨⟨rfl,rfl⟩,[some (.d (.list (L.map yD))),some (.d (.int (M:Int))),some (.d (.int now)),some (.d (.list ds)),some (.d (.int (i:Int))),some (.d (.tuple [.int (bk L i),.int (ek L i),hD (hk L i)]))],?_,_,_,rfl⟩;simp![ak,aC,au,aA,aF,aG,aH,a0,e1,e2])
 have eL:gNe (.int (ds.length:Int)) (.int (L.length:Int))=some (.bool false):=by rw [Q6,hd];simp
 rw [aD,aX] at F;have ck:=yc ok;rcases F with ⟨δ',e,⟨x,y,rfl⟩,al⟩ | ⟨e,j,j1,j2⟩
 ·refine ⟨true,?_,⟨fun _=>al,fun _=>rfl⟩⟩;unfold gM;simp![ak,aC,au,aA,aF,aG,aH,ck,hw,LC,eL,en];rw [e];simp![ak,aC,au,aA,aF,aG,aH]
 ·refine ⟨false,?_,⟨fun z=>(by cases z),fun z=>absurd (z j j1) j2⟩⟩;unfold gM;simp![ak,aC,au,aA,aF,aG,aH,ck,hw,LC,eL,en];rw [e];simp![ak,aC,au,aA,aF,aG,aH]
section
variable {L:List Ty} {M:Nat} {now:Int}
def ks (S:List (Int × D)):List Int:=qd (S.map (·.1))
theorem uV {S:List (Int × D)} {x:Int}:x ∈ ks S↔(eO S x).isSome=true:=by
 unfold ks;rw [(jg _).mem_iff,Ar]
theorem Xz {S:List (Int × D)} (h:(S.map (·.1)).Nodup):(ks S).Pairwise (· < ·):=by
 have nd:(ks S).Nodup:=(jg _).nodup_iff.mpr h;refine ((oN _).and nd).imp fun {a b} q=>?_
 have:=q.1;have:=q.2;omega
theorem Sok.rg {w:Nat} {B:Int} {S:List (Int × D)} (h:Sok L M w B S) (hB:B ≤ bk L w) {x:Int} (hx:(eO S x).isSome=true):B ≤ x∧x ≤ bk L w:=by
 obtain ⟨d,ed⟩:=bR.mp hx;rcases h.c x d ed with ⟨rfl,_⟩ | ⟨y,p,_,y1,y2,y3,_,y5⟩
 ·exact ⟨d7 _,hB⟩
 ·refine ⟨by omega,?_⟩
  cases p with
  | none =>
   have:x=y + 1:=y5.2;omega
  | some k =>
   have h1:ek L k=x:=y5.2.2;have h2:ek L k ≤ bk L w:=y5.1.2.2.2;omega
theorem Sok.len {w:Nat} {B:Int} {S:List (Int × D)} (h:Sok L M w B S) (hB:B ≤ bk L w) (g4:bk L w ≤ B + 59):S.length ≤ 60:=by
 have:=List.Nodup.length_le_of_subset (l₂:=(aB 60).map fun k:Nat=>B + (k:Int)) h.nd fun x hx=>by
  obtain ⟨h1,h2⟩:=h.rg hB (Ar.mpr hx);exact dR.mpr ⟨(x - B).toNat,aQ.mpr (by omega),by omega⟩
 rwa [aD,aD,aX] at this
theorem Mr {S:List (Int × D)} (hA:tvA S=true) (h:S.length < 64):ug [dtv S]=some (.list ((ks S).map .int)):=by
 unfold ug;dsimp only;rw [sI hA,aN,if_pos h];rfl
theorem XC:ly 1 (.str "no"):=⟨by decide +kernel,by simp [PyData.depth]⟩
theorem Qy (ok:TOk L M now) {w r:Nat} {f:Nat→Int} (hw:w < L.length) (hn:hk L w=none) (hr:r < M)
 (ef:cD [.list (L.map yD),.int (M:Int),.int now]=some (.list ((aB M).map fun s:Nat=>PyData.int (f s)))) (hB:bk L w < f r) :
 dD [.list (L.map yD),.int (M:Int),.int now,.int (w:Int),.int (r:Int)]=some (.tuple [.str "no", .list []]):=by
 have c1:=yh ok hw hn;have c2:=vZ hr;have aw:=ay hw;have ab:=sV (n:=M) (c:=r) (fun s:Nat=>PyData.int (f s)) hr;have z1:=dTr hB;have ef:=ef;unfold dD;simp![ak,aC,c1,c2,ef,ab,aw,z1,zl0,zl2]
theorem Qz (ok:TOk L M now) {w r:Nat} {f:Nat→Int} (hw:w < L.length) (hn:hk L w=none) (hr:r < M)
 (ef:cD [.list (L.map yD),.int (M:Int),.int now]=some (.list ((aB M).map fun s:Nat=>PyData.int (f s)))) (hB:f r ≤ bk L w)
 {S:List (Int × D)} (eS:fU [.list (L.map yD),.int (M:Int),.int (w:Int),.int (f r)]=some (dtv S)) (hA:tvA S=true) (hl:S.length < 64) (kg:(eO S (bk L w)).isSome=false) :
 dD [.list (L.map yD),.int (M:Int),.int now,.int (w:Int),.int (r:Int)]=some (.tuple [.str "no", .list ((ks S).map .int)]):=by
 have c1:=yh ok hw hn;have c2:=vZ hr;have aw:=ay hw;have ab:=sV (n:=M) (c:=r) (fun s:Nat=>PyData.int (f s)) hr;have z1:decide (f r > bk L w)=false:=dFa (by omega);have ef:=ef;have ni:=zO (k:=bk L w) hA;rw [kg] at ni;have ts:=Mr hA hl;unfold dD;simp![ak,aC,c1,c2,ef,ab,aw,z1,eS,ni,ts,zl2]
end
section
variable {L:List Ty} {M:Nat} {now:Int}
theorem inI (cs:List Int) (x:Int):gIn (.int x) (.list (cs.map .int))=some (.bool (decide (x ∈ cs))):=by
 show (if (SeqAt.shaped (.int x) && SeqAt.shaped (.list (cs.map .int)))=true then some (PyData.bool ((cs.map PyData.int).any fun z=>PyData.eqv z (.int x))) else none)=_;rw [shaped_ints cs,if_pos (by rfl),List.any_map];congr 2;rw [qy,List.any_eq_true,decide_eq_true_eq]
 constructor
 ·rintro ⟨y,h1,h2⟩;have h2:=h2;have:y=x:=by simpa [PyData.eqv] using h2
  rwa [← this]
 ·intro h;exact ⟨x,h,by show PyData.eqv (.int x) (.int x)=true;simp [PyData.eqv]⟩
theorem Fx (cs:List Int) (x:Int):qm (.int x) (.list (cs.map .int))=some (.bool (!decide (x ∈ cs))):=by
 have:=inI cs x;unfold gIn at this;unfold qm;dsimp only at this ⊢;split at this
 ·next c =>
  rw [if_pos c];injection this with this
  injection this with this
  rw [this]
 ·cases this
end
section
variable {L:List Ty} {M:Nat} {now:Int}
def Cl (L:List Ty) (M w:Nat) (B:Int) (K:Int→Prop):Prop:=K B∧∀ x,B ≤ x→x < bk L w→K x→∀ s ∈ stp L M w x,K s.1
def Rc (L:List Ty) (M w:Nat) (B:Int):Prop:=B ≤ bk L w∧∀ K,Cl L M w B K→K (bk L w)
theorem Sok.sound {w:Nat} {B:Int} {S:List (Int × D)} (so:Sok L M w B S) {K:Int→Prop} (hK:Cl L M w B K):∀ (m:Nat) (x:Int),(x - B).toNat ≤ m→(eO S x).isSome=true→K x:=by
 intro m
 induction m with
 | zero =>
  intro x hm hx;obtain ⟨d,ed⟩:=bR.mp hx;rcases so.c x d ed with ⟨rfl,_⟩ | ⟨y,p,_,y1,y2,_⟩
  ·exact hK.1
  ·omega
 | succ m ih =>
  intro x hm hx;obtain ⟨d,ed⟩:=bR.mp hx;rcases so.c x d ed with ⟨rfl,_⟩ | ⟨y,p,_,y1,y2,y3,y4,y5⟩
  ·exact hK.1
  ·exact hK.2 y y1 y3 (ih y (by omega) y4) _ (v8 (s:=(x,p)).mpr y5)
theorem zP {w:Nat} {B:Int} {S:List (Int × D)} (hB:B ≤ bk L w) (so:Sok L M w B S) (cl:∀ x,B ≤ x→x < bk L w→(eO S x).isSome=true→∀ s ∈ stp L M w x,(eO S s.1).isSome=true):(eO S (bk L w)).isSome=true↔Rc L M w B :=
 ⟨fun h=>⟨hB,fun K hK=>so.sound hK _ _ (bB _) h⟩,fun h=>h.2 (fun x=>(eO S x).isSome=true) ⟨by show (eO S B).isSome=true;rw [so.b];rfl,cl⟩⟩
def Sh (L:List Ty) (M w:Nat) (B:Int) (Q:List Int):Prop:=Q.Pairwise (· < ·)∧((bk L w < B∧Q=[])∨(B ≤ bk L w∧B ∈ Q∧(∀ x ∈ Q,B ≤ x∧x < bk L w)∧∀ x ∈ Q,∀ s ∈ stp L M w x,s.1 ∈ Q))
theorem Sh.no {w:Nat} {B:Int} {Q:List Int} (h:Sh L M w B Q):¬ Rc L M w B:=fun r=>by
 rcases h.2 with ⟨z,_⟩ | ⟨_,z1,z2,z3⟩
 ·have:=r.1;omega
 ·have:=r.2 (fun x=>x ∈ Q) ⟨z1,fun x _ _ hx s hs=>z3 x hx s hs⟩;have:=(z2 _ this).2;omega
theorem uW (ok:TOk L M now) (hM:M ≤ 12) (n0:0 ≤ now) {w r:Nat} {f:Nat→Int} (hw:w < L.length) (hn:hk L w=none) (hr:r < M)
 (ef:cD [.list (L.map yD),.int (M:Int),.int now]=some (.list ((aB M).map fun s:Nat=>PyData.int (f s)))) (hf:∀ s,s < M→(∃ k,k < L.length∧hk L k=some s∧f s=ek L k)∨((∀ k,k < L.length→hk L k ≠ some s)∧f s=now)) (nf:now ≤ f r) :
 (Rc L M w (f r)∧∃ (t:List Nat) (rr:Nat→Nat),dD [.list (L.map yD),.int (M:Int),.int now,.int (w:Int),.int (r:Int)]=some (.tuple [.str "yes", .list (nD t),.list (plD L.length fun k=>(rr k:Int))])∧Pn L M rr∧rr w=r ∧
  (∀ k,k < L.length→hk L k=none→bk L k < bk L w→(rr k=r↔k ∈ t))∧t.Pairwise (fun a b=>bk L a < bk L b)∧(∀ k ∈ t,k < L.length∧hk L k=none∧bk L k < bk L w)∧t.length < L.length) ∨
 (¬ Rc L M w (f r)∧∃ Q:List Int,dD [.list (L.map yD),.int (M:Int),.int now,.int (w:Int),.int (r:Int)]=some (.tuple [.str "no", .list (Q.map .int)])∧Q.length ≤ 63∧Sh L M w (f r) Q):=by
 have W:=wd ok hw hn hr hf;have g59:bk L w ≤ f r + 59:=by
  have h1:bk L w ≤ now + 59:=ok.nr _ (cR hw) hn;omega
 have fB:0 ≤ f r:=by omega
 by_cases hB:f r ≤ bk L w
 ·obtain ⟨S,eS,so,cl⟩:=yj ok hw fB hB;have ri:=zP hB so cl;have len:=so.len hB g59
  cases kg:(eO S (bk L w)).isSome with
  | true =>
   exact .inl ⟨ri.mp kg,Qx ok hM hw hn hr ef hf hB fB eS so kg⟩
  | false =>
   have em:=Qz ok hw hn hr ef hB eS so.a (by omega) kg;have hg:bk L w ∉ ks S:=fun z=>by rw [uV,kg] at z;cases z
   have kl:(ks S).length=S.length:=by unfold ks;rw [(jg _).length_eq,aD]
   refine .inr ⟨fun z=>(by rw [← ri,kg] at z;cases z),ks S,em,by omega,Xz so.nd,.inr ⟨hB,uV.mpr (by rw [so.b];rfl),fun x hx=>?_,fun x hx s hs=>uV.mpr ?_⟩⟩
   ·obtain ⟨x1,x2⟩:=so.rg hB (uV.mp hx);have:x ≠ bk L w:=fun z=>hg (z ▸ hx)
    omega
   ·obtain ⟨x1,x2⟩:=so.rg hB (uV.mp hx);have:x ≠ bk L w:=fun z=>hg (z ▸ hx)
    exact cl x x1 (by omega) (uV.mp hx) s hs
 ·have em:=Qy ok hw hn hr ef (by omega);exact .inr ⟨fun z=>hB z.1,[],em,by decide,.nil,.inl ⟨by omega,rfl⟩⟩
theorem Hh (Q:List Int) (h:Q.length ≤ 100000):eV [.list (Q.map .int)]=some (.bool true):=by
 have C:∀ δ0,eN (gNl 0) (D3.kJ) (dCall gQ (aq (aj 0) (aZ))) (jE 1 [] δ0) (Q.map .int)=some (Q.map fun _=>PyData.bool true):=fun δ0 =>
  Ak (fun k:Int=>PyData.int k) (fun _=>PyData.bool true) Q fun k _=>⟨[some (.d (.int k))],rfl,rfl,by
   have:=wh (.int k);simp![this];rfl⟩
 have al:Ed [.list (Q.map fun _=>PyData.bool true)]=some (.bool true):=by
  have:=allB (fun _:Int=>true) Q;rw [this,jR.mpr fun _ _=>rfl]
 have l1:(Q.map PyData.int).length ≤ 100000:=by rwa [aD]
 have i2:D3.isT "list" (tyD (.list (Q.map PyData.int)))=true:=rfl;have aw:iV [.list (Q.map .int)]=some (.bool true):=by
  unfold iV;simp![l1,V6,S8,C,al]
 unfold eV;simp![i2,aw]
def mnQ:List Int→Int
 | []=>0
 | x :: r=>mnI x r
def mxQ:List Int→Int
 | []=>0
 | x :: r=>mxI x r
theorem XF {l:List Int} (h:l ≠ []):Gn [.list (l.map .int)]=some (.int (mnQ l)):=by
 cases l with
 | nil=>exact absurd rfl h
 | cons x r =>
  show (match jL ((x :: r).map .int) with | some (i :: r)=>some (PyData.int (mnI i r)) | _=>none)=_;rw [lY];rfl
theorem XH {l:List Int} (h:l ≠ []):Gm [.list (l.map .int)]=some (.int (mxQ l)):=by
 cases l with
 | nil=>exact absurd rfl h
 | cons x r =>
  show (match jL ((x :: r).map .int) with | some (i :: r)=>some (PyData.int (mxI i r)) | _=>none)=_;rw [lY];rfl
theorem U5:∀ (r:List Int) (i:Int),mnI i r ∈ i :: r∧∀ x ∈ i :: r,mnI i r ≤ x:=wI
theorem U6:∀ (r:List Int) (i:Int),mxI i r ∈ i :: r∧∀ x ∈ i :: r,x ≤ mxI i r:=wJ
theorem Dj:∀ (l m:List Int),m6 (l.map .int) (m.map .int)=(l.zip m).map fun p=>PyData.tuple [.int p.1,.int p.2]
 | [],_=>rfl
 | _ :: _,[]=>rfl
 | a :: l,b :: m=>by
  show PyData.tuple [.int a,.int b] :: m6 (l.map .int) (m.map .int)=_;rw [Dj l m];rfl
def QB (Q:List Int):Bool:=(Q.zip (Q.drop 1)).all fun p=>decide (p.1 < p.2)
theorem U7 (Q:List Int) (h:Q.length ≤ 1000):iU [.list (Q.map .int)]=some (.bool (QB Q)):=by
 have ct:cutD (Q.map .int) (some 1) none=(Q.drop 1).map .int:=by rw [Xp (by decide),List.map_drop];rfl
 have C:∀ δ0,eN (gTn 2 (cH (gNl 0) (cH (gNl 1) (ji)))) (D3.kJ) (dOp gLt (aj 0) (aj 1)) (jE 2 [] δ0) ((Q.zip (Q.drop 1)).map fun p=>PyData.tuple [.int p.1,.int p.2])=some ((Q.zip (Q.drop 1)).map fun p=>PyData.bool (decide (p.1 < p.2))):=fun δ0 =>
  Ak (fun p:Int × Int=>PyData.tuple [.int p.1,.int p.2]) (fun p=>PyData.bool (decide (p.1 < p.2))) _ fun p _=>⟨[some (.d (.int p.1)),some (.d (.int p.2))],rfl,rfl,by simp![]⟩
 have al:=allB (fun p:Int × Int=>decide (p.1 < p.2)) (Q.zip (Q.drop 1));have l1:((Q.zip (Q.drop 1)).map fun p=>PyData.tuple [.int p.1,.int p.2]).length ≤ 100000:=by
  rw [aD,List.length_zip];omega
 show Com.iU _=_;unfold Com.iU;simp![ct,Dj,l1,C,al];rfl
theorem U8 {Q:List Int} (h:Q.Pairwise (· < ·)):QB Q=true:=by
 unfold QB;refine jR.mpr fun p hp=>dTr ?_
 obtain ⟨i,hi,ei⟩:=gW hp;rw [List.length_zip,jP] at hi;rw [List.getElem_zip] at ei;have i1:i < Q.length:=by omega
 have i2:i < (Q.drop 1).length:=by rw [jP];omega
 rw [← ei];show Q[i]'i1 < (Q.drop 1)[i]'i2;rw [List.getElem_drop];exact iH.mp h i (1 + i) (by omega) (by omega) (by omega)
theorem Jk {w:Nat} {Q:List Int} (hl:L.length ≤ 24) (hw:w < L.length):∃ b,gC [.list (L.map yD),.int (M:Int),.int (w:Int),.list (Q.map .int)]=some (.bool b)∧(b=true↔∀ x ∈ Q,∀ s ∈ stp L M w x,s.1 ∈ Q):=by
 have F:=vY (v:=.bool false) (g:=(gNl 4)) (b:=(mF (lu (dCall eU (aq (aj 0) (aq (aj 1) (aq (aj 2) (aq (aj 4) (aZ))))))) (gNl 5) (sIf (bh (dOp qm (dOp gIx (aj 5) (dC (.int 0))) (aj 3))) (cL (dC (.bool false))) (dG))))
  (fun _ δ=>∃ x y,δ=[some (.d (.list (L.map yD))),some (.d (.int (M:Int))),some (.d (.int (w:Int))),some (.d (.list (Q.map .int))),x,y]) (fun i=>∀ x,Q[i]? = some x→∀ s ∈ stp L M w x,s.1 ∈ Q) (Q.map .int)
  [some (.d (.list (L.map yD))),some (.d (.int (M:Int))),some (.d (.int (w:Int))),some (.d (.list (Q.map .int))),none,none] ⟨none,none,rfl⟩ (by
   rintro i d δ hd _ ⟨x',y,rfl⟩;rw [aP] at hd
   cases hx:Q[i]? with
   | none=>rw [hx] at hd;cases hd
   | some x =>
    rw [hx] at hd
    cases hd;have so:=Mf (M:=M) (x:=x) hl hw;refine ⟨[some (.d (.list (L.map yD))),some (.d (.int (M:Int))),some (.d (.int (w:Int))),some (.d (.list (Q.map .int))),some (.d (.int x)),y],rfl,?_⟩;have I:=vY (v:=.bool false) (g:=(gNl 5)) (b:=(sIf (bh (dOp qm (dOp gIx (aj 5) (dC (.int 0))) (aj 3))) (cL (dC (.bool false))) (dG)))
     (fun _ δ=>∃ y,δ=[some (.d (.list (L.map yD))),some (.d (.int (M:Int))),some (.d (.int (w:Int))),some (.d (.list (Q.map .int))),some (.d (.int x)),y]) (fun j=>∀ s,(stp L M w x)[j]? = some s→s.1 ∈ Q) ((stp L M w x).map pqD)
     [some (.d (.list (L.map yD))),some (.d (.int (M:Int))),some (.d (.int (w:Int))),some (.d (.list (Q.map .int))),some (.d (.int x)),y] ⟨y,rfl⟩ (by
      rintro j d δ hd _ ⟨y,rfl⟩;rw [aP] at hd
      cases hs:(stp L M w x)[j]? with
      | none=>rw [hs] at hd;cases hd
      | some s =>
       rw [hs] at hd
       cases hd;have i0:gIx (pqD s) (.int 0)=some (.int s.1):=rfl;have ni:=Fx Q s.1;refine ⟨[some (.d (.list (L.map yD))),some (.d (.int (M:Int))),some (.d (.int (w:Int))),some (.d (.list (Q.map .int))),some (.d (.int x)),some (.d (pqD s))],rfl,?_⟩;by_cases c:s.1 ∈ Q
       ·rw [dTr c] at ni;refine .inl ⟨fun s' e=>by cases e;exact c,[some (.d (.list (L.map yD))),some (.d (.int (M:Int))),some (.d (.int (w:Int))),some (.d (.list (Q.map .int))),some (.d (.int x)),some (.d (pqD s))],?_,_,rfl⟩;simp![i0,ni]
       ·rw [dFa c] at ni;refine .inr ⟨fun z=>c (z s rfl),?_⟩;simp![i0,ni])
    rw [aD] at I;rcases I with ⟨δ',e,⟨y',rfl⟩,al⟩ | ⟨e,j,j1,j2⟩
    ·refine .inl ⟨fun x' e' s hs=>?_,[some (.d (.list (L.map yD))),some (.d (.int (M:Int))),some (.d (.int (w:Int))),some (.d (.list (Q.map .int))),some (.d (.int x)),y'],?_,_,_,rfl⟩
     ·cases e';obtain ⟨j,hj,ej⟩:=gW hs;exact al j hj s (by rw [aV hj,ej])
     ·simp![so];exact e
    ·refine .inr ⟨fun z=>j2 fun s hs=>z x rfl s (cN hs),?_⟩;simp![so];exact e)
 rw [aD] at F;rcases F with ⟨δ',e,⟨x,y,rfl⟩,al⟩ | ⟨e,j,j1,j2⟩
 ·refine ⟨true,?_,⟨fun _ x hx s hs=>?_,fun _=>rfl⟩⟩
  ·show Com.gC _=_;unfold Com.gC;simp![ak];rw [e];simp![]
  ·obtain ⟨j,hj,ej⟩:=gW hx;exact al j hj x (by rw [aV hj,ej]) s hs
 ·refine ⟨false,?_,⟨fun z=>(by cases z),fun z=>absurd (fun x hx s hs=>z x (cN hx) s hs) j2⟩⟩;show Com.gC _=_;unfold Com.gC;simp![ak];rw [e];simp![]
theorem Jl (ok:TOk L M now) {w r:Nat} {f:Nat→Int} (hw:w < L.length) (hn:hk L w=none) (hr:r < M)
 (ef:cD [.list (L.map yD),.int (M:Int),.int now]=some (.list ((aB M).map fun s:Nat=>PyData.int (f s)))) {Q:List Int} (hl:Q.length ≤ 1000) :
 ∃ b,nJ [.list (L.map yD),.int (M:Int),.int now,.int (w:Int),.int (r:Int),.list (Q.map .int)]=some (.bool b)∧(Rc L M w (f r)→b=false)∧(Sh L M w (f r) Q→b=true):=by
 have c1:=yh ok hw hn;have c2:Com.fL _=_:=vZ hr;have aw:=ay hw;have ab:=sV (n:=M) (c:=r) (fun s:Nat=>PyData.int (f s)) hr;have ef:Com.cD _=_:=ef;have wl:=Hh Q (by omega);have ri:Com.iU _=_:=U7 Q hl;obtain ⟨bc,ec,ic⟩:=Jk (M:=M) (Q:=Q) ok.len hw;have ec:Com.gC _=_:=ec;unfold nJ
 cases hris:QB Q with
 | false =>
  rw [hris] at ri;refine ⟨false,?_,fun _=>rfl,fun z=>(by rw [U8 z.1] at hris;cases hris)⟩;simp![ak,aC,au,aA,aF,aG,aH,c1,c2,wl,ri,fV,nR]
 | true =>
  rw [hris] at ri;by_cases hB:bk L w < f r
  ·have z1:decide (f r > bk L w)=true:=dTr hB;have es:=eq_empty (ns:=Q);by_cases hq:Q=[]
   ·rw [dTr hq] at es;refine ⟨true,?_,fun z=>absurd z.1 (by omega),fun _=>rfl⟩;simp![ak,aC,au,aA,aF,aG,aH,c1,c2,wl,ri,fV,ef,ab,aw,at0,z1,zl0,es]
   ·rw [dFa hq] at es;refine ⟨false,?_,fun _=>rfl,fun z=>?_⟩
    ·simp![ak,aC,au,aA,aF,aG,aH,c1,c2,wl,ri,fV,ef,ab,aw,at0,z1,zl0,es]
    ·rcases z.2 with ⟨_,z⟩ | ⟨z,_⟩
     ·exact absurd z hq
     ·omega
  ·have z1:decide (f r > bk L w)=false:=dFa (by omega);have ni:=Fx Q (f r);by_cases hb:f r ∈ Q
   ·rw [dTr hb] at ni;have ne:Q ≠ []:=fun z=>by rw [z] at hb;cases hb
    have m1:=XF ne;have m2:=XH ne;obtain ⟨p1,p2⟩:(mnQ Q ∈ Q∧∀ x ∈ Q,mnQ Q ≤ x)∧mxQ Q ∈ Q∧∀ x ∈ Q,x ≤ mxQ Q:=by
     cases Q with
     | nil=>exact absurd rfl ne
     | cons q Q=>exact ⟨U5 Q q,U6 Q q⟩
    by_cases k1:mnQ Q < f r
    ·refine ⟨false,?_,fun _=>rfl,fun z=>?_⟩
     ·simp![ak,aC,au,aA,aF,aG,aH,c1,c2,wl,ri,fV,ef,ab,aw,at0,z1,ni,m1,dTr k1]
     ·rcases z.2 with ⟨z,_⟩ | ⟨_,_,z,_⟩
      ·omega
      ·have:=(z _ p1.1).1;omega
    ·by_cases k2:bk L w ≤ mxQ Q
     ·refine ⟨false,?_,fun _=>rfl,fun z=>?_⟩
      ·simp![ak,aC,au,aA,aF,aG,aH,c1,c2,wl,ri,fV,ef,ab,aw,at0,z1,ni,m1,dFa k1,m2,dTr k2]
      ·rcases z.2 with ⟨z,_⟩ | ⟨_,_,z,_⟩
       ·omega
       ·have:=(z _ p2.1).2;omega
     ·refine ⟨bc,?_,fun z=>?_,fun z=>ic.mpr ?_⟩
      ·simp![ak,aC,au,aA,aF,aG,aH,c1,c2,wl,ri,fV,ef,ab,aw,at0,z1,ni,m1,dFa k1,m2,dFa k2,ec]
      ·cases hbc:bc with
       | false=>rfl
       | true =>
        have:=z.2 (fun x=>x ∈ Q) ⟨hb,fun x _ _ hx s hs=>ic.mp hbc x hx s hs⟩;have:=p2.2 _ this;omega
      ·rcases z.2 with ⟨z,_⟩ | ⟨_,_,_,z⟩
       ·omega
       ·exact z
   ·rw [dFa hb] at ni;refine ⟨false,?_,fun _=>rfl,fun z=>?_⟩
    ·simp![ak,aC,au,aA,aF,aG,aH,c1,c2,wl,ri,fV,nR,ef,ab,aw,at0,z1,ni]
    ·rcases z.2 with ⟨z,_⟩ | ⟨_,z,_⟩
     ·omega
     ·exact absurd z hb
end
section
variable {L:List Ty} {M:Nat} {now:Int}
def rcB (L:List Ty) (M w:Nat) (B:Int):Bool:=@decide (Rc L M w B) (Classical.propDecidable _)
theorem Aw {w:Nat} {B:Int}:rcB L M w B=true↔Rc L M w B:=by
 unfold rcB;exact @decide_eq_true_iff _ (Classical.propDecidable _)
def due (L:List Ty) (M w:Nat) (f:Nat→Int) (n:Nat):List Nat:=(aB n).filter fun r=>rcB L M w (f r)
theorem XJ:gEq (.str "yes") (.str "yes")=some (.bool true):=Com.eq_self (Lf Ml (by decide))
theorem Zq:gEq (.str "no") (.str "yes")=some (.bool false):=by
 unfold gEq;rw [if_pos (by decide +kernel),show PyData.eqv (.str "no") (.str "yes")=false by decide +kernel]
theorem Ms (ok:TOk L M now) (hM:M ≤ 12) (n0:0 ≤ now) {w:Nat} {f:Nat→Int} (hw:w < L.length) (hn:hk L w=none)
 (ef:cD [.list (L.map yD),.int (M:Int),.int now]=some (.list ((aB M).map fun s:Nat=>PyData.int (f s)))) (hf:∀ s,s < M→(∃ k,k < L.length∧hk L k=some s∧f s=ek L k)∨((∀ k,k < L.length→hk L k ≠ some s)∧f s=now)) (nf:∀ r,r < M→now ≤ f r) :
 kE [.list (L.map yD),.int (M:Int),.int now,.int (w:Int)]=some (.list (nD (due L M w f M))):=by
 have C:eN (gNl 0) (bh (dOp gEq (dOp gIx (dCall dD (aq (aj 1) (aq (aj 2) (aq (aj 3) (aq (aj 4) (aq (aj 0) (aZ))))))) (dC (.int 0))) (dC (.str "yes")))) (cW (aj 0)) (jE 1 [0,1,2,3] [some (.d (.list (L.map yD))),some (.d (.int (M:Int))),some (.d (.int now)),some (.d (.int (w:Int)))]) (fO 0 (M:Int))=some (nD (due L M w f M)):=by
  rw [uq,fG];exact uo (fun k:Nat=>PyData.int (k:Int)) (fun r=>rcB L M w (f r)) (fun k:Nat=>PyData.int (k:Int)) (aB M) fun r hr=>⟨[some (.d (.int (r:Int))),some (.d (.list (L.map yD))),some (.d (.int (M:Int))),some (.d (.int now)),some (.d (.int (w:Int)))],rfl,by
   have hr:=aQ.mp hr;rcases uW ok hM n0 hw hn hr ef hf (nf r hr) with ⟨rc,t,rr,em,_⟩ | ⟨rc,Q,em,_⟩
   ·rw [Aw.mpr rc];simp![ak,aC,au,aA,aF,aG,aH,em,at0,XJ]
   ·rw [Bool.eq_false_iff.mpr fun z=>rc (Aw.mp z)];simp![ak,aC,au,aA,aF,aG,aH,em,at0,Zq],fun _=>by simp![ak,aC,au,aA,aF,aG,aH,fli]⟩
 have c1:=yh ok hw hn;have rg:qW (some [.int (M:Int)])=some (fO 0 (M:Int)):=Lz _ (by omega);have l2:(fO 0 (M:Int)).length ≤ 100000:=by rw [oX];omega
 unfold kE;simp![ak,aC,au,aA,aF,aG,aH,c1,rg,l2,C]
theorem uX (ok:TOk L M now) {rr:Nat→Nat} (P:Pn L M rr):gM [.list (L.map yD),.int (M:Int),.int now,.list (plD L.length fun k=>(rr k:Int))]=some (.bool true):=by
 have l24:=ok.len;have wl:=Hh ((aB L.length).map fun k=>(rr k:Int)) (by rw [aD,aX];omega);rw [dO] at wl;have wl:eV [.list (plD L.length fun k=>(rr k:Int))]=some (.bool true):=wl;obtain ⟨b,e,i⟩:=Jj (TO0.of ok) (ds:=plD L.length fun k=>(rr k:Int)) (U4 _ _) (fun k hk'=>⟨(rr k:Int),by
  unfold plD;rw [aP,cj hk'];rfl⟩) wl
 rw [i.mpr P.pk] at e;exact e
end
section
variable {L:List Ty} {M:Nat} {now:Int}
abbrev b0 (L:List Ty) (now:Int) (k:Nat):Int:=bk L k - now
abbrev e0 (L:List Ty) (now:Int) (k:Nat):Int:=ek L k - now
theorem Jm (ok:TO0 L M now) {f:Nat→Int} (hf:∀ r,r < M→(∃ k,k < L.length∧hk L k=some r∧f r=ek L k)∨((∀ k,k < L.length→hk L k ≠ some r)∧f r=now)) :
 Gr.GInv M (b0 L now) (e0 L now) (hel L) (hk L) (fun r=>f r - now):=by
 refine ⟨fun p hp=>?_,fun p hp=>?_,fun r hr=>?_,fun p hp q hq hpq hs=>?_⟩
 ·by_cases c:p < L.length
  ·cases h:hk L p with
   | none=>rfl
   | some r=>exact absurd (jy.mpr ⟨c,by rw [h];rfl⟩) hp
  ·exact Xx (by omega)
 ·obtain ⟨hp1,hp2⟩:=jy.mp hp;obtain ⟨r,hr⟩:=bR.mp hp2;have hrM:r < M:=((ok.ok _ (cR hp1)).2.1 r hr).1;refine ⟨r,hr,hrM,?_⟩;rcases hf r hrM with ⟨k,k1,k2,k3⟩ | ⟨k1,_⟩
  ·have:k=p:=rU ok.nd k1 hp1 k2 hr;rw [k3,this];exact d7 _
  ·exact absurd hr (k1 p hp1)
 ·rcases hf r hr with ⟨k,k1,k2,k3⟩ | ⟨_,k2⟩
  ·refine .inr ⟨k,jy.mpr ⟨k1,by rw [k2];rfl⟩,k2,?_⟩;rw [k3]
  ·left
   rw [k2];omega
 ·obtain ⟨hp1,hp2⟩:=jy.mp hp;obtain ⟨hq1,_⟩:=jy.mp hq;obtain ⟨r,hr⟩:=bR.mp hp2;exact absurd (rU ok.nd hp1 hq1 hr (hs.symm.trans hr)) hpq
theorem Dk (ok:TO0 L M now) (hM:M ≤ 12) (hm:∀ c,c < L.length→now ≤ bk L c→jw L (bk L c) ≤ M) {f:Nat→Int} (hf:∀ r,r < M→(∃ k,k < L.length∧hk L k=some r∧f r=ek L k)∨((∀ k,k < L.length→hk L k ≠ some r)∧f r=now)) :
 ∃ seat:Nat→Option Nat,lH [.list (L.map yD),.list ((aB L.length).map fun k=>hD (hk L k)),.list ((aB M).map fun r:Nat=>PyData.int (f r))]=some (.list ((aB L.length).map fun p=>hD (seat p))) ∧
  (∀ p,p < L.length→∃ r,seat p=some r∧r < M)∧(∀ p r,hk L p=some r→seat p=some r)∧∀ p q,p < L.length→q < L.length→p ≠ q→seat p=seat q→ek L p ≤ bk L q∨ek L q ≤ bk L p:=by
 have l24:=ok.len;obtain ⟨P,eP,pP,sP⟩:=tL (L:=L) (by omega);have nP:P.Nodup:=pP.nodup_iff.mpr (List.Pairwise.filter _ dJ);have mP:∀ p ∈ P,p < L.length∧hk L p=none:=fun p hp=>by
  obtain ⟨h1,h2⟩:=bx.mp (pP.mem_iff.mp hp);refine ⟨aQ.mp h1,?_⟩
  cases z:hk L p with
  | none=>rfl
  | some r =>
   have z:(tAt L p).2.2=some r:=z;rw [z] at h2
   cases h2
 have lt:∀ p,p < L.length→bk L p < ek L p:=fun p hp=>(ok.ok _ (cR hp)).1.1
 obtain ⟨δ',e,seat,fs,x,y,I,hH,rfl⟩:=jt (g:=(gNl 5)) (b:=(sIf (bh (dUn rF (dOp gIx (aj 3) (aj 5)))) (bQ (bM 6 (dCall fX (aq (aj 4) (aq (dOp gIx (dOp gIx (aj 0) (aj 5)) (dC (.int 0))) (aZ))))) (bQ (uK 3 (aj 5) (aj 6)) (uK 4 (aj 6) (dOp gIx (dOp gIx (aj 0) (aj 5)) (dC (.int 1)))))) (dG)))
  (fun i δ=>∃ (seat:Nat→Option Nat) (fs:Nat→Int) (x y:Option U),Gr.GInv M (b0 L now) (e0 L now) (hel L++P.take i) seat (fun r=>fs r - now)∧(∀ p r,hk L p=some r→seat p=some r) ∧
   δ=[some (.d (.list (L.map yD))),some (.d (.list ((aB L.length).map fun k=>hD (hk L k)))),some (.d (.list ((aB M).map fun r:Nat=>PyData.int (f r)))),some (.d (.list ((aB L.length).map fun p=>hD (seat p)))),some (.d (.list ((aB M).map fun r:Nat=>PyData.int (fs r)))),x,y]) (P.map fun i:Nat=>PyData.int (i:Int))
  [some (.d (.list (L.map yD))),some (.d (.list ((aB L.length).map fun k=>hD (hk L k)))),some (.d (.list ((aB M).map fun r:Nat=>PyData.int (f r)))),some (.d (.list ((aB L.length).map fun k=>hD (hk L k)))),some (.d (.list ((aB M).map fun r:Nat=>PyData.int (f r)))),none,none]
  ⟨hk L,f,none,none,by rw [rA,cU];exact Jm ok hf,fun _ _ h=>h,rfl⟩ (by
   rintro i d δ hd ⟨seat,fs,x,y,I,hH,rfl⟩;rw [aP] at hd
   cases hi:P[i]? with
   | none=>rw [hi] at hd;cases hd
   | some c =>
    rw [hi] at hd
    cases hd;have hiL:i < P.length:=(cT.mp hi).1;have et:P.take (i + 1)=P.take i++[c]:=by rw [iR,hi];rfl
    have sp:P=P.take i++c :: P.drop (i + 1):=by
     rw [aV hiL] at hi
     cases hi;rw [lq,jD]
    obtain ⟨hcn,hcf⟩:=mP c (cN hi);have nb:now ≤ bk L c:=(ok.ok _ (cR hcn)).2.2 hcf;have hc:c ∉ hel L++P.take i:=fun z=>by
     rcases aR.mp z with z | z
     ·have:=(jy.mp z).2;rw [hcf] at this
      cases this
     ·rw [sp] at nP;exact (k_.mp nP).2.2 c z c aK rfl
    have hb:∀ p ∈ hel L++P.take i,b0 L now p ≤ b0 L now c:=fun p hp=>by
     show bk L p - now ≤ bk L c - now;rcases aR.mp hp with z | z
     ·obtain ⟨h1,h2⟩:=jy.mp z;obtain ⟨r,hr⟩:=bR.mp h2;have:bk L p ≤ now:=((ok.ok _ (cR h1)).2.1 r hr).2.1;omega
     ·rw [sp] at sP;have:=(cZ.mp sP).2.2 p z c aK;omega
    have hd:∀ p ∈ hel L++P.take i,p < L.length:=fun p hp=>by
     rcases aR.mp hp with z | z
     ·exact (jy.mp z).1
     ·exact (mP p (rB z)).1
    have lc:=lt c hcn;have hcm:((aB L.length).filter (Gr.holds (b0 L now) (e0 L now) (b0 L now c))).length ≤ M:=by
     have e1:Gr.holds (b0 L now) (e0 L now) (b0 L now c)=Gr.holds (fun k=>(tAt L k).1) (fun k=>(tAt L k).2.1) (bk L c):=by
      funext p
      unfold Gr.holds;have q1:decide (b0 L now p ≤ b0 L now c)=decide ((tAt L p).1 ≤ bk L c):=decide_eq_decide.mpr (by show (tAt L p).1 - now ≤ bk L c - now↔_;omega);have q2:decide (b0 L now c < e0 L now p)=decide (bk L c < (tAt L p).2.1):=decide_eq_decide.mpr (by show bk L c - now < (tAt L p).2.1 - now↔_;omega);rw [q1,q2]
     rw [e1,← Lw];exact hm c hcn nb
    have hfr:∃ r,r < M∧fs r ≤ bk L c:=by
     obtain ⟨r,r1,r2⟩:=Gr.Jg I hc hcn hd hb (show 0 ≤ bk L c - now by omega) (show bk L c - now < ek L c - now by omega) hcm;exact ⟨r,r1,by have r2:fs r - now ≤ bk L c - now:=r2;omega⟩
    obtain ⟨r,r1,r2,r3⟩:=yd (show M ≤ 1000 by omega) hfr;have sc:seat c=none:=I.out c hc;have a1:=sV (fun p=>hD (seat p)) hcn;rw [sc] at a1;have a1:pAt ((aB L.length).map fun p=>hD (seat p)) (c:Int)=some .none:=a1;have nN:isNone .none=true:=rfl;have p1:=Fg (l:=(aB L.length).map fun p=>hD (seat p)) (by rw [aD,aX]) hcn;have p2:=Fg (l:=(aB M).map fun r:Nat=>PyData.int (fs r)) (by rw [aD,aX]) r1;have s1:=xU (n:=L.length) (c:=c) (d:=.int (r:Int)) (fun p=>hD (seat p));have s2:=xU (n:=M) (c:=r) (d:=.int (ek L c)) (fun r:Nat=>PyData.int (fs r));have ay:=ay hcn;refine ⟨_,[some (.d (.list (L.map yD))),some (.d (.list ((aB L.length).map fun k=>hD (hk L k)))),some (.d (.list ((aB M).map fun r:Nat=>PyData.int (f r)))),some (.d (.list (((aB L.length).map fun p=>hD (seat p)).set c (.int (r:Int))))),some (.d (.list (((aB M).map fun r:Nat=>PyData.int (fs r)).set r (.int (ek L c))))),some (.d (.int (c:Int))),some (.d (.int (r:Int)))],rfl,.inl ?_,?_⟩
    ·generalize (aB L.length).map (fun p=>hD (seat p))=SQ at *;generalize (aB L.length).map (fun k=>hD (hk L k))=SP at *;generalize (aB M).map (fun r:Nat=>PyData.int (fs r))=FF at *;generalize (aB M).map (fun r:Nat=>PyData.int (f r))=FB at *;simp![ak,aC,au,aA,aF,aG,aH,a1,nN,ay,at0,at1,r3,p1,p2,aN]
    ·refine ⟨fun p=>if p=c then some r else seat p,fun x=>if x=r then ek L c else fs x,some (.d (.int (c:Int))),some (.d (.int (r:Int))),?_,fun p r' hp=>?_,?_⟩
     ·rw [et,← jG];have st:=I.step hc r1 (show fs r - now ≤ bk L c - now by omega) (show bk L c - now < ek L c - now by omega);have:(fun x=>if x=r then e0 L now c else fs x - now)=fun x=>(if x=r then ek L c else fs x) - now:=by
       funext x
       by_cases z:x=r
       ·rw [if_pos z,if_pos z]
       ·rw [if_neg z,if_neg z]
      rw [this] at st;exact st
     ·have:p ≠ c:=fun z=>by rw [z,hcf] at hp;cases hp
      show (if p=c then some r else seat p)=_;rw [if_neg this];exact hH p r' hp
     ·rw [s1,s2];have q1:(fun p=>if p=c then PyData.int (r:Int) else hD (seat p))=fun p=>hD (if p=c then some r else seat p):=by
       funext p
       by_cases z:p=c
       ·rw [if_pos z,if_pos z];rfl
       ·rw [if_neg z,if_neg z]
      have q2:(fun x:Nat=>if x=r then PyData.int (ek L c) else PyData.int (fs x))=fun x=>PyData.int (if x=r then ek L c else fs x):=by
       funext x
       by_cases z:x=r
       ·rw [if_pos z,if_pos z]
       ·rw [if_neg z,if_neg z]
      rw [q1,q2])
 rw [aD,jf] at I;have all:∀ p,p < L.length→p ∈ hel L++P:=fun p hp=>by
  cases z:hk L p with
  | some r=>exact bD _ (jy.mpr ⟨hp,by rw [z];rfl⟩)
  | none =>
   refine aU _ (pP.mem_iff.mpr (bx.mpr ⟨aQ.mpr hp,?_⟩));have z:(tAt L p).2.2=none:=z;rw [z];rfl
 refine ⟨seat,?_,fun p hp=>?_,hH,fun p q hp hq ne hs=>?_⟩
 ·have fl:flats ((aB L.length).map fun p=>hD (seat p))=true:=gJ _ (fun p=>by cases seat p <;> rfl) _;unfold lH;simp![ak,aC,au,aA,aF,aG,aH,eP];rw [e];simp![ak,aC,au,aA,aF,aG,aH,xQ,fl]
 ·obtain ⟨r,h1,h2,_⟩:=I.inn p (all p hp);exact ⟨r,h1,h2⟩
 ·have:=I.dj p (all p hp) q (all q hq) ne hs;have:ek L p - now ≤ bk L q - now∨ek L q - now ≤ bk L p - now:=this;omega
end
section
variable {L:List Ty} {M:Nat} {now:Int}
def evT (L:List Ty) (rr:Nat→Nat) (now:Int) (k:Nat):Ty:=(bk L k,ek L k,if bk L k=now then some (rr k) else hk L k)
def evL (L:List Ty) (rr:Nat→Nat) (now:Int) (n:Nat):List Ty:=((aB n).filter fun k=>decide (now + 1 < ek L k)).map (evT L rr now)
theorem Hi {rr:Nat→Nat} {n:Nat}:(evL L rr now n).length ≤ n:=by
 unfold evL;rw [aD];have:=cQ (fun k=>decide (now + 1 < ek L k)) (aB n);rwa [aX] at this
theorem Mt {rr:Nat→Nat} {n:Nat}:evL L rr now (n + 1)=evL L rr now n++(if now + 1 < ek L n then [evT L rr now n] else []):=by
 unfold evL;rw [List.range_succ,jY,cV];congr 1;by_cases c:now + 1 < ek L n
 ·rw [if_pos c,dY (by simpa using c)];rfl
 ·rw [if_neg c,eZ (by simpa using c)];rfl
theorem evening {rr:Nat→Nat} (hl:L.length ≤ 24):fK [.list (L.map yD),.list (plD L.length fun k=>(rr k:Int)),.int now]=some (.list ((evL L rr now L.length).map yD)):=by
 have lL:(L.map yD).length=L.length:=aD _;have rg:qW (some [.int (L.length:Int)])=some (fO 0 (L.length:Int)):=Lz _ (by omega);obtain ⟨δ',e,u4,u5,u6,u7,rfl⟩:=jt (g:=(gNl 4)) (b:=(bQ (Ny (dOp gIx (aj 0) (aj 4)) (gTn 3 (cH (gNl 5) (cH (gNl 6) (cH (gNl 7) (ji)))))) (bQ (sIf (bh (dOp gEq (aj 5) (aj 2))) (bM 7 (dOp gIx (aj 1) (aj 4))) (dG)) (sIf (bh (dOp gGt (aj 6) (dOp i_ (aj 2) (dC (.int 1))))) (Ec 3 (dTup (aq (aj 5) (aq (aj 6) (aq (aj 7) (aZ)))))) (dG)))))
  (fun i δ=>∃ u4 u5 u6 u7:Option U,δ=[some (.d (.list (L.map yD))),some (.d (.list (plD L.length fun k=>(rr k:Int)))),some (.d (.int now)),some (.d (.list ((evL L rr now i).map yD))),u4,u5,u6,u7]) (fO 0 (L.length:Int))
  [some (.d (.list (L.map yD))),some (.d (.list (plD L.length fun k=>(rr k:Int)))),some (.d (.int now)),some (.d (.list [])),none,none,none,none] ⟨none,none,none,none,rfl⟩ (by
   rintro i d δ hd ⟨u4,u5,u6,u7,rfl⟩;obtain ⟨hi,rfl⟩:=xR hd;have hi:i < L.length:=by omega
   have a1:=ay hi;have a2:pAt (plD L.length fun k=>(rr k:Int)) (i:Int)=some (.int (rr i:Int)):=sV _ hi;have lA:((evL L rr now i).map yD).length < 1000000:=by
    rw [aD];have:=Hi (L:=L) (now:=now) (rr:=rr) (n:=i);omega
   rw [Mt];obtain ⟨o,ho⟩:∃ o,o=(if bk L i=now then some (rr i) else hk L i):=⟨_,rfl⟩;have eT:evT L rr now i=(bk L i,ek L i,o):=by rw [ho];rfl
   refine ⟨_,[some (.d (.list (L.map yD))),some (.d (.list (plD L.length fun k=>(rr k:Int)))),some (.d (.int now)),some (.d (.list ((evL L rr now i++if now + 1 < ek L i then [evT L rr now i] else []).map yD))),some (.d (.int (i:Int))),some (.d (.int (bk L i))),some (.d (.int (ek L i))),some (.d (hD o))],rfl,.inl ?_,_,_,_,_,rfl⟩;generalize plD L.length (fun k=>(rr k:Int))=PL at *;generalize L.map yD=YL at *;by_cases c1:bk L i=now
   ·have ho:o=some (rr i):=by rw [ho,if_pos c1]
    have hv:hD (some (rr i)) = .int (rr i:Int):=rfl;by_cases c2:now + 1 < ek L i
    ·rw [if_pos c2,cV,eT,ho];generalize (evL L rr now i).map yD=EE at *;simp![ak,aC,au,aA,aF,aG,aH,a1,a2,dTr c1,dTr c2,hv,zl3,lA];rfl
    ·rw [if_neg c2,cU,ho];generalize (evL L rr now i).map yD=EE at *;simp![ak,aC,au,aA,aF,aG,aH,a1,a2,dTr c1,dFa c2,hv]
   ·have ho:o=hk L i:=by rw [ho,if_neg c1]
    by_cases c2:now + 1 < ek L i
    ·rw [if_pos c2,cV,eT,ho];generalize (evL L rr now i).map yD=EE at *;simp![ak,aC,au,aA,aF,aG,aH,a1,a2,dFa c1,dTr c2,zl3,lA];rfl
    ·rw [if_neg c2,cU,ho];generalize (evL L rr now i).map yD=EE at *;simp![ak,aC,au,aA,aF,aG,aH,a1,a2,dFa c1,dFa c2])
 rw [oX,fG] at e;have fl:flats ((evL L rr now L.length).map yD)=true:=gJ _ (fun s=>ur s) _;show Com.fK _=_;unfold Com.fK;simp![ak,aC,au,aA,aF,aG,aH,zl0,lL,rg];rw [e];simp![ak,aC,au,aA,aF,aG,aH,xQ,fl]
theorem Fy {rr:Nat→Nat} {s:Ty}:s ∈ evL L rr now L.length↔∃ k,k < L.length∧now + 1 < ek L k∧evT L rr now k=s:=by
 unfold evL;rw [dR]
 constructor
 ·rintro ⟨k,hk',e⟩;obtain ⟨h1,h2⟩:=bx.mp hk';exact ⟨k,aQ.mp h1,of_decide_eq_true h2,e⟩
 ·rintro ⟨k,h1,h2,e⟩;exact ⟨k,bx.mpr ⟨aQ.mpr h1,dTr h2⟩,e⟩
theorem wj {rr:Nat→Nat} (ok:TO0 L M now) (P:Pn L M rr) {k r:Nat} (hk':k < L.length) (h:(evT L rr now k).2.2=some r):rr k=r∧bk L k ≤ now:=by
 have h:(if bk L k=now then some (rr k) else hk L k)=some r:=h;by_cases c:bk L k=now
 ·rw [if_pos c] at h;injection h with h
  exact ⟨h,by omega⟩
 ·rw [if_neg c] at h;exact ⟨P.held k r hk' h,((ok.ok _ (cR hk')).2.1 r h).2.1⟩
theorem XM {rr:Nat→Nat} (ok:TO0 L M now) (P:Pn L M rr):TO0 (evL L rr now L.length) M (now + 1):=by
 refine ⟨bY Hi ok.len,fun s hs=>?_,?_⟩
 ·obtain ⟨k,h1,h2,rfl⟩:=Fy.mp hs;have o:=ok.ok _ (cR h1);refine ⟨o.1,fun r hr=>?_,fun hn=>?_⟩
  ·obtain ⟨q1,q2⟩:=wj ok P h1 hr;have:=P.lt k h1;show r < M∧bk L k ≤ now + 1∧now + 1 < ek L k;omega
  ·have hn:(if bk L k=now then some (rr k) else hk L k)=none:=hn;show now + 1 ≤ bk L k;by_cases c:bk L k=now
   ·rw [if_pos c] at hn;cases hn
   ·rw [if_neg c] at hn;have:now ≤ bk L k:=o.2.2 hn;omega
 ·show List.Pairwise _ _;rw [List.pairwise_filterMap];unfold evL;rw [oG];refine List.Pairwise.imp_of_mem (R:=(· ≠ ·)) (fun {k l} mk ml ne r hr r' hr' z=>?_) (List.Pairwise.filter _ dJ);obtain ⟨k1,k2⟩:=bx.mp mk;obtain ⟨l1,l2⟩:=bx.mp ml;have k1:=aQ.mp k1;have l1:=aQ.mp l1;have k2:=of_decide_eq_true k2;have l2:=of_decide_eq_true l2;obtain ⟨a1,a2⟩:=wj ok P k1 hr;obtain ⟨c1,c2⟩:=wj ok P l1 hr';rcases P.dj k l k1 l1 ne (by rw [a1,c1,z]) with w | w <;> omega
theorem U9 {rr:Nat→Nat} (x:Int):jw (evL L rr now L.length) x ≤ jw L x:=by
 rw [Lw (L:=L)];unfold jw evL;rw [qH,aD];exact (List.Sublist.filter _ List.filter_sublist).length_le
end
def sD (s:Xg.Sp3):D:=.tuple [.int s.1,.int s.2.1,.int s.2.2]
structure Two (L:List Ty) (M:Nat) (now:Int) (h:Nat→Int):Prop where
 val:Xg.Valid (ssT L now) h
 bd:∀ k,k < L.length→0 ≤ h k∧h k < (M:Int)
 held:∀ k r,k < L.length→hk L k=some r→h k=(r:Int)
theorem Mu {L:List Ty} {M:Nat} {now:Int} {h o:Nat→Int} (ok:TOk L M now) (Th:Two L M now h) (To:Two L M now o) :
 ∃ (P:List Nat) (st:List Xg.Sp3),P.Perm (opn L)∧Xg.LInv (ssT L now) M h o P st∧Dc [.list (L.map yD),.int now,.list (plD L.length h),.list (plD L.length o)]=some (.list (st.map sD)):=by
 have l24:=ok.len;have K:=Xr ok;obtain ⟨P,eP,pP,sP⟩:=tL (L:=L) (by omega);have nP:P.Nodup:=pP.nodup_iff.mpr (dJ.filter _);have mP:∀ p,p ∈ P↔p < L.length∧(ssT L now).hld p=false:=fun p=>by
  rw [pP.mem_iff];unfold opn ssT;rw [bx,aQ];simp
 have I0:Xg.LInv (ssT L now) M h o [] []:=Xg.LInv.start Th.val (fun k hk' z=>by
  obtain ⟨r,e⟩:=bR.mp z;rw [Th.held k r hk' e,To.held k r hk' e]) Th.bd
 obtain ⟨δ',e,st,u6,u7,I,rfl⟩:=jt (g:=(gNl 6)) (b:=(sIf (bh (dOp gNe (dOp gIx (aj 5) (aj 6)) (dOp gIx (aj 3) (aj 6)))) (bQ (bM 7 (dTup (aq (dOp gIx (dOp gIx (aj 0) (aj 6)) (dC (.int 0))) (aq (dOp gIx (aj 5) (aj 6)) (aq (dOp gIx (aj 3) (aj 6)) (aZ)))))) (bQ (bM 5 (dCall gD (aq (aj 0) (aq (aj 5) (aq (aj 1) (aq (dOp gIx (aj 7) (dC (.int 0))) (aq (dOp gIx (aj 7) (dC (.int 1))) (aq (dOp gIx (aj 7) (dC (.int 2))) (aZ))))))))) (Ec 4 (aj 7)))) (dG)))
  (fun i δ=>∃ (st:List Xg.Sp3) (u6 u7:Option U),Xg.LInv (ssT L now) M h o (P.take i) st∧δ=[some (.d (.list (L.map yD))),some (.d (.int now)),some (.d (.list (plD L.length h))),some (.d (.list (plD L.length o))),some (.d (.list (st.map sD))),some (.d (.list (plD L.length (Xg.j_ (ssT L now) h st)))),u6,u7]) (P.map fun i:Nat=>PyData.int (i:Int))
  [some (.d (.list (L.map yD))),some (.d (.int now)),some (.d (.list (plD L.length h))),some (.d (.list (plD L.length o))),some (.d (.list [])),some (.d (.list (plD L.length h))),none,none] ⟨[],none,none,I0,rfl⟩ (by
   rintro i d δ hd ⟨st,u6,u7,I,rfl⟩;rw [aP] at hd
   cases hi:P[i]? with
   | none=>rw [hi] at hd;cases hd
   | some c =>
    rw [hi] at hd
    cases hd;have hiL:i < P.length:=(cT.mp hi).1;have et:P.take (i + 1)=P.take i++[c]:=by rw [iR,hi];rfl
    have sp:P=P.take i++c :: P.drop (i + 1):=by
     rw [aV hiL] at hi
     cases hi;rw [lq,jD]
    have hc:c ∉ P.take i:=fun z=>by
     rw [sp] at nP;exact (k_.mp nP).2.2 c z c aK rfl
    obtain ⟨hcn,hch⟩:=(mP c).mp (cN hi);have hb:∀ p ∈ P.take i,bk L p ≤ bk L c:=fun p hp=>by
     rw [sp] at sP;exact (cZ.mp sP).2.2 p hp c aK
    have hl:∀ k,k < L.length→(ssT L now).hld k=false→(ssT L now).fst k < (ssT L now).fst c→k ∈ P.take i:=fun k h1 h2 h3=>by
     have hm:=(mP k).mpr ⟨h1,h2⟩;have h3:bk L k < bk L c:=h3;rw [sp] at hm sP;rcases aR.mp hm with z | z
     ·exact z
     ·have hp2:=(cZ.mp sP).2.1;rcases aY.mp z with y | y
      ·rw [y] at h3;omega
      ·have:=(eY.mp hp2).1 k y;omega
    obtain ⟨g,hg⟩:∃ g,g=Xg.j_ (ssT L now) h st:=⟨_,rfl⟩;have ag:pAt (plD L.length g) (c:Int)=some (.int (g c)):=sV _ hcn;have ao:pAt (plD L.length o) (c:Int)=some (.int (o c)):=sV _ hcn;have ay:pAt (L.map yD) (c:Int)=some (.tuple [.int (bk L c),.int (ek L c),hD (hk L c)]):=by rw [jx,sV _ hcn];rfl
    by_cases z:g c=o c
    ·have z1:decide (g c=o c)=true:=dTr z;refine ⟨_,[some (.d (.list (L.map yD))),some (.d (.int now)),some (.d (.list (plD L.length h))),some (.d (.list (plD L.length o))),some (.d (.list (st.map sD))),some (.d (.list (plD L.length (Xg.j_ (ssT L now) h st)))),some (.d (.int (c:Int))),u7],rfl,.inl ?_,st,_,_,?_,rfl⟩
     ·rw [← hg];simp![ak,aC,au,aA,aF,aG,aH,ag,ao,z1,fV]
     ·rw [et];exact I.same (by rw [← hg];exact z)
    ·have z1:decide (g c=o c)=false:=dFa z;obtain ⟨so,I'⟩:=I.step K To.val To.bd hcn hch hl hb hc (by rw [← hg];exact z);have ex:=rT (L:=L) (now:=now) (t:=bk L c) (a:=g c) (b:=o c) (h:=g) (by omega) so.now (by rw [hg];exact so.ne) (by rw [hg];exact so.nh);have ln:(st.map sD).length < 1000000:=by
      have:=I.len;have h2:(P.take i).length ≤ P.length:=by rw [lN];omega
      have h3:P.length=(opn L).length:=pP.length_eq;have h4:=cQ (fun p=>!(tAt L p).2.2.isSome) (aB L.length);rw [aX] at h4;have h5:(opn L).length ≤ L.length:=h4;rw [aD];omega
     have fs:flat (sD (bk L c,g c,o c))=true:=rfl;refine ⟨_,[some (.d (.list (L.map yD))),some (.d (.int now)),some (.d (.list (plD L.length h))),some (.d (.list (plD L.length o))),some (.d (.list ((st++[(bk L c,g c,o c)]).map sD))),some (.d (.list (plD L.length (Xg.j_ (ssT L now) h (st++[(bk L c,g c,o c)]))))),some (.d (.int (c:Int))),some (.d (sD (bk L c,g c,o c)))],rfl,.inl ?_,st++[(bk L c,g c,o c)],_,_,?_,rfl⟩
     ·rw [Xg.pK,← hg,cV];show _=some (Oc.nx [_,_,_,_,some (.d (.list (st.map sD++[.tuple [.int (bk L c),.int (g c),.int (o c)]]))),some (.d (.list (plD L.length (Xg.swp (ssT L now) g (bk L c) (g c) (o c))))),_,some (.d (.tuple [.int (bk L c),.int (g c),.int (o c)]))]);simp![ak,aC,au,aA,aF,aG,aH,ag,ao,z1,nR,ay,at0,at1,at2,zl3,ex,ln]
     ·rw [et];rw [hg];exact I')
 rw [aD,jf] at I;refine ⟨P,st,pP,I,?_⟩;have fl:flats (st.map sD)=true:=gJ _ (fun _=>rfl) _;unfold Dc;simp![ak,aC,au,aA,aF,aG,aH,zl0,eP];rw [e];simp![ak,aC,au,aA,aF,aG,aH,xQ,fl]
theorem XQ {n m:Nat} (h:Nat→Int):ly (m + 2) (.list (plD n h)):=G4 (Al _ (fun _=>Lh) _)
section
variable {L:List Ty} {h:Nat→Int}
def inR (n:Nat) (h:Nat→Int) (r:Int):List Nat:=(aB n).filter fun k=>decide (h k=r)
theorem Hj (n:Nat) (h:Nat→Int) (r:Int):(inR n h r).length ≤ n:=by
 have:=cQ (fun k=>decide (h k=r)) (aB n);rwa [aX] at this
theorem QC {n:Nat} {h:Nat→Int} {r:Int} {p:Nat} (hp:p ∈ inR n h r):p < n:=aQ.mp (bx.mp hp).1
theorem Mv (hl:L.length ≤ 24) (r:Int):pO [.list (L.map yD),.list (plD L.length h),.int r]=some (.list ((Lq (inR L.length h r) (bk L)).map fun p:Nat=>PyData.int (p:Int))):=by
 have en:jW (plD L.length h)=(aB L.length).map fun p:Nat=>PyData.tuple [.int (p:Int),.int (h p)]:=xZ _
 have C1:eN (gTn 2 (cH (gNl 0) (cH (gNl 1) (ji)))) (bh (dOp gEq (aj 1) (aj 2))) (cW (aj 0)) (jE 2 [2] [some (.d (.list (L.map yD))),some (.d (.list (plD L.length h))),some (.d (.int r)),none]) (jW (plD L.length h))=some ((inR L.length h r).map fun p:Nat=>PyData.int (p:Int)):=by
  rw [en];exact uo (fun p:Nat=>PyData.tuple [.int (p:Int),.int (h p)]) (fun k=>decide (h k=r)) (fun p:Nat=>PyData.int (p:Int)) (aB L.length) fun p _=>⟨[some (.d (.int (p:Int))),some (.d (.int (h p))),some (.d (.int r))],rfl,by simp![ak,aC,au,aA,aF,aG,aH],fun _=>by simp![ak,aC,au,aA,aF,aG,aH,fli]⟩
 have el:(jW (plD L.length h)).length ≤ 100000:=by rw [en,aD,aX];omega
 have lo:=Hj L.length h r;have C2:eN (gNl 0) D3.kJ dK0 (jE 1 [0] [some (.d (.list (L.map yD))),some (.d (.list (plD L.length h))),some (.d (.int r)),some (.d (.list ((inR L.length h r).map fun p:Nat=>PyData.int (p:Int))))]) ((inR L.length h r).map fun p:Nat=>PyData.int (p:Int))=some (((inR L.length h r).map (bk L)).map PyData.int):=Q9 (L:=L) none (inR L.length h r) fun p hp=>QC hp
 have V:=zJ (l:=(inR L.length h r).map fun p:Nat=>PyData.int (p:Int)) (by rw [aD];omega) (gJ _ (fun _=>rfl) _) C2 (lY _);unfold pO;simp![ak,aC,au,aA,aF,aG,aH,el,C1,GP];rw [V];simp![ak,aC,au,aA,aF,aG,aH];rw [Di]
def B (L:List Ty) (h:Nat→Int) (x:Int):List Int:=((aB L.length).filter (Gr.holds (bk L) (ek L) x)).map h
def fre (M:Nat) (B:List Int):List Nat:=(aB M).filter fun r:Nat=>!decide ((r:Int) ∈ B)
theorem Dm (s:Ty):b_ [yD s]=some (.tuple [.int s.1,.int s.2.1]):=by
 unfold yD;show Com.b_ _=_;unfold Com.b_;simp![ak,aC,au,aA,aF,aG,aH,at0,at1,fli,zl2]
theorem Jo (a b x:Int):ig [.tuple [.int a,.int b],.int x]=some (.bool (decide (a ≤ x) && decide (x < b))):=by
 show Com.ig _=_;unfold Com.ig;by_cases h:a ≤ x
 ·simp![ak,aC,au,aA,aF,aG,aH,at0,at1,dTr h,iZ]
 ·simp![ak,aC,au,aA,aF,aG,aH,at0,at1,dFa h,f9]
theorem Jp {M:Nat} {x:Int} (hl:L.length ≤ 24) (hM:M ≤ 12):jC [.list (L.map yD),.list (plD L.length h),.int (M:Int),.int x]=some (.list ((fre M (B L h x)).map fun r:Nat=>PyData.int (r:Int))):=by
 have zn:m6 (L.map yD) (plD L.length h)=(aB L.length).map fun k=>PyData.tuple [yD (tAt L k),.int (h k)]:=by
  rw [jx];exact G8 _ _
 have C1:eN (gTn 2 (cH (gNl 0) (cH (gNl 1) (ji)))) (bh (dCall ig (aq (dCall b_ (aq (aj 0) (aZ))) (aq (aj 2) (aZ))))) (cW (aj 1)) (jE 2 [3] [some (.d (.list (L.map yD))),some (.d (.list (plD L.length h))),some (.d (.int (M:Int))),some (.d (.int x)),none]) (m6 (L.map yD) (plD L.length h))=some ((B L h x).map PyData.int):=by
  rw [zn];unfold B;rw [dO];exact uo (fun k=>PyData.tuple [yD (tAt L k),.int (h k)]) (Gr.holds (bk L) (ek L) x) (PyData.int ∘ h) (aB L.length) fun k _=>⟨[some (.d (yD (tAt L k))),some (.d (.int (h k))),some (.d (.int x))],rfl,by
   have e1:=Dm (tAt L k);have e2:=Jo (tAt L k).1 (tAt L k).2.1 x;simp![ak,aC,au,aA,aF,aG,aH,e1,e2];rfl,fun _=>by
   simp![ak,aC,au,aA,aF,aG,aH,fli];rfl⟩
 have zl:(m6 (L.map yD) (plD L.length h)).length ≤ 100000:=by rw [zn,aD,aX];omega
 have rgM:qW (some [.int (M:Int)])=some (fO 0 (M:Int)):=EY (by omega) (by omega);have rM:fO 0 (M:Int)=(aB M).map fun k:Nat=>PyData.int (k:Int):=by rw [uq];rfl
 have lrM:(fO 0 (M:Int)).length ≤ 100000:=by rw [oX];omega
 have C2:eN (gNl 0) (bh (dOp qm (aj 0) (aj 1))) (cW (aj 0)) (jE 1 [4] [some (.d (.list (L.map yD))),some (.d (.list (plD L.length h))),some (.d (.int (M:Int))),some (.d (.int x)),some (.d (.list ((B L h x).map PyData.int)))]) (fO 0 (M:Int))=some ((fre M (B L h x)).map fun r:Nat=>PyData.int (r:Int)):=by
  rw [rM];exact uo (fun k:Nat=>PyData.int (k:Int)) (fun r:Nat=>!decide ((r:Int) ∈ B L h x)) _ (aB M) fun r _=>⟨[some (.d (.int (r:Int))),some (.d (.list ((B L h x).map PyData.int)))],rfl,by
   have:=Fx (B L h x) (r:Int);simp![ak,aC,au,aA,aF,aG,aH,this],fun _=>by simp![ak,aC,au,aA,aF,aG,aH,fli]⟩
 show Com.jC _=_;unfold Com.jC;simp![ak,aC,au,aA,aF,aG,aH,zl,C1,rgM,lrM,C2]
end
section
variable {L:List Ty} {M:Nat} {now:Int}
theorem Jq (ok:TOk L M now) (hM:M ≤ 12):∃ rr:Nat→Nat,Pn L M rr∧rW [.list (L.map yD),.int (M:Int),.int now]=some (.list (plD L.length fun k=>(rr k:Int))):=by
 have l24:=ok.len;have ck:=yc (TO0.of ok);have cf:=Hf ok;obtain ⟨f,ef,hf⟩:=tM (TO0.of ok) hM;obtain ⟨seat,es,s1,s2,s3⟩:=Dk (TO0.of ok) hM (fun c hc h=>uw ok (cR hc) h) hf;have sl:(aB L.length).map (fun p=>hD (seat p))=plD L.length fun p=>(((seat p).getD 0:Nat):Int):=G7 fun p hp=>by
  obtain ⟨r,hr,_⟩:=s1 p hp;show hD (seat p)=PyData.int (((seat p).getD 0:Nat):Int);rw [hr];rfl
 rw [sl] at es;have C:=Ra (L:=L) _ _ _ rfl rfl rfl;have len:(L.map yD).length ≤ 100000:=by rw [aD];omega
 refine ⟨fun p=>(seat p).getD 0,⟨fun k hk'=>?_,fun k r hk' hr=>?_,fun p q hp hq ne e=>s3 p q hp hq ne ?_⟩,?_⟩
 ·obtain ⟨r,hr,hrM⟩:=s1 k hk';show (seat k).getD 0 < M;rw [hr];exact hrM
 ·show (seat k).getD 0=r;rw [s2 k r hr];rfl
 ·obtain ⟨r,hr,_⟩:=s1 p hp;obtain ⟨r',hr',_⟩:=s1 q hq;have e:(seat p).getD 0=(seat q).getD 0:=e;rw [hr,hr'] at e;rw [hr,hr',show r=r' from e]
 ·unfold rW;simp![ak,aC,au,aA,aF,aG,aH,ck,cf,len,C,ef,es]
theorem Pn.two {rr:Nat→Nat} (P:Pn L M rr):Two L M now fun k=>(rr k:Int) :=
 ⟨fun k l k1 l1 ne a b z=>by
  have a:bk L k < ek L l:=a;have b:bk L l < ek L k:=b;have z:(rr k:Int)=(rr l:Int):=z;rcases P.dj k l k1 l1 ne (by omega) with w | w <;> omega,fun k k1=>by
  have:=P.lt k k1;show 0 ≤ (rr k:Int)∧(rr k:Int) < M;omega,fun k r k1 h=>by show (rr k:Int)=r;rw [P.held k r k1 h]⟩
theorem Rf (ok:TOk L M now) (n0:0 ≤ now) {w r:Nat} {f:Nat→Int} {rr:Nat→Nat} (hw:w < L.length) (hn:hk L w=none) (hr:r < M) (hf:∀ s,s < M→(∃ k,k < L.length∧hk L k=some s∧f s=ek L k)∨((∀ k,k < L.length→hk L k ≠ some s)∧f s=now)) (nf:now ≤ f r)
 (P:Pn L M rr) (e:rr w=r):Rc L M w (f r):=by
 have T:=P.two (now:=now);obtain ⟨hB,key⟩:=Mi ok hw hn hr hf T.val T.bd T.held (by show (rr w:Int)=r;rw [e]);obtain ⟨S,eS,so,cl⟩:=yj ok hw (by omega) hB;exact (zP hB so cl).mp (key S so cl)
theorem Mw (ok:TOk L M now) {f:Nat→Int} (hf:∀ s,s < M→(∃ k,k < L.length∧hk L k=some s∧f s=ek L k)∨((∀ k,k < L.length→hk L k ≠ some s)∧f s=now)):∀ r,r < M→now ≤ f r:=fun r hr=>by
 rcases hf r hr with ⟨k,k1,k2,k3⟩ | ⟨_,k3⟩
 ·have:now < ek L k:=((ok.ok _ (cR k1)).2.1 r k2).2.2;omega
 ·omega
theorem Two.swp {g:Nat→Int} {t a b:Int} (ok:TOk L M now) (T:Two L M now g) (so:Xg.Jb (ssT L now) M g (t,a,b)):Two L M now (Xg.swp (ssT L now) g t a b) :=
 ⟨Xg.G6 T.val so.nh,fun k k1=>by
  have h1:=T.bd k k1;have a0:0 ≤ a:=so.a0;have a1:a < M:=so.a1;have b0:0 ≤ b:=so.b0;have b1:b < M:=so.b1;unfold Xg.swp;split
  ·exact h1
  ·split
   ·exact ⟨b0,b1⟩
   ·split
    ·exact ⟨a0,a1⟩
    ·exact h1,fun k r k1 h=>by
  have e:=T.held k r k1 h;have hl:(ssT L now).hld k=true:=by show (hk L k).isSome=true;rw [h];rfl
  have lt:bk L k < ek L k:=(ok.ok _ (cR k1)).1;unfold Xg.swp;split
  ·exact e
  ·next c =>
   have c:¬ bk L k < t:=c;have nn:=fun y=>so.nh k k1 y ⟨.inl hl,(by show t < ek L k;omega)⟩
   rw [if_neg fun y=>nn (.inl y),if_neg fun y=>nn (.inr y)];exact e⟩
theorem two_plan {g:Nat→Int} (ok:TOk L M now) (T:Two L M now g):gM [.list (L.map yD),.int (M:Int),.int now,.list (plD L.length g)]=some (.bool true):=by
 have e:plD L.length g=plD L.length fun k=>(((g k).toNat:Nat):Int):=G7 fun k hk'=>by
  have:=(T.bd k hk').1;show PyData.int (g k)=PyData.int (((g k).toNat:Nat):Int);rw [Int.toNat_of_nonneg this]
 rw [e];refine uX ok ⟨fun k k1=>?_,fun k r k1 h=>?_,fun p q p1 q1 ne z=>?_⟩
 ·have:=T.bd k k1;omega
 ·have:=T.held k r k1 h;omega
 ·have hp:=T.bd p p1;have hq:=T.bd q q1;have v:=T.val p q p1 q1 ne;have v:bk L p < ek L q→bk L q < ek L p→g p ≠ g q:=v;rcases kZ (bk L p) (ek L q) with c | c
  ·rcases kZ (bk L q) (ek L p) with d | d
   ·exact absurd (by omega) (v c d)
   ·exact .inl d
  ·exact .inr c
theorem Mx {h o:Nat→Int} (ok:TOk L M now) (Th:Two L M now h) (To:Two L M now o) :
 jV [.list (L.map yD),.int (M:Int),.int now,.list (plD L.length h),.list (plD L.length o)]=some (.bool true):=by
 have l24:=ok.len;obtain ⟨P,st,pP,I,eL⟩:=Mu ok Th To;have lst:st.length ≤ (opn L).length:=by rw [← pP.length_eq];exact I.len
 have C:∀ δ0,eN (gNl 0) (bh (dUn rF (dOp gIx (aj 0) (dC (.int 2))))) (cW (aj 0)) (jE 1 [] δ0) (L.map yD)=some ((opn L).map fun k=>yD (tAt L k)):=fun δ0=>by
  rw [jx];exact uo (fun k=>yD (tAt L k)) (fun p=>!(tAt L p).2.2.isSome) (fun k=>yD (tAt L k)) (aB L.length) fun p _=>⟨[some (.d (yD (tAt L p)))],rfl,by
   have:=xV (tAt L p).2.2;unfold yD;simp![ak,aC,au,aA,aF,aG,aH,at2,this],fun _=>by simp![ak,aC,au,aA,aF,aG,aH,ur]⟩
 obtain ⟨δ',e,u7,u8,u9,T9,rfl⟩:=jt (g:=(gTn 3 (cH (gNl 7) (cH (gNl 8) (cH (gNl 9) (ji)))))) (b:=(bQ (bM 6 (dCall gD (aq (dUn gY (aj 0)) (aq (aj 6) (aq (aj 2) (aq (aj 7) (aq (aj 8) (aq (aj 9) (aZ))))))))) (sIf (bh (dUn rJ (dCall gM (aq (dUn gY (aj 0)) (aq (aj 1) (aq (aj 2) (aq (aj 6) (aZ)))))))) (cL (dC (.bool false))) (dG))))
  (fun i δ=>∃ u7 u8 u9:Option U,Two L M now (Xg.j_ (ssT L now) h (st.take i))∧δ=[some (.d (.list (L.map yD))),some (.d (.int (M:Int))),some (.d (.int now)),some (.d (.list (plD L.length h))),some (.d (.list (plD L.length o))),some (.d (.list (st.map sD))),some (.d (.list (plD L.length (Xg.j_ (ssT L now) h (st.take i))))),u7,u8,u9]) (st.map sD)
  [some (.d (.list (L.map yD))),some (.d (.int (M:Int))),some (.d (.int now)),some (.d (.list (plD L.length h))),some (.d (.list (plD L.length o))),some (.d (.list (st.map sD))),some (.d (.list (plD L.length h))),none,none,none] ⟨none,none,none,Th,rfl⟩ (by
   rintro i d δ hd ⟨u7,u8,u9,T,rfl⟩;rw [aP] at hd
   cases hi:st[i]? with
   | none=>rw [hi] at hd;cases hd
   | some s =>
    rw [hi] at hd
    cases hd;have so:=I.good i s hi;rw [Xg.Jf hi];obtain ⟨g,hg⟩:∃ g,g=Xg.j_ (ssT L now) h (st.take i):=⟨_,rfl⟩;rw [← hg] at so T;obtain ⟨t,a,b⟩:=s;have T':=T.swp ok so;have ex:=rT (L:=L) (now:=now) (t:=t) (a:=a) (b:=b) (h:=g) (by omega) so.now so.ne so.nh;have pl:=two_plan ok T';have nT:rJ (.bool true)=some (.bool false):=rfl;rw [← hg];refine ⟨[some (.d (.list (L.map yD))),some (.d (.int (M:Int))),some (.d (.int now)),some (.d (.list (plD L.length h))),some (.d (.list (plD L.length o))),some (.d (.list (st.map sD))),some (.d (.list (plD L.length g))),some (.d (.int t)),some (.d (.int a)),some (.d (.int b))],[some (.d (.list (L.map yD))),some (.d (.int (M:Int))),some (.d (.int now)),some (.d (.list (plD L.length h))),some (.d (.list (plD L.length o))),some (.d (.list (st.map sD))),some (.d (.list (plD L.length (Xg.swp (ssT L now) g t a b)))),some (.d (.int t)),some (.d (.int a)),some (.d (.int b))],?_,.inl ?_,_,_,_,T',rfl⟩
    ·show gTn 3 _ (.tuple [.int t,.int a,.int b]) _=_;simp![ak,aC,au,aA,aF,aG,aH]
    ·simp![ak,aC,au,aA,aF,aG,aH,qt,ex,pl,nT])
 rw [aD,jf] at e;have all:plD L.length (Xg.j_ (ssT L now) h st)=plD L.length o:=G7 fun k hk'=>by
  rw [I.fin (fun k h1 h2=>by
   rw [pP.mem_iff];unfold opn;refine bx.mpr ⟨aQ.mpr h1,?_⟩;have h2:(tAt L k).2.2.isSome=false:=h2;rw [h2];rfl) k hk']
 have eo:gEq (.list (plD L.length o)) (.list (plD L.length o))=some (.bool true):=Com.eq_self (XQ (m:=58) _);have l1:((opn L).map fun k=>yD (tAt L k)).length=(opn L).length:=aD _;have l2:(st.map sD).length=st.length:=aD _;have gt2:decide (((opn L).length:Int) < (st.length:Int))=false:=dFa (by omega);have lL':(L.map yD).length ≤ 100000:=by rw [aD];omega
 unfold jV;simp![ak,aC,au,aA,aF,aG,aH,qt,eL,lL',C,l1,l2,gt2];rw [e,all];simp![ak,aC,au,aA,aF,aG,aH,eo]
end
theorem QD (Q:List Nat):nD Q=(Q.map fun k:Nat=>(k:Int)).map PyData.int:=by
 unfold nD;rw [dO];rfl
theorem inN (Q:List Nat) (r:Nat):gIn (.int (r:Int)) (.list (nD Q))=some (.bool (decide (r ∈ Q))):=by
 have:=inI (Q.map fun k:Nat=>(k:Int)) (r:Int);rw [← QD] at this;rw [this];congr 2;rw [decide_eq_decide,dR];exact ⟨fun ⟨k,h,e⟩=>by rw [show r=k by omega];exact h,fun h=>⟨r,h,rfl⟩⟩
theorem Rg (Q:List Nat):ly 60 (.list (nD Q)):=G4 (n:=59) (Al _ (fun _=>Lh) _)
section
variable {L:List Ty} {M:Nat} {now:Int}
theorem Rh {X:List Nat} (nd:X.Nodup) (st:∀ a ∈ X,∀ b ∈ X,a ≠ b→bk L a ≠ bk L b):(Lq X (bk L)).Pairwise fun a b=>bk L a < bk L b:=by
 obtain ⟨p,s⟩:=wg X (bk L);have n:=p.nodup_iff.mpr nd;refine List.Pairwise.imp_of_mem (fun {a b} ha hb h=>?_) (s.and n);have:=st a (p.mem_iff.mp ha) b (p.mem_iff.mp hb) h.2;have:=h.1;omega
def hlR (L:List Ty) (r:Nat):List Nat:=(aB L.length).filter fun k=>decide (hk L k=some r)
theorem U_ {rr:Nat→Nat} {w r:Nat} {t:List Nat} (ok:TOk L M now) (hw:w < L.length) (hn:hk L w=none) (P:Pn L M rr) (rw':rr w=r)
 (rt:∀ k,k < L.length→hk L k=none→bk L k < bk L w→(rr k=r↔k ∈ t)) (pw:t.Pairwise fun a b=>bk L a < bk L b) (mt:∀ k ∈ t,k < L.length∧hk L k=none∧bk L k < bk L w) :
 ∃ R,Lq (inR L.length (fun k=>(rr k:Int)) (r:Int)) (bk L)=(hlR L r++t++[w])++R:=by
 have mI:∀ k,k ∈ inR L.length (fun k=>(rr k:Int)) (r:Int)↔k < L.length∧rr k=r:=fun k=>by
  unfold inR;rw [bx,aQ,decide_eq_true_eq];exact ⟨fun z=>⟨z.1,by have q:(rr k:Int)=r:=z.2;omega⟩,fun z=>⟨z.1,by show (rr k:Int)=r;omega⟩⟩
 have mH:∀ k,k ∈ hlR L r↔k < L.length∧hk L k=some r:=fun k=>by
  unfold hlR;rw [bx,aQ,decide_eq_true_eq]
 have lt:∀ k,k < L.length→bk L k < ek L k:=fun k h=>(ok.ok _ (cR h)).1
 have st:∀ a,a < L.length→∀ b,b < L.length→rr a=r→rr b=r→a ≠ b→bk L a ≠ bk L b:=fun a ha b hb ra rb ne z=>by
  have:=lt a ha;have:=lt b hb;rcases P.dj a b ha hb ne (by rw [ra,rb]) with c | c <;> omega
 have hb:∀ a ∈ hlR L r,∀ b,b < L.length→hk L b=none→rr b=r→bk L a < bk L b:=fun a ha b b1 b2 b3=>by
  obtain ⟨a1,a2⟩:=(mH a).mp ha;have ra:=P.held a r a1 a2;have oa:=(ok.ok _ (cR a1)).2.1 r a2;have oa1:bk L a ≤ now:=oa.2.1;have ob:now ≤ bk L b:=(ok.ok _ (cR b1)).2.2 b2;have:=lt a a1;have:=lt b b1;rcases P.dj a b a1 b1 (fun z=>by rw [z,b2] at a2;cases a2) (by rw [ra,b3]) with c | c <;> omega
 have pH:(hlR L r).Pairwise fun a b=>bk L a < bk L b:=by
  refine List.Pairwise.imp_of_mem (R:=(· ≠ ·)) (fun {a b} ha hb' ne=>?_) (List.Pairwise.filter _ dJ);obtain ⟨a1,a2⟩:=(mH a).mp ha;obtain ⟨b1,b2⟩:=(mH b).mp hb';exact absurd (rU ok.nd a1 b1 a2 b2) ne
 have tr:∀ k ∈ t,rr k=r:=fun k h=>(rt k (mt k h).1 (mt k h).2.1 (mt k h).2.2).mpr h
 have pA:(hlR L r++t++[w]).Pairwise fun a b=>bk L a < bk L b:=by
  refine cZ.mpr ⟨cZ.mpr ⟨pH,pw,fun a ha b hb'=>hb a ha b (mt b hb').1 (mt b hb').2.1 (tr b hb')⟩,je _ _,fun a ha b hb'=>?_⟩;rw [aJ.mp hb'];rcases aR.mp ha with z | z
  ·exact hb a z w hw hn rw'
  ·exact (mt a z).2.2
 have le:∀ a ∈ hlR L r++t++[w],bk L a ≤ bk L w:=fun a ha=>by
  rcases aR.mp ha with z | z
  ·rcases aR.mp z with y | y
   ·have:=hb a y w hw hn rw';omega
   ·have:=(mt a y).2.2;omega
  ·rw [aJ.mp z];exact d7 _
 obtain ⟨X,hX⟩:∃ X,X=(inR L.length (fun k=>(rr k:Int)) (r:Int)).filter fun k=>decide (bk L w < bk L k):=⟨_,rfl⟩
 have mX:∀ k,k ∈ X↔(k < L.length∧rr k=r)∧bk L w < bk L k:=fun k=>by rw [hX,bx,mI,decide_eq_true_eq]
 have nI:(inR L.length (fun k=>(rr k:Int)) (r:Int)).Nodup:=List.Pairwise.filter _ dJ;have nX:X.Nodup:=by rw [hX];exact List.Pairwise.filter _ nI
 have pX:=Rh (L:=L) nX fun a ha b hb' ne=>st a ((mX a).mp ha).1.1 b ((mX b).mp hb').1.1 ((mX a).mp ha).1.2 ((mX b).mp hb').1.2 ne
 have eX:=(wg X (bk L)).1;refine ⟨Lq X (bk L),Mj (f:=bk L) (Rh nI fun a ha b hb' ne=>st a ((mI a).mp ha).1 b ((mI b).mp hb').1 ((mI a).mp ha).2 ((mI b).mp hb').2 ne) (cZ.mpr ⟨pA,pX,fun a ha b hb'=>?_⟩) fun x=>?_⟩
 ·have:=le a ha;have:=((mX b).mp (eX.mem_iff.mp hb')).2;omega
 ·rw [(wg _ (bk L)).1.mem_iff,mI,aR,eX.mem_iff,mX,aR,aR,aJ,mH]
  constructor
  ·rintro ⟨x1,x2⟩;rcases kZ (bk L w) (bk L x) with c | c
   ·exact .inr ⟨⟨x1,x2⟩,c⟩
   ·left
    cases hx:hk L x with
    | some s =>
     have:=P.held x s x1 hx;exact .inl (.inl ⟨x1,by rw [← x2,this]⟩)
    | none =>
     by_cases y:x=w
     ·exact .inr y
     ·have:=st x x1 w hw x2 rw' y;exact .inl (.inr ((rt x x1 hx (by omega)).mp x2))
  ·rintro (((⟨x1,x2⟩ | h) | rfl) | ⟨h,_⟩)
   ·exact ⟨x1,P.held x r x1 x2⟩
   ·exact ⟨(mt x h).1,tr x h⟩
   ·exact ⟨hw,rw'⟩
   ·exact h
theorem QF {rr:Nat→Nat} {w r:Nat} {t:List Nat} (ok:TOk L M now) (hM:M ≤ 12) (n0:0 ≤ now) (n1:now ≤ 399) (hw:w < L.length) (hn:hk L w=none) (hr:r < M) (P:Pn L M rr) (rw':rr w=r)
 (rt:∀ k,k < L.length→hk L k=none→bk L k < bk L w→(rr k=r↔k ∈ t)) (pw:t.Pairwise fun a b=>bk L a < bk L b) (mt:∀ k ∈ t,k < L.length∧hk L k=none∧bk L k < bk L w) (tl:t.length < L.length) :
 kI [.list (L.map yD),.int (M:Int),.int now,.int (w:Int),.int (r:Int),.list (nD t),.list (plD L.length fun k=>(rr k:Int))]=some (.bool true):=by
 have l24:=ok.len;obtain ⟨R,eR⟩:=U_ ok hw hn P rw' rt pw mt;have ro:=Mv (h:=fun k=>(rr k:Int)) l24 (r:Int);have pL:=(wg (inR L.length (fun k=>(rr k:Int)) (r:Int)) (bk L)).1;have mR:∀ k,k ∈ Lq (inR L.length (fun k=>(rr k:Int)) (r:Int)) (bk L)↔k < L.length∧rr k=r:=fun k=>by
  rw [pL.mem_iff];unfold inR;rw [bx,aQ,decide_eq_true_eq];exact ⟨fun z=>⟨z.1,by have q:(rr k:Int)=r:=z.2;omega⟩,fun z=>⟨z.1,by show (rr k:Int)=r;omega⟩⟩
 have lR:(Lq (inR L.length (fun k=>(rr k:Int)) (r:Int)) (bk L)).length ≤ 24:=by
  rw [pL.length_eq];have:=Hj L.length (fun k=>(rr k:Int)) (r:Int);omega
 generalize Lq (inR L.length (fun k=>(rr k:Int)) (r:Int)) (bk L)=RW at *;have ro:pO [.list (L.map yD),.list (plD L.length fun k=>(rr k:Int)),.int (r:Int)]=some (.list (nD RW)):=ro;have fs:=fun x:Int=>Jp (h:=fun k=>(rr k:Int)) (M:=M) (x:=x) l24 hM
 have fs:∀ x:Int,jC [.list (L.map yD),.list (plD L.length fun k=>(rr k:Int)),.int (M:Int),.int x]=some (.list (nD (fre M (B L (fun k=>(rr k:Int)) x)))):=fs;have hH:(hlR L r).length ≤ L.length:=by
  have:=cQ (fun k=>decide (hk L k=some r)) (aB L.length);rwa [aX] at this
 have lL:(L.map yD).length=L.length:=aD _;have rg:qW (some [.int (L.length:Int)])=some (fO 0 (L.length:Int)):=Lz _ (by omega);have lr:(fO 0 (L.length:Int)).length ≤ 100000:=by rw [oX];omega
 have C1:∀ u7 u8 u9 u10:Option U,eN (gNl 0) (D3.oA (bh (dUn lK (dOp gIx (dOp gIx (aj 2) (aj 0)) (dC (.int 2))))) (bh (dOp gEq (dOp gIx (dOp gIx (aj 2) (aj 0)) (dC (.int 2))) (aj 1)))) (cW (aj 0)) (jE 1 [4,0] [some (.d (.list (L.map yD))),some (.d (.int (M:Int))),some (.d (.int now)),some (.d (.int (w:Int))),some (.d (.int (r:Int))),some (.d (.list (nD t))),some (.d (.list (plD L.length fun k=>(rr k:Int)))),u7,u8,u9,u10]) (fO 0 (L.length:Int))=some (nD (hlR L r)):=fun u7 u8 u9 u10=>by
  rw [uq,fG];exact uo (fun k:Nat=>PyData.int (k:Int)) (fun k=>decide (hk L k=some r)) (fun k:Nat=>PyData.int (k:Int)) (aB L.length) fun k hk'=>⟨[some (.d (.int (k:Int))),some (.d (.int (r:Int))),some (.d (.list (L.map yD)))],rfl,by
   have a:=ay (aQ.mp hk')
   cases hh:hk L k with
   | none =>
    rw [hh] at a;have nn:isNone (hD none)=true:=rfl;simp![ak,aC,au,aA,aF,aG,aH,a,at2,nn];rfl
   | some s =>
    rw [hh] at a;have nn:isNone (hD (some s))=false:=rfl;have eq:gEq (hD (some s)) (.int (r:Int))=some (.bool (decide ((s:Int)=(r:Int)))):=rfl;simp![ak,aC,au,aA,aF,aG,aH,a,at2,nn,eq];rw [show decide ((s:Int)=(r:Int))=decide (some s=some r) from decide_eq_decide.mpr ⟨fun z=>by rw [show s=r by omega],fun z=>by rw [cM.inj z]⟩],fun _=>by simp![ak,aC,au,aA,aF,aG,aH,fli]⟩
 have cat1:rH (.list (nD (hlR L r))) (.list (nD t))=some (.list (nD (hlR L r++t))):=by
  unfold nD;rw [xP,if_pos (by rw [aD,aD];omega),cV]
 have cat2:rH (.list (nD (hlR L r++t))) (.list [.int (w:Int)])=some (.list (nD (hlR L r++t++[w]))):=by
  unfold nD;rw [xP,if_pos (by rw [aD,bL];show _ + 1 ≤ _;omega),cV (l₂:=[w])];rfl
 have ct:cutD (nD RW) none (some ((nD (hlR L r++t++[w])).length:Int))=nD (hlR L r++t++[w]):=by
  rw [Q8 (by omega),fG,eR,show nD (hlR L r++t++[w]++R)=nD (hlR L r++t++[w])++nD R from cV];exact List.take_left
 have ne:=ne_self (Rg (hlR L r++t++[w]));generalize hlR L r++t++[w]=A at *;have aw:=ay hw;obtain ⟨m,hm,m1⟩:∃ m:Int,rG [.int 400,.int (ek L w + 1)]=some (.int m)∧m ≤ 400:=⟨_,xO,by split <;> omega⟩;have m0:0 ≤ m:=by
  have h1:m=if ek L w + 1 < 400 then ek L w + 1 else 400:=PyData.int.inj (cM.inj (hm.symm.trans xO))
  have:=(ok.bd _ (cR hw)).1;have:=(ok.ok _ (cR hw)).1;have:0 < ek L w:=by show 0 < (tAt L w).2.1;omega
  rw [h1];split <;> omega
 have rg2:GZ (some [.int now,.int m])=some (fO now m):=W_ (by omega) (by omega) (by omega) (by omega);obtain ⟨δ',e,u9,u10,rfl⟩:=jt (g:=(gNl 9)) (b:=(bQ (bM 10 (dOp gNe (iw (lu (aj 7)) (gNl 0) (D3.oA (bh (dOp gLe (dOp gIx (dOp gIx (aj 2) (aj 0)) (dC (.int 0))) (aj 1))) (bh (dOp gLt (aj 1) (dOp gIx (dOp gIx (aj 2) (aj 0)) (dC (.int 1)))))) (cW (aj 0)) 1 [9,0]) (mQ (aZ)))) (sIf (bh (dOp gEq (dOp gIn (aj 4) (dCall jC (aq (dUn gY (aj 0)) (aq (dUn gY (aj 6)) (aq (aj 1) (aq (aj 9) (aZ))))))) (aj 10))) (cL (dC (.bool false))) (dG))))
  (fun _ δ=>∃ u9 u10:Option U,δ=[some (.d (.list (L.map yD))),some (.d (.int (M:Int))),some (.d (.int now)),some (.d (.int (w:Int))),some (.d (.int (r:Int))),some (.d (.list (nD t))),some (.d (.list (plD L.length fun k=>(rr k:Int)))),some (.d (.list (nD RW))),some (.d (.list (nD A))),u9,u10]) (fO now m)
  [some (.d (.list (L.map yD))),some (.d (.int (M:Int))),some (.d (.int now)),some (.d (.int (w:Int))),some (.d (.int (r:Int))),some (.d (.list (nD t))),some (.d (.list (plD L.length fun k=>(rr k:Int)))),some (.d (.list (nD RW))),some (.d (.list (nD A))),none,none] ⟨none,none,rfl⟩ (by
   rintro i d δ hd ⟨u9,u10,rfl⟩;obtain ⟨x,rfl⟩:∃ x:Int,d = .int x:=by
    unfold fO at hd;rw [aP] at hd
    cases hi:(aB (m - now).toNat)[i]? with
    | none=>rw [hi] at hd;cases hd
    | some k=>rw [hi] at hd;cases hd;exact ⟨_,rfl⟩
   have C2:eN (gNl 0) (D3.oA (bh (dOp gLe (dOp gIx (dOp gIx (aj 2) (aj 0)) (dC (.int 0))) (aj 1))) (bh (dOp gLt (aj 1) (dOp gIx (dOp gIx (aj 2) (aj 0)) (dC (.int 1)))))) (cW (aj 0)) (jE 1 [9,0] [some (.d (.list (L.map yD))),some (.d (.int (M:Int))),some (.d (.int now)),some (.d (.int (w:Int))),some (.d (.int (r:Int))),some (.d (.list (nD t))),some (.d (.list (plD L.length fun k=>(rr k:Int)))),some (.d (.list (nD RW))),some (.d (.list (nD A))),some (.d (.int x)),u10]) (nD RW)=some (nD (RW.filter (Gr.holds (bk L) (ek L) x))) :=
    uo (fun k:Nat=>PyData.int (k:Int)) (Gr.holds (bk L) (ek L) x) (fun k:Nat=>PyData.int (k:Int)) RW fun k hk'=>⟨[some (.d (.int (k:Int))),some (.d (.int x)),some (.d (.list (L.map yD)))],rfl,by
     have a:=ay ((mR k).mp hk').1;unfold Gr.holds;simp![ak,aC,au,aA,aF,aG,aH,a,at0,at1]
     cases decide (bk L k ≤ x) <;> simp only [xK,xM,iZ,f9] <;> simp![ak,aC,au,aA,aF,aG,aH,a,at0,at1],fun _=>by simp![ak,aC,au,aA,aF,aG,aH,fli]⟩
   have nl:=ne_nil (Rg (RW.filter (Gr.holds (bk L) (ek L) x)));have iN:=inN (fre M (B L (fun k=>(rr k:Int)) x)) r;have lw:(nD RW).length ≤ 100000:=by unfold nD;rw [aD];omega
   have key:gEq (.bool (decide (r ∈ fre M (B L (fun k=>(rr k:Int)) x)))) (.bool (!(nD (RW.filter (Gr.holds (bk L) (ek L) x))).isEmpty))=some (.bool false):=by
    have z:decide (r ∈ fre M (B L (fun k=>(rr k:Int)) x))=(nD (RW.filter (Gr.holds (bk L) (ek L) x))).isEmpty:=by
     rw [qy,decide_eq_true_eq];unfold fre B nD;rw [bx,aQ,List.isEmpty_iff,List.map_eq_nil_iff,List.filter_eq_nil_iff,oH,decide_eq_false_iff_not,dR]
     constructor
     ·rintro ⟨_,h⟩ k hk' hh;obtain ⟨k1,k2⟩:=(mR k).mp hk';exact h ⟨k,bx.mpr ⟨aQ.mpr k1,hh⟩,by show (rr k:Int)=r;rw [k2]⟩
     ·refine fun h=>⟨hr,?_⟩
      rintro ⟨k,k1,k2⟩;obtain ⟨k3,k4⟩:=bx.mp k1;have k2:(rr k:Int)=r:=k2;exact h k ((mR k).mpr ⟨aQ.mp k3,by omega⟩) k4
    rw [z]
    cases (nD (RW.filter (Gr.holds (bk L) (ek L) x))).isEmpty <;> rfl
   generalize (!(nD (RW.filter (Gr.holds (bk L) (ek L) x))).isEmpty)=bz at *;refine ⟨_,[some (.d (.list (L.map yD))),some (.d (.int (M:Int))),some (.d (.int now)),some (.d (.int (w:Int))),some (.d (.int (r:Int))),some (.d (.list (nD t))),some (.d (.list (plD L.length fun k=>(rr k:Int)))),some (.d (.list (nD RW))),some (.d (.list (nD A))),some (.d (.int x)),some (.d (.bool bz))],rfl,.inl ?_,_,_,rfl⟩;simp![ak,aC,au,aA,aF,aG,aH,lw,C2,zl0,nl,qt,fs,iN,key])
 unfold kI;simp![ak,aC,au,aA,aF,aG,aH,qt,ro,lL,rg,lr,C1,cat1,zl1,cat2,ct,ne,aw,at1,hm,rg2];rw [e];simp![ak,aC,au,aA,aF,aG,aH]
end
section
variable {L:List Ty} {M:Nat} {now:Int}
theorem Mz (ok:TOk L M now) (hM:M ≤ 12) (n0:0 ≤ now) {w r:Nat} {rr0:Nat→Nat} (hw:w < L.length) (hn:hk L w=none) (hr:r < M) (P:Pn L M rr0) (e:rr0 w=r) :
 ∃ (t:List Nat) (rr:Nat→Nat),dD [.list (L.map yD),.int (M:Int),.int now,.int (w:Int),.int (r:Int)]=some (.tuple [.str "yes", .list (nD t),.list (plD L.length fun k=>(rr k:Int))])∧Pn L M rr∧rr w=r:=by
 obtain ⟨f,ef,hf⟩:=tM (TO0.of ok) hM;have nf:=Mw ok hf;rcases uW ok hM n0 hw hn hr ef hf (nf r hr) with ⟨_,t,rr,a,b,c,_⟩ | ⟨z,_⟩
 ·exact ⟨t,rr,a,b,c⟩
 ·exact absurd (Rf ok n0 hw hn hr hf (nf r hr) P e) z
def sv (L:List Ty) (now:Int) (k:Nat):Bool:=decide (now + 1 < ek L k)
def svI (L:List Ty) (now:Int):List Nat:=(aB L.length).filter (sv L now)
theorem MF {w:Nat} (h:sv L now w=true):∀ n,w < n→∃ X,(aB n).filter (sv L now)=(aB w).filter (sv L now)++w :: X:=by
 intro n
 induction n with
 | zero=>exact fun z=>absurd z (mL _)
 | succ n ih =>
  intro hw;rw [List.range_succ,jY];rcases iM w n with c | c
  ·obtain ⟨X,e⟩:=ih c;exact ⟨X++[n].filter (sv L now),by rw [e,jG];rfl⟩
  ·have:w=n:=by omega
   subst this;exact ⟨[],by rw [dY h];rfl⟩
theorem Va (l:List Nat):(l.filter fun k=>decide (ek L k ≤ now + 1)).length + (l.filter (sv L now)).length=l.length:=by
 induction l with
 | nil=>rfl
 | cons k l ih =>
  rw [bH];by_cases c:ek L k ≤ now + 1
  ·rw [dY (by simpa using c),eZ (by unfold sv;simp;omega),bH];omega
  ·rw [eZ (by simpa using c),dY (by unfold sv;simp;omega),bH];omega
theorem Dp {rr:Nat→Nat} {j:Nat} (h:j < (svI L now).length):tAt (evL L rr now L.length) j=evT L rr now ((svI L now).getD j 0)∧(svI L now).getD j 0 < L.length∧now + 1 < ek L ((svI L now).getD j 0):=by
 have g:(svI L now)[j]? = some ((svI L now).getD j 0):=by rw [bC,aV h];rfl
 obtain ⟨m1,m2⟩:=bx.mp (cN g);refine ⟨?_,aQ.mp m1,of_decide_eq_true m2⟩;unfold tAt;rw [bC,show evL L rr now L.length=(svI L now).map (evT L rr now) from rfl,aP,g];rfl
theorem Ax {rr:Nat→Nat}:(evL L rr now L.length).length=(svI L now).length:=aD _
theorem Vb {i j:Nat} (hi:i < (svI L now).length) (hj:j < (svI L now).length) (ne:i ≠ j):(svI L now).getD i 0 ≠ (svI L now).getD j 0:=by
 have nd:(svI L now).Nodup:=List.Pairwise.filter _ dJ;rw [bC,bC,aV hi,aV hj];exact fun z=>ne ((List.getElem_inj nd).mp z)
theorem XR {rr:Nat→Nat} (ok:TOk L M now) (P:Pn L M rr):Pn (evL L rr now L.length) M fun j=>rr ((svI L now).getD j 0):=by
 refine ⟨fun k hk'=>?_,fun k r hk' h=>?_,fun p q hp hq ne z=>?_⟩
 ·rw [Ax] at hk';exact P.lt _ (Dp (rr:=rr) hk').2.1
 ·rw [Ax] at hk';obtain ⟨e1,e2,_⟩:=Dp (rr:=rr) hk';have h:(tAt (evL L rr now L.length) k).2.2=some r:=h;rw [e1] at h;exact (wj (TO0.of ok) P e2 h).1
 ·rw [Ax] at hp hq;obtain ⟨e1,e2,_⟩:=Dp (rr:=rr) hp;obtain ⟨d1,d2,_⟩:=Dp (rr:=rr) hq;have:=P.dj _ _ e2 d2 (Vb hp hq ne) z;unfold ek bk;rw [e1,d1];exact this
theorem Vc {rr:Nat→Nat} (ok:TOk L M now) (P:Pn L M rr):TOk (evL L rr now L.length) M (now + 1):=by
 have o:=XM (TO0.of ok) P;have c1:jw L (now + 1) ≤ M:=by
  by_cases c:∃ s ∈ L,s.1=now + 1
  ·obtain ⟨s,hs,e⟩:=c;have:=uw ok hs (by omega);rwa [e] at this
  ·refine bY ?_ (yg ok);unfold jw;rw [← mO,← mO];refine List.countP_mono_left fun s hs hh=>?_
   unfold hol at hh ⊢;rw [aW] at hh ⊢;have h1:=of_decide_eq_true hh.1;have h2:=of_decide_eq_true hh.2;have:s.1 ≠ now + 1:=fun z=>c ⟨s,hs,z⟩
   exact ⟨dTr (by omega),dTr (by omega)⟩
 refine ⟨o.len,fun s hs=>⟨(o.ok s hs).1.1,(o.ok s hs).2⟩,o.nd,fun s hs=>?_,fun s hs=>⟨(o.ok s hs).1.2.1,(o.ok s hs).1.2.2⟩,fun s hs hn=>?_⟩
 ·refine bY (U9 _) ?_;obtain ⟨k,k1,_,rfl⟩:=Fy.mp hs;split
  ·next c =>
   have c:now + 1 < bk L k:=c;exact uw (s:=tAt L k) ok (cR k1) (by show now ≤ bk L k;omega)
  ·exact c1
 ·obtain ⟨k,k1,_,rfl⟩:=Fy.mp hs;have hn:(if bk L k=now then some (rr k) else hk L k)=none:=hn;by_cases c:bk L k=now
  ·rw [if_pos c] at hn;cases hn
  ·rw [if_neg c] at hn;have:bk L k ≤ now + 59:=ok.nr _ (cR k1) hn;show bk L k ≤ _;omega
end
theorem X3 {M r:Nat} (hM:M ≤ 12) (hr:r < M) {L:List Ty} {now:Int} {w:Nat} {rr:Nat→Nat} (ok:TOk L M now) (n0:0 ≤ now) (n1:now ≤ 399) (hw:w < L.length) (hn:hk L w=none) (P:Pn L M rr) (rw':rr w=r) :
 gU [.list (L.map yD),.int (M:Int),.int now,.int (w:Int),.int (r:Int),.list (plD L.length fun k=>(rr k:Int))]=some (.bool true):=by
 have F:=Fe (g:=(gNl 6)) (b:=(bQ (sIf (D3.tOr (bh (dOp gEq (dOp gIx (dOp gIx (aj 0) (aj 3)) (dC (.int 0))) (aj 2))) (bh (dOp gEq (aj 2) (dC (.int 399))))) (cL (dOr (dOp gGt (dOp gIx (dOp gIx (aj 0) (aj 3)) (dC (.int 0))) (aj 2)) (dOp gEq (dOp gIx (aj 5) (aj 3)) (aj 4)))) (dG)) (bQ (bM 7 (dCall jH (aq (iw (lu (dSl (aj 0) zc (zf (aj 3)))) (gNl 0) (bh (dOp gLe (dOp gIx (aj 0) (dC (.int 1))) (dOp i_ (aj 1) (dC (.int 1))))) (cW (aj 0)) 1 [2]) (aZ)))) (bQ (bM 0 (dCall fK (aq (aj 0) (aq (aj 5) (aq (aj 2) (aZ)))))) (bQ (bM 2 (dOp i_ (aj 2) (dC (.int 1)))) (bQ (bM 3 (dOp DK (aj 3) (aj 7))) (bQ (bM 8 (dCall dD (aq (dUn gY (aj 0)) (aq (aj 1) (aq (aj 2) (aq (aj 3) (aq (aj 4) (aZ)))))))) (bQ (sIf (D3.tOr (bh (dOp gNe (dOp gIx (aj 8) (dC (.int 0))) (dC (.str "yes")))) (bh (dUn rJ (dCall gM (aq (dUn gY (aj 0)) (aq (aj 1) (aq (aj 2) (aq (dOp gIx (aj 8) (dC (.int 2))) (aZ))))))))) (cL (dC (.bool false))) (dG)) (bM 5 (dOp gIx (aj 8) (dC (.int 2))))))))))))
  (fun δ=>∃ (L:List Ty) (now:Int) (w:Nat) (rr:Nat→Nat) (u6 u7 u8:Option U),TOk L M now∧0 ≤ now∧now ≤ 399∧w < L.length∧hk L w=none∧Pn L M rr∧rr w=r∧δ=[some (.d (.list (L.map yD))),some (.d (.int (M:Int))),some (.d (.int now)),some (.d (.int (w:Int))),some (.d (.int (r:Int))),some (.d (.list (plD L.length fun k=>(rr k:Int)))),u6,u7,u8]) (fun _=>True) (fun v=>v = .bool true) (fO 0 12)
  [some (.d (.list (L.map yD))),some (.d (.int (M:Int))),some (.d (.int now)),some (.d (.int (w:Int))),some (.d (.int (r:Int))),some (.d (.list (plD L.length fun k=>(rr k:Int)))),none,none,none] ⟨L,now,w,rr,none,none,none,ok,n0,n1,hw,hn,P,rw',rfl⟩ (by
   clear ok n0 n1 hw hn P rw';rintro d hd δ ⟨L,now,w,rr,u6,u7,u8,ok,n0,n1,hw,hn,P,rw',rfl⟩;refine ⟨_,rfl,?_⟩;have l24:=ok.len;have aw:=ay hw;have bw:now ≤ bk L w:=(ok.ok _ (cR hw)).2.2 hn;have lw:bk L w < ek L w:=(ok.ok _ (cR hw)).1;have l4:ek L w ≤ 400:=(ok.bd _ (cR hw)).2;by_cases c:bk L w=now∨now=399
   ·right
    have c:bk L w=now:=by omega
    have ap:pAt (plD L.length fun k=>(rr k:Int)) (w:Int)=some (.int (r:Int)):=by
     have:=sV (fun k=>PyData.int (rr k:Int)) hw;rw [rw'] at this;exact this
    have z1:decide (now < bk L w)=false:=dFa (by omega);have z2:decide ((r:Int)=(r:Int))=true:=dTr rfl;refine ⟨_,?_,rfl⟩;simp![ak,aC,au,aA,aF,aG,aH,aw,at0,dTr c,z1,ap,z2]
   ·left
    have c1:¬ bk L w=now:=fun z=>c (.inl z)
    have c2:¬ now=399:=fun z=>c (.inr z)
    have sw:sv L now w=true:=dTr (by omega);obtain ⟨X,eX⟩:=MF sw L.length hw;have eX:svI L now=_:=eX;have ln:=Va (L:=L) (now:=now) (aB w);rw [aX] at ln;have ct:cutD (L.map yD) none (some (w:Int))=(aB w).map fun k=>yD (tAt L k):=by
     rw [Q8 (by omega),fG,jx,← List.map_take,List.take_range,Nat.min_eq_left (by omega)]
    have C:eN (gNl 0) (bh (dOp gLe (dOp gIx (aj 0) (dC (.int 1))) (dOp i_ (aj 1) (dC (.int 1))))) (cW (aj 0)) (jE 1 [2] [some (.d (.list (L.map yD))),some (.d (.int (M:Int))),some (.d (.int now)),some (.d (.int (w:Int))),some (.d (.int (r:Int))),some (.d (.list (plD L.length fun k=>(rr k:Int)))),some (.d d),u7,u8]) ((aB w).map fun k=>yD (tAt L k))=some (((aB w).filter fun k=>decide (ek L k ≤ now + 1)).map fun k=>yD (tAt L k)) :=
     uo (fun k=>yD (tAt L k)) (fun k=>decide (ek L k ≤ now + 1)) (fun k=>yD (tAt L k)) (aB w) fun k _=>⟨[some (.d (yD (tAt L k))),some (.d (.int now))],rfl,by
      unfold yD;simp![ak,aC,au,aA,aF,aG,aH,at1];rfl,fun _=>by simp![ak,aC,au,aA,aF,aG,aH,ur]⟩
    have lC:((aB w).map fun k=>yD (tAt L k)).length ≤ 100000:=by rw [aD,aX];omega
    have lg:(((aB w).filter fun k=>decide (ek L k ≤ now + 1)).map fun k=>yD (tAt L k)).length=((aB w).filter fun k=>decide (ek L k ≤ now + 1)).length:=aD _;have ev:=evening (L:=L) (now:=now) (rr:=rr) l24;have ok':=Vc ok P;have P':=XR ok P;obtain ⟨w',hw'⟩:∃ w',w'=((aB w).filter (sv L now)).length:=⟨_,rfl⟩;have wl:w' < (svI L now).length:=by rw [eX,bL,bH,hw'];omega
    have gw:(svI L now).getD w' 0=w:=by
     rw [eX,hw',bC,cO (bB _),Nat.sub_self];rfl
    have tw:=(Dp (rr:=rr) wl).1;rw [gw] at tw;have hn':hk (evL L rr now L.length) w'=none:=by
     unfold hk;rw [tw];show (if bk L w=now then some (rr w) else hk L w)=none;rw [if_neg c1];exact hn
    have wL:w' < (evL L rr now L.length).length:=by rw [Ax];exact wl
    obtain ⟨t,r3,em,P3,r3w⟩:=Mz ok' hM (by omega) wL hn' hr P' (by show rr ((svI L now).getD w' 0)=r;rw [gw];exact rw');have pt:=uX ok' P3;have sb:(w:Int) - (((aB w).filter fun k=>decide (ek L k ≤ now + 1)).length:Int)=(w':Int):=by omega
    have ny:gNe (.str "yes") (.str "yes")=some (.bool false):=ne_self (Lf Ml (by decide));have nT:rJ (.bool true)=some (.bool false):=rfl;generalize ((aB w).filter fun k=>decide (ek L k ≤ now + 1))=G at *;generalize hE:evL L rr now L.length=E at *;refine ⟨[some (.d (.list (E.map yD))),some (.d (.int (M:Int))),some (.d (.int (now + 1))),some (.d (.int (w':Int))),some (.d (.int (r:Int))),some (.d (.list (plD E.length fun k=>(r3 k:Int)))),some (.d d),some (.d (.int (G.length:Int))),some (.d (.tuple [.str "yes", .list (nD t),.list (plD E.length fun k=>(r3 k:Int))]))],?_,⟨E,now + 1,w',r3,_,_,_,ok',by omega,by omega,wL,hn',P3,r3w,rfl⟩,trivial⟩;simp![ak,aC,au,aA,aF,aG,aH,aw,at0,dFa c1,dFa c2,ct,lC,C,lg,ev,sb,qt,em,at2,ny,pt,nT])
 have rg:qW (some [.int 12])=some (fO 0 12):=EY (by decide) (by decide);rcases F with ⟨δ',e,_⟩ | ⟨v,e,rfl⟩
 ·unfold gU;simp![ak,aC,au,aA,aF,aG,aH,rg];rw [e];simp![ak,aC,au,aA,aF,aG,aH]
 ·unfold gU;simp![ak,aC,au,aA,aF,aG,aH,rg];rw [e];simp![ak,aC,au,aA,aF,aG,aH]
theorem Zr:gEq (.str "yes") (.str "no")=some (.bool false):=by
 unfold gEq;rw [if_pos (by decide +kernel),show PyData.eqv (.str "yes") (.str "no")=false by decide +kernel]
theorem Zt:gEq (.str "no") (.str "no")=some (.bool true):=Com.eq_self (Lf XC (by decide))
theorem X4 (i:Int):mU (.int 2) (.int i)=some (.int (2 * i)):=by
 rw [W0,if_pos (by unfold uJ;rfl)]
theorem MJ (ns:List Int) (h63:ns.length ≤ 63):Ly [.list (ns.map .int)]=some (.bool true):=by
 have p3:=fj (ns:=ns) (i:=0) (k:=3) (m:=4) (by decide) (by decide) (by decide) (by decide);have r3:=d8 ns 0 3 (m:=4) (by decide);generalize jB ns 0 3 4=x3 at *;obtain ⟨M,eM⟩:∃ M:Nat,(M:Int)=1 + x3:=⟨(1 + x3).toNat,by omega⟩;have hM:M ≤ 12:=by omega
 obtain ⟨now,n0,n1,en⟩:=Li ns;obtain ⟨L,ok,_,eS⟩:=CZ ns (M:=M) (now:=now) (B:=14) hM n0 n1 (by decide) (by decide);have l24:=ok.len;obtain ⟨rr0,P0,e0⟩:=Jq ok hM;have pt0:=uX ok P0;have nT:rJ (.bool true)=some (.bool false):=rfl;have lL:(L.map yD).length=L.length:=aD _;have rg:qW (some [.int (L.length:Int)])=some (fO 0 (L.length:Int)):=Lz _ (by omega);have lr:(fO 0 (L.length:Int)).length ≤ 100000:=by rw [oX];omega
 have C:∀ u5 u6 u7 u8 u9 u10 u11:Option U,eN (gNl 0) (bh (dUn rF (dOp gIx (dOp gIx (aj 1) (aj 0)) (dC (.int 2))))) (cW (aj 0)) (jE 1 [3] [some (.d (.list (ns.map .int))),some (.d (.int (M:Int))),some (.d (.int now)),some (.d (.list (L.map yD))),some (.d (.list (plD L.length fun k=>(rr0 k:Int)))),u5,u6,u7,u8,u9,u10,u11]) (fO 0 (L.length:Int))=some (nD (opn L)):=fun u5 u6 u7 u8 u9 u10 u11=>by
  rw [uq,fG];exact uo (fun k:Nat=>PyData.int (k:Int)) (fun p=>!(tAt L p).2.2.isSome) (fun k:Nat=>PyData.int (k:Int)) (aB L.length) fun k hk'=>⟨[some (.d (.int (k:Int))),some (.d (.list (L.map yD)))],rfl,by
   have a:=ay (aQ.mp hk');have nn:isNone (hD (hk L k)) = !(tAt L k).2.2.isSome:=xV _;simp![ak,aC,au,aA,aF,aG,aH,a,at2,nn],fun _=>by simp![ak,aC,au,aA,aF,aG,aH,fli]⟩
 have lo:(opn L).length ≤ L.length:=by
  have:=cQ (fun p=>!(tAt L p).2.2.isSome) (aB L.length);rwa [aX] at this
 have lO:(nD (opn L)).length=(opn L).length:=aD _;obtain ⟨f,ef,hf⟩:=tM (TO0.of ok) hM;have nf:=Mw ok hf;obtain ⟨m,hm,m1,m2⟩:∃ m:Int,rG [.int 2,.int ((opn L).length:Int)]=some (.int m)∧m ≤ 2∧(m ≤ (opn L).length):=⟨_,xO,by split <;> omega,by split <;> omega⟩;have m0:0 ≤ m:=by
  rw [show m=if ((opn L).length:Int) < 2 then ((opn L).length:Int) else 2 from PyData.int.inj (cM.inj (hm.symm.trans xO))];split <;> omega
 have rgm:qW (some [.int m])=some (fO 0 m):=EY (by omega) (by omega);obtain ⟨δ',e,u6,u7,u8,u9,u10,u11,rfl⟩:=jt (g:=(gNl 6)) (b:=(bQ (bM 7 (dOp gIx (aj 5) (dCall bU (aq (aj 0) (aq (dC (.int 41)) (aq (dOp mU (dC (.int 2)) (aj 6)) (aq (dCall jH (aq (aj 5) (aZ))) (aZ)))))))) (bQ (bM 8 (dCall bU (aq (aj 0) (aq (dC (.int 41)) (aq (dOp i_ (dOp mU (dC (.int 2)) (aj 6)) (dC (.int 1))) (aq (aj 1) (aZ))))))) (bQ (bM 9 (dCall dD (aq (dUn gY (aj 3)) (aq (aj 1) (aq (aj 2) (aq (aj 7) (aq (aj 8) (aZ)))))))) (bQ (bM 10 (dOp gIn (aj 8) (dCall kE (aq (dUn gY (aj 3)) (aq (aj 1) (aq (aj 2) (aq (aj 7) (aZ)))))))) (sIf (bh (dOp gEq (dOp gIx (aj 9) (dC (.int 0))) (dC (.str "no")))) (bQ (bM 11 (dCall nJ (aq (dUn gY (aj 3)) (aq (aj 1) (aq (aj 2) (aq (aj 7) (aq (aj 8) (aq (dOp gIx (aj 9) (dC (.int 1))) (aZ))))))))) (sIf (D3.tOr (bh (aj 10)) (D3.tOr (bh (dOp gEq (dOp gIx (aj 4) (aj 7)) (aj 8))) (bh (dUn rJ (aj 11))))) (cL (dC (.bool false))) (dG))) (sIf (D3.tOr (D3.lU (bh (aj 10))) (D3.lU (bh (dCall jV (aq (aj 3) (aq (aj 1) (aq (aj 2) (aq (aj 4) (aq (dOp gIx (aj 9) (dC (.int 2))) (aZ)))))))))) (cL (dC (.bool false))) (sIf (D3.lU (bh (dCall kI (aq (aj 3) (aq (aj 1) (aq (aj 2) (aq (aj 7) (aq (aj 8) (aq (dOp gIx (aj 9) (dC (.int 1))) (aq (dOp gIx (aj 9) (dC (.int 2))) (aZ))))))))))) (cL (dC (.bool false))) (sIf (D3.tOr (bh (dOp gNe (dOp gIx (dOp gIx (aj 9) (dC (.int 2))) (aj 7)) (aj 8))) (D3.lU (bh (dCall gU (aq (aj 3) (aq (aj 1) (aq (aj 2) (aq (aj 7) (aq (aj 8) (aq (dOp gIx (aj 9) (dC (.int 2))) (aZ))))))))))) (cL (dC (.bool false))) (dG))))))))))
  (fun _ δ=>∃ u6 u7 u8 u9 u10 u11:Option U,δ=[some (.d (.list (ns.map .int))),some (.d (.int (M:Int))),some (.d (.int now)),some (.d (.list (L.map yD))),some (.d (.list (plD L.length fun k=>(rr0 k:Int)))),some (.d (.list (nD (opn L)))),u6,u7,u8,u9,u10,u11]) (fO 0 m)
  [some (.d (.list (ns.map .int))),some (.d (.int (M:Int))),some (.d (.int now)),some (.d (.list (L.map yD))),some (.d (.list (plD L.length fun k=>(rr0 k:Int)))),some (.d (.list (nD (opn L)))),none,none,none,none,none,none] ⟨none,none,none,none,none,none,rfl⟩ (by
   rintro i d δ hd ⟨u6,u7,u8,u9,u10,u11,rfl⟩;obtain ⟨hi,rfl⟩:=xR hd;have q1:=fj (ns:=ns) (i:=41) (k:=2 * (i:Int)) (m:=((opn L).length:Int)) (by decide) (by omega) (by omega) (by omega);have s1:=d8 ns 41 (2 * (i:Int)) (m:=((opn L).length:Int)) (by omega);have q2:=fj (ns:=ns) (i:=41) (k:=2 * (i:Int) + 1) (m:=(M:Int)) (by decide) (by omega) (by omega) (by omega);have s2:=d8 ns 41 (2 * (i:Int) + 1) (m:=(M:Int)) (by omega);generalize jB ns 41 (2 * (i:Int)) ((opn L).length:Int)=y1 at *;generalize jB ns 41 (2 * (i:Int) + 1) (M:Int)=y2 at *;obtain ⟨j,rfl⟩:∃ j:Nat,y1=(j:Int):=⟨y1.toNat,by omega⟩;obtain ⟨r,rfl⟩:∃ r:Nat,y2=(r:Int):=⟨y2.toNat,by omega⟩;have hr:r < M:=by omega
   have hj:j < (opn L).length:=by omega
   obtain ⟨w,hw'⟩:∃ w,(opn L)[j]? = some w:=⟨_,aV hj⟩;have aw:pAt (nD (opn L)) (j:Int)=some (.int (w:Int)):=by
    unfold nD;rw [nu,aP,hw'];rfl
   obtain ⟨mw1,mw2⟩:=bx.mp (cN hw');have hw:w < L.length:=aQ.mp mw1;have hn:hk L w=none:=by
    cases z:hk L w with
    | none=>rfl
    | some s =>
     have mw2:(!(hk L w).isSome)=true:=mw2;rw [z] at mw2
     cases mw2
   have ro:=Ms ok hM n0 hw hn ef hf nf;have iN:=inN (due L M w f M) r;have md:r ∈ due L M w f M↔Rc L M w (f r):=by
    unfold due;rw [bx,aQ,Aw];exact ⟨fun z=>z.2,fun z=>⟨hr,z⟩⟩
   have a0:pAt (plD L.length fun k=>(rr0 k:Int)) (w:Int)=some (.int (rr0 w:Int)):=sV _ hw;rcases uW ok hM n0 hw hn hr ef hf (nf r hr) with ⟨rc,t,rr,em,P,rw',rt,pw,mt,tl⟩ | ⟨rc,Q,em,Ql,sh⟩
   ·rw [dTr (md.mpr rc)] at iN;have ld:=Mx ok P0.two P.two;have rk:=QF ok hM n0 n1 hw hn hr P rw' rt pw mt tl;have on:=X3 hM hr ok n0 n1 hw hn P rw';have ap:pAt (plD L.length fun k=>(rr k:Int)) (w:Int)=some (.int (r:Int)):=by
     have:=sV (fun k=>PyData.int (rr k:Int)) hw;rw [rw'] at this;exact this
    have z2:decide ((r:Int)=(r:Int))=true:=dTr rfl;generalize plD L.length (fun k=>(rr k:Int))=PL at *;generalize plD L.length (fun k=>(rr0 k:Int))=P0L at *;generalize nD (due L M w f M)=DU at *;refine ⟨_,[some (.d (.list (ns.map .int))),some (.d (.int (M:Int))),some (.d (.int now)),some (.d (.list (L.map yD))),some (.d (.list P0L)),some (.d (.list (nD (opn L)))),some (.d (.int (i:Int))),some (.d (.int (w:Int))),some (.d (.int (r:Int))),some (.d (.tuple [.str "yes", .list (nD t),.list PL])),some (.d (.bool true)),u11],rfl,.inl ?_,_,_,_,_,_,_,rfl⟩;simp![ak,aC,au,aA,aF,aG,aH,X4,lO,q1,q2,aw,qt,em,ro,iN,at0,at1,at2,Zr,ld,rk,ap,z2,on,fV]
   ·rw [dFa (fun z=>rc (md.mp z))] at iN;obtain ⟨b,eb,_,b1⟩:=Jl ok hw hn hr ef (Q:=Q) (by omega);rw [b1 sh] at eb;have z1:decide ((rr0 w:Int)=(r:Int))=false:=dFa fun z=>rc (Rf ok n0 hw hn hr hf (nf r hr) P0 (by omega))
    generalize plD L.length (fun k=>(rr0 k:Int))=P0L at *;generalize nD (due L M w f M)=DU at *;refine ⟨_,[some (.d (.list (ns.map .int))),some (.d (.int (M:Int))),some (.d (.int now)),some (.d (.list (L.map yD))),some (.d (.list P0L)),some (.d (.list (nD (opn L)))),some (.d (.int (i:Int))),some (.d (.int (w:Int))),some (.d (.int (r:Int))),some (.d (.tuple [.str "no", .list (Q.map .int)])),some (.d (.bool false)),some (.d (.bool true))],rfl,.inl ?_,_,_,_,_,_,_,rfl⟩;simp![ak,aC,au,aA,aF,aG,aH,X4,lO,q1,q2,aw,qt,em,ro,iN,at0,at1,Zt,eb,a0,z1,nT])
 unfold Ly;simp![ak,aC,au,aA,aF,aG,aH,p3,eM.symm,en,eS,qt,e0,pt0,nT,lL,rg,lr,C,lO,hm,rgm];rw [e];simp![ak,aC,au,aA,aF,aG,aH]
end K49
namespace K49
open PySem PySem.Spec PyProof.Rows L2 My D3 XS XK
def top (i:Nat):Stmt:=PySem.Challenge.pw_nightbook_k49_whole_to_the_evening.main.body.getD i (.Pass ⟨0,0,0,0⟩)
section
seal PE PT PW PA PS PSs PG PGs PI PO PTs
variable {P:Program} {w:World} {K:PySem.W.Frag} {mg:Str→Option Value} {base:Heap} {n:Nat}
theorem Dq (D:Dg K mg "is_whole" (top 8) ["thing"]) (B:Bl mg):Has P w K mg base (n + 1) "is_whole" ["thing"] (spD K gQ):=by
 have sc:FnScope ["thing"] ["thing"] (bA (top 8)):=fsc;exact dh (fl:=[.A]) D sc (by decide) (by decide) fun f cdv A outer s H E hr=>aO (bN (bT (nY (bG (wR (T := "int") (by decide) (vP 0) (by rfl) B.isinstance_ (by rfl) B.int_ PyProof.Rows.boot_int)) (ql (Sx (bG (wR (T := "bool") (by decide) (vP 0) (by rfl) B.isinstance_ (by rfl) B.bool_ PyProof.Rows.boot_bool)))))))
theorem Ay (D:Dg K mg "all_whole" (top 9) ["things"]) (B:Bl mg) (his_whole:Has P w K mg base n "is_whole" ["thing"] (spD K gQ)):Has P w K mg base (n + 1) "all_whole" ["things"] (spD K iV):=by
 have sc:FnScope ["things"] ["things"] (bA (top 9)):=fsc;exact dh (fl:=[.A]) D sc (by decide) (by decide) fun f cdv A outer s H E hr=>aO (bN (bT (dW (zq rfl) QW (by rfl) B.all_ (show bootBuiltins "all" = some (.builtin "all") by decide +kernel) (dq (bG (iG (L:=[]) (fl':=[.A]) rfl ["thing"] [] [] (Te (vB 0)) (fun _ _ _ _ _=>gN' (i:=0) (show (["thing"]:List Str).Nodup by decide +kernel)) (fun _ _ _ _ _=>m9) (fun _ _ _ _ _=>bf his_whole hr (dq (vP 0) dz)))) dz))))
theorem yp (D:Dg K mg "is_tuple_of" (top 10) ["thing", "many"]) (B:Bl mg) (hall_whole:Has P w K mg base n "all_whole" ["things"] (spD K iV)):Has P w K mg base (n + 1) "is_tuple_of" ["thing", "many"] (spD K mC):=by
 have sc:FnScope ["thing", "many"] ["thing", "many"] (bA (top 10)):=fsc;exact dh (fl:=[.A,.A]) D sc (by decide) (by decide) fun f cdv A outer s H E hr=>aO (bN (tW (nY (bG (wR (T := "tuple") (by decide) (vP 0) (by rfl) B.isinstance_ (by rfl) B.tuple_ PyProof.Rows.boot_tuple)) (nY (bG (jF (gP hr.units) mV (bG (dW cC jN (by rfl) B.len_ PySem.boot_len (dq (vP 0) dz))) (vP 1) (cg _))) (ql (bf hall_whole hr (dq (vP 0) dz)))))))
theorem Fz (D:Dg K mg "is_pair" (top 11) ["thing"]) (B:Bl mg) (his_tuple_of:Has P w K mg base n "is_tuple_of" ["thing", "many"] (spD K mC)):Has P w K mg base (n + 1) "is_pair" ["thing"] (spD K pN):=by
 have sc:FnScope ["thing"] ["thing"] (bA (top 11)):=fsc;exact dh (fl:=[.A]) D sc (by decide) (by decide) fun f cdv A outer s H E hr=>aO (bN (tW (bf his_tuple_of hr (dq (vP 0) (dq iP dz)))))
theorem uY (D:Dg K mg "is_whole_list" (top 12) ["thing"]) (B:Bl mg) (hall_whole:Has P w K mg base n "all_whole" ["things"] (spD K iV)):Has P w K mg base (n + 1) "is_whole_list" ["thing"] (spD K eV):=by
 have sc:FnScope ["thing"] ["thing"] (bA (top 12)):=fsc;exact dh (fl:=[.A]) D sc (by decide) (by decide) fun f cdv A outer s H E hr=>aO (bN (tW (nY (bG (wR (T := "list") (by decide) (vP 0) (by rfl) B.isinstance_ (by rfl) B.list_ PyProof.Rows.boot_list)) (ql (bf hall_whole hr (dq (vP 0) dz))))))
theorem Az (D:Dg K mg "is_rising" (top 13) ["numbers"]) (B:Bl mg):Has P w K mg base (n + 1) "is_rising" ["numbers"] (spD K iU):=by
 have sc:FnScope ["numbers"] ["numbers"] (bA (top 13)):=fsc;exact dh (fl:=[.A]) D sc (by decide) (by decide) fun f cdv A outer s H E hr=>aO (bN (bT (dW (zq rfl) QW (by rfl) B.all_ (show bootBuiltins "all" = some (.builtin "all") by decide +kernel) (dq (bG (iG (L:=[]) (fl':=[.A,.A]) rfl ["one", "other"] [] [] (z_ (L1:=[]) (L2:=[]) (vB 0) (dN (nW (Km (vB 0) (z8 iP) z7))) (by rfl) B.zip_) (fun _ _ _ _ _=>mW rfl (dg (gN' (i:=0) (show (["one", "other"]:List Str).Nodup by decide +kernel)) (dg (gN' (i:=1) (show (["one", "other"]:List Str).Nodup by decide +kernel)) (jX)))) (fun _ _ _ _ _=>m9) (fun _ _ _ _ _=>h_ (jF mD b_lt (vP 0) (vP 1) (cg _))))) dz))))
theorem yF (D:Dg K mg "is_stretch" (top 16) ["thing"]) (B:Bl mg) (his_pair:Has P w K mg base n "is_pair" ["thing"] (spD K pN)) (gNIGHTS:∃ t,mg "NIGHTS" = some (.int 400 t)):Has P w K mg base (n + 1) "is_stretch" ["thing"] (spD K lG):=by
 have sc:FnScope ["thing"] ["thing"] (bA (top 16)):=fsc;exact dh (fl:=[.A]) D sc (by decide) (by decide) fun f cdv A outer s H E hr=>aO (bN (bT (nY (cY (bf his_pair hr (dq (vP 0) dz))) (ql (HY qJ mD qJ vK b_lt vK iP (bZ (dx (vB 0) iP)) (bZ (dx (vB 0) iP)) (bG (Nz gNIGHTS)))))))
theorem A_ (D:Dg K mg "nights_of" (top 17) ["stay"]) (B:Bl mg):Has P w K mg base (n + 1) "nights_of" ["stay"] (spD K b_):=by
 have sc:FnScope ["stay"] ["stay"] (bA (top 17)):=fsc;exact dh (fl:=[.A]) D sc (by decide) (by decide) fun f cdv A outer s H E hr=>aO (bN (mY rfl (dq (bT (eF (bZ (dx (vB 0) iP)))) (dq (bT (eF (bZ (dx (vB 0) iP)))) dz))))
theorem MK (D:Dg K mg "holds" (top 18) ["stretch", "night"]) (B:Bl mg):Has P w K mg base (n + 1) "holds" ["stretch", "night"] (spD K ig):=by
 have sc:FnScope ["stretch", "night"] ["stretch", "night"] (bA (top 18)):=fsc;exact dh (fl:=[.A,.A]) D sc (by decide) (by decide) fun f cdv A outer s H E hr=>aO (bN (bT (wQ qJ mD vK b_lt (bZ (dx (vB 0) iP)) (vP 1) (bZ (dx (vB 0) iP)))))
theorem Jr (D:Dg K mg "shared" (top 19) ["one", "other"]) (B:Bl mg):Has P w K mg base (n + 1) "shared" ["one", "other"] (spD K pJ):=by
 have sc:FnScope ["one", "other", "first", "behind"] ["one", "other"] (bA (top 19)):=fsc;exact dh (fl:=[.A,.A,.A,.A]) D sc (by decide) (by decide) fun f cdv A outer s H E hr=>aL (sA (i:=2) sc.nd (fJ (dW (uG rfl) Eo (by rfl) B.max_ PyProof.Rows.boot_max (dq (bZ (dx (vB 0) iP)) (dq (bZ (dx (vB 1) iP)) dz)))))
  (aL (sA (i:=3) sc.nd (fJ (dW (nA rfl) uO (by rfl) B.min_ PyProof.Rows.boot_min (dq (bZ (dx (vB 0) iP)) (dq (bZ (dx (vB 1) iP)) dz)))))
  (aL (dF (cI Ge NT (vP 2) (vP 3) (cg _)) (aO (bN (bT (wM)))) (cA))
  (aO (bN (mY rfl (dq (bT (eF (vP 2))) (dq (bT (eF (vP 3))) dz)))))))
theorem MN (D:Dg K mg "meets" (top 20) ["one", "other"]) (B:Bl mg) (hshared:Has P w K mg base n "shared" ["one", "other"] (spD K pJ)):Has P w K mg base (n + 1) "meets" ["one", "other"] (spD K nq):=by
 have sc:FnScope ["one", "other"] ["one", "other"] (bA (top 20)):=fsc;exact dh (fl:=[.A,.A]) D sc (by decide) (by decide) fun f cdv A outer s H E hr=>aO (bN (bT (Gu (cY (bf hshared hr (dq (vP 0) (dq (vP 1) dz)))))))
theorem Dr (D:Dg K mg "count_at" (top 21) ["stretches", "night"]) (B:Bl mg) (hholds:Has P w K mg base n "holds" ["stretch", "night"] (spD K ig)):Has P w K mg base (n + 1) "count_at" ["stretches", "night"] (spD K jc):=by
 have sc:FnScope ["stretches", "night"] ["stretches", "night"] (bA (top 21)):=fsc;exact dh (fl:=[.A,.A]) D sc (by decide) (by decide) fun f cdv A outer s H E hr=>aO (bN (bT (dW cC jN (by rfl) B.len_ PySem.boot_len (dq (bG (iG (L:=[]) (fl':=[.A,.A]) rfl ["stretch"] ["night"] [1] (fM (vB 0)) (fun _ _ _ _ _=>gN' (i:=0) (show (["stretch", "night"]:List Str).Nodup by decide +kernel)) (fun _ _ _ _ _=>jq (jr (cY (bf hholds hr (dq (vP 0) (dq (vP 1) dz)))))) (fun _ _ _ _ _=>h_ (eF (vP 0))))) dz))))
theorem Js (D:Dg K mg "firsts" (top 22) ["stretches"]) (B:Bl mg):Has P w K mg base (n + 1) "firsts" ["stretches"] (spD K n8):=by
 have sc:FnScope ["stretches"] ["stretches"] (bA (top 22)):=fsc;exact dh (fl:=[.A]) D sc (by decide) (by decide) fun f cdv A outer s H E hr=>aO (bN (bT (iG (L:=[]) (fl':=[.A]) rfl ["stretch"] [] [] (fM (vB 0)) (fun _ _ _ _ _=>gN' (i:=0) (show (["stretch"]:List Str).Nodup by decide +kernel)) (fun _ _ _ _ _=>m9) (fun _ _ _ _ _=>h_ (eF (bZ (dx (vB 0) iP)))))))
theorem Jt (D:Dg K mg "fuller" (top 23) ["stretches", "many", "since"]) (B:Bl mg) (hcount_at:Has P w K mg base n "count_at" ["stretches", "night"] (spD K jc)) (hfirsts:Has P w K mg base n "firsts" ["stretches"] (spD K n8)):Has P w K mg base (n + 1) "fuller" ["stretches", "many", "since"] (spD K lF):=by
 have sc:FnScope ["stretches", "many", "since", "later", "night"] ["stretches", "many", "since"] (bA (top 23)):=fsc;exact dh (fl:=[.A,.A,.A,.A,.A]) D sc (by decide) (by decide) fun f cdv A outer s H E hr=>aL (tZ (i:=3) (L:=[]) (fl':=[.A,.A]) rfl sc.nd rfl rfl rfl ["first"] ["since"] [2] (fM (dN (iB (bf hfirsts hr (dq (vP 0) dz))))) (fun _ _ _ _ _=>gN' (i:=0) (show (["first", "since"]:List Str).Nodup by decide +kernel)) (fun _ _ _ _ _=>jq (cI sW yw (vP 0) (vP 1) (cg _))) (fun _ _ _ _ _=>h_ (eF (vP 0))))
  (aL (iJ (L:=[]) PassesOwn.never rfl (fM (dN (nW (uP (dN (nW (su (dq (vA 2) dz)))) (dN (fJ (zp (dq (vP 3) dz) (by rfl) B.sorted_))))))) (gN' (i:=4) sc.nd) (aO (dF (cI sW yw (cY (bf hcount_at hr (dq (vP 0) (dq (vP 4) dz)))) (vP 1) (cg _)) (aO (bN (bT (eF (vP 4))))) (cA))))
  (aO (bN (bT (wM)))))
theorem FJ (D:Dg K mg "is_stay" (top 25) ["thing", "rooms", "now"]) (B:Bl mg) (his_whole:Has P w K mg base n "is_whole" ["thing"] (spD K gQ)) (his_stretch:Has P w K mg base n "is_stretch" ["thing"] (spD K lG)) (hnights_of:Has P w K mg base n "nights_of" ["stay"] (spD K b_)) (hholds:Has P w K mg base n "holds" ["stretch", "night"] (spD K ig)):Has P w K mg base (n + 1) "is_stay" ["thing", "rooms", "now"] (spD K lZ):=by
 have sc:FnScope ["thing", "rooms", "now", "room"] ["thing", "rooms", "now"] (bA (top 25)):=fsc;exact dh (fl:=[.A,.A,.A,.A]) D sc (by decide) (by decide) fun f cdv A outer s H E hr=>aL (dF (pq (mZ (jZ (jr (bG (wR (T := "tuple") (by decide) (vP 0) (by rfl) B.isinstance_ (by rfl) B.tuple_ PyProof.Rows.boot_tuple)))) (mZ (cI (rD hr.units) Ca (bG (dW cC jN (by rfl) B.len_ PySem.boot_len (dq (vP 0) dz))) iP (cg _)) (lW (jZ (jr (cY (bf his_stretch hr (dq (cY (bf hnights_of hr (dq (vP 0) dz))) dz))))))))) (aO (bN (bT (jM)))) (cA))
  (aL (sA (i:=3) sc.nd (dx (vB 0) iP))
  (aL (dF (uR (vP 3)) (aO (bN (bT (jF Ge NT (bZ (dx (vB 0) iP)) (vP 2) (cg _))))) (cA))
  (aO (bN (tW (nY (cY (bf his_whole hr (dq (vP 3) dz))) (nY (bG (wQ qJ mD vK b_lt iP (vP 3) (vP 1))) (ql (bf hholds hr (dq (cY (bf hnights_of hr (dq (vP 0) dz))) (dq (vP 2) dz)))))))))))
theorem yq (D:Dg K mg "check_stays" (top 26) ["stays", "rooms", "now"]) (B:Bl mg) (his_stay:Has P w K mg base n "is_stay" ["thing", "rooms", "now"] (spD K lZ)):Has P w K mg base (n + 1) "check_stays" ["stays", "rooms", "now"] (spD K fZ):=by
 have sc:FnScope ["stays", "rooms", "now", "taken", "at", "stay"] ["stays", "rooms", "now"] (bA (top 26)):=fsc;exact dh (fl:=[.A,.A,.A,.N,.A,.A]) D sc (by decide) (by decide) fun f cdv A outer s H E hr=>aL (Gw (i:=3) rfl sc.nd rfl (by first | exact Or.inl rfl | exact Or.inr rfl) (Og))
  (aO (iJ (L:=[]) PassesOwn.never rfl (sE (vB 0) (by rfl) B.enumerate_) (mW rfl (dg (gN' (i:=4) sc.nd) (dg (gN' (i:=5) sc.nd) (jX)))) (aL (dF (jZ (jr (cY (bf his_stay hr (dq (vP 5) (dq (vP 1) (dq (vP 2) dz))))))) (aO (nZ)) (cA))
  (aL (dF (cI (XB.Tp hr.units) XB.Wi (bZ (dx (vB 5) iP)) (Gv 3 rfl) (by with_unfolding_all rfl)) (aO (nZ)) (cA))
  (aO (dF (oU (bZ (dx (vB 5) iP))) (aO (XB.OD (XK.hu1 hr.units) (i:=3) rfl QG (bZ (dx (vB 5) iP)) rfl)) (cA)))))))
theorem yG (D:Dg K mg "check_full" (top 27) ["stays", "rooms", "now"]) (B:Bl mg) (hnights_of:Has P w K mg base n "nights_of" ["stay"] (spD K b_)) (hfuller:Has P w K mg base n "fuller" ["stretches", "many", "since"] (spD K lF)):Has P w K mg base (n + 1) "check_full" ["stays", "rooms", "now"] (spD K fW):=by
 have sc:FnScope ["stays", "rooms", "now", "night"] ["stays", "rooms", "now"] (bA (top 27)):=fsc;exact dh (fl:=[.A,.A,.A,.A]) D sc (by decide) (by decide) fun f cdv A outer s H E hr=>aL (sA (i:=3) sc.nd (iB (bf hfuller hr (dq (bG (iG (L:=[]) (fl':=[.A]) rfl ["stay"] [] [] (fM (vB 0)) (fun _ _ _ _ _=>gN' (i:=0) (show (["stay"]:List Str).Nodup by decide +kernel)) (fun _ _ _ _ _=>m9) (fun _ _ _ _ _=>bf hnights_of hr (dq (vP 0) dz)))) (dq (vP 1) (dq (vP 2) dz))))))
  (aO (dF (oU (vP 3)) (aO (nZ)) (cA)))
theorem uZ {Pt:Addr} (D:XL.DgT K mg "still_to_come" (top 28) ["stays"] Pt "still_to_come.<locals>.<lambda>" ⟨86,30,86,59⟩) (B:Bl mg):Has P w K mg base (n + 1) "still_to_come" ["stays"] (spD K gR):=by
 have sc:FnScope ["stays", "places"] ["stays"] (bA (top 28)):=fsc;exact XL.K1 (fl:=[.A,.A]) D sc (by decide) (by decide) fun f c A outer s H E hcd hr=>aL (tZ (i:=1) (L:=[]) (fl':=[.A,.A]) rfl sc.nd rfl rfl rfl ["place", "stay"] [] [] (sE (vB 0) (by rfl) B.enumerate_) (fun _ _ _ _ _=>mW rfl (dg (gN' (i:=0) (show (["place", "stay"]:List Str).Nodup by decide +kernel)) (dg (gN' (i:=1) (show (["place", "stay"]:List Str).Nodup by decide +kernel)) (jX)))) (fun _ _ _ _ _=>jq (uR (bZ (dx (vB 1) iP)))) (fun _ _ _ _ _=>h_ (eF (vP 0))))
  (aO (bN (bT (XL.xJ (i:=0) ⟨⟨_,rfl,hcd⟩,rfl,D.tb⟩ hr (dq (vP 1) En) (by rfl) B.sorted_ rfl rfl rfl rfl (fun _ h=>XL.CQ rfl h) (fun _ _ _ _ _=>rfl) rfl rfl rfl (by decide +kernel) rfl rfl (by decide) (by decide) (by decide) rfl rfl))))
theorem yH (D:Dg K mg "beginnings" (top 29) ["stays", "rooms", "now"]) (B:Bl mg):Has P w K mg base (n + 1) "beginnings" ["stays", "rooms", "now"] (spD K cD):=by
 have sc:FnScope ["stays", "rooms", "now", "nights", "stay"] ["stays", "rooms", "now"] (bA (top 29)):=fsc;exact dh (fl:=[.A,.A,.A,.O,.A]) D sc (by decide) (by decide) fun f cdv A outer s H E hr=>aL (m8 (i:=3) rfl sc.nd rfl (by first | exact Or.inl rfl | exact Or.inr rfl) (SJ (su (dq (vA 2) dz)) (vP 1)))
  (aL (iJ (L:=[]) PassesOwn.never rfl (fM (vB 0)) (gN' (i:=4) sc.nd) (aO (dF (oU (bZ (dx (vB 4) iP))) (aO (wN (i:=3) rfl (dx (vB 4) iP) (bZ (dx (vB 4) iP)) rfl)) (cA))))
  (aO (bN (oO 3 (by decide)))))
theorem yI (D:Dg K mg "first_free" (top 30) ["begin", "night"]) (B:Bl mg):Has P w K mg base (n + 1) "first_free" ["begin", "night"] (spD K fX):=by
 have sc:FnScope ["begin", "night"] ["begin", "night"] (bA (top 30)):=fsc;exact dh (fl:=[.A,.A]) D sc (by decide) (by decide) fun f cdv A outer s H E hr=>aO (bN (bT (eF (bZ (dx (dN (fJ (iG (L:=[]) (fl':=[.A,.A,.A]) rfl ["room", "since"] ["night"] [1] (sE (vB 0) (by rfl) B.enumerate_) (fun _ _ _ _ _=>mW rfl (dg (gN' (i:=0) (show (["room", "since", "night"]:List Str).Nodup by decide +kernel)) (dg (gN' (i:=1) (show (["room", "since", "night"]:List Str).Nodup by decide +kernel)) (jX)))) (fun _ _ _ _ _=>jq (cI qJ vK (vP 1) (vP 2) (cg _))) (fun _ _ _ _ _=>h_ (eF (vP 0)))))) iP)))))
theorem Ju (D:Dg K mg "filled" (top 31) ["stays", "plan", "begin"]) (B:Bl mg) (hstill_to_come:Has P w K mg base n "still_to_come" ["stays"] (spD K gR)) (hfirst_free:Has P w K mg base n "first_free" ["begin", "night"] (spD K fX)):Has P w K mg base (n + 1) "filled" ["stays", "plan", "begin"] (spD K lH):=by
 have sc:FnScope ["stays", "plan", "begin", "seats", "free_since", "place", "room"] ["stays", "plan", "begin"] (bA (top 31)):=fsc;exact dh (fl:=[.A,.A,.A,.O,.O,.A,.A]) D sc (by decide) (by decide) fun f cdv A outer s H E hr=>aL (m8 (i:=3) rfl sc.nd rfl (by first | exact Or.inl rfl | exact Or.inr rfl) (gH (vB 1) (by rfl) B.list_))
  (aL (m8 (i:=4) rfl sc.nd rfl (by first | exact Or.inl rfl | exact Or.inr rfl) (gH (vB 2) (by rfl) B.list_))
  (aL (iJ (L:=[]) PassesOwn.never rfl (fM (dN (iB (bf hstill_to_come hr (dq (vP 0) dz))))) (gN' (i:=5) sc.nd) (aO (dF (uR (bZ (dx (o_ 3) (vP 5)))) (aL (sA (i:=6) sc.nd (iB (bf hfirst_free hr (dq (tX (o_ 4)) (dq (bZ (dx (dN (dx (vB 0) (vP 5))) iP)) dz)))))
  (aL (wN (i:=3) rfl (vA 6) (vP 5) rfl)
  (aO (wN (i:=4) rfl (dx (dN (dx (vB 0) (vP 5))) iP) (vP 6) rfl)))) (cA))))
  (aO (bN (oO 3 (by decide))))))
theorem Jv (D:Dg K mg "seated" (top 32) ["stays", "rooms", "now"]) (B:Bl mg) (hcheck_stays:Has P w K mg base n "check_stays" ["stays", "rooms", "now"] (spD K fZ)) (hcheck_full:Has P w K mg base n "check_full" ["stays", "rooms", "now"] (spD K fW)) (hbeginnings:Has P w K mg base n "beginnings" ["stays", "rooms", "now"] (spD K cD)) (hfilled:Has P w K mg base n "filled" ["stays", "plan", "begin"] (spD K lH)):Has P w K mg base (n + 1) "seated" ["stays", "rooms", "now"] (spD K rW):=by
 have sc:FnScope ["stays", "rooms", "now"] ["stays", "rooms", "now"] (bA (top 32)):=fsc;exact dh (fl:=[.A,.A,.A]) D sc (by decide) (by decide) fun f cdv A outer s H E hr=>aL (lE (cY (bf hcheck_stays hr (dq (vP 0) (dq (vP 1) (dq (vP 2) dz))))))
  (aL (lE (cY (bf hcheck_full hr (dq (vP 0) (dq (vP 1) (dq (vP 2) dz))))))
  (aO (bN (tW (bf hfilled hr (dq (vP 0) (dq (bG (iG (L:=[]) (fl':=[.A]) rfl ["stay"] [] [] (fM (vB 0)) (fun _ _ _ _ _=>gN' (i:=0) (show (["stay"]:List Str).Nodup by decide +kernel)) (fun _ _ _ _ _=>m9) (fun _ _ _ _ _=>h_ (eF (bZ (dx (vB 0) iP)))))) (dq (cY (bf hbeginnings hr (dq (vP 0) (dq (vP 1) (dq (vP 2) dz))))) dz))))))))
theorem Ba (D:Dg K mg "check_who" (top 34) ["stays", "rooms", "now", "who"]) (B:Bl mg) (hcheck_stays:Has P w K mg base n "check_stays" ["stays", "rooms", "now"] (spD K fZ)) (hcheck_full:Has P w K mg base n "check_full" ["stays", "rooms", "now"] (spD K fW)):Has P w K mg base (n + 1) "check_who" ["stays", "rooms", "now", "who"] (spD K iW):=by
 have sc:FnScope ["stays", "rooms", "now", "who"] ["stays", "rooms", "now", "who"] (bA (top 34)):=fsc;exact dh (fl:=[.A,.A,.A,.A]) D sc (by decide) (by decide) fun f cdv A outer s H E hr=>aL (lE (cY (bf hcheck_stays hr (dq (vP 0) (dq (vP 1) (dq (vP 2) dz))))))
  (aL (lE (cY (bf hcheck_full hr (dq (vP 0) (dq (vP 1) (dq (vP 2) dz))))))
  (aO (dF (pq (mZ (jZ (Ck qJ mD vK b_lt iP (vP 3) (bG (dW cC jN (by rfl) B.len_ PySem.boot_len (dq (vP 0) dz))))) (lW (oU (bZ (dx (dN (dx (vB 0) (vP 3))) iP)))))) (aO (nZ)) (cA))))
theorem yJ (D:Dg K mg "check_room" (top 35) ["rooms", "room"]) (B:Bl mg):Has P w K mg base (n + 1) "check_room" ["rooms", "room"] (spD K fL):=by
 have sc:FnScope ["rooms", "room"] ["rooms", "room"] (bA (top 35)):=fsc;exact dh (fl:=[.A,.A]) D sc (by decide) (by decide) fun f cdv A outer s H E hr=>aO (dF (jZ (Ck qJ mD vK b_lt iP (vP 1) (vP 0))) (aO (nZ)) (cA))
theorem Ds (D:Dg K mg "is_tight" (top 36) ["stays", "rooms", "night"]) (B:Bl mg) (hnights_of:Has P w K mg base n "nights_of" ["stay"] (spD K b_)) (hcount_at:Has P w K mg base n "count_at" ["stretches", "night"] (spD K jc)):Has P w K mg base (n + 1) "is_tight" ["stays", "rooms", "night"] (spD K jO):=by
 have sc:FnScope ["stays", "rooms", "night"] ["stays", "rooms", "night"] (bA (top 36)):=fsc;exact dh (fl:=[.A,.A,.A]) D sc (by decide) (by decide) fun f cdv A outer s H E hr=>aO (bN (bT (jF (gP hr.units) mV (cY (bf hcount_at hr (dq (bG (iG (L:=[]) (fl':=[.A]) rfl ["stay"] [] [] (fM (vB 0)) (fun _ _ _ _ _=>gN' (i:=0) (show (["stay"]:List Str).Nodup by decide +kernel)) (fun _ _ _ _ _=>m9) (fun _ _ _ _ _=>bf hnights_of hr (dq (vP 0) dz)))) (dq (vP 2) dz)))) (vP 1) (cg _))))
theorem yK (D:Dg K mg "goes_ahead" (top 37) ["stays", "who", "place", "night"]) (B:Bl mg):Has P w K mg base (n + 1) "goes_ahead" ["stays", "who", "place", "night"] (spD K fY):=by
 have sc:FnScope ["stays", "who", "place", "night", "stay"] ["stays", "who", "place", "night"] (bA (top 37)):=fsc;exact dh (fl:=[.A,.A,.A,.A,.A]) D sc (by decide) (by decide) fun f cdv A outer s H E hr=>aL (sA (i:=4) sc.nd (dx (vB 0) (vP 2)))
  (aO (bN (bT (nY (bG (jF (rD hr.units) Ca (vP 2) (vP 1) (cg _))) (nY (bG (Sy (bZ (dx (vB 4) iP)))) (nY (bG (jF (gP hr.units) mV (bZ (dx (vB 4) iP)) (vP 3) (cg _))) (ql (jF qJ vK (bZ (dx (vB 4) iP)) (bZ (dx (dN (dx (vB 0) (vP 1))) iP)) (cg _)))))))))
theorem yL (D:Dg K mg "steps_from" (top 38) ["stays", "rooms", "who", "night"]) (B:Bl mg) (his_tight:Has P w K mg base n "is_tight" ["stays", "rooms", "night"] (spD K jO)) (hgoes_ahead:Has P w K mg base n "goes_ahead" ["stays", "who", "place", "night"] (spD K fY)):Has P w K mg base (n + 1) "steps_from" ["stays", "rooms", "who", "night"] (spD K eU):=by
 have sc:FnScope ["stays", "rooms", "who", "night", "steps"] ["stays", "rooms", "who", "night"] (bA (top 38)):=fsc;exact dh (fl:=[.A,.A,.A,.A,.O]) D sc (by decide) (by decide) fun f cdv A outer s H E hr=>aL (Ce (i:=4) (L:=[]) (fl':=[.A,.A,.A,.A,.A]) rfl sc.nd rfl rfl rfl ["place", "stay"] ["stays", "who", "night"] [0,2,3] (sE (vB 0) (by rfl) B.enumerate_) (fun _ _ _ _ _=>mW rfl (dg (gN' (i:=0) (show (["place", "stay", "stays", "who", "night"]:List Str).Nodup by decide +kernel)) (dg (gN' (i:=1) (show (["place", "stay", "stays", "who", "night"]:List Str).Nodup by decide +kernel)) (jX)))) (fun _ _ _ _ _=>jq (jr (cY (bf hgoes_ahead hr (dq (vP 2) (dq (vP 3) (dq (vP 0) (dq (vP 4) dz)))))))) (fun _ _ _ _ _=>h_ (eF (bZ (mY rfl (dq (dx (vB 1) iP) (dq (vA 0) dz)))))))
  (aL (dF (jZ (jr (cY (bf his_tight hr (dq (vP 0) (dq (vP 1) (dq (vP 3) dz))))))) (aO (uN (i:=4) rfl (iB (mY rfl (dq (h_ (dH gh jj (vP 3) iP)) (dq (h_ (wM)) dz)))) rfl)) (cA))
  (aO (bN (oO 4 (by decide)))))
theorem uy (D:Dg K mg "nights_reached" (top 39) ["stays", "rooms", "who", "begin"]) (B:Bl mg) (hsteps_from:Has P w K mg base n "steps_from" ["stays", "rooms", "who", "night"] (spD K eU)):Has P w K mg base (n + 1) "nights_reached" ["stays", "rooms", "who", "begin"] (spD K fU):=by
 have sc:FnScope ["stays", "rooms", "who", "begin", "reached", "night", "step"] ["stays", "rooms", "who", "begin"] (bA (top 39)):=fsc;exact dh (fl:=[.A,.A,.A,.A,.N,.A,.A]) D sc (by decide) (by decide) fun f cdv A outer s H E hr=>aL (Gw (i:=4) rfl sc.nd rfl (by first | exact Or.inl rfl | exact Or.inr rfl) (XD.KN (vP 3)))
  (aL (iJ (L:=[]) PassesOwn.never rfl (zm (by rfl) B.range_ (pI (dq (vP 3) (dq (bZ (dx (dN (dx (vB 0) (vP 2))) iP)) dz)))) (gN' (i:=5) sc.nd) (aO (dF (cI (XK.Tj hr.units) XD.Tr (vP 5) (Gv 4 rfl) (by with_unfolding_all rfl)) (aO (iJ (L:=[]) PassesOwn.never rfl (fM (dN (iB (bf hsteps_from hr (dq (vP 0) (dq (vP 1) (dq (vP 2) (dq (vP 5) dz)))))))) (gN' (i:=6) sc.nd) (aO (XD.Tz (i:=4) rfl (bZ (dx (vB 6) iP)) (bZ (mY rfl (dq (vA 5) (dq (dx (vB 6) iP) dz)))) rfl ⟨rfl,rfl,rfl,rfl⟩)))) (cA))))
  (aO (bN (Kr 4 rfl))))
theorem Dt (D:Dg K mg "chain_to" (top 40) ["reached", "last"]) (B:Bl mg):Has P w K mg base (n + 1) "chain_to" ["reached", "last"] (spD K n_):=by
 have sc:FnScope ["reached", "last", "chain", "night", "place"] ["reached", "last"] (bA (top 40)):=fsc;exact dh (fl:=[.A,.A,.O,.A,.A]) D sc (by decide) (by decide) fun f cdv A outer s H E hr=>aL (m8 (i:=2) rfl sc.nd rfl (by first | exact Or.inl rfl | exact Or.inr rfl) (tG (jU dz)))
  (aL (sA (i:=3) sc.nd (vA 1))
  (aL (Ke PassesOwn.never (oU (bG (XD.xu (XK.hu1 hr.units) (vP 0) (vP 3) (fun _ _=>rfl)))) (aL (sA (i:=4) sc.nd (dx (dN (fJ (XD.xu (XK.hu1 hr.units) (vP 0) (vP 3) (fun _ _=>rfl)))) iP))
  (aL (dF (oU (vP 4)) (aO (Er (i:=2) rfl iP (vA 4) rfl)) (cA))
  (aO (sA (i:=3) sc.nd (dx (dN (fJ (XD.xu (XK.hu1 hr.units) (vP 0) (vP 3) (fun _ _=>rfl)))) iP))))))
  (aO (bN (oO 2 (by decide))))))
theorem Bb (D:Dg K mg "plan_with" (top 41) ["stays", "rooms", "now", "who", "room", "chain"]) (B:Bl mg) (hbeginnings:Has P w K mg base n "beginnings" ["stays", "rooms", "now"] (spD K cD)) (hfilled:Has P w K mg base n "filled" ["stays", "plan", "begin"] (spD K lH)):Has P w K mg base (n + 1) "plan_with" ["stays", "rooms", "now", "who", "room", "chain"] (spD K mK):=by
 have sc:FnScope ["stays", "rooms", "now", "who", "room", "chain", "plan", "place", "begin"] ["stays", "rooms", "now", "who", "room", "chain"] (bA (top 41)):=fsc;exact dh (fl:=[.A,.A,.A,.A,.A,.A,.O,.A,.O]) D sc (by decide) (by decide) fun f cdv A outer s H E hr=>aL (Ce (i:=6) (L:=[]) (fl':=[.A]) rfl sc.nd rfl rfl rfl ["stay"] [] [] (fM (vB 0)) (fun _ _ _ _ _=>gN' (i:=0) (show (["stay"]:List Str).Nodup by decide +kernel)) (fun _ _ _ _ _=>m9) (fun _ _ _ _ _=>h_ (eF (bZ (dx (vB 0) iP)))))
  (aL (iJ (L:=[]) PassesOwn.never rfl (fM (dN (nW (uP (vB 5) (dN (nW (su (dq (vA 3) dz)))))))) (gN' (i:=7) sc.nd) (aO (wN (i:=6) rfl (vA 4) (vP 7) rfl)))
  (aL (m8 (i:=8) rfl sc.nd rfl (by first | exact Or.inl rfl | exact Or.inr rfl) (tG (J9 (bf hbeginnings hr (dq (vP 0) (dq (vP 1) (dq (vP 2) dz)))))))
  (aL (wN (i:=8) rfl (dx (dN (dx (vB 0) (vP 3))) iP) (vP 4) rfl)
  (aO (bN (tW (bf hfilled hr (dq (vP 0) (dq (tX (o_ 6)) (dq (tX (o_ 8)) dz))))))))))
theorem Du (D:Dg K mg "may_have" (top 42) ["stays", "rooms", "now", "who", "room"]) (B:Bl mg) (hbeginnings:Has P w K mg base n "beginnings" ["stays", "rooms", "now"] (spD K cD)) (hcheck_who:Has P w K mg base n "check_who" ["stays", "rooms", "now", "who"] (spD K iW)) (hcheck_room:Has P w K mg base n "check_room" ["rooms", "room"] (spD K fL)) (hnights_reached:Has P w K mg base n "nights_reached" ["stays", "rooms", "who", "begin"] (spD K fU)) (hchain_to:Has P w K mg base n "chain_to" ["reached", "last"] (spD K n_)) (hplan_with:Has P w K mg base n "plan_with" ["stays", "rooms", "now", "who", "room", "chain"] (spD K mK)):Has P w K mg base (n + 1) "may_have" ["stays", "rooms", "now", "who", "room"] (spD K dD):=by
 have sc:FnScope ["stays", "rooms", "now", "who", "room", "begin", "first", "reached", "chain"] ["stays", "rooms", "now", "who", "room"] (bA (top 42)):=fsc;exact dh (fl:=[.A,.A,.A,.A,.A,.A,.A,.A,.O]) D sc (by decide) (by decide) fun f cdv A outer s H E hr=>aL (lE (cY (bf hcheck_who hr (dq (vP 0) (dq (vP 1) (dq (vP 2) (dq (vP 3) dz)))))))
  (aL (lE (cY (bf hcheck_room hr (dq (vP 1) (dq (vP 4) dz)))))
  (aL (sA (i:=5) sc.nd (dx (dN (iB (bf hbeginnings hr (dq (vP 0) (dq (vP 1) (dq (vP 2) dz)))))) (vP 4)))
  (aL (sA (i:=6) sc.nd (dx (dN (dx (vB 0) (vP 3))) iP))
  (aL (dF (cI sW yw (vP 5) (vP 6) (cg _)) (aO (bN (mY rfl (dq (bT (uL)) (dq (bT (jU dz)) dz))))) (cA))
  (aL (sA (i:=7) sc.nd (iB (bf hnights_reached hr (dq (vP 0) (dq (vP 1) (dq (vP 3) (dq (vP 5) dz)))))))
  (aL (dF (cI (XK.Im hr.units) XD.Ir (vP 6) (vP 7) (by with_unfolding_all rfl)) (aO (bN (mY rfl (dq (bT (uL)) (dq (bT (XD.Iu rfl (dq (vP 7) dz) (by rfl) B.sorted_)) dz))))) (cA))
  (aL (m8 (i:=8) rfl sc.nd rfl (by first | exact Or.inl rfl | exact Or.inr rfl) (tG (J9 (bf hchain_to hr (dq (vP 7) (dq (vP 6) dz))))))
  (aO (bN (mY rfl (dq (bT (uL)) (dq (oO 8 (by decide)) (dq (tW (bf hplan_with hr (dq (vP 0) (dq (vP 1) (dq (vP 2) (dq (vP 3) (dq (vP 4) (dq (tX (o_ 8)) dz)))))))) dz)))))))))))))
theorem Bc (D:Dg K mg "is_closed" (top 43) ["stays", "rooms", "who", "nights"]) (B:Bl mg) (hsteps_from:Has P w K mg base n "steps_from" ["stays", "rooms", "who", "night"] (spD K eU)):Has P w K mg base (n + 1) "is_closed" ["stays", "rooms", "who", "nights"] (spD K gC):=by
 have sc:FnScope ["stays", "rooms", "who", "nights", "night", "step"] ["stays", "rooms", "who", "nights"] (bA (top 43)):=fsc;exact dh (fl:=[.A,.A,.A,.A,.A,.A]) D sc (by decide) (by decide) fun f cdv A outer s H E hr=>aL (iJ (L:=[]) PassesOwn.never rfl (fM (vB 3)) (gN' (i:=4) sc.nd) (aO (iJ (L:=[]) PassesOwn.never rfl (fM (dN (iB (bf hsteps_from hr (dq (vP 0) (dq (vP 1) (dq (vP 2) (dq (vP 4) dz)))))))) (gN' (i:=5) sc.nd) (aO (dF (cI (uT hr.units) Ab (bZ (dx (vB 5) iP)) (vP 3) (by with_unfolding_all rfl)) (aO (bN (bT (jM)))) (cA))))))
  (aO (bN (bT (jM))))
theorem FN (D:Dg K mg "is_shut" (top 44) ["stays", "rooms", "now", "who", "room", "thing"]) (B:Bl mg) (his_whole_list:Has P w K mg base n "is_whole_list" ["thing"] (spD K eV)) (his_rising:Has P w K mg base n "is_rising" ["numbers"] (spD K iU)) (hbeginnings:Has P w K mg base n "beginnings" ["stays", "rooms", "now"] (spD K cD)) (hcheck_who:Has P w K mg base n "check_who" ["stays", "rooms", "now", "who"] (spD K iW)) (hcheck_room:Has P w K mg base n "check_room" ["rooms", "room"] (spD K fL)) (his_closed:Has P w K mg base n "is_closed" ["stays", "rooms", "who", "nights"] (spD K gC)):Has P w K mg base (n + 1) "is_shut" ["stays", "rooms", "now", "who", "room", "thing"] (spD K nJ):=by
 have sc:FnScope ["stays", "rooms", "now", "who", "room", "thing", "begin", "first"] ["stays", "rooms", "now", "who", "room", "thing"] (bA (top 44)):=fsc;exact dh (fl:=[.A,.A,.A,.A,.A,.A,.A,.A]) D sc (by decide) (by decide) fun f cdv A outer s H E hr=>aL (lE (cY (bf hcheck_who hr (dq (vP 0) (dq (vP 1) (dq (vP 2) (dq (vP 3) dz)))))))
  (aL (lE (cY (bf hcheck_room hr (dq (vP 1) (dq (vP 4) dz)))))
  (aL (dF (pq (mZ (jZ (jr (cY (bf his_whole_list hr (dq (vP 5) dz))))) (lW (jZ (jr (cY (bf his_rising hr (dq (vP 5) dz)))))))) (aO (bN (bT (jM)))) (cA))
  (aL (sA (i:=6) sc.nd (dx (dN (iB (bf hbeginnings hr (dq (vP 0) (dq (vP 1) (dq (vP 2) dz)))))) (vP 4)))
  (aL (sA (i:=7) sc.nd (dx (dN (dx (vB 0) (vP 3))) iP))
  (aL (dF (cI sW yw (vP 6) (vP 7) (cg _)) (aO (bN (bT (jF (gP hr.units) mV (vP 5) (bG (jU dz)) (cg _))))) (cA))
  (aL (dF (pq (mZ (cI (uT hr.units) Ab (vP 6) (vP 5) (by with_unfolding_all rfl)) (mZ (cI mD b_lt (bG (dW (Ie rfl) S5 (by rfl) B.min_ PyProof.Rows.boot_min (dq (vP 5) dz))) (vP 6) (cg _)) (lW (cI Ge NT (bG (dW (Ia rfl) SN (by rfl) B.max_ PyProof.Rows.boot_max (dq (vP 5) dz))) (vP 7) (cg _)))))) (aO (bN (bT (jM)))) (cA))
  (aO (bN (tW (bf his_closed hr (dq (vP 0) (dq (vP 1) (dq (vP 3) (dq (vP 5) dz))))))))))))))
theorem Bd (D:Dg K mg "rooms_for" (top 45) ["stays", "rooms", "now", "who"]) (B:Bl mg) (hcheck_who:Has P w K mg base n "check_who" ["stays", "rooms", "now", "who"] (spD K iW)) (hmay_have:Has P w K mg base n "may_have" ["stays", "rooms", "now", "who", "room"] (spD K dD)):Has P w K mg base (n + 1) "rooms_for" ["stays", "rooms", "now", "who"] (spD K kE):=by
 have sc:FnScope ["stays", "rooms", "now", "who"] ["stays", "rooms", "now", "who"] (bA (top 45)):=fsc;exact dh (fl:=[.A,.A,.A,.A]) D sc (by decide) (by decide) fun f cdv A outer s H E hr=>aL (lE (cY (bf hcheck_who hr (dq (vP 0) (dq (vP 1) (dq (vP 2) (dq (vP 3) dz)))))))
  (aO (bN (bT (iG (L:=[]) (fl':=[.A,.A,.A,.A,.A]) rfl ["room"] ["stays", "rooms", "now", "who"] [0,1,2,3] (jh (by rfl) B.range_ (pI (dq (vP 1) dz))) (fun _ _ _ _ _=>gN' (i:=0) (show (["room", "stays", "rooms", "now", "who"]:List Str).Nodup by decide +kernel)) (fun _ _ _ _ _=>jq (cI (gP hr.units) mV (bZ (dx (dN (iB (bf hmay_have hr (dq (vP 1) (dq (vP 2) (dq (vP 3) (dq (vP 4) (dq (vP 0) dz)))))))) iP)) (bG (uL)) (cg _))) (fun _ _ _ _ _=>h_ (eF (vP 0)))))))
theorem FP (D:Dg K mg "hinders" (top 47) ["stay", "night"]) (B:Bl mg):Has P w K mg base (n + 1) "hinders" ["stay", "night"] (spD K kj):=by
 have sc:FnScope ["stay", "night"] ["stay", "night"] (bA (top 47)):=fsc;exact dh (fl:=[.A,.A]) D sc (by decide) (by decide) fun f cdv A outer s H E hr=>aO (bN (bT (nY (bG (QV (bG (Gu (bZ (dx (vB 0) iP)))) (ql (jF mD b_lt (bZ (dx (vB 0) iP)) (vP 1) (cg _))))) (ql (jF sW yw (bZ (dx (vB 0) iP)) (vP 1) (cg _))))))
theorem uz (D:Dg K mg "check_exchange" (top 48) ["stays", "plan", "now", "night", "one", "other"]) (B:Bl mg) (hhinders:Has P w K mg base n "hinders" ["stay", "night"] (spD K kj)):Has P w K mg base (n + 1) "check_exchange" ["stays", "plan", "now", "night", "one", "other"] (spD K fQ):=by
 have sc:FnScope ["stays", "plan", "now", "night", "one", "other", "stay", "room"] ["stays", "plan", "now", "night", "one", "other"] (bA (top 48)):=fsc;exact dh (fl:=[.A,.A,.A,.A,.A,.A,.A,.A]) D sc (by decide) (by decide) fun f cdv A outer s H E hr=>aL (dF (pq (mZ (cI mD b_lt (vP 3) (vP 2) (cg _)) (lW (cI (gP hr.units) mV (vP 4) (vP 5) (cg _))))) (aO (nZ)) (cA))
  (aO (iJ (L:=[]) PassesOwn.never rfl (z_ (L1:=[]) (L2:=[]) (vB 0) (vB 1) (by rfl) B.zip_) (mW rfl (dg (gN' (i:=6) sc.nd) (dg (gN' (i:=7) sc.nd) (jX)))) (aO (dF (pq (rN (pq (mZ (cI (gP hr.units) mV (vP 7) (vP 4) (cg _)) (lW (cI (gP hr.units) mV (vP 7) (vP 5) (cg _))))) (oR (jr (cY (bf hhinders hr (dq (vP 6) (dq (vP 3) dz)))))))) (aO (nZ)) (cA)))))
theorem yr (D:Dg K mg "room_behind" (top 49) ["stay", "room", "night", "one", "other"]) (B:Bl mg):Has P w K mg base (n + 1) "room_behind" ["stay", "room", "night", "one", "other"] (spD K iy):=by
 have sc:FnScope ["stay", "room", "night", "one", "other"] ["stay", "room", "night", "one", "other"] (bA (top 49)):=fsc;exact dh (fl:=[.A,.A,.A,.A,.A]) D sc (by decide) (by decide) fun f cdv A outer s H E hr=>aL (dF (cI mD b_lt (bZ (dx (vB 0) iP)) (vP 2) (cg _)) (aO (bN (bT (eF (vP 1))))) (cA))
  (aL (dF (cI (gP hr.units) mV (vP 1) (vP 3) (cg _)) (aO (bN (bT (eF (vP 4))))) (cA))
  (aL (dF (cI (gP hr.units) mV (vP 1) (vP 4) (cg _)) (aO (bN (bT (eF (vP 3))))) (cA))
  (aO (bN (bT (eF (vP 1)))))))
theorem Bf (D:Dg K mg "exchanged" (top 50) ["stays", "plan", "now", "night", "one", "other"]) (B:Bl mg) (hcheck_exchange:Has P w K mg base n "check_exchange" ["stays", "plan", "now", "night", "one", "other"] (spD K fQ)) (hroom_behind:Has P w K mg base n "room_behind" ["stay", "room", "night", "one", "other"] (spD K iy)):Has P w K mg base (n + 1) "exchanged" ["stays", "plan", "now", "night", "one", "other"] (spD K gD):=by
 have sc:FnScope ["stays", "plan", "now", "night", "one", "other"] ["stays", "plan", "now", "night", "one", "other"] (bA (top 50)):=fsc;exact dh (fl:=[.A,.A,.A,.A,.A,.A]) D sc (by decide) (by decide) fun f cdv A outer s H E hr=>aL (lE (cY (bf hcheck_exchange hr (dq (vP 0) (dq (vP 1) (dq (vP 2) (dq (vP 3) (dq (vP 4) (dq (vP 5) dz)))))))))
  (aO (bN (bT (iG (L:=[]) (fl':=[.A,.A,.A,.A,.A]) rfl ["stay", "room"] ["night", "one", "other"] [3,4,5] (z_ (L1:=[]) (L2:=[]) (vB 0) (vB 1) (by rfl) B.zip_) (fun _ _ _ _ _=>mW rfl (dg (gN' (i:=0) (show (["stay", "room", "night", "one", "other"]:List Str).Nodup by decide +kernel)) (dg (gN' (i:=1) (show (["stay", "room", "night", "one", "other"]:List Str).Nodup by decide +kernel)) (jX)))) (fun _ _ _ _ _=>m9) (fun _ _ _ _ _=>bf hroom_behind hr (dq (vP 0) (dq (vP 1) (dq (vP 2) (dq (vP 3) (dq (vP 4) dz))))))))))
theorem Vd (D:Dg K mg "led" (top 51) ["stays", "now", "plan", "other"]) (B:Bl mg) (hstill_to_come:Has P w K mg base n "still_to_come" ["stays"] (spD K gR)) (hexchanged:Has P w K mg base n "exchanged" ["stays", "plan", "now", "night", "one", "other"] (spD K gD)):Has P w K mg base (n + 1) "led" ["stays", "now", "plan", "other"] (spD K Dc):=by
 have sc:FnScope ["stays", "now", "plan", "other", "steps", "here", "place", "step"] ["stays", "now", "plan", "other"] (bA (top 51)):=fsc;exact dh (fl:=[.A,.A,.A,.A,.O,.A,.A,.A]) D sc (by decide) (by decide) fun f cdv A outer s H E hr=>aL (m8 (i:=4) rfl sc.nd rfl (by first | exact Or.inl rfl | exact Or.inr rfl) (tG (jU dz)))
  (aL (sA (i:=5) sc.nd (nW (gH (vB 2) (by rfl) B.list_)))
  (aL (iJ (L:=[]) PassesOwn.never rfl (fM (dN (iB (bf hstill_to_come hr (dq (vP 0) dz))))) (gN' (i:=6) sc.nd) (aO (dF (cI (rD hr.units) Ca (bZ (dx (vB 5) (vP 6))) (bZ (dx (vB 3) (vP 6))) (cg _)) (aL (sA (i:=7) sc.nd (mY rfl (dq (dx (dN (dx (vB 0) (vP 6))) iP) (dq (dx (vB 5) (vP 6)) (dq (dx (vB 3) (vP 6)) dz)))))
  (aL (sA (i:=5) sc.nd (iB (bf hexchanged hr (dq (vP 0) (dq (vP 5) (dq (vP 1) (dq (bZ (dx (vB 7) iP)) (dq (bZ (dx (vB 7) iP)) (dq (bZ (dx (vB 7) iP)) dz)))))))))
  (aO (uN (i:=4) rfl (vA 7) rfl)))) (cA))))
  (aO (bN (oO 4 (by decide))))))
theorem vM (D:Dg K mg "has_fit_room" (top 53) ["stay", "room", "rooms"]) (B:Bl mg):Has P w K mg base (n + 1) "has_fit_room" ["stay", "room", "rooms"] (spD K cP):=by
 have sc:FnScope ["stay", "room", "rooms"] ["stay", "room", "rooms"] (bA (top 53)):=fsc;exact dh (fl:=[.A,.A,.A]) D sc (by decide) (by decide) fun f cdv A outer s H E hr=>aL (dF (oU (bZ (dx (vB 0) iP))) (aO (bN (bT (jF (gP hr.units) mV (vP 1) (bZ (dx (vB 0) iP)) (cg _))))) (cA))
  (aO (bN (bT (wQ qJ mD vK b_lt iP (vP 1) (vP 2)))))
theorem Dv (D:Dg K mg "is_apart" (top 54) ["stays", "plan", "place"]) (B:Bl mg) (hnights_of:Has P w K mg base n "nights_of" ["stay"] (spD K b_)) (hmeets:Has P w K mg base n "meets" ["one", "other"] (spD K nq)):Has P w K mg base (n + 1) "is_apart" ["stays", "plan", "place"] (spD K iD):=by
 have sc:FnScope ["stays", "plan", "place", "other"] ["stays", "plan", "place"] (bA (top 54)):=fsc;exact dh (fl:=[.A,.A,.A,.A]) D sc (by decide) (by decide) fun f cdv A outer s H E hr=>aL (iJ (L:=[]) PassesOwn.never rfl (jh (by rfl) B.range_ (pI (dq (vP 2) dz))) (gN' (i:=3) sc.nd) (aO (dF (pq (rN (cI (gP hr.units) mV (bZ (dx (vB 1) (vP 3))) (bZ (dx (vB 1) (vP 2))) (cg _)) (oR (jr (cY (bf hmeets hr (dq (cY (bf hnights_of hr (dq (bZ (dx (vB 0) (vP 3))) dz))) (dq (cY (bf hnights_of hr (dq (bZ (dx (vB 0) (vP 2))) dz))) dz)))))))) (aO (bN (bT (jM)))) (cA))))
  (aO (bN (bT (jM))))
theorem FQ (D:Dg K mg "is_plan" (top 55) ["stays", "rooms", "now", "thing"]) (B:Bl mg) (his_whole_list:Has P w K mg base n "is_whole_list" ["thing"] (spD K eV)) (hcheck_stays:Has P w K mg base n "check_stays" ["stays", "rooms", "now"] (spD K fZ)) (hhas_fit_room:Has P w K mg base n "has_fit_room" ["stay", "room", "rooms"] (spD K cP)) (his_apart:Has P w K mg base n "is_apart" ["stays", "plan", "place"] (spD K iD)):Has P w K mg base (n + 1) "is_plan" ["stays", "rooms", "now", "thing"] (spD K gM):=by
 have sc:FnScope ["stays", "rooms", "now", "thing", "place", "stay"] ["stays", "rooms", "now", "thing"] (bA (top 55)):=fsc;exact dh (fl:=[.A,.A,.A,.A,.A,.A]) D sc (by decide) (by decide) fun f cdv A outer s H E hr=>aL (lE (cY (bf hcheck_stays hr (dq (vP 0) (dq (vP 1) (dq (vP 2) dz))))))
  (aL (dF (pq (mZ (jZ (jr (cY (bf his_whole_list hr (dq (vP 3) dz))))) (lW (cI (rD hr.units) Ca (bG (dW cC jN (by rfl) B.len_ PySem.boot_len (dq (vP 3) dz))) (bG (dW cC jN (by rfl) B.len_ PySem.boot_len (dq (vP 0) dz))) (cg _))))) (aO (bN (bT (jM)))) (cA))
  (aL (iJ (L:=[]) PassesOwn.never rfl (sE (vB 0) (by rfl) B.enumerate_) (mW rfl (dg (gN' (i:=4) sc.nd) (dg (gN' (i:=5) sc.nd) (jX)))) (aO (dF (pq (mZ (jZ (jr (cY (bf hhas_fit_room hr (dq (vP 5) (dq (bZ (dx (vB 3) (vP 4))) (dq (vP 1) dz))))))) (lW (jZ (jr (cY (bf his_apart hr (dq (vP 0) (dq (vP 3) (dq (vP 4) dz)))))))))) (aO (bN (bT (jM)))) (cA))))
  (aO (bN (bT (jM))))))
theorem Jw {Pt:Addr} (D:XL.DgT K mg "row_of" (top 56) ["stays", "plan", "room"] Pt "row_of.<locals>.<lambda>" ⟨232,30,232,59⟩) (B:Bl mg):Has P w K mg base (n + 1) "row_of" ["stays", "plan", "room"] (spD K pO):=by
 have sc:FnScope ["stays", "plan", "room", "places"] ["stays", "plan", "room"] (bA (top 56)):=fsc;exact XL.K1 (fl:=[.A,.A,.A,.A]) D sc (by decide) (by decide) fun f c A outer s H E hcd hr=>aL (tZ (i:=3) (L:=[]) (fl':=[.A,.A,.A]) rfl sc.nd rfl rfl rfl ["place", "own"] ["room"] [2] (sE (vB 1) (by rfl) B.enumerate_) (fun _ _ _ _ _=>mW rfl (dg (gN' (i:=0) (show (["place", "own", "room"]:List Str).Nodup by decide +kernel)) (dg (gN' (i:=1) (show (["place", "own", "room"]:List Str).Nodup by decide +kernel)) (jX)))) (fun _ _ _ _ _=>jq (cI (gP hr.units) mV (vP 1) (vP 2) (cg _))) (fun _ _ _ _ _=>h_ (eF (vP 0))))
  (aO (bN (bT (XL.xJ (i:=0) ⟨⟨_,rfl,hcd⟩,rfl,D.tb⟩ hr (dq (vP 3) En) (by rfl) B.sorted_ rfl rfl rfl rfl (fun _ h=>XL.CQ rfl h) (fun _ _ _ _ _=>rfl) rfl rfl rfl (by decide +kernel) rfl rfl (by decide) (by decide) (by decide) rfl rfl))))
theorem FW (D:Dg K mg "free_at" (top 57) ["stays", "plan", "rooms", "night"]) (B:Bl mg) (hnights_of:Has P w K mg base n "nights_of" ["stay"] (spD K b_)) (hholds:Has P w K mg base n "holds" ["stretch", "night"] (spD K ig)):Has P w K mg base (n + 1) "free_at" ["stays", "plan", "rooms", "night"] (spD K jC):=by
 have sc:FnScope ["stays", "plan", "rooms", "night", "held"] ["stays", "plan", "rooms", "night"] (bA (top 57)):=fsc;exact dh (fl:=[.A,.A,.A,.A,.A]) D sc (by decide) (by decide) fun f cdv A outer s H E hr=>aL (sA (i:=4) sc.nd (fJ (iG (L:=[]) (fl':=[.A,.A,.A]) rfl ["stay", "room"] ["night"] [3] (z_ (L1:=[]) (L2:=[]) (vB 0) (vB 1) (by rfl) B.zip_) (fun _ _ _ _ _=>mW rfl (dg (gN' (i:=0) (show (["stay", "room", "night"]:List Str).Nodup by decide +kernel)) (dg (gN' (i:=1) (show (["stay", "room", "night"]:List Str).Nodup by decide +kernel)) (jX)))) (fun _ _ _ _ _=>jq (jr (cY (bf hholds hr (dq (cY (bf hnights_of hr (dq (vP 0) dz))) (dq (vP 2) dz)))))) (fun _ _ _ _ _=>h_ (eF (vP 1))))))
  (aO (bN (bT (iG (L:=[]) (fl':=[.A,.A]) rfl ["room"] ["held"] [4] (jh (by rfl) B.range_ (pI (dq (vP 2) dz))) (fun _ _ _ _ _=>gN' (i:=0) (show (["room", "held"]:List Str).Nodup by decide +kernel)) (fun _ _ _ _ _=>jq (cI (uT hr.units) Ab (vP 0) (vP 1) (by with_unfolding_all rfl))) (fun _ _ _ _ _=>h_ (eF (vP 0)))))))
theorem Bg (D:Dg K mg "_law_cell" (top 59) ["_law_script", "_law_at"]) (B:Bl mg):Has P w K mg base (n + 1) "_law_cell" ["_law_script", "_law_at"] (spD K jk):=by
 have sc:FnScope ["_law_script", "_law_at"] ["_law_script", "_law_at"] (bA (top 59)):=fsc;exact dh (fl:=[.A,.A]) D sc (by decide) (by decide) fun f cdv A outer s H E hr=>aL (dF (cI mD b_lt (vP 1) (bG (dW cC jN (by rfl) B.len_ PySem.boot_len (dq (vP 0) dz))) (cg _)) (aO (bN (bT (dH m5 tY (bZ (dx (vB 0) (vP 1))) iP)))) (cA))
  (aL (dF (cI (gP hr.units) mV (vP 0) (bG (jU dz)) (cg _)) (aO (bN (bT (dH gh jj (bG (dH lD rK iP (vP 1))) iP)))) (cA))
  (aO (bN (bT (dH gh jj (bG (dH m5 tY (bZ (dx (vB 0) (bG (dH m5 tY (bG (dH lD rK (vP 1) iP)) (bG (dW cC jN (by rfl) B.len_ PySem.boot_len (dq (vP 0) dz))))))) iP)) (bG (dH lD rK iP (vP 1))))))))
theorem Bh (D:Dg K mg "_law_part" (top 60) ["_law_script", "_law_at", "_law_k", "_law_many"]) (B:Bl mg) (h_law_cell:Has P w K mg base n "_law_cell" ["_law_script", "_law_at"] (spD K jk)):Has P w K mg base (n + 1) "_law_part" ["_law_script", "_law_at", "_law_k", "_law_many"] (spD K bU):=by
 have sc:FnScope ["_law_script", "_law_at", "_law_k", "_law_many", "_law_number", "_law_j"] ["_law_script", "_law_at", "_law_k", "_law_many"] (bA (top 60)):=fsc;exact dh (fl:=[.A,.A,.A,.A,.A,.A]) D sc (by decide) (by decide) fun f cdv A outer s H E hr=>aL (dF (pq (rN (cI mD b_lt (vP 1) (bG (dW cC jN (by rfl) B.len_ PySem.boot_len (dq (vP 0) dz))) (cg _)) (oR (cI Ge NT (bZ (dx (vB 0) (vP 1))) (bG (dH RV V0 iP iP)) (cg _))))) (aL (sA (i:=4) sc.nd (dx (vB 0) (vP 1)))
  (aL (iJ (L:=[]) PassesOwn.never rfl (jh (by rfl) B.range_ (pI (dq (vP 2) dz))) (gN' (i:=5) sc.nd) (aO (sA (i:=4) sc.nd (fJ (dH Gp QS (vP 4) iP)))))
  (aO (dF (cI sW yw (vP 4) iP (cg _)) (aO (bN (bT (dH m5 tY (bG (dH m5 tY (vP 4) iP)) (vP 3))))) (cA))))) (cA))
  (aL (sA (i:=4) sc.nd (fJ (dH m5 tY (bG (dH lD rK (bG (dH gh jj (bG (dH gh jj (cY (bf h_law_cell hr (dq (vP 0) (dq (vP 1) dz)))) (bG (dH lD rK iP (vP 1))))) iP)) (bG (dH gh jj iP (bG (dH lD rK iP (vP 2))))))) iP)))
  (aL (sA (i:=4) sc.nd (fJ (dH gh jj (bG (dH m5 tY (bG (dH lD rK (vP 4) (vP 4))) iP)) iP)))
  (aO (bN (bT (dH m5 tY (bG (dH Gp QS (bG (dH m5 tY (bG (dH lD rK (vP 4) (vP 4))) iP)) iP)) (vP 3)))))))
theorem Bj (D:Dg K mg "_law_stay" (top 61) ["_law_script", "_law_at", "_law_turn", "_law_mode", "_law_now_here"]) (B:Bl mg) (h_law_part:Has P w K mg base n "_law_part" ["_law_script", "_law_at", "_law_k", "_law_many"] (spD K bU)):Has P w K mg base (n + 1) "_law_stay" ["_law_script", "_law_at", "_law_turn", "_law_mode", "_law_now_here"] (spD K gq):=by
 have sc:FnScope ["_law_script", "_law_at", "_law_turn", "_law_mode", "_law_now_here", "_law_first", "_law_long"] ["_law_script", "_law_at", "_law_turn", "_law_mode", "_law_now_here"] (bA (top 61)):=fsc;exact dh (fl:=[.A,.A,.A,.A,.A,.A,.A]) D sc (by decide) (by decide) fun f cdv A outer s H E hr=>aL (sA (i:=5) sc.nd (fJ (dW (nA rfl) uO (by rfl) B.min_ PyProof.Rows.boot_min (dq iP (dq (bG (dH gh jj (vP 4) (cY (bf h_law_part hr (dq (vP 0) (dq (vP 1) (dq (vP 2) (dq (bZ (dx (dN (fJ (jU (dq iC (dq iC (dq iC (dq iC dz))))))) (vP 3))) dz)))))))) dz)))))
  (aL (sA (i:=6) sc.nd (fJ (dH gh jj iP (cY (bf h_law_part hr (dq (vP 0) (dq (vP 1) (dq (bG (dH gh jj (vP 2) iP)) (dq (bZ (dx (dN (fJ (jU (dq iC (dq iC (dq iC (dq iC dz))))))) (cY (bf h_law_part hr (dq (vP 0) (dq (vP 1) (dq (bG (dH gh jj (vP 2) iP)) (dq iP dz)))))))) dz)))))))))
  (aO (bN (mY rfl (dq (bT (eF (vP 5))) (dq (bT (dW (nA rfl) uO (by rfl) B.min_ PyProof.Rows.boot_min (dq iP (dq (bG (dH gh jj (vP 5) (vP 6))) dz)))) (dq (bT (wM)) dz)))))))
theorem yM (D:Dg K mg "_law_guest" (top 62) ["_law_script", "_law_at", "_law_turn", "_law_now_here", "_law_room"]) (B:Bl mg) (h_law_part:Has P w K mg base n "_law_part" ["_law_script", "_law_at", "_law_k", "_law_many"] (spD K bU)):Has P w K mg base (n + 1) "_law_guest" ["_law_script", "_law_at", "_law_turn", "_law_now_here", "_law_room"] (spD K iu):=by
 have sc:FnScope ["_law_script", "_law_at", "_law_turn", "_law_now_here", "_law_room", "_law_first", "_law_more"] ["_law_script", "_law_at", "_law_turn", "_law_now_here", "_law_room"] (bA (top 62)):=fsc;exact dh (fl:=[.A,.A,.A,.A,.A,.A,.A]) D sc (by decide) (by decide) fun f cdv A outer s H E hr=>aL (sA (i:=5) sc.nd (fJ (dW (uG rfl) Eo (by rfl) B.max_ PyProof.Rows.boot_max (dq iP (dq (bG (dH JN QM (vP 3) (cY (bf h_law_part hr (dq (vP 0) (dq (vP 1) (dq (vP 2) (dq iP dz)))))))) dz)))))
  (aL (sA (i:=6) sc.nd (iB (bf h_law_part hr (dq (vP 0) (dq (vP 1) (dq (bG (dH gh jj (vP 2) iP)) (dq (bZ (dx (dN (fJ (jU (dq iC (dq iC (dq iC dz)))))) (cY (bf h_law_part hr (dq (vP 0) (dq (vP 1) (dq (bG (dH gh jj (vP 2) iP)) (dq iP dz)))))))) dz)))))))
  (aO (bN (mY rfl (dq (bT (eF (vP 5))) (dq (bT (dW (nA rfl) uO (by rfl) B.min_ PyProof.Rows.boot_min (dq iP (dq (bG (dH gh jj (bG (dH gh jj (vP 3) iP)) (vP 6))) dz)))) (dq (bT (eF (vP 4))) dz)))))))
theorem Bk (D:Dg K mg "_law_full" (top 63) ["_law_stays_here", "_law_rooms", "_law_now_here"]) (B:Bl mg):Has P w K mg base (n + 1) "_law_full" ["_law_stays_here", "_law_rooms", "_law_now_here"] (spD K gB):=by
 have sc:FnScope ["_law_stays_here", "_law_rooms", "_law_now_here", "_law_night"] ["_law_stays_here", "_law_rooms", "_law_now_here"] (bA (top 63)):=fsc;exact dh (fl:=[.A,.A,.A,.A]) D sc (by decide) (by decide) fun f cdv A outer s H E hr=>aL (iJ (L:=[]) PassesOwn.never rfl (fM (dN (fJ (zp (dq (lB (uP (dN (nW (su (dq (vA 2) dz)))) (dN (fJ (iG (L:=[]) (fl':=[.A,.A]) rfl ["_law_one"] ["_law_now_here"] [2] (fM (vB 0)) (fun _ _ _ _ _=>gN' (i:=0) (show (["_law_one", "_law_now_here"]:List Str).Nodup by decide +kernel)) (fun _ _ _ _ _=>m9) (fun _ _ _ _ _=>h_ (dW (uG rfl) Eo (by rfl) B.max_ PyProof.Rows.boot_max (dq (vP 1) (dq (bZ (dx (vB 0) iP)) dz))))))))) dz) (by rfl) B.sorted_)))) (gN' (i:=3) sc.nd) (aO (dF (cI sW yw (bG (dW cC jN (by rfl) B.len_ PySem.boot_len (dq (bG (iG (L:=[]) (fl':=[.A,.A]) rfl ["_law_one"] ["_law_night"] [3] (fM (vB 0)) (fun _ _ _ _ _=>gN' (i:=0) (show (["_law_one", "_law_night"]:List Str).Nodup by decide +kernel)) (fun _ _ _ _ _=>jq (pq (rN (cI qJ vK (bZ (dx (vB 0) iP)) (vP 1) (cg _)) (oR (cI mD b_lt (vP 1) (bZ (dx (vB 0) iP)) (cg _)))))) (fun _ _ _ _ _=>h_ (eF (vP 0))))) dz))) (vP 1) (cg _)) (aO (bN (bT (eF (vP 3))))) (cA))))
  (aO (bN (bT (wM))))
theorem Dw (D:Dg K mg "_law_now" (top 64) ["_law_script"]) (B:Bl mg) (h_law_part:Has P w K mg base n "_law_part" ["_law_script", "_law_at", "_law_k", "_law_many"] (spD K bU)):Has P w K mg base (n + 1) "_law_now" ["_law_script"] (spD K j9):=by
 have sc:FnScope ["_law_script"] ["_law_script"] (bA (top 64)):=fsc;exact dh (fl:=[.A]) D sc (by decide) (by decide) fun f cdv A outer s H E hr=>aO (bN (bT (eF (bZ (dx (dN (fJ (jU (dq iC (dq (bf h_law_part hr (dq (vP 0) (dq iP (dq iP (dq iP dz))))) (dq (bf h_law_part hr (dq (vP 0) (dq iP (dq iP (dq iP dz))))) (dq iC dz))))))) (cY (bf h_law_part hr (dq (vP 0) (dq iP (dq iP (dq iP dz)))))))))))
theorem yN (D:Dg K mg "_law_stays" (top 65) ["_law_script", "_law_rooms", "_law_now_here", "_law_most"]) (B:Bl mg) (h_law_part:Has P w K mg base n "_law_part" ["_law_script", "_law_at", "_law_k", "_law_many"] (spD K bU)) (h_law_stay:Has P w K mg base n "_law_stay" ["_law_script", "_law_at", "_law_turn", "_law_mode", "_law_now_here"] (spD K gq)) (h_law_guest:Has P w K mg base n "_law_guest" ["_law_script", "_law_at", "_law_turn", "_law_now_here", "_law_room"] (spD K iu)) (h_law_full:Has P w K mg base n "_law_full" ["_law_stays_here", "_law_rooms", "_law_now_here"] (spD K gB)):Has P w K mg base (n + 1) "_law_stays" ["_law_script", "_law_rooms", "_law_now_here", "_law_most"] (spD K ju):=by
 have sc:FnScope ["_law_script", "_law_rooms", "_law_now_here", "_law_most", "_law_mode", "_law_stays_here", "_law_room", "_law_at", "_law_wide", "_law_k", "_law_new"] ["_law_script", "_law_rooms", "_law_now_here", "_law_most"] (bA (top 65)):=fsc;exact dh (fl:=[.A,.A,.A,.A,.A,.O,.A,.A,.A,.A,.A]) D sc (by decide) (by decide) fun f cdv A outer s H E hr=>aL (sA (i:=4) sc.nd (iB (bf h_law_part hr (dq (vP 0) (dq iP (dq iP (dq iP dz)))))))
  (aL (m8 (i:=5) rfl sc.nd rfl (by first | exact Or.inl rfl | exact Or.inr rfl) (tG (jU dz)))
  (aL (iJ (L:=[]) PassesOwn.never rfl (jh (by rfl) B.range_ (pI (dq (vP 1) dz))) (gN' (i:=6) sc.nd) (aO (dF (pq (rN (cI (gP hr.units) mV (cY (bf h_law_part hr (dq (vP 0) (dq iP (dq (vP 6) (dq iP dz)))))) iP (cg _)) (oR (cI mD b_lt (bG (dW cC jN (by rfl) B.len_ PySem.boot_len (dq (tX (o_ 5)) dz))) (vP 3) (cg _))))) (aL (sA (i:=7) sc.nd (iB (bf h_law_part hr (dq (vP 0) (dq iP (dq (bG (dH gh jj iP (vP 6))) (dq (bG (dH gh jj (bG (dW cC jN (by rfl) B.len_ PySem.boot_len (dq (tX (o_ 5)) dz))) iP)) dz)))))))
  (aO (Er (i:=5) rfl (vP 7) (iB (bf h_law_guest hr (dq (vP 0) (dq iP (dq (bG (dH lD rK iP (vP 6))) (dq (vP 2) (dq (vP 6) dz))))))) rfl))) (cA))))
  (aL (sA (i:=8) sc.nd (fJ (jF (gP hr.units) mV (cY (bf h_law_part hr (dq (vP 0) (dq iP (dq iP (dq iP dz)))))) iP (cg _))))
  (aL (iJ (L:=[]) PassesOwn.never rfl (jh (by rfl) B.range_ (pI (dq (bZ (dx (dN (fJ (jU (dq iC (dq iC dz))))) (bG (Od (dq (vP 8) dz) (by rfl) B.int_)))) dz))) (gN' (i:=9) sc.nd) (aL (sA (i:=10) sc.nd (iB (bf h_law_stay hr (dq (vP 0) (dq (bG (dH gh jj iP (vP 9))) (dq iP (dq (vP 4) (dq (vP 2) dz))))))))
  (aL (sA (i:=7) sc.nd (iB (bf h_law_part hr (dq (vP 0) (dq iP (dq (vP 9) (dq (bG (dH gh jj (bG (dW cC jN (by rfl) B.len_ PySem.boot_len (dq (tX (o_ 5)) dz))) iP)) dz)))))))
  (aO (dF (pq (rN (cI mD b_lt (bG (dW cC jN (by rfl) B.len_ PySem.boot_len (dq (tX (o_ 5)) dz))) (vP 3) (cg _)) (oR (uR (cY (bf h_law_full hr (dq (lB (uP (o_ 5) (dN (nW (su (dq (vA 10) dz)))))) (dq (vP 1) (dq (vP 2) dz))))))))) (aO (Er (i:=5) rfl (vP 7) (vA 10) rfl)) (cA))))))
  (aO (bN (oO 5 (by decide))))))))
theorem yO (D:Dg K mg "_law_leads" (top 66) ["_law_stays_here", "_law_rooms", "_law_now_here", "_law_plan", "_law_other"]) (B:Bl mg) (hexchanged:Has P w K mg base n "exchanged" ["stays", "plan", "now", "night", "one", "other"] (spD K gD)) (hled:Has P w K mg base n "led" ["stays", "now", "plan", "other"] (spD K Dc)) (his_plan:Has P w K mg base n "is_plan" ["stays", "rooms", "now", "thing"] (spD K gM)):Has P w K mg base (n + 1) "_law_leads" ["_law_stays_here", "_law_rooms", "_law_now_here", "_law_plan", "_law_other"] (spD K jV):=by
 have sc:FnScope ["_law_stays_here", "_law_rooms", "_law_now_here", "_law_plan", "_law_other", "_law_rows_here", "_law_here", "_law_night", "_law_one", "_law_another"] ["_law_stays_here", "_law_rooms", "_law_now_here", "_law_plan", "_law_other"] (bA (top 66)):=fsc;exact dh (fl:=[.A,.A,.A,.A,.A,.A,.A,.A,.A,.A]) D sc (by decide) (by decide) fun f cdv A outer s H E hr=>aL (sA (i:=5) sc.nd (iB (bf hled hr (dq (lB (gH (vB 0) (by rfl) B.list_)) (dq (vP 2) (dq (lB (gH (vB 3) (by rfl) B.list_)) (dq (lB (gH (vB 4) (by rfl) B.list_)) dz)))))))
  (aL (dF (cI sW yw (bG (dW cC jN (by rfl) B.len_ PySem.boot_len (dq (vP 5) dz))) (bG (dW cC jN (by rfl) B.len_ PySem.boot_len (dq (bG (iG (L:=[]) (fl':=[.A]) rfl ["_law_one"] [] [] (fM (vB 0)) (fun _ _ _ _ _=>gN' (i:=0) (show (["_law_one"]:List Str).Nodup by decide +kernel)) (fun _ _ _ _ _=>jq (uR (bZ (dx (vB 0) iP)))) (fun _ _ _ _ _=>h_ (eF (vP 0))))) dz))) (cg _)) (aO (bN (bT (jM)))) (cA))
  (aL (sA (i:=6) sc.nd (nW (gH (vB 3) (by rfl) B.list_)))
  (aL (iJ (L:=[]) PassesOwn.never rfl (fM (vB 5)) (mW rfl (dg (gN' (i:=7) sc.nd) (dg (gN' (i:=8) sc.nd) (dg (gN' (i:=9) sc.nd) (jX))))) (aL (sA (i:=6) sc.nd (iB (bf hexchanged hr (dq (lB (gH (vB 0) (by rfl) B.list_)) (dq (vP 6) (dq (vP 2) (dq (vP 7) (dq (vP 8) (dq (vP 9) dz)))))))))
  (aO (dF (vU (cY (bf his_plan hr (dq (lB (gH (vB 0) (by rfl) B.list_)) (dq (vP 1) (dq (vP 2) (dq (vP 6) dz))))))) (aO (bN (bT (jM)))) (cA)))))
  (aO (bN (bT (jF (gP hr.units) mV (vP 6) (vP 4) (cg _))))))))
theorem Bm (D:Dg K mg "_law_rows" (top 67) ["_law_stays_here", "_law_rooms", "_law_now_here", "_law_who", "_law_room", "_law_chain", "_law_plan"]) (B:Bl mg) (hrow_of:Has P w K mg base n "row_of" ["stays", "plan", "room"] (spD K pO)) (hfree_at:Has P w K mg base n "free_at" ["stays", "plan", "rooms", "night"] (spD K jC)):Has P w K mg base (n + 1) "_law_rows" ["_law_stays_here", "_law_rooms", "_law_now_here", "_law_who", "_law_room", "_law_chain", "_law_plan"] (spD K kI):=by
 have sc:FnScope ["_law_stays_here", "_law_rooms", "_law_now_here", "_law_who", "_law_room", "_law_chain", "_law_plan", "_law_row", "_law_ahead", "_law_night", "_law_held"] ["_law_stays_here", "_law_rooms", "_law_now_here", "_law_who", "_law_room", "_law_chain", "_law_plan"] (bA (top 67)):=fsc;exact dh (fl:=[.A,.A,.A,.A,.A,.A,.A,.A,.A,.A,.A]) D sc (by decide) (by decide) fun f cdv A outer s H E hr=>aL (sA (i:=7) sc.nd (iB (bf hrow_of hr (dq (lB (gH (vB 0) (by rfl) B.list_)) (dq (lB (gH (vB 6) (by rfl) B.list_)) (dq (vP 4) dz))))))
  (aL (sA (i:=8) sc.nd (nW (uP (dN (nW (uP (dN (fJ (iG (L:=[]) (fl':=[.A,.A,.A]) rfl ["_law_k"] ["_law_room", "_law_stays_here"] [4,0] (jh (by rfl) B.range_ (pI (dq (bG (dW cC jN (by rfl) B.len_ PySem.boot_len (dq (vP 0) dz))) dz))) (fun _ _ _ _ _=>gN' (i:=0) (show (["_law_k", "_law_room", "_law_stays_here"]:List Str).Nodup by decide +kernel)) (fun _ _ _ _ _=>jq (pq (rN (oU (bZ (dx (dN (dx (vB 2) (vP 0))) iP))) (oR (cI (gP hr.units) mV (bZ (dx (dN (dx (vB 2) (vP 0))) iP)) (vP 1) (cg _)))))) (fun _ _ _ _ _=>h_ (eF (vP 0)))))) (vB 5)))) (dN (nW (su (dq (vA 3) dz)))))))
  (aL (dF (cI (rD hr.units) Ca (lB (Km (vB 7) z7 (z8 (bG (dW cC jN (by rfl) B.len_ PySem.boot_len (dq (vP 8) dz)))))) (vP 8) (cg _)) (aO (bN (bT (jM)))) (cA))
  (aL (iJ (L:=[]) PassesOwn.never rfl (zm (by rfl) B.range_ (pI (dq (vP 2) (dq (bG (dW (nA rfl) uO (by rfl) B.min_ PyProof.Rows.boot_min (dq iP (dq (bG (dH gh jj (bZ (dx (dN (dx (vB 0) (vP 3))) iP)) iP)) dz)))) dz)))) (gN' (i:=9) sc.nd) (aL (sA (i:=10) sc.nd (fJ (jF (rD hr.units) Ca (bG (iG (L:=[]) (fl':=[.A,.A,.A]) rfl ["_law_k"] ["_law_night", "_law_stays_here"] [9,0] (fM (vB 7)) (fun _ _ _ _ _=>gN' (i:=0) (show (["_law_k", "_law_night", "_law_stays_here"]:List Str).Nodup by decide +kernel)) (fun _ _ _ _ _=>jq (pq (rN (cI qJ vK (bZ (dx (dN (dx (vB 2) (vP 0))) iP)) (vP 1) (cg _)) (oR (cI mD b_lt (vP 1) (bZ (dx (dN (dx (vB 2) (vP 0))) iP)) (cg _)))))) (fun _ _ _ _ _=>h_ (eF (vP 0))))) (bG (jU dz)) (cg _))))
  (aO (dF (cI (gP hr.units) mV (bG (jF (Ku hr.units) V9 (vP 4) (cY (bf hfree_at hr (dq (lB (gH (vB 0) (by rfl) B.list_)) (dq (lB (gH (vB 6) (by rfl) B.list_)) (dq (vP 1) (dq (vP 9) dz)))))) (by with_unfolding_all rfl))) (vP 10) (cg _)) (aO (bN (bT (jM)))) (cA)))))
  (aO (bN (bT (jM)))))))
theorem vN (D:Dg K mg "_law_evening" (top 68) ["_law_stays_here", "_law_plan", "_law_now_here"]) (B:Bl mg):Has P w K mg base (n + 1) "_law_evening" ["_law_stays_here", "_law_plan", "_law_now_here"] (spD K fK):=by
 have sc:FnScope ["_law_stays_here", "_law_plan", "_law_now_here", "_law_found", "_law_k", "_law_first", "_law_behind", "_law_held"] ["_law_stays_here", "_law_plan", "_law_now_here"] (bA (top 68)):=fsc;exact dh (fl:=[.A,.A,.A,.O,.A,.A,.A,.A]) D sc (by decide) (by decide) fun f cdv A outer s H E hr=>aL (m8 (i:=3) rfl sc.nd rfl (by first | exact Or.inl rfl | exact Or.inr rfl) (tG (jU dz)))
  (aL (iJ (L:=[]) PassesOwn.never rfl (jh (by rfl) B.range_ (pI (dq (bG (dW cC jN (by rfl) B.len_ PySem.boot_len (dq (vP 0) dz))) dz))) (gN' (i:=4) sc.nd) (aL (Sv (dx (vB 0) (vP 4)) (mW rfl (dg (gN' (i:=5) sc.nd) (dg (gN' (i:=6) sc.nd) (dg (gN' (i:=7) sc.nd) (jX))))))
  (aL (dF (cI (gP hr.units) mV (vP 5) (vP 2) (cg _)) (aO (sA (i:=7) sc.nd (dx (vB 1) (vP 4)))) (cA))
  (aO (dF (cI sW yw (vP 6) (bG (dH gh jj (vP 2) iP)) (cg _)) (aO (uN (i:=3) rfl (mY rfl (dq (vA 5) (dq (vA 6) (dq (vA 7) dz)))) rfl)) (cA))))))
  (aO (bN (oO 3 (by decide)))))
theorem u_ (D:Dg K mg "_law_stays_on" (top 69) ["_law_stays_here", "_law_rooms", "_law_now_here", "_law_who", "_law_room", "_law_plan"]) (B:Bl mg) (hmay_have:Has P w K mg base n "may_have" ["stays", "rooms", "now", "who", "room"] (spD K dD)) (his_plan:Has P w K mg base n "is_plan" ["stays", "rooms", "now", "thing"] (spD K gM)) (h_law_evening:Has P w K mg base n "_law_evening" ["_law_stays_here", "_law_plan", "_law_now_here"] (spD K fK)):Has P w K mg base (n + 1) "_law_stays_on" ["_law_stays_here", "_law_rooms", "_law_now_here", "_law_who", "_law_room", "_law_plan"] (spD K gU):=by
 have sc:FnScope ["_law_stays_here", "_law_rooms", "_law_now_here", "_law_who", "_law_room", "_law_plan", "_law_turn", "_law_gone", "_law_told"] ["_law_stays_here", "_law_rooms", "_law_now_here", "_law_who", "_law_room", "_law_plan"] (bA (top 69)):=fsc;exact dh (fl:=[.A,.A,.A,.A,.A,.A,.A,.A,.A]) D sc (by decide) (by decide) fun f cdv A outer s H E hr=>aL (iJ (L:=[]) PassesOwn.never rfl (jh (by rfl) B.range_ (pI (dq iP dz))) (gN' (i:=6) sc.nd) (aL (dF (pq (mZ (cI (gP hr.units) mV (bZ (dx (dN (dx (vB 0) (vP 3))) iP)) (vP 2) (cg _)) (lW (cI (gP hr.units) mV (vP 2) iP (cg _))))) (aO (bN (bT (QV (bG (jF sW yw (bZ (dx (dN (dx (vB 0) (vP 3))) iP)) (vP 2) (cg _))) (ql (jF (gP hr.units) mV (bZ (dx (vB 5) (vP 3))) (vP 4) (cg _))))))) (cA))
  (aL (sA (i:=7) sc.nd (fJ (dW cC jN (by rfl) B.len_ PySem.boot_len (dq (bG (iG (L:=[]) (fl':=[.A,.A]) rfl ["_law_one"] ["_law_now_here"] [2] (fM (dN (nW (Km (vB 0) z7 (z8 (vP 3)))))) (fun _ _ _ _ _=>gN' (i:=0) (show (["_law_one", "_law_now_here"]:List Str).Nodup by decide +kernel)) (fun _ _ _ _ _=>jq (cI qJ vK (bZ (dx (vB 0) iP)) (bG (dH gh jj (vP 1) iP)) (cg _))) (fun _ _ _ _ _=>h_ (eF (vP 0))))) dz))))
  (aL (sA (i:=0) sc.nd (iB (bf h_law_evening hr (dq (vP 0) (dq (vP 5) (dq (vP 2) dz))))))
  (aL (sA (i:=2) sc.nd (fJ (dH gh jj (vP 2) iP)))
  (aL (sA (i:=3) sc.nd (fJ (dH JN QM (vP 3) (vP 7))))
  (aL (sA (i:=8) sc.nd (iB (bf hmay_have hr (dq (lB (gH (vB 0) (by rfl) B.list_)) (dq (vP 1) (dq (vP 2) (dq (vP 3) (dq (vP 4) dz))))))))
  (aL (dF (pq (mZ (cI (rD hr.units) Ca (bZ (dx (vB 8) iP)) (bG (uL)) (cg _)) (lW (vU (cY (bf his_plan hr (dq (lB (gH (vB 0) (by rfl) B.list_)) (dq (vP 1) (dq (vP 2) (dq (bZ (dx (vB 8) iP)) dz)))))))))) (aO (bN (bT (jM)))) (cA))
  (aO (sA (i:=5) sc.nd (dx (vB 8) iP)))))))))))
  (aO (bN (bT (jM))))
theorem Ve {f:Addr} {fd:FuncData} (Fn:FunD K "law" (top 70) f fd) (B:Bl mg) (hseated:Has P w K mg base n "seated" ["stays", "rooms", "now"] (spD K rW)) (hmay_have:Has P w K mg base n "may_have" ["stays", "rooms", "now", "who", "room"] (spD K dD)) (his_shut:Has P w K mg base n "is_shut" ["stays", "rooms", "now", "who", "room", "thing"] (spD K nJ)) (hrooms_for:Has P w K mg base n "rooms_for" ["stays", "rooms", "now", "who"] (spD K kE)) (his_plan:Has P w K mg base n "is_plan" ["stays", "rooms", "now", "thing"] (spD K gM)) (h_law_part:Has P w K mg base n "_law_part" ["_law_script", "_law_at", "_law_k", "_law_many"] (spD K bU)) (h_law_now:Has P w K mg base n "_law_now" ["_law_script"] (spD K j9)) (h_law_stays:Has P w K mg base n "_law_stays" ["_law_script", "_law_rooms", "_law_now_here", "_law_most"] (spD K ju)) (h_law_leads:Has P w K mg base n "_law_leads" ["_law_stays_here", "_law_rooms", "_law_now_here", "_law_plan", "_law_other"] (spD K jV)) (h_law_rows:Has P w K mg base n "_law_rows" ["_law_stays_here", "_law_rooms", "_law_now_here", "_law_who", "_law_room", "_law_chain", "_law_plan"] (spD K kI)) (h_law_stays_on:Has P w K mg base n "_law_stays_on" ["_law_stays_here", "_law_rooms", "_law_now_here", "_law_who", "_law_room", "_law_plan"] (spD K gU)):FnOk P w K mg base CX0 (n + 1) f fd ["_law_script"] (spD K Ly):=by
 have sc:FnScope ["_law_script", "_law_rooms", "_law_now_here", "_law_stays_here", "_law_plan", "_law_some", "_law_turn", "_law_who", "_law_room", "_law_told", "_law_given", "_law_shut"] ["_law_script"] (bA (top 70)):=fsc;exact Ko (fl:=[.A,.A,.A,.A,.A,.A,.A,.A,.A,.A,.A,.A]) Fn sc (by decide) (by decide) fun f cdv A outer s H E hr=>aL (sA (i:=1) sc.nd (fJ (dH gh jj iP (cY (bf h_law_part hr (dq (vP 0) (dq iP (dq iP (dq iP dz)))))))))
  (aL (sA (i:=2) sc.nd (iB (bf h_law_now hr (dq (vP 0) dz))))
  (aL (sA (i:=3) sc.nd (iB (bf h_law_stays hr (dq (vP 0) (dq (vP 1) (dq (vP 2) (dq iP dz)))))))
  (aL (sA (i:=4) sc.nd (iB (bf hseated hr (dq (lB (gH (vB 3) (by rfl) B.list_)) (dq (vP 1) (dq (vP 2) dz))))))
  (aL (dF (vU (cY (bf his_plan hr (dq (lB (gH (vB 3) (by rfl) B.list_)) (dq (vP 1) (dq (vP 2) (dq (vP 4) dz))))))) (aO (bN (bT (jM)))) (cA))
  (aL (tZ (i:=5) (L:=[]) (fl':=[.A,.A]) rfl sc.nd rfl rfl rfl ["_law_k"] ["_law_stays_here"] [3] (jh (by rfl) B.range_ (pI (dq (bG (dW cC jN (by rfl) B.len_ PySem.boot_len (dq (vP 3) dz))) dz))) (fun _ _ _ _ _=>gN' (i:=0) (show (["_law_k", "_law_stays_here"]:List Str).Nodup by decide +kernel)) (fun _ _ _ _ _=>jq (uR (bZ (dx (dN (dx (vB 1) (vP 0))) iP)))) (fun _ _ _ _ _=>h_ (eF (vP 0))))
  (aL (iJ (L:=[]) PassesOwn.never rfl (jh (by rfl) B.range_ (pI (dq (bG (dW (nA rfl) uO (by rfl) B.min_ PyProof.Rows.boot_min (dq iP (dq (bG (dW cC jN (by rfl) B.len_ PySem.boot_len (dq (vP 5) dz))) dz)))) dz))) (gN' (i:=6) sc.nd) (aL (sA (i:=7) sc.nd (dx (vB 5) (cY (bf h_law_part hr (dq (vP 0) (dq iP (dq (bG (dH lD rK iP (vP 6))) (dq (bG (dW cC jN (by rfl) B.len_ PySem.boot_len (dq (vP 5) dz))) dz))))))))
  (aL (sA (i:=8) sc.nd (iB (bf h_law_part hr (dq (vP 0) (dq iP (dq (bG (dH gh jj (bG (dH lD rK iP (vP 6))) iP)) (dq (vP 1) dz)))))))
  (aL (sA (i:=9) sc.nd (iB (bf hmay_have hr (dq (lB (gH (vB 3) (by rfl) B.list_)) (dq (vP 1) (dq (vP 2) (dq (vP 7) (dq (vP 8) dz))))))))
  (aL (sA (i:=10) sc.nd (fJ (jF (Ku hr.units) V9 (vP 8) (cY (bf hrooms_for hr (dq (lB (gH (vB 3) (by rfl) B.list_)) (dq (vP 1) (dq (vP 2) (dq (vP 7) dz)))))) (by with_unfolding_all rfl))))
  (aO (dF (cI (gP hr.units) mV (bZ (dx (vB 9) iP)) (bG (uL)) (cg _)) (aL (sA (i:=11) sc.nd (iB (bf his_shut hr (dq (lB (gH (vB 3) (by rfl) B.list_)) (dq (vP 1) (dq (vP 2) (dq (vP 7) (dq (vP 8) (dq (bZ (dx (vB 9) iP)) dz)))))))))
  (aO (dF (pq (mZ (jr (vP 10)) (mZ (cI (gP hr.units) mV (bZ (dx (vB 4) (vP 7))) (vP 8) (cg _)) (lW (vU (vP 11)))))) (aO (bN (bT (jM)))) (cA)))) (aO (dF (pq (mZ (jZ (jr (vP 10))) (lW (jZ (jr (cY (bf h_law_leads hr (dq (vP 3) (dq (vP 1) (dq (vP 2) (dq (vP 4) (dq (bZ (dx (vB 9) iP)) dz)))))))))))) (aO (bN (bT (jM)))) (aO (dF (jZ (jr (cY (bf h_law_rows hr (dq (vP 3) (dq (vP 1) (dq (vP 2) (dq (vP 7) (dq (vP 8) (dq (bZ (dx (vB 9) iP)) (dq (bZ (dx (vB 9) iP)) dz))))))))))) (aO (bN (bT (jM)))) (aO (dF (pq (mZ (cI (rD hr.units) Ca (bZ (dx (dN (dx (vB 9) iP)) (vP 7))) (vP 8) (cg _)) (lW (jZ (jr (cY (bf h_law_stays_on hr (dq (vP 3) (dq (vP 1) (dq (vP 2) (dq (vP 7) (dq (vP 8) (dq (bZ (dx (vB 9) iP)) dz))))))))))))) (aO (bN (bT (jM)))) (cA))))))))))))))
  (aO (bN (bT (jM))))))))))
end
end K49
namespace D3
theorem len0 {p:List PySem.Value→Prop} (h:p []):∀ us,us.length=0→p us:=fun us hl=>by
 cases us with
 | nil=>exact h
 | cons _ _=>cases hl
theorem Vf {n:Nat} {p:List PySem.Value→Prop} (h:∀ a us,us.length=n→p (a :: us)):∀ us,us.length=n + 1→p us:=fun us hl=>by
 cases us with
 | nil=>cases hl
 | cons a r=>exact h a r (Nat.succ.inj hl)
end D3
namespace K49
open PySem L2 My D3
structure Txt (K:PySem.W.Frag) (mg:Str→Option Value):Prop where
 d_is_whole:Dg K mg "is_whole" (top 8) ["thing"]
 d_all_whole:Dg K mg "all_whole" (top 9) ["things"]
 d_is_tuple_of:Dg K mg "is_tuple_of" (top 10) ["thing", "many"]
 d_is_pair:Dg K mg "is_pair" (top 11) ["thing"]
 d_is_whole_list:Dg K mg "is_whole_list" (top 12) ["thing"]
 d_is_rising:Dg K mg "is_rising" (top 13) ["numbers"]
 d_is_stretch:Dg K mg "is_stretch" (top 16) ["thing"]
 d_nights_of:Dg K mg "nights_of" (top 17) ["stay"]
 d_holds:Dg K mg "holds" (top 18) ["stretch", "night"]
 d_shared:Dg K mg "shared" (top 19) ["one", "other"]
 d_meets:Dg K mg "meets" (top 20) ["one", "other"]
 d_count_at:Dg K mg "count_at" (top 21) ["stretches", "night"]
 d_firsts:Dg K mg "firsts" (top 22) ["stretches"]
 d_fuller:Dg K mg "fuller" (top 23) ["stretches", "many", "since"]
 d_is_stay:Dg K mg "is_stay" (top 25) ["thing", "rooms", "now"]
 d_check_stays:Dg K mg "check_stays" (top 26) ["stays", "rooms", "now"]
 d_check_full:Dg K mg "check_full" (top 27) ["stays", "rooms", "now"]
 d_still_to_come:XL.DgT K mg "still_to_come" (top 28) ["stays"] 232 "still_to_come.<locals>.<lambda>" ⟨86,30,86,59⟩
 d_beginnings:Dg K mg "beginnings" (top 29) ["stays", "rooms", "now"]
 d_first_free:Dg K mg "first_free" (top 30) ["begin", "night"]
 d_filled:Dg K mg "filled" (top 31) ["stays", "plan", "begin"]
 d_seated:Dg K mg "seated" (top 32) ["stays", "rooms", "now"]
 d_check_who:Dg K mg "check_who" (top 34) ["stays", "rooms", "now", "who"]
 d_check_room:Dg K mg "check_room" (top 35) ["rooms", "room"]
 d_is_tight:Dg K mg "is_tight" (top 36) ["stays", "rooms", "night"]
 d_goes_ahead:Dg K mg "goes_ahead" (top 37) ["stays", "who", "place", "night"]
 d_steps_from:Dg K mg "steps_from" (top 38) ["stays", "rooms", "who", "night"]
 d_nights_reached:Dg K mg "nights_reached" (top 39) ["stays", "rooms", "who", "begin"]
 d_chain_to:Dg K mg "chain_to" (top 40) ["reached", "last"]
 d_plan_with:Dg K mg "plan_with" (top 41) ["stays", "rooms", "now", "who", "room", "chain"]
 d_may_have:Dg K mg "may_have" (top 42) ["stays", "rooms", "now", "who", "room"]
 d_is_closed:Dg K mg "is_closed" (top 43) ["stays", "rooms", "who", "nights"]
 d_is_shut:Dg K mg "is_shut" (top 44) ["stays", "rooms", "now", "who", "room", "thing"]
 d_rooms_for:Dg K mg "rooms_for" (top 45) ["stays", "rooms", "now", "who"]
 d_hinders:Dg K mg "hinders" (top 47) ["stay", "night"]
 d_check_exchange:Dg K mg "check_exchange" (top 48) ["stays", "plan", "now", "night", "one", "other"]
 d_room_behind:Dg K mg "room_behind" (top 49) ["stay", "room", "night", "one", "other"]
 d_exchanged:Dg K mg "exchanged" (top 50) ["stays", "plan", "now", "night", "one", "other"]
 d_led:Dg K mg "led" (top 51) ["stays", "now", "plan", "other"]
 d_has_fit_room:Dg K mg "has_fit_room" (top 53) ["stay", "room", "rooms"]
 d_is_apart:Dg K mg "is_apart" (top 54) ["stays", "plan", "place"]
 d_is_plan:Dg K mg "is_plan" (top 55) ["stays", "rooms", "now", "thing"]
 d_row_of:XL.DgT K mg "row_of" (top 56) ["stays", "plan", "room"] 392 "row_of.<locals>.<lambda>" ⟨232,30,232,59⟩
 d_free_at:Dg K mg "free_at" (top 57) ["stays", "plan", "rooms", "night"]
 d__law_cell:Dg K mg "_law_cell" (top 59) ["_law_script", "_law_at"]
 d__law_part:Dg K mg "_law_part" (top 60) ["_law_script", "_law_at", "_law_k", "_law_many"]
 d__law_stay:Dg K mg "_law_stay" (top 61) ["_law_script", "_law_at", "_law_turn", "_law_mode", "_law_now_here"]
 d__law_guest:Dg K mg "_law_guest" (top 62) ["_law_script", "_law_at", "_law_turn", "_law_now_here", "_law_room"]
 d__law_full:Dg K mg "_law_full" (top 63) ["_law_stays_here", "_law_rooms", "_law_now_here"]
 d__law_now:Dg K mg "_law_now" (top 64) ["_law_script"]
 d__law_stays:Dg K mg "_law_stays" (top 65) ["_law_script", "_law_rooms", "_law_now_here", "_law_most"]
 d__law_leads:Dg K mg "_law_leads" (top 66) ["_law_stays_here", "_law_rooms", "_law_now_here", "_law_plan", "_law_other"]
 d__law_rows:Dg K mg "_law_rows" (top 67) ["_law_stays_here", "_law_rooms", "_law_now_here", "_law_who", "_law_room", "_law_chain", "_law_plan"]
 d__law_evening:Dg K mg "_law_evening" (top 68) ["_law_stays_here", "_law_plan", "_law_now_here"]
 d__law_stays_on:Dg K mg "_law_stays_on" (top 69) ["_law_stays_here", "_law_rooms", "_law_now_here", "_law_who", "_law_room", "_law_plan"]
 d_law:Dl K mg "law" "_law_script" (top 70)
 blt:Bl mg
 c_NIGHTS:∃ t,mg "NIGHTS" = some (.int 400 t)
theorem Vg {P:Program} {w:World} {K:PySem.W.Frag} {mg:Str→Option Value} {base:Heap} (T:Txt K mg) {f:Addr} {fd:FuncData} (F:FunD K "law" (top 70) f fd):FnOk P w K mg base CX0 65 f fd ["_law_script"] (Kp K):=by
 have h_is_whole:=Dq (P:=P) (w:=w) (base:=base) (n:=0) T.d_is_whole T.blt;have h_is_rising:=Az (P:=P) (w:=w) (base:=base) (n:=0) T.d_is_rising T.blt;have h_nights_of:=A_ (P:=P) (w:=w) (base:=base) (n:=0) T.d_nights_of T.blt;have h_holds:=MK (P:=P) (w:=w) (base:=base) (n:=0) T.d_holds T.blt;have h_shared:=Jr (P:=P) (w:=w) (base:=base) (n:=0) T.d_shared T.blt;have h_firsts:=Js (P:=P) (w:=w) (base:=base) (n:=0) T.d_firsts T.blt;have h_still_to_come:=uZ (P:=P) (w:=w) (base:=base) (n:=0) T.d_still_to_come T.blt;have h_beginnings:=yH (P:=P) (w:=w) (base:=base) (n:=0) T.d_beginnings T.blt;have h_first_free:=yI (P:=P) (w:=w) (base:=base) (n:=0) T.d_first_free T.blt;have h_check_room:=yJ (P:=P) (w:=w) (base:=base) (n:=0) T.d_check_room T.blt;have h_goes_ahead:=yK (P:=P) (w:=w) (base:=base) (n:=0) T.d_goes_ahead T.blt;have h_chain_to:=Dt (P:=P) (w:=w) (base:=base) (n:=0) T.d_chain_to T.blt;have h_hinders:=FP (P:=P) (w:=w) (base:=base) (n:=0) T.d_hinders T.blt;have h_room_behind:=yr (P:=P) (w:=w) (base:=base) (n:=0) T.d_room_behind T.blt;have h_has_fit_room:=vM (P:=P) (w:=w) (base:=base) (n:=0) T.d_has_fit_room T.blt;have h_row_of:=Jw (P:=P) (w:=w) (base:=base) (n:=0) T.d_row_of T.blt;have h__law_cell:=Bg (P:=P) (w:=w) (base:=base) (n:=0) T.d__law_cell T.blt;have h__law_full:=Bk (P:=P) (w:=w) (base:=base) (n:=0) T.d__law_full T.blt;have h__law_evening:=vN (P:=P) (w:=w) (base:=base) (n:=0) T.d__law_evening T.blt;have h_all_whole:=Ay (P:=P) (w:=w) (base:=base) (n:=1) T.d_all_whole T.blt (h_is_whole.mono (by decide));have h_meets:=MN (P:=P) (w:=w) (base:=base) (n:=1) T.d_meets T.blt (h_shared.mono (by decide));have h_count_at:=Dr (P:=P) (w:=w) (base:=base) (n:=1) T.d_count_at T.blt (h_holds.mono (by decide));have h_filled:=Ju (P:=P) (w:=w) (base:=base) (n:=1) T.d_filled T.blt (h_still_to_come.mono (by decide)) (h_first_free.mono (by decide));have h_check_exchange:=uz (P:=P) (w:=w) (base:=base) (n:=1) T.d_check_exchange T.blt (h_hinders.mono (by decide));have h_free_at:=FW (P:=P) (w:=w) (base:=base) (n:=1) T.d_free_at T.blt (h_nights_of.mono (by decide)) (h_holds.mono (by decide));have h__law_part:=Bh (P:=P) (w:=w) (base:=base) (n:=1) T.d__law_part T.blt (h__law_cell.mono (by decide));have h_is_tuple_of:=yp (P:=P) (w:=w) (base:=base) (n:=2) T.d_is_tuple_of T.blt (h_all_whole.mono (by decide));have h_is_whole_list:=uY (P:=P) (w:=w) (base:=base) (n:=2) T.d_is_whole_list T.blt (h_all_whole.mono (by decide));have h_fuller:=Jt (P:=P) (w:=w) (base:=base) (n:=2) T.d_fuller T.blt (h_count_at.mono (by decide)) (h_firsts.mono (by decide));have h_is_tight:=Ds (P:=P) (w:=w) (base:=base) (n:=2) T.d_is_tight T.blt (h_nights_of.mono (by decide)) (h_count_at.mono (by decide));have h_plan_with:=Bb (P:=P) (w:=w) (base:=base) (n:=2) T.d_plan_with T.blt (h_beginnings.mono (by decide)) (h_filled.mono (by decide));have h_exchanged:=Bf (P:=P) (w:=w) (base:=base) (n:=2) T.d_exchanged T.blt (h_check_exchange.mono (by decide)) (h_room_behind.mono (by decide));have h_is_apart:=Dv (P:=P) (w:=w) (base:=base) (n:=2) T.d_is_apart T.blt (h_nights_of.mono (by decide)) (h_meets.mono (by decide));have h__law_stay:=Bj (P:=P) (w:=w) (base:=base) (n:=2) T.d__law_stay T.blt (h__law_part.mono (by decide));have h__law_guest:=yM (P:=P) (w:=w) (base:=base) (n:=2) T.d__law_guest T.blt (h__law_part.mono (by decide));have h__law_now:=Dw (P:=P) (w:=w) (base:=base) (n:=2) T.d__law_now T.blt (h__law_part.mono (by decide));have h__law_rows:=Bm (P:=P) (w:=w) (base:=base) (n:=2) T.d__law_rows T.blt (h_row_of.mono (by decide)) (h_free_at.mono (by decide));have h_is_pair:=Fz (P:=P) (w:=w) (base:=base) (n:=3) T.d_is_pair T.blt (h_is_tuple_of.mono (by decide));have h_check_full:=yG (P:=P) (w:=w) (base:=base) (n:=3) T.d_check_full T.blt (h_nights_of.mono (by decide)) (h_fuller.mono (by decide));have h_steps_from:=yL (P:=P) (w:=w) (base:=base) (n:=3) T.d_steps_from T.blt (h_is_tight.mono (by decide)) (h_goes_ahead.mono (by decide));have h_led:=Vd (P:=P) (w:=w) (base:=base) (n:=3) T.d_led T.blt (h_still_to_come.mono (by decide)) (h_exchanged.mono (by decide));have h__law_stays:=yN (P:=P) (w:=w) (base:=base) (n:=3) T.d__law_stays T.blt (h__law_part.mono (by decide)) (h__law_stay.mono (by decide)) (h__law_guest.mono (by decide)) (h__law_full.mono (by decide));have h_is_stretch:=yF (P:=P) (w:=w) (base:=base) (n:=4) T.d_is_stretch T.blt (h_is_pair.mono (by decide)) T.c_NIGHTS;have h_nights_reached:=uy (P:=P) (w:=w) (base:=base) (n:=4) T.d_nights_reached T.blt (h_steps_from.mono (by decide));have h_is_closed:=Bc (P:=P) (w:=w) (base:=base) (n:=4) T.d_is_closed T.blt (h_steps_from.mono (by decide));have h_is_stay:=FJ (P:=P) (w:=w) (base:=base) (n:=5) T.d_is_stay T.blt (h_is_whole.mono (by decide)) (h_is_stretch.mono (by decide)) (h_nights_of.mono (by decide)) (h_holds.mono (by decide));have h_check_stays:=yq (P:=P) (w:=w) (base:=base) (n:=6) T.d_check_stays T.blt (h_is_stay.mono (by decide));have h_seated:=Jv (P:=P) (w:=w) (base:=base) (n:=7) T.d_seated T.blt (h_check_stays.mono (by decide)) (h_check_full.mono (by decide)) (h_beginnings.mono (by decide)) (h_filled.mono (by decide));have h_check_who:=Ba (P:=P) (w:=w) (base:=base) (n:=7) T.d_check_who T.blt (h_check_stays.mono (by decide)) (h_check_full.mono (by decide));have h_is_plan:=FQ (P:=P) (w:=w) (base:=base) (n:=7) T.d_is_plan T.blt (h_is_whole_list.mono (by decide)) (h_check_stays.mono (by decide)) (h_has_fit_room.mono (by decide)) (h_is_apart.mono (by decide));have h_may_have:=Du (P:=P) (w:=w) (base:=base) (n:=8) T.d_may_have T.blt (h_beginnings.mono (by decide)) (h_check_who.mono (by decide)) (h_check_room.mono (by decide)) (h_nights_reached.mono (by decide)) (h_chain_to.mono (by decide)) (h_plan_with.mono (by decide));have h_is_shut:=FN (P:=P) (w:=w) (base:=base) (n:=8) T.d_is_shut T.blt (h_is_whole_list.mono (by decide)) (h_is_rising.mono (by decide)) (h_beginnings.mono (by decide)) (h_check_who.mono (by decide)) (h_check_room.mono (by decide)) (h_is_closed.mono (by decide));have h__law_leads:=yO (P:=P) (w:=w) (base:=base) (n:=8) T.d__law_leads T.blt (h_exchanged.mono (by decide)) (h_led.mono (by decide)) (h_is_plan.mono (by decide));have h_rooms_for:=Bd (P:=P) (w:=w) (base:=base) (n:=9) T.d_rooms_for T.blt (h_check_who.mono (by decide)) (h_may_have.mono (by decide));have h__law_stays_on:=u_ (P:=P) (w:=w) (base:=base) (n:=9) T.d__law_stays_on T.blt (h_may_have.mono (by decide)) (h_is_plan.mono (by decide)) (h__law_evening.mono (by decide));exact ((Ve (P:=P) (w:=w) (base:=base) (n:=10) F T.blt (h_seated.mono (by decide)) (h_may_have.mono (by decide)) (h_is_shut.mono (by decide)) (h_rooms_for.mono (by decide)) (h_is_plan.mono (by decide)) (h__law_part.mono (by decide)) (h__law_now.mono (by decide)) (h__law_stays.mono (by decide)) (h__law_leads.mono (by decide)) (h__law_rows.mono (by decide)) (h__law_stays_on.mono (by decide))).mono (by decide)).imp (Ob K49.MJ)
end K49
namespace PySem.W.Fast
def tw13013018987631300963:=0
def tw887701137322869133:=0
def tw1235092082633100662:=0
def tw3771911365849198696:=0
def tw4128923554233055891:=0
def tw12429850016335651261:=0
def tw16238977742562943718:=0
def tw5413185471570753588:=0
def tw14522022469538768525:=0
def tw876059763409362967:=0
def tw4689485324128976329:=0
def tw276066467412066515:=0
def tw10988620626291129358:=0
def tw12735168027540168559:=0
def tw13279573450671084514:=0
def tw3159429780012971466:=0
def tw14861099145608783085:=0
def tw17921521256742053262:=0
def tw1493897073792127618:=0
def tw4950775713827704043:=0
def tw1395592500378684402:=0
def tw1709590746915538841:=0
def tw8040186176873762168:=0
def tw436430562338822550:=0
def tw6878336823986840849:=0
def tw12273317466811738469:=0
def tw8828629678087530656:=0
def tw5791326718057755092:=0
def tw16074976272590605067:=0
def tw12909919990750594103:=0
def tw14089832493278730516:=0
def tw4008993979881753254:=0
def tw6245700768557926532:=0
def tw18102868064356403371:=0
def tw11048019384868635297:=0
def tw17243568545923842540:=0
def tw6132984657057744261:=0
def tw1285502931135708389:=0
def tw13238185605567175907:=0
def tw17556594984245083035:=0
def tw3035710025280539909:=0
def tw5126490718779110099:=0
def tw16913538123017782935:=0
def tw13761603374297010664:=0
def tw14461710851121213371:=0
def tw8347192620937389409:=0
def tw717434320746995984:=0
def tw16657525400339672399:=0
def tw2771067229213433599:=0
def tw12029059381374649358:=0
def tw7720473505517663786:=0
def tw8229144519418059844:=0
def tw17291606248570744008:=0
def tw1869539908283243151:=0
def tw3025273224433661348:=0
def tw17690543875528913401:=0
def tw17456220831238369616:=0
def tw1943934511820153808:=0
def tw595979148856615115:=0
def tw10389415332724393330:=0
def tw8830720066917264544:=0
def tw16724021879600545076:=0
def tw12786694173673556447:=0
def tw14656595588396703007:=0
def tw2894503509753114798:=0
def tw7886781273570792396:=0
def tw10291848168078767485:=0
def tw15120857203794617615:=0
def tw10156013050710168476:=0
def tw4497332405997459200:=0
def tw16032866409959933068:=0
def tw16603326540400701281:=0
def tw1950228231856856413:=0
def tw6207606949951996134:=0
def tw16176134713341925727:=0
def tw2139842672375531080:=0
def tw1708917397277462268:=0
def tw1571941245833875668:=0
def tw241051733884468970:=0
def tw13976214472542273096:=0
def tw2868561556270680546:=0
def tw11185786636759376137:=0
def tw7038255071991146089:=0
def tw740845493600746389:=0
def tw9443331519667233052:=0
def tw10473036167439001906:=0
def tw9559291155067334898:=0
def tw16002863277317313325:=0
def tw13699408215908322414:=0
def tw3567093331055805252:=0
def tw5152982637865177428:=0
def tw1906513424877044888:=0
def tw17711797036027223404:=0
def tw8013245422272358788:=0
def tw1281121742970992804:=0
def tw10185791125916844968:=0
def tw2252687389579060301:=0
def tw10516115951744480739:=0
def tw2622973756465215703:=0
def tw15697996778805901264:=0
def tw7600573680658525635:=0
def tw13317222288000267097:=0
def tw15523769495285912278:=0
def tw5034323541246987411:=0
def tw7559379657360994884:=0
def tw4236133953587594506:=0
def tw6939074849734895282:=0
def tw5456550985872191773:=0
def tw13928941160120162823:=0
def tw11253450515912784529:=0
def tw10465215586759971879:=0
def tw4368838726378259085:=0
def tw11465202094600680803:=0
def tw16956127453498146398:=0
def tw1526825097847485701:=0
def tw11422625575609997480:=0
def tw15367468464730774766:=0
def tw14782912783308838446:=0
def tw6720512777809505808:=0
def tw108693362730426172:=0
def tw17655523501211213444:=0
def tw3959165876833764771:=0
def tw9297568231511239728:=0
def tw4861320242929682664:=0
def tw10742250777760919047:=0
def tw6838620171396152858:=0
def tw14932045261194028967:=0
def tw9298176626699446363:=0
def tw7806178299413760583:=0
def tw2638195241969407102:=0
def tw12824015902786797757:=0
def tw18154758776699591262:=0
def tw8408861564424933248:=0
def tw473354448277562623:=0
def tw18372287188611635084:=0
def tw8420256071532635253:=0
def tw13317962292181931606:=0
def tw3898346306443698765:=0
def tw18353573698616024628:=0
def tw2173732297269802587:=0
def tw10229811480373994876:=0
def tw15237670149666781042:=0
def tw6839783514861594854:=0
def tw12714250869372476359:=0
def tw7677946379892192533:=0
def tw16880694699926382594:=0
def tw8911791242329683890:=0
def tw14544623452699439281:=0
def tw3034967092446627110:=0
def tw5912244703665247670:=0
def tw1809564806418967937:=0
def tw15434451035156852181:=0
def tw8862600954905246569:=0
def tw12141557247863531078:=0
def tw14771813174765499424:=0
def tw12865075430037944126:=0
def tw14733458121313892168:=0
def tw8379633413248624439:=0
def tw8809939915337743878:=0
def tw5177487152347935669:=0
def tw6135458836874686895:=0
def tw7765875438913986179:=0
def tw16823219373222758462:=0
def tw7824868667267592812:=0
def tw12060208852013444670:=0
def tw13737244993195597810:=0
def tw6219861092666646770:=0
def tw6902116452480256076:=0
def tw16026559731461389767:=0
def tw6392347723992007392:=0
def tw8330606212106019539:=0
def tw3783497058510666613:=0
def tw13592822178395902998:=0
def tw11290330801968701476:=0
def tw11343423021380824382:=0
def tw14867056060582764336:=0
def tw10777222977079236395:=0
def tw16946988415601760569:=0
def tw3476252748501089876:=0
def tw5900220244247681444:=0
def tw3963140964318773785:=0
def tw5356300731957199691:=0
def tw13527118254096940580:=0
def tw16599905938665205491:=0
def tw11594029198266365334:=0
def tw12611980375648712531:=0
def tw7305909494990448977:=0
def tw302324359551308935:=0
def tw9507593912597687008:=0
def tw1059165791135436550:=0
def tw280707899703503274:=0
def tw6469818283169627418:=0
def tw16753298615481102752:=0
def tw2064792667910405566:=0
def tw8677074440349855521:=0
def tw2812519476568390785:=0
def tw14070804040335278470:=0
def tw10501219420454054288:=0
def tw14690131530065380435:=0
def tw7349115141971685267:=0
def tw15092154319724506224:=0
def tw5839752653149783303:=0
def tw3573059037454142850:=0
def tw12577980508042453764:=0
def tw10883432017110357278:=0
def tw240141538854754501:=0
def tw3231919005729638143:=0
def tw14204672808728493075:=0
def tw17069285903244532952:=0
def tw5120920052582768920:=0
def tw15127765353178812487:=0
def tw9172366924673717268:=0
def tw10116505504596765879:=0
def tw392023123758134545:=0
def tw7254294609352351680:=0
def tw17957743772994255700:=0
def tw9718668680027265469:=0
def tw9876581570103117242:=0
def tw14834125239929034014:=0
def tw14346774528786459936:=0
def tw13664049119103731120:=0
def tw15018881988841599320:=0
def tw15998774712410279193:=0
def tw10746078010336795235:=0
def tw11656746362924117349:=0
def tw6721740198612187112:=0
def tw16718564423306459457:=0
def tw9153482759013978544:=0
def tw877490923745927666:=0
def tw16356230581274884925:=0
def tw1377629912971002561:=0
def tw9454211556991093083:=0
def tw1506740406987080917:=0
def tw413359879883706999:=0
def tw16583629117489475820:=0
def tw15344432461029150275:=0
def tw10282588628388300298:=0
def tw15561386416505298757:=0
def tw6365030871375986277:=0
def tw2596373763758581730:=0
def tw15363330005201507889:=0
def tw14601037790916333347:=0
def tw4680760561863412386:=0
def tw9415407872389236071:=0
def tw4643223308818982786:=0
def tw17848954738987065220:=0
def tw7643052563826703624:=0
def tw1675494650063344187:=0
def tw166921666653869959:=0
def tw16645717650617713596:=0
def tw11143610303136258276:=0
def tw13944434776424340771:=0
def tw7216104407468505477:=0
def tw3121859684194039747:=0
def tw2992079270606970317:=0
def tw16835793214172178545:=0
def tw13050828658662340080:=0
def tw9889419095752503724:=0
def tw18025376935543223832:=0
def tw8610924714226130768:=0
def tw4490233418609799269:=0
def tw10822011641337920434:=0
def tw14764358506742245049:=0
def tw2132043518687737356:=0
def tw5155177187637267511:=0
def tw14570505275945793026:=0
def tw17316027987084327514:=0
def tw17861722821894632981:=0
def tw15585492822552747412:=0
def tw7813354806742892188:=0
def tw2269403527472505678:=0
def tw8859419477733680640:=0
def tw14866024651407709648:=0
def tw13114176409092303022:=0
def tw15770837708068943646:=0
def tw9819010631136317068:=0
def tw936722929119851932:=0
def tw13581723142013739983:=0
def tw2503057370506202610:=0
def tw5701281780389857339:=0
def tw16092030107160693081:=0
def tw11366894735639068515:=0
def tw12708553434157077000:=0
def tw9904220188407186546:=0
def tw2486148914747429298:=0
def tw18073614865338049256:=0
def tw8699822107296306345:=0
def tw13760633199791808421:=0
def tw7834354391327879:=0
def tw15013082069742949835:=0
def tw6189469016648172025:=0
def tw16036838408789742479:=0
def tw6665925586902279990:=0
def tw1556379598582747532:=0
def tw17042148338817106329:=0
def tw2478905365227396957:=0
def tw3433882438304878492:=0
def tw11462334206907292721:=0
def tw189692024703173612:=0
def tw5109405347431777684:=0
def tw5452955373397046930:=0
def tw7735320851558361325:=0
def tw9589647834246230044:=0
def tw5029896703121499948:=0
def tw6795565500510599093:=0
def tw10736160557859381064:=0
def tw9142995846279372165:=0
def tw7257106237149194677:=0
def tw12768840715149552332:=0
def tw16450008841635628357:=0
def tw3523255746878101087:=0
def tw9895546407658805113:=0
def tw3969141468167123769:=0
end PySem.W.Fast
open PySem PySem.W PyProof.Rows
set_option maxRecDepth 100000 in
set_option maxHeartbeats 0 in
theorem PySem.Challenge.cw_nightbook_k49_whole_to_the_evening_holds : PySem.Challenge.rw_nightbook_k49_whole_to_the_evening.Holds := by
 w_on;o_law;k_head;(case hw=>w_witness2)
 k_fill
 refine L2.J2 (l:=PySem.Challenge.rw_nightbook_k49_whole_to_the_evening) (n:=63) (k:=65) (x := "_law_script") (CX:=L2.CX0) (sp:=D3.Kp) rfl (by decide) rfl ⟨rfl,by decide,by decide⟩ (fun w h Y=>PySem.W.km_in_of Y) ?F D3.tabs (fun w h Y=>XL.CP (c:=394) (c':=234) (PySem.W.km_in_of Y) (PySem.W.km_tabs_of Y _ (aK)) (PySem.W.km_tabs_of Y _ (aM _ (aK))) (by kernel_rfl) (by kernel_rfl) (by kernel_rfl) (by kernel_rfl)) (XL.KZ (by decide)) ?S ?C
 case F =>
  intro w mg fa h KX G hmg;have T:K49.Txt (L2.KOf KX) mg:=by
   constructor
   (case blt=>constructor <;> (refine' PySem.W.mg_none_of KX G ?z;(case z=>k_is)))
   all_goals try dsimp only [L2.KOf]
   all_goals first
    | (refine' D3.V4 KX G ?b ?a ?l ?c ?k;(case a=>k_is);(case l=>k_is);(case c=>k_is);(case k=>k_is);(case b=>intro _ _ _ _ _ _;repeat (first | exact D3.len0 rfl | exact D3.len0 ⟨_,rfl,rfl⟩ | refine D3.Vf fun _=>?_)))
    | (refine' D3.V5 KX G ?b ?a ?l ?c ?k;(case a=>k_is);(case l=>k_is);(case c=>k_is);(case k=>k_is);(case b=>exact fun _ _ _ _ _ _ u=>rfl))
    | (refine' XL.TJ KX G ?b ?a ?l ?c ?k ?h ?t;(case a=>k_is);(case l=>k_is);(case c=>k_is);(case k=>k_is);(case h=>kernel_rfl);(case t=>first | exact aK | exact aM _ aK);(case b=>intro _ _ _ _ _ _;repeat (first | exact D3.len0 rfl | exact D3.len0 ⟨_,rfl,rfl⟩ | refine D3.Vf fun _=>?_)))
    | (refine' D3.SM KX G ?b ?a ?l ?c ?k ?t ?s;(case a=>k_is);(case l=>k_is);(case c=>k_is);(case k=>k_is);(case t=>k_is);(case s=>rfl);(case b=>intro _ _ _ _ _ _;repeat (first | exact D3.len0 rfl | exact D3.len0 ⟨_,rfl,rfl⟩ | refine D3.Vf fun _=>?_)))
    | (exact ⟨_,PySem.W.mg_of KX G rfl⟩)
  obtain ⟨f,fd,F,b,m⟩:=T.d_law.ex;have e0:=hmg.symm.trans m
  cases e0;exact ⟨fd,b,fun base kb nb=>K49.Vg T F⟩
 case S=>exact fun K H a ns hl hO hS=>⟨a,ns,hO,rfl,hS,hl,fun _=>rfl⟩
 case C=>exact fun _ _ _ _ z=>z
