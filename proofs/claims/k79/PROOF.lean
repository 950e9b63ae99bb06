import PyProof.Rows.All
import Wide.All
import OpenK.AllK
import Wide.FinOn
import Lean
import PyProof.EqAt
import PyProof.EqKinds
import PyProof.TupleCall
import PyProof.EqLayable
import KE.KSortTup
import PyProof.AttrMissHeap
import KE.KDictOf
import KE.KDictSum
import PyProof.Rows.SortWalk
import PyProof.NeKinds
import PyProof.DictWalks
import KE.KMinBuiltin
import PyProof.DictRoadsH
import Wide.Seal
import KE.KDictLaws
import PyProof.Rows.SortRuns
import PyProof.Rows.SortShell
import KE.KDictSum
import KE.KDictLaws
import PyProof.DictFindH
import PyProof.DictRoadsH
import PyProof.WalksMore
import PyProof.Draws
import PyProof.EnumMake
import PyProof.TupleIter
import KE.KLam
import KE.KNestM
import PyProof.ListRange
import PySem.Challenge.RW_nightbook_k79_whole_one_room_each
set_option Elab.async false
set_option linter.all false
set_option maxRecDepth 100000
set_option maxHeartbeats 4000000
set_option exponentiation.threshold 40000
set_option genSizeOf false
set_option genSizeOfSpec false
set_option genInjectivity false
set_option bootstrap.genMatcherCode false
open List renaming length_map->au,getElem?_eq_getElem->aF,mem_cons_self->aG,mem_cons_of_mem->aJ,getD_eq_getElem?_getD->aK,replicate->aN,mem_singleton->aO,pairwise_append->aP,map_cons->aQ,range->aR,mem_cons->aU,append_assoc->aV,size_toArray->aY,mem_range->aZ,getElem?_map->bf,length_cons->bB,length_replicate->bC,length_append->bG,getElem?_eq_none->bH,mem_append_right->bJ,getElem?_set_ne->bK,length_range->bN,pairwise_cons->bO,getElem?_append_right->bT,mem_map->bV,getElem?_append_left->bW,mem_append_left->bY,replicate_succ->b_,getElem_mem->cg,length_eq_zero_iff->cB,mem_append->cD,all_eq_true->cJ,pairwise_iff_getElem->cM,length_take->cR,append_nil->cT,length_set->dh,map_append->dj,not_mem_nil->dw,getElem?_set_self->dD,map_map->dF,mem_filter->dI,nodup_cons->dJ,nil_append->dM,lookup_cons->dN,getElem?_range->dO,mem_map_of_mem->dR,drop_zero->d9,take_of_length_le->eG,map_congr_left->eO,flatten_cons->eU,ext_getElem?->eX,countP_eq_length_filter->eZ,getElem?_drop->fj,getElem?_replicate->fD,length_drop->fG,getElem?_mapIdx->fH,getElem_of_mem->fV,getElem?_eq_some_iff->fX,take_append_drop->fY,perm_append_comm->fZ,getElem_map->gh,mem_of_getElem?->gA,getElem?_of_mem->gB,mem_singleton_self->gM,pairwise_singleton->gO,foldl_cons->gQ,drop_eq_nil_of_le->gY,mem_of_find?_eq_some->iD,map_nil->iG,pairwise_map->iH,getElem?_take_of_lt->iU,find?_eq_none->jf,toArray->jg,filter_eq_nil_iff->ji,find?_cons->jq,length_nil->jr,reverse_cons->jy,count_append->jz,filter_cons->jN,drop_eq_getElem_cons->jT,exists_mem_of_ne_nil->jV,mem_filterMap->kj,getElem_range->kE,filter_append->kI,range'->kZ,filter_cons_of_neg->k_,filter_cons_of_pos->lu,drop_drop->lF,getElem_drop->lG,take_zero->lH,eraseIdx_eq_take_drop_succ->lX,countP_cons->mF,ext_getElem->mG,any_cons->mR,of_mem_zip->nq,dropLast_concat_getLast->nC,filterMap_cons->nO,map->ou,length->oM,getElem?_set->oN,nodup_append->oO,getElem_take->oU,sum_cons->pq,length_eq_one_iff->p8,drop_of_length_le->qd,find?_some->q_,forIn_cons->rm,filter_map->rB,length_singleton->rC,length_filter_le->rD,mem_iff_getElem?->rE,mem_of_mem_drop->rG,mem_of_mem_take->rH,getLast?_concat->rJ,length_reverse->tM,length_pos_iff->tO,perm_nil->tW,map_take->tX,map_drop->tY,zip_cons_cons->uh,length_range'->um,getElem?_take->uo,filter_filter->uq,take_add_one->uN,foldl_append->uQ,lookup->wC,map_id->wD,foldl->yc
open Nat renaming reduceLeDiff->aj,reduceEqDiff->ak,reduceAdd->aq,reduceLT->aA,le_refl->aL,ne_of_lt->bh,le_trans->bF,lt_of_lt_of_le->bR,zero_le->cZ,lt_irrefl->eE,le_of_lt->eF,lt_succ_self->fJ,zero_add->fP,lt_or_ge->gj,lt_of_succ_lt->gH,lt_succ_of_lt->gJ,le_succ->kY,ne_of_gt->lC,add_zero->lE,not_lt->mD,lt_trans->nQ,sub_zero->nR,lt_of_le_of_lt->oh,add_sub_cancel_left->pD,le_add_right->pG,add_assoc->tV,eq_zero_or_pos->ug,succ->uP
open Int renaming reduceEq->aB,reduceLT->aC,reduceLE->aD,le_refl->eV,toNat_natCast->fO,le_trans->gW,emod_lt_of_pos->jh,zero_add->jM,emod_nonneg->j_,eq_ofNat_of_zero_le->pH,sub_zero->p7,le_antisymm->rA,le_of_lt->uO
open Option renaming bind_some->aM,some->cY,map_some->j9,bind_eq_some_iff->pC
open Bool renaming false_ne_true->aW,and_eq_true->aX,not_true->cP,false_eq_true->gb,not_eq_true'->gP,or_eq_true->jm,false_and->lD,not_false->lJ,true_and->mU,and_eq_true_iff->mZ,eq_iff_iff->nA,not_eq_false'->oA
open Array renaming length_toList->bD,getElem?_toList->cC,toList_append->cF,perm_iff_toList_perm->d8,getElem?_eq_none->gZ,getD_eq_getD_getElem?->g_,getElem?_eq_getElem->jU,toList_reverse->mY,toList_push->oR,size_setIfInBounds->o_,toList_inj->pF,forIn_toList->uf
theorem dTr{p:Prop}[Decidable p](h:p):decide p=true:=decide_eq_true h
theorem dFa{p:Prop}[Decidable p](h:¬p):decide p=false:=decide_eq_false h
theorem lMp{α β:Type}{f:α->β}{l:List α}:(l.map f).length=l.length:=au f

namespace L2
open PySem PySem.Spec PyProof.Rows
noncomputable abbrev Key:=Sum Int Str
noncomputable def yd:Key->Value->Bool
 | .inl k,v=>Value.isInt k v
 | .inr x,v=>Value.isStrOf x v
noncomputable def ac4(w:World):Key->Int
 | .inl k=>hashInt k
 | .inr x=>hashStr w x
theorem iI:∀{k:Key}{v:Value},yd k v=true->(∃i t,k=Sum.inl i/\v=Value.int i t)\/(∃x t,k=Sum.inr x/\v=Value.str x t)
 | .inl i,v,h=>by
  obtain⟨t,e⟩:=Value.isInt_shape (k:=i) (v:=v) h
  exact .inl ⟨i,t,rfl,e⟩
 | .inr x,v,h=>by
  obtain⟨t,e⟩:=Value.isStrOf_shape (x:=x) (v:=v) h
  exact .inr ⟨x,t,rfl,e⟩
theorem J7(i:Int)(t:Tok):yd (.inl i) (.int i t)=true:=by simp[yd,Value.isInt]
theorem J8(x:Str)(t:Tok):yd (.inr x) (.str x t)=true:=by simp[yd,Value.isStrOf]
theorem Vq(a b:Int):decide ((Sum.inl a:Key)=Sum.inl b)=(a==b):=by
 by_cases e:a=b
 ·subst e;simp
 ·have h:¬(Sum.inl a:Key)=Sum.inl b:=λq=>e (Sum.inl.inj q)
  rw[dFa h]
  exact(beq_eq_false_iff_ne.mpr e).symm
theorem Vr(a b:Str):decide ((Sum.inr a:Key)=Sum.inr b)=decide (a=b):=by
 by_cases e:a=b
 ·subst e;simp
 ·have h:¬(Sum.inr a:Key)=Sum.inr b:=λq=>e (Sum.inr.inj q)
  rw[dFa h,dFa e]
theorem Vs(a:Int)(b:Str):decide ((Sum.inl a:Key)=Sum.inr b)=false:=dFa (λq=>nomatch q)
theorem Vt(a:Str)(b:Int):decide ((Sum.inr a:Key)=Sum.inl b)=false:=dFa (λq=>nomatch q)
noncomputable def iW(prog:Program)(w:World):PySem.KeyKind prog w Key where
 is:=yd
 hash:=ac4 w
 inj:=λv a b ha X=>by
  rcases iI ha with⟨i,t,rfl,rfl⟩|⟨x,t,rfl,rfl⟩
  ·rcases iI X with⟨j,u,rfl,e⟩|⟨y,u,rfl,e⟩
   ·injection e with Z _;rw[Z]
   ·exact nomatch e
  ·rcases iI X with⟨j,u,rfl,e⟩|⟨y,u,rfl,e⟩
   ·exact nomatch e
   ·injection e with Z _;rw[Z]
 byValue:=λk v h=>by
  rcases iI h with⟨i,t,rfl,rfl⟩|⟨x,t,rfl,rfl⟩<;>rfl
 pyHash:=λY h=>by
  rcases iI Y with⟨i,t,rfl,rfl⟩|⟨x,t,rfl,rfl⟩
  ·exact wpAny_pyHash_int h
  ·exact wpAny_pyHash_str h
 eqBool:=λW Y h=>by
  rcases iI W with⟨i,t,rfl,rfl⟩|⟨x,t,rfl,rfl⟩
  ·rcases iI Y with⟨j,u,rfl,rfl⟩|⟨y,u,rfl,rfl⟩
   ·rw[Vq]at h;exact wpAny_eqBool_int h
   ·rw[Vs]at h;exact SeqAt.EqAt.int_str i t y u _ _ _ _ h
  ·rcases iI Y with⟨j,u,rfl,rfl⟩|⟨y,u,rfl,rfl⟩
   ·rw[Vt]at h;exact SeqAt.EqAt.str_int x t j u _ _ _ _ h
   ·rw[Vr]at h;exact wpAny_eqBool_str h
 «strs»:=λk x t v h=>by
  rcases iI h with⟨i,u,rfl,e⟩|⟨y,u,rfl,e⟩
  ·exact nomatch e
  ·injection e with Z _
   subst Z
   cases v<;>rfl
theorem G8(prog:Program)(w:World)(k:Key)(v:Value):(iW prog w).is k v=yd k v:=rfl
theorem Eh(prog:Program)(w:World)(i:Int)(t:Tok):(iW prog w).is (.inl i) (.int i t)=true:=J7 i t
theorem Ei(prog:Program)(w:World)(x:Str)(t:Tok):(iW prog w).is (.inr x) (.str x t)=true:=J8 x t
end L2
variable{us:List Value}{a b:Addr}{P:Program}{w:World}{h:Heap}
namespace L2
open PySem PySem.Spec PyProof.Rows
inductive V where
 |non|bl (b:Bool)|int (i:Int)|str (x:Str)|byt (b:Array UInt8)|flt (b:UInt64)|ref (a:Addr)|ty (n:String)
 deriving DecidableEq
noncomputable def RelV:V->Value->Prop
 | .non,u=>u=Value.none
 | .bl b,u=>u=Value.bool b
 | .int i,u=>∃t,u=Value.int i t
 | .str x,u=>∃t,u=Value.str x t
 | .byt b,u=>∃t,u=Value.bytes b t
 | .flt b,u=>∃t,u=Value.float b t
 | .ref a,u=>u=Value.ref a
 | .ty n,u=>u=Value.type n
noncomputable abbrev Vals:List V->List Value->Prop:=Paired RelV
theorem Vals.length{xs:List V}(r:Vals xs us):xs.length=us.length:=Paired.length r
theorem Vals.get:∀{xs:List V}{us:List Value}{i:Nat}{x:V},Vals xs us->xs[i]? = some x->∃u,us[i]? = some u/\RelV x u
 |_,_,_,_,.nil,e=>by simp at e
 |_,_,0,_,.cons r _,e=>by simp at e;subst e;exact⟨_,rfl,r⟩
 |_,_,i+1,x,.cons _ t,e=>by
  obtain⟨u,h1,h2⟩:=Vals.get (i:=i) (x:=x) t (by simpa using e)
  exact⟨u,by simpa using h1,h2⟩
theorem Vals.set{x:V}{u:Value}(r:RelV x u):∀{xs:List V}{us:List Value}(i:Nat),Vals xs us->Vals (xs.set i x) (us.set i u)
 |_,_,_,.nil=>.nil
 |_,_,0,.cons _ t=>.cons r t
 |_,_,i+1,.cons q t=>.cons q (Vals.set r i t)
theorem Vals.append:∀{xs ys:List V}{us ws:List Value},Vals xs us->Vals ys ws->Vals (xs++ys) (us++ws)
 |_,_,_,_,.nil,s=>s
 |_,_,_,_,.cons r t,s=>.cons r (Vals.append t s)
theorem Vals.take:∀{xs:List V}{us:List Value}(n:Nat),Vals xs us->Vals (xs.take n) (us.take n)
 |_,_,0,_=>.nil
 |_,_,_+1,.nil=>.nil
 |_,_,n+1,.cons r t=>.cons r (Vals.take n t)
theorem Vals.drop:∀{xs:List V}{us:List Value}(n:Nat),Vals xs us->Vals (xs.drop n) (us.drop n)
 |_,_,0,r=>r
 |_,_,_+1,.nil=>.nil
 |_,_,n+1,.cons _ t=>Vals.drop n t
noncomputable def vJ:Option V->Option Value->Prop
 |some v,some u=>RelV v u
 |none,none=>True
 |_,_=>False
noncomputable def KV{κ:Type}:List (κ×V)->List (κ×Value)->Prop:=Paired λ(p:κ×V)(q:κ×Value)=>p.1=q.1/\RelV p.2 q.2
noncomputable def kV:Key->V
 | .inl i=>.int i
 | .inr x=>.str x
inductive HO where
 /-- a list -/
 |lst (xs:List V)
 /-- a tuple (never changes) -/
 |tup (xs:List V)
 /-- a dict whose keys are ints and texts;one whose keys are tuples of ints and texts (the empty one is both) -/
 |dK (kvs:List (Key×V))|dT (kvs:List (List Key×V))
 /-- a set of ints: its members,its size -/
 |set (S:Int->Bool) (n:Nat)
 /-- an instance of the class at C,its dict at dx,its attributes -/
 |ins (C dx:Addr) (fs:List (Str×V))
 /-- the dict of the instance at x -/
 |own (x:Addr)
 /-- the dict of an exception -/
 |xd (fs:List (Str×V))
 /-- a bound method,f of x -/
 |met (f x:Addr)
 /-- a range object lo,lo+1,.. below hi -/
 |rng (lo hi:Int)
 /-- a thing that is known to the object (the script;a dict while a loop walks it): read,never written while it is so -/
 |frz (o:Obj) (u:HO)
 /-- a code object's table -/
 |tbl (q:Str) (p:Pos)
 /-- any other thing,by what is true of its one object (a def of one's own: SetO a S n:=HO.ext λh=>..) -/
 |ext (φ:Heap->Prop)
noncomputable abbrev Hp:=Addr->Option HO
noncomputable def upd(H:Hp)(a:Addr)(o:HO):Hp:=λb=>if b=a then some o else H b
theorem cQ{H:Hp}{o:HO}:upd H a o a=some o:=by unfold upd;rw[if_pos rfl]
theorem cG{H:Hp}{o:HO}(h:b≠a):upd H a o b=H b:=by unfold upd;rw[if_neg h]
theorem Ir{H:Hp}{o u:HO}:upd (upd H a o) a u=upd H a u:=by
 funext b;unfold upd;split<;>rfl
theorem yg{H:Hp}{o u:HO}(h:H a=some o)(h':H b=some u)(d:o≠u):a≠b:=by
 intro e;subst e;rw[h]at h';exact d (cY.inj h')
theorem jE{H:Hp}{o:HO}(h:H a=some o)(h':H b=none):a≠b:=by
 intro e;subst e;rw[h]at h';cases h'
section
variable(P:Program)(w:World)
noncomputable def gR(H:Hp)(h:Heap)(a:Addr):HO->Prop
 | .lst xs=>xs.length<=sizeLine/\∃(its:List Value)(n:Nat),Vals xs its/\h.get? a=some {cls:=.type "list", data:=.seq its.toArray n}
 | .tup xs=>xs.length<=sizeLine/\∃its:List Value,Vals xs its/\IsTup h a its.toArray
 | .dK kvs=>kvs.length<=sizeLine/\(a==sysModules)=false/\∃vs,KV kvs vs/\h.DictOf (iW P w) a vs
 | .dT kvs=>kvs.length<=sizeLine/\(a==sysModules)=false/\∃xs:List (List Key×Addr×Value),
  Paired (λ(p:List Key×V)(q:List Key×Addr×Value)=>p.1=q.1/\H q.2.1=some (.tup (p.1.map kV))/\RelV p.2 q.2.2) kvs xs /\
  ∃o es ep,h.get? a=some o/\o.ExactDict/\o.data = .dict es ep/\es.toList=xs.map (entryOfKey (tupleKind (iW P w)))/\(xs.map (·.1)).Nodup
 | .set S n=>h.SetOf (intKind P w) a S n
 | .ins C dx fs=>H dx=some (.own a)/\fs.length<=1000/\dx≠a/\h.get? a=some (PySem.W.instObj C dx) /\
  ∃mA,h.Ns1 dx mA/\(∀f,vJ (fs.lookup f) (mA f))/\PySem.Within mA (fs.map (·.1))
 | .own _=>∃o,h.get? a=some o
 | .xd fs=>∃mA,h.Ns1 a mA/\∀f,vJ (fs.lookup f) (mA f)
 | .rng lo hi=>∃t u v,h.get? a=some {cls:=.type "range", data:=.fields #[.int lo t,.int hi u,.int 1 v]}
 | .frz o u=>h.get? a=some o/\gR H h a u
 | .tbl q p=>∃ps,h.get? a=some {cls:=.none,data:=.fields ps}/\(ps = #[]\/∃c',ps = #[rawInt p.line,rawInt p.col,.ref c']/\H c'=some (.own a)/\h.CodeRec (.ref c') q)
 | .met f x=>h.get? a=some (PySem.W.methodObj (.ref f) (.ref x))
 | .ext φ=>φ h/\(∃o,h.get? a=some o)/\∀h1 h2:Heap,φ h1->(∀o,h1.get? a=some o->h2.get? a=some o)->φ h2
noncomputable def HOk(H:Hp)(h:Heap):Prop:=∀a o,H a=some o->gR P w H h a o
end
section
variable{P:Program}{w:World}{H H':Hp}{h h':Heap}{a:Addr}{o:HO}
theorem gR.lt(x:gR P w H h a o):a<h.objs.size:=by
 cases o with
 |lst xs=>obtain⟨_,_,_,_,e⟩:=x;exact Heap.lt_size e
 |tup xs=>obtain⟨_,_,_,p⟩:=x;exact p.lt
 |dK kvs=>obtain⟨_,_,_,_,o,_,_,e,_⟩:=x;exact Heap.lt_size e
 |dT kvs=>obtain⟨_,_,_,_,o,_,_,e,_⟩:=x;exact Heap.lt_size e
 |set S n=>obtain⟨o,_,_,_,e,_⟩:=x;exact Heap.lt_size e
 |ins C dx fs=>obtain⟨_,_,_,e,_⟩:=x;exact Heap.lt_size e
 |own y=>obtain⟨_,e⟩:=x;exact Heap.lt_size e
 |xd fs=>obtain⟨_,⟨_,_,_,e,_⟩,_⟩:=x;exact Heap.lt_size e
 |rng lo hi=>obtain⟨_,_,_,e⟩:=x;exact Heap.lt_size e
 |frz Z u=>obtain⟨e,_⟩:=x;exact Heap.lt_size e
 |tbl q p=>obtain⟨_,e,_⟩:=x;exact Heap.lt_size e
 |met f y=>exact Heap.lt_size (show h.get? a=some _ from x)
 |ext φ=>obtain⟨_,⟨_,e⟩,_⟩:=x;exact Heap.lt_size e
theorem Paired.mapP{α β:Type}{F G:α->β->Prop}:∀{l₁:List α}{l₂:List β},Paired F l₁ l₂->(∀a b,F a b->G a b)->Paired G l₁ l₂
 |_,_,.nil,_=>.nil
 |_,_,.cons r t,f=>.cons (f _ _ r) (Paired.mapP t f)
theorem gR.stay(x:gR P w H h a o)(k:∀b u,(b=a\/H b=some (.own a))->h.get? b=some u->h'.get? b=some u)
 (B:∀b,H b=some (.own a)->H' b=some (.own a)) (D:∀b xs,H b=some (.tup xs)->H' b=some (.tup xs)):gR P w H' h' a o:=by
 induction o with
 |lst xs=>obtain⟨z,its,n,r,e⟩:=x;exact⟨z,its,n,r,k _ _ (.inl rfl) e⟩
 |tup xs=>obtain⟨z,its,r,Z,e,c⟩:=x;exact⟨z,its,r,Z,k _ _ (.inl rfl) e,c⟩
 |dK kvs=>obtain⟨z,y,vs,r,Z,es,ep,e,c⟩:=x;exact⟨z,y,vs,r,Z,es,ep,k _ _ (.inl rfl) e,c⟩
 |dT kvs=>
  obtain⟨z,y,xs,r,Z,es,ep,e,c⟩:=x
  exact⟨z,y,xs,Paired.mapP r λp q z=>⟨z.1,D _ _ z.2.1,z.2.2⟩,Z,es,ep,k _ _ (.inl rfl) e,c⟩
 |set S n=>obtain⟨Z,es,ep,t,e,c⟩:=x;exact⟨Z,es,ep,t,k _ _ (.inl rfl) e,c⟩
 |ins C dx fs=>
  obtain⟨d,z,ne,e,mA,⟨od,es,ep,N,c⟩,r⟩:=x
  exact⟨B _ d,z,ne,k _ _ (.inl rfl) e,mA,⟨od,es,ep,k _ _ (.inr d) N,c⟩,r⟩
 |own y=>obtain⟨Z,e⟩:=x;exact⟨Z,k _ _ (.inl rfl) e⟩
 |xd fs=>obtain⟨mA,⟨od,es,ep,e,c⟩,r⟩:=x;exact⟨mA,⟨od,es,ep,k _ _ (.inl rfl) e,c⟩,r⟩
 |rng lo hi=>obtain⟨t,u,v,e⟩:=x;exact⟨t,u,v,k _ _ (.inl rfl) e⟩
 |frz Z u Q=>obtain⟨e,q⟩:=x;exact⟨k _ _ (.inl rfl) e,Q q⟩
 |tbl q p=>
  obtain⟨ps,e,z⟩:=x
  refine⟨ps,k a _ (.inl rfl) e,?_⟩
  rcases z with z|⟨c',z1,z2,T⟩
  ·exact .inl z
  ·obtain⟨c,oc,vs,R,U,Y,X,O⟩:=T
   have V:c'=c:=by injection U
   exact .inr ⟨c',z1,B _ z2,c,oc,vs,R,U,k _ _ (.inr (V▸z2)) Y,X,O⟩
 |met f y=>
  have e:h.get? a=some (PySem.W.methodObj (.ref f) (.ref y)):=x
  show h'.get? a=some (PySem.W.methodObj (.ref f) (.ref y))
  exact k a _ (.inl rfl) e
 |ext φ=>obtain⟨p,⟨o,e⟩,st⟩:=x;exact⟨st _ _ p λo q=>k _ _ (.inl rfl) q,⟨o,k _ _ (.inl rfl) e⟩,st⟩
theorem HOk.lt(x:HOk P w H h)(e:H a=some o):a<h.objs.size:=(x a o e).lt
theorem HOk.fresh(x:HOk P w H h)(e:h.objs.size<=a):H a=none:=by
 cases q:H a with
 |none=>rfl
 |some u=>exact absurd (bR (x.lt q) e) (eE _)
theorem HOk.kept(x:HOk P w H h)(k:∀b u,h.get? b=some u->h'.get? b=some u):HOk P w H h':=λa o e=>
 (x a o e).stay (λb u _ q=>k b u q) (λ_ q=>q) λ_ _ q=>q
theorem HOk.laid(x:HOk P w H h)(k:∀b u,h.get? b=some u->h'.get? b=some u)(D:h.objs.size<=a)(B:gR P w (upd H a o) h' a o):HOk P w (upd H a o) h':=λb u e=>by
 have hn:=x.fresh D
 by_cases Z:b=a
 ·subst Z;rw[cQ]at e;cases e;exact B
 ·rw[cG Z]at e
  exact(x b u e).stay (λc v _ q=>k c v q) (λc q=>by rw[cG (jE q hn)];exact q) λc xs q=>by rw[cG (jE q hn)];exact q
end
noncomputable def Rd(H:Hp)(a:Addr)(u:HO):Prop:=H a=some u\/∃o,H a=some (.frz o u)
theorem Rd.ok{H:Hp}{u:HO}(r:Rd H a u)(x:HOk P w H h):gR P w H h a u:=by
 rcases r with r|⟨o,r⟩
 ·exact x a u r
 ·obtain⟨_,q⟩:=x a _ r
  exact q
noncomputable def Mut:Option HO->Prop
 |some (.lst _)=>True
 |some (.dK _)=>True
 |some (.dT _)=>True
 |some (.set _ _)=>True
 |some (.ins _ _ _)=>True
 |some (.ext _)=>True
 |_=>False
section
variable{P:Program}{w:World}{H:Hp}{h h':Heap}{x e:Addr}{o':HO}
theorem HOk.write(ok:HOk P w H h)(B:Mut (H x))(O:e=x\/H e=some (.own x))(k:∀b u,b≠e->h.get? b=some u->h'.get? b=some u)(J:∃u,h'.get? e=some u)
 (D:gR P w (upd H x o') h' x o'):HOk P w (upd H x o') h':=λb u q=>by
 have Y:∀c y,H c=some (.own y)->c≠x:=λc y r z=>by subst z;rw[r]at B;exact B
 have X:∀c xs,H c=some (.tup xs)->c≠x:=λc xs r z=>by subst z;rw[r]at B;exact B
 by_cases V:b=x
 ·subst V;rw[cQ]at q;cases q;exact D
 ·rw[cG V]at q
  by_cases Z:b=e
  ·have U:H b=some (.own x):=by
    rcases O with z|z
    ·exact absurd (Z.trans z) V
    ·rw[Z];exact z
   rw[q]at U;cases U
   obtain⟨v,T⟩:=J
   exact⟨v,by rw[Z];exact T⟩
  ·refine(ok b u q).stay (λc v W r=>k c v ?_ r) (λc r=>by rw[cG (Y c b r)];exact r) λc xs r=>by rw[cG (X c xs r)];exact r
   rcases W with rfl|W
   ·exact Z
   ·rintro rfl
    rcases O with z|z
    ·exact Y c b W z
    ·rw[W]at z;cases z;exact V rfl
end
structure Un(fs ex:List Addr)(H H':Hp)(h h':Heap):Prop where
 keep:∀b o,h.get? b=some o->H b=none->b∉fs->b∉ex->h'.get? b=some o
 slot:∀b o,h.get? b=some o->H b=none->b∈fs->b∉ex->∃sl,h'.get? b=some {o with slots:=sl}
 free:∀b o,h.get? b=some o->H b=none->b∉ex->H' b=none
 there:∀b o,h.get? b=some o->b∉ex->∃o',h'.get? b=some o'
 tups:∀b xs,H b=some (.tup xs)->H' b=some (.tup xs)
 frzs:∀b o u,H b=some (.frz o u)->H' b=some (.frz o u)
 tbls:∀b q p,H b=some (.tbl q p)->H' b=some (.tbl q p)
section
variable{fs fs' ex ex':List Addr}{H H1 H2:Hp}{h h1 h2 h':Heap}{a x e:Addr}{o:HO}
theorem Un.any(u:Un fs ex H H1 h h1){b:Addr}{B:Obj}(q:h.get? b=some B)(n:H b=none)(D:b∉ex):∃sl,h1.get? b=some {B with slots:=sl}:=by
 by_cases Z:b∈fs
 ·exact u.slot b B q n Z D
 ·exact⟨B.slots,u.keep b B q n Z D⟩
theorem Un.kept(k:∀b u,h.get? b=some u->h'.get? b=some u):Un fs ex H H h h':=
 ⟨λb Z q _ _ _=>k b Z q,λb Z q _ _ _=>⟨Z.slots,k b Z q⟩,λ_ _ _ n _=>n,λb Z q _=>⟨Z,k b Z q⟩,λ_ _ q=>q,λ_ _ _ q=>q,λ_ _ _ q=>q⟩
theorem Un.refl:Un fs ex H H h h:=Un.kept λ_ _ q=>q
theorem Un.laid(k:∀b u,h.get? b=some u->h'.get? b=some u)(B:h.objs.size<=a)(hn:H a=none):Un fs ex H (upd H a o) h h' where
 keep:=λb u q _ _ _=>k b u q
 slot:=λb u q _ _ _=>⟨u.slots,k b u q⟩
 free:=λb u q n _=>by rw[cG (bh (bR (Heap.lt_size q) B))];exact n
 there:=λb u q _=>⟨u,k b u q⟩
 tups:=λb xs q=>by rw[cG (jE q hn)];exact q
 frzs:=λb u xs q=>by rw[cG (jE q hn)];exact q
 tbls:=λb q p e=>by rw[cG (jE e hn)];exact e
theorem Un.write(B:Mut (H x))(J:e=x\/H e=some (.own x))(k:∀b u,b≠e->h.get? b=some u->h'.get? b=some u)(D:∃u,h'.get? e=some u):Un fs ex H (upd H x o) h h':=by
 have Y:∀b,H b=none->b≠x:=λb n z=>by subst z;rw[n]at B;exact B
 have X:∀b,H b=none->b≠e:=λb n z=>by
  subst z
  rcases J with r|r
  ·exact Y b n r
  ·rw[n]at r;cases r
 have hm:∀b u,H b=some u->¬Mut (some u)->b≠x:=λb u q nm z=>by subst z;rw[q]at B;exact nm B
 refine⟨λb u q n _ _=>k b u (X b n) q,λb u q n _ _=>⟨u.slots,k b u (X b n) q⟩,λb u q n _=>by rw[cG (Y b n)];exact n,λb u q _=>?_,
  λb xs q=>by rw[cG (hm b _ q λz=>z)];exact q,λb u xs q=>by rw[cG (hm b _ q λz=>z)];exact q,λb q p e=>by rw[cG (hm b _ e λz=>z)];exact e⟩
 by_cases Z:b=e
 ·subst Z;exact D
 ·exact⟨u,k b u Z q⟩
end
noncomputable def trk(h:Heap)(H:Hp):List Addr:=(aR h.objs.size).filter λa=>(H a).isSome
noncomputable def BJ(h:Heap)(H:Hp):Heap:=PySem.W.hideAll h (trk h H)
theorem J9(h:Heap)(H:Hp):(BJ h H).objs.size=h.objs.size:=PySem.W.hideAll_size _ _
theorem LC{H:Hp}{o:Obj}(e:h.get? b=some o)(n:H b=none):(BJ h H).get? b=some o:=
 PySem.W.hideAll_get _ e λhm=>by
  have q:(H b).isSome=true:=(dI.mp hm).2
  rw[n]at q;simp at q
theorem Q_{H:Hp}{o:Obj}(e:(BJ h H).get? b=some o):h.get? b=some o/\H b=none:=by
 have Z:h.get? b=some o:=PySem.W.of_hideAll (trk h H) e
 refine⟨Z,?_⟩
 cases q:H b with
 |none=>rfl
 |some x=>
  have hm:b∈trk h H:=dI.mpr ⟨aZ.mpr (Heap.lt_size Z),by simp[q]⟩
  have z:(BJ h H).get? b=none:=PySem.W.hideAll_none (trk h H) hm
  rw[z]at e;cases e
noncomputable def nU(g h:Heap)(L:Addr):List (Addr×Obj):=(aR h.objs.size).filterMap λa=>if a=L\/(g.get? a).isSome=true then none else(h.get? a).map λo=>(a,o)
theorem rK{g:Heap}{L:Addr}{o:Obj}(h1:a≠L)(h2:g.get? a=none)(B:h.get? a=some o):(a,o)∈nU g h L:=
 kj.mpr ⟨a,aZ.mpr (Heap.lt_size B),by simp[h1,h2,B]⟩
theorem yh{g:Heap}{L:Addr}{p:Addr×Obj}(B:p∈nU g h L):p.1≠L/\g.get? p.1=none/\h.get? p.1=some p.2:=by
 obtain⟨b,_,e⟩:=kj.mp B
 split at e
 ·cases e
 ·rename_i hn
  cases q:h.get? b with
  |none=>rw[q]at e;simp at e
  |some u=>
   rw[q]at e
   simp only[j9,cY.injEq]at e
   subst e
   refine⟨λz=>hn (.inl z),?_,q⟩
   show g.get? b=none
   cases r:g.get? b with
   |none=>rfl
   |some v=>exact(hn (.inr (by simp[r]))).elim
theorem Ej{g:Heap}{L:Addr}:News g L h (nU g h L):=λp Z=>let⟨a,b,c⟩:=yh Z;⟨c,a,b⟩
end L2
variable{t' i:Nat}{ch:List Addr}{it:Addr}{o:L2.HO}{N:List Str}{M:Model}{A:Around}{E:Value->Shared->Prop}{x:Str}{v:L2.V}{e:Expr}{s:Shared}
namespace L2
open PySem PySem.Spec PyProof.Rows
structure Mod(K:PySem.W.Frag)(mg:Str->Option Value)(base:Heap):Prop where
 kin:K.In base
 glob:base.Ns mainGlobals mg
 blt:∃mb,base.Ns builtinsNs mb/\∀x:Str,x≠"__name__"->mb x=bootBuiltins x
 nolimit:base.NoLimit
 bm:∃bm ob,mg "__builtins__"=some (.ref bm)/\bm≠builtinsNs/\base.get? bm=some ob/\ob.cls = .type "module"/\ob.dict=some builtinsNs/\ob.data = .plain
structure Cx where
 prog:Program
 w:World
 K:PySem.W.Frag
 mg:Str->Option Value
 base:Heap
 A:Around
 N:List Str
 s₀:Shared
 H₀:Hp
 env:Env
 outer:List Env
 stack:List Env
 ex:List Addr
 fn:Str->Bool
 calm:Bool
 pn:List (Addr×Obj)
 xe:Value->Shared->Prop
noncomputable def frs(l:List Env):List Addr:=l.filterMap (·.frame)
noncomputable abbrev Cx.fs(X:Cx):List Addr:=frs X.outer
noncomputable def Vis(sc:Scope)(x:Str):Prop:=sc.names.lookup x=some .local\/sc.names.lookup x=some .cell\/sc.names.lookup x=some .free
noncomputable def Loc(sc:Scope)(x:Str):Prop:=sc.names.lookup x=some .local\/sc.names.lookup x=some .cell
noncomputable def Look(env:Env)(h:Heap)(m:Str->Option Value)(x:Str)(u:Value):Prop:=
 (env.kindOf x=some .local/\m x=some u)\/((env.kindOf x=some .cell\/env.kindOf x=some .free)/\∃c,env.cells.lookup x=some c/\h.IsCell c (some u))
structure Cx.Ok(X:Cx):Prop where
 mod:Mod X.K X.mg X.base
 kind:X.env.scope.kind = .function
 glob:X.env.globals=mainGlobals
 blt:X.env.builtins=builtinsNs
 above:X.s₀.heap.objs.size<=X.env.locals
 inj:∀x y c,X.env.cells.lookup x=some c->X.env.cells.lookup y=some c->x=y
 has:∀x,(X.env.kindOf x=some .cell\/X.env.kindOf x=some .free)->∃c,X.env.cells.lookup x=some c
 cab:∀x c,X.fn x=true->X.env.cells.lookup x=some c->X.s₀.heap.objs.size<=c
 hd:X.calm=true->X.A.handled=none
 frames:X.A.frames=some X.stack
 stk:X.stack=X.outer\/(X.stack=X.env::X.outer/\X.env.frame=some X.env.locals)
 exf:∀b∈X.ex,b≠X.env.locals/\∀x c,X.env.cells.lookup x=some c->c≠b
 bs:∀b o,X.base.get? b=some o->X.s₀.heap.get? b=some o/\X.H₀ b=none
 bsz:X.base.objs.size<=X.s₀.heap.objs.size
 noex:∀b o,X.base.get? b=some o->b∉X.ex
 exfs:∀b∈X.ex,b∉X.fs
 funs:X.s₀.heap.FunFrames X.base X.outer
 frf:∀b∈X.fs,X.H₀ b=none
structure Inv(X:Cx)(pins:List (Addr×Obj))(σ:List (Option V))(H:Hp)(s:Shared):Prop where
 ok:X.Ok
 os:s.os=X.s₀.os
 bare:AllBare s.gens
 base:Un X.fs X.ex X.H₀ H X.s₀.heap s.heap
 loc:∃m,s.heap.Ns X.env.locals m/\∀(i:Nat)(x:Str)(v:V),X.N[i]? = some x->σ[i]? = some (some v)->Vis X.env.scope x->∃u,RelV v u/\Look X.env s.heap m x u
 cell:∀x c,X.env.cells.lookup x=some c->∃v,s.heap.IsCell c v
 free:H X.env.locals=none
 freeC:∀x c,X.env.cells.lookup x=some c->H c=none
 pin:∀p∈X.pn++pins,s.heap.get? p.1=some p.2/\H p.1=none/\p.1≠X.env.locals/\p.1∉X.fs/\∀v,p.2.data ≠ .cell v
 hok:HOk X.prog X.w H s.heap
 len:σ.length=X.N.length
section
variable{X:Cx}{pins:List (Addr×Obj)}{σ:List (Option V)}{H H':Hp}{s:Shared}{h':Heap}
theorem Cx.Ok.nofr(ok:X.Ok){b:Addr}{o:Obj}(e:X.base.get? b=some o):b∉X.fs:=λZ=>by
 have:=(ok.funs.mem Z).1
 rw[e]at this;cases this
theorem Inv.bs(I:Inv X pins σ H s):∀b o,X.base.get? b=some o->s.heap.get? b=some o/\H b=none:=λb o e=>
 ⟨I.base.keep b o (I.ok.bs b o e).1 (I.ok.bs b o e).2 (I.ok.nofr e) (I.ok.noex b o e),I.base.free b o (I.ok.bs b o e).1 (I.ok.bs b o e).2 (I.ok.noex b o e)⟩
theorem Inv.bk(I:Inv X pins σ H s):∀b o,X.base.get? b=some o->s.heap.get? b=some o:=λb o e=>(I.bs b o e).1
theorem Inv.mod(I:Inv X pins σ H s):Mod X.K X.mg X.base:=I.ok.mod
theorem Inv.kIn(I:Inv X pins σ H s):X.K.In s.heap:=I.ok.mod.kin.keeps I.bk
theorem Inv.lt(I:Inv X pins σ H s):X.env.locals<s.heap.objs.size:=let⟨_,hn,_⟩:=I.loc;hn.lt
theorem Inv.sz(I:Inv X pins σ H s):X.s₀.heap.objs.size<=s.heap.objs.size:=bF I.ok.above (eF I.lt)
theorem Inv.nofs(I:Inv X pins σ H s){a:Addr}(h:s.heap.objs.size<=a):a∉X.fs:=λY=>by
 obtain⟨_,o,Z,_⟩:=I.ok.funs.mem Y
 exact absurd (bR (Heap.lt_size Z) (bF I.sz h)) (eE _)
theorem Inv.cne(I:Inv X pins σ H s):∀x c,X.env.cells.lookup x=some c->c≠X.env.locals:=λx c e z=>by
 obtain⟨v,o,W,hd⟩:=I.cell x c e
 obtain⟨m,⟨o',es,ep,Z,Y,_⟩,_⟩:=I.loc
 rw[z,Z]at W;cases W;rw[Y]at hd;cases hd
theorem Inv.funs(I:Inv X pins σ H s):s.heap.FunFrames X.base X.outer:=by
 have all:∀(l:List Env),(∀b∈frs l,b∈X.fs)->X.s₀.heap.FunFrames X.base l->s.heap.FunFrames X.base l:=by
  intro l
  induction l with
  |nil=>intro _ _;trivial
  |cons env r V=>
   intro hs S
   obtain⟨R,⟨L,o,Z,hn,T,hd⟩,U⟩:=S
   have W:L∈X.fs:=hs L (by unfold frs;rw[nO,Z];exact aG)
   obtain⟨sl,e⟩:=I.base.slot L o T (I.ok.frf L W) W λz=>I.ok.exfs L z W
   exact⟨R,⟨L,_,Z,hn,e,hd⟩,V (λb Y=>hs b (by unfold frs;rw[nO,Z];exact aJ _ Y)) U⟩
 exact all X.outer (λ_ Y=>Y) I.ok.funs
theorem Inv.stack(I:Inv X pins σ H s):s.heap.FunFrames X.base X.stack:=by
 rcases I.ok.stk with e|⟨e,Z⟩
 ·rw[e];exact I.funs
 ·rw[e]
  obtain⟨m,hn,_⟩:=I.loc
  refine .cons (by rw[I.ok.kind];decide) Z hn ?_ I.funs
  exact Heap.get?_none_of_le (bF I.ok.bsz I.ok.above)
theorem Inv.stkSub(I:Inv X pins σ H s):∀b∈frs X.stack,b∈X.env.locals::X.fs:=λb Z=>by
 rcases I.ok.stk with e|⟨e,Y⟩
 ·rw[e]at Z;exact aJ _ Z
 ·rw[e]at Z
  unfold frs at Z
  rw[nO,Y]at Z
  exact Z
theorem Inv.stkFree(I:Inv X pins σ H s):∀b∈frs X.stack,H b=none:=λb Z=>by
 rcases aU.mp (I.stkSub b Z)with e|Z
 ·rw[e];exact I.free
 ·obtain⟨_,o,Y,_⟩:=I.ok.funs.mem Z
  exact I.base.free b o Y (I.ok.frf b Z) λz=>I.ok.exfs b z Z
theorem Inv.step{g':Array GenState}{d':Drawn}(I:Inv X pins σ H s)
 (B:∀b∈ch,(b∈X.ex\/X.s₀.heap.objs.size<=b)/\b≠X.env.locals/\(∀x c,X.env.cells.lookup x=some c->c≠b)/\∀p∈X.pn++pins,p.1≠b)
 (keep:∀b o,b≠X.env.locals->b∉X.fs->b∉ch->s.heap.get? b=some o->H b=none->h'.get? b=some o)
 (slot:∀b o,b≠X.env.locals->b∈X.fs->b∉ch->s.heap.get? b=some o->H b=none->∃sl,h'.get? b=some {o with slots:=sl}) (free:∀b o,b∉ch->s.heap.get? b=some o->H b=none->H' b=none)
 (there:∀b o,b∉ch->s.heap.get? b=some o->∃o',h'.get? b=some o')
 (tups:∀b xs,H b=some (.tup xs)->H' b=some (.tup xs)) (frzs:∀b o u,H b=some (.frz o u)->H' b=some (.frz o u)) (tbls:∀b q p,H b=some (.tbl q p)->H' b=some (.tbl q p))
 (ns:∀m,s.heap.Ns X.env.locals m->h'.Ns X.env.locals m) (hok:HOk X.prog X.w H' h') (D:AllBare g') :
 Inv X pins σ H' {s with heap:=h',gens:=g',drawn:=d',toks:=t'}:=by
 have S:∀b o,X.s₀.heap.get? b=some o->b≠X.env.locals:=λb o e=>bh (bR (Heap.lt_size e) I.ok.above)
 have W:∀b o,X.s₀.heap.get? b=some o->b∉X.ex->b∉ch:=λb o e Z V=>by
  rcases(B b V).1 with z|z
  ·exact Z z
  ·exact absurd (bR (Heap.lt_size e) z) (eE _)
 have cellK:∀x c,X.env.cells.lookup x=some c->∀v,s.heap.IsCell c v->h'.IsCell c v:=λx c e v ⟨o,T,hd⟩=>by
  have Y:c∉ch:=λz=>(B c z).2.2.1 x c e rfl
  by_cases N:c∈X.fs
  ·obtain⟨sl,q⟩:=slot c o (I.cne x c e) N Y T (I.freeC x c e)
   exact⟨_,q,hd⟩
  ·exact⟨o,keep c o (I.cne x c e) N Y T (I.freeC x c e),hd⟩
 refine⟨I.ok,I.os,D,⟨λb o e n V Z=>?_,λb o e n V Z=>?_,λb o e n Z=>?_,λb o e Z=>?_,λb xs e=>tups b xs (I.base.tups b xs e),λb o xs e=>frzs b o xs (I.base.frzs b o xs e),λb q p e=>tbls b q p (I.base.tbls b q p e)⟩,?_,λx c e=>?_,?_,λx c e=>?_,λp O=>?_,hok,I.len⟩
 ·exact keep b o (S b o e) V (W b o e Z) (I.base.keep b o e n V Z) (I.base.free b o e n Z)
 ·obtain⟨sl,U⟩:=I.base.slot b o e n V Z
  obtain⟨R,Q⟩:=slot b _ (S b o e) V (W b o e Z) U (I.base.free b o e n Z)
  exact⟨R,Q⟩
 ·obtain⟨o',U⟩:=I.base.there b o e Z
  exact free b o' (W b o e Z) U (I.base.free b o e n Z)
 ·obtain⟨o',U⟩:=I.base.there b o e Z
  exact there b o' (W b o e Z) U
 ·obtain⟨m,hn,M⟩:=I.loc
  refine⟨m,ns m hn,λi x v U Q L=>?_⟩
  obtain⟨u,r,l⟩:=M i x v U Q L
  refine⟨u,r,?_⟩
  rcases l with l|⟨k,c,e,z⟩
  ·exact .inl l
  ·exact .inr ⟨k,c,e,cellK x c e _ z⟩
 ·obtain⟨v,z⟩:=I.cell x c e
  exact⟨v,cellK x c e v z⟩
 ·obtain⟨m,⟨o,_,_,T,_⟩,_⟩:=I.loc
  exact free _ o (λz=>(B _ z).2.1 rfl) T I.free
 ·obtain⟨v,o,T,hd⟩:=I.cell x c e
  exact free c o (λz=>(B c z).2.2.1 x c e rfl) T (I.freeC x c e)
 ·obtain⟨e,n,ne,P,d⟩:=I.pin p O
  have Y:p.1∉ch:=λz=>(B p.1 z).2.2.2 p O rfl
  exact⟨keep p.1 p.2 ne P Y e n,free p.1 p.2 Y e n,ne,P,d⟩
theorem Inv.un(I:Inv X pins σ H s)(u:Un X.fs [] H H' s.heap h')(hok:HOk X.prog X.w H' h'):Inv X pins σ H' {s with heap:=h',toks:=t'}:=by
 obtain⟨m,⟨o,es,ep,U,r⟩,_⟩:=id I.loc
 obtain⟨sl,T⟩:=u.any U I.free (by simp)
 exact I.step (g':=s.gens) (d':=s.drawn) (ch:=[]) (λ_ z=>nomatch z) (λb o _ Y _ e n=>u.keep b o e n Y (by simp)) (λb o _ Y _ e n=>u.slot b o e n Y (by simp)) (λb o _ e n=>u.free b o e n (by simp)) (λb o _ e=>u.there b o e (by simp)) u.tups u.frzs u.tbls (λS hm=>by
  obtain⟨o',W,V,Z,r'⟩:=hm
  rw[U]at Z;cases Z
  exact⟨_,W,V,T,r'⟩) hok I.bare
theorem Inv.call{g':Array GenState}{d':Drawn}(I:Inv X pins σ H s)(u:Un (frs X.stack) ch H H' s.heap h')(hok:HOk X.prog X.w H' h')(D:AllBare g')
 (B:∀b∈ch,(b∈X.ex\/X.s₀.heap.objs.size<=b)/\b≠X.env.locals/\(∀x c,X.env.cells.lookup x=some c->c≠b)/\∀p∈X.pn++pins,p.1≠b) :
 Inv X pins σ H' {s with heap:=h',gens:=g',drawn:=d',toks:=t'}:=by
 obtain⟨m,⟨o,es,ep,T,r⟩,_⟩:=id I.loc
 obtain⟨sl,W⟩:=u.any T I.free λz=>(B _ z).2.1 rfl
 exact I.step (ch:=ch) B (λb o W S Z e n=>u.keep b o e n (λz=>(aU.mp (I.stkSub b z)).elim W S) Z) (λb o _ _ Z e n=>u.any e n Z) (λb o Z e n=>u.free b o e n Z) (λb o Z e=>u.there b o e Z) u.tups u.frzs u.tbls (λR hm=>by
  obtain⟨o',V,U,Y,r'⟩:=hm
  rw[T]at Y;cases Y
  exact⟨_,V,U,W,r'⟩) hok D
theorem Inv.turned(I:Inv X pins σ H s)(k:∀b o,b≠it->s.heap.get? b=some o->h'.get? b=some o)(hn:H it=none)(B:it≠X.env.locals)
 (h1:it∈X.ex\/X.s₀.heap.objs.size<=it) (h2:∀x c,X.env.cells.lookup x=some c->c≠it) (D:∀p∈X.pn++pins,p.1≠it):Inv X pins σ H {s with heap:=h',toks:=t'}:=by
 have Y:∀b u,H b=some u->b≠it:=λb u e z=>by rw[z,hn]at e;cases e
 refine I.step (g':=s.gens) (d':=s.drawn) (ch:=[it]) (λb V=>?_) (λb o _ _ Z e _=>k b o (λz=>Z (by simp[z])) e) (λb o _ _ Z e _=>⟨o.slots,k b o (λz=>Z (by simp[z])) e⟩) (λ_ _ _ _ n=>n)
  (λb o Z e=>⟨o,k b o (λz=>Z (by simp[z])) e⟩) (λ_ _ e=>e) (λ_ _ _ e=>e) (λ_ _ _ e=>e) (λm hm=>?_) (λb u e=>?_) I.bare
 ·have e:b=it:=by simpa using V
  subst e
  exact⟨h1,B,h2,D⟩
 ·obtain⟨o,es,ep,W,r⟩:=hm
  exact⟨o,es,ep,k _ o (Ne.symm B) W,r⟩
 ·refine(I.hok b u e).stay (λc v Z q=>k c v ?_ q) (λ_ q=>q) λ_ _ q=>q
  rcases Z with z|z
  ·rw[z];exact Y b u e
  ·exact Y c _ z
theorem Inv.tok(I:Inv X pins σ H s)(t:Nat):Inv X pins σ H {s with toks:=t}:=I.un (h':=s.heap) (t':=t) Un.refl I.hok
theorem Inv.kept(I:Inv X pins σ H s)(k:∀b u,s.heap.get? b=some u->h'.get? b=some u):Inv X pins σ H {s with heap:=h',toks:=t'}:=I.un (Un.kept k) (I.hok.kept k)
theorem Inv.laid(I:Inv X pins σ H s)(k:∀b u,s.heap.get? b=some u->h'.get? b=some u)(D:s.heap.objs.size<=a)(B:gR X.prog X.w (upd H a o) h' a o):
 Inv X pins σ (upd H a o) {s with heap:=h',toks:=t'}:=I.un (Un.laid k D (I.hok.fresh D)) (I.hok.laid k D B)
theorem Inv.write{x e:Addr}(I:Inv X pins σ H s)(J:Mut (H x))(O:e=x\/H e=some (.own x))(k:∀b u,b≠e->s.heap.get? b=some u->h'.get? b=some u)(B:∃u,h'.get? e=some u)
 (D:gR X.prog X.w (upd H x o) h' x o):Inv X pins σ (upd H x o) {s with heap:=h',toks:=t'}:=I.un (Un.write J O k B) (I.hok.write J O k B D)
theorem Inv.pins_of{pins':List (Addr×Obj)}(I:Inv X pins σ H s)(h:∀p∈pins',s.heap.get? p.1=some p.2/\H p.1=none/\p.1≠X.env.locals/\p.1∉X.fs/\∀v,p.2.data ≠ .cell v):Inv X pins' σ H s:=
 ⟨I.ok,I.os,I.bare,I.base,I.loc,I.cell,I.free,I.freeC,λp Z=>(cD.mp Z).elim (λz=>I.pin p (bY _ z)) (h p),I.hok,I.len⟩
theorem Ek(B:N.Nodup){i j:Nat}{x:Str}(a:N[i]? = some x)(b:N[j]? = some x):i=j:=by
 obtain⟨h1,Y⟩:=fX.mp a
 obtain⟨h2,Z⟩:=fX.mp b
 exact(List.getElem_inj B).mp (Y.trans Z.symm)
theorem Ah{u:Value}{Q:Unit->Shared->Prop}(I:Inv X pins σ H s)(hN:X.N.Nodup)(hi:X.N[i]? = some x)(B:Loc X.env.scope x)(r:RelV v u)
 (h:∀s',Inv X pins (σ.set i (some v)) H s'->(∃a,Heap.SameBut a s.heap s'.heap/\(a=X.env.locals\/X.env.cells.lookup x=some a))->Q () s') (hf:X.fn x=true\/X.env.scope.names.lookup x=some .local:=by first|exact .inl rfl|exact .inr rfl|assumption):wpAny M A (storeName X.env x u) Q E s:=by
 obtain⟨m,hn,hl⟩:=id I.loc
 have K:(X.env.scope.kind == .class||(X.env.scope.kind == .module&&X.env.locals != X.env.globals))=false:=by rw[I.ok.kind];rfl
 have T:i<σ.length:=by rw[I.len];exact(fX.mp hi).1
 have cne:=I.cne
 have tracked:∀{a:Addr}{h':Heap},(∃o,s.heap.get? a=some o/\H a=none)->Heap.SameBut a s.heap h'->HOk X.prog X.w H h':=λ{a h'} ha hs b ob e=>by
  obtain⟨_,_,W⟩:=ha
  refine(I.hok b ob e).stay (λc F Y q=>(hs.2 c ?_).trans q) (λ_ q=>q) λ_ _ q=>q
  rintro rfl
  rcases Y with rfl|Y
  ·rw[W]at e;cases e
  ·rw[W]at Y;cases Y
 rcases B with U|U
 ·refine wpAny_storeName_local U hn (λh' f hs=>?_) K
  obtain⟨oL,_,_,g,_⟩:=id hn
  refine h _ ⟨I.ok,I.os,I.bare,⟨λb o e n P B=>?_,λb o e n P B=>?_,I.base.free,λb o e B=>?_,I.base.tups,I.base.frzs,I.base.tbls⟩,⟨_,f,λj y D Z V e3=>?_⟩,λy c e=>?_,I.free,I.freeC,λp l=>?_,tracked ⟨oL,g,I.free⟩ hs,by simpa using I.len⟩ ⟨_,hs,.inl rfl⟩
  ·exact(hs.2 b (bh (bR (Heap.lt_size e) I.ok.above))).trans (I.base.keep b o e n P B)
  ·obtain⟨sl,Z⟩:=I.base.slot b o e n P B
   exact⟨sl,(hs.2 b (bh (bR (Heap.lt_size e) I.ok.above))).trans Z⟩
  ·obtain⟨o',Z⟩:=I.base.there b o e B
   exact⟨o',(hs.2 b (bh (bR (Heap.lt_size e) I.ok.above))).trans Z⟩
  ·by_cases S:j=i
   ·subst S
    rw[hi]at Z;cases Z
    rw[dD T]at V
    cases V
    exact⟨u,r,.inl ⟨U,by simp⟩⟩
   ·rw[bK (Ne.symm S)]at V
    obtain⟨C,r',q⟩:=hl j y D Z V e3
    refine⟨C,r',?_⟩
    rcases q with⟨k,e⟩|⟨k,c,e,z⟩
    ·refine .inl ⟨k,?_⟩
     have:y≠x:=λe=>S (Ek hN Z (e▸hi))
     simp[this,e]
    ·exact .inr ⟨k,c,e,z.sameBut hs (cne y c e)⟩
  ·obtain⟨F,z⟩:=I.cell y c e
   exact⟨F,z.sameBut hs (cne y c e)⟩
  ·obtain⟨e,n,ne,t,d⟩:=I.pin p l
   exact⟨(hs.2 p.1 ne).trans e,n,ne,t,d⟩
 ·have R:X.fn x=true:=by
   rcases hf with z|z
   ·exact z
   ·rw[z]at U;cases U
  obtain⟨c,Y⟩:=I.ok.has x (.inl U)
  obtain⟨F,z⟩:=I.cell x c Y
  refine wpAny_storeName_cell I.ok.kind U Y z (λh' G hs=>?_)
  obtain⟨oc,L,O⟩:=id z
  refine h {s with heap:=h'} ⟨I.ok,I.os,I.bare,⟨λb o e n P B=>?_,λb o e n P B=>?_,I.base.free,λb o e B=>?_,I.base.tups,I.base.frzs,I.base.tbls⟩,⟨m,hn.sameBut hs (Ne.symm (cne x c Y)),λj y D Z V e3=>?_⟩,λy c' e=>?_,I.free,I.freeC,λp l=>?_,tracked ⟨oc,L,I.freeC x c Y⟩ hs,by simpa using I.len⟩ ⟨c,hs,.inr Y⟩
  ·exact(hs.2 b (bh (bR (Heap.lt_size e) (I.ok.cab x c R Y)))).trans (I.base.keep b o e n P B)
  ·obtain⟨sl,Z⟩:=I.base.slot b o e n P B
   exact⟨sl,(hs.2 b (bh (bR (Heap.lt_size e) (I.ok.cab x c R Y)))).trans Z⟩
  ·obtain⟨o',Z⟩:=I.base.there b o e B
   exact⟨o',(hs.2 b (bh (bR (Heap.lt_size e) (I.ok.cab x c R Y)))).trans Z⟩
  ·by_cases S:j=i
   ·subst S
    rw[hi]at Z;cases Z
    rw[dD T]at V
    cases V
    exact⟨u,r,.inr ⟨.inl U,c,Y,G⟩⟩
   ·rw[bK (Ne.symm S)]at V
    obtain⟨C,r',q⟩:=hl j y D Z V e3
    refine⟨C,r',?_⟩
    rcases q with q|⟨k,c',e,z'⟩
    ·exact .inl q
    ·refine .inr ⟨k,c',e,z'.sameBut hs ?_⟩
     rintro rfl
     exact S (Ek hN Z (I.ok.inj _ _ _ e Y▸hi))
  ·by_cases J:c'=c
   ·subst J;exact⟨_,G⟩
   ·obtain⟨w2,z2⟩:=I.cell y c' e
    exact⟨w2,z2.sameBut hs J⟩
  ·obtain⟨e,n,ne,t,d⟩:=I.pin p l
   refine⟨(hs.2 p.1 ?_).trans e,n,ne,t,d⟩
   intro q
   rw[q,L]at e
   have q':oc=p.2:=cY.inj e
   exact d F (by rw[<-q'];exact O)
theorem El{u:Value}{Q:Unit->Shared->Prop}(I:Inv X pins σ H s)(J:X.N.Nodup)(hi:X.N[i]? = some x)(B:Loc X.env.scope x)(r:RelV v u)
 (h:∀s',Inv X pins (σ.set i (some v)) H s'->Q () s') (D:X.fn x=true\/X.env.scope.names.lookup x=some .local:=by first|exact .inl rfl|exact .inr rfl|assumption):wpAny M A (storeName X.env x u) Q E s:=
 Ah I J hi B r (λs' Z _=>h s' Z) D
end
noncomputable abbrev XK:=Value->Option Addr->Hp->Prop
noncomputable abbrev St:=List (Option V)
noncomputable abbrev VK:=V->Hp->Prop
noncomputable abbrev TE:=St->Hp->VK->Prop
noncomputable abbrev TT:=St->Hp->(Bool->Hp->Prop)->Prop
noncomputable abbrev TA:=St->Hp->(List V->Hp->Prop)->Prop
structure Ends where
 nx:St->Hp->Prop
 rt:VK
 bk:St->Hp->Prop:=λ_ _=>False
 ct:St->Hp->Prop:=λ_ _=>False
noncomputable abbrev TS:=Ends->St->Hp->Prop
noncomputable def EP(X:Cx)(pins:List (Addr×Obj))(σ:St)(Q:VK)(u:Value)(s':Shared):Prop:=∃v H',Inv X pins σ H' s'/\RelV v u/\Q v H'
noncomputable def TP(X:Cx)(pins:List (Addr×Obj))(σ:St)(Q:Bool->Hp->Prop)(b:Bool)(s':Shared):Prop:=∃H',Inv X pins σ H' s'/\Q b H'
noncomputable def AP(X:Cx)(pins:List (Addr×Obj))(σ:St)(Q:List V->Hp->Prop)(us:List Value)(s':Shared):Prop:=∃vs H',Inv X pins σ H' s'/\Vals vs us/\Q vs H'
noncomputable def SP(X:Cx)(pins:List (Addr×Obj))(D:Ends)(f:Flow)(s':Shared):Prop:=
 match f with
 | .next=>∃σ' H',Inv X pins σ' H' s'/\D.nx σ' H'
 | .brk=>∃σ' H',Inv X pins σ' H' s'/\D.bk σ' H'
 | .cont=>∃σ' H',Inv X pins σ' H' s'/\D.ct σ' H'
 | .ret u=>∃v σ' H',Inv X pins σ' H' s'/\RelV v u/\D.rt v H'
noncomputable def PE(X:Cx)(e:Expr)(t:TE):Prop:=
 ∀(pins:List (Addr×Obj))(s:Shared)(σ:St)(H:Hp)(Q:VK),Inv X pins σ H s->t σ H Q->wpAny (model X.prog X.w) X.A (eval e X.env) (EP X pins σ Q) X.xe s
noncomputable def PT(X:Cx)(e:Expr)(t:TT):Prop:=
 ∀(pins:List (Addr×Obj))(s:Shared)(σ:St)(H:Hp)(Q:Bool->Hp->Prop),Inv X pins σ H s->t σ H Q->wpAny (model X.prog X.w) X.A (isTrue e X.env (eval e X.env)) (TP X pins σ Q) X.xe s
noncomputable def PW(X:Cx)(e:Expr)(t:TT):Prop:=
 ∀(whole:Sem Value)(pins:List (Addr×Obj))(s:Shared)(σ:St)(H:Hp)(Q:Bool->Hp->Prop),Inv X pins σ H s->t σ H Q->wpAny (model X.prog X.w) X.A (isTrue e X.env whole) (TP X pins σ Q) X.xe s
theorem PW.pt{X:Cx}{t:TT}(h:PW X e t):PT X e t:=h _
noncomputable def PA(X:Cx)(es:List Expr)(t:TA):Prop:=
 ∀(pos:Pos)(pins:List (Addr×Obj))(s:Shared)(σ:St)(H:Hp)(Q:List V->Hp->Prop),Inv X pins σ H s->t σ H Q->wpAny (model X.prog X.w) X.A (spliced (backTo pos (starEach es X.env))) (AP X pins σ Q) X.xe s
noncomputable def PS(X:Cx)(st:Stmt)(t:TS):Prop:=
 ∀(pins:List (Addr×Obj))(s:Shared)(σ:St)(H:Hp)(D:Ends),Inv X pins σ H s->t D σ H->wpAny (model X.prog X.w) X.A (exec st X.env) (SP X pins D) X.xe s
noncomputable def PSs(X:Cx)(st:List Stmt)(t:TS):Prop:=
 ∀(pins:List (Addr×Obj))(s:Shared)(σ:St)(H:Hp)(D:Ends),Inv X pins σ H s->t D σ H->wpAny (model X.prog X.w) X.A (execs st X.env) (SP X pins D) X.xe s
theorem thn{α:Type}{t:Sem α}{Q B:α->Shared->Prop}(h:wpAny M A t Q E s)(D:∀a s,Q a s->B a s):wpAny M A t B E s:=wpAny_mono h D λ_ _ x=>x
end L2
variable{pos:Pos}{pins:List (Addr×Obj)}{H:L2.Hp}{Q:Value->Shared->Prop}{op:CmpOp}
namespace L2
open PySem PySem.Spec PyProof.Rows
section
variable{X:Cx}
noncomputable def ac5(i:Nat):TE:=λσ H Q=>∃v,σ[i]? = some (some v)/\Q v H
noncomputable def tC(v:V):TE:=λ_ H Q=>Q v H
theorem qe(J:X.N[i]? = some x)(D:Vis X.env.scope x)(hd:(x==("__debug__":Str))=false:=by decide)(B:(x==("__classdict__":Str))=false:=by decide):PE X (.Name x pos) (ac5 i):=by
 intro pins s σ H Q I h
 obtain⟨v,e,h⟩:=h
 obtain⟨m,hn,V⟩:=I.loc
 obtain⟨u,r,l⟩:=V i x v J e D
 have fin:EP X pins σ Q u s:=⟨v,H,I,r,h⟩
 rcases l with⟨Y,hm⟩|⟨Y,c,W,Z⟩
 ·exact wpAny_Name (wpAny_loadName_local I.ok.kind Y hn hm fin) hd
 ·rcases Y with Y|Y
  ·exact wpAny_Name (wpAny_loadName_cell I.ok.kind Y W Z fin) hd
  ·exact wpAny_Name (wpAny_loadName_free I.ok.kind Y W Z fin B) hd
theorem Vu{i j pos}:PE X (.Constant (.int i) j pos) (tC (.int i)):=λ_ _ _ H _ I h=>wpAny_Constant_int ⟨.int i,H,I.tok _,⟨_,rfl⟩,h⟩
theorem U0{b j pos}:PE X (.Constant (.bool b) j pos) (tC (.bl b)):=λ_ _ _ H _ I h=>Constant_bool ⟨.bl b,H,I,rfl,h⟩
theorem Vv{j pos}:PE X (.Constant .none j pos) (tC .non):=λ_ _ _ H _ I h=>Constant_none ⟨.non,H,I,rfl,h⟩
theorem Vw{x j pos}:PE X (.Constant (.str x) j pos) (tC (.str x)):=λ_ _ _ H _ I h=>Calls.Constant_str ⟨.str x,H,I.tok _,⟨_,rfl⟩,h⟩
noncomputable def Gl(X:Cx)(x:Str):Prop:=X.env.kindOf x=some .globalImplicit
theorem Iu{σ:St}{u:Value}(I:Inv X pins σ H s)(B:Gl X x)(hm:X.mg x=some u)(h:Q u s)
 (hd:(x==("__debug__":Str))=false:=by decide):wpAny (model X.prog X.w) X.A (eval (.Name x pos) X.env) Q E s:=
 Calls.Name_function_global I.ok.kind B (Calls.loadGlobal_global (by rw[I.ok.glob];exact I.mod.glob.keeps I.bk) hm h) hd
theorem nD{σ:St}{u:Value}(I:Inv X pins σ H s)(D:Gl X x)(hm:X.mg x=none)(B:bootBuiltins x=some u)(h:Q u s)
 (hn:x≠"__name__" := by decide) (hd:(x==("__debug__":Str))=false:=by decide):wpAny (model X.prog X.w) X.A (eval (.Name x pos) X.env) Q E s:=by
 obtain⟨Z,h1,h2⟩:=I.mod.blt
 exact Calls.Name_function_global I.ok.kind D (Calls.loadGlobal_builtin (by rw[I.ok.glob];exact I.mod.glob.keeps I.bk) hm (by rw[I.ok.blt];exact h1.keeps I.bk) ((h2 x hn).trans B) h) hd
theorem Ra{u:Value}(B:Gl X x)(hm:X.mg x=some u)(r:RelV v u)(hd:(x==("__debug__":Str))=false:=by decide):PE X (.Name x pos) (tC v):=
 λ_ _ _ H _ I h=>Iu I B hm ⟨v,H,I,r,h⟩ hd
theorem Rc{u:Value}(D:Gl X x)(hm:X.mg x=none)(B:bootBuiltins x=some u)(r:RelV v u)(hn:x≠"__name__" := by decide)(hd:(x==("__debug__":Str))=false:=by decide):PE X (.Name x pos) (tC v):=
 λ_ _ _ H _ I h=>nD I D hm B ⟨v,H,I,r,h⟩ hn hd
variable{a b:Expr}{ta tb:TE}{pos:Pos}
noncomputable def PC(X:Cx)(op:CmpOp)(a b:Expr)(t:TE):Prop:=
 ∀(pins:List (Addr×Obj))(s:Shared)(σ:St)(H:Hp)(Q:VK),Inv X pins σ H s->t σ H Q ->
  wpAny (model X.prog X.w) X.A (eval a X.env) (λv Y=>wpAny (model X.prog X.w) X.A (eval b X.env) (λu Z=>wpAny (model X.prog X.w) X.A (compareOp op v u) (EP X pins σ Q) X.xe Z) X.xe Y) X.xe s
theorem LK(b:Expr){op:CmpOp}(h:op ≠ .In)(h2:op ≠ .NotIn):behindInMarks op b=false:=by
 have Y:(op==CmpOp.In)=false:=by cases op<;>first|rfl|exact absurd rfl h
 have Z:(op==CmpOp.NotIn)=false:=by cases op<;>first|rfl|exact absurd rfl h2
 cases b<;>simp[behindInMarks,Y,Z]
noncomputable def ac6(ta:TE):TE:=λσ H Q=>ta σ H λx H1=>Q (.bl (decide (x = .non))) H1
theorem RelV.none_iff{x:V}{v:Value}(r:RelV x v):(v==Value.none)=decide (x = .non):=by
 cases x with
 |non=>cases r;rfl
 |bl _=>cases r;rfl
 |int _=>obtain⟨t,rfl⟩:=r;rfl
 |str _=>obtain⟨t,rfl⟩:=r;rfl
 |byt _=>obtain⟨t,rfl⟩:=r;rfl
 |flt _=>obtain⟨t,rfl⟩:=r;rfl
 |ref _=>cases r;rfl
 |ty _=>cases r;rfl
theorem Vx{j pos'}(ha:PE X a ta):PC X .Is a (.Constant .none j pos') (ac6 ta):=by
 intro pins s σ H Q I h
 refine thn (ha pins s σ H _ I h) λv s1 ⟨x,H1,Y,Z,q1⟩=>?_
 exact Constant_none (is_none_gen ⟨.bl _,H1,Y,by rw[Z.none_iff];rfl,q1⟩)
noncomputable def tB(t:TE):TT:=λσ H Q=>t σ H λx H1=>∃c,x = .bl c/\Q c H1
theorem Vy{t:TE}(h:PC X op a b t)(h1:behindInMarks op b=false:=by first|exact LK _ (by decide) (by decide)|rfl):PT X (.Compare a [op] [b] pos) (tB t):=by
 intro pins s σ H Q I hw
 refine wpAny_isTrue_Compare1 (thn (h pins s σ H _ I hw) λv s1 h1=>thn h1 λu s2 h2=>thn h2 λc s3 ⟨x,H1,Y,Z,q1⟩=>?_) h1
 obtain⟨d,rfl,q⟩:=q1
 cases Z
 exact wpAny_truthy_bool ⟨H1,Y,q⟩
theorem Vz{t:TE}(h:PE X e t)(B:∀whole,isTrue e X.env whole=(do let v <-whole;standAt e.pos;holding [v] (truthy v)):=by intro _;rfl):PT X e (tB t):=by
 intro pins s σ H Q I hw
 refine isTrue_plain (thn (h pins s σ H _ I hw) λv s1 ⟨x,H1,Y,Z,q1⟩=>?_) (B _)
 obtain⟨d,rfl,q⟩:=q1
 cases Z
 exact wpAny_truthy_bool ⟨H1,Y,q⟩
variable{tA tB':TT}{rest:List Expr}
noncomputable def BK(t u:TT):TT:=λσ H Q=>t σ H λc H1=>if c=true then u σ H1 Q else Q false H1
noncomputable def tOr(t u:TT):TT:=λσ H Q=>t σ H λc H1=>if c=true then Q true H1 else u σ H1 Q
noncomputable def jc(t:TT):TT:=λσ H Q=>t σ H λc H1=>Q (!c) H1
theorem Rf(ha:PT X a tA):PW X (.BoolOp .And [a] pos) tA:=by
 intro wh pins s σ H Q I h
 refine isTrue_and (thn (ha pins s σ H Q I h) λc s1 e=>?_)
 cases c with
 |true=>exact isTrue_and_nil e
 |false=>exact e
theorem VB(ha:PT X a tA):PW X (.BoolOp .Or [a] pos) tA:=by
 intro wh pins s σ H Q I h
 refine isTrue_or (thn (ha pins s σ H Q I h) λc s1 e=>?_)
 cases c with
 |false=>exact isTrue_or_nil e
 |true=>exact e
theorem VD(ha:PT X a tA)(B:PW X (.BoolOp .And (b::rest) pos) tB'):PW X (.BoolOp .And (a::b::rest) pos) (BK tA tB'):=by
 intro wh pins s σ H Q I h
 refine isTrue_and (thn (ha pins s σ H _ I h) λc s1 ⟨H1,Z,q1⟩=>?_)
 cases c with
 |true=>exact B wh pins s1 σ H1 Q Z q1
 |false=>exact⟨H1,Z,q1⟩
theorem Yt(ha:PT X a tA)(B:PW X (.BoolOp .Or (b::rest) pos) tB'):PW X (.BoolOp .Or (a::b::rest) pos) (tOr tA tB'):=by
 intro wh pins s σ H Q I h
 refine isTrue_or (thn (ha pins s σ H _ I h) λc s1 ⟨H1,Z,q1⟩=>?_)
 cases c with
 |true=>exact⟨H1,Z,q1⟩
 |false=>exact B wh pins s1 σ H1 Q Z q1
theorem VF(ha:PT X a tA):PT X (.UnaryOp .Not a pos) (jc tA):=by
 intro pins s σ H Q I h
 exact isTrue_not (ha pins s σ H (λc H1=>Q (!c) H1) I h)
noncomputable def Yu(ta tb:TE):TE:=λσ H Q=>ta σ H λx H1=>∃c,x = .bl c/\if c=true then tb σ H1 Q else Q (.bl false) H1
noncomputable def ac7(ta tb:TE):TE:=λσ H Q=>ta σ H λx H1=>∃c,x = .bl c/\if c=true then Q (.bl true) H1 else tb σ H1 Q
noncomputable def Yv(ta:TE):TE:=λσ H Q=>ta σ H λx H1=>∃c,x = .bl c/\Q (.bl (!c)) H1
theorem VG{op}{t:TE}(h:PE X a t):PE X (.BoolOp op [a] pos) t:=λpins s σ H Q I hw=>BoolOp_one (h pins s σ H Q I hw)
theorem VH(ha:PE X a ta)(B:PE X (.BoolOp .And (b::rest) pos) tb):PE X (.BoolOp .And (a::b::rest) pos) (Yu ta tb):=by
 intro pins s σ H Q I h
 refine BoolOp_and (thn (ha pins s σ H _ I h) λv s1 ⟨x,H1,Z,Y,q1⟩=>?_)
 obtain⟨c,rfl,q1⟩:=q1
 cases Y
 refine wpAny_truthy_bool ?_
 cases c with
 |true=>exact B pins s1 σ H1 Q Z q1
 |false=>exact⟨.bl false,H1,Z,rfl,q1⟩
theorem Yw(ha:PE X a ta)(B:PE X (.BoolOp .Or (b::rest) pos) tb):PE X (.BoolOp .Or (a::b::rest) pos) (ac7 ta tb):=by
 intro pins s σ H Q I h
 refine BoolOp_or (thn (ha pins s σ H _ I h) λv s1 ⟨x,H1,Z,Y,q1⟩=>?_)
 obtain⟨c,rfl,q1⟩:=q1
 cases Y
 refine wpAny_truthy_bool ?_
 cases c with
 |false=>exact B pins s1 σ H1 Q Z q1
 |true=>exact⟨.bl true,H1,Z,rfl,q1⟩
theorem VJ(ha:PE X a ta):PE X (.UnaryOp .Not a pos) (Yv ta):=by
 intro pins s σ H Q I h
 refine UnaryOp_ (thn (ha pins s σ H _ I h) λv s1 ⟨x,H1,Y,Z,q1⟩=>?_)
 obtain⟨c,rfl,q1⟩:=q1
 cases Z
 exact not_of (wpAny_truthy_bool ⟨.bl (!c),H1,Y,rfl,q1⟩)
noncomputable def tIf(t:TT)(ta tb:TE):TE:=λσ H Q=>t σ H λc H1=>if c=true then ta σ H1 Q else tb σ H1 Q
theorem LQ{c:Expr}(B:PT X c tA)(ha:PE X a ta)(D:PE X b tb):PE X (.IfExp c a b pos) (tIf tA ta tb):=by
 intro pins s σ H Q I h
 refine wpAny_IfExp (thn (B pins s σ H _ I h) λd s1 ⟨H1,Z,q1⟩=>?_)
 cases d with
 |true=>exact ha pins s1 σ H1 Q Z q1
 |false=>exact D pins s1 σ H1 Q Z q1
end
end L2
variable{y:L2.V}{K:PySem.W.Frag}{X:L2.Cx}{es:List Expr}{n:Nat}{tg:Expr}{pos':Pos}{H':L2.Hp}
namespace L2
open PySem PySem.Spec PyProof.Rows
noncomputable def SqL(K:PySem.W.Frag)(H:Hp)(a:Addr)(xs:List V):Prop:=
 Rd H a (.lst xs) \/
  ∃(o:Obj)(its:Array Value)(n:Nat),K.lookup a=some o/\o.cls = .type "list"/\o.dict=none/\o.data = .seq its n/\its.size<=sizeLine/\Vals xs its.toList
noncomputable def SqT(K:PySem.W.Frag)(H:Hp)(a:Addr)(xs:List V):Prop:=
 Rd H a (.tup xs) \/
  ∃(o:Obj)(its:Array Value)(n:Nat),K.lookup a=some o/\o.cls = .type "tuple"/\o.data = .seq its n/\its.size<=sizeLine/\Vals xs its.toList
noncomputable def ac8:Value->Option V
 | .none=>some .non
 | .bool b=>some (.bl b)
 | .int i _=>some (.int i)
 | .str x _=>some (.str x)
 | .bytes b _=>some (.byt b)
 | .float b _=>some (.flt b)
 | .ref a=>some (.ref a)
 | .type n=>some (.ty n)
 |_=>none
theorem RelV.abs{x:V}{u:Value}(r:RelV x u):ac8 u=some x:=by
 cases x with
 |non=>cases r;rfl
 |bl _=>cases r;rfl
 |int _=>obtain⟨t,rfl⟩:=r;rfl
 |str _=>obtain⟨t,rfl⟩:=r;rfl
 |byt _=>obtain⟨t,rfl⟩:=r;rfl
 |flt _=>obtain⟨t,rfl⟩:=r;rfl
 |ref _=>cases r;rfl
 |ty _=>cases r;rfl
theorem RelV.inj{x:V}{u:Value}(r:RelV x u)(q:RelV y u):x=y:=cY.inj (r.abs.symm.trans q.abs)
theorem Vals.inj:∀{xs ys:List V}{us:List Value},Vals xs us->Vals ys us->xs=ys
 |_,_,_,.nil,.nil=>rfl
 |_,_,_,.cons r t,.cons r' t'=>by rw[r.inj r',Vals.inj t t']
section
variable{X:Cx}{pins:List (Addr×Obj)}{σ:St}{H:Hp}{s:Shared}{a:Addr}{xs ys:List V}
theorem SqL.of(h:H a=some (.lst xs)):SqL K H a xs:=.inl (.inl h)
theorem Inv.list(I:Inv X pins σ H s)(h:SqL X.K H a xs):∃its:List Value,Vals xs its/\PlainL s.heap a its.toArray/\xs.length<=sizeLine:=by
 rcases h with h|⟨o,its,n,Z,Y,hd,hs,W,r⟩
 ·obtain⟨z,its,n,r,e⟩:=h.ok I.hok
  exact⟨its,r,⟨_,n,e,rfl,rfl,rfl⟩,z⟩
 ·refine⟨its.toList,r,⟨o,n,I.kIn a o Z,Y,hd,by simpa using hs⟩,?_⟩
  have e:=r.length
  simp only[bD]at e
  omega
theorem Inv.tuple(I:Inv X pins σ H s)(h:SqT X.K H a xs):∃its:List Value,Vals xs its/\IsTup s.heap a its.toArray/\xs.length<=sizeLine:=by
 rcases h with h|⟨o,its,n,Z,Y,hs,W,r⟩
 ·obtain⟨z,its,r,p⟩:=h.ok I.hok
  exact⟨its,r,p,z⟩
 ·refine⟨its.toList,r,⟨o,I.kIn a o Z,Y,n,by simpa using hs⟩,?_⟩
  have e:=r.length
  simp only[bD]at e
  omega
theorem Inv.list_inj(I:Inv X pins σ H s)(h:SqL X.K H a xs)(h':SqL X.K H a ys):xs=ys:=by
 obtain⟨its,r,⟨o,n,e,_,_,d⟩,_⟩:=I.list h
 obtain⟨Z,r',⟨o',U,Y,_,_,W⟩,_⟩:=I.list h'
 rw[e]at Y;cases Y
 rw[d]at W
 injection W with V _
 have:its=Z:=by simpa using congrArg Array.toList V
 subst this
 exact r.inj r'
theorem Inv.tuple_inj(I:Inv X pins σ H s)(h:SqT X.K H a xs)(h':SqT X.K H a ys):xs=ys:=by
 obtain⟨its,r,⟨o,e,_,n,d⟩,_⟩:=I.tuple h
 obtain⟨Z,r',⟨o',Y,_,U,W⟩,_⟩:=I.tuple h'
 rw[e]at Y;cases Y
 rw[d]at W
 injection W with V _
 have:its=Z:=by simpa using congrArg Array.toList V
 subst this
 exact r.inj r'
end
noncomputable abbrev Cx.wish(X:Cx)(E:Value->Shared->Prop):Cx:={X with xe:=E}
noncomputable abbrev Cx.nox(X:Cx):Cx:=X.wish λ_ _=>False
theorem Cx.Ok.wish(ok:X.Ok)(E:Value->Shared->Prop):(X.wish E).Ok:=
 ⟨ok.mod,ok.kind,ok.glob,ok.blt,ok.above,ok.inj,ok.has,ok.cab,ok.hd,ok.frames,ok.stk,ok.exf,ok.bs,ok.bsz,ok.noex,ok.exfs,ok.funs,ok.frf⟩
theorem Cx.Ok.unwish(ok:(X.wish E).Ok):X.Ok:=
 ⟨ok.mod,ok.kind,ok.glob,ok.blt,ok.above,ok.inj,ok.has,ok.cab,ok.hd,ok.frames,ok.stk,ok.exf,ok.bs,ok.bsz,ok.noex,ok.exfs,ok.funs,ok.frf⟩
section
variable{X:Cx}{pins:List (Addr×Obj)}{σ:St}{H:Hp}{s:Shared}{E:Value->Shared->Prop}
theorem Inv.wish(I:Inv X pins σ H s)(E:Value->Shared->Prop):Inv (X.wish E) pins σ H s:=⟨I.ok.wish E,I.os,I.bare,I.base,I.loc,I.cell,I.free,I.freeC,I.pin,I.hok,I.len⟩
theorem Inv.unwish(I:Inv (X.wish E) pins σ H s):Inv X pins σ H s:=⟨I.ok.unwish,I.os,I.bare,I.base,I.loc,I.cell,I.free,I.freeC,I.pin,I.hok,I.len⟩
theorem SP.unwish{D:Ends}{f:Flow}{s':Shared}(h:SP (X.wish E) pins D f s'):SP X pins D f s':=by
 cases f with
 |next=>obtain⟨σ',H',I,q⟩:=h;exact⟨σ',H',I.unwish,q⟩
 |brk=>obtain⟨σ',H',I,q⟩:=h;exact⟨σ',H',I.unwish,q⟩
 |cont=>obtain⟨σ',H',I,q⟩:=h;exact⟨σ',H',I.unwish,q⟩
 |ret u=>obtain⟨v,σ',H',I,r,q⟩:=h;exact⟨v,σ',H',I.unwish,r,q⟩
theorem PSs.nox{st:List Stmt}{t:TS}(h:PSs X.nox st t):PSs X st t:=λpins s σ H D I hw=>
 wpAny_mono (h pins s σ H D (I.wish _) hw) (λ_ _ q=>q.unwish) λ_ _ z=>False.elim z
end
section
variable{X:Cx}{st:Stmt}{rest:List Stmt}{t u:TS}{e:Expr}{te:TE}{pos:Pos}
noncomputable def Yx:TS:=λD σ H=>D.nx σ H
noncomputable def ac9(t u:TS):TS:=λD σ H=>t {D with nx:=u D} σ H
theorem Rg:PSs X [] Yx:=λ_ _ σ H _ I h=>wpAny_execs_nil ⟨σ,H,I,h⟩
theorem LR(h1:PS X st t)(h2:PSs X rest u):PSs X (st::rest) (ac9 t u):=by
 intro pins s σ H D I h
 refine wpAny_execs_cons (thn (h1 pins s σ H {D with nx:=u D} I h) λf s1 q=>?_)
 cases f with
 |next=>
  obtain⟨σ',H',Z,q⟩:=q
  exact h2 pins s1 σ' H' D Z q
 |ret v=>exact q
 |brk=>exact q
 |cont=>exact q
theorem Rh(h1:PS X st t):PSs X [st] t:=by
 intro pins s σ H D I h
 refine wpAny_execs_cons (thn (h1 pins s σ H D I h) λf s1 q=>?_)
 cases f with
 |next=>exact wpAny_execs_nil q
 |ret v=>exact q
 |brk=>exact q
 |cont=>exact q
theorem Inv.quiet{σ:St}(I:Inv X pins σ H s):interactive X.env=false:=by simp[interactive,I.ok.kind]
noncomputable def Yy(te:TE):TS:=λD σ H=>te σ H λ_ H1=>D.nx σ H1
theorem BL(B:PE X e te)(hs:swapsWith e none pos.line X.env=pure false:=by rfl):PS X (.Expr e pos) (Yy te):=by
 intro pins s σ H D I h
 exact wpAny_Expr_any (thn (B pins s σ H _ I h) λv s1 ⟨x,H1,Z,Y,q1⟩=>⟨σ,H1,Z,q1⟩) I.quiet hs
noncomputable def ad0(te:TE):TS:=λD σ H=>te σ H D.rt
theorem L_(B:PE X e te):PS X (.Return (some e) pos) (ad0 te):=by
 intro pins s σ H D I h
 exact wpAny_Return_some (thn (B pins s σ H _ I h) λv s1 ⟨x,H1,Y,Z,q1⟩=>⟨x,σ,H1,Y,Z,q1⟩)
noncomputable def ad1(c:TT)(t u:TS):TS:=λD σ H=>c σ H λb H1=>if b=true then t D σ H1 else u D σ H1
theorem Yz{c:Expr}{a b:List Stmt}{tc:TT}(B:PT X c tc)(ha:PSs X a t)(J:PSs X b u):PS X (.If c a b pos) (ad1 tc t u):=by
 intro pins s σ H D I h
 refine wpAny_If (thn (B pins s σ H _ I h) λd s1 ⟨H1,Z,q1⟩=>?_)
 cases d with
 |true=>exact ha pins s1 σ H1 D Z q1
 |false=>exact J pins s1 σ H1 D Z q1
noncomputable def VL:TS:=λ_ _ _=>False
theorem Mf:PS X st VL:=λ_ _ _ _ _ _ h=>h.elim
end
noncomputable abbrev TG:=V->St->Hp->(St->Hp->Prop)->Prop
noncomputable abbrev TGs:=List V->St->Hp->(St->Hp->Prop)->Prop
noncomputable def PG(X:Cx)(target:Expr)(t:TG):Prop:=
 ∀(pins:List (Addr×Obj))(s:Shared)(σ:St)(H:Hp)(v:V)(u:Value)(Q:St->Hp->Prop),Inv X pins σ H s->RelV v u->t v σ H Q ->
  wpAny (model X.prog X.w) X.A (assign target X.env u) (λ_ s'=>∃σ' H',Inv X pins σ' H' s'/\Q σ' H') X.xe s
noncomputable def PGs(X:Cx)(ts:List Expr)(t:TGs):Prop:=
 ∀(pins:List (Addr×Obj))(s:Shared)(σ:St)(H:Hp)(vs:List V)(us:List Value)(Q:St->Hp->Prop),Inv X pins σ H s->Vals vs us->t vs σ H Q ->
  wpAny (model X.prog X.w) X.A (assignInOrder ((assignEach ts X.env).map (·.2)) us) (λ_ s'=>∃σ' H',Inv X pins σ' H' s'/\Q σ' H') X.xe s
noncomputable abbrev VN:=V->V->V->Hp->(Hp->Prop)->Prop
noncomputable def Ri(X:Cx)(t:VN):Prop:=
 ∀(pins:List (Addr×Obj))(s:Shared)(σ:St)(H:Hp)(o i v:V)(Z Y u:Value)(Q:Hp->Prop),Inv X pins σ H s->RelV o Z->RelV i Y->RelV v u->t o i v H Q ->
  wpAny (model X.prog X.w) X.A (setItem Z Y u) (λ_ s'=>∃H',Inv X pins σ H' s'/\Q H') X.xe s
section
variable{X:Cx}{pos:Pos}
noncomputable def Mg(i:Nat):TG:=λv σ H Q=>Q (σ.set i (some v)) H
theorem Rj(J:X.N.Nodup)(hi:X.N[i]? = some x)(B:Loc X.env.scope x)(D:X.fn x=true\/X.env.scope.names.lookup x=some .local:=by first|exact .inl rfl|exact .inr rfl|assumption):PG X (.Name x pos) (Mg i):=by
 intro pins s σ H v u Q I r h
 exact wpAny_assign_Name (El I J hi B r (λs' Z=>⟨_,H,Z,h⟩) D)
noncomputable def ad2:TGs:=λvs σ H Q=>vs=[]/\Q σ H
noncomputable def YB(t:TG)(u:TGs):TGs:=λvs σ H Q=>∃v r,vs=v::r/\t v σ H λσ' H'=>u r σ' H' Q
theorem Rm:PGs X [] ad2:=by
 intro pins s σ H vs us Q I r h
 obtain⟨e,h⟩:=h
 subst e
 cases r
 exact assignInOrder_nil ⟨σ,H,I,h⟩
theorem Mh{t:TG}{u:TGs}(h1:PG X e t)(h2:PGs X es u)
 (hs:(assignEach (e::es) X.env).map (·.2)=assign e X.env::(assignEach es X.env).map (·.2):=by rfl):PGs X (e::es) (YB t u):=by
 intro pins s σ H vs us Q I r h
 obtain⟨v,U,W,h⟩:=h
 subst W
 cases r with
 |cons r Y=>
  rw[hs]
  refine assignInOrder_cons (thn (h1 pins s σ H _ _ _ I r h) λ_ s1 ⟨Z,H1,V,q1⟩=>?_)
  exact h2 pins s1 Z H1 _ _ Q V Y q1
noncomputable def ad3(K:PySem.W.Frag)(n:Nat)(t:TGs):TG:=λv σ H Q=>∃a xs,v = .ref a/\SqT K H a xs/\xs.length=n/\t xs σ H Q
theorem VP{k:Nat}{t:TGs}(D:X.calm=true)(h:PGs X es t)
 (hn:(assignEach es X.env).length=n:=by rfl) (B:(assignEach es X.env).findIdx? (·.1)=none:=by rfl):PG X (.Tuple es k pos) (ad3 X.K n t):=by
 intro pins s σ H v u Q I r hw
 obtain⟨a,xs,T,V,U,hw⟩:=hw
 subst T
 cases r
 obtain⟨its,Z,W,R⟩:=I.tuple V
 refine assign_Tuple_tuple (I.ok.hd D) W (by simp[hn,<-U,Z.length]) B λh' Y=>?_
 have S:Inv X pins σ H {s with heap:=h'}:=I.kept (t':=s.toks) λb o e=>Y b o (bh (Heap.lt_size e)) e
 exact h pins _ σ H xs _ Q S (by simpa using Z) hw
noncomputable def rF(to ti:TE)(t:VN):TG:=λv σ H Q=>to σ H λo H1=>ti σ H1 λi H2=>t o i v H2 λZ=>Q σ Z
theorem Mi{o i:Expr}{to ti:TE}{t:VN}(J:PE X o to)(hi:PE X i ti)(hs:Ri X t)
 (ha:∀v,assign (.Subscript o i pos) X.env v=(do
  let B <-holding [v] (eval o X.env)
  let D <-holding [v,B] (eval i X.env)
  standAt pos
  holding [v,B,D] (setItem B D v)
  release [v,B,D] []):=by intro _;rfl):PG X (.Subscript o i pos) (rF to ti t):=by
 intro pins s σ H v u Q I r h
 rw[ha]
 refine wpAny_bind (wpAny_holding (thn (J pins s σ H _ I h) λB s1 ⟨x,H1,T,Y,q1⟩=>?_))
 refine wpAny_bind (wpAny_holding (thn (hi pins s1 σ H1 _ T q1) λD s2 ⟨y,H2,U,Z,q2⟩=>?_))
 refine wpAny_bind (wpAny_standAt (wpAny_bind (wpAny_holding (thn (hs pins s2 σ H2 x y v B D u _ U Y Z r q2) λ_ s3 ⟨S,V,W⟩=>?_))))
 exact wpAny_release ⟨σ,S,V,W⟩
noncomputable def VR(te:TE)(g:TG):TS:=λD σ H=>te σ H λx H1=>g x σ H1 D.nx
theorem G9{te:TE}{g:TG}(J:PE X e te)(B:PG X tg g)(hs:swapsWithSole [tg] e pos.line X.env=pure false:=by rfl)(hw:swappedStores [tg] e X.env=pure none:=by rfl)
 (h1:(assignEach [tg] X.env).map (·.2)=[assign tg X.env]:=by rfl):PS X (.Assign [tg] e pos) (VR te g):=by
 intro pins s σ H D I h
 refine wpAny_Assign_stores (thn (J pins s σ H _ I h) λv s1 ⟨x,H1,Y,Z,q1⟩=>?_) hs hw
 rw[h1]
 exact thn (B pins s1 σ H1 x v _ Y Z q1) λ_ s2 q=>q
theorem G_{te:TE}(W:X.N.Nodup)(hi:X.N[i]? = some x)(B:Loc X.env.scope x)(O:PE X e te)(hs:swapsWith e (some (.Name x pos')) pos.line X.env=pure false:=by rfl)(J:X.fn x=true\/X.env.scope.names.lookup x=some .local:=by first|exact .inl rfl|exact .inr rfl|assumption):
 PS X (.Assign [.Name x pos'] e pos) (VR te (Mg i)):=by
 intro pins s σ H D I h
 refine wpAny_Assign_Name (thn (O pins s σ H _ I h) λv s1 ⟨y,H1,V,Z,q1⟩=>?_) hs
 exact El V W hi B Z (λs2 Y=>⟨_,H1,Y,q1⟩) J
end
section
variable{X:Cx}{pos:Pos}
end
structure It where
 go:Nat->Hp->Prop
 yld:Nat->Hp->V->Hp->Prop
 stop:Nat->Hp->Prop
noncomputable def vK(X:Cx)(pins:List (Addr×Obj))(H:Hp)(b:Addr):Prop:=
 H b=none/\b≠X.env.locals/\b∉X.fs/\(b∈X.ex\/X.s₀.heap.objs.size<=b)/\(∀x c,X.env.cells.lookup x=some c->c≠b)/\∀p∈X.pn++pins,p.1≠b
theorem Inv.fpOk{σ:St}(I:Inv X pins σ H s)(B:s.heap.objs.size<=b)(hn:H' b=none):vK X pins H' b:=by
 refine⟨hn,lC (bR I.lt B),I.nofs B,.inr (bF I.sz B),λx c e z=>?_,λp Z z=>?_⟩
 ·obtain⟨v,q⟩:=I.cell x c e
  exact absurd (bR q.lt (by rw[z];exact B)) (eE _)
 ·exact absurd (bR (Heap.lt_size (I.pin p Z).1) (by rw[z];exact B)) (eE _)
structure Turn(P:Program)(w:World)(K:PySem.W.Frag)(tg:Expr)(J:It)(fp:List Addr)(it:Addr)(tn:Nat->Heap->Prop):Prop where
 mem:it∈fp
 obj:∀i h,tn i h->∀b∈fp,∃o,h.get? b=some o/\∀v,o.data ≠ .cell v
 keep:∀i h h',tn i h->(∀b∈fp,∀o,h.get? b=some o->h'.get? b=some o)->tn i h'
 item:∀(X:Cx),X.prog=P->X.w=w->X.K=K->X.calm=true->∀(i:Nat)(pins:List (Addr×Obj))(s:Shared)(σ:St)(H:Hp)(E:Value->Shared->Prop),Inv X pins σ H s->(∀b∈fp,vK X pins H b)->tn i s.heap->J.go i H ->
  wpAny (model P w) X.A (pyNext (.ref it)) (λr s1=>∃u,r=some u /\
   wpAny (model P w) X.A (letOwnedTupleGo tg (.ref it) u) (λ_ s2=>∃x H',Inv X pins σ H' s2/\RelV x u/\J.yld i H x H'/\tn (i+1) s2.heap/\∀b∈fp,H' b=none) E s1) E s
 done:∀(X:Cx),X.prog=P->X.w=w->X.K=K->X.calm=true->∀(i:Nat)(pins:List (Addr×Obj))(s:Shared)(σ:St)(H:Hp)(E:Value->Shared->Prop),Inv X pins σ H s->(∀b∈fp,vK X pins H b)->tn i s.heap->J.stop i H ->
  wpAny (model P w) X.A (pyNext (.ref it)) (λr s1=>r=none/\Inv X pins σ H s1) E s
 self:∀(A:Around)(i:Nat)(s:Shared)(Q:Value->Shared->Prop)(E:Value->Shared->Prop),tn i s.heap->Q (.ref it) s->wpAny (model P w) A (pyIter (.ref it)) Q E s
noncomputable abbrev TI:=St->Hp->(It->Hp->Prop)->Prop
noncomputable def PIE(X:Cx)(pins:List (Addr×Obj))(σ:St)(tg:Expr)(R:It->Hp->Prop)(B:Value)(s2:Shared):Prop:=
 ∃(it:Addr)(fp:List Addr)(tn:Nat->Heap->Prop)(J:It)(H':Hp),B = .ref it/\Inv X pins σ H' s2/\Turn X.prog X.w X.K tg J fp it tn/\tn 0 s2.heap/\(∀b∈fp,vK X pins H' b)/\R J H'
noncomputable def PI(X:Cx)(tg iter:Expr)(wi:TI):Prop:=
 ∀(pins:List (Addr×Obj))(s:Shared)(σ:St)(H:Hp)(R:It->Hp->Prop),Inv X pins σ H s->wi σ H R ->
  wpAny (model X.prog X.w) X.A (eval iter X.env) (λv s1=>wpAny (model X.prog X.w) X.A (pyIter v) (PIE X pins σ tg R) X.xe s1) X.xe s
theorem Iv{u:Value}{o:Obj}{n:String}{vs:Array Value}{Q:Unit->Shared->Prop}(D:s.heap.get? it=some o)(J:o.cls = .type n)(hd:o.data = .fields vs)
 (hn:["enumerate", "zip", "dict_itemiterator", "dict_reverseitemiterator", "odict_iterator", "itertools.zip_longest", "itertools.pairwise"].contains n=false) (B:Q () s):wpAny M A (letOwnedTupleGo tg (.ref it) u) Q E s:=by
 unfold letOwnedTupleGo
 cases tg<;>first
  |exact wpAny_pure B
  | (cases u<;>first
   |exact wpAny_pure B
   | (refine wpAny_bind (wpAny_load D ?_)
      rw[J,hd]
      show wpAny M A (if(["enumerate", "zip", "dict_itemiterator", "dict_reverseitemiterator", "odict_iterator", "itertools.zip_longest", "itertools.pairwise"].contains n&&vs[0]? == some (rawInt _))=true then _ else _) Q E s
      rw[if_neg (by intro h;rw[hn,lD]at h;cases h)]
      exact wpAny_pure B))
noncomputable def Itl(K:PySem.W.Frag)(a:Addr):It:=
 ⟨λi H=>∃xs x,SqL K H a xs/\xs[i]? = some x,λi H x H'=>H'=H/\∀xs,SqL K H a xs->xs[i]? = some x,λi H=>∃xs,SqL K H a xs/\xs.length<=i⟩
noncomputable def Itt(K:PySem.W.Frag)(a:Addr):It:=
 ⟨λi H=>∃xs x,SqT K H a xs/\xs[i]? = some x,λi H x H'=>H'=H/\∀xs,SqT K H a xs->xs[i]? = some x,λi H=>∃xs,SqT K H a xs/\xs.length<=i⟩
noncomputable def Itr(lo:Int)(n:Nat):It:=⟨λi _=>i<n,λi H x H'=>H'=H/\x = .int (lo+i),λi _=>n<=i⟩
theorem J_(a it:Addr):Turn P w K tg (Itl K a) [it] it (λi h=>h.IsListIter it a i) where
 mem:=by simp
 obj:=λi h st b Z=>by
  have e:b=it:=by simpa using Z
  subst e
  obtain⟨o,e,c,d⟩:=st
  exact⟨o,e,λv z=>by rw[d]at z;cases z⟩
 keep:=λi h h' st k=>st.at λo e=>k it (by simp) o e
 item:=by
  intro X S hw R M i pins s σ H E I W st T
  subst S hw R
  obtain⟨xs,x,Y,U⟩:=T
  obtain⟨its,V,p,G⟩:=I.list Y
  obtain⟨u,D,J⟩:=V.get U
  obtain⟨N,f1,f2,f3,O,Q⟩:=W it (by simp)
  refine wpAny_pyNext_list_item st p.isList (x:=u) (by simpa using D) λh' st' L=>?_
  have B:Inv X pins σ H {s with heap:=h'}:=I.turned (t':=s.toks) (λb o Z e=>(L.2 b Z).trans e) N f1 f3 O Q
  obtain⟨o,e,c,d⟩:=id st'
  exact⟨u,rfl,Iv (s:={s with heap:=h'}) e c d (by decide) ⟨x,H,B,J,⟨rfl,λys F=>by rw[I.list_inj F Y];exact U⟩,st',λb Z=>(W b Z).1⟩⟩
 done:=by
  intro X S hw R M i pins s σ H E I W st T
  subst S hw R
  obtain⟨xs,Y,U⟩:=T
  obtain⟨its,V,p,G⟩:=I.list Y
  obtain⟨N,f1,f2,f3,O,Q⟩:=W it (by simp)
  have A:=V.length
  exact wpAny_pyNext_list_end (I.ok.hd M) st p.isList (by simp;omega) λh' C=>⟨rfl,I.turned (t':=s.toks) (λb o Z e=>C b o Z e) N f1 f3 O Q⟩
 self:=λ_ _ _ _ _ st h=>wpAny_pyIter_listiter st h
theorem Hf(a it:Addr):Turn P w K tg (Itt K a) [it] it (λi h=>h.IsTupleIter it a i) where
 mem:=by simp
 obj:=λi h st b Z=>by
  have e:b=it:=by simpa using Z
  subst e
  obtain⟨o,e,c,d⟩:=st
  exact⟨o,e,λv z=>by rw[d]at z;cases z⟩
 keep:=λi h h' st k=>st.at λo e=>k it (by simp) o e
 item:=by
  intro X S hw R M i pins s σ H E I W st T
  subst S hw R
  obtain⟨xs,x,Y,U⟩:=T
  obtain⟨its,V,p,G⟩:=I.tuple Y
  obtain⟨u,D,J⟩:=V.get U
  obtain⟨N,f1,f2,f3,O,Q⟩:=W it (by simp)
  refine wpAny_pyNext_tuple_item st (show s.heap.IsTuple a its.toArray from p) (x:=u) (by simpa using D) λh' st' L=>?_
  have B:Inv X pins σ H {s with heap:=h'}:=I.turned (t':=s.toks) (λb o Z e=>(L.2 b Z).trans e) N f1 f3 O Q
  obtain⟨o,e,c,d⟩:=id st'
  exact⟨u,rfl,Iv (s:={s with heap:=h'}) e c d (by decide) ⟨x,H,B,J,⟨rfl,λys F=>by rw[I.tuple_inj F Y];exact U⟩,st',λb Z=>(W b Z).1⟩⟩
 done:=by
  intro X S hw R M i pins s σ H E I W st T
  subst S hw R
  obtain⟨xs,Y,U⟩:=T
  obtain⟨its,V,p,G⟩:=I.tuple Y
  obtain⟨N,f1,f2,f3,O,Q⟩:=W it (by simp)
  have A:=V.length
  exact wpAny_pyNext_tuple_end (I.ok.hd M) st (show s.heap.IsTuple a its.toArray from p) (by simp;omega) λh' C=>⟨rfl,I.turned (t':=s.toks) (λb o Z e=>C b o Z e) N f1 f3 O Q⟩
 self:=λ_ _ _ _ _ st h=>wpAny_pyIter_tupleiter st h
theorem Hg(it:Addr)(lo:Int)(n:Nat):Turn P w K tg (Itr lo n) [it] it (λi h=>IsRangeIter h it (lo+(i:Nat)*1) ((n:Int)-(i:Nat)) 1) where
 mem:=by simp
 obj:=λi h st b Z=>by
  have e:b=it:=by simpa using Z
  subst e
  exact⟨_,st,λv z=>by
   have N:Data.fields _=Data.cell v:=z
   cases N⟩
 keep:=λi h h' st k=>k it (by simp) _ st
 item:=by
  intro X T hw S U i pins s σ H E I Y st V
  subst T hw S
  obtain⟨O,f1,f2,f3,Q,R⟩:=Y it (by simp)
  have W:=Walks.range (prog:=X.prog) (w:=X.w) (I.ok.hd U) it lo 1 n
  refine W.item i s _ _ V st λv h' tk L st' M=>?_
  obtain⟨t,rfl⟩:=L
  have G:Inv X pins σ H {s with heap:=h',toks:=tk}:=I.turned (λb o Z e=>M b o (by simpa using Z) e) O f1 f3 Q R
  refine⟨_,rfl,Iv (s:={s with heap:=h',toks:=tk}) (n := "range_iterator") st' rfl rfl (by decide) ⟨.int (lo+i),H,G,⟨t,?_⟩,⟨rfl,rfl⟩,st',λb Z=>(Y b Z).1⟩⟩
  rw[Int.mul_one]
 done:=by
  intro X T hw S U i pins s σ H E I Y st V
  subst T hw S
  obtain⟨O,f1,f2,f3,Q,R⟩:=Y it (by simp)
  exact wpAny_pyNext_range_end (I.ok.hd U) st (by have:n<=i:=V;omega) λh' J=>⟨rfl,I.turned (t':=s.toks) (λb o Z e=>J b o Z e) O f1 f3 Q R⟩
 self:=λ_ _ _ _ _ st h=>wpAny_pyIter_rangeiter st h
end L2
variable{tl:L2.TE}{p:Pos}{fp:List Addr}{iter:Expr}
namespace L2
open PySem PySem.Spec PyProof.Rows
section
variable{X:Cx}{tg:Expr}
noncomputable def YC(K:PySem.W.Frag)(tl:TE):TI:=λσ H R=>tl σ H λx H1=>∃a,x = .ref a/\(∃xs,SqL K H1 a xs)/\R (Itl K a) H1
noncomputable def ad4(K:PySem.W.Frag)(tl:TE):TI:=λσ H R=>tl σ H λx H1=>∃a,x = .ref a/\(∃xs,SqT K H1 a xs)/\R (Itt K a) H1
theorem Iw{l:Expr}(B:PE X l tl):PI X tg l (YC X.K tl):=by
 intro pins s σ H R I h
 refine thn (B pins s σ H _ I h) λv s1 ⟨x,H1,Z,Y,q1⟩=>?_
 obtain⟨a,e,⟨xs,W⟩,q⟩:=q1
 subst e
 cases Y
 obtain⟨its,U,p,T⟩:=Z.list W
 refine wpAny_pyIter_list p.isList ?_
 refine⟨s1.heap.objs.size,[s1.heap.objs.size],_,_,H1,rfl,Z.kept (t':=s1.toks) λb o e=>Heap.get?_push_of_some _ e,J_ a _,⟨_,Heap.get?_push_size _ rfl,rfl,rfl⟩,λb V=>?_,q⟩
 have e:b=s1.heap.objs.size:=by simpa using V
 subst e
 exact Z.fpOk (aL _) (Z.hok.fresh (aL _))
theorem V0{l:Expr}(B:PE X l tl):PI X tg l (ad4 X.K tl):=by
 intro pins s σ H R I h
 refine thn (B pins s σ H _ I h) λv s1 ⟨x,H1,Z,Y,q1⟩=>?_
 obtain⟨a,e,⟨xs,W⟩,q⟩:=q1
 subst e
 cases Y
 obtain⟨its,U,p,T⟩:=Z.tuple W
 refine wpAny_pyIter_tuple (show s1.heap.IsTuple a its.toArray from p) ?_
 refine⟨s1.heap.objs.size,[s1.heap.objs.size],_,_,H1,rfl,Z.kept (t':=s1.toks) λb o e=>Heap.get?_push_of_some _ e,Hf a _,⟨_,Heap.get?_push_size _ rfl,rfl,rfl⟩,λb V=>?_,q⟩
 have e:b=s1.heap.objs.size:=by simpa using V
 subst e
 exact Z.fpOk (aL _) (Z.hok.fresh (aL _))
theorem Mj{σ:St}{R:It->Hp->Prop}{lo hi:Int}{t u v:Tok}{tk:Nat}(I:Inv X pins σ H s)(h1 : -(2^62)<=lo)(h2:lo<2^62)(D : -(2^62)<=hi)(B:hi<2^62)
 (q:R (Itr lo (hi-lo).toNat) H):wpAny (model X.prog X.w) X.A (pyIter (.ref s.heap.objs.size)) (PIE X pins σ tg R) E {s with heap:=s.heap.push {cls:=.type "range", data:=.fields #[.int lo t,.int hi u,.int 1 v]},toks:=tk}:=by
 refine wpAny_pyIter_range (IsRange.new ..) (small_one h1 h2 D B) ?_
 have Z:Inv X pins σ H {s with heap:=s.heap.push {cls:=.type "range", data:=.fields #[.int lo t,.int hi u,.int 1 v]},toks:=tk}:=I.kept λb o e=>Heap.get?_push_of_some _ e
 refine⟨(s.heap.push {cls:=.type "range", data:=.fields #[.int lo t,.int hi u,.int 1 v]}).objs.size,[(s.heap.push {cls:=.type "range", data:=.fields #[.int lo t,.int hi u,.int 1 v]}).objs.size],_,_,H,rfl,
  Z.kept (t':=tk) λb o e=>Heap.get?_push_of_some _ e,Hg _ lo (hi-lo).toNat,?_,λb Y=>?_,q⟩
 ·have V:lo+((0:Nat):Int)*1=lo:=by simp
  have W:(((hi-lo).toNat:Nat):Int)-((0:Nat):Int)=Builtin.Range.rangeSize lo hi 1:=by rw[rangeSize_one];split<;>omega
  show IsRangeIter _ _ (lo+((0:Nat):Int)*1) ((((hi-lo).toNat:Nat):Int)-((0:Nat):Int)) 1
  rw[V,W]
  exact Heap.get?_push_size _ rfl
 ·have e:b=(s.heap.push {cls:=.type "range", data:=.fields #[.int lo t,.int hi u,.int 1 v]}).objs.size:=by simpa using Y
  subst e
  exact Z.fpOk (aL _) (Z.hok.fresh (aL _))
noncomputable def YD(ta:TA):TI:=λσ H R=>ta σ H λvs H1=>∃j:Int,vs=[.int j]/\-(2^62)<=j/\j<2^62/\R (Itr 0 j.toNat) H1
theorem Kc{a:Expr}{ta:TA}(B:Gl X "range")(hm:X.mg "range"=none)(ha:PA X [a] ta)(hs:starEach [a] X.env=[(false,eval a X.env)]:=by rfl):PI X tg (.Call (.Name "range" p) [a] [] pos) (YD ta):=by
 intro pins s σ H R I h
 refine Call_ (nD I B hm boot_range (PyProof.Rows.callWith_type1 (thn (ha pos pins s σ H _ I h) λus s1 ⟨vs,H1,W,Y,q1⟩=>?_) hs rfl))
 obtain⟨j,e,q1,q2,q⟩:=q1
 subst e
 cases Y with
 |cons r Z=>
  cases Z
  obtain⟨t,rfl⟩:=r
  exact call_range_1 (Mj W (by omega) (by omega) q1 q2 (by simpa using q))
noncomputable def ad5(wi:TI)(g:TG)(tb:TS):TS:=λD σ H=>wi σ H λJ H1=>∃W:Nat->Nat->St->Hp->Prop,(∃m,W 0 m σ H1)/\∀i m σ H,W i m σ H ->
 (J.stop i H/\D.nx σ H)\/(J.go i H/\∃N:St->Hp->Prop,(∀σ' H',N σ' H'->∃Y,Y<m/\W (i+1) Y σ' H')/\∀x H',J.yld i H x H'->g x σ H' λZ H2=>tb {D with nx:=N,ct:=N,bk:=D.nx} Z H2)
noncomputable def yj(fp:List Addr)(h:Heap):List (Addr×Obj):=fp.filterMap λb=>(h.get? b).map λo=>(b,o)
theorem qg{o:Obj}(B:b∈fp)(e:h.get? b=some o):(b,o)∈yj fp h:=kj.mpr ⟨b,B,by rw[e];rfl⟩
theorem Ke{p:Addr×Obj}(B:p∈yj fp h):p.1∈fp/\h.get? p.1=some p.2:=by
 obtain⟨b,Z,e⟩:=kj.mp B
 cases q:h.get? b with
 |none=>rw[q]at e;cases e
 |some o=>
  rw[q]at e
  have Y:(b,o)=p:=cY.inj e
  subst Y
  exact⟨Z,q⟩
theorem Inv.pinned{σ:St}(I:Inv X pins σ H s)(D:∀b∈fp,vK X pins H b)(B:∀b∈fp,∃o,s.heap.get? b=some o/\∀v,o.data ≠ .cell v):Inv X (pins++yj fp s.heap) σ H s:=
 I.pins_of λp W=>(cD.mp W).elim (λz=>I.pin p (bJ _ z)) λz=>by
  obtain⟨Z,e⟩:=Ke z
  obtain⟨V,f1,f2,_⟩:=D p.1 Z
  obtain⟨o,Y,d⟩:=B p.1 Z
  rw[e]at Y;cases Y
  exact⟨e,V,f1,f2,d⟩
theorem Inv.unpinned{pl:List (Addr×Obj)}{σ:St}(I:Inv X (pins++pl) σ H s):Inv X pins σ H s:=I.pins_of λp Z=>I.pin p (bJ _ (bY _ Z))
theorem V3{body:List Stmt}{wi:TI}{g:TG}{tb:TS}(hp:PassesOwn (model X.prog X.w) X.A X.env X.xe)(hc:X.calm=true)(hi:PI X tg iter wi)(hg:PG X tg g)(B:PSs X body tb)
 (hs:∀x,foldedSetIterable iter X.env x=pure x:=by intro _;rfl):PS X (.For tg iter body [] pos) (ad5 wi g tb):=by
 intro pins s σ H D I h
 refine wpAny_For (thn (hi pins s σ H _ I h) λv s1 h1=>thn h1 λitv s2 h2=>?_) hs
 obtain⟨it,fp,tn,J,H2,e,I2,T,G,f2,W,⟨m0,w0⟩,turn⟩:=h2
 subst e
 have V:∀{H':Hp},(∀b∈fp,H' b=none)->∀b∈fp,vK X pins H' b:=λhn b B=>⟨hn b B,(f2 b B).2⟩
 refine codeAny_forLoop_any (λn s'=>∃i σ' H',Inv X pins σ' H' s'/\tn i s'.heap/\(∀b∈fp,H' b=none)/\W i n σ' H') ?_ m0 ⟨0,σ,H2,I2,G,λb B=>(f2 b B).1,w0⟩
 rintro n s3 ⟨i,Y,L,t,P,M,j⟩
 rcases turn i n Y L j with⟨stop,qn⟩|⟨go,N,hN,step⟩
 ·refine wpAny_passesOwn hp (thn (T.done X rfl rfl rfl hc i pins s3 Y L X.xe t (V M) P stop) λr a ⟨E,I4⟩=>?_)
  subst E
  exact wpAny_execs_nil ⟨Y,L,I4,qn⟩
 ·refine wpAny_passesOwn hp (thn (T.item X rfl rfl rfl hc i pins s3 Y L X.xe t (V M) P go) λr a ⟨u,E,h4⟩=>?_)
  subst E
  refine wpAny_passesOwn hp (thn h4 λ_ y ⟨x,q,I5,r5,p,Q,C⟩=>?_)
  have z:=I5.pinned (V C) (T.obj _ _ Q)
  refine wpAny_passesOwn hp (thn (hg _ y Y q x u _ z r5 (step x q p)) λ_ c ⟨K,H6,I6,q6⟩=>?_)
  refine wpAny_passesOwn hp (thn (B _ c K H6 _ I6 q6) λf F R=>?_)
  have again:∀{Z:St}{S:Hp},Inv X (pins++yj fp y.heap) Z S F->N Z S->∃m,m<n/\∃i σ' H',Inv X pins σ' H' F/\tn i F.heap/\(∀b∈fp,H' b=none)/\W i m σ' H':=λ{Z S} U O=>by
   obtain⟨m',hm,k⟩:=hN Z S O
   refine⟨m',hm,i+1,Z,S,U.unpinned,T.keep _ _ _ Q λb B o e=>(U.pin (b,o) (bJ _ (bJ _ (qg B e)))).1,λb B=>?_,k⟩
   obtain⟨o,e,d⟩:=T.obj _ _ Q b B
   exact(U.pin (b,o) (bJ _ (bJ _ (qg B e)))).2.1
  cases f with
  |next=>obtain⟨Z,S,U,O⟩:=R;exact again U O
  |cont=>obtain⟨Z,S,U,O⟩:=R;exact again U O
  |brk=>obtain⟨Z,S,U,R⟩:=R;exact⟨Z,S,U.unpinned,R⟩
  |ret v=>obtain⟨l,Z,S,U,r7,R⟩:=R;exact⟨l,Z,S,U.unpinned,r7,R⟩
end
end L2
variable{op':CmpOp}
namespace L2
open PySem PySem.Spec PyProof.Rows
noncomputable abbrev R2:=V->V->Hp->VK->Prop
noncomputable def OpR(X:Cx)(f:Value->Value->Sem Value)(r:R2):Prop:=
 ∀(pins:List (Addr×Obj))(s:Shared)(σ:St)(H:Hp)(x y:V)(v u:Value)(Q:VK),Inv X pins σ H s->RelV x v->RelV y u->r x y H Q ->
  wpAny (model X.prog X.w) X.A (f v u) (EP X pins σ Q) X.xe s
noncomputable def UnR(X:Cx)(f:Value->Sem Value)(r:V->Hp->VK->Prop):Prop:=
 ∀(pins:List (Addr×Obj))(s:Shared)(σ:St)(H:Hp)(x:V)(v:Value)(Q:VK),Inv X pins σ H s->RelV x v->r x H Q ->
  wpAny (model X.prog X.w) X.A (f v) (EP X pins σ Q) X.xe s
noncomputable def lZ(X:Cx)(f:Value)(r:List V->Hp->VK->Prop):Prop:=
 ∀(pins:List (Addr×Obj))(s:Shared)(σ:St)(H:Hp)(xs:List V)(us:List Value)(Q:VK),Inv X pins σ H s->Vals xs us->r xs H Q ->
  wpAny (model X.prog X.w) X.A (call f us) (EP X pins σ Q) X.xe s
noncomputable def tOp(r:R2)(ta tb:TE):TE:=λσ H Q=>ta σ H λx H1=>tb σ H1 λy H2=>r x y H2 Q
noncomputable def tUn(r:V->Hp->VK->Prop)(ta:TE):TE:=λσ H Q=>ta σ H λx H1=>r x H1 Q
noncomputable def rI(C:Int->Int->Prop)(g:Int->Int->V):R2:=λx y H Q=>∃i j,x = .int i/\y = .int j/\C i j/\Q (g i j) H
noncomputable def rI0(g:Int->Int->V):R2:=λx y H Q=>∃i j,x = .int i/\y = .int j/\Q (g i j) H
noncomputable def rU(g:Int->V):V->Hp->VK->Prop:=λx H Q=>∃i,x = .int i/\Q (g i) H
section
variable{X:Cx}{a b c:Expr}{ta tb tc:TE}{pos:Pos}
theorem V4(ha:PE X a ta)(O:PE X b tb){pins:List (Addr×Obj)}{s:Shared}{σ:St}{H:Hp}{R:V->V->Hp->Prop}(I:Inv X pins σ H s)
 (h:ta σ H λx H1=>tb σ H1 λy H2=>R x y H2) {Q:Value->Shared->Prop} {f:Value->Value->Sem Value}
 (J:∀v u s2 x y H2,Inv X pins σ H2 s2->RelV x v->RelV y u->R x y H2->wpAny (model X.prog X.w) X.A (f v u) Q X.xe s2) :
 wpAny (model X.prog X.w) X.A (eval a X.env) (λv D=>wpAny (model X.prog X.w) X.A (eval b X.env) (λu B=>wpAny (model X.prog X.w) X.A (f v u) Q X.xe B) X.xe D) X.xe s:=by
 refine thn (ha pins s σ H _ I h) λv s1 ⟨x,H1,U,Y,q1⟩=>?_
 refine thn (O pins s1 σ H1 _ U q1) λu s2 ⟨y,H2,W,Z,q2⟩=>?_
 exact J v u s2 x y H2 W Y Z q2
theorem Mp{op:Operator}{r:R2}(B:OpR X (binaryOp op) r)(ha:PE X a ta)(D:PE X b tb):PE X (.BinOp a op b pos) (tOp r ta tb):=by
 intro pins s σ H Q I h
 exact wpAny_BinOp (V4 ha D I h λv u s2 x y H2 W Y Z q=>B pins s2 σ H2 x y v u Q W Y Z q)
theorem YF{op:UnaryOp}{r:V->Hp->VK->Prop}(B:UnR X (unaryOp op) r)(ha:PE X a ta):PE X (.UnaryOp op a pos) (tUn r ta):=by
 intro pins s σ H Q I h
 exact UnaryOp_ (thn (ha pins s σ H _ I h) λv s1 ⟨x,H1,Y,Z,q1⟩=>B pins s1 σ H1 x v Q Y Z q1)
theorem opI{f:Value->Value->Sem Value}{C:Int->Int->Prop}{g:Int->Int->Int}
 (rule:∀(i j:Int)(t u:Tok)(s:Shared)(Q:Value->Shared->Prop)(E:Value->Shared->Prop),C i j->Q (.int (g i j) s.toks) {s with toks:=s.toks+1}->wpAny (model X.prog X.w) X.A (f (.int i t) (.int j u)) Q E s) :
 OpR X f (rI C λi j=>.int (g i j)):=by
 intro pins s σ H x y v u Q I Y Z h
 obtain⟨i,j,rfl,rfl,W,q⟩:=h
 obtain⟨t,rfl⟩:=Y
 obtain⟨t',rfl⟩:=Z
 exact rule i j t t' s _ _ W ⟨.int (g i j),H,I.tok _,⟨_,rfl⟩,q⟩
theorem YG{f:Value->Value->Sem Value}{g:Int->Int->Int}
 (rule:∀(i j:Int)(t u:Tok)(s:Shared)(Q:Value->Shared->Prop)(E:Value->Shared->Prop),Q (.int (g i j) s.toks) {s with toks:=s.toks+1}->wpAny (model X.prog X.w) X.A (f (.int i t) (.int j u)) Q E s) :
 OpR X f (rI0 λi j=>.int (g i j)):=by
 intro pins s σ H x y v u Q I Y Z h
 obtain⟨i,j,rfl,rfl,q⟩:=h
 obtain⟨t,rfl⟩:=Y
 obtain⟨t',rfl⟩:=Z
 exact rule i j t t' s _ _ ⟨.int (g i j),H,I.tok _,⟨_,rfl⟩,q⟩
theorem Rn{f:Value->Value->Sem Value}{g:Int->Int->Bool}
 (rule:∀(i j:Int)(t u:Tok)(s:Shared)(Q:Value->Shared->Prop)(E:Value->Shared->Prop),Q (.bool (g i j)) s->wpAny (model X.prog X.w) X.A (f (.int i t) (.int j u)) Q E s) :
 OpR X f (rI0 λi j=>.bl (g i j)):=by
 intro pins s σ H x y v u Q I Y Z h
 obtain⟨i,j,rfl,rfl,q⟩:=h
 obtain⟨t,rfl⟩:=Y
 obtain⟨t',rfl⟩:=Z
 exact rule i j t t' s _ _ ⟨.bl (g i j),H,I,rfl,q⟩
noncomputable def V5(i j:Int):Prop:=0<=j/\j<=1000000/\i.natAbs<2^64
theorem ig:OpR X (binaryOp .Add) (rI0 λi j=>.int (i+j)):=YG λ_ _ _ _ _ _ _ q=>add_int q
theorem vL:OpR X (binaryOp .Sub) (rI0 λi j=>.int (i-j)):=YG λ_ _ _ _ _ _ _ q=>sub_int q
theorem nW:OpR X (binaryOp .Mod) (rI (λ_ j=>j≠0) λi j=>.int (i.fmod j)):=opI λ_ _ _ _ _ _ _ Z q=>mod_int' Z q
theorem V6:OpR X (binaryOp .Pow) (rI V5 λi j=>.int (i^j.toNat)):=opI λ_ _ _ _ _ _ _ Z q=>pow_int_small Z.1 Z.2.1 Z.2.2 q
theorem unI{f:Value->Sem Value}{g:Int->Int}
 (rule:∀(i:Int)(t:Tok)(s:Shared)(Q:Value->Shared->Prop)(E:Value->Shared->Prop),Q (.int (g i) s.toks) {s with toks:=s.toks+1}->wpAny (model X.prog X.w) X.A (f (.int i t)) Q E s) :
 UnR X f (rU λi=>.int (g i)):=by
 intro pins s σ H x v Q I Z h
 obtain⟨i,rfl,q⟩:=h
 obtain⟨t,rfl⟩:=Z
 exact rule i t s _ _ ⟨.int (g i),H,I.tok _,⟨_,rfl⟩,q⟩
theorem V7:UnR X (unaryOp .USub) (rU λi=>.int (-i)):=unI λ_ _ _ _ _ q=>neg_int q
end
section
variable{X:Cx}{a b c:Expr}{ta tb tc:TE}{pos:Pos}
theorem Em:OpR X (compareOp .Lt) (rI0 λi j=>.bl (decide (i<j))):=Rn λ_ _ _ _ _ _ _ q=>lt_int q
theorem lK:OpR X (compareOp .LtE) (rI0 λi j=>.bl (decide (i<=j))):=Rn λ_ _ _ _ _ _ _ q=>le_int q
theorem yp:OpR X (compareOp .Gt) (rI0 λi j=>.bl (decide (j<i))):=Rn λ_ _ _ _ _ _ _ q=>gt_int q
theorem YH:OpR X (compareOp .GtE) (rI0 λi j=>.bl (decide (j<=i))):=Rn λ_ _ _ _ _ _ _ q=>ge_int q
theorem dW(b:Expr){op:CmpOp}(h:op ≠ .In:=by decide)(h2:op ≠ .NotIn:=by decide):behindInMarks op b=false:=by
 have Y:(op==CmpOp.In)=false:=by cases op<;>first|rfl|exact absurd rfl h
 have Z:(op==CmpOp.NotIn)=false:=by cases op<;>first|rfl|exact absurd rfl h2
 cases b<;>simp[behindInMarks,Y,Z]
theorem Ro{r:R2}(B:OpR X (compareOp op) r)(ha:PE X a ta)(D:PE X b tb)(hm:behindInMarks op b=false):PE X (.Compare a [op] [b] pos) (tOp r ta tb):=by
 intro pins s σ H Q I h
 exact wpAny_Compare1 (V4 ha D I h λv u s2 x y H2 W Y Z q=>B pins s2 σ H2 x y v u Q W Y Z q) hm
noncomputable def U3(t:TE):TT:=λσ H Q=>t σ H λx H'=>∃k,x = .bl k/\Q k H'
theorem Rp{r:R2}(B:OpR X (compareOp op) r)(ha:PE X a ta)(D:PE X b tb)(hm:behindInMarks op b=false):PT X (.Compare a [op] [b] pos) (U3 (tOp r ta tb)):=by
 intro pins s σ H Q I h
 refine wpAny_isTrue_Compare1 (thn (ha pins s σ H _ I h) λv s1 ⟨x,H1,S,W,q1⟩=>thn (D pins s1 σ H1 _ S q1) λu s2 ⟨y,H2,T,Y,q2⟩=>
  thn (B pins s2 σ H2 x y v u _ T W Y q2) λc s3 ⟨z,R,U,Z,k,e,V⟩=>?_) hm
 subst e
 cases Z
 exact wpAny_truthy_bool ⟨R,U,V⟩
noncomputable def Mq(r r':R2)(ta tb tc:TE):TE:=λσ H Q=>ta σ H λx H1=>tb σ H1 λy H2=>r x y H2 λz Z=>∃k,z = .bl k /\
 (if k=true then tc σ Z λY X=>r' y Y X Q else Q (.bl false) Z)
theorem Mr{r r':R2}(D:OpR X (compareOp op) r)(B:OpR X (compareOp op') r')(ha:PE X a ta)(hb:PE X b tb)(J:PE X c tc)
 (hm:lastMarks [op,op'] [b,c]=false:=by with_unfolding_all rfl):PE X (.Compare a [op,op'] [b,c] pos) (Mq r r' ta tb tc):=by
 intro pins s σ H Q I h
 refine Compare_chain (thn (ha pins s σ H _ I h) λv s1 ⟨x,H1,K,O,q1⟩=>chain_link (thn (hb pins s1 σ H1 _ K q1) λu s2 ⟨y,H2,L,Z,q2⟩=>
  thn (D pins s2 σ H2 x y v u _ L O Z q2) λd s3 ⟨z,V,W,P,k,e,Y⟩=>?_)) hm
 subst e
 cases P
 refine wpAny_truthy_bool ?_
 cases k with
 |false=>exact ite_ff ⟨.bl false,V,W,rfl,Y⟩
 |true=>exact ite_tt (chain_last (thn (J pins s3 σ V _ W Y) λT S ⟨U,G,M,R,N⟩=>B pins S σ G y U u T Q M Z R N))
theorem Ms{r r':R2}(D:OpR X (compareOp op) r)(B:OpR X (compareOp op') r')(ha:PE X a ta)(hb:PE X b tb)(J:PE X c tc)
 (hm:lastMarks [op,op'] [b,c]=false:=by with_unfolding_all rfl):PT X (.Compare a [op,op'] [b,c] pos) (U3 (Mq r r' ta tb tc)):=by
 intro pins s σ H Q I h
 refine isTrue_chain (thn (ha pins s σ H _ I h) λv s1 ⟨x,H1,w,N,q1⟩=>test_link (thn (hb pins s1 σ H1 _ w q1) λu s2 ⟨y,H2,A,Z,q2⟩=>
  thn (D pins s2 σ H2 x y v u _ A N Z q2) λd s3 ⟨z,V,W,O,k,e,Y⟩=>?_)) hm
 subst e
 cases O
 refine wpAny_truthy_bool ?_
 cases k with
 |false=>
  obtain⟨o,F,K⟩:=Y
  cases F
  exact ite_ff ⟨V,W,K⟩
 |true=>
  refine ite_tt (test_last (thn (J pins s3 σ V _ W Y) λT S ⟨U,q,C,P,L⟩=>thn (B pins S σ q y U u T _ C Z P L) λn p ⟨z2,t,E,R,k2,G,M⟩=>?_))
  subst G
  cases R
  exact wpAny_truthy_bool ⟨t,E,M⟩
theorem vM:(sizeLine:Nat)<2^63:=by rw[sizeLine_eq];decide
theorem vals1{x:V}(r:Vals [x] us):∃u,us=[u]/\RelV x u:=by
 cases r with
 |cons Y Z=>cases Z;exact⟨_,rfl,Y⟩
theorem vals2{x:V}(r:Vals [x,y] us):∃u B,us=[u,B]/\RelV x u/\RelV y B:=by
 cases r with
 |cons W X=>
  cases X with
  |cons Y Z=>cases Z;exact⟨_,_,rfl,W,Y⟩
theorem Kf(B:X.calm=true):lZ X (.builtin "max") (λxs H Q=>∃i j,xs=[.int i,.int j]/\Q (.int (if j>i then j else i)) H):=by
 intro pins s σ H xs us Q I r h
 obtain⟨i,j,rfl,q⟩:=h
 obtain⟨u,Y,rfl,⟨t,rfl⟩,⟨t',rfl⟩⟩:=vals2 r
 refine max_two_ints (I.ok.hd B) λh' tk k=>⟨_,H,I.kept k,?_,q⟩
 by_cases Z:j>i
 ·rw[if_pos Z,if_pos Z];exact⟨_,rfl⟩
 ·rw[if_neg Z,if_neg Z];exact⟨_,rfl⟩
theorem Kg:lZ X (.type "int") (λxs H Q=>(∃i,xs=[.int i]/\Q (.int i) H)\/∃k,xs=[.bl k]/\Q (.int (if k then 1 else 0)) H):=by
 intro pins s σ H xs us Q I r h
 rcases h with⟨i,rfl,q⟩|⟨k,rfl,q⟩
 ·obtain⟨u,rfl,t,rfl⟩:=vals1 r
  exact call_int_int ⟨.int i,H,I,⟨_,rfl⟩,q⟩
 ·obtain⟨u,rfl,Z⟩:=vals1 r
  cases Z
  exact call_int_bool ⟨.int (if k then 1 else 0),H,I.tok _,⟨_,rfl⟩,q⟩
end
end L2
namespace L2
open PySem PySem.Spec PyProof.Rows
structure ObjM(h:Heap)(x dx C:Addr)(mA:Str->Option Value):Prop where
 obj:h.get? x=some (PySem.W.instObj C dx)
 ns:h.Ns1 dx mA
 ne:dx≠x
theorem Kh{dx:Addr}{mA:Str->Option Value}(n:h.Ns1 dx mA):∃od,h.get? dx=some od/\∀name,PySem.W.lookIn name od=some (mA name):=by
 obtain⟨o,es,ep,X,hd,V,_,hm⟩:=n
 refine⟨o,X,λname=>?_⟩
 have e:=hm name
 unfold nsFind findBy at e
 rw[<-Array.find?_toList]at e
 unfold PySem.W.lookIn
 rw[hd]
 dsimp only
 split
 ·rename_i y q
  rw[q]at e
  exact congrArg some e
 ·rename_i q
  rw[q]at e
  have a:es.toList.any (·.refKey)=false:=by
   rw[List.any_eq_false]
   intro y Y
   obtain⟨z,t,Z⟩:=V y (Array.mem_toList_iff.mp Y)
   simp[DictEntry.refKey,Z]
  have U:¬es.toList.any (·.refKey)=true:=by rw[a];exact aW
  rw[if_neg U]
  exact congrArg some e
theorem ObjM.look{x dx C:Addr}{mA:Str->Option Value}(I:ObjM h x dx C mA):∃od,PySem.W.InstAt h x (PySem.W.instObj C dx) C (some od)/\∀name,PySem.W.lookIn name od=some (mA name):=
 let⟨od,Z,Y⟩:=Kh I.ns
 ⟨od,⟨I.obj,rfl,rfl,Z⟩,Y⟩
section
variable{prog:Program}{w:World}{A:Around}{E:Value->Shared->Prop}{s:Shared}{K:PySem.W.Frag}{x dx C f:Addr}{mA:Str->Option Value}{name:Str}{v:Value}
end
theorem vJ.some_of{o:Option Value}(r:vJ (some v) o):∃u,o=some u/\RelV v u:=by
 cases o with
 |none=>exact(show False from r).elim
 |some u=>exact⟨u,rfl,r⟩
section
variable{P:Program}{w:World}{H H':Hp}{h h':Heap}{a C dx:Addr}{fs fs':List (Str×V)}
theorem Rq(hok:HOk P w H h)(e:H a=some (.ins C dx fs)):∃mA,ObjM h a dx C mA/\(∀f,vJ (fs.lookup f) (mA f))/\PySem.Within mA (fs.map (·.1))/\fs.length<=1000/\H dx=some (.own a):=by
 obtain⟨d,z,ne,Z,mA,n,r,q⟩:=(show gR P w H h a (.ins C dx fs)from hok a _ e)
 exact⟨mA,⟨Z,n,ne⟩,r,q,z,d⟩
end
structure Cls(K:PySem.W.Frag)(C:Addr):Prop where
 pg:PySem.W.plainGet K C Str.empty=true
 hd:PySem.W.hasDictIn K C=true
 po:PySem.W.plainOver K C=true
 sa:PySem.W.findIn K (.ref C) "__setattr__"=some (some (.builtin "object.__setattr__"))
theorem Cls.get{C:Addr}(c:Cls K C)(f:Str):PySem.W.plainGet K C f=true:=c.pg
structure Con(K:PySem.W.Frag)(C:Addr)(f:Str)(v:V)(u:Value):Prop where
 at_:PySem.W.findIn K (.ref C) f=some (some u)
 rel:RelV v u
 get:PySem.W.specialIn K u "__get__"=some none
 cp:PySem.W.copiedNames.contains f=false
structure Meth(K:PySem.W.Frag)(C:Addr)(m:Str)(f:Addr):Prop where
 at_:PySem.W.findIn K (.ref C) m=some (some (.ref f))
 fn:PySem.W.isFn K (.ref f)=true
 kp:PySem.W.keepIn K (.ref f)=true
section
variable{X:Cx}{pins:List (Addr×Obj)}{σ:St}{H:Hp}{s:Shared}{a C dx:Addr}{fs:List (Str×V)}{f:Str}{v:V}{A:Around}{E:Value->Shared->Prop}
end
section
variable{X:Cx}{o e value:Expr}{f:Str}{pos pos' tpos:Pos}{ta tv:TE}
end
section
variable{X:Cx}{pins:List (Addr×Obj)}{σ:St}{H:Hp}{s:Shared}{A:Around}{E:Value->Shared->Prop}{Q:Value->Shared->Prop}{c:Value}{b:Bool}
inductive TyOf(K:PySem.W.Frag)(H:Hp):V->Value->Prop where
 |non:TyOf K H .non (.type "NoneType")
 |bl (x:Bool):TyOf K H (.bl x) (.type "bool")
 |int (i:Int):TyOf K H (.int i) (.type "int")
 |str (x:Str):TyOf K H (.str x) (.type "str")
 |flt (x:UInt64):TyOf K H (.flt x) (.type "float")
 |lst {a:Addr} {xs:List V} (e:H a=some (.lst xs)):TyOf K H (.ref a) (.type "list")
 |frz {a:Addr} {o:Obj} {xs:List V} (e:H a=some (.frz o (.lst xs))):TyOf K H (.ref a) (.type "list")
 |tup {a:Addr} {xs:List V} (e:H a=some (.tup xs)):TyOf K H (.ref a) (.type "tuple")
 |dK {a:Addr} {kvs:List (Key×V)} (e:H a=some (.dK kvs)):TyOf K H (.ref a) (.type "dict")
 |dT {a:Addr} {kvs:List (List Key×V)} (e:H a=some (.dT kvs)):TyOf K H (.ref a) (.type "dict")
 |ins {a C dx:Addr} {fs:List (Str×V)} (e:H a=some (.ins C dx fs)) (cl:Cls K C) (ha:PySem.W.findIn K (.ref C) "__class__"=some (some (.builtin "object.__class__")))
  (hn:PySem.W.specialIn K (.builtin "object.__class__") "__get__"=some (some (.builtin "getset_descriptor.__get__"))) (htk:PySem.W.takesIn K (.builtin "object.__class__")=some true)
  (hm:PySem.W.mroIn K C (.type "object")=some true):TyOf K H (.ref a) (.ref C)
theorem Ai{x:V}{u t:Value}(I:Inv X pins σ H s)(B:RelV x u)(ty:TyOf X.K H x t)(e:PySem.W.kitOne X.K t c=some b)(h:∀tk,Q (.bool b) {s with toks:=tk}):
 wpAny (model X.prog X.w) A (call (.builtin "isinstance") [u,c]) Q E s:=by
 cases ty with
 |non=>cases(show u=Value.none from B);exact PySem.W.kia_one PySem.W.kitx_none I.kIn True.intro e (λz=>nomatch z) h
 |bl y=>cases(show u=Value.bool y from B);exact PySem.W.kia_one PySem.W.kitx_bool I.kIn True.intro e (λz=>nomatch z) h
 |int i=>obtain⟨t,q⟩:=(show ∃t,u=Value.int i t from B);cases q;exact PySem.W.kia_one PySem.W.kitx_int I.kIn True.intro e (λz=>nomatch z) h
 |str y=>obtain⟨t,q⟩:=(show ∃t,u=Value.str y t from B);cases q;exact PySem.W.kia_one PySem.W.kitx_str I.kIn True.intro e (λz=>nomatch z) h
 |flt y=>obtain⟨t,q⟩:=(show ∃t,u=Value.float y t from B);cases q;exact PySem.W.kia_one PySem.W.kitx_float I.kIn True.intro e (λz=>nomatch z) h
 | @lst a xs Z=>
  cases(show u=Value.ref a from B)
  obtain⟨_,_,n,_,h1⟩:=(show gR X.prog X.w H s.heap a (.lst xs)from I.hok a _ Z)
  exact PySem.W.kia_one PySem.W.kitx_list I.kIn ⟨_,h1,rfl⟩ e (λz=>nomatch z) h
 | @frz a Y xs Z=>
  cases(show u=Value.ref a from B)
  obtain⟨_,_,_,n,_,h1⟩:=(show gR X.prog X.w H s.heap a (.frz Y (.lst xs))from I.hok a _ Z)
  exact PySem.W.kia_one PySem.W.kitx_list I.kIn ⟨_,h1,rfl⟩ e (λz=>nomatch z) h
 | @tup a xs Z=>
  cases(show u=Value.ref a from B)
  obtain⟨_,_,_,p⟩:=(show gR X.prog X.w H s.heap a (.tup xs)from I.hok a _ Z)
  obtain⟨o,h1,h2,_⟩:=p
  exact PySem.W.kia_one PySem.W.kitx_tuple I.kIn ⟨o,h1,h2⟩ e (λz=>nomatch z) h
 | @dK a kvs Z=>
  cases(show u=Value.ref a from B)
  obtain⟨_,_,vs,_,p⟩:=(show gR X.prog X.w H s.heap a (.dK kvs)from I.hok a _ Z)
  obtain⟨o,es,ep,h1,h2,_⟩:=p
  exact PySem.W.kia_one PySem.W.kitx_dict I.kIn ⟨o,h1,h2.1⟩ e (λz=>nomatch z) h
 | @dT a kvs Z=>
  cases(show u=Value.ref a from B)
  obtain⟨_,_,xs,_,o,es,ep,h1,h2,_⟩:=(show gR X.prog X.w H s.heap a (.dT kvs)from I.hok a _ Z)
  exact PySem.W.kia_one PySem.W.kitx_dict I.kIn ⟨o,h1,h2.1⟩ e (λz=>nomatch z) h
 | @ins a C dx fs Z cl ha hn htk hm=>
  cases(show u=Value.ref a from B)
  obtain⟨mA,O,_⟩:=Rq I.hok Z
  obtain⟨od,J,_⟩:=O.look
  exact PySem.W.kia_one (PySem.W.kitx_own (cl.get _) cl.hd ha hn htk hm) I.kIn J e (λz=>nomatch z) h
end
end L2
variable{j:Nat}{mg:Str->Option Value}{base:Heap}{f:Addr}{fd:FuncData}{ps:List Str}{vs:List L2.V}{cd pm ct oc:Value}{an od:Option Addr}
namespace L2
open PySem PySem.Spec PyProof.Rows
structure Room(k:Nat)(A:Around):Prop where
 hd:A.handled=none
 dp:A.depth+3*k+5<recursionLimit
 un:A.units+16*k+200<cLine
theorem Room.mono{k:Nat}(r:Room k A)(h:j<=k):Room j A:=⟨r.hd,by have:=r.dp;omega,by have:=r.un;omega⟩
theorem Room.deeper{k:Nat}(r:Room (k+1) A)(env:Env):Room k (A.deeper env):=
 ⟨r.hd,by have:=r.dp;show A.depth+1+3*k+5<_;omega,by have:=r.un;show A.units+3+16*k+200<_;omega⟩
theorem Room.depth{k:Nat}(r:Room k A):A.depth<recursionLimit:=by have:=r.dp;omega
theorem Room.units{k:Nat}(r:Room k A):A.units+64<cLine:=by have:=r.un;omega
noncomputable def ad6:TA:=λ_ H Q=>Q [] H
noncomputable def YJ(ta:TE)(tr:TA):TA:=λσ H Q=>ta σ H λx H1=>tr σ H1 λxs H2=>Q (x::xs) H2
section
variable{X:Cx}{e:Expr}{es:List Expr}{te:TE}{t:TA}{pos:Pos}
theorem oE:PA X [] ad6:=λ_ _ _ _ H Q I h=>Calls.spliced_nil ⟨[],H,I,.nil,h⟩
theorem jA(ha:PE X e te)(B:PA X es t)(hs:starEach (e::es) X.env=(false,eval e X.env)::starEach es X.env:=by rfl):PA X (e::es) (YJ te t):=by
 intro pos pins s σ H Q I h
 rw[hs]
 show wpAny _ _ (spliced ((false,eval e X.env)::backTo pos (starEach es X.env))) _ _ s
 refine Calls.spliced_cons (thn (ha pins s σ H _ I h) λu s1 ⟨x,H1,V,Y,q1⟩=>?_)
 exact thn (B pos pins s1 σ H1 _ V q1) λus s2 ⟨xs,H2,W,Z,q2⟩=>⟨x::xs,H2,W,.cons Y Z,q2⟩
noncomputable def ad7(t:TA):TE:=λσ H Q=>t σ H λxs H1=>xs.length<=sizeLine/\∀p,H1 p=none->Q (.ref p) (upd H1 p (.tup xs))
noncomputable def ad8(t:TA):TE:=λσ H Q=>t σ H λxs H1=>xs.length<=sizeLine/\∀p,H1 p=none->Q (.ref p) (upd H1 p (.lst xs))
theorem V8{B}(h:PA X es t):PE X (.Tuple es B pos) (ad7 t):=by
 intro pins s σ H Q I Y
 refine wpAny_Tuple_spliced (thn (h pos pins s σ H _ I Y) λus s1 ⟨xs,H1,Z,r,z,q⟩=>⟨by rw[<-r.length];exact z,?_⟩)
 have W:H1 s1.heap.objs.size=none:=Z.hok.fresh (aL _)
 refine⟨.ref s1.heap.objs.size,upd H1 s1.heap.objs.size (.tup xs),Z.laid (t':=s1.toks) (λb u e=>Heap.get?_push_of_some _ e) (aL _) ?_,rfl,q _ W⟩
 exact⟨z,us,r,⟨_,Heap.get?_push_size _ rfl,rfl,_,rfl⟩⟩
theorem Mt(h:PA X es t):PE X (.List es pos) (ad8 t):=by
 intro pins s σ H Q I Y
 refine wpAny_List_spliced (thn (h pos pins s σ H _ I Y) λus s1 ⟨xs,H1,Z,r,z,q⟩=>⟨by rw[<-r.length];exact z,?_⟩)
 have W:H1 s1.heap.objs.size=none:=Z.hok.fresh (aL _)
 refine⟨.ref s1.heap.objs.size,upd H1 s1.heap.objs.size (.lst xs),Z.laid (t':=s1.toks) (λb u e=>Heap.get?_push_of_some _ e) (aL _) ?_,rfl,q _ W⟩
 exact⟨z,us,0,r,Heap.get?_push_size _ rfl⟩
end
noncomputable abbrev Sp:=List V->Hp->VK->XK->Prop
noncomputable abbrev CXT:=List Env->Hp->Shared->XK->Value->Shared->Prop
structure Env0(P:Program)(w:World)(K:PySem.W.Frag)(mg:Str->Option Value)(base:Heap)(A:Around)(outer:List Env)(s:Shared)(H:Hp):Prop where
 frames:A.frames=some outer
 mod:Mod K mg base
 bs:∀b o,base.get? b=some o->s.heap.get? b=some o/\H b=none
 bsz:base.objs.size<=s.heap.objs.size
 funs:s.heap.FunFrames base outer
 frf:∀b∈frs outer,H b=none
 hok:HOk P w H s.heap
 bare:AllBare s.gens
noncomputable def CE(outer:List Env)(P:Program)(w:World)(H:Hp)(s:Shared)(Q:VK)(u:Value)(s':Shared):Prop:=
 ∃v H',s'.os=s.os/\AllBare s'.gens/\Un (frs outer) [] H H' s.heap s'.heap/\HOk P w H' s'.heap/\RelV v u/\Q v H'
noncomputable def CR(CX:CXT)(outer:List Env)(P:Program)(w:World)(H:Hp)(s:Shared)(Q:VK)(E:XK)(r:Result)(s':Shared):Prop:=
 match r with
 | .ok (.ret u)=>CE outer P w H s Q u s'
 | .ok _=>False
 | .error e=>CX outer H s E e s'
structure FnOk(P:Program)(w:World)(K:PySem.W.Frag)(mg:Str->Option Value)(base:Heap)(CX:CXT)(k:Nat)(f:Addr)(fd:FuncData)(ps:List Str)(sp:Sp):Prop where
 len:∀vs H Q E,sp vs H Q E->vs.length=ps.length
 run:∀(A:Around)(outer:List Env)(s:Shared)(H:Hp)(args:Args)(us:List Value)(vs:List V)(Q:VK)(E:XK),Room k A->Env0 P w K mg base A outer s H->BindsTo s fd args (ps.zip us)->Vals vs us->sp vs H Q E ->
  codeAny (model P w) A (.call (.ref f) args) (CR CX outer P w H s Q E) s
theorem FnOk.mono{CX:CXT}{k:Nat}{sp:Sp}(F:FnOk P w K mg base CX j f fd ps sp)(h:j<=k):
 FnOk P w K mg base CX k f fd ps sp:=⟨F.len,λA outer s H args us vs Q E Z=>F.run A outer s H args us vs Q E (Z.mono h)⟩
theorem FnOk.imp{CX:CXT}{k:Nat}{sp B:Sp}(F:FnOk P w K mg base CX k f fd ps sp)
 (h:∀vs H Q E,B vs H Q E->sp vs H Q E):FnOk P w K mg base CX k f fd ps B:=
 ⟨λvs H Q E q=>F.len vs H Q E (h _ _ _ _ q),λA outer s H args us vs Q E Y X W Z hs=>F.run A outer s H args us vs Q E Y X W Z (h _ _ _ _ hs)⟩
section
variable{X:Cx}{pins:List (Addr×Obj)}{σ:St}{H:Hp}{s s':Shared}
theorem Inv.env0(I:Inv X pins σ H s):Env0 X.prog X.w X.K X.mg X.base X.A X.stack s H:=
 ⟨I.ok.frames,I.ok.mod,I.bs,bF I.ok.bsz I.sz,I.stack,I.stkFree,I.hok,I.bare⟩
theorem Inv.after{Q:VK}{u:Value}(I:Inv X pins σ H s)(h:CE X.stack X.prog X.w H s Q u s'):EP X pins σ Q u s':=by
 obtain⟨v,H',os,bare,un,hok,r,q⟩:=h
 obtain⟨Y,g,d,t,Z⟩:=s'
 obtain rfl:Z=s.os:=os
 exact⟨v,H',I.call (h':=Y) (g':=g) (d':=d) (t':=t) (ch:=[]) un hok bare (λb z=>absurd z (by simp)),r,q⟩
end
noncomputable def U4(sp:Sp)(dvs:List V)(E:XK)(t:TA):TE:=λσ H Q=>t σ H λvs H1=>sp (vs++dvs) H1 Q E
noncomputable def Binds(K:PySem.W.Frag)(fd:FuncData)(ps:List Str)(ds:List Value):Prop:=
 ∀(s:Shared)(us:List Value),K.In s.heap->(us++ds).length=ps.length->BindsTo s fd ⟨us,[]⟩ (ps.zip (us++ds))
theorem Binds.all(h:∀us:List Value,us.length=ps.length->bindArgs fd ⟨us,[]⟩=pure (ps.zip us)):Binds K fd ps []:=λs us _ Z=>by
 rw[cT]at Z ⊢
 exact .of_eq (h us Z)
noncomputable def Passes(CX:CXT)(X:Cx)(E:XK):Prop:=∀(pins:List (Addr×Obj))(σ:St)(H:Hp)(s:Shared)(e:Value)(s':Shared),Inv X pins σ H s->CX X.stack H s E e s'->X.xe e s'
section
variable{X:Cx}{CX:CXT}{k:Nat}{f C:Addr}{fd:FuncData}{ps:List Str}{sp:Sp}{dvs:List V}{ds:List Value}{E:XK}{x m:Str}{p pos apos:Pos}{e o:Expr}{es:List Expr}{ta:TE}{t:TA}
theorem V9{σ:St}{Q:VK}(F:FnOk X.prog X.w X.K X.mg X.base CX k f fd ps sp)(D:Room k X.A)(J:Binds X.K fd ps ds)(hd:Vals dvs ds)(B:Passes CX X E)
 (I:Inv X pins σ H s) (r:Vals vs us) (h:sp (vs++dvs) H Q E):wpAny (model X.prog X.w) X.A (call (.ref f) us) (EP X pins σ Q) X.xe s:=by
 have Y:Vals (vs++dvs) (us++ds):=r.append hd
 have W:(us++ds).length=ps.length:=by rw[<-Y.length];exact F.len _ _ _ _ h
 refine wpAny_call (codeAny_mono (F.run X.A X.stack s H ⟨us,[]⟩ (us++ds) (vs++dvs) Q E D I.env0 (J s us I.kIn W) Y h) λr s' Z=>?_)
 cases r with
 |error e=>exact B pins σ H s e s' I Z
 |ok fl=>
  cases fl with
  |ret u=>exact I.after Z
  |next=>exact False.elim Z
  |brk=>exact False.elim Z
  |cont=>exact False.elim Z
theorem Rr(F:FnOk X.prog X.w X.K X.mg X.base CX k f fd ps sp)(O:Room k X.A)(hg:Gl X x)(hm:X.mg x=some (.ref f))(Y:PySem.W.keepIn X.K (.ref f)=true)(hb:Binds X.K fd ps ds)(hd:Vals dvs ds)(J:Passes CX X E)
 (ha:PA X (e::es) t) (D:(x==("__debug__":Str))=false:=by decide) (he:starEach (e::es) X.env=(false,eval e X.env)::starEach es X.env:=by rfl) (B:(backTo pos (starEach es X.env)).any (·.1)=false:=by rfl) :
 PE X (.Call (.Name x p) (e::es) [] pos) (U4 sp dvs E t):=by
 intro pins s σ H Q I h
 refine wpAny_Call_Name_kw (Iu I hg hm ?_ D)
 refine PySem.W.callWith_K (h₀:=X.base) I.ok.mod.kin Y (thn (ha pos pins s σ H _ I h) λus s1 ⟨vs,H1,Z,r,q⟩=>⟨Z.kIn,?_⟩) he B
 exact V9 F O hb hd J Z r q
structure Mk(K:PySem.W.Frag)(C f:Addr):Prop where
 makes:PySem.W.makesIn K C=true
 init:PySem.W.findIn K (.ref C) "__init__"=some (some (.ref f))
 fn:PySem.W.isFn K (.ref f)=true
 kp:PySem.W.keepIn K (.ref C)=true
end
section
variable{X:Cx}{CX:CXT}{k:Nat}{f C:Addr}{fd:FuncData}{ps ks:List Str}{sp:Sp}{E:XK}{x m:Str}{p pos apos kpos:Pos}{e o:Expr}{es:List Expr}{kws:List Keyword}{te ta:TE}{t tk:TA}{nm:Option Str}
structure KBinds(K:PySem.W.Frag)(fd:FuncData)(ps ks:List Str)(g:List Value->List Value->List Value)(gV:List V->List V->List V):Prop where
 to:∀(s:Shared)(us ws:List Value),K.In s.heap->(g us ws).length=ps.length->BindsTo s fd ⟨us,ks.zip ws⟩ (ps.zip (g us ws))
 rel:∀{vs:List V}{us:List Value}{zs:List V}{ws:List Value},Vals vs us->Vals zs ws->Vals (gV vs zs) (g us ws)
variable{g:List Value->List Value->List Value}{gV:List V->List V->List V}
end
structure FnScope(N P:List Str)(sc:Scope):Prop where
 kind:sc.kind = .function
 co:sc.isCoroutine=false
 gen:sc.isGenerator=false
 nd:N.Nodup
 pre:N.take P.length=P
 par:∀x∈P,sc.names.lookup x=some .local\/sc.names.lookup x=some .cell
 nofree:∀y∈sc.names,y.2 ≠ .free
theorem Aj{kindOf:Str->Option NameKind}:∀{binds:List (Str×Value)}{m:Str->Option Value},(∀v,(x,v)∉binds)->bindL kindOf binds m x=m x
 |[],_,_=>rfl
 | (n,v)::r,m,h=>by
  unfold bindL
  rw[Aj λw hw=>h w (aJ _ hw)]
  split
  ·have:x≠n:=by rintro rfl;exact h v aG
   simp[this]
  ·rfl
theorem Ak{kindOf:Str->Option NameKind}:∀{binds:List (Str×Value)}{m:Str->Option Value},(∀v,(x,v)∉binds)->bindC kindOf binds m x=m x
 |[],_,_=>rfl
 | (n,v)::r,m,h=>by
  unfold bindC
  rw[Ak λw hw=>h w (aJ _ hw)]
  split
  ·rfl
  ·have:x≠n:=by rintro rfl;exact h v aG
   simp[this]
theorem Al{kindOf:Str->Option NameKind}{v:Value}:∀{P:List Str}{vs:List Value}{i:Nat}{m:Str->Option Value},P.Nodup->P[i]? = some x->vs[i]? = some v->kindOf x=some .local ->
 bindL kindOf (P.zip vs) m x=some v
 |[],_,_,_,_,h,_,_=>by simp at h
 |_::_,[],_,_,_,_,h,_=>by simp at h
 |p::P,w::vs,0,m,nd,h1,h2,Z=>by
  simp at h1 h2;subst h1;subst h2
  show bindL kindOf ((p,w)::P.zip vs) m p=_
  unfold bindL
  rw[Aj λv Y=>(dJ.mp nd).1 (nq Y).1,if_pos Z]
  simp
 |p::P,w::vs,i+1,m,nd,h1,h2,Z=>by
  show bindL kindOf ((p,w)::P.zip vs) m x=_
  unfold bindL
  exact Al (i:=i) (dJ.mp nd).2 (by simpa using h1) (by simpa using h2) Z
theorem Am{kindOf:Str->Option NameKind}{v:Value}:∀{P:List Str}{vs:List Value}{i:Nat}{m:Str->Option Value},P.Nodup->P[i]? = some x->vs[i]? = some v->kindOf x≠some .local ->
 bindC kindOf (P.zip vs) m x=some v
 |[],_,_,_,_,h,_,_=>by simp at h
 |_::_,[],_,_,_,_,h,_=>by simp at h
 |p::P,w::vs,0,m,nd,h1,h2,Z=>by
  simp at h1 h2;subst h1;subst h2
  show bindC kindOf ((p,w)::P.zip vs) m p=_
  unfold bindC
  rw[Ak λv Y=>(dJ.mp nd).1 (nq Y).1,if_neg Z]
  simp
 |p::P,w::vs,i+1,m,nd,h1,h2,Z=>by
  show bindC kindOf ((p,w)::P.zip vs) m x=_
  unfold bindC
  exact Am (i:=i) (dJ.mp nd).2 (by simpa using h1) (by simpa using h2) Z
noncomputable def start(N:List Str)(vs:List V):St:=vs.map some++aN (N.length-vs.length) none
noncomputable def En(CX:CXT)(P:Program)(w:World)(K:PySem.W.Frag)(mg:Str->Option Value)(base:Heap)(N:List Str)(qual:Str)(scope:Scope)(f:Addr)(cd:Value)(A:Around)(outer:List Env)(s:Shared)(H:Hp)(E:XK):Cx where
 prog:=P
 w:=w
 K:=K
 mg:=mg
 base:=base
 A:=A.deeper (envOfC qual scope s.heap.objs.size f cd)
 N:=N
 s₀:=s
 H₀:=H
 env:=envOfC qual scope s.heap.objs.size f cd
 outer:=outer
 stack:=envOfC qual scope s.heap.objs.size f cd::outer
 ex:=[]
 calm:=true
 fn:=λ_=>true
 pn:=[]
 xe:=λe s'=>wpAny (model P w) (A.deeper (envOfC qual scope s.heap.objs.size f cd)) (leaving (envOfC qual scope s.heap.objs.size f cd) e) (λ_ Z=>CX outer H s E e Z) (λY Z=>CX outer H s E Y Z) s'
theorem Eo{sc:Scope}(h:sc.names.lookup x=some .cell):∃c,(cellsFrom n sc.names []).lookup x=some c:=by
 have q:=PySem.W.cellsFrom_some sc.names n [] (.inl h)
 exact Option.isSome_iff_exists.mp q
theorem Kl{CX:CXT}{qual:Str}{scope:Scope}{outer:List Env}{s1:Shared}{E:XK}
 (S:FnScope N ps scope) (hd:A.handled=none) (B:Env0 P w K mg base A outer s H) (D:vs.length=ps.length) (r:Vals vs us)
 (x:InCallC s s.heap.objs.size (bindL (envOfC qual scope s.heap.objs.size f cd).kindOf (ps.zip us) λ_=>none) (cellsFrom (s.heap.objs.size+1) scope.names []) (bindC (envOfC qual scope s.heap.objs.size f cd).kindOf (ps.zip us) λ_=>none) s1) :
 Inv (En CX P w K mg base N qual scope f cd A outer s H E) [] (start N vs) H s1:=by
 have R:ps.length<=N.length:=by have:=congrArg oM S.pre;rw[cR]at this;omega
 obtain⟨h1,tk,rfl,U⟩:=x.done
 have Z:∀b:Addr,b∉(En CX P w K mg base N qual scope f cd A outer s H E).ex:=λb z=>absurd (show b∈([]:List Addr)from z) (by simp)
 refine⟨⟨B.mod,S.kind,rfl,rfl,aL _,λy z c h1 h2=>?_,λy Y=>?_,λy c _ h=>?_,λ_=>hd,Around.frames_deeper B.frames,.inr ⟨rfl,rfl⟩,λb z=>absurd z (Z b),B.bs,B.bsz,λb _ _=>Z b,λb z=>absurd z (Z b),B.funs,B.frf⟩,
  rfl,B.bare,Un.kept U,⟨_,x.toInCall.ns,λi y v h1 h2 Q=>?_⟩,λy c h=>⟨_,x.cell y c h⟩,B.hok.fresh (aL _),λy c h=>?_,λp W=>absurd (show p∈([]:List (Addr×Obj))from W) (by simp),B.hok.kept U,?_⟩
 ·exact name_of_addr x.apart (PySem.mem_of_lookup h1) (PySem.mem_of_lookup h2)
 ·have Y:scope.names.lookup y=some .cell\/scope.names.lookup y=some .free:=Y
  rcases Y with Y|Y
  ·exact Eo Y
  ·exact absurd rfl (S.nofree _ (PySem.mem_of_lookup Y))
 ·exact eF (x.above y c (PySem.mem_of_lookup h))
 ·have hi:i<vs.length:=by
   unfold start at h2
   by_cases hi:i<vs.length
   ·exact hi
   ·rw[bT (by simpa using hi)]at h2
    rw[fD]at h2
    split at h2<;>cases h2
  have ha:vs[i]? = some v:=by
   unfold start at h2
   rw[bW (by simpa using hi),bf]at h2
   cases e:vs[i]? with
   |none=>rw[e]at h2;cases h2
   |some a=>rw[e]at h2;cases h2;rfl
  obtain⟨u,V,T⟩:=r.get ha
  have W:ps[i]? = some y:=by
   rw[<-S.pre,iU (by omega)];exact h1
  have X:ps.Nodup:=by rw[<-S.pre];exact S.nd.sublist (List.take_sublist _ _)
  refine⟨u,T,?_⟩
  rcases S.par y (gA W)with k|k
  ·exact .inl ⟨k,Al X W V k⟩
  ·obtain⟨c,e⟩:=Eo (n:=s.heap.objs.size+1) k
   refine .inr ⟨.inl k,c,e,?_⟩
   have q:=x.cell y c e
   rw[Am X W V (by show scope.names.lookup y≠_;rw[k];decide)]at q
   exact q
 ·exact B.hok.fresh (eF (x.above y c (PySem.mem_of_lookup h)))
 ·unfold start
  show _=N.length
  rw[bG,au,bC]
  omega
theorem U5{CX:CXT}{k:Nat}{name qual:Str}{params:Arguments}{body:List Stmt}{scope:Scope}{dV kV doc cdv:Value}
 {osl:Array (Option Value)} {sp:Sp} (lk:K.lookup f=some ⟨oc,od,.func (PySem.W.fnOf name qual params body scope dV kV doc pm an cdv ct),osl⟩) (D:PySem.W.codeIn K cdv qual=true) (S:FnScope N ps scope)
 (len:∀vs H Q E,sp vs H Q E->vs.length=ps.length)
 (B:∀(A:Around)(outer:List Env)(s:Shared)(H:Hp)(vs:List V)(Q:VK)(E:XK),Room k (A.deeper (envOfC qual scope s.heap.objs.size f cdv))->sp vs H Q E ->
  ∃t,PSs (En CX P w K mg base N qual scope f cdv A outer s H E) body t/\t {nx:=λ_ H'=>Q .non H',rt:=Q} (start N vs) H) :
 FnOk P w K mg base CX (k+1) f (PySem.W.fnOf name qual params body scope dV kV doc pm an cdv ct) ps sp:=by
 refine⟨len,λA outer s H args us vs Q E R X z r Y=>?_⟩
 have F:=len _ _ _ _ Y
 have O:K.In s.heap:=X.mod.kin.keeps λb o e=>(X.bs b o e).1
 have T:s.heap.NoLimit:=X.mod.nolimit.keeps λb o e=>(X.bs b o e).1
 have Z:∀y∈ps.zip us,scope.names.lookup y.1=some .local\/(scope.names.lookup y.1=some .cell/\((cellsFrom (s.heap.objs.size+1) scope.names []).lookup y.1).isSome=true):=λ⟨n,v⟩ M=>by
  rcases S.par n (nq M).1 with q|q
  ·exact .inl q
  ·exact .inr ⟨q,PySem.W.cellsFrom_some _ _ _ (.inl q)⟩
 refine codeAny_call_function R.depth (O _ _ lk) rfl S.co S.gen rfl (PySem.W.codeRec_of O D) (z _ _ _ _ ?_)
 refine wpAny_newFunctionEnv_cells S.kind Z λenv C s1 x=>?_
 subst C
 refine⟨T.keeps x.toInCall.keep,codeAny_func ?_⟩
 obtain⟨t,L,G⟩:=B A outer s H vs Q E (R.deeper _) Y
 have I:Inv (En CX P w K mg base N qual scope f cdv A outer s H E) [] (start N vs) H s1:=Kl S R.hd X F r x
 refine wpAny_mono (L [] s1 (start N vs) H _ I G) (λfl s' hs=>?_) λe s' hs=>hs
 have fin:∀{σ':St}{H':Hp}{v:V}{u:Value},Inv (En CX P w K mg base N qual scope f cdv A outer s H E) [] σ' H' s'->RelV v u->Q v H'->CE outer P w H s Q u s':=
  λ{σ' H' v u} J U q=>⟨v,H',J.os,J.bare,J.base,J.hok,U,q⟩
 cases fl with
 |ret u=>
  obtain⟨v,σ',H',J,U,q⟩:=hs
  exact fin J U q
 |next=>
  obtain⟨σ',H',J,q⟩:=hs
  exact fin (v:=V.non) (u:=Value.none) J rfl q
 |brk=>
  obtain⟨_,_,_,q⟩:=hs
  exact False.elim q
 |cont=>
  obtain⟨_,_,_,q⟩:=hs
  exact False.elim q
end L2
namespace L2
open PySem PySem.Spec PyProof.Rows
section
variable{X:Cx}{x:Str}{p pos:Pos}{e:Expr}{es:List Expr}{t:TA}{id T:String}{r:List V->Hp->VK->Prop}
noncomputable def tCB(r:List V->Hp->VK->Prop)(t:TA):TE:=λσ H Q=>t σ H λvs H1=>r vs H1 Q
theorem m5(Y:lZ X (.builtin id) r)(O:Gl X x)(hm:X.mg x=none)(J:bootBuiltins x=some (.builtin id))(ha:PA X (e::es) t)(hn:x≠"__name__" := by decide)(D:(x==("__debug__":Str))=false:=by decide)
 (W:starEach (e::es) X.env=(false,eval e X.env)::starEach es X.env:=by rfl) (B:(backTo pos (starEach es X.env)).any (·.1)=false:=by rfl):PE X (.Call (.Name x p) (e::es) [] pos) (tCB r t):=by
 intro pins s σ H Q I h
 refine wpAny_Call_Name_kw (nD I O hm J ?_ hn D)
 exact PyProof.Rows.callWith_builtin1 (thn (ha pos pins s σ H _ I h) λus s1 ⟨vs,H1,V,Z,q1⟩=>Y pins s1 σ H1 vs us Q V Z q1) W B
theorem sO(Y:lZ X (.type T) r)(O:Gl X x)(hm:X.mg x=none)(J:bootBuiltins x=some (.type T))(ha:PA X (e::es) t)(hn:x≠"__name__" := by decide)(D:(x==("__debug__":Str))=false:=by decide)
 (W:starEach (e::es) X.env=(false,eval e X.env)::starEach es X.env:=by rfl) (B:(backTo pos (starEach es X.env)).any (·.1)=false:=by rfl):PE X (.Call (.Name x p) (e::es) [] pos) (tCB r t):=by
 intro pins s σ H Q I h
 refine wpAny_Call_Name_kw (nD I O hm J ?_ hn D)
 exact PyProof.Rows.callWith_type1 (thn (ha pos pins s σ H _ I h) λus s1 ⟨vs,H1,V,Z,q1⟩=>Y pins s1 σ H1 vs us Q V Z q1) W B
end
end L2
variable{sl:Addr}{vl vu:Value}
namespace HT
open PySem PyProof.Rows
section
open PySem.SeqAt
open PySem.AutoSeq1 (wpAny_loadPart')
open PySem.MeetsSeq PySem.MeetsSeq2 PySem.MeetsSeq3
end
section
variable{prog:Program}{w:World}{A:Around}{E:Value->Shared->Prop}{s:Shared}
noncomputable def sIx(n d:Nat):Option Int->Nat
 |none=>d
 |some v=>if v<0 then(v+(n:Int)).toNat else min v.toNat n
theorem V_(n d:Nat)(hd:d<=n)(o:Option Int):sIx n d o<=n:=by
 cases o with
 |none=>exact hd
 |some v=>
  show(if v<0 then(v+(n:Int)).toNat else min v.toNat n)<=n
  by_cases Z:v<0
  ·rw[if_pos Z];omega
  ·rw[if_neg Z];exact Nat.min_le_right _ _
theorem Iz(v:Int)(n d:Nat):(if v<0 then max (v+(n:Int)) 0 else min v (n:Int))=((sIx n d (some v):Nat):Int):=by
 show(if v<0 then max (v+(n:Int)) 0 else min v (n:Int))=(((if v<0 then(v+(n:Int)).toNat else min v.toNat n):Nat):Int)
 by_cases Z:v<0
 ·simp only[if_pos Z];omega
 ·simp only[if_neg Z];omega
theorem Hh(lo hi:Option Int)(n:Nat):Builtin.Slice.sliceAdjust lo hi 1 (n:Int)=(((sIx n 0 lo:Nat):Int),((sIx n n hi:Nat):Int)):=by
 have h1:¬((1:Int)<0):=by omega
 unfold Builtin.Slice.sliceAdjust
 simp only[h1,if_false]
 refine Prod.ext ?_ ?_
 ·cases lo with
  |none=>rfl
  |some v=>exact Iz v n 0
 ·cases hi with
  |none=>rfl
  |some v=>exact Iz v n n
theorem ur(i j:Nat):Builtin.Slice.slicePlaces (i:Int) (j:Int) 1=j-i:=by
 unfold Builtin.Slice.slicePlaces
 have h1:(1:Int)>0:=by omega
 simp only[h1,if_true,Int.ediv_one]
 split<;>omega
theorem yq{v:Value}{o:Option Int}{Q:Option Int->Shared->Prop}(p:IsPart v o)(h:Q o s):wpAny (model prog w) A (Builtin.Slice.slicePartIndex v) Q E s:=by
 cases p with
 |none=>exact slicePart_none h
 |int i t=>exact slicePart_int h
theorem pI{lo hi:Option Int}{Q:Int×Int×Nat->Shared->Prop}(hs:s.heap.IsSliceOf sl vl vu .none)(pl:IsPart vl lo)(B:IsPart vu hi)
 (h:Q (((sIx n 0 lo:Nat):Int),1,sIx n n hi-sIx n 0 lo) s):wpAny (model prog w) A (Builtin.Slice.sliceApplied (.ref sl) (pure (n:Int))) Q E s:=by
 obtain⟨os,Z,X,Y⟩:=id hs
 unfold Builtin.Slice.sliceApplied Builtin.Slice.sliceFields
 refine wpAny_bind (wpAny_bind (wpAny_field Z Y (x:=vl) rfl (wpAny_bind (wpAny_field Z Y (x:=vu) rfl (wpAny_bind (wpAny_field Z Y (x:=.none) rfl (wpAny_pure ?_)))))))
 refine wpAny_bind (slicePart_none ?_)
 show wpAny _ _ (if((1:Int)==0)=true then _ else _) _ _ s
 rw[if_neg (by decide)]
 refine wpAny_bind (yq pl (wpAny_bind (yq B (wpAny_bind (wpAny_pure ?_)))))
 show wpAny _ _ (match Builtin.Slice.sliceAdjust lo hi 1 (n:Int)with|(lo,hi)=>pure (lo,(1:Int),Builtin.Slice.slicePlaces lo hi 1)) _ _ s
 rw[Hh lo hi n]
 show wpAny _ _ (pure (((sIx n 0 lo:Nat):Int),(1:Int),Builtin.Slice.slicePlaces ((sIx n 0 lo:Nat):Int) ((sIx n n hi:Nat):Int) 1)) _ _ s
 rw[ur]
 exact wpAny_pure h
theorem Mu(xs:Array Value)(i k:Nat):((aR k).filterMap λ(m:Nat)=>xs[((i:Int)+(m:Int)*1).toNat]?).toArray=((xs.toList.drop i).take k).toArray:=by
 have e:(λ(m:Nat)=>xs[((i:Int)+(m:Int)*1).toNat]?)=λm=>xs[i+m]?:=by
  funext m
  have:((i:Int)+(m:Int)*1).toNat=i+m:=by omega
  rw[this]
 rw[e]
 have:=pick_run xs i k
 rw[List.filterMap_map]at this
 have Z:((λx=>xs[x]?)∘λx=>i+x)=λm=>xs[i+m]?:=rfl
 rw[Z]at this
 rw[this]
theorem uR{t:Addr}{items:Array Value}{lo hi:Option Int}(B:IsTup s.heap t items)(hs:s.heap.IsSliceOf sl vl vu .none)(pl:IsPart vl lo)(D:IsPart vu hi)
 (hw:¬(sIx items.size 0 lo=0/\sIx items.size items.size hi=items.size))
 (h:Q (.ref s.heap.objs.size) {s with heap:=s.heap.push {cls:=.type "tuple", data:=.seq ((items.toList.drop (sIx items.size 0 lo)).take (sIx items.size items.size hi-sIx items.size 0 lo)).toArray} })
 (hsz:items.size<=sizeLine):wpAny (model prog w) A (getItem (.ref t) (.ref sl)) Q E s:=by
 have Z:sizeOk (.seq ((items.toList.drop (sIx items.size 0 lo)).take (sIx items.size items.size hi-sIx items.size 0 lo)).toArray):=by
  show((items.toList.drop (sIx items.size 0 lo)).take (sIx items.size items.size hi-sIx items.size 0 lo)).toArray.size<=sizeLine
  rw[aY,cR,fG,bD]
  omega
 have T:sIx items.size items.size hi<=items.size:=V_ _ _ (aL _) hi
 obtain⟨os,Y,W,U⟩:=id hs
 have V:s.TypeIs (.ref sl) "slice" := ⟨os,Y,W⟩
 unfold getItem
 try with_reducible refine wpAny_holding ?_
 first|refine wpAny_bind (wpAny_pure ?_)|skip
 refine wpAny_bind (wpAny_sequenceKey B.typeIs (by decide) ?_)
 refine wpAny_bind (wpAny_callSpecial?_slot (name:=Str.ofString "__getitem__") B.typeIs PyProof.Rows.slot_tuple_getitem
  (wpAny_call_entry PyProof.Rows.slot_tuple_getitem B.typeIs entry_tuple_getitem ?_ (args_tuple_getitem _ _)))
 show wpAny _ _ (Builtin.Tuple.tupleItemsOf (.ref t) >>= _) _ _ s
 refine wpAny_bind (tupleItemsOf_ B ?_)
 refine wpAny_bind (wpAny_typeOf V ?_)
 rw[if_pos (by decide)]
 refine wpAny_bind (pI hs pl D ?_)
 have X:¬((((sIx items.size 0 lo:Nat):Int)==0&&(1:Int)==1&&(sIx items.size items.size hi-sIx items.size 0 lo)==items.size)=true):=by
  intro q
  rw[aX,aX]at q
  have q1:((sIx items.size 0 lo:Nat):Int)=0:=eq_of_beq q.1.1
  have q2:sIx items.size items.size hi-sIx items.size 0 lo=items.size:=eq_of_beq q.2
  exact hw ⟨by omega,by omega⟩
 show wpAny _ _ (if(((sIx items.size 0 lo:Nat):Int)==0&&(1:Int)==1&&(sIx items.size items.size hi-sIx items.size 0 lo)==items.size)=true then _ else _) _ _ s
 rw[if_neg X,Mu]
 first
  |exact wpAny_bind (m:=Builtin.Tuple.tupleExact _) (wpAny_newObj_type (wpAny_pure ⟨_,rfl,wpAny_pure h⟩) Z)
  |exact wpAny_bind (m:=Builtin.Tuple.tupleExact _) (wpAny_newObj_type (wpAny_bind (wpAny_pure (wpAny_pure ⟨_,rfl,wpAny_pure h⟩))) Z)
  |exact wpAny_bind (wpAny_bind (m:=Builtin.Tuple.tupleExact _) (wpAny_newObj_type (wpAny_pure (wpAny_pure ⟨_,rfl,wpAny_pure h⟩)) Z))
  |exact wpAny_bind (wpAny_bind (m:=Builtin.Tuple.tupleExact _) (wpAny_newObj_type (wpAny_pure ⟨_,rfl,wpAny_pure h⟩) Z))
end
end HT
namespace L2
open PySem PySem.Spec PyProof.Rows
noncomputable abbrev TO:=St->Hp->(Option Int->Hp->Prop)->Prop
noncomputable def PO(X:Cx)(e:Option Expr)(t:TO):Prop:=
 ∀(pins:List (Addr×Obj))(s:Shared)(σ:St)(H:Hp)(Q:Option Int->Hp->Prop),Inv X pins σ H s->t σ H Q ->
  wpAny (model X.prog X.w) X.A (evalPart e X.env) (λu s'=>∃o H',Inv X pins σ H' s'/\IsPart u o/\Q o H') X.xe s
noncomputable def Rt:TO:=λ_ H Q=>Q none H
noncomputable def YK(t:TE):TO:=λσ H Q=>t σ H λx H1=>∃i,x = .int i/\Q (some i) H1
section
variable{X:Cx}{e:Expr}{te:TE}{lo hi:Option Expr}{tl th:TO}{pos p2:Pos}
theorem Ru:PO X none Rt:=by
 intro pins s σ H Q I h
 rw[evalPart_none]
 exact wpAny_pure ⟨none,H,I,.none,h⟩
theorem Rv(h:PE X e te):PO X (some e) (YK te):=by
 intro pins s σ H Q I hw
 rw[evalPart_some]
 refine thn (h pins s σ H _ I hw) λu s1 ⟨x,H1,Y,Z,q1⟩=>?_
 obtain⟨i,rfl,q⟩:=q1
 obtain⟨t,rfl⟩:=Z
 exact⟨some i,H1,Y,.int i t,q⟩
noncomputable def SlR(X:Cx)(r:V->Option Int->Option Int->Hp->VK->Prop):Prop:=
 ∀(pins:List (Addr×Obj))(s:Shared)(σ:St)(H:Hp)(x:V)(v vl vu:Value)(lo hi:Option Int)(sl:Addr)(Q:VK),Inv X pins σ H s->RelV x v->s.heap.IsSliceOf sl vl vu .none->IsPart vl lo->IsPart vu hi->r x lo hi H Q ->
  ∃T id,typeLookup (.type T) "__getitem__"=pure (some (.builtin id))/\s.TypeIs v T/\wpAny (model X.prog X.w) X.A (getItem v (.ref sl)) (EP X pins σ Q) X.xe s
theorem SlR.or{r r':V->Option Int->Option Int->Hp->VK->Prop}(h:SlR X r)(h':SlR X r'):SlR X (λx lo hi H Q=>r x lo hi H Q\/r' x lo hi H Q):=by
 intro pins s σ H x v vl vu lo hi sl Q I Z hs pl Y q
 rcases q with q|q
 ·exact h pins s σ H x v vl vu lo hi sl Q I Z hs pl Y q
 ·exact h' pins s σ H x v vl vu lo hi sl Q I Z hs pl Y q
noncomputable def tSl(r:V->Option Int->Option Int->Hp->VK->Prop)(te:TE)(tl th:TO):TE:=λσ H Q=>te σ H λx H1=>tl σ H1 λl H2=>th σ H2 λu Z=>r x l u Z Q
theorem Ep{r:V->Option Int->Option Int->Hp->VK->Prop}(D:SlR X r)(O:PE X e te)(J:PO X lo tl)(B:PO X hi th):PE X (.Subscript e (.Slice lo hi none p2) pos) (tSl r te tl th):=by
 intro pins s σ H Q I h
 refine Subscript_ (thn (O pins s σ H _ I h) λv s1 ⟨x,H1,K,Y,q1⟩=>?_)
 refine wpAny_Slice (thn (J pins s1 σ H1 _ K q1) λvl s2 ⟨l,H2,L,pl,q2⟩=>thn (B pins s2 σ H2 _ L q2) λvu s3 ⟨u,Z,M,U,W⟩=>?_)
 rw[evalPart_none]
 refine wpAny_pure ?_
 have N:Inv X pins σ Z {s3 with heap:=s3.heap.push {cls:=.type "slice", data:=.fields #[vl,vu,.none]} }:=M.kept (t':=s3.toks) λb G q=>Heap.get?_push_of_some _ q
 obtain⟨T,id,P,S,R⟩:=D pins {s3 with heap:=s3.heap.push {cls:=.type "slice", data:=.fields #[vl,vu,.none]} } σ Z x v vl vu l u s3.heap.objs.size Q N Y (Heap.IsSliceOf.new ..) pl U W
 show wpAny (model X.prog X.w) X.A (subscriptTail e (.Slice lo hi none p2) v (.ref s3.heap.objs.size)) (EP X pins σ Q) X.xe {s3 with heap:=s3.heap.push {cls:=.type "slice", data:=.fields #[vl,vu,.none]} }
 exact tail_any (ops:=[.ref s3.heap.objs.size,v]) S P R (by with_unfolding_all rfl)
noncomputable def Er(xs:List V)(lo hi:Option Int):List V:=(xs.drop (HT.sIx xs.length 0 lo)).take (HT.sIx xs.length xs.length hi-HT.sIx xs.length 0 lo)
theorem wF(xs:List V)(lo hi:Option Int):(Er xs lo hi).length<=xs.length:=by
 unfold Er
 rw[cR,fG]
 omega
noncomputable def ad9(K:PySem.W.Frag):V->Option Int->Option Int->Hp->VK->Prop:=λx lo hi H Q=>∃a xs,x = .ref a/\SqT K H a xs /\
 ¬(HT.sIx xs.length 0 lo=0/\HT.sIx xs.length xs.length hi=xs.length)/\∀p,H p=none->Q (.ref p) (upd H p (.tup (Er xs lo hi)))
theorem Wa:SlR X (ad9 X.K):=by
 intro pins s σ H x v vl vu lo hi sl Q I W hs pl V h
 obtain⟨a,xs,rfl,U,hw,q⟩:=h
 cases W
 obtain⟨its,r,Y,Z⟩:=I.tuple U
 have hlen:its.toArray.size=xs.length:=by rw[aY];exact r.length.symm
 refine⟨"tuple", _,PyProof.Rows.slot_tuple_getitem.lookup,Y.typeIs,?_⟩
 refine HT.uR Y hs pl V (by rw[hlen];exact hw) ?_ (by rw[hlen];exact Z)
 rw[hlen]
 refine⟨.ref s.heap.objs.size,_,I.laid (t':=s.toks) (o:=.tup (Er xs lo hi)) (λb T q=>Heap.get?_push_of_some _ q) (aL _) ?_,rfl,q _ (I.hok.fresh (aL _))⟩
 exact⟨bF (wF xs lo hi) Z,_,(r.drop (HT.sIx xs.length 0 lo)).take (HT.sIx xs.length xs.length hi-HT.sIx xs.length 0 lo),IsTup.new _ _⟩
end
end L2
variable{r r':L2.R2}{its:List Value}{T:String}
namespace L2
open PySem PySem.Spec PyProof.Rows
noncomputable def ixN(n:Nat)(i:Int):Option Nat:=if 0<=i then(if i<n then some i.toNat else none)else if -(n:Int)<=i then some (i+n).toNat else none
noncomputable def atI{α:Type}(xs:List α)(i:Int):Option α:=(ixN xs.length i).bind λj=>xs[j]?
theorem IK{i:Int}(h:ixN n i=some j):seqIndex? i n=some j/\j<n/\-(n:Int)<=i/\i<n:=by
 unfold ixN at h
 by_cases Z:0<=i
 ·rw[if_pos Z]at h
  by_cases h1:i<n
  ·rw[if_pos h1]at h
   have e:i.toNat=j:=cY.inj h
   exact⟨by rw[seqIndex_of Z h1,e],by omega,by omega,h1⟩
  ·rw[if_neg h1]at h;cases h
 ·rw[if_neg Z]at h
  by_cases h1 : -(n:Int)<=i
  ·rw[if_pos h1]at h
   have e:(i+n).toNat=j:=cY.inj h
   exact⟨by rw[seqIndex_neg (by omega) h1,e],by omega,h1,by omega⟩
  ·rw[if_neg h1]at h;cases h
theorem xG{α:Type}{xs:List α}{i:Int}{v:α}(h:atI xs i=some v):∃j,seqIndex? i xs.length=some j/\xs[j]? = some v/\j<xs.length/\-(xs.length:Int)<=i/\i<xs.length:=by
 unfold atI at h
 cases e:ixN xs.length i with
 |none=>rw[e]at h;cases h
 |some j=>
  rw[e]at h
  obtain⟨h1,h2,Y,Z⟩:=IK e
  exact⟨j,h1,h,h2,Y,Z⟩
noncomputable def BP(b:Expr):Prop:=∀o i,subscripted b false o i=operate [o,i] (getItem o i)
noncomputable def IxR(X:Cx)(r:R2):Prop:=
 ∀(value slice:Expr)(pins:List (Addr×Obj))(s:Shared)(σ:St)(H:Hp)(x y:V)(v u:Value)(Q:VK),Inv X pins σ H s->RelV x v->RelV y u->r x y H Q ->
  subscripted slice false v u=operate [v,u] (getItem v u)->wpAny (model X.prog X.w) X.A (subscriptTail value slice v u) (EP X pins σ Q) X.xe s
noncomputable def MtR(X:Cx)(id:String)(r:V->List V->Hp->VK->Prop):Prop:=
 ∀(pins:List (Addr×Obj))(s:Shared)(σ:St)(H:Hp)(x:V)(xs:List V)(v:Value)(us:List Value)(Q:VK),Inv X pins σ H s->RelV x v->Vals xs us->r x xs H Q ->
  wpAny (model X.prog X.w) X.A (call (.builtin id) (v::us)) (EP X pins σ Q) X.xe s
section
variable{X:Cx}{a b:Expr}{ta tb:TE}{pos:Pos}
theorem IxR.or(h:IxR X r)(h':IxR X r'):IxR X (λx y H Q=>r x y H Q\/r' x y H Q):=by
 intro value slice pins s σ H x y v u Q I Y Z q hs
 rcases q with q|q
 ·exact h value slice pins s σ H x y v u Q I Y Z q hs
 ·exact h' value slice pins s σ H x y v u Q I Y Z q hs
theorem YL(B:IxR X r)(ha:PE X a ta)(D:PE X b tb)(hs:BP b):PE X (.Subscript a b pos) (tOp r ta tb):=by
 intro pins s σ H Q I h
 exact Subscript_ (V4 ha D I h λv u s2 x y H2 W Y Z q=>B a b pins s2 σ H2 x y v u Q W Y Z q (hs _ _))
noncomputable def YM(K:PySem.W.Frag):R2:=λx y H Q=>∃p xs i v,x = .ref p/\y = .int i/\SqL K H p xs/\atI xs i=some v/\Q v H
noncomputable def YQ(K:PySem.W.Frag):R2:=λx y H Q=>∃p xs i v,x = .ref p/\y = .int i/\SqT K H p xs/\atI xs i=some v/\Q v H
noncomputable def YS:R2:=λx y H Q=>∃z i c,x = .str z/\y = .int i/\z.length<=sizeLine/\atI z.cps.toList i=some c/\Q (.str ⟨#[c]⟩) H
theorem Rw:IxR X (YM X.K):=by
 intro value slice pins s σ H x y v u Q I T U h hs
 obtain⟨p,xs,i,z,rfl,rfl,S,P,q⟩:=h
 cases T
 obtain⟨t,rfl⟩:=U
 obtain⟨its,r,pl,M⟩:=I.list S
 obtain⟨j,h1,h2,L,N,O⟩:=xG P
 obtain⟨w,V,Z⟩:=r.get h2
 have R:=r.length
 have hn:=vM
 have fin:EP X pins σ Q w s:=⟨z,H,I,Z,q⟩
 by_cases W:0<=i
 ·have Y:i.toNat=j:=by
   rw[seqIndex_of W O]at h1
   exact cY.inj h1
  exact item_listR pl.isList W (by omega) (by rw[Y];simpa using V) fin hs
 ·have Y:(i+(its.toArray.size:Int)).toNat=j:=by
   rw[seqIndex_neg (by omega) N]at h1
   rw[aY,<-R]
   exact cY.inj h1
  exact subscriptTail_builtinR (x:=w) pl.isList.typeIs slot_list_getitem.lookup
   (wpAny_getItem_list_neg (Q:=λr s'=>r=w/\EP X pins σ Q r s') pl.isList (by omega) (by rw[aY]<;>omega) (by omega) (by rw[Y];simpa using V) ⟨rfl,fin⟩) hs
theorem Wb:IxR X (YQ X.K):=by
 intro value slice pins s σ H x y v u Q I W Y h hs
 obtain⟨p,xs,i,z,rfl,rfl,V,T,q⟩:=h
 cases W
 obtain⟨t,rfl⟩:=Y
 obtain⟨its,r,pl,R⟩:=I.tuple V
 obtain⟨j,h1,h2,N,O,P⟩:=xG T
 obtain⟨w,S,Z⟩:=r.get h2
 have U:=r.length
 have hn:=vM
 have fin:EP X pins σ Q w s:=⟨z,H,I,Z,q⟩
 exact subscriptTail_builtinR (x:=w) pl.typeIs slot_tuple_getitem.lookup
  (getItem_tuple (j:=j) (Q:=λr s'=>r=w/\EP X pins σ Q r s') pl (by omega) (by omega) (by rw[aY,<-U];exact h1) (by simpa using S) ⟨rfl,fin⟩) hs
theorem Wc:IxR X YS:=by
 intro value slice pins s σ H x y v u Q I Y Z h hs
 obtain⟨z,i,c,rfl,rfl,P,V,q⟩:=h
 obtain⟨t,rfl⟩:=Y
 obtain⟨t',rfl⟩:=Z
 obtain⟨j,h1,h2,O,T,U⟩:=xG V
 have W:z.cps.toList.length=z.length:=by simp[Str.length]
 rw[W]at h1 T U
 have hn:=vM
 exact tail_any (typeIs_str s z t) slot_str_getitem.lookup (getItem_str (c:=c) (by
  have R:decide (i < -(2^63:Int))=false:=dFa (by omega)
  have S:decide (i≥2^63)=false:=dFa (by omega)
  rw[R,S,Bool.or_false]) (by rw[h1];simpa using h2) ⟨.str ⟨#[c]⟩,H,I.tok _,⟨_,rfl⟩,q⟩) hs
noncomputable def rIx(K:PySem.W.Frag):R2:=λx y H Q=>YM K x y H Q\/YQ K x y H Q\/YS x y H Q
theorem Wd:IxR X (rIx X.K):=Rw.or (Wb.or Wc)
theorem Hi(its:List Value)(n j:Nat)(u:Value):Obj.mapSeq (·.setIfInBounds j u) {cls:=.type "list", data:=.seq its.toArray n}={cls:=.type "list", data:=.seq (its.set j u).toArray n}:=by
 simp[Obj.mapSeq]
theorem Inv.lst{pins:List (Addr×Obj)}{σ:St}{H:Hp}{s:Shared}{p:Addr}{xs:List V}(I:Inv X pins σ H s)(h:H p=some (.lst xs)):
 ∃(its:List Value)(n:Nat),Vals xs its/\s.heap.get? p=some {cls:=.type "list", data:=.seq its.toArray n}/\xs.length<=sizeLine:=by
 obtain⟨z,its,n,r,e⟩:=I.hok p _ h
 exact⟨its,n,r,e,z⟩
theorem Inv.lstUpd{σ:St}{p:Addr}{xs ys:List V}{its':List Value}{B:Nat}{f:Obj->Obj}(I:Inv X pins σ H s)(h:H p=some (.lst xs))
 (J:s.heap.get? p=some {cls:=.type "list", data:=.seq its.toArray n}) (D:f {cls:=.type "list", data:=.seq its.toArray n}={cls:=.type "list", data:=.seq its'.toArray B}) (r:Vals ys its') (hz:ys.length<=sizeLine) (t:Nat) :
 Inv X pins σ (upd H p (.lst ys)) {s with heap:=s.heap.update p f,toks:=t}:=by
 have e:(s.heap.update p f).get? p=some {cls:=.type "list", data:=.seq its'.toArray B}:=by
  rw[Heap.get?_update_self f J (by rw[D]<;>rfl),D]
 refine I.write (x:=p) (e:=p) (by rw[h];trivial) (.inl rfl) (λb u Z q=>(Heap.get?_update_other _ _ (Ne.symm Z)).trans q) ⟨_,e⟩ ?_
 exact⟨hz,its',B,r,e⟩
noncomputable def YT:V->V->V->Hp->(Hp->Prop)->Prop:=λo i v H Q=>∃p xs k j,o = .ref p/\i = .int k/\H p=some (.lst xs)/\ixN xs.length k=some j/\Q (upd H p (.lst (xs.set j v)))
theorem set_list:Ri X YT:=by
 intro pins s σ H o i v J G u Q I N M O h
 obtain⟨p,xs,k,j,rfl,rfl,U,K,q⟩:=h
 cases N
 obtain⟨t,rfl⟩:=M
 obtain⟨its,n,r,Z,L⟩:=I.lst U
 obtain⟨h1,h2,S,T⟩:=IK K
 have Y:=r.length
 have hn:=vM
 have P:Inv X pins σ (upd H p (.lst (xs.set j v))) {s with heap:=s.heap.update p (Obj.mapSeq (·.setIfInBounds j u))}:=
  I.lstUpd U Z (Hi its n j u) (r.set O j) (by rw[dh];exact L) s.toks
 by_cases R:0<=k
 ·have V:k.toNat=j:=by
   rw[seqIndex_of R T]at h1
   exact cY.inj h1
  exact PySem.W.ki_setAt Z R (by omega) (by rw[aY,<-Y];exact T) (by rw[V];exact⟨_,P,q⟩)
 ·have V:(k+(its.toArray.size:Int)).toNat=j:=by
   rw[seqIndex_neg (by omega) S]at h1
   rw[aY,<-Y]
   exact cY.inj h1
  exact PySem.W.ki_setBack Z (by omega) (by rw[aY,<-Y];exact S) (by omega) (by rw[V];exact⟨_,P,q⟩)
theorem BR(lo hi:Option Int)(n:Nat):(sliceBounds lo hi none n).1=((HT.sIx n 0 lo:Nat):Int)/\(sliceBounds lo hi none n).2.1=((HT.sIx n n hi:Nat):Int)/\(sliceBounds lo hi none n).2.2=1:=by
 refine⟨?_,?_,rfl⟩
 ·cases lo with
  |none=>simp[sliceBounds,HT.sIx]
  |some i=>
   simp only[sliceBounds,HT.sIx,Option.getD_none,show(1:Int)>0 by decide,if_true]
   by_cases h:i<0
   ·simp only[h,if_true]<;>omega
   ·simp only[h,if_false]<;>omega
 ·cases hi with
  |none=>simp[sliceBounds,HT.sIx]
  |some i=>
   simp only[sliceBounds,HT.sIx,Option.getD_none,show(1:Int)>0 by decide,if_true]
   by_cases h:i<0
   ·simp only[h,if_true]<;>omega
   ·simp only[h,if_false]<;>omega
theorem zU(its:List Value)(lo hi:Option Int):slicePick its.toArray lo hi none=((its.drop (HT.sIx its.length 0 lo)).take (HT.sIx its.length its.length hi-HT.sIx its.length 0 lo)).toArray:=by
 obtain⟨h1,h2,Z⟩:=BR lo hi its.toArray.size
 unfold slicePick
 rw[h1,h2,Z]
 simp only[sliceRange_one,pick_run,aY]<;>rfl
noncomputable def ae0(K:PySem.W.Frag):V->Option Int->Option Int->Hp->VK->Prop:=λx lo hi H Q=>∃a xs,x = .ref a/\SqL K H a xs/\∀p,H p=none->Q (.ref p) (upd H p (.lst (Er xs lo hi)))
theorem Rx:SlR X (ae0 X.K):=by
 intro pins s σ H x v vl vu lo hi sl Q I Y hs pl W h
 obtain⟨a,xs,rfl,U,q⟩:=h
 cases Y
 obtain⟨its,r,Z,V⟩:=I.list U
 have hlen:=r.length
 refine⟨"list", _,slot_list_getitem.lookup,Z.isList.typeIs,?_⟩
 refine wpAny_getItem_list_slice Z.isList hs pl W .none (by simp) ?_ (by rw[aY]<;>omega)
 rw[zU,<-hlen]
 refine⟨.ref s.heap.objs.size,_,I.laid (t':=s.toks) (o:=.lst (Er xs lo hi)) (λb T q=>Heap.get?_push_of_some _ q) (aL _) ?_,rfl,q _ (I.hok.fresh (aL _))⟩
 exact⟨bF (wF xs lo hi) V,_,0,(r.drop (HT.sIx xs.length 0 lo)).take (HT.sIx xs.length xs.length hi-HT.sIx xs.length 0 lo),Heap.get?_push_size _ rfl⟩
theorem bZ:lZ X (.builtin "len") (λxs H Q=>∃p ys,xs=[.ref p]/\(SqL X.K H p ys\/SqT X.K H p ys)/\Q (.int ys.length) H):=by
 intro pins s σ H xs us Q I r h
 obtain⟨p,ys,rfl,Z,q⟩:=h
 obtain⟨u,rfl,Y⟩:=vals1 r
 cases Y
 have hn:=vM
 rcases Z with Z|Z
 ·obtain⟨its,r',pl,W⟩:=I.list Z
  have hlen:=r'.length
  exact Calls.call_len_list pl.isList (by simp only[aY]<;>omega) ⟨.int ys.length,H,I.tok _,⟨s.toks+1,by rw[aY,hlen]⟩,q⟩
 ·obtain⟨its,r',pl,W⟩:=I.tuple Z
  have hlen:=r'.length
  exact len_tuple pl (by simp only[aY]<;>omega) ⟨.int ys.length,H,I.tok _,⟨s.toks+1,by rw[aY,hlen]⟩,q⟩
theorem BW:lZ X (.type "list") (λxs H Q=>∃p ys,xs=[.ref p]/\(SqL X.K H p ys\/SqT X.K H p ys)/\∀l,H l=none->Q (.ref l) (upd H l (.lst ys))):=by
 intro pins s σ H xs us Q I r h
 obtain⟨p,ys,rfl,Y,q⟩:=h
 obtain⟨u,rfl,U⟩:=vals1 r
 cases U
 have fin:∀(its:List Value),Vals ys its->ys.length<=sizeLine->∀(h':Heap)(c':Nat),(∀b o',s.heap.get? b=some o'->h'.get? b=some o') ->
  h'.get? s.heap.objs.size=some {cls:=.type "list", dict:=none,data:=.seq its.toArray c',slots:=#[]}->EP X pins σ Q (.ref s.heap.objs.size) {s with heap:=h'}:=λits r' Z h' c' kp e=>
  ⟨.ref s.heap.objs.size,_,I.laid (t':=s.toks) kp (aL _) (show gR X.prog X.w _ h' _ (.lst ys)from⟨Z,its,c',r',e⟩),rfl,q _ (I.hok.fresh (aL _))⟩
 rcases Y with Y|Y
 ·obtain⟨its,r',pl,Z⟩:=I.list Y
  have hlen:=r'.length
  obtain⟨o,W,V,n,hd⟩:=pl.isList
  exact call_list_seq p (.inl rfl) W V hd (λh' c' kp e=>fin its r' Z h' c' kp e) (by simp only[aY]<;>omega)
 ·obtain⟨its,r',pl,Z⟩:=I.tuple Y
  have hlen:=r'.length
  obtain⟨o,W,V,n,hd⟩:=pl
  exact call_list_seq p (.inr rfl) W V hd (λh' c' kp e=>fin its r' Z h' c' kp e) (by simp only[aY]<;>omega)
theorem tZ:lZ X (.type "tuple") (λxs H Q=>∃p ys,xs=[.ref p]/\((SqL X.K H p ys/\∀l,H l=none->Q (.ref l) (upd H l (.tup ys)))\/(SqT X.K H p ys/\Q (.ref p) H))):=by
 intro pins s σ H xs us Q I r h
 obtain⟨p,ys,rfl,h⟩:=h
 obtain⟨u,rfl,V⟩:=vals1 r
 cases V
 rcases h with⟨Z,q⟩|⟨Z,q⟩
 ·obtain⟨its,r',pl,Y⟩:=I.list Z
  have hlen:=r'.length
  refine call_tuple_list pl.isList (λh' kp=>?_) (by simp only[aY]<;>omega)
  have W:Inv X pins σ H {s with heap:=h'}:=I.kept (t':=s.toks) kp
  have U:Inv X pins σ (upd H h'.objs.size (.tup ys)) {s with heap:=h'.push {cls:=.type "tuple", data:=.seq its.toArray} }:=
   W.laid (t':=s.toks) (λb o e=>Heap.get?_push_of_some _ e) (aL _) (show gR X.prog X.w _ _ _ (.tup ys)from⟨Y,its,r',IsTup.new _ _⟩)
  exact⟨.ref h'.objs.size,_,U,rfl,q _ (W.hok.fresh (aL _))⟩
 ·obtain⟨its,r',pl,Y⟩:=I.tuple Z
  exact call_tuple_same pl ⟨.ref p,H,I,rfl,q⟩
noncomputable def tyV(K:PySem.W.Frag)(T:String)(x:V)(H:Hp):Prop:=match x with
 | .str _=>T="str"
 | .int _=>T="int"
 | .ref p=>(T="list" /\ ∃xs,SqL K H p xs)\/(T="tuple" /\ ∃o,K.lookup p=some o/\o.cls = .type "tuple"/\o.dict=none) \/
  (T="dict"/\((∃kvs,H p=some (.dK kvs))\/∃kvs,H p=some (.dT kvs)))\/(T="set" /\ ∃S n,H p=some (.set S n))
 |_=>False
theorem Wf{σ:St}{x:V}{v:Value}(I:Inv X pins σ H s)(r:RelV x v)(ty:tyV X.K T x H):
 s.TypeIs v T/\∀a,v = .ref a->∃B,s.heap.get? a=some B/\B.dict=none:=by
 cases x with
 |str z=>
  obtain⟨t,rfl⟩:=r
  cases(show T="str"from ty)
  exact⟨typeIs_str s z t,λ_ e=>nomatch e⟩
 |int i=>
  obtain⟨t,rfl⟩:=r
  cases(show T="int"from ty)
  exact⟨typeIs_int s i t,λ_ e=>nomatch e⟩
 |ref p=>
  cases r
  rcases ty with⟨rfl,xs,W⟩|⟨rfl,o,Z,U,hd⟩|⟨rfl,Z⟩|⟨rfl,S,n,Z⟩
  ·obtain⟨its,_,pl,_⟩:=I.list W
   refine⟨pl.isList.typeIs,λa e=>?_⟩
   cases e
   obtain⟨o,n,e,c,hd,_⟩:=pl
   exact⟨o,e,hd⟩
  ·refine⟨⟨o,I.kIn p o Z,U⟩,λa e=>?_⟩
   cases e
   exact⟨o,I.kIn _ o Z,hd⟩
  ·have z:∃o,s.heap.get? p=some o/\o.ExactDict:=by
    rcases Z with⟨kvs,Z⟩|⟨kvs,Z⟩
    ·obtain⟨_,_,_,_,o,_,_,e,ex,_⟩:=I.hok p _ Z
     exact⟨o,e,ex⟩
    ·obtain⟨_,_,_,_,o,_,_,e,ex,_⟩:=I.hok p _ Z
     exact⟨o,e,ex⟩
   obtain⟨o,e,ex⟩:=z
   refine⟨⟨o,e,ex.1⟩,λa Y=>?_⟩
   cases Y
   exact⟨o,e,ex.2.1⟩
  ·obtain⟨o,_,_,_,e,ex,_⟩:=I.hok p _ Z
   refine⟨⟨o,e,ex.1⟩,λa Y=>?_⟩
   cases Y
   exact⟨o,e,ex.2.1⟩
 |_=>exact False.elim ty
noncomputable def tBM(K:PySem.W.Frag)(T:String)(r:V->List V->Hp->VK->Prop)(to:TE)(t:TA):TE:=λσ H Q=>to σ H λx H1=>tyV K T x H1/\t σ H1 λxs H2=>r x xs H2 Q
variable{o e:Expr}{es:List Expr}{to:TE}{t:TA}{name:Str}{apos cpos:Pos}{T id:String}{r:V->List V->Hp->VK->Prop}
theorem YW(pa:PlainAttrs T)(slot:Slot T name id)(W:typeOf (.builtin id)=pure (.type "method_descriptor"))(hm:MtR X id r)(ho:PE X o to)(ha:PA X (e::es) t)
 (J:attributeBase o name X.env (eval o X.env)=eval o X.env:=by rfl)
 (O:((backTo cpos (starEach (e::es) X.env)).all (λx=>!x.1)&&(backToKw cpos (keywordEach [] X.env)).all (λx=>x.1.isSome)
  && decide ((e::es).length+([]:List Keyword).length+(if([]:List Keyword).isEmpty then 0 else 1)<30))=true:=by rfl)
 (D:(apos.endLine==cpos.line)=true:=by rfl) (hs:starEach (e::es) X.env=(false,eval e X.env)::starEach es X.env:=by rfl) (B:(backTo cpos (starEach es X.env)).any (·.1)=false:=by rfl) :
 PE X (.Call (.Attribute o name apos) (e::es) [] cpos) (tBM X.K T r to t):=by
 intro pins s σ H Q I h
 refine wpAny_Call_method_late J O D rfl (thn (ho pins s σ H _ I h) λv s1 ⟨x,H1,V,Z,ty,q1⟩=>?_)
 obtain⟨h1,h2⟩:=Wf V Z ty
 refine⟨T,id,pa,slot,W,h1,h2,?_⟩
 have Y:=ha cpos pins s1 σ H1 _ V q1
 rw[hs]at Y ⊢
 refine Calls.callWith_builtin (by show(false||(backTo cpos (starEach es X.env)).any (·.1))=false;rw[B]<;>rfl) (Calls.evalArgs_plain ?_)
 exact thn Y λus s2 ⟨vs,H2,S,U,q2⟩=>hm pins s2 σ H2 x vs v us Q S Z U q2
/- xs.append(e),list.index on a module's tuple .. are MtR facts of 06m -/
end
end L2
namespace L2
open PySem PySem.Spec PyProof.Rows
noncomputable def MtM(X:Cx)(id:String)(r:V->List V->Hp->VK->Prop):Prop:=
 ∀(pins:List (Addr×Obj))(s:Shared)(σ:St)(H:Hp)(x:V)(xs:List V)(v:Value)(us:List Value)(Q:VK),Inv X pins σ H s->RelV x v->Vals xs us->r x xs H Q ->
  wpAny (model X.prog X.w) X.A (call (.builtin id) (v::us)) (EP X pins σ Q) X.xe s
theorem Vals.one:∀{x:V}{us:List Value},Vals [x] us->∃u,us=[u]/\RelV x u
 |_,_,.cons r .nil=>⟨_,rfl,r⟩
theorem Vals.zero:∀{us:List Value},Vals [] us->us=[]
 |_,.nil=>rfl
theorem Vals.dropLast{xs:List V}(h:Vals xs us):Vals xs.dropLast us.dropLast:=by
 induction h with
 |nil=>exact .nil
 |cons r t Z=>
  cases t with
  |nil=>exact .nil
  |cons q t'=>exact .cons r Z
theorem Vals.eraseIdx:∀{xs:List V}{us:List Value}(i:Nat),Vals xs us->Vals (xs.eraseIdx i) (us.eraseIdx i)
 |_,_,_,.nil=>.nil
 |_,_,0,.cons _ t=>t
 |_,_,i+1,.cons r t=>.cons r (Vals.eraseIdx i t)
theorem Vals.reverse{xs:List V}(h:Vals xs us):Vals xs.reverse us.reverse:=by
 induction h with
 |nil=>exact .nil
 |cons r t Z=>rw[jy,jy];exact Vals.append Z (.cons r .nil)
theorem Vals.rep{xs:List V}(h:Vals xs us):∀k:Nat,Vals (aN k xs).flatten (aN k us).flatten
 |0=>.nil
 |k+1=>by
  rw[b_,b_,eU,eU]
  exact Vals.append h (Vals.rep h k)
theorem foldl_rep(its:List Value):∀(k:Nat)(acc:List Value),
 yc (λD B=>D++B) acc.toArray (aN k its.toArray)=(acc++(aN k its).flatten).toArray
 |0,acc=>by simp
 |k+1,acc=>by
  have e:acc.toArray++its.toArray=(acc++its).toArray:=by simp
  have Z:(acc++its)++(aN k its).flatten=acc++(aN (k+1) its).flatten:=by
   rw[b_,eU,aV]
  rw[<-Z,<-foldl_rep its k (acc++its),<-e,b_,gQ]
section
variable{X:Cx}{pins:List (Addr×Obj)}{σ:St}{H:Hp}{s:Shared}{l b:Addr}{xs ys zs:List V}
theorem Inv.lset{its':List Value}{f:Array Value->Array Value}(I:Inv X pins σ H s)(J:H l=some (.lst xs))
 (e:s.heap.get? l=some {cls:=.type "list", data:=.seq its.toArray n}) (D:f its.toArray=its'.toArray) (B:Vals ys its') (hz:ys.length<=sizeLine) :
 Inv X pins σ (upd H l (.lst ys)) {s with heap:=s.heap.update l (Obj.mapSeq f),toks:=t'}:=by
 have q:=PySem.IsL.update e f
 rw[D]at q
 refine I.write (x:=l) (e:=l) (by rw[J];exact trivial) (.inl rfl) (λW u Y Z=>(Heap.get?_update_other s.heap (Obj.mapSeq f) (Ne.symm Y)).trans Z) ⟨_,q⟩ ?_
 exact⟨hz,its',_,B,q⟩
theorem Inv.lnew(I:Inv X pins σ H s)(B:Vals ys its)(hz:ys.length<=sizeLine):
 Inv X pins σ (upd H s.heap.objs.size (.lst ys)) {s with heap:=s.heap.push {cls:=.type "list", data:=.seq its.toArray},toks:=t'}:=
 I.laid (λ_ _ q=>Heap.get?_push_of_some _ q) (aL _) ⟨hz,its,0,B,Heap.get?_push_size _ rfl⟩
theorem Inv.fresh(I:Inv X pins σ H s):H s.heap.objs.size=none:=I.hok.fresh (aL _)
theorem Inv.lstM(I:Inv X pins σ H s)(B:H l=some (.lst xs)):xs.length<=sizeLine/\∃(its:List Value)(n:Nat),Vals xs its/\xs.length=its.length/\s.heap.get? l=some {cls:=.type "list", data:=.seq its.toArray n}:=by
 obtain⟨z,its,n,r,e⟩:=I.hok l _ B
 exact⟨z,its,n,r,r.length,e⟩
theorem Mv(h:n<=sizeLine):Builtin.List.listTooLong n=false:=by
 unfold Builtin.List.listTooLong
 exact dFa (by omega)
end
section
variable{X:Cx}
noncomputable def Ry:V->List V->Hp->VK->Prop:=λx vs H Q=>∃l xs y,x = .ref l/\vs=[y]/\H l=some (.lst xs)/\xs.length<sizeLine/\Q .non (upd H l (.lst (xs++[y])))
theorem Ao:MtM X "list.append" Ry:=by
 intro pins s σ H x vs v us Q I Y W h
 obtain⟨l,xs,y,rfl,rfl,Z,U,q⟩:=h
 cases Y
 obtain⟨u,rfl,V⟩:=W.one
 obtain⟨z,its,n,r,T,e⟩:=I.lstM Z
 refine call_meets F.slot_list_append ⟨_,e,rfl⟩ F.entry_list_append (F.args_list_append_2 _ _) (PySem.list_append l its.toArray n u (by rw[aY];omega)) ⟨e,?_⟩
 refine⟨.non,_,I.lset (its':=its++[u]) Z e (by simp) (r.append (.cons V .nil)) ?_,rfl,q⟩
 rw[bG,rC]
 omega
noncomputable def ae1:R2:=λx y H Q=>∃l k xs,x = .ref l/\y = .int k/\H l=some (.lst xs)/\-(2^63)<=k/\k<2^63/\xs.length*k.toNat<=sizeLine /\
 ∀p,H p=none->Q (.ref p) (upd H p (.lst (aN k.toNat xs).flatten))
theorem len_rep{α:Type}(xs:List α)(k:Nat):(aN k xs).flatten.length=k*xs.length:=by
 induction k with
 |zero=>simp
 |succ k Z=>rw[b_,eU,bG,Z,Nat.succ_mul,Nat.add_comm]
theorem Wg:OpR X (binaryOp .Mult) ae1:=by
 intro pins s σ H x y v u Q I N O h
 obtain⟨l,k,xs,rfl,rfl,L,h1,h2,P,q⟩:=h
 cases N
 obtain⟨t,rfl⟩:=O
 obtain⟨z,its,n,r,M,e⟩:=I.lstM L
 have hlen:its.toArray.size*k.toNat<=sizeLine:=by rw[aY,<-M];exact P
 have V:¬its.toArray.size*k.toNat>(2^63-1)/8:=by
  have:(sizeLine:Nat)<=(2^63-1)/8:=by decide
  omega
 have W:¬(!Builtin.List.listFitsIndex k)=true:=by
  rw[fitsIndex_both h1 h2]
  exact aW
 have Z:¬Builtin.List.listTooLong (its.toArray.size*k.toNat)=true:=by
  rw[Mv hlen]
  exact aW
 have Y:yc (λR S=>R++S) #[] (aN (if its.toArray.isEmpty=true then 0 else k.toNat) its.toArray)=(aN k.toNat its).flatten.toArray:=by
  have K:∀m:Nat,yc (λR S=>R++S) #[] (aN m its.toArray)=(aN m its).flatten.toArray:=λm=>by
   have:=foldl_rep its m []
   rw[dM]at this
   exact this
  rw[K]
  cases its with
  |nil=>simp
  |cons a r'=>rw[if_neg (by simp)]
 refine wpAny_binaryOp_repeat_ref (T := "list") (U := "int") (by decide) ⟨_,e,rfl⟩ (λs'=>typeIs_int s' k t) noFill_list_mul F.fills_int_mul F.slot_int_rmul repeat_list F.slot_int_index.lookup
  (call_meets F.slot_int_rmul (typeIs_int s k t) F.entry_int_rmul (F.args_int_rmul_2 _ _) (int___rmul___int_list k t l its.toArray n)
   ⟨e,rfl,⟨_,e,rfl⟩,call_meets F.slot_list_mul ⟨_,e,rfl⟩ F.entry_list_mul (F.args_list_mul_2 _ _) (AutoListH.list___mul___list_int_3 l its.toArray n k t W V Z) ⟨e,?_⟩⟩)
 rw[Y]
 exact⟨.ref _,_,I.lnew (t':=s.toks) (r.rep k.toNat) (by rw[len_rep,Nat.mul_comm];exact P),rfl,q _ I.fresh⟩
end
section
variable{prog:Program}{w:World}{A:Around}{E:Value->Shared->Prop}{s:Shared}
set_option maxRecDepth 100000 in
end
section
variable{X:Cx}
end
end L2
variable{XP:(Str->Option Value)->Heap->Prop}{YP:World->Heap->Prop}{m:Str->Option Value}
namespace Att
open PySem PySem.W PySem.Calls PyProof.Rows
theorem wU{P:Params}:∀(ns:List Int)(vs:List Value),WellAll P h vs (ns.map WData.int)->IntsAre vs ns:=by
 intro ns
 induction ns with
 |nil=>
  intro vs w
  rw[iG]at w
  cases w
  exact .nil
 |cons n ns Z=>
  intro vs w
  rw[aQ]at w
  cases w with
  |cons a b=>
   cases a
   exact .cons _ _ (Z _ b)
theorem Km{l:OpenLaw}(hn:l.most=some n){P:Params}{h:Heap}{args:List WData}{vals:List Value}
 (B:l.row.toRowW.claim.pre args=true) (D:WellAll P h vals args) :
 ∃a vs ns,vals=[Value.ref a]/\args=[WData.list (ns.map WData.int)]/\h.get? a=some {cls:=.type "list", data:=.seq vs.toArray}/\IntsAre vs ns/\ns.length<=n:=by
 have W:WShape.hasAll [] args [.list .int]=true:=(pre_splitW B).1
 have V:l.pre.holds [] {args:=args}=true:=(pre_splitW B).2
 obtain⟨d,r,rfl,h1,h2⟩:=hasAllW_cons W
 obtain rfl:=hasAllW_nil h2
 obtain⟨xs,rfl,Q⟩:=hasW_list h1
 obtain⟨ns,rfl⟩:=items_int Q
 have hlen:ns.length<=n:=by
  unfold OpenLaw.pre at V
  have X:(WTm.not (.lt (.lit (.int (n:Int))) (.len (.arg 0)))).holds [] {args:=[.list (ns.map .int)]}=true:=by
   have X:=(holds_andW V).1
   rw[hn]at X
   exact X
  have Y:=condW_of X (w_not (w_lt w_lit (w_len_list (w_arg rfl))))
  rw[au]at Y
  refine Nat.le_of_not_lt λq=>?_
  have S:(n:Int)<((ns.length:Nat):Int):=by omega
  first
   | (rw[dTr S]at Y;exact absurd Y (by decide))
   | (simp at Y;omega)
 cases D with
 |cons T U=>
  cases U
  cases T with
  |list R Z=>exact⟨_,_,ns,rfl,rfl,R,wU ns _ Z,hlen⟩
theorem Ko(l:OpenLaw)(args:List WData):l.row.toRowW.claim.post args (.bool true) args=true:=
 postW_of (r:=l.row.toRowW) (X:=(true==true))
  (show WShape.has [] (.bool true) .bool=true by first|rfl|decide|simp[WShape.has,WShape.arms,WShape.armsAll])
  (show(WTm.eq .res (.lit (.bool true))).value [] {args:=args,res:=some (.bool true),after:=args}=some (.bool (true==true))from w_eq_bool (w_res rfl) w_lit) rfl
theorem Es{l:OpenLaw}{q:Program}{loose:List Str}{d:DefRec}
 (hn:l.most=some n) (J:d.params.defaults=[])
 (call:∀(w:World)(s₀ B:Shared)(mg D:Str->Option Value)(fa:Addr)(o:Obj)(pm cd doc:Value)(a:Addr)(vs:List Value)(ns:List Int),
  Ground q loose [] XP w s₀ mg D B.heap->YP w B.heap ->
  B.heap.get? fa=some o->o.data = .func (docDef d.name d.params d.body d.scope pm cd doc)->B.heap.CodeRec cd d.name->mg d.name=some (.ref fa) ->
  B.heap.get? a=some {cls:=.type "list", data:=.seq vs.toArray}->IntsAre vs ns->ns.length<=n->B.gens = #[] ->
  codeAny (model l.prog w) callerA (.call (.ref fa) ⟨[.ref a],[]⟩) (λr s'=>r = .ok (.ret (.bool true))/\OldK B.heap s'.heap/\s'.os=B.os/\AllBare s'.gens) B) :
 WalkO q loose XP YP l.row.toRowW d [] (λf vs=>PySem.call f vs):=by
 intro w s₀ B mg D G Y fa o pm cd doc dV kV P hd U S V N args vals as Z T R W O
 obtain rfl:dV = .none:=Dflts.none S J
 obtain rfl:kV = .none:=Dflts.noKw S
 obtain⟨a,vs,ns,rfl,rfl,X,hints,hlen⟩:=Km hn Z W
 refine enter_call (codeAny_mono (call w s₀ B mg D fa o pm cd doc a vs ns G Y P (fd_plain hd) U V X hints hlen N) λr s' Q=>?_)
 obtain⟨rfl,h2,L,M⟩:=Q
 exact⟨.inl ⟨.bool true,.bool true,[],rfl,λ_=>rfl,.bool true,Ko l _,λ_=>⟨List.Pairwise.nil,λ_ hm=>(nomatch hm)⟩⟩,h2,L,M⟩
section
variable{prog:Program}{w:World}{A:Around}{E:Value->Shared->Prop}{s:Shared}{K:Frag}
noncomputable def lM(h:Heap):Heap:={h with objs:=#[]}
theorem qj(h:Heap)(b:Addr):(lM h).get? b=none:=by
 cases e:(lM h).get? b with
 |none=>rfl
 |some o=>exact absurd (Heap.lt_size e) (Nat.not_lt_zero _)
theorem Mw{L:Addr}(n:h.Ns L m):Fr (lM h) L h m:=
 ⟨n,λb o e=>(by rw[qj]at e;cases e),cZ _⟩
end
end Att
variable{CX:L2.CXT}{sp:L2.Sp}{ns:List Int}
namespace L2
open PySem PySem.Spec PyProof.Rows
theorem nZ:∀{vs:List Value}{ns:List Int},IntsAre vs ns->Vals (ns.map V.int) vs
 |_,_,.nil=>.nil
 |_,_,.cons n t h=>.cons ⟨t,rfl⟩ (nZ h)
noncomputable def Only(H:Hp):Prop:=∀b,H b=none\/∃o xs,H b=some (.frz o (.lst xs))
noncomputable def yr(ts:List (Addr×Str×Pos))(H:Hp):Hp:=λb=>match ts.find? (λt=>t.1==b)with
 |some t=>some (.tbl t.2.1 t.2.2)
 |none=>H b
theorem Mx(ts:List (Addr×Str×Pos))(H:Hp)(b:Addr):(yr ts H b=H b/\∀t∈ts,t.1≠b)\/∃t∈ts,t.1=b/\yr ts H b=some (.tbl t.2.1 t.2.2):=by
 unfold yr
 cases e:ts.find? (λt=>t.1==b)with
 |none=>exact .inl ⟨rfl,λt Z z=>by have:=jf.mp e t Z;simp[z]at this⟩
 |some t=>
  have h1:=iD e
  have h2:=q_ e
  exact .inr ⟨t,h1,by simpa using h2,rfl⟩
theorem Mz{mb:Str->Option Value}{k:Nat}{fa:Addr}{B:Shared}{vs:List Value}
 (KX:K.In B.heap) (hns:B.heap.Ns mainGlobals mg) (D:B.heap.Ns builtinsNs mb) (hbb:∀x:Str,x≠"__name__"->mb x=bootBuiltins x) (hlim:B.heap.NoLimit) (hbm:∃bm O,mg "__builtins__"=some (.ref bm)/\bm≠builtinsNs/\B.heap.get? bm=some O/\O.cls = .type "module"/\O.dict=some builtinsNs/\O.data = .plain) (hg:B.gens = #[])
 (ha:B.heap.get? a=some {cls:=.type "list", data:=.seq vs.toArray}) (hi:IntsAre vs ns) (hl:ns.length<=sizeLine) (hr:Room k callerA)
 (F:∀base:Heap,K.In base->base.Ns mainGlobals mg->FnOk P w K mg base CX k fa fd [x] sp) (hbind:∀(s:Shared)(u:Value),BindsTo s fd ⟨[u],[]⟩ [(x,u)])
 (ts:List (Addr×Str×Pos)) (J:∀t∈ts,B.heap.get? t.1=some {cls:=.none,data:=.fields #[]}) (hCT:∀t∈ts,isCodeTable B.heap t.1) (hKt:∀t∈ts,K.lookup t.1=none) (htu:∀t∈ts,∀t'∈ts,t.1=t'.1->t=t')
 (hsp:∀H:Hp,(∀t∈ts,H t.1=some (.tbl t.2.1 t.2.2))->SqL K H a (ns.map V.int)->sp [.ref a] H (λv _=>v = .bl true) λ_ _ _=>False)
 (hCX:∀H e s',CX [] H B (λ_ _ _=>False) e s'->False) :
 codeAny (model P w) callerA (.call (.ref fa) ⟨[.ref a],[]⟩) (λr s'=>r = .ok (.ret (.bool true))/\OldK B.heap s'.heap/\s'.os=B.os/\AllBare s'.gens) B:=by
 have rv:=nZ hi
 have N:=hi.length
 have core:∀H:Hp,(∀b,H b=none\/(∃o xs,H b=some (.frz o (.lst xs)))\/∃t∈ts,t.1=b/\H b=some (.tbl t.2.1 t.2.2))->(∀t∈ts,H t.1=some (.tbl t.2.1 t.2.2))->SqL K H a (ns.map V.int)->HOk P w H B.heap->(∀b,H b≠none->b=a\/∃t∈ts,t.1=b)->(H a≠none->K.lookup a=none) ->
  codeAny (model P w) callerA (.call (.ref fa) ⟨[.ref a],[]⟩) (λr s'=>r = .ok (.ret (.bool true))/\OldK B.heap s'.heap/\s'.os=B.os/\AllBare s'.gens) B:=by
  intro H M hT j hok I i
  have Z:∀{b:Addr}{o:Obj},B.heap.get? b=some o->H b=none->(BJ B.heap H).get? b=some o:=λe n=>LC e n
  have C:∀{b:Addr}{o:Obj}{es:Array DictEntry}{ep:Nat},B.heap.get? b=some o->o.data = .dict es ep->H b=none:=λ{b o es ep} e d=>by
   cases q:H b with
   |none=>rfl
   |some u=>
    rcases I b (by rw[q];simp)with X|⟨t,Y,X⟩
    case inr=>
     subst X
     rw[J t Y]at e;cases e
     have d':Data.fields #[]=Data.dict es ep:=d
     cases d'
    subst X
    rw[ha]at e;cases e
    have d':Data.seq vs.toArray _=Data.dict es ep:=d
    cases d'
  have U:∀{b:Addr}{m:Str->Option Value},B.heap.Ns b m->(BJ B.heap H).Ns b m:=λ{b m} ⟨o,es,ep,e,d,r⟩=>⟨o,es,ep,Z e (C e d),d,r⟩
  have L:K.In (BJ B.heap H):=λb o e=>Z (KX b o e) (by
   cases q:H b with
   |none=>rfl
   |some u=>
    rcases I b (by rw[q];simp)with X|⟨t,Y,X⟩
    ·subst X
     rw[i (by rw[q];simp)]at e;cases e
    ·subst X
     rw[hKt t Y]at e;cases e)
  have hM:Mod K mg (BJ B.heap H):=⟨L,U hns,⟨mb,U D,hbb⟩,let⟨mc,h1,h2⟩:=hlim;⟨mc,U h1,h2⟩,let⟨bm,O,g1,g2,G,g,g5,g6⟩:=hbm;⟨bm,O,g1,g2,Z G (by
   cases q:H bm with
   |none=>rfl
   |some u=>
    rcases I bm (by rw[q];simp)with X|⟨t,Y,X⟩
    ·rw[X,ha]at G;cases G
     have z:Value.type "list"=Value.type "module" := g
     injection z with z
     exact absurd z (by decide)
    ·rw[<-X,J t Y]at G;cases G
     cases g),g,g5,g6⟩⟩
  have e0:Env0 P w K mg (BJ B.heap H) callerA [] B H:=⟨rfl,hM,λb o e=>Q_ e,Nat.le_of_eq (J9 _ _),trivial,λb D=>absurd (show b∈([]:List Addr)from D) (by simp),hok,.of_eq hg⟩
  refine codeAny_mono ((F _ L (U hns)).run callerA [] B H ⟨[.ref a],[]⟩ [.ref a] [.ref a] _ _ hr e0 (hbind B (.ref a)) (.cons rfl .nil) (hsp H hT j)) λr s' h=>?_
  cases r with
  |error e=>exact(hCX H e s' h).elim
  |ok fl=>
   cases fl with
   |next=>exact False.elim h
   |brk=>exact False.elim h
   |cont=>exact False.elim h
   |ret u=>
    obtain⟨v,H',os,bare,un,T,r',q⟩:=h
    have q':v = .bl true:=q
    subst q'
    obtain rfl:u=Value.bool true:=r'
    refine⟨rfl,⟨λb o e=>?_,λb o e=>un.there b o e (by simp)⟩,os,bare⟩
    cases q:H b with
    |none=>exact .inl <| un.keep b o e q (by intro z;exact absurd (show b∈([]:List Addr)from z) (by simp)) (by simp)
    |some u=>
     rcases M b with z|⟨O,xs,z⟩|⟨t,Y,rfl,z⟩
     case inr.inr=>
      have z2:=un.tbls _ _ _ z
      obtain⟨ps,f,_⟩:=T _ _ z2
      rw[J t Y]at e;cases e
      exact .inr (.inl ⟨hCT t Y,rfl,#[],ps,rfl,by rw[f];simp⟩)
     ·rw[q]at z;cases z
     ·have z2:=un.frzs b O _ z
      obtain⟨e1,_⟩:=hok b _ z
      obtain⟨f,_⟩:=T b _ z2
      rw[e]at e1;cases e1
      exact .inl f
 have W:∀H:Hp,Only H->SqL K H a (ns.map V.int)->HOk P w H B.heap->(∀b,H b≠none->b=a)->(H a≠none->K.lookup a=none) ->
  codeAny (model P w) callerA (.call (.ref fa) ⟨[.ref a],[]⟩) (λr s'=>r = .ok (.ret (.bool true))/\OldK B.heap s'.heap/\s'.os=B.os/\AllBare s'.gens) B:=by
  intro H M j hok I i
  have na:∀t∈ts,t.1≠a:=λt Y z=>by
   have z2:=J t Y
   rw[z,ha]at z2
   cases z2
  have E:∀b,(yr ts H b=H b/\∀t∈ts,t.1≠b)\/∃t∈ts,t.1=b/\yr ts H b=some (.tbl t.2.1 t.2.2):=Mx ts H
  have A:yr ts H a=H a:=by
   rcases E a with z|⟨t,Y,z,_⟩
   ·exact z.1
   ·exact absurd z (na t Y)
  have R:∀b x,H b≠some (.own x):=λb x z=>by rcases M b with y|⟨_,_,y⟩<;>(rw[y]at z;cases z)
  have S:∀b x,H b≠some (.tup x):=λb x z=>by rcases M b with y|⟨_,_,y⟩<;>(rw[y]at z;cases z)
  refine core (yr ts H) (λb=>?_) (λt Y=>?_) ?_ (λb u z=>?_) (λb z=>?_) (λz=>i (by rw[<-A];exact z))
  ·rcases E b with z|⟨t,Y,z1,z2⟩
   ·rcases M b with y|y
    ·exact .inl (z.1.trans y)
    ·obtain⟨o,xs,y⟩:=y
     exact .inr (.inl ⟨o,xs,z.1.trans y⟩)
   ·exact .inr (.inr ⟨t,Y,z1,z2⟩)
  ·rcases E t.1 with z|⟨t',p,z1,z2⟩
   ·exact absurd rfl (z.2 t Y)
   ·have:=htu t' p t Y z1
    subst this
    exact z2
  ·rcases j with(z|⟨o,z⟩)|z
   ·exact .inl (.inl (by rw[A];exact z))
   ·exact .inl (.inr ⟨o,by rw[A];exact z⟩)
   ·exact .inr z
  ·rcases E b with y|⟨t,Y,z1,z2⟩
   ·rw[y.1]at z
    exact(hok b u z).stay (λ_ _ _ q=>q) (λc q=>absurd q (R c b)) λc xs q=>absurd q (S c xs)
   ·rw[z2]at z
    cases z
    subst z1
    exact⟨#[],J t Y,.inl rfl⟩
  ·rcases E b with y|⟨t,Y,z1,z2⟩
   ·exact .inl (I b (by rw[<-y.1];exact z))
   ·exact .inr ⟨t,Y,z1⟩
 cases l:K.lookup a with
 |some o=>
  have e:=KX a o l
  rw[ha]at e
  cases e
  refine W (λ_=>none) (λ_=>.inl rfl) (.inr ⟨_,vs.toArray,_,l,rfl,rfl,rfl,by rw[aY,N];exact hl,by simpa using rv⟩) (λb u z=>by have Q:(none:Option HO)=some u:=z;cases Q) (λb z=>absurd rfl z) λz=>absurd rfl z
 |none=>
  refine W (λb=>if b=a then some (.frz {cls:=.type "list", data:=.seq vs.toArray} (.lst (ns.map V.int)))else none) (λb=>?_) (.inl (.inr ⟨{cls:=.type "list", data:=.seq vs.toArray},if_pos rfl⟩)) (λb u z=>?_) (λb z=>?_) λ_=>l
  ·by_cases D:b=a
   ·exact .inr ⟨_,_,if_pos D⟩
   ·exact .inl (if_neg D)
  ·by_cases D:b=a
   ·have Q:=(if_pos D).symm.trans z
    cases Q
    subst D
    exact⟨ha,by rw[au];exact hl,vs,_,rv,ha⟩
   ·have Q:=(if_neg D).symm.trans z
    cases Q
  ·by_cases D:b=a
   ·exact D
   ·exact absurd (if_neg D) z
end L2
namespace L2
open PySem PySem.Spec PyProof.Rows
noncomputable abbrev KOf(_:K.In h):PySem.W.Frag:=K
theorem Rz{l:PySem.W.OpenLaw}{k:Nat}{q:Program}{loose:List Str}{d:DefRec}{K:Params->PySem.W.Frag}{CX:World->CXT}{sp:World->Sp}
 (hn:l.most=some n) (O:n<=sizeLine) (hdf:d.params.defaults=[]) (hr:Room k callerA)
 (hY:∀(w:World)(h:Heap),YP w h->(K w.params).In h)
 (F:∀(w:World)(mg:Str->Option Value)(fa:Addr)(h:Heap),(K w.params).In h->h.Ns mainGlobals mg->mg d.name=some (.ref fa) ->
  ∃fd:FuncData,(∀(s:Shared)(u:Value),BindsTo s fd ⟨[u],[]⟩ [(x,u)]) /\
   ∀base:Heap,(K w.params).In base->base.Ns mainGlobals mg->FnOk l.prog w (K w.params) mg base (CX w) k fa fd [x] (sp w))
 (ts:List (Addr×Str×Pos)) (B:∀(w:World)(h:Heap),YP w h->(∀t∈ts,h.get? t.1=some {cls:=.none,data:=.fields #[]})/\(∀t∈ts,isCodeTable h t.1)/\∀t∈ts,(K w.params).lookup t.1=none) (D:∀t∈ts,∀t'∈ts,t.1=t'.1->t=t')
 (J:∀(w:World)(H:Hp)(a:Addr)(ns:List Int),ns.length<=n->(∀t∈ts,H t.1=some (.tbl t.2.1 t.2.2))->SqL (K w.params) H a (ns.map V.int)->sp w [.ref a] H (λv _=>v = .bl true) λ_ _ _=>False)
 (hCX:∀(w:World)(H:Hp)(s:Shared)(e:Value)(s':Shared),CX w [] H s (λ_ _ _=>False) e s'->False) :
 PySem.W.WalkO q loose XP YP l.row.toRowW d [] (λf vs=>PySem.call f vs):=by
 refine Att.Es hn hdf λw s₀ Z mg I fa o pm cd doc a vs ns G Y E hd Q U X hints hlen R=>?_
 have S:=hY w _ Y
 obtain⟨fd,P,L⟩:=F w mg fa _ S G.T.g U
 exact Mz S G.T.g G.T.b G.T.builtins G.T.nolimit G.T.bmain R X hints (bF hlen O) hr L P ts (B w _ Y).1 (B w _ Y).2.1 (B w _ Y).2.2 D (λH M N=>J w H a ns hlen M N) λH e s'=>hCX w H Z e s'
theorem MF{l:PySem.W.OpenLaw}{k:Nat}{q:Program}{loose:List Str}{d:DefRec}{K:Params->PySem.W.Frag}{sp:PySem.W.Frag->Sp}
 (hn:l.most=some n) (O:n<=sizeLine) (Y:d.params.defaults=[]) (hr:Room k callerA)
 (hY:∀(w:World)(h:Heap),YP w h->(K w.params).In h)
 (F:∀(w:World)(mg:Str->Option Value)(fa:Addr)(h:Heap),(K w.params).In h->h.Ns mainGlobals mg->mg d.name=some (.ref fa) ->
  ∃fd:FuncData,(∀(s:Shared)(u:Value),BindsTo s fd ⟨[u],[]⟩ [(x,u)]) /\
   ∀base:Heap,(K w.params).In base->base.Ns mainGlobals mg->FnOk l.prog w (K w.params) mg base CX k fa fd [x] (sp (K w.params)))
 (ts:List (Addr×Str×Pos)) (D:∀(w:World)(h:Heap),YP w h->(∀t∈ts,h.get? t.1=some {cls:=.none,data:=.fields #[]})/\(∀t∈ts,isCodeTable h t.1)/\∀t∈ts,(K w.params).lookup t.1=none) (B:∀t∈ts,∀t'∈ts,t.1=t'.1->t=t')
 (J:∀(K:PySem.W.Frag)(H:Hp)(a:Addr)(ns:List Int),ns.length<=n->(∀t∈ts,H t.1=some (.tbl t.2.1 t.2.2))->SqL K H a (ns.map V.int)->sp K [.ref a] H (λv _=>v = .bl true) λ_ _ _=>False)
 (Z:∀(H:Hp)(s:Shared)(e:Value)(s':Shared),CX [] H s (λ_ _ _=>False) e s'->False) :
 PySem.W.WalkO q loose XP YP l.row.toRowW d [] (λf vs=>PySem.call f vs):=
 Rz (K:=K) (CX:=λ_=>CX) (sp:=λw=>sp (K w.params)) hn O Y hr hY F ts D B (λw H a ns h1 h2 X=>J (K w.params) H a ns h1 h2 X) λ_ H s e s'=>Z H s e s'
end L2
/- THE LAST THEOREM (shape;LID,My.* are yours):
   My.Adr: a structure of the addresses that your layer names (classes,functions);My.Txt K t: a structure (Prop) of the equations over K;
   My.txt_mk:{K} {implicit addresses ..} (e1:nsIn K mainGlobals "law"=some (some (.ref f))) (e2:K.lookup f=some ⟨oc,od,.func (fnOf "law" "law" params body scope dV kV doc pm an cdv ct),sl⟩) (e3:codeIn K cdv "law"=true) .. : ∃t,My.Txt K t
set_option maxRecDepth 100000 in
set_option maxHeartbeats 0 in
(the tactic k_is has no namespace: write k_is) -/
variable{H1:L2.Hp}
namespace L2
open PySem PySem.Spec PyProof.Rows
noncomputable def oV(s:Stmt):Arguments:=match s with
 | .FunctionDef _ a _ _ _ _ _ _ _ _=>a
 |_=>{posonlyargs:=[],args:=[],vararg:=none,kwonlyargs:=[],kw_defaults:=[],kwarg:=none,defaults:=[]}
noncomputable def jk(s:Stmt):List Stmt:=match s with
 | .FunctionDef _ _ b _ _ _ _ _ _ _=>b
 |_=>[]
noncomputable def bM(s:Stmt):Scope:=match s with
 | .FunctionDef _ _ _ _ _ _ sc _ _ _=>sc
 |_=>{kind:=.function,names:=[],isGenerator:=false,isCoroutine:=false}
noncomputable abbrev CX0:CXT:=λ_ _ _ _ _ _=>False
noncomputable abbrev E0:XK:=λ_ _ _=>False
theorem YX:Passes CX0 X E0:=λ_ _ _ _ _ _ _ h=>h.elim
structure Fun(K:PySem.W.Frag)(x qual:Str)(st:Stmt)(f:Addr)(fd:FuncData):Prop where
 ex:∃(oc:Value)(od:Option Addr)(kV doc pm:Value)(an:Option Addr)(cdv ct:Value)(osl:Array (Option Value)),
  fd=PySem.W.fnOf x qual (oV st) (jk st) (bM st) .none kV doc pm an cdv ct/\K.lookup f=some ⟨oc,od,.func fd,osl⟩/\PySem.W.codeIn K cdv qual=true
 kp:PySem.W.keepIn K (.ref f)=true
section
variable{P:Program}{w:World}{K:PySem.W.Frag}{mg:Str->Option Value}{base:Heap}
end
section
variable{X:Cx}
end
theorem zV{A B:Prop}(h:B):if false=true then A else B:=by
 rw[if_neg aW]
 exact h
theorem zW{A B:Prop}(h:A):if true=true then A else B:=by
 rw[if_pos rfl]
 exact h
noncomputable def Same(H H':Hp):Prop:=∀b o,H b=some o->H' b=some o
theorem Same.refl(H:Hp):Same H H:=λ_ _ h=>h
theorem Same.trans{H2:Hp}(a:Same H H1)(b:Same H1 H2):Same H H2:=λc o h=>b c o (a c o h)
theorem Same.free(e:Same H H'){l:Addr}(h:H' l=Option.none):H l=Option.none:=by
 cases q:H l with
 |none=>rfl
 |some o=>
  rw[e l o q]at h
  cases h
theorem Same.seq{xs:List V}(e:Same H H')(h:SqL K H a xs):SqL K H' a xs:=by
 rcases h with(h|⟨o,h⟩)|h
 ·exact .inl (.inl (e _ _ h))
 ·exact .inl (.inr ⟨o,e _ _ h⟩)
 ·exact .inr h
end L2
namespace My
open PySem PySem.Spec PyProof.Rows L2
noncomputable abbrev St:=L2.St
theorem cX{p:Addr}(h:H p=none)(o:HO):Same H (upd H p o):=λb u q=>by rw[cG (jE q h)];exact q
structure Df(K:PySem.W.Frag)(mg:Str->Option Value)(x:Str)(st:Stmt)(ps:List Str):Prop where
 ex:∃(f:Addr)(fd:FuncData),Fun K x x st f fd/\Binds K fd ps []/\mg x=some (.ref f)
structure Has(P:Program)(w:World)(K:PySem.W.Frag)(mg:Str->Option Value)(base:Heap)(n:Nat)(x:Str)(ps:List Str)(sp:Sp):Prop where
 ex:∃(f:Addr)(fd:FuncData),FnOk P w K mg base CX0 n f fd ps sp/\Binds K fd ps []/\PySem.W.keepIn K (.ref f)=true/\mg x=some (.ref f)
section
variable{P:Program}{w:World}{K:PySem.W.Frag}{mg:Str->Option Value}{base:Heap}{x:Str}{ps N:List Str}{sp:Sp}{st:Stmt}{k n:Nat}
theorem Has.mono(h:Has P w K mg base k x ps sp)(l:k<=n):Has P w K mg base n x ps sp:=by
 obtain⟨f,fd,F,b,kp,m⟩:=h.ex
 exact⟨f,fd,F.mono l,b,kp,m⟩
end
section
variable{X:Cx}{x:Str}{ps:List Str}{sp:Sp}{n:Nat}{p pos:Pos}{e:Expr}{es:List Expr}{t:TA}
theorem Et(h:Has X.prog X.w X.K X.mg X.base n x ps sp)(J:Room n X.A)(ha:PA X (e::es) t)(O:Gl X x:=by rfl)(D:(x==("__debug__":Str))=false:=by decide)
 (W:starEach (e::es) X.env=(false,eval e X.env)::starEach es X.env:=by rfl) (B:(backTo pos (starEach es X.env)).any (·.1)=false:=by rfl) :
 PE X (.Call (.Name x p) (e::es) [] pos) (U4 sp [] E0 t):=by
 obtain⟨f,fd,F,b,kp,m⟩:=h.ex
 exact Rr F J O m kp b .nil YX ha D W B
end
mutual
inductive RdV(K:PySem.W.Frag)(H:Hp):V->PyData->Prop
 |non:RdV K H .non .none
 |bl (b:Bool):RdV K H (.bl b) (.bool b)
 |int (i:Int):RdV K H (.int i) (.int i)
 |str (x:Str):RdV K H (.str x) (.str x)
 |lst {a:Addr} {xs:List V} {ds:List PyData}:SqL K H a xs->RdVs K H xs ds->RdV K H (.ref a) (.list ds)
 |tup {a:Addr} {xs:List V} {ds:List PyData}:SqT K H a xs->RdVs K H xs ds->RdV K H (.ref a) (.tuple ds)
inductive RdVs(K:PySem.W.Frag)(H:Hp):List V->List PyData->Prop
 |nil:RdVs K H [] []
 |cons {v:V} {d:PyData} {vs:List V} {ds:List PyData}:RdV K H v d->RdVs K H vs ds->RdVs K H (v::vs) (d::ds)
end
section
variable{X:Cx}{pins:List (Addr×Obj)}{σ:St}{H:Hp}{s:Shared}
mutual
theorem RdV.reads(I:Inv X pins σ H s):∀{v:V}{d:PyData},RdV X.K H v d->∀{u:Value},RelV v u->∃as,Reads s.heap u d as
 |_,_,.non,_,r=>by cases r;exact⟨_,.none⟩
 |_,_,.bl b,_,r=>by cases r;exact⟨_,.bool b⟩
 |_,_,.int i,_,r=>by obtain⟨t,rfl⟩:=r;exact⟨_,.int i t⟩
 |_,_,.str x,_,r=>by obtain⟨t,rfl⟩:=r;exact⟨_,.str x t⟩
 |_,_,.lst h q,_,r=>by
  cases r
  obtain⟨its,rv,⟨o,n,e,c,_,d⟩,_⟩:=I.list h
  obtain⟨as,z⟩:=RdVs.reads I q rv
  exact⟨_,.list e c d (by simpa using z)⟩
 |_,_,.tup h q,_,r=>by
  cases r
  obtain⟨its,rv,⟨o,e,c,n,d⟩,_⟩:=I.tuple h
  obtain⟨as,z⟩:=RdVs.reads I q rv
  exact⟨_,.tuple e c d (by simpa using z)⟩
theorem RdVs.reads(I:Inv X pins σ H s):∀{vs:List V}{ds:List PyData},RdVs X.K H vs ds->∀{us:List Value},Vals vs us->∃as,ReadsAll s.heap us ds as
 |_,_,.nil,_,r=>by cases r;exact⟨_,.nil⟩
 |_,_,.cons h q,_,r=>by
  cases r with
  |cons r1 r2=>
   obtain⟨as,z⟩:=RdV.reads I h r1
   obtain⟨bs,y⟩:=RdVs.reads I q r2
   exact⟨_,.cons z y⟩
end
end
section
variable{X:Cx}
noncomputable def YZ(K:PySem.W.Frag):R2:=λx y H Q=>∃Y Z,RdV K H x Y/\RdV K H y Z/\SeqAt.shaped Y=true/\SeqAt.shaped Z=true/\Q (.bl (PyData.eqv Y Z)) H
noncomputable def Y0(K:PySem.W.Frag):R2:=λx y H Q=>∃Y Z,RdV K H x Y/\RdV K H y Z/\SeqAt.shaped Y=true/\SeqAt.shaped Z=true/\Q (.bl (!PyData.eqv Y Z)) H
theorem qm(B:X.A.units+64<cLine):OpR X (compareOp .Eq) (YZ X.K):=by
 intro pins s σ H x y v u Q I U V h
 obtain⟨R,S,ha,T,sa,W,q⟩:=h
 obtain⟨as,Y⟩:=ha.reads I U
 obtain⟨bs,Z⟩:=T.reads I V
 exact SeqAt.compareEq_shaped Y Z sa W B ⟨.bl _,H,I,rfl,q⟩
theorem qt(B:X.A.units+64<cLine):OpR X (compareOp .NotEq) (Y0 X.K):=by
 intro pins s σ H x y v u Q I U V h
 obtain⟨R,S,ha,T,sa,W,q⟩:=h
 obtain⟨as,Y⟩:=ha.reads I U
 obtain⟨bs,Z⟩:=T.reads I V
 exact SeqAt.compareNe_shaped Y Z sa W B ⟨.bl _,H,I,rfl,q⟩
end
noncomputable def isT(c T:String):Bool:=T==c||(T=="bool"&&c=="int")
section
variable{K:PySem.W.Frag}
theorem Wh(h:c="int"\/c="bool"\/c="tuple"\/c="list"\/c="str")(g:T="NoneType"\/T="bool"\/T="int"\/T="str"\/T="list"\/T="tuple"\/T="dict"):
 PySem.W.kitOne K (.type T) (.type c)=some (isT c T):=by
 rcases h with rfl|rfl|rfl|rfl|rfl<;>rcases g with rfl|rfl|rfl|rfl|rfl|rfl|rfl<;>kernel_rfl
end
section
variable{X:Cx}
end
theorem big{σ:St}(I:Inv X pins σ H s):sysModules<s.heap.objs.size:=by
 have h:mainGlobals<s.heap.objs.size:=(I.mod.glob.keeps I.bk).lt
 exact nQ (by decide) h
theorem MK(h:Heap)(B:sysModules<h.objs.size):gR P w H (h.push {cls:=.type "dict", data:=.dict #[]}) h.objs.size (.dK []):=
 ⟨cZ _,beq_eq_false_iff_ne.mpr (Ne.symm (bh B)),[],.nil,Heap.DictOf.new h⟩
noncomputable def Wj:TE:=λ_ H Q=>∀p,H p=none->Q (.ref p) (upd H p (.dK []))
theorem MN:PE X (.Dict [] [] pos) Wj:=λpins s σ H Q I h=>
 wpAny_Dict_empty ⟨.ref s.heap.objs.size,_,I.laid (a:=s.heap.objs.size) (o:=.dK []) (t':=s.toks) (λ_ _ q=>Heap.get?_push_of_some _ q) (aL _) (MK s.heap (big I)),rfl,h _ (I.hok.fresh (aL _))⟩
end My
namespace My
open PySem PySem.Spec PyProof.Rows L2
section
variable{X:Cx}{a b c d:Expr}{ta tb tc td:TE}{pos:Pos}
noncomputable def RB(r r' B:R2)(ta tb tc td:TE):TE:=λσ H Q=>ta σ H λx H1=>tb σ H1 λy H2=>r x y H2 λz W=>∃k,z = .bl k /\
 (if k=true then tc σ W λZ S=>r' y Z S λV X=>∃Y,V = .bl Y/\(if Y=true then td σ X λU T=>B Z U T Q else Q (.bl false) X)else Q (.bl false) W)
theorem Kp{B:CmpOp}{D:R2}(ho:OpR X (compareOp op) r)(O:OpR X (compareOp op') r')(J:OpR X (compareOp B) D)(ha:PE X a ta)(hb:PE X b tb)(hc:PE X c tc)(hd:PE X d td)
 (hm:lastMarks [op,op',B] [b,c,d]=false:=by with_unfolding_all rfl):PE X (.Compare a [op,op',B] [b,c,d] pos) (RB r r' D ta tb tc td):=by
 intro pins s σ H Q I h
 refine Compare_chain (thn (ha pins s σ H _ I h) λv s1 ⟨x,H1,m,A,q1⟩=>chain_link (thn (hb pins s1 σ H1 _ m q1) λu s2 ⟨y,H2,n,V,q2⟩=>
  thn (ho pins s2 σ H2 x y v u _ n A V q2) λd s3 ⟨z,N,R,C,k,e,T⟩=>?_)) hm
 subst e
 cases C
 refine wpAny_truthy_bool ?_
 cases k with
 |false=>exact ite_ff ⟨.bl false,N,R,rfl,T⟩
 |true=>
  refine ite_tt (chain_link (thn (hc pins s3 σ N _ R T) λY F ⟨Z,j,o,W,t⟩=>thn (O pins F σ j y Z u Y _ o V W t) λi G ⟨z2,P,S,E,k2,q,U⟩=>?_))
  subst q
  cases E
  refine wpAny_truthy_bool ?_
  cases k2 with
  |false=>exact ite_ff ⟨.bl false,P,S,rfl,U⟩
  |true=>exact ite_tt (chain_last (thn (hd pins G σ P _ S U) λL K ⟨M,l,p,r6,w⟩=>J pins K σ l Z M Y L Q p W r6 w))
end
structure Blt(mg:Str->Option Value):Prop where
 len_:mg "len"=none
 range_:mg "range"=none
 abs_:mg "abs"=none
 isinstance_:mg "isinstance"=none
 int_:mg "int"=none
 bool_:mg "bool"=none
 tuple_:mg "tuple"=none
 max_:mg "max"=none
 min_:mg "min"=none
end My
namespace My
open PySem PySem.Spec PyProof.Rows L2
noncomputable abbrev cx(P:Program)(w:World)(K:PySem.W.Frag)(mg:Str->Option Value)(base:Heap)(N:List Str)(x:Str)(st:Stmt)(f:Addr)(cdv:Value)(A:Around)(outer:List Env)(s:Shared)(H:Hp)(E:XK):Cx:=
 (En CX0 P w K mg base N x (bM st) f cdv A outer s H E).nox
end My
variable{env:Env}
namespace My
open PySem PySem.Spec PyProof.Rows L2
noncomputable def qu(env:Env):List (Str×NameKind)->List (Str×Addr)->List (Str×Addr)
 |[],Z=>Z
 | (n,k)::r,Z=>if(k==NameKind.free)=true then qu env r ((n,(env.cells.lookup n).getD 0)::Z)else qu env r Z
theorem uw:∀(l:List (Str×NameKind))(B:List (Str×Addr)),(∀x∈l,x.2 = .free->∃c,env.cells.lookup x.1=some c) ->
 (forIn l B λ(x:Str×NameKind)(r:List (Str×Addr))=>(if(x.2==NameKind.free)=true then(do let c <-cellOf env x.1;pure (ForInStep.yield ((x.1,c)::r)))else pure (ForInStep.yield r):Sem (ForInStep (List (Str×Addr)))))=pure (qu env l B)
 |[],_,_=>rfl
 | (n,k)::r,B,h=>by
  rw[rm]
  by_cases Z:(k==NameKind.free)=true
  ·obtain⟨c,V⟩:=h (n,k) aG (beq_iff_eq.mp Z)
   have W:cellOf env n=pure c:=by
    unfold cellOf
    rw[show env.cells.lookup n=some c from V]
   show(do let x <-(if(k==NameKind.free)=true then(do let c <-cellOf env n;pure (ForInStep.yield ((n,c)::B)))else pure (ForInStep.yield B):Sem (ForInStep (List (Str×Addr))));_)=_
   rw[if_pos Z,W]
   have Y:=uw r ((n,c)::B) λx X=>h x (aJ _ X)
   rw[qu,if_pos Z,show env.cells.lookup n=some c from V]
   exact Y
  ·show(do let x <-(if(k==NameKind.free)=true then(do let c <-cellOf env n;pure (ForInStep.yield ((n,c)::B)))else pure (ForInStep.yield B):Sem (ForInStep (List (Str×Addr))));_)=_
   rw[if_neg Z]
   have Y:=uw r B λx X=>h x (aJ _ X)
   rw[qu,if_neg Z]
   exact Y
theorem Hj{scope:Scope}(h:∀x∈scope.names,x.2 = .free->∃c,env.cells.lookup x.1=some c):closureFor scope env=pure (qu env scope.names []):=by
 have z:=uw (env:=env) scope.names [] h
 show(forIn scope.names [] λ(x:Str×NameKind)(r:List (Str×Addr))=>(if(x.2==NameKind.free)=true then(do let c <-cellOf env x.1;pure (ForInStep.yield ((x.1,c)::r)))else pure (ForInStep.yield r):Sem (ForInStep (List (Str×Addr))))) >>= (λZ=>pure Z)=_
 rw[z]
 rfl
theorem yt:∀(l:List (Str×NameKind))(B:List (Str×Addr)),(∀x∈l,x.2 = .free->∃c,env.cells.lookup x.1=some c)->(∀x c,B.lookup x=some c->env.cells.lookup x=some c) ->
 ∀x c,(qu env l B).lookup x=some c->env.cells.lookup x=some c
 |[],_,_,Y,x,c,e=>Y x c e
 | (n,k)::r,B,h,Y,x,c,e=>by
  rw[qu]at e
  by_cases V:(k==NameKind.free)=true
  ·rw[if_pos V]at e
   obtain⟨d,hd⟩:=h (n,k) aG (beq_iff_eq.mp V)
   refine yt r _ (λx W=>h x (aJ _ W)) (λy c' Z=>?_) x c e
   rw[dN]at Z
   cases X:y==n with
   |true=>
    rw[X]at Z
    have:y=n:=beq_iff_eq.mp X
    subst this
    rw[show env.cells.lookup y=some d from hd]at Z ⊢
    exact Z
   |false=>
    rw[X]at Z
    exact Y y c' Z
  ·rw[if_neg V]at e
   exact yt r B (λx W=>h x (aJ _ W)) Y x c e
theorem rM:∀(l:List (Str×NameKind))(B:List (Str×Addr))(x:Str),((x,NameKind.free)∈l\/∃c,B.lookup x=some c)->∃c,(qu env l B).lookup x=some c
 |[],_,x,h=>by
  rcases h with h|h
  ·exact absurd h (by simp)
  ·exact h
 | (n,k)::r,B,x,h=>by
  rw[qu]
  by_cases Z:(k==NameKind.free)=true
  ·rw[if_pos Z]
   refine rM r _ x ?_
   by_cases e:x=n
   ·subst e
    exact .inr ⟨_,by rw[dN,beq_self_eq_true]⟩
   ·rcases h with h|⟨c,h⟩
    ·rcases aU.mp h with h|h
     ·exact absurd (congrArg Prod.fst h) e
     ·exact .inl h
    ·exact .inr ⟨c,by rw[dN,beq_eq_false_iff_ne.mpr e];exact h⟩
  ·rw[if_neg Z]
   refine rM r B x ?_
   rcases h with h|h
   ·rcases aU.mp h with h|h
    ·have:k = .free:=(congrArg Prod.snd h).symm
     subst this
     exact absurd rfl Z
    ·exact .inl h
   ·exact .inr h
noncomputable abbrev blk(X:Cx)(B:List Str)(scope:Scope)(cl:List (Str×Addr))(C:Addr)(s3:Shared)(D:Hp)(fp:List Addr):Cx:=
 {X with N:=B,s₀:=s3,H₀:=D,env:=compEnvC scope cl C X.env,outer:=X.stack,ex:=fp,fn:=λ_=>false,xe:=λ_ _=>False}
noncomputable def yu(N:List Str)(kinds B:List (Str×NameKind)):List Str->List Nat->Bool
 |[],[]=>true
 |x::V,j::ix=>(N[j]? == some x)&&((kinds.lookup x==some NameKind.cell)&&((B.lookup x==some NameKind.free)&&yu N kinds B V ix))
 |_,_=>false
noncomputable def zX(t:Nat)(ix:List Nat)(σ:St):St:=aN t none++ix.map λj=>(σ[j]?).getD none
theorem yw{kinds B:List (Str×NameKind)}:∀{V:List Str}{ix:List Nat},yu N kinds B V ix=true->ix.length=V.length/\∀(k:Nat)(x:Str),V[k]? = some x->∃j,ix[k]? = some j/\N[j]? = some x/\kinds.lookup x=some .cell/\B.lookup x=some .free
 |[],[],_=>⟨rfl,λk x h=>by simp at h⟩
 |x::V,j::ix,h=>by
  rw[yu,aX,aX,aX]at h
  obtain⟨h1,h2,X,Y⟩:=h
  obtain⟨l,r⟩:=yw Y
  refine⟨by simp[l],λk y Z=>?_⟩
  cases k with
  |zero=>
   simp at Z
   subst Z
   exact⟨j,rfl,beq_iff_eq.mp h1,beq_iff_eq.mp h2,beq_iff_eq.mp X⟩
  |succ k=>exact r k y (by simpa using Z)
 |[],_::_,h=>by simp[yu]at h
 |_::_,[],h=>by simp[yu]at h
theorem uT{env:Env}(B:env.scope.kind = .function):∀{names:List (Str×NameKind)}{x:Str},names.lookup x=some .free->env.kindOf x=some .cell ->
 (names.map λ(n,k)=>if(k==NameKind.free&&env.scope.kind == .function&&env.kindOf n==some .cell)then(n,NameKind.cell)else(n,k)).lookup x=some .cell
 |[],_,h,_=>by simp at h
 | (n,k)::r,x,h,Y=>by
  have X:=@uT env B r x
  show wC x ((if(k==NameKind.free&&env.scope.kind == .function&&env.kindOf n==some .cell)=true then(n,NameKind.cell)else(n,k))::_)=_
  cases Z:x==n with
  |true=>
   have e:x=n:=beq_iff_eq.mp Z
   subst e
   simp only[dN,Z]at h
   cases h
   rw[if_pos (by rw[B,Y];rfl)]
   simp[dN]
  |false=>
   simp only[dN,Z]at h
   by_cases W:(k==NameKind.free&&env.scope.kind == .function&&env.kindOf n==some .cell)=true
   ·rw[if_pos W];simp only[dN,Z];exact X h Y
   ·rw[if_neg W];simp only[dN,Z];exact X h Y
theorem qw{env:Env}:∀{names:List (Str×NameKind)}{x:Str}{k:NameKind},(∀y∈names,y.2 ≠ .cell)->(k = .cell\/k = .free) ->
 (names.map λ(n,k)=>if(k==NameKind.free&&env.scope.kind == .function&&env.kindOf n==some .cell)then(n,NameKind.cell)else(n,k)).lookup x=some k->(x,NameKind.free)∈names
 |[],_,_,_,_,h=>by simp at h
 | (n,X)::r,x,k,U,Y,h=>by
  have V:=@qw env r x k (λy T=>U y (aJ _ T)) Y
  have h':wC x ((if(X==NameKind.free&&env.scope.kind == .function&&env.kindOf n==some .cell)=true then(n,NameKind.cell)else(n,X))::(r.map λ(n,k)=>if(k==NameKind.free&&env.scope.kind == .function&&env.kindOf n==some .cell)then(n,NameKind.cell)else(n,k)))=some k:=h
  by_cases W:(X==NameKind.free&&env.scope.kind == .function&&env.kindOf n==some .cell)=true
  ·rw[if_pos W]at h'
   have kf:X = .free:=by
    rw[aX,aX]at W
    exact beq_iff_eq.mp W.1.1
   cases Z:x==n with
   |true=>
    have e:x=n:=beq_iff_eq.mp Z
    subst e
    subst kf
    exact aG
   |false=>
    simp only[dN,Z]at h'
    exact aJ _ (V h')
  ·rw[if_neg W]at h'
   cases Z:x==n with
   |true=>
    have e:x=n:=beq_iff_eq.mp Z
    subst e
    simp only[dN,Z]at h'
    cases h'
    rcases Y with Y|Y
    ·exact absurd Y (U _ aG)
    ·subst Y
     exact aG
   |false=>
    simp only[dN,Z]at h'
    exact aJ _ (V h')
section
variable{X:Cx}{pins:List (Addr×Obj)}{σ:St}{H:Hp}{s:Shared}
theorem Inv.forget{σ':St}(I:Inv X pins σ H s)(B:σ'.length=X.N.length)(h:∀(i:Nat) (v:V),σ'[i]? = some (some v)->σ[i]? = some (some v)):Inv X pins σ' H s:=by
 obtain⟨m,hn,Z⟩:=I.loc
 exact⟨I.ok,I.os,I.bare,I.base,⟨m,hn,λi x v U W Y=>Z i x v U (h i v W) Y⟩,I.cell,I.free,I.freeC,I.pin,I.hok,B⟩
end
end My
variable{prog:Program}{spos:Pos}
namespace My
open PySem PySem.Spec PyProof.Rows L2
theorem Eu{R:Result->Shared->Prop}{elt target:Expr}{ifs:List Expr}{scope:Scope}{it acc:Value}(I:Nat->Shared->Prop)
 (turn:∀n s,I n s->wpAny (model prog w) A (pyNext it) (λr J=>match r with
  |none=>R (.ok .next) J
  |some v=>wpAny (model prog w) A (letOwnedTupleGo target it v) (λ_ D=>wpAny (model prog w) A (assign target env v) (λ_ Y=>
   wpAny (model prog w) A (forIn ifs true λc r=>if r=true then do let ok <-isTrue c env (eval c env);pure (ForInStep.yield ok)else pure (ForInStep.yield r)) (λok B=>
    if ok=true then wpAny (model prog w) A (eval elt env) (λx W=>
     wpAny (model prog w) A (call (.builtin "list.append") [acc,x]) (λ_ O=>∃m,m<n/\I m O) (λ_ _=>False) W) (λ_ _=>False) B
    else ∃m,m<n/\I m B) (λ_ _=>False) Y) (λ_ _=>False) D) (λ_ _=>False) J) (λ_ _=>False) s)
 (n:Nat) (h:I n s) :
 codeAny (model prog w) A (.compLoop (.ListComp elt [⟨target,iter,ifs,0⟩] scope pos) 0 it acc env) R s:=by
 refine codeAny_loop rfl I (λn s Q=>?_) n h
 show wpAny _ A ((compTurn (.ListComp elt [⟨target,iter,ifs,0⟩] scope pos) 0 it acc env).onRaise (λx=>do noteFrame x env;theTreesLotGoes x)) _ _ s
 refine wpAny_noted ?_
 rw[compTurn_list]
 refine wpAny_bind (wpAny_standAt (wpAny_bind (wpAny_mono (turn n s Q) (λr J X=>?_) λ_ _ h'=>h'.elim)))
 cases r with
 |none=>exact wpAny_pure X
 |some v=>
  refine wpAny_bind (wpAny_mono X (λ_ D V=>?_) λ_ _ h'=>h'.elim)
  refine wpAny_bind (wpAny_mono V (λ_ Y S=>wpAny_bind (wpAny_mono S (λok B Z=>?_) λ_ _ h'=>h'.elim)) λ_ _ h'=>h'.elim)
  cases ok with
  |false=>exact wpAny_pure ⟨rfl,Z⟩
  |true=>
   exact wpAny_bind (wpAny_bind (wpAny_mono Z (λx W T=>wpAny_bind (wpAny_mono T (λ_ O U=>wpAny_pure (wpAny_pure ⟨rfl,U⟩)) λ_ _ h'=>h'.elim)) λ_ _ h'=>h'.elim))
section
variable{X:Cx}{pins:List (Addr×Obj)}{σ:St}{H:Hp}
theorem Kq{T V:List Str}{ix:List Nat}{scope:Scope}{s3:Shared}{B:Heap}{tk:Nat}
 (I:Inv X pins σ H s3) (J:∀b∈fp,vK X pins H b) (ho:∀b∈fp,∃o,s3.heap.get? b=some o)
 (hk:scope.kind = .function) (D:∀y∈scope.names,y.2 ≠ .cell) (hfr:∀x∈scope.names,x.2 = .free->x.1∈V) (hB:yu X.N X.env.scope.names scope.names V ix=true)
 (hns:B.Ns s3.heap.objs.size m) (keep:∀b o,s3.heap.get? b=some o->B.get? b=some o) :
 Inv (blk X (T++V) scope (qu X.env scope.names []) s3.heap.objs.size s3 H fp) pins (zX T.length ix σ) H {s3 with heap:=B,toks:=tk}:=by
 obtain⟨A,R⟩:=yw hB
 have K:∀x∈scope.names,x.2 = .free->∃c,X.env.cells.lookup x.1=some c:=λx U e=>by
  obtain⟨k,f⟩:=gB (hfr x U e)
  obtain⟨j,_,_,P,_⟩:=R k _ f
  exact I.ok.has _ (.inl P)
 have sub:=yt (env:=X.env) scope.names [] K (λx c e=>by simp at e)
 have stkSub:∀b,b∈frs X.stack->b=X.env.locals\/b∈X.fs:=λb z=>aU.mp (I.stkSub b z)
 have lt:∀b o,s3.heap.get? b=some o->b≠s3.heap.objs.size:=λb o e=>bh (Heap.lt_size e)
 have cellK:∀c v,s3.heap.IsCell c v->B.IsCell c v:=λc v ⟨o,e,d⟩=>⟨o,keep c o e,d⟩
 refine⟨⟨I.ok.mod,hk,I.ok.glob,I.ok.blt,aL _,λx y c F L=>I.ok.inj x y c (sub x c F) (sub y c L),λx U=>?_,λx c U=>?_,I.ok.hd,I.ok.frames,.inl rfl,λb Q=>⟨?_,λx c e=>?_⟩,I.bs,bF I.ok.bsz I.sz,λb o e Q=>?_,λb Q z=>?_,I.stack,I.stkFree⟩,
  rfl,I.bare,Un.kept keep,⟨m,hns,λi x v F L e3=>?_⟩,λx c e=>?_,I.hok.fresh (aL _),λx c e=>I.freeC x c (sub x c e),λp w=>?_,I.hok.kept keep,?_⟩
 ·rcases U with U|U
  ·exact rM _ _ x (.inl (qw D (.inl rfl) U))
  ·exact rM _ _ x (.inl (qw D (.inr rfl) U))
 ·exact absurd U (by simp)
 ·obtain⟨o,e⟩:=ho b Q
  exact lt b o e
 ·exact(J b Q).2.2.2.2.1 x c (sub x c e)
 ·rcases(J b Q).2.2.2.1 with z|z
  ·exact I.ok.noex b o e z
  ·exact absurd (bR (Heap.lt_size e) (bF I.ok.bsz z)) (eE _)
 ·rcases stkSub b z with z|z
  ·exact(J b Q).2.1 z
  ·exact(J b Q).2.2.1 z
 ·by_cases hi:i<T.length
  ·have W:(aN T.length none++ix.map λj=>(σ[j]?).getD none)[i]? = some (some v):=L
   rw[bW (by rw[bC];exact hi),fD,if_pos hi]at W
   exact absurd W (by simp)
  ·have M:(T++V)[i]? = some x:=F
   rw[bT (by omega)]at M
   obtain⟨j,h,g,P,Y⟩:=R _ x M
   have W:(aN T.length none++ix.map λj=>(σ[j]?).getD none)[i]? = some (some v):=L
   rw[bT (by rw[bC];omega),bC,bf,h]at W
   have Z:(σ[j]?).getD none=some v:=by simpa using W
   have G:σ[j]? = some (some v):=by
    cases q:σ[j]? with
    |none=>rw[q]at Z;exact absurd Z (by simp)
    |some o=>rw[q]at Z;simp at Z;rw[Z]
   obtain⟨m0,t,s⟩:=I.loc
   obtain⟨u,r,l⟩:=s j x v g G (.inr (.inl P))
   rcases l with⟨z,_⟩|⟨_,c,a,S⟩
   ·have E:X.env.scope.names.lookup x=some .local:=z
    rw[P]at E
    exact absurd E (by simp)
   ·obtain⟨c',O⟩:=rM (env:=X.env) scope.names [] x (.inl (PySem.mem_of_lookup Y))
    have:c'=c:=by
     have q:=sub x c' O
     rw[a]at q
     exact(cY.inj q).symm
    subst this
    exact⟨u,r,.inr ⟨.inl (uT I.ok.kind Y P),c',O,cellK _ _ S⟩⟩
 ·obtain⟨v,z⟩:=I.cell x c (sub x c e)
  exact⟨v,cellK c v z⟩
 ·obtain⟨e,n,ne,C,d⟩:=I.pin p w
  refine⟨keep _ _ e,n,lt _ _ e,λz=>?_,d⟩
  rcases stkSub p.1 z with z|z
  ·exact ne z
  ·exact C z
 ·show(aN T.length none++ix.map λj=>(σ[j]?).getD none).length=(T++V).length
  rw[bG,bC,au,bG,A]
theorem MP{N':List Str}{scope:Scope}{cl:List (Str×Addr)}{pins':List (Addr×Obj)}{σ':St}{J:Hp}{s3 s':Shared}(O:Inv X pins σ J s3)(D:∀b∈fp,vK X pins J b)
 (B:Inv (blk X N' scope cl s3.heap.objs.size s3 J fp) pins' σ' H' s'):Inv X pins σ H' s'/\vK X pins H' s3.heap.objs.size:=by
 have fr:H' s3.heap.objs.size=none:=B.free
 refine⟨?_,O.fpOk (aL _) fr⟩
 have os:s'.os=s3.os:=B.os
 have u:Un (frs X.stack) fp J H' s3.heap s'.heap:=B.base
 have W:=B.hok
 have U:=B.bare
 obtain⟨V,g,d,t,Y⟩:=s'
 obtain rfl:Y=s3.os:=os
 exact O.call (h':=V) (g':=g) (d':=d) (t':=t) (ch:=fp) u W U λb Z=>⟨(D b Z).2.2.2.1,(D b Z).2.1,(D b Z).2.2.2.2.1,(D b Z).2.2.2.2.2⟩
end
noncomputable def PTs(X:Cx)(ifs:List Expr)(t:TT):Prop:=
 ∀(pins:List (Addr×Obj))(s:Shared)(σ:St)(H:Hp)(Q:Bool->Hp->Prop),Inv X pins σ H s->t σ H Q ->
  wpAny (model X.prog X.w) X.A (forIn ifs true λc r=>if r=true then do let ok <-isTrue c X.env (eval c X.env);pure (ForInStep.yield ok)else pure (ForInStep.yield r)) (TP X pins σ Q) X.xe s
noncomputable def m6:TT:=λ_ H Q=>Q true H
theorem RD:PTs X [] m6:=λ_ _ _ H _ I h=>wpAny_tests_nil ⟨H,I,h⟩
theorem sU{c:Expr}{t:TT}(h:PT X c t):PTs X [c] t:=λpins s σ H Q I q=>wpAny_tests_one (h pins s σ H Q I q)
noncomputable def IV(wi:TI)(g:TG)(tt:TT)(te:TE)(t:Nat)(B:St->St):TE:=λσ H Q=>wi σ H λJ H1=>∀D,H1 D=none->∃W:Nat->Nat->List V->Hp->Prop,(∃m,W 0 m [] (upd H1 D (.lst []))) /\
 ∀i m xs H2,W i m xs H2->H2 D=some (.lst xs)/\((J.stop i H2/\Q (.ref D) H2)\/(J.go i H2/\xs.length<sizeLine/\∀x T,J.yld i H2 x T->g x (B σ) T λZ S=>Z.drop t=(B σ).drop t /\
  tt Z S λb U=>if b=true then te Z U λv X=>X D=some (.lst xs)/\∃Y,Y<m/\W (i+1) Y (xs++[v]) (upd X D (.lst (xs++[v])))else ∃Y,Y<m/\W (i+1) Y xs U))
section
variable{X:Cx}{elt tg iter:Expr}{ifs:List Expr}{scope:Scope}{pos:Pos}{T V:List Str}{ix:List Nat}{wi:TI}{g:TG}{tt:TT}{te:TE}
theorem Aq(hc:X.calm=true)(hi:PI X tg iter wi)
 (hg:∀cl C s3 B fp,PG (blk X (T++V) scope cl C s3 B fp) tg g) (ht:∀cl C s3 B fp,PTs (blk X (T++V) scope cl C s3 B fp) ifs tt) (he:∀cl C s3 B fp,PE (blk X (T++V) scope cl C s3 B fp) elt te)
 (hB:yu X.N X.env.scope.names scope.names V ix=true) (hk:scope.kind = .function) (O:∀y∈scope.names,y.2 ≠ .cell) (hnames:∀x∈scope.names,x.2 = .local->scope.names.lookup x.1=some .local)
 (hfr:∀x∈scope.names,x.2 = .free->x.1∈V) (hs:∀x,foldedSetIterable iter X.env x=pure x) {p:Pos}
 {pins:List (Addr×Obj)} {s:Shared} {σ:St} {H:Hp} (I:Inv X pins σ H s) {use:Option (Value->Sem Unit)} {Qp:Value->Shared->Prop} {Qv:VK} (h:IV wi g tt te T.length (zX T.length ix) σ H Qv)
 (fin:∀(D C:Addr)(H':Hp)(s':Shared)(m:Str->Option Value),Inv X pins σ H' s'->vK X pins H' C->s'.heap.Ns C m->Qv (.ref D) H'->compPost (model X.prog X.w) X.A X.xe use Qp (.ref D) C (.ok .next) s') :
 wpAny (model X.prog X.w) X.A (comprehension (.ListComp elt [⟨tg,iter,ifs,0⟩] scope pos) scope X.env p (newList []) false (eval iter X.env) use) Qp X.xe s:=by
 obtain⟨lV,capV⟩:=yw hB
 have hcl:∀x∈scope.names,x.2 = .free->∃c,X.env.cells.lookup x.1=some c:=λx hx e=>by
  obtain⟨k,ek⟩:=gB (hfr x hx e)
  obtain⟨j,_,_,hc',_⟩:=capV k _ ek
  exact I.ok.has _ (.inl hc')
 refine wpAny_comprehension_free rfl hs (Hj hcl) hk hnames ?_
 refine thn (hi pins s σ H _ I h) λv s1 h1=>thn h1 λitv s2 h2=>?_
 obtain⟨it,fp,tn,J,H2,e,I2,S,l,f2,R⟩:=h2
 subst e
 refine wpAny_newObj_type (hd:=by size_fits) ?_
 have hD:H2 s2.heap.objs.size=none:=I2.hok.fresh (aL _)
 have I3:Inv X pins σ (upd H2 s2.heap.objs.size (.lst [])) {s2 with heap:=s2.heap.push {cls:=.type "list", dict:=none,data:=.seq ([]:List Value).toArray} }:=
  I2.laid (t':=s2.toks) (λb o e=>Heap.get?_push_of_some _ e) (aL _) ⟨cZ _,[],0,.nil,Heap.get?_push_size _ rfl⟩
 obtain⟨W,⟨m0,w0⟩,turn⟩:=R s2.heap.objs.size hD
 generalize hs3:({s2 with heap:=s2.heap.push {cls:=.type "list", dict:=none,data:=.seq ([]:List Value).toArray} }:Shared)=s3 at I3 ⊢
 have t:tn 0 s3.heap:=by
  rw[<-hs3]
  exact S.keep 0 s2.heap _ l λb Z o e=>Heap.get?_push_of_some _ e
 have f3:∀b∈fp,vK X pins (upd H2 s2.heap.objs.size (.lst [])) b:=λb Z=>by
  obtain⟨z0,z1⟩:=f2 b Z
  refine⟨?_,z1⟩
  obtain⟨o,eo,_⟩:=S.obj 0 _ l b Z
  rw[cG (bh (Heap.lt_size eo))]
  exact z0
 generalize hH3:upd H2 s2.heap.objs.size (.lst [])=B at I3 f3 w0
 generalize hDn:s2.heap.objs.size=D at turn
 refine wpAny_newFunctionEnv O (by intro y hy;simp at hy) (λU M P=>?_) hk
 have keep:∀b o,s3.heap.get? b=some o->U.get? b=some o:=λb o e=>P.extBut b o (bh (Heap.lt_size e)) (Heap.get?_push_of_some _ e)
 have I4:=Kq (T:=T) (tk:=s3.toks+([]:List (Str×Value)).length) I3 f3 (λb Z=>let⟨o,eo,_⟩:=S.obj 0 _ t b Z;⟨o,eo⟩) hk O hfr hB M keep
 have z:tn 0 U:=S.keep 0 _ _ t λb Z o e=>keep b o e
 have loop:codeAny (model X.prog X.w) X.A (.compLoop (.ListComp elt [⟨tg,iter,ifs,0⟩] scope pos) 0 (.ref it) (.ref D) (compEnvC scope (qu X.env scope.names []) s3.heap.objs.size X.env))
  (compPost (model X.prog X.w) X.A X.xe use Qp (.ref D) s3.heap.objs.size) {s3 with heap:=U,toks:=s3.toks+([]:List (Str×Value)).length}:=by
  refine Eu (λn s'=>∃i xs H',Inv (blk X (T++V) scope (qu X.env scope.names []) s3.heap.objs.size s3 B fp) pins (zX T.length ix σ) H' s'/\tn i s'.heap/\(∀b∈fp,H' b=none)/\W i n xs H') ?_ m0
   ⟨0,[],B,I4,z,λb Z=>(f3 b Z).1,w0⟩
  rintro n s5 ⟨i,xs,H5,I5,E,a,w5⟩
  have Y:∀{H':Hp}{pins':List (Addr×Obj)}{σ':St}{s':Shared},Inv (blk X (T++V) scope (qu X.env scope.names []) s3.heap.objs.size s3 B fp) pins σ' H' s'->(∀b∈fp,H' b=none)->∀b∈fp,vK (blk X (T++V) scope (qu X.env scope.names []) s3.heap.objs.size s3 B fp) pins H' b:=λI' hn b Z=>by
   obtain⟨x1,x2⟩:=I'.ok.exf b Z
   refine⟨hn b Z,x1,I'.ok.exfs b Z,.inl Z,x2,λq hq=>?_⟩
   exact(f3 b Z).2.2.2.2.2 q hq
  obtain⟨hD5,r5⟩:=turn i n xs H5 w5
  rcases r5 with⟨stop,q⟩|⟨go,hz,step⟩
  ·refine thn (S.done (blk X (T++V) scope (qu X.env scope.names []) s3.heap.objs.size s3 B fp) rfl rfl rfl hc i pins s5 _ H5 _ I5 (Y (pins':=pins) I5 a) E stop) λr s6 ⟨hr,I6⟩=>?_
   subst hr
   obtain⟨Ib,fC⟩:=MP I3 f3 I6
   obtain⟨m,hn,_⟩:=I6.loc
   exact fin D _ H5 s6 m Ib fC hn q
  ·refine thn (S.item (blk X (T++V) scope (qu X.env scope.names []) s3.heap.objs.size s3 B fp) rfl rfl rfl hc i pins s5 _ H5 _ I5 (Y (pins':=pins) I5 a) E go) λr s6 ⟨u,hr,h6⟩=>?_
   subst hr
   refine thn h6 λ_ s7 ⟨x,H7,I7,rx,y7,L,fr7⟩=>?_
   have I7':=I7.pinned (Y (pins':=pins) I7 fr7) (S.obj _ _ L)
   refine thn (hg _ _ _ _ _ _ s7 _ H7 x u _ I7' rx (step x H7 y7)) λ_ s8 ⟨Q,H8,I8,k8,q8⟩=>?_
   have again:∀{K:Hp}{G:Shared},Inv (blk X (T++V) scope (qu X.env scope.names []) s3.heap.objs.size s3 B fp) (pins++yj fp s7.heap) Q K G ->
    Inv (blk X (T++V) scope (qu X.env scope.names []) s3.heap.objs.size s3 B fp) pins (zX T.length ix σ) K G/\tn (i+1) G.heap/\∀b∈fp,K b=none:=λ{K G} F=>by
    refine⟨Inv.forget F.unpinned I4.len λj v e=>?_,S.keep _ _ _ L λb Z o e=>(F.pin (b,o) (bJ _ (bJ _ (qg Z e)))).1,λb Z=>?_⟩
    ·by_cases hj:j<T.length
     ·have e':(aN T.length none++ix.map λj=>(σ[j]?).getD none)[j]? = some (some v):=e
      rw[bW (by rw[bC];exact hj),fD,if_pos hj]at e'
      exact absurd e' (by simp)
     ·have ej:j=T.length+(j-T.length):=by omega
      rw[ej,<-fj]at e ⊢
      rw[k8]
      exact e
    ·obtain⟨o,e,d⟩:=S.obj _ _ L b Z
     exact(F.pin (b,o) (bJ _ (bJ _ (qg Z e)))).2.1
   refine thn (ht _ _ _ _ _ _ s8 Q H8 _ I8 q8) λok G ⟨K,F,q9⟩=>?_
   cases ok with
   |false=>
    obtain⟨m',lm,w9⟩:=q9
    obtain⟨a1,a2,a3⟩:=again F
    exact⟨m',lm,i+1,xs,K,a1,a2,a3,w9⟩
   |true=>
    refine thn (he _ _ _ _ _ _ G Q K _ F q9) λy s10 ⟨v,H10,I10,ry,f,m',lm,w10⟩=>?_
    refine thn (Ao _ s10 Q H10 (.ref D) [v] (.ref D) [y] (λ_ Hn=>Hn=upd H10 D (.lst (xs++[v]))) I10 rfl (.cons ry .nil) ⟨D,xs,v,rfl,rfl,f,hz,rfl⟩) λ_ s11 ⟨_,H11,I11,_,e11⟩=>?_
    subst e11
    obtain⟨a1,a2,a3⟩:=again I11
    exact⟨m',lm,i+1,_,_,a1,a2,a3,w10⟩
 exact codeAny_compStart_list loop (S.self _ 0 _ _ _ z loop)
theorem RG(hc:X.calm=true)(T V:List Str)(ix:List Nat)(hi:PI X tg iter wi)
 (hg:∀cl C s3 O fp,PG (blk X (T++V) scope cl C s3 O fp) tg g) (ht:∀cl C s3 O fp,PTs (blk X (T++V) scope cl C s3 O fp) ifs tt) (he:∀cl C s3 O fp,PE (blk X (T++V) scope cl C s3 O fp) elt te)
 (hB:yu X.N X.env.scope.names scope.names V ix=true:=by rfl) (hk:scope.kind = .function:=by rfl) (J:∀y∈scope.names,y.2 ≠ .cell:=by decide +kernel)
 (B:∀x∈scope.names,x.2 = .local->scope.names.lookup x.1=some .local:=by decide +kernel)
 (W:∀x∈scope.names,x.2 = .free->x.1∈V:=by decide +kernel) (hs:∀x,foldedSetIterable iter X.env x=pure x:=by intro _;rfl) :
 PE X (.ListComp elt [⟨tg,iter,ifs,0⟩] scope pos) (IV wi g tt te T.length (zX T.length ix)):=by
 intro pins s σ H Q I h
 rw[eval_ListComp]
 refine Aq (use:=none) hc hi hg ht he hB hk J B W hs I h λD C H' s' m L M hn q=>⟨m,hn,λh' R=>⟨.ref D,H',?_,rfl,q⟩⟩
 obtain⟨S,z1,z2,U,Y,Z⟩:=M
 exact L.turned (t':=s'.toks) (λb o P e=>R.extBut b o P e) S z1 U Y Z
theorem RJ(hN:X.N.Nodup)(hi':X.N[i]? = some x)(hx:X.env.scope.names.lookup x=some .local)(hc:X.calm=true)(T V:List Str)(ix:List Nat)(hi:PI X tg iter wi)
 (hg:∀cl C s3 O fp,PG (blk X (T++V) scope cl C s3 O fp) tg g) (ht:∀cl C s3 O fp,PTs (blk X (T++V) scope cl C s3 O fp) ifs tt) (he:∀cl C s3 O fp,PE (blk X (T++V) scope cl C s3 O fp) elt te)
 (W:swapsWith (.ListComp elt [⟨tg,iter,ifs,0⟩] scope pos) (some (.Name x pos')) spos.line X.env=pure true:=by rfl)
 (hB:yu X.N X.env.scope.names scope.names V ix=true:=by rfl) (hk:scope.kind = .function:=by rfl) (J:∀y∈scope.names,y.2 ≠ .cell:=by decide +kernel)
 (B:∀x∈scope.names,x.2 = .local->scope.names.lookup x.1=some .local:=by decide +kernel)
 (hfr:∀x∈scope.names,x.2 = .free->x.1∈V:=by decide +kernel) (hs:∀x,foldedSetIterable iter X.env x=pure x:=by intro _;rfl) :
 PS X (.Assign [.Name x pos'] (.ListComp elt [⟨tg,iter,ifs,0⟩] scope pos) spos) (VR (IV wi g tt te T.length (zX T.length ix)) (Mg i)):=by
 intro pins s σ H D I h
 rw[exec_Assign_Name_used _ _ _ _ W]
 refine wpAny_bind (wpAny_standAt (wpAny_bind ?_))
 show wpAny _ X.A (do let _ <-comprehension (.ListComp elt [⟨tg,iter,ifs,0⟩] scope pos) scope X.env _ (newList []) false (eval iter X.env) (some (assign (.Name x pos') X.env))) _ _ s
 refine wpAny_bind (wpAny_mono (Aq (use:=some (assign (.Name x pos') X.env)) (Qp:=λ_ s'=>SP X pins D .next s') hc hi hg ht he hB hk J B hfr hs I h λE C H' s' m F G hn q=>?_) (λ_ s' L=>wpAny_pure (wpAny_pure L)) λ_ _ e=>e)
 obtain⟨P,z1,z2,Q,S,R⟩:=G
 refine wpAny_assign_Name (Ah F hN hi' (.inl hx) (v:=.ref E) rfl (λY U ⟨a,M,ha⟩=>⟨m,hn.sameBut M ?_,λh' Z=>⟨_,H',?_,q⟩⟩) (.inr hx))
 ·rcases ha with ha|ha
  ·rw[ha];exact z1
  ·exact Ne.symm (S x a ha)
 ·exact U.turned (t':=Y.toks) (λb o K e=>Z.extBut b o K e) P z1 Q S R
end
section
variable{X:Cx}{K:PySem.W.Frag}
end
end My
namespace D3
open PySem
noncomputable abbrev D:=PyData
inductive U where
 |d (x:D)
 |x (c f:Str) (v:D)
noncomputable abbrev DS:=List (Option U)
inductive Oc where
 |nx (δ:DS)
 |rt (d:D)
 |bk (δ:DS)
 |ct (δ:DS)
 |ex (c f:Str) (v:D)
noncomputable abbrev FE:=DS->Option D
noncomputable abbrev FA:=DS->Option (List D)
noncomputable abbrev FT:=DS->Option Bool
noncomputable abbrev FS:=DS->Option Oc
noncomputable abbrev FG:=D->DS->Option DS
mutual
noncomputable def flat:D->Bool
 | .none=>true
 | .bool _=>true
 | .int _=>true
 | .str _=>true
 | .list _=>false
 | .tuple xs=>flats xs
 | .dict _=>false
noncomputable def flats:List D->Bool
 |[]=>true
 |x::r=>flat x&&flats r
end
mutual
noncomputable def nl:D->Nat
 | .none=>0
 | .bool _=>0
 | .int _=>0
 | .str _=>0
 | .list xs=>nls xs+1
 | .tuple xs=>nls xs
 | .dict _=>1
noncomputable def nls:List D->Nat
 |[]=>0
 |x::r=>nl x+nls r
end
noncomputable def fl1:D->Bool
 | .list xs=>flats xs
 |d=>flat d
noncomputable def ao(i:Nat):FE:=λδ=>match δ[i]? with
 |some (some (.d x))=>some x
 |_=>none
noncomputable def dC(d:D):FE:=λ_=>some d
noncomputable def dOp(g:D->D->Option D)(fa fb:FE):FE:=λδ=>(fa δ).bind λx=>(fb δ).bind λy=>g x y
noncomputable def dUn(g:D->Option D)(fa:FE):FE:=λδ=>(fa δ).bind g
noncomputable def bw:FA:=λ_=>some []
noncomputable def aH(fa:FE)(fr:FA):FA:=λδ=>(fa δ).bind λx=>(fr δ).bind λr=>some (x::r)
noncomputable def dTup(fa:FA):FE:=λδ=>(fa δ).bind λl=>if l.length<=sizeLine then some (.tuple l)else none
noncomputable def jD(fa:FA):FE:=λδ=>(fa δ).bind λl=>if l.length<=sizeLine then some (.list l)else none
noncomputable def dCall(F:List D->Option D)(fa:FA):FE:=λδ=>(fa δ).bind F
noncomputable def fL(fa:FE):FE:=λδ=>(fa δ).bind λd=>if flat d=true then some d else none
noncomputable def dN1(fa:FE):FE:=λδ=>(fa δ).bind λd=>if decide (nl d<=1)=true then some d else none
noncomputable def Hl(fa:FE):FE:=λδ=>(fa δ).bind λd=>if fl1 d=true then some d else none
noncomputable def zY(fa fb:FE):FE:=λδ=>(fa δ).bind λx=>match x with
 | .bool true=>fb δ
 | .bool false=>some (.bool false)
 |_=>none
noncomputable def dOr(fa fb:FE):FE:=λδ=>(fa δ).bind λx=>match x with
 | .bool true=>some (.bool true)
 | .bool false=>fb δ
 |_=>none
noncomputable def M4(fa:FE):FE:=λδ=>(fa δ).bind λx=>match x with
 | .bool b=>some (.bool (!b))
 |_=>none
noncomputable def dIf(c:FT)(fa fb:FE):FE:=λδ=>(c δ).bind λb=>if b=true then fa δ else fb δ
noncomputable def bL(fa:FE):FT:=λδ=>(fa δ).bind λx=>match x with
 | .bool b=>some b
 |_=>none
noncomputable def BK(a b:FT):FT:=λδ=>(a δ).bind λx=>if x=true then b δ else some false
noncomputable def tOr(a b:FT):FT:=λδ=>(a δ).bind λx=>if x=true then some true else b δ
noncomputable def jc(a:FT):FT:=λδ=>(a δ).map λx=>!x
noncomputable def dX:FS:=λδ=>some (.nx δ)
noncomputable def bU(a b:FS):FS:=λδ=>(a δ).bind λo=>match o with
 | .nx Z=>b Z
 |o=>some o
noncomputable def Y4(i:Nat)(fe:FE):FS:=λδ=>(fe δ).bind λd=>some (.nx (δ.set i (some (.d d))))
noncomputable def sIf(c:FT)(a b:FS):FS:=λδ=>(c δ).bind λt=>if t=true then a δ else b δ
noncomputable def dG(fe:FE):FS:=λδ=>(fe δ).bind λd=>some (.rt d)
noncomputable def Y5:FS:=λ_=>some (.rt .none)
noncomputable def IW(fe:FE):FS:=λδ=>(fe δ).bind λ_=>some (.nx δ)
noncomputable def sBk:FS:=λδ=>some (.bk δ)
noncomputable def sCt:FS:=λδ=>some (.ct δ)
noncomputable def gN(i:Nat):FG:=λd δ=>some (δ.set i (some (.d d)))
noncomputable def jZ:List D->DS->Option DS:=λl δ=>match l with
 |[]=>some δ
 |_=>none
noncomputable def cV(g:FG)(r:List D->DS->Option DS):List D->DS->Option DS:=λl δ=>match l with
 |d::Y=>(g d δ).bind λZ=>r Y Z
 |[]=>none
noncomputable def Ew(fe:FE)(g:FG):FS:=λδ=>(fe δ).bind λd=>(g d δ).bind λZ=>some (.nx Z)
noncomputable def iJ(g:FG)(b:FS):List D->DS->Option Oc
 |[],δ=>some (.nx δ)
 |d::r,δ=>(g d δ).bind λY=>(b Y).bind λo=>match o with
  | .nx Z=>iJ g b r Z
  | .ct Z=>iJ g b r Z
  | .bk Z=>some (.nx Z)
  | .rt v=>some (.rt v)
  | .ex c f v=>some (.ex c f v)
noncomputable def lY(fi:FA)(g:FG)(b:FS):FS:=λδ=>(fi δ).bind λl=>iJ g b l δ
open Classical in
noncomputable def fnD(p q:Nat)(b:FS):List D->Option D:=λds=>if ds.length=p then match b (ds.map (λd=>some (.d d))++aN q none)with
 |some (.rt d)=>some d
 |some (.nx _)=>some .none
 |_=>none
 else none
noncomputable def nF(t:Nat)(ix:List Nat)(δ:DS):DS:=aN t none++ix.map λj=>(δ[j]?).getD none
noncomputable def lA(g:FG)(c:FT)(e:FE)(δ:DS):List D->Option (List D)
 |[]=>some []
 |d::r=>(g d δ).bind λZ=>(c Z).bind λb=>if b=true then(e Z).bind λx=>(lA g c e δ r).bind λl=>some (x::l)else lA g c e δ r
noncomputable def iB(fi:FA)(g:FG)(c:FT)(e:FE)(t:Nat)(ix:List Nat):FE:=λδ=>(fi δ).bind λl=>if l.length<=100000 then(lA g c e (nF t ix δ) l).bind λr=>some (.list r)else none
noncomputable def m6:FT:=λ_=>some true
noncomputable def gI(g:Int->Int->Option D):D->D->Option D:=λx y=>match x,y with
 | .int i,.int j=>g i j
 |_,_=>none
noncomputable def pIx(n:Nat)(i:Int):Option Nat:=if 0<=i then(if i<n then some i.toNat else none)else if -(n:Int)<=i then some (i+n).toNat else none
noncomputable def pAt(xs:List D)(i:Int):Option D:=(pIx xs.length i).bind λj=>xs[j]?
noncomputable def isT(c T:String):Bool:=T==c||(T=="bool"&&c=="int")
noncomputable def bQ(i:Nat)(fe:FE):FS:=λδ=>if i<δ.length then Y4 i fe δ else none
noncomputable def gG:D->D->Option D:=gI λi j=>some (.int (i+j))
noncomputable def rF:D->D->Option D:=gI λi j=>some (.int (i-j))
noncomputable def yx(i j:Int):Bool:=decide (i.natAbs<2^64)||decide (j.natAbs<2^64)||(decide (i.natAbs<2^30000)&&decide (j.natAbs<2^30000))
noncomputable def tQ:D->D->Option D:=gI λi j=>if yx i j=true then some (.int (i*j))else none
noncomputable def Ho(_ j:Int):Bool:=decide (j≠0)&&decide (j.natAbs<2^9000)
noncomputable def Ey:D->D->Option D:=gI λi j=>if Ho i j=true then some (.int (i.fdiv j))else none
noncomputable def ux:D->D->Option D:=gI λi j=>if decide (j≠0)=true then some (.int (i.fmod j))else none
noncomputable def Wk(i j:Int):Bool:=decide (0<=j)&&decide (j<=1000)&&decide (i.natAbs<2^64)
noncomputable def Wl:D->D->Option D:=gI λi j=>if Wk i j=true then some (.int (i^j.toNat))else none
noncomputable def gLt:D->D->Option D:=gI λi j=>some (.bool (decide (i<j)))
noncomputable def gLe:D->D->Option D:=gI λi j=>some (.bool (decide (i<=j)))
noncomputable def gGt:D->D->Option D:=gI λi j=>some (.bool (decide (j<i)))
noncomputable def gGe:D->D->Option D:=gI λi j=>some (.bool (decide (j<=i)))
noncomputable def gEq:D->D->Option D:=λx y=>if(SeqAt.shaped x&&SeqAt.shaped y)=true then some (.bool (PyData.eqv x y))else none
noncomputable def gNe:D->D->Option D:=λx y=>if(SeqAt.shaped x&&SeqAt.shaped y)=true then some (.bool (!PyData.eqv x y))else none
noncomputable def gNl(i:Nat):FG:=λd δ=>if i<δ.length then gN i d δ else none
noncomputable def gTn(n:Nat)(g:List D->DS->Option DS):FG:=λd δ=>match d with
 | .tuple l=>if l.length=n then g l δ else none
 |_=>none
noncomputable def uU(i:Nat)(f:FE):FS:=λδ=>(ao i δ).bind λx=>(f δ).bind λd=>match x with
 | .list l=>if l.length<1000000 then some (.nx (δ.set i (some (.d (.list (l++[d]))))))else none
 |_=>none
noncomputable def BX(i:Nat)(fk f:FE):FS:=λδ=>(f δ).bind λd=>(ao i δ).bind λx=>(fk δ).bind λk=>match x,k with
 | .list l,.int j=>(pIx l.length j).bind λn=>some (.nx (δ.set i (some (.d (.list (l.set n d))))))
 |_,_=>none
noncomputable def putAt(x:D)(n:Nat)(d:D):D:=match x with
 | .list l=>.list (l.set n d)
 | .tuple l=>.tuple (l.set n d)
 |x=>x
noncomputable def asList:D->Option (List D)
 | .list l=>some l
 |_=>none
noncomputable def nG(f:FE):FA:=λδ=>(f δ).bind asList
noncomputable def gC(lo hi:Int):List D:=(aR (hi-lo).toNat).map λ(k:Nat)=>.int (lo+(k:Int))
noncomputable def yC(i:Int):Bool:=decide (-(2^62)<=i)&&decide (i<2^62)
noncomputable def mq(fa:FA):FA:=λδ=>(fa δ).bind λl=>match l with
 |[.int j]=>if yC j=true then some (gC 0 j)else none
 |_=>none
noncomputable def U6(fa:FA):FA:=λδ=>(fa δ).bind λl=>match l with
 |[.int i,.int j]=>if(yC i&&yC j)=true then some (gC i j)else none
 |_=>none
noncomputable def gIx:D->D->Option D:=λx y=>match x,y with
 | .list l,.int i=>pAt l i
 | .tuple l,.int i=>pAt l i
 |_,_=>none
noncomputable def ju(g g':D->D->Option D)(fa fb fc:FE):FE:=λδ=>(fa δ).bind λx=>(fb δ).bind λy=>(g x y).bind λz=>match z with
 | .bool true=>(fc δ).bind λw=>g' y w
 | .bool false=>some (.bool false)
 |_=>none
noncomputable def xH(g g' B:D->D->Option D)(fa fb fc fd:FE):FE:=λδ=>(fa δ).bind λx=>(fb δ).bind λy=>(g x y).bind λz=>match z with
 | .bool true=>(fc δ).bind λw=>(g' y w).bind λZ=>match Z with
  | .bool true=>(fd δ).bind λu=>B w u
  | .bool false=>some (.bool false)
  |_=>none
 | .bool false=>some (.bool false)
 |_=>none
noncomputable def isNone:D->Bool
 | .none=>true
 |_=>false
noncomputable def Ez:D->Option D:=λx=>some (.bool (isNone x))
noncomputable def Y6:D->Option D:=λx=>some (.bool (!isNone x))
noncomputable def iz:List D->Option D
 |[.list l]=>some (.int l.length)
 |[.tuple l]=>some (.int l.length)
 |_=>none
noncomputable def dU:List D->Option (List Int)
 |[]=>some []
 | .int i::r=>(dU r).map (i :: ·)
 |_=>none
noncomputable def mxI(i:Int)(r:List Int):Int:=r.foldl (λa b=>if a<b then b else a) i
noncomputable def yD:List D->Option D
 |[.list l]=>match dU l with
  |some (i::r)=>some (.int (mxI i r))
  |_=>none
 |_=>none
noncomputable def insI(x:Int):List Int->List Int
 |[]=>[x]
 |y::r=>if x<=y then x::y::r else y::insI x r
noncomputable def zZ:List Int->List Int
 |[]=>[]
 |x::r=>insI x (zZ r)
noncomputable def M5:List D->Option D
 |[.list l]=>(dU l).bind λns=>if ns.length<64 then some (.list ((zZ ns).map .int))else none
 |_=>none
noncomputable def tR:List D->Option D
 |[.int i]=>some (.int i)
 |[.bool b]=>some (.int (if b then 1 else 0))
 |_=>none
noncomputable def ae2:List D->Option D
 |[.int i]=>some (.int (if i<0 then -i else i))
 |_=>none
noncomputable def Ar:List D->Option D
 |[.int i,.int j]=>some (.int (if j>i then j else i))
 |_=>none
noncomputable def Y7:List D->Option D
 |[.int i,.int j]=>some (.int (if j<i then j else i))
 |_=>none
noncomputable def tyD:D->String
 | .none => "NoneType"
 | .bool _ => "bool"
 | .int _ => "int"
 | .str _ => "str"
 | .list _ => "list"
 | .tuple _ => "tuple"
 | .dict _ => "dict"
noncomputable def gIs(c:String):D->Option D:=λd=>some (.bool (isT c (tyD d)))
noncomputable def RK:D->Option D
 | .int i=>some (.int (-i))
 |_=>none
noncomputable def pJ:D->D->Option D:=λx y=>match x,y with
 | .list l,.list m=>if l.length+m.length<=1000000 then some (.list (l++m))else none
 |_,_=>none
noncomputable def uy:D->D->Option D:=λx y=>match x,y with
 | .list l,.int k=>if l.length*k.toNat<=1000000/\-(2^63)<=k/\k<2^63 then some (.list (aN k.toNat l).flatten)else none
 |_,_=>none
noncomputable def wG:D->Option D
 | .list l=>some (.list l)
 | .tuple l=>some (.list l)
 |_=>none
noncomputable abbrev FO:=DS->Option (Option Int)
noncomputable def pK:FO:=λ_=>some none
noncomputable def fM(f:FE):FO:=λδ=>(f δ).bind λx=>match x with
 | .int i=>some (some i)
 |_=>none
noncomputable def pSx(n d:Nat):Option Int->Nat
 |none=>d
 |some i=>if i<0 then(i+n).toNat else min i.toNat n
noncomputable def cutD(xs:List D)(lo hi:Option Int):List D:=(xs.drop (pSx xs.length 0 lo)).take (pSx xs.length xs.length hi-pSx xs.length 0 lo)
noncomputable def dSl(f:FE)(lo hi:FO):FE:=λδ=>(f δ).bind λx=>(lo δ).bind λa=>(hi δ).bind λb=>match x with
 | .list l=>some (.list (cutD l a b))
 |_=>none
noncomputable def Y8(i j:Nat)(fa:FA):FS:=λδ=>(fa δ).bind λl=>match l with
 |[x,y]=>if i<δ.length/\j<δ.length then some (.nx ((δ.set i (some (.d x))).set j (some (.d y))))else none
 |_=>none
noncomputable def pL(l:List D):List D:=l.mapIdx λi x=>.tuple [.int (i:Int),x]
noncomputable def I_(f:FE):FA:=λδ=>(f δ).bind λd=>match d with
 | .list l=>some (pL l)
 |_=>none
noncomputable def uz:List D->Option (List Bool)
 |[]=>some []
 | .bool b::r=>(uz r).map (b :: ·)
 |_=>none
noncomputable def RM:List D->Option D
 |[.list l]=>(uz l).map λbs=>.bool (bs.all id)
 |_=>none
noncomputable def lN:List D->List D->List D
 |x::r,y::s=>.tuple [x,y]::lN r s
 |_,_=>[]
noncomputable def RN(f g:FE):FA:=λδ=>(f δ).bind λd=>(g δ).bind λe=>match d,e with
 | .list l,.list m=>some (lN l m)
 |_,_=>none
noncomputable def RP(f:FE):FA:=λδ=>(f δ).bind λd=>match d with
 | .list l=>some l.reverse
 |_=>none
theorem pN:∀(r:List Int)(i:Int),mxI i r∈i::r/\∀a∈i::r,a<=mxI i r
 |[],i=>⟨aG,λa h=>by rw[aO.mp h];exact eV _⟩
 |b::r,i=>by
  have Z:=pN r (if i<b then b else i)
  have e:mxI i (b::r)=mxI (if i<b then b else i) r:=rfl
  rw[e]
  constructor
  ·rcases aU.mp Z.1 with z|z
   ·rw[z]
    split<;>simp
   ·exact aJ _ (aJ _ z)
  ·intro a h
   have X:=Z.2 _ aG
   have Y:i<=(if i<b then b else i)/\b<=(if i<b then b else i):=by split<;>omega
   rcases aU.mp h with rfl|h
   ·exact gW Y.1 X
   ·rcases aU.mp h with rfl|h
    ·exact gW Y.2 X
    ·exact Z.2 a (aJ _ h)
theorem insI_perm(x:Int):∀l,(insI x l).Perm (x::l)
 |[]=>.refl _
 |y::r=>by
  unfold insI
  split
  ·exact .refl _
  ·exact((insI_perm x r).cons y).trans (.swap x y r)
theorem pO:∀l,(zZ l).Perm l
 |[]=>.refl _
 |x::r=>(insI_perm x _).trans ((pO r).cons x)
theorem wH(x:Int):∀l,l.Pairwise (· <= ·)->(insI x l).Pairwise (· <= ·)
 |[],_=>by simp[insI]
 |y::r,h=>by
  obtain⟨h1,h2⟩:=bO.mp h
  unfold insI
  split
  ·next c=>
   refine bO.mpr ⟨λa ha=>?_,h⟩
   rcases aU.mp ha with rfl|z
   ·exact c
   ·exact gW c (h1 a z)
  ·next c=>
   refine bO.mpr ⟨λa ha=>?_,wH x r h2⟩
   rcases aU.mp ((insI_perm x r).mem_iff.mp ha)with rfl|z
   ·omega
   ·exact h1 a z
theorem rN:∀l,(zZ l).Pairwise (· <= ·)
 |[]=>.nil
 |x::r=>wH x _ (rN r)
end D3
variable{u:L2.HO}{kvs:List (D3.D×D3.D)}{d:D3.D}{ds:List D3.D}{pl:Bool}{as:List Addr}{δ:D3.DS}{L:List Nat}
namespace D3
open PySem PySem.Spec PyProof.Rows L2 My
noncomputable abbrev Ok:=Addr->Prop
noncomputable abbrev St:=L2.St
class Chg (u:HO):Prop where
 ch:(∃xs,u = .lst xs)\/(∃kvs,u = .dK kvs)\/∃kvs,u = .dT kvs
instance (xs:List V):Chg (.lst xs):=⟨.inl ⟨xs,rfl⟩⟩
instance (kvs:List (Key×V)):Chg (.dK kvs):=⟨.inr (.inl ⟨kvs,rfl⟩)⟩
instance (kvs:List (List Key×V)):Chg (.dT kvs):=⟨.inr (.inr ⟨kvs,rfl⟩)⟩
theorem Chg.frz{o:Obj}{u:HO}(h:Chg (.frz o u)):False:=by
 rcases h.ch with⟨_,z⟩|⟨_,z⟩|⟨_,z⟩<;>cases z
theorem Chg.tup{xs:List V}(h:Chg (.tup xs)):False:=by
 rcases h.ch with⟨_,z⟩|⟨_,z⟩|⟨_,z⟩<;>cases z
noncomputable def Chd(o:Option HO):Prop:=∃u,o=some u/\Chg u
theorem Chd.ne{o:Option HO}(h:Chd o):o≠none:=by
 obtain⟨u,rfl,_⟩:=h
 simp
noncomputable def SqK(K:PySem.W.Frag)(H:Hp)(a:Addr)(xs:List V):Prop:=(∃o,H a=some (.frz o (.lst xs))) \/
 ∃(o:Obj)(its:Array Value)(n:Nat),K.lookup a=some o/\o.cls = .type "list"/\o.dict=none/\o.data = .seq its n/\its.size<=sizeLine/\Vals xs its.toList
theorem SqK.sq{xs:List V}(h:SqK K H a xs):SqL K H a xs:=by
 rcases h with⟨o,h⟩|h
 ·exact .inl (.inr ⟨o,h⟩)
 ·exact .inr h
noncomputable def jw(H:Hp)(a:Addr)(xs:List V):Prop:=H a=some (.tup xs)
theorem jw.sq{xs:List V}(h:jw H a xs):SqT K H a xs:=.inl (.inl h)
theorem jw.same{xs:List V}(e:Same H H')(h:jw H a xs):jw H' a xs:=e _ _ h
theorem jw.upd{xs:List V}[B:Chg u](h:H a=some u)(q:jw H b xs):jw (upd H a o) b xs:=by
 unfold jw
 rw[cG (yg q h (by intro z;subst z;exact B.tup))]
 exact q
noncomputable def dk0:List (D×D)->List (Key×V)
 |[]=>[]
 | (.int i,.int j)::r=>(.inl i,.int j)::dk0 r
 | (.int i,.bool true)::r=>(.inl i,.bl true)::dk0 r
 |_::r=>(.inl 0,.non)::dk0 r
noncomputable def tkK:List D->Option (List Key)
 |[]=>some []
 | .int i::r=>(tkK r).map (.inl i :: ·)
 |_=>none
noncomputable def tkD:List (D×D)->Option (List (List Key×V))
 |[]=>some []
 | (.tuple l,.bool true)::r=>(tkK l).bind λk=>(tkD r).map ((k,.bl true) :: ·)
 |_=>none
noncomputable def dh0(kvs:List (D×D)):HO:=match kvs with
 |[]=>.dK []
 |q::r=>match tkD (q::r)with
  |some ts=>.dT ts
  |none=>.dK (dk0 (q::r))
theorem M6(kvs:List (D×D)):(∃ks,dh0 kvs = .dK ks)\/∃ks,dh0 kvs = .dT ks:=by
 cases kvs with
 |nil=>exact .inl ⟨_,rfl⟩
 |cons q r=>
  unfold dh0
  dsimp only
  split
  ·exact .inr ⟨_,rfl⟩
  ·exact .inl ⟨_,rfl⟩
instance (kvs:List (D×D)):Chg (dh0 kvs):=⟨by
 rcases M6 kvs with⟨ks,z⟩|⟨ks,z⟩
 ·exact .inr (.inl ⟨ks,z⟩)
 ·exact .inr (.inr ⟨ks,z⟩)⟩
noncomputable def scV:D->V
 | .int i=>.int i
 |_=>.non
noncomputable def scs:List D->Bool
 |[]=>true
 | .int _::r=>scs r
 | .none::r=>scs r
 |_=>false
noncomputable def TV(H:Hp)(v:V)(d:D):Prop:=(v = .non/\d = .none)\/∃b ds,v = .ref b/\d = .tuple ds/\jw H b (ds.map scV)/\scs ds=true
inductive TVs(H:Hp):List (Key×V)->List (D×D)->Prop
 |nil:TVs H [] []
 |cons {i:Int} {v:V} {d:D} {r:List (Key×V)} {r':List (D×D)}:TV H v d->TVs H r r'->TVs H ((.inl i,v)::r) ((.int i,d)::r')
theorem TV.imp(h:∀b xs,jw H b xs->jw H' b xs){v:V}{d:D}(q:TV H v d):TV H' v d:=by
 rcases q with q|⟨b,ds,h1,h2,Y,Z⟩
 ·exact .inl q
 ·exact .inr ⟨b,ds,h1,h2,h _ _ Y,Z⟩
theorem TVs.imp(h:∀b xs,jw H b xs->jw H' b xs){ks:List (Key×V)}{kvs:List (D×D)}(q:TVs H ks kvs):TVs H' ks kvs:=by
 induction q with
 |nil=>exact .nil
 |cons t _ Z=>exact .cons (t.imp h) Z
noncomputable def Hq:List (D×D)->Bool
 |[]=>true
 | (_,.int _)::r=>Hq r
 | (_,.bool _)::r=>Hq r
 |_=>false
noncomputable def TW(H:Hp)(v:V)(m:List Int)(z:Int):Prop:=∃b c,v = .ref b/\jw H b [.ref c,.int z]/\jw H c (m.map V.int)
inductive TTs(H:Hp):List (List Key×V)->List (D×D)->Prop
 |nil:TTs H [] []
 |cons {k m:List Int} {z:Int} {v:V} {r:List (List Key×V)} {r':List (D×D)}:TW H v m z->TTs H r r'->TTs H ((k.map Sum.inl,v)::r) ((.tuple (k.map .int),.tuple [.tuple (m.map .int),.int z])::r')
theorem TTs.imp(h:∀b xs,jw H b xs->jw H' b xs){ks:List (List Key×V)}{kvs:List (D×D)}(q:TTs H ks kvs):TTs H' ks kvs:=by
 induction q with
 |nil=>exact .nil
 |cons t _ Z=>
  obtain⟨b,c,h1,h2,Y⟩:=t
  exact .cons ⟨b,c,h1,h _ _ h2,h _ _ Y⟩ Z
noncomputable def DH(H:Hp)(u:HO)(kvs:List (D×D)):Prop:=(Hq kvs=true/\u=dh0 kvs)\/(∃ks,u = .dK ks/\TVs H ks kvs)\/∃q ks,u = .dT (q::ks)/\TTs H (q::ks) kvs
theorem DH.imp(h:∀b xs,jw H b xs->jw H' b xs){u:HO}{kvs:List (D×D)}(q:DH H u kvs):DH H' u kvs:=by
 rcases q with q|⟨ks,q1,q2⟩|⟨k,ks,q1,q2⟩
 ·exact .inl q
 ·exact .inr (.inl ⟨ks,q1,q2.imp h⟩)
 ·exact .inr (.inr ⟨k,ks,q1,q2.imp h⟩)
theorem DH.same(q:DH H u kvs)(e:Same H H'):DH H' u kvs:=q.imp λ_ _ h=>jw.same e h
theorem DH.upd{B:HO}[J:Chg u]{kvs:List (D×D)}(q:DH H B kvs)(h:H a=some u):DH (upd H a o) B kvs:=q.imp λ_ _ z=>jw.upd h z
theorem DH.or(q:DH H u kvs):(∃ks,u = .dK ks)\/∃ks,u = .dT ks:=by
 rcases q with⟨_,rfl⟩|⟨ks,rfl,_⟩|⟨k,ks,rfl,_⟩
 ·exact M6 kvs
 ·exact .inl ⟨ks,rfl⟩
 ·exact .inr ⟨_,rfl⟩
theorem DH.chg(q:DH H u kvs):Chg u:=⟨.inr q.or⟩
theorem DH.old(q:DH H u kvs)(h:Hq kvs=true):u=dh0 kvs:=by
 rcases q with q|⟨ks,rfl,q⟩|⟨k,ks,rfl,q⟩
 ·exact q.2
 ·cases q with
  |nil=>rfl
  |cons t _=>
   rcases t with⟨_,rfl⟩|⟨_,_,_,rfl,_,_⟩<;>cases h
 ·cases q with
  |cons _ _=>cases h
mutual
inductive RA(K:PySem.W.Frag)(ok:Ok)(pl:Bool)(H:Hp):V->D->Prop
 |non:RA K ok pl H .non .none
 |bl (b:Bool):RA K ok pl H (.bl b) (.bool b)
 |int (i:Int):RA K ok pl H (.int i) (.int i)
 |str (x:Str):RA K ok pl H (.str x) (.str x)
 |lst {a:Addr} {xs:List V} {ds:List D}:H a=some (.lst xs)->ok a->RAs K ok pl H xs ds->RA K ok pl H (.ref a) (.list ds)
 |lsk {a:Addr} {xs:List V} {ds:List D}:SqK K H a xs->pl=true->RAs K ok pl H xs ds->RA K ok pl H (.ref a) (.list ds)
 |tup {a:Addr} {xs:List V} {ds:List D}:jw H a xs->RAs K ok pl H xs ds->RA K ok pl H (.ref a) (.tuple ds)
 |dic {a:Addr} {u:HO} {kvs:List (D×D)}:H a=some u->DH H u kvs->ok a->RA K ok pl H (.ref a) (.dict kvs)
 |dik {a:Addr} {u:HO} {kvs:List (D×D)} {o:Obj}:H a=some (.frz o u)->DH H u kvs->pl=true->RA K ok pl H (.ref a) (.dict kvs)
inductive RAs(K:PySem.W.Frag)(ok:Ok)(pl:Bool)(H:Hp):List V->List D->Prop
 |nil:RAs K ok pl H [] []
 |cons {v:V} {d:D} {vs:List V} {ds:List D}:RA K ok pl H v d->RAs K ok pl H vs ds->RAs K ok pl H (v::vs) (d::ds)
end
section
variable{K:PySem.W.Frag}{ok ok':Ok}{pl pl':Bool}{H H':Hp}
theorem RA.ind{P:V->D->Prop}{Q:List V->List D->Prop}(c1:P .non .none)(c2:∀b,P (.bl b) (.bool b))(c3:∀i,P (.int i) (.int i))(c4:∀x,P (.str x) (.str x))
 (c5:∀{a:Addr}{xs:List V}{ds:List D},H a=some (.lst xs)->ok a->Q xs ds->P (.ref a) (.list ds)) (Z:∀{a:Addr}{xs:List V}{ds:List D},SqK K H a xs->pl=true->Q xs ds->P (.ref a) (.list ds)) (Y:∀{a:Addr}{xs:List V}{ds:List D},jw H a xs->Q xs ds->P (.ref a) (.tuple ds))
 (W:∀{a:Addr}{u:HO}{kvs:List (D×D)},H a=some u->DH H u kvs->ok a->P (.ref a) (.dict kvs)) (O:∀{a:Addr}{u:HO}{kvs:List (D×D)}{o:Obj},H a=some (.frz o u)->DH H u kvs->pl=true->P (.ref a) (.dict kvs)) (J:Q [] []) (B:∀{v:V}{d:D}{vs:List V}{ds:List D},P v d->Q vs ds->Q (v::vs) (d::ds)) :
 (∀{v:V}{d:D},RA K ok pl H v d->P v d)/\∀{v:List V}{d:List D},RAs K ok pl H v d->Q v d:=
 ⟨λh=>RA.rec (motive_1:=λv d _=>P v d) (motive_2:=λv d _=>Q v d) c1 c2 c3 c4 (λh o _ q=>c5 h o q) (λh o _ q=>Z h o q) (λh _ q=>Y h q) (λh g o=>W h g o) (λh g o=>O h g o) J (λ_ _ a q=>B a q) h,
  λh=>RAs.rec (motive_1:=λv d _=>P v d) (motive_2:=λv d _=>Q v d) c1 c2 c3 c4 (λh o _ q=>c5 h o q) (λh o _ q=>Z h o q) (λh _ q=>Y h q) (λh g o=>W h g o) (λh g o=>O h g o) J (λ_ _ a q=>B a q) h⟩
theorem RA.imp2(J:∀a,ok a->ok' a)(B:pl=true->pl'=true):(∀{v:V}{d:D},RA K ok pl H v d->RA K ok' pl' H v d)/\∀{v:List V}{d:List D},RAs K ok pl H v d->RAs K ok' pl' H v d:=
 RA.ind .non .bl .int .str (λh o q=>.lst h (J _ o) q) (λh o q=>.lsk h (B o) q) (λh q=>.tup h q) (λh g o=>.dic h g (J _ o)) (λh g o=>.dik h g (B o)) .nil .cons
theorem RA.imp(J:∀a,ok a->ok' a)(B:pl=true->pl'=true){v:V}{d:D}(h:RA K ok pl H v d):RA K ok' pl' H v d:=(RA.imp2 J B).1 h
theorem RAs.imp(J:∀a,ok a->ok' a)(B:pl=true->pl'=true){v:List V}{d:List D}(h:RAs K ok pl H v d):RAs K ok' pl' H v d:=(RA.imp2 J B).2 h
theorem SqK.same{xs:List V}(e:Same H H')(h:SqK K H a xs):SqK K H' a xs:=by
 rcases h with⟨o,h⟩|h
 ·exact .inl ⟨o,e _ _ h⟩
 ·exact .inr h
theorem RA.same2(e:Same H H'):(∀{v:V}{d:D},RA K ok pl H v d->RA K ok pl H' v d)/\∀{v:List V}{d:List D},RAs K ok pl H v d->RAs K ok pl H' v d:=
 RA.ind .non .bl .int .str (λh o q=>.lst (e _ _ h) o q) (λh o q=>.lsk (h.same e) o q) (λh q=>.tup (jw.same e h) q) (λh g o=>.dic (e _ _ h) (g.same e) o) (λh g o=>.dik (e _ _ h) (g.same e) o) .nil .cons
theorem RA.same(e:Same H H'){v:V}{d:D}(h:RA K ok pl H v d):RA K ok pl H' v d:=(RA.same2 e).1 h
theorem RAs.same(e:Same H H'){v:List V}{d:List D}(h:RAs K ok pl H v d):RAs K ok pl H' v d:=(RA.same2 e).2 h
theorem RA.flat2:(∀{v:V}{d:D},RA K ok pl H v d->flat d=true->RA K ok' pl' H v d)/\∀{v:List V}{d:List D},RAs K ok pl H v d->flats d=true->RAs K ok' pl' H v d:=
 RA.ind (λ_=>.non) (λb _=>.bl b) (λi _=>.int i) (λx _=>.str x) (λ_ _ _ h=>by simp[D3.flat]at h) (λ_ _ _ h=>by simp[D3.flat]at h) (λt q h=>.tup t (q (by simpa[D3.flat]using h))) (λ_ _ _ h=>by simp[D3.flat]at h) (λ_ _ _ h=>by simp[D3.flat]at h) (λ_=>.nil) λa q h=>by
  rw[flats,aX]at h
  exact .cons (a h.1) (q h.2)
theorem RA.flat(B:flat d=true)(h:RA K ok pl H v d):RA K ok' pl' H v d:=RA.flat2.1 h B
theorem RAs.flat{v:List V}{d:List D}(B:flats d=true)(h:RAs K ok pl H v d):RAs K ok' pl' H v d:=RA.flat2.2 h B
theorem SqK.upd{xs:List V}[B:Chg u](h:H a=some u)(q:SqK K H b xs):SqK K (upd H a o) b xs:=by
 rcases q with⟨o',q⟩|q
 ·refine .inl ⟨o',?_⟩
  rw[cG (yg q h (by intro z;subst z;first|exact B.frz|exact B.tup))]
  exact q
 ·exact .inr q
theorem RA.upd2[B:Chg u](h:H a=some u)(na:¬ok a):(∀{v:V}{d:D},RA K ok pl H v d->RA K ok pl (upd H a o) v d)/\∀{v:List V}{d:List D},RAs K ok pl H v d->RAs K ok pl (upd H a o) v d:=
 RA.ind .non .bl .int .str (λe k q=>.lst (by rw[cG (by intro z;subst z;exact na k)];exact e) k q) (λe k q=>.lsk (e.upd h) k q) (λe q=>.tup (jw.upd h e) q) (λe g k=>.dic (by rw[cG (by intro z;subst z;exact na k)];exact e) (g.upd h) k) (λe g k=>.dik (by rw[cG (yg e h (by intro z;subst z;exact B.frz))];exact e) (g.upd h) k) .nil .cons
theorem RA.upd[B:Chg u](h:H a=some u)(na:¬ok a){v:V}{d:D}(r:RA K ok pl H v d):RA K ok pl (upd H a o) v d:=(RA.upd2 h na).1 r
theorem RAs.upd[B:Chg u](h:H a=some u)(na:¬ok a){v:List V}{d:List D}(r:RAs K ok pl H v d):RAs K ok pl (upd H a o) v d:=(RA.upd2 h na).2 r
theorem RA.track2:(∀{v:V}{d:D},RA K ok pl H v d->RA K (λb=>ok b/\H b≠none) pl H v d)/\∀{v:List V}{d:List D},RAs K ok pl H v d->RAs K (λb=>ok b/\H b≠none) pl H v d:=
 RA.ind .non .bl .int .str (λe k q=>.lst e ⟨k,by rw[e];simp⟩ q) (λe k q=>.lsk e k q) (λe q=>.tup e q) (λe g k=>.dic e g ⟨k,by rw[e];simp⟩) (λe g k=>.dik e g k) .nil .cons
theorem RA.track(h:RA K ok pl H v d):RA K (λb=>ok b/\H b≠none) pl H v d:=RA.track2.1 h
theorem RAs.track{v:List V}{d:List D}(h:RAs K ok pl H v d):RAs K (λb=>ok b/\H b≠none) pl H v d:=RA.track2.2 h
theorem RAs.length:∀{v:List V}{d:List D},RAs K ok pl H v d->v.length=d.length
 |_,_,.nil=>rfl
 |_,_,.cons _ q=>by simp[RAs.length q]
theorem RAs.get:∀{v:List V}{d:List D}{i:Nat}{x:D},RAs K ok pl H v d->d[i]? = some x->∃y,v[i]? = some y/\RA K ok pl H y x
 |_,_,_,_,.nil,h=>by simp at h
 |_,_,0,_,.cons a _,h=>by simp at h;subst h;exact⟨_,rfl,a⟩
 |_,_,i+1,_,.cons _ q,h=>by
  obtain⟨y,e,r⟩:=RAs.get (i:=i) q (by simpa using h)
  exact⟨y,by simpa using e,r⟩
theorem RAs.append:∀{v B:List V}{d d':List D},RAs K ok pl H v d->RAs K ok pl H B d'->RAs K ok pl H (v++B) (d++d')
 |_,_,_,_,.nil,q=>q
 |_,_,_,_,.cons a r,q=>.cons a (RAs.append r q)
theorem RAs.set{x:V}{y:D}(r:RA K ok pl H x y):∀{v:List V}{d:List D}(i:Nat),RAs K ok pl H v d->RAs K ok pl H (v.set i x) (d.set i y)
 |_,_,_,.nil=>.nil
 |_,_,0,.cons _ q=>.cons r q
 |_,_,i+1,.cons a q=>.cons a (RAs.set r i q)
theorem RAs.take:∀{v:List V}{d:List D}(n:Nat),RAs K ok pl H v d->RAs K ok pl H (v.take n) (d.take n)
 |_,_,0,_=>by simp;exact .nil
 |_,_,_+1,.nil=>.nil
 |_,_,n+1,.cons a q=>.cons a (RAs.take n q)
theorem RAs.drop:∀{v:List V}{d:List D}(n:Nat),RAs K ok pl H v d->RAs K ok pl H (v.drop n) (d.drop n)
 |_,_,0,q=>q
 |_,_,_+1,.nil=>.nil
 |_,_,n+1,.cons _ q=>RAs.drop n q
theorem RAs.reverse:∀{v:List V}{d:List D},RAs K ok pl H v d->RAs K ok pl H v.reverse d.reverse
 |_,_,.nil=>.nil
 |_,_,.cons a q=>by
  rw[jy,jy]
  exact(RAs.reverse q).append (.cons a .nil)
theorem RA.rd2:(∀{v:V}{d:D},RA K ok pl H v d->d.canLay0=true->RdV K H v d)/\∀{v:List V}{d:List D},RAs K ok pl H v d->PyData.canLayAll0 d=true->RdVs K H v d:=
 RA.ind (λ_=>.non) (λb _=>.bl b) (λi _=>.int i) (λx _=>.str x) (λe _ q h=>.lst (SqL.of e) (q (by simpa[PyData.canLay0]using h))) (λe _ q h=>.lst e.sq (q (by simpa[PyData.canLay0]using h))) (λe q h=>.tup e.sq (q (by simpa[PyData.canLay0]using h))) (λ_ _ _ h=>by simp[PyData.canLay0]at h) (λ_ _ _ h=>by simp[PyData.canLay0]at h) (λ_=>.nil) λa q h=>by
  rw[PyData.canLayAll0,aX]at h
  exact .cons (a h.1) (q h.2)
theorem RA.rd(B:d.canLay0=true)(h:RA K ok pl H v d):RdV K H v d:=RA.rd2.1 h B
theorem RA.intE{i:Int}(h:RA K ok pl H v (.int i)):v = .int i:=by cases h;rfl
theorem RA.blE{b:Bool}(h:RA K ok pl H v (.bool b)):v = .bl b:=by cases h;rfl
theorem RA.lstE(h:RA K ok pl H v (.list ds)):∃a xs,v = .ref a/\SqL K H a xs/\RAs K ok pl H xs ds:=by
 cases h with
 |lst e k q=>exact⟨_,_,rfl,SqL.of e,q⟩
 |lsk e k q=>exact⟨_,_,rfl,e.sq,q⟩
theorem RA.dicU(h:RA K ok pl H v (.dict kvs)):∃a u,v = .ref a/\L2.Rd H a u/\DH H u kvs:=by
 cases h with
 |dic e g k=>exact⟨_,_,rfl,.inl e,g⟩
 |dik e g k=>exact⟨_,_,rfl,.inr ⟨_,e⟩,g⟩
theorem RA.dicE(h:RA K ok pl H v (.dict kvs))(B:Hq kvs=true):∃a,v = .ref a/\L2.Rd H a (dh0 kvs):=by
 obtain⟨a,u,h1,h2,Z⟩:=h.dicU
 rw[Z.old B]at h2
 exact⟨a,h1,h2⟩
theorem RA.tupE(h:RA K ok pl H v (.tuple ds)):∃a xs,v = .ref a/\SqT K H a xs/\RAs K ok pl H xs ds:=by
 cases h with
 |tup e q=>exact⟨_,_,rfl,e.sq,q⟩
theorem RA.tupE0(h:RA K ok pl H v (.tuple ds)):∃a xs,v = .ref a/\jw H a xs/\RAs K ok pl H xs ds:=by
 cases h with
 |tup e q=>exact⟨_,_,rfl,e,q⟩
end
inductive Fl where
 |A
 |O
 |L
 |N
 |M
 deriving DecidableEq
noncomputable def isN:Option Fl->Bool
 |some .N=>true
 |some .M=>true
 |_=>false
mutual
inductive RT(K:PySem.W.Frag)(H:Hp):V->D->List Addr->Prop
 |non:RT K H .non .none []
 |bl (b:Bool):RT K H (.bl b) (.bool b) []
 |int (i:Int):RT K H (.int i) (.int i) []
 |str (x:Str):RT K H (.str x) (.str x) []
 |lst {a:Addr} {xs:List V} {ds:List D} {as:List Addr}:H a=some (.lst xs)->RTs K H xs ds as->RT K H (.ref a) (.list ds) (a::as)
 |tup {a:Addr} {xs:List V} {ds:List D} {as:List Addr}:jw H a xs->RTs K H xs ds as->RT K H (.ref a) (.tuple ds) as
 |dic {a:Addr} {u:HO} {kvs:List (D×D)}:H a=some u->DH H u kvs->RT K H (.ref a) (.dict kvs) [a]
inductive RTs(K:PySem.W.Frag)(H:Hp):List V->List D->List Addr->Prop
 |nil:RTs K H [] [] []
 |cons {v:V} {d:D} {vs:List V} {ds:List D} {as bs:List Addr}:RT K H v d as->RTs K H vs ds bs->RTs K H (v::vs) (d::ds) (as++bs)
end
section
variable{K:PySem.W.Frag}{H H':Hp}
theorem RT.ind{P:V->D->List Addr->Prop}{Q:List V->List D->List Addr->Prop}(c1:P .non .none [])(c2:∀b,P (.bl b) (.bool b) [])(c3:∀i,P (.int i) (.int i) [])(Z:∀x,P (.str x) (.str x) [])
 (Y:∀{a:Addr}{xs:List V}{ds:List D}{as:List Addr},H a=some (.lst xs)->Q xs ds as->P (.ref a) (.list ds) (a::as)) (W:∀{a:Addr}{xs:List V}{ds:List D}{as:List Addr},jw H a xs->Q xs ds as->P (.ref a) (.tuple ds) as)
 (O:∀{a:Addr}{u:HO}{kvs:List (D×D)},H a=some u->DH H u kvs->P (.ref a) (.dict kvs) [a]) (J:Q [] [] []) (B:∀{v:V}{d:D}{vs:List V}{ds:List D}{as bs:List Addr},P v d as->Q vs ds bs->Q (v::vs) (d::ds) (as++bs)) :
 (∀{v:V}{d:D}{as:List Addr},RT K H v d as->P v d as)/\∀{v:List V}{d:List D}{as:List Addr},RTs K H v d as->Q v d as:=
 ⟨λh=>RT.rec (motive_1:=λv d as _=>P v d as) (motive_2:=λv d as _=>Q v d as) c1 c2 c3 Z (λh _ q=>Y h q) (λh _ q=>W h q) (λh g=>O h g) J (λ_ _ a q=>B a q) h,
  λh=>RTs.rec (motive_1:=λv d as _=>P v d as) (motive_2:=λv d as _=>Q v d as) c1 c2 c3 Z (λh _ q=>Y h q) (λh _ q=>W h q) (λh g=>O h g) J (λ_ _ a q=>B a q) h⟩
theorem RT.ra2{ok:Ok}:(∀{v:V}{d:D}{as:List Addr},RT K H v d as->(∀a∈as,ok a)->RA K ok pl H v d)/\∀{v:List V}{d:List D}{as:List Addr},RTs K H v d as->(∀a∈as,ok a)->RAs K ok pl H v d:=
 RT.ind (λ_=>.non) (λb _=>.bl b) (λi _=>.int i) (λx _=>.str x) (λe q h=>.lst e (h _ aG) (q λa ha=>h a (aJ _ ha))) (λe q h=>.tup e (q h)) (λe g h=>.dic e g (h _ aG)) (λ_=>.nil) λe q h=>.cons (e λa ha=>h a (bY _ ha)) (q λa ha=>h a (bJ _ ha))
theorem RT.ra{ok:Ok}(r:RT K H v d as)(h:∀a∈as,ok a):RA K ok pl H v d:=RT.ra2.1 r h
theorem RT.same2(s:Same H H'):(∀{v:V}{d:D}{as:List Addr},RT K H v d as->RT K H' v d as)/\∀{v:List V}{d:List D}{as:List Addr},RTs K H v d as->RTs K H' v d as:=
 RT.ind .non .bl .int .str (λe q=>.lst (s _ _ e) q) (λe q=>.tup (jw.same s e) q) (λe g=>.dic (s _ _ e) (g.same s)) .nil .cons
theorem RT.same(s:Same H H'){v:V}{d:D}{as:List Addr}(h:RT K H v d as):RT K H' v d as:=(RT.same2 s).1 h
theorem RT.upd2[B:Chg u](h:H a=some u):(∀{v:V}{d:D}{as:List Addr},RT K H v d as->a∉as->RT K (upd H a o) v d as)/\∀{v:List V}{d:List D}{as:List Addr},RTs K H v d as->a∉as->RTs K (upd H a o) v d as:=
 RT.ind (λ_=>.non) (λb _=>.bl b) (λi _=>.int i) (λx _=>.str x) (λe q na=>.lst (by rw[cG (λz=>na (by rw[<-z];exact aG))];exact e) (q λz=>na (aJ _ z))) (λe q na=>.tup (jw.upd h e) (q na)) (λe g na=>.dic (by rw[cG (λz=>na (by rw[<-z];exact aG))];exact e) (g.upd h)) (λ_=>.nil) λe q na=>.cons (e λz=>na (bY _ z)) (q λz=>na (bJ _ z))
theorem RT.upd[B:Chg u](h:H a=some u){v:V}{d:D}{as:List Addr}(na:a∉as)(r:RT K H v d as):RT K (upd H a o) v d as:=(RT.upd2 h).1 r na
theorem RT.chd2:(∀{v:V}{d:D}{as:List Addr},RT K H v d as->∀a∈as,Chd (H a))/\∀{v:List V}{d:List D}{as:List Addr},RTs K H v d as->∀a∈as,Chd (H a):=
 RT.ind (λ_ h=>by cases h) (λ_ _ h=>by cases h) (λ_ _ h=>by cases h) (λ_ _ h=>by cases h) (λe q a h=>by
  rcases aU.mp h with rfl|z
  ·exact⟨_,e,inferInstance⟩
  ·exact q a z) (λ_ q=>q) (λe g a h=>by rw[aO.mp h];exact⟨_,e,g.chg⟩) (λ_ h=>by cases h) λe q a h=>by
  rcases cD.mp h with z|z
  ·exact e a z
  ·exact q a z
theorem RT.chd(r:RT K H v d as):∀a∈as,Chd (H a):=RT.chd2.1 r
theorem RTs.chd{v:List V}{d:List D}(r:RTs K H v d as):∀a∈as,Chd (H a):=RT.chd2.2 r
theorem RT.tracked(h:RT K H v d as)(a:Addr)(ha:a∈as):H a≠none:=(h.chd a ha).ne
theorem RA.rt2{ok:Ok}:(∀{v:V}{d:D},RA K ok false H v d->∃as,RT K H v d as/\as.length=nl d/\∀a∈as,ok a)/\∀{v:List V}{d:List D},RAs K ok false H v d->∃as,RTs K H v d as/\as.length=nls d/\∀a∈as,ok a:=
 RA.ind ⟨[],.non,rfl,λ_ h=>by cases h⟩ (λb=>⟨[],.bl b,rfl,λ_ h=>by cases h⟩) (λi=>⟨[],.int i,rfl,λ_ h=>by cases h⟩) (λx=>⟨[],.str x,rfl,λ_ h=>by cases h⟩) (λe k q=>by
  obtain⟨as,h1,h2,Z⟩:=q
  refine⟨_::as,.lst e h1,by rw[bB,h2,nl],λa ha=>?_⟩
  rcases aU.mp ha with rfl|z
  ·exact k
  ·exact Z a z) (λ_ k _=>by cases k) (λe q=>by
  obtain⟨as,h1,h2,Z⟩:=q
  exact⟨as,.tup e h1,by rw[h2,nl],Z⟩) (λe g k=>⟨[_],.dic e g,by simp[nl],λa ha=>by rw[aO.mp ha];exact k⟩) (λ_ _ k=>by cases k) ⟨[],.nil,rfl,λ_ h=>by cases h⟩ λe q=>by
  obtain⟨as,h1,h2,Z⟩:=e
  obtain⟨bs,W,X,Y⟩:=q
  refine⟨as++bs,.cons h1 W,by rw[bG,h2,X,nls],λa ha=>?_⟩
  rcases cD.mp ha with z|z
  ·exact Z a z
  ·exact Y a z
theorem RA.rt{ok:Ok}(h:RA K ok false H v d):∃as,RT K H v d as/\as.length=nl d/\∀a∈as,ok a:=RA.rt2.1 h
end
noncomputable def tabs:List (Addr×Str×Pos):=[(128, "turns.<locals>.<lambda>", ⟨41,42,41,72⟩)]
noncomputable def Tb(H:Hp):Prop:=∀t∈tabs,H t.1=some (.tbl t.2.1 t.2.2)
theorem Tb.same(t:Tb H)(s:Same H H'):Tb H':=λx Z=>s _ _ (t x Z)
structure Gh where
 H0:Hp
 HF:Hp
 pk:Nat->Option Addr
 pn:Nat->List Addr
 tb:Tb H0
structure Ow where
 s:Nat->Option Addr
 n:Nat->List Addr:=λ_=>[]
instance:CoeFun Ow (λ_=>Nat->Option Addr):=⟨Ow.s⟩
noncomputable abbrev ow0:Ow:=⟨λ_=>none,λ_=>[]⟩
noncomputable def okA(ow:Ow):Ok:=λa=>(∀i,ow i≠some a)/\∀i,a∉ow.n i
structure Rel(K:PySem.W.Frag)(fl:List Fl)(G:Gh)(ow:Ow)(σ:St)(H:Hp)(δ:DS):Prop where
 s0:Same G.H0 G.HF
 s1:Same G.HF H
 len:σ.length=δ.length
 own:∀i a,ow i=some a->G.H0 a=none/\((fl[i]? = some .O/\G.HF a=none)\/(fl[i]? = some .L/\∃xs,G.HF a=some (.lst xs))) /\
  ∃xs ds,σ[i]? = some (some (.ref a))/\H a=some (.lst xs)/\RAs K (okA ow) true H xs ds/\δ[i]? = some (some (.d (.list ds)))
 inj:∀i j a,ow i=some a->ow j=some a->i=j
 pin:∀i,fl[i]? = some .L->ow i=G.pk i
 dat:∀i d,δ[i]? = some (some (.d d))->isN fl[i]? = false->ow i=none->∃v,σ[i]? = some (some v)/\RA K (okA ow) true H v d
 oo:∀i d,δ[i]? = some (some (.d d))->isN fl[i]? = false->fl[i]? ≠ some .A->ow i=none->flat d=true
 nt:∀i a,a∈ow.n i->G.H0 a=none/\Chd (H a)/\((fl[i]? = some .N/\G.HF a=none)\/fl[i]? = some .M)
 nd:∀i j a,a∈ow.n i->a∈ow.n j->i=j
 ns:∀i j a,a∈ow.n i->ow j≠some a
 np:∀i,fl[i]? = some .M->ow.n i=G.pn i
 nr:∀i d,isN fl[i]? = true->δ[i]? = some (some (.d d))->∃v,σ[i]? = some (some v)/\RT K H v d (ow.n i)/\(ow.n i).Nodup
theorem Rel.tb{fl:List Fl}{G:Gh}{ow:Ow}{σ:St}(R:Rel K fl G ow σ H δ):Tb H:=G.tb.same (R.s0.trans R.s1)
theorem Rel.same0{fl:List Fl}{G:Gh}{ow:Ow}{σ:St}(R:Rel K fl G ow σ H δ):Same G.H0 H:=R.s0.trans R.s1
theorem Rel.grow{fl:List Fl}{G:Gh}{ow:Ow}{σ:St}(R:Rel K fl G ow σ H δ)(e:Same H H'):Rel K fl G ow σ H' δ:=
 ⟨R.s0,R.s1.trans e,R.len,λi a h=>by
  obtain⟨V,X,xs,ds,h1,h2,Z,Y⟩:=R.own i a h
  exact⟨V,X,xs,ds,h1,e _ _ h2,Z.same e,Y⟩,R.inj,R.pin,λi d h1 hn h2=>by
  obtain⟨v,Z,Y⟩:=R.dat i d h1 hn h2
  exact⟨v,Z,Y.same e⟩,R.oo,λi a h=>by
  obtain⟨h1,h2,Z⟩:=R.nt i a h
  exact⟨h1,(let⟨u,z,c⟩:=h2;⟨u,e _ _ z,c⟩),Z⟩,R.nd,R.ns,R.np,λi d h1 h2=>by
  obtain⟨v,Z,Y,W⟩:=R.nr i d h1 h2
  exact⟨v,Z,Y.same e,W⟩⟩
inductive Kd where
 |P
 |B (L:List Nat)
 |A
 |R
 |F
 |C
 |FC
 |T
noncomputable def ok1:Ok:=λ_=>True
noncomputable def ok0:Ok:=λ_=>False
noncomputable def okN(H:Hp):Ok:=λa=>H a=none
noncomputable def Rs(K:PySem.W.Frag)(H0:Hp)(ow:Ow)(Hb H:Hp):Kd->V->D->Prop
 | .P,v,d=>RA K ok1 true H v d
 | .B L,v,d=>RA K (okA ow) true H v d\/∃i∈L,∃a xs ds,ow i=some a/\v = .ref a/\d = .list ds/\H a=some (.lst xs)/\RAs K (okA ow) true H xs ds
 | .A,v,d=>RA K (okA ow) true H v d
 | .R,v,d=>RA K (okN H0) false H v d
 | .F,v,d=>(flat d=true/\RA K ok0 false H v d)\/∃a xs ds,v = .ref a/\d = .list ds/\Hb a=none/\H a=some (.lst xs)/\RAs K (λb=>okA ow b/\b≠a) true H xs ds
 | .C,v,d=>RA K (okN Hb) false H v d
 | .T,v,d=>∃as,RT K H v d as/\as.Nodup/\∀a∈as,Hb a=none
 | .FC,v,d=>(flat d=true/\RA K ok0 false H v d)\/∃a xs ds,v = .ref a/\d = .list ds/\Hb a=none/\H a=some (.lst xs)/\RAs K (λb=>okN Hb b/\b≠a) false H xs ds
section
variable{K:PySem.W.Frag}{Hb H H':Hp}{fl:List Fl}{G:Gh}{ow:Ow}{σ:St}{δ:DS}{v:V}{d:D}
theorem BZ(R:Rel K fl G ow σ Hb δ){a:Addr}(h:Hb a=none):okA ow a:=⟨λi e=>(by
 obtain⟨_,_,xs,_,_,h2,_⟩:=R.own i a e
 rw[h]at h2
 cases h2),λi e=>(R.nt i a e).2.1.ne h⟩
theorem Y9(R:Rel K fl G ow σ Hb δ){a:Addr}(h:Hb a=none):okN G.H0 a:=R.same0.free h
theorem Rs.FC_F(R:Rel K fl G ow σ Hb δ)(h:Rs K G.H0 ow Hb H .FC v d):Rs K G.H0 ow Hb H .F v d:=by
 rcases h with h|⟨a,xs,ds,h1,h2,X,Y,Z⟩
 ·exact .inl h
 ·exact .inr ⟨a,xs,ds,h1,h2,X,Y,Z.imp (λb z=>⟨BZ R z.1,z.2⟩) (λ_=>rfl)⟩
theorem Rs.FC_C(h:Rs K G.H0 ow Hb H .FC v d):Rs K G.H0 ow Hb H .C v d:=by
 rcases h with h|⟨a,xs,ds,rfl,rfl,X,Y,Z⟩
 ·exact RA.flat h.1 h.2
 ·exact .lst Y X (Z.imp (λb z=>z.1) (λz=>z))
theorem Rs.F_A(R:Rel K fl G ow σ Hb δ)(h:Rs K G.H0 ow Hb H .F v d):Rs K G.H0 ow Hb H .A v d:=by
 rcases h with h|⟨a,xs,ds,rfl,rfl,X,Y,Z⟩
 ·exact RA.flat h.1 h.2
 ·exact .lst Y (BZ R X) (Z.imp (λb z=>z.1) (λz=>z))
theorem Rs.C_A(R:Rel K fl G ow σ Hb δ)(h:Rs K G.H0 ow Hb H .C v d):Rs K G.H0 ow Hb H .A v d:=RA.imp (λ_ z=>BZ R z) (λ_=>rfl) h
theorem Rs.C_R(R:Rel K fl G ow σ Hb δ)(h:Rs K G.H0 ow Hb H .C v d):Rs K G.H0 ow Hb H .R v d:=RA.imp (λ_ z=>Y9 R z) (λz=>z) h
theorem Rs.A_B(L:List Nat)(h:Rs K G.H0 ow Hb H .A v d):Rs K G.H0 ow Hb H (.B L) v d:=.inl h
theorem Rs.B_P(h:Rs K G.H0 ow Hb H (.B L) v d):Rs K G.H0 ow Hb H .P v d:=by
 rcases h with h|⟨i,_,a,xs,ds,_,rfl,rfl,Y,Z⟩
 ·exact RA.imp (λ_ _=>trivial) (λz=>z) h
 ·exact .lst Y trivial (Z.imp (λ_ _=>trivial) (λz=>z))
theorem Rs.P_flat(B:flat d=true)(h:Rs K G.H0 ow Hb H .P v d):Rs K G.H0 ow Hb H .FC v d:=.inl ⟨B,RA.flat B h⟩
end
noncomputable def tD(K:PySem.W.Frag)(fl:List Fl)(k:Kd)(f:FE):TE:=λσ H Q=>∃G ow δ d,Rel K fl G ow σ H δ/\f δ=some d/\∀v H',Same H H'->Rs K G.H0 ow H H' k v d->Q v H'
noncomputable abbrev DE(X:Cx)(fl:List Fl)(k:Kd)(e:Expr)(f:FE):Prop:=PE X e (tD X.K fl k f)
noncomputable def tDA(K:PySem.W.Frag)(fl:List Fl)(f:FA):TA:=λσ H Q=>∃G ow δ ds,Rel K fl G ow σ H δ/\f δ=some ds/\∀vs H',Same H H'->RAs K ok1 true H' vs ds->Q vs H'
noncomputable abbrev DA(X:Cx)(fl:List Fl)(es:List Expr)(f:FA):Prop:=PA X es (tDA X.K fl f)
noncomputable def tDT(K:PySem.W.Frag)(fl:List Fl)(f:FT):TT:=λσ H Q=>∃G ow δ b,Rel K fl G ow σ H δ/\f δ=some b/\∀H',Same H H'->Q b H'
noncomputable abbrev DT(X:Cx)(fl:List Fl)(e:Expr)(f:FT):Prop:=PT X e (tDT X.K fl f)
noncomputable abbrev DW(X:Cx)(fl:List Fl)(e:Expr)(f:FT):Prop:=PW X e (tDT X.K fl f)
noncomputable def Hr(K:PySem.W.Frag)(fl:List Fl)(G:Gh)(Dn:Ends):Oc->Prop
 | .nx Z=>∀Y σ' H',Rel K fl G Y σ' H' Z->Dn.nx σ' H'
 | .rt d=>∀v H',Same G.H0 H'->RA K (okN G.H0) false H' v d->Dn.rt v H'
 | .bk Z=>∀Y σ' H',Rel K fl G Y σ' H' Z->Dn.bk σ' H'
 | .ct Z=>∀Y σ' H',Rel K fl G Y σ' H' Z->Dn.ct σ' H'
 | .ex _ _ d=>∀v H',Same G.H0 H'->RA K ok1 true H' v d->Dn.rt v H'
noncomputable def tDS(K:PySem.W.Frag)(fl:List Fl)(f:FS):TS:=λDn σ H=>∃G ow δ o,Rel K fl G ow σ H δ/\f δ=some o/\Hr K fl G Dn o
noncomputable abbrev DS1(X:Cx)(fl:List Fl)(s:Stmt)(f:FS):Prop:=PS X s (tDS X.K fl f)
noncomputable abbrev DSs(X:Cx)(fl:List Fl)(s:List Stmt)(f:FS):Prop:=PSs X s (tDS X.K fl f)
noncomputable def tDG(K:PySem.W.Frag)(fl:List Fl)(tg:List Nat)(g:FG):TG:=λv σ H Q=>∃G ow δ d Z,Rel K fl G ow σ H δ/\RA K (okA ow) true H v d/\g d δ=some Z/\∀σ',Rel K fl G ow σ' H Z->(∀j,j∉tg->σ'[j]? = σ[j]?)->Q σ' H
noncomputable abbrev DG(X:Cx)(fl:List Fl)(tg:List Nat)(e:Expr)(g:FG):Prop:=PG X e (tDG X.K fl tg g)
section
variable{X:Cx}{e:Expr}{es:List Expr}{st:Stmt}{sts:List Stmt}
theorem PE.imp{t t':TE}(h:PE X e t)(i:∀σ H Q,t' σ H Q->t σ H Q):PE X e t':=λpins s σ H Q I q=>h pins s σ H Q I (i σ H Q q)
theorem PT.imp{t t':TT}(h:PT X e t)(i:∀σ H Q,t' σ H Q->t σ H Q):PT X e t':=λpins s σ H Q I q=>h pins s σ H Q I (i σ H Q q)
theorem PW.imp{t t':TT}(h:PW X e t)(i:∀σ H Q,t' σ H Q->t σ H Q):PW X e t':=λw pins s σ H Q I q=>h w pins s σ H Q I (i σ H Q q)
theorem PA.imp{t t':TA}(h:PA X es t)(i:∀σ H Q,t' σ H Q->t σ H Q):PA X es t':=λp pins s σ H Q I q=>h p pins s σ H Q I (i σ H Q q)
theorem PS.imp{t t':TS}(h:PS X st t)(i:∀D σ H,t' D σ H->t D σ H):PS X st t':=λpins s σ H D I q=>h pins s σ H D I (i D σ H q)
theorem PSs.imp{t t':TS}(h:PSs X sts t)(i:∀D σ H,t' D σ H->t D σ H):PSs X sts t':=λpins s σ H D I q=>h pins s σ H D I (i D σ H q)
theorem PG.imp{t t':TG}(h:PG X e t)(i:∀v σ H Q,t' v σ H Q->t v σ H Q):PG X e t':=λpins s σ H v u Q I r q=>h pins s σ H v u Q I r (i v σ H Q q)
end
end D3
namespace D3
open PySem PySem.Spec PyProof.Rows L2 My
section
variable{X:Cx}{fl:List Fl}{e a b c:Expr}{es:List Expr}{k:Kd}{f fa fb fc:FE}{pos:Pos}
theorem mV(h:ao i δ=some d):δ[i]? = some (some (.d d)):=by
 unfold ao at h
 split at h
 ·next x e=>rw[e];cases h;rfl
 ·cases h
theorem M7(i:Nat){x:Str}(O:X.N[i]? = some x:=by rfl)(J:Vis X.env.scope x:=by first|exact Or.inl rfl|exact Or.inr (Or.inl rfl)|exact Or.inr (Or.inr rfl))(hd:(x==("__debug__":Str))=false:=by decide)
 (D:(x==("__classdict__":Str))=false:=by decide) (hn:isN fl[i]? = false:=by rfl):DE X fl (.B [i]) (.Name x pos) (ao i):=by
 refine PE.imp (qe O J hd D) λσ H Q h=>?_
 obtain⟨G,ow,δ,d,R,W,q⟩:=h
 have e:=mV W
 cases Z:ow i with
 |none=>
  obtain⟨v,h1,h2⟩:=R.dat i d e hn Z
  exact⟨v,h1,q v H (Same.refl H) (.inl h2)⟩
 |some a=>
  obtain⟨U,_,xs,ds,h1,h2,V,Y⟩:=R.own i a Z
  rw[e]at Y
  cases Y
  exact⟨_,h1,q _ H (Same.refl H) (.inr ⟨i,aO.mpr rfl,a,xs,ds,Z,rfl,rfl,h2,V⟩)⟩
theorem B_(i:Nat)(B:fl[i]? = some .A){x:Str}(O:X.N[i]? = some x:=by rfl)(J:Vis X.env.scope x:=by first|exact Or.inl rfl|exact Or.inr (Or.inl rfl)|exact Or.inr (Or.inr rfl))(hd:(x==("__debug__":Str))=false:=by decide)
 (D:(x==("__classdict__":Str))=false:=by decide):DE X fl .A (.Name x pos) (ao i):=by
 refine PE.imp (qe O J hd D) λσ H Q h=>?_
 obtain⟨G,ow,δ,d,R,W,q⟩:=h
 have e:=mV W
 cases Y:ow i with
 |none=>
  obtain⟨v,h1,h2⟩:=R.dat i d e (by rw[B];rfl) Y
  exact⟨v,h1,q v H (Same.refl H) h2⟩
 |some a=>
  obtain⟨V,Z,_⟩:=R.own i a Y
  rw[B]at Z
  rcases Z with⟨z,_⟩|⟨z,_⟩<;>cases z
theorem Ca(i:Nat)(B:fl[i]? ≠ some .A){x:Str}(O:X.N[i]? = some x:=by rfl)(J:Vis X.env.scope x:=by first|exact Or.inl rfl|exact Or.inr (Or.inl rfl)|exact Or.inr (Or.inr rfl))(hd:(x==("__debug__":Str))=false:=by decide)
 (D:(x==("__classdict__":Str))=false:=by decide) (hn:isN fl[i]? = false:=by rfl):DE X fl .R (.Name x pos) (Hl (ao i)):=by
 refine PE.imp (qe O J hd D) λσ H Q h=>?_
 obtain⟨G,ow,δ,d,R,Z,q⟩:=h
 unfold Hl at Z
 cases Y:ao i δ with
 |none=>rw[Y]at Z;cases Z
 |some P=>
  rw[Y,aM]at Z
  by_cases V:fl1 P=true
  ·rw[if_pos V]at Z
   cases Z
   have e:=mV Y
   cases W:ow i with
   |none=>
    obtain⟨v,h1,h2⟩:=R.dat i d e hn W
    exact⟨v,h1,q v H (Same.refl H) (RA.flat (R.oo i d e hn B W) h2)⟩
   |some a=>
    obtain⟨S,_,xs,ds,h1,h2,T,U⟩:=R.own i a W
    rw[e]at U
    cases U
    exact⟨_,h1,q _ H (Same.refl H) (.lst h2 S (RAs.flat V T))⟩
  ·rw[if_neg V]at Z
   cases Z
theorem oW{B:Kd}(h:DE X fl k e f)(J:∀(Hb H:Hp) (G:Gh) (ow:Ow) (σ:St) (δ:DS) (v:V) (d:D),Rel X.K fl G ow σ Hb δ->Rs X.K G.H0 ow Hb H k v d->Rs X.K G.H0 ow Hb H B v d):DE X fl B e f:=by
 refine PE.imp h λσ H Q h=>?_
 obtain⟨G,ow,δ,d,R,Z,q⟩:=h
 exact⟨G,ow,δ,d,R,Z,λv H' s r=>q v H' s (J _ _ G ow σ δ v d R r)⟩
theorem M8{B:Kd}{p:D->Bool}(h:DE X fl k e f)(J:∀(Hb H:Hp) (G:Gh) (ow:Ow) (σ:St) (δ:DS) (v:V) (d:D),p d=true->Rel X.K fl G ow σ Hb δ->Rs X.K G.H0 ow Hb H k v d->Rs X.K G.H0 ow Hb H B v d):
 DE X fl B e (λδ=>(f δ).bind λd=>if p d=true then some d else none):=by
 refine PE.imp h λσ H Q h=>?_
 obtain⟨G,ow,δ,d,R,Z,q⟩:=h
 dsimp only at Z
 cases Y:f δ with
 |none=>rw[Y]at Z;cases Z
 |some U=>
  rw[Y,aM]at Z
  by_cases W:p U=true
  ·rw[if_pos W]at Z
   cases Z
   exact⟨G,ow,δ,d,R,Y,λv H' s r=>q v H' s (J _ _ G ow σ δ v d W R r)⟩
  ·rw[if_neg W]at Z
   cases Z
theorem uD(h:DE X fl .FC e f):DE X fl .F e f:=oW h λ_ _ _ _ _ _ _ _ R r=>r.FC_F R
theorem jx(h:DE X fl .FC e f):DE X fl .C e f:=oW h λ_ _ _ _ _ _ _ _ R r=>r.FC_C
theorem pP(h:DE X fl .F e f):DE X fl .A e f:=oW h λ_ _ _ _ _ _ _ _ R r=>r.F_A R
theorem oX(h:DE X fl .C e f):DE X fl .A e f:=oW h λ_ _ _ _ _ _ _ _ R r=>r.C_A R
theorem yE(h:DE X fl .C e f):DE X fl .R e f:=oW h λ_ _ _ _ _ _ _ _ R r=>r.C_R R
theorem jB(h:DE X fl .A e f):DE X fl (.B []) e f:=oW h λ_ _ _ _ _ _ _ _ R r=>Rs.A_B [] r
theorem M9(h:DE X fl (.B L) e f):DE X fl .P e f:=oW h λ_ _ _ _ _ _ _ _ R r=>r.B_P
theorem kJ(h:DE X fl .P e f):DE X fl .FC e (fL f):=M8 h λ_ _ _ _ _ _ _ _ Z R r=>r.P_flat Z
theorem gD(h:DE X fl .FC e f):DE X fl .A e f:=pP (uD h)
theorem cW(h:DE X fl .FC e f):DE X fl .R e f:=yE (jx h)
theorem eN(h:DE X fl .A e f):DE X fl .P e f:=M9 (jB h)
theorem jW(h:DE X fl .C e f):DE X fl .P e f:=eN (oX h)
theorem bA(h:DE X fl .FC e f):DE X fl .P e f:=eN (gD h)
theorem EY(h:DE X fl .F e f):DE X fl .P e f:=eN (pP h)
theorem yF(h:PE X e (tC v))(D:flat d=true)(B:∀H,RA X.K ok0 false H v d):DE X fl .FC e (dC d):=by
 refine PE.imp h λσ H Q h=>?_
 obtain⟨G,ow,δ,Z,R,hd,q⟩:=h
 cases hd
 exact q v H (Same.refl H) (.inl ⟨D,B H⟩)
theorem vN{i j pos}:DE X fl .FC (.Constant (.int i) j pos) (dC (.int i)):=yF Vu rfl λ_=>.int _
theorem m7{b j pos}:DE X fl .FC (.Constant (.bool b) j pos) (dC (.bool b)):=yF U0 rfl λ_=>.bl _
theorem M_{j pos}:DE X fl .FC (.Constant .none j pos) (dC .none):=yF Vv rfl λ_=>.non
theorem nH{x j pos}:DE X fl .FC (.Constant (.str x) j pos) (dC (.str x)):=yF Vw rfl λ_=>.str _
theorem Cd{i:Int}(h:∃t,X.mg x=some (.int i t))(B:Gl X x:=by rfl)(hd:(x==("__debug__":Str))=false:=by decide):DE X fl .FC (.Name x pos) (dC (.int i)):=by
 obtain⟨t,h⟩:=h
 exact yF (Ra (v:=.int i) B h ⟨t,rfl⟩ hd) rfl λ_=>.int _
noncomputable def BrO(K:PySem.W.Frag)(r:R2)(g:D->D->Option D):Prop:=∀(H:Hp)(x y:V)(dx Z d:D)(Q:VK),RA K ok1 true H x dx->RA K ok1 true H y Z->g dx Z=some d->(∀v,flat d=true->RA K ok0 false H v d->Q v H)->r x y H Q
theorem Av{g:D->D->Option D}(h:dOp g fa fb δ=some d):∃x y,fa δ=some x/\fb δ=some y/\g x y=some d:=by
 unfold dOp at h
 cases ha:fa δ with
 |none=>rw[ha]at h;cases h
 |some x=>
  rw[ha,aM]at h
  cases Z:fb δ with
  |none=>rw[Z]at h;cases h
  |some y=>
   rw[Z,aM]at h
   exact⟨x,y,rfl,rfl,h⟩
theorem bind1{α β:Type}{x:Option α}{g:α->Option β}{d:β}(h:x.bind g=some d):∃y,x=some y/\g y=some d:=by
 cases x with
 |none=>cases h
 |some y=>exact⟨y,rfl,h⟩
theorem vO{g:D->D->Option D}{σ:St}{Q:VK}(B:BrO X.K r g)(h:tD X.K fl .FC (dOp g fa fb) σ H Q):tOp r (tD X.K fl .P fa) (tD X.K fl .P fb) σ H Q:=by
 obtain⟨G,ow,δ,d,R,U,q⟩:=h
 obtain⟨x,y,O,S,T⟩:=Av U
 refine⟨G,ow,δ,x,R,O,λv H1 s1 W=>⟨G,ow,δ,y,R.grow s1,S,λu H2 s2 Y=>?_⟩⟩
 exact B H2 v u x y d Q (RA.same s2 W) Y T λz V Z=>q z H2 (s1.trans s2) (.inl ⟨V,Z⟩)
theorem dY{op:Operator}{g:D->D->Option D}(B:OpR X (binaryOp op) r)(J:BrO X.K r g)(h1:DE X fl .P a fa)(h2:DE X fl .P b fb):DE X fl .FC (.BinOp a op b pos) (dOp g fa fb):=
 PE.imp (Mp B h1 h2) λ_ _ _ h=>vO J h
theorem rO{g:D->D->Option D}(B:OpR X (compareOp op) r)(J:BrO X.K r g)(h1:DE X fl .P a fa)(h2:DE X fl .P b fb)(hm:behindInMarks op b=false):DE X fl .FC (.Compare a [op] [b] pos) (dOp g fa fb):=
 PE.imp (Ro B h1 h2 hm) λ_ _ _ h=>vO J h
theorem fK{g:D->D->Option D}(B:OpR X (compareOp op) r)(J:BrO X.K r g)(h1:DE X fl .P a fa)(h2:DE X fl .P b fb)(hm:behindInMarks op b=false):DT X fl (.Compare a [op] [b] pos) (bL (dOp g fa fb)):=by
 refine PT.imp (Rp B h1 h2 hm) λσ H Q h=>?_
 obtain⟨G,ow,δ,c,R,Y,q⟩:=h
 obtain⟨d,W,Z⟩:=bind1 Y
 cases d<;>first|(cases Z;done)|skip
 cases Z
 refine vO (fl:=fl) (fa:=fa) (fb:=fb) J ⟨G,ow,δ,_,R,W,λv H' s r=>?_⟩
 obtain rfl:=(Rs.FC_C r).blE
 exact⟨_,rfl,q H' s⟩
theorem lO(h:DE X fl .P e f)(B:∀whole,isTrue e X.env whole=(do let v <-whole;standAt e.pos;holding [v] (truthy v)):=by intro _;rfl):DT X fl e (bL f):=by
 refine PT.imp (Vz h B) λσ H Q h=>?_
 obtain⟨G,ow,δ,c,R,Y,q⟩:=h
 obtain⟨d,W,Z⟩:=bind1 Y
 cases d<;>first|(cases Z;done)|skip
 cases Z
 refine⟨G,ow,δ,_,R,W,λv H' s r=>?_⟩
 obtain rfl:=RA.blE r
 exact⟨_,rfl,q H' s⟩
theorem Aw{h:Int->Int->V}{g:Int->Int->D}(J:∀i j,flat (g i j)=true)(B:∀H i j,RA K ok0 false H (h i j) (g i j)):BrO K (rI0 h) (gI λi j=>some (g i j)):=by
 intro H x y dx X d Q Y Z e q
 unfold gI at e
 split at e
 ·next i j=>
  cases e
  exact⟨i,j,Y.intE,Z.intE,q _ (J i j) (B H i j)⟩
 ·cases e
theorem RQ{C:Int->Int->Prop}{h:Int->Int->V}{g:Int->Int->D}{c:Int->Int->Bool}(O:∀i j,c i j=true->C i j)(J:∀i j,flat (g i j)=true)(B:∀H i j,RA K ok0 false H (h i j) (g i j)):
 BrO K (rI C h) (gI λi j=>if c i j=true then some (g i j)else none):=by
 intro H x y dx X d Q Y Z e q
 unfold gI at e
 split at e
 ·next i j=>
  dsimp only at e
  by_cases z:c i j=true
  ·rw[if_pos z]at e
   cases e
   exact⟨i,j,Y.intE,Z.intE,O i j z,q _ (J i j) (B H i j)⟩
  ·rw[if_neg z]at e
   cases e
 ·cases e
end
section
variable{X:Cx}{K:PySem.W.Frag}
theorem RV{i j:Int}(h:yx i j=true):IntMulOk i j:=by
 unfold yx at h
 rw[jm,jm,aX]at h
 rcases h with(h|h)|⟨h1,h2⟩
 ·exact IntMulOk.of_left (PySem.intBits_le_iff.mpr (of_decide_eq_true h))
 ·exact IntMulOk.of_right (PySem.intBits_le_iff.mpr (of_decide_eq_true h))
 ·exact PySem.IntMulOk.of_le (PySem.intBits_le_iff.mpr (of_decide_eq_true h1)) (PySem.intBits_le_iff.mpr (of_decide_eq_true h2)) (by decide)
theorem oY:OpR X (binaryOp .Mult) (rI (λi j=>yx i j=true) λi j=>.int (i*j)):=opI λ_ _ _ _ _ _ _ Z q=>mul_int q (RV Z)
theorem Ja:OpR X (binaryOp .FloorDiv) (rI (λi j=>Ho i j=true) λi j=>.int (i.fdiv j)):=opI λi j _ _ _ _ _ Z q=>by
 unfold Ho at Z
 rw[aX]at Z
 have h1:=of_decide_eq_true Z.1
 have h2:=of_decide_eq_true Z.2
 refine floordiv_int h1 q (.inl (PyProof.noPylong_of_log2 ?_))
 exact(Nat.log2_lt (by omega)).mpr h2
theorem RW{i j:Int}(h:Wk i j=true):V5 i j:=by
 unfold Wk at h
 rw[aX,aX]at h
 have h1:=of_decide_eq_true h.1.1
 have h2:=of_decide_eq_true h.1.2
 exact⟨h1,by omega,of_decide_eq_true h.2⟩
theorem jF:BrO K (rI0 λi j=>.int (i+j)) gG:=Aw (λ_ _=>rfl) λ_ _ _=>.int _
theorem Ax:BrO K (rI0 λi j=>.int (i-j)) rF:=Aw (λ_ _=>rfl) λ_ _ _=>.int _
theorem wI:BrO K (rI (λi j=>yx i j=true) λi j=>.int (i*j)) tQ:=RQ (λ_ _ h=>h) (λ_ _=>rfl) λ_ _ _=>.int _
theorem U7:BrO K (rI (λi j=>Ho i j=true) λi j=>.int (i.fdiv j)) Ey:=RQ (λ_ _ h=>h) (λ_ _=>rfl) λ_ _ _=>.int _
theorem uV:BrO K (rI (λ_ j=>j≠0) λi j=>.int (i.fmod j)) ux:=RQ (λ_ _ h=>of_decide_eq_true h) (λ_ _=>rfl) λ_ _ _=>.int _
theorem Y_:BrO K (rI V5 λi j=>.int (i^j.toNat)) Wl:=RQ (λ_ _ h=>RW h) (λ_ _=>rfl) λ_ _ _=>.int _
theorem b_lt:BrO K (rI0 λi j=>.bl (decide (i<j))) gLt:=Aw (λ_ _=>rfl) λ_ _ _=>.bl _
theorem qx:BrO K (rI0 λi j=>.bl (decide (i<=j))) gLe:=Aw (λ_ _=>rfl) λ_ _ _=>.bl _
theorem Hs:BrO K (rI0 λi j=>.bl (decide (j<i))) gGt:=Aw (λ_ _=>rfl) λ_ _ _=>.bl _
theorem ae3:BrO K (rI0 λi j=>.bl (decide (j<=i))) gGe:=Aw (λ_ _=>rfl) λ_ _ _=>.bl _
theorem Ce:BrO K (YZ K) gEq:=by
 intro H x y dx Z d Q X Y e q
 unfold gEq at e
 by_cases z:(SeqAt.shaped dx&&SeqAt.shaped Z)=true
 ·rw[if_pos z]at e
  cases e
  rw[aX]at z
  exact⟨dx,Z,X.rd (SeqAt.canLay_of_shaped z.1),Y.rd (SeqAt.canLay_of_shaped z.2),z.1,z.2,q _ rfl (.bl _)⟩
 ·rw[if_neg z]at e
  cases e
theorem Cg:BrO K (Y0 K) gNe:=by
 intro H x y dx Z d Q X Y e q
 unfold gNe at e
 by_cases z:(SeqAt.shaped dx&&SeqAt.shaped Z)=true
 ·rw[if_pos z]at e
  cases e
  rw[aX]at z
  exact⟨dx,Z,X.rd (SeqAt.canLay_of_shaped z.1),Y.rd (SeqAt.canLay_of_shaped z.2),z.1,z.2,q _ rfl (.bl _)⟩
 ·rw[if_neg z]at e
  cases e
end
end D3
variable{G:D3.Gh}{ow:D3.Ow}
namespace D3
open PySem PySem.Spec PyProof.Rows L2 My
section
variable{X:Cx}{fl:List Fl}{e a b c:Expr}{es:List Expr}{st:Stmt}{sts body orelse:List Stmt}{k:Kd}{f fa fb fc:FE}{fs gs:FS}{ft gt:FT}{pos:Pos}
theorem Hr.nx_imp{Dn:Ends}{N:St->Hp->Prop}{o:Oc}(h:Hr K fl G Dn o)(hn:∀B,o ≠ .nx B):Hr K fl G {Dn with nx:=N} o:=by
 cases o with
 |nx B=>exact absurd rfl (hn B)
 |rt d=>exact h
 |bk B=>exact h
 |ct B=>exact h
 |ex c f v=>exact h
theorem dZ:DSs X fl [] dX:=PSs.imp Rg λDn σ H h=>by
 obtain⟨G,ow,δ,o,R,Z,q⟩:=h
 cases Z
 exact q ow σ H R
theorem bx(h1:DS1 X fl st fs)(h2:DSs X fl sts gs):DSs X fl (st::sts) (bU fs gs):=PSs.imp (LR h1 h2) λDn σ H h=>by
 obtain⟨G,ow,δ,o,R,U,q⟩:=h
 obtain⟨V,T,Z⟩:=bind1 U
 refine⟨G,ow,δ,V,R,T,?_⟩
 cases V with
 |nx Y=>exact λW σ' H' R'=>⟨G,W,Y,o,R',Z,q⟩
 |rt d=>cases Z;exact Hr.nx_imp q (λ_ z=>by cases z)
 |bk d=>cases Z;exact Hr.nx_imp q (λ_ z=>by cases z)
 |ct d=>cases Z;exact Hr.nx_imp q (λ_ z=>by cases z)
 |ex c f v=>cases Z;exact q
theorem bI(h1:DS1 X fl st fs):DSs X fl [st] fs:=PSs.imp (Rh h1) λ_ _ _ h=>h
theorem cH(h:DE X fl .R e f):DS1 X fl (.Return (some e) pos) (dG f):=PS.imp (L_ h) λDn σ H h=>by
 obtain⟨G,ow,δ,o,R,Z,q⟩:=h
 obtain⟨d,W,Y⟩:=bind1 Z
 cases Y
 exact⟨G,ow,δ,d,R,W,λv H' s r=>q v H' (R.same0.trans s) r⟩
theorem RX(h:DE X fl .P e f)(hs:swapsWith e none pos.line X.env=pure false:=by rfl):DS1 X fl (.Expr e pos) (IW f):=PS.imp (BL h hs) λDn σ H h=>by
 obtain⟨G,ow,δ,o,R,Z,q⟩:=h
 obtain⟨d,W,Y⟩:=bind1 Z
 cases Y
 exact⟨G,ow,δ,d,R,W,λv H' s r=>q ow σ H' (R.grow s)⟩
theorem iM(B:DT X fl c ft)(h1:DSs X fl body fs)(h2:DSs X fl orelse gs):DS1 X fl (.If c body orelse pos) (sIf ft fs gs):=PS.imp (Yz B h1 h2) λDn σ H h=>by
 obtain⟨G,ow,δ,o,R,Y,q⟩:=h
 obtain⟨t,W,Z⟩:=bind1 Y
 refine⟨G,ow,δ,t,R,W,λH' s=>?_⟩
 cases t with
 |true=>exact zW ⟨G,ow,δ,o,R.grow s,Z,q⟩
 |false=>exact zV ⟨G,ow,δ,o,R.grow s,Z,q⟩
theorem iQ{α:Type}{l:List (Option α)}{x y:α}(h:(l.set i (some x))[j]? = some (some y)):(j=i/\x=y)\/(j≠i/\l[j]? = some (some y)):=by
 rw[oN]at h
 by_cases e:i=j
 ·subst e
  rw[if_pos rfl]at h
  by_cases z:i<l.length
  ·rw[if_pos z]at h
   cases h
   exact .inl ⟨rfl,rfl⟩
  ·rw[if_neg z]at h
   cases h
 ·rw[if_neg e]at h
  exact .inr ⟨λz=>e z.symm,h⟩
theorem Rel.pZ{σ:St}(R:Rel K fl G ow σ H δ)(B:fl[i]? = some .A)(hi:i<σ.length)(r:RA K (okA ow) true H v d):
 Rel K fl G ow (σ.set i (some v)) H (δ.set i (some (.d d))):=by
 have T:∀a,ow i≠some a:=λa z=>by
  obtain⟨_,U,_⟩:=R.own i a z
  rw[B]at U
  rcases U with⟨z,_⟩|⟨z,_⟩<;>cases z
 refine⟨R.s0,R.s1,by rw[dh,dh];exact R.len,λj a h=>?_,R.inj,R.pin,λj W h1 hn h2=>?_,λj W h1 hn h2 Y=>?_,R.nt,R.nd,R.ns,R.np,λj W hn h1=>?_⟩
 ·have Z:j≠i:=λz=>T a (z▸h)
  obtain⟨Q,S,xs,ds,h1,h2,Y,X⟩:=R.own j a h
  exact⟨Q,S,xs,ds,by rw[bK (Ne.symm Z)];exact h1,h2,Y,by rw[bK (Ne.symm Z)];exact X⟩
 ·rcases iQ h1 with⟨rfl,e⟩|⟨Z,e⟩
  ·cases e
   exact⟨v,by rw[dD hi],r⟩
  ·obtain⟨V,Y,X⟩:=R.dat j W e hn h2
   exact⟨V,by rw[bK (Ne.symm Z)];exact Y,X⟩
 ·rcases iQ h1 with⟨rfl,e⟩|⟨Z,e⟩
  ·exact absurd B h2
  ·exact R.oo j W e hn h2 Y
 ·rcases iQ h1 with⟨rfl,e⟩|⟨Z,e⟩
  ·rw[B]at hn;cases hn
  ·obtain⟨V,Y,X⟩:=R.nr j W hn e
   exact⟨V,by rw[bK (Ne.symm Z)];exact Y,X⟩
noncomputable def wJ(ow:Ow)(i:Nat)(a:Option Addr):Ow:=⟨λj=>if j=i then a else ow j,ow.n⟩
theorem jt{a:Option Addr}:wJ ow i a i=a:=if_pos rfl
theorem gF{a:Option Addr}(h:j≠i):wJ ow i a j=ow j:=if_neg h
theorem Rel.setO{σ:St}(R:Rel K fl G ow σ H δ)(s:Same H H')(B:fl[i]? = some .O)(hi:i<σ.length)(r:Rs K G.H0 ow H H' .F v d):
 ∃J,Rel K fl G J (σ.set i (some v)) H' (δ.set i (some (.d d))):=by
 have R':=R.grow s
 have S:∀b,okA ow b->okA (wJ ow i none) b:=λb z=>⟨λj e=>by
  by_cases Z:j=i
  ·subst Z;rw[jt]at e;cases e
  ·rw[gF Z]at e;exact z.1 j e,z.2⟩
 have P:∀j W,isN fl[j]? = true->(δ.set i (some (.d d)))[j]? = some (some (.d W))->∃T,(σ.set i (some v))[j]? = some (some T)/\RT K H' T W (ow.n j)/\(ow.n j).Nodup:=λj W hn h1=>by
  rcases iQ h1 with⟨rfl,e⟩|⟨Z,e⟩
  ·rw[B]at hn;cases hn
  ·obtain⟨T,Y,U⟩:=R'.nr j W hn e
   exact⟨T,by rw[bK (Ne.symm Z)];exact Y,U⟩
 rcases r with⟨N,r⟩|⟨a,xs,ds,rfl,rfl,ha,E,C⟩
 ·refine⟨wJ ow i none,R'.s0,R'.s1,by rw[dh,dh];exact R.len,λj a h=>?_,λj j' a h h'=>?_,λj h=>?_,λj W h1 hn h2=>?_,λj W h1 hn h2 Y=>?_,R'.nt,R'.nd,λj j' a h h'=>?_,R'.np,P⟩
  ·have Z:j≠i:=λz=>by subst z;rw[jt]at h;cases h
   rw[gF Z]at h
   obtain⟨L,M,xs,ds,h1,h2,Y,U⟩:=R'.own j a h
   exact⟨L,M,xs,ds,by rw[bK (Ne.symm Z)];exact h1,h2,Y.imp S (λz=>z),by rw[bK (Ne.symm Z)];exact U⟩
  ·have Z:j≠i:=λz=>by subst z;rw[jt]at h;cases h
   have X:j'≠i:=λz=>by subst z;rw[jt]at h';cases h'
   rw[gF Z]at h
   rw[gF X]at h'
   exact R.inj j j' a h h'
  ·have Z:j≠i:=λz=>by subst z;rw[B]at h;cases h
   rw[gF Z]
   exact R.pin j h
  ·rcases iQ h1 with⟨rfl,e⟩|⟨Z,e⟩
   ·cases e
    exact⟨v,by rw[dD hi],RA.flat N r⟩
   ·rw[gF Z]at h2
    obtain⟨T,Y,U⟩:=R'.dat j W e hn h2
    exact⟨T,by rw[bK (Ne.symm Z)];exact Y,U.imp S (λz=>z)⟩
  ·rcases iQ h1 with⟨rfl,e⟩|⟨Z,e⟩
   ·cases e
    exact N
   ·rw[gF Z]at Y
    exact R.oo j W e hn h2 Y
  ·by_cases Z:j'=i
   ·subst Z;rw[jt]at h';cases h'
   ·rw[gF Z]at h';exact R.ns j j' a h h'
 ·have sub:∀b,okA ow b/\b≠a->okA (wJ ow i (some a)) b:=λb z=>⟨λj e=>by
   by_cases Z:j=i
   ·subst Z;rw[jt]at e;exact z.2 (cY.inj e).symm
   ·rw[gF Z]at e;exact z.1.1 j e,z.1.2⟩
  have old:∀{v:V}{d:D},RA K (okA ow) true H v d->RA K (okA (wJ ow i (some a))) true H' v d:=λr=>(r.track.imp (λb z=>sub b ⟨z.1,λe=>z.2 (e▸ha)⟩) (λz=>z)).same s
  have olds:∀{v:List V}{d:List D},RAs K (okA ow) true H v d->RAs K (okA (wJ ow i (some a))) true H' v d:=λr=>(r.track.imp (λb z=>sub b ⟨z.1,λe=>z.2 (e▸ha)⟩) (λz=>z)).same s
  have Q:∀j,ow j≠some a:=λj z=>by
   obtain⟨_,_,_,_,_,h2,_⟩:=R.own j a z
   rw[ha]at h2
   cases h2
  have A:G.HF a=none:=R.s1.free ha
  refine⟨wJ ow i (some a),R'.s0,R'.s1,by rw[dh,dh];exact R.len,λj b h=>?_,λj j' b h h'=>?_,λj h=>?_,λj W h1 hn h2=>?_,λj W h1 hn h2 Y=>?_,R'.nt,R'.nd,λj j' b h h'=>?_,R'.np,P⟩
  ·by_cases Z:j=i
   ·subst Z
    rw[jt]at h
    cases h
    exact⟨R.same0.free ha,.inl ⟨B,A⟩,xs,ds,by rw[dD hi],E,C.imp sub (λz=>z),by rw[dD (by rw[<-R.len];exact hi)]⟩
   ·rw[gF Z]at h
    obtain⟨L,M,ys,I,h1,h2,Y,U⟩:=R.own j b h
    exact⟨L,M,ys,I,by rw[bK (Ne.symm Z)];exact h1,s _ _ h2,olds Y,by rw[bK (Ne.symm Z)];exact U⟩
  ·by_cases Z:j=i
   ·by_cases X:j'=i
    ·rw[Z,X]
    ·subst Z
     rw[jt]at h
     cases h
     rw[gF X]at h'
     exact absurd h' (Q j')
   ·rw[gF Z]at h
    by_cases X:j'=i
    ·subst X
     rw[jt]at h'
     cases h'
     exact absurd h (Q j)
    ·rw[gF X]at h'
     exact R.inj j j' b h h'
  ·have Z:j≠i:=λz=>by subst z;rw[B]at h;cases h
   rw[gF Z]
   exact R.pin j h
  ·rcases iQ h1 with⟨rfl,e⟩|⟨Z,e⟩
   ·rw[jt]at h2;cases h2
   ·rw[gF Z]at h2
    obtain⟨T,Y,U⟩:=R.dat j W e hn h2
    exact⟨T,by rw[bK (Ne.symm Z)];exact Y,old U⟩
  ·rcases iQ h1 with⟨rfl,e⟩|⟨Z,e⟩
   ·rw[jt]at Y;cases Y
   ·rw[gF Z]at Y
    exact R.oo j W e hn h2 Y
  ·by_cases Z:j'=i
   ·subst Z
    rw[jt]at h'
    cases h'
    exact(R.nt j a h).2.1.ne ha
   ·rw[gF Z]at h';exact R.ns j j' b h h'
theorem Rel.mut{σ:St}{a:Addr}{ys:List V}(R:Rel K fl G ow σ H δ)(D:fl[i]? = some .O)(B:ow i=some a)(r:RAs K (okA ow) true H ys ds):
 Rel K fl G ow σ (upd H a (.lst ys)) (δ.set i (some (.d (.list ds)))):=by
 obtain⟨F,M,xs,x,y,T,w,L⟩:=R.own i a B
 have na:¬okA ow a:=λz=>z.1 i B
 have J:G.HF a=none:=by
  rcases M with⟨_,z⟩|⟨z,_⟩
  ·exact z
  ·rw[D]at z;cases z
 have hi:i<δ.length:=by
  rcases gj i δ.length with z|z
  ·exact z
  ·rw[bH z]at L;cases L
 refine⟨R.s0,λb o Y=>?_,by rw[dh];exact R.len,λj b h=>?_,R.inj,R.pin,λj U h1 hn h2=>?_,λj U h1 hn h2 Z=>?_,λj b h=>?_,R.nd,R.ns,R.np,λj U hn h1=>?_⟩
 ·rw[cG (λz=>by subst z;rw[J]at Y;cases Y)]
  exact R.s1 b o Y
 ·by_cases X:j=i
  ·subst X
   rw[B]at h
   cases h
   exact⟨F,M,ys,ds,y,cQ,r.upd T na,by rw[dD hi]⟩
  ·obtain⟨P,Q,zs,N,h1,h2,Z,W⟩:=R.own j b h
   have Y:b≠a:=λz=>X (R.inj j i a (z▸h) B)
   exact⟨P,Q,zs,N,h1,by rw[cG Y];exact h2,Z.upd T na,by rw[bK (Ne.symm X)];exact W⟩
 ·rcases iQ h1 with⟨rfl,e⟩|⟨X,e⟩
  ·rw[B]at h2;cases h2
  ·obtain⟨S,Z,W⟩:=R.dat j U e hn h2
   exact⟨S,Z,W.upd T na⟩
 ·rcases iQ h1 with⟨rfl,e⟩|⟨X,e⟩
  ·rw[B]at Z;cases Z
  ·exact R.oo j U e hn h2 Z
 ·obtain⟨A,C,E⟩:=R.nt j b h
  refine⟨A,?_,E⟩
  by_cases Y:b=a
  ·rw[Y,cQ];exact⟨_,rfl,inferInstance⟩
  ·rw[cG Y];exact C
 ·rcases iQ h1 with⟨rfl,e⟩|⟨X,e⟩
  ·rw[D]at hn;cases hn
  ·obtain⟨S,Z,W,I⟩:=R.nr j U hn e
   exact⟨S,Z,W.upd T (λz=>R.ns j i a z B),I⟩
theorem uW{σ:St}(R:Rel K fl G ow σ H δ)(h:i<δ.length):i<σ.length:=by rw[R.len];exact h
theorem RZ(D:fl[i]? = some .A)(O:X.N.Nodup)(hi:X.N[i]? = some x)(J:X.env.scope.names.lookup x=some .local\/X.env.scope.names.lookup x=some .cell)(h:DE X fl .A e f)
 (hs:swapsWith e (some (.Name x pos')) pos.line X.env=pure false:=by rfl) (B:X.fn x=true\/X.env.scope.names.lookup x=some .local:=by first|exact .inl rfl|exact .inr rfl) :
 DS1 X fl (.Assign [.Name x pos'] e pos) (bQ i f):=PS.imp (G_ (i:=i) O hi J h hs B) λDn σ H h=>by
 obtain⟨G,ow,δ,o,R,Z,q⟩:=h
 unfold bQ at Z
 by_cases Y:i<δ.length
 ·rw[if_pos Y]at Z
  obtain⟨d,V,W⟩:=bind1 Z
  cases W
  exact⟨G,ow,δ,d,R,V,λv H' s r=>q ow _ H' ((R.grow s).pZ D (uW R Y) r)⟩
 ·rw[if_neg Y]at Z
  cases Z
theorem xJ(D:fl[i]? = some .O)(hN:X.N.Nodup)(hi:X.N[i]? = some x)(J:X.env.scope.names.lookup x=some .local\/X.env.scope.names.lookup x=some .cell)(h:DE X fl .F e f)
 (hs:swapsWith e (some (.Name x pos')) pos.line X.env=pure false:=by rfl) (B:X.fn x=true\/X.env.scope.names.lookup x=some .local:=by first|exact .inl rfl|exact .inr rfl) :
 DS1 X fl (.Assign [.Name x pos'] e pos) (bQ i f):=PS.imp (G_ (i:=i) hN hi J h hs B) λDn σ H h=>by
 obtain⟨G,ow,δ,o,R,Z,q⟩:=h
 unfold bQ at Z
 by_cases W:i<δ.length
 ·rw[if_pos W]at Z
  obtain⟨d,U,V⟩:=bind1 Z
  cases V
  refine⟨G,ow,δ,d,R,U,λv H' s r=>?_⟩
  obtain⟨Y,R'⟩:=R.setO s D (uW R W) r
  exact q Y _ H' R'
 ·rw[if_neg W]at Z
  cases Z
theorem R3(D:fl[i]? = some .A)(O:X.N.Nodup)(hi:X.N[i]? = some x)(J:X.env.scope.names.lookup x=some .local\/X.env.scope.names.lookup x=some .cell)
 (B:X.fn x=true\/X.env.scope.names.lookup x=some .local:=by first|exact .inl rfl|exact .inr rfl):DG X fl [i] (.Name x pos) (gNl i):=
 PG.imp (Rj (i:=i) O hi J B) λv σ H Q h=>by
 obtain⟨G,ow,δ,d,W,R,r,Z,q⟩:=h
 unfold gNl at Z
 by_cases Y:i<δ.length
 ·rw[if_pos Y]at Z
  cases Z
  exact q _ (R.pZ D (uW R Y) r) λj V=>bK (λz=>V (by rw[z];exact aO.mpr rfl))
 ·rw[if_neg Y]at Z
  cases Z
noncomputable def ae4(K:PySem.W.Frag)(fl:List Fl)(tg:List Nat)(g:List D->DS->Option DS):TGs:=λvs σ H Q=>∃G ow δ ds Z,Rel K fl G ow σ H δ/\RAs K (okA ow) true H vs ds/\g ds δ=some Z/\∀σ',Rel K fl G ow σ' H Z->(∀j,j∉tg->σ'[j]? = σ[j]?)->Q σ' H
theorem PGs.imp{t t':TGs}(h:PGs X es t)(i:∀v σ H Q,t' v σ H Q->t v σ H Q):PGs X es t':=λpins s σ H v u Q I r q=>h pins s σ H v u Q I r (i v σ H Q q)
noncomputable abbrev DGs(X:Cx)(fl:List Fl)(tg:List Nat)(es:List Expr)(g:List D->DS->Option DS):Prop:=PGs X es (ae4 X.K fl tg g)
theorem sV:DGs X fl [] [] jZ:=PGs.imp Rm λvs σ H Q h=>by
 obtain⟨G,ow,δ,ds,Y,R,r,Z,q⟩:=h
 cases r with
 |nil=>cases Z;exact⟨rfl,q σ R λ_ _=>rfl⟩
 |cons _ _=>cases Z
theorem iR{tg B:List Nat}{g:FG}{gs:List D->DS->Option DS}(h1:DG X fl tg e g)(h2:DGs X fl B es gs)(hs:(assignEach (e::es) X.env).map (·.2)=assign e X.env::(assignEach es X.env).map (·.2):=by rfl):
 DGs X fl (tg++B) (e::es) (cV g gs):=PGs.imp (Mh h1 h2 hs) λvs σ H Q h=>by
 obtain⟨G,ow,δ,ds,W,R,r,T,q⟩:=h
 cases r with
 |nil=>cases T
 |cons P S=>
  obtain⟨Y,N,O⟩:=bind1 T
  refine⟨_,_,rfl,G,ow,δ,_,Y,R,P,N,λσ' R' k1=>⟨G,ow,Y,_,W,R',S,O,λZ V k2=>q Z V λj U=>?_⟩⟩
  rw[k2 j λz=>U (bJ _ z),k1 j λz=>U (bY _ z)]
theorem vQ{tg:List Nat}{gs:List D->DS->Option DS}{k:Nat}(J:X.calm=true)(h:DGs X fl tg es gs)(hn:(assignEach es X.env).length=n:=by rfl)(B:(assignEach es X.env).findIdx? (·.1)=none:=by rfl):
 DG X fl tg (.Tuple es k pos) (gTn n gs):=PG.imp (VP (n:=n) J h hn B) λv σ H Q h=>by
 obtain⟨G,ow,δ,d,Y,R,r,Z,q⟩:=h
 unfold gTn at Z
 split at Z
 ·next l=>
  by_cases z:l.length=n
  ·rw[if_pos z]at Z
   obtain⟨a,xs,rfl,V,W⟩:=r.tupE
   exact⟨a,xs,rfl,V,by rw[W.length];exact z,G,ow,δ,l,Y,R,W,Z,q⟩
  ·rw[if_neg z]at Z
   cases Z
 ·cases Z
theorem Nb{tg:List Nat}{g:FG}{t:Expr}(h:DE X fl .A e f)(B:DG X fl tg t g)(hs:swapsWithSole [t] e pos.line X.env=pure false:=by rfl)(hw:swappedStores [t] e X.env=pure none:=by rfl)
 (h1:(assignEach [t] X.env).map (·.2)=[assign t X.env]:=by rfl):DS1 X fl (.Assign [t] e pos) (Ew f g):=PS.imp (G9 h B hs hw h1) λDn σ H h=>by
 obtain⟨G,ow,δ,o,R,Y,q⟩:=h
 obtain⟨d,T,U⟩:=bind1 Y
 obtain⟨Z,V,W⟩:=bind1 U
 cases W
 exact⟨G,ow,δ,d,R,T,λv H' s r=>⟨G,ow,δ,d,Z,R.grow s,r,V,λσ' R' _=>q ow σ' H' R'⟩⟩
end
end D3
variable{l:List D3.D}{vpos:Pos}{fk:D3.FE}{Hb:L2.Hp}{fa:D3.FA}
namespace D3
open PySem PySem.Spec PyProof.Rows L2 My
section
variable{X:Cx}{fl:List Fl}{e a b c:Expr}{es:List Expr}{st:Stmt}{sts body orelse:List Stmt}{k:Kd}{f fa fb fc:FE}{fs gs:FS}{ft gt:FT}{pos:Pos}
theorem Nf{σ:St}(R:Rel K fl G ow σ H δ)(B:fl[i]? = some .O)(h:ao i δ=some (.list l)):
 ∃a xs,ow i=some a/\σ[i]? = some (some (.ref a))/\H a=some (.lst xs)/\RAs K (okA ow) true H xs l:=by
 have e:=mV h
 cases Z:ow i with
 |none=>
  have z:=R.oo i _ e (by rw[B];rfl) (by rw[B];simp) Z
  simp[flat]at z
 |some a=>
  obtain⟨W,_,xs,ds,h1,h2,X,Y⟩:=R.own i a Z
  rw[e]at Y
  cases Y
  exact⟨a,xs,rfl,h1,h2,X⟩
theorem vR{apos cpos:Pos}(Y:fl[i]? = some .O)(h:DE X fl .A e f)(hN:X.N[i]? = some x)(hv:Vis X.env.scope x:=by first|exact Or.inl rfl|exact Or.inr (Or.inl rfl)|exact Or.inr (Or.inr rfl))(hd:(x==("__debug__":Str))=false:=by decide)
 (hcd:(x==("__classdict__":Str))=false:=by decide)
 (hs:swapsWith (.Call (.Attribute (.Name x vpos) "append" apos) [e] [] cpos) none pos.line X.env=pure false:=by rfl)
 (J:attributeBase (.Name x vpos) "append" X.env (eval (.Name x vpos) X.env)=eval (.Name x vpos) X.env:=by rfl)
 (hfew:((backTo cpos (starEach [e] X.env)).all (λx=>!x.1)&&(backToKw cpos (keywordEach [] X.env)).all (λx=>x.1.isSome)
  && decide (([e]:List Expr).length+([]:List Keyword).length+(if([]:List Keyword).isEmpty then 0 else 1)<30))=true:=by rfl)
 (D:(apos.endLine==cpos.line)=true:=by rfl) (W:starEach [e] X.env=(false,eval e X.env)::starEach [] X.env:=by rfl) (B:(backTo cpos (starEach [] X.env)).any (·.1)=false:=by rfl) :
 DS1 X fl (.Expr (.Call (.Attribute (.Name x vpos) "append" apos) [e] [] cpos) pos) (uU i f):=
 PS.imp (BL (YW PySem.F.plainAttrs_list PySem.F.slot_list_append PySem.F.type_list_append Ao (qe hN hv hd hcd) (jA h oE W) J hfew D W B) hs) λDn σ H h=>by
 obtain⟨G,ow,δ,o,R,Z,q⟩:=h
 obtain⟨x,M,U⟩:=bind1 Z
 obtain⟨d,P,V⟩:=bind1 U
 clear Z U
 have Z:=V
 clear V
 split at Z
 case h_2=>cases Z
 next l=>
 by_cases T:l.length<1000000
 ·rw[if_pos T]at Z
  cases Z
  obtain⟨a,xs,Q,h1,h2,S⟩:=Nf R Y M
  refine⟨_,h1,.inl ⟨rfl,_,SqL.of h2⟩,G,ow,δ,d,R,P,λv H' s r=>?_⟩
  have R':=R.grow s
  refine⟨a,xs,v,rfl,rfl,s _ _ h2,by rw[S.length];exact nQ T (by decide),?_⟩
  exact q ow σ _ (R'.mut Y Q ((S.same s).append (.cons r .nil)))
 ·rw[if_neg T]at Z
  cases Z
theorem Wm{ke:Expr}(B:fl[i]? = some .O)(h:DE X fl .A e f)(hk:DE X fl .P ke fk)(hN:X.N[i]? = some x)(hv:Vis X.env.scope x:=by first|exact Or.inl rfl|exact Or.inr (Or.inl rfl)|exact Or.inr (Or.inr rfl))(hd:(x==("__debug__":Str))=false:=by decide)
 (hcd:(x==("__classdict__":Str))=false:=by decide) (ha:∀v,assign (.Subscript (.Name x vpos) ke spos) X.env v=(do
  let D <-holding [v] (eval (.Name x vpos) X.env)
  let J <-holding [v,D] (eval ke X.env)
  standAt spos
  holding [v,D,J] (setItem D J v)
  release [v,D,J] []):=by intro _;rfl)
 (hs:swapsWithSole [.Subscript (.Name x vpos) ke spos] e pos.line X.env=pure false:=by rfl) (hw:swappedStores [.Subscript (.Name x vpos) ke spos] e X.env=pure none:=by rfl)
 (h1:(assignEach [.Subscript (.Name x vpos) ke spos] X.env).map (·.2)=[assign (.Subscript (.Name x vpos) ke spos) X.env]:=by rfl) :
 DS1 X fl (.Assign [.Subscript (.Name x vpos) ke spos] e pos) (BX i fk f):=
 PS.imp (G9 h (Mi (qe hN hv hd hcd) hk set_list ha) hs hw h1) λDn σ H h=>by
 obtain⟨G,ow,δ,o,R,Z,q⟩:=h
 obtain⟨d,K,V⟩:=bind1 Z
 obtain⟨x,I,W⟩:=bind1 V
 obtain⟨k,L,Y⟩:=bind1 W
 clear Z V W
 have Z:=Y
 clear Y
 split at Z
 case h_2=>cases Z
 next l j=>
 obtain⟨n,M,Q⟩:=bind1 Z
 cases Q
 obtain⟨a,xs,S,h1,h2,U⟩:=Nf R B I
 refine⟨G,ow,δ,d,R,K,λv H' s r=>⟨_,h1,G,ow,δ,_,R.grow s,L,λu H2 s2 T=>?_⟩⟩
 obtain rfl:=RA.intE T
 have R2:=R.grow (s.trans s2)
 refine⟨a,xs,j,n,rfl,rfl,(s.trans s2) _ _ h2,by rw[U.length];exact M,?_⟩
 exact q ow σ _ (R2.mut B S (RAs.set (RA.same s2 r) n (U.same (s.trans s2))))
noncomputable def U8(K:PySem.W.Frag)(ow:Ow)(L:List Nat)(H1:Hp)(J:It)(l:List D):Prop:=∀H2:Hp,(∀b o,H1 b=some o->(∀i,ow i=some b->i∈L)->(∀i,b∉ow.n i)->H2 b=some o)->∀i:Nat,
 (∀d,l[i]? = some d->J.go i H2/\∀x Z,J.yld i H2 x Z->Same H2 Z/\RA K (λb=>okA ow b/\H1 b≠none) true Z x d)/\(l.length<=i->J.stop i H2)
noncomputable def tDI(K:PySem.W.Frag)(fl:List Fl)(L:List Nat)(fi:FA):TI:=λσ H R'=>∃G ow δ l,Rel K fl G ow σ H δ/\fi δ=some l/\∀J H1,Same H H1->U8 K ow L H1 J l->R' J H1
noncomputable abbrev DI(X:Cx)(fl:List Fl)(L:List Nat)(tg iter:Expr)(fi:FA):Prop:=PI X tg iter (tDI X.K fl L fi)
theorem PI.imp{t t':TI}(h:PI X tg iter t)(i:∀σ H R',t' σ H R'->t σ H R'):PI X tg iter t':=λpins s σ H R' I q=>h pins s σ H R' I (i σ H R' q)
section
variable{K:PySem.W.Frag}{ok:Ok}{pl:Bool}{H1 H2:Hp}{ow:Ow}{L:List Nat}
theorem nm{b:Addr}(B:∀i b,ow i=some b->∃xs,H1 b=some (.lst xs))(h:H1 b=some o)(hn:∀xs,o ≠ .lst xs):∀i,ow i=some b->i∈L:=λi e=>by
 obtain⟨xs,z⟩:=B i b e
 rw[h]at z
 exact absurd (cY.inj z) (hn xs)
theorem nm2{b:Addr}(B:∀i b,b∈ow.n i->Chd (H1 b))(h:H1 b=some o)(hn:Chg o->False):∀i,b∉ow.n i:=λi e=>by
 obtain⟨u,z,c⟩:=B i b e
 rw[h]at z
 cases z
 exact hn c
mutual
theorem RA.keep(hk:∀b o,H1 b=some o->(∀i,ow i=some b->i∈L)->(∀i,b∉ow.n i)->H2 b=some o)(hl:∀i b,ow i=some b->∃xs,H1 b=some (.lst xs))(hm:∀i b,b∈ow.n i->Chd (H1 b))(ho:∀b,ok b->okA ow b):∀{v:V}{d:D},RA K ok pl H1 v d->RA K ok pl H2 v d
 |_,_,.non=>.non
 |_,_,.bl b=>.bl b
 |_,_,.int i=>.int i
 |_,_,.str x=>.str x
 |_,_,.lst e k q=>.lst (hk _ _ e (λi z=>absurd z ((ho _ k).1 i)) (ho _ k).2) k (RAs.keep hk hl hm ho q)
 |_,_,.lsk e k q=>.lsk (by
  rcases e with⟨o,e⟩|e
  ·exact .inl ⟨o,hk _ _ e (nm hl e (by intro xs z;cases z)) (nm2 hm e Chg.frz)⟩
  ·exact .inr e) k (RAs.keep hk hl hm ho q)
 |_,_,.tup e q=>.tup (hk _ _ e (nm hl e (by intro xs z;cases z)) (nm2 hm e Chg.tup)) (RAs.keep hk hl hm ho q)
 |_,_,.dic e g k=>.dic (hk _ _ e (λi z=>absurd z ((ho _ k).1 i)) (ho _ k).2) (g.imp λ_ _ t=>hk _ _ t (nm hl t (by intro xs z;cases z)) (nm2 hm t Chg.tup)) k
 |_,_,.dik e g k=>.dik (hk _ _ e (nm hl e (by intro xs z;cases z)) (nm2 hm e Chg.frz)) (g.imp λ_ _ t=>hk _ _ t (nm hl t (by intro xs z;cases z)) (nm2 hm t Chg.tup)) k
theorem RAs.keep(hk:∀b o,H1 b=some o->(∀i,ow i=some b->i∈L)->(∀i,b∉ow.n i)->H2 b=some o)(hl:∀i b,ow i=some b->∃xs,H1 b=some (.lst xs))(hm:∀i b,b∈ow.n i->Chd (H1 b))(ho:∀b,ok b->okA ow b):∀{v:List V}{d:List D},RAs K ok pl H1 v d->RAs K ok pl H2 v d
 |_,_,.nil=>.nil
 |_,_,.cons e q=>.cons (RA.keep hk hl hm ho e) (RAs.keep hk hl hm ho q)
end
end
theorem Rel.ownL{σ:St}(R:Rel K fl G ow σ H δ):∀i b,ow i=some b->∃xs,H b=some (.lst xs):=λi b e=>by
 obtain⟨_,_,xs,_,_,h2,_⟩:=R.own i b e
 exact⟨xs,h2⟩
theorem Rel.ownC{σ:St}(R:Rel K fl G ow σ H δ):∀i b,b∈ow.n i->Chd (H b):=λi b e=>(R.nt i b e).2.1
theorem vU{σ:St}(R:Rel K fl G ow σ H δ)(r:Rs K G.H0 ow Hb H (.B L) v (.list l)):∃a xs,v = .ref a/\SqL K H a xs /\
 ∀H2:Hp,(∀b o,H b=some o->(∀i,ow i=some b->i∈L)->(∀i,b∉ow.n i)->H2 b=some o)->SqL K H2 a xs/\RAs K (λb=>okA ow b/\H b≠none) true H2 xs l:=by
 rcases r with r|⟨i,hi,a,xs,ds,X,rfl,e,Y,W⟩
 ·cases r with
  |lst e k q=>exact⟨_,_,rfl,SqL.of e,λH2 Z=>⟨SqL.of (Z _ _ e (λi z=>absurd z (k.1 i)) k.2),RAs.keep Z R.ownL R.ownC (λb z=>z.1) q.track⟩⟩
  |lsk e k q=>exact⟨_,_,rfl,e.sq,λH2 Z=>⟨SqK.sq (by
   rcases e with⟨o,e⟩|e
   ·exact .inl ⟨o,Z _ _ e (nm R.ownL e (by intro xs z;cases z)) (nm2 R.ownC e Chg.frz)⟩
   ·exact .inr e),RAs.keep Z R.ownL R.ownC (λb z=>z.1) q.track⟩⟩
 ·cases e
  exact⟨a,xs,rfl,SqL.of Y,λH2 Z=>⟨SqL.of (Z _ _ Y (λj z=>by rw[R.inj j i a z X];exact hi) (λj z=>R.ns j i a z X)),RAs.keep Z R.ownL R.ownC (λb z=>z.1) W.track⟩⟩
theorem lQ(h:DE X fl (.B L) e f):DI X fl L tg e (nG f):=PI.imp (Iw h) λσ H R' h=>by
 obtain⟨G,ow,δ,l,R,O,q⟩:=h
 obtain⟨d,N,U⟩:=bind1 O
 cases d<;>first|(cases U;done)|skip
 cases U
 refine⟨G,ow,δ,_,R,N,λv H1 s r=>?_⟩
 obtain⟨a,xs,rfl,Q,keep⟩:=vU (R.grow s) r
 refine⟨a,rfl,⟨xs,Q⟩,q _ _ s λH2 k2 i=>?_⟩
 obtain⟨Z,W⟩:=keep H2 k2
 refine⟨λd hd=>?_,λP=>⟨xs,Z,by rw[W.length];exact P⟩⟩
 obtain⟨y,V,T⟩:=W.get hd
 refine⟨⟨xs,y,Z,V⟩,λx M Y=>?_⟩
 obtain⟨e,S⟩:=Y
 subst e
 have:some y=some x:=V.symm.trans (S xs Z)
 cases this
 exact⟨Same.refl _,T⟩
theorem Ng(lo hi:Int):(gC lo hi).length=(hi-lo).toNat:=by simp[gC]
theorem Nh(lo hi:Int):U8 K ow L H1 (Itr lo (hi-lo).toNat) (gC lo hi):=by
 intro H2 _ i
 refine⟨λd hd=>?_,λY=>by rw[Ng]at Y;exact Y⟩
 unfold gC at hd
 rw[bf]at hd
 by_cases Z:i<(hi-lo).toNat
 ·rw[dO Z]at hd
  cases hd
  refine⟨Z,λx V X=>?_⟩
  obtain⟨e,W⟩:=X
  subst e W
  exact⟨Same.refl _,.int _⟩
 ·rw[bH (by simpa using Z)]at hd
  cases hd
theorem Jb{i:Int}(h:yC i=true): -(2^62)<=i/\i<2^62:=by
 unfold yC at h
 rw[aX]at h
 exact⟨of_decide_eq_true h.1,of_decide_eq_true h.2⟩
theorem jO{fa:FA}(B:Gl X "range")(hm:X.mg "range"=none)(h:DA X fl [a] fa)(hs:starEach [a] X.env=[(false,eval a X.env)]:=by rfl):DI X fl L tg (.Call (.Name "range" p) [a] [] pos) (mq fa):=
 PI.imp (Kc B hm h hs) λσ H R' h=>by
 obtain⟨G,ow,δ,l,R,V,q⟩:=h
 obtain⟨ds,U,Z⟩:=bind1 V
 split at Z
 ·next j=>
  by_cases z:yC j=true
  ·rw[if_pos z]at Z
   cases Z
   refine⟨G,ow,δ,_,R,U,λvs H1 s r=>?_⟩
   cases r with
   |cons W Y=>
    cases Y
    obtain rfl:=W.intE
    refine⟨j,rfl,(Jb z).1,(Jb z).2,?_⟩
    have w:=Nh (K:=X.K) (ow:=ow) (L:=L) (H1:=H1) 0 j
    rw[p7]at w
    exact q _ _ s w
  ·rw[if_neg z]at Z
   cases Z
 ·cases Z
noncomputable def lock(L:List Nat)(fl:List Fl):List Fl:=fl.mapIdx λi x=>if x = .O/\i∈L then .L else x
theorem m8:(lock L fl)[i]? = (fl[i]?).map λx=>if x = .O/\i∈L then .L else x:=by
 unfold lock
 rw[fH]
theorem Ni:(lock L fl)[i]? = some .A<->fl[i]? = some .A:=by
 rw[m8]
 cases h:fl[i]? with
 |none=>simp
 |some x=>
  cases x<;>simp
  by_cases z:i∈L<;>simp[z]
theorem Ht(h:(lock L fl)[i]? = some .O):fl[i]? = some .O/\i∉L:=by
 rw[m8]at h
 cases e:fl[i]? with
 |none=>rw[e]at h;simp at h
 |some x=>
  rw[e]at h
  cases x<;>simp at h
  by_cases z:i∈L
  ·simp[z]at h
  ·exact⟨rfl,z⟩
theorem Hu(h:fl[i]? = some .L):(lock L fl)[i]? = some .L:=by
 rw[m8,h]
 simp
theorem Jc(h:fl[i]? = some .O)(hi:i∈L):(lock L fl)[i]? = some .L:=by
 rw[m8,h]
 simp[hi]
theorem Jd(h:fl[i]? = some .O)(hi:i∉L):(lock L fl)[i]? = some .O:=by
 rw[m8,h]
 simp[hi]
theorem Ci:(lock L fl)[i]? = some .N<->fl[i]? = some .N:=by
 rw[m8]
 cases h:fl[i]? with
 |none=>simp
 |some x=>
  cases x<;>simp
  by_cases z:i∈L<;>simp[z]
theorem Hv:(lock L fl)[i]? = some .M<->fl[i]? = some .M:=by
 rw[m8]
 cases h:fl[i]? with
 |none=>simp
 |some x=>
  cases x<;>simp
  by_cases z:i∈L<;>simp[z]
theorem pQ:isN (lock L fl)[i]? = isN fl[i]?:=by
 rw[m8]
 cases h:fl[i]? with
 |none=>rfl
 |some x=>
  cases x<;>simp[isN]
  by_cases z:i∈L<;>simp[z]
noncomputable def Let(fl':List Fl)(ow:Ow)(b:Addr):Prop:=(∃j,ow j=some b/\fl'[j]? = some .O)\/∃j,b∈ow.n j/\fl'[j]? = some .N
open Classical in
noncomputable def ghL(fl':List Fl)(G:Gh)(ow:Ow)(H:Hp):Gh:=⟨G.H0,λb=>if Let fl' ow b then none else H b,ow,ow.n,G.tb⟩
open Classical in
theorem qy{fl':List Fl}{b:Addr}(h:¬Let fl' ow b):(ghL fl' G ow H).HF b=H b:=by
 unfold ghL
 dsimp only
 rw[if_neg h]
open Classical in
theorem Hw{fl':List Fl}{b:Addr}(h:Let fl' ow b):(ghL fl' G ow H).HF b=none:=by
 unfold ghL
 dsimp only
 rw[if_pos h]
theorem Rel.lock{σ:St}(L:List Nat)(R:Rel K fl G ow σ H δ):Rel K (lock L fl) (ghL (lock L fl) G ow H) ow σ H δ:=by
 refine⟨λb o X=>?_,λb o X=>?_,R.len,λi a h=>?_,R.inj,λi h=>rfl,λi d h1 hn h2=>R.dat i d h1 (by rw[pQ]at hn;exact hn) h2,λi d h1 hn h2 V=>R.oo i d h1 (by rw[pQ]at hn;exact hn) (λz=>h2 (Ni.mpr z)) V,λi a h=>?_,R.nd,R.ns,λi h=>rfl,λi d hn h1=>R.nr i d (by rw[pQ]at hn;exact hn) h1⟩
 ·have Y:G.H0 b=some o:=X
  rw[qy]
  ·exact R.same0 b o Y
  ·rintro(⟨j,e,_⟩|⟨j,e,_⟩)
   ·have:=(R.own j b e).1
    rw[Y]at this
    cases this
   ·have:=(R.nt j b e).1
    rw[Y]at this
    cases this
 ·by_cases z:Let (D3.lock L fl) ow b
  ·rw[Hw z]at X;cases X
  ·rw[qy z]at X;exact X
 ·obtain⟨S,Z,xs,ds,h1,h2,V,T⟩:=R.own i a h
  refine⟨S,?_,xs,ds,h1,h2,V,T⟩
  have out:(D3.lock L fl)[i]? = some .L->(ghL (D3.lock L fl) G ow H).HF a=H a:=λU=>qy (by
   rintro(⟨j,e,W⟩|⟨j,e,W⟩)
   ·rw[R.inj j i a e h,U]at W
    cases W
   ·exact R.ns j i a e h)
  rcases Z with⟨Z,_⟩|⟨Z,_⟩
  ·by_cases hi:i∈L
   ·exact .inr ⟨Jc Z hi,xs,by rw[out (Jc Z hi)];exact h2⟩
   ·exact .inl ⟨Jd Z hi,Hw (.inl ⟨i,h,Jd Z hi⟩)⟩
  ·exact .inr ⟨Hu Z,xs,by rw[out (Hu Z)];exact h2⟩
 ·obtain⟨O,P,Q⟩:=R.nt i a h
  refine⟨O,P,?_⟩
  rcases Q with⟨z,_⟩|z
  ·exact .inl ⟨Ci.mpr z,Hw (.inr ⟨i,h,Ci.mpr z⟩)⟩
  ·exact .inr (Hv.mpr z)
theorem Rel.unlock{B:Ow}{σ σ':St}{D:DS}(R:Rel K fl G ow σ H δ)(R':Rel K (D3.lock L fl) (ghL (D3.lock L fl) G ow H) B σ' H' D):Rel K fl G B σ' H' D:=by
 have sub:Same G.HF (ghL (D3.lock L fl) G ow H).HF:=λb o W=>by
  rw[qy]
  ·exact R.s1 b o W
  ·rintro(⟨j,e,X⟩|⟨j,e,X⟩)
   ·rcases(R.own j b e).2.1 with⟨_,z⟩|⟨z,_⟩
    ·rw[W]at z;cases z
    ·have:=(Ht X).1
     rw[z]at this
     cases this
   ·rcases(R.nt j b e).2.2 with⟨_,z⟩|z
    ·rw[W]at z;cases z
    ·have:=Ci.mp X
     rw[z]at this
     cases this
 refine⟨R.s0,sub.trans R'.s1,R'.len,λi a h=>?_,R'.inj,λi h=>?_,λi d h1 hn h2=>R'.dat i d h1 (by rw[pQ];exact hn) h2,λi d h1 hn h2 T=>R'.oo i d h1 (by rw[pQ];exact hn) (λz=>h2 (Ni.mp z)) T,λi a h=>?_,R'.nd,R'.ns,λi h=>?_,λi d hn h1=>R'.nr i d (by rw[pQ];exact hn) h1⟩
 ·obtain⟨S,Z,rest⟩:=R'.own i a h
  refine⟨S,?_,rest⟩
  rcases Z with⟨Z,Y⟩|⟨Z,_⟩
  ·exact .inl ⟨(Ht Z).1,sub.free Y⟩
  ·have e:B i=ow i:=R'.pin i Z
   rw[e]at h
   exact(R.own i a h).2.1
 ·have e:B i=ow i:=R'.pin i (Hu h)
  rw[e]
  exact R.pin i h
 ·obtain⟨U,V,Q⟩:=R'.nt i a h
  rcases Q with⟨z,Y⟩|z
  ·exact⟨U,V,.inl ⟨Ci.mp z,sub.free Y⟩⟩
  ·exact⟨U,V,.inr (Hv.mp z)⟩
 ·have e:B.n i=ow.n i:=R'.np i (Hv.mpr h)
  rw[e]
  exact R.np i h
theorem jY{T:List Nat}{fi:FA}{g:FG}(hp:PassesOwn (model X.prog X.w) X.A X.env X.xe)(hc:X.calm=true)(hi:DI X fl L tg iter fi)(hg:DG X (lock L fl) T tg g)(B:DSs X (lock L fl) body fs)
 (hs:∀x,foldedSetIterable iter X.env x=pure x:=by intro _;rfl):DS1 X fl (.For tg iter body [] pos) (lY fi g fs):=PS.imp (V3 hp hc hi hg B hs) λDn σ H h=>by
 obtain⟨G,ow,δ,o,I,k,q⟩:=h
 obtain⟨l,e1,e2⟩:=bind1 k
 refine⟨G,ow,δ,l,I,e1,λJ H1 s D=>?_⟩
 have N:=I.grow s
 have RL:=N.lock L
 refine⟨λi m σ' H'=>m=l.length-i/\∃Z Y,Rel X.K (lock L fl) (ghL (lock L fl) G ow H1) Z σ' H' Y/\iJ g fs (l.drop i) Y=some o,⟨_,rfl,ow,δ,RL,by simpa using e2⟩,?_⟩
 rintro i m σ' H' ⟨rfl,Z,Y,R',hd⟩
 have kept:∀b o,H1 b=some o->(∀i,ow i=some b->i∈L)->(∀i,b∉ow.n i)->H' b=some o:=λb o B r hn=>R'.s1 b o (by
  rw[qy]
  ·exact B
  ·rintro(⟨j,e,p⟩|⟨j,e,_⟩)
   ·exact(Ht p).2 (r j e)
   ·exact hn j e)
 obtain⟨y,C⟩:=D H' kept i
 by_cases O:i<l.length
 ·have Q:l.drop i=l[i]::l.drop (i+1):=jT O
  rw[Q,iJ]at hd
  obtain⟨P,e3,hd⟩:=bind1 hd
  obtain⟨M,a,hd⟩:=bind1 hd
  obtain⟨go,E⟩:=y l[i] (aF O)
  refine .inr ⟨go,λσ' H'=>∃Z Y,Rel X.K (lock L fl) (ghL (lock L fl) G ow H1) Z σ' H' Y/\iJ g fs (l.drop (i+1)) Y=some o,λS H2 ⟨W,V,R2,h2⟩=>⟨l.length-(i+1),by omega,rfl,W,V,R2,h2⟩,λx H3 t=>?_⟩
  obtain⟨s3,u⟩:=E x H3 t
  have sub:∀b,okA ow b/\H1 b≠none->okA Z b:=λb z=>by
   obtain⟨z1,z2⟩:=z
   refine⟨λj e=>?_,λj e=>?_⟩
   ·rcases(R'.own j b e).2.1 with⟨_,R⟩|⟨R,_⟩
    ·have:(ghL (lock L fl) G ow H1).HF b=H1 b:=qy (by rintro(⟨j',U,_⟩|⟨j',U,_⟩);exact z1.1 j' U;exact z1.2 j' U)
     rw[this]at R
     exact z2 R
    ·have U:Z j=ow j:=R'.pin j R
     rw[U]at e
     exact z1.1 j e
   ·rcases(R'.nt j b e).2.2 with⟨_,R⟩|w
    ·have:(ghL (lock L fl) G ow H1).HF b=H1 b:=qy (by rintro(⟨j',U,_⟩|⟨j',U,_⟩);exact z1.1 j' U;exact z1.2 j' U)
     rw[this]at R
     exact z2 R
    ·have U:Z.n j=ow.n j:=R'.np j w
     rw[U]at e
     exact z1.2 j e
  refine⟨_,Z,Y,_,P,R'.grow s3,u.imp sub (λz=>z),e3,λF R4 _=>⟨_,Z,P,M,R4,a,?_⟩⟩
  ·cases M with
   |nx V=>exact λW S H2 R2=>⟨W,V,R2,hd⟩
   |ct V=>exact λW S H2 R2=>⟨W,V,R2,hd⟩
   |bk V=>cases hd;exact λW S H2 R2=>q W S H2 (N.unlock R2)
   |rt d=>cases hd;exact q
   |ex c f v=>cases hd;exact q
 ·have e:l.drop i=[]:=gY (by omega)
  rw[e,iJ]at hd
  cases hd
  exact .inl ⟨C (by omega),q Z σ' H' (N.unlock R')⟩
end
end D3
variable{g':D3.D->D3.D->Option D3.D}
namespace D3
open PySem PySem.Spec PyProof.Rows L2 My
noncomputable def notStar:Expr->Bool
 | .Starred _ _=>false
 |_=>true
theorem nY(h:notStar e=true):starEach (e::es) env=(false,eval e env)::starEach es env:=by
 cases e<;>first|rfl|cases h
theorem Nj(h:es.all notStar=true):(backTo pos (starEach es env)).any (·.1)=false:=by
 induction es with
 |nil=>rfl
 |cons e es Z=>
  rw[List.all_cons,aX]at h
  rw[nY h.1]
  have:=Z h.2
  unfold backTo at this ⊢
  rw[aQ,mR,this]
  rfl
noncomputable def isR:Kd->Bool
 | .P=>true
 | .A=>true
 | .R=>true
 | .C=>true
 |_=>false
noncomputable def Nk(H0:Hp)(ow:Ow)(Hb:Hp):Kd->Ok
 | .P=>ok1
 | .A=>okA ow
 | .R=>okN H0
 |_=>okN Hb
noncomputable def Wn:Kd->Bool
 | .P=>true
 | .A=>true
 |_=>false
section
variable{K:PySem.W.Frag}{H0 Hb Hc H:Hp}{ow:Ow}{v:V}{d:D}{k:Kd}
theorem Rs.ra(B:isR k=true)(h:Rs K H0 ow Hb H k v d):RA K (Nk H0 ow Hb k) (Wn k) H v d:=by
 cases k<;>first|exact h|cases B
theorem Rs.of_ra(B:isR k=true)(h:RA K (Nk H0 ow Hb k) (Wn k) H v d):Rs K H0 ow Hb H k v d:=by
 cases k<;>first|exact h|cases B
theorem Kr(s:Same Hb Hc)(B:isR k=true):∀a,Nk H0 ow Hc k a->Nk H0 ow Hb k a:=λa z=>by
 cases k<;>first|exact z|exact s.free z|cases B
theorem Rs.of_flat(D:flat d=true)(h:RA K ok0 false H v d):Rs K H0 ow Hb H k v d:=by
 cases k with
 |P=>exact RA.flat D h
 |B L=>exact .inl (RA.flat D h)
 |A=>exact RA.flat D h
 |R=>exact RA.flat D h
 |F=>exact .inl ⟨D,h⟩
 |C=>exact RA.flat D h
 |FC=>exact .inl ⟨D,h⟩
 |T=>
  obtain⟨as,h1,_,Z⟩:=RA.rt h
  cases as with
  |nil=>exact⟨[],h1,.nil,λ_ z=>by cases z⟩
  |cons a r=>exact(Z a aG).elim
theorem Rs.back(s:Same Hb Hc)(h:Rs K H0 ow Hc H k v d):Rs K H0 ow Hb H k v d:=by
 cases k with
 |P=>exact h
 |B L=>exact h
 |A=>exact h
 |R=>exact h
 |F=>
  rcases h with h|⟨a,xs,ds,h1,h2,Z,Y⟩
  ·exact .inl h
  ·exact .inr ⟨a,xs,ds,h1,h2,s.free Z,Y⟩
 |C=>exact RA.imp (λa z=>s.free z) (λz=>z) h
 |FC=>
  rcases h with h|⟨a,xs,ds,h1,h2,Z,Y,X⟩
  ·exact .inl h
  ·exact .inr ⟨a,xs,ds,h1,h2,s.free Z,Y,X.imp (λb z=>⟨s.free z.1,z.2⟩) (λz=>z)⟩
 |T=>
  obtain⟨as,h1,h2,Z⟩:=h
  exact⟨as,h1,h2,λa z=>s.free (Z a z)⟩
end
noncomputable def tDB(K:PySem.W.Frag)(fl:List Fl)(k:Kd)(f:FA):TA:=λσ H Q=>∃G ow δ ds,Rel K fl G ow σ H δ/\f δ=some ds/\∀vs H',Same H H'->RAs K (Nk G.H0 ow H k) (Wn k) H' vs ds->Q vs H'
noncomputable abbrev DB(X:Cx)(fl:List Fl)(k:Kd)(es:List Expr)(f:FA):Prop:=PA X es (tDB X.K fl k f)
section
variable{X:Cx}{fl:List Fl}{e a b c:Expr}{es rest:List Expr}{k:Kd}{f fa fb fc:FE}{ft gt:FT}{pos:Pos}
theorem Wo:DB X fl k [] bw:=PA.imp oE λσ H Q h=>by
 obtain⟨G,ow,δ,ds,R,Z,q⟩:=h
 cases Z
 exact q [] H (Same.refl H) .nil
theorem R5{fr:FA}(B:isR k=true)(h:DE X fl k e f)(D:DB X fl k es fr)(hs:starEach (e::es) X.env=(false,eval e X.env)::starEach es X.env:=by exact nY rfl):DB X fl k (e::es) (aH f fr):=PA.imp (jA h D hs) λσ H Q h=>by
 obtain⟨G,ow,δ,ds,R,Z,q⟩:=h
 obtain⟨d,U,Z⟩:=bind1 Z
 obtain⟨r,V,Z⟩:=bind1 Z
 cases Z
 refine⟨G,ow,δ,d,R,U,λv H1 s1 W=>⟨G,ow,δ,r,R.grow s1,V,λvs H2 s2 Y=>?_⟩⟩
 exact q _ H2 (s1.trans s2) (.cons ((W.ra B).same s2) (Y.imp (Kr s1 B) (λz=>z)))
theorem uX(h:DB X fl .P es B):DA X fl es B:=PA.imp h λσ H Q h=>by
 obtain⟨G,ow,δ,ds,R,Z,q⟩:=h
 exact⟨G,ow,δ,ds,R,Z,λvs H' s r=>q vs H' s r⟩
theorem vV{B}{fa:FA}(D:isR k=true)(h:DB X fl k es fa):DE X fl k (.Tuple es B pos) (dTup fa):=PE.imp (V8 h) λσ H Q h=>by
 obtain⟨G,ow,δ,d,R,W,q⟩:=h
 obtain⟨l,V,Z⟩:=bind1 W
 by_cases z:l.length<=sizeLine
 ·rw[if_pos z]at Z
  cases Z
  refine⟨G,ow,δ,l,R,V,λvs H' s r=>⟨by rw[r.length];exact z,λp Y=>?_⟩⟩
  have g:=cX Y (.tup vs)
  exact q _ _ (s.trans g) (Rs.of_ra D (.tup cQ (r.same g)))
 ·rw[if_neg z]at Z
  cases Z
theorem xK{fa:FA}(h:DB X fl .A es fa):DE X fl .F (.List es pos) (jD fa):=PE.imp (Mt h) λσ H Q h=>by
 obtain⟨G,ow,δ,d,R,W,q⟩:=h
 obtain⟨l,V,Z⟩:=bind1 W
 by_cases z:l.length<=sizeLine
 ·rw[if_pos z]at Z
  cases Z
  refine⟨G,ow,δ,l,R,V,λvs H' s r=>⟨by rw[r.length];exact z,λp Y=>?_⟩⟩
  have g:=cX Y (.lst vs)
  exact q _ _ (s.trans g) (.inr ⟨p,vs,l,rfl,rfl,s.free Y,cQ,(r.track.imp (λb w=>⟨w.1,λe=>w.2 (e▸Y)⟩) (λz=>z)).same g⟩)
 ·rw[if_neg z]at Z
  cases Z
theorem jC{fa:FA}(h:DB X fl .C es fa):DE X fl .FC (.List es pos) (jD fa):=PE.imp (Mt h) λσ H Q h=>by
 obtain⟨G,ow,δ,d,R,W,q⟩:=h
 obtain⟨l,V,Z⟩:=bind1 W
 by_cases z:l.length<=sizeLine
 ·rw[if_pos z]at Z
  cases Z
  refine⟨G,ow,δ,l,R,V,λvs H' s r=>⟨by rw[r.length];exact z,λp Y=>?_⟩⟩
  have g:=cX Y (.lst vs)
  exact q _ _ (s.trans g) (.inr ⟨p,vs,l,rfl,rfl,s.free Y,cQ,(r.track.imp (λb w=>⟨w.1,λe=>w.2 (e▸Y)⟩) (λz=>z)).same g⟩)
 ·rw[if_neg z]at Z
  cases Z
theorem RAs.at{ok:Ok}{i:Int}(r:RAs K ok pl H vs l)(h:pAt l i=some d):∃v,atI vs i=some v/\RA K ok pl H v d:=by
 unfold pAt at h
 unfold atI
 obtain⟨j,W,X⟩:=bind1 h
 obtain⟨y,Y,Z⟩:=r.get X
 exact⟨y,by rw[r.length,show ixN l.length i=some j from W];exact Y,Z⟩
theorem Za(ha:DE X fl (.B L) a fa)(D:DE X fl .P b fb)(hs:BP b):DE X fl .A (.Subscript a b pos) (dOp gIx fa fb):=PE.imp (YL Wd ha D hs) λσ H Q h=>by
 obtain⟨G,ow,δ,d,R,M,q⟩:=h
 obtain⟨x,y,J,K,U⟩:=Av M
 refine⟨G,ow,δ,x,R,J,λv H1 s1 Y=>⟨G,ow,δ,y,R.grow s1,K,λu H2 s2 S=>?_⟩⟩
 unfold gIx at U
 split at U
 ·next l i=>
  obtain rfl:=RA.intE S
  rcases Y with Y|⟨O,_,p,xs,ds,N,rfl,Z,W,V⟩
  ·obtain⟨p,xs,rfl,W,V⟩:=RA.lstE (RA.same s2 Y)
   obtain⟨z,Z,T⟩:=V.at U
   exact .inl ⟨p,xs,i,z,rfl,rfl,W,Z,q z H2 (s1.trans s2) T⟩
  ·cases Z
   obtain⟨z,Z,T⟩:=(V.same s2).at U
   exact .inl ⟨p,xs,i,z,rfl,rfl,SqL.of (s2 _ _ W),Z,q z H2 (s1.trans s2) T⟩
 ·next l i=>
  obtain rfl:=RA.intE S
  rcases Y with Y|⟨O,_,p,xs,ds,N,rfl,Z,W,V⟩
  ·obtain⟨p,xs,rfl,W,V⟩:=RA.tupE (RA.same s2 Y)
   obtain⟨z,Z,T⟩:=V.at U
   exact .inr (.inl ⟨p,xs,i,z,rfl,rfl,W,Z,q z H2 (s1.trans s2) T⟩)
  ·cases Z
 ·cases U
theorem uE{op:BoolOp}(h:DE X fl k a f):DE X fl k (.BoolOp op [a] pos) f:=VG h
theorem uF(h1:DE X fl .P a fa)(h2:DE X fl k (.BoolOp .And (b::rest) pos) fb):DE X fl k (.BoolOp .And (a::b::rest) pos) (zY fa fb):=PE.imp (VH h1 h2) λσ H Q h=>by
 obtain⟨G,ow,δ,d,R,V,q⟩:=h
 obtain⟨x,U,Z⟩:=bind1 V
 refine⟨G,ow,δ,x,R,U,λv H1 s1 Y=>?_⟩
 split at Z
 ·obtain rfl:=RA.blE Y
  exact⟨true,rfl,zW ⟨G,ow,δ,d,R.grow s1,Z,λu H2 s2 W=>q u H2 (s1.trans s2) (W.back s1)⟩⟩
 ·obtain rfl:=RA.blE Y
  cases Z
  exact⟨false,rfl,zV (q _ H1 s1 (Rs.of_flat rfl (.bl _)))⟩
 ·cases Z
theorem Zb(h1:DE X fl .P a fa)(h2:DE X fl k (.BoolOp .Or (b::rest) pos) fb):DE X fl k (.BoolOp .Or (a::b::rest) pos) (dOr fa fb):=PE.imp (Yw h1 h2) λσ H Q h=>by
 obtain⟨G,ow,δ,d,R,V,q⟩:=h
 obtain⟨x,U,Z⟩:=bind1 V
 refine⟨G,ow,δ,x,R,U,λv H1 s1 Y=>?_⟩
 split at Z
 ·obtain rfl:=RA.blE Y
  cases Z
  exact⟨true,rfl,zW (q _ H1 s1 (Rs.of_flat rfl (.bl _)))⟩
 ·obtain rfl:=RA.blE Y
  exact⟨false,rfl,zV ⟨G,ow,δ,d,R.grow s1,Z,λu H2 s2 W=>q u H2 (s1.trans s2) (W.back s1)⟩⟩
 ·cases Z
theorem Nm(h1:DE X fl .P a fa):DE X fl .FC (.UnaryOp .Not a pos) (M4 fa):=PE.imp (VJ h1) λσ H Q h=>by
 obtain⟨G,ow,δ,d,R,W,q⟩:=h
 obtain⟨x,V,Z⟩:=bind1 W
 refine⟨G,ow,δ,x,R,V,λv H1 s1 Y=>?_⟩
 split at Z
 ·next c=>
  obtain rfl:=RA.blE Y
  cases Z
  exact⟨c,rfl,q _ H1 s1 (Rs.of_flat rfl (.bl _))⟩
 ·cases Z
theorem Zc(B:DT X fl c ft)(h1:DE X fl k a fa)(h2:DE X fl k b fb):DE X fl k (.IfExp c a b pos) (dIf ft fa fb):=PE.imp (LQ B h1 h2) λσ H Q h=>by
 obtain⟨G,ow,δ,d,R,W,q⟩:=h
 obtain⟨t,V,Y⟩:=bind1 W
 refine⟨G,ow,δ,t,R,V,λH1 s1=>?_⟩
 cases t with
 |true=>exact zW ⟨G,ow,δ,d,R.grow s1,Y,λu H2 s2 Z=>q u H2 (s1.trans s2) (Z.back s1)⟩
 |false=>exact zV ⟨G,ow,δ,d,R.grow s1,Y,λu H2 s2 Z=>q u H2 (s1.trans s2) (Z.back s1)⟩
theorem mH(h:DT X fl a ft):DT X fl (.UnaryOp .Not a pos) (jc ft):=PT.imp (VF h) λσ H Q h=>by
 obtain⟨G,ow,δ,t,R,Z,q⟩:=h
 unfold jc at Z
 cases e:ft δ with
 |none=>rw[e]at Z;cases Z
 |some x=>
  rw[e]at Z
  cases Z
  exact⟨G,ow,δ,x,R,e,λH' s=>q H' s⟩
theorem xM(h:DT X fl a ft):DW X fl (.BoolOp .And [a] pos) ft:=Rf h
theorem rP(h:DT X fl a ft):DW X fl (.BoolOp .Or [a] pos) ft:=VB h
theorem Cj(h1:DT X fl a ft)(h2:DW X fl (.BoolOp .And (b::rest) pos) gt):DW X fl (.BoolOp .And (a::b::rest) pos) (BK ft gt):=PW.imp (VD h1 h2) λσ H Q h=>by
 obtain⟨G,ow,δ,t,R,Y,q⟩:=h
 obtain⟨x,W,Z⟩:=bind1 Y
 refine⟨G,ow,δ,x,R,W,λH1 s1=>?_⟩
 cases x with
 |true=>exact zW ⟨G,ow,δ,t,R.grow s1,Z,λH2 s2=>q H2 (s1.trans s2)⟩
 |false=>cases Z;exact zV (q H1 s1)
theorem wK(h1:DT X fl a ft)(h2:DW X fl (.BoolOp .Or (b::rest) pos) gt):DW X fl (.BoolOp .Or (a::b::rest) pos) (tOr ft gt):=PW.imp (Yt h1 h2) λσ H Q h=>by
 obtain⟨G,ow,δ,t,R,Y,q⟩:=h
 obtain⟨x,W,Z⟩:=bind1 Y
 refine⟨G,ow,δ,x,R,W,λH1 s1=>?_⟩
 cases x with
 |true=>cases Z;exact zW (q H1 s1)
 |false=>exact zV ⟨G,ow,δ,t,R.grow s1,Z,λH2 s2=>q H2 (s1.trans s2)⟩
theorem wV(h:DW X fl a ft):DT X fl a ft:=PW.pt h
theorem E_{g:D->D->Option D}(ho:OpR X (compareOp op) r)(B:OpR X (compareOp op') r')(hb:BrO X.K r g)(J:BrO X.K r' g')(h1:DE X fl .P a fa)(h2:DE X fl .P b fb)(h3:DE X fl .P c fc)
 (hm:lastMarks [op,op'] [b,c]=false:=by with_unfolding_all rfl):DE X fl .FC (.Compare a [op,op'] [b,c] pos) (ju g g' fa fb fc):=PE.imp (Mr ho B h1 h2 h3 hm) λσ H Q h=>by
 obtain⟨G,ow,δ,d,R,Z,q⟩:=h
 obtain⟨x,F,Z⟩:=bind1 Z
 obtain⟨y,I,Z⟩:=bind1 Z
 obtain⟨z,L,Z⟩:=bind1 Z
 refine⟨G,ow,δ,x,R,F,λv H1 s1 O=>⟨G,ow,δ,y,R.grow s1,I,λu H2 s2 W=>?_⟩⟩
 refine hb H2 v u x y z _ (RA.same s2 O) W L λE V Y=>?_
 split at Z
 ·obtain rfl:=Y.blE
  obtain⟨w,M,N⟩:=bind1 Z
  refine⟨true,rfl,zW ⟨G,ow,δ,w,R.grow (s1.trans s2),M,λT U s3 S=>?_⟩⟩
  exact J U u T y w d Q (RA.same s3 W) S N λz V Y=>q z U (s1.trans (s2.trans s3)) (.inl ⟨V,Y⟩)
 ·obtain rfl:=Y.blE
  cases Z
  exact⟨false,rfl,zV (q _ H2 (s1.trans s2) (.inl ⟨rfl,.bl _⟩))⟩
 ·cases Z
theorem Ks{B:CmpOp}{J:R2}{g g'':D->D->Option D}{d:Expr}{fd:FE}(ho:OpR X (compareOp op) r)(ho':OpR X (compareOp op') r')(O:OpR X (compareOp B) J)(hb:BrO X.K r g)(hb':BrO X.K r' g')(W:BrO X.K J g'')(h1:DE X fl .P a fa)(h2:DE X fl .P b fb)(h3:DE X fl .P c fc)(h4:DE X fl .P d fd)
 (hm:lastMarks [op,op',B] [b,c,d]=false:=by with_unfolding_all rfl):DE X fl .FC (.Compare a [op,op',B] [b,c,d] pos) (xH g g' g'' fa fb fc fd):=PE.imp (Kp ho ho' O h1 h2 h3 h4 hm) λσ H Q h=>by
 obtain⟨G,ow,δ,i,R,Z,q⟩:=h
 obtain⟨x,j,Z⟩:=bind1 Z
 obtain⟨y,k,Z⟩:=bind1 Z
 obtain⟨z,l,Z⟩:=bind1 Z
 refine⟨G,ow,δ,x,R,j,λv H1 s1 A=>⟨G,ow,δ,y,R.grow s1,k,λu H2 s2 N=>?_⟩⟩
 refine hb H2 v u x y z _ (RA.same s2 A) N l λf M V=>?_
 split at Z
 ·obtain rfl:=V.blE
  obtain⟨w,m,Z⟩:=bind1 Z
  obtain⟨E,n,Z⟩:=bind1 Z
  refine⟨true,rfl,zW ⟨G,ow,δ,w,R.grow (s1.trans s2),m,λU I s3 S=>?_⟩⟩
  refine hb' I u U y w E _ (RA.same s3 N) S n λF s Y=>?_
  split at Z
  ·obtain rfl:=Y.blE
   obtain⟨t,o,p⟩:=bind1 Z
   refine⟨true,rfl,zW ⟨G,ow,δ,t,R.grow (s1.trans (s2.trans s3)),o,λtv L T C=>?_⟩⟩
   exact W L U tv w t i Q (RA.same T S) C p λz M V=>q z L (s1.trans (s2.trans (s3.trans T))) (.inl ⟨M,V⟩)
  ·obtain rfl:=Y.blE
   cases Z
   exact⟨false,rfl,zV (q _ I (s1.trans (s2.trans s3)) (.inl ⟨rfl,.bl _⟩))⟩
  ·cases Z
 ·obtain rfl:=V.blE
  cases Z
  exact⟨false,rfl,zV (q _ H2 (s1.trans s2) (.inl ⟨rfl,.bl _⟩))⟩
 ·cases Z
theorem Wq{ok:Ok}(r:RA K ok pl H v d):decide (v = .non)=isNone d:=by
 cases r<;>rfl
noncomputable def BrC(K:PySem.W.Frag)(r:List V->Hp->VK->Prop)(g:List D->Option D):Prop:=∀(H:Hp)(xs:List V)(ds:List D)(d:D)(Q:VK),RAs K ok1 true H xs ds->g ds=some d->(∀v,flat d=true->RA K ok0 false H v d->Q v H)->r xs H Q
theorem fW{id:String}{r:List V->Hp->VK->Prop}{g:List D->Option D}{fa:FA}(hc:lZ X (.builtin id) r)(hb:BrC X.K r g)(W:Gl X x)(hm:X.mg x=none)(B:bootBuiltins x=some (.builtin id))(ha:DB X fl .P (e::es) fa)(hn:x≠"__name__" := by decide)(O:(x==("__debug__":Str))=false:=by decide)
 (he:starEach (e::es) X.env=(false,eval e X.env)::starEach es X.env:=by exact nY rfl) (J:(backTo pos (starEach es X.env)).any (·.1)=false:=by exact Nj rfl):DE X fl .FC (.Call (.Name x p) (e::es) [] pos) (dCall g fa):=
 PE.imp (m5 hc W hm B ha hn O he J) λσ H Q h=>by
 obtain⟨G,ow,δ,d,R,Y,q⟩:=h
 obtain⟨ds,T,U⟩:=bind1 Y
 exact⟨G,ow,δ,ds,R,T,λvs H' s r'=>hb H' vs ds d Q r' U λv B Z=>q v H' s (.inl ⟨B,Z⟩)⟩
theorem jG:BrC K (λxs H Q=>∃p ys,xs=[.ref p]/\(SqL K H p ys\/SqT K H p ys)/\Q (.int ys.length) H) iz:=by
 intro H xs ds d Q r e q
 unfold iz at e
 split at e
 ·next l=>
  cases e
  cases r with
  |cons Y Z=>
   cases Z
   obtain⟨a,ys,rfl,X,W⟩:=Y.lstE
   refine⟨a,ys,rfl,.inl X,?_⟩
   rw[W.length]
   exact q _ rfl (.int _)
 ·next l=>
  cases e
  cases r with
  |cons Y Z=>
   cases Z
   obtain⟨a,ys,rfl,X,W⟩:=Y.tupE
   refine⟨a,ys,rfl,.inr X,?_⟩
   rw[W.length]
   exact q _ rfl (.int _)
 ·cases e
theorem Wr:BrC K (λxs H Q=>∃i j,xs=[.int i,.int j]/\Q (.int (if j>i then j else i)) H) Ar:=by
 intro H xs ds d Q r e q
 unfold Ar at e
 split at e
 ·cases e
  cases r with
  |cons X Z=>
   cases Z with
   |cons Z Y=>
    cases Y
    obtain rfl:=X.intE
    obtain rfl:=Z.intE
    exact⟨_,_,rfl,q _ rfl (.int _)⟩
 ·cases e
theorem R6(d:D):tyD d="NoneType"\/tyD d="bool"\/tyD d="int"\/tyD d="str"\/tyD d="list"\/tyD d="tuple"\/tyD d="dict" := by
 cases d<;>simp[tyD]
noncomputable def ae5(K:PySem.W.Frag):List V->Hp->VK->Prop:=λxs H Q=>∃x c d,xs=[x,.ty c]/\(c="int"\/c="bool"\/c="tuple"\/c="list"\/c="str")/\RA K ok1 true H x d/\Q (.bl (isT c (tyD d))) H
theorem Np:lZ X (.builtin "isinstance") (ae5 X.K):=by
 intro pins s σ H xs us Q I r h
 obtain⟨x,c,d,rfl,O,ra,q⟩:=h
 obtain⟨u,M,rfl,Z,R⟩:=vals2 r
 cases R
 have kn:=Wh (K:=X.K) O (R6 d)
 have fin:∀tk,EP X pins σ Q (.bool (isT c (tyD d))) {s with toks:=tk}:=λtk=>⟨.bl _,H,I.tok _,rfl,q⟩
 cases ra with
 |non=>cases(show u=Value.none from Z);exact PySem.W.kia_one PySem.W.kitx_none I.kIn True.intro kn (λz=>nomatch z) fin
 |bl b=>cases(show u=Value.bool b from Z);exact PySem.W.kia_one PySem.W.kitx_bool I.kIn True.intro kn (λz=>nomatch z) fin
 |int i=>obtain⟨t,z⟩:=(show ∃t,u=Value.int i t from Z);cases z;exact PySem.W.kia_one PySem.W.kitx_int I.kIn True.intro kn (λz=>nomatch z) fin
 |str y=>obtain⟨t,z⟩:=(show ∃t,u=Value.str y t from Z);cases z;exact PySem.W.kia_one PySem.W.kitx_str I.kIn True.intro kn (λz=>nomatch z) fin
 | @lst a xs ds e k S=>
  cases(show u=Value.ref a from Z)
  obtain⟨its,_,⟨o,n,U,V,_⟩,_⟩:=I.list (SqL.of e)
  exact PySem.W.kia_one PySem.W.kitx_list I.kIn ⟨_,U,V⟩ kn (λz=>nomatch z) fin
 | @lsk a xs ds e k S=>
  cases(show u=Value.ref a from Z)
  obtain⟨its,_,⟨o,n,U,V,_⟩,_⟩:=I.list e.sq
  exact PySem.W.kia_one PySem.W.kitx_list I.kIn ⟨_,U,V⟩ kn (λz=>nomatch z) fin
 | @tup a xs ds e S=>
  cases(show u=Value.ref a from Z)
  obtain⟨its,_,⟨o,U,V,_⟩,_⟩:=I.tuple e.sq
  exact PySem.W.kia_one PySem.W.kitx_tuple I.kIn ⟨_,U,V⟩ kn (λz=>nomatch z) fin
 | @dic a T kvs e g k=>
  rcases g.or with⟨ks,z⟩|⟨ks,z⟩
  ·rw[z]at e;exact Ai I Z (TyOf.dK e) kn fin
  ·rw[z]at e;exact Ai I Z (TyOf.dT e) kn fin
 | @dik a T kvs Y e g k=>
  cases(show u=Value.ref a from Z)
  have Y:=(show gR X.prog X.w H s.heap a T from(show L2.Rd H a T from .inr ⟨_,e⟩).ok I.hok)
  rcases g.or with⟨ks,z⟩|⟨ks,z⟩
  ·rw[z]at Y
   obtain⟨_,_,vs,_,N⟩:=Y
   obtain⟨P,_,_,h1,h2,_⟩:=N
   exact PySem.W.kia_one PySem.W.kitx_dict I.kIn ⟨_,h1,h2.1⟩ kn (λz=>nomatch z) fin
  ·rw[z]at Y
   obtain⟨_,_,xs,_,P,_,_,h1,h2,_⟩:=Y
   exact PySem.W.kia_one PySem.W.kitx_dict I.kIn ⟨_,h1,h2.1⟩ kn (λz=>nomatch z) fin
theorem oF{p':Pos}(hc:T="int"\/T="bool"\/T="tuple"\/T="list"\/T="str")(h:DE X fl .P a f)(hg:Gl X "isinstance")(hm:X.mg "isinstance"=none)(W:Gl X x)(O:X.mg x=none)(B:bootBuiltins x=some (.type T))
 (J:x≠"__name__" := by decide) (Z:(x==("__debug__":Str))=false:=by decide)
 (he:starEach [a,.Name x p'] X.env=(false,eval a X.env)::starEach [.Name x p'] X.env:=by rfl) (Y:starEach [.Name x p'] X.env=(false,eval (.Name x p') X.env)::starEach [] X.env:=by rfl) (D:(backTo pos (starEach [.Name x p'] X.env)).any (·.1)=false:=by rfl) :
 DE X fl .FC (.Call (.Name "isinstance" p) [a,.Name x p'] [] pos) (dUn (gIs T) f):=
 PE.imp (m5 Np hg hm boot_isinstance (jA h (jA (Rc (v:=.ty T) W O B rfl J Z) oE Y) he) (by decide) (by decide) he D) λσ H Q h=>by
 obtain⟨G,ow,δ,d,R,U,q⟩:=h
 obtain⟨x,N,S⟩:=bind1 U
 cases S
 exact⟨G,ow,δ,x,R,N,λv H1 s1 V=>⟨v,T,x,rfl,hc,V,q _ H1 s1 (.inl ⟨rfl,.bl _⟩)⟩⟩
theorem Ws(h:DE X fl .P a f):DE X fl .FC (.UnaryOp .USub a pos) (dUn RK f):=PE.imp (YF V7 h) λσ H Q h=>by
 obtain⟨G,ow,δ,d,R,W,q⟩:=h
 obtain⟨x,V,Z⟩:=bind1 W
 refine⟨G,ow,δ,x,R,V,λv H1 s1 Y=>?_⟩
 unfold RK at Z
 split at Z
 ·cases Z
  obtain rfl:=RA.intE Y
  exact⟨_,rfl,q _ H1 s1 (.inl ⟨rfl,.int _⟩)⟩
 ·cases Z
end
noncomputable def spD(K:PySem.W.Frag)(F:List D->Option D):Sp:=λvs H Q _=>∃ds d,(Tb H/\RAs K ok1 true H vs ds)/\F ds=some d/\∀v H',Same H H'->RA K (okN H) false H' v d->Q v H'
section
variable{P:Program}{w:World}{K:PySem.W.Frag}{mg:Str->Option Value}{base:Heap}{x:Str}{ps N:List Str}{st:Stmt}{k n:Nat}{fs:FS}{fl:List Fl}
theorem mJ(p:Nat)(D:∀i,i<p->fl[i]? = some .A)(B:ds.length=p)(J:p<=N.length)(r':Tb H/\RAs K ok1 true H vs ds):
 Rel K fl ⟨H,H,λ_=>none,λ_=>[],r'.1⟩ ow0 (L2.start N vs) H (ds.map (λd=>some (.d d))++aN (N.length-p) none):=by
 have r:=r'.2
 have Z:vs.length=p:=by rw[r.length];exact B
 have get:∀i d,(ds.map (λd=>some (U.d d))++aN (N.length-p) none)[i]? = some (some (.d d))->i<p/\ds[i]? = some d:=λi d h=>by
  by_cases hi:i<p
  ·rw[bW (by rw[au,B];exact hi),bf]at h
   cases e:ds[i]? with
   |none=>rw[e]at h;cases h
   |some z=>rw[e]at h;cases h;exact⟨hi,rfl⟩
  ·rw[bT (by rw[au,B];omega),fD]at h
   split at h<;>cases h
 refine⟨Same.refl H,Same.refl H,?_,λi a h=>(by cases h),λi j a h=>(by cases h),λi h=>rfl,λi d h _ _=>?_,λi d h _ h2 _=>?_,λi a h=>(by cases h),λi j a h=>(by cases h),λi j a h=>(by cases h),λi h=>rfl,λi d hn h=>?_⟩
 ·unfold L2.start
  simp only[bG,au,bC,Z,B]
 ·obtain⟨hi,e⟩:=get i d h
  obtain⟨v,X,Y⟩:=r.get e
  refine⟨v,?_,Y.imp (λ_ _=>⟨λi z=>(by cases z),λi z=>(by cases z)⟩) (λz=>z)⟩
  unfold L2.start
  rw[bW (by rw[au,Z];exact hi),bf,X]
  rfl
 ·exact absurd (D i (get i d h).1) h2
 ·rw[D i (get i d h).1]at hn
  cases hn
end
section
variable{X:Cx}{fl:List Fl}{e:Expr}{es:List Expr}{pos p:Pos}{x:Str}{ps:List Str}{n:Nat}{F:List D->Option D}{fa:FA}
theorem cI(h:Has X.prog X.w X.K X.mg X.base n x ps (spD X.K F))(J:Room n X.A)(ha:DB X fl .P (e::es) fa)(O:Gl X x:=by rfl)(D:(x==("__debug__":Str))=false:=by decide)
 (W:starEach (e::es) X.env=(false,eval e X.env)::starEach es X.env:=by exact nY rfl) (B:(backTo pos (starEach es X.env)).any (·.1)=false:=by exact Nj rfl) :
 DE X fl .C (.Call (.Name x p) (e::es) [] pos) (dCall F fa):=PE.imp (Et h J ha O D W B) λσ H Q h=>by
 obtain⟨G,ow,δ,d,R,Y,q⟩:=h
 obtain⟨ds,U,V⟩:=bind1 Y
 refine⟨G,ow,δ,ds,R,U,λvs H' s r=>?_⟩
 show spD X.K F (vs++[]) H' Q E0
 rw[cT]
 exact⟨ds,d,⟨R.tb.same s,r⟩,V,λv H2 s2 Z=>q v H2 (s.trans s2) (RA.imp (λa z=>s.free z) (λz=>z) Z)⟩
end
end D3
variable{fh:D3.FO}
namespace D3
open PySem PySem.Spec PyProof.Rows L2 My
section
variable{X:Cx}{fl fl':List Fl}{e a b c elt tg iter:Expr}{es ifs:List Expr}{k:Kd}{f fa fb fc:FE}{ft gt:FT}{pos:Pos}{scope:Scope}{ix L TT:List Nat}{fi:FA}{g:FG}
theorem qz:PTs X [] (tDT X.K fl D3.m6):=λpins s σ H Q I h=>by
 obtain⟨G,ow,δ,b,R,Z,q⟩:=h
 cases Z
 exact RD pins s σ H Q I (q H (Same.refl H))
theorem R7{σ:St}(t:Nat)(ix:List Nat)(B:∀i,i<t+ix.length->fl'[i]? = some .A)(R:Rel K fl G ow σ H δ)(s:Same H H1):
 Rel K fl' ⟨H,H,λ_=>none,λ_=>[],R.tb⟩ ow0 (zX t ix σ) H1 (nF t ix δ):=by
 have get:∀i d,(nF t ix δ)[i]? = some (some (.d d))->i<t+ix.length/\∃j,ix[i-t]? = some j/\t<=i/\δ[j]? = some (some (.d d)):=λi d h=>by
  unfold nF at h
  by_cases hi:i<t
  ·rw[bW (by rw[bC];exact hi),fD,if_pos hi]at h
   cases h
  ·rw[bT (by rw[bC];omega),bC,bf]at h
   cases e:ix[i-t]? with
   |none=>rw[e]at h;cases h
   |some j=>
    rw[e]at h
    have Q:i-t<ix.length:=by
     rcases gj (i-t) ix.length with z|z
     ·exact z
     ·rw[bH z]at e;cases e
    refine⟨by omega,j,rfl,by omega,?_⟩
    have h':(δ[j]?).getD none=some (.d d):=by simpa using h
    cases q:δ[j]? with
    |none=>rw[q]at h';cases h'
    |some o=>rw[q]at h';simp at h';rw[h']
 refine⟨Same.refl H,s,?_,λi a h=>(by cases h),λi j a h=>(by cases h),λi h=>rfl,λi d h _ _=>?_,λi d h _ h2 _=>absurd (B i (get i d h).1) h2,λi a h=>(by cases h),λi j a h=>(by cases h),λi j a h=>(by cases h),λi h=>rfl,λi d hn h=>(by rw[B i (get i d h).1]at hn;cases hn)⟩
 ·unfold zX nF
  simp
 ·obtain⟨hi,j,T,S,Y⟩:=get i d h
  have Z:∃v,σ[j]? = some (some v)/\RA K ok1 true H v d:=by
   cases W:isN fl[j]? with
   |true=>
    obtain⟨v,h1,h2,_⟩:=R.nr j d W Y
    exact⟨v,h1,h2.ra λ_ _=>trivial⟩
   |false=>
   cases X:ow j with
   |none=>
    obtain⟨v,h1,h2⟩:=R.dat j d Y W X
    exact⟨v,h1,h2.imp (λ_ _=>trivial) (λz=>z)⟩
   |some a=>
    obtain⟨_,_,xs,ds,h1,h2,U,V⟩:=R.own j a X
    rw[Y]at V
    cases V
    exact⟨_,h1,.lst h2 trivial (U.imp (λ_ _=>trivial) (λz=>z))⟩
  obtain⟨v,h1,h2⟩:=Z
  refine⟨v,?_,(h2.imp (λ_ _=>⟨λi z=>(by cases z),λi z=>(by cases z)⟩) (λz=>z)).same s⟩
  unfold zX
  rw[bT (by rw[bC];omega),bC,bf,T]
  show some ((σ[j]?).getD none)=_
  rw[h1]
  rfl
theorem wL{σ:St}{H:Hp}{Q:VK}{t:Nat}(hfl:∀i,i<t+ix.length->fl'[i]? = some .A)(B:∀j∈TT,j<t)
 (h:tD X.K fl .FC (iB fi g ft f t ix) σ H Q):IV (tDI X.K fl L fi) (tDG X.K fl' TT g) (tDT X.K fl' ft) (tD X.K fl' .C f) t (zX t ix) σ H Q:=by
 obtain⟨G,ow,δ,d,R,hf,q⟩:=h
 obtain⟨l,e1,M⟩:=bind1 hf
 by_cases u:l.length<=100000
 case neg=>rw[if_neg u]at M;cases M
 rw[if_pos u]at M
 obtain⟨r,e3,e4⟩:=bind1 M
 cases e4
 refine⟨G,ow,δ,l,R,e1,λJ H1 s1 wk Dl p=>?_⟩
 have R1:=R.grow s1
 let S:Ok:=λb=>okN H b/\b≠Dl
 refine⟨λi m xs H2=>m=l.length-i/\H2 Dl=some (.lst xs)/\Same H1 H2/\xs.length<=i/\i<=l.length/\∃ds rest,RAs X.K S false H2 xs ds/\lA g ft f (nF t ix δ) (l.drop i)=some rest/\r=ds++rest,
  ⟨_,rfl,cQ,cX p _,aL _,cZ _,[],r,.nil,by simpa using e3,rfl⟩,?_⟩
 rintro i m xs H2 ⟨rfl,W,s2,D,s,ds,rest,w,Y,rfl⟩
 refine⟨W,?_⟩
 obtain⟨w1,w2⟩:=wk H2 (λb o N _ _=>s2 b o N) i
 by_cases U:i<l.length
 ·have O:l.drop i=l[i]::l.drop (i+1):=jT U
  rw[O,lA]at Y
  obtain⟨T,e5,Y⟩:=bind1 Y
  obtain⟨k,e6,Y⟩:=bind1 Y
  obtain⟨go,yl⟩:=w1 l[i] (aF U)
  refine .inr ⟨go,oh (bF D (bF s u)) (by decide),λx H3 hy=>?_⟩
  obtain⟨s3,r3⟩:=yl x H3 hy
  have F:=s2.trans s3
  have Rb:=(R7 t ix hfl R1 (Same.refl H1)).grow F
  refine⟨_,_,_,_,T,Rb,r3.imp (λ_ _=>⟨λi z=>(by cases z),λi z=>(by cases z)⟩) (λz=>z),e5,λa c P=>⟨?_,?_⟩⟩
  ·apply eX
   intro n
   rw[fj,fj]
   exact P (t+n) λz=>absurd (B _ z) (by omega)
  ·refine⟨_,_,T,k,c,e6,λH5 I=>?_⟩
   cases k with
   |false=>
    rw[if_neg aW]at Y ⊢
    have Z:=s3.trans I
    exact⟨l.length-(i+1),by omega,rfl,Z _ _ W,s2.trans Z,by omega,U,ds,rest,w.same Z,Y,rfl⟩
   |true=>
    rw[if_pos rfl]at Y ⊢
    obtain⟨y,e7,Y⟩:=bind1 Y
    obtain⟨l',e8,Y⟩:=bind1 Y
    cases Y
    refine⟨_,_,T,y,c.grow I,e7,λv H6 s6 r6=>?_⟩
    have Z:=s3.trans I
    have V:=Z.trans s6
    refine⟨V _ _ W,l.length-(i+1),by omega,rfl,cQ,?_,by rw[bG,rC];omega,U,ds++[y],l',?_,e8,by simp⟩
    ·intro b o N
     rw[cG (λz=>by subst z;rw[p]at N;cases N)]
     exact(s2.trans V) b o N
    ·have nd:¬S Dl:=λz=>z.2 rfl
     have E:Same H H5:=s1.trans (s2.trans Z)
     have ry:RA X.K S false H6 v y:=RA.imp (λb z=>⟨E.free z,λe=>by subst e;rw[okN,Z _ _ W]at z;cases z⟩) (λz=>z) r6
     exact((w.same V).append (.cons ry .nil)).upd (V _ _ W) nd
 ·have ed:l.drop i=[]:=gY (by omega)
  rw[ed,lA]at Y
  cases Y
  refine .inl ⟨w2 (by omega),?_⟩
  rw[cT]at q
  exact q (.ref Dl) H2 (s1.trans s2) (.inr ⟨Dl,xs,ds,rfl,rfl,s1.free p,W,w⟩)
theorem kh(hc:X.calm=true)(T J:List Str)(ix:List Nat)(hi:DI X fl L tg iter fi)
 (hg:∀cl C s3 O fp,DG (blk X (T++J) scope cl C s3 O fp) fl' TT tg g) (ht:∀cl C s3 O fp,PTs (blk X (T++J) scope cl C s3 O fp) ifs (tDT X.K fl' ft)) (he:∀cl C s3 O fp,DE (blk X (T++J) scope cl C s3 O fp) fl' .C elt f)
 (Z:∀i,i<T.length+ix.length->fl'[i]? = some .A:=by decide) (W:∀j∈TT,j<T.length:=by decide)
 (hB:yu X.N X.env.scope.names scope.names J ix=true:=by rfl) (hk:scope.kind = .function:=by rfl) (D:∀y∈scope.names,y.2 ≠ .cell:=by decide +kernel)
 (B:∀x∈scope.names,x.2 = .local->scope.names.lookup x.1=some .local:=by decide +kernel)
 (Y:∀x∈scope.names,x.2 = .free->x.1∈J:=by decide +kernel) (hs:∀x,foldedSetIterable iter X.env x=pure x:=by intro _;rfl) :
 DE X fl .FC (.ListComp elt [⟨tg,iter,ifs,0⟩] scope pos) (iB fi g ft f T.length ix):=
 PE.imp (RG hc T J ix hi hg ht he hB hk D B Y hs) λ_ _ _ h=>wL Z W h
theorem Nq(hfx:fl[i]? = some .A)(hN:X.N.Nodup)(hi':X.N[i]? = some x)(hx:X.env.scope.names.lookup x=some .local)(hc:X.calm=true)(T J:List Str)(ix:List Nat)(hi:DI X fl L tg iter fi)
 (hg:∀cl C s3 O fp,DG (blk X (T++J) scope cl C s3 O fp) fl' TT tg g) (ht:∀cl C s3 O fp,PTs (blk X (T++J) scope cl C s3 O fp) ifs (tDT X.K fl' ft)) (he:∀cl C s3 O fp,DE (blk X (T++J) scope cl C s3 O fp) fl' .C elt f)
 (hfl:∀i,i<T.length+ix.length->fl'[i]? = some .A:=by decide) (W:∀j∈TT,j<T.length:=by decide)
 (Y:swapsWith (.ListComp elt [⟨tg,iter,ifs,0⟩] scope pos) (some (.Name x pos')) spos.line X.env=pure true:=by rfl)
 (hB:yu X.N X.env.scope.names scope.names J ix=true:=by rfl) (hk:scope.kind = .function:=by rfl) (D:∀y∈scope.names,y.2 ≠ .cell:=by decide +kernel)
 (B:∀x∈scope.names,x.2 = .local->scope.names.lookup x.1=some .local:=by decide +kernel)
 (hfr:∀x∈scope.names,x.2 = .free->x.1∈J:=by decide +kernel) (hs:∀x,foldedSetIterable iter X.env x=pure x:=by intro _;rfl) :
 DS1 X fl (.Assign [.Name x pos'] (.ListComp elt [⟨tg,iter,ifs,0⟩] scope pos) spos) (bQ i (iB fi g ft f T.length ix)):=
 PS.imp (RJ hN hi' hx hc T J ix hi hg ht he Y hB hk D B hfr hs) λDn σ H h=>by
 obtain⟨G,ow,δ,o,R,Z,q⟩:=h
 unfold bQ at Z
 by_cases V:i<δ.length
 ·rw[if_pos V]at Z
  obtain⟨d,S,U⟩:=bind1 Z
  cases U
  exact wL (fl:=fl) hfl W ⟨G,ow,δ,d,R,S,λv H' s r=>q ow _ H' ((R.grow s).pZ hfx (uW R V) ((r.FC_F R).F_A R))⟩
 ·rw[if_neg V]at Z
  cases Z
theorem Fb{p:Addr}(s:Same H H1)(B:H1 p=none)(r:RAs K (okA ow) true H1 vs l):Rs K G.H0 ow H (upd H1 p (.lst vs)) .F (.ref p) (.list l):=
 .inr ⟨p,vs,l,rfl,rfl,s.free B,cQ,(r.track.imp (λb w=>⟨w.1,λe=>w.2 (e▸B)⟩) (λz=>z)).same (cX B _)⟩
theorem uG{H0:Hp}(r:Rs K H0 ow Hb H (.B L) v (.list l)):∃a xs,v = .ref a/\SqL K H a xs/\RAs K (okA ow) true H xs l:=by
 rcases r with r|⟨i,hi,a,xs,ds,X,rfl,e,Z,Y⟩
 ·exact r.lstE
 ·cases e
  exact⟨a,xs,rfl,SqL.of Z,Y⟩
noncomputable def Zd(K:PySem.W.Frag):R2:=λx y H Q=>∃l b xs zs,x = .ref l/\y = .ref b/\SqL K H l xs/\SqL K H b zs/\xs.length+zs.length<=sizeLine/\∀p,H p=none->Q (.ref p) (upd H p (.lst (xs++zs)))
theorem R8:OpR X (binaryOp .Add) (Zd X.K):=by
 intro pins s σ H x y v u Q I N O h
 obtain⟨l,b,xs,zs,rfl,rfl,L,J,E,q⟩:=h
 cases N
 cases O
 obtain⟨its,r,p,_⟩:=I.list L
 obtain⟨its2,T,p2,_⟩:=I.list J
 obtain⟨⟨cls,G,data,sl⟩,S,R,n,hd⟩:=p.isList
 obtain⟨⟨P,U,data2,V⟩,Z,W,M,Y⟩:=p2.isList
 simp only at R hd W Y
 subst R hd W Y
 have C:=r.length
 have D:=T.length
 have e:its.toArray++its2.toArray=(its++its2).toArray:=by simp
 refine concat_meets ⟨_,S,rfl⟩ ⟨_,Z,rfl⟩ noFill_list_add seq_list_add PySem.F.slot_list_add PySem.F.entry_list_add (PySem.F.args_list_add_2 _ _) (list_addW l b its.toArray its2.toArray n M G U sl V (by simp;omega)) ⟨S,Z,?_⟩
 rw[e]
 exact⟨.ref _,_,I.lnew (t':=s.toks) (r.append T) (by rw[bG];omega),rfl,q _ I.fresh⟩
theorem Ck{D:List Nat}(h1:DE X fl (.B L) a fa)(h2:DE X fl (.B D) b fb):DE X fl .F (.BinOp a .Add b pos) (dOp pJ fa fb):=PE.imp (Mp R8 h1 h2) λσ H Q h=>by
 obtain⟨G,ow,δ,d,R,O,q⟩:=h
 obtain⟨x,y,M,N,Z⟩:=Av O
 refine⟨G,ow,δ,x,R,M,λv H1 s1 T=>⟨G,ow,δ,y,R.grow s1,N,λu H2 s2 U=>?_⟩⟩
 unfold pJ at Z
 split at Z
 ·next l m=>
  by_cases z:l.length+m.length<=1000000
  ·rw[if_pos z]at Z
   cases Z
   obtain⟨p,xs,rfl,P,W⟩:=uG T
   obtain⟨p',ys,rfl,S,Y⟩:=uG U
   refine⟨p,p',xs,ys,rfl,rfl,s2.seq P,S,?_,λpn V=>q _ _ ((s1.trans s2).trans (cX V _)) (Fb (G:=G) (s1.trans s2) V ((W.same s2).append Y))⟩
   rw[W.length,Y.length]
   exact bF z (by decide)
  ·rw[if_neg z]at Z
   cases Z
 ·cases Z
theorem RAs.rep{ok:Ok}(r:RAs K ok pl H vs l):∀n:Nat,RAs K ok pl H (aN n vs).flatten (aN n l).flatten
 |0=>.nil
 |n+1=>by
  rw[b_,b_,eU,eU]
  exact r.append (RAs.rep r n)
theorem Cm(h1:DE X fl .F a fa)(h2:DE X fl .P b fb):DE X fl .F (.BinOp a .Mult b pos) (dOp uy fa fb):=PE.imp (Mp Wg h1 h2) λσ H Q h=>by
 obtain⟨G,ow,δ,d,R,S,q⟩:=h
 obtain⟨x,y,L,M,Z⟩:=Av S
 refine⟨G,ow,δ,x,R,L,λv H1 s1 U=>⟨G,ow,δ,y,R.grow s1,M,λu H2 s2 V=>?_⟩⟩
 unfold uy at Z
 split at Z
 ·next l k=>
  by_cases z:l.length*k.toNat<=1000000/\-(2^63)<=k/\k<2^63
  ·rw[if_pos z]at Z
   cases Z
   obtain rfl:=RA.intE V
   rcases U with⟨T,_⟩|⟨p,xs,ds,rfl,N,K,O,W⟩
   ·simp[flat]at T
   ·cases N
    refine⟨p,k,xs,rfl,rfl,s2 _ _ O,z.2.1,z.2.2,?_,λpn Y=>q _ _ ((s1.trans s2).trans (cX Y _)) (Fb (G:=G) (s1.trans s2) Y (((W.imp (λb w=>w.1) (λz=>z)).same s2).rep _))⟩
    rw[W.length]
    exact bF z.1 (by decide)
  ·rw[if_neg z]at Z
   cases Z
 ·cases Z
theorem Je(h:DE X fl (.B L) a f)(O:Gl X "list")(hm:X.mg "list"=none)
 (J:starEach [a] X.env=(false,eval a X.env)::starEach [] X.env:=by rfl) (D:(backTo pos (starEach [] X.env)).any (·.1)=false:=by rfl):DE X fl .F (.Call (.Name "list" p) [a] [] pos) (dUn wG f):=
 PE.imp (sO BW O hm boot_list (jA h oE J) (by decide) (by decide) J D) λσ H Q h=>by
 obtain⟨G,ow,δ,d,R,T,q⟩:=h
 obtain⟨x,S,Y⟩:=bind1 T
 refine⟨G,ow,δ,x,R,S,λv H1 s1 W=>?_⟩
 unfold wG at Y
 split at Y
 ·cases Y
  obtain⟨p,xs,rfl,V,U⟩:=uG W
  exact⟨p,xs,rfl,.inl V,λpn Z=>q _ _ (s1.trans (cX Z _)) (Fb (G:=G) s1 Z U)⟩
 ·cases Y
  rcases W with W|⟨i,hi,a,xs,ds,P,rfl,e,V,U⟩
  ·obtain⟨p,xs,rfl,V,U⟩:=W.tupE
   exact⟨p,xs,rfl,.inr V,λpn Z=>q _ _ (s1.trans (cX Z _)) (Fb (G:=G) s1 Z U)⟩
  ·cases e
 ·cases Y
noncomputable def tDO(K:PySem.W.Frag)(fl:List Fl)(f:FO):TO:=λσ H Q=>∃G ow δ o,Rel K fl G ow σ H δ/\f δ=some o/\∀H',Same H H'->Q o H'
theorem PO.imp{o:Option Expr}{t t':TO}(h:PO X o t)(i:∀σ H Q,t' σ H Q->t σ H Q):PO X o t':=λpins s σ H Q I q=>h pins s σ H Q I (i σ H Q q)
theorem Jf:PO X none (tDO X.K fl pK):=PO.imp Ru λσ H Q h=>by
 obtain⟨G,ow,δ,o,R,Z,q⟩:=h
 cases Z
 exact q H (Same.refl H)
theorem oZ(h:DE X fl .P e f):PO X (some e) (tDO X.K fl (fM f)):=PO.imp (Rv h) λσ H Q h=>by
 obtain⟨G,ow,δ,o,R,W,q⟩:=h
 obtain⟨d,V,Z⟩:=bind1 W
 split at Z
 ·cases Z
  refine⟨G,ow,δ,_,R,V,λv H1 s1 Y=>?_⟩
  obtain rfl:=RA.intE Y
  exact⟨_,rfl,q H1 s1⟩
 ·cases Z
theorem Cp(n d:Nat)(o:Option Int):HT.sIx n d o=pSx n d o:=by
 cases o<;>rfl
theorem RAs.cut{ok:Ok}(r:RAs K ok pl H vs l)(lo hi:Option Int):RAs K ok pl H (Er vs lo hi) (cutD l lo hi):=by
 unfold Er cutD
 rw[r.length,Cp,Cp]
 exact(r.drop _).take _
theorem Nr{lo hi:Option Expr}{p2:Pos}{fl1:FO}(h:DE X fl (.B L) a f)(h1:PO X lo (tDO X.K fl fl1))(h2:PO X hi (tDO X.K fl fh)):DE X fl .F (.Subscript a (.Slice lo hi none p2) pos) (dSl f fl1 fh):=PE.imp (Ep Rx h h1 h2) λσ H Q h=>by
 obtain⟨G,ow,δ,d,R,Y,q⟩:=h
 obtain⟨x,J,Y⟩:=bind1 Y
 obtain⟨U,M,Y⟩:=bind1 Y
 obtain⟨V,N,W⟩:=bind1 Y
 refine⟨G,ow,δ,x,R,J,λv H1 s1 S=>⟨G,ow,δ,U,R.grow s1,M,λH2 s2=>⟨G,ow,δ,V,R.grow (s1.trans s2),N,λI s3=>?_⟩⟩⟩
 split at W
 ·cases W
  obtain⟨p,xs,rfl,P,O⟩:=uG S
  have Z:=s2.trans s3
  exact⟨p,xs,rfl,Z.seq P,λpn T=>q _ _ ((s1.trans Z).trans (cX T _)) (Fb (G:=G) (s1.trans Z) T ((O.same Z).cut U V))⟩
 ·cases W
theorem Fd{st:Stmt}:DS1 X fl st (λ_=>none):=PS.imp Mf λDn σ H h=>by
 obtain⟨G,ow,δ,o,R,Z,q⟩:=h
 cases Z
end
end D3
variable{elts:List Expr}{tpos:Pos}
namespace D3
open PySem PySem.Spec PyProof.Rows L2 My
section
variable{X:Cx}{pins:List (Addr×Obj)}{σ:St}{H:Hp}{s:Shared}{h':Heap}
theorem Inv.turnedL(I:Inv X pins σ H s)(k:∀b o,b∉ch->s.heap.get? b=some o->h'.get? b=some o)(B:∀b∈ch,vK X pins H b):Inv X pins σ H {s with heap:=h',toks:=t'}:=by
 have Y:∀b u,H b=some u->b∉ch:=λb u e z=>by rw[(B b z).1]at e;cases e
 refine I.step (g':=s.gens) (d':=s.drawn) (ch:=ch) (λb V=>?_) (λb o _ _ Z e _=>k b o Z e) (λb o _ _ Z e _=>⟨o.slots,k b o Z e⟩) (λ_ _ _ _ n=>n)
  (λb o Z e=>⟨o,k b o Z e⟩) (λ_ _ e=>e) (λ_ _ _ e=>e) (λ_ _ _ e=>e) (λm hm=>?_) (λb u e=>?_) I.bare
 ·obtain⟨S,f1,f2,f3,T,U⟩:=B b V
  exact⟨f3,f1,T,U⟩
 ·obtain⟨o,es,ep,W,r⟩:=hm
  exact⟨o,es,ep,k _ o (λz=>(B _ z).2.1 rfl) W,r⟩
 ·refine(I.hok b u e).stay (λc v Z q=>k c v ?_ q) (λ_ q=>q) λ_ _ q=>q
  rcases Z with z|z
  ·rw[z];exact Y b u e
  ·exact Y c _ z
end
noncomputable def Ite(K:PySem.W.Frag)(a:Addr):It:=
 ⟨λi H=>∃xs x,SqL K H a xs/\xs[i]? = some x,λi H x H'=>∃p y,H p=none/\H'=upd H p (.tup [.int i,y])/\x = .ref p/\∀xs,SqL K H a xs->xs[i]? = some y,λi H=>∃xs,SqL K H a xs/\xs.length<=i⟩
theorem Ku{B}(a it:Addr):
 Turn P w K (.Tuple elts B tpos) (Ite K a) [it+1,it] (it+1) (λi h=>∃old,IsEnum h (it+1) it (i:Int) old/\h.IsListIter it a i) where
 mem:=by simp
 obj:=λi h st b Z=>by
  obtain⟨old,W,o,e,c,d⟩:=st
  rcases aU.mp Z with z|z
  ·subst z
   exact⟨_,W,λv z=>by cases z⟩
  ·have z:b=it:=by simpa using z
   subst z
   exact⟨o,e,λv z=>by rw[d]at z;cases z⟩
 keep:=λi h h' st k=>by
  obtain⟨old,W,hi⟩:=st
  exact⟨old,k _ (by simp) _ W,hi.at λo e=>k it (by simp) o e⟩
 item:=by
  intro X L hw J D i pins s σ H E I V st N
  subst L hw J
  obtain⟨xs,x,T,Q⟩:=N
  obtain⟨its,R,p,A⟩:=I.list T
  obtain⟨u,t,C⟩:=R.get Q
  obtain⟨old,W,hi⟩:=st
  have fe:=V (it+1) (by simp)
  have fi:=V it (by simp)
  have U:it+1<s.heap.objs.size:=Heap.lt_size W
  refine wpAny_pyNext_enum_item W hi p.isList (x:=u) (by simpa using t) (Nat.succ_ne_self it) λh1 n O r q m=>?_
  refine⟨_,rfl,wpAny_letOwnedTupleGo_enum n λh2 M Y=>?_⟩
  replace Y:Heap.SameBut (it+1) h1 h2:=Y
  have hn:H s.heap.objs.size=none:=I.hok.fresh (aL _)
  have I0:Inv X pins σ (upd H s.heap.objs.size (.tup [.int (i:Int),x])) {s with heap:=s.heap.push {cls:=.type "tuple", data:=.seq #[.int (i:Int) s.toks,u]} }:=
   I.laid (t':=s.toks) (λb o e=>Heap.get?_push_of_some _ e) (aL _) ⟨show 2<=sizeLine by decide,[.int (i:Int) s.toks,u],.cons ⟨_,rfl⟩ (.cons C .nil),⟨_,Heap.get?_push_size _ rfl,rfl,_,rfl⟩⟩
  have ne:∀b,b∈[it+1,it]->b≠s.heap.objs.size:=λb Z=>by
   rcases aU.mp Z with S|S
   ·rw[S];exact bh U
   ·rw[show b=it by simpa using S];exact bh (gH U)
  have f:Inv X pins σ (upd H s.heap.objs.size (.tup [.int (i:Int),x])) {s with heap:=h2,toks:=s.toks+1}:=by
   refine Inv.turnedL (s:={s with heap:=s.heap.push {cls:=.type "tuple", data:=.seq #[.int (i:Int) s.toks,u]} }) (ch:=[it+1,it]) I0 (λb o Z e=>?_) λb Z=>⟨by rw[cG (ne b Z)];exact(V b Z).1,(V b Z).2⟩
   have F:b≠it+1:=λz=>Z (by simp[z])
   have g:b≠it:=λz=>Z (by simp[z])
   rcases Heap.get?_push_cases e with⟨G,j⟩|G
   ·subst G j
    exact(Y.2 _ F).trans r
   ·exact(Y.2 _ F).trans (m b o F g G)
  refine⟨.ref s.heap.objs.size,_,f,rfl,⟨_,x,hn,rfl,rfl,λys y=>by rw[I.list_inj y T];exact Q⟩,⟨_,M,O.at λo e=>(Y.2 _ (bh (fJ it))).trans e⟩,λb Z=>?_⟩
  rw[cG (ne b Z)]
  exact(V b Z).1
 done:=by
  intro X L hw J D i pins s σ H E I V st N
  subst L hw J
  obtain⟨xs,T,Q⟩:=N
  obtain⟨its,R,p,A⟩:=I.list T
  obtain⟨old,W,hi⟩:=st
  have hl:=R.length
  refine wpAny_pyNext_enum_end (I.ok.hd D) W hi p.isList (by simp;omega) λh' l=>⟨rfl,Inv.turnedL (t':=s.toks) (ch:=[it+1,it]) I (λb o Z e=>l b o (λz=>Z (by simp[z])) e) V⟩
 self:=λ_ _ _ _ _ st h=>by
  obtain⟨old,W,_⟩:=st
  exact wpAny_pyIter_enum W h
section
variable{X:Cx}{fl:List Fl}{a:Expr}{f:FE}{pos:Pos}
noncomputable def Ze(K:PySem.W.Frag)(tl:TE):TI:=λσ H R=>tl σ H λx H1=>∃a,x = .ref a/\(∃xs,SqL K H1 a xs)/\R (Ite K a) H1
theorem R9{J}(hg:Gl X "enumerate")(hm:X.mg "enumerate"=none)(O:PE X a tl)(D:starEach [a] X.env=(false,eval a X.env)::starEach [] X.env:=by rfl)
 (B:(backTo pos (starEach [] X.env)).any (·.1)=false:=by rfl):PI X (.Tuple elts J tpos) (.Call (.Name "enumerate" p) [a] [] pos) (Ze X.K tl):=by
 intro pins s σ H R I h
 refine wpAny_Call_Name_kw (nD I hg hm boot_enumerate (PyProof.Rows.callWith_type1 (thn ((jA O oE D) pos pins s σ H (λvs H1=>match vs with|[x]=>∃a,x = .ref a/\(∃xs,SqL X.K H1 a xs)/\R (Ite X.K a) H1|_=>False) I h) λus s1 ⟨vs,H1,W,T,q1⟩=>?_) D B))
 cases T with
 |nil=>exact q1.elim
 |cons r U=>
  cases U with
  |cons _ _=>exact q1.elim
  |nil=>
  obtain⟨l,e,⟨xs,Q⟩,q⟩:=q1
  subst e
  cases r
  obtain⟨its,L,pl,G⟩:=W.list Q
  refine call_enumerate_list pl.isList λh' Z V S P=>?_
  have M:Inv X pins σ H1 {s1 with heap:=h'}:=W.kept (t':=s1.toks) P
  refine wpAny_pyIter_enum (s:={s1 with heap:=h'}) Z ?_
  refine⟨s1.heap.objs.size+1,[s1.heap.objs.size+1,s1.heap.objs.size],_,_,H1,rfl,M,Ku l s1.heap.objs.size,⟨_,Z,V⟩,λb N=>?_,q⟩
  have Y:s1.heap.objs.size<=b:=by
   rcases aU.mp N with z|z
   ·rw[z];exact kY _
   ·rw[show b=s1.heap.objs.size by simpa using z];exact aL _
  exact W.fpOk Y (W.hok.fresh Y)
theorem R_{J}(h:DE X fl (.B L) a f)(hg:Gl X "enumerate")(hm:X.mg "enumerate"=none)(he:starEach [a] X.env=(false,eval a X.env)::starEach [] X.env:=by rfl)
 (D:(backTo pos (starEach [] X.env)).any (·.1)=false:=by rfl):DI X fl L (.Tuple elts J tpos) (.Call (.Name "enumerate" p) [a] [] pos) (I_ f):=PI.imp (R9 hg hm h he D) λσ H R' h=>by
 obtain⟨G,ow,δ,l,R,I,q⟩:=h
 obtain⟨d,F,S⟩:=bind1 I
 cases d<;>first|(cases S;done)|skip
 next V=>
 cases S
 refine⟨G,ow,δ,_,R,F,λv H1 s r=>?_⟩
 obtain⟨a,xs,rfl,N,keep⟩:=vU (R.grow s) r
 refine⟨a,rfl,⟨xs,N⟩,q _ _ s λH2 k2 i=>?_⟩
 obtain⟨Y,U⟩:=keep H2 k2
 refine⟨λd hd=>?_,λK=>⟨xs,Y,by rw[U.length];simpa[pL]using K⟩⟩
 have Z:(V[i]?).map (λx=>PyData.tuple [.int (i:Int),x])=some d:=by
  have:=hd
  unfold pL at this
  rw[fH]at this
  exact this
 cases e:V[i]? with
 |none=>rw[e]at Z;cases Z
 |some E=>
  rw[e]at Z
  cases Z
  obtain⟨y,T,P⟩:=U.get e
  refine⟨⟨xs,y,Y,T⟩,λx C W=>?_⟩
  obtain⟨p,Q,M,rfl,rfl,O⟩:=W
  have:some y=some Q:=T.symm.trans (O xs Y)
  cases this
  have g:=cX M (.tup [.int (i:Int),y])
  exact⟨g,.tup cQ (.cons (.int _) (.cons (P.same g) .nil))⟩
end
structure Bl(mg:Str->Option Value):Prop where
 len_:mg "len"=none
 range_:mg "range"=none
 abs_:mg "abs"=none
 isinstance_:mg "isinstance"=none
 int_:mg "int"=none
 bool_:mg "bool"=none
 tuple_:mg "tuple"=none
 list_:mg "list"=none
 str_:mg "str"=none
 max_:mg "max"=none
 min_:mg "min"=none
 sorted_:mg "sorted"=none
 sum_:mg "sum"=none
 reversed_:mg "reversed"=none
 enumerate_:mg "enumerate"=none
 zip_:mg "zip"=none
 set_:mg "set"=none
 any_:mg "any"=none
 all_:mg "all"=none
 dict_:mg "dict"=none
end D3
variable{dc:Value}
namespace D3
open PySem PySem.Spec PyProof.Rows L2 My
structure FunD(K:PySem.W.Frag)(x:Str)(st:Stmt)(f:Addr)(fd:FuncData):Prop where
 ex:∃(oc:Value)(od:Option Addr)(dV kV doc pm:Value)(an:Option Addr)(cdv ct:Value)(osl:Array (Option Value)),
  fd=PySem.W.fnOf x x (oV st) (jk st) (bM st) dV kV doc pm an cdv ct/\K.lookup f=some ⟨oc,od,.func fd,osl⟩/\PySem.W.codeIn K cdv x=true
 kp:PySem.W.keepIn K (.ref f)=true
structure Dg(K:PySem.W.Frag)(mg:Str->Option Value)(x:Str)(st:Stmt)(ps:List Str):Prop where
 ex:∃(f:Addr)(fd:FuncData),FunD K x st f fd/\Binds K fd ps []/\mg x=some (.ref f)
theorem Zf{kV:Value}{sl:Array (Option Value)}{st:Stmt}(X:K.In h)(G:h.Ns mainGlobals mg)
 (B:∀(kV doc pm:Value)(an:Option Addr)(cdv ct:Value)(us:List Value),us.length=ps.length->bindArgs (PySem.W.fnOf x x (oV st) (jk st) (bM st) .none kV doc pm an cdv ct) ⟨us,[]⟩=pure (ps.zip us))
 (a:PySem.W.nsIn K mainGlobals x=some (some (.ref f))) (l:K.lookup f=some ⟨oc,od,.func (PySem.W.fnOf x x (oV st) (jk st) (bM st) .none kV dc pm an cd ct),sl⟩) (c:PySem.W.codeIn K cd x=true) (k:PySem.W.keepIn K (.ref f)=true):Dg K mg x st ps:=
 ⟨_,_,⟨⟨oc,od,.none,kV,dc,pm,an,cd,ct,sl,rfl,l,c⟩,k⟩,.all (B kV dc pm an cd ct),PySem.W.mg_of X G a⟩
structure Dl(K:PySem.W.Frag)(mg:Str->Option Value)(x y:Str)(st:Stmt):Prop where
 ex:∃(f:Addr)(fd:FuncData),FunD K x st f fd/\(∀(s:Shared)(u:Value),BindsTo s fd ⟨[u],[]⟩ [(y,u)])/\mg x=some (.ref f)
theorem Zg{kV:Value}{sl:Array (Option Value)}{y:Str}{st:Stmt}(X:K.In h)(G:h.Ns mainGlobals mg)
 (B:∀(kV doc pm:Value)(an:Option Addr)(cdv ct:Value)(u:Value),bindArgs (PySem.W.fnOf x x (oV st) (jk st) (bM st) .none kV doc pm an cdv ct) ⟨[u],[]⟩=pure [(y,u)])
 (a:PySem.W.nsIn K mainGlobals x=some (some (.ref f))) (l:K.lookup f=some ⟨oc,od,.func (PySem.W.fnOf x x (oV st) (jk st) (bM st) .none kV dc pm an cd ct),sl⟩) (c:PySem.W.codeIn K cd x=true) (k:PySem.W.keepIn K (.ref f)=true):Dl K mg x y st:=
 ⟨_,_,⟨⟨oc,od,.none,kV,dc,pm,an,cd,ct,sl,rfl,l,c⟩,k⟩,λs u=>.of_eq (B kV dc pm an cd ct u),PySem.W.mg_of X G a⟩
section
variable{P:Program}{w:World}{K:PySem.W.Frag}{mg:Str->Option Value}{base:Heap}{x:Str}{ps N:List Str}{st:Stmt}{k n:Nat}{fs:FS}{fl:List Fl}
theorem FunD.ok(F:FunD K x st f fd)(S:FnScope N ps (bM st))(len:∀vs H Q E,sp vs H Q E->vs.length=ps.length)
 (B:∀(cdv:Value)(A:Around)(outer:List Env)(s:Shared)(H:Hp)(vs:List V)(Q:VK)(E:XK),Room k (A.deeper (envOfC x (bM st) s.heap.objs.size f cdv))->sp vs H Q E ->
  ∃t,PSs (En CX0 P w K mg base N x (bM st) f cdv A outer s H E).nox (jk st) t/\t {nx:=λ_ H'=>Q .non H',rt:=Q} (L2.start N vs) H):FnOk P w K mg base CX0 (k+1) f fd ps sp:=by
 obtain⟨oc,od,dV,kV,doc,pm,an,cdv,ct,osl,rfl,lk,Y⟩:=F.ex
 refine U5 lk Y S len λA outer s H vs Q E X Z=>?_
 obtain⟨t,h,q⟩:=B cdv A outer s H vs Q E X Z
 exact⟨t,h.nox,q⟩
theorem Nt(O:FunD K x st f fd)(S:FnScope N ps (bM st))(D:∀i,i<ps.length->fl[i]? = some .A)(J:ps.length<=N.length)
 (B:∀(f:Addr)(cdv:Value)(A:Around)(outer:List Env)(s:Shared)(H:Hp)(E:XK),Room k (A.deeper (envOfC x (bM st) s.heap.objs.size f cdv))->DSs (cx P w K mg base N x st f cdv A outer s H E) fl (jk st) fs) :
 FnOk P w K mg base CX0 (k+1) f fd ps (spD K (fnD ps.length (N.length-ps.length) fs)):=by
 refine O.ok S (λvs H Q E h=>?_) (λcdv A outer s H vs Q E W h=>?_)
 ·obtain⟨ds,d,r,Z,_⟩:=h
  unfold fnD at Z
  by_cases z:ds.length=ps.length
  ·rw[r.2.length];exact z
  ·rw[if_neg z]at Z;cases Z
 ·obtain⟨ds,d,r,Z,q⟩:=h
  refine⟨_,B f cdv A outer s H E W,?_⟩
  unfold fnD at Z
  by_cases z:ds.length=ps.length
  ·rw[if_pos z]at Z
   split at Z
   ·next V e=>
    cases Z
    exact⟨_,_,_,_,mJ ps.length D z J r,e,λv H' s r=>q v H' s r⟩
   ·next Y e=>
    cases Z
    exact⟨_,_,_,_,mJ ps.length D z J r,e,λX σ' H' R'=>q .non H' R'.same0 .non⟩
   ·cases Z
  ·rw[if_neg z]at Z;cases Z
theorem iT(O:Dg K mg x st ps)(S:FnScope N ps (bM st))(D:∀i,i<ps.length->fl[i]? = some .A)(J:ps.length<=N.length)
 (B:∀(f:Addr)(cdv:Value)(A:Around)(outer:List Env)(s:Shared)(H:Hp)(E:XK),Room k (A.deeper (envOfC x (bM st) s.heap.objs.size f cdv))->DSs (cx P w K mg base N x st f cdv A outer s H E) fl (jk st) fs) :
 Has P w K mg base (k+1) x ps (spD K (fnD ps.length (N.length-ps.length) fs)):=by
 obtain⟨f,fd,Z,b,m⟩:=O.ex
 exact⟨f,fd,Nt Z S D J B,b,Z.kp,m⟩
end
noncomputable def Nu(K:PySem.W.Frag):Sp:=λvs H Q _=>∃(a:Addr)(ns:List Int),Tb H/\vs=[.ref a]/\SqL K H a (ns.map V.int)/\ns.length<=63/\∀H',Q (.bl true) H'
theorem qH{ok:Ok}:∀ns:List Int,RAs K ok pl H (ns.map V.int) (ns.map PyData.int)
 |[]=>.nil
 |n::r=>.cons (.int n) (qH r)
theorem Sg{F:List D->Option D}(B:∀ns:List Int,ns.length<=63->F [.list (ns.map .int)]=some (.bool true))(vs:List V)(H:Hp)(Q:VK)(E:XK)(h:Nu K vs H Q E):spD K F vs H Q E:=by
 obtain⟨a,ns,tb,rfl,Y,Z,q⟩:=h
 refine⟨_,_,⟨tb,.cons ?_ .nil⟩,B ns Z,λv H' s r=>?_⟩
 ·rcases Y with(h|⟨o,h⟩)|h
  ·exact .lst h trivial (qH ns)
  ·exact .lsk (.inl ⟨o,h⟩) rfl (qH ns)
  ·exact .lsk (.inr h) rfl (qH ns)
 ·obtain rfl:=r.blE
  exact q H'
end D3
namespace D3
open PySem PySem.Spec PyProof.Rows L2 My
section
variable{prog:Program}{w:World}{A:Around}{E:Value->Shared->Prop}{s:Shared}
end
section
variable{X:Cx}{fl:List Fl}{a:Expr}{f:FE}{pos p p2 pos2:Pos}
end
section
variable{X:Cx}{fl:List Fl}{a b:Expr}{pos p p2 pos2:Pos}{fa:FA}
theorem Jg{f:Nat->V}:∀(us:List Value)(k:Nat),(∀j v,us[j]? = some v->RelV (f (k+j)) v)->Vals ((kZ k us.length).map f) us
 |[],_,_=>.nil
 |u::r,k,h=>by
  rw[bB,List.range'_succ,aQ]
  refine .cons (h 0 u rfl) (Jg r (k+1) λj v Z=>?_)
  have:=h (j+1) v (by simpa using Z)
  rw[show k+1+j=k+(j+1)by omega]
  exact this
theorem Nv{ok:Ok}(lo:Int):∀(n k:Nat),RAs K ok pl H ((kZ k n).map λ(j:Nat)=>V.int (lo+(j:Int))) ((kZ k n).map λ(j:Nat)=>PyData.int (lo+(j:Int)))
 |0,_=>.nil
 |n+1,k=>by
  rw[List.range'_succ,aQ,aQ]
  exact .cons (.int _) (Nv lo n (k+1))
end
end D3
variable{fl:List D3.Fl}
namespace D3
open PySem PySem.Spec PyProof.Rows L2 My
section
variable{X:Cx}
theorem rQ:∀{ns:List Int}{its:List Value},Vals (ns.map V.int) its->IntsAre its ns
 |[],_,.nil=>.nil
 |n::r,_,.cons h t=>by
  obtain⟨k,rfl⟩:=h
  exact .cons _ _ (rQ t)
theorem uY{ok:Ok}:∀{l:List D}{ns:List Int}{ys:List V},dU l=some ns->RAs K ok pl H ys l->ys=ns.map V.int
 |[],_,_,e,.nil=>by cases e;rfl
 |d::r,ns,_,e,.cons h t=>by
  cases d<;>first|(cases e;done)|skip
  obtain rfl:=h.intE
  cases Z:dU r with
  |none=>rw[dU,Z]at e;cases e
  |some m=>
   rw[dU,Z]at e
   cases e
   rw[uY Z t]
   rfl
theorem Kv(B:X.calm=true):lZ X (.builtin "max") (λxs H Q=>∃(p:Addr)(i:Int)(r:List Int),xs=[.ref p]/\SqL X.K H p ((i::r).map V.int)/\Q (.int (mxI i r)) H):=by
 intro pins s σ H xs us Q I r h
 obtain⟨p,i,Y,rfl,O,q⟩:=h
 obtain⟨u,rfl,S⟩:=vals1 r
 cases S
 obtain⟨its,W,pl,F⟩:=I.list O
 have hi:=rQ W
 obtain⟨xs,e⟩:=hi.allInts.items
 have Z:i::Y=xs.toList.map (·.1):=by rw[<-hi.numsOf,<-nums_intItems,<-e]
 have U:0<xs.size:=by
  have T:0<(i::Y).length:=by simp
  rw[Z,au,bD]at T;exact T
 have M:s.heap.IsList p (intItems xs):=e▸pl.isList
 refine max_intList (I.ok.hd B) M U λv h' tk N L=>?_
 obtain⟨t,rfl⟩:=intItems_at N
 obtain⟨h1,h2⟩:=argBest_gt (numAt xs) (xs.size-1)
 have P:numAt xs (argBest (λi j=>decide (numAt xs i>numAt xs j)) (xs.size-1))∈i::Y:=by
  rw[Z,numAt_eq];exact getD_mem (by rw[au,bD];omega)
 have R:∀a∈i::Y,a<=numAt xs (argBest (λi j=>decide (numAt xs i>numAt xs j)) (xs.size-1)):=λa ha=>by
  rw[Z]at ha
  obtain⟨j,J,rfl⟩:=mem_getD ha
  rw[au,bD]at J
  rw[<-numAt_eq];exact h2 j (by omega)
 have sp:=pN Y i
 have G:numAt xs (argBest (λi j=>decide (numAt xs i>numAt xs j)) (xs.size-1))=mxI i Y:=rA (sp.2 _ P) (R _ sp.1)
 rw[G]
 exact⟨.int _,H,I.kept L,⟨_,rfl⟩,q⟩
theorem Wt:BrC K (λxs H Q=>∃(p:Addr)(i:Int)(r:List Int),xs=[.ref p]/\SqL K H p ((i::r).map V.int)/\Q (.int (mxI i r)) H) yD:=by
 intro H xs ds d Q r e q
 unfold yD at e
 split at e
 ·next l=>
  split at e
  ·next i X T=>
   cases e
   cases r with
   |cons Y Z=>
    cases Z
    obtain⟨a,ys,rfl,W,U⟩:=Y.lstE
    obtain rfl:=uY T U
    exact⟨a,i,X,rfl,W,q _ rfl (.int _)⟩
  ·cases e
 ·cases e
theorem vW:∀{l m:List Int},l.Perm m->l.Pairwise (· <= ·)->m.Pairwise (· <= ·)->l=m
 |[],m,p,_,_=>p.nil_eq
 |a::l,m,p,h1,h2=>by
  cases m with
  |nil=>exact absurd p.length_eq (by simp)
  |cons b m=>
   obtain⟨U,V⟩:=bO.mp h1
   obtain⟨W,X⟩:=bO.mp h2
   have e:a=b:=by
    have Y:a∈b::m:=p.mem_iff.mp aG
    have Z:b∈a::l:=p.mem_iff.mpr aG
    rcases aU.mp Y with z|z
    ·exact z
    ·rcases aU.mp Z with y|y
     ·exact y.symm
     ·exact rA (U b y) (W a z)
   subst e
   rw[vW (List.Perm.cons_inv p) V X]
theorem nZ:∀{ns:List Int}{its:List Value},IntsAre its ns->Vals (ns.map V.int) its
 |_,_,.nil=>.nil
 |_,_,.cons n t r=>.cons ⟨t,rfl⟩ (nZ r)
theorem Cr:lZ X (.builtin "sorted") (λxs H Q=>∃(p:Addr)(ns:List Int),xs=[.ref p]/\SqL X.K H p (ns.map V.int)/\ns.length<64/\∀l,H l=none->Q (.ref l) (upd H l (.lst ((zZ ns).map V.int)))):=by
 intro pins s σ H xs us Q I r h
 obtain⟨p,ns,rfl,S,Z,q⟩:=h
 obtain⟨u,rfl,W⟩:=vals1 r
 cases W
 obtain⟨its,Y,pl,L⟩:=I.list S
 have hi:=rQ Y
 refine sorted_ints pl.isList hi (by rw[hi.length];exact Z) λout U N O P=>?_
 obtain rfl:=vW (O.trans (pO ns).symm) P (rN ns)
 obtain⟨e,R⟩:=sortedAll_at s.heap its out
 have hn:H (s.heap.objs.size+1)=none:=I.hok.fresh (kY _)
 have T:(zZ ns).length=ns.length:=(pO ns).length_eq
 have M:=I.laid (h':=sortedAll s.heap its out) (t':=s.toks) (a:=s.heap.objs.size+1) (o:=.lst ((zZ ns).map V.int)) (λb u e=>sortedAll_old e) (kY _)
  ⟨by rw[au,T];exact bF (eF Z) (by decide),out.toList,e,nZ N,by simpa[seqObj]using R⟩
 exact⟨.ref _,_,M,rfl,q _ hn⟩
theorem Kw(ha:DB X fl .P [e] fa)(D:Gl X "sorted")(hm:X.mg "sorted"=none)
 (J:starEach [e] X.env=(false,eval e X.env)::starEach [] X.env:=by rfl) (B:(backTo pos (starEach [] X.env)).any (·.1)=false:=by rfl):DE X fl .FC (.Call (.Name "sorted" p) [e] [] pos) (dCall M5 fa):=
 PE.imp (m5 Cr D hm (show bootBuiltins "sorted"=some (.builtin "sorted")by decide +kernel) ha (by decide) (by decide) J B) λσ H Q h=>by
 obtain⟨G,ow,δ,d,R,O,q⟩:=h
 obtain⟨ds,N,Z⟩:=bind1 O
 refine⟨G,ow,δ,ds,R,N,λvs H' s r'=>?_⟩
 unfold M5 at Z
 split at Z
 ·next l=>
  cases W:dU l with
  |none=>rw[W]at Z;cases Z
  |some ns=>
   rw[W,aM]at Z
   by_cases Y:ns.length<64
   ·rw[if_pos Y]at Z
    cases Z
    cases r' with
    |cons U V=>
     cases V
     obtain⟨a,ys,rfl,T,S⟩:=U.lstE
     obtain rfl:=uY W S
     exact⟨a,ns,rfl,T,Y,λl hn=>q _ _ (s.trans (cX hn _)) (.inr ⟨_,_,_,rfl,rfl,s.free hn,cQ,qH _⟩)⟩
   ·rw[if_neg Y]at Z;cases Z
 ·cases Z
end
end D3
namespace D3
open PySem PySem.Spec PyProof.Rows L2 My
noncomputable def gK(n:Nat)(us ws:List α):List α:=if ws.length=n then us++ws else []
structure HasD(P:Program)(w:World)(K:PySem.W.Frag)(mg:Str->Option Value)(base:Heap)(n:Nat)(x:Str)(ps:List Str)(sp:Sp)(dvs:List V)(ks:List Str):Prop where
 ex:∃(f:Addr)(fd:FuncData)(ds:List Value),FnOk P w K mg base CX0 n f fd ps sp/\Binds K fd ps ds/\Vals dvs ds/\KBinds K fd ps ks (gK ks.length) (gK ks.length)/\PySem.W.keepIn K (.ref f)=true/\mg x=some (.ref f)
structure DgD(K:PySem.W.Frag)(mg:Str->Option Value)(x:Str)(st:Stmt)(ps:List Str)(dvs:List V)(ks:List Str):Prop where
 ex:∃(f:Addr)(fd:FuncData)(ds:List Value),FunD K x st f fd/\Binds K fd ps ds/\Vals dvs ds/\KBinds K fd ps ks (gK ks.length) (gK ks.length)/\mg x=some (.ref f)
section
variable{P:Program}{w:World}{K:PySem.W.Frag}{mg:Str->Option Value}{base:Heap}{x:Str}{ps N ks:List Str}{st:Stmt}{k n:Nat}{fs:FS}{fl:List Fl}{dvs:List V}
end
section
variable{X:Cx}{fl:List Fl}{e ke:Expr}{es:List Expr}{pos p kpos:Pos}{x kn:Str}{ps:List Str}{n:Nat}{F:List D->Option D}{fa:FA}{fk:FE}{i:Int}{dvs:List V}
theorem Wu:BrC K (λxs H Q=>(∃i,xs=[.int i]/\Q (.int i) H)\/∃k,xs=[.bl k]/\Q (.int (if k then 1 else 0)) H) tR:=by
 intro H xs ds d Q r e q
 unfold tR at e
 split at e
 ·cases e
  cases r with
  |cons Y Z=>
   cases Z
   obtain rfl:=Y.intE
   exact .inl ⟨_,rfl,q _ rfl (.int _)⟩
 ·cases e
  cases r with
  |cons Y Z=>
   cases Z
   obtain rfl:=Y.blE
   exact .inr ⟨_,rfl,q _ rfl (.int _)⟩
 ·cases e
theorem Wv{j pos'}{a:Expr}{f:FE}(h:DE X fl .P a f):DT X fl (.Compare a [.Is] [.Constant .none j pos'] pos) (bL (dUn Ez f)):=PT.imp (Vy (Vx h)) λσ H Q h=>by
 obtain⟨G,ow,δ,c,R,Y,q⟩:=h
 obtain⟨d,T,U⟩:=bind1 Y
 obtain⟨x,V,W⟩:=bind1 T
 cases W
 cases U
 refine⟨G,ow,δ,x,R,V,λv H1 s1 Z=>?_⟩
 refine⟨decide (v = .non),rfl,?_⟩
 rw[Wq (RA.same (Same.refl H1) Z)]
 exact q H1 s1
theorem Cu(ha:DB X fl .P [e] fa)(D:Gl X "int")(hm:X.mg "int"=none)
 (J:starEach [e] X.env=(false,eval e X.env)::starEach [] X.env:=by rfl) (B:(backTo pos (starEach [] X.env)).any (·.1)=false:=by rfl):DE X fl .FC (.Call (.Name "int" p) [e] [] pos) (dCall tR fa):=
 PE.imp (sO Kg D hm boot_int ha (by decide) (by decide) J B) λσ H Q h=>by
 obtain⟨G,ow,δ,d,R,W,q⟩:=h
 obtain⟨ds,U,V⟩:=bind1 W
 exact⟨G,ow,δ,ds,R,U,λvs H' s r'=>Wu H' vs ds d Q r' V λv Y Z=>q v H' s (.inl ⟨Y,Z⟩)⟩
end
end D3
variable{z i1 i2 l1 l2:Addr}{k1 k2:Nat}{ys:Array Value}
namespace D3
open PySem PySem.Spec PyProof.Rows L2 My
section
variable{X:Cx}
theorem Fe:∀{bs:List Bool}{its:List Value},Vals (bs.map V.bl) its->its=bs.map Value.bool
 |[],_,.nil=>rfl
 |b::r,_,.cons h t=>by
  cases h
  rw[Fe t]
  rfl
theorem all_range(bs:List Bool):(aR bs.length).all (λi=>bs.getD i false)=bs.all id:=by
 rw[nA,cJ,cJ]
 constructor
 ·intro h b Z
  obtain⟨i,hi,rfl⟩:=fV Z
  have:=h i (aZ.mpr hi)
  rw[aK,aF hi]at this
  exact this
 ·intro h i hi
  have hi:=aZ.mp hi
  rw[aK,aF hi]
  exact h _ (cg hi)
theorem Fg(bs:List Bool):TruthOf prog w A (λi v=>(bs.map Value.bool).toArray[i]? = some v) (λi=>bs.getD i false):=by
 intro i v s Q E X W
 have Z:(bs.map Value.bool)[i]? = some v:=by simpa using X
 rw[bf]at Z
 cases e:bs[i]? with
 |none=>rw[e]at Z;cases Z
 |some b=>
  rw[e]at Z
  cases Z
  have V:bs.getD i false=b:=by rw[aK,e];rfl
  have Y:Q (bs.getD i false) s:=W
  rw[V]at Y
  exact wpAny_truthy_bool Y
theorem Ky(B:X.calm=true):lZ X (.builtin "all") (λxs H Q=>∃(p:Addr)(bs:List Bool),xs=[.ref p]/\SqL X.K H p (bs.map V.bl)/\Q (.bl (bs.all id)) H):=by
 intro pins s σ H xs us Q I r h
 obtain⟨p,bs,rfl,T,q⟩:=h
 obtain⟨u,rfl,U⟩:=vals1 r
 cases U
 obtain⟨its,Z,pl,R⟩:=I.list T
 obtain rfl:=Fe Z
 have W:s.heap.IsList p (bs.map Value.bool).toArray:=pl.isList
 have Y:p<s.heap.objs.size:=by obtain⟨_,e,_⟩:=id W;exact Heap.lt_size e
 refine call_all_walk (wpAny_pyIter_list W ?_)
 refine⟨_,_,_,_,_,_,_,rfl,Walks.list (A:=X.A.in1) (I.ok.hd B) _ p (bh Y) (bs.map Value.bool).toArray,⟨⟨_,Heap.get?_push_size _ rfl,rfl,rfl⟩,W.push _⟩,Fg bs,λh' tk S=>?_⟩
 have e:(bs.map Value.bool).toArray.size=bs.length:=by simp
 rw[e,all_range]
 exact⟨.bl _,H,I.kept (old_kept S),rfl,q⟩
theorem Ay{ok:Ok}:∀{l:List D}{bs:List Bool}{ys:List V},uz l=some bs->RAs K ok pl H ys l->ys=bs.map V.bl
 |[],_,_,e,.nil=>by cases e;rfl
 |d::r,bs,_,e,.cons h t=>by
  cases d<;>first|(cases e;done)|skip
  obtain rfl:=h.blE
  cases Z:uz r with
  |none=>rw[uz,Z]at e;cases e
  |some m=>
   rw[uz,Z]at e
   cases e
   rw[Ay Z t]
   rfl
theorem Zh:BrC K (λxs H Q=>∃(p:Addr)(bs:List Bool),xs=[.ref p]/\SqL K H p (bs.map V.bl)/\Q (.bl (bs.all id)) H) RM:=by
 intro H xs ds d Q r e q
 unfold RM at e
 split at e
 ·next l=>
  cases Z:uz l with
  |none=>rw[Z]at e;cases e
  |some bs=>
   rw[Z]at e
   cases e
   cases r with
   |cons X Y=>
    cases Y
    obtain⟨a,ys,rfl,W,U⟩:=X.lstE
    obtain rfl:=Ay Z U
    exact⟨a,bs,rfl,W,q _ rfl (.bl _)⟩
 ·cases e
end
section
variable{X:Cx}{fl:List Fl}{a:Expr}{f:FE}{pos:Pos}{ta:TE}
end
section
variable{X:Cx}{fl:List Fl}{a b c:Expr}{f fa fb fc:FE}{pos:Pos}
theorem yG{g:D->D->Option D}(ho:OpR X (compareOp op) r)(B:OpR X (compareOp op') r')(hb:BrO X.K r g)(J:BrO X.K r' g')(h1:DE X fl .P a fa)(h2:DE X fl .P b fb)(h3:DE X fl .P c fc)
 (hm:lastMarks [op,op'] [b,c]=false:=by with_unfolding_all rfl):DT X fl (.Compare a [op,op'] [b,c] pos) (bL (ju g g' fa fb fc)):=PT.imp (Ms ho B h1 h2 h3 hm) λσ H Q h=>by
 obtain⟨G,ow,δ,C,R,Z,q⟩:=h
 obtain⟨d,Z,hd⟩:=bind1 Z
 have W:d = .bool C:=by cases d<;>first|(cases hd;rfl)|(cases hd;done)
 subst W
 obtain⟨x,E,Z⟩:=bind1 Z
 obtain⟨y,F,Z⟩:=bind1 Z
 obtain⟨z,I,Z⟩:=bind1 Z
 refine⟨G,ow,δ,x,R,E,λv H1 s1 O=>⟨G,ow,δ,y,R.grow s1,F,λu H2 s2 V=>?_⟩⟩
 refine hb H2 v u x y z _ (RA.same s2 O) V I λA N Y=>?_
 split at Z
 ·obtain rfl:=Y.blE
  obtain⟨w,L,M⟩:=bind1 Z
  refine⟨true,rfl,zW ⟨G,ow,δ,w,R.grow (s1.trans s2),L,λT U s3 S=>?_⟩⟩
  refine J U u T y w _ _ (RA.same s3 V) S M λz N Y=>?_
  obtain rfl:=Y.blE
  exact⟨_,rfl,q U (s1.trans (s2.trans s3))⟩
 ·obtain rfl:=Y.blE
  cases Z
  exact⟨false,rfl,zV ⟨_,rfl,q H2 (s1.trans s2)⟩⟩
 ·cases Z
end
noncomputable def Itz(K:PySem.W.Frag)(a b:Addr):It:=
 ⟨λi H=>∃xs ys x y,SqL K H a xs/\SqL K H b ys/\xs[i]? = some x/\ys[i]? = some y,
  λi H x H'=>∃p u v,H p=none/\H'=upd H p (.tup [u,v])/\x = .ref p/\(∀xs,SqL K H a xs->xs[i]? = some u)/\∀ys,SqL K H b ys->ys[i]? = some v,
  λi H=>∃xs ys,SqL K H a xs/\SqL K H b ys/\(xs.length<=i\/ys.length<=i)⟩
theorem vX{TI TO:Addr}{f0 a b:Value}{x y:Value}{xs:Array Value}(hz:IsZip h z TI TO f0)(D:IsPair h TI x y)(B:IsPair h TO a b)(h1:h.IsListIter i1 l1 k1)(h2:h.IsListIter i2 l2 k2)(O:h.IsList l1 xs)(J:h.IsList l2 ys)(nT:TI≠TO)(ni:i1≠i2):
 ZipApart z TI TO i1 i2 l1 l2:=by
 obtain⟨R,Y,W,M⟩:=h1
 obtain⟨S,Z,X,N⟩:=h2
 obtain⟨p1,U,k1,P⟩:=O
 obtain⟨p2,V,k2,Q⟩:=J
 have ne:∀{u v:Addr}{o o':Obj},h.get? u=some o->h.get? v=some o'->o.cls≠o'.cls->u≠v:=λe T n z=>by
  subst z
  rw[e]at T
  cases T
  exact n rfl
 exact⟨ne D hz (by simp),ne B hz (by simp),ne Y hz (by rw[W];simp),ne Z hz (by rw[X];simp),nT,ne D Y (by rw[W];simp),ne D Z (by rw[X];simp),ne B Y (by rw[W];simp),ne B Z (by rw[X];simp),ni,
  ne U hz (by rw[k1];simp),ne U B (by rw[k1];simp),ne U Y (by rw[k1,W];simp),ne U Z (by rw[k1,X];simp),ne V hz (by rw[k2];simp),ne V B (by rw[k2];simp),ne V Y (by rw[k2,W];simp),ne V Z (by rw[k2,X];simp)⟩
theorem Nx{x1}(a b z TI TO i1 i2:Addr)(nT:TI≠TO)(ni:i1≠i2):
 Turn P w K (.Tuple elts x1 tpos) (Itz K a b) [z,TI,TO,i1,i2] z (λi h=>IsZip h z TI TO .none/\IsPair h TI (.ref i1) (.ref i2)/\(∃u v,IsPair h TO u v)/\h.IsListIter i1 a i/\h.IsListIter i2 b i) where
 mem:=by simp
 obj:=λi h st c Z=>by
  obtain⟨V,Y,⟨u,v,W⟩,⟨o1,e1,c1,d1⟩,⟨o2,U,c2,d2⟩⟩:=st
  simp only[aU,aO,dw,or_false]at Z
  rcases Z with rfl|rfl|rfl|rfl|rfl
  ·exact⟨_,V,λv z=>by cases z⟩
  ·exact⟨_,Y,λv z=>by cases z⟩
  ·exact⟨_,W,λv z=>by cases z⟩
  ·exact⟨o1,e1,λv z=>by rw[d1]at z;cases z⟩
  ·exact⟨o2,U,λv z=>by rw[d2]at z;cases z⟩
 keep:=λi h h' st k=>by
  obtain⟨V,Y,⟨u,v,W⟩,h1,h2⟩:=st
  exact⟨k _ (by simp) _ V,k _ (by simp) _ Y,⟨u,v,k _ (by simp) _ W⟩,h1.at λo e=>k i1 (by simp) o e,h2.at λo e=>k i2 (by simp) o e⟩
 item:=by
  intro X f hw d Z i pins s σ H E I C st g
  subst f hw d
  obtain⟨xs,ys,x,y,S,T,N,hy⟩:=g
  obtain⟨G,Q,L,m⟩:=I.list S
  obtain⟨J,R,M,n⟩:=I.list T
  obtain⟨A,j,r⟩:=Q.get N
  obtain⟨B,l,t⟩:=R.get hy
  obtain⟨V,Y,⟨u,v,W⟩,h1,h2⟩:=st
  have D:=vX V Y W h1 h2 L.isList M.isList nT ni
  have p:∀c∈[z,TI,TO,i1,i2],c<s.heap.objs.size:=λc Z=>by
   simp only[aU,aO,dw,or_false]at Z
   rcases Z with rfl|rfl|rfl|rfl|rfl
   ·exact Heap.lt_size V
   ·exact Heap.lt_size Y
   ·exact Heap.lt_size W
   ·obtain⟨o,e,_⟩:=h1;exact Heap.lt_size e
   ·obtain⟨o,e,_⟩:=h2;exact Heap.lt_size e
  refine wpAny_pyNext_zip_item D V Y W h1 h2 L.isList M.isList (x:=A) (y:=B) (by simpa using j) (by simpa using l) λhh g1 g2 g3 g4 g5 g6 g7=>?_
  refine⟨_,rfl,wpAny_letOwnedTupleGo_zip g1 λF e1 U=>?_⟩
  replace U:Heap.SameBut z hh F:=U
  have hn:H s.heap.objs.size=none:=I.hok.fresh (aL _)
  have I0:Inv X pins σ (upd H s.heap.objs.size (.tup [x,y])) {s with heap:=s.heap.push {cls:=.type "tuple", data:=.seq #[A,B]} }:=
   I.laid (t':=s.toks) (λb o e=>Heap.get?_push_of_some _ e) (aL _) ⟨show 2<=sizeLine by decide,[A,B],.cons r (.cons t .nil),⟨_,Heap.get?_push_size _ rfl,rfl,_,rfl⟩⟩
  have ne:∀c,c∈[z,TI,TO,i1,i2]->c≠s.heap.objs.size:=λc Z=>bh (p c Z)
  have I1:Inv X pins σ (upd H s.heap.objs.size (.tup [x,y])) {s with heap:=F,toks:=s.toks}:=by
   refine Inv.turnedL (s:={s with heap:=s.heap.push {cls:=.type "tuple", data:=.seq #[A,B]} }) (ch:=[z,TI,TO,i1,i2]) I0 (λc o Z e=>?_) λc Z=>⟨by rw[cG (ne c Z)];exact(C c Z).1,(C c Z).2⟩
   have b1:c≠z:=λq=>Z (by simp[q])
   have b2:c≠TO:=λq=>Z (by simp[q])
   have b3:c≠i1:=λq=>Z (by simp[q])
   have b4:c≠i2:=λq=>Z (by simp[q])
   rcases Heap.get?_push_cases e with⟨e3,e4⟩|e3
   ·subst e3 e4
    exact(U.2 _ b1).trans g5
   ·exact(U.2 _ b1).trans (g7 c o b1 b2 b3 b4 e3)
  refine⟨.ref s.heap.objs.size,_,I1,rfl,⟨_,x,y,hn,rfl,rfl,λzs O=>by rw[I.list_inj O S];exact N,λzs O=>by rw[I.list_inj O T];exact hy⟩,⟨e1,(U.2 _ D.TIz).trans (g7 _ _ D.TIz D.TITO D.TIi1 D.TIi2 Y),⟨_,_,(U.2 _ D.TOz).trans g2⟩,g3.at λo e=>(U.2 _ D.i1z).trans e,g4.at λo e=>(U.2 _ D.i2z).trans e⟩,λc Z=>?_⟩
  rw[cG (ne c Z)]
  exact(C c Z).1
 done:=by
  intro X f hw d Z i pins s σ H E I C st g
  subst f hw d
  obtain⟨xs,ys,S,T,N⟩:=g
  obtain⟨G,Q,L,m⟩:=I.list S
  obtain⟨J,R,M,n⟩:=I.list T
  obtain⟨V,Y,⟨u,v,W⟩,h1,h2⟩:=st
  have D:=vX V Y W h1 h2 L.isList M.isList nT ni
  have la:=Q.length
  have lb:=R.length
  refine wpAny_pyNext_zip_end (I.ok.hd Z) D V Y W h1 h2 L.isList M.isList ?_ λh' eb=>⟨rfl,Inv.turnedL (t':=s.toks) (ch:=[z,TI,TO,i1,i2]) I (λc o Z e=>eb c o (λq=>Z (by simp[q])) (λq=>Z (by simp[q])) (λq=>Z (by simp[q])) (λq=>Z (by simp[q])) e) C⟩
  rcases N with N|N
  ·exact .inl (by simp;omega)
  ·exact .inr (by simp;omega)
 self:=λ_ _ _ _ _ st h=>wpAny_pyIter_zip st.1 h
section
variable{X:Cx}{fl:List Fl}{a b:Expr}{f g:FE}{pos:Pos}
noncomputable def ae6(K:PySem.W.Frag)(ta tb:TE):TI:=λσ H R=>ta σ H λx H1=>tb σ H1 λy H2=>∃p q,x = .ref p/\y = .ref q/\(∃xs,SqL K H2 p xs)/\(∃ys,SqL K H2 q ys)/\R (Itz K p q) H2
theorem boot_zip:bootBuiltins "zip"=some (.type "zip"):=by decide +kernel
theorem Wx{x1}{ta tb:TE}(hg:Gl X "zip")(hm:X.mg "zip"=none)(ha:PE X a ta)(B:PE X b tb)(O:starEach [a,b] X.env=(false,eval a X.env)::starEach [b] X.env:=by rfl)(J:starEach [b] X.env=(false,eval b X.env)::starEach [] X.env:=by rfl)
 (D:(backTo pos (starEach [b] X.env)).any (·.1)=false:=by rfl):PI X (.Tuple elts x1 tpos) (.Call (.Name "zip" p) [a,b] [] pos) (ae6 X.K ta tb):=by
 intro pins s σ H R I h
 refine wpAny_Call_Name_kw (nD I hg hm boot_zip (PyProof.Rows.callWith_type1 (thn ((jA ha (jA B oE J) O) pos pins s σ H (λvs H1=>match vs with|[x,y]=>∃p q,x = .ref p/\y = .ref q/\(∃xs,SqL X.K H1 p xs)/\(∃ys,SqL X.K H1 q ys)/\R (Itz X.K p q) H1|_=>False) I h) λus s1 ⟨vs,H1,Y,P,q1⟩=>?_) O D))
 cases P with
 |nil=>exact q1.elim
 |cons r Q=>
  cases Q with
  |nil=>exact q1.elim
  |cons r' W=>
  cases W with
  |cons _ _=>exact q1.elim
  |nil=>
  obtain⟨l,m,e,A,⟨xs,M⟩,⟨ys,V⟩,q⟩:=q1
  subst e A
  cases r
  cases r'
  obtain⟨its,w,pl,v⟩:=Y.list M
  obtain⟨U,S,pl',N⟩:=Y.list V
  refine call_zip_2 pl.isList pl'.isList λh' T C E F G u L=>?_
  have z:Inv X pins σ H1 {s1 with heap:=h'}:=Y.kept (t':=s1.toks) L
  refine wpAny_pyIter_zip (s:={s1 with heap:=h'}) T ?_
  refine⟨s1.heap.objs.size+4,[s1.heap.objs.size+4,s1.heap.objs.size+2,s1.heap.objs.size+3,s1.heap.objs.size,s1.heap.objs.size+1],_,_,H1,rfl,z,Nx l m (s1.heap.objs.size+4) (s1.heap.objs.size+2) (s1.heap.objs.size+3) s1.heap.objs.size (s1.heap.objs.size+1) (bh (fJ _)) (bh (fJ _)),⟨T,C,⟨_,_,E⟩,F,G⟩,λb B=>?_,q⟩
  have Z:s1.heap.objs.size<=b:=by
   simp only[aU,aO,dw,or_false]at B
   rcases B with rfl|rfl|rfl|rfl|rfl<;>omega
  exact Y.fpOk Z (Y.hok.fresh Z)
theorem yH:∀(l m:List D)(i:Nat),(lN l m)[i]? = (l[i]?).bind λx=>(m[i]?).map λy=>PyData.tuple [x,y]
 |[],_,i=>by simp[lN]
 |_::_,[],i=>by cases i<;>simp[lN]
 |x::l,y::m,0=>by simp[lN]
 |x::l,y::m,i+1=>by simp[lN,yH l m i]
theorem rR:∀(l m:List D),(lN l m).length=min l.length m.length
 |[],_=>by simp[lN]
 |_::_,[]=>by simp[lN]
 |x::l,y::m=>by simp[lN,rR l m]
theorem RsB.same(e:Same H H')(h:Rs K G.H0 ow Hb H (.B L) v d):Rs K G.H0 ow Hb H' (.B L) v d:=by
 rcases h with h|⟨i,hi,a,xs,ds,h1,h2,X,Y,Z⟩
 ·exact .inl (RA.same e h)
 ·exact .inr ⟨i,hi,a,xs,ds,h1,h2,X,e _ _ Y,Z.same e⟩
theorem Wy{x1}{L1 L2:List Nat}(ha:DE X fl (.B L1) a f)(hb:DE X fl (.B L2) b g)(hg:Gl X "zip")(hm:X.mg "zip"=none)(hL:L=L1++L2:=by rfl)
 (he:starEach [a,b] X.env=(false,eval a X.env)::starEach [b] X.env:=by rfl) (J:starEach [b] X.env=(false,eval b X.env)::starEach [] X.env:=by rfl)
 (D:(backTo pos (starEach [b] X.env)).any (·.1)=false:=by rfl):DI X fl L (.Tuple elts x1 tpos) (.Call (.Name "zip" p) [a,b] [] pos) (RN f g):=PI.imp (Wx hg hm ha hb he J D) λσ H R' h=>by
 subst hL
 obtain⟨G,ow,δ,l,R,W,q⟩:=h
 obtain⟨d,e1,W⟩:=bind1 W
 obtain⟨E,e2,W⟩:=bind1 W
 obtain⟨P,rfl⟩:∃P,d = .list P:=by cases d<;>first|exact⟨_,rfl⟩|(cases W;done)
 obtain⟨Q,rfl⟩:∃Q,E = .list Q:=by cases E<;>first|exact⟨_,rfl⟩|(cases W;done)
 cases W
 refine⟨G,ow,δ,_,R,e1,λv H1 s1 m=>⟨G,ow,δ,_,R.grow s1,e2,λv' H2 s2 n=>?_⟩⟩
 have S:=RsB.same s2 m
 obtain⟨j,xs,rfl,hx,Y⟩:=vU ((R.grow s1).grow s2) S
 obtain⟨k,ys,rfl,c,Z⟩:=vU ((R.grow s1).grow s2) n
 refine⟨j,k,rfl,rfl,⟨xs,hx⟩,⟨ys,c⟩,q _ _ (s1.trans s2) λt F i=>?_⟩
 obtain⟨I,A⟩:=Y t λb o e z=>F b o e λi w=>bY _ (z i w)
 obtain⟨K,C⟩:=Z t λb o e z=>F b o e λi w=>bJ _ (z i w)
 refine⟨λd hd=>?_,λhl=>⟨xs,ys,I,K,?_⟩⟩
 ·rw[yH]at hd
  cases T:P[i]? with
  |none=>rw[T]at hd;cases hd
  |some x0=>
   cases M:Q[i]? with
   |none=>rw[T,M]at hd;cases hd
   |some y0=>
    rw[T,M]at hd
    cases hd
    obtain⟨x,U,r⟩:=A.get T
    obtain⟨y,V,s⟩:=C.get M
    refine⟨⟨xs,ys,x,y,I,K,U,V⟩,λz H4 O=>?_⟩
    obtain⟨p',u,v,hp,rfl,rfl,hu,hv⟩:=O
    have eu:some x=some u:=U.symm.trans (hu xs I)
    have ev:some y=some v:=V.symm.trans (hv ys K)
    cases eu
    cases ev
    have N:=cX hp (.tup [x,y])
    exact⟨N,.tup cQ (.cons (r.same N) (.cons (s.same N) .nil))⟩
 ·rw[rR]at hl
  rw[A.length,C.length]
  omega
end
end D3
namespace D3
open PySem PySem.Spec PyProof.Rows L2 My
section
variable{X:Cx}{fl:List Fl}{e a b c:Expr}{es rest:List Expr}{k:Kd}{f fa fb fc:FE}{ft gt:FT}{pos:Pos}
theorem Jh:DE X fl .T (.Dict [] [] pos) (dC (.dict [])):=PE.imp MN λσ H Q h=>by
 obtain⟨G,ow,δ,d,R,W,q⟩:=h
 cases W
 intro p Z
 exact q _ _ (cX Z _) ⟨[p],.dic cQ (.inl ⟨rfl,rfl⟩),dJ.mpr ⟨dw,.nil⟩,λx Y=>by rw[aO.mp Y];exact Z⟩
theorem Sh(i:Nat)(hn:isN fl[i]? = true){x:Str}(J:X.N[i]? = some x:=by rfl)(D:Vis X.env.scope x:=by first|exact Or.inl rfl|exact Or.inr (Or.inl rfl)|exact Or.inr (Or.inr rfl))(hd:(x==("__debug__":Str))=false:=by decide)
 (B:(x==("__classdict__":Str))=false:=by decide):DE X fl .P (.Name x pos) (ao i):=by
 refine PE.imp (qe J D hd B) λσ H Q h=>?_
 obtain⟨G,ow,δ,d,R,Z,q⟩:=h
 obtain⟨v,h1,h2,_⟩:=R.nr i d hn (mV Z)
 exact⟨v,h1,q v H (Same.refl H) (h2.ra λ_ _=>trivial)⟩
theorem Ny(i:Nat)(hn:isN fl[i]? = true){x:Str}(J:X.N[i]? = some x:=by rfl)(D:Vis X.env.scope x:=by first|exact Or.inl rfl|exact Or.inr (Or.inl rfl)|exact Or.inr (Or.inr rfl))(hd:(x==("__debug__":Str))=false:=by decide)
 (B:(x==("__classdict__":Str))=false:=by decide):DE X fl .R (.Name x pos) (ao i):=by
 refine PE.imp (qe J D hd B) λσ H Q h=>?_
 obtain⟨G,ow,δ,d,R,Z,q⟩:=h
 obtain⟨v,h1,h2,_⟩:=R.nr i d hn (mV Z)
 exact⟨v,h1,q v H (Same.refl H) (h2.ra λa ha=>(R.nt i a ha).1)⟩
end
section
variable{K:PySem.W.Frag}{fl:List Fl}
noncomputable def owN(ow:Ow)(i:Nat)(as:List Addr):Ow:=⟨ow.s,λj=>if j=i then as else ow.n j⟩
theorem mK:(owN ow i as).n i=as:=if_pos rfl
theorem kO(h:j≠i):(owN ow i as).n j=ow.n j:=if_neg h
theorem Rel.setN{σ:St}(R:Rel K fl G ow σ H δ)(s:Same H H')(B:fl[i]? = some .N)(hi:i<σ.length)(r:Rs K G.H0 ow H H' .T v d):
 ∃J,Rel K fl G J (σ.set i (some v)) H' (δ.set i (some (.d d))):=by
 have R':=R.grow s
 obtain⟨as,h1,h2,Q⟩:=r
 have I:∀a,ow i≠some a:=λa z=>by
  obtain⟨_,L,_⟩:=R.own i a z
  rw[B]at L
  rcases L with⟨z,_⟩|⟨z,_⟩<;>cases z
 have sub:∀b,okA ow b/\H b≠none->okA (owN ow i as) b:=λb z=>⟨z.1.1,λj e=>by
  by_cases Z:j=i
  ·subst Z
   rw[mK]at e
   exact z.2 (Q b e)
  ·rw[kO Z]at e
   exact z.1.2 j e⟩
 have old:∀{v:V}{d:D},RA K (okA ow) true H v d->RA K (okA (owN ow i as)) true H' v d:=λr=>(r.track.imp sub (λz=>z)).same s
 have olds:∀{v:List V}{d:List D},RAs K (okA ow) true H v d->RAs K (okA (owN ow i as)) true H' v d:=λr=>(r.track.imp sub (λz=>z)).same s
 refine⟨owN ow i as,R'.s0,R'.s1,by rw[dh,dh];exact R.len,λj a h=>?_,R.inj,R.pin,λj O S X W=>?_,λj O S X W U=>?_,λj a h=>?_,λj j' a h h'=>?_,λj j' a h=>?_,λj h=>?_,λj O X S=>?_⟩
 ·have Z:j≠i:=λz=>I a (z▸h)
  obtain⟨E,F,xs,ds,S,W,U,P⟩:=R.own j a h
  exact⟨E,F,xs,ds,by rw[bK (Ne.symm Z)];exact S,s _ _ W,olds U,by rw[bK (Ne.symm Z)];exact P⟩
 ·rcases iQ S with⟨rfl,e⟩|⟨Z,e⟩
  ·rw[B]at X;cases X
  ·obtain⟨M,U,P⟩:=R.dat j O e X W
   exact⟨M,by rw[bK (Ne.symm Z)];exact U,old P⟩
 ·rcases iQ S with⟨rfl,e⟩|⟨Z,e⟩
  ·rw[B]at X;cases X
  ·exact R.oo j O e X W U
 ·by_cases Z:j=i
  ·subst Z
   rw[mK]at h
   exact⟨R.same0.free (Q a h),h1.chd a h,.inl ⟨B,R.s1.free (Q a h)⟩⟩
  ·rw[kO Z]at h
   exact R'.nt j a h
 ·by_cases Z:j=i
  ·by_cases Y:j'=i
   ·rw[Z,Y]
   ·subst Z
    rw[mK]at h
    rw[kO Y]at h'
    exact absurd (Q a h) (R.nt j' a h').2.1.ne
  ·rw[kO Z]at h
   by_cases Y:j'=i
   ·subst Y
    rw[mK]at h'
    exact absurd (Q a h') (R.nt j a h).2.1.ne
   ·rw[kO Y]at h'
    exact R.nd j j' a h h'
 ·by_cases Z:j=i
  ·subst Z
   rw[mK]at h
   exact λz=>by
    obtain⟨_,_,_,_,_,W,_⟩:=R.own j' a z
    rw[Q a h]at W
    cases W
  ·rw[kO Z]at h
   exact R.ns j j' a h
 ·have Z:j≠i:=λz=>by subst z;rw[B]at h;cases h
  rw[kO Z]
  exact R.np j h
 ·rcases iQ S with⟨rfl,e⟩|⟨Z,e⟩
  ·cases e
   exact⟨v,by rw[dD hi],by rw[mK];exact h1,by rw[mK];exact h2⟩
  ·obtain⟨M,U,P⟩:=R'.nr j O X e
   exact⟨M,by rw[bK (Ne.symm Z)];exact U,by rw[kO Z];exact P⟩
theorem Rel.mutN{σ:St}{J:HO}[cu:Chg u][cu':Chg J]{d:D}{v:V}{as:List Addr}(R:Rel K fl G ow σ H δ)(B:fl[i]? = some .N)(hi:i<δ.length)(ha:a∈ow.n i)(hx:H a=some u)(hv:σ[i]? = some (some v))
 (hr:RT K (upd H a J) v d as) (hs:∀b∈as,b∈ow.n i) (hd:as.Nodup):∃O,Rel K fl G O σ (upd H a J) (δ.set i (some (.d d))):=by
 have na:¬okA ow a:=λz=>z.2 i ha
 have F:G.HF a=none:=by
  rcases(R.nt i a ha).2.2 with⟨_,z⟩|z
  ·exact z
  ·rw[B]at z;cases z
 have L:∀a,ow i≠some a:=λa z=>by
  obtain⟨_,M,_⟩:=R.own i a z
  rw[B]at M
  rcases M with⟨z,_⟩|⟨z,_⟩<;>cases z
 have sub:∀b,okA ow b->okA (owN ow i as) b:=λb z=>⟨z.1,λj e=>by
  by_cases Z:j=i
  ·subst Z
   rw[mK]at e
   exact z.2 j (hs b e)
  ·rw[kO Z]at e
   exact z.2 j e⟩
 have tr:∀b,Chd (H b)->Chd (upd H a J b):=λb z=>by
  by_cases T:b=a
  ·rw[T,cQ];exact⟨_,rfl,cu'⟩
  ·rw[cG T];exact z
 refine⟨owN ow i as,R.s0,λb o T=>?_,by rw[dh];exact R.len,λj b h=>?_,R.inj,R.pin,λj Q X W U=>?_,λj Q X W U Y=>?_,λj b h=>?_,λj j' b h h'=>?_,λj j' b h=>?_,λj h=>?_,λj Q W X=>?_⟩
 ·rw[cG (λz=>by subst z;rw[F]at T;cases T)]
  exact R.s1 b o T
 ·have Z:j≠i:=λz=>L b (z▸h)
  obtain⟨E,I,zs,ds,X,U,Y,S⟩:=R.own j b h
  have T:b≠a:=λz=>R.ns i j a ha (z▸h)
  exact⟨E,I,zs,ds,X,by rw[cG T];exact U,(Y.upd hx na).imp sub (λz=>z),by rw[bK (Ne.symm Z)];exact S⟩
 ·rcases iQ X with⟨rfl,e⟩|⟨Z,e⟩
  ·rw[B]at W;cases W
  ·obtain⟨P,Y,S⟩:=R.dat j Q e W U
   exact⟨P,Y,(S.upd hx na).imp sub (λz=>z)⟩
 ·rcases iQ X with⟨rfl,e⟩|⟨Z,e⟩
  ·rw[B]at W;cases W
  ·exact R.oo j Q e W U Y
 ·by_cases Z:j=i
  ·subst Z
   rw[mK]at h
   obtain⟨X,U,Y⟩:=R.nt j b (hs b h)
   exact⟨X,tr b U,Y⟩
  ·rw[kO Z]at h
   obtain⟨X,U,Y⟩:=R.nt j b h
   exact⟨X,tr b U,Y⟩
 ·have old:∀j b,b∈(owN ow i as).n j->b∈ow.n j:=λj b h=>by
   by_cases Z:j=i
   ·subst Z;rw[mK]at h;exact hs b h
   ·rw[kO Z]at h;exact h
  exact R.nd j j' b (old j b h) (old j' b h')
 ·by_cases Z:j=i
  ·subst Z;rw[mK]at h;exact R.ns j j' b (hs b h)
  ·rw[kO Z]at h;exact R.ns j j' b h
 ·have Z:j≠i:=λz=>by subst z;rw[B]at h;cases h
  rw[kO Z]
  exact R.np j h
 ·rcases iQ X with⟨rfl,e⟩|⟨Z,e⟩
  ·cases e
   exact⟨v,hv,by rw[mK];exact hr,by rw[mK];exact hd⟩
  ·obtain⟨P,Y,S,C⟩:=R.nr j Q W e
   exact⟨P,Y,by rw[kO Z];exact S.upd hx (λz=>Z (R.nd j i a z ha)),by rw[kO Z];exact C⟩
end
section
variable{K:PySem.W.Frag}{H:Hp}
end
section
variable{X:Cx}{fl:List Fl}{e ke:Expr}{f fk:FE}{pos:Pos}
theorem Ji(D:fl[i]? = some .N)(O:X.N.Nodup)(hi:X.N[i]? = some x)(J:X.env.scope.names.lookup x=some .local\/X.env.scope.names.lookup x=some .cell)(h:DE X fl .T e f)
 (hs:swapsWith e (some (.Name x pos')) pos.line X.env=pure false:=by rfl) (B:X.fn x=true\/X.env.scope.names.lookup x=some .local:=by first|exact .inl rfl|exact .inr rfl) :
 DS1 X fl (.Assign [.Name x pos'] e pos) (bQ i f):=PS.imp (G_ (i:=i) O hi J h hs B) λDn σ H h=>by
 obtain⟨G,ow,δ,o,R,Z,q⟩:=h
 unfold bQ at Z
 by_cases W:i<δ.length
 ·rw[if_pos W]at Z
  obtain⟨d,U,V⟩:=bind1 Z
  cases V
  refine⟨G,ow,δ,d,R,U,λv H' s r=>?_⟩
  obtain⟨Y,R'⟩:=R.setN s D (uW R W) r
  exact q Y _ H' R'
 ·rw[if_neg W]at Z
  cases Z
end
end D3
variable{fe:D3.FE}
namespace D3
open PySem
noncomputable def yI:List D->Option D
 |[.int hi]=>if(-(2^62)<=hi/\hi<2^62)/\(hi-0).toNat<=1000000 then some (.list (gC 0 hi))else none
 |_=>none
theorem Ss{hi:Int}(h:0<=hi)(h':hi<=1000000):yI [.int hi]=some (.list (gC 0 hi)):=by
 show(if(-(2^62)<=hi/\hi<2^62)/\(hi-0).toNat<=1000000 then some (PyData.list (gC 0 hi))else none)=_
 rw[if_pos ⟨⟨by omega,by omega⟩,by omega⟩]
noncomputable def U9:D->Option (List D)
 | .list l=>some l
 | .tuple l=>some l
 |_=>none
noncomputable def qSq(x:Option D):Option (List D):=x.bind U9
noncomputable def vY(f:FE):FA:=λδ=>(f δ).bind U9
theorem Wz{f:FE}:vY f δ=qSq (f δ):=rfl
theorem WD:qSq (some (.tuple l))=some l:=rfl
noncomputable def o7:D->Option D
 | .list l=>some (.tuple l)
 | .tuple l=>some (.tuple l)
 |_=>none
theorem yJ:o7 (.list l)=some (.tuple l):=rfl
noncomputable def rT:D->D->Option D:=λx y=>match y with
 | .list l=>if(SeqAt.shaped x&&SeqAt.shaped (.list l))=true then some (.bool (!l.any λz=>PyData.eqv z x))else none
 | .tuple l=>if(SeqAt.shaped x&&SeqAt.shaped (.tuple l))=true then some (.bool (!l.any λz=>PyData.eqv z x))else none
 |_=>none
noncomputable def qRL(a:Option D):Option Oc:=match a with
 |some d=>some (.ex "" "" d)
 |none=>none
noncomputable def rW(fe:FE):FS:=λδ=>(fe δ).bind λd=>some (.ex "" "" d)
theorem WK:rW fe δ=qRL (fe δ):=by
 unfold rW qRL
 cases fe δ<;>rfl
theorem Nz:qRL (some d)=some (.ex "" "" d):=rfl
noncomputable def Sv(o:Option Oc):Option D:=match o with
 |some (.rt d)=>some d
 |some (.ex _ _ d)=>some d
 |some (.nx _)=>some .none
 |_=>none
noncomputable def fnL(p q:Nat)(b:FS):List D->Option D:=λds=>if ds.length=p then Sv (b (ds.map (λd=>some (.d d))++aN q none))else none
theorem U_{p q:Nat}{b:FS}:fnL p q b ds=if ds.length=p then Sv (b (ds.map (λd=>some (.d d))++aN q none))else none:=rfl
theorem NK{c f:Str}:Sv (some (.ex c f d))=some d:=rfl
end D3
namespace D3
open PySem PySem.Spec PyProof.Rows L2 My
section
variable{X:Cx}
end
section
variable{X:Cx}{fl:List Fl}{e ke:Expr}{f fk:FE}{pos:Pos}
theorem RAs.erase{ok:Ok}{v:List V}{d:List D}(n:Nat)(r:RAs K ok pl H v d):RAs K ok pl H (v.eraseIdx n) (d.eraseIdx n):=by
 rw[lX,lX]
 exact(r.take n).append (r.drop (n+1))
end
section
variable{X:Cx}{fl:List Fl}{a:Expr}{pos p p2 pos2:Pos}{fa:FA}
end
end D3
namespace D3
open PySem PySem.Spec PyProof.Rows L2 My
section
variable{X:Cx}{pins:List (Addr×Obj)}{σ:L2.St}{H:Hp}{s:Shared}
end
section
variable{X:Cx}{K:PySem.W.Frag}
end
section
variable{X:Cx}{fl:List Fl}{es:List Expr}{pos:Pos}
end
section
variable{X:Cx}{fl:List Fl}{e:Expr}{f:FE}
theorem Zi{l:Expr}{D B:TI}(h1:PI X tg l D)(h2:PI X tg l B):PI X tg l (λσ H R=>D σ H R\/B σ H R):=λpins s σ H R I h=>by
 rcases h with h|h
 ·exact h1 pins s σ H R I h
 ·exact h2 pins s σ H R I h
theorem NP{σ:St}(R:Rel K fl G ow σ H δ)(r:Rs K G.H0 ow Hb H (.B L) v (.tuple l)):∃a xs,v = .ref a/\SqT K H a xs /\
 ∀H2:Hp,(∀b o,H b=some o->(∀i,ow i=some b->i∈L)->(∀i,b∉ow.n i)->H2 b=some o)->SqT K H2 a xs/\RAs K (λb=>okA ow b/\H b≠none) true H2 xs l:=by
 rcases r with r|⟨i,hi,a,xs,ds,W,rfl,e,Y,X⟩
 ·cases r with
  |tup e q=>
   refine⟨_,_,rfl,e.sq,λH2 Z=>⟨?_,RAs.keep Z R.ownL R.ownC (λb z=>z.1) q.track⟩⟩
   exact .inl (.inl (Z _ _ e (nm R.ownL e (by intro xs z;cases z)) (nm2 R.ownC e Chg.tup)))
 ·cases e
theorem yK(h:DE X fl (.B L) e f):DI X fl L tg e (vY f):=PI.imp (Zi (Iw h) (V0 h)) λσ H R' h=>by
 obtain⟨G,ow,δ,l,R,M,q⟩:=h
 obtain⟨d,O,W⟩:=bind1 M
 cases d with
 |list N=>
  cases W
  refine .inl ⟨G,ow,δ,_,R,O,λv H1 s r=>?_⟩
  obtain⟨a,xs,rfl,Q,keep⟩:=vU (R.grow s) r
  refine⟨a,rfl,⟨xs,Q⟩,q _ _ s λH2 k2 i=>?_⟩
  obtain⟨Z,V⟩:=keep H2 k2
  refine⟨λd hd=>?_,λP=>⟨xs,Z,by rw[V.length];exact P⟩⟩
  obtain⟨y,U,T⟩:=V.get hd
  refine⟨⟨xs,y,Z,U⟩,λx K Y=>?_⟩
  obtain⟨e,S⟩:=Y
  subst e
  have:some y=some x:=U.symm.trans (S xs Z)
  cases this
  exact⟨Same.refl _,T⟩
 |tuple N=>
  cases W
  refine .inr ⟨G,ow,δ,_,R,O,λv H1 s r=>?_⟩
  obtain⟨a,xs,rfl,Q,keep⟩:=NP (R.grow s) r
  refine⟨a,rfl,⟨xs,Q⟩,q _ _ s λH2 k2 i=>?_⟩
  obtain⟨Z,V⟩:=keep H2 k2
  refine⟨λd hd=>?_,λP=>⟨xs,Z,by rw[V.length];exact P⟩⟩
  obtain⟨y,U,T⟩:=V.get hd
  refine⟨⟨xs,y,Z,U⟩,λx K Y=>?_⟩
  obtain⟨e,S⟩:=Y
  subst e
  have:some y=some x:=U.symm.trans (S xs Z)
  cases this
  exact⟨Same.refl _,T⟩
 |none=>cases W
 |bool _=>cases W
 |int _=>cases W
 |str _=>cases W
 |dict _=>cases W
end
section
variable{X:Cx}{fl:List Fl}{a:Expr}{f:FE}{pos p:Pos}
theorem Cv(h:DE X fl (.B L) a f)(O:Gl X "tuple")(hm:X.mg "tuple"=none)
 (J:starEach [a] X.env=(false,eval a X.env)::starEach [] X.env:=by exact nY rfl) (D:(backTo pos (starEach [] X.env)).any (·.1)=false:=by rfl):DE X fl .A (.Call (.Name "tuple" p) [a] [] pos) (dUn o7 f):=
 PE.imp (sO tZ O hm boot_tuple (jA h oE J) (by decide) (by decide) J D) λσ H Q h=>by
 obtain⟨G,ow,δ,d,R,T,q⟩:=h
 obtain⟨x,S,Y⟩:=bind1 T
 refine⟨G,ow,δ,x,R,S,λv H1 s1 W=>?_⟩
 unfold o7 at Y
 split at Y
 ·cases Y
  obtain⟨p,xs,rfl,Z,V⟩:=uG W
  exact⟨p,xs,rfl,.inl ⟨Z,λpn U=>q _ _ (s1.trans (cX U _)) (.tup cQ (V.same (cX U _)))⟩⟩
 ·cases Y
  rcases W with W|⟨i,hi,a,xs,ds,P,rfl,e,Z,V⟩
  ·obtain⟨p,xs,rfl,Z,V⟩:=W.tupE0
   exact⟨p,xs,rfl,.inr ⟨Z.sq,q _ _ s1 (.tup Z V)⟩⟩
  ·cases e
 ·cases Y
theorem Sw(h:DE X fl .C a f)(J:Gl X "tuple")(hm:X.mg "tuple"=none)
 (D:starEach [a] X.env=(false,eval a X.env)::starEach [] X.env:=by exact nY rfl) (B:(backTo pos (starEach [] X.env)).any (·.1)=false:=by rfl):DE X fl .C (.Call (.Name "tuple" p) [a] [] pos) (dUn o7 f):=
 PE.imp (sO tZ J hm boot_tuple (jA h oE D) (by decide) (by decide) D B) λσ H Q h=>by
 obtain⟨G,ow,δ,d,R,T,q⟩:=h
 obtain⟨x,S,Z⟩:=bind1 T
 refine⟨G,ow,δ,x,R,S,λv H1 s1 V=>?_⟩
 unfold o7 at Z
 split at Z
 ·cases Z
  obtain⟨p,xs,rfl,Y,W⟩:=RA.lstE V
  exact⟨p,xs,rfl,.inl ⟨Y,λpn U=>q _ _ (s1.trans (cX U _)) (.tup cQ (W.same (cX U _)))⟩⟩
 ·cases Z
  obtain⟨p,xs,rfl,Y,W⟩:=RA.tupE0 V
  exact⟨p,xs,rfl,.inr ⟨Y.sq,q _ _ s1 (.tup Y W)⟩⟩
 ·cases Z
end
section
variable{X:Cx}{fl:List Fl}{a b:Expr}{fa fb:FE}{pos:Pos}
end
end D3
namespace D3
open PySem PySem.Spec PyProof.Rows L2 My
section
variable{X:Cx}{K:PySem.W.Frag}
noncomputable def Jj(K:PySem.W.Frag):R2:=λx y H Q=>∃Z l,RdV K H x Z/\((RdV K H y (.list l)/\SeqAt.shaped (.list l)=true)\/(RdV K H y (.tuple l)/\SeqAt.shaped (.tuple l)=true))/\SeqAt.shaped Z=true/\Q (.bl (!l.any λz=>PyData.eqv z Z)) H
theorem Jk(B:A.units+64<cLine)(h:PyData.depthAll l+1<=64):A.units+1+min (PyData.depthAll l) d.depth<cLine:=by
 have:=Nat.min_le_left (PyData.depthAll l) d.depth
 omega
theorem wM(h:SeqAt.shaped (.list l)=true):PyData.canLayAll0 l=true/\PyData.depthAll l+1<=64:=by
 unfold SeqAt.shaped at h
 rw[aX]at h
 refine⟨by simpa[PyData.canLay0]using h.1,?_⟩
 have:=of_decide_eq_true h.2
 simpa[PyData.depth]using this
theorem uZ(h:SeqAt.shaped (.tuple l)=true):PyData.canLayAll0 l=true/\PyData.depthAll l+1<=64:=by
 unfold SeqAt.shaped at h
 rw[aX]at h
 refine⟨by simpa[PyData.canLay0]using h.1,?_⟩
 have:=of_decide_eq_true h.2
 simpa[PyData.depth]using this
theorem Kz(B:X.A.units+64<cLine):OpR X (compareOp .NotIn) (Jj X.K):=by
 intro pins s σ H x y v u Q I T U h
 obtain⟨S,l,ha,Y,sa,q⟩:=h
 obtain⟨as,V⟩:=ha.reads I T
 rcases Y with⟨Y,Z⟩|⟨Y,Z⟩
 ·obtain⟨bs,W⟩:=Y.reads I U
  exact SeqAt.notIn_list_reads W V (wM Z).1 (SeqAt.canLay_of_shaped sa) (Jk B (wM Z).2) ⟨.bl _,H,I,rfl,q⟩
 ·obtain⟨bs,W⟩:=Y.reads I U
  exact SeqAt.notIn_tuple_reads W V (uZ Z).1 (SeqAt.canLay_of_shaped sa) (Jk B (uZ Z).2) ⟨.bl _,H,I,rfl,q⟩
theorem Sx:BrO K (Jj K) rT:=by
 intro H x y dx X d Q Y Z e q
 cases X with
 |list l=>
  by_cases z:(SeqAt.shaped dx&&SeqAt.shaped (.list l))=true
  ·have e:(if(SeqAt.shaped dx&&SeqAt.shaped (.list l))=true then some (PyData.bool (!l.any λz=>PyData.eqv z dx))else none)=some d:=e
   rw[if_pos z]at e
   cases e
   rw[aX]at z
   exact⟨dx,l,Y.rd (SeqAt.canLay_of_shaped z.1),.inl ⟨Z.rd (SeqAt.canLay_of_shaped z.2),z.2⟩,z.1,q _ rfl (.bl _)⟩
  ·have e:(if(SeqAt.shaped dx&&SeqAt.shaped (.list l))=true then some (PyData.bool (!l.any λz=>PyData.eqv z dx))else none)=some d:=e
   rw[if_neg z]at e
   cases e
 |tuple l=>
  by_cases z:(SeqAt.shaped dx&&SeqAt.shaped (.tuple l))=true
  ·have e:(if(SeqAt.shaped dx&&SeqAt.shaped (.tuple l))=true then some (PyData.bool (!l.any λz=>PyData.eqv z dx))else none)=some d:=e
   rw[if_pos z]at e
   cases e
   rw[aX]at z
   exact⟨dx,l,Y.rd (SeqAt.canLay_of_shaped z.1),.inr ⟨Z.rd (SeqAt.canLay_of_shaped z.2),z.2⟩,z.1,q _ rfl (.bl _)⟩
  ·have e:(if(SeqAt.shaped dx&&SeqAt.shaped (.tuple l))=true then some (PyData.bool (!l.any λz=>PyData.eqv z dx))else none)=some d:=e
   rw[if_neg z]at e
   cases e
 |_=>cases e
end
noncomputable def Itv(K:PySem.W.Frag)(a:Addr)(n:Nat):It:=
 ⟨λi H=>i<n/\∃xs x,SqL K H a xs/\xs.length=n/\xs[n-1-i]? = some x,λi H x H'=>H'=H/\∀xs,SqL K H a xs->xs[n-1-i]? = some x,λi _=>n<=i⟩
theorem NQ(a it:Addr)(n:Nat):Turn P w K tg (Itv K a n) [it] it (λi h=>i<=n/\h.IsRevIter it a ((n:Int)-1-(i:Int))) where
 mem:=by simp
 obj:=λi h st b Y=>by
  have e:b=it:=by simpa using Y
  subst e
  obtain⟨_,o,e,c,d⟩:=st
  exact⟨o,e,λv z=>by rw[d]at z;cases z⟩
 keep:=λi h h' st k=>⟨st.1,st.2.at λo e=>k it (by simp) o e⟩
 item:=by
  intro X U hw T M i pins s σ H E I V st W
  subst U hw T
  obtain⟨hi,xs,x,N,hn,O⟩:=W
  obtain⟨its,G,p,y⟩:=I.list N
  obtain⟨u,C,F⟩:=G.get O
  obtain⟨Q,f1,f2,f3,R,S⟩:=V it (by simp)
  have Z:=st.2
  rw[show(n:Int)-1-(i:Int)=((n-1-i:Nat):Int)by omega]at Z
  refine wpAny_pyNext_rev_item Z p.isList (x:=u) (by simpa using C) λh' st' J=>?_
  rw[show((n-1-i:Nat):Int)-1=(n:Int)-1-((i+1:Nat):Int)by omega]at st'
  have A:Inv X pins σ H {s with heap:=h'}:=I.turned (t':=s.toks) (λb o Y e=>(J.2 b Y).trans e) Q f1 f3 R S
  obtain⟨o,e,c,d⟩:=id st'
  exact⟨u,rfl,Iv (s:={s with heap:=h'}) e c d (by decide) ⟨x,H,A,F,⟨rfl,λys D=>by rw[I.list_inj D N];exact O⟩,⟨by omega,st'⟩,λb Y=>(V b Y).1⟩⟩
 done:=by
  intro X U hw T M i pins s σ H E I V st W
  subst U hw T
  obtain⟨Q,f1,f2,f3,R,S⟩:=V it (by simp)
  have W:n<=i:=W
  have Z:=st.2
  have L:=st.1
  rw[show(n:Int)-1-(i:Int) = -1 by omega]at Z
  exact wpAny_pyNext_rev_end (I.ok.hd M) Z λh' B=>⟨rfl,I.turned (t':=s.toks) (λb o Y e=>B b o Y e) Q f1 f3 R S⟩
 self:=λ_ _ _ _ _ st h=>wpAny_pyIter_revIter st.2 h
section
variable{X:Cx}{fl:List Fl}{a:Expr}{f:FE}{pos:Pos}
noncomputable def ae7(K:PySem.W.Frag)(ta:TE):TI:=λσ H R=>ta σ H λx H1=>∃p xs,x = .ref p/\SqL K H1 p xs/\R (Itv K p xs.length) H1
theorem WL{ta:TE}(J:Gl X "reversed")(hm:X.mg "reversed"=none)(ha:PE X a ta)(D:starEach [a] X.env=(false,eval a X.env)::starEach [] X.env:=by rfl)
 (B:(backTo pos (starEach [] X.env)).any (·.1)=false:=by rfl):PI X tg (.Call (.Name "reversed" p) [a] [] pos) (ae7 X.K ta):=by
 intro pins s σ H R I h
 refine wpAny_Call_Name_kw (nD I J hm boot_reversed (PyProof.Rows.callWith_type1 (thn ((jA ha oE D) pos pins s σ H (λvs H1=>match vs with|[x]=>∃p xs,x = .ref p/\SqL X.K H1 p xs/\R (Itv X.K p xs.length) H1|_=>False) I h) λus s1 ⟨vs,H1,Y,T,q1⟩=>?_) D B))
 cases T with
 |nil=>exact q1.elim
 |cons r U=>
  cases U with
  |cons _ _=>exact q1.elim
  |nil=>
  obtain⟨l,xs,e,S,q⟩:=q1
  subst e
  cases r
  obtain⟨its,V,pl,O⟩:=Y.list S
  have N:=V.length
  refine call_reversed_list pl.isList ?_
  have P:Inv X pins σ H1 {s1 with heap:=s1.heap.push (revObj l ((its.toArray.size:Int)-1))}:=Y.kept (t':=s1.toks) λb o e=>Heap.get?_push_of_some _ e
  have Z:(s1.heap.push (revObj l ((its.toArray.size:Int)-1))).IsRevIter s1.heap.objs.size l ((its.toArray.size:Int)-1):=⟨_,Heap.get?_push_size _ rfl,rfl,rfl⟩
  refine wpAny_pyIter_revIter (s:={s1 with heap:=s1.heap.push (revObj l ((its.toArray.size:Int)-1))}) Z ?_
  have W:=Z
  rw[show(its.toArray.size:Int)-1=(xs.length:Int)-1-((0:Nat):Int)by rw[aY];omega]at W
  refine⟨s1.heap.objs.size,[s1.heap.objs.size],_,_,H1,rfl,P,NQ l s1.heap.objs.size xs.length,⟨cZ _,by rw[show(xs.length:Int)-1-((0:Nat):Int)=(its.toArray.size:Int)-1 by rw[aY];omega];exact Z⟩,λb Q=>?_,q⟩
  have e:b=s1.heap.objs.size:=by simpa using Q
  subst e
  exact Y.fpOk (aL _) (Y.hok.fresh (aL _))
theorem WM(h:DE X fl (.B L) a f)(J:Gl X "reversed")(hm:X.mg "reversed"=none)(he:starEach [a] X.env=(false,eval a X.env)::starEach [] X.env:=by rfl)
 (D:(backTo pos (starEach [] X.env)).any (·.1)=false:=by rfl):DI X fl L tg (.Call (.Name "reversed" p) [a] [] pos) (RP f):=PI.imp (WL J hm h he D) λσ H R' h=>by
 obtain⟨G,ow,δ,l,R,M,q⟩:=h
 obtain⟨d,K,T⟩:=bind1 M
 obtain⟨Z,rfl⟩:∃Z,d = .list Z:=by cases d<;>first|exact⟨_,rfl⟩|(cases T;done)
 cases T
 refine⟨G,ow,δ,_,R,K,λv H1 s r=>?_⟩
 obtain⟨a,xs,rfl,O,keep⟩:=vU (R.grow s) r
 refine⟨a,xs,rfl,O,q _ _ s λH2 k2 i=>?_⟩
 obtain⟨U,V⟩:=keep H2 k2
 have Q:=V.length
 refine⟨λd hd=>?_,λN=>by rw[tM]at N;show xs.length<=i;omega⟩
 have hi:i<Z.length:=by
  have:=(fX.mp hd).1
  rwa[tM]at this
 rw[List.getElem?_reverse hi]at hd
 obtain⟨y,W,S⟩:=V.get hd
 rw[<-Q]at W
 refine⟨⟨by omega,xs,y,U,rfl,W⟩,λx I Y=>?_⟩
 obtain⟨e,P⟩:=Y
 subst e
 have:some y=some x:=W.symm.trans (P xs U)
 cases this
 exact⟨Same.refl _,S⟩
end
noncomputable def spL(K:PySem.W.Frag)(F:List D->Option D):Sp:=λvs H Q _=>∃ds d,(Tb H/\RAs K ok1 true H vs ds)/\F ds=some d/\∀v H',Same H H'->RA K ok1 true H' v d->Q v H'
section
variable{X:Cx}{fl:List Fl}{e:Expr}{es:List Expr}{f:FE}{pos p:Pos}{x:Str}{n:Nat}{F:List D->Option D}{fa:FA}
theorem Jl(h:DE X fl .P e f):DS1 X fl (.Return (some e) pos) (rW f):=PS.imp (L_ h) λDn σ H h=>by
 obtain⟨G,ow,δ,o,R,Z,q⟩:=h
 obtain⟨d,W,Y⟩:=bind1 Z
 cases Y
 exact⟨G,ow,δ,d,R,W,λv H' s r=>q v H' (R.same0.trans s) r⟩
theorem ae8(B:(fl.all λx=>decide (x = .A))=true)(h:DE X fl .P e f):DE X fl .A e f:=oW h λHb H G ow σ δ v d R r=>by
 have Z:∀(i:Nat)(c:Fl),fl[i]? = some c->c=Fl.A:=λi c e=>by simpa using cJ.mp B c (gA e)
 have ok:∀a,okA ow a:=λa=>by
  constructor
  ·intro i z
   rcases(R.own i a z).2.1 with⟨w,_⟩|⟨w,_⟩
   ·cases Z i _ w
   ·cases Z i _ w
  ·intro i z
   rcases(R.nt i a z).2.2 with⟨w,_⟩|w
   ·cases Z i _ w
   ·cases Z i _ w
 exact RA.imp (λa _=>ok a) (λz=>z) r
theorem NT(h:Has X.prog X.w X.K X.mg X.base n x ps (spL X.K F))(J:Room n X.A)(ha:DB X fl .P (e::es) fa)(O:Gl X x:=by rfl)(D:(x==("__debug__":Str))=false:=by decide)
 (W:starEach (e::es) X.env=(false,eval e X.env)::starEach es X.env:=by exact nY rfl) (B:(backTo pos (starEach es X.env)).any (·.1)=false:=by exact Nj rfl) :
 DE X fl .P (.Call (.Name x p) (e::es) [] pos) (dCall F fa):=PE.imp (Et h J ha O D W B) λσ H Q h=>by
 obtain⟨G,ow,δ,d,R,Y,q⟩:=h
 obtain⟨ds,U,V⟩:=bind1 Y
 refine⟨G,ow,δ,ds,R,U,λvs H' s r=>?_⟩
 show spL X.K F (vs++[]) H' Q E0
 rw[cT]
 exact⟨ds,d,⟨R.tb.same s,r⟩,V,λv H2 s2 Z=>q v H2 (s.trans s2) Z⟩
end
section
variable{P:Program}{w:World}{K:PySem.W.Frag}{mg:Str->Option Value}{base:Heap}{x:Str}{ps N:List Str}{st:Stmt}{k n:Nat}{fs:FS}{fl:List Fl}
theorem Sy(O:FunD K x st f fd)(S:FnScope N ps (bM st))(D:∀i,i<ps.length->fl[i]? = some .A)(J:ps.length<=N.length)
 (B:∀(f:Addr)(cdv:Value)(A:Around)(outer:List Env)(s:Shared)(H:Hp)(E:XK),Room k (A.deeper (envOfC x (bM st) s.heap.objs.size f cdv))->DSs (cx P w K mg base N x st f cdv A outer s H E) fl (jk st) fs) :
 FnOk P w K mg base CX0 (k+1) f fd ps (spL K (fnL ps.length (N.length-ps.length) fs)):=by
 refine O.ok S (λvs H Q E h=>?_) (λcdv A outer s H vs Q E W h=>?_)
 ·obtain⟨ds,d,r,Z,_⟩:=h
  unfold fnL at Z
  by_cases z:ds.length=ps.length
  ·rw[r.2.length];exact z
  ·rw[if_neg z]at Z;cases Z
 ·obtain⟨ds,d,r,Z,q⟩:=h
  refine⟨_,B f cdv A outer s H E W,?_⟩
  unfold fnL Sv at Z
  by_cases z:ds.length=ps.length
  ·rw[if_pos z]at Z
   split at Z
   ·next V e=>
    cases Z
    exact⟨_,_,_,_,mJ ps.length D z J r,e,λv H' s r=>q v H' s (RA.imp (λ_ _=>trivial) (λ_=>rfl) r)⟩
   ·next c' U V e=>
    cases Z
    exact⟨_,_,_,_,mJ ps.length D z J r,e,λv H' s r=>q v H' s r⟩
   ·next Y e=>
    cases Z
    exact⟨_,_,_,_,mJ ps.length D z J r,e,λX σ' H' R'=>q .non H' R'.same0 .non⟩
   ·cases Z
  ·rw[if_neg z]at Z;cases Z
theorem WQ(O:Dg K mg x st ps)(S:FnScope N ps (bM st))(D:∀i,i<ps.length->fl[i]? = some .A)(J:ps.length<=N.length)
 (B:∀(f:Addr)(cdv:Value)(A:Around)(outer:List Env)(s:Shared)(H:Hp)(E:XK),Room k (A.deeper (envOfC x (bM st) s.heap.objs.size f cdv))->DSs (cx P w K mg base N x st f cdv A outer s H E) fl (jk st) fs) :
 Has P w K mg base (k+1) x ps (spL K (fnL ps.length (N.length-ps.length) fs)):=by
 obtain⟨f,fd,Z,b,m⟩:=O.ex
 exact⟨f,fd,Sy Z S D J B,b,Z.kp,m⟩
end
section
variable{P:Program}{w:World}{K:PySem.W.Frag}{mg:Str->Option Value}{base:Heap}{x:Str}{ps:List Str}{st:Stmt}{n:Nat}
end
end D3
namespace D3
open PySem PySem.Spec PyProof.Rows L2 My
section
variable{K:PySem.W.Frag}{fl flA:List Fl}{G:Gh}{ow:Ow}{σ σ':St}{H H1:Hp}{δ:DS}{T:List Nat}
end
section
variable{X:Cx}{fl flA:List Fl}{e:Expr}{es:List Expr}{f:FE}{fa:FA}{pos:Pos}
end
section
variable{X:Cx}{fl:List Fl}{pos:Pos}
end
end D3
namespace XS
open PySem PySem.W PyProof.Rows
noncomputable def d7{α:Type}(lt:Nat->Nat->Bool):KasT α->α
 | .ret a=>a
 | .ask i j k=>d7 lt (k (lt i j))
noncomputable def oG{α:Type}(n:Nat)(R:α->Prop):KasT α->Prop
 | .ret a=>R a
 | .ask i j k=>i<n/\j<n/\∀b,oG n R (k b)
section
variable{α β:Type}{n:Nat}{R:α->Prop}{R':β->Prop}{lt:Nat->Nat->Bool}
theorem n6(f:α->KasT β):∀t:KasT α,d7 lt (t.bind f)=d7 lt (f (d7 lt t))
 | .ret _=>rfl
 | .ask _ _ k=>n6 f (k _)
theorem n8{f:α->KasT β}(B:∀a,R a->oG n R' (f a)):∀t:KasT α,oG n R t->oG n R' (t.bind f)
 | .ret a,h=>B a h
 | .ask _ _ k,h=>⟨h.1,h.2.1,λb=>n8 B (k b) (h.2.2 b)⟩
theorem Fi:∀t:KasT α,oG n R t->R (d7 lt t)
 | .ret _,h=>h
 | .ask _ _ k,h=>Fi (k _) (h.2.2 _)
theorem Cw{B:Nat->Nat->(Bool->Shared->Prop)->Shared->Prop}{G:α->Shared->Prop}(D:∀i j C,i<n->j<n->C (lt i j) s->B i j C s):
 ∀t:KasT α,oG n R t->G (d7 lt t) s->t.kasWp B G s
 | .ret _,_,q=>q
 | .ask _ _ k,h,q=>D _ _ _ h.1 h.2.1 (Cw D (k _) (h.2.2 _) q)
end
noncomputable def good(n:Nat)(p:Array Nat):Prop:=p.Perm (aR n).toArray
section
variable{n:Nat}{p:Array Nat}
theorem good.mem(g:good n p){x:Nat}(h:x∈p.toList):x<n:=by
 have:x∈(aR n):=by
  have:=(d8.mp g).mem_iff.mp h
  simpa using this
 exact aZ.mp this
theorem good.get(g:good n p)(B:0<n)(i:Nat):p.getD i 0<n:=by
 unfold Array.getD
 split
 ·exact g.mem (by simp)
 ·exact B
theorem good.rev(g:good n p)(i j:Nat):good n (kas_rev p i j):=(mirror_perm _ _ _ _).trans g
theorem good.bub(g:good n p)(i j:Nat):good n (bubble p i j):=(bubble_perm _ _ _).trans g
theorem yL(B:0<n)(g:good n p):∀f a,oG n (λ_=>True) (kas_asc p f a)
 |0,a=>trivial
 |f+1,a=>⟨g.get B _,g.get B _,λb=>by
  cases b
  ·exact yL B g f (a+1)
  ·trivial⟩
theorem sW(B:0<n):∀f (p:Array Nat) a q,good n p->oG n (λr=>good n r.1) (kas_desc f p a q)
 |0,p,a,q,g=>g
 |f+1,p,a,q,g=>by
  refine⟨g.get B _,g.get B _,λb=>?_⟩
  cases b
  ·refine⟨g.get B _,g.get B _,λc=>?_⟩
   cases c
   ·exact sW B f p (a+1) (q+1) g
   ·exact g
  ·show oG n _ (if q>0 then _ else _)
   split
   ·exact sW B f _ _ _ (g.rev _ _)
   ·exact sW B f _ _ _ g
theorem yM(B:0<n)(g:good n p)(a m:Nat):oG n (λr=>good n r.2) (kas_tail3 a m p):=by
 unfold kas_tail3
 refine n8 (R:=λ_=>True) (λc _=>?_) _ (yL B (g.rev _ _) _ _)
 show good n (kas_rev p 0 a)
 exact g.rev _ _
theorem Az(B:0<n)(g:good n p)(a m:Nat):oG n (λr=>good n r.2) (kas_descPart a m p):=
 n8 (R:=λr=>good n r.1) (λr h=>by
  split
  ·exact yM B (good.rev h _ _) _ _
  ·exact yM B h _ _) _ (sW B _ _ _ _ g)
theorem Hy(B:0<n)(g:good n p)(m:Nat):oG n (λr=>good n r.2) (kas_count m p):=
 n8 (R:=λ_=>True) (λa _=>by
  split
  ·exact g
  ·split
   ·refine⟨g.get B _,g.get B _,λb=>?_⟩
    cases b
    ·exact Az B (g.rev _ _) _ _
    ·exact g
   ·exact Az B g _ _) _ (yL B g _ _)
theorem uH(B:0<n)(g:good n p)(k:Nat):∀f l r,oG n (λ_=>True) (kas_place p k f l r)
 |0,l,r=>trivial
 |f+1,l,r=>by
  unfold kas_place
  split
  ·trivial
  ·refine⟨g.get B _,g.get B _,λb=>?_⟩
   cases b
   ·exact uH B g k f _ _
   ·exact uH B g k f _ _
theorem Fj(B:0<n):∀f (p:Array Nat) k,good n p->oG n (good n) (kas_bin f p k)
 |0,p,k,g=>g
 |f+1,p,k,g=>n8 (R:=λ_=>True) (λl _=>Fj B f _ _ (g.bub _ _)) _ (uH B g k _ _ _)
theorem vZ(B:0<n):oG n (good n) (kas_sort n):=
 n8 (R:=λr=>good n r.2) (λr h=>by
  split
  ·exact Fj B _ _ _ h
  ·exact h) _ (Hy B (Array.Perm.refl _) n)
end
noncomputable def nJ(n:Nat)(lt:Nat->Nat->Bool):List Nat:=(d7 lt (kas_sort n)).toList
theorem iY(B:0<n)(lt:Nat->Nat->Bool):(nJ n lt).Perm (aR n):=by
 have:good n (d7 lt (kas_sort n)):=Fi _ (vZ B)
 have:=d8.mp this
 simpa[nJ]using this
noncomputable def z9(a b:Int×Int):Bool:=if a.1=b.1 then decide (a.2<b.2)else decide (a.1<b.1)
noncomputable def ltP(B:List (Int×Int))(i j:Nat):Bool:=z9 (B.getD i (0,0)) (B.getD j (0,0))
open D3
noncomputable def Hz:List D->Option (List (Int×Int))
 |[]=>some []
 | .tuple [.int i,.int j]::r=>(Hz r).map ((i,j) :: ·)
 |_=>none
noncomputable def yN:List D->Option D
 |[.list l]=>match dU l with
  |some _=>M5 [.list l]
  |none=>(Hz l).bind λZ=>if l.length<64 then(if l.length=1 then some (.list l)else some (.list ((nJ l.length (ltP Z)).map λi=>l.getD i .none)))else none
 |_=>none
end XS
variable{h':Heap}{C:Bool->Shared->Prop}
namespace XS
open PySem PySem.Spec PySem.W PyProof.Rows L2 My D3
theorem v5(x:gR P w H h a o):∃u,h.get? a=some u:=by
 cases o with
 |lst xs=>obtain⟨_,_,_,_,e⟩:=x;exact⟨_,e⟩
 |tup xs=>obtain⟨_,_,_,u,e,_⟩:=x;exact⟨_,e⟩
 |dK kvs=>obtain⟨_,_,_,_,u,_,_,e,_⟩:=x;exact⟨_,e⟩
 |dT kvs=>obtain⟨_,_,_,_,u,_,_,e,_⟩:=x;exact⟨_,e⟩
 |set S n=>obtain⟨u,_,_,_,e,_⟩:=x;exact⟨_,e⟩
 |ins C dx fs=>obtain⟨_,_,_,e,_⟩:=x;exact⟨_,e⟩
 |own y=>exact x
 |xd fs=>obtain⟨_,⟨u,_,_,e,_⟩,_⟩:=x;exact⟨_,e⟩
 |met f y=>exact⟨_,x⟩
 |rng lo hi=>obtain⟨_,_,_,e⟩:=x;exact⟨_,e⟩
 |frz u v=>exact⟨_,x.1⟩
 |tbl q p=>obtain⟨_,e,_⟩:=x;exact⟨_,e⟩
 |ext φ=>exact x.2.1
section
variable{X:Cx}{pins:List (Addr×Obj)}{σ:L2.St}{H:Hp}{s:Shared}
theorem WR{L:Addr}{B:Str->Option Value}(a:h.Ns L m)(b:h.Ns L B):m=B:=by
 obtain⟨o,es,ep,e,d,_,f⟩:=a
 obtain⟨o',W,V,Z,Y,_,X⟩:=b
 rw[e]at Z;cases Z
 rw[d]at Y;cases Y
 funext x
 rw[<-f,<-X]
theorem Jm{D:Addr}(I:Inv X pins σ H s)(hm:s.heap.Ns X.env.locals m)(B:h'.Ns X.env.locals m)(k:∀b u,b≠X.env.locals->s.heap.get? b=some u->h'.get? b=some u)
 (O:s.heap.get? D=none) (J:gR X.prog X.w (upd H D o) h' D o):Inv X pins σ (upd H D o) {s with heap:=h'}:=by
 have hn:H D=none:=by
  cases e:H D with
  |none=>rfl
  |some u=>
   obtain⟨w,hw⟩:=v5 (I.hok D u e)
   rw[O]at hw;cases hw
 have ne:∀{b u},H b=some u->b≠D:=λe=>jE e hn
 refine I.step (g':=s.gens) (d':=s.drawn) (t':=s.toks) (ch:=[]) (λb V=>by cases V) (λb u Z _ _ e _=>k b u Z e) (λb u Z _ _ e _=>⟨u.slots,k b u Z e⟩) (λb u _ e n=>?_) (λb u _ e=>?_)
  (λb xs e=>by rw[cG (ne e)];exact e) (λb u v e=>by rw[cG (ne e)];exact e) (λb q p e=>by rw[cG (ne e)];exact e) (λU h2=>by rw[<-WR hm h2];exact B) (λb u e=>?_) I.bare
 ·rw[cG (λz=>by rw[z,O]at e;cases e)];exact n
 ·by_cases z:b=X.env.locals
  ·obtain⟨w,_,_,hw,_⟩:=B
   exact⟨w,by rw[z];exact hw⟩
  ·exact⟨u,k b u z e⟩
 ·by_cases z:b=D
  ·subst z
   rw[cQ]at e
   cases e
   exact J
  ·rw[cG z]at e
   refine(I.hok b u e).stay (λc w W q=>k c w (λy=>?_) q) (λc q=>by rw[cG (ne q)];exact q) λc xs q=>by rw[cG (ne q)];exact q
   rcases W with rfl|Y
   ·rw[y,I.free]at e;cases e
   ·rw[y,I.free]at Y;cases Y
end
section
variable{prog:Program}{w:World}{A:Around}{E:Value->Shared->Prop}{s:Shared}
theorem SJ{x y:Addr}{a b c d:Int}{O J D B:Tok}(hx:IsTup s.heap x #[.int a O,.int b J])(hy:IsTup s.heap y #[.int c D,.int d B])(q:C (z9 (a,b) (c,d)) s):
 wpAny (model prog w) A (keyLt' (tuples' true) (.ref x) (.ref y)) C E s:=by
 obtain⟨T,ex,_,nx,dx⟩:=hx
 obtain⟨U,X,_,S,V⟩:=hy
 refine kat_lt ex dx X V ?_
 show KatLex prog w A true (decide (2<2)) C [(Value.int a O,Value.int c D),(Value.int b J,Value.int d B)] 0 s
 refine kat_cons (wpAny_eqBool_int (kat_go (λe=>?_) λe=>?_))
 ·refine kat_yes (kat_cons (wpAny_eqBool_int (kat_go (λZ=>?_) λZ=>?_)))
  ·refine kat_yes (kat_nil ?_)
   have e:=beq_iff_eq.mp e
   have Z:=beq_iff_eq.mp Z
   subst e Z
   simpa[z9]using q
  ·refine kat_no (kat_one _ _ (lt_int ?_))
   have e:=beq_iff_eq.mp e
   subst e
   simpa[z9,PySem.W.BoolBack]using q
 ·refine kat_no ?_
  have e:a≠c:=by
   intro z;subst z;simp at e
  have Y:C (decide (a<c)) s:=by simpa[z9,e]using q
  exact oneLt_int Y
end
end XS
namespace XS
open PySem PySem.Spec PySem.W PyProof.Rows L2 My D3
noncomputable def WT(K:PySem.W.Frag)(H:Hp)(y:V)(q:Int×Int):Prop:=∃a,y = .ref a/\SqT K H a [.int q.1,.int q.2]
noncomputable abbrev Prs(K:PySem.W.Frag)(H:Hp):List V->List (Int×Int)->Prop:=Paired (WT K H)
section
variable{X:Cx}{pins:List (Addr×Obj)}{σ:L2.St}{H:Hp}{s:Shared}
theorem Cy(I:Inv X pins σ H s){y:V}{u:Value}{q:Int×Int}(h:WT X.K H y q)(r:RelV y u):∃a D B,u = .ref a/\IsTup s.heap a #[.int q.1 D,.int q.2 B]:=by
 obtain⟨a,rfl,U⟩:=h
 cases r
 obtain⟨its,Z,p,_⟩:=I.tuple U
 cases Z with
 |cons W Z=>cases Z with
  |cons Y Z=>
   cases Z
   obtain⟨D,rfl⟩:=W
   obtain⟨B,rfl⟩:=Y
   exact⟨a,D,B,rfl,p⟩
theorem u6(I:Inv X pins σ H s){h':Heap}(k:∀a items,IsTup s.heap a items->IsTup h' a items):∀{ys:List V}{us:List Value}{B:List (Int×Int)},Prs X.K H ys B->Vals ys us->∃fs,KatTups h' us fs/\fs.length=us.length/\∀v∈fs,∃i t,v = .int i t
 |_,_,_,.nil,.nil=>⟨[],trivial,rfl,λ_ h=>by cases h⟩
 |_,_,_,.cons p ps,.cons r W=>by
  obtain⟨fs,h1,h2,T⟩:=u6 I k ps W
  obtain⟨a,Y,S,rfl,U⟩:=Cy I p r
  obtain⟨o,e,c,n,d⟩:=k _ _ U
  refine⟨.int _ Y::fs,⟨⟨a,o,_,n,rfl,e,c,d,rfl⟩,h1⟩,by simp[h2],λv Z=>?_⟩
  rcases aU.mp Z with rfl|Z
  ·exact⟨_,_,rfl⟩
  ·exact T v Z
theorem sX{ys:List V}{us:List Value}{B:List (Int×Int)}:Prs X.K H ys B->Vals ys us->∀i,i<ys.length->WT X.K H (ys.getD i .non) (B.getD i (0,0))/\RelV (ys.getD i .non) (us.getD i .none)
 | .nil,.nil,i,h=>by cases h
 | .cons p ps,.cons r Z,0,h=>⟨p,r⟩
 | .cons p ps,.cons r Z,i+1,h=>by
  have:=sX ps Z i (by simpa using h)
  simpa using this
theorem Cz:lZ X (.builtin "sorted") (λxs H Q=>∃(p:Addr)(ys:List V)(B:List (Int×Int)),xs=[.ref p]/\SqL X.K H p ys/\2<=ys.length/\ys.length<64/\Prs X.K H ys B/\∀l,H l=none->Q (.ref l) (upd H l (.lst ((nJ ys.length (ltP B)).map λi=>ys.getD i .non)))):=by
 intro pins s σ H xs us Q I r h
 obtain⟨p,ys,B,rfl,hx,h2,Y,S,q⟩:=h
 obtain⟨u,rfl,rx⟩:=vals1 r
 cases rx
 obtain⟨its,Z,pl,hz⟩:=I.list hx
 obtain⟨m,hm,_⟩:=id I.loc
 have len:its.length=ys.length:=Z.length.symm
 refine kat_sorted (h₀:=Att.lM s.heap) (L:=X.env.locals) (m:=m) (Att.Mw hm) (Ej (g:=Att.lM s.heap) (h:=s.heap) (L:=X.env.locals)) pl.isList (by rw[len];exact h2) (by rw[len];exact Y) λD e1 h' F' G lt=>?_
 have kept:∀{U:Heap}{nw:List (Addr×Obj)},News (Att.lM s.heap) X.env.locals U nw->(∀y∈nU (Att.lM s.heap) s.heap X.env.locals,y∈nw)->∀b o,b≠X.env.locals->s.heap.get? b=some o->U.get? b=some o:=λN hs b o hb e=>(N (b,o) (hs _ (rK hb (Att.qj _ _) e))).1
 have O:∀a items,IsTup s.heap a items->IsTup h' a items:=λa items ⟨o,e,c,n,d⟩=>⟨o,kept G (λy W=>aJ _ W) a o (λz=>by
  obtain⟨o2,es,ep,e2,d2,_⟩:=hm
  rw[z,e2]at e;cases e
  rw[d2]at d;cases d) e,c,n,d⟩
 obtain⟨fs,f1,f2,f3⟩:=u6 I O S Z
 refine kat_kind (T:=.type "int") f1 (by rw[f2,len];omega) (λv M=>?_) rfl ?_
 ·obtain⟨i,t,rfl⟩:=f3 v M
  exact λA Q E s _ q=>wpAny_pure q
 have e64:its.length<64:=by rw[len];exact Y
 refine Cw (n:=its.length) (lt:=ltP B) (R:=good its.length) (λi j C hi J hc=>?_) _ (vZ (by rw[len];omega)) ?_
 ·obtain⟨p1,r1⟩:=sX S Z i (by rw[<-len];exact hi)
  obtain⟨p2,r2⟩:=sX S Z j (by rw[<-len];exact J)
  obtain⟨a1,t1,t2,x1,y1⟩:=Cy I p1 r1
  obtain⟨a2,t3,t4,x2,f⟩:=Cy I p2 r2
  unfold kas_ask
  rw[x1,x2]
  exact SJ (O _ _ y1) (O _ _ f) hc
 ·refine KasFin.intro F' G (.head λy W=>bh (lt y W)) λh2 c F2 k=>?_
  have x:s.heap.get? D=none:=by
   cases e:s.heap.get? D with
   |none=>rfl
   |some o=>
    by_cases z:D=X.env.locals
    ·exact absurd z (G _ (aG ..)).2.1
    ·exact absurd (lt (D,o) (rK z (Att.qj _ _) e)) (eE _)
  have hn:H D=none:=by
   cases e:H D with
   |none=>rfl
   |some u=>
    obtain⟨w,hw⟩:=v5 (I.hok D u e)
    rw[x]at hw;cases hw
  have pm:=iY (n:=ys.length) (by omega) (ltP B)
  have M:∀l:List Nat,(∀i∈l,i<ys.length)->Vals (l.map λi=>ys.getD i .non) (l.map λi=>its.getD i .none):=λl F=>by
   induction l with
   |nil=>exact .nil
   |cons i l ih=>exact .cons (sX S Z i (F i aG)).2 (ih λj J=>F j (aJ _ J))
  have o1:((d7 (ltP B) (kas_sort its.length)).toList)=nJ ys.length (ltP B):=by rw[len];rfl
  have P:gR X.prog X.w (upd H D (.lst ((nJ ys.length (ltP B)).map λi=>ys.getD i .non))) h2 D (.lst ((nJ ys.length (ltP B)).map λi=>ys.getD i .non)):=by
   refine⟨by rw[au,pm.length_eq,bN];exact bF (eF Y) (by decide),_,c,M _ λi hi=>aZ.mp (pm.mem_iff.mp hi),?_⟩
   have:=(k _ (aG ..)).1
   rw[<-o1]
   exact this
  exact⟨.ref D,_,Jm (s:=s) (h':=h2) I hm F2.ns (kept k λy W=>aJ _ W) x P,rfl,q D hn⟩
end
end XS
namespace XS
open PySem PySem.Spec PySem.W PyProof.Rows L2 My D3
section
variable{prog:Program}{w:World}{A:Around}{E:Value->Shared->Prop}{s:Shared}
theorem Fo{v:Value}{P:PySem.Fin->Shared->Prop}(B:s.heap.get? a=some (seqObj "list" #[v] n))
 (h:∀h' c,(∀b u,b≠a->s.heap.get? b=some u->h'.get? b=some u)->h'.get? a=some (seqObj "list" #[v] c)->P (.done (.ret .none)) {s with heap:=h'}) :
 wpAny (model prog w) A (Builtin.«list.sort» ⟨[.ref a],[]⟩) P E s:=by
 obtain⟨Z,V⟩:∃Z,Z=s.heap.update a (Obj.mapSeq λ_=>(#[]:Array Value)):=⟨_,rfl⟩
 obtain⟨U,h1⟩:∃c,Z.get? a=some (seqObj "list" #[] c):=⟨_,by rw[V];exact get?_update_seq B λ_=>#[]⟩
 have k1:∀b u,b≠a->s.heap.get? b=some u->Z.get? b=some u:=λb u z q=>by rw[V];exact(Heap.get?_update_ne _ _ _ _ z).trans q
 rw[list_sort_plain]
 refine wpAny_bind (listItems_at B rfl ?_)
 refine wpAny_bind (listUpdate_at B rfl ?_ (show 1<=sizeLine by decide) (cZ _))
 rw[<-V]
 refine wpAny_bind (seqEpoch_at h1 rfl ?_)
 refine wpAny_bind (wpAny_newTuple ?_ (show 1<=sizeLine by decide))
 refine wpAny_bind (wpAny_newList ?_ (cZ _))
 refine wpAny_holding ?_
 obtain⟨Y,W⟩:∃Y,Y=(Z.push (seqObj "tuple" #[v] 0)).push (seqObj "list" #[] 0):=⟨_,rfl⟩
 show wpAny (model prog w) A _ P E {s with heap:=(Z.push (seqObj "tuple" #[v] 0)).push (seqObj "list" #[] 0)}
 rw[<-W]
 have h2:Y.get? a=some (seqObj "list" #[] U):=by rw[W];exact Heap.get?_push_of_some _ (Heap.get?_push_of_some _ h1)
 have k2:∀b u,b≠a->s.heap.get? b=some u->Y.get? b=some u:=λb u z q=>by rw[W];exact Heap.get?_push_of_some _ (Heap.get?_push_of_some _ (k1 b u z q))
 have two:(#[v]:Array Value).size<2:=fJ 1
 have X:(arrOf (SortSt.mk' general' ((#[v]:Array Value).zip #[v]) #[] 7 none)).map (·.2) = #[v]:=by
  show((#[v]:Array Value).zip #[v]).map (·.2) = #[v]
  simp
 dsimp only
 rw[if_pos two,if_pos two]
 refine wpAny_bind (wpAny_pure ?_)
 refine wpAny_bind (wpAny_pure ?_)
 dsimp only
 rw[X]
 refine wpAny_bind (seqEpoch_at h2 rfl ?_)
 refine wpAny_bind (listUpdate_at h2 rfl ?_ (cZ _) (show 1<=sizeLine+1 by decide))
 show wpAny _ _ (if(U != U)=true then _ else ret Value.none) P E _
 rw[if_neg (by simp)]
 refine wpAny_pure (h _ _ (λb u z q=>(Heap.get?_update_ne _ _ _ _ z).trans (k2 b u z q)) (get?_update_seq h2 _))
end
section
variable{X:Cx}
theorem CG:lZ X (.builtin "sorted") (λxs H Q=>∃(p:Addr)(y:V),xs=[.ref p]/\SqL X.K H p [y]/\∀l,H l=none->Q (.ref l) (upd H l (.lst [y]))):=by
 intro pins s σ H xs us Q I r h
 obtain⟨p,y,rfl,S,q⟩:=h
 obtain⟨u,rfl,U⟩:=vals1 r
 cases U
 obtain⟨its,Y,pl,P⟩:=I.list S
 obtain⟨v,rfl,T⟩:∃v,its=[v]/\RelV y v:=by
  cases Y with
  |cons a b=>cases b;exact⟨_,rfl,a⟩
 refine Calls.call_function_entry kind_sorted plain_sorted entry_sorted (args_sorted1 _) ?_
 unfold Builtin.«sorted»
 refine wpAny_bind (m:=checkCount "sorted" 1 1 _) (wpAny_pure ?_)
 refine wpAny_bind (collect_list (vs:=[v]) pl.isList ?_ (show 1<=sizeLine by decide))
 refine wpAny_bind (wpAny_newList ?_ (show 1<=sizeLine by decide))
 obtain⟨g,W⟩:∃g,g=(s.heap.push (seqObj "list" #[] 0)).update s.heap.objs.size (Obj.mapSeq (·++[v].toArray)):=⟨_,rfl⟩
 show wpAny _ _ _ _ _ {s with heap:=((s.heap.push (seqObj "list" #[] 0)).update s.heap.objs.size (Obj.mapSeq (·++[v].toArray))).push (seqObj "list" [v].toArray 0)}
 rw[<-W]
 have sz:g.objs.size=s.heap.objs.size+1:=by rw[W,Heap.size_update,size_push']
 have old:∀b o,s.heap.get? b=some o->g.get? b=some o:=λb o e=>by
  have lt:=Heap.lt_size e
  rw[W,Heap.get?_update_ne _ _ _ _ (bh lt)]
  exact Heap.get?_push_of_some _ e
 have Z:(g.push (seqObj "list" [v].toArray 0)).get? g.objs.size=some (seqObj "list" #[v] 0):=Heap.get?_push_size _ rfl
 refine wpAny_bind (wpAny_holding (wpAny_call_entry slot_list_sort ⟨_,Z,rfl⟩ entry_list_sort (Fo Z λh' c k e=>⟨_,rfl,?_⟩) (args_list_sort _)))
 refine wpAny_pure ⟨_,rfl,?_⟩
 have hn:H g.objs.size=none:=I.hok.fresh (by rw[sz];exact kY _)
 have R:=I.laid (h':=h') (t':=s.toks) (a:=g.objs.size) (o:=.lst [y]) (λb o q=>k b o (λz=>by
  have lt:b<s.heap.objs.size:=Heap.lt_size q
  have z:b=s.heap.objs.size+1:=z.trans sz
  rw[z]at lt
  exact absurd lt (mD.mpr (kY _))) (Heap.get?_push_of_some _ (old b o q))) (by rw[sz];exact kY _) ⟨show 1<=sizeLine by decide,[v],c,.cons T .nil,e⟩
 exact⟨.ref _,_,R,rfl,q _ hn⟩
end
end XS
namespace XS
open PySem PySem.Spec PySem.W PyProof.Rows L2 My D3
section
variable{K:PySem.W.Frag}{H:Hp}
theorem HB:∀{l:List D}{B:List (Int×Int)}{ys:List V},Hz l=some B->RAs K ok1 true H ys l->Prs K H ys B/\l=B.map λq=>.tuple [.int q.1,.int q.2]
 |[],B,ys,e,r=>by
  cases e;cases r;exact⟨.nil,rfl⟩
 |d::l,B,ys,e,r=>by
  cases r with
  |cons W X=>
   unfold Hz at e
   split at e
   ·next h=>cases h
   ·next i j t h=>
    cases h
    cases Y:Hz l with
    |none=>rw[Y]at e;cases e
    |some q2=>
     rw[Y]at e
     cases e
     obtain⟨p,U⟩:=HB Y X
     obtain⟨a,xs,rfl,hs,Z⟩:=W.tupE
     cases Z with
     |cons h1 Z=>cases Z with
      |cons h2 Z=>
       cases Z
       obtain rfl:=h1.intE
       obtain rfl:=h2.intE
       exact⟨.cons ⟨a,rfl,hs⟩ p,by rw[aQ,<-U]⟩
   ·cases e
theorem Fp(B:List (Int×Int)):flats (B.map λq=>(.tuple [.int q.1,.int q.2]:D))=true:=by
 induction B with
 |nil=>rfl
 |cons q B Z=>simp[flats,flat,Z]
theorem yO:∀{l:List D},flats l=true->∀i,flat (l.getD i .none)=true
 |[],_,i=>by simp[flat]
 |d::l,h,0=>by rw[flats,aX]at h;exact h.1
 |d::l,h,i+1=>by
  rw[flats,aX]at h
  simpa using yO h.2 i
theorem CJ:∀{ys:List V}{l:List D}{ok:Ok}{pl:Bool},RAs K ok pl H ys l->∀i,RA K ok pl H (ys.getD i .non) (l.getD i .none)
 |_,_,_,_,.nil,i=>by simp;exact .non
 |_,_,_,_,.cons a b,0=>a
 |_,_,_,_,.cons a b,i+1=>by simpa using CJ b i
end
theorem NZ(ha:DB X fl .P [e] fa)(D:Gl X "sorted")(hm:X.mg "sorted"=none)
 (he:starEach [e] X.env=(false,eval e X.env)::starEach [] X.env:=by rfl) (B:(backTo pos (starEach [] X.env)).any (·.1)=false:=by rfl):DE X fl .FC (.Call (.Name "sorted" p) [e] [] pos) (dCall yN fa):=by
 have bs:bootBuiltins "sorted"=some (.builtin "sorted"):=by decide +kernel
 intro pins s σ H Q I h
 obtain⟨G,ow,δ,d,R,x,q⟩:=h
 obtain⟨ds,N,W⟩:=bind1 x
 unfold yN at W
 split at W
 ·next l=>
  split at W
  ·next ns C=>exact Kw ha D hm he B pins s σ H Q I ⟨G,ow,δ,d,R,by unfold dCall;rw[N];exact W,q⟩
  ·next C=>
   obtain⟨V,E,Y⟩:=bind1 W
   by_cases T:l.length<64
   ·rw[if_pos T]at Y
    by_cases h1:l.length=1
    ·rw[if_pos h1]at Y
     cases Y
     refine m5 CG D hm bs ha (by decide) (by decide) he B pins s σ H Q I ⟨G,ow,δ,_,R,N,λvs H' sm r'=>?_⟩
     cases r' with
     |cons L M=>
      cases M
      obtain⟨a,ys,rfl,S,Z⟩:=L.lstE
      obtain⟨J,O⟩:=HB E Z
      obtain⟨y,rfl⟩:∃y,ys=[y]:=by
       have:=Z.length
       rw[h1]at this
       exact p8.mp this
      refine⟨a,y,rfl,S,λA hn=>q _ _ (sm.trans (cX hn _)) (.inr ⟨_,_,_,rfl,rfl,sm.free hn,cQ,?_⟩)⟩
      exact RAs.flat (by rw[O];exact Fp V) (Z.same (cX hn _))
    ·rw[if_neg h1]at Y
     cases Y
     refine m5 Cz D hm bs ha (by decide) (by decide) he B pins s σ H Q I ⟨G,ow,δ,_,R,N,λvs H' sm r'=>?_⟩
     cases r' with
     |cons L M=>
      cases M
      obtain⟨a,ys,rfl,S,Z⟩:=L.lstE
      obtain⟨J,O⟩:=HB E Z
      have v:ys.length=l.length:=Z.length
      have h2:2<=ys.length:=by
       rcases gj ys.length 2 with z|z
       ·have:l.length=0:=by omega
        have:=cB.mp this
        subst this
        cases C
       ·exact z
      refine⟨a,ys,V,rfl,S,h2,by omega,J,λA hn=>q _ _ (sm.trans (cX hn _)) (.inr ⟨_,_,_,rfl,rfl,sm.free hn,cQ,?_⟩)⟩
      rw[v]
      have F:flats l=true:=by rw[O];exact Fp V
      have U:=Z.same (cX hn (.lst ((nJ l.length (ltP V)).map λi=>ys.getD i .non)))
      generalize nJ l.length (ltP V)=is at U ⊢
      clear C E S h2 J O N x
      have:∀(is:List Nat)(H2:Hp),RAs X.K ok1 true H2 ys l->RAs X.K (λb=>okN H b/\b≠A) false H2 (is.map λi=>ys.getD i .non) (is.map λi=>l.getD i .none):=λis H2 Z=>by
       induction is with
       |nil=>exact .nil
       |cons i is w=>exact .cons (RA.flat (yO F i) (CJ Z i)) w
      exact this is _ U
   ·rw[if_neg T]at Y;cases Y
 ·cases W
end XS
namespace XS
open PySem PySem.Spec PySem.W PyProof.Rows
section
variable{prog:Program}{w:World}{A:Around}{E:Value->Shared->Prop}{s:Shared}
structure PL(h:Heap)(D I l:Addr)(its:Array Value)(vs:List (L2.Key×Value))(i:Nat):Prop where
 iter:h.IsListIter I l i
 lst:h.IsList l its
 prs:∀(j:Nat)(u:Value),its[j]? = some u->∃(a:Addr)(n:Int)(t:Tok)(v:Value),u=Value.ref a/\IsTup h a #[Value.int n t,v]/\vs[j]? = some (Sum.inl n,v)/\a≠D/\a≠I
 ne:l≠D/\l≠I/\D≠I
end
end XS
namespace XS
open PySem PySem.Spec PySem.W PyProof.Rows
section
variable{prog:Program}{w:World}{A:Around}{E:Value->Shared->Prop}{s:Shared}
end
end XS
namespace XS
open PySem PySem.Spec PySem.W PyProof.Rows L2 My D3
section
variable{X:Cx}{pins:List (Addr×Obj)}{σ:L2.St}{H:Hp}{s:Shared}
end
end XS
namespace XS
open PySem PySem.Spec PySem.W PyProof.Rows L2 My D3
section
variable{X:Cx}{fl:List Fl}{a:Expr}{f:FE}{pos:Pos}{ta:TE}
end
end XS
namespace D3
open PySem
end D3
namespace D3
open PySem
end D3
namespace D3
open PySem
end D3
namespace D3
open PySem
end D3
namespace D3
open PySem
end D3
namespace D3
open PySem
noncomputable def dsT(S:List (List Int)):D:=.dict (S.map λk=>(.tuple (k.map .int),.bool true))
noncomputable def tsD:List (D×D)->Option (List (List Int))
 |[]=>some []
 | (.tuple l,.bool true)::r=>(dU l).bind λk=>(tsD r).map (k :: ·)
 |_=>none
noncomputable def N5:D->Option (List (List Int))
 | .dict kvs=>tsD kvs
 |_=>none
noncomputable def CK:D->Option (List Int)
 | .tuple l=>dU l
 |_=>none
noncomputable def mL(S:List (List Int))(k:List Int):List (List Int):=if k∈S then S else S++[k]
theorem Jo:∀ns:List Int,dU (ns.map PyData.int)=some ns
 |[]=>rfl
 |n::r=>by
  rw[aQ,dU,Jo r]
  rfl
theorem yP:∀S:List (List Int),tsD (S.map λk=>((.tuple (k.map .int),.bool true):D×D))=some S
 |[]=>rfl
 |k::S=>by
  rw[aQ,tsD,yP S,Jo]
  rfl
theorem SM(S:List (List Int)):N5 (dsT S)=some S:=yP S
end D3
namespace D3
open PySem
end D3
namespace D3
open PySem
end D3
namespace D3
open PySem
end D3
namespace D3
open PySem
end D3
namespace D3
open PySem
noncomputable abbrev Tte:=List Int×List Int×Int
noncomputable def wW:List (D×D)->Option (List Tte)
 |[]=>some []
 | (.tuple l,.tuple [.tuple m,.int z])::r=>(dU l).bind λk=>(dU m).bind λv=>(wW r).map ((k,v,z) :: ·)
 |_=>none
noncomputable def KD:D->Option (List Tte)
 | .dict kvs=>wW kvs
 |_=>none
noncomputable def rwD(k:List Int):D:=.tuple (k.map .int)
noncomputable def ttV(q:List Int×Int):D:=.tuple [rwD q.1,.int q.2]
noncomputable def ttP(S:List Tte):List (D×D):=S.map λq=>(rwD q.1,ttV q.2)
noncomputable def dtt(S:List Tte):D:=.dict (ttP S)
noncomputable def pA(S:List Tte)(k:List Int):Option (List Int×Int):=(S.find? λq=>decide (q.1=k)).map (·.2)
noncomputable def kW:D->D->Option D:=λx y=>(KD x).bind λS=>(CK y).bind λk=>(pA S k).map ttV
noncomputable def KH:D->Option (List Int×Int)
 | .tuple [.tuple m,.int z]=>(dU m).map (·,z)
 |_=>none
noncomputable def qJ(S:List Tte)(k:List Int)(v:List Int×Int):List Tte:=if(pA S k).isSome=true then S else S++[(k,v)]
noncomputable def rY(i:Nat)(fk fv:FE):FS:=λδ=>(ao i δ).bind λx=>(fk δ).bind λy=>(fv δ).bind λz=>(KD x).bind λS=>(CK y).bind λk=>(KH z).bind λv=>if S.length<1000000 then some (.nx (δ.set i (some (.d (dtt (qJ S k v))))))else none
theorem o8:∀ns:List Int,dU (ns.map PyData.int)=some ns
 |[]=>rfl
 |n::r=>by
  rw[aQ,dU,o8 r]
  rfl
theorem CN:∀S:List Tte,wW (ttP S)=some S
 |[]=>rfl
 |q::S=>by
  show(dU (q.1.map PyData.int)).bind (λk=>(dU (q.2.1.map PyData.int)).bind λv=>(wW (ttP S)).map ((k,v,q.2.2) :: ·))=_
  rw[o8,aM,o8,aM,CN S]
  rfl
theorem qM:∀{l:List D}{k:List Int},dU l=some k->l=k.map PyData.int
 |[],k,h=>by cases h;rfl
 |d::l,k,h=>by
  cases d with
  |int i=>
   unfold dU at h
   cases e:dU l with
   |none=>rw[e]at h;cases h
   |some r=>
    rw[e]at h
    cases h
    rw[qM e]
    rfl
  |_=>unfold dU at h;cases h
theorem Jp:∀{kvs:List (D×D)}{S:List Tte},wW kvs=some S->kvs=ttP S
 |[],S,h=>by cases h;rfl
 | (a,b)::r,S,h=>by
  unfold wW at h
  split at h
  ·next e=>cases e
  ·next e=>
   cases e
   obtain⟨k,X,h⟩:=pC.mp h
   obtain⟨v,Y,h⟩:=pC.mp h
   cases Z:wW r with
   |none=>rw[Z]at h;cases h
   |some W=>
    rw[Z]at h
    cases h
    rw[qM X,qM Y,Jp Z]
    rfl
  ·cases h
theorem Fq(S:List Tte):KD (dtt S)=some S:=CN S
theorem CP{x:D}{S:List Tte}(h:KD x=some S):x=dtt S:=by
 cases x with
 |dict kvs=>rw[Jp (show wW kvs=some S from h)];rfl
 |_=>cases h
theorem SN{x:D}{v:List Int×Int}(h:KH x=some v):x=ttV v:=by
 unfold KH at h
 split at h
 ·next m z=>
  cases e:dU m with
  |none=>rw[e]at h;cases h
  |some k=>
   rw[e]at h
   cases h
   rw[qM e]
   rfl
 ·cases h
end D3
namespace D3
open PySem
noncomputable def pB:List Int->List Int->Bool
 |[],[]=>false
 |[],_::_=>true
 |_::_,[]=>false
 |x::xs,y::ys=>if x=y then pB xs ys else decide (x<y)
noncomputable def rZ:D->Option (List (List Int))
 | .dict kvs=>match wW kvs with
  |some S=>some (S.map (·.1))
  |none=>tsD kvs
 |_=>none
noncomputable def wX(f:FE)(fl fh:FO):FE:=λδ=>(f δ).bind λx=>(fl δ).bind λlo=>(fh δ).bind λhi=>match x with
 | .tuple l=>if flats l=true then some (.tuple (cutD l lo hi))else none
 |_=>none
noncomputable def t_:List D->Option D
 |[.tuple l]=>match dU l with
  |some (i::r)=>some (.int (mxI i r))
  |_=>none
 |_=>none
noncomputable def HD(f:FE):FA:=λδ=>(f δ).bind λx=>match x with
 | .tuple l=>some (pL l)
 |_=>none
noncomputable def v7:D->D->Option D:=λx y=>match x,y with
 | .list l,.list m=>if l.length<=1000 then some (.list (lN l m))else none
 |_,_=>none
end D3
namespace L2
open PySem PySem.Spec PyProof.Rows
section
variable{κ:Type}[DecidableEq κ]
noncomputable def pR(kvs:List (κ×V))(k:κ):Option V:=(kvs.find? λZ=>decide (Z.1=k)).map (·.2)
noncomputable def putK(kvs:List (κ×V))(k:κ)(v:V):List (κ×V):=
 if(kvs.any λZ=>decide (Z.1=k))=true then kvs.map (λZ=>if Z.1=k then(Z.1,v)else Z)else kvs++[(k,v)]
theorem u9{p:κ×V}{r:List (κ×V)}{k:κ}(e:p.1=k):pR (p::r) k=some p.2:=by simp[pR,jq,e]
theorem u_{p:κ×V}{r:List (κ×V)}{k:κ}(e:¬p.1=k):pR (p::r) k=pR r k:=by simp[pR,jq,e]
theorem Ft(k:κ):∀kvs:List (κ×V),(kvs.any λB=>decide (B.1=k))=(pR kvs k).isSome
 |[]=>rfl
 |p::r=>by
  rw[mR]
  by_cases e:p.1=k
  ·simp only[u9 e,dTr e,Bool.true_or,Option.isSome_some]
  ·rw[u_ e,dFa e,Bool.false_or];exact Ft k r
theorem wN(kvs:List (κ×V))(k:κ)(v:V):(putK kvs k v).length<=kvs.length+1:=by
 unfold putK
 split
 ·rw[au];omega
 ·rw[bG,bB,jr];omega
theorem vJ.isSome_eq{o:Option V}{u:Option Value}(r:vJ o u):o.isSome=u.isSome:=by
 cases o with
 |none=>cases u with
  |none=>rfl
  |some _=>exact(show False from r).elim
 |some _=>cases u with
  |none=>exact(show False from r).elim
  |some _=>rfl
theorem vJ.getD{o:Option V}{u:Option Value}{d:V}{d':Value}(r:vJ o u)(rd:RelV d d'):RelV (o.getD d) (u.getD d'):=by
 cases o with
 |none=>cases u with
  |none=>exact rd
  |some _=>exact(show False from r).elim
 |some _=>cases u with
  |none=>exact(show False from r).elim
  |some _=>exact r
theorem KV.val{kvs:List (κ×V)}{vs:List (κ×Value)}(r:KV kvs vs)(k:κ):vJ (pR kvs k) (valueAt vs k):=by
 unfold KV at r
 induction r with
 |nil=>exact True.intro
 | @cons p q ps Z h t X=>
  obtain⟨h1,h2⟩:=h
  by_cases e:p.1=k
  ·have Y:q.1=k:=h1.symm.trans e
   have b:valueAt (q::Z) k=some q.2:=by simp[valueAt,jq,Y]
   rw[u9 e,b];exact h2
  ·have Y:¬q.1=k:=λz=>e (h1.trans z)
   have b:valueAt (q::Z) k=valueAt Z k:=by simp[valueAt,jq,Y]
   rw[u_ e,b];exact X
theorem KV.any{kvs:List (κ×V)}{vs:List (κ×Value)}(r:KV kvs vs)(k:κ):(kvs.any λB=>decide (B.1=k))=vs.any λB=>decide (B.1=k):=by
 unfold KV at r
 induction r with
 |nil=>rfl
 |cons h t Z=>rw[mR,mR,Z,h.1]
theorem KV.repl{kvs:List (κ×V)}{vs:List (κ×Value)}(r:KV kvs vs)(k:κ){y:V}{u:Value}(D:RelV y u):
 KV (kvs.map λB=>if B.1=k then(B.1,y)else B) (vs.map λB=>if B.1=k then(B.1,u)else B):=by
 unfold KV at r ⊢
 induction r with
 |nil=>exact .nil
 | @cons p q ps Y h t Z=>
  rw[aQ,aQ]
  refine .cons ?_ Z
  obtain⟨h1,h2⟩:=h
  by_cases e:p.1=k
  ·rw[if_pos e,if_pos (h1.symm.trans e)];exact⟨h1,D⟩
  ·rw[if_neg e,if_neg (λz=>e (h1.trans z))];exact⟨h1,h2⟩
theorem KV.put{kvs:List (κ×V)}{vs:List (κ×Value)}(r:KV kvs vs)(k:κ){y:V}{u:Value}(B:RelV y u):KV (putK kvs k y) (stored vs k u):=by
 unfold putK stored
 rw[r.any k]
 by_cases e:(vs.any λZ=>decide (Z.1=k))=true
 ·rw[if_pos e,if_pos e];exact r.repl k B
 ·rw[if_neg e,if_neg e];exact Paired.snoc r ⟨rfl,B⟩
theorem KV.keys{kvs:List (κ×V)}{vs:List (κ×Value)}(r:KV kvs vs):kvs.map (·.1)=vs.map (·.1):=by
 unfold KV at r
 induction r with
 |nil=>rfl
 |cons h t Z=>rw[aQ,aQ,Z,h.1]
theorem KV.length{kvs:List (κ×V)}{vs:List (κ×Value)}(r:KV kvs vs):kvs.length=vs.length:=Paired.length r
end
theorem N6{k:Key}{u:Value}(r:RelV (kV k) u):(iW P w).is k u=true:=by
 cases k with
 |inl i=>obtain⟨t,e⟩:=(show ∃t,u=Value.int i t from r);subst e;exact Eh P w i t
 |inr x=>obtain⟨t,e⟩:=(show ∃t,u=Value.str x t from r);subst e;exact Ei P w x t
theorem A_:∀{ks:List Key}{us:List Value},Vals (ks.map kV) us->ItemsAre (iW P w) ks us
 |[],_,r=>by rw[iG]at r;cases r;exact .nil
 |k::ks,_,r=>by
  rw[aQ]at r
  cases r with
  |cons h t=>exact .cons (N6 h) (A_ t)
noncomputable abbrev KT(H:Hp):List (List Key×V)->List (List Key×Addr×Value)->Prop:=Paired λp q=>p.1=q.1/\H q.2.1=some (.tup (p.1.map kV))/\RelV p.2 q.2.2
theorem KT.val{kvs:List (List Key×V)}{xs:List (List Key×Addr×Value)}(r:KT H kvs xs)(k:List Key):vJ (pR kvs k) ((atKey xs k).map (·.2)):=by
 induction r with
 |nil=>exact True.intro
 | @cons p q ps Z h t X=>
  obtain⟨h1,_,h2⟩:=h
  by_cases e:p.1=k
  ·have Y:q.1=k:=h1.symm.trans e
   have b:atKey (q::Z) k=some q.2:=by simp[atKey,jq,Y]
   rw[u9 e,b];exact h2
  ·have Y:¬q.1=k:=λz=>e (h1.trans z)
   have b:atKey (q::Z) k=atKey Z k:=by simp[atKey,jq,Y]
   rw[u_ e,b];exact X
theorem KT.repl{kvs:List (List Key×V)}{xs:List (List Key×Addr×Value)}(r:KT H kvs xs)(k:List Key){y:V}{u:Value}(D:RelV y u):
 KT H (kvs.map λB=>if B.1=k then(B.1,y)else B) (xs.map (putAt k u)):=by
 induction r with
 |nil=>exact .nil
 | @cons p q ps X h t Z=>
  rw[aQ,aQ]
  refine .cons ?_ Z
  obtain⟨h1,h2,Y⟩:=h
  unfold putAt
  by_cases e:p.1=k
  ·rw[if_pos e,if_pos (h1.symm.trans e)];exact⟨h1,h2,D⟩
  ·rw[if_neg e,if_neg (λz=>e (h1.trans z))];exact⟨h1,h2,Y⟩
theorem KT.put{kvs:List (List Key×V)}{xs:List (List Key×Addr×Value)}(r:KT H kvs xs)(k:List Key){b:Addr}{y:V}{u:Value}(D:H b=some (.tup (k.map kV)))(B:RelV y u):
 KT H (putK kvs k y) (storedH xs k b u):=by
 have e:(kvs.any λZ=>decide (Z.1=k))=(atKey xs k).isSome:=by
  rw[Ft,(r.val k).isSome_eq,Option.isSome_map]
 unfold putK storedH
 rw[e]
 by_cases q:(atKey xs k).isSome=true
 ·rw[if_pos q,if_pos q];exact r.repl k B
 ·rw[if_neg q,if_neg q];exact Paired.snoc r ⟨rfl,D,B⟩
theorem KT.keeps{kvs:List (List Key×V)}{xs:List (List Key×Addr×Value)}(r:KT H kvs xs)(B:∀b ys,H b=some (.tup ys)->H' b=some (.tup ys)):KT H' kvs xs:=
 Paired.mapP r λ_ _ z=>⟨z.1,B _ _ z.2.1,z.2.2⟩
section
variable{P:Program}{w:World}{H:Hp}{h:Heap}{a:Addr}
theorem Va(ok:HOk P w H h)(e:Rd H a u):gR P w H h a u:=e.ok ok
theorem Ba{kvs:List (Key×V)}(ok:HOk P w H h)(e:Rd H a (.dK kvs)):kvs.length<=sizeLine/\(a==sysModules)=false/\∃vs,KV kvs vs/\h.DictOf (iW P w) a vs:=
 show gR P w H h a (.dK kvs)from Va ok e
theorem Vb{kvs:List (Key×V)}(ok:HOk P w H h)(e:H a=some (.dK kvs)):kvs.length<=sizeLine/\(a==sysModules)=false/\∃vs,KV kvs vs/\h.DictOf (iW P w) a vs:=Ba ok (.inl e)
theorem CQ{ks:List Key}(ok:HOk P w H h)(e:H a=some (.tup (ks.map kV))):(tupleKind (iW P w)).is h ks a:=by
 obtain⟨_,its,r,o,h1,h2,n,Z⟩:=(show gR P w H h a (.tup (ks.map kV))from ok a _ e)
 exact⟨o,its.toArray,n,h1,h2,Z,by simpa using A_ r⟩
theorem Bb{kvs:List (List Key×V)}(ok:HOk P w H h)(e:Rd H a (.dT kvs)):kvs.length<=sizeLine/\(a==sysModules)=false /\
 ∃xs,KT H kvs xs/\h.DictOfH (tupleKind (iW P w)) a xs:=by
 obtain⟨z,y,xs,r,o,es,ep,h1,h2,T,U,W⟩:=(show gR P w H h a (.dT kvs)from Va ok e)
 refine⟨z,y,xs,r,o,es,ep,h1,h2,T,U,λx Z=>?_,W⟩
 have all:∀{l:List (List Key×V)}{m:List (List Key×Addr×Value)},KT H l m->∀x∈m,(tupleKind (iW P w)).is h x.1 x.2.1:=by
  intro l m q
  induction q with
  |nil=>intro x Z;exact nomatch Z
  | @cons p q ps S Y t X=>
   intro x Z
   rcases aU.mp Z with e|Z
   ·subst e
    exact CQ ok (by rw[<-Y.1];exact Y.2.1)
   ·exact X x Z
 exact all r x Z
theorem Vc{kvs:List (List Key×V)}(ok:HOk P w H h)(e:H a=some (.dT kvs)):kvs.length<=sizeLine/\(a==sysModules)=false /\
 ∃xs,KT H kvs xs/\h.DictOfH (tupleKind (iW P w)) a xs:=Bb ok (.inl e)
end
noncomputable def N7(H:Hp)(a:Addr)(y:V)(r:Option V):Prop:=
 (∃kvs k,Rd H a (.dK kvs)/\y=kV k/\r=pR kvs k)\/∃kvs k b,Rd H a (.dT kvs)/\y = .ref b/\H b=some (.tup (k.map kV))/\r=pR kvs k
noncomputable def HJ(H:Hp)(a:Addr)(y v:V)(H':Hp):Prop:=
 (∃kvs k,H a=some (.dK kvs)/\y=kV k/\kvs.length<sizeLine/\H'=upd H a (.dK (putK kvs k v))) \/
 ∃kvs k b,H a=some (.dT kvs)/\y = .ref b/\H b=some (.tup (k.map kV))/\kvs.length<sizeLine/\H'=upd H a (.dT (putK kvs k v))
theorem N7.k{kvs:List (Key×V)}{k:Key}(e:H a=some (.dK kvs)):N7 H a (kV k) (pR kvs k):=.inl ⟨kvs,k,.inl e,rfl,rfl⟩
theorem HJ.k{kvs:List (Key×V)}{k:Key}(e:H a=some (.dK kvs))(B:kvs.length<sizeLine):HJ H a (kV k) v (upd H a (.dK (putK kvs k v))):=.inl ⟨kvs,k,e,rfl,B,rfl⟩
theorem HJ.t{kvs:List (List Key×V)}{k:List Key}(e:H a=some (.dT kvs))(D:H b=some (.tup (k.map kV)))(B:kvs.length<sizeLine):
 HJ H a (.ref b) v (upd H a (.dT (putK kvs k v))):=.inr ⟨kvs,k,b,e,rfl,D,B,rfl⟩
section
variable{X:Cx}{pins:List (Addr×Obj)}{σ:St}{H:Hp}{s:Shared}{a:Addr}{y v:V}{u r:Value}{o:Option V}{A:Around}{E:Value->Shared->Prop}
theorem KJ(J:A.units+1<cLine)(I:Inv X pins σ H s)(g:N7 H a y (some v))(D:RelV y u)(h:∀B s',Inv X pins σ H s'->RelV v B->Q B s'):
 wpAny (model X.prog X.w) A (getItem (.ref a) u) Q E s:=by
 rcases g with⟨kvs,k,e,W,l⟩|⟨kvs,k,b,e,W,T,l⟩
 ·subst W
  obtain⟨z,hd,vs,rel,V⟩:=Ba I.hok e
  obtain⟨B,hw,Z⟩:=vJ.some_of (v:=v) (o:=valueAt vs k) (by rw[l];exact rel.val k)
  exact wpAny_getItem_of (N6 D) V.mapOf hw (h B _ (I.tok _) Z)
 ·subst W
  cases(show u=Value.ref b from D)
  obtain⟨z,hd,xs,rel,V⟩:=Bb I.hok e
  obtain⟨B,hw,Z⟩:=vJ.some_of (v:=v) (o:=(atKey xs k).map (·.2)) (by rw[l];exact rel.val k)
  obtain⟨p,U,Y⟩:=Option.map_eq_some_iff.mp hw
  refine wpAny_getItem_heap (tupleKind_room_in1 J) (CQ I.hok T) V U ?_
  rw[Y]
  exact h B _ (I.tok _) Z
theorem xO{B:HO}(I:Inv X pins σ H s)(J:Mut (H a))(hs:Heap.SameBut a s.heap h')(O:∃q,h'.get? a=some q)(D:gR X.prog X.w (upd H a B) h' a B):
 Inv X pins σ (upd H a B) {s with heap:=h',toks:=t'}:=
 I.write (x:=a) (e:=a) J (.inl rfl) (λb q Z z=>(hs.2 b Z).trans z) O D
theorem WW{kvs:List (Key×V)}{vs:List (Key×Value)}(z:kvs.length<=sizeLine)(hd:(a==sysModules)=false)(rel:KV kvs vs)(B:h'.DictOf (iW P w) a vs):
 gR P w H' h' a (.dK kvs):=⟨z,hd,vs,rel,B⟩
theorem Bc{Q:Unit->Shared->Prop}(J:A.units+1<cLine)(I:Inv X pins σ H s)(g:HJ H a y v H')(B:RelV y u)(D:RelV v r)(h:∀s',Inv X pins σ H' s'->Q () s'):
 wpAny (model X.prog X.w) A (setItem (.ref a) u r) Q E s:=by
 rcases g with⟨kvs,k,e,U,l,T⟩|⟨kvs,k,b,e,U,P,l,T⟩
 ·subst U T
  obtain⟨z,hd,vs,rel,S⟩:=Vb I.hok e
  have W:vs.length<=sizeLine:=by rw[<-rel.length];exact z
  have V:(putK kvs k v).length<=sizeLine:=by have:=wN kvs k v;omega
  refine wpAny_setItem_pairs (hsz:=W) (N6 B) S λh' Z hs=>h _ ?_
  have O:∃q,h'.get? a=some q:=let⟨q,_,_,Y,_⟩:=Z;⟨q,Y⟩
  exact xO I (by rw[e];exact True.intro) hs O (WW V hd (rel.put k D) Z)
 ·subst U T
  cases(show u=Value.ref b from B)
  obtain⟨z,hd,xs,rel,S⟩:=Vc I.hok e
  have W:xs.length<=sizeLine:=by rw[<-Paired.length rel];exact z
  have V:(putK kvs k v).length<=sizeLine:=by have:=wN kvs k v;omega
  refine wpAny_setItem_heap (hsz:=W) (tupleKind_room_in1 J) (CQ I.hok P) S λh' Z hs=>h _ ?_
  obtain⟨q,es,ep,Y,h2,L,M,_,N⟩:=Z
  refine xO I (by rw[e];exact True.intro) hs ⟨q,Y⟩ ⟨V,hd,_,(rel.put k P D).keeps λc ys R=>?_,q,es,ep,Y,h2,L,M,N⟩
  rw[cG (yg R e (λz=>nomatch z))]
  exact R
end
section
variable{X:Cx}{pins:List (Addr×Obj)}{σ:St}{H:Hp}{s:Shared}{a:Addr}{kvs:List (Key×V)}{k:Key}{u:Value}{A:Around}{E:Value->Shared->Prop}
theorem Zj(I:Inv X pins σ H s)(e:Rd H a (.dK kvs))(h:∀t s',Inv X pins σ H s'->Q (.int kvs.length t) s'):wpAny (model X.prog X.w) A (call (.builtin "len") [.ref a]) Q E s:=by
 obtain⟨z,hd,vs,rel,Z⟩:=Ba I.hok e
 refine call_len_dict hd Z (by rw[<-rel.length];rw[sizeLine_eq]at z;omega) ?_
 rw[<-rel.length]
 exact h _ _ (I.tok _)
end
noncomputable def WX(i:Expr):Prop:=∀Z Y,subscripted i false Z Y=operate [Z,Y] (getItem Z Y)
theorem SQ{value slice:Expr}{id:String}
 (J:typeLookup (.type T) "__getitem__"=pure (some (.builtin id))) (hs:WX slice)
 (h:wpAny (model prog w) A (eval value env) (λo D=>wpAny (model prog w) A (eval slice env) (λi B=>B.TypeIs o T/\wpAny (model prog w) A (getItem o i) Q E B) E D) E s) :
 wpAny (model prog w) A (eval (.Subscript value slice pos) env) Q E s:=by
 refine Subscript_ (wpAny_mono h (λo D W=>wpAny_mono W (λi B Z=>?_) λ_ _ x=>x) λ_ _ x=>x)
 obtain⟨V,Z⟩:=Z
 unfold subscriptTail
 refine wpAny_bind ?_
 rw[getitemInPython_of_ne V.not_modules]
 refine wpAny_bind (wpAny_specialOf V J ?_)
 have fin:wpAny (model prog w) A (subscripted slice false o i) (λr Y=>wpAny (model prog w) A (letTemporaryGo value o r >>= λ_=>pure r) Q E Y) E B:=by
  rw[hs o i]
  exact wpAny_operating (wpAny_mono Z (λr Y X=>wpAny_bind (wpAny_letTemporaryGo (wpAny_pure X))) λ_ _ x=>x)
 first
  |exact wpAny_pure (wpAny_bind fin)
  |exact wpAny_bind (wpAny_pure (wpAny_bind fin))
  |exact wpAny_bind fin
theorem Fv{σ:St}{o:Option V}(I:Inv X pins σ H s)(g:N7 H a y o):s.TypeIs (.ref a) "dict" := by
 rcases g with⟨kvs,k,e,_,_⟩|⟨kvs,k,b,e,_,_,_⟩
 ·obtain⟨_,_,vs,_,Z⟩:=Ba I.hok e
  exact Z.typeIs
 ·obtain⟨_,_,xs,_,Z⟩:=Bb I.hok e
  exact Z.typeIs
noncomputable def Zk(td ty:TE):TE:=λσ H Q=>td σ H λx H1=>ty σ H1 λy H2=>∃a v,x = .ref a/\N7 H2 a y (some v)/\Q v H2
section
variable{X:Cx}{o i e value:Expr}{pos pos' tpos:Pos}{td ty tv:TE}
theorem SX(B:X.A.units+1<cLine)(D:PE X o td)(hi:PE X i ty)(hs:WX i):PE X (.Subscript o i pos) (Zk td ty):=by
 intro pins s σ H Q I h
 refine SQ PySem.F.slot_dict_getitem.lookup hs (thn (D pins s σ H _ I h) λu s1 ⟨x,H1,T,V,q1⟩=>thn (hi pins s1 σ H1 _ T q1) λR s2 ⟨y,H2,Y,W,a,v,ex,g,q2⟩=>?_)
 subst ex
 obtain rfl:u=Value.ref a:=V
 exact⟨Fv Y g,KJ B Y g W λS s3 U Z=>⟨v,H2,U,Z,q2⟩⟩
end
section
variable{X:Cx}{pos:Pos}
end
structure M1(X:Cx)(o:Expr)(m:Str)(apos:Pos)(e:Expr)(cpos:Pos):Prop where
 base:attributeBase o m X.env (eval o X.env)=eval o X.env
 few:((backTo cpos (starEach [e] X.env)).all (λx=>!x.1)&&(backToKw cpos (keywordEach [] X.env)).all (λx=>x.1.isSome)
  && decide (([e]:List Expr).length+([]:List Keyword).length+(if([]:List Keyword).isEmpty then 0 else 1)<30))=true
 line:(apos.endLine==cpos.line)=true
 trees:backTo cpos (starEach [e] X.env)=[(false,eval e X.env)]
structure M2(X:Cx)(o:Expr)(m:Str)(apos:Pos)(e f:Expr)(cpos:Pos):Prop where
 base:attributeBase o m X.env (eval o X.env)=eval o X.env
 few:((backTo cpos (starEach [e,f] X.env)).all (λx=>!x.1)&&(backToKw cpos (keywordEach [] X.env)).all (λx=>x.1.isSome)
  && decide (([e,f]:List Expr).length+([]:List Keyword).length+(if([]:List Keyword).isEmpty then 0 else 1)<30))=true
 line:(apos.endLine==cpos.line)=true
 trees:backTo cpos (starEach [e,f] X.env)=[(false,eval e X.env),(false,eval f X.env)]
noncomputable def IsD(H:Hp)(a:Addr):Prop:=(∃kvs,Rd H a (.dK kvs))\/∃kvs,Rd H a (.dT kvs)
theorem WY{σ:St}(I:Inv X pins σ H s)(d:IsD H a):
 s.TypeIs (.ref a) "dict"/\(∀b,Value.ref a = .ref b->∃B,s.heap.get? b=some B/\B.dict=none)/\(a==sysModules)=false:=by
 rcases d with⟨kvs,e⟩|⟨kvs,e⟩
 ·obtain⟨_,hd,vs,_,Z⟩:=Ba I.hok e
  refine⟨Z.typeIs,λb q=>?_,hd⟩
  cases q
  obtain⟨B,_,_,h1,h2,_⟩:=Z
  exact⟨B,h1,h2.2.1⟩
 ·obtain⟨_,hd,xs,_,Z⟩:=Bb I.hok e
  refine⟨Z.typeIs,λb q=>?_,hd⟩
  cases q
  obtain⟨B,_,_,h1,h2,_⟩:=Z
  exact⟨B,h1,h2.2.1⟩
section
variable{X:Cx}{pins:List (Addr×Obj)}{σ:St}{H:Hp}{s:Shared}{a:Addr}{y d:V}{u r:Value}{o:Option V}{A:Around}{E:Value->Shared->Prop}
end
section
variable{X:Cx}{o e f:Expr}{apos cpos:Pos}{td ty tx:TE}
end
section
variable{X:Cx}{pins:List (Addr×Obj)}{σ:St}{H:Hp}{s:Shared}{a:Addr}{kvs:List (Key×V)}{A:Around}{E:Value->Shared->Prop}
end
section
variable{X:Cx}{pins:List (Addr×Obj)}{σ:St}{H:Hp}{s:Shared}{a:Addr}{y:V}{u:Value}{A:Around}{E:Value->Shared->Prop}
end
section
variable{κ:Type}[DecidableEq κ]
end
end L2
namespace XK
open PySem PySem.Spec PyProof.Rows L2 My D3
section
variable{K:PySem.W.Frag}{H:Hp}
theorem S5(s:Same H H')(h:L2.Rd H a u):L2.Rd H' a u:=by
 rcases h with h|⟨o,h⟩
 ·exact .inl (s _ _ h)
 ·exact .inr ⟨o,s _ _ h⟩
end
section
variable{X:Cx}{fl:List Fl}{e a b c ke:Expr}{f fa fb fc fk:FE}{pos:Pos}
theorem Jq:∀(l:List Value)(ns:List Int),l.length=ns.length->(∀(j:Nat)(v:Value),l[j]? = some v->∃n t,ns[j]? = some n/\v=Value.int n t)->IntsAre l ns
 |[],[],_,_=>.nil
 |[],_::_,h,_=>by simp at h
 |_::_,[],h,_=>by simp at h
 |v::l,n::ns,h,g=>by
  obtain⟨W,t,X,Y⟩:=g 0 v rfl
  cases X
  subst Y
  exact .cons _ _ (Jq l ns (by simpa using h) λj v Z=>by simpa using g (j+1) v (by simpa using Z))
end
end XK
namespace XK
open PySem PySem.Spec PyProof.Rows L2 My D3
theorem hu1(h:n+64<cLine):n+1<cLine:=by omega
section
variable{K:PySem.W.Frag}{fl:List Fl}
end
section
variable{X:Cx}{fl:List Fl}{e a b c ke:Expr}{f fa fb fc fk:FE}{pos:Pos}
end
end XK
namespace XK
open PySem PySem.Spec PyProof.Rows L2 My D3
section
variable{X:Cx}{pins:List (Addr×Obj)}{σ:L2.St}{H H':Hp}{s:Shared}{a:Addr}{kvs:List (Key×V)}{o:Obj}
end
section
variable{K:PySem.W.Frag}{H:Hp}{a:Addr}{kvs:List (Key×V)}{o:Obj}
end
section
variable{X:Cx}{fl fl':List Fl}{e b c elt tg iter:Expr}{es ifs:List Expr}{k:Kd}{f fa fb fc fx:FE}{ft gt:FT}{pos:Pos}{scope:Scope}{ix L TT:List Nat}{fi:FA}{g:FG}
end
end XK
variable{a0:Addr}{o0:Obj}
namespace XK
open PySem PyProof.Rows
theorem Fw{Q:Option Obj->Shared->Prop}(h:Q (s.heap.get? a) s):wpAny M A (loadIfAlive a) Q E s:=λ_ _ _=>h
noncomputable abbrev yQ(h:Heap)(z a0 TI TO:Addr)(b:Bool):Prop:=
 h.get? z=some {cls:=.type "zip", dict:=none,data:=.fields #[rawInt a0,.bool b,.bool false,.ref TI,.ref TO],slots:=#[]}
section
variable{prog:Program}{w:World}{A:Around}{E:Value->Shared->Prop}{s:Shared}
theorem yR{TI TO:Addr}{b:Bool}{Q:Bool->Shared->Prop}(hz:yQ s.heap z a0 TI TO b)(D:s.heap.get? a0=some o0)(B:∀h',yQ h' z a0 TI TO true->Heap.SameBut z s.heap h'->Q false {s with heap:=h'}):
 wpAny (model prog w) A (Builtin.SmallTypes.ownedTupleIsFree (.ref z)) Q E s:=by
 unfold Builtin.SmallTypes.ownedTupleIsFree
 refine wpAny_bind (wpAny_field hz rfl (x:=rawInt a0) rfl ?_)
 show wpAny _ _ (loadIfAlive ((a0:Int)).toNat >>= _) _ _ _
 refine wpAny_bind (Fw ?_)
 rw[fO,D]
 show wpAny _ _ (field (.ref z) 1 >>= _) _ _ _
 refine wpAny_bind (wpAny_field hz rfl (x:=.bool b) rfl ?_)
 cases b with
 |true=>
  show wpAny _ _ (pure false) _ _ _
  exact wpAny_pure (B s.heap hz ⟨rfl,λ_ _=>rfl⟩)
 |false=>
  show wpAny _ _ (setField (.ref z) 1 (.bool true) >>= _) _ _ _
  refine wpAny_bind (wpAny_setField_rec hz (by simp) λX Z Y=>wpAny_pure (B X Z Y))
theorem N8{TI TO:Addr}{xs:Array Value}{x y:Value}{b:Bool}(D:ZipApart z TI TO i1 i2 l1 l2)
 (hz:yQ s.heap z a0 TI TO b) (h0:s.heap.get? a0=some o0) (O:IsPair s.heap TI (.ref i1) (.ref i2))
 (h1:s.heap.IsListIter i1 l1 k1) (h2:s.heap.IsListIter i2 l2 k2) (J:s.heap.IsList l1 xs) (B:s.heap.IsList l2 ys) (hx:xs[k1]? = some x) (hy:ys[k2]? = some y)
 (hQ:∀h',yQ h' z a0 TI TO true->h'.IsListIter i1 l1 (k1+1)->h'.IsListIter i2 l2 (k2+1)->IsPair h' s.heap.objs.size x y ->
  (∀c o,c≠z->c≠i1->c≠i2->s.heap.get? c=some o->h'.get? c=some o)->Q (.ref s.heap.objs.size) {s with heap:=h'}) :
 wpAny (model prog w) A (Builtin.«zip.__next__» ⟨[.ref z],[]⟩) (λfin s'=>∃v,fin = .done (.ret v)/\Q v s') E s:=by
 show wpAny _ _ (field (.ref z) 2 >>= _) _ _ _
 refine wpAny_bind (wpAny_field hz rfl (x:=.bool false) rfl ?_)
 show wpAny _ _ (field (.ref z) 3 >>= _) _ _ _
 refine wpAny_bind (wpAny_field hz rfl (x:=.ref TI) rfl ?_)
 refine wpAny_bind (wpAny_seqItems O rfl ?_)
 show wpAny _ _ (Builtin.SmallTypes.ownedTupleIsFree (.ref z) >>= _) _ _ _
 refine wpAny_bind (yR hz h0 λK U Z=>?_)
 simp only[gb,if_false]
 refine wpAny_bind ?_
 simp only[<-uf,rm,List.forIn_nil]
 refine wpAny_bind (wpAny_bind (wpAny_holding ?_))
 show wpAny _ _ (Builtin.SmallTypes.nextOf (.ref i1) >>= _) _ _ _
 refine wpAny_bind (wpAny_nextOf_list_item (h1.extBut Z.extBut D.i1z) (J.extBut Z.extBut D.l1z) hx λL S Y=>wpAny_pure (wpAny_pure ?_))
 refine wpAny_bind (wpAny_bind (wpAny_holding ?_))
 show wpAny _ _ (Builtin.SmallTypes.nextOf (.ref i2) >>= _) _ _ _
 refine wpAny_bind (wpAny_nextOf_list_item ((h2.extBut Z.extBut D.i2z).extBut Y.extBut D.i12.symm) ((B.extBut Z.extBut D.l2z).extBut Y.extBut D.l2i1) hy λX T W=>wpAny_pure (wpAny_pure (wpAny_pure ?_)))
 show wpAny _ _ (newTuple [x,y] >>= _) _ _ _
 refine wpAny_bind (wpAny_newTuple (wpAny_pure ⟨_,rfl,?_⟩))
 have R:X.objs.size=s.heap.objs.size:=by rw[W.1,Y.1,Z.1]
 show Q (.ref X.objs.size) _
 have I:∀c o,c≠z->c≠i1->c≠i2->s.heap.get? c=some o->X.get? c=some o:=λc o M N P e=>W.extBut _ _ P (Y.extBut _ _ N (Z.extBut _ _ M e))
 have V:yQ X z a0 TI TO true:=W.extBut _ _ D.i2z.symm (Y.extBut _ _ D.i1z.symm U)
 have up:∀c o,X.get? c=some o->(X.push {cls:=.type "tuple", data:=.seq #[x,y]}).get? c=some o:=λc o e=>Heap.get?_push_of_some _ e
 rw[R]
 refine hQ _ (up _ _ V) (((S.extBut W.extBut D.i12)).at λo e=>up _ o e) (T.at λo e=>up _ o e) ?_ λc o M N P e=>up c o (I c o M N P e)
 rw[<-R]
 exact Heap.get?_push_size _ rfl
theorem N_{TI TO:Addr}{xs:Array Value}{b:Bool}{Q:Fin->Shared->Prop}(hh:A.handled=none)(D:ZipApart z TI TO i1 i2 l1 l2)
 (hz:yQ s.heap z a0 TI TO b) (h0:s.heap.get? a0=some o0) (hTI:IsPair s.heap TI (.ref i1) (.ref i2))
 (h1:s.heap.IsListIter i1 l1 k1) (h2:s.heap.IsListIter i2 l2 k2) (B:s.heap.IsList l1 xs) (O:s.heap.IsList l2 ys) (J:xs[k1]? = none\/ys[k2]? = none)
 (hE:∀h' e,(∀c o,c≠z->c≠i1->c≠i2->s.heap.get? c=some o->h'.get? c=some o)->(∃o,h'.get? e=some o/\o.cls = .type "StopIteration")->E (.ref e) {s with heap:=h'}) :
 wpAny (model prog w) A (Builtin.«zip.__next__» ⟨[.ref z],[]⟩) Q E s:=by
 show wpAny _ _ (field (.ref z) 2 >>= _) _ _ _
 refine wpAny_bind (wpAny_field hz rfl (x:=.bool false) rfl ?_)
 show wpAny _ _ (field (.ref z) 3 >>= _) _ _ _
 refine wpAny_bind (wpAny_field hz rfl (x:=.ref TI) rfl ?_)
 refine wpAny_bind (wpAny_seqItems hTI rfl ?_)
 show wpAny _ _ (Builtin.SmallTypes.ownedTupleIsFree (.ref z) >>= _) _ _ _
 refine wpAny_bind (yR hz h0 λM U Z=>?_)
 simp only[gb,if_false]
 refine wpAny_bind ?_
 simp only[<-uf,rm,List.forIn_nil]
 refine wpAny_bind (wpAny_bind (wpAny_holding ?_))
 show wpAny _ _ (Builtin.SmallTypes.nextOf (.ref i1) >>= _) _ _ _
 cases T:xs[k1]? with
 |none=>
  refine wpAny_bind (wpAny_nextOf_list_end hh (h1.extBut Z.extBut D.i1z) (B.extBut Z.extBut D.l1z) T λX e Y S=>?_)
  exact hE X e (λc o N P _ x=>Y _ _ P (Z.extBut _ _ N x)) S
 |some x=>
  have L:ys[k2]? = none:=by rcases J with h|h;rw[T]at h;cases h;exact h
  refine wpAny_bind (wpAny_nextOf_list_item (h1.extBut Z.extBut D.i1z) (B.extBut Z.extBut D.l1z) T λX R Y=>wpAny_pure (wpAny_pure ?_))
  refine wpAny_bind (wpAny_bind (wpAny_holding ?_))
  show wpAny _ _ (Builtin.SmallTypes.nextOf (.ref i2) >>= _) _ _ _
  refine wpAny_bind (wpAny_nextOf_list_end hh ((h2.extBut Z.extBut D.i2z).extBut Y.extBut D.i12.symm) ((O.extBut Z.extBut D.l2z).extBut Y.extBut D.l2i1) L λV e W S=>?_)
  exact hE V e (λc o N P K x=>W _ _ K (Y.extBut _ _ P (Z.extBut _ _ N x))) S
theorem KN{TI TO:Addr}{xs:Array Value}{x y:Value}{b:Bool}{Q:Option Value->Shared->Prop}(D:ZipApart z TI TO i1 i2 l1 l2)
 (hz:yQ s.heap z a0 TI TO b) (h0:s.heap.get? a0=some o0) (O:IsPair s.heap TI (.ref i1) (.ref i2))
 (h1:s.heap.IsListIter i1 l1 k1) (h2:s.heap.IsListIter i2 l2 k2) (J:s.heap.IsList l1 xs) (B:s.heap.IsList l2 ys) (Y:xs[k1]? = some x) (W:ys[k2]? = some y)
 (hQ:∀h',yQ h' z a0 TI TO true->h'.IsListIter i1 l1 (k1+1)->h'.IsListIter i2 l2 (k2+1)->IsPair h' s.heap.objs.size x y ->
  (∀c o,c≠z->c≠i1->c≠i2->s.heap.get? c=some o->h'.get? c=some o)->Q (some (.ref s.heap.objs.size)) {s with heap:=h'}) :
 wpAny (model prog w) A (pyNext (.ref z)) Q E s:=by
 have Z:s.TypeIs (.ref z) "zip" := ⟨_,hz,rfl⟩
 unfold pyNext
 exact wpAny_bind (wpAny_attempt (wpAny_callSpecial?_slot (name:=Str.ofString "__next__") Z F.slot_zip_next
  (wpAny_call_entry F.slot_zip_next Z F.entry_zip_next (N8 D hz h0 O h1 h2 J B Y W λh' S T U V X=>wpAny_pure (hQ h' S T U V X)) (F.args_zip_next_1 _))))
theorem KQ{TI TO:Addr}{xs:Array Value}{b:Bool}{Q:Option Value->Shared->Prop}(hh:A.handled=none)(D:ZipApart z TI TO i1 i2 l1 l2)
 (hz:yQ s.heap z a0 TI TO b) (h0:s.heap.get? a0=some o0) (W:IsPair s.heap TI (.ref i1) (.ref i2))
 (h1:s.heap.IsListIter i1 l1 k1) (h2:s.heap.IsListIter i2 l2 k2) (O:s.heap.IsList l1 xs) (J:s.heap.IsList l2 ys) (B:xs[k1]? = none\/ys[k2]? = none)
 (hQ:∀h',(∀c o,c≠z->c≠i1->c≠i2->s.heap.get? c=some o->h'.get? c=some o)->Q none {s with heap:=h'}):wpAny (model prog w) A (pyNext (.ref z)) Q E s:=by
 have Z:s.TypeIs (.ref z) "zip" := ⟨_,hz,rfl⟩
 unfold pyNext
 refine wpAny_bind (wpAny_attempt (wpAny_callSpecial?_slot (name:=Str.ofString "__next__") Z F.slot_zip_next
  (wpAny_call_entry F.slot_zip_next Z F.entry_zip_next (N_ hh D hz h0 W h1 h2 O J B λh' e X V=>?_) (F.args_zip_next_1 _))))
 obtain⟨o,Y,U⟩:=V
 refine wpAny_bind (wpAny_isInstance (T := "StopIteration") (b:=true) ⟨o,Y,U⟩ isSubtype_stop ?_)
 exact wpAny_pure (hQ _ X)
end
end XK
namespace XK
open PySem PyProof.Rows
structure LZ(h:Heap)(base:Nat)(z TI TO i1 i2 l1 l2 S:Addr)(xs ys:Array Value)(i:Nat)(acc:Array Value):Prop where
 ti:IsPair h TI (.ref i1) (.ref i2)
 j1:h.IsListIter i1 l1 i
 j2:h.IsListIter i2 l2 i
 q1:h.IsList l1 xs
 q2:h.IsList l2 ys
 zz:(i=0/\IsZip h z TI TO .none/\∃a b,IsPair h TO a b)\/∃a0 b o0,base<=a0/\yQ h z a0 TI TO b/\h.get? a0=some o0
 sz:base<=h.objs.size
 al:acc.size=i
 ac:∀j,j<i->∃a x y,acc[j]? = some (.ref a)/\base<=a/\xs[j]? = some x/\ys[j]? = some y/\IsPair h a x y
 inj:∀(j j':Nat)(a:Addr),acc[j]? = some (.ref a)->acc[j']? = some (.ref a)->j=j'
 ss:∃c,h.get? S=some {cls:=.type "list", dict:=none,data:=.seq acc c,slots:=#[]}
section
variable{prog:Program}{w:World}{A:Around}{R:Result->Shared->Prop}{z TI TO i1 i2 l1 l2 S:Addr}{xs ys:Array Value}{base:Nat}
theorem S6(hh:A.in1.handled=none)(D:ZipApart z TI TO i1 i2 l1 l2)(res:Value)(hb:∀c,c∈[z,TI,TO,i1,i2,l1,l2,S]->c<base)(J:S∉[z,TI,TO,i1,i2,l1,l2])(hn:xs.size<=sizeLine):
 ∀(k i:Nat)(s:Shared)(acc:Array Value),min xs.size ys.size-i=k->i<=min xs.size ys.size->LZ s.heap base z TI TO i1 i2 l1 l2 S xs ys i acc ->
 (∀h' B,(∀c o,c∉[z,TO,i1,i2,S]->s.heap.get? c=some o->h'.get? c=some o)->B.size=min xs.size ys.size ->
  (∀j,j<min xs.size ys.size->∃a x y,B[j]? = some (.ref a)/\base<=a/\xs[j]? = some x/\ys[j]? = some y/\IsPair h' a x y)->(∀(j j':Nat)(a:Addr),B[j]? = some (.ref a)->B[j']? = some (.ref a)->j=j') ->
  (∃c,h'.get? S=some {cls:=.type "list", dict:=none,data:=.seq B c,slots:=#[]})->R (.ok (.ret res)) {s with heap:=h'}) ->
 codeAny (model prog w) A (.builtin "list.extend.loop" ⟨[.ref S,.ref z,res],[]⟩) R s:=by
 have O:S≠z:=λe=>J (by simp[e])
 have hST:S≠TI:=λe=>J (by simp[e])
 have G:S≠TO:=λe=>J (by simp[e])
 have M:S≠i1:=λe=>J (by simp[e])
 have N:S≠i2:=λe=>J (by simp[e])
 have hSl:S≠l1:=λe=>J (by simp[e])
 have d:S≠l2:=λe=>J (by simp[e])
 have ne:∀c,c∈[z,TI,TO,i1,i2,l1,l2,S]->∀a:Addr,base<=a->a≠c:=λc Y a ha q=>mD.mpr ha (by rw[q];exact hb c Y)
 intro k
 induction k with
 |zero=>
  intro i s acc hk hi L hR
  have g:i=min xs.size ys.size:=by omega
  have T:xs[i]? = none\/ys[i]? = none:=by
   rcases Nat.le_total xs.size ys.size with z|z
   ·exact .inl (gZ (by omega))
   ·exact .inr (gZ (by omega))
  refine codeAny_builtin F.entry_extend_loop ?_
  rw[Around.under_plainId F.plain_extend_loop _]
  show wpAny _ A.in1 (pyNext (.ref z) >>= _) _ _ s
  have fin:∀h',(∀c o,c≠z->c≠TO->c≠i1->c≠i2->s.heap.get? c=some o->h'.get? c=some o)->R (.ok (.ret res)) {s with heap:=h'}:=λh' X=>by
   have up:∀a o,base<=a->s.heap.get? a=some o->h'.get? a=some o:=λa o ha e=>X a o (ne z (by simp) _ ha) (ne TO (by simp) _ ha) (ne i1 (by simp) _ ha) (ne i2 (by simp) _ ha) e
   obtain⟨c,Y⟩:=L.ss
   have V:=X S _ O G M N Y
   refine hR h' acc (λc o Y e=>X c o (λq=>Y (by simp[q])) (λq=>Y (by simp[q])) (λq=>Y (by simp[q])) (λq=>Y (by simp[q])) e) (by rw[L.al];exact g) (λj p=>?_) L.inj ⟨c,V⟩
   ·obtain⟨a,x,y,h1,h2,h3,h4,h5⟩:=L.ac j (by omega)
    exact⟨a,x,y,h1,h2,h3,h4,up a _ h2 h5⟩
  rcases L.zz with⟨I,Q,a,b,P⟩|⟨a0,b,o0,_,Q,I⟩
  ·exact wpAny_bind (wpAny_pyNext_zip_end hh D Q L.ti P L.j1 L.j2 L.q1 L.q2 T λh' X=>wpAny_pure (fin h' X))
  ·exact wpAny_bind (KQ hh D Q I L.ti L.j1 L.j2 L.q1 L.q2 T λh' X=>wpAny_pure (fin h' λc o c1 _ c3 c4 e=>X c o c1 c3 c4 e))
 |succ k ih=>
  intro i s acc hk hi L hR
  have hlt:i<min xs.size ys.size:=by omega
  obtain⟨x,l⟩:∃x,xs[i]? = some x:=⟨_,jU (by omega)⟩
  obtain⟨y,m⟩:∃y,ys[i]? = some y:=⟨_,jU (by omega)⟩
  refine codeAny_builtin F.entry_extend_loop ?_
  rw[Around.under_plainId F.plain_extend_loop _]
  show wpAny _ A.in1 (pyNext (.ref z) >>= _) _ _ s
  have step:∀(h':Heap),(∃a0 b o0,base<=a0/\yQ h' z a0 TI TO b/\h'.get? a0=some o0)->h'.IsListIter i1 l1 (i+1)->h'.IsListIter i2 l2 (i+1)->IsPair h' s.heap.objs.size x y ->
   (∀c o,c≠z->c≠TO->c≠i1->c≠i2->s.heap.get? c=some o->h'.get? c=some o) ->
   wpAny (model prog w) A.in1 (updateSeq S (·.push (.ref s.heap.objs.size)) >>= λ_=>again (.builtin "list.extend.loop" ⟨[.ref S,.ref z,res],[]⟩)) (λfin s'=>match fin with | .done f=>R (.ok f) s' | .again c'=>c'.quiet=true/\codeAny (model prog w) A c' R s') (λe s'=>R (.error e) s') {s with heap:=h'}:=λh' v C E K W=>by
   obtain⟨c,Y⟩:=L.ss
   have V:=W S _ O G M N Y
   have up:∀a o,base<=a->s.heap.get? a=some o->h'.get? a=some o:=λa o ha e=>W a o (ne z (by simp) _ ha) (ne TO (by simp) _ ha) (ne i1 (by simp) _ ha) (ne i2 (by simp) _ ha) e
   have Z:∀b o,b≠S->h'.get? b=some o->(h'.update S (Obj.mapSeq (·.push (.ref s.heap.objs.size)))).get? b=some o:=λb o hb e=>(Heap.get?_update_other _ _ (Ne.symm hb)).trans e
   refine wpAny_bind ?_
   refine wpAny_updateSeq V rfl (wpAny_pure ⟨plainId_quiet F.plain_extend_loop _,ih (i+1) _ (acc.push (.ref s.heap.objs.size)) (by omega) (by omega) ⟨?_,?_,?_,?_,?_,?_,?_,?_,?_,?_,?_⟩ λh'' B H e2 e3 e4 e5=>?_⟩)
    (by rw[L.al];omega) (by show(acc.push _).size<=sizeLine+1;rw[Array.size_push,L.al];omega)
   ·exact Z _ _ (Ne.symm hST) (W _ _ D.TIz D.TITO D.TIi1 D.TIi2 L.ti)
   ·exact C.at λo e=>Z _ o (Ne.symm M) e
   ·exact E.at λo e=>Z _ o (Ne.symm N) e
   ·obtain⟨o,h,r⟩:=L.q1
    exact⟨o,Z _ _ (Ne.symm hSl) (W _ _ D.l1z D.l1TO D.l1i1 D.l1i2 h),r⟩
   ·obtain⟨o,h,r⟩:=L.q2
    exact⟨o,Z _ _ (Ne.symm d) (W _ _ D.l2z D.l2TO D.l2i1 D.l2i2 h),r⟩
   ·obtain⟨a0,b,o0,k1,k2,t⟩:=v
    exact .inr ⟨a0,b,o0,k1,Z _ _ (Ne.symm O) k2,Z _ _ (ne S (by simp) _ k1) t⟩
   ·show base<=(h'.update S _).objs.size
    rw[Heap.size_update]
    exact bF L.sz (eF (Heap.lt_size K))
   ·rw[Array.size_push,L.al]
   ·intro j p
    by_cases q:j=i
    ·subst q
     exact⟨_,x,y,by rw[<-L.al];simp,L.sz,l,m,Z _ _ (ne S (by simp) _ L.sz) K⟩
    ·obtain⟨a,x',y',k1,k2,t,k4,n⟩:=L.ac j (by omega)
     refine⟨a,x',y',?_,k2,t,k4,Z _ _ (ne S (by simp) _ k2) (up a _ k2 n)⟩
     rw[Array.getElem?_push_lt (by rw[L.al];omega)]
     rw[jU (by rw[L.al];omega)]at k1
     exact k1
   ·have lt:∀(j:Nat)(a:Addr),acc[j]? = some (.ref a)->a<s.heap.objs.size/\j<i:=λj a e=>by
     have p:j<i:=by
      rcases gj j acc.size with q|q
      ·rw[L.al]at q;exact q
      ·rw[gZ q]at e;cases e
     obtain⟨a',x',y',k1,k2,t,k4,n⟩:=L.ac j p
     rw[e]at k1
     cases k1
     exact⟨Heap.lt_size n,p⟩
    have cs:∀(j:Nat)(a:Addr),(acc.push (.ref s.heap.objs.size))[j]? = some (.ref a)->(acc[j]? = some (.ref a))\/(j=i/\a=s.heap.objs.size):=λj a e=>by
     rw[Array.getElem?_push]at e
     by_cases q:j=acc.size
     ·rw[if_pos q]at e
      cases e
      exact .inr ⟨by rw[q,L.al],rfl⟩
     ·rw[if_neg q]at e
      exact .inl e
    intro j j' a e e'
    rcases cs j a e with q|⟨q,r⟩<;>rcases cs j' a e' with u|⟨u,r'⟩
    ·exact L.inj j j' a q u
    ·exact absurd (lt j a q).1 (by rw[r'];exact eE _)
    ·exact absurd (lt j' a u).1 (by rw[r];exact eE _)
    ·rw[q,u]
   ·exact⟨_,Heap.get?_update_self _ V rfl⟩
   ·exact hR h'' B (λc o Y e=>H c o Y (Z c o (λq=>Y (by simp[q])) (W c o (λq=>Y (by simp[q])) (λq=>Y (by simp[q])) (λq=>Y (by simp[q])) (λq=>Y (by simp[q])) e))) e2 e3 e4 e5
  rcases L.zz with⟨I,Q,a,b,P⟩|⟨a0,b,o0,U,Q,I⟩
  ·refine wpAny_bind (wpAny_pyNext_zip_item D Q L.ti P L.j1 L.j2 L.q1 L.q2 l m λh' v g2 C E K g6 W=>?_)
   exact step h' ⟨s.heap.objs.size,false,_,L.sz,v,K⟩ C E K W
  ·refine wpAny_bind (KN D Q I L.ti L.j1 L.j2 L.q1 L.q2 l m λh' v C E K W=>?_)
   exact step h' ⟨a0,true,o0,U,v,W a0 o0 (ne z (by simp) _ U) (ne i1 (by simp) _ U) (ne i2 (by simp) _ U) I⟩ C E K λc o c1 _ c3 c4 e=>W c o c1 c3 c4 e
end
end XK
namespace XK
open PySem PyProof.Rows
theorem HN:typeLookup (.type "zip") "__len__"=pure none:=by rw[typeLookup_type,builtinLookup_eq_fast];kernel_rfl
theorem Fx:typeLookup (.type "zip") "__length_hint__"=pure none:=by rw[typeLookup_type,builtinLookup_eq_fast];kernel_rfl
section
variable{prog:Program}{w:World}{A:Around}{E:Value->Shared->Prop}{s:Shared}
theorem Oa{Q:Bool->Shared->Prop}(B:s.TypeIs (.ref z) "zip")(h:Q true s):wpAny (model prog w) A (Builtin.List.listLengthHint (.ref z)) Q E s:=by
 unfold Builtin.List.listLengthHint
 refine wpAny_bind (wpAny_specialOf B HN ?_)
 show wpAny _ A (specialOf (Value.ref z) (Str.ofString "__length_hint__") >>= _) _ _ _
 exact wpAny_bind (wpAny_specialOf B Fx (wpAny_pure h))
theorem Ob{TI TO:Addr}{xs:Array Value}{a b:Value}(hh:A.handled=none)(D:ZipApart z TI TO i1 i2 l1 l2)(hz:IsZip s.heap z TI TO .none)(hTI:IsPair s.heap TI (.ref i1) (.ref i2))(O:IsPair s.heap TO a b)
 (h1:s.heap.IsListIter i1 l1 0) (h2:s.heap.IsListIter i2 l2 0) (J:s.heap.IsList l1 xs) (B:s.heap.IsList l2 ys) (hn:xs.size<=sizeLine)
 (hQ:∀h' acc c,(∀c o,c∉[z,TO,i1,i2]->s.heap.get? c=some o->h'.get? c=some o)->acc.size=min xs.size ys.size ->
  (∀j,j<min xs.size ys.size->∃a x y,acc[j]? = some (.ref a)/\s.heap.objs.size<a/\xs[j]? = some x/\ys[j]? = some y/\IsPair h' a x y)->(∀(j j':Nat)(a:Addr),acc[j]? = some (.ref a)->acc[j']? = some (.ref a)->j=j') ->
  h'.get? s.heap.objs.size=some {cls:=.type "list", dict:=none,data:=.seq acc c,slots:=#[]}->Q (.ref s.heap.objs.size) {s with heap:=h'}) :
 wpAny (model prog w) A (call (.type "list") [.ref z]) Q E s:=by
 refine callType_codes (Q₁:=λobj Y=>obj = .ref s.heap.objs.size/\Y={s with heap:=s.heap.push {cls:=.type "list", data:=.seq #[]} }) PySem.F.called_list (PySem.F.typeCall_list_1 _) PySem.F.entry_list_init (code_list_new _ ⟨rfl,rfl⟩) λobj Y g=>?_
 obtain⟨rfl,rfl⟩:=g
 have N:(s.heap.push {cls:=.type "list", data:=.seq #[]}).get? s.heap.objs.size=some {cls:=.type "list", data:=.seq #[]}:=Heap.get?_push_size _ rfl
 refine⟨⟨_,N,rfl⟩,PySem.F.args_list_init_2 _ _,?_⟩
 show wpAny _ _ (do let old <-Builtin.List.listItems (.ref s.heap.objs.size);Builtin.List.listUpdate (.ref s.heap.objs.size) (λ_=>#[]);letGo old.toList.reverse;Builtin.List.listExtendWith (.ref s.heap.objs.size) (.ref z) .none) _ _ _
 refine wpAny_bind ?_
 unfold Builtin.List.listItems
 refine wpAny_bind (wpAny_seqItems N rfl (wpAny_pure ?_))
 show wpAny _ _ (updateSeq s.heap.objs.size (λ_=>#[]) >>= λ_=>letGo (#[]:Array Value).toList.reverse >>= λ_=>Builtin.List.listExtendWith (.ref s.heap.objs.size) (.ref z) .none) _ _ _
 refine wpAny_bind (wpAny_updateSeq N rfl ?_)
 have U:=Heap.get?_update_self (Obj.mapSeq (λ_=>(#[]:Array Value))) N rfl
 refine wpAny_bind (wpAny_letGo ?_)
 have old:∀c o,s.heap.get? c=some o->c≠s.heap.objs.size:=λc o e=>bh (Heap.lt_size e)
 have k2:∀c o,s.heap.get? c=some o->((s.heap.push {cls:=.type "list", data:=.seq #[]}).update s.heap.objs.size (Obj.mapSeq (λ_=>(#[]:Array Value)))).get? c=some o:=λc o e=>
  (Heap.get?_update_other _ _ (Ne.symm (old c o e))).trans (Heap.get?_push_of_some _ e)
 have W:((s.heap.push {cls:=.type "list", data:=.seq #[]}).update s.heap.objs.size (Obj.mapSeq (λ_=>(#[]:Array Value)))).objs.size=s.heap.objs.size+1:=by rw[Heap.size_update,Heap.size_push]
 generalize (s.heap.push {cls:=.type "list", data:=.seq #[]}).update s.heap.objs.size (Obj.mapSeq (λ_=>(#[]:Array Value)))=M at U k2 W
 unfold Builtin.List.listExtendWith
 refine wpAny_bind (wpAny_typeOf (T := "zip") ⟨_,k2 _ _ hz,rfl⟩ ?_)
 have u:Builtin.List.listSameRef (.ref s.heap.objs.size) (.ref z)=false:=by simp[Builtin.List.listSameRef,Ne.symm (old z _ hz)]
 have v:(Value.type "zip"==Value.type "list")=false:=by decide
 have C:(Value.type "zip"==Value.type "tuple")=false:=by decide
 simp only[u,v,C,Bool.or_false,gb,if_false]
 refine wpAny_bind (wpAny_pyIter_zip (k2 _ _ hz) ?_)
 refine wpAny_bind (wpAny_holding (Oa ⟨_,k2 _ _ hz,rfl⟩ ?_))
 rw[if_pos (Bool.true_or _)]
 refine wpAny_bind (wpAny_rule ?_)
 refine wpAny_bind ?_
 show wpAny _ _ (updateSeq s.heap.objs.size (·.push .none) >>= λ_=>updateSeq s.heap.objs.size (·.pop)) _ _ _
 refine wpAny_bind (wpAny_updateSeq U rfl ?_)
 have R:=Heap.get?_update_self (Obj.mapSeq (·.push Value.none)) U rfl
 refine wpAny_updateSeq (hz:=by seq_fits) R rfl ?_
 have S:=Heap.get?_update_self (Obj.mapSeq (·.pop)) R rfl
 have Z:∀c o,s.heap.get? c=some o->((M.update s.heap.objs.size (Obj.mapSeq (·.push Value.none))).update s.heap.objs.size (Obj.mapSeq (·.pop))).get? c=some o:=λc o e=>
  (Heap.get?_update_other _ _ (Ne.symm (old c o e))).trans ((Heap.get?_update_other _ _ (Ne.symm (old c o e))).trans (k2 c o e))
 have X:((M.update s.heap.objs.size (Obj.mapSeq (·.push Value.none))).update s.heap.objs.size (Obj.mapSeq (·.pop))).objs.size=s.heap.objs.size+1:=by rw[Heap.size_update,Heap.size_update,W]
 generalize (M.update s.heap.objs.size (Obj.mapSeq (·.push Value.none))).update s.heap.objs.size (Obj.mapSeq (·.pop))=t at S Z X
 have lt:∀c∈[z,TI,TO,i1,i2,l1,l2],c<s.heap.objs.size:=λc V=>by
  simp only[aU,aO,dw,or_false]at V
  rcases V with rfl|rfl|rfl|rfl|rfl|rfl|rfl
  ·exact Heap.lt_size hz
  ·exact Heap.lt_size hTI
  ·exact Heap.lt_size O
  ·obtain⟨o,e,_⟩:=h1;exact Heap.lt_size e
  ·obtain⟨o,e,_⟩:=h2;exact Heap.lt_size e
  ·obtain⟨o,e,_⟩:=J;exact Heap.lt_size e
  ·obtain⟨o,e,_⟩:=B;exact Heap.lt_size e
 refine wpAny_pure ⟨plainId_quiet PySem.F.plain_extend_loop _,S6 (base:=s.heap.objs.size+1) (A:=A.in1) (xs:=xs) (ys:=ys) hh D .none (λc V=>?_) (λV=>eE _ (lt _ V)) hn _ 0 _ #[] rfl (cZ _) ⟨Z _ _ hTI,h1.at λo e=>Z _ o e,h2.at λo e=>Z _ o e,?_,?_,.inl ⟨rfl,Z _ _ hz,a,b,Z _ _ O⟩,by rw[X];exact aL _,rfl,λj G=>absurd G (Nat.not_lt_zero _),λj j' c e=>by simp at e,⟨_,S⟩⟩ λh' P H f1 f2 f3 I=>?_⟩
 ·have K:c∈[z,TI,TO,i1,i2,l1,l2]\/c=s.heap.objs.size:=by
   simp only[aU,aO,dw,or_false]at V ⊢
   rcases V with h|h|h|h|h|h|h|h<;>simp[h]
  rcases K with h|h
  ·exact gJ (lt c h)
  ·rw[h];exact fJ _
 ·obtain⟨o,L,r⟩:=J
  exact⟨o,Z _ _ L,r⟩
 ·obtain⟨o,L,r⟩:=B
  exact⟨o,Z _ _ L,r⟩
 ·obtain⟨c,I⟩:=I
  refine⟨rfl,hQ h' P c (λd o hd e=>H d o (λq=>?_) (Z d o e)) f1 f2 f3 I⟩
  simp only[aU,aO,dw,or_false]at q hd
  rcases q with q|q|q|q|q
  ·exact hd (.inl q)
  ·exact hd (.inr (.inl q))
  ·exact hd (.inr (.inr (.inl q)))
  ·exact hd (.inr (.inr (.inr q)))
  ·exact old d o e q
end
end XK
namespace XK
open PySem PySem.Spec PyProof.Rows L2 My D3
theorem Od{σ:L2.St}(I:L2.Inv X pins σ H s)(k:∀b u,s.heap.get? b=some u->h'.get? b=some u)(B:∀b,b<s.heap.objs.size->H' b=H b)(hok:HOk X.prog X.w H' h'):
 L2.Inv X pins σ H' {s with heap:=h',toks:=t'}:=I.un {
 keep:=λb u q _ _ _=>k b u q
 slot:=λb u q _ _ _=>⟨u.slots,k b u q⟩
 free:=λb u q n _=>by rw[B b (Heap.lt_size q)];exact n
 there:=λb u q _=>⟨u,k b u q⟩
 tups:=λb xs q=>by rw[B b (I.hok.lt q)];exact q
 frzs:=λb u xs q=>by rw[B b (I.hok.lt q)];exact q
 tbls:=λb q p e=>by rw[B b (I.hok.lt e)];exact e} hok
section
variable{X:Cx}{fl:List Fl}{a b:Expr}{f g:FE}{p p2 pos pos2:Pos}
end
end XK
namespace XK
open PySem PyProof.Rows
section
variable{prog:Program}{w:World}{A:Around}{R:Result->Shared->Prop}{I:Addr}{fp wr:List Addr}{n:Nat}{P:Nat->Value->Prop}{St:Nat->Heap->Prop}{kw:List (Str×Value)}
end
section
variable{prog:Program}{w:World}{A:Around}{E:Value->Shared->Prop}{s:Shared}
end
end XK
namespace XK
open PySem PySem.Spec PyProof.Rows L2 My D3
section
variable{X:Cx}{fl:List Fl}{e z:Expr}{fa:FA}{fz:FE}{p pos kpos:Pos}
variable{a:Expr}{f:FE}{ta:TE}
end
end XK
namespace XK
open PySem PySem.Spec PyProof.Rows L2 My D3
section
variable{K:PySem.W.Frag}{H:Hp}
end
section
variable{X:Cx}{fl:List Fl}{e k1 k2:Expr}{f f1 f2:FE}{pos:Pos}
end
end XK
namespace XK
open PySem PySem.Spec PyProof.Rows L2 My D3
section
variable{X:Cx}
end
end XK
namespace XT
open PySem PySem.Spec PyProof.Rows L2 My D3 XK
noncomputable def dtI(S:List (List Int)):List (List Key×V):=S.map λk=>(k.map .inl,.bl true)
theorem Fy:∀{l:List D}{k:List Int},dU l=some k->tkK l=some (k.map .inl)
 |[],k,h=>by cases h;rfl
 |d::l,k,h=>by
  cases d with
  |int i=>
   unfold dU at h
   cases e:dU l with
   |none=>rw[e]at h;cases h
   |some r=>
    rw[e]at h
    cases h
    rw[tkK,Fy e]
    rfl
  |_=>unfold dU at h;cases h
theorem Oe:∀{kvs:List (D×D)}{S:List (List Int)},tsD kvs=some S->tkD kvs=some (dtI S)
 |[],S,h=>by cases h;rfl
 | (a,b)::r,S,h=>by
  unfold tsD at h
  split at h
  ·next e=>cases e
  ·next l r' e=>
   cases e
   obtain⟨k,X,Z⟩:=bind1 h
   cases Y:tsD r with
   |none=>rw[Y]at Z;cases Z
   |some W=>
    rw[Y]at Z
    cases Z
    rw[tkD,Fy X,Oe Y]
    rfl
  ·cases h
theorem HS{S:List (List Int)}(h:tsD kvs=some S)(B:S≠[]):kvs≠[]:=λz=>by
 subst z
 cases h
 exact B rfl
theorem yS:∀{kvs:List (D×D)}{S:List (List Int)},tsD kvs=some S->Hq kvs=true
 |[],_,_=>rfl
 | (a,b)::r,S,h=>by
  unfold tsD at h
  split at h
  ·next e=>cases e
  ·next e=>
   cases e
   cases Z:tsD r with
   |none=>simp[Z]at h
   |some S=>exact(show Hq r=true from yS Z)
  ·cases h
theorem CT{S:List (List Int)}(h:tsD kvs=some S)(B:S≠[]):dh0 kvs = .dT (dtI S):=by
 have:=HS h B
 cases kvs with
 |nil=>exact absurd rfl this
 |cons q r=>
  unfold dh0
  dsimp only
  rw[Oe h]
theorem yU{ok:Ok}:∀{xs:List V}{l:List D}{k:List Int},RAs K ok pl H xs l->dU l=some k->xs=(k.map Sum.inl).map kV
 |_,_,k,.nil,h=>by cases h;rfl
 |_,_,k,.cons (d:=d) a q,h=>by
  cases d with
  |int i=>
   unfold dU at h
   cases e:dU _ with
   |none=>rw[e]at h;cases h
   |some r=>
    rw[e]at h
    cases h
    rw[a.intE,yU q e]
    rfl
  |_=>unfold dU at h;cases h
theorem xP{ok:Ok}{y:D}{k:List Int}(e:CK y=some k)(r:RA K ok pl H v y):∃b,v = .ref b/\H b=some (.tup ((k.map Sum.inl).map kV)):=by
 cases y with
 |tuple l=>
  obtain⟨b,xs,rfl,h1,h2⟩:=r.tupE0
  rw[<-yU h2 e]
  exact⟨b,rfl,h1⟩
 |_=>cases e
theorem S7{ok:Ok}{x:D}{S:List (List Int)}(e:N5 x=some S)(B:S≠[])(r:RA K ok pl H v x):∃a,v = .ref a/\L2.Rd H a (.dT (dtI S)):=by
 cases x with
 |dict kvs=>
  obtain⟨a,rfl,h⟩:=r.dicE (yS e)
  rw[CT e B]at h
  exact⟨a,rfl,h⟩
 |_=>cases e
theorem CV:∀{k B:List Int},k.map (Sum.inl:Int->Key)=B.map Sum.inl->k=B
 |[],[],_=>rfl
 |[],_::_,h=>by cases h
 |_::_,[],h=>by cases h
 |a::k,b::B,h=>by
  rw[aQ,aQ]at h
  injection h with h1 h2
  injection h1 with h1
  rw[h1,CV h2]
theorem W6(S:List (List Int))(k:List Int):putK (dtI S) (k.map Sum.inl) (.bl true)=dtI (mL S k):=by
 unfold putK mL dtI
 have e:((S.map λk=>((k.map Sum.inl,V.bl true):List Key×V)).any λq=>decide (q.1=k.map Sum.inl))=decide (k∈S):=by
  induction S with
  |nil=>rfl
  |cons q S Z=>
   rw[aQ,mR,Z]
   by_cases h:q=k
   ·subst h;simp
   ·have h2:¬k=q:=λz=>h z.symm
    have Y:¬q.map (Sum.inl:Int->Key)=k.map Sum.inl:=λz=>h (CV z)
    simp[h2,Y]
 rw[e]
 by_cases h:k∈S
 ·rw[dTr h,if_pos rfl,if_pos h,dF]
  refine eO λq _=>?_
  show(if q.map Sum.inl=k.map Sum.inl then(q.map Sum.inl,V.bl true)else(q.map Sum.inl,V.bl true))=_
  split<;>rfl
 ·rw[dFa h,if_neg aW,if_neg h,dj]
  rfl
section
variable{K:PySem.W.Frag}{fl:List Fl}
theorem Og{σ:L2.St}{x:D}{S:List (List Int)}(R:Rel K fl G ow σ H δ)(O:fl[i]? = some .N)(hx:ao i δ=some x)(B:N5 x=some S)(hS:S≠[]):
 ∃a,σ[i]? = some (some (.ref a))/\H a=some (.dT (dtI S))/\∀H',Same H H'->∀J,J≠[]->∃W,Rel K fl G W σ (upd H' a (.dT (dtI J))) (δ.set i (some (.d (dsT J)))):=by
 have e:=mV hx
 have hi:i<δ.length:=by
  rcases gj i δ.length with z|z
  ·exact z
  ·rw[bH z]at e;cases e
 obtain⟨v,h1,h2,T⟩:=R.nr i x (by rw[O];rfl) e
 generalize X:ow.n i=as at h2 T
 cases h2 with
 |dic ha V=>
  rename_i a u kvs
  rw[V.old (yS B)]at ha
  have Z:=ha
  rw[CT B hS]at Z
  refine⟨a,h1,Z,λH' s J Y=>?_⟩
  refine(R.grow s).mutN (as:=[a]) O hi (by rw[X];exact gM _) (s _ _ ha) h1 ?_ (λb U=>by rw[X];exact U) (dJ.mpr ⟨dw,.nil⟩)
  refine .dic cQ (.inl ⟨yS (yP J),?_⟩)
  rw[CT (yP J) Y]
 |non=>cases B
 |bl _=>cases B
 |int _=>cases B
 |str _=>cases B
 |lst _ _=>cases B
 |tup _ _=>cases B
end
noncomputable def Vd:V->V->V->Hp->(Hp->Prop)->Prop:=λo i v H Q=>∃p kvs k b,o = .ref p/\i = .ref b/\H p=some (.dT kvs)/\H b=some (.tup (ou kV k))/\kvs.length<sizeLine/\Q (upd H p (.dT (putK kvs k v)))
section
variable{X:Cx}{fl:List Fl}{e a b c ke:Expr}{f fa fb fc fk:FE}{pos:Pos}
theorem Oh(B:X.A.units+1<cLine):Ri X Vd:=by
 intro pins s σ H o i v R P u Q I Y W Z h
 obtain⟨p,kvs,k,b,rfl,rfl,V,T,U,q⟩:=h
 cases Y
 exact Bc B I (HJ.t V T U) W Z λs' S=>⟨_,S,q⟩
end
end XT
namespace XT
open PySem PySem.Spec PyProof.Rows L2 My D3 XK
end XT
namespace XV
open PySem PySem.Spec PyProof.Rows L2 My D3
section
variable{K:PySem.W.Frag}{fl:List Fl}
end
end XV
namespace XB
open PySem PySem.Spec PyProof.Rows L2 My D3 XK
section
variable{K:PySem.W.Frag}{fl:List Fl}
end
section
variable{X:Cx}{fl:List Fl}{e a b c ke:Expr}{f fa fb fc fk:FE}{pos:Pos}
end
end XB
namespace XB
open PySem PySem.Spec PyProof.Rows L2 My D3 XK
section
variable{X:Cx}{fl:List Fl}{e:Expr}{pos:Pos}
theorem CW(hc:X.calm=true):lZ X (.builtin "sorted") (λxs H Q=>∃(p:Addr)(ks:List (Key×V))(is:List Int),xs=[.ref p]/\L2.Rd H p (.dK ks)/\ks.map (·.1)=is.map Sum.inl/\is.length<64/\∀l,H l=none->Q (.ref l) (upd H l (.lst ((zZ is).map V.int)))):=by
 intro pins s σ H xs us Q I r h
 obtain⟨p,ks,is,rfl,D,z,Z,q⟩:=h
 obtain⟨u,rfl,G⟩:=vals1 r
 cases G
 obtain⟨_,hd,vs,rel,g⟩:=Ba I.hok D
 obtain⟨ep,M⟩:=g.dictAt
 have L:vs.map (·.1)=is.map Sum.inl:=by rw[<-rel.keys];exact z
 have hlen:vs.length=is.length:=by
  have:=congrArg oM L
  rwa[au,au]at this
 refine Calls.call_function_entry kind_sorted plain_sorted entry_sorted (args_sorted1 _) ?_
 unfold Builtin.«sorted»
 refine wpAny_bind (m:=checkCount "sorted" 1 1 _) (wpAny_pure ?_)
 refine wpAny_bind (PySem.W.kdu_collect (A:=X.A.in1) (PySem.W.kdl_dict (knd:=iW X.prog X.w) (kvs:=vs) (ep:=ep) hd) (I.ok.hd hc) M (by rw[hlen];exact bF (eF Z) (by decide)) λh' tk acc C Y=>?_)
 have O:acc.toList.length=is.length:=by rw[bD,Y.1,hlen]
 have y:IntsAre acc.toList is:=Jq _ _ O λj v P=>by
  obtain⟨k,x,N,S⟩:=Y.2 j v (by rw[<-cC];exact P)
  have R:(vs.map (·.1))[j]? = some k:=by rw[bf,N];rfl
  rw[L,bf]at R
  cases K:is[j]? with
  |none=>rw[K]at R;cases R
  |some i=>
   rw[K]at R
   have n:k=Sum.inl i:=by
    cases R
    rfl
   subst n
   rw[G8]at S
   obtain⟨t,rfl⟩:∃t,v=Value.int i t:=Value.isInt_shape S
   exact⟨i,t,rfl,rfl⟩
 have J:L2.Inv X pins σ H {s with heap:=h',toks:=tk}:=I.kept C
 refine wpAny_bind (wpAny_newList ?_ (by rw[O];exact bF (eF Z) (by decide)))
 have U:(h'.push (seqObj "list" acc.toList.toArray 0)).get? h'.objs.size=some (seqObj "list" acc.toList.toArray 0):=Heap.get?_push_size _ rfl
 show wpAny _ _ _ _ _ {s with heap:=h'.push (seqObj "list" acc.toList.toArray 0),toks:=tk}
 refine wpAny_bind (wpAny_holding (wpAny_call_entry slot_list_sort ⟨_,U,rfl⟩ entry_list_sort (list_sort_tree U y (by rw[O];exact Z) λout F c d f=>⟨_,rfl,?_⟩) (args_list_sort _)))
 refine wpAny_pure ⟨_,rfl,?_⟩
 obtain rfl:=vW (d.trans (pO _).symm) f (rN _)
 obtain⟨e,B⟩:=sortedHeap_at (out:=out) U
 have hn:H h'.objs.size=none:=J.hok.fresh (aL _)
 have E:(zZ is).length=is.length:=(pO _).length_eq
 have I2:=J.laid (h':=sortedHeap (h'.push (seqObj "list" acc.toList.toArray 0)) h'.objs.size acc.toList out) (t':=tk) (a:=h'.objs.size) (o:=.lst ((zZ is).map V.int)) (λb u e=>by
  have T:=Heap.lt_size e
  rw[sortedHeap_old (bh T) (by rw[size_push'];exact gJ T)]
  exact Heap.get?_push_of_some _ e) (aL _)
  ⟨by rw[au,E];exact bF (eF Z) (by decide),out.toList,e,D3.nZ c,by simpa[seqObj]using B⟩
 exact⟨.ref _,_,I2,rfl,q _ hn⟩
end
end XB
namespace XD
open PySem PySem.Spec PyProof.Rows L2 My D3 XK
section
variable{X:Cx}{fl:List Fl}{e a b c ke ve:Expr}{f fa fb fc fk fv:FE}{pos:Pos}
end
section
variable{K:PySem.W.Frag}{fl:List Fl}
end
section
variable{X:Cx}{pins:List (Addr×Obj)}{σ:L2.St}{H:Hp}{s:Shared}{a:Addr}{kvs:List (Key×V)}{k:Key}{z:V}{u r:Value}{A:Around}{E:Value->Shared->Prop}
end
section
variable{X:Cx}{o e f:Expr}{apos cpos:Pos}{td ty tx:TE}
end
section
variable{X:Cx}{fl:List Fl}{ke ve:Expr}{fk fv:FE}{pos:Pos}
theorem set_same{y:D}(h:δ[i]? = some (some (.d y))):δ.set i (some (.d y))=δ:=by
 apply eX
 intro j
 rw[oN]
 split
 ·next z=>
  subst z
  split
  ·exact h.symm
  ·next z=>rw[bH (Nat.le_of_not_lt z)]at h;cases h
 ·rfl
end
end XD
namespace TD
open PySem PySem.Spec PyProof.Rows
section
variable{prog:Program}{w:World}{A:Around}{E:Value->Shared->Prop}{s:Shared}{d it:Addr}{es:Array DictEntry}{i ep:Nat}
noncomputable def wY(h:Heap)(d:Addr)(es:Array DictEntry)(ep:Nat):Prop:=∃o,h.get? d=some o/\o.ExactDict/\o.data = .dict es ep
theorem wY.typ(m:wY s.heap d es ep):s.TypeIs (.ref d) "dict" := let⟨o,h1,h2,_⟩:=m;⟨o,h1,h2.1⟩
theorem wY.kept(m:wY h d es ep)(k:∀o,h.get? d=some o->h'.get? d=some o):wY h' d es ep:=let⟨o,h1,r⟩:=m;⟨o,k o h1,r⟩
theorem W7(lo:(d==sysModules)=false)(m:wY s.heap d es ep)(q:Q (.ref s.heap.objs.size) {s with heap:=s.heap.push {cls:=.type "dict_keyiterator", data:=.fields #[.ref d,.int 0 0,.int es.size 0,.int ep 0]} }):
 wpAny (model prog w) A (pyIter (.ref d)) Q E s:=by
 obtain⟨o,h1,h2,Z⟩:=id m
 refine wpAny_pyIter_slot m.typ F.slot_dict_iter (wpAny_call_entry F.slot_dict_iter m.typ F.entry_dict_iter ?_ (F.args_dict_iter_1 _))
 unfold Builtin.«dict.__iter__» Builtin.Dict.dictSlotNone
 refine wpAny_bind (wpAny_bind (wpAny_notOrdered_dict m.typ (wpAny_pure (a:=Value.ref d) ?_)))
 show wpAny _ _ (Builtin.Dict.showsAll d >>= _) _ _ s
 unfold Builtin.Dict.showsAll
 rw[if_neg (by rw[lo];exact aW)]
 refine wpAny_bind (wpAny_pure (wpAny_bind (wpAny_dictEntries h1 Z (wpAny_bind (wpAny_dictEpoch h1 Z (wpAny_bind (wpAny_newObj_type (wpAny_pure ⟨_,rfl, "dict_keyiterator", _,⟨_,Heap.get?_push_size _ rfl,rfl⟩,F.slot_dict_keyiterator_next.lookup,?_⟩))))))))
 simpa[rawInt]using q
theorem W8{Q:Option Value->Shared->Prop}{e:DictEntry}(g:s.heap.IsKeyIter it d i es.size ep)(m:wY s.heap d es ep)(B:es[i]? = some e)
 (q:∀h',h'.IsKeyIter it d (i+1) es.size ep->Heap.SameBut it s.heap h'->Q (some e.key) {s with heap:=h'}):wpAny (model prog w) A (pyNext (.ref it)) Q E s:=by
 obtain⟨o,Z,X,hd⟩:=id g
 obtain⟨od,h1,h2,Y⟩:=id m
 have ty:=g.typeIs
 unfold pyNext
 refine wpAny_bind (wpAny_attempt (wpAny_callSpecial?_slot (name:=Str.ofString "__next__") ty F.slot_dict_keyiterator_next (wpAny_call_entry F.slot_dict_keyiterator_next ty F.entry_dict_keyiterator_next ?_ (F.args_dict_keyiterator_next_1 _))))
 refine wpAny_bind (wpAny_pure (wpAny_bind (wpAny_bind ?_)))
 first|refine wpAny_bind (wpAny_typeNameOfWhole_keyiter ty (wpAny_pure (wpAny_bind (wpAny_fieldsOf Z hd ?_))))|refine wpAny_bind (wpAny_typeNameOf_keyiter ty (wpAny_pure (wpAny_bind (wpAny_fieldsOf Z hd ?_))))
 simp only[show Builtin.Dict_items.ownsTuple "dict_keyiterator"=false by decide,gb,if_false]
 show wpAny _ _ (if(Value.ref d==Value.none)=true then _ else _) _ _ s
 rw[if_neg (show ¬((Value.ref d==Value.none)=true)from aW)]
 refine wpAny_bind (wpAny_pure (wpAny_bind (wpAny_dictEntries h1 Y ?_)))
 rw[if_neg (by simp)]
 refine wpAny_bind (wpAny_pure (wpAny_bind (wpAny_dictEpoch h1 Y ?_)))
 rw[if_neg (by simp)]
 refine wpAny_pure ?_
 simp only[show ¬((i:Int)<0)from by omega,if_false,fO,B]
 refine wpAny_bind ?_
 first|refine wpAny_bind (wpAny_typeNameOfWhole_keyiter ty (wpAny_pure (wpAny_bind (wpAny_isOneOf_keyiter ty ?_))))|refine wpAny_bind (wpAny_typeNameOf_keyiter ty (wpAny_pure (wpAny_bind (wpAny_isOneOf_keyiter ty ?_))))
 show wpAny _ _ (setField (.ref it) 1 (rawInt ((i:Int)+1)) >>= _) _ _ s
 refine wpAny_bind (wpAny_setField Z hd (by simp) ?_)
 have g':(s.heap.update it (Obj.mapFields (·.setIfInBounds 1 (rawInt ((i:Int)+1))))).IsKeyIter it d (i+1) es.size ep:=
  ⟨_,Heap.get?_update_self _ Z (Obj.isFreed_of_fields (Obj.data_mapFields hd _)),(Obj.cls_mapFields ..).trans X,by rw[Obj.data_mapFields hd];simp[rawInt]⟩
 refine wpAny_bind (wpAny_holding (wpAny_bind (wpAny_isOneOf_keyiter (s:={s with heap:=s.heap.update it (Obj.mapFields (·.setIfInBounds 1 (rawInt ((i:Int)+1))))}) g'.typeIs ?_)))
 show wpAny _ _ (pure e.key) _ _ _
 exact wpAny_pure (wpAny_pure ⟨_,rfl,wpAny_pure (q _ g' (Heap.SameBut.update ..))⟩)
theorem W9{Q:Option Value->Shared->Prop}(D:A.handled=none)(g:s.heap.IsKeyIter it d i es.size ep)(m:wY s.heap d es ep)(B:es[i]? = none)
 (q:∀h',Heap.ExtBut it s.heap h'->Q none {s with heap:=h'}):wpAny (model prog w) A (pyNext (.ref it)) Q E s:=by
 obtain⟨o,Z,X,hd⟩:=id g
 obtain⟨od,h1,h2,Y⟩:=id m
 have ty:=g.typeIs
 unfold pyNext
 refine wpAny_bind (wpAny_attempt (wpAny_callSpecial?_slot (name:=Str.ofString "__next__") ty F.slot_dict_keyiterator_next (wpAny_call_entry F.slot_dict_keyiterator_next ty F.entry_dict_keyiterator_next ?_ (F.args_dict_keyiterator_next_1 _))))
 refine wpAny_bind (wpAny_pure (wpAny_bind (wpAny_bind ?_)))
 first|refine wpAny_bind (wpAny_typeNameOfWhole_keyiter ty (wpAny_pure (wpAny_bind (wpAny_fieldsOf Z hd ?_))))|refine wpAny_bind (wpAny_typeNameOf_keyiter ty (wpAny_pure (wpAny_bind (wpAny_fieldsOf Z hd ?_))))
 simp only[show Builtin.Dict_items.ownsTuple "dict_keyiterator"=false by decide,gb,if_false]
 show wpAny _ _ (if(Value.ref d==Value.none)=true then _ else _) _ _ s
 rw[if_neg (show ¬((Value.ref d==Value.none)=true)from aW)]
 refine wpAny_bind (wpAny_pure (wpAny_bind (wpAny_dictEntries h1 Y ?_)))
 rw[if_neg (by simp)]
 refine wpAny_bind (wpAny_pure (wpAny_bind (wpAny_dictEpoch h1 Y ?_)))
 rw[if_neg (by simp)]
 refine wpAny_pure ?_
 simp only[show ¬((i:Int)<0)from by omega,if_false,fO,B]
 refine wpAny_bind ?_
 first|refine wpAny_bind (wpAny_typeNameOfWhole_keyiter ty (wpAny_pure ?_))|refine wpAny_bind (wpAny_typeNameOf_keyiter ty (wpAny_pure ?_))
 refine wpAny_bind (m:=setField (.ref it) 0 .none) (wpAny_setField Z hd (by simp) ?_)
 refine wpAny_bind (m:=newExc (.type "StopIteration") []) ?_
 simp only[newExc,newTuple]
 refine wpAny_bind (wpAny_newObj_type (wpAny_bind (m:=firstArgMember _ _) (wpAny_of_eq (a:=Value.none) (by first|rfl|(simp only[firstArgMember];rfl)) (wpAny_newObj_type ?_ (by size_fits)))) (by size_fits))
 simp only[raiseNew]
 refine wpAny_bind (wpAny_handled ?_)
 rw[show A.in1.handled=none from D]
 refine wpAny_bind (wpAny_pure (wpAny_throw ?_))
 refine wpAny_bind (wpAny_isInstance (b:=true) ⟨_,Heap.get?_push_size _ rfl,rfl⟩ isSubtype_stop (wpAny_pure ?_))
 exact q _ (((Heap.SameBut.update ..).extBut.push _).push _)
theorem Zm(D:A.handled=none)(I d:Addr)(B:d≠I)(es:Array DictEntry)(ep:Nat):Walks prog w A I [I,d] [I] es.size (λi v=>∃e,es[i]? = some e/\v=e.key) (λi h=>h.IsKeyIter I d i es.size ep/\wY h d es ep) where
 sub:=λb Z=>by simp at Z;simp[Z]
 frame:=λ_ _ _ st X=>⟨st.1.at λo e=>X I (by simp) o e,st.2.kept λo e=>X d (by simp) o e⟩
 item:=λi s Q E hi st Y=>W8 (e:=es[i]) st.1 st.2 (by simp[hi]) λh' g hs=>Y _ h' s.toks ⟨es[i],by simp[hi],rfl⟩ ⟨g,st.2.kept λo e=>hs.extBut d o B e⟩ λb o Z e=>hs.extBut b o (λh=>Z (by simp[h])) e
 done:=λs Q E st Y=>W9 D st.1 st.2 (by simp) λh' W=>Y h' s.toks λb o Z e=>W b o (λh=>Z (by simp[h])) e
 self:=λ_ _ _ _ st Y=>wpAny_pyIter_keyiter st.1 Y
theorem S8(lo:(d==sysModules)=false):W.KdlSrc prog w "dict" d d es.size (λi v=>∃e,es[i]? = some e/\v=e.key) (λh=>wY h d es ep) where
 type:=λ_ m=>m.typ
 there:=λ_ m=>let⟨_,h1,_⟩:=m;⟨Heap.lt_size h1,Heap.lt_size h1⟩
 keep:=λ_ _ m Y=>m.kept λo e=>Y d (.inl rfl) o e
 notList:=by decide
 notTuple:=by decide
 hint:=λ_ _ _ _ m Z=>W.kdl_hint_dict m.typ Z
 iter:=λA s X m=>⟨_,_,(λ_ _ q=>W7 lo m q),Zm X _ d (let⟨_,h1,_⟩:=m;bh (Heap.lt_size h1)) es ep,⟨⟨_,Heap.get?_push_size _ rfl,rfl,rfl⟩,m.kept λo e=>Heap.get?_push_of_some _ e⟩⟩
theorem S9(lo:(d==sysModules)=false)(m:wY s.heap d es ep)(B:(es.size:Int)<2^63)(q:∀t tk,Q (.int es.size t) {s with toks:=tk}):wpAny (model prog w) A (call (.builtin "len") [.ref d]) Q E s:=by
 obtain⟨o,h1,h2,Z⟩:=id m
 refine Calls.call_function_entry kind_len plain_len entry_len (args_len1 _) ?_
 unfold Builtin.«len»
 refine wpAny_bind (m:=oneArg "len" _) (wpAny_pure (wpAny_bind (m:=callSpecial? (.ref d) (Str.ofString "__len__")) (wpAny_callSpecial?_slot (name:=Str.ofString "__len__") m.typ F.slot_dict_len (wpAny_call_entry F.slot_dict_len m.typ F.entry_dict_len ?_ (F.args_dict_len_1 _)))))
 refine wpAny_bind (m:=dictSize d) ?_
 unfold dictSize
 refine wpAny_bind (wpAny_dictEntries h1 Z (wpAny_pure (wpAny_bind (m:=Builtin.Dict.pendingCount d) (wpAny_pendingCount_other lo ?_))))
 refine wpAny_bind (wpAny_mkInt (wpAny_pure ⟨_,rfl,?_⟩))
 rw[lE]
 refine wpAny_bind (wpAny_holding (wpAny_pure (wpAny_bind (wpAny_letGo ?_))))
 show wpAny _ _ (if((es.size:Nat):Int)<0 then _ else _) _ _ _
 rw[if_neg (by omega)]
 show wpAny _ _ (if((es.size:Nat):Int)≥2^63 then _ else _) _ _ _
 rw[if_neg (by omega)]
 exact wpAny_bind (wpAny_mkInt (wpAny_pure ⟨_,rfl,q _ _⟩))
end
section
variable{prog:Program}{w:World}{K:Type}[DecidableEq K]{knd:HeapKind prog w K}{A:Around}{E:Value->Shared->Prop}{s:Shared}{d a:Addr}{xs:List (K×Addr×Value)}{k:K}{v:Value}
theorem Oi(D:knd.room A.in1)(B:knd.is s.heap k a)(lo:(d==sysModules)=false)(m:s.heap.DictOfH knd d xs)(hz:xs.length<=sizeLine)
 (h1:∀p tk,atKey xs k=some p->Q p.2 {s with toks:=tk}) (h2:∀h' tk,atKey xs k=none->h'.DictOfH knd d (xs++[(k,a,v)])->Heap.SameBut d s.heap h'->Q v {s with heap:=h',toks:=tk}) :
 wpAny (model prog w) A (call (.builtin "dict.setdefault") [.ref d,.ref a,v]) Q E s:=by
 have ty:=m.typeIs
 obtain⟨o,es,ep,Y,P,hd,U,V,hn⟩:=m
 refine wpAny_call_entry F.slot_dict_setdefault ty F.entry_dict_setdefault ?_ (F.args_dict_setdefault_3 _ _ _)
 unfold Builtin.«dict.setdefault» Builtin.Dict.keyAndDefault
 refine wpAny_bind (wpAny_bind (wpAny_notOrdered_dict ty (wpAny_pure (a:=(d,Value.ref a,some v)) ?_)))
 show wpAny _ _ (if(d==sysModules)=true then _ else(dictSetDefault d (.ref a) v >>= _)) _ _ s
 rw[if_neg (by rw[lo];exact aW)]
 refine wpAny_bind ?_
 unfold dictSetDefault
 try with_reducible refine wpAny_holding ?_
 refine wpAny_bind (knd.pyHash D B (wpAny_bind (wpAny_dictFind_heap (s:={s with toks:=s.toks+knd.draws k}) D B Y hd U V hn (λW=>?_) λj p T=>?_)))
 ·have S:=atKey_none_of_get W
  have X:=not_mem_keys_of_get W
  refine wpAny_bind (wpAny_rule (wpAny_bind (wpAny_updateDictKeys (hz:=by have e:=size_of_entries U;omega) (s:={s with toks:=s.toks+knd.draws k}) Y hd (wpAny_pure (wpAny_pure ⟨_,rfl,h2 _ _ S ⟨_,_,ep+1,Heap.get?_update_self _ Y (Obj.isFreed_of_dict (Obj.data_mapDictKeys hd _)),P.mapDictKeys _,Obj.data_mapDictKeys hd _,?_,?_,?_⟩ (Heap.SameBut.update ..)⟩)))))
  ·simp[U,entryOfKey]
  ·intro x Z
   rcases cD.mp Z with Z|Z
   ·exact knd.keeps (V x Z) Y hd (.update ..)
   ·rw[aO.mp Z]
    exact knd.keeps B Y hd (.update ..)
  ·rw[dj,oO]
   exact⟨hn,by simp,λx Z y R=>by
    rw[show y=k by simpa using R]
    exact λe=>X (e▸Z)⟩
 ·refine wpAny_bind (wpAny_dictEntries (s:={s with toks:=s.toks+knd.draws k}) Y hd ?_)
  rw[entry_at U j,T]
  exact wpAny_bind (wpAny_rule (wpAny_pure (wpAny_pure ⟨_,rfl,h1 p _ (atKey_of_get hn T)⟩)))
end
end TD
variable{S:List D3.Tte}
namespace XJ
open PySem PySem.Spec PyProof.Rows L2 My D3 XK XT XD
theorem Fz:∀k:List Int,flats (k.map PyData.int)=true
 |[]=>rfl
 |i::k=>by rw[aQ,flats,Fz k];rfl
theorem S_(q:List Int×Int):flat (ttV q)=true:=by
 show(flats (q.1.map PyData.int)&&true)=true
 rw[Fz]
 rfl
theorem tw_ra{ok:Ok}{q:List Int×Int}(t:TW H v q.1 q.2):RA K ok pl H v (ttV q):=by
 obtain⟨b,c,rfl,h1,h2⟩:=t
 exact .tup h1 (.cons (.tup h2 (qH _)) (.cons (.int _) .nil))
theorem Tc(k:List Int):ou kV (k.map Sum.inl)=k.map V.int:=by
 rw[dF]
 rfl
theorem Jr{ok:Ok}:∀{xs:List V}{k:List Int},RAs K ok pl H xs (k.map PyData.int)->xs=k.map V.int
 |_,[],.nil=>rfl
 |_,i::k,.cons a q=>by rw[a.intE,Jr q];rfl
theorem Zn{ok:Ok}{q:List Int×Int}(r:RA K ok pl H v (ttV q)):TW H v q.1 q.2:=by
 obtain⟨b,xs,rfl,h1,h2⟩:=r.tupE0
 cases h2 with
 |cons W Z=>
 cases Z with
 |cons Z X=>
 cases X
 obtain⟨c,ys,rfl,Y,V⟩:=W.tupE0
 rw[Jr V]at Y
 obtain rfl:=Z.intE
 exact⟨b,c,rfl,h1,Y⟩
theorem Ve(g:DH H u (ttP S)):(S=[]/\u = .dK [])\/∃q ks,u = .dT (q::ks)/\TTs H (q::ks) (ttP S):=by
 rcases g with⟨Y,Z⟩|⟨ks,rfl,g⟩|g
 ·cases S with
  |nil=>exact .inl ⟨rfl,Z⟩
  |cons q S=>exact absurd Y aW
 ·cases S with
  |nil=>cases g;exact .inl ⟨rfl,rfl⟩
  |cons q S=>cases g
 ·exact .inr g
theorem Js{ok:Ok}{x:D}(e:KD x=some S)(r:RA K ok pl H v x):∃a,v = .ref a/\((S=[]/\L2.Rd H a (.dK []))\/∃q ks,L2.Rd H a (.dT (q::ks))/\TTs H (q::ks) (ttP S)):=by
 obtain rfl:=CP e
 obtain⟨a,u,rfl,h2,g⟩:=RA.dicU (kvs:=ttP S) r
 rcases Ve g with⟨h,rfl⟩|⟨q,ks,rfl,t⟩
 ·exact⟨a,rfl,.inl ⟨h,h2⟩⟩
 ·exact⟨a,rfl,.inr ⟨q,ks,h2,t⟩⟩
theorem CZ:∀{S:List Tte}{ks:List (List Key×V)}(k:List Int),TTs H ks (ttP S)->(pA S k=none/\pR ks (k.map Sum.inl)=none)\/∃p v,pA S k=some p/\pR ks (k.map Sum.inl)=some v/\TW H v p.1 p.2
 |[],_,k,h=>by cases h;exact .inl ⟨rfl,rfl⟩
 |q::S,ks,k,h=>by
  obtain⟨v,r,rfl,t,Y⟩:∃v r,ks=(q.1.map Sum.inl,v)::r/\TW H v q.2.1 q.2.2/\TTs H r (ttP S):=by
   generalize Z:ttP (q::S)=g at h
   cases h with
   |nil=>cases Z
   |cons t r=>
    rename_i W m z v X Q
    have Z:(rwD q.1,ttV q.2)::ttP S=_:=Z
    injection Z with h1 h2
    injection h1 with h1 U
    have R:q.1=W:=by
     have:=congrArg (λd=>CK d) h1
     simpa[rwD,CK,o8]using this
    have T:q.2=(m,z):=by
     have:=congrArg (λd=>KH d) U
     have this:q.2.1=m/\q.2.2=z:=by simpa[ttV,rwD,KH,o8]using this
     exact Prod.ext this.1 this.2
    subst R
    rw[T]
    exact⟨v,X,rfl,t,h2▸r⟩
  by_cases e:q.1=k
  ·refine .inr ⟨q.2,v,?_,u9 (by rw[e]),t⟩
   simp[pA,e]
  ·rw[u_ (λz=>e (CV z))]
   have:pA (q::S) k=pA S k:=by simp[pA,e]
   rw[this]
   exact CZ k Y
theorem Oj{p:List Int×Int}{k:List Int}(t:TW H v p.1 p.2):∀{S:List Tte}{ks:List (List Key×V)},TTs H ks (ttP S)->TTs H (ks++[(k.map Sum.inl,v)]) (ttP (S++[(k,p)])):=by
 intro S ks h
 rw[show ttP (S++[(k,p)])=ttP S++[(rwD k,ttV p)]by unfold ttP;rw[dj];rfl]
 generalize ttP S=g at h ⊢
 induction h with
 |nil=>exact .cons t .nil
 |cons t' _ Z=>exact .cons t' Z
theorem Td{ks:List (List Key×V)}(h:TTs H ks (ttP S)):ks.length=S.length:=by
 have:ks.length=(ttP S).length:=by
  generalize ttP S=g at h ⊢
  induction h with
  |nil=>rfl
  |cons _ _ Z=>rw[bB,bB,Z]
 rw[this,ttP,au]
section
variable{X:Cx}{fl:List Fl}{e a b:Expr}{fa fb fk fv:FE}{pos:Pos}
theorem FJ(B:X.A.units+1<cLine)(ha:DE X fl .P a fa)(D:DE X fl .P b fb)(hs:WX b):DE X fl .FC (.Subscript a b pos) (dOp kW fa fb):=PE.imp (SX B ha D hs) λσ H Q h=>by
 obtain⟨G,ow,δ,d,R,O,q⟩:=h
 obtain⟨x,y,F,I,J⟩:=Av O
 refine⟨G,ow,δ,x,R,F,λv H1 s1 T=>⟨G,ow,δ,y,R.grow s1,I,λu H2 s2 U=>?_⟩⟩
 obtain⟨S,K,L⟩:=bind1 J
 obtain⟨k,M,Y⟩:=bind1 L
 obtain⟨E,rfl,V⟩:=xP M U
 obtain⟨p,rfl,W⟩:=Js K T
 cases Z:pA S k with
 |none=>rw[Z]at Y;cases Y
 |some z=>
  rw[Z]at Y
  cases Y
  rcases W with⟨rfl,_⟩|⟨q1,ks,W,t⟩
  ·cases Z
  ·have t:=t.imp λ_ _ z=>jw.same s2 z
   rcases CZ k t with⟨h1,_⟩|⟨C,w,h1,h2,N⟩
   ·rw[h1]at Z;cases Z
   ·rw[h1]at Z
    cases Z
    exact⟨p,w,rfl,.inr ⟨_,_,E,S5 s2 W,rfl,V,h2.symm⟩,q _ H2 (s1.trans s2) (.inl ⟨S_ z,tw_ra N⟩)⟩
end
section
variable{K:PySem.W.Frag}{fl:List Fl}
theorem W_{σ:L2.St}{x:D}(R:Rel K fl G ow σ H δ)(Y:fl[i]? = some .N)(hx:ao i δ=some x)(hq:KD x=some S):
 ∃a,σ[i]? = some (some (.ref a))/\((S=[]/\H a=some (.dK []))\/∃q ks,H a=some (.dT (q::ks))/\TTs H (q::ks) (ttP S))/\∀H',Same H H'->∀J B W,TTs H' (J::B) (ttP W)->∃O,Rel K fl G O σ (upd H' a (.dT (J::B))) (δ.set i (some (.d (dtt W)))):=by
 have e:=mV hx
 have hi:i<δ.length:=by
  rcases gj i δ.length with z|z
  ·exact z
  ·rw[bH z]at e;cases e
 obtain⟨v,h1,h2,U⟩:=R.nr i x (by rw[Y];rfl) e
 generalize X:ow.n i=as at h2 U
 obtain rfl:=CP hq
 have h2:RT K H v (.dict (ttP S)) as:=h2
 cases h2 with
 |dic ha Z=>
  rename_i a u
  have fin:∀H',Same H H'->∀J B W,TTs H' (J::B) (ttP W)->∃O,Rel K fl G O σ (upd H' a (.dT (J::B))) (δ.set i (some (.d (dtt W)))):=λH' s J B W t'=>by
   have:=Z.chg
   refine(R.grow s).mutN (as:=[a]) Y hi (by rw[X];exact gM _) (s _ _ ha) h1 ?_ (λb V=>by rw[X];exact V) (dJ.mpr ⟨dw,.nil⟩)
   exact .dic cQ (.inr (.inr ⟨J,B,rfl,t'.imp λ_ _ z=>jw.upd (s _ _ ha) z⟩))
  rcases Ve Z with⟨h,rfl⟩|⟨q,ks,rfl,t⟩
  ·exact⟨a,h1,.inl ⟨h,ha⟩,fin⟩
  ·exact⟨a,h1,.inr ⟨q,ks,ha,t⟩,fin⟩
end
section
variable{X:Cx}{pins:List (Addr×Obj)}{σ:L2.St}{H:Hp}{s:Shared}{a b:Addr}{kvs:List (List Key×V)}{k:List Key}{z:V}{u r:Value}{A:Around}{E:Value->Shared->Prop}
theorem Ol(I:L2.Inv X pins σ H s)(e:H a=some (.dK [])):L2.Inv X pins σ (upd H a (.dT [])) s:=by
 obtain⟨_,hd,vs,rel,o,es,ep,h1,h2,W,U,Y,V⟩:=Vb I.hok e
 cases rel
 have Z:es.toList=[]:=by
  have:=Y.length
  exact cB.mp this
 exact xO (h':=s.heap) (t':=s.toks) I (by rw[e];exact True.intro) (.refl a s.heap) ⟨o,h1⟩ ⟨cZ _,hd,[],.nil,o,es,ep,h1,h2,W,Z,List.nodup_nil⟩
theorem Om(O:A.units+1<cLine)(I:L2.Inv X pins σ H s)(e:H a=some (.dT kvs))(hl:kvs.length<sizeLine)(D:H b=some (.tup (ou kV k)))(J:RelV z r)
 (h1:∀v B s',pR kvs k=some v->L2.Inv X pins σ H s'->RelV v B->Q B s') (h2:∀s',pR kvs k=none->L2.Inv X pins σ (upd H a (.dT (kvs++[(k,z)]))) s'->Q r s') :
 wpAny (model X.prog X.w) A (call (.builtin "dict.setdefault") [.ref a,.ref b,r]) Q E s:=by
 obtain⟨T,hd,xs,rel,L⟩:=Vc I.hok e
 have S:xs.length=kvs.length:=(Paired.length rel).symm
 refine TD.Oi (tupleKind_room_in1 O) (CQ I.hok D) hd L (by rw[S];exact T) (λp tk Y=>?_) λh' tk Y W hs=>?_
 ·have q:=rel.val k
  rw[Y]at q
  cases Z:pR kvs k with
  |none=>rw[Z]at q;cases q
  |some v=>
   rw[Z]at q
   exact h1 v _ _ Z (I.tok _) q
 ·have q:=rel.val k
  rw[Y]at q
  have Z:pR kvs k=none:=by
   cases Z:pR kvs k with
   |none=>rfl
   |some v=>rw[Z]at q;cases q
  obtain⟨o,es,ep,V,M,N,P,_,R⟩:=W
  refine h2 _ Z (xO I (by rw[e];exact True.intro) hs ⟨o,V⟩ ⟨by rw[bG];exact hl,hd,_,KT.keeps (Paired.snoc rel ⟨rfl,D,J⟩) λc ys U=>?_,o,es,ep,V,M,N,P,R⟩)
  rw[cG (yg U e (λz=>nomatch z))]
  exact U
end
noncomputable def Zo(td ty tx:TE):TE:=λσ H Q=>td σ H λx H1=>∃a,x = .ref a/\IsD H1 a/\ty σ H1 λy H2=>tx σ H2 λz Z=>∃k b,y = .ref b/\Z b=some (.tup (ou kV k)) /\
 ((Z a=some (.dK [])/\Q z (upd Z a (.dT [(k,z)])))\/∃kvs,Z a=some (.dT kvs)/\kvs.length<sizeLine/\(∀v,pR kvs k=some v->Q v Z)/\(pR kvs k=none->Q z (upd Z a (.dT (kvs++[(k,z)])))))
section
variable{X:Cx}{o e f:Expr}{apos cpos:Pos}{td ty tx:TE}
theorem Te(B:X.A.units+1<cLine)(ho:PE X o td)(he:PE X e ty)(hf:PE X f tx)(m:M2 X o "setdefault" apos e f cpos):PE X (.Call (.Attribute o "setdefault" apos) [e,f] [] cpos) (Zo td ty tx):=by
 intro pins s σ H Q I h
 refine wpAny_Call_method m.base m.few m.line PySem.F.plainAttrs_dict PySem.F.slot_dict_setdefault PySem.F.type_dict_setdefault (thn (ho pins s σ H _ I h) λu s1 ⟨x,H1,O,G,a,ex,d,q1⟩=>?_)
 subst ex
 obtain rfl:u=Value.ref a:=G
 obtain⟨K,L,_⟩:=WY O d
 refine⟨K,L,?_⟩
 rw[m.trees]
 refine Calls.callWith_builtin rfl (Calls.evalArgs_plain (Calls.spliced_cons (thn (he pins s1 σ H1 _ O q1) λD s2 ⟨y,H2,r,J,q2⟩=>
  Calls.spliced_cons (thn (hf pins s2 σ H2 _ r q2) λfv s3 ⟨z,N,P,Y,k,b,t,S,T⟩=>Calls.spliced_nil ?_))))
 subst t
 obtain rfl:D=Value.ref b:=J
 rcases T with⟨W,q⟩|⟨kvs,W,C,T,E⟩
 ·have Z:=Ol P W
  have w:upd N a (.dT []) b=some (.tup (ou kV k)):=by
   rw[cG (yg S W (λz=>nomatch z))]
   exact S
  exact Om B Z cQ (show 0<sizeLine by decide) w Y (λv M V l _ _=>by cases l) λV _ R=>by
   rw[Ir]at R
   exact⟨z,_,R,Y,q⟩
 ·exact Om B P W C S Y (λv M V l Z U=>⟨v,N,Z,U,T v l⟩) λV l Z=>⟨z,_,Z,Y,E l⟩
end
section
variable{X:Cx}{fl:List Fl}{ke ve:Expr}{fk fv:FE}{pos:Pos}
theorem Oo{apos cpos:Pos}(hu:X.A.units+1<cLine)(B:fl[i]? = some .N)(hk:DE X fl .P ke fk)(hw:DE X fl .P ve fv)(hN:X.N[i]? = some x)(hm:M2 X (.Name x vpos) "setdefault" apos ke ve cpos)(hv:Vis X.env.scope x:=by first|exact Or.inl rfl|exact Or.inr (Or.inl rfl)|exact Or.inr (Or.inr rfl))(hd:(x==("__debug__":Str))=false:=by decide)
 (D:(x==("__classdict__":Str))=false:=by decide) (hs:swapsWith (.Call (.Attribute (.Name x vpos) "setdefault" apos) [ke,ve] [] cpos) none pos.line X.env=pure false:=by rfl) :
 DS1 X fl (.Expr (.Call (.Attribute (.Name x vpos) "setdefault" apos) [ke,ve] [] cpos) pos) (rY i fk fv):=PS.imp (BL (Te hu (qe hN hv hd D) hk hw hm) hs) λDn σ H r=>by
 obtain⟨G,ow,δ,o,R,Y,q⟩:=r
 obtain⟨y,E,V⟩:=bind1 Y
 clear Y
 obtain⟨f,g,Y⟩:=bind1 V
 clear V
 obtain⟨zz,j,V⟩:=bind1 Y
 clear Y
 obtain⟨S,F,Y⟩:=bind1 V
 clear V
 obtain⟨k,l,V⟩:=bind1 Y
 clear Y
 obtain⟨U,m,Y⟩:=bind1 V
 clear V
 by_cases L:S.length<1000000
 case neg=>rw[if_neg L]at Y;cases Y
 rw[if_pos L]at Y
 cases Y
 obtain⟨p,h1,h2,I⟩:=W_ R B E F
 have O:IsD H p:=by
  rcases h2 with⟨_,h⟩|⟨_,_,h,_⟩
  ·exact .inl ⟨_,.inl h⟩
  ·exact .inr ⟨_,.inl h⟩
 refine⟨_,h1,p,rfl,O,G,ow,δ,_,R,g,λu H1 s1 s=>⟨G,ow,δ,_,R.grow s1,j,λw H2 s2 J=>?_⟩⟩
 obtain⟨b,rfl,n⟩:=xP l s
 rw[SN m]at J
 have K:TW H2 w U.1 U.2:=Zn J
 have Z:=s1.trans s2
 refine⟨k.map Sum.inl,b,rfl,s2 _ _ n,?_⟩
 rcases h2 with⟨rfl,h⟩|⟨q1,ks,h,t⟩
 ·refine .inl ⟨Z _ _ h,?_⟩
  obtain⟨T,R'⟩:=I H2 Z (k.map Sum.inl,w) [] [(k,U)] (.cons K .nil)
  exact q T σ _ R'
 ·have Q:TTs H2 (q1::ks) (ttP S):=t.imp λ_ _ z=>jw.same Z z
  refine .inr ⟨q1::ks,Z _ _ h,by rw[Td t];exact nQ L (by decide),λv W=>?_,λW=>?_⟩
  ·have M:qJ S k U=S:=by
    unfold qJ
    rcases CZ k Q with⟨_,b⟩|⟨d,C,a,b,_⟩
    ·rw[b]at W;cases W
    ·rw[if_pos (by rw[a];rfl)]
   rw[M]at q
   rw[<-CP F,set_same (mV E)]at q
   exact q ow σ _ (R.grow Z)
  ·have M:qJ S k U=S++[(k,U)]:=by
    unfold qJ
    rcases CZ k Q with⟨a,_⟩|⟨d,C,a,b,_⟩
    ·rw[if_neg (by rw[a];simp)]
    ·rw[b]at W;cases W
   rw[M]at q
   obtain⟨T,R'⟩:=I H2 Z q1 (ks++[(k.map Sum.inl,w)]) (S++[(k,U)]) (by
    have:=Oj (k:=k) K Q
    rw[List.cons_append]at this
    exact this)
   exact q T σ _ R'
end
end XJ
variable{xs:Array Keyed}
namespace Sq
open PySem PyProof.Rows
structure Cq where
 nu:Keyed->Int
 ok:Keyed->Prop
 κ:SortKind
class LtOk (prog:Program) (w:World) (A:Around) (s:Shared) (C:Cq):Prop where
 lt:∀{x y:Keyed}{Q:Bool->Shared->Prop}{E:Value->Shared->Prop},C.ok x->C.ok y->Q (decide (C.nu x<C.nu y)) s->wpAny (model prog w) A (keyLt' C.κ x.1 y.1) Q E s
noncomputable def KC(C:Cq)(xs:Array Keyed)(i:Nat):Int:=match xs[i]? with
 |some p=>C.nu p
 |none=>0
noncomputable def STo(C:Cq)(xs:Array Keyed)(k:Nat):Prop:=∀i j,i<=j->j<k->KC C xs i<=KC C xs j
noncomputable def Oks(C:Cq)(xs:Array Keyed):Prop:=∀p,p∈xs.toList->C.ok p
section
variable{C:Cq}
theorem K_congr{ys:Array Keyed}(h:xs[i]? = ys[j]?):KC C xs i=KC C ys j:=by unfold KC;rw[h]
theorem K_bubble{B d:Nat}(hs:B<xs.size)(hd:d<=B)(k:Nat):
 KC C (bubble xs B d) k=if k=B-d then KC C xs B else if B-d<k/\k<=B then KC C xs (k-1)else KC C xs k:=by
 have e:=getElem?_bubble hs d hd k
 split at e
 ·next z=>rw[if_pos z];exact K_congr e
 ·next z=>
  rw[if_neg z]
  split at e
  ·next y=>rw[if_pos y];exact K_congr e
  ·next y=>rw[if_neg y];exact K_congr e
theorem K_mirror(B:j<=xs.size)(k:Nat):
 KC C (mirror xs i j ((j-i)/2)) k=if i<=k/\k<j then KC C xs (i+j-1-k)else KC C xs k:=by
 have e:=getElem?_mirror_all (i:=i) B k
 split at e
 ·next z=>rw[if_pos z];exact K_congr e
 ·next z=>rw[if_neg z];exact K_congr e
theorem K_mirror_equal(D:j<=xs.size)(B:∀k,i<=k->k<j->KC C xs k=KC C xs (j-1))(k:Nat):KC C (mirror xs i j ((j-i)/2)) k=KC C xs k:=by
 rw[K_mirror D]
 split
 ·rw[B _ (by omega) (by omega),B k (by omega) (by omega)]
 ·rfl
variable{M:Model}{A:Around}{E:Value->Shared->Prop}{s:Shared}{α:Type}{Q:α->SortSt->Prop}{st:SortSt}{x y:StateT SortSt Sem α}{c:Prop}[Decidable c]
theorem cj(h:c)(k:wpS M A E s x Q st):wpS M A E s (if c then x else y) Q st:=by rw[if_pos h];exact k
theorem cO(h:¬c)(k:wpS M A E s y Q st):wpS M A E s (if c then x else y) Q st:=by rw[if_neg h];exact k
theorem Jt(h:wpS M A E s x Q st/\wpS M A E s y Q st):wpS M A E s (if c then x else y) Q st:=by
 split
 ·exact h.1
 ·exact h.2
theorem both{P:Nat->Prop}(h:∀g,P g)(u v:Nat):P u/\P v:=⟨h u,h v⟩
end
end Sq
variable{st:SortSt}{arr:Array Keyed}
namespace Sq
open PySem PyProof.Rows
section
variable{C:Cq}
noncomputable def vd:Bool->Keyed->Array Keyed->Nat->Nat->Nat->StateT SortSt Sem (Option Nat):=sortPriv% PySem.Builtin.gallop
noncomputable def bey(left:Bool)(B:Keyed)(arr:Array Keyed)(base i:Nat):StateT SortSt Sem (Option Bool):=do
 let x <-elem' arr (base+i)
 if left then lt' x B else return(<-lt' B x).map (!·)
section
variable{prog:Program}{w:World}{A:Around}{E:Value->Shared->Prop}{s:Shared}{C:Cq}[LtOk prog w A s C]
theorem yV{x y:Keyed}{Q:Option Bool->SortSt->Prop}(J:kindOf st=C.κ)(D:C.ok x)(B:C.ok y)(h:Q (some (decide (C.nu x<C.nu y))) st):wpS (model prog w) A E s (lt' x y) Q st:=by
 rw[lt'_eq]
 refine wpS_bind (wpS_get ?_)
 rw[J]
 exact wpS_bind (wpS_lift (wpAny_attempt (LtOk.lt D B ⟨rfl,wpS_pure h⟩)))
theorem d_{x:Keyed}{Q:Keyed->SortSt->Prop}(B:arr[i]? = some x)(h:Q x st):wpS (model prog w) A E s (elem' arr i) Q st:=by
 rw[elem'_eq,B]
 exact wpS_pure h
noncomputable def Pb(C:Cq)(left:Bool)(B:Keyed)(arr:Array Keyed)(base i:Nat):Bool:=if left then decide ((KC C) arr (base+i)<C.nu B)else !decide (C.nu B<(KC C) arr (base+i))
theorem vf{left:Bool}{B:Keyed}{base:Nat}{Q:Option Bool->SortSt->Prop}(J:kindOf st=C.κ)(D:C.ok B)(ha:∀p∈arr.toList,C.ok p)(hi:base+i<arr.size)(h:Q (some ((Pb C) left B arr base i)) st):wpS (model prog w) A E s (bey left B arr base i) Q st:=by
 have e:arr[base+i]? = some arr[base+i]:=getElem?_pos arr (base+i) hi
 have Z:C.ok arr[base+i]:=ha _ (by simp)
 have Y:(KC C) arr (base+i)=C.nu arr[base+i]:=by unfold KC;rw[e]
 unfold bey
 refine wpS_bind (d_ e ?_)
 unfold Pb at h
 rw[Y]at h
 cases left with
 |true=>exact yV J Z D h
 |false=>exact wpS_bind (yV J D Z (wpS_pure h))
theorem mO{left:Bool}{B:Keyed}{base hint:Nat}{Q:Option Nat->SortSt->Prop}(J:kindOf st=C.κ)(D:C.ok B)(ha:∀p∈arr.toList,C.ok p)(hb:base+n<=arr.size)(hh:hint<n)
 (mono:∀i j,i<=j->j<n->(Pb C) left B arr base j=true->(Pb C) left B arr base i=true)
 (h:∀k,k<=n->(∀i,i<k->(Pb C) left B arr base i=true)->(∀i,k<=i->i<n->(Pb C) left B arr base i=false)->Q (some k) st) :
 wpS (model prog w) A E s (vd left B arr base n hint) Q st:=by
 have U:∀i j,i<=j->j<n->(Pb C) left B arr base i=false->(Pb C) left B arr base j=false:=λi j h1 h2 P=>by
  cases e:(Pb C) left B arr base j with
  |false=>rfl
  |true=>rw[mono i j h1 h2 e]at P;cases P
 refine wpS_bind (m:=bey left B arr base hint) (vf J D ha (by omega) ?_)
 dsimp only
 cases e:(Pb C) left B arr base hint with
 |true=>
  refine cj rfl ?_
  refine wpS_bind (wpS_mono (wpS_forRange (I:=λx c st'=>st'=st/\∃Y o,c=(none,Y,o)/\Y<o/\x+1<=o/\hint+Y<n/\(Pb C) left B arr base (hint+Y)=true)
   (Q:=λc st'=>st'=st/\∃Y o,c=(none,Y,o)/\Y<o/\hint+Y<n/\(Pb C) left B arr base (hint+Y)=true/\(o≥n-hint\/(hint+o<n/\(Pb C) left B arr base (hint+o)=false))) ?step ?fin ⟨rfl,0,1,rfl,by omega,by omega,by omega,e⟩) ?post)
  case fin=>
   rintro c st' ⟨rfl,Y,o,rfl,T,R,V,W⟩
   exact⟨rfl,Y,o,rfl,T,V,W,.inl (by omega)⟩
  case step=>
   rintro x c st' _ K ⟨rfl,Y,o,rfl,T,R,V,W⟩
   dsimp only
   by_cases X:o≥n-hint
   ·refine cj X ?_
    exact wpS_pure ⟨rfl,Y,o,rfl,T,V,W,.inl X⟩
   ·refine cO X ?_
    refine wpS_bind (vf J D ha (by omega) ?_)
    dsimp only
    cases L:(Pb C) left B arr base (hint+o)with
    |true=>
     refine cO (by decide) ?_
     exact wpS_pure ⟨rfl,o,2*o+1,rfl,by omega,by omega,by omega,L⟩
    |false=>
     refine cj (by decide) ?_
     exact wpS_pure ⟨rfl,Y,o,rfl,T,V,W,.inr ⟨by omega,L⟩⟩
  case post=>
   rintro c st' ⟨rfl,Y,o,rfl,T,V,W,S⟩
   have h1:hint+Y+1<=hint+min o (n-hint):=by omega
   have h2:hint+min o (n-hint)<=n:=by omega
   have P:∀i,i<hint+Y+1->(Pb C) left B arr base i=true:=λi hi=>mono i _ (by omega) V W
   have M:∀i,hint+min o (n-hint)<=i->i<n->(Pb C) left B arr base i=false:=λi i1 i2=>by
    rcases S with S|⟨S,G⟩
    ·omega
    ·exact U _ i (by omega) i2 G
   dsimp only
   generalize hint+Y+1=O at h1 P ⊢
   generalize hint+min o (n-hint)=N at h1 h2 M ⊢
   refine wpS_bind (wpS_mono (wpS_forRange (I:=λx c Z=>Z=st'/\∃hi lo,c=(none,lo,hi)/\lo<=hi/\hi<=n/\hi-lo<=n-x/\(∀i,i<lo->(Pb C) left B arr base i=true)/\(∀i,hi<=i->i<n->(Pb C) left B arr base i=false))
    (Q:=λc Z=>Z=st'/\∃hi lo,c=(none,lo,hi)/\hi<=n/\(∀i,i<hi->(Pb C) left B arr base i=true)/\(∀i,hi<=i->i<n->(Pb C) left B arr base i=false)) ?sT ?fT ⟨rfl,N,O,rfl,h1,h2,by omega,P,M⟩) ?pT)
   case fT=>
    rintro c Z ⟨rfl,hi,lo,rfl,T,R,V,W,S⟩
    have:lo=hi:=by omega
    subst this
    exact⟨rfl,lo,lo,rfl,R,W,S⟩
   case sT=>
    rintro x c Z _ K ⟨rfl,hi,lo,rfl,T,R,V,W,S⟩
    dsimp only
    by_cases X:lo≥hi
    ·refine cj X ?_
     have:lo=hi:=by omega
     subst this
     exact wpS_pure ⟨rfl,lo,lo,rfl,R,W,S⟩
    ·refine cO X ?_
     have hm:lo+(hi-lo)/2<hi:=by omega
     refine wpS_bind (vf J D ha (by omega) ?_)
     dsimp only
     cases e:(Pb C) left B arr base (lo+(hi-lo)/2)with
     |true=>
      refine cj rfl ?_
      exact wpS_pure ⟨rfl,hi,lo+(hi-lo)/2+1,rfl,by omega,R,by omega,λi H=>mono i _ (by omega) (by omega) e,S⟩
     |false=>
      refine cO aW ?_
      exact wpS_pure ⟨rfl,lo+(hi-lo)/2,lo,rfl,by omega,by omega,by omega,W,λi i1 i2=>U _ i i1 i2 e⟩
   case pT=>
    rintro c Z ⟨rfl,hi,lo,rfl,T,R,V⟩
    exact wpS_pure (h hi T R V)
 |false=>
  refine cO aW ?_
  refine wpS_bind (wpS_mono (wpS_forRange (I:=λx c st'=>st'=st/\∃Y o,c=(none,Y,o)/\Y<o/\x+1<=o/\Y<=hint/\(Pb C) left B arr base (hint-Y)=false)
   (Q:=λc st'=>st'=st/\∃Y o,c=(none,Y,o)/\Y<o/\Y<=hint/\(Pb C) left B arr base (hint-Y)=false/\(o≥hint+1\/(o<=hint/\(Pb C) left B arr base (hint-o)=true))) ?step2 ?fin2 ⟨rfl,0,1,rfl,by omega,by omega,by omega,e⟩) ?post2)
  case fin2=>
   rintro c st' ⟨rfl,Y,o,rfl,T,R,V,W⟩
   exact⟨rfl,Y,o,rfl,T,V,W,.inl (by omega)⟩
  case step2=>
   rintro x c st' _ K ⟨rfl,Y,o,rfl,T,R,V,W⟩
   dsimp only
   by_cases X:o≥hint+1
   ·refine cj X ?_
    exact wpS_pure ⟨rfl,Y,o,rfl,T,V,W,.inl X⟩
   ·refine cO X ?_
    refine wpS_bind (vf J D ha (by omega) ?_)
    dsimp only
    cases L:(Pb C) left B arr base (hint-o)with
    |true=>
     refine cj rfl ?_
     exact wpS_pure ⟨rfl,Y,o,rfl,T,V,W,.inr ⟨by omega,L⟩⟩
    |false=>
     refine cO aW ?_
     exact wpS_pure ⟨rfl,o,2*o+1,rfl,by omega,by omega,by omega,L⟩
  case post2=>
   rintro c st' ⟨rfl,Y,o,rfl,T,V,W,S⟩
   have h1:hint+1-min o (hint+1)<=hint-Y:=by omega
   have h2:hint-Y<=n:=by omega
   have P:∀i,i<hint+1-min o (hint+1)->(Pb C) left B arr base i=true:=λi hi=>by
    rcases S with S|⟨S,G⟩
    ·omega
    ·exact mono i _ (by omega) (by omega) G
   have M:∀i,hint-Y<=i->i<n->(Pb C) left B arr base i=false:=λi i1 i2=>U _ i i1 i2 W
   dsimp only
   generalize hint+1-min o (hint+1)=O at h1 P ⊢
   generalize hint-Y=N at h1 h2 M ⊢
   refine wpS_bind (wpS_mono (wpS_forRange (I:=λx c Z=>Z=st'/\∃hi lo,c=(none,lo,hi)/\lo<=hi/\hi<=n/\hi-lo<=n-x/\(∀i,i<lo->(Pb C) left B arr base i=true)/\(∀i,hi<=i->i<n->(Pb C) left B arr base i=false))
    (Q:=λc Z=>Z=st'/\∃hi lo,c=(none,lo,hi)/\hi<=n/\(∀i,i<hi->(Pb C) left B arr base i=true)/\(∀i,hi<=i->i<n->(Pb C) left B arr base i=false)) ?sT ?fT ⟨rfl,N,O,rfl,h1,h2,by omega,P,M⟩) ?pT)
   case fT=>
    rintro c Z ⟨rfl,hi,lo,rfl,T,R,V,W,S⟩
    have:lo=hi:=by omega
    subst this
    exact⟨rfl,lo,lo,rfl,R,W,S⟩
   case sT=>
    rintro x c Z _ K ⟨rfl,hi,lo,rfl,T,R,V,W,S⟩
    dsimp only
    by_cases X:lo≥hi
    ·refine cj X ?_
     have:lo=hi:=by omega
     subst this
     exact wpS_pure ⟨rfl,lo,lo,rfl,R,W,S⟩
    ·refine cO X ?_
     have hm:lo+(hi-lo)/2<hi:=by omega
     refine wpS_bind (vf J D ha (by omega) ?_)
     dsimp only
     cases e:(Pb C) left B arr base (lo+(hi-lo)/2)with
     |true=>
      refine cj rfl ?_
      exact wpS_pure ⟨rfl,hi,lo+(hi-lo)/2+1,rfl,by omega,R,by omega,λi H=>mono i _ (by omega) (by omega) e,S⟩
     |false=>
      refine cO aW ?_
      exact wpS_pure ⟨rfl,lo+(hi-lo)/2,lo,rfl,by omega,by omega,by omega,W,λi i1 i2=>U _ i i1 i2 e⟩
   case pT=>
    rintro c Z ⟨rfl,hi,lo,rfl,T,R,V⟩
    exact wpS_pure (h hi T R V)
end
end
end Sq
namespace Sq
open PySem PyProof.Rows
section
variable{C:Cq}
noncomputable def z_:Nat->StateT SortSt Sem Unit:=sortPriv% PySem.Builtin.setMinGallop
noncomputable abbrev setG(st:SortSt)(g:Nat):SortSt:=SortSt.mk' (kindOf st) (arrOf st) (pendingOf st) g (failedOf st)
noncomputable def Oq:Array Keyed->Array Keyed->StateT SortSt Sem (Array Keyed):=sortPriv% PySem.Builtin.mergeLo
noncomputable def Bd(a b out:Array Keyed)(ia ib:Nat):Array Keyed:=out++a.extract ia a.size++b.extract ib b.size
noncomputable def Ju(a b out:Array Keyed)(ia ib:Nat):Array Keyed:=out++b.extract ib b.size++a.extract ia a.size
noncomputable def R(C:Cq)(x y:Keyed):Prop:=C.nu x<=C.nu y
structure MI(C:Cq)(a b out:Array Keyed)(ia ib:Nat):Prop where
 A:(out.toList++a.toList.drop ia).Pairwise (R C)
 B:(out.toList++b.toList.drop ib).Pairwise (R C)
 P:(out.toList++a.toList.drop ia++b.toList.drop ib).Perm (a.toList++b.toList)
section
variable{C:Cq}{a b out:Array Keyed}{ia ib:Nat}
theorem vg{l:List Keyed}(h:i<l.length):l.drop i=l[i]::l.drop (i+1):=jT h
theorem jl(h:ia<a.size):(KC C) a ia=C.nu (a[ia]):=by unfold KC;rw[getElem?_pos a ia h]
theorem MI.pushA(h:(MI C) a b out ia ib)(hi:ia<a.size)(B:∀y∈b.toList.drop ib,(R C) a[ia] y):(MI C) a b (out.push a[ia]) (ia+1) ib:=by
 have hd:a.toList.drop ia=a[ia]::a.toList.drop (ia+1):=vg (by simpa using hi)
 obtain⟨h1,h2,Y⟩:=h
 rw[hd]at h1 Y
 have e:(out.push a[ia]).toList=out.toList++[a[ia]]:=oR
 refine⟨by rw[e,aV];exact h1,?_,by rw[e];simpa using Y⟩
 rw[e,aV]
 obtain⟨p1,p2,p3⟩:=aP.mp h2
 obtain⟨q1,q2,X⟩:=aP.mp h1
 refine aP.mpr ⟨p1,bO.mpr ⟨B,p2⟩,λx Z y W=>?_⟩
 rcases aU.mp W with rfl|z
 ·exact X x Z _ aG
 ·exact p3 x Z y z
theorem MI.pushB(h:(MI C) a b out ia ib)(hi:ib<b.size)(B:∀y∈a.toList.drop ia,(R C) b[ib] y):(MI C) a b (out.push b[ib]) ia (ib+1):=by
 have hd:b.toList.drop ib=b[ib]::b.toList.drop (ib+1):=vg (by simpa using hi)
 obtain⟨h1,h2,Y⟩:=h
 rw[hd]at h2 Y
 have e:(out.push b[ib]).toList=out.toList++[b[ib]]:=oR
 refine⟨?_,by rw[e,aV];exact h2,?_⟩
 ·rw[e,aV]
  obtain⟨p1,p2,p3⟩:=aP.mp h1
  obtain⟨q1,q2,X⟩:=aP.mp h2
  refine aP.mpr ⟨p1,bO.mpr ⟨B,p2⟩,λx Z y W=>?_⟩
  rcases aU.mp W with rfl|z
  ·exact X x Z _ aG
  ·exact p3 x Z y z
 ·rw[e]
  refine List.Perm.trans ?_ Y
  rw[aV,aV,aV]
  exact List.Perm.append_left _ (by simpa using(List.perm_middle (a:=b[ib]) (l₁:=a.toList.drop ia) (l₂:=b.toList.drop (ib+1))).symm)
theorem gU{x:Array Keyed}:(x.extract i j).toList=(x.toList.drop i).take (j-i):=by
 rw[Array.toList_extract,List.extract_eq_take_drop]
theorem MI.appA(h:(MI C) a b out ia ib){k:Nat}(B:∀x∈(a.toList.drop ia).take k,∀y∈b.toList.drop ib,(R C) x y):(MI C) a b (out++a.extract ia (ia+k)) (ia+k) ib:=by
 have e:(out++a.extract ia (ia+k)).toList=out.toList++(a.toList.drop ia).take k:=by
  rw[cF,gU,pD]
 have d:a.toList.drop ia=(a.toList.drop ia).take k++a.toList.drop (ia+k):=by rw[<-lF,fY]
 obtain⟨h1,h2,X⟩:=h
 obtain⟨p1,p2,p3⟩:=aP.mp h2
 have Z:=h1
 rw[d]at Z X
 obtain⟨q1,q2,W⟩:=aP.mp Z
 refine⟨by rw[e,aV];exact Z,?_,by rw[e];simpa[aV]using X⟩
 rw[e,aV]
 refine aP.mpr ⟨p1,aP.mpr ⟨(aP.mp q2).1,p2,B⟩,λx Y y V=>?_⟩
 rcases cD.mp V with z|z
 ·exact W x Y y (bY _ z)
 ·exact p3 x Y y z
theorem MI.appB(h:(MI C) a b out ia ib){k:Nat}(B:∀x∈(b.toList.drop ib).take k,∀y∈a.toList.drop ia,(R C) x y):(MI C) a b (out++b.extract ib (ib+k)) ia (ib+k):=by
 have e:(out++b.extract ib (ib+k)).toList=out.toList++(b.toList.drop ib).take k:=by
  rw[cF,gU,pD]
 have d:b.toList.drop ib=(b.toList.drop ib).take k++b.toList.drop (ib+k):=by rw[<-lF,fY]
 obtain⟨h1,h2,X⟩:=h
 obtain⟨p1,p2,p3⟩:=aP.mp h1
 have Z:=h2
 rw[d]at Z X
 obtain⟨q1,q2,W⟩:=aP.mp Z
 refine⟨?_,by rw[e,aV];exact Z,?_⟩
 ·rw[e,aV]
  refine aP.mpr ⟨p1,aP.mpr ⟨(aP.mp q2).1,p2,B⟩,λx Y y V=>?_⟩
  rcases cD.mp V with z|z
  ·exact W x Y y (bY _ z)
  ·exact p3 x Y y z
 ·rw[e]
  refine List.Perm.trans ?_ X
  rw[aV,aV,aV]
  refine List.Perm.append_left _ ?_
  rw[<-aV,<-aV]
  exact List.Perm.append_right _ fZ
structure Res(C:Cq)(a b r:Array Keyed):Prop where
 P:r.toList.Perm (a.toList++b.toList)
 S:r.toList.Pairwise (R C)
theorem MI.endB(h:(MI C) a b out ia ib)(e:b.size<=ib):(Res C) a b (Bd a b out ia ib):=by
 have d:b.toList.drop ib=[]:=gY (by simpa using e)
 have l:(Bd a b out ia ib).toList=out.toList++a.toList.drop ia:=by
  unfold Bd
  rw[cF,cF,gU,gU,d,List.take_nil,cT,eG (by simp)]
 obtain⟨h1,h2,Z⟩:=h
 rw[d,cT]at Z
 exact⟨by rw[l];exact Z,by rw[l];exact h1⟩
theorem MI.endA(h:(MI C) a b out ia ib)(e:a.size<=ia):(Res C) a b (Bd a b out ia ib):=by
 have d:a.toList.drop ia=[]:=gY (by simpa using e)
 have l:(Bd a b out ia ib).toList=out.toList++b.toList.drop ib:=by
  unfold Bd
  rw[cF,cF,gU,gU,d,List.take_nil,cT,eG (by simp)]
 obtain⟨h1,h2,Z⟩:=h
 rw[d,cT]at Z
 exact⟨by rw[l];exact Z,by rw[l];exact h2⟩
theorem MI.last(h:(MI C) a b out ia ib)(hi:ia<a.size)(B:∀y∈b.toList,(R C) y a[ia])(e:ia+1=a.size):(Res C) a b (Ju a b out ia ib):=by
 have hd:a.toList.drop ia=[a[ia]]:=by
  rw[vg (l:=a.toList) (by simpa using hi),gY (by simpa using Nat.le_of_eq e.symm)]
  rfl
 have l:(Ju a b out ia ib).toList=out.toList++b.toList.drop ib++[a[ia]]:=by
  unfold Ju
  rw[cF,cF,gU,gU,hd,eG (by simp),eG (by simp;omega)]
 obtain⟨h1,h2,Z⟩:=h
 rw[hd]at h1 Z
 refine⟨by
  rw[l]
  refine List.Perm.trans ?_ Z
  rw[aV,aV]
  exact List.Perm.append_left _ fZ,?_⟩
 rw[l]
 refine aP.mpr ⟨h2,gO _ _,λx X y Y=>?_⟩
 rw[aO.mp Y]
 rcases cD.mp X with z|z
 ·exact(aP.mp h1).2.2 x z _ (aO.mpr rfl)
 ·exact B x (rG z)
theorem Jw{l:List Keyed}(p:(l.drop i).Pairwise (R C))(h:i<l.length):∀y∈l.drop i,(R C) l[i] y:=λy Z=>by
 rw[vg h]at Z p
 rcases aU.mp Z with rfl|z
 ·exact eV _
 ·exact(bO.mp p).1 y z
end
end
end Sq
variable{st':SortSt}{out:Array Keyed}
namespace Sq
open PySem PyProof.Rows
section
variable{C:Cq}
structure Eqv(st st':SortSt):Prop where
 k:kindOf st'=kindOf st
 a:arrOf st'=arrOf st
 p:pendingOf st'=pendingOf st
 f:failedOf st'=failedOf st
theorem Eqv.refl(st:SortSt):Eqv st st:=⟨rfl,rfl,rfl,rfl⟩
theorem Eqv.set(h:Eqv st st')(g:Nat):Eqv st (setG st' g):=⟨h.k,h.a,h.p,h.f⟩
section
variable{prog:Program}{w:World}{A:Around}{E:Value->Shared->Prop}{s:Shared}{a b:Array Keyed}{C:Cq}[LtOk prog w A s C]
theorem vh{g:Nat}{Q:Unit->SortSt->Prop}(h:Q () (setG st g)):wpS (model prog w) A E s (z_ g) Q st:=wpS_modify h
theorem K_R{x:Array Keyed}(p:x.toList.Pairwise (R C))(B:i<=j)(D:j<x.size):(KC C) x i<=(KC C) x j:=by
 rw[jl D,jl (oh B D)]
 rcases Nat.lt_or_eq_of_le B with z|z
 ·have:=cM.mp p i j (by simpa using oh B D) (by simpa using D) z
  unfold R at this
  simpa using this
 ·subst z;exact eV _
theorem pU{x:Array Keyed}{k:Nat}{p:Keyed}(h:p∈(x.toList.drop i).take k):∃j,j<k/\∃B:i+j<x.size,p=x[i+j]:=by
 obtain⟨j,B,e⟩:=fV h
 rw[cR,fG,bD]at B
 refine⟨j,by omega,by omega,?_⟩
 rw[<-e,oU,lG]
 simp
theorem oH{x:Array Keyed}{p:Keyed}(h:p∈x.toList.drop i):∃j,∃B:i+j<x.size,p=x[i+j]:=by
 obtain⟨j,B,e⟩:=fV h
 rw[fG,bD]at B
 refine⟨j,by omega,?_⟩
 rw[<-e,lG]
 simp
theorem mW{x:Array Keyed}(h:∀p∈x.toList,C.ok p){i:Nat}(hi:i<x.size):C.ok x[i]:=h _ (by simp)
theorem Zq{Q:Option Nat->SortSt->Prop}{ia ib:Nat}(D:kindOf st=C.κ)(ha:∀p∈a.toList,C.ok p)(J:∀p∈b.toList,C.ok p)(sa:a.toList.Pairwise (R C))(B:b.toList.Pairwise (R C))
 (M:(MI C) a b out ia ib) (i1:ia<a.size) (i2:ib<b.size) (h:∀k,ia+k<=a.size->(MI C) a b (out++a.extract ia (ia+k)) (ia+k) ib->(ia+k<a.size->∀y∈a.toList.drop (ia+k),(R C) b[ib] y)->Q (some k) st) :
 wpS (model prog w) A E s (vd false b[ib] a ia (a.size-ia) 0) Q st:=by
 refine mO D (mW J i2) ha (by omega) (by omega) (λi j h1 h2 X=>?_) λk k1 k2 W=>h k (by omega) (M.appA λx V y Z=>?_) λY y Z=>?_
 ·unfold Pb at X ⊢
  have:=K_R sa (i:=ia+i) (j:=ia+j) (by omega) (by omega)
  rw[if_neg aW,gP,decide_eq_false_iff_not]at X ⊢
  omega
 ·obtain⟨j,j1,j2,rfl⟩:=pU V
  obtain⟨l,l1,rfl⟩:=oH Z
  have:=k2 j j1
  unfold Pb at this
  rw[if_neg aW,gP,decide_eq_false_iff_not,jl j2]at this
  have q:=K_R B (i:=ib) (j:=ib+l) (by omega) l1
  rw[jl i2,jl l1]at q
  unfold R
  omega
 ·obtain⟨l,l1,rfl⟩:=oH Z
  have:=W k (aL _) (by omega)
  unfold Pb at this
  rw[if_neg aW,oA,decide_eq_true_iff,jl Y]at this
  have q:=K_R sa (i:=ia+k) (j:=ia+k+l) (by omega) l1
  rw[jl Y,jl l1]at q
  unfold R
  omega
theorem Zr{Q:Option Nat->SortSt->Prop}{ia ib:Nat}(D:kindOf st=C.κ)(ha:∀p∈a.toList,C.ok p)(J:∀p∈b.toList,C.ok p)(sa:a.toList.Pairwise (R C))(B:b.toList.Pairwise (R C))
 (M:(MI C) a b out ia ib) (i1:ia<a.size) (i2:ib<b.size) (h:∀k,ib+k<=b.size->(MI C) a b (out++b.extract ib (ib+k)) ia (ib+k)->(∀y∈b.toList.drop (ib+k),(R C) a[ia] y)->Q (some k) st) :
 wpS (model prog w) A E s (vd true a[ia] b ib (b.size-ib) 0) Q st:=by
 refine mO D (mW ha i1) J (by omega) (by omega) (λi j h1 h2 Y=>?_) λk k1 k2 X=>h k (by omega) (M.appB λx W y Z=>?_) λy Z=>?_
 ·unfold Pb at Y ⊢
  have:=K_R B (i:=ib+i) (j:=ib+j) (by omega) (by omega)
  rw[if_pos rfl,decide_eq_true_iff]at Y ⊢
  omega
 ·obtain⟨j,j1,j2,rfl⟩:=pU W
  obtain⟨l,l1,rfl⟩:=oH Z
  have:=k2 j j1
  unfold Pb at this
  rw[if_pos rfl,decide_eq_true_iff,jl j2]at this
  have q:=K_R sa (i:=ia) (j:=ia+l) (by omega) l1
  rw[jl i1,jl l1]at q
  unfold R
  omega
 ·obtain⟨l,l1,rfl⟩:=oH Z
  have:=X (k+l) (by omega) (by omega)
  unfold Pb at this
  rw[if_pos rfl,decide_eq_false_iff_not,<-tV,jl l1]at this
  unfold R
  omega
theorem FN{Q:Array Keyed->SortSt->Prop}(hk:kindOf st=C.κ)(ha:∀p∈a.toList,C.ok p)(hb:∀p∈b.toList,C.ok p)(a0:0<a.size)(b0:0<b.size)(sa:a.toList.Pairwise (R C))(sb:b.toList.Pairwise (R C))
 (hf:(KC C) b 0<(KC C) a 0) (hl:∀y∈b.toList,(R C) y (a[a.size-1]'(by omega))) (h:∀r st',(Res C) a b r->Eqv st st'->Q r st'):wpS (model prog w) A E s (Oq a b) Q st:=by
 refine wpS_bind (m:=liftM (rule _)) (wpS_lift (wpAny_rule ⟨rfl,?_⟩))
 refine wpS_bind (d_ (getElem?_pos b 0 b0) ?_)
 dsimp only
 have M0:(MI C) a b #[b[0]] 0 1:=by
  have hd:b.toList=b[0]::b.toList.drop 1:=by
   have:=vg (l:=b.toList) (i:=0) (by simpa using b0)
   rw[d9]at this
   simpa using this
  refine⟨?_,?_,?_⟩
  ·show([b[0]]++a.toList.drop 0).Pairwise (R C)
   rw[d9]
   refine bO.mpr ⟨λy J=>?_,sa⟩
   obtain⟨l,l1,rfl⟩:=oH (x:=a) (i:=0) (by rw[d9];exact J)
   have q:=K_R sa (i:=0) (j:=0+l) (by omega) l1
   rw[jl a0]at q hf
   rw[jl b0]at hf
   rw[jl l1]at q
   unfold R
   omega
  ·show(b[0]::b.toList.drop 1).Pairwise (R C)
   rw[<-hd];exact sb
  ·show([b[0]]++a.toList.drop 0++b.toList.drop 1).Perm (a.toList++b.toList)
   rw[d9]
   have:=(List.perm_middle (a:=b[0]) (l₁:=a.toList) (l₂:=b.toList.drop 1)).symm
   rw[<-hd]at this
   exact this
 by_cases D:1=b.size
 ·refine cj (by simpa using D) ?_
  exact wpS_pure (h _ _ (M0.endB (by omega)) (Eqv.refl st))
 refine cO (by simpa using D) ?_
 have V:∀(out:Array Keyed)(ia ib:Nat),(MI C) a b out ia ib->ia+1=a.size->(Res C) a b (Ju a b out ia ib):=λout ia ib M e=>M.last (by omega) (by
  have:a.size-1=ia:=by omega
  subst this
  exact hl) e
 by_cases c2:0+1=a.size
 ·refine cj (by simpa using c2) ?_
  exact wpS_pure (h _ _ (V _ _ _ M0 c2) (Eqv.refl st))
 refine cO (by simpa using c2) ?_
 refine wpS_bind (wpS_get ?_)
 refine wpS_bind (wpS_mono (wpS_forRange (I:=λx c st'=>Eqv st st'/\∃out ia ib g,c=(none,out,ia,ib,g)/\(MI C) a b out ia ib/\ia+1<a.size/\ib<b.size/\x+1<=ia+ib)
  (Q:=λc st'=>Eqv st st'/\∃r,c.1=some r/\(Res C) a b r) ?ostep ?ofin ⟨Eqv.refl st,_,0,1,_,rfl,M0,by omega,by omega,by omega⟩) ?opost)
 case opost=>
  rintro c st' ⟨Eq,r,e,G⟩
  obtain⟨c0,D⟩:=c
  subst e
  exact wpS_pure (h r st' G Eq)
 case ofin=>
  rintro c st' ⟨Eq,out,ia,ib,g,rfl,M,i1,i2,ms⟩
  omega
 case ostep=>
  rintro x c st1 _ hx ⟨E1,out,ia,ib,g,rfl,M,i1,i2,ms⟩
  dsimp only
  refine wpS_bind (wpS_mono (wpS_forRange (I:=λy c st'=>Eqv st st'/\∃out X W ac S,c=(none,out,X,W,ac,S)/\(MI C) a b out X W/\X+1<a.size/\W<b.size/\ia+ib<=X+W)
   (Q:=λc st'=>Eqv st st'/\((∃r,c.1=some r/\(Res C) a b r)\/∃out X W ac S,c=(none,out,X,W,ac,S)/\(MI C) a b out X W/\X+1<a.size/\W<b.size/\ia+ib<=X+W)) ?step1 ?fin1 ⟨E1,out,ia,ib,0,0,rfl,M,i1,i2,aL _⟩) ?post1)
  case fin1=>
   rintro c st' ⟨Eq,q⟩
   exact⟨Eq,.inr q⟩
  case step1=>
   rintro y c st2 _ J ⟨L,out,X,W,ac,S,rfl,M,i1,i2,ms'⟩
   dsimp only
   refine wpS_bind (d_ (getElem?_pos b W i2) (wpS_bind (d_ (getElem?_pos a X (by omega)) ?_)))
   have K:X<a.size:=by omega
   refine wpS_bind (yV (L.k.trans hk) (mW hb i2) (mW ha K) ?_)
   dsimp only
   by_cases lt:C.nu (b[W])<C.nu (a[X])
   ·refine cj (dTr lt) ?_
    refine wpS_bind (d_ (getElem?_pos b W i2) ?_)
    have H:=M.pushB i2 λy J=>by
     have:=Jw (aP.mp M.A).2.1 (by simpa using K) y J
     unfold R at this ⊢
     simp at this
     omega
    by_cases z:W+1=b.size
    ·refine cj (by simpa using z) ?_
     exact wpS_pure ⟨L,.inl ⟨_,rfl,H.endB (by omega)⟩⟩
    ·refine cO (by simpa using z) ?_
     split
     ·exact wpS_pure ⟨L,.inr ⟨_,_,_,_,_,rfl,H,i1,by omega,by omega⟩⟩
     ·exact wpS_pure ⟨L,_,_,_,_,_,rfl,H,i1,by omega,by omega⟩
   ·refine cO (by rw[dFa lt];exact aW) ?_
    refine wpS_bind (d_ (getElem?_pos a X K) ?_)
    have H:=M.pushA K λy J=>by
     have:=Jw (aP.mp M.B).2.1 (by simpa using i2) y J
     unfold R at this ⊢
     simp at this
     omega
    by_cases z:X+1+1=a.size
    ·refine cj (by simpa using z) ?_
     exact wpS_pure ⟨L,.inl ⟨_,rfl,V _ _ _ H z⟩⟩
    ·refine cO (by simpa using z) ?_
     split
     ·exact wpS_pure ⟨L,.inr ⟨_,_,_,_,_,rfl,H,by omega,i2,by omega⟩⟩
     ·exact wpS_pure ⟨L,_,_,_,_,_,rfl,H,by omega,i2,by omega⟩
  case post1=>
   rintro c st2 ⟨L,⟨r,e,G⟩|⟨out,X,W,ac,S,rfl,M,i1,i2,ms'⟩⟩
   ·obtain⟨c0,D⟩:=c
    subst e
    exact wpS_pure ⟨L,r,rfl,G⟩
   dsimp only
   refine wpS_bind (wpS_lift (wpAny_rule ⟨rfl,?_⟩))
   refine wpS_bind (wpS_mono (wpS_forRange (I:=λy c st'=>Eqv st st'/\∃out Y Z g ac S,c=(none,out,Y,Z,g,ac,S)/\(MI C) a b out Y Z/\Y+1<a.size/\Z<b.size/\ia+ib+min y 1<=Y+Z)
    (Q:=λc st'=>Eqv st st'/\((∃r,c.1=some r/\(Res C) a b r)\/∃out Y Z g ac S,c=(none,out,Y,Z,g,ac,S)/\(MI C) a b out Y Z/\Y+1<a.size/\Z<b.size/\ia+ib+1<=Y+Z)) ?step2 ?fin2 ⟨L,out,X,W,_,ac,S,rfl,M,i1,i2,by omega⟩) ?post2)
   case fin2=>
    rintro c st' ⟨Eq,out,Y,Z,g,ac,S,rfl,M,i1,i2,ms⟩
    exact⟨Eq,.inr ⟨out,Y,Z,g,ac,S,rfl,M,i1,i2,by omega⟩⟩
   case post2=>
    rintro c d ⟨O,⟨r,e,G⟩|⟨out,Y,Z,g,ac,S,rfl,M,i1,i2,ms⟩⟩
    ·obtain⟨c0,D⟩:=c
     subst e
     exact wpS_pure ⟨O,r,rfl,G⟩
    ·dsimp only
     exact wpS_bind (vh (wpS_pure ⟨O.set _,_,_,_,_,rfl,M,i1,i2,by omega⟩))
   case step2=>
    rintro y c d _ J ⟨O,out,N,U,g,ac,S,rfl,M,i1,i2,ms2⟩
    dsimp only
    refine Jt ?_
    generalize g-1=gu
    refine And.intro ?l ?r
    case' l=>
     revert gu
     refine id ?_
    case r=>exact(id ?l:_) g
    intro gu
    refine wpS_bind (vh (wpS_bind (d_ (getElem?_pos b U i2) ?_)))
    refine wpS_bind (Zq ((O.set _).k.trans hk) ha hb sa sb M (by omega) i2 λk k1 Mk k2=>?_)
    dsimp only
    by_cases kp:k>0
    refine cj kp ?_
    generalize out++a.extract N (N+k)=o at Mk ⊢
    generalize hi:N+k=i at k1 k2 Mk ⊢
    by_cases q1:i+1=a.size
    case pos=>
     refine cj (by simpa using q1) ?_
     exact wpS_pure ⟨O.set _,.inl ⟨_,rfl,V _ _ _ Mk q1⟩⟩
    refine cO (by simpa using q1) ?_
    by_cases q2:i=a.size
    case pos=>
     refine cj (by simpa using q2) ?_
     exact wpS_pure ⟨O.set _,.inl ⟨_,rfl,Mk.endA (by omega)⟩⟩
    refine cO (by simpa using q2) ?_
    have P:=k2 (by omega)
    have F:N<=i:=by omega
    have T:i+1<a.size:=by omega
    clear k1 k2 q1 q2 hi kp M
    revert T F P Mk o i
    refine id ?K1
    case neg=>
     refine cO kp ?_
     have k0:k=0:=by omega
     have P:=k2 (by omega)
     rw[k0,lE]at P
     exact(id ?K1:_) out N M P (aL _) i1
    intro o i Mk P F T
    refine wpS_bind (d_ (getElem?_pos b U i2) ?_)
    have f:=Mk.pushB i2 P
    by_cases q3:U+1=b.size
    case pos=>
     refine cj (by simpa using q3) ?_
     exact wpS_pure ⟨O.set _,.inl ⟨_,rfl,f.endB (by omega)⟩⟩
    refine cO (by simpa using q3) ?_
    refine wpS_bind (d_ (getElem?_pos a _ (gH T)) ?_)
    generalize o.push b[U]=o1 at f ⊢
    refine wpS_bind (Zr ((O.set _).k.trans hk) ha hb sa sb f (gH T) (by omega) λl l1 v l2=>?_)
    dsimp only
    by_cases lp:l>0
    refine cj lp ?_
    generalize o1++b.extract (U+1) (U+1+l)=o2 at v ⊢
    generalize hj:U+1+l=j at l1 v l2 ⊢
    by_cases q4:j=b.size
    case pos=>
     refine cj (by simpa using q4) ?_
     exact wpS_pure ⟨O.set _,.inl ⟨_,rfl,v.endB (by omega)⟩⟩
    refine cO (by simpa using q4) ?_
    have u:=v.pushA (gH T) l2
    have t:j<b.size:=by omega
    have q8:U<j:=by omega
    clear l1 l2 v hj q4 lp
    revert q8 t u o2 j
    refine id ?K2
    case neg=>
     refine cO lp ?_
     have l0:l=0:=by omega
     rw[l0,lE]at l2
     exact(id ?K2:_) o1 (U+1) (f.pushA (gH T) l2) (by omega) (by omega)
    intro o2 j u t q8
    refine wpS_bind (d_ (getElem?_pos a _ (gH T)) ?_)
    split
    ·next n=>
     exact wpS_pure ⟨O.set _,.inl ⟨_,rfl,V _ _ _ u (by simpa using n)⟩⟩
    ·next n=>
     have n:=by simpa using n
     split
     ·exact wpS_pure ⟨O.set _,.inr ⟨_,_,_,_,_,_,rfl,u,by omega,t,by omega⟩⟩
     ·exact wpS_pure ⟨O.set _,_,_,_,_,_,_,rfl,u,by omega,t,by omega⟩
end
end
end Sq
namespace Sq
open PySem PyProof.Rows
section
variable{C:Cq}
noncomputable def Ot:Array Keyed->Array Keyed->StateT SortSt Sem (Array Keyed):=sortPriv% PySem.Builtin.mergeHi
noncomputable def Bf(a b out:Array Keyed)(na nb:Nat):Array Keyed:=a.extract 0 na++b.extract 0 nb++out.reverse
noncomputable def C_(a b out:Array Keyed)(na nb:Nat):Array Keyed:=b.extract 0 nb++a.extract 0 na++out.reverse
structure MJ(C:Cq)(a b out:Array Keyed)(na nb:Nat):Prop where
 A:(a.toList.take na++out.toList.reverse).Pairwise (R C)
 B:(b.toList.take nb++out.toList.reverse).Pairwise (R C)
 P:(a.toList.take na++(b.toList.take nb++out.toList.reverse)).Perm (a.toList++b.toList)
section
variable{C:Cq}{a b out:Array Keyed}{na nb:Nat}
theorem xQ{x:Array Keyed}(h:i<x.size):x.toList.take (i+1)=x.toList.take i++[x[i]]:=by
 rw[uN,aF (by simpa using h)]
 simp
theorem Dc{l o:List Keyed}{m:List Keyed}(h:(l++o).Pairwise (R C))(hm:m.Pairwise (R C))(h1:∀x∈l,∀y∈m,(R C) x y)(h2:∀x∈m,∀y∈o,(R C) x y):(l++(m++o)).Pairwise (R C):=by
 obtain⟨p1,p2,p3⟩:=aP.mp h
 refine aP.mpr ⟨p1,aP.mpr ⟨hm,p2,h2⟩,λx Z y Y=>?_⟩
 rcases cD.mp Y with z|z
 ·exact h1 x Z y z
 ·exact p3 x Z y z
theorem MJ.pushA(h:(MJ C) a b out (na+1) nb)(hi:na<a.size)(B:∀x∈b.toList.take nb,(R C) x a[na]):(MJ C) a b (out.push a[na]) na nb:=by
 obtain⟨h1,h2,X⟩:=h
 rw[xQ hi]at h1 X
 have e:(out.push a[na]).toList.reverse=[a[na]]++out.toList.reverse:=by simp
 rw[aV]at h1 X
 obtain⟨q1,q2,W⟩:=aP.mp h1
 refine⟨by rw[e];exact h1,?_,?_⟩
 ·rw[e]
  exact Dc h2 (gO _ _) (λx Y y Z=>by rw[aO.mp Z];exact B x Y) (λx Y y Z=>(aP.mp q2).2.2 x Y y Z)
 ·rw[e]
  refine List.Perm.trans (List.Perm.append_left _ ?_) X
  rw[<-aV,<-aV]
  exact List.Perm.append_right _ fZ
theorem MJ.pushB(h:(MJ C) a b out na (nb+1))(hi:nb<b.size)(B:∀x∈a.toList.take na,(R C) x b[nb]):(MJ C) a b (out.push b[nb]) na nb:=by
 obtain⟨h1,h2,X⟩:=h
 rw[xQ hi]at h2 X
 have e:(out.push b[nb]).toList.reverse=[b[nb]]++out.toList.reverse:=by simp
 rw[aV]at h2 X
 obtain⟨q1,q2,W⟩:=aP.mp h2
 refine⟨?_,by rw[e];exact h2,by rw[e];exact X⟩
 rw[e]
 exact Dc h1 (gO _ _) (λx Y y Z=>by rw[aO.mp Z];exact B x Y) (λx Y y Z=>(aP.mp q2).2.2 x Y y Z)
theorem yW{l:List Keyed}(h:i<=n):l.take n=l.take i++(l.drop i).take (n-i):=by
 rw[<-List.take_add,Nat.add_sub_cancel' h]
theorem sY{x:Array Keyed}:(out++(x.extract i n).reverse).toList.reverse=(x.toList.drop i).take (n-i)++out.toList.reverse:=by
 rw[cF,List.reverse_append,mY,List.reverse_reverse,gU]
theorem MJ.appA(h:(MJ C) a b out na nb){i:Nat}(hi:i<=na)(B:∀x∈b.toList.take nb,∀y∈(a.toList.drop i).take (na-i),(R C) x y):(MJ C) a b (out++(a.extract i na).reverse) i nb:=by
 obtain⟨h1,h2,Z⟩:=h
 rw[yW hi,aV]at h1 Z
 obtain⟨q1,q2,Y⟩:=aP.mp h1
 refine⟨by rw[sY];exact h1,?_,?_⟩
 ·rw[sY]
  exact Dc h2 (aP.mp q2).1 B (aP.mp q2).2.2
 ·rw[sY]
  refine List.Perm.trans (List.Perm.append_left _ ?_) Z
  rw[<-aV,<-aV]
  exact List.Perm.append_right _ fZ
theorem MJ.appB(h:(MJ C) a b out na nb){i:Nat}(hi:i<=nb)(B:∀x∈a.toList.take na,∀y∈(b.toList.drop i).take (nb-i),(R C) x y):(MJ C) a b (out++(b.extract i nb).reverse) na i:=by
 obtain⟨h1,h2,Z⟩:=h
 rw[yW hi,aV]at h2 Z
 obtain⟨q1,q2,Y⟩:=aP.mp h2
 refine⟨?_,by rw[sY];exact h2,by rw[sY];exact Z⟩
 rw[sY]
 exact Dc h1 (aP.mp q2).1 B (aP.mp q2).2.2
theorem yX:(Bf a b out na nb).toList=a.toList.take na++(b.toList.take nb++out.toList.reverse):=by
 unfold Bf
 rw[cF,cF,gU,gU,d9,d9,nR,nR,mY,aV]
theorem MJ.endA(h:(MJ C) a b out 0 nb):(Res C) a b (Bf a b out 0 nb):=by
 have e:=yX (a:=a) (b:=b) (out:=out) (na:=0) (nb:=nb)
 rw[lH,dM]at e
 have p:=h.P
 rw[lH,dM]at p
 exact⟨by rw[e];exact p,by rw[e];exact h.B⟩
theorem MJ.endB(h:(MJ C) a b out na 0):(Res C) a b (Bf a b out na 0):=by
 have e:=yX (a:=a) (b:=b) (out:=out) (na:=na) (nb:=0)
 rw[lH,dM]at e
 have p:=h.P
 rw[lH,dM]at p
 exact⟨by rw[e];exact p,by rw[e];exact h.A⟩
theorem MJ.first(h:(MJ C) a b out na 1)(J:0<b.size)(D:∀y∈a.toList,(R C) b[0] y):(Res C) a b (C_ a b out na 1):=by
 have t:b.toList.take 1=[b[0]]:=by rw[xQ J,lH];rfl
 have e:(C_ a b out na 1).toList=[b[0]]++(a.toList.take na++out.toList.reverse):=by
  unfold C_
  rw[cF,cF,gU,gU,d9,d9,nR,nR,mY,t,aV]
 have p:=h.P
 have B:=h.B
 rw[t]at p B
 refine⟨?_,?_⟩
 ·rw[e]
  refine List.Perm.trans ?_ p
  rw[<-aV,<-aV]
  exact List.Perm.append_right _ fZ
 ·rw[e]
  show(b[0]::(a.toList.take na++out.toList.reverse)).Pairwise (R C)
  have B:(b[0]::out.toList.reverse).Pairwise (R C):=B
  refine bO.mpr ⟨λy Z=>?_,h.A⟩
  rcases cD.mp Z with z|z
  ·exact D y (rH z)
  ·exact(bO.mp B).1 y z
theorem v8{x:Array Keyed}{p:Keyed}(h:p∈x.toList.take n):∃j,j<n/\∃B:j<x.size,p=x[j]:=by
 obtain⟨j,j1,j2,e⟩:=pU (i:=0) (by rw[d9];exact h)
 exact⟨j,j1,by omega,by rw[e];congr 1;omega⟩
variable{prog:Program}{w:World}{A:Around}{E:Value->Shared->Prop}{s:Shared}{C:Cq}[LtOk prog w A s C]
theorem Xa{Q:Option Nat->SortSt->Prop}(O:kindOf st=C.κ)(ha:∀p∈a.toList,C.ok p)(hb:∀p∈b.toList,C.ok p)(sa:a.toList.Pairwise (R C))(B:b.toList.Pairwise (R C))
 (M:(MJ C) a b out na nb) (i1:0<na) (J:na<=a.size) (i2:0<nb) (D:nb<=b.size) (h:∀k,k<=na->(MJ C) a b (out++(a.extract k na).reverse) k nb->(∀x∈a.toList.take k,(R C) x (b[nb-1]'(by omega)))->Q (some k) st) :
 wpS (model prog w) A E s (vd false (b[nb-1]'(by omega)) a 0 na (na-1)) Q st:=by
 have Z:nb-1<b.size:=by omega
 refine mO O (mW hb Z) ha (by omega) (by omega) (λi j h1 h2 X=>?_) λk k1 k2 W=>h k k1 (M.appA k1 λx Y y V=>?_) λx Y=>?_
 ·unfold Pb at X ⊢
  have:=K_R sa (i:=0+i) (j:=0+j) (by omega) (by omega)
  rw[if_neg aW,gP,decide_eq_false_iff_not]at X ⊢
  omega
 ·obtain⟨j,j1,j2,rfl⟩:=pU V
  obtain⟨l,l1,l2,rfl⟩:=v8 Y
  have:=W (k+j) (by omega) (by omega)
  unfold Pb at this
  rw[if_neg aW,oA,decide_eq_true_iff,fP,jl j2]at this
  have q:=K_R B (i:=l) (j:=nb-1) (by omega) Z
  rw[jl Z,jl l2]at q
  unfold R
  omega
 ·obtain⟨l,l1,l2,rfl⟩:=v8 Y
  have:=k2 l l1
  unfold Pb at this
  rw[if_neg aW,gP,decide_eq_false_iff_not,fP,jl l2]at this
  unfold R
  omega
theorem Xb{Q:Option Nat->SortSt->Prop}(O:kindOf st=C.κ)(ha:∀p∈a.toList,C.ok p)(hb:∀p∈b.toList,C.ok p)(sa:a.toList.Pairwise (R C))(B:b.toList.Pairwise (R C))
 (M:(MJ C) a b out na nb) (i1:0<na) (J:na<=a.size) (i2:0<nb) (D:nb<=b.size) (h:∀k,k<=nb->(MJ C) a b (out++(b.extract k nb).reverse) na k->(∀x∈b.toList.take k,(R C) x (a[na-1]'(by omega)))->Q (some k) st) :
 wpS (model prog w) A E s (vd true (a[na-1]'(by omega)) b 0 nb (nb-1)) Q st:=by
 have Z:na-1<a.size:=by omega
 refine mO O (mW ha Z) hb (by omega) (by omega) (λi j h1 h2 X=>?_) λk k1 k2 W=>h k k1 (M.appB k1 λx Y y V=>?_) λx Y=>?_
 ·unfold Pb at X ⊢
  have:=K_R B (i:=0+i) (j:=0+j) (by omega) (by omega)
  rw[if_pos rfl,decide_eq_true_iff]at X ⊢
  omega
 ·obtain⟨j,j1,j2,rfl⟩:=pU V
  obtain⟨l,l1,l2,rfl⟩:=v8 Y
  have:=W (k+j) (by omega) (by omega)
  unfold Pb at this
  rw[if_pos rfl,decide_eq_false_iff_not,fP,jl j2]at this
  have q:=K_R sa (i:=l) (j:=na-1) (by omega) Z
  rw[jl Z,jl l2]at q
  unfold R
  omega
 ·obtain⟨l,l1,l2,rfl⟩:=v8 Y
  have:=k2 l l1
  unfold Pb at this
  rw[if_pos rfl,decide_eq_true_iff,fP,jl l2]at this
  unfold R
  omega
end
end
end Sq
variable{na nb:Nat}
namespace Sq
open PySem PyProof.Rows
section
variable{C:Cq}
section
variable{prog:Program}{w:World}{A:Around}{E:Value->Shared->Prop}{s:Shared}{a b:Array Keyed}{C:Cq}[LtOk prog w A s C]
theorem MJ.endA'(h:(MJ C) a b out na nb)(e:na=0):(Res C) a b (Bf a b out na nb):=by subst e;exact h.endA
theorem MJ.endB'(h:(MJ C) a b out na nb)(e:nb=0):(Res C) a b (Bf a b out na nb):=by subst e;exact h.endB
theorem MJ.first'(h:(MJ C) a b out na nb)(e:nb=1)(D:0<b.size)(B:∀y∈a.toList,(R C) b[0] y):(Res C) a b (C_ a b out na nb):=by subst e;exact h.first D B
theorem MJ.pushA'(h:(MJ C) a b out na nb)(D:0<na)(hi:na-1<a.size)(B:∀x∈b.toList.take nb,(R C) x a[na-1]):(MJ C) a b (out.push a[na-1]) (na-1) nb:=by
 cases na with
 |zero=>omega
 |succ n=>exact MJ.pushA (na:=n) h hi B
theorem MJ.pushB'(h:(MJ C) a b out na nb)(D:0<nb)(hi:nb-1<b.size)(B:∀x∈a.toList.take na,(R C) x b[nb-1]):(MJ C) a b (out.push b[nb-1]) na (nb-1):=by
 cases nb with
 |zero=>omega
 |succ n=>exact MJ.pushB (nb:=n) h hi B
theorem FP{Q:Array Keyed->SortSt->Prop}(hk:kindOf st=C.κ)(ha:∀p∈a.toList,C.ok p)(hb:∀p∈b.toList,C.ok p)(a0:0<a.size)(b0:0<b.size)(sa:a.toList.Pairwise (R C))(sb:b.toList.Pairwise (R C))
 (hf:(KC C) b 0<(KC C) a 0) (hl:∀y∈b.toList,(R C) y (a[a.size-1]'(by omega))) (h:∀r st',(Res C) a b r->Eqv st st'->Q r st'):wpS (model prog w) A E s (Ot a b) Q st:=by
 have la:a.size-1<a.size:=by omega
 have G:∀y∈a.toList,(R C) b[0] y:=λy hy=>by
  obtain⟨l,l1,rfl⟩:=oH (x:=a) (i:=0) (by rw[d9];exact hy)
  have q:=K_R sa (i:=0) (j:=0+l) (by omega) l1
  rw[jl a0]at q hf
  rw[jl b0]at hf
  rw[jl l1]at q
  unfold R
  omega
 refine wpS_bind (m:=liftM (rule _)) (wpS_lift (wpAny_rule ⟨rfl,?_⟩))
 refine wpS_bind (d_ (getElem?_pos a (a.size-1) la) ?_)
 dsimp only
 have M0:(MJ C) a b #[a[a.size-1]] (a.size-1) b.size:=by
  have ta:a.toList.take (a.size-1)++[a[a.size-1]]=a.toList:=by
   rw[<-xQ la,Nat.sub_add_cancel a0,eG (by simp)]
  have tb:b.toList.take b.size=b.toList:=eG (by simp)
  refine⟨?_,?_,?_⟩
  ·show(a.toList.take (a.size-1)++[a[a.size-1]]).Pairwise (R C)
   rw[ta];exact sa
  ·show(b.toList.take b.size++[a[a.size-1]]).Pairwise (R C)
   rw[tb]
   exact aP.mpr ⟨sb,gO _ _,λx t y hy=>by rw[aO.mp hy];exact hl x t⟩
  ·show(a.toList.take (a.size-1)++(b.toList.take b.size++[a[a.size-1]])).Perm (a.toList++b.toList)
   rw[tb]
   have:(a.toList.take (a.size-1)++(b.toList++[a[a.size-1]])).Perm (a.toList.take (a.size-1)++([a[a.size-1]]++b.toList)):=List.Perm.append_left _ fZ
   rw[<-aV _ [a[a.size-1]],ta]at this
   exact this
 by_cases n:a.size-1=0
 ·refine cj (by simpa using n) ?_
  exact wpS_pure (h _ _ (M0.endA' n) (Eqv.refl st))
 refine cO (by simpa using n) ?_
 by_cases c2:b.size=1
 ·refine cj (by simpa using c2) ?_
  exact wpS_pure (h _ _ (M0.first' c2 b0 G) (Eqv.refl st))
 refine cO (by simpa using c2) ?_
 refine wpS_bind (wpS_get ?_)
 refine wpS_bind (wpS_mono (wpS_forRange (I:=λx c st'=>Eqv st st'/\∃(na nb:Nat)(out:Array Keyed)(g:Nat),c=(none,na,nb,out,g)/\(MJ C) a b out na nb/\0<na/\na<=a.size/\1<nb/\nb<=b.size/\na+nb+x+1<=a.size+b.size)
  (Q:=λc st'=>Eqv st st'/\∃r,c.1=some r/\(Res C) a b r) ?ostep ?ofin ⟨Eqv.refl st,_,_,_,_,rfl,M0,by omega,by omega,by omega,by omega,by omega⟩) ?opost)
 case opost=>
  rintro c st' ⟨Eq,r,e,hr⟩
  obtain⟨c0,n⟩:=c
  subst e
  exact wpS_pure (h r st' hr Eq)
 case ofin=>
  rintro c st' ⟨Eq,na,nb,out,g,rfl,M,i1,i1',i2,i2',ms⟩
  omega
 case ostep=>
  rintro x c st1 _ t ⟨E1,na,nb,out,g,rfl,M,i1,i1',i2,i2',ms⟩
  dsimp only
  refine wpS_bind (wpS_mono (wpS_forRange (I:=λy c st'=>Eqv st st'/\∃(W X:Nat)(out:Array Keyed)(ac P:Nat),c=(none,W,X,out,ac,P)/\(MJ C) a b out W X/\0<W/\W<=a.size/\1<X/\X<=b.size/\W+X<=na+nb)
   (Q:=λc st'=>Eqv st st'/\((∃r,c.1=some r/\(Res C) a b r)\/∃(W X:Nat)(out:Array Keyed)(ac P:Nat),c=(none,W,X,out,ac,P)/\(MJ C) a b out W X/\0<W/\W<=a.size/\1<X/\X<=b.size/\W+X<=na+nb)) ?step1 ?fin1 ⟨E1,na,nb,out,0,0,rfl,M,i1,i1',i2,i2',aL _⟩) ?post1)
  case fin1=>
   rintro c st' ⟨Eq,q⟩
   exact⟨Eq,.inr q⟩
  case step1=>
   rintro y c st2 _ hy ⟨J,W,X,out,ac,P,rfl,M,j1,U,j2,T,ms'⟩
   dsimp only
   obtain⟨D,rfl⟩:∃D,W=D+1:=⟨W-1,by omega⟩
   obtain⟨F,rfl⟩:∃F,X=F+1:=⟨X-1,by omega⟩
   simp only[Nat.add_sub_cancel]
   have N:D<a.size:=by omega
   have O:F<b.size:=by omega
   refine wpS_bind (d_ (getElem?_pos b F O) (wpS_bind (d_ (getElem?_pos a D N) ?_)))
   refine wpS_bind (yV (J.k.trans hk) (mW hb O) (mW ha N) ?_)
   dsimp only
   by_cases lt:C.nu (b[F])<C.nu (a[D])
   ·refine cj (dTr lt) ?_
    refine wpS_bind (d_ (getElem?_pos a D N) ?_)
    have u:=M.pushA N λx t=>by
     obtain⟨l,l1,l2,rfl⟩:=v8 t
     have q:=K_R sb (i:=l) (j:=F) (by omega) O
     rw[jl O,jl l2]at q
     unfold R
     omega
    by_cases z:D=0
    ·refine cj (by simpa using z) ?_
     subst z
     exact wpS_pure ⟨J,.inl ⟨_,rfl,u.endA⟩⟩
    ·refine cO (by simpa using z) ?_
     split
     ·exact wpS_pure ⟨J,.inr ⟨_,_,_,_,_,rfl,u,by omega,by omega,j2,T,by omega⟩⟩
     ·exact wpS_pure ⟨J,_,_,_,_,_,rfl,u,by omega,by omega,j2,T,by omega⟩
   ·refine cO (by rw[dFa lt];exact aW) ?_
    refine wpS_bind (d_ (getElem?_pos b F O) ?_)
    have u:=M.pushB O λx t=>by
     obtain⟨l,l1,l2,rfl⟩:=v8 t
     have q:=K_R sa (i:=l) (j:=D) (by omega) N
     rw[jl N,jl l2]at q
     unfold R
     omega
    by_cases z:F=1
    ·refine cj (by simpa using z) ?_
     subst z
     exact wpS_pure ⟨J,.inl ⟨_,rfl,u.first b0 G⟩⟩
    ·refine cO (by simpa using z) ?_
     split
     ·exact wpS_pure ⟨J,.inr ⟨_,_,_,_,_,rfl,u,j1,U,by omega,by omega,by omega⟩⟩
     ·exact wpS_pure ⟨J,_,_,_,_,_,rfl,u,j1,U,by omega,by omega,by omega⟩
  case post1=>
   rintro c st2 ⟨J,⟨r,e,hr⟩|⟨W,X,out,ac,P,rfl,M,j1,U,j2,T,ms'⟩⟩
   ·obtain⟨c0,n⟩:=c
    subst e
    exact wpS_pure ⟨J,r,rfl,hr⟩
   dsimp only
   refine wpS_bind (wpS_lift (wpAny_rule ⟨rfl,?_⟩))
   refine wpS_bind (wpS_mono (wpS_forRange (I:=λy c st'=>Eqv st st'/\∃(Y Z:Nat)(out:Array Keyed)(g ac P:Nat),c=(none,Y,Z,out,g,ac,P)/\(MJ C) a b out Y Z/\0<Y/\Y<=a.size/\1<Z/\Z<=b.size/\Y+Z+min y 1<=na+nb)
    (Q:=λc st'=>Eqv st st'/\((∃r,c.1=some r/\(Res C) a b r)\/∃(Y Z:Nat)(out:Array Keyed)(g ac P:Nat),c=(none,Y,Z,out,g,ac,P)/\(MJ C) a b out Y Z/\0<Y/\Y<=a.size/\1<Z/\Z<=b.size/\Y+Z+1<=na+nb)) ?step2 ?fin2 ⟨J,W,X,out,_,ac,P,rfl,M,j1,U,j2,T,by omega⟩) ?post2)
   case fin2=>
    rintro c st' ⟨Eq,S,V,out,g,ac,P,rfl,M,j1,U,j2,T,f⟩
    exact⟨Eq,.inr ⟨S,V,out,g,ac,P,rfl,M,j1,U,j2,T,by omega⟩⟩
   case post2=>
    rintro c st3 ⟨L,⟨r,e,hr⟩|⟨S,V,out,g,ac,P,rfl,M,j1,U,j2,T,f⟩⟩
    ·obtain⟨c0,n⟩:=c
     subst e
     exact wpS_pure ⟨L,r,rfl,hr⟩
    ·dsimp only
     exact wpS_bind (vh (wpS_pure ⟨L.set _,_,_,_,_,rfl,M,j1,U,j2,T,by omega⟩))
   case step2=>
    rintro y c st3 _ hy ⟨L,S,V,out,g,ac,P,rfl,M,j1,U,j2,T,f⟩
    dsimp only
    have B:V-1<b.size:=by omega
    refine Jt ?_
    generalize g-1=gu
    refine And.intro ?l ?r
    case' l=>
     revert gu
     refine id ?_
    case r=>exact(id ?l:_) g
    intro gu
    refine wpS_bind (vh (wpS_bind (d_ (getElem?_pos b (V-1) B) ?_)))
    refine wpS_bind (Xa ((L.set _).k.trans hk) ha hb sa sb M j1 U (by omega) T λk k1 Mk k2=>?_)
    dsimp only
    generalize hc:S-k=c
    by_cases kp:c>0
    refine cj kp ?_
    generalize out++(a.extract k S).reverse=o at Mk ⊢
    by_cases q1:k=0
    case pos=>
     refine cj (by simpa using q1) ?_
     exact wpS_pure ⟨L.set _,.inl ⟨_,rfl,Mk.endA' q1⟩⟩
    refine cO (by simpa using q1) ?_
    have K:0<k:=by omega
    have v:k<=a.size:=by omega
    have hkn:k<=S:=k1
    clear k1 q1 kp hc M
    revert hkn v K k2 Mk o c k
    refine id ?K1
    case neg=>
     refine cO kp ?_
     have k0:k=S:=by omega
     rw[k0]at k2
     exact(id ?K1:_) S k2 c out M j1 U (aL _)
    intro k k2 c o Mk K v hkn
    refine wpS_bind (d_ (getElem?_pos b (V-1) B) ?_)
    have Mb:=Mk.pushB' (by omega) B k2
    by_cases q3:V-1=1
    case pos=>
     refine cj (by simpa using q3) ?_
     exact wpS_pure ⟨L.set _,.inl ⟨_,rfl,Mb.first' q3 b0 G⟩⟩
    refine cO (by simpa using q3) ?_
    have H:k-1<a.size:=by omega
    refine wpS_bind (d_ (getElem?_pos a (k-1) H) ?_)
    generalize o.push b[V-1]=o1 at Mb ⊢
    refine wpS_bind (Xb ((L.set _).k.trans hk) ha hb sa sb Mb K v (by omega) (by omega) λl l1 Ml l2=>?_)
    dsimp only
    generalize hd:V-1-l=d
    by_cases lp:d>0
    refine cj lp ?_
    generalize o1++(b.extract l (V-1)).reverse=o2 at Ml ⊢
    by_cases q4:l=1
    case pos=>
     refine cj (by simpa using q4) ?_
     exact wpS_pure ⟨L.set _,.inl ⟨_,rfl,Ml.first' q4 b0 G⟩⟩
    refine cO (by simpa using q4) ?_
    by_cases q5:l=0
    case pos=>
     refine cj (by simpa using q5) ?_
     exact wpS_pure ⟨L.set _,.inl ⟨_,rfl,Ml.endB' q5⟩⟩
    refine cO (by simpa using q5) ?_
    have Ma:=Ml.pushA' K H l2
    have q6:1<l:=by omega
    have q7:l<=b.size:=by omega
    have q8:l<=V-1:=l1
    clear l1 l2 Ml hd q4 q5 lp
    revert q8 q7 q6 Ma o2 d l
    refine id ?K2
    case neg=>
     refine cO lp ?_
     have l0:l=V-1:=by omega
     rw[l0]at l2
     exact(id ?K2:_) (V-1) d o1 (Mb.pushA' K H l2) (by omega) (by omega) (aL _)
    intro l d o2 Ma q6 q7 q8
    refine wpS_bind (d_ (getElem?_pos a (k-1) H) ?_)
    by_cases q9:k-1=0
    case pos=>
     refine cj (by simpa using q9) ?_
     exact wpS_pure ⟨L.set _,.inl ⟨_,rfl,Ma.endA' q9⟩⟩
    refine cO (by simpa using q9) ?_
    split
    ·exact wpS_pure ⟨L.set _,.inr ⟨_,_,_,_,_,_,rfl,Ma,by omega,by omega,q6,q7,by omega⟩⟩
    ·exact wpS_pure ⟨L.set _,_,_,_,_,_,_,rfl,Ma,by omega,by omega,q6,q7,by omega⟩
end
end
end Sq
variable{lo hi:Nat}
namespace Sq
open PySem PyProof.Rows
section
variable{C:Cq}
noncomputable def SIn(C:Cq)(xs:Array Keyed)(lo hi:Nat):Prop:=∀i j,lo<=i->i<=j->j<hi->(KC C) xs i<=(KC C) xs j
structure Ch(st st':SortSt)(lo hi:Nat):Prop where
 perm:(arrOf st').Perm (arrOf st)
 kind:kindOf st'=kindOf st
 failed:failedOf st'=failedOf st
 pend:pendingOf st'=pendingOf st
 out:∀i,i<lo\/hi<=i->(arrOf st')[i]? = (arrOf st)[i]?
theorem Ch.refl(st:SortSt)(lo hi:Nat):Ch st st lo hi:=⟨Array.Perm.refl _,rfl,rfl,rfl,λ_ _=>rfl⟩
theorem Ch.size(h:Ch st st' lo hi):(arrOf st').size=(arrOf st).size:=h.perm.size_eq
theorem Ch.ints(h:Ch st st' lo hi)(B:Oks C (arrOf st)):Oks C (arrOf st'):=λp Z=>B p ((d8.mp h.perm).mem_iff.mp Z)
theorem Ch.trans{B:SortSt}(h:Ch st st' lo hi)(g:Ch st' B lo hi):Ch st B lo hi:=⟨g.perm.trans h.perm,g.kind.trans h.kind,g.failed.trans h.failed,g.pend.trans h.pend,λi q=>(g.out i q).trans (h.out i q)⟩
theorem Ch.set(B:xs.Perm (arrOf st))(D:∀i,i<lo\/hi<=i->xs[i]? = (arrOf st)[i]?):Ch st (setArr st xs) lo hi:=⟨B,rfl,rfl,rfl,D⟩
section
variable{prog:Program}{w:World}{A:Around}{E:Value->Shared->Prop}{s:Shared}{C:Cq}[LtOk prog w A s C]
theorem sZ{Q:Option Bool->SortSt->Prop}(J:kindOf st=C.κ)(D:Oks C (arrOf st))(hi:i<(arrOf st).size)(B:j<(arrOf st).size)(h:Q (some (decide ((KC C) (arrOf st) i<(KC C) (arrOf st) j))) st):
 wpS (model prog w) A E s (ltAt' i j) Q st:=by
 rw[jl hi,jl B]at h
 rw[ltAt'_eq]
 refine wpS_bind (wpS_get ?_)
 exact wpS_bind (d_ (getElem?_pos _ i hi) (wpS_bind (d_ (getElem?_pos _ j B) (yV J (D _ (by simp)) (D _ (by simp)) h))))
noncomputable def Gap(C:Cq)(xs:Array Keyed)(lo k l r:Nat):Prop:=(∀i,i<l->(KC C) xs (lo+i)<=(KC C) xs (lo+k))/\∀i,r<=i->i<k->(KC C) xs (lo+k)<(KC C) xs (lo+i)
theorem Tf{ok:Nat}{Q:Bool->SortSt->Prop}(B:kindOf st=C.κ)(D:Oks C (arrOf st))(hn:lo+n<=(arrOf st).size)(hok:ok<=n)(hs:(SIn C) (arrOf st) lo (lo+ok))
 (h:∀st',Ch st st' lo (lo+n)->(SIn C) (arrOf st') lo (lo+n)->Q true st'):wpS (model prog w) A E s (binarySort' lo n ok) Q st:=by
 rw[binarySort'_eq]
 refine wpS_bind (wpS_mono (wpS_forRange (I:=λk c st'=>c=(none,())/\Ch st st' lo (lo+n)/\(SIn C) (arrOf st') lo (lo+min k n))
  (Q:=λc st'=>c=(none,())/\Ch st st' lo (lo+n)/\(SIn C) (arrOf st') lo (lo+n)) ?s1 ?f1 ?z1) ?p1)
 case p1=>
  rintro c st' ⟨rfl,ch,X⟩
  exact wpS_pure (h st' ch X)
 case z1=>
  refine⟨rfl,Ch.refl _ _ _,λi j O P K=>?_⟩
  by_cases h1:ok=0
  ·rw[show i=j by omega]
   exact eV _
  ·exact hs i j O P (by omega)
 case f1=>
  rintro c st' ⟨H,ch,X⟩
  refine⟨H,ch,?_⟩
  rwa[show min (max (max ok 1) n) n=n by omega]at X
 case s1=>
  rintro k c st' k1 k2 ⟨rfl,ch,X⟩
  rw[show min k n=k by omega]at X
  have sz:=ch.size
  have Y:lo+k<(arrOf st').size:=by omega
  have R:=ch.ints D
  refine wpS_bind (wpS_mono (wpS_forRange (I:=λx c Z=>∃l r,((Z=st'/\c=(none,l,r))/\l<=r/\r<=k/\r-l<=k-x)/\(Gap C) (arrOf st') lo k l r) (Q:=λc Z=>∃l r,((Z=st'/\c=(none,l,r))/\l<=k)/\(Gap C) (arrOf st') lo k l l) ?s2 ?f2 ?z2) ?p2)
  case z2=>exact⟨0,k,⟨⟨rfl,rfl⟩,by omega,by omega,by omega⟩,λi hi=>by omega,λi h1 h2=>by omega⟩
  case f2=>
   rintro c Z ⟨l,r,⟨⟨rfl,rfl⟩,q1,q2,M⟩,V,W⟩
   have:l=r:=by omega
   subst this
   exact⟨l,l,⟨⟨rfl,rfl⟩,q2⟩,V,W⟩
  case s2=>
   rintro x c Z _ G ⟨l,r,⟨⟨rfl,rfl⟩,q1,q2,M⟩,V,W⟩
   dsimp only
   by_cases N:l≥r
   ·refine cj N ?_
    have:l=r:=by omega
    subst this
    exact wpS_pure ⟨l,l,⟨⟨rfl,rfl⟩,q2⟩,V,W⟩
   ·refine cO N ?_
    refine wpS_bind (sZ (ch.kind.trans B) R Y (by omega) ?_)
    by_cases U:(KC C) (arrOf Z) (lo+k)<(KC C) (arrOf Z) (lo+(l+r)/2)
    ·simp only[U,decide_true,if_true]
     refine wpS_pure ⟨l,(l+r)/2,⟨⟨rfl,rfl⟩,by omega,by omega,by omega⟩,V,λi h1 h2=>?_⟩
     exact Int.lt_of_lt_of_le U (X _ _ (by omega) (by omega) (by omega))
    ·simp only[U,decide_false,gb,if_false]
     refine wpS_pure ⟨(l+r)/2+1,r,⟨⟨rfl,rfl⟩,by omega,by omega,by omega⟩,λi h1=>?_,W⟩
     exact gW (X (lo+i) (lo+(l+r)/2) (by omega) (by omega) (by omega)) (Int.not_lt.mp U)
  case p2=>
   rintro c Z ⟨l,r,⟨⟨rfl,rfl⟩,J⟩,V,W⟩
   show wpS _ _ _ _ (do moveDown' (lo+k) (lo+l);pure (ForInStep.yield (none,()))) _ _
   rw[moveDown'_eq]
   have F:lo+k-(lo+l)=k-l:=by omega
   refine wpS_bind (wpS_modify (wpS_pure ⟨rfl,ch.trans (Ch.set (bubble_perm _ _ _) λi hi=>?_),?_⟩))
   ·rw[getElem?_bubble Y _ (by omega)]
    rw[if_neg (by omega),if_neg (by omega)]
   have L:min (k+1) n=k+1:=by omega
   rw[L]
   intro i j O P K
   show(KC C) (bubble (arrOf Z) (lo+k) (lo+k-(lo+l))) i<=(KC C) (bubble (arrOf Z) (lo+k) (lo+k-(lo+l))) j
   rw[K_bubble Y (by omega),K_bubble Y (by omega),show lo+k-(lo+k-(lo+l))=lo+l by omega]
   have T:∀x,lo<=x->x<lo+l->(KC C) (arrOf Z) x<=(KC C) (arrOf Z) (lo+k):=λx h1 h2=>by
    have:=V (x-lo) (by omega)
    rwa[show lo+(x-lo)=x by omega]at this
   have S:∀x,lo+l<=x->x<lo+k->(KC C) (arrOf Z) (lo+k)<(KC C) (arrOf Z) x:=λx h1 h2=>by
    have:=W (x-lo) (by omega) (by omega)
    rwa[show lo+(x-lo)=x by omega]at this
   repeat' split
   all_goals first
    | (exfalso;omega)
    |exact eV _
    |exact T _ (by omega) (by omega)
    |exact uO (S _ (by omega) (by omega))
    |exact X _ _ (by omega) (by omega) (by omega)
end
end
end Sq
variable{off:Nat}
namespace Sq
open PySem PyProof.Rows
section
variable{C:Cq}
noncomputable def putAll(x:Array Keyed)(off:Nat)(m:List Keyed):Array Keyed:=m.zipIdx.foldl (λa q=>a.setIfInBounds (off+q.2) q.1) x
theorem Jx:∀(m:List Keyed)(n off:Nat)(x:Array Keyed),off+n+m.length<=x.size ->
 ((m.zipIdx n).foldl (λa q=>a.setIfInBounds (off+q.2) q.1) x).size=x.size/\∀j,((m.zipIdx n).foldl (λa q=>a.setIfInBounds (off+q.2) q.1) x)[j]? = if off+n<=j/\j<off+n+m.length then m[j-(off+n)]? else x[j]?
 |[],n,off,x,_=>⟨rfl,λj=>by rw[if_neg (by simp only[jr];omega)];rfl⟩
 |p::m,n,off,x,h=>by
  rw[bB]at h
  obtain⟨h1,h2⟩:=Jx m (n+1) off (x.setIfInBounds (off+n) p) (by rw[o_];omega)
  rw[List.zipIdx_cons,gQ]
  refine⟨h1.trans o_,λj=>?_⟩
  rw[h2 j,bB]
  by_cases Y:off+(n+1)<=j/\j<off+(n+1)+m.length
  ·rw[if_pos Y,if_pos (by omega),show j-(off+n)=(j-(off+(n+1)))+1 by omega,List.getElem?_cons_succ]
  ·rw[if_neg Y,Array.getElem?_setIfInBounds]
   by_cases Z:off+n=j
   ·rw[if_pos Z,if_pos (by omega),if_pos (by omega),show j-(off+n)=0 by omega,List.getElem?_cons_zero]
   ·rw[if_neg Z,if_neg (by omega)]
theorem yZ{x:Array Keyed}{m:List Keyed}(h:off+m.length<=x.size)(j:Nat):(putAll x off m)[j]? = if off<=j/\j<off+m.length then m[j-off]? else x[j]?:=by
 have:=(Jx m 0 off x (by omega)).2 j
 simpa[putAll]using this
theorem Ou{x:Array Keyed}{m:List Keyed}(h:off+m.length<=x.size):(putAll x off m).toList=x.toList.take off++(m++x.toList.drop (off+m.length)):=by
 apply eX
 intro j
 rw[cC,yZ h]
 by_cases Z:j<off
 ·rw[if_neg (by omega),bW (by simp;omega),iU Z,cC]
 ·have l1:(x.toList.take off).length=off:=by simp;omega
  rw[bT (by omega),l1]
  by_cases Y:j<off+m.length
  ·rw[if_pos (by omega),bW (by omega)]
  ·rw[if_neg (by omega),bT (by omega),fj,cC]
   congr 1
   omega
theorem Ov{x:Array Keyed}{m:List Keyed}(h:off+m.length<=x.size)(p:m.Perm ((x.toList.drop off).take m.length)):(putAll x off m).Perm x:=by
 rw[d8,Ou h]
 have e:x.toList=x.toList.take off++((x.toList.drop off).take m.length++x.toList.drop (off+m.length)):=by
  rw[<-lF,fY,fY]
 refine List.Perm.trans (List.Perm.append_left _ (List.Perm.append_right _ p)) ?_
 rw[<-e]
end
end Sq
namespace Sq
open PySem PyProof.Rows
section
variable{C:Cq}
section
variable{prog:Program}{w:World}{A:Around}{E:Value->Shared->Prop}{s:Shared}{C:Cq}[LtOk prog w A s C]
theorem Ox{σ:Type}{st B:σ}{Q:PUnit->σ->Prop}(h:Q ⟨⟩ B):wpS M A E s (set B:StateT σ Sem PUnit) Q st:=wpS_modify (f:=λ_=>B) h
theorem xR{x:Array Keyed}(h:Oks C x):∀p∈(x.extract i j).toList,C.ok p:=λp Z=>h p (by
 rw[gU]at Z
 exact rG (rH Z))
theorem FQ{x:Array Keyed}(B:i<=j)(D:j<=x.size):(x.extract i j).size=j-i:=by rw[Array.size_extract];omega
theorem su{x:Array Keyed}{k:Nat}(D:j<=x.size)(B:i+k<j):(KC C) (x.extract i j) k=(KC C) x (i+k):=by
 unfold KC
 rw[Array.getElem?_extract,if_pos (by omega)]
theorem Vf{x:Array Keyed}(h:∀i j,i<=j->j<x.size->(KC C) x i<=(KC C) x j):x.toList.Pairwise (R C):=cM.mpr λi j hi Y Z=>by
 have:=h i j (eF Z) (by simpa using Y)
 rw[jl (by simpa using hi),jl (by simpa using Y)]at this
 unfold R
 simpa using this
theorem FW{sa p B p2:Nat}{Q:Bool->SortSt->Prop}(J:kindOf st=C.κ)(D:failedOf st=none)(h0:Oks C (arrOf st))(e1:(pendingOf st)[i]? = some (sa,na,p))(e2:(pendingOf st)[i+1]? = some (B,nb,p2))(hc:B=sa+na)(hn:B+nb<=(arrOf st).size)(n1:0<na)(n2:0<nb)
 (s1:(SIn C) (arrOf st) sa B) (s2:(SIn C) (arrOf st) B (B+nb))
 (h:∀st',(arrOf st').Perm (arrOf st)->kindOf st'=C.κ->failedOf st'=none->pendingOf st'=((pendingOf st).setIfInBounds i (sa,na+nb,p)).eraseIdxIfInBounds (i+1)->(∀j,j<sa\/B+nb<=j->(arrOf st')[j]? = (arrOf st)[j]?)->(SIn C) (arrOf st') sa (B+nb)->Q true st') :
 wpS (model prog w) A E s (mergeAt' i) Q st:=by
 have c:∀p∈(arrOf st).toList,C.ok p:=h0
 have O:B<(arrOf st).size:=by omega
 have hla:sa+na-1<(arrOf st).size:=by omega
 refine wpS_bind (m:=get) (wpS_get ?_)
 rw[e1,e2]
 dsimp only
 refine wpS_bind (Ox ?_)
 refine wpS_bind (d_ (getElem?_pos (arrOf st) B O) ?_)
 have Kb:(KC C) (arrOf st) B=C.nu ((arrOf st)[B]):=jl O
 refine wpS_bind (mO (arr:=arrOf st) (base:=sa) (n:=na) (hint:=0) J (mW c O) c (by omega) n1 (λa b ab b1 o=>?_) λk k1 k2 k3=>?_)
 ·unfold Pb at o ⊢
  have:=s1 (sa+a) (sa+b) (by omega) (by omega) (by omega)
  rw[if_neg aW,gP,decide_eq_false_iff_not]at o ⊢
  omega
 have lo1:∀u,u<k->(KC C) (arrOf st) (sa+u)<=(KC C) (arrOf st) B:=λu T=>by
  have:=k2 u T
  unfold Pb at this
  rw[if_neg aW,gP,decide_eq_false_iff_not]at this
  omega
 have M:∀u,k<=u->u<na->(KC C) (arrOf st) B<(KC C) (arrOf st) (sa+u):=λu Y X=>by
  have:=k3 u Y X
  unfold Pb at this
  rw[if_neg aW,oA,decide_eq_true_iff]at this
  omega
 dsimp only
 by_cases c1:na-k=0
 ·refine cj (by simpa using c1) ?_
  refine wpS_pure (h _ (Array.Perm.refl _) J D rfl (λ_ _=>rfl) λu v Y W Z=>?_)
  show(KC C) (arrOf st) u<=(KC C) (arrOf st) v
  by_cases V:v<B
  ·exact s1 u v Y W V
  ·by_cases X:u<B
   ·have g:=lo1 (u-sa) (by omega)
    have a2:=s2 B v (aL _) (by omega) Z
    rw[show sa+(u-sa)=u by omega]at g
    omega
   ·exact s2 u v (by omega) W Z
 refine cO (by simpa using c1) ?_
 have N:sa+k+(na-k)-1<(arrOf st).size:=by omega
 have exl:sa+k+(na-k)-1=B-1:=by omega
 refine wpS_bind (d_ (getElem?_pos (arrOf st) (sa+k+(na-k)-1) N) ?_)
 have Ka:(KC C) (arrOf st) (B-1)=C.nu ((arrOf st)[sa+k+(na-k)-1]):=by rw[<-exl];exact jl N
 refine wpS_bind (mO (arr:=arrOf st) (base:=B) (n:=nb) (hint:=nb-1) J (mW c N) c (by omega) (by omega) (λa b ab b1 o=>?_) λl l1 l2 l3=>?_)
 ·unfold Pb at o ⊢
  have:=s2 (B+a) (B+b) (by omega) (by omega) (by omega)
  rw[if_pos rfl,decide_eq_true_iff]at o ⊢
  omega
 have H:∀u,u<l->(KC C) (arrOf st) (B+u)<(KC C) (arrOf st) (B-1):=λu T=>by
  have:=l2 u T
  unfold Pb at this
  rw[if_pos rfl,decide_eq_true_iff]at this
  omega
 have F:∀u,l<=u->u<nb->(KC C) (arrOf st) (B-1)<=(KC C) (arrOf st) (B+u):=λu Y X=>by
  have:=l3 u Y X
  unfold Pb at this
  rw[if_pos rfl,decide_eq_false_iff_not]at this
  omega
 dsimp only
 have l0:0<l:=by
  rcases ug l with z|z
  ·have g:=F 0 (by omega) n2
   have a2:=M (na-1) (by omega) (by omega)
   rw[show sa+(na-1)=B-1 by omega]at a2
   rw[lE]at g
   omega
  ·exact z
 refine cO (by simpa using lC l0) ?_
 have d:((arrOf st).extract (sa+k) B).size=B-(sa+k):=FQ (by omega) (by omega)
 have zy:((arrOf st).extract B (B+l)).size=l:=by rw[FQ (by omega) (by omega)];omega
 have px:((arrOf st).extract (sa+k) B).toList.Pairwise (R C):=Vf λu v W Z=>by
  rw[d]at Z
  rw[su (by omega) (by omega),su (by omega) (by omega)]
  exact s1 _ _ (by omega) (by omega) (by omega)
 have py:((arrOf st).extract B (B+l)).toList.Pairwise (R C):=Vf λu v W Z=>by
  rw[zy]at Z
  rw[su (by omega) (by omega),su (by omega) (by omega)]
  exact s2 _ _ (by omega) (by omega) (by omega)
 have f0:(KC C) ((arrOf st).extract B (B+l)) 0<(KC C) ((arrOf st).extract (sa+k) B) 0:=by
  rw[su (by omega) (by omega),su (by omega) (by omega),lE,lE]
  exact M k (aL _) (by omega)
 have xl:((arrOf st).extract (sa+k) B).size-1<((arrOf st).extract (sa+k) B).size:=by omega
 have fl:∀y∈((arrOf st).extract B (B+l)).toList,(R C) y (((arrOf st).extract (sa+k) B)[((arrOf st).extract (sa+k) B).size-1]'xl):=λy hy=>by
  obtain⟨u,Y,rfl⟩:=oH (x:=(arrOf st).extract B (B+l)) (i:=0) (by rw[d9];exact hy)
  have g:=jl (C:=C) Y
  have a2:=jl (C:=C) xl
  unfold R
  rw[<-g,<-a2,su (by omega) (by omega),su (by omega) (by omega)]
  have:=H (0+u) (by omega)
  rw[d,show sa+k+(B-(sa+k)-1)=B-1 by omega]
  omega
 have fin:∀(r:Array Keyed)(st':SortSt),(Res C) ((arrOf st).extract (sa+k) B) ((arrOf st).extract B (B+l)) r->kindOf st'=kindOf st->arrOf st'=arrOf st->failedOf st'=failedOf st->pendingOf st'=((pendingOf st).setIfInBounds i (sa,na+nb,p)).eraseIdxIfInBounds (i+1) ->
  Q true (setArr st' (putAll (arrOf st) (sa+k) r.toList)):=λr st' U g1 g2 g3 g4=>by
  have rl:r.toList.length=B+l-(sa+k):=by
   rw[U.P.length_eq,bG,bD,bD,d,zy]
   omega
  have G:sa+k+r.toList.length<=(arrOf st).size:=by omega
  have cut:((arrOf st).toList.drop (sa+k)).take r.toList.length=((arrOf st).extract (sa+k) B).toList++((arrOf st).extract B (B+l)).toList:=by
   rw[gU,gU,rl,show B+l-(sa+k)=(B-(sa+k))+(B+l-B)by omega,List.take_add,lF,show sa+k+(B-(sa+k))=B by omega]
  have I:∀u,sa+k<=u->u<B+l->∃v,sa+k<=v/\v<B+l/\(KC C) (putAll (arrOf st) (sa+k) r.toList) u=(KC C) (arrOf st) v:=λu Y X=>by
   have q:=yZ G u
   rw[if_pos (by omega)]at q
   have T:u-(sa+k)<r.toList.length:=by omega
   rw[aF T]at q
   have hm:r.toList[u-(sa+k)]∈((arrOf st).toList.drop (sa+k)).take r.toList.length:=by
    rw[cut]
    exact U.P.mem_iff.mp (cg T)
   obtain⟨v,Z,V,ev⟩:=pU hm
   refine⟨sa+k+v,by omega,by omega,?_⟩
   rw[jl V,<-ev]
   unfold KC
   rw[q]
  have out:∀u,u<sa+k\/B+l<=u->(KC C) (putAll (arrOf st) (sa+k) r.toList) u=(KC C) (arrOf st) u:=λu T=>K_congr (by rw[yZ G,if_neg (by omega)])
  have ms:∀u v,sa+k<=u->u<=v->v<B+l->(KC C) (putAll (arrOf st) (sa+k) r.toList) u<=(KC C) (putAll (arrOf st) (sa+k) r.toList) v:=λu v Y W Z=>by
   have eq:∀u,sa+k<=u->u<B+l->(KC C) (putAll (arrOf st) (sa+k) r.toList) u=(KC C) r (u-(sa+k)):=λu Y X=>K_congr (by
    rw[yZ G,if_pos (by omega),cC])
   rw[eq u Y (by omega),eq v (by omega) Z]
   exact K_R U.S (by omega) (by rw[<-bD];omega)
  have up:∀v,sa+k<=v->v<B+l->(KC C) (arrOf st) v<=(KC C) (arrOf st) (B-1):=λv Z V=>by
   by_cases z:v<B
   ·exact s1 v (B-1) (by omega) (by omega) (by omega)
   ·have:=H (v-B) (by omega)
    rw[show B+(v-B)=v by omega]at this
    omega
  have dn:∀v,sa+k<=v->v<B+l->(KC C) (arrOf st) B<=(KC C) (arrOf st) v:=λv Z V=>by
   by_cases z:v<B
   ·have:=M (v-sa) (by omega) (by omega)
    rw[show sa+(v-sa)=v by omega]at this
    omega
   ·exact s2 B v (aL _) (by omega) (by omega)
  have low:∀u,sa<=u->u<sa+k->(KC C) (arrOf st) u<=(KC C) (arrOf st) B:=λu Y X=>by
   have:=lo1 (u-sa) (by omega)
   rwa[show sa+(u-sa)=u by omega]at this
  have hig:∀v,B+l<=v->v<B+nb->(KC C) (arrOf st) (B-1)<=(KC C) (arrOf st) v:=λv Z V=>by
   have:=F (v-B) (by omega) (by omega)
   rwa[show B+(v-B)=v by omega]at this
  refine h _ ?_ (g1.trans J) (g3.trans D) g4 (λj hj=>?_) λu v Y W Z=>?_
  ·exact Ov G (by rw[cut];exact U.P)
  ·show(putAll (arrOf st) (sa+k) r.toList)[j]? = _
   rw[yZ G,if_neg (by omega)]
  ·show(KC C) (putAll (arrOf st) (sa+k) r.toList) u<=(KC C) (putAll (arrOf st) (sa+k) r.toList) v
   by_cases X:u<sa+k
   ·rw[out u (.inl X)]
    by_cases V:v<sa+k
    ·rw[out v (.inl V)];exact s1 u v Y W (by omega)
    ·by_cases v3:v<B+l
     ·obtain⟨t,t1,t2,t3⟩:=I v (by omega) v3
      rw[t3]
      exact gW (low u Y X) (dn t t1 t2)
     ·rw[out v (.inr (by omega))]
      exact gW (low u Y X) (s2 B v (aL _) (by omega) Z)
   ·by_cases u3:u<B+l
    ·by_cases v3:v<B+l
     ·exact ms u v (by omega) W v3
     ·rw[out v (.inr (by omega))]
      obtain⟨t,t1,t2,t3⟩:=I u (by omega) u3
      rw[t3]
      exact gW (up t t1 t2) (hig v (by omega) Z)
    ·rw[out u (.inr (by omega)),out v (.inr (by omega))]
     exact s2 u v (by omega) W Z
 have K:0<((arrOf st).extract (sa+k) B).size:=by rw[d];omega
 have L:0<((arrOf st).extract B (B+l)).size:=by rw[zy];exact l0
 have nn:(failedOf st).isNone=true:=by rw[D];rfl
 split
 ·refine wpS_bind (FN J (xR h0) (xR h0) K L px py f0 fl λr st' U E=>?_)
  refine wpS_bind (wpS_modify (wpS_bind (wpS_get (wpS_pure ?_))))
  have:=fin r st' U E.k E.a E.f E.p
  rw[<-E.a]at this
  have e:(failedOf st').isNone=true:=by rw[E.f];exact nn
  show Q (failedOf st').isNone _
  rw[e]
  exact this
 ·refine wpS_bind (FP J (xR h0) (xR h0) K L px py f0 fl λr st' U E=>?_)
  refine wpS_bind (wpS_modify (wpS_bind (wpS_get (wpS_pure ?_))))
  have:=fin r st' U E.k E.a E.f E.p
  rw[<-E.a]at this
  have e:(failedOf st').isNone=true:=by rw[E.f];exact nn
  show Q (failedOf st').isNone _
  rw[e]
  exact this
end
end
end Sq
namespace Sq
open PySem PyProof.Rows
section
variable{C:Cq}
noncomputable def NIn(C:Cq)(xs:Array Keyed)(lo hi:Nat):Prop:=∀i j,lo<=i->i<=j->j<hi->(KC C) xs j<=(KC C) xs i
section
variable{prog:Program}{w:World}{A:Around}{E:Value->Shared->Prop}{s:Shared}{C:Cq}[LtOk prog w A s C]
theorem tu(h1:lo<=i)(h2:j<=hi)(B:j<=(arrOf st).size):Ch st (setArr st (mirror (arrOf st) i j ((j-i)/2))) lo hi:=
 Ch.set (mirror_perm _ _ _ _) λu Z=>by rw[getElem?_mirror_all B,if_neg (by omega)]
theorem SIn.one(h:hi<=lo+1):(SIn C) xs lo hi:=λi j h1 h2 Z=>by
 have:i=j:=by omega
 subst this
 exact eV _
theorem SIn.more(h:(SIn C) xs lo (lo+n))(hn:1<=n)(q:¬(KC C) xs (lo+n)<(KC C) xs (lo+n-1)):(SIn C) xs lo (lo+(n+1)):=λi j h1 h2 Y=>by
 by_cases z:j<lo+n
 ·exact h i j h1 h2 z
 ·have Z:j=lo+n:=by omega
  subst Z
  by_cases y:i=lo+n
  ·rw[y];exact eV _
  ·have:=h i (lo+n-1) h1 (by omega) (by omega)
   omega
theorem NIn.more(h:(NIn C) xs lo (lo+n))(hn:1<=n)(q:(KC C) xs (lo+n)<=(KC C) xs (lo+n-1)):(NIn C) xs lo (lo+(n+1)):=λi j h1 h2 Y=>by
 by_cases z:j<lo+n
 ·exact h i j h1 h2 z
 ·have Z:j=lo+n:=by omega
  subst Z
  by_cases y:i=lo+n
  ·rw[y];exact eV _
  ·have:=h i (lo+n-1) h1 (by omega) (by omega)
   omega
theorem KR{B:Nat}{Q:Option Nat->SortSt->Prop}(hk:kindOf st=C.κ)(h0:Oks C (arrOf st))(h1:1<=B)(hn:lo+B<=(arrOf st).size)
 (h:∀m st',Ch st st' lo (lo+B)->1<=m->m<=B->(SIn C) (arrOf st') lo (lo+m)->Q (some m) st'):wpS (model prog w) A E s (countRun' lo B) Q st:=by
 refine wpS_bind (wpS_mono (wpS_forRange (a:=1) (b:=B) (I:=λx c st'=>st'=st/\c=(none,x)/\(SIn C) (arrOf st) lo (lo+x))
  (Q:=λc st'=>st'=st/\∃n,c=(none,n)/\1<=n/\n<=B/\(SIn C) (arrOf st) lo (lo+n)/\(n=B\/(KC C) (arrOf st) (lo+n)<(KC C) (arrOf st) (lo+n-1))) ?s1 ?f1 ⟨rfl,rfl,SIn.one (by omega)⟩) ?p1)
 case f1=>
  rintro c st' ⟨rfl,rfl,U⟩
  rw[show max 1 B=B by omega]at U ⊢
  exact⟨rfl,B,rfl,h1,aL _,U,.inl rfl⟩
 case s1=>
  rintro x c st' H f ⟨rfl,rfl,U⟩
  dsimp only
  refine wpS_bind (sZ hk h0 (by omega) (by omega) ?_)
  dsimp only
  by_cases lt:(KC C) (arrOf st') (lo+x)<(KC C) (arrOf st') (lo+x-1)
  ·refine cj (dTr lt) ?_
   exact wpS_pure ⟨rfl,x,rfl,H,by omega,U,.inr lt⟩
  ·refine cO (by rw[dFa lt];exact aW) ?_
   exact wpS_pure ⟨rfl,rfl,U.more H lt⟩
 case p1=>
  rintro c st' ⟨rfl,n,rfl,n1,d,U,r⟩
  dsimp only
  by_cases g:n=B
  ·refine cj (by simpa using g) ?_
   exact wpS_pure (h n st' (Ch.refl _ _ _) n1 d U)
  refine cO (by simpa using g) ?_
  have lt:=r.resolve_left g
  by_cases c2:n>1
  case' pos=>
   refine cj c2 ?_
   refine wpS_bind (sZ hk h0 (by omega) (by omega) ?_)
   dsimp only
   by_cases e:(KC C) (arrOf st') lo<(KC C) (arrOf st') (lo+n-1)
   case pos=>
    refine cj (dTr e) ?_
    exact wpS_pure (h n st' (Ch.refl _ _ _) n1 d U)
   refine cO (by rw[dFa e];exact aW) ?_
   refine wpS_bind (wpS_reverse ?_)
   have al:∀u,lo<=u->u<lo+n->(KC C) (arrOf st') u=(KC C) (arrOf st') (lo+n-1):=λu G D=>by
    have a1:=U lo u (aL _) G D
    have a2:=U u (lo+n-1) G (by omega) (by omega)
    omega
   have ch:Ch st' (setArr st' (mirror (arrOf st') lo (lo+n) ((lo+n-lo)/2))) lo (lo+B):=tu (aL _) (by omega) (by omega)
   have M:=K_mirror_equal (xs:=arrOf st') (i:=lo) (j:=lo+n) (by omega) al
   have l:(NIn C) (arrOf (setArr st' (mirror (arrOf st') lo (lo+n) ((lo+n-lo)/2)))) lo (lo+(n+1)):=λi j i1 F j1=>by
    show(KC C) (mirror (arrOf st') lo (lo+n) ((lo+n-lo)/2)) j<=(KC C) (mirror (arrOf st') lo (lo+n) ((lo+n-lo)/2)) i
    rw[M,M]
    by_cases z:j<lo+n
    ·rw[al i i1 (by omega),al j (by omega) z];exact eV _
    ·have k:j=lo+n:=by omega
     subst k
     by_cases y:i=lo+n
     ·rw[y];exact eV _
     ·rw[al i i1 (by omega)];omega
   generalize setArr st' (mirror (arrOf st') lo (lo+n) ((lo+n-lo)/2))=S at ch l ⊢
  case' neg=>
   refine cO c2 ?_
   have en:n=1:=by omega
   have o:(NIn C) (arrOf st') lo (lo+(n+1)):=λi j i1 F j1=>by
    by_cases y:i=j
    ·rw[y];exact eV _
    ·have ei:i=lo:=by omega
     have k:j=lo+n:=by omega
     rw[ei,k]
     rw[show lo+n-1=lo by omega]at lt
     omega
   obtain⟨S,es⟩:∃S,S=st':=⟨_,rfl⟩
   have ch:Ch st' S lo (lo+B):=by rw[es];exact Ch.refl _ _ _
   have l:(NIn C) (arrOf S) lo (lo+(n+1)):=by rw[es];exact o
   rw[<-es]
  all_goals
   refine wpS_bind (wpS_lift (wpAny_rule ⟨rfl,?_⟩))
   refine wpS_bind (wpS_mono (wpS_forRange (I:=λx c Z=>∃q,c=(none,x,q)/\Ch st' Z lo (lo+B)/\(NIn C) (arrOf Z) lo (lo+x)/\q+1<=x/\∀u,lo+x-(q+1)<=u->u<lo+x->(KC C) (arrOf Z) u=(KC C) (arrOf Z) (lo+x-1))
    (Q:=λc Z=>∃m q,c=(none,m,q)/\n+1<=m/\m<=B/\Ch st' Z lo (lo+B)/\(NIn C) (arrOf Z) lo (lo+m)/\q+1<=m/\∀u,lo+m-(q+1)<=u->u<lo+m->(KC C) (arrOf Z) u=(KC C) (arrOf Z) (lo+m-1)) ?s2 ?f2 ⟨0,rfl,ch,l,by omega,λu G D=>by congr 1;omega⟩) ?p2)
   case f2=>
    rintro c Z ⟨q,rfl,X,W,q1,T⟩
    rw[show max (n+1) B=B by omega]at W q1 T ⊢
    exact⟨B,q,rfl,by omega,aL _,X,W,q1,T⟩
   case s2=>
    rintro x c Z H f ⟨q,rfl,X,W,q1,T⟩
    dsimp only
    have sz:=X.size
    have k3:=X.kind.trans hk
    have i3:=X.ints h0
    refine wpS_bind (sZ k3 i3 (by omega) (by omega) ?_)
    dsimp only
    by_cases O:(KC C) (arrOf Z) (lo+x)<(KC C) (arrOf Z) (lo+x-1)
    ·refine cj (dTr O) ?_
     by_cases t:q>0
     ·refine cj t ?_
      have M:=K_mirror_equal (xs:=arrOf Z) (i:=lo+x-(q+1)) (j:=lo+x) (by omega) T
      refine wpS_bind (wpS_reverse (wpS_pure ⟨0,rfl,X.trans (tu (by omega) (by omega) (by omega)),?_,by omega,λu G D=>by congr 1;omega⟩))
      have no:=W.more (by omega) (uO O)
      intro i j i1 F j1
      show(KC C) (mirror (arrOf Z) (lo+x-(q+1)) (lo+x) _) j<=(KC C) (mirror (arrOf Z) (lo+x-(q+1)) (lo+x) _) i
      rw[M,M]
      exact no i j i1 F j1
     ·refine cO t ?_
      exact wpS_pure ⟨0,rfl,X,W.more (by omega) (uO O),by omega,λu G D=>by congr 1;omega⟩
    ·refine cO (by rw[dFa O];exact aW) ?_
     refine wpS_bind (sZ k3 i3 (by omega) (by omega) ?_)
     dsimp only
     by_cases p:(KC C) (arrOf Z) (lo+x-1)<(KC C) (arrOf Z) (lo+x)
     ·refine cj (dTr p) ?_
      exact wpS_pure ⟨x,q,rfl,H,by omega,X,W,q1,T⟩
     ·refine cO (by rw[dFa p];exact aW) ?_
      refine wpS_pure ⟨q+1,rfl,X,W.more (by omega) (by omega),by omega,λu G D=>?_⟩
      rw[show lo+(x+1)-1=lo+x by omega]
      by_cases z:u=lo+x
      ·rw[z]
      ·rw[T u (by omega) (by omega)];omega
   case p2=>
    rintro c Z ⟨m,q,rfl,m1,m2,X,W,q1,T⟩
    dsimp only
    have sz:=X.size
    by_cases t:q>0
    case' pos=>
     refine cj t ?_
     refine wpS_bind (wpS_reverse ?_)
     have M:=K_mirror_equal (xs:=arrOf Z) (i:=lo+m-(q+1)) (j:=lo+m) (by omega) T
     have N:Ch st' (setArr Z (mirror (arrOf Z) (lo+m-(q+1)) (lo+m) ((lo+m-(lo+m-(q+1)))/2))) lo (lo+B):=X.trans (tu (by omega) (by omega) (by omega))
     have L:(NIn C) (arrOf (setArr Z (mirror (arrOf Z) (lo+m-(q+1)) (lo+m) ((lo+m-(lo+m-(q+1)))/2)))) lo (lo+m):=λi j i1 F j1=>by
      show(KC C) (mirror (arrOf Z) (lo+m-(q+1)) (lo+m) _) j<=(KC C) (mirror (arrOf Z) (lo+m-(q+1)) (lo+m) _) i
      rw[M,M]
      exact W i j i1 F j1
     generalize setArr Z (mirror (arrOf Z) (lo+m-(q+1)) (lo+m) ((lo+m-(lo+m-(q+1)))/2))=Y at N L ⊢
    case' neg=>
     refine cO t ?_
     obtain⟨Y,J⟩:∃Y,Y=Z:=⟨_,rfl⟩
     have N:Ch st' Y lo (lo+B):=by rw[J];exact X
     have L:(NIn C) (arrOf Y) lo (lo+m):=by rw[J];exact W
     rw[<-J]
    all_goals
     have sz4:=N.size
     refine wpS_bind (wpS_reverse ?_)
     have R:Ch st' (setArr Y (mirror (arrOf Y) lo (lo+m) ((lo+m-lo)/2))) lo (lo+B):=N.trans (tu (aL _) (by omega) (by omega))
     have v:(SIn C) (arrOf (setArr Y (mirror (arrOf Y) lo (lo+m) ((lo+m-lo)/2)))) lo (lo+m):=λi j i1 F j1=>by
      show(KC C) (mirror (arrOf Y) lo (lo+m) ((lo+m-lo)/2)) i<=(KC C) (mirror (arrOf Y) lo (lo+m) ((lo+m-lo)/2)) j
      rw[K_mirror (by omega),K_mirror (by omega),if_pos (by omega),if_pos (by omega)]
      exact L _ _ (by omega) (by omega) (by omega)
     generalize setArr Y (mirror (arrOf Y) lo (lo+m) ((lo+m-lo)/2))=P at R v ⊢
     have sz5:=R.size
     refine wpS_bind (wpS_mono (wpS_forRange (I:=λx c V=>V=P/\c=(none,x)/\(SIn C) (arrOf P) lo (lo+x)) (Q:=λc V=>V=P/\∃z,c=(none,z)/\m<=z/\z<=B/\(SIn C) (arrOf P) lo (lo+z)) ?s3 ?f3 ⟨rfl,rfl,v⟩) ?p3)
     case f3=>
      rintro c V ⟨rfl,rfl,U⟩
      rw[show max m B=B by omega]at U ⊢
      exact⟨rfl,B,rfl,m2,aL _,U⟩
     case s3=>
      rintro x c V H f ⟨rfl,rfl,U⟩
      dsimp only
      refine wpS_bind (sZ (R.kind.trans hk) (R.ints h0) (by omega) (by omega) ?_)
      dsimp only
      by_cases K:(KC C) (arrOf V) (lo+x)<(KC C) (arrOf V) (lo+x-1)
      ·refine cj (dTr K) ?_
       exact wpS_pure ⟨rfl,x,rfl,H,by omega,U⟩
      ·refine cO (by rw[dFa K];exact aW) ?_
       exact wpS_pure ⟨rfl,rfl,U.more (by omega) K⟩
     case p3=>
      rintro c V ⟨rfl,z,rfl,z1,z2,U⟩
      exact wpS_pure (h z V R (by omega) z2 U)
end
end
end Sq
variable{st0:SortSt}
namespace Sq
open PySem PyProof.Rows
section
variable{C:Cq}
noncomputable def Runs(C:Cq)(xs:Array Keyed):List (Nat×Nat×Nat)->Nat->Nat->Prop
 |[],a,b=>a=b
 | (st,len,_)::r,a,b=>st=a/\0<len/\(SIn C) xs a (a+len)/\(Runs C) xs r (a+len) b
theorem Runs.le:∀{ps:List (Nat×Nat×Nat)}{a b:Nat},(Runs C) xs ps a b->a+ps.length<=b
 |[],a,b,h=>by have:a=b:=h;simp only[jr];omega
 | (st,len,_)::r,a,b,h=>by
  have:=h.2.2.2.le
  have:=h.2.1
  rw[bB]
  omega
theorem SIn.same{ys:Array Keyed}(h:(SIn C) xs lo hi)(e:∀j,lo<=j->j<hi->(KC C) ys j=(KC C) xs j):(SIn C) ys lo hi:=λi j h1 h2 Z=>by
 rw[e i h1 (by omega),e j (by omega) Z]
 exact h i j h1 h2 Z
theorem Runs.same{ys:Array Keyed}:∀{ps:List (Nat×Nat×Nat)}{a b:Nat},(Runs C) xs ps a b->(∀j,a<=j->j<b->(KC C) ys j=(KC C) xs j)->(Runs C) ys ps a b
 |[],a,b,h,_=>h
 | (st,len,p)::r,a,b,h,e=>by
  have l:=h.2.2.2.le
  exact⟨h.1,h.2.1,h.2.2.1.same λj j1 j2=>e j j1 (by omega),Runs.same h.2.2.2 λj j1 j2=>e j (by omega) j2⟩
theorem Runs.app:∀{ps:List (Nat×Nat×Nat)}{a b c p:Nat},(Runs C) xs ps a b->0<c->(SIn C) xs b (b+c)->(Runs C) xs (ps++[(b,c,p)]) a (b+c)
 |[],a,b,c,p,h,h1,h2=>by
  have:a=b:=h
  subst this
  exact⟨rfl,h1,h2,rfl⟩
 | (st,len,q)::r,a,b,c,p,h,h1,h2=>⟨h.1,h.2.1,h.2.2.1,Runs.app h.2.2.2 h1 h2⟩
theorem Runs.pw(f:Nat×Nat×Nat->Nat):∀{ps:List (Nat×Nat×Nat)}{a b i:Nat},(Runs C) xs ps a b->(Runs C) xs (ps.modify i λq=>(q.1,q.2.1,f q)) a b
 |[],a,b,i,h=>by cases i<;>exact h
 | (st,len,q)::r,a,b,0,h=>h
 | (st,len,q)::r,a,b,i+1,h=>⟨h.1,h.2.1,h.2.2.1,Runs.pw f (i:=i) h.2.2.2⟩
theorem Runs.merge:∀{ps:List (Nat×Nat×Nat)}{a b i sa na p B nb q:Nat},(Runs C) xs ps a b->ps[i]? = some (sa,na,p)->ps[i+1]? = some (B,nb,q) ->
 (a<=sa/\B=sa+na/\0<na/\0<nb/\(SIn C) xs sa B/\(SIn C) xs B (B+nb)/\B+nb<=b) /\
 ∀ys,(∀j,j<sa\/B+nb<=j->(KC C) ys j=(KC C) xs j)->(SIn C) ys sa (B+nb)->(Runs C) ys ((ps.set i (sa,na+nb,p)).eraseIdx (i+1)) a b
 |[],a,b,i,sa,na,p,B,nb,q,h,Y,Z=>by cases Y
 | (st,len,U)::r,a,b,0,sa,na,p,B,nb,q,h,Y,Z=>by
  cases Y
  cases r with
  |nil=>cases Z
  |cons x r=>
   cases Z
   obtain⟨h1,h2,W,X,S,T,V⟩:=h
   subst h1 X
   have l:=V.le
   refine⟨⟨aL _,rfl,h2,S,W,T,by omega⟩,λys e s=>⟨rfl,by omega,by rwa[<-tV],?_⟩⟩
   have:=V.same (ys:=ys) λj j1 j2=>e j (.inr (by omega))
   rwa[<-tV]
 | (st,len,U)::r,a,b,i+1,sa,na,p,B,nb,q,h,Y,Z=>by
  obtain⟨h1,h2,W,X⟩:=h
  subst h1
  obtain⟨⟨K,L,M,N,O,P,Q⟩,R⟩:=Runs.merge (i:=i) X (by simpa using Y) (by simpa using Z)
  refine⟨⟨by omega,L,M,N,O,P,Q⟩,λys e s=>⟨rfl,h2,W.same λj j1 j2=>e j (.inl (by omega)),?_⟩⟩
  exact R ys e s
section
variable{prog:Program}{w:World}{A:Around}{E:Value->Shared->Prop}{s:Shared}{C:Cq}[LtOk prog w A s C]
structure W(C:Cq)(st0 st:SortSt)(lo:Nat):Prop where
 perm:(arrOf st).Perm (arrOf st0)
 kind:kindOf st=C.κ
 failed:failedOf st=none
 runs:(Runs C) (arrOf st) (pendingOf st).toList 0 lo
theorem W.ints(h:(W C) st0 st lo)(B:Oks C (arrOf st0)):Oks C (arrOf st):=λp Z=>B p ((d8.mp h.perm).mem_iff.mp Z)
theorem FZ{Q:Bool->SortSt->Prop}(J:Oks C (arrOf st0))(B:(W C) st0 st lo)(D:lo<=(arrOf st0).size)(hi:i+1<(pendingOf st).size)
 (h:∀st',(W C) st0 st' lo->(pendingOf st').size+1=(pendingOf st).size->(∀j,lo<=j->(arrOf st')[j]? = (arrOf st)[j]?)->Q true st'):wpS (model prog w) A E s (mergeAt' i) Q st:=by
 obtain⟨sa,na,p,V⟩:∃sa na p,(pendingOf st)[i]? = some (sa,na,p):=⟨_,_,_,getElem?_pos (pendingOf st) i (by omega)⟩
 obtain⟨Z,nb,q,X⟩:∃Z nb q,(pendingOf st)[i+1]? = some (Z,nb,q):=⟨_,_,_,getElem?_pos (pendingOf st) (i+1) hi⟩
 obtain⟨⟨F,M,N,O,P,R,G⟩,S⟩:=B.runs.merge (i:=i) (by rw[cC];exact V) (by rw[cC];exact X)
 have sz:=B.perm.size_eq
 refine FW B.kind B.failed (B.ints J) V X M (by omega) N O P R λst' H I K T U L=>h st' ⟨H.trans B.perm,I,K,?_⟩ ?_ λj Y=>U j (.inr (by omega))
 ·have:=S (arrOf st') (λj Y=>K_congr (U j Y)) L
  rw[T]
  simpa using this
 ·rw[T,<-bD,<-bD]
  rw[show(((pendingOf st).setIfInBounds i (sa,na+nb,p)).eraseIdxIfInBounds (i+1)).toList=((pendingOf st).toList.set i (sa,na+nb,p)).eraseIdx (i+1)by simp,List.length_eraseIdx_of_lt (by simpa using hi),dh,bD]
  omega
theorem W.push(h:(W C) st0 st lo)(hn:0<n)(B:(SIn C) (arrOf st) lo (lo+n)):(W C) st0 (setPending st ((pendingOf st).push (lo,n,0))) (lo+n):=
 ⟨h.perm,h.kind,h.failed,by
  show(Runs C) (arrOf st) ((pendingOf st).push (lo,n,0)).toList 0 (lo+n)
  rw[oR]
  exact h.runs.app hn B⟩
theorem W.pow{f:Nat×Nat×Nat->Nat}(h:(W C) st0 st lo):(W C) st0 (setPending st ((pendingOf st).modify i λq=>(q.1,q.2.1,f q))) lo:=
 ⟨h.perm,h.kind,h.failed,by
  show(Runs C) (arrOf st) ((pendingOf st).modify i λq=>(q.1,q.2.1,f q)).toList 0 lo
  rw[Array.toList_modify]
  exact h.runs.pw f⟩
theorem W.of{D B:SortSt}(h:(W C) st0 D lo)(ch:Ch D B lo hi):(W C) st0 B lo:=
 ⟨ch.perm.trans h.perm,ch.kind.trans h.kind,ch.failed.trans h.failed,by
  rw[ch.pend]
  exact h.runs.same λj _ j2=>K_congr (ch.out j (.inl j2))⟩
theorem Oz{Q:Unit->SortSt->Prop}(hk:kindOf st=C.κ)(hf:failedOf st=none)(hp:pendingOf st = #[])(B:Oks C (arrOf st))(h2:2<=(arrOf st).size)
 (h:∀st',(arrOf st').Perm (arrOf st)->failedOf st'=none->STo C (arrOf st') (arrOf st).size->Q () st'):wpS (model prog w) A E s sortRuns' Q st:=by
 have W0:(W C) st st 0:=⟨Array.Perm.refl _,hk,hf,by rw[hp];rfl⟩
 rw[sortRuns'_eq]
 refine wpS_bind (wpS_get ?_)
 dsimp only
 refine wpS_bind (wpS_mono (wpS_forRange (I:=λx c st'=>∃lo,c=(none,lo)/\lo<=(arrOf st).size/\min x (arrOf st).size<=lo/\(W C) st st' lo)
  (Q:=λc st'=>c=(none,(arrOf st).size)/\(W C) st st' (arrOf st).size) ?s1 ?f1 ⟨0,rfl,cZ _,by omega,W0⟩) ?p1)
 case f1=>
  rintro c st' ⟨lo,rfl,l1,l2,Ww⟩
  have:lo=(arrOf st).size:=by omega
  subst this
  exact⟨rfl,Ww⟩
 case s1=>
  rintro x c K _ hx ⟨lo,rfl,l1,l2,U⟩
  dsimp only
  have sz:=U.perm.size_eq
  by_cases r:lo≥(arrOf st).size
  ·refine cj r ?_
   have:lo=(arrOf st).size:=by omega
   subst this
   exact wpS_pure ⟨rfl,U⟩
  refine cO r ?_
  refine wpS_bind (KR U.kind (U.ints B) (by omega) (by omega) λm Z ch e m2 N=>?_)
  dsimp only
  by_cases t:m<minRun' (arrOf st).size (arrOf st).size 0
  case' pos=>
   refine cj t ?_
   refine wpS_bind (wpS_lift (wpAny_rule ⟨rfl,?_⟩))
   have p:=ch.size
   have X:=U.of ch
   refine wpS_bind (Tf X.kind (X.ints B) (by omega) (by omega) N λL R T=>?_)
   have M:∃n,n=min ((arrOf st).size-lo) (minRun' (arrOf st).size (arrOf st).size 0):=⟨_,rfl⟩
   obtain⟨n,M⟩:=M
   rw[<-M]at T R ⊢
   have G:1<=n:=by omega
   have H:lo+n<=(arrOf st).size:=by omega
   have O:=X.of R
   refine cO (by decide) ?_
   clear M N ch X
  case' neg=>
   refine cO t ?_
   have O:=U.of ch
   have T:=N
   have G:=e
   have H:lo+m<=(arrOf st).size:=by omega
   clear N ch
  all_goals
   refine wpS_bind (wpS_get ?_)
   split
   ·next s1 f p1 eb=>
    refine wpS_bind (wpS_mono (wpS_forRange (I:=λy c Y=>c=(none,())/\(W C) st Y lo/\(SIn C) (arrOf Y) lo _) (Q:=λc Y=>c=(none,())/\(W C) st Y lo/\(SIn C) (arrOf Y) lo _) ?s2 (λ_ _ q=>q) ⟨rfl,O,T⟩) ?p2)
    case s2=>
     rintro y c Y _ hy ⟨rfl,P,V⟩
     refine wpS_bind (wpS_get ?_)
     by_cases z:(pendingOf Y).size>1
     ·rw[if_pos z]
      obtain⟨u,v,o,eo⟩:∃u v o,(pendingOf Y)[(pendingOf Y).size-2]? = some (u,v,o):=⟨_,_,_,getElem?_pos (pendingOf Y) _ (by omega)⟩
      rw[eo]
      dsimp only
      split
      ·exact wpS_pure ⟨rfl,P,V⟩
      ·refine wpS_bind (FZ B P l1 (by omega) λl W5 _ g=>?_)
       refine cO (by decide) ?_
       exact wpS_pure ⟨rfl,W5,V.same λj j1 _=>K_congr (g j j1)⟩
     ·rw[if_neg z]
      exact wpS_pure ⟨rfl,P,V⟩
    case p2=>
     rintro c Y ⟨rfl,P,V⟩
     dsimp only
     refine wpS_bind (wpS_modify (wpS_bind (wpS_modify (wpS_pure ⟨_,rfl,H,by omega,?_⟩))))
     exact(P.pow).push G V
   ·exact wpS_bind (wpS_modify (wpS_pure ⟨_,rfl,H,by omega,O.push G T⟩))
 case p1=>
  rintro c K ⟨rfl,U⟩
  dsimp only
  have sz:=U.perm.size_eq
  have lp:=U.runs.le
  rw[bD]at lp
  refine wpS_bind (wpS_mono (wpS_forRange (I:=λy c Z=>c=(none,())/\(W C) st Z (arrOf st).size/\((pendingOf Z).size<=1\/(pendingOf Z).size+y<=(arrOf st).size)) (Q:=λc Z=>c=(none,())/\(W C) st Z (arrOf st).size/\(pendingOf Z).size<=1) ?s3 ?f3 ⟨rfl,U,.inr (by omega)⟩) ?p3)
  case f3=>
   rintro c Z ⟨rfl,X,q⟩
   exact⟨rfl,X,by omega⟩
  case s3=>
   rintro y c Z _ hy ⟨rfl,X,q⟩
   refine wpS_bind (wpS_get ?_)
   by_cases F:(pendingOf Z).size<=1
   ·refine cj F ?_
    exact wpS_pure ⟨rfl,X,F⟩
   refine cO F ?_
   split
   all_goals
    refine wpS_bind (FZ B X (aL _) (by split<;>omega) λL O q3 _=>?_)
    refine cO (by decide) ?_
    exact wpS_pure ⟨rfl,O,.inr (by omega)⟩
  case p3=>
   rintro c Z ⟨rfl,X,q⟩
   refine wpS_pure (h Z X.perm X.failed ?_)
   have S:=X.runs
   have k:(pendingOf Z).toList.length<=1:=by rw[bD];exact q
   match hps:(pendingOf Z).toList,S,k with
   |[],S,_=>
    have:0=(arrOf st).size:=S
    omega
   |[(a,b,d)],S,_=>
    obtain⟨_,_,D,J⟩:=S
    have J:0+b=(arrOf st).size:=J
    rw[J]at D
    exact λi j ij j1=>D i j (cZ _) ij j1
end
end
end Sq
variable{ks:List (List Int)}
namespace XJ
open PySem PySem.Spec PySem.W PyProof.Rows L2 My D3
theorem xT:∀a:List Int,pB a a=false
 |[]=>rfl
 |x::xs=>by simp[pB,xT xs]
theorem Dh:∀{a b c:List Int},pB a b=true->pB b c=true->pB a c=true
 |[],[],_,h,_=>by cases h
 |[],_::_,[],_,h=>by cases h
 |[],_::_,_::_,_,_=>rfl
 |_::_,[],_,h,_=>by cases h
 |_::_,_::_,[],_,h=>by cases h
 |x::xs,y::ys,z::zs,h1,h2=>by
  simp only[pB]at h1 h2 ⊢
  by_cases Y:x=y
  ·subst Y
   rw[if_pos rfl]at h1
   by_cases Z:x=z
   ·subst Z
    rw[if_pos rfl]at h2 ⊢
    exact Dh h1 h2
   ·rw[if_neg Z]at h2 ⊢
    exact h2
  ·rw[if_neg Y]at h1
   have h1:=of_decide_eq_true h1
   by_cases Z:y=z
   ·subst Z
    rw[if_neg Y]
    exact dTr h1
   ·rw[if_neg Z]at h2
    have h2:=of_decide_eq_true h2
    rw[if_neg (by omega)]
    exact dTr (by omega)
theorem xU:∀{a b:List Int},a≠b->pB a b=true\/pB b a=true
 |[],[],h=>absurd rfl h
 |[],_::_,_=>.inl rfl
 |_::_,[],_=>.inr rfl
 |x::xs,y::ys,h=>by
  simp only[pB]
  by_cases e:x=y
  ·subst e
   rw[if_pos rfl,if_pos rfl]
   exact xU λz=>h (by rw[z])
  ·rw[if_neg e,if_neg (Ne.symm e)]
   by_cases l:x<y
   ·exact .inl (dTr l)
   ·exact .inr (dTr (by omega))
noncomputable def KY(k:List Int):List (List Int)->List (List Int)
 |[]=>[k]
 |q::r=>if pB k q=true then k::q::r else q::KY k r
noncomputable def f9(ks:List (List Int)):List (List Int):=ks.foldr KY []
theorem zc(k:List Int):∀l:List (List Int),(KY k l).Perm (k::l)
 |[]=>.refl _
 |q::r=>by
  unfold KY
  split
  ·exact .refl _
  ·exact((zc k r).cons q).trans (.swap k q r)
theorem fu:∀ks:List (List Int),(f9 ks).Perm ks
 |[]=>.refl _
 |k::r=>(zc k _).trans ((fu r).cons k)
noncomputable abbrev LL(a b:List Int):Prop:=pB a b=true
theorem OD(k:List Int):∀l:List (List Int),l.Pairwise LL->¬k∈l->(KY k l).Pairwise LL
 |[],_,_=>gO _ _
 |q::r,h,Y=>by
  have h':=bO.mp h
  unfold KY
  split
  ·next z=>
   refine bO.mpr ⟨λy Z=>?_,h⟩
   rcases aU.mp Z with rfl|Z
   ·exact z
   ·exact Dh z (h'.1 y Z)
  ·next z=>
   have ne:q≠k:=λe=>Y (by rw[e];exact aG)
   have X:pB q k=true:=(xU ne).resolve_right z
   refine bO.mpr ⟨λy Z=>?_,OD k r h'.2 λe=>Y (aJ _ e)⟩
   rcases aU.mp ((zc k r).mem_iff.mp Z)with rfl|Z
   ·exact X
   ·exact h'.1 y Z
theorem Ga:∀{ks:List (List Int)},ks.Nodup->(f9 ks).Pairwise LL
 |[],_=>.nil
 |k::r,h=>OD k _ (Ga (dJ.mp h).2) λz=>(dJ.mp h).1 ((fu r).mem_iff.mp z)
theorem Bg:∀{l m:List (List Int)},l.Perm m->l.Pairwise LL->m.Pairwise LL->l=m
 |[],m,h,_,_=>(List.nil_perm.mp h).symm
 |a::l,[],h,_,_=>absurd (tW.mp h) (by simp)
 |a::l,b::m,h,h1,h2=>by
  have p1:=bO.mp h1
  have p2:=bO.mp h2
  have e:a=b:=by
   rcases aU.mp (h.mem_iff.mp (aG (a:=a) (l:=l)))with z|z
   ·exact z
   rcases aU.mp (h.symm.mem_iff.mp (aG (a:=b) (l:=m)))with y|y
   ·exact y.symm
   have:=Dh (p1.1 b y) (p2.1 a z)
   rw[xT]at this
   cases this
  subst e
  rw[Bg (List.perm_cons a |>.mp h) p1.2 p2.2]
noncomputable def rk(ks:List (List Int))(k:List Int):Nat:=ks.countP λq=>pB q k
theorem Gb{p q:List Int->Bool}(h:∀x,p x=true->q x=true):∀{l:List (List Int)}{a:List Int},a∈l->q a=true->p a=false->l.countP p<l.countP q
 |[],_,ha,_,_=>by cases ha
 |x::r,a,ha,h1,h2=>by
  rw[mF,mF]
  have m:r.countP p<=r.countP q:=List.countP_mono_left λy _=>h y
  rcases aU.mp ha with rfl|ha
  ·rw[h1,h2,if_pos rfl,if_neg aW];omega
  ·have:=Gb h ha h1 h2
   by_cases z:p x=true
   ·rw[if_pos z,if_pos (h x z)];omega
   ·rw[if_neg z]
    split<;>omega
theorem OJ{a b:List Int}(ha:a∈ks)(h:pB a b=true):rk ks a<rk ks b:=Gb (λ_ z=>Dh z h) ha h (xT a)
theorem Xc{a b:List Int}(ha:a∈ks)(B:b∈ks):decide ((rk ks a:Int)<(rk ks b:Int))=pB a b:=by
 by_cases e:a=b
 ·subst e
  rw[xT]
  exact dFa (by omega)
 ·cases q:pB a b with
  |true=>have:=OJ ha q;exact dTr (by omega)
  |false=>
   have:=OJ B ((xU e).resolve_left (by rw[q];exact aW))
   exact dFa (by omega)
end XJ
variable{ky:Addr->List Int}
namespace XJ
open PySem PySem.Spec PySem.W PyProof.Rows L2 My D3 XK XT XD XS
section
variable{prog:Program}{w:World}{A:Around}{E:Value->Shared->Prop}{s:Shared}
theorem Jy{fin:Bool}:∀(a b:List Int)(u v:List Value)(i:Nat),IntsAre u a->IntsAre v b->(fin=decide (a.length<b.length))->C (pB a b) s->KatLex prog w A true fin C (u.zip v) i s
 |[],[],_,_,_,.nil,.nil,Z,q=>by
  refine kat_nil ?_
  rw[Z]
  exact q
 |[],y::ys,_,_,_,.nil,.cons _ _ _,Z,q=>by
  refine kat_nil ?_
  rw[Z,dTr (by simp)]
  exact q
 |x::xs,[],_,_,_,.cons _ _ _,.nil,Z,q=>by
  refine kat_nil ?_
  rw[Z,dFa (by simp)]
  exact q
 |x::xs,y::ys,_,_,i,.cons _ V h1,.cons _ X h2,Z,q=>by
  refine kat_cons (wpAny_eqBool_int (kat_go (λe=>?_) λe=>?_))
  ·have e:=beq_iff_eq.mp e
   subst e
   refine kat_yes (Jy xs ys _ _ (i+1) h1 h2 (by rw[Z];simp) ?_)
   simpa[pB]using q
  ·have e:x≠y:=by
    intro z;subst z;simp at e
   have Y:C (decide (x<y)) s:=by simpa[pB,e]using q
   refine kat_no ?_
   cases i with
   |zero=>exact oneLt_int Y
   |succ i=>exact kat_one _ _ (lt_int (by simpa[PySem.W.BoolBack]using Y))
theorem Xd{x y:Addr}{a b:List Int}{u v:List Value}(O:IsTup s.heap x u.toArray)(J:IsTup s.heap y v.toArray)(D:IntsAre u a)(B:IntsAre v b)(q:C (pB a b) s):wpAny (model prog w) A (keyLt' (tuples' true) (.ref x) (.ref y)) C E s:=by
 obtain⟨W,ex,_,nx,dx⟩:=O
 obtain⟨X,Z,_,V,Y⟩:=J
 refine kat_lt ex dx Z Y ?_
 have:=Jy (prog:=prog) (w:=w) (A:=A) (s:=s) (fin:=decide (u.toArray.size<v.toArray.size)) (C:=C) a b u v 0 D B (by rw[aY,aY,D.length,B.length]) q
 simpa using this
end
section
variable{prog:Program}{w:World}{A:Around}{E:Value->Shared->Prop}{s:Shared}
noncomputable def Gd(bs:List Addr)(ky:Addr->List Int):Sq.Cq:=⟨λx=>match x.1 with
 | .ref b=>(rk (bs.map ky) (ky b):Int)
 |_=>0,λx=>∃b∈bs,x.1 = .ref b,tuples' true⟩
theorem Xe{bs:List Addr}(B:∀b∈bs,∃u:List Value,IsTup s.heap b u.toArray/\IntsAre u (ky b)):Sq.LtOk prog w A s (Gd bs ky):=⟨λ{x y Q E} P R h=>by
 obtain⟨b,Y,W⟩:=P
 obtain⟨c,Z,X⟩:=R
 obtain⟨u,U,i1⟩:=B b Y
 obtain⟨v,V,i2⟩:=B c Z
 have S:(Gd bs ky).nu x=(rk (bs.map ky) (ky b):Int):=by unfold Gd;dsimp only;rw[W]
 have T:(Gd bs ky).nu y=(rk (bs.map ky) (ky c):Int):=by unfold Gd;dsimp only;rw[X]
 rw[S,T]at h
 rw[Xc (dR Y) (dR Z)]at h
 rw[W,X]
 exact Xd U V i1 i2 h⟩
theorem u6{B:Heap}:∀bs:List Addr,(∀b∈bs,ky b≠[]/\∃u:List Value,IsTup B b u.toArray/\IntsAre u (ky b))->∃fs,KatTups B (bs.map Value.ref) fs/\fs.length=bs.length/\∀v∈fs,∃i t,v = .int i t
 |[],_=>⟨[],trivial,rfl,λ_ h=>by cases h⟩
 |b::bs,h=>by
  obtain⟨fs,f1,f2,f3⟩:=u6 bs λc W=>h c (aJ _ W)
  obtain⟨X,u,⟨o,T,U,n,V⟩,Y⟩:=h b aG
  generalize ky b=S at Y X
  cases Y with
  |nil=>exact absurd rfl X
  |cons x t Y=>
   refine⟨.int x t::fs,⟨⟨_,o,_,n,rfl,T,U,V,rfl⟩,f1⟩,by simp[f2],λv Z=>?_⟩
   rcases aU.mp Z with rfl|Z
   ·exact⟨_,_,rfl⟩
   ·exact f3 v Z
theorem Ge:∀bs:List Addr,(bs.map Value.ref).zip (bs.map Value.ref)=bs.map λc=>(Value.ref c,Value.ref c)
 |[]=>rfl
 |b::r=>by rw[aQ,uh,Ge r,aQ]
theorem KZ{bs:List Addr}{P:PySem.Fin->Shared->Prop}(D:s.heap.get? a=some (seqObj "list" (bs.map Value.ref).toArray n))(h2:2<=bs.length)(hz:bs.length<=1000)
 (ht:∀b∈bs,ky b≠[]/\∃u:List Value,IsTup s.heap b u.toArray/\IntsAre u (ky b)) (nd:(bs.map ky).Nodup)
 (h:∀B:List Addr,B.Perm bs->B.map ky=f9 (bs.map ky)->P (.done (.ret .none)) {s with heap:=sortedHeap s.heap a (bs.map Value.ref) (B.map Value.ref).toArray}):wpAny (model prog w) A (Builtin.«list.sort» ⟨[.ref a],[]⟩) P E s:=by
 have L:a<s.heap.objs.size:=Heap.lt_size D
 have vl:(bs.map Value.ref).length=bs.length:=au _
 have r:(bs.map Value.ref).length<=sizeLine:=by rw[vl,sizeLine_eq];omega
 rw[list_sort_plain]
 refine wpAny_bind (listItems_at D rfl (wpAny_bind (listUpdate_at D rfl ?_)))
 obtain⟨e,h1⟩:∃e,(s.heap.update a (Obj.mapSeq λ_=>#[])).get? a=some (seqObj "list" #[] e):=⟨_,get?_update_seq D λ_=>#[]⟩
 refine wpAny_bind (seqEpoch_at h1 rfl (wpAny_bind (wpAny_newTuple (wpAny_bind (wpAny_newList (wpAny_holding ?_))))))
 have old:∀b o,b≠a->s.heap.get? b=some o->(((s.heap.update a (Obj.mapSeq λ_=>#[])).push (seqObj "tuple" (bs.map Value.ref).toArray 0)).push (seqObj "list" #[] 0)).get? b=some o:=λb o Z e=>by
  have V:=Heap.lt_size e
  rw[Heap.get?_push_ne _ _ _ (by rw[size_push',Heap.size_update];exact bh (gJ V)),Heap.get?_push_ne _ _ _ (by rw[Heap.size_update];exact bh V),Heap.get?_update_ne _ _ _ _ Z,e]
 have I:(((s.heap.update a (Obj.mapSeq λ_=>#[])).push (seqObj "tuple" (bs.map Value.ref).toArray 0)).push (seqObj "list" #[] 0)).get? a=some (seqObj "list" #[] e):=by
  rw[Heap.get?_push_ne _ _ _ (by rw[size_push',Heap.size_update];exact bh (gJ L)),Heap.get?_push_ne _ _ _ (by rw[Heap.size_update];exact bh L),h1]
 have X:∀b∈bs,ky b≠[]/\∃u:List Value,IsTup (((s.heap.update a (Obj.mapSeq λ_=>#[])).push (seqObj "tuple" (bs.map Value.ref).toArray 0)).push (seqObj "list" #[] 0)) b u.toArray/\IntsAre u (ky b):=λb Z=>by
  obtain⟨q,u,⟨o,M,H,k⟩,l⟩:=ht b Z
  refine⟨q,u,⟨o,old b o (λz=>?_) M,H,k⟩,l⟩
  rw[z,D]at M
  cases M
  exact absurd H (by simp[seqObj])
 show wpAny (model prog w) A _ P E {s with heap:=((s.heap.update a (Obj.mapSeq λ_=>#[])).push (seqObj "tuple" (bs.map Value.ref).toArray 0)).push (seqObj "list" #[] 0)}
 dsimp only
 have F:¬(bs.map Value.ref).toArray.size<2:=by rw[aY,vl];omega
 rw[if_neg F,if_neg F]
 obtain⟨fs,f1,f2,f3⟩:=u6 bs X
 refine wpAny_bind (kat_kind (T:=.type "int") f1 (by omega) (λv m=>?_) rfl ?_)
 ·obtain⟨i,t,rfl⟩:=f3 v m
  exact λA Q E s _ q=>wpAny_pure q
 haveI:=Xe (prog:=prog) (w:=w) (A:=A) (s:={s with heap:=((s.heap.update a (Obj.mapSeq λ_=>#[])).push (seqObj "tuple" (bs.map Value.ref).toArray 0)).push (seqObj "list" #[] 0)}) (ky:=ky) λb Z=>(X b Z).2
 have ps:(pairsOf (bs.map Value.ref)).size=bs.length:=by rw[pairsOf_size,vl]
 refine wpAny_bind (wpAny_mono (Sq.Oz (C:=Gd bs ky) (st:=SortSt.mk' (tuples' true) (pairsOf (bs.map Value.ref)) #[] 7 none)
  (Q:=λ_ st'=>(arrOf st').Perm (pairsOf (bs.map Value.ref))/\failedOf st'=none/\Sq.STo (Gd bs ky) (arrOf st') (pairsOf (bs.map Value.ref)).size) rfl rfl rfl (λp W=>?ok) (by show 2<=(pairsOf _).size;rw[ps];exact h2) λst' d f g=>⟨d,f,g⟩) ?_ λ_ _ q=>q)
 case ok=>
  have W:p∈(bs.map Value.ref).zip (bs.map Value.ref):=by rw[<-pairsOf_toList];exact W
  obtain⟨b,Z,e⟩:=bV.mp (nq W).1
  exact⟨b,Z,e.symm⟩
 rintro⟨⟨⟩,st'⟩ s' ⟨rfl,q1,q2,y⟩
 dsimp only
 have N:(arrOf st').toList.Perm ((bs.map Value.ref).zip (bs.map Value.ref)):=by rw[<-pairsOf_toList];exact d8.mp q1
 obtain⟨B,G,Y⟩:∃B:List Addr,(arrOf st').toList=B.map (λc=>(Value.ref c,Value.ref c))/\B.Perm bs:=by
  have zz:=Ge bs
  rw[zz]at N
  refine⟨(arrOf st').toList.map (λp=>match p.1 with
   | .ref c=>c
   |_=>0),?_,?_⟩
  ·rw[dF]
   conv=>lhs;rw[<-wD (arrOf st').toList]
   refine eO λp W=>?_
   obtain⟨c,_,rfl⟩:=bV.mp (N.mem_iff.mp W)
   rfl
  ·have:=N.map (λp:Value×Value=>match p.1 with
    | .ref c=>c
    |_=>0)
   refine this.trans (.of_eq ?_)
   rw[dF]
   conv=>rhs;rw[<-wD bs]
   rfl
 have outs:(arrOf st').map (·.2)=(B.map Value.ref).toArray:=by
  apply pF.mp
  rw[Array.toList_map,G,dF]
  rfl
 have cl:B.length=bs.length:=Y.length_eq
 have sz:((arrOf st').map (·.2)).size<=sizeLine:=by rw[outs,aY,au,cl,<-vl];exact r
 refine wpAny_bind (seqEpoch_at I rfl (wpAny_bind (listUpdate_at I rfl ?_ (hsz2:=Nat.le_succ_of_le sz))))
 rw[q2]
 simp only[bne_self_eq_false,gb,if_false]
 rw[outs]
 refine wpAny_pure (h B Y (Bg ((Y.map ky).trans (fu _).symm) ?_ (Ga nd)))
 have O:(B.map ky).Nodup:=(Y.map ky).nodup_iff.mpr nd
 rw[cM]
 intro i j hi J S
 have R:i<B.length:=by simpa using hi
 have U:j<B.length:=by simpa using J
 have K:∀i,(h:i<B.length)->Sq.KC (Gd bs ky) (arrOf st') i=(rk (bs.map ky) (ky B[i]):Int):=λi h=>by
  have e:(arrOf st')[i]? = some (Value.ref B[i],Value.ref B[i]):=by
   rw[<-cC,G,bf,aF h]
   rfl
  unfold Sq.KC
  rw[e]
  rfl
 have le:=y i j (eF S) (by rw[ps];omega)
 rw[K i R,K j U]at le
 rw[gh,gh]
 have mi:ky B[i]∈bs.map ky:=dR (Y.mem_iff.mp (cg R))
 have x:ky B[j]∈bs.map ky:=dR (Y.mem_iff.mp (cg U))
 have ne:ky B[i]≠ky B[j]:=λz=>by
  have:=(cM.mp O) i j hi J S
  rw[gh,gh]at this
  exact this z
 refine(xU ne).resolve_right λz=>?_
 have:=OJ x z
 omega
end
end XJ
namespace XJ
open PySem D3
noncomputable def iZ:List D->Option D
 |[x]=>(rZ x).bind λks=>if ks.length<=1000/\(ks.all λk=>!k.isEmpty)=true then some (.list ((f9 ks).map rwD))else none
 |_=>none
noncomputable def mz:List D->Option D
 |[x]=>(rZ x).map λks=>.int (ks.length:Int)
 |_=>none
end XJ
namespace XJ
open PySem PySem.Spec PySem.W PyProof.Rows L2 My D3 XK XT XD XS
section
variable{X:Cx}{fl:List Fl}{e:Expr}{pos:Pos}
theorem Jz{K:Type}:∀{kvs:List (List L2.Key×V)}{xs:List (List L2.Key×Addr×Value)}{ks:List (List Int)},KT H kvs xs->kvs.map (·.1)=ks.map (λk=>k.map Sum.inl)->∀(j:Nat)(b:Addr)(k:List Int),(xs.map (·.2.1))[j]? = some b->ks[j]? = some k->H b=some (.tup (k.map V.int))
 |_,_,[],.nil,_,j,b,k,h,_=>by simp at h
 |_,_,_::_,.nil,Z,_,_,_,_,_=>by simp at Z
 |_,_,[],.cons _ _,Z,_,_,_,_,_=>by simp at Z
 |_,_,Y::ks,.cons (a:=p) (b:=q) h t,Z,0,b,k,h1,h2=>by
  simp at Z h1 h2
  obtain⟨X,_⟩:=Z
  subst h1 h2
  have:=h.2.1
  rw[X]at this
  rw[this,Tc]
 |_,_,Y::ks,.cons (a:=p) (b:=q) h t,Z,j+1,b,k,h1,h2=>by
  simp at Z
  exact Jz (K:=K) t (by simpa using Z.2) j b k (by simpa using h1) (by simpa using h2)
theorem Bh:∀{kvs:List (List L2.Key×V)}{xs:List (List L2.Key×Addr×Value)},KT H kvs xs->xs.map (·.1)=kvs.map (·.1)
 |_,_,.nil=>rfl
 |_,_,.cons h t=>by rw[aQ,aQ,Bh t,h.1]
noncomputable def vI:V->Int
 | .int i=>i
 |_=>0
noncomputable def kyH(H:Hp)(b:Addr):List Int:=match H b with
 |some (.tup xs)=>xs.map vI
 |_=>[]
theorem O1{k:List Int}(h:H b=some (.tup (k.map V.int))):kyH H b=k:=by
 unfold kyH
 rw[h]
 dsimp only
 rw[dF]
 conv=>rhs;rw[<-wD k]
 rfl
theorem Di(D:X.calm=true):lZ X (.builtin "sorted") (λxs H Q=>∃(p:Addr)(kvs:List (List L2.Key×V))(ks:List (List Int)),xs=[.ref p]/\L2.Rd H p (.dT kvs)/\kvs.map (·.1)=ks.map (λk=>k.map Sum.inl)/\ks.length<=1000/\(∀k∈ks,k≠[]) /\
 ∀(l:Addr)(B:List Addr),H l=none->(∀c∈B,H c=some (.tup ((kyH H c).map V.int)))->B.map (kyH H)=f9 ks->Q (.ref l) (upd H l (.lst (B.map V.ref)))):=by
 intro pins s σ H xs us Q I r h
 obtain⟨p,kvs,ks,rfl,hx,G,T,J,q⟩:=h
 obtain⟨u,rfl,rx⟩:=vals1 r
 cases rx
 obtain⟨_,hd,ents,rel,dd⟩:=Bb I.hok hx
 obtain⟨o,es,ep,h1,h2,F,h4,h5,h6⟩:=dd
 have L:TD.wY s.heap p es ep:=⟨o,h1,h2,F⟩
 have le:ents.length=ks.length:=by
  have a:=Paired.length rel
  have b:=congrArg oM G
  rw[au,au]at b
  omega
 have ez:es.size=ks.length:=by rw[<-bD,h4,au,le]
 have bl:(ents.map (·.2.1)).length=ks.length:=by rw[au,le]
 have hb:=Jz (K:=Unit) rel G
 refine Calls.call_function_entry kind_sorted plain_sorted entry_sorted (args_sorted1 _) ?_
 unfold Builtin.«sorted»
 refine wpAny_bind (m:=checkCount "sorted" 1 1 _) (wpAny_pure ?_)
 refine wpAny_bind (PySem.W.kdu_collect (A:=X.A.in1) (TD.S8 (es:=es) (ep:=ep) hd) (I.ok.hd D) L (by rw[ez];exact bF T (by decide)) λh' tk acc hk S=>?_)
 have ea:acc.toList=(ents.map (·.2.1)).map Value.ref:=by
  apply eX
  intro j
  cases ej:acc.toList[j]? with
  |none=>
   have:acc.toList.length<=j:=List.getElem?_eq_none_iff.mp ej
   rw[bD,S.1,ez,<-bl]at this
   rw[bH (by rw[au];exact this)]
  |some v=>
   obtain⟨e,U,rfl⟩:=S.2 j v (by rw[<-cC];exact ej)
   rw[<-cC,h4,bf]at U
   rw[dF,bf]
   cases ex:ents[j]? with
   |none=>rw[ex]at U;cases U
   |some x=>rw[ex]at U;cases U;rfl
 have N:L2.Inv X pins σ H {s with heap:=h',toks:=tk}:=I.kept hk
 generalize hB:ents.map (·.2.1)=bs at *
 rw[ea]
 have vl:(bs.map Value.ref).length=ks.length:=by rw[au,bl]
 have hn:H h'.objs.size=none:=N.hok.fresh (aL _)
 have bk:∀b∈bs,H b=some (.tup ((kyH H b).map V.int))/\kyH H b∈ks:=λb hm=>by
  obtain⟨j,f⟩:=gB hm
  have n:j<ks.length:=by rw[<-bl];exact(fX.mp f).1
  have z:=hb j b ks[j] f (aF n)
  rw[O1 z]
  exact⟨z,cg n⟩
 have bm:bs.map (kyH H)=ks:=by
  apply mG
  ·rw[au,bl]
  ·intro j g1 M
   rw[gh]
   have l1:j<bs.length:=by rw[bl];exact M
   exact O1 (hb j _ _ (aF l1) (aF M))
 have nd:(bs.map (kyH H)).Nodup:=by
  rw[bm]
  rw[Bh rel,G]at h6
  exact(iH.mp h6).imp λz y=>z (by rw[y])
 refine wpAny_bind (wpAny_newList ?_ (by rw[vl];exact bF T (by decide)))
 have Z:(h'.push (seqObj "list" (bs.map Value.ref).toArray 0)).get? h'.objs.size=some (seqObj "list" (bs.map Value.ref).toArray 0):=Heap.get?_push_size _ rfl
 show wpAny _ _ _ _ _ {s with heap:=h'.push (seqObj "list" (bs.map Value.ref).toArray 0),toks:=tk}
 have R:∀(B:List Addr)(h2:Heap)(c:Nat),B.length<=1000->h2.get? h'.objs.size=some (seqObj "list" (B.map Value.ref).toArray c)->gR X.prog X.w (upd H h'.objs.size (.lst (B.map V.ref))) h2 h'.objs.size (.lst (B.map V.ref)):=λB h2 c g d=>by
  refine⟨by rw[au];exact bF g (by decide),_,c,?_,d⟩
  clear d g
  induction B with
  |nil=>exact .nil
  |cons i l ih=>exact .cons rfl ih
 refine wpAny_bind (wpAny_holding (wpAny_call_entry slot_list_sort ⟨_,Z,rfl⟩ entry_list_sort ?body (args_list_sort _)))
 case body=>
  by_cases h2:2<=bs.length
  ·refine KZ (ky:=kyH H) Z h2 (by rw[bl];exact T) (λb hm=>⟨J _ (bk b hm).2,?_⟩) nd λB t ec=>⟨_,rfl,wpAny_pure ⟨_,rfl,?_⟩⟩
   ·obtain⟨its,rr,⟨o,g1,M,g3⟩,_⟩:=N.tuple (.inl (.inl (bk b hm).1))
    exact⟨its,⟨o,Heap.get?_push_of_some _ g1,M,g3⟩,rQ rr⟩
   ·obtain⟨c,U⟩:=sortedHeap_at (out:=(B.map Value.ref).toArray) Z
    have O:=N.laid (h':=sortedHeap (h'.push (seqObj "list" (bs.map Value.ref).toArray 0)) h'.objs.size (bs.map Value.ref) (B.map Value.ref).toArray) (t':=tk) (a:=h'.objs.size) (o:=.lst (B.map V.ref)) (λb u e=>by
     have Y:=Heap.lt_size e
     rw[sortedHeap_old (bh Y) (by rw[size_push'];exact gJ Y)]
     exact Heap.get?_push_of_some _ e) (aL _) (R B _ c (by rw[t.length_eq,bl];exact T) U)
    exact⟨.ref _,_,O,rfl,q _ B hn (λc D=>(bk c (t.mem_iff.mp D)).1) (by rw[ec,bm])⟩
  ·have C:=q _ bs hn (λc D=>(bk c D).1)
   have E:bs.length=0\/bs.length=1:=by omega
   rcases E with h0|h1
   ·have P:bs=[]:=cB.mp (by omega)
    subst P
    refine list_sort_tree (ns:=[]) Z .nil (by decide) λout ns' a1 a2 a3=>⟨_,rfl,wpAny_pure ⟨_,rfl,?_⟩⟩
    obtain rfl:=tW.mp a2
    have oe:out.toList=[]:=cB.mp a1.length
    obtain⟨c,U⟩:=sortedHeap_at (out:=out) Z
    have O:=N.laid (h':=sortedHeap (h'.push (seqObj "list" (([]:List Addr).map Value.ref).toArray 0)) h'.objs.size (([]:List Addr).map Value.ref) out) (t':=tk) (a:=h'.objs.size) (o:=.lst (([]:List Addr).map V.ref)) (λb u e=>by
     have Y:=Heap.lt_size e
     rw[sortedHeap_old (bh Y) (by rw[size_push'];exact gJ Y)]
     exact Heap.get?_push_of_some _ e) (aL _) (R [] _ c (by decide) (by
      have:out = #[]:=pF.mp oe
      rw[this]at U ⊢
      exact U))
    exact⟨.ref _,_,O,rfl,C (by rw[<-bm];rfl)⟩
   ·obtain⟨P,rfl⟩:=p8.mp h1
    refine Fo (v:=.ref P) Z λF c k e=>⟨_,rfl,wpAny_pure ⟨_,rfl,?_⟩⟩
    have O:=N.laid (h':=F) (t':=tk) (a:=h'.objs.size) (o:=.lst ([P].map V.ref)) (λb u e=>k b u (bh (Heap.lt_size e)) (Heap.get?_push_of_some _ e)) (aL _) (R [P] _ c (show 1<=1000 by decide) e)
    exact⟨.ref _,_,O,rfl,C (by rw[<-bm];rfl)⟩
end
end XJ
namespace XJ
open PySem PySem.Spec PySem.W PyProof.Rows L2 My D3 XK XT XD XS
theorem JB{ks:List (List L2.Key×V)}(h:TTs H ks (ttP S)):ks.map (·.1)=(S.map (·.1)).map λk=>k.map Sum.inl:=by
 induction S generalizing ks with
 |nil=>cases h;rfl
 |cons q S X=>
  generalize Z:ttP (q::S)=g at h
  cases h with
  |nil=>cases Z
  |cons t r=>
   rename_i Y m z v T U
   have Z:(rwD q.1,ttV q.2)::ttP S=_:=Z
   injection Z with h1 h2
   injection h1 with h1 R
   have W:q.1=Y:=by
    have:=congrArg (λd=>CK d) h1
    simpa[rwD,CK,o8]using this
   subst W
   rw[aQ,aQ,aQ,X (h2▸r)]
theorem Dj{ok:Ok}{x:D}{S:List (List Int)}(e:rZ x=some S)(r:RA K ok pl H v x):∃a,v = .ref a/\((S=[]/\L2.Rd H a (.dK []))\/(S≠[]/\∃kvs,L2.Rd H a (.dT kvs)/\kvs.map (·.1)=S.map λk=>k.map Sum.inl)):=by
 cases x with
 |dict kvs=>
  unfold rZ at e
  dsimp only at e
  cases Z:wW kvs with
  |some T=>
   rw[Z]at e
   cases e
   obtain⟨a,rfl,h⟩:=Js (x:=.dict kvs) Z r
   refine⟨a,rfl,?_⟩
   rcases h with⟨rfl,h⟩|⟨q,ks,h,t⟩
   ·exact .inl ⟨rfl,h⟩
   ·exact .inr ⟨(λz=>by
     have:=JB t
     rw[z]at this
     cases this),_,h,JB t⟩
  |none=>
   rw[Z]at e
   have e:tsD kvs=some S:=e
   by_cases Y:S=[]
   ·subst Y
    cases kvs with
    |nil=>cases Z
    |cons q X=>
     exfalso
     unfold tsD at e
     split at e
     ·next z=>cases z
     ·obtain⟨k,_,V⟩:=bind1 e
      cases W:tsD X with
      |none=>simp_all
      |some U=>simp_all
     ·cases e
   ·obtain⟨a,rfl,h⟩:=S7 (x:=.dict kvs) e Y r
    refine⟨a,rfl,.inr ⟨Y,_,h,?_⟩⟩
    unfold dtI
    rw[dF]
    rfl
 |_=>cases e
section
variable{X:Cx}{fl:List Fl}{e:Expr}{pos:Pos}
theorem vm(D:X.calm=true){fa:FA}{p:Pos}(ha:DB X fl .P [e] fa)(J:Gl X "sorted")(hm:X.mg "sorted"=none)
 (he:starEach [e] X.env=(false,eval e X.env)::starEach [] X.env:=by rfl) (B:(backTo pos (starEach [] X.env)).any (·.1)=false:=by rfl):DE X fl .FC (.Call (.Name "sorted" p) [e] [] pos) (dCall iZ fa):=by
 have bs:bootBuiltins "sorted"=some (.builtin "sorted"):=by decide +kernel
 intro pins s σ H Q I h
 obtain⟨G,ow,δ,d,R,w,q⟩:=h
 obtain⟨ds,C,T⟩:=bind1 w
 unfold iZ at T
 split at T
 case h_2=>cases T
 next x=>
 obtain⟨ks,E,U⟩:=bind1 T
 by_cases W:ks.length<=1000/\(ks.all λk=>!k.isEmpty)=true
 case neg=>rw[if_neg W]at U;cases U
 rw[if_pos W]at U
 cases U
 by_cases K:ks=[]
 ·subst K
  refine m5 (XB.CW D) J hm bs ha (by decide) (by decide) he B pins s σ H Q I ⟨G,ow,δ,_,R,C,λvs H' sm r'=>?_⟩
  cases r' with
  |cons N O=>
   cases O
   obtain⟨a,rfl,Y⟩:=Dj E N
   have Y:L2.Rd H' a (.dK []):=by
    rcases Y with⟨_,h⟩|⟨z,_⟩
    ·exact h
    ·exact absurd rfl z
   exact⟨a,[],[],rfl,Y,rfl,by decide,λl hn=>q _ _ (sm.trans (cX hn _)) (.inr ⟨_,_,_,rfl,rfl,sm.free hn,cQ,.nil⟩)⟩
 ·refine m5 (Di D) J hm bs ha (by decide) (by decide) he B pins s σ H Q I ⟨G,ow,δ,_,R,C,λvs H' sm r'=>?_⟩
  cases r' with
  |cons N O=>
   cases O
   obtain⟨a,rfl,Y⟩:=Dj E N
   rcases Y with⟨z,_⟩|⟨_,kvs,h,v⟩
   ·exact absurd z K
   refine⟨a,kvs,ks,rfl,h,v,W.1,λk M=>?_,λl S hn L F=>q _ _ (sm.trans (cX hn _)) (.inr ⟨_,_,_,rfl,rfl,sm.free hn,cQ,?_⟩)⟩
   ·have:=cJ.mp W.2 k M
    intro z
    subst z
    cases this
   ·rw[<-F,dF]
    have Z:∀c∈S,upd H' l (.lst (S.map V.ref)) c=some (.tup ((kyH H' c).map V.int)):=λc D=>cX hn _ _ _ (L c D)
    generalize upd H' l (.lst (S.map V.ref))=u at Z
    clear F L
    induction S with
    |nil=>exact .nil
    |cons i is A=>exact .cons (.tup (Z i aG) (qH _)) (A λj y=>Z j (aJ _ y))
theorem K3:lZ X (.builtin "len") (λxs H Q=>∃(p:Addr),xs=[.ref p]/\((∃kvs,L2.Rd H p (.dK kvs)/\Q (.int kvs.length) H)\/∃kvs,L2.Rd H p (.dT kvs)/\Q (.int kvs.length) H)):=by
 intro pins s σ H xs us Q I r h
 obtain⟨p,rfl,h⟩:=h
 obtain⟨u,rfl,W⟩:=vals1 r
 cases W
 rcases h with⟨kvs,Z,q⟩|⟨kvs,Z,q⟩
 ·exact Zj I Z λt s' S=>⟨.int _,H,S,⟨t,rfl⟩,q⟩
 ·obtain⟨z,hd,ents,rel,T⟩:=Bb I.hok Z
  obtain⟨o,es,ep,h1,h2,U,V,_,_⟩:=T
  have Y:es.size=kvs.length:=by rw[<-bD,V,au,(Paired.length rel).symm]
  refine TD.S9 hd ⟨o,h1,h2,U⟩ (by rw[Y];rw[sizeLine_eq]at z;omega) λt tk=>?_
  rw[Y]
  exact⟨.int _,H,I.tok tk,⟨t,rfl⟩,q⟩
theorem Dk(ha:DB X fl .P [e] fa)(D:Gl X "len")(hm:X.mg "len"=none)
 (J:starEach [e] X.env=(false,eval e X.env)::starEach [] X.env:=by rfl) (B:(backTo pos (starEach [] X.env)).any (·.1)=false:=by rfl):DE X fl .FC (.Call (.Name "len" p) [e] [] pos) (dCall mz fa):=
 PE.imp (m5 K3 D hm (show bootBuiltins "len"=some (.builtin "len")by decide +kernel) ha (by decide) (by decide) J B) λσ H Q h=>by
 obtain⟨G,ow,δ,d,R,T,q⟩:=h
 obtain⟨ds,O,Z⟩:=bind1 T
 refine⟨G,ow,δ,ds,R,O,λvs H' s r'=>?_⟩
 unfold mz at Z
 split at Z
 case h_2=>cases Z
 next x=>
 cases Y:rZ x with
 |none=>rw[Y]at Z;cases Z
 |some ks=>
  rw[Y]at Z
  cases Z
  cases r' with
  |cons V W=>
   cases W
   obtain⟨a,rfl,U⟩:=Dj Y V
   rcases U with⟨rfl,h⟩|⟨_,kvs,h,S⟩
   ·exact⟨a,rfl,.inl ⟨_,h,q _ _ s (.inl ⟨rfl,.int _⟩)⟩⟩
   ·refine⟨a,rfl,.inr ⟨_,h,?_⟩⟩
    have:kvs.length=ks.length:=by
     have:=congrArg oM S
     rwa[au,au]at this
    rw[this]
    exact q _ _ s (.inl ⟨rfl,.int _⟩)
end
end XJ
namespace XJ
open PySem PySem.Spec PyProof.Rows L2 My D3 XK XT XD
section
variable{X:Cx}{pins:List (Addr×Obj)}{σ:L2.St}{H H':Hp}{s:Shared}{a:Addr}{kvs:List (List L2.Key×V)}{o:Obj}
end
section
variable{K:PySem.W.Frag}{H:Hp}{a:Addr}{kvs:List (List L2.Key×V)}{o:Obj}
end
section
variable{X:Cx}{fl fl':List Fl}{e b c elt tg iter:Expr}{es ifs:List Expr}{k:Kd}{f fa fb fc fx:FE}{ft gt:FT}{pos:Pos}{scope:Scope}{ix L TT:List Nat}{fi:FA}{g:FG}
end
end XJ
namespace HT
open PySem PySem.Spec PyProof.Rows L2
section
variable{prog:Program}{w:World}{A:Around}{E:Value->Shared->Prop}{s:Shared}
theorem Tg{t:Addr}{items:Array Value}{lo hi:Option Int}(B:IsTup s.heap t items)(hs:s.heap.IsSliceOf sl vl vu .none)(pl:IsPart vl lo)(D:IsPart vu hi)
 (hw:sIx items.size 0 lo=0/\sIx items.size items.size hi=items.size) (h:Q (.ref t) s):wpAny (model prog w) A (getItem (.ref t) (.ref sl)) Q E s:=by
 obtain⟨os,Y,X,W⟩:=id hs
 have ty:s.TypeIs (.ref sl) "slice" := ⟨os,Y,X⟩
 unfold getItem
 try with_reducible refine wpAny_holding ?_
 first|refine wpAny_bind (wpAny_pure ?_)|skip
 refine wpAny_bind (wpAny_sequenceKey B.typeIs (by decide) (wpAny_bind (wpAny_callSpecial?_slot (name:=Str.ofString "__getitem__") B.typeIs PyProof.Rows.slot_tuple_getitem (wpAny_call_entry PyProof.Rows.slot_tuple_getitem B.typeIs entry_tuple_getitem ?_ (args_tuple_getitem _ _)))))
 refine wpAny_bind (m:=Builtin.Tuple.tupleItemsOf (.ref t)) (tupleItemsOf_ B (wpAny_bind (wpAny_typeOf ty ?_)))
 rw[if_pos (by decide)]
 refine wpAny_bind (pI hs pl D ?_)
 have Z:(((sIx items.size 0 lo:Nat):Int)==0&&(1:Int)==1&&(sIx items.size items.size hi-sIx items.size 0 lo)==items.size)=true:=by
  rw[hw.1,hw.2]
  simp
 show wpAny _ _ (if(((sIx items.size 0 lo:Nat):Int)==0&&(1:Int)==1&&(sIx items.size items.size hi-sIx items.size 0 lo)==items.size)=true then _ else _) _ _ s
 rw[if_pos Z]
 unfold Builtin.Tuple.tupleIsExact
 refine wpAny_bind (wpAny_bind (wpAny_typeOf B.typeIs (wpAny_pure ?_)))
 rw[if_pos (by decide)]
 exact wpAny_bind (wpAny_rule (wpAny_pure ⟨_,rfl,wpAny_pure h⟩))
end
end HT
namespace D3
open PySem PySem.Spec PyProof.Rows L2 My
noncomputable def ae9(K:PySem.W.Frag):V->Option Int->Option Int->Hp->VK->Prop:=λx lo hi H Q=>∃a xs,x = .ref a/\SqT K H a xs/\HT.sIx xs.length 0 lo=0/\HT.sIx xs.length xs.length hi=xs.length/\Q (.ref a) H
theorem O2:SlR X (ae9 X.K):=by
 intro pins s σ H x v vl vu lo hi sl Q I Y hs pl W h
 obtain⟨a,xs,rfl,V,h1,h2,q⟩:=h
 cases Y
 obtain⟨its,r,Z,U⟩:=I.tuple V
 have hlen:its.toArray.size=xs.length:=by rw[aY];exact r.length.symm
 exact⟨"tuple", _,PyProof.Rows.slot_tuple_getitem.lookup,Z.typeIs,HT.Tg Z hs pl W (by rw[hlen];exact⟨h1,h2⟩) ⟨.ref a,H,I,rfl,q⟩⟩
section
variable{X:Cx}{fl:List Fl}{a e:Expr}{f:FE}{pos:Pos}
theorem v9(h:flats l=true)(lo hi:Option Int):flats (cutD l lo hi)=true:=by
 have Y:∀(n:Nat)(l:List D),flats l=true->flats (l.drop n)=true:=λn=>by
  induction n with
  |zero=>exact λl h=>h
  |succ n Z=>
   intro l h
   cases l with
   |nil=>rfl
   |cons d l=>rw[flats,aX]at h;exact Z l h.2
 have tk:∀(n:Nat)(l:List D),flats l=true->flats (l.take n)=true:=λn=>by
  induction n with
  |zero=>exact λl h=>by simp[flats]
  |succ n Z=>
   intro l h
   cases l with
   |nil=>rfl
   |cons d l=>
    rw[flats,aX]at h
    rw[List.take_succ_cons,flats,aX]
    exact⟨h.1,Z l h.2⟩
 exact tk _ _ (Y _ _ h)
theorem O3{lo hi:Option Expr}{p2:Pos}{fl1:FO}(h:DE X fl .P a f)(h1:PO X lo (tDO X.K fl fl1))(h2:PO X hi (tDO X.K fl fh)):DE X fl .FC (.Subscript a (.Slice lo hi none p2) pos) (wX f fl1 fh):=PE.imp (Ep (O2.or Wa) h h1 h2) λσ H Q h=>by
 obtain⟨G,ow,δ,d,R,O,q⟩:=h
 obtain⟨x,D,O⟩:=bind1 O
 obtain⟨V,E,O⟩:=bind1 O
 obtain⟨W,F,T⟩:=bind1 O
 refine⟨G,ow,δ,x,R,D,λv H1 s1 J=>⟨G,ow,δ,V,R.grow s1,E,λH2 s2=>⟨G,ow,δ,W,R.grow (s1.trans s2),F,λC s3=>?_⟩⟩⟩
 obtain⟨l,rfl⟩:∃l,x = .tuple l:=by
  cases x<;>first|exact⟨_,rfl⟩|cases T
 dsimp only at T
 by_cases Z:flats l=true
 case neg=>rw[if_neg Z]at T;cases T
 rw[if_pos Z]at T
 cases T
 obtain⟨p,xs,rfl,I,M⟩:=J.tupE0
 have Y:=s2.trans s3
 have N:xs.length=l.length:=M.length
 have U:jw C p xs:=jw.same Y I
 have S:=M.same Y
 by_cases hw:HT.sIx xs.length 0 V=0/\HT.sIx xs.length xs.length W=xs.length
 ·refine .inl ⟨p,xs,rfl,.inl (.inl U),hw.1,hw.2,q _ _ (s1.trans Y) (.inl ⟨v9 Z V W,?_⟩)⟩
  have:cutD l V W=l:=by
   unfold cutD
   rw[<-N,<-Cp,<-Cp,hw.1,hw.2,N]
   simp
  rw[this]
  exact .tup U (RAs.flat Z S)
 ·refine .inr ⟨p,xs,rfl,.inl (.inl U),hw,λpn L=>q _ _ ((s1.trans Y).trans (cX L _)) (.inl ⟨v9 Z V W,?_⟩)⟩
  exact .tup (show jw _ _ _ from cQ) (RAs.flat (v9 Z V W) ((S.same (cX L _)).cut V W))
theorem Bj(B:X.calm=true):lZ X (.builtin "max") (λxs H Q=>∃(p:Addr)(i:Int)(r:List Int),xs=[.ref p]/\SqT X.K H p ((i::r).map V.int)/\Q (.int (mxI i r)) H):=by
 intro pins s σ H xs us Q I r h
 obtain⟨p,i,Y,rfl,G,q⟩:=h
 obtain⟨u,rfl,M⟩:=vals1 r
 cases M
 obtain⟨its,U,pl,m⟩:=I.tuple G
 have hi:=rQ U
 obtain⟨xs,e⟩:=hi.allInts.items
 have Z:i::Y=xs.toList.map (·.1):=by rw[<-hi.numsOf,<-nums_intItems,<-e]
 have T:0<xs.size:=by
  have N:0<(i::Y).length:=by simp
  rw[Z,au,bD]at N;exact N
 have S:s.heap.IsTuple p (intItems xs):=by
  rw[<-e]
  obtain⟨o,R,x,n,y⟩:=pl
  exact⟨o,R,x,n,y⟩
 have W:p<s.heap.objs.size:=by obtain⟨o,R,_⟩:=S;exact Heap.lt_size R
 refine call_max_walk (wpAny_pyIter_tuple S ?_)
 refine⟨_,_,_,_,_,_,_,rfl,Walks.tuple (A:=X.A.in1) (I.ok.hd B) _ p (bh W) (intItems xs),⟨⟨_,Heap.get?_push_size _ rfl,rfl,rfl⟩,S.push _⟩,λb O=>?_,by simpa[intItems]using T,CmpOf.ints_gt (numAt xs) (λ_ _=>intItems_at),λv h' tk C E=>?_⟩
 ·show b<(s.heap.push _).objs.size
  rw[Heap.size_push]
  simp at O
  rcases O with rfl|rfl
  ·exact fJ _
  ·exact gJ W
 have F:(intItems xs)[argBest (λi j=>decide (numAt xs i>numAt xs j)) (xs.size-1)]? = some v:=by simpa[intItems]using C
 obtain⟨t,rfl⟩:=intItems_at F
 obtain⟨h1,h2⟩:=argBest_gt (numAt xs) (xs.size-1)
 have J:numAt xs (argBest (λi j=>decide (numAt xs i>numAt xs j)) (xs.size-1))∈i::Y:=by
  rw[Z,numAt_eq];exact getD_mem (by rw[au,bD];omega)
 have L:∀a∈i::Y,a<=numAt xs (argBest (λi j=>decide (numAt xs i>numAt xs j)) (xs.size-1)):=λa ha=>by
  rw[Z]at ha
  obtain⟨j,D,rfl⟩:=mem_getD ha
  rw[au,bD]at D
  rw[<-numAt_eq];exact h2 j (by omega)
 have sp:=pN Y i
 have w:numAt xs (argBest (λi j=>decide (numAt xs i>numAt xs j)) (xs.size-1))=mxI i Y:=rA (sp.2 _ J) (L _ sp.1)
 rw[w]
 exact⟨.int _,H,I.kept λb o P=>E b o (λz=>by
  rw[aO.mp z]at P
  exact absurd (Heap.lt_size P) (eE _)) (Heap.get?_push_of_some _ P),⟨_,rfl⟩,q⟩
theorem O4:BrC K (λxs H Q=>∃(p:Addr)(i:Int)(r:List Int),xs=[.ref p]/\SqT K H p ((i::r).map V.int)/\Q (.int (mxI i r)) H) t_:=by
 intro H xs ds d Q r e q
 unfold t_ at e
 split at e
 ·next l=>
  split at e
  ·next i X T=>
   cases e
   cases r with
   |cons Y Z=>
    cases Z
    obtain⟨a,ys,rfl,W,U⟩:=Y.tupE
    obtain rfl:=uY T U
    exact⟨a,i,X,rfl,W,q _ rfl (.int _)⟩
  ·cases e
 ·cases e
end
end D3
namespace TE2
open PySem PySem.Spec PyProof.Rows
section
variable{prog:Program}{w:World}{A:Around}{E:Value->Shared->Prop}{s:Shared}{it t:Addr}{i:Nat}{items:Array Value}
theorem Ti{x:Value}(g:s.heap.IsTupleIter it t i)(D:s.heap.IsTuple t items)(B:items[i]? = some x)(q:∀h',h'.IsTupleIter it t (i+1)->Heap.SameBut it s.heap h'->Q x {s with heap:=h'}):wpAny (model prog w) A (Builtin.SmallTypes.nextOf (.ref it)) Q E s:=by
 obtain⟨o,Z,Y,hd⟩:=id g
 obtain⟨X,h1,_,nl,h2⟩:=D
 unfold Builtin.SmallTypes.nextOf
 refine wpAny_bind (wpAny_callSpecial?_slot (name:=Str.ofString "__next__") g.typeIs F.slot_tuple_iterator_next (wpAny_call_entry F.slot_tuple_iterator_next g.typeIs F.entry_tuple_iterator_next ?_ (F.args_tuple_iterator_next_1 _)))
 refine wpAny_bind (m:=field (.ref it) 0) (wpAny_field Z hd (x:=.ref t) rfl ?_)
 show wpAny _ _ (if(Value.ref t==Value.none)=true then _ else _) _ _ s
 rw[if_neg (show ¬((Value.ref t==Value.none)=true)from aW)]
 refine wpAny_bind (m:=field (.ref it) 1) (wpAny_field Z hd (x:=.int i 0) rfl (wpAny_bind (m:=seqItems? (.ref t)) (wpAny_seqItems h1 h2 ?_)))
 simp only[fO,B]
 refine wpAny_bind (wpAny_setField Z hd (by simp) (wpAny_pure ⟨x,rfl,wpAny_pure (q _ ⟨_,Heap.get?_update_self _ Z (Obj.isFreed_of_fields (Obj.data_mapFields hd _)),(Obj.cls_mapFields ..).trans Y,?_⟩ (Heap.SameBut.update ..))⟩))
 rw[Obj.data_mapFields hd];simp[rawInt]
theorem O5(J:A.handled=none)(g:s.heap.IsTupleIter it t i)(D:s.heap.IsTuple t items)(B:items[i]? = none)
 (q:∀h' e,Heap.ExtBut it s.heap h'->(∃o,h'.get? e=some o/\o.cls = .type "StopIteration")->E (.ref e) {s with heap:=h'}):wpAny (model prog w) A (Builtin.SmallTypes.nextOf (.ref it)) Q E s:=by
 obtain⟨o,Z,X,hd⟩:=id g
 obtain⟨Y,h1,_,nl,h2⟩:=D
 unfold Builtin.SmallTypes.nextOf
 refine wpAny_bind (wpAny_callSpecial?_slot (name:=Str.ofString "__next__") g.typeIs F.slot_tuple_iterator_next (wpAny_call_entry F.slot_tuple_iterator_next g.typeIs F.entry_tuple_iterator_next ?_ (F.args_tuple_iterator_next_1 _)))
 refine wpAny_bind (m:=field (.ref it) 0) (wpAny_field Z hd (x:=.ref t) rfl ?_)
 show wpAny _ _ (if(Value.ref t==Value.none)=true then _ else _) _ _ s
 rw[if_neg (show ¬((Value.ref t==Value.none)=true)from aW)]
 refine wpAny_bind (m:=field (.ref it) 1) (wpAny_field Z hd (x:=.int i 0) rfl (wpAny_bind (m:=seqItems? (.ref t)) (wpAny_seqItems h1 h2 ?_)))
 simp only[fO,B]
 refine wpAny_bind (wpAny_rule (wpAny_bind (wpAny_setField Z hd (by simp) ?_)))
 refine wpAny_bind (m:=newExc (.type "StopIteration") []) ?_
 simp only[newExc,newTuple]
 refine wpAny_bind (wpAny_newObj_type (wpAny_bind (m:=firstArgMember _ _) (wpAny_of_eq (a:=Value.none) (by first|rfl|(simp only[firstArgMember];rfl)) (wpAny_newObj_type ?_ (by size_fits)))) (by size_fits))
 simp only[raiseNew]
 refine wpAny_bind (wpAny_handled ?_)
 rw[show A.in1.handled=none from J]
 refine wpAny_bind (wpAny_pure (wpAny_throw ?_))
 exact q _ _ (((Heap.SameBut.update ..).extBut.push _).push _) ⟨_,Heap.get?_push_size _ rfl,rfl⟩
theorem draws(D:A.handled=none)(it t:Addr)(B:t≠it)(items:Array Value):Draws prog w A it [it,t] items.size (λi v=>items[i]? = some v) (λi h=>h.IsTupleIter it t i/\h.IsTuple t items) where
 live:=λ_ _ st=>let⟨o,Y,_⟩:=st.1;⟨o,Y⟩
 frame:=λ_ _ _ st Z=>⟨st.1.at λo e=>Z it (by simp) o e,st.2.at λo e=>Z t (by simp) o e⟩
 item:=λi s Q E hi st X=>Ti st.1 st.2 (x:=items[i]) (by simp[hi]) λh' g hs=>X _ h' s.toks (by simp[hi]) ⟨g,st.2.extBut hs.extBut B⟩ hs
 done:=λs Q E st W=>O5 D st.1 st.2 (by simp) W
end
open AutoSeq1 (wpAny_loadPart')
theorem O6(l:Addr)(items:Array Value)(n:Nat)(B:Option Addr)(sl:Array (Option Value)):
 Meets (Builtin.«enumerate.__new__» ⟨[.type "enumerate", .ref l],[]⟩) (λ_ R s=>s.heap.get? l=some {cls:=.type "tuple", dict:=B,data:=.seq items n,slots:=sl} /\
  R (.ok (.ret (.ref (s.heap.push {cls:=.type "tuple_iterator", data:=.fields #[.ref l,.int 0 0]}).objs.size)))
   {s with heap:=(s.heap.push {cls:=.type "tuple_iterator", data:=.fields #[.ref l,.int 0 0]}).push {cls:=.type "enumerate", data:=.fields #[.none,.bool false,.ref s.heap.objs.size,rawInt 0,.none,.none]} }):=
 .of_wp λprog w A R s h=>by
  obtain⟨W,g,d,tk,os⟩:=s;obtain⟨Z,h⟩:=h
  have Y:=sub_enumerate
  have X:Heap.IsTuple (Shared.heap ⟨W,g,d,tk,os⟩) l items:=⟨_,Z,rfl,n,rfl⟩
  wp_walk using wpAny_loadPart' Z
  refine wpAny_stack_any λst=>wpAny_pure ?_
  split
  ·rename_i c _ _ _ _ _
   cases(c==Value.type "enumerate")<;>(wp_walk using wpAny_loadPart' Z,wpAny_pyIter_tuple X;exact⟨_,rfl,h⟩)
  ·wp_walk using wpAny_loadPart' Z,wpAny_pyIter_tuple X
   exact⟨_,rfl,h⟩
section
variable{prog:Program}{w:World}{A:Around}{E:Value->Shared->Prop}{s:Shared}
theorem K4{l:Addr}{items:Array Value}(B:s.heap.IsTuple l items)
 (h:∀h',IsEnum h' (s.heap.objs.size+1) s.heap.objs.size 0 .none->h'.IsTupleIter s.heap.objs.size l 0->h'.objs.size=s.heap.objs.size+2->(∀b o,s.heap.get? b=some o->h'.get? b=some o)->Q (.ref (s.heap.objs.size+1)) {s with heap:=h'}) :
 wpAny (model prog w) A (call (.type "enumerate") [.ref l]) Q E s:=by
 obtain⟨⟨c,X,U,sl⟩,V,Y,n,hd⟩:=B
 replace Y:c = .type "tuple" := Y
 replace hd:U = .seq items n:=hd
 subst Y hd
 refine callType_new F.called_enumerate (by decide) (F.typeCall_enumerate_1 _) (F.newCall_enumerate_1 _) (λobj=>F.args_object_init_2 obj _) F.entry_enumerate_new (O6 l items n X sl) ⟨V,?_⟩
 have Z:(s.heap.push {cls:=.type "tuple_iterator", data:=.fields #[.ref l,.int 0 0]}).objs.size=s.heap.objs.size+1:=Heap.size_push ..
 show _/\_
 rw[Z]
 have W:IsEnum ((s.heap.push {cls:=.type "tuple_iterator", data:=.fields #[.ref l,.int 0 0]}).push {cls:=.type "enumerate", data:=.fields #[.none,.bool false,.ref s.heap.objs.size,rawInt 0,.none,.none]}) (s.heap.objs.size+1) s.heap.objs.size 0 .none:=by
  have:=Heap.get?_push_size (s.heap.push {cls:=.type "tuple_iterator", data:=.fields #[.ref l,.int 0 0]}) (o:={cls:=.type "enumerate", data:=.fields #[.none,.bool false,.ref s.heap.objs.size,rawInt 0,.none,.none]}) rfl
  rw[Z]at this;exact this
 exact⟨⟨_,W,rfl⟩,h _ W ⟨_,Heap.get?_push_of_some _ (Heap.get?_push_size _ rfl),rfl,rfl⟩ (by rw[Heap.size_push,Z]) λb o x=>Heap.get?_push_of_some _ (Heap.get?_push_of_some _ x)⟩
theorem Tj{e t:Addr}{items:Array Value}{old:Value}{Q:Option Value->Shared->Prop}(W:A.handled=none)(O:t≠it)(B:IsEnum s.heap e it (i:Int) old)(hi:s.heap.IsTupleIter it t i)(J:s.heap.IsTuple t items)(D:items[i]? = none)
 (q:∀h',Heap.ExtBut it s.heap h'->Q none {s with heap:=h'}):wpAny (model prog w) A (pyNext (.ref e)) Q E s:=by
 have ty:s.TypeIs (.ref e) "enumerate" := ⟨_,B,rfl⟩
 unfold pyNext
 refine wpAny_bind (wpAny_attempt (wpAny_callSpecial?_slot (name:=Str.ofString "__next__") ty F.slot_enumerate_next (wpAny_call_entry F.slot_enumerate_next ty F.entry_enumerate_next ?_ (F.args_enumerate_next_1 _))))
 refine wpAny_bind (m:=field (.ref e) 2) (wpAny_field B rfl (x:=.ref it) rfl (wpAny_bind (O5 (A:=A.in1) W hi J D λh' x Y Z=>?_)))
 obtain⟨o,X,V⟩:=Z
 exact wpAny_bind (wpAny_isInstance (T := "StopIteration") (b:=true) ⟨o,X,V⟩ isSubtype_stop (wpAny_pure (q _ Y)))
end
end TE2
namespace D3
open PySem PySem.Spec PyProof.Rows L2 My
noncomputable def ItT(K:PySem.W.Frag)(a:Addr):It:=
 ⟨λi H=>∃xs x,SqT K H a xs/\xs[i]? = some x,λi H x H'=>∃p y,H p=none/\H'=upd H p (.tup [.int i,y])/\x = .ref p/\∀xs,SqT K H a xs->xs[i]? = some y,λi H=>∃xs,SqT K H a xs/\xs.length<=i⟩
theorem HW{x1}(a it:Addr):
 Turn P w K (.Tuple elts x1 tpos) (ItT K a) [it+1,it] (it+1) (λi h=>∃old,IsEnum h (it+1) it (i:Int) old/\h.IsTupleIter it a i) where
 mem:=by simp
 obj:=λi h st b Z=>by
  obtain⟨old,V,o,e,c,d⟩:=st
  rcases aU.mp Z with z|z
  ·subst z
   exact⟨_,V,λv z=>by cases z⟩
  ·have z:b=it:=by simpa using z
   subst z
   exact⟨o,e,λv z=>by rw[d]at z;cases z⟩
 keep:=λi h h' st k=>by
  obtain⟨old,V,hi⟩:=st
  exact⟨old,k _ (by simp) _ V,hi.at λo e=>k it (by simp) o e⟩
 item:=by
  intro X m hw l q i pins s σ H E I S st t
  subst m hw l
  obtain⟨xs,x,L,D⟩:=t
  obtain⟨its,F,p,hz⟩:=I.tuple L
  obtain⟨u,C,ru⟩:=F.get D
  obtain⟨old,V,hi⟩:=st
  have fe:=S (it+1) (by simp)
  have fi:=S it (by simp)
  have N:it+1<s.heap.objs.size:=Heap.lt_size V
  have il:i<its.toArray.size:=by
   rw[aY]
   rcases gj i its.length with z|z
   ·exact z
   ·rw[bH z]at C;cases C
  have pt:s.heap.IsTuple a its.toArray:=by
   obtain⟨o,Y,U,n,R⟩:=p
   exact⟨o,Y,U,n,R⟩
  have T:a≠it:=λz=>by
   obtain⟨o,Y,U,_⟩:=p
   obtain⟨o2,R,j,_⟩:=id hi
   rw[z,R]at Y
   cases Y
   rw[j]at U
   exact absurd U (by decide)
  have O:a≠it+1:=λz=>by
   obtain⟨o,Y,U,_⟩:=p
   rw[z,V]at Y
   cases Y
   exact absurd (show Value.type "enumerate"=Value.type "tuple"from U) (by decide)
  refine wpAny_pyNext_enum_itemD (TE2.draws (A:=X.A.in1) (I.ok.hd q) it a T its.toArray) V ⟨hi,pt⟩ il (Nat.succ_ne_self it) (by simp[Ne.symm O]) λM h1 tk Q ho G ht hsz B=>?_
  have y:=G.1
  obtain rfl:M=u:=by
   have:its.toArray[i]? = some u:=by simpa using C
   rw[this]at Q
   exact(cY.inj Q).symm
  have B:∀b o,b≠it+1->b≠it->s.heap.get? b=some o->h1.get? b=some o:=B
  refine⟨_,rfl,wpAny_letOwnedTupleGo_enum ho λh2 r W=>?_⟩
  replace W:Heap.SameBut (it+1) h1 h2:=W
  have hn:H s.heap.objs.size=none:=I.hok.fresh (aL _)
  have I0:Inv X pins σ (upd H s.heap.objs.size (.tup [.int (i:Int),x])) {s with heap:=s.heap.push {cls:=.type "tuple", data:=.seq #[.int (i:Int) tk,M]} }:=
   I.laid (t':=s.toks) (λb o e=>Heap.get?_push_of_some _ e) (aL _) ⟨show 2<=sizeLine by decide,[.int (i:Int) tk,M],.cons ⟨_,rfl⟩ (.cons ru .nil),⟨_,Heap.get?_push_size _ rfl,rfl,_,rfl⟩⟩
  have ne:∀b,b∈[it+1,it]->b≠s.heap.objs.size:=λb Z=>by
   rcases aU.mp Z with J|J
   ·rw[J];exact bh N
   ·rw[show b=it by simpa using J];exact bh (gH N)
  have I1:Inv X pins σ (upd H s.heap.objs.size (.tup [.int (i:Int),x])) {s with heap:=h2,toks:=tk+1}:=by
   refine Inv.turnedL (s:={s with heap:=s.heap.push {cls:=.type "tuple", data:=.seq #[.int (i:Int) tk,M]} }) (ch:=[it+1,it]) I0 (λb o Z e=>?_) λb Z=>⟨by rw[cG (ne b Z)];exact(S b Z).1,(S b Z).2⟩
   have f:b≠it+1:=λz=>Z (by simp[z])
   have b2:b≠it:=λz=>Z (by simp[z])
   rcases Heap.get?_push_cases e with⟨g,e2⟩|g
   ·subst g e2
    exact(W.2 _ f).trans ht
   ·exact(W.2 _ f).trans (B b o f b2 g)
  refine⟨.ref s.heap.objs.size,_,I1,rfl,⟨_,x,hn,rfl,rfl,λys hy=>by rw[I.tuple_inj hy L];exact D⟩,⟨_,r,y.at λo e=>(W.2 _ (bh (fJ it))).trans e⟩,λb Z=>?_⟩
  rw[cG (ne b Z)]
  exact(S b Z).1
 done:=by
  intro X m hw l q i pins s σ H E I S st t
  subst m hw l
  obtain⟨xs,L,D⟩:=t
  obtain⟨its,F,p,hz⟩:=I.tuple L
  obtain⟨old,V,hi⟩:=st
  have hl:=F.length
  have pt:s.heap.IsTuple a its.toArray:=by
   obtain⟨o,Y,U,n,R⟩:=p
   exact⟨o,Y,U,n,R⟩
  have T:a≠it:=λz=>by
   obtain⟨o,Y,U,_⟩:=p
   obtain⟨o2,R,j,_⟩:=id hi
   rw[z,R]at Y
   cases Y
   rw[j]at U
   exact absurd U (by decide)
  refine TE2.Tj (I.ok.hd q) T V hi pt (by simp;omega) λh' eb=>⟨rfl,Inv.turnedL (t':=s.toks) (ch:=[it+1,it]) I (λb o Z e=>eb b o (λz=>Z (by simp[z])) e) S⟩
 self:=λ_ _ _ _ _ st h=>by
  obtain⟨old,V,_⟩:=st
  exact wpAny_pyIter_enum V h
section
variable{X:Cx}{fl:List Fl}{a:Expr}{f:FE}{pos:Pos}
noncomputable def Xf(K:PySem.W.Frag)(tl:TE):TI:=λσ H R=>tl σ H λx H1=>∃a,x = .ref a/\(∃xs,SqT K H1 a xs)/\R (ItT K a) H1
theorem O7{J}(hg:Gl X "enumerate")(hm:X.mg "enumerate"=none)(O:PE X a tl)(D:starEach [a] X.env=(false,eval a X.env)::starEach [] X.env:=by rfl)
 (B:(backTo pos (starEach [] X.env)).any (·.1)=false:=by rfl):PI X (.Tuple elts J tpos) (.Call (.Name "enumerate" p) [a] [] pos) (Xf X.K tl):=by
 intro pins s σ H R I h
 refine wpAny_Call_Name_kw (nD I hg hm boot_enumerate (PyProof.Rows.callWith_type1 (thn ((jA O oE D) pos pins s σ H (λvs H1=>match vs with|[x]=>∃a,x = .ref a/\(∃xs,SqT X.K H1 a xs)/\R (ItT X.K a) H1|_=>False) I h) λus s1 ⟨vs,H1,W,T,q1⟩=>?_) D B))
 cases T with
 |nil=>exact q1.elim
 |cons r U=>
  cases U with
  |cons _ _=>exact q1.elim
  |nil=>
  obtain⟨l,e,⟨xs,Q⟩,q⟩:=q1
  subst e
  cases r
  obtain⟨its,E,pl,C⟩:=W.tuple Q
  have pt:s1.heap.IsTuple l its.toArray:=by
   obtain⟨o,G,L,n,M⟩:=pl
   exact⟨o,G,L,n,M⟩
  refine TE2.K4 pt λh' Z V S P=>?_
  have F:Inv X pins σ H1 {s1 with heap:=h'}:=W.kept (t':=s1.toks) P
  refine wpAny_pyIter_enum (s:={s1 with heap:=h'}) Z ?_
  refine⟨s1.heap.objs.size+1,[s1.heap.objs.size+1,s1.heap.objs.size],_,_,H1,rfl,F,HW l s1.heap.objs.size,⟨_,Z,V⟩,λb N=>?_,q⟩
  have Y:s1.heap.objs.size<=b:=by
   rcases aU.mp N with z|z
   ·rw[z];exact kY _
   ·rw[show b=s1.heap.objs.size by simpa using z];exact aL _
  exact W.fpOk Y (W.hok.fresh Y)
theorem O8{J}(h:DE X fl (.B L) a f)(hg:Gl X "enumerate")(hm:X.mg "enumerate"=none)(he:starEach [a] X.env=(false,eval a X.env)::starEach [] X.env:=by rfl)
 (D:(backTo pos (starEach [] X.env)).any (·.1)=false:=by rfl):DI X fl L (.Tuple elts J tpos) (.Call (.Name "enumerate" p) [a] [] pos) (HD f):=PI.imp (O7 hg hm h he D) λσ H R' h=>by
 obtain⟨G,ow,δ,l,R,I,q⟩:=h
 obtain⟨d,F,S⟩:=bind1 I
 cases d<;>first|(cases S;done)|skip
 next V=>
 cases S
 refine⟨G,ow,δ,_,R,F,λv H1 s r=>?_⟩
 obtain⟨a,xs,rfl,N,keep⟩:=NP (R.grow s) r
 refine⟨a,rfl,⟨xs,N⟩,q _ _ s λH2 k2 i=>?_⟩
 obtain⟨Y,U⟩:=keep H2 k2
 refine⟨λd hd=>?_,λK=>⟨xs,Y,by rw[U.length];simpa[pL]using K⟩⟩
 have Z:(V[i]?).map (λx=>PyData.tuple [.int (i:Int),x])=some d:=by
  have:=hd
  unfold pL at this
  rw[fH]at this
  exact this
 cases e:V[i]? with
 |none=>rw[e]at Z;cases Z
 |some E=>
  rw[e]at Z
  cases Z
  obtain⟨y,T,P⟩:=U.get e
  refine⟨⟨xs,y,Y,T⟩,λx C W=>?_⟩
  obtain⟨p,Q,M,rfl,rfl,O⟩:=W
  have:some y=some Q:=T.symm.trans (O xs Y)
  cases this
  have g:=cX M (.tup [.int (i:Int),y])
  exact⟨g,.tup cQ (.cons (.int _) (.cons (P.same g) .nil))⟩
end
end D3
variable{ts:List (Addr×L2.V×L2.V)}
namespace XK
open PySem PySem.Spec PyProof.Rows L2 My D3
theorem Vg{P:Nat->Addr->V->V->Prop}:∀n,(∀j,j<n->∃a i k,P j a i k)->∃ts:List (Addr×V×V),ts.length=n/\∀j t,ts[j]? = some t->P j t.1 t.2.1 t.2.2
 |0,_=>⟨[],rfl,λj t h=>by simp at h⟩
 |n+1,h=>by
  obtain⟨ts,h1,h2⟩:=Vg n λj Y=>h j (by omega)
  obtain⟨a,i,k,X⟩:=h n (by omega)
  refine⟨ts++[(a,i,k)],by simp[h1],λj t e=>?_⟩
  by_cases Y:j<ts.length
  ·rw[bW Y]at e
   exact h2 j t e
  ·rw[bT (by omega)]at e
   have Z:j-ts.length=0:=by
    rcases ug (j-ts.length)with z|z
    ·exact z
    ·rw[bH (by simp;omega)]at e;cases e
   rw[Z]at e
   cases e
   rw[show j=n by omega]
   exact X
noncomputable def zf(H:Hp)(S:Addr)(vs:List V)(ts:List (Addr×V×V)):Hp:=λb=>if b=S then some (.lst vs)else match ts.find? (λt=>decide (t.1=b))with
 |some t=>some (.tup [t.2.1,t.2.2])
 |none=>H b
theorem O9{S:Addr}:zf H S vs ts S=some (.lst vs):=by unfold zf;rw[if_pos rfl]
theorem O_{S:Addr}(hi:∀(j j':Nat) (t t':Addr×V×V),ts[j]? = some t->ts[j']? = some t'->t.1=t'.1->j=j'){t:Addr×V×V}(B:t∈ts)(D:t.1≠S):zf H S vs ts t.1=some (.tup [t.2.1,t.2.2]):=by
 unfold zf
 rw[if_neg D]
 cases e:ts.find? (λu=>decide (u.1=t.1))with
 |none=>
  have:=jf.mp e t B
  simp at this
 |some t'=>
  have h1:=iD e
  have h2:t'.1=t.1:=of_decide_eq_true (q_ (p:=λu:Addr×V×V=>decide (u.1=t.1)) e)
  obtain⟨j,Y⟩:=gB B
  obtain⟨j',Z⟩:=gB h1
  have:=hi j j' t t' Y Z h2.symm
  subst this
  rw[Y]at Z
  cases Z
  rfl
theorem Pa{S:Addr}(h1:b≠S)(h2:∀t∈ts,t.1≠b):zf H S vs ts b=H b:=by
 unfold zf
 rw[if_neg h1,jf.mpr λt Z=>by simp[h2 t Z]]
theorem Pg{ok:Ok}:∀{vs:List V}{ds:List D},vs.length=ds.length->(∀(j:Nat)(v:V)(d:D),vs[j]? = some v->ds[j]? = some d->RA K ok pl H v d)->RAs K ok pl H vs ds
 |[],[],_,_=>.nil
 |[],_::_,h,_=>by cases h
 |_::_,[],h,_=>by cases h
 |v::vs,d::ds,h,g=>.cons (g 0 v d rfl rfl) (Pg (uP.inj h) λj u e h1 h2=>g (j+1) u e h1 h2)
theorem rR:∀l m:List D,(lN l m).length=min l.length m.length
 |[],m=>by simp[lN]
 |_::_,[]=>by simp[lN]
 |a::l,b::m=>by
  show(lN l m).length+1=_
  rw[rR l m,bB,bB]
  omega
section
variable{X:Cx}{fl:List Fl}{a b:Expr}{f g:FE}{p p2 pos pos2:Pos}
theorem Ph{L1 L2:List Nat}(ha:DE X fl (.B L1) a f)(hb:DE X fl (.B L2) b g)(hc:X.calm=true)(hg:Gl X "list")(hm:X.mg "list"=none)(hg2:Gl X "zip")(hm2:X.mg "zip"=none)
 (he:starEach [a,b] X.env=(false,eval a X.env)::starEach [b] X.env:=by rfl) (heb:starEach [b] X.env=(false,eval b X.env)::starEach [] X.env:=by rfl) (hpl:(backTo pos2 (starEach [b] X.env)).any (·.1)=false:=by rfl)
 (he2:starEach [.Call (.Name "zip" p2) [a,b] [] pos2] X.env=(false,eval (.Call (.Name "zip" p2) [a,b] [] pos2) X.env)::starEach [] X.env:=by rfl) (hpl2:(backTo pos (starEach [] X.env)).any (·.1)=false:=by rfl) :
 DE X fl .F (.Call (.Name "list" p) [.Call (.Name "zip" p2) [a,b] [] pos2] [] pos) (dOp v7 f g):=by
 intro pins s σ H Q I hq
 obtain⟨G,ow,δ,d,R,hf,q⟩:=hq
 obtain⟨x,y,e1,e2,L⟩:=Av hf
 unfold v7 at L
 split at L
 case h_2=>cases L
 next l m=>
 by_cases hl:l.length<=1000
 case neg=>rw[if_neg hl]at L;cases L
 rw[if_pos hl]at L
 cases L
 refine wpAny_Call_Name_kw (nD I hg hm boot_list (PyProof.Rows.callWith_type1 ?_ he2 hpl2))
 rw[he2]
 show wpAny _ _ (spliced ((false,eval (.Call (.Name "zip" p2) [a,b] [] pos2) X.env)::backTo pos (starEach [] X.env))) _ _ s
 refine Calls.spliced_cons ?_
 refine wpAny_Call_Name_kw (nD I hg2 hm2 D3.boot_zip (PyProof.Rows.callWith_type1 (thn ((jA ha (jA hb oE heb) he) pos2 pins s σ H (λvs H1=>∃v u,vs=[v,u]/\Same H H1/\(∃l1 xs,v = .ref l1/\SqL X.K H1 l1 xs/\RAs X.K (okA ow) true H1 xs l)/\∃l2 ys,u = .ref l2/\SqL X.K H1 l2 ys/\RAs X.K (okA ow) true H1 ys m) I
  ⟨G,ow,δ,_,R,e1,λv H1 s1 M=>⟨G,ow,δ,_,R.grow s1,e2,λu H2 s2 A=>⟨v,u,rfl,s1.trans s2,(let⟨l1,xs,e,hx,hr⟩:=uG M;⟨l1,xs,e,s2.seq hx,hr.same s2⟩),uG A⟩⟩⟩) λus s1 ⟨vs,H1,S,M,v,u,ev,D,rv,ru⟩=>?_) he hpl))
 subst ev
 obtain⟨l1,xs,rfl,hx,hr⟩:=rv
 obtain⟨l2,ys,rfl,hy,hr'⟩:=ru
 cases M with
 |cons ra rb=>
 cases rb with
 |cons rb rc=>
 cases rc
 cases ra
 cases rb
 obtain⟨its,C,pl,hz⟩:=S.list hx
 obtain⟨Z,O,pl',hz'⟩:=S.list hy
 have il:its.length=xs.length:=C.length.symm
 have il':Z.length=ys.length:=O.length.symm
 have xl:xs.length=l.length:=hr.length
 have yl:ys.length=m.length:=hr'.length
 refine call_zip_2 pl.isList pl'.isList λh' g1 g2 g3 g4 g5 g6 hk=>?_
 refine Calls.spliced_nil ?_
 have q1:h'.IsList l1 its.toArray:=by
  obtain⟨o,ho,r⟩:=pl.isList
  exact⟨o,hk _ _ ho,r⟩
 have q2:h'.IsList l2 Z.toArray:=by
  obtain⟨o,ho,r⟩:=pl'.isList
  exact⟨o,hk _ _ ho,r⟩
 have Dz:=vX g1 g2 g3 g4 g5 q1 q2 (bh (fJ _)) (bh (fJ _))
 refine Ob (s:={s1 with heap:=h'}) (S.ok.hd hc) Dz g1 g2 g3 g4 g5 q1 q2 (by rw[aY,il,xl];exact bF hl (by decide)) λY acc c kk f1 f2 f3 f4=>?_
 replace kk:∀c o,c∉[s1.heap.objs.size+4,s1.heap.objs.size+3,s1.heap.objs.size,s1.heap.objs.size+1]->h'.get? c=some o->Y.get? c=some o:=kk
 replace f4:Y.get? h'.objs.size=some {cls:=.type "list", dict:=none,data:=.seq acc c,slots:=#[]}:=f4
 replace f2:∀j,j<min its.toArray.size Z.toArray.size->∃a x y,acc[j]? = some (.ref a)/\h'.objs.size<a/\its.toArray[j]? = some x/\Z.toArray[j]? = some y/\IsPair Y a x y:=f2
 have fr:∀c,s1.heap.objs.size<=c->H1 c=none:=λc hc=>S.hok.fresh hc
 have kept:∀b u,s1.heap.get? b=some u->Y.get? b=some u:=λb u e=>kk b u (λz=>by
  have U:=Heap.lt_size e
  simp only[aU,aO,dw,or_false]at z
  rcases z with z|z|z|z<;>rw[z]at U
  ·exact mD.mpr (pG _ _) U
  ·exact mD.mpr (pG _ _) U
  ·exact eE _ U
  ·exact mD.mpr (pG _ _) U) (hk b u e)
 have sS:s1.heap.objs.size<=h'.objs.size:=by rw[g6];omega
 simp only[aY,il,il']at f1 f2
 obtain⟨ts,tl,J⟩:=Vg (P:=λj a i k=>acc[j]? = some (.ref a)/\h'.objs.size<a/\xs[j]? = some i/\ys[j]? = some k/\∃u v,IsPair Y a u v/\RelV i u/\RelV k v) (min xs.length ys.length) (λj E=>by
  obtain⟨a,x,y,k1,k2,k3,h,n⟩:=f2 j E
  have hn1:j<xs.length:=by omega
  have hn2:j<ys.length:=by omega
  obtain⟨u1,w1,M⟩:=C.get (aF hn1)
  obtain⟨u2,w2,A⟩:=O.get (aF hn2)
  have ex:x=u1:=by
   have:its[j]? = some x:=by simpa using k3
   rw[w1]at this
   exact(cY.inj this).symm
  have ey:y=u2:=by
   have:Z[j]? = some y:=by simpa using h
   rw[w2]at this
   exact(cY.inj this).symm
  subst ex ey
  exact⟨a,xs[j],ys[j],k1,k2,aF hn1,aF hn2,x,y,n,M,A⟩)
 have inj:∀(j j':Nat)(t t':Addr×V×V),ts[j]? = some t->ts[j']? = some t'->t.1=t'.1->j=j':=λj j' t t' h1 h2 h3=>by
  have a1:=(J j t h1).1
  have a2:=(J j' t' h2).1
  rw[<-h3]at a2
  exact f3 j j' t.1 a1 a2
 have T:∀t∈ts,h'.objs.size<t.1/\∃u v,IsPair Y t.1 u v/\RelV t.2.1 u/\RelV t.2.2 v:=λt W=>by
  obtain⟨j,E⟩:=gB W
  obtain⟨_,k2,_,_,n⟩:=J j t E
  exact⟨k2,n⟩
 have N:acc.toList=ts.map λt=>Value.ref t.1:=by
  apply eX
  intro j
  rw[cC,bf]
  by_cases E:j<ts.length
  ·rw[aF E]
   exact(J j _ (aF E)).1
  ·rw[bH (by omega),gZ (by omega)]
   rfl
 have tn:∀t∈ts,t.1≠h'.objs.size:=λt W=>lC (T t W).1
 have low:∀b,b<s1.heap.objs.size->zf H1 h'.objs.size (ts.map λt=>V.ref t.1) ts b=H1 b:=λb hb=>Pa (λz=>by rw[z]at hb;exact mD.mpr sS hb) λt W z=>by
  have:=(T t W).1
  rw[z]at this
  exact mD.mpr sS (nQ this hb)
 have hok:HOk X.prog X.w (zf H1 h'.objs.size (ts.map λt=>V.ref t.1) ts) Y:=λb u e=>by
  by_cases hbS:b=h'.objs.size
  ·subst hbS
   rw[O9]at e
   cases e
   refine⟨by rw[au,tl];exact bF (bF (Nat.min_le_left _ _) (by rw[xl];exact hl)) (by decide),acc.toList,c,?_,by simpa using f4⟩
   rw[N]
   clear J tl inj T N tn low
   induction ts with
   |nil=>exact .nil
   |cons t ts ih=>exact .cons rfl ih
  ·by_cases hbt:∃t∈ts,t.1=b
   ·obtain⟨t,W,rfl⟩:=hbt
    rw[O_ inj W (tn t W)]at e
    cases e
    obtain⟨_,v1,v2,n,k6,k7⟩:=T t W
    exact⟨show 2<=sizeLine by decide,[v1,v2],.cons k6 (.cons k7 .nil),⟨_,n,rfl,_,rfl⟩⟩
   ·rw[Pa hbS λt W z=>hbt ⟨t,W,z⟩]at e
    exact(S.hok b u e).stay (λc v _ r=>kept c v r) (λc r=>by rw[low c (S.hok.lt r)];exact r) λc xs r=>by rw[low c (S.hok.lt r)];exact r
 have sm:Same H1 (zf H1 h'.objs.size (ts.map λt=>V.ref t.1) ts):=λb u e=>by rw[low b (S.hok.lt e)];exact e
 have I2:=Od (t':=s1.toks) S kept low hok
 have sz:Same H1 (zf H1 h'.objs.size (ts.map λt=>V.ref t.1) ts):=sm
 have hrz:RAs X.K (λb=>okA ow b/\b≠h'.objs.size) true (zf H1 h'.objs.size (ts.map λt=>V.ref t.1) ts) (ts.map λt=>V.ref t.1) (lN l m):=by
  have hp:=fr _ sS
  have M:=(hr.track.imp (ok':=λb=>okA ow b/\b≠h'.objs.size) (λb w=>⟨w.1,λe=>w.2 (e▸hp)⟩) (λz=>z)).same sm
  have A:=(hr'.track.imp (ok':=λb=>okA ow b/\b≠h'.objs.size) (λb w=>⟨w.1,λe=>w.2 (e▸hp)⟩) (λz=>z)).same sm
  have zln:(lN l m).length=ts.length:=by rw[tl,xl,yl,rR]
  refine Pg (by rw[au,zln]) λj v d hv hd=>?_
  rw[bf]at hv
  cases et:ts[j]? with
  |none=>rw[et]at hv;cases hv
  |some t=>
   rw[et]at hv
   cases hv
   obtain⟨_,_,k3,h,_⟩:=J j t et
   have lj:j<l.length:=by
    rw[<-xl]
    rcases gj j xs.length with z|z
    ·exact z
    ·rw[bH z]at k3;cases k3
   have mj:j<m.length:=by
    rw[<-yl]
    rcases gj j ys.length with z|z
    ·exact z
    ·rw[bH z]at h;cases h
   rw[yH,aF lj,aF mj]at hd
   cases hd
   obtain⟨y1,g1,g2⟩:=M.get (aF lj)
   obtain⟨y2,g3,g4⟩:=A.get (aF mj)
   rw[k3]at g1
   rw[h]at g3
   cases g1
   cases g3
   exact .tup (O_ inj (gA et) (tn t (gA et))) (.cons g2 (.cons g4 .nil))
 refine⟨.ref h'.objs.size,_,I2,rfl,q _ _ (D.trans sm) (.inr ⟨h'.objs.size,_,_,rfl,rfl,D.free (fr _ sS),O9,hrz⟩)⟩
end
end XK
namespace XJ
open PySem PySem.Spec PySem.W PyProof.Rows XS
section
variable{prog:Program}{w:World}{A:Around}{E:Value->Shared->Prop}{s:Shared}
structure PR(prog:Program)(w:World)(h:Heap)(D I l:Addr)(its:Array Value)(vs:List (List L2.Key×Addr×Value))(i:Nat):Prop where
 iter:h.IsListIter I l i
 lst:h.IsList l its
 prs:∀(j:Nat)(u:Value),its[j]? = some u->∃(a b:Addr)(k:List L2.Key)(v:Value),u=Value.ref a/\IsTup h a #[Value.ref b,v]/\vs[j]? = some (k,b,v)/\a≠D/\a≠I/\(tupleKind (L2.iW prog w)).is h k b/\b≠D/\b≠I
 ne:l≠D/\l≠I/\D≠I
end
end XJ
namespace XJ
open PySem PySem.Spec PySem.W PyProof.Rows L2 My D3 XK XT XD XS
theorem tE:∀(ks:List (List Int))(S:List (List Int)),(ks.foldl mL S).length<=S.length+ks.length
 |[],S=>aL _
 |k::ks,S=>by
  have h1:=tE ks (mL S k)
  have h2:(mL S k).length<=S.length+1:=by
   unfold mL
   split<;>simp
  rw[gQ,bB]
  omega
section
variable{X:Cx}
end
end XJ
namespace XV
open PySem PySem.Spec PyProof.Rows L2 My D3
end XV
namespace D3
open PySem
noncomputable def sE(i:Nat)(fk:FE):FS:=λδ=>(ao i δ).bind λx=>(fk δ).bind λy=>(N5 x).bind λS=>(CK y).bind λk=>if S.length<1000000 then some (.nx (δ.set i (some (.d (dsT (mL S k))))))else none
end D3
namespace XJ
open PySem PySem.Spec PyProof.Rows L2 My D3 XK XT
section
variable{K:PySem.W.Frag}{fl:List Fl}
theorem HS(h:tsD kvs=some []):kvs=[]:=by
 cases kvs with
 |nil=>rfl
 |cons q r=>
  obtain⟨a,b⟩:=q
  unfold tsD at h
  split at h
  ·next e=>cases e
  ·next e=>
   cases e
   obtain⟨k,X,Z⟩:=bind1 h
   cases Y:tsD r with
   |none=>rw[Y]at Z;cases Z
   |some z=>rw[Y]at Z;cases Z
  ·cases h
theorem K5{σ:L2.St}{x:D}(R:Rel K fl G ow σ H δ)(O:fl[i]? = some .N)(hx:ao i δ=some x)(B:N5 x=some []):
 ∃a,σ[i]? = some (some (.ref a))/\H a=some (.dK [])/\∀H',Same H H'->∀J,J≠[]->∃W,Rel K fl G W σ (upd H' a (.dT (dtI J))) (δ.set i (some (.d (dsT J)))):=by
 have e:=mV hx
 have hi:i<δ.length:=by
  rcases gj i δ.length with z|z
  ·exact z
  ·rw[bH z]at e;cases e
 obtain⟨v,h1,h2,T⟩:=R.nr i x (by rw[O];rfl) e
 generalize Y:ow.n i=as at h2 T
 cases h2 with
 |dic ha V=>
  rename_i a u kvs
  have X:=HS B
  subst X
  rw[V.old rfl]at ha
  refine⟨a,h1,ha,λH' s J Z=>?_⟩
  refine(R.grow s).mutN (as:=[a]) O hi (by rw[Y];exact gM _) (s _ _ ha) h1 ?_ (λb U=>by rw[Y];exact U) (dJ.mpr ⟨dw,.nil⟩)
  refine .dic cQ (.inl ⟨yS (yP J),?_⟩)
  rw[CT (yP J) Z]
 |non=>cases B
 |bl _=>cases B
 |int _=>cases B
 |str _=>cases B
 |lst _ _=>cases B
 |tup _ _=>cases B
end
noncomputable def Xg:V->V->V->Hp->(Hp->Prop)->Prop:=λo i v H Q=>Vd o i v H Q\/∃p k b,o = .ref p/\i = .ref b/\H p=some (.dK [])/\H b=some (.tup (ou kV k))/\Q (upd H p (.dT [(k,v)]))
section
variable{X:Cx}{fl:List Fl}{e ke:Expr}{fk:FE}{pos:Pos}
theorem K6(B:X.A.units+1<cLine):Ri X Xg:=by
 intro pins s σ H o i v R P u Q I W V Y h
 rcases h with h|⟨p,k,b,rfl,rfl,U,T,q⟩
 ·exact Oh B pins s σ H o i v R P u Q I W V Y h
 ·cases W
  have Z:upd H p (.dT []) b=some (.tup (ou kV k)):=by
   rw[cG (yg T U (λz=>nomatch z))]
   exact T
  exact Bc B (Ol I U) (HJ.t cQ Z (show 0<sizeLine by decide)) V Y λs' S=>⟨_,by rw[Ir]at S;exact S,q⟩
theorem Pj(hu:X.A.units+1<cLine){i:Nat}{x:Str}{vpos spos:Pos}(B:fl[i]? = some .N)(he:PE X e (tC (.bl true)))(hk:DE X fl .P ke fk)(hN:X.N[i]? = some x)(hv:Vis X.env.scope x:=by first|exact Or.inl rfl|exact Or.inr (Or.inl rfl)|exact Or.inr (Or.inr rfl))(hd:(x==("__debug__":Str))=false:=by decide)
 (O:(x==("__classdict__":Str))=false:=by decide) (ha:∀v,assign (.Subscript (.Name x vpos) ke spos) X.env v=(do
  let D <-holding [v] (eval (.Name x vpos) X.env)
  let J <-holding [v,D] (eval ke X.env)
  standAt spos
  holding [v,D,J] (setItem D J v)
  release [v,D,J] []):=by intro _;rfl)
 (hs:swapsWithSole [.Subscript (.Name x vpos) ke spos] e pos.line X.env=pure false:=by rfl) (hw:swappedStores [.Subscript (.Name x vpos) ke spos] e X.env=pure none:=by rfl)
 (h1:(assignEach [.Subscript (.Name x vpos) ke spos] X.env).map (·.2)=[assign (.Subscript (.Name x vpos) ke spos) X.env]:=by rfl) :
 DS1 X fl (.Assign [.Subscript (.Name x vpos) ke spos] e pos) (sE i fk):=
 PS.imp (G9 he (Mi (qe hN hv hd O) hk (K6 hu) ha) hs hw h1) λDn σ H h=>by
 obtain⟨G,ow,δ,o,R,Z,q⟩:=h
 obtain⟨y,F,Z⟩:=bind1 Z
 obtain⟨z,I,Z⟩:=bind1 Z
 obtain⟨S,K,Z⟩:=bind1 Z
 obtain⟨k,L,Z⟩:=bind1 Z
 by_cases V:S.length<1000000
 case neg=>rw[if_neg V]at Z;cases Z
 rw[if_pos V]at Z
 cases Z
 by_cases Q:S=[]
 ·subst Q
  obtain⟨p,h1,h2,M⟩:=K5 R B F K
  refine⟨_,h1,G,ow,δ,_,R,I,λu H2 s2 W=>?_⟩
  obtain⟨b,rfl,U⟩:=xP L W
  obtain⟨Y,R'⟩:=M H2 s2 [k] (by simp)
  exact .inr ⟨p,k.map Sum.inl,b,rfl,rfl,s2 _ _ h2,U,q Y σ _ R'⟩
 ·obtain⟨p,h1,h2,M⟩:=Og R B F K Q
  refine⟨_,h1,G,ow,δ,_,R,I,λu H2 s2 W=>?_⟩
  obtain⟨b,rfl,U⟩:=xP L W
  have T:mL S k≠[]:=by
   unfold mL
   split
   ·exact Q
   ·simp
  obtain⟨Y,R'⟩:=M H2 s2 (mL S k) T
  refine .inl ⟨p,dtI S,k.map Sum.inl,b,rfl,rfl,s2 _ _ h2,U,by unfold dtI;rw[au];exact nQ V (by decide),?_⟩
  rw[W6]
  exact q Y σ _ R'
end
end XJ
namespace XL
open PySem PySem.Spec PySem.W PyProof.Rows L2 My D3
noncomputable abbrev K7(x y:Str)(p1 p2 p3 p4 p5:Pos)(kd:Nat):Expr:=.Subscript (.Subscript (.Name x p1) (.Name y p2) p3) (.Constant (.int 0) kd p4) p5
section
variable{prog:Program}{w:World}{A:Around}{R:Result->Shared->Prop}{s:Shared}{f c' a b cell:Addr}{nm q x y:Str}{params:Arguments}{scope:Scope}{pm ctv:Value}{p1 p2 p3 p4 p5:Pos}{kd:Nat}{i k:Int}{j:Nat}{t t':Tok}{its its2:Array Value}
theorem Pk{x:Value}(O:s.heap.IsList a its)(D : -(its.size:Int)<=i)(J:i<its.size)(hsz:its.size<=sizeLine)(B:seqIndex? i its.size=some j)(hi:its[j]? = some x)(h:Q x s):
 wpAny (model prog w) A (getItem (.ref a) (.int i t)) Q E s:=by
 have hn:=vM
 by_cases Y:0<=i
 ·have Z:i.toNat=j:=by
   rw[seqIndex_of Y J]at B
   exact cY.inj B
  exact wpAny_getItem_list O Y (by omega) (by rw[Z];exact hi) h
 ·have Z:(i+(its.size:Int)).toNat=j:=by
   rw[seqIndex_neg (by omega) D]at B
   exact cY.inj B
  exact wpAny_getItem_list_neg O (by omega) D (by omega) (by rw[Z];exact hi) h
theorem Tp(ho:s.heap.get? f=some (kla_obj nm q params (K7 x y p1 p2 p3 p4 p5 kd) scope [(x,cell)] pm c' ctv))(hcd:s.heap.CodeRec (.ref c') q)(B:A.depth<recursionLimit)(hlim:s.heap.NoLimit)
 (O:∀u,bindArgs (kla_fn nm q params (K7 x y p1 p2 p3 p4 p5 kd) scope [(x,cell)] pm (.ref c') ctv) ⟨[u],[]⟩=pure [(y,u)])
 (hco:scope.isCoroutine=false) (hgen:scope.isGenerator=false) (hk:scope.kind = .function) (J:∀z∈scope.names,z.2 ≠ .cell) (hy:scope.names.lookup y=some .local) (hx:scope.names.lookup x=some .free)
 (hxd:(x==("__debug__":Str))=false) (hyd:(y==("__debug__":Str))=false) (hxc:(x==("__classdict__":Str))=false)
 (hc:s.heap.IsCell cell (some (.ref a))) (hl:s.heap.IsList a its) (hlo : -(its.size:Int)<=i) (hhi:i<its.size) (hsz:its.size<=sizeLine) (hsx:seqIndex? i its.size=some j) (hi:its[j]? = some (.ref b)) (ht:IsTup s.heap b its2) (D:its2[0]? = some (.int k t'))
 (h:∀h' tk,(∀b o,s.heap.get? b=some o->h'.get? b=some o)->R (.ok (.ret (.int k t'))) {s with heap:=h',toks:=tk}) :
 codeAny (model prog w) A (.call (.ref f) ⟨[.int i t],[]⟩) R s:=by
 refine kla_callFunE B ho rfl hco hgen rfl hcd ?_
 rw[O]
 refine wpAny_pure (wpAny_newFunctionEnv J (λz P=>?_) (λY Q U=>⟨hlim.fresh _ U,?_⟩) hk)
 ·rw[aO.mp P]
  exact hy
 have Z:∀b o,s.heap.get? b=some o->Y.get? b=some o:=λb o e=>U.extBut b o (bh (Heap.lt_size e)) (Heap.get?_push_of_some _ e)
 refine kla_codeExpr ?_
 have S:Y.IsList a its:=by
  obtain⟨o,W,X⟩:=hl
  exact⟨o,Z _ _ W,X⟩
 have V:IsTup Y b its2:=by
  obtain⟨o,W,X⟩:=ht
  exact⟨o,Z _ _ W,X⟩
 refine Subscript_ ?_
 refine Subscript_ ?_
 refine wpAny_Name ?_ hxd
 refine wpAny_loadName_free (c:=cell) (v:=.ref a) hk hx ?_ ?_ ?_ hxc
 ·show wC x [(x,cell)]=some cell
  simp
 ·obtain⟨o,W,X⟩:=hc
  exact⟨o,Z _ _ W,X⟩
 refine wpAny_Name ?_ hyd
 refine wpAny_loadName_local (v:=.int i t) hk hy Q ?_ ?_
 ·simp
 refine subscriptTail_builtin (T := "list") (id := "list.__getitem__") ?_ PySem.F.slot_list_getitem.lookup ?_
 ·obtain⟨o,W,X,_⟩:=S
  exact⟨o,W,X⟩
 refine Pk S hlo hhi hsz hsx hi ?_
 refine wpAny_Constant_int ?_
 refine kba_turn (value':=PySem.Expr.Name (PySem.Str.ofString "_") ⟨0,0,0,0⟩) (λ_=>rfl) ?_
 refine subscriptTail_builtin (T := "tuple") (id := "tuple.__getitem__") ?_ PySem.F.slot_tuple_getitem.lookup ?_
 ·obtain⟨o,W,X,_⟩:=V
  exact⟨o,W,X⟩
 refine PyProof.Rows.getItem_tuple (j:=0) (x:=.int k t') V (by decide) (by decide) ?_ D ?_
 ·have:0<its2.size:=by
   rcases gj 0 its2.size with z|z
   ·exact z
   ·rw[gZ z]at D;cases D
  unfold seqIndex?
  have h2:(0:Int)<(its2.size:Int):=by omega
  show(if(decide ((0:Int)<=0)&&decide ((0:Int)<(its2.size:Int)))=true then some (0:Int).toNat else none)=some 0
  rw[dTr (eV 0),dTr h2]
  rfl
 ·exact h Y _ Z
end
section
variable{M:Model}{A:Around}{E:Value->Shared->Prop}{s:Shared}{params:Arguments}{body:Expr}{scope:Scope}{env:Env}{c P:Addr}{pos:Pos}{mg:Str->Option Value}{clos:List (Str×Addr)}{Q:Value->Shared->Prop}{q:Str}
noncomputable abbrev ent(pos:Pos)(c':Addr):Array Value:=#[rawInt pos.line,rawInt pos.col,.ref c']
theorem Pn(hq:env.qual++"<lambda>"=q)(J:defaultsOf params env=([],[]))(O:closureFor scope env=pure clos)(D:env.globals=mainGlobals)(hg:s.heap.Ns mainGlobals mg)(B:env.code = .ref c)(C:CodeHd s.heap c P)(hgP:mainGlobals≠P)(hb:s.heap.BuiltinsAt mg P)
 (hT:∃ps,s.heap.get? P=some (tabObj ps)/\(ps = #[]\/∃c',ps=ent pos c'/\s.heap.CodeRec (.ref c') q))
 (h:∀f c' ctv h' tk,(∀b o,b≠P->s.heap.get? b=some o->h'.get? b=some o)->h'.get? P=some (tabObj (ent pos c'))->(s.heap.get? P=some (tabObj (ent pos c'))\/(s.heap.get? P=some (tabObj #[])/\s.heap.objs.size<=c'/\c'≠f))->s.heap.objs.size<=f ->
  h'.get? f=some (kla_obj "<lambda>" q params body scope clos ((mg "__name__").getD .none) c' ctv)->h'.CodeRec (.ref c') q->Q (.ref f) {s with heap:=h',toks:=tk}) :
 wpAny M A (eval (.Lambda params body scope pos) env) Q E s:=by
 refine kla_eval J ?_
 rw[hq]
 obtain⟨ps,W,z|⟨c',z,I⟩⟩:=hT
 ·subst z
  refine kla_makeFunction (mg:=mg) O D hg B C W trivial rfl hgP hb λc' ctv h' tk K X Y Z U=>?_
  have up:∀b o,h'.get? b=some o->(h'.push (kla_obj "<lambda>" q params body scope clos ((mg "__name__").getD .none) c' ctv)).get? b=some o:=λb o e=>Heap.get?_push_of_some _ e
  obtain⟨L,oc,vs,V,N,R,S⟩:=Z
  refine h h'.objs.size c' ctv _ tk (λb o hb e=>up b o (K b o hb e)) (up _ _ (by rw[U];rfl)) (.inr ⟨W,X,bh Y⟩) (bF X (eF Y)) (Heap.get?_push_size _ rfl) ⟨L,oc,vs,V,N,up _ _ R,S⟩
 ·subst z
  have ha:codeAmong pos (ent pos c').toList=some (.ref c'):=by simp[codeAmong,rawInt]
  refine kla_makeFunctionHit (mg:=mg) O D hg B C W trivial ha hb λctv h' tk H T=>?_
  have up:∀b o,s.heap.get? b=some o->(h'.push (kla_obj "<lambda>" q params body scope clos ((mg "__name__").getD .none) c' ctv)).get? b=some o:=λb o e=>Heap.get?_push_of_some _ (H b o e)
  obtain⟨L,oc,vs,V,N,R,S⟩:=I
  exact h h'.objs.size c' ctv _ tk (λb o _ e=>up b o e) (up _ _ W) (.inl W) T (Heap.get?_push_size _ rfl) ⟨L,oc,vs,V,N,up _ _ R,S⟩
end
end XL
namespace XL
open PySem PySem.Spec PySem.W PyProof.Rows L2 My D3 XS
section
variable{prog:Program}{w:World}{A:Around}{h₀:Heap}{L kS:Addr}{m:Str->Option Value}{f:Value}{nw:List (Addr×Obj)}
noncomputable def JC(prog:Program)(w:World)(A:Around)(nw:List (Addr×Obj))(f v:Value)(k:Int):Prop:=
 ∃t,∀(s:Shared)(R:Result->Shared->Prop),(∀p∈nw,s.heap.get? p.1=some p.2)->s.heap.NoLimit->(∀h' tk,(∀b o,s.heap.get? b=some o->h'.get? b=some o)->R (.ok (.ret (.int k t))) {s with heap:=h',toks:=tk}) ->
  codeAny (model prog w) A (.call f ⟨[v],[]⟩) R s
theorem Gf{Fin:List Value->Nat->Shared->Prop}(J:∀y∈nw,y.1≠kS)(D:∀s:Shared,(∀p∈nw,s.heap.get? p.1=some p.2)->s.heap.NoLimit):∀(vs:List Value)(ns:List Int)(ks:List Value)(e:Nat)(s:Shared),Paired (λv k=>JC prog w A nw f v k) vs ns ->
 Fr h₀ L s.heap m->News h₀ L s.heap ((kS,seqObj "list" (jg ks) e)::nw) ->
 (∀B O s',Fr h₀ L s'.heap m->News h₀ L s'.heap ((kS,seqObj "list" (jg (ks++B)) O)::nw)->s'.gens=s.gens->s'.drawn=s.drawn->s'.os=s.os->Paired (λ(v:Value)(k:Int)=>∃t,v = .int k t) B ns->Fin (ks++B) O s') ->
 KatKeys prog w A h₀ L m kS f Fin vs ks e s
 |[],_,ks,e,s,p,F,N,h=>by
  cases p
  have:=h [] e s F (by rw[cT];exact N) rfl rfl rfl .nil
  rw[cT]at this
  exact this
 |v::vs,_,ks,e,s,p,F,N,h=>by
  cases p with
  |cons p1 p2=>
  rename_i k ns
  obtain⟨t,c⟩:=p1
  have Z:∀p∈nw,s.heap.get? p.1=some p.2:=λp Y=>(N p (aJ _ Y)).1
  refine KatKeys.cons (wpAny_call (c s _ Z (D s Z) λh' tk X=>?_))
  have K:Fr h₀ L h' m:=⟨F.ns.keeps X,λb o z=>X b o (F.keep b o z),F.above⟩
  have Q:News h₀ L h' ((kS,seqObj "list" (jg ks) e)::nw):=λp Y=>⟨X _ _ (N p Y).1,(N p Y).2⟩
  refine KatBack.intro (s:={s with heap:=h',toks:=tk}) K Q (.head J) λh2 T M R=>?_
  refine Gf J D vs ns (ks++[.int k t]) T {s with heap:=h2,toks:=tk} p2 M R λB O s' P S U V W q=>?_
  have z:=h (.int k t::B) O s' P (by rw[show ks++.int k t::B=ks++[.int k t]++B by simp];exact S) U V W (.cons ⟨t,rfl⟩ q)
  rw[show ks++.int k t::B=ks++[.int k t]++B by simp]at z
  exact z
end
section
variable{prog:Program}{w:World}{A:Around}{E:Value->Shared->Prop}{s:Shared}{h₀:Heap}{L l fa:Addr}{m:Str->Option Value}{vs:List Value}{ns:List Int}{news:List (Addr×Obj)}{Q:Value->Shared->Prop}
noncomputable def ltK(ns:List Int)(i j:Nat):Bool:=decide (ns.getD i 0<ns.getD j 0)
theorem HX(a b:Value):argsOk "sorted" ⟨[a],[(Str.ofString "key", b)]⟩:=by unfold argsOk;kernel_rfl
theorem Gg(a b:Value):argsOk "list.sort" ⟨[a],[(Str.ofString "key", b)]⟩:=by unfold argsOk;kernel_rfl
theorem ints_of:∀{ks:List Value}{ns:List Int},Paired (λ(v:Value)(k:Int)=>∃t,v = .int k t) ks ns->IntsAre ks ns
 |_,_,.nil=>.nil
 |_,_,.cons p q=>by
  obtain⟨t,rfl⟩:=p
  exact .cons _ _ (ints_of q)
theorem Dm:∀{ks:List Value}{ns:List Int},Paired (λ(v:Value)(k:Int)=>∃t,v = .int k t) ks ns->∀i,i<ks.length->∃t,ks.getD i .none = .int (ns.getD i 0) t
 |_,_,.nil,i,h=>by cases h
 |_,_,.cons p q,0,h=>by obtain⟨t,rfl⟩:=p;exact⟨t,rfl⟩
 |_,_,.cons p q,i+1,h=>by
  obtain⟨t,e⟩:=Dm q i (by simpa using h)
  exact⟨t,by simpa using e⟩
theorem Bk{α β:Type}{R:α->β->Prop}:∀{l:List α}{r:List β},Paired R l r->∀{i:Nat}{a:α}{b:β},l[i]? = some a->r[i]? = some b->R a b
 |_,_,.nil,i,a,b,h,_=>by simp at h
 |_,_,.cons p q,0,a,b,h1,h2=>by
  simp at h1 h2
  subst h1 h2
  exact p
 |_,_,.cons p q,i+1,a,b,h1,h2=>Bk q (i:=i) (by simpa using h1) (by simpa using h2)
end
end XL
namespace XS
open PySem D3
noncomputable def uc(l:List D)(ns:List Int):List D:=if l.length<=1 then l else(nJ l.length λi j=>decide (ns.getD i 0<ns.getD j 0)).map λi=>l.getD i .none
noncomputable def Dp(fa fe:FE)(ix:List Nat):FE:=λδ=>(fa δ).bind λx=>match x with
 | .list l=>if l.length<64/\flats l=true then(lA (gNl 0) D3.m6 fe (nF 1 ix δ) l).bind λks=>(dU ks).map λns=>.list (uc l ns)else none
 |_=>none
noncomputable def dK0:FE:=λδ=>match δ with
 |[some (.d (.int z)),some (.d (.list ds))]=>(pAt ds z).bind λt=>match t with
  | .tuple (.int n::_)=>some (.int n)
  |_=>none
 |_=>none
noncomputable def qSK(x:Option D)(k:List D->Option (List D)):Option D:=match x with
 |some (.list l)=>if l.length<64/\flats l=true then(k l).bind λks=>(dU ks).map λns=>.list (uc l ns)else none
 |_=>none
theorem Tq{fa:FE}{ix:List Nat}:Dp fa fe ix δ=qSK (fa δ) (lA (gNl 0) D3.m6 fe (nF 1 ix δ)):=by
 unfold Dp qSK
 cases fa δ with
 |none=>rfl
 |some d=>cases d<;>rfl
theorem K8{ks:List D}{k:List D->Option (List D)}(h1:l.length<64)(h2:flats l=true)(J:k l=some ks)(B:dU ks=some ns):qSK (some (.list l)) k=some (.list (uc l ns)):=by
 unfold qSK
 dsimp only
 rw[if_pos ⟨h1,h2⟩,J,aM,B]
 rfl
end XS
variable{c:Addr}
namespace XL
open PySem PySem.Spec PySem.W PyProof.Rows L2 My D3 XS
section
variable{X:Cx}{pins:List (Addr×Obj)}{σ:L2.St}{H:Hp}{s:Shared}{h':Heap}{P c':Addr}{q:Str}{lp:Pos}{tk:Nat}
theorem Tr(I:Inv X pins σ H s)(J:H P=some (.tbl q lp))(kp:∀b o,b≠P->s.heap.get? b=some o->h'.get? b=some o)(O:h'.get? P=some (tabObj (ent lp c')))
 (D:s.heap.get? P=some (tabObj (ent lp c'))\/(s.heap.get? P=some (tabObj #[])/\s.heap.objs.size<=c')) (B:h'.CodeRec (.ref c') q) :
 ∃H2,Inv X pins σ H2 {s with heap:=h',toks:=tk}/\Same H H2:=by
 rcases D with z|⟨z,Y⟩
 ·refine⟨H,I.kept λb o e=>?_,λ_ _ e=>e⟩
  by_cases Z:b=P
  ·subst Z
   rw[z]at e;cases e
   exact O
  ·exact kp b o Z e
 ·have hn:H c'=none:=I.hok.fresh Y
  have ne:∀{b u},H b=some u->b≠c':=λe=>jE e hn
  have V:∀{b},H b=none->b≠P:=λe y=>by rw[y,J]at e;cases e
  refine⟨upd H c' (.own P),?_,cX hn _⟩
  refine I.step (g':=s.gens) (d':=s.drawn) (ch:=[]) (λb Z=>by cases Z) (λb u _ _ _ e n=>kp b u (V n) e) (λb u _ _ _ e n=>⟨u.slots,kp b u (V n) e⟩) (λb u _ e n=>?_) (λb u _ e=>?_)
   (λb xs e=>by rw[cG (ne e)];exact e) (λb u v e=>by rw[cG (ne e)];exact e) (λb q p e=>by rw[cG (ne e)];exact e) (λm ⟨o,es,ep,e,r⟩=>⟨o,es,ep,kp _ o (V I.free) e,r⟩) (λb u e=>?_) I.bare
  ·rw[cG (bh (bR (Heap.lt_size e) Y))];exact n
  ·by_cases Z:b=P
   ·exact⟨_,by rw[Z];exact O⟩
   ·exact⟨u,kp b u Z e⟩
  ·by_cases Z:b=c'
   ·subst Z
    rw[cQ]at e
    cases e
    obtain⟨M,oc,vs,N,Q,R,_⟩:=B
    cases Q
    exact⟨_,R⟩
   ·rw[cG Z]at e
    by_cases W:b=P
    ·subst W
     rw[J]at e;cases e
     exact⟨_,O,.inr ⟨c',rfl,cQ,B⟩⟩
    ·refine(I.hok b u e).stay (λc w S y=>kp c w (λT=>?_) y) (λc y=>by rw[cG (ne y)];exact y) λc xs y=>by rw[cG (ne y)];exact y
     rcases S with rfl|U
     ·exact W T
     ·rw[T,J]at U;cases U
end
theorem Bm:∀{ys:List V}{vs:List Value},Vals ys vs->∀i,RelV (ys.getD i .non) (vs.getD i .none)
 |_,_,.nil,i=>by simp;rfl
 |_,_,.cons r Z,0=>r
 |_,_,.cons r Z,i+1=>by simpa using Bm Z i
theorem Bo{J:DS}:∀{l ks:List D}{ns:List Int},lA (gNl 0) D3.m6 fe J l=some ks->dU ks=some ns->Paired (λd n=>∃B,gNl 0 d J=some B/\fe B=some (.int n)) l ns
 |[],ks,ns,h1,h2=>by
  cases h1
  cases h2
  exact .nil
 |d::l,ks,ns,h1,h2=>by
  unfold lA at h1
  obtain⟨B,T,h1⟩:=bind1 h1
  obtain⟨b,U,h1⟩:=bind1 h1
  cases U
  rw[if_pos rfl]at h1
  obtain⟨x,V,h1⟩:=bind1 h1
  obtain⟨r,W,h1⟩:=bind1 h1
  cases h1
  cases x with
  |int n=>
   have Y:(dU r).bind (λm=>some (n::m))=some ns:=by
    cases Z:dU r with
    |none=>unfold dU at h2;rw[Z]at h2;cases h2
    |some m=>unfold dU at h2;rw[Z]at h2;cases h2;rfl
   obtain⟨m,Z,X⟩:=bind1 Y
   cases X
   exact .cons ⟨B,T,V⟩ (Bo W Z)
  |_=>unfold dU at h2;cases h2
theorem JD{ok:Ok}{S:D->Int->Prop}{R:Value->Int->Prop}(f:∀y d v n,RA K ok pl H y d->RelV y v->S d n->R v n):∀{ys:List V}{l:List D}{vs:List Value}{ns:List Int},RAs K ok pl H ys l->Vals ys vs->Paired S l ns->Paired R vs ns
 |_,_,_,_,.nil,.nil,.nil=>.nil
 |_,_,_,_,.cons a b,.cons c d,.cons e g=>.cons (f _ _ _ _ a c e) (JD f b d g)
structure LamAt(X:Cx)(P:Addr)(q:Str)(lp:Pos):Prop where
 cd:∃c,X.env.code = .ref c/\codeHdIn X.K c P=true
 qn:X.env.qual++"<lambda>"=q
 tb:(P,q,lp)∈tabs
section
variable{X:Cx}{fl:List Fl}{e:Expr}{fa:FE}{p pos kpos lp p1 p2 p3 p4 p5:Pos}{x y q:Str}{P:Addr}{kd i k:Nat}{params:Arguments}{scope:Scope}
theorem Xh{D B:DS}{n:Int}{u:Option U}(J:D=[none,u])(h1:gNl 0 d D=some B)(h2:dK0 B=some (.int n)):∃z ds r,d = .int z/\u=some (.d (.list ds))/\pAt ds z=some (.tuple (.int n::r)):=by
 subst J
 cases h1
 unfold dK0 at h2
 split at h2
 ·next z ds e=>
  cases e
  obtain⟨t,Y,Z⟩:=bind1 h2
  split at Z
  ·next m r=>cases Z;exact⟨z,ds,r,rfl,rfl,Y⟩
  ·cases Z
 ·cases h2
end
theorem Tt{K:Frag}{P:Addr}{q:Str}{lp:Pos}(J:K.In h)(B:h.get? P=some (tabObj #[]))(D:codeHdIn K c P=true)(hn:K.lookup P=none):
 (∀t∈[(P,q,lp)],h.get? t.1=some {cls:=.none,data:=.fields #[]})/\(∀t∈[(P,q,lp)],isCodeTable h t.1)/\∀t∈[(P,q,lp)],K.lookup t.1=none:=
 ⟨λt Z=>by rw[aO.mp Z];exact B,λt Z=>by rw[aO.mp Z];exact((codeHd_of_K J D).tab B).isCodeTable,λt Z=>by rw[aO.mp Z];exact hn⟩
theorem Pq{P:Addr}{q:Str}{lp:Pos}:∀t∈[(P,q,lp)],∀t'∈[(P,q,lp)],t.1=t'.1->t=t':=λt Y t' Z _=>(aO.mp Y).trans (aO.mp Z).symm
theorem Pr{scope:Scope}{y:Str}(hn:scope.names=[(y,.local),(x,.free)])(h:env.cells.lookup x=some c):closureFor scope env=pure [(x,c)]:=by
 unfold closureFor
 rw[hn]
 simp[cellOf,h]
section
variable{P:Program}{w:World}{K:PySem.W.Frag}{mg:Str->Option Value}{base:Heap}{x:Str}{ps N:List Str}{st:Stmt}{k n:Nat}{fs:FS}{fl:List Fl}{Pt:Addr}{q:Str}{lp:Pos}
structure DgT(K:PySem.W.Frag)(mg:Str->Option Value)(x:Str)(st:Stmt)(ps:List Str)(Pt:Addr)(q:Str)(lp:Pos):Prop where
 ex:∃(f:Addr)(fd:FuncData)(c:Addr),FunD K x st f fd/\Binds K fd ps []/\mg x=some (.ref f)/\fd.code = .ref c/\codeHdIn K c Pt=true
 tb:(Pt,q,lp)∈tabs
theorem Xi{kV:Value}{sl:Array (Option Value)}(X:K.In h)(G:h.Ns mainGlobals mg)
 (B:∀(kV doc pm:Value)(an:Option Addr)(cdv ct:Value)(us:List Value),us.length=ps.length->bindArgs (PySem.W.fnOf x x (oV st) (jk st) (bM st) .none kV doc pm an cdv ct) ⟨us,[]⟩=pure (ps.zip us))
 (a:PySem.W.nsIn K mainGlobals x=some (some (.ref f))) (l:K.lookup f=some ⟨oc,od,.func (PySem.W.fnOf x x (oV st) (jk st) (bM st) .none kV dc pm an (.ref c) ct),sl⟩) (D:PySem.W.codeIn K (.ref c) x=true) (k:PySem.W.keepIn K (.ref f)=true)
 (hd:codeHdIn K c Pt=true) (tb:(Pt,q,lp)∈tabs):DgT K mg x st ps Pt q lp:=
 ⟨⟨_,_,c,⟨⟨oc,od,.none,kV,dc,pm,an,.ref c,ct,sl,rfl,l,D⟩,k⟩,.all (B kV dc pm an (.ref c) ct),PySem.W.mg_of X G a,rfl,hd⟩,tb⟩
theorem okT(F:FunD K x st f fd)(D:fd.code = .ref c)(S:FnScope N ps (bM st))(len:∀vs H Q E,sp vs H Q E->vs.length=ps.length)
 (B:∀(A:Around)(outer:List Env)(s:Shared)(H:Hp)(vs:List V)(Q:VK)(E:XK),Room k (A.deeper (envOfC x (bM st) s.heap.objs.size f (.ref c)))->sp vs H Q E ->
  ∃t,PSs (En CX0 P w K mg base N x (bM st) f (.ref c) A outer s H E).nox (jk st) t/\t {nx:=λ_ H'=>Q .non H',rt:=Q} (L2.start N vs) H):FnOk P w K mg base CX0 (k+1) f fd ps sp:=by
 obtain⟨oc,od,dV,kV,doc,pm,an,cdv,ct,osl,rfl,lk,Z⟩:=F.ex
 have e:cdv = .ref c:=D
 subst e
 refine U5 lk Z S len λA outer s H vs Q E X Y=>?_
 obtain⟨t,h,q⟩:=B A outer s H vs Q E X Y
 exact⟨t,h.nox,q⟩
theorem Xj(O:DgT K mg x st ps Pt q lp)(S:FnScope N ps (bM st))(D:∀i,i<ps.length->fl[i]? = some .A)(J:ps.length<=N.length)
 (B:∀(f c:Addr)(A:Around)(outer:List Env)(s:Shared)(H:Hp)(E:XK),codeHdIn K c Pt=true->Room k (A.deeper (envOfC x (bM st) s.heap.objs.size f (.ref c)))->DSs (cx P w K mg base N x st f (.ref c) A outer s H E) fl (jk st) fs) :
 Has P w K mg base (k+1) x ps (spD K (fnD ps.length (N.length-ps.length) fs)):=by
 obtain⟨f,fd,c,W,b,m,X,Y⟩:=O.ex
 refine⟨f,fd,?_,b,W.kp,m⟩
 refine okT W X S (λvs H Q E h=>?_) (λA outer s H vs Q E T h=>?_)
 ·obtain⟨ds,d,r,Z,_⟩:=h
  unfold fnD at Z
  by_cases z:ds.length=ps.length
  ·rw[r.2.length];exact z
  ·rw[if_neg z]at Z;cases Z
 ·obtain⟨ds,d,r,Z,q⟩:=h
  refine⟨_,B f c A outer s H E Y T,?_⟩
  unfold fnD at Z
  by_cases z:ds.length=ps.length
  ·rw[if_pos z]at Z
   split at Z
   ·next R e=>
    cases Z
    exact⟨_,_,_,_,mJ ps.length D z J r,e,λv H' s r=>q v H' s r⟩
   ·next V e=>
    cases Z
    exact⟨_,_,_,_,mJ ps.length D z J r,e,λU σ' H' R'=>q .non H' R'.same0 .non⟩
   ·cases Z
  ·rw[if_neg z]at Z;cases Z
end
end XL
namespace XL
open PySem PySem.Spec PySem.W PyProof.Rows L2 My D3 XS
section
variable{prog:Program}{w:World}{A:Around}{E:Value->Shared->Prop}{s:Shared}{r fa L:Addr}{t u v:Tok}{n:Nat}{hi:Int}{h₀:Heap}{m:Str->Option Value}{ns:List Int}{news:List (Addr×Obj)}{Q:Value->Shared->Prop}
noncomputable def Bp(vs:List Value):Prop:=∀(j:Nat)(x:Value),vs[j]? = some x->∃t,x = .int (j:Int) t
theorem Pu{R:List Value->Shared->Prop}(D:A.handled=none)(B:IsRange s.heap r 0 hi 1 t u v)(sm:Builtin.Range.small 0 hi 1=true)(hn:Builtin.Range.rangeSize 0 hi 1=n)(J:n<64)
 (h:∀h' tk vs,(∀b o,s.heap.get? b=some o->h'.get? b=some o)->vs.length=n->Bp vs->R vs {s with heap:=h',toks:=tk}):wpAny (model prog w) A (collect (.ref r)) R E s:=by
 unfold collect
 refine wpAny_bind (wpAny_runValue (codeAny_builtin F.entry_proto_collect ?_))
 rw[Around.under_plainId F.plain_proto_collect _]
 refine wpAny_bind (m:=newList []) (wpAny_newObj_type (wpAny_pure ⟨plainId_quiet F.plain_list_iadd _,codeAny_builtin F.entry_list_iadd ?_⟩))
 rw[Around.under_plainId F.plain_list_iadd _]
 refine wpAny_mono (wpAny_extend_range (A:=A) (s:={s with heap:=s.heap.push (seqObj "list" #[] 0)}) (R:=λq s'=>q = .ok (.ret (.ref s.heap.objs.size))/\∃h' tk acc c,s'={s with heap:=h',toks:=tk}/\(∀b o,s.heap.get? b=some o->h'.get? b=some o)/\h'.get? s.heap.objs.size=some (seqObj "list" acc c)/\acc.toList.length=n/\Bp acc.toList)
  D (Heap.get?_push_of_some _ B) sm hn (by omega) s.heap.objs.size (.ref s.heap.objs.size) 0 (Heap.get?_push_size _ rfl) λh' tk acc c k1 k2 Z=>⟨rfl,h',tk,acc,c,rfl,λb o e=>k1 b o (bh (Heap.lt_size e)) (Heap.get?_push_of_some _ e),k2,by rw[bD];exact Z.1,λj x X=>by
   obtain⟨t,rfl⟩:=Z.2 j x (by rw[<-cC];exact X)
   exact⟨t,by rw[jM,Int.mul_one]⟩⟩) (λfin s' x=>?_) λe s' x=>by cases x.1
 cases fin with
 |done f=>
  obtain⟨e,h',tk,acc,c,rfl,k1,k2,Z,Y⟩:=x
  cases e
  exact wpAny_bind (m:=load s.heap.objs.size) (wpAny_load k2 (wpAny_pure (h h' tk _ k1 Z Y)))
 |again W=>
  refine⟨x.1,codeAny_mono x.2 λq s2 y=>?_⟩
  obtain⟨rfl,h',tk,acc,c,rfl,k1,k2,Z,Y⟩:=y
  exact wpAny_bind (m:=load s.heap.objs.size) (wpAny_load k2 (wpAny_pure (h h' tk _ k1 Z Y)))
theorem Tv(hh:A.handled=none)(F:Fr h₀ L s.heap m)(N:News h₀ L s.heap news)(hr:IsRange s.heap r 0 hi 1 t u v)(sm:Builtin.Range.small 0 hi 1=true)(hn:Builtin.Range.rangeSize 0 hi 1=n)(h64:n<64)
 (hc:∀vs,vs.length=n->Bp vs->Paired (λv k=>JC prog w A.in1.in1 news (.ref fa) v k) vs ns) (B:∀s:Shared,(∀p∈news,s.heap.get? p.1=some p.2)->s.heap.NoLimit)
 (h:∀D h' e tk vs,vs.length=n->Bp vs->Fr h₀ L h' m->News h₀ L h' ((D,seqObj "list" (jg (if n<=1 then vs else(nJ n (ltK ns)).map λi=>vs.getD i Value.none)) e)::news)->(∀q∈news,q.1<D)->Q (.ref D) {s with heap:=h',toks:=tk}) :
 wpAny (model prog w) A (call (.builtin "sorted") [.ref r] [(Str.ofString "key", .ref fa)]) Q E s:=by
 refine call_function_entry_kw kind_sorted plain_sorted entry_sorted (HX _ _) ?_
 unfold Builtin.«sorted»
 refine wpAny_bind (m:=checkCount "sorted" 1 1 _) (wpAny_pure ?_)
 refine wpAny_bind (Pu (A:=A.in1) hh hr sm hn h64 λh1 tk vs k1 lv I=>?_)
 refine wpAny_bind (wpAny_newList ?_ (by rw[lv,sizeLine_eq];omega))
 have V:(h1.push (seqObj "list" vs.toArray 0)).get? h1.objs.size=some (seqObj "list" vs.toArray 0):=Heap.get?_push_size _ rfl
 have kp:∀b o,s.heap.get? b=some o->(h1.push (seqObj "list" vs.toArray 0)).get? b=some o:=λb o e=>Heap.get?_push_of_some _ (k1 b o e)
 have Y:∀q∈news,q.1<h1.objs.size:=λq hq=>Heap.lt_size (k1 _ _ (N q hq).1)
 have l:L<h1.objs.size:=(F.kept k1).ns.lt
 have hA:=F.above
 have F1:=F.kept kp
 have N1:=N.grown kp
 have X:=hc vs lv I
 have d0:h₀.get? h1.objs.size=none:=Heap.get?_none_of_le (bF F.above (eF l))
 show wpAny _ _ _ _ _ {s with heap:=h1.push (seqObj "list" vs.toArray 0),toks:=tk}
 refine wpAny_bind (wpAny_holding (wpAny_call_entry_kw slot_list_sort ⟨_,V,rfl⟩ entry_list_sort ?body (Gg _ _)))
 case body=>
  rw[ksk_t1]
  by_cases h2:n<=1
  ·refine ksk_sort (kz:=ns) (b:=false) (s:={s with heap:=h1.push (seqObj "list" vs.toArray 0),toks:=tk}) F1 N1 V (lC l) d0 (λp Z=>bh (Y p Z)) X.length.symm (by omega) (λi v k hv hk Z tk own T W=>?_) λh' tk out c T W ko=>⟨_,rfl,wpAny_pure ⟨_,rfl,?_⟩⟩
   ·obtain⟨t,z⟩:=Bk X hv hk
    have P:∀p∈news,Z.get? p.1=some p.2:=λp q=>(W p (bY _ q)).1
    refine wpAny_call (z {s with heap:=Z,toks:=tk} _ P (B {s with heap:=Z,toks:=tk} P) λh2 K U=>?_)
    exact⟨h2,K,t,rfl,rfl,⟨T.ns.keeps U,λb o z=>U b o (T.keep b o z),T.above⟩,λp q=>⟨U _ _ (W p q).1,(W p q).2⟩⟩
   ·obtain⟨ps,Z,M,_⟩:=ko
    have e:out.toList=vs:=by
     cases X with
     |nil=>
      have Z:ps.Perm []:=Z
      rw[tW.mp Z]at M
      exact M
     |cons p q=>
      cases q with
      |nil=>
       have Z:ps.Perm [(_,_)]:=Z
       rw[List.perm_singleton.mp Z]at M
       exact M
      |cons _ _=>simp at lv;omega
    have e2:out=vs.toArray:=pF.mp (e.trans (by simp))
    rw[e2]at W
    exact h _ h' c tk vs lv I T (by rw[if_pos h2];exact W) Y
  ·refine kat_keyed (b:=false) (s:={s with heap:=h1.push (seqObj "list" vs.toArray 0),toks:=tk}) F1 N1 V (lC l) d0 (λp Z=>bh (Y p Z)) (by omega) (by omega) λkS e1 h' T W S H=>?_
   have O:∀y∈(h1.objs.size,seqObj "list" #[] e1)::news,y.1≠kS:=λy G=>by
    rcases aU.mp G with rfl|z
    ·exact bh S
    ·exact bh (H y z)
   have x:Paired (λv k=>JC prog w A.in1.in1 ((h1.objs.size,seqObj "list" #[] e1)::news) (.ref fa) v k) vs ns:=Paired.mapP X λv k ⟨t,z⟩=>⟨t,λs R q1 q2 q3=>z s R (λp Z=>q1 p (aJ _ Z)) q2 q3⟩
   refine Gf (kS:=kS) O (λs q=>B s λp Z=>q p (aJ _ Z)) vs ns [] 0 _ x T W λks e s' F2 g a d f pk=>?_
   have lk:ks.length=vs.length:=pk.length.trans X.length.symm
   rw[dM]at g ⊢
   rw[ksk_kind (ints_of pk) (by rw[aY,lk];omega)]
   refine wpAny_pure ?_
   refine Cw (n:=vs.length) (lt:=ltK ns) (R:=good vs.length) (λi j C hi hj hC=>?_) _ (vZ (by omega)) ?_
   ·obtain⟨t1,q1⟩:=Dm pk i (by rw[lk];exact hi)
    obtain⟨t2,q2⟩:=Dm pk j (by rw[lk];exact hj)
    unfold kas_ask
    show wpAny _ _ (keyLt' oneType' (ks.getD i Value.none) (ks.getD j Value.none)) _ _ _
    rw[q1,q2]
    exact kat_lt_int hC
   ·obtain⟨Z,gn,dr,J,os⟩:=s'
    simp only at a d f F2 g
    subst a d f
    refine KatFin.intro F2 g (.head O) λh3 c3 F3 N3=>?_
    refine KasFin.intro F3 N3 (.tail (lC S) (.head λy G=>bh (Y y G))) λh4 c4 F4 N4=>⟨_,rfl,wpAny_pure ⟨_,rfl,?_⟩⟩
    exact h _ h4 c4 J vs lv I F4 (λp Z=>by
     rw[if_neg h2,<-lv]at Z
     exact N4 p (aJ _ Z)) Y
end
section
variable{X:Cx}{fl:List Fl}{e:Expr}{fb:FA}{p pos kpos lp p1 p2 p3 p4 p5 pr posr:Pos}{x y q:Str}{P:Addr}{kd i k:Nat}{params:Arguments}{scope:Scope}
theorem HY(hl:LamAt X P q lp)(hr:Room k X.A)(hcm:X.calm=true)(ha:DB X fl .P [e] fb)(hg:Gl X "sorted")(hm:X.mg "sorted"=none)(hg2:Gl X "range")(hm2:X.mg "range"=none)
 (hix:X.N[i]? = some x) (hfl:fl[i]? = some .A) (B:X.env.kindOf x=some .cell)
 (hdef:defaultsOf params X.env=([],[])) (hcl:∀c,X.env.cells.lookup x=some c->closureFor scope X.env=pure [(x,c)])
 (hbind:∀(cl:List (Str×Addr))(pm:Value)(c':Addr)(ctv u:Value),bindArgs (kla_fn "<lambda>" q params (K7 x y p1 p2 p3 p4 p5 kd) scope cl pm (.ref c') ctv) ⟨[u],[]⟩=pure [(y,u)])
 (hco:scope.isCoroutine=false) (hgen:scope.isGenerator=false) (hk:scope.kind = .function) (hcells:∀z∈scope.names,z.2 ≠ .cell) (hy:scope.names.lookup y=some .local) (hxf:scope.names.lookup x=some .free)
 (hxd:(x==("__debug__":Str))=false) (hyd:(y==("__debug__":Str))=false) (hxc:(x==("__classdict__":Str))=false)
 (he:backTo pos (starEach [Expr.Call (.Name "range" pr) [e] [] posr] X.env)=(false,eval (Expr.Call (.Name "range" pr) [e] [] posr) X.env)::backTo pos (starEach [] X.env)) (hpl:(backTo pos (starEach [Expr.Call (.Name "range" pr) [e] [] posr] X.env)).any (·.1)=false)
 (hs:starEach [e] X.env=(false,eval e X.env)::starEach [] X.env:=by exact nY rfl)
 : DE X fl .FC (.Call (.Name "sorted" p) [.Call (.Name "range" pr) [e] [] posr] [⟨some (Str.ofString "key"),.Lambda params (K7 x y p1 p2 p3 p4 p5 kd) scope lp,kpos⟩] pos) (Dp (dCall yI fb) dK0 [i]):=by
 have bs:bootBuiltins "sorted"=some (.builtin "sorted"):=by decide +kernel
 intro pins s σ H Q I hq
 obtain⟨G,ow,δ,d,R,hf,q0⟩:=hq
 obtain⟨xd,e1,O⟩:=bind1 hf
 obtain⟨ds0,e0,W⟩:=bind1 e1
 unfold yI at W
 split at W
 case h_2=>cases W
 next hi=>
 by_cases z:(-(2^62)<=hi/\hi<2^62)/\(hi-0).toNat<=1000000
 case neg=>rw[if_neg z]at W;cases W
 rw[if_pos z]at W
 cases W
 obtain⟨⟨z3,z4⟩,z5⟩:=z
 have el:gC 0 hi=(kZ 0 (hi-0).toNat).map λ(j:Nat)=>PyData.int (0+(j:Int)):=by
  unfold gC
  rw[List.range_eq_range']
 have ll:(gC 0 hi).length=(hi-0).toNat:=by rw[el,au,um]
 have ra0:∀Hx:Hp,RAs X.K ok1 true Hx ((kZ 0 (hi-0).toNat).map λ(j:Nat)=>V.int (0+(j:Int))) (gC 0 hi):=λHx=>by rw[el];exact Nv 0 _ 0
 generalize gC 0 hi=l at *
 dsimp only at O
 by_cases hc:l.length<64/\flats l=true
 case neg=>rw[if_neg hc]at O;cases O
 rw[if_pos hc]at O
 obtain⟨ks,e2,E⟩:=bind1 O
 cases e3:dU ks with
 |none=>rw[e3]at E;cases E
 |some ns=>
 rw[e3]at E
 cases E
 refine wpAny_Call_Name_kw (nD I hg hm bs ?_)
 refine PyProof.Rows.callWith_kw ?_ he hpl rfl rfl
 rw[he]
 refine Calls.spliced_cons ?_
 refine Call_ (nD I hg2 hm2 boot_range (PyProof.Rows.callWith_type1 (thn (ha posr pins s σ H (λvs H1=>Same H H1/\RAs X.K ok1 true H1 vs [.int hi]) I ⟨G,ow,δ,_,R,e0,λvs H' s' r'=>⟨s',r'⟩⟩) λus s0 ⟨vs,H1,I0,r1,sm1,ra⟩=>?_) hs rfl))
 cases ra with
 |cons ra1 ra2=>
 cases ra2
 obtain rfl:=ra1.intE
 cases r1 with
 |cons c1 c2=>
 cases c2
 obtain⟨t0,rfl⟩:=c1
 refine call_range_1 ?_
 refine Calls.spliced_nil ?_
 have hsz:Builtin.Range.rangeSize 0 hi 1=(((hi-0).toNat:Nat):Int):=by rw[rangeSize_one];split<;>omega
 have smr:Builtin.Range.small 0 hi 1=true:=small_one (by decide) (by decide) z3 z4
 obtain⟨ta,tb,tc,F⟩:∃ta tb tc,IsRange (s0.heap.push {cls:=.type "range", data:=.fields #[.int 0 s0.toks,.int hi t0,.int 1 (s0.toks+1)]}) s0.heap.objs.size 0 hi 1 ta tb tc:=⟨_,_,_,IsRange.new ..⟩
 generalize hra:s0.heap.objs.size=ra at *
 have T:L2.Inv X pins σ H1 {s0 with heap:=s0.heap.push {cls:=.type "range", data:=.fields #[.int 0 s0.toks,.int hi t0,.int 1 (s0.toks+1)]},toks:=s0.toks+2}:=I0.kept λb o e=>Heap.get?_push_of_some _ e
 show wpAny _ _ _ _ _ {s0 with heap:=s0.heap.push {cls:=.type "range", data:=.fields #[.int 0 s0.toks,.int hi t0,.int 1 (s0.toks+1)]},toks:=s0.toks+2}
 generalize es1:({s0 with heap:=s0.heap.push {cls:=.type "range", data:=.fields #[.int 0 s0.toks,.int hi t0,.int 1 (s0.toks+1)]},toks:=s0.toks+2}:Shared)=s1 at *
 have F:IsRange s1.heap ra 0 hi 1 ta tb tc:=by rw[<-es1];exact F
 have R1:=R.grow sm1
 have hT:H1 P=some (.tbl q lp):=R1.tb _ hl.tb
 obtain⟨c,hcx⟩:=T.ok.has x (.inl B)
 obtain⟨cc,hcode,hhd⟩:=hl.cd
 have KX:=T.kIn
 have hgl:s1.heap.Ns mainGlobals X.mg:=T.mod.glob.keeps T.bk
 have hgP:mainGlobals≠P:=λz=>by
  obtain⟨o,_,_,Y,_⟩:=T.mod.glob
  have:=(T.bs _ _ Y).2
  rw[z,hT]at this;cases this
 have hbm:s1.heap.BuiltinsAt X.mg P:=by
  obtain⟨bm,ob,Y,M,g3,g4,g5,g6⟩:=T.mod.bm
  refine⟨bm,ob,Y,M,λz=>?_,λz=>?_,T.bk _ _ g3,g4,g5,g6⟩
  ·obtain⟨o,_,_,k1,k2,_⟩:=T.mod.glob
   rw[z,k1]at g3;cases g3
   rw[k2]at g6;cases g6
  ·have:=(T.bs _ _ g3).2
   rw[z,hT]at this;cases this
 have hTT:∃ps,s1.heap.get? P=some (tabObj ps)/\(ps = #[]\/∃c',ps=ent lp c'/\s1.heap.CodeRec (.ref c') q):=by
  obtain⟨ps,Y,M⟩:=T.hok P _ hT
  refine⟨ps,Y,?_⟩
  rcases M with g|⟨c',g,_,g3⟩
  ·exact .inl g
  ·exact .inr ⟨c',g,g3⟩
 show wpAny _ _ (evalAll [do let v <-eval (.Lambda params (K7 x y p1 p2 p3 p4 p5 kd) scope lp) X.env;standAt pos;pure v]) _ _ s1
 refine wpAny_evalAll_cons (wpAny_bind ?_)
 refine Pn (mg:=X.mg) hl.qn hdef (hcl c hcx) T.ok.glob hgl hcode (codeHd_of_K KX hhd) hgP hbm hTT λf c' ctv h' tk kp hP' hor hfs hfo a=>wpAny_bind (wpAny_standAt (wpAny_pure ?_))
 refine wpAny_evalAll_nil ?_
 show wpAny _ _ (PySem.call (.builtin "sorted") [.ref ra] [(Str.ofString "key", .ref f)]) _ _ _
 obtain⟨H2,C,sm2⟩:=Tr (tk:=tk) T hT kp hP' (hor.imp (λz=>z) λz=>⟨z.1,z.2.1⟩) a
 have R2:=R1.grow sm2
 have hrg2:IsRange h' ra 0 hi 1 ta tb tc:=by
  refine kp ra _ (λy=>?_) F
  obtain⟨ps,Y,_⟩:=hTT
  have Z:=F
  rw[y]at Z
  have Z:s1.heap.get? P=_:=Z
  rw[Y]at Z
  cases Z
 have rva:∀vs:List Value,vs.length=(hi-0).toNat->Bp vs->Vals ((kZ 0 (hi-0).toNat).map λ(j:Nat)=>V.int (0+(j:Int))) vs:=λvs lv rv=>by
  have:=Jg (f:=λj:Nat=>V.int (0+(j:Int))) vs 0 λj v hj=>by
   obtain⟨tt,e⟩:=rv j v hj
   rw[fP]
   exact⟨tt,by rw[e,jM]⟩
  rw[lv]at this
  exact this
 obtain⟨m,hmm,hlk⟩:=id C.loc
 have notL:∀{b:Addr}{o:Obj},h'.get? b=some o->(∀es ep,o.data ≠ .dict es ep)->b≠X.env.locals:=λ{b o} Y M z=>by
  obtain⟨o2,es,ep,k1,k2,_⟩:=hmm
  rw[<-z]at k1
  rw[show h'.get? b=some o2 from k1]at Y;cases Y
  exact M _ _ k2
 have mem:∀{b:Addr}{o:Obj},h'.get? b=some o->b≠X.env.locals->(b,o)∈nU (Att.lM h') h' X.env.locals:=λY M=>rK M (Att.qj _ _) Y
 have hlim:∀s':Shared,(∀p∈nU (Att.lM h') h' X.env.locals,s'.heap.get? p.1=some p.2)->s'.heap.NoLimit:=λs' hk'=>C.ok.mod.nolimit.keeps λb o g=>hk' (b,o) (mem (C.bk b o g) (bh (bR (Heap.lt_size (C.ok.bs b o g).1) C.ok.above)))
 have calls:∀vs:List Value,vs.length=(hi-0).toNat->Bp vs->Paired (λv n=>JC X.prog X.w X.A.in1.in1 (nU (Att.lM h') h' X.env.locals) (.ref f) v n) vs ns:=λvs lv rv=>by
  refine JD (S:=λd n=>∃δ1,gNl 0 d (nF 1 [i] δ)=some δ1/\dK0 δ1=some (.int n)) (λy0 d v n r1 r2 ⟨δ1,Y,M⟩=>?_) (ra0 H2) (rva vs lv rv) (Bo e2 e3)
  obtain⟨z,ds,r,rfl,g4,g5⟩:=Xh (u:=(δ[i]?).getD none) rfl Y M
  obtain rfl:=r1.intE
  obtain⟨t0,rfl⟩:=r2
  have g6:δ[i]? = some (some (.d (.list ds))):=by
   cases g7:δ[i]? with
   |none=>rw[g7]at g4;cases g4
   |some u=>rw[g7]at g4;exact congrArg some g4
  have own0:ow i=none:=by
   cases g7:ow i with
   |none=>rfl
   |some b=>
    obtain⟨_,g8,_⟩:=R2.own i b g7
    rw[hfl]at g8
    rcases g8 with⟨g8,_⟩|⟨g8,_⟩<;>cases g8
  obtain⟨v0,k1,k2⟩:=R2.dat i _ g6 (by rw[hfl];rfl) own0
  obtain⟨b,xs,rfl,k3,k4⟩:=k2.lstE
  obtain⟨v1,k5,k6⟩:=k4.at g5
  obtain⟨b2,ws,rfl,k7,k8⟩:=k6.tupE
  cases k8 with
  |cons k9 k10=>
  obtain rfl:=k9.intE
  obtain⟨it2,rv2,pl2,hz2⟩:=C.list k3
  obtain⟨it3,rv3,pl3,_⟩:=C.tuple k7
  obtain⟨j,j1,j2,j3,j4,j5⟩:=xG k5
  obtain⟨h,j6,j7⟩:=rv2.get j2
  cases j7
  cases rv3 with
  |cons r3 rv3=>
  obtain⟨t3,rfl⟩:=r3
  have l2:=rv2.length
  obtain⟨u,u1,u2⟩:=hlk i x _ hix k1 (.inr (.inl B))
  cases u1
  rcases u2 with⟨u3,_⟩|⟨_,cl,u4,u5⟩
  ·have:some NameKind.cell=some NameKind.local:=B.symm.trans u3
   cases this
  have:cl=c:=by rw[hcx]at u4;exact(cY.inj u4).symm
  subst this
  refine⟨t3,λs' R' hk' hlim' hR=>?_⟩
  have kk:∀{b:Addr}{o:Obj},h'.get? b=some o->(∀es ep,o.data ≠ .dict es ep)->s'.heap.get? b=some o:=λY M=>hk' _ (mem Y (notL Y M))
  have f1:s'.heap.get? f=some (kla_obj "<lambda>" q params (K7 x y p1 p2 p3 p4 p5 kd) scope [(x,cl)] ((X.mg "__name__").getD .none) c' ctv):=kk hfo (λ_ _ z=>by cases z)
  have f2:s'.heap.CodeRec (.ref c') q:=by
   obtain⟨c2,oc,vs2,tq,h,t,w3,w4⟩:=a
   exact⟨c2,oc,vs2,tq,h,kk t (λ_ _ z=>by rw[w3]at z;cases z),w3,w4⟩
  have f3:s'.heap.IsCell cl (some (.ref b)):=by
   obtain⟨o,h,t⟩:=u5
   exact⟨o,kk h (λ_ _ z=>by rw[t]at z;cases z),t⟩
  have f4:s'.heap.IsList b it2.toArray:=by
   obtain⟨o,h,t,w3,w4⟩:=pl2.isList
   exact⟨o,kk h (λ_ _ z=>by rw[w4]at z;cases z),t,w3,w4⟩
  have f5:∀{it5:Array Value},IsTup h' b2 it5->IsTup s'.heap b2 it5:=λ⟨o,h,t,w3,w4⟩=>⟨o,kk h (λ_ _ z=>by rw[w4]at z;cases z),t,w3,w4⟩
  exact Tp (i:=z) (j:=j) (its:=it2.toArray) f1 f2 (by have:=hr.dp;show X.A.depth<_;omega) hlim' (λu=>hbind _ _ _ _ u) hco hgen hk hcells hy hxf hxd hyd hxc f3 f4 (by rw[aY,<-l2];exact j4) (by rw[aY,<-l2];exact j5)
   (by rw[aY,<-l2];exact hz2) (by rw[aY,<-l2];exact j1) (by simpa using j6) (f5 pl3) (by simp) hR
 have fin:∀(D:Addr)(L:Heap)(ec U:Nat)(is:List V)(ds:List D3.D)(vo:List Value),Vals is vo->is.length<=sizeLine->(∀(Hx:Hp),RAs X.K ok0 false Hx is ds) ->
  uc l ns=ds->Fr (Att.lM h') X.env.locals L m->News (Att.lM h') X.env.locals L ((D,seqObj "list" (jg vo) ec)::nU (Att.lM h') h' X.env.locals)->(∀z∈nU (Att.lM h') h' X.env.locals,z.1<D) ->
  EP X pins σ Q (.ref D) {s1 with heap:=L,toks:=U}:=λD L ec U is ds vo v1 v2 v3 v4 F3 N3 lt=>by
  have kept3:∀b o,b≠X.env.locals->h'.get? b=some o->L.get? b=some o:=λb o hb g=>(N3 (b,o) (aJ _ (mem g hb))).1
  have hD:h'.get? D=none:=by
   cases g:h'.get? D with
   |none=>rfl
   |some o=>
    by_cases z:D=X.env.locals
    ·exact absurd z (N3 _ (aG ..)).2.1
    ·exact absurd (lt (D,o) (mem g z)) (eE _)
  have hn:H2 D=none:=by
   cases g:H2 D with
   |none=>rfl
   |some u=>
    obtain⟨w,hw⟩:=v5 (C.hok D u g)
    rw[show h'.get? D=some w from hw]at hD;cases hD
  have new:gR X.prog X.w (upd H2 D (.lst is)) L D (.lst is):=⟨v2,vo,ec,v1,(N3 _ (aG ..)).1⟩
  have J:=Jm (s:={s1 with heap:=h',toks:=tk}) (h':=L) C hmm F3.ns kept3 hD new
  refine⟨.ref D,_,J.tok U,rfl,q0 _ _ ((sm1.trans sm2).trans (cX hn _)) (.inr ⟨D,is,ds,rfl,(by show PyData.list (uc l ns)=_;rw[v4]),(sm1.trans sm2).free hn,cQ,?_⟩)⟩
  exact(v3 _).imp (λ_ z=>z.elim) (λz=>z)
 refine Tv (I.ok.hd hcm) (Att.Mw hmm) Ej hrg2 smr hsz (by omega) calls hlim λD L ec U vs lv rv F3 N3 lt=>?_
 by_cases h1:(hi-0).toNat<=1
 ·rw[if_pos h1]at N3
  exact fin D L ec U _ l vs (rva vs lv rv) (by rw[au,um];exact bF h1 (by decide)) (λHx=>RAs.flat hc.2 (ra0 Hx)) (by unfold uc;rw[if_pos (by omega)]) F3 N3 lt
 ·rw[if_neg h1]at N3
  have eo:uc l ns=(nJ (hi-0).toNat (ltK ns)).map λi=>l.getD i .none:=by unfold uc;rw[if_neg (by omega),ll];rfl
  have pm:=iY (n:=(hi-0).toNat) (by omega) (ltK ns)
  refine fin D L ec U ((nJ (hi-0).toNat (ltK ns)).map λi=>((kZ 0 (hi-0).toNat).map λ(j:Nat)=>V.int (0+(j:Int))).getD i .non) _ _ ?_ ?_ ?_ eo F3 N3 lt
  ·have rvs:=rva vs lv rv
   generalize nJ (hi-0).toNat (ltK ns)=is
   induction is with
   |nil=>exact .nil
   |cons i is ih=>exact .cons (Bm rvs i) ih
  ·rw[au,pm.length_eq,bN]
   exact bF (eF (ll▸hc.1)) (by decide)
  ·intro Hx
   have r:=ra0 Hx
   generalize nJ (hi-0).toNat (ltK ns)=is
   induction is with
   |nil=>exact .nil
   |cons i is ih=>exact .cons (RA.flat (yO hc.2 i) (CJ r i)) ih
end
end XL
namespace D3
open PySem PySem.Spec PyProof.Rows L2 My
section
variable{X:Cx}{fl:List Fl}{e a b:Expr}{es:List Expr}{f fa fb:FE}{fr:FA}{k:Kd}{pos:Pos}
theorem vA(i:Nat){x:Str}(B:fl[i]? = some .A:=by rfl)(O:X.N[i]? = some x:=by rfl)(J:Vis X.env.scope x:=by first|exact Or.inl rfl|exact Or.inr (Or.inl rfl)|exact Or.inr (Or.inr rfl))(hd:(x==("__debug__":Str))=false:=by decide)
 (D:(x==("__classdict__":Str))=false:=by decide):DE X fl .A (.Name x pos) (ao i):=B_ i B O J hd D
theorem vP(i:Nat){x:Str}(B:fl[i]? = some .A:=by rfl)(O:X.N[i]? = some x:=by rfl)(J:Vis X.env.scope x:=by first|exact Or.inl rfl|exact Or.inr (Or.inl rfl)|exact Or.inr (Or.inr rfl))(hd:(x==("__debug__":Str))=false:=by decide)
 (D:(x==("__classdict__":Str))=false:=by decide):DE X fl .P (.Name x pos) (ao i):=eN (B_ i B O J hd D)
theorem vB(i:Nat){x:Str}(D:fl[i]? = some .A:=by rfl)(W:X.N[i]? = some x:=by rfl)(O:Vis X.env.scope x:=by first|exact Or.inl rfl|exact Or.inr (Or.inl rfl)|exact Or.inr (Or.inr rfl))(hd:(x==("__debug__":Str))=false:=by decide)
 (J:(x==("__classdict__":Str))=false:=by decide):DE X fl (.B []) (.Name x pos) (ao i):=jB (B_ i D W O hd J)
theorem iP{i j pos}:DE X fl .P (.Constant (.int i) j pos) (dC (.int i)):=bA vN
theorem iC{i j pos}:DE X fl .C (.Constant (.int i) j pos) (dC (.int i)):=jx vN
theorem dz:DB X fl k [] bw:=Wo
theorem dq(h:DE X fl k e f)(B:DB X fl k es fr)(D:isR k=true:=by rfl)(hs:starEach (e::es) X.env=(false,eval e X.env)::starEach es X.env:=by exact nY rfl):DB X fl k (e::es) (aH f fr):=R5 D h B hs
theorem dx(ha:DE X fl (.B L) a fa)(D:DE X fl .P b fb)(hs:BP b:=by exact λ_ _=>rfl):DE X fl .A (.Subscript a b pos) (dOp gIx fa fb):=Za ha D hs
theorem sA(O:X.N.Nodup)(h:DE X fl .A e f)(D:fl[i]? = some .A:=by rfl)(hi:X.N[i]? = some x:=by rfl)(J:X.env.scope.names.lookup x=some .local\/X.env.scope.names.lookup x=some .cell:=by first|exact Or.inl rfl|exact Or.inr rfl)
 (hs:swapsWith e (some (.Name x pos')) pos.line X.env=pure false:=by rfl) (B:X.fn x=true\/X.env.scope.names.lookup x=some .local:=by first|exact .inl rfl|exact .inr rfl) :
 DS1 X fl (.Assign [.Name x pos'] e pos) (bQ i f):=RZ D O hi J h hs B
theorem gN'(O:X.N.Nodup)(D:fl[i]? = some .A:=by rfl)(hi:X.N[i]? = some x:=by rfl)(J:X.env.scope.names.lookup x=some .local\/X.env.scope.names.lookup x=some .cell:=by first|exact Or.inl rfl|exact Or.inr rfl)
 (B:X.fn x=true\/X.env.scope.names.lookup x=some .local:=by first|exact .inl rfl|exact .inr rfl):DG X fl [i] (.Name x pos) (gNl i):=R3 D O hi J B
end
theorem fsc{P:List Str}{sc:Scope}(a:sc.kind = .function:=by rfl)(b:sc.isCoroutine=false:=by rfl)(c:sc.isGenerator=false:=by rfl)(d:N.Nodup:=by decide +kernel)(e:N.take P.length=P:=by rfl)(f:∀x∈P,sc.names.lookup x=some .local\/sc.names.lookup x=some .cell:=by decide +kernel)(g:∀y∈sc.names,y.2 ≠ .free:=by decide +kernel):FnScope N P sc:=⟨a,b,c,d,e,f,g⟩
end D3
namespace D3
open PySem
noncomputable def qS(o:Option Oc)(b:FS):Option Oc:=match o with
 |some (.nx δ)=>b δ
 |some o=>some o
 |none=>none
noncomputable def qI(o:Option Bool)(a b:FS)(δ:DS):Option Oc:=match o with
 |some true=>a δ
 |some false=>b δ
 |none=>none
noncomputable def qO(g:D->D->Option D)(a b:Option D):Option D:=match a,b with
 |some x,some y=>g x y
 |_,_=>none
noncomputable def qU(g:D->Option D)(a:Option D):Option D:=match a with
 |some x=>g x
 |none=>none
noncomputable def qC(a:Option D)(r:Option (List D)):Option (List D):=match a,r with
 |some x,some l=>some (x::l)
 |_,_=>none
noncomputable def qF(F:List D->Option D)(l:Option (List D)):Option D:=match l with
 |some l=>F l
 |none=>none
noncomputable def qR(a:Option D):Option Oc:=match a with
 |some d=>some (.rt d)
 |none=>none
noncomputable def Xk(i:Nat)(a:Option D)(δ:DS):Option Oc:=match a with
 |some d=>if i<δ.length then some (.nx (δ.set i (some (.d d))))else none
 |none=>none
noncomputable def K9(a:Option D)(fb:FE)(δ:DS):Option D:=match a with
 |some (.bool true)=>fb δ
 |some (.bool false)=>some (.bool false)
 |_=>none
noncomputable def qOr(a:Option D)(fb:FE)(δ:DS):Option D:=match a with
 |some (.bool true)=>some (.bool true)
 |some (.bool false)=>fb δ
 |_=>none
noncomputable def qN(a:Option D):Option D:=match a with
 |some (.bool b)=>some (.bool (!b))
 |_=>none
noncomputable def qB(a:Option D):Option Bool:=match a with
 |some (.bool b)=>some b
 |_=>none
noncomputable def qTA(a:Option Bool)(b:FT)(δ:DS):Option Bool:=match a with
 |some true=>b δ
 |some false=>some false
 |none=>none
noncomputable def qTO(a:Option Bool)(b:FT)(δ:DS):Option Bool:=match a with
 |some true=>some true
 |some false=>b δ
 |none=>none
noncomputable def qTN(a:Option Bool):Option Bool:=match a with
 |some b=>some (!b)
 |none=>none
noncomputable def qE(a:Option Bool)(fa fb:FE)(δ:DS):Option D:=match a with
 |some true=>fa δ
 |some false=>fb δ
 |none=>none
noncomputable def qL(a:Option D):Option (List D):=match a with
 |some (.list l)=>some l
 |_=>none
noncomputable def Xl(a:Option (List D))(g:FG)(b:FS)(δ:DS):Option Oc:=match a with
 |some l=>iJ g b l δ
 |none=>none
noncomputable def qD(a:Option DS):Option Oc:=match a with
 |some δ=>some (.nx δ)
 |none=>none
noncomputable def qG(a:Option D)(g:FG)(δ:DS):Option DS:=match a with
 |some d=>g d δ
 |none=>none
noncomputable def qGs(a:Option DS)(r:List D->DS->Option DS)(l:List D):Option DS:=match a with
 |some δ=>r l δ
 |none=>none
noncomputable def qT(a:Option (List D)):Option D:=match a with
 |some l=>if l.length<=sizeLine then some (.tuple l)else none
 |none=>none
noncomputable def qK(a:Option (List D)):Option D:=match a with
 |some l=>if l.length<=sizeLine then some (.list l)else none
 |none=>none
noncomputable def qFl(p:D->Bool)(a:Option D):Option D:=match a with
 |some d=>if p d=true then some d else none
 |none=>none
noncomputable def qA(i:Nat)(x a:Option D)(δ:DS):Option Oc:=match x,a with
 |some (.list l),some d=>if l.length<1000000 then some (.nx (δ.set i (some (.d (.list (l++[d]))))))else none
 |_,_=>none
noncomputable def qP(i:Nat)(a x k:Option D)(δ:DS):Option Oc:=match a,x,k with
 |some d,some (.list l),some (.int j)=>(pIx l.length j).bind λn=>some (.nx (δ.set i (some (.d (.list (l.set n d))))))
 |_,_,_=>none
noncomputable def qCh(g':D->D->Option D)(z:Option D)(y:Option D)(fc:FE)(δ:DS):Option D:=match z with
 |some (.bool true)=>qO g' y (fc δ)
 |some (.bool false)=>some (.bool false)
 |_=>none
noncomputable def qFn(o:Option Oc):Option D:=match o with
 |some (.rt d)=>some d
 |some (.nx _)=>some .none
 |_=>none
noncomputable def qCo(a:Option (List D))(g:FG)(c:FT)(e:FE)(t:Nat)(ix:List Nat)(δ:DS):Option D:=match a with
 |some l=>if l.length<=100000 then(match lA g c e (nF t ix δ) l with|some r=>some (.list r)|none=>none)else none
 |none=>none
section
variable{a b:FS}{c c':FT}{fa fb fc:FE}{fr:FA}{δ:DS}{g:D->D->Option D}{h:D->Option D}{F:List D->Option D}{i:Nat}{G:FG}{d:D}
theorem Zt:bU a b δ=qS (a δ) b:=by
 unfold bU qS
 cases a δ with
 |none=>rfl
 |some o=>cases o<;>rfl
theorem Px{B:DS}:qS (some (.nx B)) b=b B:=rfl
theorem Py:qS (some (.rt d)) b=some (.rt d):=rfl
theorem Pz{B:DS}:qS (some (.bk B)) b=some (.bk B):=rfl
theorem PB{B:DS}:qS (some (.ct B)) b=some (.ct B):=rfl
theorem Zu:dX δ=some (.nx δ):=rfl
theorem af0:sBk δ=some (.bk δ):=rfl
theorem af2:sCt δ=some (.ct δ):=rfl
theorem af3:sIf c a b δ=qI (c δ) a b δ:=by
 unfold sIf qI
 cases c δ with
 |none=>rfl
 |some t=>cases t<;>rfl
theorem Xm:qI (some true) a b δ=a δ:=rfl
theorem Xn:qI (some false) a b δ=b δ:=rfl
theorem v_op:dOp g fa fb δ=qO g (fa δ) (fb δ):=by
 unfold dOp qO
 cases fa δ<;>cases fb δ<;>rfl
theorem Xo{x y:D}:qO g (some x) (some y)=g x y:=rfl
theorem af4:dUn h fa δ=qU h (fa δ):=by
 unfold dUn qU
 cases fa δ<;>rfl
theorem Xp{x:D}:qU h (some x)=h x:=rfl
theorem Xq:bw δ=some []:=rfl
theorem Tw:aH fa fr δ=qC (fa δ) (fr δ):=by
 unfold aH qC
 cases fa δ<;>cases fr δ<;>rfl
theorem K_{x:D}{l:List D}:qC (some x) (some l)=some (x::l):=rfl
theorem Xr:dCall F fr δ=qF F (fr δ):=by
 unfold dCall qF
 cases fr δ<;>rfl
theorem PJ{l:List D}:qF F (some l)=F l:=rfl
theorem Zv:dG fa δ=qR (fa δ):=by
 unfold dG qR
 cases fa δ<;>rfl
theorem Tz:qR (some d)=some (.rt d):=rfl
theorem Xu:Y5 δ=some (.rt .none):=rfl
theorem Zw:bQ i fa δ=Xk i (fa δ) δ:=by
 unfold bQ Y4 Xk
 cases fa δ with
 |none=>simp
 |some d=>rfl
theorem TF:Xk i (some d) δ=if i<δ.length then some (.nx (δ.set i (some (.d d))))else none:=rfl
theorem v_c:dC d δ=some d:=rfl
theorem v_and:zY fa fb δ=K9 (fa δ) fb δ:=by
 unfold zY K9
 cases fa δ with
 |none=>rfl
 |some x=>
  cases x<;>try rfl
  next b=>cases b<;>rfl
theorem TJ:K9 (some (.bool true)) fb δ=fb δ:=rfl
theorem TQ:K9 (some (.bool false)) fb δ=some (.bool false):=rfl
theorem v_or:dOr fa fb δ=qOr (fa δ) fb δ:=by
 unfold dOr qOr
 cases fa δ with
 |none=>rfl
 |some x=>
  cases x<;>try rfl
  next b=>cases b<;>rfl
theorem Xv:qOr (some (.bool true)) fb δ=some (.bool true):=rfl
theorem Xw:qOr (some (.bool false)) fb δ=fb δ:=rfl
theorem v_not:M4 fa δ=qN (fa δ):=by
 unfold M4 qN
 cases fa δ with
 |none=>rfl
 |some x=>cases x<;>rfl
theorem TX{b:Bool}:qN (some (.bool b))=some (.bool (!b)):=rfl
theorem af5:bL fa δ=qB (fa δ):=by
 unfold bL qB
 cases fa δ with
 |none=>rfl
 |some x=>cases x<;>rfl
theorem Xx{b:Bool}:qB (some (.bool b))=some b:=rfl
theorem Xy:D3.BK c c' δ=qTA (c δ) c' δ:=by
 unfold D3.BK qTA
 cases c δ with
 |none=>rfl
 |some t=>cases t<;>rfl
theorem PK:qTA (some true) c δ=c δ:=rfl
theorem PN:qTA (some false) c δ=some false:=rfl
theorem Zx:D3.tOr c c' δ=qTO (c δ) c' δ:=by
 unfold D3.tOr qTO
 cases c δ with
 |none=>rfl
 |some t=>cases t<;>rfl
theorem TY:qTO (some true) c δ=some true:=rfl
theorem T3:qTO (some false) c δ=c δ:=rfl
theorem Xz:D3.jc c δ=qTN (c δ):=by
 unfold D3.jc qTN
 cases c δ<;>rfl
theorem PX{b:Bool}:qTN (some b)=some (!b):=rfl
theorem v_ite:dIf c fa fb δ=qE (c δ) fa fb δ:=by
 unfold dIf qE
 cases c δ with
 |none=>rfl
 |some t=>cases t<;>rfl
theorem T4:qE (some true) fa fb δ=fa δ:=rfl
theorem T5:qE (some false) fa fb δ=fb δ:=rfl
theorem Zy:nG fa δ=qL (fa δ):=by
 unfold nG qL asList
 cases fa δ with
 |none=>rfl
 |some x=>cases x<;>rfl
theorem T6{l:List D}:qL (some (.list l))=some l:=rfl
theorem Zz:lY fr G b δ=Xl (fr δ) G b δ:=by
 unfold lY Xl
 cases fr δ<;>rfl
theorem T7{l:List D}:Xl (some l) G b δ=iJ G b l δ:=rfl
theorem La:iJ G b [] δ=some (.nx δ):=rfl
theorem ZC:Ew fa G δ=qD (qG (fa δ) G δ):=by
 unfold Ew qG qD
 cases fa δ with
 |none=>rfl
 |some d=>
  dsimp only[aM]
  cases G d δ<;>rfl
theorem T8:qG (some d) G δ=G d δ:=rfl
theorem T9{B:DS}:qD (some B)=some (.nx B):=rfl
theorem af6:gNl i d δ=if i<δ.length then some (δ.set i (some (.d d)))else none:=rfl
theorem af7{n:Nat}{gs:List D->DS->Option DS}{l:List D}:gTn n gs (.tuple l) δ=if l.length=n then gs l δ else none:=rfl
theorem ZD:jZ [] δ=some δ:=rfl
theorem ZF{gs:List D->DS->Option DS}{l:List D}:cV G gs (d::l) δ=qGs (G d δ) gs l:=by
 show(G d δ).bind (λZ=>gs l Z)=qGs (G d δ) gs l
 cases G d δ<;>rfl
theorem T_{gs:List D->DS->Option DS}{l:List D}{B:DS}:qGs (some B) gs l=gs l B:=rfl
theorem ZG:dTup fr δ=qT (fr δ):=by
 unfold dTup qT
 cases fr δ<;>rfl
theorem Ua{l:List D}:qT (some l)=if l.length<=sizeLine then some (.tuple l)else none:=rfl
theorem af8:jD fr δ=qK (fr δ):=by
 unfold jD qK
 cases fr δ<;>rfl
theorem XC{l:List D}:qK (some l)=if l.length<=sizeLine then some (.list l)else none:=rfl
theorem XF:fL fa δ=qFl flat (fa δ):=by
 unfold fL qFl
 cases fa δ<;>rfl
theorem ZJ:Hl fa δ=qFl fl1 (fa δ):=by
 unfold Hl qFl
 cases fa δ<;>rfl
theorem XH{p:D->Bool}:qFl p (some d)=if p d=true then some d else none:=rfl
theorem ZK:uU i fa δ=qA i (ao i δ) (fa δ) δ:=by
 unfold uU qA
 cases ao i δ with
 |none=>rfl
 |some x=>
  cases fa δ with
  |none=>cases x<;>rfl
  |some d=>cases x<;>rfl
theorem Ub{l:List D}:qA i (some (.list l)) (some d) δ=if l.length<1000000 then some (.nx (δ.set i (some (.d (.list (l++[d]))))))else none:=rfl
theorem ZL{fk:FE}:BX i fk fa δ=qP i (fa δ) (ao i δ) (fk δ) δ:=by
 unfold BX qP
 cases fa δ with
 |none=>rfl
 |some d=>
  cases ao i δ with
  |none=>rfl
  |some x=>
   cases fk δ with
   |none=>cases x<;>rfl
   |some k=>cases x<;>cases k<;>rfl
theorem Uc{l:List D}{j:Int}:qP i (some d) (some (.list l)) (some (.int j)) δ=(pIx l.length j).bind λn=>some (.nx (δ.set i (some (.d (.list (l.set n d)))))):=rfl
theorem Ud{g':D->D->Option D}:ju g g' fa fb fc δ=qCh g' (qO g (fa δ) (fb δ)) (fb δ) fc δ:=by
 unfold ju qCh qO
 cases fa δ with
 |none=>rfl
 |some x=>
  cases fb δ with
  |none=>rfl
  |some y=>
   dsimp only[aM]
   cases g x y with
   |none=>rfl
   |some z=>
    cases z<;>try rfl
    next b=>
    cases b with
    |false=>rfl
    |true=>dsimp only[aM];cases fc δ<;>rfl
theorem Lb{g':D->D->Option D}{y:Option D}:qCh g' (some (.bool true)) y fc δ=qO g' y (fc δ):=rfl
theorem Ld{g':D->D->Option D}{y:Option D}:qCh g' (some (.bool false)) y fc δ=some (.bool false):=rfl
theorem ZM{p q:Nat}{ds:List D}:fnD p q b ds=if ds.length=p then qFn (b (ds.map (λd=>some (.d d))++aN q none))else none:=by
 unfold fnD qFn
 rfl
theorem Ue:qFn (some (.rt d))=some d:=rfl
theorem Ug{B:DS}:qFn (some (.nx B))=some .none:=rfl
theorem XM{t:Nat}{ix:List Nat}:iB fr G c fa t ix δ=qCo (fr δ) G c fa t ix δ:=by
 unfold iB qCo
 cases fr δ with
 |none=>rfl
 |some l=>
  dsimp only[aM]
  by_cases z:l.length<=100000
  ·rw[if_pos z,if_pos z]
   cases lA G c fa (nF t ix δ) l<;>rfl
  ·rw[if_neg z,if_neg z]
theorem P0{t:Nat}{ix:List Nat}{l:List D}:qCo (some l) G c fa t ix δ=if l.length<=100000 then(match lA G c fa (nF t ix δ) l with|some r=>some (.list r)|none=>none)else none:=rfl
theorem ZP:D3.m6 δ=some true:=rfl
theorem XQ{r:DS}{x:D}:ao 0 (some (.d x)::r)=some x:=rfl
theorem XR{r:DS}{y:Option U}:ao (i+1) (y::r)=ao i r:=rfl
end
section
variable{i j:Int}{l m:List D}{d:D}
theorem ZQ:gG (.int i) (.int j)=some (.int (i+j)):=rfl
theorem ZR:rF (.int i) (.int j)=some (.int (i-j)):=rfl
theorem af9:gLt (.int i) (.int j)=some (.bool (decide (i<j))):=rfl
theorem ag0:gLe (.int i) (.int j)=some (.bool (decide (i<=j))):=rfl
theorem ag1:gGt (.int i) (.int j)=some (.bool (decide (j<i))):=rfl
theorem ag2:gGe (.int i) (.int j)=some (.bool (decide (j<=i))):=rfl
theorem ZS:gEq (.int i) (.int j)=some (.bool (decide (i=j))):=rfl
theorem ZV:gNe (.int i) (.int j)=some (.bool (!decide (i=j))):=rfl
theorem ZW:iz [.list l]=some (.int l.length):=rfl
theorem X3:iz [.tuple l]=some (.int l.length):=rfl
theorem tG:∀ns:List Int,dU (ns.map .int)=some ns
 |[]=>rfl
 |n::r=>by rw[aQ,dU,tG r];rfl
theorem ZX:ae2 [.int i]=some (.int (if i<0 then -i else i)):=rfl
theorem Z0:Ar [.int i,.int j]=some (.int (if j>i then j else i)):=rfl
theorem Z1:Y7 [.int i,.int j]=some (.int (if j<i then j else i)):=rfl
theorem Z2:RK (.int i)=some (.int (-i)):=rfl
theorem ag3:gIx (.list l) (.int i)=pAt l i:=rfl
theorem Z4:gIx (.tuple l) (.int i)=pAt l i:=rfl
theorem P_:pJ (.list l) (.list m)=if l.length+m.length<=1000000 then some (.list (l++m))else none:=rfl
theorem X4:wG (.list l)=some (.list l):=rfl
theorem Uh:wG (.tuple l)=some (.list l):=rfl
theorem Z5:pAt (d::l) 0=some d:=by
 unfold pAt pIx
 rw[if_pos (by decide),if_pos (by simp)]
 rfl
end
noncomputable def X5(i j:Nat)(a:Option (List D))(δ:DS):Option Oc:=match a with
 |some l=>match l with
  |[x,y]=>if i<δ.length/\j<δ.length then some (.nx ((δ.set i (some (.d x))).set j (some (.d y))))else none
  |_=>none
 |none=>none
noncomputable def ud(a:Option (List D)):Option (List D):=match a with
 |some l=>match l with
  |[.int j]=>if yC j=true then some (gC 0 j)else none
  |_=>none
 |none=>none
noncomputable def Vh(a:Option (List D)):Option (List D):=match a with
 |some l=>match l with
  |[.int i,.int j]=>if(yC i&&yC j)=true then some (gC i j)else none
  |_=>none
 |none=>none
noncomputable def qSl(x:Option D)(a b:Option (Option Int)):Option D:=match x,a,b with
 |some (.list l),some a,some b=>some (.list (cutD l a b))
 |_,_,_=>none
noncomputable def qOP(x:Option D):Option (Option Int):=match x with
 |some (.int i)=>some (some i)
 |_=>none
noncomputable def qEn(x:Option D):Option (List D):=match x with
 |some (.list l)=>some (pL l)
 |_=>none
section
variable{a b:FS}{fa:FE}{fr:FA}{δ:DS}{i j:Nat}{g:FG}
theorem Z6:Y8 i j fr δ=X5 i j (fr δ) δ:=by
 unfold Y8 X5
 cases fr δ with
 |none=>rfl
 |some l=>rfl
theorem Ui{x y:D}:X5 i j (some [x,y]) δ=if i<δ.length/\j<δ.length then some (.nx ((δ.set i (some (.d x))).set j (some (.d y))))else none:=rfl
theorem X6:mq fr δ=ud (fr δ):=by
 unfold mq ud
 cases fr δ with
 |none=>rfl
 |some l=>rfl
theorem Gi{k:Int}(h : -(2^62)<=k)(h2:k<2^62):ud (some [.int k])=some (gC 0 k):=by
 show(if yC k=true then some (gC 0 k)else none)=_
 rw[if_pos]
 unfold yC
 rw[dTr h,dTr h2]
 rfl
theorem X7:U6 fr δ=Vh (fr δ):=by
 unfold U6 Vh
 cases fr δ with
 |none=>rfl
 |some l=>rfl
theorem ag4{lo hi:FO}:dSl fa lo hi δ=qSl (fa δ) (lo δ) (hi δ):=by
 unfold dSl qSl
 cases fa δ with
 |none=>rfl
 |some x=>
  dsimp only[aM]
  cases lo δ with
  |none=>cases x<;>rfl
  |some p=>
   dsimp only[aM]
   cases hi δ with
   |none=>cases x<;>rfl
   |some r=>cases x<;>rfl
theorem X8{l:List D}{p r:Option Int}:qSl (some (.list l)) (some p) (some r)=some (.list (cutD l p r)):=rfl
theorem ag5:pK δ=some none:=rfl
theorem ag6:fM fa δ=qOP (fa δ):=by
 unfold fM qOP
 cases fa δ with
 |none=>rfl
 |some x=>cases x<;>rfl
theorem X_{k:Int}:qOP (some (.int k))=some (some k):=rfl
theorem Yb:I_ fa δ=qEn (fa δ):=by
 unfold I_ qEn
 cases fa δ with
 |none=>rfl
 |some x=>cases x<;>rfl
theorem Qa:qEn (some (.list l))=some (pL l):=rfl
theorem qQ(Inv:Nat->DS->Prop):∀(l:List D)(δ:DS),Inv 0 δ->(∀i d δ,l[i]? = some d->Inv i δ->∃J B,g d δ=some J/\(b J=some (.nx B)\/b J=some (.ct B))/\Inv (i+1) B)->∃B,iJ g b l δ=some (.nx B)/\Inv l.length B:=by
 have W:∀(l:List D)(k:Nat)(δ:DS),Inv k δ->(∀i d δ,l[i]? = some d->Inv (k+i) δ->∃J B,g d δ=some J/\(b J=some (.nx B)\/b J=some (.ct B))/\Inv (k+i+1) B)->∃B,iJ g b l δ=some (.nx B)/\Inv (k+l.length) B:=by
  intro l
  induction l with
  |nil=>exact λk δ h _=>⟨δ,rfl,h⟩
  |cons d r U=>
   intro k δ h hs
   obtain⟨J,B,R,Y,S⟩:=hs 0 d δ rfl h
   obtain⟨X,V,T⟩:=U (k+1) B S λi Q Z hd hi=>by
    have:=hs (i+1) Q Z (by simpa using hd) (by rw[show k+(i+1)=k+1+i by omega];exact hi)
    rw[show k+(i+1)+1=k+1+i+1 by omega]at this
    exact this
   refine⟨X,?_,by rw[bB,show k+(r.length+1)=k+1+r.length by omega];exact T⟩
   rw[iJ,R,aM]
   rcases Y with Y|Y
   ·rw[Y];exact V
   ·rw[Y];exact V
 intro l δ h hs
 have:=W l 0 δ h λi d δ hd hi=>by
  have:=hs i d δ hd (by rw[fP]at hi;exact hi)
  rw[fP]
  exact this
 rw[fP]at this
 exact this
end
noncomputable def qX(a:Option D)(δ:DS):Option Oc:=match a with
 |some _=>some (.nx δ)
 |none=>none
theorem Yc{fa:FE}:IW fa δ=qX (fa δ) δ:=by
 unfold IW qX
 cases fa δ<;>rfl
theorem Qc:qX (some d) δ=some (.nx δ):=rfl
theorem Qd{g B:D->D->Option D}{fa fb fc fd:FE}:xH g g' B fa fb fc fd δ=K9 (qO g (fa δ) (fb δ)) (ju g' B fb fc fd) δ:=by
 unfold xH K9 ju qO
 cases fa δ with
 |none=>rfl
 |some x=>
  cases fb δ with
  |none=>rfl
  |some y=>
   dsimp only[aM]
   cases g x y with
   |none=>rfl
   |some z=>
    cases z<;>try rfl
    next b=>cases b<;>rfl
noncomputable def qZ(a b:Option D):Option (List D):=match a,b with
 |some (.list l),some (.list m)=>some (lN l m)
 |_,_=>none
theorem Z7{f g:FE}:RN f g δ=qZ (f δ) (g δ):=by
 unfold RN qZ
 cases f δ with
 |none=>rfl
 |some x=>
  cases g δ with
  |none=>cases x<;>rfl
  |some y=>cases x<;>cases y<;>rfl
theorem Uj{m:List D}:qZ (some (.list l)) (some (.list m))=some (lN l m):=rfl
theorem ag7{fa:FE}:dN1 fa δ=qFl (λd=>decide (nl d<=1)) (fa δ):=by
 unfold dN1 qFl
 cases fa δ<;>rfl
theorem Z8:flat .none=true:=rfl
theorem ag8{b:Bool}:flat (.bool b)=true:=rfl
theorem f_int{i:Int}:flat (.int i)=true:=rfl
theorem Z9:flat (.str x)=true:=rfl
theorem Z_:flat (.list l)=false:=rfl
theorem f_tup:flat (.tuple l)=flats l:=rfl
theorem aa0:flats []=true:=rfl
theorem Yd:flats (d::l)=(flat d&&flats l):=rfl
theorem Ye:fl1 .none=true:=rfl
theorem aa1{b:Bool}:fl1 (.bool b)=true:=rfl
theorem Yg{i:Int}:fl1 (.int i)=true:=rfl
theorem Yh:fl1 (.str x)=true:=rfl
theorem Yi:fl1 (.list l)=flats l:=rfl
theorem Yj:fl1 (.tuple l)=flats l:=rfl
theorem ag9{c:String}:gIs c d=some (.bool (isT c (tyD d))):=rfl
theorem aa2:Ez d=some (.bool (isNone d)):=rfl
theorem Yk:Y6 d=some (.bool (!isNone d)):=rfl
theorem aa3:isNone .none=true:=rfl
theorem ah0{b:Bool}:isNone (.bool b)=false:=rfl
theorem aa4{i:Int}:isNone (.int i)=false:=rfl
theorem aa5:isNone (.str x)=false:=rfl
theorem aa6:isNone (.list l)=false:=rfl
theorem aa7:isNone (.tuple l)=false:=rfl
theorem aa8{l:List (D×D)}:isNone (.dict l)=false:=rfl
noncomputable def EVL:=And.intro @Z8 <| And.intro @ag8 <| And.intro @f_int <| And.intro @Z9 <| And.intro @Z_ <| And.intro @f_tup <| And.intro @aa0 <| And.intro @Yd <| And.intro @Ye <| And.intro @aa1 <| And.intro @Yg <| And.intro @Yh <| And.intro @Yi <| And.intro @Yj <| And.intro @ag9 <| And.intro @aa2 <| And.intro @Yk <| And.intro @aa3 <| And.intro @ah0 <| And.intro @aa4 <| And.intro @aa5 <| And.intro @aa6 <| And.intro @aa7 <| And.intro @aa8 <| And.intro @bB.{0} <| And.intro @jr.{0} <| And.intro @aQ.{0,0} <| And.intro @iG.{0,0} <| And.intro @b_.{0} <| And.intro @List.replicate_zero.{0} <| And.intro @List.cons_append.{0} <| And.intro @dM.{0} <| And.intro @cT.{0} <| And.intro @List.set_cons_zero.{0} <| And.intro @List.set_cons_succ.{0} <| And.intro @fP <| And.intro @if_true.{1} <| And.intro @decide_true <| And.intro @decide_false <| And.intro @Int.cast_ofNat_Int <| And.intro @cP <| And.intro @lJ <| @Bool.and_self
noncomputable def EV:=And.intro EVL <| And.intro @ag7 <| And.intro @Z7 <| And.intro @Uj <| And.intro @Yc <| And.intro @Qc <| And.intro @Qd <| And.intro @Zt (And.intro @Px (And.intro @Py (And.intro @Pz (And.intro @PB (And.intro @Zu (And.intro @af0 (And.intro @af2 (And.intro @af3 (And.intro @Xm (And.intro @Xn (And.intro @v_op (And.intro @Xo (And.intro @af4 (And.intro @Xp (And.intro @Xq (And.intro @Tw (And.intro @K_ (And.intro @Xr (And.intro @PJ (And.intro @Zv (And.intro @Tz (And.intro @Xu (And.intro @Zw (And.intro @TF (And.intro @v_c (And.intro @v_and (And.intro @TJ (And.intro @TQ (And.intro @v_or (And.intro @Xv (And.intro @Xw (And.intro @v_not (And.intro @TX (And.intro @af5 (And.intro @Xx (And.intro @Xy (And.intro @PK (And.intro @PN (And.intro @Zx (And.intro @TY (And.intro @T3 (And.intro @Xz (And.intro @PX (And.intro @v_ite (And.intro @T4 (And.intro @T5 (And.intro @Zy (And.intro @T6 (And.intro @Zz (And.intro @T7 (And.intro @La (And.intro @ZC (And.intro @T8 (And.intro @T9 (And.intro @af6 (And.intro @af7 (And.intro @ZD (And.intro @ZF (And.intro @T_ (And.intro @ZG (And.intro @Ua (And.intro @af8 (And.intro @XC (And.intro @XF (And.intro @ZJ (And.intro @XH (And.intro @ZK (And.intro @Ub (And.intro @ZL (And.intro @Uc (And.intro @Ud (And.intro @Lb (And.intro @Ld (And.intro @ZM (And.intro @Ue (And.intro @Ug (And.intro @XM (And.intro @P0 (And.intro @ZP (And.intro @XQ (And.intro @XR (And.intro @ZQ (And.intro @ZR (And.intro @af9 (And.intro @ag0 (And.intro @ag1 (And.intro @ag2 (And.intro @ZS (And.intro @ZV (And.intro @ZW (And.intro @X3 (And.intro @ZX (And.intro @Z0 (And.intro @Z1 (And.intro @Z2 (And.intro @ag3 (And.intro @Z4 (And.intro @P_ (And.intro @X4 (And.intro @Uh (And.intro @Z5 (And.intro @Z6 (And.intro @Ui (And.intro @X6 (And.intro @X7 (And.intro @ag4 (And.intro @X8 (And.intro @ag5 (And.intro @ag6 (And.intro @X_ (And.intro @Yb @Qa)))))))))))))))))))))))))))))))))))))))))))))))))))))))))))))))))))))))))))))))))))))))))))))))))))))))))))))))
end D3
namespace My
noncomputable def o9(ns:List Int)(i:Int):Int:=
 if i<(ns.length:Int)then ns.getD i.toNat 0%1000000007
 else if ns=[]then 7919*i+5000011
 else ns.getD (i*7%(ns.length:Int)).toNat 0%1000000007+7919*i
noncomputable def divs(n:Int):Nat->Int
 |0=>n
 |k+1=>divs n k/1000003
noncomputable def JF(c i k m:Int):Int:=
 (((c+65537*i+3)*(1299709+15485863*k)%2147483629*((c+65537*i+3)*(1299709+15485863*k)%2147483629)%1500450271+104729) *
  ((c+65537*i+3)*(1299709+15485863*k)%2147483629*((c+65537*i+3)*(1299709+15485863*k)%2147483629)%1500450271+104729))%715827883/64%m
noncomputable def jX(ns:List Int)(i k m:Int):Int:=
 if i<(ns.length:Int)/\10^40<=ns.getD i.toNat 0/\0<divs (ns.getD i.toNat 0) k.toNat then divs (ns.getD i.toNat 0) k.toNat%1000003%m
 else JF (o9 ns i) i k m
theorem jH(ns:List Int)(i k:Int){m:Int}(h:0<m):0<=jX ns i k m/\jX ns i k m<m:=by
 unfold jX JF
 split
 ·exact⟨j_ _ (by omega),jh _ h⟩
 ·exact⟨j_ _ (by omega),jh _ h⟩
theorem Le{i k m:Int}(h1:i<(ns.length:Int))(h2:10^40<=ns.getD i.toNat 0)(B:0<divs (ns.getD i.toNat 0) k.toNat):
 jX ns i k m=divs (ns.getD i.toNat 0) k.toNat%1000003%m:=by
 unfold jX
 rw[if_pos ⟨h1,h2,B⟩]
theorem uI{i k m:Int}(h:¬(i<(ns.length:Int)/\10^40<=ns.getD i.toNat 0/\0<divs (ns.getD i.toNat 0) k.toNat)):
 jX ns i k m=JF (o9 ns i) i k m:=by
 unfold jX
 rw[if_neg h]
end My
namespace Com
open PySem D3
noncomputable def iu:List D->Option D:=fnD 1 0 (dG (zY (dUn (gIs "int") (ao 0)) (M4 (dUn (gIs "bool") (ao 0)))))
noncomputable def jd:List D->Option D:=fnD 2 0 (bU (sIf (bL (dOp gLt (ao 1) (dCall iz (aH (ao 0) (bw))))) (dG (dOp ux (dOp gIx (ao 0) (ao 1)) (dC (.int 1000000007)))) (dX))
 (bU (sIf (bL (dOp gEq (ao 0) (jD (bw)))) (dG (dOp gG (dOp tQ (dC (.int 7919)) (ao 1)) (dC (.int 5000011)))) (dX))
 (dG (dOp gG (dOp ux (dOp gIx (ao 0) (dOp ux (dOp tQ (ao 1) (dC (.int 7))) (dCall iz (aH (ao 0) (bw))))) (dC (.int 1000000007))) (dOp tQ (dC (.int 7919)) (ao 1))))))
noncomputable def cA:List D->Option D:=fnD 4 2 (bU (sIf (D3.BK (bL (dOp gLt (ao 1) (dCall iz (aH (ao 0) (bw))))) (bL (dOp gGe (dOp gIx (ao 0) (ao 1)) (dOp Wl (dC (.int 10)) (dC (.int 40)))))) (bU (bQ 4 (dOp gIx (ao 0) (ao 1)))
 (bU (lY (mq (aH (ao 2) (bw))) (gNl 5) (bQ 4 (dOp Ey (ao 4) (dC (.int 1000003)))))
 (sIf (bL (dOp gGt (ao 4) (dC (.int 0)))) (dG (dOp ux (dOp ux (ao 4) (dC (.int 1000003))) (ao 3))) (dX)))) (dX))
 (bU (bQ 4 (dOp ux (dOp tQ (dOp gG (dOp gG (dCall jd (aH (ao 0) (aH (ao 1) (bw)))) (dOp tQ (dC (.int 65537)) (ao 1))) (dC (.int 3))) (dOp gG (dC (.int 1299709)) (dOp tQ (dC (.int 15485863)) (ao 2)))) (dC (.int 2147483629))))
 (bU (bQ 4 (dOp gG (dOp ux (dOp tQ (ao 4) (ao 4)) (dC (.int 1500450271))) (dC (.int 104729))))
 (dG (dOp ux (dOp Ey (dOp ux (dOp tQ (ao 4) (ao 4)) (dC (.int 715827883))) (dC (.int 64))) (ao 3))))))
noncomputable def dg:List D->Option D:=fnD 1 0 (dG (zY (dUn (gIs "int") (ao 0)) (M4 (dUn (gIs "bool") (ao 0)))))
noncomputable def jJ:List D->Option D:=fnD 1 0 (dG (dTup (aH (fL (dOp gIx (ao 0) (dC (.int 0)))) (aH (fL (dOp gIx (ao 0) (dC (.int 1)))) (bw)))))
noncomputable def fQ:List D->Option D:=fnD 3 0 (dG (zY (dCall iu (aH (ao 0) (bw))) (ju gLe gLe (ao 1) (ao 0) (ao 2))))
noncomputable def fU:List D->Option D:=fnD 3 0 (bU (sIf (bL (ao 2)) (dG (fL (dOp gIx (ao 1) (dC (.int 1))))) (dX))
 (dG (fL (dIf (bL (dOp gLe (ao 0) (dOp gIx (ao 1) (dC (.int 0))))) (dC (.int 0)) (ao 0)))))
noncomputable def dH:List D->Option D:=fnD 4 0 (bU (sIf (D3.tOr (bL (dOp gLe (dOp gIx (ao 0) (dC (.int 1))) (dOp gIx (ao 2) (dC (.int 0))))) (bL (dOp gLe (dOp gIx (ao 2) (dC (.int 1))) (dOp gIx (ao 0) (dC (.int 0)))))) (dG (dC (.bool true))) (dX))
 (dG (dOr (dOp gLe (dOp gG (ao 1) (dOp gIx (ao 0) (dC (.int 2)))) (ao 3)) (dOp gLe (dOp gG (ao 3) (dOp gIx (ao 2) (dC (.int 2)))) (ao 1)))))
noncomputable def jK:List D->Option D:=fnD 3 6 (bU (sIf (D3.tOr (D3.jc (bL (dUn (gIs "list") (ao 2)))) (bL (dOp gNe (dCall iz (aH (ao 2) (bw))) (dCall iz (aH (ao 1) (bw)))))) (dG (dC (.bool false))) (dX))
 (bU (lY (mq (aH (dCall iz (aH (ao 1) (bw))) (bw))) (gNl 3) (bU (bQ 4 (dOp gIx (ao 2) (ao 3)))
 (bU (Ew (dOp gIx (ao 1) (ao 3)) (gTn 3 (cV (gNl 5) (cV (gNl 6) (cV (gNl 7) (jZ))))))
 (bU (sIf (D3.tOr (D3.jc (bL (dCall dg (aH (ao 4) (bw))))) (D3.jc (bL (ju gLe gLe (dC (.int 0)) (ao 4) (dOp rF (dCall iz (aH (ao 0) (bw))) (ao 7)))))) (dG (dC (.bool false))) (dX))
 (sIf (bL (dOp gGt (dCall yD (aH (dSl (ao 0) (fM (ao 4)) (fM (dOp gG (ao 4) (ao 7)))) (bw))) (ao 5))) (dG (dC (.bool false))) (dX))))))
 (bU (lY (mq (aH (dCall iz (aH (ao 1) (bw))) (bw))) (gNl 3) (lY (mq (aH (ao 3) (bw))) (gNl 8) (sIf (D3.jc (bL (dCall dH (aH (dOp gIx (ao 1) (ao 8)) (aH (dOp gIx (ao 2) (ao 8)) (aH (dOp gIx (ao 1) (ao 3)) (aH (dOp gIx (ao 2) (ao 3)) (bw)))))))) (dG (dC (.bool false))) (dX))))
 (dG (dC (.bool true))))))
noncomputable def iw:List D->Option D:=fnD 2 5 (bU (bQ 2 (dCall cA (aH (ao 0) (aH (dC (.int 1)) (aH (dC (.int 0)) (aH (dC (.int 360)) (bw)))))))
 (bU (bQ 3 (dOp gIx (jD (aH (dC (.int 5)) (aH (dC (.int 8)) (aH (dC (.int 12)) (aH (dC (.int 20)) (bw)))))) (dCall cA (aH (ao 0) (aH (dC (.int 1)) (aH (dC (.int 1)) (aH (dC (.int 4)) (bw))))))))
 (bU (bQ 4 (jD (bw)))
 (bU (lY (mq (aH (ao 1) (bw))) (gNl 5) (bU (bQ 6 (dOp gG (ao 2) (dCall cA (aH (ao 0) (aH (dOp gG (dC (.int 3)) (ao 5)) (aH (dC (.int 0)) (aH (ao 3) (bw))))))))
 (uU 4 (dTup (aH (ao 6) (aH (dOp gG (dOp gG (ao 6) (dC (.int 1))) (dCall cA (aH (ao 0) (aH (dOp gG (dC (.int 3)) (ao 5)) (aH (dC (.int 1)) (aH (dC (.int 6)) (bw))))))) (aH (dC (.int 1)) (bw))))))))
 (dG (Hl (ao 4)))))))
noncomputable def iy:List D->Option D:=fnD 2 4 (bU (bQ 2 (dC (.int 0)))
 (bU (lY (nG (iB (nG (ao 1)) (gNl 0) (m6) (fL (dOp gIx (ao 0) (dC (.int 0)))) 1 [])) (gNl 3) (bU (bQ 4 (dCall iz (aH (iB (nG (ao 1)) (gNl 0) (bL (ju gLe gLt (dOp gIx (ao 0) (dC (.int 0))) (ao 1) (dOp gIx (ao 0) (dC (.int 1))))) (fL (ao 0)) 1 [3]) (bw))))
 (bU (bQ 5 (dCall iz (aH (iB (nG (ao 0)) (gNl 0) (bL (dOp gLe (ao 0) (ao 1))) (fL (ao 0)) 1 [3]) (bw))))
 (bQ 2 (dCall Ar (aH (ao 2) (aH (dOp rF (ao 4) (ao 5)) (bw))))))))
 (dG (fL (ao 2)))))
end Com
namespace Com
open PySem D3 My
theorem vp{i:Int}(B:0<=i)(h1:i<ns.length):pAt (ns.map PyData.int) i=some (.int (ns.getD i.toNat 0)):=by
 unfold pAt pIx
 rw[au,if_pos B,if_pos h1,aM,bf]
 have h:i.toNat<ns.length:=by omega
 rw[aF h]
 simp[List.getD,h]
theorem Dq{k:Nat}:pAt l (k:Int)=l[k]?:=by
 unfold pAt pIx
 rw[if_pos (by omega)]
 by_cases h:k<l.length
 ·rw[if_pos (by omega),aM]
  simp
 ·rw[if_neg (by omega),bH (by omega)]
  rfl
theorem at0{a:D}:pAt (a::l) 0=some a:=Dq (k:=0)
theorem at1{a b:D}:pAt (a::b::l) 1=some b:=Dq (k:=1)
theorem Dr{i j:Int}(h:0<j):ux (.int i) (.int j)=some (.int (i%j)):=by
 show(if decide (j≠0)=true then some (PyData.int (i.fmod j))else none)=_
 rw[if_pos (dTr (by omega)),Int.fmod_eq_emod_of_nonneg i (by omega)]
theorem Qe{j:Int}(h:j.natAbs<2^64):j.natAbs<2^9000:=bR h (Nat.pow_le_pow_right (by decide) (by decide))
theorem ah1{i j:Int}(h:0<j)(h2:j.natAbs<2^9000):Ey (.int i) (.int j)=some (.int (i/j)):=by
 show(if Ho i j=true then some (PyData.int (i.fdiv j))else none)=_
 have e:Ho i j=true:=by
  unfold Ho
  rw[aX]
  exact⟨dTr (by omega),dTr h2⟩
 rw[if_pos e,Int.fdiv_eq_ediv_of_nonneg i (by omega)]
theorem aa9{i j:Int}(h:0<j)(h2:j<18446744073709551616):Ey (.int i) (.int j)=some (.int (i/j)):=ah1 h (Qe (by omega))
theorem mulL{i j:Int}(h1 : -18446744073709551616<i)(h2:i<18446744073709551616):tQ (.int i) (.int j)=some (.int (i*j)):=by
 show(if yx i j=true then some (PyData.int (i*j))else none)=_
 have e:yx i j=true:=by
  unfold yx
  rw[dTr (show i.natAbs<2^64 by omega)]
  rfl
 rw[if_pos e]
theorem mulR{i j:Int}(h1 : -18446744073709551616<j)(h2:j<18446744073709551616):tQ (.int i) (.int j)=some (.int (i*j)):=by
 show(if yx i j=true then some (PyData.int (i*j))else none)=_
 have e:yx i j=true:=by
  unfold yx
  rw[dTr (show j.natAbs<2^64 by omega),Bool.or_true]
  rfl
 rw[if_pos e]
theorem Vi:Wl (.int 10) (.int 40)=some (.int (10^40)):=rfl
theorem sz(h:n<=1000000):n<=sizeLine:=bF h (by decide)
theorem shaped_ints(ns:List Int):SeqAt.shaped (.list (ns.map PyData.int))=true:=by
 have h1:∀ns:List Int,PyData.canLayAll0 (ns.map PyData.int)=true:=λns=>by
  induction ns with
  |nil=>rfl
  |cons a r Z=>simp[PyData.canLayAll0,PyData.canLay0,Z]
 have h2:∀ns:List Int,PyData.depthAll (ns.map PyData.int)<=1:=λns=>by
  induction ns with
  |nil=>simp[PyData.depthAll]
  |cons a r Z=>simp[PyData.depthAll,PyData.depth];omega
 unfold SeqAt.shaped
 rw[aX]
 refine⟨by simp[PyData.canLay0,h1],dTr ?_⟩
 have:=h2 ns
 simp only[PyData.depth]
 omega
theorem eq_empty(ns:List Int):gEq (.list (ns.map PyData.int)) (.list [])=some (.bool (decide (ns=[]))):=by
 unfold gEq
 rw[shaped_ints ns]
 cases ns with
 |nil=>rfl
 |cons a r=>rfl
theorem Lf{i:Int}(B:0<=i):jd [.list (ns.map .int),.int i]=some (.int (o9 ns i)):=by
 unfold jd o9
 by_cases h:i<(ns.length:Int)
 ·rw[if_pos h]
  simp only[EV,reduceIte,aq,aA,aj,ak,aB,aC,aD,lMp,dTr h,vp B h,Dr (show(0:Int)<1000000007 by decide)]
 ·rw[if_neg h]
  by_cases hn:ns=[]
  ·rw[if_pos hn]
   simp only[EV,reduceIte,aq,aA,aj,ak,aB,aC,aD,lMp,dFa h,eq_empty,dTr hn,cZ,mulL (show(-18446744073709551616:Int)<7919 by decide) (show(7919:Int)<18446744073709551616 by decide)]
  ·rw[if_neg hn]
   have X:0<ns.length:=by
    cases ns with
    |nil=>exact absurd rfl hn
    |cons _ _=>simp
   have Y:0<=i*7%(ns.length:Int):=j_ _ (by omega)
   have Z:i*7%(ns.length:Int)<(ns.length:Int):=jh _ (by omega)
   simp only[EV,reduceIte,aq,aA,aj,ak,aB,aC,aD,lMp,dFa h,eq_empty,dFa hn,cZ,mulL (show(-18446744073709551616:Int)<7919 by decide) (show(7919:Int)<18446744073709551616 by decide),mulR (show(-18446744073709551616:Int)<7 by decide) (show(7:Int)<18446744073709551616 by decide),Dr (show(0:Int)<1000000007 by decide),Dr (show(0:Int)<ns.length by omega),vp Y Z]
theorem Bq{l:D}{i k m:D}(n:Int):∀(B:List D)(c:Nat)(y:Option U),(∀j∈B,∃x,j = .int x)->∃J,iJ (gNl 5) (bQ 4 (dOp Ey (ao 4) (dC (.int 1000003)))) B [some (.d l),some (.d i),some (.d k),some (.d m),some (.d (.int (divs n c))),y] =
 some (.nx [some (.d l),some (.d i),some (.d k),some (.d m),some (.d (.int (divs n (c+B.length)))),J])
 |[],c,y,_=>⟨y,rfl⟩
 |j::B,c,y,h=>by
  obtain⟨J,e⟩:=Bq (l:=l) (i:=i) (k:=k) (m:=m) n B (c+1) (some (.d j)) λj' Z=>h j' (aJ _ Z)
  refine⟨J,?_⟩
  rw[iJ]
  simp only[EV,reduceIte,aq,aA,aj,ak,aB,aC,aD,aa9 (show(0:Int)<1000003 by decide) (show(1000003:Int)<18446744073709551616 by decide),aM]
  rw[show c+(B.length+1)=c+1+B.length by omega,<-e]
  rfl
theorem Lg(lo hi:Int):∀j∈gC lo hi,∃x,j = .int x:=by
 intro j Z
 unfold gC at Z
 obtain⟨k,_,rfl⟩:=bV.mp Z
 exact⟨_,rfl⟩
theorem n_{i k m:Int}(B:0<=i)(D:0<=k)(J:k<=1000)(hm:0<m):cA [.list (ns.map .int),.int i,.int k,.int m]=some (.int (jX ns i k m)):=by
 have rest:∀x y:Option U,qFn ((bU (bQ 4 (dOp ux (dOp tQ (dOp gG (dOp gG (dCall jd (aH (ao 0) (aH (ao 1) (bw)))) (dOp tQ (dC (.int 65537)) (ao 1))) (dC (.int 3))) (dOp gG (dC (.int 1299709)) (dOp tQ (dC (.int 15485863)) (ao 2)))) (dC (.int 2147483629))))
  (bU (bQ 4 (dOp gG (dOp ux (dOp tQ (ao 4) (ao 4)) (dC (.int 1500450271))) (dC (.int 104729))))
  (dG (dOp ux (dOp Ey (dOp ux (dOp tQ (ao 4) (ao 4)) (dC (.int 715827883))) (dC (.int 64))) (ao 3))))) [some (.d (.list (ns.map .int))),some (.d (.int i)),some (.d (.int k)),some (.d (.int m)),x,y])=some (.int (JF (o9 ns i) i k m)):=by
  intro x y
  have R:0<=(o9 ns i+65537*i+3)*(1299709+15485863*k)%2147483629:=j_ _ (by decide)
  have S:(o9 ns i+65537*i+3)*(1299709+15485863*k)%2147483629<2147483629:=jh _ (by decide)
  have T:0<=(o9 ns i+65537*i+3)*(1299709+15485863*k)%2147483629*((o9 ns i+65537*i+3)*(1299709+15485863*k)%2147483629)%1500450271:=j_ _ (by decide)
  have V:(o9 ns i+65537*i+3)*(1299709+15485863*k)%2147483629*((o9 ns i+65537*i+3)*(1299709+15485863*k)%2147483629)%1500450271<1500450271:=jh _ (by decide)
  simp only[EV,reduceIte,aq,aA,aj,ak,aB,aC,aD,Lf B,mulL (show(-18446744073709551616:Int)<65537 by decide) (show(65537:Int)<18446744073709551616 by decide),mulL (show(-18446744073709551616:Int)<15485863 by decide) (show(15485863:Int)<18446744073709551616 by decide),
   mulR (i:=o9 ns i+65537*i+3) (show(-18446744073709551616:Int)<1299709+15485863*k by omega) (show 1299709+15485863*k<(18446744073709551616:Int)by omega),Dr (show(0:Int)<2147483629 by decide)]
  simp only[mulL (show(-18446744073709551616:Int)<(o9 ns i+65537*i+3)*(1299709+15485863*k)%2147483629 by omega) (show(o9 ns i+65537*i+3)*(1299709+15485863*k)%2147483629<(18446744073709551616:Int)by omega)]
  simp only[EV,reduceIte,aq,aA,aj,ak,aB,aC,aD,Dr (show(0:Int)<1500450271 by decide)]
  rw[mulL (by omega) (by omega)]
  simp only[EV,reduceIte,aq,aA,aj,ak,aB,aC,aD,Dr (show(0:Int)<715827883 by decide),aa9 (show(0:Int)<64 by decide) (show(64:Int)<18446744073709551616 by decide),Dr hm]
  rfl
 unfold cA
 rw[ZM]
 simp only[EV,reduceIte,aq,aA,aj,ak,aB,aC,aD]
 by_cases h:i<(ns.length:Int)
 ·by_cases h2:10^40<=ns.getD i.toNat 0
  ·simp only[EV,reduceIte,aq,aA,aj,ak,aB,aC,aD,lMp,dTr h,vp B h,Vi,dTr h2]
   obtain⟨Y,e⟩:=Bq (l:=.list (ns.map .int)) (i:=.int i) (k:=.int k) (m:=.int m) (ns.getD i.toNat 0) (gC 0 k) 0 none (Lg 0 k)
   have X:0+(gC 0 k).length=k.toNat:=by simp[gC]
   rw[X]at e
   have W:iJ (gNl 5) (bQ 4 (dOp Ey (ao 4) (dC (.int 1000003)))) (gC 0 k) [some (.d (.list (ns.map .int))),some (.d (.int i)),some (.d (.int k)),some (.d (.int m)),some (.d (.int (ns.getD i.toNat 0))),none] =
    some (.nx [some (.d (.list (ns.map .int))),some (.d (.int i)),some (.d (.int k)),some (.d (.int m)),some (.d (.int (divs (ns.getD i.toNat 0) k.toNat))),Y]):=e
   rw[Gi (by omega) (by omega)]
   simp only[EV,reduceIte,aq,aA,aj,ak,aB,aC,aD,W]
   by_cases Z:0<divs (ns.getD i.toNat 0) k.toNat
   ·simp only[EV,reduceIte,aq,aA,aj,ak,aB,aC,aD,dTr Z,Dr (show(0:Int)<1000003 by decide),Dr hm]
    rw[Le h h2 Z]
   ·simp only[EV,reduceIte,aq,aA,aj,ak,aB,aC,aD,dFa Z]
    rw[uI (λz=>Z z.2.2)]
    have:=rest (some (.d (.int (divs (ns.getD i.toNat 0) k.toNat)))) Y
    simp only[EV,reduceIte,aq,aA,aj,ak,aB,aC,aD]at this
    exact this
  ·simp only[EV,reduceIte,aq,aA,aj,ak,aB,aC,aD,lMp,dTr h,vp B h,Vi,dFa h2]
   rw[uI (λz=>h2 z.2.1)]
   have:=rest none none
   simp only[EV,reduceIte,aq,aA,aj,ak,aB,aC,aD]at this
   exact this
 ·simp only[EV,reduceIte,aq,aA,aj,ak,aB,aC,aD,lMp,dFa h]
  rw[uI (λz=>h z.1)]
  have:=rest none none
  simp only[EV,reduceIte,aq,aA,aj,ak,aB,aC,aD]at this
  exact this
end Com
namespace Com
open PySem D3 My
theorem H_{α:Type}{g:FG}{c:FT}{e:FE}(f:α->D)(p:α->Bool)(h:α->D):∀l:List α,(∀s∈l,∃B,g (f s) δ=some B/\c B=some (p s)/\(p s=true->e B=some (h s)))->lA g c e δ (l.map f)=some ((l.filter p).map h)
 |[],_=>rfl
 |s::r,hs=>by
  obtain⟨B,V,W,X⟩:=hs s aG
  have Z:=H_ f p h r λx Y=>hs x (aJ _ Y)
  rw[aQ,lA,V,aM,W,aM]
  by_cases c:p s=true
  ·rw[if_pos c,X c,aM,Z,jN,if_pos c]
   rfl
  ·rw[if_neg c,Z,jN,if_neg c]
theorem Ds{α:Type}{g:FG}{c:FT}{e:FE}(f:α->D)(h:α->D):∀l:List α,(∀s∈l,∃B,g (f s) δ=some B/\c B=some true/\e B=some (h s))->lA g c e δ (l.map f)=some (l.map h)
 |[],_=>rfl
 |s::r,hs=>by
  obtain⟨B,W,X,Y⟩:=hs s aG
  rw[aQ,lA,W,aM,X,aM,if_pos rfl,Y,aM,Ds f h r λx Z=>hs x (aJ _ Z)]
  rfl
theorem tH{α:Type}(f:α->D)(h:∀a,flat (f a)=true):∀l:List α,flats (l.map f)=true
 |[]=>rfl
 |a::r=>by rw[aQ,flats,h,tH f h r];rfl
theorem qW(l:List Int):flats (l.map PyData.int)=true:=tH _ (λ_=>rfl) l
theorem JG{m:Int}:(gC 0 m).length=m.toNat:=by unfold gC;rw[au,bN,p7]
theorem Qf{v k:Int}(h:k<=1000000)(h' : -(2^63)<=k):uy (.list [.int v]) (.int k)=some (.list ((aN k.toNat v).map PyData.int)):=by
 show(if [PyData.int v].length*k.toNat<=1000000/\-(2^63)<=k/\k<2^63 then some (PyData.list (aN k.toNat [PyData.int v]).flatten)else none)=_
 rw[if_pos ⟨by simp only[bB,jr];omega,h',by omega⟩]
 congr 2
 generalize k.toNat=n
 induction n with
 |zero=>rfl
 |succ n Z=>rw[b_,eU,Z,b_,aQ];rfl
theorem ab0{k:Int}(h:0<=k):cutD l (some k) none=l.drop k.toNat:=by
 unfold cutD
 have e:pSx l.length 0 (some k)=min k.toNat l.length:=by
  show(if k<0 then _ else _)=_
  rw[if_neg (by omega)]
 rw[e,show pSx l.length l.length none=l.length from rfl]
 by_cases c:k.toNat<=l.length
 ·rw[show min k.toNat l.length=k.toNat by omega,eG (by rw[fG];omega)]
 ·rw[show min k.toNat l.length=l.length by omega,qd (by omega),qd (by omega)]
  simp
theorem ab1{k:Int}(h:0<=k):cutD l none (some k)=l.take k.toNat:=by
 unfold cutD
 have e:pSx l.length l.length (some k)=min k.toNat l.length:=by
  show(if k<0 then _ else _)=_
  rw[if_neg (by omega)]
 rw[e,show pSx l.length 0 none=0 from rfl,d9,nR,List.take_eq_take_iff]
 omega
theorem isList:D3.isT "list" "list"=true:=rfl
noncomputable def ly(n:Nat)(d:D):Prop:=d.canLay0=true/\d.depth<=n
noncomputable def lys(n:Nat)(l:List D):Prop:=PyData.canLayAll0 l=true/\PyData.depthAll l<=n
theorem Br{m:Nat}(h:ly n d)(l:n<=m):ly m d:=⟨h.1,bF h.2 l⟩
theorem Uk:lys n []:=⟨by simp[PyData.canLayAll0],by simp[PyData.depthAll]⟩
theorem Qg(h:ly n d)(q:lys n l):lys n (d::l):=
 ⟨by rw[PyData.canLayAll0,h.1,q.1];rfl,by have:=h.2;have:=q.2;simp only[PyData.depthAll];omega⟩
theorem vq{α:Type}(f:α->D)(h:∀a,ly n (f a)):∀l:List α,lys n (l.map f)
 |[]=>Uk
 |a::r=>Qg (h a) (vq f h r)
theorem JH(h:lys n l):ly (n+1) (.list l):=⟨by simp[PyData.canLay0,h.1],by have:=h.2;simp only[PyData.depth];omega⟩
theorem Qh(h:lys n l):ly (n+1) (.tuple l):=⟨by simp[PyData.canLay0,h.1],by have:=h.2;simp only[PyData.depth];omega⟩
theorem Qi{i:Int}:ly (n+1) (.int i):=⟨rfl,by simp[PyData.depth]⟩
theorem pW(h:ly 60 d):SeqAt.shaped d=true:=by
 unfold SeqAt.shaped
 rw[aX]
 exact⟨h.1,dTr (by have:=h.2;omega)⟩
end Com
namespace Com
open PySem D3 My
noncomputable def q(t b:Int):Rat:=mkRat t b.toNat
end Com
namespace Com
open PySem D3 My
noncomputable def sm(k:Nat)(x:Int):Prop:=x.natAbs<2^k
end Com
namespace Com
open PySem D3 My
theorem JK{k:Nat}(h:k<n):pIx n (k:Int)=some k:=by
 unfold pIx
 rw[if_pos (by omega),if_pos (by omega)]
 rfl
structure Tb where
 N:Nat
 w:Nat->Int
 B:Int
noncomputable def sumTo(f:Nat->Int):Nat->Int
 |0=>0
 |n+1=>sumTo f n+f n
structure TbOk(t:Tb)(k:Nat):Prop where
 B0:0<t.B
 Bs:sm (7*k+1) t.B
 w0:∀j,0<=t.w j
 wB:∀j,t.w j<=t.B
 wz:∀j,t.N<=j->t.w j=0
 N1:1<=t.N
 N4:t.N<=1+4*k
 sum:sumTo t.w t.N=t.B
end Com
namespace Com
open PySem D3 My
end Com
namespace Com
open PySem D3 My
theorem sm1(k:Nat){x:Int}(h:x.natAbs<=1):sm (k+1) x:=by
 unfold sm
 rw[Nat.pow_succ]
 have:=Nat.one_le_two_pow (n:=k)
 omega
structure bd(k:Nat)(a:Rat):Prop where
 n:sm k a.num
 d:sm k (a.den:Int)
end Com
namespace Com
open PySem D3 My
theorem zj{g:FG}{b:FS}(Inv:Nat->DS->Prop){v:D}(n:Nat):∀(l:List D)(δ:DS),Inv 0 δ->n<l.length->(∀i d δ,i<n->l[i]? = some d->Inv i δ->∃B J,g d δ=some B/\b B=some (.nx J)/\Inv (i+1) J) ->
 (∀d δ,l[n]? = some d->Inv n δ->∃B,g d δ=some B/\b B=some (.rt v))->iJ g b l δ=some (.rt v):=by
 have V:∀(n:Nat)(l:List D)(k:Nat)(δ:DS),Inv k δ->n<l.length->(∀i d δ,i<n->l[i]? = some d->Inv (k+i) δ->∃B J,g d δ=some B/\b B=some (.nx J)/\Inv (k+i+1) J) ->
  (∀d δ,l[n]? = some d->Inv (k+n) δ->∃B,g d δ=some B/\b B=some (.rt v))->iJ g b l δ=some (.rt v):=by
  intro n
  induction n with
  |zero=>
   intro l k δ W hn _ X
   cases l with
   |nil=>simp at hn
   |cons d r=>
    obtain⟨B,T,U⟩:=X d δ rfl W
    rw[iJ,T,aM,U]
    rfl
  |succ n R=>
   intro l k δ W hn hs X
   cases l with
   |nil=>simp at hn
   |cons d r=>
    obtain⟨B,J,T,U,Q⟩:=hs 0 d δ (by omega) rfl W
    rw[iJ,T,aM,U]
    refine R r (k+1) J Q (by simpa using hn) (λi S Z hi hd Y=>?_) (λS Z hd Y=>X S Z (by simpa using hd) (by rw[show k+(n+1)=k+1+n by omega];exact Y))
    have:=hs (i+1) S Z (by omega) (by simpa using hd) (by rw[show k+(i+1)=k+1+i by omega];exact Y)
    rw[show k+(i+1)+1=k+1+i+1 by omega]at this
    exact this
 intro l δ W hn hs X
 refine V n l 0 δ W hn (λi d δ hi hd Y=>?_) (λd δ hd Y=>X d δ hd (by rw[fP]at Y;exact Y))
 have:=hs i d δ hi hd (by rw[fP]at Y;exact Y)
 rw[fP]
 exact this
theorem lR{hi:Int}(h:(gC 0 hi)[i]? = some d):(i:Int)<hi/\d = .int (i:Int):=by
 unfold gC at h
 rw[bf]at h
 by_cases Z:i<(hi-0).toNat
 ·rw[dO Z]at h
  cases h
  refine⟨by omega,?_⟩
  show PyData.int (0+(i:Int))=_
  rw[jM]
 ·rw[bH (by simpa using Z)]at h
  cases h
end Com
namespace XS
open PySem PySem.W PyProof.Rows
structure Weak(lt:Nat->Nat->Bool):Prop where
 irr:∀a,lt a a=false
 tr:∀a b c,lt a b=true->lt b c=true->lt a c=true
 nt:∀a b c,lt a c=true->lt a b=true\/lt b c=true
noncomputable def Rk(lt:Nat->Nat->Bool)(a b:Nat):Prop:=lt a b=true\/(lt b a=false/\a<b)
section
variable{lt:Nat->Nat->Bool}{p:Array Nat}{n:Nat}
theorem Weak.not(W:Weak lt){a b c:Nat}(h1:lt a b=false)(h2:lt b c=false):lt a c=false:=by
 cases q:lt a c with
 |false=>rfl
 |true=>
  rcases W.nt a b c q with z|z
  ·rw[z]at h1;cases h1
  ·rw[z]at h2;cases h2
theorem Rk.trans(W:Weak lt){a b c:Nat}(h1:Rk lt a b)(h2:Rk lt b c):Rk lt a c:=by
 rcases h1 with h1|⟨h1,l1⟩
 ·rcases h2 with h2|⟨h2,l2⟩
  ·exact .inl (W.tr _ _ _ h1 h2)
  ·rcases W.nt a c b h1 with z|z
   ·exact .inl z
   ·rw[z]at h2;cases h2
 ·rcases h2 with h2|⟨h2,l2⟩
  ·rcases W.nt b a c h2 with z|z
   ·rw[z]at h1;cases h1
   ·exact .inl z
  ·exact .inr ⟨W.not h2 h1,by omega⟩
noncomputable abbrev ga(p:Array Nat)(i:Nat):Nat:=p.getD i 0
noncomputable def Asc(lt:Nat->Nat->Bool)(p:Array Nat)(m:Nat):Prop:=∀i j,i<j->j<m->Rk lt (ga p i) (ga p j)
structure Run(lt:Nat->Nat->Bool)(n:Nat)(p:Array Nat)(m:Nat):Prop where
 asc:Asc lt p m
 rest:∀k,m<=k->k<n->ga p k=k
 low:∀k,k<m->ga p k<m
theorem Run.snoc(W:Weak lt){a:Nat}(R:Run lt n p a)(h1:1<=a)(ha:a<n)(h:lt (ga p a) (ga p (a-1))=false):Run lt n p (a+1):=by
 have U:=R.rest a (aL _) ha
 have X:=R.low (a-1) (by omega)
 have st:Rk lt (ga p (a-1)) (ga p a):=.inr ⟨h,by omega⟩
 refine⟨λi j Z V=>?_,λk Y hn=>R.rest k (by omega) hn,λk Y=>?_⟩
 ·by_cases z:j<a
  ·exact R.asc i j Z z
  ·have:j=a:=by omega
   subst this
   by_cases y:i=j-1
   ·rw[y];exact st
   ·exact(R.asc i (j-1) (by omega) (by omega)).trans W st
 ·by_cases z:k<a
  ·have:=R.low k z;omega
  ·have:k=a:=by omega
   subst this
   omega
theorem Ia(W:Weak lt):∀(f a:Nat),Run lt n p a->1<=a->a+f<=n->Run lt n p (d7 lt (kas_asc p f a))/\a<=d7 lt (kas_asc p f a)/\d7 lt (kas_asc p f a)<=a+f/\(d7 lt (kas_asc p f a)<a+f->lt (ga p (d7 lt (kas_asc p f a))) (ga p (d7 lt (kas_asc p f a)-1))=true)
 |0,a,R,h1,Y=>⟨R,aL _,aL _,λz=>by
  have z:a<a+0:=z
  omega⟩
 |f+1,a,R,h1,Y=>by
  have e:d7 lt (kas_asc p (f+1) a)=d7 lt (if lt (ga p a) (ga p (a-1))=true then .ret a else kas_asc p f (a+1)):=rfl
  rw[e]
  by_cases c:lt (ga p a) (ga p (a-1))=true
  ·rw[if_pos c]
   exact⟨R,aL _,by show a<=a+(f+1);omega,λ_=>c⟩
  ·rw[if_neg c]
   obtain⟨q1,q2,X,Z⟩:=Ia W f (a+1) (R.snoc W h1 (by omega) (by simpa using c)) (by omega) (by omega)
   exact⟨q1,by omega,by omega,λz=>Z (by omega)⟩
theorem zm(W:Weak lt){k:Nat}(R:Run lt n p k):∀(f l r:Nat),l<=r->r<=k->r-l<=f->(∀i,i<l->lt (ga p k) (ga p i)=false)->(∀i,r<=i->i<k->lt (ga p k) (ga p i)=true) ->
 d7 lt (kas_place p k f l r)<=k/\(∀i,i<d7 lt (kas_place p k f l r)->lt (ga p k) (ga p i)=false)/\(∀i,d7 lt (kas_place p k f l r)<=i->i<k->lt (ga p k) (ga p i)=true)
 |0,l,r,h1,h2,T,Y,Z=>by
  have:l=r:=by omega
  subst this
  exact⟨h2,Y,Z⟩
 |f+1,l,r,h1,h2,T,Y,Z=>by
  by_cases z:l≥r
  ·have:l=r:=by omega
   subst this
   have e:kas_place p k (f+1) l l = .ret l:=by unfold kas_place;rw[if_pos z]
   rw[e]
   exact⟨h2,Y,Z⟩
  ·have e:d7 lt (kas_place p k (f+1) l r)=d7 lt (if lt (ga p k) (ga p ((l+r)/2))=true then kas_place p k f l ((l+r)/2)else kas_place p k f ((l+r)/2+1) r):=by
    conv=>lhs;unfold kas_place
    rw[if_neg z]
    rfl
   rw[e]
   have V:l<=(l+r)/2:=by omega
   have S:(l+r)/2<r:=by omega
   by_cases c:lt (ga p k) (ga p ((l+r)/2))=true
   ·rw[if_pos c]
    refine zm W R f l ((l+r)/2) V (by omega) (by omega) Y λi hi U=>?_
    by_cases y:i=(l+r)/2
    ·rw[y];exact c
    ·rcases R.asc ((l+r)/2) i (by omega) U with q|⟨q,_⟩
     ·exact W.tr _ _ _ c q
     ·rcases W.nt _ (ga p i) _ c with w|w
      ·exact w
      ·rw[w]at q;cases q
   ·rw[if_neg c]
    have c:lt (ga p k) (ga p ((l+r)/2))=false:=by simpa using c
    refine zm W R f ((l+r)/2+1) r (by omega) h2 (by omega) (λi hi=>?_) Z
    by_cases y:i=(l+r)/2
    ·rw[y];exact c
    ·cases q:lt (ga p k) (ga p i)with
     |false=>rfl
     |true=>
      rcases R.asc i ((l+r)/2) (by omega) (by omega)with w|⟨w,_⟩
      ·rw[W.tr _ _ _ q w]at c;cases c
      ·rcases W.nt _ (ga p ((l+r)/2)) _ q with X|X
       ·rw[X]at c;cases c
       ·rw[X]at w;cases w
theorem Yl{k l:Nat}(B:k<p.size)(D:l<=k)(i:Nat):ga (bubble p k (k-l)) i=if i=l then ga p k else if l<i/\i<=k then ga p (i-1)else ga p i:=by
 have e:=getElem?_bubble B (k-l) (by omega) i
 rw[show k-(k-l)=l by omega]at e
 have g:∀(q:Array Nat)(i:Nat),ga q i=(q[i]?).getD 0:=λq i=>by simp[ga,g_]
 rw[g,e,g p k,g p (i-1),g p i]
 by_cases Y:i=l
 ·rw[if_pos Y,if_pos Y]
 ·rw[if_neg Y,if_neg Y]
  by_cases Z:l<i/\i<=k
  ·rw[if_pos Z,if_pos Z]
  ·rw[if_neg Z,if_neg Z]
theorem Qj(W:Weak lt)(hs:p.size=n){k l:Nat}(R:Run lt n p k)(J:k<n)(D:l<=k)(h1:∀i,i<l->lt (ga p k) (ga p i)=false)(h2:∀i,l<=i->i<k->lt (ga p k) (ga p i)=true):Run lt n (bubble p k (k-l)) (k+1):=by
 have T:=R.rest k (aL _) J
 have B:=Yl (p:=p) (k:=k) (by omega) D
 refine⟨λi j Z S=>?_,λm hm hn=>?_,λm hm=>?_⟩
 ·rw[B,B]
  by_cases U:i=l
  ·rw[if_pos U,if_neg (by omega),if_pos (by omega)]
   exact .inl (h2 (j-1) (by omega) (by omega))
  ·rw[if_neg U]
   by_cases V:j=l
   ·rw[if_pos V,if_neg (by omega)]
    exact .inr ⟨h1 i (by omega),by rw[T];exact R.low i (by omega)⟩
   ·rw[if_neg V]
    by_cases X:l<i/\i<=k
    ·rw[if_pos X,if_pos (by omega)]
     exact R.asc _ _ (by omega) (by omega)
    ·rw[if_neg X]
     by_cases Y:l<j/\j<=k
     ·rw[if_pos Y]
      exact R.asc _ _ (by omega) (by omega)
     ·rw[if_neg Y]
      exact R.asc _ _ Z (by omega)
 ·rw[B,if_neg (by omega),if_neg (by omega)]
  exact R.rest m (by omega) hn
 ·rw[B]
  split
  ·omega
  ·split
   ·have:=R.low (m-1) (by omega);omega
   ·have:=R.low m (by omega);omega
theorem Qk(W:Weak lt):∀(f:Nat)(p:Array Nat)(k:Nat),p.size=n->Run lt n p k->k+f=n->Run lt n (d7 lt (kas_bin f p k)) n
 |0,p,k,hs,R,h=>by
  have:k=n:=by omega
  subst this
  exact R
 |f+1,p,k,hs,R,h=>by
  have e:d7 lt (kas_bin (f+1) p k)=d7 lt (kas_bin f (bubble p k (k-d7 lt (kas_place p k k 0 k))) (k+1)):=n6 _ _
  rw[e]
  obtain⟨q1,q2,Z⟩:=zm W R k 0 k (cZ _) (aL _) (by omega) (λi hi=>by omega) (λi h1 h2=>by omega)
  exact Qk W f _ (k+1) (by rw[bubble_size];exact hs) (Qj W hs R (by omega) q1 q2 Z) (by omega)
end
end XS
namespace XS
open PySem PySem.W PyProof.Rows
section
variable{lt:Nat->Nat->Bool}{p p':Array Nat}{n a q:Nat}
theorem Rk.nr(W:Weak lt){a b:Nat}(h:Rk lt a b):lt b a=false:=by
 rcases h with h|⟨h,_⟩
 ·cases z:lt b a with
  |false=>rfl
  |true=>have:=W.tr _ _ _ h z;rw[W.irr]at this;cases this
 ·exact h
theorem Ie(B:j<=p.size)(k:Nat):ga (kas_rev p i j) k=if i<=k/\k<j then ga p (i+j-1-k)else ga p k:=by
 have e:=getElem?_mirror_all (i:=i) B k
 have g:∀(q:Array Nat)(i:Nat),ga q i=(q[i]?).getD 0:=λq i=>by simp[ga,g_]
 rw[g,g p (i+j-1-k),g p k]
 unfold kas_rev
 rw[e]
 by_cases c:i<=k/\k<j
 ·rw[if_pos c,if_pos c]
 ·rw[if_neg c,if_neg c]
theorem zq(i j:Nat):(kas_rev p i j).size=p.size:=mirror_size _ _ _ _
structure Dn(lt:Nat->Nat->Bool)(n:Nat)(p:Array Nat)(a q:Nat):Prop where
 le:q+1<=a
 desc:∀i j,i<j->j<a-(q+1)->Rk lt (ga p j) (ga p i)
 strict:∀i j,i<a-(q+1)->a-(q+1)<=j->j<a->lt (ga p j) (ga p i)=true
 run:∀i j,a-(q+1)<=i->i<j->j<a->lt (ga p i) (ga p j)=false/\lt (ga p j) (ga p i)=false/\ga p i<ga p j
 rest:∀k,a<=k->k<n->ga p k=k
 low:∀k,k<a->ga p k<a
structure Desc(lt:Nat->Nat->Bool)(n:Nat)(p:Array Nat)(a:Nat):Prop where
 desc:∀i j,i<j->j<a->Rk lt (ga p j) (ga p i)
 rest:∀k,a<=k->k<n->ga p k=k
 low:∀k,k<a->ga p k<a
theorem Dn.turn(D:Dn lt n p a q)(h:∀k,ga p' k=if a-(q+1)<=k/\k<a then ga p (a-(q+1)+a-1-k)else ga p k):Desc lt n p' a:=by
 have l:=D.le
 refine⟨λi j Y X=>?_,λk Z hn=>?_,λk Z=>?_⟩
 ·by_cases c:j<a-(q+1)
  ·rw[h,h,if_neg (by omega),if_neg (by omega)]
   exact D.desc i j Y c
  ·rw[h j,if_pos (by omega),h i]
   by_cases e:i<a-(q+1)
   ·rw[if_neg (by omega)]
    exact .inl (D.strict _ _ e (by omega) (by omega))
   ·rw[if_pos (by omega)]
    obtain⟨x,y,z⟩:=D.run (a-(q+1)+a-1-j) (a-(q+1)+a-1-i) (by omega) (by omega) (by omega)
    exact .inr ⟨y,z⟩
 ·rw[h,if_neg (by omega)];exact D.rest k Z hn
 ·rw[h]
  split
  ·exact D.low _ (by omega)
  ·exact D.low _ Z
theorem Desc.up(D:Desc lt n p a)(ha:a<n)(h:∀i,i<a->lt (ga p a) (ga p i)=true):Dn lt n p (a+1) 0:=by
 refine⟨by omega,λi j Z X=>D.desc i j Z (by omega),λi j hi h1 h2=>?_,λi j h1 h2 W=>by omega,λk Y hn=>D.rest k (by omega) hn,λk Y=>?_⟩
 ·have:j=a:=by omega
  subst this
  exact h i (by omega)
 ·by_cases z:k<a
  ·have:=D.low k z;omega
  ·have:k=a:=by omega
   subst this
   rw[D.rest k (aL _) ha];omega
noncomputable def turned(p:Array Nat)(a q:Nat):Array Nat:=if q>0 then kas_rev p (a-(q+1)) a else p
theorem tK(hs:p.size=n)(ha:a<=n)(l:q+1<=a)(k:Nat):ga (turned p a q) k=if a-(q+1)<=k/\k<a then ga p (a-(q+1)+a-1-k)else ga p k:=by
 unfold turned
 by_cases c:q>0
 ·rw[if_pos c];exact Ie (by omega) k
 ·rw[if_neg c]
  by_cases e:a-(q+1)<=k/\k<a
  ·rw[if_pos e,show a-(q+1)+a-1-k=k by omega]
  ·rw[if_neg e]
theorem wO:(turned p a q).size=p.size:=by
 unfold turned
 split
 ·exact zq _ _
 ·rfl
theorem Dn.below(W:Weak lt)(D:Dn lt n p a q)(hs:p.size=n)(ha:a<n)(h:lt (ga p a) (ga p (a-1))=true)(i:Nat)(hi:i<a):lt (ga (turned p a q) a) (ga (turned p a q) i)=true:=by
 have l:=D.le
 have all:∀i,i<a->lt (ga p a) (ga p i)=true:=λi hi=>by
  by_cases c:i<a-(q+1)
  ·exact W.tr _ _ _ h (D.strict i (a-1) c (by omega) (by omega))
  ·by_cases e:i=a-1
   ·rw[e];exact h
   ·rcases W.nt _ (ga p i) _ h with w|w
    ·exact w
    ·rw[(D.run i (a-1) (by omega) (by omega) (by omega)).1]at w;cases w
 rw[tK hs (by omega) l,if_neg (by omega),tK hs (by omega) l]
 split
 ·exact all _ (by omega)
 ·exact all _ hi
theorem Dn.same(W:Weak lt)(D:Dn lt n p a q)(ha:a<n)(h1:lt (ga p a) (ga p (a-1))=false)(h2:lt (ga p (a-1)) (ga p a)=false):Dn lt n p (a+1) (q+1):=by
 have l:=D.le
 have U:=D.rest a (aL _) ha
 refine⟨by omega,λi j Z V=>D.desc i j Z (by omega),λi j hi q1 q2=>?_,λi j q1 q2 X=>?_,λk Y hn=>D.rest k (by omega) hn,λk Y=>?_⟩
 ·by_cases z:j<a
  ·exact D.strict i j (by omega) (by omega) z
  ·have:j=a:=by omega
   subst this
   rcases W.nt _ (ga p j) _ (D.strict i (j-1) (by omega) (by omega) (by omega))with w|w
   ·rw[w]at h2;cases h2
   ·exact w
 ·by_cases z:j<a
  ·exact D.run i j (by omega) q2 z
  ·have:j=a:=by omega
   subst this
   have lo:=D.low i (by omega)
   by_cases e:i=j-1
   ·subst e
    exact⟨h2,h1,by omega⟩
   ·obtain⟨x,y,_⟩:=D.run i (j-1) (by omega) (by omega) (by omega)
    exact⟨W.not x h2,W.not h1 y,by omega⟩
 ·by_cases z:k<a
  ·have:=D.low k z;omega
  ·have:k=a:=by omega
   subst this
   omega
theorem Dt(W:Weak lt):∀(f:Nat)(p:Array Nat)(a q:Nat),p.size=n->Dn lt n p a q->a+f<=n ->
 (d7 lt (kas_desc f p a q)).1.size=n/\Dn lt n (d7 lt (kas_desc f p a q)).1 (d7 lt (kas_desc f p a q)).2.1 (d7 lt (kas_desc f p a q)).2.2/\(d7 lt (kas_desc f p a q)).2.1<=n
 |0,p,a,q,hs,D,h=>⟨hs,D,h⟩
 |f+1,p,a,q,hs,D,h=>by
  have e:d7 lt (kas_desc (f+1) p a q)=d7 lt (if lt (ga p a) (ga p (a-1))=true then(if q>0 then kas_desc f (kas_rev p (a-(q+1)) a) (a+1) 0 else kas_desc f p (a+1) 0)else .ask (ga p (a-1)) (ga p a) λd=>if d=true then .ret (p,a,q)else kas_desc f p (a+1) (q+1)):=rfl
  rw[e]
  by_cases c:lt (ga p a) (ga p (a-1))=true
  ·rw[if_pos c]
   have Y:(if q>0 then kas_desc f (kas_rev p (a-(q+1)) a) (a+1) 0 else kas_desc f p (a+1) 0)=kas_desc f (turned p a q) (a+1) 0:=by
    unfold turned
    split<;>rfl
   rw[Y]
   exact Dt W f (turned p a q) (a+1) 0 (by rw[wO];exact hs) ((D.turn (tK hs (by omega) D.le)).up (by omega) (D.below W hs (by omega) c)) (by omega)
  ·rw[if_neg c]
   have Z:d7 lt (.ask (ga p (a-1)) (ga p a) λd=>if d=true then .ret (p,a,q)else kas_desc f p (a+1) (q+1))=d7 lt (if lt (ga p (a-1)) (ga p a)=true then .ret (p,a,q)else kas_desc f p (a+1) (q+1)):=rfl
   rw[Z]
   by_cases d:lt (ga p (a-1)) (ga p a)=true
   ·rw[if_pos d]
    exact⟨hs,D,by show a<=n;omega⟩
   ·rw[if_neg d]
    exact Dt W f p (a+1) (q+1) hs (D.same W (by omega) (by simpa using c) (by simpa using d)) (by omega)
theorem Ul(W:Weak lt)(hs:p.size=n)(D:Desc lt n p a)(h1:1<=a)(ha:a<=n):
 (d7 lt (kas_tail3 a n p)).2.size=n/\Run lt n (d7 lt (kas_tail3 a n p)).2 (d7 lt (kas_tail3 a n p)).1/\1<=(d7 lt (kas_tail3 a n p)).1/\(d7 lt (kas_tail3 a n p)).1<=n:=by
 have e:d7 lt (kas_tail3 a n p)=(d7 lt (kas_asc (kas_rev p 0 a) (n-a) a),kas_rev p 0 a):=n6 _ _
 rw[e]
 have B:=Ie (p:=p) (i:=0) (j:=a) (by omega)
 have R:Run lt n (kas_rev p 0 a) a:=by
  refine⟨λi j Y V=>?_,λk Z hn=>?_,λk Z=>?_⟩
  ·rw[B,B,if_pos (by omega),if_pos (by omega)]
   exact D.desc _ _ (by omega) (by omega)
  ·rw[B,if_neg (by omega)];exact D.rest k Z hn
  ·rw[B,if_pos (by omega)];exact D.low _ (by omega)
 obtain⟨q1,q2,X,_⟩:=Ia W (n-a) a R h1 (by omega)
 exact⟨by rw[zq];exact hs,q1,by show 1<=d7 lt _;omega,by show d7 lt _<=n;omega⟩
theorem JL(W:Weak lt)(hs:p.size=n)(D:Dn lt n p (a+1) 0)(ha:a<n):
 (d7 lt (kas_descPart a n p)).2.size=n/\Run lt n (d7 lt (kas_descPart a n p)).2 (d7 lt (kas_descPart a n p)).1/\1<=(d7 lt (kas_descPart a n p)).1/\(d7 lt (kas_descPart a n p)).1<=n:=by
 obtain⟨q1,q2,Z⟩:=Dt W (n-(a+1)) p (a+1) 0 hs D (by omega)
 have e:d7 lt (kas_descPart a n p)=d7 lt (kas_tail3 (d7 lt (kas_desc (n-(a+1)) p (a+1) 0)).2.1 n (turned (d7 lt (kas_desc (n-(a+1)) p (a+1) 0)).1 (d7 lt (kas_desc (n-(a+1)) p (a+1) 0)).2.1 (d7 lt (kas_desc (n-(a+1)) p (a+1) 0)).2.2)):=by
  refine(n6 _ _).trans ?_
  unfold turned
  split<;>rfl
 rw[e]
 have l:=q2.le
 exact Ul W (by rw[wO];exact q1) (q2.turn (tK q1 Z l)) (by omega) Z
theorem Ql(W:Weak lt)(hs:p.size=n)(hn:1<=n)(R:Run lt n p 1):
 (d7 lt (kas_count n p)).2.size=n/\Run lt n (d7 lt (kas_count n p)).2 (d7 lt (kas_count n p)).1/\1<=(d7 lt (kas_count n p)).1/\(d7 lt (kas_count n p)).1<=n:=by
 obtain⟨q1,q2,X,Z⟩:=Ia W (n-1) 1 R (aL _) (by omega)
 have e:d7 lt (kas_count n p)=_:=n6 _ _
 rw[e]
 clear e
 generalize d7 lt (kas_asc p (n-1) 1)=m at q1 q2 X Z ⊢
 by_cases c:(m==n)=true
 ·rw[if_pos c];exact⟨hs,q1,q2,by show m<=n;omega⟩
 ·rw[if_neg c]
  have c:m<n:=by
   have:¬m=n:=by simpa using c
   omega
  have U:=Z (by omega)
  have st:∀p',(∀k,ga p' k=if 0<=k/\k<m then ga p (0+m-1-k)else ga p k)->lt (ga p 0) (ga p (m-1))=false->Dn lt n p' (m+1) 0:=λp' B z=>by
   have D:Desc lt n p' m:=by
    refine⟨λi j V T=>?_,λk Y hn=>?_,λk Y=>?_⟩
    ·rw[B,B,if_pos (by omega),if_pos (by omega)]
     exact q1.asc _ _ (by omega) (by omega)
    ·rw[B,if_neg (by omega)];exact q1.rest k Y hn
    ·rw[B,if_pos (by omega)];exact q1.low _ (by omega)
   have all:∀i,i<m->lt (ga p m) (ga p i)=true:=λi hi=>by
    rcases W.nt _ (ga p i) _ U with w|w
    ·exact w
    ·by_cases y:i=0
     ·subst y;rw[z]at w;cases w
     ·rcases W.nt _ (ga p 0) _ w with v|v
      ·rw[(q1.asc 0 i (by omega) hi).nr W]at v;cases v
      ·rw[z]at v;cases v
   refine D.up c λi hi=>?_
   rw[B,if_neg (by omega),B,if_pos (by omega)]
   exact all _ (by omega)
  by_cases g:m>1
  ·rw[if_pos g]
   show _/\Run lt n (d7 lt (if lt (ga p 0) (ga p (m-1))=true then .ret (m,p)else kas_descPart m n (kas_rev p 0 m))).2 (d7 lt (if lt (ga p 0) (ga p (m-1))=true then .ret (m,p)else kas_descPart m n (kas_rev p 0 m))).1/\_
   by_cases z:lt (ga p 0) (ga p (m-1))=true
   ·have e:d7 lt (.ask (ga p 0) (ga p (m-1)) λc=>if c=true then .ret (m,p)else kas_descPart m n (kas_rev p 0 m))=(m,p):=by
     show d7 lt (if lt (ga p 0) (ga p (m-1))=true then .ret (m,p)else kas_descPart m n (kas_rev p 0 m))=_
     rw[if_pos z];rfl
    rw[e,if_pos z]
    exact⟨hs,q1,q2,by show m<=n;omega⟩
   ·have e:d7 lt (.ask (ga p 0) (ga p (m-1)) λc=>if c=true then .ret (m,p)else kas_descPart m n (kas_rev p 0 m))=d7 lt (kas_descPart m n (kas_rev p 0 m)):=by
     show d7 lt (if lt (ga p 0) (ga p (m-1))=true then .ret (m,p)else kas_descPart m n (kas_rev p 0 m))=_
     rw[if_neg z]
    rw[e,if_neg z]
    exact JL W (by rw[zq];exact hs) (st _ (Ie (by omega)) (by simpa using z)) c
  ·rw[if_neg g]
   have:m=1:=by omega
   subst this
   refine JL W hs (st p (λk=>?_) (W.irr _)) c
   split
   ·rw[show 0+1-1-k=k by omega]
   ·rfl
theorem Um(W:Weak lt)(hn:1<=n):Run lt n (d7 lt (kas_sort n)) n:=by
 have Y:∀k,k<n->ga (jg (aR n)) k=k:=λk Z=>by
  simp[ga,g_,Z]
 obtain⟨q1,q2,V,X⟩:=Ql (p:=jg (aR n)) W (by simp) hn ⟨λi j h1 h2=>by omega,λk Z h=>Y k h,λk Z=>by rw[Y k (by omega)];exact Z⟩
 have e:d7 lt (kas_sort n)=_:=n6 _ _
 rw[e]
 clear e
 generalize d7 lt (kas_count n (jg (aR n)))=r at q1 q2 V X ⊢
 by_cases c:r.1<n
 ·rw[if_pos c,show max r.1 1=r.1 by omega]
  exact Qk W _ _ _ q1 q2 (by omega)
 ·rw[if_neg c]
  have:r.1=n:=by omega
  rw[<-this]
  rw[<-this]at q2
  exact q2
theorem qY(W:Weak lt)(hn:1<=n):(nJ n lt).Pairwise (Rk lt):=by
 have R:=Um W hn
 have z:(nJ n lt).length=n:=by
  have:=(iY (n:=n) (by omega) lt).length_eq
  simpa using this
 rw[cM]
 intro i j hi Y Z
 have:=R.asc i j Z (by omega)
 have g:∀k (h:k<(nJ n lt).length),ga (d7 lt (kas_sort n)) k=(nJ n lt)[k]:=λk h=>by
  unfold nJ at h ⊢
  have h':k<(d7 lt (kas_sort n)).size:=by simpa using h
  simp[ga,g_,h']
 rw[g i hi,g j Y]at this
 exact this
end
end XS
namespace XS
theorem Qm{k:Nat->Int×Int}:Weak λi j=>z9 (k i) (k j):=by
 refine⟨λa=>?_,λa b c h1 h2=>?_,λa b c h=>?_⟩
 ·simp[z9]
 ·revert h1 h2
  simp only[z9]
  generalize (k a).1=U
  generalize (k a).2=V
  generalize (k b).1=W
  generalize (k b).2=X
  generalize (k c).1=Y
  generalize (k c).2=Z
  split<;>split<;>split<;>simp only[decide_eq_true_eq]<;>omega
 ·revert h
  simp only[z9]
  generalize (k a).1=U
  generalize (k a).2=V
  generalize (k b).1=W
  generalize (k b).2=X
  generalize (k c).1=Y
  generalize (k c).2=Z
  split<;>split<;>split<;>simp only[decide_eq_true_eq]<;>omega
theorem Qn(B:List (Int×Int)):Weak (ltP B):=Qm (k:=λi=>B.getD i (0,0))
theorem vC{k:Nat->Int}:Weak λi j=>decide (k i<k j):=by
 refine⟨λa=>?_,λa b c h1 h2=>?_,λa b c h=>?_⟩
 ·simp
 ·simp only[decide_eq_true_eq]at *;omega
 ·simp only[decide_eq_true_eq]at *;omega
theorem Lh{lt:Nat->Nat->Bool}(W:Weak lt):∀{l m:List Nat},l.Perm m->l.Pairwise (Rk lt)->m.Pairwise (Rk lt)->l=m:=by
 intro l m h h1 h2
 refine List.Perm.eq_of_pairwise (le:=Rk lt) (λa b _ _ x y=>?_) h1 h2 h
 have Y:=x.nr W
 have Z:=y.nr W
 rcases x with x|⟨_,x⟩
 ·rw[x]at Z;cases Z
 ·rcases y with y|⟨_,y⟩
  ·rw[y]at Y;cases Y
  ·omega
theorem zu{lt:Nat->Nat->Bool}(W:Weak lt)(hn:1<=n){m:List Nat}(h:m.Perm (aR n))(h2:m.Pairwise (Rk lt)):nJ n lt=m:=
 Lh W ((iY (by omega) lt).trans h.symm) (qY W hn) h2
end XS
namespace Com
open PySem D3 My XS
theorem ab2{k:Nat->Int}(h:Rk (λi j=>decide (k i<k j)) i j):k i<=k j:=by
 rcases h with z|⟨z,_⟩
 ·have z:=of_decide_eq_true z;omega
 ·have z:=of_decide_eq_false z;omega
end Com
namespace Com
open PySem D3 My
noncomputable def r6(x:Int):Prop:=0<=x/\x<1000000
noncomputable abbrev Wi:=Int×Int×Int
noncomputable def wiD(w:Wi):D:=.tuple [.int w.1,.int w.2.1,.int w.2.2]
end Com
namespace Com
open PySem D3 My
theorem m9{α:Type}(f:α->D){l:List α}(x:α){i:Int}(B:0<=i)(h1:i<l.length):pAt (l.map f) i=some (f (l.getD i.toNat x)):=by
 have Z:i.toNat<l.length:=by omega
 obtain⟨k,rfl⟩:∃k:Nat,i=(k:Int):=⟨i.toNat,by omega⟩
 rw[Dq,bf,aK]
 simp only[fO]at Z ⊢
 rw[aF Z]
 rfl
end Com
namespace Com
open PySem D3 My
theorem Li(fs:List Int):pL (fs.map .int)=(aR fs.length).map λk:Nat=>PyData.tuple [.int (k:Int),.int (fs.getD k 0)]:=by
 unfold pL
 apply eX
 intro i
 rw[fH,bf,bf]
 by_cases h:i<fs.length
 ·have e:fs.getD i 0=fs[i]:=by rw[aK,aF h];rfl
  rw[dO h,aF h,j9,j9,j9,e]
 ·rw[bH (by simpa using h),bH (by simpa using h)]
  rfl
end Com
namespace Com
open PySem D3 My
theorem vD(P:Nat->Bool):∀n,(∃m,m<n/\P m=true/\∀i,i<m->P i=false)\/∀i,i<n->P i=false
 |0=>.inr λi h=>by omega
 |n+1=>by
  rcases vD P n with⟨m,h1,h2,Z⟩|h
  ·exact .inl ⟨m,by omega,h2,Z⟩
  ·cases c:P n with
   |true=>exact .inl ⟨n,by omega,c,h⟩
   |false=>
    refine .inr λi hi=>?_
    by_cases e:i=n
    ·rw[e];exact c
    ·exact h i (by omega)
end Com
variable{row held:List Int}
namespace Sd
noncomputable abbrev Gp:=Int×Int×Nat
noncomputable abbrev Pl:=Gp×Nat
noncomputable def gok(g:Gp):Prop:=0<=g.1/\g.1<g.2.1/\1<=g.2.2
noncomputable def inn(p:Pl)(r:Nat):Prop:=p.2<=r/\r<p.2+p.1.2.2
noncomputable def fits(row:List Int)(g:Gp)(s:Nat):Prop:=s+g.2.2<=row.length/\∀r,s<=r->r<s+g.2.2->row.getD r 0<=g.1
noncomputable def cell(g:Gp)(s r:Nat)(e:Int):Int:=if s<=r/\r<s+g.2.2 then g.2.1 else if e<=g.1 then 0 else e
noncomputable def put(row:List Int)(g:Gp)(s:Nat):List Int:=row.mapIdx (cell g s)
theorem xV(row:List Int)(g:Gp)(s:Nat):(put row g s).length=row.length:=by unfold put;rw[List.length_mapIdx]
theorem Uo{g:Gp}{s r:Nat}(h:r<row.length):(put row g s).getD r 0=cell g s r (row.getD r 0):=by
 unfold put
 rw[aK,fH,aK,aF h]
 rfl
noncomputable def Run:List Int->List Pl->List Int->Prop
 |row,[],out=>out=row
 |row,p::ps,out=>fits row p.1 p.2/\Run (put row p.1 p.2) ps out
noncomputable def Jv(held:List Int)(done:List Pl)(row:List Int):Prop:=row.length=held.length/\∀r,r<held.length->∀x:Int,0<=x->(∀p∈done,p.1.1<=x) ->
 (row.getD r 0<=x<->held.getD r 0<=x/\∀p∈done,inn p r->p.1.2.1<=x)
theorem Jv.nil(held:List Int):Jv held [] held:=⟨rfl,λr _ x _ _=>⟨λh=>⟨h,λp Z=>by cases Z⟩,λh=>h.1⟩⟩
theorem Jv.step{done:List Pl}{p:Pl}(h:Jv held done row)(ok:gok p.1)(asc:∀q∈done,q.1.1<=p.1.1)(ft:fits row p.1 p.2):Jv held (done++[p]) (put row p.1 p.2):=by
 obtain⟨T,W⟩:=h
 obtain⟨U,R,_⟩:=ok
 refine⟨(xV _ _ _).trans T,λr X x V Y=>?_⟩
 have S:p.1.1<=x:=Y p (bJ _ (aO.mpr rfl))
 have xd:∀q∈done,q.1.1<=x:=λq Z=>Y q (bY _ Z)
 have j1:=W r X x V xd
 rw[Uo (by omega)]
 have all:(∀q∈done++[p],inn q r->q.1.2.1<=x)<->(∀q∈done,inn q r->q.1.2.1<=x)/\(inn p r->p.1.2.1<=x):=by
  constructor
  ·exact λz=>⟨λq Z=>z q (bY _ Z),z p (bJ _ (aO.mpr rfl))⟩
  ·rintro⟨z1,z2⟩ q Z
   rcases cD.mp Z with k|k
   ·exact z1 q k
   ·rw[aO.mp k];exact z2
 rw[all]
 unfold cell
 by_cases c:p.2<=r/\r<p.2+p.1.2.2
 ·rw[if_pos c]
  have f1:=ft.2 r c.1 c.2
  have j2:=(W r X p.1.1 U asc).mp f1
  constructor
  ·exact λz=>⟨by have:=j2.1;omega,λq Z hi=>by have:=j2.2 q Z hi;omega,λ_=>z⟩
  ·exact λz=>z.2.2 c
 ·rw[if_neg c]
  have e:((if row.getD r 0<=p.1.1 then 0 else row.getD r 0)<=x)<->row.getD r 0<=x:=by split<;>omega
  rw[e,j1]
  exact⟨λz=>⟨z.1,z.2,λy=>absurd y c⟩,λz=>⟨z.1,z.2.1⟩⟩
noncomputable def apart(p q:Pl):Prop:=p.1.2.1<=q.1.1\/q.1.2.1<=p.1.1\/p.2+p.1.2.2<=q.2\/q.2+q.1.2.2<=p.2
noncomputable def home(held:List Int)(p:Pl):Prop:=fits held p.1 p.2
theorem Qo{done:List Pl}{p:Pl}(h:Jv held done row)(ok:gok p.1)(B:∀q∈done,gok q.1/\q.1.1<=p.1.1)(hd:∀q∈done,q.2+q.1.2.2<=held.length):
 fits row p.1 p.2<->home held p/\∀q∈done,apart q p:=by
 obtain⟨T,S⟩:=h
 have j:=λr V=>S r V p.1.1 ok.1 λq Z=>(B q Z).2
 unfold home fits
 rw[T]
 constructor
 ·rintro⟨f1,f2⟩
  refine⟨⟨f1,λr X Y=>((j r (by omega)).mp (f2 r X Y)).1⟩,λq Z=>?_⟩
  unfold apart
  apply Classical.byContradiction
  intro W
  have W:¬q.1.2.1<=p.1.1/\¬p.1.2.1<=q.1.1/\¬q.2+q.1.2.2<=p.2/\¬p.2+p.1.2.2<=q.2:=by omega
  have s1:=ok.2.2
  have s2:=(B q Z).1.2.2
  by_cases k:q.2<=p.2
  ·have:=((j p.2 (by omega)).mp (f2 p.2 (aL _) (by omega))).2 q Z ⟨k,by omega⟩
   omega
  ·have U:=hd q Z
   have:=((j q.2 (by omega)).mp (f2 q.2 (by omega) (by omega))).2 q Z ⟨aL _,by omega⟩
   omega
 ·rintro⟨⟨f1,f2⟩,R⟩
  refine⟨f1,λr X Y=>(j r (by omega)).mpr ⟨f2 r X Y,λq Z hi=>?_⟩⟩
  have a:=R q Z
  have o:=B q Z
  have P:=ok.2.1
  have Q:=o.1.2.1
  unfold apart at a
  unfold inn at hi
  omega
noncomputable def Sit(held:List Int)(ps:List Pl):Prop:=(∀p∈ps,home held p)/\ps.Pairwise apart
theorem uJ:∀{ps done:List Pl}{row:List Int},Jv held done row->(∀p∈done,home held p)->(∀p∈done++ps,gok p.1)->(done++ps).Pairwise (λp q=>p.1.1<=q.1.1) ->
 ((∃out,Run row ps out/\Jv held (done++ps) out)<->(∀p∈ps,home held p)/\(∀q∈done,∀p∈ps,apart q p)/\ps.Pairwise apart)
 |[],done,row,j,_,_,_=>by
  constructor
  ·exact λ_=>⟨λp U=>(by cases U),λq _ p U=>(by cases U),.nil⟩
  ·exact λ_=>⟨row,rfl,by rw[cT];exact j⟩
 |p::ps,done,row,j,hd,ok,asc=>by
  have Y:=ok p (bJ _ aG)
  have T:∀q∈done,q.1.1<=p.1.1:=λq Z=>(aP.mp asc).2.2 q Z p aG
  have fi:=Qo j Y (λq Z=>⟨ok q (bY _ Z),T q Z⟩) (λq Z=>(hd q Z).1)
  have e:done++p::ps=(done++[p])++ps:=by rw[aV];rfl
  constructor
  ·rintro⟨out,⟨f,r⟩,V⟩
   obtain⟨f1,f2⟩:=fi.mp f
   have W:=(uJ (ps:=ps) (done:=done++[p]) (j.step Y T f) (λq Z=>by
    rcases cD.mp Z with k|k
    ·exact hd q k
    ·rw[aO.mp k];exact f1) (e▸ok) (e▸asc)).mp ⟨out,r,e▸V⟩
   refine⟨λq Z=>?_,λq Z x X=>?_,bO.mpr ⟨λx X=>W.2.1 p (bJ _ (aO.mpr rfl)) x X,W.2.2⟩⟩
   ·rcases aU.mp Z with rfl|k
    ·exact f1
    ·exact W.1 q k
   ·rcases aU.mp X with rfl|k
    ·exact f2 q Z
    ·exact W.2.1 q (bY _ Z) x k
  ·rintro⟨h1,h2,Q⟩
   obtain⟨R,S⟩:=bO.mp Q
   have f:=fi.mpr ⟨h1 p aG,λq Z=>h2 q Z p aG⟩
   obtain⟨out,r,V⟩:=(uJ (ps:=ps) (done:=done++[p]) (j.step Y T f) (λq Z=>by
    rcases cD.mp Z with k|k
    ·exact hd q k
    ·rw[aO.mp k];exact h1 p aG) (e▸ok) (e▸asc)).mpr ⟨λq Z=>h1 q (aJ _ Z),λq Z x X=>by
     rcases cD.mp Z with k|k
     ·exact h2 q k x (aJ _ X)
     ·rw[aO.mp k];exact R x X,S⟩
   exact⟨out,⟨f,r⟩,e▸V⟩
theorem JM{ps:List Pl}(ok:∀p∈ps,gok p.1)(asc:ps.Pairwise λp q=>p.1.1<=q.1.1):(∃out,Run held ps out)<->Sit held ps:=by
 have h:=uJ (ps:=ps) (done:=[]) (Jv.nil held) (λp V=>by cases V) (by rw[dM];exact ok) (by rw[dM];exact asc)
 constructor
 ·rintro⟨out,r⟩
  have X:Jv held ([]++ps) out:=by
   have go:∀{ps done:List Pl}{row out:List Int},Jv held done row->(∀p∈done++ps,gok p.1)->(done++ps).Pairwise (λp q=>p.1.1<=q.1.1)->Run row ps out->Jv held (done++ps) out:=by
    intro ps
    induction ps with
    |nil=>
     intro done row out j _ _ r
     have:out=row:=r
     rw[cT,this]
     exact j
    |cons p ps W=>
     intro done row out j ok asc r
     have e:done++p::ps=(done++[p])++ps:=by rw[aV];rfl
     have U:∀q∈done,q.1.1<=p.1.1:=λq Z=>(aP.mp asc).2.2 q Z p aG
     rw[e]
     exact W (j.step (ok p (bJ _ aG)) U r.1) (e▸ok) (e▸asc) r.2
   exact go (Jv.nil held) (by rw[dM];exact ok) (by rw[dM];exact asc) r
  obtain⟨h1,_,Y⟩:=h.mp ⟨out,r,X⟩
  exact⟨h1,Y⟩
 ·rintro⟨h1,Y⟩
  obtain⟨out,r,_⟩:=h.mpr ⟨h1,(λq Z=>by cases Z),Y⟩
  exact⟨out,r⟩
end Sd
namespace K79
open PySem D3
noncomputable abbrev iu:List D->Option D:=Com.iu
noncomputable abbrev fQ:List D->Option D:=Com.fQ
noncomputable def m_:List D->Option D:=fnD 1 0 (dG (dCall RM (aH (iB (vY (ao 0)) (gNl 0) (m6) (dCall iu (aH (ao 0) (bw))) 1 []) (bw))))
noncomputable def j8:List D->Option D:=fnD 2 0 (dG (zY (dUn (gIs "tuple") (ao 0)) (zY (dOp gEq (dCall iz (aH (ao 0) (bw))) (ao 1)) (dCall m_ (aH (ao 0) (bw))))))
noncomputable def pX:List D->Option D:=fnD 1 0 (dG (dCall j8 (aH (ao 0) (aH (dC (.int 2)) (bw)))))
noncomputable def lU:List D->Option D:=fnD 1 0 (dG (zY (dCall pX (aH (ao 0) (bw))) (xH gLe gLt gLe (dC (.int 0)) (dOp gIx (ao 0) (dC (.int 0))) (dOp gIx (ao 0) (dC (.int 1))) (dC (.int 400)))))
noncomputable abbrev jJ:List D->Option D:=Com.jJ
noncomputable def mQ:List D->Option D:=fnD 1 0 (bU (sIf (D3.tOr (D3.jc (bL (dUn (gIs "tuple") (ao 0)))) (bL (dOp gNe (dCall iz (aH (ao 0) (bw))) (dC (.int 3))))) (dG (dC (.bool false))) (dX))
 (dG (zY (dCall lU (aH (dCall jJ (aH (ao 0) (bw))) (bw))) (dCall fQ (aH (dOp gIx (ao 0) (dC (.int 2))) (aH (dC (.int 1)) (aH (dC (.int 6)) (bw))))))))
noncomputable def jL:List D->Option D:=fnD 1 2 (lY (I_ (ao 0)) (gTn 2 (cV (gNl 1) (cV (gNl 2) (jZ)))) (sIf (D3.jc (bL (dCall mQ (aH (ao 2) (bw))))) ((λ_=>none)) (dX)))
noncomputable def jP:List D->Option D:=fnD 1 0 (dG (XS.Dp (dCall yI (aH (dCall iz (aH (ao 0) (bw))) (bw))) XS.dK0 [0]))
noncomputable def je:List D->Option D:=fnD 2 1 (bU (bQ 2 (dOp rF (dCall iz (aH (ao 0) (bw))) (dOp gIx (ao 1) (dC (.int 2)))))
 (dG (iB (mq (aH (dOp gG (ao 2) (dC (.int 1))) (bw))) (gNl 0) (bL (dOp gLe (dCall t_ (aH (wX (ao 2) (fM (ao 0)) (fM (dOp gG (ao 0) (dOp gIx (ao 1) (dC (.int 2)))))) (bw))) (dOp gIx (ao 1) (dC (.int 0))))) (fL (ao 0)) 1 [1,0])))
noncomputable abbrev fU:List D->Option D:=Com.fU
noncomputable def gw:List D->Option D:=fnD 3 1 (bU (bQ 3 (dOp gG (ao 2) (dOp gIx (ao 1) (dC (.int 2)))))
 (dG (dUn o7 (iB (HD (ao 0)) (gTn 2 (cV (gNl 0) (cV (gNl 1) (jZ)))) (m6) (dCall fU (aH (ao 1) (aH (ao 2) (aH (ju gLe gLt (ao 3) (ao 0) (ao 4)) (bw))))) 2 [1,2,3]))))
noncomputable def eY:List D->Option D:=fnD 2 3 (bU (bQ 2 (dC (.dict [])))
 (bU (lY (nG (ao 0)) (gNl 3) (lY (nG (dCall je (aH (ao 3) (aH (ao 1) (bw))))) (gNl 4) (rY 2 (dCall gw (aH (ao 3) (aH (ao 1) (aH (ao 4) (bw))))) (dTup (aH (ao 3) (aH (ao 4) (bw)))))))
 (dG (ao 2))))
noncomputable def jQ:List D->Option D:=fnL 2 4 (bU (bQ 2 (jD (bw)))
 (bU (bQ 3 (jD (aH (dUn o7 (ao 0)) (bw))))
 (bU (lY (nG (dCall jP (aH (ao 1) (bw)))) (gNl 4) (bU (bQ 5 (dCall eY (aH (ao 3) (aH (dOp gIx (ao 1) (ao 4)) (bw)))))
 (bU (uU 2 (ao 5))
 (bU (sIf (bL (dOp gGt (dCall XJ.mz (aH (ao 5) (bw))) (dC (.int 400)))) ((λ_=>none)) (dX))
 (bU (sIf (bL (dOp gEq (dCall XJ.mz (aH (ao 5) (bw))) (dC (.int 0)))) (rW (ao 2)) (dX))
 (bQ 3 (dCall XJ.iZ (aH (ao 5) (bw)))))))))
 (rW (ao 2)))))
noncomputable def lB:List D->Option D:=fnD 2 4 (bU (bQ 2 (dOp uy (jD (aH (dC (.none)) (bw))) (dCall iz (aH (ao 1) (bw)))))
 (bU (bQ 3 (dC (.none)))
 (bU (lY (RP (dOp v7 (dCall jP (aH (ao 1) (bw))) (ao 0))) (gTn 2 (cV (gNl 4) (cV (gNl 5) (jZ)))) (bU (sIf (bL (dUn Ez (ao 3))) (bQ 3 (dOp gIx (dCall XJ.iZ (aH (ao 5) (bw))) (dC (.int 0)))) (dX))
 (bU (BX 2 (ao 4) (dOp gIx (dOp kW (ao 5) (ao 3)) (dC (.int 1))))
 (bQ 3 (dOp gIx (dOp kW (ao 5) (ao 3)) (dC (.int 0)))))))
 (dG (Hl (ao 2))))))
noncomputable def fB:List D->Option D:=fnD 2 1 (bU (bQ 2 (dCall jQ (aH (ao 0) (aH (ao 1) (bw)))))
 (bU (sIf (D3.BK (bL (dOp gGt (dCall iz (aH (ao 2) (bw))) (dC (.int 0)))) (bL (dOp gEq (dCall XJ.mz (aH (dOp gIx (ao 2) (dUn RK (dC (.int 1)))) (bw))) (dC (.int 0))))) (dG (dTup (aH (dC (.str "none")) (aH (iB (nG (ao 2)) (gNl 0) (m6) (dCall XJ.iZ (aH (ao 0) (bw))) 1 []) (bw))))) (dX))
 (dG (dTup (aH (dC (.str "laid")) (aH (dCall lB (aH (ao 2) (aH (ao 1) (bw)))) (bw)))))))
noncomputable def uK:List D->Option D:=fnD 2 0 (bU (IW (dCall jL (aH (ao 1) (bw))))
 (dG (dCall fB (aH (ao 0) (aH (ao 1) (bw))))))
noncomputable abbrev jd:List D->Option D:=Com.jd
noncomputable abbrev cA:List D->Option D:=Com.cA
noncomputable abbrev dg:List D->Option D:=Com.dg
noncomputable abbrev dH:List D->Option D:=Com.dH
noncomputable abbrev jK:List D->Option D:=Com.jK
noncomputable def lW:List D->Option D:=fnD 1 0 (dG (iB (nG (dCall XS.yN (aH (iB (mq (aH (dCall iz (aH (ao 0) (bw))) (bw))) (gNl 0) (m6) (fL (dTup (aH (dOp gIx (dOp gIx (ao 1) (ao 0)) (dC (.int 0))) (aH (ao 0) (bw))))) 1 [0]) (bw)))) (gNl 0) (m6) (fL (dOp gIx (ao 1) (dOp gIx (ao 0) (dC (.int 1))))) 1 [0]))
noncomputable def h_:List D->Option D:=fnD 2 8 (bU (Ew (ao 1) (gTn 3 (cV (gNl 2) (cV (gNl 3) (cV (gNl 4) (jZ))))))
 (bU (bQ 5 (dC (.dict [])))
 (bU (lY (vY (ao 0)) (gNl 6) (bU (bQ 7 (iB (vY (ao 6)) (gNl 0) (m6) (fL (dOp gIx (jD (aH (ao 0) (aH (dC (.int 0)) (bw)))) (dCall tR (aH (dOp gLe (ao 0) (ao 1)) (bw))))) 1 [2]))
 (lY (mq (aH (dOp gG (dOp rF (dCall iz (aH (ao 6) (bw))) (ao 4)) (dC (.int 1))) (bw))) (gNl 8) (sIf (bL (dOp gLe (dCall t_ (aH (wX (ao 6) (fM (ao 8)) (fM (dOp gG (ao 8) (ao 4)))) (bw))) (ao 2))) (bU (bQ 9 (dOp pJ (dSl (ao 7) pK (fM (ao 8))) (dOp uy (jD (aH (ao 3) (bw))) (ao 4))))
 (sE 5 (dUn o7 (dOp pJ (ao 9) (dSl (ao 7) (fM (dOp gG (ao 8) (ao 4))) pK))))) (dX)))))
 (dG (dCall XJ.iZ (aH (ao 5) (bw)))))))
noncomputable def i_:List D->Option D:=fnD 2 1 (bU (sIf (D3.jc (bL (dUn (gIs "list") (ao 0)))) (dG (dC (.bool false))) (dX))
 (bU (lY (vY (ao 0)) (gNl 2) (bU (sIf (D3.tOr (D3.jc (bL (dUn (gIs "tuple") (ao 2)))) (bL (dOp gNe (dCall iz (aH (ao 2) (bw))) (ao 1)))) (dG (dC (.bool false))) (dX))
 (sIf (bL (dOp gNe (iB (vY (ao 2)) (gNl 0) (D3.jc (bL (dCall dg (aH (ao 0) (bw))))) (fL (ao 0)) 1 []) (jD (bw)))) (dG (dC (.bool false))) (dX))))
 (dG (dC (.bool true)))))
noncomputable def iV:List D->Option D:=fnD 3 3 (bU (sIf (D3.tOr (D3.jc (bL (dUn (gIs "list") (ao 2)))) (D3.jc (bL (ju gLe gLe (dC (.int 1)) (dCall iz (aH (ao 2) (bw))) (dCall iz (aH (ao 1) (bw))))))) (dG (dC (.bool false))) (dX))
 (bU (sIf (bL (dOp gNe (iB (nG (ao 2)) (gNl 0) (D3.jc (bL (dCall i_ (aH (ao 0) (aH (dCall iz (aH (ao 1) (bw))) (bw)))))) (fL (ao 0)) 1 [0]) (jD (bw)))) (dG (dC (.bool false))) (dX))
 (bU (bQ 3 (jD (aH (dUn o7 (ao 0)) (bw))))
 (bU (lY (RN (ao 2) (dCall lW (aH (ao 1) (bw)))) (gTn 2 (cV (gNl 4) (cV (gNl 5) (jZ)))) (bU (sIf (bL (dOp gNe (iB (nG (dCall h_ (aH (ao 3) (aH (ao 5) (bw))))) (gNl 0) (bL (dOp rT (ao 0) (ao 1))) (fL (ao 0)) 1 [4]) (jD (bw)))) (dG (dC (.bool false))) (dX))
 (bQ 3 (ao 4))))
 (dG (dOp gEq (ao 3) (jD (bw))))))))
noncomputable def dB:List D->Option D:=fnD 2 1 (bU (bQ 2 (dCall uK (aH (dUn wG (ao 0)) (aH (dUn wG (ao 1)) (bw)))))
 (bU (sIf (D3.tOr (D3.jc (bL (dUn (gIs "tuple") (ao 2)))) (bL (dOp gNe (dCall iz (aH (ao 2) (bw))) (dC (.int 2))))) (dG (dC (.str "other"))) (dX))
 (bU (sIf (D3.BK (bL (dOp gEq (dOp gIx (ao 2) (dC (.int 0))) (dC (.str "laid")))) (bL (dCall jK (aH (ao 0) (aH (ao 1) (aH (dOp gIx (ao 2) (dC (.int 1))) (bw))))))) (dG (dC (.str "laid"))) (dX))
 (bU (sIf (D3.BK (bL (dOp gEq (dOp gIx (ao 2) (dC (.int 0))) (dC (.str "none")))) (bL (dCall iV (aH (ao 0) (aH (ao 1) (aH (dOp gIx (ao 2) (dC (.int 1))) (bw))))))) (dG (dC (.str "none"))) (dX))
 (dG (dC (.str "other")))))))
noncomputable def nj:List D->Option D:=fnD 2 4 (bU (bQ 2 (dCall cA (aH (ao 0) (aH (dC (.int 1)) (aH (dC (.int 0)) (aH (dC (.int 360)) (bw)))))))
 (bU (bQ 3 (jD (bw)))
 (bU (lY (mq (aH (ao 1) (bw))) (gNl 4) (bU (bQ 5 (dCall cA (aH (ao 0) (aH (dC (.int 2)) (aH (ao 4) (aH (dC (.int 9)) (bw)))))))
 (uU 3 (dOp gIx (jD (aH (dC (.int 0)) (aH (dOp rF (dOp gG (ao 2) (ao 5)) (dC (.int 5))) (bw)))) (dCall tR (aH (dOp gGt (ao 5) (dC (.int 4))) (bw)))))))
 (dG (Hl (ao 3))))))
noncomputable abbrev iw:List D->Option D:=Com.iw
noncomputable abbrev iy:List D->Option D:=Com.iy
noncomputable def Gj:List D->Option D:=fnD 1 4 (bU (bQ 1 (dOp gG (dC (.int 1)) (dCall cA (aH (ao 0) (aH (dC (.int 0)) (aH (dC (.int 0)) (aH (dC (.int 5)) (bw))))))))
 (bU (bQ 2 (dCall nj (aH (ao 0) (aH (ao 1) (bw)))))
 (bU (bQ 3 (dCall iw (aH (ao 0) (aH (dCall cA (aH (ao 0) (aH (dC (.int 0)) (aH (dC (.int 1)) (aH (dC (.int 17)) (bw)))))) (bw)))))
 (bU (bQ 4 (dCall iy (aH (ao 2) (aH (ao 3) (bw)))))
 (bU (sIf (bL (dOp gNe (dCall dB (aH (ao 2) (aH (ao 3) (bw)))) (dOp gIx (jD (aH (dC (.str "laid")) (aH (dC (.str "none")) (bw)))) (dCall tR (aH (dOp gGt (ao 4) (dC (.int 0))) (bw)))))) (dG (dC (.bool false))) (dX))
 (bU (sIf (D3.tOr (bL (dOp gEq (ao 4) (dC (.int 0)))) (bL (dOp gGt (dOp gG (ao 1) (ao 4)) (dC (.int 5))))) (dG (dC (.bool true))) (dX))
 (bU (sIf (bL (dOp gNe (dCall dB (aH (dOp pJ (ao 2) (dOp uy (jD (aH (dC (.int 0)) (bw))) (ao 4))) (aH (ao 3) (bw)))) (dC (.str "laid")))) (dG (dC (.bool false))) (dX))
 (dG (dOp gEq (dCall dB (aH (dOp pJ (ao 2) (dOp uy (jD (aH (dC (.int 0)) (bw))) (dOp rF (ao 4) (dC (.int 1))))) (aH (ao 3) (bw)))) (dC (.str "none")))))))))))
end K79
variable{g:Com.Wi}{gs:List Com.Wi}{hs:List Int}{rows:List (List Int)}
namespace K79
open PySem D3 My Com
noncomputable def isI:D->Bool
 | .int _=>true
 |_=>false
theorem wh(d:D):Com.iu [d]=some (.bool (isI d)):=by
 unfold Com.iu
 cases d<;>rfl
theorem lwh(d:D):Com.dg [d]=some (.bool (isI d)):=by
 unfold Com.dg
 cases d<;>rfl
noncomputable def two:D->Bool
 | .tuple [x,y]=>isI x&&isI y
 |_=>false
theorem all2(x y:D):m_ [.tuple [x,y]]=some (.bool (isI x&&isI y)):=by
 have C:=Ds (g:=(gNl 0)) (c:=(D3.m6)) (e:=(dCall iu (aH (ao 0) (bw)))) (δ:=[none]) (λd:D=>d) (λd=>.bool (isI d)) [x,y] (λd _=>⟨[some (.d d)],rfl,rfl,by simp only[EV,reduceIte,aq,aA,aj,ak,aB,aC,aD,wh]⟩)
 have C:lA (gNl 0) (D3.m6) (dCall iu (aH (ao 0) (bw))) [none] [x,y]=some [.bool (isI x),.bool (isI y)]:=C
 have Z:∀a:Option U,nF 1 [] [a]=[none]:=λ_=>rfl
 have ga:RM [.list [.bool (isI x),.bool (isI y)]]=some (.bool (isI x&&isI y)):=by cases isI x<;>cases isI y<;>rfl
 unfold m_
 simp only[EV,reduceIte,aq,aA,aj,ak,aB,aC,aD,Wz,WD,show 2<=100000 by decide,Z,C,ga]
theorem len2(h:l.length=2):∃x y,l=[x,y]:=by
 match l,h with
 |[x,y],_=>exact⟨x,y,rfl⟩
theorem two_no(h:¬l.length=2):two (.tuple l)=false:=by
 match l,h with
 |[],_=>rfl
 |[_],_=>rfl
 |[_,_],h=>exact absurd rfl h
 |_::_::_::_,_=>rfl
theorem isTup:D3.isT "tuple" "tuple"=true:=by decide
theorem zA(d:D):pX [d]=some (.bool (two d)):=by
 have T:j8 [d,.int 2]=some (.bool (two d)):=by
  unfold j8
  cases d with
  |tuple l=>
   by_cases h:l.length=2
   ·obtain⟨x,y,rfl⟩:=len2 h
    simp only[EV,reduceIte,aq,aA,aj,ak,aB,aC,aD,tyD,isTup,show iz [PyData.tuple [x,y]]=some (.int 2)from rfl,show gEq (.int 2) (.int 2)=some (.bool true)from rfl,all2]
    rfl
   ·have Z:iz [PyData.tuple l]=some (.int (l.length:Int)):=rfl
    rw[two_no h]
    simp only[EV,reduceIte,aq,aA,aj,ak,aB,aC,aD,tyD,isTup,Z,dFa (show ¬(l.length:Int)=2 by omega)]
  |_=>rfl
 unfold pX
 simp only[EV,reduceIte,aq,aA,aj,ak,aB,aC,aD,T]
theorem tw(a b:Int):two (.tuple [.int a,.int b])=true:=rfl
noncomputable def stB(a b:Int):Bool:=decide (0<=a)&&(decide (a<b)&&decide (b<=400))
theorem Gk(a b:Int):lU [.tuple [.int a,.int b]]=some (.bool (stB a b)):=by
 unfold lU stB
 by_cases c:0<=a
 ·by_cases Z:a<b
  ·simp only[EV,reduceIte,aq,aA,aj,ak,aB,aC,aD,zA,tw,at0,at1,dTr c,dTr Z]
   rfl
  ·simp only[EV,reduceIte,aq,aA,aj,ak,aB,aC,aD,zA,tw,at0,at1,dTr c,dFa Z]
   rfl
 ·simp only[EV,reduceIte,aq,aA,aj,ak,aB,aC,aD,zA,tw,at0,at1,dFa c]
  rfl
structure grOk(g:Wi):Prop where
 f:0<=g.1
 b:g.1<g.2.1
 n:g.2.1<=400
 s:1<=g.2.2
 t:g.2.2<=6
theorem Ig(g:Wi):Com.jJ [wiD g]=some (.tuple [.int g.1,.int g.2.1]):=by
 unfold Com.jJ wiD
 simp only[EV,reduceIte,aq,aA,aj,ak,aB,aC,aD,at0,at1,sz (show 2<=1000000 by decide)]
theorem Lj(h:grOk g):mQ [wiD g]=some (.bool true):=by
 have S:=Gk g.1 g.2.1
 rw[show stB g.1 g.2.1=true by unfold stB;rw[dTr h.f,dTr h.b,dTr h.n];rfl]at S
 have W:Com.fQ [.int g.2.2,.int 1,.int 6]=some (.bool true):=by
  unfold Com.fQ
  simp only[EV,reduceIte,aq,aA,aj,ak,aB,aC,aD,wh,isI,dTr h.s,dTr h.t]
 have N:=Ig g
 have i2:gIx (wiD g) (.int 2)=some (.int g.2.2):=rfl
 unfold mQ
 simp only[EV,reduceIte,aq,aA,aj,ak,aB,aC,aD,show D3.isT "tuple" (tyD (wiD g))=true from rfl,show iz [wiD g]=some (.int 3)from rfl,show gNe (.int 3) (.int 3)=some (.bool false)from rfl,cP,N,S,i2,W]
theorem Lk(h:∀g∈gs,grOk g):jL [.list (gs.map wiD)]=some .none:=by
 unfold jL
 simp only[EV,reduceIte,aq,aA,aj,ak,aB,aC,aD]
 obtain⟨X,e,W,Z,rfl⟩:=qQ (g:=(gTn 2 (cV (gNl 1) (cV (gNl 2) (jZ))))) (b:=(sIf (D3.jc (bL (dCall mQ (aH (ao 2) (bw))))) ((λ_=>none)) (dX))) (λ_ δ=>∃Z Y:Option U,δ=[some (.d (.list (gs.map wiD))),Z,Y]) (pL (gs.map wiD)) [some (.d (.list (gs.map wiD))),none,none] ⟨none,none,rfl⟩
  (by
   rintro i d δ hd ⟨Z,Y,rfl⟩
   unfold pL at hd
   rw[fH,bf]at hd
   cases hw:gs[i]? with
   |none=>rw[hw]at hd;cases hd
   |some w=>
    rw[hw]at hd
    cases hd
    refine⟨_,_,rfl,.inl ?_,some (.d (.int (i:Int))),some (.d (wiD w)),rfl⟩
    simp only[EV,reduceIte,aq,aA,aj,ak,aB,aC,aD,Lj (h w (gA hw))])
 rw[e]
 simp only[EV,reduceIte,aq,aA,aj,ak,aB,aC,aD]
noncomputable def meB(g k:Wi):Bool:=decide ((if k.1>g.1 then k.1 else g.1)<(if k.2.1<g.2.1 then k.2.1 else g.2.1))
noncomputable def coB(g:Wi)(p:Int)(k:Wi)(q:Int):Bool:=decide ((if q>p then q else p)<(if q+k.2.2<p+g.2.2 then q+k.2.2 else p+g.2.2))
noncomputable def apB(g:Wi)(p:Int)(k:Wi)(q:Int):Bool:=(decide (g.2.1<=k.1)||decide (k.2.1<=g.1))||(decide (p+g.2.2<=q)||decide (q+k.2.2<=p))
theorem Ln(g k:Wi)(p q:Int):Com.dH [wiD g,.int p,wiD k,.int q]=some (.bool (apB g p k q)):=by
 have V:gIx (wiD g) (.int 0)=some (.int g.1):=rfl
 have i1:gIx (wiD g) (.int 1)=some (.int g.2.1):=rfl
 have i2:gIx (wiD g) (.int 2)=some (.int g.2.2):=rfl
 have W:gIx (wiD k) (.int 0)=some (.int k.1):=rfl
 have j1:gIx (wiD k) (.int 1)=some (.int k.2.1):=rfl
 have j2:gIx (wiD k) (.int 2)=some (.int k.2.2):=rfl
 unfold Com.dH
 by_cases Y:g.2.1<=k.1
 ·have Z:apB g p k q=true:=by unfold apB;rw[dTr Y];rfl
  rw[Z]
  simp only[EV,reduceIte,aq,aA,aj,ak,aB,aC,aD,V,i1,i2,W,j1,j2,dTr Y]
 ·by_cases X:k.2.1<=g.1
  ·have Z:apB g p k q=true:=by unfold apB;rw[dTr X];simp
   rw[Z]
   simp only[EV,reduceIte,aq,aA,aj,ak,aB,aC,aD,V,i1,i2,W,j1,j2,dFa Y,dTr X]
  ·by_cases U:p+g.2.2<=q
   ·have Z:apB g p k q=true:=by unfold apB;rw[dTr U];simp
    rw[Z]
    simp only[EV,reduceIte,aq,aA,aj,ak,aB,aC,aD,V,i1,i2,W,j1,j2,dFa Y,dFa X,dTr U]
   ·have Z:apB g p k q=decide (q+k.2.2<=p):=by unfold apB;rw[dFa Y,dFa X,dFa U];rfl
    rw[Z]
    simp only[EV,reduceIte,aq,aA,aj,ak,aB,aC,aD,V,i1,i2,W,j1,j2,dFa Y,dFa X,dFa U]
theorem pY{k:Wi}{p q:Int}(D:grOk g)(B:grOk k):apB k q g p = !(meB g k&&coB g p k q):=by
 have W:=D.b;have X:=B.b;have Y:=D.s;have Z:=B.s
 unfold apB meB coB
 rw[nA]
 simp only[jm,gP,Bool.and_eq_false_iff,decide_eq_true_eq,decide_eq_false_iff_not]
 constructor
 ·intro h
  by_cases z:(if k.1>g.1 then k.1 else g.1)<(if k.2.1<g.2.1 then k.2.1 else g.2.1)
  ·right
   intro y
   split at z<;>split at z<;>split at y<;>split at y<;>omega
  ·left;exact z
 ·intro h
  rcases h with h|h
  ·left
   split at h<;>split at h<;>omega
  ·right
   split at h<;>split at h<;>omega
section
variable{gs:List Wi}{ps:List Int}
noncomputable def gat(gs:List Wi)(i:Nat):Wi:=gs.getD i (0,0,0)
noncomputable def beB(gs:List Wi)(ps:List Int)(i:Nat):Bool:=(aR i).all λj=>!(meB (gat gs i) (gat gs j)&&coB (gat gs i) (ps.getD i 0) (gat gs j) (ps.getD j 0))
end
theorem Ym{a b:Int}(B:0<=a)(h1:a<=b)(h2:b<=l.length):cutD l (some a) (some b)=(l.drop a.toNat).take (b-a).toNat:=by
 unfold cutD
 have Y:pSx l.length 0 (some a)=a.toNat:=by
  show(if a<0 then _ else _)=_
  rw[if_neg (by omega)]
  omega
 have Z:pSx l.length l.length (some b)=b.toNat:=by
  show(if b<0 then _ else _)=_
  rw[if_neg (by omega)]
  omega
 rw[Y,Z,show b.toNat-a.toNat=(b-a).toNat by omega]
noncomputable def mx:List Int->Int
 |[]=>0
 |x::r=>mxI x r
theorem JN{l:List Int}(h:l≠[]):yD [.list (l.map .int)]=some (.int (mx l)):=by
 cases l with
 |nil=>exact absurd rfl h
 |cons x r=>
  show(match dU ((x::r).map .int)with|some (i::r)=>some (PyData.int (mxI i r))|_=>none)=_
  rw[tG]
  rfl
noncomputable def sli(hs:List Int)(p s:Int):List Int:=(hs.drop p.toNat).take s.toNat
noncomputable def roB(hs:List Int)(g:Wi)(p:Int):Bool:=(decide (0<=p)&&decide (p<=(hs.length:Int)-g.2.2))&&decide (mx (sli hs p g.2.2)<=g.1)
theorem wg{p s:Int}(B:0<=p)(h1:p<=(hs.length:Int)-s)(h2:1<=s):sli hs p s≠[]:=by
 intro z
 have:=congrArg oM z
 unfold sli at this
 rw[cR,fG]at this
 simp at this
 omega
theorem xW{p s:Int}(B:0<=p)(h1:p<=(hs.length:Int)-s)(h2:1<=s):cutD (hs.map PyData.int) (some p) (some (p+s))=(sli hs p s).map .int:=by
 rw[Ym B (by omega) (by rw[au];omega),show p+s-p=s by omega]
 unfold sli
 rw[tX,tY]
section
variable{hs:List Int}{gs:List Wi}{ps:List Int}
noncomputable def ab3(hs:List Int)(gs:List Wi)(ps:List Int)(i:Nat):Bool:=roB hs (gat gs i) (ps.getD i 0)&&beB gs ps i
noncomputable def laB(hs:List Int)(gs:List Wi)(ps:List Int):Bool:=decide (ps.length=gs.length)&&(aR gs.length).all (ab3 hs gs ps)
theorem vG(h:∀g∈gs,grOk g)(hi:i<gs.length):grOk (gat gs i):=by
 unfold gat
 rw[aK,aF hi]
 exact h _ (cg hi)
theorem zB(h:∀g∈gs,grOk g)(pl:ps.length=gs.length){i:Nat}(hi:i<gs.length)(y4 y5 y6 y7 B:Option U):∃z4 O J D,((bU (bQ 4 (dOp gIx (ao 2) (ao 3))) (bU (Ew (dOp gIx (ao 1) (ao 3)) (gTn 3 (cV (gNl 5) (cV (gNl 6) (cV (gNl 7) (jZ)))))) (bU (sIf (D3.tOr (D3.jc (bL (dCall dg (aH (ao 4) (bw))))) (D3.jc (bL (ju gLe gLe (dC (.int 0)) (ao 4) (dOp rF (dCall iz (aH (ao 0) (bw))) (ao 7)))))) (dG (dC (.bool false))) (dX)) (sIf (bL (dOp gGt (dCall yD (aH (dSl (ao 0) (fM (ao 4)) (fM (dOp gG (ao 4) (ao 7)))) (bw))) (ao 5))) (dG (dC (.bool false))) (dX)))))) [some (.d (.list (hs.map .int))),some (.d (.list (gs.map wiD))),some (.d (.list (ps.map .int))),some (.d (.int (i:Int))),y4,y5,y6,y7,B] =
 if roB hs (gat gs i) (ps.getD i 0)=true then some (.nx [some (.d (.list (hs.map .int))),some (.d (.list (gs.map wiD))),some (.d (.list (ps.map .int))),some (.d (.int (i:Int))),z4,O,J,D,B])else some (.rt (.bool false)):=by
 have X:=m9 wiD (l:=gs) (0,0,0) (i:=(i:Int)) (by omega) (by omega)
 have W:=m9 PyData.int (l:=ps) 0 (i:=(i:Int)) (by omega) (by omega)
 rw[fO]at X W
 have X:pAt (gs.map wiD) (i:Int)=some (.tuple [.int (gat gs i).1,.int (gat gs i).2.1,.int (gat gs i).2.2]):=X
 have T:=vG h hi
 have V:Com.dg [.int (ps.getD i 0)]=some (.bool true):=rfl
 refine⟨some (.d (.int (ps.getD i 0))),some (.d (.int (gat gs i).1)),some (.d (.int (gat gs i).2.1)),some (.d (.int (gat gs i).2.2)),?_⟩
 by_cases Z:0<=ps.getD i 0
 ·by_cases Y:ps.getD i 0<=(hs.length:Int)-(gat gs i).2.2
  ·have r:roB hs (gat gs i) (ps.getD i 0)=decide (mx (sli hs (ps.getD i 0) (gat gs i).2.2)<=(gat gs i).1):=by unfold roB;rw[dTr Z,dTr Y];rfl
   rw[r]
   by_cases S:mx (sli hs (ps.getD i 0) (gat gs i).2.2)<=(gat gs i).1
   ·rw[dTr S,if_pos rfl]
    simp only[EV,reduceIte,aq,aA,aj,ak,aB,aC,aD,X,W,V,lMp,dTr Z,dTr Y,xW Z Y T.s,JN (wg Z Y T.s),dFa (show ¬mx (sli hs (ps.getD i 0) (gat gs i).2.2)>(gat gs i).1 by omega)]
   ·rw[dFa S,if_neg (by decide)]
    simp only[EV,reduceIte,aq,aA,aj,ak,aB,aC,aD,X,W,V,lMp,dTr Z,dTr Y,xW Z Y T.s,JN (wg Z Y T.s),dTr (show mx (sli hs (ps.getD i 0) (gat gs i).2.2)>(gat gs i).1 by omega)]
  ·have r:roB hs (gat gs i) (ps.getD i 0)=false:=by unfold roB;rw[dTr Z,dFa Y];rfl
   rw[r,if_neg (by decide)]
   simp only[EV,reduceIte,aq,aA,aj,ak,aB,aC,aD,X,W,V,lMp,dTr Z,dFa Y]
 ·have r:roB hs (gat gs i) (ps.getD i 0)=false:=by unfold roB;rw[dFa Z];rfl
  rw[r,if_neg (by decide)]
  simp only[EV,reduceIte,aq,aA,aj,ak,aB,aC,aD,X,W,V,lMp,dFa Z]
theorem Du(h:∀g∈gs,grOk g)(pl:ps.length=gs.length){i j:Nat}(hi:i<gs.length)(hj:j<i)(O J D B:Option U):(sIf (D3.jc (bL (dCall dH (aH (dOp gIx (ao 1) (ao 8)) (aH (dOp gIx (ao 2) (ao 8)) (aH (dOp gIx (ao 1) (ao 3)) (aH (dOp gIx (ao 2) (ao 3)) (bw)))))))) (dG (dC (.bool false))) (dX)) [some (.d (.list (hs.map .int))),some (.d (.list (gs.map wiD))),some (.d (.list (ps.map .int))),some (.d (.int (i:Int))),O,J,D,B,some (.d (.int (j:Int)))] =
 if(meB (gat gs i) (gat gs j)&&coB (gat gs i) (ps.getD i 0) (gat gs j) (ps.getD j 0))=false then some (.nx [some (.d (.list (hs.map .int))),some (.d (.list (gs.map wiD))),some (.d (.list (ps.map .int))),some (.d (.int (i:Int))),O,J,D,B,some (.d (.int (j:Int)))])else some (.rt (.bool false)):=by
 have Y:=m9 wiD (l:=gs) (0,0,0) (i:=(i:Int)) (by omega) (by omega)
 have Z:=m9 wiD (l:=gs) (0,0,0) (i:=(j:Int)) (by omega) (by omega)
 have W:=m9 PyData.int (l:=ps) 0 (i:=(i:Int)) (by omega) (by omega)
 have X:=m9 PyData.int (l:=ps) 0 (i:=(j:Int)) (by omega) (by omega)
 rw[fO]at Y Z W X
 have Y:pAt (gs.map wiD) (i:Int)=some (wiD (gat gs i)):=Y
 have Z:pAt (gs.map wiD) (j:Int)=some (wiD (gat gs j)):=Z
 have A:=Ln (gat gs j) (gat gs i) (ps.getD j 0) (ps.getD i 0)
 rw[pY (vG h hi) (vG h (show j<gs.length by omega))]at A
 cases m:meB (gat gs i) (gat gs j)&&coB (gat gs i) (ps.getD i 0) (gat gs j) (ps.getD j 0)with
 |false=>
  rw[m]at A
  rw[if_pos rfl]
  simp only[EV,reduceIte,aq,aA,aj,ak,aB,aC,aD,Y,Z,W,X,A,lJ]
 |true=>
  rw[m]at A
  rw[if_neg (by decide)]
  simp only[EV,reduceIte,aq,aA,aj,ak,aB,aC,aD,Y,Z,W,X,A,cP]
theorem Yn(h:∀g∈gs,grOk g)(pl:ps.length=gs.length){i:Nat}(hi:i<gs.length)(W O J D B:Option U):(∃Y,beB gs ps i=true/\iJ (gNl 8) (sIf (D3.jc (bL (dCall dH (aH (dOp gIx (ao 1) (ao 8)) (aH (dOp gIx (ao 2) (ao 8)) (aH (dOp gIx (ao 1) (ao 3)) (aH (dOp gIx (ao 2) (ao 3)) (bw)))))))) (dG (dC (.bool false))) (dX)) (gC 0 (i:Int)) [some (.d (.list (hs.map .int))),some (.d (.list (gs.map wiD))),some (.d (.list (ps.map .int))),some (.d (.int (i:Int))),W,O,J,D,B]=some (.nx [some (.d (.list (hs.map .int))),some (.d (.list (gs.map wiD))),some (.d (.list (ps.map .int))),some (.d (.int (i:Int))),W,O,J,D,Y]))\/(beB gs ps i=false/\iJ (gNl 8) (sIf (D3.jc (bL (dCall dH (aH (dOp gIx (ao 1) (ao 8)) (aH (dOp gIx (ao 2) (ao 8)) (aH (dOp gIx (ao 1) (ao 3)) (aH (dOp gIx (ao 2) (ao 3)) (bw)))))))) (dG (dC (.bool false))) (dX)) (gC 0 (i:Int)) [some (.d (.list (hs.map .int))),some (.d (.list (gs.map wiD))),some (.d (.list (ps.map .int))),some (.d (.int (i:Int))),W,O,J,D,B]=some (.rt (.bool false))):=by
 have S:(gC 0 (i:Int)).length=i:=by unfold gC;rw[au,bN];omega
 rcases vD (λj=>meB (gat gs i) (gat gs j)&&coB (gat gs i) (ps.getD i 0) (gat gs j) (ps.getD j 0)) i with⟨m,hm,X,hn⟩|hn
 ·right
  constructor
  ·cases q:beB gs ps i with
   |false=>rfl
   |true=>
    have:=cJ.mp q m (aZ.mpr hm)
    rw[X]at this
    cases this
  ·exact zj (λ_ δ=>∃B:Option U,δ=[some (.d (.list (hs.map .int))),some (.d (.list (gs.map wiD))),some (.d (.list (ps.map .int))),some (.d (.int (i:Int))),W,O,J,D,B]) m (gC 0 (i:Int)) _ ⟨B,rfl⟩ (by rw[S];exact hm)
    (by
     rintro j d δ Z hd ⟨B,rfl⟩
     obtain⟨V,rfl⟩:=lR hd
     refine⟨_,_,rfl,?_,some (.d (.int (j:Int))),rfl⟩
     refine(Du h pl hi (by omega) W O J D).trans ?_
     rw[if_pos (hn j Z)])
    (by
     rintro d δ hd ⟨B,rfl⟩
     obtain⟨V,rfl⟩:=lR hd
     refine⟨_,rfl,?_⟩
     refine(Du h pl hi hm W O J D).trans ?_
     rw[if_neg (by simpa using X)])
 ·left
  obtain⟨T,e,Y,rfl⟩:=qQ (g:=gNl 8) (b:=(sIf (D3.jc (bL (dCall dH (aH (dOp gIx (ao 1) (ao 8)) (aH (dOp gIx (ao 2) (ao 8)) (aH (dOp gIx (ao 1) (ao 3)) (aH (dOp gIx (ao 2) (ao 3)) (bw)))))))) (dG (dC (.bool false))) (dX))) (λ_ δ=>∃B:Option U,δ=[some (.d (.list (hs.map .int))),some (.d (.list (gs.map wiD))),some (.d (.list (ps.map .int))),some (.d (.int (i:Int))),W,O,J,D,B]) (gC 0 (i:Int)) _ ⟨B,rfl⟩
   (by
    rintro j d δ hd ⟨B,rfl⟩
    obtain⟨V,rfl⟩:=lR hd
    refine⟨_,_,rfl,.inl ?_,some (.d (.int (j:Int))),rfl⟩
    refine(Du h pl hi (by omega) W O J D).trans ?_
    rw[if_pos (hn j (by omega))])
  refine⟨Y,?_,e⟩
  unfold beB
  rw[cJ]
  intro j Z
  have:=hn j (aZ.mp Z)
  rw[this]
  rfl
theorem wj:laB hs gs ps=true<->ps.length=gs.length/\(∀i,i<gs.length->roB hs (gat gs i) (ps.getD i 0)=true)/\∀i,i<gs.length->beB gs ps i=true:=by
 unfold laB ab3
 rw[aX,decide_eq_true_eq,cJ]
 constructor
 ·rintro⟨h1,h2⟩
  refine⟨h1,λi hi=>?_,λi hi=>?_⟩
  ·exact(mZ.mp (h2 i (aZ.mpr hi))).1
  ·exact(mZ.mp (h2 i (aZ.mpr hi))).2
 ·rintro⟨h1,h2,Z⟩
  exact⟨h1,λi hi=>mZ.mpr ⟨h2 i (aZ.mp hi),Z i (aZ.mp hi)⟩⟩
theorem zE(h:¬(ps.length=gs.length/\(∀i,i<gs.length->roB hs (gat gs i) (ps.getD i 0)=true)/\∀i,i<gs.length->beB gs ps i=true)):laB hs gs ps=false:=by
 cases q:laB hs gs ps with
 |false=>rfl
 |true=>exact absurd (wj.mp q) h
theorem Qq(h:∀g∈gs,grOk g)(hl:gs.length<=1000):Com.jK [.list (hs.map .int),.list (gs.map wiD),.list (ps.map .int)]=some (.bool (laB hs gs ps)):=by
 have I:D3.isT "list" (tyD (.list (ps.map .int)))=true:=rfl
 have H:ud (some [.int (gs.length:Int)])=some (gC 0 (gs.length:Int)):=Gi (by omega) (by omega)
 have E:(gC 0 (gs.length:Int)).length=gs.length:=by unfold gC;rw[au,bN];omega
 unfold Com.jK
 by_cases pl:ps.length=gs.length
 case neg=>
  rw[zE (λz=>pl z.1)]
  have ne:gNe (.int (ps.length:Int)) (.int (gs.length:Int))=some (.bool true):=by
   show some (PyData.bool (!PyData.eqv (.int (ps.length:Int)) (.int (gs.length:Int))))=_
   simp[PyData.eqv]
   omega
  simp only[EV,reduceIte,aq,aA,aj,ak,aB,aC,aD,I,cP,lMp,ne]
 have ne:gNe (.int (ps.length:Int)) (.int (gs.length:Int))=some (.bool false):=by
  rw[pl]
  show some (PyData.bool (!PyData.eqv (.int (gs.length:Int)) (.int (gs.length:Int))))=_
  simp[PyData.eqv]
 rcases vD (λi=>!roB hs (gat gs i) (ps.getD i 0)) gs.length with⟨m,hm,P,hn⟩|hn
 ·rw[zE (λz=>by have:=z.2.1 m hm;rw[this]at P;cases P)]
  have e:=zj (g:=(gNl 3)) (b:=(bU (bQ 4 (dOp gIx (ao 2) (ao 3))) (bU (Ew (dOp gIx (ao 1) (ao 3)) (gTn 3 (cV (gNl 5) (cV (gNl 6) (cV (gNl 7) (jZ)))))) (bU (sIf (D3.tOr (D3.jc (bL (dCall dg (aH (ao 4) (bw))))) (D3.jc (bL (ju gLe gLe (dC (.int 0)) (ao 4) (dOp rF (dCall iz (aH (ao 0) (bw))) (ao 7)))))) (dG (dC (.bool false))) (dX)) (sIf (bL (dOp gGt (dCall yD (aH (dSl (ao 0) (fM (ao 4)) (fM (dOp gG (ao 4) (ao 7)))) (bw))) (ao 5))) (dG (dC (.bool false))) (dX)))))) (λ_ δ=>∃T V W X Y,δ=[some (.d (.list (hs.map .int))),some (.d (.list (gs.map wiD))),some (.d (.list (ps.map .int))),T,V,W,X,Y,none]) (v:=.bool false) m (gC 0 (gs.length:Int)) [some (.d (.list (hs.map .int))),some (.d (.list (gs.map wiD))),some (.d (.list (ps.map .int))),none,none,none,none,none,none] ⟨none,none,none,none,none,rfl⟩ (by rw[E];exact hm)
   (by
    rintro j d δ N hd ⟨T,V,W,X,Y,rfl⟩
    obtain⟨O,rfl⟩:=lR hd
    obtain⟨J,K,L,M,Z⟩:=zB (hs:=hs) h pl (show j<gs.length by omega) V W X Y none
    rw[if_pos (by simpa using hn j N)]at Z
    exact⟨_,_,rfl,Z,some (.d (.int (j:Int))),J,K,L,M,rfl⟩)
   (by
    rintro d δ hd ⟨T,V,W,X,Y,rfl⟩
    obtain⟨O,rfl⟩:=lR hd
    obtain⟨J,K,L,M,Z⟩:=zB (hs:=hs) h pl hm V W X Y none
    rw[if_neg (by simpa using P)]at Z
    exact⟨_,rfl,Z⟩)
  simp only[EV,reduceIte,aq,aA,aj,ak,aB,aC,aD,I,cP,lMp,ne,H,e]
 ·obtain⟨B,e,T,V,W,X,Y,rfl⟩:=qQ (g:=(gNl 3)) (b:=(bU (bQ 4 (dOp gIx (ao 2) (ao 3))) (bU (Ew (dOp gIx (ao 1) (ao 3)) (gTn 3 (cV (gNl 5) (cV (gNl 6) (cV (gNl 7) (jZ)))))) (bU (sIf (D3.tOr (D3.jc (bL (dCall dg (aH (ao 4) (bw))))) (D3.jc (bL (ju gLe gLe (dC (.int 0)) (ao 4) (dOp rF (dCall iz (aH (ao 0) (bw))) (ao 7)))))) (dG (dC (.bool false))) (dX)) (sIf (bL (dOp gGt (dCall yD (aH (dSl (ao 0) (fM (ao 4)) (fM (dOp gG (ao 4) (ao 7)))) (bw))) (ao 5))) (dG (dC (.bool false))) (dX)))))) (λ_ δ=>∃T V W X Y,δ=[some (.d (.list (hs.map .int))),some (.d (.list (gs.map wiD))),some (.d (.list (ps.map .int))),T,V,W,X,Y,none]) (gC 0 (gs.length:Int)) [some (.d (.list (hs.map .int))),some (.d (.list (gs.map wiD))),some (.d (.list (ps.map .int))),none,none,none,none,none,none] ⟨none,none,none,none,none,rfl⟩
   (by
    rintro j d δ hd ⟨T,V,W,X,Y,rfl⟩
    obtain⟨O,rfl⟩:=lR hd
    obtain⟨J,K,L,M,Z⟩:=zB (hs:=hs) h pl (show j<gs.length by omega) V W X Y none
    rw[if_pos (by simpa using hn j (by omega))]at Z
    exact⟨_,_,rfl,.inl Z,some (.d (.int (j:Int))),J,K,L,M,rfl⟩)
  have F:∀(j:Nat)(S:Option U),j<gs.length->(∃R,beB gs ps j=true/\((lY (mq (aH (ao 3) (bw))) (gNl 8) (sIf (D3.jc (bL (dCall dH (aH (dOp gIx (ao 1) (ao 8)) (aH (dOp gIx (ao 2) (ao 8)) (aH (dOp gIx (ao 1) (ao 3)) (aH (dOp gIx (ao 2) (ao 3)) (bw)))))))) (dG (dC (.bool false))) (dX)))) [some (.d (.list (hs.map .int))),some (.d (.list (gs.map wiD))),some (.d (.list (ps.map .int))),some (.d (.int (j:Int))),V,W,X,Y,S]=some (.nx [some (.d (.list (hs.map .int))),some (.d (.list (gs.map wiD))),some (.d (.list (ps.map .int))),some (.d (.int (j:Int))),V,W,X,Y,R]))\/(beB gs ps j=false/\((lY (mq (aH (ao 3) (bw))) (gNl 8) (sIf (D3.jc (bL (dCall dH (aH (dOp gIx (ao 1) (ao 8)) (aH (dOp gIx (ao 2) (ao 8)) (aH (dOp gIx (ao 1) (ao 3)) (aH (dOp gIx (ao 2) (ao 3)) (bw)))))))) (dG (dC (.bool false))) (dX)))) [some (.d (.list (hs.map .int))),some (.d (.list (gs.map wiD))),some (.d (.list (ps.map .int))),some (.d (.int (j:Int))),V,W,X,Y,S]=some (.rt (.bool false))):=λj S N=>by
   have D:ud (some [.int (j:Int)])=some (gC 0 (j:Int)):=Gi (by omega) (by omega)
   rcases Yn (hs:=hs) h pl N V W X Y S with⟨R,b,Z⟩|⟨b,Z⟩
   ·refine .inl ⟨R,b,?_⟩
    simp only[EV,reduceIte,aq,aA,aj,ak,aB,aC,aD,D,Z]
   ·refine .inr ⟨b,?_⟩
    simp only[EV,reduceIte,aq,aA,aj,ak,aB,aC,aD,D,Z]
  rcases vD (λi=>!beB gs ps i) gs.length with⟨m,hm,P,Q⟩|Q
  ·rw[zE (λz=>by have:=z.2.2 m hm;rw[this]at P;cases P)]
   have G:=zj (g:=(gNl 3)) (b:=(lY (mq (aH (ao 3) (bw))) (gNl 8) (sIf (D3.jc (bL (dCall dH (aH (dOp gIx (ao 1) (ao 8)) (aH (dOp gIx (ao 2) (ao 8)) (aH (dOp gIx (ao 1) (ao 3)) (aH (dOp gIx (ao 2) (ao 3)) (bw)))))))) (dG (dC (.bool false))) (dX)))) (λ_ δ=>∃T S,δ=[some (.d (.list (hs.map .int))),some (.d (.list (gs.map wiD))),some (.d (.list (ps.map .int))),T,V,W,X,Y,S]) (v:=.bool false) m (gC 0 (gs.length:Int)) [some (.d (.list (hs.map .int))),some (.d (.list (gs.map wiD))),some (.d (.list (ps.map .int))),T,V,W,X,Y,none] ⟨T,none,rfl⟩ (by rw[E];exact hm)
    (by
     rintro j d δ N hd ⟨T,S,rfl⟩
     obtain⟨O,rfl⟩:=lR hd
     rcases F j S (by omega)with⟨R,b,Z⟩|⟨b,Z⟩
     ·exact⟨_,_,rfl,Z,some (.d (.int (j:Int))),R,rfl⟩
     ·have:=Q j N;rw[b]at this;cases this)
    (by
     rintro d δ hd ⟨T,S,rfl⟩
     obtain⟨O,rfl⟩:=lR hd
     rcases F m S hm with⟨R,b,Z⟩|⟨b,Z⟩
     ·rw[b]at P;cases P
     ·exact⟨_,rfl,Z⟩)
   simp only[EV,reduceIte,aq,aA,aj,ak,aB,aC,aD,I,cP,lMp,ne,H,e,G]
  ·rw[wj.mpr ⟨pl,λi hi=>by simpa using hn i hi,λi hi=>by simpa using Q i hi⟩]
   obtain⟨C,G,A,R,rfl⟩:=qQ (g:=(gNl 3)) (b:=(lY (mq (aH (ao 3) (bw))) (gNl 8) (sIf (D3.jc (bL (dCall dH (aH (dOp gIx (ao 1) (ao 8)) (aH (dOp gIx (ao 2) (ao 8)) (aH (dOp gIx (ao 1) (ao 3)) (aH (dOp gIx (ao 2) (ao 3)) (bw)))))))) (dG (dC (.bool false))) (dX)))) (λ_ δ=>∃T S,δ=[some (.d (.list (hs.map .int))),some (.d (.list (gs.map wiD))),some (.d (.list (ps.map .int))),T,V,W,X,Y,S]) (gC 0 (gs.length:Int)) [some (.d (.list (hs.map .int))),some (.d (.list (gs.map wiD))),some (.d (.list (ps.map .int))),T,V,W,X,Y,none] ⟨T,none,rfl⟩
    (by
     rintro j d δ hd ⟨T,S,rfl⟩
     obtain⟨O,rfl⟩:=lR hd
     rcases F j S (by omega)with⟨R,b,Z⟩|⟨b,Z⟩
     ·exact⟨_,_,rfl,.inl Z,some (.d (.int (j:Int))),R,rfl⟩
     ·have:=Q j (by omega);rw[b]at this;cases this)
   simp only[EV,reduceIte,aq,aA,aj,ak,aB,aC,aD,I,cP,lMp,ne,H,e,G]
end
noncomputable def gp(g:Wi):Sd.Gp:=(g.1,g.2.1,g.2.2.toNat)
theorem Gm{l:List Int}(h:l≠[]):t_ [.tuple (l.map .int)]=some (.int (mx l)):=by
 cases l with
 |nil=>exact absurd rfl h
 |cons x r=>
  show(match dU ((x::r).map .int)with|some (i::r)=>some (PyData.int (mxI i r))|_=>none)=_
  rw[tG]
  rfl
noncomputable def stN(row:List Int)(g:Wi):List Nat:=(aR ((row.length:Int)-g.2.2+1).toNat).filter λs=>decide (mx (sli row (s:Int) g.2.2)<=g.1)
theorem JQ{f:FE}{fl:FO}{lo hi:Option Int}(h:f δ=some (.tuple l))(h1:fl δ=some lo)(h2:fh δ=some hi)(B:flats l=true):wX f fl fh δ=some (.tuple (cutD l lo hi)):=by
 unfold wX
 rw[h,aM,h1,aM,h2,aM]
 dsimp only
 rw[if_pos B]
theorem Ih(B:1<=g.2.2)(D:g.2.2<=6)(J:row.length<=1000):je [rwD row,wiD g]=some (.list ((stN row g).map λs:Nat=>PyData.int (s:Int))):=by
 have V:gIx (wiD g) (.int 0)=some (.int g.1):=rfl
 have i2:gIx (wiD g) (.int 2)=some (.int g.2.2):=rfl
 have C:=H_ (g:=(gNl 0)) (c:=(bL (dOp gLe (dCall t_ (aH (wX (ao 2) (fM (ao 0)) (fM (dOp gG (ao 0) (dOp gIx (ao 1) (dC (.int 2)))))) (bw))) (dOp gIx (ao 1) (dC (.int 0)))))) (e:=(fL (ao 0))) (δ:=[none,some (.d (wiD g)),some (.d (rwD row))]) (λs:Nat=>PyData.int (s:Int)) (λs=>decide (mx (sli row (s:Int) g.2.2)<=g.1)) (λs:Nat=>PyData.int (s:Int)) (aR ((row.length:Int)-g.2.2+1).toNat) (λs hs=>by
  have hs:=aZ.mp hs
  have Y:(s:Int)<=(row.length:Int)-g.2.2:=by omega
  refine⟨[some (.d (.int (s:Int))),some (.d (wiD g)),some (.d (rwD row))],rfl,?_,λ_=>rfl⟩
  have sl:wX (ao 2) (fM (ao 0)) (fM (dOp gG (ao 0) (dOp gIx (ao 1) (dC (.int 2))))) [some (.d (.int (s:Int))),some (.d (wiD g)),some (.d (rwD row))]=some (.tuple ((sli row (s:Int) g.2.2).map .int)):=by
   rw[JQ (l:=row.map .int) (lo:=some (s:Int)) (hi:=some ((s:Int)+g.2.2)) rfl rfl rfl (qW _),xW (by omega) Y B]
  simp only[EV,reduceIte,aq,aA,aj,ak,aB,aC,aD,sl,Gm (wg (by omega) Y B),V])
 have T:∀a b c:Option U,nF 1 [1,0] [a,b,c]=[none,b,a]:=λ_ _ _=>rfl
 have Z:∀k:Int,-(2^62)<=k->k<2^62->ud (some [.int k])=some ((aR k.toNat).map λs:Nat=>PyData.int (s:Int)):=λk h1 h2=>by
  rw[Gi h1 h2]
  unfold gC
  rw[p7]
  congr 1
  exact eO λs _=>by rw[jM]
 have X:iz [rwD row]=some (.int (row.length:Int)):=by
  show some (PyData.int ((row.map PyData.int).length:Int))=_
  rw[au]
 have Z:=Z ((row.length:Int)-g.2.2+1) (by omega) (by omega)
 have W:((aR ((row.length:Int)-g.2.2+1).toNat).map λs:Nat=>PyData.int (s:Int)).length<=100000:=by
  rw[au,bN]
  omega
 unfold je
 simp only[EV,reduceIte,aq,aA,aj,ak,aB,aC,aD,X,i2,T,Z,C,W]
 rfl
noncomputable def nbI(g:Wi)(e:Int)(b:Bool):Int:=if b=true then g.2.1 else if e<=g.1 then 0 else e
theorem Bt(g:Wi)(e:Int)(b:Bool):fU [.int e,wiD g,.bool b]=some (.int (nbI g e b)):=by
 have Z:gIx (wiD g) (.int 0)=some (.int g.1):=rfl
 have i1:gIx (wiD g) (.int 1)=some (.int g.2.1):=rfl
 show Com.fU _=_
 unfold Com.fU nbI
 cases b with
 |true=>
  simp only[EV,reduceIte,aq,aA,aj,ak,aB,aC,aD,i1]
 |false=>
  by_cases c:e<=g.1
  ·simp only[EV,reduceIte,aq,aA,aj,ak,aB,aC,aD,Z,dTr c]
   rw[if_neg (by decide),if_pos c]
  ·simp only[EV,reduceIte,aq,aA,aj,ak,aB,aC,aD,Z,dFa c]
   rw[if_neg (by decide),if_neg c]
theorem Ii{s:Nat}(J:1<=g.2.2)(B:g.2.2<=6)(D:row.length<=1000):gw [rwD row,wiD g,.int (s:Int)]=some (rwD (Sd.put row (gp g) s)):=by
 have i2:gIx (wiD g) (.int 2)=some (.int g.2.2):=rfl
 have V:pL (row.map .int)=(aR row.length).map λk:Nat=>PyData.tuple [.int (k:Int),.int (row.getD k 0)]:=Li row
 have fe:HD (ao 0) [some (.d (rwD row)),some (.d (wiD g)),some (.d (.int (s:Int))),some (.d (.int ((s:Int)+g.2.2)))]=some ((aR row.length).map λk:Nat=>PyData.tuple [.int (k:Int),.int (row.getD k 0)]):=by
  rw[<-V]
  rfl
 have C:=Ds (g:=(gTn 2 (cV (gNl 0) (cV (gNl 1) (jZ))))) (c:=(D3.m6)) (e:=(dCall fU (aH (ao 1) (aH (ao 2) (aH (ju gLe gLt (ao 3) (ao 0) (ao 4)) (bw)))))) (δ:=[none,none,some (.d (wiD g)),some (.d (.int (s:Int))),some (.d (.int ((s:Int)+g.2.2)))]) (λk:Nat=>PyData.tuple [.int (k:Int),.int (row.getD k 0)]) (λk:Nat=>PyData.int (Sd.cell (gp g) s k (row.getD k 0))) (aR row.length) (λk S=>by
  refine⟨[some (.d (.int (k:Int))),some (.d (.int (row.getD k 0))),some (.d (wiD g)),some (.d (.int (s:Int))),some (.d (.int ((s:Int)+g.2.2)))],rfl,rfl,?_⟩
  have cl:∀b:Bool,(b=true<->s<=k/\k<s+g.2.2.toNat)->nbI g (row.getD k 0) b=Sd.cell (gp g) s k (row.getD k 0):=λb Z=>by
   unfold nbI Sd.cell gp
   dsimp only
   by_cases c:s<=k/\k<s+g.2.2.toNat
   ·rw[if_pos (Z.mpr c),if_pos c]
   ·rw[if_neg (λz=>c (Z.mp z)),if_neg c]
  by_cases Y:(s:Int)<=(k:Int)
  ·rw[<-cl (decide ((k:Int)<(s:Int)+g.2.2)) (by rw[decide_eq_true_iff];omega)]
   simp only[EV,reduceIte,aq,aA,aj,ak,aB,aC,aD,dTr Y,Bt]
  ·rw[<-cl false (by constructor<;>intro z;cases z;omega)]
   simp only[EV,reduceIte,aq,aA,aj,ak,aB,aC,aD,dFa Y,Bt])
 have T:∀a b c d:Option U,nF 2 [1,2,3] [a,b,c,d]=[none,none,b,c,d]:=λ_ _ _ _=>rfl
 have X:Sd.put row (gp g) s=(aR row.length).map λk=>Sd.cell (gp g) s k (row.getD k 0):=by
  unfold Sd.put
  apply mG
  ·simp
  ·intro k h1 h2
   have h1:k<row.length:=by simpa using h1
   rw[List.getElem_mapIdx,gh,kE,aK,aF h1]
   rfl
 have W:((aR row.length).map λk:Nat=>PyData.tuple [.int (k:Int),.int (row.getD k 0)]).length<=100000:=by
  rw[au,bN];omega
 unfold gw
 simp only[EV,reduceIte,aq,aA,aj,ak,aB,aC,aD,i2,fe,T,C,W,yJ]
 rw[X]
 unfold rwD
 rw[dF]
 rfl
noncomputable def Aa(g:Wi)(row:List Int)(S:List Tte)(ss:List Nat):List Tte:=ss.foldl (λS s=>qJ S (Sd.put row (gp g) s) (row,(s:Int))) S
noncomputable def jR(g:Wi)(rows:List (List Int))(S:List Tte):List Tte:=rows.foldl (λS row=>Aa g row S (stN row g)) S
theorem Gn(S:List Tte)(k:List Int)(v:List Int×Int):(qJ S k v).length<=S.length+1:=by
 unfold qJ
 split<;>simp
theorem Gq(g:Wi)(row:List Int):∀(ss:List Nat)(S:List Tte),(Aa g row S ss).length<=S.length+ss.length
 |[],S=>aL _
 |s::ss,S=>by
  have h1:=Gq g row ss (qJ S (Sd.put row (gp g) s) (row,(s:Int)))
  have h2:=Gn S (Sd.put row (gp g) s) (row,(s:Int))
  show(Aa g row (qJ S (Sd.put row (gp g) s) (row,(s:Int))) ss).length<=_
  rw[bB]
  omega
theorem JR(row:List Int)(g:Wi)(B:1<=g.2.2):(stN row g).length<=row.length:=by
 unfold stN
 refine bF (rD _ _) ?_
 rw[bN]
 omega
theorem oJ{g:FG}{b:FS}{r:List D}{B J:DS}(h1:g d δ=some B)(h2:b B=some (.nx J)):iJ g b (d::r) δ=iJ g b r J:=by
 rw[iJ,h1,aM,h2]
 rfl
theorem Dv(k:List Int):CK (rwD k)=some k:=o8 k
theorem Uq(v:List Int×Int):KH (ttV v)=some v:=by
 show(dU (v.1.map PyData.int)).map (·,v.2)=_
 rw[o8]
 rfl
theorem Ur{fv:FE}{k:List Int}{v:List Int×Int}(D:ao i δ=some (dtt S))(h1:fk δ=some (rwD k))(h2:fv δ=some (ttV v))(B:S.length<1000000):rY i fk fv δ=some (.nx (δ.set i (some (.d (dtt (qJ S k v)))))):=by
 unfold rY
 rw[D,aM,h1,aM,h2,aM,Fq,aM,Dv,aM,Uq,aM,if_pos B]
theorem zF(O:1<=g.2.2)(B:g.2.2<=6)(J:row.length<=1000)(a:Option U):∀(ss:List Nat)(S:List Tte)(u:Option U),S.length+ss.length<1000000 ->
 ∃D,iJ (gNl 4) (rY 2 (dCall gw (aH (ao 3) (aH (ao 1) (aH (ao 4) (bw))))) (dTup (aH (ao 3) (aH (ao 4) (bw))))) (ss.map λs:Nat=>PyData.int (s:Int)) [a,some (.d (wiD g)),some (.d (dtt S)),some (.d (rwD row)),u]=some (.nx [a,some (.d (wiD g)),some (.d (dtt (Aa g row S ss))),some (.d (rwD row)),D])
 |[],S,u,_=>⟨u,rfl⟩
 |s::ss,S,u,Z=>by
  rw[bB]at Z
  have b:=Ii (row:=row) (g:=g) (s:=s) O B J
  have h1:(dCall gw (aH (ao 3) (aH (ao 1) (aH (ao 4) (bw))))) [a,some (.d (wiD g)),some (.d (dtt S)),some (.d (rwD row)),some (.d (.int (s:Int)))]=some (rwD (Sd.put row (gp g) s)):=by
   simp only[EV,reduceIte,aq,aA,aj,ak,aB,aC,aD,b]
  have h2:(dTup (aH (ao 3) (aH (ao 4) (bw)))) [a,some (.d (wiD g)),some (.d (dtt S)),some (.d (rwD row)),some (.d (.int (s:Int)))]=some (ttV (row,(s:Int))):=by
   simp only[EV,reduceIte,aq,aA,aj,ak,aB,aC,aD,Com.sz (show 2<=1000000 by decide)]
   rfl
  have st:=Ur (i:=2) (S:=S) rfl h1 h2 (by omega)
  have dl:=Gn S (Sd.put row (gp g) s) (row,(s:Int))
  obtain⟨D,e⟩:=zF O B J a ss (qJ S (Sd.put row (gp g) s) (row,(s:Int))) (some (.d (.int (s:Int)))) (by omega)
  exact⟨D,(oJ rfl st).trans e⟩
theorem zG(J:1<=g.2.2)(B:g.2.2<=6)(a:Option U):∀(rows:List (List Int))(S:List Tte)(u v:Option U),(∀r∈rows,r.length<=100)->S.length+100*rows.length<1000000 ->
 ∃D O,iJ (gNl 3) (lY (nG (dCall je (aH (ao 3) (aH (ao 1) (bw))))) (gNl 4) (rY 2 (dCall gw (aH (ao 3) (aH (ao 1) (aH (ao 4) (bw))))) (dTup (aH (ao 3) (aH (ao 4) (bw)))))) (rows.map rwD) [a,some (.d (wiD g)),some (.d (dtt S)),u,v]=some (.nx [a,some (.d (wiD g)),some (.d (dtt (jR g rows S))),D,O])
 |[],S,u,v,_,_=>⟨u,v,rfl⟩
 |row::rows,S,u,v,Z,W=>by
  rw[bB]at W
  have R:=Z row aG
  have st:=Ih (row:=row) (g:=g) J B (by omega)
  have sl:=JR row g J
  obtain⟨D,e⟩:=zF (g:=g) (row:=row) J B (by omega) a (stN row g) S v (by omega)
  have P:=Gq g row (stN row g) S
  have Q:((stN row g).map λs:Nat=>PyData.int (s:Int)).length<=100000:=by rw[au];omega
  have T:(lY (nG (dCall je (aH (ao 3) (aH (ao 1) (bw))))) (gNl 4) (rY 2 (dCall gw (aH (ao 3) (aH (ao 1) (aH (ao 4) (bw))))) (dTup (aH (ao 3) (aH (ao 4) (bw)))))) [a,some (.d (wiD g)),some (.d (dtt S)),some (.d (rwD row)),v]=some (.nx [a,some (.d (wiD g)),some (.d (dtt (Aa g row S (stN row g)))),some (.d (rwD row)),D]):=by
   simp only[EV,reduceIte,aq,aA,aj,ak,aB,aC,aD,st]
   exact e
  obtain⟨X,Y,V⟩:=zG J B a rows (Aa g row S (stN row g)) (some (.d (rwD row))) D (λr h=>Z r (aJ _ h)) (by omega)
  exact⟨X,Y,(oJ rfl T).trans V⟩
theorem Qs(J:1<=g.2.2)(B:g.2.2<=6)(D:∀r∈rows,r.length<=100)(O:rows.length<=1000):eY [.list (rows.map rwD),wiD g]=some (dtt (jR g rows [])):=by
 obtain⟨u,v,e⟩:=zG (g:=g) J B (some (.d (.list (rows.map rwD)))) rows [] none none D (by simp;omega)
 have e:iJ (gNl 3) (lY (nG (dCall je (aH (ao 3) (aH (ao 1) (bw))))) (gNl 4) (rY 2 (dCall gw (aH (ao 3) (aH (ao 1) (aH (ao 4) (bw))))) (dTup (aH (ao 3) (aH (ao 4) (bw)))))) (rows.map rwD) [some (.d (.list (rows.map rwD))),some (.d (wiD g)),some (.d (.dict [])),none,none]=some (.nx [some (.d (.list (rows.map rwD))),some (.d (wiD g)),some (.d (dtt (jR g rows []))),u,v]):=e
 have Z:(rows.map rwD).length<=100000:=by rw[au];omega
 unfold eY
 simp only[EV,reduceIte,aq,aA,aj,ak,aB,aC,aD]
 rw[e]
 simp only[EV,reduceIte,aq,aA,aj,ak,aB,aC,aD]
noncomputable def cU(S:List Tte):List (List Int):=S.map (·.1)
noncomputable def lv:List (List Int)->List Wi->List (List Tte)
 |_,[]=>[]
 |rows,g::gs=>jR g rows []::if jR g rows []=[]then []else lv (XJ.f9 (cU (jR g rows []))) gs
theorem oK(rows:List (List Int)):lv rows []=[]:=by unfold lv;rfl
theorem mX(rows:List (List Int))(g:Wi)(gs:List Wi):lv rows (g::gs)=jR g rows []::if jR g rows []=[]then []else lv (XJ.f9 (cU (jR g rows []))) gs:=by conv=>lhs;unfold lv
noncomputable def Few(L:List (List Tte)):Prop:=∀S∈L,S.length<=400/\∀k∈cU S,k≠[]/\k.length<=100
theorem Gs(S:List Tte):rZ (dtt S)=some (cU S):=by
 show(match wW (ttP S)with|some Z=>some (ou (λq:Tte=>q.1) Z)|none=>tsD (ttP S))=_
 rw[CN]
 rfl
theorem Dw(S:List Tte):XJ.mz [dtt S]=some (.int (S.length:Int)):=by
 show(rZ (dtt S)).map (λks=>PyData.int (ks.length:Int))=_
 rw[Gs]
 show some (PyData.int ((cU S).length:Int))=_
 unfold cU
 rw[au]
theorem zH(h:S.length<=400)(B:∀k∈cU S,k≠[]):XJ.iZ [dtt S]=some (.list ((XJ.f9 (cU S)).map rwD)):=by
 show(rZ (dtt S)).bind _=_
 rw[Gs,aM,if_pos]
 refine⟨by unfold cU;rw[au];omega,cJ.mpr λk Z=>?_⟩
 have:=B k Z
 cases k with
 |nil=>exact absurd rfl this
 |cons _ _=>rfl
theorem fu(ks:List (List Int)):(XJ.f9 ks).Perm ks:=XJ.fu ks
theorem Dy(h:i<gs.length):pAt (gs.map wiD) (i:Int)=some (wiD (gat gs i)):=by
 rw[m9 wiD (0,0,0) (by omega) (by omega)]
 rfl
noncomputable def gOk(g:Wi):Prop:=1<=g.2.2/\g.2.2<=6
theorem Gu(J:∀g∈gs,gOk g)(a:Option U):∀(ts:List Nat)(rows:List (List Int))(acc:List (List Tte))(u v:Option U),(∀t∈ts,t<gs.length)->rows.length<=1000->(∀r∈rows,r.length<=100)->acc.length+ts.length<=1000->Few (lv rows (ts.map (gat gs))) ->
 (∃r' D B,iJ (gNl 4) (bU (bQ 5 (dCall eY (aH (ao 3) (aH (dOp gIx (ao 1) (ao 4)) (bw))))) (bU (uU 2 (ao 5)) (bU (sIf (bL (dOp gGt (dCall XJ.mz (aH (ao 5) (bw))) (dC (.int 400)))) ((λ_=>none)) (dX)) (bU (sIf (bL (dOp gEq (dCall XJ.mz (aH (ao 5) (bw))) (dC (.int 0)))) (rW (ao 2)) (dX)) (bQ 3 (dCall XJ.iZ (aH (ao 5) (bw)))))))) (ts.map λt:Nat=>PyData.int (t:Int)) [a,some (.d (.list (gs.map wiD))),some (.d (.list (acc.map dtt))),some (.d (.list (rows.map rwD))),u,v]=some (.nx [a,some (.d (.list (gs.map wiD))),some (.d (.list ((acc++lv rows (ts.map (gat gs))).map dtt))),r',D,B])) \/
 iJ (gNl 4) (bU (bQ 5 (dCall eY (aH (ao 3) (aH (dOp gIx (ao 1) (ao 4)) (bw))))) (bU (uU 2 (ao 5)) (bU (sIf (bL (dOp gGt (dCall XJ.mz (aH (ao 5) (bw))) (dC (.int 400)))) ((λ_=>none)) (dX)) (bU (sIf (bL (dOp gEq (dCall XJ.mz (aH (ao 5) (bw))) (dC (.int 0)))) (rW (ao 2)) (dX)) (bQ 3 (dCall XJ.iZ (aH (ao 5) (bw)))))))) (ts.map λt:Nat=>PyData.int (t:Int)) [a,some (.d (.list (gs.map wiD))),some (.d (.list (acc.map dtt))),some (.d (.list (rows.map rwD))),u,v]=some (.ex "" "" (.list ((acc++lv rows (ts.map (gat gs))).map dtt)))
 |[],rows,acc,u,v,_,_,_,_,_=>.inl ⟨_,_,_,by simp only[iG,oK,cT];exact rfl⟩
 |t::ts,rows,acc,u,v,P,M,R,ha,Y=>by
  rw[bB]at ha
  have tl:=P t aG
  have O:gOk (gat gs t):=by
   unfold gat
   rw[aK,aF tl]
   exact J _ (cg tl)
  have T:=Qs (g:=gat gs t) (rows:=rows) O.1 O.2 R M
  rw[show(t::ts).map (gat gs)=gat gs t::ts.map (gat gs)from rfl,mX]at Y ⊢
  generalize I:jR (gat gs t) rows []=S at T Y ⊢
  obtain⟨f1,f2⟩:=Y S aG
  have V:=zH f1 λk L=>(f2 k L).1
  have tn:=Dw S
  have al:(acc.map dtt).length<1000000:=by rw[au];omega
  have Q:decide ((S.length:Int)>400)=false:=dFa (by omega)
  have ga:=Dy tl
  by_cases c:S=[]
  ·subst c
   refine .inr ?_
   rw[if_pos rfl,aQ]
   have W:decide ((([]:List Tte).length:Int)=0)=true:=rfl
   have X:(bU (bQ 5 (dCall eY (aH (ao 3) (aH (dOp gIx (ao 1) (ao 4)) (bw))))) (bU (uU 2 (ao 5)) (bU (sIf (bL (dOp gGt (dCall XJ.mz (aH (ao 5) (bw))) (dC (.int 400)))) ((λ_=>none)) (dX)) (bU (sIf (bL (dOp gEq (dCall XJ.mz (aH (ao 5) (bw))) (dC (.int 0)))) (rW (ao 2)) (dX)) (bQ 3 (dCall XJ.iZ (aH (ao 5) (bw)))))))) [a,some (.d (.list (gs.map wiD))),some (.d (.list (acc.map dtt))),some (.d (.list (rows.map rwD))),some (.d (.int (t:Int))),v]=some (.ex "" "" (.list ((acc++[[]]).map dtt))):=by
    simp only[EV,reduceIte,aq,aA,aj,ak,aB,aC,aD,ga,T,al,tn,Q,W]
    rw[dj]
    rfl
   rw[iJ,show(gNl 4) (.int (t:Int)) [a,some (.d (.list (gs.map wiD))),some (.d (.list (acc.map dtt))),some (.d (.list (rows.map rwD))),u,v]=some [a,some (.d (.list (gs.map wiD))),some (.d (.list (acc.map dtt))),some (.d (.list (rows.map rwD))),some (.d (.int (t:Int))),v]from rfl,aM,X]
   rfl
  ·rw[if_neg c]at Y ⊢
   have W:decide ((S.length:Int)=0)=false:=dFa (by
    have:S.length≠0:=λz=>c (cB.mp z)
    omega)
   have pm:=fu (cU S)
   have X:(bU (bQ 5 (dCall eY (aH (ao 3) (aH (dOp gIx (ao 1) (ao 4)) (bw))))) (bU (uU 2 (ao 5)) (bU (sIf (bL (dOp gGt (dCall XJ.mz (aH (ao 5) (bw))) (dC (.int 400)))) ((λ_=>none)) (dX)) (bU (sIf (bL (dOp gEq (dCall XJ.mz (aH (ao 5) (bw))) (dC (.int 0)))) (rW (ao 2)) (dX)) (bQ 3 (dCall XJ.iZ (aH (ao 5) (bw)))))))) [a,some (.d (.list (gs.map wiD))),some (.d (.list (acc.map dtt))),some (.d (.list (rows.map rwD))),some (.d (.int (t:Int))),v]=some (.nx [a,some (.d (.list (gs.map wiD))),some (.d (.list ((acc++[S]).map dtt))),some (.d (.list ((XJ.f9 (cU S)).map rwD))),some (.d (.int (t:Int))),some (.d (dtt S))]):=by
    simp only[EV,reduceIte,aq,aA,aj,ak,aB,aC,aD,ga,T,al,tn,Q,W,V]
    rw[dj]
    rfl
   have Z:=Gu J a ts (XJ.f9 (cU S)) (acc++[S]) (some (.d (.int (t:Int)))) (some (.d (dtt S))) (λq N=>P q (aJ _ N)) (by rw[pm.length_eq];unfold cU;rw[au];omega) (λr R=>(f2 r (pm.mem_iff.mp R)).2) (by rw[bG];simp;omega) (λK h'=>Y K (aJ _ h'))
   rw[show acc++[S]++lv (XJ.f9 (cU S)) (ts.map (gat gs))=acc++S::lv (XJ.f9 (cU S)) (ts.map (gat gs))by simp]at Z
   rw[aQ]
   rcases Z with⟨r',D,B,Z⟩|Z
   ·exact .inl ⟨r',D,B,(oJ rfl X).trans Z⟩
   ·exact .inr ((oJ rfl X).trans Z)
noncomputable def inT(gs:List Wi)(ts:List Nat):List Wi:=ts.map (gat gs)
theorem all_gen{ts:List Nat}(J:∀g∈gs,gOk g)(hl:gs.length<64)(B:hs.length<=100)(D:jP [.list (gs.map wiD)]=some (.list (ts.map λt:Nat=>PyData.int (t:Int))))(pm:ts.Perm (aR gs.length))(O:Few (lv [hs] (inT gs ts))):
 jQ [.list (hs.map .int),.list (gs.map wiD)]=some (.list ((lv [hs] (inT gs ts)).map dtt)):=by
 have tl:ts.length=gs.length:=by rw[pm.length_eq,bN]
 have L:=Gu J (some (.d (.list (hs.map .int)))) ts [hs] [] none none (λt h=>aZ.mp (pm.mem_iff.mp h)) (by simp) (λr X=>by rw[aO.mp X];exact B) (by simp;omega) O
 have W:(ts.map λt:Nat=>PyData.int (t:Int)).length<=100000:=by rw[au];omega
 have L:(∃r' Y Z,iJ (gNl 4) (bU (bQ 5 (dCall eY (aH (ao 3) (aH (dOp gIx (ao 1) (ao 4)) (bw))))) (bU (uU 2 (ao 5)) (bU (sIf (bL (dOp gGt (dCall XJ.mz (aH (ao 5) (bw))) (dC (.int 400)))) ((λ_=>none)) (dX)) (bU (sIf (bL (dOp gEq (dCall XJ.mz (aH (ao 5) (bw))) (dC (.int 0)))) (rW (ao 2)) (dX)) (bQ 3 (dCall XJ.iZ (aH (ao 5) (bw)))))))) (ts.map λt:Nat=>PyData.int (t:Int)) [some (.d (.list (hs.map .int))),some (.d (.list (gs.map wiD))),some (.d (.list [])),some (.d (.list [.tuple (hs.map .int)])),none,none]=some (.nx [some (.d (.list (hs.map .int))),some (.d (.list (gs.map wiD))),some (.d (.list ((lv [hs] (inT gs ts)).map dtt))),r',Y,Z])) \/
  iJ (gNl 4) (bU (bQ 5 (dCall eY (aH (ao 3) (aH (dOp gIx (ao 1) (ao 4)) (bw))))) (bU (uU 2 (ao 5)) (bU (sIf (bL (dOp gGt (dCall XJ.mz (aH (ao 5) (bw))) (dC (.int 400)))) ((λ_=>none)) (dX)) (bU (sIf (bL (dOp gEq (dCall XJ.mz (aH (ao 5) (bw))) (dC (.int 0)))) (rW (ao 2)) (dX)) (bQ 3 (dCall XJ.iZ (aH (ao 5) (bw)))))))) (ts.map λt:Nat=>PyData.int (t:Int)) [some (.d (.list (hs.map .int))),some (.d (.list (gs.map wiD))),some (.d (.list [])),some (.d (.list [.tuple (hs.map .int)])),none,none]=some (.ex "" "" (.list ((lv [hs] (inT gs ts)).map dtt))):=L
 unfold jQ
 simp only[EV,reduceIte,aq,aA,aj,ak,aB,aC,aD,U_,yJ,cZ,Com.sz (show 1<=1000000 by decide),D]
 rcases L with⟨r',Y,Z,L⟩|L
 ·rw[L]
  simp only[EV,reduceIte,aq,aA,aj,ak,aB,aC,aD,U_,NK,WK,Nz]
 ·rw[L]
  rfl
theorem Bu{k:List Int}:pA S k=none<->k∉cU S:=by
 unfold pA cU
 rw[Option.map_eq_none_iff,jf]
 constructor
 ·intro h z
  obtain⟨q,Z,e⟩:=bV.mp z
  exact h q Z (by simp[e])
 ·intro h q Z z
  exact h (bV.mpr ⟨q,Z,of_decide_eq_true z⟩)
theorem xX{k:List Int}{v:List Int×Int}:(k∈cU S/\qJ S k v=S)\/(k∉cU S/\qJ S k v=S++[(k,v)]):=by
 unfold qJ
 by_cases h:k∈cU S
 ·refine .inl ⟨h,if_pos ?_⟩
  cases e:pA S k with
  |none=>exact absurd h (Bu.mp e)
  |some _=>rfl
 ·refine .inr ⟨h,if_neg ?_⟩
  rw[Bu.mpr h]
  decide
theorem Qt{k:List Int}{v:List Int×Int}{q:Tte}(h:q∈S):q∈qJ S k v:=by
 rcases xX (S:=S) (k:=k) (v:=v)with⟨_,e⟩|⟨_,e⟩<;>rw[e]
 ·exact h
 ·exact bY _ h
theorem Qu{k:List Int}{v:List Int×Int}{q:Tte}(h:q∈qJ S k v):q∈S\/q=(k,v):=by
 rcases xX (S:=S) (k:=k) (v:=v)with⟨_,e⟩|⟨_,e⟩<;>rw[e]at h
 ·exact .inl h
 ·rcases cD.mp h with h|h
  ·exact .inl h
  ·exact .inr (aO.mp h)
theorem Qw(S:List Tte)(k:List Int)(v:List Int×Int):k∈cU (qJ S k v):=by
 rcases xX (S:=S) (k:=k) (v:=v)with⟨h,e⟩|⟨_,e⟩<;>rw[e]
 ·exact h
 ·exact bV.mpr ⟨_,bJ _ (gM _),rfl⟩
theorem Us{k:List Int}{v:List Int×Int}(h:(cU S).Nodup):(cU (qJ S k v)).Nodup:=by
 rcases xX (S:=S) (k:=k) (v:=v)with⟨_,e⟩|⟨Z,e⟩<;>rw[e]
 ·exact h
 ·unfold cU at h Z ⊢
  rw[dj,oO]
  refine⟨h,by simp,λa ha b Y=>?_⟩
  rw[show b=k by simpa using Y]
  intro z
  exact Z (z▸ha)
section
variable{g:Wi}
theorem zJ{q:Tte}:∀(ss:List Nat)(S:List Tte),q∈S->q∈Aa g row S ss
 |[],_,h=>h
 |_::ss,_,h=>zJ ss _ (Qt h)
theorem Gv{q:Tte}:∀(ss:List Nat)(S:List Tte),q∈Aa g row S ss->q∈S\/∃s∈ss,q=(Sd.put row (gp g) s,(row,(s:Int)))
 |[],_,h=>.inl h
 |s::ss,S,h=>by
  rcases Gv ss _ h with h|⟨t,Z,e⟩
  ·rcases Qu h with h|h
   ·exact .inl h
   ·exact .inr ⟨s,aG,h⟩
  ·exact .inr ⟨t,aJ _ Z,e⟩
theorem Gw:∀(ss:List Nat)(S:List Tte),∀s∈ss,Sd.put row (gp g) s∈cU (Aa g row S ss)
 |[],_,s,h=>by cases h
 |t::ss,S,s,h=>by
  rcases aU.mp h with rfl|h
  ·obtain⟨q,Z,e⟩:=bV.mp (Qw S (Sd.put row (gp g) s) (row,(s:Int)))
   exact bV.mpr ⟨q,zJ ss _ Z,e⟩
  ·exact Gw ss _ s h
theorem JT:∀(ss:List Nat)(S:List Tte),(cU S).Nodup->(cU (Aa g row S ss)).Nodup
 |[],_,h=>h
 |_::ss,_,h=>JT ss _ (Us h)
theorem Gx{q:Tte}:∀(rows:List (List Int))(S:List Tte),q∈S->q∈jR g rows S
 |[],_,h=>h
 |_::rows,_,h=>Gx rows _ (zJ _ _ h)
theorem sG{q:Tte}:∀(rows:List (List Int))(S:List Tte),q∈jR g rows S->q∈S\/∃row∈rows,∃s∈stN row g,q=(Sd.put row (gp g) s,(row,(s:Int)))
 |[],_,h=>.inl h
 |row::rows,S,h=>by
  rcases sG rows _ h with h|⟨r,Z,z⟩
  ·rcases Gv _ _ h with h|z
   ·exact .inl h
   ·exact .inr ⟨row,aG,z⟩
  ·exact .inr ⟨r,aJ _ Z,z⟩
theorem zK:∀(rows:List (List Int))(S:List Tte),∀row∈rows,∀s∈stN row g,Sd.put row (gp g) s∈cU (jR g rows S)
 |[],_,_,h,_,_=>by cases h
 |r::rows,S,row,h,s,hs=>by
  rcases aU.mp h with rfl|h
  ·obtain⟨q,Z,e⟩:=bV.mp (Gw (stN row g) S s hs)
   exact bV.mpr ⟨q,Gx rows _ Z,e⟩
  ·exact zK rows _ row h s hs
theorem JV:∀(rows:List (List Int))(S:List Tte),(cU S).Nodup->(cU (jR g rows S)).Nodup
 |[],_,h=>h
 |_::rows,_,h=>JV rows _ (JT _ _ h)
theorem ab4{l:List Int}(h:l≠[]){z:Int}:mx l<=z<->∀x∈l,x<=z:=by
 cases l with
 |nil=>exact absurd rfl h
 |cons a r=>
  have sp:=pN r a
  constructor
  ·intro Z x Y
   have:=sp.2 x Y
   show x<=z
   have Z:mxI a r<=z:=Z
   omega
  ·exact λZ=>Z _ sp.1
theorem xY{s:Nat}(B:gOk g):s∈stN row g<->Sd.fits row (gp g) s:=by
 have W:=B.1
 unfold stN Sd.fits gp
 dsimp only
 rw[dI,aZ,decide_eq_true_iff]
 have sl:∀(c:(s:Int)<=(row.length:Int)-g.2.2),(mx (sli row (s:Int) g.2.2)<=g.1<->∀r,s<=r->r<s+g.2.2.toNat->row.getD r 0<=g.1):=λc=>by
  rw[ab4 (wg (by omega) c W)]
  unfold sli
  rw[show((s:Int)).toNat=s by omega]
  constructor
  ·intro h r h1 h2
   refine h _ ?_
   rw[rE]
   refine⟨r-s,?_⟩
   rw[uo,if_pos (by omega),fj,show s+(r-s)=r by omega,aK,aF (by omega)]
   rfl
  ·intro h x X
   obtain⟨j,Z⟩:=rE.mp X
   rw[uo]at Z
   by_cases Y:j<g.2.2.toNat
   ·rw[if_pos Y,fj]at Z
    have:=h (s+j) (by omega) (by omega)
    rw[aK,Z]at this
    exact this
   ·rw[if_neg Y]at Z;cases Z
 constructor
 ·rintro⟨h1,h2⟩
  have c:(s:Int)<=(row.length:Int)-g.2.2:=by omega
  exact⟨by omega,(sl c).mp h2⟩
 ·rintro⟨h1,h2⟩
  have c:(s:Int)<=(row.length:Int)-g.2.2:=by omega
  exact⟨by omega,(sl c).mpr h2⟩
end
theorem JW:∀(gs:List Wi)(rows:List (List Int)),(∀g∈gs,gOk g)->[]∈lv rows gs->∀row∈rows,¬ ∃(ss:List Nat)(out:List Int),ss.length=gs.length/\Sd.Run row ((gs.map gp).zip ss) out
 |[],rows,_,h,_,_=>by rw[oK]at h;cases h
 |g::gs,rows,X,h,row,W=>by
  rintro⟨ss,out,Y,run⟩
  cases ss with
  |nil=>cases Y
  |cons s ss=>
   have run:Sd.fits row (gp g) s/\Sd.Run (Sd.put row (gp g) s) ((gs.map gp).zip ss) out:=run
   have Z:=zK (g:=g) rows [] row W s ((xY (X g aG)).mpr run.1)
   rw[mX]at h
   by_cases c:jR g rows []=[]
   ·rw[c]at Z
    cases Z
   ·rw[if_neg c]at h
    rcases aU.mp h with h|h
    ·exact c h.symm
    ·exact JW gs _ (λg' h'=>X g' (aJ _ h')) h _ ((fu _).mem_iff.mpr Z) ⟨ss,out,uP.inj Y,run.2⟩
noncomputable def bk:List (List Tte)->List Int->Option (List Int×List Nat)
 |[],row=>some (row,[])
 |S::L,row=>match bk L row with
  |some (r,ss)=>match pA S r with
   |some (p,z)=>some (p,z.toNat::ss)
   |none=>none
  |none=>none
theorem Lp{k:List Int}(h:k∈cU S):∃v,pA S k=some v/\(k,v)∈S:=by
 unfold pA
 cases e:S.find? λq=>decide (q.1=k)with
 |none=>
  obtain⟨q,Z,z⟩:=bV.mp h
  exact absurd (jf.mp e q Z) (by simp[z])
 |some q=>
  refine⟨q.2,rfl,?_⟩
  have h1:=iD e
  have h2:q.1=k:=of_decide_eq_true (q_ (p:=λq:Tte=>decide (q.1=k)) e)
  rw[<-h2]
  exact h1
noncomputable def wQ:List (List Tte)->List (List Int)->List (List Int)
 |[],rows=>rows
 |[S],_=>cU S
 |_::S::L,rows=>wQ (S::L) rows
theorem uL(S:List Tte)(L:List (List Tte))(rows:List (List Int)):wQ (S::L) rows=wQ L (cU S):=by
 induction L generalizing S rows with
 |nil=>rfl
 |cons T L Z=>
  show wQ (T::L) rows=wQ (T::L) (cU S)
  rw[Z,Z]
theorem Qx:∀(gs:List Wi)(rows:List (List Int)),(∀g∈gs,gOk g)->[]∉lv rows gs->∀row∈wQ (lv rows gs) rows,∃(B:List Int)(ss:List Nat),bk (lv rows gs) row=some (B,ss)/\B∈rows/\ss.length=gs.length/\Sd.Run B ((gs.map gp).zip ss) row
 |[],rows,_,_,row,h=>⟨row,[],by rw[oK];rfl,by rw[oK]at h;exact h,rfl,rfl⟩
 |g::gs,rows,X,hn,row,h=>by
  rw[mX]at hn h ⊢
  have c:jR g rows []≠[]:=λz=>hn (by rw[z];exact aG)
  rw[if_neg c]at hn h ⊢
  rw[uL]at h
  have pm:=fu (cU (jR g rows []))
  have h':row∈wQ (lv (XJ.f9 (cU (jR g rows []))) gs) (XJ.f9 (cU (jR g rows []))):=by
   cases W:lv (XJ.f9 (cU (jR g rows []))) gs with
   |nil=>
    rw[W]at h
    exact pm.mem_iff.mpr h
   |cons T L=>
    rw[W,uL]at h
    rw[uL]
    exact h
  obtain⟨Q,ss,e,Z,U,run⟩:=Qx gs _ (λg' h'=>X g' (aJ _ h')) (λz=>hn (aJ _ z)) row h'
  obtain⟨v,R,V⟩:=Lp (pm.mem_iff.mp Z)
  rcases sG rows [] V with z|⟨B,Y,s,hs,S⟩
  ·cases z
  ·injection S with q1 q2
   subst q2
   refine⟨B,s::ss,?_,Y,by rw[bB,bB,U],?_⟩
   ·unfold bk
    rw[e]
    dsimp only
    rw[R]
    rfl
   ·show Sd.fits B (gp g) s/\Sd.Run (Sd.put B (gp g) s) ((gs.map gp).zip ss) row
    rw[<-q1]
    exact⟨(xY (X g aG)).mp hs,run⟩
noncomputable def pZ:List D->List Nat->List Nat->List D
 |P,t::ts,s::ss=>(pZ P ts ss).set t (.int (s:Int))
 |P,_,_=>P
theorem vH:∀(P:List D)(ts ss:List Nat),(pZ P ts ss).length=P.length
 |P,t::ts,s::ss=>by rw[pZ,dh,vH]
 |P,[],_=>by unfold pZ;rfl
 |P,_::_,[]=>by unfold pZ;rfl
noncomputable def zpr(ts:List Nat)(L:List (List Tte)):List D:=(ts.zip L).map λq=>PyData.tuple [.int (q.1:Int),dtt q.2]
theorem Qy{r:List Int}{v:List Int×Int}(h:pA S r=some v):kW (dtt S) (rwD r)=some (ttV v):=by
 unfold kW
 rw[Fq,aM,Dv,aM,h]
 rfl
noncomputable def wu(S:List Tte):List Int:=(XJ.f9 (cU S)).getD 0 []
noncomputable def Gy:List (List Tte)->List Int
 |[]=>[]
 |[S]=>wu S
 |_::S::L=>Gy (S::L)
theorem Lq(S T:List Tte)(L:List (List Tte)):Gy (S::T::L)=Gy (T::L):=rfl
theorem Bv{a b:Option U}{n:Nat}:∀(ts:List Nat)(L:List (List Tte))(P:List D)(B:List Int)(ss:List Nat)(u v:Option U)(m:List D),L≠[]->ts.length=L.length->(∀t∈ts,t<P.length)->Few L->(∀S∈L,S≠[]/\∀q∈S,0<=q.2.2)->bk L (Gy L)=some (B,ss) ->
 ∃u' v',iJ (gTn 2 (cV (gNl 4) (cV (gNl 5) (jZ)))) (bU (sIf (bL (dUn Ez (ao 3))) (bQ 3 (dOp gIx (dCall XJ.iZ (aH (ao 5) (bw))) (dC (.int 0)))) (dX)) (bU (BX 2 (ao 4) (dOp gIx (dOp kW (ao 5) (ao 3)) (dC (.int 1)))) (bQ 3 (dOp gIx (dOp kW (ao 5) (ao 3)) (dC (.int 0)))))) ((zpr ts L).reverse++m) [a,b,some (.d (.list P)),some (.d .none),u,v]=iJ (gTn 2 (cV (gNl 4) (cV (gNl 5) (jZ)))) (bU (sIf (bL (dUn Ez (ao 3))) (bQ 3 (dOp gIx (dCall XJ.iZ (aH (ao 5) (bw))) (dC (.int 0)))) (dX)) (bU (BX 2 (ao 4) (dOp gIx (dOp kW (ao 5) (ao 3)) (dC (.int 1)))) (bQ 3 (dOp gIx (dOp kW (ao 5) (ao 3)) (dC (.int 0)))))) m [a,b,some (.d (.list (pZ P ts ss))),some (.d (rwD B)),u',v']
 |[],L,P,B,ss,u,v,m,N,V,_,_,_,_=>by
  cases L with
  |nil=>exact absurd rfl N
  |cons _ _=>cases V
 |t::ts,[],P,B,ss,u,v,m,N,_,_,_,_,_=>absurd rfl N
 |t::ts,S::L,P,B,ss,u,v,m,_,V,F,E,G,Z=>by
  have V:ts.length=L.length:=uP.inj V
  have tl:=F t aG
  obtain⟨f1,f2⟩:=E S aG
  obtain⟨z1,z2⟩:=G S aG
  have A:(zpr (t::ts) (S::L)).reverse++m=(zpr ts L).reverse++(PyData.tuple [.int (t:Int),dtt S]::m):=by
   unfold zpr
   rw[uh,aQ,jy,aV]
   rfl
  rw[A]
  have I:∀{r:List Int}{v:List Int×Int},pA S r=some v->0<=v.2:=λ{r v} h=>by
   unfold pA at h
   cases e:S.find? λq=>decide (q.1=r)with
   |none=>rw[e]at h;cases h
   |some q=>
    rw[e]at h
    cases h
    exact z2 q (iD e)
  have i1:∀v:List Int×Int,gIx (ttV v) (.int 1)=some (.int v.2):=λ_=>rfl
  have H:∀v:List Int×Int,gIx (ttV v) (.int 0)=some (rwD v.1):=λ_=>rfl
  have s:isNone .none=true:=rfl
  have nr:∀r:List Int,isNone (rwD r)=false:=λ_=>rfl
  have C:∀(x:Option U)(Q:List D)(u v:Option U),(gTn 2 (cV (gNl 4) (cV (gNl 5) (jZ)))) (PyData.tuple [.int (t:Int),dtt S]) [a,b,some (.d (.list Q)),x,u,v]=some [a,b,some (.d (.list Q)),x,some (.d (.int (t:Int))),some (.d (dtt S))]:=λ_ _ _ _=>rfl
  by_cases c:L=[]
  ·subst c
   obtain rfl:ts=[]:=cB.mp V
   have Z:(match pA S (wu S)with|some (p,z)=>some (p,z.toNat::[])|none=>none)=some (B,ss):=Z
   cases Y:pA S (wu S)with
   |none=>rw[Y]at Z;cases Z
   |some w=>
    rw[Y]at Z
    cases Z
    have w0:=I Y
    have gt:=Qy Y
    have y:=zH f1 λk Y=>(f2 k Y).1
    have i:0<(XJ.f9 (cU S)).length:=by
     rw[(fu _).length_eq]
     unfold cU
     rw[au]
     exact tO.mpr z1
    have fa:pAt ((XJ.f9 (cU S)).map rwD) 0=some (rwD (wu S)):=by
     rw[m9 rwD [] (by omega) (by omega)]
     rfl
    have O:=JK tl
    have M:(bU (sIf (bL (dUn Ez (ao 3))) (bQ 3 (dOp gIx (dCall XJ.iZ (aH (ao 5) (bw))) (dC (.int 0)))) (dX)) (bU (BX 2 (ao 4) (dOp gIx (dOp kW (ao 5) (ao 3)) (dC (.int 1)))) (bQ 3 (dOp gIx (dOp kW (ao 5) (ao 3)) (dC (.int 0)))))) [a,b,some (.d (.list P)),some (.d .none),some (.d (.int (t:Int))),some (.d (dtt S))]=some (.nx [a,b,some (.d (.list (P.set t (.int w.2)))),some (.d (rwD w.1)),some (.d (.int (t:Int))),some (.d (dtt S))]):=by
     simp only[EV,reduceIte,aq,aA,aj,ak,aB,aC,aD,s,y,fa,gt,i1,H,O,aM]
    refine⟨some (.d (.int (t:Int))),some (.d (dtt S)),(oJ (C _ _ _ _) M).trans ?_⟩
    rw[pZ,show pZ P [] []=P by unfold pZ;rfl,show((w.2.toNat:Nat):Int)=w.2 by omega]
  ·obtain⟨T,J,rfl⟩:=List.exists_cons_of_ne_nil c
   rw[Lq]at Z
   unfold bk at Z
   cases W:bk (T::J) (Gy (T::J))with
   |none=>rw[W]at Z;cases Z
   |some q=>
    obtain⟨R,X⟩:=q
    rw[W]at Z
    dsimp only at Z
    cases Y:pA S R with
    |none=>rw[Y]at Z;cases Z
    |some w=>
     rw[Y]at Z
     cases Z
     have w0:=I Y
     have gt:=Qy Y
     obtain⟨j,l,e⟩:=Bv (a:=a) (b:=b) (n:=n) ts (T::J) P R X u v (PyData.tuple [.int (t:Int),dtt S]::m) (by simp) V (λq o=>F q (aJ _ o)) (λK h'=>E K (aJ _ h')) (λK h'=>G K (aJ _ h')) W
     have O:pIx (pZ P ts X).length (t:Int)=some t:=JK (by rw[vH];exact tl)
     have M:(bU (sIf (bL (dUn Ez (ao 3))) (bQ 3 (dOp gIx (dCall XJ.iZ (aH (ao 5) (bw))) (dC (.int 0)))) (dX)) (bU (BX 2 (ao 4) (dOp gIx (dOp kW (ao 5) (ao 3)) (dC (.int 1)))) (bQ 3 (dOp gIx (dOp kW (ao 5) (ao 3)) (dC (.int 0)))))) [a,b,some (.d (.list (pZ P ts X))),some (.d (rwD R)),some (.d (.int (t:Int))),some (.d (dtt S))]=some (.nx [a,b,some (.d (.list ((pZ P ts X).set t (.int w.2)))),some (.d (rwD w.1)),some (.d (.int (t:Int))),some (.d (dtt S))]):=by
      simp only[EV,reduceIte,aq,aA,aj,ak,aB,aC,aD,nr,gt,i1,H,O,aM]
     refine⟨some (.d (.int (t:Int))),some (.d (dtt S)),e.trans ((oJ (C _ _ _ _) M).trans ?_)⟩
     rw[pZ,show((w.2.toNat:Nat):Int)=w.2 by omega]
theorem Gz{P:List D}:∀(ts ss:List Nat),ts.length=ss.length->∀i,i∈ts->i<P.length->(pZ P ts ss)[i]? = some (.int ((ss.getD (ts.idxOf i) 0:Nat):Int))
 |[],_,_,i,h,_=>by cases h
 |_::_,[],h,_,_,_=>by cases h
 |t::ts,s::ss,Y,i,hi,Z=>by
  rw[pZ,oN]
  by_cases c:t=i
  ·subst c
   rw[if_pos rfl,if_pos (by rw[vH];exact Z)]
   simp
  ·rw[if_neg c]
   rcases aU.mp hi with z|hi
   ·exact absurd z.symm c
   ·rw[Gz ts ss (uP.inj Y) i hi Z]
    have X:(t==i)=false:=by simpa using c
    rw[List.idxOf_cons,X]
    rfl
noncomputable def DK(n:Nat)(ts ss:List Nat):List Int:=(aR n).map λi=>((ss.getD (ts.idxOf i) 0:Nat):Int)
theorem Ut{ts ss:List Nat}(pm:ts.Perm (aR n))(B:ts.length=ss.length):pZ (aN n .none) ts ss=(DK n ts ss).map .int:=by
 apply eX
 intro i
 unfold DK
 rw[dF,bf]
 by_cases c:i<n
 ·rw[Gz ts ss B i (pm.mem_iff.mpr (aZ.mpr c)) (by simpa using c),dO c]
  rfl
 ·rw[bH (by rw[vH,bC];omega),bH (by rw[bN];omega)]
  rfl
theorem JX:∀(ts:List Nat)(L:List (List Tte)),lN (ts.map λt:Nat=>PyData.int (t:Int)) (L.map dtt)=zpr ts L
 |[],_=>by simp[lN,zpr]
 |_::_,[]=>by simp[lN,zpr]
 |t::ts,S::L=>by
  show PyData.tuple [.int (t:Int),dtt S]::lN (ts.map λt:Nat=>PyData.int (t:Int)) (L.map dtt)=_
  rw[JX ts L]
  rfl
theorem ab5{k:Nat}(h:k<=1000):uy (.list [.none]) (.int (k:Int))=some (.list (aN k .none)):=by
 show(if [PyData.none].length*((k:Int)).toNat<=1000000/\-(2^63)<=(k:Int)/\(k:Int)<2^63 then some (PyData.list (aN ((k:Int)).toNat [PyData.none]).flatten)else none)=_
 rw[if_pos ⟨by simp;omega,by omega,by omega⟩,show((k:Int)).toNat=k by omega]
 congr 2
 induction k with
 |zero=>rfl
 |succ k Z=>rw[b_,eU,Z (by omega),b_];rfl
section
variable{gs:List Wi}{ts:List Nat}{L:List (List Tte)}
theorem ur{B:List Int}{ss:List Nat}(hl:gs.length<64)(O:jP [.list (gs.map wiD)]=some (.list (ts.map λt:Nat=>PyData.int (t:Int))))(pm:ts.Perm (aR gs.length))(D:ts.length=L.length)(J:ts.length=ss.length)(hf:Few L)(hz:∀S∈L,S≠[]/\∀q∈S,0<=q.2.2)(hb:L≠[]->bk L (Gy L)=some (B,ss)):
 lB [.list (L.map dtt),.list (gs.map wiD)]=some (.list ((DK gs.length ts ss).map .int)):=by
 have tl:ts.length=gs.length:=by rw[pm.length_eq,bN]
 have V:=ab5 (k:=gs.length) (by omega)
 have W:v7 (.list (ts.map λt:Nat=>PyData.int (t:Int))) (.list (L.map dtt))=some (.list (zpr ts L)):=by
  show(if(ts.map λt:Nat=>PyData.int (t:Int)).length<=1000 then some (PyData.list (lN _ _))else none)=_
  rw[if_pos (by rw[au];omega),JX]
 have U:RP (dOp v7 (dCall jP (aH (ao 1) (bw))) (ao 0)) [some (.d (.list (L.map dtt))),some (.d (.list (gs.map wiD))),some (.d (.list (aN gs.length .none))),some (.d .none),none,none]=some (zpr ts L).reverse:=by
  unfold RP
  have:(dOp v7 (dCall jP (aH (ao 1) (bw))) (ao 0)) [some (.d (.list (L.map dtt))),some (.d (.list (gs.map wiD))),some (.d (.list (aN gs.length .none))),some (.d .none),none,none]=some (.list (zpr ts L)):=by
   simp only[EV,reduceIte,aq,aA,aj,ak,aB,aC,aD,O,W]
  rw[this]
  rfl
 have fl:flats ((DK gs.length ts ss).map PyData.int)=true:=qW _
 have lo:∃r' Y Z,iJ (gTn 2 (cV (gNl 4) (cV (gNl 5) (jZ)))) (bU (sIf (bL (dUn Ez (ao 3))) (bQ 3 (dOp gIx (dCall XJ.iZ (aH (ao 5) (bw))) (dC (.int 0)))) (dX)) (bU (BX 2 (ao 4) (dOp gIx (dOp kW (ao 5) (ao 3)) (dC (.int 1)))) (bQ 3 (dOp gIx (dOp kW (ao 5) (ao 3)) (dC (.int 0)))))) (zpr ts L).reverse [some (.d (.list (L.map dtt))),some (.d (.list (gs.map wiD))),some (.d (.list (aN gs.length .none))),some (.d .none),none,none]=some (.nx [some (.d (.list (L.map dtt))),some (.d (.list (gs.map wiD))),some (.d (.list ((DK gs.length ts ss).map .int))),r',Y,Z]):=by
  by_cases c:L=[]
  ·subst c
   have X:ts=[]:=cB.mp D
   have T:gs=[]:=cB.mp (by rw[<-tl,X];rfl)
   subst X T
   exact⟨_,_,_,rfl⟩
  ·obtain⟨Y,Z,e⟩:=Bv (a:=some (.d (.list (L.map dtt)))) (b:=some (.d (.list (gs.map wiD)))) (n:=0) ts L (aN gs.length .none) B ss none none [] c D (λt h=>by rw[bC];exact aZ.mp (pm.mem_iff.mp h)) hf hz (hb c)
   rw[cT,Ut pm J]at e
   exact⟨_,_,_,e⟩
 obtain⟨r',Y,Z,lo⟩:=lo
 unfold lB
 simp only[EV,reduceIte,aq,aA,aj,ak,aB,aC,aD,lMp,Com.sz (show 1<=1000000 by decide),V,U]
 rw[lo]
 simp only[EV,reduceIte,aq,aA,aj,ak,aB,aC,aD,fl]
end
theorem Qz:∀(gs:List Wi)(rows:List (List Int)),[]∉lv rows gs->(lv rows gs).length=gs.length
 |[],rows,_=>by rw[oK];rfl
 |g::gs,rows,h=>by
  rw[mX]at h ⊢
  have c:jR g rows []≠[]:=λz=>h (by rw[z];exact aG)
  rw[if_neg c]at h ⊢
  rw[bB,bB,Qz gs _ λz=>h (aJ _ z)]
theorem Ij:∀(gs:List Wi)(rows:List (List Int)),[]∈lv rows gs->∃B,lv rows gs=B++[[]]/\[]∉B
 |[],rows,h=>by rw[oK]at h;cases h
 |g::gs,rows,h=>by
  rw[mX]at h ⊢
  by_cases c:jR g rows []=[]
  ·rw[if_pos c,c]
   exact⟨[],rfl,by simp⟩
  ·rw[if_neg c]at h ⊢
   rcases aU.mp h with h|h
   ·exact absurd h.symm c
   ·obtain⟨B,e,hn⟩:=Ij gs _ h
    rw[e]
    refine⟨jR g rows []::B,rfl,λz=>?_⟩
    rcases aU.mp z with z|z
    ·exact c z.symm
    ·exact hn z
theorem QB:∀(gs:List Wi)(rows:List (List Int))(S:List Tte),S∈lv rows gs->∀q∈S,0<=q.2.2
 |[],rows,S,h,_,_=>by rw[oK]at h;cases h
 |g::gs,rows,S,h,q,Z=>by
  rw[mX]at h
  rcases aU.mp h with rfl|h
  ·rcases sG rows [] Z with z|⟨r,_,s,_,e⟩
   ·cases z
   ·rw[e]
    show(0:Int)<=(s:Int)
    omega
  ·by_cases c:jR g rows []=[]
   ·rw[if_pos c]at h;cases h
   ·rw[if_neg c]at h
    exact QB gs _ S h q Z
theorem Lr(h:S≠[]):wu S∈cU S:=by
 have Z:0<(XJ.f9 (cU S)).length:=by
  rw[(fu _).length_eq]
  unfold cU
  rw[au]
  exact tO.mpr h
 refine(fu _).mem_iff.mp ?_
 unfold wu
 rw[aK,aF Z]
 exact cg Z
theorem GC:∀(L:List (List Tte))(rows:List (List Int)),L≠[]->[]∉L->Gy L∈wQ L rows
 |[],_,h,_=>absurd rfl h
 |[S],rows,_,hn=>Lr λz=>hn (by rw[z];exact aG)
 |_::S::L,rows,_,hn=>GC (S::L) rows (by simp) λz=>hn (aJ _ z)
theorem JZ:pAt (l++[d]) (-1)=some d:=by
 unfold pAt pIx
 simp
 rw[if_pos (by omega),aM,show(-1+((l.length:Int)+1)).toNat=l.length by omega,bT (aL _)]
 simp
section
variable{gs:List Wi}{ts:List Nat}{hs:List Int}
theorem Uu(hg:∀g∈gs,gOk g)(O:gs.length<64)(D:hs.length<=100)(J:jP [.list (gs.map wiD)]=some (.list (ts.map λt:Nat=>PyData.int (t:Int))))(pm:ts.Perm (aR gs.length))(B:Few (lv [hs] (inT gs ts)))(hn:[]∈lv [hs] (inT gs ts)):
 fB [.list (hs.map .int),.list (gs.map wiD)]=some (.tuple [.str "none", .list ((lv [hs] (inT gs ts)).map λS=>PyData.list ((XJ.f9 (cU S)).map rwD))]):=by
 have al:=all_gen hg O D J pm B
 obtain⟨M,e,_⟩:=Ij _ _ hn
 generalize P:lv [hs] (inT gs ts)=L at al B e ⊢
 have tn:=Dw []
 have W:pAt (L.map dtt) (-1)=some (dtt []):=by
  rw[e,dj]
  exact JZ
 have V:decide (((L.map dtt).length:Int)>0)=true:=dTr (by rw[e];simp)
 have C:=Ds (g:=(gNl 0)) (c:=(D3.m6)) (e:=(dCall XJ.iZ (aH (ao 0) (bw)))) (δ:=[none]) dtt (λS=>PyData.list ((XJ.f9 (cU S)).map rwD)) L (λS Z=>by
  refine⟨[some (.d (dtt S))],rfl,rfl,?_⟩
  have X:=zH (B S Z).1 λk Q=>((B S Z).2 k Q).1
  simp only[EV,reduceIte,aq,aA,aj,ak,aB,aC,aD,X])
 have N:∀a b c:Option U,nF 1 [] [a,b,c]=[none]:=λ_ _ _=>rfl
 have Y:decide (((([]:List Tte).length:Nat):Int)=0)=true:=rfl
 have T:(L.map dtt).length<=100000:=by
  have:L.length<=gs.length:=by
   rw[<-P]
   have:∀(gs:List Wi)(rows:List (List Int)),(lv rows gs).length<=gs.length:=λgs=>by
    induction gs with
    |nil=>exact λrows=>by rw[oK];exact aL _
    |cons g gs R=>
     intro rows
     rw[mX,bB,bB]
     split
     ·simp
     ·exact Nat.succ_le_succ (R _)
   refine bF (this _ _) ?_
   unfold inT
   rw[au,pm.length_eq,bN]
   exact aL _
  rw[au]
  omega
 unfold fB
 simp only[EV,reduceIte,aq,aA,aj,ak,aB,aC,aD,al,V,W,tn,Y,T,N,C,Com.sz (show 2<=1000000 by decide)]
theorem QC(hg:∀g∈gs,gOk g)(O:gs.length<64)(wl:hs.length<=100)(J:jP [.list (gs.map wiD)]=some (.list (ts.map λt:Nat=>PyData.int (t:Int))))(pm:ts.Perm (aR gs.length))(B:Few (lv [hs] (inT gs ts)))(hn:[]∉lv [hs] (inT gs ts)):
 ∃(ss:List Nat)(out:List Int),ss.length=ts.length/\Sd.Run hs (((inT gs ts).map gp).zip ss) out/\fB [.list (hs.map .int),.list (gs.map wiD)]=some (.tuple [.str "laid", .list ((DK gs.length ts ss).map .int)]):=by
 have al:=all_gen hg O wl J pm B
 have tl:ts.length=gs.length:=by rw[pm.length_eq,bN]
 have V:=Qz _ _ hn
 have it:(inT gs ts).length=ts.length:=by unfold inT;rw[au]
 have N:∀g∈inT gs ts,gOk g:=λg h=>by
  obtain⟨t,h1,rfl⟩:=bV.mp h
  have:=aZ.mp (pm.mem_iff.mp h1)
  unfold gat
  rw[aK,aF this]
  exact hg _ (cg this)
 have Y:∃(ss:List Nat)(out:List Int),ss.length=ts.length/\Sd.Run hs (((inT gs ts).map gp).zip ss) out/\(lv [hs] (inT gs ts)≠[]->bk (lv [hs] (inT gs ts)) (Gy (lv [hs] (inT gs ts)))=some (hs,ss)):=by
  by_cases c:lv [hs] (inT gs ts)=[]
  ·have T:ts=[]:=cB.mp (by rw[<-it,<-V,c];rfl)
   subst T
   exact⟨[],hs,rfl,rfl,λz=>absurd c z⟩
  ·obtain⟨M,ss,e,Q,W,run⟩:=Qx _ _ N hn _ (GC _ [hs] c hn)
   rw[aO.mp Q]at e run
   exact⟨ss,_,W.trans it,run,λ_=>e⟩
 obtain⟨ss,out,sl,run,P⟩:=Y
 have pl:=ur O J pm (by rw[V,it]) sl.symm B (λS h=>⟨λz=>hn (z▸h),QB _ _ S h⟩) P
 refine⟨ss,out,sl,run,?_⟩
 generalize K:lv [hs] (inT gs ts)=L at al B hn pl V
 unfold fB
 by_cases c:L=[]
 ·subst c
  have al:jQ [.list (hs.map .int),.list (gs.map wiD)]=some (.list []):=al
  have pl:lB [.list [],.list (gs.map wiD)]=some (.list ((DK gs.length ts ss).map .int)):=pl
  have X:decide (((([]:List D).length:Nat):Int)>0)=false:=rfl
  simp only[EV,reduceIte,aq,aA,aj,ak,aB,aC,aD,al,X,pl,Com.sz (show 2<=1000000 by decide)]
 ·obtain⟨Z,S,rfl⟩:∃Z S,L=Z++[S]:=⟨L.dropLast,L.getLast c,(nC c).symm⟩
  have X:decide ((((Z++[S]).map dtt).length:Int)>0)=true:=dTr (by simp)
  have R:pAt ((Z++[S]).map dtt) (-1)=some (dtt S):=by
   rw[dj]
   exact JZ
  have tn:=Dw S
  have U:decide ((S.length:Int)=0)=false:=dFa λz=>hn (by
   have:S=[]:=cB.mp (by omega)
   rw[this]
   simp)
  simp only[EV,reduceIte,aq,aA,aj,ak,aB,aC,aD,al,X,R,tn,U,pl,Com.sz (show 2<=1000000 by decide)]
end
noncomputable def pr(gs:List Wi)(ts ss:List Nat)(t:Nat):Sd.Pl:=(gp (gat gs t),ss.getD (ts.idxOf t) 0)
theorem QD:∀(ts ss:List Nat),ts.Nodup->ts.length=ss.length->((inT gs ts).map gp).zip ss=ts.map (pr gs ts ss)
 |ts,ss,nd,Z=>by
  unfold inT
  rw[dF]
  apply eX
  intro i
  rw[bf]
  by_cases hi:i<ts.length
  ·have hs:i<ss.length:=by omega
   rw[List.getElem?_zip_eq_some.mpr ⟨(by rw[bf,aF hi];rfl:(ts.map (gp∘gat gs))[i]? = some (gp (gat gs ts[i]),ss[i]).1),(aF hs:ss[i]? = some (gp (gat gs ts[i]),ss[i]).2)⟩,aF hi]
   have ix:ts.idxOf ts[i]=i:=List.Nodup.idxOf_getElem nd i hi
   show _=some (gp (gat gs ts[i]),ss.getD (ts.idxOf ts[i]) 0)
   rw[ix,aK,aF hs]
   rfl
  ·rw[bH (by simp;omega),bH (by omega)]
   rfl
theorem Ik{p q:Sd.Pl}(h:Sd.apart p q):Sd.apart q p:=by
 unfold Sd.apart at h ⊢
 rcases h with h|h|h|h
 ·exact .inr (.inl h)
 ·exact .inl h
 ·exact .inr (.inr (.inr h))
 ·exact .inr (.inr (.inl h))
theorem GD{l m:List Sd.Pl}(p:l.Perm m)(h:Sd.Sit hs l):Sd.Sit hs m:=
 ⟨λx Z=>h.1 x (p.mem_iff.mpr Z),p.pairwise h.2 λ{x y} z=>Ik z⟩
noncomputable def std(gs:List Wi)(f:Nat->Nat):List Sd.Pl:=(aR gs.length).map λi=>(gp (gat gs i),f i)
theorem GF{s:Nat}(B:gOk g):roB hs g (s:Int)=true<->Sd.home hs (gp g,s):=by
 have:=xY (g:=g) (row:=hs) (s:=s) B
 unfold Sd.home
 rw[<-this]
 unfold roB stN
 rw[dI,aZ,aX,aX,decide_eq_true_iff,decide_eq_true_iff]
 have:=B.1
 constructor
 ·rintro⟨⟨h1,h2⟩,Z⟩
  exact⟨by omega,Z⟩
 ·rintro⟨h1,Z⟩
  exact⟨⟨by omega,by omega⟩,Z⟩
theorem J0{k:Wi}{p q:Nat}(D:gOk g)(B:gOk k):apB g (p:Int) k (q:Int)=true<->Sd.apart (gp g,p) (gp k,q):=by
 have:=D.1
 have:=B.1
 unfold apB Sd.apart gp
 simp only[jm,decide_eq_true_iff]
 constructor
 ·rintro((h|h)|(h|h))
  ·exact .inl h
  ·exact .inr (.inl h)
  ·exact .inr (.inr (.inl (by omega)))
  ·exact .inr (.inr (.inr (by omega)))
 ·rintro(h|h|h|h)
  ·exact .inl (.inl h)
  ·exact .inl (.inr h)
  ·exact .inr (.inl (by omega))
  ·exact .inr (.inr (by omega))
theorem QF(B:∀g∈gs,grOk g/\gOk g)(f:Nat->Nat):laB hs gs ((aR gs.length).map λi=>((f i:Nat):Int))=true<->Sd.Sit hs (std gs f):=by
 have Y:∀i,i<gs.length->grOk (gat gs i)/\gOk (gat gs i):=λi hi=>by
  unfold gat
  rw[aK,aF hi]
  exact B _ (cg hi)
 have W:∀i,i<gs.length->((aR gs.length).map λi=>((f i:Nat):Int)).getD i 0=((f i:Nat):Int):=λi hi=>by
  rw[aK,bf,dO hi]
  rfl
 rw[wj]
 unfold Sd.Sit std
 constructor
 ·rintro⟨_,h1,h2⟩
  refine⟨λp V=>?_,?_⟩
  ·obtain⟨i,hi,rfl⟩:=bV.mp V
   have hi:=aZ.mp hi
   have:=h1 i hi
   rw[W i hi]at this
   exact(GF (Y i hi).2).mp this
  ·rw[iH,cM]
   intro i j hi Z X
   simp only[kE]
   have hi:i<gs.length:=by simpa using hi
   have Z:j<gs.length:=by simpa using Z
   have:=h2 j Z
   unfold beB at this
   have:=cJ.mp this i (aZ.mpr X)
   rw[W j Z,W i hi,<-pY (Y j Z).1 (Y i hi).1]at this
   exact(J0 (Y i hi).2 (Y j Z).2).mp this
 ·rintro⟨h1,h2⟩
  refine⟨by simp,λi hi=>?_,λj Z=>?_⟩
  ·rw[W i hi]
   exact(GF (Y i hi).2).mpr (h1 _ (bV.mpr ⟨i,aZ.mpr hi,rfl⟩))
  ·unfold beB
   refine cJ.mpr λi hi=>?_
   have X:=aZ.mp hi
   have hi:i<gs.length:=by omega
   rw[W j Z,W i hi,<-pY (Y j Z).1 (Y i hi).1]
   refine(J0 (Y i hi).2 (Y j Z).2).mpr ?_
   rw[iH,cM]at h2
   have:=h2 i j (by simpa using hi) (by simpa using Z) X
   simpa using this
section
variable{gs:List Wi}{ts:List Nat}{hs:List Int}
theorem Yo(h:grOk g):Sd.gok (gp g):=by
 have a:=h.f
 have b:=h.b
 have c:=h.s
 unfold Sd.gok gp
 exact⟨a,b,by dsimp only;omega⟩
theorem J1(B:∀g∈gs,grOk g/\gOk g)(pm:ts.Perm (aR gs.length)){f:Nat->Nat}:∀p∈ts.map (λt=>((gp (gat gs t),f t):Sd.Pl)),Sd.gok p.1:=λp Z=>by
 obtain⟨t,h,rfl⟩:=bV.mp Z
 have:=aZ.mp (pm.mem_iff.mp h)
 refine Yo (g:=gat gs t) ?_
 unfold gat
 rw[aK,aF this]
 exact(B _ (cg this)).1
theorem GJ(pw:ts.Pairwise λa b=>(gat gs a).1<=(gat gs b).1){f:Nat->Nat}:(ts.map (λt=>((gp (gat gs t),f t):Sd.Pl))).Pairwise λp q=>p.1.1<=q.1.1:=by
 rw[iH]
 exact pw
theorem GK(pm:ts.Perm (aR gs.length))(f:Nat->Nat):(ts.map (λt=>((gp (gat gs t),f t):Sd.Pl))).Perm (std gs f):=pm.map _
theorem Vj:∀(ts:List Nat)(f:Nat->Nat),((inT gs ts).map gp).zip (ts.map f)=ts.map (λt=>((gp (gat gs t),f t):Sd.Pl))
 |[],_=>rfl
 |t::ts,f=>by
  show(gp (gat gs t),f t)::((inT gs ts).map gp).zip (ts.map f)=_
  rw[Vj ts f]
  rfl
theorem Ls(B:∀g∈gs,grOk g/\gOk g)(pm:ts.Perm (aR gs.length))(pw:ts.Pairwise λa b=>(gat gs a).1<=(gat gs b).1)(hn:[]∈lv [hs] (inT gs ts))(f:Nat->Nat):laB hs gs ((aR gs.length).map λi=>((f i:Nat):Int))=false:=by
 cases e:laB hs gs ((aR gs.length).map λi=>((f i:Nat):Int))with
 |false=>rfl
 |true=>
  exfalso
  have st:=GD (GK pm f).symm ((QF B f).mp e)
  obtain⟨out,run⟩:=(Sd.JM (J1 B pm) (GJ pw)).mpr st
  rw[<-Vj]at run
  have Z:∀g∈inT gs ts,gOk g:=λg h=>by
   obtain⟨t,h1,rfl⟩:=bV.mp h
   have:=aZ.mp (pm.mem_iff.mp h1)
   unfold gat
   rw[aK,aF this]
   exact(B _ (cg this)).2
  refine JW _ _ Z hn hs (gM _) ⟨ts.map f,out,?_,run⟩
  unfold inT
  rw[au,au]
theorem Lw(B:∀g∈gs,grOk g/\gOk g)(pm:ts.Perm (aR gs.length))(pw:ts.Pairwise λa b=>(gat gs a).1<=(gat gs b).1){ss:List Nat}{out:List Int}(sl:ss.length=ts.length)(run:Sd.Run hs (((inT gs ts).map gp).zip ss) out):laB hs gs (DK gs.length ts ss)=true:=by
 have nd:ts.Nodup:=pm.nodup_iff.mpr List.nodup_range
 rw[QD ts ss nd sl.symm]at run
 have st:=(Sd.JM (J1 B pm (f:=λt=>ss.getD (ts.idxOf t) 0)) (GJ pw)).mp ⟨out,run⟩
 exact(QF B λi=>ss.getD (ts.idxOf i) 0).mpr (GD (GK pm _) st)
end
theorem ab6{α:Type}(f:α->D){l m:List α}(h:l.length+m.length<=1000000):pJ (.list (l.map f)) (.list (m.map f))=some (.list ((l++m).map f)):=by
 rw[P_,if_pos (by rw[au,au];exact h),dj]
noncomputable def rlD(R:List (List Int)):D:=.list (R.map rwD)
theorem QG{S:List (List Int)}{k x:List Int}:x∈mL S k<->x∈S\/x=k:=by
 unfold mL
 split
 ·rename_i h
  exact⟨.inl,λz=>z.elim id λe=>e▸h⟩
 ·simp
theorem Bw:∀(ks S:List (List Int))(x:List Int),x∈ks.foldl mL S<->x∈S\/x∈ks
 |[],S,x=>by simp
 |k::ks,S,x=>by
  rw[gQ,Bw ks,QG,aU]
  constructor
  ·rintro((h|h)|h)
   ·exact .inl h
   ·exact .inr (.inl h)
   ·exact .inr (.inr h)
  ·rintro(h|h|h)
   ·exact .inl (.inl h)
   ·exact .inl (.inr h)
   ·exact .inr h
theorem QH(T:List (List Int)):rZ (dsT T)=some T:=by
 unfold dsT rZ
 dsimp only
 cases T with
 |nil=>rfl
 |cons k T=>
  have:wW ((k::T).map λk=>((.tuple (k.map .int),.bool true):D×D))=none:=rfl
  rw[this]
  exact yP (k::T)
open XS in
theorem Vk(f g:Nat->Int):∀l:List Nat,Hz (l.map λk=>PyData.tuple [.int (f k),.int (g k)])=some (l.map λk=>(f k,g k))
 |[]=>rfl
 |a::l=>by
  rw[aQ,Hz,Vk f g l]
  rfl
theorem J2(R:List (List Int)):gEq (rlD R) (.list [])=some (.bool R.isEmpty):=by
 have l1:∀P:List Int,ly 5 (rwD P):=λP=>Br (Qh (vq (n:=1) PyData.int (λ_=>Qi) P)) (by decide)
 have l2:ly 60 (.list (R.map rwD)):=Br (JH (vq rwD l1 R)) (by decide)
 unfold gEq rlD
 rw[pW l2,show SeqAt.shaped (.list [])=true from rfl]
 cases R<;>simp[PyData.eqv,PyData.eqvAll]
noncomputable def tn(n:Nat)(f:Nat->Int):List Nat:=if n<=1 then aR n else XS.nJ n λi j=>decide (f i<f j)
theorem tL(n:Nat)(f:Nat->Int):(tn n f).Perm (aR n):=by
 unfold tn
 split
 ·exact .refl _
 ·exact XS.iY (by omega) _
theorem ab7(n:Nat)(f:Nat->Int):(tn n f).Pairwise λa b=>f a<=f b:=by
 unfold tn
 split
 ·next h=>
  have:n=0\/n=1:=by omega
  rcases this with rfl|rfl<;>simp
 ·exact(XS.qY XS.vC (by omega)).imp λh=>ab2 h
theorem QJ(B:gs.length<64):jP [.list (gs.map wiD)]=some (.list ((tn gs.length λt=>(gat gs t).1).map λt:Nat=>PyData.int (t:Int))):=by
 have W:gC 0 (gs.length:Int)=(aR gs.length).map λp:Nat=>PyData.int (p:Int):=by
  unfold gC
  rw[show((gs.length:Int)-0).toNat=gs.length by omega]
  exact eO λk _=>by rw[jM]
 have U:yI [.int (gs.length:Int)]=some (.list ((aR gs.length).map λp:Nat=>PyData.int (p:Int))):=by
  rw[<-W]
  exact Ss (by omega) (by omega)
 have N:lA (gNl 0) D3.m6 XS.dK0 (nF 1 [0] [some (.d (.list (gs.map wiD)))]) ((aR gs.length).map λp:Nat=>PyData.int (p:Int))=some (((aR gs.length).map λt=>(gat gs t).1).map PyData.int):=by
  rw[dF]
  exact Ds (λp:Nat=>PyData.int (p:Int)) (λp:Nat=>PyData.int (gat gs p).1) _ λp R=>⟨[some (.d (.int (p:Int))),some (.d (.list (gs.map wiD)))],rfl,rfl,by
   show(pAt (gs.map wiD) (p:Int)).bind _=_
   rw[Dy (aZ.mp R)]
   rfl⟩
 have V:=XS.K8 (l:=(aR gs.length).map λp:Nat=>PyData.int (p:Int)) (k:=lA (gNl 0) D3.m6 XS.dK0 (nF 1 [0] [some (.d (.list (gs.map wiD)))])) (by rw[au,bN];exact B) (by
  have:∀l:List Nat,flats (l.map λp:Nat=>PyData.int (p:Int))=true:=λl=>by
   induction l with
   |nil=>rfl
   |cons _ _ T=>rw[aQ,flats,T];rfl
  exact this _) N (tG _)
 have e:XS.uc ((aR gs.length).map λp:Nat=>PyData.int (p:Int)) ((aR gs.length).map λt=>(gat gs t).1)=(tn gs.length λt=>(gat gs t).1).map λt:Nat=>PyData.int (t:Int):=by
  unfold XS.uc tn
  rw[au,bN]
  by_cases h1:gs.length<=1
  ·rw[if_pos h1,if_pos h1]
  ·rw[if_neg h1,if_neg h1]
   have O:XS.nJ gs.length (λi j=>decide (((aR gs.length).map λt=>(gat gs t).1).getD i 0<((aR gs.length).map λt=>(gat gs t).1).getD j 0))=XS.nJ gs.length λi j=>decide ((gat gs i).1<(gat gs j).1):=by
    refine XS.zu XS.vC (by omega) (XS.iY (by omega) _) ?_
    refine List.Pairwise.imp_of_mem ?_ (XS.qY XS.vC (by omega))
    intro i j hi P S
    have Z:=aZ.mp ((XS.iY (n:=gs.length) (by omega) _).mem_iff.mp hi)
    have Y:=aZ.mp ((XS.iY (n:=gs.length) (by omega) _).mem_iff.mp P)
    have X:∀k,k<gs.length->((aR gs.length).map λt=>(gat gs t).1).getD k 0=(gat gs k).1:=λk Q=>by
     rw[aK,bf,dO Q]
     rfl
    show decide (((aR gs.length).map λt=>(gat gs t).1).getD i 0<((aR gs.length).map λt=>(gat gs t).1).getD j 0)=true\/(decide (((aR gs.length).map λt=>(gat gs t).1).getD j 0<((aR gs.length).map λt=>(gat gs t).1).getD i 0)=false/\i<j)
    rw[X i Z,X j Y]
    exact S
   rw[O]
   apply eO
   intro i hi
   have Z:=aZ.mp ((XS.iY (n:=gs.length) (by omega) _).mem_iff.mp hi)
   rw[aK,bf,dO Z]
   rfl
 unfold jP
 simp only[EV,reduceIte,aq,aA,aj,ak,aB,aC,aD,lMp,U,XS.Tq,V]
 rw[e]
open XS in
theorem QK(f:Nat->Int)(hn:n<64):XS.yN [.list ((aR n).map λk:Nat=>PyData.tuple [.int (f k),.int (k:Int)])]=some (.list ((tn n f).map λk:Nat=>PyData.tuple [.int (f k),.int (k:Int)])):=by
 by_cases R:n=0
 ·subst R
  rfl
 have P:dU ((aR n).map λk:Nat=>PyData.tuple [.int (f k),.int (k:Int)])=none:=by
  obtain⟨m,rfl⟩:∃m,n=m+1:=⟨n-1,by omega⟩
  rw[List.range_succ_eq_map,aQ]
  rfl
 have ep:=Vk f (λk:Nat=>(k:Int)) (aR n)
 have len:((aR n).map λk:Nat=>PyData.tuple [.int (f k),.int (k:Int)]).length=n:=by rw[au,bN]
 unfold XS.yN
 dsimp only
 rw[P]
 dsimp only
 rw[ep,aM,len,if_pos hn]
 by_cases h1:n=1
 ·subst h1
  rfl
 ·rw[if_neg h1]
  have W:∀i,i<n->((aR n).map λk:Nat=>(f k,(k:Int))).getD i (0,0)=(f i,(i:Int)):=λi hi=>by
   rw[aK,bf,dO hi]
   rfl
  have Q:tn n f=XS.nJ n (XS.ltP ((aR n).map λk:Nat=>(f k,(k:Int)))):=by
   unfold tn
   rw[if_neg (by omega)]
   refine XS.zu XS.vC (by omega) (XS.iY (by omega) _) ?_
   refine List.Pairwise.imp_of_mem ?_ (XS.qY (XS.Qn _) (by omega))
   intro i j hi T V
   have Z:=aZ.mp ((XS.iY (n:=n) (by omega) _).mem_iff.mp hi)
   have X:=aZ.mp ((XS.iY (n:=n) (by omega) _).mem_iff.mp T)
   have Y:∀a b,a<n->b<n->XS.ltP ((aR n).map λk:Nat=>(f k,(k:Int))) a b=if f a=f b then decide ((a:Int)<b)else decide (f a<f b):=λa b ha S=>by
    unfold XS.ltP XS.z9
    rw[W a ha,W b S]
   unfold XS.Rk
   rcases V with z|⟨z,U⟩
   ·rw[Y i j Z X]at z
    split at z
    ·have:=of_decide_eq_true z
     exact .inr ⟨dFa (by omega),by omega⟩
    ·exact .inl z
   ·rw[Y j i X Z]at z
    split at z
    ·exact .inr ⟨dFa (by omega),U⟩
    ·have:=of_decide_eq_false z
     exact .inl (dTr (by omega))
  rw[Q]
  congr 2
  apply eO
  intro i hi
  have Z:=aZ.mp ((XS.iY (n:=n) (by omega) _).mem_iff.mp hi)
  rw[aK,bf,dO Z]
  rfl
noncomputable def zL(gs:List Wi):List Wi:=(tn gs.length λt=>(gat gs t).1).map (gat gs)
theorem Il(B:gs.length<64):lW [.list (gs.map wiD)]=some (.list ((zL gs).map wiD)):=by
 have X:ud (some [.int (gs.length:Int)])=some (gC 0 (gs.length:Int)):=Gi (by omega) (by omega)
 have W:gC 0 (gs.length:Int)=(aR gs.length).map λp:Nat=>PyData.int (p:Int):=by
  unfold gC
  rw[show((gs.length:Int)-0).toNat=gs.length by omega]
  exact eO λk _=>by rw[jM]
 have Q:=Ds (g:=(gNl 0)) (c:=(D3.m6)) (e:=(fL (dTup (aH (dOp gIx (dOp gIx (ao 1) (ao 0)) (dC (.int 0))) (aH (ao 0) (bw)))))) (δ:=[none,some (.d (.list (gs.map wiD)))]) (λp:Nat=>PyData.int (p:Int)) (λp:Nat=>PyData.tuple [.int (gat gs p).1,.int (p:Int)]) (aR gs.length) (λp Z=>by
  refine⟨[some (.d (.int (p:Int))),some (.d (.list (gs.map wiD)))],rfl,rfl,?_⟩
  have ga:=Dy (gs:=gs) (aZ.mp Z)
  have V:gIx (wiD (gat gs p)) (.int 0)=some (.int (gat gs p).1):=rfl
  simp only[EV,reduceIte,aq,aA,aj,ak,aB,aC,aD,ga,V,Com.sz (show 2<=1000000 by decide)])
 have R:=Ds (g:=(gNl 0)) (c:=(D3.m6)) (e:=(fL (dOp gIx (ao 1) (dOp gIx (ao 0) (dC (.int 1)))))) (δ:=[none,some (.d (.list (gs.map wiD)))]) (λp:Nat=>PyData.tuple [.int (gat gs p).1,.int (p:Int)]) (λp:Nat=>wiD (gat gs p)) (tn gs.length λt=>(gat gs t).1) (λp Z=>by
  refine⟨[some (.d (.tuple [.int (gat gs p).1,.int (p:Int)])),some (.d (.list (gs.map wiD)))],rfl,rfl,?_⟩
  have ga:=Dy (gs:=gs) (aZ.mp ((tL _ _).mem_iff.mp Z))
  have i1:∀a b:D,gIx (.tuple [a,b]) (.int 1)=some b:=λ_ _=>rfl
  have T:flat (wiD (gat gs p))=true:=rfl
  simp only[EV,reduceIte,aq,aA,aj,ak,aB,aC,aD,i1,ga,T])
 have Y:=QK (n:=gs.length) (λt=>(gat gs t).1) B
 have S:∀a:Option U,nF 1 [0] [a]=[none,a]:=λ_=>rfl
 have l1:(aR gs.length).length<=100000:=by rw[bN];omega
 have l2:(tn gs.length λt=>(gat gs t).1).length<=100000:=by rw[(tL _ _).length_eq,bN];omega
 unfold lW
 simp only[EV,reduceIte,aq,aA,aj,ak,aB,aC,aD,lMp,X,W,S,l1,Q,Y,l2,R]
 unfold zL
 rw[dF]
 rfl
theorem QL(gs:List Wi):(zL gs).length=gs.length:=by unfold zL;rw[au,(tL _ _).length_eq,bN]
theorem QM:g∈zL gs<->g∈gs:=by
 unfold zL
 rw[bV]
 constructor
 ·rintro⟨t,h1,rfl⟩
  have:=aZ.mp ((tL _ _).mem_iff.mp h1)
  unfold gat
  rw[aK,aF this]
  exact cg this
 ·intro h
  obtain⟨i,hi,rfl⟩:=fV h
  refine⟨i,(tL _ _).mem_iff.mpr (aZ.mpr hi),?_⟩
  unfold gat
  rw[aK,aF hi]
  rfl
noncomputable def rest(g:Wi)(row:List Int):List Int:=row.map λe=>if e<=g.1 then 0 else e
theorem J3{s:Nat}(B:1<=g.2.2)(h:s+g.2.2.toNat<=row.length):(rest g row).take s++aN g.2.2.toNat g.2.1++(rest g row).drop (s+g.2.2.toNat)=Sd.put row (gp g) s:=by
 have Z:(rest g row).length=row.length:=by unfold rest;rw[au]
 apply eX
 intro i
 unfold Sd.put
 rw[fH]
 have X:∀i,(rest g row)[i]? = row[i]?.map λe=>if e<=g.1 then 0 else e:=λi=>by unfold rest;rw[bf]
 by_cases h1:i<s
 ·rw[aV,bW (by rw[cR,Z];omega),iU h1,X]
  congr 1
  funext e
  show _=if s<=i/\i<s+g.2.2.toNat then g.2.1 else if e<=g.1 then 0 else e
  rw[if_neg (show ¬(s<=i/\i<s+g.2.2.toNat)by omega)]
 ·by_cases h2:i<s+g.2.2.toNat
  ·rw[aV,bT (by rw[cR,Z];omega),bW (by rw[cR,Z,bC];omega),fD,cR,Z,if_pos (by omega),aF (by omega)]
   unfold Sd.cell gp
   rw[j9,if_pos (by dsimp only;omega)]
  ·have Y:((rest g row).take s++aN g.2.2.toNat g.2.1).length=s+g.2.2.toNat:=by rw[bG,cR,Z,bC];omega
   rw[bT (by rw[Y];omega),fj,Y,show s+g.2.2.toNat+(i-(s+g.2.2.toNat))=i by omega,X]
   congr 1
   funext e
   show _=if s<=i/\i<s+g.2.2.toNat then g.2.1 else if e<=g.1 then 0 else e
   rw[if_neg (show ¬(s<=i/\i<s+g.2.2.toNat)by omega)]
noncomputable def Lx(g:Wi)(rows:List (List Int)):List (List Int):=rows.flatMap λrow=>(stN row g).map λs=>Sd.put row (gp g) s
noncomputable def nxT(g:Wi)(rows:List (List Int)):List (List Int):=(Lx g rows).foldl mL []
theorem QS{S:List (List Int)}{k:List Int}(D:ao i δ=some (dsT S))(h1:fk δ=some (rwD k))(B:S.length<1000000):sE i fk δ=some (.nx (δ.set i (some (.d (dsT (mL S k)))))):=by
 unfold sE
 rw[D,aM,h1,aM,SM,aM,Dv,aM,if_pos B]
theorem GP(S:List (List Int))(k:List Int):(mL S k).length<=S.length+1:=by
 unfold mL
 split<;>simp
theorem tE:∀(ks S:List (List Int)),(ks.foldl mL S).length<=S.length+ks.length
 |[],S=>aL _
 |k::ks,S=>by
  have h1:=tE ks (mL S k)
  have h2:=GP S k
  rw[gQ,bB]
  omega
theorem Uv{S:List (List Int)}{k:List Int}(h:S.Nodup):(mL S k).Nodup:=by
 unfold mL
 split
 ·exact h
 ·rename_i q
  rw[oO]
  exact⟨h,by simp,λa ha b Z e=>q (by rw[aO.mp Z]at e;rw[<-e];exact ha)⟩
theorem GQ:∀(ks S:List (List Int)),S.Nodup->(ks.foldl mL S).Nodup
 |[],S,h=>h
 |k::ks,S,h=>by
  rw[gQ]
  exact GQ ks _ (Uv h)
theorem Yp(g:Wi)(rows:List (List Int)):(nxT g rows).Nodup:=GQ _ _ .nil
theorem DN{x:List Int}:x∈nxT g rows<->∃row∈rows,∃s∈stN row g,x=Sd.put row (gp g) s:=by
 unfold nxT
 rw[Bw]
 unfold Lx
 rw[List.mem_flatMap]
 constructor
 ·rintro(h|⟨row,Z,h⟩)
  ·cases h
  ·obtain⟨s,hs,rfl⟩:=bV.mp h
   exact⟨row,Z,s,hs,rfl⟩
 ·rintro⟨row,Z,s,hs,rfl⟩
  exact .inr ⟨row,Z,bV.mpr ⟨s,hs,rfl⟩⟩
theorem sH(O:1<=g.2.2)(J:g.2.2<=6)(W:row.length<=100)(a:Option U):∀(ss:List Nat)(S:List (List Int))(u v:Option U),(∀s∈ss,(s:Int)<=(row.length:Int)-g.2.2)->S.length+ss.length<1000000 ->
 ∃D B,iJ (gNl 8) (sIf (bL (dOp gLe (dCall t_ (aH (wX (ao 6) (fM (ao 8)) (fM (dOp gG (ao 8) (ao 4)))) (bw))) (ao 2))) (bU (bQ 9 (dOp pJ (dSl (ao 7) pK (fM (ao 8))) (dOp uy (jD (aH (ao 3) (bw))) (ao 4)))) (sE 5 (dUn o7 (dOp pJ (ao 9) (dSl (ao 7) (fM (dOp gG (ao 8) (ao 4))) pK))))) (dX)) (ss.map λs:Nat=>PyData.int (s:Int)) [a,some (.d (wiD g)),some (.d (.int g.1)),some (.d (.int g.2.1)),some (.d (.int g.2.2)),some (.d (dsT S)),some (.d (rwD row)),some (.d (.list ((rest g row).map .int))),u,v] =
  some (.nx [a,some (.d (wiD g)),some (.d (.int g.1)),some (.d (.int g.2.1)),some (.d (.int g.2.2)),some (.d (dsT (((ss.filter λs:Nat=>decide (mx (sli row (s:Int) g.2.2)<=g.1)).map λs=>Sd.put row (gp g) s).foldl mL S))),some (.d (rwD row)),some (.d (.list ((rest g row).map .int))),D,B])
 |[],S,u,v,_,_=>⟨u,v,rfl⟩
 |s::ss,S,u,v,hs,Q=>by
  rw[bB]at Q
  have X:=hs s aG
  have Y:∀t∈ss,(t:Int)<=(row.length:Int)-g.2.2:=λt R=>hs t (aJ _ R)
  have M:(rest g row).length=row.length:=by unfold rest;rw[au]
  have Z:∀(a b c d e f h:Option U),wX (ao 6) (fM (ao 8)) (fM (dOp gG (ao 8) (ao 4))) [a,b,c,d,some (.d (.int g.2.2)),f,some (.d (rwD row)),h,some (.d (.int (s:Int))),e]=some (.tuple ((sli row (s:Int) g.2.2).map .int)):=λa b c d e f h=>by
   rw[JQ (l:=row.map .int) (lo:=some (s:Int)) (hi:=some ((s:Int)+g.2.2)) rfl rfl rfl (qW _),xW (by omega) X O]
  have mt:=Gm (wg (show(0:Int)<=(s:Int)by omega) X O)
  rw[jN]
  by_cases q:mx (sli row (s:Int) g.2.2)<=g.1
  ·rw[if_pos (dTr q),aQ (f:=λs:Nat=>Sd.put row (gp g) s),gQ]
   have k1:cutD ((rest g row).map PyData.int) none (some (s:Int))=((rest g row).take s).map .int:=by rw[ab1 (by omega),tX];rfl
   have k2:cutD ((rest g row).map PyData.int) (some ((s:Int)+g.2.2)) none=((rest g row).drop (s+g.2.2.toNat)).map .int:=by rw[ab0 (by omega),tY,show((s:Int)+g.2.2).toNat=s+g.2.2.toNat by omega]
   have T:uy (.list [.int g.2.1]) (.int g.2.2)=some (.list ((aN g.2.2.toNat g.2.1).map PyData.int)):=Qf (by omega) (by omega)
   have N:pJ (.list (((rest g row).take s).map .int)) (.list ((aN g.2.2.toNat g.2.1).map PyData.int))=some (.list (((rest g row).take s++aN g.2.2.toNat g.2.1).map PyData.int)):=ab6 PyData.int (by rw[cR,bC];omega)
   have P:pJ (.list (((rest g row).take s++aN g.2.2.toNat g.2.1).map PyData.int)) (.list (((rest g row).drop (s+g.2.2.toNat)).map .int))=some (.list ((Sd.put row (gp g) s).map .int)):=by
    rw[ab6 PyData.int (by rw[bG,cR,bC,fG];omega),J3 O (by omega)]
   have pl:=GP S (Sd.put row (gp g) s)
   obtain⟨D,B,e⟩:=sH O J W a ss (mL S (Sd.put row (gp g) s)) (some (.d (.int (s:Int)))) (some (.d (.list (((rest g row).take s++aN g.2.2.toNat g.2.1).map .int)))) Y (by omega)
   refine⟨D,B,(oJ rfl ?_).trans e⟩
   have V:=QS (i:=5) (S:=S) (k:=Sd.put row (gp g) s) (fk:=(dUn o7 (dOp pJ (ao 9) (dSl (ao 7) (fM (dOp gG (ao 8) (ao 4))) pK)))) (δ:=[a,some (.d (wiD g)),some (.d (.int g.1)),some (.d (.int g.2.1)),some (.d (.int g.2.2)),some (.d (dsT S)),some (.d (rwD row)),some (.d (.list ((rest g row).map .int))),some (.d (.int (s:Int))),some (.d (.list (((rest g row).take s++aN g.2.2.toNat g.2.1).map .int)))]) rfl (by
    simp only[EV,reduceIte,aq,aA,aj,ak,aB,aC,aD,k2,P,yJ]
    rfl) (by omega)
   simp only[EV,reduceIte,aq,aA,aj,ak,aB,aC,aD,Z,mt,dTr q,k1,T,N,V,Com.sz (show 1<=1000000 by decide)]
  ·rw[if_neg (by rw[dFa q];decide)]
   obtain⟨D,B,e⟩:=sH O J W a ss S (some (.d (.int (s:Int)))) v Y (by omega)
   refine⟨D,B,(oJ rfl ?_).trans e⟩
   simp only[EV,reduceIte,aq,aA,aj,ak,aB,aC,aD,Z,mt,dFa q]
theorem Ly(g:Wi)(row:List Int)(rows:List (List Int)):Lx g (row::rows)=((stN row g).map λs=>Sd.put row (gp g) s)++Lx g rows:=by unfold Lx;rw[List.flatMap_cons]
theorem wR(Z:1<=g.2.2)(B:g.2.2<=6)(a:Option U):∀(rows:List (List Int))(S:List (List Int))(u v w x:Option U),(∀r∈rows,r.length<=100)->S.length+101*rows.length<1000000 ->
 ∃Y W O J,iJ (gNl 6) (bU (bQ 7 (iB (vY (ao 6)) (gNl 0) (D3.m6) (fL (dOp gIx (jD (aH (ao 0) (aH (dC (.int 0)) (bw)))) (dCall tR (aH (dOp gLe (ao 0) (ao 1)) (bw))))) 1 [2])) (lY (mq (aH (dOp gG (dOp rF (dCall iz (aH (ao 6) (bw))) (ao 4)) (dC (.int 1))) (bw))) (gNl 8) (sIf (bL (dOp gLe (dCall t_ (aH (wX (ao 6) (fM (ao 8)) (fM (dOp gG (ao 8) (ao 4)))) (bw))) (ao 2))) (bU (bQ 9 (dOp pJ (dSl (ao 7) pK (fM (ao 8))) (dOp uy (jD (aH (ao 3) (bw))) (ao 4)))) (sE 5 (dUn o7 (dOp pJ (ao 9) (dSl (ao 7) (fM (dOp gG (ao 8) (ao 4))) pK))))) (dX)))) (rows.map rwD) [a,some (.d (wiD g)),some (.d (.int g.1)),some (.d (.int g.2.1)),some (.d (.int g.2.2)),some (.d (dsT S)),u,v,w,x] =
  some (.nx [a,some (.d (wiD g)),some (.d (.int g.1)),some (.d (.int g.2.1)),some (.d (.int g.2.2)),some (.d (dsT ((Lx g rows).foldl mL S))),Y,W,O,J])
 |[],S,u,v,w,x,_,_=>⟨u,v,w,x,rfl⟩
 |row::rows,S,u,v,w,x,R,K=>by
  rw[bB]at K
  have Q:=R row aG
  have sq:qSq (some (rwD row))=some (row.map .int):=rfl
  have C:=Ds (g:=(gNl 0)) (c:=(D3.m6)) (e:=(fL (dOp gIx (jD (aH (ao 0) (aH (dC (.int 0)) (bw)))) (dCall tR (aH (dOp gLe (ao 0) (ao 1)) (bw)))))) (δ:=[none,some (.d (.int g.1))]) (λe:Int=>PyData.int e) (λe:Int=>PyData.int (if e<=g.1 then 0 else e)) row (λe _=>by
   refine⟨[some (.d (.int e)),some (.d (.int g.1))],rfl,rfl,?_⟩
   have G:∀p q:D,gIx (.list [p,q]) (.int 0)=some p:=λ_ _=>rfl
   have i1:∀p q:D,gIx (.list [p,q]) (.int 1)=some q:=λ_ _=>rfl
   by_cases c:e<=g.1
   ·rw[if_pos c]
    simp only[EV,reduceIte,aq,aA,aj,ak,aB,aC,aD,dTr c,show tR [.bool true]=some (.int 1)from rfl,at1,Com.sz (show 2<=1000000 by decide)]
   ·rw[if_neg c]
    simp only[EV,reduceIte,aq,aA,aj,ak,aB,aC,aD,dFa c,show tR [.bool false]=some (.int 0)from rfl,at0,Com.sz (show 2<=1000000 by decide)])
  have N:(row.map λe:Int=>PyData.int (if e<=g.1 then 0 else e))=(rest g row).map .int:=by unfold rest;rw[dF];rfl
  rw[N]at C
  have H:∀a b c d e f g h i j:Option U,nF 1 [2] [a,b,c,d,e,f,g,h,i,j]=[none,c]:=λ_ _ _ _ _ _ _ _ _ _=>rfl
  have L:row.length<=100000:=by omega
  have M:iz [rwD row]=some (.int (row.length:Int)):=by
   show some (PyData.int ((row.map PyData.int).length:Int))=_
   rw[au]
  have P:ud (some [.int ((row.length:Int)-g.2.2+1)])=some ((aR ((row.length:Int)-g.2.2+1).toNat).map λs:Nat=>PyData.int (s:Int)):=by
   rw[Gi (by omega) (by omega)]
   unfold gC
   rw[p7]
   congr 1
   exact eO λs _=>by rw[jM]
  obtain⟨T,V,X⟩:=sH (g:=g) (row:=row) Z B Q a (aR ((row.length:Int)-g.2.2+1).toNat) S w x (λs hs=>by have:=aZ.mp hs;omega) (by rw[bN];omega)
  have fl:=tE ((stN row g).map λs=>Sd.put row (gp g) s) S
  have sl:=JR row g Z
  rw[au]at fl
  obtain⟨Y,W,O,J,I⟩:=wR Z B a rows (((stN row g).map λs=>Sd.put row (gp g) s).foldl mL S) (some (.d (rwD row))) (some (.d (.list ((rest g row).map .int)))) T V (λr h=>R r (aJ _ h)) (by omega)
  refine⟨Y,W,O,J,?_⟩
  rw[Ly,uQ]
  have X:iJ (gNl 8) (sIf (bL (dOp gLe (dCall t_ (aH (wX (ao 6) (fM (ao 8)) (fM (dOp gG (ao 8) (ao 4)))) (bw))) (ao 2))) (bU (bQ 9 (dOp pJ (dSl (ao 7) pK (fM (ao 8))) (dOp uy (jD (aH (ao 3) (bw))) (ao 4)))) (sE 5 (dUn o7 (dOp pJ (ao 9) (dSl (ao 7) (fM (dOp gG (ao 8) (ao 4))) pK))))) (dX)) ((aR ((row.length:Int)-g.2.2+1).toNat).map λs:Nat=>PyData.int (s:Int)) [a,some (.d (wiD g)),some (.d (.int g.1)),some (.d (.int g.2.1)),some (.d (.int g.2.2)),some (.d (dsT S)),some (.d (rwD row)),some (.d (.list ((rest g row).map .int))),w,x]=some (.nx [a,some (.d (wiD g)),some (.d (.int g.1)),some (.d (.int g.2.1)),some (.d (.int g.2.2)),some (.d (dsT (((stN row g).map λs=>Sd.put row (gp g) s).foldl mL S))),some (.d (rwD row)),some (.d (.list ((rest g row).map .int))),T,V]):=X
  refine(oJ rfl ?_).trans I
  simp only[EV,reduceIte,aq,aA,aj,ak,aB,aC,aD,Wz,sq,H,lMp,L,C,M,P,X]
theorem QT(J:1<=g.2.2)(B:g.2.2<=6)(D:∀r∈rows,1<=r.length/\r.length<=100)(hl:rows.length<=1000)(O:(nxT g rows).length<=1000):h_ [.list (rows.map rwD),wiD g]=some (.list ((XJ.f9 (nxT g rows)).map rwD)):=by
 obtain⟨W,X,Y,Z,e⟩:=wR J B (some (.d (.list (rows.map rwD)))) rows [] none none none none (λr h=>(D r h).2) (by simp;omega)
 have e:iJ (gNl 6) (bU (bQ 7 (iB (vY (ao 6)) (gNl 0) (D3.m6) (fL (dOp gIx (jD (aH (ao 0) (aH (dC (.int 0)) (bw)))) (dCall tR (aH (dOp gLe (ao 0) (ao 1)) (bw))))) 1 [2])) (lY (mq (aH (dOp gG (dOp rF (dCall iz (aH (ao 6) (bw))) (ao 4)) (dC (.int 1))) (bw))) (gNl 8) (sIf (bL (dOp gLe (dCall t_ (aH (wX (ao 6) (fM (ao 8)) (fM (dOp gG (ao 8) (ao 4)))) (bw))) (ao 2))) (bU (bQ 9 (dOp pJ (dSl (ao 7) pK (fM (ao 8))) (dOp uy (jD (aH (ao 3) (bw))) (ao 4)))) (sE 5 (dUn o7 (dOp pJ (ao 9) (dSl (ao 7) (fM (dOp gG (ao 8) (ao 4))) pK))))) (dX)))) (rows.map rwD) [some (.d (.list (rows.map rwD))),some (.d (wiD g)),some (.d (.int g.1)),some (.d (.int g.2.1)),some (.d (.int g.2.2)),some (.d (.dict [])),none,none,none,none]=some (.nx [some (.d (.list (rows.map rwD))),some (.d (wiD g)),some (.d (.int g.1)),some (.d (.int g.2.1)),some (.d (.int g.2.2)),some (.d (dsT (nxT g rows))),W,X,Y,Z]):=e
 have ts:XJ.iZ [dsT (nxT g rows)]=some (.list ((XJ.f9 (nxT g rows)).map rwD)):=by
  show(rZ (dsT (nxT g rows))).bind _=_
  rw[QH,aM,if_pos]
  refine⟨O,cJ.mpr λk T=>?_⟩
  obtain⟨row,h1,s,_,rfl⟩:=DN.mp T
  have l1:=Sd.xV row (gp g) s
  have l2:=(D row h1).1
  cases V:Sd.put row (gp g) s with
  |nil=>rw[V,jr]at l1;omega
  |cons _ _=>rfl
 have sq:qSq (some (.list (rows.map rwD)))=some (rows.map rwD):=rfl
 have as:∀(a b c d e f h i j k:Option U),gTn 3 (cV (gNl 2) (cV (gNl 3) (cV (gNl 4) (jZ)))) (wiD g) [a,b,c,d,e,f,h,i,j,k]=some [a,b,some (.d (.int g.1)),some (.d (.int g.2.1)),some (.d (.int g.2.2)),f,h,i,j,k]:=λ_ _ _ _ _ _ _ _ _ _=>rfl
 unfold h_
 simp only[EV,reduceIte,aq,aA,aj,ak,aB,aC,aD,as,Wz,sq,e,ts]
theorem wA{x:List Int}:x∈XJ.f9 ks<->x∈ks:=(fu ks).mem_iff
noncomputable def fac:Nat->Nat
 |0=>1
 |n+1=>(n+1)*fac n
theorem zM{α β:Type}[DecidableEq β](f:α->β):∀(ks:List β)(L:List α),(∀x∈L,f x∈ks)->L.length<=(ks.map λk=>(L.filter λx=>decide (f x=k)).length).sum
 |[],L,h=>by
  cases L with
  |nil=>simp
  |cons x r=>exact absurd (h x aG) dw
 |k::ks,L,h=>by
  have split:∀L:List α,L.length=(L.filter λx=>decide (f x=k)).length+(L.filter λx=>!decide (f x=k)).length:=λL=>by
   induction L with
   |nil=>rfl
   |cons x r Y=>
    rw[jN,jN]
    cases decide (f x=k)<;>simp<;>omega
  have Y:=zM f ks (L.filter λx=>!decide (f x=k)) (λx X=>by
   rw[dI]at X
   have hn:f x≠k:=by simpa using X.2
   rcases aU.mp (h x X.1)with z|z
   ·exact absurd z hn
   ·exact z)
  have sub:∀Z,((L.filter λx=>!decide (f x=k)).filter λx=>decide (f x=Z)).length<=(L.filter λx=>decide (f x=Z)).length:=λZ=>by
   have e:((L.filter λx=>!decide (f x=k)).filter λx=>decide (f x=Z))=(L.filter λx=>decide (f x=Z)).filter λx=>!decide (f x=k):=by
    rw[uq,uq]
    congr 1
    funext x
    exact Bool.and_comm _ _
   rw[e]
   exact rD _ _
  have mono:∀ks:List β,(ks.map λZ=>((L.filter λx=>!decide (f x=k)).filter λx=>decide (f x=Z)).length).sum<=(ks.map λZ=>(L.filter λx=>decide (f x=Z)).length).sum:=λks=>by
   induction ks with
   |nil=>exact aL _
   |cons Z ks Y=>rw[aQ,aQ,pq,pq];exact Nat.add_le_add (sub Z) Y
  rw[aQ,pq,split L]
  exact Nat.add_le_add_left (bF Y (mono ks)) _
theorem Im{β:Type}(f:β->Nat)(c:Nat):∀ks:List β,(∀k∈ks,f k<=c)->(ks.map f).sum<=ks.length*c
 |[],_=>by simp
 |k::ks,h=>by
  rw[aQ,pq,bB,Nat.succ_mul,Nat.add_comm]
  exact Nat.add_le_add (Im f c ks λx Z=>h x (aJ _ Z)) (h k aG)
theorem zN:∀(n:Nat)(m:List Int),m.length=n->∀L:List (List Int),L.Nodup->(∀x∈L,x.Perm m)->L.length<=fac n
 |0,m,hm,L,nd,h=>by
  have hm:m=[]:=cB.mp hm
  subst hm
  match L,nd,h with
  |[],_,_=>exact cZ _
  |[_],_,_=>exact aL _
  |x::y::r,nd,h=>
   have Z:x=[]:=(h x aG).eq_nil
   have X:y=[]:=(h y (aJ _ aG)).eq_nil
   rw[Z,X]at nd
   exact absurd aG (dJ.mp nd).1
 |n+1,m,hm,L,nd,h=>by
  have ne:∀x∈L,∃a t,x=a::t/\a∈m:=λx Z=>by
   cases x with
   |nil=>have:=(h [] Z).length_eq;rw[hm]at this;cases this
   |cons a t=>exact⟨a,t,rfl,(h _ Z).mem_iff.mp aG⟩
  have c:=zM (λx:List Int=>x.headD 0) m L (λx Z=>by
   obtain⟨a,t,rfl,ha⟩:=ne x Z
   exact ha)
  refine bF c (bF (Im _ (fac n) m λa ha=>?_) (by rw[hm];exact aL _))
  have Y:=zN n (m.erase a) (by rw[List.length_erase_of_mem ha,hm];rfl) ((L.filter λx=>decide (x.headD 0=a)).map List.tail) (by
   show List.Pairwise _ _
   rw[iH]
   refine List.Pairwise.imp_of_mem (λ{x y} Z X W e=>W ?_) (nd.filter λx=>decide (x.headD 0=a))
   rw[dI]at Z X
   obtain⟨b,t,rfl,_⟩:=ne x Z.1
   obtain⟨S,t',rfl,_⟩:=ne y X.1
   have U:b=a:=by simpa using Z.2
   have V:S=a:=by simpa using X.2
   subst U V
   have e:t=t':=e
   rw[e]) (λt T=>by
   obtain⟨x,Z,rfl⟩:=bV.mp T
   rw[dI]at Z
   obtain⟨b,t,rfl,_⟩:=ne x Z.1
   have U:b=a:=by simpa using Z.2
   subst U
   exact List.Perm.cons_inv ((h _ Z.1).trans (List.perm_cons_erase ha)))
  rw[au]at Y
  exact Y
noncomputable def can(g:Wi)(m:List Int):List Int:=m.filter (λe=>decide (g.1<e))++aN g.2.2.toNat g.2.1++aN ((m.filter λe=>decide (e<=g.1)).length-g.2.2.toNat) 0
theorem zO(g:Wi)(x:Int):∀X:List Int,(rest g X).count x=(X.filter λe=>decide (g.1<e)).count x+if x=0 then(X.filter λe=>decide (e<=g.1)).length else 0
 |[]=>by simp[rest]
 |e::X=>by
  have Z:=zO g x X
  have Y:rest g (e::X)=(if e<=g.1 then 0 else e)::rest g X:=rfl
  rw[Y,List.count_cons,Z]
  by_cases c:e<=g.1
  ·rw[if_pos c,k_ (by simp;omega),lu (by simp;omega)]
   by_cases z:x=0
   ·subst z;simp;omega
   ·simp[z,Ne.symm z]
  ·rw[if_neg c,lu (by simp;omega),k_ (by simp;omega),List.count_cons]
   omega
theorem J4{m:List Int}{s:Nat}(D:gOk g)(B:row.Perm m)(hs:s∈stN row g):(Sd.put row (gp g) s).Perm (can g m):=by
 have ft:=(xY D).mp hs
 have f1:s+g.2.2.toNat<=row.length:=ft.1
 have f2:∀r,s<=r->r<s+g.2.2.toNat->row.getD r 0<=g.1:=ft.2
 rw[<-J3 D.1 f1]
 have ra:(rest g row).take s=rest g (row.take s):=by unfold rest;rw[tX]
 have rd:(rest g row).drop (s+g.2.2.toNat)=rest g (row.drop (s+g.2.2.toNat)):=by unfold rest;rw[tY]
 have W:row=row.take s++((row.drop s).take g.2.2.toNat++row.drop (s+g.2.2.toNat)):=by
  have:=(fY g.2.2.toNat (row.drop s))
  rw[lF]at this
  rw[this,fY]
 have U:((row.drop s).take g.2.2.toNat).length=g.2.2.toNat:=by rw[cR,fG];omega
 have V:∀e∈(row.drop s).take g.2.2.toNat,e<=g.1:=λe Z=>by
  obtain⟨i,hi,rfl⟩:=fV Z
  rw[U]at hi
  have:=f2 (s+i) (by omega) (by omega)
  rw[oU,lG]
  rw[aK,aF (by omega)]at this
  exact this
 have X:((row.drop s).take g.2.2.toNat).filter (λe=>decide (g.1<e))=[]:=ji.mpr λe Z=>by have:=V e Z;simp;omega
 have Y:((row.drop s).take g.2.2.toNat).filter (λe=>decide (e<=g.1))=(row.drop s).take g.2.2.toNat:=List.filter_eq_self.mpr λe Z=>dTr (V e Z)
 have h1:(m.filter λe=>decide (g.1<e)).Perm ((row.take s).filter (λe=>decide (g.1<e))++(row.drop (s+g.2.2.toNat)).filter λe=>decide (g.1<e)):=by
  have:=(B.filter λe=>decide (g.1<e)).symm
  rw[W,kI,kI,X,dM]at this
  exact this
 have h2:(m.filter λe=>decide (e<=g.1)).length=((row.take s).filter λe=>decide (e<=g.1)).length+g.2.2.toNat+((row.drop (s+g.2.2.toNat)).filter λe=>decide (e<=g.1)).length:=by
  have:=(B.filter λe=>decide (e<=g.1)).length_eq.symm
  rw[W,kI,kI,Y,bG,bG,U]at this
  omega
 rw[List.perm_iff_count]
 intro x
 unfold can
 rw[ra,rd,jz,jz,jz,jz,zO,zO,h1.count_eq,jz,h2,List.count_replicate (n:=_-_)]
 generalize ((row.take s).filter λe=>decide (e<=g.1)).length=p
 generalize ((row.drop (s+g.2.2.toNat)).filter λe=>decide (e<=g.1)).length=q
 by_cases z:x=0
 ·subst z;simp;omega
 ·simp[z,Ne.symm z];omega
noncomputable def DP(w:Nat)(R:List (List Int)):Prop:=∃m:List Int,m.length=w/\∀r∈R,r.Perm m
theorem DP.len{w:Nat}{R:List (List Int)}(h:DP w R):∀r∈R,r.length=w:=λr Z=>by
 obtain⟨m,h1,Y⟩:=h
 rw[(Y r Z).length_eq,h1]
theorem Vl:∀w,w<=5->fac w<=120:=by decide
theorem Uw{w:Nat}{R:List (List Int)}(hw:w<=5)(B:gOk g)(h:DP w R):(nxT g R).length<=120:=by
 obtain⟨m,h1,W⟩:=h
 by_cases e:nxT g R=[]
 ·rw[e];exact cZ _
 obtain⟨x,Y⟩:=jV _ e
 have kp:∀y∈nxT g R,y.Perm (can g m)/\y.length=w:=λy Z=>by
  obtain⟨row,X,s,hs,rfl⟩:=DN.mp Z
  exact⟨J4 B (W row X) hs,by rw[Sd.xV,(W row X).length_eq,h1]⟩
 have cl:(can g m).length=w:=by rw[<-(kp x Y).1.length_eq,(kp x Y).2]
 exact bF (zN w (can g m) cl _ (Yp g R) λy Z=>(kp y Z).1) (Vl w hw)
theorem QV{α:Type}[DecidableEq α]{L M:List α}(nd:L.Nodup)(h:∀x∈L,x∈M):L.length<=M.length:=by
 have c:=zM (λx:α=>x) M L h
 have one:∀k∈M,(L.filter λx=>decide (x=k)).length<=1:=λk _=>by
  clear c h
  induction L with
  |nil=>exact cZ _
  |cons x r X=>
   obtain⟨Y,Z⟩:=dJ.mp nd
   by_cases z:x=k
   ·subst z
    rw[lu (by simp)]
    have:(r.filter λy=>decide (y=x))=[]:=ji.mpr λy W e=>Y (by have:=of_decide_eq_true e;rw[<-this];exact W)
    rw[this]
    exact aL _
   ·rw[k_ (by simpa using z)]
    exact X Z
 have s:=Im (λk=>(L.filter λx=>decide (x=k)).length) 1 M one
 omega
theorem GR:∀a b:List Int,PyData.eqvAll (a.map PyData.int) (b.map PyData.int)=decide (a=b)
 |[],[]=>by simp[PyData.eqvAll]
 |[],_::_=>by simp[PyData.eqvAll]
 |_::_,[]=>by simp[PyData.eqvAll]
 |x::a,y::b=>by
  rw[aQ,aQ,PyData.eqvAll,GR a b]
  show(decide (x=y)&&decide (a=b))=_
  by_cases h1:x=y<;>by_cases h2:a=b<;>simp[h1,h2]
theorem QW(a b:List Int):PyData.eqv (rwD a) (rwD b)=decide (a=b):=by
 show PyData.eqvAll (a.map PyData.int) (b.map PyData.int)=_
 exact GR a b
theorem Vm(r:List Int):ly 5 (rwD r):=Br (Qh (vq (n:=1) PyData.int (λ_=>Qi) r)) (by decide)
theorem ab8(R:List (List Int)):ly 7 (rlD R):=Br (JH (vq rwD Vm R)) (by decide)
theorem QX(x:List Int)(R:List (List Int)):rT (rwD x) (rlD R)=some (.bool (!decide (x∈R))):=by
 have s1:=pW (Br (Vm x) (m:=60) (by decide))
 have s2:=pW (Br (ab8 R) (m:=60) (by decide))
 show(if(SeqAt.shaped (rwD x)&&SeqAt.shaped (rlD R))=true then some (PyData.bool (!(R.map rwD).any λz=>PyData.eqv z (rwD x)))else none)=_
 rw[s1,s2]
 have:((R.map rwD).any λz=>PyData.eqv z (rwD x))=decide (x∈R):=by
  rw[List.any_map,nA,List.any_eq_true,decide_eq_true_iff]
  constructor
  ·rintro⟨r,Z,e⟩
   have e:PyData.eqv (rwD r) (rwD x)=true:=e
   rw[QW]at e
   rw[<-of_decide_eq_true e]
   exact Z
  ·intro h
   exact⟨x,h,by show PyData.eqv (rwD x) (rwD x)=true;rw[QW];exact dTr rfl⟩
 rw[this]
 rfl
noncomputable def sub(g:Wi)(ah R:List (List Int)):Bool:=(nxT g ah).all λx=>decide (x∈R)
noncomputable def chk:List (List Int)->List Wi->List (List (List Int))->Bool
 |ah,g::gs,R::Rs=>sub g ah R&&chk R gs Rs
 |_,_,_=>true
theorem Ux{ah:List (List Int)}{x:List Int}:x∈cU (jR g ah [])<->x∈nxT g ah:=by
 rw[DN]
 constructor
 ·intro h
  unfold cU at h
  obtain⟨q,Y,rfl⟩:=bV.mp h
  rcases sG ah [] Y with z|⟨row,Z,s,hs,rfl⟩
  ·cases z
  ·exact⟨row,Z,s,hs,rfl⟩
 ·rintro⟨row,Z,s,hs,rfl⟩
  exact zK ah [] row Z s hs
noncomputable def J5(Rs:List (List (List Int))):Bool:=match Rs.getLast? with
 |some []=>true
 |_=>false
noncomputable def Uy(hs:List Int)(gs:List Wi)(Rs:List (List (List Int))):Bool:=decide (1<=Rs.length)&&(decide (Rs.length<=gs.length)&&(J5 Rs&&chk [hs] (zL gs) Rs))
theorem ab9{α:Type}(l:List α):l.filter (λ_=>false)=[]:=ji.mpr (by simp)
theorem Uz(R:List (List Int)):gNe (rlD R) (.list [])=some (.bool (!R.isEmpty)):=by
 have h:=J2 R
 unfold gEq at h
 unfold gNe
 split at h
 ·next z=>
  rw[if_pos z]
  cases h':PyData.eqv (rlD R) (.list [])<;>rw[h']at h<;>cases h2:R.isEmpty<;>rw[h2]at h<;>simp at h<;>rfl
 ·cases h
theorem GX{w:Nat}(D:w<=1000)(a:Option U):∀(R:List (List Int))(u:Option U),(∀r∈R,r.length=w) ->
 ∃B,iJ (gNl 2) (bU (sIf (D3.tOr (D3.jc (bL (dUn (gIs "tuple") (ao 2)))) (bL (dOp gNe (dCall iz (aH (ao 2) (bw))) (ao 1)))) (dG (dC (.bool false))) (dX)) (sIf (bL (dOp gNe (iB (vY (ao 2)) (gNl 0) (D3.jc (bL (dCall dg (aH (ao 0) (bw))))) (fL (ao 0)) 1 []) (jD (bw)))) (dG (dC (.bool false))) (dX))) (R.map rwD) [a,some (.d (.int (w:Int))),u]=some (.nx [a,some (.d (.int (w:Int))),B])
 |[],u,_=>⟨u,rfl⟩
 |r::R,u,h=>by
  obtain⟨B,e⟩:=GX D a R (some (.d (rwD r))) λx W=>h x (aJ _ W)
  have Z:r.length=w:=h r aG
  have ty:D3.isT "tuple" (tyD (rwD r))=true:=isTup
  have Y:iz [rwD r]=some (.int (w:Int)):=by
   show some (PyData.int ((r.map PyData.int).length:Int))=_
   rw[au,Z]
  have fs:∀a b:Option U,vY (ao 2) [a,b,some (.d (rwD r))]=some (r.map .int):=λ_ _=>rfl
  have C:=H_ (g:=(gNl 0)) (c:=(D3.jc (bL (dCall dg (aH (ao 0) (bw)))))) (e:=(fL (ao 0))) (δ:=[none]) PyData.int (λ_=>false) PyData.int r (λx _=>by
   refine⟨[some (.d (.int x))],rfl,?_,λz=>by cases z⟩
   have w:dg [.int x]=some (.bool true):=lwh (.int x)
   simp only[EV,reduceIte,aq,aA,aj,ak,aB,aC,aD,w,cP])
  rw[ab9]at C
  have V:∀a b c:Option U,nF 1 [] [a,b,c]=[none]:=λ_ _ _=>rfl
  have X:(r.map PyData.int).length<=100000:=by rw[au];omega
  have T:(bU (sIf (D3.tOr (D3.jc (bL (dUn (gIs "tuple") (ao 2)))) (bL (dOp gNe (dCall iz (aH (ao 2) (bw))) (ao 1)))) (dG (dC (.bool false))) (dX)) (sIf (bL (dOp gNe (iB (vY (ao 2)) (gNl 0) (D3.jc (bL (dCall dg (aH (ao 0) (bw))))) (fL (ao 0)) 1 []) (jD (bw)))) (dG (dC (.bool false))) (dX))) [a,some (.d (.int (w:Int))),some (.d (rwD r))]=some (.nx [a,some (.d (.int (w:Int))),some (.d (rwD r))]):=by
   have ne:gNe (.list []) (.list [])=some (.bool false):=rfl
   have nw:gNe (.int (w:Int)) (.int (w:Int))=some (.bool false):=by
    show some (PyData.bool (!decide ((w:Int)=(w:Int))))=_
    rw[dTr rfl]
    rfl
   simp only[EV,reduceIte,aq,aA,aj,ak,aB,aC,aD,ty,Y,nw,fs,X,V,C,iG,ne,cP,Com.sz (show 0<=1000000 by decide)]
  exact⟨B,by rw[aQ];exact(oJ rfl T).trans e⟩
theorem UG{R:List (List Int)}{w:Nat}(hw:∀r∈R,r.length=w)(B:w<=1000):i_ [rlD R,.int (w:Int)]=some (.bool true):=by
 obtain⟨Z,e⟩:=GX B (some (.d (rlD R))) R none hw
 have ty:D3.isT "list" (tyD (rlD R))=true:=(by decide:D3.isT "list" "list"=true)
 have fs:∀a b:Option U,vY (ao 0) [some (.d (rlD R)),a,b]=some (R.map rwD):=λ_ _=>rfl
 unfold i_
 simp only[EV,reduceIte,aq,aA,aj,ak,aB,aC,aD,ty,fs,e,cP]
theorem GZ{w:Nat}(D:1<=w)(B:w<=5)(a b c:Option U):∀(ts:List Wi)(Rs:List (List (List Int)))(ah:List (List Int))(u v:Option U),(∀g∈ts,gOk g)->DP w ah->ah.length<=1000->(∀R∈Rs,R.length<=1000/\DP w R)->Rs.length<=ts.length ->
 (chk ah ts Rs=true/\∃O J,iJ (gTn 2 (cV (gNl 4) (cV (gNl 5) (jZ)))) (bU (sIf (bL (dOp gNe (iB (nG (dCall h_ (aH (ao 3) (aH (ao 5) (bw))))) (gNl 0) (bL (dOp rT (ao 0) (ao 1))) (fL (ao 0)) 1 [4]) (jD (bw)))) (dG (dC (.bool false))) (dX)) (bQ 3 (ao 4))) (lN (Rs.map rlD) (ts.map wiD)) [a,b,c,some (.d (rlD ah)),u,v]=some (.nx [a,b,c,some (.d (rlD (Rs.getLastD ah))),O,J])) \/
 (chk ah ts Rs=false/\iJ (gTn 2 (cV (gNl 4) (cV (gNl 5) (jZ)))) (bU (sIf (bL (dOp gNe (iB (nG (dCall h_ (aH (ao 3) (aH (ao 5) (bw))))) (gNl 0) (bL (dOp rT (ao 0) (ao 1))) (fL (ao 0)) 1 [4]) (jD (bw)))) (dG (dC (.bool false))) (dX)) (bQ 3 (ao 4))) (lN (Rs.map rlD) (ts.map wiD)) [a,b,c,some (.d (rlD ah)),u,v]=some (.rt (.bool false)))
 |[],[],ah,u,v,_,_,_,_,_=>.inl ⟨by unfold chk;rfl,u,v,rfl⟩
 |_::_,[],ah,u,v,_,_,_,_,_=>.inl ⟨by unfold chk;rfl,u,v,rfl⟩
 |[],_::_,ah,u,v,_,_,_,_,h=>absurd h (by simp)
 |g::ts,R::Rs,ah,u,v,T,hn,ha,Y,L=>by
  have X:=T g aG
  have K:=Uw B X hn
  have nx:=QT (g:=g) (rows:=ah) X.1 X.2 (λr h=>by rw[hn.len r h];omega) ha (by omega)
  have nx:h_ [rlD ah,wiD g]=some (.list ((XJ.f9 (nxT g ah)).map rwD)):=nx
  have pl:=(fu (nxT g ah)).length_eq
  have C:=H_ (g:=(gNl 0)) (c:=(bL (dOp rT (ao 0) (ao 1)))) (e:=(fL (ao 0))) (δ:=[none,some (.d (rlD R))]) rwD (λx=>!decide (x∈R)) rwD (XJ.f9 (nxT g ah)) (λx _=>by
   refine⟨[some (.d (rwD x)),some (.d (rlD R))],rfl,?_,λ_=>?_⟩
   ·simp only[EV,reduceIte,aq,aA,aj,ak,aB,aC,aD,QX x R]
   ·simp only[EV,reduceIte,aq,aA,aj,ak,aB,aC,aD,show flat (rwD x)=true from tH PyData.int (λ_=>rfl) x])
  have P:∀a b c d e f:Option U,nF 1 [4] [a,b,c,d,e,f]=[none,e]:=λ_ _ _ _ _ _=>rfl
  have V:((XJ.f9 (nxT g ah)).map rwD).length<=100000:=by rw[au];omega
  have N:=Uz ((XJ.f9 (nxT g ah)).filter λx=>!decide (x∈R))
  have S:((XJ.f9 (nxT g ah)).filter λx=>!decide (x∈R)).isEmpty=sub g ah R:=by
   unfold sub
   rw[nA,List.isEmpty_iff,ji,cJ]
   constructor
   ·intro h x Z
    have:=h x (wA.mpr Z)
    simpa using this
   ·intro h x Z
    have:=h x (wA.mp Z)
    simpa using this
  rw[S]at N
  have N:gNe (.list (((XJ.f9 (nxT g ah)).filter λx=>!decide (x∈R)).map rwD)) (.list [])=some (.bool (!sub g ah R)):=N
  have z:lN ((R::Rs).map rlD) ((g::ts).map wiD) = .tuple [rlD R,wiD g]::lN (Rs.map rlD) (ts.map wiD):=rfl
  have Q:(gTn 2 (cV (gNl 4) (cV (gNl 5) (jZ)))) (.tuple [rlD R,wiD g]) [a,b,c,some (.d (rlD ah)),u,v]=some [a,b,c,some (.d (rlD ah)),some (.d (rlD R)),some (.d (wiD g))]:=rfl
  rw[z,chk]
  cases s:sub g ah R with
  |true=>
   rw[s]at N
   have W:(bU (sIf (bL (dOp gNe (iB (nG (dCall h_ (aH (ao 3) (aH (ao 5) (bw))))) (gNl 0) (bL (dOp rT (ao 0) (ao 1))) (fL (ao 0)) 1 [4]) (jD (bw)))) (dG (dC (.bool false))) (dX)) (bQ 3 (ao 4))) [a,b,c,some (.d (rlD ah)),some (.d (rlD R)),some (.d (wiD g))]=some (.nx [a,b,c,some (.d (rlD R)),some (.d (rlD R)),some (.d (wiD g))]):=by
    simp only[EV,reduceIte,aq,aA,aj,ak,aB,aC,aD,nx,V,P,C,N,cP,Com.sz (show 0<=1000000 by decide)]
   have M:=GZ D B a b c ts Rs R (some (.d (rlD R))) (some (.d (wiD g))) (λg' h'=>T g' (aJ _ h')) (Y R aG).2 (Y R aG).1 (λx Z=>Y x (aJ _ Z)) (by simpa using L)
   rw[oJ Q W,mU,List.getLastD_cons]
   exact M
  |false=>
   rw[s]at N
   have W:(bU (sIf (bL (dOp gNe (iB (nG (dCall h_ (aH (ao 3) (aH (ao 5) (bw))))) (gNl 0) (bL (dOp rT (ao 0) (ao 1))) (fL (ao 0)) 1 [4]) (jD (bw)))) (dG (dC (.bool false))) (dX)) (bQ 3 (ao 4))) [a,b,c,some (.d (rlD ah)),some (.d (rlD R)),some (.d (wiD g))]=some (.rt (.bool false)):=by
    simp only[EV,reduceIte,aq,aA,aj,ak,aB,aC,aD,nx,V,P,C,N,lJ,Com.sz (show 0<=1000000 by decide)]
   refine .inr ⟨lD _,?_⟩
   rw[iJ,Q,aM,W]
   rfl
section
variable{hs:List Int}{gs:List Wi}{Rs:List (List (List Int))}
theorem QZ(hs:List Int):DP hs.length [hs]:=⟨hs,rfl,λr Z=>by rw[aO.mp Z]⟩
theorem Io(O:∀g∈gs,gOk g)(J:gs.length<64)(D:1<=hs.length)(B:hs.length<=5)(hw:∀R∈Rs,R.length<=1000/\DP hs.length R):
 iV [.list (hs.map .int),.list (gs.map wiD),.list (Rs.map rlD)]=some (.bool (Uy hs gs Rs)):=by
 have ty:D3.isT "list" (tyD (.list (Rs.map rlD)))=true:=(by decide:D3.isT "list" "list"=true)
 unfold Uy
 by_cases Z:1<=Rs.length
 ·by_cases W:Rs.length<=gs.length
  ·rw[dTr Z,dTr W,mU,mU]
   have T:=Il J
   have C:=H_ (g:=(gNl 0)) (c:=(D3.jc (bL (dCall i_ (aH (ao 0) (aH (dCall iz (aH (ao 1) (bw))) (bw))))))) (e:=(fL (ao 0))) (δ:=[none,some (.d (.list (hs.map .int)))]) rlD (λ_=>false) rlD Rs (λR N=>by
    refine⟨[some (.d (rlD R)),some (.d (.list (hs.map .int)))],rfl,?_,λz=>by cases z⟩
    have i:=UG (hw R N).2.len (by omega)
    simp only[EV,reduceIte,aq,aA,aj,ak,aB,aC,aD,lMp,i,cP])
   rw[ab9]at C
   have S:∀a b c d e f:Option U,nF 1 [0] [a,b,c,d,e,f]=[none,a]:=λ_ _ _ _ _ _=>rfl
   have V:(Rs.map rlD).length<=100000:=by rw[au];omega
   have ne:gNe (.list []) (.list [])=some (.bool false):=rfl
   have L:=GZ D B (some (.d (.list (hs.map .int)))) (some (.d (.list (gs.map wiD)))) (some (.d (.list (Rs.map rlD)))) (zL gs) Rs [hs] none none (λg h=>O g (QM.mp h)) (QZ hs) (by simp) hw (by rw[QL];exact W)
   have P:rlD [hs] = .list [.tuple (hs.map .int)]:=rfl
   have E:=J2 (Rs.getLastD [hs])
   have le:J5 Rs=(Rs.getLastD [hs]).isEmpty:=by
    obtain⟨Q,R,rfl⟩:∃Q R,Rs=Q++[R]:=by
     have ne:Rs≠[]:=λz=>by rw[z]at Z;simp at Z
     exact⟨Rs.dropLast,Rs.getLast ne,(nC ne).symm⟩
    rw[List.getLastD_concat]
    unfold J5
    rw[rJ]
    cases R<;>rfl
   rw[P]at L
   unfold iV
   rcases L with⟨X,K,M,Y⟩|⟨X,Y⟩
   ·rw[X,Bool.and_true,le]
    simp only[EV,reduceIte,aq,aA,aj,ak,aB,aC,aD,ty,lMp,dTr (show(1:Int)<=(Rs.length:Int)by omega),dTr (show(Rs.length:Int)<=(gs.length:Int)by omega),cP,V,show Rs.length<=100000 by omega,S,C,iG,ne,yJ,T,Y,E,Com.sz (show 0<=1000000 by decide),Com.sz (show 1<=1000000 by decide)]
   ·rw[X,Bool.and_false]
    simp only[EV,reduceIte,aq,aA,aj,ak,aB,aC,aD,ty,lMp,dTr (show(1:Int)<=(Rs.length:Int)by omega),dTr (show(Rs.length:Int)<=(gs.length:Int)by omega),cP,V,show Rs.length<=100000 by omega,S,C,iG,ne,yJ,T,Y,Com.sz (show 0<=1000000 by decide),Com.sz (show 1<=1000000 by decide)]
  ·rw[dFa W,lD,Bool.and_false]
   unfold iV
   simp only[EV,reduceIte,aq,aA,aj,ak,aB,aC,aD,ty,lMp,dTr (show(1:Int)<=(Rs.length:Int)by omega),dFa (show ¬(Rs.length:Int)<=(gs.length:Int)by omega),cP,lJ]
 ·rw[dFa Z,lD]
  unfold iV
  simp only[EV,reduceIte,aq,aA,aj,ak,aB,aC,aD,ty,lMp,dFa (show ¬(1:Int)<=(Rs.length:Int)by omega),cP,lJ]
end
theorem J6{w:Nat}(D:1<=w)(B:w<=5):∀(gs:List Wi)(rows:List (List Int))(m:List Int),(∀g∈gs,gOk g)->m.length=w->(∀r∈rows,r.Perm m)->∀S∈lv rows gs,S.length<=120/\DP w (cU S)
 |[],rows,m,_,_,_=>by
  rw[oK]
  exact λ_ z=>nomatch z
 |g::gs,rows,m,U,hm,V=>by
  have Q:=U g aG
  have kp:∀k∈cU (jR g rows []),k.Perm (can g m)/\k.length=w:=λk Y=>by
   obtain⟨q,X,rfl⟩:=bV.mp Y
   rcases sG rows [] X with z|⟨row,h1,s,h2,rfl⟩
   ·cases z
   ·exact⟨J4 Q (V row h1) h2,by rw[Sd.xV,(V row h1).length_eq,hm]⟩
  have nd:=JV (g:=g) rows [] .nil
  have T:(jR g rows []).length=(cU (jR g rows [])).length:=by unfold cU;rw[au]
  have sl:(jR g rows []).length<=120/\DP w (cU (jR g rows [])):=by
   by_cases e:jR g rows []=[]
   ·rw[e]
    exact⟨cZ _,m,hm,λr z=>nomatch (show r∈([]:List (List Int))from z)⟩
   obtain⟨q,X⟩:=jV _ e
   have Y:q.1∈cU (jR g rows []):=dR X
   have cl:(can g m).length=w:=by rw[<-(kp _ Y).1.length_eq,(kp _ Y).2]
   rw[T]
   exact⟨bF (zN w (can g m) cl _ nd λy R=>(kp y R).1) (Vl w B),can g m,cl,λr Z=>(kp r Z).1⟩
  rw[mX]
  intro S W
  rcases aU.mp W with rfl|W
  ·exact sl
  ·split at W
   ·cases W
   ·next e=>
    obtain⟨q,X⟩:=jV _ e
    have Y:q.1∈cU (jR g rows []):=dR X
    have cl:(can g m).length=w:=by rw[<-(kp _ Y).1.length_eq,(kp _ Y).2]
    exact J6 D B gs _ (can g m) (λg' h'=>U g' (aJ _ h')) cl (λr Z=>(kp r ((fu _).mem_iff.mp Z)).1) S W
theorem Q0:∀(gs:List Wi)(rows:List (List Int)),chk rows gs ((lv rows gs).map λS=>XJ.f9 (cU S))=true
 |[],rows=>by rw[oK];unfold chk;rfl
 |g::gs,rows=>by
  rw[mX,aQ,chk]
  have s:sub g rows (XJ.f9 (cU (jR g rows [])))=true:=by
   unfold sub
   rw[cJ]
   exact λx Z=>dTr (wA.mpr (Ux.mpr Z))
  rw[s,mU]
  split
  ·rw[iG];unfold chk;cases gs<;>rfl
  ·exact Q0 gs _
theorem Vo:∀(gs:List Wi)(rows:List (List Int)),(lv rows gs).length<=gs.length
 |[],rows=>by rw[oK];exact aL _
 |g::gs,rows=>by
  rw[mX,bB,bB]
  split
  ·simp
  ·exact Nat.succ_le_succ (Vo gs _)
noncomputable def DQ(hs:List Int)(gs:List Wi):Prop:=∃ps,laB hs gs ps=true
theorem w_eq(s:Str)(h:PyData.canLay0 (.str s)=true)(t:Str)(h2:PyData.canLay0 (.str t)=true):gEq (.str s) (.str t)=some (.bool (decide (s=t))):=by
 have Z:∀u:Str,PyData.canLay0 (.str u)=true->SeqAt.shaped (.str u)=true:=λu Y=>pW ⟨Y,by simp[PyData.depth]⟩
 unfold gEq
 rw[Z s h,Z t h2]
 show some (PyData.bool (s==t))=_
 by_cases e:s=t
 ·rw[e];simp
 ·rw[dFa e];simp[e]
theorem sI(B:∀g∈gs,grOk g/\gOk g)(J:gs.length<64)(w1:1<=hs.length)(w5:hs.length<=5):
 (DQ hs gs/\dB [.list (hs.map .int),.list (gs.map wiD)]=some (.str "laid"))\/(¬DQ hs gs/\dB [.list (hs.map .int),.list (gs.map wiD)]=some (.str "none")):=by
 have go:∀g∈gs,grOk g:=λg h=>(B g h).1
 have Z:∀g∈gs,gOk g:=λg h=>(B g h).2
 have K:=QJ J
 have pm:=tL gs.length λt=>(gat gs t).1
 have pw:=ab7 gs.length λt=>(gat gs t).1
 have it:inT gs (tn gs.length λt=>(gat gs t).1)=zL gs:=rfl
 generalize u:tn gs.length (λt=>(gat gs t).1)=ts at *
 have o:∀g∈inT gs ts,gOk g:=λg h=>by
  obtain⟨t,h1,rfl⟩:=bV.mp h
  have:=aZ.mp (pm.mem_iff.mp h1)
  unfold gat
  rw[aK,aF this]
  exact Z _ (cg this)
 have P:=J6 w1 w5 (inT gs ts) [hs] hs o rfl λr O=>by rw[aO.mp O]
 have G:Few (lv [hs] (inT gs ts)):=λS U=>⟨by have:=(P S U).1;omega,λk s=>by
  have:=(P S U).2.len k s
  exact⟨λz=>by rw[z]at this;simp at this;omega,by omega⟩⟩
 have ty:∀a b:D,D3.isT "tuple" (tyD (.tuple [a,b]))=true:=λ_ _=>isTup
 have l2:∀a b:D,iz [.tuple [a,b]]=some (.int 2):=λ_ _=>rfl
 have X:gNe (.int 2) (.int 2)=some (.bool false):=rfl
 have M:∀a b:D,gIx (.tuple [a,b]) (.int 0)=some a:=λ_ _=>rfl
 have i1:∀a b:D,gIx (.tuple [a,b]) (.int 1)=some b:=λ_ _=>rfl
 have V:wG (.list (hs.map PyData.int))=some (.list (hs.map .int)):=rfl
 have W:wG (.list (gs.map wiD))=some (.list (gs.map wiD)):=rfl
 have q1:gEq (.str "laid") (.str "laid")=some (.bool true):=w_eq _ (by rw[PyData.canLay0];decide +kernel) _ (by rw[PyData.canLay0];decide +kernel)
 have q2:gEq (.str "none") (.str "laid")=some (.bool false):=w_eq _ (by rw[PyData.canLay0];decide +kernel) _ (by rw[PyData.canLay0];decide +kernel)
 have x:gEq (.str "none") (.str "none")=some (.bool true):=w_eq _ (by rw[PyData.canLay0];decide +kernel) _ (by rw[PyData.canLay0];decide +kernel)
 have E:=Lk go
 by_cases hn:[]∈lv [hs] (inT gs ts)
 ·refine .inr ⟨λ⟨Y,I⟩=>?_,?_⟩
  ·obtain⟨N,y,l⟩:=wj.mp I
   have z:=Ls B pm pw hn λi=>(Y.getD i 0).toNat
   have e:((aR gs.length).map λi=>(((Y.getD i 0).toNat:Nat):Int))=Y:=by
    apply mG
    ·rw[au,bN,N]
    ·intro i j H
     have n:i<gs.length:=by rw[<-N];exact H
     rw[gh,kE]
     have:=y i n
     unfold roB at this
     rw[aX,aX]at this
     have Q:=of_decide_eq_true this.1.1
     rw[aK,aF H]at Q ⊢
     show((Y[i].toNat:Nat):Int)=Y[i]
     have Q:0<=Y[i]:=Q
     omega
   rw[e,I]at z
   cases z
  ·have L:=Uu Z J (by omega) K pm G hn
   have LL:uK [.list (hs.map .int),.list (gs.map wiD)]=some (.tuple [.str "none", .list (((lv [hs] (inT gs ts)).map λS=>XJ.f9 (cU S)).map rlD)]):=by
    rw[dF]
    unfold uK
    simp only[EV,reduceIte,aq,aA,aj,ak,aB,aC,aD,E,L]
    rfl
   have F:=Io (hs:=hs) (gs:=gs) (Rs:=(lv [hs] (inT gs ts)).map λS=>XJ.f9 (cU S)) Z J w1 w5 (λR q=>by
    obtain⟨S,U,rfl⟩:=bV.mp q
    obtain⟨a,m,b,c⟩:=P S U
    have p:=fu (cU S)
    refine⟨?_,m,b,λr O=>c r (p.mem_iff.mp O)⟩
    rw[p.length_eq]
    unfold cU
    rw[au]
    omega)
   have A:Uy hs gs ((lv [hs] (inT gs ts)).map λS=>XJ.f9 (cU S))=true:=by
    obtain⟨f,e,_⟩:=Ij _ _ hn
    unfold Uy
    have C:=Q0 (inT gs ts) [hs]
    have w:=Vo (inT gs ts) [hs]
    have v:(inT gs ts).length=gs.length:=by unfold inT;rw[au,pm.length_eq,bN]
    rw[it]at C w v ⊢
    rw[it]at e
    rw[C,au,dTr (show(lv [hs] (zL gs)).length<=gs.length by omega),dTr (show 1<=(lv [hs] (zL gs)).length by rw[e,bG];simp)]
    rw[e,dj,aQ,iG,show XJ.f9 (cU [])=[]from rfl]
    unfold J5
    rw[rJ]
    rfl
   rw[A]at F
   unfold dB
   simp only[EV,reduceIte,aq,aA,aj,ak,aB,aC,aD,V,W,LL,ty,l2,X,M,i1,q2,x,F,cP]
 ·obtain⟨ss,out,sl,run,L⟩:=QC Z J (by omega) K pm G hn
  have T:=Lw B pm pw sl run
  refine .inl ⟨⟨_,T⟩,?_⟩
  generalize DK gs.length ts ss=ps at *
  have LL:uK [.list (hs.map .int),.list (gs.map wiD)]=some (.tuple [.str "laid", .list (ps.map .int)]):=by
   unfold uK
   simp only[EV,reduceIte,aq,aA,aj,ak,aB,aC,aD,E,L]
  have st:=Qq (hs:=hs) (ps:=ps) go (by omega)
  rw[T]at st
  unfold dB
  simp only[EV,reduceIte,aq,aA,aj,ak,aB,aC,aD,V,W,LL,ty,l2,X,M,i1,q1,st,cP]
theorem ac0{l:List Int}{x:Int}(h:x∈l):x<=mx l:=by
 cases l with
 |nil=>cases h
 |cons a r=>exact(pN r a).2 x h
theorem Yq{l:List Int}{b:Int}(n:l≠[])(h:∀x∈l,x<=b):mx l<=b:=by
 cases l with
 |nil=>exact absurd rfl n
 |cons a r=>exact h _ (pN r a).1
theorem UJ{l:List Int}{p s x:Int}(B:0<=p)(h:x∈sli l p s):∃r:Nat,p<=r/\(r:Int)<p+s/\r<l.length/\x=l.getD r 0:=by
 unfold sli at h
 obtain⟨i,hi,e⟩:=fV h
 have Z:i<s.toNat/\i<l.length-p.toNat:=by
  have:=hi
  rw[cR,fG]at this
  omega
 rw[oU,lG]at e
 refine⟨p.toNat+i,by omega,by omega,by omega,?_⟩
 rw[<-e,aK,aF (by omega)]
 rfl
theorem UL{l:List Int}{p s:Int}{r:Nat}(D:0<=p)(h1:p<=r)(h2:(r:Int)<p+s)(B:r<l.length):l.getD r 0∈sli l p s:=by
 unfold sli
 rw[aK,aF B]
 refine gA (i:=r-p.toNat) ?_
 rw[iU (by omega),fj,show p.toNat+(r-p.toNat)=r by omega,aF B]
 rfl
theorem ac1{zs:List (Wi×Int)}(h1:∀z∈zs,grOk z.1/\roB hs z.1 z.2=true)(h2:zs.Pairwise (λa b=>apB a.1 a.2 b.1 b.2=true)):laB hs (zs.map Prod.fst) (zs.map Prod.snd)=true:=by
 have G:∀i (hi:i<zs.length),gat (zs.map Prod.fst) i=zs[i].1/\(zs.map Prod.snd).getD i 0=zs[i].2:=λi hi=>by
  unfold gat
  rw[aK,aK,bf,bf,aF hi]
  exact⟨rfl,rfl⟩
 refine wj.mpr ⟨by simp,λi hi=>?_,λi hi=>?_⟩
 ·rw[au]at hi
  rw[(G i hi).1,(G i hi).2]
  exact(h1 _ (cg hi)).2
 ·rw[au]at hi
  unfold beB
  rw[cJ]
  intro j Y
  have Y:=aZ.mp Y
  have Z:j<zs.length:=by omega
  rw[(G i hi).1,(G i hi).2,(G j Z).1,(G j Z).2,<-pY (h1 _ (cg hi)).1 (h1 _ (cg Z)).1]
  exact cM.mp h2 j i Z hi Y
theorem Q5{k:Wi}{p q:Int}(h:apB g p k q=true):apB k q g p=true:=by
 unfold apB at *
 simp only[jm,decide_eq_true_eq]at *
 omega
theorem zP{p:Int}(s1:1<=g.2.2):roB hs g p=true<->(0<=p/\p+g.2.2<=hs.length)/\∀r:Nat,p<=r->(r:Int)<p+g.2.2->hs.getD r 0<=g.1:=by
 unfold roB
 rw[aX,aX,decide_eq_true_eq,decide_eq_true_eq,decide_eq_true_eq]
 constructor
 ·rintro⟨⟨a,b⟩,c⟩
  exact⟨⟨a,by omega⟩,λr h1 h2=>gW (ac0 (UL a h1 h2 (by omega))) c⟩
 ·rintro⟨⟨a,b⟩,c⟩
  refine⟨⟨a,by omega⟩,Yq (wg a (by omega) s1) λx X=>?_⟩
  obtain⟨r,Y,Z,_,rfl⟩:=UJ a X
  exact c r Y Z
theorem Q6{k:Wi}{p q:Int}:apB g p k q=true<->g.2.1<=k.1\/k.2.1<=g.1\/p+g.2.2<=q\/q+k.2.2<=p:=by
 unfold apB
 simp only[jm,decide_eq_true_eq]
 omega
noncomputable abbrev AP(a b:Wi×Int):Prop:=apB a.1 a.2 b.1 b.2=true
theorem sJ(go:∀g∈gs,grOk g):DQ hs gs<->∃zs:List (Wi×Int),zs.map Prod.fst=gs/\(∀z∈zs,roB hs z.1 z.2=true)/\zs.Pairwise AP:=by
 constructor
 ·rintro⟨ps,h⟩
  obtain⟨V,W,U⟩:=wj.mp h
  have T:(gs.zip ps).length=gs.length:=by rw[List.length_zip,V,Nat.min_self]
  have Y:∀i,(h:i<gs.length)->(gs.zip ps)[i]'(by omega)=(gat gs i,ps.getD i 0):=λi h=>by
   rw[List.getElem_zip]
   unfold gat
   rw[aK,aK,aF h,aF (show i<ps.length by omega)]
   rfl
  refine⟨gs.zip ps,List.map_fst_zip (by omega),λz Z=>?_,?_⟩
  ·obtain⟨i,hi,rfl⟩:=fV Z
   rw[Y i (by omega)]
   exact W i (by omega)
  ·rw[cM]
   intro i j hi S X
   rw[Y i (by omega),Y j (by omega)]
   have b:=U j (by omega)
   unfold beB at b
   have b:=cJ.mp b i (aZ.mpr X)
   show apB (gat gs i) (ps.getD i 0) (gat gs j) (ps.getD j 0)=true
   rw[pY (vG go (show j<gs.length by omega)) (vG go (show i<gs.length by omega))]
   exact b
 ·rintro⟨zs,rfl,h1,h2⟩
  exact⟨_,ac1 (λz Z=>⟨go _ (dR Z),h1 z Z⟩) h2⟩
theorem Lz{D:List Wi}(h:gs.Perm D):∀zs:List (Wi×Int),zs.map Prod.fst=gs->∃B:List (Wi×Int),B.Perm zs/\B.map Prod.fst=D:=by
 induction h with
 |nil=>exact λzs e=>⟨zs,.refl _,e⟩
 |cons x _ T=>
  intro zs e
  match zs,e with
  |z::r,e=>
   rw[aQ]at e
   injection e with Y Z
   obtain⟨r',p,V⟩:=T r Z
   exact⟨z::r',p.cons z,by rw[aQ,Y,V]⟩
 |swap x y l=>
  intro zs e
  match zs,e with
  |z::U::r,e=>
   rw[aQ,aQ]at e
   injection e with Y Z
   injection Z with Z V
   exact⟨U::z::r,.swap _ _ _,by rw[aQ,aQ,Y,Z,V]⟩
 |trans _ _ W X=>
  intro zs e
  obtain⟨z1,p1,Y⟩:=W zs e
  obtain⟨z2,p2,Z⟩:=X z1 Y
  exact⟨z2,p2.trans p1,Z⟩
theorem DQ.perm{B:List Wi}(go:∀g∈gs,grOk g)(p:gs.Perm B)(h:DQ hs gs):DQ hs B:=by
 obtain⟨zs,e,h1,h2⟩:=(sJ go).mp h
 obtain⟨Z,p',V⟩:=Lz p zs e
 exact(sJ λg W=>go g (p.mem_iff.mpr W)).mpr ⟨Z,V,λz X=>h1 z (p'.mem_iff.mp X),(p'.pairwise_iff λ{x y} Y=>Q5 Y).mpr h2⟩
noncomputable def nM(gs:List Wi)(n:Int):Nat:=gs.countP λg=>decide (g.1<=n)&&decide (n<g.2.1)
noncomputable def mC(hs:List Int)(n:Int):Nat:=hs.countP λe=>decide (e<=n)
noncomputable def one(gs:List Wi):Prop:=∀g∈gs,grOk g/\g.2.2=1
noncomputable def okN(hs:List Int)(gs:List Wi):Prop:=∀g∈gs,nM gs g.1<=mC hs g.1
theorem G3(hs:List Int)(n:Int):((aR hs.length).filter λr=>decide (hs.getD r 0<=n)).length=mC hs n:=by
 unfold mC
 rw[eZ]
 have e:hs=(aR hs.length).map λr=>hs.getD r 0:=by
  apply mG
  ·rw[au,bN]
  ·intro i h1 h2
   rw[gh,kE,aK,aF h1]
   rfl
 conv=>rhs;rw[e,rB,au]
 rfl
theorem need(h1:one gs)(h:DQ hs gs)(n:Int):nM gs n<=mC hs n:=by
 obtain⟨zs,e,Y,pw⟩:=(sJ λg T=>(h1 g T).1).mp h
 have mem:∀z∈zs,z.1∈gs:=λz Z=>by rw[<-e];exact dR Z
 have c:nM gs n=((zs.filter λz=>decide (z.1.1<=n)&&decide (n<z.1.2.1)).map λz=>z.2.toNat).length:=by
  unfold nM
  rw[eZ,<-e,rB,au,au]
  rfl
 rw[c,<-G3]
 refine QV ?_ λr U=>?_
 ·show List.Pairwise _ _
  rw[iH]
  refine List.Pairwise.imp_of_mem (λ{x y} V X W z=>?_) (pw.filter _)
  rw[dI,aX,decide_eq_true_eq,decide_eq_true_eq]at V X
  have a:=Q6.mp W
  have Q:=(h1 _ (mem x V.1)).2
  have R:=(h1 _ (mem y X.1)).2
  have p1:=((zP (by omega)).mp (Y x V.1)).1
  have p2:=((zP (by omega)).mp (Y y X.1)).1
  omega
 ·obtain⟨z,Z,rfl⟩:=bV.mp U
  rw[dI,aX,decide_eq_true_eq,decide_eq_true_eq]at Z
  have o:=(h1 _ (mem z Z.1)).2
  obtain⟨⟨S,p1⟩,q⟩:=(zP (by omega)).mp (Y z Z.1)
  refine dI.mpr ⟨aZ.mpr (by omega),dTr ?_⟩
  have:=q z.2.toNat (by omega) (by omega)
  omega
theorem enough:∀gs:List Wi,one gs->gs.Pairwise (λa b=>b.1<=a.1)->okN hs gs->DQ hs gs
 |[],_,_,_=>⟨[],rfl⟩
 |g::gs,h1,pw,ok=>by
  obtain⟨p1,p2⟩:=bO.mp pw
  have X:one gs:=λk Y=>h1 k (aJ _ Y)
  have sub:∀n,nM gs n<=nM (g::gs) n:=λn=>by unfold nM;rw[mF];omega
  have S:=enough gs X p2 λk Y=>bF (sub _) (ok k (aJ _ Y))
  have go:∀k∈gs,grOk k:=λk Y=>(X k Y).1
  obtain⟨zs,e,V,U⟩:=(sJ go).mp S
  have mem:∀z∈zs,z.1∈gs:=λz Z=>by rw[<-e];exact dR Z
  obtain⟨P,Q⟩:=h1 g aG
  have J:nM gs g.1+1=nM (g::gs) g.1:=by
   unfold nM
   rw[mF,if_pos (by rw[dTr (eV _),dTr P.b];rfl)]
  have O:((zs.filter λz=>decide (z.1.1<=g.1)&&decide (g.1<z.1.2.1)).map λz=>z.2.toNat).length=nM gs g.1:=by
   unfold nM
   rw[eZ,<-e,rB,au,au]
   rfl
  have T:=ok g aG
  obtain⟨r,W,hn⟩:∃r∈(aR hs.length).filter (λr=>decide (hs.getD r 0<=g.1)),¬r∈(zs.filter λz=>decide (z.1.1<=g.1)&&decide (g.1<z.1.2.1)).map λz=>z.2.toNat:=by
   apply Classical.byContradiction
   intro R
   have:=QV (L:=(aR hs.length).filter λr=>decide (hs.getD r 0<=g.1)) (M:=(zs.filter λz=>decide (z.1.1<=g.1)&&decide (g.1<z.1.2.1)).map λz=>z.2.toNat) (List.nodup_range.filter _) λr W=>Classical.byContradiction λz=>R ⟨r,W,z⟩
   rw[G3,O]at this
   omega
  rw[dI,decide_eq_true_eq,aZ]at W
  refine(sJ λk Y=>(h1 k Y).1).mpr ⟨(g,(r:Int))::zs,by rw[aQ,e],λz Z=>?_,bO.mpr ⟨λz Z=>?_,U⟩⟩
  ·rcases aU.mp Z with rfl|Z
   ·refine(zP (show 1<=g.2.2 by omega)).mpr ⟨⟨by show 0<=(r:Int);omega,by show(r:Int)+g.2.2<=_;omega⟩,λq q1 q2=>?_⟩
    have q1:(r:Int)<=q:=q1
    have q2:(q:Int)<(r:Int)+g.2.2:=q2
    have:q=r:=by omega
    rw[this]
    exact W.2
   ·exact V z Z
  ·show apB g (r:Int) z.1 z.2=true
   rw[Q6]
   have f:=p1 z.1 (mem z Z)
   have N:=(X z.1 (mem z Z)).2
   obtain⟨⟨K,_⟩,_⟩:=(zP (show 1<=z.1.2.2 by omega)).mp (V z Z)
   by_cases c:g.1<z.1.2.1
   ·have ne:r≠z.2.toNat:=λy=>hn (bV.mpr ⟨z,dI.mpr ⟨Z,by rw[dTr f,dTr c];rfl⟩,y.symm⟩)
    omega
   ·omega
theorem xZ(h1:one gs):DQ hs gs<->okN hs gs:=by
 refine⟨λh g _=>need h1 h g.1,λh=>?_⟩
 have go:∀g∈gs,grOk g:=λg Z=>(h1 g Z).1
 let le:Wi->Wi->Bool:=λa b=>decide (b.1<=a.1)
 have pm:(gs.mergeSort le).Perm gs:=List.mergeSort_perm gs le
 have pw:(gs.mergeSort le).Pairwise (λa b=>b.1<=a.1):=by
  have:=List.pairwise_mergeSort (le:=le) (λa b c h1 h2=>by
   have h1:=of_decide_eq_true h1
   have h2:=of_decide_eq_true h2
   exact dTr (by omega)) (λa b=>by
   show(decide (b.1<=a.1)||decide (a.1<=b.1))=true
   by_cases c:b.1<=a.1
   ·rw[dTr c];rfl
   ·rw[dTr (show a.1<=b.1 by omega),Bool.or_true]) gs
  exact this.imp λh=>of_decide_eq_true h
 have S:=enough (hs:=hs) (gs.mergeSort le) (λg Z=>h1 g (pm.mem_iff.mp Z)) pw λg Z=>by
  have:=h g (pm.mem_iff.mp Z)
  have e:nM (gs.mergeSort le) g.1=nM gs g.1:=pm.countP_eq _
  omega
 exact S.perm (λg Z=>go g (pm.mem_iff.mp Z)) pm
noncomputable def stM(hs:List Int)(gs:List Wi)(m:Int)(g:Wi):Int:=if(nM gs g.1:Int)-(mC hs g.1:Int)>m then(nM gs g.1:Int)-(mC hs g.1:Int)else m
noncomputable def lkN(hs:List Int)(gs l:List Wi):Int:=l.foldl (stM hs gs) 0
theorem Vp:∀(l:List Wi)(m:Int),m<=l.foldl (stM hs gs) m/\(∀g∈l,(nM gs g.1:Int)-(mC hs g.1:Int)<=l.foldl (stM hs gs) m)/\(l.foldl (stM hs gs) m=m\/∃g∈l,l.foldl (stM hs gs) m=(nM gs g.1:Int)-(mC hs g.1:Int))
 |[],m=>⟨eV _,(λ_ z=>nomatch z),.inl rfl⟩
 |g::l,m=>by
  obtain⟨a,b,c⟩:=Vp l (stM hs gs m g)
  rw[gQ]
  have s1:m<=stM hs gs m g:=by unfold stM;split<;>omega
  have s2:(nM gs g.1:Int)-(mC hs g.1:Int)<=stM hs gs m g:=by unfold stM;split<;>omega
  refine⟨gW s1 a,λk Z=>?_,?_⟩
  ·rcases aU.mp Z with rfl|Z
   ·exact gW s2 a
   ·exact b k Z
  ·rcases c with c|⟨k,Z,c⟩
   ·rw[c]
    unfold stM
    split
    ·exact .inr ⟨g,aG,rfl⟩
    ·exact .inl rfl
   ·exact .inr ⟨k,aJ _ Z,c⟩
theorem G4(B:hs.length<=1000)(D:gs.length<=1000):Com.iy [.list (hs.map .int),.list (gs.map wiD)]=some (.int (lkN hs gs gs)):=by
 have J:=Ds (g:=(gNl 0)) (c:=(D3.m6)) (e:=(fL (dOp gIx (ao 0) (dC (.int 0))))) (δ:=[none]) wiD (λg=>.int g.1) gs (λg _=>⟨[some (.d (wiD g))],rfl,rfl,by
  have X:gIx (wiD g) (.int 0)=some (.int g.1):=rfl
  have f:flat (.int g.1)=true:=rfl
  simp only[EV,reduceIte,aq,aA,aj,ak,aB,aC,aD,X,f]⟩)
 have S:∀a b c d e f:Option U,nF 1 [] [a,b,c,d,e,f]=[none]:=λ_ _ _ _ _ _=>rfl
 have T:∀a b c d e f:Option U,nF 1 [3] [a,b,c,d,e,f]=[none,d]:=λ_ _ _ _ _ _=>rfl
 have R:(gs.map wiD).length<=100000:=by rw[au];omega
 have N:(hs.map PyData.int).length<=100000:=by rw[au];omega
 obtain⟨Q,e,W,Y,Z,rfl⟩:=qQ (g:=(gNl 3)) (b:=(bU (bQ 4 (dCall iz (aH (iB (nG (ao 1)) (gNl 0) (bL (ju gLe gLt (dOp gIx (ao 0) (dC (.int 0))) (ao 1) (dOp gIx (ao 0) (dC (.int 1))))) (fL (ao 0)) 1 [3]) (bw)))) (bU (bQ 5 (dCall iz (aH (iB (nG (ao 0)) (gNl 0) (bL (dOp gLe (ao 0) (ao 1))) (fL (ao 0)) 1 [3]) (bw)))) (bQ 2 (dCall Ar (aH (ao 2) (aH (dOp rF (ao 4) (ao 5)) (bw)))))))) (λj δ=>∃W Y Z,δ=[some (.d (.list (hs.map .int))),some (.d (.list (gs.map wiD))),some (.d (.int (lkN hs gs (gs.take j)))),W,Y,Z]) (gs.map λg=>PyData.int g.1) [some (.d (.list (hs.map .int))),some (.d (.list (gs.map wiD))),some (.d (.int 0)),none,none,none] ⟨none,none,none,rfl⟩ (by
  rintro j x δ hd ⟨W,Y,Z,rfl⟩
  rw[bf]at hd
  cases V:gs[j]? with
  |none=>rw[V]at hd;cases hd
  |some g=>
   rw[V]at hd
   cases hd
   have K:=H_ (g:=(gNl 0)) (c:=(bL (ju gLe gLt (dOp gIx (ao 0) (dC (.int 0))) (ao 1) (dOp gIx (ao 0) (dC (.int 1)))))) (e:=(fL (ao 0))) (δ:=[none,some (.d (.int g.1))]) wiD (λk=>decide (k.1<=g.1)&&decide (g.1<k.2.1)) wiD gs (λk _=>by
    have X:gIx (wiD k) (.int 0)=some (.int k.1):=rfl
    have i1:gIx (wiD k) (.int 1)=some (.int k.2.1):=rfl
    refine⟨[some (.d (wiD k)),some (.d (.int g.1))],rfl,?_,λ_=>?_⟩
    ·cases c:decide (k.1<=g.1)with
     |true=>simp only[EV,reduceIte,aq,aA,aj,ak,aB,aC,aD,X,i1,c,mU]
     |false=>simp only[EV,reduceIte,aq,aA,aj,ak,aB,aC,aD,X,i1,c,lD]
    ·have f:flat (wiD k)=true:=rfl
     simp only[EV,reduceIte,aq,aA,aj,ak,aB,aC,aD,f])
   have L:=H_ (g:=(gNl 0)) (c:=(bL (dOp gLe (ao 0) (ao 1)))) (e:=(fL (ao 0))) (δ:=[none,some (.d (.int g.1))]) PyData.int (λk=>decide (k<=g.1)) PyData.int hs (λk _=>by
    refine⟨[some (.d (.int k)),some (.d (.int g.1))],rfl,?_,λ_=>?_⟩
    ·simp only[EV,reduceIte,aq,aA,aj,ak,aB,aC,aD]
    ·have f:flat (.int k)=true:=rfl
     simp only[EV,reduceIte,aq,aA,aj,ak,aB,aC,aD,f])
   have O:(gs.filter λk=>decide (k.1<=g.1)&&decide (g.1<k.2.1)).length=nM gs g.1:=by unfold nM;rw[eZ]
   have P:(hs.filter λk=>decide (k<=g.1)).length=mC hs g.1:=by unfold mC;rw[eZ]
   have tk:lkN hs gs (gs.take (j+1))=stM hs gs (lkN hs gs (gs.take j)) g:=by
    unfold lkN
    rw[uN,V,uQ]
    rfl
   have M:(bU (bQ 4 (dCall iz (aH (iB (nG (ao 1)) (gNl 0) (bL (ju gLe gLt (dOp gIx (ao 0) (dC (.int 0))) (ao 1) (dOp gIx (ao 0) (dC (.int 1))))) (fL (ao 0)) 1 [3]) (bw)))) (bU (bQ 5 (dCall iz (aH (iB (nG (ao 0)) (gNl 0) (bL (dOp gLe (ao 0) (ao 1))) (fL (ao 0)) 1 [3]) (bw)))) (bQ 2 (dCall Ar (aH (ao 2) (aH (dOp rF (ao 4) (ao 5)) (bw))))))) [some (.d (.list (hs.map .int))),some (.d (.list (gs.map wiD))),some (.d (.int (lkN hs gs (gs.take j)))),some (.d (.int g.1)),Y,Z]=some (.nx [some (.d (.list (hs.map .int))),some (.d (.list (gs.map wiD))),some (.d (.int (lkN hs gs (gs.take (j+1))))),some (.d (.int g.1)),some (.d (.int (nM gs g.1:Int))),some (.d (.int (mC hs g.1:Int)))]):=by
    rw[tk]
    unfold stM
    simp only[EV,reduceIte,aq,aA,aj,ak,aB,aC,aD,R,N,T,K,L,lMp,O,P,show gs.length<=100000 by omega,show hs.length<=100000 by omega]
   exact⟨_,_,rfl,.inl M,_,_,_,rfl⟩)
 rw[au,List.take_length]at e
 have f:flat (.int (lkN hs gs gs))=true:=rfl
 unfold Com.iy
 simp only[EV,reduceIte,aq,aA,aj,ak,aB,aC,aD,R,S,J,e,f,lMp,show gs.length<=100000 by omega]
theorem Q7(ns:List Int){w:Int}(w0:1<=w)(D:w<=6):∃hs:List Int,(hs.length:Int)=w/\(∀h∈hs,0<=h)/\nj [.list (ns.map .int),.int w]=some (.list (hs.map .int)):=by
 have Q:ud (some [.int w])=some (gC 0 w):=Gi (by omega) (by omega)
 have S:Com.cA [.list (ns.map .int),.int 1,.int 0,.int 360]=some (.int (jX ns 1 0 360)):=n_ (by decide) (by decide) (by decide) (by decide)
 have B:=jH ns 1 0 (m:=360) (by decide)
 generalize jX ns 1 0 360=b at S B
 obtain⟨R,e,hs,K,L,O,Z,rfl⟩:=qQ (g:=(gNl 4)) (b:=(bU (bQ 5 (dCall cA (aH (ao 0) (aH (dC (.int 2)) (aH (ao 4) (aH (dC (.int 9)) (bw))))))) (uU 3 (dOp gIx (jD (aH (dC (.int 0)) (aH (dOp rF (dOp gG (ao 2) (ao 5)) (dC (.int 5))) (bw)))) (dCall tR (aH (dOp gGt (ao 5) (dC (.int 4))) (bw))))))) (λi δ=>∃(hs:List Int)(X Y:Option U),hs.length=i/\(∀h∈hs,0<=h)/\δ=[some (.d (.list (ns.map .int))),some (.d (.int w)),some (.d (.int b)),some (.d (.list (hs.map .int))),X,Y]) (gC 0 w) [some (.d (.list (ns.map .int))),some (.d (.int w)),some (.d (.int b)),some (.d (.list [])),none,none] ⟨[],none,none,rfl,by simp,rfl⟩
  (by
   rintro i d δ hd ⟨hs,X,Y,T,Z,rfl⟩
   obtain⟨J,rfl⟩:=lR hd
   have P:Com.cA [.list (ns.map .int),.int 2,.int (i:Int),.int 9]=some (.int (jX ns 2 (i:Int) 9)):=n_ (by decide) (by omega) (by omega) (by decide)
   generalize jX ns 2 (i:Int) 9=x at P
   have W:∀v:Int,0<=v->∀h∈hs++[v],0<=h:=λv N h M=>by
    rcases cD.mp M with z|z
    ·exact Z h z
    ·rw[aO.mp z];exact N
   have V:∀v:Int,(hs++[v]).map PyData.int=hs.map PyData.int++[.int v]:=λv=>by rw[dj];rfl
   by_cases c:x>4
   ·refine⟨_,_,rfl,.inl ?_,hs++[b+x-5],some (.d (.int (i:Int))),some (.d (.int x)),by rw[bG,T];rfl,W _ (by omega),rfl⟩
    rw[V]
    simp only[EV,reduceIte,aq,aA,aj,ak,aB,aC,aD,P,dTr c,show tR [.bool true]=some (.int 1)from rfl,at1,Com.sz (show 2<=1000000 by decide),lMp,show hs.length<1000000 by omega]
   ·refine⟨_,_,rfl,.inl ?_,hs++[0],some (.d (.int (i:Int))),some (.d (.int x)),by rw[bG,T];rfl,W _ (by decide),rfl⟩
    rw[V]
    simp only[EV,reduceIte,aq,aA,aj,ak,aB,aC,aD,P,dFa c,show tR [.bool false]=some (.int 0)from rfl,at0,Com.sz (show 2<=1000000 by decide),lMp,show hs.length<1000000 by omega])
 refine⟨hs,by rw[O,JG];omega,Z,?_⟩
 unfold nj
 simp only[EV,reduceIte,aq,aA,aj,ak,aB,aC,aD,S,Q,e,qW,Com.sz (show 0<=1000000 by decide)]
theorem G5(ns:List Int){m:Int}(m0:0<=m)(D:m<=16):∃gs:List Wi,(gs.length:Int)=m/\one gs/\Com.iw [.list (ns.map .int),.int m]=some (.list (gs.map wiD)):=by
 have O:ud (some [.int m])=some (gC 0 m):=Gi (by omega) (by omega)
 have V:Com.cA [.list (ns.map .int),.int 1,.int 0,.int 360]=some (.int (jX ns 1 0 360)):=n_ (by decide) (by decide) (by decide) (by decide)
 have B:=jH ns 1 0 (m:=360) (by decide)
 generalize jX ns 1 0 360=b at V B
 have W:Com.cA [.list (ns.map .int),.int 1,.int 1,.int 4]=some (.int (jX ns 1 1 4)):=n_ (by decide) (by decide) (by decide) (by decide)
 have T:=jH ns 1 1 (m:=4) (by decide)
 generalize jX ns 1 1 4=q at W T
 obtain⟨w,hw,F,G⟩:∃w:Int,gIx (.list [.int 5,.int 8,.int 12,.int 20]) (.int q)=some (.int w)/\1<=w/\w<=20:=by
  obtain⟨q,rfl⟩:=pH T.1
  have:q<4:=by omega
  match q,this with
  |0,_=>exact⟨5,rfl,by decide,by decide⟩
  |1,_=>exact⟨8,rfl,by decide,by decide⟩
  |2,_=>exact⟨12,rfl,by decide,by decide⟩
  |3,_=>exact⟨20,rfl,by decide,by decide⟩
 obtain⟨Q,e,gs,H,I,J,Z,rfl⟩:=qQ (g:=(gNl 5)) (b:=(bU (bQ 6 (dOp gG (ao 2) (dCall cA (aH (ao 0) (aH (dOp gG (dC (.int 3)) (ao 5)) (aH (dC (.int 0)) (aH (ao 3) (bw)))))))) (uU 4 (dTup (aH (ao 6) (aH (dOp gG (dOp gG (ao 6) (dC (.int 1))) (dCall cA (aH (ao 0) (aH (dOp gG (dC (.int 3)) (ao 5)) (aH (dC (.int 1)) (aH (dC (.int 6)) (bw))))))) (aH (dC (.int 1)) (bw)))))))) (λi δ=>∃(gs:List Wi)(X Y:Option U),gs.length=i/\one gs/\δ=[some (.d (.list (ns.map .int))),some (.d (.int m)),some (.d (.int b)),some (.d (.int w)),some (.d (.list (gs.map wiD))),X,Y]) (gC 0 m) [some (.d (.list (ns.map .int))),some (.d (.int m)),some (.d (.int b)),some (.d (.int w)),some (.d (.list [])),none,none] ⟨[],none,none,rfl,(λ_ z=>nomatch z),rfl⟩
  (by
   rintro i d δ hd ⟨gs,X,Y,K,Z,rfl⟩
   obtain⟨E,rfl⟩:=lR hd
   have P:∀k m:Int,0<=k->k<=1000->0<m->Com.cA [.list (ns.map .int),.int (3+(i:Int)),.int k,.int m]=some (.int (jX ns (3+(i:Int)) k m)):=λk m a b c=>n_ (by omega) a b c
   have R:=P 0 w (by decide) (by decide) (by omega)
   have M:=jH ns (3+(i:Int)) 0 (m:=w) (by omega)
   generalize jX ns (3+(i:Int)) 0 w=x at R M
   have S:=P 1 6 (by decide) (by decide) (by decide)
   have N:=jH ns (3+(i:Int)) 1 (m:=6) (by decide)
   generalize jX ns (3+(i:Int)) 1 6=y at S N
   have ok:one (gs++[(b+x,b+x+1+y,1)]):=λg hm=>by
    rcases cD.mp hm with hm|hm
    ·exact Z g hm
    ·rw[aO.mp hm]
     exact⟨⟨by show 0<=b+x;omega,by show b+x<b+x+1+y;omega,by show b+x+1+y<=400;omega,show(1:Int)<=1 by decide,show(1:Int)<=6 by decide⟩,rfl⟩
   have L:(gs++[(b+x,b+x+1+y,1)]).map wiD=gs.map wiD++[.tuple [.int (b+x),.int (b+x+1+y),.int 1]]:=by rw[dj];rfl
   refine⟨_,_,rfl,.inl ?_,gs++[(b+x,b+x+1+y,1)],some (.d (.int (i:Int))),some (.d (.int (b+x))),by rw[bG,K];rfl,ok,rfl⟩
   rw[L]
   simp only[EV,reduceIte,aq,aA,aj,ak,aB,aC,aD,R,S,Com.sz (show 3<=1000000 by decide),lMp,show gs.length<1000000 by omega])
 refine⟨gs,by rw[J,JG];omega,Z,?_⟩
 unfold Com.iw
 simp only[EV,reduceIte,aq,aA,aj,ak,aB,aC,aD,V,W,hw,O,e,tH wiD (λ_=>rfl),Com.sz (show 0<=1000000 by decide),Com.sz (show 4<=1000000 by decide)]
theorem Bx(hs:List Int)(k:Nat){n:Int}(h:0<=n):mC (hs++aN k 0) n=mC hs n+k:=by
 unfold mC
 rw[List.countP_append,List.countP_replicate,if_pos (dTr h)]
theorem ac2(h:n<=1000):uy (.list [.int 0]) (.int (n:Int))=some (.list (aN n (.int 0))):=by
 show(if [PyData.int 0].length*((n:Int)).toNat<=1000000/\-(2^63)<=(n:Int)/\(n:Int)<2^63 then some (PyData.list (aN ((n:Int)).toNat [PyData.int 0]).flatten)else none)=_
 rw[if_pos ⟨by simp;omega,by omega,by omega⟩,show((n:Int)).toNat=n by omega]
 congr 2
 clear h
 induction n with
 |zero=>rfl
 |succ n Z=>rw[b_,eU,Z,b_];rfl
theorem Q8(ns:List Int)(hn:ns.length<=63):Gj [.list (ns.map .int)]=some (.bool true):=by
 have PA:∀k m:Int,0<=k->k<=1000->0<m->Com.cA [.list (ns.map .int),.int 0,.int k,.int m]=some (.int (jX ns 0 k m)):=λk m a b c=>n_ (by decide) a b c
 have O:=PA 0 5 (by decide) (by decide) (by decide)
 have o:=jH ns 0 0 (m:=5) (by decide)
 generalize jX ns 0 0 5=w at O o
 have P:=PA 1 17 (by decide) (by decide) (by decide)
 have p:=jH ns 0 1 (m:=17) (by decide)
 generalize jX ns 0 1 17=m at P p
 obtain⟨hs,lh,hh,K⟩:=Q7 ns (w:=1+w) (by omega) (by omega)
 obtain⟨gs,lg,h1,J⟩:=G5 ns (m:=m) (by omega) (by omega)
 have L:=G4 (hs:=hs) (gs:=gs) (by omega) (by omega)
 have Y:∀g∈gs,grOk g/\gOk g:=λg h=>⟨(h1 g h).1,(h1 g h).1.s,(h1 g h).1.t⟩
 obtain⟨E,k1,k2⟩:=Vp (hs:=hs) (gs:=gs) gs 0
 have V:=sI (hs:=hs) Y (by omega) (by omega) (by omega)
 change 0<=lkN hs gs gs at E
 change ∀g∈gs,(nM gs g.1:Int)-(mC hs g.1:Int)<=lkN hs gs gs at k1
 change lkN hs gs gs=0\/∃g∈gs,lkN hs gs gs=(nM gs g.1:Int)-(mC hs g.1:Int)at k2
 generalize lkN hs gs gs=lk at *
 have ok0:okN hs gs<->lk<=0:=by
  constructor
  ·intro h
   rcases k2 with z|⟨g,Z,z⟩
   ·omega
   ·have:=h g Z
    omega
  ·intro h g Z
   have:=k1 g Z
   omega
 have C:∀a b:Str,PyData.canLay0 (.str a)=true->PyData.canLay0 (.str b)=true->gNe (.str a) (.str b)=some (.bool (!decide (a=b))):=λa b ha hb=>by
  have I:∀u:Str,PyData.canLay0 (.str u)=true->SeqAt.shaped (.str u)=true:=λu i=>pW ⟨i,by simp[PyData.depth]⟩
  unfold gNe
  rw[I a ha,I b hb]
  show some (PyData.bool (!(a==b)))=_
  by_cases e:a=b
  ·rw[e];simp
  ·rw[dFa e];simp[e]
 have B:PyData.canLay0 (.str "laid")=true:=by rw[PyData.canLay0];decide +kernel
 have Q:PyData.canLay0 (.str "none")=true:=by rw[PyData.canLay0];decide +kernel
 have F:gNe (.str "laid") (.str "laid")=some (.bool false):=by rw[C _ _ B B,dTr rfl];rfl
 have G:gNe (.str "none") (.str "none")=some (.bool false):=by rw[C _ _ Q Q,dTr rfl];rfl
 have qN:gEq (.str "none") (.str "none")=some (.bool true):=by rw[w_eq _ Q _ Q,dTr rfl]
 have M:gIx (.list [.str "laid", .str "none"]) (.int 0)=some (.str "laid"):=rfl
 have U:gIx (.list [.str "laid", .str "none"]) (.int 1)=some (.str "none"):=rfl
 have i1:tR [.bool true]=some (.int 1):=rfl
 have n:tR [.bool false]=some (.int 0):=rfl
 by_cases c:lk>0
 ·have R:dB [.list (hs.map .int),.list (gs.map wiD)]=some (.str "none"):=by
   rcases V with⟨S,_⟩|⟨_,b⟩
   ·have:=ok0.mp ((xZ h1).mp S)
    omega
   ·exact b
  by_cases A:1+w+lk>5
  ·unfold Gj
   simp only[EV,reduceIte,aq,aA,aj,ak,aB,aC,aD,O,P,K,J,L,R,dTr c,i1,U,G,dFa (show ¬lk=0 by omega),dTr A,Com.sz (show 2<=1000000 by decide)]
  ·obtain⟨k,rfl⟩:=pH E
   have W:∀j:Nat,okN (hs++aN j 0) gs<->(k:Int)<=j:=λj=>by
    constructor
    ·intro h
     rcases k2 with z|⟨g,Z,z⟩
     ·omega
     ·have q:=h g Z
      rw[Bx hs j (h1 g Z).1.f]at q
      omega
    ·intro h g Z
     have:=k1 g Z
     show nM gs g.1<=mC (hs++aN j 0) g.1
     rw[Bx hs j (h1 g Z).1.f]
     omega
   have x:dB [.list ((hs++aN k 0).map .int),.list (gs.map wiD)]=some (.str "laid"):=by
    rcases sI (hs:=hs++aN k 0) Y (by omega) (by rw[bG];omega) (by rw[bG,bC];omega)with⟨_,b⟩|⟨a,_⟩
    ·exact b
    ·exact absurd ((xZ h1).mpr ((W k).mpr (eV _))) a
   have y:dB [.list ((hs++aN (k-1) 0).map .int),.list (gs.map wiD)]=some (.str "none"):=by
    rcases sI (hs:=hs++aN (k-1) 0) Y (by omega) (by rw[bG];omega) (by rw[bG,bC];omega)with⟨a,_⟩|⟨_,b⟩
    ·have:=(W (k-1)).mp ((xZ h1).mp a)
     omega
    ·exact b
   rw[dj,List.map_replicate]at x y
   have H:∀j:Nat,j<=1000->uy (.list [.int 0]) (.int (j:Int))=some (.list (aN j (.int 0))):=λj hj=>ac2 hj
   have N:=H k (by omega)
   have X:=H (k-1) (by omega)
   have e1:((k-1:Nat):Int)=(k:Int)-1:=by omega
   rw[e1]at X
   have T:∀(l m:List D),l.length+m.length<=1000000->pJ (.list l) (.list m)=some (.list (l++m)):=λl m d=>by rw[P_,if_pos d]
   have r:=T (hs.map .int) (aN k (.int 0)) (by rw[au,bC];omega)
   have v:=T (hs.map .int) (aN (k-1) (.int 0)) (by rw[au,bC];omega)
   unfold Gj
   simp only[EV,reduceIte,aq,aA,aj,ak,aB,aC,aD,O,P,K,J,L,R,dTr c,i1,U,G,dFa (show ¬(k:Int)=0 by omega),dFa A,N,r,x,F,X,v,y,qN,Com.sz (show 1<=1000000 by decide),Com.sz (show 2<=1000000 by decide)]
 ·have z:lk=0:=by omega
  have R:dB [.list (hs.map .int),.list (gs.map wiD)]=some (.str "laid"):=by
   rcases V with⟨_,b⟩|⟨a,_⟩
   ·exact b
   ·exact absurd ((xZ h1).mpr (ok0.mpr (by omega))) a
  unfold Gj
  simp only[EV,reduceIte,aq,aA,aj,ak,aB,aC,aD,O,P,K,J,L,R,dFa c,n,M,F,dTr z,Com.sz (show 2<=1000000 by decide)]
end K79
namespace K79
open PySem PySem.Spec PyProof.Rows L2 My D3 XS XK
noncomputable def top(i:Nat):Stmt:=PySem.Challenge.pw_nightbook_k79_whole_one_room_each.main.body.getD i (.Pass ⟨0,0,0,0⟩)
section
seal PE PT PW PA PS PSs PG PGs PI PO PTs
variable{P:Program}{w:World}{K:PySem.W.Frag}{mg:Str->Option Value}{base:Heap}{n:Nat}
theorem G6(D:Dg K mg "is_whole" (top 5) ["thing"])(B:Bl mg):Has P w K mg base (n+1) "is_whole" ["thing"] (spD K iu):=by
 have sc:FnScope ["thing"] ["thing"] (bM (top 5)):=fsc
 exact iT (fl:=[.A]) D sc (by decide) (by decide) λf cdv A outer s H E Z=>bI (cH (cW (uF (bA (oF (T := "int") (by decide) (vP 0) (by rfl) B.isinstance_ (by rfl) B.int_ PyProof.Rows.boot_int)) (uE (Nm (bA (oF (T := "bool") (by decide) (vP 0) (by rfl) B.isinstance_ (by rfl) B.bool_ PyProof.Rows.boot_bool)))))))
theorem uM(D:Dg K mg "is_whole_within" (top 6) ["thing", "least", "most"])(B:Bl mg)(J:Has P w K mg base n "is_whole" ["thing"] (spD K iu)):Has P w K mg base (n+1) "is_whole_within" ["thing", "least", "most"] (spD K fQ):=by
 have sc:FnScope ["thing", "least", "most"] ["thing", "least", "most"] (bM (top 6)):=fsc
 exact iT (fl:=[.A,.A,.A]) D sc (by decide) (by decide) λf cdv A outer s H E Z=>bI (cH (cW (uF (jW (cI J Z (dq (vP 0) dz))) (uE (E_ lK lK qx qx (vP 1) (vP 0) (vP 2))))))
theorem DR(D:Dg K mg "all_whole" (top 7) ["things"])(B:Bl mg)(J:Has P w K mg base n "is_whole" ["thing"] (spD K iu)):Has P w K mg base (n+1) "all_whole" ["things"] (spD K m_):=by
 have sc:FnScope ["things"] ["things"] (bM (top 7)):=fsc
 exact iT (fl:=[.A]) D sc (by decide) (by decide) λf cdv A outer s H E Z=>bI (cH (cW (fW (Ky rfl) Zh (by rfl) B.all_ (show bootBuiltins "all"=some (.builtin "all")by decide +kernel) (dq (bA (kh (L:=[]) (fl':=[.A]) rfl ["thing"] [] [] (yK (vB 0)) (λ_ _ _ _ _=>gN' (i:=0) (show(["thing"]:List Str).Nodup by decide +kernel)) (λ_ _ _ _ _=>qz) (λ_ _ _ _ _=>cI J Z (dq (vP 0) dz)))) dz))))
theorem zQ(D:Dg K mg "is_tuple_of" (top 8) ["thing", "many"])(B:Bl mg)(J:Has P w K mg base n "all_whole" ["things"] (spD K m_)):Has P w K mg base (n+1) "is_tuple_of" ["thing", "many"] (spD K j8):=by
 have sc:FnScope ["thing", "many"] ["thing", "many"] (bM (top 8)):=fsc
 exact iT (fl:=[.A,.A]) D sc (by decide) (by decide) λf cdv A outer s H E Z=>bI (cH (yE (uF (bA (oF (T := "tuple") (by decide) (vP 0) (by rfl) B.isinstance_ (by rfl) B.tuple_ PyProof.Rows.boot_tuple)) (uF (bA (rO (qm Z.units) Ce (bA (fW bZ jG (by rfl) B.len_ PySem.boot_len (dq (vP 0) dz))) (vP 1) (dW _))) (uE (cI J Z (dq (vP 0) dz)))))))
theorem Ip(D:Dg K mg "is_pair" (top 9) ["thing"])(B:Bl mg)(J:Has P w K mg base n "is_tuple_of" ["thing", "many"] (spD K j8)):Has P w K mg base (n+1) "is_pair" ["thing"] (spD K pX):=by
 have sc:FnScope ["thing"] ["thing"] (bM (top 9)):=fsc
 exact iT (fl:=[.A]) D sc (by decide) (by decide) λf cdv A outer s H E Z=>bI (cH (yE (cI J Z (dq (vP 0) (dq iP dz)))))
theorem Ab(D:Dg K mg "is_stretch" (top 12) ["thing"])(B:Bl mg)(J:Has P w K mg base n "is_pair" ["thing"] (spD K pX))(O:∃t,mg "NIGHTS"=some (.int 400 t)):Has P w K mg base (n+1) "is_stretch" ["thing"] (spD K lU):=by
 have sc:FnScope ["thing"] ["thing"] (bM (top 12)):=fsc
 exact iT (fl:=[.A]) D sc (by decide) (by decide) λf cdv A outer s H E Z=>bI (cH (cW (uF (jW (cI J Z (dq (vP 0) dz))) (uE (Ks lK Em lK qx b_lt qx iP (eN (dx (vB 0) iP)) (eN (dx (vB 0) iP)) (bA (Cd O)))))))
theorem DX(D:Dg K mg "nights_of" (top 13) ["stay"])(B:Bl mg):Has P w K mg base (n+1) "nights_of" ["stay"] (spD K jJ):=by
 have sc:FnScope ["stay"] ["stay"] (bM (top 13)):=fsc
 exact iT (fl:=[.A]) D sc (by decide) (by decide) λf cdv A outer s H E Z=>bI (cH (vV rfl (dq (cW (kJ (eN (dx (vB 0) iP)))) (dq (cW (kJ (eN (dx (vB 0) iP)))) dz))))
theorem G7(D:Dg K mg "is_group" (top 17) ["thing"])(B:Bl mg)(J:Has P w K mg base n "is_whole_within" ["thing", "least", "most"] (spD K fQ))(W:Has P w K mg base n "is_stretch" ["thing"] (spD K lU))(Y:Has P w K mg base n "nights_of" ["stay"] (spD K jJ))(O:∃t,mg "MOST_OF_A_GROUP"=some (.int 6 t)):Has P w K mg base (n+1) "is_group" ["thing"] (spD K mQ):=by
 have sc:FnScope ["thing"] ["thing"] (bM (top 17)):=fsc
 exact iT (fl:=[.A]) D sc (by decide) (by decide) λf cdv A outer s H E Z=>bx (iM (wV (wK (mH (lO (bA (oF (T := "tuple") (by decide) (vP 0) (by rfl) B.isinstance_ (by rfl) B.tuple_ PyProof.Rows.boot_tuple)))) (rP (fK (qt Z.units) Cg (bA (fW bZ jG (by rfl) B.len_ PySem.boot_len (dq (vP 0) dz))) iP (dW _))))) (bI (cH (cW (m7)))) (dZ))
  (bI (cH (yE (uF (jW (cI W Z (dq (jW (cI Y Z (dq (vP 0) dz))) dz))) (uE (cI J Z (dq (eN (dx (vB 0) iP)) (dq iP (dq (bA (Cd O)) dz)))))))))
theorem wZ(D:Dg K mg "check_groups" (top 18) ["groups"])(B:Bl mg)(J:Has P w K mg base n "is_group" ["thing"] (spD K mQ)):Has P w K mg base (n+1) "check_groups" ["groups"] (spD K jL):=by
 have sc:FnScope ["groups", "at", "group"] ["groups"] (bM (top 18)):=fsc
 exact iT (fl:=[.A,.A,.A]) D sc (by decide) (by decide) λf cdv A outer s H E Z=>bI (jY (L:=[]) PassesOwn.never rfl (R_ (vB 0) (by rfl) B.enumerate_) (vQ rfl (iR (gN' (i:=1) sc.nd) (iR (gN' (i:=2) sc.nd) (sV)))) (bI (iM (mH (lO (jW (cI J Z (dq (vP 2) dz))))) (bI (Fd)) (dZ))))
theorem Q9{Pt:Addr}(D:XL.DgT K mg "turns" (top 19) ["groups"] Pt "turns.<locals>.<lambda>" ⟨41,42,41,72⟩)(B:Bl mg):Has P w K mg base (n+1) "turns" ["groups"] (spD K jP):=by
 have sc:FnScope ["groups"] ["groups"] (bM (top 19)):=fsc
 exact XL.Xj (fl:=[.A]) D sc (by decide) (by decide) λf c A outer s H E Z Y=>bI (cH (cW (XL.HY (i:=0) ⟨⟨_,rfl,Z⟩,rfl,D.tb⟩ Y rfl (dq (bA (fW bZ jG (by rfl) B.len_ PySem.boot_len (dq (vP 0) dz))) dz) (by rfl) B.sorted_ (by rfl) B.range_ rfl rfl rfl rfl (λ_ h=>XL.Pr rfl h) (λ_ _ _ _ _=>rfl) rfl rfl rfl (by decide +kernel) rfl rfl (by decide) (by decide) (by decide) rfl rfl)))
theorem DY(D:Dg K mg "starts_in" (top 20) ["row", "group"])(B:Bl mg):Has P w K mg base (n+1) "starts_in" ["row", "group"] (spD K je):=by
 have sc:FnScope ["row", "group", "last"] ["row", "group"] (bM (top 20)):=fsc
 exact iT (fl:=[.A,.A,.A]) D sc (by decide) (by decide) λf cdv A outer s H E Z=>bx (sA (i:=2) sc.nd (gD (dY vL Ax (bA (fW bZ jG (by rfl) B.len_ PySem.boot_len (dq (vP 0) dz))) (eN (dx (vB 1) iP)))))
  (bI (cH (cW (kh (L:=[]) (fl':=[.A,.A,.A]) rfl ["start"] ["group", "row"] [1,0] (jO (by rfl) B.range_ (uX (dq (bA (dY ig jF (vP 2) iP)) dz))) (λ_ _ _ _ _=>gN' (i:=0) (show(["start", "group", "row"]:List Str).Nodup by decide +kernel)) (λ_ _ _ _ _=>sU (fK lK qx (bA (fW (Bj rfl) O4 (by rfl) B.max_ PyProof.Rows.boot_max (dq (bA (O3 (vP 2) (oZ (vP 0)) (oZ (bA (dY ig jF (vP 0) (eN (dx (vB 1) iP))))))) dz))) (eN (dx (vB 1) iP)) (dW _))) (λ_ _ _ _ _=>jx (kJ (vP 0)))))))
theorem w6(D:Dg K mg "night_behind" (top 21) ["since", "group", "is_own"])(B:Bl mg):Has P w K mg base (n+1) "night_behind" ["since", "group", "is_own"] (spD K fU):=by
 have sc:FnScope ["since", "group", "is_own"] ["since", "group", "is_own"] (bM (top 21)):=fsc
 exact iT (fl:=[.A,.A,.A]) D sc (by decide) (by decide) λf cdv A outer s H E Z=>bx (iM (lO (vP 2)) (bI (cH (cW (kJ (eN (dx (vB 1) iP)))))) (dZ))
  (bI (cH (cW (kJ (eN (Zc (fK lK qx (vP 0) (eN (dx (vB 1) iP)) (dW _)) (gD (vN)) (vA 0)))))))
theorem Ac(D:Dg K mg "row_behind" (top 22) ["row", "group", "start"])(B:Bl mg)(J:Has P w K mg base n "night_behind" ["since", "group", "is_own"] (spD K fU)):Has P w K mg base (n+1) "row_behind" ["row", "group", "start"] (spD K gw):=by
 have sc:FnScope ["row", "group", "start", "behind"] ["row", "group", "start"] (bM (top 22)):=fsc
 exact iT (fl:=[.A,.A,.A,.A]) D sc (by decide) (by decide) λf cdv A outer s H E Z=>bx (sA (i:=3) sc.nd (gD (dY ig jF (vP 2) (eN (dx (vB 1) iP)))))
  (bI (cH (yE (Sw (jx (kh (L:=[]) (fl':=[.A,.A,.A,.A,.A]) rfl ["room", "since"] ["group", "start", "behind"] [1,2,3] (O8 (vB 0) (by rfl) B.enumerate_) (λ_ _ _ _ _=>vQ rfl (iR (gN' (i:=0) (show(["room", "since", "group", "start", "behind"]:List Str).Nodup by decide +kernel)) (iR (gN' (i:=1) (show(["room", "since", "group", "start", "behind"]:List Str).Nodup by decide +kernel)) (sV)))) (λ_ _ _ _ _=>qz) (λ_ _ _ _ _=>cI J Z (dq (vP 1) (dq (vP 2) (dq (bA (E_ lK Em qx b_lt (vP 3) (vP 0) (vP 4))) dz)))))) (by rfl) B.tuple_))))
theorem zR(D:Dg K mg "rows_behind" (top 23) ["rows", "group"])(B:Bl mg)(O:Has P w K mg base n "starts_in" ["row", "group"] (spD K je))(J:Has P w K mg base n "row_behind" ["row", "group", "start"] (spD K gw)):Has P w K mg base (n+1) "rows_behind" ["rows", "group"] (spD K eY):=by
 have sc:FnScope ["rows", "group", "found", "row", "start"] ["rows", "group"] (bM (top 23)):=fsc
 exact iT (fl:=[.A,.A,.N,.A,.A]) D sc (by decide) (by decide) λf cdv A outer s H E Z=>bx (Ji (i:=2) rfl sc.nd rfl (by first|exact Or.inl rfl|exact Or.inr rfl) (Jh))
  (bx (jY (L:=[]) PassesOwn.never rfl (lQ (vB 0)) (gN' (i:=3) sc.nd) (bI (jY (L:=[]) PassesOwn.never rfl (lQ (jB (oX (cI O Z (dq (vP 3) (dq (vP 1) dz)))))) (gN' (i:=4) sc.nd) (bI (XJ.Oo (i:=2) (XK.hu1 Z.units) rfl (jW (cI J Z (dq (vP 3) (dq (vP 1) (dq (vP 4) dz))))) (eN (vV rfl (dq (vA 3) (dq (vA 4) dz)))) rfl ⟨rfl,rfl,rfl,rfl⟩)))))
  (bI (cH (Ny 2 rfl))))
theorem Ad(D:Dg K mg "all_behind" (top 24) ["held", "groups"])(B:Bl mg)(Y:Has P w K mg base n "turns" ["groups"] (spD K jP))(J:Has P w K mg base n "rows_behind" ["rows", "group"] (spD K eY))(W:∃t,mg "MOST_ROWS"=some (.int 400 t)):Has P w K mg base (n+1) "all_behind" ["held", "groups"] (spL K jQ):=by
 have sc:FnScope ["held", "groups", "found", "rows", "place", "behind"] ["held", "groups"] (bM (top 24)):=fsc
 exact WQ (fl:=[.A,.A,.O,.A,.A,.A]) D sc (by decide) (by decide) λf cdv A outer s H E Z=>bx (xJ (i:=2) rfl sc.nd rfl (by first|exact Or.inl rfl|exact Or.inr rfl) (uD (jC dz)))
  (bx (sA (i:=3) sc.nd (pP (xK (dq (Cv (vB 0) (by rfl) B.tuple_) dz))))
  (bx (jY (L:=[]) PassesOwn.never rfl (lQ (jB (oX (cI Y Z (dq (vP 1) dz))))) (gN' (i:=4) sc.nd) (bx (sA (i:=5) sc.nd (oX (cI J Z (dq (vP 3) (dq (eN (dx (vB 1) (vP 4))) dz)))))
  (bx (vR (i:=2) rfl (vA 5) rfl)
  (bx (iM (fK yp Hs (bA (XJ.Dk (dq (vP 5) dz) (by rfl) B.len_)) (bA (Cd W)) (dW _)) (bI (Fd)) (dZ))
  (bx (iM (fK (qm Z.units) Ce (bA (XJ.Dk (dq (vP 5) dz) (by rfl) B.len_)) iP (dW _)) (bI (Jl (M9 (M7 2)))) (dZ))
  (bI (sA (i:=3) sc.nd (gD (XJ.vm rfl (dq (vP 5) dz) (by rfl) B.sorted_)))))))))
  (bI (Jl (M9 (M7 2))))))
theorem D_(D:Dg K mg "places_by" (top 25) ["found", "groups"])(B:Bl mg)(J:Has P w K mg base n "turns" ["groups"] (spD K jP)):Has P w K mg base (n+1) "places_by" ["found", "groups"] (spD K lB):=by
 have sc:FnScope ["found", "groups", "places", "row", "place", "behind"] ["found", "groups"] (bM (top 25)):=fsc
 exact iT (fl:=[.A,.A,.O,.A,.A,.A]) D sc (by decide) (by decide) λf cdv A outer s H E Z=>bx (xJ (i:=2) rfl sc.nd rfl (by first|exact Or.inl rfl|exact Or.inr rfl) (Cm (uD (jC (dq (jx (M_)) dz))) (bA (fW bZ jG (by rfl) B.len_ PySem.boot_len (dq (vP 1) dz)))))
  (bx (sA (i:=3) sc.nd (gD (M_)))
  (bx (jY (L:=[]) PassesOwn.never rfl (WM (jB (pP (XK.Ph (jB (oX (cI J Z (dq (vP 1) dz)))) (vB 0) rfl (by rfl) B.list_ (by rfl) B.zip_))) (by rfl) B.reversed_) (vQ rfl (iR (gN' (i:=4) sc.nd) (iR (gN' (i:=5) sc.nd) (sV)))) (bx (iM (Wv (vP 3)) (bI (sA (i:=3) sc.nd (dx (jB (gD (XJ.vm rfl (dq (vP 5) dz) (by rfl) B.sorted_))) iP))) (dZ))
  (bx (Wm (i:=2) rfl (dx (jB (gD (XJ.FJ (XK.hu1 Z.units) (vP 5) (vP 3) (λ_ _=>rfl)))) iP) (vP 4) rfl)
  (bI (sA (i:=3) sc.nd (dx (jB (gD (XJ.FJ (XK.hu1 Z.units) (vP 5) (vP 3) (λ_ _=>rfl)))) iP))))))
  (bI (cH (Ca 2 (by decide))))))
theorem tU(D:Dg K mg "laid_as_they_are" (top 26) ["held", "groups"])(B:Bl mg)(J:Has P w K mg base n "all_behind" ["held", "groups"] (spL K jQ))(O:Has P w K mg base n "places_by" ["found", "groups"] (spD K lB)):Has P w K mg base (n+1) "laid_as_they_are" ["held", "groups"] (spD K fB):=by
 have sc:FnScope ["held", "groups", "found"] ["held", "groups"] (bM (top 26)):=fsc
 exact iT (fl:=[.A,.A,.A]) D sc (by decide) (by decide) λf cdv A outer s H E Z=>bx (sA (i:=2) sc.nd (ae8 rfl (NT J Z (dq (vP 0) (dq (vP 1) dz)))))
  (bx (iM (wV (Cj (fK yp Hs (bA (fW bZ jG (by rfl) B.len_ PySem.boot_len (dq (vP 2) dz))) iP (dW _)) (xM (fK (qm Z.units) Ce (bA (XJ.Dk (dq (eN (dx (vB 2) (bA (Ws iP)))) dz) (by rfl) B.len_)) iP (dW _))))) (bI (cH (vV rfl (dq (cW (nH)) (dq (cW (kh (L:=[]) (fl':=[.A]) rfl ["behind"] [] [] (lQ (vB 2)) (λ_ _ _ _ _=>gN' (i:=0) (show(["behind"]:List Str).Nodup by decide +kernel)) (λ_ _ _ _ _=>qz) (λ_ _ _ _ _=>jx (XJ.vm rfl (dq (vP 0) dz) (by rfl) B.sorted_)))) dz))))) (dZ))
  (bI (cH (vV rfl (dq (cW (nH)) (dq (yE (cI O Z (dq (vP 2) (dq (vP 1) dz)))) dz))))))
theorem UW(D:Dg K mg "laid" (top 27) ["held", "groups"])(B:Bl mg)(O:Has P w K mg base n "check_groups" ["groups"] (spD K jL))(J:Has P w K mg base n "laid_as_they_are" ["held", "groups"] (spD K fB)):Has P w K mg base (n+1) "laid" ["held", "groups"] (spD K uK):=by
 have sc:FnScope ["held", "groups"] ["held", "groups"] (bM (top 27)):=fsc
 exact iT (fl:=[.A,.A]) D sc (by decide) (by decide) λf cdv A outer s H E Z=>bx (RX (jW (cI O Z (dq (vP 1) dz))))
  (bI (cH (yE (cI J Z (dq (vP 0) (dq (vP 1) dz))))))
theorem Ea(D:Dg K mg "_law_cell" (top 29) ["_law_script", "_law_at"])(B:Bl mg):Has P w K mg base (n+1) "_law_cell" ["_law_script", "_law_at"] (spD K jd):=by
 have sc:FnScope ["_law_script", "_law_at"] ["_law_script", "_law_at"] (bM (top 29)):=fsc
 exact iT (fl:=[.A,.A]) D sc (by decide) (by decide) λf cdv A outer s H E Z=>bx (iM (fK Em b_lt (vP 1) (bA (fW bZ jG (by rfl) B.len_ PySem.boot_len (dq (vP 0) dz))) (dW _)) (bI (cH (cW (dY nW uV (eN (dx (vB 0) (vP 1))) iP)))) (dZ))
  (bx (iM (fK (qm Z.units) Ce (vP 0) (bA (jC dz)) (dW _)) (bI (cH (cW (dY ig jF (bA (dY oY wI iP (vP 1))) iP)))) (dZ))
  (bI (cH (cW (dY ig jF (bA (dY nW uV (eN (dx (vB 0) (bA (dY nW uV (bA (dY oY wI (vP 1) iP)) (bA (fW bZ jG (by rfl) B.len_ PySem.boot_len (dq (vP 0) dz))))))) iP)) (bA (dY oY wI iP (vP 1))))))))
theorem Eb(D:Dg K mg "_law_part" (top 30) ["_law_script", "_law_at", "_law_k", "_law_many"])(B:Bl mg)(J:Has P w K mg base n "_law_cell" ["_law_script", "_law_at"] (spD K jd)):Has P w K mg base (n+1) "_law_part" ["_law_script", "_law_at", "_law_k", "_law_many"] (spD K cA):=by
 have sc:FnScope ["_law_script", "_law_at", "_law_k", "_law_many", "_law_number", "_law_j"] ["_law_script", "_law_at", "_law_k", "_law_many"] (bM (top 30)):=fsc
 exact iT (fl:=[.A,.A,.A,.A,.A,.A]) D sc (by decide) (by decide) λf cdv A outer s H E Z=>bx (iM (wV (Cj (fK Em b_lt (vP 1) (bA (fW bZ jG (by rfl) B.len_ PySem.boot_len (dq (vP 0) dz))) (dW _)) (xM (fK YH ae3 (eN (dx (vB 0) (vP 1))) (bA (dY V6 Y_ iP iP)) (dW _))))) (bx (sA (i:=4) sc.nd (dx (vB 0) (vP 1)))
  (bx (jY (L:=[]) PassesOwn.never rfl (jO (by rfl) B.range_ (uX (dq (vP 2) dz))) (gN' (i:=5) sc.nd) (bI (sA (i:=4) sc.nd (gD (dY Ja U7 (vP 4) iP)))))
  (bI (iM (fK yp Hs (vP 4) iP (dW _)) (bI (cH (cW (dY nW uV (bA (dY nW uV (vP 4) iP)) (vP 3))))) (dZ))))) (dZ))
  (bx (sA (i:=4) sc.nd (gD (dY nW uV (bA (dY oY wI (bA (dY ig jF (bA (dY ig jF (jW (cI J Z (dq (vP 0) (dq (vP 1) dz)))) (bA (dY oY wI iP (vP 1))))) iP)) (bA (dY ig jF iP (bA (dY oY wI iP (vP 2))))))) iP)))
  (bx (sA (i:=4) sc.nd (gD (dY ig jF (bA (dY nW uV (bA (dY oY wI (vP 4) (vP 4))) iP)) iP)))
  (bI (cH (cW (dY nW uV (bA (dY Ja U7 (bA (dY nW uV (bA (dY oY wI (vP 4) (vP 4))) iP)) iP)) (vP 3)))))))
theorem Ae(D:Dg K mg "_law_whole" (top 31) ["_law_found"])(B:Bl mg):Has P w K mg base (n+1) "_law_whole" ["_law_found"] (spD K dg):=by
 have sc:FnScope ["_law_found"] ["_law_found"] (bM (top 31)):=fsc
 exact iT (fl:=[.A]) D sc (by decide) (by decide) λf cdv A outer s H E Z=>bI (cH (cW (uF (bA (oF (T := "int") (by decide) (vP 0) (by rfl) B.isinstance_ (by rfl) B.int_ PyProof.Rows.boot_int)) (uE (Nm (bA (oF (T := "bool") (by decide) (vP 0) (by rfl) B.isinstance_ (by rfl) B.bool_ PyProof.Rows.boot_bool)))))))
theorem Af(D:Dg K mg "_law_apart" (top 32) ["_law_one", "_law_place", "_law_other", "_law_there"])(B:Bl mg):Has P w K mg base (n+1) "_law_apart" ["_law_one", "_law_place", "_law_other", "_law_there"] (spD K dH):=by
 have sc:FnScope ["_law_one", "_law_place", "_law_other", "_law_there"] ["_law_one", "_law_place", "_law_other", "_law_there"] (bM (top 32)):=fsc
 exact iT (fl:=[.A,.A,.A,.A]) D sc (by decide) (by decide) λf cdv A outer s H E Z=>bx (iM (wV (wK (fK lK qx (eN (dx (vB 0) iP)) (eN (dx (vB 2) iP)) (dW _)) (rP (fK lK qx (eN (dx (vB 2) iP)) (eN (dx (vB 0) iP)) (dW _))))) (bI (cH (cW (m7)))) (dZ))
  (bI (cH (cW (Zb (bA (rO lK qx (bA (dY ig jF (vP 1) (eN (dx (vB 0) iP)))) (vP 3) (dW _))) (uE (rO lK qx (bA (dY ig jF (vP 3) (eN (dx (vB 2) iP)))) (vP 1) (dW _)))))))
theorem Ec(D:Dg K mg "_law_sits" (top 33) ["_law_held_here", "_law_groups", "_law_places"])(B:Bl mg)(J:Has P w K mg base n "_law_whole" ["_law_found"] (spD K dg))(O:Has P w K mg base n "_law_apart" ["_law_one", "_law_place", "_law_other", "_law_there"] (spD K dH)):Has P w K mg base (n+1) "_law_sits" ["_law_held_here", "_law_groups", "_law_places"] (spD K jK):=by
 have sc:FnScope ["_law_held_here", "_law_groups", "_law_places", "_law_at", "_law_place", "_law_first", "_law_behind", "_law_size", "_law_k"] ["_law_held_here", "_law_groups", "_law_places"] (bM (top 33)):=fsc
 exact iT (fl:=[.A,.A,.A,.A,.A,.A,.A,.A,.A]) D sc (by decide) (by decide) λf cdv A outer s H E Z=>bx (iM (wV (wK (mH (lO (bA (oF (T := "list") (by decide) (vP 2) (by rfl) B.isinstance_ (by rfl) B.list_ PyProof.Rows.boot_list)))) (rP (fK (qt Z.units) Cg (bA (fW bZ jG (by rfl) B.len_ PySem.boot_len (dq (vP 2) dz))) (bA (fW bZ jG (by rfl) B.len_ PySem.boot_len (dq (vP 1) dz))) (dW _))))) (bI (cH (cW (m7)))) (dZ))
  (bx (jY (L:=[]) PassesOwn.never rfl (jO (by rfl) B.range_ (uX (dq (bA (fW bZ jG (by rfl) B.len_ PySem.boot_len (dq (vP 1) dz))) dz))) (gN' (i:=3) sc.nd) (bx (sA (i:=4) sc.nd (dx (vB 2) (vP 3)))
  (bx (Nb (dx (vB 1) (vP 3)) (vQ rfl (iR (gN' (i:=5) sc.nd) (iR (gN' (i:=6) sc.nd) (iR (gN' (i:=7) sc.nd) (sV))))))
  (bx (iM (wV (wK (mH (lO (jW (cI J Z (dq (vP 4) dz))))) (rP (mH (yG lK lK qx qx iP (vP 4) (bA (dY vL Ax (bA (fW bZ jG (by rfl) B.len_ PySem.boot_len (dq (vP 0) dz))) (vP 7)))))))) (bI (cH (cW (m7)))) (dZ))
  (bI (iM (fK yp Hs (bA (fW (Kv rfl) Wt (by rfl) B.max_ PyProof.Rows.boot_max (dq (EY (Nr (vB 0) (oZ (vP 4)) (oZ (bA (dY ig jF (vP 4) (vP 7)))))) dz))) (vP 5) (dW _)) (bI (cH (cW (m7)))) (dZ)))))))
  (bx (jY (L:=[]) PassesOwn.never rfl (jO (by rfl) B.range_ (uX (dq (bA (fW bZ jG (by rfl) B.len_ PySem.boot_len (dq (vP 1) dz))) dz))) (gN' (i:=3) sc.nd) (bI (jY (L:=[]) PassesOwn.never rfl (jO (by rfl) B.range_ (uX (dq (vP 3) dz))) (gN' (i:=8) sc.nd) (bI (iM (mH (lO (jW (cI O Z (dq (eN (dx (vB 1) (vP 8))) (dq (eN (dx (vB 2) (vP 8))) (dq (eN (dx (vB 1) (vP 3))) (dq (eN (dx (vB 2) (vP 3))) dz)))))))) (bI (cH (cW (m7)))) (dZ))))))
  (bI (cH (cW (m7))))))
theorem Ag(D:Dg K mg "_law_turns" (top 34) ["_law_groups"])(B:Bl mg):Has P w K mg base (n+1) "_law_turns" ["_law_groups"] (spD K lW):=by
 have sc:FnScope ["_law_groups"] ["_law_groups"] (bM (top 34)):=fsc
 exact iT (fl:=[.A]) D sc (by decide) (by decide) λf cdv A outer s H E Z=>bI (cH (cW (kh (L:=[]) (fl':=[.A,.A]) rfl ["_law_pair"] ["_law_groups"] [0] (lQ (jB (gD (NZ (dq (bA (kh (L:=[]) (fl':=[.A,.A]) rfl ["_law_at"] ["_law_groups"] [0] (jO (by rfl) B.range_ (uX (dq (bA (fW bZ jG (by rfl) B.len_ PySem.boot_len (dq (vP 0) dz))) dz))) (λ_ _ _ _ _=>gN' (i:=0) (show(["_law_at", "_law_groups"]:List Str).Nodup by decide +kernel)) (λ_ _ _ _ _=>qz) (λ_ _ _ _ _=>jx (kJ (eN (vV rfl (dq (dx (jB (dx (vB 1) (vP 0))) iP) (dq (vA 0) dz)))))))) dz) (by rfl) B.sorted_)))) (λ_ _ _ _ _=>gN' (i:=0) (show(["_law_pair", "_law_groups"]:List Str).Nodup by decide +kernel)) (λ_ _ _ _ _=>qz) (λ_ _ _ _ _=>jx (kJ (eN (dx (vB 1) (eN (dx (vB 0) iP)))))))))
theorem Ed(D:Dg K mg "_law_next" (top 35) ["_law_rows", "_law_group"])(B:Bl mg):Has P w K mg base (n+1) "_law_next" ["_law_rows", "_law_group"] (spD K h_):=by
 have sc:FnScope ["_law_rows", "_law_group", "_law_first", "_law_behind", "_law_size", "_law_found", "_law_row", "_law_rest", "_law_place", "_law_other"] ["_law_rows", "_law_group"] (bM (top 35)):=fsc
 exact iT (fl:=[.A,.A,.A,.A,.A,.N,.A,.A,.A,.A]) D sc (by decide) (by decide) λf cdv A outer s H E Z=>bx (Nb (vA 1) (vQ rfl (iR (gN' (i:=2) sc.nd) (iR (gN' (i:=3) sc.nd) (iR (gN' (i:=4) sc.nd) (sV))))))
  (bx (Ji (i:=5) rfl sc.nd rfl (by first|exact Or.inl rfl|exact Or.inr rfl) (Jh))
  (bx (jY (L:=[]) PassesOwn.never rfl (yK (vB 0)) (gN' (i:=6) sc.nd) (bx (Nq (i:=7) (L:=[]) (fl':=[.A,.A]) rfl sc.nd rfl rfl rfl ["_law_end"] ["_law_first"] [2] (yK (vB 6)) (λ_ _ _ _ _=>gN' (i:=0) (show(["_law_end", "_law_first"]:List Str).Nodup by decide +kernel)) (λ_ _ _ _ _=>qz) (λ_ _ _ _ _=>jx (kJ (eN (dx (jB (pP (xK (dq (vA 0) (dq (gD (vN)) dz))))) (bA (Cu (dq (bA (rO lK qx (vP 0) (vP 1) (dW _))) dz) (by rfl) B.int_)))))))
  (bI (jY (L:=[]) PassesOwn.never rfl (jO (by rfl) B.range_ (uX (dq (bA (dY ig jF (bA (dY vL Ax (bA (fW bZ jG (by rfl) B.len_ PySem.boot_len (dq (vP 6) dz))) (vP 4))) iP)) dz))) (gN' (i:=8) sc.nd) (bI (iM (fK lK qx (bA (fW (Bj rfl) O4 (by rfl) B.max_ PyProof.Rows.boot_max (dq (bA (O3 (vP 6) (oZ (vP 8)) (oZ (bA (dY ig jF (vP 8) (vP 4)))))) dz))) (vP 2) (dW _)) (bx (sA (i:=9) sc.nd (pP (Ck (jB (pP (Nr (vB 7) Jf (oZ (vP 8))))) (jB (pP (Cm (xK (dq (vA 3) dz)) (vP 4)))))))
  (bI (XJ.Pj (XK.hu1 Z.units) (i:=5) rfl U0 (eN (Cv (jB (pP (Ck (vB 9) (jB (pP (Nr (vB 7) (oZ (bA (dY ig jF (vP 8) (vP 4)))) Jf)))))) (by rfl) B.tuple_)) rfl))) (dZ)))))))
  (bI (cH (cW (XJ.vm rfl (dq (Sh 5 rfl) dz) (by rfl) B.sorted_))))))
theorem xg(D:Dg K mg "_law_is_rows" (top 36) ["_law_thing", "_law_wide"])(B:Bl mg)(J:Has P w K mg base n "_law_whole" ["_law_found"] (spD K dg)):Has P w K mg base (n+1) "_law_is_rows" ["_law_thing", "_law_wide"] (spD K i_):=by
 have sc:FnScope ["_law_thing", "_law_wide", "_law_row"] ["_law_thing", "_law_wide"] (bM (top 36)):=fsc
 exact iT (fl:=[.A,.A,.A]) D sc (by decide) (by decide) λf cdv A outer s H E Z=>bx (iM (mH (lO (bA (oF (T := "list") (by decide) (vP 0) (by rfl) B.isinstance_ (by rfl) B.list_ PyProof.Rows.boot_list)))) (bI (cH (cW (m7)))) (dZ))
  (bx (jY (L:=[]) PassesOwn.never rfl (yK (vB 0)) (gN' (i:=2) sc.nd) (bx (iM (wV (wK (mH (lO (bA (oF (T := "tuple") (by decide) (vP 2) (by rfl) B.isinstance_ (by rfl) B.tuple_ PyProof.Rows.boot_tuple)))) (rP (fK (qt Z.units) Cg (bA (fW bZ jG (by rfl) B.len_ PySem.boot_len (dq (vP 2) dz))) (vP 1) (dW _))))) (bI (cH (cW (m7)))) (dZ))
  (bI (iM (fK (qt Z.units) Cg (bA (kh (L:=[]) (fl':=[.A]) rfl ["_law_end"] [] [] (yK (vB 2)) (λ_ _ _ _ _=>gN' (i:=0) (show(["_law_end"]:List Str).Nodup by decide +kernel)) (λ_ _ _ _ _=>sU (mH (lO (jW (cI J Z (dq (vP 0) dz)))))) (λ_ _ _ _ _=>jx (kJ (vP 0))))) (bA (jC dz)) (dW _)) (bI (cH (cW (m7)))) (dZ)))))
  (bI (cH (cW (m7)))))
theorem zT(D:Dg K mg "_law_closed" (top 37) ["_law_held_here", "_law_groups", "_law_thing"])(B:Bl mg)(O:Has P w K mg base n "_law_turns" ["_law_groups"] (spD K lW))(W:Has P w K mg base n "_law_next" ["_law_rows", "_law_group"] (spD K h_))(J:Has P w K mg base n "_law_is_rows" ["_law_thing", "_law_wide"] (spD K i_)):Has P w K mg base (n+1) "_law_closed" ["_law_held_here", "_law_groups", "_law_thing"] (spD K iV):=by
 have sc:FnScope ["_law_held_here", "_law_groups", "_law_thing", "_law_rows", "_law_listed", "_law_group"] ["_law_held_here", "_law_groups", "_law_thing"] (bM (top 37)):=fsc
 exact iT (fl:=[.A,.A,.A,.A,.A,.A]) D sc (by decide) (by decide) λf cdv A outer s H E Z=>bx (iM (wV (wK (mH (lO (bA (oF (T := "list") (by decide) (vP 2) (by rfl) B.isinstance_ (by rfl) B.list_ PyProof.Rows.boot_list)))) (rP (mH (yG lK lK qx qx iP (bA (fW bZ jG (by rfl) B.len_ PySem.boot_len (dq (vP 2) dz))) (bA (fW bZ jG (by rfl) B.len_ PySem.boot_len (dq (vP 1) dz)))))))) (bI (cH (cW (m7)))) (dZ))
  (bx (iM (fK (qt Z.units) Cg (bA (kh (L:=[]) (fl':=[.A,.A]) rfl ["_law_rows"] ["_law_held_here"] [0] (lQ (vB 2)) (λ_ _ _ _ _=>gN' (i:=0) (show(["_law_rows", "_law_held_here"]:List Str).Nodup by decide +kernel)) (λ_ _ _ _ _=>sU (mH (lO (jW (cI J Z (dq (vP 0) (dq (bA (fW bZ jG (by rfl) B.len_ PySem.boot_len (dq (vP 1) dz))) dz))))))) (λ_ _ _ _ _=>jx (kJ (vP 0))))) (bA (jC dz)) (dW _)) (bI (cH (cW (m7)))) (dZ))
  (bx (sA (i:=3) sc.nd (pP (xK (dq (Cv (vB 0) (by rfl) B.tuple_) dz))))
  (bx (jY (L:=[]) PassesOwn.never rfl (Wy (L1:=[]) (L2:=[]) (vB 2) (jB (oX (cI O Z (dq (vP 1) dz)))) (by rfl) B.zip_) (vQ rfl (iR (gN' (i:=4) sc.nd) (iR (gN' (i:=5) sc.nd) (sV)))) (bx (iM (fK (qt Z.units) Cg (bA (kh (L:=[]) (fl':=[.A,.A]) rfl ["_law_row"] ["_law_listed"] [4] (lQ (jB (oX (cI W Z (dq (vP 3) (dq (vP 5) dz)))))) (λ_ _ _ _ _=>gN' (i:=0) (show(["_law_row", "_law_listed"]:List Str).Nodup by decide +kernel)) (λ_ _ _ _ _=>sU (fK (Kz Z.units) Sx (vP 0) (vP 1) (by with_unfolding_all rfl))) (λ_ _ _ _ _=>jx (kJ (vP 0))))) (bA (jC dz)) (dW _)) (bI (cH (cW (m7)))) (dZ))
  (bI (sA (i:=3) sc.nd (vA 4)))))
  (bI (cH (cW (rO (qm Z.units) Ce (vP 3) (bA (jC dz)) (dW _))))))))
theorem xq(D:Dg K mg "_law_verdict" (top 38) ["_law_held_here", "_law_groups"])(B:Bl mg)(W:Has P w K mg base n "laid" ["held", "groups"] (spD K uK))(O:Has P w K mg base n "_law_sits" ["_law_held_here", "_law_groups", "_law_places"] (spD K jK))(J:Has P w K mg base n "_law_closed" ["_law_held_here", "_law_groups", "_law_thing"] (spD K iV)):Has P w K mg base (n+1) "_law_verdict" ["_law_held_here", "_law_groups"] (spD K dB):=by
 have sc:FnScope ["_law_held_here", "_law_groups", "_law_found"] ["_law_held_here", "_law_groups"] (bM (top 38)):=fsc
 exact iT (fl:=[.A,.A,.A]) D sc (by decide) (by decide) λf cdv A outer s H E Z=>bx (sA (i:=2) sc.nd (oX (cI W Z (dq (EY (Je (vB 0) (by rfl) B.list_)) (dq (EY (Je (vB 1) (by rfl) B.list_)) dz)))))
  (bx (iM (wV (wK (mH (lO (bA (oF (T := "tuple") (by decide) (vP 2) (by rfl) B.isinstance_ (by rfl) B.tuple_ PyProof.Rows.boot_tuple)))) (rP (fK (qt Z.units) Cg (bA (fW bZ jG (by rfl) B.len_ PySem.boot_len (dq (vP 2) dz))) iP (dW _))))) (bI (cH (cW (nH)))) (dZ))
  (bx (iM (wV (Cj (fK (qm Z.units) Ce (eN (dx (vB 2) iP)) (bA (nH)) (dW _)) (xM (lO (jW (cI O Z (dq (vP 0) (dq (vP 1) (dq (eN (dx (vB 2) iP)) dz))))))))) (bI (cH (cW (nH)))) (dZ))
  (bx (iM (wV (Cj (fK (qm Z.units) Ce (eN (dx (vB 2) iP)) (bA (nH)) (dW _)) (xM (lO (jW (cI J Z (dq (vP 0) (dq (vP 1) (dq (eN (dx (vB 2) iP)) dz))))))))) (bI (cH (cW (nH)))) (dZ))
  (bI (cH (cW (nH)))))))
theorem Ef(D:Dg K mg "_law_held" (top 39) ["_law_script", "_law_wide"])(B:Bl mg)(J:Has P w K mg base n "_law_part" ["_law_script", "_law_at", "_law_k", "_law_many"] (spD K cA)):Has P w K mg base (n+1) "_law_held" ["_law_script", "_law_wide"] (spD K nj):=by
 have sc:FnScope ["_law_script", "_law_wide", "_law_base", "_law_held_here", "_law_room", "_law_number"] ["_law_script", "_law_wide"] (bM (top 39)):=fsc
 exact iT (fl:=[.A,.A,.A,.O,.A,.A]) D sc (by decide) (by decide) λf cdv A outer s H E Z=>bx (sA (i:=2) sc.nd (oX (cI J Z (dq (vP 0) (dq iP (dq iP (dq iP dz)))))))
  (bx (xJ (i:=3) rfl sc.nd rfl (by first|exact Or.inl rfl|exact Or.inr rfl) (uD (jC dz)))
  (bx (jY (L:=[]) PassesOwn.never rfl (jO (by rfl) B.range_ (uX (dq (vP 1) dz))) (gN' (i:=4) sc.nd) (bx (sA (i:=5) sc.nd (oX (cI J Z (dq (vP 0) (dq iP (dq (vP 4) (dq iP dz)))))))
  (bI (vR (i:=3) rfl (dx (jB (gD (jC (dq iC (dq (jx (dY vL Ax (bA (dY ig jF (vP 2) (vP 5))) iP)) dz))))) (bA (Cu (dq (bA (rO yp Hs (vP 5) iP (dW _))) dz) (by rfl) B.int_))) rfl))))
  (bI (cH (Ca 3 (by decide))))))
theorem xr(D:Dg K mg "_law_singles" (top 40) ["_law_script", "_law_many"])(B:Bl mg)(J:Has P w K mg base n "_law_part" ["_law_script", "_law_at", "_law_k", "_law_many"] (spD K cA)):Has P w K mg base (n+1) "_law_singles" ["_law_script", "_law_many"] (spD K iw):=by
 have sc:FnScope ["_law_script", "_law_many", "_law_base", "_law_wide", "_law_groups", "_law_k", "_law_first"] ["_law_script", "_law_many"] (bM (top 40)):=fsc
 exact iT (fl:=[.A,.A,.A,.A,.O,.A,.A]) D sc (by decide) (by decide) λf cdv A outer s H E Z=>bx (sA (i:=2) sc.nd (oX (cI J Z (dq (vP 0) (dq iP (dq iP (dq iP dz)))))))
  (bx (sA (i:=3) sc.nd (dx (jB (gD (jC (dq iC (dq iC (dq iC (dq iC dz))))))) (jW (cI J Z (dq (vP 0) (dq iP (dq iP (dq iP dz))))))))
  (bx (xJ (i:=4) rfl sc.nd rfl (by first|exact Or.inl rfl|exact Or.inr rfl) (uD (jC dz)))
  (bx (jY (L:=[]) PassesOwn.never rfl (jO (by rfl) B.range_ (uX (dq (vP 1) dz))) (gN' (i:=5) sc.nd) (bx (sA (i:=6) sc.nd (gD (dY ig jF (vP 2) (jW (cI J Z (dq (vP 0) (dq (bA (dY ig jF iP (vP 5))) (dq iP (dq (vP 3) dz)))))))))
  (bI (vR (i:=4) rfl (vV rfl (dq (vA 6) (dq (gD (dY ig jF (bA (dY ig jF (vP 6) iP)) (jW (cI J Z (dq (vP 0) (dq (bA (dY ig jF iP (vP 5))) (dq iP (dq iP dz)))))))) (dq (gD (vN)) dz)))) rfl))))
  (bI (cH (Ca 4 (by decide)))))))
theorem xu(D:Dg K mg "_law_lacking" (top 41) ["_law_held_here", "_law_groups"])(B:Bl mg):Has P w K mg base (n+1) "_law_lacking" ["_law_held_here", "_law_groups"] (spD K iy):=by
 have sc:FnScope ["_law_held_here", "_law_groups", "_law_most", "_law_night", "_law_many", "_law_free"] ["_law_held_here", "_law_groups"] (bM (top 41)):=fsc
 exact iT (fl:=[.A,.A,.A,.A,.A,.A]) D sc (by decide) (by decide) λf cdv A outer s H E Z=>bx (sA (i:=2) sc.nd (gD (vN)))
  (bx (jY (L:=[]) PassesOwn.never rfl (lQ (jB (gD (kh (L:=[]) (fl':=[.A]) rfl ["_law_group"] [] [] (lQ (vB 1)) (λ_ _ _ _ _=>gN' (i:=0) (show(["_law_group"]:List Str).Nodup by decide +kernel)) (λ_ _ _ _ _=>qz) (λ_ _ _ _ _=>jx (kJ (eN (dx (vB 0) iP)))))))) (gN' (i:=3) sc.nd) (bx (sA (i:=4) sc.nd (gD (fW bZ jG (by rfl) B.len_ PySem.boot_len (dq (bA (kh (L:=[]) (fl':=[.A,.A]) rfl ["_law_group"] ["_law_night"] [3] (lQ (vB 1)) (λ_ _ _ _ _=>gN' (i:=0) (show(["_law_group", "_law_night"]:List Str).Nodup by decide +kernel)) (λ_ _ _ _ _=>sU (yG lK Em qx b_lt (eN (dx (vB 0) iP)) (vP 1) (eN (dx (vB 0) iP)))) (λ_ _ _ _ _=>jx (kJ (vP 0))))) dz))))
  (bx (sA (i:=5) sc.nd (gD (fW bZ jG (by rfl) B.len_ PySem.boot_len (dq (bA (kh (L:=[]) (fl':=[.A,.A]) rfl ["_law_end"] ["_law_night"] [3] (lQ (vB 0)) (λ_ _ _ _ _=>gN' (i:=0) (show(["_law_end", "_law_night"]:List Str).Nodup by decide +kernel)) (λ_ _ _ _ _=>sU (fK lK qx (vP 0) (vP 1) (dW _))) (λ_ _ _ _ _=>jx (kJ (vP 0))))) dz))))
  (bI (sA (i:=2) sc.nd (gD (fW (Kf rfl) Wr (by rfl) B.max_ PyProof.Rows.boot_max (dq (vP 2) (dq (bA (dY vL Ax (vP 4) (vP 5))) dz)))))))))
  (bI (cH (cW (kJ (vP 2))))))
theorem Yr(Fn:FunD K "law" (top 42) f fd)(B:Bl mg)(J:Has P w K mg base n "_law_part" ["_law_script", "_law_at", "_law_k", "_law_many"] (spD K cA))(D:Has P w K mg base n "_law_verdict" ["_law_held_here", "_law_groups"] (spD K dB))(Y:Has P w K mg base n "_law_held" ["_law_script", "_law_wide"] (spD K nj))(O:Has P w K mg base n "_law_singles" ["_law_script", "_law_many"] (spD K iw))(W:Has P w K mg base n "_law_lacking" ["_law_held_here", "_law_groups"] (spD K iy)):FnOk P w K mg base CX0 (n+1) f fd ["_law_script"] (spD K Gj):=by
 have sc:FnScope ["_law_script", "_law_wide", "_law_held_here", "_law_groups", "_law_lack"] ["_law_script"] (bM (top 42)):=fsc
 exact Nt (fl:=[.A,.A,.A,.A,.A]) Fn sc (by decide) (by decide) λf cdv A outer s H E Z=>bx (sA (i:=1) sc.nd (gD (dY ig jF iP (jW (cI J Z (dq (vP 0) (dq iP (dq iP (dq iP dz)))))))))
  (bx (sA (i:=2) sc.nd (oX (cI Y Z (dq (vP 0) (dq (vP 1) dz)))))
  (bx (sA (i:=3) sc.nd (oX (cI O Z (dq (vP 0) (dq (jW (cI J Z (dq (vP 0) (dq iP (dq iP (dq iP dz)))))) dz)))))
  (bx (sA (i:=4) sc.nd (oX (cI W Z (dq (vP 2) (dq (vP 3) dz)))))
  (bx (iM (fK (qt Z.units) Cg (jW (cI D Z (dq (vP 2) (dq (vP 3) dz)))) (eN (dx (jB (gD (jC (dq (jx (nH)) (dq (jx (nH)) dz))))) (bA (Cu (dq (bA (rO yp Hs (vP 4) iP (dW _))) dz) (by rfl) B.int_)))) (dW _)) (bI (cH (cW (m7)))) (dZ))
  (bx (iM (wV (wK (fK (qm Z.units) Ce (vP 4) iP (dW _)) (rP (fK yp Hs (bA (dY ig jF (vP 1) (vP 4))) iP (dW _))))) (bI (cH (cW (m7)))) (dZ))
  (bx (iM (fK (qt Z.units) Cg (jW (cI D Z (dq (EY (Ck (vB 2) (jB (pP (Cm (uD (jC (dq iC dz))) (vP 4)))))) (dq (vP 3) dz)))) (bA (nH)) (dW _)) (bI (cH (cW (m7)))) (dZ))
  (bI (cH (cW (rO (qm Z.units) Ce (jW (cI D Z (dq (EY (Ck (vB 2) (jB (pP (Cm (uD (jC (dq iC dz))) (bA (dY vL Ax (vP 4) iP))))))) (dq (vP 3) dz)))) (bA (nH)) (dW _)))))))))))
end
end K79
namespace D3
theorem len0{p:List PySem.Value->Prop}(h:p []):∀us,us.length=0->p us:=λus Z=>by
 cases us with
 |nil=>exact h
 |cons _ _=>cases Z
theorem ac3{p:List PySem.Value->Prop}(h:∀a us,us.length=n->p (a::us)):∀us,us.length=n+1->p us:=λus Z=>by
 cases us with
 |nil=>cases Z
 |cons a r=>exact h a r (uP.inj Z)
end D3
namespace K79
open PySem L2 My D3
structure Txt(K:PySem.W.Frag)(mg:Str->Option Value):Prop where
 d_is_whole:Dg K mg "is_whole" (top 5) ["thing"]
 d_is_whole_within:Dg K mg "is_whole_within" (top 6) ["thing", "least", "most"]
 d_all_whole:Dg K mg "all_whole" (top 7) ["things"]
 d_is_tuple_of:Dg K mg "is_tuple_of" (top 8) ["thing", "many"]
 d_is_pair:Dg K mg "is_pair" (top 9) ["thing"]
 d_is_stretch:Dg K mg "is_stretch" (top 12) ["thing"]
 d_nights_of:Dg K mg "nights_of" (top 13) ["stay"]
 d_is_group:Dg K mg "is_group" (top 17) ["thing"]
 d_check_groups:Dg K mg "check_groups" (top 18) ["groups"]
 d_turns:XL.DgT K mg "turns" (top 19) ["groups"] 128 "turns.<locals>.<lambda>" ⟨41,42,41,72⟩
 d_starts_in:Dg K mg "starts_in" (top 20) ["row", "group"]
 d_night_behind:Dg K mg "night_behind" (top 21) ["since", "group", "is_own"]
 d_row_behind:Dg K mg "row_behind" (top 22) ["row", "group", "start"]
 d_rows_behind:Dg K mg "rows_behind" (top 23) ["rows", "group"]
 d_all_behind:Dg K mg "all_behind" (top 24) ["held", "groups"]
 d_places_by:Dg K mg "places_by" (top 25) ["found", "groups"]
 d_laid_as_they_are:Dg K mg "laid_as_they_are" (top 26) ["held", "groups"]
 d_laid:Dg K mg "laid" (top 27) ["held", "groups"]
 d__law_cell:Dg K mg "_law_cell" (top 29) ["_law_script", "_law_at"]
 d__law_part:Dg K mg "_law_part" (top 30) ["_law_script", "_law_at", "_law_k", "_law_many"]
 d__law_whole:Dg K mg "_law_whole" (top 31) ["_law_found"]
 d__law_apart:Dg K mg "_law_apart" (top 32) ["_law_one", "_law_place", "_law_other", "_law_there"]
 d__law_sits:Dg K mg "_law_sits" (top 33) ["_law_held_here", "_law_groups", "_law_places"]
 d__law_turns:Dg K mg "_law_turns" (top 34) ["_law_groups"]
 d__law_next:Dg K mg "_law_next" (top 35) ["_law_rows", "_law_group"]
 d__law_is_rows:Dg K mg "_law_is_rows" (top 36) ["_law_thing", "_law_wide"]
 d__law_closed:Dg K mg "_law_closed" (top 37) ["_law_held_here", "_law_groups", "_law_thing"]
 d__law_verdict:Dg K mg "_law_verdict" (top 38) ["_law_held_here", "_law_groups"]
 d__law_held:Dg K mg "_law_held" (top 39) ["_law_script", "_law_wide"]
 d__law_singles:Dg K mg "_law_singles" (top 40) ["_law_script", "_law_many"]
 d__law_lacking:Dg K mg "_law_lacking" (top 41) ["_law_held_here", "_law_groups"]
 d_law:Dl K mg "law" "_law_script" (top 42)
 blt:Bl mg
 c_NIGHTS:∃t,mg "NIGHTS"=some (.int 400 t)
 c_MOST_OF_A_GROUP:∃t,mg "MOST_OF_A_GROUP"=some (.int 6 t)
 c_MOST_ROWS:∃t,mg "MOST_ROWS"=some (.int 400 t)
theorem Ys(T:Txt K mg){f:Addr}{fd:FuncData}(F:FunD K "law" (top 42) f fd):FnOk P w K mg base CX0 65 f fd ["_law_script"] (Nu K):=by
 have V:=G6 (P:=P) (w:=w) (base:=base) (n:=0) T.d_is_whole T.blt
 have A:=DX (P:=P) (w:=w) (base:=base) (n:=0) T.d_nights_of T.blt
 have t:=Q9 (P:=P) (w:=w) (base:=base) (n:=0) T.d_turns T.blt
 have C:=DY (P:=P) (w:=w) (base:=base) (n:=0) T.d_starts_in T.blt
 have U:=w6 (P:=P) (w:=w) (base:=base) (n:=0) T.d_night_behind T.blt
 have u:=Ea (P:=P) (w:=w) (base:=base) (n:=0) T.d__law_cell T.blt
 have X:=Ae (P:=P) (w:=w) (base:=base) (n:=0) T.d__law_whole T.blt
 have D:=Af (P:=P) (w:=w) (base:=base) (n:=0) T.d__law_apart T.blt
 have E:=Ag (P:=P) (w:=w) (base:=base) (n:=0) T.d__law_turns T.blt
 have x:=Ed (P:=P) (w:=w) (base:=base) (n:=0) T.d__law_next T.blt
 have O:=xu (P:=P) (w:=w) (base:=base) (n:=0) T.d__law_lacking T.blt
 have W:=uM (P:=P) (w:=w) (base:=base) (n:=1) T.d_is_whole_within T.blt (V.mono (by decide))
 have z:=DR (P:=P) (w:=w) (base:=base) (n:=1) T.d_all_whole T.blt (V.mono (by decide))
 have I:=Ac (P:=P) (w:=w) (base:=base) (n:=1) T.d_row_behind T.blt (U.mono (by decide))
 have B:=D_ (P:=P) (w:=w) (base:=base) (n:=1) T.d_places_by T.blt (t.mono (by decide))
 have Z:=Eb (P:=P) (w:=w) (base:=base) (n:=1) T.d__law_part T.blt (u.mono (by decide))
 have y:=Ec (P:=P) (w:=w) (base:=base) (n:=1) T.d__law_sits T.blt (X.mono (by decide)) (D.mono (by decide))
 have N:=xg (P:=P) (w:=w) (base:=base) (n:=1) T.d__law_is_rows T.blt (X.mono (by decide))
 have L:=zQ (P:=P) (w:=w) (base:=base) (n:=2) T.d_is_tuple_of T.blt (z.mono (by decide))
 have M:=zR (P:=P) (w:=w) (base:=base) (n:=2) T.d_rows_behind T.blt (C.mono (by decide)) (I.mono (by decide))
 have J:=zT (P:=P) (w:=w) (base:=base) (n:=2) T.d__law_closed T.blt (E.mono (by decide)) (x.mono (by decide)) (N.mono (by decide))
 have v:=Ef (P:=P) (w:=w) (base:=base) (n:=2) T.d__law_held T.blt (Z.mono (by decide))
 have Q:=xr (P:=P) (w:=w) (base:=base) (n:=2) T.d__law_singles T.blt (Z.mono (by decide))
 have r:=Ip (P:=P) (w:=w) (base:=base) (n:=3) T.d_is_pair T.blt (L.mono (by decide))
 have G:=Ad (P:=P) (w:=w) (base:=base) (n:=3) T.d_all_behind T.blt (t.mono (by decide)) (M.mono (by decide)) T.c_MOST_ROWS
 have H:=Ab (P:=P) (w:=w) (base:=base) (n:=4) T.d_is_stretch T.blt (r.mono (by decide)) T.c_NIGHTS
 have Y:=tU (P:=P) (w:=w) (base:=base) (n:=4) T.d_laid_as_they_are T.blt (G.mono (by decide)) (B.mono (by decide))
 have s:=G7 (P:=P) (w:=w) (base:=base) (n:=5) T.d_is_group T.blt (W.mono (by decide)) (H.mono (by decide)) (A.mono (by decide)) T.c_MOST_OF_A_GROUP
 have S:=wZ (P:=P) (w:=w) (base:=base) (n:=6) T.d_check_groups T.blt (s.mono (by decide))
 have q:=UW (P:=P) (w:=w) (base:=base) (n:=7) T.d_laid T.blt (S.mono (by decide)) (Y.mono (by decide))
 have R:=xq (P:=P) (w:=w) (base:=base) (n:=8) T.d__law_verdict T.blt (q.mono (by decide)) (y.mono (by decide)) (J.mono (by decide))
 exact((Yr (P:=P) (w:=w) (base:=base) (n:=9) F T.blt (Z.mono (by decide)) (R.mono (by decide)) (v.mono (by decide)) (Q.mono (by decide)) (O.mono (by decide))).mono (by decide)).imp (Sg K79.Q8)
end K79
def PySem.W.Fast.tw1229085892142843330:=0
def PySem.W.Fast.tw4394854944953079885:=0
def PySem.W.Fast.tw13088753621378870460:=0
def PySem.W.Fast.tw1475444125800777889:=0
def PySem.W.Fast.tw6096624739620836968:=0
def PySem.W.Fast.tw4284769936429131769:=0
def PySem.W.Fast.tw2164827611781554726:=0
def PySem.W.Fast.tw2618721350354756267:=0
def PySem.W.Fast.tw8912543015624789306:=0
def PySem.W.Fast.tw174104423959521371:=0
def PySem.W.Fast.tw18387690949196181248:=0
def PySem.W.Fast.tw2419882135774086919:=0
def PySem.W.Fast.tw9931664240806403140:=0
def PySem.W.Fast.tw218328495409128474:=0
def PySem.W.Fast.tw16657304872357812263:=0
def PySem.W.Fast.tw2649462482239387386:=0
def PySem.W.Fast.tw11631807356827172132:=0
def PySem.W.Fast.tw3368208295737420665:=0
def PySem.W.Fast.tw4634107263291269235:=0
def PySem.W.Fast.tw7036311219650945447:=0
def PySem.W.Fast.tw1898205958146485097:=0
def PySem.W.Fast.tw7412371794274364358:=0
def PySem.W.Fast.tw9848805347827663709:=0
def PySem.W.Fast.tw17017980994059309317:=0
def PySem.W.Fast.tw5833382571457666471:=0
def PySem.W.Fast.tw11479999754030668178:=0
def PySem.W.Fast.tw4888558819711152521:=0
def PySem.W.Fast.tw615630699599599296:=0
def PySem.W.Fast.tw8077964560381797231:=0
def PySem.W.Fast.tw1707115245187160507:=0
def PySem.W.Fast.tw11923742236737143938:=0
def PySem.W.Fast.tw5945891270206327497:=0
def PySem.W.Fast.tw14211170372151388136:=0
def PySem.W.Fast.tw16861630317290323225:=0
def PySem.W.Fast.tw12606974613479176623:=0
def PySem.W.Fast.tw399038404816885738:=0
def PySem.W.Fast.tw13746042725097355162:=0
def PySem.W.Fast.tw395987828144545231:=0
def PySem.W.Fast.tw989441171519220579:=0
def PySem.W.Fast.tw2807464236720409740:=0
def PySem.W.Fast.tw5821492313962813574:=0
def PySem.W.Fast.tw16749894546610050788:=0
def PySem.W.Fast.tw25809779610125549:=0
def PySem.W.Fast.tw1456072538560151243:=0
def PySem.W.Fast.tw5035549005594439248:=0
def PySem.W.Fast.tw13376220070794533954:=0
def PySem.W.Fast.tw384857687156581581:=0
def PySem.W.Fast.tw16657789980856253989:=0
def PySem.W.Fast.tw5134385383015747900:=0
def PySem.W.Fast.tw16997500979452626541:=0
def PySem.W.Fast.tw9227351843152014003:=0
def PySem.W.Fast.tw188891295511786736:=0
def PySem.W.Fast.tw466601808455466720:=0
def PySem.W.Fast.tw2524871456137873499:=0
def PySem.W.Fast.tw1524811223939433356:=0
def PySem.W.Fast.tw11409598992778104926:=0
def PySem.W.Fast.tw17968131125694429846:=0
def PySem.W.Fast.tw2338849673117281365:=0
def PySem.W.Fast.tw9386121043824475140:=0
def PySem.W.Fast.tw14690885172322494545:=0
def PySem.W.Fast.tw4672220205929752079:=0
def PySem.W.Fast.tw8706317854136435598:=0
def PySem.W.Fast.tw2462968906885817186:=0
def PySem.W.Fast.tw4197240790890294966:=0
def PySem.W.Fast.tw2288455575977169468:=0
def PySem.W.Fast.tw18080933218165747874:=0
def PySem.W.Fast.tw6906535806466508551:=0
def PySem.W.Fast.tw7318982554857248091:=0
def PySem.W.Fast.tw10937277900094301941:=0
def PySem.W.Fast.tw1196185729400015528:=0
def PySem.W.Fast.tw12054577533126985912:=0
def PySem.W.Fast.tw13649052394609185254:=0
def PySem.W.Fast.tw17148611111629211118:=0
def PySem.W.Fast.tw8708662155088107914:=0
def PySem.W.Fast.tw13945645528653323960:=0
def PySem.W.Fast.tw13007860441482106043:=0
def PySem.W.Fast.tw5259821194317032547:=0
def PySem.W.Fast.tw2119813409569824842:=0
def PySem.W.Fast.tw12509321492680510689:=0
def PySem.W.Fast.tw14995949215176998298:=0
def PySem.W.Fast.tw2502895901330317360:=0
def PySem.W.Fast.tw4971441979480452170:=0
open PySem PySem.W PyProof.Rows
set_option maxRecDepth 100000 in
set_option maxHeartbeats 0 in
theorem PySem.Challenge.cw_nightbook_k79_whole_one_room_each_holds : PySem.Challenge.rw_nightbook_k79_whole_one_room_each.Holds := by
 w_on;o_law;k_head;(case hw=>w_witness2)
 k_fill
 refine L2.MF (l:=PySem.Challenge.rw_nightbook_k79_whole_one_room_each) (n:=63) (k:=65) (x := "_law_script") (CX:=L2.CX0) (sp:=D3.Nu) rfl (by decide) rfl ⟨rfl,by decide,by decide⟩ (λw h Y=>PySem.W.km_in_of Y) ?F D3.tabs (λw h Y=>XL.Tt (c:=132) (PySem.W.km_in_of Y) (PySem.W.km_tabs_of Y _ (aG)) (by kernel_rfl) (by kernel_rfl)) XL.Pq ?S ?C
 case F=>
  intro w mg fa h Z G X
  have T:K79.Txt (L2.KOf Z) mg:=by
   constructor
   (case blt=>constructor<;>(refine' PySem.W.mg_none_of Z G ?z;(case z=>k_is)))
   all_goals try dsimp only[L2.KOf]
   all_goals first
    | (refine' D3.Zf Z G ?b ?a ?l ?c ?k;(case a=>k_is);(case l=>k_is);(case c=>k_is);(case k=>k_is);(case b=>intro _ _ _ _ _ _;repeat(first|exact D3.len0 rfl|exact D3.len0 ⟨_,rfl,rfl⟩|refine D3.ac3 λ_=>?_)))
    | (refine' D3.Zg Z G ?b ?a ?l ?c ?k;(case a=>k_is);(case l=>k_is);(case c=>k_is);(case k=>k_is);(case b=>exact λ_ _ _ _ _ _ u=>rfl))
    | (refine' XL.Xi Z G ?b ?a ?l ?c ?k ?h ?t;(case a=>k_is);(case l=>k_is);(case c=>k_is);(case k=>k_is);(case h=>kernel_rfl);(case t=>exact aG);(case b=>intro _ _ _ _ _ _;repeat(first|exact D3.len0 rfl|exact D3.len0 ⟨_,rfl,rfl⟩|refine D3.ac3 λ_=>?_)))
    | (exact⟨_,PySem.W.mg_of Z G rfl⟩)
  obtain⟨f,fd,F,b,m⟩:=T.d_law.ex
  have Q:=X.symm.trans m
  cases Q
  exact⟨fd,b,λbase P nb=>K79.Ys T F⟩
 case S=>exact λK H a ns V R U=>⟨a,ns,R,rfl,U,V,λ_=>rfl⟩
 case C=>exact λ_ _ _ _ z=>z
