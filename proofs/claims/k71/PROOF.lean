import PyProof.Rows.All
import Wide.All
import OpenK.AllK
import Wide.FinOn
import Lean
import PyProof.EqAt
import PyProof.EqKinds
import PyProof.TupleCall
import PyProof.EqLayable
import KE.KSortTup
import PyProof.AttrMissHeap
import KE.KDictOf
import KE.KDictSum
import PyProof.Rows.SortWalk
import PyProof.NeKinds
import PyProof.DictWalks
import KE.KMinBuiltin
import PyProof.DictRoadsH
import Wide.Seal
import KE.KDictLaws
import PyProof.Rows.SortRuns
import PyProof.Rows.SortShell
import KE.KDictSum
import KE.KDictLaws
import PyProof.DictFindH
import PyProof.DictRoadsH
import PyProof.WalksMore
import PyProof.Draws
import PyProof.EnumMake
import PyProof.TupleIter
import KE.KLam
import KE.KNestM
import PyProof.ListRange
import PySem.Challenge.RW_nightbook_k71_laid_places
set_option Elab.async false
set_option linter.all false
set_option maxRecDepth 100000
set_option maxHeartbeats 4000000
set_option exponentiation.threshold 40000
open List renaming getElem?_eq_getElem->au,length_map->aB,mem_cons_self->aC,mem_cons_of_mem->aJ,getD_eq_getElem?_getD->aK,pairwise_append->aN,mem_singleton->aO,replicate->aP,append_assoc->aQ,size_toArray->aV,mem_cons->aW,getElem?_map->aX,map_cons->bf,length_replicate->bA,getElem?_eq_none->bB,range->bC,length_cons->bF,mem_append_right->bG,mem_range->bH,getElem?_set_ne->bI,length_append->bJ,getElem?_append_right->bM,getElem?_append_left->bQ,length_take->bR,pairwise_cons->bU,mem_append->bW,getElem?_mapIdx->bZ,getElem_mem->b_,mem_append_left->cg,length_eq_zero_iff->cj,length_range->cC,ext_getElem?->cF,mem_map->cG,replicate_succ->cI,length_drop->cL,append_nil->cM,map_append->cN,pairwise_iff_getElem->cO,length_set->cV,nil_append->cW,getElem?_eq_some_iff->cY,getElem?_set_self->cZ,lookup_cons->dB,all_eq_true->dD,getElem?_replicate->dJ,getElem?_drop->dM,drop_zero->dO,mem_filter->dW,take_of_length_le->dY,take_append_drop->d9,perm_append_comm->d_,nodup_cons->eN,map_map->eO,pairwise_singleton->eV,flatten_cons->eZ,not_mem_nil->fH,getElem?_take_of_lt->fL,mem_of_getElem?->fP,getElem?_of_mem->fQ,pairwise_map->fY,count_append->fZ,getElem?_range->gb,mem_map_of_mem->gh,drop_eq_nil_of_le->gA,getElem_map->gO,mem_of_find?_eq_some->gU,filterMap_cons->iy,getElem_of_mem->iz,find?_eq_none->iJ,toArray->iQ,find?_cons->iZ,length_nil->i_,map_take->jg,map_drop->jh,reverse_cons->jm,drop_eq_getElem_cons->jz,map_congr_left->jD,sum_cons->jG,mem_filterMap->jQ,length_mapIdx->jR,getElem_range->jT,filter_append->jU,range'->jZ,mem_singleton_self->j8,filter_cons_of_neg->j9,filter_cons_of_pos->j_,getElem?_set->kO,drop_drop->kW,getElem_drop->kY,take_zero->kZ,eraseIdx_eq_take_drop_succ->lE,filter_cons->lJ,mem_of_mem_drop->lR,mem_of_mem_take->lW,of_mem_zip->lZ,exists_mem_of_ne_nil->mZ,length->m6,getElem_take->m8,all_cons->nJ,length_erase_of_mem->nO,ext_getElem->ou,map_nil->o7,drop_of_length_le->o9,find?_some->pJ,forIn_cons->pK,length_singleton->pP,length_filter_le->pQ,mem_iff_getElem?->pR,perm_cons_erase->pW,length_reverse->rD,length_pos_iff->rE,perm_nil->rM,zip_cons_cons->rT,length_range'->rW,getElem?_take->rY,filter_filter->rZ,map_replicate->su,nodup_append->tH,map->tK,lookup->uR,map_id->uT,foldl->vZ
open Nat renaming reduceLeDiff->ak,reduceEqDiff->ao,reduceAdd->aA,reduceLT->aD,le_refl->aL,ne_of_lt->aZ,le_trans->bL,lt_of_lt_of_le->bT,zero_le->cR,lt_irrefl->eE,le_of_lt->eY,zero_add->fj,lt_of_succ_lt->fV,lt_succ_of_lt->fW,lt_succ_self->gM,lt_or_ge->iM,ne_of_gt->kJ,add_zero->mD,sub_zero->mF,lt_of_le_of_lt->mR,not_lt->mU,add_sub_cancel_left->n_,le_add_right->oA,lt_trans->o8,add_assoc->rK,eq_zero_or_pos->rR,succ->tM
open Int renaming reduceEq->aF,reduceLT->aG,reduceLE->aH,toNat_natCast->dG,le_refl->eU,le_trans->gY,emod_lt_of_pos->iR,emod_nonneg->jL,zero_add->mG,le_antisymm->pL,sub_zero->tG,le_of_lt->tL
open Option renaming bind_some->aM,map_some->cP,some->cQ,bind_eq_some_iff->n8
open Bool renaming false_ne_true->aR,and_eq_true->aU,false_eq_true->fJ,not_true->fM,not_eq_true'->fX,and_eq_true_iff->gZ,or_eq_true->jK,not_eq_false'->mV
open Array renaming length_toList->bx,getElem?_toList->cB,toList_append->cD,perm_iff_toList_perm->dN,getElem?_eq_none->gB,getD_eq_getD_getElem?->gC,getElem?_eq_getElem->jA,toList_reverse->lU,toList_push->m7,size_setIfInBounds->nM,toList_inj->oh,forIn_toList->rQ
theorem dTr{p:Prop}[Decidable p](h:p):decide p=true:=decide_eq_true h
theorem dFa{p:Prop}[Decidable p](h:¬p):decide p=false:=decide_eq_false h
theorem lMp{α β:Type}{f:α->β}{l:List α}:(l.map f).length=l.length:=aB f

namespace L2
open PySem PySem.Spec PyProof.Rows
noncomputable abbrev Key:=Sum Int Str
noncomputable def v5:Key->Value->Bool
 | .inl k,v=>Value.isInt k v
 | .inr x,v=>Value.isStrOf x v
noncomputable def YT(w:World):Key->Int
 | .inl k=>hashInt k
 | .inr x=>hashStr w x
theorem g_:∀{k:Key}{v:Value},v5 k v=true->(∃i t,k=Sum.inl i/\v=Value.int i t)\/(∃x t,k=Sum.inr x/\v=Value.str x t)
 | .inl i,v,h=>by
  obtain⟨t,e⟩:=Value.isInt_shape (k:=i) (v:=v) h
  exact .inl ⟨i,t,rfl,e⟩
 | .inr x,v,h=>by
  obtain⟨t,e⟩:=Value.isStrOf_shape (x:=x) (v:=v) h
  exact .inr ⟨x,t,rfl,e⟩
theorem HY(i:Int)(t:Tok):v5 (.inl i) (.int i t)=true:=by simp[v5,Value.isInt]
theorem H_(x:Str)(t:Tok):v5 (.inr x) (.str x t)=true:=by simp[v5,Value.isStrOf]
theorem SX(a b:Int):decide ((Sum.inl a:Key)=Sum.inl b)=(a==b):=by
 by_cases e:a=b
 ·subst e;simp
 ·have h:¬(Sum.inl a:Key)=Sum.inl b:=λq=>e (Sum.inl.inj q)
  rw[dFa h]
  exact(beq_eq_false_iff_ne.mpr e).symm
theorem S5(a b:Str):decide ((Sum.inr a:Key)=Sum.inr b)=decide (a=b):=by
 by_cases e:a=b
 ·subst e;simp
 ·have h:¬(Sum.inr a:Key)=Sum.inr b:=λq=>e (Sum.inr.inj q)
  rw[dFa h,dFa e]
theorem S6(a:Int)(b:Str):decide ((Sum.inl a:Key)=Sum.inr b)=false:=dFa (λq=>nomatch q)
theorem S7(a:Str)(b:Int):decide ((Sum.inr a:Key)=Sum.inl b)=false:=dFa (λq=>nomatch q)
noncomputable def iT(prog:Program)(w:World):PySem.KeyKind prog w Key where
 is:=v5
 hash:=YT w
 inj:=λv a b ha X=>by
  rcases g_ ha with⟨i,t,rfl,rfl⟩|⟨x,t,rfl,rfl⟩
  ·rcases g_ X with⟨j,u,rfl,e⟩|⟨y,u,rfl,e⟩
   ·injection e with Z _;rw[Z]
   ·exact nomatch e
  ·rcases g_ X with⟨j,u,rfl,e⟩|⟨y,u,rfl,e⟩
   ·exact nomatch e
   ·injection e with Z _;rw[Z]
 byValue:=λk v h=>by
  rcases g_ h with⟨i,t,rfl,rfl⟩|⟨x,t,rfl,rfl⟩<;>rfl
 pyHash:=λY h=>by
  rcases g_ Y with⟨i,t,rfl,rfl⟩|⟨x,t,rfl,rfl⟩
  ·exact wpAny_pyHash_int h
  ·exact wpAny_pyHash_str h
 eqBool:=λW Y h=>by
  rcases g_ W with⟨i,t,rfl,rfl⟩|⟨x,t,rfl,rfl⟩
  ·rcases g_ Y with⟨j,u,rfl,rfl⟩|⟨y,u,rfl,rfl⟩
   ·rw[SX]at h;exact wpAny_eqBool_int h
   ·rw[S6]at h;exact SeqAt.EqAt.int_str i t y u _ _ _ _ h
  ·rcases g_ Y with⟨j,u,rfl,rfl⟩|⟨y,u,rfl,rfl⟩
   ·rw[S7]at h;exact SeqAt.EqAt.str_int x t j u _ _ _ _ h
   ·rw[S5]at h;exact wpAny_eqBool_str h
 «strs»:=λk x t v h=>by
  rcases g_ h with⟨i,u,rfl,e⟩|⟨y,u,rfl,e⟩
  ·exact nomatch e
  ·injection e with Z _
   subst Z
   cases v<;>rfl
theorem Er(prog:Program)(w:World)(k:Key)(v:Value):(iT prog w).is k v=v5 k v:=rfl
theorem Bv(prog:Program)(w:World)(i:Int)(t:Tok):(iT prog w).is (.inl i) (.int i t)=true:=HY i t
theorem Bw(prog:Program)(w:World)(x:Str)(t:Tok):(iT prog w).is (.inr x) (.str x t)=true:=H_ x t
end L2
variable{us:List Value}{a b:Addr}{P:Program}{w:World}{h:Heap}
namespace L2
open PySem PySem.Spec PyProof.Rows
inductive V where
 |non|bl (b:Bool)|int (i:Int)|str (x:Str)|byt (b:Array UInt8)|flt (b:UInt64)|ref (a:Addr)|ty (n:String)
 deriving DecidableEq
noncomputable def RelV:V->Value->Prop
 | .non,u=>u=Value.none
 | .bl b,u=>u=Value.bool b
 | .int i,u=>∃t,u=Value.int i t
 | .str x,u=>∃t,u=Value.str x t
 | .byt b,u=>∃t,u=Value.bytes b t
 | .flt b,u=>∃t,u=Value.float b t
 | .ref a,u=>u=Value.ref a
 | .ty n,u=>u=Value.type n
noncomputable abbrev Vals:List V->List Value->Prop:=Paired RelV
theorem Vals.length{xs:List V}(r:Vals xs us):xs.length=us.length:=Paired.length r
theorem Vals.get:∀{xs:List V}{us:List Value}{i:Nat}{x:V},Vals xs us->xs[i]? = some x->∃u,us[i]? = some u/\RelV x u
 |_,_,_,_,.nil,e=>by simp at e
 |_,_,0,_,.cons r _,e=>by simp at e;subst e;exact⟨_,rfl,r⟩
 |_,_,i+1,x,.cons _ t,e=>by
  obtain⟨u,h1,h2⟩:=Vals.get (i:=i) (x:=x) t (by simpa using e)
  exact⟨u,by simpa using h1,h2⟩
theorem Vals.set{x:V}{u:Value}(r:RelV x u):∀{xs:List V}{us:List Value}(i:Nat),Vals xs us->Vals (xs.set i x) (us.set i u)
 |_,_,_,.nil=>.nil
 |_,_,0,.cons _ t=>.cons r t
 |_,_,i+1,.cons q t=>.cons q (Vals.set r i t)
theorem Vals.append:∀{xs ys:List V}{us ws:List Value},Vals xs us->Vals ys ws->Vals (xs++ys) (us++ws)
 |_,_,_,_,.nil,s=>s
 |_,_,_,_,.cons r t,s=>.cons r (Vals.append t s)
theorem Vals.take:∀{xs:List V}{us:List Value}(n:Nat),Vals xs us->Vals (xs.take n) (us.take n)
 |_,_,0,_=>.nil
 |_,_,_+1,.nil=>.nil
 |_,_,n+1,.cons r t=>.cons r (Vals.take n t)
theorem Vals.drop:∀{xs:List V}{us:List Value}(n:Nat),Vals xs us->Vals (xs.drop n) (us.drop n)
 |_,_,0,r=>r
 |_,_,_+1,.nil=>.nil
 |_,_,n+1,.cons _ t=>Vals.drop n t
noncomputable def v7:Option V->Option Value->Prop
 |some v,some u=>RelV v u
 |none,none=>True
 |_,_=>False
noncomputable def KV{κ:Type}:List (κ×V)->List (κ×Value)->Prop:=Paired λ(p:κ×V)(q:κ×Value)=>p.1=q.1/\RelV p.2 q.2
noncomputable def kV:Key->V
 | .inl i=>.int i
 | .inr x=>.str x
inductive HO where
 /-- a list -/
 |lst (xs:List V)
 /-- a tuple (never changes) -/
 |tup (xs:List V)
 /-- a dict whose keys are ints and texts;one whose keys are tuples of ints and texts (the empty one is both) -/
 |dK (kvs:List (Key×V))|dT (kvs:List (List Key×V))
 /-- a set of ints: its members,its size -/
 |set (S:Int->Bool) (n:Nat)
 /-- an instance of the class at C,its dict at dx,its attributes -/
 |ins (C dx:Addr) (fs:List (Str×V))
 /-- the dict of the instance at x -/
 |own (x:Addr)
 /-- the dict of an exception -/
 |xd (fs:List (Str×V))
 /-- a bound method,f of x -/
 |met (f x:Addr)
 /-- a range object lo,lo+1,.. below hi -/
 |rng (lo hi:Int)
 /-- a thing that is known to the object (the script;a dict while a loop walks it): read,never written while it is so -/
 |frz (o:Obj) (u:HO)
 /-- a code object's table -/
 |tbl (q:Str) (p:Pos)
 /-- any other thing,by what is true of its one object (a def of one's own: SetO a S n:=HO.ext λh=>..) -/
 |ext (φ:Heap->Prop)
noncomputable abbrev Hp:=Addr->Option HO
noncomputable def upd(H:Hp)(a:Addr)(o:HO):Hp:=λb=>if b=a then some o else H b
theorem dj{H:Hp}{o:HO}:upd H a o a=some o:=by unfold upd;rw[if_pos rfl]
theorem cJ{H:Hp}{o:HO}(h:b≠a):upd H a o b=H b:=by unfold upd;rw[if_neg h]
theorem Oq{H:Hp}{o u:HO}:upd (upd H a o) a u=upd H a u:=by
 funext b;unfold upd;split<;>rfl
theorem Bx{H:Hp}{o u:HO}(h:H a=some o)(h':H b=some u)(d:o≠u):a≠b:=by
 intro e;subst e;rw[h]at h';exact d (cQ.inj h')
theorem jr{H:Hp}{o:HO}(h:H a=some o)(h':H b=none):a≠b:=by
 intro e;subst e;rw[h]at h';cases h'
section
variable(P:Program)(w:World)
noncomputable def gP(H:Hp)(h:Heap)(a:Addr):HO->Prop
 | .lst xs=>xs.length<=sizeLine/\∃(its:List Value)(n:Nat),Vals xs its/\h.get? a=some {cls:=.type "list", data:=.seq its.toArray n}
 | .tup xs=>xs.length<=sizeLine/\∃its:List Value,Vals xs its/\IsTup h a its.toArray
 | .dK kvs=>kvs.length<=sizeLine/\(a==sysModules)=false/\∃vs,KV kvs vs/\h.DictOf (iT P w) a vs
 | .dT kvs=>kvs.length<=sizeLine/\(a==sysModules)=false/\∃xs:List (List Key×Addr×Value),
  Paired (λ(p:List Key×V)(q:List Key×Addr×Value)=>p.1=q.1/\H q.2.1=some (.tup (p.1.map kV))/\RelV p.2 q.2.2) kvs xs /\
  ∃o es ep,h.get? a=some o/\o.ExactDict/\o.data = .dict es ep/\es.toList=xs.map (entryOfKey (tupleKind (iT P w)))/\(xs.map (·.1)).Nodup
 | .set S n=>h.SetOf (intKind P w) a S n
 | .ins C dx fs=>H dx=some (.own a)/\fs.length<=1000/\dx≠a/\h.get? a=some (PySem.W.instObj C dx) /\
  ∃mA,h.Ns1 dx mA/\(∀f,v7 (fs.lookup f) (mA f))/\PySem.Within mA (fs.map (·.1))
 | .own _=>∃o,h.get? a=some o
 | .xd fs=>∃mA,h.Ns1 a mA/\∀f,v7 (fs.lookup f) (mA f)
 | .rng lo hi=>∃t u v,h.get? a=some {cls:=.type "range", data:=.fields #[.int lo t,.int hi u,.int 1 v]}
 | .frz o u=>h.get? a=some o/\gP H h a u
 | .tbl q p=>∃ps,h.get? a=some {cls:=.none,data:=.fields ps}/\(ps = #[]\/∃c',ps = #[rawInt p.line,rawInt p.col,.ref c']/\H c'=some (.own a)/\h.CodeRec (.ref c') q)
 | .met f x=>h.get? a=some (PySem.W.methodObj (.ref f) (.ref x))
 | .ext φ=>φ h/\(∃o,h.get? a=some o)/\∀h1 h2:Heap,φ h1->(∀o,h1.get? a=some o->h2.get? a=some o)->φ h2
noncomputable def HOk(H:Hp)(h:Heap):Prop:=∀a o,H a=some o->gP P w H h a o
end
section
variable{P:Program}{w:World}{H H':Hp}{h h':Heap}{a:Addr}{o:HO}
theorem gP.lt(x:gP P w H h a o):a<h.objs.size:=by
 cases o with
 |lst xs=>obtain⟨_,_,_,_,e⟩:=x;exact Heap.lt_size e
 |tup xs=>obtain⟨_,_,_,p⟩:=x;exact p.lt
 |dK kvs=>obtain⟨_,_,_,_,o,_,_,e,_⟩:=x;exact Heap.lt_size e
 |dT kvs=>obtain⟨_,_,_,_,o,_,_,e,_⟩:=x;exact Heap.lt_size e
 |set S n=>obtain⟨o,_,_,_,e,_⟩:=x;exact Heap.lt_size e
 |ins C dx fs=>obtain⟨_,_,_,e,_⟩:=x;exact Heap.lt_size e
 |own y=>obtain⟨_,e⟩:=x;exact Heap.lt_size e
 |xd fs=>obtain⟨_,⟨_,_,_,e,_⟩,_⟩:=x;exact Heap.lt_size e
 |rng lo hi=>obtain⟨_,_,_,e⟩:=x;exact Heap.lt_size e
 |frz Z u=>obtain⟨e,_⟩:=x;exact Heap.lt_size e
 |tbl q p=>obtain⟨_,e,_⟩:=x;exact Heap.lt_size e
 |met f y=>exact Heap.lt_size (show h.get? a=some _ from x)
 |ext φ=>obtain⟨_,⟨_,e⟩,_⟩:=x;exact Heap.lt_size e
theorem Paired.mapP{α β:Type}{F G:α->β->Prop}:∀{l₁:List α}{l₂:List β},Paired F l₁ l₂->(∀a b,F a b->G a b)->Paired G l₁ l₂
 |_,_,.nil,_=>.nil
 |_,_,.cons r t,f=>.cons (f _ _ r) (Paired.mapP t f)
theorem gP.stay(x:gP P w H h a o)(k:∀b u,(b=a\/H b=some (.own a))->h.get? b=some u->h'.get? b=some u)
 (B:∀b,H b=some (.own a)->H' b=some (.own a)) (D:∀b xs,H b=some (.tup xs)->H' b=some (.tup xs)):gP P w H' h' a o:=by
 induction o with
 |lst xs=>obtain⟨z,its,n,r,e⟩:=x;exact⟨z,its,n,r,k _ _ (.inl rfl) e⟩
 |tup xs=>obtain⟨z,its,r,Z,e,c⟩:=x;exact⟨z,its,r,Z,k _ _ (.inl rfl) e,c⟩
 |dK kvs=>obtain⟨z,y,vs,r,Z,es,ep,e,c⟩:=x;exact⟨z,y,vs,r,Z,es,ep,k _ _ (.inl rfl) e,c⟩
 |dT kvs=>
  obtain⟨z,y,xs,r,Z,es,ep,e,c⟩:=x
  exact⟨z,y,xs,Paired.mapP r λp q z=>⟨z.1,D _ _ z.2.1,z.2.2⟩,Z,es,ep,k _ _ (.inl rfl) e,c⟩
 |set S n=>obtain⟨Z,es,ep,t,e,c⟩:=x;exact⟨Z,es,ep,t,k _ _ (.inl rfl) e,c⟩
 |ins C dx fs=>
  obtain⟨d,z,ne,e,mA,⟨od,es,ep,N,c⟩,r⟩:=x
  exact⟨B _ d,z,ne,k _ _ (.inl rfl) e,mA,⟨od,es,ep,k _ _ (.inr d) N,c⟩,r⟩
 |own y=>obtain⟨Z,e⟩:=x;exact⟨Z,k _ _ (.inl rfl) e⟩
 |xd fs=>obtain⟨mA,⟨od,es,ep,e,c⟩,r⟩:=x;exact⟨mA,⟨od,es,ep,k _ _ (.inl rfl) e,c⟩,r⟩
 |rng lo hi=>obtain⟨t,u,v,e⟩:=x;exact⟨t,u,v,k _ _ (.inl rfl) e⟩
 |frz Z u Q=>obtain⟨e,q⟩:=x;exact⟨k _ _ (.inl rfl) e,Q q⟩
 |tbl q p=>
  obtain⟨ps,e,z⟩:=x
  refine⟨ps,k a _ (.inl rfl) e,?_⟩
  rcases z with z|⟨c',z1,z2,T⟩
  ·exact .inl z
  ·obtain⟨c,oc,vs,R,U,Y,X,O⟩:=T
   have V:c'=c:=by injection U
   exact .inr ⟨c',z1,B _ z2,c,oc,vs,R,U,k _ _ (.inr (V▸z2)) Y,X,O⟩
 |met f y=>
  have e:h.get? a=some (PySem.W.methodObj (.ref f) (.ref y)):=x
  show h'.get? a=some (PySem.W.methodObj (.ref f) (.ref y))
  exact k a _ (.inl rfl) e
 |ext φ=>obtain⟨p,⟨o,e⟩,st⟩:=x;exact⟨st _ _ p λo q=>k _ _ (.inl rfl) q,⟨o,k _ _ (.inl rfl) e⟩,st⟩
theorem HOk.lt(x:HOk P w H h)(e:H a=some o):a<h.objs.size:=(x a o e).lt
theorem HOk.fresh(x:HOk P w H h)(e:h.objs.size<=a):H a=none:=by
 cases q:H a with
 |none=>rfl
 |some u=>exact absurd (bT (x.lt q) e) (eE _)
theorem HOk.kept(x:HOk P w H h)(k:∀b u,h.get? b=some u->h'.get? b=some u):HOk P w H h':=λa o e=>
 (x a o e).stay (λb u _ q=>k b u q) (λ_ q=>q) λ_ _ q=>q
theorem HOk.laid(x:HOk P w H h)(k:∀b u,h.get? b=some u->h'.get? b=some u)(D:h.objs.size<=a)(B:gP P w (upd H a o) h' a o):HOk P w (upd H a o) h':=λb u e=>by
 have hn:=x.fresh D
 by_cases Z:b=a
 ·subst Z;rw[dj]at e;cases e;exact B
 ·rw[cJ Z]at e
  exact(x b u e).stay (λc v _ q=>k c v q) (λc q=>by rw[cJ (jr q hn)];exact q) λc xs q=>by rw[cJ (jr q hn)];exact q
end
noncomputable def Rd(H:Hp)(a:Addr)(u:HO):Prop:=H a=some u\/∃o,H a=some (.frz o u)
theorem Rd.ok{H:Hp}{u:HO}(r:Rd H a u)(x:HOk P w H h):gP P w H h a u:=by
 rcases r with r|⟨o,r⟩
 ·exact x a u r
 ·obtain⟨_,q⟩:=x a _ r
  exact q
noncomputable def Mut:Option HO->Prop
 |some (.lst _)=>True
 |some (.dK _)=>True
 |some (.dT _)=>True
 |some (.set _ _)=>True
 |some (.ins _ _ _)=>True
 |some (.ext _)=>True
 |_=>False
section
variable{P:Program}{w:World}{H:Hp}{h h':Heap}{x e:Addr}{o':HO}
theorem HOk.write(ok:HOk P w H h)(B:Mut (H x))(O:e=x\/H e=some (.own x))(k:∀b u,b≠e->h.get? b=some u->h'.get? b=some u)(J:∃u,h'.get? e=some u)
 (D:gP P w (upd H x o') h' x o'):HOk P w (upd H x o') h':=λb u q=>by
 have Y:∀c y,H c=some (.own y)->c≠x:=λc y r z=>by subst z;rw[r]at B;exact B
 have X:∀c xs,H c=some (.tup xs)->c≠x:=λc xs r z=>by subst z;rw[r]at B;exact B
 by_cases V:b=x
 ·subst V;rw[dj]at q;cases q;exact D
 ·rw[cJ V]at q
  by_cases Z:b=e
  ·have U:H b=some (.own x):=by
    rcases O with z|z
    ·exact absurd (Z.trans z) V
    ·rw[Z];exact z
   rw[q]at U;cases U
   obtain⟨v,T⟩:=J
   exact⟨v,by rw[Z];exact T⟩
  ·refine(ok b u q).stay (λc v W r=>k c v ?_ r) (λc r=>by rw[cJ (Y c b r)];exact r) λc xs r=>by rw[cJ (X c xs r)];exact r
   rcases W with rfl|W
   ·exact Z
   ·rintro rfl
    rcases O with z|z
    ·exact Y c b W z
    ·rw[W]at z;cases z;exact V rfl
end
structure Un(fs ex:List Addr)(H H':Hp)(h h':Heap):Prop where
 keep:∀b o,h.get? b=some o->H b=none->b∉fs->b∉ex->h'.get? b=some o
 slot:∀b o,h.get? b=some o->H b=none->b∈fs->b∉ex->∃sl,h'.get? b=some {o with slots:=sl}
 free:∀b o,h.get? b=some o->H b=none->b∉ex->H' b=none
 there:∀b o,h.get? b=some o->b∉ex->∃o',h'.get? b=some o'
 tups:∀b xs,H b=some (.tup xs)->H' b=some (.tup xs)
 frzs:∀b o u,H b=some (.frz o u)->H' b=some (.frz o u)
 tbls:∀b q p,H b=some (.tbl q p)->H' b=some (.tbl q p)
section
variable{fs fs' ex ex':List Addr}{H H1 H2:Hp}{h h1 h2 h':Heap}{a x e:Addr}{o:HO}
theorem Un.any(u:Un fs ex H H1 h h1){b:Addr}{B:Obj}(q:h.get? b=some B)(n:H b=none)(D:b∉ex):∃sl,h1.get? b=some {B with slots:=sl}:=by
 by_cases Z:b∈fs
 ·exact u.slot b B q n Z D
 ·exact⟨B.slots,u.keep b B q n Z D⟩
theorem Un.kept(k:∀b u,h.get? b=some u->h'.get? b=some u):Un fs ex H H h h':=
 ⟨λb Z q _ _ _=>k b Z q,λb Z q _ _ _=>⟨Z.slots,k b Z q⟩,λ_ _ _ n _=>n,λb Z q _=>⟨Z,k b Z q⟩,λ_ _ q=>q,λ_ _ _ q=>q,λ_ _ _ q=>q⟩
theorem Un.refl:Un fs ex H H h h:=Un.kept λ_ _ q=>q
theorem Un.laid(k:∀b u,h.get? b=some u->h'.get? b=some u)(B:h.objs.size<=a)(hn:H a=none):Un fs ex H (upd H a o) h h' where
 keep:=λb u q _ _ _=>k b u q
 slot:=λb u q _ _ _=>⟨u.slots,k b u q⟩
 free:=λb u q n _=>by rw[cJ (aZ (bT (Heap.lt_size q) B))];exact n
 there:=λb u q _=>⟨u,k b u q⟩
 tups:=λb xs q=>by rw[cJ (jr q hn)];exact q
 frzs:=λb u xs q=>by rw[cJ (jr q hn)];exact q
 tbls:=λb q p e=>by rw[cJ (jr e hn)];exact e
theorem Un.write(B:Mut (H x))(J:e=x\/H e=some (.own x))(k:∀b u,b≠e->h.get? b=some u->h'.get? b=some u)(D:∃u,h'.get? e=some u):Un fs ex H (upd H x o) h h':=by
 have Y:∀b,H b=none->b≠x:=λb n z=>by subst z;rw[n]at B;exact B
 have X:∀b,H b=none->b≠e:=λb n z=>by
  subst z
  rcases J with r|r
  ·exact Y b n r
  ·rw[n]at r;cases r
 have hm:∀b u,H b=some u->¬Mut (some u)->b≠x:=λb u q nm z=>by subst z;rw[q]at B;exact nm B
 refine⟨λb u q n _ _=>k b u (X b n) q,λb u q n _ _=>⟨u.slots,k b u (X b n) q⟩,λb u q n _=>by rw[cJ (Y b n)];exact n,λb u q _=>?_,
  λb xs q=>by rw[cJ (hm b _ q λz=>z)];exact q,λb u xs q=>by rw[cJ (hm b _ q λz=>z)];exact q,λb q p e=>by rw[cJ (hm b _ e λz=>z)];exact e⟩
 by_cases Z:b=e
 ·subst Z;exact D
 ·exact⟨u,k b u Z q⟩
end
noncomputable def trk(h:Heap)(H:Hp):List Addr:=(bC h.objs.size).filter λa=>(H a).isSome
noncomputable def zR(h:Heap)(H:Hp):Heap:=PySem.W.hideAll h (trk h H)
theorem Ia(h:Heap)(H:Hp):(zR h H).objs.size=h.objs.size:=PySem.W.hideAll_size _ _
theorem JW{H:Hp}{o:Obj}(e:h.get? b=some o)(n:H b=none):(zR h H).get? b=some o:=
 PySem.W.hideAll_get _ e λhm=>by
  have q:(H b).isSome=true:=(dW.mp hm).2
  rw[n]at q;simp at q
theorem Ot{H:Hp}{o:Obj}(e:(zR h H).get? b=some o):h.get? b=some o/\H b=none:=by
 have Z:h.get? b=some o:=PySem.W.of_hideAll (trk h H) e
 refine⟨Z,?_⟩
 cases q:H b with
 |none=>rfl
 |some x=>
  have hm:b∈trk h H:=dW.mpr ⟨bH.mpr (Heap.lt_size Z),by simp[q]⟩
  have z:(zR h H).get? b=none:=PySem.W.hideAll_none (trk h H) hm
  rw[z]at e;cases e
noncomputable def m9(g h:Heap)(L:Addr):List (Addr×Obj):=(bC h.objs.size).filterMap λa=>if a=L\/(g.get? a).isSome=true then none else(h.get? a).map λo=>(a,o)
theorem BJ{g:Heap}{L:Addr}{o:Obj}(h1:a≠L)(h2:g.get? a=none)(B:h.get? a=some o):(a,o)∈m9 g h L:=
 jQ.mpr ⟨a,bH.mpr (Heap.lt_size B),by simp[h1,h2,B]⟩
theorem v8{g:Heap}{L:Addr}{p:Addr×Obj}(B:p∈m9 g h L):p.1≠L/\g.get? p.1=none/\h.get? p.1=some p.2:=by
 obtain⟨b,_,e⟩:=jQ.mp B
 split at e
 ·cases e
 ·rename_i hn
  cases q:h.get? b with
  |none=>rw[q]at e;simp at e
  |some u=>
   rw[q]at e
   simp only[cP,cQ.injEq]at e
   subst e
   refine⟨λz=>hn (.inl z),?_,q⟩
   show g.get? b=none
   cases r:g.get? b with
   |none=>rfl
   |some v=>exact(hn (.inr (by simp[r]))).elim
theorem JX{g:Heap}{L:Addr}:News g L h (m9 g h L):=λp Z=>let⟨a,b,c⟩:=v8 Z;⟨c,a,b⟩
end L2
variable{t' i:Nat}{ch:List Addr}{it:Addr}{o:L2.HO}{N:List Str}{M:Model}{A:Around}{E:Value->Shared->Prop}{x:Str}{v:L2.V}{e:Expr}{s:Shared}
namespace L2
open PySem PySem.Spec PyProof.Rows
structure Mod(K:PySem.W.Frag)(mg:Str->Option Value)(base:Heap):Prop where
 kin:K.In base
 glob:base.Ns mainGlobals mg
 blt:∃mb,base.Ns builtinsNs mb/\∀x:Str,x≠"__name__"->mb x=bootBuiltins x
 nolimit:base.NoLimit
 bm:∃bm ob,mg "__builtins__"=some (.ref bm)/\bm≠builtinsNs/\base.get? bm=some ob/\ob.cls = .type "module"/\ob.dict=some builtinsNs/\ob.data = .plain
structure Cx where
 prog:Program
 w:World
 K:PySem.W.Frag
 mg:Str->Option Value
 base:Heap
 A:Around
 N:List Str
 s₀:Shared
 H₀:Hp
 env:Env
 outer:List Env
 stack:List Env
 ex:List Addr
 fn:Str->Bool
 calm:Bool
 pn:List (Addr×Obj)
 xe:Value->Shared->Prop
noncomputable def frs(l:List Env):List Addr:=l.filterMap (·.frame)
noncomputable abbrev Cx.fs(X:Cx):List Addr:=frs X.outer
noncomputable def Vis(sc:Scope)(x:Str):Prop:=sc.names.lookup x=some .local\/sc.names.lookup x=some .cell\/sc.names.lookup x=some .free
noncomputable def Loc(sc:Scope)(x:Str):Prop:=sc.names.lookup x=some .local\/sc.names.lookup x=some .cell
noncomputable def Look(env:Env)(h:Heap)(m:Str->Option Value)(x:Str)(u:Value):Prop:=
 (env.kindOf x=some .local/\m x=some u)\/((env.kindOf x=some .cell\/env.kindOf x=some .free)/\∃c,env.cells.lookup x=some c/\h.IsCell c (some u))
structure Cx.Ok(X:Cx):Prop where
 mod:Mod X.K X.mg X.base
 kind:X.env.scope.kind = .function
 glob:X.env.globals=mainGlobals
 blt:X.env.builtins=builtinsNs
 above:X.s₀.heap.objs.size<=X.env.locals
 inj:∀x y c,X.env.cells.lookup x=some c->X.env.cells.lookup y=some c->x=y
 has:∀x,(X.env.kindOf x=some .cell\/X.env.kindOf x=some .free)->∃c,X.env.cells.lookup x=some c
 cab:∀x c,X.fn x=true->X.env.cells.lookup x=some c->X.s₀.heap.objs.size<=c
 hd:X.calm=true->X.A.handled=none
 frames:X.A.frames=some X.stack
 stk:X.stack=X.outer\/(X.stack=X.env::X.outer/\X.env.frame=some X.env.locals)
 exf:∀b∈X.ex,b≠X.env.locals/\∀x c,X.env.cells.lookup x=some c->c≠b
 bs:∀b o,X.base.get? b=some o->X.s₀.heap.get? b=some o/\X.H₀ b=none
 bsz:X.base.objs.size<=X.s₀.heap.objs.size
 noex:∀b o,X.base.get? b=some o->b∉X.ex
 exfs:∀b∈X.ex,b∉X.fs
 funs:X.s₀.heap.FunFrames X.base X.outer
 frf:∀b∈X.fs,X.H₀ b=none
structure Inv(X:Cx)(pins:List (Addr×Obj))(σ:List (Option V))(H:Hp)(s:Shared):Prop where
 ok:X.Ok
 os:s.os=X.s₀.os
 bare:AllBare s.gens
 base:Un X.fs X.ex X.H₀ H X.s₀.heap s.heap
 loc:∃m,s.heap.Ns X.env.locals m/\∀(i:Nat)(x:Str)(v:V),X.N[i]? = some x->σ[i]? = some (some v)->Vis X.env.scope x->∃u,RelV v u/\Look X.env s.heap m x u
 cell:∀x c,X.env.cells.lookup x=some c->∃v,s.heap.IsCell c v
 free:H X.env.locals=none
 freeC:∀x c,X.env.cells.lookup x=some c->H c=none
 pin:∀p∈X.pn++pins,s.heap.get? p.1=some p.2/\H p.1=none/\p.1≠X.env.locals/\p.1∉X.fs/\∀v,p.2.data ≠ .cell v
 hok:HOk X.prog X.w H s.heap
 len:σ.length=X.N.length
section
variable{X:Cx}{pins:List (Addr×Obj)}{σ:List (Option V)}{H H':Hp}{s:Shared}{h':Heap}
theorem Cx.Ok.nofr(ok:X.Ok){b:Addr}{o:Obj}(e:X.base.get? b=some o):b∉X.fs:=λZ=>by
 have:=(ok.funs.mem Z).1
 rw[e]at this;cases this
theorem Inv.bs(I:Inv X pins σ H s):∀b o,X.base.get? b=some o->s.heap.get? b=some o/\H b=none:=λb o e=>
 ⟨I.base.keep b o (I.ok.bs b o e).1 (I.ok.bs b o e).2 (I.ok.nofr e) (I.ok.noex b o e),I.base.free b o (I.ok.bs b o e).1 (I.ok.bs b o e).2 (I.ok.noex b o e)⟩
theorem Inv.bk(I:Inv X pins σ H s):∀b o,X.base.get? b=some o->s.heap.get? b=some o:=λb o e=>(I.bs b o e).1
theorem Inv.mod(I:Inv X pins σ H s):Mod X.K X.mg X.base:=I.ok.mod
theorem Inv.kIn(I:Inv X pins σ H s):X.K.In s.heap:=I.ok.mod.kin.keeps I.bk
theorem Inv.lt(I:Inv X pins σ H s):X.env.locals<s.heap.objs.size:=let⟨_,hn,_⟩:=I.loc;hn.lt
theorem Inv.sz(I:Inv X pins σ H s):X.s₀.heap.objs.size<=s.heap.objs.size:=bL I.ok.above (eY I.lt)
theorem Inv.nofs(I:Inv X pins σ H s){a:Addr}(h:s.heap.objs.size<=a):a∉X.fs:=λY=>by
 obtain⟨_,o,Z,_⟩:=I.ok.funs.mem Y
 exact absurd (bT (Heap.lt_size Z) (bL I.sz h)) (eE _)
theorem Inv.cne(I:Inv X pins σ H s):∀x c,X.env.cells.lookup x=some c->c≠X.env.locals:=λx c e z=>by
 obtain⟨v,o,W,hd⟩:=I.cell x c e
 obtain⟨m,⟨o',es,ep,Z,Y,_⟩,_⟩:=I.loc
 rw[z,Z]at W;cases W;rw[Y]at hd;cases hd
theorem Inv.funs(I:Inv X pins σ H s):s.heap.FunFrames X.base X.outer:=by
 have all:∀(l:List Env),(∀b∈frs l,b∈X.fs)->X.s₀.heap.FunFrames X.base l->s.heap.FunFrames X.base l:=by
  intro l
  induction l with
  |nil=>intro _ _;trivial
  |cons env r V=>
   intro hs S
   obtain⟨R,⟨L,o,Z,hn,T,hd⟩,U⟩:=S
   have W:L∈X.fs:=hs L (by unfold frs;rw[iy,Z];exact aC)
   obtain⟨sl,e⟩:=I.base.slot L o T (I.ok.frf L W) W λz=>I.ok.exfs L z W
   exact⟨R,⟨L,_,Z,hn,e,hd⟩,V (λb Y=>hs b (by unfold frs;rw[iy,Z];exact aJ _ Y)) U⟩
 exact all X.outer (λ_ Y=>Y) I.ok.funs
theorem Inv.stack(I:Inv X pins σ H s):s.heap.FunFrames X.base X.stack:=by
 rcases I.ok.stk with e|⟨e,Z⟩
 ·rw[e];exact I.funs
 ·rw[e]
  obtain⟨m,hn,_⟩:=I.loc
  refine .cons (by rw[I.ok.kind];decide) Z hn ?_ I.funs
  exact Heap.get?_none_of_le (bL I.ok.bsz I.ok.above)
theorem Inv.stkSub(I:Inv X pins σ H s):∀b∈frs X.stack,b∈X.env.locals::X.fs:=λb Z=>by
 rcases I.ok.stk with e|⟨e,Y⟩
 ·rw[e]at Z;exact aJ _ Z
 ·rw[e]at Z
  unfold frs at Z
  rw[iy,Y]at Z
  exact Z
theorem Inv.stkFree(I:Inv X pins σ H s):∀b∈frs X.stack,H b=none:=λb Z=>by
 rcases aW.mp (I.stkSub b Z)with e|Z
 ·rw[e];exact I.free
 ·obtain⟨_,o,Y,_⟩:=I.ok.funs.mem Z
  exact I.base.free b o Y (I.ok.frf b Z) λz=>I.ok.exfs b z Z
theorem Inv.step{g':Array GenState}{d':Drawn}(I:Inv X pins σ H s)
 (B:∀b∈ch,(b∈X.ex\/X.s₀.heap.objs.size<=b)/\b≠X.env.locals/\(∀x c,X.env.cells.lookup x=some c->c≠b)/\∀p∈X.pn++pins,p.1≠b)
 (keep:∀b o,b≠X.env.locals->b∉X.fs->b∉ch->s.heap.get? b=some o->H b=none->h'.get? b=some o)
 (slot:∀b o,b≠X.env.locals->b∈X.fs->b∉ch->s.heap.get? b=some o->H b=none->∃sl,h'.get? b=some {o with slots:=sl}) (free:∀b o,b∉ch->s.heap.get? b=some o->H b=none->H' b=none)
 (there:∀b o,b∉ch->s.heap.get? b=some o->∃o',h'.get? b=some o')
 (tups:∀b xs,H b=some (.tup xs)->H' b=some (.tup xs)) (frzs:∀b o u,H b=some (.frz o u)->H' b=some (.frz o u)) (tbls:∀b q p,H b=some (.tbl q p)->H' b=some (.tbl q p))
 (ns:∀m,s.heap.Ns X.env.locals m->h'.Ns X.env.locals m) (hok:HOk X.prog X.w H' h') (D:AllBare g') :
 Inv X pins σ H' {s with heap:=h',gens:=g',drawn:=d',toks:=t'}:=by
 have S:∀b o,X.s₀.heap.get? b=some o->b≠X.env.locals:=λb o e=>aZ (bT (Heap.lt_size e) I.ok.above)
 have W:∀b o,X.s₀.heap.get? b=some o->b∉X.ex->b∉ch:=λb o e Z V=>by
  rcases(B b V).1 with z|z
  ·exact Z z
  ·exact absurd (bT (Heap.lt_size e) z) (eE _)
 have cellK:∀x c,X.env.cells.lookup x=some c->∀v,s.heap.IsCell c v->h'.IsCell c v:=λx c e v ⟨o,T,hd⟩=>by
  have Y:c∉ch:=λz=>(B c z).2.2.1 x c e rfl
  by_cases N:c∈X.fs
  ·obtain⟨sl,q⟩:=slot c o (I.cne x c e) N Y T (I.freeC x c e)
   exact⟨_,q,hd⟩
  ·exact⟨o,keep c o (I.cne x c e) N Y T (I.freeC x c e),hd⟩
 refine⟨I.ok,I.os,D,⟨λb o e n V Z=>?_,λb o e n V Z=>?_,λb o e n Z=>?_,λb o e Z=>?_,λb xs e=>tups b xs (I.base.tups b xs e),λb o xs e=>frzs b o xs (I.base.frzs b o xs e),λb q p e=>tbls b q p (I.base.tbls b q p e)⟩,?_,λx c e=>?_,?_,λx c e=>?_,λp O=>?_,hok,I.len⟩
 ·exact keep b o (S b o e) V (W b o e Z) (I.base.keep b o e n V Z) (I.base.free b o e n Z)
 ·obtain⟨sl,U⟩:=I.base.slot b o e n V Z
  obtain⟨R,Q⟩:=slot b _ (S b o e) V (W b o e Z) U (I.base.free b o e n Z)
  exact⟨R,Q⟩
 ·obtain⟨o',U⟩:=I.base.there b o e Z
  exact free b o' (W b o e Z) U (I.base.free b o e n Z)
 ·obtain⟨o',U⟩:=I.base.there b o e Z
  exact there b o' (W b o e Z) U
 ·obtain⟨m,hn,M⟩:=I.loc
  refine⟨m,ns m hn,λi x v U Q L=>?_⟩
  obtain⟨u,r,l⟩:=M i x v U Q L
  refine⟨u,r,?_⟩
  rcases l with l|⟨k,c,e,z⟩
  ·exact .inl l
  ·exact .inr ⟨k,c,e,cellK x c e _ z⟩
 ·obtain⟨v,z⟩:=I.cell x c e
  exact⟨v,cellK x c e v z⟩
 ·obtain⟨m,⟨o,_,_,T,_⟩,_⟩:=I.loc
  exact free _ o (λz=>(B _ z).2.1 rfl) T I.free
 ·obtain⟨v,o,T,hd⟩:=I.cell x c e
  exact free c o (λz=>(B c z).2.2.1 x c e rfl) T (I.freeC x c e)
 ·obtain⟨e,n,ne,P,d⟩:=I.pin p O
  have Y:p.1∉ch:=λz=>(B p.1 z).2.2.2 p O rfl
  exact⟨keep p.1 p.2 ne P Y e n,free p.1 p.2 Y e n,ne,P,d⟩
theorem Inv.un(I:Inv X pins σ H s)(u:Un X.fs [] H H' s.heap h')(hok:HOk X.prog X.w H' h'):Inv X pins σ H' {s with heap:=h',toks:=t'}:=by
 obtain⟨m,⟨o,es,ep,U,r⟩,_⟩:=id I.loc
 obtain⟨sl,T⟩:=u.any U I.free (by simp)
 exact I.step (g':=s.gens) (d':=s.drawn) (ch:=[]) (λ_ z=>nomatch z) (λb o _ Y _ e n=>u.keep b o e n Y (by simp)) (λb o _ Y _ e n=>u.slot b o e n Y (by simp)) (λb o _ e n=>u.free b o e n (by simp)) (λb o _ e=>u.there b o e (by simp)) u.tups u.frzs u.tbls (λS hm=>by
  obtain⟨o',W,V,Z,r'⟩:=hm
  rw[U]at Z;cases Z
  exact⟨_,W,V,T,r'⟩) hok I.bare
theorem Inv.call{g':Array GenState}{d':Drawn}(I:Inv X pins σ H s)(u:Un (frs X.stack) ch H H' s.heap h')(hok:HOk X.prog X.w H' h')(D:AllBare g')
 (B:∀b∈ch,(b∈X.ex\/X.s₀.heap.objs.size<=b)/\b≠X.env.locals/\(∀x c,X.env.cells.lookup x=some c->c≠b)/\∀p∈X.pn++pins,p.1≠b) :
 Inv X pins σ H' {s with heap:=h',gens:=g',drawn:=d',toks:=t'}:=by
 obtain⟨m,⟨o,es,ep,T,r⟩,_⟩:=id I.loc
 obtain⟨sl,W⟩:=u.any T I.free λz=>(B _ z).2.1 rfl
 exact I.step (ch:=ch) B (λb o W S Z e n=>u.keep b o e n (λz=>(aW.mp (I.stkSub b z)).elim W S) Z) (λb o _ _ Z e n=>u.any e n Z) (λb o Z e n=>u.free b o e n Z) (λb o Z e=>u.there b o e Z) u.tups u.frzs u.tbls (λR hm=>by
  obtain⟨o',V,U,Y,r'⟩:=hm
  rw[T]at Y;cases Y
  exact⟨_,V,U,W,r'⟩) hok D
theorem Inv.turned(I:Inv X pins σ H s)(k:∀b o,b≠it->s.heap.get? b=some o->h'.get? b=some o)(hn:H it=none)(B:it≠X.env.locals)
 (h1:it∈X.ex\/X.s₀.heap.objs.size<=it) (h2:∀x c,X.env.cells.lookup x=some c->c≠it) (D:∀p∈X.pn++pins,p.1≠it):Inv X pins σ H {s with heap:=h',toks:=t'}:=by
 have Y:∀b u,H b=some u->b≠it:=λb u e z=>by rw[z,hn]at e;cases e
 refine I.step (g':=s.gens) (d':=s.drawn) (ch:=[it]) (λb V=>?_) (λb o _ _ Z e _=>k b o (λz=>Z (by simp[z])) e) (λb o _ _ Z e _=>⟨o.slots,k b o (λz=>Z (by simp[z])) e⟩) (λ_ _ _ _ n=>n)
  (λb o Z e=>⟨o,k b o (λz=>Z (by simp[z])) e⟩) (λ_ _ e=>e) (λ_ _ _ e=>e) (λ_ _ _ e=>e) (λm hm=>?_) (λb u e=>?_) I.bare
 ·have e:b=it:=by simpa using V
  subst e
  exact⟨h1,B,h2,D⟩
 ·obtain⟨o,es,ep,W,r⟩:=hm
  exact⟨o,es,ep,k _ o (Ne.symm B) W,r⟩
 ·refine(I.hok b u e).stay (λc v Z q=>k c v ?_ q) (λ_ q=>q) λ_ _ q=>q
  rcases Z with z|z
  ·rw[z];exact Y b u e
  ·exact Y c _ z
theorem Inv.tok(I:Inv X pins σ H s)(t:Nat):Inv X pins σ H {s with toks:=t}:=I.un (h':=s.heap) (t':=t) Un.refl I.hok
theorem Inv.kept(I:Inv X pins σ H s)(k:∀b u,s.heap.get? b=some u->h'.get? b=some u):Inv X pins σ H {s with heap:=h',toks:=t'}:=I.un (Un.kept k) (I.hok.kept k)
theorem Inv.laid(I:Inv X pins σ H s)(k:∀b u,s.heap.get? b=some u->h'.get? b=some u)(D:s.heap.objs.size<=a)(B:gP X.prog X.w (upd H a o) h' a o):
 Inv X pins σ (upd H a o) {s with heap:=h',toks:=t'}:=I.un (Un.laid k D (I.hok.fresh D)) (I.hok.laid k D B)
theorem Inv.write{x e:Addr}(I:Inv X pins σ H s)(J:Mut (H x))(O:e=x\/H e=some (.own x))(k:∀b u,b≠e->s.heap.get? b=some u->h'.get? b=some u)(B:∃u,h'.get? e=some u)
 (D:gP X.prog X.w (upd H x o) h' x o):Inv X pins σ (upd H x o) {s with heap:=h',toks:=t'}:=I.un (Un.write J O k B) (I.hok.write J O k B D)
theorem Inv.pins_of{pins':List (Addr×Obj)}(I:Inv X pins σ H s)(h:∀p∈pins',s.heap.get? p.1=some p.2/\H p.1=none/\p.1≠X.env.locals/\p.1∉X.fs/\∀v,p.2.data ≠ .cell v):Inv X pins' σ H s:=
 ⟨I.ok,I.os,I.bare,I.base,I.loc,I.cell,I.free,I.freeC,λp Z=>(bW.mp Z).elim (λz=>I.pin p (cg _ z)) (h p),I.hok,I.len⟩
theorem BK(B:N.Nodup){i j:Nat}{x:Str}(a:N[i]? = some x)(b:N[j]? = some x):i=j:=by
 obtain⟨h1,Y⟩:=cY.mp a
 obtain⟨h2,Z⟩:=cY.mp b
 exact(List.getElem_inj B).mp (Y.trans Z.symm)
theorem Ie{u:Value}{Q:Unit->Shared->Prop}(I:Inv X pins σ H s)(hN:X.N.Nodup)(hi:X.N[i]? = some x)(B:Loc X.env.scope x)(r:RelV v u)
 (h:∀s',Inv X pins (σ.set i (some v)) H s'->(∃a,Heap.SameBut a s.heap s'.heap/\(a=X.env.locals\/X.env.cells.lookup x=some a))->Q () s') (hf:X.fn x=true\/X.env.scope.names.lookup x=some .local:=by first|exact .inl rfl|exact .inr rfl|assumption):wpAny M A (storeName X.env x u) Q E s:=by
 obtain⟨m,hn,hl⟩:=id I.loc
 have K:(X.env.scope.kind == .class||(X.env.scope.kind == .module&&X.env.locals != X.env.globals))=false:=by rw[I.ok.kind];rfl
 have T:i<σ.length:=by rw[I.len];exact(cY.mp hi).1
 have cne:=I.cne
 have tracked:∀{a:Addr}{h':Heap},(∃o,s.heap.get? a=some o/\H a=none)->Heap.SameBut a s.heap h'->HOk X.prog X.w H h':=λ{a h'} ha hs b ob e=>by
  obtain⟨_,_,W⟩:=ha
  refine(I.hok b ob e).stay (λc F Y q=>(hs.2 c ?_).trans q) (λ_ q=>q) λ_ _ q=>q
  rintro rfl
  rcases Y with rfl|Y
  ·rw[W]at e;cases e
  ·rw[W]at Y;cases Y
 rcases B with U|U
 ·refine wpAny_storeName_local U hn (λh' f hs=>?_) K
  obtain⟨oL,_,_,g,_⟩:=id hn
  refine h _ ⟨I.ok,I.os,I.bare,⟨λb o e n P B=>?_,λb o e n P B=>?_,I.base.free,λb o e B=>?_,I.base.tups,I.base.frzs,I.base.tbls⟩,⟨_,f,λj y D Z V e3=>?_⟩,λy c e=>?_,I.free,I.freeC,λp l=>?_,tracked ⟨oL,g,I.free⟩ hs,by simpa using I.len⟩ ⟨_,hs,.inl rfl⟩
  ·exact(hs.2 b (aZ (bT (Heap.lt_size e) I.ok.above))).trans (I.base.keep b o e n P B)
  ·obtain⟨sl,Z⟩:=I.base.slot b o e n P B
   exact⟨sl,(hs.2 b (aZ (bT (Heap.lt_size e) I.ok.above))).trans Z⟩
  ·obtain⟨o',Z⟩:=I.base.there b o e B
   exact⟨o',(hs.2 b (aZ (bT (Heap.lt_size e) I.ok.above))).trans Z⟩
  ·by_cases S:j=i
   ·subst S
    rw[hi]at Z;cases Z
    rw[cZ T]at V
    cases V
    exact⟨u,r,.inl ⟨U,by simp⟩⟩
   ·rw[bI (Ne.symm S)]at V
    obtain⟨C,r',q⟩:=hl j y D Z V e3
    refine⟨C,r',?_⟩
    rcases q with⟨k,e⟩|⟨k,c,e,z⟩
    ·refine .inl ⟨k,?_⟩
     have:y≠x:=λe=>S (BK hN Z (e▸hi))
     simp[this,e]
    ·exact .inr ⟨k,c,e,z.sameBut hs (cne y c e)⟩
  ·obtain⟨F,z⟩:=I.cell y c e
   exact⟨F,z.sameBut hs (cne y c e)⟩
  ·obtain⟨e,n,ne,t,d⟩:=I.pin p l
   exact⟨(hs.2 p.1 ne).trans e,n,ne,t,d⟩
 ·have R:X.fn x=true:=by
   rcases hf with z|z
   ·exact z
   ·rw[z]at U;cases U
  obtain⟨c,Y⟩:=I.ok.has x (.inl U)
  obtain⟨F,z⟩:=I.cell x c Y
  refine wpAny_storeName_cell I.ok.kind U Y z (λh' G hs=>?_)
  obtain⟨oc,L,O⟩:=id z
  refine h {s with heap:=h'} ⟨I.ok,I.os,I.bare,⟨λb o e n P B=>?_,λb o e n P B=>?_,I.base.free,λb o e B=>?_,I.base.tups,I.base.frzs,I.base.tbls⟩,⟨m,hn.sameBut hs (Ne.symm (cne x c Y)),λj y D Z V e3=>?_⟩,λy c' e=>?_,I.free,I.freeC,λp l=>?_,tracked ⟨oc,L,I.freeC x c Y⟩ hs,by simpa using I.len⟩ ⟨c,hs,.inr Y⟩
  ·exact(hs.2 b (aZ (bT (Heap.lt_size e) (I.ok.cab x c R Y)))).trans (I.base.keep b o e n P B)
  ·obtain⟨sl,Z⟩:=I.base.slot b o e n P B
   exact⟨sl,(hs.2 b (aZ (bT (Heap.lt_size e) (I.ok.cab x c R Y)))).trans Z⟩
  ·obtain⟨o',Z⟩:=I.base.there b o e B
   exact⟨o',(hs.2 b (aZ (bT (Heap.lt_size e) (I.ok.cab x c R Y)))).trans Z⟩
  ·by_cases S:j=i
   ·subst S
    rw[hi]at Z;cases Z
    rw[cZ T]at V
    cases V
    exact⟨u,r,.inr ⟨.inl U,c,Y,G⟩⟩
   ·rw[bI (Ne.symm S)]at V
    obtain⟨C,r',q⟩:=hl j y D Z V e3
    refine⟨C,r',?_⟩
    rcases q with q|⟨k,c',e,z'⟩
    ·exact .inl q
    ·refine .inr ⟨k,c',e,z'.sameBut hs ?_⟩
     rintro rfl
     exact S (BK hN Z (I.ok.inj _ _ _ e Y▸hi))
  ·by_cases J:c'=c
   ·subst J;exact⟨_,G⟩
   ·obtain⟨w2,z2⟩:=I.cell y c' e
    exact⟨w2,z2.sameBut hs J⟩
  ·obtain⟨e,n,ne,t,d⟩:=I.pin p l
   refine⟨(hs.2 p.1 ?_).trans e,n,ne,t,d⟩
   intro q
   rw[q,L]at e
   have q':oc=p.2:=cQ.inj e
   exact d F (by rw[<-q'];exact O)
theorem BL{u:Value}{Q:Unit->Shared->Prop}(I:Inv X pins σ H s)(J:X.N.Nodup)(hi:X.N[i]? = some x)(B:Loc X.env.scope x)(r:RelV v u)
 (h:∀s',Inv X pins (σ.set i (some v)) H s'->Q () s') (D:X.fn x=true\/X.env.scope.names.lookup x=some .local:=by first|exact .inl rfl|exact .inr rfl|assumption):wpAny M A (storeName X.env x u) Q E s:=
 Ie I J hi B r (λs' Z _=>h s' Z) D
end
noncomputable abbrev XK:=Value->Option Addr->Hp->Prop
noncomputable abbrev St:=List (Option V)
noncomputable abbrev VK:=V->Hp->Prop
noncomputable abbrev TE:=St->Hp->VK->Prop
noncomputable abbrev TT:=St->Hp->(Bool->Hp->Prop)->Prop
noncomputable abbrev TA:=St->Hp->(List V->Hp->Prop)->Prop
structure Ends where
 nx:St->Hp->Prop
 rt:VK
 bk:St->Hp->Prop:=λ_ _=>False
 ct:St->Hp->Prop:=λ_ _=>False
noncomputable abbrev TS:=Ends->St->Hp->Prop
noncomputable def EP(X:Cx)(pins:List (Addr×Obj))(σ:St)(Q:VK)(u:Value)(s':Shared):Prop:=∃v H',Inv X pins σ H' s'/\RelV v u/\Q v H'
noncomputable def TP(X:Cx)(pins:List (Addr×Obj))(σ:St)(Q:Bool->Hp->Prop)(b:Bool)(s':Shared):Prop:=∃H',Inv X pins σ H' s'/\Q b H'
noncomputable def AP(X:Cx)(pins:List (Addr×Obj))(σ:St)(Q:List V->Hp->Prop)(us:List Value)(s':Shared):Prop:=∃vs H',Inv X pins σ H' s'/\Vals vs us/\Q vs H'
noncomputable def SP(X:Cx)(pins:List (Addr×Obj))(D:Ends)(f:Flow)(s':Shared):Prop:=
 match f with
 | .next=>∃σ' H',Inv X pins σ' H' s'/\D.nx σ' H'
 | .brk=>∃σ' H',Inv X pins σ' H' s'/\D.bk σ' H'
 | .cont=>∃σ' H',Inv X pins σ' H' s'/\D.ct σ' H'
 | .ret u=>∃v σ' H',Inv X pins σ' H' s'/\RelV v u/\D.rt v H'
noncomputable def PE(X:Cx)(e:Expr)(t:TE):Prop:=
 ∀(pins:List (Addr×Obj))(s:Shared)(σ:St)(H:Hp)(Q:VK),Inv X pins σ H s->t σ H Q->wpAny (model X.prog X.w) X.A (eval e X.env) (EP X pins σ Q) X.xe s
noncomputable def PT(X:Cx)(e:Expr)(t:TT):Prop:=
 ∀(pins:List (Addr×Obj))(s:Shared)(σ:St)(H:Hp)(Q:Bool->Hp->Prop),Inv X pins σ H s->t σ H Q->wpAny (model X.prog X.w) X.A (isTrue e X.env (eval e X.env)) (TP X pins σ Q) X.xe s
noncomputable def PW(X:Cx)(e:Expr)(t:TT):Prop:=
 ∀(whole:Sem Value)(pins:List (Addr×Obj))(s:Shared)(σ:St)(H:Hp)(Q:Bool->Hp->Prop),Inv X pins σ H s->t σ H Q->wpAny (model X.prog X.w) X.A (isTrue e X.env whole) (TP X pins σ Q) X.xe s
theorem PW.pt{X:Cx}{t:TT}(h:PW X e t):PT X e t:=h _
noncomputable def PA(X:Cx)(es:List Expr)(t:TA):Prop:=
 ∀(pos:Pos)(pins:List (Addr×Obj))(s:Shared)(σ:St)(H:Hp)(Q:List V->Hp->Prop),Inv X pins σ H s->t σ H Q->wpAny (model X.prog X.w) X.A (spliced (backTo pos (starEach es X.env))) (AP X pins σ Q) X.xe s
noncomputable def PS(X:Cx)(st:Stmt)(t:TS):Prop:=
 ∀(pins:List (Addr×Obj))(s:Shared)(σ:St)(H:Hp)(D:Ends),Inv X pins σ H s->t D σ H->wpAny (model X.prog X.w) X.A (exec st X.env) (SP X pins D) X.xe s
noncomputable def PSs(X:Cx)(st:List Stmt)(t:TS):Prop:=
 ∀(pins:List (Addr×Obj))(s:Shared)(σ:St)(H:Hp)(D:Ends),Inv X pins σ H s->t D σ H->wpAny (model X.prog X.w) X.A (execs st X.env) (SP X pins D) X.xe s
theorem thn{α:Type}{t:Sem α}{Q B:α->Shared->Prop}(h:wpAny M A t Q E s)(D:∀a s,Q a s->B a s):wpAny M A t B E s:=wpAny_mono h D λ_ _ x=>x
end L2
variable{pos:Pos}{pins:List (Addr×Obj)}{H:L2.Hp}{Q:Value->Shared->Prop}{op:CmpOp}
namespace L2
open PySem PySem.Spec PyProof.Rows
section
variable{X:Cx}
noncomputable def YW(i:Nat):TE:=λσ H Q=>∃v,σ[i]? = some (some v)/\Q v H
noncomputable def tC(v:V):TE:=λ_ H Q=>Q v H
theorem pX(J:X.N[i]? = some x)(D:Vis X.env.scope x)(hd:(x==("__debug__":Str))=false:=by decide)(B:(x==("__classdict__":Str))=false:=by decide):PE X (.Name x pos) (YW i):=by
 intro pins s σ H Q I h
 obtain⟨v,e,h⟩:=h
 obtain⟨m,hn,V⟩:=I.loc
 obtain⟨u,r,l⟩:=V i x v J e D
 have fin:EP X pins σ Q u s:=⟨v,H,I,r,h⟩
 rcases l with⟨Y,hm⟩|⟨Y,c,W,Z⟩
 ·exact wpAny_Name (wpAny_loadName_local I.ok.kind Y hn hm fin) hd
 ·rcases Y with Y|Y
  ·exact wpAny_Name (wpAny_loadName_cell I.ok.kind Y W Z fin) hd
  ·exact wpAny_Name (wpAny_loadName_free I.ok.kind Y W Z fin B) hd
theorem S8{i j pos}:PE X (.Constant (.int i) j pos) (tC (.int i)):=λ_ _ _ H _ I h=>wpAny_Constant_int ⟨.int i,H,I.tok _,⟨_,rfl⟩,h⟩
theorem Wc{b j pos}:PE X (.Constant (.bool b) j pos) (tC (.bl b)):=λ_ _ _ H _ I h=>Constant_bool ⟨.bl b,H,I,rfl,h⟩
theorem S9{j pos}:PE X (.Constant .none j pos) (tC .non):=λ_ _ _ H _ I h=>Constant_none ⟨.non,H,I,rfl,h⟩
theorem S_{x j pos}:PE X (.Constant (.str x) j pos) (tC (.str x)):=λ_ _ _ H _ I h=>Calls.Constant_str ⟨.str x,H,I.tok _,⟨_,rfl⟩,h⟩
noncomputable def Gl(X:Cx)(x:Str):Prop:=X.env.kindOf x=some .globalImplicit
theorem Gg{σ:St}{u:Value}(I:Inv X pins σ H s)(B:Gl X x)(hm:X.mg x=some u)(h:Q u s)
 (hd:(x==("__debug__":Str))=false:=by decide):wpAny (model X.prog X.w) X.A (eval (.Name x pos) X.env) Q E s:=
 Calls.Name_function_global I.ok.kind B (Calls.loadGlobal_global (by rw[I.ok.glob];exact I.mod.glob.keeps I.bk) hm h) hd
theorem mq{σ:St}{u:Value}(I:Inv X pins σ H s)(D:Gl X x)(hm:X.mg x=none)(B:bootBuiltins x=some u)(h:Q u s)
 (hn:x≠"__name__" := by decide) (hd:(x==("__debug__":Str))=false:=by decide):wpAny (model X.prog X.w) X.A (eval (.Name x pos) X.env) Q E s:=by
 obtain⟨Z,h1,h2⟩:=I.mod.blt
 exact Calls.Name_function_global I.ok.kind D (Calls.loadGlobal_builtin (by rw[I.ok.glob];exact I.mod.glob.keeps I.bk) hm (by rw[I.ok.blt];exact h1.keeps I.bk) ((h2 x hn).trans B) h) hd
theorem Ou{u:Value}(B:Gl X x)(hm:X.mg x=some u)(r:RelV v u)(hd:(x==("__debug__":Str))=false:=by decide):PE X (.Name x pos) (tC v):=
 λ_ _ _ H _ I h=>Gg I B hm ⟨v,H,I,r,h⟩ hd
theorem Ov{u:Value}(D:Gl X x)(hm:X.mg x=none)(B:bootBuiltins x=some u)(r:RelV v u)(hn:x≠"__name__" := by decide)(hd:(x==("__debug__":Str))=false:=by decide):PE X (.Name x pos) (tC v):=
 λ_ _ _ H _ I h=>mq I D hm B ⟨v,H,I,r,h⟩ hn hd
variable{a b:Expr}{ta tb:TE}{pos:Pos}
noncomputable def PC(X:Cx)(op:CmpOp)(a b:Expr)(t:TE):Prop:=
 ∀(pins:List (Addr×Obj))(s:Shared)(σ:St)(H:Hp)(Q:VK),Inv X pins σ H s->t σ H Q ->
  wpAny (model X.prog X.w) X.A (eval a X.env) (λv Y=>wpAny (model X.prog X.w) X.A (eval b X.env) (λu Z=>wpAny (model X.prog X.w) X.A (compareOp op v u) (EP X pins σ Q) X.xe Z) X.xe Y) X.xe s
theorem JZ(b:Expr){op:CmpOp}(h:op ≠ .In)(h2:op ≠ .NotIn):behindInMarks op b=false:=by
 have Y:(op==CmpOp.In)=false:=by cases op<;>first|rfl|exact absurd rfl h
 have Z:(op==CmpOp.NotIn)=false:=by cases op<;>first|rfl|exact absurd rfl h2
 cases b<;>simp[behindInMarks,Y,Z]
noncomputable def YX(ta:TE):TE:=λσ H Q=>ta σ H λx H1=>Q (.bl (decide (x = .non))) H1
noncomputable def Wd(ta:TE):TE:=λσ H Q=>ta σ H λx H1=>Q (.bl (!decide (x = .non))) H1
theorem RelV.none_iff{x:V}{v:Value}(r:RelV x v):(v==Value.none)=decide (x = .non):=by
 cases x with
 |non=>cases r;rfl
 |bl _=>cases r;rfl
 |int _=>obtain⟨t,rfl⟩:=r;rfl
 |str _=>obtain⟨t,rfl⟩:=r;rfl
 |byt _=>obtain⟨t,rfl⟩:=r;rfl
 |flt _=>obtain⟨t,rfl⟩:=r;rfl
 |ref _=>cases r;rfl
 |ty _=>cases r;rfl
theorem Tc{j pos'}(ha:PE X a ta):PC X .Is a (.Constant .none j pos') (YX ta):=by
 intro pins s σ H Q I h
 refine thn (ha pins s σ H _ I h) λv s1 ⟨x,H1,Y,Z,q1⟩=>?_
 exact Constant_none (is_none_gen ⟨.bl _,H1,Y,by rw[Z.none_iff];rfl,q1⟩)
theorem Ox{j pos'}(ha:PE X a ta):PC X .IsNot a (.Constant .none j pos') (Wd ta):=by
 intro pins s σ H Q I h
 refine thn (ha pins s σ H _ I h) λv s1 ⟨x,H1,Y,Z,q1⟩=>?_
 exact Constant_none (isnot_none_gen ⟨.bl _,H1,Y,by rw[Z.none_iff];rfl,q1⟩)
noncomputable def tB(t:TE):TT:=λσ H Q=>t σ H λx H1=>∃c,x = .bl c/\Q c H1
theorem J0{t:TE}(h:PC X op a b t)(h1:behindInMarks op b=false:=by first|exact JZ _ (by decide) (by decide)|rfl):PT X (.Compare a [op] [b] pos) (tB t):=by
 intro pins s σ H Q I hw
 refine wpAny_isTrue_Compare1 (thn (h pins s σ H _ I hw) λv s1 h1=>thn h1 λu s2 h2=>thn h2 λc s3 ⟨x,H1,Y,Z,q1⟩=>?_) h1
 obtain⟨d,rfl,q⟩:=q1
 cases Z
 exact wpAny_truthy_bool ⟨H1,Y,q⟩
theorem Te{t:TE}(h:PE X e t)(B:∀whole,isTrue e X.env whole=(do let v <-whole;standAt e.pos;holding [v] (truthy v)):=by intro _;rfl):PT X e (tB t):=by
 intro pins s σ H Q I hw
 refine isTrue_plain (thn (h pins s σ H _ I hw) λv s1 ⟨x,H1,Y,Z,q1⟩=>?_) (B _)
 obtain⟨d,rfl,q⟩:=q1
 cases Z
 exact wpAny_truthy_bool ⟨H1,Y,q⟩
variable{tA tB':TT}{rest:List Expr}
noncomputable def oE(t u:TT):TT:=λσ H Q=>t σ H λc H1=>if c=true then u σ H1 Q else Q false H1
noncomputable def tOr(t u:TT):TT:=λσ H Q=>t σ H λc H1=>if c=true then Q true H1 else u σ H1 Q
noncomputable def jk(t:TT):TT:=λσ H Q=>t σ H λc H1=>Q (!c) H1
theorem Oz(ha:PT X a tA):PW X (.BoolOp .And [a] pos) tA:=by
 intro wh pins s σ H Q I h
 refine isTrue_and (thn (ha pins s σ H Q I h) λc s1 e=>?_)
 cases c with
 |true=>exact isTrue_and_nil e
 |false=>exact e
theorem Tf(ha:PT X a tA):PW X (.BoolOp .Or [a] pos) tA:=by
 intro wh pins s σ H Q I h
 refine isTrue_or (thn (ha pins s σ H Q I h) λc s1 e=>?_)
 cases c with
 |false=>exact isTrue_or_nil e
 |true=>exact e
theorem Tg(ha:PT X a tA)(B:PW X (.BoolOp .And (b::rest) pos) tB'):PW X (.BoolOp .And (a::b::rest) pos) (oE tA tB'):=by
 intro wh pins s σ H Q I h
 refine isTrue_and (thn (ha pins s σ H _ I h) λc s1 ⟨H1,Z,q1⟩=>?_)
 cases c with
 |true=>exact B wh pins s1 σ H1 Q Z q1
 |false=>exact⟨H1,Z,q1⟩
theorem Wf(ha:PT X a tA)(B:PW X (.BoolOp .Or (b::rest) pos) tB'):PW X (.BoolOp .Or (a::b::rest) pos) (tOr tA tB'):=by
 intro wh pins s σ H Q I h
 refine isTrue_or (thn (ha pins s σ H _ I h) λc s1 ⟨H1,Z,q1⟩=>?_)
 cases c with
 |true=>exact⟨H1,Z,q1⟩
 |false=>exact B wh pins s1 σ H1 Q Z q1
theorem Ti(ha:PT X a tA):PT X (.UnaryOp .Not a pos) (jk tA):=by
 intro pins s σ H Q I h
 exact isTrue_not (ha pins s σ H (λc H1=>Q (!c) H1) I h)
noncomputable def Wg(ta tb:TE):TE:=λσ H Q=>ta σ H λx H1=>∃c,x = .bl c/\if c=true then tb σ H1 Q else Q (.bl false) H1
noncomputable def YZ(ta tb:TE):TE:=λσ H Q=>ta σ H λx H1=>∃c,x = .bl c/\if c=true then Q (.bl true) H1 else tb σ H1 Q
noncomputable def Wh(ta:TE):TE:=λσ H Q=>ta σ H λx H1=>∃c,x = .bl c/\Q (.bl (!c)) H1
theorem Tj{op}{t:TE}(h:PE X a t):PE X (.BoolOp op [a] pos) t:=λpins s σ H Q I hw=>BoolOp_one (h pins s σ H Q I hw)
theorem Tp(ha:PE X a ta)(B:PE X (.BoolOp .And (b::rest) pos) tb):PE X (.BoolOp .And (a::b::rest) pos) (Wg ta tb):=by
 intro pins s σ H Q I h
 refine BoolOp_and (thn (ha pins s σ H _ I h) λv s1 ⟨x,H1,Z,Y,q1⟩=>?_)
 obtain⟨c,rfl,q1⟩:=q1
 cases Y
 refine wpAny_truthy_bool ?_
 cases c with
 |true=>exact B pins s1 σ H1 Q Z q1
 |false=>exact⟨.bl false,H1,Z,rfl,q1⟩
theorem Wj(ha:PE X a ta)(B:PE X (.BoolOp .Or (b::rest) pos) tb):PE X (.BoolOp .Or (a::b::rest) pos) (YZ ta tb):=by
 intro pins s σ H Q I h
 refine BoolOp_or (thn (ha pins s σ H _ I h) λv s1 ⟨x,H1,Z,Y,q1⟩=>?_)
 obtain⟨c,rfl,q1⟩:=q1
 cases Y
 refine wpAny_truthy_bool ?_
 cases c with
 |false=>exact B pins s1 σ H1 Q Z q1
 |true=>exact⟨.bl true,H1,Z,rfl,q1⟩
theorem Tq(ha:PE X a ta):PE X (.UnaryOp .Not a pos) (Wh ta):=by
 intro pins s σ H Q I h
 refine UnaryOp_ (thn (ha pins s σ H _ I h) λv s1 ⟨x,H1,Y,Z,q1⟩=>?_)
 obtain⟨c,rfl,q1⟩:=q1
 cases Z
 exact not_of (wpAny_truthy_bool ⟨.bl (!c),H1,Y,rfl,q1⟩)
noncomputable def tIf(t:TT)(ta tb:TE):TE:=λσ H Q=>t σ H λc H1=>if c=true then ta σ H1 Q else tb σ H1 Q
theorem J1{c:Expr}(B:PT X c tA)(ha:PE X a ta)(D:PE X b tb):PE X (.IfExp c a b pos) (tIf tA ta tb):=by
 intro pins s σ H Q I h
 refine wpAny_IfExp (thn (B pins s σ H _ I h) λd s1 ⟨H1,Z,q1⟩=>?_)
 cases d with
 |true=>exact ha pins s1 σ H1 Q Z q1
 |false=>exact D pins s1 σ H1 Q Z q1
end
end L2
variable{y:L2.V}{K:PySem.W.Frag}{X:L2.Cx}{es:List Expr}{n:Nat}{tg:Expr}{pos':Pos}{H':L2.Hp}
namespace L2
open PySem PySem.Spec PyProof.Rows
noncomputable def SqL(K:PySem.W.Frag)(H:Hp)(a:Addr)(xs:List V):Prop:=
 Rd H a (.lst xs) \/
  ∃(o:Obj)(its:Array Value)(n:Nat),K.lookup a=some o/\o.cls = .type "list"/\o.dict=none/\o.data = .seq its n/\its.size<=sizeLine/\Vals xs its.toList
noncomputable def SqT(K:PySem.W.Frag)(H:Hp)(a:Addr)(xs:List V):Prop:=
 Rd H a (.tup xs) \/
  ∃(o:Obj)(its:Array Value)(n:Nat),K.lookup a=some o/\o.cls = .type "tuple"/\o.data = .seq its n/\its.size<=sizeLine/\Vals xs its.toList
noncomputable def Y0:Value->Option V
 | .none=>some .non
 | .bool b=>some (.bl b)
 | .int i _=>some (.int i)
 | .str x _=>some (.str x)
 | .bytes b _=>some (.byt b)
 | .float b _=>some (.flt b)
 | .ref a=>some (.ref a)
 | .type n=>some (.ty n)
 |_=>none
theorem RelV.abs{x:V}{u:Value}(r:RelV x u):Y0 u=some x:=by
 cases x with
 |non=>cases r;rfl
 |bl _=>cases r;rfl
 |int _=>obtain⟨t,rfl⟩:=r;rfl
 |str _=>obtain⟨t,rfl⟩:=r;rfl
 |byt _=>obtain⟨t,rfl⟩:=r;rfl
 |flt _=>obtain⟨t,rfl⟩:=r;rfl
 |ref _=>cases r;rfl
 |ty _=>cases r;rfl
theorem RelV.inj{x:V}{u:Value}(r:RelV x u)(q:RelV y u):x=y:=cQ.inj (r.abs.symm.trans q.abs)
theorem Vals.inj:∀{xs ys:List V}{us:List Value},Vals xs us->Vals ys us->xs=ys
 |_,_,_,.nil,.nil=>rfl
 |_,_,_,.cons r t,.cons r' t'=>by rw[r.inj r',Vals.inj t t']
section
variable{X:Cx}{pins:List (Addr×Obj)}{σ:St}{H:Hp}{s:Shared}{a:Addr}{xs ys:List V}
theorem SqL.of(h:H a=some (.lst xs)):SqL K H a xs:=.inl (.inl h)
theorem Inv.list(I:Inv X pins σ H s)(h:SqL X.K H a xs):∃its:List Value,Vals xs its/\PlainL s.heap a its.toArray/\xs.length<=sizeLine:=by
 rcases h with h|⟨o,its,n,Z,Y,hd,hs,W,r⟩
 ·obtain⟨z,its,n,r,e⟩:=h.ok I.hok
  exact⟨its,r,⟨_,n,e,rfl,rfl,rfl⟩,z⟩
 ·refine⟨its.toList,r,⟨o,n,I.kIn a o Z,Y,hd,by simpa using hs⟩,?_⟩
  have e:=r.length
  simp only[bx]at e
  omega
theorem Inv.tuple(I:Inv X pins σ H s)(h:SqT X.K H a xs):∃its:List Value,Vals xs its/\IsTup s.heap a its.toArray/\xs.length<=sizeLine:=by
 rcases h with h|⟨o,its,n,Z,Y,hs,W,r⟩
 ·obtain⟨z,its,r,p⟩:=h.ok I.hok
  exact⟨its,r,p,z⟩
 ·refine⟨its.toList,r,⟨o,I.kIn a o Z,Y,n,by simpa using hs⟩,?_⟩
  have e:=r.length
  simp only[bx]at e
  omega
theorem Inv.list_inj(I:Inv X pins σ H s)(h:SqL X.K H a xs)(h':SqL X.K H a ys):xs=ys:=by
 obtain⟨its,r,⟨o,n,e,_,_,d⟩,_⟩:=I.list h
 obtain⟨Z,r',⟨o',U,Y,_,_,W⟩,_⟩:=I.list h'
 rw[e]at Y;cases Y
 rw[d]at W
 injection W with V _
 have:its=Z:=by simpa using congrArg Array.toList V
 subst this
 exact r.inj r'
theorem Inv.tuple_inj(I:Inv X pins σ H s)(h:SqT X.K H a xs)(h':SqT X.K H a ys):xs=ys:=by
 obtain⟨its,r,⟨o,e,_,n,d⟩,_⟩:=I.tuple h
 obtain⟨Z,r',⟨o',Y,_,U,W⟩,_⟩:=I.tuple h'
 rw[e]at Y;cases Y
 rw[d]at W
 injection W with V _
 have:its=Z:=by simpa using congrArg Array.toList V
 subst this
 exact r.inj r'
end
noncomputable abbrev Cx.wish(X:Cx)(E:Value->Shared->Prop):Cx:={X with xe:=E}
noncomputable abbrev Cx.nox(X:Cx):Cx:=X.wish λ_ _=>False
theorem Cx.Ok.wish(ok:X.Ok)(E:Value->Shared->Prop):(X.wish E).Ok:=
 ⟨ok.mod,ok.kind,ok.glob,ok.blt,ok.above,ok.inj,ok.has,ok.cab,ok.hd,ok.frames,ok.stk,ok.exf,ok.bs,ok.bsz,ok.noex,ok.exfs,ok.funs,ok.frf⟩
theorem Cx.Ok.unwish(ok:(X.wish E).Ok):X.Ok:=
 ⟨ok.mod,ok.kind,ok.glob,ok.blt,ok.above,ok.inj,ok.has,ok.cab,ok.hd,ok.frames,ok.stk,ok.exf,ok.bs,ok.bsz,ok.noex,ok.exfs,ok.funs,ok.frf⟩
section
variable{X:Cx}{pins:List (Addr×Obj)}{σ:St}{H:Hp}{s:Shared}{E:Value->Shared->Prop}
theorem Inv.wish(I:Inv X pins σ H s)(E:Value->Shared->Prop):Inv (X.wish E) pins σ H s:=⟨I.ok.wish E,I.os,I.bare,I.base,I.loc,I.cell,I.free,I.freeC,I.pin,I.hok,I.len⟩
theorem Inv.unwish(I:Inv (X.wish E) pins σ H s):Inv X pins σ H s:=⟨I.ok.unwish,I.os,I.bare,I.base,I.loc,I.cell,I.free,I.freeC,I.pin,I.hok,I.len⟩
theorem SP.unwish{D:Ends}{f:Flow}{s':Shared}(h:SP (X.wish E) pins D f s'):SP X pins D f s':=by
 cases f with
 |next=>obtain⟨σ',H',I,q⟩:=h;exact⟨σ',H',I.unwish,q⟩
 |brk=>obtain⟨σ',H',I,q⟩:=h;exact⟨σ',H',I.unwish,q⟩
 |cont=>obtain⟨σ',H',I,q⟩:=h;exact⟨σ',H',I.unwish,q⟩
 |ret u=>obtain⟨v,σ',H',I,r,q⟩:=h;exact⟨v,σ',H',I.unwish,r,q⟩
theorem PSs.nox{st:List Stmt}{t:TS}(h:PSs X.nox st t):PSs X st t:=λpins s σ H D I hw=>
 wpAny_mono (h pins s σ H D (I.wish _) hw) (λ_ _ q=>q.unwish) λ_ _ z=>False.elim z
end
section
variable{X:Cx}{st:Stmt}{rest:List Stmt}{t u:TS}{e:Expr}{te:TE}{pos:Pos}
noncomputable def Wk:TS:=λD σ H=>D.nx σ H
noncomputable def Y4(t u:TS):TS:=λD σ H=>t {D with nx:=u D} σ H
theorem OD:PSs X [] Wk:=λ_ _ σ H _ I h=>wpAny_execs_nil ⟨σ,H,I,h⟩
theorem J2(h1:PS X st t)(h2:PSs X rest u):PSs X (st::rest) (Y4 t u):=by
 intro pins s σ H D I h
 refine wpAny_execs_cons (thn (h1 pins s σ H {D with nx:=u D} I h) λf s1 q=>?_)
 cases f with
 |next=>
  obtain⟨σ',H',Z,q⟩:=q
  exact h2 pins s1 σ' H' D Z q
 |ret v=>exact q
 |brk=>exact q
 |cont=>exact q
theorem OJ(h1:PS X st t):PSs X [st] t:=by
 intro pins s σ H D I h
 refine wpAny_execs_cons (thn (h1 pins s σ H D I h) λf s1 q=>?_)
 cases f with
 |next=>exact wpAny_execs_nil q
 |ret v=>exact q
 |brk=>exact q
 |cont=>exact q
theorem Inv.quiet{σ:St}(I:Inv X pins σ H s):interactive X.env=false:=by simp[interactive,I.ok.kind]
noncomputable def Wl(te:TE):TS:=λD σ H=>te σ H λ_ H1=>D.nx σ H1
theorem zT(B:PE X e te)(hs:swapsWith e none pos.line X.env=pure false:=by rfl):PS X (.Expr e pos) (Wl te):=by
 intro pins s σ H D I h
 exact wpAny_Expr_any (thn (B pins s σ H _ I h) λv s1 ⟨x,H1,Z,Y,q1⟩=>⟨σ,H1,Z,q1⟩) I.quiet hs
noncomputable def Y5(te:TE):TS:=λD σ H=>te σ H D.rt
theorem J3(B:PE X e te):PS X (.Return (some e) pos) (Y5 te):=by
 intro pins s σ H D I h
 exact wpAny_Return_some (thn (B pins s σ H _ I h) λv s1 ⟨x,H1,Y,Z,q1⟩=>⟨x,σ,H1,Y,Z,q1⟩)
noncomputable def Y6(c:TT)(t u:TS):TS:=λD σ H=>c σ H λb H1=>if b=true then t D σ H1 else u D σ H1
theorem Wm{c:Expr}{a b:List Stmt}{tc:TT}(B:PT X c tc)(ha:PSs X a t)(J:PSs X b u):PS X (.If c a b pos) (Y6 tc t u):=by
 intro pins s σ H D I h
 refine wpAny_If (thn (B pins s σ H _ I h) λd s1 ⟨H1,Z,q1⟩=>?_)
 cases d with
 |true=>exact ha pins s1 σ H1 D Z q1
 |false=>exact J pins s1 σ H1 D Z q1
noncomputable def Tr:TS:=λ_ _ _=>False
theorem J4:PS X st Tr:=λ_ _ _ _ _ _ h=>h.elim
end
noncomputable abbrev TG:=V->St->Hp->(St->Hp->Prop)->Prop
noncomputable abbrev TGs:=List V->St->Hp->(St->Hp->Prop)->Prop
noncomputable def PG(X:Cx)(target:Expr)(t:TG):Prop:=
 ∀(pins:List (Addr×Obj))(s:Shared)(σ:St)(H:Hp)(v:V)(u:Value)(Q:St->Hp->Prop),Inv X pins σ H s->RelV v u->t v σ H Q ->
  wpAny (model X.prog X.w) X.A (assign target X.env u) (λ_ s'=>∃σ' H',Inv X pins σ' H' s'/\Q σ' H') X.xe s
noncomputable def PGs(X:Cx)(ts:List Expr)(t:TGs):Prop:=
 ∀(pins:List (Addr×Obj))(s:Shared)(σ:St)(H:Hp)(vs:List V)(us:List Value)(Q:St->Hp->Prop),Inv X pins σ H s->Vals vs us->t vs σ H Q ->
  wpAny (model X.prog X.w) X.A (assignInOrder ((assignEach ts X.env).map (·.2)) us) (λ_ s'=>∃σ' H',Inv X pins σ' H' s'/\Q σ' H') X.xe s
noncomputable abbrev Tt:=V->V->V->Hp->(Hp->Prop)->Prop
noncomputable def Wn(X:Cx)(t:Tt):Prop:=
 ∀(pins:List (Addr×Obj))(s:Shared)(σ:St)(H:Hp)(o i v:V)(Z Y u:Value)(Q:Hp->Prop),Inv X pins σ H s->RelV o Z->RelV i Y->RelV v u->t o i v H Q ->
  wpAny (model X.prog X.w) X.A (setItem Z Y u) (λ_ s'=>∃H',Inv X pins σ H' s'/\Q H') X.xe s
section
variable{X:Cx}{pos:Pos}
noncomputable def R5(i:Nat):TG:=λv σ H Q=>Q (σ.set i (some v)) H
theorem O1(J:X.N.Nodup)(hi:X.N[i]? = some x)(B:Loc X.env.scope x)(D:X.fn x=true\/X.env.scope.names.lookup x=some .local:=by first|exact .inl rfl|exact .inr rfl|assumption):PG X (.Name x pos) (R5 i):=by
 intro pins s σ H v u Q I r h
 exact wpAny_assign_Name (BL I J hi B r (λs' Z=>⟨_,H,Z,h⟩) D)
noncomputable def Y7:TGs:=λvs σ H Q=>vs=[]/\Q σ H
noncomputable def Wo(t:TG)(u:TGs):TGs:=λvs σ H Q=>∃v r,vs=v::r/\t v σ H λσ' H'=>u r σ' H' Q
theorem O2:PGs X [] Y7:=by
 intro pins s σ H vs us Q I r h
 obtain⟨e,h⟩:=h
 subst e
 cases r
 exact assignInOrder_nil ⟨σ,H,I,h⟩
theorem J5{t:TG}{u:TGs}(h1:PG X e t)(h2:PGs X es u)
 (hs:(assignEach (e::es) X.env).map (·.2)=assign e X.env::(assignEach es X.env).map (·.2):=by rfl):PGs X (e::es) (Wo t u):=by
 intro pins s σ H vs us Q I r h
 obtain⟨v,U,W,h⟩:=h
 subst W
 cases r with
 |cons r Y=>
  rw[hs]
  refine assignInOrder_cons (thn (h1 pins s σ H _ _ _ I r h) λ_ s1 ⟨Z,H1,V,q1⟩=>?_)
  exact h2 pins s1 Z H1 _ _ Q V Y q1
noncomputable def Y8(K:PySem.W.Frag)(n:Nat)(t:TGs):TG:=λv σ H Q=>∃a xs,v = .ref a/\SqT K H a xs/\xs.length=n/\t xs σ H Q
theorem Tv{k:Nat}{t:TGs}(D:X.calm=true)(h:PGs X es t)
 (hn:(assignEach es X.env).length=n:=by rfl) (B:(assignEach es X.env).findIdx? (·.1)=none:=by rfl):PG X (.Tuple es k pos) (Y8 X.K n t):=by
 intro pins s σ H v u Q I r hw
 obtain⟨a,xs,T,V,U,hw⟩:=hw
 subst T
 cases r
 obtain⟨its,Z,W,R⟩:=I.tuple V
 refine assign_Tuple_tuple (I.ok.hd D) W (by simp[hn,<-U,Z.length]) B λh' Y=>?_
 have S:Inv X pins σ H {s with heap:=h'}:=I.kept (t':=s.toks) λb o e=>Y b o (aZ (Heap.lt_size e)) e
 exact h pins _ σ H xs _ Q S (by simpa using Z) hw
noncomputable def pY(to ti:TE)(t:Tt):TG:=λv σ H Q=>to σ H λo H1=>ti σ H1 λi H2=>t o i v H2 λZ=>Q σ Z
theorem Tw{o i:Expr}{to ti:TE}{t:Tt}(J:PE X o to)(hi:PE X i ti)(hs:Wn X t)
 (ha:∀v,assign (.Subscript o i pos) X.env v=(do
  let B <-holding [v] (eval o X.env)
  let D <-holding [v,B] (eval i X.env)
  standAt pos
  holding [v,B,D] (setItem B D v)
  release [v,B,D] []):=by intro _;rfl):PG X (.Subscript o i pos) (pY to ti t):=by
 intro pins s σ H v u Q I r h
 rw[ha]
 refine wpAny_bind (wpAny_holding (thn (J pins s σ H _ I h) λB s1 ⟨x,H1,T,Y,q1⟩=>?_))
 refine wpAny_bind (wpAny_holding (thn (hi pins s1 σ H1 _ T q1) λD s2 ⟨y,H2,U,Z,q2⟩=>?_))
 refine wpAny_bind (wpAny_standAt (wpAny_bind (wpAny_holding (thn (hs pins s2 σ H2 x y v B D u _ U Y Z r q2) λ_ s3 ⟨S,V,W⟩=>?_))))
 exact wpAny_release ⟨σ,S,V,W⟩
noncomputable def Wq(te:TE)(g:TG):TS:=λD σ H=>te σ H λx H1=>g x σ H1 D.nx
theorem J6{te:TE}{g:TG}(J:PE X e te)(B:PG X tg g)(hs:swapsWithSole [tg] e pos.line X.env=pure false:=by rfl)(hw:swappedStores [tg] e X.env=pure none:=by rfl)
 (h1:(assignEach [tg] X.env).map (·.2)=[assign tg X.env]:=by rfl):PS X (.Assign [tg] e pos) (Wq te g):=by
 intro pins s σ H D I h
 refine wpAny_Assign_stores (thn (J pins s σ H _ I h) λv s1 ⟨x,H1,Y,Z,q1⟩=>?_) hs hw
 rw[h1]
 exact thn (B pins s1 σ H1 x v _ Y Z q1) λ_ s2 q=>q
theorem Es{te:TE}(W:X.N.Nodup)(hi:X.N[i]? = some x)(B:Loc X.env.scope x)(O:PE X e te)(hs:swapsWith e (some (.Name x pos')) pos.line X.env=pure false:=by rfl)(J:X.fn x=true\/X.env.scope.names.lookup x=some .local:=by first|exact .inl rfl|exact .inr rfl|assumption):
 PS X (.Assign [.Name x pos'] e pos) (Wq te (R5 i)):=by
 intro pins s σ H D I h
 refine wpAny_Assign_Name (thn (O pins s σ H _ I h) λv s1 ⟨y,H1,V,Z,q1⟩=>?_) hs
 exact BL V W hi B Z (λs2 Y=>⟨_,H1,Y,q1⟩) J
end
section
variable{X:Cx}{pos:Pos}
end
structure It where
 go:Nat->Hp->Prop
 yld:Nat->Hp->V->Hp->Prop
 stop:Nat->Hp->Prop
noncomputable def ur(X:Cx)(pins:List (Addr×Obj))(H:Hp)(b:Addr):Prop:=
 H b=none/\b≠X.env.locals/\b∉X.fs/\(b∈X.ex\/X.s₀.heap.objs.size<=b)/\(∀x c,X.env.cells.lookup x=some c->c≠b)/\∀p∈X.pn++pins,p.1≠b
theorem Inv.fpOk{σ:St}(I:Inv X pins σ H s)(B:s.heap.objs.size<=b)(hn:H' b=none):ur X pins H' b:=by
 refine⟨hn,kJ (bT I.lt B),I.nofs B,.inr (bL I.sz B),λx c e z=>?_,λp Z z=>?_⟩
 ·obtain⟨v,q⟩:=I.cell x c e
  exact absurd (bT q.lt (by rw[z];exact B)) (eE _)
 ·exact absurd (bT (Heap.lt_size (I.pin p Z).1) (by rw[z];exact B)) (eE _)
structure Turn(P:Program)(w:World)(K:PySem.W.Frag)(tg:Expr)(J:It)(fp:List Addr)(it:Addr)(tn:Nat->Heap->Prop):Prop where
 mem:it∈fp
 obj:∀i h,tn i h->∀b∈fp,∃o,h.get? b=some o/\∀v,o.data ≠ .cell v
 keep:∀i h h',tn i h->(∀b∈fp,∀o,h.get? b=some o->h'.get? b=some o)->tn i h'
 item:∀(X:Cx),X.prog=P->X.w=w->X.K=K->X.calm=true->∀(i:Nat)(pins:List (Addr×Obj))(s:Shared)(σ:St)(H:Hp)(E:Value->Shared->Prop),Inv X pins σ H s->(∀b∈fp,ur X pins H b)->tn i s.heap->J.go i H ->
  wpAny (model P w) X.A (pyNext (.ref it)) (λr s1=>∃u,r=some u /\
   wpAny (model P w) X.A (letOwnedTupleGo tg (.ref it) u) (λ_ s2=>∃x H',Inv X pins σ H' s2/\RelV x u/\J.yld i H x H'/\tn (i+1) s2.heap/\∀b∈fp,H' b=none) E s1) E s
 done:∀(X:Cx),X.prog=P->X.w=w->X.K=K->X.calm=true->∀(i:Nat)(pins:List (Addr×Obj))(s:Shared)(σ:St)(H:Hp)(E:Value->Shared->Prop),Inv X pins σ H s->(∀b∈fp,ur X pins H b)->tn i s.heap->J.stop i H ->
  wpAny (model P w) X.A (pyNext (.ref it)) (λr s1=>r=none/\Inv X pins σ H s1) E s
 self:∀(A:Around)(i:Nat)(s:Shared)(Q:Value->Shared->Prop)(E:Value->Shared->Prop),tn i s.heap->Q (.ref it) s->wpAny (model P w) A (pyIter (.ref it)) Q E s
noncomputable abbrev TI:=St->Hp->(It->Hp->Prop)->Prop
noncomputable def PIE(X:Cx)(pins:List (Addr×Obj))(σ:St)(tg:Expr)(R:It->Hp->Prop)(B:Value)(s2:Shared):Prop:=
 ∃(it:Addr)(fp:List Addr)(tn:Nat->Heap->Prop)(J:It)(H':Hp),B = .ref it/\Inv X pins σ H' s2/\Turn X.prog X.w X.K tg J fp it tn/\tn 0 s2.heap/\(∀b∈fp,ur X pins H' b)/\R J H'
noncomputable def PI(X:Cx)(tg iter:Expr)(wi:TI):Prop:=
 ∀(pins:List (Addr×Obj))(s:Shared)(σ:St)(H:Hp)(R:It->Hp->Prop),Inv X pins σ H s->wi σ H R ->
  wpAny (model X.prog X.w) X.A (eval iter X.env) (λv s1=>wpAny (model X.prog X.w) X.A (pyIter v) (PIE X pins σ tg R) X.xe s1) X.xe s
theorem Gi{u:Value}{o:Obj}{n:String}{vs:Array Value}{Q:Unit->Shared->Prop}(D:s.heap.get? it=some o)(J:o.cls = .type n)(hd:o.data = .fields vs)
 (hn:["enumerate", "zip", "dict_itemiterator", "dict_reverseitemiterator", "odict_iterator", "itertools.zip_longest", "itertools.pairwise"].contains n=false) (B:Q () s):wpAny M A (letOwnedTupleGo tg (.ref it) u) Q E s:=by
 unfold letOwnedTupleGo
 cases tg<;>first
  |exact wpAny_pure B
  | (cases u<;>first
   |exact wpAny_pure B
   | (refine wpAny_bind (wpAny_load D ?_)
      rw[J,hd]
      show wpAny M A (if(["enumerate", "zip", "dict_itemiterator", "dict_reverseitemiterator", "odict_iterator", "itertools.zip_longest", "itertools.pairwise"].contains n&&vs[0]? == some (rawInt _))=true then _ else _) Q E s
      rw[if_neg (by intro h;rw[hn,Bool.false_and]at h;cases h)]
      exact wpAny_pure B))
noncomputable def Itl(K:PySem.W.Frag)(a:Addr):It:=
 ⟨λi H=>∃xs x,SqL K H a xs/\xs[i]? = some x,λi H x H'=>H'=H/\∀xs,SqL K H a xs->xs[i]? = some x,λi H=>∃xs,SqL K H a xs/\xs.length<=i⟩
noncomputable def Itt(K:PySem.W.Frag)(a:Addr):It:=
 ⟨λi H=>∃xs x,SqT K H a xs/\xs[i]? = some x,λi H x H'=>H'=H/\∀xs,SqT K H a xs->xs[i]? = some x,λi H=>∃xs,SqT K H a xs/\xs.length<=i⟩
noncomputable def Itr(lo:Int)(n:Nat):It:=⟨λi _=>i<n,λi H x H'=>H'=H/\x = .int (lo+i),λi _=>n<=i⟩
theorem Ig(a it:Addr):Turn P w K tg (Itl K a) [it] it (λi h=>h.IsListIter it a i) where
 mem:=by simp
 obj:=λi h st b Z=>by
  have e:b=it:=by simpa using Z
  subst e
  obtain⟨o,e,c,d⟩:=st
  exact⟨o,e,λv z=>by rw[d]at z;cases z⟩
 keep:=λi h h' st k=>st.at λo e=>k it (by simp) o e
 item:=by
  intro X S hw R M i pins s σ H E I W st T
  subst S hw R
  obtain⟨xs,x,Y,U⟩:=T
  obtain⟨its,V,p,G⟩:=I.list Y
  obtain⟨u,D,J⟩:=V.get U
  obtain⟨N,f1,f2,f3,O,Q⟩:=W it (by simp)
  refine wpAny_pyNext_list_item st p.isList (x:=u) (by simpa using D) λh' st' L=>?_
  have B:Inv X pins σ H {s with heap:=h'}:=I.turned (t':=s.toks) (λb o Z e=>(L.2 b Z).trans e) N f1 f3 O Q
  obtain⟨o,e,c,d⟩:=id st'
  exact⟨u,rfl,Gi (s:={s with heap:=h'}) e c d (by decide) ⟨x,H,B,J,⟨rfl,λys F=>by rw[I.list_inj F Y];exact U⟩,st',λb Z=>(W b Z).1⟩⟩
 done:=by
  intro X S hw R M i pins s σ H E I W st T
  subst S hw R
  obtain⟨xs,Y,U⟩:=T
  obtain⟨its,V,p,G⟩:=I.list Y
  obtain⟨N,f1,f2,f3,O,Q⟩:=W it (by simp)
  have A:=V.length
  exact wpAny_pyNext_list_end (I.ok.hd M) st p.isList (by simp;omega) λh' C=>⟨rfl,I.turned (t':=s.toks) (λb o Z e=>C b o Z e) N f1 f3 O Q⟩
 self:=λ_ _ _ _ _ st h=>wpAny_pyIter_listiter st h
theorem Et(a it:Addr):Turn P w K tg (Itt K a) [it] it (λi h=>h.IsTupleIter it a i) where
 mem:=by simp
 obj:=λi h st b Z=>by
  have e:b=it:=by simpa using Z
  subst e
  obtain⟨o,e,c,d⟩:=st
  exact⟨o,e,λv z=>by rw[d]at z;cases z⟩
 keep:=λi h h' st k=>st.at λo e=>k it (by simp) o e
 item:=by
  intro X S hw R M i pins s σ H E I W st T
  subst S hw R
  obtain⟨xs,x,Y,U⟩:=T
  obtain⟨its,V,p,G⟩:=I.tuple Y
  obtain⟨u,D,J⟩:=V.get U
  obtain⟨N,f1,f2,f3,O,Q⟩:=W it (by simp)
  refine wpAny_pyNext_tuple_item st (show s.heap.IsTuple a its.toArray from p) (x:=u) (by simpa using D) λh' st' L=>?_
  have B:Inv X pins σ H {s with heap:=h'}:=I.turned (t':=s.toks) (λb o Z e=>(L.2 b Z).trans e) N f1 f3 O Q
  obtain⟨o,e,c,d⟩:=id st'
  exact⟨u,rfl,Gi (s:={s with heap:=h'}) e c d (by decide) ⟨x,H,B,J,⟨rfl,λys F=>by rw[I.tuple_inj F Y];exact U⟩,st',λb Z=>(W b Z).1⟩⟩
 done:=by
  intro X S hw R M i pins s σ H E I W st T
  subst S hw R
  obtain⟨xs,Y,U⟩:=T
  obtain⟨its,V,p,G⟩:=I.tuple Y
  obtain⟨N,f1,f2,f3,O,Q⟩:=W it (by simp)
  have A:=V.length
  exact wpAny_pyNext_tuple_end (I.ok.hd M) st (show s.heap.IsTuple a its.toArray from p) (by simp;omega) λh' C=>⟨rfl,I.turned (t':=s.toks) (λb o Z e=>C b o Z e) N f1 f3 O Q⟩
 self:=λ_ _ _ _ _ st h=>wpAny_pyIter_tupleiter st h
theorem Eu(it:Addr)(lo:Int)(n:Nat):Turn P w K tg (Itr lo n) [it] it (λi h=>IsRangeIter h it (lo+(i:Nat)*1) ((n:Int)-(i:Nat)) 1) where
 mem:=by simp
 obj:=λi h st b Z=>by
  have e:b=it:=by simpa using Z
  subst e
  exact⟨_,st,λv z=>by
   have N:Data.fields _=Data.cell v:=z
   cases N⟩
 keep:=λi h h' st k=>k it (by simp) _ st
 item:=by
  intro X T hw S U i pins s σ H E I Y st V
  subst T hw S
  obtain⟨O,f1,f2,f3,Q,R⟩:=Y it (by simp)
  have W:=Walks.range (prog:=X.prog) (w:=X.w) (I.ok.hd U) it lo 1 n
  refine W.item i s _ _ V st λv h' tk L st' M=>?_
  obtain⟨t,rfl⟩:=L
  have G:Inv X pins σ H {s with heap:=h',toks:=tk}:=I.turned (λb o Z e=>M b o (by simpa using Z) e) O f1 f3 Q R
  refine⟨_,rfl,Gi (s:={s with heap:=h',toks:=tk}) (n := "range_iterator") st' rfl rfl (by decide) ⟨.int (lo+i),H,G,⟨t,?_⟩,⟨rfl,rfl⟩,st',λb Z=>(Y b Z).1⟩⟩
  rw[Int.mul_one]
 done:=by
  intro X T hw S U i pins s σ H E I Y st V
  subst T hw S
  obtain⟨O,f1,f2,f3,Q,R⟩:=Y it (by simp)
  exact wpAny_pyNext_range_end (I.ok.hd U) st (by have:n<=i:=V;omega) λh' J=>⟨rfl,I.turned (t':=s.toks) (λb o Z e=>J b o Z e) O f1 f3 Q R⟩
 self:=λ_ _ _ _ _ st h=>wpAny_pyIter_rangeiter st h
end L2
variable{tl:L2.TE}{p:Pos}{fp:List Addr}{iter:Expr}
namespace L2
open PySem PySem.Spec PyProof.Rows
section
variable{X:Cx}{tg:Expr}
noncomputable def Wr(K:PySem.W.Frag)(tl:TE):TI:=λσ H R=>tl σ H λx H1=>∃a,x = .ref a/\(∃xs,SqL K H1 a xs)/\R (Itl K a) H1
noncomputable def Y9(K:PySem.W.Frag)(tl:TE):TI:=λσ H R=>tl σ H λx H1=>∃a,x = .ref a/\(∃xs,SqT K H1 a xs)/\R (Itt K a) H1
theorem Gj{l:Expr}(B:PE X l tl):PI X tg l (Wr X.K tl):=by
 intro pins s σ H R I h
 refine thn (B pins s σ H _ I h) λv s1 ⟨x,H1,Z,Y,q1⟩=>?_
 obtain⟨a,e,⟨xs,W⟩,q⟩:=q1
 subst e
 cases Y
 obtain⟨its,U,p,T⟩:=Z.list W
 refine wpAny_pyIter_list p.isList ?_
 refine⟨s1.heap.objs.size,[s1.heap.objs.size],_,_,H1,rfl,Z.kept (t':=s1.toks) λb o e=>Heap.get?_push_of_some _ e,Ig a _,⟨_,Heap.get?_push_size _ rfl,rfl,rfl⟩,λb V=>?_,q⟩
 have e:b=s1.heap.objs.size:=by simpa using V
 subst e
 exact Z.fpOk (aL _) (Z.hok.fresh (aL _))
theorem Tz{l:Expr}(B:PE X l tl):PI X tg l (Y9 X.K tl):=by
 intro pins s σ H R I h
 refine thn (B pins s σ H _ I h) λv s1 ⟨x,H1,Z,Y,q1⟩=>?_
 obtain⟨a,e,⟨xs,W⟩,q⟩:=q1
 subst e
 cases Y
 obtain⟨its,U,p,T⟩:=Z.tuple W
 refine wpAny_pyIter_tuple (show s1.heap.IsTuple a its.toArray from p) ?_
 refine⟨s1.heap.objs.size,[s1.heap.objs.size],_,_,H1,rfl,Z.kept (t':=s1.toks) λb o e=>Heap.get?_push_of_some _ e,Et a _,⟨_,Heap.get?_push_size _ rfl,rfl,rfl⟩,λb V=>?_,q⟩
 have e:b=s1.heap.objs.size:=by simpa using V
 subst e
 exact Z.fpOk (aL _) (Z.hok.fresh (aL _))
theorem BP{σ:St}{R:It->Hp->Prop}{lo hi:Int}{t u v:Tok}{tk:Nat}(I:Inv X pins σ H s)(h1 : -(2^62)<=lo)(h2:lo<2^62)(D : -(2^62)<=hi)(B:hi<2^62)
 (q:R (Itr lo (hi-lo).toNat) H):wpAny (model X.prog X.w) X.A (pyIter (.ref s.heap.objs.size)) (PIE X pins σ tg R) E {s with heap:=s.heap.push {cls:=.type "range", data:=.fields #[.int lo t,.int hi u,.int 1 v]},toks:=tk}:=by
 refine wpAny_pyIter_range (IsRange.new ..) (small_one h1 h2 D B) ?_
 have Z:Inv X pins σ H {s with heap:=s.heap.push {cls:=.type "range", data:=.fields #[.int lo t,.int hi u,.int 1 v]},toks:=tk}:=I.kept λb o e=>Heap.get?_push_of_some _ e
 refine⟨(s.heap.push {cls:=.type "range", data:=.fields #[.int lo t,.int hi u,.int 1 v]}).objs.size,[(s.heap.push {cls:=.type "range", data:=.fields #[.int lo t,.int hi u,.int 1 v]}).objs.size],_,_,H,rfl,
  Z.kept (t':=tk) λb o e=>Heap.get?_push_of_some _ e,Eu _ lo (hi-lo).toNat,?_,λb Y=>?_,q⟩
 ·have V:lo+((0:Nat):Int)*1=lo:=by simp
  have W:(((hi-lo).toNat:Nat):Int)-((0:Nat):Int)=Builtin.Range.rangeSize lo hi 1:=by rw[rangeSize_one];split<;>omega
  show IsRangeIter _ _ (lo+((0:Nat):Int)*1) ((((hi-lo).toNat:Nat):Int)-((0:Nat):Int)) 1
  rw[V,W]
  exact Heap.get?_push_size _ rfl
 ·have e:b=(s.heap.push {cls:=.type "range", data:=.fields #[.int lo t,.int hi u,.int 1 v]}).objs.size:=by simpa using Y
  subst e
  exact Z.fpOk (aL _) (Z.hok.fresh (aL _))
noncomputable def Ws(ta:TA):TI:=λσ H R=>ta σ H λvs H1=>∃j:Int,vs=[.int j]/\-(2^62)<=j/\j<2^62/\R (Itr 0 j.toNat) H1
noncomputable def Wt(ta:TA):TI:=λσ H R=>ta σ H λvs H1=>∃i j:Int,vs=[.int i,.int j]/\(-(2^62)<=i/\i<2^62/\-(2^62)<=j/\j<2^62)/\R (Itr i (j-i).toNat) H1
theorem Ih{a:Expr}{ta:TA}(B:Gl X "range")(hm:X.mg "range"=none)(ha:PA X [a] ta)(hs:starEach [a] X.env=[(false,eval a X.env)]:=by rfl):PI X tg (.Call (.Name "range" p) [a] [] pos) (Ws ta):=by
 intro pins s σ H R I h
 refine Call_ (mq I B hm boot_range (PyProof.Rows.callWith_type1 (thn (ha pos pins s σ H _ I h) λus s1 ⟨vs,H1,W,Y,q1⟩=>?_) hs rfl))
 obtain⟨j,e,q1,q2,q⟩:=q1
 subst e
 cases Y with
 |cons r Z=>
  cases Z
  obtain⟨t,rfl⟩:=r
  exact call_range_1 (BP W (by omega) (by omega) q1 q2 (by simpa using q))
theorem Ii{a b:Expr}{ta:TA}(D:Gl X "range")(hm:X.mg "range"=none)(ha:PA X [a,b] ta)(hs:starEach [a,b] X.env=[(false,eval a X.env),(false,eval b X.env)]:=by rfl)(B:starEach [b] X.env=[(false,eval b X.env)]:=by rfl):
 PI X tg (.Call (.Name "range" p) [a,b] [] pos) (Wt ta):=by
 intro pins s σ H R I h
 refine Call_ (mq I D hm boot_range (PyProof.Rows.callWith_type1 (thn (ha pos pins s σ H _ I h) λus s1 ⟨vs,H1,U,Y,q1⟩=>?_) (by rw[hs,B]) (by rw[B];rfl)))
 obtain⟨i,j,e,⟨q1,q2,V,W⟩,q⟩:=q1
 subst e
 cases Y with
 |cons r Z=>
  cases Z with
  |cons r' Z=>
   cases Z
   obtain⟨t,rfl⟩:=r
   obtain⟨t',rfl⟩:=r'
   exact call_range_2 (BP U q1 q2 V W q)
noncomputable def Y_(wi:TI)(g:TG)(tb:TS):TS:=λD σ H=>wi σ H λJ H1=>∃W:Nat->Nat->St->Hp->Prop,(∃m,W 0 m σ H1)/\∀i m σ H,W i m σ H ->
 (J.stop i H/\D.nx σ H)\/(J.go i H/\∃N:St->Hp->Prop,(∀σ' H',N σ' H'->∃Y,Y<m/\W (i+1) Y σ' H')/\∀x H',J.yld i H x H'->g x σ H' λZ H2=>tb {D with nx:=N,ct:=N,bk:=D.nx} Z H2)
noncomputable def v9(fp:List Addr)(h:Heap):List (Addr×Obj):=fp.filterMap λb=>(h.get? b).map λo=>(b,o)
theorem o_{o:Obj}(B:b∈fp)(e:h.get? b=some o):(b,o)∈v9 fp h:=jQ.mpr ⟨b,B,by rw[e];rfl⟩
theorem Ij{p:Addr×Obj}(B:p∈v9 fp h):p.1∈fp/\h.get? p.1=some p.2:=by
 obtain⟨b,Z,e⟩:=jQ.mp B
 cases q:h.get? b with
 |none=>rw[q]at e;cases e
 |some o=>
  rw[q]at e
  have Y:(b,o)=p:=cQ.inj e
  subst Y
  exact⟨Z,q⟩
theorem Inv.pinned{σ:St}(I:Inv X pins σ H s)(D:∀b∈fp,ur X pins H b)(B:∀b∈fp,∃o,s.heap.get? b=some o/\∀v,o.data ≠ .cell v):Inv X (pins++v9 fp s.heap) σ H s:=
 I.pins_of λp W=>(bW.mp W).elim (λz=>I.pin p (bG _ z)) λz=>by
  obtain⟨Z,e⟩:=Ij z
  obtain⟨V,f1,f2,_⟩:=D p.1 Z
  obtain⟨o,Y,d⟩:=B p.1 Z
  rw[e]at Y;cases Y
  exact⟨e,V,f1,f2,d⟩
theorem Inv.unpinned{pl:List (Addr×Obj)}{σ:St}(I:Inv X (pins++pl) σ H s):Inv X pins σ H s:=I.pins_of λp Z=>I.pin p (bG _ (cg _ Z))
theorem TF{body:List Stmt}{wi:TI}{g:TG}{tb:TS}(hp:PassesOwn (model X.prog X.w) X.A X.env X.xe)(hc:X.calm=true)(hi:PI X tg iter wi)(hg:PG X tg g)(B:PSs X body tb)
 (hs:∀x,foldedSetIterable iter X.env x=pure x:=by intro _;rfl):PS X (.For tg iter body [] pos) (Y_ wi g tb):=by
 intro pins s σ H D I h
 refine wpAny_For (thn (hi pins s σ H _ I h) λv s1 h1=>thn h1 λitv s2 h2=>?_) hs
 obtain⟨it,fp,tn,J,H2,e,I2,T,G,f2,W,⟨m0,w0⟩,turn⟩:=h2
 subst e
 have V:∀{H':Hp},(∀b∈fp,H' b=none)->∀b∈fp,ur X pins H' b:=λhn b B=>⟨hn b B,(f2 b B).2⟩
 refine codeAny_forLoop_any (λn s'=>∃i σ' H',Inv X pins σ' H' s'/\tn i s'.heap/\(∀b∈fp,H' b=none)/\W i n σ' H') ?_ m0 ⟨0,σ,H2,I2,G,λb B=>(f2 b B).1,w0⟩
 rintro n s3 ⟨i,Y,L,t,P,M,j⟩
 rcases turn i n Y L j with⟨stop,qn⟩|⟨go,N,hN,step⟩
 ·refine wpAny_passesOwn hp (thn (T.done X rfl rfl rfl hc i pins s3 Y L X.xe t (V M) P stop) λr a ⟨E,I4⟩=>?_)
  subst E
  exact wpAny_execs_nil ⟨Y,L,I4,qn⟩
 ·refine wpAny_passesOwn hp (thn (T.item X rfl rfl rfl hc i pins s3 Y L X.xe t (V M) P go) λr a ⟨u,E,h4⟩=>?_)
  subst E
  refine wpAny_passesOwn hp (thn h4 λ_ y ⟨x,q,I5,r5,p,Q,C⟩=>?_)
  have z:=I5.pinned (V C) (T.obj _ _ Q)
  refine wpAny_passesOwn hp (thn (hg _ y Y q x u _ z r5 (step x q p)) λ_ c ⟨K,H6,I6,q6⟩=>?_)
  refine wpAny_passesOwn hp (thn (B _ c K H6 _ I6 q6) λf F R=>?_)
  have again:∀{Z:St}{S:Hp},Inv X (pins++v9 fp y.heap) Z S F->N Z S->∃m,m<n/\∃i σ' H',Inv X pins σ' H' F/\tn i F.heap/\(∀b∈fp,H' b=none)/\W i m σ' H':=λ{Z S} U O=>by
   obtain⟨m',hm,k⟩:=hN Z S O
   refine⟨m',hm,i+1,Z,S,U.unpinned,T.keep _ _ _ Q λb B o e=>(U.pin (b,o) (bG _ (bG _ (o_ B e)))).1,λb B=>?_,k⟩
   obtain⟨o,e,d⟩:=T.obj _ _ Q b B
   exact(U.pin (b,o) (bG _ (bG _ (o_ B e)))).2.1
  cases f with
  |next=>obtain⟨Z,S,U,O⟩:=R;exact again U O
  |cont=>obtain⟨Z,S,U,O⟩:=R;exact again U O
  |brk=>obtain⟨Z,S,U,R⟩:=R;exact⟨Z,S,U.unpinned,R⟩
  |ret v=>obtain⟨l,Z,S,U,r7,R⟩:=R;exact⟨l,Z,S,U.unpinned,r7,R⟩
end
end L2
variable{op':CmpOp}
namespace L2
open PySem PySem.Spec PyProof.Rows
noncomputable abbrev R2:=V->V->Hp->VK->Prop
noncomputable def OpR(X:Cx)(f:Value->Value->Sem Value)(r:R2):Prop:=
 ∀(pins:List (Addr×Obj))(s:Shared)(σ:St)(H:Hp)(x y:V)(v u:Value)(Q:VK),Inv X pins σ H s->RelV x v->RelV y u->r x y H Q ->
  wpAny (model X.prog X.w) X.A (f v u) (EP X pins σ Q) X.xe s
noncomputable def UnR(X:Cx)(f:Value->Sem Value)(r:V->Hp->VK->Prop):Prop:=
 ∀(pins:List (Addr×Obj))(s:Shared)(σ:St)(H:Hp)(x:V)(v:Value)(Q:VK),Inv X pins σ H s->RelV x v->r x H Q ->
  wpAny (model X.prog X.w) X.A (f v) (EP X pins σ Q) X.xe s
noncomputable def m_(X:Cx)(f:Value)(r:List V->Hp->VK->Prop):Prop:=
 ∀(pins:List (Addr×Obj))(s:Shared)(σ:St)(H:Hp)(xs:List V)(us:List Value)(Q:VK),Inv X pins σ H s->Vals xs us->r xs H Q ->
  wpAny (model X.prog X.w) X.A (call f us) (EP X pins σ Q) X.xe s
noncomputable def tOp(r:R2)(ta tb:TE):TE:=λσ H Q=>ta σ H λx H1=>tb σ H1 λy H2=>r x y H2 Q
noncomputable def tUn(r:V->Hp->VK->Prop)(ta:TE):TE:=λσ H Q=>ta σ H λx H1=>r x H1 Q
noncomputable def rI(C:Int->Int->Prop)(g:Int->Int->V):R2:=λx y H Q=>∃i j,x = .int i/\y = .int j/\C i j/\Q (g i j) H
noncomputable def rI0(g:Int->Int->V):R2:=λx y H Q=>∃i j,x = .int i/\y = .int j/\Q (g i j) H
noncomputable def rU(g:Int->V):V->Hp->VK->Prop:=λx H Q=>∃i,x = .int i/\Q (g i) H
section
variable{X:Cx}{a b c:Expr}{ta tb tc:TE}{pos:Pos}
theorem TJ(ha:PE X a ta)(O:PE X b tb){pins:List (Addr×Obj)}{s:Shared}{σ:St}{H:Hp}{R:V->V->Hp->Prop}(I:Inv X pins σ H s)
 (h:ta σ H λx H1=>tb σ H1 λy H2=>R x y H2) {Q:Value->Shared->Prop} {f:Value->Value->Sem Value}
 (J:∀v u s2 x y H2,Inv X pins σ H2 s2->RelV x v->RelV y u->R x y H2->wpAny (model X.prog X.w) X.A (f v u) Q X.xe s2) :
 wpAny (model X.prog X.w) X.A (eval a X.env) (λv D=>wpAny (model X.prog X.w) X.A (eval b X.env) (λu B=>wpAny (model X.prog X.w) X.A (f v u) Q X.xe B) X.xe D) X.xe s:=by
 refine thn (ha pins s σ H _ I h) λv s1 ⟨x,H1,U,Y,q1⟩=>?_
 refine thn (O pins s1 σ H1 _ U q1) λu s2 ⟨y,H2,W,Z,q2⟩=>?_
 exact J v u s2 x y H2 W Y Z q2
theorem J7{op:Operator}{r:R2}(B:OpR X (binaryOp op) r)(ha:PE X a ta)(D:PE X b tb):PE X (.BinOp a op b pos) (tOp r ta tb):=by
 intro pins s σ H Q I h
 exact wpAny_BinOp (TJ ha D I h λv u s2 x y H2 W Y Z q=>B pins s2 σ H2 x y v u Q W Y Z q)
theorem Wu{op:UnaryOp}{r:V->Hp->VK->Prop}(B:UnR X (unaryOp op) r)(ha:PE X a ta):PE X (.UnaryOp op a pos) (tUn r ta):=by
 intro pins s σ H Q I h
 exact UnaryOp_ (thn (ha pins s σ H _ I h) λv s1 ⟨x,H1,Y,Z,q1⟩=>B pins s1 σ H1 x v Q Y Z q1)
theorem opI{f:Value->Value->Sem Value}{C:Int->Int->Prop}{g:Int->Int->Int}
 (rule:∀(i j:Int)(t u:Tok)(s:Shared)(Q:Value->Shared->Prop)(E:Value->Shared->Prop),C i j->Q (.int (g i j) s.toks) {s with toks:=s.toks+1}->wpAny (model X.prog X.w) X.A (f (.int i t) (.int j u)) Q E s) :
 OpR X f (rI C λi j=>.int (g i j)):=by
 intro pins s σ H x y v u Q I Y Z h
 obtain⟨i,j,rfl,rfl,W,q⟩:=h
 obtain⟨t,rfl⟩:=Y
 obtain⟨t',rfl⟩:=Z
 exact rule i j t t' s _ _ W ⟨.int (g i j),H,I.tok _,⟨_,rfl⟩,q⟩
theorem Wv{f:Value->Value->Sem Value}{g:Int->Int->Int}
 (rule:∀(i j:Int)(t u:Tok)(s:Shared)(Q:Value->Shared->Prop)(E:Value->Shared->Prop),Q (.int (g i j) s.toks) {s with toks:=s.toks+1}->wpAny (model X.prog X.w) X.A (f (.int i t) (.int j u)) Q E s) :
 OpR X f (rI0 λi j=>.int (g i j)):=by
 intro pins s σ H x y v u Q I Y Z h
 obtain⟨i,j,rfl,rfl,q⟩:=h
 obtain⟨t,rfl⟩:=Y
 obtain⟨t',rfl⟩:=Z
 exact rule i j t t' s _ _ ⟨.int (g i j),H,I.tok _,⟨_,rfl⟩,q⟩
theorem O3{f:Value->Value->Sem Value}{g:Int->Int->Bool}
 (rule:∀(i j:Int)(t u:Tok)(s:Shared)(Q:Value->Shared->Prop)(E:Value->Shared->Prop),Q (.bool (g i j)) s->wpAny (model X.prog X.w) X.A (f (.int i t) (.int j u)) Q E s) :
 OpR X f (rI0 λi j=>.bl (g i j)):=by
 intro pins s σ H x y v u Q I Y Z h
 obtain⟨i,j,rfl,rfl,q⟩:=h
 obtain⟨t,rfl⟩:=Y
 obtain⟨t',rfl⟩:=Z
 exact rule i j t t' s _ _ ⟨.bl (g i j),H,I,rfl,q⟩
noncomputable def TQ(i j:Int):Prop:=0<=j/\j<=1000000/\i.natAbs<2^64
theorem eF:OpR X (binaryOp .Add) (rI0 λi j=>.int (i+j)):=Wv λ_ _ _ _ _ _ _ q=>add_int q
theorem wg:OpR X (binaryOp .Sub) (rI0 λi j=>.int (i-j)):=Wv λ_ _ _ _ _ _ _ q=>sub_int q
theorem mH:OpR X (binaryOp .Mod) (rI (λ_ j=>j≠0) λi j=>.int (i.fmod j)):=opI λ_ _ _ _ _ _ _ Z q=>mod_int' Z q
theorem TX:OpR X (binaryOp .Pow) (rI TQ λi j=>.int (i^j.toNat)):=opI λ_ _ _ _ _ _ _ Z q=>pow_int_small Z.1 Z.2.1 Z.2.2 q
theorem unI{f:Value->Sem Value}{g:Int->Int}
 (rule:∀(i:Int)(t:Tok)(s:Shared)(Q:Value->Shared->Prop)(E:Value->Shared->Prop),Q (.int (g i) s.toks) {s with toks:=s.toks+1}->wpAny (model X.prog X.w) X.A (f (.int i t)) Q E s) :
 UnR X f (rU λi=>.int (g i)):=by
 intro pins s σ H x v Q I Z h
 obtain⟨i,rfl,q⟩:=h
 obtain⟨t,rfl⟩:=Z
 exact rule i t s _ _ ⟨.int (g i),H,I.tok _,⟨_,rfl⟩,q⟩
theorem TY:UnR X (unaryOp .USub) (rU λi=>.int (-i)):=unI λ_ _ _ _ _ q=>neg_int q
end
section
variable{X:Cx}{a b c:Expr}{ta tb tc:TE}{pos:Pos}
theorem wj:OpR X (compareOp .Lt) (rI0 λi j=>.bl (decide (i<j))):=O3 λ_ _ _ _ _ _ _ q=>lt_int q
theorem mC:OpR X (compareOp .LtE) (rI0 λi j=>.bl (decide (i<=j))):=O3 λ_ _ _ _ _ _ _ q=>le_int q
theorem yN:OpR X (compareOp .Gt) (rI0 λi j=>.bl (decide (j<i))):=O3 λ_ _ _ _ _ _ _ q=>gt_int q
theorem Wx:OpR X (compareOp .GtE) (rI0 λi j=>.bl (decide (j<=i))):=O3 λ_ _ _ _ _ _ _ q=>ge_int q
theorem fK(b:Expr){op:CmpOp}(h:op ≠ .In:=by decide)(h2:op ≠ .NotIn:=by decide):behindInMarks op b=false:=by
 have Y:(op==CmpOp.In)=false:=by cases op<;>first|rfl|exact absurd rfl h
 have Z:(op==CmpOp.NotIn)=false:=by cases op<;>first|rfl|exact absurd rfl h2
 cases b<;>simp[behindInMarks,Y,Z]
theorem O4{r:R2}(B:OpR X (compareOp op) r)(ha:PE X a ta)(D:PE X b tb)(hm:behindInMarks op b=false):PE X (.Compare a [op] [b] pos) (tOp r ta tb):=by
 intro pins s σ H Q I h
 exact wpAny_Compare1 (TJ ha D I h λv u s2 x y H2 W Y Z q=>B pins s2 σ H2 x y v u Q W Y Z q) hm
noncomputable def R6(t:TE):TT:=λσ H Q=>t σ H λx H'=>∃k,x = .bl k/\Q k H'
theorem O5{r:R2}(B:OpR X (compareOp op) r)(ha:PE X a ta)(D:PE X b tb)(hm:behindInMarks op b=false):PT X (.Compare a [op] [b] pos) (R6 (tOp r ta tb)):=by
 intro pins s σ H Q I h
 refine wpAny_isTrue_Compare1 (thn (ha pins s σ H _ I h) λv s1 ⟨x,H1,S,W,q1⟩=>thn (D pins s1 σ H1 _ S q1) λu s2 ⟨y,H2,T,Y,q2⟩=>
  thn (B pins s2 σ H2 x y v u _ T W Y q2) λc s3 ⟨z,R,U,Z,k,e,V⟩=>?_) hm
 subst e
 cases Z
 exact wpAny_truthy_bool ⟨R,U,V⟩
noncomputable def J8(r r':R2)(ta tb tc:TE):TE:=λσ H Q=>ta σ H λx H1=>tb σ H1 λy H2=>r x y H2 λz Z=>∃k,z = .bl k /\
 (if k=true then tc σ Z λY X=>r' y Y X Q else Q (.bl false) Z)
theorem J9{r r':R2}(D:OpR X (compareOp op) r)(B:OpR X (compareOp op') r')(ha:PE X a ta)(hb:PE X b tb)(J:PE X c tc)
 (hm:lastMarks [op,op'] [b,c]=false:=by with_unfolding_all rfl):PE X (.Compare a [op,op'] [b,c] pos) (J8 r r' ta tb tc):=by
 intro pins s σ H Q I h
 refine Compare_chain (thn (ha pins s σ H _ I h) λv s1 ⟨x,H1,K,O,q1⟩=>chain_link (thn (hb pins s1 σ H1 _ K q1) λu s2 ⟨y,H2,L,Z,q2⟩=>
  thn (D pins s2 σ H2 x y v u _ L O Z q2) λd s3 ⟨z,V,W,P,k,e,Y⟩=>?_)) hm
 subst e
 cases P
 refine wpAny_truthy_bool ?_
 cases k with
 |false=>exact ite_ff ⟨.bl false,V,W,rfl,Y⟩
 |true=>exact ite_tt (chain_last (thn (J pins s3 σ V _ W Y) λT S ⟨U,G,M,R,N⟩=>B pins S σ G y U u T Q M Z R N))
theorem J_{r r':R2}(D:OpR X (compareOp op) r)(B:OpR X (compareOp op') r')(ha:PE X a ta)(hb:PE X b tb)(J:PE X c tc)
 (hm:lastMarks [op,op'] [b,c]=false:=by with_unfolding_all rfl):PT X (.Compare a [op,op'] [b,c] pos) (R6 (J8 r r' ta tb tc)):=by
 intro pins s σ H Q I h
 refine isTrue_chain (thn (ha pins s σ H _ I h) λv s1 ⟨x,H1,w,N,q1⟩=>test_link (thn (hb pins s1 σ H1 _ w q1) λu s2 ⟨y,H2,A,Z,q2⟩=>
  thn (D pins s2 σ H2 x y v u _ A N Z q2) λd s3 ⟨z,V,W,O,k,e,Y⟩=>?_)) hm
 subst e
 cases O
 refine wpAny_truthy_bool ?_
 cases k with
 |false=>
  obtain⟨o,F,K⟩:=Y
  cases F
  exact ite_ff ⟨V,W,K⟩
 |true=>
  refine ite_tt (test_last (thn (J pins s3 σ V _ W Y) λT S ⟨U,q,C,P,L⟩=>thn (B pins S σ q y U u T _ C Z P L) λn p ⟨z2,t,E,R,k2,G,M⟩=>?_))
  subst G
  cases R
  exact wpAny_truthy_bool ⟨t,E,M⟩
theorem uw:(sizeLine:Nat)<2^63:=by rw[sizeLine_eq];decide
theorem vals1{x:V}(r:Vals [x] us):∃u,us=[u]/\RelV x u:=by
 cases r with
 |cons Y Z=>cases Z;exact⟨_,rfl,Y⟩
theorem vals2{x:V}(r:Vals [x,y] us):∃u B,us=[u,B]/\RelV x u/\RelV y B:=by
 cases r with
 |cons W X=>
  cases X with
  |cons Y Z=>cases Z;exact⟨_,_,rfl,W,Y⟩
theorem Ik:m_ X (.type "int") (λxs H Q=>(∃i,xs=[.int i]/\Q (.int i) H)\/∃k,xs=[.bl k]/\Q (.int (if k then 1 else 0)) H):=by
 intro pins s σ H xs us Q I r h
 rcases h with⟨i,rfl,q⟩|⟨k,rfl,q⟩
 ·obtain⟨u,rfl,t,rfl⟩:=vals1 r
  exact call_int_int ⟨.int i,H,I,⟨_,rfl⟩,q⟩
 ·obtain⟨u,rfl,Z⟩:=vals1 r
  cases Z
  exact call_int_bool ⟨.int (if k then 1 else 0),H,I.tok _,⟨_,rfl⟩,q⟩
end
end L2
namespace L2
open PySem PySem.Spec PyProof.Rows
structure ObjM(h:Heap)(x dx C:Addr)(mA:Str->Option Value):Prop where
 obj:h.get? x=some (PySem.W.instObj C dx)
 ns:h.Ns1 dx mA
 ne:dx≠x
theorem Il{dx:Addr}{mA:Str->Option Value}(n:h.Ns1 dx mA):∃od,h.get? dx=some od/\∀name,PySem.W.lookIn name od=some (mA name):=by
 obtain⟨o,es,ep,X,hd,V,_,hm⟩:=n
 refine⟨o,X,λname=>?_⟩
 have e:=hm name
 unfold nsFind findBy at e
 rw[<-Array.find?_toList]at e
 unfold PySem.W.lookIn
 rw[hd]
 dsimp only
 split
 ·rename_i y q
  rw[q]at e
  exact congrArg some e
 ·rename_i q
  rw[q]at e
  have a:es.toList.any (·.refKey)=false:=by
   rw[List.any_eq_false]
   intro y Y
   obtain⟨z,t,Z⟩:=V y (Array.mem_toList_iff.mp Y)
   simp[DictEntry.refKey,Z]
  have U:¬es.toList.any (·.refKey)=true:=by rw[a];exact aR
  rw[if_neg U]
  exact congrArg some e
theorem ObjM.look{x dx C:Addr}{mA:Str->Option Value}(I:ObjM h x dx C mA):∃od,PySem.W.InstAt h x (PySem.W.instObj C dx) C (some od)/\∀name,PySem.W.lookIn name od=some (mA name):=
 let⟨od,Z,Y⟩:=Il I.ns
 ⟨od,⟨I.obj,rfl,rfl,Z⟩,Y⟩
section
variable{prog:Program}{w:World}{A:Around}{E:Value->Shared->Prop}{s:Shared}{K:PySem.W.Frag}{x dx C f:Addr}{mA:Str->Option Value}{name:Str}{v:Value}
end
theorem v7.some_of{o:Option Value}(r:v7 (some v) o):∃u,o=some u/\RelV v u:=by
 cases o with
 |none=>exact(show False from r).elim
 |some u=>exact⟨u,rfl,r⟩
section
variable{P:Program}{w:World}{H H':Hp}{h h':Heap}{a C dx:Addr}{fs fs':List (Str×V)}
theorem O6(hok:HOk P w H h)(e:H a=some (.ins C dx fs)):∃mA,ObjM h a dx C mA/\(∀f,v7 (fs.lookup f) (mA f))/\PySem.Within mA (fs.map (·.1))/\fs.length<=1000/\H dx=some (.own a):=by
 obtain⟨d,z,ne,Z,mA,n,r,q⟩:=(show gP P w H h a (.ins C dx fs)from hok a _ e)
 exact⟨mA,⟨Z,n,ne⟩,r,q,z,d⟩
end
structure Cls(K:PySem.W.Frag)(C:Addr):Prop where
 pg:PySem.W.plainGet K C Str.empty=true
 hd:PySem.W.hasDictIn K C=true
 po:PySem.W.plainOver K C=true
 sa:PySem.W.findIn K (.ref C) "__setattr__"=some (some (.builtin "object.__setattr__"))
theorem Cls.get{C:Addr}(c:Cls K C)(f:Str):PySem.W.plainGet K C f=true:=c.pg
structure Con(K:PySem.W.Frag)(C:Addr)(f:Str)(v:V)(u:Value):Prop where
 at_:PySem.W.findIn K (.ref C) f=some (some u)
 rel:RelV v u
 get:PySem.W.specialIn K u "__get__"=some none
 cp:PySem.W.copiedNames.contains f=false
structure Meth(K:PySem.W.Frag)(C:Addr)(m:Str)(f:Addr):Prop where
 at_:PySem.W.findIn K (.ref C) m=some (some (.ref f))
 fn:PySem.W.isFn K (.ref f)=true
 kp:PySem.W.keepIn K (.ref f)=true
section
variable{X:Cx}{pins:List (Addr×Obj)}{σ:St}{H:Hp}{s:Shared}{a C dx:Addr}{fs:List (Str×V)}{f:Str}{v:V}{A:Around}{E:Value->Shared->Prop}
end
section
variable{X:Cx}{o e value:Expr}{f:Str}{pos pos' tpos:Pos}{ta tv:TE}
end
section
variable{X:Cx}{pins:List (Addr×Obj)}{σ:St}{H:Hp}{s:Shared}{A:Around}{E:Value->Shared->Prop}{Q:Value->Shared->Prop}{c:Value}{b:Bool}
inductive TyOf(K:PySem.W.Frag)(H:Hp):V->Value->Prop where
 |non:TyOf K H .non (.type "NoneType")
 |bl (x:Bool):TyOf K H (.bl x) (.type "bool")
 |int (i:Int):TyOf K H (.int i) (.type "int")
 |str (x:Str):TyOf K H (.str x) (.type "str")
 |flt (x:UInt64):TyOf K H (.flt x) (.type "float")
 |lst {a:Addr} {xs:List V} (e:H a=some (.lst xs)):TyOf K H (.ref a) (.type "list")
 |frz {a:Addr} {o:Obj} {xs:List V} (e:H a=some (.frz o (.lst xs))):TyOf K H (.ref a) (.type "list")
 |tup {a:Addr} {xs:List V} (e:H a=some (.tup xs)):TyOf K H (.ref a) (.type "tuple")
 |dK {a:Addr} {kvs:List (Key×V)} (e:H a=some (.dK kvs)):TyOf K H (.ref a) (.type "dict")
 |dT {a:Addr} {kvs:List (List Key×V)} (e:H a=some (.dT kvs)):TyOf K H (.ref a) (.type "dict")
 |ins {a C dx:Addr} {fs:List (Str×V)} (e:H a=some (.ins C dx fs)) (cl:Cls K C) (ha:PySem.W.findIn K (.ref C) "__class__"=some (some (.builtin "object.__class__")))
  (hn:PySem.W.specialIn K (.builtin "object.__class__") "__get__"=some (some (.builtin "getset_descriptor.__get__"))) (htk:PySem.W.takesIn K (.builtin "object.__class__")=some true)
  (hm:PySem.W.mroIn K C (.type "object")=some true):TyOf K H (.ref a) (.ref C)
theorem yO{x:V}{u t:Value}(I:Inv X pins σ H s)(B:RelV x u)(ty:TyOf X.K H x t)(e:PySem.W.kitOne X.K t c=some b)(h:∀tk,Q (.bool b) {s with toks:=tk}):
 wpAny (model X.prog X.w) A (call (.builtin "isinstance") [u,c]) Q E s:=by
 cases ty with
 |non=>cases(show u=Value.none from B);exact PySem.W.kia_one PySem.W.kitx_none I.kIn True.intro e (λz=>nomatch z) h
 |bl y=>cases(show u=Value.bool y from B);exact PySem.W.kia_one PySem.W.kitx_bool I.kIn True.intro e (λz=>nomatch z) h
 |int i=>obtain⟨t,q⟩:=(show ∃t,u=Value.int i t from B);cases q;exact PySem.W.kia_one PySem.W.kitx_int I.kIn True.intro e (λz=>nomatch z) h
 |str y=>obtain⟨t,q⟩:=(show ∃t,u=Value.str y t from B);cases q;exact PySem.W.kia_one PySem.W.kitx_str I.kIn True.intro e (λz=>nomatch z) h
 |flt y=>obtain⟨t,q⟩:=(show ∃t,u=Value.float y t from B);cases q;exact PySem.W.kia_one PySem.W.kitx_float I.kIn True.intro e (λz=>nomatch z) h
 | @lst a xs Z=>
  cases(show u=Value.ref a from B)
  obtain⟨_,_,n,_,h1⟩:=(show gP X.prog X.w H s.heap a (.lst xs)from I.hok a _ Z)
  exact PySem.W.kia_one PySem.W.kitx_list I.kIn ⟨_,h1,rfl⟩ e (λz=>nomatch z) h
 | @frz a Y xs Z=>
  cases(show u=Value.ref a from B)
  obtain⟨_,_,_,n,_,h1⟩:=(show gP X.prog X.w H s.heap a (.frz Y (.lst xs))from I.hok a _ Z)
  exact PySem.W.kia_one PySem.W.kitx_list I.kIn ⟨_,h1,rfl⟩ e (λz=>nomatch z) h
 | @tup a xs Z=>
  cases(show u=Value.ref a from B)
  obtain⟨_,_,_,p⟩:=(show gP X.prog X.w H s.heap a (.tup xs)from I.hok a _ Z)
  obtain⟨o,h1,h2,_⟩:=p
  exact PySem.W.kia_one PySem.W.kitx_tuple I.kIn ⟨o,h1,h2⟩ e (λz=>nomatch z) h
 | @dK a kvs Z=>
  cases(show u=Value.ref a from B)
  obtain⟨_,_,vs,_,p⟩:=(show gP X.prog X.w H s.heap a (.dK kvs)from I.hok a _ Z)
  obtain⟨o,es,ep,h1,h2,_⟩:=p
  exact PySem.W.kia_one PySem.W.kitx_dict I.kIn ⟨o,h1,h2.1⟩ e (λz=>nomatch z) h
 | @dT a kvs Z=>
  cases(show u=Value.ref a from B)
  obtain⟨_,_,xs,_,o,es,ep,h1,h2,_⟩:=(show gP X.prog X.w H s.heap a (.dT kvs)from I.hok a _ Z)
  exact PySem.W.kia_one PySem.W.kitx_dict I.kIn ⟨o,h1,h2.1⟩ e (λz=>nomatch z) h
 | @ins a C dx fs Z cl ha hn htk hm=>
  cases(show u=Value.ref a from B)
  obtain⟨mA,O,_⟩:=O6 I.hok Z
  obtain⟨od,J,_⟩:=O.look
  exact PySem.W.kia_one (PySem.W.kitx_own (cl.get _) cl.hd ha hn htk hm) I.kIn J e (λz=>nomatch z) h
end
end L2
variable{j:Nat}{mg:Str->Option Value}{base:Heap}{f:Addr}{fd:FuncData}{ps:List Str}{vs:List L2.V}{cd pm ct oc:Value}{an od:Option Addr}
namespace L2
open PySem PySem.Spec PyProof.Rows
structure Room(k:Nat)(A:Around):Prop where
 hd:A.handled=none
 dp:A.depth+3*k+5<recursionLimit
 un:A.units+16*k+200<cLine
theorem Room.mono{k:Nat}(r:Room k A)(h:j<=k):Room j A:=⟨r.hd,by have:=r.dp;omega,by have:=r.un;omega⟩
theorem Room.deeper{k:Nat}(r:Room (k+1) A)(env:Env):Room k (A.deeper env):=
 ⟨r.hd,by have:=r.dp;show A.depth+1+3*k+5<_;omega,by have:=r.un;show A.units+3+16*k+200<_;omega⟩
theorem Room.depth{k:Nat}(r:Room k A):A.depth<recursionLimit:=by have:=r.dp;omega
theorem Room.units{k:Nat}(r:Room k A):A.units+64<cLine:=by have:=r.un;omega
noncomputable def Za:TA:=λ_ H Q=>Q [] H
noncomputable def Wy(ta:TE)(tr:TA):TA:=λσ H Q=>ta σ H λx H1=>tr σ H1 λxs H2=>Q (x::xs) H2
section
variable{X:Cx}{e:Expr}{es:List Expr}{te:TE}{t:TA}{pos:Pos}
theorem nQ:PA X [] Za:=λ_ _ _ _ H Q I h=>Calls.spliced_nil ⟨[],H,I,.nil,h⟩
theorem jM(ha:PE X e te)(B:PA X es t)(hs:starEach (e::es) X.env=(false,eval e X.env)::starEach es X.env:=by rfl):PA X (e::es) (Wy te t):=by
 intro pos pins s σ H Q I h
 rw[hs]
 show wpAny _ _ (spliced ((false,eval e X.env)::backTo pos (starEach es X.env))) _ _ s
 refine Calls.spliced_cons (thn (ha pins s σ H _ I h) λu s1 ⟨x,H1,V,Y,q1⟩=>?_)
 exact thn (B pos pins s1 σ H1 _ V q1) λus s2 ⟨xs,H2,W,Z,q2⟩=>⟨x::xs,H2,W,.cons Y Z,q2⟩
noncomputable def Zb(t:TA):TE:=λσ H Q=>t σ H λxs H1=>xs.length<=sizeLine/\∀p,H1 p=none->Q (.ref p) (upd H1 p (.tup xs))
noncomputable def Zc(t:TA):TE:=λσ H Q=>t σ H λxs H1=>xs.length<=sizeLine/\∀p,H1 p=none->Q (.ref p) (upd H1 p (.lst xs))
theorem T3{B}(h:PA X es t):PE X (.Tuple es B pos) (Zb t):=by
 intro pins s σ H Q I Y
 refine wpAny_Tuple_spliced (thn (h pos pins s σ H _ I Y) λus s1 ⟨xs,H1,Z,r,z,q⟩=>⟨by rw[<-r.length];exact z,?_⟩)
 have W:H1 s1.heap.objs.size=none:=Z.hok.fresh (aL _)
 refine⟨.ref s1.heap.objs.size,upd H1 s1.heap.objs.size (.tup xs),Z.laid (t':=s1.toks) (λb u e=>Heap.get?_push_of_some _ e) (aL _) ?_,rfl,q _ W⟩
 exact⟨z,us,r,⟨_,Heap.get?_push_size _ rfl,rfl,_,rfl⟩⟩
theorem Kc(h:PA X es t):PE X (.List es pos) (Zc t):=by
 intro pins s σ H Q I Y
 refine wpAny_List_spliced (thn (h pos pins s σ H _ I Y) λus s1 ⟨xs,H1,Z,r,z,q⟩=>⟨by rw[<-r.length];exact z,?_⟩)
 have W:H1 s1.heap.objs.size=none:=Z.hok.fresh (aL _)
 refine⟨.ref s1.heap.objs.size,upd H1 s1.heap.objs.size (.lst xs),Z.laid (t':=s1.toks) (λb u e=>Heap.get?_push_of_some _ e) (aL _) ?_,rfl,q _ W⟩
 exact⟨z,us,0,r,Heap.get?_push_size _ rfl⟩
end
noncomputable abbrev Sp:=List V->Hp->VK->XK->Prop
noncomputable abbrev CXT:=List Env->Hp->Shared->XK->Value->Shared->Prop
structure Env0(P:Program)(w:World)(K:PySem.W.Frag)(mg:Str->Option Value)(base:Heap)(A:Around)(outer:List Env)(s:Shared)(H:Hp):Prop where
 frames:A.frames=some outer
 mod:Mod K mg base
 bs:∀b o,base.get? b=some o->s.heap.get? b=some o/\H b=none
 bsz:base.objs.size<=s.heap.objs.size
 funs:s.heap.FunFrames base outer
 frf:∀b∈frs outer,H b=none
 hok:HOk P w H s.heap
 bare:AllBare s.gens
noncomputable def CE(outer:List Env)(P:Program)(w:World)(H:Hp)(s:Shared)(Q:VK)(u:Value)(s':Shared):Prop:=
 ∃v H',s'.os=s.os/\AllBare s'.gens/\Un (frs outer) [] H H' s.heap s'.heap/\HOk P w H' s'.heap/\RelV v u/\Q v H'
noncomputable def CR(CX:CXT)(outer:List Env)(P:Program)(w:World)(H:Hp)(s:Shared)(Q:VK)(E:XK)(r:Result)(s':Shared):Prop:=
 match r with
 | .ok (.ret u)=>CE outer P w H s Q u s'
 | .ok _=>False
 | .error e=>CX outer H s E e s'
structure FnOk(P:Program)(w:World)(K:PySem.W.Frag)(mg:Str->Option Value)(base:Heap)(CX:CXT)(k:Nat)(f:Addr)(fd:FuncData)(ps:List Str)(sp:Sp):Prop where
 len:∀vs H Q E,sp vs H Q E->vs.length=ps.length
 run:∀(A:Around)(outer:List Env)(s:Shared)(H:Hp)(args:Args)(us:List Value)(vs:List V)(Q:VK)(E:XK),Room k A->Env0 P w K mg base A outer s H->BindsTo s fd args (ps.zip us)->Vals vs us->sp vs H Q E ->
  codeAny (model P w) A (.call (.ref f) args) (CR CX outer P w H s Q E) s
theorem FnOk.mono{CX:CXT}{k:Nat}{sp:Sp}(F:FnOk P w K mg base CX j f fd ps sp)(h:j<=k):
 FnOk P w K mg base CX k f fd ps sp:=⟨F.len,λA outer s H args us vs Q E Z=>F.run A outer s H args us vs Q E (Z.mono h)⟩
theorem FnOk.imp{CX:CXT}{k:Nat}{sp B:Sp}(F:FnOk P w K mg base CX k f fd ps sp)
 (h:∀vs H Q E,B vs H Q E->sp vs H Q E):FnOk P w K mg base CX k f fd ps B:=
 ⟨λvs H Q E q=>F.len vs H Q E (h _ _ _ _ q),λA outer s H args us vs Q E Y X W Z hs=>F.run A outer s H args us vs Q E Y X W Z (h _ _ _ _ hs)⟩
section
variable{X:Cx}{pins:List (Addr×Obj)}{σ:St}{H:Hp}{s s':Shared}
theorem Inv.env0(I:Inv X pins σ H s):Env0 X.prog X.w X.K X.mg X.base X.A X.stack s H:=
 ⟨I.ok.frames,I.ok.mod,I.bs,bL I.ok.bsz I.sz,I.stack,I.stkFree,I.hok,I.bare⟩
theorem Inv.after{Q:VK}{u:Value}(I:Inv X pins σ H s)(h:CE X.stack X.prog X.w H s Q u s'):EP X pins σ Q u s':=by
 obtain⟨v,H',os,bare,un,hok,r,q⟩:=h
 obtain⟨Y,g,d,t,Z⟩:=s'
 obtain rfl:Z=s.os:=os
 exact⟨v,H',I.call (h':=Y) (g':=g) (d':=d) (t':=t) (ch:=[]) un hok bare (λb z=>absurd z (by simp)),r,q⟩
end
noncomputable def R7(sp:Sp)(dvs:List V)(E:XK)(t:TA):TE:=λσ H Q=>t σ H λvs H1=>sp (vs++dvs) H1 Q E
noncomputable def Binds(K:PySem.W.Frag)(fd:FuncData)(ps:List Str)(ds:List Value):Prop:=
 ∀(s:Shared)(us:List Value),K.In s.heap->(us++ds).length=ps.length->BindsTo s fd ⟨us,[]⟩ (ps.zip (us++ds))
theorem Binds.all(h:∀us:List Value,us.length=ps.length->bindArgs fd ⟨us,[]⟩=pure (ps.zip us)):Binds K fd ps []:=λs us _ Z=>by
 rw[cM]at Z ⊢
 exact .of_eq (h us Z)
noncomputable def Passes(CX:CXT)(X:Cx)(E:XK):Prop:=∀(pins:List (Addr×Obj))(σ:St)(H:Hp)(s:Shared)(e:Value)(s':Shared),Inv X pins σ H s->CX X.stack H s E e s'->X.xe e s'
section
variable{X:Cx}{CX:CXT}{k:Nat}{f C:Addr}{fd:FuncData}{ps:List Str}{sp:Sp}{dvs:List V}{ds:List Value}{E:XK}{x m:Str}{p pos apos:Pos}{e o:Expr}{es:List Expr}{ta:TE}{t:TA}
theorem T4{σ:St}{Q:VK}(F:FnOk X.prog X.w X.K X.mg X.base CX k f fd ps sp)(D:Room k X.A)(J:Binds X.K fd ps ds)(hd:Vals dvs ds)(B:Passes CX X E)
 (I:Inv X pins σ H s) (r:Vals vs us) (h:sp (vs++dvs) H Q E):wpAny (model X.prog X.w) X.A (call (.ref f) us) (EP X pins σ Q) X.xe s:=by
 have Y:Vals (vs++dvs) (us++ds):=r.append hd
 have W:(us++ds).length=ps.length:=by rw[<-Y.length];exact F.len _ _ _ _ h
 refine wpAny_call (codeAny_mono (F.run X.A X.stack s H ⟨us,[]⟩ (us++ds) (vs++dvs) Q E D I.env0 (J s us I.kIn W) Y h) λr s' Z=>?_)
 cases r with
 |error e=>exact B pins σ H s e s' I Z
 |ok fl=>
  cases fl with
  |ret u=>exact I.after Z
  |next=>exact False.elim Z
  |brk=>exact False.elim Z
  |cont=>exact False.elim Z
theorem O7(F:FnOk X.prog X.w X.K X.mg X.base CX k f fd ps sp)(O:Room k X.A)(hg:Gl X x)(hm:X.mg x=some (.ref f))(Y:PySem.W.keepIn X.K (.ref f)=true)(hb:Binds X.K fd ps ds)(hd:Vals dvs ds)(J:Passes CX X E)
 (ha:PA X (e::es) t) (D:(x==("__debug__":Str))=false:=by decide) (he:starEach (e::es) X.env=(false,eval e X.env)::starEach es X.env:=by rfl) (B:(backTo pos (starEach es X.env)).any (·.1)=false:=by rfl) :
 PE X (.Call (.Name x p) (e::es) [] pos) (R7 sp dvs E t):=by
 intro pins s σ H Q I h
 refine wpAny_Call_Name_kw (Gg I hg hm ?_ D)
 refine PySem.W.callWith_K (h₀:=X.base) I.ok.mod.kin Y (thn (ha pos pins s σ H _ I h) λus s1 ⟨vs,H1,Z,r,q⟩=>⟨Z.kIn,?_⟩) he B
 exact T4 F O hb hd J Z r q
structure Mk(K:PySem.W.Frag)(C f:Addr):Prop where
 makes:PySem.W.makesIn K C=true
 init:PySem.W.findIn K (.ref C) "__init__"=some (some (.ref f))
 fn:PySem.W.isFn K (.ref f)=true
 kp:PySem.W.keepIn K (.ref C)=true
end
section
variable{X:Cx}{CX:CXT}{k:Nat}{f C:Addr}{fd:FuncData}{ps ks:List Str}{sp:Sp}{E:XK}{x m:Str}{p pos apos kpos:Pos}{e o:Expr}{es:List Expr}{kws:List Keyword}{te ta:TE}{t tk:TA}{nm:Option Str}
structure KBinds(K:PySem.W.Frag)(fd:FuncData)(ps ks:List Str)(g:List Value->List Value->List Value)(gV:List V->List V->List V):Prop where
 to:∀(s:Shared)(us ws:List Value),K.In s.heap->(g us ws).length=ps.length->BindsTo s fd ⟨us,ks.zip ws⟩ (ps.zip (g us ws))
 rel:∀{vs:List V}{us:List Value}{zs:List V}{ws:List Value},Vals vs us->Vals zs ws->Vals (gV vs zs) (g us ws)
variable{g:List Value->List Value->List Value}{gV:List V->List V->List V}
end
structure FnScope(N P:List Str)(sc:Scope):Prop where
 kind:sc.kind = .function
 co:sc.isCoroutine=false
 gen:sc.isGenerator=false
 nd:N.Nodup
 pre:N.take P.length=P
 par:∀x∈P,sc.names.lookup x=some .local\/sc.names.lookup x=some .cell
 nofree:∀y∈sc.names,y.2 ≠ .free
theorem yP{kindOf:Str->Option NameKind}:∀{binds:List (Str×Value)}{m:Str->Option Value},(∀v,(x,v)∉binds)->bindL kindOf binds m x=m x
 |[],_,_=>rfl
 | (n,v)::r,m,h=>by
  unfold bindL
  rw[yP λw hw=>h w (aJ _ hw)]
  split
  ·have:x≠n:=by rintro rfl;exact h v aC
   simp[this]
  ·rfl
theorem yQ{kindOf:Str->Option NameKind}:∀{binds:List (Str×Value)}{m:Str->Option Value},(∀v,(x,v)∉binds)->bindC kindOf binds m x=m x
 |[],_,_=>rfl
 | (n,v)::r,m,h=>by
  unfold bindC
  rw[yQ λw hw=>h w (aJ _ hw)]
  split
  ·rfl
  ·have:x≠n:=by rintro rfl;exact h v aC
   simp[this]
theorem yR{kindOf:Str->Option NameKind}{v:Value}:∀{P:List Str}{vs:List Value}{i:Nat}{m:Str->Option Value},P.Nodup->P[i]? = some x->vs[i]? = some v->kindOf x=some .local ->
 bindL kindOf (P.zip vs) m x=some v
 |[],_,_,_,_,h,_,_=>by simp at h
 |_::_,[],_,_,_,_,h,_=>by simp at h
 |p::P,w::vs,0,m,nd,h1,h2,Z=>by
  simp at h1 h2;subst h1;subst h2
  show bindL kindOf ((p,w)::P.zip vs) m p=_
  unfold bindL
  rw[yP λv Y=>(eN.mp nd).1 (lZ Y).1,if_pos Z]
  simp
 |p::P,w::vs,i+1,m,nd,h1,h2,Z=>by
  show bindL kindOf ((p,w)::P.zip vs) m x=_
  unfold bindL
  exact yR (i:=i) (eN.mp nd).2 (by simpa using h1) (by simpa using h2) Z
theorem yS{kindOf:Str->Option NameKind}{v:Value}:∀{P:List Str}{vs:List Value}{i:Nat}{m:Str->Option Value},P.Nodup->P[i]? = some x->vs[i]? = some v->kindOf x≠some .local ->
 bindC kindOf (P.zip vs) m x=some v
 |[],_,_,_,_,h,_,_=>by simp at h
 |_::_,[],_,_,_,_,h,_=>by simp at h
 |p::P,w::vs,0,m,nd,h1,h2,Z=>by
  simp at h1 h2;subst h1;subst h2
  show bindC kindOf ((p,w)::P.zip vs) m p=_
  unfold bindC
  rw[yQ λv Y=>(eN.mp nd).1 (lZ Y).1,if_neg Z]
  simp
 |p::P,w::vs,i+1,m,nd,h1,h2,Z=>by
  show bindC kindOf ((p,w)::P.zip vs) m x=_
  unfold bindC
  exact yS (i:=i) (eN.mp nd).2 (by simpa using h1) (by simpa using h2) Z
noncomputable def start(N:List Str)(vs:List V):St:=vs.map some++aP (N.length-vs.length) none
noncomputable def BR(CX:CXT)(P:Program)(w:World)(K:PySem.W.Frag)(mg:Str->Option Value)(base:Heap)(N:List Str)(qual:Str)(scope:Scope)(f:Addr)(cd:Value)(A:Around)(outer:List Env)(s:Shared)(H:Hp)(E:XK):Cx where
 prog:=P
 w:=w
 K:=K
 mg:=mg
 base:=base
 A:=A.deeper (envOfC qual scope s.heap.objs.size f cd)
 N:=N
 s₀:=s
 H₀:=H
 env:=envOfC qual scope s.heap.objs.size f cd
 outer:=outer
 stack:=envOfC qual scope s.heap.objs.size f cd::outer
 ex:=[]
 calm:=true
 fn:=λ_=>true
 pn:=[]
 xe:=λe s'=>wpAny (model P w) (A.deeper (envOfC qual scope s.heap.objs.size f cd)) (leaving (envOfC qual scope s.heap.objs.size f cd) e) (λ_ Z=>CX outer H s E e Z) (λY Z=>CX outer H s E Y Z) s'
theorem BW{sc:Scope}(h:sc.names.lookup x=some .cell):∃c,(cellsFrom n sc.names []).lookup x=some c:=by
 have q:=PySem.W.cellsFrom_some sc.names n [] (.inl h)
 exact Option.isSome_iff_exists.mp q
theorem Im{CX:CXT}{qual:Str}{scope:Scope}{outer:List Env}{s1:Shared}{E:XK}
 (S:FnScope N ps scope) (hd:A.handled=none) (B:Env0 P w K mg base A outer s H) (D:vs.length=ps.length) (r:Vals vs us)
 (x:InCallC s s.heap.objs.size (bindL (envOfC qual scope s.heap.objs.size f cd).kindOf (ps.zip us) λ_=>none) (cellsFrom (s.heap.objs.size+1) scope.names []) (bindC (envOfC qual scope s.heap.objs.size f cd).kindOf (ps.zip us) λ_=>none) s1) :
 Inv (BR CX P w K mg base N qual scope f cd A outer s H E) [] (start N vs) H s1:=by
 have R:ps.length<=N.length:=by have:=congrArg m6 S.pre;rw[bR]at this;omega
 obtain⟨h1,tk,rfl,U⟩:=x.done
 have Z:∀b:Addr,b∉(BR CX P w K mg base N qual scope f cd A outer s H E).ex:=λb z=>absurd (show b∈([]:List Addr)from z) (by simp)
 refine⟨⟨B.mod,S.kind,rfl,rfl,aL _,λy z c h1 h2=>?_,λy Y=>?_,λy c _ h=>?_,λ_=>hd,Around.frames_deeper B.frames,.inr ⟨rfl,rfl⟩,λb z=>absurd z (Z b),B.bs,B.bsz,λb _ _=>Z b,λb z=>absurd z (Z b),B.funs,B.frf⟩,
  rfl,B.bare,Un.kept U,⟨_,x.toInCall.ns,λi y v h1 h2 Q=>?_⟩,λy c h=>⟨_,x.cell y c h⟩,B.hok.fresh (aL _),λy c h=>?_,λp W=>absurd (show p∈([]:List (Addr×Obj))from W) (by simp),B.hok.kept U,?_⟩
 ·exact name_of_addr x.apart (PySem.mem_of_lookup h1) (PySem.mem_of_lookup h2)
 ·have Y:scope.names.lookup y=some .cell\/scope.names.lookup y=some .free:=Y
  rcases Y with Y|Y
  ·exact BW Y
  ·exact absurd rfl (S.nofree _ (PySem.mem_of_lookup Y))
 ·exact eY (x.above y c (PySem.mem_of_lookup h))
 ·have hi:i<vs.length:=by
   unfold start at h2
   by_cases hi:i<vs.length
   ·exact hi
   ·rw[bM (by simpa using hi)]at h2
    rw[dJ]at h2
    split at h2<;>cases h2
  have ha:vs[i]? = some v:=by
   unfold start at h2
   rw[bQ (by simpa using hi),aX]at h2
   cases e:vs[i]? with
   |none=>rw[e]at h2;cases h2
   |some a=>rw[e]at h2;cases h2;rfl
  obtain⟨u,V,T⟩:=r.get ha
  have W:ps[i]? = some y:=by
   rw[<-S.pre,fL (by omega)];exact h1
  have X:ps.Nodup:=by rw[<-S.pre];exact S.nd.sublist (List.take_sublist _ _)
  refine⟨u,T,?_⟩
  rcases S.par y (fP W)with k|k
  ·exact .inl ⟨k,yR X W V k⟩
  ·obtain⟨c,e⟩:=BW (n:=s.heap.objs.size+1) k
   refine .inr ⟨.inl k,c,e,?_⟩
   have q:=x.cell y c e
   rw[yS X W V (by show scope.names.lookup y≠_;rw[k];decide)]at q
   exact q
 ·exact B.hok.fresh (eY (x.above y c (PySem.mem_of_lookup h)))
 ·unfold start
  show _=N.length
  rw[bJ,aB,bA]
  omega
theorem R8{CX:CXT}{k:Nat}{name qual:Str}{params:Arguments}{body:List Stmt}{scope:Scope}{dV kV doc cdv:Value}
 {osl:Array (Option Value)} {sp:Sp} (lk:K.lookup f=some ⟨oc,od,.func (PySem.W.fnOf name qual params body scope dV kV doc pm an cdv ct),osl⟩) (D:PySem.W.codeIn K cdv qual=true) (S:FnScope N ps scope)
 (len:∀vs H Q E,sp vs H Q E->vs.length=ps.length)
 (B:∀(A:Around)(outer:List Env)(s:Shared)(H:Hp)(vs:List V)(Q:VK)(E:XK),Room k (A.deeper (envOfC qual scope s.heap.objs.size f cdv))->sp vs H Q E ->
  ∃t,PSs (BR CX P w K mg base N qual scope f cdv A outer s H E) body t/\t {nx:=λ_ H'=>Q .non H',rt:=Q} (start N vs) H) :
 FnOk P w K mg base CX (k+1) f (PySem.W.fnOf name qual params body scope dV kV doc pm an cdv ct) ps sp:=by
 refine⟨len,λA outer s H args us vs Q E R X z r Y=>?_⟩
 have F:=len _ _ _ _ Y
 have O:K.In s.heap:=X.mod.kin.keeps λb o e=>(X.bs b o e).1
 have T:s.heap.NoLimit:=X.mod.nolimit.keeps λb o e=>(X.bs b o e).1
 have Z:∀y∈ps.zip us,scope.names.lookup y.1=some .local\/(scope.names.lookup y.1=some .cell/\((cellsFrom (s.heap.objs.size+1) scope.names []).lookup y.1).isSome=true):=λ⟨n,v⟩ M=>by
  rcases S.par n (lZ M).1 with q|q
  ·exact .inl q
  ·exact .inr ⟨q,PySem.W.cellsFrom_some _ _ _ (.inl q)⟩
 refine codeAny_call_function R.depth (O _ _ lk) rfl S.co S.gen rfl (PySem.W.codeRec_of O D) (z _ _ _ _ ?_)
 refine wpAny_newFunctionEnv_cells S.kind Z λenv C s1 x=>?_
 subst C
 refine⟨T.keeps x.toInCall.keep,codeAny_func ?_⟩
 obtain⟨t,L,G⟩:=B A outer s H vs Q E (R.deeper _) Y
 have I:Inv (BR CX P w K mg base N qual scope f cdv A outer s H E) [] (start N vs) H s1:=Im S R.hd X F r x
 refine wpAny_mono (L [] s1 (start N vs) H _ I G) (λfl s' hs=>?_) λe s' hs=>hs
 have fin:∀{σ':St}{H':Hp}{v:V}{u:Value},Inv (BR CX P w K mg base N qual scope f cdv A outer s H E) [] σ' H' s'->RelV v u->Q v H'->CE outer P w H s Q u s':=
  λ{σ' H' v u} J U q=>⟨v,H',J.os,J.bare,J.base,J.hok,U,q⟩
 cases fl with
 |ret u=>
  obtain⟨v,σ',H',J,U,q⟩:=hs
  exact fin J U q
 |next=>
  obtain⟨σ',H',J,q⟩:=hs
  exact fin (v:=V.non) (u:=Value.none) J rfl q
 |brk=>
  obtain⟨_,_,_,q⟩:=hs
  exact False.elim q
 |cont=>
  obtain⟨_,_,_,q⟩:=hs
  exact False.elim q
end L2
namespace L2
open PySem PySem.Spec PyProof.Rows
section
variable{X:Cx}{x:Str}{p pos:Pos}{e:Expr}{es:List Expr}{t:TA}{id T:String}{r:List V->Hp->VK->Prop}
noncomputable def tCB(r:List V->Hp->VK->Prop)(t:TA):TE:=λσ H Q=>t σ H λvs H1=>r vs H1 Q
theorem pZ(Y:m_ X (.builtin id) r)(O:Gl X x)(hm:X.mg x=none)(J:bootBuiltins x=some (.builtin id))(ha:PA X (e::es) t)(hn:x≠"__name__" := by decide)(D:(x==("__debug__":Str))=false:=by decide)
 (W:starEach (e::es) X.env=(false,eval e X.env)::starEach es X.env:=by rfl) (B:(backTo pos (starEach es X.env)).any (·.1)=false:=by rfl):PE X (.Call (.Name x p) (e::es) [] pos) (tCB r t):=by
 intro pins s σ H Q I h
 refine wpAny_Call_Name_kw (mq I O hm J ?_ hn D)
 exact PyProof.Rows.callWith_builtin1 (thn (ha pos pins s σ H _ I h) λus s1 ⟨vs,H1,V,Z,q1⟩=>Y pins s1 σ H1 vs us Q V Z q1) W B
theorem qx(Y:m_ X (.type T) r)(O:Gl X x)(hm:X.mg x=none)(J:bootBuiltins x=some (.type T))(ha:PA X (e::es) t)(hn:x≠"__name__" := by decide)(D:(x==("__debug__":Str))=false:=by decide)
 (W:starEach (e::es) X.env=(false,eval e X.env)::starEach es X.env:=by rfl) (B:(backTo pos (starEach es X.env)).any (·.1)=false:=by rfl):PE X (.Call (.Name x p) (e::es) [] pos) (tCB r t):=by
 intro pins s σ H Q I h
 refine wpAny_Call_Name_kw (mq I O hm J ?_ hn D)
 exact PyProof.Rows.callWith_type1 (thn (ha pos pins s σ H _ I h) λus s1 ⟨vs,H1,V,Z,q1⟩=>Y pins s1 σ H1 vs us Q V Z q1) W B
end
end L2
variable{sl:Addr}{vl vu:Value}
namespace HT
open PySem PyProof.Rows
section
open PySem.SeqAt
open PySem.AutoSeq1 (wpAny_loadPart')
open PySem.MeetsSeq PySem.MeetsSeq2 PySem.MeetsSeq3
end
section
variable{prog:Program}{w:World}{A:Around}{E:Value->Shared->Prop}{s:Shared}
noncomputable def sIx(n d:Nat):Option Int->Nat
 |none=>d
 |some v=>if v<0 then(v+(n:Int)).toNat else min v.toNat n
theorem T5(n d:Nat)(hd:d<=n)(o:Option Int):sIx n d o<=n:=by
 cases o with
 |none=>exact hd
 |some v=>
  show(if v<0 then(v+(n:Int)).toNat else min v.toNat n)<=n
  by_cases Z:v<0
  ·rw[if_pos Z];omega
  ·rw[if_neg Z];exact Nat.min_le_right _ _
theorem Gk(v:Int)(n d:Nat):(if v<0 then max (v+(n:Int)) 0 else min v (n:Int))=((sIx n d (some v):Nat):Int):=by
 show(if v<0 then max (v+(n:Int)) 0 else min v (n:Int))=(((if v<0 then(v+(n:Int)).toNat else min v.toNat n):Nat):Int)
 by_cases Z:v<0
 ·simp only[if_pos Z];omega
 ·simp only[if_neg Z];omega
theorem Ew(lo hi:Option Int)(n:Nat):Builtin.Slice.sliceAdjust lo hi 1 (n:Int)=(((sIx n 0 lo:Nat):Int),((sIx n n hi:Nat):Int)):=by
 have h1:¬((1:Int)<0):=by omega
 unfold Builtin.Slice.sliceAdjust
 simp only[h1,if_false]
 refine Prod.ext ?_ ?_
 ·cases lo with
  |none=>rfl
  |some v=>exact Gk v n 0
 ·cases hi with
  |none=>rfl
  |some v=>exact Gk v n n
theorem sy(i j:Nat):Builtin.Slice.slicePlaces (i:Int) (j:Int) 1=j-i:=by
 unfold Builtin.Slice.slicePlaces
 have h1:(1:Int)>0:=by omega
 simp only[h1,if_true,Int.ediv_one]
 split<;>omega
theorem wu{v:Value}{o:Option Int}{Q:Option Int->Shared->Prop}(p:IsPart v o)(h:Q o s):wpAny (model prog w) A (Builtin.Slice.slicePartIndex v) Q E s:=by
 cases p with
 |none=>exact slicePart_none h
 |int i t=>exact slicePart_int h
theorem oF{lo hi:Option Int}{Q:Int×Int×Nat->Shared->Prop}(hs:s.heap.IsSliceOf sl vl vu .none)(pl:IsPart vl lo)(B:IsPart vu hi)
 (h:Q (((sIx n 0 lo:Nat):Int),1,sIx n n hi-sIx n 0 lo) s):wpAny (model prog w) A (Builtin.Slice.sliceApplied (.ref sl) (pure (n:Int))) Q E s:=by
 obtain⟨os,Z,X,Y⟩:=id hs
 unfold Builtin.Slice.sliceApplied Builtin.Slice.sliceFields
 refine wpAny_bind (wpAny_bind (wpAny_field Z Y (x:=vl) rfl (wpAny_bind (wpAny_field Z Y (x:=vu) rfl (wpAny_bind (wpAny_field Z Y (x:=.none) rfl (wpAny_pure ?_)))))))
 refine wpAny_bind (slicePart_none ?_)
 show wpAny _ _ (if((1:Int)==0)=true then _ else _) _ _ s
 rw[if_neg (by decide)]
 refine wpAny_bind (wu pl (wpAny_bind (wu B (wpAny_bind (wpAny_pure ?_)))))
 show wpAny _ _ (match Builtin.Slice.sliceAdjust lo hi 1 (n:Int)with|(lo,hi)=>pure (lo,(1:Int),Builtin.Slice.slicePlaces lo hi 1)) _ _ s
 rw[Ew lo hi n]
 show wpAny _ _ (pure (((sIx n 0 lo:Nat):Int),(1:Int),Builtin.Slice.slicePlaces ((sIx n 0 lo:Nat):Int) ((sIx n n hi:Nat):Int) 1)) _ _ s
 rw[sy]
 exact wpAny_pure h
theorem Ke(xs:Array Value)(i k:Nat):((bC k).filterMap λ(m:Nat)=>xs[((i:Int)+(m:Int)*1).toNat]?).toArray=((xs.toList.drop i).take k).toArray:=by
 have e:(λ(m:Nat)=>xs[((i:Int)+(m:Int)*1).toNat]?)=λm=>xs[i+m]?:=by
  funext m
  have:((i:Int)+(m:Int)*1).toNat=i+m:=by omega
  rw[this]
 rw[e]
 have:=pick_run xs i k
 rw[List.filterMap_map]at this
 have Z:((λx=>xs[x]?)∘λx=>i+x)=λm=>xs[i+m]?:=rfl
 rw[Z]at this
 rw[this]
theorem tO{t:Addr}{items:Array Value}{lo hi:Option Int}(B:IsTup s.heap t items)(hs:s.heap.IsSliceOf sl vl vu .none)(pl:IsPart vl lo)(D:IsPart vu hi)
 (hw:¬(sIx items.size 0 lo=0/\sIx items.size items.size hi=items.size))
 (h:Q (.ref s.heap.objs.size) {s with heap:=s.heap.push {cls:=.type "tuple", data:=.seq ((items.toList.drop (sIx items.size 0 lo)).take (sIx items.size items.size hi-sIx items.size 0 lo)).toArray} })
 (J:items.size<=sizeLine):wpAny (model prog w) A (getItem (.ref t) (.ref sl)) Q E s:=by
 have Z:sizeOk (.seq ((items.toList.drop (sIx items.size 0 lo)).take (sIx items.size items.size hi-sIx items.size 0 lo)).toArray):=by
  show((items.toList.drop (sIx items.size 0 lo)).take (sIx items.size items.size hi-sIx items.size 0 lo)).toArray.size<=sizeLine
  rw[aV,bR,cL,bx]
  omega
 have T:sIx items.size items.size hi<=items.size:=T5 _ _ (aL _) hi
 obtain⟨os,Y,W,U⟩:=id hs
 have V:s.TypeIs (.ref sl) "slice" := ⟨os,Y,W⟩
 unfold getItem
 try with_reducible refine wpAny_holding ?_
 first|refine wpAny_bind (wpAny_pure ?_)|skip
 refine wpAny_bind (wpAny_sequenceKey B.typeIs (by decide) ?_)
 refine wpAny_bind (wpAny_callSpecial?_slot (name:=Str.ofString "__getitem__") B.typeIs PyProof.Rows.slot_tuple_getitem
  (wpAny_call_entry PyProof.Rows.slot_tuple_getitem B.typeIs entry_tuple_getitem ?_ (args_tuple_getitem _ _)))
 show wpAny _ _ (Builtin.Tuple.tupleItemsOf (.ref t) >>= _) _ _ s
 refine wpAny_bind (tupleItemsOf_ B ?_)
 refine wpAny_bind (wpAny_typeOf V ?_)
 rw[if_pos (by decide)]
 refine wpAny_bind (oF hs pl D ?_)
 have X:¬((((sIx items.size 0 lo:Nat):Int)==0&&(1:Int)==1&&(sIx items.size items.size hi-sIx items.size 0 lo)==items.size)=true):=by
  intro q
  rw[aU,aU]at q
  have q1:((sIx items.size 0 lo:Nat):Int)=0:=eq_of_beq q.1.1
  have q2:sIx items.size items.size hi-sIx items.size 0 lo=items.size:=eq_of_beq q.2
  exact hw ⟨by omega,by omega⟩
 show wpAny _ _ (if(((sIx items.size 0 lo:Nat):Int)==0&&(1:Int)==1&&(sIx items.size items.size hi-sIx items.size 0 lo)==items.size)=true then _ else _) _ _ s
 rw[if_neg X,Ke]
 first
  |exact wpAny_bind (m:=Builtin.Tuple.tupleExact _) (wpAny_newObj_type (wpAny_pure ⟨_,rfl,wpAny_pure h⟩) Z)
  |exact wpAny_bind (m:=Builtin.Tuple.tupleExact _) (wpAny_newObj_type (wpAny_bind (wpAny_pure (wpAny_pure ⟨_,rfl,wpAny_pure h⟩))) Z)
  |exact wpAny_bind (wpAny_bind (m:=Builtin.Tuple.tupleExact _) (wpAny_newObj_type (wpAny_pure (wpAny_pure ⟨_,rfl,wpAny_pure h⟩)) Z))
  |exact wpAny_bind (wpAny_bind (m:=Builtin.Tuple.tupleExact _) (wpAny_newObj_type (wpAny_pure ⟨_,rfl,wpAny_pure h⟩) Z))
end
end HT
namespace L2
open PySem PySem.Spec PyProof.Rows
noncomputable abbrev TO:=St->Hp->(Option Int->Hp->Prop)->Prop
noncomputable def PO(X:Cx)(e:Option Expr)(t:TO):Prop:=
 ∀(pins:List (Addr×Obj))(s:Shared)(σ:St)(H:Hp)(Q:Option Int->Hp->Prop),Inv X pins σ H s->t σ H Q ->
  wpAny (model X.prog X.w) X.A (evalPart e X.env) (λu s'=>∃o H',Inv X pins σ H' s'/\IsPart u o/\Q o H') X.xe s
noncomputable def O8:TO:=λ_ H Q=>Q none H
noncomputable def Wz(t:TE):TO:=λσ H Q=>t σ H λx H1=>∃i,x = .int i/\Q (some i) H1
section
variable{X:Cx}{e:Expr}{te:TE}{lo hi:Option Expr}{tl th:TO}{pos p2:Pos}
theorem O9:PO X none O8:=by
 intro pins s σ H Q I h
 rw[evalPart_none]
 exact wpAny_pure ⟨none,H,I,.none,h⟩
theorem O_(h:PE X e te):PO X (some e) (Wz te):=by
 intro pins s σ H Q I hw
 rw[evalPart_some]
 refine thn (h pins s σ H _ I hw) λu s1 ⟨x,H1,Y,Z,q1⟩=>?_
 obtain⟨i,rfl,q⟩:=q1
 obtain⟨t,rfl⟩:=Z
 exact⟨some i,H1,Y,.int i t,q⟩
noncomputable def SlR(X:Cx)(r:V->Option Int->Option Int->Hp->VK->Prop):Prop:=
 ∀(pins:List (Addr×Obj))(s:Shared)(σ:St)(H:Hp)(x:V)(v vl vu:Value)(lo hi:Option Int)(sl:Addr)(Q:VK),Inv X pins σ H s->RelV x v->s.heap.IsSliceOf sl vl vu .none->IsPart vl lo->IsPart vu hi->r x lo hi H Q ->
  ∃T id,typeLookup (.type T) "__getitem__"=pure (some (.builtin id))/\s.TypeIs v T/\wpAny (model X.prog X.w) X.A (getItem v (.ref sl)) (EP X pins σ Q) X.xe s
theorem SlR.or{r r':V->Option Int->Option Int->Hp->VK->Prop}(h:SlR X r)(h':SlR X r'):SlR X (λx lo hi H Q=>r x lo hi H Q\/r' x lo hi H Q):=by
 intro pins s σ H x v vl vu lo hi sl Q I Z hs pl Y q
 rcases q with q|q
 ·exact h pins s σ H x v vl vu lo hi sl Q I Z hs pl Y q
 ·exact h' pins s σ H x v vl vu lo hi sl Q I Z hs pl Y q
noncomputable def tSl(r:V->Option Int->Option Int->Hp->VK->Prop)(te:TE)(tl th:TO):TE:=λσ H Q=>te σ H λx H1=>tl σ H1 λl H2=>th σ H2 λu Z=>r x l u Z Q
theorem BX{r:V->Option Int->Option Int->Hp->VK->Prop}(D:SlR X r)(O:PE X e te)(J:PO X lo tl)(B:PO X hi th):PE X (.Subscript e (.Slice lo hi none p2) pos) (tSl r te tl th):=by
 intro pins s σ H Q I h
 refine Subscript_ (thn (O pins s σ H _ I h) λv s1 ⟨x,H1,K,Y,q1⟩=>?_)
 refine wpAny_Slice (thn (J pins s1 σ H1 _ K q1) λvl s2 ⟨l,H2,L,pl,q2⟩=>thn (B pins s2 σ H2 _ L q2) λvu s3 ⟨u,Z,M,U,W⟩=>?_)
 rw[evalPart_none]
 refine wpAny_pure ?_
 have N:Inv X pins σ Z {s3 with heap:=s3.heap.push {cls:=.type "slice", data:=.fields #[vl,vu,.none]} }:=M.kept (t':=s3.toks) λb G q=>Heap.get?_push_of_some _ q
 obtain⟨T,id,P,S,R⟩:=D pins {s3 with heap:=s3.heap.push {cls:=.type "slice", data:=.fields #[vl,vu,.none]} } σ Z x v vl vu l u s3.heap.objs.size Q N Y (Heap.IsSliceOf.new ..) pl U W
 show wpAny (model X.prog X.w) X.A (subscriptTail e (.Slice lo hi none p2) v (.ref s3.heap.objs.size)) (EP X pins σ Q) X.xe {s3 with heap:=s3.heap.push {cls:=.type "slice", data:=.fields #[vl,vu,.none]} }
 exact tail_any (ops:=[.ref s3.heap.objs.size,v]) S P R (by with_unfolding_all rfl)
noncomputable def BZ(xs:List V)(lo hi:Option Int):List V:=(xs.drop (HT.sIx xs.length 0 lo)).take (HT.sIx xs.length xs.length hi-HT.sIx xs.length 0 lo)
theorem uU(xs:List V)(lo hi:Option Int):(BZ xs lo hi).length<=xs.length:=by
 unfold BZ
 rw[bR,cL]
 omega
noncomputable def Zd(K:PySem.W.Frag):V->Option Int->Option Int->Hp->VK->Prop:=λx lo hi H Q=>∃a xs,x = .ref a/\SqT K H a xs /\
 ¬(HT.sIx xs.length 0 lo=0/\HT.sIx xs.length xs.length hi=xs.length)/\∀p,H p=none->Q (.ref p) (upd H p (.tup (BZ xs lo hi)))
theorem T6:SlR X (Zd X.K):=by
 intro pins s σ H x v vl vu lo hi sl Q I W hs pl V h
 obtain⟨a,xs,rfl,U,hw,q⟩:=h
 cases W
 obtain⟨its,r,Y,Z⟩:=I.tuple U
 have hlen:its.toArray.size=xs.length:=by rw[aV];exact r.length.symm
 refine⟨"tuple", _,PyProof.Rows.slot_tuple_getitem.lookup,Y.typeIs,?_⟩
 refine HT.tO Y hs pl V (by rw[hlen];exact hw) ?_ (by rw[hlen];exact Z)
 rw[hlen]
 refine⟨.ref s.heap.objs.size,_,I.laid (t':=s.toks) (o:=.tup (BZ xs lo hi)) (λb T q=>Heap.get?_push_of_some _ q) (aL _) ?_,rfl,q _ (I.hok.fresh (aL _))⟩
 exact⟨bL (uU xs lo hi) Z,_,(r.drop (HT.sIx xs.length 0 lo)).take (HT.sIx xs.length xs.length hi-HT.sIx xs.length 0 lo),IsTup.new _ _⟩
end
end L2
variable{r r':L2.R2}{its:List Value}{T:String}
namespace L2
open PySem PySem.Spec PyProof.Rows
noncomputable def ixN(n:Nat)(i:Int):Option Nat:=if 0<=i then(if i<n then some i.toNat else none)else if -(n:Int)<=i then some (i+n).toNat else none
noncomputable def atI{α:Type}(xs:List α)(i:Int):Option α:=(ixN xs.length i).bind λj=>xs[j]?
theorem Gm{i:Int}(h:ixN n i=some j):seqIndex? i n=some j/\j<n/\-(n:Int)<=i/\i<n:=by
 unfold ixN at h
 by_cases Z:0<=i
 ·rw[if_pos Z]at h
  by_cases h1:i<n
  ·rw[if_pos h1]at h
   have e:i.toNat=j:=cQ.inj h
   exact⟨by rw[seqIndex_of Z h1,e],by omega,by omega,h1⟩
  ·rw[if_neg h1]at h;cases h
 ·rw[if_neg Z]at h
  by_cases h1 : -(n:Int)<=i
  ·rw[if_pos h1]at h
   have e:(i+n).toNat=j:=cQ.inj h
   exact⟨by rw[seqIndex_neg (by omega) h1,e],by omega,h1,by omega⟩
  ·rw[if_neg h1]at h;cases h
theorem vD{α:Type}{xs:List α}{i:Int}{v:α}(h:atI xs i=some v):∃j,seqIndex? i xs.length=some j/\xs[j]? = some v/\j<xs.length/\-(xs.length:Int)<=i/\i<xs.length:=by
 unfold atI at h
 cases e:ixN xs.length i with
 |none=>rw[e]at h;cases h
 |some j=>
  rw[e]at h
  obtain⟨h1,h2,Y,Z⟩:=Gm e
  exact⟨j,h1,h,h2,Y,Z⟩
noncomputable def vG(b:Expr):Prop:=∀o i,subscripted b false o i=operate [o,i] (getItem o i)
noncomputable def IxR(X:Cx)(r:R2):Prop:=
 ∀(value slice:Expr)(pins:List (Addr×Obj))(s:Shared)(σ:St)(H:Hp)(x y:V)(v u:Value)(Q:VK),Inv X pins σ H s->RelV x v->RelV y u->r x y H Q ->
  subscripted slice false v u=operate [v,u] (getItem v u)->wpAny (model X.prog X.w) X.A (subscriptTail value slice v u) (EP X pins σ Q) X.xe s
noncomputable def MtR(X:Cx)(id:String)(r:V->List V->Hp->VK->Prop):Prop:=
 ∀(pins:List (Addr×Obj))(s:Shared)(σ:St)(H:Hp)(x:V)(xs:List V)(v:Value)(us:List Value)(Q:VK),Inv X pins σ H s->RelV x v->Vals xs us->r x xs H Q ->
  wpAny (model X.prog X.w) X.A (call (.builtin id) (v::us)) (EP X pins σ Q) X.xe s
section
variable{X:Cx}{a b:Expr}{ta tb:TE}{pos:Pos}
theorem IxR.or(h:IxR X r)(h':IxR X r'):IxR X (λx y H Q=>r x y H Q\/r' x y H Q):=by
 intro value slice pins s σ H x y v u Q I Y Z q hs
 rcases q with q|q
 ·exact h value slice pins s σ H x y v u Q I Y Z q hs
 ·exact h' value slice pins s σ H x y v u Q I Y Z q hs
theorem R9(B:IxR X r)(ha:PE X a ta)(D:PE X b tb)(hs:vG b):PE X (.Subscript a b pos) (tOp r ta tb):=by
 intro pins s σ H Q I h
 exact Subscript_ (TJ ha D I h λv u s2 x y H2 W Y Z q=>B a b pins s2 σ H2 x y v u Q W Y Z q (hs _ _))
noncomputable def WD(K:PySem.W.Frag):R2:=λx y H Q=>∃p xs i v,x = .ref p/\y = .int i/\SqL K H p xs/\atI xs i=some v/\Q v H
noncomputable def WK(K:PySem.W.Frag):R2:=λx y H Q=>∃p xs i v,x = .ref p/\y = .int i/\SqT K H p xs/\atI xs i=some v/\Q v H
noncomputable def WL:R2:=λx y H Q=>∃z i c,x = .str z/\y = .int i/\z.length<=sizeLine/\atI z.cps.toList i=some c/\Q (.str ⟨#[c]⟩) H
theorem Pa:IxR X (WD X.K):=by
 intro value slice pins s σ H x y v u Q I T U h hs
 obtain⟨p,xs,i,z,rfl,rfl,S,P,q⟩:=h
 cases T
 obtain⟨t,rfl⟩:=U
 obtain⟨its,r,pl,M⟩:=I.list S
 obtain⟨j,h1,h2,L,N,O⟩:=vD P
 obtain⟨w,V,Z⟩:=r.get h2
 have R:=r.length
 have hn:=uw
 have fin:EP X pins σ Q w s:=⟨z,H,I,Z,q⟩
 by_cases W:0<=i
 ·have Y:i.toNat=j:=by
   rw[seqIndex_of W O]at h1
   exact cQ.inj h1
  exact item_listR pl.isList W (by omega) (by rw[Y];simpa using V) fin hs
 ·have Y:(i+(its.toArray.size:Int)).toNat=j:=by
   rw[seqIndex_neg (by omega) N]at h1
   rw[aV,<-R]
   exact cQ.inj h1
  exact subscriptTail_builtinR (x:=w) pl.isList.typeIs slot_list_getitem.lookup
   (wpAny_getItem_list_neg (Q:=λr s'=>r=w/\EP X pins σ Q r s') pl.isList (by omega) (by rw[aV]<;>omega) (by omega) (by rw[Y];simpa using V) ⟨rfl,fin⟩) hs
theorem T7:IxR X (WK X.K):=by
 intro value slice pins s σ H x y v u Q I W Y h hs
 obtain⟨p,xs,i,z,rfl,rfl,V,T,q⟩:=h
 cases W
 obtain⟨t,rfl⟩:=Y
 obtain⟨its,r,pl,R⟩:=I.tuple V
 obtain⟨j,h1,h2,N,O,P⟩:=vD T
 obtain⟨w,S,Z⟩:=r.get h2
 have U:=r.length
 have hn:=uw
 have fin:EP X pins σ Q w s:=⟨z,H,I,Z,q⟩
 exact subscriptTail_builtinR (x:=w) pl.typeIs slot_tuple_getitem.lookup
  (getItem_tuple (j:=j) (Q:=λr s'=>r=w/\EP X pins σ Q r s') pl (by omega) (by omega) (by rw[aV,<-U];exact h1) (by simpa using S) ⟨rfl,fin⟩) hs
theorem T8:IxR X WL:=by
 intro value slice pins s σ H x y v u Q I Y Z h hs
 obtain⟨z,i,c,rfl,rfl,P,V,q⟩:=h
 obtain⟨t,rfl⟩:=Y
 obtain⟨t',rfl⟩:=Z
 obtain⟨j,h1,h2,O,T,U⟩:=vD V
 have W:z.cps.toList.length=z.length:=by simp[Str.length]
 rw[W]at h1 T U
 have hn:=uw
 exact tail_any (typeIs_str s z t) slot_str_getitem.lookup (getItem_str (c:=c) (by
  have R:decide (i < -(2^63:Int))=false:=dFa (by omega)
  have S:decide (i≥2^63)=false:=dFa (by omega)
  rw[R,S,Bool.or_false]) (by rw[h1];simpa using h2) ⟨.str ⟨#[c]⟩,H,I.tok _,⟨_,rfl⟩,q⟩) hs
noncomputable def rIx(K:PySem.W.Frag):R2:=λx y H Q=>WD K x y H Q\/WK K x y H Q\/WL x y H Q
theorem Kf:IxR X (rIx X.K):=Pa.or (T7.or T8)
theorem Ey(its:List Value)(n j:Nat)(u:Value):Obj.mapSeq (·.setIfInBounds j u) {cls:=.type "list", data:=.seq its.toArray n}={cls:=.type "list", data:=.seq (its.set j u).toArray n}:=by
 simp[Obj.mapSeq]
theorem Inv.lst{pins:List (Addr×Obj)}{σ:St}{H:Hp}{s:Shared}{p:Addr}{xs:List V}(I:Inv X pins σ H s)(h:H p=some (.lst xs)):
 ∃(its:List Value)(n:Nat),Vals xs its/\s.heap.get? p=some {cls:=.type "list", data:=.seq its.toArray n}/\xs.length<=sizeLine:=by
 obtain⟨z,its,n,r,e⟩:=I.hok p _ h
 exact⟨its,n,r,e,z⟩
theorem Inv.lstUpd{σ:St}{p:Addr}{xs ys:List V}{its':List Value}{B:Nat}{f:Obj->Obj}(I:Inv X pins σ H s)(h:H p=some (.lst xs))
 (J:s.heap.get? p=some {cls:=.type "list", data:=.seq its.toArray n}) (D:f {cls:=.type "list", data:=.seq its.toArray n}={cls:=.type "list", data:=.seq its'.toArray B}) (r:Vals ys its') (hz:ys.length<=sizeLine) (t:Nat) :
 Inv X pins σ (upd H p (.lst ys)) {s with heap:=s.heap.update p f,toks:=t}:=by
 have e:(s.heap.update p f).get? p=some {cls:=.type "list", data:=.seq its'.toArray B}:=by
  rw[Heap.get?_update_self f J (by rw[D]<;>rfl),D]
 refine I.write (x:=p) (e:=p) (by rw[h];trivial) (.inl rfl) (λb u Z q=>(Heap.get?_update_other _ _ (Ne.symm Z)).trans q) ⟨_,e⟩ ?_
 exact⟨hz,its',B,r,e⟩
noncomputable def WM:V->V->V->Hp->(Hp->Prop)->Prop:=λo i v H Q=>∃p xs k j,o = .ref p/\i = .int k/\H p=some (.lst xs)/\ixN xs.length k=some j/\Q (upd H p (.lst (xs.set j v)))
theorem set_list:Wn X WM:=by
 intro pins s σ H o i v J G u Q I N M O h
 obtain⟨p,xs,k,j,rfl,rfl,U,K,q⟩:=h
 cases N
 obtain⟨t,rfl⟩:=M
 obtain⟨its,n,r,Z,L⟩:=I.lst U
 obtain⟨h1,h2,S,T⟩:=Gm K
 have Y:=r.length
 have hn:=uw
 have P:Inv X pins σ (upd H p (.lst (xs.set j v))) {s with heap:=s.heap.update p (Obj.mapSeq (·.setIfInBounds j u))}:=
  I.lstUpd U Z (Ey its n j u) (r.set O j) (by rw[cV];exact L) s.toks
 by_cases R:0<=k
 ·have V:k.toNat=j:=by
   rw[seqIndex_of R T]at h1
   exact cQ.inj h1
  exact PySem.W.ki_setAt Z R (by omega) (by rw[aV,<-Y];exact T) (by rw[V];exact⟨_,P,q⟩)
 ·have V:(k+(its.toArray.size:Int)).toNat=j:=by
   rw[seqIndex_neg (by omega) S]at h1
   rw[aV,<-Y]
   exact cQ.inj h1
  exact PySem.W.ki_setBack Z (by omega) (by rw[aV,<-Y];exact S) (by omega) (by rw[V];exact⟨_,P,q⟩)
theorem zU(lo hi:Option Int)(n:Nat):(sliceBounds lo hi none n).1=((HT.sIx n 0 lo:Nat):Int)/\(sliceBounds lo hi none n).2.1=((HT.sIx n n hi:Nat):Int)/\(sliceBounds lo hi none n).2.2=1:=by
 refine⟨?_,?_,rfl⟩
 ·cases lo with
  |none=>simp[sliceBounds,HT.sIx]
  |some i=>
   simp only[sliceBounds,HT.sIx,Option.getD_none,show(1:Int)>0 by decide,if_true]
   by_cases h:i<0
   ·simp only[h,if_true]<;>omega
   ·simp only[h,if_false]<;>omega
 ·cases hi with
  |none=>simp[sliceBounds,HT.sIx]
  |some i=>
   simp only[sliceBounds,HT.sIx,Option.getD_none,show(1:Int)>0 by decide,if_true]
   by_cases h:i<0
   ·simp only[h,if_true]<;>omega
   ·simp only[h,if_false]<;>omega
theorem yD(its:List Value)(lo hi:Option Int):slicePick its.toArray lo hi none=((its.drop (HT.sIx its.length 0 lo)).take (HT.sIx its.length its.length hi-HT.sIx its.length 0 lo)).toArray:=by
 obtain⟨h1,h2,Z⟩:=zU lo hi its.toArray.size
 unfold slicePick
 rw[h1,h2,Z]
 simp only[sliceRange_one,pick_run,aV]<;>rfl
noncomputable def Ze(K:PySem.W.Frag):V->Option Int->Option Int->Hp->VK->Prop:=λx lo hi H Q=>∃a xs,x = .ref a/\SqL K H a xs/\∀p,H p=none->Q (.ref p) (upd H p (.lst (BZ xs lo hi)))
theorem Pg:SlR X (Ze X.K):=by
 intro pins s σ H x v vl vu lo hi sl Q I Y hs pl W h
 obtain⟨a,xs,rfl,U,q⟩:=h
 cases Y
 obtain⟨its,r,Z,V⟩:=I.list U
 have hlen:=r.length
 refine⟨"list", _,slot_list_getitem.lookup,Z.isList.typeIs,?_⟩
 refine wpAny_getItem_list_slice Z.isList hs pl W .none (by simp) ?_ (by rw[aV]<;>omega)
 rw[yD,<-hlen]
 refine⟨.ref s.heap.objs.size,_,I.laid (t':=s.toks) (o:=.lst (BZ xs lo hi)) (λb T q=>Heap.get?_push_of_some _ q) (aL _) ?_,rfl,q _ (I.hok.fresh (aL _))⟩
 exact⟨bL (uU xs lo hi) V,_,0,(r.drop (HT.sIx xs.length 0 lo)).take (HT.sIx xs.length xs.length hi-HT.sIx xs.length 0 lo),Heap.get?_push_size _ rfl⟩
theorem cH:m_ X (.builtin "len") (λxs H Q=>∃p ys,xs=[.ref p]/\(SqL X.K H p ys\/SqT X.K H p ys)/\Q (.int ys.length) H):=by
 intro pins s σ H xs us Q I r h
 obtain⟨p,ys,rfl,Z,q⟩:=h
 obtain⟨u,rfl,Y⟩:=vals1 r
 cases Y
 have hn:=uw
 rcases Z with Z|Z
 ·obtain⟨its,r',pl,W⟩:=I.list Z
  have hlen:=r'.length
  exact Calls.call_len_list pl.isList (by simp only[aV]<;>omega) ⟨.int ys.length,H,I.tok _,⟨s.toks+1,by rw[aV,hlen]⟩,q⟩
 ·obtain⟨its,r',pl,W⟩:=I.tuple Z
  have hlen:=r'.length
  exact len_tuple pl (by simp only[aV]<;>omega) ⟨.int ys.length,H,I.tok _,⟨s.toks+1,by rw[aV,hlen]⟩,q⟩
theorem zV:m_ X (.type "list") (λxs H Q=>∃p ys,xs=[.ref p]/\(SqL X.K H p ys\/SqT X.K H p ys)/\∀l,H l=none->Q (.ref l) (upd H l (.lst ys))):=by
 intro pins s σ H xs us Q I r h
 obtain⟨p,ys,rfl,Y,q⟩:=h
 obtain⟨u,rfl,U⟩:=vals1 r
 cases U
 have fin:∀(its:List Value),Vals ys its->ys.length<=sizeLine->∀(h':Heap)(c':Nat),(∀b o',s.heap.get? b=some o'->h'.get? b=some o') ->
  h'.get? s.heap.objs.size=some {cls:=.type "list", dict:=none,data:=.seq its.toArray c',slots:=#[]}->EP X pins σ Q (.ref s.heap.objs.size) {s with heap:=h'}:=λits r' Z h' c' kp e=>
  ⟨.ref s.heap.objs.size,_,I.laid (t':=s.toks) kp (aL _) (show gP X.prog X.w _ h' _ (.lst ys)from⟨Z,its,c',r',e⟩),rfl,q _ (I.hok.fresh (aL _))⟩
 rcases Y with Y|Y
 ·obtain⟨its,r',pl,Z⟩:=I.list Y
  have hlen:=r'.length
  obtain⟨o,W,V,n,hd⟩:=pl.isList
  exact call_list_seq p (.inl rfl) W V hd (λh' c' kp e=>fin its r' Z h' c' kp e) (by simp only[aV]<;>omega)
 ·obtain⟨its,r',pl,Z⟩:=I.tuple Y
  have hlen:=r'.length
  obtain⟨o,W,V,n,hd⟩:=pl
  exact call_list_seq p (.inr rfl) W V hd (λh' c' kp e=>fin its r' Z h' c' kp e) (by simp only[aV]<;>omega)
theorem rN:m_ X (.type "tuple") (λxs H Q=>∃p ys,xs=[.ref p]/\((SqL X.K H p ys/\∀l,H l=none->Q (.ref l) (upd H l (.tup ys)))\/(SqT X.K H p ys/\Q (.ref p) H))):=by
 intro pins s σ H xs us Q I r h
 obtain⟨p,ys,rfl,h⟩:=h
 obtain⟨u,rfl,V⟩:=vals1 r
 cases V
 rcases h with⟨Z,q⟩|⟨Z,q⟩
 ·obtain⟨its,r',pl,Y⟩:=I.list Z
  have hlen:=r'.length
  refine call_tuple_list pl.isList (λh' kp=>?_) (by simp only[aV]<;>omega)
  have W:Inv X pins σ H {s with heap:=h'}:=I.kept (t':=s.toks) kp
  have U:Inv X pins σ (upd H h'.objs.size (.tup ys)) {s with heap:=h'.push {cls:=.type "tuple", data:=.seq its.toArray} }:=
   W.laid (t':=s.toks) (λb o e=>Heap.get?_push_of_some _ e) (aL _) (show gP X.prog X.w _ _ _ (.tup ys)from⟨Y,its,r',IsTup.new _ _⟩)
  exact⟨.ref h'.objs.size,_,U,rfl,q _ (W.hok.fresh (aL _))⟩
 ·obtain⟨its,r',pl,Y⟩:=I.tuple Z
  exact call_tuple_same pl ⟨.ref p,H,I,rfl,q⟩
noncomputable def tyV(K:PySem.W.Frag)(T:String)(x:V)(H:Hp):Prop:=match x with
 | .str _=>T="str"
 | .int _=>T="int"
 | .ref p=>(T="list" /\ ∃xs,SqL K H p xs)\/(T="tuple" /\ ∃o,K.lookup p=some o/\o.cls = .type "tuple"/\o.dict=none) \/
  (T="dict"/\((∃kvs,H p=some (.dK kvs))\/∃kvs,H p=some (.dT kvs)))\/(T="set" /\ ∃S n,H p=some (.set S n))
 |_=>False
theorem T9{σ:St}{x:V}{v:Value}(I:Inv X pins σ H s)(r:RelV x v)(ty:tyV X.K T x H):
 s.TypeIs v T/\∀a,v = .ref a->∃B,s.heap.get? a=some B/\B.dict=none:=by
 cases x with
 |str z=>
  obtain⟨t,rfl⟩:=r
  cases(show T="str"from ty)
  exact⟨typeIs_str s z t,λ_ e=>nomatch e⟩
 |int i=>
  obtain⟨t,rfl⟩:=r
  cases(show T="int"from ty)
  exact⟨typeIs_int s i t,λ_ e=>nomatch e⟩
 |ref p=>
  cases r
  rcases ty with⟨rfl,xs,W⟩|⟨rfl,o,Z,U,hd⟩|⟨rfl,Z⟩|⟨rfl,S,n,Z⟩
  ·obtain⟨its,_,pl,_⟩:=I.list W
   refine⟨pl.isList.typeIs,λa e=>?_⟩
   cases e
   obtain⟨o,n,e,c,hd,_⟩:=pl
   exact⟨o,e,hd⟩
  ·refine⟨⟨o,I.kIn p o Z,U⟩,λa e=>?_⟩
   cases e
   exact⟨o,I.kIn _ o Z,hd⟩
  ·have z:∃o,s.heap.get? p=some o/\o.ExactDict:=by
    rcases Z with⟨kvs,Z⟩|⟨kvs,Z⟩
    ·obtain⟨_,_,_,_,o,_,_,e,ex,_⟩:=I.hok p _ Z
     exact⟨o,e,ex⟩
    ·obtain⟨_,_,_,_,o,_,_,e,ex,_⟩:=I.hok p _ Z
     exact⟨o,e,ex⟩
   obtain⟨o,e,ex⟩:=z
   refine⟨⟨o,e,ex.1⟩,λa Y=>?_⟩
   cases Y
   exact⟨o,e,ex.2.1⟩
  ·obtain⟨o,_,_,_,e,ex,_⟩:=I.hok p _ Z
   refine⟨⟨o,e,ex.1⟩,λa Y=>?_⟩
   cases Y
   exact⟨o,e,ex.2.1⟩
 |_=>exact False.elim ty
noncomputable def tBM(K:PySem.W.Frag)(T:String)(r:V->List V->Hp->VK->Prop)(to:TE)(t:TA):TE:=λσ H Q=>to σ H λx H1=>tyV K T x H1/\t σ H1 λxs H2=>r x xs H2 Q
variable{o e:Expr}{es:List Expr}{to:TE}{t:TA}{name:Str}{apos cpos:Pos}{T id:String}{r:V->List V->Hp->VK->Prop}
theorem WQ(pa:PlainAttrs T)(slot:Slot T name id)(W:typeOf (.builtin id)=pure (.type "method_descriptor"))(hm:MtR X id r)(ho:PE X o to)(ha:PA X (e::es) t)
 (J:attributeBase o name X.env (eval o X.env)=eval o X.env:=by rfl)
 (O:((backTo cpos (starEach (e::es) X.env)).all (λx=>!x.1)&&(backToKw cpos (keywordEach [] X.env)).all (λx=>x.1.isSome)
  && decide ((e::es).length+([]:List Keyword).length+(if([]:List Keyword).isEmpty then 0 else 1)<30))=true:=by rfl)
 (D:(apos.endLine==cpos.line)=true:=by rfl) (hs:starEach (e::es) X.env=(false,eval e X.env)::starEach es X.env:=by rfl) (B:(backTo cpos (starEach es X.env)).any (·.1)=false:=by rfl) :
 PE X (.Call (.Attribute o name apos) (e::es) [] cpos) (tBM X.K T r to t):=by
 intro pins s σ H Q I h
 refine wpAny_Call_method_late J O D rfl (thn (ho pins s σ H _ I h) λv s1 ⟨x,H1,V,Z,ty,q1⟩=>?_)
 obtain⟨h1,h2⟩:=T9 V Z ty
 refine⟨T,id,pa,slot,W,h1,h2,?_⟩
 have Y:=ha cpos pins s1 σ H1 _ V q1
 rw[hs]at Y ⊢
 refine Calls.callWith_builtin (by show(false||(backTo cpos (starEach es X.env)).any (·.1))=false;rw[B]<;>rfl) (Calls.evalArgs_plain ?_)
 exact thn Y λus s2 ⟨vs,H2,S,U,q2⟩=>hm pins s2 σ H2 x vs v us Q S Z U q2
/- xs.append(e),list.index on a module's tuple .. are MtR facts of 06m -/
end
end L2
namespace L2
open PySem PySem.Spec PyProof.Rows
noncomputable def MtM(X:Cx)(id:String)(r:V->List V->Hp->VK->Prop):Prop:=
 ∀(pins:List (Addr×Obj))(s:Shared)(σ:St)(H:Hp)(x:V)(xs:List V)(v:Value)(us:List Value)(Q:VK),Inv X pins σ H s->RelV x v->Vals xs us->r x xs H Q ->
  wpAny (model X.prog X.w) X.A (call (.builtin id) (v::us)) (EP X pins σ Q) X.xe s
theorem Vals.one:∀{x:V}{us:List Value},Vals [x] us->∃u,us=[u]/\RelV x u
 |_,_,.cons r .nil=>⟨_,rfl,r⟩
theorem Vals.zero:∀{us:List Value},Vals [] us->us=[]
 |_,.nil=>rfl
theorem Vals.dropLast{xs:List V}(h:Vals xs us):Vals xs.dropLast us.dropLast:=by
 induction h with
 |nil=>exact .nil
 |cons r t Z=>
  cases t with
  |nil=>exact .nil
  |cons q t'=>exact .cons r Z
theorem Vals.eraseIdx:∀{xs:List V}{us:List Value}(i:Nat),Vals xs us->Vals (xs.eraseIdx i) (us.eraseIdx i)
 |_,_,_,.nil=>.nil
 |_,_,0,.cons _ t=>t
 |_,_,i+1,.cons r t=>.cons r (Vals.eraseIdx i t)
theorem Vals.reverse{xs:List V}(h:Vals xs us):Vals xs.reverse us.reverse:=by
 induction h with
 |nil=>exact .nil
 |cons r t Z=>rw[jm,jm];exact Vals.append Z (.cons r .nil)
theorem Vals.rep{xs:List V}(h:Vals xs us):∀k:Nat,Vals (aP k xs).flatten (aP k us).flatten
 |0=>.nil
 |k+1=>by
  rw[cI,cI,eZ,eZ]
  exact Vals.append h (Vals.rep h k)
theorem foldl_rep(its:List Value):∀(k:Nat)(acc:List Value),
 vZ (λD B=>D++B) acc.toArray (aP k its.toArray)=(acc++(aP k its).flatten).toArray
 |0,acc=>by simp
 |k+1,acc=>by
  have e:acc.toArray++its.toArray=(acc++its).toArray:=by simp
  have Z:(acc++its)++(aP k its).flatten=acc++(aP (k+1) its).flatten:=by
   rw[cI,eZ,aQ]
  rw[<-Z,<-foldl_rep its k (acc++its),<-e,cI,List.foldl_cons]
section
variable{X:Cx}{pins:List (Addr×Obj)}{σ:St}{H:Hp}{s:Shared}{l b:Addr}{xs ys zs:List V}
theorem Inv.lset{its':List Value}{f:Array Value->Array Value}(I:Inv X pins σ H s)(J:H l=some (.lst xs))
 (e:s.heap.get? l=some {cls:=.type "list", data:=.seq its.toArray n}) (D:f its.toArray=its'.toArray) (B:Vals ys its') (hz:ys.length<=sizeLine) :
 Inv X pins σ (upd H l (.lst ys)) {s with heap:=s.heap.update l (Obj.mapSeq f),toks:=t'}:=by
 have q:=PySem.IsL.update e f
 rw[D]at q
 refine I.write (x:=l) (e:=l) (by rw[J];exact trivial) (.inl rfl) (λW u Y Z=>(Heap.get?_update_other s.heap (Obj.mapSeq f) (Ne.symm Y)).trans Z) ⟨_,q⟩ ?_
 exact⟨hz,its',_,B,q⟩
theorem Inv.lnew(I:Inv X pins σ H s)(B:Vals ys its)(hz:ys.length<=sizeLine):
 Inv X pins σ (upd H s.heap.objs.size (.lst ys)) {s with heap:=s.heap.push {cls:=.type "list", data:=.seq its.toArray},toks:=t'}:=
 I.laid (λ_ _ q=>Heap.get?_push_of_some _ q) (aL _) ⟨hz,its,0,B,Heap.get?_push_size _ rfl⟩
theorem Inv.fresh(I:Inv X pins σ H s):H s.heap.objs.size=none:=I.hok.fresh (aL _)
theorem Inv.lstM(I:Inv X pins σ H s)(B:H l=some (.lst xs)):xs.length<=sizeLine/\∃(its:List Value)(n:Nat),Vals xs its/\xs.length=its.length/\s.heap.get? l=some {cls:=.type "list", data:=.seq its.toArray n}:=by
 obtain⟨z,its,n,r,e⟩:=I.hok l _ B
 exact⟨z,its,n,r,r.length,e⟩
theorem Kg(h:n<=sizeLine):Builtin.List.listTooLong n=false:=by
 unfold Builtin.List.listTooLong
 exact dFa (by omega)
end
section
variable{X:Cx}
noncomputable def Ph:V->List V->Hp->VK->Prop:=λx vs H Q=>∃l xs y,x = .ref l/\vs=[y]/\H l=some (.lst xs)/\xs.length<sizeLine/\Q .non (upd H l (.lst (xs++[y])))
theorem yU:MtM X "list.append" Ph:=by
 intro pins s σ H x vs v us Q I Y W h
 obtain⟨l,xs,y,rfl,rfl,Z,U,q⟩:=h
 cases Y
 obtain⟨u,rfl,V⟩:=W.one
 obtain⟨z,its,n,r,T,e⟩:=I.lstM Z
 refine call_meets F.slot_list_append ⟨_,e,rfl⟩ F.entry_list_append (F.args_list_append_2 _ _) (PySem.list_append l its.toArray n u (by rw[aV];omega)) ⟨e,?_⟩
 refine⟨.non,_,I.lset (its':=its++[u]) Z e (by simp) (r.append (.cons V .nil)) ?_,rfl,q⟩
 rw[bJ,pP]
 omega
noncomputable def Zf:R2:=λx y H Q=>∃l k xs,x = .ref l/\y = .int k/\H l=some (.lst xs)/\-(2^63)<=k/\k<2^63/\xs.length*k.toNat<=sizeLine /\
 ∀p,H p=none->Q (.ref p) (upd H p (.lst (aP k.toNat xs).flatten))
theorem len_rep{α:Type}(xs:List α)(k:Nat):(aP k xs).flatten.length=k*xs.length:=by
 induction k with
 |zero=>simp
 |succ k Z=>rw[cI,eZ,bJ,Z,Nat.succ_mul,Nat.add_comm]
theorem T_:OpR X (binaryOp .Mult) Zf:=by
 intro pins s σ H x y v u Q I N O h
 obtain⟨l,k,xs,rfl,rfl,L,h1,h2,P,q⟩:=h
 cases N
 obtain⟨t,rfl⟩:=O
 obtain⟨z,its,n,r,M,e⟩:=I.lstM L
 have hlen:its.toArray.size*k.toNat<=sizeLine:=by rw[aV,<-M];exact P
 have V:¬its.toArray.size*k.toNat>(2^63-1)/8:=by
  have:(sizeLine:Nat)<=(2^63-1)/8:=by decide
  omega
 have W:¬(!Builtin.List.listFitsIndex k)=true:=by
  rw[fitsIndex_both h1 h2]
  exact aR
 have Z:¬Builtin.List.listTooLong (its.toArray.size*k.toNat)=true:=by
  rw[Kg hlen]
  exact aR
 have Y:vZ (λR S=>R++S) #[] (aP (if its.toArray.isEmpty=true then 0 else k.toNat) its.toArray)=(aP k.toNat its).flatten.toArray:=by
  have K:∀m:Nat,vZ (λR S=>R++S) #[] (aP m its.toArray)=(aP m its).flatten.toArray:=λm=>by
   have:=foldl_rep its m []
   rw[cW]at this
   exact this
  rw[K]
  cases its with
  |nil=>simp
  |cons a r'=>rw[if_neg (by simp)]
 refine wpAny_binaryOp_repeat_ref (T := "list") (U := "int") (by decide) ⟨_,e,rfl⟩ (λs'=>typeIs_int s' k t) noFill_list_mul F.fills_int_mul F.slot_int_rmul repeat_list F.slot_int_index.lookup
  (call_meets F.slot_int_rmul (typeIs_int s k t) F.entry_int_rmul (F.args_int_rmul_2 _ _) (int___rmul___int_list k t l its.toArray n)
   ⟨e,rfl,⟨_,e,rfl⟩,call_meets F.slot_list_mul ⟨_,e,rfl⟩ F.entry_list_mul (F.args_list_mul_2 _ _) (AutoListH.list___mul___list_int_3 l its.toArray n k t W V Z) ⟨e,?_⟩⟩)
 rw[Y]
 exact⟨.ref _,_,I.lnew (t':=s.toks) (r.rep k.toNat) (by rw[len_rep,Nat.mul_comm];exact P),rfl,q _ I.fresh⟩
end
section
variable{prog:Program}{w:World}{A:Around}{E:Value->Shared->Prop}{s:Shared}
set_option maxRecDepth 100000 in
end
section
variable{X:Cx}
end
end L2
variable{XP:(Str->Option Value)->Heap->Prop}{YP:World->Heap->Prop}{m:Str->Option Value}
namespace Att
open PySem PySem.W PySem.Calls PyProof.Rows
theorem vh{P:Params}:∀(ns:List Int)(vs:List Value),WellAll P h vs (ns.map WData.int)->IntsAre vs ns:=by
 intro ns
 induction ns with
 |nil=>
  intro vs w
  rw[o7]at w
  cases w
  exact .nil
 |cons n ns Z=>
  intro vs w
  rw[bf]at w
  cases w with
  |cons a b=>
   cases a
   exact .cons _ _ (Z _ b)
theorem Io{l:OpenLaw}(hn:l.most=some n){P:Params}{h:Heap}{args:List WData}{vals:List Value}
 (B:l.row.toRowW.claim.pre args=true) (D:WellAll P h vals args) :
 ∃a vs ns,vals=[Value.ref a]/\args=[WData.list (ns.map WData.int)]/\h.get? a=some {cls:=.type "list", data:=.seq vs.toArray}/\IntsAre vs ns/\ns.length<=n:=by
 have W:WShape.hasAll [] args [.list .int]=true:=(pre_splitW B).1
 have V:l.pre.holds [] {args:=args}=true:=(pre_splitW B).2
 obtain⟨d,r,rfl,h1,h2⟩:=hasAllW_cons W
 obtain rfl:=hasAllW_nil h2
 obtain⟨xs,rfl,Q⟩:=hasW_list h1
 obtain⟨ns,rfl⟩:=items_int Q
 have hlen:ns.length<=n:=by
  unfold OpenLaw.pre at V
  have X:(WTm.not (.lt (.lit (.int (n:Int))) (.len (.arg 0)))).holds [] {args:=[.list (ns.map .int)]}=true:=by
   have X:=(holds_andW V).1
   rw[hn]at X
   exact X
  have Y:=condW_of X (w_not (w_lt w_lit (w_len_list (w_arg rfl))))
  rw[aB]at Y
  refine Nat.le_of_not_lt λq=>?_
  have S:(n:Int)<((ns.length:Nat):Int):=by omega
  first
   | (rw[dTr S]at Y;exact absurd Y (by decide))
   | (simp at Y;omega)
 cases D with
 |cons T U=>
  cases U
  cases T with
  |list R Z=>exact⟨_,_,ns,rfl,rfl,R,vh ns _ Z,hlen⟩
theorem Ip(l:OpenLaw)(args:List WData):l.row.toRowW.claim.post args (.bool true) args=true:=
 postW_of (r:=l.row.toRowW) (X:=(true==true))
  (show WShape.has [] (.bool true) .bool=true by first|rfl|decide|simp[WShape.has,WShape.arms,WShape.armsAll])
  (show(WTm.eq .res (.lit (.bool true))).value [] {args:=args,res:=some (.bool true),after:=args}=some (.bool (true==true))from w_eq_bool (w_res rfl) w_lit) rfl
theorem B_{l:OpenLaw}{q:Program}{loose:List Str}{d:DefRec}
 (hn:l.most=some n) (J:d.params.defaults=[])
 (call:∀(w:World)(s₀ B:Shared)(mg D:Str->Option Value)(fa:Addr)(o:Obj)(pm cd doc:Value)(a:Addr)(vs:List Value)(ns:List Int),
  Ground q loose [] XP w s₀ mg D B.heap->YP w B.heap ->
  B.heap.get? fa=some o->o.data = .func (docDef d.name d.params d.body d.scope pm cd doc)->B.heap.CodeRec cd d.name->mg d.name=some (.ref fa) ->
  B.heap.get? a=some {cls:=.type "list", data:=.seq vs.toArray}->IntsAre vs ns->ns.length<=n->B.gens = #[] ->
  codeAny (model l.prog w) callerA (.call (.ref fa) ⟨[.ref a],[]⟩) (λr s'=>r = .ok (.ret (.bool true))/\OldK B.heap s'.heap/\s'.os=B.os/\AllBare s'.gens) B) :
 WalkO q loose XP YP l.row.toRowW d [] (λf vs=>PySem.call f vs):=by
 intro w s₀ B mg D G Y fa o pm cd doc dV kV P hd U S V N args vals as Z T R W O
 obtain rfl:dV = .none:=Dflts.none S J
 obtain rfl:kV = .none:=Dflts.noKw S
 obtain⟨a,vs,ns,rfl,rfl,X,hints,hlen⟩:=Io hn Z W
 refine enter_call (codeAny_mono (call w s₀ B mg D fa o pm cd doc a vs ns G Y P (fd_plain hd) U V X hints hlen N) λr s' Q=>?_)
 obtain⟨rfl,h2,L,M⟩:=Q
 exact⟨.inl ⟨.bool true,.bool true,[],rfl,λ_=>rfl,.bool true,Ip l _,λ_=>⟨List.Pairwise.nil,λ_ hm=>(nomatch hm)⟩⟩,h2,L,M⟩
section
variable{prog:Program}{w:World}{A:Around}{E:Value->Shared->Prop}{s:Shared}{K:Frag}
noncomputable def nR(h:Heap):Heap:={h with objs:=#[]}
theorem wA(h:Heap)(b:Addr):(nR h).get? b=none:=by
 cases e:(nR h).get? b with
 |none=>rfl
 |some o=>exact absurd (Heap.lt_size e) (Nat.not_lt_zero _)
theorem Ua{L:Addr}(n:h.Ns L m):Fr (nR h) L h m:=
 ⟨n,λb o e=>(by rw[wA]at e;cases e),cR _⟩
end
end Att
variable{CX:L2.CXT}{sp:L2.Sp}{ns:List Int}
namespace L2
open PySem PySem.Spec PyProof.Rows
theorem oG:∀{vs:List Value}{ns:List Int},IntsAre vs ns->Vals (ns.map V.int) vs
 |_,_,.nil=>.nil
 |_,_,.cons n t h=>.cons ⟨t,rfl⟩ (oG h)
noncomputable def Only(H:Hp):Prop:=∀b,H b=none\/∃o xs,H b=some (.frz o (.lst xs))
noncomputable def wC(ts:List (Addr×Str×Pos))(H:Hp):Hp:=λb=>match ts.find? (λt=>t.1==b)with
 |some t=>some (.tbl t.2.1 t.2.2)
 |none=>H b
theorem Kh(ts:List (Addr×Str×Pos))(H:Hp)(b:Addr):(wC ts H b=H b/\∀t∈ts,t.1≠b)\/∃t∈ts,t.1=b/\wC ts H b=some (.tbl t.2.1 t.2.2):=by
 unfold wC
 cases e:ts.find? (λt=>t.1==b)with
 |none=>exact .inl ⟨rfl,λt Z z=>by have:=iJ.mp e t Z;simp[z]at this⟩
 |some t=>
  have h1:=gU e
  have h2:=pJ e
  exact .inr ⟨t,h1,by simpa using h2,rfl⟩
theorem Kl{mb:Str->Option Value}{k:Nat}{fa:Addr}{B:Shared}{vs:List Value}
 (KX:K.In B.heap) (hns:B.heap.Ns mainGlobals mg) (D:B.heap.Ns builtinsNs mb) (hbb:∀x:Str,x≠"__name__"->mb x=bootBuiltins x) (hlim:B.heap.NoLimit) (hbm:∃bm O,mg "__builtins__"=some (.ref bm)/\bm≠builtinsNs/\B.heap.get? bm=some O/\O.cls = .type "module"/\O.dict=some builtinsNs/\O.data = .plain) (hg:B.gens = #[])
 (ha:B.heap.get? a=some {cls:=.type "list", data:=.seq vs.toArray}) (hi:IntsAre vs ns) (hl:ns.length<=sizeLine) (hr:Room k callerA)
 (F:∀base:Heap,K.In base->base.Ns mainGlobals mg->FnOk P w K mg base CX k fa fd [x] sp) (hbind:∀(s:Shared)(u:Value),BindsTo s fd ⟨[u],[]⟩ [(x,u)])
 (ts:List (Addr×Str×Pos)) (J:∀t∈ts,B.heap.get? t.1=some {cls:=.none,data:=.fields #[]}) (hCT:∀t∈ts,isCodeTable B.heap t.1) (hKt:∀t∈ts,K.lookup t.1=none) (htu:∀t∈ts,∀t'∈ts,t.1=t'.1->t=t')
 (hsp:∀H:Hp,(∀t∈ts,H t.1=some (.tbl t.2.1 t.2.2))->SqL K H a (ns.map V.int)->sp [.ref a] H (λv _=>v = .bl true) λ_ _ _=>False)
 (hCX:∀H e s',CX [] H B (λ_ _ _=>False) e s'->False) :
 codeAny (model P w) callerA (.call (.ref fa) ⟨[.ref a],[]⟩) (λr s'=>r = .ok (.ret (.bool true))/\OldK B.heap s'.heap/\s'.os=B.os/\AllBare s'.gens) B:=by
 have rv:=oG hi
 have N:=hi.length
 have core:∀H:Hp,(∀b,H b=none\/(∃o xs,H b=some (.frz o (.lst xs)))\/∃t∈ts,t.1=b/\H b=some (.tbl t.2.1 t.2.2))->(∀t∈ts,H t.1=some (.tbl t.2.1 t.2.2))->SqL K H a (ns.map V.int)->HOk P w H B.heap->(∀b,H b≠none->b=a\/∃t∈ts,t.1=b)->(H a≠none->K.lookup a=none) ->
  codeAny (model P w) callerA (.call (.ref fa) ⟨[.ref a],[]⟩) (λr s'=>r = .ok (.ret (.bool true))/\OldK B.heap s'.heap/\s'.os=B.os/\AllBare s'.gens) B:=by
  intro H M hT j hok I i
  have Z:∀{b:Addr}{o:Obj},B.heap.get? b=some o->H b=none->(zR B.heap H).get? b=some o:=λe n=>JW e n
  have C:∀{b:Addr}{o:Obj}{es:Array DictEntry}{ep:Nat},B.heap.get? b=some o->o.data = .dict es ep->H b=none:=λ{b o es ep} e d=>by
   cases q:H b with
   |none=>rfl
   |some u=>
    rcases I b (by rw[q];simp)with X|⟨t,Y,X⟩
    case inr=>
     subst X
     rw[J t Y]at e;cases e
     have d':Data.fields #[]=Data.dict es ep:=d
     cases d'
    subst X
    rw[ha]at e;cases e
    have d':Data.seq vs.toArray _=Data.dict es ep:=d
    cases d'
  have U:∀{b:Addr}{m:Str->Option Value},B.heap.Ns b m->(zR B.heap H).Ns b m:=λ{b m} ⟨o,es,ep,e,d,r⟩=>⟨o,es,ep,Z e (C e d),d,r⟩
  have L:K.In (zR B.heap H):=λb o e=>Z (KX b o e) (by
   cases q:H b with
   |none=>rfl
   |some u=>
    rcases I b (by rw[q];simp)with X|⟨t,Y,X⟩
    ·subst X
     rw[i (by rw[q];simp)]at e;cases e
    ·subst X
     rw[hKt t Y]at e;cases e)
  have hM:Mod K mg (zR B.heap H):=⟨L,U hns,⟨mb,U D,hbb⟩,let⟨mc,h1,h2⟩:=hlim;⟨mc,U h1,h2⟩,let⟨bm,O,g1,g2,G,g,g5,g6⟩:=hbm;⟨bm,O,g1,g2,Z G (by
   cases q:H bm with
   |none=>rfl
   |some u=>
    rcases I bm (by rw[q];simp)with X|⟨t,Y,X⟩
    ·rw[X,ha]at G;cases G
     have z:Value.type "list"=Value.type "module" := g
     injection z with z
     exact absurd z (by decide)
    ·rw[<-X,J t Y]at G;cases G
     cases g),g,g5,g6⟩⟩
  have e0:Env0 P w K mg (zR B.heap H) callerA [] B H:=⟨rfl,hM,λb o e=>Ot e,Nat.le_of_eq (Ia _ _),trivial,λb D=>absurd (show b∈([]:List Addr)from D) (by simp),hok,.of_eq hg⟩
  refine codeAny_mono ((F _ L (U hns)).run callerA [] B H ⟨[.ref a],[]⟩ [.ref a] [.ref a] _ _ hr e0 (hbind B (.ref a)) (.cons rfl .nil) (hsp H hT j)) λr s' h=>?_
  cases r with
  |error e=>exact(hCX H e s' h).elim
  |ok fl=>
   cases fl with
   |next=>exact False.elim h
   |brk=>exact False.elim h
   |cont=>exact False.elim h
   |ret u=>
    obtain⟨v,H',os,bare,un,T,r',q⟩:=h
    have q':v = .bl true:=q
    subst q'
    obtain rfl:u=Value.bool true:=r'
    refine⟨rfl,⟨λb o e=>?_,λb o e=>un.there b o e (by simp)⟩,os,bare⟩
    cases q:H b with
    |none=>exact .inl <| un.keep b o e q (by intro z;exact absurd (show b∈([]:List Addr)from z) (by simp)) (by simp)
    |some u=>
     rcases M b with z|⟨O,xs,z⟩|⟨t,Y,rfl,z⟩
     case inr.inr=>
      have z2:=un.tbls _ _ _ z
      obtain⟨ps,f,_⟩:=T _ _ z2
      rw[J t Y]at e;cases e
      exact .inr (.inl ⟨hCT t Y,rfl,#[],ps,rfl,by rw[f];simp⟩)
     ·rw[q]at z;cases z
     ·have z2:=un.frzs b O _ z
      obtain⟨e1,_⟩:=hok b _ z
      obtain⟨f,_⟩:=T b _ z2
      rw[e]at e1;cases e1
      exact .inl f
 have W:∀H:Hp,Only H->SqL K H a (ns.map V.int)->HOk P w H B.heap->(∀b,H b≠none->b=a)->(H a≠none->K.lookup a=none) ->
  codeAny (model P w) callerA (.call (.ref fa) ⟨[.ref a],[]⟩) (λr s'=>r = .ok (.ret (.bool true))/\OldK B.heap s'.heap/\s'.os=B.os/\AllBare s'.gens) B:=by
  intro H M j hok I i
  have na:∀t∈ts,t.1≠a:=λt Y z=>by
   have z2:=J t Y
   rw[z,ha]at z2
   cases z2
  have E:∀b,(wC ts H b=H b/\∀t∈ts,t.1≠b)\/∃t∈ts,t.1=b/\wC ts H b=some (.tbl t.2.1 t.2.2):=Kh ts H
  have A:wC ts H a=H a:=by
   rcases E a with z|⟨t,Y,z,_⟩
   ·exact z.1
   ·exact absurd z (na t Y)
  have R:∀b x,H b≠some (.own x):=λb x z=>by rcases M b with y|⟨_,_,y⟩<;>(rw[y]at z;cases z)
  have S:∀b x,H b≠some (.tup x):=λb x z=>by rcases M b with y|⟨_,_,y⟩<;>(rw[y]at z;cases z)
  refine core (wC ts H) (λb=>?_) (λt Y=>?_) ?_ (λb u z=>?_) (λb z=>?_) (λz=>i (by rw[<-A];exact z))
  ·rcases E b with z|⟨t,Y,z1,z2⟩
   ·rcases M b with y|y
    ·exact .inl (z.1.trans y)
    ·obtain⟨o,xs,y⟩:=y
     exact .inr (.inl ⟨o,xs,z.1.trans y⟩)
   ·exact .inr (.inr ⟨t,Y,z1,z2⟩)
  ·rcases E t.1 with z|⟨t',p,z1,z2⟩
   ·exact absurd rfl (z.2 t Y)
   ·have:=htu t' p t Y z1
    subst this
    exact z2
  ·rcases j with(z|⟨o,z⟩)|z
   ·exact .inl (.inl (by rw[A];exact z))
   ·exact .inl (.inr ⟨o,by rw[A];exact z⟩)
   ·exact .inr z
  ·rcases E b with y|⟨t,Y,z1,z2⟩
   ·rw[y.1]at z
    exact(hok b u z).stay (λ_ _ _ q=>q) (λc q=>absurd q (R c b)) λc xs q=>absurd q (S c xs)
   ·rw[z2]at z
    cases z
    subst z1
    exact⟨#[],J t Y,.inl rfl⟩
  ·rcases E b with y|⟨t,Y,z1,z2⟩
   ·exact .inl (I b (by rw[<-y.1];exact z))
   ·exact .inr ⟨t,Y,z1⟩
 cases l:K.lookup a with
 |some o=>
  have e:=KX a o l
  rw[ha]at e
  cases e
  refine W (λ_=>none) (λ_=>.inl rfl) (.inr ⟨_,vs.toArray,_,l,rfl,rfl,rfl,by rw[aV,N];exact hl,by simpa using rv⟩) (λb u z=>by have Q:(none:Option HO)=some u:=z;cases Q) (λb z=>absurd rfl z) λz=>absurd rfl z
 |none=>
  refine W (λb=>if b=a then some (.frz {cls:=.type "list", data:=.seq vs.toArray} (.lst (ns.map V.int)))else none) (λb=>?_) (.inl (.inr ⟨{cls:=.type "list", data:=.seq vs.toArray},if_pos rfl⟩)) (λb u z=>?_) (λb z=>?_) λ_=>l
  ·by_cases D:b=a
   ·exact .inr ⟨_,_,if_pos D⟩
   ·exact .inl (if_neg D)
  ·by_cases D:b=a
   ·have Q:=(if_pos D).symm.trans z
    cases Q
    subst D
    exact⟨ha,by rw[aB];exact hl,vs,_,rv,ha⟩
   ·have Q:=(if_neg D).symm.trans z
    cases Q
  ·by_cases D:b=a
   ·exact D
   ·exact absurd (if_neg D) z
end L2
namespace L2
open PySem PySem.Spec PyProof.Rows
noncomputable abbrev KOf(_:K.In h):PySem.W.Frag:=K
theorem Pj{l:PySem.W.OpenLaw}{k:Nat}{q:Program}{loose:List Str}{d:DefRec}{K:Params->PySem.W.Frag}{CX:World->CXT}{sp:World->Sp}
 (hn:l.most=some n) (O:n<=sizeLine) (hdf:d.params.defaults=[]) (hr:Room k callerA)
 (hY:∀(w:World)(h:Heap),YP w h->(K w.params).In h)
 (F:∀(w:World)(mg:Str->Option Value)(fa:Addr)(h:Heap),(K w.params).In h->h.Ns mainGlobals mg->mg d.name=some (.ref fa) ->
  ∃fd:FuncData,(∀(s:Shared)(u:Value),BindsTo s fd ⟨[u],[]⟩ [(x,u)]) /\
   ∀base:Heap,(K w.params).In base->base.Ns mainGlobals mg->FnOk l.prog w (K w.params) mg base (CX w) k fa fd [x] (sp w))
 (ts:List (Addr×Str×Pos)) (B:∀(w:World)(h:Heap),YP w h->(∀t∈ts,h.get? t.1=some {cls:=.none,data:=.fields #[]})/\(∀t∈ts,isCodeTable h t.1)/\∀t∈ts,(K w.params).lookup t.1=none) (D:∀t∈ts,∀t'∈ts,t.1=t'.1->t=t')
 (J:∀(w:World)(H:Hp)(a:Addr)(ns:List Int),ns.length<=n->(∀t∈ts,H t.1=some (.tbl t.2.1 t.2.2))->SqL (K w.params) H a (ns.map V.int)->sp w [.ref a] H (λv _=>v = .bl true) λ_ _ _=>False)
 (hCX:∀(w:World)(H:Hp)(s:Shared)(e:Value)(s':Shared),CX w [] H s (λ_ _ _=>False) e s'->False) :
 PySem.W.WalkO q loose XP YP l.row.toRowW d [] (λf vs=>PySem.call f vs):=by
 refine Att.B_ hn hdf λw s₀ Z mg I fa o pm cd doc a vs ns G Y E hd Q U X hints hlen R=>?_
 have S:=hY w _ Y
 obtain⟨fd,P,L⟩:=F w mg fa _ S G.T.g U
 exact Kl S G.T.g G.T.b G.T.builtins G.T.nolimit G.T.bmain R X hints (bL hlen O) hr L P ts (B w _ Y).1 (B w _ Y).2.1 (B w _ Y).2.2 D (λH M N=>J w H a ns hlen M N) λH e s'=>hCX w H Z e s'
theorem Km{l:PySem.W.OpenLaw}{k:Nat}{q:Program}{loose:List Str}{d:DefRec}{K:Params->PySem.W.Frag}{sp:PySem.W.Frag->Sp}
 (hn:l.most=some n) (O:n<=sizeLine) (Y:d.params.defaults=[]) (hr:Room k callerA)
 (hY:∀(w:World)(h:Heap),YP w h->(K w.params).In h)
 (F:∀(w:World)(mg:Str->Option Value)(fa:Addr)(h:Heap),(K w.params).In h->h.Ns mainGlobals mg->mg d.name=some (.ref fa) ->
  ∃fd:FuncData,(∀(s:Shared)(u:Value),BindsTo s fd ⟨[u],[]⟩ [(x,u)]) /\
   ∀base:Heap,(K w.params).In base->base.Ns mainGlobals mg->FnOk l.prog w (K w.params) mg base CX k fa fd [x] (sp (K w.params)))
 (ts:List (Addr×Str×Pos)) (D:∀(w:World)(h:Heap),YP w h->(∀t∈ts,h.get? t.1=some {cls:=.none,data:=.fields #[]})/\(∀t∈ts,isCodeTable h t.1)/\∀t∈ts,(K w.params).lookup t.1=none) (B:∀t∈ts,∀t'∈ts,t.1=t'.1->t=t')
 (J:∀(K:PySem.W.Frag)(H:Hp)(a:Addr)(ns:List Int),ns.length<=n->(∀t∈ts,H t.1=some (.tbl t.2.1 t.2.2))->SqL K H a (ns.map V.int)->sp K [.ref a] H (λv _=>v = .bl true) λ_ _ _=>False)
 (Z:∀(H:Hp)(s:Shared)(e:Value)(s':Shared),CX [] H s (λ_ _ _=>False) e s'->False) :
 PySem.W.WalkO q loose XP YP l.row.toRowW d [] (λf vs=>PySem.call f vs):=
 Pj (K:=K) (CX:=λ_=>CX) (sp:=λw=>sp (K w.params)) hn O Y hr hY F ts D B (λw H a ns h1 h2 X=>J (K w.params) H a ns h1 h2 X) λ_ H s e s'=>Z H s e s'
end L2
/- THE LAST THEOREM (shape;LID,My.* are yours):
   My.Adr: a structure of the addresses that your layer names (classes,functions);My.Txt K t: a structure (Prop) of the equations over K;
   My.txt_mk:{K} {implicit addresses ..} (e1:nsIn K mainGlobals "law"=some (some (.ref f))) (e2:K.lookup f=some ⟨oc,od,.func (fnOf "law" "law" params body scope dV kV doc pm an cdv ct),sl⟩) (e3:codeIn K cdv "law"=true) .. : ∃t,My.Txt K t
set_option maxRecDepth 100000 in
set_option maxHeartbeats 0 in
(the tactic k_is has no namespace: write k_is) -/
variable{H1:L2.Hp}
namespace L2
open PySem PySem.Spec PyProof.Rows
noncomputable def nj(s:Stmt):Arguments:=match s with
 | .FunctionDef _ a _ _ _ _ _ _ _ _=>a
 |_=>{posonlyargs:=[],args:=[],vararg:=none,kwonlyargs:=[],kw_defaults:=[],kwarg:=none,defaults:=[]}
noncomputable def iU(s:Stmt):List Stmt:=match s with
 | .FunctionDef _ _ b _ _ _ _ _ _ _=>b
 |_=>[]
noncomputable def bN(s:Stmt):Scope:=match s with
 | .FunctionDef _ _ _ _ _ _ sc _ _ _=>sc
 |_=>{kind:=.function,names:=[],isGenerator:=false,isCoroutine:=false}
noncomputable abbrev CX0:CXT:=λ_ _ _ _ _ _=>False
noncomputable abbrev E0:XK:=λ_ _ _=>False
theorem WR:Passes CX0 X E0:=λ_ _ _ _ _ _ _ h=>h.elim
structure Fun(K:PySem.W.Frag)(x qual:Str)(st:Stmt)(f:Addr)(fd:FuncData):Prop where
 ex:∃(oc:Value)(od:Option Addr)(kV doc pm:Value)(an:Option Addr)(cdv ct:Value)(osl:Array (Option Value)),
  fd=PySem.W.fnOf x qual (nj st) (iU st) (bN st) .none kV doc pm an cdv ct/\K.lookup f=some ⟨oc,od,.func fd,osl⟩/\PySem.W.codeIn K cdv qual=true
 kp:PySem.W.keepIn K (.ref f)=true
section
variable{P:Program}{w:World}{K:PySem.W.Frag}{mg:Str->Option Value}{base:Heap}
end
section
variable{X:Cx}
end
theorem yE{A B:Prop}(h:B):if false=true then A else B:=by
 rw[if_neg aR]
 exact h
theorem yF{A B:Prop}(h:A):if true=true then A else B:=by
 rw[if_pos rfl]
 exact h
noncomputable def Same(H H':Hp):Prop:=∀b o,H b=some o->H' b=some o
theorem Same.refl(H:Hp):Same H H:=λ_ _ h=>h
theorem Same.trans{H2:Hp}(a:Same H H1)(b:Same H1 H2):Same H H2:=λc o h=>b c o (a c o h)
theorem Same.free(e:Same H H'){l:Addr}(h:H' l=Option.none):H l=Option.none:=by
 cases q:H l with
 |none=>rfl
 |some o=>
  rw[e l o q]at h
  cases h
theorem Same.seq{xs:List V}(e:Same H H')(h:SqL K H a xs):SqL K H' a xs:=by
 rcases h with(h|⟨o,h⟩)|h
 ·exact .inl (.inl (e _ _ h))
 ·exact .inl (.inr ⟨o,e _ _ h⟩)
 ·exact .inr h
end L2
namespace My
open PySem PySem.Spec PyProof.Rows L2
noncomputable abbrev St:=L2.St
theorem dH{p:Addr}(h:H p=none)(o:HO):Same H (upd H p o):=λb u q=>by rw[cJ (jr q h)];exact q
structure Df(K:PySem.W.Frag)(mg:Str->Option Value)(x:Str)(st:Stmt)(ps:List Str):Prop where
 ex:∃(f:Addr)(fd:FuncData),Fun K x x st f fd/\Binds K fd ps []/\mg x=some (.ref f)
structure Has(P:Program)(w:World)(K:PySem.W.Frag)(mg:Str->Option Value)(base:Heap)(n:Nat)(x:Str)(ps:List Str)(sp:Sp):Prop where
 ex:∃(f:Addr)(fd:FuncData),FnOk P w K mg base CX0 n f fd ps sp/\Binds K fd ps []/\PySem.W.keepIn K (.ref f)=true/\mg x=some (.ref f)
section
variable{P:Program}{w:World}{K:PySem.W.Frag}{mg:Str->Option Value}{base:Heap}{x:Str}{ps N:List Str}{sp:Sp}{st:Stmt}{k n:Nat}
theorem Has.mono(h:Has P w K mg base k x ps sp)(l:k<=n):Has P w K mg base n x ps sp:=by
 obtain⟨f,fd,F,b,kp,m⟩:=h.ex
 exact⟨f,fd,F.mono l,b,kp,m⟩
end
section
variable{X:Cx}{x:Str}{ps:List Str}{sp:Sp}{n:Nat}{p pos:Pos}{e:Expr}{es:List Expr}{t:TA}
theorem Ca(h:Has X.prog X.w X.K X.mg X.base n x ps sp)(J:Room n X.A)(ha:PA X (e::es) t)(O:Gl X x:=by rfl)(D:(x==("__debug__":Str))=false:=by decide)
 (W:starEach (e::es) X.env=(false,eval e X.env)::starEach es X.env:=by rfl) (B:(backTo pos (starEach es X.env)).any (·.1)=false:=by rfl) :
 PE X (.Call (.Name x p) (e::es) [] pos) (R7 sp [] E0 t):=by
 obtain⟨f,fd,F,b,kp,m⟩:=h.ex
 exact O7 F J O m kp b .nil WR ha D W B
end
mutual
inductive RdV(K:PySem.W.Frag)(H:Hp):V->PyData->Prop
 |non:RdV K H .non .none
 |bl (b:Bool):RdV K H (.bl b) (.bool b)
 |int (i:Int):RdV K H (.int i) (.int i)
 |str (x:Str):RdV K H (.str x) (.str x)
 |lst {a:Addr} {xs:List V} {ds:List PyData}:SqL K H a xs->RdVs K H xs ds->RdV K H (.ref a) (.list ds)
 |tup {a:Addr} {xs:List V} {ds:List PyData}:SqT K H a xs->RdVs K H xs ds->RdV K H (.ref a) (.tuple ds)
inductive RdVs(K:PySem.W.Frag)(H:Hp):List V->List PyData->Prop
 |nil:RdVs K H [] []
 |cons {v:V} {d:PyData} {vs:List V} {ds:List PyData}:RdV K H v d->RdVs K H vs ds->RdVs K H (v::vs) (d::ds)
end
section
variable{X:Cx}{pins:List (Addr×Obj)}{σ:St}{H:Hp}{s:Shared}
mutual
theorem RdV.reads(I:Inv X pins σ H s):∀{v:V}{d:PyData},RdV X.K H v d->∀{u:Value},RelV v u->∃as,Reads s.heap u d as
 |_,_,.non,_,r=>by cases r;exact⟨_,.none⟩
 |_,_,.bl b,_,r=>by cases r;exact⟨_,.bool b⟩
 |_,_,.int i,_,r=>by obtain⟨t,rfl⟩:=r;exact⟨_,.int i t⟩
 |_,_,.str x,_,r=>by obtain⟨t,rfl⟩:=r;exact⟨_,.str x t⟩
 |_,_,.lst h q,_,r=>by
  cases r
  obtain⟨its,rv,⟨o,n,e,c,_,d⟩,_⟩:=I.list h
  obtain⟨as,z⟩:=RdVs.reads I q rv
  exact⟨_,.list e c d (by simpa using z)⟩
 |_,_,.tup h q,_,r=>by
  cases r
  obtain⟨its,rv,⟨o,e,c,n,d⟩,_⟩:=I.tuple h
  obtain⟨as,z⟩:=RdVs.reads I q rv
  exact⟨_,.tuple e c d (by simpa using z)⟩
theorem RdVs.reads(I:Inv X pins σ H s):∀{vs:List V}{ds:List PyData},RdVs X.K H vs ds->∀{us:List Value},Vals vs us->∃as,ReadsAll s.heap us ds as
 |_,_,.nil,_,r=>by cases r;exact⟨_,.nil⟩
 |_,_,.cons h q,_,r=>by
  cases r with
  |cons r1 r2=>
   obtain⟨as,z⟩:=RdV.reads I h r1
   obtain⟨bs,y⟩:=RdVs.reads I q r2
   exact⟨_,.cons z y⟩
end
end
section
variable{X:Cx}
noncomputable def WT(K:PySem.W.Frag):R2:=λx y H Q=>∃Y Z,RdV K H x Y/\RdV K H y Z/\SeqAt.shaped Y=true/\SeqAt.shaped Z=true/\Q (.bl (PyData.eqv Y Z)) H
noncomputable def WW(K:PySem.W.Frag):R2:=λx y H Q=>∃Y Z,RdV K H x Y/\RdV K H y Z/\SeqAt.shaped Y=true/\SeqAt.shaped Z=true/\Q (.bl (!PyData.eqv Y Z)) H
theorem ux(B:X.A.units+64<cLine):OpR X (compareOp .Eq) (WT X.K):=by
 intro pins s σ H x y v u Q I U V h
 obtain⟨R,S,ha,T,sa,W,q⟩:=h
 obtain⟨as,Y⟩:=ha.reads I U
 obtain⟨bs,Z⟩:=T.reads I V
 exact SeqAt.compareEq_shaped Y Z sa W B ⟨.bl _,H,I,rfl,q⟩
theorem uy(B:X.A.units+64<cLine):OpR X (compareOp .NotEq) (WW X.K):=by
 intro pins s σ H x y v u Q I U V h
 obtain⟨R,S,ha,T,sa,W,q⟩:=h
 obtain⟨as,Y⟩:=ha.reads I U
 obtain⟨bs,Z⟩:=T.reads I V
 exact SeqAt.compareNe_shaped Y Z sa W B ⟨.bl _,H,I,rfl,q⟩
end
noncomputable def isT(c T:String):Bool:=T==c||(T=="bool"&&c=="int")
section
variable{K:PySem.W.Frag}
theorem Ub(h:c="int"\/c="bool"\/c="tuple"\/c="list"\/c="str")(g:T="NoneType"\/T="bool"\/T="int"\/T="str"\/T="list"\/T="tuple"\/T="dict"):
 PySem.W.kitOne K (.type T) (.type c)=some (isT c T):=by
 rcases h with rfl|rfl|rfl|rfl|rfl<;>rcases g with rfl|rfl|rfl|rfl|rfl|rfl|rfl<;>kernel_rfl
end
section
variable{X:Cx}
end
theorem big{σ:St}(I:Inv X pins σ H s):sysModules<s.heap.objs.size:=by
 have h:mainGlobals<s.heap.objs.size:=(I.mod.glob.keeps I.bk).lt
 exact o8 (by decide) h
theorem Ko(h:Heap)(B:sysModules<h.objs.size):gP P w H (h.push {cls:=.type "dict", data:=.dict #[]}) h.objs.size (.dK []):=
 ⟨cR _,beq_eq_false_iff_ne.mpr (Ne.symm (aZ B)),[],.nil,Heap.DictOf.new h⟩
noncomputable def Uc:TE:=λ_ H Q=>∀p,H p=none->Q (.ref p) (upd H p (.dK []))
theorem Kp:PE X (.Dict [] [] pos) Uc:=λpins s σ H Q I h=>
 wpAny_Dict_empty ⟨.ref s.heap.objs.size,_,I.laid (a:=s.heap.objs.size) (o:=.dK []) (t':=s.toks) (λ_ _ q=>Heap.get?_push_of_some _ q) (aL _) (Ko s.heap (big I)),rfl,h _ (I.hok.fresh (aL _))⟩
end My
namespace My
open PySem PySem.Spec PyProof.Rows L2
section
variable{X:Cx}{a b c d:Expr}{ta tb tc td:TE}{pos:Pos}
noncomputable def Pk(r r' B:R2)(ta tb tc td:TE):TE:=λσ H Q=>ta σ H λx H1=>tb σ H1 λy H2=>r x y H2 λz W=>∃k,z = .bl k /\
 (if k=true then tc σ W λZ S=>r' y Z S λV X=>∃Y,V = .bl Y/\(if Y=true then td σ X λU T=>B Z U T Q else Q (.bl false) X)else Q (.bl false) W)
theorem Ir{B:CmpOp}{D:R2}(ho:OpR X (compareOp op) r)(O:OpR X (compareOp op') r')(J:OpR X (compareOp B) D)(ha:PE X a ta)(hb:PE X b tb)(hc:PE X c tc)(hd:PE X d td)
 (hm:lastMarks [op,op',B] [b,c,d]=false:=by with_unfolding_all rfl):PE X (.Compare a [op,op',B] [b,c,d] pos) (Pk r r' D ta tb tc td):=by
 intro pins s σ H Q I h
 refine Compare_chain (thn (ha pins s σ H _ I h) λv s1 ⟨x,H1,m,A,q1⟩=>chain_link (thn (hb pins s1 σ H1 _ m q1) λu s2 ⟨y,H2,n,V,q2⟩=>
  thn (ho pins s2 σ H2 x y v u _ n A V q2) λd s3 ⟨z,N,R,C,k,e,T⟩=>?_)) hm
 subst e
 cases C
 refine wpAny_truthy_bool ?_
 cases k with
 |false=>exact ite_ff ⟨.bl false,N,R,rfl,T⟩
 |true=>
  refine ite_tt (chain_link (thn (hc pins s3 σ N _ R T) λY F ⟨Z,j,o,W,t⟩=>thn (O pins F σ j y Z u Y _ o V W t) λi G ⟨z2,P,S,E,k2,q,U⟩=>?_))
  subst q
  cases E
  refine wpAny_truthy_bool ?_
  cases k2 with
  |false=>exact ite_ff ⟨.bl false,P,S,rfl,U⟩
  |true=>exact ite_tt (chain_last (thn (hd pins G σ P _ S U) λL K ⟨M,l,p,r6,w⟩=>J pins K σ l Z M Y L Q p W r6 w))
end
structure Blt(mg:Str->Option Value):Prop where
 len_:mg "len"=none
 range_:mg "range"=none
 abs_:mg "abs"=none
 isinstance_:mg "isinstance"=none
 int_:mg "int"=none
 bool_:mg "bool"=none
 tuple_:mg "tuple"=none
 max_:mg "max"=none
 min_:mg "min"=none
end My
namespace My
open PySem PySem.Spec PyProof.Rows L2
noncomputable abbrev cx(P:Program)(w:World)(K:PySem.W.Frag)(mg:Str->Option Value)(base:Heap)(N:List Str)(x:Str)(st:Stmt)(f:Addr)(cdv:Value)(A:Around)(outer:List Env)(s:Shared)(H:Hp)(E:XK):Cx:=
 (BR CX0 P w K mg base N x (bN st) f cdv A outer s H E).nox
end My
variable{env:Env}
namespace My
open PySem PySem.Spec PyProof.Rows L2
noncomputable def pq(env:Env):List (Str×NameKind)->List (Str×Addr)->List (Str×Addr)
 |[],Z=>Z
 | (n,k)::r,Z=>if(k==NameKind.free)=true then pq env r ((n,(env.cells.lookup n).getD 0)::Z)else pq env r Z
theorem sE:∀(l:List (Str×NameKind))(B:List (Str×Addr)),(∀x∈l,x.2 = .free->∃c,env.cells.lookup x.1=some c) ->
 (forIn l B λ(x:Str×NameKind)(r:List (Str×Addr))=>(if(x.2==NameKind.free)=true then(do let c <-cellOf env x.1;pure (ForInStep.yield ((x.1,c)::r)))else pure (ForInStep.yield r):Sem (ForInStep (List (Str×Addr)))))=pure (pq env l B)
 |[],_,_=>rfl
 | (n,k)::r,B,h=>by
  rw[pK]
  by_cases Z:(k==NameKind.free)=true
  ·obtain⟨c,V⟩:=h (n,k) aC (beq_iff_eq.mp Z)
   have W:cellOf env n=pure c:=by
    unfold cellOf
    rw[show env.cells.lookup n=some c from V]
   show(do let x <-(if(k==NameKind.free)=true then(do let c <-cellOf env n;pure (ForInStep.yield ((n,c)::B)))else pure (ForInStep.yield B):Sem (ForInStep (List (Str×Addr))));_)=_
   rw[if_pos Z,W]
   have Y:=sE r ((n,c)::B) λx X=>h x (aJ _ X)
   rw[pq,if_pos Z,show env.cells.lookup n=some c from V]
   exact Y
  ·show(do let x <-(if(k==NameKind.free)=true then(do let c <-cellOf env n;pure (ForInStep.yield ((n,c)::B)))else pure (ForInStep.yield B):Sem (ForInStep (List (Str×Addr))));_)=_
   rw[if_neg Z]
   have Y:=sE r B λx X=>h x (aJ _ X)
   rw[pq,if_neg Z]
   exact Y
theorem Ez{scope:Scope}(h:∀x∈scope.names,x.2 = .free->∃c,env.cells.lookup x.1=some c):closureFor scope env=pure (pq env scope.names []):=by
 have z:=sE (env:=env) scope.names [] h
 show(forIn scope.names [] λ(x:Str×NameKind)(r:List (Str×Addr))=>(if(x.2==NameKind.free)=true then(do let c <-cellOf env x.1;pure (ForInStep.yield ((x.1,c)::r)))else pure (ForInStep.yield r):Sem (ForInStep (List (Str×Addr))))) >>= (λZ=>pure Z)=_
 rw[z]
 rfl
theorem wD:∀(l:List (Str×NameKind))(B:List (Str×Addr)),(∀x∈l,x.2 = .free->∃c,env.cells.lookup x.1=some c)->(∀x c,B.lookup x=some c->env.cells.lookup x=some c) ->
 ∀x c,(pq env l B).lookup x=some c->env.cells.lookup x=some c
 |[],_,_,Y,x,c,e=>Y x c e
 | (n,k)::r,B,h,Y,x,c,e=>by
  rw[pq]at e
  by_cases V:(k==NameKind.free)=true
  ·rw[if_pos V]at e
   obtain⟨d,hd⟩:=h (n,k) aC (beq_iff_eq.mp V)
   refine wD r _ (λx W=>h x (aJ _ W)) (λy c' Z=>?_) x c e
   rw[dB]at Z
   cases X:y==n with
   |true=>
    rw[X]at Z
    have:y=n:=beq_iff_eq.mp X
    subst this
    rw[show env.cells.lookup y=some d from hd]at Z ⊢
    exact Z
   |false=>
    rw[X]at Z
    exact Y y c' Z
  ·rw[if_neg V]at e
   exact wD r B (λx W=>h x (aJ _ W)) Y x c e
theorem p7:∀(l:List (Str×NameKind))(B:List (Str×Addr))(x:Str),((x,NameKind.free)∈l\/∃c,B.lookup x=some c)->∃c,(pq env l B).lookup x=some c
 |[],_,x,h=>by
  rcases h with h|h
  ·exact absurd h (by simp)
  ·exact h
 | (n,k)::r,B,x,h=>by
  rw[pq]
  by_cases Z:(k==NameKind.free)=true
  ·rw[if_pos Z]
   refine p7 r _ x ?_
   by_cases e:x=n
   ·subst e
    exact .inr ⟨_,by rw[dB,beq_self_eq_true]⟩
   ·rcases h with h|⟨c,h⟩
    ·rcases aW.mp h with h|h
     ·exact absurd (congrArg Prod.fst h) e
     ·exact .inl h
    ·exact .inr ⟨c,by rw[dB,beq_eq_false_iff_ne.mpr e];exact h⟩
  ·rw[if_neg Z]
   refine p7 r B x ?_
   rcases h with h|h
   ·rcases aW.mp h with h|h
    ·have:k = .free:=(congrArg Prod.snd h).symm
     subst this
     exact absurd rfl Z
    ·exact .inl h
   ·exact .inr h
noncomputable abbrev blk(X:Cx)(B:List Str)(scope:Scope)(cl:List (Str×Addr))(C:Addr)(s3:Shared)(D:Hp)(fp:List Addr):Cx:=
 {X with N:=B,s₀:=s3,H₀:=D,env:=compEnvC scope cl C X.env,outer:=X.stack,ex:=fp,fn:=λ_=>false,xe:=λ_ _=>False}
noncomputable def zW(N:List Str)(kinds B:List (Str×NameKind)):List Str->List Nat->Bool
 |[],[]=>true
 |x::V,j::ix=>(N[j]? == some x)&&((kinds.lookup x==some NameKind.cell)&&((B.lookup x==some NameKind.free)&&zW N kinds B V ix))
 |_,_=>false
noncomputable def zX(t:Nat)(ix:List Nat)(σ:St):St:=aP t none++ix.map λj=>(σ[j]?).getD none
theorem wF{kinds B:List (Str×NameKind)}:∀{V:List Str}{ix:List Nat},zW N kinds B V ix=true->ix.length=V.length/\∀(k:Nat)(x:Str),V[k]? = some x->∃j,ix[k]? = some j/\N[j]? = some x/\kinds.lookup x=some .cell/\B.lookup x=some .free
 |[],[],_=>⟨rfl,λk x h=>by simp at h⟩
 |x::V,j::ix,h=>by
  rw[zW,aU,aU,aU]at h
  obtain⟨h1,h2,X,Y⟩:=h
  obtain⟨l,r⟩:=wF Y
  refine⟨by simp[l],λk y Z=>?_⟩
  cases k with
  |zero=>
   simp at Z
   subst Z
   exact⟨j,rfl,beq_iff_eq.mp h1,beq_iff_eq.mp h2,beq_iff_eq.mp X⟩
  |succ k=>exact r k y (by simpa using Z)
 |[],_::_,h=>by simp[zW]at h
 |_::_,[],h=>by simp[zW]at h
theorem tQ{env:Env}(B:env.scope.kind = .function):∀{names:List (Str×NameKind)}{x:Str},names.lookup x=some .free->env.kindOf x=some .cell ->
 (names.map λ(n,k)=>if(k==NameKind.free&&env.scope.kind == .function&&env.kindOf n==some .cell)then(n,NameKind.cell)else(n,k)).lookup x=some .cell
 |[],_,h,_=>by simp at h
 | (n,k)::r,x,h,Y=>by
  have X:=@tQ env B r x
  show uR x ((if(k==NameKind.free&&env.scope.kind == .function&&env.kindOf n==some .cell)=true then(n,NameKind.cell)else(n,k))::_)=_
  cases Z:x==n with
  |true=>
   have e:x=n:=beq_iff_eq.mp Z
   subst e
   simp only[dB,Z]at h
   cases h
   rw[if_pos (by rw[B,Y];rfl)]
   simp[dB]
  |false=>
   simp only[dB,Z]at h
   by_cases W:(k==NameKind.free&&env.scope.kind == .function&&env.kindOf n==some .cell)=true
   ·rw[if_pos W];simp only[dB,Z];exact X h Y
   ·rw[if_neg W];simp only[dB,Z];exact X h Y
theorem pA{env:Env}:∀{names:List (Str×NameKind)}{x:Str}{k:NameKind},(∀y∈names,y.2 ≠ .cell)->(k = .cell\/k = .free) ->
 (names.map λ(n,k)=>if(k==NameKind.free&&env.scope.kind == .function&&env.kindOf n==some .cell)then(n,NameKind.cell)else(n,k)).lookup x=some k->(x,NameKind.free)∈names
 |[],_,_,_,_,h=>by simp at h
 | (n,X)::r,x,k,U,Y,h=>by
  have V:=@pA env r x k (λy S=>U y (aJ _ S)) Y
  have h':uR x ((if(X==NameKind.free&&env.scope.kind == .function&&env.kindOf n==some .cell)=true then(n,NameKind.cell)else(n,X))::(r.map λ(n,k)=>if(k==NameKind.free&&env.scope.kind == .function&&env.kindOf n==some .cell)then(n,NameKind.cell)else(n,k)))=some k:=h
  by_cases W:(X==NameKind.free&&env.scope.kind == .function&&env.kindOf n==some .cell)=true
  ·rw[if_pos W]at h'
   have T:X = .free:=by
    rw[aU,aU]at W
    exact beq_iff_eq.mp W.1.1
   cases Z:x==n with
   |true=>
    have e:x=n:=beq_iff_eq.mp Z
    subst e
    subst T
    exact aC
   |false=>
    simp only[dB,Z]at h'
    exact aJ _ (V h')
  ·rw[if_neg W]at h'
   cases Z:x==n with
   |true=>
    have e:x=n:=beq_iff_eq.mp Z
    subst e
    simp only[dB,Z]at h'
    cases h'
    rcases Y with Y|Y
    ·exact absurd Y (U _ aC)
    ·subst Y
     exact aC
   |false=>
    simp only[dB,Z]at h'
    exact aJ _ (V h')
section
variable{X:Cx}{pins:List (Addr×Obj)}{σ:St}{H:Hp}{s:Shared}
theorem Inv.forget{σ':St}(I:Inv X pins σ H s)(B:σ'.length=X.N.length)(h:∀(i:Nat) (v:V),σ'[i]? = some (some v)->σ[i]? = some (some v)):Inv X pins σ' H s:=by
 obtain⟨m,hn,Z⟩:=I.loc
 exact⟨I.ok,I.os,I.bare,I.base,⟨m,hn,λi x v U W Y=>Z i x v U (h i v W) Y⟩,I.cell,I.free,I.freeC,I.pin,I.hok,B⟩
end
end My
variable{prog:Program}
namespace My
open PySem PySem.Spec PyProof.Rows L2
theorem Cd{R:Result->Shared->Prop}{elt target:Expr}{ifs:List Expr}{scope:Scope}{it acc:Value}(I:Nat->Shared->Prop)
 (turn:∀n s,I n s->wpAny (model prog w) A (pyNext it) (λr J=>match r with
  |none=>R (.ok .next) J
  |some v=>wpAny (model prog w) A (letOwnedTupleGo target it v) (λ_ D=>wpAny (model prog w) A (assign target env v) (λ_ Y=>
   wpAny (model prog w) A (forIn ifs true λc r=>if r=true then do let ok <-isTrue c env (eval c env);pure (ForInStep.yield ok)else pure (ForInStep.yield r)) (λok B=>
    if ok=true then wpAny (model prog w) A (eval elt env) (λx W=>
     wpAny (model prog w) A (call (.builtin "list.append") [acc,x]) (λ_ O=>∃m,m<n/\I m O) (λ_ _=>False) W) (λ_ _=>False) B
    else ∃m,m<n/\I m B) (λ_ _=>False) Y) (λ_ _=>False) D) (λ_ _=>False) J) (λ_ _=>False) s)
 (n:Nat) (h:I n s) :
 codeAny (model prog w) A (.compLoop (.ListComp elt [⟨target,iter,ifs,0⟩] scope pos) 0 it acc env) R s:=by
 refine codeAny_loop rfl I (λn s Q=>?_) n h
 show wpAny _ A ((compTurn (.ListComp elt [⟨target,iter,ifs,0⟩] scope pos) 0 it acc env).onRaise (λx=>do noteFrame x env;theTreesLotGoes x)) _ _ s
 refine wpAny_noted ?_
 rw[compTurn_list]
 refine wpAny_bind (wpAny_standAt (wpAny_bind (wpAny_mono (turn n s Q) (λr J X=>?_) λ_ _ h'=>h'.elim)))
 cases r with
 |none=>exact wpAny_pure X
 |some v=>
  refine wpAny_bind (wpAny_mono X (λ_ D V=>?_) λ_ _ h'=>h'.elim)
  refine wpAny_bind (wpAny_mono V (λ_ Y S=>wpAny_bind (wpAny_mono S (λok B Z=>?_) λ_ _ h'=>h'.elim)) λ_ _ h'=>h'.elim)
  cases ok with
  |false=>exact wpAny_pure ⟨rfl,Z⟩
  |true=>
   exact wpAny_bind (wpAny_bind (wpAny_mono Z (λx W T=>wpAny_bind (wpAny_mono T (λ_ O U=>wpAny_pure (wpAny_pure ⟨rfl,U⟩)) λ_ _ h'=>h'.elim)) λ_ _ h'=>h'.elim))
section
variable{X:Cx}{pins:List (Addr×Obj)}{σ:St}{H:Hp}
theorem Iu{T V:List Str}{ix:List Nat}{scope:Scope}{s3:Shared}{B:Heap}{tk:Nat}
 (I:Inv X pins σ H s3) (J:∀b∈fp,ur X pins H b) (ho:∀b∈fp,∃o,s3.heap.get? b=some o)
 (hk:scope.kind = .function) (D:∀y∈scope.names,y.2 ≠ .cell) (hfr:∀x∈scope.names,x.2 = .free->x.1∈V) (hB:zW X.N X.env.scope.names scope.names V ix=true)
 (hns:B.Ns s3.heap.objs.size m) (keep:∀b o,s3.heap.get? b=some o->B.get? b=some o) :
 Inv (blk X (T++V) scope (pq X.env scope.names []) s3.heap.objs.size s3 H fp) pins (zX T.length ix σ) H {s3 with heap:=B,toks:=tk}:=by
 obtain⟨A,R⟩:=wF hB
 have K:∀x∈scope.names,x.2 = .free->∃c,X.env.cells.lookup x.1=some c:=λx U e=>by
  obtain⟨k,f⟩:=fQ (hfr x U e)
  obtain⟨j,_,_,P,_⟩:=R k _ f
  exact I.ok.has _ (.inl P)
 have sub:=wD (env:=X.env) scope.names [] K (λx c e=>by simp at e)
 have stkSub:∀b,b∈frs X.stack->b=X.env.locals\/b∈X.fs:=λb z=>aW.mp (I.stkSub b z)
 have lt:∀b o,s3.heap.get? b=some o->b≠s3.heap.objs.size:=λb o e=>aZ (Heap.lt_size e)
 have cellK:∀c v,s3.heap.IsCell c v->B.IsCell c v:=λc v ⟨o,e,d⟩=>⟨o,keep c o e,d⟩
 refine⟨⟨I.ok.mod,hk,I.ok.glob,I.ok.blt,aL _,λx y c F L=>I.ok.inj x y c (sub x c F) (sub y c L),λx U=>?_,λx c U=>?_,I.ok.hd,I.ok.frames,.inl rfl,λb Q=>⟨?_,λx c e=>?_⟩,I.bs,bL I.ok.bsz I.sz,λb o e Q=>?_,λb Q z=>?_,I.stack,I.stkFree⟩,
  rfl,I.bare,Un.kept keep,⟨m,hns,λi x v F L e3=>?_⟩,λx c e=>?_,I.hok.fresh (aL _),λx c e=>I.freeC x c (sub x c e),λp w=>?_,I.hok.kept keep,?_⟩
 ·rcases U with U|U
  ·exact p7 _ _ x (.inl (pA D (.inl rfl) U))
  ·exact p7 _ _ x (.inl (pA D (.inr rfl) U))
 ·exact absurd U (by simp)
 ·obtain⟨o,e⟩:=ho b Q
  exact lt b o e
 ·exact(J b Q).2.2.2.2.1 x c (sub x c e)
 ·rcases(J b Q).2.2.2.1 with z|z
  ·exact I.ok.noex b o e z
  ·exact absurd (bT (Heap.lt_size e) (bL I.ok.bsz z)) (eE _)
 ·rcases stkSub b z with z|z
  ·exact(J b Q).2.1 z
  ·exact(J b Q).2.2.1 z
 ·by_cases hi:i<T.length
  ·have W:(aP T.length none++ix.map λj=>(σ[j]?).getD none)[i]? = some (some v):=L
   rw[bQ (by rw[bA];exact hi),dJ,if_pos hi]at W
   exact absurd W (by simp)
  ·have M:(T++V)[i]? = some x:=F
   rw[bM (by omega)]at M
   obtain⟨j,h,g,P,Y⟩:=R _ x M
   have W:(aP T.length none++ix.map λj=>(σ[j]?).getD none)[i]? = some (some v):=L
   rw[bM (by rw[bA];omega),bA,aX,h]at W
   have Z:(σ[j]?).getD none=some v:=by simpa using W
   have G:σ[j]? = some (some v):=by
    cases q:σ[j]? with
    |none=>rw[q]at Z;exact absurd Z (by simp)
    |some o=>rw[q]at Z;simp at Z;rw[Z]
   obtain⟨m0,t,s⟩:=I.loc
   obtain⟨u,r,l⟩:=s j x v g G (.inr (.inl P))
   rcases l with⟨z,_⟩|⟨_,c,a,S⟩
   ·have E:X.env.scope.names.lookup x=some .local:=z
    rw[P]at E
    exact absurd E (by simp)
   ·obtain⟨c',O⟩:=p7 (env:=X.env) scope.names [] x (.inl (PySem.mem_of_lookup Y))
    have:c'=c:=by
     have q:=sub x c' O
     rw[a]at q
     exact(cQ.inj q).symm
    subst this
    exact⟨u,r,.inr ⟨.inl (tQ I.ok.kind Y P),c',O,cellK _ _ S⟩⟩
 ·obtain⟨v,z⟩:=I.cell x c (sub x c e)
  exact⟨v,cellK c v z⟩
 ·obtain⟨e,n,ne,C,d⟩:=I.pin p w
  refine⟨keep _ _ e,n,lt _ _ e,λz=>?_,d⟩
  rcases stkSub p.1 z with z|z
  ·exact ne z
  ·exact C z
 ·show(aP T.length none++ix.map λj=>(σ[j]?).getD none).length=(T++V).length
  rw[bJ,bA,aB,bJ,A]
theorem Kq{N':List Str}{scope:Scope}{cl:List (Str×Addr)}{pins':List (Addr×Obj)}{σ':St}{J:Hp}{s3 s':Shared}(O:Inv X pins σ J s3)(D:∀b∈fp,ur X pins J b)
 (B:Inv (blk X N' scope cl s3.heap.objs.size s3 J fp) pins' σ' H' s'):Inv X pins σ H' s'/\ur X pins H' s3.heap.objs.size:=by
 have fr:H' s3.heap.objs.size=none:=B.free
 refine⟨?_,O.fpOk (aL _) fr⟩
 have os:s'.os=s3.os:=B.os
 have u:Un (frs X.stack) fp J H' s3.heap s'.heap:=B.base
 have W:=B.hok
 have U:=B.bare
 obtain⟨V,g,d,t,Y⟩:=s'
 obtain rfl:Y=s3.os:=os
 exact O.call (h':=V) (g':=g) (d':=d) (t':=t) (ch:=fp) u W U λb Z=>⟨(D b Z).2.2.2.1,(D b Z).2.1,(D b Z).2.2.2.2.1,(D b Z).2.2.2.2.2⟩
end
noncomputable def PTs(X:Cx)(ifs:List Expr)(t:TT):Prop:=
 ∀(pins:List (Addr×Obj))(s:Shared)(σ:St)(H:Hp)(Q:Bool->Hp->Prop),Inv X pins σ H s->t σ H Q ->
  wpAny (model X.prog X.w) X.A (forIn ifs true λc r=>if r=true then do let ok <-isTrue c X.env (eval c X.env);pure (ForInStep.yield ok)else pure (ForInStep.yield r)) (TP X pins σ Q) X.xe s
noncomputable def sG:TT:=λ_ H Q=>Q true H
theorem Pn:PTs X [] sG:=λ_ _ _ H _ I h=>wpAny_tests_nil ⟨H,I,h⟩
theorem Gn{c:Expr}{t:TT}(h:PT X c t):PTs X [c] t:=λpins s σ H Q I q=>wpAny_tests_one (h pins s σ H Q I q)
noncomputable def Kr(wi:TI)(g:TG)(tt:TT)(te:TE)(t:Nat)(B:St->St):TE:=λσ H Q=>wi σ H λJ H1=>∀D,H1 D=none->∃W:Nat->Nat->List V->Hp->Prop,(∃m,W 0 m [] (upd H1 D (.lst []))) /\
 ∀i m xs H2,W i m xs H2->H2 D=some (.lst xs)/\((J.stop i H2/\Q (.ref D) H2)\/(J.go i H2/\xs.length<sizeLine/\∀x T,J.yld i H2 x T->g x (B σ) T λZ S=>Z.drop t=(B σ).drop t /\
  tt Z S λb U=>if b=true then te Z U λv X=>X D=some (.lst xs)/\∃Y,Y<m/\W (i+1) Y (xs++[v]) (upd X D (.lst (xs++[v])))else ∃Y,Y<m/\W (i+1) Y xs U))
section
variable{X:Cx}{elt tg iter:Expr}{ifs:List Expr}{scope:Scope}{pos:Pos}{T V:List Str}{ix:List Nat}{wi:TI}{g:TG}{tt:TT}{te:TE}
theorem Iv(hc:X.calm=true)(hi:PI X tg iter wi)
 (hg:∀cl C s3 B fp,PG (blk X (T++V) scope cl C s3 B fp) tg g) (ht:∀cl C s3 B fp,PTs (blk X (T++V) scope cl C s3 B fp) ifs tt) (he:∀cl C s3 B fp,PE (blk X (T++V) scope cl C s3 B fp) elt te)
 (hB:zW X.N X.env.scope.names scope.names V ix=true) (hk:scope.kind = .function) (O:∀y∈scope.names,y.2 ≠ .cell) (hnames:∀x∈scope.names,x.2 = .local->scope.names.lookup x.1=some .local)
 (hfr:∀x∈scope.names,x.2 = .free->x.1∈V) (hs:∀x,foldedSetIterable iter X.env x=pure x) {p:Pos}
 {pins:List (Addr×Obj)} {s:Shared} {σ:St} {H:Hp} (I:Inv X pins σ H s) {use:Option (Value->Sem Unit)} {Qp:Value->Shared->Prop} {Qv:VK} (h:Kr wi g tt te T.length (zX T.length ix) σ H Qv)
 (fin:∀(D C:Addr)(H':Hp)(s':Shared)(m:Str->Option Value),Inv X pins σ H' s'->ur X pins H' C->s'.heap.Ns C m->Qv (.ref D) H'->compPost (model X.prog X.w) X.A X.xe use Qp (.ref D) C (.ok .next) s') :
 wpAny (model X.prog X.w) X.A (comprehension (.ListComp elt [⟨tg,iter,ifs,0⟩] scope pos) scope X.env p (newList []) false (eval iter X.env) use) Qp X.xe s:=by
 obtain⟨lV,capV⟩:=wF hB
 have hcl:∀x∈scope.names,x.2 = .free->∃c,X.env.cells.lookup x.1=some c:=λx hx e=>by
  obtain⟨k,ek⟩:=fQ (hfr x hx e)
  obtain⟨j,_,_,hc',_⟩:=capV k _ ek
  exact I.ok.has _ (.inl hc')
 refine wpAny_comprehension_free rfl hs (Ez hcl) hk hnames ?_
 refine thn (hi pins s σ H _ I h) λv s1 h1=>thn h1 λitv s2 h2=>?_
 obtain⟨it,fp,tn,J,H2,e,I2,S,l,f2,R⟩:=h2
 subst e
 refine wpAny_newObj_type (hd:=by size_fits) ?_
 have hD:H2 s2.heap.objs.size=none:=I2.hok.fresh (aL _)
 have I3:Inv X pins σ (upd H2 s2.heap.objs.size (.lst [])) {s2 with heap:=s2.heap.push {cls:=.type "list", dict:=none,data:=.seq ([]:List Value).toArray} }:=
  I2.laid (t':=s2.toks) (λb o e=>Heap.get?_push_of_some _ e) (aL _) ⟨cR _,[],0,.nil,Heap.get?_push_size _ rfl⟩
 obtain⟨W,⟨m0,w0⟩,turn⟩:=R s2.heap.objs.size hD
 generalize hs3:({s2 with heap:=s2.heap.push {cls:=.type "list", dict:=none,data:=.seq ([]:List Value).toArray} }:Shared)=s3 at I3 ⊢
 have t:tn 0 s3.heap:=by
  rw[<-hs3]
  exact S.keep 0 s2.heap _ l λb Z o e=>Heap.get?_push_of_some _ e
 have f3:∀b∈fp,ur X pins (upd H2 s2.heap.objs.size (.lst [])) b:=λb Z=>by
  obtain⟨z0,z1⟩:=f2 b Z
  refine⟨?_,z1⟩
  obtain⟨o,eo,_⟩:=S.obj 0 _ l b Z
  rw[cJ (aZ (Heap.lt_size eo))]
  exact z0
 generalize hH3:upd H2 s2.heap.objs.size (.lst [])=B at I3 f3 w0
 generalize hDn:s2.heap.objs.size=D at turn
 refine wpAny_newFunctionEnv O (by intro y hy;simp at hy) (λU M P=>?_) hk
 have keep:∀b o,s3.heap.get? b=some o->U.get? b=some o:=λb o e=>P.extBut b o (aZ (Heap.lt_size e)) (Heap.get?_push_of_some _ e)
 have I4:=Iu (T:=T) (tk:=s3.toks+([]:List (Str×Value)).length) I3 f3 (λb Z=>let⟨o,eo,_⟩:=S.obj 0 _ t b Z;⟨o,eo⟩) hk O hfr hB M keep
 have z:tn 0 U:=S.keep 0 _ _ t λb Z o e=>keep b o e
 have loop:codeAny (model X.prog X.w) X.A (.compLoop (.ListComp elt [⟨tg,iter,ifs,0⟩] scope pos) 0 (.ref it) (.ref D) (compEnvC scope (pq X.env scope.names []) s3.heap.objs.size X.env))
  (compPost (model X.prog X.w) X.A X.xe use Qp (.ref D) s3.heap.objs.size) {s3 with heap:=U,toks:=s3.toks+([]:List (Str×Value)).length}:=by
  refine Cd (λn s'=>∃i xs H',Inv (blk X (T++V) scope (pq X.env scope.names []) s3.heap.objs.size s3 B fp) pins (zX T.length ix σ) H' s'/\tn i s'.heap/\(∀b∈fp,H' b=none)/\W i n xs H') ?_ m0
   ⟨0,[],B,I4,z,λb Z=>(f3 b Z).1,w0⟩
  rintro n s5 ⟨i,xs,H5,I5,E,a,w5⟩
  have Y:∀{H':Hp}{pins':List (Addr×Obj)}{σ':St}{s':Shared},Inv (blk X (T++V) scope (pq X.env scope.names []) s3.heap.objs.size s3 B fp) pins σ' H' s'->(∀b∈fp,H' b=none)->∀b∈fp,ur (blk X (T++V) scope (pq X.env scope.names []) s3.heap.objs.size s3 B fp) pins H' b:=λI' hn b Z=>by
   obtain⟨x1,x2⟩:=I'.ok.exf b Z
   refine⟨hn b Z,x1,I'.ok.exfs b Z,.inl Z,x2,λq hq=>?_⟩
   exact(f3 b Z).2.2.2.2.2 q hq
  obtain⟨hD5,r5⟩:=turn i n xs H5 w5
  rcases r5 with⟨stop,q⟩|⟨go,hz,step⟩
  ·refine thn (S.done (blk X (T++V) scope (pq X.env scope.names []) s3.heap.objs.size s3 B fp) rfl rfl rfl hc i pins s5 _ H5 _ I5 (Y (pins':=pins) I5 a) E stop) λr s6 ⟨hr,I6⟩=>?_
   subst hr
   obtain⟨Ib,fC⟩:=Kq I3 f3 I6
   obtain⟨m,hn,_⟩:=I6.loc
   exact fin D _ H5 s6 m Ib fC hn q
  ·refine thn (S.item (blk X (T++V) scope (pq X.env scope.names []) s3.heap.objs.size s3 B fp) rfl rfl rfl hc i pins s5 _ H5 _ I5 (Y (pins':=pins) I5 a) E go) λr s6 ⟨u,hr,h6⟩=>?_
   subst hr
   refine thn h6 λ_ s7 ⟨x,H7,I7,rx,y7,L,fr7⟩=>?_
   have I7':=I7.pinned (Y (pins':=pins) I7 fr7) (S.obj _ _ L)
   refine thn (hg _ _ _ _ _ _ s7 _ H7 x u _ I7' rx (step x H7 y7)) λ_ s8 ⟨Q,H8,I8,k8,q8⟩=>?_
   have again:∀{K:Hp}{G:Shared},Inv (blk X (T++V) scope (pq X.env scope.names []) s3.heap.objs.size s3 B fp) (pins++v9 fp s7.heap) Q K G ->
    Inv (blk X (T++V) scope (pq X.env scope.names []) s3.heap.objs.size s3 B fp) pins (zX T.length ix σ) K G/\tn (i+1) G.heap/\∀b∈fp,K b=none:=λ{K G} F=>by
    refine⟨Inv.forget F.unpinned I4.len λj v e=>?_,S.keep _ _ _ L λb Z o e=>(F.pin (b,o) (bG _ (bG _ (o_ Z e)))).1,λb Z=>?_⟩
    ·by_cases hj:j<T.length
     ·have e':(aP T.length none++ix.map λj=>(σ[j]?).getD none)[j]? = some (some v):=e
      rw[bQ (by rw[bA];exact hj),dJ,if_pos hj]at e'
      exact absurd e' (by simp)
     ·have ej:j=T.length+(j-T.length):=by omega
      rw[ej,<-dM]at e ⊢
      rw[k8]
      exact e
    ·obtain⟨o,e,d⟩:=S.obj _ _ L b Z
     exact(F.pin (b,o) (bG _ (bG _ (o_ Z e)))).2.1
   refine thn (ht _ _ _ _ _ _ s8 Q H8 _ I8 q8) λok G ⟨K,F,q9⟩=>?_
   cases ok with
   |false=>
    obtain⟨m',lm,w9⟩:=q9
    obtain⟨a1,a2,a3⟩:=again F
    exact⟨m',lm,i+1,xs,K,a1,a2,a3,w9⟩
   |true=>
    refine thn (he _ _ _ _ _ _ G Q K _ F q9) λy s10 ⟨v,H10,I10,ry,f,m',lm,w10⟩=>?_
    refine thn (yU _ s10 Q H10 (.ref D) [v] (.ref D) [y] (λ_ Hn=>Hn=upd H10 D (.lst (xs++[v]))) I10 rfl (.cons ry .nil) ⟨D,xs,v,rfl,rfl,f,hz,rfl⟩) λ_ s11 ⟨_,H11,I11,_,e11⟩=>?_
    subst e11
    obtain⟨a1,a2,a3⟩:=again I11
    exact⟨m',lm,i+1,_,_,a1,a2,a3,w10⟩
 exact codeAny_compStart_list loop (S.self _ 0 _ _ _ z loop)
theorem Pq(hc:X.calm=true)(T V:List Str)(ix:List Nat)(hi:PI X tg iter wi)
 (hg:∀cl C s3 O fp,PG (blk X (T++V) scope cl C s3 O fp) tg g) (ht:∀cl C s3 O fp,PTs (blk X (T++V) scope cl C s3 O fp) ifs tt) (he:∀cl C s3 O fp,PE (blk X (T++V) scope cl C s3 O fp) elt te)
 (hB:zW X.N X.env.scope.names scope.names V ix=true:=by rfl) (hk:scope.kind = .function:=by rfl) (J:∀y∈scope.names,y.2 ≠ .cell:=by decide +kernel)
 (B:∀x∈scope.names,x.2 = .local->scope.names.lookup x.1=some .local:=by decide +kernel)
 (W:∀x∈scope.names,x.2 = .free->x.1∈V:=by decide +kernel) (hs:∀x,foldedSetIterable iter X.env x=pure x:=by intro _;rfl) :
 PE X (.ListComp elt [⟨tg,iter,ifs,0⟩] scope pos) (Kr wi g tt te T.length (zX T.length ix)):=by
 intro pins s σ H Q I h
 rw[eval_ListComp]
 refine Iv (use:=none) hc hi hg ht he hB hk J B W hs I h λD C H' s' m L M hn q=>⟨m,hn,λh' R=>⟨.ref D,H',?_,rfl,q⟩⟩
 obtain⟨S,z1,z2,U,Y,Z⟩:=M
 exact L.turned (t':=s'.toks) (λb o P e=>R.extBut b o P e) S z1 U Y Z
end
section
variable{X:Cx}{K:PySem.W.Frag}
end
end My
namespace D3
open PySem
noncomputable abbrev D:=PyData
inductive U where
 |d (x:D)
 |x (c f:Str) (v:D)
noncomputable abbrev DS:=List (Option U)
inductive Oc where
 |nx (δ:DS)
 |rt (d:D)
 |bk (δ:DS)
 |ct (δ:DS)
 |ex (c f:Str) (v:D)
noncomputable abbrev FE:=DS->Option D
noncomputable abbrev FA:=DS->Option (List D)
noncomputable abbrev FT:=DS->Option Bool
noncomputable abbrev FS:=DS->Option Oc
noncomputable abbrev FG:=D->DS->Option DS
mutual
noncomputable def flat:D->Bool
 | .none=>true
 | .bool _=>true
 | .int _=>true
 | .str _=>true
 | .list _=>false
 | .tuple xs=>flats xs
 | .dict _=>false
noncomputable def flats:List D->Bool
 |[]=>true
 |x::r=>flat x&&flats r
end
mutual
noncomputable def nl:D->Nat
 | .none=>0
 | .bool _=>0
 | .int _=>0
 | .str _=>0
 | .list xs=>nls xs+1
 | .tuple xs=>nls xs
 | .dict _=>1
noncomputable def nls:List D->Nat
 |[]=>0
 |x::r=>nl x+nls r
end
noncomputable def fl1:D->Bool
 | .list xs=>flats xs
 |d=>flat d
noncomputable def aj(i:Nat):FE:=λδ=>match δ[i]? with
 |some (some (.d x))=>some x
 |_=>none
noncomputable def dC(d:D):FE:=λ_=>some d
noncomputable def dOp(g:D->D->Option D)(fa fb:FE):FE:=λδ=>(fa δ).bind λx=>(fb δ).bind λy=>g x y
noncomputable def dUn(g:D->Option D)(fa:FE):FE:=λδ=>(fa δ).bind g
noncomputable def aY:FA:=λ_=>some []
noncomputable def aq(fa:FE)(fr:FA):FA:=λδ=>(fa δ).bind λx=>(fr δ).bind λr=>some (x::r)
noncomputable def dTup(fa:FA):FE:=λδ=>(fa δ).bind λl=>if l.length<=sizeLine then some (.tuple l)else none
noncomputable def mJ(fa:FA):FE:=λδ=>(fa δ).bind λl=>if l.length<=sizeLine then some (.list l)else none
noncomputable def dCall(F:List D->Option D)(fa:FA):FE:=λδ=>(fa δ).bind F
noncomputable def oH(fa:FE):FE:=λδ=>(fa δ).bind λd=>if flat d=true then some d else none
noncomputable def dN1(fa:FE):FE:=λδ=>(fa δ).bind λd=>if decide (nl d<=1)=true then some d else none
noncomputable def uz(fa:FE):FE:=λδ=>(fa δ).bind λd=>if fl1 d=true then some d else none
noncomputable def wG(fa fb:FE):FE:=λδ=>(fa δ).bind λx=>match x with
 | .bool true=>fb δ
 | .bool false=>some (.bool false)
 |_=>none
noncomputable def dOr(fa fb:FE):FE:=λδ=>(fa δ).bind λx=>match x with
 | .bool true=>some (.bool true)
 | .bool false=>fb δ
 |_=>none
noncomputable def Ks(fa:FE):FE:=λδ=>(fa δ).bind λx=>match x with
 | .bool b=>some (.bool (!b))
 |_=>none
noncomputable def dIf(c:FT)(fa fb:FE):FE:=λδ=>(c δ).bind λb=>if b=true then fa δ else fb δ
noncomputable def bO(fa:FE):FT:=λδ=>(fa δ).bind λx=>match x with
 | .bool b=>some b
 |_=>none
noncomputable def oE(a b:FT):FT:=λδ=>(a δ).bind λx=>if x=true then b δ else some false
noncomputable def tOr(a b:FT):FT:=λδ=>(a δ).bind λx=>if x=true then some true else b δ
noncomputable def jk(a:FT):FT:=λδ=>(a δ).map λx=>!x
noncomputable def dZ:FS:=λδ=>some (.nx δ)
noncomputable def bY(a b:FS):FS:=λδ=>(a δ).bind λo=>match o with
 | .nx Z=>b Z
 |o=>some o
noncomputable def WX(i:Nat)(fe:FE):FS:=λδ=>(fe δ).bind λd=>some (.nx (δ.set i (some (.d d))))
noncomputable def sIf(c:FT)(a b:FS):FS:=λδ=>(c δ).bind λt=>if t=true then a δ else b δ
noncomputable def eG(fe:FE):FS:=λδ=>(fe δ).bind λd=>some (.rt d)
noncomputable def WY:FS:=λ_=>some (.rt .none)
noncomputable def Gq(fe:FE):FS:=λδ=>(fe δ).bind λ_=>some (.nx δ)
noncomputable def sBk:FS:=λδ=>some (.bk δ)
noncomputable def sCt:FS:=λδ=>some (.ct δ)
noncomputable def gN(i:Nat):FG:=λd δ=>some (δ.set i (some (.d d)))
noncomputable def lF:List D->DS->Option DS:=λl δ=>match l with
 |[]=>some δ
 |_=>none
noncomputable def dw(g:FG)(r:List D->DS->Option DS):List D->DS->Option DS:=λl δ=>match l with
 |d::Y=>(g d δ).bind λZ=>r Y Z
 |[]=>none
noncomputable def Ce(fe:FE)(g:FG):FS:=λδ=>(fe δ).bind λd=>(g d δ).bind λZ=>some (.nx Z)
noncomputable def jc(g:FG)(b:FS):List D->DS->Option Oc
 |[],δ=>some (.nx δ)
 |d::r,δ=>(g d δ).bind λY=>(b Y).bind λo=>match o with
  | .nx Z=>jc g b r Z
  | .ct Z=>jc g b r Z
  | .bk Z=>some (.nx Z)
  | .rt v=>some (.rt v)
  | .ex c f v=>some (.ex c f v)
noncomputable def k_(fi:FA)(g:FG)(b:FS):FS:=λδ=>(fi δ).bind λl=>jc g b l δ
open Classical in
noncomputable def fnD(p q:Nat)(b:FS):List D->Option D:=λds=>if ds.length=p then match b (ds.map (λd=>some (.d d))++aP q none)with
 |some (.rt d)=>some d
 |some (.nx _)=>some .none
 |_=>none
 else none
noncomputable def pU(t:Nat)(ix:List Nat)(δ:DS):DS:=aP t none++ix.map λj=>(δ[j]?).getD none
noncomputable def jB(g:FG)(c:FT)(e:FE)(δ:DS):List D->Option (List D)
 |[]=>some []
 |d::r=>(g d δ).bind λZ=>(c Z).bind λb=>if b=true then(e Z).bind λx=>(jB g c e δ r).bind λl=>some (x::l)else jB g c e δ r
noncomputable def p8(fi:FA)(g:FG)(c:FT)(e:FE)(t:Nat)(ix:List Nat):FE:=λδ=>(fi δ).bind λl=>if l.length<=100000 then(jB g c e (pU t ix δ) l).bind λr=>some (.list r)else none
noncomputable def sG:FT:=λ_=>some true
noncomputable def gI(g:Int->Int->Option D):D->D->Option D:=λx y=>match x,y with
 | .int i,.int j=>g i j
 |_,_=>none
noncomputable def pIx(n:Nat)(i:Int):Option Nat:=if 0<=i then(if i<n then some i.toNat else none)else if -(n:Int)<=i then some (i+n).toNat else none
noncomputable def pAt(xs:List D)(i:Int):Option D:=(pIx xs.length i).bind λj=>xs[j]?
noncomputable def isT(c T:String):Bool:=T==c||(T=="bool"&&c=="int")
noncomputable def bV(i:Nat)(fe:FE):FS:=λδ=>if i<δ.length then WX i fe δ else none
noncomputable def cX:D->D->Option D:=gI λi j=>some (.int (i+j))
noncomputable def pY:D->D->Option D:=gI λi j=>some (.int (i-j))
noncomputable def wH(i j:Int):Bool:=decide (i.natAbs<2^64)||decide (j.natAbs<2^64)||(decide (i.natAbs<2^30000)&&decide (j.natAbs<2^30000))
noncomputable def rF:D->D->Option D:=gI λi j=>if wH i j=true then some (.int (i*j))else none
noncomputable def EY(_ j:Int):Bool:=decide (j≠0)&&decide (j.natAbs<2^9000)
noncomputable def Cg:D->D->Option D:=gI λi j=>if EY i j=true then some (.int (i.fdiv j))else none
noncomputable def sH:D->D->Option D:=gI λi j=>if decide (j≠0)=true then some (.int (i.fmod j))else none
noncomputable def Ud(i j:Int):Bool:=decide (0<=j)&&decide (j<=1000)&&decide (i.natAbs<2^64)
noncomputable def Ue:D->D->Option D:=gI λi j=>if Ud i j=true then some (.int (i^j.toNat))else none
noncomputable def gLt:D->D->Option D:=gI λi j=>some (.bool (decide (i<j)))
noncomputable def gLe:D->D->Option D:=gI λi j=>some (.bool (decide (i<=j)))
noncomputable def gGt:D->D->Option D:=gI λi j=>some (.bool (decide (j<i)))
noncomputable def gGe:D->D->Option D:=gI λi j=>some (.bool (decide (j<=i)))
noncomputable def gEq:D->D->Option D:=λx y=>if(SeqAt.shaped x&&SeqAt.shaped y)=true then some (.bool (PyData.eqv x y))else none
noncomputable def gNe:D->D->Option D:=λx y=>if(SeqAt.shaped x&&SeqAt.shaped y)=true then some (.bool (!PyData.eqv x y))else none
noncomputable def gNl(i:Nat):FG:=λd δ=>if i<δ.length then gN i d δ else none
noncomputable def gTn(n:Nat)(g:List D->DS->Option DS):FG:=λd δ=>match d with
 | .tuple l=>if l.length=n then g l δ else none
 |_=>none
noncomputable def pB(i:Nat)(f:FE):FS:=λδ=>(aj i δ).bind λx=>(f δ).bind λd=>match x with
 | .list l=>if l.length<1000000 then some (.nx (δ.set i (some (.d (.list (l++[d]))))))else none
 |_=>none
noncomputable def m5(i:Nat)(fk f:FE):FS:=λδ=>(f δ).bind λd=>(aj i δ).bind λx=>(fk δ).bind λk=>match x,k with
 | .list l,.int j=>(pIx l.length j).bind λn=>some (.nx (δ.set i (some (.d (.list (l.set n d))))))
 |_,_=>none
noncomputable def putAt(x:D)(n:Nat)(d:D):D:=match x with
 | .list l=>.list (l.set n d)
 | .tuple l=>.tuple (l.set n d)
 |x=>x
noncomputable def asList:D->Option (List D)
 | .list l=>some l
 |_=>none
noncomputable def uD(f:FE):FA:=λδ=>(f δ).bind asList
noncomputable def d8(lo hi:Int):List D:=(bC (hi-lo).toNat).map λ(k:Nat)=>.int (lo+(k:Int))
noncomputable def rG(i:Int):Bool:=decide (-(2^62)<=i)&&decide (i<2^62)
noncomputable def lu(fa:FA):FA:=λδ=>(fa δ).bind λl=>match l with
 |[.int j]=>if rG j=true then some (d8 0 j)else none
 |_=>none
noncomputable def Ci(fa:FA):FA:=λδ=>(fa δ).bind λl=>match l with
 |[.int i,.int j]=>if(rG i&&rG j)=true then some (d8 i j)else none
 |_=>none
noncomputable def gIx:D->D->Option D:=λx y=>match x,y with
 | .list l,.int i=>pAt l i
 | .tuple l,.int i=>pAt l i
 |_,_=>none
noncomputable def eX(g g':D->D->Option D)(fa fb fc:FE):FE:=λδ=>(fa δ).bind λx=>(fb δ).bind λy=>(g x y).bind λz=>match z with
 | .bool true=>(fc δ).bind λw=>g' y w
 | .bool false=>some (.bool false)
 |_=>none
noncomputable def vH(g g' B:D->D->Option D)(fa fb fc fd:FE):FE:=λδ=>(fa δ).bind λx=>(fb δ).bind λy=>(g x y).bind λz=>match z with
 | .bool true=>(fc δ).bind λw=>(g' y w).bind λZ=>match Z with
  | .bool true=>(fd δ).bind λu=>B w u
  | .bool false=>some (.bool false)
  |_=>none
 | .bool false=>some (.bool false)
 |_=>none
noncomputable def isNone:D->Bool
 | .none=>true
 |_=>false
noncomputable def Cj:D->Option D:=λx=>some (.bool (isNone x))
noncomputable def wI:D->Option D:=λx=>some (.bool (!isNone x))
noncomputable def jd:List D->Option D
 |[.list l]=>some (.int l.length)
 |[.tuple l]=>some (.int l.length)
 |_=>none
noncomputable def dX:List D->Option (List Int)
 |[]=>some []
 | .int i::r=>(dX r).map (i :: ·)
 |_=>none
noncomputable def mxI(i:Int)(r:List Int):Int:=r.foldl (λa b=>if a<b then b else a) i
noncomputable def pN:List D->Option D
 |[.list l]=>match dX l with
  |some (i::r)=>some (.int (mxI i r))
  |_=>none
 |_=>none
noncomputable def insI(x:Int):List Int->List Int
 |[]=>[x]
 |y::r=>if x<=y then x::y::r else y::insI x r
noncomputable def Iw:List Int->List Int
 |[]=>[]
 |x::r=>insI x (Iw r)
noncomputable def zY:List D->Option D
 |[.int i]=>some (.int i)
 |[.bool b]=>some (.int (if b then 1 else 0))
 |_=>none
noncomputable def Zg:List D->Option D
 |[.int i]=>some (.int (if i<0 then -i else i))
 |_=>none
noncomputable def W6:List D->Option D
 |[.int i,.int j]=>some (.int (if j>i then j else i))
 |_=>none
noncomputable def W7:List D->Option D
 |[.int i,.int j]=>some (.int (if j<i then j else i))
 |_=>none
noncomputable def tyD:D->String
 | .none => "NoneType"
 | .bool _ => "bool"
 | .int _ => "int"
 | .str _ => "str"
 | .list _ => "list"
 | .tuple _ => "tuple"
 | .dict _ => "dict"
noncomputable def gIs(c:String):D->Option D:=λd=>some (.bool (isT c (tyD d)))
noncomputable def Pr:D->Option D
 | .int i=>some (.int (-i))
 |_=>none
noncomputable def oJ:D->D->Option D:=λx y=>match x,y with
 | .list l,.list m=>if l.length+m.length<=1000000 then some (.list (l++m))else none
 |_,_=>none
noncomputable def wJ:D->D->Option D:=λx y=>match x,y with
 | .list l,.int k=>if l.length*k.toNat<=1000000/\-(2^63)<=k/\k<2^63 then some (.list (aP k.toNat l).flatten)else none
 |_,_=>none
noncomputable def tR:D->Option D
 | .list l=>some (.list l)
 | .tuple l=>some (.list l)
 |_=>none
noncomputable abbrev FO:=DS->Option (Option Int)
noncomputable def pO:FO:=λ_=>some none
noncomputable def gj(f:FE):FO:=λδ=>(f δ).bind λx=>match x with
 | .int i=>some (some i)
 |_=>none
noncomputable def pSx(n d:Nat):Option Int->Nat
 |none=>d
 |some i=>if i<0 then(i+n).toNat else min i.toNat n
noncomputable def cutD(xs:List D)(lo hi:Option Int):List D:=(xs.drop (pSx xs.length 0 lo)).take (pSx xs.length xs.length hi-pSx xs.length 0 lo)
noncomputable def dSl(f:FE)(lo hi:FO):FE:=λδ=>(f δ).bind λx=>(lo δ).bind λa=>(hi δ).bind λb=>match x with
 | .list l=>some (.list (cutD l a b))
 |_=>none
noncomputable def W8(i j:Nat)(fa:FA):FS:=λδ=>(fa δ).bind λl=>match l with
 |[x,y]=>if i<δ.length/\j<δ.length then some (.nx ((δ.set i (some (.d x))).set j (some (.d y))))else none
 |_=>none
noncomputable def lG(l:List D):List D:=l.mapIdx λi x=>.tuple [.int (i:Int),x]
noncomputable def Ck(f:FE):FA:=λδ=>(f δ).bind λd=>match d with
 | .list l=>some (lG l)
 |_=>none
noncomputable def sI:List D->Option (List Bool)
 |[]=>some []
 | .bool b::r=>(sI r).map (b :: ·)
 |_=>none
noncomputable def Pu:List D->Option D
 |[.list l]=>(sI l).map λbs=>.bool (bs.all id)
 |_=>none
noncomputable def mz:List D->List D->List D
 |x::r,y::s=>.tuple [x,y]::mz r s
 |_,_=>[]
noncomputable def W9(f g:FE):FA:=λδ=>(f δ).bind λd=>(g δ).bind λe=>match d,e with
 | .list l,.list m=>some (mz l m)
 |_,_=>none
noncomputable def Px(f:FE):FA:=λδ=>(f δ).bind λd=>match d with
 | .list l=>some l.reverse
 |_=>none
theorem oK:∀(r:List Int)(i:Int),mxI i r∈i::r/\∀a∈i::r,a<=mxI i r
 |[],i=>⟨aC,λa h=>by rw[aO.mp h];exact eU _⟩
 |b::r,i=>by
  have Z:=oK r (if i<b then b else i)
  have e:mxI i (b::r)=mxI (if i<b then b else i) r:=rfl
  rw[e]
  constructor
  ·rcases aW.mp Z.1 with z|z
   ·rw[z]
    split<;>simp
   ·exact aJ _ (aJ _ z)
  ·intro a h
   have X:=Z.2 _ aC
   have Y:i<=(if i<b then b else i)/\b<=(if i<b then b else i):=by split<;>omega
   rcases aW.mp h with rfl|h
   ·exact gY Y.1 X
   ·rcases aW.mp h with rfl|h
    ·exact gY Y.2 X
    ·exact Z.2 a (aJ _ h)
theorem insI_perm(x:Int):∀l,(insI x l).Perm (x::l)
 |[]=>.refl _
 |y::r=>by
  unfold insI
  split
  ·exact .refl _
  ·exact((insI_perm x r).cons y).trans (.swap x y r)
theorem uE:∀l,(Iw l).Perm l
 |[]=>.refl _
 |x::r=>(insI_perm x _).trans ((uE r).cons x)
theorem uV(x:Int):∀l,l.Pairwise (· <= ·)->(insI x l).Pairwise (· <= ·)
 |[],_=>by simp[insI]
 |y::r,h=>by
  obtain⟨h1,h2⟩:=bU.mp h
  unfold insI
  split
  ·next c=>
   refine bU.mpr ⟨λa ha=>?_,h⟩
   rcases aW.mp ha with rfl|z
   ·exact c
   ·exact gY c (h1 a z)
  ·next c=>
   refine bU.mpr ⟨λa ha=>?_,uV x r h2⟩
   rcases aW.mp ((insI_perm x r).mem_iff.mp ha)with rfl|z
   ·omega
   ·exact h1 a z
theorem uW:∀l,(Iw l).Pairwise (· <= ·)
 |[]=>.nil
 |x::r=>uV x _ (uW r)
end D3
variable{u:L2.HO}{kvs:List (D3.D×D3.D)}{d:D3.D}{ds:List D3.D}{pl:Bool}{as:List Addr}{δ:D3.DS}{L:List Nat}
namespace D3
open PySem PySem.Spec PyProof.Rows L2 My
noncomputable abbrev Ok:=Addr->Prop
noncomputable abbrev St:=L2.St
class Chg (u:HO):Prop where
 ch:(∃xs,u = .lst xs)\/(∃kvs,u = .dK kvs)\/∃kvs,u = .dT kvs
instance (xs:List V):Chg (.lst xs):=⟨.inl ⟨xs,rfl⟩⟩
instance (kvs:List (Key×V)):Chg (.dK kvs):=⟨.inr (.inl ⟨kvs,rfl⟩)⟩
instance (kvs:List (List Key×V)):Chg (.dT kvs):=⟨.inr (.inr ⟨kvs,rfl⟩)⟩
theorem Chg.frz{o:Obj}{u:HO}(h:Chg (.frz o u)):False:=by
 rcases h.ch with⟨_,z⟩|⟨_,z⟩|⟨_,z⟩<;>cases z
theorem Chg.tup{xs:List V}(h:Chg (.tup xs)):False:=by
 rcases h.ch with⟨_,z⟩|⟨_,z⟩|⟨_,z⟩<;>cases z
noncomputable def Chd(o:Option HO):Prop:=∃u,o=some u/\Chg u
theorem Chd.ne{o:Option HO}(h:Chd o):o≠none:=by
 obtain⟨u,rfl,_⟩:=h
 simp
noncomputable def SqK(K:PySem.W.Frag)(H:Hp)(a:Addr)(xs:List V):Prop:=(∃o,H a=some (.frz o (.lst xs))) \/
 ∃(o:Obj)(its:Array Value)(n:Nat),K.lookup a=some o/\o.cls = .type "list"/\o.dict=none/\o.data = .seq its n/\its.size<=sizeLine/\Vals xs its.toList
theorem SqK.sq{xs:List V}(h:SqK K H a xs):SqL K H a xs:=by
 rcases h with⟨o,h⟩|h
 ·exact .inl (.inr ⟨o,h⟩)
 ·exact .inr h
noncomputable def jl(H:Hp)(a:Addr)(xs:List V):Prop:=H a=some (.tup xs)
theorem jl.sq{xs:List V}(h:jl H a xs):SqT K H a xs:=.inl (.inl h)
theorem jl.same{xs:List V}(e:Same H H')(h:jl H a xs):jl H' a xs:=e _ _ h
theorem jl.upd{xs:List V}[B:Chg u](h:H a=some u)(q:jl H b xs):jl (upd H a o) b xs:=by
 unfold jl
 rw[cJ (Bx q h (by intro z;subst z;exact B.tup))]
 exact q
noncomputable def dk0:List (D×D)->List (Key×V)
 |[]=>[]
 | (.int i,.int j)::r=>(.inl i,.int j)::dk0 r
 | (.int i,.bool true)::r=>(.inl i,.bl true)::dk0 r
 |_::r=>(.inl 0,.non)::dk0 r
noncomputable def tkK:List D->Option (List Key)
 |[]=>some []
 | .int i::r=>(tkK r).map (.inl i :: ·)
 |_=>none
noncomputable def tkD:List (D×D)->Option (List (List Key×V))
 |[]=>some []
 | (.tuple l,.bool true)::r=>(tkK l).bind λk=>(tkD r).map ((k,.bl true) :: ·)
 |_=>none
noncomputable def dh0(kvs:List (D×D)):HO:=match kvs with
 |[]=>.dK []
 |q::r=>match tkD (q::r)with
  |some ts=>.dT ts
  |none=>.dK (dk0 (q::r))
theorem Ku(kvs:List (D×D)):(∃ks,dh0 kvs = .dK ks)\/∃ks,dh0 kvs = .dT ks:=by
 cases kvs with
 |nil=>exact .inl ⟨_,rfl⟩
 |cons q r=>
  unfold dh0
  dsimp only
  split
  ·exact .inr ⟨_,rfl⟩
  ·exact .inl ⟨_,rfl⟩
instance (kvs:List (D×D)):Chg (dh0 kvs):=⟨by
 rcases Ku kvs with⟨ks,z⟩|⟨ks,z⟩
 ·exact .inr (.inl ⟨ks,z⟩)
 ·exact .inr (.inr ⟨ks,z⟩)⟩
noncomputable def scV:D->V
 | .int i=>.int i
 |_=>.non
noncomputable def scs:List D->Bool
 |[]=>true
 | .int _::r=>scs r
 | .none::r=>scs r
 |_=>false
noncomputable def TV(H:Hp)(v:V)(d:D):Prop:=(v = .non/\d = .none)\/∃b ds,v = .ref b/\d = .tuple ds/\jl H b (ds.map scV)/\scs ds=true
inductive TVs(H:Hp):List (Key×V)->List (D×D)->Prop
 |nil:TVs H [] []
 |cons {i:Int} {v:V} {d:D} {r:List (Key×V)} {r':List (D×D)}:TV H v d->TVs H r r'->TVs H ((.inl i,v)::r) ((.int i,d)::r')
theorem TV.imp(h:∀b xs,jl H b xs->jl H' b xs){v:V}{d:D}(q:TV H v d):TV H' v d:=by
 rcases q with q|⟨b,ds,h1,h2,Y,Z⟩
 ·exact .inl q
 ·exact .inr ⟨b,ds,h1,h2,h _ _ Y,Z⟩
theorem TVs.imp(h:∀b xs,jl H b xs->jl H' b xs){ks:List (Key×V)}{kvs:List (D×D)}(q:TVs H ks kvs):TVs H' ks kvs:=by
 induction q with
 |nil=>exact .nil
 |cons t _ Z=>exact .cons (t.imp h) Z
noncomputable def E_:List (D×D)->Bool
 |[]=>true
 | (_,.int _)::r=>E_ r
 | (_,.bool _)::r=>E_ r
 |_=>false
noncomputable def TW(H:Hp)(v:V)(m:List Int)(z:Int):Prop:=∃b c,v = .ref b/\jl H b [.ref c,.int z]/\jl H c (m.map V.int)
inductive TTs(H:Hp):List (List Key×V)->List (D×D)->Prop
 |nil:TTs H [] []
 |cons {k m:List Int} {z:Int} {v:V} {r:List (List Key×V)} {r':List (D×D)}:TW H v m z->TTs H r r'->TTs H ((k.map Sum.inl,v)::r) ((.tuple (k.map .int),.tuple [.tuple (m.map .int),.int z])::r')
theorem TTs.imp(h:∀b xs,jl H b xs->jl H' b xs){ks:List (List Key×V)}{kvs:List (D×D)}(q:TTs H ks kvs):TTs H' ks kvs:=by
 induction q with
 |nil=>exact .nil
 |cons t _ Z=>
  obtain⟨b,c,h1,h2,Y⟩:=t
  exact .cons ⟨b,c,h1,h _ _ h2,h _ _ Y⟩ Z
noncomputable def DH(H:Hp)(u:HO)(kvs:List (D×D)):Prop:=(E_ kvs=true/\u=dh0 kvs)\/(∃ks,u = .dK ks/\TVs H ks kvs)\/∃q ks,u = .dT (q::ks)/\TTs H (q::ks) kvs
theorem DH.imp(h:∀b xs,jl H b xs->jl H' b xs){u:HO}{kvs:List (D×D)}(q:DH H u kvs):DH H' u kvs:=by
 rcases q with q|⟨ks,q1,q2⟩|⟨k,ks,q1,q2⟩
 ·exact .inl q
 ·exact .inr (.inl ⟨ks,q1,q2.imp h⟩)
 ·exact .inr (.inr ⟨k,ks,q1,q2.imp h⟩)
theorem DH.same(q:DH H u kvs)(e:Same H H'):DH H' u kvs:=q.imp λ_ _ h=>jl.same e h
theorem DH.upd{B:HO}[J:Chg u]{kvs:List (D×D)}(q:DH H B kvs)(h:H a=some u):DH (upd H a o) B kvs:=q.imp λ_ _ z=>jl.upd h z
theorem DH.or(q:DH H u kvs):(∃ks,u = .dK ks)\/∃ks,u = .dT ks:=by
 rcases q with⟨_,rfl⟩|⟨ks,rfl,_⟩|⟨k,ks,rfl,_⟩
 ·exact Ku kvs
 ·exact .inl ⟨ks,rfl⟩
 ·exact .inr ⟨_,rfl⟩
theorem DH.chg(q:DH H u kvs):Chg u:=⟨.inr q.or⟩
theorem DH.old(q:DH H u kvs)(h:E_ kvs=true):u=dh0 kvs:=by
 rcases q with q|⟨ks,rfl,q⟩|⟨k,ks,rfl,q⟩
 ·exact q.2
 ·cases q with
  |nil=>rfl
  |cons t _=>
   rcases t with⟨_,rfl⟩|⟨_,_,_,rfl,_,_⟩<;>cases h
 ·cases q with
  |cons _ _=>cases h
mutual
inductive RA(K:PySem.W.Frag)(ok:Ok)(pl:Bool)(H:Hp):V->D->Prop
 |non:RA K ok pl H .non .none
 |bl (b:Bool):RA K ok pl H (.bl b) (.bool b)
 |int (i:Int):RA K ok pl H (.int i) (.int i)
 |str (x:Str):RA K ok pl H (.str x) (.str x)
 |lst {a:Addr} {xs:List V} {ds:List D}:H a=some (.lst xs)->ok a->RAs K ok pl H xs ds->RA K ok pl H (.ref a) (.list ds)
 |lsk {a:Addr} {xs:List V} {ds:List D}:SqK K H a xs->pl=true->RAs K ok pl H xs ds->RA K ok pl H (.ref a) (.list ds)
 |tup {a:Addr} {xs:List V} {ds:List D}:jl H a xs->RAs K ok pl H xs ds->RA K ok pl H (.ref a) (.tuple ds)
 |dic {a:Addr} {u:HO} {kvs:List (D×D)}:H a=some u->DH H u kvs->ok a->RA K ok pl H (.ref a) (.dict kvs)
 |dik {a:Addr} {u:HO} {kvs:List (D×D)} {o:Obj}:H a=some (.frz o u)->DH H u kvs->pl=true->RA K ok pl H (.ref a) (.dict kvs)
inductive RAs(K:PySem.W.Frag)(ok:Ok)(pl:Bool)(H:Hp):List V->List D->Prop
 |nil:RAs K ok pl H [] []
 |cons {v:V} {d:D} {vs:List V} {ds:List D}:RA K ok pl H v d->RAs K ok pl H vs ds->RAs K ok pl H (v::vs) (d::ds)
end
section
variable{K:PySem.W.Frag}{ok ok':Ok}{pl pl':Bool}{H H':Hp}
theorem RA.ind{P:V->D->Prop}{Q:List V->List D->Prop}(c1:P .non .none)(c2:∀b,P (.bl b) (.bool b))(c3:∀i,P (.int i) (.int i))(c4:∀x,P (.str x) (.str x))
 (c5:∀{a:Addr}{xs:List V}{ds:List D},H a=some (.lst xs)->ok a->Q xs ds->P (.ref a) (.list ds)) (Z:∀{a:Addr}{xs:List V}{ds:List D},SqK K H a xs->pl=true->Q xs ds->P (.ref a) (.list ds)) (Y:∀{a:Addr}{xs:List V}{ds:List D},jl H a xs->Q xs ds->P (.ref a) (.tuple ds))
 (W:∀{a:Addr}{u:HO}{kvs:List (D×D)},H a=some u->DH H u kvs->ok a->P (.ref a) (.dict kvs)) (O:∀{a:Addr}{u:HO}{kvs:List (D×D)}{o:Obj},H a=some (.frz o u)->DH H u kvs->pl=true->P (.ref a) (.dict kvs)) (J:Q [] []) (B:∀{v:V}{d:D}{vs:List V}{ds:List D},P v d->Q vs ds->Q (v::vs) (d::ds)) :
 (∀{v:V}{d:D},RA K ok pl H v d->P v d)/\∀{v:List V}{d:List D},RAs K ok pl H v d->Q v d:=
 ⟨λh=>RA.rec (motive_1:=λv d _=>P v d) (motive_2:=λv d _=>Q v d) c1 c2 c3 c4 (λh o _ q=>c5 h o q) (λh o _ q=>Z h o q) (λh _ q=>Y h q) (λh g o=>W h g o) (λh g o=>O h g o) J (λ_ _ a q=>B a q) h,
  λh=>RAs.rec (motive_1:=λv d _=>P v d) (motive_2:=λv d _=>Q v d) c1 c2 c3 c4 (λh o _ q=>c5 h o q) (λh o _ q=>Z h o q) (λh _ q=>Y h q) (λh g o=>W h g o) (λh g o=>O h g o) J (λ_ _ a q=>B a q) h⟩
theorem RA.imp2(J:∀a,ok a->ok' a)(B:pl=true->pl'=true):(∀{v:V}{d:D},RA K ok pl H v d->RA K ok' pl' H v d)/\∀{v:List V}{d:List D},RAs K ok pl H v d->RAs K ok' pl' H v d:=
 RA.ind .non .bl .int .str (λh o q=>.lst h (J _ o) q) (λh o q=>.lsk h (B o) q) (λh q=>.tup h q) (λh g o=>.dic h g (J _ o)) (λh g o=>.dik h g (B o)) .nil .cons
theorem RA.imp(J:∀a,ok a->ok' a)(B:pl=true->pl'=true){v:V}{d:D}(h:RA K ok pl H v d):RA K ok' pl' H v d:=(RA.imp2 J B).1 h
theorem RAs.imp(J:∀a,ok a->ok' a)(B:pl=true->pl'=true){v:List V}{d:List D}(h:RAs K ok pl H v d):RAs K ok' pl' H v d:=(RA.imp2 J B).2 h
theorem SqK.same{xs:List V}(e:Same H H')(h:SqK K H a xs):SqK K H' a xs:=by
 rcases h with⟨o,h⟩|h
 ·exact .inl ⟨o,e _ _ h⟩
 ·exact .inr h
theorem RA.same2(e:Same H H'):(∀{v:V}{d:D},RA K ok pl H v d->RA K ok pl H' v d)/\∀{v:List V}{d:List D},RAs K ok pl H v d->RAs K ok pl H' v d:=
 RA.ind .non .bl .int .str (λh o q=>.lst (e _ _ h) o q) (λh o q=>.lsk (h.same e) o q) (λh q=>.tup (jl.same e h) q) (λh g o=>.dic (e _ _ h) (g.same e) o) (λh g o=>.dik (e _ _ h) (g.same e) o) .nil .cons
theorem RA.same(e:Same H H'){v:V}{d:D}(h:RA K ok pl H v d):RA K ok pl H' v d:=(RA.same2 e).1 h
theorem RAs.same(e:Same H H'){v:List V}{d:List D}(h:RAs K ok pl H v d):RAs K ok pl H' v d:=(RA.same2 e).2 h
theorem RA.flat2:(∀{v:V}{d:D},RA K ok pl H v d->flat d=true->RA K ok' pl' H v d)/\∀{v:List V}{d:List D},RAs K ok pl H v d->flats d=true->RAs K ok' pl' H v d:=
 RA.ind (λ_=>.non) (λb _=>.bl b) (λi _=>.int i) (λx _=>.str x) (λ_ _ _ h=>by simp[D3.flat]at h) (λ_ _ _ h=>by simp[D3.flat]at h) (λt q h=>.tup t (q (by simpa[D3.flat]using h))) (λ_ _ _ h=>by simp[D3.flat]at h) (λ_ _ _ h=>by simp[D3.flat]at h) (λ_=>.nil) λa q h=>by
  rw[flats,aU]at h
  exact .cons (a h.1) (q h.2)
theorem RA.flat(B:flat d=true)(h:RA K ok pl H v d):RA K ok' pl' H v d:=RA.flat2.1 h B
theorem RAs.flat{v:List V}{d:List D}(B:flats d=true)(h:RAs K ok pl H v d):RAs K ok' pl' H v d:=RA.flat2.2 h B
theorem SqK.upd{xs:List V}[B:Chg u](h:H a=some u)(q:SqK K H b xs):SqK K (upd H a o) b xs:=by
 rcases q with⟨o',q⟩|q
 ·refine .inl ⟨o',?_⟩
  rw[cJ (Bx q h (by intro z;subst z;first|exact B.frz|exact B.tup))]
  exact q
 ·exact .inr q
theorem RA.upd2[B:Chg u](h:H a=some u)(na:¬ok a):(∀{v:V}{d:D},RA K ok pl H v d->RA K ok pl (upd H a o) v d)/\∀{v:List V}{d:List D},RAs K ok pl H v d->RAs K ok pl (upd H a o) v d:=
 RA.ind .non .bl .int .str (λe k q=>.lst (by rw[cJ (by intro z;subst z;exact na k)];exact e) k q) (λe k q=>.lsk (e.upd h) k q) (λe q=>.tup (jl.upd h e) q) (λe g k=>.dic (by rw[cJ (by intro z;subst z;exact na k)];exact e) (g.upd h) k) (λe g k=>.dik (by rw[cJ (Bx e h (by intro z;subst z;exact B.frz))];exact e) (g.upd h) k) .nil .cons
theorem RA.upd[B:Chg u](h:H a=some u)(na:¬ok a){v:V}{d:D}(r:RA K ok pl H v d):RA K ok pl (upd H a o) v d:=(RA.upd2 h na).1 r
theorem RAs.upd[B:Chg u](h:H a=some u)(na:¬ok a){v:List V}{d:List D}(r:RAs K ok pl H v d):RAs K ok pl (upd H a o) v d:=(RA.upd2 h na).2 r
theorem RA.track2:(∀{v:V}{d:D},RA K ok pl H v d->RA K (λb=>ok b/\H b≠none) pl H v d)/\∀{v:List V}{d:List D},RAs K ok pl H v d->RAs K (λb=>ok b/\H b≠none) pl H v d:=
 RA.ind .non .bl .int .str (λe k q=>.lst e ⟨k,by rw[e];simp⟩ q) (λe k q=>.lsk e k q) (λe q=>.tup e q) (λe g k=>.dic e g ⟨k,by rw[e];simp⟩) (λe g k=>.dik e g k) .nil .cons
theorem RA.track(h:RA K ok pl H v d):RA K (λb=>ok b/\H b≠none) pl H v d:=RA.track2.1 h
theorem RAs.track{v:List V}{d:List D}(h:RAs K ok pl H v d):RAs K (λb=>ok b/\H b≠none) pl H v d:=RA.track2.2 h
theorem RAs.length:∀{v:List V}{d:List D},RAs K ok pl H v d->v.length=d.length
 |_,_,.nil=>rfl
 |_,_,.cons _ q=>by simp[RAs.length q]
theorem RAs.get:∀{v:List V}{d:List D}{i:Nat}{x:D},RAs K ok pl H v d->d[i]? = some x->∃y,v[i]? = some y/\RA K ok pl H y x
 |_,_,_,_,.nil,h=>by simp at h
 |_,_,0,_,.cons a _,h=>by simp at h;subst h;exact⟨_,rfl,a⟩
 |_,_,i+1,_,.cons _ q,h=>by
  obtain⟨y,e,r⟩:=RAs.get (i:=i) q (by simpa using h)
  exact⟨y,by simpa using e,r⟩
theorem RAs.append:∀{v B:List V}{d d':List D},RAs K ok pl H v d->RAs K ok pl H B d'->RAs K ok pl H (v++B) (d++d')
 |_,_,_,_,.nil,q=>q
 |_,_,_,_,.cons a r,q=>.cons a (RAs.append r q)
theorem RAs.set{x:V}{y:D}(r:RA K ok pl H x y):∀{v:List V}{d:List D}(i:Nat),RAs K ok pl H v d->RAs K ok pl H (v.set i x) (d.set i y)
 |_,_,_,.nil=>.nil
 |_,_,0,.cons _ q=>.cons r q
 |_,_,i+1,.cons a q=>.cons a (RAs.set r i q)
theorem RAs.take:∀{v:List V}{d:List D}(n:Nat),RAs K ok pl H v d->RAs K ok pl H (v.take n) (d.take n)
 |_,_,0,_=>by simp;exact .nil
 |_,_,_+1,.nil=>.nil
 |_,_,n+1,.cons a q=>.cons a (RAs.take n q)
theorem RAs.drop:∀{v:List V}{d:List D}(n:Nat),RAs K ok pl H v d->RAs K ok pl H (v.drop n) (d.drop n)
 |_,_,0,q=>q
 |_,_,_+1,.nil=>.nil
 |_,_,n+1,.cons _ q=>RAs.drop n q
theorem RAs.reverse:∀{v:List V}{d:List D},RAs K ok pl H v d->RAs K ok pl H v.reverse d.reverse
 |_,_,.nil=>.nil
 |_,_,.cons a q=>by
  rw[jm,jm]
  exact(RAs.reverse q).append (.cons a .nil)
theorem RA.rd2:(∀{v:V}{d:D},RA K ok pl H v d->d.canLay0=true->RdV K H v d)/\∀{v:List V}{d:List D},RAs K ok pl H v d->PyData.canLayAll0 d=true->RdVs K H v d:=
 RA.ind (λ_=>.non) (λb _=>.bl b) (λi _=>.int i) (λx _=>.str x) (λe _ q h=>.lst (SqL.of e) (q (by simpa[PyData.canLay0]using h))) (λe _ q h=>.lst e.sq (q (by simpa[PyData.canLay0]using h))) (λe q h=>.tup e.sq (q (by simpa[PyData.canLay0]using h))) (λ_ _ _ h=>by simp[PyData.canLay0]at h) (λ_ _ _ h=>by simp[PyData.canLay0]at h) (λ_=>.nil) λa q h=>by
  rw[PyData.canLayAll0,aU]at h
  exact .cons (a h.1) (q h.2)
theorem RA.rd(B:d.canLay0=true)(h:RA K ok pl H v d):RdV K H v d:=RA.rd2.1 h B
theorem RA.intE{i:Int}(h:RA K ok pl H v (.int i)):v = .int i:=by cases h;rfl
theorem RA.blE{b:Bool}(h:RA K ok pl H v (.bool b)):v = .bl b:=by cases h;rfl
theorem RA.lstE(h:RA K ok pl H v (.list ds)):∃a xs,v = .ref a/\SqL K H a xs/\RAs K ok pl H xs ds:=by
 cases h with
 |lst e k q=>exact⟨_,_,rfl,SqL.of e,q⟩
 |lsk e k q=>exact⟨_,_,rfl,e.sq,q⟩
theorem RA.dicU(h:RA K ok pl H v (.dict kvs)):∃a u,v = .ref a/\L2.Rd H a u/\DH H u kvs:=by
 cases h with
 |dic e g k=>exact⟨_,_,rfl,.inl e,g⟩
 |dik e g k=>exact⟨_,_,rfl,.inr ⟨_,e⟩,g⟩
theorem RA.dicE(h:RA K ok pl H v (.dict kvs))(B:E_ kvs=true):∃a,v = .ref a/\L2.Rd H a (dh0 kvs):=by
 obtain⟨a,u,h1,h2,Z⟩:=h.dicU
 rw[Z.old B]at h2
 exact⟨a,h1,h2⟩
theorem RA.tupE(h:RA K ok pl H v (.tuple ds)):∃a xs,v = .ref a/\SqT K H a xs/\RAs K ok pl H xs ds:=by
 cases h with
 |tup e q=>exact⟨_,_,rfl,e.sq,q⟩
theorem RA.tupE0(h:RA K ok pl H v (.tuple ds)):∃a xs,v = .ref a/\jl H a xs/\RAs K ok pl H xs ds:=by
 cases h with
 |tup e q=>exact⟨_,_,rfl,e,q⟩
end
inductive Fl where
 |A
 |O
 |L
 |N
 |M
 deriving DecidableEq
noncomputable def isN:Option Fl->Bool
 |some .N=>true
 |some .M=>true
 |_=>false
mutual
inductive RT(K:PySem.W.Frag)(H:Hp):V->D->List Addr->Prop
 |non:RT K H .non .none []
 |bl (b:Bool):RT K H (.bl b) (.bool b) []
 |int (i:Int):RT K H (.int i) (.int i) []
 |str (x:Str):RT K H (.str x) (.str x) []
 |lst {a:Addr} {xs:List V} {ds:List D} {as:List Addr}:H a=some (.lst xs)->RTs K H xs ds as->RT K H (.ref a) (.list ds) (a::as)
 |tup {a:Addr} {xs:List V} {ds:List D} {as:List Addr}:jl H a xs->RTs K H xs ds as->RT K H (.ref a) (.tuple ds) as
 |dic {a:Addr} {u:HO} {kvs:List (D×D)}:H a=some u->DH H u kvs->RT K H (.ref a) (.dict kvs) [a]
inductive RTs(K:PySem.W.Frag)(H:Hp):List V->List D->List Addr->Prop
 |nil:RTs K H [] [] []
 |cons {v:V} {d:D} {vs:List V} {ds:List D} {as bs:List Addr}:RT K H v d as->RTs K H vs ds bs->RTs K H (v::vs) (d::ds) (as++bs)
end
section
variable{K:PySem.W.Frag}{H H':Hp}
theorem RT.ind{P:V->D->List Addr->Prop}{Q:List V->List D->List Addr->Prop}(c1:P .non .none [])(c2:∀b,P (.bl b) (.bool b) [])(c3:∀i,P (.int i) (.int i) [])(Z:∀x,P (.str x) (.str x) [])
 (Y:∀{a:Addr}{xs:List V}{ds:List D}{as:List Addr},H a=some (.lst xs)->Q xs ds as->P (.ref a) (.list ds) (a::as)) (W:∀{a:Addr}{xs:List V}{ds:List D}{as:List Addr},jl H a xs->Q xs ds as->P (.ref a) (.tuple ds) as)
 (O:∀{a:Addr}{u:HO}{kvs:List (D×D)},H a=some u->DH H u kvs->P (.ref a) (.dict kvs) [a]) (J:Q [] [] []) (B:∀{v:V}{d:D}{vs:List V}{ds:List D}{as bs:List Addr},P v d as->Q vs ds bs->Q (v::vs) (d::ds) (as++bs)) :
 (∀{v:V}{d:D}{as:List Addr},RT K H v d as->P v d as)/\∀{v:List V}{d:List D}{as:List Addr},RTs K H v d as->Q v d as:=
 ⟨λh=>RT.rec (motive_1:=λv d as _=>P v d as) (motive_2:=λv d as _=>Q v d as) c1 c2 c3 Z (λh _ q=>Y h q) (λh _ q=>W h q) (λh g=>O h g) J (λ_ _ a q=>B a q) h,
  λh=>RTs.rec (motive_1:=λv d as _=>P v d as) (motive_2:=λv d as _=>Q v d as) c1 c2 c3 Z (λh _ q=>Y h q) (λh _ q=>W h q) (λh g=>O h g) J (λ_ _ a q=>B a q) h⟩
theorem RT.ra2{ok:Ok}:(∀{v:V}{d:D}{as:List Addr},RT K H v d as->(∀a∈as,ok a)->RA K ok pl H v d)/\∀{v:List V}{d:List D}{as:List Addr},RTs K H v d as->(∀a∈as,ok a)->RAs K ok pl H v d:=
 RT.ind (λ_=>.non) (λb _=>.bl b) (λi _=>.int i) (λx _=>.str x) (λe q h=>.lst e (h _ aC) (q λa ha=>h a (aJ _ ha))) (λe q h=>.tup e (q h)) (λe g h=>.dic e g (h _ aC)) (λ_=>.nil) λe q h=>.cons (e λa ha=>h a (cg _ ha)) (q λa ha=>h a (bG _ ha))
theorem RT.ra{ok:Ok}(r:RT K H v d as)(h:∀a∈as,ok a):RA K ok pl H v d:=RT.ra2.1 r h
theorem RT.same2(s:Same H H'):(∀{v:V}{d:D}{as:List Addr},RT K H v d as->RT K H' v d as)/\∀{v:List V}{d:List D}{as:List Addr},RTs K H v d as->RTs K H' v d as:=
 RT.ind .non .bl .int .str (λe q=>.lst (s _ _ e) q) (λe q=>.tup (jl.same s e) q) (λe g=>.dic (s _ _ e) (g.same s)) .nil .cons
theorem RT.same(s:Same H H'){v:V}{d:D}{as:List Addr}(h:RT K H v d as):RT K H' v d as:=(RT.same2 s).1 h
theorem RT.upd2[B:Chg u](h:H a=some u):(∀{v:V}{d:D}{as:List Addr},RT K H v d as->a∉as->RT K (upd H a o) v d as)/\∀{v:List V}{d:List D}{as:List Addr},RTs K H v d as->a∉as->RTs K (upd H a o) v d as:=
 RT.ind (λ_=>.non) (λb _=>.bl b) (λi _=>.int i) (λx _=>.str x) (λe q na=>.lst (by rw[cJ (λz=>na (by rw[<-z];exact aC))];exact e) (q λz=>na (aJ _ z))) (λe q na=>.tup (jl.upd h e) (q na)) (λe g na=>.dic (by rw[cJ (λz=>na (by rw[<-z];exact aC))];exact e) (g.upd h)) (λ_=>.nil) λe q na=>.cons (e λz=>na (cg _ z)) (q λz=>na (bG _ z))
theorem RT.upd[B:Chg u](h:H a=some u){v:V}{d:D}{as:List Addr}(na:a∉as)(r:RT K H v d as):RT K (upd H a o) v d as:=(RT.upd2 h).1 r na
theorem RT.chd2:(∀{v:V}{d:D}{as:List Addr},RT K H v d as->∀a∈as,Chd (H a))/\∀{v:List V}{d:List D}{as:List Addr},RTs K H v d as->∀a∈as,Chd (H a):=
 RT.ind (λ_ h=>by cases h) (λ_ _ h=>by cases h) (λ_ _ h=>by cases h) (λ_ _ h=>by cases h) (λe q a h=>by
  rcases aW.mp h with rfl|z
  ·exact⟨_,e,inferInstance⟩
  ·exact q a z) (λ_ q=>q) (λe g a h=>by rw[aO.mp h];exact⟨_,e,g.chg⟩) (λ_ h=>by cases h) λe q a h=>by
  rcases bW.mp h with z|z
  ·exact e a z
  ·exact q a z
theorem RT.chd(r:RT K H v d as):∀a∈as,Chd (H a):=RT.chd2.1 r
theorem RTs.chd{v:List V}{d:List D}(r:RTs K H v d as):∀a∈as,Chd (H a):=RT.chd2.2 r
theorem RT.tracked(h:RT K H v d as)(a:Addr)(ha:a∈as):H a≠none:=(h.chd a ha).ne
theorem RA.rt2{ok:Ok}:(∀{v:V}{d:D},RA K ok false H v d->∃as,RT K H v d as/\as.length=nl d/\∀a∈as,ok a)/\∀{v:List V}{d:List D},RAs K ok false H v d->∃as,RTs K H v d as/\as.length=nls d/\∀a∈as,ok a:=
 RA.ind ⟨[],.non,rfl,λ_ h=>by cases h⟩ (λb=>⟨[],.bl b,rfl,λ_ h=>by cases h⟩) (λi=>⟨[],.int i,rfl,λ_ h=>by cases h⟩) (λx=>⟨[],.str x,rfl,λ_ h=>by cases h⟩) (λe k q=>by
  obtain⟨as,h1,h2,Z⟩:=q
  refine⟨_::as,.lst e h1,by rw[bF,h2,nl],λa ha=>?_⟩
  rcases aW.mp ha with rfl|z
  ·exact k
  ·exact Z a z) (λ_ k _=>by cases k) (λe q=>by
  obtain⟨as,h1,h2,Z⟩:=q
  exact⟨as,.tup e h1,by rw[h2,nl],Z⟩) (λe g k=>⟨[_],.dic e g,by simp[nl],λa ha=>by rw[aO.mp ha];exact k⟩) (λ_ _ k=>by cases k) ⟨[],.nil,rfl,λ_ h=>by cases h⟩ λe q=>by
  obtain⟨as,h1,h2,Z⟩:=e
  obtain⟨bs,W,X,Y⟩:=q
  refine⟨as++bs,.cons h1 W,by rw[bJ,h2,X,nls],λa ha=>?_⟩
  rcases bW.mp ha with z|z
  ·exact Z a z
  ·exact Y a z
theorem RA.rt{ok:Ok}(h:RA K ok false H v d):∃as,RT K H v d as/\as.length=nl d/\∀a∈as,ok a:=RA.rt2.1 h
end
noncomputable def tabs:List (Addr×Str×Pos):=[(135, "turns.<locals>.<lambda>", ⟨43,42,43,72⟩)]
noncomputable def Tb(H:Hp):Prop:=∀t∈tabs,H t.1=some (.tbl t.2.1 t.2.2)
theorem Tb.same(t:Tb H)(s:Same H H'):Tb H':=λx Z=>s _ _ (t x Z)
structure Gh where
 H0:Hp
 HF:Hp
 pk:Nat->Option Addr
 pn:Nat->List Addr
 tb:Tb H0
structure Ow where
 s:Nat->Option Addr
 n:Nat->List Addr:=λ_=>[]
instance:CoeFun Ow (λ_=>Nat->Option Addr):=⟨Ow.s⟩
noncomputable abbrev ow0:Ow:=⟨λ_=>none,λ_=>[]⟩
noncomputable def okA(ow:Ow):Ok:=λa=>(∀i,ow i≠some a)/\∀i,a∉ow.n i
structure Rel(K:PySem.W.Frag)(fl:List Fl)(G:Gh)(ow:Ow)(σ:St)(H:Hp)(δ:DS):Prop where
 s0:Same G.H0 G.HF
 s1:Same G.HF H
 len:σ.length=δ.length
 own:∀i a,ow i=some a->G.H0 a=none/\((fl[i]? = some .O/\G.HF a=none)\/(fl[i]? = some .L/\∃xs,G.HF a=some (.lst xs))) /\
  ∃xs ds,σ[i]? = some (some (.ref a))/\H a=some (.lst xs)/\RAs K (okA ow) true H xs ds/\δ[i]? = some (some (.d (.list ds)))
 inj:∀i j a,ow i=some a->ow j=some a->i=j
 pin:∀i,fl[i]? = some .L->ow i=G.pk i
 dat:∀i d,δ[i]? = some (some (.d d))->isN fl[i]? = false->ow i=none->∃v,σ[i]? = some (some v)/\RA K (okA ow) true H v d
 oo:∀i d,δ[i]? = some (some (.d d))->isN fl[i]? = false->fl[i]? ≠ some .A->ow i=none->flat d=true
 nt:∀i a,a∈ow.n i->G.H0 a=none/\Chd (H a)/\((fl[i]? = some .N/\G.HF a=none)\/fl[i]? = some .M)
 nd:∀i j a,a∈ow.n i->a∈ow.n j->i=j
 ns:∀i j a,a∈ow.n i->ow j≠some a
 np:∀i,fl[i]? = some .M->ow.n i=G.pn i
 nr:∀i d,isN fl[i]? = true->δ[i]? = some (some (.d d))->∃v,σ[i]? = some (some v)/\RT K H v d (ow.n i)/\(ow.n i).Nodup
theorem Rel.tb{fl:List Fl}{G:Gh}{ow:Ow}{σ:St}(R:Rel K fl G ow σ H δ):Tb H:=G.tb.same (R.s0.trans R.s1)
theorem Rel.same0{fl:List Fl}{G:Gh}{ow:Ow}{σ:St}(R:Rel K fl G ow σ H δ):Same G.H0 H:=R.s0.trans R.s1
theorem Rel.grow{fl:List Fl}{G:Gh}{ow:Ow}{σ:St}(R:Rel K fl G ow σ H δ)(e:Same H H'):Rel K fl G ow σ H' δ:=
 ⟨R.s0,R.s1.trans e,R.len,λi a h=>by
  obtain⟨V,X,xs,ds,h1,h2,Z,Y⟩:=R.own i a h
  exact⟨V,X,xs,ds,h1,e _ _ h2,Z.same e,Y⟩,R.inj,R.pin,λi d h1 hn h2=>by
  obtain⟨v,Z,Y⟩:=R.dat i d h1 hn h2
  exact⟨v,Z,Y.same e⟩,R.oo,λi a h=>by
  obtain⟨h1,h2,Z⟩:=R.nt i a h
  exact⟨h1,(let⟨u,z,c⟩:=h2;⟨u,e _ _ z,c⟩),Z⟩,R.nd,R.ns,R.np,λi d h1 h2=>by
  obtain⟨v,Z,Y,W⟩:=R.nr i d h1 h2
  exact⟨v,Z,Y.same e,W⟩⟩
inductive Kd where
 |P
 |B (L:List Nat)
 |A
 |R
 |F
 |C
 |FC
 |T
noncomputable def ok1:Ok:=λ_=>True
noncomputable def ok0:Ok:=λ_=>False
noncomputable def okN(H:Hp):Ok:=λa=>H a=none
noncomputable def Rs(K:PySem.W.Frag)(H0:Hp)(ow:Ow)(Hb H:Hp):Kd->V->D->Prop
 | .P,v,d=>RA K ok1 true H v d
 | .B L,v,d=>RA K (okA ow) true H v d\/∃i∈L,∃a xs ds,ow i=some a/\v = .ref a/\d = .list ds/\H a=some (.lst xs)/\RAs K (okA ow) true H xs ds
 | .A,v,d=>RA K (okA ow) true H v d
 | .R,v,d=>RA K (okN H0) false H v d
 | .F,v,d=>(flat d=true/\RA K ok0 false H v d)\/∃a xs ds,v = .ref a/\d = .list ds/\Hb a=none/\H a=some (.lst xs)/\RAs K (λb=>okA ow b/\b≠a) true H xs ds
 | .C,v,d=>RA K (okN Hb) false H v d
 | .T,v,d=>∃as,RT K H v d as/\as.Nodup/\∀a∈as,Hb a=none
 | .FC,v,d=>(flat d=true/\RA K ok0 false H v d)\/∃a xs ds,v = .ref a/\d = .list ds/\Hb a=none/\H a=some (.lst xs)/\RAs K (λb=>okN Hb b/\b≠a) false H xs ds
section
variable{K:PySem.W.Frag}{Hb H H':Hp}{fl:List Fl}{G:Gh}{ow:Ow}{σ:St}{δ:DS}{v:V}{d:D}
theorem zZ(R:Rel K fl G ow σ Hb δ){a:Addr}(h:Hb a=none):okA ow a:=⟨λi e=>(by
 obtain⟨_,_,xs,_,_,h2,_⟩:=R.own i a e
 rw[h]at h2
 cases h2),λi e=>(R.nt i a e).2.1.ne h⟩
theorem W_(R:Rel K fl G ow σ Hb δ){a:Addr}(h:Hb a=none):okN G.H0 a:=R.same0.free h
theorem Rs.FC_F(R:Rel K fl G ow σ Hb δ)(h:Rs K G.H0 ow Hb H .FC v d):Rs K G.H0 ow Hb H .F v d:=by
 rcases h with h|⟨a,xs,ds,h1,h2,X,Y,Z⟩
 ·exact .inl h
 ·exact .inr ⟨a,xs,ds,h1,h2,X,Y,Z.imp (λb z=>⟨zZ R z.1,z.2⟩) (λ_=>rfl)⟩
theorem Rs.FC_C(h:Rs K G.H0 ow Hb H .FC v d):Rs K G.H0 ow Hb H .C v d:=by
 rcases h with h|⟨a,xs,ds,rfl,rfl,X,Y,Z⟩
 ·exact RA.flat h.1 h.2
 ·exact .lst Y X (Z.imp (λb z=>z.1) (λz=>z))
theorem Rs.F_A(R:Rel K fl G ow σ Hb δ)(h:Rs K G.H0 ow Hb H .F v d):Rs K G.H0 ow Hb H .A v d:=by
 rcases h with h|⟨a,xs,ds,rfl,rfl,X,Y,Z⟩
 ·exact RA.flat h.1 h.2
 ·exact .lst Y (zZ R X) (Z.imp (λb z=>z.1) (λz=>z))
theorem Rs.C_A(R:Rel K fl G ow σ Hb δ)(h:Rs K G.H0 ow Hb H .C v d):Rs K G.H0 ow Hb H .A v d:=RA.imp (λ_ z=>zZ R z) (λ_=>rfl) h
theorem Rs.C_R(R:Rel K fl G ow σ Hb δ)(h:Rs K G.H0 ow Hb H .C v d):Rs K G.H0 ow Hb H .R v d:=RA.imp (λ_ z=>W_ R z) (λz=>z) h
theorem Rs.A_B(L:List Nat)(h:Rs K G.H0 ow Hb H .A v d):Rs K G.H0 ow Hb H (.B L) v d:=.inl h
theorem Rs.B_P(h:Rs K G.H0 ow Hb H (.B L) v d):Rs K G.H0 ow Hb H .P v d:=by
 rcases h with h|⟨i,_,a,xs,ds,_,rfl,rfl,Y,Z⟩
 ·exact RA.imp (λ_ _=>trivial) (λz=>z) h
 ·exact .lst Y trivial (Z.imp (λ_ _=>trivial) (λz=>z))
theorem Rs.P_flat(B:flat d=true)(h:Rs K G.H0 ow Hb H .P v d):Rs K G.H0 ow Hb H .FC v d:=.inl ⟨B,RA.flat B h⟩
theorem Rs.C_fl1(B:fl1 d=true)(h:Rs K G.H0 ow Hb H .C v d):Rs K G.H0 ow Hb H .FC v d:=by
 by_cases e:∃ds,d = .list ds
 ·obtain⟨ds,rfl⟩:=e
  cases h with
  |lst e k q=>exact .inr ⟨_,_,_,rfl,rfl,k,e,RAs.flat B q⟩
  |lsk e k q=>cases k
 ·have Z:flat d=true:=by
   cases d<;>first|exact B|exact absurd ⟨_,rfl⟩ e
  exact .inl ⟨Z,RA.flat Z h⟩
theorem Rs.F_fl1(B:fl1 d=true)(h:Rs K G.H0 ow Hb H .F v d):Rs K G.H0 ow Hb H .FC v d:=by
 rcases h with h|⟨a,xs,ds,h1,h2,X,Y,Z⟩
 ·exact .inl h
 ·subst h2
  exact .inr ⟨a,xs,ds,h1,rfl,X,Y,RAs.flat B Z⟩
end
noncomputable def tD(K:PySem.W.Frag)(fl:List Fl)(k:Kd)(f:FE):TE:=λσ H Q=>∃G ow δ d,Rel K fl G ow σ H δ/\f δ=some d/\∀v H',Same H H'->Rs K G.H0 ow H H' k v d->Q v H'
noncomputable abbrev DE(X:Cx)(fl:List Fl)(k:Kd)(e:Expr)(f:FE):Prop:=PE X e (tD X.K fl k f)
noncomputable def tDA(K:PySem.W.Frag)(fl:List Fl)(f:FA):TA:=λσ H Q=>∃G ow δ ds,Rel K fl G ow σ H δ/\f δ=some ds/\∀vs H',Same H H'->RAs K ok1 true H' vs ds->Q vs H'
noncomputable abbrev DA(X:Cx)(fl:List Fl)(es:List Expr)(f:FA):Prop:=PA X es (tDA X.K fl f)
noncomputable def tDT(K:PySem.W.Frag)(fl:List Fl)(f:FT):TT:=λσ H Q=>∃G ow δ b,Rel K fl G ow σ H δ/\f δ=some b/\∀H',Same H H'->Q b H'
noncomputable abbrev DT(X:Cx)(fl:List Fl)(e:Expr)(f:FT):Prop:=PT X e (tDT X.K fl f)
noncomputable abbrev DW(X:Cx)(fl:List Fl)(e:Expr)(f:FT):Prop:=PW X e (tDT X.K fl f)
noncomputable def Fb(K:PySem.W.Frag)(fl:List Fl)(G:Gh)(Dn:Ends):Oc->Prop
 | .nx Z=>∀Y σ' H',Rel K fl G Y σ' H' Z->Dn.nx σ' H'
 | .rt d=>∀v H',Same G.H0 H'->RA K (okN G.H0) false H' v d->Dn.rt v H'
 | .bk Z=>∀Y σ' H',Rel K fl G Y σ' H' Z->Dn.bk σ' H'
 | .ct Z=>∀Y σ' H',Rel K fl G Y σ' H' Z->Dn.ct σ' H'
 | .ex _ _ d=>∀v H',Same G.H0 H'->RA K ok1 true H' v d->Dn.rt v H'
noncomputable def tDS(K:PySem.W.Frag)(fl:List Fl)(f:FS):TS:=λDn σ H=>∃G ow δ o,Rel K fl G ow σ H δ/\f δ=some o/\Fb K fl G Dn o
noncomputable abbrev DS1(X:Cx)(fl:List Fl)(s:Stmt)(f:FS):Prop:=PS X s (tDS X.K fl f)
noncomputable abbrev DSs(X:Cx)(fl:List Fl)(s:List Stmt)(f:FS):Prop:=PSs X s (tDS X.K fl f)
noncomputable def tDG(K:PySem.W.Frag)(fl:List Fl)(tg:List Nat)(g:FG):TG:=λv σ H Q=>∃G ow δ d Z,Rel K fl G ow σ H δ/\RA K (okA ow) true H v d/\g d δ=some Z/\∀σ',Rel K fl G ow σ' H Z->(∀j,j∉tg->σ'[j]? = σ[j]?)->Q σ' H
noncomputable abbrev DG(X:Cx)(fl:List Fl)(tg:List Nat)(e:Expr)(g:FG):Prop:=PG X e (tDG X.K fl tg g)
section
variable{X:Cx}{e:Expr}{es:List Expr}{st:Stmt}{sts:List Stmt}
theorem PE.imp{t t':TE}(h:PE X e t)(i:∀σ H Q,t' σ H Q->t σ H Q):PE X e t':=λpins s σ H Q I q=>h pins s σ H Q I (i σ H Q q)
theorem PT.imp{t t':TT}(h:PT X e t)(i:∀σ H Q,t' σ H Q->t σ H Q):PT X e t':=λpins s σ H Q I q=>h pins s σ H Q I (i σ H Q q)
theorem PW.imp{t t':TT}(h:PW X e t)(i:∀σ H Q,t' σ H Q->t σ H Q):PW X e t':=λw pins s σ H Q I q=>h w pins s σ H Q I (i σ H Q q)
theorem PA.imp{t t':TA}(h:PA X es t)(i:∀σ H Q,t' σ H Q->t σ H Q):PA X es t':=λp pins s σ H Q I q=>h p pins s σ H Q I (i σ H Q q)
theorem PS.imp{t t':TS}(h:PS X st t)(i:∀D σ H,t' D σ H->t D σ H):PS X st t':=λpins s σ H D I q=>h pins s σ H D I (i D σ H q)
theorem PSs.imp{t t':TS}(h:PSs X sts t)(i:∀D σ H,t' D σ H->t D σ H):PSs X sts t':=λpins s σ H D I q=>h pins s σ H D I (i D σ H q)
theorem PG.imp{t t':TG}(h:PG X e t)(i:∀v σ H Q,t' v σ H Q->t v σ H Q):PG X e t':=λpins s σ H v u Q I r q=>h pins s σ H v u Q I r (i v σ H Q q)
end
end D3
namespace D3
open PySem PySem.Spec PyProof.Rows L2 My
section
variable{X:Cx}{fl:List Fl}{e a b c:Expr}{es:List Expr}{k:Kd}{f fa fb fc:FE}{pos:Pos}
theorem nq(h:aj i δ=some d):δ[i]? = some (some (.d d)):=by
 unfold aj at h
 split at h
 ·next x e=>rw[e];cases h;rfl
 ·cases h
theorem nU(i:Nat){x:Str}(O:X.N[i]? = some x:=by rfl)(J:Vis X.env.scope x:=by first|exact Or.inl rfl|exact Or.inr (Or.inl rfl)|exact Or.inr (Or.inr rfl))(hd:(x==("__debug__":Str))=false:=by decide)
 (D:(x==("__classdict__":Str))=false:=by decide) (hn:isN fl[i]? = false:=by rfl):DE X fl (.B [i]) (.Name x pos) (aj i):=by
 refine PE.imp (pX O J hd D) λσ H Q h=>?_
 obtain⟨G,ow,δ,d,R,W,q⟩:=h
 have e:=nq W
 cases Z:ow i with
 |none=>
  obtain⟨v,h1,h2⟩:=R.dat i d e hn Z
  exact⟨v,h1,q v H (Same.refl H) (.inl h2)⟩
 |some a=>
  obtain⟨U,_,xs,ds,h1,h2,V,Y⟩:=R.own i a Z
  rw[e]at Y
  cases Y
  exact⟨_,h1,q _ H (Same.refl H) (.inr ⟨i,aO.mpr rfl,a,xs,ds,Z,rfl,rfl,h2,V⟩)⟩
theorem z_(i:Nat)(B:fl[i]? = some .A){x:Str}(O:X.N[i]? = some x:=by rfl)(J:Vis X.env.scope x:=by first|exact Or.inl rfl|exact Or.inr (Or.inl rfl)|exact Or.inr (Or.inr rfl))(hd:(x==("__debug__":Str))=false:=by decide)
 (D:(x==("__classdict__":Str))=false:=by decide):DE X fl .A (.Name x pos) (aj i):=by
 refine PE.imp (pX O J hd D) λσ H Q h=>?_
 obtain⟨G,ow,δ,d,R,W,q⟩:=h
 have e:=nq W
 cases Y:ow i with
 |none=>
  obtain⟨v,h1,h2⟩:=R.dat i d e (by rw[B];rfl) Y
  exact⟨v,h1,q v H (Same.refl H) h2⟩
 |some a=>
  obtain⟨V,Z,_⟩:=R.own i a Y
  rw[B]at Z
  rcases Z with⟨z,_⟩|⟨z,_⟩<;>cases z
theorem vJ(i:Nat)(B:fl[i]? ≠ some .A){x:Str}(O:X.N[i]? = some x:=by rfl)(J:Vis X.env.scope x:=by first|exact Or.inl rfl|exact Or.inr (Or.inl rfl)|exact Or.inr (Or.inr rfl))(hd:(x==("__debug__":Str))=false:=by decide)
 (D:(x==("__classdict__":Str))=false:=by decide) (hn:isN fl[i]? = false:=by rfl):DE X fl .R (.Name x pos) (uz (aj i)):=by
 refine PE.imp (pX O J hd D) λσ H Q h=>?_
 obtain⟨G,ow,δ,d,R,Z,q⟩:=h
 unfold uz at Z
 cases Y:aj i δ with
 |none=>rw[Y]at Z;cases Z
 |some P=>
  rw[Y,aM]at Z
  by_cases V:fl1 P=true
  ·rw[if_pos V]at Z
   cases Z
   have e:=nq Y
   cases W:ow i with
   |none=>
    obtain⟨v,h1,h2⟩:=R.dat i d e hn W
    exact⟨v,h1,q v H (Same.refl H) (RA.flat (R.oo i d e hn B W) h2)⟩
   |some a=>
    obtain⟨S,_,xs,ds,h1,h2,T,U⟩:=R.own i a W
    rw[e]at U
    cases U
    exact⟨_,h1,q _ H (Same.refl H) (.lst h2 S (RAs.flat V T))⟩
  ·rw[if_neg V]at Z
   cases Z
theorem nA{B:Kd}(h:DE X fl k e f)(J:∀(Hb H:Hp) (G:Gh) (ow:Ow) (σ:St) (δ:DS) (v:V) (d:D),Rel X.K fl G ow σ Hb δ->Rs X.K G.H0 ow Hb H k v d->Rs X.K G.H0 ow Hb H B v d):DE X fl B e f:=by
 refine PE.imp h λσ H Q h=>?_
 obtain⟨G,ow,δ,d,R,Z,q⟩:=h
 exact⟨G,ow,δ,d,R,Z,λv H' s r=>q v H' s (J _ _ G ow σ δ v d R r)⟩
theorem tU{B:Kd}{p:D->Bool}(h:DE X fl k e f)(J:∀(Hb H:Hp) (G:Gh) (ow:Ow) (σ:St) (δ:DS) (v:V) (d:D),p d=true->Rel X.K fl G ow σ Hb δ->Rs X.K G.H0 ow Hb H k v d->Rs X.K G.H0 ow Hb H B v d):
 DE X fl B e (λδ=>(f δ).bind λd=>if p d=true then some d else none):=by
 refine PE.imp h λσ H Q h=>?_
 obtain⟨G,ow,δ,d,R,Z,q⟩:=h
 dsimp only at Z
 cases Y:f δ with
 |none=>rw[Y]at Z;cases Z
 |some U=>
  rw[Y,aM]at Z
  by_cases W:p U=true
  ·rw[if_pos W]at Z
   cases Z
   exact⟨G,ow,δ,d,R,Y,λv H' s r=>q v H' s (J _ _ G ow σ δ v d W R r)⟩
  ·rw[if_neg W]at Z
   cases Z
theorem pC(h:DE X fl .FC e f):DE X fl .F e f:=nA h λ_ _ _ _ _ _ _ _ R r=>r.FC_F R
theorem nW(h:DE X fl .FC e f):DE X fl .C e f:=nA h λ_ _ _ _ _ _ _ _ R r=>r.FC_C
theorem lA(h:DE X fl .F e f):DE X fl .A e f:=nA h λ_ _ _ _ _ _ _ _ R r=>r.F_A R
theorem oM(h:DE X fl .C e f):DE X fl .A e f:=nA h λ_ _ _ _ _ _ _ _ R r=>r.C_A R
theorem wK(h:DE X fl .C e f):DE X fl .R e f:=nA h λ_ _ _ _ _ _ _ _ R r=>r.C_R R
theorem jt(h:DE X fl .A e f):DE X fl (.B []) e f:=nA h λ_ _ _ _ _ _ _ _ R r=>Rs.A_B [] r
theorem wL(h:DE X fl (.B L) e f):DE X fl .P e f:=nA h λ_ _ _ _ _ _ _ _ R r=>r.B_P
theorem uF(h:DE X fl .P e f):DE X fl .FC e (oH f):=tU h λ_ _ _ _ _ _ _ _ Z R r=>r.P_flat Z
theorem Ug(h:DE X fl .C e f):DE X fl .FC e (uz f):=tU h λ_ _ _ _ _ _ _ _ Z R r=>r.C_fl1 Z
theorem Kv(h:DE X fl .F e f):DE X fl .FC e (uz f):=tU h λ_ _ _ _ _ _ _ _ Z R r=>r.F_fl1 Z
theorem iV(h:DE X fl .FC e f):DE X fl .A e f:=lA (pC h)
theorem dR(h:DE X fl .FC e f):DE X fl .R e f:=wK (nW h)
theorem d7(h:DE X fl .A e f):DE X fl .P e f:=wL (jt h)
theorem jq(h:DE X fl .C e f):DE X fl .P e f:=d7 (oM h)
theorem bD(h:DE X fl .FC e f):DE X fl .P e f:=d7 (iV h)
theorem Gr(h:DE X fl .F e f):DE X fl .P e f:=d7 (lA h)
theorem wM(h:PE X e (tC v))(D:flat d=true)(B:∀H,RA X.K ok0 false H v d):DE X fl .FC e (dC d):=by
 refine PE.imp h λσ H Q h=>?_
 obtain⟨G,ow,δ,Z,R,hd,q⟩:=h
 cases hd
 exact q v H (Same.refl H) (.inl ⟨D,B H⟩)
theorem Aa{i j pos}:DE X fl .FC (.Constant (.int i) j pos) (dC (.int i)):=wM S8 rfl λ_=>.int _
theorem rO{b j pos}:DE X fl .FC (.Constant (.bool b) j pos) (dC (.bool b)):=wM Wc rfl λ_=>.bl _
theorem wN{j pos}:DE X fl .FC (.Constant .none j pos) (dC .none):=wM S9 rfl λ_=>.non
theorem Fd{x j pos}:DE X fl .FC (.Constant (.str x) j pos) (dC (.str x)):=wM S_ rfl λ_=>.str _
theorem Ab{i:Int}(h:∃t,X.mg x=some (.int i t))(B:Gl X x:=by rfl)(hd:(x==("__debug__":Str))=false:=by decide):DE X fl .FC (.Name x pos) (dC (.int i)):=by
 obtain⟨t,h⟩:=h
 exact wM (Ou (v:=.int i) B h ⟨t,rfl⟩ hd) rfl λ_=>.int _
noncomputable def BrO(K:PySem.W.Frag)(r:R2)(g:D->D->Option D):Prop:=∀(H:Hp)(x y:V)(dx Z d:D)(Q:VK),RA K ok1 true H x dx->RA K ok1 true H y Z->g dx Z=some d->(∀v,flat d=true->RA K ok0 false H v d->Q v H)->r x y H Q
theorem wO{g:D->D->Option D}(h:dOp g fa fb δ=some d):∃x y,fa δ=some x/\fb δ=some y/\g x y=some d:=by
 unfold dOp at h
 cases ha:fa δ with
 |none=>rw[ha]at h;cases h
 |some x=>
  rw[ha,aM]at h
  cases Z:fb δ with
  |none=>rw[Z]at h;cases h
  |some y=>
   rw[Z,aM]at h
   exact⟨x,y,rfl,rfl,h⟩
theorem bind1{α β:Type}{x:Option α}{g:α->Option β}{d:β}(h:x.bind g=some d):∃y,x=some y/\g y=some d:=by
 cases x with
 |none=>cases h
 |some y=>exact⟨y,rfl,h⟩
theorem uG{g:D->D->Option D}{σ:St}{Q:VK}(B:BrO X.K r g)(h:tD X.K fl .FC (dOp g fa fb) σ H Q):tOp r (tD X.K fl .P fa) (tD X.K fl .P fb) σ H Q:=by
 obtain⟨G,ow,δ,d,R,U,q⟩:=h
 obtain⟨x,y,O,S,T⟩:=wO U
 refine⟨G,ow,δ,x,R,O,λv H1 s1 W=>⟨G,ow,δ,y,R.grow s1,S,λu H2 s2 Y=>?_⟩⟩
 exact B H2 v u x y d Q (RA.same s2 W) Y T λz V Z=>q z H2 (s1.trans s2) (.inl ⟨V,Z⟩)
theorem cU{op:Operator}{g:D->D->Option D}(B:OpR X (binaryOp op) r)(J:BrO X.K r g)(h1:DE X fl .P a fa)(h2:DE X fl .P b fb):DE X fl .FC (.BinOp a op b pos) (dOp g fa fb):=
 PE.imp (J7 B h1 h2) λ_ _ _ h=>uG J h
theorem uH{g:D->D->Option D}(B:OpR X (compareOp op) r)(J:BrO X.K r g)(h1:DE X fl .P a fa)(h2:DE X fl .P b fb)(hm:behindInMarks op b=false):DE X fl .FC (.Compare a [op] [b] pos) (dOp g fa fb):=
 PE.imp (O4 B h1 h2 hm) λ_ _ _ h=>uG J h
theorem ig{g:D->D->Option D}(B:OpR X (compareOp op) r)(J:BrO X.K r g)(h1:DE X fl .P a fa)(h2:DE X fl .P b fb)(hm:behindInMarks op b=false):DT X fl (.Compare a [op] [b] pos) (bO (dOp g fa fb)):=by
 refine PT.imp (O5 B h1 h2 hm) λσ H Q h=>?_
 obtain⟨G,ow,δ,c,R,Y,q⟩:=h
 obtain⟨d,W,Z⟩:=bind1 Y
 cases d<;>first|(cases Z;done)|skip
 cases Z
 refine uG (fl:=fl) (fa:=fa) (fb:=fb) J ⟨G,ow,δ,_,R,W,λv H' s r=>?_⟩
 obtain rfl:=(Rs.FC_C r).blE
 exact⟨_,rfl,q H' s⟩
theorem mW(h:DE X fl .P e f)(B:∀whole,isTrue e X.env whole=(do let v <-whole;standAt e.pos;holding [v] (truthy v)):=by intro _;rfl):DT X fl e (bO f):=by
 refine PT.imp (Te h B) λσ H Q h=>?_
 obtain⟨G,ow,δ,c,R,Y,q⟩:=h
 obtain⟨d,W,Z⟩:=bind1 Y
 cases d<;>first|(cases Z;done)|skip
 cases Z
 refine⟨G,ow,δ,_,R,W,λv H' s r=>?_⟩
 obtain rfl:=RA.blE r
 exact⟨_,rfl,q H' s⟩
theorem yV{h:Int->Int->V}{g:Int->Int->D}(J:∀i j,flat (g i j)=true)(B:∀H i j,RA K ok0 false H (h i j) (g i j)):BrO K (rI0 h) (gI λi j=>some (g i j)):=by
 intro H x y dx X d Q Y Z e q
 unfold gI at e
 split at e
 ·next i j=>
  cases e
  exact⟨i,j,Y.intE,Z.intE,q _ (J i j) (B H i j)⟩
 ·cases e
theorem Py{C:Int->Int->Prop}{h:Int->Int->V}{g:Int->Int->D}{c:Int->Int->Bool}(O:∀i j,c i j=true->C i j)(J:∀i j,flat (g i j)=true)(B:∀H i j,RA K ok0 false H (h i j) (g i j)):
 BrO K (rI C h) (gI λi j=>if c i j=true then some (g i j)else none):=by
 intro H x y dx X d Q Y Z e q
 unfold gI at e
 split at e
 ·next i j=>
  dsimp only at e
  by_cases z:c i j=true
  ·rw[if_pos z]at e
   cases e
   exact⟨i,j,Y.intE,Z.intE,O i j z,q _ (J i j) (B H i j)⟩
  ·rw[if_neg z]at e
   cases e
 ·cases e
end
section
variable{X:Cx}{K:PySem.W.Frag}
theorem Pz{i j:Int}(h:wH i j=true):IntMulOk i j:=by
 unfold wH at h
 rw[jK,jK,aU]at h
 rcases h with(h|h)|⟨h1,h2⟩
 ·exact IntMulOk.of_left (PySem.intBits_le_iff.mpr (of_decide_eq_true h))
 ·exact IntMulOk.of_right (PySem.intBits_le_iff.mpr (of_decide_eq_true h))
 ·exact PySem.IntMulOk.of_le (PySem.intBits_le_iff.mpr (of_decide_eq_true h1)) (PySem.intBits_le_iff.mpr (of_decide_eq_true h2)) (by decide)
theorem nC:OpR X (binaryOp .Mult) (rI (λi j=>wH i j=true) λi j=>.int (i*j)):=opI λ_ _ _ _ _ _ _ Z q=>mul_int q (Pz Z)
theorem Gs:OpR X (binaryOp .FloorDiv) (rI (λi j=>EY i j=true) λi j=>.int (i.fdiv j)):=opI λi j _ _ _ _ _ Z q=>by
 unfold EY at Z
 rw[aU]at Z
 have h1:=of_decide_eq_true Z.1
 have h2:=of_decide_eq_true Z.2
 refine floordiv_int h1 q (.inl (PyProof.noPylong_of_log2 ?_))
 exact(Nat.log2_lt (by omega)).mpr h2
theorem PB{i j:Int}(h:Ud i j=true):TQ i j:=by
 unfold Ud at h
 rw[aU,aU]at h
 have h1:=of_decide_eq_true h.1.1
 have h2:=of_decide_eq_true h.1.2
 exact⟨h1,by omega,of_decide_eq_true h.2⟩
theorem gF:BrO K (rI0 λi j=>.int (i+j)) cX:=yV (λ_ _=>rfl) λ_ _ _=>.int _
theorem Cm:BrO K (rI0 λi j=>.int (i-j)) pY:=yV (λ_ _=>rfl) λ_ _ _=>.int _
theorem uX:BrO K (rI (λi j=>wH i j=true) λi j=>.int (i*j)) rF:=Py (λ_ _ h=>h) (λ_ _=>rfl) λ_ _ _=>.int _
theorem R_:BrO K (rI (λi j=>EY i j=true) λi j=>.int (i.fdiv j)) Cg:=Py (λ_ _ h=>h) (λ_ _=>rfl) λ_ _ _=>.int _
theorem tV:BrO K (rI (λ_ j=>j≠0) λi j=>.int (i.fmod j)) sH:=Py (λ_ _ h=>of_decide_eq_true h) (λ_ _=>rfl) λ_ _ _=>.int _
theorem Xa:BrO K (rI TQ λi j=>.int (i^j.toNat)) Ue:=Py (λ_ _ h=>PB h) (λ_ _=>rfl) λ_ _ _=>.int _
theorem b_lt:BrO K (rI0 λi j=>.bl (decide (i<j))) gLt:=yV (λ_ _=>rfl) λ_ _ _=>.bl _
theorem rH:BrO K (rI0 λi j=>.bl (decide (i<=j))) gLe:=yV (λ_ _=>rfl) λ_ _ _=>.bl _
theorem Iz:BrO K (rI0 λi j=>.bl (decide (j<i))) gGt:=yV (λ_ _=>rfl) λ_ _ _=>.bl _
theorem Zh:BrO K (rI0 λi j=>.bl (decide (j<=i))) gGe:=yV (λ_ _=>rfl) λ_ _ _=>.bl _
theorem IK:BrO K (WT K) gEq:=by
 intro H x y dx Z d Q X Y e q
 unfold gEq at e
 by_cases z:(SeqAt.shaped dx&&SeqAt.shaped Z)=true
 ·rw[if_pos z]at e
  cases e
  rw[aU]at z
  exact⟨dx,Z,X.rd (SeqAt.canLay_of_shaped z.1),Y.rd (SeqAt.canLay_of_shaped z.2),z.1,z.2,q _ rfl (.bl _)⟩
 ·rw[if_neg z]at e
  cases e
theorem IV:BrO K (WW K) gNe:=by
 intro H x y dx Z d Q X Y e q
 unfold gNe at e
 by_cases z:(SeqAt.shaped dx&&SeqAt.shaped Z)=true
 ·rw[if_pos z]at e
  cases e
  rw[aU]at z
  exact⟨dx,Z,X.rd (SeqAt.canLay_of_shaped z.1),Y.rd (SeqAt.canLay_of_shaped z.2),z.1,z.2,q _ rfl (.bl _)⟩
 ·rw[if_neg z]at e
  cases e
end
end D3
variable{G:D3.Gh}{ow:D3.Ow}
namespace D3
open PySem PySem.Spec PyProof.Rows L2 My
section
variable{X:Cx}{fl:List Fl}{e a b c:Expr}{es:List Expr}{st:Stmt}{sts body orelse:List Stmt}{k:Kd}{f fa fb fc:FE}{fs gs:FS}{ft gt:FT}{pos:Pos}
theorem Fb.nx_imp{Dn:Ends}{N:St->Hp->Prop}{o:Oc}(h:Fb K fl G Dn o)(hn:∀B,o ≠ .nx B):Fb K fl G {Dn with nx:=N} o:=by
 cases o with
 |nx B=>exact absurd rfl (hn B)
 |rt d=>exact h
 |bk B=>exact h
 |ct B=>exact h
 |ex c f v=>exact h
theorem fG:DSs X fl [] dZ:=PSs.imp OD λDn σ H h=>by
 obtain⟨G,ow,δ,o,R,Z,q⟩:=h
 cases Z
 exact q ow σ H R
theorem bh(h1:DS1 X fl st fs)(h2:DSs X fl sts gs):DSs X fl (st::sts) (bY fs gs):=PSs.imp (J2 h1 h2) λDn σ H h=>by
 obtain⟨G,ow,δ,o,R,U,q⟩:=h
 obtain⟨V,T,Z⟩:=bind1 U
 refine⟨G,ow,δ,V,R,T,?_⟩
 cases V with
 |nx Y=>exact λW σ' H' R'=>⟨G,W,Y,o,R',Z,q⟩
 |rt d=>cases Z;exact Fb.nx_imp q (λ_ z=>by cases z)
 |bk d=>cases Z;exact Fb.nx_imp q (λ_ z=>by cases z)
 |ct d=>cases Z;exact Fb.nx_imp q (λ_ z=>by cases z)
 |ex c f v=>cases Z;exact q
theorem bK(h1:DS1 X fl st fs):DSs X fl [st] fs:=PSs.imp (OJ h1) λ_ _ _ h=>h
theorem cT(h:DE X fl .R e f):DS1 X fl (.Return (some e) pos) (eG f):=PS.imp (J3 h) λDn σ H h=>by
 obtain⟨G,ow,δ,o,R,Z,q⟩:=h
 obtain⟨d,W,Y⟩:=bind1 Z
 cases Y
 exact⟨G,ow,δ,d,R,W,λv H' s r=>q v H' (R.same0.trans s) r⟩
theorem PJ(h:DE X fl .P e f)(hs:swapsWith e none pos.line X.env=pure false:=by rfl):DS1 X fl (.Expr e pos) (Gq f):=PS.imp (zT h hs) λDn σ H h=>by
 obtain⟨G,ow,δ,o,R,Z,q⟩:=h
 obtain⟨d,W,Y⟩:=bind1 Z
 cases Y
 exact⟨G,ow,δ,d,R,W,λv H' s r=>q ow σ H' (R.grow s)⟩
theorem jC(B:DT X fl c ft)(h1:DSs X fl body fs)(h2:DSs X fl orelse gs):DS1 X fl (.If c body orelse pos) (sIf ft fs gs):=PS.imp (Wm B h1 h2) λDn σ H h=>by
 obtain⟨G,ow,δ,o,R,Y,q⟩:=h
 obtain⟨t,W,Z⟩:=bind1 Y
 refine⟨G,ow,δ,t,R,W,λH' s=>?_⟩
 cases t with
 |true=>exact yF ⟨G,ow,δ,o,R.grow s,Z,q⟩
 |false=>exact yE ⟨G,ow,δ,o,R.grow s,Z,q⟩
theorem h_{α:Type}{l:List (Option α)}{x y:α}(h:(l.set i (some x))[j]? = some (some y)):(j=i/\x=y)\/(j≠i/\l[j]? = some (some y)):=by
 rw[kO]at h
 by_cases e:i=j
 ·subst e
  rw[if_pos rfl]at h
  by_cases z:i<l.length
  ·rw[if_pos z]at h
   cases h
   exact .inl ⟨rfl,rfl⟩
  ·rw[if_neg z]at h
   cases h
 ·rw[if_neg e]at h
  exact .inr ⟨λz=>e z.symm,h⟩
theorem Rel.pI{σ:St}(R:Rel K fl G ow σ H δ)(B:fl[i]? = some .A)(hi:i<σ.length)(r:RA K (okA ow) true H v d):
 Rel K fl G ow (σ.set i (some v)) H (δ.set i (some (.d d))):=by
 have T:∀a,ow i≠some a:=λa z=>by
  obtain⟨_,U,_⟩:=R.own i a z
  rw[B]at U
  rcases U with⟨z,_⟩|⟨z,_⟩<;>cases z
 refine⟨R.s0,R.s1,by rw[cV,cV];exact R.len,λj a h=>?_,R.inj,R.pin,λj W h1 hn h2=>?_,λj W h1 hn h2 Y=>?_,R.nt,R.nd,R.ns,R.np,λj W hn h1=>?_⟩
 ·have Z:j≠i:=λz=>T a (z▸h)
  obtain⟨Q,S,xs,ds,h1,h2,Y,X⟩:=R.own j a h
  exact⟨Q,S,xs,ds,by rw[bI (Ne.symm Z)];exact h1,h2,Y,by rw[bI (Ne.symm Z)];exact X⟩
 ·rcases h_ h1 with⟨rfl,e⟩|⟨Z,e⟩
  ·cases e
   exact⟨v,by rw[cZ hi],r⟩
  ·obtain⟨V,Y,X⟩:=R.dat j W e hn h2
   exact⟨V,by rw[bI (Ne.symm Z)];exact Y,X⟩
 ·rcases h_ h1 with⟨rfl,e⟩|⟨Z,e⟩
  ·exact absurd B h2
  ·exact R.oo j W e hn h2 Y
 ·rcases h_ h1 with⟨rfl,e⟩|⟨Z,e⟩
  ·rw[B]at hn;cases hn
  ·obtain⟨V,Y,X⟩:=R.nr j W hn e
   exact⟨V,by rw[bI (Ne.symm Z)];exact Y,X⟩
noncomputable def uY(ow:Ow)(i:Nat)(a:Option Addr):Ow:=⟨λj=>if j=i then a else ow j,ow.n⟩
theorem je{a:Option Addr}:uY ow i a i=a:=if_pos rfl
theorem fU{a:Option Addr}(h:j≠i):uY ow i a j=ow j:=if_neg h
theorem Rel.setO{σ:St}(R:Rel K fl G ow σ H δ)(s:Same H H')(B:fl[i]? = some .O)(hi:i<σ.length)(r:Rs K G.H0 ow H H' .F v d):
 ∃J,Rel K fl G J (σ.set i (some v)) H' (δ.set i (some (.d d))):=by
 have R':=R.grow s
 have S:∀b,okA ow b->okA (uY ow i none) b:=λb z=>⟨λj e=>by
  by_cases Z:j=i
  ·subst Z;rw[je]at e;cases e
  ·rw[fU Z]at e;exact z.1 j e,z.2⟩
 have P:∀j W,isN fl[j]? = true->(δ.set i (some (.d d)))[j]? = some (some (.d W))->∃T,(σ.set i (some v))[j]? = some (some T)/\RT K H' T W (ow.n j)/\(ow.n j).Nodup:=λj W hn h1=>by
  rcases h_ h1 with⟨rfl,e⟩|⟨Z,e⟩
  ·rw[B]at hn;cases hn
  ·obtain⟨T,Y,U⟩:=R'.nr j W hn e
   exact⟨T,by rw[bI (Ne.symm Z)];exact Y,U⟩
 rcases r with⟨N,r⟩|⟨a,xs,ds,rfl,rfl,ha,E,C⟩
 ·refine⟨uY ow i none,R'.s0,R'.s1,by rw[cV,cV];exact R.len,λj a h=>?_,λj j' a h h'=>?_,λj h=>?_,λj W h1 hn h2=>?_,λj W h1 hn h2 Y=>?_,R'.nt,R'.nd,λj j' a h h'=>?_,R'.np,P⟩
  ·have Z:j≠i:=λz=>by subst z;rw[je]at h;cases h
   rw[fU Z]at h
   obtain⟨L,M,xs,ds,h1,h2,Y,U⟩:=R'.own j a h
   exact⟨L,M,xs,ds,by rw[bI (Ne.symm Z)];exact h1,h2,Y.imp S (λz=>z),by rw[bI (Ne.symm Z)];exact U⟩
  ·have Z:j≠i:=λz=>by subst z;rw[je]at h;cases h
   have X:j'≠i:=λz=>by subst z;rw[je]at h';cases h'
   rw[fU Z]at h
   rw[fU X]at h'
   exact R.inj j j' a h h'
  ·have Z:j≠i:=λz=>by subst z;rw[B]at h;cases h
   rw[fU Z]
   exact R.pin j h
  ·rcases h_ h1 with⟨rfl,e⟩|⟨Z,e⟩
   ·cases e
    exact⟨v,by rw[cZ hi],RA.flat N r⟩
   ·rw[fU Z]at h2
    obtain⟨T,Y,U⟩:=R'.dat j W e hn h2
    exact⟨T,by rw[bI (Ne.symm Z)];exact Y,U.imp S (λz=>z)⟩
  ·rcases h_ h1 with⟨rfl,e⟩|⟨Z,e⟩
   ·cases e
    exact N
   ·rw[fU Z]at Y
    exact R.oo j W e hn h2 Y
  ·by_cases Z:j'=i
   ·subst Z;rw[je]at h';cases h'
   ·rw[fU Z]at h';exact R.ns j j' a h h'
 ·have sub:∀b,okA ow b/\b≠a->okA (uY ow i (some a)) b:=λb z=>⟨λj e=>by
   by_cases Z:j=i
   ·subst Z;rw[je]at e;exact z.2 (cQ.inj e).symm
   ·rw[fU Z]at e;exact z.1.1 j e,z.1.2⟩
  have old:∀{v:V}{d:D},RA K (okA ow) true H v d->RA K (okA (uY ow i (some a))) true H' v d:=λr=>(r.track.imp (λb z=>sub b ⟨z.1,λe=>z.2 (e▸ha)⟩) (λz=>z)).same s
  have olds:∀{v:List V}{d:List D},RAs K (okA ow) true H v d->RAs K (okA (uY ow i (some a))) true H' v d:=λr=>(r.track.imp (λb z=>sub b ⟨z.1,λe=>z.2 (e▸ha)⟩) (λz=>z)).same s
  have Q:∀j,ow j≠some a:=λj z=>by
   obtain⟨_,_,_,_,_,h2,_⟩:=R.own j a z
   rw[ha]at h2
   cases h2
  have A:G.HF a=none:=R.s1.free ha
  refine⟨uY ow i (some a),R'.s0,R'.s1,by rw[cV,cV];exact R.len,λj b h=>?_,λj j' b h h'=>?_,λj h=>?_,λj W h1 hn h2=>?_,λj W h1 hn h2 Y=>?_,R'.nt,R'.nd,λj j' b h h'=>?_,R'.np,P⟩
  ·by_cases Z:j=i
   ·subst Z
    rw[je]at h
    cases h
    exact⟨R.same0.free ha,.inl ⟨B,A⟩,xs,ds,by rw[cZ hi],E,C.imp sub (λz=>z),by rw[cZ (by rw[<-R.len];exact hi)]⟩
   ·rw[fU Z]at h
    obtain⟨L,M,ys,I,h1,h2,Y,U⟩:=R.own j b h
    exact⟨L,M,ys,I,by rw[bI (Ne.symm Z)];exact h1,s _ _ h2,olds Y,by rw[bI (Ne.symm Z)];exact U⟩
  ·by_cases Z:j=i
   ·by_cases X:j'=i
    ·rw[Z,X]
    ·subst Z
     rw[je]at h
     cases h
     rw[fU X]at h'
     exact absurd h' (Q j')
   ·rw[fU Z]at h
    by_cases X:j'=i
    ·subst X
     rw[je]at h'
     cases h'
     exact absurd h (Q j)
    ·rw[fU X]at h'
     exact R.inj j j' b h h'
  ·have Z:j≠i:=λz=>by subst z;rw[B]at h;cases h
   rw[fU Z]
   exact R.pin j h
  ·rcases h_ h1 with⟨rfl,e⟩|⟨Z,e⟩
   ·rw[je]at h2;cases h2
   ·rw[fU Z]at h2
    obtain⟨T,Y,U⟩:=R.dat j W e hn h2
    exact⟨T,by rw[bI (Ne.symm Z)];exact Y,old U⟩
  ·rcases h_ h1 with⟨rfl,e⟩|⟨Z,e⟩
   ·rw[je]at Y;cases Y
   ·rw[fU Z]at Y
    exact R.oo j W e hn h2 Y
  ·by_cases Z:j'=i
   ·subst Z
    rw[je]at h'
    cases h'
    exact(R.nt j a h).2.1.ne ha
   ·rw[fU Z]at h';exact R.ns j j' b h h'
theorem Rel.mut{σ:St}{a:Addr}{ys:List V}(R:Rel K fl G ow σ H δ)(D:fl[i]? = some .O)(B:ow i=some a)(r:RAs K (okA ow) true H ys ds):
 Rel K fl G ow σ (upd H a (.lst ys)) (δ.set i (some (.d (.list ds)))):=by
 obtain⟨F,M,xs,x,y,T,w,L⟩:=R.own i a B
 have na:¬okA ow a:=λz=>z.1 i B
 have J:G.HF a=none:=by
  rcases M with⟨_,z⟩|⟨z,_⟩
  ·exact z
  ·rw[D]at z;cases z
 have hi:i<δ.length:=by
  rcases iM i δ.length with z|z
  ·exact z
  ·rw[bB z]at L;cases L
 refine⟨R.s0,λb o Y=>?_,by rw[cV];exact R.len,λj b h=>?_,R.inj,R.pin,λj U h1 hn h2=>?_,λj U h1 hn h2 Z=>?_,λj b h=>?_,R.nd,R.ns,R.np,λj U hn h1=>?_⟩
 ·rw[cJ (λz=>by subst z;rw[J]at Y;cases Y)]
  exact R.s1 b o Y
 ·by_cases X:j=i
  ·subst X
   rw[B]at h
   cases h
   exact⟨F,M,ys,ds,y,dj,r.upd T na,by rw[cZ hi]⟩
  ·obtain⟨P,Q,zs,N,h1,h2,Z,W⟩:=R.own j b h
   have Y:b≠a:=λz=>X (R.inj j i a (z▸h) B)
   exact⟨P,Q,zs,N,h1,by rw[cJ Y];exact h2,Z.upd T na,by rw[bI (Ne.symm X)];exact W⟩
 ·rcases h_ h1 with⟨rfl,e⟩|⟨X,e⟩
  ·rw[B]at h2;cases h2
  ·obtain⟨S,Z,W⟩:=R.dat j U e hn h2
   exact⟨S,Z,W.upd T na⟩
 ·rcases h_ h1 with⟨rfl,e⟩|⟨X,e⟩
  ·rw[B]at Z;cases Z
  ·exact R.oo j U e hn h2 Z
 ·obtain⟨A,C,E⟩:=R.nt j b h
  refine⟨A,?_,E⟩
  by_cases Y:b=a
  ·rw[Y,dj];exact⟨_,rfl,inferInstance⟩
  ·rw[cJ Y];exact C
 ·rcases h_ h1 with⟨rfl,e⟩|⟨X,e⟩
  ·rw[D]at hn;cases hn
  ·obtain⟨S,Z,W,I⟩:=R.nr j U hn e
   exact⟨S,Z,W.upd T (λz=>R.ns j i a z B),I⟩
theorem vK{σ:St}(R:Rel K fl G ow σ H δ)(h:i<δ.length):i<σ.length:=by rw[R.len];exact h
theorem PK(D:fl[i]? = some .A)(O:X.N.Nodup)(hi:X.N[i]? = some x)(J:X.env.scope.names.lookup x=some .local\/X.env.scope.names.lookup x=some .cell)(h:DE X fl .A e f)
 (hs:swapsWith e (some (.Name x pos')) pos.line X.env=pure false:=by rfl) (B:X.fn x=true\/X.env.scope.names.lookup x=some .local:=by first|exact .inl rfl|exact .inr rfl) :
 DS1 X fl (.Assign [.Name x pos'] e pos) (bV i f):=PS.imp (Es (i:=i) O hi J h hs B) λDn σ H h=>by
 obtain⟨G,ow,δ,o,R,Z,q⟩:=h
 unfold bV at Z
 by_cases Y:i<δ.length
 ·rw[if_pos Y]at Z
  obtain⟨d,V,W⟩:=bind1 Z
  cases W
  exact⟨G,ow,δ,d,R,V,λv H' s r=>q ow _ H' ((R.grow s).pI D (vK R Y) r)⟩
 ·rw[if_neg Y]at Z
  cases Z
theorem nD(D:fl[i]? = some .O)(hN:X.N.Nodup)(hi:X.N[i]? = some x)(J:X.env.scope.names.lookup x=some .local\/X.env.scope.names.lookup x=some .cell)(h:DE X fl .F e f)
 (hs:swapsWith e (some (.Name x pos')) pos.line X.env=pure false:=by rfl) (B:X.fn x=true\/X.env.scope.names.lookup x=some .local:=by first|exact .inl rfl|exact .inr rfl) :
 DS1 X fl (.Assign [.Name x pos'] e pos) (bV i f):=PS.imp (Es (i:=i) hN hi J h hs B) λDn σ H h=>by
 obtain⟨G,ow,δ,o,R,Z,q⟩:=h
 unfold bV at Z
 by_cases W:i<δ.length
 ·rw[if_pos W]at Z
  obtain⟨d,U,V⟩:=bind1 Z
  cases V
  refine⟨G,ow,δ,d,R,U,λv H' s r=>?_⟩
  obtain⟨Y,R'⟩:=R.setO s D (vK R W) r
  exact q Y _ H' R'
 ·rw[if_neg W]at Z
  cases Z
theorem PN(D:fl[i]? = some .A)(O:X.N.Nodup)(hi:X.N[i]? = some x)(J:X.env.scope.names.lookup x=some .local\/X.env.scope.names.lookup x=some .cell)
 (B:X.fn x=true\/X.env.scope.names.lookup x=some .local:=by first|exact .inl rfl|exact .inr rfl):DG X fl [i] (.Name x pos) (gNl i):=
 PG.imp (O1 (i:=i) O hi J B) λv σ H Q h=>by
 obtain⟨G,ow,δ,d,W,R,r,Z,q⟩:=h
 unfold gNl at Z
 by_cases Y:i<δ.length
 ·rw[if_pos Y]at Z
  cases Z
  exact q _ (R.pI D (vK R Y) r) λj V=>bI (λz=>V (by rw[z];exact aO.mpr rfl))
 ·rw[if_neg Y]at Z
  cases Z
noncomputable def Zi(K:PySem.W.Frag)(fl:List Fl)(tg:List Nat)(g:List D->DS->Option DS):TGs:=λvs σ H Q=>∃G ow δ ds Z,Rel K fl G ow σ H δ/\RAs K (okA ow) true H vs ds/\g ds δ=some Z/\∀σ',Rel K fl G ow σ' H Z->(∀j,j∉tg->σ'[j]? = σ[j]?)->Q σ' H
theorem PGs.imp{t t':TGs}(h:PGs X es t)(i:∀v σ H Q,t' v σ H Q->t v σ H Q):PGs X es t':=λpins s σ H v u Q I r q=>h pins s σ H v u Q I r (i v σ H Q q)
noncomputable abbrev DGs(X:Cx)(fl:List Fl)(tg:List Nat)(es:List Expr)(g:List D->DS->Option DS):Prop:=PGs X es (Zi X.K fl tg g)
theorem qy:DGs X fl [] [] lF:=PGs.imp O2 λvs σ H Q h=>by
 obtain⟨G,ow,δ,ds,Y,R,r,Z,q⟩:=h
 cases r with
 |nil=>cases Z;exact⟨rfl,q σ R λ_ _=>rfl⟩
 |cons _ _=>cases Z
theorem iB{tg B:List Nat}{g:FG}{gs:List D->DS->Option DS}(h1:DG X fl tg e g)(h2:DGs X fl B es gs)(hs:(assignEach (e::es) X.env).map (·.2)=assign e X.env::(assignEach es X.env).map (·.2):=by rfl):
 DGs X fl (tg++B) (e::es) (dw g gs):=PGs.imp (J5 h1 h2 hs) λvs σ H Q h=>by
 obtain⟨G,ow,δ,ds,W,R,r,T,q⟩:=h
 cases r with
 |nil=>cases T
 |cons P S=>
  obtain⟨Y,N,O⟩:=bind1 T
  refine⟨_,_,rfl,G,ow,δ,_,Y,R,P,N,λσ' R' k1=>⟨G,ow,Y,_,W,R',S,O,λZ V k2=>q Z V λj U=>?_⟩⟩
  rw[k2 j λz=>U (bG _ z),k1 j λz=>U (cg _ z)]
theorem uI{tg:List Nat}{gs:List D->DS->Option DS}{k:Nat}(J:X.calm=true)(h:DGs X fl tg es gs)(hn:(assignEach es X.env).length=n:=by rfl)(B:(assignEach es X.env).findIdx? (·.1)=none:=by rfl):
 DG X fl tg (.Tuple es k pos) (gTn n gs):=PG.imp (Tv (n:=n) J h hn B) λv σ H Q h=>by
 obtain⟨G,ow,δ,d,Y,R,r,Z,q⟩:=h
 unfold gTn at Z
 split at Z
 ·next l=>
  by_cases z:l.length=n
  ·rw[if_pos z]at Z
   obtain⟨a,xs,rfl,V,W⟩:=r.tupE
   exact⟨a,xs,rfl,V,by rw[W.length];exact z,G,ow,δ,l,Y,R,W,Z,q⟩
  ·rw[if_neg z]at Z
   cases Z
 ·cases Z
theorem Kw{tg:List Nat}{g:FG}{t:Expr}(h:DE X fl .A e f)(B:DG X fl tg t g)(hs:swapsWithSole [t] e pos.line X.env=pure false:=by rfl)(hw:swappedStores [t] e X.env=pure none:=by rfl)
 (h1:(assignEach [t] X.env).map (·.2)=[assign t X.env]:=by rfl):DS1 X fl (.Assign [t] e pos) (Ce f g):=PS.imp (J6 h B hs hw h1) λDn σ H h=>by
 obtain⟨G,ow,δ,o,R,Y,q⟩:=h
 obtain⟨d,T,U⟩:=bind1 Y
 obtain⟨Z,V,W⟩:=bind1 U
 cases W
 exact⟨G,ow,δ,d,R,T,λv H' s r=>⟨G,ow,δ,d,Z,R.grow s,r,V,λσ' R' _=>q ow σ' H' R'⟩⟩
end
end D3
variable{l:List D3.D}{vpos:Pos}{Hb:L2.Hp}{fa:D3.FA}
namespace D3
open PySem PySem.Spec PyProof.Rows L2 My
section
variable{X:Cx}{fl:List Fl}{e a b c:Expr}{es:List Expr}{st:Stmt}{sts body orelse:List Stmt}{k:Kd}{f fa fb fc:FE}{fs gs:FS}{ft gt:FT}{pos:Pos}
theorem Ky{σ:St}(R:Rel K fl G ow σ H δ)(B:fl[i]? = some .O)(h:aj i δ=some (.list l)):
 ∃a xs,ow i=some a/\σ[i]? = some (some (.ref a))/\H a=some (.lst xs)/\RAs K (okA ow) true H xs l:=by
 have e:=nq h
 cases Z:ow i with
 |none=>
  have z:=R.oo i _ e (by rw[B];rfl) (by rw[B];simp) Z
  simp[flat]at z
 |some a=>
  obtain⟨W,_,xs,ds,h1,h2,X,Y⟩:=R.own i a Z
  rw[e]at Y
  cases Y
  exact⟨a,xs,rfl,h1,h2,X⟩
theorem oN{apos cpos:Pos}(Y:fl[i]? = some .O)(h:DE X fl .A e f)(hN:X.N[i]? = some x)(hv:Vis X.env.scope x:=by first|exact Or.inl rfl|exact Or.inr (Or.inl rfl)|exact Or.inr (Or.inr rfl))(hd:(x==("__debug__":Str))=false:=by decide)
 (hcd:(x==("__classdict__":Str))=false:=by decide)
 (hs:swapsWith (.Call (.Attribute (.Name x vpos) "append" apos) [e] [] cpos) none pos.line X.env=pure false:=by rfl)
 (J:attributeBase (.Name x vpos) "append" X.env (eval (.Name x vpos) X.env)=eval (.Name x vpos) X.env:=by rfl)
 (hfew:((backTo cpos (starEach [e] X.env)).all (λx=>!x.1)&&(backToKw cpos (keywordEach [] X.env)).all (λx=>x.1.isSome)
  && decide (([e]:List Expr).length+([]:List Keyword).length+(if([]:List Keyword).isEmpty then 0 else 1)<30))=true:=by rfl)
 (D:(apos.endLine==cpos.line)=true:=by rfl) (W:starEach [e] X.env=(false,eval e X.env)::starEach [] X.env:=by rfl) (B:(backTo cpos (starEach [] X.env)).any (·.1)=false:=by rfl) :
 DS1 X fl (.Expr (.Call (.Attribute (.Name x vpos) "append" apos) [e] [] cpos) pos) (pB i f):=
 PS.imp (zT (WQ PySem.F.plainAttrs_list PySem.F.slot_list_append PySem.F.type_list_append yU (pX hN hv hd hcd) (jM h nQ W) J hfew D W B) hs) λDn σ H h=>by
 obtain⟨G,ow,δ,o,R,Z,q⟩:=h
 obtain⟨x,M,U⟩:=bind1 Z
 obtain⟨d,P,V⟩:=bind1 U
 clear Z U
 have Z:=V
 clear V
 split at Z
 case h_2=>cases Z
 next l=>
 by_cases T:l.length<1000000
 ·rw[if_pos T]at Z
  cases Z
  obtain⟨a,xs,Q,h1,h2,S⟩:=Ky R Y M
  refine⟨_,h1,.inl ⟨rfl,_,SqL.of h2⟩,G,ow,δ,d,R,P,λv H' s r=>?_⟩
  have R':=R.grow s
  refine⟨a,xs,v,rfl,rfl,s _ _ h2,by rw[S.length];exact o8 T (by decide),?_⟩
  exact q ow σ _ (R'.mut Y Q ((S.same s).append (.cons r .nil)))
 ·rw[if_neg T]at Z
  cases Z
theorem Fe{B:Pos}{ke:Expr}{fk:FE}(D:fl[i]? = some .O)(h:DE X fl .A e f)(hk:DE X fl .P ke fk)(hN:X.N[i]? = some x)(hv:Vis X.env.scope x:=by first|exact Or.inl rfl|exact Or.inr (Or.inl rfl)|exact Or.inr (Or.inr rfl))(hd:(x==("__debug__":Str))=false:=by decide)
 (hcd:(x==("__classdict__":Str))=false:=by decide) (ha:∀v,assign (.Subscript (.Name x vpos) ke B) X.env v=(do
  let J <-holding [v] (eval (.Name x vpos) X.env)
  let iv <-holding [v,J] (eval ke X.env)
  standAt B
  holding [v,J,iv] (setItem J iv v)
  release [v,J,iv] []):=by intro _;rfl)
 (hs:swapsWithSole [.Subscript (.Name x vpos) ke B] e pos.line X.env=pure false:=by rfl) (hw:swappedStores [.Subscript (.Name x vpos) ke B] e X.env=pure none:=by rfl)
 (h1:(assignEach [.Subscript (.Name x vpos) ke B] X.env).map (·.2)=[assign (.Subscript (.Name x vpos) ke B) X.env]:=by rfl) :
 DS1 X fl (.Assign [.Subscript (.Name x vpos) ke B] e pos) (m5 i fk f):=
 PS.imp (J6 h (Tw (pX hN hv hd hcd) hk set_list ha) hs hw h1) λDn σ H h=>by
 obtain⟨G,ow,δ,o,R,Z,q⟩:=h
 obtain⟨d,K,V⟩:=bind1 Z
 obtain⟨x,I,W⟩:=bind1 V
 obtain⟨k,L,Y⟩:=bind1 W
 clear Z V W
 have Z:=Y
 clear Y
 split at Z
 case h_2=>cases Z
 next l j=>
 obtain⟨n,M,Q⟩:=bind1 Z
 cases Q
 obtain⟨a,xs,S,h1,h2,U⟩:=Ky R D I
 refine⟨G,ow,δ,d,R,K,λv H' s r=>⟨_,h1,G,ow,δ,_,R.grow s,L,λu H2 s2 T=>?_⟩⟩
 obtain rfl:=RA.intE T
 have R2:=R.grow (s.trans s2)
 refine⟨a,xs,j,n,rfl,rfl,(s.trans s2) _ _ h2,by rw[U.length];exact M,?_⟩
 exact q ow σ _ (R2.mut D S (RAs.set (RA.same s2 r) n (U.same (s.trans s2))))
noncomputable def Sg(K:PySem.W.Frag)(ow:Ow)(L:List Nat)(H1:Hp)(J:It)(l:List D):Prop:=∀H2:Hp,(∀b o,H1 b=some o->(∀i,ow i=some b->i∈L)->(∀i,b∉ow.n i)->H2 b=some o)->∀i:Nat,
 (∀d,l[i]? = some d->J.go i H2/\∀x Z,J.yld i H2 x Z->Same H2 Z/\RA K (λb=>okA ow b/\H1 b≠none) true Z x d)/\(l.length<=i->J.stop i H2)
noncomputable def tDI(K:PySem.W.Frag)(fl:List Fl)(L:List Nat)(fi:FA):TI:=λσ H R'=>∃G ow δ l,Rel K fl G ow σ H δ/\fi δ=some l/\∀J H1,Same H H1->Sg K ow L H1 J l->R' J H1
noncomputable abbrev DI(X:Cx)(fl:List Fl)(L:List Nat)(tg iter:Expr)(fi:FA):Prop:=PI X tg iter (tDI X.K fl L fi)
theorem PI.imp{t t':TI}(h:PI X tg iter t)(i:∀σ H R',t' σ H R'->t σ H R'):PI X tg iter t':=λpins s σ H R' I q=>h pins s σ H R' I (i σ H R' q)
section
variable{K:PySem.W.Frag}{ok:Ok}{pl:Bool}{H1 H2:Hp}{ow:Ow}{L:List Nat}
theorem nm{b:Addr}(B:∀i b,ow i=some b->∃xs,H1 b=some (.lst xs))(h:H1 b=some o)(hn:∀xs,o ≠ .lst xs):∀i,ow i=some b->i∈L:=λi e=>by
 obtain⟨xs,z⟩:=B i b e
 rw[h]at z
 exact absurd (cQ.inj z) (hn xs)
theorem nm2{b:Addr}(B:∀i b,b∈ow.n i->Chd (H1 b))(h:H1 b=some o)(hn:Chg o->False):∀i,b∉ow.n i:=λi e=>by
 obtain⟨u,z,c⟩:=B i b e
 rw[h]at z
 cases z
 exact hn c
mutual
theorem RA.keep(hk:∀b o,H1 b=some o->(∀i,ow i=some b->i∈L)->(∀i,b∉ow.n i)->H2 b=some o)(hl:∀i b,ow i=some b->∃xs,H1 b=some (.lst xs))(hm:∀i b,b∈ow.n i->Chd (H1 b))(ho:∀b,ok b->okA ow b):∀{v:V}{d:D},RA K ok pl H1 v d->RA K ok pl H2 v d
 |_,_,.non=>.non
 |_,_,.bl b=>.bl b
 |_,_,.int i=>.int i
 |_,_,.str x=>.str x
 |_,_,.lst e k q=>.lst (hk _ _ e (λi z=>absurd z ((ho _ k).1 i)) (ho _ k).2) k (RAs.keep hk hl hm ho q)
 |_,_,.lsk e k q=>.lsk (by
  rcases e with⟨o,e⟩|e
  ·exact .inl ⟨o,hk _ _ e (nm hl e (by intro xs z;cases z)) (nm2 hm e Chg.frz)⟩
  ·exact .inr e) k (RAs.keep hk hl hm ho q)
 |_,_,.tup e q=>.tup (hk _ _ e (nm hl e (by intro xs z;cases z)) (nm2 hm e Chg.tup)) (RAs.keep hk hl hm ho q)
 |_,_,.dic e g k=>.dic (hk _ _ e (λi z=>absurd z ((ho _ k).1 i)) (ho _ k).2) (g.imp λ_ _ t=>hk _ _ t (nm hl t (by intro xs z;cases z)) (nm2 hm t Chg.tup)) k
 |_,_,.dik e g k=>.dik (hk _ _ e (nm hl e (by intro xs z;cases z)) (nm2 hm e Chg.frz)) (g.imp λ_ _ t=>hk _ _ t (nm hl t (by intro xs z;cases z)) (nm2 hm t Chg.tup)) k
theorem RAs.keep(hk:∀b o,H1 b=some o->(∀i,ow i=some b->i∈L)->(∀i,b∉ow.n i)->H2 b=some o)(hl:∀i b,ow i=some b->∃xs,H1 b=some (.lst xs))(hm:∀i b,b∈ow.n i->Chd (H1 b))(ho:∀b,ok b->okA ow b):∀{v:List V}{d:List D},RAs K ok pl H1 v d->RAs K ok pl H2 v d
 |_,_,.nil=>.nil
 |_,_,.cons e q=>.cons (RA.keep hk hl hm ho e) (RAs.keep hk hl hm ho q)
end
end
theorem Rel.ownL{σ:St}(R:Rel K fl G ow σ H δ):∀i b,ow i=some b->∃xs,H b=some (.lst xs):=λi b e=>by
 obtain⟨_,_,xs,_,_,h2,_⟩:=R.own i b e
 exact⟨xs,h2⟩
theorem Rel.ownC{σ:St}(R:Rel K fl G ow σ H δ):∀i b,b∈ow.n i->Chd (H b):=λi b e=>(R.nt i b e).2.1
theorem Ac{σ:St}(R:Rel K fl G ow σ H δ)(r:Rs K G.H0 ow Hb H (.B L) v (.list l)):∃a xs,v = .ref a/\SqL K H a xs /\
 ∀H2:Hp,(∀b o,H b=some o->(∀i,ow i=some b->i∈L)->(∀i,b∉ow.n i)->H2 b=some o)->SqL K H2 a xs/\RAs K (λb=>okA ow b/\H b≠none) true H2 xs l:=by
 rcases r with r|⟨i,hi,a,xs,ds,X,rfl,e,Y,W⟩
 ·cases r with
  |lst e k q=>exact⟨_,_,rfl,SqL.of e,λH2 Z=>⟨SqL.of (Z _ _ e (λi z=>absurd z (k.1 i)) k.2),RAs.keep Z R.ownL R.ownC (λb z=>z.1) q.track⟩⟩
  |lsk e k q=>exact⟨_,_,rfl,e.sq,λH2 Z=>⟨SqK.sq (by
   rcases e with⟨o,e⟩|e
   ·exact .inl ⟨o,Z _ _ e (nm R.ownL e (by intro xs z;cases z)) (nm2 R.ownC e Chg.frz)⟩
   ·exact .inr e),RAs.keep Z R.ownL R.ownC (λb z=>z.1) q.track⟩⟩
 ·cases e
  exact⟨a,xs,rfl,SqL.of Y,λH2 Z=>⟨SqL.of (Z _ _ Y (λj z=>by rw[R.inj j i a z X];exact hi) (λj z=>R.ns j i a z X)),RAs.keep Z R.ownL R.ownC (λb z=>z.1) W.track⟩⟩
theorem tW(h:DE X fl (.B L) e f):DI X fl L tg e (uD f):=PI.imp (Gj h) λσ H R' h=>by
 obtain⟨G,ow,δ,l,R,O,q⟩:=h
 obtain⟨d,N,U⟩:=bind1 O
 cases d<;>first|(cases U;done)|skip
 cases U
 refine⟨G,ow,δ,_,R,N,λv H1 s r=>?_⟩
 obtain⟨a,xs,rfl,Q,keep⟩:=Ac (R.grow s) r
 refine⟨a,rfl,⟨xs,Q⟩,q _ _ s λH2 k2 i=>?_⟩
 obtain⟨Z,W⟩:=keep H2 k2
 refine⟨λd hd=>?_,λP=>⟨xs,Z,by rw[W.length];exact P⟩⟩
 obtain⟨y,V,T⟩:=W.get hd
 refine⟨⟨xs,y,Z,V⟩,λx M Y=>?_⟩
 obtain⟨e,S⟩:=Y
 subst e
 have:some y=some x:=V.symm.trans (S xs Z)
 cases this
 exact⟨Same.refl _,T⟩
theorem tX(lo hi:Int):(d8 lo hi).length=(hi-lo).toNat:=by simp[d8]
theorem Cp(lo hi:Int):Sg K ow L H1 (Itr lo (hi-lo).toNat) (d8 lo hi):=by
 intro H2 _ i
 refine⟨λd hd=>?_,λY=>by rw[tX]at Y;exact Y⟩
 unfold d8 at hd
 rw[aX]at hd
 by_cases Z:i<(hi-lo).toNat
 ·rw[gb Z]at hd
  cases hd
  refine⟨Z,λx V X=>?_⟩
  obtain⟨e,W⟩:=X
  subst e W
  exact⟨Same.refl _,.int _⟩
 ·rw[bB (by simpa using Z)]at hd
  cases hd
theorem qz{i:Int}(h:rG i=true): -(2^62)<=i/\i<2^62:=by
 unfold rG at h
 rw[aU]at h
 exact⟨of_decide_eq_true h.1,of_decide_eq_true h.2⟩
theorem ji{fa:FA}(B:Gl X "range")(hm:X.mg "range"=none)(h:DA X fl [a] fa)(hs:starEach [a] X.env=[(false,eval a X.env)]:=by rfl):DI X fl L tg (.Call (.Name "range" p) [a] [] pos) (lu fa):=
 PI.imp (Ih B hm h hs) λσ H R' h=>by
 obtain⟨G,ow,δ,l,R,V,q⟩:=h
 obtain⟨ds,U,Z⟩:=bind1 V
 split at Z
 ·next j=>
  by_cases z:rG j=true
  ·rw[if_pos z]at Z
   cases Z
   refine⟨G,ow,δ,_,R,U,λvs H1 s r=>?_⟩
   cases r with
   |cons W Y=>
    cases Y
    obtain rfl:=W.intE
    refine⟨j,rfl,(qz z).1,(qz z).2,?_⟩
    have w:=Cp (K:=X.K) (ow:=ow) (L:=L) (H1:=H1) 0 j
    rw[tG]at w
    exact q _ _ s w
  ·rw[if_neg z]at Z
   cases Z
 ·cases Z
theorem IW{fa:FA}(D:Gl X "range")(hm:X.mg "range"=none)(h:DA X fl [a,b] fa)(hs:starEach [a,b] X.env=[(false,eval a X.env),(false,eval b X.env)]:=by rfl)(B:starEach [b] X.env=[(false,eval b X.env)]:=by rfl):
 DI X fl L tg (.Call (.Name "range" p) [a,b] [] pos) (Ci fa):=PI.imp (Ii D hm h hs B) λσ H R' h=>by
 obtain⟨G,ow,δ,l,R,U,q⟩:=h
 obtain⟨ds,T,Z⟩:=bind1 U
 split at Z
 ·next i j=>
  by_cases z:(rG i&&rG j)=true
  ·rw[if_pos z]at Z
   cases Z
   rw[aU]at z
   refine⟨G,ow,δ,_,R,T,λvs H1 s r=>?_⟩
   cases r with
   |cons V Y=>
    cases Y with
    |cons Y W=>
     cases W
     obtain rfl:=V.intE
     obtain rfl:=Y.intE
     exact⟨i,j,rfl,⟨(qz z.1).1,(qz z.1).2,(qz z.2).1,(qz z.2).2⟩,q _ _ s (Cp i j)⟩
  ·rw[if_neg z]at Z
   cases Z
 ·cases Z
noncomputable def lock(L:List Nat)(fl:List Fl):List Fl:=fl.mapIdx λi x=>if x = .O/\i∈L then .L else x
theorem lX:(lock L fl)[i]? = (fl[i]?).map λx=>if x = .O/\i∈L then .L else x:=by
 unfold lock
 rw[bZ]
theorem Kz:(lock L fl)[i]? = some .A<->fl[i]? = some .A:=by
 rw[lX]
 cases h:fl[i]? with
 |none=>simp
 |some x=>
  cases x<;>simp
  by_cases z:i∈L<;>simp[z]
theorem Fg(h:(lock L fl)[i]? = some .O):fl[i]? = some .O/\i∉L:=by
 rw[lX]at h
 cases e:fl[i]? with
 |none=>rw[e]at h;simp at h
 |some x=>
  rw[e]at h
  cases x<;>simp at h
  by_cases z:i∈L
  ·simp[z]at h
  ·exact⟨rfl,z⟩
theorem Fi(h:fl[i]? = some .L):(lock L fl)[i]? = some .L:=by
 rw[lX,h]
 simp
theorem Gu(h:fl[i]? = some .O)(hi:i∈L):(lock L fl)[i]? = some .L:=by
 rw[lX,h]
 simp[hi]
theorem Gv(h:fl[i]? = some .O)(hi:i∉L):(lock L fl)[i]? = some .O:=by
 rw[lX,h]
 simp[hi]
theorem Ad:(lock L fl)[i]? = some .N<->fl[i]? = some .N:=by
 rw[lX]
 cases h:fl[i]? with
 |none=>simp
 |some x=>
  cases x<;>simp
  by_cases z:i∈L<;>simp[z]
theorem Fj:(lock L fl)[i]? = some .M<->fl[i]? = some .M:=by
 rw[lX]
 cases h:fl[i]? with
 |none=>simp
 |some x=>
  cases x<;>simp
  by_cases z:i∈L<;>simp[z]
theorem oO:isN (lock L fl)[i]? = isN fl[i]?:=by
 rw[lX]
 cases h:fl[i]? with
 |none=>rfl
 |some x=>
  cases x<;>simp[isN]
  by_cases z:i∈L<;>simp[z]
noncomputable def Let(fl':List Fl)(ow:Ow)(b:Addr):Prop:=(∃j,ow j=some b/\fl'[j]? = some .O)\/∃j,b∈ow.n j/\fl'[j]? = some .N
open Classical in
noncomputable def ghL(fl':List Fl)(G:Gh)(ow:Ow)(H:Hp):Gh:=⟨G.H0,λb=>if Let fl' ow b then none else H b,ow,ow.n,G.tb⟩
open Classical in
theorem pD{fl':List Fl}{b:Addr}(h:¬Let fl' ow b):(ghL fl' G ow H).HF b=H b:=by
 unfold ghL
 dsimp only
 rw[if_neg h]
open Classical in
theorem Fo{fl':List Fl}{b:Addr}(h:Let fl' ow b):(ghL fl' G ow H).HF b=none:=by
 unfold ghL
 dsimp only
 rw[if_pos h]
theorem Rel.lock{σ:St}(L:List Nat)(R:Rel K fl G ow σ H δ):Rel K (lock L fl) (ghL (lock L fl) G ow H) ow σ H δ:=by
 refine⟨λb o X=>?_,λb o X=>?_,R.len,λi a h=>?_,R.inj,λi h=>rfl,λi d h1 hn h2=>R.dat i d h1 (by rw[oO]at hn;exact hn) h2,λi d h1 hn h2 V=>R.oo i d h1 (by rw[oO]at hn;exact hn) (λz=>h2 (Kz.mpr z)) V,λi a h=>?_,R.nd,R.ns,λi h=>rfl,λi d hn h1=>R.nr i d (by rw[oO]at hn;exact hn) h1⟩
 ·have Y:G.H0 b=some o:=X
  rw[pD]
  ·exact R.same0 b o Y
  ·rintro(⟨j,e,_⟩|⟨j,e,_⟩)
   ·have:=(R.own j b e).1
    rw[Y]at this
    cases this
   ·have:=(R.nt j b e).1
    rw[Y]at this
    cases this
 ·by_cases z:Let (D3.lock L fl) ow b
  ·rw[Fo z]at X;cases X
  ·rw[pD z]at X;exact X
 ·obtain⟨S,Z,xs,ds,h1,h2,V,T⟩:=R.own i a h
  refine⟨S,?_,xs,ds,h1,h2,V,T⟩
  have out:(D3.lock L fl)[i]? = some .L->(ghL (D3.lock L fl) G ow H).HF a=H a:=λU=>pD (by
   rintro(⟨j,e,W⟩|⟨j,e,W⟩)
   ·rw[R.inj j i a e h,U]at W
    cases W
   ·exact R.ns j i a e h)
  rcases Z with⟨Z,_⟩|⟨Z,_⟩
  ·by_cases hi:i∈L
   ·exact .inr ⟨Gu Z hi,xs,by rw[out (Gu Z hi)];exact h2⟩
   ·exact .inl ⟨Gv Z hi,Fo (.inl ⟨i,h,Gv Z hi⟩)⟩
  ·exact .inr ⟨Fi Z,xs,by rw[out (Fi Z)];exact h2⟩
 ·obtain⟨O,P,Q⟩:=R.nt i a h
  refine⟨O,P,?_⟩
  rcases Q with⟨z,_⟩|z
  ·exact .inl ⟨Ad.mpr z,Fo (.inr ⟨i,h,Ad.mpr z⟩)⟩
  ·exact .inr (Fj.mpr z)
theorem Rel.unlock{B:Ow}{σ σ':St}{D:DS}(R:Rel K fl G ow σ H δ)(R':Rel K (D3.lock L fl) (ghL (D3.lock L fl) G ow H) B σ' H' D):Rel K fl G B σ' H' D:=by
 have sub:Same G.HF (ghL (D3.lock L fl) G ow H).HF:=λb o W=>by
  rw[pD]
  ·exact R.s1 b o W
  ·rintro(⟨j,e,X⟩|⟨j,e,X⟩)
   ·rcases(R.own j b e).2.1 with⟨_,z⟩|⟨z,_⟩
    ·rw[W]at z;cases z
    ·have:=(Fg X).1
     rw[z]at this
     cases this
   ·rcases(R.nt j b e).2.2 with⟨_,z⟩|z
    ·rw[W]at z;cases z
    ·have:=Ad.mp X
     rw[z]at this
     cases this
 refine⟨R.s0,sub.trans R'.s1,R'.len,λi a h=>?_,R'.inj,λi h=>?_,λi d h1 hn h2=>R'.dat i d h1 (by rw[oO];exact hn) h2,λi d h1 hn h2 T=>R'.oo i d h1 (by rw[oO];exact hn) (λz=>h2 (Kz.mp z)) T,λi a h=>?_,R'.nd,R'.ns,λi h=>?_,λi d hn h1=>R'.nr i d (by rw[oO];exact hn) h1⟩
 ·obtain⟨S,Z,rest⟩:=R'.own i a h
  refine⟨S,?_,rest⟩
  rcases Z with⟨Z,Y⟩|⟨Z,_⟩
  ·exact .inl ⟨(Fg Z).1,sub.free Y⟩
  ·have e:B i=ow i:=R'.pin i Z
   rw[e]at h
   exact(R.own i a h).2.1
 ·have e:B i=ow i:=R'.pin i (Fi h)
  rw[e]
  exact R.pin i h
 ·obtain⟨U,V,Q⟩:=R'.nt i a h
  rcases Q with⟨z,Y⟩|z
  ·exact⟨U,V,.inl ⟨Ad.mp z,sub.free Y⟩⟩
  ·exact⟨U,V,.inr (Fj.mp z)⟩
 ·have e:B.n i=ow.n i:=R'.np i (Fj.mpr h)
  rw[e]
  exact R.np i h
theorem jE{T:List Nat}{fi:FA}{g:FG}(hp:PassesOwn (model X.prog X.w) X.A X.env X.xe)(hc:X.calm=true)(hi:DI X fl L tg iter fi)(hg:DG X (lock L fl) T tg g)(B:DSs X (lock L fl) body fs)
 (hs:∀x,foldedSetIterable iter X.env x=pure x:=by intro _;rfl):DS1 X fl (.For tg iter body [] pos) (k_ fi g fs):=PS.imp (TF hp hc hi hg B hs) λDn σ H h=>by
 obtain⟨G,ow,δ,o,I,k,q⟩:=h
 obtain⟨l,e1,e2⟩:=bind1 k
 refine⟨G,ow,δ,l,I,e1,λJ H1 s D=>?_⟩
 have N:=I.grow s
 have RL:=N.lock L
 refine⟨λi m σ' H'=>m=l.length-i/\∃Z Y,Rel X.K (lock L fl) (ghL (lock L fl) G ow H1) Z σ' H' Y/\jc g fs (l.drop i) Y=some o,⟨_,rfl,ow,δ,RL,by simpa using e2⟩,?_⟩
 rintro i m σ' H' ⟨rfl,Z,Y,R',hd⟩
 have kept:∀b o,H1 b=some o->(∀i,ow i=some b->i∈L)->(∀i,b∉ow.n i)->H' b=some o:=λb o B r hn=>R'.s1 b o (by
  rw[pD]
  ·exact B
  ·rintro(⟨j,e,p⟩|⟨j,e,_⟩)
   ·exact(Fg p).2 (r j e)
   ·exact hn j e)
 obtain⟨y,C⟩:=D H' kept i
 by_cases O:i<l.length
 ·have Q:l.drop i=l[i]::l.drop (i+1):=jz O
  rw[Q,jc]at hd
  obtain⟨P,e3,hd⟩:=bind1 hd
  obtain⟨M,a,hd⟩:=bind1 hd
  obtain⟨go,E⟩:=y l[i] (au O)
  refine .inr ⟨go,λσ' H'=>∃Z Y,Rel X.K (lock L fl) (ghL (lock L fl) G ow H1) Z σ' H' Y/\jc g fs (l.drop (i+1)) Y=some o,λS H2 ⟨W,V,R2,h2⟩=>⟨l.length-(i+1),by omega,rfl,W,V,R2,h2⟩,λx H3 t=>?_⟩
  obtain⟨s3,u⟩:=E x H3 t
  have sub:∀b,okA ow b/\H1 b≠none->okA Z b:=λb z=>by
   obtain⟨z1,z2⟩:=z
   refine⟨λj e=>?_,λj e=>?_⟩
   ·rcases(R'.own j b e).2.1 with⟨_,R⟩|⟨R,_⟩
    ·have:(ghL (lock L fl) G ow H1).HF b=H1 b:=pD (by rintro(⟨j',U,_⟩|⟨j',U,_⟩);exact z1.1 j' U;exact z1.2 j' U)
     rw[this]at R
     exact z2 R
    ·have U:Z j=ow j:=R'.pin j R
     rw[U]at e
     exact z1.1 j e
   ·rcases(R'.nt j b e).2.2 with⟨_,R⟩|w
    ·have:(ghL (lock L fl) G ow H1).HF b=H1 b:=pD (by rintro(⟨j',U,_⟩|⟨j',U,_⟩);exact z1.1 j' U;exact z1.2 j' U)
     rw[this]at R
     exact z2 R
    ·have U:Z.n j=ow.n j:=R'.np j w
     rw[U]at e
     exact z1.2 j e
  refine⟨_,Z,Y,_,P,R'.grow s3,u.imp sub (λz=>z),e3,λF R4 _=>⟨_,Z,P,M,R4,a,?_⟩⟩
  ·cases M with
   |nx V=>exact λW S H2 R2=>⟨W,V,R2,hd⟩
   |ct V=>exact λW S H2 R2=>⟨W,V,R2,hd⟩
   |bk V=>cases hd;exact λW S H2 R2=>q W S H2 (N.unlock R2)
   |rt d=>cases hd;exact q
   |ex c f v=>cases hd;exact q
 ·have e:l.drop i=[]:=gA (by omega)
  rw[e,jc]at hd
  cases hd
  exact .inl ⟨C (by omega),q Z σ' H' (N.unlock R')⟩
end
end D3
variable{g':D3.D->D3.D->Option D3.D}
namespace D3
open PySem PySem.Spec PyProof.Rows L2 My
noncomputable def notStar:Expr->Bool
 | .Starred _ _=>false
 |_=>true
theorem mK(h:notStar e=true):starEach (e::es) env=(false,eval e env)::starEach es env:=by
 cases e<;>first|rfl|cases h
theorem KD(h:es.all notStar=true):(backTo pos (starEach es env)).any (·.1)=false:=by
 induction es with
 |nil=>rfl
 |cons e es Z=>
  rw[nJ,aU]at h
  rw[mK h.1]
  have:=Z h.2
  unfold backTo at this ⊢
  rw[bf,List.any_cons,this]
  rfl
noncomputable def isR:Kd->Bool
 | .P=>true
 | .A=>true
 | .R=>true
 | .C=>true
 |_=>false
noncomputable def KH(H0:Hp)(ow:Ow)(Hb:Hp):Kd->Ok
 | .P=>ok1
 | .A=>okA ow
 | .R=>okN H0
 |_=>okN Hb
noncomputable def Uh:Kd->Bool
 | .P=>true
 | .A=>true
 |_=>false
section
variable{K:PySem.W.Frag}{H0 Hb Hc H:Hp}{ow:Ow}{v:V}{d:D}{k:Kd}
theorem Rs.ra(B:isR k=true)(h:Rs K H0 ow Hb H k v d):RA K (KH H0 ow Hb k) (Uh k) H v d:=by
 cases k<;>first|exact h|cases B
theorem Rs.of_ra(B:isR k=true)(h:RA K (KH H0 ow Hb k) (Uh k) H v d):Rs K H0 ow Hb H k v d:=by
 cases k<;>first|exact h|cases B
theorem I_(s:Same Hb Hc)(B:isR k=true):∀a,KH H0 ow Hc k a->KH H0 ow Hb k a:=λa z=>by
 cases k<;>first|exact z|exact s.free z|cases B
theorem Rs.of_flat(D:flat d=true)(h:RA K ok0 false H v d):Rs K H0 ow Hb H k v d:=by
 cases k with
 |P=>exact RA.flat D h
 |B L=>exact .inl (RA.flat D h)
 |A=>exact RA.flat D h
 |R=>exact RA.flat D h
 |F=>exact .inl ⟨D,h⟩
 |C=>exact RA.flat D h
 |FC=>exact .inl ⟨D,h⟩
 |T=>
  obtain⟨as,h1,_,Z⟩:=RA.rt h
  cases as with
  |nil=>exact⟨[],h1,.nil,λ_ z=>by cases z⟩
  |cons a r=>exact(Z a aC).elim
theorem Rs.back(s:Same Hb Hc)(h:Rs K H0 ow Hc H k v d):Rs K H0 ow Hb H k v d:=by
 cases k with
 |P=>exact h
 |B L=>exact h
 |A=>exact h
 |R=>exact h
 |F=>
  rcases h with h|⟨a,xs,ds,h1,h2,Z,Y⟩
  ·exact .inl h
  ·exact .inr ⟨a,xs,ds,h1,h2,s.free Z,Y⟩
 |C=>exact RA.imp (λa z=>s.free z) (λz=>z) h
 |FC=>
  rcases h with h|⟨a,xs,ds,h1,h2,Z,Y,X⟩
  ·exact .inl h
  ·exact .inr ⟨a,xs,ds,h1,h2,s.free Z,Y,X.imp (λb z=>⟨s.free z.1,z.2⟩) (λz=>z)⟩
 |T=>
  obtain⟨as,h1,h2,Z⟩:=h
  exact⟨as,h1,h2,λa z=>s.free (Z a z)⟩
end
noncomputable def tDB(K:PySem.W.Frag)(fl:List Fl)(k:Kd)(f:FA):TA:=λσ H Q=>∃G ow δ ds,Rel K fl G ow σ H δ/\f δ=some ds/\∀vs H',Same H H'->RAs K (KH G.H0 ow H k) (Uh k) H' vs ds->Q vs H'
noncomputable abbrev DB(X:Cx)(fl:List Fl)(k:Kd)(es:List Expr)(f:FA):Prop:=PA X es (tDB X.K fl k f)
section
variable{X:Cx}{fl:List Fl}{e a b c:Expr}{es rest:List Expr}{k:Kd}{f fa fb fc:FE}{ft gt:FT}{pos:Pos}
theorem Ui:DB X fl k [] aY:=PA.imp nQ λσ H Q h=>by
 obtain⟨G,ow,δ,ds,R,Z,q⟩:=h
 cases Z
 exact q [] H (Same.refl H) .nil
theorem PX{fr:FA}(B:isR k=true)(h:DE X fl k e f)(D:DB X fl k es fr)(hs:starEach (e::es) X.env=(false,eval e X.env)::starEach es X.env:=by exact mK rfl):DB X fl k (e::es) (aq f fr):=PA.imp (jM h D hs) λσ H Q h=>by
 obtain⟨G,ow,δ,ds,R,Z,q⟩:=h
 obtain⟨d,U,Z⟩:=bind1 Z
 obtain⟨r,V,Z⟩:=bind1 Z
 cases Z
 refine⟨G,ow,δ,d,R,U,λv H1 s1 W=>⟨G,ow,δ,r,R.grow s1,V,λvs H2 s2 Y=>?_⟩⟩
 exact q _ H2 (s1.trans s2) (.cons ((W.ra B).same s2) (Y.imp (I_ s1 B) (λz=>z)))
theorem qd(h:DB X fl .P es B):DA X fl es B:=PA.imp h λσ H Q h=>by
 obtain⟨G,ow,δ,ds,R,Z,q⟩:=h
 exact⟨G,ow,δ,ds,R,Z,λvs H' s r=>q vs H' s r⟩
theorem uJ{B}{fa:FA}(D:isR k=true)(h:DB X fl k es fa):DE X fl k (.Tuple es B pos) (dTup fa):=PE.imp (T3 h) λσ H Q h=>by
 obtain⟨G,ow,δ,d,R,W,q⟩:=h
 obtain⟨l,V,Z⟩:=bind1 W
 by_cases z:l.length<=sizeLine
 ·rw[if_pos z]at Z
  cases Z
  refine⟨G,ow,δ,l,R,V,λvs H' s r=>⟨by rw[r.length];exact z,λp Y=>?_⟩⟩
  have g:=dH Y (.tup vs)
  exact q _ _ (s.trans g) (Rs.of_ra D (.tup dj (r.same g)))
 ·rw[if_neg z]at Z
  cases Z
theorem qH{fa:FA}(h:DB X fl .A es fa):DE X fl .F (.List es pos) (mJ fa):=PE.imp (Kc h) λσ H Q h=>by
 obtain⟨G,ow,δ,d,R,W,q⟩:=h
 obtain⟨l,V,Z⟩:=bind1 W
 by_cases z:l.length<=sizeLine
 ·rw[if_pos z]at Z
  cases Z
  refine⟨G,ow,δ,l,R,V,λvs H' s r=>⟨by rw[r.length];exact z,λp Y=>?_⟩⟩
  have g:=dH Y (.lst vs)
  exact q _ _ (s.trans g) (.inr ⟨p,vs,l,rfl,rfl,s.free Y,dj,(r.track.imp (λb w=>⟨w.1,λe=>w.2 (e▸Y)⟩) (λz=>z)).same g⟩)
 ·rw[if_neg z]at Z
  cases Z
theorem mL{fa:FA}(h:DB X fl .C es fa):DE X fl .FC (.List es pos) (mJ fa):=PE.imp (Kc h) λσ H Q h=>by
 obtain⟨G,ow,δ,d,R,W,q⟩:=h
 obtain⟨l,V,Z⟩:=bind1 W
 by_cases z:l.length<=sizeLine
 ·rw[if_pos z]at Z
  cases Z
  refine⟨G,ow,δ,l,R,V,λvs H' s r=>⟨by rw[r.length];exact z,λp Y=>?_⟩⟩
  have g:=dH Y (.lst vs)
  exact q _ _ (s.trans g) (.inr ⟨p,vs,l,rfl,rfl,s.free Y,dj,(r.track.imp (λb w=>⟨w.1,λe=>w.2 (e▸Y)⟩) (λz=>z)).same g⟩)
 ·rw[if_neg z]at Z
  cases Z
theorem RAs.at{ok:Ok}{i:Int}(r:RAs K ok pl H vs l)(h:pAt l i=some d):∃v,atI vs i=some v/\RA K ok pl H v d:=by
 unfold pAt at h
 unfold atI
 obtain⟨j,W,X⟩:=bind1 h
 obtain⟨y,Y,Z⟩:=r.get X
 exact⟨y,by rw[r.length,show ixN l.length i=some j from W];exact Y,Z⟩
theorem Xb(ha:DE X fl (.B L) a fa)(D:DE X fl .P b fb)(hs:vG b):DE X fl .A (.Subscript a b pos) (dOp gIx fa fb):=PE.imp (R9 Kf ha D hs) λσ H Q h=>by
 obtain⟨G,ow,δ,d,R,M,q⟩:=h
 obtain⟨x,y,J,K,U⟩:=wO M
 refine⟨G,ow,δ,x,R,J,λv H1 s1 Y=>⟨G,ow,δ,y,R.grow s1,K,λu H2 s2 S=>?_⟩⟩
 unfold gIx at U
 split at U
 ·next l i=>
  obtain rfl:=RA.intE S
  rcases Y with Y|⟨O,_,p,xs,ds,N,rfl,Z,W,V⟩
  ·obtain⟨p,xs,rfl,W,V⟩:=RA.lstE (RA.same s2 Y)
   obtain⟨z,Z,T⟩:=V.at U
   exact .inl ⟨p,xs,i,z,rfl,rfl,W,Z,q z H2 (s1.trans s2) T⟩
  ·cases Z
   obtain⟨z,Z,T⟩:=(V.same s2).at U
   exact .inl ⟨p,xs,i,z,rfl,rfl,SqL.of (s2 _ _ W),Z,q z H2 (s1.trans s2) T⟩
 ·next l i=>
  obtain rfl:=RA.intE S
  rcases Y with Y|⟨O,_,p,xs,ds,N,rfl,Z,W,V⟩
  ·obtain⟨p,xs,rfl,W,V⟩:=RA.tupE (RA.same s2 Y)
   obtain⟨z,Z,T⟩:=V.at U
   exact .inr (.inl ⟨p,xs,i,z,rfl,rfl,W,Z,q z H2 (s1.trans s2) T⟩)
  ·cases Z
 ·cases U
theorem qe{op:BoolOp}(h:DE X fl k a f):DE X fl k (.BoolOp op [a] pos) f:=Tj h
theorem qg(h1:DE X fl .P a fa)(h2:DE X fl k (.BoolOp .And (b::rest) pos) fb):DE X fl k (.BoolOp .And (a::b::rest) pos) (wG fa fb):=PE.imp (Tp h1 h2) λσ H Q h=>by
 obtain⟨G,ow,δ,d,R,V,q⟩:=h
 obtain⟨x,U,Z⟩:=bind1 V
 refine⟨G,ow,δ,x,R,U,λv H1 s1 Y=>?_⟩
 split at Z
 ·obtain rfl:=RA.blE Y
  exact⟨true,rfl,yF ⟨G,ow,δ,d,R.grow s1,Z,λu H2 s2 W=>q u H2 (s1.trans s2) (W.back s1)⟩⟩
 ·obtain rfl:=RA.blE Y
  cases Z
  exact⟨false,rfl,yE (q _ H1 s1 (Rs.of_flat rfl (.bl _)))⟩
 ·cases Z
theorem Xc(h1:DE X fl .P a fa)(h2:DE X fl k (.BoolOp .Or (b::rest) pos) fb):DE X fl k (.BoolOp .Or (a::b::rest) pos) (dOr fa fb):=PE.imp (Wj h1 h2) λσ H Q h=>by
 obtain⟨G,ow,δ,d,R,V,q⟩:=h
 obtain⟨x,U,Z⟩:=bind1 V
 refine⟨G,ow,δ,x,R,U,λv H1 s1 Y=>?_⟩
 split at Z
 ·obtain rfl:=RA.blE Y
  cases Z
  exact⟨true,rfl,yF (q _ H1 s1 (Rs.of_flat rfl (.bl _)))⟩
 ·obtain rfl:=RA.blE Y
  exact⟨false,rfl,yE ⟨G,ow,δ,d,R.grow s1,Z,λu H2 s2 W=>q u H2 (s1.trans s2) (W.back s1)⟩⟩
 ·cases Z
theorem KJ(h1:DE X fl .P a fa):DE X fl .FC (.UnaryOp .Not a pos) (Ks fa):=PE.imp (Tq h1) λσ H Q h=>by
 obtain⟨G,ow,δ,d,R,W,q⟩:=h
 obtain⟨x,V,Z⟩:=bind1 W
 refine⟨G,ow,δ,x,R,V,λv H1 s1 Y=>?_⟩
 split at Z
 ·next c=>
  obtain rfl:=RA.blE Y
  cases Z
  exact⟨c,rfl,q _ H1 s1 (Rs.of_flat rfl (.bl _))⟩
 ·cases Z
theorem Xd(B:DT X fl c ft)(h1:DE X fl k a fa)(h2:DE X fl k b fb):DE X fl k (.IfExp c a b pos) (dIf ft fa fb):=PE.imp (J1 B h1 h2) λσ H Q h=>by
 obtain⟨G,ow,δ,d,R,W,q⟩:=h
 obtain⟨t,V,Y⟩:=bind1 W
 refine⟨G,ow,δ,t,R,V,λH1 s1=>?_⟩
 cases t with
 |true=>exact yF ⟨G,ow,δ,d,R.grow s1,Y,λu H2 s2 Z=>q u H2 (s1.trans s2) (Z.back s1)⟩
 |false=>exact yE ⟨G,ow,δ,d,R.grow s1,Y,λu H2 s2 Z=>q u H2 (s1.trans s2) (Z.back s1)⟩
theorem nY(h:DT X fl a ft):DT X fl (.UnaryOp .Not a pos) (jk ft):=PT.imp (Ti h) λσ H Q h=>by
 obtain⟨G,ow,δ,t,R,Z,q⟩:=h
 unfold jk at Z
 cases e:ft δ with
 |none=>rw[e]at Z;cases Z
 |some x=>
  rw[e]at Z
  cases Z
  exact⟨G,ow,δ,x,R,e,λH' s=>q H' s⟩
theorem vL(h:DT X fl a ft):DW X fl (.BoolOp .And [a] pos) ft:=Oz h
theorem sJ(h:DT X fl a ft):DW X fl (.BoolOp .Or [a] pos) ft:=Tf h
theorem Ae(h1:DT X fl a ft)(h2:DW X fl (.BoolOp .And (b::rest) pos) gt):DW X fl (.BoolOp .And (a::b::rest) pos) (oE ft gt):=PW.imp (Tg h1 h2) λσ H Q h=>by
 obtain⟨G,ow,δ,t,R,Y,q⟩:=h
 obtain⟨x,W,Z⟩:=bind1 Y
 refine⟨G,ow,δ,x,R,W,λH1 s1=>?_⟩
 cases x with
 |true=>exact yF ⟨G,ow,δ,t,R.grow s1,Z,λH2 s2=>q H2 (s1.trans s2)⟩
 |false=>cases Z;exact yE (q H1 s1)
theorem uZ(h1:DT X fl a ft)(h2:DW X fl (.BoolOp .Or (b::rest) pos) gt):DW X fl (.BoolOp .Or (a::b::rest) pos) (tOr ft gt):=PW.imp (Wf h1 h2) λσ H Q h=>by
 obtain⟨G,ow,δ,t,R,Y,q⟩:=h
 obtain⟨x,W,Z⟩:=bind1 Y
 refine⟨G,ow,δ,x,R,W,λH1 s1=>?_⟩
 cases x with
 |true=>cases Z;exact yF (q H1 s1)
 |false=>exact yE ⟨G,ow,δ,t,R.grow s1,Z,λH2 s2=>q H2 (s1.trans s2)⟩
theorem wQ(h:DW X fl a ft):DT X fl a ft:=PW.pt h
theorem wR{g:D->D->Option D}(ho:OpR X (compareOp op) r)(B:OpR X (compareOp op') r')(hb:BrO X.K r g)(J:BrO X.K r' g')(h1:DE X fl .P a fa)(h2:DE X fl .P b fb)(h3:DE X fl .P c fc)
 (hm:lastMarks [op,op'] [b,c]=false:=by with_unfolding_all rfl):DE X fl .FC (.Compare a [op,op'] [b,c] pos) (eX g g' fa fb fc):=PE.imp (J9 ho B h1 h2 h3 hm) λσ H Q h=>by
 obtain⟨G,ow,δ,d,R,Z,q⟩:=h
 obtain⟨x,F,Z⟩:=bind1 Z
 obtain⟨y,I,Z⟩:=bind1 Z
 obtain⟨z,L,Z⟩:=bind1 Z
 refine⟨G,ow,δ,x,R,F,λv H1 s1 O=>⟨G,ow,δ,y,R.grow s1,I,λu H2 s2 W=>?_⟩⟩
 refine hb H2 v u x y z _ (RA.same s2 O) W L λE V Y=>?_
 split at Z
 ·obtain rfl:=Y.blE
  obtain⟨w,M,N⟩:=bind1 Z
  refine⟨true,rfl,yF ⟨G,ow,δ,w,R.grow (s1.trans s2),M,λT U s3 S=>?_⟩⟩
  exact J U u T y w d Q (RA.same s3 W) S N λz V Y=>q z U (s1.trans (s2.trans s3)) (.inl ⟨V,Y⟩)
 ·obtain rfl:=Y.blE
  cases Z
  exact⟨false,rfl,yE (q _ H2 (s1.trans s2) (.inl ⟨rfl,.bl _⟩))⟩
 ·cases Z
theorem Ja{B:CmpOp}{J:R2}{g g'':D->D->Option D}{d:Expr}{fd:FE}(ho:OpR X (compareOp op) r)(ho':OpR X (compareOp op') r')(O:OpR X (compareOp B) J)(hb:BrO X.K r g)(hb':BrO X.K r' g')(W:BrO X.K J g'')(h1:DE X fl .P a fa)(h2:DE X fl .P b fb)(h3:DE X fl .P c fc)(h4:DE X fl .P d fd)
 (hm:lastMarks [op,op',B] [b,c,d]=false:=by with_unfolding_all rfl):DE X fl .FC (.Compare a [op,op',B] [b,c,d] pos) (vH g g' g'' fa fb fc fd):=PE.imp (Ir ho ho' O h1 h2 h3 h4 hm) λσ H Q h=>by
 obtain⟨G,ow,δ,i,R,Z,q⟩:=h
 obtain⟨x,j,Z⟩:=bind1 Z
 obtain⟨y,k,Z⟩:=bind1 Z
 obtain⟨z,l,Z⟩:=bind1 Z
 refine⟨G,ow,δ,x,R,j,λv H1 s1 A=>⟨G,ow,δ,y,R.grow s1,k,λu H2 s2 N=>?_⟩⟩
 refine hb H2 v u x y z _ (RA.same s2 A) N l λf M V=>?_
 split at Z
 ·obtain rfl:=V.blE
  obtain⟨w,m,Z⟩:=bind1 Z
  obtain⟨E,n,Z⟩:=bind1 Z
  refine⟨true,rfl,yF ⟨G,ow,δ,w,R.grow (s1.trans s2),m,λU I s3 S=>?_⟩⟩
  refine hb' I u U y w E _ (RA.same s3 N) S n λF s Y=>?_
  split at Z
  ·obtain rfl:=Y.blE
   obtain⟨t,o,p⟩:=bind1 Z
   refine⟨true,rfl,yF ⟨G,ow,δ,t,R.grow (s1.trans (s2.trans s3)),o,λtv L T C=>?_⟩⟩
   exact W L U tv w t i Q (RA.same T S) C p λz M V=>q z L (s1.trans (s2.trans (s3.trans T))) (.inl ⟨M,V⟩)
  ·obtain rfl:=Y.blE
   cases Z
   exact⟨false,rfl,yE (q _ I (s1.trans (s2.trans s3)) (.inl ⟨rfl,.bl _⟩))⟩
  ·cases Z
 ·obtain rfl:=V.blE
  cases Z
  exact⟨false,rfl,yE (q _ H2 (s1.trans s2) (.inl ⟨rfl,.bl _⟩))⟩
 ·cases Z
theorem KN{ok:Ok}(r:RA K ok pl H v d):decide (v = .non)=isNone d:=by
 cases r<;>rfl
noncomputable def BrC(K:PySem.W.Frag)(r:List V->Hp->VK->Prop)(g:List D->Option D):Prop:=∀(H:Hp)(xs:List V)(ds:List D)(d:D)(Q:VK),RAs K ok1 true H xs ds->g ds=some d->(∀v,flat d=true->RA K ok0 false H v d->Q v H)->r xs H Q
theorem gD{id:String}{r:List V->Hp->VK->Prop}{g:List D->Option D}{fa:FA}(hc:m_ X (.builtin id) r)(hb:BrC X.K r g)(W:Gl X x)(hm:X.mg x=none)(B:bootBuiltins x=some (.builtin id))(ha:DB X fl .P (e::es) fa)(hn:x≠"__name__" := by decide)(O:(x==("__debug__":Str))=false:=by decide)
 (he:starEach (e::es) X.env=(false,eval e X.env)::starEach es X.env:=by exact mK rfl) (J:(backTo pos (starEach es X.env)).any (·.1)=false:=by exact KD rfl):DE X fl .FC (.Call (.Name x p) (e::es) [] pos) (dCall g fa):=
 PE.imp (pZ hc W hm B ha hn O he J) λσ H Q h=>by
 obtain⟨G,ow,δ,d,R,Y,q⟩:=h
 obtain⟨ds,T,U⟩:=bind1 Y
 exact⟨G,ow,δ,ds,R,T,λvs H' s r'=>hb H' vs ds d Q r' U λv B Z=>q v H' s (.inl ⟨B,Z⟩)⟩
theorem kh:BrC K (λxs H Q=>∃p ys,xs=[.ref p]/\(SqL K H p ys\/SqT K H p ys)/\Q (.int ys.length) H) jd:=by
 intro H xs ds d Q r e q
 unfold jd at e
 split at e
 ·next l=>
  cases e
  cases r with
  |cons Y Z=>
   cases Z
   obtain⟨a,ys,rfl,X,W⟩:=Y.lstE
   refine⟨a,ys,rfl,.inl X,?_⟩
   rw[W.length]
   exact q _ rfl (.int _)
 ·next l=>
  cases e
  cases r with
  |cons Y Z=>
   cases Z
   obtain⟨a,ys,rfl,X,W⟩:=Y.tupE
   refine⟨a,ys,rfl,.inr X,?_⟩
   rw[W.length]
   exact q _ rfl (.int _)
 ·cases e
theorem P_(d:D):tyD d="NoneType"\/tyD d="bool"\/tyD d="int"\/tyD d="str"\/tyD d="list"\/tyD d="tuple"\/tyD d="dict" := by
 cases d<;>simp[tyD]
noncomputable def Zj(K:PySem.W.Frag):List V->Hp->VK->Prop:=λxs H Q=>∃x c d,xs=[x,.ty c]/\(c="int"\/c="bool"\/c="tuple"\/c="list"\/c="str")/\RA K ok1 true H x d/\Q (.bl (isT c (tyD d))) H
theorem KQ:m_ X (.builtin "isinstance") (Zj X.K):=by
 intro pins s σ H xs us Q I r h
 obtain⟨x,c,d,rfl,O,ra,q⟩:=h
 obtain⟨u,M,rfl,Z,R⟩:=vals2 r
 cases R
 have kn:=Ub (K:=X.K) O (P_ d)
 have fin:∀tk,EP X pins σ Q (.bool (isT c (tyD d))) {s with toks:=tk}:=λtk=>⟨.bl _,H,I.tok _,rfl,q⟩
 cases ra with
 |non=>cases(show u=Value.none from Z);exact PySem.W.kia_one PySem.W.kitx_none I.kIn True.intro kn (λz=>nomatch z) fin
 |bl b=>cases(show u=Value.bool b from Z);exact PySem.W.kia_one PySem.W.kitx_bool I.kIn True.intro kn (λz=>nomatch z) fin
 |int i=>obtain⟨t,z⟩:=(show ∃t,u=Value.int i t from Z);cases z;exact PySem.W.kia_one PySem.W.kitx_int I.kIn True.intro kn (λz=>nomatch z) fin
 |str y=>obtain⟨t,z⟩:=(show ∃t,u=Value.str y t from Z);cases z;exact PySem.W.kia_one PySem.W.kitx_str I.kIn True.intro kn (λz=>nomatch z) fin
 | @lst a xs ds e k S=>
  cases(show u=Value.ref a from Z)
  obtain⟨its,_,⟨o,n,U,V,_⟩,_⟩:=I.list (SqL.of e)
  exact PySem.W.kia_one PySem.W.kitx_list I.kIn ⟨_,U,V⟩ kn (λz=>nomatch z) fin
 | @lsk a xs ds e k S=>
  cases(show u=Value.ref a from Z)
  obtain⟨its,_,⟨o,n,U,V,_⟩,_⟩:=I.list e.sq
  exact PySem.W.kia_one PySem.W.kitx_list I.kIn ⟨_,U,V⟩ kn (λz=>nomatch z) fin
 | @tup a xs ds e S=>
  cases(show u=Value.ref a from Z)
  obtain⟨its,_,⟨o,U,V,_⟩,_⟩:=I.tuple e.sq
  exact PySem.W.kia_one PySem.W.kitx_tuple I.kIn ⟨_,U,V⟩ kn (λz=>nomatch z) fin
 | @dic a T kvs e g k=>
  rcases g.or with⟨ks,z⟩|⟨ks,z⟩
  ·rw[z]at e;exact yO I Z (TyOf.dK e) kn fin
  ·rw[z]at e;exact yO I Z (TyOf.dT e) kn fin
 | @dik a T kvs Y e g k=>
  cases(show u=Value.ref a from Z)
  have Y:=(show gP X.prog X.w H s.heap a T from(show L2.Rd H a T from .inr ⟨_,e⟩).ok I.hok)
  rcases g.or with⟨ks,z⟩|⟨ks,z⟩
  ·rw[z]at Y
   obtain⟨_,_,vs,_,N⟩:=Y
   obtain⟨P,_,_,h1,h2,_⟩:=N
   exact PySem.W.kia_one PySem.W.kitx_dict I.kIn ⟨_,h1,h2.1⟩ kn (λz=>nomatch z) fin
  ·rw[z]at Y
   obtain⟨_,_,xs,_,P,_,_,h1,h2,_⟩:=Y
   exact PySem.W.kia_one PySem.W.kitx_dict I.kIn ⟨_,h1,h2.1⟩ kn (λz=>nomatch z) fin
theorem pF{p':Pos}(hc:T="int"\/T="bool"\/T="tuple"\/T="list"\/T="str")(h:DE X fl .P a f)(hg:Gl X "isinstance")(hm:X.mg "isinstance"=none)(W:Gl X x)(O:X.mg x=none)(B:bootBuiltins x=some (.type T))
 (J:x≠"__name__" := by decide) (Z:(x==("__debug__":Str))=false:=by decide)
 (he:starEach [a,.Name x p'] X.env=(false,eval a X.env)::starEach [.Name x p'] X.env:=by rfl) (Y:starEach [.Name x p'] X.env=(false,eval (.Name x p') X.env)::starEach [] X.env:=by rfl) (D:(backTo pos (starEach [.Name x p'] X.env)).any (·.1)=false:=by rfl) :
 DE X fl .FC (.Call (.Name "isinstance" p) [a,.Name x p'] [] pos) (dUn (gIs T) f):=
 PE.imp (pZ KQ hg hm boot_isinstance (jM h (jM (Ov (v:=.ty T) W O B rfl J Z) nQ Y) he) (by decide) (by decide) he D) λσ H Q h=>by
 obtain⟨G,ow,δ,d,R,U,q⟩:=h
 obtain⟨x,N,S⟩:=bind1 U
 cases S
 exact⟨G,ow,δ,x,R,N,λv H1 s1 V=>⟨v,T,x,rfl,hc,V,q _ H1 s1 (.inl ⟨rfl,.bl _⟩)⟩⟩
theorem Uj(h:DE X fl .P a f):DE X fl .FC (.UnaryOp .USub a pos) (dUn Pr f):=PE.imp (Wu TY h) λσ H Q h=>by
 obtain⟨G,ow,δ,d,R,W,q⟩:=h
 obtain⟨x,V,Z⟩:=bind1 W
 refine⟨G,ow,δ,x,R,V,λv H1 s1 Y=>?_⟩
 unfold Pr at Z
 split at Z
 ·cases Z
  obtain rfl:=RA.intE Y
  exact⟨_,rfl,q _ H1 s1 (.inl ⟨rfl,.int _⟩)⟩
 ·cases Z
end
noncomputable def spD(K:PySem.W.Frag)(F:List D->Option D):Sp:=λvs H Q _=>∃ds d,(Tb H/\RAs K ok1 true H vs ds)/\F ds=some d/\∀v H',Same H H'->RA K (okN H) false H' v d->Q v H'
section
variable{P:Program}{w:World}{K:PySem.W.Frag}{mg:Str->Option Value}{base:Heap}{x:Str}{ps N:List Str}{st:Stmt}{k n:Nat}{fs:FS}{fl:List Fl}
theorem lK(p:Nat)(D:∀i,i<p->fl[i]? = some .A)(B:ds.length=p)(J:p<=N.length)(r':Tb H/\RAs K ok1 true H vs ds):
 Rel K fl ⟨H,H,λ_=>none,λ_=>[],r'.1⟩ ow0 (L2.start N vs) H (ds.map (λd=>some (.d d))++aP (N.length-p) none):=by
 have r:=r'.2
 have Z:vs.length=p:=by rw[r.length];exact B
 have get:∀i d,(ds.map (λd=>some (U.d d))++aP (N.length-p) none)[i]? = some (some (.d d))->i<p/\ds[i]? = some d:=λi d h=>by
  by_cases hi:i<p
  ·rw[bQ (by rw[aB,B];exact hi),aX]at h
   cases e:ds[i]? with
   |none=>rw[e]at h;cases h
   |some z=>rw[e]at h;cases h;exact⟨hi,rfl⟩
  ·rw[bM (by rw[aB,B];omega),dJ]at h
   split at h<;>cases h
 refine⟨Same.refl H,Same.refl H,?_,λi a h=>(by cases h),λi j a h=>(by cases h),λi h=>rfl,λi d h _ _=>?_,λi d h _ h2 _=>?_,λi a h=>(by cases h),λi j a h=>(by cases h),λi j a h=>(by cases h),λi h=>rfl,λi d hn h=>?_⟩
 ·unfold L2.start
  simp only[bJ,aB,bA,Z,B]
 ·obtain⟨hi,e⟩:=get i d h
  obtain⟨v,X,Y⟩:=r.get e
  refine⟨v,?_,Y.imp (λ_ _=>⟨λi z=>(by cases z),λi z=>(by cases z)⟩) (λz=>z)⟩
  unfold L2.start
  rw[bQ (by rw[aB,Z];exact hi),aX,X]
  rfl
 ·exact absurd (D i (get i d h).1) h2
 ·rw[D i (get i d h).1]at hn
  cases hn
end
section
variable{X:Cx}{fl:List Fl}{e:Expr}{es:List Expr}{pos p:Pos}{x:Str}{ps:List Str}{n:Nat}{F:List D->Option D}{fa:FA}
theorem cA(h:Has X.prog X.w X.K X.mg X.base n x ps (spD X.K F))(J:Room n X.A)(ha:DB X fl .P (e::es) fa)(O:Gl X x:=by rfl)(D:(x==("__debug__":Str))=false:=by decide)
 (W:starEach (e::es) X.env=(false,eval e X.env)::starEach es X.env:=by exact mK rfl) (B:(backTo pos (starEach es X.env)).any (·.1)=false:=by exact KD rfl) :
 DE X fl .C (.Call (.Name x p) (e::es) [] pos) (dCall F fa):=PE.imp (Ca h J ha O D W B) λσ H Q h=>by
 obtain⟨G,ow,δ,d,R,Y,q⟩:=h
 obtain⟨ds,U,V⟩:=bind1 Y
 refine⟨G,ow,δ,ds,R,U,λvs H' s r=>?_⟩
 show spD X.K F (vs++[]) H' Q E0
 rw[cM]
 exact⟨ds,d,⟨R.tb.same s,r⟩,V,λv H2 s2 Z=>q v H2 (s.trans s2) (RA.imp (λa z=>s.free z) (λz=>z) Z)⟩
end
end D3
variable{fh:D3.FO}
namespace D3
open PySem PySem.Spec PyProof.Rows L2 My
section
variable{X:Cx}{fl fl':List Fl}{e a b c elt tg iter:Expr}{es ifs:List Expr}{k:Kd}{f fa fb fc:FE}{ft gt:FT}{pos:Pos}{scope:Scope}{ix L TT:List Nat}{fi:FA}{g:FG}
theorem Af:PTs X [] (tDT X.K fl D3.sG):=λpins s σ H Q I h=>by
 obtain⟨G,ow,δ,b,R,Z,q⟩:=h
 cases Z
 exact Pn pins s σ H Q I (q H (Same.refl H))
theorem Qa{σ:St}(t:Nat)(ix:List Nat)(B:∀i,i<t+ix.length->fl'[i]? = some .A)(R:Rel K fl G ow σ H δ)(s:Same H H1):
 Rel K fl' ⟨H,H,λ_=>none,λ_=>[],R.tb⟩ ow0 (zX t ix σ) H1 (pU t ix δ):=by
 have get:∀i d,(pU t ix δ)[i]? = some (some (.d d))->i<t+ix.length/\∃j,ix[i-t]? = some j/\t<=i/\δ[j]? = some (some (.d d)):=λi d h=>by
  unfold pU at h
  by_cases hi:i<t
  ·rw[bQ (by rw[bA];exact hi),dJ,if_pos hi]at h
   cases h
  ·rw[bM (by rw[bA];omega),bA,aX]at h
   cases e:ix[i-t]? with
   |none=>rw[e]at h;cases h
   |some j=>
    rw[e]at h
    have Q:i-t<ix.length:=by
     rcases iM (i-t) ix.length with z|z
     ·exact z
     ·rw[bB z]at e;cases e
    refine⟨by omega,j,rfl,by omega,?_⟩
    have h':(δ[j]?).getD none=some (.d d):=by simpa using h
    cases q:δ[j]? with
    |none=>rw[q]at h';cases h'
    |some o=>rw[q]at h';simp at h';rw[h']
 refine⟨Same.refl H,s,?_,λi a h=>(by cases h),λi j a h=>(by cases h),λi h=>rfl,λi d h _ _=>?_,λi d h _ h2 _=>absurd (B i (get i d h).1) h2,λi a h=>(by cases h),λi j a h=>(by cases h),λi j a h=>(by cases h),λi h=>rfl,λi d hn h=>(by rw[B i (get i d h).1]at hn;cases hn)⟩
 ·unfold zX pU
  simp
 ·obtain⟨hi,j,T,S,Y⟩:=get i d h
  have Z:∃v,σ[j]? = some (some v)/\RA K ok1 true H v d:=by
   cases W:isN fl[j]? with
   |true=>
    obtain⟨v,h1,h2,_⟩:=R.nr j d W Y
    exact⟨v,h1,h2.ra λ_ _=>trivial⟩
   |false=>
   cases X:ow j with
   |none=>
    obtain⟨v,h1,h2⟩:=R.dat j d Y W X
    exact⟨v,h1,h2.imp (λ_ _=>trivial) (λz=>z)⟩
   |some a=>
    obtain⟨_,_,xs,ds,h1,h2,U,V⟩:=R.own j a X
    rw[Y]at V
    cases V
    exact⟨_,h1,.lst h2 trivial (U.imp (λ_ _=>trivial) (λz=>z))⟩
  obtain⟨v,h1,h2⟩:=Z
  refine⟨v,?_,(h2.imp (λ_ _=>⟨λi z=>(by cases z),λi z=>(by cases z)⟩) (λz=>z)).same s⟩
  unfold zX
  rw[bM (by rw[bA];omega),bA,aX,T]
  show some ((σ[j]?).getD none)=_
  rw[h1]
  rfl
theorem Cr{σ:St}{H:Hp}{Q:VK}{t:Nat}(hfl:∀i,i<t+ix.length->fl'[i]? = some .A)(B:∀j∈TT,j<t)
 (h:tD X.K fl .FC (p8 fi g ft f t ix) σ H Q):Kr (tDI X.K fl L fi) (tDG X.K fl' TT g) (tDT X.K fl' ft) (tD X.K fl' .C f) t (zX t ix) σ H Q:=by
 obtain⟨G,ow,δ,d,R,hf,q⟩:=h
 obtain⟨l,e1,M⟩:=bind1 hf
 by_cases u:l.length<=100000
 case neg=>rw[if_neg u]at M;cases M
 rw[if_pos u]at M
 obtain⟨r,e3,e4⟩:=bind1 M
 cases e4
 refine⟨G,ow,δ,l,R,e1,λJ H1 s1 wk Dl p=>?_⟩
 have R1:=R.grow s1
 let S:Ok:=λb=>okN H b/\b≠Dl
 refine⟨λi m xs H2=>m=l.length-i/\H2 Dl=some (.lst xs)/\Same H1 H2/\xs.length<=i/\i<=l.length/\∃ds rest,RAs X.K S false H2 xs ds/\jB g ft f (pU t ix δ) (l.drop i)=some rest/\r=ds++rest,
  ⟨_,rfl,dj,dH p _,aL _,cR _,[],r,.nil,by simpa using e3,rfl⟩,?_⟩
 rintro i m xs H2 ⟨rfl,W,s2,D,s,ds,rest,w,Y,rfl⟩
 refine⟨W,?_⟩
 obtain⟨w1,w2⟩:=wk H2 (λb o N _ _=>s2 b o N) i
 by_cases U:i<l.length
 ·have O:l.drop i=l[i]::l.drop (i+1):=jz U
  rw[O,jB]at Y
  obtain⟨T,e5,Y⟩:=bind1 Y
  obtain⟨k,e6,Y⟩:=bind1 Y
  obtain⟨go,yl⟩:=w1 l[i] (au U)
  refine .inr ⟨go,mR (bL D (bL s u)) (by decide),λx H3 hy=>?_⟩
  obtain⟨s3,r3⟩:=yl x H3 hy
  have F:=s2.trans s3
  have Rb:=(Qa t ix hfl R1 (Same.refl H1)).grow F
  refine⟨_,_,_,_,T,Rb,r3.imp (λ_ _=>⟨λi z=>(by cases z),λi z=>(by cases z)⟩) (λz=>z),e5,λa c P=>⟨?_,?_⟩⟩
  ·apply cF
   intro n
   rw[dM,dM]
   exact P (t+n) λz=>absurd (B _ z) (by omega)
  ·refine⟨_,_,T,k,c,e6,λH5 I=>?_⟩
   cases k with
   |false=>
    rw[if_neg aR]at Y ⊢
    have Z:=s3.trans I
    exact⟨l.length-(i+1),by omega,rfl,Z _ _ W,s2.trans Z,by omega,U,ds,rest,w.same Z,Y,rfl⟩
   |true=>
    rw[if_pos rfl]at Y ⊢
    obtain⟨y,e7,Y⟩:=bind1 Y
    obtain⟨l',e8,Y⟩:=bind1 Y
    cases Y
    refine⟨_,_,T,y,c.grow I,e7,λv H6 s6 r6=>?_⟩
    have Z:=s3.trans I
    have V:=Z.trans s6
    refine⟨V _ _ W,l.length-(i+1),by omega,rfl,dj,?_,by rw[bJ,pP];omega,U,ds++[y],l',?_,e8,by simp⟩
    ·intro b o N
     rw[cJ (λz=>by subst z;rw[p]at N;cases N)]
     exact(s2.trans V) b o N
    ·have nd:¬S Dl:=λz=>z.2 rfl
     have E:Same H H5:=s1.trans (s2.trans Z)
     have ry:RA X.K S false H6 v y:=RA.imp (λb z=>⟨E.free z,λe=>by subst e;rw[okN,Z _ _ W]at z;cases z⟩) (λz=>z) r6
     exact((w.same V).append (.cons ry .nil)).upd (V _ _ W) nd
 ·have ed:l.drop i=[]:=gA (by omega)
  rw[ed,jB]at Y
  cases Y
  refine .inl ⟨w2 (by omega),?_⟩
  rw[cM]at q
  exact q (.ref Dl) H2 (s1.trans s2) (.inr ⟨Dl,xs,ds,rfl,rfl,s1.free p,W,w⟩)
theorem tY(hc:X.calm=true)(T J:List Str)(ix:List Nat)(hi:DI X fl L tg iter fi)
 (hg:∀cl C s3 O fp,DG (blk X (T++J) scope cl C s3 O fp) fl' TT tg g) (ht:∀cl C s3 O fp,PTs (blk X (T++J) scope cl C s3 O fp) ifs (tDT X.K fl' ft)) (he:∀cl C s3 O fp,DE (blk X (T++J) scope cl C s3 O fp) fl' .C elt f)
 (Z:∀i,i<T.length+ix.length->fl'[i]? = some .A:=by decide) (W:∀j∈TT,j<T.length:=by decide)
 (hB:zW X.N X.env.scope.names scope.names J ix=true:=by rfl) (hk:scope.kind = .function:=by rfl) (D:∀y∈scope.names,y.2 ≠ .cell:=by decide +kernel)
 (B:∀x∈scope.names,x.2 = .local->scope.names.lookup x.1=some .local:=by decide +kernel)
 (Y:∀x∈scope.names,x.2 = .free->x.1∈J:=by decide +kernel) (hs:∀x,foldedSetIterable iter X.env x=pure x:=by intro _;rfl) :
 DE X fl .FC (.ListComp elt [⟨tg,iter,ifs,0⟩] scope pos) (p8 fi g ft f T.length ix):=
 PE.imp (Pq hc T J ix hi hg ht he hB hk D B Y hs) λ_ _ _ h=>Cr Z W h
theorem Cu{p:Addr}(s:Same H H1)(B:H1 p=none)(r:RAs K (okA ow) true H1 vs l):Rs K G.H0 ow H (upd H1 p (.lst vs)) .F (.ref p) (.list l):=
 .inr ⟨p,vs,l,rfl,rfl,s.free B,dj,(r.track.imp (λb w=>⟨w.1,λe=>w.2 (e▸B)⟩) (λz=>z)).same (dH B _)⟩
theorem sO{H0:Hp}(r:Rs K H0 ow Hb H (.B L) v (.list l)):∃a xs,v = .ref a/\SqL K H a xs/\RAs K (okA ow) true H xs l:=by
 rcases r with r|⟨i,hi,a,xs,ds,X,rfl,e,Z,Y⟩
 ·exact r.lstE
 ·cases e
  exact⟨a,xs,rfl,SqL.of Z,Y⟩
noncomputable def Xe(K:PySem.W.Frag):R2:=λx y H Q=>∃l b xs zs,x = .ref l/\y = .ref b/\SqL K H l xs/\SqL K H b zs/\xs.length+zs.length<=sizeLine/\∀p,H p=none->Q (.ref p) (upd H p (.lst (xs++zs)))
theorem Qc:OpR X (binaryOp .Add) (Xe X.K):=by
 intro pins s σ H x y v u Q I N O h
 obtain⟨l,b,xs,zs,rfl,rfl,L,J,E,q⟩:=h
 cases N
 cases O
 obtain⟨its,r,p,_⟩:=I.list L
 obtain⟨its2,T,p2,_⟩:=I.list J
 obtain⟨⟨cls,G,data,sl⟩,S,R,n,hd⟩:=p.isList
 obtain⟨⟨P,U,data2,V⟩,Z,W,M,Y⟩:=p2.isList
 simp only at R hd W Y
 subst R hd W Y
 have C:=r.length
 have D:=T.length
 have e:its.toArray++its2.toArray=(its++its2).toArray:=by simp
 refine concat_meets ⟨_,S,rfl⟩ ⟨_,Z,rfl⟩ noFill_list_add seq_list_add PySem.F.slot_list_add PySem.F.entry_list_add (PySem.F.args_list_add_2 _ _) (list_addW l b its.toArray its2.toArray n M G U sl V (by simp;omega)) ⟨S,Z,?_⟩
 rw[e]
 exact⟨.ref _,_,I.lnew (t':=s.toks) (r.append T) (by rw[bJ];omega),rfl,q _ I.fresh⟩
theorem wU{D:List Nat}(h1:DE X fl (.B L) a fa)(h2:DE X fl (.B D) b fb):DE X fl .F (.BinOp a .Add b pos) (dOp oJ fa fb):=PE.imp (J7 Qc h1 h2) λσ H Q h=>by
 obtain⟨G,ow,δ,d,R,O,q⟩:=h
 obtain⟨x,y,M,N,Z⟩:=wO O
 refine⟨G,ow,δ,x,R,M,λv H1 s1 T=>⟨G,ow,δ,y,R.grow s1,N,λu H2 s2 U=>?_⟩⟩
 unfold oJ at Z
 split at Z
 ·next l m=>
  by_cases z:l.length+m.length<=1000000
  ·rw[if_pos z]at Z
   cases Z
   obtain⟨p,xs,rfl,P,W⟩:=sO T
   obtain⟨p',ys,rfl,S,Y⟩:=sO U
   refine⟨p,p',xs,ys,rfl,rfl,s2.seq P,S,?_,λpn V=>q _ _ ((s1.trans s2).trans (dH V _)) (Cu (G:=G) (s1.trans s2) V ((W.same s2).append Y))⟩
   rw[W.length,Y.length]
   exact bL z (by decide)
  ·rw[if_neg z]at Z
   cases Z
 ·cases Z
theorem RAs.rep{ok:Ok}(r:RAs K ok pl H vs l):∀n:Nat,RAs K ok pl H (aP n vs).flatten (aP n l).flatten
 |0=>.nil
 |n+1=>by
  rw[cI,cI,eZ,eZ]
  exact r.append (RAs.rep r n)
theorem Ag(h1:DE X fl .F a fa)(h2:DE X fl .P b fb):DE X fl .F (.BinOp a .Mult b pos) (dOp wJ fa fb):=PE.imp (J7 T_ h1 h2) λσ H Q h=>by
 obtain⟨G,ow,δ,d,R,S,q⟩:=h
 obtain⟨x,y,L,M,Z⟩:=wO S
 refine⟨G,ow,δ,x,R,L,λv H1 s1 U=>⟨G,ow,δ,y,R.grow s1,M,λu H2 s2 V=>?_⟩⟩
 unfold wJ at Z
 split at Z
 ·next l k=>
  by_cases z:l.length*k.toNat<=1000000/\-(2^63)<=k/\k<2^63
  ·rw[if_pos z]at Z
   cases Z
   obtain rfl:=RA.intE V
   rcases U with⟨T,_⟩|⟨p,xs,ds,rfl,N,K,O,W⟩
   ·simp[flat]at T
   ·cases N
    refine⟨p,k,xs,rfl,rfl,s2 _ _ O,z.2.1,z.2.2,?_,λpn Y=>q _ _ ((s1.trans s2).trans (dH Y _)) (Cu (G:=G) (s1.trans s2) Y (((W.imp (λb w=>w.1) (λz=>z)).same s2).rep _))⟩
    rw[W.length]
    exact bL z.1 (by decide)
  ·rw[if_neg z]at Z
   cases Z
 ·cases Z
theorem Ah(h:DE X fl (.B L) a f)(O:Gl X "list")(hm:X.mg "list"=none)
 (J:starEach [a] X.env=(false,eval a X.env)::starEach [] X.env:=by rfl) (D:(backTo pos (starEach [] X.env)).any (·.1)=false:=by rfl):DE X fl .F (.Call (.Name "list" p) [a] [] pos) (dUn tR f):=
 PE.imp (qx zV O hm boot_list (jM h nQ J) (by decide) (by decide) J D) λσ H Q h=>by
 obtain⟨G,ow,δ,d,R,T,q⟩:=h
 obtain⟨x,S,Y⟩:=bind1 T
 refine⟨G,ow,δ,x,R,S,λv H1 s1 W=>?_⟩
 unfold tR at Y
 split at Y
 ·cases Y
  obtain⟨p,xs,rfl,V,U⟩:=sO W
  exact⟨p,xs,rfl,.inl V,λpn Z=>q _ _ (s1.trans (dH Z _)) (Cu (G:=G) s1 Z U)⟩
 ·cases Y
  rcases W with W|⟨i,hi,a,xs,ds,P,rfl,e,V,U⟩
  ·obtain⟨p,xs,rfl,V,U⟩:=W.tupE
   exact⟨p,xs,rfl,.inr V,λpn Z=>q _ _ (s1.trans (dH Z _)) (Cu (G:=G) s1 Z U)⟩
  ·cases e
 ·cases Y
noncomputable def tDO(K:PySem.W.Frag)(fl:List Fl)(f:FO):TO:=λσ H Q=>∃G ow δ o,Rel K fl G ow σ H δ/\f δ=some o/\∀H',Same H H'->Q o H'
theorem PO.imp{o:Option Expr}{t t':TO}(h:PO X o t)(i:∀σ H Q,t' σ H Q->t σ H Q):PO X o t':=λpins s σ H Q I q=>h pins s σ H Q I (i σ H Q q)
theorem qJ:PO X none (tDO X.K fl pO):=PO.imp O9 λσ H Q h=>by
 obtain⟨G,ow,δ,o,R,Z,q⟩:=h
 cases Z
 exact q H (Same.refl H)
theorem jN(h:DE X fl .P e f):PO X (some e) (tDO X.K fl (gj f)):=PO.imp (O_ h) λσ H Q h=>by
 obtain⟨G,ow,δ,o,R,W,q⟩:=h
 obtain⟨d,V,Z⟩:=bind1 W
 split at Z
 ·cases Z
  refine⟨G,ow,δ,_,R,V,λv H1 s1 Y=>?_⟩
  obtain rfl:=RA.intE Y
  exact⟨_,rfl,q H1 s1⟩
 ·cases Z
theorem Ai(n d:Nat)(o:Option Int):HT.sIx n d o=pSx n d o:=by
 cases o<;>rfl
theorem RAs.cut{ok:Ok}(r:RAs K ok pl H vs l)(lo hi:Option Int):RAs K ok pl H (BZ vs lo hi) (cutD l lo hi):=by
 unfold BZ cutD
 rw[r.length,Ai,Ai]
 exact(r.drop _).take _
theorem u_{lo hi:Option Expr}{p2:Pos}{fl1:FO}(h:DE X fl (.B L) a f)(h1:PO X lo (tDO X.K fl fl1))(h2:PO X hi (tDO X.K fl fh)):DE X fl .F (.Subscript a (.Slice lo hi none p2) pos) (dSl f fl1 fh):=PE.imp (BX Pg h h1 h2) λσ H Q h=>by
 obtain⟨G,ow,δ,d,R,Y,q⟩:=h
 obtain⟨x,J,Y⟩:=bind1 Y
 obtain⟨U,M,Y⟩:=bind1 Y
 obtain⟨V,N,W⟩:=bind1 Y
 refine⟨G,ow,δ,x,R,J,λv H1 s1 S=>⟨G,ow,δ,U,R.grow s1,M,λH2 s2=>⟨G,ow,δ,V,R.grow (s1.trans s2),N,λI s3=>?_⟩⟩⟩
 split at W
 ·cases W
  obtain⟨p,xs,rfl,P,O⟩:=sO S
  have Z:=s2.trans s3
  exact⟨p,xs,rfl,Z.seq P,λpn T=>q _ _ ((s1.trans Z).trans (dH T _)) (Cu (G:=G) (s1.trans Z) T ((O.same Z).cut U V))⟩
 ·cases W
theorem Cv{st:Stmt}:DS1 X fl st (λ_=>none):=PS.imp J4 λDn σ H h=>by
 obtain⟨G,ow,δ,o,R,Z,q⟩:=h
 cases Z
end
end D3
variable{elts:List Expr}{tpos:Pos}
namespace D3
open PySem PySem.Spec PyProof.Rows L2 My
section
variable{X:Cx}{pins:List (Addr×Obj)}{σ:St}{H:Hp}{s:Shared}{h':Heap}
theorem Inv.turnedL(I:Inv X pins σ H s)(k:∀b o,b∉ch->s.heap.get? b=some o->h'.get? b=some o)(B:∀b∈ch,ur X pins H b):Inv X pins σ H {s with heap:=h',toks:=t'}:=by
 have Y:∀b u,H b=some u->b∉ch:=λb u e z=>by rw[(B b z).1]at e;cases e
 refine I.step (g':=s.gens) (d':=s.drawn) (ch:=ch) (λb V=>?_) (λb o _ _ Z e _=>k b o Z e) (λb o _ _ Z e _=>⟨o.slots,k b o Z e⟩) (λ_ _ _ _ n=>n)
  (λb o Z e=>⟨o,k b o Z e⟩) (λ_ _ e=>e) (λ_ _ _ e=>e) (λ_ _ _ e=>e) (λm hm=>?_) (λb u e=>?_) I.bare
 ·obtain⟨S,f1,f2,f3,T,U⟩:=B b V
  exact⟨f3,f1,T,U⟩
 ·obtain⟨o,es,ep,W,r⟩:=hm
  exact⟨o,es,ep,k _ o (λz=>(B _ z).2.1 rfl) W,r⟩
 ·refine(I.hok b u e).stay (λc v Z q=>k c v ?_ q) (λ_ q=>q) λ_ _ q=>q
  rcases Z with z|z
  ·rw[z];exact Y b u e
  ·exact Y c _ z
end
noncomputable def Ite(K:PySem.W.Frag)(a:Addr):It:=
 ⟨λi H=>∃xs x,SqL K H a xs/\xs[i]? = some x,λi H x H'=>∃p y,H p=none/\H'=upd H p (.tup [.int i,y])/\x = .ref p/\∀xs,SqL K H a xs->xs[i]? = some y,λi H=>∃xs,SqL K H a xs/\xs.length<=i⟩
theorem Jb{B}(a it:Addr):
 Turn P w K (.Tuple elts B tpos) (Ite K a) [it+1,it] (it+1) (λi h=>∃old,IsEnum h (it+1) it (i:Int) old/\h.IsListIter it a i) where
 mem:=by simp
 obj:=λi h st b Z=>by
  obtain⟨old,W,o,e,c,d⟩:=st
  rcases aW.mp Z with z|z
  ·subst z
   exact⟨_,W,λv z=>by cases z⟩
  ·have z:b=it:=by simpa using z
   subst z
   exact⟨o,e,λv z=>by rw[d]at z;cases z⟩
 keep:=λi h h' st k=>by
  obtain⟨old,W,hi⟩:=st
  exact⟨old,k _ (by simp) _ W,hi.at λo e=>k it (by simp) o e⟩
 item:=by
  intro X L hw J D i pins s σ H E I V st N
  subst L hw J
  obtain⟨xs,x,T,Q⟩:=N
  obtain⟨its,R,p,A⟩:=I.list T
  obtain⟨u,t,C⟩:=R.get Q
  obtain⟨old,W,hi⟩:=st
  have fe:=V (it+1) (by simp)
  have fi:=V it (by simp)
  have U:it+1<s.heap.objs.size:=Heap.lt_size W
  refine wpAny_pyNext_enum_item W hi p.isList (x:=u) (by simpa using t) (Nat.succ_ne_self it) λh1 n O r q m=>?_
  refine⟨_,rfl,wpAny_letOwnedTupleGo_enum n λh2 M Y=>?_⟩
  replace Y:Heap.SameBut (it+1) h1 h2:=Y
  have hn:H s.heap.objs.size=none:=I.hok.fresh (aL _)
  have I0:Inv X pins σ (upd H s.heap.objs.size (.tup [.int (i:Int),x])) {s with heap:=s.heap.push {cls:=.type "tuple", data:=.seq #[.int (i:Int) s.toks,u]} }:=
   I.laid (t':=s.toks) (λb o e=>Heap.get?_push_of_some _ e) (aL _) ⟨show 2<=sizeLine by decide,[.int (i:Int) s.toks,u],.cons ⟨_,rfl⟩ (.cons C .nil),⟨_,Heap.get?_push_size _ rfl,rfl,_,rfl⟩⟩
  have ne:∀b,b∈[it+1,it]->b≠s.heap.objs.size:=λb Z=>by
   rcases aW.mp Z with S|S
   ·rw[S];exact aZ U
   ·rw[show b=it by simpa using S];exact aZ (fV U)
  have f:Inv X pins σ (upd H s.heap.objs.size (.tup [.int (i:Int),x])) {s with heap:=h2,toks:=s.toks+1}:=by
   refine Inv.turnedL (s:={s with heap:=s.heap.push {cls:=.type "tuple", data:=.seq #[.int (i:Int) s.toks,u]} }) (ch:=[it+1,it]) I0 (λb o Z e=>?_) λb Z=>⟨by rw[cJ (ne b Z)];exact(V b Z).1,(V b Z).2⟩
   have F:b≠it+1:=λz=>Z (by simp[z])
   have g:b≠it:=λz=>Z (by simp[z])
   rcases Heap.get?_push_cases e with⟨G,j⟩|G
   ·subst G j
    exact(Y.2 _ F).trans r
   ·exact(Y.2 _ F).trans (m b o F g G)
  refine⟨.ref s.heap.objs.size,_,f,rfl,⟨_,x,hn,rfl,rfl,λys y=>by rw[I.list_inj y T];exact Q⟩,⟨_,M,O.at λo e=>(Y.2 _ (aZ (gM it))).trans e⟩,λb Z=>?_⟩
  rw[cJ (ne b Z)]
  exact(V b Z).1
 done:=by
  intro X L hw J D i pins s σ H E I V st N
  subst L hw J
  obtain⟨xs,T,Q⟩:=N
  obtain⟨its,R,p,A⟩:=I.list T
  obtain⟨old,W,hi⟩:=st
  have hl:=R.length
  refine wpAny_pyNext_enum_end (I.ok.hd D) W hi p.isList (by simp;omega) λh' l=>⟨rfl,Inv.turnedL (t':=s.toks) (ch:=[it+1,it]) I (λb o Z e=>l b o (λz=>Z (by simp[z])) e) V⟩
 self:=λ_ _ _ _ _ st h=>by
  obtain⟨old,W,_⟩:=st
  exact wpAny_pyIter_enum W h
section
variable{X:Cx}{fl:List Fl}{a:Expr}{f:FE}{pos:Pos}
noncomputable def Xf(K:PySem.W.Frag)(tl:TE):TI:=λσ H R=>tl σ H λx H1=>∃a,x = .ref a/\(∃xs,SqL K H1 a xs)/\R (Ite K a) H1
theorem Qd{J}(hg:Gl X "enumerate")(hm:X.mg "enumerate"=none)(O:PE X a tl)(D:starEach [a] X.env=(false,eval a X.env)::starEach [] X.env:=by rfl)
 (B:(backTo pos (starEach [] X.env)).any (·.1)=false:=by rfl):PI X (.Tuple elts J tpos) (.Call (.Name "enumerate" p) [a] [] pos) (Xf X.K tl):=by
 intro pins s σ H R I h
 refine wpAny_Call_Name_kw (mq I hg hm boot_enumerate (PyProof.Rows.callWith_type1 (thn ((jM O nQ D) pos pins s σ H (λvs H1=>match vs with|[x]=>∃a,x = .ref a/\(∃xs,SqL X.K H1 a xs)/\R (Ite X.K a) H1|_=>False) I h) λus s1 ⟨vs,H1,W,T,q1⟩=>?_) D B))
 cases T with
 |nil=>exact q1.elim
 |cons r U=>
  cases U with
  |cons _ _=>exact q1.elim
  |nil=>
  obtain⟨l,e,⟨xs,Q⟩,q⟩:=q1
  subst e
  cases r
  obtain⟨its,L,pl,G⟩:=W.list Q
  refine call_enumerate_list pl.isList λh' Z V S P=>?_
  have M:Inv X pins σ H1 {s1 with heap:=h'}:=W.kept (t':=s1.toks) P
  refine wpAny_pyIter_enum (s:={s1 with heap:=h'}) Z ?_
  refine⟨s1.heap.objs.size+1,[s1.heap.objs.size+1,s1.heap.objs.size],_,_,H1,rfl,M,Jb l s1.heap.objs.size,⟨_,Z,V⟩,λb N=>?_,q⟩
  have Y:s1.heap.objs.size<=b:=by
   rcases aW.mp N with z|z
   ·rw[z];exact Nat.le_succ _
   ·rw[show b=s1.heap.objs.size by simpa using z];exact aL _
  exact W.fpOk Y (W.hok.fresh Y)
theorem Gw{J}(h:DE X fl (.B L) a f)(hg:Gl X "enumerate")(hm:X.mg "enumerate"=none)(he:starEach [a] X.env=(false,eval a X.env)::starEach [] X.env:=by rfl)
 (D:(backTo pos (starEach [] X.env)).any (·.1)=false:=by rfl):DI X fl L (.Tuple elts J tpos) (.Call (.Name "enumerate" p) [a] [] pos) (Ck f):=PI.imp (Qd hg hm h he D) λσ H R' h=>by
 obtain⟨G,ow,δ,l,R,I,q⟩:=h
 obtain⟨d,F,S⟩:=bind1 I
 cases d<;>first|(cases S;done)|skip
 next V=>
 cases S
 refine⟨G,ow,δ,_,R,F,λv H1 s r=>?_⟩
 obtain⟨a,xs,rfl,N,keep⟩:=Ac (R.grow s) r
 refine⟨a,rfl,⟨xs,N⟩,q _ _ s λH2 k2 i=>?_⟩
 obtain⟨Y,U⟩:=keep H2 k2
 refine⟨λd hd=>?_,λK=>⟨xs,Y,by rw[U.length];simpa[lG]using K⟩⟩
 have Z:(V[i]?).map (λx=>PyData.tuple [.int (i:Int),x])=some d:=by
  have:=hd
  unfold lG at this
  rw[bZ]at this
  exact this
 cases e:V[i]? with
 |none=>rw[e]at Z;cases Z
 |some E=>
  rw[e]at Z
  cases Z
  obtain⟨y,T,P⟩:=U.get e
  refine⟨⟨xs,y,Y,T⟩,λx C W=>?_⟩
  obtain⟨p,Q,M,rfl,rfl,O⟩:=W
  have:some y=some Q:=T.symm.trans (O xs Y)
  cases this
  have g:=dH M (.tup [.int (i:Int),y])
  exact⟨g,.tup dj (.cons (.int _) (.cons (P.same g) .nil))⟩
end
structure Bl(mg:Str->Option Value):Prop where
 len_:mg "len"=none
 range_:mg "range"=none
 abs_:mg "abs"=none
 isinstance_:mg "isinstance"=none
 int_:mg "int"=none
 bool_:mg "bool"=none
 tuple_:mg "tuple"=none
 list_:mg "list"=none
 str_:mg "str"=none
 max_:mg "max"=none
 min_:mg "min"=none
 sorted_:mg "sorted"=none
 sum_:mg "sum"=none
 reversed_:mg "reversed"=none
 enumerate_:mg "enumerate"=none
 zip_:mg "zip"=none
 set_:mg "set"=none
 any_:mg "any"=none
 all_:mg "all"=none
 dict_:mg "dict"=none
end D3
variable{dc:Value}
namespace D3
open PySem PySem.Spec PyProof.Rows L2 My
structure FunD(K:PySem.W.Frag)(x:Str)(st:Stmt)(f:Addr)(fd:FuncData):Prop where
 ex:∃(oc:Value)(od:Option Addr)(dV kV doc pm:Value)(an:Option Addr)(cdv ct:Value)(osl:Array (Option Value)),
  fd=PySem.W.fnOf x x (nj st) (iU st) (bN st) dV kV doc pm an cdv ct/\K.lookup f=some ⟨oc,od,.func fd,osl⟩/\PySem.W.codeIn K cdv x=true
 kp:PySem.W.keepIn K (.ref f)=true
structure Dg(K:PySem.W.Frag)(mg:Str->Option Value)(x:Str)(st:Stmt)(ps:List Str):Prop where
 ex:∃(f:Addr)(fd:FuncData),FunD K x st f fd/\Binds K fd ps []/\mg x=some (.ref f)
theorem Xg{kV:Value}{sl:Array (Option Value)}{st:Stmt}(X:K.In h)(G:h.Ns mainGlobals mg)
 (B:∀(kV doc pm:Value)(an:Option Addr)(cdv ct:Value)(us:List Value),us.length=ps.length->bindArgs (PySem.W.fnOf x x (nj st) (iU st) (bN st) .none kV doc pm an cdv ct) ⟨us,[]⟩=pure (ps.zip us))
 (a:PySem.W.nsIn K mainGlobals x=some (some (.ref f))) (l:K.lookup f=some ⟨oc,od,.func (PySem.W.fnOf x x (nj st) (iU st) (bN st) .none kV dc pm an cd ct),sl⟩) (c:PySem.W.codeIn K cd x=true) (k:PySem.W.keepIn K (.ref f)=true):Dg K mg x st ps:=
 ⟨_,_,⟨⟨oc,od,.none,kV,dc,pm,an,cd,ct,sl,rfl,l,c⟩,k⟩,.all (B kV dc pm an cd ct),PySem.W.mg_of X G a⟩
structure Dl(K:PySem.W.Frag)(mg:Str->Option Value)(x y:Str)(st:Stmt):Prop where
 ex:∃(f:Addr)(fd:FuncData),FunD K x st f fd/\(∀(s:Shared)(u:Value),BindsTo s fd ⟨[u],[]⟩ [(y,u)])/\mg x=some (.ref f)
theorem Xh{kV:Value}{sl:Array (Option Value)}{y:Str}{st:Stmt}(X:K.In h)(G:h.Ns mainGlobals mg)
 (B:∀(kV doc pm:Value)(an:Option Addr)(cdv ct:Value)(u:Value),bindArgs (PySem.W.fnOf x x (nj st) (iU st) (bN st) .none kV doc pm an cdv ct) ⟨[u],[]⟩=pure [(y,u)])
 (a:PySem.W.nsIn K mainGlobals x=some (some (.ref f))) (l:K.lookup f=some ⟨oc,od,.func (PySem.W.fnOf x x (nj st) (iU st) (bN st) .none kV dc pm an cd ct),sl⟩) (c:PySem.W.codeIn K cd x=true) (k:PySem.W.keepIn K (.ref f)=true):Dl K mg x y st:=
 ⟨_,_,⟨⟨oc,od,.none,kV,dc,pm,an,cd,ct,sl,rfl,l,c⟩,k⟩,λs u=>.of_eq (B kV dc pm an cd ct u),PySem.W.mg_of X G a⟩
section
variable{P:Program}{w:World}{K:PySem.W.Frag}{mg:Str->Option Value}{base:Heap}{x:Str}{ps N:List Str}{st:Stmt}{k n:Nat}{fs:FS}{fl:List Fl}
theorem FunD.ok(F:FunD K x st f fd)(S:FnScope N ps (bN st))(len:∀vs H Q E,sp vs H Q E->vs.length=ps.length)
 (B:∀(cdv:Value)(A:Around)(outer:List Env)(s:Shared)(H:Hp)(vs:List V)(Q:VK)(E:XK),Room k (A.deeper (envOfC x (bN st) s.heap.objs.size f cdv))->sp vs H Q E ->
  ∃t,PSs (BR CX0 P w K mg base N x (bN st) f cdv A outer s H E).nox (iU st) t/\t {nx:=λ_ H'=>Q .non H',rt:=Q} (L2.start N vs) H):FnOk P w K mg base CX0 (k+1) f fd ps sp:=by
 obtain⟨oc,od,dV,kV,doc,pm,an,cdv,ct,osl,rfl,X,Y⟩:=F.ex
 refine R8 X Y S len λA outer s H vs Q E W Z=>?_
 obtain⟨t,h,q⟩:=B cdv A outer s H vs Q E W Z
 exact⟨t,h.nox,q⟩
theorem KR(O:FunD K x st f fd)(S:FnScope N ps (bN st))(D:∀i,i<ps.length->fl[i]? = some .A)(J:ps.length<=N.length)
 (B:∀(f:Addr)(cdv:Value)(A:Around)(outer:List Env)(s:Shared)(H:Hp)(E:XK),Room k (A.deeper (envOfC x (bN st) s.heap.objs.size f cdv))->DSs (cx P w K mg base N x st f cdv A outer s H E) fl (iU st) fs) :
 FnOk P w K mg base CX0 (k+1) f fd ps (spD K (fnD ps.length (N.length-ps.length) fs)):=by
 refine O.ok S (λvs H Q E h=>?_) (λcdv A outer s H vs Q E W h=>?_)
 ·obtain⟨ds,d,r,Z,_⟩:=h
  unfold fnD at Z
  by_cases z:ds.length=ps.length
  ·rw[r.2.length];exact z
  ·rw[if_neg z]at Z;cases Z
 ·obtain⟨ds,d,r,Z,q⟩:=h
  refine⟨_,B f cdv A outer s H E W,?_⟩
  unfold fnD at Z
  by_cases z:ds.length=ps.length
  ·rw[if_pos z]at Z
   split at Z
   ·next V e=>
    cases Z
    exact⟨_,_,_,_,lK ps.length D z J r,e,λv H' s r=>q v H' s r⟩
   ·next Y e=>
    cases Z
    exact⟨_,_,_,_,lK ps.length D z J r,e,λX σ' H' R'=>q .non H' R'.same0 .non⟩
   ·cases Z
  ·rw[if_neg z]at Z;cases Z
theorem iD(O:Dg K mg x st ps)(S:FnScope N ps (bN st))(D:∀i,i<ps.length->fl[i]? = some .A)(J:ps.length<=N.length)
 (B:∀(f:Addr)(cdv:Value)(A:Around)(outer:List Env)(s:Shared)(H:Hp)(E:XK),Room k (A.deeper (envOfC x (bN st) s.heap.objs.size f cdv))->DSs (cx P w K mg base N x st f cdv A outer s H E) fl (iU st) fs) :
 Has P w K mg base (k+1) x ps (spD K (fnD ps.length (N.length-ps.length) fs)):=by
 obtain⟨f,fd,Z,b,m⟩:=O.ex
 exact⟨f,fd,KR Z S D J B,b,Z.kp,m⟩
end
noncomputable def KY(K:PySem.W.Frag):Sp:=λvs H Q _=>∃(a:Addr)(ns:List Int),Tb H/\vs=[.ref a]/\SqL K H a (ns.map V.int)/\ns.length<=63/\∀H',Q (.bl true) H'
theorem qM{ok:Ok}:∀ns:List Int,RAs K ok pl H (ns.map V.int) (ns.map PyData.int)
 |[]=>.nil
 |n::r=>.cons (.int n) (qM r)
theorem Qe{F:List D->Option D}(B:∀ns:List Int,ns.length<=63->F [.list (ns.map .int)]=some (.bool true))(vs:List V)(H:Hp)(Q:VK)(E:XK)(h:KY K vs H Q E):spD K F vs H Q E:=by
 obtain⟨a,ns,tb,rfl,Y,Z,q⟩:=h
 refine⟨_,_,⟨tb,.cons ?_ .nil⟩,B ns Z,λv H' s r=>?_⟩
 ·rcases Y with(h|⟨o,h⟩)|h
  ·exact .lst h trivial (qM ns)
  ·exact .lsk (.inl ⟨o,h⟩) rfl (qM ns)
  ·exact .lsk (.inr h) rfl (qM ns)
 ·obtain rfl:=r.blE
  exact q H'
end D3
namespace D3
open PySem PySem.Spec PyProof.Rows L2 My
section
variable{prog:Program}{w:World}{A:Around}{E:Value->Shared->Prop}{s:Shared}
end
section
variable{X:Cx}{fl:List Fl}{a:Expr}{f:FE}{pos p p2 pos2:Pos}
end
section
variable{X:Cx}{fl:List Fl}{a b:Expr}{pos p p2 pos2:Pos}{fa:FA}
theorem Gx{f:Nat->V}:∀(us:List Value)(k:Nat),(∀j v,us[j]? = some v->RelV (f (k+j)) v)->Vals ((jZ k us.length).map f) us
 |[],_,_=>.nil
 |u::r,k,h=>by
  rw[bF,List.range'_succ,bf]
  refine .cons (h 0 u rfl) (Gx r (k+1) λj v Z=>?_)
  have:=h (j+1) v (by simpa using Z)
  rw[show k+1+j=k+(j+1)by omega]
  exact this
theorem KZ{ok:Ok}(lo:Int):∀(n k:Nat),RAs K ok pl H ((jZ k n).map λ(j:Nat)=>V.int (lo+(j:Int))) ((jZ k n).map λ(j:Nat)=>PyData.int (lo+(j:Int)))
 |0,_=>.nil
 |n+1,k=>by
  rw[List.range'_succ,bf,bf]
  exact .cons (.int _) (KZ lo n (k+1))
end
end D3
namespace D3
open PySem PySem.Spec PyProof.Rows L2 My
section
variable{X:Cx}
theorem tZ:∀{ns:List Int}{its:List Value},Vals (ns.map V.int) its->IntsAre its ns
 |[],_,.nil=>.nil
 |n::r,_,.cons h t=>by
  obtain⟨k,rfl⟩:=h
  exact .cons _ _ (tZ t)
theorem wV{ok:Ok}:∀{l:List D}{ns:List Int}{ys:List V},dX l=some ns->RAs K ok pl H ys l->ys=ns.map V.int
 |[],_,_,e,.nil=>by cases e;rfl
 |d::r,ns,_,e,.cons h t=>by
  cases d<;>first|(cases e;done)|skip
  obtain rfl:=h.intE
  cases Z:dX r with
  |none=>rw[dX,Z]at e;cases e
  |some m=>
   rw[dX,Z]at e
   cases e
   rw[wV Z t]
   rfl
theorem yW(B:X.calm=true):m_ X (.builtin "max") (λxs H Q=>∃(p:Addr)(i:Int)(r:List Int),xs=[.ref p]/\SqL X.K H p ((i::r).map V.int)/\Q (.int (mxI i r)) H):=by
 intro pins s σ H xs us Q I r h
 obtain⟨p,i,Y,rfl,O,q⟩:=h
 obtain⟨u,rfl,S⟩:=vals1 r
 cases S
 obtain⟨its,W,pl,F⟩:=I.list O
 have hi:=tZ W
 obtain⟨xs,e⟩:=hi.allInts.items
 have Z:i::Y=xs.toList.map (·.1):=by rw[<-hi.numsOf,<-nums_intItems,<-e]
 have U:0<xs.size:=by
  have T:0<(i::Y).length:=by simp
  rw[Z,aB,bx]at T;exact T
 have M:s.heap.IsList p (intItems xs):=e▸pl.isList
 refine max_intList (I.ok.hd B) M U λv h' tk N L=>?_
 obtain⟨t,rfl⟩:=intItems_at N
 obtain⟨h1,h2⟩:=argBest_gt (numAt xs) (xs.size-1)
 have P:numAt xs (argBest (λi j=>decide (numAt xs i>numAt xs j)) (xs.size-1))∈i::Y:=by
  rw[Z,numAt_eq];exact getD_mem (by rw[aB,bx];omega)
 have R:∀a∈i::Y,a<=numAt xs (argBest (λi j=>decide (numAt xs i>numAt xs j)) (xs.size-1)):=λa ha=>by
  rw[Z]at ha
  obtain⟨j,J,rfl⟩:=mem_getD ha
  rw[aB,bx]at J
  rw[<-numAt_eq];exact h2 j (by omega)
 have sp:=oK Y i
 have G:numAt xs (argBest (λi j=>decide (numAt xs i>numAt xs j)) (xs.size-1))=mxI i Y:=pL (sp.2 _ P) (R _ sp.1)
 rw[G]
 exact⟨.int _,H,I.kept L,⟨_,rfl⟩,q⟩
theorem K1:BrC K (λxs H Q=>∃(p:Addr)(i:Int)(r:List Int),xs=[.ref p]/\SqL K H p ((i::r).map V.int)/\Q (.int (mxI i r)) H) pN:=by
 intro H xs ds d Q r e q
 unfold pN at e
 split at e
 ·next l=>
  split at e
  ·next i X T=>
   cases e
   cases r with
   |cons Y Z=>
    cases Z
    obtain⟨a,ys,rfl,W,U⟩:=Y.lstE
    obtain rfl:=wV T U
    exact⟨a,i,X,rfl,W,q _ rfl (.int _)⟩
  ·cases e
 ·cases e
theorem yX:∀{l m:List Int},l.Perm m->l.Pairwise (· <= ·)->m.Pairwise (· <= ·)->l=m
 |[],m,p,_,_=>p.nil_eq
 |a::l,m,p,h1,h2=>by
  cases m with
  |nil=>exact absurd p.length_eq (by simp)
  |cons b m=>
   obtain⟨U,V⟩:=bU.mp h1
   obtain⟨W,X⟩:=bU.mp h2
   have e:a=b:=by
    have Y:a∈b::m:=p.mem_iff.mp aC
    have Z:b∈a::l:=p.mem_iff.mpr aC
    rcases aW.mp Y with z|z
    ·exact z
    ·rcases aW.mp Z with y|y
     ·exact y.symm
     ·exact pL (U b y) (W a z)
   subst e
   rw[yX (List.Perm.cons_inv p) V X]
theorem oG:∀{ns:List Int}{its:List Value},IntsAre its ns->Vals (ns.map V.int) its
 |_,_,.nil=>.nil
 |_,_,.cons n t r=>.cons ⟨t,rfl⟩ (oG r)
end
end D3
namespace D3
open PySem PySem.Spec PyProof.Rows L2 My
noncomputable def gK(n:Nat)(us ws:List α):List α:=if ws.length=n then us++ws else []
structure HasD(P:Program)(w:World)(K:PySem.W.Frag)(mg:Str->Option Value)(base:Heap)(n:Nat)(x:Str)(ps:List Str)(sp:Sp)(dvs:List V)(ks:List Str):Prop where
 ex:∃(f:Addr)(fd:FuncData)(ds:List Value),FnOk P w K mg base CX0 n f fd ps sp/\Binds K fd ps ds/\Vals dvs ds/\KBinds K fd ps ks (gK ks.length) (gK ks.length)/\PySem.W.keepIn K (.ref f)=true/\mg x=some (.ref f)
structure DgD(K:PySem.W.Frag)(mg:Str->Option Value)(x:Str)(st:Stmt)(ps:List Str)(dvs:List V)(ks:List Str):Prop where
 ex:∃(f:Addr)(fd:FuncData)(ds:List Value),FunD K x st f fd/\Binds K fd ps ds/\Vals dvs ds/\KBinds K fd ps ks (gK ks.length) (gK ks.length)/\mg x=some (.ref f)
section
variable{P:Program}{w:World}{K:PySem.W.Frag}{mg:Str->Option Value}{base:Heap}{x:Str}{ps N ks:List Str}{st:Stmt}{k n:Nat}{fs:FS}{fl:List Fl}{dvs:List V}
end
section
variable{X:Cx}{fl:List Fl}{e ke:Expr}{es:List Expr}{pos p kpos:Pos}{x kn:Str}{ps:List Str}{n:Nat}{F:List D->Option D}{fa:FA}{fk:FE}{i:Int}{dvs:List V}
theorem Uk:BrC K (λxs H Q=>(∃i,xs=[.int i]/\Q (.int i) H)\/∃k,xs=[.bl k]/\Q (.int (if k then 1 else 0)) H) zY:=by
 intro H xs ds d Q r e q
 unfold zY at e
 split at e
 ·cases e
  cases r with
  |cons Y Z=>
   cases Z
   obtain rfl:=Y.intE
   exact .inl ⟨_,rfl,q _ rfl (.int _)⟩
 ·cases e
  cases r with
  |cons Y Z=>
   cases Z
   obtain rfl:=Y.blE
   exact .inr ⟨_,rfl,q _ rfl (.int _)⟩
 ·cases e
theorem Ul{j pos'}{a:Expr}{f:FE}(h:DE X fl .P a f):DT X fl (.Compare a [.Is] [.Constant .none j pos'] pos) (bO (dUn Cj f)):=PT.imp (J0 (Tc h)) λσ H Q h=>by
 obtain⟨G,ow,δ,c,R,Y,q⟩:=h
 obtain⟨d,T,U⟩:=bind1 Y
 obtain⟨x,V,W⟩:=bind1 T
 cases W
 cases U
 refine⟨G,ow,δ,x,R,V,λv H1 s1 Z=>?_⟩
 refine⟨decide (v = .non),rfl,?_⟩
 rw[KN (RA.same (Same.refl H1) Z)]
 exact q H1 s1
theorem Gy(ha:DB X fl .P [e] fa)(D:Gl X "int")(hm:X.mg "int"=none)
 (J:starEach [e] X.env=(false,eval e X.env)::starEach [] X.env:=by rfl) (B:(backTo pos (starEach [] X.env)).any (·.1)=false:=by rfl):DE X fl .FC (.Call (.Name "int" p) [e] [] pos) (dCall zY fa):=
 PE.imp (qx Ik D hm boot_int ha (by decide) (by decide) J B) λσ H Q h=>by
 obtain⟨G,ow,δ,d,R,W,q⟩:=h
 obtain⟨ds,U,V⟩:=bind1 W
 exact⟨G,ow,δ,ds,R,U,λvs H' s r'=>Uk H' vs ds d Q r' V λv Y Z=>q v H' s (.inl ⟨Y,Z⟩)⟩
end
end D3
variable{z i1 i2 l1 l2:Addr}{k1 k2:Nat}{ys:Array Value}
namespace D3
open PySem PySem.Spec PyProof.Rows L2 My
section
variable{X:Cx}
theorem Cw:∀{bs:List Bool}{its:List Value},Vals (bs.map V.bl) its->its=bs.map Value.bool
 |[],_,.nil=>rfl
 |b::r,_,.cons h t=>by
  cases h
  rw[Cw t]
  rfl
theorem all_range(bs:List Bool):(bC bs.length).all (λi=>bs.getD i false)=bs.all id:=by
 rw[Bool.eq_iff_iff,dD,dD]
 constructor
 ·intro h b Z
  obtain⟨i,hi,rfl⟩:=iz Z
  have:=h i (bH.mpr hi)
  rw[aK,au hi]at this
  exact this
 ·intro h i hi
  have hi:=bH.mp hi
  rw[aK,au hi]
  exact h _ (b_ hi)
theorem Cy(bs:List Bool):TruthOf prog w A (λi v=>(bs.map Value.bool).toArray[i]? = some v) (λi=>bs.getD i false):=by
 intro i v s Q E X W
 have Z:(bs.map Value.bool)[i]? = some v:=by simpa using X
 rw[aX]at Z
 cases e:bs[i]? with
 |none=>rw[e]at Z;cases Z
 |some b=>
  rw[e]at Z
  cases Z
  have V:bs.getD i false=b:=by rw[aK,e];rfl
  have Y:Q (bs.getD i false) s:=W
  rw[V]at Y
  exact wpAny_truthy_bool Y
theorem Jc(B:X.calm=true):m_ X (.builtin "all") (λxs H Q=>∃(p:Addr)(bs:List Bool),xs=[.ref p]/\SqL X.K H p (bs.map V.bl)/\Q (.bl (bs.all id)) H):=by
 intro pins s σ H xs us Q I r h
 obtain⟨p,bs,rfl,T,q⟩:=h
 obtain⟨u,rfl,U⟩:=vals1 r
 cases U
 obtain⟨its,Z,pl,R⟩:=I.list T
 obtain rfl:=Cw Z
 have W:s.heap.IsList p (bs.map Value.bool).toArray:=pl.isList
 have Y:p<s.heap.objs.size:=by obtain⟨_,e,_⟩:=id W;exact Heap.lt_size e
 refine call_all_walk (wpAny_pyIter_list W ?_)
 refine⟨_,_,_,_,_,_,_,rfl,Walks.list (A:=X.A.in1) (I.ok.hd B) _ p (aZ Y) (bs.map Value.bool).toArray,⟨⟨_,Heap.get?_push_size _ rfl,rfl,rfl⟩,W.push _⟩,Cy bs,λh' tk S=>?_⟩
 have e:(bs.map Value.bool).toArray.size=bs.length:=by simp
 rw[e,all_range]
 exact⟨.bl _,H,I.kept (old_kept S),rfl,q⟩
theorem yZ{ok:Ok}:∀{l:List D}{bs:List Bool}{ys:List V},sI l=some bs->RAs K ok pl H ys l->ys=bs.map V.bl
 |[],_,_,e,.nil=>by cases e;rfl
 |d::r,bs,_,e,.cons h t=>by
  cases d<;>first|(cases e;done)|skip
  obtain rfl:=h.blE
  cases Z:sI r with
  |none=>rw[sI,Z]at e;cases e
  |some m=>
   rw[sI,Z]at e
   cases e
   rw[yZ Z t]
   rfl
theorem Xi:BrC K (λxs H Q=>∃(p:Addr)(bs:List Bool),xs=[.ref p]/\SqL K H p (bs.map V.bl)/\Q (.bl (bs.all id)) H) Pu:=by
 intro H xs ds d Q r e q
 unfold Pu at e
 split at e
 ·next l=>
  cases Z:sI l with
  |none=>rw[Z]at e;cases e
  |some bs=>
   rw[Z]at e
   cases e
   cases r with
   |cons X Y=>
    cases Y
    obtain⟨a,ys,rfl,W,U⟩:=X.lstE
    obtain rfl:=yZ Z U
    exact⟨a,bs,rfl,W,q _ rfl (.bl _)⟩
 ·cases e
end
section
variable{X:Cx}{fl:List Fl}{a:Expr}{f:FE}{pos:Pos}{ta:TE}
end
section
variable{X:Cx}{fl:List Fl}{a b c:Expr}{f fa fb fc:FE}{pos:Pos}
theorem wW{g:D->D->Option D}(ho:OpR X (compareOp op) r)(B:OpR X (compareOp op') r')(hb:BrO X.K r g)(J:BrO X.K r' g')(h1:DE X fl .P a fa)(h2:DE X fl .P b fb)(h3:DE X fl .P c fc)
 (hm:lastMarks [op,op'] [b,c]=false:=by with_unfolding_all rfl):DT X fl (.Compare a [op,op'] [b,c] pos) (bO (eX g g' fa fb fc)):=PT.imp (J_ ho B h1 h2 h3 hm) λσ H Q h=>by
 obtain⟨G,ow,δ,C,R,Z,q⟩:=h
 obtain⟨d,Z,hd⟩:=bind1 Z
 have W:d = .bool C:=by cases d<;>first|(cases hd;rfl)|(cases hd;done)
 subst W
 obtain⟨x,E,Z⟩:=bind1 Z
 obtain⟨y,F,Z⟩:=bind1 Z
 obtain⟨z,I,Z⟩:=bind1 Z
 refine⟨G,ow,δ,x,R,E,λv H1 s1 O=>⟨G,ow,δ,y,R.grow s1,F,λu H2 s2 V=>?_⟩⟩
 refine hb H2 v u x y z _ (RA.same s2 O) V I λA N Y=>?_
 split at Z
 ·obtain rfl:=Y.blE
  obtain⟨w,L,M⟩:=bind1 Z
  refine⟨true,rfl,yF ⟨G,ow,δ,w,R.grow (s1.trans s2),L,λT U s3 S=>?_⟩⟩
  refine J U u T y w _ _ (RA.same s3 V) S M λz N Y=>?_
  obtain rfl:=Y.blE
  exact⟨_,rfl,q U (s1.trans (s2.trans s3))⟩
 ·obtain rfl:=Y.blE
  cases Z
  exact⟨false,rfl,yE ⟨_,rfl,q H2 (s1.trans s2)⟩⟩
 ·cases Z
theorem Qf{j pos'}(h:DE X fl .P a f):DT X fl (.Compare a [.IsNot] [.Constant .none j pos'] pos) (bO (dUn wI f)):=PT.imp (J0 (Ox h)) λσ H Q h=>by
 obtain⟨G,ow,δ,U,R,Z,q⟩:=h
 obtain⟨d,Z,hd⟩:=bind1 Z
 obtain⟨x,V,W⟩:=bind1 Z
 cases W
 cases hd
 refine⟨G,ow,δ,x,R,V,λv H1 s1 Y=>?_⟩
 refine⟨!decide (v = .non),rfl,?_⟩
 rw[KN (RA.same (Same.refl H1) Y)]
 exact q H1 s1
end
theorem Jd{TI TO:Addr}{f0 a b:Value}{x y:Value}{xs:Array Value}(hz:IsZip h z TI TO f0)(D:IsPair h TI x y)(B:IsPair h TO a b)(h1:h.IsListIter i1 l1 k1)(h2:h.IsListIter i2 l2 k2)(O:h.IsList l1 xs)(J:h.IsList l2 ys)(nT:TI≠TO)(ni:i1≠i2):
 ZipApart z TI TO i1 i2 l1 l2:=by
 obtain⟨R,Y,W,M⟩:=h1
 obtain⟨S,Z,X,N⟩:=h2
 obtain⟨p1,U,k1,P⟩:=O
 obtain⟨p2,V,k2,Q⟩:=J
 have ne:∀{u v:Addr}{o o':Obj},h.get? u=some o->h.get? v=some o'->o.cls≠o'.cls->u≠v:=λe T n z=>by
  subst z
  rw[e]at T
  cases T
  exact n rfl
 exact⟨ne D hz (by simp),ne B hz (by simp),ne Y hz (by rw[W];simp),ne Z hz (by rw[X];simp),nT,ne D Y (by rw[W];simp),ne D Z (by rw[X];simp),ne B Y (by rw[W];simp),ne B Z (by rw[X];simp),ni,
  ne U hz (by rw[k1];simp),ne U B (by rw[k1];simp),ne U Y (by rw[k1,W];simp),ne U Z (by rw[k1,X];simp),ne V hz (by rw[k2];simp),ne V B (by rw[k2];simp),ne V Y (by rw[k2,W];simp),ne V Z (by rw[k2,X];simp)⟩
section
variable{X:Cx}{fl:List Fl}{a b:Expr}{f g:FE}{pos:Pos}
theorem boot_zip:bootBuiltins "zip"=some (.type "zip"):=by decide +kernel
theorem Cz:∀(l m:List D)(i:Nat),(mz l m)[i]? = (l[i]?).bind λx=>(m[i]?).map λy=>PyData.tuple [x,y]
 |[],_,i=>by simp[mz]
 |_::_,[],i=>by cases i<;>simp[mz]
 |x::l,y::m,0=>by simp[mz]
 |x::l,y::m,i+1=>by simp[mz,Cz l m i]
theorem t_:∀(l m:List D),(mz l m).length=min l.length m.length
 |[],_=>by simp[mz]
 |_::_,[]=>by simp[mz]
 |x::l,y::m=>by simp[mz,t_ l m]
end
end D3
namespace D3
open PySem PySem.Spec PyProof.Rows L2 My
section
variable{X:Cx}{fl:List Fl}{e a b c:Expr}{es rest:List Expr}{k:Kd}{f fa fb fc:FE}{ft gt:FT}{pos:Pos}
theorem Qg:DE X fl .T (.Dict [] [] pos) (dC (.dict [])):=PE.imp Kp λσ H Q h=>by
 obtain⟨G,ow,δ,d,R,W,q⟩:=h
 cases W
 intro p Z
 exact q _ _ (dH Z _) ⟨[p],.dic dj (.inl ⟨rfl,rfl⟩),eN.mpr ⟨fH,.nil⟩,λx Y=>by rw[aO.mp Y];exact Z⟩
theorem Aj(i:Nat)(hn:isN fl[i]? = true){x:Str}(J:X.N[i]? = some x:=by rfl)(D:Vis X.env.scope x:=by first|exact Or.inl rfl|exact Or.inr (Or.inl rfl)|exact Or.inr (Or.inr rfl))(hd:(x==("__debug__":Str))=false:=by decide)
 (B:(x==("__classdict__":Str))=false:=by decide):DE X fl .P (.Name x pos) (aj i):=by
 refine PE.imp (pX J D hd B) λσ H Q h=>?_
 obtain⟨G,ow,δ,d,R,Z,q⟩:=h
 obtain⟨v,h1,h2,_⟩:=R.nr i d hn (nq Z)
 exact⟨v,h1,q v H (Same.refl H) (h2.ra λ_ _=>trivial)⟩
theorem CG(i:Nat)(hn:isN fl[i]? = true){x:Str}(J:X.N[i]? = some x:=by rfl)(D:Vis X.env.scope x:=by first|exact Or.inl rfl|exact Or.inr (Or.inl rfl)|exact Or.inr (Or.inr rfl))(hd:(x==("__debug__":Str))=false:=by decide)
 (B:(x==("__classdict__":Str))=false:=by decide):DE X fl .R (.Name x pos) (aj i):=by
 refine PE.imp (pX J D hd B) λσ H Q h=>?_
 obtain⟨G,ow,δ,d,R,Z,q⟩:=h
 obtain⟨v,h1,h2,_⟩:=R.nr i d hn (nq Z)
 exact⟨v,h1,q v H (Same.refl H) (h2.ra λa ha=>(R.nt i a ha).1)⟩
theorem K3(B:isR k=true)(ha:DE X fl k a fa)(D:DE X fl .P b fb)(hs:vG b):DE X fl k (.Subscript a b pos) (dOp gIx fa fb):=PE.imp (R9 Kf ha D hs) λσ H Q h=>by
 obtain⟨G,ow,δ,d,R,O,q⟩:=h
 obtain⟨x,y,M,N,Z⟩:=wO O
 refine⟨G,ow,δ,x,R,M,λv H1 s1 S=>⟨G,ow,δ,y,R.grow s1,N,λu H2 s2 T=>?_⟩⟩
 have q1:=(S.ra B).same s2
 unfold gIx at Z
 split at Z
 ·next l i=>
  obtain rfl:=RA.intE T
  obtain⟨p,xs,rfl,W,V⟩:=q1.lstE
  obtain⟨z,U,Y⟩:=V.at Z
  exact .inl ⟨p,xs,i,z,rfl,rfl,W,U,q z H2 (s1.trans s2) (Rs.of_ra B Y)⟩
 ·next l i=>
  obtain rfl:=RA.intE T
  obtain⟨p,xs,rfl,W,V⟩:=q1.tupE
  obtain⟨z,U,Y⟩:=V.at Z
  exact .inr (.inl ⟨p,xs,i,z,rfl,rfl,W,U,q z H2 (s1.trans s2) (Rs.of_ra B Y)⟩)
 ·cases Z
end
section
variable{K:PySem.W.Frag}{fl:List Fl}
noncomputable def owN(ow:Ow)(i:Nat)(as:List Addr):Ow:=⟨ow.s,λj=>if j=i then as else ow.n j⟩
theorem lM:(owN ow i as).n i=as:=if_pos rfl
theorem jV(h:j≠i):(owN ow i as).n j=ow.n j:=if_neg h
theorem Rel.setN{σ:St}(R:Rel K fl G ow σ H δ)(s:Same H H')(B:fl[i]? = some .N)(hi:i<σ.length)(r:Rs K G.H0 ow H H' .T v d):
 ∃J,Rel K fl G J (σ.set i (some v)) H' (δ.set i (some (.d d))):=by
 have R':=R.grow s
 obtain⟨as,h1,h2,Q⟩:=r
 have I:∀a,ow i≠some a:=λa z=>by
  obtain⟨_,L,_⟩:=R.own i a z
  rw[B]at L
  rcases L with⟨z,_⟩|⟨z,_⟩<;>cases z
 have sub:∀b,okA ow b/\H b≠none->okA (owN ow i as) b:=λb z=>⟨z.1.1,λj e=>by
  by_cases Z:j=i
  ·subst Z
   rw[lM]at e
   exact z.2 (Q b e)
  ·rw[jV Z]at e
   exact z.1.2 j e⟩
 have old:∀{v:V}{d:D},RA K (okA ow) true H v d->RA K (okA (owN ow i as)) true H' v d:=λr=>(r.track.imp sub (λz=>z)).same s
 have olds:∀{v:List V}{d:List D},RAs K (okA ow) true H v d->RAs K (okA (owN ow i as)) true H' v d:=λr=>(r.track.imp sub (λz=>z)).same s
 refine⟨owN ow i as,R'.s0,R'.s1,by rw[cV,cV];exact R.len,λj a h=>?_,R.inj,R.pin,λj O S X W=>?_,λj O S X W U=>?_,λj a h=>?_,λj j' a h h'=>?_,λj j' a h=>?_,λj h=>?_,λj O X S=>?_⟩
 ·have Z:j≠i:=λz=>I a (z▸h)
  obtain⟨E,F,xs,ds,S,W,U,P⟩:=R.own j a h
  exact⟨E,F,xs,ds,by rw[bI (Ne.symm Z)];exact S,s _ _ W,olds U,by rw[bI (Ne.symm Z)];exact P⟩
 ·rcases h_ S with⟨rfl,e⟩|⟨Z,e⟩
  ·rw[B]at X;cases X
  ·obtain⟨M,U,P⟩:=R.dat j O e X W
   exact⟨M,by rw[bI (Ne.symm Z)];exact U,old P⟩
 ·rcases h_ S with⟨rfl,e⟩|⟨Z,e⟩
  ·rw[B]at X;cases X
  ·exact R.oo j O e X W U
 ·by_cases Z:j=i
  ·subst Z
   rw[lM]at h
   exact⟨R.same0.free (Q a h),h1.chd a h,.inl ⟨B,R.s1.free (Q a h)⟩⟩
  ·rw[jV Z]at h
   exact R'.nt j a h
 ·by_cases Z:j=i
  ·by_cases Y:j'=i
   ·rw[Z,Y]
   ·subst Z
    rw[lM]at h
    rw[jV Y]at h'
    exact absurd (Q a h) (R.nt j' a h').2.1.ne
  ·rw[jV Z]at h
   by_cases Y:j'=i
   ·subst Y
    rw[lM]at h'
    exact absurd (Q a h') (R.nt j a h).2.1.ne
   ·rw[jV Y]at h'
    exact R.nd j j' a h h'
 ·by_cases Z:j=i
  ·subst Z
   rw[lM]at h
   exact λz=>by
    obtain⟨_,_,_,_,_,W,_⟩:=R.own j' a z
    rw[Q a h]at W
    cases W
  ·rw[jV Z]at h
   exact R.ns j j' a h
 ·have Z:j≠i:=λz=>by subst z;rw[B]at h;cases h
  rw[jV Z]
  exact R.np j h
 ·rcases h_ S with⟨rfl,e⟩|⟨Z,e⟩
  ·cases e
   exact⟨v,by rw[cZ hi],by rw[lM];exact h1,by rw[lM];exact h2⟩
  ·obtain⟨M,U,P⟩:=R'.nr j O X e
   exact⟨M,by rw[bI (Ne.symm Z)];exact U,by rw[jV Z];exact P⟩
theorem Rel.mutN{σ:St}{J:HO}[cu:Chg u][cu':Chg J]{d:D}{v:V}{as:List Addr}(R:Rel K fl G ow σ H δ)(B:fl[i]? = some .N)(hi:i<δ.length)(ha:a∈ow.n i)(hx:H a=some u)(hv:σ[i]? = some (some v))
 (hr:RT K (upd H a J) v d as) (hs:∀b∈as,b∈ow.n i) (hd:as.Nodup):∃O,Rel K fl G O σ (upd H a J) (δ.set i (some (.d d))):=by
 have na:¬okA ow a:=λz=>z.2 i ha
 have F:G.HF a=none:=by
  rcases(R.nt i a ha).2.2 with⟨_,z⟩|z
  ·exact z
  ·rw[B]at z;cases z
 have L:∀a,ow i≠some a:=λa z=>by
  obtain⟨_,M,_⟩:=R.own i a z
  rw[B]at M
  rcases M with⟨z,_⟩|⟨z,_⟩<;>cases z
 have sub:∀b,okA ow b->okA (owN ow i as) b:=λb z=>⟨z.1,λj e=>by
  by_cases Z:j=i
  ·subst Z
   rw[lM]at e
   exact z.2 j (hs b e)
  ·rw[jV Z]at e
   exact z.2 j e⟩
 have tr:∀b,Chd (H b)->Chd (upd H a J b):=λb z=>by
  by_cases T:b=a
  ·rw[T,dj];exact⟨_,rfl,cu'⟩
  ·rw[cJ T];exact z
 refine⟨owN ow i as,R.s0,λb o T=>?_,by rw[cV];exact R.len,λj b h=>?_,R.inj,R.pin,λj Q X W U=>?_,λj Q X W U Y=>?_,λj b h=>?_,λj j' b h h'=>?_,λj j' b h=>?_,λj h=>?_,λj Q W X=>?_⟩
 ·rw[cJ (λz=>by subst z;rw[F]at T;cases T)]
  exact R.s1 b o T
 ·have Z:j≠i:=λz=>L b (z▸h)
  obtain⟨E,I,zs,ds,X,U,Y,S⟩:=R.own j b h
  have T:b≠a:=λz=>R.ns i j a ha (z▸h)
  exact⟨E,I,zs,ds,X,by rw[cJ T];exact U,(Y.upd hx na).imp sub (λz=>z),by rw[bI (Ne.symm Z)];exact S⟩
 ·rcases h_ X with⟨rfl,e⟩|⟨Z,e⟩
  ·rw[B]at W;cases W
  ·obtain⟨P,Y,S⟩:=R.dat j Q e W U
   exact⟨P,Y,(S.upd hx na).imp sub (λz=>z)⟩
 ·rcases h_ X with⟨rfl,e⟩|⟨Z,e⟩
  ·rw[B]at W;cases W
  ·exact R.oo j Q e W U Y
 ·by_cases Z:j=i
  ·subst Z
   rw[lM]at h
   obtain⟨X,U,Y⟩:=R.nt j b (hs b h)
   exact⟨X,tr b U,Y⟩
  ·rw[jV Z]at h
   obtain⟨X,U,Y⟩:=R.nt j b h
   exact⟨X,tr b U,Y⟩
 ·have old:∀j b,b∈(owN ow i as).n j->b∈ow.n j:=λj b h=>by
   by_cases Z:j=i
   ·subst Z;rw[lM]at h;exact hs b h
   ·rw[jV Z]at h;exact h
  exact R.nd j j' b (old j b h) (old j' b h')
 ·by_cases Z:j=i
  ·subst Z;rw[lM]at h;exact R.ns j j' b (hs b h)
  ·rw[jV Z]at h;exact R.ns j j' b h
 ·have Z:j≠i:=λz=>by subst z;rw[B]at h;cases h
  rw[jV Z]
  exact R.np j h
 ·rcases h_ X with⟨rfl,e⟩|⟨Z,e⟩
  ·cases e
   exact⟨v,hv,by rw[lM];exact hr,by rw[lM];exact hd⟩
  ·obtain⟨P,Y,S,C⟩:=R.nr j Q W e
   exact⟨P,Y,by rw[jV Z];exact S.upd hx (λz=>Z (R.nd j i a z ha)),by rw[jV Z];exact C⟩
end
section
variable{K:PySem.W.Frag}{H:Hp}
theorem RT.flat0{ok:Ok}(B:flat d=true)(h:RA K ok pl H v d):RT K H v d []:=by
 obtain⟨as,h1,_,Z⟩:=RA.rt (RA.flat (ok':=ok0) (pl':=false) B h)
 cases as with
 |nil=>exact h1
 |cons a r=>exact(Z a aC).elim
end
section
variable{X:Cx}{fl:List Fl}{e ke:Expr}{f fk:FE}{pos:Pos}
theorem Gz(D:fl[i]? = some .N)(O:X.N.Nodup)(hi:X.N[i]? = some x)(J:X.env.scope.names.lookup x=some .local\/X.env.scope.names.lookup x=some .cell)(h:DE X fl .T e f)
 (hs:swapsWith e (some (.Name x pos')) pos.line X.env=pure false:=by rfl) (B:X.fn x=true\/X.env.scope.names.lookup x=some .local:=by first|exact .inl rfl|exact .inr rfl) :
 DS1 X fl (.Assign [.Name x pos'] e pos) (bV i f):=PS.imp (Es (i:=i) O hi J h hs B) λDn σ H h=>by
 obtain⟨G,ow,δ,o,R,Z,q⟩:=h
 unfold bV at Z
 by_cases W:i<δ.length
 ·rw[if_pos W]at Z
  obtain⟨d,U,V⟩:=bind1 Z
  cases V
  refine⟨G,ow,δ,d,R,U,λv H' s r=>?_⟩
  obtain⟨Y,R'⟩:=R.setN s D (vK R W) r
  exact q Y _ H' R'
 ·rw[if_neg W]at Z
  cases Z
end
end D3
variable{fe:D3.FE}
namespace D3
open PySem
noncomputable def wX:List D->Option D
 |[.int hi]=>if(-(2^62)<=hi/\hi<2^62)/\(hi-0).toNat<=1000000 then some (.list (d8 0 hi))else none
 |_=>none
theorem Qh{hi:Int}(h:0<=hi)(h':hi<=1000000):wX [.int hi]=some (.list (d8 0 hi)):=by
 show(if(-(2^62)<=hi/\hi<2^62)/\(hi-0).toNat<=1000000 then some (PyData.list (d8 0 hi))else none)=_
 rw[if_pos ⟨⟨by omega,by omega⟩,by omega⟩]
noncomputable def Sh:D->Option (List D)
 | .list l=>some l
 | .tuple l=>some l
 |_=>none
noncomputable def qSq(x:Option D):Option (List D):=x.bind Sh
noncomputable def Um(f:FE):FA:=λδ=>(f δ).bind Sh
theorem Zk{f:FE}:Um f δ=qSq (f δ):=rfl
theorem Uo:qSq (some (.tuple l))=some l:=rfl
noncomputable def wY:D->Option D
 | .list l=>some (.tuple l)
 | .tuple l=>some (.tuple l)
 |_=>none
theorem K4:wY (.list l)=some (.tuple l):=rfl
noncomputable def qRL(a:Option D):Option Oc:=match a with
 |some d=>some (.ex "" "" d)
 |none=>none
noncomputable def qj(fe:FE):FS:=λδ=>(fe δ).bind λd=>some (.ex "" "" d)
theorem Uq:qj fe δ=qRL (fe δ):=by
 unfold qj qRL
 cases fe δ<;>rfl
theorem K5:qRL (some d)=some (.ex "" "" d):=rfl
noncomputable def Qi(o:Option Oc):Option D:=match o with
 |some (.rt d)=>some d
 |some (.ex _ _ d)=>some d
 |some (.nx _)=>some .none
 |_=>none
noncomputable def fnL(p q:Nat)(b:FS):List D->Option D:=λds=>if ds.length=p then Qi (b (ds.map (λd=>some (.d d))++aP q none))else none
theorem Ss{p q:Nat}{b:FS}:fnL p q b ds=if ds.length=p then Qi (b (ds.map (λd=>some (.d d))++aP q none))else none:=rfl
theorem K6{c f:Str}:Qi (some (.ex c f d))=some d:=rfl
end D3
namespace D3
open PySem PySem.Spec PyProof.Rows L2 My
section
variable{X:Cx}
end
section
variable{X:Cx}{fl:List Fl}{e ke:Expr}{f fk:FE}{pos:Pos}
theorem RAs.erase{ok:Ok}{v:List V}{d:List D}(n:Nat)(r:RAs K ok pl H v d):RAs K ok pl H (v.eraseIdx n) (d.eraseIdx n):=by
 rw[lE,lE]
 exact(r.take n).append (r.drop (n+1))
end
section
variable{X:Cx}{fl:List Fl}{a:Expr}{pos p p2 pos2:Pos}{fa:FA}
end
end D3
namespace D3
open PySem PySem.Spec PyProof.Rows L2 My
section
variable{X:Cx}{pins:List (Addr×Obj)}{σ:L2.St}{H:Hp}{s:Shared}
end
section
variable{X:Cx}{K:PySem.W.Frag}
end
section
variable{X:Cx}{fl:List Fl}{es:List Expr}{pos:Pos}
end
section
variable{X:Cx}{fl:List Fl}{e:Expr}{f:FE}
theorem Xj{l:Expr}{D B:TI}(h1:PI X tg l D)(h2:PI X tg l B):PI X tg l (λσ H R=>D σ H R\/B σ H R):=λpins s σ H R I h=>by
 rcases h with h|h
 ·exact h1 pins s σ H R I h
 ·exact h2 pins s σ H R I h
theorem K7{σ:St}(R:Rel K fl G ow σ H δ)(r:Rs K G.H0 ow Hb H (.B L) v (.tuple l)):∃a xs,v = .ref a/\SqT K H a xs /\
 ∀H2:Hp,(∀b o,H b=some o->(∀i,ow i=some b->i∈L)->(∀i,b∉ow.n i)->H2 b=some o)->SqT K H2 a xs/\RAs K (λb=>okA ow b/\H b≠none) true H2 xs l:=by
 rcases r with r|⟨i,hi,a,xs,ds,W,rfl,e,Y,X⟩
 ·cases r with
  |tup e q=>
   refine⟨_,_,rfl,e.sq,λH2 Z=>⟨?_,RAs.keep Z R.ownL R.ownC (λb z=>z.1) q.track⟩⟩
   exact .inl (.inl (Z _ _ e (nm R.ownL e (by intro xs z;cases z)) (nm2 R.ownC e Chg.tup)))
 ·cases e
theorem Ur(h:DE X fl (.B L) e f):DI X fl L tg e (Um f):=PI.imp (Xj (Gj h) (Tz h)) λσ H R' h=>by
 obtain⟨G,ow,δ,l,R,M,q⟩:=h
 obtain⟨d,O,W⟩:=bind1 M
 cases d with
 |list N=>
  cases W
  refine .inl ⟨G,ow,δ,_,R,O,λv H1 s r=>?_⟩
  obtain⟨a,xs,rfl,Q,keep⟩:=Ac (R.grow s) r
  refine⟨a,rfl,⟨xs,Q⟩,q _ _ s λH2 k2 i=>?_⟩
  obtain⟨Z,V⟩:=keep H2 k2
  refine⟨λd hd=>?_,λP=>⟨xs,Z,by rw[V.length];exact P⟩⟩
  obtain⟨y,U,T⟩:=V.get hd
  refine⟨⟨xs,y,Z,U⟩,λx K Y=>?_⟩
  obtain⟨e,S⟩:=Y
  subst e
  have:some y=some x:=U.symm.trans (S xs Z)
  cases this
  exact⟨Same.refl _,T⟩
 |tuple N=>
  cases W
  refine .inr ⟨G,ow,δ,_,R,O,λv H1 s r=>?_⟩
  obtain⟨a,xs,rfl,Q,keep⟩:=K7 (R.grow s) r
  refine⟨a,rfl,⟨xs,Q⟩,q _ _ s λH2 k2 i=>?_⟩
  obtain⟨Z,V⟩:=keep H2 k2
  refine⟨λd hd=>?_,λP=>⟨xs,Z,by rw[V.length];exact P⟩⟩
  obtain⟨y,U,T⟩:=V.get hd
  refine⟨⟨xs,y,Z,U⟩,λx K Y=>?_⟩
  obtain⟨e,S⟩:=Y
  subst e
  have:some y=some x:=U.symm.trans (S xs Z)
  cases this
  exact⟨Same.refl _,T⟩
 |none=>cases W
 |bool _=>cases W
 |int _=>cases W
 |str _=>cases W
 |dict _=>cases W
end
section
variable{X:Cx}{fl:List Fl}{a:Expr}{f:FE}{pos p:Pos}
theorem Qj(h:DE X fl (.B L) a f)(O:Gl X "tuple")(hm:X.mg "tuple"=none)
 (J:starEach [a] X.env=(false,eval a X.env)::starEach [] X.env:=by exact mK rfl) (D:(backTo pos (starEach [] X.env)).any (·.1)=false:=by rfl):DE X fl .A (.Call (.Name "tuple" p) [a] [] pos) (dUn wY f):=
 PE.imp (qx rN O hm boot_tuple (jM h nQ J) (by decide) (by decide) J D) λσ H Q h=>by
 obtain⟨G,ow,δ,d,R,T,q⟩:=h
 obtain⟨x,S,Y⟩:=bind1 T
 refine⟨G,ow,δ,x,R,S,λv H1 s1 W=>?_⟩
 unfold wY at Y
 split at Y
 ·cases Y
  obtain⟨p,xs,rfl,Z,V⟩:=sO W
  exact⟨p,xs,rfl,.inl ⟨Z,λpn U=>q _ _ (s1.trans (dH U _)) (.tup dj (V.same (dH U _)))⟩⟩
 ·cases Y
  rcases W with W|⟨i,hi,a,xs,ds,P,rfl,e,Z,V⟩
  ·obtain⟨p,xs,rfl,Z,V⟩:=W.tupE0
   exact⟨p,xs,rfl,.inr ⟨Z.sq,q _ _ s1 (.tup Z V)⟩⟩
  ·cases e
 ·cases Y
theorem Qk(h:DE X fl .C a f)(J:Gl X "tuple")(hm:X.mg "tuple"=none)
 (D:starEach [a] X.env=(false,eval a X.env)::starEach [] X.env:=by exact mK rfl) (B:(backTo pos (starEach [] X.env)).any (·.1)=false:=by rfl):DE X fl .C (.Call (.Name "tuple" p) [a] [] pos) (dUn wY f):=
 PE.imp (qx rN J hm boot_tuple (jM h nQ D) (by decide) (by decide) D B) λσ H Q h=>by
 obtain⟨G,ow,δ,d,R,T,q⟩:=h
 obtain⟨x,S,Z⟩:=bind1 T
 refine⟨G,ow,δ,x,R,S,λv H1 s1 V=>?_⟩
 unfold wY at Z
 split at Z
 ·cases Z
  obtain⟨p,xs,rfl,Y,W⟩:=RA.lstE V
  exact⟨p,xs,rfl,.inl ⟨Y,λpn U=>q _ _ (s1.trans (dH U _)) (.tup dj (W.same (dH U _)))⟩⟩
 ·cases Z
  obtain⟨p,xs,rfl,Y,W⟩:=RA.tupE0 V
  exact⟨p,xs,rfl,.inr ⟨Y.sq,q _ _ s1 (.tup Y W)⟩⟩
 ·cases Z
end
section
variable{X:Cx}{fl:List Fl}{a b:Expr}{fa fb:FE}{pos:Pos}
end
end D3
namespace D3
open PySem PySem.Spec PyProof.Rows L2 My
section
variable{X:Cx}{K:PySem.W.Frag}
end
noncomputable def Itv(K:PySem.W.Frag)(a:Addr)(n:Nat):It:=
 ⟨λi H=>i<n/\∃xs x,SqL K H a xs/\xs.length=n/\xs[n-1-i]? = some x,λi H x H'=>H'=H/\∀xs,SqL K H a xs->xs[n-1-i]? = some x,λi _=>n<=i⟩
theorem K8(a it:Addr)(n:Nat):Turn P w K tg (Itv K a n) [it] it (λi h=>i<=n/\h.IsRevIter it a ((n:Int)-1-(i:Int))) where
 mem:=by simp
 obj:=λi h st b Y=>by
  have e:b=it:=by simpa using Y
  subst e
  obtain⟨_,o,e,c,d⟩:=st
  exact⟨o,e,λv z=>by rw[d]at z;cases z⟩
 keep:=λi h h' st k=>⟨st.1,st.2.at λo e=>k it (by simp) o e⟩
 item:=by
  intro X U hw T M i pins s σ H E I V st W
  subst U hw T
  obtain⟨hi,xs,x,N,hn,O⟩:=W
  obtain⟨its,G,p,y⟩:=I.list N
  obtain⟨u,C,F⟩:=G.get O
  obtain⟨Q,f1,f2,f3,R,S⟩:=V it (by simp)
  have Z:=st.2
  rw[show(n:Int)-1-(i:Int)=((n-1-i:Nat):Int)by omega]at Z
  refine wpAny_pyNext_rev_item Z p.isList (x:=u) (by simpa using C) λh' st' J=>?_
  rw[show((n-1-i:Nat):Int)-1=(n:Int)-1-((i+1:Nat):Int)by omega]at st'
  have A:Inv X pins σ H {s with heap:=h'}:=I.turned (t':=s.toks) (λb o Y e=>(J.2 b Y).trans e) Q f1 f3 R S
  obtain⟨o,e,c,d⟩:=id st'
  exact⟨u,rfl,Gi (s:={s with heap:=h'}) e c d (by decide) ⟨x,H,A,F,⟨rfl,λys D=>by rw[I.list_inj D N];exact O⟩,⟨by omega,st'⟩,λb Y=>(V b Y).1⟩⟩
 done:=by
  intro X U hw T M i pins s σ H E I V st W
  subst U hw T
  obtain⟨Q,f1,f2,f3,R,S⟩:=V it (by simp)
  have W:n<=i:=W
  have Z:=st.2
  have L:=st.1
  rw[show(n:Int)-1-(i:Int) = -1 by omega]at Z
  exact wpAny_pyNext_rev_end (I.ok.hd M) Z λh' B=>⟨rfl,I.turned (t':=s.toks) (λb o Y e=>B b o Y e) Q f1 f3 R S⟩
 self:=λ_ _ _ _ _ st h=>wpAny_pyIter_revIter st.2 h
section
variable{X:Cx}{fl:List Fl}{a:Expr}{f:FE}{pos:Pos}
noncomputable def Zm(K:PySem.W.Frag)(ta:TE):TI:=λσ H R=>ta σ H λx H1=>∃p xs,x = .ref p/\SqL K H1 p xs/\R (Itv K p xs.length) H1
theorem Us{ta:TE}(J:Gl X "reversed")(hm:X.mg "reversed"=none)(ha:PE X a ta)(D:starEach [a] X.env=(false,eval a X.env)::starEach [] X.env:=by rfl)
 (B:(backTo pos (starEach [] X.env)).any (·.1)=false:=by rfl):PI X tg (.Call (.Name "reversed" p) [a] [] pos) (Zm X.K ta):=by
 intro pins s σ H R I h
 refine wpAny_Call_Name_kw (mq I J hm boot_reversed (PyProof.Rows.callWith_type1 (thn ((jM ha nQ D) pos pins s σ H (λvs H1=>match vs with|[x]=>∃p xs,x = .ref p/\SqL X.K H1 p xs/\R (Itv X.K p xs.length) H1|_=>False) I h) λus s1 ⟨vs,H1,Y,T,q1⟩=>?_) D B))
 cases T with
 |nil=>exact q1.elim
 |cons r U=>
  cases U with
  |cons _ _=>exact q1.elim
  |nil=>
  obtain⟨l,xs,e,S,q⟩:=q1
  subst e
  cases r
  obtain⟨its,V,pl,O⟩:=Y.list S
  have N:=V.length
  refine call_reversed_list pl.isList ?_
  have P:Inv X pins σ H1 {s1 with heap:=s1.heap.push (revObj l ((its.toArray.size:Int)-1))}:=Y.kept (t':=s1.toks) λb o e=>Heap.get?_push_of_some _ e
  have Z:(s1.heap.push (revObj l ((its.toArray.size:Int)-1))).IsRevIter s1.heap.objs.size l ((its.toArray.size:Int)-1):=⟨_,Heap.get?_push_size _ rfl,rfl,rfl⟩
  refine wpAny_pyIter_revIter (s:={s1 with heap:=s1.heap.push (revObj l ((its.toArray.size:Int)-1))}) Z ?_
  have W:=Z
  rw[show(its.toArray.size:Int)-1=(xs.length:Int)-1-((0:Nat):Int)by rw[aV];omega]at W
  refine⟨s1.heap.objs.size,[s1.heap.objs.size],_,_,H1,rfl,P,K8 l s1.heap.objs.size xs.length,⟨cR _,by rw[show(xs.length:Int)-1-((0:Nat):Int)=(its.toArray.size:Int)-1 by rw[aV];omega];exact Z⟩,λb Q=>?_,q⟩
  have e:b=s1.heap.objs.size:=by simpa using Q
  subst e
  exact Y.fpOk (aL _) (Y.hok.fresh (aL _))
theorem Ut(h:DE X fl (.B L) a f)(J:Gl X "reversed")(hm:X.mg "reversed"=none)(he:starEach [a] X.env=(false,eval a X.env)::starEach [] X.env:=by rfl)
 (D:(backTo pos (starEach [] X.env)).any (·.1)=false:=by rfl):DI X fl L tg (.Call (.Name "reversed" p) [a] [] pos) (Px f):=PI.imp (Us J hm h he D) λσ H R' h=>by
 obtain⟨G,ow,δ,l,R,M,q⟩:=h
 obtain⟨d,K,T⟩:=bind1 M
 obtain⟨Z,rfl⟩:∃Z,d = .list Z:=by cases d<;>first|exact⟨_,rfl⟩|(cases T;done)
 cases T
 refine⟨G,ow,δ,_,R,K,λv H1 s r=>?_⟩
 obtain⟨a,xs,rfl,O,keep⟩:=Ac (R.grow s) r
 refine⟨a,xs,rfl,O,q _ _ s λH2 k2 i=>?_⟩
 obtain⟨U,V⟩:=keep H2 k2
 have Q:=V.length
 refine⟨λd hd=>?_,λN=>by rw[rD]at N;show xs.length<=i;omega⟩
 have hi:i<Z.length:=by
  have:=(cY.mp hd).1
  rwa[rD]at this
 rw[List.getElem?_reverse hi]at hd
 obtain⟨y,W,S⟩:=V.get hd
 rw[<-Q]at W
 refine⟨⟨by omega,xs,y,U,rfl,W⟩,λx I Y=>?_⟩
 obtain⟨e,P⟩:=Y
 subst e
 have:some y=some x:=W.symm.trans (P xs U)
 cases this
 exact⟨Same.refl _,S⟩
end
noncomputable def spL(K:PySem.W.Frag)(F:List D->Option D):Sp:=λvs H Q _=>∃ds d,(Tb H/\RAs K ok1 true H vs ds)/\F ds=some d/\∀v H',Same H H'->RA K ok1 true H' v d->Q v H'
section
variable{X:Cx}{fl:List Fl}{e:Expr}{es:List Expr}{f:FE}{pos p:Pos}{x:Str}{n:Nat}{F:List D->Option D}{fa:FA}
theorem GC(h:DE X fl .P e f):DS1 X fl (.Return (some e) pos) (qj f):=PS.imp (J3 h) λDn σ H h=>by
 obtain⟨G,ow,δ,o,R,Z,q⟩:=h
 obtain⟨d,W,Y⟩:=bind1 Z
 cases Y
 exact⟨G,ow,δ,d,R,W,λv H' s r=>q v H' (R.same0.trans s) r⟩
theorem Zn(B:(fl.all λx=>decide (x = .A))=true)(h:DE X fl .P e f):DE X fl .A e f:=nA h λHb H G ow σ δ v d R r=>by
 have Z:∀(i:Nat)(c:Fl),fl[i]? = some c->c=Fl.A:=λi c e=>by simpa using dD.mp B c (fP e)
 have ok:∀a,okA ow a:=λa=>by
  constructor
  ·intro i z
   rcases(R.own i a z).2.1 with⟨w,_⟩|⟨w,_⟩
   ·cases Z i _ w
   ·cases Z i _ w
  ·intro i z
   rcases(R.nt i a z).2.2 with⟨w,_⟩|w
   ·cases Z i _ w
   ·cases Z i _ w
 exact RA.imp (λa _=>ok a) (λz=>z) r
theorem K9(h:Has X.prog X.w X.K X.mg X.base n x ps (spL X.K F))(J:Room n X.A)(ha:DB X fl .P (e::es) fa)(O:Gl X x:=by rfl)(D:(x==("__debug__":Str))=false:=by decide)
 (W:starEach (e::es) X.env=(false,eval e X.env)::starEach es X.env:=by exact mK rfl) (B:(backTo pos (starEach es X.env)).any (·.1)=false:=by exact KD rfl) :
 DE X fl .P (.Call (.Name x p) (e::es) [] pos) (dCall F fa):=PE.imp (Ca h J ha O D W B) λσ H Q h=>by
 obtain⟨G,ow,δ,d,R,Y,q⟩:=h
 obtain⟨ds,U,V⟩:=bind1 Y
 refine⟨G,ow,δ,ds,R,U,λvs H' s r=>?_⟩
 show spL X.K F (vs++[]) H' Q E0
 rw[cM]
 exact⟨ds,d,⟨R.tb.same s,r⟩,V,λv H2 s2 Z=>q v H2 (s.trans s2) Z⟩
end
section
variable{P:Program}{w:World}{K:PySem.W.Frag}{mg:Str->Option Value}{base:Heap}{x:Str}{ps N:List Str}{st:Stmt}{k n:Nat}{fs:FS}{fl:List Fl}
theorem Ql(O:FunD K x st f fd)(S:FnScope N ps (bN st))(D:∀i,i<ps.length->fl[i]? = some .A)(J:ps.length<=N.length)
 (B:∀(f:Addr)(cdv:Value)(A:Around)(outer:List Env)(s:Shared)(H:Hp)(E:XK),Room k (A.deeper (envOfC x (bN st) s.heap.objs.size f cdv))->DSs (cx P w K mg base N x st f cdv A outer s H E) fl (iU st) fs) :
 FnOk P w K mg base CX0 (k+1) f fd ps (spL K (fnL ps.length (N.length-ps.length) fs)):=by
 refine O.ok S (λvs H Q E h=>?_) (λcdv A outer s H vs Q E W h=>?_)
 ·obtain⟨ds,d,r,Z,_⟩:=h
  unfold fnL at Z
  by_cases z:ds.length=ps.length
  ·rw[r.2.length];exact z
  ·rw[if_neg z]at Z;cases Z
 ·obtain⟨ds,d,r,Z,q⟩:=h
  refine⟨_,B f cdv A outer s H E W,?_⟩
  unfold fnL Qi at Z
  by_cases z:ds.length=ps.length
  ·rw[if_pos z]at Z
   split at Z
   ·next V e=>
    cases Z
    exact⟨_,_,_,_,lK ps.length D z J r,e,λv H' s r=>q v H' s (RA.imp (λ_ _=>trivial) (λ_=>rfl) r)⟩
   ·next c' U V e=>
    cases Z
    exact⟨_,_,_,_,lK ps.length D z J r,e,λv H' s r=>q v H' s r⟩
   ·next Y e=>
    cases Z
    exact⟨_,_,_,_,lK ps.length D z J r,e,λX σ' H' R'=>q .non H' R'.same0 .non⟩
   ·cases Z
  ·rw[if_neg z]at Z;cases Z
theorem Uu(O:Dg K mg x st ps)(S:FnScope N ps (bN st))(D:∀i,i<ps.length->fl[i]? = some .A)(J:ps.length<=N.length)
 (B:∀(f:Addr)(cdv:Value)(A:Around)(outer:List Env)(s:Shared)(H:Hp)(E:XK),Room k (A.deeper (envOfC x (bN st) s.heap.objs.size f cdv))->DSs (cx P w K mg base N x st f cdv A outer s H E) fl (iU st) fs) :
 Has P w K mg base (k+1) x ps (spL K (fnL ps.length (N.length-ps.length) fs)):=by
 obtain⟨f,fd,Z,b,m⟩:=O.ex
 exact⟨f,fd,Ql Z S D J B,b,Z.kp,m⟩
end
section
variable{P:Program}{w:World}{K:PySem.W.Frag}{mg:Str->Option Value}{base:Heap}{x:Str}{ps:List Str}{st:Stmt}{n:Nat}
end
end D3
namespace D3
open PySem PySem.Spec PyProof.Rows L2 My
section
variable{K:PySem.W.Frag}{fl flA:List Fl}{G:Gh}{ow:Ow}{σ σ':St}{H H1:Hp}{δ:DS}{T:List Nat}
end
section
variable{X:Cx}{fl flA:List Fl}{e:Expr}{es:List Expr}{f:FE}{fa:FA}{pos:Pos}
end
section
variable{X:Cx}{fl:List Fl}{pos:Pos}
end
end D3
namespace XS
open PySem PySem.W PyProof.Rows
noncomputable def dI{α:Type}(lt:Nat->Nat->Bool):KasT α->α
 | .ret a=>a
 | .ask i j k=>dI lt (k (lt i j))
noncomputable def mX{α:Type}(n:Nat)(R:α->Prop):KasT α->Prop
 | .ret a=>R a
 | .ask i j k=>i<n/\j<n/\∀b,mX n R (k b)
section
variable{α β:Type}{n:Nat}{R:α->Prop}{R':β->Prop}{lt:Nat->Nat->Bool}
theorem mO(f:α->KasT β):∀t:KasT α,dI lt (t.bind f)=dI lt (f (dI lt t))
 | .ret _=>rfl
 | .ask _ _ k=>mO f (k _)
theorem mQ{f:α->KasT β}(B:∀a,R a->mX n R' (f a)):∀t:KasT α,mX n R t->mX n R' (t.bind f)
 | .ret a,h=>B a h
 | .ask _ _ k,h=>⟨h.1,h.2.1,λb=>mQ B (k b) (h.2.2 b)⟩
theorem CJ:∀t:KasT α,mX n R t->R (dI lt t)
 | .ret _,h=>h
 | .ask _ _ k,h=>CJ (k _) (h.2.2 _)
theorem GD{B:Nat->Nat->(Bool->Shared->Prop)->Shared->Prop}{G:α->Shared->Prop}(D:∀i j C,i<n->j<n->C (lt i j) s->B i j C s):
 ∀t:KasT α,mX n R t->G (dI lt t) s->t.kasWp B G s
 | .ret _,_,q=>q
 | .ask _ _ k,h,q=>D _ _ _ h.1 h.2.1 (GD D (k _) (h.2.2 _) q)
end
noncomputable def good(n:Nat)(p:Array Nat):Prop:=p.Perm (bC n).toArray
section
variable{n:Nat}{p:Array Nat}
theorem good.mem(g:good n p){x:Nat}(h:x∈p.toList):x<n:=by
 have:x∈(bC n):=by
  have:=(dN.mp g).mem_iff.mp h
  simpa using this
 exact bH.mp this
theorem good.get(g:good n p)(B:0<n)(i:Nat):p.getD i 0<n:=by
 unfold Array.getD
 split
 ·exact g.mem (by simp)
 ·exact B
theorem good.rev(g:good n p)(i j:Nat):good n (kas_rev p i j):=(mirror_perm _ _ _ _).trans g
theorem good.bub(g:good n p)(i j:Nat):good n (bubble p i j):=(bubble_perm _ _ _).trans g
theorem wZ(B:0<n)(g:good n p):∀f a,mX n (λ_=>True) (kas_asc p f a)
 |0,a=>trivial
 |f+1,a=>⟨g.get B _,g.get B _,λb=>by
  cases b
  ·exact wZ B g f (a+1)
  ·trivial⟩
theorem qQ(B:0<n):∀f (p:Array Nat) a q,good n p->mX n (λr=>good n r.1) (kas_desc f p a q)
 |0,p,a,q,g=>g
 |f+1,p,a,q,g=>by
  refine⟨g.get B _,g.get B _,λb=>?_⟩
  cases b
  ·refine⟨g.get B _,g.get B _,λc=>?_⟩
   cases c
   ·exact qQ B f p (a+1) (q+1) g
   ·exact g
  ·show mX n _ (if q>0 then _ else _)
   split
   ·exact qQ B f _ _ _ (g.rev _ _)
   ·exact qQ B f _ _ _ g
theorem xg(B:0<n)(g:good n p)(a m:Nat):mX n (λr=>good n r.2) (kas_tail3 a m p):=by
 unfold kas_tail3
 refine mQ (R:=λ_=>True) (λc _=>?_) _ (wZ B (g.rev _ _) _ _)
 show good n (kas_rev p 0 a)
 exact g.rev _ _
theorem zc(B:0<n)(g:good n p)(a m:Nat):mX n (λr=>good n r.2) (kas_descPart a m p):=
 mQ (R:=λr=>good n r.1) (λr h=>by
  split
  ·exact xg B (good.rev h _ _) _ _
  ·exact xg B h _ _) _ (qQ B _ _ _ _ g)
theorem Fp(B:0<n)(g:good n p)(m:Nat):mX n (λr=>good n r.2) (kas_count m p):=
 mQ (R:=λ_=>True) (λa _=>by
  split
  ·exact g
  ·split
   ·refine⟨g.get B _,g.get B _,λb=>?_⟩
    cases b
    ·exact zc B (g.rev _ _) _ _
    ·exact g
   ·exact zc B g _ _) _ (wZ B g _ _)
theorem sU(B:0<n)(g:good n p)(k:Nat):∀f l r,mX n (λ_=>True) (kas_place p k f l r)
 |0,l,r=>trivial
 |f+1,l,r=>by
  unfold kas_place
  split
  ·trivial
  ·refine⟨g.get B _,g.get B _,λb=>?_⟩
   cases b
   ·exact sU B g k f _ _
   ·exact sU B g k f _ _
theorem CK(B:0<n):∀f (p:Array Nat) k,good n p->mX n (good n) (kas_bin f p k)
 |0,p,k,g=>g
 |f+1,p,k,g=>mQ (R:=λ_=>True) (λl _=>CK B f _ _ (g.bub _ _)) _ (sU B g k _ _ _)
theorem zf(B:0<n):mX n (good n) (kas_sort n):=
 mQ (R:=λr=>good n r.2) (λr h=>by
  split
  ·exact CK B _ _ _ h
  ·exact h) _ (Fp B (Array.Perm.refl _) n)
end
noncomputable def sV(n:Nat)(lt:Nat->Nat->Bool):List Nat:=(dI lt (kas_sort n)).toList
theorem oU(B:0<n)(lt:Nat->Nat->Bool):(sV n lt).Perm (bC n):=by
 have:good n (dI lt (kas_sort n)):=CJ _ (zf B)
 have:=dN.mp this
 simpa[sV]using this
open D3
end XS
variable{h':Heap}
namespace XS
open PySem PySem.Spec PySem.W PyProof.Rows L2 My D3
theorem zj(x:gP P w H h a o):∃u,h.get? a=some u:=by
 cases o with
 |lst xs=>obtain⟨_,_,_,_,e⟩:=x;exact⟨_,e⟩
 |tup xs=>obtain⟨_,_,_,u,e,_⟩:=x;exact⟨_,e⟩
 |dK kvs=>obtain⟨_,_,_,_,u,_,_,e,_⟩:=x;exact⟨_,e⟩
 |dT kvs=>obtain⟨_,_,_,_,u,_,_,e,_⟩:=x;exact⟨_,e⟩
 |set S n=>obtain⟨u,_,_,_,e,_⟩:=x;exact⟨_,e⟩
 |ins C dx fs=>obtain⟨_,_,_,e,_⟩:=x;exact⟨_,e⟩
 |own y=>exact x
 |xd fs=>obtain⟨_,⟨u,_,_,e,_⟩,_⟩:=x;exact⟨_,e⟩
 |met f y=>exact⟨_,x⟩
 |rng lo hi=>obtain⟨_,_,_,e⟩:=x;exact⟨_,e⟩
 |frz u v=>exact⟨_,x.1⟩
 |tbl q p=>obtain⟨_,e,_⟩:=x;exact⟨_,e⟩
 |ext φ=>exact x.2.1
section
variable{X:Cx}{pins:List (Addr×Obj)}{σ:L2.St}{H:Hp}{s:Shared}
theorem Uv{L:Addr}{B:Str->Option Value}(a:h.Ns L m)(b:h.Ns L B):m=B:=by
 obtain⟨o,es,ep,e,d,_,f⟩:=a
 obtain⟨o',W,V,Z,Y,_,X⟩:=b
 rw[e]at Z;cases Z
 rw[d]at Y;cases Y
 funext x
 rw[<-f,<-X]
theorem Qm{D:Addr}(I:Inv X pins σ H s)(hm:s.heap.Ns X.env.locals m)(B:h'.Ns X.env.locals m)(k:∀b u,b≠X.env.locals->s.heap.get? b=some u->h'.get? b=some u)
 (O:s.heap.get? D=none) (J:gP X.prog X.w (upd H D o) h' D o):Inv X pins σ (upd H D o) {s with heap:=h'}:=by
 have hn:H D=none:=by
  cases e:H D with
  |none=>rfl
  |some u=>
   obtain⟨w,hw⟩:=zj (I.hok D u e)
   rw[O]at hw;cases hw
 have ne:∀{b u},H b=some u->b≠D:=λe=>jr e hn
 refine I.step (g':=s.gens) (d':=s.drawn) (t':=s.toks) (ch:=[]) (λb V=>by cases V) (λb u Z _ _ e _=>k b u Z e) (λb u Z _ _ e _=>⟨u.slots,k b u Z e⟩) (λb u _ e n=>?_) (λb u _ e=>?_)
  (λb xs e=>by rw[cJ (ne e)];exact e) (λb u v e=>by rw[cJ (ne e)];exact e) (λb q p e=>by rw[cJ (ne e)];exact e) (λU h2=>by rw[<-Uv hm h2];exact B) (λb u e=>?_) I.bare
 ·rw[cJ (λz=>by rw[z,O]at e;cases e)];exact n
 ·by_cases z:b=X.env.locals
  ·obtain⟨w,_,_,hw,_⟩:=B
   exact⟨w,by rw[z];exact hw⟩
  ·exact⟨u,k b u z e⟩
 ·by_cases z:b=D
  ·subst z
   rw[dj]at e
   cases e
   exact J
  ·rw[cJ z]at e
   refine(I.hok b u e).stay (λc w W q=>k c w (λy=>?_) q) (λc q=>by rw[cJ (ne q)];exact q) λc xs q=>by rw[cJ (ne q)];exact q
   rcases W with rfl|Y
   ·rw[y,I.free]at e;cases e
   ·rw[y,I.free]at Y;cases Y
end
section
variable{prog:Program}{w:World}{A:Around}{E:Value->Shared->Prop}{s:Shared}
end
end XS
namespace XS
open PySem PySem.Spec PySem.W PyProof.Rows L2 My D3
section
variable{X:Cx}{pins:List (Addr×Obj)}{σ:L2.St}{H:Hp}{s:Shared}
end
end XS
namespace XS
open PySem PySem.Spec PySem.W PyProof.Rows L2 My D3
section
variable{prog:Program}{w:World}{A:Around}{E:Value->Shared->Prop}{s:Shared}
theorem K_{v:Value}{P:PySem.Fin->Shared->Prop}(B:s.heap.get? a=some (seqObj "list" #[v] n))
 (h:∀h' c,(∀b u,b≠a->s.heap.get? b=some u->h'.get? b=some u)->h'.get? a=some (seqObj "list" #[v] c)->P (.done (.ret .none)) {s with heap:=h'}) :
 wpAny (model prog w) A (Builtin.«list.sort» ⟨[.ref a],[]⟩) P E s:=by
 obtain⟨Z,V⟩:∃Z,Z=s.heap.update a (Obj.mapSeq λ_=>(#[]:Array Value)):=⟨_,rfl⟩
 obtain⟨U,h1⟩:∃c,Z.get? a=some (seqObj "list" #[] c):=⟨_,by rw[V];exact get?_update_seq B λ_=>#[]⟩
 have k1:∀b u,b≠a->s.heap.get? b=some u->Z.get? b=some u:=λb u z q=>by rw[V];exact(Heap.get?_update_ne _ _ _ _ z).trans q
 rw[list_sort_plain]
 refine wpAny_bind (listItems_at B rfl ?_)
 refine wpAny_bind (listUpdate_at B rfl ?_ (show 1<=sizeLine by decide) (cR _))
 rw[<-V]
 refine wpAny_bind (seqEpoch_at h1 rfl ?_)
 refine wpAny_bind (wpAny_newTuple ?_ (show 1<=sizeLine by decide))
 refine wpAny_bind (wpAny_newList ?_ (cR _))
 refine wpAny_holding ?_
 obtain⟨Y,W⟩:∃Y,Y=(Z.push (seqObj "tuple" #[v] 0)).push (seqObj "list" #[] 0):=⟨_,rfl⟩
 show wpAny (model prog w) A _ P E {s with heap:=(Z.push (seqObj "tuple" #[v] 0)).push (seqObj "list" #[] 0)}
 rw[<-W]
 have h2:Y.get? a=some (seqObj "list" #[] U):=by rw[W];exact Heap.get?_push_of_some _ (Heap.get?_push_of_some _ h1)
 have k2:∀b u,b≠a->s.heap.get? b=some u->Y.get? b=some u:=λb u z q=>by rw[W];exact Heap.get?_push_of_some _ (Heap.get?_push_of_some _ (k1 b u z q))
 have two:(#[v]:Array Value).size<2:=gM 1
 have X:(arrOf (SortSt.mk' general' ((#[v]:Array Value).zip #[v]) #[] 7 none)).map (·.2) = #[v]:=by
  show((#[v]:Array Value).zip #[v]).map (·.2) = #[v]
  simp
 dsimp only
 rw[if_pos two,if_pos two]
 refine wpAny_bind (wpAny_pure ?_)
 refine wpAny_bind (wpAny_pure ?_)
 dsimp only
 rw[X]
 refine wpAny_bind (seqEpoch_at h2 rfl ?_)
 refine wpAny_bind (listUpdate_at h2 rfl ?_ (cR _) (show 1<=sizeLine+1 by decide))
 show wpAny _ _ (if(U != U)=true then _ else ret Value.none) P E _
 rw[if_neg (by simp)]
 refine wpAny_pure (h _ _ (λb u z q=>(Heap.get?_update_ne _ _ _ _ z).trans (k2 b u z q)) (get?_update_seq h2 _))
end
section
variable{X:Cx}
end
end XS
namespace XS
open PySem PySem.Spec PySem.W PyProof.Rows L2 My D3
section
variable{K:PySem.W.Frag}{H:Hp}
theorem CN:∀{l:List D},flats l=true->∀i,flat (l.getD i .none)=true
 |[],_,i=>by simp[flat]
 |d::l,h,0=>by rw[flats,aU]at h;exact h.1
 |d::l,h,i+1=>by
  rw[flats,aU]at h
  simpa using CN h.2 i
theorem GF:∀{ys:List V}{l:List D}{ok:Ok}{pl:Bool},RAs K ok pl H ys l->∀i,RA K ok pl H (ys.getD i .non) (l.getD i .none)
 |_,_,_,_,.nil,i=>by simp;exact .non
 |_,_,_,_,.cons a b,0=>a
 |_,_,_,_,.cons a b,i+1=>by simpa using GF b i
end
end XS
namespace XS
open PySem PySem.Spec PySem.W PyProof.Rows
section
variable{prog:Program}{w:World}{A:Around}{E:Value->Shared->Prop}{s:Shared}
structure PL(h:Heap)(D I l:Addr)(its:Array Value)(vs:List (L2.Key×Value))(i:Nat):Prop where
 iter:h.IsListIter I l i
 lst:h.IsList l its
 prs:∀(j:Nat)(u:Value),its[j]? = some u->∃(a:Addr)(n:Int)(t:Tok)(v:Value),u=Value.ref a/\IsTup h a #[Value.int n t,v]/\vs[j]? = some (Sum.inl n,v)/\a≠D/\a≠I
 ne:l≠D/\l≠I/\D≠I
end
end XS
namespace XS
open PySem PySem.Spec PySem.W PyProof.Rows
section
variable{prog:Program}{w:World}{A:Around}{E:Value->Shared->Prop}{s:Shared}
end
end XS
namespace XS
open PySem PySem.Spec PySem.W PyProof.Rows L2 My D3
section
variable{X:Cx}{pins:List (Addr×Obj)}{σ:L2.St}{H:Hp}{s:Shared}
end
end XS
namespace XS
open PySem PySem.Spec PySem.W PyProof.Rows L2 My D3
section
variable{X:Cx}{fl:List Fl}{a:Expr}{f:FE}{pos:Pos}{ta:TE}
end
end XS
namespace D3
open PySem
end D3
namespace D3
open PySem
end D3
namespace D3
open PySem
end D3
namespace D3
open PySem
noncomputable def Qn:D->Option Nat
 | .list l=>some l.length
 |_=>none
noncomputable def ndT:D->Bool
 | .tuple ds=>ds.all fl1&&decide ((ds.filterMap Qn).Nodup)
 |_=>false
noncomputable def dNd(fa:FE):FE:=λδ=>(fa δ).bind λd=>if ndT d=true then some d else none
end D3
namespace D3
open PySem
end D3
namespace D3
open PySem
noncomputable def tsD:List (D×D)->Option (List (List Int))
 |[]=>some []
 | (.tuple l,.bool true)::r=>(dX l).bind λk=>(tsD r).map (k :: ·)
 |_=>none
noncomputable def Zo:D->Option (List (List Int))
 | .dict kvs=>tsD kvs
 |_=>none
noncomputable def CP:D->Option (List Int)
 | .tuple l=>dX l
 |_=>none
theorem GJ:∀ns:List Int,dX (ns.map PyData.int)=some ns
 |[]=>rfl
 |n::r=>by
  rw[bf,dX,GJ r]
  rfl
theorem Xk:∀S:List (List Int),tsD (S.map λk=>((.tuple (k.map .int),.bool true):D×D))=some S
 |[]=>rfl
 |k::S=>by
  rw[bf,tsD,Xk S,GJ]
  rfl
end D3
namespace D3
open PySem
end D3
namespace D3
open PySem
end D3
namespace D3
open PySem
end D3
namespace D3
open PySem
end D3
namespace D3
open PySem
noncomputable abbrev Tte:=List Int×List Int×Int
noncomputable def xq:List (D×D)->Option (List Tte)
 |[]=>some []
 | (.tuple l,.tuple [.tuple m,.int z])::r=>(dX l).bind λk=>(dX m).bind λv=>(xq r).map ((k,v,z) :: ·)
 |_=>none
noncomputable def Je:D->Option (List Tte)
 | .dict kvs=>xq kvs
 |_=>none
noncomputable def rwD(k:List Int):D:=.tuple (k.map .int)
noncomputable def ttV(q:List Int×Int):D:=.tuple [rwD q.1,.int q.2]
noncomputable def ttP(S:List Tte):List (D×D):=S.map λq=>(rwD q.1,ttV q.2)
noncomputable def dtt(S:List Tte):D:=.dict (ttP S)
noncomputable def nZ(S:List Tte)(k:List Int):Option (List Int×Int):=(S.find? λq=>decide (q.1=k)).map (·.2)
noncomputable def jW:D->D->Option D:=λx y=>(Je x).bind λS=>(CP y).bind λk=>(nZ S k).map ttV
noncomputable def Jf:D->Option (List Int×Int)
 | .tuple [.tuple m,.int z]=>(dX m).map (·,z)
 |_=>none
noncomputable def pG(S:List Tte)(k:List Int)(v:List Int×Int):List Tte:=if(nZ S k).isSome=true then S else S++[(k,v)]
noncomputable def qm(i:Nat)(fk fv:FE):FS:=λδ=>(aj i δ).bind λx=>(fk δ).bind λy=>(fv δ).bind λz=>(Je x).bind λS=>(CP y).bind λk=>(Jf z).bind λv=>if S.length<1000000 then some (.nx (δ.set i (some (.d (dtt (pG S k v))))))else none
theorem nF:∀ns:List Int,dX (ns.map PyData.int)=some ns
 |[]=>rfl
 |n::r=>by
  rw[bf,dX,nF r]
  rfl
theorem Ak:∀S:List Tte,xq (ttP S)=some S
 |[]=>rfl
 |q::S=>by
  show(dX (q.1.map PyData.int)).bind (λk=>(dX (q.2.1.map PyData.int)).bind λv=>(xq (ttP S)).map ((k,v,q.2.2) :: ·))=_
  rw[nF,aM,nF,aM,Ak S]
  rfl
theorem pH:∀{l:List D}{k:List Int},dX l=some k->l=k.map PyData.int
 |[],k,h=>by cases h;rfl
 |d::l,k,h=>by
  cases d with
  |int i=>
   unfold dX at h
   cases e:dX l with
   |none=>rw[e]at h;cases h
   |some r=>
    rw[e]at h
    cases h
    rw[pH e]
    rfl
  |_=>unfold dX at h;cases h
theorem GK:∀{kvs:List (D×D)}{S:List Tte},xq kvs=some S->kvs=ttP S
 |[],S,h=>by cases h;rfl
 | (a,b)::r,S,h=>by
  unfold xq at h
  split at h
  ·next e=>cases e
  ·next e=>
   cases e
   obtain⟨k,X,h⟩:=n8.mp h
   obtain⟨v,Y,h⟩:=n8.mp h
   cases Z:xq r with
   |none=>rw[Z]at h;cases h
   |some W=>
    rw[Z]at h
    cases h
    rw[pH X,pH Y,GK Z]
    rfl
  ·cases h
theorem CQ(S:List Tte):Je (dtt S)=some S:=Ak S
theorem Al{x:D}{S:List Tte}(h:Je x=some S):x=dtt S:=by
 cases x with
 |dict kvs=>rw[GK (show xq kvs=some S from h)];rfl
 |_=>cases h
theorem Qo{x:D}{v:List Int×Int}(h:Jf x=some v):x=ttV v:=by
 unfold Jf at h
 split at h
 ·next m z=>
  cases e:dX m with
  |none=>rw[e]at h;cases h
  |some k=>
   rw[e]at h
   cases h
   rw[pH e]
   rfl
 ·cases h
end D3
namespace D3
open PySem
noncomputable def n6:List Int->List Int->Bool
 |[],[]=>false
 |[],_::_=>true
 |_::_,[]=>false
 |x::xs,y::ys=>if x=y then n6 xs ys else decide (x<y)
noncomputable def vd:D->Option (List (List Int))
 | .dict kvs=>match xq kvs with
  |some S=>some (S.map (·.1))
  |none=>tsD kvs
 |_=>none
noncomputable def Jg(f:FE)(fl fh:FO):FE:=λδ=>(f δ).bind λx=>(fl δ).bind λlo=>(fh δ).bind λhi=>match x with
 | .tuple l=>if flats l=true then some (.tuple (cutD l lo hi))else none
 |_=>none
noncomputable def CT:List D->Option D
 |[.tuple l]=>match dX l with
  |some (i::r)=>some (.int (mxI i r))
  |_=>none
 |_=>none
noncomputable def Fq(f:FE):FA:=λδ=>(f δ).bind λx=>match x with
 | .tuple l=>some (lG l)
 |_=>none
noncomputable def uK:D->D->Option D:=λx y=>match x,y with
 | .list l,.list m=>if l.length<=1000 then some (.list (mz l m))else none
 |_,_=>none
end D3
namespace L2
open PySem PySem.Spec PyProof.Rows
section
variable{κ:Type}[DecidableEq κ]
noncomputable def oV(kvs:List (κ×V))(k:κ):Option V:=(kvs.find? λZ=>decide (Z.1=k)).map (·.2)
noncomputable def putK(kvs:List (κ×V))(k:κ)(v:V):List (κ×V):=
 if(kvs.any λZ=>decide (Z.1=k))=true then kvs.map (λZ=>if Z.1=k then(Z.1,v)else Z)else kvs++[(k,v)]
theorem xr{p:κ×V}{r:List (κ×V)}{k:κ}(e:p.1=k):oV (p::r) k=some p.2:=by simp[oV,iZ,e]
theorem xu{p:κ×V}{r:List (κ×V)}{k:κ}(e:¬p.1=k):oV (p::r) k=oV r k:=by simp[oV,iZ,e]
theorem v7.getD{o:Option V}{u:Option Value}{d:V}{d':Value}(r:v7 o u)(rd:RelV d d'):RelV (o.getD d) (u.getD d'):=by
 cases o with
 |none=>cases u with
  |none=>exact rd
  |some _=>exact(show False from r).elim
 |some _=>cases u with
  |none=>exact(show False from r).elim
  |some _=>exact r
theorem KV.val{kvs:List (κ×V)}{vs:List (κ×Value)}(r:KV kvs vs)(k:κ):v7 (oV kvs k) (valueAt vs k):=by
 unfold KV at r
 induction r with
 |nil=>exact True.intro
 | @cons p q ps Z h t X=>
  obtain⟨h1,h2⟩:=h
  by_cases e:p.1=k
  ·have Y:q.1=k:=h1.symm.trans e
   have b:valueAt (q::Z) k=some q.2:=by simp[valueAt,iZ,Y]
   rw[xr e,b];exact h2
  ·have Y:¬q.1=k:=λz=>e (h1.trans z)
   have b:valueAt (q::Z) k=valueAt Z k:=by simp[valueAt,iZ,Y]
   rw[xu e,b];exact X
theorem KV.keys{kvs:List (κ×V)}{vs:List (κ×Value)}(r:KV kvs vs):kvs.map (·.1)=vs.map (·.1):=by
 unfold KV at r
 induction r with
 |nil=>rfl
 |cons h t Z=>rw[bf,bf,Z,h.1]
theorem KV.length{kvs:List (κ×V)}{vs:List (κ×Value)}(r:KV kvs vs):kvs.length=vs.length:=Paired.length r
end
theorem Sv{k:Key}{u:Value}(r:RelV (kV k) u):(iT P w).is k u=true:=by
 cases k with
 |inl i=>obtain⟨t,e⟩:=(show ∃t,u=Value.int i t from r);subst e;exact Bv P w i t
 |inr x=>obtain⟨t,e⟩:=(show ∃t,u=Value.str x t from r);subst e;exact Bw P w x t
theorem zm:∀{ks:List Key}{us:List Value},Vals (ks.map kV) us->ItemsAre (iT P w) ks us
 |[],_,r=>by rw[o7]at r;cases r;exact .nil
 |k::ks,_,r=>by
  rw[bf]at r
  cases r with
  |cons h t=>exact .cons (Sv h) (zm t)
noncomputable abbrev KT(H:Hp):List (List Key×V)->List (List Key×Addr×Value)->Prop:=Paired λp q=>p.1=q.1/\H q.2.1=some (.tup (p.1.map kV))/\RelV p.2 q.2.2
theorem KT.val{kvs:List (List Key×V)}{xs:List (List Key×Addr×Value)}(r:KT H kvs xs)(k:List Key):v7 (oV kvs k) ((atKey xs k).map (·.2)):=by
 induction r with
 |nil=>exact True.intro
 | @cons p q ps Z h t X=>
  obtain⟨h1,_,h2⟩:=h
  by_cases e:p.1=k
  ·have Y:q.1=k:=h1.symm.trans e
   have b:atKey (q::Z) k=some q.2:=by simp[atKey,iZ,Y]
   rw[xr e,b];exact h2
  ·have Y:¬q.1=k:=λz=>e (h1.trans z)
   have b:atKey (q::Z) k=atKey Z k:=by simp[atKey,iZ,Y]
   rw[xu e,b];exact X
theorem KT.keeps{kvs:List (List Key×V)}{xs:List (List Key×Addr×Value)}(r:KT H kvs xs)(B:∀b ys,H b=some (.tup ys)->H' b=some (.tup ys)):KT H' kvs xs:=
 Paired.mapP r λ_ _ z=>⟨z.1,B _ _ z.2.1,z.2.2⟩
section
variable{P:Program}{w:World}{H:Hp}{h:Heap}{a:Addr}
theorem Sw(ok:HOk P w H h)(e:Rd H a u):gP P w H h a u:=e.ok ok
theorem zq{kvs:List (Key×V)}(ok:HOk P w H h)(e:Rd H a (.dK kvs)):kvs.length<=sizeLine/\(a==sysModules)=false/\∃vs,KV kvs vs/\h.DictOf (iT P w) a vs:=
 show gP P w H h a (.dK kvs)from Sw ok e
theorem Xl{kvs:List (Key×V)}(ok:HOk P w H h)(e:H a=some (.dK kvs)):kvs.length<=sizeLine/\(a==sysModules)=false/\∃vs,KV kvs vs/\h.DictOf (iT P w) a vs:=zq ok (.inl e)
theorem Ft{ks:List Key}(ok:HOk P w H h)(e:H a=some (.tup (ks.map kV))):(tupleKind (iT P w)).is h ks a:=by
 obtain⟨_,its,r,o,h1,h2,n,Z⟩:=(show gP P w H h a (.tup (ks.map kV))from ok a _ e)
 exact⟨o,its.toArray,n,h1,h2,Z,by simpa using zm r⟩
theorem zu{kvs:List (List Key×V)}(ok:HOk P w H h)(e:Rd H a (.dT kvs)):kvs.length<=sizeLine/\(a==sysModules)=false /\
 ∃xs,KT H kvs xs/\h.DictOfH (tupleKind (iT P w)) a xs:=by
 obtain⟨z,y,xs,r,o,es,ep,h1,h2,T,U,W⟩:=(show gP P w H h a (.dT kvs)from Sw ok e)
 refine⟨z,y,xs,r,o,es,ep,h1,h2,T,U,λx Z=>?_,W⟩
 have all:∀{l:List (List Key×V)}{m:List (List Key×Addr×Value)},KT H l m->∀x∈m,(tupleKind (iT P w)).is h x.1 x.2.1:=by
  intro l m q
  induction q with
  |nil=>intro x Z;exact nomatch Z
  | @cons p q ps S Y t X=>
   intro x Z
   rcases aW.mp Z with e|Z
   ·subst e
    exact Ft ok (by rw[<-Y.1];exact Y.2.1)
   ·exact X x Z
 exact all r x Z
theorem Xm{kvs:List (List Key×V)}(ok:HOk P w H h)(e:H a=some (.dT kvs)):kvs.length<=sizeLine/\(a==sysModules)=false /\
 ∃xs,KT H kvs xs/\h.DictOfH (tupleKind (iT P w)) a xs:=zu ok (.inl e)
end
noncomputable def Fv(H:Hp)(a:Addr)(y:V)(r:Option V):Prop:=
 (∃kvs k,Rd H a (.dK kvs)/\y=kV k/\r=oV kvs k)\/∃kvs k b,Rd H a (.dT kvs)/\y = .ref b/\H b=some (.tup (k.map kV))/\r=oV kvs k
noncomputable def Qq(H:Hp)(a:Addr)(y v:V)(H':Hp):Prop:=
 (∃kvs k,H a=some (.dK kvs)/\y=kV k/\kvs.length<sizeLine/\H'=upd H a (.dK (putK kvs k v))) \/
 ∃kvs k b,H a=some (.dT kvs)/\y = .ref b/\H b=some (.tup (k.map kV))/\kvs.length<sizeLine/\H'=upd H a (.dT (putK kvs k v))
theorem Fv.k{kvs:List (Key×V)}{k:Key}(e:H a=some (.dK kvs)):Fv H a (kV k) (oV kvs k):=.inl ⟨kvs,k,.inl e,rfl,rfl⟩
theorem Fv.t{kvs:List (List Key×V)}{k:List Key}(e:H a=some (.dT kvs))(B:H b=some (.tup (k.map kV))):Fv H a (.ref b) (oV kvs k):=.inr ⟨kvs,k,b,.inl e,rfl,B,rfl⟩
theorem Qq.k{kvs:List (Key×V)}{k:Key}(e:H a=some (.dK kvs))(B:kvs.length<sizeLine):Qq H a (kV k) v (upd H a (.dK (putK kvs k v))):=.inl ⟨kvs,k,e,rfl,B,rfl⟩
theorem Qq.t{kvs:List (List Key×V)}{k:List Key}(e:H a=some (.dT kvs))(D:H b=some (.tup (k.map kV)))(B:kvs.length<sizeLine):
 Qq H a (.ref b) v (upd H a (.dT (putK kvs k v))):=.inr ⟨kvs,k,b,e,rfl,D,B,rfl⟩
section
variable{X:Cx}{pins:List (Addr×Obj)}{σ:St}{H:Hp}{s:Shared}{a:Addr}{y v:V}{u r:Value}{o:Option V}{A:Around}{E:Value->Shared->Prop}
theorem Jh(J:A.units+1<cLine)(I:Inv X pins σ H s)(g:Fv H a y (some v))(D:RelV y u)(h:∀B s',Inv X pins σ H s'->RelV v B->Q B s'):
 wpAny (model X.prog X.w) A (getItem (.ref a) u) Q E s:=by
 rcases g with⟨kvs,k,e,W,l⟩|⟨kvs,k,b,e,W,T,l⟩
 ·subst W
  obtain⟨z,hd,vs,rel,V⟩:=zq I.hok e
  obtain⟨B,hw,Z⟩:=v7.some_of (v:=v) (o:=valueAt vs k) (by rw[l];exact rel.val k)
  exact wpAny_getItem_of (Sv D) V.mapOf hw (h B _ (I.tok _) Z)
 ·subst W
  cases(show u=Value.ref b from D)
  obtain⟨z,hd,xs,rel,V⟩:=zu I.hok e
  obtain⟨B,hw,Z⟩:=v7.some_of (v:=v) (o:=(atKey xs k).map (·.2)) (by rw[l];exact rel.val k)
  obtain⟨p,U,Y⟩:=Option.map_eq_some_iff.mp hw
  refine wpAny_getItem_heap (tupleKind_room_in1 J) (Ft I.hok T) V U ?_
  rw[Y]
  exact h B _ (I.tok _) Z
theorem GP{B:HO}(I:Inv X pins σ H s)(J:Mut (H a))(hs:Heap.SameBut a s.heap h')(O:∃q,h'.get? a=some q)(D:gP X.prog X.w (upd H a B) h' a B):
 Inv X pins σ (upd H a B) {s with heap:=h',toks:=t'}:=
 I.write (x:=a) (e:=a) J (.inl rfl) (λb q Z z=>(hs.2 b Z).trans z) O D
end
section
variable{X:Cx}{pins:List (Addr×Obj)}{σ:St}{H:Hp}{s:Shared}{a:Addr}{kvs:List (Key×V)}{k:Key}{u:Value}{A:Around}{E:Value->Shared->Prop}
theorem Xn(I:Inv X pins σ H s)(e:Rd H a (.dK kvs))(h:∀t s',Inv X pins σ H s'->Q (.int kvs.length t) s'):wpAny (model X.prog X.w) A (call (.builtin "len") [.ref a]) Q E s:=by
 obtain⟨z,hd,vs,rel,Z⟩:=zq I.hok e
 refine call_len_dict hd Z (by rw[<-rel.length];rw[sizeLine_eq]at z;omega) ?_
 rw[<-rel.length]
 exact h _ _ (I.tok _)
end
noncomputable def Uw(i:Expr):Prop:=∀Z Y,subscripted i false Z Y=operate [Z,Y] (getItem Z Y)
theorem Qs{value slice:Expr}{id:String}
 (J:typeLookup (.type T) "__getitem__"=pure (some (.builtin id))) (hs:Uw slice)
 (h:wpAny (model prog w) A (eval value env) (λo D=>wpAny (model prog w) A (eval slice env) (λi B=>B.TypeIs o T/\wpAny (model prog w) A (getItem o i) Q E B) E D) E s) :
 wpAny (model prog w) A (eval (.Subscript value slice pos) env) Q E s:=by
 refine Subscript_ (wpAny_mono h (λo D W=>wpAny_mono W (λi B Z=>?_) λ_ _ x=>x) λ_ _ x=>x)
 obtain⟨V,Z⟩:=Z
 unfold subscriptTail
 refine wpAny_bind ?_
 rw[getitemInPython_of_ne V.not_modules]
 refine wpAny_bind (wpAny_specialOf V J ?_)
 have fin:wpAny (model prog w) A (subscripted slice false o i) (λr Y=>wpAny (model prog w) A (letTemporaryGo value o r >>= λ_=>pure r) Q E Y) E B:=by
  rw[hs o i]
  exact wpAny_operating (wpAny_mono Z (λr Y X=>wpAny_bind (wpAny_letTemporaryGo (wpAny_pure X))) λ_ _ x=>x)
 first
  |exact wpAny_pure (wpAny_bind fin)
  |exact wpAny_bind (wpAny_pure (wpAny_bind fin))
  |exact wpAny_bind fin
theorem CV{σ:St}{o:Option V}(I:Inv X pins σ H s)(g:Fv H a y o):s.TypeIs (.ref a) "dict" := by
 rcases g with⟨kvs,k,e,_,_⟩|⟨kvs,k,b,e,_,_,_⟩
 ·obtain⟨_,_,vs,_,Z⟩:=zq I.hok e
  exact Z.typeIs
 ·obtain⟨_,_,xs,_,Z⟩:=zu I.hok e
  exact Z.typeIs
noncomputable def Xo(td ty:TE):TE:=λσ H Q=>td σ H λx H1=>ty σ H1 λy H2=>∃a v,x = .ref a/\Fv H2 a y (some v)/\Q v H2
section
variable{X:Cx}{o i e value:Expr}{pos pos' tpos:Pos}{td ty tv:TE}
theorem Qt(B:X.A.units+1<cLine)(D:PE X o td)(hi:PE X i ty)(hs:Uw i):PE X (.Subscript o i pos) (Xo td ty):=by
 intro pins s σ H Q I h
 refine Qs PySem.F.slot_dict_getitem.lookup hs (thn (D pins s σ H _ I h) λu s1 ⟨x,H1,T,V,q1⟩=>thn (hi pins s1 σ H1 _ T q1) λR s2 ⟨y,H2,Y,W,a,v,ex,g,q2⟩=>?_)
 subst ex
 obtain rfl:u=Value.ref a:=V
 exact⟨CV Y g,Jh B Y g W λS s3 U Z=>⟨v,H2,U,Z,q2⟩⟩
end
section
variable{X:Cx}{pos:Pos}
end
structure M1(X:Cx)(o:Expr)(m:Str)(apos:Pos)(e:Expr)(cpos:Pos):Prop where
 base:attributeBase o m X.env (eval o X.env)=eval o X.env
 few:((backTo cpos (starEach [e] X.env)).all (λx=>!x.1)&&(backToKw cpos (keywordEach [] X.env)).all (λx=>x.1.isSome)
  && decide (([e]:List Expr).length+([]:List Keyword).length+(if([]:List Keyword).isEmpty then 0 else 1)<30))=true
 line:(apos.endLine==cpos.line)=true
 trees:backTo cpos (starEach [e] X.env)=[(false,eval e X.env)]
structure M2(X:Cx)(o:Expr)(m:Str)(apos:Pos)(e f:Expr)(cpos:Pos):Prop where
 base:attributeBase o m X.env (eval o X.env)=eval o X.env
 few:((backTo cpos (starEach [e,f] X.env)).all (λx=>!x.1)&&(backToKw cpos (keywordEach [] X.env)).all (λx=>x.1.isSome)
  && decide (([e,f]:List Expr).length+([]:List Keyword).length+(if([]:List Keyword).isEmpty then 0 else 1)<30))=true
 line:(apos.endLine==cpos.line)=true
 trees:backTo cpos (starEach [e,f] X.env)=[(false,eval e X.env),(false,eval f X.env)]
noncomputable def IsD(H:Hp)(a:Addr):Prop:=(∃kvs,Rd H a (.dK kvs))\/∃kvs,Rd H a (.dT kvs)
theorem Ux{σ:St}(I:Inv X pins σ H s)(d:IsD H a):
 s.TypeIs (.ref a) "dict"/\(∀b,Value.ref a = .ref b->∃B,s.heap.get? b=some B/\B.dict=none)/\(a==sysModules)=false:=by
 rcases d with⟨kvs,e⟩|⟨kvs,e⟩
 ·obtain⟨_,hd,vs,_,Z⟩:=zq I.hok e
  refine⟨Z.typeIs,λb q=>?_,hd⟩
  cases q
  obtain⟨B,_,_,h1,h2,_⟩:=Z
  exact⟨B,h1,h2.2.1⟩
 ·obtain⟨_,hd,xs,_,Z⟩:=zu I.hok e
  refine⟨Z.typeIs,λb q=>?_,hd⟩
  cases q
  obtain⟨B,_,_,h1,h2,_⟩:=Z
  exact⟨B,h1,h2.2.1⟩
section
variable{X:Cx}{pins:List (Addr×Obj)}{σ:St}{H:Hp}{s:Shared}{a:Addr}{y d:V}{u r:Value}{o:Option V}{A:Around}{E:Value->Shared->Prop}
end
section
variable{X:Cx}{o e f:Expr}{apos cpos:Pos}{td ty tx:TE}
end
section
variable{X:Cx}{pins:List (Addr×Obj)}{σ:St}{H:Hp}{s:Shared}{a:Addr}{kvs:List (Key×V)}{A:Around}{E:Value->Shared->Prop}
end
section
variable{X:Cx}{pins:List (Addr×Obj)}{σ:St}{H:Hp}{s:Shared}{a:Addr}{y:V}{u:Value}{A:Around}{E:Value->Shared->Prop}
end
section
variable{κ:Type}[DecidableEq κ]
end
end L2
namespace XK
open PySem PySem.Spec PyProof.Rows L2 My D3
section
variable{K:PySem.W.Frag}{H:Hp}
theorem Qu(s:Same H H')(h:L2.Rd H a u):L2.Rd H' a u:=by
 rcases h with h|⟨o,h⟩
 ·exact .inl (s _ _ h)
 ·exact .inr ⟨o,s _ _ h⟩
end
section
variable{X:Cx}{fl:List Fl}{e a b c ke:Expr}{f fa fb fc fk:FE}{pos:Pos}
theorem GQ:∀(l:List Value)(ns:List Int),l.length=ns.length->(∀(j:Nat)(v:Value),l[j]? = some v->∃n t,ns[j]? = some n/\v=Value.int n t)->IntsAre l ns
 |[],[],_,_=>.nil
 |[],_::_,h,_=>by simp at h
 |_::_,[],h,_=>by simp at h
 |v::l,n::ns,h,g=>by
  obtain⟨W,t,X,Y⟩:=g 0 v rfl
  cases X
  subst Y
  exact .cons _ _ (GQ l ns (by simpa using h) λj v Z=>by simpa using g (j+1) v (by simpa using Z))
end
end XK
namespace XK
open PySem PySem.Spec PyProof.Rows L2 My D3
theorem hu1(h:n+64<cLine):n+1<cLine:=by omega
section
variable{K:PySem.W.Frag}{fl:List Fl}
end
section
variable{X:Cx}{fl:List Fl}{e a b c ke:Expr}{f fa fb fc fk:FE}{pos:Pos}
end
end XK
namespace XK
open PySem PySem.Spec PyProof.Rows L2 My D3
section
variable{X:Cx}{pins:List (Addr×Obj)}{σ:L2.St}{H H':Hp}{s:Shared}{a:Addr}{kvs:List (Key×V)}{o:Obj}
end
section
variable{K:PySem.W.Frag}{H:Hp}{a:Addr}{kvs:List (Key×V)}{o:Obj}
end
section
variable{X:Cx}{fl fl':List Fl}{e b c elt tg iter:Expr}{es ifs:List Expr}{k:Kd}{f fa fb fc fx:FE}{ft gt:FT}{pos:Pos}{scope:Scope}{ix L TT:List Nat}{fi:FA}{g:FG}
end
end XK
variable{a0:Addr}{o0:Obj}
namespace XK
open PySem PyProof.Rows
theorem CW{Q:Option Obj->Shared->Prop}(h:Q (s.heap.get? a) s):wpAny M A (loadIfAlive a) Q E s:=λ_ _ _=>h
noncomputable abbrev xG(h:Heap)(z a0 TI TO:Addr)(b:Bool):Prop:=
 h.get? z=some {cls:=.type "zip", dict:=none,data:=.fields #[rawInt a0,.bool b,.bool false,.ref TI,.ref TO],slots:=#[]}
section
variable{prog:Program}{w:World}{A:Around}{E:Value->Shared->Prop}{s:Shared}
theorem xH{TI TO:Addr}{b:Bool}{Q:Bool->Shared->Prop}(hz:xG s.heap z a0 TI TO b)(D:s.heap.get? a0=some o0)(B:∀h',xG h' z a0 TI TO true->Heap.SameBut z s.heap h'->Q false {s with heap:=h'}):
 wpAny (model prog w) A (Builtin.SmallTypes.ownedTupleIsFree (.ref z)) Q E s:=by
 unfold Builtin.SmallTypes.ownedTupleIsFree
 refine wpAny_bind (wpAny_field hz rfl (x:=rawInt a0) rfl ?_)
 show wpAny _ _ (loadIfAlive ((a0:Int)).toNat >>= _) _ _ _
 refine wpAny_bind (CW ?_)
 rw[dG,D]
 show wpAny _ _ (field (.ref z) 1 >>= _) _ _ _
 refine wpAny_bind (wpAny_field hz rfl (x:=.bool b) rfl ?_)
 cases b with
 |true=>
  show wpAny _ _ (pure false) _ _ _
  exact wpAny_pure (B s.heap hz ⟨rfl,λ_ _=>rfl⟩)
 |false=>
  show wpAny _ _ (setField (.ref z) 1 (.bool true) >>= _) _ _ _
  refine wpAny_bind (wpAny_setField_rec hz (by simp) λX Z Y=>wpAny_pure (B X Z Y))
theorem La{TI TO:Addr}{xs:Array Value}{x y:Value}{b:Bool}(D:ZipApart z TI TO i1 i2 l1 l2)
 (hz:xG s.heap z a0 TI TO b) (h0:s.heap.get? a0=some o0) (O:IsPair s.heap TI (.ref i1) (.ref i2))
 (h1:s.heap.IsListIter i1 l1 k1) (h2:s.heap.IsListIter i2 l2 k2) (J:s.heap.IsList l1 xs) (B:s.heap.IsList l2 ys) (hx:xs[k1]? = some x) (hy:ys[k2]? = some y)
 (hQ:∀h',xG h' z a0 TI TO true->h'.IsListIter i1 l1 (k1+1)->h'.IsListIter i2 l2 (k2+1)->IsPair h' s.heap.objs.size x y ->
  (∀c o,c≠z->c≠i1->c≠i2->s.heap.get? c=some o->h'.get? c=some o)->Q (.ref s.heap.objs.size) {s with heap:=h'}) :
 wpAny (model prog w) A (Builtin.«zip.__next__» ⟨[.ref z],[]⟩) (λfin s'=>∃v,fin = .done (.ret v)/\Q v s') E s:=by
 show wpAny _ _ (field (.ref z) 2 >>= _) _ _ _
 refine wpAny_bind (wpAny_field hz rfl (x:=.bool false) rfl ?_)
 show wpAny _ _ (field (.ref z) 3 >>= _) _ _ _
 refine wpAny_bind (wpAny_field hz rfl (x:=.ref TI) rfl ?_)
 refine wpAny_bind (wpAny_seqItems O rfl ?_)
 show wpAny _ _ (Builtin.SmallTypes.ownedTupleIsFree (.ref z) >>= _) _ _ _
 refine wpAny_bind (xH hz h0 λK U Z=>?_)
 simp only[fJ,if_false]
 refine wpAny_bind ?_
 simp only[<-rQ,pK,List.forIn_nil]
 refine wpAny_bind (wpAny_bind (wpAny_holding ?_))
 show wpAny _ _ (Builtin.SmallTypes.nextOf (.ref i1) >>= _) _ _ _
 refine wpAny_bind (wpAny_nextOf_list_item (h1.extBut Z.extBut D.i1z) (J.extBut Z.extBut D.l1z) hx λL S Y=>wpAny_pure (wpAny_pure ?_))
 refine wpAny_bind (wpAny_bind (wpAny_holding ?_))
 show wpAny _ _ (Builtin.SmallTypes.nextOf (.ref i2) >>= _) _ _ _
 refine wpAny_bind (wpAny_nextOf_list_item ((h2.extBut Z.extBut D.i2z).extBut Y.extBut D.i12.symm) ((B.extBut Z.extBut D.l2z).extBut Y.extBut D.l2i1) hy λX T W=>wpAny_pure (wpAny_pure (wpAny_pure ?_)))
 show wpAny _ _ (newTuple [x,y] >>= _) _ _ _
 refine wpAny_bind (wpAny_newTuple (wpAny_pure ⟨_,rfl,?_⟩))
 have R:X.objs.size=s.heap.objs.size:=by rw[W.1,Y.1,Z.1]
 show Q (.ref X.objs.size) _
 have I:∀c o,c≠z->c≠i1->c≠i2->s.heap.get? c=some o->X.get? c=some o:=λc o M N P e=>W.extBut _ _ P (Y.extBut _ _ N (Z.extBut _ _ M e))
 have V:xG X z a0 TI TO true:=W.extBut _ _ D.i2z.symm (Y.extBut _ _ D.i1z.symm U)
 have up:∀c o,X.get? c=some o->(X.push {cls:=.type "tuple", data:=.seq #[x,y]}).get? c=some o:=λc o e=>Heap.get?_push_of_some _ e
 rw[R]
 refine hQ _ (up _ _ V) (((S.extBut W.extBut D.i12)).at λo e=>up _ o e) (T.at λo e=>up _ o e) ?_ λc o M N P e=>up c o (I c o M N P e)
 rw[<-R]
 exact Heap.get?_push_size _ rfl
theorem Lb{TI TO:Addr}{xs:Array Value}{b:Bool}{Q:Fin->Shared->Prop}(hh:A.handled=none)(D:ZipApart z TI TO i1 i2 l1 l2)
 (hz:xG s.heap z a0 TI TO b) (h0:s.heap.get? a0=some o0) (hTI:IsPair s.heap TI (.ref i1) (.ref i2))
 (h1:s.heap.IsListIter i1 l1 k1) (h2:s.heap.IsListIter i2 l2 k2) (B:s.heap.IsList l1 xs) (O:s.heap.IsList l2 ys) (J:xs[k1]? = none\/ys[k2]? = none)
 (hE:∀h' e,(∀c o,c≠z->c≠i1->c≠i2->s.heap.get? c=some o->h'.get? c=some o)->(∃o,h'.get? e=some o/\o.cls = .type "StopIteration")->E (.ref e) {s with heap:=h'}) :
 wpAny (model prog w) A (Builtin.«zip.__next__» ⟨[.ref z],[]⟩) Q E s:=by
 show wpAny _ _ (field (.ref z) 2 >>= _) _ _ _
 refine wpAny_bind (wpAny_field hz rfl (x:=.bool false) rfl ?_)
 show wpAny _ _ (field (.ref z) 3 >>= _) _ _ _
 refine wpAny_bind (wpAny_field hz rfl (x:=.ref TI) rfl ?_)
 refine wpAny_bind (wpAny_seqItems hTI rfl ?_)
 show wpAny _ _ (Builtin.SmallTypes.ownedTupleIsFree (.ref z) >>= _) _ _ _
 refine wpAny_bind (xH hz h0 λM U Z=>?_)
 simp only[fJ,if_false]
 refine wpAny_bind ?_
 simp only[<-rQ,pK,List.forIn_nil]
 refine wpAny_bind (wpAny_bind (wpAny_holding ?_))
 show wpAny _ _ (Builtin.SmallTypes.nextOf (.ref i1) >>= _) _ _ _
 cases T:xs[k1]? with
 |none=>
  refine wpAny_bind (wpAny_nextOf_list_end hh (h1.extBut Z.extBut D.i1z) (B.extBut Z.extBut D.l1z) T λX e Y S=>?_)
  exact hE X e (λc o N P _ x=>Y _ _ P (Z.extBut _ _ N x)) S
 |some x=>
  have L:ys[k2]? = none:=by rcases J with h|h;rw[T]at h;cases h;exact h
  refine wpAny_bind (wpAny_nextOf_list_item (h1.extBut Z.extBut D.i1z) (B.extBut Z.extBut D.l1z) T λX R Y=>wpAny_pure (wpAny_pure ?_))
  refine wpAny_bind (wpAny_bind (wpAny_holding ?_))
  show wpAny _ _ (Builtin.SmallTypes.nextOf (.ref i2) >>= _) _ _ _
  refine wpAny_bind (wpAny_nextOf_list_end hh ((h2.extBut Z.extBut D.i2z).extBut Y.extBut D.i12.symm) ((O.extBut Z.extBut D.l2z).extBut Y.extBut D.l2i1) L λV e W S=>?_)
  exact hE V e (λc o N P K x=>W _ _ K (Y.extBut _ _ P (Z.extBut _ _ N x))) S
theorem Ji{TI TO:Addr}{xs:Array Value}{x y:Value}{b:Bool}{Q:Option Value->Shared->Prop}(D:ZipApart z TI TO i1 i2 l1 l2)
 (hz:xG s.heap z a0 TI TO b) (h0:s.heap.get? a0=some o0) (O:IsPair s.heap TI (.ref i1) (.ref i2))
 (h1:s.heap.IsListIter i1 l1 k1) (h2:s.heap.IsListIter i2 l2 k2) (J:s.heap.IsList l1 xs) (B:s.heap.IsList l2 ys) (Y:xs[k1]? = some x) (W:ys[k2]? = some y)
 (hQ:∀h',xG h' z a0 TI TO true->h'.IsListIter i1 l1 (k1+1)->h'.IsListIter i2 l2 (k2+1)->IsPair h' s.heap.objs.size x y ->
  (∀c o,c≠z->c≠i1->c≠i2->s.heap.get? c=some o->h'.get? c=some o)->Q (some (.ref s.heap.objs.size)) {s with heap:=h'}) :
 wpAny (model prog w) A (pyNext (.ref z)) Q E s:=by
 have Z:s.TypeIs (.ref z) "zip" := ⟨_,hz,rfl⟩
 unfold pyNext
 exact wpAny_bind (wpAny_attempt (wpAny_callSpecial?_slot (name:=Str.ofString "__next__") Z F.slot_zip_next
  (wpAny_call_entry F.slot_zip_next Z F.entry_zip_next (La D hz h0 O h1 h2 J B Y W λh' S T U V X=>wpAny_pure (hQ h' S T U V X)) (F.args_zip_next_1 _))))
theorem Jj{TI TO:Addr}{xs:Array Value}{b:Bool}{Q:Option Value->Shared->Prop}(hh:A.handled=none)(D:ZipApart z TI TO i1 i2 l1 l2)
 (hz:xG s.heap z a0 TI TO b) (h0:s.heap.get? a0=some o0) (W:IsPair s.heap TI (.ref i1) (.ref i2))
 (h1:s.heap.IsListIter i1 l1 k1) (h2:s.heap.IsListIter i2 l2 k2) (O:s.heap.IsList l1 xs) (J:s.heap.IsList l2 ys) (B:xs[k1]? = none\/ys[k2]? = none)
 (hQ:∀h',(∀c o,c≠z->c≠i1->c≠i2->s.heap.get? c=some o->h'.get? c=some o)->Q none {s with heap:=h'}):wpAny (model prog w) A (pyNext (.ref z)) Q E s:=by
 have Z:s.TypeIs (.ref z) "zip" := ⟨_,hz,rfl⟩
 unfold pyNext
 refine wpAny_bind (wpAny_attempt (wpAny_callSpecial?_slot (name:=Str.ofString "__next__") Z F.slot_zip_next
  (wpAny_call_entry F.slot_zip_next Z F.entry_zip_next (Lb hh D hz h0 W h1 h2 O J B λh' e X V=>?_) (F.args_zip_next_1 _))))
 obtain⟨o,Y,U⟩:=V
 refine wpAny_bind (wpAny_isInstance (T := "StopIteration") (b:=true) ⟨o,Y,U⟩ isSubtype_stop ?_)
 exact wpAny_pure (hQ _ X)
end
end XK
namespace XK
open PySem PyProof.Rows
structure LZ(h:Heap)(base:Nat)(z TI TO i1 i2 l1 l2 S:Addr)(xs ys:Array Value)(i:Nat)(acc:Array Value):Prop where
 ti:IsPair h TI (.ref i1) (.ref i2)
 j1:h.IsListIter i1 l1 i
 j2:h.IsListIter i2 l2 i
 q1:h.IsList l1 xs
 q2:h.IsList l2 ys
 zz:(i=0/\IsZip h z TI TO .none/\∃a b,IsPair h TO a b)\/∃a0 b o0,base<=a0/\xG h z a0 TI TO b/\h.get? a0=some o0
 sz:base<=h.objs.size
 al:acc.size=i
 ac:∀j,j<i->∃a x y,acc[j]? = some (.ref a)/\base<=a/\xs[j]? = some x/\ys[j]? = some y/\IsPair h a x y
 inj:∀(j j':Nat)(a:Addr),acc[j]? = some (.ref a)->acc[j']? = some (.ref a)->j=j'
 ss:∃c,h.get? S=some {cls:=.type "list", dict:=none,data:=.seq acc c,slots:=#[]}
section
variable{prog:Program}{w:World}{A:Around}{R:Result->Shared->Prop}{z TI TO i1 i2 l1 l2 S:Addr}{xs ys:Array Value}{base:Nat}
theorem Qw(hh:A.in1.handled=none)(D:ZipApart z TI TO i1 i2 l1 l2)(res:Value)(hb:∀c,c∈[z,TI,TO,i1,i2,l1,l2,S]->c<base)(J:S∉[z,TI,TO,i1,i2,l1,l2])(hn:xs.size<=sizeLine):
 ∀(k i:Nat)(s:Shared)(acc:Array Value),min xs.size ys.size-i=k->i<=min xs.size ys.size->LZ s.heap base z TI TO i1 i2 l1 l2 S xs ys i acc ->
 (∀h' B,(∀c o,c∉[z,TO,i1,i2,S]->s.heap.get? c=some o->h'.get? c=some o)->B.size=min xs.size ys.size ->
  (∀j,j<min xs.size ys.size->∃a x y,B[j]? = some (.ref a)/\base<=a/\xs[j]? = some x/\ys[j]? = some y/\IsPair h' a x y)->(∀(j j':Nat)(a:Addr),B[j]? = some (.ref a)->B[j']? = some (.ref a)->j=j') ->
  (∃c,h'.get? S=some {cls:=.type "list", dict:=none,data:=.seq B c,slots:=#[]})->R (.ok (.ret res)) {s with heap:=h'}) ->
 codeAny (model prog w) A (.builtin "list.extend.loop" ⟨[.ref S,.ref z,res],[]⟩) R s:=by
 have O:S≠z:=λe=>J (by simp[e])
 have hST:S≠TI:=λe=>J (by simp[e])
 have G:S≠TO:=λe=>J (by simp[e])
 have M:S≠i1:=λe=>J (by simp[e])
 have N:S≠i2:=λe=>J (by simp[e])
 have hSl:S≠l1:=λe=>J (by simp[e])
 have d:S≠l2:=λe=>J (by simp[e])
 have ne:∀c,c∈[z,TI,TO,i1,i2,l1,l2,S]->∀a:Addr,base<=a->a≠c:=λc Y a ha q=>mU.mpr ha (by rw[q];exact hb c Y)
 intro k
 induction k with
 |zero=>
  intro i s acc hk hi L hR
  have g:i=min xs.size ys.size:=by omega
  have T:xs[i]? = none\/ys[i]? = none:=by
   rcases Nat.le_total xs.size ys.size with z|z
   ·exact .inl (gB (by omega))
   ·exact .inr (gB (by omega))
  refine codeAny_builtin F.entry_extend_loop ?_
  rw[Around.under_plainId F.plain_extend_loop _]
  show wpAny _ A.in1 (pyNext (.ref z) >>= _) _ _ s
  have fin:∀h',(∀c o,c≠z->c≠TO->c≠i1->c≠i2->s.heap.get? c=some o->h'.get? c=some o)->R (.ok (.ret res)) {s with heap:=h'}:=λh' X=>by
   have up:∀a o,base<=a->s.heap.get? a=some o->h'.get? a=some o:=λa o ha e=>X a o (ne z (by simp) _ ha) (ne TO (by simp) _ ha) (ne i1 (by simp) _ ha) (ne i2 (by simp) _ ha) e
   obtain⟨c,Y⟩:=L.ss
   have V:=X S _ O G M N Y
   refine hR h' acc (λc o Y e=>X c o (λq=>Y (by simp[q])) (λq=>Y (by simp[q])) (λq=>Y (by simp[q])) (λq=>Y (by simp[q])) e) (by rw[L.al];exact g) (λj p=>?_) L.inj ⟨c,V⟩
   ·obtain⟨a,x,y,h1,h2,h3,h4,h5⟩:=L.ac j (by omega)
    exact⟨a,x,y,h1,h2,h3,h4,up a _ h2 h5⟩
  rcases L.zz with⟨I,Q,a,b,P⟩|⟨a0,b,o0,_,Q,I⟩
  ·exact wpAny_bind (wpAny_pyNext_zip_end hh D Q L.ti P L.j1 L.j2 L.q1 L.q2 T λh' X=>wpAny_pure (fin h' X))
  ·exact wpAny_bind (Jj hh D Q I L.ti L.j1 L.j2 L.q1 L.q2 T λh' X=>wpAny_pure (fin h' λc o c1 _ c3 c4 e=>X c o c1 c3 c4 e))
 |succ k ih=>
  intro i s acc hk hi L hR
  have hlt:i<min xs.size ys.size:=by omega
  obtain⟨x,l⟩:∃x,xs[i]? = some x:=⟨_,jA (by omega)⟩
  obtain⟨y,m⟩:∃y,ys[i]? = some y:=⟨_,jA (by omega)⟩
  refine codeAny_builtin F.entry_extend_loop ?_
  rw[Around.under_plainId F.plain_extend_loop _]
  show wpAny _ A.in1 (pyNext (.ref z) >>= _) _ _ s
  have step:∀(h':Heap),(∃a0 b o0,base<=a0/\xG h' z a0 TI TO b/\h'.get? a0=some o0)->h'.IsListIter i1 l1 (i+1)->h'.IsListIter i2 l2 (i+1)->IsPair h' s.heap.objs.size x y ->
   (∀c o,c≠z->c≠TO->c≠i1->c≠i2->s.heap.get? c=some o->h'.get? c=some o) ->
   wpAny (model prog w) A.in1 (updateSeq S (·.push (.ref s.heap.objs.size)) >>= λ_=>again (.builtin "list.extend.loop" ⟨[.ref S,.ref z,res],[]⟩)) (λfin s'=>match fin with | .done f=>R (.ok f) s' | .again c'=>c'.quiet=true/\codeAny (model prog w) A c' R s') (λe s'=>R (.error e) s') {s with heap:=h'}:=λh' v C E K W=>by
   obtain⟨c,Y⟩:=L.ss
   have V:=W S _ O G M N Y
   have up:∀a o,base<=a->s.heap.get? a=some o->h'.get? a=some o:=λa o ha e=>W a o (ne z (by simp) _ ha) (ne TO (by simp) _ ha) (ne i1 (by simp) _ ha) (ne i2 (by simp) _ ha) e
   have Z:∀b o,b≠S->h'.get? b=some o->(h'.update S (Obj.mapSeq (·.push (.ref s.heap.objs.size)))).get? b=some o:=λb o hb e=>(Heap.get?_update_other _ _ (Ne.symm hb)).trans e
   refine wpAny_bind ?_
   refine wpAny_updateSeq V rfl (wpAny_pure ⟨plainId_quiet F.plain_extend_loop _,ih (i+1) _ (acc.push (.ref s.heap.objs.size)) (by omega) (by omega) ⟨?_,?_,?_,?_,?_,?_,?_,?_,?_,?_,?_⟩ λh'' B H e2 e3 e4 e5=>?_⟩)
    (by rw[L.al];omega) (by show(acc.push _).size<=sizeLine+1;rw[Array.size_push,L.al];omega)
   ·exact Z _ _ (Ne.symm hST) (W _ _ D.TIz D.TITO D.TIi1 D.TIi2 L.ti)
   ·exact C.at λo e=>Z _ o (Ne.symm M) e
   ·exact E.at λo e=>Z _ o (Ne.symm N) e
   ·obtain⟨o,h,r⟩:=L.q1
    exact⟨o,Z _ _ (Ne.symm hSl) (W _ _ D.l1z D.l1TO D.l1i1 D.l1i2 h),r⟩
   ·obtain⟨o,h,r⟩:=L.q2
    exact⟨o,Z _ _ (Ne.symm d) (W _ _ D.l2z D.l2TO D.l2i1 D.l2i2 h),r⟩
   ·obtain⟨a0,b,o0,k1,k2,t⟩:=v
    exact .inr ⟨a0,b,o0,k1,Z _ _ (Ne.symm O) k2,Z _ _ (ne S (by simp) _ k1) t⟩
   ·show base<=(h'.update S _).objs.size
    rw[Heap.size_update]
    exact bL L.sz (eY (Heap.lt_size K))
   ·rw[Array.size_push,L.al]
   ·intro j p
    by_cases q:j=i
    ·subst q
     exact⟨_,x,y,by rw[<-L.al];simp,L.sz,l,m,Z _ _ (ne S (by simp) _ L.sz) K⟩
    ·obtain⟨a,x',y',k1,k2,t,k4,n⟩:=L.ac j (by omega)
     refine⟨a,x',y',?_,k2,t,k4,Z _ _ (ne S (by simp) _ k2) (up a _ k2 n)⟩
     rw[Array.getElem?_push_lt (by rw[L.al];omega)]
     rw[jA (by rw[L.al];omega)]at k1
     exact k1
   ·have lt:∀(j:Nat)(a:Addr),acc[j]? = some (.ref a)->a<s.heap.objs.size/\j<i:=λj a e=>by
     have p:j<i:=by
      rcases iM j acc.size with q|q
      ·rw[L.al]at q;exact q
      ·rw[gB q]at e;cases e
     obtain⟨a',x',y',k1,k2,t,k4,n⟩:=L.ac j p
     rw[e]at k1
     cases k1
     exact⟨Heap.lt_size n,p⟩
    have cs:∀(j:Nat)(a:Addr),(acc.push (.ref s.heap.objs.size))[j]? = some (.ref a)->(acc[j]? = some (.ref a))\/(j=i/\a=s.heap.objs.size):=λj a e=>by
     rw[Array.getElem?_push]at e
     by_cases q:j=acc.size
     ·rw[if_pos q]at e
      cases e
      exact .inr ⟨by rw[q,L.al],rfl⟩
     ·rw[if_neg q]at e
      exact .inl e
    intro j j' a e e'
    rcases cs j a e with q|⟨q,r⟩<;>rcases cs j' a e' with u|⟨u,r'⟩
    ·exact L.inj j j' a q u
    ·exact absurd (lt j a q).1 (by rw[r'];exact eE _)
    ·exact absurd (lt j' a u).1 (by rw[r];exact eE _)
    ·rw[q,u]
   ·exact⟨_,Heap.get?_update_self _ V rfl⟩
   ·exact hR h'' B (λc o Y e=>H c o Y (Z c o (λq=>Y (by simp[q])) (W c o (λq=>Y (by simp[q])) (λq=>Y (by simp[q])) (λq=>Y (by simp[q])) (λq=>Y (by simp[q])) e))) e2 e3 e4 e5
  rcases L.zz with⟨I,Q,a,b,P⟩|⟨a0,b,o0,U,Q,I⟩
  ·refine wpAny_bind (wpAny_pyNext_zip_item D Q L.ti P L.j1 L.j2 L.q1 L.q2 l m λh' v g2 C E K g6 W=>?_)
   exact step h' ⟨s.heap.objs.size,false,_,L.sz,v,K⟩ C E K W
  ·refine wpAny_bind (Ji D Q I L.ti L.j1 L.j2 L.q1 L.q2 l m λh' v C E K W=>?_)
   exact step h' ⟨a0,true,o0,U,v,W a0 o0 (ne z (by simp) _ U) (ne i1 (by simp) _ U) (ne i2 (by simp) _ U) I⟩ C E K λc o c1 _ c3 c4 e=>W c o c1 c3 c4 e
end
end XK
namespace XK
open PySem PyProof.Rows
theorem Fw:typeLookup (.type "zip") "__len__"=pure none:=by rw[typeLookup_type,builtinLookup_eq_fast];kernel_rfl
theorem CZ:typeLookup (.type "zip") "__length_hint__"=pure none:=by rw[typeLookup_type,builtinLookup_eq_fast];kernel_rfl
section
variable{prog:Program}{w:World}{A:Around}{E:Value->Shared->Prop}{s:Shared}
theorem Ld{Q:Bool->Shared->Prop}(B:s.TypeIs (.ref z) "zip")(h:Q true s):wpAny (model prog w) A (Builtin.List.listLengthHint (.ref z)) Q E s:=by
 unfold Builtin.List.listLengthHint
 refine wpAny_bind (wpAny_specialOf B Fw ?_)
 show wpAny _ A (specialOf (Value.ref z) (Str.ofString "__length_hint__") >>= _) _ _ _
 exact wpAny_bind (wpAny_specialOf B CZ (wpAny_pure h))
theorem Le{TI TO:Addr}{xs:Array Value}{a b:Value}(hh:A.handled=none)(D:ZipApart z TI TO i1 i2 l1 l2)(hz:IsZip s.heap z TI TO .none)(hTI:IsPair s.heap TI (.ref i1) (.ref i2))(O:IsPair s.heap TO a b)
 (h1:s.heap.IsListIter i1 l1 0) (h2:s.heap.IsListIter i2 l2 0) (J:s.heap.IsList l1 xs) (B:s.heap.IsList l2 ys) (hn:xs.size<=sizeLine)
 (hQ:∀h' acc c,(∀c o,c∉[z,TO,i1,i2]->s.heap.get? c=some o->h'.get? c=some o)->acc.size=min xs.size ys.size ->
  (∀j,j<min xs.size ys.size->∃a x y,acc[j]? = some (.ref a)/\s.heap.objs.size<a/\xs[j]? = some x/\ys[j]? = some y/\IsPair h' a x y)->(∀(j j':Nat)(a:Addr),acc[j]? = some (.ref a)->acc[j']? = some (.ref a)->j=j') ->
  h'.get? s.heap.objs.size=some {cls:=.type "list", dict:=none,data:=.seq acc c,slots:=#[]}->Q (.ref s.heap.objs.size) {s with heap:=h'}) :
 wpAny (model prog w) A (call (.type "list") [.ref z]) Q E s:=by
 refine callType_codes (Q₁:=λobj Y=>obj = .ref s.heap.objs.size/\Y={s with heap:=s.heap.push {cls:=.type "list", data:=.seq #[]} }) PySem.F.called_list (PySem.F.typeCall_list_1 _) PySem.F.entry_list_init (code_list_new _ ⟨rfl,rfl⟩) λobj Y g=>?_
 obtain⟨rfl,rfl⟩:=g
 have N:(s.heap.push {cls:=.type "list", data:=.seq #[]}).get? s.heap.objs.size=some {cls:=.type "list", data:=.seq #[]}:=Heap.get?_push_size _ rfl
 refine⟨⟨_,N,rfl⟩,PySem.F.args_list_init_2 _ _,?_⟩
 show wpAny _ _ (do let old <-Builtin.List.listItems (.ref s.heap.objs.size);Builtin.List.listUpdate (.ref s.heap.objs.size) (λ_=>#[]);letGo old.toList.reverse;Builtin.List.listExtendWith (.ref s.heap.objs.size) (.ref z) .none) _ _ _
 refine wpAny_bind ?_
 unfold Builtin.List.listItems
 refine wpAny_bind (wpAny_seqItems N rfl (wpAny_pure ?_))
 show wpAny _ _ (updateSeq s.heap.objs.size (λ_=>#[]) >>= λ_=>letGo (#[]:Array Value).toList.reverse >>= λ_=>Builtin.List.listExtendWith (.ref s.heap.objs.size) (.ref z) .none) _ _ _
 refine wpAny_bind (wpAny_updateSeq N rfl ?_)
 have U:=Heap.get?_update_self (Obj.mapSeq (λ_=>(#[]:Array Value))) N rfl
 refine wpAny_bind (wpAny_letGo ?_)
 have old:∀c o,s.heap.get? c=some o->c≠s.heap.objs.size:=λc o e=>aZ (Heap.lt_size e)
 have k2:∀c o,s.heap.get? c=some o->((s.heap.push {cls:=.type "list", data:=.seq #[]}).update s.heap.objs.size (Obj.mapSeq (λ_=>(#[]:Array Value)))).get? c=some o:=λc o e=>
  (Heap.get?_update_other _ _ (Ne.symm (old c o e))).trans (Heap.get?_push_of_some _ e)
 have W:((s.heap.push {cls:=.type "list", data:=.seq #[]}).update s.heap.objs.size (Obj.mapSeq (λ_=>(#[]:Array Value)))).objs.size=s.heap.objs.size+1:=by rw[Heap.size_update,Heap.size_push]
 generalize (s.heap.push {cls:=.type "list", data:=.seq #[]}).update s.heap.objs.size (Obj.mapSeq (λ_=>(#[]:Array Value)))=M at U k2 W
 unfold Builtin.List.listExtendWith
 refine wpAny_bind (wpAny_typeOf (T := "zip") ⟨_,k2 _ _ hz,rfl⟩ ?_)
 have u:Builtin.List.listSameRef (.ref s.heap.objs.size) (.ref z)=false:=by simp[Builtin.List.listSameRef,Ne.symm (old z _ hz)]
 have v:(Value.type "zip"==Value.type "list")=false:=by decide
 have C:(Value.type "zip"==Value.type "tuple")=false:=by decide
 simp only[u,v,C,Bool.or_false,fJ,if_false]
 refine wpAny_bind (wpAny_pyIter_zip (k2 _ _ hz) ?_)
 refine wpAny_bind (wpAny_holding (Ld ⟨_,k2 _ _ hz,rfl⟩ ?_))
 rw[if_pos (Bool.true_or _)]
 refine wpAny_bind (wpAny_rule ?_)
 refine wpAny_bind ?_
 show wpAny _ _ (updateSeq s.heap.objs.size (·.push .none) >>= λ_=>updateSeq s.heap.objs.size (·.pop)) _ _ _
 refine wpAny_bind (wpAny_updateSeq U rfl ?_)
 have R:=Heap.get?_update_self (Obj.mapSeq (·.push Value.none)) U rfl
 refine wpAny_updateSeq (hz:=by seq_fits) R rfl ?_
 have S:=Heap.get?_update_self (Obj.mapSeq (·.pop)) R rfl
 have Z:∀c o,s.heap.get? c=some o->((M.update s.heap.objs.size (Obj.mapSeq (·.push Value.none))).update s.heap.objs.size (Obj.mapSeq (·.pop))).get? c=some o:=λc o e=>
  (Heap.get?_update_other _ _ (Ne.symm (old c o e))).trans ((Heap.get?_update_other _ _ (Ne.symm (old c o e))).trans (k2 c o e))
 have X:((M.update s.heap.objs.size (Obj.mapSeq (·.push Value.none))).update s.heap.objs.size (Obj.mapSeq (·.pop))).objs.size=s.heap.objs.size+1:=by rw[Heap.size_update,Heap.size_update,W]
 generalize (M.update s.heap.objs.size (Obj.mapSeq (·.push Value.none))).update s.heap.objs.size (Obj.mapSeq (·.pop))=t at S Z X
 have lt:∀c∈[z,TI,TO,i1,i2,l1,l2],c<s.heap.objs.size:=λc V=>by
  simp only[aW,aO,fH,or_false]at V
  rcases V with rfl|rfl|rfl|rfl|rfl|rfl|rfl
  ·exact Heap.lt_size hz
  ·exact Heap.lt_size hTI
  ·exact Heap.lt_size O
  ·obtain⟨o,e,_⟩:=h1;exact Heap.lt_size e
  ·obtain⟨o,e,_⟩:=h2;exact Heap.lt_size e
  ·obtain⟨o,e,_⟩:=J;exact Heap.lt_size e
  ·obtain⟨o,e,_⟩:=B;exact Heap.lt_size e
 refine wpAny_pure ⟨plainId_quiet PySem.F.plain_extend_loop _,Qw (base:=s.heap.objs.size+1) (A:=A.in1) (xs:=xs) (ys:=ys) hh D .none (λc V=>?_) (λV=>eE _ (lt _ V)) hn _ 0 _ #[] rfl (cR _) ⟨Z _ _ hTI,h1.at λo e=>Z _ o e,h2.at λo e=>Z _ o e,?_,?_,.inl ⟨rfl,Z _ _ hz,a,b,Z _ _ O⟩,by rw[X];exact aL _,rfl,λj G=>absurd G (Nat.not_lt_zero _),λj j' c e=>by simp at e,⟨_,S⟩⟩ λh' P H f1 f2 f3 I=>?_⟩
 ·have K:c∈[z,TI,TO,i1,i2,l1,l2]\/c=s.heap.objs.size:=by
   simp only[aW,aO,fH,or_false]at V ⊢
   rcases V with h|h|h|h|h|h|h|h<;>simp[h]
  rcases K with h|h
  ·exact fW (lt c h)
  ·rw[h];exact gM _
 ·obtain⟨o,L,r⟩:=J
  exact⟨o,Z _ _ L,r⟩
 ·obtain⟨o,L,r⟩:=B
  exact⟨o,Z _ _ L,r⟩
 ·obtain⟨c,I⟩:=I
  refine⟨rfl,hQ h' P c (λd o hd e=>H d o (λq=>?_) (Z d o e)) f1 f2 f3 I⟩
  simp only[aW,aO,fH,or_false]at q hd
  rcases q with q|q|q|q|q
  ·exact hd (.inl q)
  ·exact hd (.inr (.inl q))
  ·exact hd (.inr (.inr (.inl q)))
  ·exact hd (.inr (.inr (.inr q)))
  ·exact old d o e q
end
end XK
namespace XK
open PySem PySem.Spec PyProof.Rows L2 My D3
theorem Lf{σ:L2.St}(I:L2.Inv X pins σ H s)(k:∀b u,s.heap.get? b=some u->h'.get? b=some u)(B:∀b,b<s.heap.objs.size->H' b=H b)(hok:HOk X.prog X.w H' h'):
 L2.Inv X pins σ H' {s with heap:=h',toks:=t'}:=I.un {
 keep:=λb u q _ _ _=>k b u q
 slot:=λb u q _ _ _=>⟨u.slots,k b u q⟩
 free:=λb u q n _=>by rw[B b (Heap.lt_size q)];exact n
 there:=λb u q _=>⟨u,k b u q⟩
 tups:=λb xs q=>by rw[B b (I.hok.lt q)];exact q
 frzs:=λb u xs q=>by rw[B b (I.hok.lt q)];exact q
 tbls:=λb q p e=>by rw[B b (I.hok.lt e)];exact e} hok
section
variable{X:Cx}{fl:List Fl}{a b:Expr}{f g:FE}{p p2 pos pos2:Pos}
end
end XK
namespace XK
open PySem PyProof.Rows
section
variable{prog:Program}{w:World}{A:Around}{R:Result->Shared->Prop}{I:Addr}{fp wr:List Addr}{n:Nat}{P:Nat->Value->Prop}{St:Nat->Heap->Prop}{kw:List (Str×Value)}
end
section
variable{prog:Program}{w:World}{A:Around}{E:Value->Shared->Prop}{s:Shared}
end
end XK
namespace XK
open PySem PySem.Spec PyProof.Rows L2 My D3
section
variable{X:Cx}{fl:List Fl}{e z:Expr}{fa:FA}{fz:FE}{p pos kpos:Pos}
variable{a:Expr}{f:FE}{ta:TE}
end
end XK
namespace XK
open PySem PySem.Spec PyProof.Rows L2 My D3
noncomputable def lenOf(H:Hp)(a:Addr):Nat:=match H a with
 |some (.lst xs)=>xs.length
 |_=>0
section
variable{K:PySem.W.Frag}{H:Hp}
theorem GR{ok:Ok}:∀{vs:List V}{ds:List D},RAs K ok false H vs ds->ds.all fl1=true->∃as,RTs K H vs ds as/\(∀a∈as,ok a)/\as.map (lenOf H)=ds.filterMap Qn
 |_,_,.nil,_=>⟨[],.nil,λ_ h=>(by cases h),rfl⟩
 |_,_,.cons (d:=d) (ds:=ds) r q,h=>by
  rw[nJ,aU]at h
  obtain⟨as,h1,h2,U⟩:=GR q h.2
  by_cases e:∃l,d = .list l
  ·obtain⟨l,rfl⟩:=e
   cases r with
   |lst X k Y=>
    rename_i a xs
    have Z:flats l=true:=h.1
    have Q:RTs K H xs l []:=by
     clear h1 h2 U h X q
     induction l generalizing xs with
     |nil=>cases Y;exact .nil
     |cons d l R=>
      cases Y with
      |cons S T=>
       rw[flats,aU]at Z
       have:=RTs.cons (RT.flat0 Z.1 S) (R T Z.2)
       simpa using this
    refine⟨(a::[])++as,.cons (.lst X Q) h1,λb W=>?_,?_⟩
    ·rcases bW.mp W with z|z
     ·rw[aO.mp z];exact k
     ·exact h2 b z
    ·rw[cN,U]
     show lenOf H a::_=_
     rw[iy]
     show _=l.length::_
     have:lenOf H a=l.length:=by
      unfold lenOf
      rw[X]
      exact Y.length
     rw[this]
     rfl
   |lsk _ z _=>cases z
  ·have Z:flat d=true:=by
    have h1:=h.1
    cases d<;>first|exact h1|exact absurd ⟨_,rfl⟩ e
   refine⟨[]++as,.cons (RT.flat0 Z r) h1,λb W=>h2 b (by simpa using W),?_⟩
   rw[cW,U,iy]
   have:Qn d=none:=by cases d<;>first|rfl|exact absurd ⟨_,rfl⟩ e
   rw[this]
end
section
variable{X:Cx}{fl:List Fl}{e k1 k2:Expr}{f f1 f2:FE}{pos:Pos}
theorem Uy(h:DE X fl .C e f):DE X fl .T e (dNd f):=tU h λHb H G ow σ δ v d Z R r=>by
 cases d with
 |tuple ds=>
  rw[show ndT (.tuple ds)=(ds.all fl1&&decide ((ds.filterMap Qn).Nodup))from rfl,aU]at Z
  cases r with
  |tup W Y=>
   obtain⟨as,S,U,V⟩:=GR Y Z.1
   refine⟨as,.tup W S,?_,U⟩
   have nd:(as.map (lenOf H)).Nodup:=by rw[V];exact of_decide_eq_true Z.2
   exact List.Pairwise.of_map (lenOf H) (λa b (h:lenOf H a≠lenOf H b) z=>h (by rw[z])) nd
 |none=>cases Z
 |bool _=>cases Z
 |int _=>cases Z
 |str _=>cases Z
 |list _=>cases Z
 |dict _=>cases Z
end
end XK
namespace XK
open PySem PySem.Spec PyProof.Rows L2 My D3
section
variable{X:Cx}
end
end XK
namespace XT
open PySem PySem.Spec PyProof.Rows L2 My D3 XK
noncomputable def dtI(S:List (List Int)):List (List Key×V):=S.map λk=>(k.map .inl,.bl true)
theorem C_:∀{l:List D}{k:List Int},dX l=some k->tkK l=some (k.map .inl)
 |[],k,h=>by cases h;rfl
 |d::l,k,h=>by
  cases d with
  |int i=>
   unfold dX at h
   cases e:dX l with
   |none=>rw[e]at h;cases h
   |some r=>
    rw[e]at h
    cases h
    rw[tkK,C_ e]
    rfl
  |_=>unfold dX at h;cases h
theorem Lg:∀{kvs:List (D×D)}{S:List (List Int)},tsD kvs=some S->tkD kvs=some (dtI S)
 |[],S,h=>by cases h;rfl
 | (a,b)::r,S,h=>by
  unfold tsD at h
  split at h
  ·next e=>cases e
  ·next l r' e=>
   cases e
   obtain⟨k,X,Z⟩:=bind1 h
   cases Y:tsD r with
   |none=>rw[Y]at Z;cases Z
   |some W=>
    rw[Y]at Z
    cases Z
    rw[tkD,C_ X,Lg Y]
    rfl
  ·cases h
theorem Uz{S:List (List Int)}(h:tsD kvs=some S)(B:S≠[]):kvs≠[]:=λz=>by
 subst z
 cases h
 exact B rfl
theorem Lh:∀{kvs:List (D×D)}{S:List (List Int)},tsD kvs=some S->E_ kvs=true
 |[],_,_=>rfl
 | (a,b)::r,S,h=>by
  unfold tsD at h
  split at h
  ·next e=>cases e
  ·next e=>
   cases e
   cases Z:tsD r with
   |none=>simp[Z]at h
   |some S=>exact(show E_ r=true from Lh Z)
  ·cases h
theorem UG{S:List (List Int)}(h:tsD kvs=some S)(B:S≠[]):dh0 kvs = .dT (dtI S):=by
 have:=Uz h B
 cases kvs with
 |nil=>exact absurd rfl this
 |cons q r=>
  unfold dh0
  dsimp only
  rw[Lg h]
theorem xJ{ok:Ok}:∀{xs:List V}{l:List D}{k:List Int},RAs K ok pl H xs l->dX l=some k->xs=(k.map Sum.inl).map kV
 |_,_,k,.nil,h=>by cases h;rfl
 |_,_,k,.cons (d:=d) a q,h=>by
  cases d with
  |int i=>
   unfold dX at h
   cases e:dX _ with
   |none=>rw[e]at h;cases h
   |some r=>
    rw[e]at h
    cases h
    rw[a.intE,xJ q e]
    rfl
  |_=>unfold dX at h;cases h
theorem GX{ok:Ok}{y:D}{k:List Int}(e:CP y=some k)(r:RA K ok pl H v y):∃b,v = .ref b/\H b=some (.tup ((k.map Sum.inl).map kV)):=by
 cases y with
 |tuple l=>
  obtain⟨b,xs,rfl,h1,h2⟩:=r.tupE0
  rw[<-xJ h2 e]
  exact⟨b,rfl,h1⟩
 |_=>cases e
theorem Qx{ok:Ok}{x:D}{S:List (List Int)}(e:Zo x=some S)(B:S≠[])(r:RA K ok pl H v x):∃a,v = .ref a/\L2.Rd H a (.dT (dtI S)):=by
 cases x with
 |dict kvs=>
  obtain⟨a,rfl,h⟩:=r.dicE (Lh e)
  rw[UG e B]at h
  exact⟨a,rfl,h⟩
 |_=>cases e
theorem GZ:∀{k B:List Int},k.map (Sum.inl:Int->Key)=B.map Sum.inl->k=B
 |[],[],_=>rfl
 |[],_::_,h=>by cases h
 |_::_,[],h=>by cases h
 |a::k,b::B,h=>by
  rw[bf,bf]at h
  injection h with h1 h2
  injection h1 with h1
  rw[h1,GZ h2]
section
variable{K:PySem.W.Frag}{fl:List Fl}
end
section
variable{X:Cx}{fl:List Fl}{e a b c ke:Expr}{f fa fb fc fk:FE}{pos:Pos}
end
end XT
namespace XT
open PySem PySem.Spec PyProof.Rows L2 My D3 XK
end XT
namespace XV
open PySem PySem.Spec PyProof.Rows L2 My D3
section
variable{K:PySem.W.Frag}{fl:List Fl}
end
end XV
namespace XB
open PySem PySem.Spec PyProof.Rows L2 My D3 XK
section
variable{K:PySem.W.Frag}{fl:List Fl}
end
section
variable{X:Cx}{fl:List Fl}{e a b c ke:Expr}{f fa fb fc fk:FE}{pos:Pos}
end
end XB
namespace XB
open PySem PySem.Spec PyProof.Rows L2 My D3 XK
section
variable{X:Cx}{fl:List Fl}{e:Expr}{pos:Pos}
theorem Am(hc:X.calm=true):m_ X (.builtin "sorted") (λxs H Q=>∃(p:Addr)(ks:List (Key×V))(is:List Int),xs=[.ref p]/\L2.Rd H p (.dK ks)/\ks.map (·.1)=is.map Sum.inl/\is.length<64/\∀l,H l=none->Q (.ref l) (upd H l (.lst ((Iw is).map V.int)))):=by
 intro pins s σ H xs us Q I r h
 obtain⟨p,ks,is,rfl,D,z,Z,q⟩:=h
 obtain⟨u,rfl,G⟩:=vals1 r
 cases G
 obtain⟨_,hd,vs,rel,g⟩:=zq I.hok D
 obtain⟨ep,M⟩:=g.dictAt
 have L:vs.map (·.1)=is.map Sum.inl:=by rw[<-rel.keys];exact z
 have hlen:vs.length=is.length:=by
  have:=congrArg m6 L
  rwa[aB,aB]at this
 refine Calls.call_function_entry kind_sorted plain_sorted entry_sorted (args_sorted1 _) ?_
 unfold Builtin.«sorted»
 refine wpAny_bind (m:=checkCount "sorted" 1 1 _) (wpAny_pure ?_)
 refine wpAny_bind (PySem.W.kdu_collect (A:=X.A.in1) (PySem.W.kdl_dict (knd:=iT X.prog X.w) (kvs:=vs) (ep:=ep) hd) (I.ok.hd hc) M (by rw[hlen];exact bL (eY Z) (by decide)) λh' tk acc C Y=>?_)
 have O:acc.toList.length=is.length:=by rw[bx,Y.1,hlen]
 have y:IntsAre acc.toList is:=GQ _ _ O λj v P=>by
  obtain⟨k,x,N,S⟩:=Y.2 j v (by rw[<-cB];exact P)
  have R:(vs.map (·.1))[j]? = some k:=by rw[aX,N];rfl
  rw[L,aX]at R
  cases K:is[j]? with
  |none=>rw[K]at R;cases R
  |some i=>
   rw[K]at R
   have n:k=Sum.inl i:=by
    cases R
    rfl
   subst n
   rw[Er]at S
   obtain⟨t,rfl⟩:∃t,v=Value.int i t:=Value.isInt_shape S
   exact⟨i,t,rfl,rfl⟩
 have J:L2.Inv X pins σ H {s with heap:=h',toks:=tk}:=I.kept C
 refine wpAny_bind (wpAny_newList ?_ (by rw[O];exact bL (eY Z) (by decide)))
 have U:(h'.push (seqObj "list" acc.toList.toArray 0)).get? h'.objs.size=some (seqObj "list" acc.toList.toArray 0):=Heap.get?_push_size _ rfl
 show wpAny _ _ _ _ _ {s with heap:=h'.push (seqObj "list" acc.toList.toArray 0),toks:=tk}
 refine wpAny_bind (wpAny_holding (wpAny_call_entry slot_list_sort ⟨_,U,rfl⟩ entry_list_sort (list_sort_tree U y (by rw[O];exact Z) λout F c d f=>⟨_,rfl,?_⟩) (args_list_sort _)))
 refine wpAny_pure ⟨_,rfl,?_⟩
 obtain rfl:=yX (d.trans (uE _).symm) f (uW _)
 obtain⟨e,B⟩:=sortedHeap_at (out:=out) U
 have hn:H h'.objs.size=none:=J.hok.fresh (aL _)
 have E:(Iw is).length=is.length:=(uE _).length_eq
 have I2:=J.laid (h':=sortedHeap (h'.push (seqObj "list" acc.toList.toArray 0)) h'.objs.size acc.toList out) (t':=tk) (a:=h'.objs.size) (o:=.lst ((Iw is).map V.int)) (λb u e=>by
  have T:=Heap.lt_size e
  rw[sortedHeap_old (aZ T) (by rw[size_push'];exact fW T)]
  exact Heap.get?_push_of_some _ e) (aL _)
  ⟨by rw[aB,E];exact bL (eY Z) (by decide),out.toList,e,D3.oG c,by simpa[seqObj]using B⟩
 exact⟨.ref _,_,I2,rfl,q _ hn⟩
end
end XB
namespace XD
open PySem PySem.Spec PyProof.Rows L2 My D3 XK
section
variable{X:Cx}{fl:List Fl}{e a b c ke ve:Expr}{f fa fb fc fk fv:FE}{pos:Pos}
end
section
variable{K:PySem.W.Frag}{fl:List Fl}
end
section
variable{X:Cx}{pins:List (Addr×Obj)}{σ:L2.St}{H:Hp}{s:Shared}{a:Addr}{kvs:List (Key×V)}{k:Key}{z:V}{u r:Value}{A:Around}{E:Value->Shared->Prop}
end
section
variable{X:Cx}{o e f:Expr}{apos cpos:Pos}{td ty tx:TE}
end
section
variable{X:Cx}{fl:List Fl}{ke ve:Expr}{fk fv:FE}{pos:Pos}
theorem set_same{y:D}(h:δ[i]? = some (some (.d y))):δ.set i (some (.d y))=δ:=by
 apply cF
 intro j
 rw[kO]
 split
 ·next z=>
  subst z
  split
  ·exact h.symm
  ·next z=>rw[bB (Nat.le_of_not_lt z)]at h;cases h
 ·rfl
end
end XD
namespace TD
open PySem PySem.Spec PyProof.Rows
section
variable{prog:Program}{w:World}{A:Around}{E:Value->Shared->Prop}{s:Shared}{d it:Addr}{es:Array DictEntry}{i ep:Nat}
noncomputable def vm(h:Heap)(d:Addr)(es:Array DictEntry)(ep:Nat):Prop:=∃o,h.get? d=some o/\o.ExactDict/\o.data = .dict es ep
theorem vm.typ(m:vm s.heap d es ep):s.TypeIs (.ref d) "dict" := let⟨o,h1,h2,_⟩:=m;⟨o,h1,h2.1⟩
theorem vm.kept(m:vm h d es ep)(k:∀o,h.get? d=some o->h'.get? d=some o):vm h' d es ep:=let⟨o,h1,r⟩:=m;⟨o,k o h1,r⟩
theorem UJ(lo:(d==sysModules)=false)(m:vm s.heap d es ep)(q:Q (.ref s.heap.objs.size) {s with heap:=s.heap.push {cls:=.type "dict_keyiterator", data:=.fields #[.ref d,.int 0 0,.int es.size 0,.int ep 0]} }):
 wpAny (model prog w) A (pyIter (.ref d)) Q E s:=by
 obtain⟨o,h1,h2,Z⟩:=id m
 refine wpAny_pyIter_slot m.typ F.slot_dict_iter (wpAny_call_entry F.slot_dict_iter m.typ F.entry_dict_iter ?_ (F.args_dict_iter_1 _))
 unfold Builtin.«dict.__iter__» Builtin.Dict.dictSlotNone
 refine wpAny_bind (wpAny_bind (wpAny_notOrdered_dict m.typ (wpAny_pure (a:=Value.ref d) ?_)))
 show wpAny _ _ (Builtin.Dict.showsAll d >>= _) _ _ s
 unfold Builtin.Dict.showsAll
 rw[if_neg (by rw[lo];exact aR)]
 refine wpAny_bind (wpAny_pure (wpAny_bind (wpAny_dictEntries h1 Z (wpAny_bind (wpAny_dictEpoch h1 Z (wpAny_bind (wpAny_newObj_type (wpAny_pure ⟨_,rfl, "dict_keyiterator", _,⟨_,Heap.get?_push_size _ rfl,rfl⟩,F.slot_dict_keyiterator_next.lookup,?_⟩))))))))
 simpa[rawInt]using q
theorem UL{Q:Option Value->Shared->Prop}{e:DictEntry}(g:s.heap.IsKeyIter it d i es.size ep)(m:vm s.heap d es ep)(B:es[i]? = some e)
 (q:∀h',h'.IsKeyIter it d (i+1) es.size ep->Heap.SameBut it s.heap h'->Q (some e.key) {s with heap:=h'}):wpAny (model prog w) A (pyNext (.ref it)) Q E s:=by
 obtain⟨o,Z,X,hd⟩:=id g
 obtain⟨od,h1,h2,Y⟩:=id m
 have ty:=g.typeIs
 unfold pyNext
 refine wpAny_bind (wpAny_attempt (wpAny_callSpecial?_slot (name:=Str.ofString "__next__") ty F.slot_dict_keyiterator_next (wpAny_call_entry F.slot_dict_keyiterator_next ty F.entry_dict_keyiterator_next ?_ (F.args_dict_keyiterator_next_1 _))))
 refine wpAny_bind (wpAny_pure (wpAny_bind (wpAny_bind ?_)))
 first|refine wpAny_bind (wpAny_typeNameOfWhole_keyiter ty (wpAny_pure (wpAny_bind (wpAny_fieldsOf Z hd ?_))))|refine wpAny_bind (wpAny_typeNameOf_keyiter ty (wpAny_pure (wpAny_bind (wpAny_fieldsOf Z hd ?_))))
 simp only[show Builtin.Dict_items.ownsTuple "dict_keyiterator"=false by decide,fJ,if_false]
 show wpAny _ _ (if(Value.ref d==Value.none)=true then _ else _) _ _ s
 rw[if_neg (show ¬((Value.ref d==Value.none)=true)from aR)]
 refine wpAny_bind (wpAny_pure (wpAny_bind (wpAny_dictEntries h1 Y ?_)))
 rw[if_neg (by simp)]
 refine wpAny_bind (wpAny_pure (wpAny_bind (wpAny_dictEpoch h1 Y ?_)))
 rw[if_neg (by simp)]
 refine wpAny_pure ?_
 simp only[show ¬((i:Int)<0)from by omega,if_false,dG,B]
 refine wpAny_bind ?_
 first|refine wpAny_bind (wpAny_typeNameOfWhole_keyiter ty (wpAny_pure (wpAny_bind (wpAny_isOneOf_keyiter ty ?_))))|refine wpAny_bind (wpAny_typeNameOf_keyiter ty (wpAny_pure (wpAny_bind (wpAny_isOneOf_keyiter ty ?_))))
 show wpAny _ _ (setField (.ref it) 1 (rawInt ((i:Int)+1)) >>= _) _ _ s
 refine wpAny_bind (wpAny_setField Z hd (by simp) ?_)
 have g':(s.heap.update it (Obj.mapFields (·.setIfInBounds 1 (rawInt ((i:Int)+1))))).IsKeyIter it d (i+1) es.size ep:=
  ⟨_,Heap.get?_update_self _ Z (Obj.isFreed_of_fields (Obj.data_mapFields hd _)),(Obj.cls_mapFields ..).trans X,by rw[Obj.data_mapFields hd];simp[rawInt]⟩
 refine wpAny_bind (wpAny_holding (wpAny_bind (wpAny_isOneOf_keyiter (s:={s with heap:=s.heap.update it (Obj.mapFields (·.setIfInBounds 1 (rawInt ((i:Int)+1))))}) g'.typeIs ?_)))
 show wpAny _ _ (pure e.key) _ _ _
 exact wpAny_pure (wpAny_pure ⟨_,rfl,wpAny_pure (q _ g' (Heap.SameBut.update ..))⟩)
theorem UW{Q:Option Value->Shared->Prop}(D:A.handled=none)(g:s.heap.IsKeyIter it d i es.size ep)(m:vm s.heap d es ep)(B:es[i]? = none)
 (q:∀h',Heap.ExtBut it s.heap h'->Q none {s with heap:=h'}):wpAny (model prog w) A (pyNext (.ref it)) Q E s:=by
 obtain⟨o,Z,X,hd⟩:=id g
 obtain⟨od,h1,h2,Y⟩:=id m
 have ty:=g.typeIs
 unfold pyNext
 refine wpAny_bind (wpAny_attempt (wpAny_callSpecial?_slot (name:=Str.ofString "__next__") ty F.slot_dict_keyiterator_next (wpAny_call_entry F.slot_dict_keyiterator_next ty F.entry_dict_keyiterator_next ?_ (F.args_dict_keyiterator_next_1 _))))
 refine wpAny_bind (wpAny_pure (wpAny_bind (wpAny_bind ?_)))
 first|refine wpAny_bind (wpAny_typeNameOfWhole_keyiter ty (wpAny_pure (wpAny_bind (wpAny_fieldsOf Z hd ?_))))|refine wpAny_bind (wpAny_typeNameOf_keyiter ty (wpAny_pure (wpAny_bind (wpAny_fieldsOf Z hd ?_))))
 simp only[show Builtin.Dict_items.ownsTuple "dict_keyiterator"=false by decide,fJ,if_false]
 show wpAny _ _ (if(Value.ref d==Value.none)=true then _ else _) _ _ s
 rw[if_neg (show ¬((Value.ref d==Value.none)=true)from aR)]
 refine wpAny_bind (wpAny_pure (wpAny_bind (wpAny_dictEntries h1 Y ?_)))
 rw[if_neg (by simp)]
 refine wpAny_bind (wpAny_pure (wpAny_bind (wpAny_dictEpoch h1 Y ?_)))
 rw[if_neg (by simp)]
 refine wpAny_pure ?_
 simp only[show ¬((i:Int)<0)from by omega,if_false,dG,B]
 refine wpAny_bind ?_
 first|refine wpAny_bind (wpAny_typeNameOfWhole_keyiter ty (wpAny_pure ?_))|refine wpAny_bind (wpAny_typeNameOf_keyiter ty (wpAny_pure ?_))
 refine wpAny_bind (m:=setField (.ref it) 0 .none) (wpAny_setField Z hd (by simp) ?_)
 refine wpAny_bind (m:=newExc (.type "StopIteration") []) ?_
 simp only[newExc,newTuple]
 refine wpAny_bind (wpAny_newObj_type (wpAny_bind (m:=firstArgMember _ _) (wpAny_of_eq (a:=Value.none) (by first|rfl|(simp only[firstArgMember];rfl)) (wpAny_newObj_type ?_ (by size_fits)))) (by size_fits))
 simp only[raiseNew]
 refine wpAny_bind (wpAny_handled ?_)
 rw[show A.in1.handled=none from D]
 refine wpAny_bind (wpAny_pure (wpAny_throw ?_))
 refine wpAny_bind (wpAny_isInstance (b:=true) ⟨_,Heap.get?_push_size _ rfl,rfl⟩ isSubtype_stop (wpAny_pure ?_))
 exact q _ (((Heap.SameBut.update ..).extBut.push _).push _)
theorem Xp(D:A.handled=none)(I d:Addr)(B:d≠I)(es:Array DictEntry)(ep:Nat):Walks prog w A I [I,d] [I] es.size (λi v=>∃e,es[i]? = some e/\v=e.key) (λi h=>h.IsKeyIter I d i es.size ep/\vm h d es ep) where
 sub:=λb Z=>by simp at Z;simp[Z]
 frame:=λ_ _ _ st X=>⟨st.1.at λo e=>X I (by simp) o e,st.2.kept λo e=>X d (by simp) o e⟩
 item:=λi s Q E hi st Y=>UL (e:=es[i]) st.1 st.2 (by simp[hi]) λh' g hs=>Y _ h' s.toks ⟨es[i],by simp[hi],rfl⟩ ⟨g,st.2.kept λo e=>hs.extBut d o B e⟩ λb o Z e=>hs.extBut b o (λh=>Z (by simp[h])) e
 done:=λs Q E st Y=>UW D st.1 st.2 (by simp) λh' W=>Y h' s.toks λb o Z e=>W b o (λh=>Z (by simp[h])) e
 self:=λ_ _ _ _ st Y=>wpAny_pyIter_keyiter st.1 Y
theorem Qy(lo:(d==sysModules)=false):W.KdlSrc prog w "dict" d d es.size (λi v=>∃e,es[i]? = some e/\v=e.key) (λh=>vm h d es ep) where
 type:=λ_ m=>m.typ
 there:=λ_ m=>let⟨_,h1,_⟩:=m;⟨Heap.lt_size h1,Heap.lt_size h1⟩
 keep:=λ_ _ m Y=>m.kept λo e=>Y d (.inl rfl) o e
 notList:=by decide
 notTuple:=by decide
 hint:=λ_ _ _ _ m Z=>W.kdl_hint_dict m.typ Z
 iter:=λA s X m=>⟨_,_,(λ_ _ q=>UJ lo m q),Xp X _ d (let⟨_,h1,_⟩:=m;aZ (Heap.lt_size h1)) es ep,⟨⟨_,Heap.get?_push_size _ rfl,rfl,rfl⟩,m.kept λo e=>Heap.get?_push_of_some _ e⟩⟩
theorem Qz(lo:(d==sysModules)=false)(m:vm s.heap d es ep)(B:(es.size:Int)<2^63)(q:∀t tk,Q (.int es.size t) {s with toks:=tk}):wpAny (model prog w) A (call (.builtin "len") [.ref d]) Q E s:=by
 obtain⟨o,h1,h2,Z⟩:=id m
 refine Calls.call_function_entry kind_len plain_len entry_len (args_len1 _) ?_
 unfold Builtin.«len»
 refine wpAny_bind (m:=oneArg "len" _) (wpAny_pure (wpAny_bind (m:=callSpecial? (.ref d) (Str.ofString "__len__")) (wpAny_callSpecial?_slot (name:=Str.ofString "__len__") m.typ F.slot_dict_len (wpAny_call_entry F.slot_dict_len m.typ F.entry_dict_len ?_ (F.args_dict_len_1 _)))))
 refine wpAny_bind (m:=dictSize d) ?_
 unfold dictSize
 refine wpAny_bind (wpAny_dictEntries h1 Z (wpAny_pure (wpAny_bind (m:=Builtin.Dict.pendingCount d) (wpAny_pendingCount_other lo ?_))))
 refine wpAny_bind (wpAny_mkInt (wpAny_pure ⟨_,rfl,?_⟩))
 rw[mD]
 refine wpAny_bind (wpAny_holding (wpAny_pure (wpAny_bind (wpAny_letGo ?_))))
 show wpAny _ _ (if((es.size:Nat):Int)<0 then _ else _) _ _ _
 rw[if_neg (by omega)]
 show wpAny _ _ (if((es.size:Nat):Int)≥2^63 then _ else _) _ _ _
 rw[if_neg (by omega)]
 exact wpAny_bind (wpAny_mkInt (wpAny_pure ⟨_,rfl,q _ _⟩))
end
section
variable{prog:Program}{w:World}{K:Type}[DecidableEq K]{knd:HeapKind prog w K}{A:Around}{E:Value->Shared->Prop}{s:Shared}{d a:Addr}{xs:List (K×Addr×Value)}{k:K}{v:Value}
theorem Li(D:knd.room A.in1)(B:knd.is s.heap k a)(lo:(d==sysModules)=false)(m:s.heap.DictOfH knd d xs)(hz:xs.length<=sizeLine)
 (h1:∀p tk,atKey xs k=some p->Q p.2 {s with toks:=tk}) (h2:∀h' tk,atKey xs k=none->h'.DictOfH knd d (xs++[(k,a,v)])->Heap.SameBut d s.heap h'->Q v {s with heap:=h',toks:=tk}) :
 wpAny (model prog w) A (call (.builtin "dict.setdefault") [.ref d,.ref a,v]) Q E s:=by
 have ty:=m.typeIs
 obtain⟨o,es,ep,Y,P,hd,U,V,hn⟩:=m
 refine wpAny_call_entry F.slot_dict_setdefault ty F.entry_dict_setdefault ?_ (F.args_dict_setdefault_3 _ _ _)
 unfold Builtin.«dict.setdefault» Builtin.Dict.keyAndDefault
 refine wpAny_bind (wpAny_bind (wpAny_notOrdered_dict ty (wpAny_pure (a:=(d,Value.ref a,some v)) ?_)))
 show wpAny _ _ (if(d==sysModules)=true then _ else(dictSetDefault d (.ref a) v >>= _)) _ _ s
 rw[if_neg (by rw[lo];exact aR)]
 refine wpAny_bind ?_
 unfold dictSetDefault
 try with_reducible refine wpAny_holding ?_
 refine wpAny_bind (knd.pyHash D B (wpAny_bind (wpAny_dictFind_heap (s:={s with toks:=s.toks+knd.draws k}) D B Y hd U V hn (λW=>?_) λj p T=>?_)))
 ·have S:=atKey_none_of_get W
  have X:=not_mem_keys_of_get W
  refine wpAny_bind (wpAny_rule (wpAny_bind (wpAny_updateDictKeys (hz:=by have e:=size_of_entries U;omega) (s:={s with toks:=s.toks+knd.draws k}) Y hd (wpAny_pure (wpAny_pure ⟨_,rfl,h2 _ _ S ⟨_,_,ep+1,Heap.get?_update_self _ Y (Obj.isFreed_of_dict (Obj.data_mapDictKeys hd _)),P.mapDictKeys _,Obj.data_mapDictKeys hd _,?_,?_,?_⟩ (Heap.SameBut.update ..)⟩)))))
  ·simp[U,entryOfKey]
  ·intro x Z
   rcases bW.mp Z with Z|Z
   ·exact knd.keeps (V x Z) Y hd (.update ..)
   ·rw[aO.mp Z]
    exact knd.keeps B Y hd (.update ..)
  ·rw[cN,tH]
   exact⟨hn,by simp,λx Z y R=>by
    rw[show y=k by simpa using R]
    exact λe=>X (e▸Z)⟩
 ·refine wpAny_bind (wpAny_dictEntries (s:={s with toks:=s.toks+knd.draws k}) Y hd ?_)
  rw[entry_at U j,T]
  exact wpAny_bind (wpAny_rule (wpAny_pure (wpAny_pure ⟨_,rfl,h1 p _ (atKey_of_get hn T)⟩)))
end
end TD
variable{S:List D3.Tte}
namespace XJ
open PySem PySem.Spec PyProof.Rows L2 My D3 XK XT XD
theorem Dc:∀k:List Int,flats (k.map PyData.int)=true
 |[]=>rfl
 |i::k=>by rw[bf,flats,Dc k];rfl
theorem QB(q:List Int×Int):flat (ttV q)=true:=by
 show(flats (q.1.map PyData.int)&&true)=true
 rw[Dc]
 rfl
theorem tw_ra{ok:Ok}{q:List Int×Int}(t:TW H v q.1 q.2):RA K ok pl H v (ttV q):=by
 obtain⟨b,c,rfl,h1,h2⟩:=t
 exact .tup h1 (.cons (.tup h2 (qM _)) (.cons (.int _) .nil))
theorem QC(k:List Int):tK kV (k.map Sum.inl)=k.map V.int:=by
 rw[eO]
 rfl
theorem G3{ok:Ok}:∀{xs:List V}{k:List Int},RAs K ok pl H xs (k.map PyData.int)->xs=k.map V.int
 |_,[],.nil=>rfl
 |_,i::k,.cons a q=>by rw[a.intE,G3 q];rfl
theorem Xq{ok:Ok}{q:List Int×Int}(r:RA K ok pl H v (ttV q)):TW H v q.1 q.2:=by
 obtain⟨b,xs,rfl,h1,h2⟩:=r.tupE0
 cases h2 with
 |cons W Z=>
 cases Z with
 |cons Z X=>
 cases X
 obtain⟨c,ys,rfl,Y,V⟩:=W.tupE0
 rw[G3 V]at Y
 obtain rfl:=Z.intE
 exact⟨b,c,rfl,h1,Y⟩
theorem Sx(g:DH H u (ttP S)):(S=[]/\u = .dK [])\/∃q ks,u = .dT (q::ks)/\TTs H (q::ks) (ttP S):=by
 rcases g with⟨Y,Z⟩|⟨ks,rfl,g⟩|g
 ·cases S with
  |nil=>exact .inl ⟨rfl,Z⟩
  |cons q S=>exact absurd Y aR
 ·cases S with
  |nil=>cases g;exact .inl ⟨rfl,rfl⟩
  |cons q S=>cases g
 ·exact .inr g
theorem G4{ok:Ok}{x:D}(e:Je x=some S)(r:RA K ok pl H v x):∃a,v = .ref a/\((S=[]/\L2.Rd H a (.dK []))\/∃q ks,L2.Rd H a (.dT (q::ks))/\TTs H (q::ks) (ttP S)):=by
 obtain rfl:=Al e
 obtain⟨a,u,rfl,h2,g⟩:=RA.dicU (kvs:=ttP S) r
 rcases Sx g with⟨h,rfl⟩|⟨q,ks,rfl,t⟩
 ·exact⟨a,rfl,.inl ⟨h,h2⟩⟩
 ·exact⟨a,rfl,.inr ⟨q,ks,h2,t⟩⟩
theorem Ao:∀{S:List Tte}{ks:List (List Key×V)}(k:List Int),TTs H ks (ttP S)->(nZ S k=none/\oV ks (k.map Sum.inl)=none)\/∃p v,nZ S k=some p/\oV ks (k.map Sum.inl)=some v/\TW H v p.1 p.2
 |[],_,k,h=>by cases h;exact .inl ⟨rfl,rfl⟩
 |q::S,ks,k,h=>by
  obtain⟨v,r,rfl,t,Y⟩:∃v r,ks=(q.1.map Sum.inl,v)::r/\TW H v q.2.1 q.2.2/\TTs H r (ttP S):=by
   generalize Z:ttP (q::S)=g at h
   cases h with
   |nil=>cases Z
   |cons t r=>
    rename_i W m z v X Q
    have Z:(rwD q.1,ttV q.2)::ttP S=_:=Z
    injection Z with h1 h2
    injection h1 with h1 U
    have R:q.1=W:=by
     have:=congrArg (λd=>CP d) h1
     simpa[rwD,CP,nF]using this
    have T:q.2=(m,z):=by
     have:=congrArg (λd=>Jf d) U
     have this:q.2.1=m/\q.2.2=z:=by simpa[ttV,rwD,Jf,nF]using this
     exact Prod.ext this.1 this.2
    subst R
    rw[T]
    exact⟨v,X,rfl,t,h2▸r⟩
  by_cases e:q.1=k
  ·refine .inr ⟨q.2,v,?_,xr (by rw[e]),t⟩
   simp[nZ,e]
  ·rw[xu (λz=>e (GZ z))]
   have:nZ (q::S) k=nZ S k:=by simp[nZ,e]
   rw[this]
   exact Ao k Y
theorem Lj{p:List Int×Int}{k:List Int}(t:TW H v p.1 p.2):∀{S:List Tte}{ks:List (List Key×V)},TTs H ks (ttP S)->TTs H (ks++[(k.map Sum.inl,v)]) (ttP (S++[(k,p)])):=by
 intro S ks h
 rw[show ttP (S++[(k,p)])=ttP S++[(rwD k,ttV p)]by unfold ttP;rw[cN];rfl]
 generalize ttP S=g at h ⊢
 induction h with
 |nil=>exact .cons t .nil
 |cons t' _ Z=>exact .cons t' Z
theorem QD{ks:List (List Key×V)}(h:TTs H ks (ttP S)):ks.length=S.length:=by
 have:ks.length=(ttP S).length:=by
  generalize ttP S=g at h ⊢
  induction h with
  |nil=>rfl
  |cons _ _ Z=>rw[bF,bF,Z]
 rw[this,ttP,aB]
section
variable{X:Cx}{fl:List Fl}{e a b:Expr}{fa fb fk fv:FE}{pos:Pos}
theorem Dh(B:X.A.units+1<cLine)(ha:DE X fl .P a fa)(D:DE X fl .P b fb)(hs:Uw b):DE X fl .FC (.Subscript a b pos) (dOp jW fa fb):=PE.imp (Qt B ha D hs) λσ H Q h=>by
 obtain⟨G,ow,δ,d,R,O,q⟩:=h
 obtain⟨x,y,F,I,J⟩:=wO O
 refine⟨G,ow,δ,x,R,F,λv H1 s1 T=>⟨G,ow,δ,y,R.grow s1,I,λu H2 s2 U=>?_⟩⟩
 obtain⟨S,K,L⟩:=bind1 J
 obtain⟨k,M,Y⟩:=bind1 L
 obtain⟨E,rfl,V⟩:=GX M U
 obtain⟨p,rfl,W⟩:=G4 K T
 cases Z:nZ S k with
 |none=>rw[Z]at Y;cases Y
 |some z=>
  rw[Z]at Y
  cases Y
  rcases W with⟨rfl,_⟩|⟨q1,ks,W,t⟩
  ·cases Z
  ·have t:=t.imp λ_ _ z=>jl.same s2 z
   rcases Ao k t with⟨h1,_⟩|⟨C,w,h1,h2,N⟩
   ·rw[h1]at Z;cases Z
   ·rw[h1]at Z
    cases Z
    exact⟨p,w,rfl,.inr ⟨_,_,E,Qu s2 W,rfl,V,h2.symm⟩,q _ H2 (s1.trans s2) (.inl ⟨QB z,tw_ra N⟩)⟩
end
section
variable{K:PySem.W.Frag}{fl:List Fl}
theorem U0{σ:L2.St}{x:D}(R:Rel K fl G ow σ H δ)(Y:fl[i]? = some .N)(hx:aj i δ=some x)(hq:Je x=some S):
 ∃a,σ[i]? = some (some (.ref a))/\((S=[]/\H a=some (.dK []))\/∃q ks,H a=some (.dT (q::ks))/\TTs H (q::ks) (ttP S))/\∀H',Same H H'->∀J B W,TTs H' (J::B) (ttP W)->∃O,Rel K fl G O σ (upd H' a (.dT (J::B))) (δ.set i (some (.d (dtt W)))):=by
 have e:=nq hx
 have hi:i<δ.length:=by
  rcases iM i δ.length with z|z
  ·exact z
  ·rw[bB z]at e;cases e
 obtain⟨v,h1,h2,U⟩:=R.nr i x (by rw[Y];rfl) e
 generalize X:ow.n i=as at h2 U
 obtain rfl:=Al hq
 have h2:RT K H v (.dict (ttP S)) as:=h2
 cases h2 with
 |dic ha Z=>
  rename_i a u
  have fin:∀H',Same H H'->∀J B W,TTs H' (J::B) (ttP W)->∃O,Rel K fl G O σ (upd H' a (.dT (J::B))) (δ.set i (some (.d (dtt W)))):=λH' s J B W t'=>by
   have:=Z.chg
   refine(R.grow s).mutN (as:=[a]) Y hi (by rw[X];exact j8 _) (s _ _ ha) h1 ?_ (λb V=>by rw[X];exact V) (eN.mpr ⟨fH,.nil⟩)
   exact .dic dj (.inr (.inr ⟨J,B,rfl,t'.imp λ_ _ z=>jl.upd (s _ _ ha) z⟩))
  rcases Sx Z with⟨h,rfl⟩|⟨q,ks,rfl,t⟩
  ·exact⟨a,h1,.inl ⟨h,ha⟩,fin⟩
  ·exact⟨a,h1,.inr ⟨q,ks,ha,t⟩,fin⟩
end
section
variable{X:Cx}{pins:List (Addr×Obj)}{σ:L2.St}{H:Hp}{s:Shared}{a b:Addr}{kvs:List (List Key×V)}{k:List Key}{z:V}{u r:Value}{A:Around}{E:Value->Shared->Prop}
theorem U3(I:L2.Inv X pins σ H s)(e:H a=some (.dK [])):L2.Inv X pins σ (upd H a (.dT [])) s:=by
 obtain⟨_,hd,vs,rel,o,es,ep,h1,h2,W,U,Y,V⟩:=Xl I.hok e
 cases rel
 have Z:es.toList=[]:=by
  have:=Y.length
  exact cj.mp this
 exact GP (h':=s.heap) (t':=s.toks) I (by rw[e];exact True.intro) (.refl a s.heap) ⟨o,h1⟩ ⟨cR _,hd,[],.nil,o,es,ep,h1,h2,W,Z,List.nodup_nil⟩
theorem Lk(O:A.units+1<cLine)(I:L2.Inv X pins σ H s)(e:H a=some (.dT kvs))(hl:kvs.length<sizeLine)(D:H b=some (.tup (tK kV k)))(J:RelV z r)
 (h1:∀v B s',oV kvs k=some v->L2.Inv X pins σ H s'->RelV v B->Q B s') (h2:∀s',oV kvs k=none->L2.Inv X pins σ (upd H a (.dT (kvs++[(k,z)]))) s'->Q r s') :
 wpAny (model X.prog X.w) A (call (.builtin "dict.setdefault") [.ref a,.ref b,r]) Q E s:=by
 obtain⟨T,hd,xs,rel,L⟩:=Xm I.hok e
 have S:xs.length=kvs.length:=(Paired.length rel).symm
 refine TD.Li (tupleKind_room_in1 O) (Ft I.hok D) hd L (by rw[S];exact T) (λp tk Y=>?_) λh' tk Y W hs=>?_
 ·have q:=rel.val k
  rw[Y]at q
  cases Z:oV kvs k with
  |none=>rw[Z]at q;cases q
  |some v=>
   rw[Z]at q
   exact h1 v _ _ Z (I.tok _) q
 ·have q:=rel.val k
  rw[Y]at q
  have Z:oV kvs k=none:=by
   cases Z:oV kvs k with
   |none=>rfl
   |some v=>rw[Z]at q;cases q
  obtain⟨o,es,ep,V,M,N,P,_,R⟩:=W
  refine h2 _ Z (GP I (by rw[e];exact True.intro) hs ⟨o,V⟩ ⟨by rw[bJ];exact hl,hd,_,KT.keeps (Paired.snoc rel ⟨rfl,D,J⟩) λc ys U=>?_,o,es,ep,V,M,N,P,R⟩)
  rw[cJ (Bx U e (λz=>nomatch z))]
  exact U
end
noncomputable def Xr(td ty tx:TE):TE:=λσ H Q=>td σ H λx H1=>∃a,x = .ref a/\IsD H1 a/\ty σ H1 λy H2=>tx σ H2 λz Z=>∃k b,y = .ref b/\Z b=some (.tup (tK kV k)) /\
 ((Z a=some (.dK [])/\Q z (upd Z a (.dT [(k,z)])))\/∃kvs,Z a=some (.dT kvs)/\kvs.length<sizeLine/\(∀v,oV kvs k=some v->Q v Z)/\(oV kvs k=none->Q z (upd Z a (.dT (kvs++[(k,z)])))))
section
variable{X:Cx}{o e f:Expr}{apos cpos:Pos}{td ty tx:TE}
theorem QF(B:X.A.units+1<cLine)(ho:PE X o td)(he:PE X e ty)(hf:PE X f tx)(m:M2 X o "setdefault" apos e f cpos):PE X (.Call (.Attribute o "setdefault" apos) [e,f] [] cpos) (Xr td ty tx):=by
 intro pins s σ H Q I h
 refine wpAny_Call_method m.base m.few m.line PySem.F.plainAttrs_dict PySem.F.slot_dict_setdefault PySem.F.type_dict_setdefault (thn (ho pins s σ H _ I h) λu s1 ⟨x,H1,O,G,a,ex,d,q1⟩=>?_)
 subst ex
 obtain rfl:u=Value.ref a:=G
 obtain⟨K,L,_⟩:=Ux O d
 refine⟨K,L,?_⟩
 rw[m.trees]
 refine Calls.callWith_builtin rfl (Calls.evalArgs_plain (Calls.spliced_cons (thn (he pins s1 σ H1 _ O q1) λD s2 ⟨y,H2,r,J,q2⟩=>
  Calls.spliced_cons (thn (hf pins s2 σ H2 _ r q2) λfv s3 ⟨z,N,P,Y,k,b,t,S,T⟩=>Calls.spliced_nil ?_))))
 subst t
 obtain rfl:D=Value.ref b:=J
 rcases T with⟨W,q⟩|⟨kvs,W,C,T,E⟩
 ·have Z:=U3 P W
  have w:upd N a (.dT []) b=some (.tup (tK kV k)):=by
   rw[cJ (Bx S W (λz=>nomatch z))]
   exact S
  exact Lk B Z dj (show 0<sizeLine by decide) w Y (λv M V l _ _=>by cases l) λV _ R=>by
   rw[Oq]at R
   exact⟨z,_,R,Y,q⟩
 ·exact Lk B P W C S Y (λv M V l Z U=>⟨v,N,Z,U,T v l⟩) λV l Z=>⟨z,_,Z,Y,E l⟩
end
section
variable{X:Cx}{fl:List Fl}{ke ve:Expr}{fk fv:FE}{pos:Pos}
theorem Ln{apos cpos:Pos}(hu:X.A.units+1<cLine)(B:fl[i]? = some .N)(hk:DE X fl .P ke fk)(hw:DE X fl .P ve fv)(hN:X.N[i]? = some x)(hm:M2 X (.Name x vpos) "setdefault" apos ke ve cpos)(hv:Vis X.env.scope x:=by first|exact Or.inl rfl|exact Or.inr (Or.inl rfl)|exact Or.inr (Or.inr rfl))(hd:(x==("__debug__":Str))=false:=by decide)
 (D:(x==("__classdict__":Str))=false:=by decide) (hs:swapsWith (.Call (.Attribute (.Name x vpos) "setdefault" apos) [ke,ve] [] cpos) none pos.line X.env=pure false:=by rfl) :
 DS1 X fl (.Expr (.Call (.Attribute (.Name x vpos) "setdefault" apos) [ke,ve] [] cpos) pos) (qm i fk fv):=PS.imp (zT (QF hu (pX hN hv hd D) hk hw hm) hs) λDn σ H r=>by
 obtain⟨G,ow,δ,o,R,Y,q⟩:=r
 obtain⟨y,E,V⟩:=bind1 Y
 clear Y
 obtain⟨f,g,Y⟩:=bind1 V
 clear V
 obtain⟨zz,j,V⟩:=bind1 Y
 clear Y
 obtain⟨S,F,Y⟩:=bind1 V
 clear V
 obtain⟨k,l,V⟩:=bind1 Y
 clear Y
 obtain⟨U,m,Y⟩:=bind1 V
 clear V
 by_cases L:S.length<1000000
 case neg=>rw[if_neg L]at Y;cases Y
 rw[if_pos L]at Y
 cases Y
 obtain⟨p,h1,h2,I⟩:=U0 R B E F
 have O:IsD H p:=by
  rcases h2 with⟨_,h⟩|⟨_,_,h,_⟩
  ·exact .inl ⟨_,.inl h⟩
  ·exact .inr ⟨_,.inl h⟩
 refine⟨_,h1,p,rfl,O,G,ow,δ,_,R,g,λu H1 s1 s=>⟨G,ow,δ,_,R.grow s1,j,λw H2 s2 J=>?_⟩⟩
 obtain⟨b,rfl,n⟩:=GX l s
 rw[Qo m]at J
 have K:TW H2 w U.1 U.2:=Xq J
 have Z:=s1.trans s2
 refine⟨k.map Sum.inl,b,rfl,s2 _ _ n,?_⟩
 rcases h2 with⟨rfl,h⟩|⟨q1,ks,h,t⟩
 ·refine .inl ⟨Z _ _ h,?_⟩
  obtain⟨T,R'⟩:=I H2 Z (k.map Sum.inl,w) [] [(k,U)] (.cons K .nil)
  exact q T σ _ R'
 ·have Q:TTs H2 (q1::ks) (ttP S):=t.imp λ_ _ z=>jl.same Z z
  refine .inr ⟨q1::ks,Z _ _ h,by rw[QD t];exact o8 L (by decide),λv W=>?_,λW=>?_⟩
  ·have M:pG S k U=S:=by
    unfold pG
    rcases Ao k Q with⟨_,b⟩|⟨d,C,a,b,_⟩
    ·rw[b]at W;cases W
    ·rw[if_pos (by rw[a];rfl)]
   rw[M]at q
   rw[<-Al F,set_same (nq E)]at q
   exact q ow σ _ (R.grow Z)
  ·have M:pG S k U=S++[(k,U)]:=by
    unfold pG
    rcases Ao k Q with⟨a,_⟩|⟨d,C,a,b,_⟩
    ·rw[if_neg (by rw[a];simp)]
    ·rw[b]at W;cases W
   rw[M]at q
   obtain⟨T,R'⟩:=I H2 Z q1 (ks++[(k.map Sum.inl,w)]) (S++[(k,U)]) (by
    have:=Lj (k:=k) K Q
    rw[List.cons_append]at this
    exact this)
   exact q T σ _ R'
end
end XJ
variable{xs:Array Keyed}
namespace Sq
open PySem PyProof.Rows
structure Cq where
 nu:Keyed->Int
 ok:Keyed->Prop
 κ:SortKind
class LtOk (prog:Program) (w:World) (A:Around) (s:Shared) (C:Cq):Prop where
 lt:∀{x y:Keyed}{Q:Bool->Shared->Prop}{E:Value->Shared->Prop},C.ok x->C.ok y->Q (decide (C.nu x<C.nu y)) s->wpAny (model prog w) A (keyLt' C.κ x.1 y.1) Q E s
noncomputable def KC(C:Cq)(xs:Array Keyed)(i:Nat):Int:=match xs[i]? with
 |some p=>C.nu p
 |none=>0
noncomputable def STo(C:Cq)(xs:Array Keyed)(k:Nat):Prop:=∀i j,i<=j->j<k->KC C xs i<=KC C xs j
noncomputable def Oks(C:Cq)(xs:Array Keyed):Prop:=∀p,p∈xs.toList->C.ok p
section
variable{C:Cq}
theorem K_congr{ys:Array Keyed}(h:xs[i]? = ys[j]?):KC C xs i=KC C ys j:=by unfold KC;rw[h]
theorem K_bubble{B d:Nat}(hs:B<xs.size)(hd:d<=B)(k:Nat):
 KC C (bubble xs B d) k=if k=B-d then KC C xs B else if B-d<k/\k<=B then KC C xs (k-1)else KC C xs k:=by
 have e:=getElem?_bubble hs d hd k
 split at e
 ·next z=>rw[if_pos z];exact K_congr e
 ·next z=>
  rw[if_neg z]
  split at e
  ·next y=>rw[if_pos y];exact K_congr e
  ·next y=>rw[if_neg y];exact K_congr e
theorem K_mirror(B:j<=xs.size)(k:Nat):
 KC C (mirror xs i j ((j-i)/2)) k=if i<=k/\k<j then KC C xs (i+j-1-k)else KC C xs k:=by
 have e:=getElem?_mirror_all (i:=i) B k
 split at e
 ·next z=>rw[if_pos z];exact K_congr e
 ·next z=>rw[if_neg z];exact K_congr e
theorem K_mirror_equal(D:j<=xs.size)(B:∀k,i<=k->k<j->KC C xs k=KC C xs (j-1))(k:Nat):KC C (mirror xs i j ((j-i)/2)) k=KC C xs k:=by
 rw[K_mirror D]
 split
 ·rw[B _ (by omega) (by omega),B k (by omega) (by omega)]
 ·rfl
end
end Sq
variable{st:SortSt}{arr:Array Keyed}
namespace Sq
open PySem PyProof.Rows
noncomputable def uc:Bool->Keyed->Array Keyed->Nat->Nat->Nat->StateT SortSt Sem (Option Nat):=sortPriv% PySem.Builtin.gallop
noncomputable def bey(left:Bool)(B:Keyed)(arr:Array Keyed)(base i:Nat):StateT SortSt Sem (Option Bool):=do
 let x <-elem' arr (base+i)
 if left then lt' x B else return(<-lt' B x).map (!·)
section
variable{prog:Program}{w:World}{A:Around}{E:Value->Shared->Prop}{s:Shared}{C:Cq}[LtOk prog w A s C]
theorem xK{x y:Keyed}{Q:Option Bool->SortSt->Prop}(J:kindOf st=C.κ)(D:C.ok x)(B:C.ok y)(h:Q (some (decide (C.nu x<C.nu y))) st):wpS (model prog w) A E s (lt' x y) Q st:=by
 rw[lt'_eq]
 refine wpS_bind (wpS_get ?_)
 rw[J]
 exact wpS_bind (wpS_lift (wpAny_attempt (LtOk.lt D B ⟨rfl,wpS_pure h⟩)))
theorem dU{x:Keyed}{Q:Keyed->SortSt->Prop}(B:arr[i]? = some x)(h:Q x st):wpS (model prog w) A E s (elem' arr i) Q st:=by
 rw[elem'_eq,B]
 exact wpS_pure h
noncomputable def Pb(C:Cq)(left:Bool)(B:Keyed)(arr:Array Keyed)(base i:Nat):Bool:=if left then decide ((KC C) arr (base+i)<C.nu B)else !decide (C.nu B<(KC C) arr (base+i))
theorem ud{left:Bool}{B:Keyed}{base:Nat}{Q:Option Bool->SortSt->Prop}(J:kindOf st=C.κ)(D:C.ok B)(ha:∀p∈arr.toList,C.ok p)(hi:base+i<arr.size)(h:Q (some ((Pb C) left B arr base i)) st):wpS (model prog w) A E s (bey left B arr base i) Q st:=by
 have e:arr[base+i]? = some arr[base+i]:=getElem?_pos arr (base+i) hi
 have Z:C.ok arr[base+i]:=ha _ (by simp)
 have Y:(KC C) arr (base+i)=C.nu arr[base+i]:=by unfold KC;rw[e]
 unfold bey
 refine wpS_bind (dU e ?_)
 unfold Pb at h
 rw[Y]at h
 cases left with
 |true=>exact xK J Z D h
 |false=>exact wpS_bind (xK J D Z (wpS_pure h))
theorem lN{left:Bool}{B:Keyed}{base hint:Nat}{Q:Option Nat->SortSt->Prop}(J:kindOf st=C.κ)(D:C.ok B)(ha:∀p∈arr.toList,C.ok p)(hb:base+n<=arr.size)(hh:hint<n)
 (mono:∀i j,i<=j->j<n->(Pb C) left B arr base j=true->(Pb C) left B arr base i=true)
 (h:∀k,k<=n->(∀i,i<k->(Pb C) left B arr base i=true)->(∀i,k<=i->i<n->(Pb C) left B arr base i=false)->Q (some k) st) :
 wpS (model prog w) A E s (uc left B arr base n hint) Q st:=by
 have U:∀i j,i<=j->j<n->(Pb C) left B arr base i=false->(Pb C) left B arr base j=false:=λi j h1 h2 P=>by
  cases e:(Pb C) left B arr base j with
  |false=>rfl
  |true=>rw[mono i j h1 h2 e]at P;cases P
 refine wpS_bind (m:=bey left B arr base hint) (ud J D ha (by omega) ?_)
 dsimp only
 cases e:(Pb C) left B arr base hint with
 |true=>
  rw[if_pos rfl]
  refine wpS_bind (wpS_mono (wpS_forRange (I:=λx c st'=>st'=st/\∃Y o,c=(none,Y,o)/\Y<o/\x+1<=o/\hint+Y<n/\(Pb C) left B arr base (hint+Y)=true)
   (Q:=λc st'=>st'=st/\∃Y o,c=(none,Y,o)/\Y<o/\hint+Y<n/\(Pb C) left B arr base (hint+Y)=true/\(o≥n-hint\/(hint+o<n/\(Pb C) left B arr base (hint+o)=false))) ?step ?fin ⟨rfl,0,1,rfl,by omega,by omega,by omega,e⟩) ?post)
  case fin=>
   rintro c st' ⟨rfl,Y,o,rfl,T,R,V,W⟩
   exact⟨rfl,Y,o,rfl,T,V,W,.inl (by omega)⟩
  case step=>
   rintro x c st' _ K ⟨rfl,Y,o,rfl,T,R,V,W⟩
   dsimp only
   by_cases X:o≥n-hint
   ·rw[if_pos X]
    exact wpS_pure ⟨rfl,Y,o,rfl,T,V,W,.inl X⟩
   ·rw[if_neg X]
    refine wpS_bind (ud J D ha (by omega) ?_)
    dsimp only
    cases L:(Pb C) left B arr base (hint+o)with
    |true=>
     rw[if_neg (by decide)]
     exact wpS_pure ⟨rfl,o,2*o+1,rfl,by omega,by omega,by omega,L⟩
    |false=>
     rw[if_pos (by decide)]
     exact wpS_pure ⟨rfl,Y,o,rfl,T,V,W,.inr ⟨by omega,L⟩⟩
  case post=>
   rintro c st' ⟨rfl,Y,o,rfl,T,V,W,S⟩
   have h1:hint+Y+1<=hint+min o (n-hint):=by omega
   have h2:hint+min o (n-hint)<=n:=by omega
   have P:∀i,i<hint+Y+1->(Pb C) left B arr base i=true:=λi hi=>mono i _ (by omega) V W
   have M:∀i,hint+min o (n-hint)<=i->i<n->(Pb C) left B arr base i=false:=λi i1 i2=>by
    rcases S with S|⟨S,G⟩
    ·omega
    ·exact U _ i (by omega) i2 G
   dsimp only
   generalize hint+Y+1=O at h1 P ⊢
   generalize hint+min o (n-hint)=N at h1 h2 M ⊢
   refine wpS_bind (wpS_mono (wpS_forRange (I:=λx c Z=>Z=st'/\∃hi lo,c=(none,lo,hi)/\lo<=hi/\hi<=n/\hi-lo<=n-x/\(∀i,i<lo->(Pb C) left B arr base i=true)/\(∀i,hi<=i->i<n->(Pb C) left B arr base i=false))
    (Q:=λc Z=>Z=st'/\∃hi lo,c=(none,lo,hi)/\hi<=n/\(∀i,i<hi->(Pb C) left B arr base i=true)/\(∀i,hi<=i->i<n->(Pb C) left B arr base i=false)) ?sT ?fT ⟨rfl,N,O,rfl,h1,h2,by omega,P,M⟩) ?pT)
   case fT=>
    rintro c Z ⟨rfl,hi,lo,rfl,T,R,V,W,S⟩
    have:lo=hi:=by omega
    subst this
    exact⟨rfl,lo,lo,rfl,R,W,S⟩
   case sT=>
    rintro x c Z _ K ⟨rfl,hi,lo,rfl,T,R,V,W,S⟩
    dsimp only
    by_cases X:lo≥hi
    ·rw[if_pos X]
     have:lo=hi:=by omega
     subst this
     exact wpS_pure ⟨rfl,lo,lo,rfl,R,W,S⟩
    ·rw[if_neg X]
     have hm:lo+(hi-lo)/2<hi:=by omega
     refine wpS_bind (ud J D ha (by omega) ?_)
     dsimp only
     cases e:(Pb C) left B arr base (lo+(hi-lo)/2)with
     |true=>
      rw[if_pos rfl]
      exact wpS_pure ⟨rfl,hi,lo+(hi-lo)/2+1,rfl,by omega,R,by omega,λi H=>mono i _ (by omega) (by omega) e,S⟩
     |false=>
      rw[if_neg aR]
      exact wpS_pure ⟨rfl,lo+(hi-lo)/2,lo,rfl,by omega,by omega,by omega,W,λi i1 i2=>U _ i i1 i2 e⟩
   case pT=>
    rintro c Z ⟨rfl,hi,lo,rfl,T,R,V⟩
    exact wpS_pure (h hi T R V)
 |false=>
  rw[if_neg aR]
  refine wpS_bind (wpS_mono (wpS_forRange (I:=λx c st'=>st'=st/\∃Y o,c=(none,Y,o)/\Y<o/\x+1<=o/\Y<=hint/\(Pb C) left B arr base (hint-Y)=false)
   (Q:=λc st'=>st'=st/\∃Y o,c=(none,Y,o)/\Y<o/\Y<=hint/\(Pb C) left B arr base (hint-Y)=false/\(o≥hint+1\/(o<=hint/\(Pb C) left B arr base (hint-o)=true))) ?step2 ?fin2 ⟨rfl,0,1,rfl,by omega,by omega,by omega,e⟩) ?post2)
  case fin2=>
   rintro c st' ⟨rfl,Y,o,rfl,T,R,V,W⟩
   exact⟨rfl,Y,o,rfl,T,V,W,.inl (by omega)⟩
  case step2=>
   rintro x c st' _ K ⟨rfl,Y,o,rfl,T,R,V,W⟩
   dsimp only
   by_cases X:o≥hint+1
   ·rw[if_pos X]
    exact wpS_pure ⟨rfl,Y,o,rfl,T,V,W,.inl X⟩
   ·rw[if_neg X]
    refine wpS_bind (ud J D ha (by omega) ?_)
    dsimp only
    cases L:(Pb C) left B arr base (hint-o)with
    |true=>
     rw[if_pos rfl]
     exact wpS_pure ⟨rfl,Y,o,rfl,T,V,W,.inr ⟨by omega,L⟩⟩
    |false=>
     rw[if_neg aR]
     exact wpS_pure ⟨rfl,o,2*o+1,rfl,by omega,by omega,by omega,L⟩
  case post2=>
   rintro c st' ⟨rfl,Y,o,rfl,T,V,W,S⟩
   have h1:hint+1-min o (hint+1)<=hint-Y:=by omega
   have h2:hint-Y<=n:=by omega
   have P:∀i,i<hint+1-min o (hint+1)->(Pb C) left B arr base i=true:=λi hi=>by
    rcases S with S|⟨S,G⟩
    ·omega
    ·exact mono i _ (by omega) (by omega) G
   have M:∀i,hint-Y<=i->i<n->(Pb C) left B arr base i=false:=λi i1 i2=>U _ i i1 i2 W
   dsimp only
   generalize hint+1-min o (hint+1)=O at h1 P ⊢
   generalize hint-Y=N at h1 h2 M ⊢
   refine wpS_bind (wpS_mono (wpS_forRange (I:=λx c Z=>Z=st'/\∃hi lo,c=(none,lo,hi)/\lo<=hi/\hi<=n/\hi-lo<=n-x/\(∀i,i<lo->(Pb C) left B arr base i=true)/\(∀i,hi<=i->i<n->(Pb C) left B arr base i=false))
    (Q:=λc Z=>Z=st'/\∃hi lo,c=(none,lo,hi)/\hi<=n/\(∀i,i<hi->(Pb C) left B arr base i=true)/\(∀i,hi<=i->i<n->(Pb C) left B arr base i=false)) ?sT ?fT ⟨rfl,N,O,rfl,h1,h2,by omega,P,M⟩) ?pT)
   case fT=>
    rintro c Z ⟨rfl,hi,lo,rfl,T,R,V,W,S⟩
    have:lo=hi:=by omega
    subst this
    exact⟨rfl,lo,lo,rfl,R,W,S⟩
   case sT=>
    rintro x c Z _ K ⟨rfl,hi,lo,rfl,T,R,V,W,S⟩
    dsimp only
    by_cases X:lo≥hi
    ·rw[if_pos X]
     have:lo=hi:=by omega
     subst this
     exact wpS_pure ⟨rfl,lo,lo,rfl,R,W,S⟩
    ·rw[if_neg X]
     have hm:lo+(hi-lo)/2<hi:=by omega
     refine wpS_bind (ud J D ha (by omega) ?_)
     dsimp only
     cases e:(Pb C) left B arr base (lo+(hi-lo)/2)with
     |true=>
      rw[if_pos rfl]
      exact wpS_pure ⟨rfl,hi,lo+(hi-lo)/2+1,rfl,by omega,R,by omega,λi H=>mono i _ (by omega) (by omega) e,S⟩
     |false=>
      rw[if_neg aR]
      exact wpS_pure ⟨rfl,lo+(hi-lo)/2,lo,rfl,by omega,by omega,by omega,W,λi i1 i2=>U _ i i1 i2 e⟩
   case pT=>
    rintro c Z ⟨rfl,hi,lo,rfl,T,R,V⟩
    exact wpS_pure (h hi T R V)
end
end Sq
namespace Sq
open PySem PyProof.Rows
noncomputable def yG:Nat->StateT SortSt Sem Unit:=sortPriv% PySem.Builtin.setMinGallop
noncomputable abbrev setG(st:SortSt)(g:Nat):SortSt:=SortSt.mk' (kindOf st) (arrOf st) (pendingOf st) g (failedOf st)
noncomputable def Lp:Array Keyed->Array Keyed->StateT SortSt Sem (Array Keyed):=sortPriv% PySem.Builtin.mergeLo
noncomputable def zA(a b out:Array Keyed)(ia ib:Nat):Array Keyed:=out++a.extract ia a.size++b.extract ib b.size
noncomputable def G5(a b out:Array Keyed)(ia ib:Nat):Array Keyed:=out++b.extract ib b.size++a.extract ia a.size
noncomputable def R(C:Cq)(x y:Keyed):Prop:=C.nu x<=C.nu y
structure MI(C:Cq)(a b out:Array Keyed)(ia ib:Nat):Prop where
 A:(out.toList++a.toList.drop ia).Pairwise (R C)
 B:(out.toList++b.toList.drop ib).Pairwise (R C)
 P:(out.toList++a.toList.drop ia++b.toList.drop ib).Perm (a.toList++b.toList)
section
variable{C:Cq}{a b out:Array Keyed}{ia ib:Nat}
theorem uf{l:List Keyed}(h:i<l.length):l.drop i=l[i]::l.drop (i+1):=jz h
theorem iW(h:ia<a.size):(KC C) a ia=C.nu (a[ia]):=by unfold KC;rw[getElem?_pos a ia h]
theorem MI.pushA(h:(MI C) a b out ia ib)(hi:ia<a.size)(B:∀y∈b.toList.drop ib,(R C) a[ia] y):(MI C) a b (out.push a[ia]) (ia+1) ib:=by
 have hd:a.toList.drop ia=a[ia]::a.toList.drop (ia+1):=uf (by simpa using hi)
 obtain⟨h1,h2,Y⟩:=h
 rw[hd]at h1 Y
 have e:(out.push a[ia]).toList=out.toList++[a[ia]]:=m7
 refine⟨by rw[e,aQ];exact h1,?_,by rw[e];simpa using Y⟩
 rw[e,aQ]
 obtain⟨p1,p2,p3⟩:=aN.mp h2
 obtain⟨q1,q2,X⟩:=aN.mp h1
 refine aN.mpr ⟨p1,bU.mpr ⟨B,p2⟩,λx Z y W=>?_⟩
 rcases aW.mp W with rfl|z
 ·exact X x Z _ aC
 ·exact p3 x Z y z
theorem MI.pushB(h:(MI C) a b out ia ib)(hi:ib<b.size)(B:∀y∈a.toList.drop ia,(R C) b[ib] y):(MI C) a b (out.push b[ib]) ia (ib+1):=by
 have hd:b.toList.drop ib=b[ib]::b.toList.drop (ib+1):=uf (by simpa using hi)
 obtain⟨h1,h2,Y⟩:=h
 rw[hd]at h2 Y
 have e:(out.push b[ib]).toList=out.toList++[b[ib]]:=m7
 refine⟨?_,by rw[e,aQ];exact h2,?_⟩
 ·rw[e,aQ]
  obtain⟨p1,p2,p3⟩:=aN.mp h1
  obtain⟨q1,q2,X⟩:=aN.mp h2
  refine aN.mpr ⟨p1,bU.mpr ⟨B,p2⟩,λx Z y W=>?_⟩
  rcases aW.mp W with rfl|z
  ·exact X x Z _ aC
  ·exact p3 x Z y z
 ·rw[e]
  refine List.Perm.trans ?_ Y
  rw[aQ,aQ,aQ]
  exact List.Perm.append_left _ (by simpa using(List.perm_middle (a:=b[ib]) (l₁:=a.toList.drop ia) (l₂:=b.toList.drop (ib+1))).symm)
theorem gw{x:Array Keyed}:(x.extract i j).toList=(x.toList.drop i).take (j-i):=by
 rw[Array.toList_extract,List.extract_eq_take_drop]
theorem MI.appA(h:(MI C) a b out ia ib){k:Nat}(B:∀x∈(a.toList.drop ia).take k,∀y∈b.toList.drop ib,(R C) x y):(MI C) a b (out++a.extract ia (ia+k)) (ia+k) ib:=by
 have e:(out++a.extract ia (ia+k)).toList=out.toList++(a.toList.drop ia).take k:=by
  rw[cD,gw,n_]
 have d:a.toList.drop ia=(a.toList.drop ia).take k++a.toList.drop (ia+k):=by rw[<-kW,d9]
 obtain⟨h1,h2,X⟩:=h
 obtain⟨p1,p2,p3⟩:=aN.mp h2
 have Z:=h1
 rw[d]at Z X
 obtain⟨q1,q2,W⟩:=aN.mp Z
 refine⟨by rw[e,aQ];exact Z,?_,by rw[e];simpa[aQ]using X⟩
 rw[e,aQ]
 refine aN.mpr ⟨p1,aN.mpr ⟨(aN.mp q2).1,p2,B⟩,λx Y y V=>?_⟩
 rcases bW.mp V with z|z
 ·exact W x Y y (cg _ z)
 ·exact p3 x Y y z
theorem MI.appB(h:(MI C) a b out ia ib){k:Nat}(B:∀x∈(b.toList.drop ib).take k,∀y∈a.toList.drop ia,(R C) x y):(MI C) a b (out++b.extract ib (ib+k)) ia (ib+k):=by
 have e:(out++b.extract ib (ib+k)).toList=out.toList++(b.toList.drop ib).take k:=by
  rw[cD,gw,n_]
 have d:b.toList.drop ib=(b.toList.drop ib).take k++b.toList.drop (ib+k):=by rw[<-kW,d9]
 obtain⟨h1,h2,X⟩:=h
 obtain⟨p1,p2,p3⟩:=aN.mp h1
 have Z:=h2
 rw[d]at Z X
 obtain⟨q1,q2,W⟩:=aN.mp Z
 refine⟨?_,by rw[e,aQ];exact Z,?_⟩
 ·rw[e,aQ]
  refine aN.mpr ⟨p1,aN.mpr ⟨(aN.mp q2).1,p2,B⟩,λx Y y V=>?_⟩
  rcases bW.mp V with z|z
  ·exact W x Y y (cg _ z)
  ·exact p3 x Y y z
 ·rw[e]
  refine List.Perm.trans ?_ X
  rw[aQ,aQ,aQ]
  refine List.Perm.append_left _ ?_
  rw[<-aQ,<-aQ]
  exact List.Perm.append_right _ d_
structure Res(C:Cq)(a b r:Array Keyed):Prop where
 P:r.toList.Perm (a.toList++b.toList)
 S:r.toList.Pairwise (R C)
theorem MI.endB(h:(MI C) a b out ia ib)(e:b.size<=ib):(Res C) a b (zA a b out ia ib):=by
 have d:b.toList.drop ib=[]:=gA (by simpa using e)
 have l:(zA a b out ia ib).toList=out.toList++a.toList.drop ia:=by
  unfold zA
  rw[cD,cD,gw,gw,d,List.take_nil,cM,dY (by simp)]
 obtain⟨h1,h2,Z⟩:=h
 rw[d,cM]at Z
 exact⟨by rw[l];exact Z,by rw[l];exact h1⟩
theorem MI.endA(h:(MI C) a b out ia ib)(e:a.size<=ia):(Res C) a b (zA a b out ia ib):=by
 have d:a.toList.drop ia=[]:=gA (by simpa using e)
 have l:(zA a b out ia ib).toList=out.toList++b.toList.drop ib:=by
  unfold zA
  rw[cD,cD,gw,gw,d,List.take_nil,cM,dY (by simp)]
 obtain⟨h1,h2,Z⟩:=h
 rw[d,cM]at Z
 exact⟨by rw[l];exact Z,by rw[l];exact h2⟩
theorem MI.last(h:(MI C) a b out ia ib)(hi:ia<a.size)(B:∀y∈b.toList,(R C) y a[ia])(e:ia+1=a.size):(Res C) a b (G5 a b out ia ib):=by
 have hd:a.toList.drop ia=[a[ia]]:=by
  rw[uf (l:=a.toList) (by simpa using hi),gA (by simpa using Nat.le_of_eq e.symm)]
  rfl
 have l:(G5 a b out ia ib).toList=out.toList++b.toList.drop ib++[a[ia]]:=by
  unfold G5
  rw[cD,cD,gw,gw,hd,dY (by simp),dY (by simp;omega)]
 obtain⟨h1,h2,Z⟩:=h
 rw[hd]at h1 Z
 refine⟨by
  rw[l]
  refine List.Perm.trans ?_ Z
  rw[aQ,aQ]
  exact List.Perm.append_left _ d_,?_⟩
 rw[l]
 refine aN.mpr ⟨h2,eV _ _,λx X y Y=>?_⟩
 rw[aO.mp Y]
 rcases bW.mp X with z|z
 ·exact(aN.mp h1).2.2 x z _ (aO.mpr rfl)
 ·exact B x (lR z)
theorem G6{l:List Keyed}(p:(l.drop i).Pairwise (R C))(h:i<l.length):∀y∈l.drop i,(R C) l[i] y:=λy Z=>by
 rw[uf h]at Z p
 rcases aW.mp Z with rfl|z
 ·exact eU _
 ·exact(bU.mp p).1 y z
end
end Sq
variable{st':SortSt}{out:Array Keyed}
namespace Sq
open PySem PyProof.Rows
structure Eqv(st st':SortSt):Prop where
 k:kindOf st'=kindOf st
 a:arrOf st'=arrOf st
 p:pendingOf st'=pendingOf st
 f:failedOf st'=failedOf st
theorem Eqv.refl(st:SortSt):Eqv st st:=⟨rfl,rfl,rfl,rfl⟩
theorem Eqv.set(h:Eqv st st')(g:Nat):Eqv st (setG st' g):=⟨h.k,h.a,h.p,h.f⟩
section
variable{prog:Program}{w:World}{A:Around}{E:Value->Shared->Prop}{s:Shared}{a b:Array Keyed}{C:Cq}[LtOk prog w A s C]
theorem ug{g:Nat}{Q:Unit->SortSt->Prop}(h:Q () (setG st g)):wpS (model prog w) A E s (yG g) Q st:=wpS_modify h
theorem K_R{x:Array Keyed}(p:x.toList.Pairwise (R C))(B:i<=j)(D:j<x.size):(KC C) x i<=(KC C) x j:=by
 rw[iW D,iW (mR B D)]
 rcases Nat.lt_or_eq_of_le B with z|z
 ·have:=cO.mp p i j (by simpa using mR B D) (by simpa using D) z
  unfold R at this
  simpa using this
 ·subst z;exact eU _
theorem oW{x:Array Keyed}{k:Nat}{p:Keyed}(h:p∈(x.toList.drop i).take k):∃j,j<k/\∃B:i+j<x.size,p=x[i+j]:=by
 obtain⟨j,B,e⟩:=iz h
 rw[bR,cL,bx]at B
 refine⟨j,by omega,by omega,?_⟩
 rw[<-e,m8,kY]
 simp
theorem mY{x:Array Keyed}{p:Keyed}(h:p∈x.toList.drop i):∃j,∃B:i+j<x.size,p=x[i+j]:=by
 obtain⟨j,B,e⟩:=iz h
 rw[cL,bx]at B
 refine⟨j,by omega,?_⟩
 rw[<-e,kY]
 simp
theorem lQ{x:Array Keyed}(h:∀p∈x.toList,C.ok p){i:Nat}(hi:i<x.size):C.ok x[i]:=h _ (by simp)
theorem Xu{Q:Option Nat->SortSt->Prop}{ia ib:Nat}(D:kindOf st=C.κ)(ha:∀p∈a.toList,C.ok p)(J:∀p∈b.toList,C.ok p)(sa:a.toList.Pairwise (R C))(B:b.toList.Pairwise (R C))
 (M:(MI C) a b out ia ib) (i1:ia<a.size) (i2:ib<b.size) (h:∀k,ia+k<=a.size->(MI C) a b (out++a.extract ia (ia+k)) (ia+k) ib->(ia+k<a.size->∀y∈a.toList.drop (ia+k),(R C) b[ib] y)->Q (some k) st) :
 wpS (model prog w) A E s (uc false b[ib] a ia (a.size-ia) 0) Q st:=by
 refine lN D (lQ J i2) ha (by omega) (by omega) (λi j h1 h2 X=>?_) λk k1 k2 W=>h k (by omega) (M.appA λx V y Z=>?_) λY y Z=>?_
 ·unfold Pb at X ⊢
  have:=K_R sa (i:=ia+i) (j:=ia+j) (by omega) (by omega)
  rw[if_neg aR,fX,decide_eq_false_iff_not]at X ⊢
  omega
 ·obtain⟨j,j1,j2,rfl⟩:=oW V
  obtain⟨l,l1,rfl⟩:=mY Z
  have:=k2 j j1
  unfold Pb at this
  rw[if_neg aR,fX,decide_eq_false_iff_not,iW j2]at this
  have q:=K_R B (i:=ib) (j:=ib+l) (by omega) l1
  rw[iW i2,iW l1]at q
  unfold R
  omega
 ·obtain⟨l,l1,rfl⟩:=mY Z
  have:=W k (aL _) (by omega)
  unfold Pb at this
  rw[if_neg aR,mV,decide_eq_true_iff,iW Y]at this
  have q:=K_R sa (i:=ia+k) (j:=ia+k+l) (by omega) l1
  rw[iW Y,iW l1]at q
  unfold R
  omega
theorem Xv{Q:Option Nat->SortSt->Prop}{ia ib:Nat}(D:kindOf st=C.κ)(ha:∀p∈a.toList,C.ok p)(J:∀p∈b.toList,C.ok p)(sa:a.toList.Pairwise (R C))(B:b.toList.Pairwise (R C))
 (M:(MI C) a b out ia ib) (i1:ia<a.size) (i2:ib<b.size) (h:∀k,ib+k<=b.size->(MI C) a b (out++b.extract ib (ib+k)) ia (ib+k)->(∀y∈b.toList.drop (ib+k),(R C) a[ia] y)->Q (some k) st) :
 wpS (model prog w) A E s (uc true a[ia] b ib (b.size-ib) 0) Q st:=by
 refine lN D (lQ ha i1) J (by omega) (by omega) (λi j h1 h2 Y=>?_) λk k1 k2 X=>h k (by omega) (M.appB λx W y Z=>?_) λy Z=>?_
 ·unfold Pb at Y ⊢
  have:=K_R B (i:=ib+i) (j:=ib+j) (by omega) (by omega)
  rw[if_pos rfl,decide_eq_true_iff]at Y ⊢
  omega
 ·obtain⟨j,j1,j2,rfl⟩:=oW W
  obtain⟨l,l1,rfl⟩:=mY Z
  have:=k2 j j1
  unfold Pb at this
  rw[if_pos rfl,decide_eq_true_iff,iW j2]at this
  have q:=K_R sa (i:=ia) (j:=ia+l) (by omega) l1
  rw[iW i1,iW l1]at q
  unfold R
  omega
 ·obtain⟨l,l1,rfl⟩:=mY Z
  have:=X (k+l) (by omega) (by omega)
  unfold Pb at this
  rw[if_pos rfl,decide_eq_false_iff_not,<-rK,iW l1]at this
  unfold R
  omega
theorem Di{Q:Array Keyed->SortSt->Prop}(hk:kindOf st=C.κ)(ha:∀p∈a.toList,C.ok p)(hb:∀p∈b.toList,C.ok p)(a0:0<a.size)(b0:0<b.size)(sa:a.toList.Pairwise (R C))(sb:b.toList.Pairwise (R C))
 (hf:(KC C) b 0<(KC C) a 0) (hl:∀y∈b.toList,(R C) y (a[a.size-1]'(by omega))) (h:∀r st',(Res C) a b r->Eqv st st'->Q r st'):wpS (model prog w) A E s (Lp a b) Q st:=by
 refine wpS_bind (m:=liftM (rule _)) (wpS_lift (wpAny_rule ⟨rfl,?_⟩))
 refine wpS_bind (dU (getElem?_pos b 0 b0) ?_)
 dsimp only
 have M0:(MI C) a b #[b[0]] 0 1:=by
  have hd:b.toList=b[0]::b.toList.drop 1:=by
   have:=uf (l:=b.toList) (i:=0) (by simpa using b0)
   rw[dO]at this
   simpa using this
  refine⟨?_,?_,?_⟩
  ·show([b[0]]++a.toList.drop 0).Pairwise (R C)
   rw[dO]
   refine bU.mpr ⟨λy K=>?_,sa⟩
   obtain⟨l,l1,rfl⟩:=mY (x:=a) (i:=0) (by rw[dO];exact K)
   have q:=K_R sa (i:=0) (j:=0+l) (by omega) l1
   rw[iW a0]at q hf
   rw[iW b0]at hf
   rw[iW l1]at q
   unfold R
   omega
  ·show(b[0]::b.toList.drop 1).Pairwise (R C)
   rw[<-hd];exact sb
  ·show([b[0]]++a.toList.drop 0++b.toList.drop 1).Perm (a.toList++b.toList)
   rw[dO]
   have:=(List.perm_middle (a:=b[0]) (l₁:=a.toList) (l₂:=b.toList.drop 1)).symm
   rw[<-hd]at this
   exact this
 by_cases F:1=b.size
 ·rw[if_pos (by simpa using F)]
  exact wpS_pure (h _ _ (M0.endB (by omega)) (Eqv.refl st))
 rw[if_neg (by simpa using F)]
 have V:∀(out:Array Keyed)(ia ib:Nat),(MI C) a b out ia ib->ia+1=a.size->(Res C) a b (G5 a b out ia ib):=λout ia ib M e=>M.last (by omega) (by
  have:a.size-1=ia:=by omega
  subst this
  exact hl) e
 by_cases c2:0+1=a.size
 ·rw[if_pos (by simpa using c2)]
  exact wpS_pure (h _ _ (V _ _ _ M0 c2) (Eqv.refl st))
 rw[if_neg (by simpa using c2)]
 refine wpS_bind (wpS_get ?_)
 refine wpS_bind (wpS_mono (wpS_forRange (I:=λx c st'=>Eqv st st'/\∃out ia ib g,c=(none,out,ia,ib,g)/\(MI C) a b out ia ib/\ia+1<a.size/\ib<b.size/\x+1<=ia+ib)
  (Q:=λc st'=>Eqv st st'/\∃r,c.1=some r/\(Res C) a b r) ?ostep ?ofin ⟨Eqv.refl st,_,0,1,_,rfl,M0,by omega,by omega,by omega⟩) ?opost)
 case opost=>
  rintro c st' ⟨Eq,r,e,G⟩
  obtain⟨c0,F⟩:=c
  subst e
  exact wpS_pure (h r st' G Eq)
 case ofin=>
  rintro c st' ⟨Eq,out,ia,ib,g,rfl,M,i1,i2,d⟩
  omega
 case ostep=>
  rintro x c st1 _ hx ⟨E1,out,ia,ib,g,rfl,M,i1,i2,d⟩
  dsimp only
  refine wpS_bind (wpS_mono (wpS_forRange (I:=λy c st'=>Eqv st st'/\∃out X W ac U,c=(none,out,X,W,ac,U)/\(MI C) a b out X W/\X+1<a.size/\W<b.size/\ia+ib<=X+W)
   (Q:=λc st'=>Eqv st st'/\((∃r,c.1=some r/\(Res C) a b r)\/∃out X W ac U,c=(none,out,X,W,ac,U)/\(MI C) a b out X W/\X+1<a.size/\W<b.size/\ia+ib<=X+W)) ?step1 ?fin1 ⟨E1,out,ia,ib,0,0,rfl,M,i1,i2,aL _⟩) ?post1)
  case fin1=>
   rintro c st' ⟨Eq,q⟩
   exact⟨Eq,.inr q⟩
  case step1=>
   rintro y c t _ K ⟨N,out,X,W,ac,U,rfl,M,i1,i2,f⟩
   dsimp only
   refine wpS_bind (dU (getElem?_pos b W i2) (wpS_bind (dU (getElem?_pos a X (by omega)) ?_)))
   have L:X<a.size:=by omega
   refine wpS_bind (xK (N.k.trans hk) (lQ hb i2) (lQ ha L) ?_)
   dsimp only
   by_cases lt:C.nu (b[W])<C.nu (a[X])
   ·rw[dTr lt,if_pos rfl]
    refine wpS_bind (dU (getElem?_pos b W i2) ?_)
    have H:=M.pushB i2 λy K=>by
     have:=G6 (aN.mp M.A).2.1 (by simpa using L) y K
     unfold R at this ⊢
     simp at this
     omega
    by_cases z:W+1=b.size
    ·rw[if_pos (by simpa using z)]
     exact wpS_pure ⟨N,.inl ⟨_,rfl,H.endB (by omega)⟩⟩
    ·rw[if_neg (by simpa using z)]
     split
     ·exact wpS_pure ⟨N,.inr ⟨_,_,_,_,_,rfl,H,i1,by omega,by omega⟩⟩
     ·exact wpS_pure ⟨N,_,_,_,_,_,rfl,H,i1,by omega,by omega⟩
   ·rw[dFa lt,if_neg aR]
    refine wpS_bind (dU (getElem?_pos a X L) ?_)
    have H:=M.pushA L λy K=>by
     have:=G6 (aN.mp M.B).2.1 (by simpa using i2) y K
     unfold R at this ⊢
     simp at this
     omega
    by_cases z:X+1+1=a.size
    ·rw[if_pos (by simpa using z)]
     exact wpS_pure ⟨N,.inl ⟨_,rfl,V _ _ _ H z⟩⟩
    ·rw[if_neg (by simpa using z)]
     split
     ·exact wpS_pure ⟨N,.inr ⟨_,_,_,_,_,rfl,H,by omega,i2,by omega⟩⟩
     ·exact wpS_pure ⟨N,_,_,_,_,_,rfl,H,by omega,i2,by omega⟩
  case post1=>
   rintro c t ⟨N,⟨r,e,G⟩|⟨out,X,W,ac,U,rfl,M,i1,i2,f⟩⟩
   ·obtain⟨c0,F⟩:=c
    subst e
    exact wpS_pure ⟨N,r,rfl,G⟩
   dsimp only
   refine wpS_bind (wpS_lift (wpAny_rule ⟨rfl,?_⟩))
   refine wpS_bind (wpS_mono (wpS_forRange (I:=λy c st'=>Eqv st st'/\∃out Y Z g ac U,c=(none,out,Y,Z,g,ac,U)/\(MI C) a b out Y Z/\Y+1<a.size/\Z<b.size/\ia+ib+min y 1<=Y+Z)
    (Q:=λc st'=>Eqv st st'/\((∃r,c.1=some r/\(Res C) a b r)\/∃out Y Z g ac U,c=(none,out,Y,Z,g,ac,U)/\(MI C) a b out Y Z/\Y+1<a.size/\Z<b.size/\ia+ib+1<=Y+Z)) ?step2 ?fin2 ⟨N,out,X,W,_,ac,U,rfl,M,i1,i2,by omega⟩) ?post2)
   case fin2=>
    rintro c st' ⟨Eq,out,Y,Z,g,ac,U,rfl,M,i1,i2,d⟩
    exact⟨Eq,.inr ⟨out,Y,Z,g,ac,U,rfl,M,i1,i2,by omega⟩⟩
   case post2=>
    rintro c u ⟨O,⟨r,e,G⟩|⟨out,Y,Z,g,ac,U,rfl,M,i1,i2,d⟩⟩
    ·obtain⟨c0,F⟩:=c
     subst e
     exact wpS_pure ⟨O,r,rfl,G⟩
    ·dsimp only
     exact wpS_bind (ug (wpS_pure ⟨O.set _,_,_,_,_,rfl,M,i1,i2,by omega⟩))
   case step2=>
    rintro y c u _ K ⟨O,out,S,T,g,ac,U,rfl,M,i1,i2,ms2⟩
    dsimp only
    have gt:∀g':Nat,g'=g':=λ_=>rfl
    by_cases g1:g>1
    case' pos=>rw[if_pos g1]
    case' neg=>rw[if_neg g1]
    all_goals
     refine wpS_bind (ug (wpS_bind (dU (getElem?_pos b T i2) ?_)))
     refine wpS_bind (Xu ((O.set _).k.trans hk) ha hb sa sb M (by omega) i2 λk k1 Mk k2=>?_)
     dsimp only
     by_cases kp:k>0
     case' pos=>
      rw[if_pos kp]
      generalize out++a.extract S (S+k)=o at Mk ⊢
      generalize hi:S+k=i at k1 k2 Mk ⊢
      by_cases q1:i+1=a.size
      case pos=>
       rw[if_pos (by simpa using q1)]
       exact wpS_pure ⟨O.set _,.inl ⟨_,rfl,V _ _ _ Mk q1⟩⟩
      rw[if_neg (by simpa using q1)]
      by_cases q2:i=a.size
      case pos=>
       rw[if_pos (by simpa using q2)]
       exact wpS_pure ⟨O.set _,.inl ⟨_,rfl,Mk.endA (by omega)⟩⟩
      rw[if_neg (by simpa using q2)]
      have J:=k2 (by omega)
      have hle:S<=i:=by omega
      have P:i+1<a.size:=by omega
      clear k1 k2 q1 q2 hi kp M
     case' neg=>
      rw[if_neg kp]
      have k0:k=0:=by omega
      subst k0
      have J:=k2 (by omega)
      rw[mD]at J
      have hle:S<=S:=aL _
      have P:=i1
      have Mk:=M
      clear k1 k2 kp M
    all_goals
     refine wpS_bind (dU (getElem?_pos b T i2) ?_)
     have Mb:=Mk.pushB i2 J
     by_cases q3:T+1=b.size
     case pos=>
      rw[if_pos (by simpa using q3)]
      exact wpS_pure ⟨O.set _,.inl ⟨_,rfl,Mb.endB (by omega)⟩⟩
     rw[if_neg (by simpa using q3)]
     refine wpS_bind (dU (getElem?_pos a _ (fV P)) ?_)
     refine wpS_bind (Xv ((O.set _).k.trans hk) ha hb sa sb Mb (fV P) (by omega) λl l1 Ml l2=>?_)
     dsimp only
     by_cases lp:l>0
     case' pos=>
      rw[if_pos lp]
      by_cases q4:T+1+l=b.size
      case pos=>
       rw[if_pos (by simpa using q4)]
       exact wpS_pure ⟨O.set _,.inl ⟨_,rfl,Ml.endB (by omega)⟩⟩
      rw[if_neg (by simpa using q4)]
      have v:=Ml.pushA (fV P) l2
      have n:T+1+l<b.size:=by omega
     case' neg=>
      rw[if_neg lp]
      have l0:l=0:=by omega
      subst l0
      have v:=Mb.pushA (fV P) l2
      have n:T+1<b.size:=by omega
    all_goals
     refine wpS_bind (dU (getElem?_pos a _ (fV P)) ?_)
     split
     ·next D=>
      exact wpS_pure ⟨O.set _,.inl ⟨_,rfl,V _ _ _ v (by simpa using D)⟩⟩
     ·next D=>
      have D:=by simpa using D
      split
      ·exact wpS_pure ⟨O.set _,.inr ⟨_,_,_,_,_,_,rfl,v,by omega,n,by omega⟩⟩
      ·exact wpS_pure ⟨O.set _,_,_,_,_,_,_,rfl,v,by omega,n,by omega⟩
end
end Sq
namespace Sq
open PySem PyProof.Rows
noncomputable def Lq:Array Keyed->Array Keyed->StateT SortSt Sem (Array Keyed):=sortPriv% PySem.Builtin.mergeHi
noncomputable def zB(a b out:Array Keyed)(na nb:Nat):Array Keyed:=a.extract 0 na++b.extract 0 nb++out.reverse
noncomputable def Aq(a b out:Array Keyed)(na nb:Nat):Array Keyed:=b.extract 0 nb++a.extract 0 na++out.reverse
structure MJ(C:Cq)(a b out:Array Keyed)(na nb:Nat):Prop where
 A:(a.toList.take na++out.toList.reverse).Pairwise (R C)
 B:(b.toList.take nb++out.toList.reverse).Pairwise (R C)
 P:(a.toList.take na++(b.toList.take nb++out.toList.reverse)).Perm (a.toList++b.toList)
section
variable{C:Cq}{a b out:Array Keyed}{na nb:Nat}
theorem vM{x:Array Keyed}(h:i<x.size):x.toList.take (i+1)=x.toList.take i++[x[i]]:=by
 rw[List.take_add_one,au (by simpa using h)]
 simp
theorem Ar{l o:List Keyed}{m:List Keyed}(h:(l++o).Pairwise (R C))(hm:m.Pairwise (R C))(h1:∀x∈l,∀y∈m,(R C) x y)(h2:∀x∈m,∀y∈o,(R C) x y):(l++(m++o)).Pairwise (R C):=by
 obtain⟨p1,p2,p3⟩:=aN.mp h
 refine aN.mpr ⟨p1,aN.mpr ⟨hm,p2,h2⟩,λx Z y Y=>?_⟩
 rcases bW.mp Y with z|z
 ·exact h1 x Z y z
 ·exact p3 x Z y z
theorem MJ.pushA(h:(MJ C) a b out (na+1) nb)(hi:na<a.size)(B:∀x∈b.toList.take nb,(R C) x a[na]):(MJ C) a b (out.push a[na]) na nb:=by
 obtain⟨h1,h2,X⟩:=h
 rw[vM hi]at h1 X
 have e:(out.push a[na]).toList.reverse=[a[na]]++out.toList.reverse:=by simp
 rw[aQ]at h1 X
 obtain⟨q1,q2,W⟩:=aN.mp h1
 refine⟨by rw[e];exact h1,?_,?_⟩
 ·rw[e]
  exact Ar h2 (eV _ _) (λx Y y Z=>by rw[aO.mp Z];exact B x Y) (λx Y y Z=>(aN.mp q2).2.2 x Y y Z)
 ·rw[e]
  refine List.Perm.trans (List.Perm.append_left _ ?_) X
  rw[<-aQ,<-aQ]
  exact List.Perm.append_right _ d_
theorem MJ.pushB(h:(MJ C) a b out na (nb+1))(hi:nb<b.size)(B:∀x∈a.toList.take na,(R C) x b[nb]):(MJ C) a b (out.push b[nb]) na nb:=by
 obtain⟨h1,h2,X⟩:=h
 rw[vM hi]at h2 X
 have e:(out.push b[nb]).toList.reverse=[b[nb]]++out.toList.reverse:=by simp
 rw[aQ]at h2 X
 obtain⟨q1,q2,W⟩:=aN.mp h2
 refine⟨?_,by rw[e];exact h2,by rw[e];exact X⟩
 rw[e]
 exact Ar h1 (eV _ _) (λx Y y Z=>by rw[aO.mp Z];exact B x Y) (λx Y y Z=>(aN.mp q2).2.2 x Y y Z)
theorem xM{l:List Keyed}(h:i<=n):l.take n=l.take i++(l.drop i).take (n-i):=by
 rw[<-List.take_add,Nat.add_sub_cancel' h]
theorem qW{x:Array Keyed}:(out++(x.extract i n).reverse).toList.reverse=(x.toList.drop i).take (n-i)++out.toList.reverse:=by
 rw[cD,List.reverse_append,lU,List.reverse_reverse,gw]
theorem MJ.appA(h:(MJ C) a b out na nb){i:Nat}(hi:i<=na)(B:∀x∈b.toList.take nb,∀y∈(a.toList.drop i).take (na-i),(R C) x y):(MJ C) a b (out++(a.extract i na).reverse) i nb:=by
 obtain⟨h1,h2,Z⟩:=h
 rw[xM hi,aQ]at h1 Z
 obtain⟨q1,q2,Y⟩:=aN.mp h1
 refine⟨by rw[qW];exact h1,?_,?_⟩
 ·rw[qW]
  exact Ar h2 (aN.mp q2).1 B (aN.mp q2).2.2
 ·rw[qW]
  refine List.Perm.trans (List.Perm.append_left _ ?_) Z
  rw[<-aQ,<-aQ]
  exact List.Perm.append_right _ d_
theorem MJ.appB(h:(MJ C) a b out na nb){i:Nat}(hi:i<=nb)(B:∀x∈a.toList.take na,∀y∈(b.toList.drop i).take (nb-i),(R C) x y):(MJ C) a b (out++(b.extract i nb).reverse) na i:=by
 obtain⟨h1,h2,Z⟩:=h
 rw[xM hi,aQ]at h2 Z
 obtain⟨q1,q2,Y⟩:=aN.mp h2
 refine⟨?_,by rw[qW];exact h2,by rw[qW];exact Z⟩
 rw[qW]
 exact Ar h1 (aN.mp q2).1 B (aN.mp q2).2.2
theorem xO:(zB a b out na nb).toList=a.toList.take na++(b.toList.take nb++out.toList.reverse):=by
 unfold zB
 rw[cD,cD,gw,gw,dO,dO,mF,mF,lU,aQ]
theorem MJ.endA(h:(MJ C) a b out 0 nb):(Res C) a b (zB a b out 0 nb):=by
 have e:=xO (a:=a) (b:=b) (out:=out) (na:=0) (nb:=nb)
 rw[kZ,cW]at e
 have p:=h.P
 rw[kZ,cW]at p
 exact⟨by rw[e];exact p,by rw[e];exact h.B⟩
theorem MJ.endB(h:(MJ C) a b out na 0):(Res C) a b (zB a b out na 0):=by
 have e:=xO (a:=a) (b:=b) (out:=out) (na:=na) (nb:=0)
 rw[kZ,cW]at e
 have p:=h.P
 rw[kZ,cW]at p
 exact⟨by rw[e];exact p,by rw[e];exact h.A⟩
theorem MJ.first(h:(MJ C) a b out na 1)(J:0<b.size)(D:∀y∈a.toList,(R C) b[0] y):(Res C) a b (Aq a b out na 1):=by
 have t:b.toList.take 1=[b[0]]:=by rw[vM J,kZ];rfl
 have e:(Aq a b out na 1).toList=[b[0]]++(a.toList.take na++out.toList.reverse):=by
  unfold Aq
  rw[cD,cD,gw,gw,dO,dO,mF,mF,lU,t,aQ]
 have p:=h.P
 have B:=h.B
 rw[t]at p B
 refine⟨?_,?_⟩
 ·rw[e]
  refine List.Perm.trans ?_ p
  rw[<-aQ,<-aQ]
  exact List.Perm.append_right _ d_
 ·rw[e]
  show(b[0]::(a.toList.take na++out.toList.reverse)).Pairwise (R C)
  have B:(b[0]::out.toList.reverse).Pairwise (R C):=B
  refine bU.mpr ⟨λy Z=>?_,h.A⟩
  rcases bW.mp Z with z|z
  ·exact D y (lW z)
  ·exact(bU.mp B).1 y z
theorem uL{x:Array Keyed}{p:Keyed}(h:p∈x.toList.take n):∃j,j<n/\∃B:j<x.size,p=x[j]:=by
 obtain⟨j,j1,j2,e⟩:=oW (i:=0) (by rw[dO];exact h)
 exact⟨j,j1,by omega,by rw[e];congr 1;omega⟩
variable{prog:Program}{w:World}{A:Around}{E:Value->Shared->Prop}{s:Shared}{C:Cq}[LtOk prog w A s C]
theorem U4{Q:Option Nat->SortSt->Prop}(O:kindOf st=C.κ)(ha:∀p∈a.toList,C.ok p)(hb:∀p∈b.toList,C.ok p)(sa:a.toList.Pairwise (R C))(B:b.toList.Pairwise (R C))
 (M:(MJ C) a b out na nb) (i1:0<na) (J:na<=a.size) (i2:0<nb) (D:nb<=b.size) (h:∀k,k<=na->(MJ C) a b (out++(a.extract k na).reverse) k nb->(∀x∈a.toList.take k,(R C) x (b[nb-1]'(by omega)))->Q (some k) st) :
 wpS (model prog w) A E s (uc false (b[nb-1]'(by omega)) a 0 na (na-1)) Q st:=by
 have Z:nb-1<b.size:=by omega
 refine lN O (lQ hb Z) ha (by omega) (by omega) (λi j h1 h2 X=>?_) λk k1 k2 W=>h k k1 (M.appA k1 λx Y y V=>?_) λx Y=>?_
 ·unfold Pb at X ⊢
  have:=K_R sa (i:=0+i) (j:=0+j) (by omega) (by omega)
  rw[if_neg aR,fX,decide_eq_false_iff_not]at X ⊢
  omega
 ·obtain⟨j,j1,j2,rfl⟩:=oW V
  obtain⟨l,l1,l2,rfl⟩:=uL Y
  have:=W (k+j) (by omega) (by omega)
  unfold Pb at this
  rw[if_neg aR,mV,decide_eq_true_iff,fj,iW j2]at this
  have q:=K_R B (i:=l) (j:=nb-1) (by omega) Z
  rw[iW Z,iW l2]at q
  unfold R
  omega
 ·obtain⟨l,l1,l2,rfl⟩:=uL Y
  have:=k2 l l1
  unfold Pb at this
  rw[if_neg aR,fX,decide_eq_false_iff_not,fj,iW l2]at this
  unfold R
  omega
theorem U5{Q:Option Nat->SortSt->Prop}(O:kindOf st=C.κ)(ha:∀p∈a.toList,C.ok p)(hb:∀p∈b.toList,C.ok p)(sa:a.toList.Pairwise (R C))(B:b.toList.Pairwise (R C))
 (M:(MJ C) a b out na nb) (i1:0<na) (J:na<=a.size) (i2:0<nb) (D:nb<=b.size) (h:∀k,k<=nb->(MJ C) a b (out++(b.extract k nb).reverse) na k->(∀x∈b.toList.take k,(R C) x (a[na-1]'(by omega)))->Q (some k) st) :
 wpS (model prog w) A E s (uc true (a[na-1]'(by omega)) b 0 nb (nb-1)) Q st:=by
 have Z:na-1<a.size:=by omega
 refine lN O (lQ ha Z) hb (by omega) (by omega) (λi j h1 h2 X=>?_) λk k1 k2 W=>h k k1 (M.appB k1 λx Y y V=>?_) λx Y=>?_
 ·unfold Pb at X ⊢
  have:=K_R B (i:=0+i) (j:=0+j) (by omega) (by omega)
  rw[if_pos rfl,decide_eq_true_iff]at X ⊢
  omega
 ·obtain⟨j,j1,j2,rfl⟩:=oW V
  obtain⟨l,l1,l2,rfl⟩:=uL Y
  have:=W (k+j) (by omega) (by omega)
  unfold Pb at this
  rw[if_pos rfl,decide_eq_false_iff_not,fj,iW j2]at this
  have q:=K_R sa (i:=l) (j:=na-1) (by omega) Z
  rw[iW Z,iW l2]at q
  unfold R
  omega
 ·obtain⟨l,l1,l2,rfl⟩:=uL Y
  have:=k2 l l1
  unfold Pb at this
  rw[if_pos rfl,decide_eq_true_iff,fj,iW l2]at this
  unfold R
  omega
end
end Sq
variable{na nb:Nat}
namespace Sq
open PySem PyProof.Rows
section
variable{prog:Program}{w:World}{A:Around}{E:Value->Shared->Prop}{s:Shared}{a b:Array Keyed}{C:Cq}[LtOk prog w A s C]
theorem MJ.endA'(h:(MJ C) a b out na nb)(e:na=0):(Res C) a b (zB a b out na nb):=by subst e;exact h.endA
theorem MJ.endB'(h:(MJ C) a b out na nb)(e:nb=0):(Res C) a b (zB a b out na nb):=by subst e;exact h.endB
theorem MJ.first'(h:(MJ C) a b out na nb)(e:nb=1)(D:0<b.size)(B:∀y∈a.toList,(R C) b[0] y):(Res C) a b (Aq a b out na nb):=by subst e;exact h.first D B
theorem MJ.pushA'(h:(MJ C) a b out na nb)(D:0<na)(hi:na-1<a.size)(B:∀x∈b.toList.take nb,(R C) x a[na-1]):(MJ C) a b (out.push a[na-1]) (na-1) nb:=by
 cases na with
 |zero=>omega
 |succ n=>exact MJ.pushA (na:=n) h hi B
theorem MJ.pushB'(h:(MJ C) a b out na nb)(D:0<nb)(hi:nb-1<b.size)(B:∀x∈a.toList.take na,(R C) x b[nb-1]):(MJ C) a b (out.push b[nb-1]) na (nb-1):=by
 cases nb with
 |zero=>omega
 |succ n=>exact MJ.pushB (nb:=n) h hi B
theorem Dj{Q:Array Keyed->SortSt->Prop}(hk:kindOf st=C.κ)(ha:∀p∈a.toList,C.ok p)(hb:∀p∈b.toList,C.ok p)(a0:0<a.size)(b0:0<b.size)(sa:a.toList.Pairwise (R C))(sb:b.toList.Pairwise (R C))
 (hf:(KC C) b 0<(KC C) a 0) (hl:∀y∈b.toList,(R C) y (a[a.size-1]'(by omega))) (h:∀r st',(Res C) a b r->Eqv st st'->Q r st'):wpS (model prog w) A E s (Lq a b) Q st:=by
 have la:a.size-1<a.size:=by omega
 have G:∀y∈a.toList,(R C) b[0] y:=λy hy=>by
  obtain⟨l,l1,rfl⟩:=mY (x:=a) (i:=0) (by rw[dO];exact hy)
  have q:=K_R sa (i:=0) (j:=0+l) (by omega) l1
  rw[iW a0]at q hf
  rw[iW b0]at hf
  rw[iW l1]at q
  unfold R
  omega
 refine wpS_bind (m:=liftM (rule _)) (wpS_lift (wpAny_rule ⟨rfl,?_⟩))
 refine wpS_bind (dU (getElem?_pos a (a.size-1) la) ?_)
 dsimp only
 have M0:(MJ C) a b #[a[a.size-1]] (a.size-1) b.size:=by
  have ta:a.toList.take (a.size-1)++[a[a.size-1]]=a.toList:=by
   rw[<-vM la,Nat.sub_add_cancel a0,dY (by simp)]
  have tb:b.toList.take b.size=b.toList:=dY (by simp)
  refine⟨?_,?_,?_⟩
  ·show(a.toList.take (a.size-1)++[a[a.size-1]]).Pairwise (R C)
   rw[ta];exact sa
  ·show(b.toList.take b.size++[a[a.size-1]]).Pairwise (R C)
   rw[tb]
   exact aN.mpr ⟨sb,eV _ _,λx u y hy=>by rw[aO.mp hy];exact hl x u⟩
  ·show(a.toList.take (a.size-1)++(b.toList.take b.size++[a[a.size-1]])).Perm (a.toList++b.toList)
   rw[tb]
   have:(a.toList.take (a.size-1)++(b.toList++[a[a.size-1]])).Perm (a.toList.take (a.size-1)++([a[a.size-1]]++b.toList)):=List.Perm.append_left _ d_
   rw[<-aQ _ [a[a.size-1]],ta]at this
   exact this
 by_cases t:a.size-1=0
 ·rw[if_pos (by simpa using t)]
  exact wpS_pure (h _ _ (M0.endA' t) (Eqv.refl st))
 rw[if_neg (by simpa using t)]
 by_cases c2:b.size=1
 ·rw[if_pos (by simpa using c2)]
  exact wpS_pure (h _ _ (M0.first' c2 b0 G) (Eqv.refl st))
 rw[if_neg (by simpa using c2)]
 refine wpS_bind (wpS_get ?_)
 refine wpS_bind (wpS_mono (wpS_forRange (I:=λx c st'=>Eqv st st'/\∃(na nb:Nat)(out:Array Keyed)(g:Nat),c=(none,na,nb,out,g)/\(MJ C) a b out na nb/\0<na/\na<=a.size/\1<nb/\nb<=b.size/\na+nb+x+1<=a.size+b.size)
  (Q:=λc st'=>Eqv st st'/\∃r,c.1=some r/\(Res C) a b r) ?ostep ?ofin ⟨Eqv.refl st,_,_,_,_,rfl,M0,by omega,by omega,by omega,by omega,by omega⟩) ?opost)
 case opost=>
  rintro c st' ⟨Eq,r,e,hr⟩
  obtain⟨c0,t⟩:=c
  subst e
  exact wpS_pure (h r st' hr Eq)
 case ofin=>
  rintro c st' ⟨Eq,na,nb,out,g,rfl,M,i1,d,i2,f,ms⟩
  omega
 case ostep=>
  rintro x c st1 _ u ⟨E1,na,nb,out,g,rfl,M,i1,d,i2,f,ms⟩
  dsimp only
  refine wpS_bind (wpS_mono (wpS_forRange (I:=λy c st'=>Eqv st st'/\∃(W X:Nat)(out:Array Keyed)(ac P:Nat),c=(none,W,X,out,ac,P)/\(MJ C) a b out W X/\0<W/\W<=a.size/\1<X/\X<=b.size/\W+X<=na+nb)
   (Q:=λc st'=>Eqv st st'/\((∃r,c.1=some r/\(Res C) a b r)\/∃(W X:Nat)(out:Array Keyed)(ac P:Nat),c=(none,W,X,out,ac,P)/\(MJ C) a b out W X/\0<W/\W<=a.size/\1<X/\X<=b.size/\W+X<=na+nb)) ?step1 ?fin1 ⟨E1,na,nb,out,0,0,rfl,M,i1,d,i2,f,aL _⟩) ?post1)
  case fin1=>
   rintro c st' ⟨Eq,q⟩
   exact⟨Eq,.inr q⟩
  case step1=>
   rintro y c st2 _ hy ⟨K,W,X,out,ac,P,rfl,M,j1,U,j2,T,ms'⟩
   dsimp only
   obtain⟨D,rfl⟩:∃D,W=D+1:=⟨W-1,by omega⟩
   obtain⟨F,rfl⟩:∃F,X=F+1:=⟨X-1,by omega⟩
   simp only[Nat.add_sub_cancel]
   have N:D<a.size:=by omega
   have O:F<b.size:=by omega
   refine wpS_bind (dU (getElem?_pos b F O) (wpS_bind (dU (getElem?_pos a D N) ?_)))
   refine wpS_bind (xK (K.k.trans hk) (lQ hb O) (lQ ha N) ?_)
   dsimp only
   by_cases lt:C.nu (b[F])<C.nu (a[D])
   ·rw[dTr lt,if_pos rfl]
    refine wpS_bind (dU (getElem?_pos a D N) ?_)
    have v:=M.pushA N λx u=>by
     obtain⟨l,l1,l2,rfl⟩:=uL u
     have q:=K_R sb (i:=l) (j:=F) (by omega) O
     rw[iW O,iW l2]at q
     unfold R
     omega
    by_cases z:D=0
    ·rw[if_pos (by simpa using z)]
     subst z
     exact wpS_pure ⟨K,.inl ⟨_,rfl,v.endA⟩⟩
    ·rw[if_neg (by simpa using z)]
     split
     ·exact wpS_pure ⟨K,.inr ⟨_,_,_,_,_,rfl,v,by omega,by omega,j2,T,by omega⟩⟩
     ·exact wpS_pure ⟨K,_,_,_,_,_,rfl,v,by omega,by omega,j2,T,by omega⟩
   ·rw[dFa lt,if_neg aR]
    refine wpS_bind (dU (getElem?_pos b F O) ?_)
    have v:=M.pushB O λx u=>by
     obtain⟨l,l1,l2,rfl⟩:=uL u
     have q:=K_R sa (i:=l) (j:=D) (by omega) N
     rw[iW N,iW l2]at q
     unfold R
     omega
    by_cases z:F=1
    ·rw[if_pos (by simpa using z)]
     subst z
     exact wpS_pure ⟨K,.inl ⟨_,rfl,v.first b0 G⟩⟩
    ·rw[if_neg (by simpa using z)]
     split
     ·exact wpS_pure ⟨K,.inr ⟨_,_,_,_,_,rfl,v,j1,U,by omega,by omega,by omega⟩⟩
     ·exact wpS_pure ⟨K,_,_,_,_,_,rfl,v,j1,U,by omega,by omega,by omega⟩
  case post1=>
   rintro c st2 ⟨K,⟨r,e,hr⟩|⟨W,X,out,ac,P,rfl,M,j1,U,j2,T,ms'⟩⟩
   ·obtain⟨c0,t⟩:=c
    subst e
    exact wpS_pure ⟨K,r,rfl,hr⟩
   dsimp only
   refine wpS_bind (wpS_lift (wpAny_rule ⟨rfl,?_⟩))
   refine wpS_bind (wpS_mono (wpS_forRange (I:=λy c st'=>Eqv st st'/\∃(Y Z:Nat)(out:Array Keyed)(g ac P:Nat),c=(none,Y,Z,out,g,ac,P)/\(MJ C) a b out Y Z/\0<Y/\Y<=a.size/\1<Z/\Z<=b.size/\Y+Z+min y 1<=na+nb)
    (Q:=λc st'=>Eqv st st'/\((∃r,c.1=some r/\(Res C) a b r)\/∃(Y Z:Nat)(out:Array Keyed)(g ac P:Nat),c=(none,Y,Z,out,g,ac,P)/\(MJ C) a b out Y Z/\0<Y/\Y<=a.size/\1<Z/\Z<=b.size/\Y+Z+1<=na+nb)) ?step2 ?fin2 ⟨K,W,X,out,_,ac,P,rfl,M,j1,U,j2,T,by omega⟩) ?post2)
   case fin2=>
    rintro c st' ⟨Eq,S,V,out,g,ac,P,rfl,M,j1,U,j2,T,n⟩
    exact⟨Eq,.inr ⟨S,V,out,g,ac,P,rfl,M,j1,U,j2,T,by omega⟩⟩
   case post2=>
    rintro c st3 ⟨L,⟨r,e,hr⟩|⟨S,V,out,g,ac,P,rfl,M,j1,U,j2,T,n⟩⟩
    ·obtain⟨c0,t⟩:=c
     subst e
     exact wpS_pure ⟨L,r,rfl,hr⟩
    ·dsimp only
     exact wpS_bind (ug (wpS_pure ⟨L.set _,_,_,_,_,rfl,M,j1,U,j2,T,by omega⟩))
   case step2=>
    rintro y c st3 _ hy ⟨L,S,V,out,g,ac,P,rfl,M,j1,U,j2,T,n⟩
    dsimp only
    have B:V-1<b.size:=by omega
    by_cases g1:g>1
    case' pos=>rw[if_pos g1]
    case' neg=>rw[if_neg g1]
    all_goals
     refine wpS_bind (ug (wpS_bind (dU (getElem?_pos b (V-1) B) ?_)))
     refine wpS_bind (U4 ((L.set _).k.trans hk) ha hb sa sb M j1 U (by omega) T λk k1 Mk k2=>?_)
     dsimp only
     by_cases kp:S-k>0
     case' pos=>
      rw[if_pos kp]
      generalize out++(a.extract k S).reverse=o at Mk ⊢
      by_cases q1:k=0
      case pos=>
       rw[if_pos (by simpa using q1)]
       exact wpS_pure ⟨L.set _,.inl ⟨_,rfl,Mk.endA' q1⟩⟩
      rw[if_neg (by simpa using q1)]
      have H:0<k:=by omega
      have hka:k<=a.size:=by omega
      have hkn:k<=S:=k1
     case' neg=>
      rw[if_neg kp]
      have k0:k=S:=by omega
      subst k0
      have Mk:=M
      have H:0<k:=j1
      have hka:k<=a.size:=U
      have hkn:k<=k:=aL _
    all_goals
     refine wpS_bind (dU (getElem?_pos b (V-1) B) ?_)
     have Mb:=Mk.pushB' (by omega) B k2
     by_cases q3:V-1=1
     case pos=>
      rw[if_pos (by simpa using q3)]
      exact wpS_pure ⟨L.set _,.inl ⟨_,rfl,Mb.first' q3 b0 G⟩⟩
     rw[if_neg (by simpa using q3)]
     have J:k-1<a.size:=by omega
     refine wpS_bind (dU (getElem?_pos a (k-1) J) ?_)
     refine wpS_bind (U5 ((L.set _).k.trans hk) ha hb sa sb Mb H hka (by omega) (by omega) λl l1 Ml l2=>?_)
     dsimp only
     by_cases lp:V-1-l>0
     case' pos=>
      rw[if_pos lp]
      by_cases q4:l=1
      case pos=>
       rw[if_pos (by simpa using q4)]
       exact wpS_pure ⟨L.set _,.inl ⟨_,rfl,Ml.first' q4 b0 G⟩⟩
      rw[if_neg (by simpa using q4)]
      by_cases q5:l=0
      case pos=>
       rw[if_pos (by simpa using q5)]
       exact wpS_pure ⟨L.set _,.inl ⟨_,rfl,Ml.endB' q5⟩⟩
      rw[if_neg (by simpa using q5)]
      have Ma:=Ml.pushA' H J l2
      have q6:1<l:=by omega
      have q7:l<=b.size:=by omega
     case' neg=>
      rw[if_neg lp]
      have l0:l=V-1:=by omega
      subst l0
      have Ma:=Mb.pushA' H J l2
      have q6:1<V-1:=by omega
      have q7:V-1<=b.size:=by omega
    all_goals
     refine wpS_bind (dU (getElem?_pos a (k-1) J) ?_)
     by_cases q9:k-1=0
     case pos=>
      rw[if_pos (by simpa using q9)]
      exact wpS_pure ⟨L.set _,.inl ⟨_,rfl,Ma.endA' q9⟩⟩
     rw[if_neg (by simpa using q9)]
     split
     ·exact wpS_pure ⟨L.set _,.inr ⟨_,_,_,_,_,_,rfl,Ma,by omega,by omega,q6,q7,by omega⟩⟩
     ·exact wpS_pure ⟨L.set _,_,_,_,_,_,_,rfl,Ma,by omega,by omega,q6,q7,by omega⟩
end
end Sq
variable{lo hi:Nat}
namespace Sq
open PySem PyProof.Rows
noncomputable def SIn(C:Cq)(xs:Array Keyed)(lo hi:Nat):Prop:=∀i j,lo<=i->i<=j->j<hi->(KC C) xs i<=(KC C) xs j
structure Ch(st st':SortSt)(lo hi:Nat):Prop where
 perm:(arrOf st').Perm (arrOf st)
 kind:kindOf st'=kindOf st
 failed:failedOf st'=failedOf st
 pend:pendingOf st'=pendingOf st
 out:∀i,i<lo\/hi<=i->(arrOf st')[i]? = (arrOf st)[i]?
theorem Ch.refl(st:SortSt)(lo hi:Nat):Ch st st lo hi:=⟨Array.Perm.refl _,rfl,rfl,rfl,λ_ _=>rfl⟩
theorem Ch.size(h:Ch st st' lo hi):(arrOf st').size=(arrOf st).size:=h.perm.size_eq
theorem Ch.ints(h:Ch st st' lo hi)(B:Oks C (arrOf st)):Oks C (arrOf st'):=λp Z=>B p ((dN.mp h.perm).mem_iff.mp Z)
theorem Ch.trans{B:SortSt}(h:Ch st st' lo hi)(g:Ch st' B lo hi):Ch st B lo hi:=⟨g.perm.trans h.perm,g.kind.trans h.kind,g.failed.trans h.failed,g.pend.trans h.pend,λi q=>(g.out i q).trans (h.out i q)⟩
theorem Ch.set(B:xs.Perm (arrOf st))(D:∀i,i<lo\/hi<=i->xs[i]? = (arrOf st)[i]?):Ch st (setArr st xs) lo hi:=⟨B,rfl,rfl,rfl,D⟩
section
variable{prog:Program}{w:World}{A:Around}{E:Value->Shared->Prop}{s:Shared}{C:Cq}[LtOk prog w A s C]
theorem qY{Q:Option Bool->SortSt->Prop}(J:kindOf st=C.κ)(D:Oks C (arrOf st))(hi:i<(arrOf st).size)(B:j<(arrOf st).size)(h:Q (some (decide ((KC C) (arrOf st) i<(KC C) (arrOf st) j))) st):
 wpS (model prog w) A E s (ltAt' i j) Q st:=by
 rw[iW hi,iW B]at h
 rw[ltAt'_eq]
 refine wpS_bind (wpS_get ?_)
 exact wpS_bind (dU (getElem?_pos _ i hi) (wpS_bind (dU (getElem?_pos _ j B) (xK J (D _ (by simp)) (D _ (by simp)) h))))
noncomputable def Gap(C:Cq)(xs:Array Keyed)(lo k l r:Nat):Prop:=(∀i,i<l->(KC C) xs (lo+i)<=(KC C) xs (lo+k))/\∀i,r<=i->i<k->(KC C) xs (lo+k)<(KC C) xs (lo+i)
theorem QG{ok:Nat}{Q:Bool->SortSt->Prop}(B:kindOf st=C.κ)(D:Oks C (arrOf st))(hn:lo+n<=(arrOf st).size)(hok:ok<=n)(hs:(SIn C) (arrOf st) lo (lo+ok))
 (h:∀st',Ch st st' lo (lo+n)->(SIn C) (arrOf st') lo (lo+n)->Q true st'):wpS (model prog w) A E s (binarySort' lo n ok) Q st:=by
 rw[binarySort'_eq]
 refine wpS_bind (wpS_mono (wpS_forRange (I:=λk c st'=>c=(none,())/\Ch st st' lo (lo+n)/\(SIn C) (arrOf st') lo (lo+min k n))
  (Q:=λc st'=>c=(none,())/\Ch st st' lo (lo+n)/\(SIn C) (arrOf st') lo (lo+n)) ?s1 ?f1 ?z1) ?p1)
 case p1=>
  rintro c st' ⟨rfl,ch,X⟩
  exact wpS_pure (h st' ch X)
 case z1=>
  refine⟨rfl,Ch.refl _ _ _,λi j O P K=>?_⟩
  by_cases h1:ok=0
  ·rw[show i=j by omega]
   exact eU _
  ·exact hs i j O P (by omega)
 case f1=>
  rintro c st' ⟨H,ch,X⟩
  refine⟨H,ch,?_⟩
  rwa[show min (max (max ok 1) n) n=n by omega]at X
 case s1=>
  rintro k c st' k1 k2 ⟨rfl,ch,X⟩
  rw[show min k n=k by omega]at X
  have sz:=ch.size
  have Y:lo+k<(arrOf st').size:=by omega
  have R:=ch.ints D
  refine wpS_bind (wpS_mono (wpS_forRange (I:=λx c Z=>∃l r,((Z=st'/\c=(none,l,r))/\l<=r/\r<=k/\r-l<=k-x)/\(Gap C) (arrOf st') lo k l r) (Q:=λc Z=>∃l r,((Z=st'/\c=(none,l,r))/\l<=k)/\(Gap C) (arrOf st') lo k l l) ?s2 ?f2 ?z2) ?p2)
  case z2=>exact⟨0,k,⟨⟨rfl,rfl⟩,by omega,by omega,by omega⟩,λi hi=>by omega,λi h1 h2=>by omega⟩
  case f2=>
   rintro c Z ⟨l,r,⟨⟨rfl,rfl⟩,q1,q2,M⟩,V,W⟩
   have:l=r:=by omega
   subst this
   exact⟨l,l,⟨⟨rfl,rfl⟩,q2⟩,V,W⟩
  case s2=>
   rintro x c Z _ G ⟨l,r,⟨⟨rfl,rfl⟩,q1,q2,M⟩,V,W⟩
   dsimp only
   by_cases N:l≥r
   ·rw[if_pos N]
    have:l=r:=by omega
    subst this
    exact wpS_pure ⟨l,l,⟨⟨rfl,rfl⟩,q2⟩,V,W⟩
   ·rw[if_neg N]
    refine wpS_bind (qY (ch.kind.trans B) R Y (by omega) ?_)
    by_cases U:(KC C) (arrOf Z) (lo+k)<(KC C) (arrOf Z) (lo+(l+r)/2)
    ·simp only[U,decide_true,if_true]
     refine wpS_pure ⟨l,(l+r)/2,⟨⟨rfl,rfl⟩,by omega,by omega,by omega⟩,V,λi h1 h2=>?_⟩
     exact Int.lt_of_lt_of_le U (X _ _ (by omega) (by omega) (by omega))
    ·simp only[U,decide_false,fJ,if_false]
     refine wpS_pure ⟨(l+r)/2+1,r,⟨⟨rfl,rfl⟩,by omega,by omega,by omega⟩,λi h1=>?_,W⟩
     exact gY (X (lo+i) (lo+(l+r)/2) (by omega) (by omega) (by omega)) (Int.not_lt.mp U)
  case p2=>
   rintro c Z ⟨l,r,⟨⟨rfl,rfl⟩,J⟩,V,W⟩
   show wpS _ _ _ _ (do moveDown' (lo+k) (lo+l);pure (ForInStep.yield (none,()))) _ _
   rw[moveDown'_eq]
   have F:lo+k-(lo+l)=k-l:=by omega
   refine wpS_bind (wpS_modify (wpS_pure ⟨rfl,ch.trans (Ch.set (bubble_perm _ _ _) λi hi=>?_),?_⟩))
   ·rw[getElem?_bubble Y _ (by omega)]
    rw[if_neg (by omega),if_neg (by omega)]
   have L:min (k+1) n=k+1:=by omega
   rw[L]
   intro i j O P K
   show(KC C) (bubble (arrOf Z) (lo+k) (lo+k-(lo+l))) i<=(KC C) (bubble (arrOf Z) (lo+k) (lo+k-(lo+l))) j
   rw[K_bubble Y (by omega),K_bubble Y (by omega),show lo+k-(lo+k-(lo+l))=lo+l by omega]
   have T:∀x,lo<=x->x<lo+l->(KC C) (arrOf Z) x<=(KC C) (arrOf Z) (lo+k):=λx h1 h2=>by
    have:=V (x-lo) (by omega)
    rwa[show lo+(x-lo)=x by omega]at this
   have S:∀x,lo+l<=x->x<lo+k->(KC C) (arrOf Z) (lo+k)<(KC C) (arrOf Z) x:=λx h1 h2=>by
    have:=W (x-lo) (by omega) (by omega)
    rwa[show lo+(x-lo)=x by omega]at this
   repeat' split
   all_goals first
    | (exfalso;omega)
    |exact eU _
    |exact T _ (by omega) (by omega)
    |exact tL (S _ (by omega) (by omega))
    |exact X _ _ (by omega) (by omega) (by omega)
end
end Sq
variable{off:Nat}
namespace Sq
open PySem PyProof.Rows
noncomputable def putAll(x:Array Keyed)(off:Nat)(m:List Keyed):Array Keyed:=m.zipIdx.foldl (λa q=>a.setIfInBounds (off+q.2) q.1) x
theorem G7:∀(m:List Keyed)(n off:Nat)(x:Array Keyed),off+n+m.length<=x.size ->
 ((m.zipIdx n).foldl (λa q=>a.setIfInBounds (off+q.2) q.1) x).size=x.size/\∀j,((m.zipIdx n).foldl (λa q=>a.setIfInBounds (off+q.2) q.1) x)[j]? = if off+n<=j/\j<off+n+m.length then m[j-(off+n)]? else x[j]?
 |[],n,off,x,_=>⟨rfl,λj=>by rw[if_neg (by simp only[i_];omega)];rfl⟩
 |p::m,n,off,x,h=>by
  rw[bF]at h
  obtain⟨h1,h2⟩:=G7 m (n+1) off (x.setIfInBounds (off+n) p) (by rw[nM];omega)
  rw[List.zipIdx_cons,List.foldl_cons]
  refine⟨h1.trans nM,λj=>?_⟩
  rw[h2 j,bF]
  by_cases Y:off+(n+1)<=j/\j<off+(n+1)+m.length
  ·rw[if_pos Y,if_pos (by omega),show j-(off+n)=(j-(off+(n+1)))+1 by omega,List.getElem?_cons_succ]
  ·rw[if_neg Y,Array.getElem?_setIfInBounds]
   by_cases Z:off+n=j
   ·rw[if_pos Z,if_pos (by omega),if_pos (by omega),show j-(off+n)=0 by omega,List.getElem?_cons_zero]
   ·rw[if_neg Z,if_neg (by omega)]
theorem xP{x:Array Keyed}{m:List Keyed}(h:off+m.length<=x.size)(j:Nat):(putAll x off m)[j]? = if off<=j/\j<off+m.length then m[j-off]? else x[j]?:=by
 have:=(G7 m 0 off x (by omega)).2 j
 simpa[putAll]using this
theorem Lr{x:Array Keyed}{m:List Keyed}(h:off+m.length<=x.size):(putAll x off m).toList=x.toList.take off++(m++x.toList.drop (off+m.length)):=by
 apply cF
 intro j
 rw[cB,xP h]
 by_cases Z:j<off
 ·rw[if_neg (by omega),bQ (by simp;omega),fL Z,cB]
 ·have l1:(x.toList.take off).length=off:=by simp;omega
  rw[bM (by omega),l1]
  by_cases Y:j<off+m.length
  ·rw[if_pos (by omega),bQ (by omega)]
  ·rw[if_neg (by omega),bM (by omega),dM,cB]
   congr 1
   omega
theorem Ls{x:Array Keyed}{m:List Keyed}(h:off+m.length<=x.size)(p:m.Perm ((x.toList.drop off).take m.length)):(putAll x off m).Perm x:=by
 rw[dN,Lr h]
 have e:x.toList=x.toList.take off++((x.toList.drop off).take m.length++x.toList.drop (off+m.length)):=by
  rw[<-kW,d9,d9]
 refine List.Perm.trans (List.Perm.append_left _ (List.Perm.append_right _ p)) ?_
 rw[<-e]
end Sq
namespace Sq
open PySem PyProof.Rows
section
variable{prog:Program}{w:World}{A:Around}{E:Value->Shared->Prop}{s:Shared}{C:Cq}[LtOk prog w A s C]
theorem Lw{σ:Type}{st B:σ}{Q:PUnit->σ->Prop}(h:Q ⟨⟩ B):wpS M A E s (set B:StateT σ Sem PUnit) Q st:=wpS_modify (f:=λ_=>B) h
theorem vN{x:Array Keyed}(h:Oks C x):∀p∈(x.extract i j).toList,C.ok p:=λp Z=>h p (by
 rw[gw]at Z
 exact lR (lW Z))
theorem Dk{x:Array Keyed}(B:i<=j)(D:j<=x.size):(x.extract i j).size=j-i:=by rw[Array.size_extract];omega
theorem qt{x:Array Keyed}{k:Nat}(D:j<=x.size)(B:i+k<j):(KC C) (x.extract i j) k=(KC C) x (i+k):=by
 unfold KC
 rw[Array.getElem?_extract,if_pos (by omega)]
theorem Sy{x:Array Keyed}(h:∀i j,i<=j->j<x.size->(KC C) x i<=(KC C) x j):x.toList.Pairwise (R C):=cO.mpr λi j hi Y Z=>by
 have:=h i j (eY Z) (by simpa using Y)
 rw[iW (by simpa using hi),iW (by simpa using Y)]at this
 unfold R
 simpa using this
theorem Dm{sa p B p2:Nat}{Q:Bool->SortSt->Prop}(J:kindOf st=C.κ)(D:failedOf st=none)(h0:Oks C (arrOf st))(e1:(pendingOf st)[i]? = some (sa,na,p))(e2:(pendingOf st)[i+1]? = some (B,nb,p2))(hc:B=sa+na)(hn:B+nb<=(arrOf st).size)(n1:0<na)(n2:0<nb)
 (s1:(SIn C) (arrOf st) sa B) (s2:(SIn C) (arrOf st) B (B+nb))
 (h:∀st',(arrOf st').Perm (arrOf st)->kindOf st'=C.κ->failedOf st'=none->pendingOf st'=((pendingOf st).setIfInBounds i (sa,na+nb,p)).eraseIdxIfInBounds (i+1)->(∀j,j<sa\/B+nb<=j->(arrOf st')[j]? = (arrOf st)[j]?)->(SIn C) (arrOf st') sa (B+nb)->Q true st') :
 wpS (model prog w) A E s (mergeAt' i) Q st:=by
 have c:∀p∈(arrOf st).toList,C.ok p:=h0
 have O:B<(arrOf st).size:=by omega
 have hla:sa+na-1<(arrOf st).size:=by omega
 refine wpS_bind (m:=get) (wpS_get ?_)
 rw[e1,e2]
 dsimp only
 refine wpS_bind (Lw ?_)
 refine wpS_bind (dU (getElem?_pos (arrOf st) B O) ?_)
 have Kb:(KC C) (arrOf st) B=C.nu ((arrOf st)[B]):=iW O
 refine wpS_bind (lN (arr:=arrOf st) (base:=sa) (n:=na) (hint:=0) J (lQ c O) c (by omega) n1 (λa b ab b1 o=>?_) λk k1 k2 k3=>?_)
 ·unfold Pb at o ⊢
  have:=s1 (sa+a) (sa+b) (by omega) (by omega) (by omega)
  rw[if_neg aR,fX,decide_eq_false_iff_not]at o ⊢
  omega
 have lo1:∀u,u<k->(KC C) (arrOf st) (sa+u)<=(KC C) (arrOf st) B:=λu T=>by
  have:=k2 u T
  unfold Pb at this
  rw[if_neg aR,fX,decide_eq_false_iff_not]at this
  omega
 have M:∀u,k<=u->u<na->(KC C) (arrOf st) B<(KC C) (arrOf st) (sa+u):=λu Y X=>by
  have:=k3 u Y X
  unfold Pb at this
  rw[if_neg aR,mV,decide_eq_true_iff]at this
  omega
 dsimp only
 by_cases c1:na-k=0
 ·rw[if_pos (by simpa using c1)]
  refine wpS_pure (h _ (Array.Perm.refl _) J D rfl (λ_ _=>rfl) λu v Y W Z=>?_)
  show(KC C) (arrOf st) u<=(KC C) (arrOf st) v
  by_cases V:v<B
  ·exact s1 u v Y W V
  ·by_cases X:u<B
   ·have g:=lo1 (u-sa) (by omega)
    have a2:=s2 B v (aL _) (by omega) Z
    rw[show sa+(u-sa)=u by omega]at g
    omega
   ·exact s2 u v (by omega) W Z
 rw[if_neg (by simpa using c1)]
 have N:sa+k+(na-k)-1<(arrOf st).size:=by omega
 have exl:sa+k+(na-k)-1=B-1:=by omega
 refine wpS_bind (dU (getElem?_pos (arrOf st) (sa+k+(na-k)-1) N) ?_)
 have Ka:(KC C) (arrOf st) (B-1)=C.nu ((arrOf st)[sa+k+(na-k)-1]):=by rw[<-exl];exact iW N
 refine wpS_bind (lN (arr:=arrOf st) (base:=B) (n:=nb) (hint:=nb-1) J (lQ c N) c (by omega) (by omega) (λa b ab b1 o=>?_) λl l1 l2 l3=>?_)
 ·unfold Pb at o ⊢
  have:=s2 (B+a) (B+b) (by omega) (by omega) (by omega)
  rw[if_pos rfl,decide_eq_true_iff]at o ⊢
  omega
 have H:∀u,u<l->(KC C) (arrOf st) (B+u)<(KC C) (arrOf st) (B-1):=λu T=>by
  have:=l2 u T
  unfold Pb at this
  rw[if_pos rfl,decide_eq_true_iff]at this
  omega
 have F:∀u,l<=u->u<nb->(KC C) (arrOf st) (B-1)<=(KC C) (arrOf st) (B+u):=λu Y X=>by
  have:=l3 u Y X
  unfold Pb at this
  rw[if_pos rfl,decide_eq_false_iff_not]at this
  omega
 dsimp only
 have l0:0<l:=by
  rcases rR l with z|z
  ·have g:=F 0 (by omega) n2
   have a2:=M (na-1) (by omega) (by omega)
   rw[show sa+(na-1)=B-1 by omega]at a2
   rw[mD]at g
   omega
  ·exact z
 rw[if_neg (by simpa using kJ l0)]
 have d:((arrOf st).extract (sa+k) B).size=B-(sa+k):=Dk (by omega) (by omega)
 have zy:((arrOf st).extract B (B+l)).size=l:=by rw[Dk (by omega) (by omega)];omega
 have px:((arrOf st).extract (sa+k) B).toList.Pairwise (R C):=Sy λu v W Z=>by
  rw[d]at Z
  rw[qt (by omega) (by omega),qt (by omega) (by omega)]
  exact s1 _ _ (by omega) (by omega) (by omega)
 have py:((arrOf st).extract B (B+l)).toList.Pairwise (R C):=Sy λu v W Z=>by
  rw[zy]at Z
  rw[qt (by omega) (by omega),qt (by omega) (by omega)]
  exact s2 _ _ (by omega) (by omega) (by omega)
 have f0:(KC C) ((arrOf st).extract B (B+l)) 0<(KC C) ((arrOf st).extract (sa+k) B) 0:=by
  rw[qt (by omega) (by omega),qt (by omega) (by omega),mD,mD]
  exact M k (aL _) (by omega)
 have xl:((arrOf st).extract (sa+k) B).size-1<((arrOf st).extract (sa+k) B).size:=by omega
 have fl:∀y∈((arrOf st).extract B (B+l)).toList,(R C) y (((arrOf st).extract (sa+k) B)[((arrOf st).extract (sa+k) B).size-1]'xl):=λy hy=>by
  obtain⟨u,Y,rfl⟩:=mY (x:=(arrOf st).extract B (B+l)) (i:=0) (by rw[dO];exact hy)
  have g:=iW (C:=C) Y
  have a2:=iW (C:=C) xl
  unfold R
  rw[<-g,<-a2,qt (by omega) (by omega),qt (by omega) (by omega)]
  have:=H (0+u) (by omega)
  rw[d,show sa+k+(B-(sa+k)-1)=B-1 by omega]
  omega
 have fin:∀(r:Array Keyed)(st':SortSt),(Res C) ((arrOf st).extract (sa+k) B) ((arrOf st).extract B (B+l)) r->kindOf st'=kindOf st->arrOf st'=arrOf st->failedOf st'=failedOf st->pendingOf st'=((pendingOf st).setIfInBounds i (sa,na+nb,p)).eraseIdxIfInBounds (i+1) ->
  Q true (setArr st' (putAll (arrOf st) (sa+k) r.toList)):=λr st' U g1 g2 g3 g4=>by
  have rl:r.toList.length=B+l-(sa+k):=by
   rw[U.P.length_eq,bJ,bx,bx,d,zy]
   omega
  have G:sa+k+r.toList.length<=(arrOf st).size:=by omega
  have cut:((arrOf st).toList.drop (sa+k)).take r.toList.length=((arrOf st).extract (sa+k) B).toList++((arrOf st).extract B (B+l)).toList:=by
   rw[gw,gw,rl,show B+l-(sa+k)=(B-(sa+k))+(B+l-B)by omega,List.take_add,kW,show sa+k+(B-(sa+k))=B by omega]
  have I:∀u,sa+k<=u->u<B+l->∃v,sa+k<=v/\v<B+l/\(KC C) (putAll (arrOf st) (sa+k) r.toList) u=(KC C) (arrOf st) v:=λu Y X=>by
   have q:=xP G u
   rw[if_pos (by omega)]at q
   have T:u-(sa+k)<r.toList.length:=by omega
   rw[au T]at q
   have hm:r.toList[u-(sa+k)]∈((arrOf st).toList.drop (sa+k)).take r.toList.length:=by
    rw[cut]
    exact U.P.mem_iff.mp (b_ T)
   obtain⟨v,Z,V,ev⟩:=oW hm
   refine⟨sa+k+v,by omega,by omega,?_⟩
   rw[iW V,<-ev]
   unfold KC
   rw[q]
  have out:∀u,u<sa+k\/B+l<=u->(KC C) (putAll (arrOf st) (sa+k) r.toList) u=(KC C) (arrOf st) u:=λu T=>K_congr (by rw[xP G,if_neg (by omega)])
  have ms:∀u v,sa+k<=u->u<=v->v<B+l->(KC C) (putAll (arrOf st) (sa+k) r.toList) u<=(KC C) (putAll (arrOf st) (sa+k) r.toList) v:=λu v Y W Z=>by
   have eq:∀u,sa+k<=u->u<B+l->(KC C) (putAll (arrOf st) (sa+k) r.toList) u=(KC C) r (u-(sa+k)):=λu Y X=>K_congr (by
    rw[xP G,if_pos (by omega),cB])
   rw[eq u Y (by omega),eq v (by omega) Z]
   exact K_R U.S (by omega) (by rw[<-bx];omega)
  have up:∀v,sa+k<=v->v<B+l->(KC C) (arrOf st) v<=(KC C) (arrOf st) (B-1):=λv Z V=>by
   by_cases z:v<B
   ·exact s1 v (B-1) (by omega) (by omega) (by omega)
   ·have:=H (v-B) (by omega)
    rw[show B+(v-B)=v by omega]at this
    omega
  have dn:∀v,sa+k<=v->v<B+l->(KC C) (arrOf st) B<=(KC C) (arrOf st) v:=λv Z V=>by
   by_cases z:v<B
   ·have:=M (v-sa) (by omega) (by omega)
    rw[show sa+(v-sa)=v by omega]at this
    omega
   ·exact s2 B v (aL _) (by omega) (by omega)
  have low:∀u,sa<=u->u<sa+k->(KC C) (arrOf st) u<=(KC C) (arrOf st) B:=λu Y X=>by
   have:=lo1 (u-sa) (by omega)
   rwa[show sa+(u-sa)=u by omega]at this
  have hig:∀v,B+l<=v->v<B+nb->(KC C) (arrOf st) (B-1)<=(KC C) (arrOf st) v:=λv Z V=>by
   have:=F (v-B) (by omega) (by omega)
   rwa[show B+(v-B)=v by omega]at this
  refine h _ ?_ (g1.trans J) (g3.trans D) g4 (λj hj=>?_) λu v Y W Z=>?_
  ·exact Ls G (by rw[cut];exact U.P)
  ·show(putAll (arrOf st) (sa+k) r.toList)[j]? = _
   rw[xP G,if_neg (by omega)]
  ·show(KC C) (putAll (arrOf st) (sa+k) r.toList) u<=(KC C) (putAll (arrOf st) (sa+k) r.toList) v
   by_cases X:u<sa+k
   ·rw[out u (.inl X)]
    by_cases V:v<sa+k
    ·rw[out v (.inl V)];exact s1 u v Y W (by omega)
    ·by_cases v3:v<B+l
     ·obtain⟨t,t1,t2,t3⟩:=I v (by omega) v3
      rw[t3]
      exact gY (low u Y X) (dn t t1 t2)
     ·rw[out v (.inr (by omega))]
      exact gY (low u Y X) (s2 B v (aL _) (by omega) Z)
   ·by_cases u3:u<B+l
    ·by_cases v3:v<B+l
     ·exact ms u v (by omega) W v3
     ·rw[out v (.inr (by omega))]
      obtain⟨t,t1,t2,t3⟩:=I u (by omega) u3
      rw[t3]
      exact gY (up t t1 t2) (hig v (by omega) Z)
    ·rw[out u (.inr (by omega)),out v (.inr (by omega))]
     exact s2 u v (by omega) W Z
 have K:0<((arrOf st).extract (sa+k) B).size:=by rw[d];omega
 have L:0<((arrOf st).extract B (B+l)).size:=by rw[zy];exact l0
 have nn:(failedOf st).isNone=true:=by rw[D];rfl
 split
 ·refine wpS_bind (Di J (vN h0) (vN h0) K L px py f0 fl λr st' U E=>?_)
  refine wpS_bind (wpS_modify (wpS_bind (wpS_get (wpS_pure ?_))))
  have:=fin r st' U E.k E.a E.f E.p
  rw[<-E.a]at this
  have e:(failedOf st').isNone=true:=by rw[E.f];exact nn
  show Q (failedOf st').isNone _
  rw[e]
  exact this
 ·refine wpS_bind (Dj J (vN h0) (vN h0) K L px py f0 fl λr st' U E=>?_)
  refine wpS_bind (wpS_modify (wpS_bind (wpS_get (wpS_pure ?_))))
  have:=fin r st' U E.k E.a E.f E.p
  rw[<-E.a]at this
  have e:(failedOf st').isNone=true:=by rw[E.f];exact nn
  show Q (failedOf st').isNone _
  rw[e]
  exact this
end
end Sq
namespace Sq
open PySem PyProof.Rows
noncomputable def NIn(C:Cq)(xs:Array Keyed)(lo hi:Nat):Prop:=∀i j,lo<=i->i<=j->j<hi->(KC C) xs j<=(KC C) xs i
section
variable{prog:Program}{w:World}{A:Around}{E:Value->Shared->Prop}{s:Shared}{C:Cq}[LtOk prog w A s C]
theorem q_(h1:lo<=i)(h2:j<=hi)(B:j<=(arrOf st).size):Ch st (setArr st (mirror (arrOf st) i j ((j-i)/2))) lo hi:=
 Ch.set (mirror_perm _ _ _ _) λu Z=>by rw[getElem?_mirror_all B,if_neg (by omega)]
theorem SIn.one(h:hi<=lo+1):(SIn C) xs lo hi:=λi j h1 h2 Z=>by
 have:i=j:=by omega
 subst this
 exact eU _
theorem SIn.more(h:(SIn C) xs lo (lo+n))(hn:1<=n)(q:¬(KC C) xs (lo+n)<(KC C) xs (lo+n-1)):(SIn C) xs lo (lo+(n+1)):=λi j h1 h2 Y=>by
 by_cases z:j<lo+n
 ·exact h i j h1 h2 z
 ·have Z:j=lo+n:=by omega
  subst Z
  by_cases y:i=lo+n
  ·rw[y];exact eU _
  ·have:=h i (lo+n-1) h1 (by omega) (by omega)
   omega
theorem NIn.more(h:(NIn C) xs lo (lo+n))(hn:1<=n)(q:(KC C) xs (lo+n)<=(KC C) xs (lo+n-1)):(NIn C) xs lo (lo+(n+1)):=λi j h1 h2 Y=>by
 by_cases z:j<lo+n
 ·exact h i j h1 h2 z
 ·have Z:j=lo+n:=by omega
  subst Z
  by_cases y:i=lo+n
  ·rw[y];exact eU _
  ·have:=h i (lo+n-1) h1 (by omega) (by omega)
   omega
theorem Jk{B:Nat}{Q:Option Nat->SortSt->Prop}(hk:kindOf st=C.κ)(h0:Oks C (arrOf st))(h1:1<=B)(hn:lo+B<=(arrOf st).size)
 (h:∀m st',Ch st st' lo (lo+B)->1<=m->m<=B->(SIn C) (arrOf st') lo (lo+m)->Q (some m) st'):wpS (model prog w) A E s (countRun' lo B) Q st:=by
 refine wpS_bind (wpS_mono (wpS_forRange (a:=1) (b:=B) (I:=λx c st'=>st'=st/\c=(none,x)/\(SIn C) (arrOf st) lo (lo+x))
  (Q:=λc st'=>st'=st/\∃n,c=(none,n)/\1<=n/\n<=B/\(SIn C) (arrOf st) lo (lo+n)/\(n=B\/(KC C) (arrOf st) (lo+n)<(KC C) (arrOf st) (lo+n-1))) ?s1 ?f1 ⟨rfl,rfl,SIn.one (by omega)⟩) ?p1)
 case f1=>
  rintro c st' ⟨rfl,rfl,U⟩
  rw[show max 1 B=B by omega]at U ⊢
  exact⟨rfl,B,rfl,h1,aL _,U,.inl rfl⟩
 case s1=>
  rintro x c st' H f ⟨rfl,rfl,U⟩
  dsimp only
  refine wpS_bind (qY hk h0 (by omega) (by omega) ?_)
  dsimp only
  by_cases lt:(KC C) (arrOf st') (lo+x)<(KC C) (arrOf st') (lo+x-1)
  ·rw[dTr lt,if_pos rfl]
   exact wpS_pure ⟨rfl,x,rfl,H,by omega,U,.inr lt⟩
  ·rw[dFa lt,if_neg aR]
   exact wpS_pure ⟨rfl,rfl,U.more H lt⟩
 case p1=>
  rintro c st' ⟨rfl,n,rfl,n1,d,U,r⟩
  dsimp only
  by_cases g:n=B
  ·rw[if_pos (by simpa using g)]
   exact wpS_pure (h n st' (Ch.refl _ _ _) n1 d U)
  rw[if_neg (by simpa using g)]
  have lt:=r.resolve_left g
  by_cases c2:n>1
  case' pos=>
   rw[if_pos c2]
   refine wpS_bind (qY hk h0 (by omega) (by omega) ?_)
   dsimp only
   by_cases e:(KC C) (arrOf st') lo<(KC C) (arrOf st') (lo+n-1)
   case pos=>
    rw[dTr e,if_pos rfl]
    exact wpS_pure (h n st' (Ch.refl _ _ _) n1 d U)
   rw[dFa e,if_neg aR]
   refine wpS_bind (wpS_reverse ?_)
   have al:∀u,lo<=u->u<lo+n->(KC C) (arrOf st') u=(KC C) (arrOf st') (lo+n-1):=λu G D=>by
    have a1:=U lo u (aL _) G D
    have a2:=U u (lo+n-1) G (by omega) (by omega)
    omega
   have ch:Ch st' (setArr st' (mirror (arrOf st') lo (lo+n) ((lo+n-lo)/2))) lo (lo+B):=q_ (aL _) (by omega) (by omega)
   have M:=K_mirror_equal (xs:=arrOf st') (i:=lo) (j:=lo+n) (by omega) al
   have l:(NIn C) (arrOf (setArr st' (mirror (arrOf st') lo (lo+n) ((lo+n-lo)/2)))) lo (lo+(n+1)):=λi j i1 F j1=>by
    show(KC C) (mirror (arrOf st') lo (lo+n) ((lo+n-lo)/2)) j<=(KC C) (mirror (arrOf st') lo (lo+n) ((lo+n-lo)/2)) i
    rw[M,M]
    by_cases z:j<lo+n
    ·rw[al i i1 (by omega),al j (by omega) z];exact eU _
    ·have k:j=lo+n:=by omega
     subst k
     by_cases y:i=lo+n
     ·rw[y];exact eU _
     ·rw[al i i1 (by omega)];omega
   generalize setArr st' (mirror (arrOf st') lo (lo+n) ((lo+n-lo)/2))=S at ch l ⊢
  case' neg=>
   rw[if_neg c2]
   have en:n=1:=by omega
   have o:(NIn C) (arrOf st') lo (lo+(n+1)):=λi j i1 F j1=>by
    by_cases y:i=j
    ·rw[y];exact eU _
    ·have ei:i=lo:=by omega
     have k:j=lo+n:=by omega
     rw[ei,k]
     rw[show lo+n-1=lo by omega]at lt
     omega
   obtain⟨S,es⟩:∃S,S=st':=⟨_,rfl⟩
   have ch:Ch st' S lo (lo+B):=by rw[es];exact Ch.refl _ _ _
   have l:(NIn C) (arrOf S) lo (lo+(n+1)):=by rw[es];exact o
   rw[<-es]
  all_goals
   refine wpS_bind (wpS_lift (wpAny_rule ⟨rfl,?_⟩))
   refine wpS_bind (wpS_mono (wpS_forRange (I:=λx c Z=>∃q,c=(none,x,q)/\Ch st' Z lo (lo+B)/\(NIn C) (arrOf Z) lo (lo+x)/\q+1<=x/\∀u,lo+x-(q+1)<=u->u<lo+x->(KC C) (arrOf Z) u=(KC C) (arrOf Z) (lo+x-1))
    (Q:=λc Z=>∃m q,c=(none,m,q)/\n+1<=m/\m<=B/\Ch st' Z lo (lo+B)/\(NIn C) (arrOf Z) lo (lo+m)/\q+1<=m/\∀u,lo+m-(q+1)<=u->u<lo+m->(KC C) (arrOf Z) u=(KC C) (arrOf Z) (lo+m-1)) ?s2 ?f2 ⟨0,rfl,ch,l,by omega,λu G D=>by congr 1;omega⟩) ?p2)
   case f2=>
    rintro c Z ⟨q,rfl,X,W,q1,T⟩
    rw[show max (n+1) B=B by omega]at W q1 T ⊢
    exact⟨B,q,rfl,by omega,aL _,X,W,q1,T⟩
   case s2=>
    rintro x c Z H f ⟨q,rfl,X,W,q1,T⟩
    dsimp only
    have sz:=X.size
    have k3:=X.kind.trans hk
    have i3:=X.ints h0
    refine wpS_bind (qY k3 i3 (by omega) (by omega) ?_)
    dsimp only
    by_cases O:(KC C) (arrOf Z) (lo+x)<(KC C) (arrOf Z) (lo+x-1)
    ·rw[dTr O,if_pos rfl]
     by_cases t:q>0
     ·rw[if_pos t]
      have M:=K_mirror_equal (xs:=arrOf Z) (i:=lo+x-(q+1)) (j:=lo+x) (by omega) T
      refine wpS_bind (wpS_reverse (wpS_pure ⟨0,rfl,X.trans (q_ (by omega) (by omega) (by omega)),?_,by omega,λu G D=>by congr 1;omega⟩))
      have no:=W.more (by omega) (tL O)
      intro i j i1 F j1
      show(KC C) (mirror (arrOf Z) (lo+x-(q+1)) (lo+x) _) j<=(KC C) (mirror (arrOf Z) (lo+x-(q+1)) (lo+x) _) i
      rw[M,M]
      exact no i j i1 F j1
     ·rw[if_neg t]
      exact wpS_pure ⟨0,rfl,X,W.more (by omega) (tL O),by omega,λu G D=>by congr 1;omega⟩
    ·rw[dFa O,if_neg aR]
     refine wpS_bind (qY k3 i3 (by omega) (by omega) ?_)
     dsimp only
     by_cases p:(KC C) (arrOf Z) (lo+x-1)<(KC C) (arrOf Z) (lo+x)
     ·rw[dTr p,if_pos rfl]
      exact wpS_pure ⟨x,q,rfl,H,by omega,X,W,q1,T⟩
     ·rw[dFa p,if_neg aR]
      refine wpS_pure ⟨q+1,rfl,X,W.more (by omega) (by omega),by omega,λu G D=>?_⟩
      rw[show lo+(x+1)-1=lo+x by omega]
      by_cases z:u=lo+x
      ·rw[z]
      ·rw[T u (by omega) (by omega)];omega
   case p2=>
    rintro c Z ⟨m,q,rfl,m1,m2,X,W,q1,T⟩
    dsimp only
    have sz:=X.size
    by_cases t:q>0
    case' pos=>
     rw[if_pos t]
     refine wpS_bind (wpS_reverse ?_)
     have M:=K_mirror_equal (xs:=arrOf Z) (i:=lo+m-(q+1)) (j:=lo+m) (by omega) T
     have N:Ch st' (setArr Z (mirror (arrOf Z) (lo+m-(q+1)) (lo+m) ((lo+m-(lo+m-(q+1)))/2))) lo (lo+B):=X.trans (q_ (by omega) (by omega) (by omega))
     have L:(NIn C) (arrOf (setArr Z (mirror (arrOf Z) (lo+m-(q+1)) (lo+m) ((lo+m-(lo+m-(q+1)))/2)))) lo (lo+m):=λi j i1 F j1=>by
      show(KC C) (mirror (arrOf Z) (lo+m-(q+1)) (lo+m) _) j<=(KC C) (mirror (arrOf Z) (lo+m-(q+1)) (lo+m) _) i
      rw[M,M]
      exact W i j i1 F j1
     generalize setArr Z (mirror (arrOf Z) (lo+m-(q+1)) (lo+m) ((lo+m-(lo+m-(q+1)))/2))=Y at N L ⊢
    case' neg=>
     rw[if_neg t]
     obtain⟨Y,J⟩:∃Y,Y=Z:=⟨_,rfl⟩
     have N:Ch st' Y lo (lo+B):=by rw[J];exact X
     have L:(NIn C) (arrOf Y) lo (lo+m):=by rw[J];exact W
     rw[<-J]
    all_goals
     have sz4:=N.size
     refine wpS_bind (wpS_reverse ?_)
     have R:Ch st' (setArr Y (mirror (arrOf Y) lo (lo+m) ((lo+m-lo)/2))) lo (lo+B):=N.trans (q_ (aL _) (by omega) (by omega))
     have v:(SIn C) (arrOf (setArr Y (mirror (arrOf Y) lo (lo+m) ((lo+m-lo)/2)))) lo (lo+m):=λi j i1 F j1=>by
      show(KC C) (mirror (arrOf Y) lo (lo+m) ((lo+m-lo)/2)) i<=(KC C) (mirror (arrOf Y) lo (lo+m) ((lo+m-lo)/2)) j
      rw[K_mirror (by omega),K_mirror (by omega),if_pos (by omega),if_pos (by omega)]
      exact L _ _ (by omega) (by omega) (by omega)
     generalize setArr Y (mirror (arrOf Y) lo (lo+m) ((lo+m-lo)/2))=P at R v ⊢
     have sz5:=R.size
     refine wpS_bind (wpS_mono (wpS_forRange (I:=λx c V=>V=P/\c=(none,x)/\(SIn C) (arrOf P) lo (lo+x)) (Q:=λc V=>V=P/\∃z,c=(none,z)/\m<=z/\z<=B/\(SIn C) (arrOf P) lo (lo+z)) ?s3 ?f3 ⟨rfl,rfl,v⟩) ?p3)
     case f3=>
      rintro c V ⟨rfl,rfl,U⟩
      rw[show max m B=B by omega]at U ⊢
      exact⟨rfl,B,rfl,m2,aL _,U⟩
     case s3=>
      rintro x c V H f ⟨rfl,rfl,U⟩
      dsimp only
      refine wpS_bind (qY (R.kind.trans hk) (R.ints h0) (by omega) (by omega) ?_)
      dsimp only
      by_cases K:(KC C) (arrOf V) (lo+x)<(KC C) (arrOf V) (lo+x-1)
      ·rw[dTr K,if_pos rfl]
       exact wpS_pure ⟨rfl,x,rfl,H,by omega,U⟩
      ·rw[dFa K,if_neg aR]
       exact wpS_pure ⟨rfl,rfl,U.more (by omega) K⟩
     case p3=>
      rintro c V ⟨rfl,z,rfl,z1,z2,U⟩
      exact wpS_pure (h z V R (by omega) z2 U)
end
end Sq
variable{st0:SortSt}
namespace Sq
open PySem PyProof.Rows
noncomputable def Runs(C:Cq)(xs:Array Keyed):List (Nat×Nat×Nat)->Nat->Nat->Prop
 |[],a,b=>a=b
 | (st,len,_)::r,a,b=>st=a/\0<len/\(SIn C) xs a (a+len)/\(Runs C) xs r (a+len) b
theorem Runs.le:∀{ps:List (Nat×Nat×Nat)}{a b:Nat},(Runs C) xs ps a b->a+ps.length<=b
 |[],a,b,h=>by have:a=b:=h;simp only[i_];omega
 | (st,len,_)::r,a,b,h=>by
  have:=h.2.2.2.le
  have:=h.2.1
  rw[bF]
  omega
theorem SIn.same{ys:Array Keyed}(h:(SIn C) xs lo hi)(e:∀j,lo<=j->j<hi->(KC C) ys j=(KC C) xs j):(SIn C) ys lo hi:=λi j h1 h2 Z=>by
 rw[e i h1 (by omega),e j (by omega) Z]
 exact h i j h1 h2 Z
theorem Runs.same{ys:Array Keyed}:∀{ps:List (Nat×Nat×Nat)}{a b:Nat},(Runs C) xs ps a b->(∀j,a<=j->j<b->(KC C) ys j=(KC C) xs j)->(Runs C) ys ps a b
 |[],a,b,h,_=>h
 | (st,len,p)::r,a,b,h,e=>by
  have l:=h.2.2.2.le
  exact⟨h.1,h.2.1,h.2.2.1.same λj j1 j2=>e j j1 (by omega),Runs.same h.2.2.2 λj j1 j2=>e j (by omega) j2⟩
theorem Runs.app:∀{ps:List (Nat×Nat×Nat)}{a b c p:Nat},(Runs C) xs ps a b->0<c->(SIn C) xs b (b+c)->(Runs C) xs (ps++[(b,c,p)]) a (b+c)
 |[],a,b,c,p,h,h1,h2=>by
  have:a=b:=h
  subst this
  exact⟨rfl,h1,h2,rfl⟩
 | (st,len,q)::r,a,b,c,p,h,h1,h2=>⟨h.1,h.2.1,h.2.2.1,Runs.app h.2.2.2 h1 h2⟩
theorem Runs.pw(f:Nat×Nat×Nat->Nat):∀{ps:List (Nat×Nat×Nat)}{a b i:Nat},(Runs C) xs ps a b->(Runs C) xs (ps.modify i λq=>(q.1,q.2.1,f q)) a b
 |[],a,b,i,h=>by cases i<;>exact h
 | (st,len,q)::r,a,b,0,h=>h
 | (st,len,q)::r,a,b,i+1,h=>⟨h.1,h.2.1,h.2.2.1,Runs.pw f (i:=i) h.2.2.2⟩
theorem Runs.merge:∀{ps:List (Nat×Nat×Nat)}{a b i sa na p B nb q:Nat},(Runs C) xs ps a b->ps[i]? = some (sa,na,p)->ps[i+1]? = some (B,nb,q) ->
 (a<=sa/\B=sa+na/\0<na/\0<nb/\(SIn C) xs sa B/\(SIn C) xs B (B+nb)/\B+nb<=b) /\
 ∀ys,(∀j,j<sa\/B+nb<=j->(KC C) ys j=(KC C) xs j)->(SIn C) ys sa (B+nb)->(Runs C) ys ((ps.set i (sa,na+nb,p)).eraseIdx (i+1)) a b
 |[],a,b,i,sa,na,p,B,nb,q,h,Y,Z=>by cases Y
 | (st,len,U)::r,a,b,0,sa,na,p,B,nb,q,h,Y,Z=>by
  cases Y
  cases r with
  |nil=>cases Z
  |cons x r=>
   cases Z
   obtain⟨h1,h2,W,X,S,T,V⟩:=h
   subst h1 X
   have l:=V.le
   refine⟨⟨aL _,rfl,h2,S,W,T,by omega⟩,λys e s=>⟨rfl,by omega,by rwa[<-rK],?_⟩⟩
   have:=V.same (ys:=ys) λj j1 j2=>e j (.inr (by omega))
   rwa[<-rK]
 | (st,len,U)::r,a,b,i+1,sa,na,p,B,nb,q,h,Y,Z=>by
  obtain⟨h1,h2,W,X⟩:=h
  subst h1
  obtain⟨⟨K,L,M,N,O,P,Q⟩,R⟩:=Runs.merge (i:=i) X (by simpa using Y) (by simpa using Z)
  refine⟨⟨by omega,L,M,N,O,P,Q⟩,λys e s=>⟨rfl,h2,W.same λj j1 j2=>e j (.inl (by omega)),?_⟩⟩
  exact R ys e s
section
variable{prog:Program}{w:World}{A:Around}{E:Value->Shared->Prop}{s:Shared}{C:Cq}[LtOk prog w A s C]
structure W(C:Cq)(st0 st:SortSt)(lo:Nat):Prop where
 perm:(arrOf st).Perm (arrOf st0)
 kind:kindOf st=C.κ
 failed:failedOf st=none
 runs:(Runs C) (arrOf st) (pendingOf st).toList 0 lo
theorem W.ints(h:(W C) st0 st lo)(B:Oks C (arrOf st0)):Oks C (arrOf st):=λp Z=>B p ((dN.mp h.perm).mem_iff.mp Z)
theorem Dp{Q:Bool->SortSt->Prop}(J:Oks C (arrOf st0))(B:(W C) st0 st lo)(D:lo<=(arrOf st0).size)(hi:i+1<(pendingOf st).size)
 (h:∀st',(W C) st0 st' lo->(pendingOf st').size+1=(pendingOf st).size->(∀j,lo<=j->(arrOf st')[j]? = (arrOf st)[j]?)->Q true st'):wpS (model prog w) A E s (mergeAt' i) Q st:=by
 obtain⟨sa,na,p,V⟩:∃sa na p,(pendingOf st)[i]? = some (sa,na,p):=⟨_,_,_,getElem?_pos (pendingOf st) i (by omega)⟩
 obtain⟨Z,nb,q,X⟩:∃Z nb q,(pendingOf st)[i+1]? = some (Z,nb,q):=⟨_,_,_,getElem?_pos (pendingOf st) (i+1) hi⟩
 obtain⟨⟨F,M,N,O,P,R,G⟩,S⟩:=B.runs.merge (i:=i) (by rw[cB];exact V) (by rw[cB];exact X)
 have sz:=B.perm.size_eq
 refine Dm B.kind B.failed (B.ints J) V X M (by omega) N O P R λst' H I K T U L=>h st' ⟨H.trans B.perm,I,K,?_⟩ ?_ λj Y=>U j (.inr (by omega))
 ·have:=S (arrOf st') (λj Y=>K_congr (U j Y)) L
  rw[T]
  simpa using this
 ·rw[T,<-bx,<-bx]
  rw[show(((pendingOf st).setIfInBounds i (sa,na+nb,p)).eraseIdxIfInBounds (i+1)).toList=((pendingOf st).toList.set i (sa,na+nb,p)).eraseIdx (i+1)by simp,List.length_eraseIdx_of_lt (by simpa using hi),cV,bx]
  omega
theorem W.push(h:(W C) st0 st lo)(hn:0<n)(B:(SIn C) (arrOf st) lo (lo+n)):(W C) st0 (setPending st ((pendingOf st).push (lo,n,0))) (lo+n):=
 ⟨h.perm,h.kind,h.failed,by
  show(Runs C) (arrOf st) ((pendingOf st).push (lo,n,0)).toList 0 (lo+n)
  rw[m7]
  exact h.runs.app hn B⟩
theorem W.pow{f:Nat×Nat×Nat->Nat}(h:(W C) st0 st lo):(W C) st0 (setPending st ((pendingOf st).modify i λq=>(q.1,q.2.1,f q))) lo:=
 ⟨h.perm,h.kind,h.failed,by
  show(Runs C) (arrOf st) ((pendingOf st).modify i λq=>(q.1,q.2.1,f q)).toList 0 lo
  rw[Array.toList_modify]
  exact h.runs.pw f⟩
theorem W.of{D B:SortSt}(h:(W C) st0 D lo)(ch:Ch D B lo hi):(W C) st0 B lo:=
 ⟨ch.perm.trans h.perm,ch.kind.trans h.kind,ch.failed.trans h.failed,by
  rw[ch.pend]
  exact h.runs.same λj _ j2=>K_congr (ch.out j (.inl j2))⟩
theorem Lx{Q:Unit->SortSt->Prop}(hk:kindOf st=C.κ)(hf:failedOf st=none)(hp:pendingOf st = #[])(B:Oks C (arrOf st))(h2:2<=(arrOf st).size)
 (h:∀st',(arrOf st').Perm (arrOf st)->failedOf st'=none->STo C (arrOf st') (arrOf st).size->Q () st'):wpS (model prog w) A E s sortRuns' Q st:=by
 have W0:(W C) st st 0:=⟨Array.Perm.refl _,hk,hf,by rw[hp];rfl⟩
 rw[sortRuns'_eq]
 refine wpS_bind (wpS_get ?_)
 dsimp only
 refine wpS_bind (wpS_mono (wpS_forRange (I:=λx c st'=>∃lo,c=(none,lo)/\lo<=(arrOf st).size/\min x (arrOf st).size<=lo/\(W C) st st' lo)
  (Q:=λc st'=>c=(none,(arrOf st).size)/\(W C) st st' (arrOf st).size) ?s1 ?f1 ⟨0,rfl,cR _,by omega,W0⟩) ?p1)
 case f1=>
  rintro c st' ⟨lo,rfl,l1,l2,Ww⟩
  have:lo=(arrOf st).size:=by omega
  subst this
  exact⟨rfl,Ww⟩
 case s1=>
  rintro x c K _ hx ⟨lo,rfl,l1,l2,U⟩
  dsimp only
  have sz:=U.perm.size_eq
  by_cases r:lo≥(arrOf st).size
  ·rw[if_pos r]
   have:lo=(arrOf st).size:=by omega
   subst this
   exact wpS_pure ⟨rfl,U⟩
  rw[if_neg r]
  refine wpS_bind (Jk U.kind (U.ints B) (by omega) (by omega) λm Z ch e m2 N=>?_)
  dsimp only
  by_cases t:m<minRun' (arrOf st).size (arrOf st).size 0
  case' pos=>
   rw[if_pos t]
   refine wpS_bind (wpS_lift (wpAny_rule ⟨rfl,?_⟩))
   have p:=ch.size
   have X:=U.of ch
   refine wpS_bind (QG X.kind (X.ints B) (by omega) (by omega) N λL R T=>?_)
   have M:∃n,n=min ((arrOf st).size-lo) (minRun' (arrOf st).size (arrOf st).size 0):=⟨_,rfl⟩
   obtain⟨n,M⟩:=M
   rw[<-M]at T R ⊢
   have G:1<=n:=by omega
   have H:lo+n<=(arrOf st).size:=by omega
   have O:=X.of R
   rw[if_neg (by decide)]
   clear M N ch X
  case' neg=>
   rw[if_neg t]
   have O:=U.of ch
   have T:=N
   have G:=e
   have H:lo+m<=(arrOf st).size:=by omega
   clear N ch
  all_goals
   refine wpS_bind (wpS_get ?_)
   split
   ·next s1 f p1 eb=>
    refine wpS_bind (wpS_mono (wpS_forRange (I:=λy c Y=>c=(none,())/\(W C) st Y lo/\(SIn C) (arrOf Y) lo _) (Q:=λc Y=>c=(none,())/\(W C) st Y lo/\(SIn C) (arrOf Y) lo _) ?s2 (λ_ _ q=>q) ⟨rfl,O,T⟩) ?p2)
    case s2=>
     rintro y c Y _ hy ⟨rfl,P,V⟩
     refine wpS_bind (wpS_get ?_)
     by_cases z:(pendingOf Y).size>1
     ·rw[if_pos z]
      obtain⟨u,v,o,eo⟩:∃u v o,(pendingOf Y)[(pendingOf Y).size-2]? = some (u,v,o):=⟨_,_,_,getElem?_pos (pendingOf Y) _ (by omega)⟩
      rw[eo]
      dsimp only
      split
      ·exact wpS_pure ⟨rfl,P,V⟩
      ·refine wpS_bind (Dp B P l1 (by omega) λl W5 _ g=>?_)
       rw[if_neg (by decide)]
       exact wpS_pure ⟨rfl,W5,V.same λj j1 _=>K_congr (g j j1)⟩
     ·rw[if_neg z]
      exact wpS_pure ⟨rfl,P,V⟩
    case p2=>
     rintro c Y ⟨rfl,P,V⟩
     dsimp only
     refine wpS_bind (wpS_modify (wpS_bind (wpS_modify (wpS_pure ⟨_,rfl,H,by omega,?_⟩))))
     exact(P.pow).push G V
   ·exact wpS_bind (wpS_modify (wpS_pure ⟨_,rfl,H,by omega,O.push G T⟩))
 case p1=>
  rintro c K ⟨rfl,U⟩
  dsimp only
  have sz:=U.perm.size_eq
  have lp:=U.runs.le
  rw[bx]at lp
  refine wpS_bind (wpS_mono (wpS_forRange (I:=λy c Z=>c=(none,())/\(W C) st Z (arrOf st).size/\((pendingOf Z).size<=1\/(pendingOf Z).size+y<=(arrOf st).size)) (Q:=λc Z=>c=(none,())/\(W C) st Z (arrOf st).size/\(pendingOf Z).size<=1) ?s3 ?f3 ⟨rfl,U,.inr (by omega)⟩) ?p3)
  case f3=>
   rintro c Z ⟨rfl,X,q⟩
   exact⟨rfl,X,by omega⟩
  case s3=>
   rintro y c Z _ hy ⟨rfl,X,q⟩
   refine wpS_bind (wpS_get ?_)
   by_cases F:(pendingOf Z).size<=1
   ·rw[if_pos F]
    exact wpS_pure ⟨rfl,X,F⟩
   rw[if_neg F]
   split
   all_goals
    refine wpS_bind (Dp B X (aL _) (by split<;>omega) λL O q3 _=>?_)
    rw[if_neg (by decide)]
    exact wpS_pure ⟨rfl,O,.inr (by omega)⟩
  case p3=>
   rintro c Z ⟨rfl,X,q⟩
   refine wpS_pure (h Z X.perm X.failed ?_)
   have S:=X.runs
   have k:(pendingOf Z).toList.length<=1:=by rw[bx];exact q
   match hps:(pendingOf Z).toList,S,k with
   |[],S,_=>
    have:0=(arrOf st).size:=S
    omega
   |[(a,b,d)],S,_=>
    obtain⟨_,_,D,J⟩:=S
    have J:0+b=(arrOf st).size:=J
    rw[J]at D
    exact λi j ij j1=>D i j (cR _) ij j1
end
end Sq
namespace XJ
open PySem PySem.Spec PySem.W PyProof.Rows L2 My D3
theorem vO:∀a:List Int,n6 a a=false
 |[]=>rfl
 |x::xs=>by simp[n6,vO xs]
theorem Av:∀{a b c:List Int},n6 a b=true->n6 b c=true->n6 a c=true
 |[],[],_,h,_=>by cases h
 |[],_::_,[],_,h=>by cases h
 |[],_::_,_::_,_,_=>rfl
 |_::_,[],_,h,_=>by cases h
 |_::_,_::_,[],_,h=>by cases h
 |x::xs,y::ys,z::zs,h1,h2=>by
  simp only[n6]at h1 h2 ⊢
  by_cases Y:x=y
  ·subst Y
   rw[if_pos rfl]at h1
   by_cases Z:x=z
   ·subst Z
    rw[if_pos rfl]at h2 ⊢
    exact Av h1 h2
   ·rw[if_neg Z]at h2 ⊢
    exact h2
  ·rw[if_neg Y]at h1
   have h1:=of_decide_eq_true h1
   by_cases Z:y=z
   ·subst Z
    rw[if_neg Y]
    exact dTr h1
   ·rw[if_neg Z]at h2
    have h2:=of_decide_eq_true h2
    rw[if_neg (by omega)]
    exact dTr (by omega)
theorem vQ:∀{a b:List Int},a≠b->n6 a b=true\/n6 b a=true
 |[],[],h=>absurd rfl h
 |[],_::_,_=>.inl rfl
 |_::_,[],_=>.inr rfl
 |x::xs,y::ys,h=>by
  simp only[n6]
  by_cases e:x=y
  ·subst e
   rw[if_pos rfl,if_pos rfl]
   exact vQ λz=>h (by rw[z])
  ·rw[if_neg e,if_neg (Ne.symm e)]
   by_cases l:x<y
   ·exact .inl (dTr l)
   ·exact .inr (dTr (by omega))
noncomputable def Jl(k:List Int):List (List Int)->List (List Int)
 |[]=>[k]
 |q::r=>if n6 k q=true then k::q::r else q::Jl k r
noncomputable def kj(ks:List (List Int)):List (List Int):=ks.foldr Jl []
theorem xQ(k:List Int):∀l:List (List Int),(Jl k l).Perm (k::l)
 |[]=>.refl _
 |q::r=>by
  unfold Jl
  split
  ·exact .refl _
  ·exact((xQ k r).cons q).trans (.swap k q r)
theorem f9:∀ks:List (List Int),(kj ks).Perm ks
 |[]=>.refl _
 |k::r=>(xQ k _).trans ((f9 r).cons k)
noncomputable abbrev LL(a b:List Int):Prop:=n6 a b=true
theorem Ly(k:List Int):∀l:List (List Int),l.Pairwise LL->¬k∈l->(Jl k l).Pairwise LL
 |[],_,_=>eV _ _
 |q::r,h,Y=>by
  have h':=bU.mp h
  unfold Jl
  split
  ·next z=>
   refine bU.mpr ⟨λy Z=>?_,h⟩
   rcases aW.mp Z with rfl|Z
   ·exact z
   ·exact Av z (h'.1 y Z)
  ·next z=>
   have ne:q≠k:=λe=>Y (by rw[e];exact aC)
   have X:n6 q k=true:=(vQ ne).resolve_right z
   refine bU.mpr ⟨λy Z=>?_,Ly k r h'.2 λe=>Y (aJ _ e)⟩
   rcases aW.mp ((xQ k r).mem_iff.mp Z)with rfl|Z
   ·exact X
   ·exact h'.1 y Z
theorem Dq:∀{ks:List (List Int)},ks.Nodup->(kj ks).Pairwise LL
 |[],_=>.nil
 |k::r,h=>Ly k _ (Dq (eN.mp h).2) λz=>(eN.mp h).1 ((f9 r).mem_iff.mp z)
theorem zE:∀{l m:List (List Int)},l.Perm m->l.Pairwise LL->m.Pairwise LL->l=m
 |[],m,h,_,_=>(List.nil_perm.mp h).symm
 |a::l,[],h,_,_=>absurd (rM.mp h) (by simp)
 |a::l,b::m,h,h1,h2=>by
  have p1:=bU.mp h1
  have p2:=bU.mp h2
  have e:a=b:=by
   rcases aW.mp (h.mem_iff.mp (aC (a:=a) (l:=l)))with z|z
   ·exact z
   rcases aW.mp (h.symm.mem_iff.mp (aC (a:=b) (l:=m)))with y|y
   ·exact y.symm
   have:=Av (p1.1 b y) (p2.1 a z)
   rw[vO]at this
   cases this
  subst e
  rw[zE (List.perm_cons a |>.mp h) p1.2 p2.2]
noncomputable def rk(ks:List (List Int))(k:List Int):Nat:=ks.countP λq=>n6 q k
theorem Dr{p q:List Int->Bool}(h:∀x,p x=true->q x=true):∀{l:List (List Int)}{a:List Int},a∈l->q a=true->p a=false->l.countP p<l.countP q
 |[],_,ha,_,_=>by cases ha
 |x::r,a,ha,h1,h2=>by
  rw[List.countP_cons,List.countP_cons]
  have m:r.countP p<=r.countP q:=List.countP_mono_left λy _=>h y
  rcases aW.mp ha with rfl|ha
  ·rw[h1,h2,if_pos rfl,if_neg aR];omega
  ·have:=Dr h ha h1 h2
   by_cases z:p x=true
   ·rw[if_pos z,if_pos (h x z)];omega
   ·rw[if_neg z]
    split<;>omega
theorem Lz{ks:List (List Int)}{a b:List Int}(ha:a∈ks)(h:n6 a b=true):rk ks a<rk ks b:=Dr (λ_ z=>Av z h) ha h (vO a)
theorem U6{ks:List (List Int)}{a b:List Int}(ha:a∈ks)(B:b∈ks):decide ((rk ks a:Int)<(rk ks b:Int))=n6 a b:=by
 by_cases e:a=b
 ·subst e
  rw[vO]
  exact dFa (by omega)
 ·cases q:n6 a b with
  |true=>have:=Lz ha q;exact dTr (by omega)
  |false=>
   have:=Lz B ((vQ e).resolve_left (by rw[q];exact aR))
   exact dFa (by omega)
end XJ
variable{ky:Addr->List Int}
namespace XJ
open PySem PySem.Spec PySem.W PyProof.Rows L2 My D3 XK XT XD XS
section
variable{prog:Program}{w:World}{A:Around}{E:Value->Shared->Prop}{s:Shared}
theorem G8{fin:Bool}{C:Bool->Shared->Prop}:∀(a b:List Int)(u v:List Value)(i:Nat),IntsAre u a->IntsAre v b->(fin=decide (a.length<b.length))->C (n6 a b) s->KatLex prog w A true fin C (u.zip v) i s
 |[],[],_,_,_,.nil,.nil,Z,q=>by
  refine kat_nil ?_
  rw[Z]
  exact q
 |[],y::ys,_,_,_,.nil,.cons _ _ _,Z,q=>by
  refine kat_nil ?_
  rw[Z,dTr (by simp)]
  exact q
 |x::xs,[],_,_,_,.cons _ _ _,.nil,Z,q=>by
  refine kat_nil ?_
  rw[Z,dFa (by simp)]
  exact q
 |x::xs,y::ys,_,_,i,.cons _ V h1,.cons _ X h2,Z,q=>by
  refine kat_cons (wpAny_eqBool_int (kat_go (λe=>?_) λe=>?_))
  ·have e:=beq_iff_eq.mp e
   subst e
   refine kat_yes (G8 xs ys _ _ (i+1) h1 h2 (by rw[Z];simp) ?_)
   simpa[n6]using q
  ·have e:x≠y:=by
    intro z;subst z;simp at e
   have Y:C (decide (x<y)) s:=by simpa[n6,e]using q
   refine kat_no ?_
   cases i with
   |zero=>exact oneLt_int Y
   |succ i=>exact kat_one _ _ (lt_int (by simpa[PySem.W.BoolBack]using Y))
theorem U7{x y:Addr}{a b:List Int}{u v:List Value}{C:Bool->Shared->Prop}(O:IsTup s.heap x u.toArray)(J:IsTup s.heap y v.toArray)(D:IntsAre u a)(B:IntsAre v b)(q:C (n6 a b) s):wpAny (model prog w) A (keyLt' (tuples' true) (.ref x) (.ref y)) C E s:=by
 obtain⟨W,ex,_,nx,dx⟩:=O
 obtain⟨X,Z,_,V,Y⟩:=J
 refine kat_lt ex dx Z Y ?_
 have:=G8 (prog:=prog) (w:=w) (A:=A) (s:=s) (fin:=decide (u.toArray.size<v.toArray.size)) (C:=C) a b u v 0 D B (by rw[aV,aV,D.length,B.length]) q
 simpa using this
end
section
variable{prog:Program}{w:World}{A:Around}{E:Value->Shared->Prop}{s:Shared}
noncomputable def Ds(bs:List Addr)(ky:Addr->List Int):Sq.Cq:=⟨λx=>match x.1 with
 | .ref b=>(rk (bs.map ky) (ky b):Int)
 |_=>0,λx=>∃b∈bs,x.1 = .ref b,tuples' true⟩
theorem U8{bs:List Addr}(B:∀b∈bs,∃u:List Value,IsTup s.heap b u.toArray/\IntsAre u (ky b)):Sq.LtOk prog w A s (Ds bs ky):=⟨λ{x y Q E} P R h=>by
 obtain⟨b,Y,W⟩:=P
 obtain⟨c,Z,X⟩:=R
 obtain⟨u,U,i1⟩:=B b Y
 obtain⟨v,V,i2⟩:=B c Z
 have S:(Ds bs ky).nu x=(rk (bs.map ky) (ky b):Int):=by unfold Ds;dsimp only;rw[W]
 have T:(Ds bs ky).nu y=(rk (bs.map ky) (ky c):Int):=by unfold Ds;dsimp only;rw[X]
 rw[S,T]at h
 rw[U6 (gh Y) (gh Z)]at h
 rw[W,X]
 exact U7 U V i1 i2 h⟩
theorem G9{B:Heap}:∀bs:List Addr,(∀b∈bs,ky b≠[]/\∃u:List Value,IsTup B b u.toArray/\IntsAre u (ky b))->∃fs,KatTups B (bs.map Value.ref) fs/\fs.length=bs.length/\∀v∈fs,∃i t,v = .int i t
 |[],_=>⟨[],trivial,rfl,λ_ h=>by cases h⟩
 |b::bs,h=>by
  obtain⟨fs,f1,f2,f3⟩:=G9 bs λc W=>h c (aJ _ W)
  obtain⟨X,u,⟨o,T,U,n,V⟩,Y⟩:=h b aC
  generalize ky b=S at Y X
  cases Y with
  |nil=>exact absurd rfl X
  |cons x t Y=>
   refine⟨.int x t::fs,⟨⟨_,o,_,n,rfl,T,U,V,rfl⟩,f1⟩,by simp[f2],λv Z=>?_⟩
   rcases aW.mp Z with rfl|Z
   ·exact⟨_,_,rfl⟩
   ·exact f3 v Z
theorem Dt:∀bs:List Addr,(bs.map Value.ref).zip (bs.map Value.ref)=bs.map λc=>(Value.ref c,Value.ref c)
 |[]=>rfl
 |b::r=>by rw[bf,rT,Dt r,bf]
theorem Jm{bs:List Addr}{P:PySem.Fin->Shared->Prop}(D:s.heap.get? a=some (seqObj "list" (bs.map Value.ref).toArray n))(h2:2<=bs.length)(hz:bs.length<=1000)
 (ht:∀b∈bs,ky b≠[]/\∃u:List Value,IsTup s.heap b u.toArray/\IntsAre u (ky b)) (nd:(bs.map ky).Nodup)
 (h:∀B:List Addr,B.Perm bs->B.map ky=kj (bs.map ky)->P (.done (.ret .none)) {s with heap:=sortedHeap s.heap a (bs.map Value.ref) (B.map Value.ref).toArray}):wpAny (model prog w) A (Builtin.«list.sort» ⟨[.ref a],[]⟩) P E s:=by
 have L:a<s.heap.objs.size:=Heap.lt_size D
 have vl:(bs.map Value.ref).length=bs.length:=aB _
 have r:(bs.map Value.ref).length<=sizeLine:=by rw[vl,sizeLine_eq];omega
 rw[list_sort_plain]
 refine wpAny_bind (listItems_at D rfl (wpAny_bind (listUpdate_at D rfl ?_)))
 obtain⟨e,h1⟩:∃e,(s.heap.update a (Obj.mapSeq λ_=>#[])).get? a=some (seqObj "list" #[] e):=⟨_,get?_update_seq D λ_=>#[]⟩
 refine wpAny_bind (seqEpoch_at h1 rfl (wpAny_bind (wpAny_newTuple (wpAny_bind (wpAny_newList (wpAny_holding ?_))))))
 have old:∀b o,b≠a->s.heap.get? b=some o->(((s.heap.update a (Obj.mapSeq λ_=>#[])).push (seqObj "tuple" (bs.map Value.ref).toArray 0)).push (seqObj "list" #[] 0)).get? b=some o:=λb o Z e=>by
  have V:=Heap.lt_size e
  rw[Heap.get?_push_ne _ _ _ (by rw[size_push',Heap.size_update];exact aZ (fW V)),Heap.get?_push_ne _ _ _ (by rw[Heap.size_update];exact aZ V),Heap.get?_update_ne _ _ _ _ Z,e]
 have I:(((s.heap.update a (Obj.mapSeq λ_=>#[])).push (seqObj "tuple" (bs.map Value.ref).toArray 0)).push (seqObj "list" #[] 0)).get? a=some (seqObj "list" #[] e):=by
  rw[Heap.get?_push_ne _ _ _ (by rw[size_push',Heap.size_update];exact aZ (fW L)),Heap.get?_push_ne _ _ _ (by rw[Heap.size_update];exact aZ L),h1]
 have X:∀b∈bs,ky b≠[]/\∃u:List Value,IsTup (((s.heap.update a (Obj.mapSeq λ_=>#[])).push (seqObj "tuple" (bs.map Value.ref).toArray 0)).push (seqObj "list" #[] 0)) b u.toArray/\IntsAre u (ky b):=λb Z=>by
  obtain⟨q,u,⟨o,M,H,k⟩,l⟩:=ht b Z
  refine⟨q,u,⟨o,old b o (λz=>?_) M,H,k⟩,l⟩
  rw[z,D]at M
  cases M
  exact absurd H (by simp[seqObj])
 show wpAny (model prog w) A _ P E {s with heap:=((s.heap.update a (Obj.mapSeq λ_=>#[])).push (seqObj "tuple" (bs.map Value.ref).toArray 0)).push (seqObj "list" #[] 0)}
 dsimp only
 have F:¬(bs.map Value.ref).toArray.size<2:=by rw[aV,vl];omega
 rw[if_neg F,if_neg F]
 obtain⟨fs,f1,f2,f3⟩:=G9 bs X
 refine wpAny_bind (kat_kind (T:=.type "int") f1 (by omega) (λv m=>?_) rfl ?_)
 ·obtain⟨i,t,rfl⟩:=f3 v m
  exact λA Q E s _ q=>wpAny_pure q
 haveI:=U8 (prog:=prog) (w:=w) (A:=A) (s:={s with heap:=((s.heap.update a (Obj.mapSeq λ_=>#[])).push (seqObj "tuple" (bs.map Value.ref).toArray 0)).push (seqObj "list" #[] 0)}) (ky:=ky) λb Z=>(X b Z).2
 have ps:(pairsOf (bs.map Value.ref)).size=bs.length:=by rw[pairsOf_size,vl]
 refine wpAny_bind (wpAny_mono (Sq.Lx (C:=Ds bs ky) (st:=SortSt.mk' (tuples' true) (pairsOf (bs.map Value.ref)) #[] 7 none)
  (Q:=λ_ st'=>(arrOf st').Perm (pairsOf (bs.map Value.ref))/\failedOf st'=none/\Sq.STo (Ds bs ky) (arrOf st') (pairsOf (bs.map Value.ref)).size) rfl rfl rfl (λp W=>?ok) (by show 2<=(pairsOf _).size;rw[ps];exact h2) λst' d f g=>⟨d,f,g⟩) ?_ λ_ _ q=>q)
 case ok=>
  have W:p∈(bs.map Value.ref).zip (bs.map Value.ref):=by rw[<-pairsOf_toList];exact W
  obtain⟨b,Z,e⟩:=cG.mp (lZ W).1
  exact⟨b,Z,e.symm⟩
 rintro⟨⟨⟩,st'⟩ s' ⟨rfl,q1,q2,y⟩
 dsimp only
 have N:(arrOf st').toList.Perm ((bs.map Value.ref).zip (bs.map Value.ref)):=by rw[<-pairsOf_toList];exact dN.mp q1
 obtain⟨B,G,Y⟩:∃B:List Addr,(arrOf st').toList=B.map (λc=>(Value.ref c,Value.ref c))/\B.Perm bs:=by
  have zz:=Dt bs
  rw[zz]at N
  refine⟨(arrOf st').toList.map (λp=>match p.1 with
   | .ref c=>c
   |_=>0),?_,?_⟩
  ·rw[eO]
   conv=>lhs;rw[<-uT (arrOf st').toList]
   refine jD λp W=>?_
   obtain⟨c,_,rfl⟩:=cG.mp (N.mem_iff.mp W)
   rfl
  ·have:=N.map (λp:Value×Value=>match p.1 with
    | .ref c=>c
    |_=>0)
   refine this.trans (.of_eq ?_)
   rw[eO]
   conv=>rhs;rw[<-uT bs]
   rfl
 have outs:(arrOf st').map (·.2)=(B.map Value.ref).toArray:=by
  apply oh.mp
  rw[Array.toList_map,G,eO]
  rfl
 have cl:B.length=bs.length:=Y.length_eq
 have sz:((arrOf st').map (·.2)).size<=sizeLine:=by rw[outs,aV,aB,cl,<-vl];exact r
 refine wpAny_bind (seqEpoch_at I rfl (wpAny_bind (listUpdate_at I rfl ?_ (hsz2:=Nat.le_succ_of_le sz))))
 rw[q2]
 simp only[bne_self_eq_false,fJ,if_false]
 rw[outs]
 refine wpAny_pure (h B Y (zE ((Y.map ky).trans (f9 _).symm) ?_ (Dq nd)))
 have O:(B.map ky).Nodup:=(Y.map ky).nodup_iff.mpr nd
 rw[cO]
 intro i j hi J S
 have R:i<B.length:=by simpa using hi
 have U:j<B.length:=by simpa using J
 have K:∀i,(h:i<B.length)->Sq.KC (Ds bs ky) (arrOf st') i=(rk (bs.map ky) (ky B[i]):Int):=λi h=>by
  have e:(arrOf st')[i]? = some (Value.ref B[i],Value.ref B[i]):=by
   rw[<-cB,G,aX,au h]
   rfl
  unfold Sq.KC
  rw[e]
  rfl
 have le:=y i j (eY S) (by rw[ps];omega)
 rw[K i R,K j U]at le
 rw[gO,gO]
 have mi:ky B[i]∈bs.map ky:=gh (Y.mem_iff.mp (b_ R))
 have x:ky B[j]∈bs.map ky:=gh (Y.mem_iff.mp (b_ U))
 have ne:ky B[i]≠ky B[j]:=λz=>by
  have:=(cO.mp O) i j hi J S
  rw[gO,gO]at this
  exact this z
 refine(vQ ne).resolve_right λz=>?_
 have:=Lz x z
 omega
end
end XJ
namespace XJ
open PySem D3
noncomputable def ju:List D->Option D
 |[x]=>(vd x).bind λks=>if ks.length<=1000/\(ks.all λk=>!k.isEmpty)=true then some (.list ((kj ks).map rwD))else none
 |_=>none
noncomputable def lH:List D->Option D
 |[x]=>(vd x).map λks=>.int (ks.length:Int)
 |_=>none
end XJ
namespace XJ
open PySem PySem.Spec PySem.W PyProof.Rows L2 My D3 XK XT XD XS
section
variable{X:Cx}{fl:List Fl}{e:Expr}{pos:Pos}
theorem G_{K:Type}:∀{kvs:List (List L2.Key×V)}{xs:List (List L2.Key×Addr×Value)}{ks:List (List Int)},KT H kvs xs->kvs.map (·.1)=ks.map (λk=>k.map Sum.inl)->∀(j:Nat)(b:Addr)(k:List Int),(xs.map (·.2.1))[j]? = some b->ks[j]? = some k->H b=some (.tup (k.map V.int))
 |_,_,[],.nil,_,j,b,k,h,_=>by simp at h
 |_,_,_::_,.nil,Z,_,_,_,_,_=>by simp at Z
 |_,_,[],.cons _ _,Z,_,_,_,_,_=>by simp at Z
 |_,_,Y::ks,.cons (a:=p) (b:=q) h t,Z,0,b,k,h1,h2=>by
  simp at Z h1 h2
  obtain⟨X,_⟩:=Z
  subst h1 h2
  have:=h.2.1
  rw[X]at this
  rw[this,QC]
 |_,_,Y::ks,.cons (a:=p) (b:=q) h t,Z,j+1,b,k,h1,h2=>by
  simp at Z
  exact G_ (K:=K) t (by simpa using Z.2) j b k (by simpa using h1) (by simpa using h2)
theorem zF:∀{kvs:List (List L2.Key×V)}{xs:List (List L2.Key×Addr×Value)},KT H kvs xs->xs.map (·.1)=kvs.map (·.1)
 |_,_,.nil=>rfl
 |_,_,.cons h t=>by rw[bf,bf,zF t,h.1]
noncomputable def vI:V->Int
 | .int i=>i
 |_=>0
noncomputable def kyH(H:Hp)(b:Addr):List Int:=match H b with
 |some (.tup xs)=>xs.map vI
 |_=>[]
theorem LC{k:List Int}(h:H b=some (.tup (k.map V.int))):kyH H b=k:=by
 unfold kyH
 rw[h]
 dsimp only
 rw[eO]
 conv=>rhs;rw[<-uT k]
 rfl
theorem Aw(D:X.calm=true):m_ X (.builtin "sorted") (λxs H Q=>∃(p:Addr)(kvs:List (List L2.Key×V))(ks:List (List Int)),xs=[.ref p]/\L2.Rd H p (.dT kvs)/\kvs.map (·.1)=ks.map (λk=>k.map Sum.inl)/\ks.length<=1000/\(∀k∈ks,k≠[]) /\
 ∀(l:Addr)(B:List Addr),H l=none->(∀c∈B,H c=some (.tup ((kyH H c).map V.int)))->B.map (kyH H)=kj ks->Q (.ref l) (upd H l (.lst (B.map V.ref)))):=by
 intro pins s σ H xs us Q I r h
 obtain⟨p,kvs,ks,rfl,hx,G,T,J,q⟩:=h
 obtain⟨u,rfl,rx⟩:=vals1 r
 cases rx
 obtain⟨_,hd,ents,rel,dd⟩:=zu I.hok hx
 obtain⟨o,es,ep,h1,h2,F,h4,h5,h6⟩:=dd
 have L:TD.vm s.heap p es ep:=⟨o,h1,h2,F⟩
 have le:ents.length=ks.length:=by
  have a:=Paired.length rel
  have b:=congrArg m6 G
  rw[aB,aB]at b
  omega
 have ez:es.size=ks.length:=by rw[<-bx,h4,aB,le]
 have bl:(ents.map (·.2.1)).length=ks.length:=by rw[aB,le]
 have hb:=G_ (K:=Unit) rel G
 refine Calls.call_function_entry kind_sorted plain_sorted entry_sorted (args_sorted1 _) ?_
 unfold Builtin.«sorted»
 refine wpAny_bind (m:=checkCount "sorted" 1 1 _) (wpAny_pure ?_)
 refine wpAny_bind (PySem.W.kdu_collect (A:=X.A.in1) (TD.Qy (es:=es) (ep:=ep) hd) (I.ok.hd D) L (by rw[ez];exact bL T (by decide)) λh' tk acc hk S=>?_)
 have ea:acc.toList=(ents.map (·.2.1)).map Value.ref:=by
  apply cF
  intro j
  cases ej:acc.toList[j]? with
  |none=>
   have:acc.toList.length<=j:=List.getElem?_eq_none_iff.mp ej
   rw[bx,S.1,ez,<-bl]at this
   rw[bB (by rw[aB];exact this)]
  |some v=>
   obtain⟨e,U,rfl⟩:=S.2 j v (by rw[<-cB];exact ej)
   rw[<-cB,h4,aX]at U
   rw[eO,aX]
   cases ex:ents[j]? with
   |none=>rw[ex]at U;cases U
   |some x=>rw[ex]at U;cases U;rfl
 have N:L2.Inv X pins σ H {s with heap:=h',toks:=tk}:=I.kept hk
 generalize hB:ents.map (·.2.1)=bs at *
 rw[ea]
 have vl:(bs.map Value.ref).length=ks.length:=by rw[aB,bl]
 have hn:H h'.objs.size=none:=N.hok.fresh (aL _)
 have bk:∀b∈bs,H b=some (.tup ((kyH H b).map V.int))/\kyH H b∈ks:=λb hm=>by
  obtain⟨j,f⟩:=fQ hm
  have n:j<ks.length:=by rw[<-bl];exact(cY.mp f).1
  have z:=hb j b ks[j] f (au n)
  rw[LC z]
  exact⟨z,b_ n⟩
 have bm:bs.map (kyH H)=ks:=by
  apply ou
  ·rw[aB,bl]
  ·intro j g1 M
   rw[gO]
   have l1:j<bs.length:=by rw[bl];exact M
   exact LC (hb j _ _ (au l1) (au M))
 have nd:(bs.map (kyH H)).Nodup:=by
  rw[bm]
  rw[zF rel,G]at h6
  exact(fY.mp h6).imp λz y=>z (by rw[y])
 refine wpAny_bind (wpAny_newList ?_ (by rw[vl];exact bL T (by decide)))
 have Z:(h'.push (seqObj "list" (bs.map Value.ref).toArray 0)).get? h'.objs.size=some (seqObj "list" (bs.map Value.ref).toArray 0):=Heap.get?_push_size _ rfl
 show wpAny _ _ _ _ _ {s with heap:=h'.push (seqObj "list" (bs.map Value.ref).toArray 0),toks:=tk}
 have R:∀(B:List Addr)(h2:Heap)(c:Nat),B.length<=1000->h2.get? h'.objs.size=some (seqObj "list" (B.map Value.ref).toArray c)->gP X.prog X.w (upd H h'.objs.size (.lst (B.map V.ref))) h2 h'.objs.size (.lst (B.map V.ref)):=λB h2 c g d=>by
  refine⟨by rw[aB];exact bL g (by decide),_,c,?_,d⟩
  clear d g
  induction B with
  |nil=>exact .nil
  |cons i l ih=>exact .cons rfl ih
 refine wpAny_bind (wpAny_holding (wpAny_call_entry slot_list_sort ⟨_,Z,rfl⟩ entry_list_sort ?body (args_list_sort _)))
 case body=>
  by_cases h2:2<=bs.length
  ·refine Jm (ky:=kyH H) Z h2 (by rw[bl];exact T) (λb hm=>⟨J _ (bk b hm).2,?_⟩) nd λB t ec=>⟨_,rfl,wpAny_pure ⟨_,rfl,?_⟩⟩
   ·obtain⟨its,rr,⟨o,g1,M,g3⟩,_⟩:=N.tuple (.inl (.inl (bk b hm).1))
    exact⟨its,⟨o,Heap.get?_push_of_some _ g1,M,g3⟩,tZ rr⟩
   ·obtain⟨c,U⟩:=sortedHeap_at (out:=(B.map Value.ref).toArray) Z
    have O:=N.laid (h':=sortedHeap (h'.push (seqObj "list" (bs.map Value.ref).toArray 0)) h'.objs.size (bs.map Value.ref) (B.map Value.ref).toArray) (t':=tk) (a:=h'.objs.size) (o:=.lst (B.map V.ref)) (λb u e=>by
     have Y:=Heap.lt_size e
     rw[sortedHeap_old (aZ Y) (by rw[size_push'];exact fW Y)]
     exact Heap.get?_push_of_some _ e) (aL _) (R B _ c (by rw[t.length_eq,bl];exact T) U)
    exact⟨.ref _,_,O,rfl,q _ B hn (λc D=>(bk c (t.mem_iff.mp D)).1) (by rw[ec,bm])⟩
  ·have C:=q _ bs hn (λc D=>(bk c D).1)
   have E:bs.length=0\/bs.length=1:=by omega
   rcases E with h0|h1
   ·have P:bs=[]:=cj.mp (by omega)
    subst P
    refine list_sort_tree (ns:=[]) Z .nil (by decide) λout ns' a1 a2 a3=>⟨_,rfl,wpAny_pure ⟨_,rfl,?_⟩⟩
    obtain rfl:=rM.mp a2
    have oe:out.toList=[]:=cj.mp a1.length
    obtain⟨c,U⟩:=sortedHeap_at (out:=out) Z
    have O:=N.laid (h':=sortedHeap (h'.push (seqObj "list" (([]:List Addr).map Value.ref).toArray 0)) h'.objs.size (([]:List Addr).map Value.ref) out) (t':=tk) (a:=h'.objs.size) (o:=.lst (([]:List Addr).map V.ref)) (λb u e=>by
     have Y:=Heap.lt_size e
     rw[sortedHeap_old (aZ Y) (by rw[size_push'];exact fW Y)]
     exact Heap.get?_push_of_some _ e) (aL _) (R [] _ c (by decide) (by
      have:out = #[]:=oh.mp oe
      rw[this]at U ⊢
      exact U))
    exact⟨.ref _,_,O,rfl,C (by rw[<-bm];rfl)⟩
   ·obtain⟨P,rfl⟩:=List.length_eq_one_iff.mp h1
    refine K_ (v:=.ref P) Z λF c k e=>⟨_,rfl,wpAny_pure ⟨_,rfl,?_⟩⟩
    have O:=N.laid (h':=F) (t':=tk) (a:=h'.objs.size) (o:=.lst ([P].map V.ref)) (λb u e=>k b u (aZ (Heap.lt_size e)) (Heap.get?_push_of_some _ e)) (aL _) (R [P] _ c (show 1<=1000 by decide) e)
    exact⟨.ref _,_,O,rfl,C (by rw[<-bm];rfl)⟩
end
end XJ
namespace XJ
open PySem PySem.Spec PySem.W PyProof.Rows L2 My D3 XK XT XD XS
theorem Hf{ks:List (List L2.Key×V)}(h:TTs H ks (ttP S)):ks.map (·.1)=(S.map (·.1)).map λk=>k.map Sum.inl:=by
 induction S generalizing ks with
 |nil=>cases h;rfl
 |cons q S X=>
  generalize Z:ttP (q::S)=g at h
  cases h with
  |nil=>cases Z
  |cons t r=>
   rename_i Y m z v T U
   have Z:(rwD q.1,ttV q.2)::ttP S=_:=Z
   injection Z with h1 h2
   injection h1 with h1 R
   have W:q.1=Y:=by
    have:=congrArg (λd=>CP d) h1
    simpa[rwD,CP,nF]using this
   subst W
   rw[bf,bf,bf,X (h2▸r)]
theorem Ax{ok:Ok}{x:D}{S:List (List Int)}(e:vd x=some S)(r:RA K ok pl H v x):∃a,v = .ref a/\((S=[]/\L2.Rd H a (.dK []))\/(S≠[]/\∃kvs,L2.Rd H a (.dT kvs)/\kvs.map (·.1)=S.map λk=>k.map Sum.inl)):=by
 cases x with
 |dict kvs=>
  unfold vd at e
  dsimp only at e
  cases Z:xq kvs with
  |some T=>
   rw[Z]at e
   cases e
   obtain⟨a,rfl,h⟩:=G4 (x:=.dict kvs) Z r
   refine⟨a,rfl,?_⟩
   rcases h with⟨rfl,h⟩|⟨q,ks,h,t⟩
   ·exact .inl ⟨rfl,h⟩
   ·exact .inr ⟨(λz=>by
     have:=Hf t
     rw[z]at this
     cases this),_,h,Hf t⟩
  |none=>
   rw[Z]at e
   have e:tsD kvs=some S:=e
   by_cases Y:S=[]
   ·subst Y
    cases kvs with
    |nil=>cases Z
    |cons q X=>
     exfalso
     unfold tsD at e
     split at e
     ·next z=>cases z
     ·obtain⟨k,_,V⟩:=bind1 e
      cases W:tsD X with
      |none=>simp_all
      |some U=>simp_all
     ·cases e
   ·obtain⟨a,rfl,h⟩:=Qx (x:=.dict kvs) e Y r
    refine⟨a,rfl,.inr ⟨Y,_,h,?_⟩⟩
    unfold dtI
    rw[eO]
    rfl
 |_=>cases e
section
variable{X:Cx}{fl:List Fl}{e:Expr}{pos:Pos}
theorem xR(D:X.calm=true){fa:FA}{p:Pos}(ha:DB X fl .P [e] fa)(J:Gl X "sorted")(hm:X.mg "sorted"=none)
 (he:starEach [e] X.env=(false,eval e X.env)::starEach [] X.env:=by rfl) (B:(backTo pos (starEach [] X.env)).any (·.1)=false:=by rfl):DE X fl .FC (.Call (.Name "sorted" p) [e] [] pos) (dCall ju fa):=by
 have bs:bootBuiltins "sorted"=some (.builtin "sorted"):=by decide +kernel
 intro pins s σ H Q I h
 obtain⟨G,ow,δ,d,R,w,q⟩:=h
 obtain⟨ds,C,T⟩:=bind1 w
 unfold ju at T
 split at T
 case h_2=>cases T
 next x=>
 obtain⟨ks,E,U⟩:=bind1 T
 by_cases W:ks.length<=1000/\(ks.all λk=>!k.isEmpty)=true
 case neg=>rw[if_neg W]at U;cases U
 rw[if_pos W]at U
 cases U
 by_cases K:ks=[]
 ·subst K
  refine pZ (XB.Am D) J hm bs ha (by decide) (by decide) he B pins s σ H Q I ⟨G,ow,δ,_,R,C,λvs H' sm r'=>?_⟩
  cases r' with
  |cons N O=>
   cases O
   obtain⟨a,rfl,Y⟩:=Ax E N
   have Y:L2.Rd H' a (.dK []):=by
    rcases Y with⟨_,h⟩|⟨z,_⟩
    ·exact h
    ·exact absurd rfl z
   exact⟨a,[],[],rfl,Y,rfl,by decide,λl hn=>q _ _ (sm.trans (dH hn _)) (.inr ⟨_,_,_,rfl,rfl,sm.free hn,dj,.nil⟩)⟩
 ·refine pZ (Aw D) J hm bs ha (by decide) (by decide) he B pins s σ H Q I ⟨G,ow,δ,_,R,C,λvs H' sm r'=>?_⟩
  cases r' with
  |cons N O=>
   cases O
   obtain⟨a,rfl,Y⟩:=Ax E N
   rcases Y with⟨z,_⟩|⟨_,kvs,h,v⟩
   ·exact absurd z K
   refine⟨a,kvs,ks,rfl,h,v,W.1,λk M=>?_,λl S hn L F=>q _ _ (sm.trans (dH hn _)) (.inr ⟨_,_,_,rfl,rfl,sm.free hn,dj,?_⟩)⟩
   ·have:=dD.mp W.2 k M
    intro z
    subst z
    cases this
   ·rw[<-F,eO]
    have Z:∀c∈S,upd H' l (.lst (S.map V.ref)) c=some (.tup ((kyH H' c).map V.int)):=λc D=>dH hn _ _ _ (L c D)
    generalize upd H' l (.lst (S.map V.ref))=u at Z
    clear F L
    induction S with
    |nil=>exact .nil
    |cons i is A=>exact .cons (.tup (Z i aC) (qM _)) (A λj y=>Z j (aJ _ y))
theorem Jo:m_ X (.builtin "len") (λxs H Q=>∃(p:Addr),xs=[.ref p]/\((∃kvs,L2.Rd H p (.dK kvs)/\Q (.int kvs.length) H)\/∃kvs,L2.Rd H p (.dT kvs)/\Q (.int kvs.length) H)):=by
 intro pins s σ H xs us Q I r h
 obtain⟨p,rfl,h⟩:=h
 obtain⟨u,rfl,W⟩:=vals1 r
 cases W
 rcases h with⟨kvs,Z,q⟩|⟨kvs,Z,q⟩
 ·exact Xn I Z λt s' S=>⟨.int _,H,S,⟨t,rfl⟩,q⟩
 ·obtain⟨z,hd,ents,rel,T⟩:=zu I.hok Z
  obtain⟨o,es,ep,h1,h2,U,V,_,_⟩:=T
  have Y:es.size=kvs.length:=by rw[<-bx,V,aB,(Paired.length rel).symm]
  refine TD.Qz hd ⟨o,h1,h2,U⟩ (by rw[Y];rw[sizeLine_eq]at z;omega) λt tk=>?_
  rw[Y]
  exact⟨.int _,H,I.tok tk,⟨t,rfl⟩,q⟩
theorem Ay(ha:DB X fl .P [e] fa)(D:Gl X "len")(hm:X.mg "len"=none)
 (J:starEach [e] X.env=(false,eval e X.env)::starEach [] X.env:=by rfl) (B:(backTo pos (starEach [] X.env)).any (·.1)=false:=by rfl):DE X fl .FC (.Call (.Name "len" p) [e] [] pos) (dCall lH fa):=
 PE.imp (pZ Jo D hm (show bootBuiltins "len"=some (.builtin "len")by decide +kernel) ha (by decide) (by decide) J B) λσ H Q h=>by
 obtain⟨G,ow,δ,d,R,T,q⟩:=h
 obtain⟨ds,O,Z⟩:=bind1 T
 refine⟨G,ow,δ,ds,R,O,λvs H' s r'=>?_⟩
 unfold lH at Z
 split at Z
 case h_2=>cases Z
 next x=>
 cases Y:vd x with
 |none=>rw[Y]at Z;cases Z
 |some ks=>
  rw[Y]at Z
  cases Z
  cases r' with
  |cons V W=>
   cases W
   obtain⟨a,rfl,U⟩:=Ax Y V
   rcases U with⟨rfl,h⟩|⟨_,kvs,h,S⟩
   ·exact⟨a,rfl,.inl ⟨_,h,q _ _ s (.inl ⟨rfl,.int _⟩)⟩⟩
   ·refine⟨a,rfl,.inr ⟨_,h,?_⟩⟩
    have:kvs.length=ks.length:=by
     have:=congrArg m6 S
     rwa[aB,aB]at this
    rw[this]
    exact q _ _ s (.inl ⟨rfl,.int _⟩)
end
end XJ
namespace XJ
open PySem PySem.Spec PyProof.Rows L2 My D3 XK XT XD
section
variable{X:Cx}{pins:List (Addr×Obj)}{σ:L2.St}{H H':Hp}{s:Shared}{a:Addr}{kvs:List (List L2.Key×V)}{o:Obj}
end
section
variable{K:PySem.W.Frag}{H:Hp}{a:Addr}{kvs:List (List L2.Key×V)}{o:Obj}
end
section
variable{X:Cx}{fl fl':List Fl}{e b c elt tg iter:Expr}{es ifs:List Expr}{k:Kd}{f fa fb fc fx:FE}{ft gt:FT}{pos:Pos}{scope:Scope}{ix L TT:List Nat}{fi:FA}{g:FG}
end
end XJ
namespace HT
open PySem PySem.Spec PyProof.Rows L2
section
variable{prog:Program}{w:World}{A:Around}{E:Value->Shared->Prop}{s:Shared}
theorem QH{t:Addr}{items:Array Value}{lo hi:Option Int}(B:IsTup s.heap t items)(hs:s.heap.IsSliceOf sl vl vu .none)(pl:IsPart vl lo)(D:IsPart vu hi)
 (hw:sIx items.size 0 lo=0/\sIx items.size items.size hi=items.size) (h:Q (.ref t) s):wpAny (model prog w) A (getItem (.ref t) (.ref sl)) Q E s:=by
 obtain⟨os,Y,X,W⟩:=id hs
 have ty:s.TypeIs (.ref sl) "slice" := ⟨os,Y,X⟩
 unfold getItem
 try with_reducible refine wpAny_holding ?_
 first|refine wpAny_bind (wpAny_pure ?_)|skip
 refine wpAny_bind (wpAny_sequenceKey B.typeIs (by decide) (wpAny_bind (wpAny_callSpecial?_slot (name:=Str.ofString "__getitem__") B.typeIs PyProof.Rows.slot_tuple_getitem (wpAny_call_entry PyProof.Rows.slot_tuple_getitem B.typeIs entry_tuple_getitem ?_ (args_tuple_getitem _ _)))))
 refine wpAny_bind (m:=Builtin.Tuple.tupleItemsOf (.ref t)) (tupleItemsOf_ B (wpAny_bind (wpAny_typeOf ty ?_)))
 rw[if_pos (by decide)]
 refine wpAny_bind (oF hs pl D ?_)
 have Z:(((sIx items.size 0 lo:Nat):Int)==0&&(1:Int)==1&&(sIx items.size items.size hi-sIx items.size 0 lo)==items.size)=true:=by
  rw[hw.1,hw.2]
  simp
 show wpAny _ _ (if(((sIx items.size 0 lo:Nat):Int)==0&&(1:Int)==1&&(sIx items.size items.size hi-sIx items.size 0 lo)==items.size)=true then _ else _) _ _ s
 rw[if_pos Z]
 unfold Builtin.Tuple.tupleIsExact
 refine wpAny_bind (wpAny_bind (wpAny_typeOf B.typeIs (wpAny_pure ?_)))
 rw[if_pos (by decide)]
 exact wpAny_bind (wpAny_rule (wpAny_pure ⟨_,rfl,wpAny_pure h⟩))
end
end HT
namespace D3
open PySem PySem.Spec PyProof.Rows L2 My
noncomputable def Zq(K:PySem.W.Frag):V->Option Int->Option Int->Hp->VK->Prop:=λx lo hi H Q=>∃a xs,x = .ref a/\SqT K H a xs/\HT.sIx xs.length 0 lo=0/\HT.sIx xs.length xs.length hi=xs.length/\Q (.ref a) H
theorem LK:SlR X (Zq X.K):=by
 intro pins s σ H x v vl vu lo hi sl Q I Y hs pl W h
 obtain⟨a,xs,rfl,V,h1,h2,q⟩:=h
 cases Y
 obtain⟨its,r,Z,U⟩:=I.tuple V
 have hlen:its.toArray.size=xs.length:=by rw[aV];exact r.length.symm
 exact⟨"tuple", _,PyProof.Rows.slot_tuple_getitem.lookup,Z.typeIs,HT.QH Z hs pl W (by rw[hlen];exact⟨h1,h2⟩) ⟨.ref a,H,I,rfl,q⟩⟩
section
variable{X:Cx}{fl:List Fl}{a e:Expr}{f:FE}{pos:Pos}
theorem uM(h:flats l=true)(lo hi:Option Int):flats (cutD l lo hi)=true:=by
 have Y:∀(n:Nat)(l:List D),flats l=true->flats (l.drop n)=true:=λn=>by
  induction n with
  |zero=>exact λl h=>h
  |succ n Z=>
   intro l h
   cases l with
   |nil=>rfl
   |cons d l=>rw[flats,aU]at h;exact Z l h.2
 have tk:∀(n:Nat)(l:List D),flats l=true->flats (l.take n)=true:=λn=>by
  induction n with
  |zero=>exact λl h=>by simp[flats]
  |succ n Z=>
   intro l h
   cases l with
   |nil=>rfl
   |cons d l=>
    rw[flats,aU]at h
    rw[List.take_succ_cons,flats,aU]
    exact⟨h.1,Z l h.2⟩
 exact tk _ _ (Y _ _ h)
theorem U9{lo hi:Option Expr}{p2:Pos}{fl1:FO}(h:DE X fl .P a f)(h1:PO X lo (tDO X.K fl fl1))(h2:PO X hi (tDO X.K fl fh)):DE X fl .FC (.Subscript a (.Slice lo hi none p2) pos) (Jg f fl1 fh):=PE.imp (BX (LK.or T6) h h1 h2) λσ H Q h=>by
 obtain⟨G,ow,δ,d,R,O,q⟩:=h
 obtain⟨x,D,O⟩:=bind1 O
 obtain⟨V,E,O⟩:=bind1 O
 obtain⟨W,F,T⟩:=bind1 O
 refine⟨G,ow,δ,x,R,D,λv H1 s1 J=>⟨G,ow,δ,V,R.grow s1,E,λH2 s2=>⟨G,ow,δ,W,R.grow (s1.trans s2),F,λC s3=>?_⟩⟩⟩
 obtain⟨l,rfl⟩:∃l,x = .tuple l:=by
  cases x<;>first|exact⟨_,rfl⟩|cases T
 dsimp only at T
 by_cases Z:flats l=true
 case neg=>rw[if_neg Z]at T;cases T
 rw[if_pos Z]at T
 cases T
 obtain⟨p,xs,rfl,I,M⟩:=J.tupE0
 have Y:=s2.trans s3
 have N:xs.length=l.length:=M.length
 have U:jl C p xs:=jl.same Y I
 have S:=M.same Y
 by_cases hw:HT.sIx xs.length 0 V=0/\HT.sIx xs.length xs.length W=xs.length
 ·refine .inl ⟨p,xs,rfl,.inl (.inl U),hw.1,hw.2,q _ _ (s1.trans Y) (.inl ⟨uM Z V W,?_⟩)⟩
  have:cutD l V W=l:=by
   unfold cutD
   rw[<-N,<-Ai,<-Ai,hw.1,hw.2,N]
   simp
  rw[this]
  exact .tup U (RAs.flat Z S)
 ·refine .inr ⟨p,xs,rfl,.inl (.inl U),hw,λpn L=>q _ _ ((s1.trans Y).trans (dH L _)) (.inl ⟨uM Z V W,?_⟩)⟩
  exact .tup (show jl _ _ _ from dj) (RAs.flat (uM Z V W) ((S.same (dH L _)).cut V W))
theorem Jp(B:X.calm=true):m_ X (.builtin "max") (λxs H Q=>∃(p:Addr)(i:Int)(r:List Int),xs=[.ref p]/\SqT X.K H p ((i::r).map V.int)/\Q (.int (mxI i r)) H):=by
 intro pins s σ H xs us Q I r h
 obtain⟨p,i,Y,rfl,G,q⟩:=h
 obtain⟨u,rfl,M⟩:=vals1 r
 cases M
 obtain⟨its,U,pl,m⟩:=I.tuple G
 have hi:=tZ U
 obtain⟨xs,e⟩:=hi.allInts.items
 have Z:i::Y=xs.toList.map (·.1):=by rw[<-hi.numsOf,<-nums_intItems,<-e]
 have T:0<xs.size:=by
  have N:0<(i::Y).length:=by simp
  rw[Z,aB,bx]at N;exact N
 have S:s.heap.IsTuple p (intItems xs):=by
  rw[<-e]
  obtain⟨o,R,x,n,y⟩:=pl
  exact⟨o,R,x,n,y⟩
 have W:p<s.heap.objs.size:=by obtain⟨o,R,_⟩:=S;exact Heap.lt_size R
 refine call_max_walk (wpAny_pyIter_tuple S ?_)
 refine⟨_,_,_,_,_,_,_,rfl,Walks.tuple (A:=X.A.in1) (I.ok.hd B) _ p (aZ W) (intItems xs),⟨⟨_,Heap.get?_push_size _ rfl,rfl,rfl⟩,S.push _⟩,λb O=>?_,by simpa[intItems]using T,CmpOf.ints_gt (numAt xs) (λ_ _=>intItems_at),λv h' tk C E=>?_⟩
 ·show b<(s.heap.push _).objs.size
  rw[Heap.size_push]
  simp at O
  rcases O with rfl|rfl
  ·exact gM _
  ·exact fW W
 have F:(intItems xs)[argBest (λi j=>decide (numAt xs i>numAt xs j)) (xs.size-1)]? = some v:=by simpa[intItems]using C
 obtain⟨t,rfl⟩:=intItems_at F
 obtain⟨h1,h2⟩:=argBest_gt (numAt xs) (xs.size-1)
 have J:numAt xs (argBest (λi j=>decide (numAt xs i>numAt xs j)) (xs.size-1))∈i::Y:=by
  rw[Z,numAt_eq];exact getD_mem (by rw[aB,bx];omega)
 have L:∀a∈i::Y,a<=numAt xs (argBest (λi j=>decide (numAt xs i>numAt xs j)) (xs.size-1)):=λa ha=>by
  rw[Z]at ha
  obtain⟨j,D,rfl⟩:=mem_getD ha
  rw[aB,bx]at D
  rw[<-numAt_eq];exact h2 j (by omega)
 have sp:=oK Y i
 have w:numAt xs (argBest (λi j=>decide (numAt xs i>numAt xs j)) (xs.size-1))=mxI i Y:=pL (sp.2 _ J) (L _ sp.1)
 rw[w]
 exact⟨.int _,H,I.kept λb o P=>E b o (λz=>by
  rw[aO.mp z]at P
  exact absurd (Heap.lt_size P) (eE _)) (Heap.get?_push_of_some _ P),⟨_,rfl⟩,q⟩
theorem U_:BrC K (λxs H Q=>∃(p:Addr)(i:Int)(r:List Int),xs=[.ref p]/\SqT K H p ((i::r).map V.int)/\Q (.int (mxI i r)) H) CT:=by
 intro H xs ds d Q r e q
 unfold CT at e
 split at e
 ·next l=>
  split at e
  ·next i X T=>
   cases e
   cases r with
   |cons Y Z=>
    cases Z
    obtain⟨a,ys,rfl,W,U⟩:=Y.tupE
    obtain rfl:=wV T U
    exact⟨a,i,X,rfl,W,q _ rfl (.int _)⟩
  ·cases e
 ·cases e
end
end D3
namespace TE2
open PySem PySem.Spec PyProof.Rows
section
variable{prog:Program}{w:World}{A:Around}{E:Value->Shared->Prop}{s:Shared}{it t:Addr}{i:Nat}{items:Array Value}
theorem QJ{x:Value}(g:s.heap.IsTupleIter it t i)(D:s.heap.IsTuple t items)(B:items[i]? = some x)(q:∀h',h'.IsTupleIter it t (i+1)->Heap.SameBut it s.heap h'->Q x {s with heap:=h'}):wpAny (model prog w) A (Builtin.SmallTypes.nextOf (.ref it)) Q E s:=by
 obtain⟨o,Z,Y,hd⟩:=id g
 obtain⟨X,h1,_,nl,h2⟩:=D
 unfold Builtin.SmallTypes.nextOf
 refine wpAny_bind (wpAny_callSpecial?_slot (name:=Str.ofString "__next__") g.typeIs F.slot_tuple_iterator_next (wpAny_call_entry F.slot_tuple_iterator_next g.typeIs F.entry_tuple_iterator_next ?_ (F.args_tuple_iterator_next_1 _)))
 refine wpAny_bind (m:=field (.ref it) 0) (wpAny_field Z hd (x:=.ref t) rfl ?_)
 show wpAny _ _ (if(Value.ref t==Value.none)=true then _ else _) _ _ s
 rw[if_neg (show ¬((Value.ref t==Value.none)=true)from aR)]
 refine wpAny_bind (m:=field (.ref it) 1) (wpAny_field Z hd (x:=.int i 0) rfl (wpAny_bind (m:=seqItems? (.ref t)) (wpAny_seqItems h1 h2 ?_)))
 simp only[dG,B]
 refine wpAny_bind (wpAny_setField Z hd (by simp) (wpAny_pure ⟨x,rfl,wpAny_pure (q _ ⟨_,Heap.get?_update_self _ Z (Obj.isFreed_of_fields (Obj.data_mapFields hd _)),(Obj.cls_mapFields ..).trans Y,?_⟩ (Heap.SameBut.update ..))⟩))
 rw[Obj.data_mapFields hd];simp[rawInt]
theorem LQ(J:A.handled=none)(g:s.heap.IsTupleIter it t i)(D:s.heap.IsTuple t items)(B:items[i]? = none)
 (q:∀h' e,Heap.ExtBut it s.heap h'->(∃o,h'.get? e=some o/\o.cls = .type "StopIteration")->E (.ref e) {s with heap:=h'}):wpAny (model prog w) A (Builtin.SmallTypes.nextOf (.ref it)) Q E s:=by
 obtain⟨o,Z,X,hd⟩:=id g
 obtain⟨Y,h1,_,nl,h2⟩:=D
 unfold Builtin.SmallTypes.nextOf
 refine wpAny_bind (wpAny_callSpecial?_slot (name:=Str.ofString "__next__") g.typeIs F.slot_tuple_iterator_next (wpAny_call_entry F.slot_tuple_iterator_next g.typeIs F.entry_tuple_iterator_next ?_ (F.args_tuple_iterator_next_1 _)))
 refine wpAny_bind (m:=field (.ref it) 0) (wpAny_field Z hd (x:=.ref t) rfl ?_)
 show wpAny _ _ (if(Value.ref t==Value.none)=true then _ else _) _ _ s
 rw[if_neg (show ¬((Value.ref t==Value.none)=true)from aR)]
 refine wpAny_bind (m:=field (.ref it) 1) (wpAny_field Z hd (x:=.int i 0) rfl (wpAny_bind (m:=seqItems? (.ref t)) (wpAny_seqItems h1 h2 ?_)))
 simp only[dG,B]
 refine wpAny_bind (wpAny_rule (wpAny_bind (wpAny_setField Z hd (by simp) ?_)))
 refine wpAny_bind (m:=newExc (.type "StopIteration") []) ?_
 simp only[newExc,newTuple]
 refine wpAny_bind (wpAny_newObj_type (wpAny_bind (m:=firstArgMember _ _) (wpAny_of_eq (a:=Value.none) (by first|rfl|(simp only[firstArgMember];rfl)) (wpAny_newObj_type ?_ (by size_fits)))) (by size_fits))
 simp only[raiseNew]
 refine wpAny_bind (wpAny_handled ?_)
 rw[show A.in1.handled=none from J]
 refine wpAny_bind (wpAny_pure (wpAny_throw ?_))
 exact q _ _ (((Heap.SameBut.update ..).extBut.push _).push _) ⟨_,Heap.get?_push_size _ rfl,rfl⟩
theorem draws(D:A.handled=none)(it t:Addr)(B:t≠it)(items:Array Value):Draws prog w A it [it,t] items.size (λi v=>items[i]? = some v) (λi h=>h.IsTupleIter it t i/\h.IsTuple t items) where
 live:=λ_ _ st=>let⟨o,Y,_⟩:=st.1;⟨o,Y⟩
 frame:=λ_ _ _ st Z=>⟨st.1.at λo e=>Z it (by simp) o e,st.2.at λo e=>Z t (by simp) o e⟩
 item:=λi s Q E hi st X=>QJ st.1 st.2 (x:=items[i]) (by simp[hi]) λh' g hs=>X _ h' s.toks (by simp[hi]) ⟨g,st.2.extBut hs.extBut B⟩ hs
 done:=λs Q E st W=>LQ D st.1 st.2 (by simp) W
end
open AutoSeq1 (wpAny_loadPart')
theorem LR(l:Addr)(items:Array Value)(n:Nat)(B:Option Addr)(sl:Array (Option Value)):
 Meets (Builtin.«enumerate.__new__» ⟨[.type "enumerate", .ref l],[]⟩) (λ_ R s=>s.heap.get? l=some {cls:=.type "tuple", dict:=B,data:=.seq items n,slots:=sl} /\
  R (.ok (.ret (.ref (s.heap.push {cls:=.type "tuple_iterator", data:=.fields #[.ref l,.int 0 0]}).objs.size)))
   {s with heap:=(s.heap.push {cls:=.type "tuple_iterator", data:=.fields #[.ref l,.int 0 0]}).push {cls:=.type "enumerate", data:=.fields #[.none,.bool false,.ref s.heap.objs.size,rawInt 0,.none,.none]} }):=
 .of_wp λprog w A R s h=>by
  obtain⟨W,g,d,tk,os⟩:=s;obtain⟨Z,h⟩:=h
  have Y:=sub_enumerate
  have X:Heap.IsTuple (Shared.heap ⟨W,g,d,tk,os⟩) l items:=⟨_,Z,rfl,n,rfl⟩
  wp_walk using wpAny_loadPart' Z
  refine wpAny_stack_any λst=>wpAny_pure ?_
  split
  ·rename_i c _ _ _ _ _
   cases(c==Value.type "enumerate")<;>(wp_walk using wpAny_loadPart' Z,wpAny_pyIter_tuple X;exact⟨_,rfl,h⟩)
  ·wp_walk using wpAny_loadPart' Z,wpAny_pyIter_tuple X
   exact⟨_,rfl,h⟩
section
variable{prog:Program}{w:World}{A:Around}{E:Value->Shared->Prop}{s:Shared}
theorem Jq{l:Addr}{items:Array Value}(B:s.heap.IsTuple l items)
 (h:∀h',IsEnum h' (s.heap.objs.size+1) s.heap.objs.size 0 .none->h'.IsTupleIter s.heap.objs.size l 0->h'.objs.size=s.heap.objs.size+2->(∀b o,s.heap.get? b=some o->h'.get? b=some o)->Q (.ref (s.heap.objs.size+1)) {s with heap:=h'}) :
 wpAny (model prog w) A (call (.type "enumerate") [.ref l]) Q E s:=by
 obtain⟨⟨c,X,U,sl⟩,V,Y,n,hd⟩:=B
 replace Y:c = .type "tuple" := Y
 replace hd:U = .seq items n:=hd
 subst Y hd
 refine callType_new F.called_enumerate (by decide) (F.typeCall_enumerate_1 _) (F.newCall_enumerate_1 _) (λobj=>F.args_object_init_2 obj _) F.entry_enumerate_new (LR l items n X sl) ⟨V,?_⟩
 have Z:(s.heap.push {cls:=.type "tuple_iterator", data:=.fields #[.ref l,.int 0 0]}).objs.size=s.heap.objs.size+1:=Heap.size_push ..
 show _/\_
 rw[Z]
 have W:IsEnum ((s.heap.push {cls:=.type "tuple_iterator", data:=.fields #[.ref l,.int 0 0]}).push {cls:=.type "enumerate", data:=.fields #[.none,.bool false,.ref s.heap.objs.size,rawInt 0,.none,.none]}) (s.heap.objs.size+1) s.heap.objs.size 0 .none:=by
  have:=Heap.get?_push_size (s.heap.push {cls:=.type "tuple_iterator", data:=.fields #[.ref l,.int 0 0]}) (o:={cls:=.type "enumerate", data:=.fields #[.none,.bool false,.ref s.heap.objs.size,rawInt 0,.none,.none]}) rfl
  rw[Z]at this;exact this
 exact⟨⟨_,W,rfl⟩,h _ W ⟨_,Heap.get?_push_of_some _ (Heap.get?_push_size _ rfl),rfl,rfl⟩ (by rw[Heap.size_push,Z]) λb o x=>Heap.get?_push_of_some _ (Heap.get?_push_of_some _ x)⟩
theorem QK{e t:Addr}{items:Array Value}{old:Value}{Q:Option Value->Shared->Prop}(W:A.handled=none)(O:t≠it)(B:IsEnum s.heap e it (i:Int) old)(hi:s.heap.IsTupleIter it t i)(J:s.heap.IsTuple t items)(D:items[i]? = none)
 (q:∀h',Heap.ExtBut it s.heap h'->Q none {s with heap:=h'}):wpAny (model prog w) A (pyNext (.ref e)) Q E s:=by
 have ty:s.TypeIs (.ref e) "enumerate" := ⟨_,B,rfl⟩
 unfold pyNext
 refine wpAny_bind (wpAny_attempt (wpAny_callSpecial?_slot (name:=Str.ofString "__next__") ty F.slot_enumerate_next (wpAny_call_entry F.slot_enumerate_next ty F.entry_enumerate_next ?_ (F.args_enumerate_next_1 _))))
 refine wpAny_bind (m:=field (.ref e) 2) (wpAny_field B rfl (x:=.ref it) rfl (wpAny_bind (LQ (A:=A.in1) W hi J D λh' x Y Z=>?_)))
 obtain⟨o,X,V⟩:=Z
 exact wpAny_bind (wpAny_isInstance (T := "StopIteration") (b:=true) ⟨o,X,V⟩ isSubtype_stop (wpAny_pure (q _ Y)))
end
end TE2
namespace D3
open PySem PySem.Spec PyProof.Rows L2 My
noncomputable def ItT(K:PySem.W.Frag)(a:Addr):It:=
 ⟨λi H=>∃xs x,SqT K H a xs/\xs[i]? = some x,λi H x H'=>∃p y,H p=none/\H'=upd H p (.tup [.int i,y])/\x = .ref p/\∀xs,SqT K H a xs->xs[i]? = some y,λi H=>∃xs,SqT K H a xs/\xs.length<=i⟩
theorem Fx{x1}(a it:Addr):
 Turn P w K (.Tuple elts x1 tpos) (ItT K a) [it+1,it] (it+1) (λi h=>∃old,IsEnum h (it+1) it (i:Int) old/\h.IsTupleIter it a i) where
 mem:=by simp
 obj:=λi h st b Z=>by
  obtain⟨old,V,o,e,c,d⟩:=st
  rcases aW.mp Z with z|z
  ·subst z
   exact⟨_,V,λv z=>by cases z⟩
  ·have z:b=it:=by simpa using z
   subst z
   exact⟨o,e,λv z=>by rw[d]at z;cases z⟩
 keep:=λi h h' st k=>by
  obtain⟨old,V,hi⟩:=st
  exact⟨old,k _ (by simp) _ V,hi.at λo e=>k it (by simp) o e⟩
 item:=by
  intro X m hw l q i pins s σ H E I S st t
  subst m hw l
  obtain⟨xs,x,L,D⟩:=t
  obtain⟨its,F,p,hz⟩:=I.tuple L
  obtain⟨u,C,ru⟩:=F.get D
  obtain⟨old,V,hi⟩:=st
  have fe:=S (it+1) (by simp)
  have fi:=S it (by simp)
  have N:it+1<s.heap.objs.size:=Heap.lt_size V
  have il:i<its.toArray.size:=by
   rw[aV]
   rcases iM i its.length with z|z
   ·exact z
   ·rw[bB z]at C;cases C
  have pt:s.heap.IsTuple a its.toArray:=by
   obtain⟨o,Y,U,n,R⟩:=p
   exact⟨o,Y,U,n,R⟩
  have T:a≠it:=λz=>by
   obtain⟨o,Y,U,_⟩:=p
   obtain⟨o2,R,j,_⟩:=id hi
   rw[z,R]at Y
   cases Y
   rw[j]at U
   exact absurd U (by decide)
  have O:a≠it+1:=λz=>by
   obtain⟨o,Y,U,_⟩:=p
   rw[z,V]at Y
   cases Y
   exact absurd (show Value.type "enumerate"=Value.type "tuple"from U) (by decide)
  refine wpAny_pyNext_enum_itemD (TE2.draws (A:=X.A.in1) (I.ok.hd q) it a T its.toArray) V ⟨hi,pt⟩ il (Nat.succ_ne_self it) (by simp[Ne.symm O]) λM h1 tk Q ho G ht hsz B=>?_
  have y:=G.1
  obtain rfl:M=u:=by
   have:its.toArray[i]? = some u:=by simpa using C
   rw[this]at Q
   exact(cQ.inj Q).symm
  have B:∀b o,b≠it+1->b≠it->s.heap.get? b=some o->h1.get? b=some o:=B
  refine⟨_,rfl,wpAny_letOwnedTupleGo_enum ho λh2 r W=>?_⟩
  replace W:Heap.SameBut (it+1) h1 h2:=W
  have hn:H s.heap.objs.size=none:=I.hok.fresh (aL _)
  have I0:Inv X pins σ (upd H s.heap.objs.size (.tup [.int (i:Int),x])) {s with heap:=s.heap.push {cls:=.type "tuple", data:=.seq #[.int (i:Int) tk,M]} }:=
   I.laid (t':=s.toks) (λb o e=>Heap.get?_push_of_some _ e) (aL _) ⟨show 2<=sizeLine by decide,[.int (i:Int) tk,M],.cons ⟨_,rfl⟩ (.cons ru .nil),⟨_,Heap.get?_push_size _ rfl,rfl,_,rfl⟩⟩
  have ne:∀b,b∈[it+1,it]->b≠s.heap.objs.size:=λb Z=>by
   rcases aW.mp Z with J|J
   ·rw[J];exact aZ N
   ·rw[show b=it by simpa using J];exact aZ (fV N)
  have I1:Inv X pins σ (upd H s.heap.objs.size (.tup [.int (i:Int),x])) {s with heap:=h2,toks:=tk+1}:=by
   refine Inv.turnedL (s:={s with heap:=s.heap.push {cls:=.type "tuple", data:=.seq #[.int (i:Int) tk,M]} }) (ch:=[it+1,it]) I0 (λb o Z e=>?_) λb Z=>⟨by rw[cJ (ne b Z)];exact(S b Z).1,(S b Z).2⟩
   have f:b≠it+1:=λz=>Z (by simp[z])
   have b2:b≠it:=λz=>Z (by simp[z])
   rcases Heap.get?_push_cases e with⟨g,e2⟩|g
   ·subst g e2
    exact(W.2 _ f).trans ht
   ·exact(W.2 _ f).trans (B b o f b2 g)
  refine⟨.ref s.heap.objs.size,_,I1,rfl,⟨_,x,hn,rfl,rfl,λys hy=>by rw[I.tuple_inj hy L];exact D⟩,⟨_,r,y.at λo e=>(W.2 _ (aZ (gM it))).trans e⟩,λb Z=>?_⟩
  rw[cJ (ne b Z)]
  exact(S b Z).1
 done:=by
  intro X m hw l q i pins s σ H E I S st t
  subst m hw l
  obtain⟨xs,L,D⟩:=t
  obtain⟨its,F,p,hz⟩:=I.tuple L
  obtain⟨old,V,hi⟩:=st
  have hl:=F.length
  have pt:s.heap.IsTuple a its.toArray:=by
   obtain⟨o,Y,U,n,R⟩:=p
   exact⟨o,Y,U,n,R⟩
  have T:a≠it:=λz=>by
   obtain⟨o,Y,U,_⟩:=p
   obtain⟨o2,R,j,_⟩:=id hi
   rw[z,R]at Y
   cases Y
   rw[j]at U
   exact absurd U (by decide)
  refine TE2.QK (I.ok.hd q) T V hi pt (by simp;omega) λh' eb=>⟨rfl,Inv.turnedL (t':=s.toks) (ch:=[it+1,it]) I (λb o Z e=>eb b o (λz=>Z (by simp[z])) e) S⟩
 self:=λ_ _ _ _ _ st h=>by
  obtain⟨old,V,_⟩:=st
  exact wpAny_pyIter_enum V h
section
variable{X:Cx}{fl:List Fl}{a:Expr}{f:FE}{pos:Pos}
noncomputable def Va(K:PySem.W.Frag)(tl:TE):TI:=λσ H R=>tl σ H λx H1=>∃a,x = .ref a/\(∃xs,SqT K H1 a xs)/\R (ItT K a) H1
theorem L_{J}(hg:Gl X "enumerate")(hm:X.mg "enumerate"=none)(O:PE X a tl)(D:starEach [a] X.env=(false,eval a X.env)::starEach [] X.env:=by rfl)
 (B:(backTo pos (starEach [] X.env)).any (·.1)=false:=by rfl):PI X (.Tuple elts J tpos) (.Call (.Name "enumerate" p) [a] [] pos) (Va X.K tl):=by
 intro pins s σ H R I h
 refine wpAny_Call_Name_kw (mq I hg hm boot_enumerate (PyProof.Rows.callWith_type1 (thn ((jM O nQ D) pos pins s σ H (λvs H1=>match vs with|[x]=>∃a,x = .ref a/\(∃xs,SqT X.K H1 a xs)/\R (ItT X.K a) H1|_=>False) I h) λus s1 ⟨vs,H1,W,T,q1⟩=>?_) D B))
 cases T with
 |nil=>exact q1.elim
 |cons r U=>
  cases U with
  |cons _ _=>exact q1.elim
  |nil=>
  obtain⟨l,e,⟨xs,Q⟩,q⟩:=q1
  subst e
  cases r
  obtain⟨its,E,pl,C⟩:=W.tuple Q
  have pt:s1.heap.IsTuple l its.toArray:=by
   obtain⟨o,G,L,n,M⟩:=pl
   exact⟨o,G,L,n,M⟩
  refine TE2.Jq pt λh' Z V S P=>?_
  have F:Inv X pins σ H1 {s1 with heap:=h'}:=W.kept (t':=s1.toks) P
  refine wpAny_pyIter_enum (s:={s1 with heap:=h'}) Z ?_
  refine⟨s1.heap.objs.size+1,[s1.heap.objs.size+1,s1.heap.objs.size],_,_,H1,rfl,F,Fx l s1.heap.objs.size,⟨_,Z,V⟩,λb N=>?_,q⟩
  have Y:s1.heap.objs.size<=b:=by
   rcases aW.mp N with z|z
   ·rw[z];exact Nat.le_succ _
   ·rw[show b=s1.heap.objs.size by simpa using z];exact aL _
  exact W.fpOk Y (W.hok.fresh Y)
theorem Mf{J}(h:DE X fl (.B L) a f)(hg:Gl X "enumerate")(hm:X.mg "enumerate"=none)(he:starEach [a] X.env=(false,eval a X.env)::starEach [] X.env:=by rfl)
 (D:(backTo pos (starEach [] X.env)).any (·.1)=false:=by rfl):DI X fl L (.Tuple elts J tpos) (.Call (.Name "enumerate" p) [a] [] pos) (Fq f):=PI.imp (L_ hg hm h he D) λσ H R' h=>by
 obtain⟨G,ow,δ,l,R,I,q⟩:=h
 obtain⟨d,F,S⟩:=bind1 I
 cases d<;>first|(cases S;done)|skip
 next V=>
 cases S
 refine⟨G,ow,δ,_,R,F,λv H1 s r=>?_⟩
 obtain⟨a,xs,rfl,N,keep⟩:=K7 (R.grow s) r
 refine⟨a,rfl,⟨xs,N⟩,q _ _ s λH2 k2 i=>?_⟩
 obtain⟨Y,U⟩:=keep H2 k2
 refine⟨λd hd=>?_,λK=>⟨xs,Y,by rw[U.length];simpa[lG]using K⟩⟩
 have Z:(V[i]?).map (λx=>PyData.tuple [.int (i:Int),x])=some d:=by
  have:=hd
  unfold lG at this
  rw[bZ]at this
  exact this
 cases e:V[i]? with
 |none=>rw[e]at Z;cases Z
 |some E=>
  rw[e]at Z
  cases Z
  obtain⟨y,T,P⟩:=U.get e
  refine⟨⟨xs,y,Y,T⟩,λx C W=>?_⟩
  obtain⟨p,Q,M,rfl,rfl,O⟩:=W
  have:some y=some Q:=T.symm.trans (O xs Y)
  cases this
  have g:=dH M (.tup [.int (i:Int),y])
  exact⟨g,.tup dj (.cons (.int _) (.cons (P.same g) .nil))⟩
end
end D3
variable{ts:List (Addr×L2.V×L2.V)}
namespace XK
open PySem PySem.Spec PyProof.Rows L2 My D3
theorem SJ{P:Nat->Addr->V->V->Prop}:∀n,(∀j,j<n->∃a i k,P j a i k)->∃ts:List (Addr×V×V),ts.length=n/\∀j t,ts[j]? = some t->P j t.1 t.2.1 t.2.2
 |0,_=>⟨[],rfl,λj t h=>by simp at h⟩
 |n+1,h=>by
  obtain⟨ts,h1,h2⟩:=SJ n λj Y=>h j (by omega)
  obtain⟨a,i,k,X⟩:=h n (by omega)
  refine⟨ts++[(a,i,k)],by simp[h1],λj t e=>?_⟩
  by_cases Y:j<ts.length
  ·rw[bQ Y]at e
   exact h2 j t e
  ·rw[bM (by omega)]at e
   have Z:j-ts.length=0:=by
    rcases rR (j-ts.length)with z|z
    ·exact z
    ·rw[bB (by simp;omega)]at e;cases e
   rw[Z]at e
   cases e
   rw[show j=n by omega]
   exact X
noncomputable def xT(H:Hp)(S:Addr)(vs:List V)(ts:List (Addr×V×V)):Hp:=λb=>if b=S then some (.lst vs)else match ts.find? (λt=>decide (t.1=b))with
 |some t=>some (.tup [t.2.1,t.2.2])
 |none=>H b
theorem Mg{S:Addr}:xT H S vs ts S=some (.lst vs):=by unfold xT;rw[if_pos rfl]
theorem Mh{S:Addr}(hi:∀(j j':Nat) (t t':Addr×V×V),ts[j]? = some t->ts[j']? = some t'->t.1=t'.1->j=j'){t:Addr×V×V}(B:t∈ts)(D:t.1≠S):xT H S vs ts t.1=some (.tup [t.2.1,t.2.2]):=by
 unfold xT
 rw[if_neg D]
 cases e:ts.find? (λu=>decide (u.1=t.1))with
 |none=>
  have:=iJ.mp e t B
  simp at this
 |some t'=>
  have h1:=gU e
  have h2:t'.1=t.1:=of_decide_eq_true (pJ (p:=λu:Addr×V×V=>decide (u.1=t.1)) e)
  obtain⟨j,Y⟩:=fQ B
  obtain⟨j',Z⟩:=fQ h1
  have:=hi j j' t t' Y Z h2.symm
  subst this
  rw[Y]at Z
  cases Z
  rfl
theorem Mi{S:Addr}(h1:b≠S)(h2:∀t∈ts,t.1≠b):xT H S vs ts b=H b:=by
 unfold xT
 rw[if_neg h1,iJ.mpr λt Z=>by simp[h2 t Z]]
theorem Mj{ok:Ok}:∀{vs:List V}{ds:List D},vs.length=ds.length->(∀(j:Nat)(v:V)(d:D),vs[j]? = some v->ds[j]? = some d->RA K ok pl H v d)->RAs K ok pl H vs ds
 |[],[],_,_=>.nil
 |[],_::_,h,_=>by cases h
 |_::_,[],h,_=>by cases h
 |v::vs,d::ds,h,g=>.cons (g 0 v d rfl rfl) (Mj (tM.inj h) λj u e h1 h2=>g (j+1) u e h1 h2)
theorem t_:∀l m:List D,(mz l m).length=min l.length m.length
 |[],m=>by simp[mz]
 |_::_,[]=>by simp[mz]
 |a::l,b::m=>by
  show(mz l m).length+1=_
  rw[t_ l m,bF,bF]
  omega
section
variable{X:Cx}{fl:List Fl}{a b:Expr}{f g:FE}{p p2 pos pos2:Pos}
theorem Mp{L1 L2:List Nat}(ha:DE X fl (.B L1) a f)(hb:DE X fl (.B L2) b g)(hc:X.calm=true)(hg:Gl X "list")(hm:X.mg "list"=none)(hg2:Gl X "zip")(hm2:X.mg "zip"=none)
 (he:starEach [a,b] X.env=(false,eval a X.env)::starEach [b] X.env:=by rfl) (heb:starEach [b] X.env=(false,eval b X.env)::starEach [] X.env:=by rfl) (hpl:(backTo pos2 (starEach [b] X.env)).any (·.1)=false:=by rfl)
 (he2:starEach [.Call (.Name "zip" p2) [a,b] [] pos2] X.env=(false,eval (.Call (.Name "zip" p2) [a,b] [] pos2) X.env)::starEach [] X.env:=by rfl) (hpl2:(backTo pos (starEach [] X.env)).any (·.1)=false:=by rfl) :
 DE X fl .F (.Call (.Name "list" p) [.Call (.Name "zip" p2) [a,b] [] pos2] [] pos) (dOp uK f g):=by
 intro pins s σ H Q I hq
 obtain⟨G,ow,δ,d,R,hf,q⟩:=hq
 obtain⟨x,y,e1,e2,L⟩:=wO hf
 unfold uK at L
 split at L
 case h_2=>cases L
 next l m=>
 by_cases hl:l.length<=1000
 case neg=>rw[if_neg hl]at L;cases L
 rw[if_pos hl]at L
 cases L
 refine wpAny_Call_Name_kw (mq I hg hm boot_list (PyProof.Rows.callWith_type1 ?_ he2 hpl2))
 rw[he2]
 show wpAny _ _ (spliced ((false,eval (.Call (.Name "zip" p2) [a,b] [] pos2) X.env)::backTo pos (starEach [] X.env))) _ _ s
 refine Calls.spliced_cons ?_
 refine wpAny_Call_Name_kw (mq I hg2 hm2 D3.boot_zip (PyProof.Rows.callWith_type1 (thn ((jM ha (jM hb nQ heb) he) pos2 pins s σ H (λvs H1=>∃v u,vs=[v,u]/\Same H H1/\(∃l1 xs,v = .ref l1/\SqL X.K H1 l1 xs/\RAs X.K (okA ow) true H1 xs l)/\∃l2 ys,u = .ref l2/\SqL X.K H1 l2 ys/\RAs X.K (okA ow) true H1 ys m) I
  ⟨G,ow,δ,_,R,e1,λv H1 s1 M=>⟨G,ow,δ,_,R.grow s1,e2,λu H2 s2 A=>⟨v,u,rfl,s1.trans s2,(let⟨l1,xs,e,hx,hr⟩:=sO M;⟨l1,xs,e,s2.seq hx,hr.same s2⟩),sO A⟩⟩⟩) λus s1 ⟨vs,H1,S,M,v,u,ev,D,rv,ru⟩=>?_) he hpl))
 subst ev
 obtain⟨l1,xs,rfl,hx,hr⟩:=rv
 obtain⟨l2,ys,rfl,hy,hr'⟩:=ru
 cases M with
 |cons ra rb=>
 cases rb with
 |cons rb rc=>
 cases rc
 cases ra
 cases rb
 obtain⟨its,C,pl,hz⟩:=S.list hx
 obtain⟨Z,O,pl',hz'⟩:=S.list hy
 have il:its.length=xs.length:=C.length.symm
 have il':Z.length=ys.length:=O.length.symm
 have xl:xs.length=l.length:=hr.length
 have yl:ys.length=m.length:=hr'.length
 refine call_zip_2 pl.isList pl'.isList λh' g1 g2 g3 g4 g5 g6 hk=>?_
 refine Calls.spliced_nil ?_
 have q1:h'.IsList l1 its.toArray:=by
  obtain⟨o,ho,r⟩:=pl.isList
  exact⟨o,hk _ _ ho,r⟩
 have q2:h'.IsList l2 Z.toArray:=by
  obtain⟨o,ho,r⟩:=pl'.isList
  exact⟨o,hk _ _ ho,r⟩
 have Dz:=Jd g1 g2 g3 g4 g5 q1 q2 (aZ (gM _)) (aZ (gM _))
 refine Le (s:={s1 with heap:=h'}) (S.ok.hd hc) Dz g1 g2 g3 g4 g5 q1 q2 (by rw[aV,il,xl];exact bL hl (by decide)) λY acc c kk f1 f2 f3 f4=>?_
 replace kk:∀c o,c∉[s1.heap.objs.size+4,s1.heap.objs.size+3,s1.heap.objs.size,s1.heap.objs.size+1]->h'.get? c=some o->Y.get? c=some o:=kk
 replace f4:Y.get? h'.objs.size=some {cls:=.type "list", dict:=none,data:=.seq acc c,slots:=#[]}:=f4
 replace f2:∀j,j<min its.toArray.size Z.toArray.size->∃a x y,acc[j]? = some (.ref a)/\h'.objs.size<a/\its.toArray[j]? = some x/\Z.toArray[j]? = some y/\IsPair Y a x y:=f2
 have fr:∀c,s1.heap.objs.size<=c->H1 c=none:=λc hc=>S.hok.fresh hc
 have kept:∀b u,s1.heap.get? b=some u->Y.get? b=some u:=λb u e=>kk b u (λz=>by
  have U:=Heap.lt_size e
  simp only[aW,aO,fH,or_false]at z
  rcases z with z|z|z|z<;>rw[z]at U
  ·exact mU.mpr (oA _ _) U
  ·exact mU.mpr (oA _ _) U
  ·exact eE _ U
  ·exact mU.mpr (oA _ _) U) (hk b u e)
 have sS:s1.heap.objs.size<=h'.objs.size:=by rw[g6];omega
 simp only[aV,il,il']at f1 f2
 obtain⟨ts,tl,J⟩:=SJ (P:=λj a i k=>acc[j]? = some (.ref a)/\h'.objs.size<a/\xs[j]? = some i/\ys[j]? = some k/\∃u v,IsPair Y a u v/\RelV i u/\RelV k v) (min xs.length ys.length) (λj E=>by
  obtain⟨a,x,y,k1,k2,k3,h,n⟩:=f2 j E
  have hn1:j<xs.length:=by omega
  have hn2:j<ys.length:=by omega
  obtain⟨u1,w1,M⟩:=C.get (au hn1)
  obtain⟨u2,w2,A⟩:=O.get (au hn2)
  have ex:x=u1:=by
   have:its[j]? = some x:=by simpa using k3
   rw[w1]at this
   exact(cQ.inj this).symm
  have ey:y=u2:=by
   have:Z[j]? = some y:=by simpa using h
   rw[w2]at this
   exact(cQ.inj this).symm
  subst ex ey
  exact⟨a,xs[j],ys[j],k1,k2,au hn1,au hn2,x,y,n,M,A⟩)
 have inj:∀(j j':Nat)(t t':Addr×V×V),ts[j]? = some t->ts[j']? = some t'->t.1=t'.1->j=j':=λj j' t t' h1 h2 h3=>by
  have a1:=(J j t h1).1
  have a2:=(J j' t' h2).1
  rw[<-h3]at a2
  exact f3 j j' t.1 a1 a2
 have T:∀t∈ts,h'.objs.size<t.1/\∃u v,IsPair Y t.1 u v/\RelV t.2.1 u/\RelV t.2.2 v:=λt W=>by
  obtain⟨j,E⟩:=fQ W
  obtain⟨_,k2,_,_,n⟩:=J j t E
  exact⟨k2,n⟩
 have N:acc.toList=ts.map λt=>Value.ref t.1:=by
  apply cF
  intro j
  rw[cB,aX]
  by_cases E:j<ts.length
  ·rw[au E]
   exact(J j _ (au E)).1
  ·rw[bB (by omega),gB (by omega)]
   rfl
 have tn:∀t∈ts,t.1≠h'.objs.size:=λt W=>kJ (T t W).1
 have low:∀b,b<s1.heap.objs.size->xT H1 h'.objs.size (ts.map λt=>V.ref t.1) ts b=H1 b:=λb hb=>Mi (λz=>by rw[z]at hb;exact mU.mpr sS hb) λt W z=>by
  have:=(T t W).1
  rw[z]at this
  exact mU.mpr sS (o8 this hb)
 have hok:HOk X.prog X.w (xT H1 h'.objs.size (ts.map λt=>V.ref t.1) ts) Y:=λb u e=>by
  by_cases hbS:b=h'.objs.size
  ·subst hbS
   rw[Mg]at e
   cases e
   refine⟨by rw[aB,tl];exact bL (bL (Nat.min_le_left _ _) (by rw[xl];exact hl)) (by decide),acc.toList,c,?_,by simpa using f4⟩
   rw[N]
   clear J tl inj T N tn low
   induction ts with
   |nil=>exact .nil
   |cons t ts ih=>exact .cons rfl ih
  ·by_cases hbt:∃t∈ts,t.1=b
   ·obtain⟨t,W,rfl⟩:=hbt
    rw[Mh inj W (tn t W)]at e
    cases e
    obtain⟨_,v1,v2,n,k6,k7⟩:=T t W
    exact⟨show 2<=sizeLine by decide,[v1,v2],.cons k6 (.cons k7 .nil),⟨_,n,rfl,_,rfl⟩⟩
   ·rw[Mi hbS λt W z=>hbt ⟨t,W,z⟩]at e
    exact(S.hok b u e).stay (λc v _ r=>kept c v r) (λc r=>by rw[low c (S.hok.lt r)];exact r) λc xs r=>by rw[low c (S.hok.lt r)];exact r
 have sm:Same H1 (xT H1 h'.objs.size (ts.map λt=>V.ref t.1) ts):=λb u e=>by rw[low b (S.hok.lt e)];exact e
 have I2:=Lf (t':=s1.toks) S kept low hok
 have sz:Same H1 (xT H1 h'.objs.size (ts.map λt=>V.ref t.1) ts):=sm
 have hrz:RAs X.K (λb=>okA ow b/\b≠h'.objs.size) true (xT H1 h'.objs.size (ts.map λt=>V.ref t.1) ts) (ts.map λt=>V.ref t.1) (mz l m):=by
  have hp:=fr _ sS
  have M:=(hr.track.imp (ok':=λb=>okA ow b/\b≠h'.objs.size) (λb w=>⟨w.1,λe=>w.2 (e▸hp)⟩) (λz=>z)).same sm
  have A:=(hr'.track.imp (ok':=λb=>okA ow b/\b≠h'.objs.size) (λb w=>⟨w.1,λe=>w.2 (e▸hp)⟩) (λz=>z)).same sm
  have zln:(mz l m).length=ts.length:=by rw[tl,xl,yl,t_]
  refine Mj (by rw[aB,zln]) λj v d hv hd=>?_
  rw[aX]at hv
  cases et:ts[j]? with
  |none=>rw[et]at hv;cases hv
  |some t=>
   rw[et]at hv
   cases hv
   obtain⟨_,_,k3,h,_⟩:=J j t et
   have lj:j<l.length:=by
    rw[<-xl]
    rcases iM j xs.length with z|z
    ·exact z
    ·rw[bB z]at k3;cases k3
   have mj:j<m.length:=by
    rw[<-yl]
    rcases iM j ys.length with z|z
    ·exact z
    ·rw[bB z]at h;cases h
   rw[Cz,au lj,au mj]at hd
   cases hd
   obtain⟨y1,g1,g2⟩:=M.get (au lj)
   obtain⟨y2,g3,g4⟩:=A.get (au mj)
   rw[k3]at g1
   rw[h]at g3
   cases g1
   cases g3
   exact .tup (Mh inj (fP et) (tn t (fP et))) (.cons g2 (.cons g4 .nil))
 refine⟨.ref h'.objs.size,_,I2,rfl,q _ _ (D.trans sm) (.inr ⟨h'.objs.size,_,_,rfl,rfl,D.free (fr _ sS),Mg,hrz⟩)⟩
end
end XK
namespace XJ
open PySem PySem.Spec PySem.W PyProof.Rows XS
section
variable{prog:Program}{w:World}{A:Around}{E:Value->Shared->Prop}{s:Shared}
structure PR(prog:Program)(w:World)(h:Heap)(D I l:Addr)(its:Array Value)(vs:List (List L2.Key×Addr×Value))(i:Nat):Prop where
 iter:h.IsListIter I l i
 lst:h.IsList l its
 prs:∀(j:Nat)(u:Value),its[j]? = some u->∃(a b:Addr)(k:List L2.Key)(v:Value),u=Value.ref a/\IsTup h a #[Value.ref b,v]/\vs[j]? = some (k,b,v)/\a≠D/\a≠I/\(tupleKind (L2.iT prog w)).is h k b/\b≠D/\b≠I
 ne:l≠D/\l≠I/\D≠I
end
end XJ
namespace XJ
open PySem PySem.Spec PySem.W PyProof.Rows L2 My D3 XK XT XD XS
section
variable{X:Cx}
end
end XJ
namespace XV
open PySem PySem.Spec PyProof.Rows L2 My D3
end XV
namespace XL
open PySem PySem.Spec PySem.W PyProof.Rows L2 My D3
noncomputable abbrev Jr(x y:Str)(p1 p2 p3 p4 p5:Pos)(kd:Nat):Expr:=.Subscript (.Subscript (.Name x p1) (.Name y p2) p3) (.Constant (.int 0) kd p4) p5
section
variable{prog:Program}{w:World}{A:Around}{R:Result->Shared->Prop}{s:Shared}{f c' a b cell:Addr}{nm q x y:Str}{params:Arguments}{scope:Scope}{pm ctv:Value}{p1 p2 p3 p4 p5:Pos}{kd:Nat}{i k:Int}{j:Nat}{t t':Tok}{its its2:Array Value}
theorem Mq{x:Value}(O:s.heap.IsList a its)(D : -(its.size:Int)<=i)(J:i<its.size)(W:its.size<=sizeLine)(B:seqIndex? i its.size=some j)(hi:its[j]? = some x)(h:Q x s):
 wpAny (model prog w) A (getItem (.ref a) (.int i t)) Q E s:=by
 have hn:=uw
 by_cases Y:0<=i
 ·have Z:i.toNat=j:=by
   rw[seqIndex_of Y J]at B
   exact cQ.inj B
  exact wpAny_getItem_list O Y (by omega) (by rw[Z];exact hi) h
 ·have Z:(i+(its.size:Int)).toNat=j:=by
   rw[seqIndex_neg (by omega) D]at B
   exact cQ.inj B
  exact wpAny_getItem_list_neg O (by omega) D (by omega) (by rw[Z];exact hi) h
theorem QL(ho:s.heap.get? f=some (kla_obj nm q params (Jr x y p1 p2 p3 p4 p5 kd) scope [(x,cell)] pm c' ctv))(hcd:s.heap.CodeRec (.ref c') q)(B:A.depth<recursionLimit)(hlim:s.heap.NoLimit)
 (O:∀u,bindArgs (kla_fn nm q params (Jr x y p1 p2 p3 p4 p5 kd) scope [(x,cell)] pm (.ref c') ctv) ⟨[u],[]⟩=pure [(y,u)])
 (hco:scope.isCoroutine=false) (hgen:scope.isGenerator=false) (hk:scope.kind = .function) (J:∀z∈scope.names,z.2 ≠ .cell) (hy:scope.names.lookup y=some .local) (hx:scope.names.lookup x=some .free)
 (hxd:(x==("__debug__":Str))=false) (hyd:(y==("__debug__":Str))=false) (hxc:(x==("__classdict__":Str))=false)
 (hc:s.heap.IsCell cell (some (.ref a))) (hl:s.heap.IsList a its) (hlo : -(its.size:Int)<=i) (hhi:i<its.size) (hsz:its.size<=sizeLine) (hsx:seqIndex? i its.size=some j) (hi:its[j]? = some (.ref b)) (ht:IsTup s.heap b its2) (D:its2[0]? = some (.int k t'))
 (h:∀h' tk,(∀b o,s.heap.get? b=some o->h'.get? b=some o)->R (.ok (.ret (.int k t'))) {s with heap:=h',toks:=tk}) :
 codeAny (model prog w) A (.call (.ref f) ⟨[.int i t],[]⟩) R s:=by
 refine kla_callFunE B ho rfl hco hgen rfl hcd ?_
 rw[O]
 refine wpAny_pure (wpAny_newFunctionEnv J (λz P=>?_) (λY Q U=>⟨hlim.fresh _ U,?_⟩) hk)
 ·rw[aO.mp P]
  exact hy
 have Z:∀b o,s.heap.get? b=some o->Y.get? b=some o:=λb o e=>U.extBut b o (aZ (Heap.lt_size e)) (Heap.get?_push_of_some _ e)
 refine kla_codeExpr ?_
 have S:Y.IsList a its:=by
  obtain⟨o,W,X⟩:=hl
  exact⟨o,Z _ _ W,X⟩
 have V:IsTup Y b its2:=by
  obtain⟨o,W,X⟩:=ht
  exact⟨o,Z _ _ W,X⟩
 refine Subscript_ ?_
 refine Subscript_ ?_
 refine wpAny_Name ?_ hxd
 refine wpAny_loadName_free (c:=cell) (v:=.ref a) hk hx ?_ ?_ ?_ hxc
 ·show uR x [(x,cell)]=some cell
  simp
 ·obtain⟨o,W,X⟩:=hc
  exact⟨o,Z _ _ W,X⟩
 refine wpAny_Name ?_ hyd
 refine wpAny_loadName_local (v:=.int i t) hk hy Q ?_ ?_
 ·simp
 refine subscriptTail_builtin (T := "list") (id := "list.__getitem__") ?_ PySem.F.slot_list_getitem.lookup ?_
 ·obtain⟨o,W,X,_⟩:=S
  exact⟨o,W,X⟩
 refine Mq S hlo hhi hsz hsx hi ?_
 refine wpAny_Constant_int ?_
 refine kba_turn (value':=PySem.Expr.Name (PySem.Str.ofString "_") ⟨0,0,0,0⟩) (λ_=>rfl) ?_
 refine subscriptTail_builtin (T := "tuple") (id := "tuple.__getitem__") ?_ PySem.F.slot_tuple_getitem.lookup ?_
 ·obtain⟨o,W,X,_⟩:=V
  exact⟨o,W,X⟩
 refine PyProof.Rows.getItem_tuple (j:=0) (x:=.int k t') V (by decide) (by decide) ?_ D ?_
 ·have:0<its2.size:=by
   rcases iM 0 its2.size with z|z
   ·exact z
   ·rw[gB z]at D;cases D
  unfold seqIndex?
  have h2:(0:Int)<(its2.size:Int):=by omega
  show(if(decide ((0:Int)<=0)&&decide ((0:Int)<(its2.size:Int)))=true then some (0:Int).toNat else none)=some 0
  rw[dTr (eU 0),dTr h2]
  rfl
 ·exact h Y _ Z
end
section
variable{M:Model}{A:Around}{E:Value->Shared->Prop}{s:Shared}{params:Arguments}{body:Expr}{scope:Scope}{env:Env}{c P:Addr}{pos:Pos}{mg:Str->Option Value}{clos:List (Str×Addr)}{Q:Value->Shared->Prop}{q:Str}
noncomputable abbrev ent(pos:Pos)(c':Addr):Array Value:=#[rawInt pos.line,rawInt pos.col,.ref c']
theorem Mr(hq:env.qual++"<lambda>"=q)(J:defaultsOf params env=([],[]))(O:closureFor scope env=pure clos)(D:env.globals=mainGlobals)(hg:s.heap.Ns mainGlobals mg)(B:env.code = .ref c)(C:CodeHd s.heap c P)(hgP:mainGlobals≠P)(hb:s.heap.BuiltinsAt mg P)
 (hT:∃ps,s.heap.get? P=some (tabObj ps)/\(ps = #[]\/∃c',ps=ent pos c'/\s.heap.CodeRec (.ref c') q))
 (h:∀f c' ctv h' tk,(∀b o,b≠P->s.heap.get? b=some o->h'.get? b=some o)->h'.get? P=some (tabObj (ent pos c'))->(s.heap.get? P=some (tabObj (ent pos c'))\/(s.heap.get? P=some (tabObj #[])/\s.heap.objs.size<=c'/\c'≠f))->s.heap.objs.size<=f ->
  h'.get? f=some (kla_obj "<lambda>" q params body scope clos ((mg "__name__").getD .none) c' ctv)->h'.CodeRec (.ref c') q->Q (.ref f) {s with heap:=h',toks:=tk}) :
 wpAny M A (eval (.Lambda params body scope pos) env) Q E s:=by
 refine kla_eval J ?_
 rw[hq]
 obtain⟨ps,W,z|⟨c',z,I⟩⟩:=hT
 ·subst z
  refine kla_makeFunction (mg:=mg) O D hg B C W trivial rfl hgP hb λc' ctv h' tk K X Y Z U=>?_
  have up:∀b o,h'.get? b=some o->(h'.push (kla_obj "<lambda>" q params body scope clos ((mg "__name__").getD .none) c' ctv)).get? b=some o:=λb o e=>Heap.get?_push_of_some _ e
  obtain⟨L,oc,vs,V,N,R,S⟩:=Z
  refine h h'.objs.size c' ctv _ tk (λb o hb e=>up b o (K b o hb e)) (up _ _ (by rw[U];rfl)) (.inr ⟨W,X,aZ Y⟩) (bL X (eY Y)) (Heap.get?_push_size _ rfl) ⟨L,oc,vs,V,N,up _ _ R,S⟩
 ·subst z
  have ha:codeAmong pos (ent pos c').toList=some (.ref c'):=by simp[codeAmong,rawInt]
  refine kla_makeFunctionHit (mg:=mg) O D hg B C W trivial ha hb λctv h' tk H T=>?_
  have up:∀b o,s.heap.get? b=some o->(h'.push (kla_obj "<lambda>" q params body scope clos ((mg "__name__").getD .none) c' ctv)).get? b=some o:=λb o e=>Heap.get?_push_of_some _ (H b o e)
  obtain⟨L,oc,vs,V,N,R,S⟩:=I
  exact h h'.objs.size c' ctv _ tk (λb o _ e=>up b o e) (up _ _ W) (.inl W) T (Heap.get?_push_size _ rfl) ⟨L,oc,vs,V,N,up _ _ R,S⟩
end
end XL
namespace XL
open PySem PySem.Spec PySem.W PyProof.Rows L2 My D3 XS
section
variable{prog:Program}{w:World}{A:Around}{h₀:Heap}{L kS:Addr}{m:Str->Option Value}{f:Value}{nw:List (Addr×Obj)}
noncomputable def Hg(prog:Program)(w:World)(A:Around)(nw:List (Addr×Obj))(f v:Value)(k:Int):Prop:=
 ∃t,∀(s:Shared)(R:Result->Shared->Prop),(∀p∈nw,s.heap.get? p.1=some p.2)->s.heap.NoLimit->(∀h' tk,(∀b o,s.heap.get? b=some o->h'.get? b=some o)->R (.ok (.ret (.int k t))) {s with heap:=h',toks:=tk}) ->
  codeAny (model prog w) A (.call f ⟨[v],[]⟩) R s
theorem Du{Fin:List Value->Nat->Shared->Prop}(J:∀y∈nw,y.1≠kS)(D:∀s:Shared,(∀p∈nw,s.heap.get? p.1=some p.2)->s.heap.NoLimit):∀(vs:List Value)(ns:List Int)(ks:List Value)(e:Nat)(s:Shared),Paired (λv k=>Hg prog w A nw f v k) vs ns ->
 Fr h₀ L s.heap m->News h₀ L s.heap ((kS,seqObj "list" (iQ ks) e)::nw) ->
 (∀B O s',Fr h₀ L s'.heap m->News h₀ L s'.heap ((kS,seqObj "list" (iQ (ks++B)) O)::nw)->s'.gens=s.gens->s'.drawn=s.drawn->s'.os=s.os->Paired (λ(v:Value)(k:Int)=>∃t,v = .int k t) B ns->Fin (ks++B) O s') ->
 KatKeys prog w A h₀ L m kS f Fin vs ks e s
 |[],_,ks,e,s,p,F,N,h=>by
  cases p
  have:=h [] e s F (by rw[cM];exact N) rfl rfl rfl .nil
  rw[cM]at this
  exact this
 |v::vs,_,ks,e,s,p,F,N,h=>by
  cases p with
  |cons p1 p2=>
  rename_i k ns
  obtain⟨t,c⟩:=p1
  have Z:∀p∈nw,s.heap.get? p.1=some p.2:=λp Y=>(N p (aJ _ Y)).1
  refine KatKeys.cons (wpAny_call (c s _ Z (D s Z) λh' tk X=>?_))
  have K:Fr h₀ L h' m:=⟨F.ns.keeps X,λb o z=>X b o (F.keep b o z),F.above⟩
  have Q:News h₀ L h' ((kS,seqObj "list" (iQ ks) e)::nw):=λp Y=>⟨X _ _ (N p Y).1,(N p Y).2⟩
  refine KatBack.intro (s:={s with heap:=h',toks:=tk}) K Q (.head J) λh2 T M R=>?_
  refine Du J D vs ns (ks++[.int k t]) T {s with heap:=h2,toks:=tk} p2 M R λB O s' P S U V W q=>?_
  have z:=h (.int k t::B) O s' P (by rw[show ks++.int k t::B=ks++[.int k t]++B by simp];exact S) U V W (.cons ⟨t,rfl⟩ q)
  rw[show ks++.int k t::B=ks++[.int k t]++B by simp]at z
  exact z
end
section
variable{prog:Program}{w:World}{A:Around}{E:Value->Shared->Prop}{s:Shared}{h₀:Heap}{L l fa:Addr}{m:Str->Option Value}{vs:List Value}{ns:List Int}{news:List (Addr×Obj)}{Q:Value->Shared->Prop}
noncomputable def ltK(ns:List Int)(i j:Nat):Bool:=decide (ns.getD i 0<ns.getD j 0)
theorem Fy(a b:Value):argsOk "sorted" ⟨[a],[(Str.ofString "key", b)]⟩:=by unfold argsOk;kernel_rfl
theorem Dv(a b:Value):argsOk "list.sort" ⟨[a],[(Str.ofString "key", b)]⟩:=by unfold argsOk;kernel_rfl
theorem ints_of:∀{ks:List Value}{ns:List Int},Paired (λ(v:Value)(k:Int)=>∃t,v = .int k t) ks ns->IntsAre ks ns
 |_,_,.nil=>.nil
 |_,_,.cons p q=>by
  obtain⟨t,rfl⟩:=p
  exact .cons _ _ (ints_of q)
theorem Az:∀{ks:List Value}{ns:List Int},Paired (λ(v:Value)(k:Int)=>∃t,v = .int k t) ks ns->∀i,i<ks.length->∃t,ks.getD i .none = .int (ns.getD i 0) t
 |_,_,.nil,i,h=>by cases h
 |_,_,.cons p q,0,h=>by obtain⟨t,rfl⟩:=p;exact⟨t,rfl⟩
 |_,_,.cons p q,i+1,h=>by
  obtain⟨t,e⟩:=Az q i (by simpa using h)
  exact⟨t,by simpa using e⟩
theorem zG{α β:Type}{R:α->β->Prop}:∀{l:List α}{r:List β},Paired R l r->∀{i:Nat}{a:α}{b:β},l[i]? = some a->r[i]? = some b->R a b
 |_,_,.nil,i,a,b,h,_=>by simp at h
 |_,_,.cons p q,0,a,b,h1,h2=>by
  simp at h1 h2
  subst h1 h2
  exact p
 |_,_,.cons p q,i+1,a,b,h1,h2=>zG q (i:=i) (by simpa using h1) (by simpa using h2)
end
end XL
namespace XS
open PySem D3
noncomputable def rP(l:List D)(ns:List Int):List D:=if l.length<=1 then l else(sV l.length λi j=>decide (ns.getD i 0<ns.getD j 0)).map λi=>l.getD i .none
noncomputable def A_(fa fe:FE)(ix:List Nat):FE:=λδ=>(fa δ).bind λx=>match x with
 | .list l=>if l.length<64/\flats l=true then(jB (gNl 0) D3.sG fe (pU 1 ix δ) l).bind λks=>(dX ks).map λns=>.list (rP l ns)else none
 |_=>none
noncomputable def dK0:FE:=λδ=>match δ with
 |[some (.d (.int z)),some (.d (.list ds))]=>(pAt ds z).bind λt=>match t with
  | .tuple (.int n::_)=>some (.int n)
  |_=>none
 |_=>none
noncomputable def qSK(x:Option D)(k:List D->Option (List D)):Option D:=match x with
 |some (.list l)=>if l.length<64/\flats l=true then(k l).bind λks=>(dX ks).map λns=>.list (rP l ns)else none
 |_=>none
theorem QM{fa:FE}{ix:List Nat}:A_ fa fe ix δ=qSK (fa δ) (jB (gNl 0) D3.sG fe (pU 1 ix δ)):=by
 unfold A_ qSK
 cases fa δ with
 |none=>rfl
 |some d=>cases d<;>rfl
theorem Js{ks:List D}{k:List D->Option (List D)}(h1:l.length<64)(h2:flats l=true)(J:k l=some ks)(B:dX ks=some ns):qSK (some (.list l)) k=some (.list (rP l ns)):=by
 unfold qSK
 dsimp only
 rw[if_pos ⟨h1,h2⟩,J,aM,B]
 rfl
end XS
variable{c:Addr}
namespace XL
open PySem PySem.Spec PySem.W PyProof.Rows L2 My D3 XS
section
variable{X:Cx}{pins:List (Addr×Obj)}{σ:L2.St}{H:Hp}{s:Shared}{h':Heap}{P c':Addr}{q:Str}{lp:Pos}{tk:Nat}
theorem QS(I:Inv X pins σ H s)(J:H P=some (.tbl q lp))(kp:∀b o,b≠P->s.heap.get? b=some o->h'.get? b=some o)(O:h'.get? P=some (tabObj (ent lp c')))
 (D:s.heap.get? P=some (tabObj (ent lp c'))\/(s.heap.get? P=some (tabObj #[])/\s.heap.objs.size<=c')) (B:h'.CodeRec (.ref c') q) :
 ∃H2,Inv X pins σ H2 {s with heap:=h',toks:=tk}/\Same H H2:=by
 rcases D with z|⟨z,Y⟩
 ·refine⟨H,I.kept λb o e=>?_,λ_ _ e=>e⟩
  by_cases Z:b=P
  ·subst Z
   rw[z]at e;cases e
   exact O
  ·exact kp b o Z e
 ·have hn:H c'=none:=I.hok.fresh Y
  have ne:∀{b u},H b=some u->b≠c':=λe=>jr e hn
  have V:∀{b},H b=none->b≠P:=λe y=>by rw[y,J]at e;cases e
  refine⟨upd H c' (.own P),?_,dH hn _⟩
  refine I.step (g':=s.gens) (d':=s.drawn) (ch:=[]) (λb Z=>by cases Z) (λb u _ _ _ e n=>kp b u (V n) e) (λb u _ _ _ e n=>⟨u.slots,kp b u (V n) e⟩) (λb u _ e n=>?_) (λb u _ e=>?_)
   (λb xs e=>by rw[cJ (ne e)];exact e) (λb u v e=>by rw[cJ (ne e)];exact e) (λb q p e=>by rw[cJ (ne e)];exact e) (λm ⟨o,es,ep,e,r⟩=>⟨o,es,ep,kp _ o (V I.free) e,r⟩) (λb u e=>?_) I.bare
  ·rw[cJ (aZ (bT (Heap.lt_size e) Y))];exact n
  ·by_cases Z:b=P
   ·exact⟨_,by rw[Z];exact O⟩
   ·exact⟨u,kp b u Z e⟩
  ·by_cases Z:b=c'
   ·subst Z
    rw[dj]at e
    cases e
    obtain⟨M,oc,vs,N,Q,R,_⟩:=B
    cases Q
    exact⟨_,R⟩
   ·rw[cJ Z]at e
    by_cases W:b=P
    ·subst W
     rw[J]at e;cases e
     exact⟨_,O,.inr ⟨c',rfl,dj,B⟩⟩
    ·refine(I.hok b u e).stay (λc w S y=>kp c w (λT=>?_) y) (λc y=>by rw[cJ (ne y)];exact y) λc xs y=>by rw[cJ (ne y)];exact y
     rcases S with rfl|U
     ·exact W T
     ·rw[T,J]at U;cases U
end
theorem zH:∀{ys:List V}{vs:List Value},Vals ys vs->∀i,RelV (ys.getD i .non) (vs.getD i .none)
 |_,_,.nil,i=>by simp;rfl
 |_,_,.cons r Z,0=>r
 |_,_,.cons r Z,i+1=>by simpa using zH Z i
theorem zJ{J:DS}:∀{l ks:List D}{ns:List Int},jB (gNl 0) D3.sG fe J l=some ks->dX ks=some ns->Paired (λd n=>∃B,gNl 0 d J=some B/\fe B=some (.int n)) l ns
 |[],ks,ns,h1,h2=>by
  cases h1
  cases h2
  exact .nil
 |d::l,ks,ns,h1,h2=>by
  unfold jB at h1
  obtain⟨B,T,h1⟩:=bind1 h1
  obtain⟨b,U,h1⟩:=bind1 h1
  cases U
  rw[if_pos rfl]at h1
  obtain⟨x,V,h1⟩:=bind1 h1
  obtain⟨r,W,h1⟩:=bind1 h1
  cases h1
  cases x with
  |int n=>
   have Y:(dX r).bind (λm=>some (n::m))=some ns:=by
    cases Z:dX r with
    |none=>unfold dX at h2;rw[Z]at h2;cases h2
    |some m=>unfold dX at h2;rw[Z]at h2;cases h2;rfl
   obtain⟨m,Z,X⟩:=bind1 Y
   cases X
   exact .cons ⟨B,T,V⟩ (zJ W Z)
  |_=>unfold dX at h2;cases h2
theorem Hh{ok:Ok}{S:D->Int->Prop}{R:Value->Int->Prop}(f:∀y d v n,RA K ok pl H y d->RelV y v->S d n->R v n):∀{ys:List V}{l:List D}{vs:List Value}{ns:List Int},RAs K ok pl H ys l->Vals ys vs->Paired S l ns->Paired R vs ns
 |_,_,_,_,.nil,.nil,.nil=>.nil
 |_,_,_,_,.cons a b,.cons c d,.cons e g=>.cons (f _ _ _ _ a c e) (Hh f b d g)
structure LamAt(X:Cx)(P:Addr)(q:Str)(lp:Pos):Prop where
 cd:∃c,X.env.code = .ref c/\codeHdIn X.K c P=true
 qn:X.env.qual++"<lambda>"=q
 tb:(P,q,lp)∈tabs
section
variable{X:Cx}{fl:List Fl}{e:Expr}{fa:FE}{p pos kpos lp p1 p2 p3 p4 p5:Pos}{x y q:Str}{P:Addr}{kd i k:Nat}{params:Arguments}{scope:Scope}
theorem Vb{D B:DS}{n:Int}{u:Option U}(J:D=[none,u])(h1:gNl 0 d D=some B)(h2:dK0 B=some (.int n)):∃z ds r,d = .int z/\u=some (.d (.list ds))/\pAt ds z=some (.tuple (.int n::r)):=by
 subst J
 cases h1
 unfold dK0 at h2
 split at h2
 ·next z ds e=>
  cases e
  obtain⟨t,Y,Z⟩:=bind1 h2
  split at Z
  ·next m r=>cases Z;exact⟨z,ds,r,rfl,rfl,Y⟩
  ·cases Z
 ·cases h2
end
theorem QT{K:Frag}{P:Addr}{q:Str}{lp:Pos}(J:K.In h)(B:h.get? P=some (tabObj #[]))(D:codeHdIn K c P=true)(hn:K.lookup P=none):
 (∀t∈[(P,q,lp)],h.get? t.1=some {cls:=.none,data:=.fields #[]})/\(∀t∈[(P,q,lp)],isCodeTable h t.1)/\∀t∈[(P,q,lp)],K.lookup t.1=none:=
 ⟨λt Z=>by rw[aO.mp Z];exact B,λt Z=>by rw[aO.mp Z];exact((codeHd_of_K J D).tab B).isCodeTable,λt Z=>by rw[aO.mp Z];exact hn⟩
theorem Ms{P:Addr}{q:Str}{lp:Pos}:∀t∈[(P,q,lp)],∀t'∈[(P,q,lp)],t.1=t'.1->t=t':=λt Y t' Z _=>(aO.mp Y).trans (aO.mp Z).symm
theorem Mt{scope:Scope}{y:Str}(hn:scope.names=[(y,.local),(x,.free)])(h:env.cells.lookup x=some c):closureFor scope env=pure [(x,c)]:=by
 unfold closureFor
 rw[hn]
 simp[cellOf,h]
section
variable{P:Program}{w:World}{K:PySem.W.Frag}{mg:Str->Option Value}{base:Heap}{x:Str}{ps N:List Str}{st:Stmt}{k n:Nat}{fs:FS}{fl:List Fl}{Pt:Addr}{q:Str}{lp:Pos}
structure DgT(K:PySem.W.Frag)(mg:Str->Option Value)(x:Str)(st:Stmt)(ps:List Str)(Pt:Addr)(q:Str)(lp:Pos):Prop where
 ex:∃(f:Addr)(fd:FuncData)(c:Addr),FunD K x st f fd/\Binds K fd ps []/\mg x=some (.ref f)/\fd.code = .ref c/\codeHdIn K c Pt=true
 tb:(Pt,q,lp)∈tabs
theorem Vc{kV:Value}{sl:Array (Option Value)}(X:K.In h)(G:h.Ns mainGlobals mg)
 (B:∀(kV doc pm:Value)(an:Option Addr)(cdv ct:Value)(us:List Value),us.length=ps.length->bindArgs (PySem.W.fnOf x x (nj st) (iU st) (bN st) .none kV doc pm an cdv ct) ⟨us,[]⟩=pure (ps.zip us))
 (a:PySem.W.nsIn K mainGlobals x=some (some (.ref f))) (l:K.lookup f=some ⟨oc,od,.func (PySem.W.fnOf x x (nj st) (iU st) (bN st) .none kV dc pm an (.ref c) ct),sl⟩) (D:PySem.W.codeIn K (.ref c) x=true) (k:PySem.W.keepIn K (.ref f)=true)
 (hd:codeHdIn K c Pt=true) (tb:(Pt,q,lp)∈tabs):DgT K mg x st ps Pt q lp:=
 ⟨⟨_,_,c,⟨⟨oc,od,.none,kV,dc,pm,an,.ref c,ct,sl,rfl,l,D⟩,k⟩,.all (B kV dc pm an (.ref c) ct),PySem.W.mg_of X G a,rfl,hd⟩,tb⟩
theorem okT(F:FunD K x st f fd)(D:fd.code = .ref c)(S:FnScope N ps (bN st))(len:∀vs H Q E,sp vs H Q E->vs.length=ps.length)
 (B:∀(A:Around)(outer:List Env)(s:Shared)(H:Hp)(vs:List V)(Q:VK)(E:XK),Room k (A.deeper (envOfC x (bN st) s.heap.objs.size f (.ref c)))->sp vs H Q E ->
  ∃t,PSs (BR CX0 P w K mg base N x (bN st) f (.ref c) A outer s H E).nox (iU st) t/\t {nx:=λ_ H'=>Q .non H',rt:=Q} (L2.start N vs) H):FnOk P w K mg base CX0 (k+1) f fd ps sp:=by
 obtain⟨oc,od,dV,kV,doc,pm,an,cdv,ct,osl,rfl,X,Z⟩:=F.ex
 have e:cdv = .ref c:=D
 subst e
 refine R8 X Z S len λA outer s H vs Q E W Y=>?_
 obtain⟨t,h,q⟩:=B A outer s H vs Q E W Y
 exact⟨t,h.nox,q⟩
theorem Vd(O:DgT K mg x st ps Pt q lp)(S:FnScope N ps (bN st))(D:∀i,i<ps.length->fl[i]? = some .A)(J:ps.length<=N.length)
 (B:∀(f c:Addr)(A:Around)(outer:List Env)(s:Shared)(H:Hp)(E:XK),codeHdIn K c Pt=true->Room k (A.deeper (envOfC x (bN st) s.heap.objs.size f (.ref c)))->DSs (cx P w K mg base N x st f (.ref c) A outer s H E) fl (iU st) fs) :
 Has P w K mg base (k+1) x ps (spD K (fnD ps.length (N.length-ps.length) fs)):=by
 obtain⟨f,fd,c,W,b,m,X,Y⟩:=O.ex
 refine⟨f,fd,?_,b,W.kp,m⟩
 refine okT W X S (λvs H Q E h=>?_) (λA outer s H vs Q E T h=>?_)
 ·obtain⟨ds,d,r,Z,_⟩:=h
  unfold fnD at Z
  by_cases z:ds.length=ps.length
  ·rw[r.2.length];exact z
  ·rw[if_neg z]at Z;cases Z
 ·obtain⟨ds,d,r,Z,q⟩:=h
  refine⟨_,B f c A outer s H E Y T,?_⟩
  unfold fnD at Z
  by_cases z:ds.length=ps.length
  ·rw[if_pos z]at Z
   split at Z
   ·next R e=>
    cases Z
    exact⟨_,_,_,_,lK ps.length D z J r,e,λv H' s r=>q v H' s r⟩
   ·next V e=>
    cases Z
    exact⟨_,_,_,_,lK ps.length D z J r,e,λU σ' H' R'=>q .non H' R'.same0 .non⟩
   ·cases Z
  ·rw[if_neg z]at Z;cases Z
end
end XL
namespace XL
open PySem PySem.Spec PySem.W PyProof.Rows L2 My D3 XS
section
variable{prog:Program}{w:World}{A:Around}{E:Value->Shared->Prop}{s:Shared}{r fa L:Addr}{t u v:Tok}{n:Nat}{hi:Int}{h₀:Heap}{m:Str->Option Value}{ns:List Int}{news:List (Addr×Obj)}{Q:Value->Shared->Prop}
noncomputable def zK(vs:List Value):Prop:=∀(j:Nat)(x:Value),vs[j]? = some x->∃t,x = .int (j:Int) t
theorem Mu{R:List Value->Shared->Prop}(D:A.handled=none)(B:IsRange s.heap r 0 hi 1 t u v)(sm:Builtin.Range.small 0 hi 1=true)(hn:Builtin.Range.rangeSize 0 hi 1=n)(J:n<64)
 (h:∀h' tk vs,(∀b o,s.heap.get? b=some o->h'.get? b=some o)->vs.length=n->zK vs->R vs {s with heap:=h',toks:=tk}):wpAny (model prog w) A (collect (.ref r)) R E s:=by
 unfold collect
 refine wpAny_bind (wpAny_runValue (codeAny_builtin F.entry_proto_collect ?_))
 rw[Around.under_plainId F.plain_proto_collect _]
 refine wpAny_bind (m:=newList []) (wpAny_newObj_type (wpAny_pure ⟨plainId_quiet F.plain_list_iadd _,codeAny_builtin F.entry_list_iadd ?_⟩))
 rw[Around.under_plainId F.plain_list_iadd _]
 refine wpAny_mono (wpAny_extend_range (A:=A) (s:={s with heap:=s.heap.push (seqObj "list" #[] 0)}) (R:=λq s'=>q = .ok (.ret (.ref s.heap.objs.size))/\∃h' tk acc c,s'={s with heap:=h',toks:=tk}/\(∀b o,s.heap.get? b=some o->h'.get? b=some o)/\h'.get? s.heap.objs.size=some (seqObj "list" acc c)/\acc.toList.length=n/\zK acc.toList)
  D (Heap.get?_push_of_some _ B) sm hn (by omega) s.heap.objs.size (.ref s.heap.objs.size) 0 (Heap.get?_push_size _ rfl) λh' tk acc c k1 k2 Z=>⟨rfl,h',tk,acc,c,rfl,λb o e=>k1 b o (aZ (Heap.lt_size e)) (Heap.get?_push_of_some _ e),k2,by rw[bx];exact Z.1,λj x X=>by
   obtain⟨t,rfl⟩:=Z.2 j x (by rw[<-cB];exact X)
   exact⟨t,by rw[mG,Int.mul_one]⟩⟩) (λfin s' x=>?_) λe s' x=>by cases x.1
 cases fin with
 |done f=>
  obtain⟨e,h',tk,acc,c,rfl,k1,k2,Z,Y⟩:=x
  cases e
  exact wpAny_bind (m:=load s.heap.objs.size) (wpAny_load k2 (wpAny_pure (h h' tk _ k1 Z Y)))
 |again W=>
  refine⟨x.1,codeAny_mono x.2 λq s2 y=>?_⟩
  obtain⟨rfl,h',tk,acc,c,rfl,k1,k2,Z,Y⟩:=y
  exact wpAny_bind (m:=load s.heap.objs.size) (wpAny_load k2 (wpAny_pure (h h' tk _ k1 Z Y)))
theorem QV(hh:A.handled=none)(F:Fr h₀ L s.heap m)(N:News h₀ L s.heap news)(hr:IsRange s.heap r 0 hi 1 t u v)(sm:Builtin.Range.small 0 hi 1=true)(hn:Builtin.Range.rangeSize 0 hi 1=n)(h64:n<64)
 (hc:∀vs,vs.length=n->zK vs->Paired (λv k=>Hg prog w A.in1.in1 news (.ref fa) v k) vs ns) (B:∀s:Shared,(∀p∈news,s.heap.get? p.1=some p.2)->s.heap.NoLimit)
 (h:∀D h' e tk vs,vs.length=n->zK vs->Fr h₀ L h' m->News h₀ L h' ((D,seqObj "list" (iQ (if n<=1 then vs else(sV n (ltK ns)).map λi=>vs.getD i Value.none)) e)::news)->(∀q∈news,q.1<D)->Q (.ref D) {s with heap:=h',toks:=tk}) :
 wpAny (model prog w) A (call (.builtin "sorted") [.ref r] [(Str.ofString "key", .ref fa)]) Q E s:=by
 refine call_function_entry_kw kind_sorted plain_sorted entry_sorted (Fy _ _) ?_
 unfold Builtin.«sorted»
 refine wpAny_bind (m:=checkCount "sorted" 1 1 _) (wpAny_pure ?_)
 refine wpAny_bind (Mu (A:=A.in1) hh hr sm hn h64 λh1 tk vs k1 lv I=>?_)
 refine wpAny_bind (wpAny_newList ?_ (by rw[lv,sizeLine_eq];omega))
 have V:(h1.push (seqObj "list" vs.toArray 0)).get? h1.objs.size=some (seqObj "list" vs.toArray 0):=Heap.get?_push_size _ rfl
 have kp:∀b o,s.heap.get? b=some o->(h1.push (seqObj "list" vs.toArray 0)).get? b=some o:=λb o e=>Heap.get?_push_of_some _ (k1 b o e)
 have Y:∀q∈news,q.1<h1.objs.size:=λq hq=>Heap.lt_size (k1 _ _ (N q hq).1)
 have g:L<h1.objs.size:=(F.kept k1).ns.lt
 have hA:=F.above
 have F1:=F.kept kp
 have N1:=N.grown kp
 have X:=hc vs lv I
 have d0:h₀.get? h1.objs.size=none:=Heap.get?_none_of_le (bL F.above (eY g))
 show wpAny _ _ _ _ _ {s with heap:=h1.push (seqObj "list" vs.toArray 0),toks:=tk}
 refine wpAny_bind (wpAny_holding (wpAny_call_entry_kw slot_list_sort ⟨_,V,rfl⟩ entry_list_sort ?body (Dv _ _)))
 case body=>
  rw[ksk_t1]
  by_cases h2:n<=1
  ·refine ksk_sort (kz:=ns) (b:=false) (s:={s with heap:=h1.push (seqObj "list" vs.toArray 0),toks:=tk}) F1 N1 V (kJ g) d0 (λp Z=>aZ (Y p Z)) X.length.symm (by omega) (λi v k hv hk Z tk own T W=>?_) λh' tk out c T W ko=>⟨_,rfl,wpAny_pure ⟨_,rfl,?_⟩⟩
   ·obtain⟨t,z⟩:=zG X hv hk
    have P:∀p∈news,Z.get? p.1=some p.2:=λp q=>(W p (cg _ q)).1
    refine wpAny_call (z {s with heap:=Z,toks:=tk} _ P (B {s with heap:=Z,toks:=tk} P) λh2 K U=>?_)
    exact⟨h2,K,t,rfl,rfl,⟨T.ns.keeps U,λb o z=>U b o (T.keep b o z),T.above⟩,λp q=>⟨U _ _ (W p q).1,(W p q).2⟩⟩
   ·obtain⟨ps,Z,M,_⟩:=ko
    have e:out.toList=vs:=by
     cases X with
     |nil=>
      have Z:ps.Perm []:=Z
      rw[rM.mp Z]at M
      exact M
     |cons p q=>
      cases q with
      |nil=>
       have Z:ps.Perm [(_,_)]:=Z
       rw[List.perm_singleton.mp Z]at M
       exact M
      |cons _ _=>simp at lv;omega
    have e2:out=vs.toArray:=oh.mp (e.trans (by simp))
    rw[e2]at W
    exact h _ h' c tk vs lv I T (by rw[if_pos h2];exact W) Y
  ·refine kat_keyed (b:=false) (s:={s with heap:=h1.push (seqObj "list" vs.toArray 0),toks:=tk}) F1 N1 V (kJ g) d0 (λp Z=>aZ (Y p Z)) (by omega) (by omega) λkS e1 h' T W S H=>?_
   have O:∀y∈(h1.objs.size,seqObj "list" #[] e1)::news,y.1≠kS:=λy x=>by
    rcases aW.mp x with rfl|z
    ·exact aZ S
    ·exact aZ (H y z)
   have l:Paired (λv k=>Hg prog w A.in1.in1 ((h1.objs.size,seqObj "list" #[] e1)::news) (.ref fa) v k) vs ns:=Paired.mapP X λv k ⟨t,z⟩=>⟨t,λs R q1 q2 q3=>z s R (λp Z=>q1 p (aJ _ Z)) q2 q3⟩
   refine Du (kS:=kS) O (λs q=>B s λp Z=>q p (aJ _ Z)) vs ns [] 0 _ l T W λks e s' F2 f g1 a d pk=>?_
   have G:ks.length=vs.length:=pk.length.trans X.length.symm
   rw[cW]at f ⊢
   rw[ksk_kind (ints_of pk) (by rw[aV,G];omega)]
   refine wpAny_pure ?_
   refine GD (n:=vs.length) (lt:=ltK ns) (R:=good vs.length) (λi j C hi hj hC=>?_) _ (zf (by omega)) ?_
   ·obtain⟨t1,q1⟩:=Az pk i (by rw[G];exact hi)
    obtain⟨t2,q2⟩:=Az pk j (by rw[G];exact hj)
    unfold kas_ask
    show wpAny _ _ (keyLt' oneType' (ks.getD i Value.none) (ks.getD j Value.none)) _ _ _
    rw[q1,q2]
    exact kat_lt_int hC
   ·obtain⟨Z,gn,dr,J,os⟩:=s'
    simp only at g1 a d F2 f
    subst g1 a d
    refine KatFin.intro F2 f (.head O) λh3 c3 F3 N3=>?_
    refine KasFin.intro F3 N3 (.tail (kJ S) (.head λy x=>aZ (Y y x))) λh4 c4 F4 N4=>⟨_,rfl,wpAny_pure ⟨_,rfl,?_⟩⟩
    exact h _ h4 c4 J vs lv I F4 (λp Z=>by
     rw[if_neg h2,<-lv]at Z
     exact N4 p (aJ _ Z)) Y
end
section
variable{X:Cx}{fl:List Fl}{e:Expr}{fb:FA}{p pos kpos lp p1 p2 p3 p4 p5 pr posr:Pos}{x y q:Str}{P:Addr}{kd i k:Nat}{params:Arguments}{scope:Scope}
theorem Fz(hl:LamAt X P q lp)(hr:Room k X.A)(hcm:X.calm=true)(ha:DB X fl .P [e] fb)(hg:Gl X "sorted")(hm:X.mg "sorted"=none)(hg2:Gl X "range")(hm2:X.mg "range"=none)
 (hix:X.N[i]? = some x) (hfl:fl[i]? = some .A) (B:X.env.kindOf x=some .cell)
 (hdef:defaultsOf params X.env=([],[])) (hcl:∀c,X.env.cells.lookup x=some c->closureFor scope X.env=pure [(x,c)])
 (hbind:∀(cl:List (Str×Addr))(pm:Value)(c':Addr)(ctv u:Value),bindArgs (kla_fn "<lambda>" q params (Jr x y p1 p2 p3 p4 p5 kd) scope cl pm (.ref c') ctv) ⟨[u],[]⟩=pure [(y,u)])
 (hco:scope.isCoroutine=false) (hgen:scope.isGenerator=false) (hk:scope.kind = .function) (hcells:∀z∈scope.names,z.2 ≠ .cell) (hy:scope.names.lookup y=some .local) (hxf:scope.names.lookup x=some .free)
 (hxd:(x==("__debug__":Str))=false) (hyd:(y==("__debug__":Str))=false) (hxc:(x==("__classdict__":Str))=false)
 (he:backTo pos (starEach [Expr.Call (.Name "range" pr) [e] [] posr] X.env)=(false,eval (Expr.Call (.Name "range" pr) [e] [] posr) X.env)::backTo pos (starEach [] X.env)) (hpl:(backTo pos (starEach [Expr.Call (.Name "range" pr) [e] [] posr] X.env)).any (·.1)=false)
 (hs:starEach [e] X.env=(false,eval e X.env)::starEach [] X.env:=by exact mK rfl)
 : DE X fl .FC (.Call (.Name "sorted" p) [.Call (.Name "range" pr) [e] [] posr] [⟨some (Str.ofString "key"),.Lambda params (Jr x y p1 p2 p3 p4 p5 kd) scope lp,kpos⟩] pos) (A_ (dCall wX fb) dK0 [i]):=by
 have bs:bootBuiltins "sorted"=some (.builtin "sorted"):=by decide +kernel
 intro pins s σ H Q I hq
 obtain⟨G,ow,δ,d,R,hf,q0⟩:=hq
 obtain⟨xd,e1,O⟩:=bind1 hf
 obtain⟨ds0,e0,W⟩:=bind1 e1
 unfold wX at W
 split at W
 case h_2=>cases W
 next hi=>
 by_cases z:(-(2^62)<=hi/\hi<2^62)/\(hi-0).toNat<=1000000
 case neg=>rw[if_neg z]at W;cases W
 rw[if_pos z]at W
 cases W
 obtain⟨⟨z3,z4⟩,z5⟩:=z
 have el:d8 0 hi=(jZ 0 (hi-0).toNat).map λ(j:Nat)=>PyData.int (0+(j:Int)):=by
  unfold d8
  rw[List.range_eq_range']
 have ll:(d8 0 hi).length=(hi-0).toNat:=by rw[el,aB,rW]
 have ra0:∀Hx:Hp,RAs X.K ok1 true Hx ((jZ 0 (hi-0).toNat).map λ(j:Nat)=>V.int (0+(j:Int))) (d8 0 hi):=λHx=>by rw[el];exact KZ 0 _ 0
 generalize d8 0 hi=l at *
 dsimp only at O
 by_cases hc:l.length<64/\flats l=true
 case neg=>rw[if_neg hc]at O;cases O
 rw[if_pos hc]at O
 obtain⟨ks,e2,E⟩:=bind1 O
 cases e3:dX ks with
 |none=>rw[e3]at E;cases E
 |some ns=>
 rw[e3]at E
 cases E
 refine wpAny_Call_Name_kw (mq I hg hm bs ?_)
 refine PyProof.Rows.callWith_kw ?_ he hpl rfl rfl
 rw[he]
 refine Calls.spliced_cons ?_
 refine Call_ (mq I hg2 hm2 boot_range (PyProof.Rows.callWith_type1 (thn (ha posr pins s σ H (λvs H1=>Same H H1/\RAs X.K ok1 true H1 vs [.int hi]) I ⟨G,ow,δ,_,R,e0,λvs H' s' r'=>⟨s',r'⟩⟩) λus s0 ⟨vs,H1,I0,r1,sm1,ra⟩=>?_) hs rfl))
 cases ra with
 |cons ra1 ra2=>
 cases ra2
 obtain rfl:=ra1.intE
 cases r1 with
 |cons c1 c2=>
 cases c2
 obtain⟨t0,rfl⟩:=c1
 refine call_range_1 ?_
 refine Calls.spliced_nil ?_
 have hsz:Builtin.Range.rangeSize 0 hi 1=(((hi-0).toNat:Nat):Int):=by rw[rangeSize_one];split<;>omega
 have smr:Builtin.Range.small 0 hi 1=true:=small_one (by decide) (by decide) z3 z4
 obtain⟨ta,tb,tc,F⟩:∃ta tb tc,IsRange (s0.heap.push {cls:=.type "range", data:=.fields #[.int 0 s0.toks,.int hi t0,.int 1 (s0.toks+1)]}) s0.heap.objs.size 0 hi 1 ta tb tc:=⟨_,_,_,IsRange.new ..⟩
 generalize hra:s0.heap.objs.size=ra at *
 have T:L2.Inv X pins σ H1 {s0 with heap:=s0.heap.push {cls:=.type "range", data:=.fields #[.int 0 s0.toks,.int hi t0,.int 1 (s0.toks+1)]},toks:=s0.toks+2}:=I0.kept λb o e=>Heap.get?_push_of_some _ e
 show wpAny _ _ _ _ _ {s0 with heap:=s0.heap.push {cls:=.type "range", data:=.fields #[.int 0 s0.toks,.int hi t0,.int 1 (s0.toks+1)]},toks:=s0.toks+2}
 generalize es1:({s0 with heap:=s0.heap.push {cls:=.type "range", data:=.fields #[.int 0 s0.toks,.int hi t0,.int 1 (s0.toks+1)]},toks:=s0.toks+2}:Shared)=s1 at *
 have F:IsRange s1.heap ra 0 hi 1 ta tb tc:=by rw[<-es1];exact F
 have R1:=R.grow sm1
 have hT:H1 P=some (.tbl q lp):=R1.tb _ hl.tb
 obtain⟨c,hcx⟩:=T.ok.has x (.inl B)
 obtain⟨cc,hcode,hhd⟩:=hl.cd
 have KX:=T.kIn
 have hgl:s1.heap.Ns mainGlobals X.mg:=T.mod.glob.keeps T.bk
 have hgP:mainGlobals≠P:=λz=>by
  obtain⟨o,_,_,Y,_⟩:=T.mod.glob
  have:=(T.bs _ _ Y).2
  rw[z,hT]at this;cases this
 have hbm:s1.heap.BuiltinsAt X.mg P:=by
  obtain⟨bm,ob,Y,M,g3,g4,g5,g6⟩:=T.mod.bm
  refine⟨bm,ob,Y,M,λz=>?_,λz=>?_,T.bk _ _ g3,g4,g5,g6⟩
  ·obtain⟨o,_,_,k1,k2,_⟩:=T.mod.glob
   rw[z,k1]at g3;cases g3
   rw[k2]at g6;cases g6
  ·have:=(T.bs _ _ g3).2
   rw[z,hT]at this;cases this
 have hTT:∃ps,s1.heap.get? P=some (tabObj ps)/\(ps = #[]\/∃c',ps=ent lp c'/\s1.heap.CodeRec (.ref c') q):=by
  obtain⟨ps,Y,M⟩:=T.hok P _ hT
  refine⟨ps,Y,?_⟩
  rcases M with g|⟨c',g,_,g3⟩
  ·exact .inl g
  ·exact .inr ⟨c',g,g3⟩
 show wpAny _ _ (evalAll [do let v <-eval (.Lambda params (Jr x y p1 p2 p3 p4 p5 kd) scope lp) X.env;standAt pos;pure v]) _ _ s1
 refine wpAny_evalAll_cons (wpAny_bind ?_)
 refine Mr (mg:=X.mg) hl.qn hdef (hcl c hcx) T.ok.glob hgl hcode (codeHd_of_K KX hhd) hgP hbm hTT λf c' ctv h' tk kp hP' hor hfs hfo a=>wpAny_bind (wpAny_standAt (wpAny_pure ?_))
 refine wpAny_evalAll_nil ?_
 show wpAny _ _ (PySem.call (.builtin "sorted") [.ref ra] [(Str.ofString "key", .ref f)]) _ _ _
 obtain⟨H2,C,sm2⟩:=QS (tk:=tk) T hT kp hP' (hor.imp (λz=>z) λz=>⟨z.1,z.2.1⟩) a
 have R2:=R1.grow sm2
 have hrg2:IsRange h' ra 0 hi 1 ta tb tc:=by
  refine kp ra _ (λy=>?_) F
  obtain⟨ps,Y,_⟩:=hTT
  have Z:=F
  rw[y]at Z
  have Z:s1.heap.get? P=_:=Z
  rw[Y]at Z
  cases Z
 have rva:∀vs:List Value,vs.length=(hi-0).toNat->zK vs->Vals ((jZ 0 (hi-0).toNat).map λ(j:Nat)=>V.int (0+(j:Int))) vs:=λvs lv rv=>by
  have:=Gx (f:=λj:Nat=>V.int (0+(j:Int))) vs 0 λj v hj=>by
   obtain⟨tt,e⟩:=rv j v hj
   rw[fj]
   exact⟨tt,by rw[e,mG]⟩
  rw[lv]at this
  exact this
 obtain⟨m,hmm,hlk⟩:=id C.loc
 have notL:∀{b:Addr}{o:Obj},h'.get? b=some o->(∀es ep,o.data ≠ .dict es ep)->b≠X.env.locals:=λ{b o} Y M z=>by
  obtain⟨o2,es,ep,k1,k2,_⟩:=hmm
  rw[<-z]at k1
  rw[show h'.get? b=some o2 from k1]at Y;cases Y
  exact M _ _ k2
 have mem:∀{b:Addr}{o:Obj},h'.get? b=some o->b≠X.env.locals->(b,o)∈m9 (Att.nR h') h' X.env.locals:=λY M=>BJ M (Att.wA _ _) Y
 have hlim:∀s':Shared,(∀p∈m9 (Att.nR h') h' X.env.locals,s'.heap.get? p.1=some p.2)->s'.heap.NoLimit:=λs' hk'=>C.ok.mod.nolimit.keeps λb o g=>hk' (b,o) (mem (C.bk b o g) (aZ (bT (Heap.lt_size (C.ok.bs b o g).1) C.ok.above)))
 have calls:∀vs:List Value,vs.length=(hi-0).toNat->zK vs->Paired (λv n=>Hg X.prog X.w X.A.in1.in1 (m9 (Att.nR h') h' X.env.locals) (.ref f) v n) vs ns:=λvs lv rv=>by
  refine Hh (S:=λd n=>∃δ1,gNl 0 d (pU 1 [i] δ)=some δ1/\dK0 δ1=some (.int n)) (λy0 d v n r1 r2 ⟨δ1,Y,M⟩=>?_) (ra0 H2) (rva vs lv rv) (zJ e2 e3)
  obtain⟨z,ds,r,rfl,g4,g5⟩:=Vb (u:=(δ[i]?).getD none) rfl Y M
  obtain rfl:=r1.intE
  obtain⟨t0,rfl⟩:=r2
  have g6:δ[i]? = some (some (.d (.list ds))):=by
   cases g7:δ[i]? with
   |none=>rw[g7]at g4;cases g4
   |some u=>rw[g7]at g4;exact congrArg some g4
  have own0:ow i=none:=by
   cases g7:ow i with
   |none=>rfl
   |some b=>
    obtain⟨_,g8,_⟩:=R2.own i b g7
    rw[hfl]at g8
    rcases g8 with⟨g8,_⟩|⟨g8,_⟩<;>cases g8
  obtain⟨v0,k1,k2⟩:=R2.dat i _ g6 (by rw[hfl];rfl) own0
  obtain⟨b,xs,rfl,k3,k4⟩:=k2.lstE
  obtain⟨v1,k5,k6⟩:=k4.at g5
  obtain⟨b2,ws,rfl,k7,k8⟩:=k6.tupE
  cases k8 with
  |cons k9 k10=>
  obtain rfl:=k9.intE
  obtain⟨it2,rv2,pl2,hz2⟩:=C.list k3
  obtain⟨it3,rv3,pl3,_⟩:=C.tuple k7
  obtain⟨j,j1,j2,j3,j4,j5⟩:=vD k5
  obtain⟨h,j6,j7⟩:=rv2.get j2
  cases j7
  cases rv3 with
  |cons r3 rv3=>
  obtain⟨t3,rfl⟩:=r3
  have l2:=rv2.length
  obtain⟨u,u1,u2⟩:=hlk i x _ hix k1 (.inr (.inl B))
  cases u1
  rcases u2 with⟨u3,_⟩|⟨_,cl,u4,u5⟩
  ·have:some NameKind.cell=some NameKind.local:=B.symm.trans u3
   cases this
  have:cl=c:=by rw[hcx]at u4;exact(cQ.inj u4).symm
  subst this
  refine⟨t3,λs' R' hk' hlim' hR=>?_⟩
  have kk:∀{b:Addr}{o:Obj},h'.get? b=some o->(∀es ep,o.data ≠ .dict es ep)->s'.heap.get? b=some o:=λY M=>hk' _ (mem Y (notL Y M))
  have f1:s'.heap.get? f=some (kla_obj "<lambda>" q params (Jr x y p1 p2 p3 p4 p5 kd) scope [(x,cl)] ((X.mg "__name__").getD .none) c' ctv):=kk hfo (λ_ _ z=>by cases z)
  have f2:s'.heap.CodeRec (.ref c') q:=by
   obtain⟨c2,oc,vs2,tq,h,t,w3,w4⟩:=a
   exact⟨c2,oc,vs2,tq,h,kk t (λ_ _ z=>by rw[w3]at z;cases z),w3,w4⟩
  have f3:s'.heap.IsCell cl (some (.ref b)):=by
   obtain⟨o,h,t⟩:=u5
   exact⟨o,kk h (λ_ _ z=>by rw[t]at z;cases z),t⟩
  have f4:s'.heap.IsList b it2.toArray:=by
   obtain⟨o,h,t,w3,w4⟩:=pl2.isList
   exact⟨o,kk h (λ_ _ z=>by rw[w4]at z;cases z),t,w3,w4⟩
  have f5:∀{it5:Array Value},IsTup h' b2 it5->IsTup s'.heap b2 it5:=λ⟨o,h,t,w3,w4⟩=>⟨o,kk h (λ_ _ z=>by rw[w4]at z;cases z),t,w3,w4⟩
  exact QL (i:=z) (j:=j) (its:=it2.toArray) f1 f2 (by have:=hr.dp;show X.A.depth<_;omega) hlim' (λu=>hbind _ _ _ _ u) hco hgen hk hcells hy hxf hxd hyd hxc f3 f4 (by rw[aV,<-l2];exact j4) (by rw[aV,<-l2];exact j5)
   (by rw[aV,<-l2];exact hz2) (by rw[aV,<-l2];exact j1) (by simpa using j6) (f5 pl3) (by simp) hR
 have fin:∀(D:Addr)(L:Heap)(ec U:Nat)(is:List V)(ds:List D3.D)(vo:List Value),Vals is vo->is.length<=sizeLine->(∀(Hx:Hp),RAs X.K ok0 false Hx is ds) ->
  rP l ns=ds->Fr (Att.nR h') X.env.locals L m->News (Att.nR h') X.env.locals L ((D,seqObj "list" (iQ vo) ec)::m9 (Att.nR h') h' X.env.locals)->(∀z∈m9 (Att.nR h') h' X.env.locals,z.1<D) ->
  EP X pins σ Q (.ref D) {s1 with heap:=L,toks:=U}:=λD L ec U is ds vo v1 v2 v3 v4 F3 N3 lt=>by
  have kept3:∀b o,b≠X.env.locals->h'.get? b=some o->L.get? b=some o:=λb o hb g=>(N3 (b,o) (aJ _ (mem g hb))).1
  have hD:h'.get? D=none:=by
   cases g:h'.get? D with
   |none=>rfl
   |some o=>
    by_cases z:D=X.env.locals
    ·exact absurd z (N3 _ (aC ..)).2.1
    ·exact absurd (lt (D,o) (mem g z)) (eE _)
  have hn:H2 D=none:=by
   cases g:H2 D with
   |none=>rfl
   |some u=>
    obtain⟨w,hw⟩:=zj (C.hok D u g)
    rw[show h'.get? D=some w from hw]at hD;cases hD
  have new:gP X.prog X.w (upd H2 D (.lst is)) L D (.lst is):=⟨v2,vo,ec,v1,(N3 _ (aC ..)).1⟩
  have J:=Qm (s:={s1 with heap:=h',toks:=tk}) (h':=L) C hmm F3.ns kept3 hD new
  refine⟨.ref D,_,J.tok U,rfl,q0 _ _ ((sm1.trans sm2).trans (dH hn _)) (.inr ⟨D,is,ds,rfl,(by show PyData.list (rP l ns)=_;rw[v4]),(sm1.trans sm2).free hn,dj,?_⟩)⟩
  exact(v3 _).imp (λ_ z=>z.elim) (λz=>z)
 refine QV (I.ok.hd hcm) (Att.Ua hmm) JX hrg2 smr hsz (by omega) calls hlim λD L ec U vs lv rv F3 N3 lt=>?_
 by_cases h1:(hi-0).toNat<=1
 ·rw[if_pos h1]at N3
  exact fin D L ec U _ l vs (rva vs lv rv) (by rw[aB,rW];exact bL h1 (by decide)) (λHx=>RAs.flat hc.2 (ra0 Hx)) (by unfold rP;rw[if_pos (by omega)]) F3 N3 lt
 ·rw[if_neg h1]at N3
  have eo:rP l ns=(sV (hi-0).toNat (ltK ns)).map λi=>l.getD i .none:=by unfold rP;rw[if_neg (by omega),ll];rfl
  have pm:=oU (n:=(hi-0).toNat) (by omega) (ltK ns)
  refine fin D L ec U ((sV (hi-0).toNat (ltK ns)).map λi=>((jZ 0 (hi-0).toNat).map λ(j:Nat)=>V.int (0+(j:Int))).getD i .non) _ _ ?_ ?_ ?_ eo F3 N3 lt
  ·have rvs:=rva vs lv rv
   generalize sV (hi-0).toNat (ltK ns)=is
   induction is with
   |nil=>exact .nil
   |cons i is ih=>exact .cons (zH rvs i) ih
  ·rw[aB,pm.length_eq,cC]
   exact bL (eY (ll▸hc.1)) (by decide)
  ·intro Hx
   have r:=ra0 Hx
   generalize sV (hi-0).toNat (ltK ns)=is
   induction is with
   |nil=>exact .nil
   |cons i is ih=>exact .cons (RA.flat (CN hc.2 i) (GF r i)) ih
end
end XL
namespace D3
open PySem PySem.Spec PyProof.Rows L2 My
section
variable{X:Cx}{fl:List Fl}{e a b:Expr}{es:List Expr}{f fa fb:FE}{fr:FA}{k:Kd}{pos:Pos}
theorem vA(i:Nat){x:Str}(B:fl[i]? = some .A:=by rfl)(O:X.N[i]? = some x:=by rfl)(J:Vis X.env.scope x:=by first|exact Or.inl rfl|exact Or.inr (Or.inl rfl)|exact Or.inr (Or.inr rfl))(hd:(x==("__debug__":Str))=false:=by decide)
 (D:(x==("__classdict__":Str))=false:=by decide):DE X fl .A (.Name x pos) (aj i):=z_ i B O J hd D
theorem vP(i:Nat){x:Str}(B:fl[i]? = some .A:=by rfl)(O:X.N[i]? = some x:=by rfl)(J:Vis X.env.scope x:=by first|exact Or.inl rfl|exact Or.inr (Or.inl rfl)|exact Or.inr (Or.inr rfl))(hd:(x==("__debug__":Str))=false:=by decide)
 (D:(x==("__classdict__":Str))=false:=by decide):DE X fl .P (.Name x pos) (aj i):=d7 (z_ i B O J hd D)
theorem vB(i:Nat){x:Str}(D:fl[i]? = some .A:=by rfl)(W:X.N[i]? = some x:=by rfl)(O:Vis X.env.scope x:=by first|exact Or.inl rfl|exact Or.inr (Or.inl rfl)|exact Or.inr (Or.inr rfl))(hd:(x==("__debug__":Str))=false:=by decide)
 (J:(x==("__classdict__":Str))=false:=by decide):DE X fl (.B []) (.Name x pos) (aj i):=jt (z_ i D W O hd J)
theorem iP{i j pos}:DE X fl .P (.Constant (.int i) j pos) (dC (.int i)):=bD Aa
theorem iC{i j pos}:DE X fl .C (.Constant (.int i) j pos) (dC (.int i)):=nW Aa
theorem dz:DB X fl k [] aY:=Ui
theorem dq(h:DE X fl k e f)(B:DB X fl k es fr)(D:isR k=true:=by rfl)(hs:starEach (e::es) X.env=(false,eval e X.env)::starEach es X.env:=by exact mK rfl):DB X fl k (e::es) (aq f fr):=PX D h B hs
theorem dx(ha:DE X fl (.B L) a fa)(D:DE X fl .P b fb)(hs:vG b:=by exact λ_ _=>rfl):DE X fl .A (.Subscript a b pos) (dOp gIx fa fb):=Xb ha D hs
theorem sA(O:X.N.Nodup)(h:DE X fl .A e f)(D:fl[i]? = some .A:=by rfl)(hi:X.N[i]? = some x:=by rfl)(J:X.env.scope.names.lookup x=some .local\/X.env.scope.names.lookup x=some .cell:=by first|exact Or.inl rfl|exact Or.inr rfl)
 (hs:swapsWith e (some (.Name x pos')) pos.line X.env=pure false:=by rfl) (B:X.fn x=true\/X.env.scope.names.lookup x=some .local:=by first|exact .inl rfl|exact .inr rfl) :
 DS1 X fl (.Assign [.Name x pos'] e pos) (bV i f):=PK D O hi J h hs B
theorem gN'(O:X.N.Nodup)(D:fl[i]? = some .A:=by rfl)(hi:X.N[i]? = some x:=by rfl)(J:X.env.scope.names.lookup x=some .local\/X.env.scope.names.lookup x=some .cell:=by first|exact Or.inl rfl|exact Or.inr rfl)
 (B:X.fn x=true\/X.env.scope.names.lookup x=some .local:=by first|exact .inl rfl|exact .inr rfl):DG X fl [i] (.Name x pos) (gNl i):=PN D O hi J B
end
theorem fsc{P:List Str}{sc:Scope}(a:sc.kind = .function:=by rfl)(b:sc.isCoroutine=false:=by rfl)(c:sc.isGenerator=false:=by rfl)(d:N.Nodup:=by decide +kernel)(e:N.take P.length=P:=by rfl)(f:∀x∈P,sc.names.lookup x=some .local\/sc.names.lookup x=some .cell:=by decide +kernel)(g:∀y∈sc.names,y.2 ≠ .free:=by decide +kernel):FnScope N P sc:=⟨a,b,c,d,e,f,g⟩
end D3
namespace D3
open PySem
noncomputable def qS(o:Option Oc)(b:FS):Option Oc:=match o with
 |some (.nx δ)=>b δ
 |some o=>some o
 |none=>none
noncomputable def qI(o:Option Bool)(a b:FS)(δ:DS):Option Oc:=match o with
 |some true=>a δ
 |some false=>b δ
 |none=>none
noncomputable def qO(g:D->D->Option D)(a b:Option D):Option D:=match a,b with
 |some x,some y=>g x y
 |_,_=>none
noncomputable def qU(g:D->Option D)(a:Option D):Option D:=match a with
 |some x=>g x
 |none=>none
noncomputable def qC(a:Option D)(r:Option (List D)):Option (List D):=match a,r with
 |some x,some l=>some (x::l)
 |_,_=>none
noncomputable def qF(F:List D->Option D)(l:Option (List D)):Option D:=match l with
 |some l=>F l
 |none=>none
noncomputable def qR(a:Option D):Option Oc:=match a with
 |some d=>some (.rt d)
 |none=>none
noncomputable def Ve(i:Nat)(a:Option D)(δ:DS):Option Oc:=match a with
 |some d=>if i<δ.length then some (.nx (δ.set i (some (.d d))))else none
 |none=>none
noncomputable def Jt(a:Option D)(fb:FE)(δ:DS):Option D:=match a with
 |some (.bool true)=>fb δ
 |some (.bool false)=>some (.bool false)
 |_=>none
noncomputable def qOr(a:Option D)(fb:FE)(δ:DS):Option D:=match a with
 |some (.bool true)=>some (.bool true)
 |some (.bool false)=>fb δ
 |_=>none
noncomputable def qN(a:Option D):Option D:=match a with
 |some (.bool b)=>some (.bool (!b))
 |_=>none
noncomputable def qB(a:Option D):Option Bool:=match a with
 |some (.bool b)=>some b
 |_=>none
noncomputable def qTA(a:Option Bool)(b:FT)(δ:DS):Option Bool:=match a with
 |some true=>b δ
 |some false=>some false
 |none=>none
noncomputable def qTO(a:Option Bool)(b:FT)(δ:DS):Option Bool:=match a with
 |some true=>some true
 |some false=>b δ
 |none=>none
noncomputable def qTN(a:Option Bool):Option Bool:=match a with
 |some b=>some (!b)
 |none=>none
noncomputable def qE(a:Option Bool)(fa fb:FE)(δ:DS):Option D:=match a with
 |some true=>fa δ
 |some false=>fb δ
 |none=>none
noncomputable def qL(a:Option D):Option (List D):=match a with
 |some (.list l)=>some l
 |_=>none
noncomputable def Vf(a:Option (List D))(g:FG)(b:FS)(δ:DS):Option Oc:=match a with
 |some l=>jc g b l δ
 |none=>none
noncomputable def qD(a:Option DS):Option Oc:=match a with
 |some δ=>some (.nx δ)
 |none=>none
noncomputable def qG(a:Option D)(g:FG)(δ:DS):Option DS:=match a with
 |some d=>g d δ
 |none=>none
noncomputable def qGs(a:Option DS)(r:List D->DS->Option DS)(l:List D):Option DS:=match a with
 |some δ=>r l δ
 |none=>none
noncomputable def qT(a:Option (List D)):Option D:=match a with
 |some l=>if l.length<=sizeLine then some (.tuple l)else none
 |none=>none
noncomputable def qK(a:Option (List D)):Option D:=match a with
 |some l=>if l.length<=sizeLine then some (.list l)else none
 |none=>none
noncomputable def qFl(p:D->Bool)(a:Option D):Option D:=match a with
 |some d=>if p d=true then some d else none
 |none=>none
noncomputable def qA(i:Nat)(x a:Option D)(δ:DS):Option Oc:=match x,a with
 |some (.list l),some d=>if l.length<1000000 then some (.nx (δ.set i (some (.d (.list (l++[d]))))))else none
 |_,_=>none
noncomputable def qP(i:Nat)(a x k:Option D)(δ:DS):Option Oc:=match a,x,k with
 |some d,some (.list l),some (.int j)=>(pIx l.length j).bind λn=>some (.nx (δ.set i (some (.d (.list (l.set n d))))))
 |_,_,_=>none
noncomputable def qCh(g':D->D->Option D)(z:Option D)(y:Option D)(fc:FE)(δ:DS):Option D:=match z with
 |some (.bool true)=>qO g' y (fc δ)
 |some (.bool false)=>some (.bool false)
 |_=>none
noncomputable def qFn(o:Option Oc):Option D:=match o with
 |some (.rt d)=>some d
 |some (.nx _)=>some .none
 |_=>none
noncomputable def qCo(a:Option (List D))(g:FG)(c:FT)(e:FE)(t:Nat)(ix:List Nat)(δ:DS):Option D:=match a with
 |some l=>if l.length<=100000 then(match jB g c e (pU t ix δ) l with|some r=>some (.list r)|none=>none)else none
 |none=>none
section
variable{a b:FS}{c c':FT}{fa fb fc:FE}{fr:FA}{δ:DS}{g:D->D->Option D}{h:D->Option D}{F:List D->Option D}{i:Nat}{G:FG}{d:D}
theorem Xw:bY a b δ=qS (a δ) b:=by
 unfold bY qS
 cases a δ with
 |none=>rfl
 |some o=>cases o<;>rfl
theorem Mv{B:DS}:qS (some (.nx B)) b=b B:=rfl
theorem Mw:qS (some (.rt d)) b=some (.rt d):=rfl
theorem Mx{B:DS}:qS (some (.bk B)) b=some (.bk B):=rfl
theorem Mz{B:DS}:qS (some (.ct B)) b=some (.ct B):=rfl
theorem Xx:dZ δ=some (.nx δ):=rfl
theorem Zr:sBk δ=some (.bk δ):=rfl
theorem Zt:sCt δ=some (.ct δ):=rfl
theorem Zu:sIf c a b δ=qI (c δ) a b δ:=by
 unfold sIf qI
 cases c δ with
 |none=>rfl
 |some t=>cases t<;>rfl
theorem Vg:qI (some true) a b δ=a δ:=rfl
theorem Vh:qI (some false) a b δ=b δ:=rfl
theorem v_op:dOp g fa fb δ=qO g (fa δ) (fb δ):=by
 unfold dOp qO
 cases fa δ<;>cases fb δ<;>rfl
theorem Vi{x y:D}:qO g (some x) (some y)=g x y:=rfl
theorem Zv:dUn h fa δ=qU h (fa δ):=by
 unfold dUn qU
 cases fa δ<;>rfl
theorem Vj{x:D}:qU h (some x)=h x:=rfl
theorem Vk:aY δ=some []:=rfl
theorem QW:aq fa fr δ=qC (fa δ) (fr δ):=by
 unfold aq qC
 cases fa δ<;>cases fr δ<;>rfl
theorem Ju{x:D}{l:List D}:qC (some x) (some l)=some (x::l):=rfl
theorem Vl:dCall F fr δ=qF F (fr δ):=by
 unfold dCall qF
 cases fr δ<;>rfl
theorem MF{l:List D}:qF F (some l)=F l:=rfl
theorem Xy:eG fa δ=qR (fa δ):=by
 unfold eG qR
 cases fa δ<;>rfl
theorem QX:qR (some d)=some (.rt d):=rfl
theorem Vm:WY δ=some (.rt .none):=rfl
theorem Xz:bV i fa δ=Ve i (fa δ) δ:=by
 unfold bV WX Ve
 cases fa δ with
 |none=>simp
 |some d=>rfl
theorem QZ:Ve i (some d) δ=if i<δ.length then some (.nx (δ.set i (some (.d d))))else none:=rfl
theorem v_c:dC d δ=some d:=rfl
theorem v_and:wG fa fb δ=Jt (fa δ) fb δ:=by
 unfold wG Jt
 cases fa δ with
 |none=>rfl
 |some x=>
  cases x<;>try rfl
  next b=>cases b<;>rfl
theorem Q0:Jt (some (.bool true)) fb δ=fb δ:=rfl
theorem Q5:Jt (some (.bool false)) fb δ=some (.bool false):=rfl
theorem v_or:dOr fa fb δ=qOr (fa δ) fb δ:=by
 unfold dOr qOr
 cases fa δ with
 |none=>rfl
 |some x=>
  cases x<;>try rfl
  next b=>cases b<;>rfl
theorem Vo:qOr (some (.bool true)) fb δ=some (.bool true):=rfl
theorem Vp:qOr (some (.bool false)) fb δ=fb δ:=rfl
theorem v_not:Ks fa δ=qN (fa δ):=by
 unfold Ks qN
 cases fa δ with
 |none=>rfl
 |some x=>cases x<;>rfl
theorem Q6{b:Bool}:qN (some (.bool b))=some (.bool (!b)):=rfl
theorem Zw:bO fa δ=qB (fa δ):=by
 unfold bO qB
 cases fa δ with
 |none=>rfl
 |some x=>cases x<;>rfl
theorem Vq{b:Bool}:qB (some (.bool b))=some b:=rfl
theorem Vr:D3.oE c c' δ=qTA (c δ) c' δ:=by
 unfold D3.oE qTA
 cases c δ with
 |none=>rfl
 |some t=>cases t<;>rfl
theorem MK:qTA (some true) c δ=c δ:=rfl
theorem MN:qTA (some false) c δ=some false:=rfl
theorem XC:D3.tOr c c' δ=qTO (c δ) c' δ:=by
 unfold D3.tOr qTO
 cases c δ with
 |none=>rfl
 |some t=>cases t<;>rfl
theorem Q7:qTO (some true) c δ=some true:=rfl
theorem Q8:qTO (some false) c δ=c δ:=rfl
theorem Vs:D3.jk c δ=qTN (c δ):=by
 unfold D3.jk qTN
 cases c δ<;>rfl
theorem MP{b:Bool}:qTN (some b)=some (!b):=rfl
theorem v_ite:dIf c fa fb δ=qE (c δ) fa fb δ:=by
 unfold dIf qE
 cases c δ with
 |none=>rfl
 |some t=>cases t<;>rfl
theorem Q9:qE (some true) fa fb δ=fa δ:=rfl
theorem Q_:qE (some false) fa fb δ=fb δ:=rfl
theorem XF:uD fa δ=qL (fa δ):=by
 unfold uD qL asList
 cases fa δ with
 |none=>rfl
 |some x=>cases x<;>rfl
theorem Ra{l:List D}:qL (some (.list l))=some l:=rfl
theorem XH:k_ fr G b δ=Vf (fr δ) G b δ:=by
 unfold k_ Vf
 cases fr δ<;>rfl
theorem Rc{l:List D}:Vf (some l) G b δ=jc G b l δ:=rfl
theorem Jw:jc G b [] δ=some (.nx δ):=rfl
theorem XM:Ce fa G δ=qD (qG (fa δ) G δ):=by
 unfold Ce qG qD
 cases fa δ with
 |none=>rfl
 |some d=>
  dsimp only[aM]
  cases G d δ<;>rfl
theorem Rf:qG (some d) G δ=G d δ:=rfl
theorem Rg{B:DS}:qD (some B)=some (.nx B):=rfl
theorem Zx:gNl i d δ=if i<δ.length then some (δ.set i (some (.d d)))else none:=rfl
theorem Zy{n:Nat}{gs:List D->DS->Option DS}{l:List D}:gTn n gs (.tuple l) δ=if l.length=n then gs l δ else none:=rfl
theorem XQ:lF [] δ=some δ:=rfl
theorem XR{gs:List D->DS->Option DS}{l:List D}:dw G gs (d::l) δ=qGs (G d δ) gs l:=by
 show(G d δ).bind (λZ=>gs l Z)=qGs (G d δ) gs l
 cases G d δ<;>rfl
theorem Rh{gs:List D->DS->Option DS}{l:List D}{B:DS}:qGs (some B) gs l=gs l B:=rfl
theorem X3:dTup fr δ=qT (fr δ):=by
 unfold dTup qT
 cases fr δ<;>rfl
theorem Ri{l:List D}:qT (some l)=if l.length<=sizeLine then some (.tuple l)else none:=rfl
theorem Zz:mJ fr δ=qK (fr δ):=by
 unfold mJ qK
 cases fr δ<;>rfl
theorem Vt{l:List D}:qK (some l)=if l.length<=sizeLine then some (.list l)else none:=rfl
theorem Vu:oH fa δ=qFl flat (fa δ):=by
 unfold oH qFl
 cases fa δ<;>rfl
theorem X4:uz fa δ=qFl fl1 (fa δ):=by
 unfold uz qFl
 cases fa δ<;>rfl
theorem Vv{p:D->Bool}:qFl p (some d)=if p d=true then some d else none:=rfl
theorem X5:pB i fa δ=qA i (aj i δ) (fa δ) δ:=by
 unfold pB qA
 cases aj i δ with
 |none=>rfl
 |some x=>
  cases fa δ with
  |none=>cases x<;>rfl
  |some d=>cases x<;>rfl
theorem Rj{l:List D}:qA i (some (.list l)) (some d) δ=if l.length<1000000 then some (.nx (δ.set i (some (.d (.list (l++[d]))))))else none:=rfl
theorem X6{fk:FE}:m5 i fk fa δ=qP i (fa δ) (aj i δ) (fk δ) δ:=by
 unfold m5 qP
 cases fa δ with
 |none=>rfl
 |some d=>
  cases aj i δ with
  |none=>rfl
  |some x=>
   cases fk δ with
   |none=>cases x<;>rfl
   |some k=>cases x<;>cases k<;>rfl
theorem Rm{l:List D}{j:Int}:qP i (some d) (some (.list l)) (some (.int j)) δ=(pIx l.length j).bind λn=>some (.nx (δ.set i (some (.d (.list (l.set n d)))))):=rfl
theorem Rn{g':D->D->Option D}:eX g g' fa fb fc δ=qCh g' (qO g (fa δ) (fb δ)) (fb δ) fc δ:=by
 unfold eX qCh qO
 cases fa δ with
 |none=>rfl
 |some x=>
  cases fb δ with
  |none=>rfl
  |some y=>
   dsimp only[aM]
   cases g x y with
   |none=>rfl
   |some z=>
    cases z<;>try rfl
    next b=>
    cases b with
    |false=>rfl
    |true=>dsimp only[aM];cases fc δ<;>rfl
theorem Jx{g':D->D->Option D}{y:Option D}:qCh g' (some (.bool true)) y fc δ=qO g' y (fc δ):=rfl
theorem Jy{g':D->D->Option D}{y:Option D}:qCh g' (some (.bool false)) y fc δ=some (.bool false):=rfl
theorem X7{p q:Nat}{ds:List D}:fnD p q b ds=if ds.length=p then qFn (b (ds.map (λd=>some (.d d))++aP q none))else none:=by
 unfold fnD qFn
 rfl
theorem Ro:qFn (some (.rt d))=some d:=rfl
theorem Rp{B:DS}:qFn (some (.nx B))=some .none:=rfl
theorem Vw{t:Nat}{ix:List Nat}:p8 fr G c fa t ix δ=qCo (fr δ) G c fa t ix δ:=by
 unfold p8 qCo
 cases fr δ with
 |none=>rfl
 |some l=>
  dsimp only[aM]
  by_cases z:l.length<=100000
  ·rw[if_pos z,if_pos z]
   cases jB G c fa (pU t ix δ) l<;>rfl
  ·rw[if_neg z,if_neg z]
theorem M4{t:Nat}{ix:List Nat}{l:List D}:qCo (some l) G c fa t ix δ=if l.length<=100000 then(match jB G c fa (pU t ix δ) l with|some r=>some (.list r)|none=>none)else none:=rfl
theorem X8:D3.sG δ=some true:=rfl
theorem Vx{r:DS}{x:D}:aj 0 (some (.d x)::r)=some x:=rfl
theorem Vy{r:DS}{y:Option U}:aj (i+1) (y::r)=aj i r:=rfl
end
section
variable{i j:Int}{l m:List D}{d:D}
theorem X_:cX (.int i) (.int j)=some (.int (i+j)):=rfl
theorem Yb:pY (.int i) (.int j)=some (.int (i-j)):=rfl
theorem ZC:gLt (.int i) (.int j)=some (.bool (decide (i<j))):=rfl
theorem ZD:gLe (.int i) (.int j)=some (.bool (decide (i<=j))):=rfl
theorem ZF:gGt (.int i) (.int j)=some (.bool (decide (j<i))):=rfl
theorem ZG:gGe (.int i) (.int j)=some (.bool (decide (j<=i))):=rfl
theorem Yc:gEq (.int i) (.int j)=some (.bool (decide (i=j))):=rfl
theorem Yd:gNe (.int i) (.int j)=some (.bool (!decide (i=j))):=rfl
theorem Ye:jd [.list l]=some (.int l.length):=rfl
theorem Vz:jd [.tuple l]=some (.int l.length):=rfl
theorem rm:∀ns:List Int,dX (ns.map .int)=some ns
 |[]=>rfl
 |n::r=>by rw[bf,dX,rm r];rfl
theorem Yg:Zg [.int i]=some (.int (if i<0 then -i else i)):=rfl
theorem Yh:W6 [.int i,.int j]=some (.int (if j>i then j else i)):=rfl
theorem Yi:W7 [.int i,.int j]=some (.int (if j<i then j else i)):=rfl
theorem Yj:Pr (.int i)=some (.int (-i)):=rfl
theorem ZJ:gIx (.list l) (.int i)=pAt l i:=rfl
theorem Yk:gIx (.tuple l) (.int i)=pAt l i:=rfl
theorem M5:oJ (.list l) (.list m)=if l.length+m.length<=1000000 then some (.list (l++m))else none:=rfl
theorem VB:tR (.list l)=some (.list l):=rfl
theorem Rq:tR (.tuple l)=some (.list l):=rfl
theorem Yl:pAt (d::l) 0=some d:=by
 unfold pAt pIx
 rw[if_pos (by decide),if_pos (by simp)]
 rfl
end
noncomputable def VD(i j:Nat)(a:Option (List D))(δ:DS):Option Oc:=match a with
 |some l=>match l with
  |[x,y]=>if i<δ.length/\j<δ.length then some (.nx ((δ.set i (some (.d x))).set j (some (.d y))))else none
  |_=>none
 |none=>none
noncomputable def qu(a:Option (List D)):Option (List D):=match a with
 |some l=>match l with
  |[.int j]=>if rG j=true then some (d8 0 j)else none
  |_=>none
 |none=>none
noncomputable def Hi(a:Option (List D)):Option (List D):=match a with
 |some l=>match l with
  |[.int i,.int j]=>if(rG i&&rG j)=true then some (d8 i j)else none
  |_=>none
 |none=>none
noncomputable def qSl(x:Option D)(a b:Option (Option Int)):Option D:=match x,a,b with
 |some (.list l),some a,some b=>some (.list (cutD l a b))
 |_,_,_=>none
noncomputable def qOP(x:Option D):Option (Option Int):=match x with
 |some (.int i)=>some (some i)
 |_=>none
noncomputable def qEn(x:Option D):Option (List D):=match x with
 |some (.list l)=>some (lG l)
 |_=>none
section
variable{a b:FS}{fa:FE}{fr:FA}{δ:DS}{i j:Nat}{g:FG}
theorem Ym:W8 i j fr δ=VD i j (fr δ) δ:=by
 unfold W8 VD
 cases fr δ with
 |none=>rfl
 |some l=>rfl
theorem Rr{x y:D}:VD i j (some [x,y]) δ=if i<δ.length/\j<δ.length then some (.nx ((δ.set i (some (.d x))).set j (some (.d y))))else none:=rfl
theorem VF:lu fr δ=qu (fr δ):=by
 unfold lu qu
 cases fr δ with
 |none=>rfl
 |some l=>rfl
theorem Ba{k:Int}(h : -(2^62)<=k)(h2:k<2^62):qu (some [.int k])=some (d8 0 k):=by
 show(if rG k=true then some (d8 0 k)else none)=_
 rw[if_pos]
 unfold rG
 rw[dTr h,dTr h2]
 rfl
theorem VG:Ci fr δ=Hi (fr δ):=by
 unfold Ci Hi
 cases fr δ with
 |none=>rfl
 |some l=>rfl
theorem ZK{i k:Int}(h : -(2^62)<=k)(h2:k<2^62)(D : -(2^62)<=i)(B:i<2^62):Hi (some [.int i,.int k])=some (d8 i k):=by
 show(if(rG i&&rG k)=true then some (d8 i k)else none)=_
 rw[if_pos]
 unfold rG
 rw[dTr h,dTr h2,dTr D,dTr B]
 rfl
theorem ZL{lo hi:FO}:dSl fa lo hi δ=qSl (fa δ) (lo δ) (hi δ):=by
 unfold dSl qSl
 cases fa δ with
 |none=>rfl
 |some x=>
  dsimp only[aM]
  cases lo δ with
  |none=>cases x<;>rfl
  |some p=>
   dsimp only[aM]
   cases hi δ with
   |none=>cases x<;>rfl
   |some r=>cases x<;>rfl
theorem VH{l:List D}{p r:Option Int}:qSl (some (.list l)) (some p) (some r)=some (.list (cutD l p r)):=rfl
theorem ZM:pO δ=some none:=rfl
theorem ZP:gj fa δ=qOP (fa δ):=by
 unfold gj qOP
 cases fa δ with
 |none=>rfl
 |some x=>cases x<;>rfl
theorem VJ{k:Int}:qOP (some (.int k))=some (some k):=rfl
theorem VL:Ck fa δ=qEn (fa δ):=by
 unfold Ck qEn
 cases fa δ with
 |none=>rfl
 |some x=>cases x<;>rfl
theorem M6:qEn (some (.list l))=some (lG l):=rfl
theorem jO(Inv:Nat->DS->Prop):∀(l:List D)(δ:DS),Inv 0 δ->(∀i d δ,l[i]? = some d->Inv i δ->∃J B,g d δ=some J/\(b J=some (.nx B)\/b J=some (.ct B))/\Inv (i+1) B)->∃B,jc g b l δ=some (.nx B)/\Inv l.length B:=by
 have W:∀(l:List D)(k:Nat)(δ:DS),Inv k δ->(∀i d δ,l[i]? = some d->Inv (k+i) δ->∃J B,g d δ=some J/\(b J=some (.nx B)\/b J=some (.ct B))/\Inv (k+i+1) B)->∃B,jc g b l δ=some (.nx B)/\Inv (k+l.length) B:=by
  intro l
  induction l with
  |nil=>exact λk δ h _=>⟨δ,rfl,h⟩
  |cons d r U=>
   intro k δ h hs
   obtain⟨J,B,R,Y,S⟩:=hs 0 d δ rfl h
   obtain⟨X,V,T⟩:=U (k+1) B S λi Q Z hd hi=>by
    have:=hs (i+1) Q Z (by simpa using hd) (by rw[show k+(i+1)=k+1+i by omega];exact hi)
    rw[show k+(i+1)+1=k+1+i+1 by omega]at this
    exact this
   refine⟨X,?_,by rw[bF,show k+(r.length+1)=k+1+r.length by omega];exact T⟩
   rw[jc,R,aM]
   rcases Y with Y|Y
   ·rw[Y];exact V
   ·rw[Y];exact V
 intro l δ h hs
 have:=W l 0 δ h λi d δ hd hi=>by
  have:=hs i d δ hd (by rw[fj]at hi;exact hi)
  rw[fj]
  exact this
 rw[fj]at this
 exact this
end
noncomputable def qX(a:Option D)(δ:DS):Option Oc:=match a with
 |some _=>some (.nx δ)
 |none=>none
theorem VN{fa:FE}:Gq fa δ=qX (fa δ) δ:=by
 unfold Gq qX
 cases fa δ<;>rfl
theorem M7:qX (some d) δ=some (.nx δ):=rfl
theorem M8{g B:D->D->Option D}{fa fb fc fd:FE}:vH g g' B fa fb fc fd δ=Jt (qO g (fa δ) (fb δ)) (eX g' B fb fc fd) δ:=by
 unfold vH Jt eX qO
 cases fa δ with
 |none=>rfl
 |some x=>
  cases fb δ with
  |none=>rfl
  |some y=>
   dsimp only[aM]
   cases g x y with
   |none=>rfl
   |some z=>
    cases z<;>try rfl
    next b=>cases b<;>rfl
noncomputable def qZ(a b:Option D):Option (List D):=match a,b with
 |some (.list l),some (.list m)=>some (mz l m)
 |_,_=>none
theorem Yn{f g:FE}:W9 f g δ=qZ (f δ) (g δ):=by
 unfold W9 qZ
 cases f δ with
 |none=>rfl
 |some x=>
  cases g δ with
  |none=>cases x<;>rfl
  |some y=>cases x<;>cases y<;>rfl
theorem Rt{m:List D}:qZ (some (.list l)) (some (.list m))=some (mz l m):=rfl
theorem ZQ{fa:FE}:dN1 fa δ=qFl (λd=>decide (nl d<=1)) (fa δ):=by
 unfold dN1 qFl
 cases fa δ<;>rfl
theorem Yo:flat .none=true:=rfl
theorem ZR{b:Bool}:flat (.bool b)=true:=rfl
theorem f_int{i:Int}:flat (.int i)=true:=rfl
theorem Yp:flat (.str x)=true:=rfl
theorem Yq:flat (.list l)=false:=rfl
theorem f_tup:flat (.tuple l)=flats l:=rfl
theorem Yr:flats []=true:=rfl
theorem VP:flats (d::l)=(flat d&&flats l):=rfl
theorem VR:fl1 .none=true:=rfl
theorem Ys{b:Bool}:fl1 (.bool b)=true:=rfl
theorem V0{i:Int}:fl1 (.int i)=true:=rfl
theorem V1:fl1 (.str x)=true:=rfl
theorem V2:fl1 (.list l)=flats l:=rfl
theorem V3:fl1 (.tuple l)=flats l:=rfl
theorem ZS{c:String}:gIs c d=some (.bool (isT c (tyD d))):=rfl
theorem Yt:Cj d=some (.bool (isNone d)):=rfl
theorem V4:wI d=some (.bool (!isNone d)):=rfl
theorem Yu:isNone .none=true:=rfl
theorem ZV{b:Bool}:isNone (.bool b)=false:=rfl
theorem Yv{i:Int}:isNone (.int i)=false:=rfl
theorem Yw:isNone (.str x)=false:=rfl
theorem Yx:isNone (.list l)=false:=rfl
theorem Yy:isNone (.tuple l)=false:=rfl
theorem Yz{l:List (D×D)}:isNone (.dict l)=false:=rfl
noncomputable def EVL:=And.intro @Yo <| And.intro @ZR <| And.intro @f_int <| And.intro @Yp <| And.intro @Yq <| And.intro @f_tup <| And.intro @Yr <| And.intro @VP <| And.intro @VR <| And.intro @Ys <| And.intro @V0 <| And.intro @V1 <| And.intro @V2 <| And.intro @V3 <| And.intro @ZS <| And.intro @Yt <| And.intro @V4 <| And.intro @Yu <| And.intro @ZV <| And.intro @Yv <| And.intro @Yw <| And.intro @Yx <| And.intro @Yy <| And.intro @Yz <| And.intro @bF.{0} <| And.intro @i_.{0} <| And.intro @bf.{0,0} <| And.intro @o7.{0,0} <| And.intro @cI.{0} <| And.intro @List.replicate_zero.{0} <| And.intro @List.cons_append.{0} <| And.intro @cW.{0} <| And.intro @cM.{0} <| And.intro @List.set_cons_zero.{0} <| And.intro @List.set_cons_succ.{0} <| And.intro @fj <| And.intro @if_true.{1} <| And.intro @decide_true <| And.intro @decide_false <| And.intro @Int.cast_ofNat_Int <| And.intro @fM <| And.intro @Bool.not_false <| @Bool.and_self
noncomputable def EV:=And.intro EVL <| And.intro @ZQ <| And.intro @Yn <| And.intro @Rt <| And.intro @VN <| And.intro @M7 <| And.intro @M8 <| And.intro @Xw (And.intro @Mv (And.intro @Mw (And.intro @Mx (And.intro @Mz (And.intro @Xx (And.intro @Zr (And.intro @Zt (And.intro @Zu (And.intro @Vg (And.intro @Vh (And.intro @v_op (And.intro @Vi (And.intro @Zv (And.intro @Vj (And.intro @Vk (And.intro @QW (And.intro @Ju (And.intro @Vl (And.intro @MF (And.intro @Xy (And.intro @QX (And.intro @Vm (And.intro @Xz (And.intro @QZ (And.intro @v_c (And.intro @v_and (And.intro @Q0 (And.intro @Q5 (And.intro @v_or (And.intro @Vo (And.intro @Vp (And.intro @v_not (And.intro @Q6 (And.intro @Zw (And.intro @Vq (And.intro @Vr (And.intro @MK (And.intro @MN (And.intro @XC (And.intro @Q7 (And.intro @Q8 (And.intro @Vs (And.intro @MP (And.intro @v_ite (And.intro @Q9 (And.intro @Q_ (And.intro @XF (And.intro @Ra (And.intro @XH (And.intro @Rc (And.intro @Jw (And.intro @XM (And.intro @Rf (And.intro @Rg (And.intro @Zx (And.intro @Zy (And.intro @XQ (And.intro @XR (And.intro @Rh (And.intro @X3 (And.intro @Ri (And.intro @Zz (And.intro @Vt (And.intro @Vu (And.intro @X4 (And.intro @Vv (And.intro @X5 (And.intro @Rj (And.intro @X6 (And.intro @Rm (And.intro @Rn (And.intro @Jx (And.intro @Jy (And.intro @X7 (And.intro @Ro (And.intro @Rp (And.intro @Vw (And.intro @M4 (And.intro @X8 (And.intro @Vx (And.intro @Vy (And.intro @X_ (And.intro @Yb (And.intro @ZC (And.intro @ZD (And.intro @ZF (And.intro @ZG (And.intro @Yc (And.intro @Yd (And.intro @Ye (And.intro @Vz (And.intro @Yg (And.intro @Yh (And.intro @Yi (And.intro @Yj (And.intro @ZJ (And.intro @Yk (And.intro @M5 (And.intro @VB (And.intro @Rq (And.intro @Yl (And.intro @Ym (And.intro @Rr (And.intro @VF (And.intro @VG (And.intro @ZL (And.intro @VH (And.intro @ZM (And.intro @ZP (And.intro @VJ (And.intro @VL @M6)))))))))))))))))))))))))))))))))))))))))))))))))))))))))))))))))))))))))))))))))))))))))))))))))))))))))))))))
end D3
namespace My
noncomputable def nG(ns:List Int)(i:Int):Int:=
 if i<(ns.length:Int)then ns.getD i.toNat 0%1000000007
 else if ns=[]then 7919*i+5000011
 else ns.getD (i*7%(ns.length:Int)).toNat 0%1000000007+7919*i
noncomputable def divs(n:Int):Nat->Int
 |0=>n
 |k+1=>divs n k/1000003
noncomputable def Hj(c i k m:Int):Int:=
 (((c+65537*i+3)*(1299709+15485863*k)%2147483629*((c+65537*i+3)*(1299709+15485863*k)%2147483629)%1500450271+104729) *
  ((c+65537*i+3)*(1299709+15485863*k)%2147483629*((c+65537*i+3)*(1299709+15485863*k)%2147483629)%1500450271+104729))%715827883/64%m
noncomputable def gG(ns:List Int)(i k m:Int):Int:=
 if i<(ns.length:Int)/\10^40<=ns.getD i.toNat 0/\0<divs (ns.getD i.toNat 0) k.toNat then divs (ns.getD i.toNat 0) k.toNat%1000003%m
 else Hj (nG ns i) i k m
theorem gH(ns:List Int)(i k:Int){m:Int}(h:0<m):0<=gG ns i k m/\gG ns i k m<m:=by
 unfold gG Hj
 split
 ·exact⟨jL _ (by omega),iR _ h⟩
 ·exact⟨jL _ (by omega),iR _ h⟩
theorem Jz{i k m:Int}(h1:i<(ns.length:Int))(h2:10^40<=ns.getD i.toNat 0)(B:0<divs (ns.getD i.toNat 0) k.toNat):
 gG ns i k m=divs (ns.getD i.toNat 0) k.toNat%1000003%m:=by
 unfold gG
 rw[if_pos ⟨h1,h2,B⟩]
theorem sW{i k m:Int}(h:¬(i<(ns.length:Int)/\10^40<=ns.getD i.toNat 0/\0<divs (ns.getD i.toNat 0) k.toNat)):
 gG ns i k m=Hj (nG ns i) i k m:=by
 unfold gG
 rw[if_neg h]
end My
namespace Com
open PySem D3
noncomputable def gQ:List D->Option D:=fnD 1 0 (eG (wG (dUn (gIs "int") (aj 0)) (Ks (dUn (gIs "bool") (aj 0)))))
noncomputable def iG:List D->Option D:=fnD 2 0 (bY (sIf (bO (dOp gLt (aj 1) (dCall jd (aq (aj 0) (aY))))) (eG (dOp sH (dOp gIx (aj 0) (aj 1)) (dC (.int 1000000007)))) (dZ))
 (bY (sIf (bO (dOp gEq (aj 0) (mJ (aY)))) (eG (dOp cX (dOp rF (dC (.int 7919)) (aj 1)) (dC (.int 5000011)))) (dZ))
 (eG (dOp cX (dOp sH (dOp gIx (aj 0) (dOp sH (dOp rF (aj 1) (dC (.int 7))) (dCall jd (aq (aj 0) (aY))))) (dC (.int 1000000007))) (dOp rF (dC (.int 7919)) (aj 1))))))
noncomputable def bw:List D->Option D:=fnD 4 2 (bY (sIf (D3.oE (bO (dOp gLt (aj 1) (dCall jd (aq (aj 0) (aY))))) (bO (dOp gGe (dOp gIx (aj 0) (aj 1)) (dOp Ue (dC (.int 10)) (dC (.int 40)))))) (bY (bV 4 (dOp gIx (aj 0) (aj 1)))
 (bY (k_ (lu (aq (aj 2) (aY))) (gNl 5) (bV 4 (dOp Cg (aj 4) (dC (.int 1000003)))))
 (sIf (bO (dOp gGt (aj 4) (dC (.int 0)))) (eG (dOp sH (dOp sH (aj 4) (dC (.int 1000003))) (aj 3))) (dZ)))) (dZ))
 (bY (bV 4 (dOp sH (dOp rF (dOp cX (dOp cX (dCall iG (aq (aj 0) (aq (aj 1) (aY)))) (dOp rF (dC (.int 65537)) (aj 1))) (dC (.int 3))) (dOp cX (dC (.int 1299709)) (dOp rF (dC (.int 15485863)) (aj 2)))) (dC (.int 2147483629))))
 (bY (bV 4 (dOp cX (dOp sH (dOp rF (aj 4) (aj 4)) (dC (.int 1500450271))) (dC (.int 104729))))
 (eG (dOp sH (dOp Cg (dOp sH (dOp rF (aj 4) (aj 4)) (dC (.int 715827883))) (dC (.int 64))) (aj 3))))))
noncomputable def dg:List D->Option D:=fnD 1 0 (eG (wG (dUn (gIs "int") (aj 0)) (Ks (dUn (gIs "bool") (aj 0)))))
noncomputable def nH:List D->Option D:=fnD 2 0 (eG (eX gLe gLt (dOp gIx (aj 0) (dC (.int 0))) (aj 1) (dOp gIx (aj 0) (dC (.int 1)))))
noncomputable def jw:List D->Option D:=fnD 2 4 (bY (bV 2 (dCall bw (aq (aj 0) (aq (dC (.int 1)) (aq (dC (.int 0)) (aq (dC (.int 250)) (aY)))))))
 (bY (bV 3 (mJ (aY)))
 (bY (k_ (lu (aq (aj 1) (aY))) (gNl 4) (bY (bV 5 (dCall bw (aq (aj 0) (aq (dC (.int 2)) (aq (aj 4) (aq (dC (.int 9)) (aY)))))))
 (pB 3 (dOp gIx (mJ (aq (dC (.int 0)) (aq (dOp pY (dOp cX (aj 2) (aj 5)) (dC (.int 5))) (aY)))) (dCall zY (aq (dOp gGt (aj 5) (dC (.int 4))) (aY)))))))
 (eG (uz (aj 3))))))
noncomputable def gJ:List D->Option D:=fnD 1 0 (eG (dTup (aq (oH (dOp gIx (aj 0) (dC (.int 0)))) (aq (oH (dOp gIx (aj 0) (dC (.int 1)))) (aY)))))
noncomputable def fB:List D->Option D:=fnD 3 0 (eG (wG (dCall gQ (aq (aj 0) (aY))) (eX gLe gLe (aj 1) (aj 0) (aj 2))))
noncomputable def fD:List D->Option D:=fnD 3 0 (bY (sIf (bO (aj 2)) (eG (oH (dOp gIx (aj 1) (dC (.int 1))))) (dZ))
 (eG (oH (dIf (bO (dOp gLe (aj 0) (dOp gIx (aj 1) (dC (.int 0))))) (dC (.int 0)) (aj 0)))))
noncomputable def lB:List D->Option D:=fnD 4 4 (bY (bV 4 (dOp wJ (mJ (aq (dC (.none)) (aY))) (aj 0)))
 (bY (k_ (Ck (aj 1)) (gTn 2 (dw (gNl 5) (dw (gNl 6) (lF)))) (sIf (bO (dCall nH (aq (dCall gJ (aq (aj 6) (aY))) (aq (aj 3) (aY))))) (k_ (Ci (aq (dOp gIx (aj 2) (aj 5)) (aq (dOp cX (dOp gIx (aj 2) (aj 5)) (dOp gIx (aj 6) (dC (.int 2)))) (aY)))) (gNl 7) (m5 4 (aj 7) (aj 5))) (dZ)))
 (eG (uz (aj 4)))))
noncomputable def dh:List D->Option D:=fnD 4 0 (bY (sIf (D3.tOr (bO (dOp gLe (dOp gIx (aj 0) (dC (.int 1))) (dOp gIx (aj 2) (dC (.int 0))))) (bO (dOp gLe (dOp gIx (aj 2) (dC (.int 1))) (dOp gIx (aj 0) (dC (.int 0)))))) (eG (dC (.bool true))) (dZ))
 (eG (dOr (dOp gLe (dOp cX (aj 1) (dOp gIx (aj 0) (dC (.int 2)))) (aj 3)) (dOp gLe (dOp cX (aj 3) (dOp gIx (aj 2) (dC (.int 2)))) (aj 1)))))
noncomputable def iH:List D->Option D:=fnD 3 6 (bY (sIf (D3.tOr (D3.jk (bO (dUn (gIs "list") (aj 2)))) (bO (dOp gNe (dCall jd (aq (aj 2) (aY))) (dCall jd (aq (aj 1) (aY)))))) (eG (dC (.bool false))) (dZ))
 (bY (k_ (lu (aq (dCall jd (aq (aj 1) (aY))) (aY))) (gNl 3) (bY (bV 4 (dOp gIx (aj 2) (aj 3)))
 (bY (Ce (dOp gIx (aj 1) (aj 3)) (gTn 3 (dw (gNl 5) (dw (gNl 6) (dw (gNl 7) (lF))))))
 (bY (sIf (D3.tOr (D3.jk (bO (dCall dg (aq (aj 4) (aY))))) (D3.jk (bO (eX gLe gLe (dC (.int 0)) (aj 4) (dOp pY (dCall jd (aq (aj 0) (aY))) (aj 7)))))) (eG (dC (.bool false))) (dZ))
 (sIf (bO (dOp gGt (dCall pN (aq (dSl (aj 0) (gj (aj 4)) (gj (dOp cX (aj 4) (aj 7)))) (aY))) (aj 5))) (eG (dC (.bool false))) (dZ))))))
 (bY (k_ (lu (aq (dCall jd (aq (aj 1) (aY))) (aY))) (gNl 3) (k_ (lu (aq (aj 3) (aY))) (gNl 8) (sIf (D3.jk (bO (dCall dh (aq (dOp gIx (aj 1) (aj 8)) (aq (dOp gIx (aj 2) (aj 8)) (aq (dOp gIx (aj 1) (aj 3)) (aq (dOp gIx (aj 2) (aj 3)) (aY)))))))) (eG (dC (.bool false))) (dZ))))
 (eG (dC (.bool true))))))
noncomputable def iu:List D->Option D:=fnD 4 10 (bY (bV 4 (dCall bw (aq (aj 0) (aq (dC (.int 1)) (aq (dC (.int 0)) (aq (dC (.int 250)) (aY)))))))
 (bY (bV 5 (dUn tR (aj 1)))
 (bY (bV 6 (mJ (aY)))
 (bY (bV 7 (mJ (aY)))
 (bY (k_ (lu (aq (aj 3) (aY))) (gNl 8) (bY (bV 9 (dOp cX (aj 2) (dCall bw (aq (aj 0) (aq (dOp cX (dC (.int 3)) (aj 8)) (aq (dC (.int 0)) (aq (dOp cX (dOp pY (dCall jd (aq (aj 1) (aY))) (aj 2)) (dC (.int 1))) (aY))))))))
 (bY (bV 10 (dCall bw (aq (aj 0) (aq (dOp cX (dC (.int 3)) (aj 8)) (aq (dC (.int 1)) (aq (dOp cX (dOp pY (dCall jd (aq (aj 1) (aY))) (aj 9)) (dC (.int 1))) (aY)))))))
 (bY (bV 11 (dOp cX (dCall pN (aq (dOp oJ (mJ (aq (aj 4) (aY))) (dSl (aj 5) (gj (aj 10)) (gj (dOp cX (aj 10) (aj 9))))) (aY))) (dCall bw (aq (aj 0) (aq (dOp cX (dC (.int 3)) (aj 8)) (aq (dC (.int 2)) (aq (dC (.int 3)) (aY))))))))
 (bY (bV 12 (dOp cX (dOp cX (aj 11) (dC (.int 1))) (dCall bw (aq (aj 0) (aq (dOp cX (dC (.int 3)) (aj 8)) (aq (dC (.int 3)) (aq (dC (.int 6)) (aY))))))))
 (bY (bV 5 (dOp oJ (dOp oJ (dSl (aj 5) pO (gj (aj 10))) (dOp wJ (mJ (aq (aj 12) (aY))) (aj 9))) (dSl (aj 5) (gj (dOp cX (aj 10) (aj 9))) pO)))
 (bY (pB 6 (dTup (aq (aj 11) (aq (aj 12) (aq (aj 9) (aY))))))
 (pB 7 (aj 10)))))))))
 (bY (bV 13 (dCall bw (aq (aj 0) (aq (dC (.int 2)) (aq (dC (.int 6)) (aq (dOp cX (dCall jd (aq (aj 6) (aY))) (dC (.int 1))) (aY)))))))
 (eG (dTup (aq (uz (dOp oJ (dSl (aj 6) (gj (aj 13)) pO) (dSl (aj 6) pO (gj (aj 13))))) (aq (uz (dOp oJ (dSl (aj 7) (gj (aj 13)) pO) (dSl (aj 7) pO (gj (aj 13))))) (aY)))))))))))
end Com
namespace Com
open PySem D3 My
theorem uh{i:Int}(B:0<=i)(h1:i<ns.length):pAt (ns.map PyData.int) i=some (.int (ns.getD i.toNat 0)):=by
 unfold pAt pIx
 rw[aB,if_pos B,if_pos h1,aM,aX]
 have h:i.toNat<ns.length:=by omega
 rw[au h]
 simp[List.getD,h]
theorem Bb{k:Nat}:pAt l (k:Int)=l[k]?:=by
 unfold pAt pIx
 rw[if_pos (by omega)]
 by_cases h:k<l.length
 ·rw[if_pos (by omega),aM]
  simp
 ·rw[if_neg (by omega),bB (by omega)]
  rfl
theorem at0{a:D}:pAt (a::l) 0=some a:=Bb (k:=0)
theorem at1{a b:D}:pAt (a::b::l) 1=some b:=Bb (k:=1)
theorem Bc{i j:Int}(h:0<j):sH (.int i) (.int j)=some (.int (i%j)):=by
 show(if decide (j≠0)=true then some (PyData.int (i.fmod j))else none)=_
 rw[if_pos (dTr (by omega)),Int.fmod_eq_emod_of_nonneg i (by omega)]
theorem M9{j:Int}(h:j.natAbs<2^64):j.natAbs<2^9000:=bT h (Nat.pow_le_pow_right (by decide) (by decide))
theorem ZW{i j:Int}(h:0<j)(h2:j.natAbs<2^9000):Cg (.int i) (.int j)=some (.int (i/j)):=by
 show(if EY i j=true then some (PyData.int (i.fdiv j))else none)=_
 have e:EY i j=true:=by
  unfold EY
  rw[aU]
  exact⟨dTr (by omega),dTr h2⟩
 rw[if_pos e,Int.fdiv_eq_ediv_of_nonneg i (by omega)]
theorem YB{i j:Int}(h:0<j)(h2:j<18446744073709551616):Cg (.int i) (.int j)=some (.int (i/j)):=ZW h (M9 (by omega))
theorem mulL{i j:Int}(h1 : -18446744073709551616<i)(h2:i<18446744073709551616):rF (.int i) (.int j)=some (.int (i*j)):=by
 show(if wH i j=true then some (PyData.int (i*j))else none)=_
 have e:wH i j=true:=by
  unfold wH
  rw[dTr (show i.natAbs<2^64 by omega)]
  rfl
 rw[if_pos e]
theorem mulR{i j:Int}(h1 : -18446744073709551616<j)(h2:j<18446744073709551616):rF (.int i) (.int j)=some (.int (i*j)):=by
 show(if wH i j=true then some (PyData.int (i*j))else none)=_
 have e:wH i j=true:=by
  unfold wH
  rw[dTr (show j.natAbs<2^64 by omega),Bool.or_true]
  rfl
 rw[if_pos e]
theorem SM:Ue (.int 10) (.int 40)=some (.int (10^40)):=rfl
theorem sz(h:n<=1000000):n<=sizeLine:=bL h (by decide)
theorem shaped_ints(ns:List Int):SeqAt.shaped (.list (ns.map PyData.int))=true:=by
 have h1:∀ns:List Int,PyData.canLayAll0 (ns.map PyData.int)=true:=λns=>by
  induction ns with
  |nil=>rfl
  |cons a r Z=>simp[PyData.canLayAll0,PyData.canLay0,Z]
 have h2:∀ns:List Int,PyData.depthAll (ns.map PyData.int)<=1:=λns=>by
  induction ns with
  |nil=>simp[PyData.depthAll]
  |cons a r Z=>simp[PyData.depthAll,PyData.depth];omega
 unfold SeqAt.shaped
 rw[aU]
 refine⟨by simp[PyData.canLay0,h1],dTr ?_⟩
 have:=h2 ns
 simp only[PyData.depth]
 omega
theorem eq_empty(ns:List Int):gEq (.list (ns.map PyData.int)) (.list [])=some (.bool (decide (ns=[]))):=by
 unfold gEq
 rw[shaped_ints ns]
 cases ns with
 |nil=>rfl
 |cons a r=>rfl
theorem JB{i:Int}(B:0<=i):iG [.list (ns.map .int),.int i]=some (.int (nG ns i)):=by
 unfold iG nG
 by_cases h:i<(ns.length:Int)
 ·rw[if_pos h]
  simp only[EV,reduceIte,aA,aD,ak,ao,aF,aG,aH,lMp,dTr h,uh B h,Bc (show(0:Int)<1000000007 by decide)]
 ·rw[if_neg h]
  by_cases hn:ns=[]
  ·rw[if_pos hn]
   simp only[EV,reduceIte,aA,aD,ak,ao,aF,aG,aH,lMp,dFa h,eq_empty,dTr hn,cR,mulL (show(-18446744073709551616:Int)<7919 by decide) (show(7919:Int)<18446744073709551616 by decide)]
  ·rw[if_neg hn]
   have X:0<ns.length:=by
    cases ns with
    |nil=>exact absurd rfl hn
    |cons _ _=>simp
   have Y:0<=i*7%(ns.length:Int):=jL _ (by omega)
   have Z:i*7%(ns.length:Int)<(ns.length:Int):=iR _ (by omega)
   simp only[EV,reduceIte,aA,aD,ak,ao,aF,aG,aH,lMp,dFa h,eq_empty,dFa hn,cR,mulL (show(-18446744073709551616:Int)<7919 by decide) (show(7919:Int)<18446744073709551616 by decide),mulR (show(-18446744073709551616:Int)<7 by decide) (show(7:Int)<18446744073709551616 by decide),Bc (show(0:Int)<1000000007 by decide),Bc (show(0:Int)<ns.length by omega),uh Y Z]
theorem zL{l:D}{i k m:D}(n:Int):∀(B:List D)(c:Nat)(y:Option U),(∀j∈B,∃x,j = .int x)->∃J,jc (gNl 5) (bV 4 (dOp Cg (aj 4) (dC (.int 1000003)))) B [some (.d l),some (.d i),some (.d k),some (.d m),some (.d (.int (divs n c))),y] =
 some (.nx [some (.d l),some (.d i),some (.d k),some (.d m),some (.d (.int (divs n (c+B.length)))),J])
 |[],c,y,_=>⟨y,rfl⟩
 |j::B,c,y,h=>by
  obtain⟨J,e⟩:=zL (l:=l) (i:=i) (k:=k) (m:=m) n B (c+1) (some (.d j)) λj' Z=>h j' (aJ _ Z)
  refine⟨J,?_⟩
  rw[jc]
  simp only[EV,reduceIte,aA,aD,ak,ao,aF,aG,aH,YB (show(0:Int)<1000003 by decide) (show(1000003:Int)<18446744073709551616 by decide),aM]
  rw[show c+(B.length+1)=c+1+B.length by omega,<-e]
  rfl
theorem JC(lo hi:Int):∀j∈d8 lo hi,∃x,j = .int x:=by
 intro j Z
 unfold d8 at Z
 obtain⟨k,_,rfl⟩:=cG.mp Z
 exact⟨_,rfl⟩
theorem gW{i k m:Int}(B:0<=i)(D:0<=k)(J:k<=1000)(hm:0<m):bw [.list (ns.map .int),.int i,.int k,.int m]=some (.int (gG ns i k m)):=by
 have rest:∀x y:Option U,qFn ((bY (bV 4 (dOp sH (dOp rF (dOp cX (dOp cX (dCall iG (aq (aj 0) (aq (aj 1) (aY)))) (dOp rF (dC (.int 65537)) (aj 1))) (dC (.int 3))) (dOp cX (dC (.int 1299709)) (dOp rF (dC (.int 15485863)) (aj 2)))) (dC (.int 2147483629))))
  (bY (bV 4 (dOp cX (dOp sH (dOp rF (aj 4) (aj 4)) (dC (.int 1500450271))) (dC (.int 104729))))
  (eG (dOp sH (dOp Cg (dOp sH (dOp rF (aj 4) (aj 4)) (dC (.int 715827883))) (dC (.int 64))) (aj 3))))) [some (.d (.list (ns.map .int))),some (.d (.int i)),some (.d (.int k)),some (.d (.int m)),x,y])=some (.int (Hj (nG ns i) i k m)):=by
  intro x y
  have S:0<=(nG ns i+65537*i+3)*(1299709+15485863*k)%2147483629:=jL _ (by decide)
  have T:(nG ns i+65537*i+3)*(1299709+15485863*k)%2147483629<2147483629:=iR _ (by decide)
  have V:0<=(nG ns i+65537*i+3)*(1299709+15485863*k)%2147483629*((nG ns i+65537*i+3)*(1299709+15485863*k)%2147483629)%1500450271:=jL _ (by decide)
  have W:(nG ns i+65537*i+3)*(1299709+15485863*k)%2147483629*((nG ns i+65537*i+3)*(1299709+15485863*k)%2147483629)%1500450271<1500450271:=iR _ (by decide)
  simp only[EV,reduceIte,aA,aD,ak,ao,aF,aG,aH,JB B,mulL (show(-18446744073709551616:Int)<65537 by decide) (show(65537:Int)<18446744073709551616 by decide),mulL (show(-18446744073709551616:Int)<15485863 by decide) (show(15485863:Int)<18446744073709551616 by decide),
   mulR (i:=nG ns i+65537*i+3) (show(-18446744073709551616:Int)<1299709+15485863*k by omega) (show 1299709+15485863*k<(18446744073709551616:Int)by omega),Bc (show(0:Int)<2147483629 by decide)]
  simp only[mulL (show(-18446744073709551616:Int)<(nG ns i+65537*i+3)*(1299709+15485863*k)%2147483629 by omega) (show(nG ns i+65537*i+3)*(1299709+15485863*k)%2147483629<(18446744073709551616:Int)by omega)]
  simp only[EV,reduceIte,aA,aD,ak,ao,aF,aG,aH,Bc (show(0:Int)<1500450271 by decide)]
  rw[mulL (by omega) (by omega)]
  simp only[EV,reduceIte,aA,aD,ak,ao,aF,aG,aH,Bc (show(0:Int)<715827883 by decide),YB (show(0:Int)<64 by decide) (show(64:Int)<18446744073709551616 by decide),Bc hm]
  rfl
 unfold bw
 rw[X7]
 simp only[EV,reduceIte,aA,aD,ak,ao,aF,aG,aH]
 by_cases h:i<(ns.length:Int)
 ·by_cases h2:10^40<=ns.getD i.toNat 0
  ·simp only[EV,reduceIte,aA,aD,ak,ao,aF,aG,aH,lMp,dTr h,uh B h,SM,dTr h2]
   obtain⟨Y,e⟩:=zL (l:=.list (ns.map .int)) (i:=.int i) (k:=.int k) (m:=.int m) (ns.getD i.toNat 0) (d8 0 k) 0 none (JC 0 k)
   have el:0+(d8 0 k).length=k.toNat:=by simp[d8]
   rw[el]at e
   have X:jc (gNl 5) (bV 4 (dOp Cg (aj 4) (dC (.int 1000003)))) (d8 0 k) [some (.d (.list (ns.map .int))),some (.d (.int i)),some (.d (.int k)),some (.d (.int m)),some (.d (.int (ns.getD i.toNat 0))),none] =
    some (.nx [some (.d (.list (ns.map .int))),some (.d (.int i)),some (.d (.int k)),some (.d (.int m)),some (.d (.int (divs (ns.getD i.toNat 0) k.toNat))),Y]):=e
   rw[Ba (by omega) (by omega)]
   simp only[EV,reduceIte,aA,aD,ak,ao,aF,aG,aH,X]
   by_cases Z:0<divs (ns.getD i.toNat 0) k.toNat
   ·simp only[EV,reduceIte,aA,aD,ak,ao,aF,aG,aH,dTr Z,Bc (show(0:Int)<1000003 by decide),Bc hm]
    rw[Jz h h2 Z]
   ·simp only[EV,reduceIte,aA,aD,ak,ao,aF,aG,aH,dFa Z]
    rw[sW (λz=>Z z.2.2)]
    have:=rest (some (.d (.int (divs (ns.getD i.toNat 0) k.toNat)))) Y
    simp only[EV,reduceIte,aA,aD,ak,ao,aF,aG,aH]at this
    exact this
  ·simp only[EV,reduceIte,aA,aD,ak,ao,aF,aG,aH,lMp,dTr h,uh B h,SM,dFa h2]
   rw[sW (λz=>h2 z.2.1)]
   have:=rest none none
   simp only[EV,reduceIte,aA,aD,ak,ao,aF,aG,aH]at this
   exact this
 ·simp only[EV,reduceIte,aA,aD,ak,ao,aF,aG,aH,lMp,dFa h]
  rw[sW (λz=>h z.1)]
  have:=rest none none
  simp only[EV,reduceIte,aA,aD,ak,ao,aF,aG,aH]at this
  exact this
end Com
namespace Com
open PySem D3 My
theorem YC{α:Type}{g:FG}{c:FT}{e:FE}(f:α->D)(p:α->Bool)(h:α->D):∀l:List α,(∀s∈l,∃B,g (f s) δ=some B/\c B=some (p s)/\(p s=true->e B=some (h s)))->jB g c e δ (l.map f)=some ((l.filter p).map h)
 |[],_=>rfl
 |s::r,hs=>by
  obtain⟨B,V,W,X⟩:=hs s aC
  have Z:=YC f p h r λx Y=>hs x (aJ _ Y)
  rw[bf,jB,V,aM,W,aM]
  by_cases c:p s=true
  ·rw[if_pos c,X c,aM,Z,lJ,if_pos c]
   rfl
  ·rw[if_neg c,Z,lJ,if_neg c]
theorem Ru{α:Type}{g:FG}{c:FT}{e:FE}(f:α->D)(h:α->D):∀l:List α,(∀s∈l,∃B,g (f s) δ=some B/\c B=some true/\e B=some (h s))->jB g c e δ (l.map f)=some (l.map h)
 |[],_=>rfl
 |s::r,hs=>by
  obtain⟨B,W,X,Y⟩:=hs s aC
  rw[bf,jB,W,aM,X,aM,if_pos rfl,Y,aM,Ru f h r λx Z=>hs x (aJ _ Z)]
  rfl
theorem oX{α:Type}(f:α->D)(h:∀a,flat (f a)=true):∀l:List α,flats (l.map f)=true
 |[]=>rfl
 |a::r=>by rw[bf,flats,h,oX f h r];rfl
theorem jX(l:List Int):flats (l.map PyData.int)=true:=oX _ (λ_=>rfl) l
theorem Hl{m:Int}:(d8 0 m).length=m.toNat:=by unfold d8;rw[aB,cC,tG]
theorem M_{v k:Int}(h:k<=1000000)(h' : -(2^63)<=k):wJ (.list [.int v]) (.int k)=some (.list ((aP k.toNat v).map PyData.int)):=by
 show(if [PyData.int v].length*k.toNat<=1000000/\-(2^63)<=k/\k<2^63 then some (PyData.list (aP k.toNat [PyData.int v]).flatten)else none)=_
 rw[if_pos ⟨by simp only[bF,i_];omega,h',by omega⟩]
 congr 2
 generalize k.toNat=n
 induction n with
 |zero=>rfl
 |succ n Z=>rw[cI,eZ,Z,cI,bf];rfl
theorem Nb{k:Int}(h:0<=k):cutD l (some k) none=l.drop k.toNat:=by
 unfold cutD
 have e:pSx l.length 0 (some k)=min k.toNat l.length:=by
  show(if k<0 then _ else _)=_
  rw[if_neg (by omega)]
 rw[e,show pSx l.length l.length none=l.length from rfl]
 by_cases c:k.toNat<=l.length
 ·rw[show min k.toNat l.length=k.toNat by omega,dY (by rw[cL];omega)]
 ·rw[show min k.toNat l.length=l.length by omega,o9 (by omega),o9 (by omega)]
  simp
theorem Nf{k:Int}(h:0<=k):cutD l none (some k)=l.take k.toNat:=by
 unfold cutD
 have e:pSx l.length l.length (some k)=min k.toNat l.length:=by
  show(if k<0 then _ else _)=_
  rw[if_neg (by omega)]
 rw[e,show pSx l.length 0 none=0 from rfl,dO,mF,List.take_eq_take_iff]
 omega
theorem isList:D3.isT "list" "list"=true:=rfl
mutual
theorem eqv_refl:∀d:D,d.canLay0=true->PyData.eqv d d=true
 | .none,_=>by simp[PyData.eqv]
 | .bool b,_=>by simp[PyData.eqv]
 | .int i,_=>by simp[PyData.eqv]
 | .str x,_=>by simp[PyData.eqv]
 | .list l,h=>by
  have:=eqvAll_refl l (by simpa[PyData.canLay0]using h)
  simpa[PyData.eqv]using this
 | .tuple l,h=>by
  have:=eqvAll_refl l (by simpa[PyData.canLay0]using h)
  simpa[PyData.eqv]using this
 | .dict l,h=>by simp[PyData.canLay0]at h
theorem eqvAll_refl:∀l:List D,PyData.canLayAll0 l=true->PyData.eqvAll l l=true
 |[],_=>by simp[PyData.eqvAll]
 |d::r,h=>by
  rw[PyData.canLayAll0,aU]at h
  rw[PyData.eqvAll,eqv_refl d h.1,eqvAll_refl r h.2]
  rfl
end
noncomputable def ly(n:Nat)(d:D):Prop:=d.canLay0=true/\d.depth<=n
noncomputable def lys(n:Nat)(l:List D):Prop:=PyData.canLayAll0 l=true/\PyData.depthAll l<=n
theorem xU{m:Nat}(h:ly n d)(l:n<=m):ly m d:=⟨h.1,bL h.2 l⟩
theorem Bd:lys n []:=⟨by simp[PyData.canLayAll0],by simp[PyData.depthAll]⟩
theorem oY(h:ly n d)(q:lys n l):lys n (d::l):=
 ⟨by rw[PyData.canLayAll0,h.1,q.1];rfl,by have:=h.2;have:=q.2;simp only[PyData.depthAll];omega⟩
theorem vR{α:Type}(f:α->D)(h:∀a,ly n (f a)):∀l:List α,lys n (l.map f)
 |[]=>Bd
 |a::r=>oY (h a) (vR f h r)
theorem vU(h:lys n l):ly (n+1) (.list l):=⟨by simp[PyData.canLay0,h.1],by have:=h.2;simp only[PyData.depth];omega⟩
theorem V5(h:lys n l):ly (n+1) (.tuple l):=⟨by simp[PyData.canLay0,h.1],by have:=h.2;simp only[PyData.depth];omega⟩
theorem xV{i:Int}:ly (n+1) (.int i):=⟨rfl,by simp[PyData.depth]⟩
theorem JD(h:ly 60 d):SeqAt.shaped d=true:=by
 unfold SeqAt.shaped
 rw[aU]
 exact⟨h.1,dTr (by have:=h.2;omega)⟩
theorem eq_self(h:ly 60 d):gEq d d=some (.bool true):=by
 unfold gEq
 rw[JD h,eqv_refl d h.1]
 rfl
end Com
namespace Com
open PySem D3 My
noncomputable def q(t b:Int):Rat:=mkRat t b.toNat
end Com
namespace Com
open PySem D3 My
noncomputable def sm(k:Nat)(x:Int):Prop:=x.natAbs<2^k
end Com
namespace Com
open PySem D3 My
theorem Ho{k:Nat}(h:k<n):pIx n (k:Int)=some k:=by
 unfold pIx
 rw[if_pos (by omega),if_pos (by omega)]
 rfl
structure Tb where
 N:Nat
 w:Nat->Int
 B:Int
noncomputable def sumTo(f:Nat->Int):Nat->Int
 |0=>0
 |n+1=>sumTo f n+f n
structure TbOk(t:Tb)(k:Nat):Prop where
 B0:0<t.B
 Bs:sm (7*k+1) t.B
 w0:∀j,0<=t.w j
 wB:∀j,t.w j<=t.B
 wz:∀j,t.N<=j->t.w j=0
 N1:1<=t.N
 N4:t.N<=1+4*k
 sum:sumTo t.w t.N=t.B
end Com
namespace Com
open PySem D3 My
end Com
namespace Com
open PySem D3 My
theorem sm1(k:Nat){x:Int}(h:x.natAbs<=1):sm (k+1) x:=by
 unfold sm
 rw[Nat.pow_succ]
 have:=Nat.one_le_two_pow (n:=k)
 omega
structure bd(k:Nat)(a:Rat):Prop where
 n:sm k a.num
 d:sm k (a.den:Int)
end Com
namespace Com
open PySem D3 My
theorem xW{g:FG}{b:FS}(Inv:Nat->DS->Prop){v:D}(n:Nat):∀(l:List D)(δ:DS),Inv 0 δ->n<l.length->(∀i d δ,i<n->l[i]? = some d->Inv i δ->∃B J,g d δ=some B/\b B=some (.nx J)/\Inv (i+1) J) ->
 (∀d δ,l[n]? = some d->Inv n δ->∃B,g d δ=some B/\b B=some (.rt v))->jc g b l δ=some (.rt v):=by
 have V:∀(n:Nat)(l:List D)(k:Nat)(δ:DS),Inv k δ->n<l.length->(∀i d δ,i<n->l[i]? = some d->Inv (k+i) δ->∃B J,g d δ=some B/\b B=some (.nx J)/\Inv (k+i+1) J) ->
  (∀d δ,l[n]? = some d->Inv (k+n) δ->∃B,g d δ=some B/\b B=some (.rt v))->jc g b l δ=some (.rt v):=by
  intro n
  induction n with
  |zero=>
   intro l k δ W hn _ X
   cases l with
   |nil=>simp at hn
   |cons d r=>
    obtain⟨B,T,U⟩:=X d δ rfl W
    rw[jc,T,aM,U]
    rfl
  |succ n R=>
   intro l k δ W hn hs X
   cases l with
   |nil=>simp at hn
   |cons d r=>
    obtain⟨B,J,T,U,Q⟩:=hs 0 d δ (by omega) rfl W
    rw[jc,T,aM,U]
    refine R r (k+1) J Q (by simpa using hn) (λi S Z hi hd Y=>?_) (λS Z hd Y=>X S Z (by simpa using hd) (by rw[show k+(n+1)=k+1+n by omega];exact Y))
    have:=hs (i+1) S Z (by omega) (by simpa using hd) (by rw[show k+(i+1)=k+1+i by omega];exact Y)
    rw[show k+(i+1)+1=k+1+i+1 by omega]at this
    exact this
 intro l δ W hn hs X
 refine V n l 0 δ W hn (λi d δ hi hd Y=>?_) (λd δ hd Y=>X d δ hd (by rw[fj]at Y;exact Y))
 have:=hs i d δ hi hd (by rw[fj]at Y;exact Y)
 rw[fj]
 exact this
theorem iY{hi:Int}(h:(d8 0 hi)[i]? = some d):(i:Int)<hi/\d = .int (i:Int):=by
 unfold d8 at h
 rw[aX]at h
 by_cases Z:i<(hi-0).toNat
 ·rw[gb Z]at h
  cases h
  refine⟨by omega,?_⟩
  show PyData.int (0+(i:Int))=_
  rw[mG]
 ·rw[bB (by simpa using Z)]at h
  cases h
end Com
namespace XS
open PySem PySem.W PyProof.Rows
structure Weak(lt:Nat->Nat->Bool):Prop where
 irr:∀a,lt a a=false
 tr:∀a b c,lt a b=true->lt b c=true->lt a c=true
 nt:∀a b c,lt a c=true->lt a b=true\/lt b c=true
noncomputable def Rk(lt:Nat->Nat->Bool)(a b:Nat):Prop:=lt a b=true\/(lt b a=false/\a<b)
section
variable{lt:Nat->Nat->Bool}{p:Array Nat}{n:Nat}
theorem Weak.not(W:Weak lt){a b c:Nat}(h1:lt a b=false)(h2:lt b c=false):lt a c=false:=by
 cases q:lt a c with
 |false=>rfl
 |true=>
  rcases W.nt a b c q with z|z
  ·rw[z]at h1;cases h1
  ·rw[z]at h2;cases h2
theorem Rk.trans(W:Weak lt){a b c:Nat}(h1:Rk lt a b)(h2:Rk lt b c):Rk lt a c:=by
 rcases h1 with h1|⟨h1,l1⟩
 ·rcases h2 with h2|⟨h2,l2⟩
  ·exact .inl (W.tr _ _ _ h1 h2)
  ·rcases W.nt a c b h1 with z|z
   ·exact .inl z
   ·rw[z]at h2;cases h2
 ·rcases h2 with h2|⟨h2,l2⟩
  ·rcases W.nt b a c h2 with z|z
   ·rw[z]at h1;cases h1
   ·exact .inl z
  ·exact .inr ⟨W.not h2 h1,by omega⟩
noncomputable abbrev ga(p:Array Nat)(i:Nat):Nat:=p.getD i 0
noncomputable def Asc(lt:Nat->Nat->Bool)(p:Array Nat)(m:Nat):Prop:=∀i j,i<j->j<m->Rk lt (ga p i) (ga p j)
structure Run(lt:Nat->Nat->Bool)(n:Nat)(p:Array Nat)(m:Nat):Prop where
 asc:Asc lt p m
 rest:∀k,m<=k->k<n->ga p k=k
 low:∀k,k<m->ga p k<m
theorem Run.snoc(W:Weak lt){a:Nat}(R:Run lt n p a)(h1:1<=a)(ha:a<n)(h:lt (ga p a) (ga p (a-1))=false):Run lt n p (a+1):=by
 have U:=R.rest a (aL _) ha
 have X:=R.low (a-1) (by omega)
 have st:Rk lt (ga p (a-1)) (ga p a):=.inr ⟨h,by omega⟩
 refine⟨λi j Z V=>?_,λk Y hn=>R.rest k (by omega) hn,λk Y=>?_⟩
 ·by_cases z:j<a
  ·exact R.asc i j Z z
  ·have:j=a:=by omega
   subst this
   by_cases y:i=j-1
   ·rw[y];exact st
   ·exact(R.asc i (j-1) (by omega) (by omega)).trans W st
 ·by_cases z:k<a
  ·have:=R.low k z;omega
  ·have:k=a:=by omega
   subst this
   omega
theorem FJ(W:Weak lt):∀(f a:Nat),Run lt n p a->1<=a->a+f<=n->Run lt n p (dI lt (kas_asc p f a))/\a<=dI lt (kas_asc p f a)/\dI lt (kas_asc p f a)<=a+f/\(dI lt (kas_asc p f a)<a+f->lt (ga p (dI lt (kas_asc p f a))) (ga p (dI lt (kas_asc p f a)-1))=true)
 |0,a,R,h1,Y=>⟨R,aL _,aL _,λz=>by
  have z:a<a+0:=z
  omega⟩
 |f+1,a,R,h1,Y=>by
  have e:dI lt (kas_asc p (f+1) a)=dI lt (if lt (ga p a) (ga p (a-1))=true then .ret a else kas_asc p f (a+1)):=rfl
  rw[e]
  by_cases c:lt (ga p a) (ga p (a-1))=true
  ·rw[if_pos c]
   exact⟨R,aL _,by show a<=a+(f+1);omega,λ_=>c⟩
  ·rw[if_neg c]
   obtain⟨q1,q2,X,Z⟩:=FJ W f (a+1) (R.snoc W h1 (by omega) (by simpa using c)) (by omega) (by omega)
   exact⟨q1,by omega,by omega,λz=>Z (by omega)⟩
theorem xX(W:Weak lt){k:Nat}(R:Run lt n p k):∀(f l r:Nat),l<=r->r<=k->r-l<=f->(∀i,i<l->lt (ga p k) (ga p i)=false)->(∀i,r<=i->i<k->lt (ga p k) (ga p i)=true) ->
 dI lt (kas_place p k f l r)<=k/\(∀i,i<dI lt (kas_place p k f l r)->lt (ga p k) (ga p i)=false)/\(∀i,dI lt (kas_place p k f l r)<=i->i<k->lt (ga p k) (ga p i)=true)
 |0,l,r,h1,h2,T,Y,Z=>by
  have:l=r:=by omega
  subst this
  exact⟨h2,Y,Z⟩
 |f+1,l,r,h1,h2,T,Y,Z=>by
  by_cases z:l≥r
  ·have:l=r:=by omega
   subst this
   have e:kas_place p k (f+1) l l = .ret l:=by unfold kas_place;rw[if_pos z]
   rw[e]
   exact⟨h2,Y,Z⟩
  ·have e:dI lt (kas_place p k (f+1) l r)=dI lt (if lt (ga p k) (ga p ((l+r)/2))=true then kas_place p k f l ((l+r)/2)else kas_place p k f ((l+r)/2+1) r):=by
    conv=>lhs;unfold kas_place
    rw[if_neg z]
    rfl
   rw[e]
   have V:l<=(l+r)/2:=by omega
   have S:(l+r)/2<r:=by omega
   by_cases c:lt (ga p k) (ga p ((l+r)/2))=true
   ·rw[if_pos c]
    refine xX W R f l ((l+r)/2) V (by omega) (by omega) Y λi hi U=>?_
    by_cases y:i=(l+r)/2
    ·rw[y];exact c
    ·rcases R.asc ((l+r)/2) i (by omega) U with q|⟨q,_⟩
     ·exact W.tr _ _ _ c q
     ·rcases W.nt _ (ga p i) _ c with w|w
      ·exact w
      ·rw[w]at q;cases q
   ·rw[if_neg c]
    have c:lt (ga p k) (ga p ((l+r)/2))=false:=by simpa using c
    refine xX W R f ((l+r)/2+1) r (by omega) h2 (by omega) (λi hi=>?_) Z
    by_cases y:i=(l+r)/2
    ·rw[y];exact c
    ·cases q:lt (ga p k) (ga p i)with
     |false=>rfl
     |true=>
      rcases R.asc i ((l+r)/2) (by omega) (by omega)with w|⟨w,_⟩
      ·rw[W.tr _ _ _ q w]at c;cases c
      ·rcases W.nt _ (ga p ((l+r)/2)) _ q with X|X
       ·rw[X]at c;cases c
       ·rw[X]at w;cases w
theorem V6{k l:Nat}(B:k<p.size)(D:l<=k)(i:Nat):ga (bubble p k (k-l)) i=if i=l then ga p k else if l<i/\i<=k then ga p (i-1)else ga p i:=by
 have e:=getElem?_bubble B (k-l) (by omega) i
 rw[show k-(k-l)=l by omega]at e
 have g:∀(q:Array Nat)(i:Nat),ga q i=(q[i]?).getD 0:=λq i=>by simp[ga,gC]
 rw[g,e,g p k,g p (i-1),g p i]
 by_cases Y:i=l
 ·rw[if_pos Y,if_pos Y]
 ·rw[if_neg Y,if_neg Y]
  by_cases Z:l<i/\i<=k
  ·rw[if_pos Z,if_pos Z]
  ·rw[if_neg Z,if_neg Z]
theorem Ng(W:Weak lt)(hs:p.size=n){k l:Nat}(R:Run lt n p k)(J:k<n)(D:l<=k)(h1:∀i,i<l->lt (ga p k) (ga p i)=false)(h2:∀i,l<=i->i<k->lt (ga p k) (ga p i)=true):Run lt n (bubble p k (k-l)) (k+1):=by
 have T:=R.rest k (aL _) J
 have B:=V6 (p:=p) (k:=k) (by omega) D
 refine⟨λi j Z S=>?_,λm hm hn=>?_,λm hm=>?_⟩
 ·rw[B,B]
  by_cases U:i=l
  ·rw[if_pos U,if_neg (by omega),if_pos (by omega)]
   exact .inl (h2 (j-1) (by omega) (by omega))
  ·rw[if_neg U]
   by_cases V:j=l
   ·rw[if_pos V,if_neg (by omega)]
    exact .inr ⟨h1 i (by omega),by rw[T];exact R.low i (by omega)⟩
   ·rw[if_neg V]
    by_cases X:l<i/\i<=k
    ·rw[if_pos X,if_pos (by omega)]
     exact R.asc _ _ (by omega) (by omega)
    ·rw[if_neg X]
     by_cases Y:l<j/\j<=k
     ·rw[if_pos Y]
      exact R.asc _ _ (by omega) (by omega)
     ·rw[if_neg Y]
      exact R.asc _ _ Z (by omega)
 ·rw[B,if_neg (by omega),if_neg (by omega)]
  exact R.rest m (by omega) hn
 ·rw[B]
  split
  ·omega
  ·split
   ·have:=R.low (m-1) (by omega);omega
   ·have:=R.low m (by omega);omega
theorem Nh(W:Weak lt):∀(f:Nat)(p:Array Nat)(k:Nat),p.size=n->Run lt n p k->k+f=n->Run lt n (dI lt (kas_bin f p k)) n
 |0,p,k,hs,R,h=>by
  have:k=n:=by omega
  subst this
  exact R
 |f+1,p,k,hs,R,h=>by
  have e:dI lt (kas_bin (f+1) p k)=dI lt (kas_bin f (bubble p k (k-dI lt (kas_place p k k 0 k))) (k+1)):=mO _ _
  rw[e]
  obtain⟨q1,q2,Z⟩:=xX W R k 0 k (cR _) (aL _) (by omega) (λi hi=>by omega) (λi h1 h2=>by omega)
  exact Nh W f _ (k+1) (by rw[bubble_size];exact hs) (Ng W hs R (by omega) q1 q2 Z) (by omega)
end
end XS
namespace XS
open PySem PySem.W PyProof.Rows
section
variable{lt:Nat->Nat->Bool}{p p':Array Nat}{n a q:Nat}
theorem Rk.nr(W:Weak lt){a b:Nat}(h:Rk lt a b):lt b a=false:=by
 rcases h with h|⟨h,_⟩
 ·cases z:lt b a with
  |false=>rfl
  |true=>have:=W.tr _ _ _ h z;rw[W.irr]at this;cases this
 ·exact h
theorem FN(B:j<=p.size)(k:Nat):ga (kas_rev p i j) k=if i<=k/\k<j then ga p (i+j-1-k)else ga p k:=by
 have e:=getElem?_mirror_all (i:=i) B k
 have g:∀(q:Array Nat)(i:Nat),ga q i=(q[i]?).getD 0:=λq i=>by simp[ga,gC]
 rw[g,g p (i+j-1-k),g p k]
 unfold kas_rev
 rw[e]
 by_cases c:i<=k/\k<j
 ·rw[if_pos c,if_pos c]
 ·rw[if_neg c,if_neg c]
theorem xY(i j:Nat):(kas_rev p i j).size=p.size:=mirror_size _ _ _ _
structure Dn(lt:Nat->Nat->Bool)(n:Nat)(p:Array Nat)(a q:Nat):Prop where
 le:q+1<=a
 desc:∀i j,i<j->j<a-(q+1)->Rk lt (ga p j) (ga p i)
 strict:∀i j,i<a-(q+1)->a-(q+1)<=j->j<a->lt (ga p j) (ga p i)=true
 run:∀i j,a-(q+1)<=i->i<j->j<a->lt (ga p i) (ga p j)=false/\lt (ga p j) (ga p i)=false/\ga p i<ga p j
 rest:∀k,a<=k->k<n->ga p k=k
 low:∀k,k<a->ga p k<a
structure Desc(lt:Nat->Nat->Bool)(n:Nat)(p:Array Nat)(a:Nat):Prop where
 desc:∀i j,i<j->j<a->Rk lt (ga p j) (ga p i)
 rest:∀k,a<=k->k<n->ga p k=k
 low:∀k,k<a->ga p k<a
theorem Dn.turn(D:Dn lt n p a q)(h:∀k,ga p' k=if a-(q+1)<=k/\k<a then ga p (a-(q+1)+a-1-k)else ga p k):Desc lt n p' a:=by
 have l:=D.le
 refine⟨λi j Y X=>?_,λk Z hn=>?_,λk Z=>?_⟩
 ·by_cases c:j<a-(q+1)
  ·rw[h,h,if_neg (by omega),if_neg (by omega)]
   exact D.desc i j Y c
  ·rw[h j,if_pos (by omega),h i]
   by_cases e:i<a-(q+1)
   ·rw[if_neg (by omega)]
    exact .inl (D.strict _ _ e (by omega) (by omega))
   ·rw[if_pos (by omega)]
    obtain⟨x,y,z⟩:=D.run (a-(q+1)+a-1-j) (a-(q+1)+a-1-i) (by omega) (by omega) (by omega)
    exact .inr ⟨y,z⟩
 ·rw[h,if_neg (by omega)];exact D.rest k Z hn
 ·rw[h]
  split
  ·exact D.low _ (by omega)
  ·exact D.low _ Z
theorem Desc.up(D:Desc lt n p a)(ha:a<n)(h:∀i,i<a->lt (ga p a) (ga p i)=true):Dn lt n p (a+1) 0:=by
 refine⟨by omega,λi j Z X=>D.desc i j Z (by omega),λi j hi h1 h2=>?_,λi j h1 h2 W=>by omega,λk Y hn=>D.rest k (by omega) hn,λk Y=>?_⟩
 ·have:j=a:=by omega
  subst this
  exact h i (by omega)
 ·by_cases z:k<a
  ·have:=D.low k z;omega
  ·have:k=a:=by omega
   subst this
   rw[D.rest k (aL _) ha];omega
noncomputable def turned(p:Array Nat)(a q:Nat):Array Nat:=if q>0 then kas_rev p (a-(q+1)) a else p
theorem rA(hs:p.size=n)(ha:a<=n)(l:q+1<=a)(k:Nat):ga (turned p a q) k=if a-(q+1)<=k/\k<a then ga p (a-(q+1)+a-1-k)else ga p k:=by
 unfold turned
 by_cases c:q>0
 ·rw[if_pos c];exact FN (by omega) k
 ·rw[if_neg c]
  by_cases e:a-(q+1)<=k/\k<a
  ·rw[if_pos e,show a-(q+1)+a-1-k=k by omega]
  ·rw[if_neg e]
theorem vf:(turned p a q).size=p.size:=by
 unfold turned
 split
 ·exact xY _ _
 ·rfl
theorem Dn.below(W:Weak lt)(D:Dn lt n p a q)(hs:p.size=n)(ha:a<n)(h:lt (ga p a) (ga p (a-1))=true)(i:Nat)(hi:i<a):lt (ga (turned p a q) a) (ga (turned p a q) i)=true:=by
 have l:=D.le
 have all:∀i,i<a->lt (ga p a) (ga p i)=true:=λi hi=>by
  by_cases c:i<a-(q+1)
  ·exact W.tr _ _ _ h (D.strict i (a-1) c (by omega) (by omega))
  ·by_cases e:i=a-1
   ·rw[e];exact h
   ·rcases W.nt _ (ga p i) _ h with w|w
    ·exact w
    ·rw[(D.run i (a-1) (by omega) (by omega) (by omega)).1]at w;cases w
 rw[rA hs (by omega) l,if_neg (by omega),rA hs (by omega) l]
 split
 ·exact all _ (by omega)
 ·exact all _ hi
theorem Dn.same(W:Weak lt)(D:Dn lt n p a q)(ha:a<n)(h1:lt (ga p a) (ga p (a-1))=false)(h2:lt (ga p (a-1)) (ga p a)=false):Dn lt n p (a+1) (q+1):=by
 have l:=D.le
 have U:=D.rest a (aL _) ha
 refine⟨by omega,λi j Z V=>D.desc i j Z (by omega),λi j hi q1 q2=>?_,λi j q1 q2 X=>?_,λk Y hn=>D.rest k (by omega) hn,λk Y=>?_⟩
 ·by_cases z:j<a
  ·exact D.strict i j (by omega) (by omega) z
  ·have:j=a:=by omega
   subst this
   rcases W.nt _ (ga p j) _ (D.strict i (j-1) (by omega) (by omega) (by omega))with w|w
   ·rw[w]at h2;cases h2
   ·exact w
 ·by_cases z:j<a
  ·exact D.run i j (by omega) q2 z
  ·have:j=a:=by omega
   subst this
   have lo:=D.low i (by omega)
   by_cases e:i=j-1
   ·subst e
    exact⟨h2,h1,by omega⟩
   ·obtain⟨x,y,_⟩:=D.run i (j-1) (by omega) (by omega) (by omega)
    exact⟨W.not x h2,W.not h1 y,by omega⟩
 ·by_cases z:k<a
  ·have:=D.low k z;omega
  ·have:k=a:=by omega
   subst this
   omega
theorem Bf(W:Weak lt):∀(f:Nat)(p:Array Nat)(a q:Nat),p.size=n->Dn lt n p a q->a+f<=n ->
 (dI lt (kas_desc f p a q)).1.size=n/\Dn lt n (dI lt (kas_desc f p a q)).1 (dI lt (kas_desc f p a q)).2.1 (dI lt (kas_desc f p a q)).2.2/\(dI lt (kas_desc f p a q)).2.1<=n
 |0,p,a,q,hs,D,h=>⟨hs,D,h⟩
 |f+1,p,a,q,hs,D,h=>by
  have e:dI lt (kas_desc (f+1) p a q)=dI lt (if lt (ga p a) (ga p (a-1))=true then(if q>0 then kas_desc f (kas_rev p (a-(q+1)) a) (a+1) 0 else kas_desc f p (a+1) 0)else .ask (ga p (a-1)) (ga p a) λd=>if d=true then .ret (p,a,q)else kas_desc f p (a+1) (q+1)):=rfl
  rw[e]
  by_cases c:lt (ga p a) (ga p (a-1))=true
  ·rw[if_pos c]
   have Y:(if q>0 then kas_desc f (kas_rev p (a-(q+1)) a) (a+1) 0 else kas_desc f p (a+1) 0)=kas_desc f (turned p a q) (a+1) 0:=by
    unfold turned
    split<;>rfl
   rw[Y]
   exact Bf W f (turned p a q) (a+1) 0 (by rw[vf];exact hs) ((D.turn (rA hs (by omega) D.le)).up (by omega) (D.below W hs (by omega) c)) (by omega)
  ·rw[if_neg c]
   have Z:dI lt (.ask (ga p (a-1)) (ga p a) λd=>if d=true then .ret (p,a,q)else kas_desc f p (a+1) (q+1))=dI lt (if lt (ga p (a-1)) (ga p a)=true then .ret (p,a,q)else kas_desc f p (a+1) (q+1)):=rfl
   rw[Z]
   by_cases d:lt (ga p (a-1)) (ga p a)=true
   ·rw[if_pos d]
    exact⟨hs,D,by show a<=n;omega⟩
   ·rw[if_neg d]
    exact Bf W f p (a+1) (q+1) hs (D.same W (by omega) (by simpa using c) (by simpa using d)) (by omega)
theorem Rv(W:Weak lt)(hs:p.size=n)(D:Desc lt n p a)(h1:1<=a)(ha:a<=n):
 (dI lt (kas_tail3 a n p)).2.size=n/\Run lt n (dI lt (kas_tail3 a n p)).2 (dI lt (kas_tail3 a n p)).1/\1<=(dI lt (kas_tail3 a n p)).1/\(dI lt (kas_tail3 a n p)).1<=n:=by
 have e:dI lt (kas_tail3 a n p)=(dI lt (kas_asc (kas_rev p 0 a) (n-a) a),kas_rev p 0 a):=mO _ _
 rw[e]
 have B:=FN (p:=p) (i:=0) (j:=a) (by omega)
 have R:Run lt n (kas_rev p 0 a) a:=by
  refine⟨λi j Y V=>?_,λk Z hn=>?_,λk Z=>?_⟩
  ·rw[B,B,if_pos (by omega),if_pos (by omega)]
   exact D.desc _ _ (by omega) (by omega)
  ·rw[B,if_neg (by omega)];exact D.rest k Z hn
  ·rw[B,if_pos (by omega)];exact D.low _ (by omega)
 obtain⟨q1,q2,X,_⟩:=FJ W (n-a) a R h1 (by omega)
 exact⟨by rw[xY];exact hs,q1,by show 1<=dI lt _;omega,by show dI lt _<=n;omega⟩
theorem Hq(W:Weak lt)(hs:p.size=n)(D:Dn lt n p (a+1) 0)(ha:a<n):
 (dI lt (kas_descPart a n p)).2.size=n/\Run lt n (dI lt (kas_descPart a n p)).2 (dI lt (kas_descPart a n p)).1/\1<=(dI lt (kas_descPart a n p)).1/\(dI lt (kas_descPart a n p)).1<=n:=by
 obtain⟨q1,q2,Z⟩:=Bf W (n-(a+1)) p (a+1) 0 hs D (by omega)
 have e:dI lt (kas_descPart a n p)=dI lt (kas_tail3 (dI lt (kas_desc (n-(a+1)) p (a+1) 0)).2.1 n (turned (dI lt (kas_desc (n-(a+1)) p (a+1) 0)).1 (dI lt (kas_desc (n-(a+1)) p (a+1) 0)).2.1 (dI lt (kas_desc (n-(a+1)) p (a+1) 0)).2.2)):=by
  refine(mO _ _).trans ?_
  unfold turned
  split<;>rfl
 rw[e]
 have l:=q2.le
 exact Rv W (by rw[vf];exact q1) (q2.turn (rA q1 Z l)) (by omega) Z
theorem Ni(W:Weak lt)(hs:p.size=n)(hn:1<=n)(R:Run lt n p 1):
 (dI lt (kas_count n p)).2.size=n/\Run lt n (dI lt (kas_count n p)).2 (dI lt (kas_count n p)).1/\1<=(dI lt (kas_count n p)).1/\(dI lt (kas_count n p)).1<=n:=by
 obtain⟨q1,q2,X,Z⟩:=FJ W (n-1) 1 R (aL _) (by omega)
 have e:dI lt (kas_count n p)=_:=mO _ _
 rw[e]
 clear e
 generalize dI lt (kas_asc p (n-1) 1)=m at q1 q2 X Z ⊢
 by_cases c:(m==n)=true
 ·rw[if_pos c];exact⟨hs,q1,q2,by show m<=n;omega⟩
 ·rw[if_neg c]
  have c:m<n:=by
   have:¬m=n:=by simpa using c
   omega
  have U:=Z (by omega)
  have st:∀p',(∀k,ga p' k=if 0<=k/\k<m then ga p (0+m-1-k)else ga p k)->lt (ga p 0) (ga p (m-1))=false->Dn lt n p' (m+1) 0:=λp' B z=>by
   have D:Desc lt n p' m:=by
    refine⟨λi j V T=>?_,λk Y hn=>?_,λk Y=>?_⟩
    ·rw[B,B,if_pos (by omega),if_pos (by omega)]
     exact q1.asc _ _ (by omega) (by omega)
    ·rw[B,if_neg (by omega)];exact q1.rest k Y hn
    ·rw[B,if_pos (by omega)];exact q1.low _ (by omega)
   have all:∀i,i<m->lt (ga p m) (ga p i)=true:=λi hi=>by
    rcases W.nt _ (ga p i) _ U with w|w
    ·exact w
    ·by_cases y:i=0
     ·subst y;rw[z]at w;cases w
     ·rcases W.nt _ (ga p 0) _ w with v|v
      ·rw[(q1.asc 0 i (by omega) hi).nr W]at v;cases v
      ·rw[z]at v;cases v
   refine D.up c λi hi=>?_
   rw[B,if_neg (by omega),B,if_pos (by omega)]
   exact all _ (by omega)
  by_cases g:m>1
  ·rw[if_pos g]
   show _/\Run lt n (dI lt (if lt (ga p 0) (ga p (m-1))=true then .ret (m,p)else kas_descPart m n (kas_rev p 0 m))).2 (dI lt (if lt (ga p 0) (ga p (m-1))=true then .ret (m,p)else kas_descPart m n (kas_rev p 0 m))).1/\_
   by_cases z:lt (ga p 0) (ga p (m-1))=true
   ·have e:dI lt (.ask (ga p 0) (ga p (m-1)) λc=>if c=true then .ret (m,p)else kas_descPart m n (kas_rev p 0 m))=(m,p):=by
     show dI lt (if lt (ga p 0) (ga p (m-1))=true then .ret (m,p)else kas_descPart m n (kas_rev p 0 m))=_
     rw[if_pos z];rfl
    rw[e,if_pos z]
    exact⟨hs,q1,q2,by show m<=n;omega⟩
   ·have e:dI lt (.ask (ga p 0) (ga p (m-1)) λc=>if c=true then .ret (m,p)else kas_descPart m n (kas_rev p 0 m))=dI lt (kas_descPart m n (kas_rev p 0 m)):=by
     show dI lt (if lt (ga p 0) (ga p (m-1))=true then .ret (m,p)else kas_descPart m n (kas_rev p 0 m))=_
     rw[if_neg z]
    rw[e,if_neg z]
    exact Hq W (by rw[xY];exact hs) (st _ (FN (by omega)) (by simpa using z)) c
  ·rw[if_neg g]
   have:m=1:=by omega
   subst this
   refine Hq W hs (st p (λk=>?_) (W.irr _)) c
   split
   ·rw[show 0+1-1-k=k by omega]
   ·rfl
theorem Rw(W:Weak lt)(hn:1<=n):Run lt n (dI lt (kas_sort n)) n:=by
 have gr:∀k,k<n->ga (iQ (bC n)) k=k:=λk Z=>by
  simp[ga,gC,Z]
 obtain⟨q1,q2,X,Y⟩:=Ni (p:=iQ (bC n)) W (by simp) hn ⟨λi j h1 h2=>by omega,λk Z h=>gr k h,λk Z=>by rw[gr k (by omega)];exact Z⟩
 have e:dI lt (kas_sort n)=_:=mO _ _
 rw[e]
 clear e
 generalize dI lt (kas_count n (iQ (bC n)))=r at q1 q2 X Y ⊢
 by_cases c:r.1<n
 ·rw[if_pos c,show max r.1 1=r.1 by omega]
  exact Nh W _ _ _ q1 q2 (by omega)
 ·rw[if_neg c]
  have:r.1=n:=by omega
  rw[<-this]
  rw[<-this]at q2
  exact q2
theorem FP(W:Weak lt)(hn:1<=n):(sV n lt).Pairwise (Rk lt):=by
 have R:=Rw W hn
 have z:(sV n lt).length=n:=by
  have:=(oU (n:=n) (by omega) lt).length_eq
  simpa using this
 rw[cO]
 intro i j hi Y Z
 have:=R.asc i j Z (by omega)
 have g:∀k (h:k<(sV n lt).length),ga (dI lt (kas_sort n)) k=(sV n lt)[k]:=λk h=>by
  unfold sV at h ⊢
  have h':k<(dI lt (kas_sort n)).size:=by simpa using h
  simp[ga,gC,h']
 rw[g i hi,g j Y]at this
 exact this
end
end XS
namespace XS
theorem Nj{k:Nat->Int}:Weak λi j=>decide (k i<k j):=by
 refine⟨λa=>?_,λa b c h1 h2=>?_,λa b c h=>?_⟩
 ·simp
 ·simp only[decide_eq_true_eq]at *;omega
 ·simp only[decide_eq_true_eq]at *;omega
end XS
namespace Com
open PySem D3 My XS
theorem YD{k:Nat->Int}(h:Rk (λi j=>decide (k i<k j)) i j):k i<=k j:=by
 rcases h with z|⟨z,_⟩
 ·have z:=of_decide_eq_true z;omega
 ·have z:=of_decide_eq_false z;omega
theorem Nk{l:List Nat}{lt:Nat->Nat->Bool}(B:0<l.length):((sV l.length lt).map λi=>l.getD i 0).Perm l:=by
 have e:(bC l.length).map (λi=>l.getD i 0)=l:=by
  apply cF
  intro i
  rw[aX]
  by_cases h:i<l.length
  ·rw[gb h,au h,cP,aK,au h]
   rfl
  ·rw[bB (by simpa using h),bB (by omega)]
   rfl
 have:=(oU B lt).map (λi=>l.getD i 0)
 rw[e]at this
 exact this
theorem FQ(l:List Nat)(f:Nat->Int):∃B:List Nat,rP (l.map λp:Nat=>PyData.int (p:Int)) (l.map f)=B.map (λp:Nat=>PyData.int (p:Int))/\B.Perm l/\B.Pairwise λa b=>f a<=f b:=by
 unfold rP
 rw[aB]
 by_cases h1:l.length<=1
 ·rw[if_pos h1]
  refine⟨l,rfl,List.Perm.refl _,?_⟩
  match l,h1 with
  |[],_=>exact .nil
  |[_],_=>simp
 ·rw[if_neg h1]
  have X:∀i,i<l.length->(l.map f).getD i 0=f (l.getD i 0):=λi hi=>by
   rw[aK,aX,aK,au hi]
   rfl
  refine⟨(sV l.length λi j=>decide ((l.map f).getD i 0<(l.map f).getD j 0)).map λi=>l.getD i 0,?_,Nk (by omega),?_⟩
  ·rw[eO]
   apply jD
   intro i hi
   have Z:=bH.mp ((oU (n:=l.length) (by omega) _).mem_iff.mp hi)
   rw[aK,aX,au Z]
   show _=PyData.int ((l.getD i 0:Nat):Int)
   rw[aK,au Z]
   rfl
  ·rw[fY]
   have W:Weak λi j=>decide ((l.map f).getD i 0<(l.map f).getD j 0):=Nj
   refine List.Pairwise.imp_of_mem ?_ (FP W (by omega))
   intro i j hi U V
   have Z:=bH.mp ((oU (n:=l.length) (by omega) _).mem_iff.mp hi)
   have Y:=bH.mp ((oU (n:=l.length) (by omega) _).mem_iff.mp U)
   have:=YD (k:=λi=>(l.map f).getD i 0) V
   rw[X i Z,X j Y]at this
   exact this
end Com
namespace Com
open PySem D3 My
noncomputable def r6(x:Int):Prop:=0<=x/\x<1000000
noncomputable abbrev Wi:=Int×Int×Int
noncomputable def wiD(w:Wi):D:=.tuple [.int w.1,.int w.2.1,.int w.2.2]
end Com
namespace Com
open PySem D3 My
theorem jH{α:Type}(f:α->D){l:List α}(x:α){i:Int}(B:0<=i)(h1:i<l.length):pAt (l.map f) i=some (f (l.getD i.toNat x)):=by
 have Z:i.toNat<l.length:=by omega
 obtain⟨k,rfl⟩:∃k:Nat,i=(k:Int):=⟨i.toNat,by omega⟩
 rw[Bb,aX,aK]
 simp only[dG]at Z ⊢
 rw[au Z]
 rfl
end Com
namespace Com
open PySem D3 My
theorem JF(fs:List Int):lG (fs.map .int)=(bC fs.length).map λk:Nat=>PyData.tuple [.int (k:Int),.int (fs.getD k 0)]:=by
 unfold lG
 apply cF
 intro i
 rw[bZ,aX,aX]
 by_cases h:i<fs.length
 ·have e:fs.getD i 0=fs[i]:=by rw[aK,au h];rfl
  rw[gb h,au h,cP,cP,cP,e]
 ·rw[bB (by simpa using h),bB (by simpa using h)]
  rfl
end Com
namespace Com
open PySem D3 My
theorem um(P:Nat->Bool):∀n,(∃m,m<n/\P m=true/\∀i,i<m->P i=false)\/∀i,i<n->P i=false
 |0=>.inr λi h=>by omega
 |n+1=>by
  rcases um P n with⟨m,h1,h2,Z⟩|h
  ·exact .inl ⟨m,by omega,h2,Z⟩
  ·cases c:P n with
   |true=>exact .inl ⟨n,by omega,c,h⟩
   |false=>
    refine .inr λi hi=>?_
    by_cases e:i=n
    ·rw[e];exact c
    ·exact h i (by omega)
end Com
variable{row held:List Int}
namespace Sd
noncomputable abbrev Gp:=Int×Int×Nat
noncomputable abbrev Pl:=Gp×Nat
noncomputable def gok(g:Gp):Prop:=0<=g.1/\g.1<g.2.1/\1<=g.2.2
noncomputable def inn(p:Pl)(r:Nat):Prop:=p.2<=r/\r<p.2+p.1.2.2
noncomputable def fits(row:List Int)(g:Gp)(s:Nat):Prop:=s+g.2.2<=row.length/\∀r,s<=r->r<s+g.2.2->row.getD r 0<=g.1
noncomputable def cell(g:Gp)(s r:Nat)(e:Int):Int:=if s<=r/\r<s+g.2.2 then g.2.1 else if e<=g.1 then 0 else e
noncomputable def put(row:List Int)(g:Gp)(s:Nat):List Int:=row.mapIdx (cell g s)
theorem Hr(row:List Int)(g:Gp)(s:Nat):(put row g s).length=row.length:=by unfold put;rw[jR]
theorem Rx{g:Gp}{s r:Nat}(h:r<row.length):(put row g s).getD r 0=cell g s r (row.getD r 0):=by
 unfold put
 rw[aK,bZ,aK,au h]
 rfl
noncomputable def Run:List Int->List Pl->List Int->Prop
 |row,[],out=>out=row
 |row,p::ps,out=>fits row p.1 p.2/\Run (put row p.1 p.2) ps out
noncomputable def Jv(held:List Int)(done:List Pl)(row:List Int):Prop:=row.length=held.length/\∀r,r<held.length->∀x:Int,0<=x->(∀p∈done,p.1.1<=x) ->
 (row.getD r 0<=x<->held.getD r 0<=x/\∀p∈done,inn p r->p.1.2.1<=x)
theorem Jv.nil(held:List Int):Jv held [] held:=⟨rfl,λr _ x _ _=>⟨λh=>⟨h,λp Z=>by cases Z⟩,λh=>h.1⟩⟩
theorem Jv.step{done:List Pl}{p:Pl}(h:Jv held done row)(ok:gok p.1)(asc:∀q∈done,q.1.1<=p.1.1)(ft:fits row p.1 p.2):Jv held (done++[p]) (put row p.1 p.2):=by
 obtain⟨T,W⟩:=h
 obtain⟨U,R,_⟩:=ok
 refine⟨(Hr _ _ _).trans T,λr X x V Y=>?_⟩
 have S:p.1.1<=x:=Y p (bG _ (aO.mpr rfl))
 have xd:∀q∈done,q.1.1<=x:=λq Z=>Y q (cg _ Z)
 have j1:=W r X x V xd
 rw[Rx (by omega)]
 have all:(∀q∈done++[p],inn q r->q.1.2.1<=x)<->(∀q∈done,inn q r->q.1.2.1<=x)/\(inn p r->p.1.2.1<=x):=by
  constructor
  ·exact λz=>⟨λq Z=>z q (cg _ Z),z p (bG _ (aO.mpr rfl))⟩
  ·rintro⟨z1,z2⟩ q Z
   rcases bW.mp Z with k|k
   ·exact z1 q k
   ·rw[aO.mp k];exact z2
 rw[all]
 unfold cell
 by_cases c:p.2<=r/\r<p.2+p.1.2.2
 ·rw[if_pos c]
  have f1:=ft.2 r c.1 c.2
  have j2:=(W r X p.1.1 U asc).mp f1
  constructor
  ·exact λz=>⟨by have:=j2.1;omega,λq Z hi=>by have:=j2.2 q Z hi;omega,λ_=>z⟩
  ·exact λz=>z.2.2 c
 ·rw[if_neg c]
  have e:((if row.getD r 0<=p.1.1 then 0 else row.getD r 0)<=x)<->row.getD r 0<=x:=by split<;>omega
  rw[e,j1]
  exact⟨λz=>⟨z.1,z.2,λy=>absurd y c⟩,λz=>⟨z.1,z.2.1⟩⟩
noncomputable def apart(p q:Pl):Prop:=p.1.2.1<=q.1.1\/q.1.2.1<=p.1.1\/p.2+p.1.2.2<=q.2\/q.2+q.1.2.2<=p.2
noncomputable def home(held:List Int)(p:Pl):Prop:=fits held p.1 p.2
theorem Nm{done:List Pl}{p:Pl}(h:Jv held done row)(ok:gok p.1)(B:∀q∈done,gok q.1/\q.1.1<=p.1.1)(hd:∀q∈done,q.2+q.1.2.2<=held.length):
 fits row p.1 p.2<->home held p/\∀q∈done,apart q p:=by
 obtain⟨T,S⟩:=h
 have j:=λr V=>S r V p.1.1 ok.1 λq Z=>(B q Z).2
 unfold home fits
 rw[T]
 constructor
 ·rintro⟨f1,f2⟩
  refine⟨⟨f1,λr X Y=>((j r (by omega)).mp (f2 r X Y)).1⟩,λq Z=>?_⟩
  unfold apart
  apply Classical.byContradiction
  intro W
  have W:¬q.1.2.1<=p.1.1/\¬p.1.2.1<=q.1.1/\¬q.2+q.1.2.2<=p.2/\¬p.2+p.1.2.2<=q.2:=by omega
  have s1:=ok.2.2
  have s2:=(B q Z).1.2.2
  by_cases k:q.2<=p.2
  ·have:=((j p.2 (by omega)).mp (f2 p.2 (aL _) (by omega))).2 q Z ⟨k,by omega⟩
   omega
  ·have U:=hd q Z
   have:=((j q.2 (by omega)).mp (f2 q.2 (by omega) (by omega))).2 q Z ⟨aL _,by omega⟩
   omega
 ·rintro⟨⟨f1,f2⟩,R⟩
  refine⟨f1,λr X Y=>(j r (by omega)).mpr ⟨f2 r X Y,λq Z hi=>?_⟩⟩
  have a:=R q Z
  have o:=B q Z
  have P:=ok.2.1
  have Q:=o.1.2.1
  unfold apart at a
  unfold inn at hi
  omega
noncomputable def Sit(held:List Int)(ps:List Pl):Prop:=(∀p∈ps,home held p)/\ps.Pairwise apart
theorem sX:∀{ps done:List Pl}{row:List Int},Jv held done row->(∀p∈done,home held p)->(∀p∈done++ps,gok p.1)->(done++ps).Pairwise (λp q=>p.1.1<=q.1.1) ->
 ((∃out,Run row ps out/\Jv held (done++ps) out)<->(∀p∈ps,home held p)/\(∀q∈done,∀p∈ps,apart q p)/\ps.Pairwise apart)
 |[],done,row,j,_,_,_=>by
  constructor
  ·exact λ_=>⟨λp U=>(by cases U),λq _ p U=>(by cases U),.nil⟩
  ·exact λ_=>⟨row,rfl,by rw[cM];exact j⟩
 |p::ps,done,row,j,hd,ok,asc=>by
  have Y:=ok p (bG _ aC)
  have T:∀q∈done,q.1.1<=p.1.1:=λq Z=>(aN.mp asc).2.2 q Z p aC
  have fi:=Nm j Y (λq Z=>⟨ok q (cg _ Z),T q Z⟩) (λq Z=>(hd q Z).1)
  have e:done++p::ps=(done++[p])++ps:=by rw[aQ];rfl
  constructor
  ·rintro⟨out,⟨f,r⟩,V⟩
   obtain⟨f1,f2⟩:=fi.mp f
   have W:=(sX (ps:=ps) (done:=done++[p]) (j.step Y T f) (λq Z=>by
    rcases bW.mp Z with k|k
    ·exact hd q k
    ·rw[aO.mp k];exact f1) (e▸ok) (e▸asc)).mp ⟨out,r,e▸V⟩
   refine⟨λq Z=>?_,λq Z x X=>?_,bU.mpr ⟨λx X=>W.2.1 p (bG _ (aO.mpr rfl)) x X,W.2.2⟩⟩
   ·rcases aW.mp Z with rfl|k
    ·exact f1
    ·exact W.1 q k
   ·rcases aW.mp X with rfl|k
    ·exact f2 q Z
    ·exact W.2.1 q (cg _ Z) x k
  ·rintro⟨h1,h2,Q⟩
   obtain⟨R,S⟩:=bU.mp Q
   have f:=fi.mpr ⟨h1 p aC,λq Z=>h2 q Z p aC⟩
   obtain⟨out,r,V⟩:=(sX (ps:=ps) (done:=done++[p]) (j.step Y T f) (λq Z=>by
    rcases bW.mp Z with k|k
    ·exact hd q k
    ·rw[aO.mp k];exact h1 p aC) (e▸ok) (e▸asc)).mpr ⟨λq Z=>h1 q (aJ _ Z),λq Z x X=>by
     rcases bW.mp Z with k|k
     ·exact h2 q k x (aJ _ X)
     ·rw[aO.mp k];exact R x X,S⟩
   exact⟨out,⟨f,r⟩,e▸V⟩
theorem Hs{ps:List Pl}(ok:∀p∈ps,gok p.1)(asc:ps.Pairwise λp q=>p.1.1<=q.1.1):(∃out,Run held ps out)<->Sit held ps:=by
 have h:=sX (ps:=ps) (done:=[]) (Jv.nil held) (λp V=>by cases V) (by rw[cW];exact ok) (by rw[cW];exact asc)
 constructor
 ·rintro⟨out,r⟩
  have X:Jv held ([]++ps) out:=by
   have go:∀{ps done:List Pl}{row out:List Int},Jv held done row->(∀p∈done++ps,gok p.1)->(done++ps).Pairwise (λp q=>p.1.1<=q.1.1)->Run row ps out->Jv held (done++ps) out:=by
    intro ps
    induction ps with
    |nil=>
     intro done row out j _ _ r
     have:out=row:=r
     rw[cM,this]
     exact j
    |cons p ps W=>
     intro done row out j ok asc r
     have e:done++p::ps=(done++[p])++ps:=by rw[aQ];rfl
     have U:∀q∈done,q.1.1<=p.1.1:=λq Z=>(aN.mp asc).2.2 q Z p aC
     rw[e]
     exact W (j.step (ok p (bG _ aC)) U r.1) (e▸ok) (e▸asc) r.2
   exact go (Jv.nil held) (by rw[cW];exact ok) (by rw[cW];exact asc) r
  obtain⟨h1,_,Y⟩:=h.mp ⟨out,r,X⟩
  exact⟨h1,Y⟩
 ·rintro⟨h1,Y⟩
  obtain⟨out,r,_⟩:=h.mpr ⟨h1,(λq Z=>by cases Z),Y⟩
  exact⟨out,r⟩
end Sd
namespace K71
open PySem D3
noncomputable abbrev gQ:List D->Option D:=Com.gQ
noncomputable abbrev fB:List D->Option D:=Com.fB
noncomputable def lY:List D->Option D:=fnD 1 0 (eG (dCall Pu (aq (p8 (Um (aj 0)) (gNl 0) (sG) (dCall gQ (aq (aj 0) (aY))) 1 []) (aY))))
noncomputable def jJ:List D->Option D:=fnD 2 0 (eG (wG (dUn (gIs "tuple") (aj 0)) (wG (dOp gEq (dCall jd (aq (aj 0) (aY))) (aj 1)) (dCall lY (aq (aj 0) (aY))))))
noncomputable def oZ:List D->Option D:=fnD 1 0 (eG (dCall jJ (aq (aj 0) (aq (dC (.int 2)) (aY)))))
noncomputable def lC:List D->Option D:=fnD 1 0 (eG (wG (dCall oZ (aq (aj 0) (aY))) (vH gLe gLt gLe (dC (.int 0)) (dOp gIx (aj 0) (dC (.int 0))) (dOp gIx (aj 0) (dC (.int 1))) (dC (.int 400)))))
noncomputable abbrev gJ:List D->Option D:=Com.gJ
noncomputable abbrev nH:List D->Option D:=Com.nH
noncomputable def lO:List D->Option D:=fnD 1 0 (bY (sIf (D3.tOr (D3.jk (bO (dUn (gIs "tuple") (aj 0)))) (bO (dOp gNe (dCall jd (aq (aj 0) (aY))) (dC (.int 3))))) (eG (dC (.bool false))) (dZ))
 (eG (wG (dCall lC (aq (dCall gJ (aq (aj 0) (aY))) (aY))) (dCall fB (aq (dOp gIx (aj 0) (dC (.int 2))) (aq (dC (.int 1)) (aq (dC (.int 6)) (aY))))))))
noncomputable def jx:List D->Option D:=fnD 1 2 (k_ (Ck (aj 0)) (gTn 2 (dw (gNl 1) (dw (gNl 2) (lF)))) (sIf (D3.jk (bO (dCall lO (aq (aj 2) (aY))))) ((λ_=>none)) (dZ)))
noncomputable def jP:List D->Option D:=fnD 1 0 (eG (XS.A_ (dCall wX (aq (dCall jd (aq (aj 0) (aY))) (aY))) XS.dK0 [0]))
noncomputable def iI:List D->Option D:=fnD 2 1 (bY (bV 2 (dOp pY (dCall jd (aq (aj 0) (aY))) (dOp gIx (aj 1) (dC (.int 2)))))
 (eG (p8 (lu (aq (dOp cX (aj 2) (dC (.int 1))) (aY))) (gNl 0) (bO (dOp gLe (dCall CT (aq (Jg (aj 2) (gj (aj 0)) (gj (dOp cX (aj 0) (dOp gIx (aj 1) (dC (.int 2)))))) (aY))) (dOp gIx (aj 1) (dC (.int 0))))) (oH (aj 0)) 1 [1,0])))
noncomputable abbrev fD:List D->Option D:=Com.fD
noncomputable def fO:List D->Option D:=fnD 3 1 (bY (bV 3 (dOp cX (aj 2) (dOp gIx (aj 1) (dC (.int 2)))))
 (eG (dUn wY (p8 (Fq (aj 0)) (gTn 2 (dw (gNl 0) (dw (gNl 1) (lF)))) (sG) (dCall fD (aq (aj 1) (aq (aj 2) (aq (eX gLe gLt (aj 3) (aj 0) (aj 4)) (aY))))) 2 [1,2,3]))))
noncomputable def eH:List D->Option D:=fnD 2 3 (bY (bV 2 (dC (.dict [])))
 (bY (k_ (uD (aj 0)) (gNl 3) (k_ (uD (dCall iI (aq (aj 3) (aq (aj 1) (aY))))) (gNl 4) (qm 2 (dCall fO (aq (aj 3) (aq (aj 1) (aq (aj 4) (aY))))) (dTup (aq (aj 3) (aq (aj 4) (aY)))))))
 (eG (aj 2))))
noncomputable def jy:List D->Option D:=fnL 2 4 (bY (bV 2 (mJ (aY)))
 (bY (bV 3 (mJ (aq (dUn wY (aj 0)) (aY))))
 (bY (k_ (uD (dCall jP (aq (aj 1) (aY)))) (gNl 4) (bY (bV 5 (dCall eH (aq (aj 3) (aq (dOp gIx (aj 1) (aj 4)) (aY)))))
 (bY (pB 2 (aj 5))
 (bY (sIf (bO (dOp gGt (dCall XJ.lH (aq (aj 5) (aY))) (dC (.int 400)))) ((λ_=>none)) (dZ))
 (bY (sIf (bO (dOp gEq (dCall XJ.lH (aq (aj 5) (aY))) (dC (.int 0)))) (qj (aj 2)) (dZ))
 (bV 3 (dCall XJ.ju (aq (aj 5) (aY)))))))))
 (qj (aj 2)))))
noncomputable def kE:List D->Option D:=fnD 2 4 (bY (bV 2 (dOp wJ (mJ (aq (dC (.none)) (aY))) (dCall jd (aq (aj 1) (aY)))))
 (bY (bV 3 (dC (.none)))
 (bY (k_ (Px (dOp uK (dCall jP (aq (aj 1) (aY))) (aj 0))) (gTn 2 (dw (gNl 4) (dw (gNl 5) (lF)))) (bY (sIf (bO (dUn Cj (aj 3))) (bV 3 (dOp gIx (dCall XJ.ju (aq (aj 5) (aY))) (dC (.int 0)))) (dZ))
 (bY (m5 2 (aj 4) (dOp gIx (dOp jW (aj 5) (aj 3)) (dC (.int 1))))
 (bV 3 (dOp gIx (dOp jW (aj 5) (aj 3)) (dC (.int 0)))))))
 (eG (uz (aj 2))))))
noncomputable def gR:List D->Option D:=fnD 2 1 (bY (bV 2 (dCall jy (aq (aj 0) (aq (aj 1) (aY)))))
 (bY (sIf (D3.oE (bO (dOp gGt (dCall jd (aq (aj 2) (aY))) (dC (.int 0)))) (bO (dOp gEq (dCall XJ.lH (aq (dOp gIx (aj 2) (dUn Pr (dC (.int 1)))) (aY))) (dC (.int 0))))) (eG (dTup (aq (dC (.str "none")) (aq (p8 (uD (aj 2)) (gNl 0) (sG) (dCall XJ.ju (aq (aj 0) (aY))) 1 []) (aY))))) (dZ))
 (eG (dTup (aq (dC (.str "laid")) (aq (dCall kE (aq (aj 2) (aq (aj 1) (aY)))) (aY)))))))
noncomputable def sY:List D->Option D:=fnD 2 0 (bY (Gq (dCall jx (aq (aj 1) (aY))))
 (eG (dCall gR (aq (aj 0) (aq (aj 1) (aY))))))
noncomputable abbrev lB:List D->Option D:=Com.lB
noncomputable abbrev iG:List D->Option D:=Com.iG
noncomputable abbrev bw:List D->Option D:=Com.bw
noncomputable abbrev dg:List D->Option D:=Com.dg
noncomputable abbrev dh:List D->Option D:=Com.dh
noncomputable abbrev iH:List D->Option D:=Com.iH
noncomputable abbrev iu:List D->Option D:=Com.iu
noncomputable abbrev jw:List D->Option D:=Com.jw
noncomputable def jY:List D->Option D:=fnD 4 3 (bY (bV 4 (dOp wJ (mJ (aq (dC (.none)) (aY))) (aj 0)))
 (bY (k_ (lu (aq (dCall jd (aq (aj 1) (aY))) (aY))) (gNl 5) (k_ (lu (aq (aj 0) (aY))) (gNl 6) (sIf (D3.oE (bO (eX gLe gLt (dOp gIx (dOp gIx (aj 1) (aj 5)) (dC (.int 0))) (aj 3) (dOp gIx (dOp gIx (aj 1) (aj 5)) (dC (.int 1))))) (bO (eX gLe gLt (dOp gIx (aj 2) (aj 5)) (aj 6) (dOp cX (dOp gIx (aj 2) (aj 5)) (dOp gIx (dOp gIx (aj 1) (aj 5)) (dC (.int 2))))))) (m5 4 (aj 6) (aj 5)) (dZ))))
 (eG (uz (aj 4)))))
noncomputable def kI:List D->Option D:=fnD 2 1 (bY (bV 2 (dNd (dCall sY (aq (aj 0) (aq (aj 1) (aY))))))
 (bY (sIf (D3.tOr (D3.jk (bO (dUn (gIs "tuple") (aj 2)))) (D3.tOr (bO (dOp gNe (dCall jd (aq (aj 2) (aY))) (dC (.int 2)))) (bO (dOp gNe (dOp gIx (aj 2) (dC (.int 0))) (dC (.str "laid")))))) (eG (dC (.none))) (dZ))
 (eG (dOp gIx (aj 2) (dC (.int 1))))))
noncomputable def Np:List D->Option D:=fnD 1 9 (bY (bV 1 (dOp cX (dC (.int 1)) (dCall bw (aq (aj 0) (aq (dC (.int 0)) (aq (dC (.int 0)) (aq (dC (.int 6)) (aY))))))))
 (bY (bV 2 (dCall jw (aq (aj 0) (aq (aj 1) (aY)))))
 (bY (Ce (dCall iu (aq (aj 0) (aq (aj 2) (aq (dOp cX (dC (.int 1)) (dCall zY (aq (dOp gEq (aj 1) (dC (.int 6))) (aY)))) (aq (dCall bw (aq (aj 0) (aq (dC (.int 0)) (aq (dC (.int 1)) (aq (dC (.int 17)) (aY)))))) (aY)))))) (gTn 2 (dw (gNl 3) (dw (gNl 4) (lF)))))
 (bY (bV 5 (mJ (aq (dUn tR (aj 2)) (aq (dUn tR (aj 3)) (aY)))))
 (bY (bV 6 (uz (dCall kI (aq (dOp gIx (aj 5) (dC (.int 0))) (aq (dOp gIx (aj 5) (dC (.int 1))) (aY))))))
 (bY (sIf (D3.tOr (bO (dOp gNe (aj 5) (mJ (aq (aj 2) (aq (aj 3) (aY)))))) (D3.jk (bO (dCall iH (aq (aj 2) (aq (aj 3) (aq (aj 6) (aY)))))))) (eG (dC (.bool false))) (dZ))
 (bY (k_ (lu (aq (dC (.int 4)) (aY))) (gNl 7) (bY (bV 8 (dOp cX (dCall bw (aq (aj 0) (aq (dC (.int 1)) (aq (dC (.int 0)) (aq (dC (.int 250)) (aY)))))) (dCall bw (aq (aj 0) (aq (dC (.int 1)) (aq (dOp cX (dC (.int 1)) (aj 7)) (aq (dC (.int 12)) (aY))))))))
 (bY (bV 9 (dCall lB (aq (aj 1) (aq (dOp gIx (aj 5) (dC (.int 1))) (aq (aj 6) (aq (aj 8) (aY)))))))
 (bY (sIf (D3.tOr (D3.jk (bO (dUn (gIs "list") (aj 9)))) (bO (dOp gNe (aj 9) (dCall jY (aq (aj 1) (aq (aj 3) (aq (aj 6) (aq (aj 8) (aY))))))))) (eG (dC (.bool false))) (dZ))
 (sIf (bO (dOp gGt (dCall jd (aq (p8 (uD (aj 9)) (gNl 0) (D3.oE (bO (dUn wI (aj 0))) (D3.jk (bO (dCall dg (aq (aj 0) (aY)))))) (oH (aj 0)) 1 []) (aY))) (dC (.int 0)))) (eG (dC (.bool false))) (dZ))))))
 (bY (pB 6 (dC (.int 0)))
 (eG (wG (dCall iH (aq (aj 2) (aq (aj 3) (aq (dCall kI (aq (aj 2) (aq (aj 3) (aY)))) (aY))))) (dOp gEq (aj 5) (mJ (aq (aj 2) (aq (aj 3) (aY)))))))))))))))
end K71
variable{g:Com.Wi}{gs:List Com.Wi}{hs:List Int}{zs:List (Com.Wi×Int)}
namespace K71
open PySem D3 My Com
noncomputable def isI:D->Bool
 | .int _=>true
 |_=>false
theorem wh(d:D):Com.gQ [d]=some (.bool (isI d)):=by
 unfold Com.gQ
 cases d<;>rfl
noncomputable def two:D->Bool
 | .tuple [x,y]=>isI x&&isI y
 |_=>false
theorem all2(x y:D):lY [.tuple [x,y]]=some (.bool (isI x&&isI y)):=by
 have C:=Ru (g:=(gNl 0)) (c:=(D3.sG)) (e:=(dCall gQ (aq (aj 0) (aY)))) (δ:=[none]) (λd:D=>d) (λd=>.bool (isI d)) [x,y] (λd _=>⟨[some (.d d)],rfl,rfl,by simp only[EV,reduceIte,aA,aD,ak,ao,aF,aG,aH,wh]⟩)
 have C:jB (gNl 0) (D3.sG) (dCall gQ (aq (aj 0) (aY))) [none] [x,y]=some [.bool (isI x),.bool (isI y)]:=C
 have Z:∀a:Option U,pU 1 [] [a]=[none]:=λ_=>rfl
 have ga:Pu [.list [.bool (isI x),.bool (isI y)]]=some (.bool (isI x&&isI y)):=by cases isI x<;>cases isI y<;>rfl
 unfold lY
 simp only[EV,reduceIte,aA,aD,ak,ao,aF,aG,aH,Zk,Uo,show 2<=100000 by decide,Z,C,ga]
theorem len2(h:l.length=2):∃x y,l=[x,y]:=by
 match l,h with
 |[x,y],_=>exact⟨x,y,rfl⟩
theorem two_no(h:¬l.length=2):two (.tuple l)=false:=by
 match l,h with
 |[],_=>rfl
 |[_],_=>rfl
 |[_,_],h=>exact absurd rfl h
 |_::_::_::_,_=>rfl
theorem isTup:D3.isT "tuple" "tuple"=true:=by decide
theorem xZ(d:D):oZ [d]=some (.bool (two d)):=by
 have T:jJ [d,.int 2]=some (.bool (two d)):=by
  unfold jJ
  cases d with
  |tuple l=>
   by_cases h:l.length=2
   ·obtain⟨x,y,rfl⟩:=len2 h
    simp only[EV,reduceIte,aA,aD,ak,ao,aF,aG,aH,tyD,isTup,show jd [PyData.tuple [x,y]]=some (.int 2)from rfl,show gEq (.int 2) (.int 2)=some (.bool true)from rfl,all2]
    rfl
   ·have Z:jd [PyData.tuple l]=some (.int (l.length:Int)):=rfl
    rw[two_no h]
    simp only[EV,reduceIte,aA,aD,ak,ao,aF,aG,aH,tyD,isTup,Z,dFa (show ¬(l.length:Int)=2 by omega)]
  |_=>rfl
 unfold oZ
 simp only[EV,reduceIte,aA,aD,ak,ao,aF,aG,aH,T]
theorem tw(a b:Int):two (.tuple [.int a,.int b])=true:=rfl
noncomputable def stB(a b:Int):Bool:=decide (0<=a)&&(decide (a<b)&&decide (b<=400))
theorem Dw(a b:Int):lC [.tuple [.int a,.int b]]=some (.bool (stB a b)):=by
 unfold lC stB
 by_cases c:0<=a
 ·by_cases Z:a<b
  ·simp only[EV,reduceIte,aA,aD,ak,ao,aF,aG,aH,xZ,tw,at0,at1,dTr c,dTr Z]
   rfl
  ·simp only[EV,reduceIte,aA,aD,ak,ao,aF,aG,aH,xZ,tw,at0,at1,dTr c,dFa Z]
   rfl
 ·simp only[EV,reduceIte,aA,aD,ak,ao,aF,aG,aH,xZ,tw,at0,at1,dFa c]
  rfl
structure grOk(g:Wi):Prop where
 f:0<=g.1
 b:g.1<g.2.1
 n:g.2.1<=400
 s:1<=g.2.2
 t:g.2.2<=6
theorem yc(g:Wi):Com.gJ [wiD g]=some (.tuple [.int g.1,.int g.2.1]):=by
 unfold Com.gJ wiD
 simp only[EV,reduceIte,aA,aD,ak,ao,aF,aG,aH,at0,at1,sz (show 2<=1000000 by decide)]
theorem JG(h:grOk g):lO [wiD g]=some (.bool true):=by
 have S:=Dw g.1 g.2.1
 rw[show stB g.1 g.2.1=true by unfold stB;rw[dTr h.f,dTr h.b,dTr h.n];rfl]at S
 have W:Com.fB [.int g.2.2,.int 1,.int 6]=some (.bool true):=by
  unfold Com.fB
  simp only[EV,reduceIte,aA,aD,ak,ao,aF,aG,aH,wh,isI,dTr h.s,dTr h.t]
 have N:=yc g
 have i2:gIx (wiD g) (.int 2)=some (.int g.2.2):=rfl
 unfold lO
 simp only[EV,reduceIte,aA,aD,ak,ao,aF,aG,aH,show D3.isT "tuple" (tyD (wiD g))=true from rfl,show jd [wiD g]=some (.int 3)from rfl,show gNe (.int 3) (.int 3)=some (.bool false)from rfl,fM,N,S,i2,W]
theorem JH(h:∀g∈gs,grOk g):jx [.list (gs.map wiD)]=some .none:=by
 unfold jx
 simp only[EV,reduceIte,aA,aD,ak,ao,aF,aG,aH]
 obtain⟨X,e,W,Z,rfl⟩:=jO (g:=(gTn 2 (dw (gNl 1) (dw (gNl 2) (lF))))) (b:=(sIf (D3.jk (bO (dCall lO (aq (aj 2) (aY))))) ((λ_=>none)) (dZ))) (λ_ δ=>∃Z Y:Option U,δ=[some (.d (.list (gs.map wiD))),Z,Y]) (lG (gs.map wiD)) [some (.d (.list (gs.map wiD))),none,none] ⟨none,none,rfl⟩
  (by
   rintro i d δ hd ⟨Z,Y,rfl⟩
   unfold lG at hd
   rw[bZ,aX]at hd
   cases hw:gs[i]? with
   |none=>rw[hw]at hd;cases hd
   |some w=>
    rw[hw]at hd
    cases hd
    refine⟨_,_,rfl,.inl ?_,some (.d (.int (i:Int))),some (.d (wiD w)),rfl⟩
    simp only[EV,reduceIte,aA,aD,ak,ao,aF,aG,aH,JG (h w (fP hw))])
 rw[e]
 simp only[EV,reduceIte,aA,aD,ak,ao,aF,aG,aH]
noncomputable def meB(g k:Wi):Bool:=decide ((if k.1>g.1 then k.1 else g.1)<(if k.2.1<g.2.1 then k.2.1 else g.2.1))
noncomputable def coB(g:Wi)(p:Int)(k:Wi)(q:Int):Bool:=decide ((if q>p then q else p)<(if q+k.2.2<p+g.2.2 then q+k.2.2 else p+g.2.2))
noncomputable def apB(g:Wi)(p:Int)(k:Wi)(q:Int):Bool:=(decide (g.2.1<=k.1)||decide (k.2.1<=g.1))||(decide (p+g.2.2<=q)||decide (q+k.2.2<=p))
theorem JK(g k:Wi)(p q:Int):Com.dh [wiD g,.int p,wiD k,.int q]=some (.bool (apB g p k q)):=by
 have V:gIx (wiD g) (.int 0)=some (.int g.1):=rfl
 have i1:gIx (wiD g) (.int 1)=some (.int g.2.1):=rfl
 have i2:gIx (wiD g) (.int 2)=some (.int g.2.2):=rfl
 have W:gIx (wiD k) (.int 0)=some (.int k.1):=rfl
 have j1:gIx (wiD k) (.int 1)=some (.int k.2.1):=rfl
 have j2:gIx (wiD k) (.int 2)=some (.int k.2.2):=rfl
 unfold Com.dh
 by_cases Y:g.2.1<=k.1
 ·have Z:apB g p k q=true:=by unfold apB;rw[dTr Y];rfl
  rw[Z]
  simp only[EV,reduceIte,aA,aD,ak,ao,aF,aG,aH,V,i1,i2,W,j1,j2,dTr Y]
 ·by_cases X:k.2.1<=g.1
  ·have Z:apB g p k q=true:=by unfold apB;rw[dTr X];simp
   rw[Z]
   simp only[EV,reduceIte,aA,aD,ak,ao,aF,aG,aH,V,i1,i2,W,j1,j2,dFa Y,dTr X]
  ·by_cases U:p+g.2.2<=q
   ·have Z:apB g p k q=true:=by unfold apB;rw[dTr U];simp
    rw[Z]
    simp only[EV,reduceIte,aA,aD,ak,ao,aF,aG,aH,V,i1,i2,W,j1,j2,dFa Y,dFa X,dTr U]
   ·have Z:apB g p k q=decide (q+k.2.2<=p):=by unfold apB;rw[dFa Y,dFa X,dFa U];rfl
    rw[Z]
    simp only[EV,reduceIte,aA,aD,ak,ao,aF,aG,aH,V,i1,i2,W,j1,j2,dFa Y,dFa X,dFa U]
theorem rB{k:Wi}{p q:Int}(D:grOk g)(B:grOk k):apB k q g p = !(meB g k&&coB g p k q):=by
 have W:=D.b;have X:=B.b;have Y:=D.s;have Z:=B.s
 unfold apB meB coB
 rw[Bool.eq_iff_iff]
 simp only[jK,fX,Bool.and_eq_false_iff,decide_eq_true_eq,decide_eq_false_iff_not]
 constructor
 ·intro h
  by_cases z:(if k.1>g.1 then k.1 else g.1)<(if k.2.1<g.2.1 then k.2.1 else g.2.1)
  ·right
   intro y
   split at z<;>split at z<;>split at y<;>split at y<;>omega
  ·left;exact z
 ·intro h
  rcases h with h|h
  ·left
   split at h<;>split at h<;>omega
  ·right
   split at h<;>split at h<;>omega
section
variable{gs:List Wi}{ps:List Int}
noncomputable def gat(gs:List Wi)(i:Nat):Wi:=gs.getD i (0,0,0)
noncomputable def beB(gs:List Wi)(ps:List Int)(i:Nat):Bool:=(bC i).all λj=>!(meB (gat gs i) (gat gs j)&&coB (gat gs i) (ps.getD i 0) (gat gs j) (ps.getD j 0))
end
theorem V7{a b:Int}(B:0<=a)(h1:a<=b)(h2:b<=l.length):cutD l (some a) (some b)=(l.drop a.toNat).take (b-a).toNat:=by
 unfold cutD
 have Y:pSx l.length 0 (some a)=a.toNat:=by
  show(if a<0 then _ else _)=_
  rw[if_neg (by omega)]
  omega
 have Z:pSx l.length l.length (some b)=b.toNat:=by
  show(if b<0 then _ else _)=_
  rw[if_neg (by omega)]
  omega
 rw[Y,Z,show b.toNat-a.toNat=(b-a).toNat by omega]
noncomputable def mx:List Int->Int
 |[]=>0
 |x::r=>mxI x r
theorem Bg{l:List Int}(h:l≠[]):pN [.list (l.map .int)]=some (.int (mx l)):=by
 cases l with
 |nil=>exact absurd rfl h
 |cons x r=>
  show(match dX ((x::r).map .int)with|some (i::r)=>some (PyData.int (mxI i r))|_=>none)=_
  rw[rm]
  rfl
noncomputable def sli(hs:List Int)(p s:Int):List Int:=(hs.drop p.toNat).take s.toNat
noncomputable def roB(hs:List Int)(g:Wi)(p:Int):Bool:=(decide (0<=p)&&decide (p<=(hs.length:Int)-g.2.2))&&decide (mx (sli hs p g.2.2)<=g.1)
theorem yd{p s:Int}(B:0<=p)(h1:p<=(hs.length:Int)-s)(h2:1<=s):sli hs p s≠[]:=by
 intro z
 have:=congrArg m6 z
 unfold sli at this
 rw[bR,cL]at this
 simp at this
 omega
theorem vV{p s:Int}(B:0<=p)(h1:p<=(hs.length:Int)-s)(h2:1<=s):cutD (hs.map PyData.int) (some p) (some (p+s))=(sli hs p s).map .int:=by
 rw[V7 B (by omega) (by rw[aB];omega),show p+s-p=s by omega]
 unfold sli
 rw[jg,jh]
section
variable{hs:List Int}{gs:List Wi}{ps:List Int}
noncomputable def YF(hs:List Int)(gs:List Wi)(ps:List Int)(i:Nat):Bool:=roB hs (gat gs i) (ps.getD i 0)&&beB gs ps i
noncomputable def laB(hs:List Int)(gs:List Wi)(ps:List Int):Bool:=decide (ps.length=gs.length)&&(bC gs.length).all (YF hs gs ps)
theorem vW(h:∀g∈gs,grOk g)(hi:i<gs.length):grOk (gat gs i):=by
 unfold gat
 rw[aK,au hi]
 exact h _ (b_ hi)
theorem Nq(hd:(lG (gs.map wiD))[i]? = some d):i<gs.length/\d = .tuple [.int (i:Int),wiD (gat gs i)]:=by
 unfold lG at hd
 rw[bZ,aX]at hd
 cases hw:gs[i]? with
 |none=>rw[hw]at hd;cases hd
 |some w=>
  rw[hw]at hd
  cases hd
  obtain⟨hi,_⟩:=cY.mp hw
  refine⟨hi,?_⟩
  unfold gat
  rw[aK,hw]
  rfl
theorem yg(h:∀g∈gs,grOk g)(pl:ps.length=gs.length){i:Nat}(hi:i<gs.length)(y4 y5 y6 y7 B:Option U):∃z4 O J D,((bY (bV 4 (dOp gIx (aj 2) (aj 3))) (bY (Ce (dOp gIx (aj 1) (aj 3)) (gTn 3 (dw (gNl 5) (dw (gNl 6) (dw (gNl 7) (lF)))))) (bY (sIf (D3.tOr (D3.jk (bO (dCall dg (aq (aj 4) (aY))))) (D3.jk (bO (eX gLe gLe (dC (.int 0)) (aj 4) (dOp pY (dCall jd (aq (aj 0) (aY))) (aj 7)))))) (eG (dC (.bool false))) (dZ)) (sIf (bO (dOp gGt (dCall pN (aq (dSl (aj 0) (gj (aj 4)) (gj (dOp cX (aj 4) (aj 7)))) (aY))) (aj 5))) (eG (dC (.bool false))) (dZ)))))) [some (.d (.list (hs.map .int))),some (.d (.list (gs.map wiD))),some (.d (.list (ps.map .int))),some (.d (.int (i:Int))),y4,y5,y6,y7,B] =
 if roB hs (gat gs i) (ps.getD i 0)=true then some (.nx [some (.d (.list (hs.map .int))),some (.d (.list (gs.map wiD))),some (.d (.list (ps.map .int))),some (.d (.int (i:Int))),z4,O,J,D,B])else some (.rt (.bool false)):=by
 have X:=jH wiD (l:=gs) (0,0,0) (i:=(i:Int)) (by omega) (by omega)
 have W:=jH PyData.int (l:=ps) 0 (i:=(i:Int)) (by omega) (by omega)
 rw[dG]at X W
 have X:pAt (gs.map wiD) (i:Int)=some (.tuple [.int (gat gs i).1,.int (gat gs i).2.1,.int (gat gs i).2.2]):=X
 have T:=vW h hi
 have V:Com.dg [.int (ps.getD i 0)]=some (.bool true):=rfl
 refine⟨some (.d (.int (ps.getD i 0))),some (.d (.int (gat gs i).1)),some (.d (.int (gat gs i).2.1)),some (.d (.int (gat gs i).2.2)),?_⟩
 by_cases Z:0<=ps.getD i 0
 ·by_cases Y:ps.getD i 0<=(hs.length:Int)-(gat gs i).2.2
  ·have r:roB hs (gat gs i) (ps.getD i 0)=decide (mx (sli hs (ps.getD i 0) (gat gs i).2.2)<=(gat gs i).1):=by unfold roB;rw[dTr Z,dTr Y];rfl
   rw[r]
   by_cases S:mx (sli hs (ps.getD i 0) (gat gs i).2.2)<=(gat gs i).1
   ·rw[dTr S,if_pos rfl]
    simp only[EV,reduceIte,aA,aD,ak,ao,aF,aG,aH,X,W,V,lMp,dTr Z,dTr Y,vV Z Y T.s,Bg (yd Z Y T.s),dFa (show ¬mx (sli hs (ps.getD i 0) (gat gs i).2.2)>(gat gs i).1 by omega)]
   ·rw[dFa S,if_neg (by decide)]
    simp only[EV,reduceIte,aA,aD,ak,ao,aF,aG,aH,X,W,V,lMp,dTr Z,dTr Y,vV Z Y T.s,Bg (yd Z Y T.s),dTr (show mx (sli hs (ps.getD i 0) (gat gs i).2.2)>(gat gs i).1 by omega)]
  ·have r:roB hs (gat gs i) (ps.getD i 0)=false:=by unfold roB;rw[dTr Z,dFa Y];rfl
   rw[r,if_neg (by decide)]
   simp only[EV,reduceIte,aA,aD,ak,ao,aF,aG,aH,X,W,V,lMp,dTr Z,dFa Y]
 ·have r:roB hs (gat gs i) (ps.getD i 0)=false:=by unfold roB;rw[dFa Z];rfl
  rw[r,if_neg (by decide)]
  simp only[EV,reduceIte,aA,aD,ak,ao,aF,aG,aH,X,W,V,lMp,dFa Z]
theorem Bh(h:∀g∈gs,grOk g)(pl:ps.length=gs.length){i j:Nat}(hi:i<gs.length)(hj:j<i)(O J D B:Option U):(sIf (D3.jk (bO (dCall dh (aq (dOp gIx (aj 1) (aj 8)) (aq (dOp gIx (aj 2) (aj 8)) (aq (dOp gIx (aj 1) (aj 3)) (aq (dOp gIx (aj 2) (aj 3)) (aY)))))))) (eG (dC (.bool false))) (dZ)) [some (.d (.list (hs.map .int))),some (.d (.list (gs.map wiD))),some (.d (.list (ps.map .int))),some (.d (.int (i:Int))),O,J,D,B,some (.d (.int (j:Int)))] =
 if(meB (gat gs i) (gat gs j)&&coB (gat gs i) (ps.getD i 0) (gat gs j) (ps.getD j 0))=false then some (.nx [some (.d (.list (hs.map .int))),some (.d (.list (gs.map wiD))),some (.d (.list (ps.map .int))),some (.d (.int (i:Int))),O,J,D,B,some (.d (.int (j:Int)))])else some (.rt (.bool false)):=by
 have Y:=jH wiD (l:=gs) (0,0,0) (i:=(i:Int)) (by omega) (by omega)
 have Z:=jH wiD (l:=gs) (0,0,0) (i:=(j:Int)) (by omega) (by omega)
 have W:=jH PyData.int (l:=ps) 0 (i:=(i:Int)) (by omega) (by omega)
 have X:=jH PyData.int (l:=ps) 0 (i:=(j:Int)) (by omega) (by omega)
 rw[dG]at Y Z W X
 have Y:pAt (gs.map wiD) (i:Int)=some (wiD (gat gs i)):=Y
 have Z:pAt (gs.map wiD) (j:Int)=some (wiD (gat gs j)):=Z
 have A:=JK (gat gs j) (gat gs i) (ps.getD j 0) (ps.getD i 0)
 rw[rB (vW h hi) (vW h (show j<gs.length by omega))]at A
 cases m:meB (gat gs i) (gat gs j)&&coB (gat gs i) (ps.getD i 0) (gat gs j) (ps.getD j 0)with
 |false=>
  rw[m]at A
  rw[if_pos rfl]
  simp only[EV,reduceIte,aA,aD,ak,ao,aF,aG,aH,Y,Z,W,X,A,Bool.not_false]
 |true=>
  rw[m]at A
  rw[if_neg (by decide)]
  simp only[EV,reduceIte,aA,aD,ak,ao,aF,aG,aH,Y,Z,W,X,A,fM]
theorem V8(h:∀g∈gs,grOk g)(pl:ps.length=gs.length){i:Nat}(hi:i<gs.length)(W O J D B:Option U):(∃Y,beB gs ps i=true/\jc (gNl 8) (sIf (D3.jk (bO (dCall dh (aq (dOp gIx (aj 1) (aj 8)) (aq (dOp gIx (aj 2) (aj 8)) (aq (dOp gIx (aj 1) (aj 3)) (aq (dOp gIx (aj 2) (aj 3)) (aY)))))))) (eG (dC (.bool false))) (dZ)) (d8 0 (i:Int)) [some (.d (.list (hs.map .int))),some (.d (.list (gs.map wiD))),some (.d (.list (ps.map .int))),some (.d (.int (i:Int))),W,O,J,D,B]=some (.nx [some (.d (.list (hs.map .int))),some (.d (.list (gs.map wiD))),some (.d (.list (ps.map .int))),some (.d (.int (i:Int))),W,O,J,D,Y]))\/(beB gs ps i=false/\jc (gNl 8) (sIf (D3.jk (bO (dCall dh (aq (dOp gIx (aj 1) (aj 8)) (aq (dOp gIx (aj 2) (aj 8)) (aq (dOp gIx (aj 1) (aj 3)) (aq (dOp gIx (aj 2) (aj 3)) (aY)))))))) (eG (dC (.bool false))) (dZ)) (d8 0 (i:Int)) [some (.d (.list (hs.map .int))),some (.d (.list (gs.map wiD))),some (.d (.list (ps.map .int))),some (.d (.int (i:Int))),W,O,J,D,B]=some (.rt (.bool false))):=by
 have S:(d8 0 (i:Int)).length=i:=by unfold d8;rw[aB,cC];omega
 rcases um (λj=>meB (gat gs i) (gat gs j)&&coB (gat gs i) (ps.getD i 0) (gat gs j) (ps.getD j 0)) i with⟨m,hm,X,hn⟩|hn
 ·right
  constructor
  ·cases q:beB gs ps i with
   |false=>rfl
   |true=>
    have:=dD.mp q m (bH.mpr hm)
    rw[X]at this
    cases this
  ·exact xW (λ_ δ=>∃B:Option U,δ=[some (.d (.list (hs.map .int))),some (.d (.list (gs.map wiD))),some (.d (.list (ps.map .int))),some (.d (.int (i:Int))),W,O,J,D,B]) m (d8 0 (i:Int)) _ ⟨B,rfl⟩ (by rw[S];exact hm)
    (by
     rintro j d δ Z hd ⟨B,rfl⟩
     obtain⟨V,rfl⟩:=iY hd
     refine⟨_,_,rfl,?_,some (.d (.int (j:Int))),rfl⟩
     refine(Bh h pl hi (by omega) W O J D).trans ?_
     rw[if_pos (hn j Z)])
    (by
     rintro d δ hd ⟨B,rfl⟩
     obtain⟨V,rfl⟩:=iY hd
     refine⟨_,rfl,?_⟩
     refine(Bh h pl hi hm W O J D).trans ?_
     rw[if_neg (by simpa using X)])
 ·left
  obtain⟨T,e,Y,rfl⟩:=jO (g:=gNl 8) (b:=(sIf (D3.jk (bO (dCall dh (aq (dOp gIx (aj 1) (aj 8)) (aq (dOp gIx (aj 2) (aj 8)) (aq (dOp gIx (aj 1) (aj 3)) (aq (dOp gIx (aj 2) (aj 3)) (aY)))))))) (eG (dC (.bool false))) (dZ))) (λ_ δ=>∃B:Option U,δ=[some (.d (.list (hs.map .int))),some (.d (.list (gs.map wiD))),some (.d (.list (ps.map .int))),some (.d (.int (i:Int))),W,O,J,D,B]) (d8 0 (i:Int)) _ ⟨B,rfl⟩
   (by
    rintro j d δ hd ⟨B,rfl⟩
    obtain⟨V,rfl⟩:=iY hd
    refine⟨_,_,rfl,.inl ?_,some (.d (.int (j:Int))),rfl⟩
    refine(Bh h pl hi (by omega) W O J D).trans ?_
    rw[if_pos (hn j (by omega))])
  refine⟨Y,?_,e⟩
  unfold beB
  rw[dD]
  intro j Z
  have:=hn j (bH.mp Z)
  rw[this]
  rfl
theorem uN:laB hs gs ps=true<->ps.length=gs.length/\(∀i,i<gs.length->roB hs (gat gs i) (ps.getD i 0)=true)/\∀i,i<gs.length->beB gs ps i=true:=by
 unfold laB YF
 rw[aU,decide_eq_true_eq,dD]
 constructor
 ·rintro⟨h1,h2⟩
  refine⟨h1,λi hi=>?_,λi hi=>?_⟩
  ·exact(gZ.mp (h2 i (bH.mpr hi))).1
  ·exact(gZ.mp (h2 i (bH.mpr hi))).2
 ·rintro⟨h1,h2,Z⟩
  exact⟨h1,λi hi=>gZ.mpr ⟨h2 i (bH.mp hi),Z i (bH.mp hi)⟩⟩
theorem yh(h:¬(ps.length=gs.length/\(∀i,i<gs.length->roB hs (gat gs i) (ps.getD i 0)=true)/\∀i,i<gs.length->beB gs ps i=true)):laB hs gs ps=false:=by
 cases q:laB hs gs ps with
 |false=>rfl
 |true=>exact absurd (uN.mp q) h
theorem Nr(h:∀g∈gs,grOk g)(hl:gs.length<=1000):Com.iH [.list (hs.map .int),.list (gs.map wiD),.list (ps.map .int)]=some (.bool (laB hs gs ps)):=by
 have I:D3.isT "list" (tyD (.list (ps.map .int)))=true:=rfl
 have H:qu (some [.int (gs.length:Int)])=some (d8 0 (gs.length:Int)):=Ba (by omega) (by omega)
 have E:(d8 0 (gs.length:Int)).length=gs.length:=by unfold d8;rw[aB,cC];omega
 unfold Com.iH
 by_cases pl:ps.length=gs.length
 case neg=>
  rw[yh (λz=>pl z.1)]
  have ne:gNe (.int (ps.length:Int)) (.int (gs.length:Int))=some (.bool true):=by
   show some (PyData.bool (!PyData.eqv (.int (ps.length:Int)) (.int (gs.length:Int))))=_
   simp[PyData.eqv]
   omega
  simp only[EV,reduceIte,aA,aD,ak,ao,aF,aG,aH,I,fM,lMp,ne]
 have ne:gNe (.int (ps.length:Int)) (.int (gs.length:Int))=some (.bool false):=by
  rw[pl]
  show some (PyData.bool (!PyData.eqv (.int (gs.length:Int)) (.int (gs.length:Int))))=_
  simp[PyData.eqv]
 rcases um (λi=>!roB hs (gat gs i) (ps.getD i 0)) gs.length with⟨m,hm,P,hn⟩|hn
 ·rw[yh (λz=>by have:=z.2.1 m hm;rw[this]at P;cases P)]
  have e:=xW (g:=(gNl 3)) (b:=(bY (bV 4 (dOp gIx (aj 2) (aj 3))) (bY (Ce (dOp gIx (aj 1) (aj 3)) (gTn 3 (dw (gNl 5) (dw (gNl 6) (dw (gNl 7) (lF)))))) (bY (sIf (D3.tOr (D3.jk (bO (dCall dg (aq (aj 4) (aY))))) (D3.jk (bO (eX gLe gLe (dC (.int 0)) (aj 4) (dOp pY (dCall jd (aq (aj 0) (aY))) (aj 7)))))) (eG (dC (.bool false))) (dZ)) (sIf (bO (dOp gGt (dCall pN (aq (dSl (aj 0) (gj (aj 4)) (gj (dOp cX (aj 4) (aj 7)))) (aY))) (aj 5))) (eG (dC (.bool false))) (dZ)))))) (λ_ δ=>∃T V W X Y,δ=[some (.d (.list (hs.map .int))),some (.d (.list (gs.map wiD))),some (.d (.list (ps.map .int))),T,V,W,X,Y,none]) (v:=.bool false) m (d8 0 (gs.length:Int)) [some (.d (.list (hs.map .int))),some (.d (.list (gs.map wiD))),some (.d (.list (ps.map .int))),none,none,none,none,none,none] ⟨none,none,none,none,none,rfl⟩ (by rw[E];exact hm)
   (by
    rintro j d δ N hd ⟨T,V,W,X,Y,rfl⟩
    obtain⟨O,rfl⟩:=iY hd
    obtain⟨J,K,L,M,Z⟩:=yg (hs:=hs) h pl (show j<gs.length by omega) V W X Y none
    rw[if_pos (by simpa using hn j N)]at Z
    exact⟨_,_,rfl,Z,some (.d (.int (j:Int))),J,K,L,M,rfl⟩)
   (by
    rintro d δ hd ⟨T,V,W,X,Y,rfl⟩
    obtain⟨O,rfl⟩:=iY hd
    obtain⟨J,K,L,M,Z⟩:=yg (hs:=hs) h pl hm V W X Y none
    rw[if_neg (by simpa using P)]at Z
    exact⟨_,rfl,Z⟩)
  simp only[EV,reduceIte,aA,aD,ak,ao,aF,aG,aH,I,fM,lMp,ne,H,e]
 ·obtain⟨B,e,T,V,W,X,Y,rfl⟩:=jO (g:=(gNl 3)) (b:=(bY (bV 4 (dOp gIx (aj 2) (aj 3))) (bY (Ce (dOp gIx (aj 1) (aj 3)) (gTn 3 (dw (gNl 5) (dw (gNl 6) (dw (gNl 7) (lF)))))) (bY (sIf (D3.tOr (D3.jk (bO (dCall dg (aq (aj 4) (aY))))) (D3.jk (bO (eX gLe gLe (dC (.int 0)) (aj 4) (dOp pY (dCall jd (aq (aj 0) (aY))) (aj 7)))))) (eG (dC (.bool false))) (dZ)) (sIf (bO (dOp gGt (dCall pN (aq (dSl (aj 0) (gj (aj 4)) (gj (dOp cX (aj 4) (aj 7)))) (aY))) (aj 5))) (eG (dC (.bool false))) (dZ)))))) (λ_ δ=>∃T V W X Y,δ=[some (.d (.list (hs.map .int))),some (.d (.list (gs.map wiD))),some (.d (.list (ps.map .int))),T,V,W,X,Y,none]) (d8 0 (gs.length:Int)) [some (.d (.list (hs.map .int))),some (.d (.list (gs.map wiD))),some (.d (.list (ps.map .int))),none,none,none,none,none,none] ⟨none,none,none,none,none,rfl⟩
   (by
    rintro j d δ hd ⟨T,V,W,X,Y,rfl⟩
    obtain⟨O,rfl⟩:=iY hd
    obtain⟨J,K,L,M,Z⟩:=yg (hs:=hs) h pl (show j<gs.length by omega) V W X Y none
    rw[if_pos (by simpa using hn j (by omega))]at Z
    exact⟨_,_,rfl,.inl Z,some (.d (.int (j:Int))),J,K,L,M,rfl⟩)
  have F:∀(j:Nat)(S:Option U),j<gs.length->(∃R,beB gs ps j=true/\((k_ (lu (aq (aj 3) (aY))) (gNl 8) (sIf (D3.jk (bO (dCall dh (aq (dOp gIx (aj 1) (aj 8)) (aq (dOp gIx (aj 2) (aj 8)) (aq (dOp gIx (aj 1) (aj 3)) (aq (dOp gIx (aj 2) (aj 3)) (aY)))))))) (eG (dC (.bool false))) (dZ)))) [some (.d (.list (hs.map .int))),some (.d (.list (gs.map wiD))),some (.d (.list (ps.map .int))),some (.d (.int (j:Int))),V,W,X,Y,S]=some (.nx [some (.d (.list (hs.map .int))),some (.d (.list (gs.map wiD))),some (.d (.list (ps.map .int))),some (.d (.int (j:Int))),V,W,X,Y,R]))\/(beB gs ps j=false/\((k_ (lu (aq (aj 3) (aY))) (gNl 8) (sIf (D3.jk (bO (dCall dh (aq (dOp gIx (aj 1) (aj 8)) (aq (dOp gIx (aj 2) (aj 8)) (aq (dOp gIx (aj 1) (aj 3)) (aq (dOp gIx (aj 2) (aj 3)) (aY)))))))) (eG (dC (.bool false))) (dZ)))) [some (.d (.list (hs.map .int))),some (.d (.list (gs.map wiD))),some (.d (.list (ps.map .int))),some (.d (.int (j:Int))),V,W,X,Y,S]=some (.rt (.bool false))):=λj S N=>by
   have D:qu (some [.int (j:Int)])=some (d8 0 (j:Int)):=Ba (by omega) (by omega)
   rcases V8 (hs:=hs) h pl N V W X Y S with⟨R,b,Z⟩|⟨b,Z⟩
   ·refine .inl ⟨R,b,?_⟩
    simp only[EV,reduceIte,aA,aD,ak,ao,aF,aG,aH,D,Z]
   ·refine .inr ⟨b,?_⟩
    simp only[EV,reduceIte,aA,aD,ak,ao,aF,aG,aH,D,Z]
  rcases um (λi=>!beB gs ps i) gs.length with⟨m,hm,P,Q⟩|Q
  ·rw[yh (λz=>by have:=z.2.2 m hm;rw[this]at P;cases P)]
   have G:=xW (g:=(gNl 3)) (b:=(k_ (lu (aq (aj 3) (aY))) (gNl 8) (sIf (D3.jk (bO (dCall dh (aq (dOp gIx (aj 1) (aj 8)) (aq (dOp gIx (aj 2) (aj 8)) (aq (dOp gIx (aj 1) (aj 3)) (aq (dOp gIx (aj 2) (aj 3)) (aY)))))))) (eG (dC (.bool false))) (dZ)))) (λ_ δ=>∃T S,δ=[some (.d (.list (hs.map .int))),some (.d (.list (gs.map wiD))),some (.d (.list (ps.map .int))),T,V,W,X,Y,S]) (v:=.bool false) m (d8 0 (gs.length:Int)) [some (.d (.list (hs.map .int))),some (.d (.list (gs.map wiD))),some (.d (.list (ps.map .int))),T,V,W,X,Y,none] ⟨T,none,rfl⟩ (by rw[E];exact hm)
    (by
     rintro j d δ N hd ⟨T,S,rfl⟩
     obtain⟨O,rfl⟩:=iY hd
     rcases F j S (by omega)with⟨R,b,Z⟩|⟨b,Z⟩
     ·exact⟨_,_,rfl,Z,some (.d (.int (j:Int))),R,rfl⟩
     ·have:=Q j N;rw[b]at this;cases this)
    (by
     rintro d δ hd ⟨T,S,rfl⟩
     obtain⟨O,rfl⟩:=iY hd
     rcases F m S hm with⟨R,b,Z⟩|⟨b,Z⟩
     ·rw[b]at P;cases P
     ·exact⟨_,rfl,Z⟩)
   simp only[EV,reduceIte,aA,aD,ak,ao,aF,aG,aH,I,fM,lMp,ne,H,e,G]
  ·rw[uN.mpr ⟨pl,λi hi=>by simpa using hn i hi,λi hi=>by simpa using Q i hi⟩]
   obtain⟨C,G,A,R,rfl⟩:=jO (g:=(gNl 3)) (b:=(k_ (lu (aq (aj 3) (aY))) (gNl 8) (sIf (D3.jk (bO (dCall dh (aq (dOp gIx (aj 1) (aj 8)) (aq (dOp gIx (aj 2) (aj 8)) (aq (dOp gIx (aj 1) (aj 3)) (aq (dOp gIx (aj 2) (aj 3)) (aY)))))))) (eG (dC (.bool false))) (dZ)))) (λ_ δ=>∃T S,δ=[some (.d (.list (hs.map .int))),some (.d (.list (gs.map wiD))),some (.d (.list (ps.map .int))),T,V,W,X,Y,S]) (d8 0 (gs.length:Int)) [some (.d (.list (hs.map .int))),some (.d (.list (gs.map wiD))),some (.d (.list (ps.map .int))),T,V,W,X,Y,none] ⟨T,none,rfl⟩
    (by
     rintro j d δ hd ⟨T,S,rfl⟩
     obtain⟨O,rfl⟩:=iY hd
     rcases F j S (by omega)with⟨R,b,Z⟩|⟨b,Z⟩
     ·exact⟨_,_,rfl,.inl Z,some (.d (.int (j:Int))),R,rfl⟩
     ·have:=Q j (by omega);rw[b]at this;cases this)
   simp only[EV,reduceIte,aA,aD,ak,ao,aF,aG,aH,I,fM,lMp,ne,H,e,G]
end
noncomputable def gp(g:Wi):Sd.Gp:=(g.1,g.2.1,g.2.2.toNat)
theorem Nt{l:List Int}(h:l≠[]):CT [.tuple (l.map .int)]=some (.int (mx l)):=by
 cases l with
 |nil=>exact absurd rfl h
 |cons x r=>
  show(match dX ((x::r).map .int)with|some (i::r)=>some (PyData.int (mxI i r))|_=>none)=_
  rw[rm]
  rfl
noncomputable def stN(row:List Int)(g:Wi):List Nat:=(bC ((row.length:Int)-g.2.2+1).toNat).filter λs=>decide (mx (sli row (s:Int) g.2.2)<=g.1)
theorem Ry{f:FE}{fl:FO}{lo hi:Option Int}(h:f δ=some (.tuple l))(h1:fl δ=some lo)(h2:fh δ=some hi)(B:flats l=true):Jg f fl fh δ=some (.tuple (cutD l lo hi)):=by
 unfold Jg
 rw[h,aM,h1,aM,h2,aM]
 dsimp only
 rw[if_pos B]
theorem FW(B:1<=g.2.2)(D:g.2.2<=6)(J:row.length<=1000):iI [rwD row,wiD g]=some (.list ((stN row g).map λs:Nat=>PyData.int (s:Int))):=by
 have V:gIx (wiD g) (.int 0)=some (.int g.1):=rfl
 have i2:gIx (wiD g) (.int 2)=some (.int g.2.2):=rfl
 have C:=YC (g:=(gNl 0)) (c:=(bO (dOp gLe (dCall CT (aq (Jg (aj 2) (gj (aj 0)) (gj (dOp cX (aj 0) (dOp gIx (aj 1) (dC (.int 2)))))) (aY))) (dOp gIx (aj 1) (dC (.int 0)))))) (e:=(oH (aj 0))) (δ:=[none,some (.d (wiD g)),some (.d (rwD row))]) (λs:Nat=>PyData.int (s:Int)) (λs=>decide (mx (sli row (s:Int) g.2.2)<=g.1)) (λs:Nat=>PyData.int (s:Int)) (bC ((row.length:Int)-g.2.2+1).toNat) (λs hs=>by
  have hs:=bH.mp hs
  have Y:(s:Int)<=(row.length:Int)-g.2.2:=by omega
  refine⟨[some (.d (.int (s:Int))),some (.d (wiD g)),some (.d (rwD row))],rfl,?_,λ_=>rfl⟩
  have sl:Jg (aj 2) (gj (aj 0)) (gj (dOp cX (aj 0) (dOp gIx (aj 1) (dC (.int 2))))) [some (.d (.int (s:Int))),some (.d (wiD g)),some (.d (rwD row))]=some (.tuple ((sli row (s:Int) g.2.2).map .int)):=by
   rw[Ry (l:=row.map .int) (lo:=some (s:Int)) (hi:=some ((s:Int)+g.2.2)) rfl rfl rfl (jX _),vV (by omega) Y B]
  simp only[EV,reduceIte,aA,aD,ak,ao,aF,aG,aH,sl,Nt (yd (by omega) Y B),V])
 have T:∀a b c:Option U,pU 1 [1,0] [a,b,c]=[none,b,a]:=λ_ _ _=>rfl
 have Z:∀k:Int,-(2^62)<=k->k<2^62->qu (some [.int k])=some ((bC k.toNat).map λs:Nat=>PyData.int (s:Int)):=λk h1 h2=>by
  rw[Ba h1 h2]
  unfold d8
  rw[tG]
  congr 1
  exact jD λs _=>by rw[mG]
 have X:jd [rwD row]=some (.int (row.length:Int)):=by
  show some (PyData.int ((row.map PyData.int).length:Int))=_
  rw[aB]
 have Z:=Z ((row.length:Int)-g.2.2+1) (by omega) (by omega)
 have W:((bC ((row.length:Int)-g.2.2+1).toNat).map λs:Nat=>PyData.int (s:Int)).length<=100000:=by
  rw[aB,cC]
  omega
 unfold iI
 simp only[EV,reduceIte,aA,aD,ak,ao,aF,aG,aH,X,i2,T,Z,C,W]
 rfl
noncomputable def nbI(g:Wi)(e:Int)(b:Bool):Int:=if b=true then g.2.1 else if e<=g.1 then 0 else e
theorem zM(g:Wi)(e:Int)(b:Bool):fD [.int e,wiD g,.bool b]=some (.int (nbI g e b)):=by
 have Z:gIx (wiD g) (.int 0)=some (.int g.1):=rfl
 have i1:gIx (wiD g) (.int 1)=some (.int g.2.1):=rfl
 show Com.fD _=_
 unfold Com.fD nbI
 cases b with
 |true=>
  simp only[EV,reduceIte,aA,aD,ak,ao,aF,aG,aH,i1]
 |false=>
  by_cases c:e<=g.1
  ·simp only[EV,reduceIte,aA,aD,ak,ao,aF,aG,aH,Z,dTr c]
   rw[if_neg (by decide),if_pos c]
  ·simp only[EV,reduceIte,aA,aD,ak,ao,aF,aG,aH,Z,dFa c]
   rw[if_neg (by decide),if_neg c]
theorem FZ{s:Nat}(J:1<=g.2.2)(B:g.2.2<=6)(D:row.length<=1000):fO [rwD row,wiD g,.int (s:Int)]=some (rwD (Sd.put row (gp g) s)):=by
 have i2:gIx (wiD g) (.int 2)=some (.int g.2.2):=rfl
 have V:lG (row.map .int)=(bC row.length).map λk:Nat=>PyData.tuple [.int (k:Int),.int (row.getD k 0)]:=JF row
 have fe:Fq (aj 0) [some (.d (rwD row)),some (.d (wiD g)),some (.d (.int (s:Int))),some (.d (.int ((s:Int)+g.2.2)))]=some ((bC row.length).map λk:Nat=>PyData.tuple [.int (k:Int),.int (row.getD k 0)]):=by
  rw[<-V]
  rfl
 have C:=Ru (g:=(gTn 2 (dw (gNl 0) (dw (gNl 1) (lF))))) (c:=(D3.sG)) (e:=(dCall fD (aq (aj 1) (aq (aj 2) (aq (eX gLe gLt (aj 3) (aj 0) (aj 4)) (aY)))))) (δ:=[none,none,some (.d (wiD g)),some (.d (.int (s:Int))),some (.d (.int ((s:Int)+g.2.2)))]) (λk:Nat=>PyData.tuple [.int (k:Int),.int (row.getD k 0)]) (λk:Nat=>PyData.int (Sd.cell (gp g) s k (row.getD k 0))) (bC row.length) (λk S=>by
  refine⟨[some (.d (.int (k:Int))),some (.d (.int (row.getD k 0))),some (.d (wiD g)),some (.d (.int (s:Int))),some (.d (.int ((s:Int)+g.2.2)))],rfl,rfl,?_⟩
  have cl:∀b:Bool,(b=true<->s<=k/\k<s+g.2.2.toNat)->nbI g (row.getD k 0) b=Sd.cell (gp g) s k (row.getD k 0):=λb Z=>by
   unfold nbI Sd.cell gp
   dsimp only
   by_cases c:s<=k/\k<s+g.2.2.toNat
   ·rw[if_pos (Z.mpr c),if_pos c]
   ·rw[if_neg (λz=>c (Z.mp z)),if_neg c]
  by_cases Y:(s:Int)<=(k:Int)
  ·rw[<-cl (decide ((k:Int)<(s:Int)+g.2.2)) (by rw[decide_eq_true_iff];omega)]
   simp only[EV,reduceIte,aA,aD,ak,ao,aF,aG,aH,dTr Y,zM]
  ·rw[<-cl false (by constructor<;>intro z;cases z;omega)]
   simp only[EV,reduceIte,aA,aD,ak,ao,aF,aG,aH,dFa Y,zM])
 have T:∀a b c d:Option U,pU 2 [1,2,3] [a,b,c,d]=[none,none,b,c,d]:=λ_ _ _ _=>rfl
 have X:Sd.put row (gp g) s=(bC row.length).map λk=>Sd.cell (gp g) s k (row.getD k 0):=by
  unfold Sd.put
  apply ou
  ·simp
  ·intro k h1 h2
   have h1:k<row.length:=by simpa using h1
   rw[List.getElem_mapIdx,gO,jT,aK,au h1]
   rfl
 have W:((bC row.length).map λk:Nat=>PyData.tuple [.int (k:Int),.int (row.getD k 0)]).length<=100000:=by
  rw[aB,cC];omega
 unfold fO
 simp only[EV,reduceIte,aA,aD,ak,ao,aF,aG,aH,i2,fe,T,C,W,K4]
 rw[X]
 unfold rwD
 rw[eO]
 rfl
noncomputable def yH(g:Wi)(row:List Int)(S:List Tte)(ss:List Nat):List Tte:=ss.foldl (λS s=>pG S (Sd.put row (gp g) s) (row,(s:Int))) S
noncomputable def lD(g:Wi)(rows:List (List Int))(S:List Tte):List Tte:=rows.foldl (λS row=>yH g row S (stN row g)) S
theorem Dy(S:List Tte)(k:List Int)(v:List Int×Int):(pG S k v).length<=S.length+1:=by
 unfold pG
 split<;>simp
theorem DK(g:Wi)(row:List Int):∀(ss:List Nat)(S:List Tte),(yH g row S ss).length<=S.length+ss.length
 |[],S=>aL _
 |s::ss,S=>by
  have h1:=DK g row ss (pG S (Sd.put row (gp g) s) (row,(s:Int)))
  have h2:=Dy S (Sd.put row (gp g) s) (row,(s:Int))
  show(yH g row (pG S (Sd.put row (gp g) s) (row,(s:Int))) ss).length<=_
  rw[bF]
  omega
theorem Rz(row:List Int)(g:Wi)(B:1<=g.2.2):(stN row g).length<=row.length:=by
 unfold stN
 refine bL (pQ _ _) ?_
 rw[cC]
 omega
theorem uO{g:FG}{b:FS}{r:List D}{B J:DS}(h1:g d δ=some B)(h2:b B=some (.nx J)):jc g b (d::r) δ=jc g b r J:=by
 rw[jc,h1,aM,h2]
 rfl
theorem Ht(k:List Int):CP (rwD k)=some k:=nF k
theorem RB(v:List Int×Int):Jf (ttV v)=some v:=by
 show(dX (v.1.map PyData.int)).map (·,v.2)=_
 rw[nF]
 rfl
theorem RD{fk fv:FE}{k:List Int}{v:List Int×Int}(D:aj i δ=some (dtt S))(h1:fk δ=some (rwD k))(h2:fv δ=some (ttV v))(B:S.length<1000000):qm i fk fv δ=some (.nx (δ.set i (some (.d (dtt (pG S k v)))))):=by
 unfold qm
 rw[D,aM,h1,aM,h2,aM,CQ,aM,Ht,aM,RB,aM,if_pos B]
theorem yj(O:1<=g.2.2)(B:g.2.2<=6)(J:row.length<=1000)(a:Option U):∀(ss:List Nat)(S:List Tte)(u:Option U),S.length+ss.length<1000000 ->
 ∃D,jc (gNl 4) (qm 2 (dCall fO (aq (aj 3) (aq (aj 1) (aq (aj 4) (aY))))) (dTup (aq (aj 3) (aq (aj 4) (aY))))) (ss.map λs:Nat=>PyData.int (s:Int)) [a,some (.d (wiD g)),some (.d (dtt S)),some (.d (rwD row)),u]=some (.nx [a,some (.d (wiD g)),some (.d (dtt (yH g row S ss))),some (.d (rwD row)),D])
 |[],S,u,_=>⟨u,rfl⟩
 |s::ss,S,u,Z=>by
  rw[bF]at Z
  have b:=FZ (row:=row) (g:=g) (s:=s) O B J
  have h1:(dCall fO (aq (aj 3) (aq (aj 1) (aq (aj 4) (aY))))) [a,some (.d (wiD g)),some (.d (dtt S)),some (.d (rwD row)),some (.d (.int (s:Int)))]=some (rwD (Sd.put row (gp g) s)):=by
   simp only[EV,reduceIte,aA,aD,ak,ao,aF,aG,aH,b]
  have h2:(dTup (aq (aj 3) (aq (aj 4) (aY)))) [a,some (.d (wiD g)),some (.d (dtt S)),some (.d (rwD row)),some (.d (.int (s:Int)))]=some (ttV (row,(s:Int))):=by
   simp only[EV,reduceIte,aA,aD,ak,ao,aF,aG,aH,Com.sz (show 2<=1000000 by decide)]
   rfl
  have st:=RD (i:=2) (S:=S) rfl h1 h2 (by omega)
  have dl:=Dy S (Sd.put row (gp g) s) (row,(s:Int))
  obtain⟨D,e⟩:=yj O B J a ss (pG S (Sd.put row (gp g) s) (row,(s:Int))) (some (.d (.int (s:Int)))) (by omega)
  exact⟨D,(uO rfl st).trans e⟩
theorem yp(J:1<=g.2.2)(B:g.2.2<=6)(a:Option U):∀(rows:List (List Int))(S:List Tte)(u v:Option U),(∀r∈rows,r.length<=100)->S.length+100*rows.length<1000000 ->
 ∃D O,jc (gNl 3) (k_ (uD (dCall iI (aq (aj 3) (aq (aj 1) (aY))))) (gNl 4) (qm 2 (dCall fO (aq (aj 3) (aq (aj 1) (aq (aj 4) (aY))))) (dTup (aq (aj 3) (aq (aj 4) (aY)))))) (rows.map rwD) [a,some (.d (wiD g)),some (.d (dtt S)),u,v]=some (.nx [a,some (.d (wiD g)),some (.d (dtt (lD g rows S))),D,O])
 |[],S,u,v,_,_=>⟨u,v,rfl⟩
 |row::rows,S,u,v,Z,W=>by
  rw[bF]at W
  have R:=Z row aC
  have st:=FW (row:=row) (g:=g) J B (by omega)
  have sl:=Rz row g J
  obtain⟨D,e⟩:=yj (g:=g) (row:=row) J B (by omega) a (stN row g) S v (by omega)
  have P:=DK g row (stN row g) S
  have Q:((stN row g).map λs:Nat=>PyData.int (s:Int)).length<=100000:=by rw[aB];omega
  have T:(k_ (uD (dCall iI (aq (aj 3) (aq (aj 1) (aY))))) (gNl 4) (qm 2 (dCall fO (aq (aj 3) (aq (aj 1) (aq (aj 4) (aY))))) (dTup (aq (aj 3) (aq (aj 4) (aY)))))) [a,some (.d (wiD g)),some (.d (dtt S)),some (.d (rwD row)),v]=some (.nx [a,some (.d (wiD g)),some (.d (dtt (yH g row S (stN row g)))),some (.d (rwD row)),D]):=by
   simp only[EV,reduceIte,aA,aD,ak,ao,aF,aG,aH,st]
   exact e
  obtain⟨X,Y,V⟩:=yp J B a rows (yH g row S (stN row g)) (some (.d (rwD row))) D (λr h=>Z r (aJ _ h)) (by omega)
  exact⟨X,Y,(uO rfl T).trans V⟩
theorem Nu{rows:List (List Int)}(J:1<=g.2.2)(B:g.2.2<=6)(D:∀r∈rows,r.length<=100)(O:rows.length<=1000):eH [.list (rows.map rwD),wiD g]=some (dtt (lD g rows [])):=by
 obtain⟨u,v,e⟩:=yp (g:=g) J B (some (.d (.list (rows.map rwD)))) rows [] none none D (by simp;omega)
 have e:jc (gNl 3) (k_ (uD (dCall iI (aq (aj 3) (aq (aj 1) (aY))))) (gNl 4) (qm 2 (dCall fO (aq (aj 3) (aq (aj 1) (aq (aj 4) (aY))))) (dTup (aq (aj 3) (aq (aj 4) (aY)))))) (rows.map rwD) [some (.d (.list (rows.map rwD))),some (.d (wiD g)),some (.d (.dict [])),none,none]=some (.nx [some (.d (.list (rows.map rwD))),some (.d (wiD g)),some (.d (dtt (lD g rows []))),u,v]):=e
 have Z:(rows.map rwD).length<=100000:=by rw[aB];omega
 unfold eH
 simp only[EV,reduceIte,aA,aD,ak,ao,aF,aG,aH]
 rw[e]
 simp only[EV,reduceIte,aA,aD,ak,ao,aF,aG,aH]
noncomputable def dF(S:List Tte):List (List Int):=S.map (·.1)
noncomputable def lv:List (List Int)->List Wi->List (List Tte)
 |_,[]=>[]
 |rows,g::gs=>lD g rows []::if lD g rows []=[]then []else lv (XJ.kj (dF (lD g rows []))) gs
theorem sZ(rows:List (List Int)):lv rows []=[]:=by unfold lv;rfl
theorem rC(rows:List (List Int))(g:Wi)(gs:List Wi):lv rows (g::gs)=lD g rows []::if lD g rows []=[]then []else lv (XJ.kj (dF (lD g rows []))) gs:=by conv=>lhs;unfold lv
noncomputable def Few(L:List (List Tte)):Prop:=∀S∈L,S.length<=400/\∀k∈dF S,k≠[]/\k.length<=100
theorem DN(S:List Tte):vd (dtt S)=some (dF S):=by
 show(match xq (ttP S)with|some Z=>some (tK (λq:Tte=>q.1) Z)|none=>tsD (ttP S))=_
 rw[Ak]
 rfl
theorem Hu(S:List Tte):XJ.lH [dtt S]=some (.int (S.length:Int)):=by
 show(vd (dtt S)).map (λks=>PyData.int (ks.length:Int))=_
 rw[DN]
 show some (PyData.int ((dF S).length:Int))=_
 unfold dF
 rw[aB]
theorem DP(h:S.length<=400)(B:∀k∈dF S,k≠[]):XJ.ju [dtt S]=some (.list ((XJ.kj (dF S)).map rwD)):=by
 show(vd (dtt S)).bind _=_
 rw[DN,aM,if_pos]
 refine⟨by unfold dF;rw[aB];omega,dD.mpr λk Z=>?_⟩
 have:=B k Z
 cases k with
 |nil=>exact absurd rfl this
 |cons _ _=>rfl
theorem f9(ks:List (List Int)):(XJ.kj ks).Perm ks:=XJ.f9 ks
theorem Ga(h:i<gs.length):pAt (gs.map wiD) (i:Int)=some (wiD (gat gs i)):=by
 rw[jH wiD (0,0,0) (by omega) (by omega)]
 rfl
noncomputable def gOk(g:Wi):Prop:=1<=g.2.2/\g.2.2<=6
theorem DQ(J:∀g∈gs,gOk g)(a:Option U):∀(ts:List Nat)(rows:List (List Int))(acc:List (List Tte))(u v:Option U),(∀t∈ts,t<gs.length)->rows.length<=1000->(∀r∈rows,r.length<=100)->acc.length+ts.length<=1000->Few (lv rows (ts.map (gat gs))) ->
 (∃r' D B,jc (gNl 4) (bY (bV 5 (dCall eH (aq (aj 3) (aq (dOp gIx (aj 1) (aj 4)) (aY))))) (bY (pB 2 (aj 5)) (bY (sIf (bO (dOp gGt (dCall XJ.lH (aq (aj 5) (aY))) (dC (.int 400)))) ((λ_=>none)) (dZ)) (bY (sIf (bO (dOp gEq (dCall XJ.lH (aq (aj 5) (aY))) (dC (.int 0)))) (qj (aj 2)) (dZ)) (bV 3 (dCall XJ.ju (aq (aj 5) (aY)))))))) (ts.map λt:Nat=>PyData.int (t:Int)) [a,some (.d (.list (gs.map wiD))),some (.d (.list (acc.map dtt))),some (.d (.list (rows.map rwD))),u,v]=some (.nx [a,some (.d (.list (gs.map wiD))),some (.d (.list ((acc++lv rows (ts.map (gat gs))).map dtt))),r',D,B])) \/
 jc (gNl 4) (bY (bV 5 (dCall eH (aq (aj 3) (aq (dOp gIx (aj 1) (aj 4)) (aY))))) (bY (pB 2 (aj 5)) (bY (sIf (bO (dOp gGt (dCall XJ.lH (aq (aj 5) (aY))) (dC (.int 400)))) ((λ_=>none)) (dZ)) (bY (sIf (bO (dOp gEq (dCall XJ.lH (aq (aj 5) (aY))) (dC (.int 0)))) (qj (aj 2)) (dZ)) (bV 3 (dCall XJ.ju (aq (aj 5) (aY)))))))) (ts.map λt:Nat=>PyData.int (t:Int)) [a,some (.d (.list (gs.map wiD))),some (.d (.list (acc.map dtt))),some (.d (.list (rows.map rwD))),u,v]=some (.ex "" "" (.list ((acc++lv rows (ts.map (gat gs))).map dtt)))
 |[],rows,acc,u,v,_,_,_,_,_=>.inl ⟨_,_,_,by simp only[o7,sZ,cM];exact rfl⟩
 |t::ts,rows,acc,u,v,P,M,R,ha,Y=>by
  rw[bF]at ha
  have tl:=P t aC
  have O:gOk (gat gs t):=by
   unfold gat
   rw[aK,au tl]
   exact J _ (b_ tl)
  have T:=Nu (g:=gat gs t) (rows:=rows) O.1 O.2 R M
  rw[show(t::ts).map (gat gs)=gat gs t::ts.map (gat gs)from rfl,rC]at Y ⊢
  generalize I:lD (gat gs t) rows []=S at T Y ⊢
  obtain⟨f1,f2⟩:=Y S aC
  have V:=DP f1 λk L=>(f2 k L).1
  have tn:=Hu S
  have al:(acc.map dtt).length<1000000:=by rw[aB];omega
  have Q:decide ((S.length:Int)>400)=false:=dFa (by omega)
  have ga:=Ga tl
  by_cases c:S=[]
  ·subst c
   refine .inr ?_
   rw[if_pos rfl,bf]
   have W:decide ((([]:List Tte).length:Int)=0)=true:=rfl
   have X:(bY (bV 5 (dCall eH (aq (aj 3) (aq (dOp gIx (aj 1) (aj 4)) (aY))))) (bY (pB 2 (aj 5)) (bY (sIf (bO (dOp gGt (dCall XJ.lH (aq (aj 5) (aY))) (dC (.int 400)))) ((λ_=>none)) (dZ)) (bY (sIf (bO (dOp gEq (dCall XJ.lH (aq (aj 5) (aY))) (dC (.int 0)))) (qj (aj 2)) (dZ)) (bV 3 (dCall XJ.ju (aq (aj 5) (aY)))))))) [a,some (.d (.list (gs.map wiD))),some (.d (.list (acc.map dtt))),some (.d (.list (rows.map rwD))),some (.d (.int (t:Int))),v]=some (.ex "" "" (.list ((acc++[[]]).map dtt))):=by
    simp only[EV,reduceIte,aA,aD,ak,ao,aF,aG,aH,ga,T,al,tn,Q,W]
    rw[cN]
    rfl
   rw[jc,show(gNl 4) (.int (t:Int)) [a,some (.d (.list (gs.map wiD))),some (.d (.list (acc.map dtt))),some (.d (.list (rows.map rwD))),u,v]=some [a,some (.d (.list (gs.map wiD))),some (.d (.list (acc.map dtt))),some (.d (.list (rows.map rwD))),some (.d (.int (t:Int))),v]from rfl,aM,X]
   rfl
  ·rw[if_neg c]at Y ⊢
   have W:decide ((S.length:Int)=0)=false:=dFa (by
    have:S.length≠0:=λz=>c (cj.mp z)
    omega)
   have pm:=f9 (dF S)
   have X:(bY (bV 5 (dCall eH (aq (aj 3) (aq (dOp gIx (aj 1) (aj 4)) (aY))))) (bY (pB 2 (aj 5)) (bY (sIf (bO (dOp gGt (dCall XJ.lH (aq (aj 5) (aY))) (dC (.int 400)))) ((λ_=>none)) (dZ)) (bY (sIf (bO (dOp gEq (dCall XJ.lH (aq (aj 5) (aY))) (dC (.int 0)))) (qj (aj 2)) (dZ)) (bV 3 (dCall XJ.ju (aq (aj 5) (aY)))))))) [a,some (.d (.list (gs.map wiD))),some (.d (.list (acc.map dtt))),some (.d (.list (rows.map rwD))),some (.d (.int (t:Int))),v]=some (.nx [a,some (.d (.list (gs.map wiD))),some (.d (.list ((acc++[S]).map dtt))),some (.d (.list ((XJ.kj (dF S)).map rwD))),some (.d (.int (t:Int))),some (.d (dtt S))]):=by
    simp only[EV,reduceIte,aA,aD,ak,ao,aF,aG,aH,ga,T,al,tn,Q,W,V]
    rw[cN]
    rfl
   have Z:=DQ J a ts (XJ.kj (dF S)) (acc++[S]) (some (.d (.int (t:Int)))) (some (.d (dtt S))) (λq N=>P q (aJ _ N)) (by rw[pm.length_eq];unfold dF;rw[aB];omega) (λr R=>(f2 r (pm.mem_iff.mp R)).2) (by rw[bJ];simp;omega) (λK h'=>Y K (aJ _ h'))
   rw[show acc++[S]++lv (XJ.kj (dF S)) (ts.map (gat gs))=acc++S::lv (XJ.kj (dF S)) (ts.map (gat gs))by simp]at Z
   rw[bf]
   rcases Z with⟨r',D,B,Z⟩|Z
   ·exact .inl ⟨r',D,B,(uO rfl X).trans Z⟩
   ·exact .inr ((uO rfl X).trans Z)
theorem JL(B:gs.length<64):∃ts:List Nat,jP [.list (gs.map wiD)]=some (.list (ts.map λt:Nat=>PyData.int (t:Int)))/\ts.Perm (bC gs.length)/\ts.Pairwise λa b=>(gat gs a).1<=(gat gs b).1:=by
 obtain⟨L,e,pm,pw⟩:=FQ (bC gs.length) (λt=>(gat gs t).1)
 have Z:d8 0 (gs.length:Int)=(bC gs.length).map λp:Nat=>PyData.int (p:Int):=by
  unfold d8
  rw[show((gs.length:Int)-0).toNat=gs.length by omega]
  exact jD λk _=>by rw[mG]
 have Y:wX [.int (gs.length:Int)]=some (.list ((bC gs.length).map λp:Nat=>PyData.int (p:Int))):=by
  rw[<-Z]
  exact Qh (by omega) (by omega)
 have U:jB (gNl 0) D3.sG XS.dK0 (pU 1 [0] [some (.d (.list (gs.map wiD)))]) ((bC gs.length).map λp:Nat=>PyData.int (p:Int))=some (((bC gs.length).map λt=>(gat gs t).1).map PyData.int):=by
  rw[eO]
  exact Ru (λp:Nat=>PyData.int (p:Int)) (λp:Nat=>PyData.int (gat gs p).1) _ λp W=>⟨[some (.d (.int (p:Int))),some (.d (.list (gs.map wiD)))],rfl,rfl,by
   show(pAt (gs.map wiD) (p:Int)).bind _=_
   rw[Ga (bH.mp W)]
   rfl⟩
 have V:=XS.Js (l:=(bC gs.length).map λp:Nat=>PyData.int (p:Int)) (k:=jB (gNl 0) D3.sG XS.dK0 (pU 1 [0] [some (.d (.list (gs.map wiD)))])) (by rw[aB,cC];exact B) (by
  have:∀l:List Nat,flats (l.map λp:Nat=>PyData.int (p:Int))=true:=λl=>by
   induction l with
   |nil=>rfl
   |cons _ _ X=>rw[bf,flats,X];rfl
  exact this _) U (rm _)
 refine⟨L,?_,pm,pw⟩
 rw[<-e]
 unfold jP
 simp only[EV,reduceIte,aA,aD,ak,ao,aF,aG,aH,lMp,Y,XS.QM,V]
noncomputable def inT(gs:List Wi)(ts:List Nat):List Wi:=ts.map (gat gs)
theorem all_gen{ts:List Nat}(J:∀g∈gs,gOk g)(hl:gs.length<64)(B:hs.length<=100)(D:jP [.list (gs.map wiD)]=some (.list (ts.map λt:Nat=>PyData.int (t:Int))))(pm:ts.Perm (bC gs.length))(O:Few (lv [hs] (inT gs ts))):
 jy [.list (hs.map .int),.list (gs.map wiD)]=some (.list ((lv [hs] (inT gs ts)).map dtt)):=by
 have tl:ts.length=gs.length:=by rw[pm.length_eq,cC]
 have L:=DQ J (some (.d (.list (hs.map .int)))) ts [hs] [] none none (λt h=>bH.mp (pm.mem_iff.mp h)) (by simp) (λr X=>by rw[aO.mp X];exact B) (by simp;omega) O
 have W:(ts.map λt:Nat=>PyData.int (t:Int)).length<=100000:=by rw[aB];omega
 have L:(∃r' Y Z,jc (gNl 4) (bY (bV 5 (dCall eH (aq (aj 3) (aq (dOp gIx (aj 1) (aj 4)) (aY))))) (bY (pB 2 (aj 5)) (bY (sIf (bO (dOp gGt (dCall XJ.lH (aq (aj 5) (aY))) (dC (.int 400)))) ((λ_=>none)) (dZ)) (bY (sIf (bO (dOp gEq (dCall XJ.lH (aq (aj 5) (aY))) (dC (.int 0)))) (qj (aj 2)) (dZ)) (bV 3 (dCall XJ.ju (aq (aj 5) (aY)))))))) (ts.map λt:Nat=>PyData.int (t:Int)) [some (.d (.list (hs.map .int))),some (.d (.list (gs.map wiD))),some (.d (.list [])),some (.d (.list [.tuple (hs.map .int)])),none,none]=some (.nx [some (.d (.list (hs.map .int))),some (.d (.list (gs.map wiD))),some (.d (.list ((lv [hs] (inT gs ts)).map dtt))),r',Y,Z])) \/
  jc (gNl 4) (bY (bV 5 (dCall eH (aq (aj 3) (aq (dOp gIx (aj 1) (aj 4)) (aY))))) (bY (pB 2 (aj 5)) (bY (sIf (bO (dOp gGt (dCall XJ.lH (aq (aj 5) (aY))) (dC (.int 400)))) ((λ_=>none)) (dZ)) (bY (sIf (bO (dOp gEq (dCall XJ.lH (aq (aj 5) (aY))) (dC (.int 0)))) (qj (aj 2)) (dZ)) (bV 3 (dCall XJ.ju (aq (aj 5) (aY)))))))) (ts.map λt:Nat=>PyData.int (t:Int)) [some (.d (.list (hs.map .int))),some (.d (.list (gs.map wiD))),some (.d (.list [])),some (.d (.list [.tuple (hs.map .int)])),none,none]=some (.ex "" "" (.list ((lv [hs] (inT gs ts)).map dtt))):=L
 unfold jy
 simp only[EV,reduceIte,aA,aD,ak,ao,aF,aG,aH,Ss,K4,cR,Com.sz (show 1<=1000000 by decide),D]
 rcases L with⟨r',Y,Z,L⟩|L
 ·rw[L]
  simp only[EV,reduceIte,aA,aD,ak,ao,aF,aG,aH,Ss,K6,Uq,K5]
 ·rw[L]
  rfl
theorem zN{k:List Int}:nZ S k=none<->k∉dF S:=by
 unfold nZ dF
 rw[Option.map_eq_none_iff,iJ]
 constructor
 ·intro h z
  obtain⟨q,Z,e⟩:=cG.mp z
  exact h q Z (by simp[e])
 ·intro h q Z z
  exact h (cG.mpr ⟨q,Z,of_decide_eq_true z⟩)
theorem vX{k:List Int}{v:List Int×Int}:(k∈dF S/\pG S k v=S)\/(k∉dF S/\pG S k v=S++[(k,v)]):=by
 unfold pG
 by_cases h:k∈dF S
 ·refine .inl ⟨h,if_pos ?_⟩
  cases e:nZ S k with
  |none=>exact absurd h (zN.mp e)
  |some _=>rfl
 ·refine .inr ⟨h,if_neg ?_⟩
  rw[zN.mpr h]
  decide
theorem Nv{k:List Int}{v:List Int×Int}{q:Tte}(h:q∈S):q∈pG S k v:=by
 rcases vX (S:=S) (k:=k) (v:=v)with⟨_,e⟩|⟨_,e⟩<;>rw[e]
 ·exact h
 ·exact cg _ h
theorem Nx{k:List Int}{v:List Int×Int}{q:Tte}(h:q∈pG S k v):q∈S\/q=(k,v):=by
 rcases vX (S:=S) (k:=k) (v:=v)with⟨_,e⟩|⟨_,e⟩<;>rw[e]at h
 ·exact .inl h
 ·rcases bW.mp h with h|h
  ·exact .inl h
  ·exact .inr (aO.mp h)
theorem Ny(S:List Tte)(k:List Int)(v:List Int×Int):k∈dF (pG S k v):=by
 rcases vX (S:=S) (k:=k) (v:=v)with⟨h,e⟩|⟨_,e⟩<;>rw[e]
 ·exact h
 ·exact cG.mpr ⟨_,bG _ (j8 _),rfl⟩
theorem RG{k:List Int}{v:List Int×Int}(h:(dF S).Nodup):(dF (pG S k v)).Nodup:=by
 rcases vX (S:=S) (k:=k) (v:=v)with⟨_,e⟩|⟨Z,e⟩<;>rw[e]
 ·exact h
 ·unfold dF at h Z ⊢
  rw[cN,tH]
  refine⟨h,by simp,λa ha b Y=>?_⟩
  rw[show b=k by simpa using Y]
  intro z
  exact Z (z▸ha)
section
variable{g:Wi}
theorem yq{q:Tte}:∀(ss:List Nat)(S:List Tte),q∈S->q∈yH g row S ss
 |[],_,h=>h
 |_::ss,_,h=>yq ss _ (Nv h)
theorem DR{q:Tte}:∀(ss:List Nat)(S:List Tte),q∈yH g row S ss->q∈S\/∃s∈ss,q=(Sd.put row (gp g) s,(row,(s:Int)))
 |[],_,h=>.inl h
 |s::ss,S,h=>by
  rcases DR ss _ h with h|⟨t,Z,e⟩
  ·rcases Nx h with h|h
   ·exact .inl h
   ·exact .inr ⟨s,aC,h⟩
  ·exact .inr ⟨t,aJ _ Z,e⟩
theorem DX:∀(ss:List Nat)(S:List Tte),∀s∈ss,Sd.put row (gp g) s∈dF (yH g row S ss)
 |[],_,s,h=>by cases h
 |t::ss,S,s,h=>by
  rcases aW.mp h with rfl|h
  ·obtain⟨q,Z,e⟩:=cG.mp (Ny S (Sd.put row (gp g) s) (row,(s:Int)))
   exact cG.mpr ⟨q,yq ss _ Z,e⟩
  ·exact DX ss _ s h
theorem Hv:∀(ss:List Nat)(S:List Tte),(dF S).Nodup->(dF (yH g row S ss)).Nodup
 |[],_,h=>h
 |_::ss,_,h=>Hv ss _ (RG h)
theorem DY{q:Tte}:∀(rows:List (List Int))(S:List Tte),q∈S->q∈lD g rows S
 |[],_,h=>h
 |_::rows,_,h=>DY rows _ (yq _ _ h)
theorem uo{q:Tte}:∀(rows:List (List Int))(S:List Tte),q∈lD g rows S->q∈S\/∃row∈rows,∃s∈stN row g,q=(Sd.put row (gp g) s,(row,(s:Int)))
 |[],_,h=>.inl h
 |row::rows,S,h=>by
  rcases uo rows _ h with h|⟨r,Z,z⟩
  ·rcases DR _ _ h with h|z
   ·exact .inl h
   ·exact .inr ⟨row,aC,z⟩
  ·exact .inr ⟨r,aJ _ Z,z⟩
theorem D_:∀(rows:List (List Int))(S:List Tte),∀row∈rows,∀s∈stN row g,Sd.put row (gp g) s∈dF (lD g rows S)
 |[],_,_,h,_,_=>by cases h
 |r::rows,S,row,h,s,hs=>by
  rcases aW.mp h with rfl|h
  ·obtain⟨q,Z,e⟩:=cG.mp (DX (stN row g) S s hs)
   exact cG.mpr ⟨q,DY rows _ Z,e⟩
  ·exact D_ rows _ row h s hs
theorem Hw:∀(rows:List (List Int))(S:List Tte),(dF S).Nodup->(dF (lD g rows S)).Nodup
 |[],_,h=>h
 |_::rows,_,h=>Hw rows _ (Hv _ _ h)
theorem YG{l:List Int}(h:l≠[]){z:Int}:mx l<=z<->∀x∈l,x<=z:=by
 cases l with
 |nil=>exact absurd rfl h
 |cons a r=>
  have sp:=oK r a
  constructor
  ·intro Z x Y
   have:=sp.2 x Y
   show x<=z
   have Z:mxI a r<=z:=Z
   omega
  ·exact λZ=>Z _ sp.1
theorem vY{s:Nat}(B:gOk g):s∈stN row g<->Sd.fits row (gp g) s:=by
 have W:=B.1
 unfold stN Sd.fits gp
 dsimp only
 rw[dW,bH,decide_eq_true_iff]
 have sl:∀(c:(s:Int)<=(row.length:Int)-g.2.2),(mx (sli row (s:Int) g.2.2)<=g.1<->∀r,s<=r->r<s+g.2.2.toNat->row.getD r 0<=g.1):=λc=>by
  rw[YG (yd (by omega) c W)]
  unfold sli
  rw[show((s:Int)).toNat=s by omega]
  constructor
  ·intro h r h1 h2
   refine h _ ?_
   rw[pR]
   refine⟨r-s,?_⟩
   rw[rY,if_pos (by omega),dM,show s+(r-s)=r by omega,aK,au (by omega)]
   rfl
  ·intro h x X
   obtain⟨j,Z⟩:=pR.mp X
   rw[rY]at Z
   by_cases Y:j<g.2.2.toNat
   ·rw[if_pos Y,dM]at Z
    have:=h (s+j) (by omega) (by omega)
    rw[aK,Z]at this
    exact this
   ·rw[if_neg Y]at Z;cases Z
 constructor
 ·rintro⟨h1,h2⟩
  have c:(s:Int)<=(row.length:Int)-g.2.2:=by omega
  exact⟨by omega,(sl c).mp h2⟩
 ·rintro⟨h1,h2⟩
  have c:(s:Int)<=(row.length:Int)-g.2.2:=by omega
  exact⟨by omega,(sl c).mpr h2⟩
end
theorem Hy:∀(gs:List Wi)(rows:List (List Int)),(∀g∈gs,gOk g)->[]∈lv rows gs->∀row∈rows,¬ ∃(ss:List Nat)(out:List Int),ss.length=gs.length/\Sd.Run row ((gs.map gp).zip ss) out
 |[],rows,_,h,_,_=>by rw[sZ]at h;cases h
 |g::gs,rows,X,h,row,W=>by
  rintro⟨ss,out,Y,run⟩
  cases ss with
  |nil=>cases Y
  |cons s ss=>
   have run:Sd.fits row (gp g) s/\Sd.Run (Sd.put row (gp g) s) ((gs.map gp).zip ss) out:=run
   have Z:=D_ (g:=g) rows [] row W s ((vY (X g aC)).mpr run.1)
   rw[rC]at h
   by_cases c:lD g rows []=[]
   ·rw[c]at Z
    cases Z
   ·rw[if_neg c]at h
    rcases aW.mp h with h|h
    ·exact c h.symm
    ·exact Hy gs _ (λg' h'=>X g' (aJ _ h')) h _ ((f9 _).mem_iff.mpr Z) ⟨ss,out,tM.inj Y,run.2⟩
noncomputable def bk:List (List Tte)->List Int->Option (List Int×List Nat)
 |[],row=>some (row,[])
 |S::L,row=>match bk L row with
  |some (r,ss)=>match nZ S r with
   |some (p,z)=>some (p,z.toNat::ss)
   |none=>none
  |none=>none
theorem JM{k:List Int}(h:k∈dF S):∃v,nZ S k=some v/\(k,v)∈S:=by
 unfold nZ
 cases e:S.find? λq=>decide (q.1=k)with
 |none=>
  obtain⟨q,Z,z⟩:=cG.mp h
  exact absurd (iJ.mp e q Z) (by simp[z])
 |some q=>
  refine⟨q.2,rfl,?_⟩
  have h1:=gU e
  have h2:q.1=k:=of_decide_eq_true (pJ (p:=λq:Tte=>decide (q.1=k)) e)
  rw[<-h2]
  exact h1
noncomputable def vg:List (List Tte)->List (List Int)->List (List Int)
 |[],rows=>rows
 |[S],_=>dF S
 |_::S::L,rows=>vg (S::L) rows
theorem tu(S:List Tte)(L:List (List Tte))(rows:List (List Int)):vg (S::L) rows=vg L (dF S):=by
 induction L generalizing S rows with
 |nil=>rfl
 |cons T L Z=>
  show vg (T::L) rows=vg (T::L) (dF S)
  rw[Z,Z]
theorem Nz:∀(gs:List Wi)(rows:List (List Int)),(∀g∈gs,gOk g)->[]∉lv rows gs->∀row∈vg (lv rows gs) rows,∃(B:List Int)(ss:List Nat),bk (lv rows gs) row=some (B,ss)/\B∈rows/\ss.length=gs.length/\Sd.Run B ((gs.map gp).zip ss) row
 |[],rows,_,_,row,h=>⟨row,[],by rw[sZ];rfl,by rw[sZ]at h;exact h,rfl,rfl⟩
 |g::gs,rows,X,hn,row,h=>by
  rw[rC]at hn h ⊢
  have c:lD g rows []≠[]:=λz=>hn (by rw[z];exact aC)
  rw[if_neg c]at hn h ⊢
  rw[tu]at h
  have pm:=f9 (dF (lD g rows []))
  have h':row∈vg (lv (XJ.kj (dF (lD g rows []))) gs) (XJ.kj (dF (lD g rows []))):=by
   cases W:lv (XJ.kj (dF (lD g rows []))) gs with
   |nil=>
    rw[W]at h
    exact pm.mem_iff.mpr h
   |cons T L=>
    rw[W,tu]at h
    rw[tu]
    exact h
  obtain⟨Q,ss,e,Z,U,run⟩:=Nz gs _ (λg' h'=>X g' (aJ _ h')) (λz=>hn (aJ _ z)) row h'
  obtain⟨v,R,V⟩:=JM (pm.mem_iff.mp Z)
  rcases uo rows [] V with z|⟨B,Y,s,hs,S⟩
  ·cases z
  ·injection S with q1 q2
   subst q2
   refine⟨B,s::ss,?_,Y,by rw[bF,bF,U],?_⟩
   ·unfold bk
    rw[e]
    dsimp only
    rw[R]
    rfl
   ·show Sd.fits B (gp g) s/\Sd.Run (Sd.put B (gp g) s) ((gs.map gp).zip ss) row
    rw[<-q1]
    exact⟨(vY (X g aC)).mp hs,run⟩
noncomputable def pI:List D->List Nat->List Nat->List D
 |P,t::ts,s::ss=>(pI P ts ss).set t (.int (s:Int))
 |P,_,_=>P
theorem uq:∀(P:List D)(ts ss:List Nat),(pI P ts ss).length=P.length
 |P,t::ts,s::ss=>by rw[pI,cV,uq]
 |P,[],_=>by unfold pI;rfl
 |P,_::_,[]=>by unfold pI;rfl
noncomputable def zpr(ts:List Nat)(L:List (List Tte)):List D:=(ts.zip L).map λq=>PyData.tuple [.int (q.1:Int),dtt q.2]
theorem NK{r:List Int}{v:List Int×Int}(h:nZ S r=some v):jW (dtt S) (rwD r)=some (ttV v):=by
 unfold jW
 rw[CQ,aM,Ht,aM,h]
 rfl
noncomputable def uP(S:List Tte):List Int:=(XJ.kj (dF S)).getD 0 []
noncomputable def Ea:List (List Tte)->List Int
 |[]=>[]
 |[S]=>uP S
 |_::S::L=>Ea (S::L)
theorem JN(S T:List Tte)(L:List (List Tte)):Ea (S::T::L)=Ea (T::L):=rfl
theorem zO{a b:Option U}{n:Nat}:∀(ts:List Nat)(L:List (List Tte))(P:List D)(B:List Int)(ss:List Nat)(u v:Option U)(m:List D),L≠[]->ts.length=L.length->(∀t∈ts,t<P.length)->Few L->(∀S∈L,S≠[]/\∀q∈S,0<=q.2.2)->bk L (Ea L)=some (B,ss) ->
 ∃u' v',jc (gTn 2 (dw (gNl 4) (dw (gNl 5) (lF)))) (bY (sIf (bO (dUn Cj (aj 3))) (bV 3 (dOp gIx (dCall XJ.ju (aq (aj 5) (aY))) (dC (.int 0)))) (dZ)) (bY (m5 2 (aj 4) (dOp gIx (dOp jW (aj 5) (aj 3)) (dC (.int 1)))) (bV 3 (dOp gIx (dOp jW (aj 5) (aj 3)) (dC (.int 0)))))) ((zpr ts L).reverse++m) [a,b,some (.d (.list P)),some (.d .none),u,v]=jc (gTn 2 (dw (gNl 4) (dw (gNl 5) (lF)))) (bY (sIf (bO (dUn Cj (aj 3))) (bV 3 (dOp gIx (dCall XJ.ju (aq (aj 5) (aY))) (dC (.int 0)))) (dZ)) (bY (m5 2 (aj 4) (dOp gIx (dOp jW (aj 5) (aj 3)) (dC (.int 1)))) (bV 3 (dOp gIx (dOp jW (aj 5) (aj 3)) (dC (.int 0)))))) m [a,b,some (.d (.list (pI P ts ss))),some (.d (rwD B)),u',v']
 |[],L,P,B,ss,u,v,m,N,V,_,_,_,_=>by
  cases L with
  |nil=>exact absurd rfl N
  |cons _ _=>cases V
 |t::ts,[],P,B,ss,u,v,m,N,_,_,_,_,_=>absurd rfl N
 |t::ts,S::L,P,B,ss,u,v,m,_,V,F,E,G,Z=>by
  have V:ts.length=L.length:=tM.inj V
  have tl:=F t aC
  obtain⟨f1,f2⟩:=E S aC
  obtain⟨z1,z2⟩:=G S aC
  have A:(zpr (t::ts) (S::L)).reverse++m=(zpr ts L).reverse++(PyData.tuple [.int (t:Int),dtt S]::m):=by
   unfold zpr
   rw[rT,bf,jm,aQ]
   rfl
  rw[A]
  have I:∀{r:List Int}{v:List Int×Int},nZ S r=some v->0<=v.2:=λ{r v} h=>by
   unfold nZ at h
   cases e:S.find? λq=>decide (q.1=r)with
   |none=>rw[e]at h;cases h
   |some q=>
    rw[e]at h
    cases h
    exact z2 q (gU e)
  have i1:∀v:List Int×Int,gIx (ttV v) (.int 1)=some (.int v.2):=λ_=>rfl
  have H:∀v:List Int×Int,gIx (ttV v) (.int 0)=some (rwD v.1):=λ_=>rfl
  have s:isNone .none=true:=rfl
  have nr:∀r:List Int,isNone (rwD r)=false:=λ_=>rfl
  have C:∀(x:Option U)(Q:List D)(u v:Option U),(gTn 2 (dw (gNl 4) (dw (gNl 5) (lF)))) (PyData.tuple [.int (t:Int),dtt S]) [a,b,some (.d (.list Q)),x,u,v]=some [a,b,some (.d (.list Q)),x,some (.d (.int (t:Int))),some (.d (dtt S))]:=λ_ _ _ _=>rfl
  by_cases c:L=[]
  ·subst c
   obtain rfl:ts=[]:=cj.mp V
   have Z:(match nZ S (uP S)with|some (p,z)=>some (p,z.toNat::[])|none=>none)=some (B,ss):=Z
   cases Y:nZ S (uP S)with
   |none=>rw[Y]at Z;cases Z
   |some w=>
    rw[Y]at Z
    cases Z
    have w0:=I Y
    have gt:=NK Y
    have y:=DP f1 λk Y=>(f2 k Y).1
    have i:0<(XJ.kj (dF S)).length:=by
     rw[(f9 _).length_eq]
     unfold dF
     rw[aB]
     exact rE.mpr z1
    have fa:pAt ((XJ.kj (dF S)).map rwD) 0=some (rwD (uP S)):=by
     rw[jH rwD [] (by omega) (by omega)]
     rfl
    have O:=Ho tl
    have M:(bY (sIf (bO (dUn Cj (aj 3))) (bV 3 (dOp gIx (dCall XJ.ju (aq (aj 5) (aY))) (dC (.int 0)))) (dZ)) (bY (m5 2 (aj 4) (dOp gIx (dOp jW (aj 5) (aj 3)) (dC (.int 1)))) (bV 3 (dOp gIx (dOp jW (aj 5) (aj 3)) (dC (.int 0)))))) [a,b,some (.d (.list P)),some (.d .none),some (.d (.int (t:Int))),some (.d (dtt S))]=some (.nx [a,b,some (.d (.list (P.set t (.int w.2)))),some (.d (rwD w.1)),some (.d (.int (t:Int))),some (.d (dtt S))]):=by
     simp only[EV,reduceIte,aA,aD,ak,ao,aF,aG,aH,s,y,fa,gt,i1,H,O,aM]
    refine⟨some (.d (.int (t:Int))),some (.d (dtt S)),(uO (C _ _ _ _) M).trans ?_⟩
    rw[pI,show pI P [] []=P by unfold pI;rfl,show((w.2.toNat:Nat):Int)=w.2 by omega]
  ·obtain⟨T,J,rfl⟩:=List.exists_cons_of_ne_nil c
   rw[JN]at Z
   unfold bk at Z
   cases W:bk (T::J) (Ea (T::J))with
   |none=>rw[W]at Z;cases Z
   |some q=>
    obtain⟨R,X⟩:=q
    rw[W]at Z
    dsimp only at Z
    cases Y:nZ S R with
    |none=>rw[Y]at Z;cases Z
    |some w=>
     rw[Y]at Z
     cases Z
     have w0:=I Y
     have gt:=NK Y
     obtain⟨j,l,e⟩:=zO (a:=a) (b:=b) (n:=n) ts (T::J) P R X u v (PyData.tuple [.int (t:Int),dtt S]::m) (by simp) V (λq o=>F q (aJ _ o)) (λK h'=>E K (aJ _ h')) (λK h'=>G K (aJ _ h')) W
     have O:pIx (pI P ts X).length (t:Int)=some t:=Ho (by rw[uq];exact tl)
     have M:(bY (sIf (bO (dUn Cj (aj 3))) (bV 3 (dOp gIx (dCall XJ.ju (aq (aj 5) (aY))) (dC (.int 0)))) (dZ)) (bY (m5 2 (aj 4) (dOp gIx (dOp jW (aj 5) (aj 3)) (dC (.int 1)))) (bV 3 (dOp gIx (dOp jW (aj 5) (aj 3)) (dC (.int 0)))))) [a,b,some (.d (.list (pI P ts X))),some (.d (rwD R)),some (.d (.int (t:Int))),some (.d (dtt S))]=some (.nx [a,b,some (.d (.list ((pI P ts X).set t (.int w.2)))),some (.d (rwD w.1)),some (.d (.int (t:Int))),some (.d (dtt S))]):=by
      simp only[EV,reduceIte,aA,aD,ak,ao,aF,aG,aH,nr,gt,i1,H,O,aM]
     refine⟨some (.d (.int (t:Int))),some (.d (dtt S)),e.trans ((uO (C _ _ _ _) M).trans ?_)⟩
     rw[pI,show((w.2.toNat:Nat):Int)=w.2 by omega]
theorem Eb{P:List D}:∀(ts ss:List Nat),ts.length=ss.length->∀i,i∈ts->i<P.length->(pI P ts ss)[i]? = some (.int ((ss.getD (ts.idxOf i) 0:Nat):Int))
 |[],_,_,i,h,_=>by cases h
 |_::_,[],h,_,_,_=>by cases h
 |t::ts,s::ss,Y,i,hi,Z=>by
  rw[pI,kO]
  by_cases c:t=i
  ·subst c
   rw[if_pos rfl,if_pos (by rw[uq];exact Z)]
   simp
  ·rw[if_neg c]
   rcases aW.mp hi with z|hi
   ·exact absurd z.symm c
   ·rw[Eb ts ss (tM.inj Y) i hi Z]
    have X:(t==i)=false:=by simpa using c
    rw[List.idxOf_cons,X]
    rfl
noncomputable def vp(n:Nat)(ts ss:List Nat):List Int:=(bC n).map λi=>((ss.getD (ts.idxOf i) 0:Nat):Int)
theorem RJ{ts ss:List Nat}(pm:ts.Perm (bC n))(B:ts.length=ss.length):pI (aP n .none) ts ss=(vp n ts ss).map .int:=by
 apply cF
 intro i
 unfold vp
 rw[eO,aX]
 by_cases c:i<n
 ·rw[Eb ts ss B i (pm.mem_iff.mpr (bH.mpr c)) (by simpa using c),gb c]
  rfl
 ·rw[bB (by rw[uq,bA];omega),bB (by rw[cC];omega)]
  rfl
theorem Hz:∀(ts:List Nat)(L:List (List Tte)),mz (ts.map λt:Nat=>PyData.int (t:Int)) (L.map dtt)=zpr ts L
 |[],_=>by simp[mz,zpr]
 |_::_,[]=>by simp[mz,zpr]
 |t::ts,S::L=>by
  show PyData.tuple [.int (t:Int),dtt S]::mz (ts.map λt:Nat=>PyData.int (t:Int)) (L.map dtt)=_
  rw[Hz ts L]
  rfl
theorem NP{k:Nat}(h:k<=1000):wJ (.list [.none]) (.int (k:Int))=some (.list (aP k .none)):=by
 show(if [PyData.none].length*((k:Int)).toNat<=1000000/\-(2^63)<=(k:Int)/\(k:Int)<2^63 then some (PyData.list (aP ((k:Int)).toNat [PyData.none]).flatten)else none)=_
 rw[if_pos ⟨by simp;omega,by omega,by omega⟩,show((k:Int)).toNat=k by omega]
 congr 2
 induction k with
 |zero=>rfl
 |succ k Z=>rw[cI,eZ,Z (by omega),cI];rfl
section
variable{gs:List Wi}{ts:List Nat}{L:List (List Tte)}
theorem sy{B:List Int}{ss:List Nat}(hl:gs.length<64)(O:jP [.list (gs.map wiD)]=some (.list (ts.map λt:Nat=>PyData.int (t:Int))))(pm:ts.Perm (bC gs.length))(D:ts.length=L.length)(J:ts.length=ss.length)(hf:Few L)(hz:∀S∈L,S≠[]/\∀q∈S,0<=q.2.2)(hb:L≠[]->bk L (Ea L)=some (B,ss)):
 kE [.list (L.map dtt),.list (gs.map wiD)]=some (.list ((vp gs.length ts ss).map .int)):=by
 have tl:ts.length=gs.length:=by rw[pm.length_eq,cC]
 have V:=NP (k:=gs.length) (by omega)
 have W:uK (.list (ts.map λt:Nat=>PyData.int (t:Int))) (.list (L.map dtt))=some (.list (zpr ts L)):=by
  show(if(ts.map λt:Nat=>PyData.int (t:Int)).length<=1000 then some (PyData.list (mz _ _))else none)=_
  rw[if_pos (by rw[aB];omega),Hz]
 have U:Px (dOp uK (dCall jP (aq (aj 1) (aY))) (aj 0)) [some (.d (.list (L.map dtt))),some (.d (.list (gs.map wiD))),some (.d (.list (aP gs.length .none))),some (.d .none),none,none]=some (zpr ts L).reverse:=by
  unfold Px
  have:(dOp uK (dCall jP (aq (aj 1) (aY))) (aj 0)) [some (.d (.list (L.map dtt))),some (.d (.list (gs.map wiD))),some (.d (.list (aP gs.length .none))),some (.d .none),none,none]=some (.list (zpr ts L)):=by
   simp only[EV,reduceIte,aA,aD,ak,ao,aF,aG,aH,O,W]
  rw[this]
  rfl
 have fl:flats ((vp gs.length ts ss).map PyData.int)=true:=jX _
 have lo:∃r' Y Z,jc (gTn 2 (dw (gNl 4) (dw (gNl 5) (lF)))) (bY (sIf (bO (dUn Cj (aj 3))) (bV 3 (dOp gIx (dCall XJ.ju (aq (aj 5) (aY))) (dC (.int 0)))) (dZ)) (bY (m5 2 (aj 4) (dOp gIx (dOp jW (aj 5) (aj 3)) (dC (.int 1)))) (bV 3 (dOp gIx (dOp jW (aj 5) (aj 3)) (dC (.int 0)))))) (zpr ts L).reverse [some (.d (.list (L.map dtt))),some (.d (.list (gs.map wiD))),some (.d (.list (aP gs.length .none))),some (.d .none),none,none]=some (.nx [some (.d (.list (L.map dtt))),some (.d (.list (gs.map wiD))),some (.d (.list ((vp gs.length ts ss).map .int))),r',Y,Z]):=by
  by_cases c:L=[]
  ·subst c
   have X:ts=[]:=cj.mp D
   have T:gs=[]:=cj.mp (by rw[<-tl,X];rfl)
   subst X T
   exact⟨_,_,_,rfl⟩
  ·obtain⟨Y,Z,e⟩:=zO (a:=some (.d (.list (L.map dtt)))) (b:=some (.d (.list (gs.map wiD)))) (n:=0) ts L (aP gs.length .none) B ss none none [] c D (λt h=>by rw[bA];exact bH.mp (pm.mem_iff.mp h)) hf hz (hb c)
   rw[cM,RJ pm J]at e
   exact⟨_,_,_,e⟩
 obtain⟨r',Y,Z,lo⟩:=lo
 unfold kE
 simp only[EV,reduceIte,aA,aD,ak,ao,aF,aG,aH,lMp,Com.sz (show 1<=1000000 by decide),V,U]
 rw[lo]
 simp only[EV,reduceIte,aA,aD,ak,ao,aF,aG,aH,fl]
end
theorem NQ:∀(gs:List Wi)(rows:List (List Int)),[]∉lv rows gs->(lv rows gs).length=gs.length
 |[],rows,_=>by rw[sZ];rfl
 |g::gs,rows,h=>by
  rw[rC]at h ⊢
  have c:lD g rows []≠[]:=λz=>h (by rw[z];exact aC)
  rw[if_neg c]at h ⊢
  rw[bF,bF,NQ gs _ λz=>h (aJ _ z)]
theorem NT:∀(gs:List Wi)(rows:List (List Int))(S:List Tte),S∈lv rows gs->∀q∈S,0<=q.2.2
 |[],rows,S,h,_,_=>by rw[sZ]at h;cases h
 |g::gs,rows,S,h,q,Z=>by
  rw[rC]at h
  rcases aW.mp h with rfl|h
  ·rcases uo rows [] Z with z|⟨r,_,s,_,e⟩
   ·cases z
   ·rw[e]
    show(0:Int)<=(s:Int)
    omega
  ·by_cases c:lD g rows []=[]
   ·rw[if_pos c]at h;cases h
   ·rw[if_neg c]at h
    exact NT gs _ S h q Z
theorem JQ(h:S≠[]):uP S∈dF S:=by
 have Z:0<(XJ.kj (dF S)).length:=by
  rw[(f9 _).length_eq]
  unfold dF
  rw[aB]
  exact rE.mpr h
 refine(f9 _).mem_iff.mp ?_
 unfold uP
 rw[aK,au Z]
 exact b_ Z
theorem Ec:∀(L:List (List Tte))(rows:List (List Int)),L≠[]->[]∉L->Ea L∈vg L rows
 |[],_,h,_=>absurd rfl h
 |[S],rows,_,hn=>JQ λz=>hn (by rw[z];exact aC)
 |_::S::L,rows,_,hn=>Ec (S::L) rows (by simp) λz=>hn (aJ _ z)
theorem RK:pAt (l++[d]) (-1)=some d:=by
 unfold pAt pIx
 simp
 rw[if_pos (by omega),aM,show(-1+((l.length:Int)+1)).toNat=l.length by omega,bM (aL _)]
 simp
section
variable{gs:List Wi}{ts:List Nat}{hs:List Int}
theorem NZ(hg:∀g∈gs,gOk g)(O:gs.length<64)(wl:hs.length<=100)(J:jP [.list (gs.map wiD)]=some (.list (ts.map λt:Nat=>PyData.int (t:Int))))(pm:ts.Perm (bC gs.length))(B:Few (lv [hs] (inT gs ts)))(hn:[]∉lv [hs] (inT gs ts)):
 ∃(ss:List Nat)(out:List Int),ss.length=ts.length/\Sd.Run hs (((inT gs ts).map gp).zip ss) out/\gR [.list (hs.map .int),.list (gs.map wiD)]=some (.tuple [.str "laid", .list ((vp gs.length ts ss).map .int)]):=by
 have al:=all_gen hg O wl J pm B
 have tl:ts.length=gs.length:=by rw[pm.length_eq,cC]
 have V:=NQ _ _ hn
 have it:(inT gs ts).length=ts.length:=by unfold inT;rw[aB]
 have N:∀g∈inT gs ts,gOk g:=λg h=>by
  obtain⟨t,h1,rfl⟩:=cG.mp h
  have:=bH.mp (pm.mem_iff.mp h1)
  unfold gat
  rw[aK,au this]
  exact hg _ (b_ this)
 have Y:∃(ss:List Nat)(out:List Int),ss.length=ts.length/\Sd.Run hs (((inT gs ts).map gp).zip ss) out/\(lv [hs] (inT gs ts)≠[]->bk (lv [hs] (inT gs ts)) (Ea (lv [hs] (inT gs ts)))=some (hs,ss)):=by
  by_cases c:lv [hs] (inT gs ts)=[]
  ·have T:ts=[]:=cj.mp (by rw[<-it,<-V,c];rfl)
   subst T
   exact⟨[],hs,rfl,rfl,λz=>absurd c z⟩
  ·obtain⟨M,ss,e,Q,W,run⟩:=Nz _ _ N hn _ (Ec _ [hs] c hn)
   rw[aO.mp Q]at e run
   exact⟨ss,_,W.trans it,run,λ_=>e⟩
 obtain⟨ss,out,sl,run,P⟩:=Y
 have pl:=sy O J pm (by rw[V,it]) sl.symm B (λS h=>⟨λz=>hn (z▸h),NT _ _ S h⟩) P
 refine⟨ss,out,sl,run,?_⟩
 generalize K:lv [hs] (inT gs ts)=L at al B hn pl V
 unfold gR
 by_cases c:L=[]
 ·subst c
  have al:jy [.list (hs.map .int),.list (gs.map wiD)]=some (.list []):=al
  have pl:kE [.list [],.list (gs.map wiD)]=some (.list ((vp gs.length ts ss).map .int)):=pl
  have X:decide (((([]:List D).length:Nat):Int)>0)=false:=rfl
  simp only[EV,reduceIte,aA,aD,ak,ao,aF,aG,aH,al,X,pl,Com.sz (show 2<=1000000 by decide)]
 ·obtain⟨Z,S,rfl⟩:∃Z S,L=Z++[S]:=⟨L.dropLast,L.getLast c,(List.dropLast_concat_getLast c).symm⟩
  have X:decide ((((Z++[S]).map dtt).length:Int)>0)=true:=dTr (by simp)
  have R:pAt ((Z++[S]).map dtt) (-1)=some (dtt S):=by
   rw[cN]
   exact RK
  have tn:=Hu S
  have U:decide ((S.length:Int)=0)=false:=dFa λz=>hn (by
   have:S=[]:=cj.mp (by omega)
   rw[this]
   simp)
  simp only[EV,reduceIte,aA,aD,ak,ao,aF,aG,aH,al,X,R,tn,U,pl,Com.sz (show 2<=1000000 by decide)]
end
noncomputable def pr(gs:List Wi)(ts ss:List Nat)(t:Nat):Sd.Pl:=(gp (gat gs t),ss.getD (ts.idxOf t) 0)
theorem N5:∀(ts ss:List Nat),ts.Nodup->ts.length=ss.length->((inT gs ts).map gp).zip ss=ts.map (pr gs ts ss)
 |ts,ss,nd,Z=>by
  unfold inT
  rw[eO]
  apply cF
  intro i
  rw[aX]
  by_cases hi:i<ts.length
  ·have hs:i<ss.length:=by omega
   rw[List.getElem?_zip_eq_some.mpr ⟨(by rw[aX,au hi];rfl:(ts.map (gp∘gat gs))[i]? = some (gp (gat gs ts[i]),ss[i]).1),(au hs:ss[i]? = some (gp (gat gs ts[i]),ss[i]).2)⟩,au hi]
   have ix:ts.idxOf ts[i]=i:=List.Nodup.idxOf_getElem nd i hi
   show _=some (gp (gat gs ts[i]),ss.getD (ts.idxOf ts[i]) 0)
   rw[ix,aK,au hs]
   rfl
  ·rw[bB (by simp;omega),bB (by omega)]
   rfl
theorem Gb{p q:Sd.Pl}(h:Sd.apart p q):Sd.apart q p:=by
 unfold Sd.apart at h ⊢
 rcases h with h|h|h|h
 ·exact .inr (.inl h)
 ·exact .inl h
 ·exact .inr (.inr (.inr h))
 ·exact .inr (.inr (.inl h))
theorem Ed{l m:List Sd.Pl}(p:l.Perm m)(h:Sd.Sit hs l):Sd.Sit hs m:=
 ⟨λx Z=>h.1 x (p.mem_iff.mpr Z),p.pairwise h.2 λ{x y} z=>Gb z⟩
noncomputable def std(gs:List Wi)(f:Nat->Nat):List Sd.Pl:=(bC gs.length).map λi=>(gp (gat gs i),f i)
theorem Ef{s:Nat}(B:gOk g):roB hs g (s:Int)=true<->Sd.home hs (gp g,s):=by
 have:=vY (g:=g) (row:=hs) (s:=s) B
 unfold Sd.home
 rw[<-this]
 unfold roB stN
 rw[dW,bH,aU,aU,decide_eq_true_iff,decide_eq_true_iff]
 have:=B.1
 constructor
 ·rintro⟨⟨h1,h2⟩,Z⟩
  exact⟨by omega,Z⟩
 ·rintro⟨h1,Z⟩
  exact⟨⟨by omega,by omega⟩,Z⟩
theorem HB{k:Wi}{p q:Nat}(D:gOk g)(B:gOk k):apB g (p:Int) k (q:Int)=true<->Sd.apart (gp g,p) (gp k,q):=by
 have:=D.1
 have:=B.1
 unfold apB Sd.apart gp
 simp only[jK,decide_eq_true_iff]
 constructor
 ·rintro((h|h)|(h|h))
  ·exact .inl h
  ·exact .inr (.inl h)
  ·exact .inr (.inr (.inl (by omega)))
  ·exact .inr (.inr (.inr (by omega)))
 ·rintro(h|h|h|h)
  ·exact .inl (.inl h)
  ·exact .inl (.inr h)
  ·exact .inr (.inl (by omega))
  ·exact .inr (.inr (by omega))
theorem N6(B:∀g∈gs,grOk g/\gOk g)(f:Nat->Nat):laB hs gs ((bC gs.length).map λi=>((f i:Nat):Int))=true<->Sd.Sit hs (std gs f):=by
 have Y:∀i,i<gs.length->grOk (gat gs i)/\gOk (gat gs i):=λi hi=>by
  unfold gat
  rw[aK,au hi]
  exact B _ (b_ hi)
 have W:∀i,i<gs.length->((bC gs.length).map λi=>((f i:Nat):Int)).getD i 0=((f i:Nat):Int):=λi hi=>by
  rw[aK,aX,gb hi]
  rfl
 rw[uN]
 unfold Sd.Sit std
 constructor
 ·rintro⟨_,h1,h2⟩
  refine⟨λp V=>?_,?_⟩
  ·obtain⟨i,hi,rfl⟩:=cG.mp V
   have hi:=bH.mp hi
   have:=h1 i hi
   rw[W i hi]at this
   exact(Ef (Y i hi).2).mp this
  ·rw[fY,cO]
   intro i j hi Z X
   simp only[jT]
   have hi:i<gs.length:=by simpa using hi
   have Z:j<gs.length:=by simpa using Z
   have:=h2 j Z
   unfold beB at this
   have:=dD.mp this i (bH.mpr X)
   rw[W j Z,W i hi,<-rB (Y j Z).1 (Y i hi).1]at this
   exact(HB (Y i hi).2 (Y j Z).2).mp this
 ·rintro⟨h1,h2⟩
  refine⟨by simp,λi hi=>?_,λj Z=>?_⟩
  ·rw[W i hi]
   exact(Ef (Y i hi).2).mpr (h1 _ (cG.mpr ⟨i,bH.mpr hi,rfl⟩))
  ·unfold beB
   refine dD.mpr λi hi=>?_
   have X:=bH.mp hi
   have hi:i<gs.length:=by omega
   rw[W j Z,W i hi,<-rB (Y j Z).1 (Y i hi).1]
   refine(HB (Y i hi).2 (Y j Z).2).mpr ?_
   rw[fY,cO]at h2
   have:=h2 i j (by simpa using hi) (by simpa using Z) X
   simpa using this
section
variable{gs:List Wi}{ts:List Nat}{hs:List Int}
theorem V9(h:grOk g):Sd.gok (gp g):=by
 have a:=h.f
 have b:=h.b
 have c:=h.s
 unfold Sd.gok gp
 exact⟨a,b,by dsimp only;omega⟩
theorem HD(B:∀g∈gs,grOk g/\gOk g)(pm:ts.Perm (bC gs.length)){f:Nat->Nat}:∀p∈ts.map (λt=>((gp (gat gs t),f t):Sd.Pl)),Sd.gok p.1:=λp Z=>by
 obtain⟨t,h,rfl⟩:=cG.mp Z
 have:=bH.mp (pm.mem_iff.mp h)
 refine V9 (g:=gat gs t) ?_
 unfold gat
 rw[aK,au this]
 exact(B _ (b_ this)).1
theorem Eh(pw:ts.Pairwise λa b=>(gat gs a).1<=(gat gs b).1){f:Nat->Nat}:(ts.map (λt=>((gp (gat gs t),f t):Sd.Pl))).Pairwise λp q=>p.1.1<=q.1.1:=by
 rw[fY]
 exact pw
theorem Ei(pm:ts.Perm (bC gs.length))(f:Nat->Nat):(ts.map (λt=>((gp (gat gs t),f t):Sd.Pl))).Perm (std gs f):=pm.map _
theorem SN:∀(ts:List Nat)(f:Nat->Nat),((inT gs ts).map gp).zip (ts.map f)=ts.map (λt=>((gp (gat gs t),f t):Sd.Pl))
 |[],_=>rfl
 |t::ts,f=>by
  show(gp (gat gs t),f t)::((inT gs ts).map gp).zip (ts.map f)=_
  rw[SN ts f]
  rfl
theorem JR(B:∀g∈gs,grOk g/\gOk g)(pm:ts.Perm (bC gs.length))(pw:ts.Pairwise λa b=>(gat gs a).1<=(gat gs b).1)(hn:[]∈lv [hs] (inT gs ts))(f:Nat->Nat):laB hs gs ((bC gs.length).map λi=>((f i:Nat):Int))=false:=by
 cases e:laB hs gs ((bC gs.length).map λi=>((f i:Nat):Int))with
 |false=>rfl
 |true=>
  exfalso
  have st:=Ed (Ei pm f).symm ((N6 B f).mp e)
  obtain⟨out,run⟩:=(Sd.Hs (HD B pm) (Eh pw)).mpr st
  rw[<-SN]at run
  have Z:∀g∈inT gs ts,gOk g:=λg h=>by
   obtain⟨t,h1,rfl⟩:=cG.mp h
   have:=bH.mp (pm.mem_iff.mp h1)
   unfold gat
   rw[aK,au this]
   exact(B _ (b_ this)).2
  refine Hy _ _ Z hn hs (j8 _) ⟨ts.map f,out,?_,run⟩
  unfold inT
  rw[aB,aB]
theorem JT(B:∀g∈gs,grOk g/\gOk g)(pm:ts.Perm (bC gs.length))(pw:ts.Pairwise λa b=>(gat gs a).1<=(gat gs b).1){ss:List Nat}{out:List Int}(sl:ss.length=ts.length)(run:Sd.Run hs (((inT gs ts).map gp).zip ss) out):laB hs gs (vp gs.length ts ss)=true:=by
 have nd:ts.Nodup:=pm.nodup_iff.mpr List.nodup_range
 rw[N5 ts ss nd sl.symm]at run
 have st:=(Sd.Hs (HD B pm (f:=λt=>ss.getD (ts.idxOf t) 0)) (Eh pw)).mp ⟨out,run⟩
 exact(N6 B λi=>ss.getD (ts.idxOf i) 0).mpr (Ed (Ei pm _) st)
end
theorem RM{α:Type}(f:α->D){l m:List α}(h:l.length+m.length<=1000000):oJ (.list (l.map f)) (.list (m.map f))=some (.list ((l++m).map f)):=by
 rw[M5,if_pos (by rw[aB,aB];exact h),cN]
theorem SQ{l:List Int}{x:Int}(h:x∈l):x<=mx l:=by
 cases l with
 |nil=>cases h
 |cons a r=>exact(oK r a).2 x h
theorem N7{l:List Int}{b:Int}(n:l≠[])(h:∀x∈l,x<=b):mx l<=b:=by
 cases l with
 |nil=>exact absurd rfl n
 |cons a r=>exact h _ (oK r a).1
theorem HJ{l:List Int}{p s x:Int}(B:0<=p)(h:x∈sli l p s):∃r:Nat,p<=r/\(r:Int)<p+s/\r<l.length/\x=l.getD r 0:=by
 unfold sli at h
 obtain⟨i,hi,e⟩:=iz h
 have Z:i<s.toNat/\i<l.length-p.toNat:=by
  have:=hi
  rw[bR,cL]at this
  omega
 rw[m8,kY]at e
 refine⟨p.toNat+i,by omega,by omega,by omega,?_⟩
 rw[<-e,aK,au (by omega)]
 rfl
theorem RN{l:List Int}{p s:Int}{r:Nat}(D:0<=p)(h1:p<=r)(h2:(r:Int)<p+s)(B:r<l.length):l.getD r 0∈sli l p s:=by
 unfold sli
 rw[aK,au B]
 refine fP (i:=r-p.toNat) ?_
 rw[fL (by omega),dM,show p.toNat+(r-p.toNat)=r by omega,au B]
 rfl
noncomputable def newE(es:List Int)(p s b:Int):List Int:=es.take p.toNat++aP s.toNat b++es.drop (p+s).toNat
theorem N8{es:List Int}{p s b:Int}(B:0<=p)(h1:p+s<=es.length)(h2:1<=s):(newE es p s b).length=es.length:=by
 unfold newE
 simp only[bJ,bR,bA,cL]
 omega
theorem N_{es:List Int}{p s b:Int}{r:Nat}(B:0<=p)(h1:p+s<=es.length)(h2:1<=s):(newE es p s b).getD r 0=if p<=r/\(r:Int)<p+s then b else es.getD r 0:=by
 unfold newE
 rw[aK,aK]
 have Z:(es.take p.toNat++aP s.toNat b).length=(p+s).toNat:=by
  simp only[bJ,bR,bA]
  omega
 have lt:(es.take p.toNat).length=p.toNat:=by rw[bR];omega
 by_cases Y:r<p.toNat
 ·rw[if_neg (by omega),bQ (by omega),bQ (by omega),fL Y]
 ·by_cases X:r<(p+s).toNat
  ·rw[if_pos (by omega),bQ (by omega),bM (by omega),dJ,if_pos (by omega)]
   rfl
  ·rw[if_neg (by omega),bM (by omega),dM,Z,show(p+s).toNat+(r-(p+s).toNat)=r by omega]
structure hiOk(hs:List Int)(k:Nat)(es:List Int)(zs:List (Wi×Int)):Prop where
 el:es.length=hs.length
 up:∀r:Nat,r<hs.length->hs.getD r 0<=es.getD r 0/\es.getD r 0<=252+8*(k:Int)
 gr:∀z∈zs,grOk z.1/\z.1.2.1<=252+8*(k:Int)/\roB hs z.1 z.2=true/\∀r:Nat,z.2<=r->(r:Int)<z.2+z.1.2.2->z.1.2.1<=es.getD r 0
 pw:zs.Pairwise (λa b=>apB a.1 a.2 b.1 b.2=true)
theorem RP{es:List Int}{k:Nat}(H:hiOk hs k es zs)(D:k<16){b p s x y:Int}(b0:0<=b)(b1:b<250)(s0:1<=s)(s1:s<=6)(B:0<=p)(p1:p+s<=hs.length)(x0:0<=x)(x1:x<3)(y0:0<=y)(J:y<6)(f:Int)(hf:f=mx (b::sli es p s)+x):
 hiOk hs (k+1) (newE es p s (f+1+y)) (zs++[((f,f+1+y,s),p)]):=by
 have fb:b<=mx (b::sli es p s):=SQ (aC ..)
 have fe:∀r:Nat,p<=r->(r:Int)<p+s->es.getD r 0<=f:=λr h1 h2=>by
  have:=SQ (l:=b::sli es p s) (aJ _ (RN B h1 h2 (by rw[H.el];omega)))
  omega
 have K:mx (b::sli es p s)<=252+8*(k:Int):=by
  refine N7 (by simp) λa ha=>?_
  rcases aW.mp ha with rfl|ha
  ·omega
  ·obtain⟨r,h1,h2,Z,rfl⟩:=HJ B ha
   exact(H.up r (by rw[<-H.el];exact Z)).2
 have T:=λr:Nat=>N_ (es:=es) (b:=f+1+y) (r:=r) B (by rw[H.el];exact p1) s0
 refine⟨by rw[N8 B (by rw[H.el];exact p1) s0,H.el],λr S=>?_,λz Y=>?_,?_⟩
 ·rw[T r]
  have u:=H.up r S
  split
  ·next c=>
   have:=fe r c.1 c.2
   constructor<;>omega
  ·constructor<;>omega
 ·rcases bW.mp Y with Y|Y
  ·obtain⟨h1,h2,Z,V⟩:=H.gr z Y
   refine⟨h1,by omega,Z,λr W X=>?_⟩
   rw[T r]
   split
   ·next c=>
    have:=fe r c.1 c.2
    have:=V r W X
    omega
   ·exact V r W X
  ·cases aO.mp Y
   refine⟨⟨by show 0<=f;omega,by show f<f+1+y;omega,by show f+1+y<=400;omega,s0,s1⟩,by show f+1+y<=_;omega,?_,λr W X=>?_⟩
   ·have m:mx (sli hs p s)<=f:=by
     refine N7 (yd B (by omega) s0) λa ha=>?_
     obtain⟨r,h1,h2,Z,rfl⟩:=HJ B ha
     have:=fe r h1 h2
     have:=(H.up r Z).1
     omega
    show((decide (0<=p)&&decide (p<=(hs.length:Int)-s))&&decide (mx (sli hs p s)<=f))=true
    rw[dTr B,dTr (show p<=(hs.length:Int)-s by omega),dTr m]
    rfl
   ·show f+1+y<=_
    rw[T r,if_pos ⟨W,X⟩]
    exact eU _
 ·rw[aN]
  refine⟨H.pw,eV _ _,λz Y M U=>?_⟩
  cases aO.mp U
  obtain⟨h1,h2,Z,V⟩:=H.gr z Y
  show apB z.1 z.2 (f,f+1+y,s) p=true
  have N:0<=z.2:=by
   unfold roB at Z
   exact of_decide_eq_true (gZ.mp (gZ.mp Z).1).1
  unfold apB
  by_cases Q:z.2+z.1.2.2<=p
  ·rw[dTr Q]
   simp
  ·by_cases R:p+s<=z.2
   ·rw[dTr (show p+((f,f+1+y,s):Wi).2.2<=z.2 from R)]
    simp
   ·have L:=h1.s
    have O:=V (max z.2 p).toNat (by omega) (by omega)
    have P:=fe (max z.2 p).toNat (by omega) (by omega)
    rw[dTr (show z.1.2.1<=((f,f+1+y,s):Wi).1 from gY O P)]
    rfl
theorem YH(h1:∀z∈zs,grOk z.1/\roB hs z.1 z.2=true)(h2:zs.Pairwise (λa b=>apB a.1 a.2 b.1 b.2=true)):laB hs (zs.map Prod.fst) (zs.map Prod.snd)=true:=by
 have G:∀i (hi:i<zs.length),gat (zs.map Prod.fst) i=zs[i].1/\(zs.map Prod.snd).getD i 0=zs[i].2:=λi hi=>by
  unfold gat
  rw[aK,aK,aX,aX,au hi]
  exact⟨rfl,rfl⟩
 refine uN.mpr ⟨by simp,λi hi=>?_,λi hi=>?_⟩
 ·rw[aB]at hi
  rw[(G i hi).1,(G i hi).2]
  exact(h1 _ (b_ hi)).2
 ·rw[aB]at hi
  unfold beB
  rw[dD]
  intro j Y
  have Y:=bH.mp Y
  have Z:j<zs.length:=by omega
  rw[(G i hi).1,(G i hi).2,(G j Z).1,(G j Z).2,<-rB (h1 _ (b_ hi)).1 (h1 _ (b_ Z)).1]
  exact cO.mp h2 j i Z hi Y
theorem Oa{k:Wi}{p q:Int}(h:apB g p k q=true):apB k q g p=true:=by
 unfold apB at *
 simp only[jK,decide_eq_true_eq]at *
 omega
theorem RQ(t:Nat)(h:zs.Pairwise (λa b=>apB a.1 a.2 b.1 b.2=true)):(zs.drop t++zs.take t).Pairwise (λa b=>apB a.1 a.2 b.1 b.2=true):=by
 have p:(zs.drop t++zs.take t).Perm zs:=by
  have:=d_ (l₁:=zs.drop t) (l₂:=zs.take t)
  rwa[d9]at this
 exact(List.Perm.pairwise_iff (λ{a b} h=>Oa h) p).mpr h
theorem Ej{t:Nat}{z:Wi×Int}(h:z∈zs.drop t++zs.take t):z∈zs:=by
 rcases bW.mp h with h|h
 ·exact lR h
 ·exact lW h
theorem Ob(ns:List Int){w:Int}(w0:1<=w)(D:w<=6):∃hs:List Int,(hs.length:Int)=w/\(∀h∈hs,h<=252)/\Com.jw [.list (ns.map .int),.int w]=some (.list (hs.map .int)):=by
 have Q:qu (some [.int w])=some (d8 0 w):=Ba (by omega) (by omega)
 have T:Com.bw [.list (ns.map .int),.int 1,.int 0,.int 250]=some (.int (gG ns 1 0 250)):=gW (by decide) (by decide) (by decide) (by decide)
 have B:=gH ns 1 0 (m:=250) (by decide)
 generalize gG ns 1 0 250=b at T B
 obtain⟨S,e,hs,M,N,O,Z,rfl⟩:=jO (g:=(gNl 4)) (b:=(bY (bV 5 (dCall bw (aq (aj 0) (aq (dC (.int 2)) (aq (aj 4) (aq (dC (.int 9)) (aY))))))) (pB 3 (dOp gIx (mJ (aq (dC (.int 0)) (aq (dOp pY (dOp cX (aj 2) (aj 5)) (dC (.int 5))) (aY)))) (dCall zY (aq (dOp gGt (aj 5) (dC (.int 4))) (aY))))))) (λi δ=>∃(hs:List Int)(X Y:Option U),hs.length=i/\(∀h∈hs,h<=252)/\δ=[some (.d (.list (ns.map .int))),some (.d (.int w)),some (.d (.int b)),some (.d (.list (hs.map .int))),X,Y]) (d8 0 w) [some (.d (.list (ns.map .int))),some (.d (.int w)),some (.d (.int b)),some (.d (.list [])),none,none] ⟨[],none,none,rfl,by simp,rfl⟩
  (by
   rintro i d δ hd ⟨hs,X,Y,V,Z,rfl⟩
   obtain⟨L,rfl⟩:=iY hd
   have P:Com.bw [.list (ns.map .int),.int 2,.int (i:Int),.int 9]=some (.int (gG ns 2 (i:Int) 9)):=gW (by decide) (by omega) (by omega) (by decide)
   have R:=gH ns 2 (i:Int) (m:=9) (by decide)
   generalize gG ns 2 (i:Int) 9=x at P R
   have W:∀v:Int,(hs++[v]).map PyData.int=hs.map PyData.int++[.int v]:=λv=>by rw[cN];rfl
   by_cases c:4<x
   ·refine⟨_,_,rfl,.inl ?_,hs++[b+x-5],some (.d (.int (i:Int))),some (.d (.int x)),by rw[bJ,V];rfl,?_,rfl⟩
    ·rw[W]
     simp only[EV,reduceIte,aA,aD,ak,ao,aF,aG,aH,P,dTr c,show zY [.bool true]=some (.int 1)from rfl,at1,sz (show 2<=1000000 by decide),lMp,show hs.length<1000000 by omega]
    ·intro h hm
     rcases bW.mp hm with hm|hm
     ·exact Z h hm
     ·rw[aO.mp hm];omega
   ·refine⟨_,_,rfl,.inl ?_,hs++[0],some (.d (.int (i:Int))),some (.d (.int x)),by rw[bJ,V];rfl,?_,rfl⟩
    ·rw[W]
     simp only[EV,reduceIte,aA,aD,ak,ao,aF,aG,aH,P,dFa c,show zY [.bool false]=some (.int 0)from rfl,at0,sz (show 2<=1000000 by decide),lMp,show hs.length<1000000 by omega]
    ·intro h hm
     rcases bW.mp hm with hm|hm
     ·exact Z h hm
     ·rw[aO.mp hm];decide)
 refine⟨hs,by rw[O,Hl];omega,Z,?_⟩
 unfold Com.jw
 simp only[EV,reduceIte,aA,aD,ak,ao,aF,aG,aH,T,Q,e,jX,sz (show 0<=1000000 by decide)]
theorem Od(ns:List Int){hs es:List Int}{zs:List (Wi×Int)}{i:Nat}{b B:Int}{m:D}(q1:1<=B)(q2:B<=hs.length)(b0:0<=b)(b1:b<250)(w0:1<=hs.length)(w1:hs.length<=6)(H:hiOk hs i es zs)(lz:zs.length=i)(k16:i<16)(y9 y10 y11 y12:Option U):
 ∃J z,hiOk hs (i+1) J (zs++[z])/\B<=z.1.2.2/\∃z9 Y W O,((bY (bV 9 (dOp cX (aj 2) (dCall bw (aq (aj 0) (aq (dOp cX (dC (.int 3)) (aj 8)) (aq (dC (.int 0)) (aq (dOp cX (dOp pY (dCall jd (aq (aj 1) (aY))) (aj 2)) (dC (.int 1))) (aY)))))))) (bY (bV 10 (dCall bw (aq (aj 0) (aq (dOp cX (dC (.int 3)) (aj 8)) (aq (dC (.int 1)) (aq (dOp cX (dOp pY (dCall jd (aq (aj 1) (aY))) (aj 9)) (dC (.int 1))) (aY))))))) (bY (bV 11 (dOp cX (dCall pN (aq (dOp oJ (mJ (aq (aj 4) (aY))) (dSl (aj 5) (gj (aj 10)) (gj (dOp cX (aj 10) (aj 9))))) (aY))) (dCall bw (aq (aj 0) (aq (dOp cX (dC (.int 3)) (aj 8)) (aq (dC (.int 2)) (aq (dC (.int 3)) (aY)))))))) (bY (bV 12 (dOp cX (dOp cX (aj 11) (dC (.int 1))) (dCall bw (aq (aj 0) (aq (dOp cX (dC (.int 3)) (aj 8)) (aq (dC (.int 3)) (aq (dC (.int 6)) (aY)))))))) (bY (bV 5 (dOp oJ (dOp oJ (dSl (aj 5) pO (gj (aj 10))) (dOp wJ (mJ (aq (aj 12) (aY))) (aj 9))) (dSl (aj 5) (gj (dOp cX (aj 10) (aj 9))) pO))) (bY (pB 6 (dTup (aq (aj 11) (aq (aj 12) (aq (aj 9) (aY)))))) (pB 7 (aj 10))))))))) [some (.d (.list (ns.map .int))),some (.d (.list (hs.map .int))),some (.d (.int B)),some (.d m),some (.d (.int b)),some (.d (.list (es.map .int))),some (.d (.list ((zs.map Prod.fst).map wiD))),some (.d (.list ((zs.map Prod.snd).map .int))),some (.d (.int (i:Int))),y9,y10,y11,y12,none] =
  some (.nx [some (.d (.list (ns.map .int))),some (.d (.list (hs.map .int))),some (.d (.int B)),some (.d m),some (.d (.int b)),some (.d (.list (J.map .int))),some (.d (.list (((zs++[z]).map Prod.fst).map wiD))),some (.d (.list (((zs++[z]).map Prod.snd).map .int))),some (.d (.int (i:Int))),z9,Y,W,O,none]):=by
 have T:Com.bw [.list (ns.map .int),.int (3+(i:Int)),.int 0,.int ((hs.length:Int)-B+1)]=some (.int (gG ns (3+(i:Int)) 0 ((hs.length:Int)-B+1))):=gW (by omega) (by decide) (by decide) (by omega)
 have F:=gH ns (3+(i:Int)) 0 (m:=(hs.length:Int)-B+1) (by omega)
 generalize gG ns (3+(i:Int)) 0 ((hs.length:Int)-B+1)=s at T F
 have V:Com.bw [.list (ns.map .int),.int (3+(i:Int)),.int 1,.int ((hs.length:Int)-(B+s)+1)]=some (.int (gG ns (3+(i:Int)) 1 ((hs.length:Int)-(B+s)+1))):=gW (by omega) (by decide) (by decide) (by omega)
 have G:=gH ns (3+(i:Int)) 1 (m:=(hs.length:Int)-(B+s)+1) (by omega)
 generalize gG ns (3+(i:Int)) 1 ((hs.length:Int)-(B+s)+1)=p at V G
 have X:Com.bw [.list (ns.map .int),.int (3+(i:Int)),.int 2,.int 3]=some (.int (gG ns (3+(i:Int)) 2 3)):=gW (by omega) (by decide) (by decide) (by omega)
 have R2:=gH ns (3+(i:Int)) 2 (m:=3) (by omega)
 generalize gG ns (3+(i:Int)) 2 3=x at X R2
 have P3:Com.bw [.list (ns.map .int),.int (3+(i:Int)),.int 3,.int 6]=some (.int (gG ns (3+(i:Int)) 3 6)):=gW (by omega) (by decide) (by decide) (by omega)
 have I:=gH ns (3+(i:Int)) 3 (m:=6) (by omega)
 generalize gG ns (3+(i:Int)) 3 6=y at P3 I
 have el:=H.el
 have P:cutD (es.map PyData.int) (some p) (some (p+(B+s)))=(sli es p (B+s)).map .int:=vV (hs:=es) (by omega) (by rw[H.el];omega) (by omega)
 have sl:(sli es p (B+s)).length<=100:=by unfold sli;rw[bR,cL];omega
 have N:oJ (.list [.int b]) (.list ((sli es p (B+s)).map .int))=some (.list ((b::sli es p (B+s)).map .int)):=by
  rw[M5,if_pos (by rw[aB];simp only[bF,i_];omega)]
  rfl
 have Z:pN [.list ((b::sli es p (B+s)).map .int)]=some (.int (mx (b::sli es p (B+s)))):=Bg (by simp)
 have S:=RP H k16 (x:=x) (y:=y) (p:=p) (s:=B+s) b0 b1 (by omega) (by omega) (by omega) (by omega) (by omega) (by omega) (by omega) (by omega) _ rfl
 generalize mx (b::sli es p (B+s))=M at Z S
 have Z:pN [.list (.int b::(sli es p (B+s)).map .int)]=some (.int M):=Z
 have k1:cutD (es.map PyData.int) none (some p)=(es.take p.toNat).map .int:=by rw[Nf (by omega),jg]
 have k2:cutD (es.map PyData.int) (some (p+(B+s))) none=(es.drop (p+(B+s)).toNat).map .int:=by rw[Nb (by omega),jh]
 have R:wJ (.list [.int (M+x+1+y)]) (.int (B+s))=some (.list ((aP (B+s).toNat (M+x+1+y)).map PyData.int)):=M_ (by omega) (by omega)
 have K:oJ (.list ((es.take p.toNat).map .int)) (.list ((aP (B+s).toNat (M+x+1+y)).map PyData.int))=some (.list ((es.take p.toNat++aP (B+s).toNat (M+x+1+y)).map PyData.int)):=RM PyData.int (by rw[bR,bA];omega)
 have L:oJ (.list ((es.take p.toNat++aP (B+s).toNat (M+x+1+y)).map PyData.int)) (.list ((es.drop (p+(B+s)).toNat).map .int))=some (.list ((newE es p (B+s) (M+x+1+y)).map .int)):=RM PyData.int (by rw[bJ,bR,bA,cL];omega)
 refine⟨newE es p (B+s) (M+x+1+y),((M+x,M+x+1+y,B+s),p),S,(by show B<=B+s;omega),some (.d (.int (B+s))),some (.d (.int p)),some (.d (.int (M+x))),some (.d (.int (M+x+1+y))),?_⟩
 have mg:((zs++[((M+x,M+x+1+y,B+s),p)]).map Prod.fst).map wiD=(zs.map Prod.fst).map wiD++[.tuple [.int (M+x),.int (M+x+1+y),.int (B+s)]]:=by rw[cN,cN];rfl
 have Q:((zs++[((M+x,M+x+1+y,B+s),p)]).map Prod.snd).map PyData.int=(zs.map Prod.snd).map PyData.int++[.int p]:=by rw[cN,cN];rfl
 rw[mg,Q]
 simp only[EV,reduceIte,aA,aD,ak,ao,aF,aG,aH,T,V,X,P3,P,N,Z,k1,k2,R,K,L,lMp,sz (show 1<=1000000 by decide),sz (show 3<=1000000 by decide),show zs.length<1000000 by omega]
theorem Gd(ns:List Int){hs:List Int}{m D:Int}(q1:1<=D)(q2:D<=hs.length)(w0:1<=hs.length)(w1:hs.length<=6)(hh:∀h∈hs,h<=252)(m0:0<=m)(m1:m<=16):∃zs:List (Wi×Int),zs.length=m.toNat/\(∀z∈zs,grOk z.1/\z.1.2.1<=380/\roB hs z.1 z.2=true/\D<=z.1.2.2)/\zs.Pairwise (λa b=>apB a.1 a.2 b.1 b.2=true) /\
 Com.iu [.list (ns.map .int),.list (hs.map .int),.int D,.int m]=some (.tuple [.list ((zs.map Prod.fst).map wiD),.list ((zs.map Prod.snd).map .int)]):=by
 have F:qu (some [.int m])=some (d8 0 m):=Ba (by omega) (by omega)
 have I:Com.bw [.list (ns.map .int),.int 1,.int 0,.int 250]=some (.int (gG ns 1 0 250)):=gW (by decide) (by decide) (by decide) (by decide)
 have B:=gH ns 1 0 (m:=250) (by decide)
 generalize gG ns 1 0 250=b at I B
 have H0:hiOk hs 0 hs []:=⟨rfl,λr K=>⟨eU _,by
  rw[aK,au K]
  have:=hh _ (b_ K)
  show hs[r]<=_
  omega⟩,by simp,List.Pairwise.nil⟩
 obtain⟨G,e,es,zs,p,M,T,V,W,R,H,O,rfl⟩:=jO (g:=(gNl 8)) (b:=(bY (bV 9 (dOp cX (aj 2) (dCall bw (aq (aj 0) (aq (dOp cX (dC (.int 3)) (aj 8)) (aq (dC (.int 0)) (aq (dOp cX (dOp pY (dCall jd (aq (aj 1) (aY))) (aj 2)) (dC (.int 1))) (aY)))))))) (bY (bV 10 (dCall bw (aq (aj 0) (aq (dOp cX (dC (.int 3)) (aj 8)) (aq (dC (.int 1)) (aq (dOp cX (dOp pY (dCall jd (aq (aj 1) (aY))) (aj 9)) (dC (.int 1))) (aY))))))) (bY (bV 11 (dOp cX (dCall pN (aq (dOp oJ (mJ (aq (aj 4) (aY))) (dSl (aj 5) (gj (aj 10)) (gj (dOp cX (aj 10) (aj 9))))) (aY))) (dCall bw (aq (aj 0) (aq (dOp cX (dC (.int 3)) (aj 8)) (aq (dC (.int 2)) (aq (dC (.int 3)) (aY)))))))) (bY (bV 12 (dOp cX (dOp cX (aj 11) (dC (.int 1))) (dCall bw (aq (aj 0) (aq (dOp cX (dC (.int 3)) (aj 8)) (aq (dC (.int 3)) (aq (dC (.int 6)) (aY)))))))) (bY (bV 5 (dOp oJ (dOp oJ (dSl (aj 5) pO (gj (aj 10))) (dOp wJ (mJ (aq (aj 12) (aY))) (aj 9))) (dSl (aj 5) (gj (dOp cX (aj 10) (aj 9))) pO))) (bY (pB 6 (dTup (aq (aj 11) (aq (aj 12) (aq (aj 9) (aY)))))) (pB 7 (aj 10))))))))) (λi δ=>∃(es:List Int)(zs:List (Wi×Int))(L P X Y Z:Option U),zs.length=i/\hiOk hs i es zs/\(∀z∈zs,D<=z.1.2.2)/\δ=[some (.d (.list (ns.map .int))),some (.d (.list (hs.map .int))),some (.d (.int D)),some (.d (.int m)),some (.d (.int b)),some (.d (.list (es.map .int))),some (.d (.list ((zs.map Prod.fst).map wiD))),some (.d (.list ((zs.map Prod.snd).map .int))),L,P,X,Y,Z,none]) (d8 0 m)
  [some (.d (.list (ns.map .int))),some (.d (.list (hs.map .int))),some (.d (.int D)),some (.d (.int m)),some (.d (.int b)),some (.d (.list (hs.map .int))),some (.d (.list [])),some (.d (.list [])),none,none,none,none,none,none] ⟨hs,[],none,none,none,none,none,rfl,H0,(λ_ z=>nomatch z),rfl⟩
  (by
   rintro i d δ hd ⟨es,zs,L,P,X,Y,Z,R,H,O,rfl⟩
   obtain⟨o,rfl⟩:=iY hd
   obtain⟨N,z,q,Q,M,T,V,W,x⟩:=Od ns (m:=.int m) q1 q2 B.1 B.2 w0 w1 H R (by omega) P X Y Z
   exact⟨_,_,rfl,.inl x,N,zs++[z],_,M,T,V,W,by rw[bJ,R];rfl,q,(λy S=>by rcases bW.mp S with S|S;(exact O y S);(rw[aO.mp S];exact Q)),rfl⟩)
 rw[Hl]at R H
 have J:Com.bw [.list (ns.map .int),.int 2,.int 6,.int ((zs.length:Int)+1)]=some (.int (gG ns 2 6 ((zs.length:Int)+1))):=gW (by decide) (by decide) (by decide) (by omega)
 have R2:=gH ns 2 6 (m:=(zs.length:Int)+1) (by omega)
 generalize gG ns 2 6 ((zs.length:Int)+1)=t at J R2
 refine⟨zs.drop t.toNat++zs.take t.toNat,?_,λz Q=>?_,RQ _ H.pw,?_⟩
 ·rw[bJ,cL,bR]
  omega
 ·obtain⟨h1,h2,E,n⟩:=H.gr z (Ej Q)
  exact⟨h1,by omega,E,O z (Ej Q)⟩
 ·have s:cutD ((zs.map Prod.fst).map wiD) (some t) none=((zs.drop t.toNat).map Prod.fst).map wiD:=by rw[Nb (by omega),jh,jh]
  have u:cutD ((zs.map Prod.fst).map wiD) none (some t)=((zs.take t.toNat).map Prod.fst).map wiD:=by rw[Nf (by omega),jg,jg]
  have v:cutD ((zs.map Prod.snd).map PyData.int) (some t) none=((zs.drop t.toNat).map Prod.snd).map .int:=by rw[Nb (by omega),jh,jh]
  have w:cutD ((zs.map Prod.snd).map PyData.int) none (some t)=((zs.take t.toNat).map Prod.snd).map .int:=by rw[Nf (by omega),jg,jg]
  have A:oJ (.list (((zs.drop t.toNat).map Prod.fst).map wiD)) (.list (((zs.take t.toNat).map Prod.fst).map wiD))=some (.list (((zs.drop t.toNat++zs.take t.toNat).map Prod.fst).map wiD)):=by
   rw[RM wiD (by simp only[aB,cL,bR];omega),cN (f:=Prod.fst)]
  have C:oJ (.list (((zs.drop t.toNat).map Prod.snd).map PyData.int)) (.list (((zs.take t.toNat).map Prod.snd).map .int))=some (.list (((zs.drop t.toNat++zs.take t.toNat).map Prod.snd).map .int)):=by
   rw[RM PyData.int (by simp only[aB,cL,bR];omega),cN (f:=Prod.snd)]
  unfold Com.iu
  simp only[EV,reduceIte,aA,aD,ak,ao,aF,aG,aH,I,F,e,lMp,J,s,u,v,w,A,C,jX,oX wiD (λ_=>rfl),sz (show 0<=1000000 by decide),sz (show 2<=1000000 by decide)]
noncomputable def rest(g:Wi)(row:List Int):List Int:=row.map λe=>if e<=g.1 then 0 else e
theorem RV{s:Nat}(B:1<=g.2.2)(h:s+g.2.2.toNat<=row.length):(rest g row).take s++aP g.2.2.toNat g.2.1++(rest g row).drop (s+g.2.2.toNat)=Sd.put row (gp g) s:=by
 have Z:(rest g row).length=row.length:=by unfold rest;rw[aB]
 apply cF
 intro i
 unfold Sd.put
 rw[bZ]
 have gr:∀i,(rest g row)[i]? = row[i]?.map λe=>if e<=g.1 then 0 else e:=λi=>by unfold rest;rw[aX]
 by_cases h1:i<s
 ·rw[aQ,bQ (by rw[bR,Z];omega),fL h1,gr]
  congr 1
  funext e
  show _=if s<=i/\i<s+g.2.2.toNat then g.2.1 else if e<=g.1 then 0 else e
  rw[if_neg (show ¬(s<=i/\i<s+g.2.2.toNat)by omega)]
 ·by_cases h2:i<s+g.2.2.toNat
  ·rw[aQ,bM (by rw[bR,Z];omega),bQ (by rw[bR,Z,bA];omega),dJ,bR,Z,if_pos (by omega),au (by omega)]
   unfold Sd.cell gp
   rw[cP,if_pos (by dsimp only;omega)]
  ·have Y:((rest g row).take s++aP g.2.2.toNat g.2.1).length=s+g.2.2.toNat:=by rw[bJ,bR,Z,bA];omega
   rw[bM (by rw[Y];omega),dM,Y,show s+g.2.2.toNat+(i-(s+g.2.2.toNat))=i by omega,gr]
   congr 1
   funext e
   show _=if s<=i/\i<s+g.2.2.toNat then g.2.1 else if e<=g.1 then 0 else e
   rw[if_neg (show ¬(s<=i/\i<s+g.2.2.toNat)by omega)]
noncomputable def fac:Nat->Nat
 |0=>1
 |n+1=>(n+1)*fac n
theorem yr{α β:Type}[DecidableEq β](f:α->β):∀(ks:List β)(L:List α),(∀x∈L,f x∈ks)->L.length<=(ks.map λk=>(L.filter λx=>decide (f x=k)).length).sum
 |[],L,h=>by
  cases L with
  |nil=>simp
  |cons x r=>exact absurd (h x aC) fH
 |k::ks,L,h=>by
  have split:∀L:List α,L.length=(L.filter λx=>decide (f x=k)).length+(L.filter λx=>!decide (f x=k)).length:=λL=>by
   induction L with
   |nil=>rfl
   |cons x r Y=>
    rw[lJ,lJ]
    cases decide (f x=k)<;>simp<;>omega
  have Y:=yr f ks (L.filter λx=>!decide (f x=k)) (λx X=>by
   rw[dW]at X
   have hn:f x≠k:=by simpa using X.2
   rcases aW.mp (h x X.1)with z|z
   ·exact absurd z hn
   ·exact z)
  have sub:∀Z,((L.filter λx=>!decide (f x=k)).filter λx=>decide (f x=Z)).length<=(L.filter λx=>decide (f x=Z)).length:=λZ=>by
   have e:((L.filter λx=>!decide (f x=k)).filter λx=>decide (f x=Z))=(L.filter λx=>decide (f x=Z)).filter λx=>!decide (f x=k):=by
    rw[rZ,rZ]
    congr 1
    funext x
    exact Bool.and_comm _ _
   rw[e]
   exact pQ _ _
  have mono:∀ks:List β,(ks.map λZ=>((L.filter λx=>!decide (f x=k)).filter λx=>decide (f x=Z)).length).sum<=(ks.map λZ=>(L.filter λx=>decide (f x=Z)).length).sum:=λks=>by
   induction ks with
   |nil=>exact aL _
   |cons Z ks Y=>rw[bf,bf,jG,jG];exact Nat.add_le_add (sub Z) Y
  rw[bf,jG,split L]
  exact Nat.add_le_add_left (bL Y (mono ks)) _
theorem Oe{β:Type}(f:β->Nat)(c:Nat):∀ks:List β,(∀k∈ks,f k<=c)->(ks.map f).sum<=ks.length*c
 |[],_=>by simp
 |k::ks,h=>by
  rw[bf,jG,bF,Nat.succ_mul,Nat.add_comm]
  exact Nat.add_le_add (Oe f c ks λx Z=>h x (aJ _ Z)) (h k aC)
theorem yt:∀(n:Nat)(m:List Int),m.length=n->∀L:List (List Int),L.Nodup->(∀x∈L,x.Perm m)->L.length<=fac n
 |0,m,hm,L,nd,h=>by
  have hm:m=[]:=cj.mp hm
  subst hm
  match L,nd,h with
  |[],_,_=>exact cR _
  |[_],_,_=>exact aL _
  |x::y::r,nd,h=>
   have Z:x=[]:=(h x aC).eq_nil
   have X:y=[]:=(h y (aJ _ aC)).eq_nil
   rw[Z,X]at nd
   exact absurd aC (eN.mp nd).1
 |n+1,m,hm,L,nd,h=>by
  have ne:∀x∈L,∃a t,x=a::t/\a∈m:=λx Z=>by
   cases x with
   |nil=>have:=(h [] Z).length_eq;rw[hm]at this;cases this
   |cons a t=>exact⟨a,t,rfl,(h _ Z).mem_iff.mp aC⟩
  have c:=yr (λx:List Int=>x.headD 0) m L (λx Z=>by
   obtain⟨a,t,rfl,ha⟩:=ne x Z
   exact ha)
  refine bL c (bL (Oe _ (fac n) m λa ha=>?_) (by rw[hm];exact aL _))
  have Y:=yt n (m.erase a) (by rw[nO ha,hm];rfl) ((L.filter λx=>decide (x.headD 0=a)).map List.tail) (by
   show List.Pairwise _ _
   rw[fY]
   refine List.Pairwise.imp_of_mem (λ{x y} Z X W e=>W ?_) (nd.filter λx=>decide (x.headD 0=a))
   rw[dW]at Z X
   obtain⟨b,t,rfl,_⟩:=ne x Z.1
   obtain⟨S,t',rfl,_⟩:=ne y X.1
   have U:b=a:=by simpa using Z.2
   have V:S=a:=by simpa using X.2
   subst U V
   have e:t=t':=e
   rw[e]) (λt T=>by
   obtain⟨x,Z,rfl⟩:=cG.mp T
   rw[dW]at Z
   obtain⟨b,t,rfl,_⟩:=ne x Z.1
   have U:b=a:=by simpa using Z.2
   subst U
   exact List.Perm.cons_inv ((h _ Z.1).trans (pW ha)))
  rw[aB]at Y
  exact Y
noncomputable def can(g:Wi)(m:List Int):List Int:=m.filter (λe=>decide (g.1<e))++aP g.2.2.toNat g.2.1++aP ((m.filter λe=>decide (e<=g.1)).length-g.2.2.toNat) 0
theorem yu(g:Wi)(x:Int):∀X:List Int,(rest g X).count x=(X.filter λe=>decide (g.1<e)).count x+if x=0 then(X.filter λe=>decide (e<=g.1)).length else 0
 |[]=>by simp[rest]
 |e::X=>by
  have Z:=yu g x X
  have Y:rest g (e::X)=(if e<=g.1 then 0 else e)::rest g X:=rfl
  rw[Y,List.count_cons,Z]
  by_cases c:e<=g.1
  ·rw[if_pos c,j9 (by simp;omega),j_ (by simp;omega)]
   by_cases z:x=0
   ·subst z;simp;omega
   ·simp[z,Ne.symm z]
  ·rw[if_neg c,j_ (by simp;omega),j9 (by simp;omega),List.count_cons]
   omega
theorem RW{m:List Int}{s:Nat}(D:gOk g)(B:row.Perm m)(hs:s∈stN row g):(Sd.put row (gp g) s).Perm (can g m):=by
 have ft:=(vY D).mp hs
 have f1:s+g.2.2.toNat<=row.length:=ft.1
 have f2:∀r,s<=r->r<s+g.2.2.toNat->row.getD r 0<=g.1:=ft.2
 rw[<-RV D.1 f1]
 have ra:(rest g row).take s=rest g (row.take s):=by unfold rest;rw[jg]
 have rd:(rest g row).drop (s+g.2.2.toNat)=rest g (row.drop (s+g.2.2.toNat)):=by unfold rest;rw[jh]
 have W:row=row.take s++((row.drop s).take g.2.2.toNat++row.drop (s+g.2.2.toNat)):=by
  have:=(d9 g.2.2.toNat (row.drop s))
  rw[kW]at this
  rw[this,d9]
 have U:((row.drop s).take g.2.2.toNat).length=g.2.2.toNat:=by rw[bR,cL];omega
 have V:∀e∈(row.drop s).take g.2.2.toNat,e<=g.1:=λe Z=>by
  obtain⟨i,hi,rfl⟩:=iz Z
  rw[U]at hi
  have:=f2 (s+i) (by omega) (by omega)
  rw[m8,kY]
  rw[aK,au (by omega)]at this
  exact this
 have X:((row.drop s).take g.2.2.toNat).filter (λe=>decide (g.1<e))=[]:=List.filter_eq_nil_iff.mpr λe Z=>by have:=V e Z;simp;omega
 have Y:((row.drop s).take g.2.2.toNat).filter (λe=>decide (e<=g.1))=(row.drop s).take g.2.2.toNat:=List.filter_eq_self.mpr λe Z=>dTr (V e Z)
 have h1:(m.filter λe=>decide (g.1<e)).Perm ((row.take s).filter (λe=>decide (g.1<e))++(row.drop (s+g.2.2.toNat)).filter λe=>decide (g.1<e)):=by
  have:=(B.filter λe=>decide (g.1<e)).symm
  rw[W,jU,jU,X,cW]at this
  exact this
 have h2:(m.filter λe=>decide (e<=g.1)).length=((row.take s).filter λe=>decide (e<=g.1)).length+g.2.2.toNat+((row.drop (s+g.2.2.toNat)).filter λe=>decide (e<=g.1)).length:=by
  have:=(B.filter λe=>decide (e<=g.1)).length_eq.symm
  rw[W,jU,jU,Y,bJ,bJ,U]at this
  omega
 rw[List.perm_iff_count]
 intro x
 unfold can
 rw[ra,rd,fZ,fZ,fZ,fZ,yu,yu,h1.count_eq,fZ,h2,List.count_replicate (n:=_-_)]
 generalize ((row.take s).filter λe=>decide (e<=g.1)).length=p
 generalize ((row.drop (s+g.2.2.toNat)).filter λe=>decide (e<=g.1)).length=q
 by_cases z:x=0
 ·subst z;simp;omega
 ·simp[z,Ne.symm z];omega
theorem HS(x:Int):∀m:List Int,m.length=m.count x+(m.filter λa=>decide (a≠x)).length
 |[]=>rfl
 |a::r=>by
  have Z:=HS x r
  by_cases z:a=x
  ·subst z
   rw[List.count_cons_self,j9 (by simp),bF,Z]
   omega
  ·rw[List.count_cons_of_ne z,j_ (by simpa using z),bF,bF,Z]
   omega
theorem zP:∀(n:Nat)(m:List Int)(x:Int),m.length=n->2<=m.count x->∀L:List (List Int),L.Nodup->(∀y∈L,y.Perm m)->2*L.length<=fac n
 |0,m,x,hm,U,L,nd,h=>by
  have hm:m=[]:=cj.mp hm
  subst hm
  simp at U
 |n+1,m,x,hm,U,L,nd,h=>by
  have ne:∀y∈L,∃a t,y=a::t/\a∈m:=λy Z=>by
   cases y with
   |nil=>have:=(h [] Z).length_eq;rw[hm]at this;cases this
   |cons a t=>exact⟨a,t,rfl,(h _ Z).mem_iff.mp aC⟩
  have X:x∈m:=List.count_pos_iff.mp (by omega)
  have tl:∀a∈m,((L.filter λy=>decide (y.headD 0=a)).map List.tail).Nodup/\∀t∈(L.filter λy=>decide (y.headD 0=a)).map List.tail,t.Perm (m.erase a):=λa ha=>by
   refine⟨?_,λt R=>?_⟩
   ·show List.Pairwise _ _
    rw[fY]
    refine List.Pairwise.imp_of_mem (λ{y z} Z W V e=>V ?_) (nd.filter λy=>decide (y.headD 0=a))
    rw[dW]at Z W
    obtain⟨b,t,rfl,_⟩:=ne y Z.1
    obtain⟨Q,t',rfl,_⟩:=ne z W.1
    have Y:b=a:=by simpa using Z.2
    have T:Q=a:=by simpa using W.2
    subst Y T
    have e:t=t':=e
    rw[e]
   ·obtain⟨y,Z,rfl⟩:=cG.mp R
    rw[dW]at Z
    obtain⟨b,t,rfl,_⟩:=ne y Z.1
    have Y:b=a:=by simpa using Z.2
    subst Y
    exact List.Perm.cons_inv ((h _ Z.1).trans (pW ha))
  have el:∀a∈m,(m.erase a).length=n:=λa ha=>by rw[nO ha,hm];rfl
  have c:=yr (λy:List Int=>y.headD 0) (x::m.filter λa=>decide (a≠x)) L (λy Z=>by
   obtain⟨a,t,rfl,ha⟩:=ne y Z
   by_cases z:a=x
   ·rw[z];exact aC
   ·exact aJ _ (dW.mpr ⟨ha,dTr z⟩))
  have k1:(L.filter λy=>decide (y.headD 0=x)).length<=fac n:=by
   have:=yt n (m.erase x) (el x X) _ (tl x X).1 (tl x X).2
   rw[aB]at this
   exact this
  have k2:∀a∈m.filter (λa=>decide (a≠x)),2*(L.filter λy=>decide (y.headD 0=a)).length<=fac n:=λa ha=>by
   rw[dW]at ha
   have z:a≠x:=of_decide_eq_true ha.2
   have:=zP n (m.erase a) x (el a ha.1) (by rw[List.count_erase_of_ne (Ne.symm z)];exact U) _ (tl a ha.1).1 (tl a ha.1).2
   rw[aB]at this
   exact this
  have s2:∀ks:List Int,(∀a∈ks,2*(L.filter λy=>decide (y.headD 0=a)).length<=fac n)->2*(ks.map λa=>(L.filter λy=>decide (y.headD 0=a)).length).sum<=ks.length*fac n:=λks=>by
   induction ks with
   |nil=>intro _;exact cR _
   |cons a r S=>
    intro h
    have:=S λb Y=>h b (aJ _ Y)
    have:=h a aC
    rw[bf,jG,bF,Nat.add_mul r.length 1,Nat.one_mul]
    omega
  have s2:=s2 _ k2
  have fl:(m.filter λa=>decide (a≠x)).length+2<=n+1:=by
   have:=HS x m
   omega
  rw[bf,jG]at c
  show 2*L.length<=(n+1)*fac n
  have g:(m.filter λa=>decide (a≠x)).length*fac n+2*fac n<=(n+1)*fac n:=by
   rw[<-Nat.add_mul]
   exact Nat.mul_le_mul_right _ fl
  omega
theorem RX{m:List Int}(h:2<=g.2.2):2<=(can g m).count g.2.1:=by
 unfold can
 rw[fZ,fZ,List.count_replicate_self]
 omega
theorem YJ:∀w,w<=5->fac w<=120:=by decide
theorem HW{w:Nat}(D:1<=w)(B:w<=6):∀(gs:List Wi)(rows:List (List Int))(m:List Int),(∀g∈gs,gOk g/\(w=6->2<=g.2.2))->m.length=w->(∀r∈rows,r.Perm m)->Few (lv rows gs)
 |[],rows,m,_,_,_=>by
  rw[sZ]
  exact λ_ z=>nomatch z
 |g::gs,rows,m,T,hm,U=>by
  have R:=T g aC
  have kp:∀k∈dF (lD g rows []),k.Perm (can g m)/\k.length=w:=λk Z=>by
   obtain⟨q,Y,rfl⟩:=cG.mp Z
   rcases uo rows [] Y with z|⟨row,h1,s,h2,rfl⟩
   ·cases z
   ·exact⟨RW R.1 (U row h1) h2,by rw[Sd.Hr,(U row h1).length_eq,hm]⟩
  have nd:=Hw (g:=g) rows [] .nil
  have sl:(lD g rows []).length<=400:=by
   by_cases e:lD g rows []=[]
   ·rw[e];exact cR _
   obtain⟨q,Y⟩:=mZ _ e
   have Z:q.1∈dF (lD g rows []):=gh Y
   have cl:(can g m).length=w:=by rw[<-(kp _ Z).1.length_eq,(kp _ Z).2]
   have Q:(lD g rows []).length=(dF (lD g rows [])).length:=by unfold dF;rw[aB]
   rw[Q]
   by_cases c:w=6
   ·have:=zP w (can g m) g.2.1 cl (RX (R.2 c)) _ nd λy W=>(kp y W).1
    rw[c]at this
    have:fac 6=720:=rfl
    omega
   ·have:=yt w (can g m) cl _ nd λy W=>(kp y W).1
    have:=YJ w (by omega)
    omega
  rw[rC]
  intro S X
  rcases aW.mp X with rfl|X
  ·refine⟨sl,λk Z=>?_⟩
   have:=(kp k Z).2
   exact⟨λz=>by rw[z]at this;simp at this;omega,by omega⟩
  ·split at X
   ·cases X
   ·next e=>
    obtain⟨q,Y⟩:=mZ _ e
    have Z:q.1∈dF (lD g rows []):=gh Y
    have cl:(can g m).length=w:=by rw[<-(kp _ Z).1.length_eq,(kp _ Z).2]
    exact HW D B gs _ (can g m) (λg' h'=>T g' (aJ _ h')) cl (λr V=>(kp r ((f9 _).mem_iff.mp V)).1) S X
noncomputable def oR:Option Nat->D
 |none=>.none
 |some i=>.int (i:Int)
noncomputable def jf(row:List (Option Nat))(lo hi j i:Nat):List (Option Nat):=row.mapIdx λr d=>if(lo<=r/\r<hi)/\r<j then some i else d
theorem uQ{row:List (Option Nat)}:(jf row lo hi j i).length=row.length:=jR
theorem Og{row:List (Option Nat)}(h:j<=lo):jf row lo hi j i=row:=by
 unfold jf
 apply cF
 intro r
 rw[bZ]
 cases row[r]? with
 |none=>rfl
 |some d=>rw[cP,if_neg (by omega)]
theorem Ek{row:List (Option Nat)}(h1:lo<=j)(h2:j<hi)(B:j<row.length):(jf row lo hi j i).set j (some i)=jf row lo hi (j+1) i:=by
 apply cF
 intro r
 rw[kO]
 unfold jf
 rw[bZ,bZ,jR]
 by_cases c:j=r
 ·subst c
  rw[if_pos rfl,if_pos B,au B,cP,if_pos ⟨⟨h1,h2⟩,by omega⟩]
 ·rw[if_neg c]
  cases row[r]? with
  |none=>rfl
  |some d=>
   rw[cP,cP]
   by_cases z:(lo<=r/\r<hi)/\r<j
   ·rw[if_pos z,if_pos ⟨z.1,by omega⟩]
   ·rw[if_neg z,if_neg (by omega)]
theorem zQ{row:List (Option Nat)}(h:¬(lo<=j/\j<hi)):jf row lo hi (j+1) i=jf row lo hi j i:=by
 unfold jf
 apply cF
 intro r
 rw[bZ,bZ]
 cases row[r]? with
 |none=>rfl
 |some d=>
  rw[cP,cP]
  by_cases z:(lo<=r/\r<hi)/\r<j
  ·rw[if_pos z,if_pos ⟨z.1,by omega⟩]
  ·rw[if_neg z,if_neg (by omega)]
theorem Oh{row:List (Option Nat)}(h:hi<=j):jf row lo hi j i=jf row lo hi hi i:=by
 unfold jf
 apply cF
 intro r
 rw[bZ,bZ]
 cases row[r]? with
 |none=>rfl
 |some d=>
  rw[cP,cP]
  by_cases z:(lo<=r/\r<hi)
  ·rw[if_pos ⟨z,by omega⟩,if_pos ⟨z,by omega⟩]
  ·rw[if_neg (by omega),if_neg (by omega)]
noncomputable def jF(w:Nat)(gs:List Wi)(ps:List Int)(t:Int):Nat->List (Option Nat)
 |0=>aP w none
 |j+1=>if(gat gs j).1<=t/\t<(gat gs j).2.1 then jf (jF w gs ps t j) (ps.getD j 0).toNat (ps.getD j 0+(gat gs j).2.2).toNat (ps.getD j 0+(gat gs j).2.2).toNat j else jF w gs ps t j
theorem qw{w:Nat}{ps:List Int}{t:Int}:∀j,(jF w gs ps t j).length=w
 |0=>bA
 |j+1=>by
  unfold jF
  split
  ·rw[uQ,qw j]
  ·exact qw j
theorem YK{row:List (Option Nat)}:(row.map oR).set j (.int (i:Int))=(row.set j (some i)).map oR:=by rw[List.map_set];rfl
theorem El(row:List (Option Nat)):flats (row.map oR)=true:=oX oR (λo=>by cases o<;>rfl) row
section
variable{gs:List Wi}{ps:List Int}{w:Nat}{t:Int}
noncomputable def inW(gs:List Wi)(ps:List Int)(w:Nat):Prop:=ps.length=gs.length/\∀i,i<gs.length->0<=ps.getD i 0/\ps.getD i 0+(gat gs i).2.2<=w/\1<=(gat gs i).2.2
theorem YL{row:List (Option Nat)}{p s:Int}(D:0<=p)(s0:1<=s)(pw:p+s<=row.length)(a b c d e u:Option U):
 ∃B,jc (gNl 7) (m5 4 (aj 7) (aj 5)) (d8 p (p+s)) [a,b,c,d,some (.d (.list (row.map oR))),some (.d (.int (i:Int))),e,u]=some (.nx [a,b,c,d,some (.d (.list ((jf row p.toNat (p+s).toNat (p+s).toNat i).map oR))),some (.d (.int (i:Int))),e,B]):=by
 obtain⟨X,f,B,rfl⟩:=jO (g:=gNl 7) (b:=m5 4 (aj 7) (aj 5)) (λj δ=>∃B,δ=[a,b,c,d,some (.d (.list ((jf row p.toNat (p+s).toNat (p.toNat+j) i).map oR))),some (.d (.int (i:Int))),e,B]) (d8 p (p+s)) _ ⟨u,by rw[Og (by omega)]⟩ (by
  rintro j x δ hd ⟨B,rfl⟩
  have Y:(j:Int)<s/\x = .int (p+(j:Int)):=by
   unfold d8 at hd
   rw[aX]at hd
   cases Z:(bC (p+s-p).toNat)[j]? with
   |none=>rw[Z]at hd;cases hd
   |some k=>
    rw[Z]at hd
    obtain⟨h1,h2⟩:=cY.mp Z
    rw[jT]at h2
    rw[cC]at h1
    subst h2
    cases hd
    exact⟨by omega,rfl⟩
  obtain⟨Y,rfl⟩:=Y
  have W:pIx ((jf row p.toNat (p+s).toNat (p.toNat+j) i).map oR).length (p+(j:Int))=some (p.toNat+j):=by
   unfold pIx
   rw[aB,uQ,if_pos (by omega),if_pos (by omega)]
   congr 1
   omega
  have V:m5 4 (aj 7) (aj 5) [a,b,c,d,some (.d (.list ((jf row p.toNat (p+s).toNat (p.toNat+j) i).map oR))),some (.d (.int (i:Int))),e,some (.d (.int (p+(j:Int))))]=some (.nx [a,b,c,d,some (.d (.list ((jf row p.toNat (p+s).toNat (p.toNat+(j+1)) i).map oR))),some (.d (.int (i:Int))),e,some (.d (.int (p+(j:Int))))]):=by
   simp only[EV,reduceIte,aA,aD,ak,ao,aF,aG,aH,W,aM]
   rw[YK,Ek (by omega) (by omega) (by omega)]
   rfl
  exact⟨_,_,rfl,.inl V,_,rfl⟩)
 refine⟨B,?_⟩
 rw[f]
 have:(d8 p (p+s)).length=s.toNat:=by rw[tX];omega
 rw[this,show p.toNat+s.toNat=(p+s).toNat by omega]
theorem Ge(h:inW gs ps w)(B:w<=1000)(D:gs.length<=1000):Com.lB [.int (w:Int),.list (gs.map wiD),.list (ps.map .int),.int t]=some (.list ((jF w gs ps t gs.length).map oR)):=by
 have V:=NP B
 have Q:aP w PyData.none=(jF w gs ps t 0).map oR:=by unfold jF;rw[su];rfl
 rw[Q]at V
 have el:(lG (gs.map wiD)).length=gs.length:=by unfold lG;rw[jR,aB]
 obtain⟨S,f,W,X,Z,rfl⟩:=jO (g:=(gTn 2 (dw (gNl 5) (dw (gNl 6) (lF))))) (b:=(sIf (bO (dCall nH (aq (dCall gJ (aq (aj 6) (aY))) (aq (aj 3) (aY))))) (k_ (Ci (aq (dOp gIx (aj 2) (aj 5)) (aq (dOp cX (dOp gIx (aj 2) (aj 5)) (dOp gIx (aj 6) (dC (.int 2)))) (aY)))) (gNl 7) (m5 4 (aj 7) (aj 5))) (dZ))) (λj δ=>∃W X Z,δ=[some (.d (.int (w:Int))),some (.d (.list (gs.map wiD))),some (.d (.list (ps.map .int))),some (.d (.int t)),some (.d (.list ((jF w gs ps t j).map oR))),W,X,Z]) (lG (gs.map wiD)) _ ⟨none,none,none,rfl⟩ (by
  rintro j x δ hd ⟨W,X,Z,rfl⟩
  obtain⟨O,rfl⟩:=Nq hd
  obtain⟨P,pw,s0⟩:=h.2 j O
  have T:=jH PyData.int (l:=ps) 0 (i:=(j:Int)) (by omega) (by rw[h.1];omega)
  rw[dG]at T
  have i2:gIx (wiD (gat gs j)) (.int 2)=some (.int (gat gs j).2.2):=rfl
  have U:=yc (gat gs j)
  have Y:Com.nH [.tuple [.int (gat gs j).1,.int (gat gs j).2.1],.int t]=some (.bool (decide ((gat gs j).1<=t)&&decide (t<(gat gs j).2.1))):=by
   unfold Com.nH
   cases c:decide ((gat gs j).1<=t)with
   |true=>simp only[EV,reduceIte,aA,aD,ak,ao,aF,aG,aH,at0,at1,c,Bool.true_and]
   |false=>simp only[EV,reduceIte,aA,aD,ak,ao,aF,aG,aH,at0,at1,c,Bool.false_and]
  have R:Hi (some [.int (ps.getD j 0),.int (ps.getD j 0+(gat gs j).2.2)])=some (d8 (ps.getD j 0) (ps.getD j 0+(gat gs j).2.2)):=ZK (by omega) (by omega) (by omega) (by omega)
  by_cases c:(gat gs j).1<=t/\t<(gat gs j).2.1
  ·obtain⟨M,fi⟩:=YL (row:=jF w gs ps t j) (i:=j) P s0 (by rw[qw];omega) (some (.d (.int (w:Int)))) (some (.d (.list (gs.map wiD)))) (some (.d (.list (ps.map .int)))) (some (.d (.int t))) (some (.d (wiD (gat gs j)))) Z
   have ac:jF w gs ps t (j+1)=jf (jF w gs ps t j) (ps.getD j 0).toNat (ps.getD j 0+(gat gs j).2.2).toNat (ps.getD j 0+(gat gs j).2.2).toNat j:=by conv=>lhs;unfold jF;rw[if_pos c]
   rw[dTr c.1,dTr c.2,Bool.and_self]at Y
   refine⟨[some (.d (.int (w:Int))),some (.d (.list (gs.map wiD))),some (.d (.list (ps.map .int))),some (.d (.int t)),some (.d (.list ((jF w gs ps t j).map oR))),some (.d (.int (j:Int))),some (.d (wiD (gat gs j))),Z],_,rfl,.inl (by simp only[EV,reduceIte,aA,aD,ak,ao,aF,aG,aH,U,Y,T,i2,R,fi];rfl),_,_,_,by rw[ac]⟩
  ·have ac:jF w gs ps t (j+1)=jF w gs ps t j:=by conv=>lhs;unfold jF;rw[if_neg c]
   have N:(decide ((gat gs j).1<=t)&&decide (t<(gat gs j).2.1))=false:=by
    cases z:(decide ((gat gs j).1<=t)&&decide (t<(gat gs j).2.1))with
    |false=>rfl
    |true=>
     rw[aU]at z
     exact absurd ⟨of_decide_eq_true z.1,of_decide_eq_true z.2⟩ c
   rw[N]at Y
   exact⟨[some (.d (.int (w:Int))),some (.d (.list (gs.map wiD))),some (.d (.list (ps.map .int))),some (.d (.int t)),some (.d (.list ((jF w gs ps t j).map oR))),some (.d (.int (j:Int))),some (.d (wiD (gat gs j))),Z],_,rfl,.inl (by simp only[EV,reduceIte,aA,aD,ak,ao,aF,aG,aH,U,Y];rfl),_,_,_,by rw[ac]⟩)
 rw[el]at f
 have fl:flats ((jF w gs ps t gs.length).map oR)=true:=El _
 unfold Com.lB
 simp only[EV,reduceIte,aA,aD,ak,ao,aF,aG,aH,V,f,fl,Com.sz (show 1<=1000000 by decide)]
end
section
variable{gs:List Wi}{ps:List Int}{w:Nat}{t:Int}
theorem YM(h:inW gs ps w){i:Nat}(hi:i<gs.length){row:List (Option Nat)}(J:row.length=w)(D:w<=1000)(u:Option U):
 ∃B,jc (gNl 6) (sIf (D3.oE (bO (eX gLe gLt (dOp gIx (dOp gIx (aj 1) (aj 5)) (dC (.int 0))) (aj 3) (dOp gIx (dOp gIx (aj 1) (aj 5)) (dC (.int 1))))) (bO (eX gLe gLt (dOp gIx (aj 2) (aj 5)) (aj 6) (dOp cX (dOp gIx (aj 2) (aj 5)) (dOp gIx (dOp gIx (aj 1) (aj 5)) (dC (.int 2))))))) (m5 4 (aj 6) (aj 5)) (dZ)) (d8 0 (w:Int)) [some (.d (.int (w:Int))),some (.d (.list (gs.map wiD))),some (.d (.list (ps.map .int))),some (.d (.int t)),some (.d (.list (row.map oR))),some (.d (.int (i:Int))),u] =
  some (.nx [some (.d (.int (w:Int))),some (.d (.list (gs.map wiD))),some (.d (.list (ps.map .int))),some (.d (.int t)),some (.d (.list ((if(gat gs i).1<=t/\t<(gat gs i).2.1 then jf row (ps.getD i 0).toNat (ps.getD i 0+(gat gs i).2.2).toNat (ps.getD i 0+(gat gs i).2.2).toNat i else row).map oR))),some (.d (.int (i:Int))),B]):=by
 obtain⟨Q,pw,s0⟩:=h.2 i hi
 have ga:=Ga hi
 have Y:=jH PyData.int (l:=ps) 0 (i:=(i:Int)) (by omega) (by rw[h.1];omega)
 rw[dG]at Y
 have X:gIx (wiD (gat gs i)) (.int 0)=some (.int (gat gs i).1):=rfl
 have i1:gIx (wiD (gat gs i)) (.int 1)=some (.int (gat gs i).2.1):=rfl
 have i2:gIx (wiD (gat gs i)) (.int 2)=some (.int (gat gs i).2.2):=rfl
 generalize ps.getD i 0=p at *
 generalize hs:(gat gs i).2.2=s at *
 by_cases c:(gat gs i).1<=t/\t<(gat gs i).2.1
 ·rw[if_pos c]
  obtain⟨W,f,B,rfl⟩:=jO (g:=(gNl 6)) (b:=(sIf (D3.oE (bO (eX gLe gLt (dOp gIx (dOp gIx (aj 1) (aj 5)) (dC (.int 0))) (aj 3) (dOp gIx (dOp gIx (aj 1) (aj 5)) (dC (.int 1))))) (bO (eX gLe gLt (dOp gIx (aj 2) (aj 5)) (aj 6) (dOp cX (dOp gIx (aj 2) (aj 5)) (dOp gIx (dOp gIx (aj 1) (aj 5)) (dC (.int 2))))))) (m5 4 (aj 6) (aj 5)) (dZ))) (λj δ=>∃B,δ=[some (.d (.int (w:Int))),some (.d (.list (gs.map wiD))),some (.d (.list (ps.map .int))),some (.d (.int t)),some (.d (.list ((jf row p.toNat (p+s).toNat j i).map oR))),some (.d (.int (i:Int))),B]) (d8 0 (w:Int)) [some (.d (.int (w:Int))),some (.d (.list (gs.map wiD))),some (.d (.list (ps.map .int))),some (.d (.int t)),some (.d (.list (row.map oR))),some (.d (.int (i:Int))),u] ⟨u,by rw[Og (cR _)]⟩ (by
   rintro j x δ hd ⟨B,rfl⟩
   obtain⟨R,rfl⟩:=iY hd
   have S:pIx ((jf row p.toNat (p+s).toNat j i).map oR).length (j:Int)=some j:=by
    unfold pIx
    rw[aB,uQ,if_pos (by omega),if_pos (by omega)]
    congr 1
   have V:(sIf (D3.oE (bO (eX gLe gLt (dOp gIx (dOp gIx (aj 1) (aj 5)) (dC (.int 0))) (aj 3) (dOp gIx (dOp gIx (aj 1) (aj 5)) (dC (.int 1))))) (bO (eX gLe gLt (dOp gIx (aj 2) (aj 5)) (aj 6) (dOp cX (dOp gIx (aj 2) (aj 5)) (dOp gIx (dOp gIx (aj 1) (aj 5)) (dC (.int 2))))))) (m5 4 (aj 6) (aj 5)) (dZ)) [some (.d (.int (w:Int))),some (.d (.list (gs.map wiD))),some (.d (.list (ps.map .int))),some (.d (.int t)),some (.d (.list ((jf row p.toNat (p+s).toNat j i).map oR))),some (.d (.int (i:Int))),some (.d (.int (j:Int)))]=some (.nx [some (.d (.int (w:Int))),some (.d (.list (gs.map wiD))),some (.d (.list (ps.map .int))),some (.d (.int t)),some (.d (.list ((jf row p.toNat (p+s).toNat (j+1) i).map oR))),some (.d (.int (i:Int))),some (.d (.int (j:Int)))]):=by
    by_cases Z:p<=(j:Int)
    ·by_cases T:(j:Int)<p+s
     ·rw[<-Ek (show p.toNat<=j by omega) (show j<(p+s).toNat by omega) (by omega),<-YK]
      simp only[EV,reduceIte,aA,aD,ak,ao,aF,aG,aH,ga,X,i1,i2,Y,dTr c.1,dTr c.2,dTr Z,dTr T,S,aM]
     ·rw[zQ (by omega)]
      simp only[EV,reduceIte,aA,aD,ak,ao,aF,aG,aH,ga,X,i1,i2,Y,dTr c.1,dTr c.2,dTr Z,dFa T]
    ·rw[zQ (by omega)]
     simp only[EV,reduceIte,aA,aD,ak,ao,aF,aG,aH,ga,X,i1,i2,Y,dTr c.1,dTr c.2,dFa Z]
   exact⟨_,_,rfl,.inl V,_,rfl⟩)
  refine⟨B,?_⟩
  rw[f]
  have:(d8 0 (w:Int)).length=w:=by rw[tX];omega
  rw[this,Oh (show(p+s).toNat<=w by omega)]
 ·rw[if_neg c]
  obtain⟨W,f,B,rfl⟩:=jO (g:=(gNl 6)) (b:=(sIf (D3.oE (bO (eX gLe gLt (dOp gIx (dOp gIx (aj 1) (aj 5)) (dC (.int 0))) (aj 3) (dOp gIx (dOp gIx (aj 1) (aj 5)) (dC (.int 1))))) (bO (eX gLe gLt (dOp gIx (aj 2) (aj 5)) (aj 6) (dOp cX (dOp gIx (aj 2) (aj 5)) (dOp gIx (dOp gIx (aj 1) (aj 5)) (dC (.int 2))))))) (m5 4 (aj 6) (aj 5)) (dZ))) (λj δ=>∃B,δ=[some (.d (.int (w:Int))),some (.d (.list (gs.map wiD))),some (.d (.list (ps.map .int))),some (.d (.int t)),some (.d (.list (row.map oR))),some (.d (.int (i:Int))),B]) (d8 0 (w:Int)) [some (.d (.int (w:Int))),some (.d (.list (gs.map wiD))),some (.d (.list (ps.map .int))),some (.d (.int t)),some (.d (.list (row.map oR))),some (.d (.int (i:Int))),u] ⟨u,rfl⟩ (by
   rintro j x δ hd ⟨B,rfl⟩
   obtain⟨R,rfl⟩:=iY hd
   have V:(sIf (D3.oE (bO (eX gLe gLt (dOp gIx (dOp gIx (aj 1) (aj 5)) (dC (.int 0))) (aj 3) (dOp gIx (dOp gIx (aj 1) (aj 5)) (dC (.int 1))))) (bO (eX gLe gLt (dOp gIx (aj 2) (aj 5)) (aj 6) (dOp cX (dOp gIx (aj 2) (aj 5)) (dOp gIx (dOp gIx (aj 1) (aj 5)) (dC (.int 2))))))) (m5 4 (aj 6) (aj 5)) (dZ)) [some (.d (.int (w:Int))),some (.d (.list (gs.map wiD))),some (.d (.list (ps.map .int))),some (.d (.int t)),some (.d (.list (row.map oR))),some (.d (.int (i:Int))),some (.d (.int (j:Int)))]=some (.nx [some (.d (.int (w:Int))),some (.d (.list (gs.map wiD))),some (.d (.list (ps.map .int))),some (.d (.int t)),some (.d (.list (row.map oR))),some (.d (.int (i:Int))),some (.d (.int (j:Int)))]):=by
    by_cases Z:(gat gs i).1<=t
    ·simp only[EV,reduceIte,aA,aD,ak,ao,aF,aG,aH,ga,X,i1,i2,Y,dTr Z,dFa (show ¬t<(gat gs i).2.1 from λz=>c ⟨Z,z⟩)]
    ·simp only[EV,reduceIte,aA,aD,ak,ao,aF,aG,aH,ga,X,i1,i2,Y,dFa Z]
   exact⟨_,_,rfl,.inl V,_,rfl⟩)
  exact⟨B,f⟩
theorem Em(h:inW gs ps w)(B:w<=1000)(D:gs.length<=1000):jY [.int (w:Int),.list (gs.map wiD),.list (ps.map .int),.int t]=some (.list ((jF w gs ps t gs.length).map oR)):=by
 have W:=NP B
 have S:aP w PyData.none=(jF w gs ps t 0).map oR:=by unfold jF;rw[su];rfl
 rw[S]at W
 have T:qu (some [.int (gs.length:Int)])=some (d8 0 (gs.length:Int)):=Ba (by omega) (by omega)
 have X:qu (some [.int (w:Int)])=some (d8 0 (w:Int)):=Ba (by omega) (by omega)
 obtain⟨V,f,Y,Z,rfl⟩:=jO (g:=(gNl 5)) (b:=(k_ (lu (aq (aj 0) (aY))) (gNl 6) (sIf (D3.oE (bO (eX gLe gLt (dOp gIx (dOp gIx (aj 1) (aj 5)) (dC (.int 0))) (aj 3) (dOp gIx (dOp gIx (aj 1) (aj 5)) (dC (.int 1))))) (bO (eX gLe gLt (dOp gIx (aj 2) (aj 5)) (aj 6) (dOp cX (dOp gIx (aj 2) (aj 5)) (dOp gIx (dOp gIx (aj 1) (aj 5)) (dC (.int 2))))))) (m5 4 (aj 6) (aj 5)) (dZ)))) (λj δ=>∃Y Z,δ=[some (.d (.int (w:Int))),some (.d (.list (gs.map wiD))),some (.d (.list (ps.map .int))),some (.d (.int t)),some (.d (.list ((jF w gs ps t j).map oR))),Y,Z]) (d8 0 (gs.length:Int)) [some (.d (.int (w:Int))),some (.d (.list (gs.map wiD))),some (.d (.list (ps.map .int))),some (.d (.int t)),some (.d (.list ((jF w gs ps t 0).map oR))),none,none] ⟨none,none,rfl⟩ (by
  rintro j x δ hd ⟨Y,Z,rfl⟩
  obtain⟨P,rfl⟩:=iY hd
  obtain⟨U,fi⟩:=YM (t:=t) h (i:=j) (by omega) (row:=jF w gs ps t j) (qw j) B Z
  have Q:(k_ (lu (aq (aj 0) (aY))) (gNl 6) (sIf (D3.oE (bO (eX gLe gLt (dOp gIx (dOp gIx (aj 1) (aj 5)) (dC (.int 0))) (aj 3) (dOp gIx (dOp gIx (aj 1) (aj 5)) (dC (.int 1))))) (bO (eX gLe gLt (dOp gIx (aj 2) (aj 5)) (aj 6) (dOp cX (dOp gIx (aj 2) (aj 5)) (dOp gIx (dOp gIx (aj 1) (aj 5)) (dC (.int 2))))))) (m5 4 (aj 6) (aj 5)) (dZ))) [some (.d (.int (w:Int))),some (.d (.list (gs.map wiD))),some (.d (.list (ps.map .int))),some (.d (.int t)),some (.d (.list ((jF w gs ps t j).map oR))),some (.d (.int (j:Int))),Z]=some (.nx [some (.d (.int (w:Int))),some (.d (.list (gs.map wiD))),some (.d (.list (ps.map .int))),some (.d (.int t)),some (.d (.list ((jF w gs ps t (j+1)).map oR))),some (.d (.int (j:Int))),U]):=by
   rw[show jF w gs ps t (j+1)=(if(gat gs j).1<=t/\t<(gat gs j).2.1 then jf (jF w gs ps t j) (ps.getD j 0).toNat (ps.getD j 0+(gat gs j).2.2).toNat (ps.getD j 0+(gat gs j).2.2).toNat j else jF w gs ps t j)by conv=>lhs;unfold jF,<-fi]
   simp only[EV,reduceIte,aA,aD,ak,ao,aF,aG,aH,X]
  exact⟨_,_,rfl,.inl Q,_,_,rfl⟩)
 have R:(d8 0 (gs.length:Int)).length=gs.length:=by rw[tX];omega
 rw[R]at f
 have fl:flats ((jF w gs ps t gs.length).map oR)=true:=El _
 have f1:fl1 (.list ((jF w gs ps t gs.length).map oR))=true:=fl
 unfold jY
 simp only[EV,reduceIte,aA,aD,ak,ao,aF,aG,aH,W,lMp,T,f,fl,f1,Com.sz (show 1<=1000000 by decide)]
end
theorem Oi{B:List Int}(D:∀g∈gs,grOk g/\gOk g/\(hs.length=6->2<=g.2.2))(O:gs.length<64)(w1:1<=hs.length)(w6:hs.length<=6)(J:laB hs gs B=true):
 ∃ps:List Int,laB hs gs ps=true/\ps.length=gs.length/\kI [.list (hs.map .int),.list (gs.map wiD)]=some (.list (ps.map .int)):=by
 have go:∀g∈gs,grOk g:=λg h=>(D g h).1
 have W:∀g∈gs,gOk g:=λg h=>(D g h).2.1
 have Z:∀g∈gs,grOk g/\gOk g:=λg h=>⟨(D g h).1,(D g h).2.1⟩
 obtain⟨ts,N,pm,pw⟩:=JL (gs:=gs) O
 have K:∀g∈inT gs ts,gOk g/\(hs.length=6->2<=g.2.2):=λg h=>by
  obtain⟨t,h1,rfl⟩:=cG.mp h
  have:=bH.mp (pm.mem_iff.mp h1)
  unfold gat
  rw[aK,au this]
  exact(D _ (b_ this)).2
 have H:Few (lv [hs] (inT gs ts)):=HW w1 w6 (inT gs ts) [hs] hs K rfl λr M=>by rw[aO.mp M]
 obtain⟨V,R,C⟩:=uN.mp J
 have hn:[]∉lv [hs] (inT gs ts):=λhn=>by
  have z:=JR Z pm pw hn λi=>(B.getD i 0).toNat
  have e:((bC gs.length).map λi=>(((B.getD i 0).toNat:Nat):Int))=B:=by
   apply ou
   ·rw[aB,cC,V]
   ·intro i A U
    have I:i<gs.length:=by rw[<-V];exact U
    rw[gO,jT]
    have:=R i I
    unfold roB at this
    rw[aU,aU]at this
    have Y:=of_decide_eq_true this.1.1
    rw[aK,au U]at Y ⊢
    show((B[i].toNat:Nat):Int)=B[i]
    have Y:0<=B[i]:=Y
    omega
  rw[e,J]at z
  cases z
 obtain⟨ss,out,sl,run,L⟩:=NZ W O (by omega) N pm H hn
 have T:=JT Z pm pw sl run
 have pl:(vp gs.length ts ss).length=gs.length:=by unfold vp;rw[aB,cC]
 refine⟨vp gs.length ts ss,T,pl,?_⟩
 generalize vp gs.length ts ss=ps at *
 have E:=JH go
 have LL:sY [.list (hs.map .int),.list (gs.map wiD)]=some (.tuple [.str "laid", .list (ps.map .int)]):=by
  unfold sY
  simp only[EV,reduceIte,aA,aD,ak,ao,aF,aG,aH,E,L]
 have nd:ndT (.tuple [.str "laid", .list (ps.map .int)])=true:=by
  have f1:fl1 (.list (ps.map PyData.int))=true:=jX ps
  unfold ndT
  dsimp only
  rw[nJ,nJ,List.all_nil,f1,show fl1 (.str "laid")=true from rfl]
  show decide ([(ps.map PyData.int).length].Nodup)=true
  exact dTr (eN.mpr ⟨fH,.nil⟩)
 have F:dNd (dCall sY (aq (aj 0) (aq (aj 1) (aY)))) [some (.d (.list (hs.map .int))),some (.d (.list (gs.map wiD))),none]=some (.tuple [.str "laid", .list (ps.map .int)]):=by
  unfold dNd
  rw[show dCall sY (aq (aj 0) (aq (aj 1) (aY))) [some (.d (.list (hs.map .int))),some (.d (.list (gs.map wiD))),none]=some (.tuple [.str "laid", .list (ps.map .int)])by simp only[EV,reduceIte,aA,aD,ak,ao,aF,aG,aH,LL],aM,if_pos nd]
 have ty:D3.isT "tuple" (tyD (.tuple [.str "laid", .list (ps.map .int)]))=true:=isTup
 have l2:jd [.tuple [.str "laid", .list (ps.map .int)]]=some (.int 2):=rfl
 have X:gNe (.int 2) (.int 2)=some (.bool false):=rfl
 have P:gIx (.tuple [.str "laid", .list (ps.map .int)]) (.int 0)=some (.str "laid"):=rfl
 have i1:gIx (.tuple [.str "laid", .list (ps.map .int)]) (.int 1)=some (.list (ps.map .int)):=rfl
 have Q:gNe (.str "laid") (.str "laid")=some (.bool false):=by
  have S:SeqAt.shaped (.str "laid")=true:=by decide +kernel
  have G:PyData.eqv (.str "laid") (.str "laid")=true:=by decide +kernel
  unfold gNe
  rw[S,G]
  rfl
 unfold kI
 simp only[EV,reduceIte,aA,aD,ak,ao,aF,aG,aH,F,ty,l2,X,P,i1,Q,fM]
theorem YQ{ps:List Int}(go:∀g∈gs,grOk g)(h:laB hs gs ps=true):inW gs ps hs.length:=by
 obtain⟨Y,Z,_⟩:=uN.mp h
 refine⟨Y,λi hi=>?_⟩
 have:=Z i hi
 unfold roB at this
 rw[aU,aU]at this
 have X:=of_decide_eq_true this.1.1
 have p1:=of_decide_eq_true this.1.2
 exact⟨X,by omega,(vW go hi).s⟩
theorem ne_self(h:ly 50 d):gNe d d=some (.bool false):=by
 have e:=Com.eq_self (xU h (show 50<=60 by decide))
 unfold gEq at e
 unfold gNe
 split at e
 ·next q=>
  rw[if_pos q]
  have:PyData.eqv d d=true:=by simpa using e
  rw[this]
  rfl
 ·cases e
theorem HX(hs:List Int)(gs:List Wi):ly 50 (.list [.list (hs.map .int),.list (gs.map wiD)]):=by
 have a:ly 6 (.list (hs.map .int)):=xU (vU (vR (n:=1) PyData.int (λ_=>xV) hs)) (by decide)
 have b:ly 6 (.list (gs.map wiD)):=xU (vU (vR (n:=4) wiD (λg=>xU (V5 (n:=1) (oY xV (oY xV (oY xV Bd)))) (by decide)) gs)) (by decide)
 exact xU (vU (oY a (oY b Bd))) (by decide)
theorem V_(row:List (Option Nat)):ly 50 (.list (row.map oR)):=xU (vU (vR (n:=2) oR (λo=>by
 cases o with
 |none=>exact⟨rfl,by decide⟩
 |some i=>exact xV) row)) (by decide)
theorem Oj(row:List (Option Nat)):jB (gNl 0) (D3.oE (bO (dUn wI (aj 0))) (D3.jk (bO (dCall dg (aq (aj 0) (aY)))))) (oH (aj 0)) [none] (row.map oR)=some []:=by
 induction row with
 |nil=>rfl
 |cons o r Z=>
  rw[bf,jB,show(gNl 0) (oR o) [none]=some [some (.d (oR o))]from rfl,aM]
  have Y:(D3.oE (bO (dUn wI (aj 0))) (D3.jk (bO (dCall dg (aq (aj 0) (aY)))))) [some (.d (oR o))]=some false:=by
   cases o with
   |none=>rfl
   |some i=>rfl
  rw[Y,aM,if_neg aR,Z]
theorem Ol(ns:List Int)(hn:ns.length<=63):Np [.list (ns.map .int)]=some (.bool true):=by
 have F:Com.bw [.list (ns.map .int),.int 0,.int 0,.int 6]=some (.int (gG ns 0 0 6)):=gW (by decide) (by decide) (by decide) (by decide)
 have B:=gH ns 0 0 (m:=6) (by decide)
 generalize gG ns 0 0 6=w0 at F B
 have G:Com.bw [.list (ns.map .int),.int 0,.int 1,.int 17]=some (.int (gG ns 0 1 17)):=gW (by decide) (by decide) (by decide) (by decide)
 have C:=gH ns 0 1 (m:=17) (by decide)
 generalize gG ns 0 1 17=m at G C
 obtain⟨hs,r,l,K⟩:=Ob ns (w:=1+w0) (by omega) (by omega)
 obtain⟨X,n,l1,l2,o⟩:∃X:Int,zY [.bool (decide (1+w0=6))]=some (.int X)/\1<=1+X/\1+X<=hs.length/\(hs.length=6->2<=1+X):=by
  by_cases c:1+w0=6
  ·rw[dTr c]
   exact⟨1,rfl,by decide,by omega,λ_=>by decide⟩
  ·rw[dFa c]
   exact⟨0,rfl,by decide,by omega,λz=>by omega⟩
 obtain⟨zs,v,M,R,Hd⟩:=Gd ns (hs:=hs) (m:=m) l1 l2 (by omega) (by omega) l (by omega) (by omega)
 have p:=YH (hs:=hs) (zs:=zs) (λz h=>⟨(M z h).1,(M z h).2.2.1⟩) R
 have lg:(zs.map Prod.fst).length<=16:=by rw[aB,v];omega
 have I:∀g∈zs.map Prod.fst,grOk g/\gOk g/\(hs.length=6->2<=g.2.2):=λg h=>by
  obtain⟨z,h1,rfl⟩:=cG.mp h
  have q:=M z h1
  exact⟨q.1,⟨q.1.s,q.1.t⟩,λe=>gY (o e) q.2.2.2⟩
 generalize zs.map Prod.fst=gs at *
 generalize zs.map Prod.snd=T at *
 obtain⟨ps,lp,pl,Td⟩:=Oi I (by omega) (by omega) (by omega) p
 have go:∀g∈gs,grOk g:=λg h=>(I g h).1
 have st:=Nr (hs:=hs) (ps:=ps) go (by omega)
 rw[lp]at st
 have J:=YQ go lp
 have y:=ne_self (HX hs gs)
 have eh:gEq (.list [.list (hs.map .int),.list (gs.map wiD)]) (.list [.list (hs.map .int),.list (gs.map wiD)])=some (.bool true):=Com.eq_self (xU (HX hs gs) (by decide))
 have u:(1+w0)=(hs.length:Int):=r.symm
 have fp:fl1 (.list (ps.map PyData.int))=true:=jX ps
 have fh:flats (hs.map PyData.int)=true:=jX hs
 have fg:flats (gs.map wiD)=true:=oX wiD (λ_=>rfl) gs
 obtain⟨E,e,S,V,W,rfl⟩:=jO (g:=(gNl 7)) (b:=(bY (bV 8 (dOp cX (dCall bw (aq (aj 0) (aq (dC (.int 1)) (aq (dC (.int 0)) (aq (dC (.int 250)) (aY)))))) (dCall bw (aq (aj 0) (aq (dC (.int 1)) (aq (dOp cX (dC (.int 1)) (aj 7)) (aq (dC (.int 12)) (aY)))))))) (bY (bV 9 (dCall lB (aq (aj 1) (aq (dOp gIx (aj 5) (dC (.int 1))) (aq (aj 6) (aq (aj 8) (aY))))))) (bY (sIf (D3.tOr (D3.jk (bO (dUn (gIs "list") (aj 9)))) (bO (dOp gNe (aj 9) (dCall jY (aq (aj 1) (aq (aj 3) (aq (aj 6) (aq (aj 8) (aY))))))))) (eG (dC (.bool false))) (dZ)) (sIf (bO (dOp gGt (dCall jd (aq (p8 (uD (aj 9)) (gNl 0) (D3.oE (bO (dUn wI (aj 0))) (D3.jk (bO (dCall dg (aq (aj 0) (aY)))))) (oH (aj 0)) 1 []) (aY))) (dC (.int 0)))) (eG (dC (.bool false))) (dZ)))))) (λ_ δ=>∃S V W,δ=[some (.d (.list (ns.map .int))),some (.d (.int (1+w0))),some (.d (.list (hs.map .int))),some (.d (.list (gs.map wiD))),some (.d (.list (T.map .int))),some (.d (.list [.list (hs.map .int),.list (gs.map wiD)])),some (.d (.list (ps.map .int))),S,V,W]) (d8 0 4) [some (.d (.list (ns.map .int))),some (.d (.int (1+w0))),some (.d (.list (hs.map .int))),some (.d (.list (gs.map wiD))),some (.d (.list (T.map .int))),some (.d (.list [.list (hs.map .int),.list (gs.map wiD)])),some (.d (.list (ps.map .int))),none,none,none] ⟨_,_,_,rfl⟩ (by
  rintro j x δ hd ⟨S,V,W,rfl⟩
  obtain⟨hj,rfl⟩:=iY hd
  have B0:Com.bw [.list (ns.map .int),.int 1,.int 0,.int 250]=some (.int (gG ns 1 0 250)):=gW (by decide) (by decide) (by decide) (by decide)
  have H:Com.bw [.list (ns.map .int),.int 1,.int (1+(j:Int)),.int 12]=some (.int (gG ns 1 (1+(j:Int)) 12)):=gW (by decide) (by omega) (by omega) (by decide)
  generalize gG ns 1 0 250=Y at B0
  generalize gG ns 1 (1+(j:Int)) 12=Z at H
  have ra:=Ge (t:=Y+Z) J (by omega) (by omega)
  have L:=Em (t:=Y+Z) J (by omega) (by omega)
  rw[<-u]at ra L
  have al:=qw (w:=hs.length) (gs:=gs) (ps:=ps) (t:=Y+Z) gs.length
  generalize jF hs.length gs ps (Y+Z) gs.length=row at *
  have nr:=ne_self (V_ row)
  have A:=Oj row
  have ty:D3.isT "list" (tyD (.list (row.map oR)))=true:=(by decide:D3.isT "list" "list"=true)
  have ix:gIx (.list [.list (hs.map .int),.list (gs.map wiD)]) (.int 1)=some (.list (gs.map wiD)):=rfl
  have ca:∀a b c d e f g h i k:Option U,pU 1 [] [a,b,c,d,e,f,g,h,i,k]=[none]:=λ_ _ _ _ _ _ _ _ _ _=>rfl
  have eb:(bY (bV 8 (dOp cX (dCall bw (aq (aj 0) (aq (dC (.int 1)) (aq (dC (.int 0)) (aq (dC (.int 250)) (aY)))))) (dCall bw (aq (aj 0) (aq (dC (.int 1)) (aq (dOp cX (dC (.int 1)) (aj 7)) (aq (dC (.int 12)) (aY)))))))) (bY (bV 9 (dCall lB (aq (aj 1) (aq (dOp gIx (aj 5) (dC (.int 1))) (aq (aj 6) (aq (aj 8) (aY))))))) (bY (sIf (D3.tOr (D3.jk (bO (dUn (gIs "list") (aj 9)))) (bO (dOp gNe (aj 9) (dCall jY (aq (aj 1) (aq (aj 3) (aq (aj 6) (aq (aj 8) (aY))))))))) (eG (dC (.bool false))) (dZ)) (sIf (bO (dOp gGt (dCall jd (aq (p8 (uD (aj 9)) (gNl 0) (D3.oE (bO (dUn wI (aj 0))) (D3.jk (bO (dCall dg (aq (aj 0) (aY)))))) (oH (aj 0)) 1 []) (aY))) (dC (.int 0)))) (eG (dC (.bool false))) (dZ))))) [some (.d (.list (ns.map .int))),some (.d (.int (1+w0))),some (.d (.list (hs.map .int))),some (.d (.list (gs.map wiD))),some (.d (.list (T.map .int))),some (.d (.list [.list (hs.map .int),.list (gs.map wiD)])),some (.d (.list (ps.map .int))),some (.d (.int (j:Int))),V,W]=some (.nx [some (.d (.list (ns.map .int))),some (.d (.int (1+w0))),some (.d (.list (hs.map .int))),some (.d (.list (gs.map wiD))),some (.d (.list (T.map .int))),some (.d (.list [.list (hs.map .int),.list (gs.map wiD)])),some (.d (.list (ps.map .int))),some (.d (.int (j:Int))),some (.d (.int (Y+Z))),some (.d (.list (row.map oR)))]):=by
   simp only[EV,reduceIte,aA,aD,ak,ao,aF,aG,aH,B0,H,ix,ra,ty,L,nr,ca,lMp,show row.length<=100000 by omega,A,fM,i_,show decide (((0:Nat):Int)>0)=false from rfl]
  exact⟨_,_,rfl,.inl eb,_,_,_,rfl⟩)
 have D:qu (some [.int 4])=some (d8 0 4):=Ba (by decide) (by decide)
 have N:gIx (.list [.list (hs.map .int),.list (gs.map wiD)]) (.int 0)=some (.list (hs.map .int)):=rfl
 have O:gIx (.list [.list (hs.map .int),.list (gs.map wiD)]) (.int 1)=some (.list (gs.map wiD)):=rfl
 have P:tR (.list (hs.map PyData.int))=some (.list (hs.map .int)):=rfl
 have Q:tR (.list (gs.map wiD))=some (.list (gs.map wiD)):=rfl
 unfold Np
 simp only[EV,reduceIte,aA,aD,ak,ao,aF,aG,aH,F,G,K,n,Hd,P,Q,N,O,Td,fp,y,st,fM,D,e,Com.sz (show 2<=1000000 by decide),show ps.length<1000000 by omega,lMp,eh]
end K71
namespace K71
open PySem PySem.Spec PyProof.Rows L2 My D3 XS XK
noncomputable def top(i:Nat):Stmt:=PySem.Challenge.pw_nightbook_k71_laid_places.main.body.getD i (.Pass ⟨0,0,0,0⟩)
section
seal PE PT PW PA PS PSs PG PGs PI PO PTs
variable{P:Program}{w:World}{K:PySem.W.Frag}{mg:Str->Option Value}{base:Heap}{n:Nat}
theorem En(D:Dg K mg "is_whole" (top 5) ["thing"])(B:Bl mg):Has P w K mg base (n+1) "is_whole" ["thing"] (spD K gQ):=by
 have sc:FnScope ["thing"] ["thing"] (bN (top 5)):=fsc
 exact iD (fl:=[.A]) D sc (by decide) (by decide) λf cdv A outer s H E Z=>bK (cT (dR (qg (bD (pF (T := "int") (by decide) (vP 0) (by rfl) B.isinstance_ (by rfl) B.int_ PyProof.Rows.boot_int)) (qe (KJ (bD (pF (T := "bool") (by decide) (vP 0) (by rfl) B.isinstance_ (by rfl) B.bool_ PyProof.Rows.boot_bool)))))))
theorem tE(D:Dg K mg "is_whole_within" (top 6) ["thing", "least", "most"])(B:Bl mg)(J:Has P w K mg base n "is_whole" ["thing"] (spD K gQ)):Has P w K mg base (n+1) "is_whole_within" ["thing", "least", "most"] (spD K fB):=by
 have sc:FnScope ["thing", "least", "most"] ["thing", "least", "most"] (bN (top 6)):=fsc
 exact iD (fl:=[.A,.A,.A]) D sc (by decide) (by decide) λf cdv A outer s H E Z=>bK (cT (dR (qg (jq (cA J Z (dq (vP 0) dz))) (qe (wR mC mC rH rH (vP 1) (vP 0) (vP 2))))))
theorem Bj(D:Dg K mg "all_whole" (top 7) ["things"])(B:Bl mg)(J:Has P w K mg base n "is_whole" ["thing"] (spD K gQ)):Has P w K mg base (n+1) "all_whole" ["things"] (spD K lY):=by
 have sc:FnScope ["things"] ["things"] (bN (top 7)):=fsc
 exact iD (fl:=[.A]) D sc (by decide) (by decide) λf cdv A outer s H E Z=>bK (cT (dR (gD (Jc rfl) Xi (by rfl) B.all_ (show bootBuiltins "all"=some (.builtin "all")by decide +kernel) (dq (bD (tY (L:=[]) (fl':=[.A]) rfl ["thing"] [] [] (Ur (vB 0)) (λ_ _ _ _ _=>gN' (i:=0) (show(["thing"]:List Str).Nodup by decide +kernel)) (λ_ _ _ _ _=>Af) (λ_ _ _ _ _=>cA J Z (dq (vP 0) dz)))) dz))))
theorem yw(D:Dg K mg "is_tuple_of" (top 8) ["thing", "many"])(B:Bl mg)(J:Has P w K mg base n "all_whole" ["things"] (spD K lY)):Has P w K mg base (n+1) "is_tuple_of" ["thing", "many"] (spD K jJ):=by
 have sc:FnScope ["thing", "many"] ["thing", "many"] (bN (top 8)):=fsc
 exact iD (fl:=[.A,.A]) D sc (by decide) (by decide) λf cdv A outer s H E Z=>bK (cT (wK (qg (bD (pF (T := "tuple") (by decide) (vP 0) (by rfl) B.isinstance_ (by rfl) B.tuple_ PyProof.Rows.boot_tuple)) (qg (bD (uH (ux Z.units) IK (bD (gD cH kh (by rfl) B.len_ PySem.boot_len (dq (vP 0) dz))) (vP 1) (fK _))) (qe (cA J Z (dq (vP 0) dz)))))))
theorem Gf(D:Dg K mg "is_pair" (top 9) ["thing"])(B:Bl mg)(J:Has P w K mg base n "is_tuple_of" ["thing", "many"] (spD K jJ)):Has P w K mg base (n+1) "is_pair" ["thing"] (spD K oZ):=by
 have sc:FnScope ["thing"] ["thing"] (bN (top 9)):=fsc
 exact iD (fl:=[.A]) D sc (by decide) (by decide) λf cdv A outer s H E Z=>bK (cT (wK (cA J Z (dq (vP 0) (dq iP dz)))))
theorem yI(D:Dg K mg "is_stretch" (top 12) ["thing"])(B:Bl mg)(J:Has P w K mg base n "is_pair" ["thing"] (spD K oZ))(O:∃t,mg "NIGHTS"=some (.int 400 t)):Has P w K mg base (n+1) "is_stretch" ["thing"] (spD K lC):=by
 have sc:FnScope ["thing"] ["thing"] (bN (top 12)):=fsc
 exact iD (fl:=[.A]) D sc (by decide) (by decide) λf cdv A outer s H E Z=>bK (cT (dR (qg (jq (cA J Z (dq (vP 0) dz))) (qe (Ja mC wj mC rH b_lt rH iP (d7 (dx (vB 0) iP)) (d7 (dx (vB 0) iP)) (bD (Ab O)))))))
theorem Bk(D:Dg K mg "nights_of" (top 13) ["stay"])(B:Bl mg):Has P w K mg base (n+1) "nights_of" ["stay"] (spD K gJ):=by
 have sc:FnScope ["stay"] ["stay"] (bN (top 13)):=fsc
 exact iD (fl:=[.A]) D sc (by decide) (by decide) λf cdv A outer s H E Z=>bK (cT (uJ rfl (dq (dR (uF (d7 (dx (vB 0) iP)))) (dq (dR (uF (d7 (dx (vB 0) iP)))) dz))))
theorem Om(D:Dg K mg "holds" (top 14) ["stretch", "night"])(B:Bl mg):Has P w K mg base (n+1) "holds" ["stretch", "night"] (spD K nH):=by
 have sc:FnScope ["stretch", "night"] ["stretch", "night"] (bN (top 14)):=fsc
 exact iD (fl:=[.A,.A]) D sc (by decide) (by decide) λf cdv A outer s H E Z=>bK (cT (dR (wR mC wj rH b_lt (d7 (dx (vB 0) iP)) (vP 1) (d7 (dx (vB 0) iP)))))
theorem Eo(D:Dg K mg "is_group" (top 18) ["thing"])(B:Bl mg)(J:Has P w K mg base n "is_whole_within" ["thing", "least", "most"] (spD K fB))(W:Has P w K mg base n "is_stretch" ["thing"] (spD K lC))(Y:Has P w K mg base n "nights_of" ["stay"] (spD K gJ))(O:∃t,mg "MOST_OF_A_GROUP"=some (.int 6 t)):Has P w K mg base (n+1) "is_group" ["thing"] (spD K lO):=by
 have sc:FnScope ["thing"] ["thing"] (bN (top 18)):=fsc
 exact iD (fl:=[.A]) D sc (by decide) (by decide) λf cdv A outer s H E Z=>bh (jC (wQ (uZ (nY (mW (bD (pF (T := "tuple") (by decide) (vP 0) (by rfl) B.isinstance_ (by rfl) B.tuple_ PyProof.Rows.boot_tuple)))) (sJ (ig (uy Z.units) IV (bD (gD cH kh (by rfl) B.len_ PySem.boot_len (dq (vP 0) dz))) iP (fK _))))) (bK (cT (dR (rO)))) (fG))
  (bK (cT (wK (qg (jq (cA W Z (dq (jq (cA Y Z (dq (vP 0) dz))) dz))) (qe (cA J Z (dq (d7 (dx (vB 0) iP)) (dq iP (dq (bD (Ab O)) dz)))))))))
theorem vq(D:Dg K mg "check_groups" (top 19) ["groups"])(B:Bl mg)(J:Has P w K mg base n "is_group" ["thing"] (spD K lO)):Has P w K mg base (n+1) "check_groups" ["groups"] (spD K jx):=by
 have sc:FnScope ["groups", "at", "group"] ["groups"] (bN (top 19)):=fsc
 exact iD (fl:=[.A,.A,.A]) D sc (by decide) (by decide) λf cdv A outer s H E Z=>bK (jE (L:=[]) PassesOwn.never rfl (Gw (vB 0) (by rfl) B.enumerate_) (uI rfl (iB (gN' (i:=1) sc.nd) (iB (gN' (i:=2) sc.nd) (qy)))) (bK (jC (nY (mW (jq (cA J Z (dq (vP 2) dz))))) (bK (Cv)) (fG))))
theorem Oo{Pt:Addr}(D:XL.DgT K mg "turns" (top 20) ["groups"] Pt "turns.<locals>.<lambda>" ⟨43,42,43,72⟩)(B:Bl mg):Has P w K mg base (n+1) "turns" ["groups"] (spD K jP):=by
 have sc:FnScope ["groups"] ["groups"] (bN (top 20)):=fsc
 exact XL.Vd (fl:=[.A]) D sc (by decide) (by decide) λf c A outer s H E Z Y=>bK (cT (dR (XL.Fz (i:=0) ⟨⟨_,rfl,Z⟩,rfl,D.tb⟩ Y rfl (dq (bD (gD cH kh (by rfl) B.len_ PySem.boot_len (dq (vP 0) dz))) dz) (by rfl) B.sorted_ (by rfl) B.range_ rfl rfl rfl rfl (λ_ h=>XL.Mt rfl h) (λ_ _ _ _ _=>rfl) rfl rfl rfl (by decide +kernel) rfl rfl (by decide) (by decide) (by decide) rfl rfl)))
theorem Bm(D:Dg K mg "starts_in" (top 21) ["row", "group"])(B:Bl mg):Has P w K mg base (n+1) "starts_in" ["row", "group"] (spD K iI):=by
 have sc:FnScope ["row", "group", "last"] ["row", "group"] (bN (top 21)):=fsc
 exact iD (fl:=[.A,.A,.A]) D sc (by decide) (by decide) λf cdv A outer s H E Z=>bh (sA (i:=2) sc.nd (iV (cU wg Cm (bD (gD cH kh (by rfl) B.len_ PySem.boot_len (dq (vP 0) dz))) (d7 (dx (vB 1) iP)))))
  (bK (cT (dR (tY (L:=[]) (fl':=[.A,.A,.A]) rfl ["start"] ["group", "row"] [1,0] (ji (by rfl) B.range_ (qd (dq (bD (cU eF gF (vP 2) iP)) dz))) (λ_ _ _ _ _=>gN' (i:=0) (show(["start", "group", "row"]:List Str).Nodup by decide +kernel)) (λ_ _ _ _ _=>Gn (ig mC rH (bD (gD (Jp rfl) U_ (by rfl) B.max_ PyProof.Rows.boot_max (dq (bD (U9 (vP 2) (jN (vP 0)) (jN (bD (cU eF gF (vP 0) (d7 (dx (vB 1) iP))))))) dz))) (d7 (dx (vB 1) iP)) (fK _))) (λ_ _ _ _ _=>nW (uF (vP 0)))))))
theorem vC(D:Dg K mg "night_behind" (top 22) ["since", "group", "is_own"])(B:Bl mg):Has P w K mg base (n+1) "night_behind" ["since", "group", "is_own"] (spD K fD):=by
 have sc:FnScope ["since", "group", "is_own"] ["since", "group", "is_own"] (bN (top 22)):=fsc
 exact iD (fl:=[.A,.A,.A]) D sc (by decide) (by decide) λf cdv A outer s H E Z=>bh (jC (mW (vP 2)) (bK (cT (dR (uF (d7 (dx (vB 1) iP)))))) (fG))
  (bK (cT (dR (uF (d7 (Xd (ig mC rH (vP 0) (d7 (dx (vB 1) iP)) (fK _)) (iV (Aa)) (vA 0)))))))
theorem yJ(D:Dg K mg "row_behind" (top 23) ["row", "group", "start"])(B:Bl mg)(J:Has P w K mg base n "night_behind" ["since", "group", "is_own"] (spD K fD)):Has P w K mg base (n+1) "row_behind" ["row", "group", "start"] (spD K fO):=by
 have sc:FnScope ["row", "group", "start", "behind"] ["row", "group", "start"] (bN (top 23)):=fsc
 exact iD (fl:=[.A,.A,.A,.A]) D sc (by decide) (by decide) λf cdv A outer s H E Z=>bh (sA (i:=3) sc.nd (iV (cU eF gF (vP 2) (d7 (dx (vB 1) iP)))))
  (bK (cT (wK (Qk (nW (tY (L:=[]) (fl':=[.A,.A,.A,.A,.A]) rfl ["room", "since"] ["group", "start", "behind"] [1,2,3] (Mf (vB 0) (by rfl) B.enumerate_) (λ_ _ _ _ _=>uI rfl (iB (gN' (i:=0) (show(["room", "since", "group", "start", "behind"]:List Str).Nodup by decide +kernel)) (iB (gN' (i:=1) (show(["room", "since", "group", "start", "behind"]:List Str).Nodup by decide +kernel)) (qy)))) (λ_ _ _ _ _=>Af) (λ_ _ _ _ _=>cA J Z (dq (vP 1) (dq (vP 2) (dq (bD (wR mC wj rH b_lt (vP 3) (vP 0) (vP 4))) dz)))))) (by rfl) B.tuple_))))
theorem yx(D:Dg K mg "rows_behind" (top 24) ["rows", "group"])(B:Bl mg)(O:Has P w K mg base n "starts_in" ["row", "group"] (spD K iI))(J:Has P w K mg base n "row_behind" ["row", "group", "start"] (spD K fO)):Has P w K mg base (n+1) "rows_behind" ["rows", "group"] (spD K eH):=by
 have sc:FnScope ["rows", "group", "found", "row", "start"] ["rows", "group"] (bN (top 24)):=fsc
 exact iD (fl:=[.A,.A,.N,.A,.A]) D sc (by decide) (by decide) λf cdv A outer s H E Z=>bh (Gz (i:=2) rfl sc.nd rfl (by first|exact Or.inl rfl|exact Or.inr rfl) (Qg))
  (bh (jE (L:=[]) PassesOwn.never rfl (tW (vB 0)) (gN' (i:=3) sc.nd) (bK (jE (L:=[]) PassesOwn.never rfl (tW (jt (oM (cA O Z (dq (vP 3) (dq (vP 1) dz)))))) (gN' (i:=4) sc.nd) (bK (XJ.Ln (i:=2) (XK.hu1 Z.units) rfl (jq (cA J Z (dq (vP 3) (dq (vP 1) (dq (vP 4) dz))))) (d7 (uJ rfl (dq (vA 3) (dq (vA 4) dz)))) rfl ⟨rfl,rfl,rfl,rfl⟩)))))
  (bK (cT (CG 2 rfl))))
theorem yK(D:Dg K mg "all_behind" (top 25) ["held", "groups"])(B:Bl mg)(Y:Has P w K mg base n "turns" ["groups"] (spD K jP))(J:Has P w K mg base n "rows_behind" ["rows", "group"] (spD K eH))(W:∃t,mg "MOST_ROWS"=some (.int 400 t)):Has P w K mg base (n+1) "all_behind" ["held", "groups"] (spL K jy):=by
 have sc:FnScope ["held", "groups", "found", "rows", "place", "behind"] ["held", "groups"] (bN (top 25)):=fsc
 exact Uu (fl:=[.A,.A,.O,.A,.A,.A]) D sc (by decide) (by decide) λf cdv A outer s H E Z=>bh (nD (i:=2) rfl sc.nd rfl (by first|exact Or.inl rfl|exact Or.inr rfl) (pC (mL dz)))
  (bh (sA (i:=3) sc.nd (lA (qH (dq (Qj (vB 0) (by rfl) B.tuple_) dz))))
  (bh (jE (L:=[]) PassesOwn.never rfl (tW (jt (oM (cA Y Z (dq (vP 1) dz))))) (gN' (i:=4) sc.nd) (bh (sA (i:=5) sc.nd (oM (cA J Z (dq (vP 3) (dq (d7 (dx (vB 1) (vP 4))) dz)))))
  (bh (oN (i:=2) rfl (vA 5) rfl)
  (bh (jC (ig yN Iz (bD (XJ.Ay (dq (vP 5) dz) (by rfl) B.len_)) (bD (Ab W)) (fK _)) (bK (Cv)) (fG))
  (bh (jC (ig (ux Z.units) IK (bD (XJ.Ay (dq (vP 5) dz) (by rfl) B.len_)) iP (fK _)) (bK (GC (wL (nU 2)))) (fG))
  (bK (sA (i:=3) sc.nd (iV (XJ.xR rfl (dq (vP 5) dz) (by rfl) B.sorted_)))))))))
  (bK (GC (wL (nU 2))))))
theorem Bo(D:Dg K mg "places_by" (top 26) ["found", "groups"])(B:Bl mg)(J:Has P w K mg base n "turns" ["groups"] (spD K jP)):Has P w K mg base (n+1) "places_by" ["found", "groups"] (spD K kE):=by
 have sc:FnScope ["found", "groups", "places", "row", "place", "behind"] ["found", "groups"] (bN (top 26)):=fsc
 exact iD (fl:=[.A,.A,.O,.A,.A,.A]) D sc (by decide) (by decide) λf cdv A outer s H E Z=>bh (nD (i:=2) rfl sc.nd rfl (by first|exact Or.inl rfl|exact Or.inr rfl) (Ag (pC (mL (dq (nW (wN)) dz))) (bD (gD cH kh (by rfl) B.len_ PySem.boot_len (dq (vP 1) dz)))))
  (bh (sA (i:=3) sc.nd (iV (wN)))
  (bh (jE (L:=[]) PassesOwn.never rfl (Ut (jt (lA (XK.Mp (jt (oM (cA J Z (dq (vP 1) dz)))) (vB 0) rfl (by rfl) B.list_ (by rfl) B.zip_))) (by rfl) B.reversed_) (uI rfl (iB (gN' (i:=4) sc.nd) (iB (gN' (i:=5) sc.nd) (qy)))) (bh (jC (Ul (vP 3)) (bK (sA (i:=3) sc.nd (dx (jt (iV (XJ.xR rfl (dq (vP 5) dz) (by rfl) B.sorted_))) iP))) (fG))
  (bh (Fe (i:=2) rfl (dx (jt (iV (XJ.Dh (XK.hu1 Z.units) (vP 5) (vP 3) (λ_ _=>rfl)))) iP) (vP 4) rfl)
  (bK (sA (i:=3) sc.nd (dx (jt (iV (XJ.Dh (XK.hu1 Z.units) (vP 5) (vP 3) (λ_ _=>rfl)))) iP))))))
  (bK (cT (vJ 2 (by decide))))))
theorem rJ(D:Dg K mg "laid_as_they_are" (top 27) ["held", "groups"])(B:Bl mg)(J:Has P w K mg base n "all_behind" ["held", "groups"] (spL K jy))(O:Has P w K mg base n "places_by" ["found", "groups"] (spD K kE)):Has P w K mg base (n+1) "laid_as_they_are" ["held", "groups"] (spD K gR):=by
 have sc:FnScope ["held", "groups", "found"] ["held", "groups"] (bN (top 27)):=fsc
 exact iD (fl:=[.A,.A,.A]) D sc (by decide) (by decide) λf cdv A outer s H E Z=>bh (sA (i:=2) sc.nd (Zn rfl (K9 J Z (dq (vP 0) (dq (vP 1) dz)))))
  (bh (jC (wQ (Ae (ig yN Iz (bD (gD cH kh (by rfl) B.len_ PySem.boot_len (dq (vP 2) dz))) iP (fK _)) (vL (ig (ux Z.units) IK (bD (XJ.Ay (dq (d7 (dx (vB 2) (bD (Uj iP)))) dz) (by rfl) B.len_)) iP (fK _))))) (bK (cT (uJ rfl (dq (dR (Fd)) (dq (dR (tY (L:=[]) (fl':=[.A]) rfl ["behind"] [] [] (tW (vB 2)) (λ_ _ _ _ _=>gN' (i:=0) (show(["behind"]:List Str).Nodup by decide +kernel)) (λ_ _ _ _ _=>Af) (λ_ _ _ _ _=>nW (XJ.xR rfl (dq (vP 0) dz) (by rfl) B.sorted_)))) dz))))) (fG))
  (bK (cT (uJ rfl (dq (dR (Fd)) (dq (wK (cA O Z (dq (vP 2) (dq (vP 1) dz)))) dz))))))
theorem RZ(D:Dg K mg "laid" (top 28) ["held", "groups"])(B:Bl mg)(O:Has P w K mg base n "check_groups" ["groups"] (spD K jx))(J:Has P w K mg base n "laid_as_they_are" ["held", "groups"] (spD K gR)):Has P w K mg base (n+1) "laid" ["held", "groups"] (spD K sY):=by
 have sc:FnScope ["held", "groups"] ["held", "groups"] (bN (top 28)):=fsc
 exact iD (fl:=[.A,.A]) D sc (by decide) (by decide) λf cdv A outer s H E Z=>bh (PJ (jq (cA O Z (dq (vP 1) dz))))
  (bK (cT (wK (cA J Z (dq (vP 0) (dq (vP 1) dz))))))
theorem JV(D:Dg K mg "row_at" (top 30) ["wide", "groups", "places", "night"])(B:Bl mg)(J:Has P w K mg base n "nights_of" ["stay"] (spD K gJ))(W:Has P w K mg base n "holds" ["stretch", "night"] (spD K nH)):Has P w K mg base (n+1) "row_at" ["wide", "groups", "places", "night"] (spD K lB):=by
 have sc:FnScope ["wide", "groups", "places", "night", "row", "place", "group", "room"] ["wide", "groups", "places", "night"] (bN (top 30)):=fsc
 exact iD (fl:=[.A,.A,.A,.A,.O,.A,.A,.A]) D sc (by decide) (by decide) λf cdv A outer s H E Z=>bh (nD (i:=4) rfl sc.nd rfl (by first|exact Or.inl rfl|exact Or.inr rfl) (Ag (pC (mL (dq (nW (wN)) dz))) (vP 0)))
  (bh (jE (L:=[]) PassesOwn.never rfl (Gw (vB 1) (by rfl) B.enumerate_) (uI rfl (iB (gN' (i:=5) sc.nd) (iB (gN' (i:=6) sc.nd) (qy)))) (bK (jC (mW (jq (cA W Z (dq (jq (cA J Z (dq (vP 6) dz))) (dq (vP 3) dz))))) (bK (jE (L:=[]) PassesOwn.never rfl (IW (by rfl) B.range_ (qd (dq (d7 (dx (vB 2) (vP 5))) (dq (bD (cU eF gF (d7 (dx (vB 2) (vP 5))) (d7 (dx (vB 6) iP)))) dz)))) (gN' (i:=7) sc.nd) (bK (Fe (i:=4) rfl (vA 5) (vP 7) rfl)))) (fG))))
  (bK (cT (vJ 4 (by decide)))))
theorem Bp(D:Dg K mg "_law_cell" (top 32) ["_law_script", "_law_at"])(B:Bl mg):Has P w K mg base (n+1) "_law_cell" ["_law_script", "_law_at"] (spD K iG):=by
 have sc:FnScope ["_law_script", "_law_at"] ["_law_script", "_law_at"] (bN (top 32)):=fsc
 exact iD (fl:=[.A,.A]) D sc (by decide) (by decide) λf cdv A outer s H E Z=>bh (jC (ig wj b_lt (vP 1) (bD (gD cH kh (by rfl) B.len_ PySem.boot_len (dq (vP 0) dz))) (fK _)) (bK (cT (dR (cU mH tV (d7 (dx (vB 0) (vP 1))) iP)))) (fG))
  (bh (jC (ig (ux Z.units) IK (vP 0) (bD (mL dz)) (fK _)) (bK (cT (dR (cU eF gF (bD (cU nC uX iP (vP 1))) iP)))) (fG))
  (bK (cT (dR (cU eF gF (bD (cU mH tV (d7 (dx (vB 0) (bD (cU mH tV (bD (cU nC uX (vP 1) iP)) (bD (gD cH kh (by rfl) B.len_ PySem.boot_len (dq (vP 0) dz))))))) iP)) (bD (cU nC uX iP (vP 1))))))))
theorem Bq(D:Dg K mg "_law_part" (top 33) ["_law_script", "_law_at", "_law_k", "_law_many"])(B:Bl mg)(J:Has P w K mg base n "_law_cell" ["_law_script", "_law_at"] (spD K iG)):Has P w K mg base (n+1) "_law_part" ["_law_script", "_law_at", "_law_k", "_law_many"] (spD K bw):=by
 have sc:FnScope ["_law_script", "_law_at", "_law_k", "_law_many", "_law_number", "_law_j"] ["_law_script", "_law_at", "_law_k", "_law_many"] (bN (top 33)):=fsc
 exact iD (fl:=[.A,.A,.A,.A,.A,.A]) D sc (by decide) (by decide) λf cdv A outer s H E Z=>bh (jC (wQ (Ae (ig wj b_lt (vP 1) (bD (gD cH kh (by rfl) B.len_ PySem.boot_len (dq (vP 0) dz))) (fK _)) (vL (ig Wx Zh (d7 (dx (vB 0) (vP 1))) (bD (cU TX Xa iP iP)) (fK _))))) (bh (sA (i:=4) sc.nd (dx (vB 0) (vP 1)))
  (bh (jE (L:=[]) PassesOwn.never rfl (ji (by rfl) B.range_ (qd (dq (vP 2) dz))) (gN' (i:=5) sc.nd) (bK (sA (i:=4) sc.nd (iV (cU Gs R_ (vP 4) iP)))))
  (bK (jC (ig yN Iz (vP 4) iP (fK _)) (bK (cT (dR (cU mH tV (bD (cU mH tV (vP 4) iP)) (vP 3))))) (fG))))) (fG))
  (bh (sA (i:=4) sc.nd (iV (cU mH tV (bD (cU nC uX (bD (cU eF gF (bD (cU eF gF (jq (cA J Z (dq (vP 0) (dq (vP 1) dz)))) (bD (cU nC uX iP (vP 1))))) iP)) (bD (cU eF gF iP (bD (cU nC uX iP (vP 2))))))) iP)))
  (bh (sA (i:=4) sc.nd (iV (cU eF gF (bD (cU mH tV (bD (cU nC uX (vP 4) (vP 4))) iP)) iP)))
  (bK (cT (dR (cU mH tV (bD (cU Gs R_ (bD (cU mH tV (bD (cU nC uX (vP 4) (vP 4))) iP)) iP)) (vP 3)))))))
theorem yL(D:Dg K mg "_law_whole" (top 34) ["_law_found"])(B:Bl mg):Has P w K mg base (n+1) "_law_whole" ["_law_found"] (spD K dg):=by
 have sc:FnScope ["_law_found"] ["_law_found"] (bN (top 34)):=fsc
 exact iD (fl:=[.A]) D sc (by decide) (by decide) λf cdv A outer s H E Z=>bK (cT (dR (qg (bD (pF (T := "int") (by decide) (vP 0) (by rfl) B.isinstance_ (by rfl) B.int_ PyProof.Rows.boot_int)) (qe (KJ (bD (pF (T := "bool") (by decide) (vP 0) (by rfl) B.isinstance_ (by rfl) B.bool_ PyProof.Rows.boot_bool)))))))
theorem yM(D:Dg K mg "_law_apart" (top 35) ["_law_one", "_law_place", "_law_other", "_law_there"])(B:Bl mg):Has P w K mg base (n+1) "_law_apart" ["_law_one", "_law_place", "_law_other", "_law_there"] (spD K dh):=by
 have sc:FnScope ["_law_one", "_law_place", "_law_other", "_law_there"] ["_law_one", "_law_place", "_law_other", "_law_there"] (bN (top 35)):=fsc
 exact iD (fl:=[.A,.A,.A,.A]) D sc (by decide) (by decide) λf cdv A outer s H E Z=>bh (jC (wQ (uZ (ig mC rH (d7 (dx (vB 0) iP)) (d7 (dx (vB 2) iP)) (fK _)) (sJ (ig mC rH (d7 (dx (vB 2) iP)) (d7 (dx (vB 0) iP)) (fK _))))) (bK (cT (dR (rO)))) (fG))
  (bK (cT (dR (Xc (bD (uH mC rH (bD (cU eF gF (vP 1) (d7 (dx (vB 0) iP)))) (vP 3) (fK _))) (qe (uH mC rH (bD (cU eF gF (vP 3) (d7 (dx (vB 2) iP)))) (vP 1) (fK _)))))))
theorem Br(D:Dg K mg "_law_sits" (top 36) ["_law_held", "_law_groups", "_law_places"])(B:Bl mg)(J:Has P w K mg base n "_law_whole" ["_law_found"] (spD K dg))(O:Has P w K mg base n "_law_apart" ["_law_one", "_law_place", "_law_other", "_law_there"] (spD K dh)):Has P w K mg base (n+1) "_law_sits" ["_law_held", "_law_groups", "_law_places"] (spD K iH):=by
 have sc:FnScope ["_law_held", "_law_groups", "_law_places", "_law_at", "_law_place", "_law_first", "_law_behind", "_law_size", "_law_k"] ["_law_held", "_law_groups", "_law_places"] (bN (top 36)):=fsc
 exact iD (fl:=[.A,.A,.A,.A,.A,.A,.A,.A,.A]) D sc (by decide) (by decide) λf cdv A outer s H E Z=>bh (jC (wQ (uZ (nY (mW (bD (pF (T := "list") (by decide) (vP 2) (by rfl) B.isinstance_ (by rfl) B.list_ PyProof.Rows.boot_list)))) (sJ (ig (uy Z.units) IV (bD (gD cH kh (by rfl) B.len_ PySem.boot_len (dq (vP 2) dz))) (bD (gD cH kh (by rfl) B.len_ PySem.boot_len (dq (vP 1) dz))) (fK _))))) (bK (cT (dR (rO)))) (fG))
  (bh (jE (L:=[]) PassesOwn.never rfl (ji (by rfl) B.range_ (qd (dq (bD (gD cH kh (by rfl) B.len_ PySem.boot_len (dq (vP 1) dz))) dz))) (gN' (i:=3) sc.nd) (bh (sA (i:=4) sc.nd (dx (vB 2) (vP 3)))
  (bh (Kw (dx (vB 1) (vP 3)) (uI rfl (iB (gN' (i:=5) sc.nd) (iB (gN' (i:=6) sc.nd) (iB (gN' (i:=7) sc.nd) (qy))))))
  (bh (jC (wQ (uZ (nY (mW (jq (cA J Z (dq (vP 4) dz))))) (sJ (nY (wW mC mC rH rH iP (vP 4) (bD (cU wg Cm (bD (gD cH kh (by rfl) B.len_ PySem.boot_len (dq (vP 0) dz))) (vP 7)))))))) (bK (cT (dR (rO)))) (fG))
  (bK (jC (ig yN Iz (bD (gD (yW rfl) K1 (by rfl) B.max_ PyProof.Rows.boot_max (dq (Gr (u_ (vB 0) (jN (vP 4)) (jN (bD (cU eF gF (vP 4) (vP 7)))))) dz))) (vP 5) (fK _)) (bK (cT (dR (rO)))) (fG)))))))
  (bh (jE (L:=[]) PassesOwn.never rfl (ji (by rfl) B.range_ (qd (dq (bD (gD cH kh (by rfl) B.len_ PySem.boot_len (dq (vP 1) dz))) dz))) (gN' (i:=3) sc.nd) (bK (jE (L:=[]) PassesOwn.never rfl (ji (by rfl) B.range_ (qd (dq (vP 3) dz))) (gN' (i:=8) sc.nd) (bK (jC (nY (mW (jq (cA O Z (dq (d7 (dx (vB 1) (vP 8))) (dq (d7 (dx (vB 2) (vP 8))) (dq (d7 (dx (vB 1) (vP 3))) (dq (d7 (dx (vB 2) (vP 3))) dz)))))))) (bK (cT (dR (rO)))) (fG))))))
  (bK (cT (dR (rO))))))
theorem yC(D:Dg K mg "_law_hidden" (top 37) ["_law_script", "_law_held", "_law_least", "_law_many"])(B:Bl mg)(J:Has P w K mg base n "_law_part" ["_law_script", "_law_at", "_law_k", "_law_many"] (spD K bw)):Has P w K mg base (n+1) "_law_hidden" ["_law_script", "_law_held", "_law_least", "_law_many"] (spD K iu):=by
 have sc:FnScope ["_law_script", "_law_held", "_law_least", "_law_many", "_law_base", "_law_ends", "_law_groups", "_law_places", "_law_k", "_law_size", "_law_place", "_law_first", "_law_behind", "_law_turn"] ["_law_script", "_law_held", "_law_least", "_law_many"] (bN (top 37)):=fsc
 exact iD (fl:=[.A,.A,.A,.A,.A,.A,.O,.O,.A,.A,.A,.A,.A,.A]) D sc (by decide) (by decide) λf cdv A outer s H E Z=>bh (sA (i:=4) sc.nd (oM (cA J Z (dq (vP 0) (dq iP (dq iP (dq iP dz)))))))
  (bh (sA (i:=5) sc.nd (lA (Ah (vB 1) (by rfl) B.list_)))
  (bh (nD (i:=6) rfl sc.nd rfl (by first|exact Or.inl rfl|exact Or.inr rfl) (pC (mL dz)))
  (bh (nD (i:=7) rfl sc.nd rfl (by first|exact Or.inl rfl|exact Or.inr rfl) (pC (mL dz)))
  (bh (jE (L:=[]) PassesOwn.never rfl (ji (by rfl) B.range_ (qd (dq (vP 3) dz))) (gN' (i:=8) sc.nd) (bh (sA (i:=9) sc.nd (iV (cU eF gF (vP 2) (jq (cA J Z (dq (vP 0) (dq (bD (cU eF gF iP (vP 8))) (dq iP (dq (bD (cU eF gF (bD (cU wg Cm (bD (gD cH kh (by rfl) B.len_ PySem.boot_len (dq (vP 1) dz))) (vP 2))) iP)) dz)))))))))
  (bh (sA (i:=10) sc.nd (oM (cA J Z (dq (vP 0) (dq (bD (cU eF gF iP (vP 8))) (dq iP (dq (bD (cU eF gF (bD (cU wg Cm (bD (gD cH kh (by rfl) B.len_ PySem.boot_len (dq (vP 1) dz))) (vP 9))) iP)) dz)))))))
  (bh (sA (i:=11) sc.nd (iV (cU eF gF (bD (gD (yW rfl) K1 (by rfl) B.max_ PyProof.Rows.boot_max (dq (Gr (wU (jt (lA (qH (dq (vA 4) dz)))) (jt (lA (u_ (vB 5) (jN (vP 10)) (jN (bD (cU eF gF (vP 10) (vP 9))))))))) dz))) (jq (cA J Z (dq (vP 0) (dq (bD (cU eF gF iP (vP 8))) (dq iP (dq iP dz)))))))))
  (bh (sA (i:=12) sc.nd (iV (cU eF gF (bD (cU eF gF (vP 11) iP)) (jq (cA J Z (dq (vP 0) (dq (bD (cU eF gF iP (vP 8))) (dq iP (dq iP dz)))))))))
  (bh (sA (i:=5) sc.nd (lA (wU (jt (lA (wU (jt (lA (u_ (vB 5) qJ (jN (vP 10))))) (jt (lA (Ag (qH (dq (vA 12) dz)) (vP 9))))))) (jt (lA (u_ (vB 5) (jN (bD (cU eF gF (vP 10) (vP 9)))) qJ))))))
  (bh (oN (i:=6) rfl (uJ rfl (dq (vA 11) (dq (vA 12) (dq (vA 9) dz)))) rfl)
  (bK (oN (i:=7) rfl (vA 10) rfl)))))))))
  (bh (sA (i:=13) sc.nd (oM (cA J Z (dq (vP 0) (dq iP (dq iP (dq (bD (cU eF gF (bD (gD cH kh (by rfl) B.len_ PySem.boot_len (dq (wL (nU 6)) dz))) iP)) dz)))))))
  (bK (cT (uJ rfl (dq (dR (Kv (wU (jt (lA (u_ (nU 6) (jN (vP 13)) qJ))) (jt (lA (u_ (nU 6) qJ (jN (vP 13)))))))) (dq (dR (Kv (wU (jt (lA (u_ (nU 7) (jN (vP 13)) qJ))) (jt (lA (u_ (nU 7) qJ (jN (vP 13)))))))) dz))))))))))
theorem Bt(D:Dg K mg "_law_kept" (top 38) ["_law_script", "_law_wide"])(B:Bl mg)(J:Has P w K mg base n "_law_part" ["_law_script", "_law_at", "_law_k", "_law_many"] (spD K bw)):Has P w K mg base (n+1) "_law_kept" ["_law_script", "_law_wide"] (spD K jw):=by
 have sc:FnScope ["_law_script", "_law_wide", "_law_base", "_law_held", "_law_room", "_law_number"] ["_law_script", "_law_wide"] (bN (top 38)):=fsc
 exact iD (fl:=[.A,.A,.A,.O,.A,.A]) D sc (by decide) (by decide) λf cdv A outer s H E Z=>bh (sA (i:=2) sc.nd (oM (cA J Z (dq (vP 0) (dq iP (dq iP (dq iP dz)))))))
  (bh (nD (i:=3) rfl sc.nd rfl (by first|exact Or.inl rfl|exact Or.inr rfl) (pC (mL dz)))
  (bh (jE (L:=[]) PassesOwn.never rfl (ji (by rfl) B.range_ (qd (dq (vP 1) dz))) (gN' (i:=4) sc.nd) (bh (sA (i:=5) sc.nd (oM (cA J Z (dq (vP 0) (dq iP (dq (vP 4) (dq iP dz)))))))
  (bK (oN (i:=3) rfl (dx (jt (iV (mL (dq iC (dq (nW (cU wg Cm (bD (cU eF gF (vP 2) (vP 5))) iP)) dz))))) (bD (Gy (dq (bD (uH yN Iz (vP 5) iP (fK _))) dz) (by rfl) B.int_))) rfl))))
  (bK (cT (vJ 3 (by decide))))))
theorem Ep(D:Dg K mg "_law_row" (top 39) ["_law_wide", "_law_groups", "_law_places", "_law_night"])(B:Bl mg):Has P w K mg base (n+1) "_law_row" ["_law_wide", "_law_groups", "_law_places", "_law_night"] (spD K jY):=by
 have sc:FnScope ["_law_wide", "_law_groups", "_law_places", "_law_night", "_law_row_here", "_law_at", "_law_room"] ["_law_wide", "_law_groups", "_law_places", "_law_night"] (bN (top 39)):=fsc
 exact iD (fl:=[.A,.A,.A,.A,.O,.A,.A]) D sc (by decide) (by decide) λf cdv A outer s H E Z=>bh (nD (i:=4) rfl sc.nd rfl (by first|exact Or.inl rfl|exact Or.inr rfl) (Ag (pC (mL (dq (nW (wN)) dz))) (vP 0)))
  (bh (jE (L:=[]) PassesOwn.never rfl (ji (by rfl) B.range_ (qd (dq (bD (gD cH kh (by rfl) B.len_ PySem.boot_len (dq (vP 1) dz))) dz))) (gN' (i:=5) sc.nd) (bK (jE (L:=[]) PassesOwn.never rfl (ji (by rfl) B.range_ (qd (dq (vP 0) dz))) (gN' (i:=6) sc.nd) (bK (jC (wQ (Ae (wW mC wj rH b_lt (d7 (dx (jt (dx (vB 1) (vP 5))) iP)) (vP 3) (d7 (dx (jt (dx (vB 1) (vP 5))) iP))) (vL (wW mC wj rH b_lt (d7 (dx (vB 2) (vP 5))) (vP 6) (bD (cU eF gF (d7 (dx (vB 2) (vP 5))) (d7 (dx (jt (dx (vB 1) (vP 5))) iP)))))))) (bK (Fe (i:=4) rfl (vA 5) (vP 6) rfl)) (fG))))))
  (bK (cT (vJ 4 (by decide)))))
theorem Bu(D:Dg K mg "_law_told" (top 40) ["_law_held", "_law_groups"])(B:Bl mg)(J:Has P w K mg base n "laid" ["held", "groups"] (spD K sY)):Has P w K mg base (n+1) "_law_told" ["_law_held", "_law_groups"] (spD K kI):=by
 have sc:FnScope ["_law_held", "_law_groups", "_law_found"] ["_law_held", "_law_groups"] (bN (top 40)):=fsc
 exact iD (fl:=[.A,.A,.N]) D sc (by decide) (by decide) λf cdv A outer s H E Z=>bh (Gz (i:=2) rfl sc.nd rfl (by first|exact Or.inl rfl|exact Or.inr rfl) (Uy (cA J Z (dq (vP 0) (dq (vP 1) dz)))))
  (bh (jC (wQ (uZ (nY (mW (bD (pF (T := "tuple") (by decide) (Aj 2 rfl) (by rfl) B.isinstance_ (by rfl) B.tuple_ PyProof.Rows.boot_tuple)))) (uZ (ig (uy Z.units) IV (bD (gD cH kh (by rfl) B.len_ PySem.boot_len (dq (Aj 2 rfl) dz))) iP (fK _)) (sJ (ig (uy Z.units) IV (K3 rfl (Aj 2 rfl) iP (λ_ _=>rfl)) (bD (Fd)) (fK _)))))) (bK (cT (dR (wN)))) (fG))
  (bK (cT (K3 rfl (CG 2 rfl) iP (λ_ _=>rfl)))))
theorem Wa(Fn:FunD K "law" (top 41) f fd)(B:Bl mg)(hrow_at:Has P w K mg base n "row_at" ["wide", "groups", "places", "night"] (spD K lB))(D:Has P w K mg base n "_law_part" ["_law_script", "_law_at", "_law_k", "_law_many"] (spD K bw))(Z:Has P w K mg base n "_law_whole" ["_law_found"] (spD K dg))(W:Has P w K mg base n "_law_sits" ["_law_held", "_law_groups", "_law_places"] (spD K iH))(Y:Has P w K mg base n "_law_hidden" ["_law_script", "_law_held", "_law_least", "_law_many"] (spD K iu))(h_law_kept:Has P w K mg base n "_law_kept" ["_law_script", "_law_wide"] (spD K jw))(h_law_row:Has P w K mg base n "_law_row" ["_law_wide", "_law_groups", "_law_places", "_law_night"] (spD K jY))(J:Has P w K mg base n "_law_told" ["_law_held", "_law_groups"] (spD K kI)):FnOk P w K mg base CX0 (n+1) f fd ["_law_script"] (spD K Np):=by
 have sc:FnScope ["_law_script", "_law_wide", "_law_held", "_law_groups", "_law_hidden_here", "_law_handed", "_law_places", "_law_k", "_law_night", "_law_found"] ["_law_script"] (bN (top 41)):=fsc
 exact KR (fl:=[.A,.A,.A,.A,.A,.A,.O,.A,.A,.A]) Fn sc (by decide) (by decide) λf cdv A outer s H E X=>bh (sA (i:=1) sc.nd (iV (cU eF gF iP (jq (cA D X (dq (vP 0) (dq iP (dq iP (dq iP dz)))))))))
  (bh (sA (i:=2) sc.nd (oM (cA h_law_kept X (dq (vP 0) (dq (vP 1) dz)))))
  (bh (Kw (oM (cA Y X (dq (vP 0) (dq (vP 2) (dq (bD (cU eF gF iP (bD (Gy (dq (bD (uH (ux X.units) IK (vP 1) iP (fK _))) dz) (by rfl) B.int_)))) (dq (jq (cA D X (dq (vP 0) (dq iP (dq iP (dq iP dz)))))) dz)))))) (uI rfl (iB (gN' (i:=3) sc.nd) (iB (gN' (i:=4) sc.nd) (qy)))))
  (bh (sA (i:=5) sc.nd (lA (qH (dq (lA (Ah (vB 2) (by rfl) B.list_)) (dq (lA (Ah (vB 3) (by rfl) B.list_)) dz)))))
  (bh (nD (i:=6) rfl sc.nd rfl (by first|exact Or.inl rfl|exact Or.inr rfl) (pC (Ug (cA J X (dq (d7 (dx (vB 5) iP)) (dq (d7 (dx (vB 5) iP)) dz))))))
  (bh (jC (wQ (uZ (ig (uy X.units) IV (vP 5) (Gr (qH (dq (vA 2) (dq (vA 3) dz)))) (fK _)) (sJ (nY (mW (jq (cA W X (dq (vP 2) (dq (vP 3) (dq (wL (nU 6)) dz)))))))))) (bK (cT (dR (rO)))) (fG))
  (bh (jE (L:=[]) PassesOwn.never rfl (ji (by rfl) B.range_ (qd (dq iP dz))) (gN' (i:=7) sc.nd) (bh (sA (i:=8) sc.nd (iV (cU eF gF (jq (cA D X (dq (vP 0) (dq iP (dq iP (dq iP dz)))))) (jq (cA D X (dq (vP 0) (dq iP (dq (bD (cU eF gF iP (vP 7))) (dq iP dz)))))))))
  (bh (sA (i:=9) sc.nd (oM (cA hrow_at X (dq (vP 1) (dq (d7 (dx (vB 5) iP)) (dq (wL (nU 6)) (dq (vP 8) dz)))))))
  (bh (jC (wQ (uZ (nY (mW (bD (pF (T := "list") (by decide) (vP 9) (by rfl) B.isinstance_ (by rfl) B.list_ PyProof.Rows.boot_list)))) (sJ (ig (uy X.units) IV (vP 9) (jq (cA h_law_row X (dq (vP 1) (dq (vP 3) (dq (wL (nU 6)) (dq (vP 8) dz)))))) (fK _))))) (bK (cT (dR (rO)))) (fG))
  (bK (jC (ig yN Iz (bD (gD cH kh (by rfl) B.len_ PySem.boot_len (dq (bD (tY (L:=[]) (fl':=[.A]) rfl ["_law_one"] [] [] (tW (vB 9)) (λ_ _ _ _ _=>gN' (i:=0) (show(["_law_one"]:List Str).Nodup by decide +kernel)) (λ_ _ _ _ _=>Gn (wQ (Ae (Qf (vP 0)) (vL (nY (mW (jq (cA Z X (dq (vP 0) dz))))))))) (λ_ _ _ _ _=>nW (uF (vP 0))))) dz))) iP (fK _)) (bK (cT (dR (rO)))) (fG)))))))
  (bh (oN (i:=6) rfl (iV (Aa)) rfl)
  (bK (cT (dR (qg (jq (cA W X (dq (vP 2) (dq (vP 3) (dq (jq (cA J X (dq (vP 2) (dq (vP 3) dz)))) dz))))) (qe (uH (ux X.units) IK (vP 5) (Gr (qH (dq (vA 2) (dq (vA 3) dz)))) (fK _))))))))))))))
end
end K71
namespace D3
theorem len0{p:List PySem.Value->Prop}(h:p []):∀us,us.length=0->p us:=λus Z=>by
 cases us with
 |nil=>exact h
 |cons _ _=>cases Z
theorem YS{p:List PySem.Value->Prop}(h:∀a us,us.length=n->p (a::us)):∀us,us.length=n+1->p us:=λus Z=>by
 cases us with
 |nil=>cases Z
 |cons a r=>exact h a r (tM.inj Z)
end D3
namespace K71
open PySem L2 My D3
structure Txt(K:PySem.W.Frag)(mg:Str->Option Value):Prop where
 d_is_whole:Dg K mg "is_whole" (top 5) ["thing"]
 d_is_whole_within:Dg K mg "is_whole_within" (top 6) ["thing", "least", "most"]
 d_all_whole:Dg K mg "all_whole" (top 7) ["things"]
 d_is_tuple_of:Dg K mg "is_tuple_of" (top 8) ["thing", "many"]
 d_is_pair:Dg K mg "is_pair" (top 9) ["thing"]
 d_is_stretch:Dg K mg "is_stretch" (top 12) ["thing"]
 d_nights_of:Dg K mg "nights_of" (top 13) ["stay"]
 d_holds:Dg K mg "holds" (top 14) ["stretch", "night"]
 d_is_group:Dg K mg "is_group" (top 18) ["thing"]
 d_check_groups:Dg K mg "check_groups" (top 19) ["groups"]
 d_turns:XL.DgT K mg "turns" (top 20) ["groups"] 135 "turns.<locals>.<lambda>" ⟨43,42,43,72⟩
 d_starts_in:Dg K mg "starts_in" (top 21) ["row", "group"]
 d_night_behind:Dg K mg "night_behind" (top 22) ["since", "group", "is_own"]
 d_row_behind:Dg K mg "row_behind" (top 23) ["row", "group", "start"]
 d_rows_behind:Dg K mg "rows_behind" (top 24) ["rows", "group"]
 d_all_behind:Dg K mg "all_behind" (top 25) ["held", "groups"]
 d_places_by:Dg K mg "places_by" (top 26) ["found", "groups"]
 d_laid_as_they_are:Dg K mg "laid_as_they_are" (top 27) ["held", "groups"]
 d_laid:Dg K mg "laid" (top 28) ["held", "groups"]
 d_row_at:Dg K mg "row_at" (top 30) ["wide", "groups", "places", "night"]
 d__law_cell:Dg K mg "_law_cell" (top 32) ["_law_script", "_law_at"]
 d__law_part:Dg K mg "_law_part" (top 33) ["_law_script", "_law_at", "_law_k", "_law_many"]
 d__law_whole:Dg K mg "_law_whole" (top 34) ["_law_found"]
 d__law_apart:Dg K mg "_law_apart" (top 35) ["_law_one", "_law_place", "_law_other", "_law_there"]
 d__law_sits:Dg K mg "_law_sits" (top 36) ["_law_held", "_law_groups", "_law_places"]
 d__law_hidden:Dg K mg "_law_hidden" (top 37) ["_law_script", "_law_held", "_law_least", "_law_many"]
 d__law_kept:Dg K mg "_law_kept" (top 38) ["_law_script", "_law_wide"]
 d__law_row:Dg K mg "_law_row" (top 39) ["_law_wide", "_law_groups", "_law_places", "_law_night"]
 d__law_told:Dg K mg "_law_told" (top 40) ["_law_held", "_law_groups"]
 d_law:Dl K mg "law" "_law_script" (top 41)
 blt:Bl mg
 c_NIGHTS:∃t,mg "NIGHTS"=some (.int 400 t)
 c_MOST_OF_A_GROUP:∃t,mg "MOST_OF_A_GROUP"=some (.int 6 t)
 c_MOST_ROWS:∃t,mg "MOST_ROWS"=some (.int 400 t)
theorem Wb(T:Txt K mg){f:Addr}{fd:FuncData}(F:FunD K "law" (top 41) f fd):FnOk P w K mg base CX0 65 f fd ["_law_script"] (KY K):=by
 have U:=En (P:=P) (w:=w) (base:=base) (n:=0) T.d_is_whole T.blt
 have V:=Bk (P:=P) (w:=w) (base:=base) (n:=0) T.d_nights_of T.blt
 have t:=Om (P:=P) (w:=w) (base:=base) (n:=0) T.d_holds T.blt
 have z:=Oo (P:=P) (w:=w) (base:=base) (n:=0) T.d_turns T.blt
 have H:=Bm (P:=P) (w:=w) (base:=base) (n:=0) T.d_starts_in T.blt
 have S:=vC (P:=P) (w:=w) (base:=base) (n:=0) T.d_night_behind T.blt
 have A:=Bp (P:=P) (w:=w) (base:=base) (n:=0) T.d__law_cell T.blt
 have X:=yL (P:=P) (w:=w) (base:=base) (n:=0) T.d__law_whole T.blt
 have I:=yM (P:=P) (w:=w) (base:=base) (n:=0) T.d__law_apart T.blt
 have x:=Ep (P:=P) (w:=w) (base:=base) (n:=0) T.d__law_row T.blt
 have W:=tE (P:=P) (w:=w) (base:=base) (n:=1) T.d_is_whole_within T.blt (U.mono (by decide))
 have E:=Bj (P:=P) (w:=w) (base:=base) (n:=1) T.d_all_whole T.blt (U.mono (by decide))
 have M:=yJ (P:=P) (w:=w) (base:=base) (n:=1) T.d_row_behind T.blt (S.mono (by decide))
 have G:=Bo (P:=P) (w:=w) (base:=base) (n:=1) T.d_places_by T.blt (z.mono (by decide))
 have u:=JV (P:=P) (w:=w) (base:=base) (n:=1) T.d_row_at T.blt (V.mono (by decide)) (t.mono (by decide))
 have Z:=Bq (P:=P) (w:=w) (base:=base) (n:=1) T.d__law_part T.blt (A.mono (by decide))
 have C:=Br (P:=P) (w:=w) (base:=base) (n:=1) T.d__law_sits T.blt (X.mono (by decide)) (I.mono (by decide))
 have O:=yw (P:=P) (w:=w) (base:=base) (n:=2) T.d_is_tuple_of T.blt (E.mono (by decide))
 have Q:=yx (P:=P) (w:=w) (base:=base) (n:=2) T.d_rows_behind T.blt (H.mono (by decide)) (M.mono (by decide))
 have N:=yC (P:=P) (w:=w) (base:=base) (n:=2) T.d__law_hidden T.blt (Z.mono (by decide))
 have B:=Bt (P:=P) (w:=w) (base:=base) (n:=2) T.d__law_kept T.blt (Z.mono (by decide))
 have v:=Gf (P:=P) (w:=w) (base:=base) (n:=3) T.d_is_pair T.blt (O.mono (by decide))
 have J:=yK (P:=P) (w:=w) (base:=base) (n:=3) T.d_all_behind T.blt (z.mono (by decide)) (Q.mono (by decide)) T.c_MOST_ROWS
 have L:=yI (P:=P) (w:=w) (base:=base) (n:=4) T.d_is_stretch T.blt (v.mono (by decide)) T.c_NIGHTS
 have Y:=rJ (P:=P) (w:=w) (base:=base) (n:=4) T.d_laid_as_they_are T.blt (J.mono (by decide)) (G.mono (by decide))
 have y:=Eo (P:=P) (w:=w) (base:=base) (n:=5) T.d_is_group T.blt (W.mono (by decide)) (L.mono (by decide)) (V.mono (by decide)) T.c_MOST_OF_A_GROUP
 have R:=vq (P:=P) (w:=w) (base:=base) (n:=6) T.d_check_groups T.blt (y.mono (by decide))
 have s:=RZ (P:=P) (w:=w) (base:=base) (n:=7) T.d_laid T.blt (R.mono (by decide)) (Y.mono (by decide))
 have D:=Bu (P:=P) (w:=w) (base:=base) (n:=8) T.d__law_told T.blt (s.mono (by decide))
 exact((Wa (P:=P) (w:=w) (base:=base) (n:=9) F T.blt (u.mono (by decide)) (Z.mono (by decide)) (X.mono (by decide)) (C.mono (by decide)) (N.mono (by decide)) (B.mono (by decide)) (x.mono (by decide)) (D.mono (by decide))).mono (by decide)).imp (Qe K71.Ol)
end K71
def PySem.W.Fast.tw5381684802940739174:=0
def PySem.W.Fast.tw4794771184483820210:=0
def PySem.W.Fast.tw3992625501813819779:=0
def PySem.W.Fast.tw15459732356486509406:=0
def PySem.W.Fast.tw3313561271330954825:=0
def PySem.W.Fast.tw8011201717270624544:=0
def PySem.W.Fast.tw18044135900511652416:=0
def PySem.W.Fast.tw12359285456576349159:=0
def PySem.W.Fast.tw16228515495007411705:=0
def PySem.W.Fast.tw914333343796003004:=0
def PySem.W.Fast.tw10785301149547731488:=0
def PySem.W.Fast.tw930520489659601519:=0
def PySem.W.Fast.tw18422831517272217295:=0
def PySem.W.Fast.tw5204361704829587277:=0
def PySem.W.Fast.tw9829346923661418858:=0
def PySem.W.Fast.tw15736728795272807401:=0
def PySem.W.Fast.tw16489527714084663354:=0
def PySem.W.Fast.tw17767492592406252867:=0
def PySem.W.Fast.tw17849157901796148554:=0
def PySem.W.Fast.tw5321328269560404590:=0
def PySem.W.Fast.tw1199855309303215797:=0
def PySem.W.Fast.tw10788806867715884562:=0
def PySem.W.Fast.tw9921197195305078147:=0
def PySem.W.Fast.tw2282796040541691590:=0
def PySem.W.Fast.tw12826569187036250395:=0
def PySem.W.Fast.tw4655115879041560709:=0
def PySem.W.Fast.tw15158192628015454429:=0
def PySem.W.Fast.tw13648106572487987989:=0
def PySem.W.Fast.tw6500414609334304694:=0
def PySem.W.Fast.tw15312859642513055436:=0
def PySem.W.Fast.tw10212826974800689288:=0
def PySem.W.Fast.tw17135055144762472143:=0
def PySem.W.Fast.tw13559471168153704318:=0
def PySem.W.Fast.tw12550273450531590078:=0
def PySem.W.Fast.tw337908739163424456:=0
def PySem.W.Fast.tw2202595734168621448:=0
def PySem.W.Fast.tw9575571683176684553:=0
def PySem.W.Fast.tw16928465877932063431:=0
def PySem.W.Fast.tw1556087511912436676:=0
def PySem.W.Fast.tw691164923471400316:=0
def PySem.W.Fast.tw11752948958209949791:=0
def PySem.W.Fast.tw13819034969831857847:=0
def PySem.W.Fast.tw4602339175102761074:=0
def PySem.W.Fast.tw13962925736559570164:=0
def PySem.W.Fast.tw18351917917011363002:=0
def PySem.W.Fast.tw9475940929525971911:=0
def PySem.W.Fast.tw11191399919845235831:=0
def PySem.W.Fast.tw17029167813733163938:=0
def PySem.W.Fast.tw15910584662943942380:=0
def PySem.W.Fast.tw15052363477427768270:=0
def PySem.W.Fast.tw1557447821974793229:=0
def PySem.W.Fast.tw7927716528089821665:=0
def PySem.W.Fast.tw7438299168947724918:=0
def PySem.W.Fast.tw8392078974440226169:=0
def PySem.W.Fast.tw9315019619016375145:=0
def PySem.W.Fast.tw2778432704376298625:=0
def PySem.W.Fast.tw5832587316509942378:=0
def PySem.W.Fast.tw18242998662341541548:=0
def PySem.W.Fast.tw8824718054324233175:=0
def PySem.W.Fast.tw3692496290516806404:=0
def PySem.W.Fast.tw18106064002103760931:=0
def PySem.W.Fast.tw5971971045391896713:=0
def PySem.W.Fast.tw12954122267597102961:=0
def PySem.W.Fast.tw6346470852985549951:=0
def PySem.W.Fast.tw3083626019692999606:=0
def PySem.W.Fast.tw13199337758491373928:=0
def PySem.W.Fast.tw10987535681391529534:=0
def PySem.W.Fast.tw11100977214891734742:=0
def PySem.W.Fast.tw5508103729501875092:=0
def PySem.W.Fast.tw9223249372500509685:=0
def PySem.W.Fast.tw10304103137657363981:=0
def PySem.W.Fast.tw6035480837013037109:=0
def PySem.W.Fast.tw1943010429519579610:=0
def PySem.W.Fast.tw1281169980842929517:=0
def PySem.W.Fast.tw15281511273224360805:=0
def PySem.W.Fast.tw539864628498555120:=0
def PySem.W.Fast.tw8527621889861057905:=0
def PySem.W.Fast.tw9057579178371133962:=0
open PySem PySem.W PyProof.Rows
set_option maxRecDepth 100000 in
set_option maxHeartbeats 0 in
theorem PySem.Challenge.cw_nightbook_k71_laid_places_holds : PySem.Challenge.rw_nightbook_k71_laid_places.Holds := by
 w_on;o_law;k_head;(case hw=>w_witness2)
 k_fill
 refine L2.Km (l:=PySem.Challenge.rw_nightbook_k71_laid_places) (n:=63) (k:=65) (x := "_law_script") (CX:=L2.CX0) (sp:=D3.KY) rfl (by decide) rfl ⟨rfl,by decide,by decide⟩ (λw h Y=>PySem.W.km_in_of Y) ?F D3.tabs (λw h Y=>XL.QT (c:=139) (PySem.W.km_in_of Y) (PySem.W.km_tabs_of Y _ (aC)) (by kernel_rfl) (by kernel_rfl)) XL.Ms ?S ?C
 case F=>
  intro w mg fa h Z G X
  have T:K71.Txt (L2.KOf Z) mg:=by
   constructor
   (case blt=>constructor<;>(refine' PySem.W.mg_none_of Z G ?z;(case z=>k_is)))
   all_goals try dsimp only[L2.KOf]
   all_goals first
    | (refine' D3.Xg Z G ?b ?a ?l ?c ?k;(case a=>k_is);(case l=>k_is);(case c=>k_is);(case k=>k_is);(case b=>intro _ _ _ _ _ _;repeat(first|exact D3.len0 rfl|exact D3.len0 ⟨_,rfl,rfl⟩|refine D3.YS λ_=>?_)))
    | (refine' D3.Xh Z G ?b ?a ?l ?c ?k;(case a=>k_is);(case l=>k_is);(case c=>k_is);(case k=>k_is);(case b=>exact λ_ _ _ _ _ _ u=>rfl))
    | (refine' XL.Vc Z G ?b ?a ?l ?c ?k ?h ?t;(case a=>k_is);(case l=>k_is);(case c=>k_is);(case k=>k_is);(case h=>kernel_rfl);(case t=>exact aC);(case b=>intro _ _ _ _ _ _;repeat(first|exact D3.len0 rfl|exact D3.len0 ⟨_,rfl,rfl⟩|refine D3.YS λ_=>?_)))
    | (exact⟨_,PySem.W.mg_of Z G rfl⟩)
  obtain⟨f,fd,F,b,m⟩:=T.d_law.ex
  have Q:=X.symm.trans m
  cases Q
  exact⟨fd,b,λbase P nb=>K71.Wb T F⟩
 case S=>exact λK H a ns V R U=>⟨a,ns,R,rfl,U,V,λ_=>rfl⟩
 case C=>exact λ_ _ _ _ z=>z
