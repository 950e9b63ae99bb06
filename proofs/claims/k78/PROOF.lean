import PyProof.Rows.All
import Wide.All
import OpenK.AllK
import Wide.FinOn
import Lean
import PyProof.EqAt
import PyProof.EqKinds
import PyProof.TupleCall
import PyProof.EqLayable
import KE.KSortTup
import PyProof.AttrMissHeap
import KE.KDictOf
import KE.KDictSum
import PyProof.Rows.SortWalk
import PyProof.NeKinds
import PyProof.DictWalks
import KE.KMinBuiltin
import PyProof.DictRoadsH
import Wide.Seal
import KE.KDictLaws
import PyProof.Rows.SortRuns
import PyProof.Rows.SortShell
import KE.KDictSum
import KE.KDictLaws
import PyProof.DictFindH
import PyProof.DictRoadsH
import PyProof.WalksMore
import PyProof.Draws
import PyProof.EnumMake
import PyProof.TupleIter
import KE.KLam
import KE.KNestM
import PyProof.ListRange
import PySem.Challenge.RW_nightbook_k78_whole_put_otherwise
set_option Elab.async false
set_option linter.all false
set_option maxRecDepth 100000
set_option maxHeartbeats 4000000
set_option exponentiation.threshold 40000
set_option genSizeOf false
set_option genSizeOfSpec false
set_option genInjectivity false
set_option bootstrap.genMatcherCode false
noncomputable section
open PySem renaming wpAny_bind->aa,wpAny_pure->ae,wpAny_holding->ap,wpAny_call_entry->ar,wpAny_callSpecial?_slot->av,wpAny_Call_Name_kw->ax,wpAny_truthy_bool->ay,wpAny_newObj_type->aE,wpAny_field->a5,wpAny_mono->a6,wpAny_typeNameOfWhole_keyiter->a9,wpAny_rule->be,wpAny_typeNameOf_keyiter->bn,wpAny_ite_split->bp,wpAny_dictEntries->bt,wpAny_seqItems->bu,builtinLookup_eq_fast->bv,wpAny_newList->bE,wpAny_attempt->bP,wpAny_updateSeq->b6,wpAny_specialOf->b7,wpAny_passesOwn->b8,wpAny_pyIter_tuple->cb,wpAny_pyIter_enum->ce,wpAny_isInstance->cm,wpAny_eqBool_int->cn,wpAny_nextOf_list_item->cr,wpAny_typeOf->cw,wpAny_isOneOf_keyiter->cy,typeLookup_type->cz,codeAny_builtin->cK,wpAny_pyIter_revIter->c6,wpAny_setField->c7,wpAny_fieldsOf->c8,sizeLine_eq->c_,wpAny_standAt->de,tupleKind_room_in1->df,plainId_quiet->di,wpAny_Name->du,seqIndex_neg->dA,codeAny_mono->dP,wpAny_pyIter_zip->dS,wpAny_execs_nil->d5,wpAny_dictEpoch->d6,seqIndex_of->ee,wpAny_letOwnedTupleGo_enum->er,wpAny_newTuple->eA,isSubtype_stop->eC
open PySem.Heap renaming get?_push_of_some->ad,lt_size->af,get?_push_size->ag,get?_update_self->az,get?_update_other->aI,size_update->aT,size_push->bq,get?_update_ne->bz,get?_push_ne->ca,get?_push_cases->cq,get?_none_of_le->eI
open PyProof.Rows renaming wpS_bind->ai,wpS_pure->am,wpS_forRange->a4,wpS_mono->bj,wpS_modify->bX,wpS_get->ci,entry_list_sort->cE,size_push'->cS,slot_list_sort->c9,getElem?_mirror_all->da,wpS_lift->db,listUpdate_at->dk,Subscript_->dv,plain_sorted->dE,entry_sorted->dL,wpS_reverse->d4,seqEpoch_at->ef,kind_sorted->eg,getElem?_bubble->eh,get?_update_seq->em,sortedHeap_old->eB,args_list_sort->eD
open PySem.SeqAt renaming canLay_of_shaped->aw
open PySem.W renaming kas_descPart->aS,kas_desc->a7,kas_rev->bg,kas_place->bi,kas_tail3->b9,kas_count->cf,kas_asc->ck,kas_sort->c0
open PySem.Calls renaming spliced_cons->a8,call_function_entry->ba,spliced_nil->bo,Name_function_global->dt,callWith_builtin->d3,evalArgs_plain->ew
open PySem.F renaming slot_dict_keyiterator_next->a_,slot_tuple_iterator_next->bb,plain_extend_loop->bS,slot_zip_next->cv,args_dict_keyiterator_next_1->dm,entry_dict_keyiterator_next->dy,args_tuple_iterator_next_1->dQ,entry_tuple_iterator_next->d0
open PySem.Around renaming under_plainId->br
open PySem.Obj renaming data_mapFields->b5,isFreed_of_fields->eH,data_mapDictKeys->eJ
open List renaming length_map->aq,getElem?_eq_getElem->aB,getD_eq_getElem?_getD->aH,mem_cons_self->aJ,mem_cons_of_mem->aK,mem_singleton->aN,pairwise_append->aO,map_cons->aP,replicate->aQ,append_assoc->aR,mem_cons->aU,range->aV,size_toArray->aX,length_append->bh,getElem?_map->bw,mem_range->bA,length_cons->bC,getElem?_eq_none->bG,mem_append_right->bI,getElem?_set_ne->bJ,length_replicate->bM,length_range->bO,mem_map->bQ,getElem?_append_right->bT,length_take->bV,pairwise_cons->bZ,getElem?_append_left->cg,getElem_mem->cj,pairwise_iff_getElem->cA,mem_append_left->cB,replicate_succ->cD,mem_append->cG,length_set->cH,map_append->cI,length_eq_zero_iff->cJ,all_eq_true->cQ,map_map->cR,length_drop->cV,append_nil->cW,not_mem_nil->dB,getElem?_set_self->dD,nil_append->dH,lookup_cons->dI,getElem?_range->dM,map_congr_left->dN,length_singleton->dR,take_append_drop->dU,ext_getElem?->dX,drop_zero->d_,nodup_cons->eO,take_of_length_le->eU,mem_map_of_mem->eV,flatten_cons->eX,perm_append_comm->fj,getElem?_drop->fD,getElem?_replicate->fM,getElem?_mapIdx->fO,length_reverse->fZ,getElem_of_mem->f9,getElem?_eq_some_iff->gh,getElem_map->gA,mem_of_getElem?->gG,getElem?_of_mem->gH,mem_singleton_self->gR,pairwise_singleton->gU,drop_eq_nil_of_le->g_,mem_of_find?_eq_some->iG,mem_filter->iH,foldl_cons->iI,map_nil->iJ,pairwise_map->iQ,getElem?_take_of_lt->iW,find?_eq_none->jt,toArray->jw,find?_cons->jC,length_nil->jD,reverse_cons->jJ,count_append->jK,drop_drop->jM,filter_cons->jV,drop_eq_getElem_cons->j9,exists_mem_of_ne_nil->j_,mem_or_eq_of_mem_set->kh,map_take->kE,map_drop->kI,mem_filterMap->lu,filter_append->lA,range'->lE,getElem?_set->lK,getElem_drop->lM,take_zero->lN,filter_eq_nil_iff->lQ,eraseIdx_eq_take_drop_succ->mJ,getElem?_reverse->mL,any_cons->m9,mem_of_mem_drop->nD,mem_of_mem_take->nG,map_id->nH,of_mem_zip->nY,dropLast_concat_getLast->n6,filterMap_cons->oA,map->oY,getElem_range->o7,length->pD,nodup_append->pF,getElem_take->pH,sum_cons->pU,ext_getElem->qe,filter_cons_of_neg->qj,filter_cons_of_pos->qm,length_eq_one_iff->rC,drop_of_length_le->rD,find?_some->rY,forIn_cons->rZ,length_filter_le->sE,mem_iff_getElem?->sG,reverse_reverse->sH,getLast?_concat->sI,length_pos_iff->uy,perm_nil->uH,zip_cons_cons->uO,length_range'->uP,getElem?_take->uQ,filter_filter->uR,lookup->wW,foldl->yx
open Nat renaming reduceLeDiff->aj,reduceEqDiff->ak,reduceAdd->aA,reduceLT->aC,le_refl->aL,ne_of_lt->aW,le_trans->bF,lt_of_lt_of_le->bY,lt_of_succ_lt->cM,zero_le->cZ,le_of_lt->dW,lt_irrefl->eN,lt_succ_self->fP,zero_add->fV,lt_or_ge->gD,lt_succ_of_lt->gQ,le_succ->jm,add_zero->ju,ne_of_gt->lJ,not_lt->mU,le_of_eq->oF,lt_trans->oG,sub_zero->oH,lt_of_le_of_lt->oX,min_le_right->p7,add_sub_cancel_left->qd,le_add_right->qg,add_assoc->uG,eq_zero_or_pos->uN,le_succ_of_le->vg,succ->vm
open Int renaming reduceEq->aD,reduceLT->aF,reduceLE->aG,le_refl->eY,toNat_natCast->eZ,le_trans->iM,emod_lt_of_pos->jx,zero_add->jU,emod_nonneg->k_,eq_ofNat_of_zero_le->lF,sub_zero->rm,le_antisymm->su,le_of_lt->vh,mul_one->wV
open Option renaming bind_some->aM,some->dh,map_some->kZ,bind_eq_some_iff->p8
open Bool renaming false_ne_true->aY,and_eq_true->bf,not_true->cT,false_eq_true->fG,not_eq_true'->gW,or_eq_true->jB,not_false->lO,and_eq_true_iff->nJ,eq_iff_iff->nZ,false_and->oW,not_eq_false'->oZ,true_and->pW,or_false->uF
open Array renaming length_toList->bD,getElem?_toList->cL,toList_append->cN,perm_iff_toList_perm->d9,getElem?_eq_none->fU,getElem?_eq_getElem->gj,getD_eq_getD_getElem?->h_,toList_inj->mR,toList_reverse->nF,toList_push->pG,size_setIfInBounds->pR,forIn_toList->uM
theorem dTr{p:Prop}[Decidable p](h:p):decide p=true:=decide_eq_true h
theorem dFa{p:Prop}[Decidable p](h:¬p):decide p=false:=decide_eq_false h
theorem lMp{α β:Type}{f:α->β}{l:List α}:(l.map f).length=l.length:=aq f

namespace L2
open PySem PySem.Spec PyProof.Rows
abbrev Key:=Sum Int Str
noncomputable def yC:Key->Value->Bool
 | .inl k,v=>Value.isInt k v
 | .inr x,v=>Value.isStrOf x v
def ae7(w:World):Key->Int
 | .inl k=>hashInt k
 | .inr x=>hashStr w x
theorem iR:∀{k:Key}{v:Value},yC k v=true->(∃i t,k=Sum.inl i/\v=Value.int i t)\/(∃x t,k=Sum.inr x/\v=Value.str x t)
 | .inl i,v,h=>by
  obtain⟨t,e⟩:=Value.isInt_shape (k:=i) (v:=v) h
  exact .inl ⟨i,t,rfl,e⟩
 | .inr x,v,h=>by
  obtain⟨t,e⟩:=Value.isStrOf_shape (x:=x) (v:=v) h
  exact .inr ⟨x,t,rfl,e⟩
theorem Kv(i:Int)(t:Tok):yC (.inl i) (.int i t)=true:=by simp[yC,Value.isInt]
theorem Kw(x:Str)(t:Tok):yC (.inr x) (.str x t)=true:=by simp[yC,Value.isStrOf]
theorem Wa(a b:Int):decide ((Sum.inl a:Key)=Sum.inl b)=(a==b):=by
 by_cases e:a=b
 ·subst e;simp
 ·have h:¬(Sum.inl a:Key)=Sum.inl b:=λq=>e (Sum.inl.inj q)
  rw[dFa h]
  exact(beq_eq_false_iff_ne.mpr e).symm
theorem Wb(a b:Str):decide ((Sum.inr a:Key)=Sum.inr b)=decide (a=b):=by
 by_cases e:a=b
 ·subst e;simp
 ·have h:¬(Sum.inr a:Key)=Sum.inr b:=λq=>e (Sum.inr.inj q)
  rw[dFa h,dFa e]
theorem Wc(a:Int)(b:Str):decide ((Sum.inl a:Key)=Sum.inr b)=false:=dFa (λq=>nomatch q)
theorem Wd(a:Str)(b:Int):decide ((Sum.inr a:Key)=Sum.inl b)=false:=dFa (λq=>nomatch q)
def je(prog:Program)(w:World):PySem.KeyKind prog w Key where
 is:=yC
 hash:=ae7 w
 inj:=λv a b ha X=>by
  rcases iR ha with⟨i,t,rfl,rfl⟩|⟨x,t,rfl,rfl⟩
  ·rcases iR X with⟨j,u,rfl,e⟩|⟨y,u,rfl,e⟩
   ·injection e with Z _;rw[Z]
   ·exact nomatch e
  ·rcases iR X with⟨j,u,rfl,e⟩|⟨y,u,rfl,e⟩
   ·exact nomatch e
   ·injection e with Z _;rw[Z]
 byValue:=λk v h=>by
  rcases iR h with⟨i,t,rfl,rfl⟩|⟨x,t,rfl,rfl⟩<;>rfl
 pyHash:=λY h=>by
  rcases iR Y with⟨i,t,rfl,rfl⟩|⟨x,t,rfl,rfl⟩
  ·exact wpAny_pyHash_int h
  ·exact wpAny_pyHash_str h
 eqBool:=λW Y h=>by
  rcases iR W with⟨i,t,rfl,rfl⟩|⟨x,t,rfl,rfl⟩
  ·rcases iR Y with⟨j,u,rfl,rfl⟩|⟨y,u,rfl,rfl⟩
   ·rw[Wa]at h;exact cn h
   ·rw[Wc]at h;exact SeqAt.EqAt.int_str i t y u _ _ _ _ h
  ·rcases iR Y with⟨j,u,rfl,rfl⟩|⟨y,u,rfl,rfl⟩
   ·rw[Wd]at h;exact SeqAt.EqAt.str_int x t j u _ _ _ _ h
   ·rw[Wb]at h;exact wpAny_eqBool_str h
 «strs»:=λk x t v h=>by
  rcases iR h with⟨i,u,rfl,e⟩|⟨y,u,rfl,e⟩
  ·exact nomatch e
  ·injection e with Z _
   subst Z
   cases v<;>rfl
theorem Ht(prog:Program)(w:World)(k:Key)(v:Value):(je prog w).is k v=yC k v:=rfl
theorem Ez(prog:Program)(w:World)(i:Int)(t:Tok):(je prog w).is (.inl i) (.int i t)=true:=Kv i t
theorem EY(prog:Program)(w:World)(x:Str)(t:Tok):(je prog w).is (.inr x) (.str x t)=true:=Kw x t
end L2
variable{us:List Value}{a b:Addr}{P:Program}{w:World}{h:Heap}
namespace L2
open PySem PySem.Spec PyProof.Rows
inductive V where
 |non|bl (b:Bool)|int (i:Int)|str (x:Str)|byt (b:Array UInt8)|flt (b:UInt64)|ref (a:Addr)|ty (n:String)
 deriving DecidableEq
def RelV:V->Value->Prop
 | .non,u=>u=Value.none
 | .bl b,u=>u=Value.bool b
 | .int i,u=>∃t,u=Value.int i t
 | .str x,u=>∃t,u=Value.str x t
 | .byt b,u=>∃t,u=Value.bytes b t
 | .flt b,u=>∃t,u=Value.float b t
 | .ref a,u=>u=Value.ref a
 | .ty n,u=>u=Value.type n
abbrev Vals:List V->List Value->Prop:=Paired RelV
theorem Vals.length{xs:List V}(r:Vals xs us):xs.length=us.length:=Paired.length r
theorem Vals.get:∀{xs:List V}{us:List Value}{i:Nat}{x:V},Vals xs us->xs[i]? = some x->∃u,us[i]? = some u/\RelV x u
 |_,_,_,_,.nil,e=>by simp at e
 |_,_,0,_,.cons r _,e=>by simp at e;subst e;exact⟨_,rfl,r⟩
 |_,_,i+1,x,.cons _ t,e=>by
  obtain⟨u,h1,h2⟩:=Vals.get (i:=i) (x:=x) t (by simpa using e)
  exact⟨u,by simpa using h1,h2⟩
theorem Vals.set{x:V}{u:Value}(r:RelV x u):∀{xs:List V}{us:List Value}(i:Nat),Vals xs us->Vals (xs.set i x) (us.set i u)
 |_,_,_,.nil=>.nil
 |_,_,0,.cons _ t=>.cons r t
 |_,_,i+1,.cons q t=>.cons q (Vals.set r i t)
theorem Vals.append:∀{xs ys:List V}{us ws:List Value},Vals xs us->Vals ys ws->Vals (xs++ys) (us++ws)
 |_,_,_,_,.nil,s=>s
 |_,_,_,_,.cons r t,s=>.cons r (Vals.append t s)
theorem Vals.take:∀{xs:List V}{us:List Value}(n:Nat),Vals xs us->Vals (xs.take n) (us.take n)
 |_,_,0,_=>.nil
 |_,_,_+1,.nil=>.nil
 |_,_,n+1,.cons r t=>.cons r (Vals.take n t)
theorem Vals.drop:∀{xs:List V}{us:List Value}(n:Nat),Vals xs us->Vals (xs.drop n) (us.drop n)
 |_,_,0,r=>r
 |_,_,_+1,.nil=>.nil
 |_,_,n+1,.cons _ t=>Vals.drop n t
def v9:Option V->Option Value->Prop
 |some v,some u=>RelV v u
 |none,none=>True
 |_,_=>False
def KV{κ:Type}:List (κ×V)->List (κ×Value)->Prop:=Paired λ(p:κ×V)(q:κ×Value)=>p.1=q.1/\RelV p.2 q.2
def kV:Key->V
 | .inl i=>.int i
 | .inr x=>.str x
inductive HO where
 /-- a list -/
 |lst (xs:List V)
 /-- a tuple (never changes) -/
 |tup (xs:List V)
 /-- a dict whose keys are ints and texts;one whose keys are tuples of ints and texts (the empty one is both) -/
 |dK (kvs:List (Key×V))|dT (kvs:List (List Key×V))
 /-- a set of ints: its members,its size -/
 |set (S:Int->Bool) (n:Nat)
 /-- an instance of the class at C,its dict at dx,its attributes -/
 |ins (C dx:Addr) (fs:List (Str×V))
 /-- the dict of the instance at x -/
 |own (x:Addr)
 /-- the dict of an exception -/
 |xd (fs:List (Str×V))
 /-- a bound method,f of x -/
 |met (f x:Addr)
 /-- a range object lo,lo+1,.. below hi -/
 |rng (lo hi:Int)
 /-- a thing that is known to the object (the script;a dict while a loop walks it): read,never written while it is so -/
 |frz (o:Obj) (u:HO)
 /-- a code object's table -/
 |tbl (q:Str) (p:Pos)
 /-- any other thing,by what is true of its one object (a def of one's own: SetO a S n:=HO.ext λh=>..) -/
 |ext (φ:Heap->Prop)
noncomputable abbrev Hp:=Addr->Option HO
noncomputable def upd(H:Hp)(a:Addr)(o:HO):Hp:=λb=>if b=a then some o else H b
theorem cU{H:Hp}{o:HO}:upd H a o a=some o:=by unfold upd;rw[if_pos rfl]
theorem cO{H:Hp}{o:HO}(h:b≠a):upd H a o b=H b:=by unfold upd;rw[if_neg h]
theorem Jf{H:Hp}{o u:HO}:upd (upd H a o) a u=upd H a u:=by
 funext b;unfold upd;split<;>rfl
theorem yD{H:Hp}{o u:HO}(h:H a=some o)(h':H b=some u)(d:o≠u):a≠b:=by
 intro e;subst e;rw[h]at h';exact d (dh.inj h')
theorem jN{H:Hp}{o:HO}(h:H a=some o)(h':H b=none):a≠b:=by
 intro e;subst e;rw[h]at h';cases h'
section
variable(P:Program)(w:World)
def gY(H:Hp)(h:Heap)(a:Addr):HO->Prop
 | .lst xs=>xs.length<=sizeLine/\∃(its:List Value)(n:Nat),Vals xs its/\h.get? a=some {cls:=.type "list", data:=.seq its.toArray n}
 | .tup xs=>xs.length<=sizeLine/\∃its:List Value,Vals xs its/\IsTup h a its.toArray
 | .dK kvs=>kvs.length<=sizeLine/\(a==sysModules)=false/\∃vs,KV kvs vs/\h.DictOf (je P w) a vs
 | .dT kvs=>kvs.length<=sizeLine/\(a==sysModules)=false/\∃xs:List (List Key×Addr×Value),
  Paired (λ(p:List Key×V)(q:List Key×Addr×Value)=>p.1=q.1/\H q.2.1=some (.tup (p.1.map kV))/\RelV p.2 q.2.2) kvs xs /\
  ∃o es ep,h.get? a=some o/\o.ExactDict/\o.data = .dict es ep/\es.toList=xs.map (entryOfKey (tupleKind (je P w)))/\(xs.map (·.1)).Nodup
 | .set S n=>h.SetOf (intKind P w) a S n
 | .ins C dx fs=>H dx=some (.own a)/\fs.length<=1000/\dx≠a/\h.get? a=some (PySem.W.instObj C dx) /\
  ∃mA,h.Ns1 dx mA/\(∀f,v9 (fs.lookup f) (mA f))/\PySem.Within mA (fs.map (·.1))
 | .own _=>∃o,h.get? a=some o
 | .xd fs=>∃mA,h.Ns1 a mA/\∀f,v9 (fs.lookup f) (mA f)
 | .rng lo hi=>∃t u v,h.get? a=some {cls:=.type "range", data:=.fields #[.int lo t,.int hi u,.int 1 v]}
 | .frz o u=>h.get? a=some o/\gY H h a u
 | .tbl q p=>∃ps,h.get? a=some {cls:=.none,data:=.fields ps}/\(ps = #[]\/∃c',ps = #[rawInt p.line,rawInt p.col,.ref c']/\H c'=some (.own a)/\h.CodeRec (.ref c') q)
 | .met f x=>h.get? a=some (PySem.W.methodObj (.ref f) (.ref x))
 | .ext φ=>φ h/\(∃o,h.get? a=some o)/\∀h1 h2:Heap,φ h1->(∀o,h1.get? a=some o->h2.get? a=some o)->φ h2
def HOk(H:Hp)(h:Heap):Prop:=∀a o,H a=some o->gY P w H h a o
end
section
variable{P:Program}{w:World}{H H':Hp}{h h':Heap}{a:Addr}{o:HO}
theorem gY.lt(x:gY P w H h a o):a<h.objs.size:=by
 cases o with
 |lst xs=>obtain⟨_,_,_,_,e⟩:=x;exact af e
 |tup xs=>obtain⟨_,_,_,p⟩:=x;exact p.lt
 |dK kvs=>obtain⟨_,_,_,_,o,_,_,e,_⟩:=x;exact af e
 |dT kvs=>obtain⟨_,_,_,_,o,_,_,e,_⟩:=x;exact af e
 |set S n=>obtain⟨o,_,_,_,e,_⟩:=x;exact af e
 |ins C dx fs=>obtain⟨_,_,_,e,_⟩:=x;exact af e
 |own y=>obtain⟨_,e⟩:=x;exact af e
 |xd fs=>obtain⟨_,⟨_,_,_,e,_⟩,_⟩:=x;exact af e
 |rng lo hi=>obtain⟨_,_,_,e⟩:=x;exact af e
 |frz Z u=>obtain⟨e,_⟩:=x;exact af e
 |tbl q p=>obtain⟨_,e,_⟩:=x;exact af e
 |met f y=>exact af (show h.get? a=some _ from x)
 |ext φ=>obtain⟨_,⟨_,e⟩,_⟩:=x;exact af e
theorem Paired.mapP{α β:Type}{F G:α->β->Prop}:∀{l₁:List α}{l₂:List β},Paired F l₁ l₂->(∀a b,F a b->G a b)->Paired G l₁ l₂
 |_,_,.nil,_=>.nil
 |_,_,.cons r t,f=>.cons (f _ _ r) (Paired.mapP t f)
theorem gY.stay(x:gY P w H h a o)(k:∀b u,(b=a\/H b=some (.own a))->h.get? b=some u->h'.get? b=some u)
 (B:∀b,H b=some (.own a)->H' b=some (.own a)) (D:∀b xs,H b=some (.tup xs)->H' b=some (.tup xs)):gY P w H' h' a o:=by
 induction o with
 |lst xs=>obtain⟨z,its,n,r,e⟩:=x;exact⟨z,its,n,r,k _ _ (.inl rfl) e⟩
 |tup xs=>obtain⟨z,its,r,Z,e,c⟩:=x;exact⟨z,its,r,Z,k _ _ (.inl rfl) e,c⟩
 |dK kvs=>obtain⟨z,y,vs,r,Z,es,ep,e,c⟩:=x;exact⟨z,y,vs,r,Z,es,ep,k _ _ (.inl rfl) e,c⟩
 |dT kvs=>
  obtain⟨z,y,xs,r,Z,es,ep,e,c⟩:=x
  exact⟨z,y,xs,Paired.mapP r λp q z=>⟨z.1,D _ _ z.2.1,z.2.2⟩,Z,es,ep,k _ _ (.inl rfl) e,c⟩
 |set S n=>obtain⟨Z,es,ep,t,e,c⟩:=x;exact⟨Z,es,ep,t,k _ _ (.inl rfl) e,c⟩
 |ins C dx fs=>
  obtain⟨d,z,ne,e,mA,⟨od,es,ep,e2,c⟩,r⟩:=x
  exact⟨B _ d,z,ne,k _ _ (.inl rfl) e,mA,⟨od,es,ep,k _ _ (.inr d) e2,c⟩,r⟩
 |own y=>obtain⟨Z,e⟩:=x;exact⟨Z,k _ _ (.inl rfl) e⟩
 |xd fs=>obtain⟨mA,⟨od,es,ep,e,c⟩,r⟩:=x;exact⟨mA,⟨od,es,ep,k _ _ (.inl rfl) e,c⟩,r⟩
 |rng lo hi=>obtain⟨t,u,v,e⟩:=x;exact⟨t,u,v,k _ _ (.inl rfl) e⟩
 |frz Z u Q=>obtain⟨e,q⟩:=x;exact⟨k _ _ (.inl rfl) e,Q q⟩
 |tbl q p=>
  obtain⟨ps,e,z⟩:=x
  refine⟨ps,k a _ (.inl rfl) e,?_⟩
  rcases z with z|⟨c',z1,z2,T⟩
  ·exact .inl z
  ·obtain⟨c,oc,vs,R,U,Y,X,O⟩:=T
   have V:c'=c:=by injection U
   exact .inr ⟨c',z1,B _ z2,c,oc,vs,R,U,k _ _ (.inr (V▸z2)) Y,X,O⟩
 |met f y=>
  have e:h.get? a=some (PySem.W.methodObj (.ref f) (.ref y)):=x
  show h'.get? a=some (PySem.W.methodObj (.ref f) (.ref y))
  exact k a _ (.inl rfl) e
 |ext φ=>obtain⟨p,⟨o,e⟩,st⟩:=x;exact⟨st _ _ p λo q=>k _ _ (.inl rfl) q,⟨o,k _ _ (.inl rfl) e⟩,st⟩
theorem HOk.lt(x:HOk P w H h)(e:H a=some o):a<h.objs.size:=(x a o e).lt
theorem HOk.fresh(x:HOk P w H h)(e:h.objs.size<=a):H a=none:=by
 cases q:H a with
 |none=>rfl
 |some u=>exact absurd (bY (x.lt q) e) (eN _)
theorem HOk.kept(x:HOk P w H h)(k:∀b u,h.get? b=some u->h'.get? b=some u):HOk P w H h':=λa o e=>
 (x a o e).stay (λb u _ q=>k b u q) (λ_ q=>q) λ_ _ q=>q
theorem HOk.laid(x:HOk P w H h)(k:∀b u,h.get? b=some u->h'.get? b=some u)(D:h.objs.size<=a)(B:gY P w (upd H a o) h' a o):HOk P w (upd H a o) h':=λb u e=>by
 have hn:=x.fresh D
 by_cases Z:b=a
 ·subst Z;rw[cU]at e;cases e;exact B
 ·rw[cO Z]at e
  exact(x b u e).stay (λc v _ q=>k c v q) (λc q=>by rw[cO (jN q hn)];exact q) λc xs q=>by rw[cO (jN q hn)];exact q
end
def Rd(H:Hp)(a:Addr)(u:HO):Prop:=H a=some u\/∃o,H a=some (.frz o u)
theorem Rd.ok{H:Hp}{u:HO}(r:Rd H a u)(x:HOk P w H h):gY P w H h a u:=by
 rcases r with r|⟨o,r⟩
 ·exact x a u r
 ·obtain⟨_,q⟩:=x a _ r
  exact q
def Mut:Option HO->Prop
 |some (.lst _)=>True
 |some (.dK _)=>True
 |some (.dT _)=>True
 |some (.set _ _)=>True
 |some (.ins _ _ _)=>True
 |some (.ext _)=>True
 |_=>False
section
variable{P:Program}{w:World}{H:Hp}{h h':Heap}{x e:Addr}{o':HO}
theorem HOk.write(ok:HOk P w H h)(B:Mut (H x))(O:e=x\/H e=some (.own x))(k:∀b u,b≠e->h.get? b=some u->h'.get? b=some u)(J:∃u,h'.get? e=some u)
 (D:gY P w (upd H x o') h' x o'):HOk P w (upd H x o') h':=λb u q=>by
 have Y:∀c y,H c=some (.own y)->c≠x:=λc y r z=>by subst z;rw[r]at B;exact B
 have X:∀c xs,H c=some (.tup xs)->c≠x:=λc xs r z=>by subst z;rw[r]at B;exact B
 by_cases V:b=x
 ·subst V;rw[cU]at q;cases q;exact D
 ·rw[cO V]at q
  by_cases Z:b=e
  ·have U:H b=some (.own x):=by
    rcases O with z|z
    ·exact absurd (Z.trans z) V
    ·rw[Z];exact z
   rw[q]at U;cases U
   obtain⟨v,T⟩:=J
   exact⟨v,by rw[Z];exact T⟩
  ·refine(ok b u q).stay (λc v W r=>k c v ?_ r) (λc r=>by rw[cO (Y c b r)];exact r) λc xs r=>by rw[cO (X c xs r)];exact r
   rcases W with rfl|W
   ·exact Z
   ·rintro rfl
    rcases O with z|z
    ·exact Y c b W z
    ·rw[W]at z;cases z;exact V rfl
end
structure Un(fs ex:List Addr)(H H':Hp)(h h':Heap):Prop where
 keep:∀b o,h.get? b=some o->H b=none->b∉fs->b∉ex->h'.get? b=some o
 slot:∀b o,h.get? b=some o->H b=none->b∈fs->b∉ex->∃sl,h'.get? b=some {o with slots:=sl}
 free:∀b o,h.get? b=some o->H b=none->b∉ex->H' b=none
 there:∀b o,h.get? b=some o->b∉ex->∃o',h'.get? b=some o'
 tups:∀b xs,H b=some (.tup xs)->H' b=some (.tup xs)
 frzs:∀b o u,H b=some (.frz o u)->H' b=some (.frz o u)
 tbls:∀b q p,H b=some (.tbl q p)->H' b=some (.tbl q p)
section
variable{fs fs' ex ex':List Addr}{H H1 H2:Hp}{h h1 h2 h':Heap}{a x e:Addr}{o:HO}
theorem Un.any(u:Un fs ex H H1 h h1){b:Addr}{B:Obj}(q:h.get? b=some B)(n:H b=none)(D:b∉ex):∃sl,h1.get? b=some {B with slots:=sl}:=by
 by_cases Z:b∈fs
 ·exact u.slot b B q n Z D
 ·exact⟨B.slots,u.keep b B q n Z D⟩
theorem Un.kept(k:∀b u,h.get? b=some u->h'.get? b=some u):Un fs ex H H h h':=
 ⟨λb Z q _ _ _=>k b Z q,λb Z q _ _ _=>⟨Z.slots,k b Z q⟩,λ_ _ _ n _=>n,λb Z q _=>⟨Z,k b Z q⟩,λ_ _ q=>q,λ_ _ _ q=>q,λ_ _ _ q=>q⟩
theorem Un.refl:Un fs ex H H h h:=Un.kept λ_ _ q=>q
theorem Un.laid(k:∀b u,h.get? b=some u->h'.get? b=some u)(B:h.objs.size<=a)(hn:H a=none):Un fs ex H (upd H a o) h h' where
 keep:=λb u q _ _ _=>k b u q
 slot:=λb u q _ _ _=>⟨u.slots,k b u q⟩
 free:=λb u q n _=>by rw[cO (aW (bY (af q) B))];exact n
 there:=λb u q _=>⟨u,k b u q⟩
 tups:=λb xs q=>by rw[cO (jN q hn)];exact q
 frzs:=λb u xs q=>by rw[cO (jN q hn)];exact q
 tbls:=λb q p e=>by rw[cO (jN e hn)];exact e
theorem Un.write(B:Mut (H x))(J:e=x\/H e=some (.own x))(k:∀b u,b≠e->h.get? b=some u->h'.get? b=some u)(D:∃u,h'.get? e=some u):Un fs ex H (upd H x o) h h':=by
 have Y:∀b,H b=none->b≠x:=λb n z=>by subst z;rw[n]at B;exact B
 have X:∀b,H b=none->b≠e:=λb n z=>by
  subst z
  rcases J with r|r
  ·exact Y b n r
  ·rw[n]at r;cases r
 have hm:∀b u,H b=some u->¬Mut (some u)->b≠x:=λb u q nm z=>by subst z;rw[q]at B;exact nm B
 refine⟨λb u q n _ _=>k b u (X b n) q,λb u q n _ _=>⟨u.slots,k b u (X b n) q⟩,λb u q n _=>by rw[cO (Y b n)];exact n,λb u q _=>?_,
  λb xs q=>by rw[cO (hm b _ q λz=>z)];exact q,λb u xs q=>by rw[cO (hm b _ q λz=>z)];exact q,λb q p e=>by rw[cO (hm b _ e λz=>z)];exact e⟩
 by_cases Z:b=e
 ·subst Z;exact D
 ·exact⟨u,k b u Z q⟩
end
noncomputable def trk(h:Heap)(H:Hp):List Addr:=(aV h.objs.size).filter λa=>(H a).isSome
def Cp(h:Heap)(H:Hp):Heap:=PySem.W.hideAll h (trk h H)
theorem Ky(h:Heap)(H:Hp):(Cp h H).objs.size=h.objs.size:=PySem.W.hideAll_size _ _
theorem MN{H:Hp}{o:Obj}(e:h.get? b=some o)(n:H b=none):(Cp h H).get? b=some o:=
 PySem.W.hideAll_get _ e λhm=>by
  have q:(H b).isSome=true:=(iH.mp hm).2
  rw[n]at q;simp at q
theorem RK{H:Hp}{o:Obj}(e:(Cp h H).get? b=some o):h.get? b=some o/\H b=none:=by
 have Z:h.get? b=some o:=PySem.W.of_hideAll (trk h H) e
 refine⟨Z,?_⟩
 cases q:H b with
 |none=>rfl
 |some x=>
  have hm:b∈trk h H:=iH.mpr ⟨bA.mpr (af Z),by simp[q]⟩
  have z:(Cp h H).get? b=none:=PySem.W.hideAll_none (trk h H) hm
  rw[z]at e;cases e
noncomputable def oJ(g h:Heap)(L:Addr):List (Addr×Obj):=(aV h.objs.size).filterMap λa=>if a=L\/(g.get? a).isSome=true then none else(h.get? a).map λo=>(a,o)
theorem sJ{g:Heap}{L:Addr}{o:Obj}(h1:a≠L)(h2:g.get? a=none)(B:h.get? a=some o):(a,o)∈oJ g h L:=
 lu.mpr ⟨a,bA.mpr (af B),by simp[h1,h2,B]⟩
theorem yE{g:Heap}{L:Addr}{p:Addr×Obj}(B:p∈oJ g h L):p.1≠L/\g.get? p.1=none/\h.get? p.1=some p.2:=by
 obtain⟨b,_,e⟩:=lu.mp B
 split at e
 ·cases e
 ·rename_i hn
  cases q:h.get? b with
  |none=>rw[q]at e;simp at e
  |some u=>
   rw[q]at e
   simp only[kZ,dh.injEq]at e
   subst e
   refine⟨λz=>hn (.inl z),?_,q⟩
   show g.get? b=none
   cases r:g.get? b with
   |none=>rfl
   |some v=>exact(hn (.inr (by simp[r]))).elim
theorem E_{g:Heap}{L:Addr}:News g L h (oJ g h L):=λp Z=>let⟨a,b,c⟩:=yE Z;⟨c,a,b⟩
end L2
variable{t' i:Nat}{ch:List Addr}{it:Addr}{o:L2.HO}{N:List Str}{M:Model}{A:Around}{E:Value->Shared->Prop}{x:Str}{v:L2.V}{e:Expr}{s:Shared}
namespace L2
open PySem PySem.Spec PyProof.Rows
structure Mod(K:PySem.W.Frag)(mg:Str->Option Value)(base:Heap):Prop where
 kin:K.In base
 glob:base.Ns mainGlobals mg
 blt:∃mb,base.Ns builtinsNs mb/\∀x:Str,x≠"__name__"->mb x=bootBuiltins x
 nolimit:base.NoLimit
 bm:∃bm ob,mg "__builtins__"=some (.ref bm)/\bm≠builtinsNs/\base.get? bm=some ob/\ob.cls = .type "module"/\ob.dict=some builtinsNs/\ob.data = .plain
structure Cx where
 prog:Program
 w:World
 K:PySem.W.Frag
 mg:Str->Option Value
 base:Heap
 A:Around
 N:List Str
 s₀:Shared
 H₀:Hp
 env:Env
 outer:List Env
 stack:List Env
 ex:List Addr
 fn:Str->Bool
 calm:Bool
 pn:List (Addr×Obj)
 xe:Value->Shared->Prop
def frs(l:List Env):List Addr:=l.filterMap (·.frame)
abbrev Cx.fs(X:Cx):List Addr:=frs X.outer
def Vis(sc:Scope)(x:Str):Prop:=sc.names.lookup x=some .local\/sc.names.lookup x=some .cell\/sc.names.lookup x=some .free
def Loc(sc:Scope)(x:Str):Prop:=sc.names.lookup x=some .local\/sc.names.lookup x=some .cell
def Look(env:Env)(h:Heap)(m:Str->Option Value)(x:Str)(u:Value):Prop:=
 (env.kindOf x=some .local/\m x=some u)\/((env.kindOf x=some .cell\/env.kindOf x=some .free)/\∃c,env.cells.lookup x=some c/\h.IsCell c (some u))
structure Cx.Ok(X:Cx):Prop where
 mod:Mod X.K X.mg X.base
 kind:X.env.scope.kind = .function
 glob:X.env.globals=mainGlobals
 blt:X.env.builtins=builtinsNs
 above:X.s₀.heap.objs.size<=X.env.locals
 inj:∀x y c,X.env.cells.lookup x=some c->X.env.cells.lookup y=some c->x=y
 has:∀x,(X.env.kindOf x=some .cell\/X.env.kindOf x=some .free)->∃c,X.env.cells.lookup x=some c
 cab:∀x c,X.fn x=true->X.env.cells.lookup x=some c->X.s₀.heap.objs.size<=c
 hd:X.calm=true->X.A.handled=none
 frames:X.A.frames=some X.stack
 stk:X.stack=X.outer\/(X.stack=X.env::X.outer/\X.env.frame=some X.env.locals)
 exf:∀b∈X.ex,b≠X.env.locals/\∀x c,X.env.cells.lookup x=some c->c≠b
 bs:∀b o,X.base.get? b=some o->X.s₀.heap.get? b=some o/\X.H₀ b=none
 bsz:X.base.objs.size<=X.s₀.heap.objs.size
 noex:∀b o,X.base.get? b=some o->b∉X.ex
 exfs:∀b∈X.ex,b∉X.fs
 funs:X.s₀.heap.FunFrames X.base X.outer
 frf:∀b∈X.fs,X.H₀ b=none
structure Inv(X:Cx)(pins:List (Addr×Obj))(σ:List (Option V))(H:Hp)(s:Shared):Prop where
 ok:X.Ok
 os:s.os=X.s₀.os
 bare:AllBare s.gens
 base:Un X.fs X.ex X.H₀ H X.s₀.heap s.heap
 loc:∃m,s.heap.Ns X.env.locals m/\∀(i:Nat)(x:Str)(v:V),X.N[i]? = some x->σ[i]? = some (some v)->Vis X.env.scope x->∃u,RelV v u/\Look X.env s.heap m x u
 cell:∀x c,X.env.cells.lookup x=some c->∃v,s.heap.IsCell c v
 free:H X.env.locals=none
 freeC:∀x c,X.env.cells.lookup x=some c->H c=none
 pin:∀p∈X.pn++pins,s.heap.get? p.1=some p.2/\H p.1=none/\p.1≠X.env.locals/\p.1∉X.fs/\∀v,p.2.data ≠ .cell v
 hok:HOk X.prog X.w H s.heap
 len:σ.length=X.N.length
section
variable{X:Cx}{pins:List (Addr×Obj)}{σ:List (Option V)}{H H':Hp}{s:Shared}{h':Heap}
theorem Cx.Ok.nofr(ok:X.Ok){b:Addr}{o:Obj}(e:X.base.get? b=some o):b∉X.fs:=λZ=>by
 have:=(ok.funs.mem Z).1
 rw[e]at this;cases this
theorem Inv.bs(I:Inv X pins σ H s):∀b o,X.base.get? b=some o->s.heap.get? b=some o/\H b=none:=λb o e=>
 ⟨I.base.keep b o (I.ok.bs b o e).1 (I.ok.bs b o e).2 (I.ok.nofr e) (I.ok.noex b o e),I.base.free b o (I.ok.bs b o e).1 (I.ok.bs b o e).2 (I.ok.noex b o e)⟩
theorem Inv.bk(I:Inv X pins σ H s):∀b o,X.base.get? b=some o->s.heap.get? b=some o:=λb o e=>(I.bs b o e).1
theorem Inv.mod(I:Inv X pins σ H s):Mod X.K X.mg X.base:=I.ok.mod
theorem Inv.kIn(I:Inv X pins σ H s):X.K.In s.heap:=I.ok.mod.kin.keeps I.bk
theorem Inv.lt(I:Inv X pins σ H s):X.env.locals<s.heap.objs.size:=let⟨_,hn,_⟩:=I.loc;hn.lt
theorem Inv.sz(I:Inv X pins σ H s):X.s₀.heap.objs.size<=s.heap.objs.size:=bF I.ok.above (dW I.lt)
theorem Inv.nofs(I:Inv X pins σ H s){a:Addr}(h:s.heap.objs.size<=a):a∉X.fs:=λY=>by
 obtain⟨_,o,Z,_⟩:=I.ok.funs.mem Y
 exact absurd (bY (af Z) (bF I.sz h)) (eN _)
theorem Inv.cne(I:Inv X pins σ H s):∀x c,X.env.cells.lookup x=some c->c≠X.env.locals:=λx c e z=>by
 obtain⟨v,o,W,hd⟩:=I.cell x c e
 obtain⟨m,⟨o',es,ep,Z,Y,_⟩,_⟩:=I.loc
 rw[z,Z]at W;cases W;rw[Y]at hd;cases hd
theorem Inv.funs(I:Inv X pins σ H s):s.heap.FunFrames X.base X.outer:=by
 have all:∀(l:List Env),(∀b∈frs l,b∈X.fs)->X.s₀.heap.FunFrames X.base l->s.heap.FunFrames X.base l:=by
  intro l
  induction l with
  |nil=>intro _ _;trivial
  |cons env r V=>
   intro hs S
   obtain⟨R,⟨L,o,Z,hn,T,hd⟩,U⟩:=S
   have W:L∈X.fs:=hs L (by unfold frs;rw[oA,Z];exact aJ)
   obtain⟨sl,e⟩:=I.base.slot L o T (I.ok.frf L W) W λz=>I.ok.exfs L z W
   exact⟨R,⟨L,_,Z,hn,e,hd⟩,V (λb Y=>hs b (by unfold frs;rw[oA,Z];exact aK _ Y)) U⟩
 exact all X.outer (λ_ Y=>Y) I.ok.funs
theorem Inv.stack(I:Inv X pins σ H s):s.heap.FunFrames X.base X.stack:=by
 rcases I.ok.stk with e|⟨e,Z⟩
 ·rw[e];exact I.funs
 ·rw[e]
  obtain⟨m,hn,_⟩:=I.loc
  refine .cons (by rw[I.ok.kind];decide) Z hn ?_ I.funs
  exact eI (bF I.ok.bsz I.ok.above)
theorem Inv.stkSub(I:Inv X pins σ H s):∀b∈frs X.stack,b∈X.env.locals::X.fs:=λb Z=>by
 rcases I.ok.stk with e|⟨e,Y⟩
 ·rw[e]at Z;exact aK _ Z
 ·rw[e]at Z
  unfold frs at Z
  rw[oA,Y]at Z
  exact Z
theorem Inv.stkFree(I:Inv X pins σ H s):∀b∈frs X.stack,H b=none:=λb Z=>by
 rcases aU.mp (I.stkSub b Z)with e|Z
 ·rw[e];exact I.free
 ·obtain⟨_,o,Y,_⟩:=I.ok.funs.mem Z
  exact I.base.free b o Y (I.ok.frf b Z) λz=>I.ok.exfs b z Z
theorem Inv.step{g':Array GenState}{d':Drawn}(I:Inv X pins σ H s)
 (B:∀b∈ch,(b∈X.ex\/X.s₀.heap.objs.size<=b)/\b≠X.env.locals/\(∀x c,X.env.cells.lookup x=some c->c≠b)/\∀p∈X.pn++pins,p.1≠b)
 (keep:∀b o,b≠X.env.locals->b∉X.fs->b∉ch->s.heap.get? b=some o->H b=none->h'.get? b=some o)
 (slot:∀b o,b≠X.env.locals->b∈X.fs->b∉ch->s.heap.get? b=some o->H b=none->∃sl,h'.get? b=some {o with slots:=sl}) (free:∀b o,b∉ch->s.heap.get? b=some o->H b=none->H' b=none)
 (there:∀b o,b∉ch->s.heap.get? b=some o->∃o',h'.get? b=some o')
 (tups:∀b xs,H b=some (.tup xs)->H' b=some (.tup xs)) (frzs:∀b o u,H b=some (.frz o u)->H' b=some (.frz o u)) (tbls:∀b q p,H b=some (.tbl q p)->H' b=some (.tbl q p))
 (ns:∀m,s.heap.Ns X.env.locals m->h'.Ns X.env.locals m) (hok:HOk X.prog X.w H' h') (D:AllBare g') :
 Inv X pins σ H' {s with heap:=h',gens:=g',drawn:=d',toks:=t'}:=by
 have S:∀b o,X.s₀.heap.get? b=some o->b≠X.env.locals:=λb o e=>aW (bY (af e) I.ok.above)
 have W:∀b o,X.s₀.heap.get? b=some o->b∉X.ex->b∉ch:=λb o e Z V=>by
  rcases(B b V).1 with z|z
  ·exact Z z
  ·exact absurd (bY (af e) z) (eN _)
 have cellK:∀x c,X.env.cells.lookup x=some c->∀v,s.heap.IsCell c v->h'.IsCell c v:=λx c e v ⟨o,T,hd⟩=>by
  have Y:c∉ch:=λz=>(B c z).2.2.1 x c e rfl
  by_cases O:c∈X.fs
  ·obtain⟨sl,q⟩:=slot c o (I.cne x c e) O Y T (I.freeC x c e)
   exact⟨_,q,hd⟩
  ·exact⟨o,keep c o (I.cne x c e) O Y T (I.freeC x c e),hd⟩
 refine⟨I.ok,I.os,D,⟨λb o e n V Z=>?_,λb o e n V Z=>?_,λb o e n Z=>?_,λb o e Z=>?_,λb xs e=>tups b xs (I.base.tups b xs e),λb o xs e=>frzs b o xs (I.base.frzs b o xs e),λb q p e=>tbls b q p (I.base.tbls b q p e)⟩,?_,λx c e=>?_,?_,λx c e=>?_,λp P=>?_,hok,I.len⟩
 ·exact keep b o (S b o e) V (W b o e Z) (I.base.keep b o e n V Z) (I.base.free b o e n Z)
 ·obtain⟨sl,U⟩:=I.base.slot b o e n V Z
  obtain⟨R,e2⟩:=slot b _ (S b o e) V (W b o e Z) U (I.base.free b o e n Z)
  exact⟨R,e2⟩
 ·obtain⟨o',U⟩:=I.base.there b o e Z
  exact free b o' (W b o e Z) U (I.base.free b o e n Z)
 ·obtain⟨o',U⟩:=I.base.there b o e Z
  exact there b o' (W b o e Z) U
 ·obtain⟨m,hn,N⟩:=I.loc
  refine⟨m,ns m hn,λi x v U e2 M=>?_⟩
  obtain⟨u,r,l⟩:=N i x v U e2 M
  refine⟨u,r,?_⟩
  rcases l with l|⟨k,c,e,z⟩
  ·exact .inl l
  ·exact .inr ⟨k,c,e,cellK x c e _ z⟩
 ·obtain⟨v,z⟩:=I.cell x c e
  exact⟨v,cellK x c e v z⟩
 ·obtain⟨m,⟨o,_,_,T,_⟩,_⟩:=I.loc
  exact free _ o (λz=>(B _ z).2.1 rfl) T I.free
 ·obtain⟨v,o,T,hd⟩:=I.cell x c e
  exact free c o (λz=>(B c z).2.2.1 x c e rfl) T (I.freeC x c e)
 ·obtain⟨e,n,ne,Q,d⟩:=I.pin p P
  have Y:p.1∉ch:=λz=>(B p.1 z).2.2.2 p P rfl
  exact⟨keep p.1 p.2 ne Q Y e n,free p.1 p.2 Y e n,ne,Q,d⟩
theorem Inv.un(I:Inv X pins σ H s)(u:Un X.fs [] H H' s.heap h')(hok:HOk X.prog X.w H' h'):Inv X pins σ H' {s with heap:=h',toks:=t'}:=by
 obtain⟨m,⟨o,es,ep,U,r⟩,_⟩:=id I.loc
 obtain⟨sl,T⟩:=u.any U I.free (by simp)
 exact I.step (g':=s.gens) (d':=s.drawn) (ch:=[]) (λ_ z=>nomatch z) (λb o _ Y _ e n=>u.keep b o e n Y (by simp)) (λb o _ Y _ e n=>u.slot b o e n Y (by simp)) (λb o _ e n=>u.free b o e n (by simp)) (λb o _ e=>u.there b o e (by simp)) u.tups u.frzs u.tbls (λS hm=>by
  obtain⟨o',W,V,Z,r'⟩:=hm
  rw[U]at Z;cases Z
  exact⟨_,W,V,T,r'⟩) hok I.bare
theorem Inv.call{g':Array GenState}{d':Drawn}(I:Inv X pins σ H s)(u:Un (frs X.stack) ch H H' s.heap h')(hok:HOk X.prog X.w H' h')(D:AllBare g')
 (B:∀b∈ch,(b∈X.ex\/X.s₀.heap.objs.size<=b)/\b≠X.env.locals/\(∀x c,X.env.cells.lookup x=some c->c≠b)/\∀p∈X.pn++pins,p.1≠b) :
 Inv X pins σ H' {s with heap:=h',gens:=g',drawn:=d',toks:=t'}:=by
 obtain⟨m,⟨o,es,ep,T,r⟩,_⟩:=id I.loc
 obtain⟨sl,W⟩:=u.any T I.free λz=>(B _ z).2.1 rfl
 exact I.step (ch:=ch) B (λb o W S Z e n=>u.keep b o e n (λz=>(aU.mp (I.stkSub b z)).elim W S) Z) (λb o _ _ Z e n=>u.any e n Z) (λb o Z e n=>u.free b o e n Z) (λb o Z e=>u.there b o e Z) u.tups u.frzs u.tbls (λR hm=>by
  obtain⟨o',V,U,Y,r'⟩:=hm
  rw[T]at Y;cases Y
  exact⟨_,V,U,W,r'⟩) hok D
theorem Inv.turned(I:Inv X pins σ H s)(k:∀b o,b≠it->s.heap.get? b=some o->h'.get? b=some o)(hn:H it=none)(B:it≠X.env.locals)
 (h1:it∈X.ex\/X.s₀.heap.objs.size<=it) (h2:∀x c,X.env.cells.lookup x=some c->c≠it) (D:∀p∈X.pn++pins,p.1≠it):Inv X pins σ H {s with heap:=h',toks:=t'}:=by
 have Y:∀b u,H b=some u->b≠it:=λb u e z=>by rw[z,hn]at e;cases e
 refine I.step (g':=s.gens) (d':=s.drawn) (ch:=[it]) (λb V=>?_) (λb o _ _ Z e _=>k b o (λz=>Z (by simp[z])) e) (λb o _ _ Z e _=>⟨o.slots,k b o (λz=>Z (by simp[z])) e⟩) (λ_ _ _ _ n=>n)
  (λb o Z e=>⟨o,k b o (λz=>Z (by simp[z])) e⟩) (λ_ _ e=>e) (λ_ _ _ e=>e) (λ_ _ _ e=>e) (λm hm=>?_) (λb u e=>?_) I.bare
 ·have e:b=it:=by simpa using V
  subst e
  exact⟨h1,B,h2,D⟩
 ·obtain⟨o,es,ep,W,r⟩:=hm
  exact⟨o,es,ep,k _ o (Ne.symm B) W,r⟩
 ·refine(I.hok b u e).stay (λc v Z q=>k c v ?_ q) (λ_ q=>q) λ_ _ q=>q
  rcases Z with z|z
  ·rw[z];exact Y b u e
  ·exact Y c _ z
theorem Inv.tok(I:Inv X pins σ H s)(t:Nat):Inv X pins σ H {s with toks:=t}:=I.un (h':=s.heap) (t':=t) Un.refl I.hok
theorem Inv.kept(I:Inv X pins σ H s)(k:∀b u,s.heap.get? b=some u->h'.get? b=some u):Inv X pins σ H {s with heap:=h',toks:=t'}:=I.un (Un.kept k) (I.hok.kept k)
theorem Inv.laid(I:Inv X pins σ H s)(k:∀b u,s.heap.get? b=some u->h'.get? b=some u)(D:s.heap.objs.size<=a)(B:gY X.prog X.w (upd H a o) h' a o):
 Inv X pins σ (upd H a o) {s with heap:=h',toks:=t'}:=I.un (Un.laid k D (I.hok.fresh D)) (I.hok.laid k D B)
theorem Inv.write{x e:Addr}(I:Inv X pins σ H s)(J:Mut (H x))(O:e=x\/H e=some (.own x))(k:∀b u,b≠e->s.heap.get? b=some u->h'.get? b=some u)(B:∃u,h'.get? e=some u)
 (D:gY X.prog X.w (upd H x o) h' x o):Inv X pins σ (upd H x o) {s with heap:=h',toks:=t'}:=I.un (Un.write J O k B) (I.hok.write J O k B D)
theorem Inv.pins_of{pins':List (Addr×Obj)}(I:Inv X pins σ H s)(h:∀p∈pins',s.heap.get? p.1=some p.2/\H p.1=none/\p.1≠X.env.locals/\p.1∉X.fs/\∀v,p.2.data ≠ .cell v):Inv X pins' σ H s:=
 ⟨I.ok,I.os,I.bare,I.base,I.loc,I.cell,I.free,I.freeC,λp Z=>(cG.mp Z).elim (λz=>I.pin p (cB _ z)) (h p),I.hok,I.len⟩
theorem Fb(B:N.Nodup){i j:Nat}{x:Str}(a:N[i]? = some x)(b:N[j]? = some x):i=j:=by
 obtain⟨h1,Z⟩:=gh.mp a
 obtain⟨h2,e2⟩:=gh.mp b
 exact(List.getElem_inj B).mp (Z.trans e2.symm)
theorem Bb{u:Value}{Q:Unit->Shared->Prop}(I:Inv X pins σ H s)(hN:X.N.Nodup)(hi:X.N[i]? = some x)(B:Loc X.env.scope x)(r:RelV v u)
 (h:∀s',Inv X pins (σ.set i (some v)) H s'->(∃a,Heap.SameBut a s.heap s'.heap/\(a=X.env.locals\/X.env.cells.lookup x=some a))->Q () s') (hf:X.fn x=true\/X.env.scope.names.lookup x=some .local:=by first|exact .inl rfl|exact .inr rfl|assumption):wpAny M A (storeName X.env x u) Q E s:=by
 obtain⟨m,hn,hl⟩:=id I.loc
 have L:(X.env.scope.kind == .class||(X.env.scope.kind == .module&&X.env.locals != X.env.globals))=false:=by rw[I.ok.kind];rfl
 have U:i<σ.length:=by rw[I.len];exact(gh.mp hi).1
 have cne:=I.cne
 have tracked:∀{a:Addr}{h':Heap},(∃o,s.heap.get? a=some o/\H a=none)->Heap.SameBut a s.heap h'->HOk X.prog X.w H h':=λ{a h'} ha hs b ob e=>by
  obtain⟨_,_,W⟩:=ha
  refine(I.hok b ob e).stay (λc G Y q=>(hs.2 c ?_).trans q) (λ_ q=>q) λ_ _ q=>q
  rintro rfl
  rcases Y with rfl|Y
  ·rw[W]at e;cases e
  ·rw[W]at Y;cases Y
 rcases B with V|V
 ·refine wpAny_storeName_local V hn (λh' g hs=>?_) L
  obtain⟨oL,_,_,l,_⟩:=id hn
  refine h _ ⟨I.ok,I.os,I.bare,⟨λb o e n R B=>?_,λb o e n R B=>?_,I.base.free,λb o e B=>?_,I.base.tups,I.base.frzs,I.base.tbls⟩,⟨_,g,λj y F Z e2 f=>?_⟩,λy c e=>?_,I.free,I.freeC,λp t=>?_,tracked ⟨oL,l,I.free⟩ hs,by simpa using I.len⟩ ⟨_,hs,.inl rfl⟩
  ·exact(hs.2 b (aW (bY (af e) I.ok.above))).trans (I.base.keep b o e n R B)
  ·obtain⟨sl,Z⟩:=I.base.slot b o e n R B
   exact⟨sl,(hs.2 b (aW (bY (af e) I.ok.above))).trans Z⟩
  ·obtain⟨o',Z⟩:=I.base.there b o e B
   exact⟨o',(hs.2 b (aW (bY (af e) I.ok.above))).trans Z⟩
  ·by_cases T:j=i
   ·subst T
    rw[hi]at Z;cases Z
    rw[dD U]at e2
    cases e2
    exact⟨u,r,.inl ⟨V,by simp⟩⟩
   ·rw[bJ (Ne.symm T)]at e2
    obtain⟨D,r',q⟩:=hl j y F Z e2 f
    refine⟨D,r',?_⟩
    rcases q with⟨k,e⟩|⟨k,c,e,z⟩
    ·refine .inl ⟨k,?_⟩
     have:y≠x:=λe=>T (Fb hN Z (e▸hi))
     simp[this,e]
    ·exact .inr ⟨k,c,e,z.sameBut hs (cne y c e)⟩
  ·obtain⟨G,z⟩:=I.cell y c e
   exact⟨G,z.sameBut hs (cne y c e)⟩
  ·obtain⟨e,n,ne,C,d⟩:=I.pin p t
   exact⟨(hs.2 p.1 ne).trans e,n,ne,C,d⟩
 ·have S:X.fn x=true:=by
   rcases hf with z|z
   ·exact z
   ·rw[z]at V;cases V
  obtain⟨c,Y⟩:=I.ok.has x (.inl V)
  obtain⟨G,z⟩:=I.cell x c Y
  refine wpAny_storeName_cell I.ok.kind V Y z (λh' J hs=>?_)
  obtain⟨oc,O,P⟩:=id z
  refine h {s with heap:=h'} ⟨I.ok,I.os,I.bare,⟨λb o e n R B=>?_,λb o e n R B=>?_,I.base.free,λb o e B=>?_,I.base.tups,I.base.frzs,I.base.tbls⟩,⟨m,hn.sameBut hs (Ne.symm (cne x c Y)),λj y F Z e2 f=>?_⟩,λy c' e=>?_,I.free,I.freeC,λp t=>?_,tracked ⟨oc,O,I.freeC x c Y⟩ hs,by simpa using I.len⟩ ⟨c,hs,.inr Y⟩
  ·exact(hs.2 b (aW (bY (af e) (I.ok.cab x c S Y)))).trans (I.base.keep b o e n R B)
  ·obtain⟨sl,Z⟩:=I.base.slot b o e n R B
   exact⟨sl,(hs.2 b (aW (bY (af e) (I.ok.cab x c S Y)))).trans Z⟩
  ·obtain⟨o',Z⟩:=I.base.there b o e B
   exact⟨o',(hs.2 b (aW (bY (af e) (I.ok.cab x c S Y)))).trans Z⟩
  ·by_cases T:j=i
   ·subst T
    rw[hi]at Z;cases Z
    rw[dD U]at e2
    cases e2
    exact⟨u,r,.inr ⟨.inl V,c,Y,J⟩⟩
   ·rw[bJ (Ne.symm T)]at e2
    obtain⟨D,r',q⟩:=hl j y F Z e2 f
    refine⟨D,r',?_⟩
    rcases q with q|⟨k,c',e,z'⟩
    ·exact .inl q
    ·refine .inr ⟨k,c',e,z'.sameBut hs ?_⟩
     rintro rfl
     exact T (Fb hN Z (I.ok.inj _ _ _ e Y▸hi))
  ·by_cases K:c'=c
   ·subst K;exact⟨_,J⟩
   ·obtain⟨w2,z2⟩:=I.cell y c' e
    exact⟨w2,z2.sameBut hs K⟩
  ·obtain⟨e,n,ne,C,d⟩:=I.pin p t
   refine⟨(hs.2 p.1 ?_).trans e,n,ne,C,d⟩
   intro q
   rw[q,O]at e
   have q':oc=p.2:=dh.inj e
   exact d G (by rw[<-q'];exact P)
theorem Fd{u:Value}{Q:Unit->Shared->Prop}(I:Inv X pins σ H s)(J:X.N.Nodup)(hi:X.N[i]? = some x)(B:Loc X.env.scope x)(r:RelV v u)
 (h:∀s',Inv X pins (σ.set i (some v)) H s'->Q () s') (D:X.fn x=true\/X.env.scope.names.lookup x=some .local:=by first|exact .inl rfl|exact .inr rfl|assumption):wpAny M A (storeName X.env x u) Q E s:=
 Bb I J hi B r (λs' Z _=>h s' Z) D
end
abbrev XK:=Value->Option Addr->Hp->Prop
abbrev St:=List (Option V)
abbrev VK:=V->Hp->Prop
abbrev TE:=St->Hp->VK->Prop
abbrev TT:=St->Hp->(Bool->Hp->Prop)->Prop
abbrev TA:=St->Hp->(List V->Hp->Prop)->Prop
structure Ends where
 nx:St->Hp->Prop
 rt:VK
 bk:St->Hp->Prop:=λ_ _=>False
 ct:St->Hp->Prop:=λ_ _=>False
abbrev TS:=Ends->St->Hp->Prop
def EP(X:Cx)(pins:List (Addr×Obj))(σ:St)(Q:VK)(u:Value)(s':Shared):Prop:=∃v H',Inv X pins σ H' s'/\RelV v u/\Q v H'
def TP(X:Cx)(pins:List (Addr×Obj))(σ:St)(Q:Bool->Hp->Prop)(b:Bool)(s':Shared):Prop:=∃H',Inv X pins σ H' s'/\Q b H'
def AP(X:Cx)(pins:List (Addr×Obj))(σ:St)(Q:List V->Hp->Prop)(us:List Value)(s':Shared):Prop:=∃vs H',Inv X pins σ H' s'/\Vals vs us/\Q vs H'
def SP(X:Cx)(pins:List (Addr×Obj))(D:Ends)(f:Flow)(s':Shared):Prop:=
 match f with
 | .next=>∃σ' H',Inv X pins σ' H' s'/\D.nx σ' H'
 | .brk=>∃σ' H',Inv X pins σ' H' s'/\D.bk σ' H'
 | .cont=>∃σ' H',Inv X pins σ' H' s'/\D.ct σ' H'
 | .ret u=>∃v σ' H',Inv X pins σ' H' s'/\RelV v u/\D.rt v H'
def PE(X:Cx)(e:Expr)(t:TE):Prop:=
 ∀(pins:List (Addr×Obj))(s:Shared)(σ:St)(H:Hp)(Q:VK),Inv X pins σ H s->t σ H Q->wpAny (model X.prog X.w) X.A (eval e X.env) (EP X pins σ Q) X.xe s
def PT(X:Cx)(e:Expr)(t:TT):Prop:=
 ∀(pins:List (Addr×Obj))(s:Shared)(σ:St)(H:Hp)(Q:Bool->Hp->Prop),Inv X pins σ H s->t σ H Q->wpAny (model X.prog X.w) X.A (isTrue e X.env (eval e X.env)) (TP X pins σ Q) X.xe s
def PW(X:Cx)(e:Expr)(t:TT):Prop:=
 ∀(whole:Sem Value)(pins:List (Addr×Obj))(s:Shared)(σ:St)(H:Hp)(Q:Bool->Hp->Prop),Inv X pins σ H s->t σ H Q->wpAny (model X.prog X.w) X.A (isTrue e X.env whole) (TP X pins σ Q) X.xe s
theorem PW.pt{X:Cx}{t:TT}(h:PW X e t):PT X e t:=h _
def PA(X:Cx)(es:List Expr)(t:TA):Prop:=
 ∀(pos:Pos)(pins:List (Addr×Obj))(s:Shared)(σ:St)(H:Hp)(Q:List V->Hp->Prop),Inv X pins σ H s->t σ H Q->wpAny (model X.prog X.w) X.A (spliced (backTo pos (starEach es X.env))) (AP X pins σ Q) X.xe s
def PS(X:Cx)(st:Stmt)(t:TS):Prop:=
 ∀(pins:List (Addr×Obj))(s:Shared)(σ:St)(H:Hp)(D:Ends),Inv X pins σ H s->t D σ H->wpAny (model X.prog X.w) X.A (exec st X.env) (SP X pins D) X.xe s
def PSs(X:Cx)(st:List Stmt)(t:TS):Prop:=
 ∀(pins:List (Addr×Obj))(s:Shared)(σ:St)(H:Hp)(D:Ends),Inv X pins σ H s->t D σ H->wpAny (model X.prog X.w) X.A (execs st X.env) (SP X pins D) X.xe s
theorem thn{α:Type}{t:Sem α}{Q B:α->Shared->Prop}(h:wpAny M A t Q E s)(D:∀a s,Q a s->B a s):wpAny M A t B E s:=a6 h D λ_ _ x=>x
end L2
variable{pos:Pos}{pins:List (Addr×Obj)}{H:L2.Hp}{Q:Value->Shared->Prop}{op:CmpOp}
namespace L2
open PySem PySem.Spec PyProof.Rows
section
variable{X:Cx}
def ae8(i:Nat):TE:=λσ H Q=>∃v,σ[i]? = some (some v)/\Q v H
def tC(v:V):TE:=λ_ H Q=>Q v H
theorem rE(J:X.N[i]? = some x)(D:Vis X.env.scope x)(hd:(x==("__debug__":Str))=false:=by decide)(B:(x==("__classdict__":Str))=false:=by decide):PE X (.Name x pos) (ae8 i):=by
 intro pins s σ H Q I h
 obtain⟨v,e,h⟩:=h
 obtain⟨m,hn,V⟩:=I.loc
 obtain⟨u,r,l⟩:=V i x v J e D
 have fin:EP X pins σ Q u s:=⟨v,H,I,r,h⟩
 rcases l with⟨Y,hm⟩|⟨Y,c,W,Z⟩
 ·exact du (wpAny_loadName_local I.ok.kind Y hn hm fin) hd
 ·rcases Y with Y|Y
  ·exact du (wpAny_loadName_cell I.ok.kind Y W Z fin) hd
  ·exact du (wpAny_loadName_free I.ok.kind Y W Z fin B) hd
theorem Wf{i j pos}:PE X (.Constant (.int i) j pos) (tC (.int i)):=λ_ _ _ H _ I h=>wpAny_Constant_int ⟨.int i,H,I.tok _,⟨_,rfl⟩,h⟩
theorem Vr{b j pos}:PE X (.Constant (.bool b) j pos) (tC (.bl b)):=λ_ _ _ H _ I h=>Constant_bool ⟨.bl b,H,I,rfl,h⟩
theorem Wg{j pos}:PE X (.Constant .none j pos) (tC .non):=λ_ _ _ H _ I h=>Constant_none ⟨.non,H,I,rfl,h⟩
theorem Wh{x j pos}:PE X (.Constant (.str x) j pos) (tC (.str x)):=λ_ _ _ H _ I h=>Calls.Constant_str ⟨.str x,H,I.tok _,⟨_,rfl⟩,h⟩
def Gl(X:Cx)(x:Str):Prop:=X.env.kindOf x=some .globalImplicit
theorem Jg{σ:St}{u:Value}(I:Inv X pins σ H s)(B:Gl X x)(hm:X.mg x=some u)(h:Q u s)
 (hd:(x==("__debug__":Str))=false:=by decide):wpAny (model X.prog X.w) X.A (eval (.Name x pos) X.env) Q E s:=
 dt I.ok.kind B (Calls.loadGlobal_global (by rw[I.ok.glob];exact I.mod.glob.keeps I.bk) hm h) hd
theorem lR{σ:St}{u:Value}(I:Inv X pins σ H s)(D:Gl X x)(hm:X.mg x=none)(B:bootBuiltins x=some u)(h:Q u s)
 (hn:x≠"__name__" := by decide) (hd:(x==("__debug__":Str))=false:=by decide):wpAny (model X.prog X.w) X.A (eval (.Name x pos) X.env) Q E s:=by
 obtain⟨Z,h1,h2⟩:=I.mod.blt
 exact dt I.ok.kind D (Calls.loadGlobal_builtin (by rw[I.ok.glob];exact I.mod.glob.keeps I.bk) hm (by rw[I.ok.blt];exact h1.keeps I.bk) ((h2 x hn).trans B) h) hd
theorem RM{u:Value}(B:Gl X x)(hm:X.mg x=some u)(r:RelV v u)(hd:(x==("__debug__":Str))=false:=by decide):PE X (.Name x pos) (tC v):=
 λ_ _ _ H _ I h=>Jg I B hm ⟨v,H,I,r,h⟩ hd
theorem RN{u:Value}(D:Gl X x)(hm:X.mg x=none)(B:bootBuiltins x=some u)(r:RelV v u)(hn:x≠"__name__" := by decide)(hd:(x==("__debug__":Str))=false:=by decide):PE X (.Name x pos) (tC v):=
 λ_ _ _ H _ I h=>lR I D hm B ⟨v,H,I,r,h⟩ hn hd
variable{a b:Expr}{ta tb:TE}{pos:Pos}
def PC(X:Cx)(op:CmpOp)(a b:Expr)(t:TE):Prop:=
 ∀(pins:List (Addr×Obj))(s:Shared)(σ:St)(H:Hp)(Q:VK),Inv X pins σ H s->t σ H Q ->
  wpAny (model X.prog X.w) X.A (eval a X.env) (λv Y=>wpAny (model X.prog X.w) X.A (eval b X.env) (λu Z=>wpAny (model X.prog X.w) X.A (compareOp op v u) (EP X pins σ Q) X.xe Z) X.xe Y) X.xe s
theorem MP(b:Expr){op:CmpOp}(h:op ≠ .In)(h2:op ≠ .NotIn):behindInMarks op b=false:=by
 have Z:(op==CmpOp.In)=false:=by cases op<;>first|rfl|exact absurd rfl h
 have e2:(op==CmpOp.NotIn)=false:=by cases op<;>first|rfl|exact absurd rfl h2
 cases b<;>simp[behindInMarks,Z,e2]
def ae9(ta:TE):TE:=λσ H Q=>ta σ H λx H1=>Q (.bl (decide (x = .non))) H1
theorem RelV.none_iff{x:V}{v:Value}(r:RelV x v):(v==Value.none)=decide (x = .non):=by
 cases x with
 |non=>cases r;rfl
 |bl _=>cases r;rfl
 |int _=>obtain⟨t,rfl⟩:=r;rfl
 |str _=>obtain⟨t,rfl⟩:=r;rfl
 |byt _=>obtain⟨t,rfl⟩:=r;rfl
 |flt _=>obtain⟨t,rfl⟩:=r;rfl
 |ref _=>cases r;rfl
 |ty _=>cases r;rfl
theorem Wj{j pos'}(ha:PE X a ta):PC X .Is a (.Constant .none j pos') (ae9 ta):=by
 intro pins s σ H Q I h
 refine thn (ha pins s σ H _ I h) λv s1 ⟨x,H1,Y,Z,q1⟩=>?_
 exact Constant_none (is_none_gen ⟨.bl _,H1,Y,by rw[Z.none_iff];rfl,q1⟩)
def tB(t:TE):TT:=λσ H Q=>t σ H λx H1=>∃c,x = .bl c/\Q c H1
theorem Wk{t:TE}(h:PC X op a b t)(h1:behindInMarks op b=false:=by first|exact MP _ (by decide) (by decide)|rfl):PT X (.Compare a [op] [b] pos) (tB t):=by
 intro pins s σ H Q I hw
 refine wpAny_isTrue_Compare1 (thn (h pins s σ H _ I hw) λv s1 h1=>thn h1 λu s2 h2=>thn h2 λc s3 ⟨x,H1,Y,Z,q1⟩=>?_) h1
 obtain⟨d,rfl,q⟩:=q1
 cases Z
 exact ay ⟨H1,Y,q⟩
theorem Wl{t:TE}(h:PE X e t)(B:∀whole,isTrue e X.env whole=(do let v <-whole;standAt e.pos;holding [v] (truthy v)):=by intro _;rfl):PT X e (tB t):=by
 intro pins s σ H Q I hw
 refine isTrue_plain (thn (h pins s σ H _ I hw) λv s1 ⟨x,H1,Y,Z,q1⟩=>?_) (B _)
 obtain⟨d,rfl,q⟩:=q1
 cases Z
 exact ay ⟨H1,Y,q⟩
variable{tA tB':TT}{rest:List Expr}
def Cr(t u:TT):TT:=λσ H Q=>t σ H λc H1=>if c=true then u σ H1 Q else Q false H1
def tOr(t u:TT):TT:=λσ H Q=>t σ H λc H1=>if c=true then Q true H1 else u σ H1 Q
def jl(t:TT):TT:=λσ H Q=>t σ H λc H1=>Q (!c) H1
theorem RP(ha:PT X a tA):PW X (.BoolOp .And [a] pos) tA:=by
 intro wh pins s σ H Q I h
 refine isTrue_and (thn (ha pins s σ H Q I h) λc s1 e=>?_)
 cases c with
 |true=>exact isTrue_and_nil e
 |false=>exact e
theorem Wm(ha:PT X a tA):PW X (.BoolOp .Or [a] pos) tA:=by
 intro wh pins s σ H Q I h
 refine isTrue_or (thn (ha pins s σ H Q I h) λc s1 e=>?_)
 cases c with
 |false=>exact isTrue_or_nil e
 |true=>exact e
theorem Wn(ha:PT X a tA)(B:PW X (.BoolOp .And (b::rest) pos) tB'):PW X (.BoolOp .And (a::b::rest) pos) (Cr tA tB'):=by
 intro wh pins s σ H Q I h
 refine isTrue_and (thn (ha pins s σ H _ I h) λc s1 ⟨H1,Z,q1⟩=>?_)
 cases c with
 |true=>exact B wh pins s1 σ H1 Q Z q1
 |false=>exact⟨H1,Z,q1⟩
theorem Y9(ha:PT X a tA)(B:PW X (.BoolOp .Or (b::rest) pos) tB'):PW X (.BoolOp .Or (a::b::rest) pos) (tOr tA tB'):=by
 intro wh pins s σ H Q I h
 refine isTrue_or (thn (ha pins s σ H _ I h) λc s1 ⟨H1,Z,q1⟩=>?_)
 cases c with
 |true=>exact⟨H1,Z,q1⟩
 |false=>exact B wh pins s1 σ H1 Q Z q1
theorem Wo(ha:PT X a tA):PT X (.UnaryOp .Not a pos) (jl tA):=by
 intro pins s σ H Q I h
 exact isTrue_not (ha pins s σ H (λc H1=>Q (!c) H1) I h)
def Y_(ta tb:TE):TE:=λσ H Q=>ta σ H λx H1=>∃c,x = .bl c/\if c=true then tb σ H1 Q else Q (.bl false) H1
def af0(ta tb:TE):TE:=λσ H Q=>ta σ H λx H1=>∃c,x = .bl c/\if c=true then Q (.bl true) H1 else tb σ H1 Q
def Za(ta:TE):TE:=λσ H Q=>ta σ H λx H1=>∃c,x = .bl c/\Q (.bl (!c)) H1
theorem Wq{op}{t:TE}(h:PE X a t):PE X (.BoolOp op [a] pos) t:=λpins s σ H Q I hw=>BoolOp_one (h pins s σ H Q I hw)
theorem Wr(ha:PE X a ta)(B:PE X (.BoolOp .And (b::rest) pos) tb):PE X (.BoolOp .And (a::b::rest) pos) (Y_ ta tb):=by
 intro pins s σ H Q I h
 refine BoolOp_and (thn (ha pins s σ H _ I h) λv s1 ⟨x,H1,Z,Y,q1⟩=>?_)
 obtain⟨c,rfl,q1⟩:=q1
 cases Y
 refine ay ?_
 cases c with
 |true=>exact B pins s1 σ H1 Q Z q1
 |false=>exact⟨.bl false,H1,Z,rfl,q1⟩
theorem Zb(ha:PE X a ta)(B:PE X (.BoolOp .Or (b::rest) pos) tb):PE X (.BoolOp .Or (a::b::rest) pos) (af0 ta tb):=by
 intro pins s σ H Q I h
 refine BoolOp_or (thn (ha pins s σ H _ I h) λv s1 ⟨x,H1,Z,Y,q1⟩=>?_)
 obtain⟨c,rfl,q1⟩:=q1
 cases Y
 refine ay ?_
 cases c with
 |false=>exact B pins s1 σ H1 Q Z q1
 |true=>exact⟨.bl true,H1,Z,rfl,q1⟩
theorem Ws(ha:PE X a ta):PE X (.UnaryOp .Not a pos) (Za ta):=by
 intro pins s σ H Q I h
 refine UnaryOp_ (thn (ha pins s σ H _ I h) λv s1 ⟨x,H1,Y,Z,q1⟩=>?_)
 obtain⟨c,rfl,q1⟩:=q1
 cases Z
 exact not_of (ay ⟨.bl (!c),H1,Y,rfl,q1⟩)
def tIf(t:TT)(ta tb:TE):TE:=λσ H Q=>t σ H λc H1=>if c=true then ta σ H1 Q else tb σ H1 Q
theorem M4{c:Expr}(B:PT X c tA)(ha:PE X a ta)(D:PE X b tb):PE X (.IfExp c a b pos) (tIf tA ta tb):=by
 intro pins s σ H Q I h
 refine wpAny_IfExp (thn (B pins s σ H _ I h) λd s1 ⟨H1,Z,q1⟩=>?_)
 cases d with
 |true=>exact ha pins s1 σ H1 Q Z q1
 |false=>exact D pins s1 σ H1 Q Z q1
end
end L2
variable{K:PySem.W.Frag}{X:L2.Cx}{es:List Expr}{n:Nat}{tg:Expr}{pos':Pos}{H':L2.Hp}
namespace L2
open PySem PySem.Spec PyProof.Rows
def SqL(K:PySem.W.Frag)(H:Hp)(a:Addr)(xs:List V):Prop:=
 Rd H a (.lst xs) \/
  ∃(o:Obj)(its:Array Value)(n:Nat),K.lookup a=some o/\o.cls = .type "list"/\o.dict=none/\o.data = .seq its n/\its.size<=sizeLine/\Vals xs its.toList
def SqT(K:PySem.W.Frag)(H:Hp)(a:Addr)(xs:List V):Prop:=
 Rd H a (.tup xs) \/
  ∃(o:Obj)(its:Array Value)(n:Nat),K.lookup a=some o/\o.cls = .type "tuple"/\o.data = .seq its n/\its.size<=sizeLine/\Vals xs its.toList
noncomputable def af2:Value->Option V
 | .none=>some .non
 | .bool b=>some (.bl b)
 | .int i _=>some (.int i)
 | .str x _=>some (.str x)
 | .bytes b _=>some (.byt b)
 | .float b _=>some (.flt b)
 | .ref a=>some (.ref a)
 | .type n=>some (.ty n)
 |_=>none
theorem RelV.abs{x:V}{u:Value}(r:RelV x u):af2 u=some x:=by
 cases x with
 |non=>cases r;rfl
 |bl _=>cases r;rfl
 |int _=>obtain⟨t,rfl⟩:=r;rfl
 |str _=>obtain⟨t,rfl⟩:=r;rfl
 |byt _=>obtain⟨t,rfl⟩:=r;rfl
 |flt _=>obtain⟨t,rfl⟩:=r;rfl
 |ref _=>cases r;rfl
 |ty _=>cases r;rfl
theorem RelV.inj{x y:V}{u:Value}(r:RelV x u)(q:RelV y u):x=y:=dh.inj (r.abs.symm.trans q.abs)
theorem Vals.inj:∀{xs ys:List V}{us:List Value},Vals xs us->Vals ys us->xs=ys
 |_,_,_,.nil,.nil=>rfl
 |_,_,_,.cons r t,.cons r' t'=>by rw[r.inj r',Vals.inj t t']
section
variable{X:Cx}{pins:List (Addr×Obj)}{σ:St}{H:Hp}{s:Shared}{a:Addr}{xs ys:List V}
theorem SqL.of(h:H a=some (.lst xs)):SqL K H a xs:=.inl (.inl h)
theorem Inv.list(I:Inv X pins σ H s)(h:SqL X.K H a xs):∃its:List Value,Vals xs its/\PlainL s.heap a its.toArray/\xs.length<=sizeLine:=by
 rcases h with h|⟨o,its,n,Z,Y,hd,hs,W,r⟩
 ·obtain⟨z,its,n,r,e⟩:=h.ok I.hok
  exact⟨its,r,⟨_,n,e,rfl,rfl,rfl⟩,z⟩
 ·refine⟨its.toList,r,⟨o,n,I.kIn a o Z,Y,hd,by simpa using hs⟩,?_⟩
  have e:=r.length
  simp only[bD]at e
  omega
theorem Inv.tuple(I:Inv X pins σ H s)(h:SqT X.K H a xs):∃its:List Value,Vals xs its/\IsTup s.heap a its.toArray/\xs.length<=sizeLine:=by
 rcases h with h|⟨o,its,n,Z,Y,hs,W,r⟩
 ·obtain⟨z,its,r,p⟩:=h.ok I.hok
  exact⟨its,r,p,z⟩
 ·refine⟨its.toList,r,⟨o,I.kIn a o Z,Y,n,by simpa using hs⟩,?_⟩
  have e:=r.length
  simp only[bD]at e
  omega
theorem Inv.list_inj(I:Inv X pins σ H s)(h:SqL X.K H a xs)(h':SqL X.K H a ys):xs=ys:=by
 obtain⟨its,r,⟨o,n,e,_,_,d⟩,_⟩:=I.list h
 obtain⟨Z,r',⟨o',U,Y,_,_,W⟩,_⟩:=I.list h'
 rw[e]at Y;cases Y
 rw[d]at W
 injection W with V _
 have:its=Z:=by simpa using congrArg Array.toList V
 subst this
 exact r.inj r'
theorem Inv.tuple_inj(I:Inv X pins σ H s)(h:SqT X.K H a xs)(h':SqT X.K H a ys):xs=ys:=by
 obtain⟨its,r,⟨o,e,_,n,d⟩,_⟩:=I.tuple h
 obtain⟨Z,r',⟨o',Y,_,U,W⟩,_⟩:=I.tuple h'
 rw[e]at Y;cases Y
 rw[d]at W
 injection W with V _
 have:its=Z:=by simpa using congrArg Array.toList V
 subst this
 exact r.inj r'
end
abbrev Cx.wish(X:Cx)(E:Value->Shared->Prop):Cx:={X with xe:=E}
abbrev Cx.nox(X:Cx):Cx:=X.wish λ_ _=>False
theorem Cx.Ok.wish(ok:X.Ok)(E:Value->Shared->Prop):(X.wish E).Ok:=
 ⟨ok.mod,ok.kind,ok.glob,ok.blt,ok.above,ok.inj,ok.has,ok.cab,ok.hd,ok.frames,ok.stk,ok.exf,ok.bs,ok.bsz,ok.noex,ok.exfs,ok.funs,ok.frf⟩
theorem Cx.Ok.unwish(ok:(X.wish E).Ok):X.Ok:=
 ⟨ok.mod,ok.kind,ok.glob,ok.blt,ok.above,ok.inj,ok.has,ok.cab,ok.hd,ok.frames,ok.stk,ok.exf,ok.bs,ok.bsz,ok.noex,ok.exfs,ok.funs,ok.frf⟩
section
variable{X:Cx}{pins:List (Addr×Obj)}{σ:St}{H:Hp}{s:Shared}{E:Value->Shared->Prop}
theorem Inv.wish(I:Inv X pins σ H s)(E:Value->Shared->Prop):Inv (X.wish E) pins σ H s:=⟨I.ok.wish E,I.os,I.bare,I.base,I.loc,I.cell,I.free,I.freeC,I.pin,I.hok,I.len⟩
theorem Inv.unwish(I:Inv (X.wish E) pins σ H s):Inv X pins σ H s:=⟨I.ok.unwish,I.os,I.bare,I.base,I.loc,I.cell,I.free,I.freeC,I.pin,I.hok,I.len⟩
theorem SP.unwish{D:Ends}{f:Flow}{s':Shared}(h:SP (X.wish E) pins D f s'):SP X pins D f s':=by
 cases f with
 |next=>obtain⟨σ',H',I,q⟩:=h;exact⟨σ',H',I.unwish,q⟩
 |brk=>obtain⟨σ',H',I,q⟩:=h;exact⟨σ',H',I.unwish,q⟩
 |cont=>obtain⟨σ',H',I,q⟩:=h;exact⟨σ',H',I.unwish,q⟩
 |ret u=>obtain⟨v,σ',H',I,r,q⟩:=h;exact⟨v,σ',H',I.unwish,r,q⟩
theorem PSs.nox{st:List Stmt}{t:TS}(h:PSs X.nox st t):PSs X st t:=λpins s σ H D I hw=>
 a6 (h pins s σ H D (I.wish _) hw) (λ_ _ q=>q.unwish) λ_ _ z=>False.elim z
end
section
variable{X:Cx}{st:Stmt}{rest:List Stmt}{t u:TS}{e:Expr}{te:TE}{pos:Pos}
def Zc:TS:=λD σ H=>D.nx σ H
def af3(t u:TS):TS:=λD σ H=>t {D with nx:=u D} σ H
theorem RQ:PSs X [] Zc:=λ_ _ σ H _ I h=>d5 ⟨σ,H,I,h⟩
theorem M5(h1:PS X st t)(h2:PSs X rest u):PSs X (st::rest) (af3 t u):=by
 intro pins s σ H D I h
 refine wpAny_execs_cons (thn (h1 pins s σ H {D with nx:=u D} I h) λf s1 q=>?_)
 cases f with
 |next=>
  obtain⟨σ',H',Z,q⟩:=q
  exact h2 pins s1 σ' H' D Z q
 |ret v=>exact q
 |brk=>exact q
 |cont=>exact q
theorem RV(h1:PS X st t):PSs X [st] t:=by
 intro pins s σ H D I h
 refine wpAny_execs_cons (thn (h1 pins s σ H D I h) λf s1 q=>?_)
 cases f with
 |next=>exact d5 q
 |ret v=>exact q
 |brk=>exact q
 |cont=>exact q
theorem Inv.quiet{σ:St}(I:Inv X pins σ H s):interactive X.env=false:=by simp[interactive,I.ok.kind]
def Zd(te:TE):TS:=λD σ H=>te σ H λ_ H1=>D.nx σ H1
theorem Cu(B:PE X e te)(hs:swapsWith e none pos.line X.env=pure false:=by rfl):PS X (.Expr e pos) (Zd te):=by
 intro pins s σ H D I h
 exact wpAny_Expr_any (thn (B pins s σ H _ I h) λv s1 ⟨x,H1,Z,Y,q1⟩=>⟨σ,H1,Z,q1⟩) I.quiet hs
def af4(te:TE):TS:=λD σ H=>te σ H D.rt
theorem M6(B:PE X e te):PS X (.Return (some e) pos) (af4 te):=by
 intro pins s σ H D I h
 exact wpAny_Return_some (thn (B pins s σ H _ I h) λv s1 ⟨x,H1,Y,Z,q1⟩=>⟨x,σ,H1,Y,Z,q1⟩)
def af5(c:TT)(t u:TS):TS:=λD σ H=>c σ H λb H1=>if b=true then t D σ H1 else u D σ H1
theorem Ze{c:Expr}{a b:List Stmt}{tc:TT}(B:PT X c tc)(ha:PSs X a t)(J:PSs X b u):PS X (.If c a b pos) (af5 tc t u):=by
 intro pins s σ H D I h
 refine wpAny_If (thn (B pins s σ H _ I h) λd s1 ⟨H1,Z,q1⟩=>?_)
 cases d with
 |true=>exact ha pins s1 σ H1 D Z q1
 |false=>exact J pins s1 σ H1 D Z q1
def Wt:TS:=λ_ _ _=>False
theorem M7:PS X st Wt:=λ_ _ _ _ _ _ h=>h.elim
end
abbrev TG:=V->St->Hp->(St->Hp->Prop)->Prop
abbrev TGs:=List V->St->Hp->(St->Hp->Prop)->Prop
def PG(X:Cx)(target:Expr)(t:TG):Prop:=
 ∀(pins:List (Addr×Obj))(s:Shared)(σ:St)(H:Hp)(v:V)(u:Value)(Q:St->Hp->Prop),Inv X pins σ H s->RelV v u->t v σ H Q ->
  wpAny (model X.prog X.w) X.A (assign target X.env u) (λ_ s'=>∃σ' H',Inv X pins σ' H' s'/\Q σ' H') X.xe s
def PGs(X:Cx)(ts:List Expr)(t:TGs):Prop:=
 ∀(pins:List (Addr×Obj))(s:Shared)(σ:St)(H:Hp)(vs:List V)(us:List Value)(Q:St->Hp->Prop),Inv X pins σ H s->Vals vs us->t vs σ H Q ->
  wpAny (model X.prog X.w) X.A (assignInOrder ((assignEach ts X.env).map (·.2)) us) (λ_ s'=>∃σ' H',Inv X pins σ' H' s'/\Q σ' H') X.xe s
abbrev Wu:=V->V->V->Hp->(Hp->Prop)->Prop
def RW(X:Cx)(t:Wu):Prop:=
 ∀(pins:List (Addr×Obj))(s:Shared)(σ:St)(H:Hp)(o i v:V)(Z Y u:Value)(Q:Hp->Prop),Inv X pins σ H s->RelV o Z->RelV i Y->RelV v u->t o i v H Q ->
  wpAny (model X.prog X.w) X.A (setItem Z Y u) (λ_ s'=>∃H',Inv X pins σ H' s'/\Q H') X.xe s
section
variable{X:Cx}{pos:Pos}
def M8(i:Nat):TG:=λv σ H Q=>Q (σ.set i (some v)) H
theorem RX(J:X.N.Nodup)(hi:X.N[i]? = some x)(B:Loc X.env.scope x)(D:X.fn x=true\/X.env.scope.names.lookup x=some .local:=by first|exact .inl rfl|exact .inr rfl|assumption):PG X (.Name x pos) (M8 i):=by
 intro pins s σ H v u Q I r h
 exact wpAny_assign_Name (Fd I J hi B r (λs' Z=>⟨_,H,Z,h⟩) D)
def af6:TGs:=λvs σ H Q=>vs=[]/\Q σ H
def Zf(t:TG)(u:TGs):TGs:=λvs σ H Q=>∃v r,vs=v::r/\t v σ H λσ' H'=>u r σ' H' Q
theorem RZ:PGs X [] af6:=by
 intro pins s σ H vs us Q I r h
 obtain⟨e,h⟩:=h
 subst e
 cases r
 exact assignInOrder_nil ⟨σ,H,I,h⟩
theorem M9{t:TG}{u:TGs}(h1:PG X e t)(h2:PGs X es u)
 (hs:(assignEach (e::es) X.env).map (·.2)=assign e X.env::(assignEach es X.env).map (·.2):=by rfl):PGs X (e::es) (Zf t u):=by
 intro pins s σ H vs us Q I r h
 obtain⟨v,U,W,h⟩:=h
 subst W
 cases r with
 |cons r Y=>
  rw[hs]
  refine assignInOrder_cons (thn (h1 pins s σ H _ _ _ I r h) λ_ s1 ⟨Z,H1,V,q1⟩=>?_)
  exact h2 pins s1 Z H1 _ _ Q V Y q1
def af7(K:PySem.W.Frag)(n:Nat)(t:TGs):TG:=λv σ H Q=>∃a xs,v = .ref a/\SqT K H a xs/\xs.length=n/\t xs σ H Q
theorem Wv{k:Nat}{t:TGs}(D:X.calm=true)(h:PGs X es t)
 (hn:(assignEach es X.env).length=n:=by rfl) (B:(assignEach es X.env).findIdx? (·.1)=none:=by rfl):PG X (.Tuple es k pos) (af7 X.K n t):=by
 intro pins s σ H v u Q I r hw
 obtain⟨a,xs,T,V,U,hw⟩:=hw
 subst T
 cases r
 obtain⟨its,Z,W,R⟩:=I.tuple V
 refine assign_Tuple_tuple (I.ok.hd D) W (by simp[hn,<-U,Z.length]) B λh' Y=>?_
 have S:Inv X pins σ H {s with heap:=h'}:=I.kept (t':=s.toks) λb o e=>Y b o (aW (af e)) e
 exact h pins _ σ H xs _ Q S (by simpa using Z) hw
def uz(to ti:TE)(t:Wu):TG:=λv σ H Q=>to σ H λo H1=>ti σ H1 λi H2=>t o i v H2 λZ=>Q σ Z
theorem M_{o i:Expr}{to ti:TE}{t:Wu}(J:PE X o to)(hi:PE X i ti)(hs:RW X t)
 (ha:∀v,assign (.Subscript o i pos) X.env v=(do
  let B <-holding [v] (eval o X.env)
  let D <-holding [v,B] (eval i X.env)
  standAt pos
  holding [v,B,D] (setItem B D v)
  release [v,B,D] []):=by intro _;rfl):PG X (.Subscript o i pos) (uz to ti t):=by
 intro pins s σ H v u Q I r h
 rw[ha]
 refine aa (ap (thn (J pins s σ H _ I h) λB s1 ⟨x,H1,T,Y,q1⟩=>?_))
 refine aa (ap (thn (hi pins s1 σ H1 _ T q1) λD s2 ⟨y,H2,U,Z,q2⟩=>?_))
 refine aa (de (aa (ap (thn (hs pins s2 σ H2 x y v B D u _ U Y Z r q2) λ_ s3 ⟨S,V,W⟩=>?_))))
 exact wpAny_release ⟨σ,S,V,W⟩
def Wx(te:TE)(g:TG):TS:=λD σ H=>te σ H λx H1=>g x σ H1 D.nx
theorem Hu{te:TE}{g:TG}(J:PE X e te)(B:PG X tg g)(hs:swapsWithSole [tg] e pos.line X.env=pure false:=by rfl)(hw:swappedStores [tg] e X.env=pure none:=by rfl)
 (h1:(assignEach [tg] X.env).map (·.2)=[assign tg X.env]:=by rfl):PS X (.Assign [tg] e pos) (Wx te g):=by
 intro pins s σ H D I h
 refine wpAny_Assign_stores (thn (J pins s σ H _ I h) λv s1 ⟨x,H1,Y,Z,q1⟩=>?_) hs hw
 rw[h1]
 exact thn (B pins s1 σ H1 x v _ Y Z q1) λ_ s2 q=>q
theorem Hv{te:TE}(W:X.N.Nodup)(hi:X.N[i]? = some x)(B:Loc X.env.scope x)(O:PE X e te)(hs:swapsWith e (some (.Name x pos')) pos.line X.env=pure false:=by rfl)(J:X.fn x=true\/X.env.scope.names.lookup x=some .local:=by first|exact .inl rfl|exact .inr rfl|assumption):
 PS X (.Assign [.Name x pos'] e pos) (Wx te (M8 i)):=by
 intro pins s σ H D I h
 refine wpAny_Assign_Name (thn (O pins s σ H _ I h) λv s1 ⟨y,H1,V,Z,q1⟩=>?_) hs
 exact Fd V W hi B Z (λs2 Y=>⟨_,H1,Y,q1⟩) J
end
section
variable{X:Cx}{pos:Pos}
end
structure It where
 go:Nat->Hp->Prop
 yld:Nat->Hp->V->Hp->Prop
 stop:Nat->Hp->Prop
def wg(X:Cx)(pins:List (Addr×Obj))(H:Hp)(b:Addr):Prop:=
 H b=none/\b≠X.env.locals/\b∉X.fs/\(b∈X.ex\/X.s₀.heap.objs.size<=b)/\(∀x c,X.env.cells.lookup x=some c->c≠b)/\∀p∈X.pn++pins,p.1≠b
theorem Inv.fpOk{σ:St}(I:Inv X pins σ H s)(B:s.heap.objs.size<=b)(hn:H' b=none):wg X pins H' b:=by
 refine⟨hn,lJ (bY I.lt B),I.nofs B,.inr (bF I.sz B),λx c e z=>?_,λp Z z=>?_⟩
 ·obtain⟨v,q⟩:=I.cell x c e
  exact absurd (bY q.lt (by rw[z];exact B)) (eN _)
 ·exact absurd (bY (af (I.pin p Z).1) (by rw[z];exact B)) (eN _)
structure Turn(P:Program)(w:World)(K:PySem.W.Frag)(tg:Expr)(J:It)(fp:List Addr)(it:Addr)(tn:Nat->Heap->Prop):Prop where
 mem:it∈fp
 obj:∀i h,tn i h->∀b∈fp,∃o,h.get? b=some o/\∀v,o.data ≠ .cell v
 keep:∀i h h',tn i h->(∀b∈fp,∀o,h.get? b=some o->h'.get? b=some o)->tn i h'
 item:∀(X:Cx),X.prog=P->X.w=w->X.K=K->X.calm=true->∀(i:Nat)(pins:List (Addr×Obj))(s:Shared)(σ:St)(H:Hp)(E:Value->Shared->Prop),Inv X pins σ H s->(∀b∈fp,wg X pins H b)->tn i s.heap->J.go i H ->
  wpAny (model P w) X.A (pyNext (.ref it)) (λr s1=>∃u,r=some u /\
   wpAny (model P w) X.A (letOwnedTupleGo tg (.ref it) u) (λ_ s2=>∃x H',Inv X pins σ H' s2/\RelV x u/\J.yld i H x H'/\tn (i+1) s2.heap/\∀b∈fp,H' b=none) E s1) E s
 done:∀(X:Cx),X.prog=P->X.w=w->X.K=K->X.calm=true->∀(i:Nat)(pins:List (Addr×Obj))(s:Shared)(σ:St)(H:Hp)(E:Value->Shared->Prop),Inv X pins σ H s->(∀b∈fp,wg X pins H b)->tn i s.heap->J.stop i H ->
  wpAny (model P w) X.A (pyNext (.ref it)) (λr s1=>r=none/\Inv X pins σ H s1) E s
 self:∀(A:Around)(i:Nat)(s:Shared)(Q:Value->Shared->Prop)(E:Value->Shared->Prop),tn i s.heap->Q (.ref it) s->wpAny (model P w) A (pyIter (.ref it)) Q E s
abbrev TI:=St->Hp->(It->Hp->Prop)->Prop
def PIE(X:Cx)(pins:List (Addr×Obj))(σ:St)(tg:Expr)(R:It->Hp->Prop)(B:Value)(s2:Shared):Prop:=
 ∃(it:Addr)(fp:List Addr)(tn:Nat->Heap->Prop)(J:It)(H':Hp),B = .ref it/\Inv X pins σ H' s2/\Turn X.prog X.w X.K tg J fp it tn/\tn 0 s2.heap/\(∀b∈fp,wg X pins H' b)/\R J H'
def PI(X:Cx)(tg iter:Expr)(wi:TI):Prop:=
 ∀(pins:List (Addr×Obj))(s:Shared)(σ:St)(H:Hp)(R:It->Hp->Prop),Inv X pins σ H s->wi σ H R ->
  wpAny (model X.prog X.w) X.A (eval iter X.env) (λv s1=>wpAny (model X.prog X.w) X.A (pyIter v) (PIE X pins σ tg R) X.xe s1) X.xe s
theorem Jh{u:Value}{o:Obj}{n:String}{vs:Array Value}{Q:Unit->Shared->Prop}(D:s.heap.get? it=some o)(J:o.cls = .type n)(hd:o.data = .fields vs)
 (hn:["enumerate", "zip", "dict_itemiterator", "dict_reverseitemiterator", "odict_iterator", "itertools.zip_longest", "itertools.pairwise"].contains n=false) (B:Q () s):wpAny M A (letOwnedTupleGo tg (.ref it) u) Q E s:=by
 unfold letOwnedTupleGo
 cases tg<;>first
  |exact ae B
  | (cases u<;>first
   |exact ae B
   | (refine aa (wpAny_load D ?_)
      rw[J,hd]
      show wpAny M A (if(["enumerate", "zip", "dict_itemiterator", "dict_reverseitemiterator", "odict_iterator", "itertools.zip_longest", "itertools.pairwise"].contains n&&vs[0]? == some (rawInt _))=true then _ else _) Q E s
      rw[if_neg (by intro h;rw[hn,oW]at h;cases h)]
      exact ae B))
noncomputable def Itl(K:PySem.W.Frag)(a:Addr):It:=
 ⟨λi H=>∃xs x,SqL K H a xs/\xs[i]? = some x,λi H x H'=>H'=H/\∀xs,SqL K H a xs->xs[i]? = some x,λi H=>∃xs,SqL K H a xs/\xs.length<=i⟩
noncomputable def Itt(K:PySem.W.Frag)(a:Addr):It:=
 ⟨λi H=>∃xs x,SqT K H a xs/\xs[i]? = some x,λi H x H'=>H'=H/\∀xs,SqT K H a xs->xs[i]? = some x,λi H=>∃xs,SqT K H a xs/\xs.length<=i⟩
noncomputable def Itr(lo:Int)(n:Nat):It:=⟨λi _=>i<n,λi H x H'=>H'=H/\x = .int (lo+i),λi _=>n<=i⟩
theorem Kz(a it:Addr):Turn P w K tg (Itl K a) [it] it (λi h=>h.IsListIter it a i) where
 mem:=by simp
 obj:=λi h st b Z=>by
  have e:b=it:=by simpa using Z
  subst e
  obtain⟨o,e,c,d⟩:=st
  exact⟨o,e,λv z=>by rw[d]at z;cases z⟩
 keep:=λi h h' st k=>st.at λo e=>k it (by simp) o e
 item:=by
  intro X S hw R M i pins s σ H E I W st T
  subst S hw R
  obtain⟨xs,x,Y,U⟩:=T
  obtain⟨its,V,p,G⟩:=I.list Y
  obtain⟨u,D,J⟩:=V.get U
  obtain⟨N,f1,f2,f3,O,Q⟩:=W it (by simp)
  refine wpAny_pyNext_list_item st p.isList (x:=u) (by simpa using D) λh' st' L=>?_
  have B:Inv X pins σ H {s with heap:=h'}:=I.turned (t':=s.toks) (λb o Z e=>(L.2 b Z).trans e) N f1 f3 O Q
  obtain⟨o,e,c,d⟩:=id st'
  exact⟨u,rfl,Jh (s:={s with heap:=h'}) e c d (by decide) ⟨x,H,B,J,⟨rfl,λys F=>by rw[I.list_inj F Y];exact U⟩,st',λb Z=>(W b Z).1⟩⟩
 done:=by
  intro X S hw R M i pins s σ H E I W st T
  subst S hw R
  obtain⟨xs,Y,U⟩:=T
  obtain⟨its,V,p,G⟩:=I.list Y
  obtain⟨N,f1,f2,f3,O,Q⟩:=W it (by simp)
  have A:=V.length
  exact wpAny_pyNext_list_end (I.ok.hd M) st p.isList (by simp;omega) λh' C=>⟨rfl,I.turned (t':=s.toks) (λb o Z e=>C b o Z e) N f1 f3 O Q⟩
 self:=λ_ _ _ _ _ st h=>wpAny_pyIter_listiter st h
theorem Hw(a it:Addr):Turn P w K tg (Itt K a) [it] it (λi h=>h.IsTupleIter it a i) where
 mem:=by simp
 obj:=λi h st b Z=>by
  have e:b=it:=by simpa using Z
  subst e
  obtain⟨o,e,c,d⟩:=st
  exact⟨o,e,λv z=>by rw[d]at z;cases z⟩
 keep:=λi h h' st k=>st.at λo e=>k it (by simp) o e
 item:=by
  intro X S hw R M i pins s σ H E I W st T
  subst S hw R
  obtain⟨xs,x,Y,U⟩:=T
  obtain⟨its,V,p,G⟩:=I.tuple Y
  obtain⟨u,D,J⟩:=V.get U
  obtain⟨N,f1,f2,f3,O,Q⟩:=W it (by simp)
  refine wpAny_pyNext_tuple_item st (show s.heap.IsTuple a its.toArray from p) (x:=u) (by simpa using D) λh' st' L=>?_
  have B:Inv X pins σ H {s with heap:=h'}:=I.turned (t':=s.toks) (λb o Z e=>(L.2 b Z).trans e) N f1 f3 O Q
  obtain⟨o,e,c,d⟩:=id st'
  exact⟨u,rfl,Jh (s:={s with heap:=h'}) e c d (by decide) ⟨x,H,B,J,⟨rfl,λys F=>by rw[I.tuple_inj F Y];exact U⟩,st',λb Z=>(W b Z).1⟩⟩
 done:=by
  intro X S hw R M i pins s σ H E I W st T
  subst S hw R
  obtain⟨xs,Y,U⟩:=T
  obtain⟨its,V,p,G⟩:=I.tuple Y
  obtain⟨N,f1,f2,f3,O,Q⟩:=W it (by simp)
  have A:=V.length
  exact wpAny_pyNext_tuple_end (I.ok.hd M) st (show s.heap.IsTuple a its.toArray from p) (by simp;omega) λh' C=>⟨rfl,I.turned (t':=s.toks) (λb o Z e=>C b o Z e) N f1 f3 O Q⟩
 self:=λ_ _ _ _ _ st h=>wpAny_pyIter_tupleiter st h
theorem Hy(it:Addr)(lo:Int)(n:Nat):Turn P w K tg (Itr lo n) [it] it (λi h=>IsRangeIter h it (lo+(i:Nat)*1) ((n:Int)-(i:Nat)) 1) where
 mem:=by simp
 obj:=λi h st b Z=>by
  have e:b=it:=by simpa using Z
  subst e
  exact⟨_,st,λv z=>by
   have N:Data.fields _=Data.cell v:=z
   cases N⟩
 keep:=λi h h' st k=>k it (by simp) _ st
 item:=by
  intro X T hw S U i pins s σ H E I Y st V
  subst T hw S
  obtain⟨O,f1,f2,f3,Q,R⟩:=Y it (by simp)
  have W:=Walks.range (prog:=X.prog) (w:=X.w) (I.ok.hd U) it lo 1 n
  refine W.item i s _ _ V st λv h' tk L st' M=>?_
  obtain⟨t,rfl⟩:=L
  have G:Inv X pins σ H {s with heap:=h',toks:=tk}:=I.turned (λb o Z e=>M b o (by simpa using Z) e) O f1 f3 Q R
  refine⟨_,rfl,Jh (s:={s with heap:=h',toks:=tk}) (n := "range_iterator") st' rfl rfl (by decide) ⟨.int (lo+i),H,G,⟨t,?_⟩,⟨rfl,rfl⟩,st',λb Z=>(Y b Z).1⟩⟩
  rw[wV]
 done:=by
  intro X T hw S U i pins s σ H E I Y st V
  subst T hw S
  obtain⟨O,f1,f2,f3,Q,R⟩:=Y it (by simp)
  exact wpAny_pyNext_range_end (I.ok.hd U) st (by have:n<=i:=V;omega) λh' J=>⟨rfl,I.turned (t':=s.toks) (λb o Z e=>J b o Z e) O f1 f3 Q R⟩
 self:=λ_ _ _ _ _ st h=>wpAny_pyIter_rangeiter st h
end L2
variable{tl:L2.TE}{p:Pos}{fp:List Addr}{iter:Expr}
namespace L2
open PySem PySem.Spec PyProof.Rows
section
variable{X:Cx}{tg:Expr}
def Zg(K:PySem.W.Frag)(tl:TE):TI:=λσ H R=>tl σ H λx H1=>∃a,x = .ref a/\(∃xs,SqL K H1 a xs)/\R (Itl K a) H1
def af8(K:PySem.W.Frag)(tl:TE):TI:=λσ H R=>tl σ H λx H1=>∃a,x = .ref a/\(∃xs,SqT K H1 a xs)/\R (Itt K a) H1
theorem Ji{l:Expr}(B:PE X l tl):PI X tg l (Zg X.K tl):=by
 intro pins s σ H R I h
 refine thn (B pins s σ H _ I h) λv s1 ⟨x,H1,Z,Y,q1⟩=>?_
 obtain⟨a,e,⟨xs,W⟩,q⟩:=q1
 subst e
 cases Y
 obtain⟨its,U,p,T⟩:=Z.list W
 refine wpAny_pyIter_list p.isList ?_
 refine⟨s1.heap.objs.size,[s1.heap.objs.size],_,_,H1,rfl,Z.kept (t':=s1.toks) λb o e=>ad _ e,Kz a _,⟨_,ag _ rfl,rfl,rfl⟩,λb V=>?_,q⟩
 have e:b=s1.heap.objs.size:=by simpa using V
 subst e
 exact Z.fpOk (aL _) (Z.hok.fresh (aL _))
theorem Wy{l:Expr}(B:PE X l tl):PI X tg l (af8 X.K tl):=by
 intro pins s σ H R I h
 refine thn (B pins s σ H _ I h) λv s1 ⟨x,H1,Z,Y,q1⟩=>?_
 obtain⟨a,e,⟨xs,W⟩,q⟩:=q1
 subst e
 cases Y
 obtain⟨its,U,p,T⟩:=Z.tuple W
 refine cb (show s1.heap.IsTuple a its.toArray from p) ?_
 refine⟨s1.heap.objs.size,[s1.heap.objs.size],_,_,H1,rfl,Z.kept (t':=s1.toks) λb o e=>ad _ e,Hw a _,⟨_,ag _ rfl,rfl,rfl⟩,λb V=>?_,q⟩
 have e:b=s1.heap.objs.size:=by simpa using V
 subst e
 exact Z.fpOk (aL _) (Z.hok.fresh (aL _))
theorem Nb{σ:St}{R:It->Hp->Prop}{lo hi:Int}{t u v:Tok}{tk:Nat}(I:Inv X pins σ H s)(h1 : -(2^62)<=lo)(h2:lo<2^62)(D : -(2^62)<=hi)(B:hi<2^62)
 (q:R (Itr lo (hi-lo).toNat) H):wpAny (model X.prog X.w) X.A (pyIter (.ref s.heap.objs.size)) (PIE X pins σ tg R) E {s with heap:=s.heap.push {cls:=.type "range", data:=.fields #[.int lo t,.int hi u,.int 1 v]},toks:=tk}:=by
 refine wpAny_pyIter_range (IsRange.new ..) (small_one h1 h2 D B) ?_
 have Z:Inv X pins σ H {s with heap:=s.heap.push {cls:=.type "range", data:=.fields #[.int lo t,.int hi u,.int 1 v]},toks:=tk}:=I.kept λb o e=>ad _ e
 refine⟨(s.heap.push {cls:=.type "range", data:=.fields #[.int lo t,.int hi u,.int 1 v]}).objs.size,[(s.heap.push {cls:=.type "range", data:=.fields #[.int lo t,.int hi u,.int 1 v]}).objs.size],_,_,H,rfl,
  Z.kept (t':=tk) λb o e=>ad _ e,Hy _ lo (hi-lo).toNat,?_,λb Y=>?_,q⟩
 ·have W:lo+((0:Nat):Int)*1=lo:=by simp
  have e2:(((hi-lo).toNat:Nat):Int)-((0:Nat):Int)=Builtin.Range.rangeSize lo hi 1:=by rw[rangeSize_one];split<;>omega
  show IsRangeIter _ _ (lo+((0:Nat):Int)*1) ((((hi-lo).toNat:Nat):Int)-((0:Nat):Int)) 1
  rw[W,e2]
  exact ag _ rfl
 ·have e:b=(s.heap.push {cls:=.type "range", data:=.fields #[.int lo t,.int hi u,.int 1 v]}).objs.size:=by simpa using Y
  subst e
  exact Z.fpOk (aL _) (Z.hok.fresh (aL _))
def Zh(ta:TA):TI:=λσ H R=>ta σ H λvs H1=>∃j:Int,vs=[.int j]/\-(2^62)<=j/\j<2^62/\R (Itr 0 j.toNat) H1
theorem KD{a:Expr}{ta:TA}(B:Gl X "range")(hm:X.mg "range"=none)(ha:PA X [a] ta)(hs:starEach [a] X.env=[(false,eval a X.env)]:=by rfl):PI X tg (.Call (.Name "range" p) [a] [] pos) (Zh ta):=by
 intro pins s σ H R I h
 refine Call_ (lR I B hm boot_range (PyProof.Rows.callWith_type1 (thn (ha pos pins s σ H _ I h) λus s1 ⟨vs,H1,W,Y,q1⟩=>?_) hs rfl))
 obtain⟨j,e,q1,q2,q⟩:=q1
 subst e
 cases Y with
 |cons r Z=>
  cases Z
  obtain⟨t,rfl⟩:=r
  exact call_range_1 (Nb W (by omega) (by omega) q1 q2 (by simpa using q))
def af9(wi:TI)(g:TG)(tb:TS):TS:=λD σ H=>wi σ H λJ H1=>∃W:Nat->Nat->St->Hp->Prop,(∃m,W 0 m σ H1)/\∀i m σ H,W i m σ H ->
 (J.stop i H/\D.nx σ H)\/(J.go i H/\∃N:St->Hp->Prop,(∀σ' H',N σ' H'->∃Y,Y<m/\W (i+1) Y σ' H')/\∀x H',J.yld i H x H'->g x σ H' λZ H2=>tb {D with nx:=N,ct:=N,bk:=D.nx} Z H2)
def yF(fp:List Addr)(h:Heap):List (Addr×Obj):=fp.filterMap λb=>(h.get? b).map λo=>(b,o)
theorem rF{o:Obj}(B:b∈fp)(e:h.get? b=some o):(b,o)∈yF fp h:=lu.mpr ⟨b,B,by rw[e];rfl⟩
theorem KH{p:Addr×Obj}(B:p∈yF fp h):p.1∈fp/\h.get? p.1=some p.2:=by
 obtain⟨b,Z,e⟩:=lu.mp B
 cases q:h.get? b with
 |none=>rw[q]at e;cases e
 |some o=>
  rw[q]at e
  have Y:(b,o)=p:=dh.inj e
  subst Y
  exact⟨Z,q⟩
theorem Inv.pinned{σ:St}(I:Inv X pins σ H s)(D:∀b∈fp,wg X pins H b)(B:∀b∈fp,∃o,s.heap.get? b=some o/\∀v,o.data ≠ .cell v):Inv X (pins++yF fp s.heap) σ H s:=
 I.pins_of λp W=>(cG.mp W).elim (λz=>I.pin p (bI _ z)) λz=>by
  obtain⟨Z,e⟩:=KH z
  obtain⟨V,f1,f2,_⟩:=D p.1 Z
  obtain⟨o,Y,d⟩:=B p.1 Z
  rw[e]at Y;cases Y
  exact⟨e,V,f1,f2,d⟩
theorem Inv.unpinned{pl:List (Addr×Obj)}{σ:St}(I:Inv X (pins++pl) σ H s):Inv X pins σ H s:=I.pins_of λp Z=>I.pin p (bI _ (cB _ Z))
theorem Wz{body:List Stmt}{wi:TI}{g:TG}{tb:TS}(hp:PassesOwn (model X.prog X.w) X.A X.env X.xe)(hc:X.calm=true)(hi:PI X tg iter wi)(hg:PG X tg g)(B:PSs X body tb)
 (hs:∀x,foldedSetIterable iter X.env x=pure x:=by intro _;rfl):PS X (.For tg iter body [] pos) (af9 wi g tb):=by
 intro pins s σ H D I h
 refine wpAny_For (thn (hi pins s σ H _ I h) λv s1 h1=>thn h1 λitv s2 h2=>?_) hs
 obtain⟨it,fp,tn,J,H2,e,I2,T,G,f2,W,⟨m0,w0⟩,turn⟩:=h2
 subst e
 have V:∀{H':Hp},(∀b∈fp,H' b=none)->∀b∈fp,wg X pins H' b:=λhn b B=>⟨hn b B,(f2 b B).2⟩
 refine codeAny_forLoop_any (λn s'=>∃i σ' H',Inv X pins σ' H' s'/\tn i s'.heap/\(∀b∈fp,H' b=none)/\W i n σ' H') ?_ m0 ⟨0,σ,H2,I2,G,λb B=>(f2 b B).1,w0⟩
 rintro n s3 ⟨i,Y,L,t,P,M,j⟩
 rcases turn i n Y L j with⟨stop,qn⟩|⟨go,N,hN,step⟩
 ·refine b8 hp (thn (T.done X rfl rfl rfl hc i pins s3 Y L X.xe t (V M) P stop) λr a ⟨E,I4⟩=>?_)
  subst E
  exact d5 ⟨Y,L,I4,qn⟩
 ·refine b8 hp (thn (T.item X rfl rfl rfl hc i pins s3 Y L X.xe t (V M) P go) λr a ⟨u,E,h4⟩=>?_)
  subst E
  refine b8 hp (thn h4 λ_ y ⟨x,q,I5,r5,p,Q,C⟩=>?_)
  have z:=I5.pinned (V C) (T.obj _ _ Q)
  refine b8 hp (thn (hg _ y Y q x u _ z r5 (step x q p)) λ_ c ⟨K,H6,I6,q6⟩=>?_)
  refine b8 hp (thn (B _ c K H6 _ I6 q6) λf F R=>?_)
  have again:∀{Z:St}{S:Hp},Inv X (pins++yF fp y.heap) Z S F->N Z S->∃m,m<n/\∃i σ' H',Inv X pins σ' H' F/\tn i F.heap/\(∀b∈fp,H' b=none)/\W i m σ' H':=λ{Z S} U O=>by
   obtain⟨m',hm,k⟩:=hN Z S O
   refine⟨m',hm,i+1,Z,S,U.unpinned,T.keep _ _ _ Q λb B o e=>(U.pin (b,o) (bI _ (bI _ (rF B e)))).1,λb B=>?_,k⟩
   obtain⟨o,e,d⟩:=T.obj _ _ Q b B
   exact(U.pin (b,o) (bI _ (bI _ (rF B e)))).2.1
  cases f with
  |next=>obtain⟨Z,S,U,O⟩:=R;exact again U O
  |cont=>obtain⟨Z,S,U,O⟩:=R;exact again U O
  |brk=>obtain⟨Z,S,U,R⟩:=R;exact⟨Z,S,U.unpinned,R⟩
  |ret v=>obtain⟨l,Z,S,U,r7,R⟩:=R;exact⟨l,Z,S,U.unpinned,r7,R⟩
end
end L2
variable{op':CmpOp}
namespace L2
open PySem PySem.Spec PyProof.Rows
abbrev R2:=V->V->Hp->VK->Prop
def OpR(X:Cx)(f:Value->Value->Sem Value)(r:R2):Prop:=
 ∀(pins:List (Addr×Obj))(s:Shared)(σ:St)(H:Hp)(x y:V)(v u:Value)(Q:VK),Inv X pins σ H s->RelV x v->RelV y u->r x y H Q ->
  wpAny (model X.prog X.w) X.A (f v u) (EP X pins σ Q) X.xe s
def UnR(X:Cx)(f:Value->Sem Value)(r:V->Hp->VK->Prop):Prop:=
 ∀(pins:List (Addr×Obj))(s:Shared)(σ:St)(H:Hp)(x:V)(v:Value)(Q:VK),Inv X pins σ H s->RelV x v->r x H Q ->
  wpAny (model X.prog X.w) X.A (f v) (EP X pins σ Q) X.xe s
def lU(X:Cx)(f:Value)(r:List V->Hp->VK->Prop):Prop:=
 ∀(pins:List (Addr×Obj))(s:Shared)(σ:St)(H:Hp)(xs:List V)(us:List Value)(Q:VK),Inv X pins σ H s->Vals xs us->r xs H Q ->
  wpAny (model X.prog X.w) X.A (call f us) (EP X pins σ Q) X.xe s
def tOp(r:R2)(ta tb:TE):TE:=λσ H Q=>ta σ H λx H1=>tb σ H1 λy H2=>r x y H2 Q
def tUn(r:V->Hp->VK->Prop)(ta:TE):TE:=λσ H Q=>ta σ H λx H1=>r x H1 Q
def rI(C:Int->Int->Prop)(g:Int->Int->V):R2:=λx y H Q=>∃i j,x = .int i/\y = .int j/\C i j/\Q (g i j) H
def rI0(g:Int->Int->V):R2:=λx y H Q=>∃i j,x = .int i/\y = .int j/\Q (g i j) H
def rU(g:Int->V):V->Hp->VK->Prop:=λx H Q=>∃i,x = .int i/\Q (g i) H
section
variable{X:Cx}{a b c:Expr}{ta tb tc:TE}{pos:Pos}
theorem WD(ha:PE X a ta)(O:PE X b tb){pins:List (Addr×Obj)}{s:Shared}{σ:St}{H:Hp}{R:V->V->Hp->Prop}(I:Inv X pins σ H s)
 (h:ta σ H λx H1=>tb σ H1 λy H2=>R x y H2) {Q:Value->Shared->Prop} {f:Value->Value->Sem Value}
 (J:∀v u s2 x y H2,Inv X pins σ H2 s2->RelV x v->RelV y u->R x y H2->wpAny (model X.prog X.w) X.A (f v u) Q X.xe s2) :
 wpAny (model X.prog X.w) X.A (eval a X.env) (λv D=>wpAny (model X.prog X.w) X.A (eval b X.env) (λu B=>wpAny (model X.prog X.w) X.A (f v u) Q X.xe B) X.xe D) X.xe s:=by
 refine thn (ha pins s σ H _ I h) λv s1 ⟨x,H1,U,Y,q1⟩=>?_
 refine thn (O pins s1 σ H1 _ U q1) λu s2 ⟨y,H2,W,Z,q2⟩=>?_
 exact J v u s2 x y H2 W Y Z q2
theorem Nf{op:Operator}{r:R2}(B:OpR X (binaryOp op) r)(ha:PE X a ta)(D:PE X b tb):PE X (.BinOp a op b pos) (tOp r ta tb):=by
 intro pins s σ H Q I h
 exact wpAny_BinOp (WD ha D I h λv u s2 x y H2 W Y Z q=>B pins s2 σ H2 x y v u Q W Y Z q)
theorem Zi{op:UnaryOp}{r:V->Hp->VK->Prop}(B:UnR X (unaryOp op) r)(ha:PE X a ta):PE X (.UnaryOp op a pos) (tUn r ta):=by
 intro pins s σ H Q I h
 exact UnaryOp_ (thn (ha pins s σ H _ I h) λv s1 ⟨x,H1,Y,Z,q1⟩=>B pins s1 σ H1 x v Q Y Z q1)
theorem opI{f:Value->Value->Sem Value}{C:Int->Int->Prop}{g:Int->Int->Int}
 (rule:∀(i j:Int)(t u:Tok)(s:Shared)(Q:Value->Shared->Prop)(E:Value->Shared->Prop),C i j->Q (.int (g i j) s.toks) {s with toks:=s.toks+1}->wpAny (model X.prog X.w) X.A (f (.int i t) (.int j u)) Q E s) :
 OpR X f (rI C λi j=>.int (g i j)):=by
 intro pins s σ H x y v u Q I Y Z h
 obtain⟨i,j,rfl,rfl,W,q⟩:=h
 obtain⟨t,rfl⟩:=Y
 obtain⟨t',rfl⟩:=Z
 exact rule i j t t' s _ _ W ⟨.int (g i j),H,I.tok _,⟨_,rfl⟩,q⟩
theorem Zj{f:Value->Value->Sem Value}{g:Int->Int->Int}
 (rule:∀(i j:Int)(t u:Tok)(s:Shared)(Q:Value->Shared->Prop)(E:Value->Shared->Prop),Q (.int (g i j) s.toks) {s with toks:=s.toks+1}->wpAny (model X.prog X.w) X.A (f (.int i t) (.int j u)) Q E s) :
 OpR X f (rI0 λi j=>.int (g i j)):=by
 intro pins s σ H x y v u Q I Y Z h
 obtain⟨i,j,rfl,rfl,q⟩:=h
 obtain⟨t,rfl⟩:=Y
 obtain⟨t',rfl⟩:=Z
 exact rule i j t t' s _ _ ⟨.int (g i j),H,I.tok _,⟨_,rfl⟩,q⟩
theorem R3{f:Value->Value->Sem Value}{g:Int->Int->Bool}
 (rule:∀(i j:Int)(t u:Tok)(s:Shared)(Q:Value->Shared->Prop)(E:Value->Shared->Prop),Q (.bool (g i j)) s->wpAny (model X.prog X.w) X.A (f (.int i t) (.int j u)) Q E s) :
 OpR X f (rI0 λi j=>.bl (g i j)):=by
 intro pins s σ H x y v u Q I Y Z h
 obtain⟨i,j,rfl,rfl,q⟩:=h
 obtain⟨t,rfl⟩:=Y
 obtain⟨t',rfl⟩:=Z
 exact rule i j t t' s _ _ ⟨.bl (g i j),H,I,rfl,q⟩
def WK(i j:Int):Prop:=0<=j/\j<=1000000/\i.natAbs<2^64
theorem eE:OpR X (binaryOp .Add) (rI0 λi j=>.int (i+j)):=Zj λ_ _ _ _ _ _ _ q=>add_int q
theorem wj:OpR X (binaryOp .Sub) (rI0 λi j=>.int (i-j)):=Zj λ_ _ _ _ _ _ _ q=>sub_int q
theorem oK:OpR X (binaryOp .Mod) (rI (λ_ j=>j≠0) λi j=>.int (i.fmod j)):=opI λ_ _ _ _ _ _ _ Z q=>mod_int' Z q
theorem WL:OpR X (binaryOp .Pow) (rI WK λi j=>.int (i^j.toNat)):=opI λ_ _ _ _ _ _ _ Z q=>pow_int_small Z.1 Z.2.1 Z.2.2 q
theorem unI{f:Value->Sem Value}{g:Int->Int}
 (rule:∀(i:Int)(t:Tok)(s:Shared)(Q:Value->Shared->Prop)(E:Value->Shared->Prop),Q (.int (g i) s.toks) {s with toks:=s.toks+1}->wpAny (model X.prog X.w) X.A (f (.int i t)) Q E s) :
 UnR X f (rU λi=>.int (g i)):=by
 intro pins s σ H x v Q I Z h
 obtain⟨i,rfl,q⟩:=h
 obtain⟨t,rfl⟩:=Z
 exact rule i t s _ _ ⟨.int (g i),H,I.tok _,⟨_,rfl⟩,q⟩
theorem WM:UnR X (unaryOp .USub) (rU λi=>.int (-i)):=unI λ_ _ _ _ _ q=>neg_int q
end
section
variable{X:Cx}{a b c:Expr}{ta tb tc:TE}{pos:Pos}
theorem Jj:OpR X (compareOp .Lt) (rI0 λi j=>.bl (decide (i<j))):=R3 λ_ _ _ _ _ _ _ q=>lt_int q
theorem nM:OpR X (compareOp .LtE) (rI0 λi j=>.bl (decide (i<=j))):=R3 λ_ _ _ _ _ _ _ q=>le_int q
theorem Bc:OpR X (compareOp .Gt) (rI0 λi j=>.bl (decide (j<i))):=R3 λ_ _ _ _ _ _ _ q=>gt_int q
theorem Zk:OpR X (compareOp .GtE) (rI0 λi j=>.bl (decide (j<=i))):=R3 λ_ _ _ _ _ _ _ q=>ge_int q
theorem d7(b:Expr){op:CmpOp}(h:op ≠ .In:=by decide)(h2:op ≠ .NotIn:=by decide):behindInMarks op b=false:=by
 have Z:(op==CmpOp.In)=false:=by cases op<;>first|rfl|exact absurd rfl h
 have e2:(op==CmpOp.NotIn)=false:=by cases op<;>first|rfl|exact absurd rfl h2
 cases b<;>simp[behindInMarks,Z,e2]
theorem R5{r:R2}(B:OpR X (compareOp op) r)(ha:PE X a ta)(D:PE X b tb)(hm:behindInMarks op b=false):PE X (.Compare a [op] [b] pos) (tOp r ta tb):=by
 intro pins s σ H Q I h
 exact wpAny_Compare1 (WD ha D I h λv u s2 x y H2 W Y Z q=>B pins s2 σ H2 x y v u Q W Y Z q) hm
def Vs(t:TE):TT:=λσ H Q=>t σ H λx H'=>∃k,x = .bl k/\Q k H'
theorem R6{r:R2}(B:OpR X (compareOp op) r)(ha:PE X a ta)(D:PE X b tb)(hm:behindInMarks op b=false):PT X (.Compare a [op] [b] pos) (Vs (tOp r ta tb)):=by
 intro pins s σ H Q I h
 refine wpAny_isTrue_Compare1 (thn (ha pins s σ H _ I h) λv s1 ⟨x,H1,S,W,q1⟩=>thn (D pins s1 σ H1 _ S q1) λu s2 ⟨y,H2,T,Y,q2⟩=>
  thn (B pins s2 σ H2 x y v u _ T W Y q2) λc s3 ⟨z,R,U,Z,k,e,V⟩=>?_) hm
 subst e
 cases Z
 exact ay ⟨R,U,V⟩
noncomputable def Ng(r r':R2)(ta tb tc:TE):TE:=λσ H Q=>ta σ H λx H1=>tb σ H1 λy H2=>r x y H2 λz Z=>∃k,z = .bl k /\
 (if k=true then tc σ Z λY X=>r' y Y X Q else Q (.bl false) Z)
theorem Nh{r r':R2}(D:OpR X (compareOp op) r)(B:OpR X (compareOp op') r')(ha:PE X a ta)(hb:PE X b tb)(J:PE X c tc)
 (hm:lastMarks [op,op'] [b,c]=false:=by with_unfolding_all rfl):PE X (.Compare a [op,op'] [b,c] pos) (Ng r r' ta tb tc):=by
 intro pins s σ H Q I h
 refine Compare_chain (thn (ha pins s σ H _ I h) λv s1 ⟨x,H1,K,O,q1⟩=>chain_link (thn (hb pins s1 σ H1 _ K q1) λu s2 ⟨y,H2,L,Z,q2⟩=>
  thn (D pins s2 σ H2 x y v u _ L O Z q2) λd s3 ⟨z,V,W,P,k,e,Y⟩=>?_)) hm
 subst e
 cases P
 refine ay ?_
 cases k with
 |false=>exact ite_ff ⟨.bl false,V,W,rfl,Y⟩
 |true=>exact ite_tt (chain_last (thn (J pins s3 σ V _ W Y) λT S ⟨U,G,M,R,N⟩=>B pins S σ G y U u T Q M Z R N))
theorem Ni{r r':R2}(D:OpR X (compareOp op) r)(B:OpR X (compareOp op') r')(ha:PE X a ta)(hb:PE X b tb)(J:PE X c tc)
 (hm:lastMarks [op,op'] [b,c]=false:=by with_unfolding_all rfl):PT X (.Compare a [op,op'] [b,c] pos) (Vs (Ng r r' ta tb tc)):=by
 intro pins s σ H Q I h
 refine isTrue_chain (thn (ha pins s σ H _ I h) λv s1 ⟨x,H1,A,N,q1⟩=>test_link (thn (hb pins s1 σ H1 _ A q1) λu s2 ⟨y,H2,C,Z,q2⟩=>
  thn (D pins s2 σ H2 x y v u _ C N Z q2) λd s3 ⟨z,V,W,O,k,e,Y⟩=>?_)) hm
 subst e
 cases O
 refine ay ?_
 cases k with
 |false=>
  obtain⟨p,G,K⟩:=Y
  cases G
  exact ite_ff ⟨V,W,K⟩
 |true=>
  refine ite_tt (test_last (thn (J pins s3 σ V _ W Y) λT S ⟨U,t,E,P,L⟩=>thn (B pins S σ t y U u T _ E Z P L) λo q ⟨z2,w,F,R,k2,e2,M⟩=>?_))
  subst e2
  cases R
  exact ay ⟨w,F,M⟩
theorem wu:(sizeLine:Nat)<2^63:=by rw[c_];decide
theorem vals1{x:V}(r:Vals [x] us):∃u,us=[u]/\RelV x u:=by
 cases r with
 |cons Y Z=>cases Z;exact⟨_,rfl,Y⟩
theorem vals2{x y:V}(r:Vals [x,y] us):∃u B,us=[u,B]/\RelV x u/\RelV y B:=by
 cases r with
 |cons W X=>
  cases X with
  |cons Y Z=>cases Z;exact⟨_,_,rfl,W,Y⟩
theorem Bd(B:X.calm=true):lU X (.builtin "max") (λxs H Q=>∃i j,xs=[.int i,.int j]/\Q (.int (if j>i then j else i)) H):=by
 intro pins s σ H xs us Q I r h
 obtain⟨i,j,rfl,q⟩:=h
 obtain⟨u,Y,rfl,⟨t,rfl⟩,⟨t',rfl⟩⟩:=vals2 r
 refine max_two_ints (I.ok.hd B) λh' tk k=>⟨_,H,I.kept k,?_,q⟩
 by_cases Z:j>i
 ·rw[if_pos Z,if_pos Z];exact⟨_,rfl⟩
 ·rw[if_neg Z,if_neg Z];exact⟨_,rfl⟩
theorem KJ(B:X.calm=true):lU X (.builtin "min") (λxs H Q=>∃i j,xs=[.int i,.int j]/\Q (.int (if j<i then j else i)) H):=by
 intro pins s σ H xs us Q I r h
 obtain⟨i,j,rfl,q⟩:=h
 obtain⟨u,Y,rfl,⟨t,rfl⟩,⟨t',rfl⟩⟩:=vals2 r
 refine min_two_ints (I.ok.hd B) λh' tk k=>⟨_,H,I.kept k,?_,q⟩
 by_cases Z:j<i
 ·rw[if_pos Z,if_pos Z];exact⟨_,rfl⟩
 ·rw[if_neg Z,if_neg Z];exact⟨_,rfl⟩
theorem KN:lU X (.type "int") (λxs H Q=>(∃i,xs=[.int i]/\Q (.int i) H)\/∃k,xs=[.bl k]/\Q (.int (if k then 1 else 0)) H):=by
 intro pins s σ H xs us Q I r h
 rcases h with⟨i,rfl,q⟩|⟨k,rfl,q⟩
 ·obtain⟨u,rfl,t,rfl⟩:=vals1 r
  exact call_int_int ⟨.int i,H,I,⟨_,rfl⟩,q⟩
 ·obtain⟨u,rfl,Z⟩:=vals1 r
  cases Z
  exact call_int_bool ⟨.int (if k then 1 else 0),H,I.tok _,⟨_,rfl⟩,q⟩
end
end L2
namespace L2
open PySem PySem.Spec PyProof.Rows
structure ObjM(h:Heap)(x dx C:Addr)(mA:Str->Option Value):Prop where
 obj:h.get? x=some (PySem.W.instObj C dx)
 ns:h.Ns1 dx mA
 ne:dx≠x
theorem KQ{dx:Addr}{mA:Str->Option Value}(n:h.Ns1 dx mA):∃od,h.get? dx=some od/\∀name,PySem.W.lookIn name od=some (mA name):=by
 obtain⟨o,es,ep,X,hd,V,_,hm⟩:=n
 refine⟨o,X,λname=>?_⟩
 have e:=hm name
 unfold nsFind findBy at e
 rw[<-Array.find?_toList]at e
 unfold PySem.W.lookIn
 rw[hd]
 dsimp only
 split
 ·rename_i y q
  rw[q]at e
  exact congrArg some e
 ·rename_i q
  rw[q]at e
  have a:es.toList.any (·.refKey)=false:=by
   rw[List.any_eq_false]
   intro y Y
   obtain⟨z,t,Z⟩:=V y (Array.mem_toList_iff.mp Y)
   simp[DictEntry.refKey,Z]
  have U:¬es.toList.any (·.refKey)=true:=by rw[a];exact aY
  rw[if_neg U]
  exact congrArg some e
theorem ObjM.look{x dx C:Addr}{mA:Str->Option Value}(I:ObjM h x dx C mA):∃od,PySem.W.InstAt h x (PySem.W.instObj C dx) C (some od)/\∀name,PySem.W.lookIn name od=some (mA name):=
 let⟨od,Z,Y⟩:=KQ I.ns
 ⟨od,⟨I.obj,rfl,rfl,Z⟩,Y⟩
section
variable{prog:Program}{w:World}{A:Around}{E:Value->Shared->Prop}{s:Shared}{K:PySem.W.Frag}{x dx C f:Addr}{mA:Str->Option Value}{name:Str}{v:Value}
end
theorem v9.some_of{o:Option Value}(r:v9 (some v) o):∃u,o=some u/\RelV v u:=by
 cases o with
 |none=>exact(show False from r).elim
 |some u=>exact⟨u,rfl,r⟩
section
variable{P:Program}{w:World}{H H':Hp}{h h':Heap}{a C dx:Addr}{fs fs':List (Str×V)}
theorem R7(hok:HOk P w H h)(e:H a=some (.ins C dx fs)):∃mA,ObjM h a dx C mA/\(∀f,v9 (fs.lookup f) (mA f))/\PySem.Within mA (fs.map (·.1))/\fs.length<=1000/\H dx=some (.own a):=by
 obtain⟨d,z,ne,Z,mA,n,r,q⟩:=(show gY P w H h a (.ins C dx fs)from hok a _ e)
 exact⟨mA,⟨Z,n,ne⟩,r,q,z,d⟩
end
structure Cls(K:PySem.W.Frag)(C:Addr):Prop where
 pg:PySem.W.plainGet K C Str.empty=true
 hd:PySem.W.hasDictIn K C=true
 po:PySem.W.plainOver K C=true
 sa:PySem.W.findIn K (.ref C) "__setattr__"=some (some (.builtin "object.__setattr__"))
theorem Cls.get{C:Addr}(c:Cls K C)(f:Str):PySem.W.plainGet K C f=true:=c.pg
structure Con(K:PySem.W.Frag)(C:Addr)(f:Str)(v:V)(u:Value):Prop where
 at_:PySem.W.findIn K (.ref C) f=some (some u)
 rel:RelV v u
 get:PySem.W.specialIn K u "__get__"=some none
 cp:PySem.W.copiedNames.contains f=false
structure Meth(K:PySem.W.Frag)(C:Addr)(m:Str)(f:Addr):Prop where
 at_:PySem.W.findIn K (.ref C) m=some (some (.ref f))
 fn:PySem.W.isFn K (.ref f)=true
 kp:PySem.W.keepIn K (.ref f)=true
section
variable{X:Cx}{pins:List (Addr×Obj)}{σ:St}{H:Hp}{s:Shared}{a C dx:Addr}{fs:List (Str×V)}{f:Str}{v:V}{A:Around}{E:Value->Shared->Prop}
end
section
variable{X:Cx}{o e value:Expr}{f:Str}{pos pos' tpos:Pos}{ta tv:TE}
end
section
variable{X:Cx}{pins:List (Addr×Obj)}{σ:St}{H:Hp}{s:Shared}{A:Around}{E:Value->Shared->Prop}{Q:Value->Shared->Prop}{c:Value}{b:Bool}
inductive TyOf(K:PySem.W.Frag)(H:Hp):V->Value->Prop where
 |non:TyOf K H .non (.type "NoneType")
 |bl (x:Bool):TyOf K H (.bl x) (.type "bool")
 |int (i:Int):TyOf K H (.int i) (.type "int")
 |str (x:Str):TyOf K H (.str x) (.type "str")
 |flt (x:UInt64):TyOf K H (.flt x) (.type "float")
 |lst {a:Addr} {xs:List V} (e:H a=some (.lst xs)):TyOf K H (.ref a) (.type "list")
 |frz {a:Addr} {o:Obj} {xs:List V} (e:H a=some (.frz o (.lst xs))):TyOf K H (.ref a) (.type "list")
 |tup {a:Addr} {xs:List V} (e:H a=some (.tup xs)):TyOf K H (.ref a) (.type "tuple")
 |dK {a:Addr} {kvs:List (Key×V)} (e:H a=some (.dK kvs)):TyOf K H (.ref a) (.type "dict")
 |dT {a:Addr} {kvs:List (List Key×V)} (e:H a=some (.dT kvs)):TyOf K H (.ref a) (.type "dict")
 |ins {a C dx:Addr} {fs:List (Str×V)} (e:H a=some (.ins C dx fs)) (cl:Cls K C) (ha:PySem.W.findIn K (.ref C) "__class__"=some (some (.builtin "object.__class__")))
  (hn:PySem.W.specialIn K (.builtin "object.__class__") "__get__"=some (some (.builtin "getset_descriptor.__get__"))) (htk:PySem.W.takesIn K (.builtin "object.__class__")=some true)
  (hm:PySem.W.mroIn K C (.type "object")=some true):TyOf K H (.ref a) (.ref C)
theorem Bf{x:V}{u t:Value}(I:Inv X pins σ H s)(B:RelV x u)(ty:TyOf X.K H x t)(e:PySem.W.kitOne X.K t c=some b)(h:∀tk,Q (.bool b) {s with toks:=tk}):
 wpAny (model X.prog X.w) A (call (.builtin "isinstance") [u,c]) Q E s:=by
 cases ty with
 |non=>cases(show u=Value.none from B);exact PySem.W.kia_one PySem.W.kitx_none I.kIn True.intro e (λz=>nomatch z) h
 |bl y=>cases(show u=Value.bool y from B);exact PySem.W.kia_one PySem.W.kitx_bool I.kIn True.intro e (λz=>nomatch z) h
 |int i=>obtain⟨t,q⟩:=(show ∃t,u=Value.int i t from B);cases q;exact PySem.W.kia_one PySem.W.kitx_int I.kIn True.intro e (λz=>nomatch z) h
 |str y=>obtain⟨t,q⟩:=(show ∃t,u=Value.str y t from B);cases q;exact PySem.W.kia_one PySem.W.kitx_str I.kIn True.intro e (λz=>nomatch z) h
 |flt y=>obtain⟨t,q⟩:=(show ∃t,u=Value.float y t from B);cases q;exact PySem.W.kia_one PySem.W.kitx_float I.kIn True.intro e (λz=>nomatch z) h
 | @lst a xs Z=>
  cases(show u=Value.ref a from B)
  obtain⟨_,_,n,_,h1⟩:=(show gY X.prog X.w H s.heap a (.lst xs)from I.hok a _ Z)
  exact PySem.W.kia_one PySem.W.kitx_list I.kIn ⟨_,h1,rfl⟩ e (λz=>nomatch z) h
 | @frz a Y xs Z=>
  cases(show u=Value.ref a from B)
  obtain⟨_,_,_,n,_,h1⟩:=(show gY X.prog X.w H s.heap a (.frz Y (.lst xs))from I.hok a _ Z)
  exact PySem.W.kia_one PySem.W.kitx_list I.kIn ⟨_,h1,rfl⟩ e (λz=>nomatch z) h
 | @tup a xs Z=>
  cases(show u=Value.ref a from B)
  obtain⟨_,_,_,p⟩:=(show gY X.prog X.w H s.heap a (.tup xs)from I.hok a _ Z)
  obtain⟨o,h1,h2,_⟩:=p
  exact PySem.W.kia_one PySem.W.kitx_tuple I.kIn ⟨o,h1,h2⟩ e (λz=>nomatch z) h
 | @dK a kvs Z=>
  cases(show u=Value.ref a from B)
  obtain⟨_,_,vs,_,p⟩:=(show gY X.prog X.w H s.heap a (.dK kvs)from I.hok a _ Z)
  obtain⟨o,es,ep,h1,h2,_⟩:=p
  exact PySem.W.kia_one PySem.W.kitx_dict I.kIn ⟨o,h1,h2.1⟩ e (λz=>nomatch z) h
 | @dT a kvs Z=>
  cases(show u=Value.ref a from B)
  obtain⟨_,_,xs,_,o,es,ep,h1,h2,_⟩:=(show gY X.prog X.w H s.heap a (.dT kvs)from I.hok a _ Z)
  exact PySem.W.kia_one PySem.W.kitx_dict I.kIn ⟨o,h1,h2.1⟩ e (λz=>nomatch z) h
 | @ins a C dx fs Z cl ha hn htk hm=>
  cases(show u=Value.ref a from B)
  obtain⟨mA,O,_⟩:=R7 I.hok Z
  obtain⟨od,J,_⟩:=O.look
  exact PySem.W.kia_one (PySem.W.kitx_own (cl.get _) cl.hd ha hn htk hm) I.kIn J e (λz=>nomatch z) h
end
end L2
variable{j:Nat}{mg:Str->Option Value}{base:Heap}{f:Addr}{fd:FuncData}{ps:List Str}{vs:List L2.V}{cd pm ct oc:Value}{an od:Option Addr}
namespace L2
open PySem PySem.Spec PyProof.Rows
structure Room(k:Nat)(A:Around):Prop where
 hd:A.handled=none
 dp:A.depth+3*k+5<recursionLimit
 un:A.units+16*k+200<cLine
theorem Room.mono{k:Nat}(r:Room k A)(h:j<=k):Room j A:=⟨r.hd,by have:=r.dp;omega,by have:=r.un;omega⟩
theorem Room.deeper{k:Nat}(r:Room (k+1) A)(env:Env):Room k (A.deeper env):=
 ⟨r.hd,by have:=r.dp;show A.depth+1+3*k+5<_;omega,by have:=r.un;show A.units+3+16*k+200<_;omega⟩
theorem Room.depth{k:Nat}(r:Room k A):A.depth<recursionLimit:=by have:=r.dp;omega
theorem Room.units{k:Nat}(r:Room k A):A.units+64<cLine:=by have:=r.un;omega
def ag0:TA:=λ_ H Q=>Q [] H
def Zm(ta:TE)(tr:TA):TA:=λσ H Q=>ta σ H λx H1=>tr σ H1 λxs H2=>Q (x::xs) H2
section
variable{X:Cx}{e:Expr}{es:List Expr}{te:TE}{t:TA}{pos:Pos}
theorem n8:PA X [] ag0:=λ_ _ _ _ H Q I h=>bo ⟨[],H,I,.nil,h⟩
theorem jy(ha:PE X e te)(B:PA X es t)(hs:starEach (e::es) X.env=(false,eval e X.env)::starEach es X.env:=by rfl):PA X (e::es) (Zm te t):=by
 intro pos pins s σ H Q I h
 rw[hs]
 show wpAny _ _ (spliced ((false,eval e X.env)::backTo pos (starEach es X.env))) _ _ s
 refine a8 (thn (ha pins s σ H _ I h) λu s1 ⟨x,H1,V,Y,q1⟩=>?_)
 exact thn (B pos pins s1 σ H1 _ V q1) λus s2 ⟨xs,H2,W,Z,q2⟩=>⟨x::xs,H2,W,.cons Y Z,q2⟩
def ag1(t:TA):TE:=λσ H Q=>t σ H λxs H1=>xs.length<=sizeLine/\∀p,H1 p=none->Q (.ref p) (upd H1 p (.tup xs))
def ag2(t:TA):TE:=λσ H Q=>t σ H λxs H1=>xs.length<=sizeLine/\∀p,H1 p=none->Q (.ref p) (upd H1 p (.lst xs))
theorem WQ{x1}(h:PA X es t):PE X (.Tuple es x1 pos) (ag1 t):=by
 intro pins s σ H Q I Y
 refine wpAny_Tuple_spliced (thn (h pos pins s σ H _ I Y) λus s1 ⟨xs,H1,Z,r,z,q⟩=>⟨by rw[<-r.length];exact z,?_⟩)
 have W:H1 s1.heap.objs.size=none:=Z.hok.fresh (aL _)
 refine⟨.ref s1.heap.objs.size,upd H1 s1.heap.objs.size (.tup xs),Z.laid (t':=s1.toks) (λb u e=>ad _ e) (aL _) ?_,rfl,q _ W⟩
 exact⟨z,us,r,⟨_,ag _ rfl,rfl,_,rfl⟩⟩
theorem Nj(h:PA X es t):PE X (.List es pos) (ag2 t):=by
 intro pins s σ H Q I Y
 refine wpAny_List_spliced (thn (h pos pins s σ H _ I Y) λus s1 ⟨xs,H1,Z,r,z,q⟩=>⟨by rw[<-r.length];exact z,?_⟩)
 have W:H1 s1.heap.objs.size=none:=Z.hok.fresh (aL _)
 refine⟨.ref s1.heap.objs.size,upd H1 s1.heap.objs.size (.lst xs),Z.laid (t':=s1.toks) (λb u e=>ad _ e) (aL _) ?_,rfl,q _ W⟩
 exact⟨z,us,0,r,ag _ rfl⟩
end
abbrev Sp:=List V->Hp->VK->XK->Prop
abbrev CXT:=List Env->Hp->Shared->XK->Value->Shared->Prop
structure Env0(P:Program)(w:World)(K:PySem.W.Frag)(mg:Str->Option Value)(base:Heap)(A:Around)(outer:List Env)(s:Shared)(H:Hp):Prop where
 frames:A.frames=some outer
 mod:Mod K mg base
 bs:∀b o,base.get? b=some o->s.heap.get? b=some o/\H b=none
 bsz:base.objs.size<=s.heap.objs.size
 funs:s.heap.FunFrames base outer
 frf:∀b∈frs outer,H b=none
 hok:HOk P w H s.heap
 bare:AllBare s.gens
def CE(outer:List Env)(P:Program)(w:World)(H:Hp)(s:Shared)(Q:VK)(u:Value)(s':Shared):Prop:=
 ∃v H',s'.os=s.os/\AllBare s'.gens/\Un (frs outer) [] H H' s.heap s'.heap/\HOk P w H' s'.heap/\RelV v u/\Q v H'
def CR(CX:CXT)(outer:List Env)(P:Program)(w:World)(H:Hp)(s:Shared)(Q:VK)(E:XK)(r:Result)(s':Shared):Prop:=
 match r with
 | .ok (.ret u)=>CE outer P w H s Q u s'
 | .ok _=>False
 | .error e=>CX outer H s E e s'
structure FnOk(P:Program)(w:World)(K:PySem.W.Frag)(mg:Str->Option Value)(base:Heap)(CX:CXT)(k:Nat)(f:Addr)(fd:FuncData)(ps:List Str)(sp:Sp):Prop where
 len:∀vs H Q E,sp vs H Q E->vs.length=ps.length
 run:∀(A:Around)(outer:List Env)(s:Shared)(H:Hp)(args:Args)(us:List Value)(vs:List V)(Q:VK)(E:XK),Room k A->Env0 P w K mg base A outer s H->BindsTo s fd args (ps.zip us)->Vals vs us->sp vs H Q E ->
  codeAny (model P w) A (.call (.ref f) args) (CR CX outer P w H s Q E) s
theorem FnOk.mono{CX:CXT}{k:Nat}{sp:Sp}(F:FnOk P w K mg base CX j f fd ps sp)(h:j<=k):
 FnOk P w K mg base CX k f fd ps sp:=⟨F.len,λA outer s H args us vs Q E Z=>F.run A outer s H args us vs Q E (Z.mono h)⟩
theorem FnOk.imp{CX:CXT}{k:Nat}{sp B:Sp}(F:FnOk P w K mg base CX k f fd ps sp)
 (h:∀vs H Q E,B vs H Q E->sp vs H Q E):FnOk P w K mg base CX k f fd ps B:=
 ⟨λvs H Q E q=>F.len vs H Q E (h _ _ _ _ q),λA outer s H args us vs Q E Y X W Z hs=>F.run A outer s H args us vs Q E Y X W Z (h _ _ _ _ hs)⟩
section
variable{X:Cx}{pins:List (Addr×Obj)}{σ:St}{H:Hp}{s s':Shared}
theorem Inv.env0(I:Inv X pins σ H s):Env0 X.prog X.w X.K X.mg X.base X.A X.stack s H:=
 ⟨I.ok.frames,I.ok.mod,I.bs,bF I.ok.bsz I.sz,I.stack,I.stkFree,I.hok,I.bare⟩
theorem Inv.after{Q:VK}{u:Value}(I:Inv X pins σ H s)(h:CE X.stack X.prog X.w H s Q u s'):EP X pins σ Q u s':=by
 obtain⟨v,H',os,bare,un,hok,r,q⟩:=h
 obtain⟨Y,g,d,t,Z⟩:=s'
 obtain rfl:Z=s.os:=os
 exact⟨v,H',I.call (h':=Y) (g':=g) (d':=d) (t':=t) (ch:=[]) un hok bare (λb z=>absurd z (by simp)),r,q⟩
end
def Vt(sp:Sp)(dvs:List V)(E:XK)(t:TA):TE:=λσ H Q=>t σ H λvs H1=>sp (vs++dvs) H1 Q E
def Binds(K:PySem.W.Frag)(fd:FuncData)(ps:List Str)(ds:List Value):Prop:=
 ∀(s:Shared)(us:List Value),K.In s.heap->(us++ds).length=ps.length->BindsTo s fd ⟨us,[]⟩ (ps.zip (us++ds))
theorem Binds.all(h:∀us:List Value,us.length=ps.length->bindArgs fd ⟨us,[]⟩=pure (ps.zip us)):Binds K fd ps []:=λs us _ Z=>by
 rw[cW]at Z ⊢
 exact .of_eq (h us Z)
def Passes(CX:CXT)(X:Cx)(E:XK):Prop:=∀(pins:List (Addr×Obj))(σ:St)(H:Hp)(s:Shared)(e:Value)(s':Shared),Inv X pins σ H s->CX X.stack H s E e s'->X.xe e s'
section
variable{X:Cx}{CX:CXT}{k:Nat}{f C:Addr}{fd:FuncData}{ps:List Str}{sp:Sp}{dvs:List V}{ds:List Value}{E:XK}{x m:Str}{p pos apos:Pos}{e o:Expr}{es:List Expr}{ta:TE}{t:TA}
theorem WR{σ:St}{Q:VK}(F:FnOk X.prog X.w X.K X.mg X.base CX k f fd ps sp)(D:Room k X.A)(J:Binds X.K fd ps ds)(hd:Vals dvs ds)(B:Passes CX X E)
 (I:Inv X pins σ H s) (r:Vals vs us) (h:sp (vs++dvs) H Q E):wpAny (model X.prog X.w) X.A (call (.ref f) us) (EP X pins σ Q) X.xe s:=by
 have Y:Vals (vs++dvs) (us++ds):=r.append hd
 have W:(us++ds).length=ps.length:=by rw[<-Y.length];exact F.len _ _ _ _ h
 refine wpAny_call (dP (F.run X.A X.stack s H ⟨us,[]⟩ (us++ds) (vs++dvs) Q E D I.env0 (J s us I.kIn W) Y h) λr s' Z=>?_)
 cases r with
 |error e=>exact B pins σ H s e s' I Z
 |ok fl=>
  cases fl with
  |ret u=>exact I.after Z
  |next=>exact False.elim Z
  |brk=>exact False.elim Z
  |cont=>exact False.elim Z
theorem R8(F:FnOk X.prog X.w X.K X.mg X.base CX k f fd ps sp)(O:Room k X.A)(hg:Gl X x)(hm:X.mg x=some (.ref f))(Y:PySem.W.keepIn X.K (.ref f)=true)(hb:Binds X.K fd ps ds)(hd:Vals dvs ds)(J:Passes CX X E)
 (ha:PA X (e::es) t) (D:(x==("__debug__":Str))=false:=by decide) (he:starEach (e::es) X.env=(false,eval e X.env)::starEach es X.env:=by rfl) (B:(backTo pos (starEach es X.env)).any (·.1)=false:=by rfl) :
 PE X (.Call (.Name x p) (e::es) [] pos) (Vt sp dvs E t):=by
 intro pins s σ H Q I h
 refine ax (Jg I hg hm ?_ D)
 refine PySem.W.callWith_K (h₀:=X.base) I.ok.mod.kin Y (thn (ha pos pins s σ H _ I h) λus s1 ⟨vs,H1,Z,r,q⟩=>⟨Z.kIn,?_⟩) he B
 exact WR F O hb hd J Z r q
structure Mk(K:PySem.W.Frag)(C f:Addr):Prop where
 makes:PySem.W.makesIn K C=true
 init:PySem.W.findIn K (.ref C) "__init__"=some (some (.ref f))
 fn:PySem.W.isFn K (.ref f)=true
 kp:PySem.W.keepIn K (.ref C)=true
end
section
variable{X:Cx}{CX:CXT}{k:Nat}{f C:Addr}{fd:FuncData}{ps ks:List Str}{sp:Sp}{E:XK}{x m:Str}{p pos apos kpos:Pos}{e o:Expr}{es:List Expr}{kws:List Keyword}{te ta:TE}{t tk:TA}{nm:Option Str}
structure KBinds(K:PySem.W.Frag)(fd:FuncData)(ps ks:List Str)(g:List Value->List Value->List Value)(gV:List V->List V->List V):Prop where
 to:∀(s:Shared)(us ws:List Value),K.In s.heap->(g us ws).length=ps.length->BindsTo s fd ⟨us,ks.zip ws⟩ (ps.zip (g us ws))
 rel:∀{vs:List V}{us:List Value}{zs:List V}{ws:List Value},Vals vs us->Vals zs ws->Vals (gV vs zs) (g us ws)
variable{g:List Value->List Value->List Value}{gV:List V->List V->List V}
end
structure FnScope(N P:List Str)(sc:Scope):Prop where
 kind:sc.kind = .function
 co:sc.isCoroutine=false
 gen:sc.isGenerator=false
 nd:N.Nodup
 pre:N.take P.length=P
 par:∀x∈P,sc.names.lookup x=some .local\/sc.names.lookup x=some .cell
 nofree:∀y∈sc.names,y.2 ≠ .free
theorem Bg{kindOf:Str->Option NameKind}:∀{binds:List (Str×Value)}{m:Str->Option Value},(∀v,(x,v)∉binds)->bindL kindOf binds m x=m x
 |[],_,_=>rfl
 | (n,v)::r,m,h=>by
  unfold bindL
  rw[Bg λw hw=>h w (aK _ hw)]
  split
  ·have:x≠n:=by rintro rfl;exact h v aJ
   simp[this]
  ·rfl
theorem Bh{kindOf:Str->Option NameKind}:∀{binds:List (Str×Value)}{m:Str->Option Value},(∀v,(x,v)∉binds)->bindC kindOf binds m x=m x
 |[],_,_=>rfl
 | (n,v)::r,m,h=>by
  unfold bindC
  rw[Bh λw hw=>h w (aK _ hw)]
  split
  ·rfl
  ·have:x≠n:=by rintro rfl;exact h v aJ
   simp[this]
theorem Bj{kindOf:Str->Option NameKind}{v:Value}:∀{P:List Str}{vs:List Value}{i:Nat}{m:Str->Option Value},P.Nodup->P[i]? = some x->vs[i]? = some v->kindOf x=some .local ->
 bindL kindOf (P.zip vs) m x=some v
 |[],_,_,_,_,h,_,_=>by simp at h
 |_::_,[],_,_,_,_,h,_=>by simp at h
 |p::P,w::vs,0,m,nd,h1,h2,Z=>by
  simp at h1 h2;subst h1;subst h2
  show bindL kindOf ((p,w)::P.zip vs) m p=_
  unfold bindL
  rw[Bg λv Y=>(eO.mp nd).1 (nY Y).1,if_pos Z]
  simp
 |p::P,w::vs,i+1,m,nd,h1,h2,Z=>by
  show bindL kindOf ((p,w)::P.zip vs) m x=_
  unfold bindL
  exact Bj (i:=i) (eO.mp nd).2 (by simpa using h1) (by simpa using h2) Z
theorem Bk{kindOf:Str->Option NameKind}{v:Value}:∀{P:List Str}{vs:List Value}{i:Nat}{m:Str->Option Value},P.Nodup->P[i]? = some x->vs[i]? = some v->kindOf x≠some .local ->
 bindC kindOf (P.zip vs) m x=some v
 |[],_,_,_,_,h,_,_=>by simp at h
 |_::_,[],_,_,_,_,h,_=>by simp at h
 |p::P,w::vs,0,m,nd,h1,h2,Z=>by
  simp at h1 h2;subst h1;subst h2
  show bindC kindOf ((p,w)::P.zip vs) m p=_
  unfold bindC
  rw[Bh λv Y=>(eO.mp nd).1 (nY Y).1,if_neg Z]
  simp
 |p::P,w::vs,i+1,m,nd,h1,h2,Z=>by
  show bindC kindOf ((p,w)::P.zip vs) m x=_
  unfold bindC
  exact Bk (i:=i) (eO.mp nd).2 (by simpa using h1) (by simpa using h2) Z
def start(N:List Str)(vs:List V):St:=vs.map some++aQ (N.length-vs.length) none
noncomputable def Fe(CX:CXT)(P:Program)(w:World)(K:PySem.W.Frag)(mg:Str->Option Value)(base:Heap)(N:List Str)(qual:Str)(scope:Scope)(f:Addr)(cd:Value)(A:Around)(outer:List Env)(s:Shared)(H:Hp)(E:XK):Cx where
 prog:=P
 w:=w
 K:=K
 mg:=mg
 base:=base
 A:=A.deeper (envOfC qual scope s.heap.objs.size f cd)
 N:=N
 s₀:=s
 H₀:=H
 env:=envOfC qual scope s.heap.objs.size f cd
 outer:=outer
 stack:=envOfC qual scope s.heap.objs.size f cd::outer
 ex:=[]
 calm:=true
 fn:=λ_=>true
 pn:=[]
 xe:=λe s'=>wpAny (model P w) (A.deeper (envOfC qual scope s.heap.objs.size f cd)) (leaving (envOfC qual scope s.heap.objs.size f cd) e) (λ_ Z=>CX outer H s E e Z) (λY Z=>CX outer H s E Y Z) s'
theorem Fg{sc:Scope}(h:sc.names.lookup x=some .cell):∃c,(cellsFrom n sc.names []).lookup x=some c:=by
 have q:=PySem.W.cellsFrom_some sc.names n [] (.inl h)
 exact Option.isSome_iff_exists.mp q
theorem KR{CX:CXT}{qual:Str}{scope:Scope}{outer:List Env}{s1:Shared}{E:XK}
 (S:FnScope N ps scope) (hd:A.handled=none) (B:Env0 P w K mg base A outer s H) (D:vs.length=ps.length) (r:Vals vs us)
 (x:InCallC s s.heap.objs.size (bindL (envOfC qual scope s.heap.objs.size f cd).kindOf (ps.zip us) λ_=>none) (cellsFrom (s.heap.objs.size+1) scope.names []) (bindC (envOfC qual scope s.heap.objs.size f cd).kindOf (ps.zip us) λ_=>none) s1) :
 Inv (Fe CX P w K mg base N qual scope f cd A outer s H E) [] (start N vs) H s1:=by
 have R:ps.length<=N.length:=by have:=congrArg pD S.pre;rw[bV]at this;omega
 obtain⟨h1,tk,rfl,U⟩:=x.done
 have Z:∀b:Addr,b∉(Fe CX P w K mg base N qual scope f cd A outer s H E).ex:=λb z=>absurd (show b∈([]:List Addr)from z) (by simp)
 refine⟨⟨B.mod,S.kind,rfl,rfl,aL _,λy z c h1 h2=>?_,λy Y=>?_,λy c _ h=>?_,λ_=>hd,Around.frames_deeper B.frames,.inr ⟨rfl,rfl⟩,λb z=>absurd z (Z b),B.bs,B.bsz,λb _ _=>Z b,λb z=>absurd z (Z b),B.funs,B.frf⟩,
  rfl,B.bare,Un.kept U,⟨_,x.toInCall.ns,λi y v h1 h2 Q=>?_⟩,λy c h=>⟨_,x.cell y c h⟩,B.hok.fresh (aL _),λy c h=>?_,λp W=>absurd (show p∈([]:List (Addr×Obj))from W) (by simp),B.hok.kept U,?_⟩
 ·exact name_of_addr x.apart (PySem.mem_of_lookup h1) (PySem.mem_of_lookup h2)
 ·have Y:scope.names.lookup y=some .cell\/scope.names.lookup y=some .free:=Y
  rcases Y with Y|Y
  ·exact Fg Y
  ·exact absurd rfl (S.nofree _ (PySem.mem_of_lookup Y))
 ·exact dW (x.above y c (PySem.mem_of_lookup h))
 ·have hi:i<vs.length:=by
   unfold start at h2
   by_cases hi:i<vs.length
   ·exact hi
   ·rw[bT (by simpa using hi)]at h2
    rw[fM]at h2
    split at h2<;>cases h2
  have ha:vs[i]? = some v:=by
   unfold start at h2
   rw[cg (by simpa using hi),bw]at h2
   cases e:vs[i]? with
   |none=>rw[e]at h2;cases h2
   |some a=>rw[e]at h2;cases h2;rfl
  obtain⟨u,V,T⟩:=r.get ha
  have W:ps[i]? = some y:=by
   rw[<-S.pre,iW (by omega)];exact h1
  have X:ps.Nodup:=by rw[<-S.pre];exact S.nd.sublist (List.take_sublist _ _)
  refine⟨u,T,?_⟩
  rcases S.par y (gG W)with k|k
  ·exact .inl ⟨k,Bj X W V k⟩
  ·obtain⟨c,e⟩:=Fg (n:=s.heap.objs.size+1) k
   refine .inr ⟨.inl k,c,e,?_⟩
   have q:=x.cell y c e
   rw[Bk X W V (by show scope.names.lookup y≠_;rw[k];decide)]at q
   exact q
 ·exact B.hok.fresh (dW (x.above y c (PySem.mem_of_lookup h)))
 ·unfold start
  show _=N.length
  rw[bh,aq,bM]
  omega
theorem Vu{CX:CXT}{k:Nat}{name qual:Str}{params:Arguments}{body:List Stmt}{scope:Scope}{dV kV doc cdv:Value}
 {osl:Array (Option Value)} {sp:Sp} (lk:K.lookup f=some ⟨oc,od,.func (PySem.W.fnOf name qual params body scope dV kV doc pm an cdv ct),osl⟩) (D:PySem.W.codeIn K cdv qual=true) (S:FnScope N ps scope)
 (len:∀vs H Q E,sp vs H Q E->vs.length=ps.length)
 (B:∀(A:Around)(outer:List Env)(s:Shared)(H:Hp)(vs:List V)(Q:VK)(E:XK),Room k (A.deeper (envOfC qual scope s.heap.objs.size f cdv))->sp vs H Q E ->
  ∃t,PSs (Fe CX P w K mg base N qual scope f cdv A outer s H E) body t/\t {nx:=λ_ H'=>Q .non H',rt:=Q} (start N vs) H) :
 FnOk P w K mg base CX (k+1) f (PySem.W.fnOf name qual params body scope dV kV doc pm an cdv ct) ps sp:=by
 refine⟨len,λA outer s H args us vs Q E R X z r Y=>?_⟩
 have F:=len _ _ _ _ Y
 have O:K.In s.heap:=X.mod.kin.keeps λb o e=>(X.bs b o e).1
 have T:s.heap.NoLimit:=X.mod.nolimit.keeps λb o e=>(X.bs b o e).1
 have Z:∀y∈ps.zip us,scope.names.lookup y.1=some .local\/(scope.names.lookup y.1=some .cell/\((cellsFrom (s.heap.objs.size+1) scope.names []).lookup y.1).isSome=true):=λ⟨n,v⟩ M=>by
  rcases S.par n (nY M).1 with q|q
  ·exact .inl q
  ·exact .inr ⟨q,PySem.W.cellsFrom_some _ _ _ (.inl q)⟩
 refine codeAny_call_function R.depth (O _ _ lk) rfl S.co S.gen rfl (PySem.W.codeRec_of O D) (z _ _ _ _ ?_)
 refine wpAny_newFunctionEnv_cells S.kind Z λenv C s1 x=>?_
 subst C
 refine⟨T.keeps x.toInCall.keep,codeAny_func ?_⟩
 obtain⟨t,L,G⟩:=B A outer s H vs Q E (R.deeper _) Y
 have I:Inv (Fe CX P w K mg base N qual scope f cdv A outer s H E) [] (start N vs) H s1:=KR S R.hd X F r x
 refine a6 (L [] s1 (start N vs) H _ I G) (λfl s' hs=>?_) λe s' hs=>hs
 have fin:∀{σ':St}{H':Hp}{v:V}{u:Value},Inv (Fe CX P w K mg base N qual scope f cdv A outer s H E) [] σ' H' s'->RelV v u->Q v H'->CE outer P w H s Q u s':=
  λ{σ' H' v u} J U q=>⟨v,H',J.os,J.bare,J.base,J.hok,U,q⟩
 cases fl with
 |ret u=>
  obtain⟨v,σ',H',J,U,q⟩:=hs
  exact fin J U q
 |next=>
  obtain⟨σ',H',J,q⟩:=hs
  exact fin (v:=V.non) (u:=Value.none) J rfl q
 |brk=>
  obtain⟨_,_,_,q⟩:=hs
  exact False.elim q
 |cont=>
  obtain⟨_,_,_,q⟩:=hs
  exact False.elim q
end L2
namespace L2
open PySem PySem.Spec PyProof.Rows
section
variable{X:Cx}{x:Str}{p pos:Pos}{e:Expr}{es:List Expr}{t:TA}{id T:String}{r:List V->Hp->VK->Prop}
def tCB(r:List V->Hp->VK->Prop)(t:TA):TE:=λσ H Q=>t σ H λvs H1=>r vs H1 Q
theorem nO(Y:lU X (.builtin id) r)(O:Gl X x)(hm:X.mg x=none)(J:bootBuiltins x=some (.builtin id))(ha:PA X (e::es) t)(hn:x≠"__name__" := by decide)(D:(x==("__debug__":Str))=false:=by decide)
 (W:starEach (e::es) X.env=(false,eval e X.env)::starEach es X.env:=by rfl) (B:(backTo pos (starEach es X.env)).any (·.1)=false:=by rfl):PE X (.Call (.Name x p) (e::es) [] pos) (tCB r t):=by
 intro pins s σ H Q I h
 refine ax (lR I O hm J ?_ hn D)
 exact PyProof.Rows.callWith_builtin1 (thn (ha pos pins s σ H _ I h) λus s1 ⟨vs,H1,V,Z,q1⟩=>Y pins s1 σ H1 vs us Q V Z q1) W B
theorem tZ(Y:lU X (.type T) r)(O:Gl X x)(hm:X.mg x=none)(J:bootBuiltins x=some (.type T))(ha:PA X (e::es) t)(hn:x≠"__name__" := by decide)(D:(x==("__debug__":Str))=false:=by decide)
 (W:starEach (e::es) X.env=(false,eval e X.env)::starEach es X.env:=by rfl) (B:(backTo pos (starEach es X.env)).any (·.1)=false:=by rfl):PE X (.Call (.Name x p) (e::es) [] pos) (tCB r t):=by
 intro pins s σ H Q I h
 refine ax (lR I O hm J ?_ hn D)
 exact PyProof.Rows.callWith_type1 (thn (ha pos pins s σ H _ I h) λus s1 ⟨vs,H1,V,Z,q1⟩=>Y pins s1 σ H1 vs us Q V Z q1) W B
end
end L2
variable{sl:Addr}{vl vu:Value}
namespace HT
open PySem PyProof.Rows
section
open PySem.SeqAt
open PySem.AutoSeq1 (wpAny_loadPart')
open PySem.MeetsSeq PySem.MeetsSeq2 PySem.MeetsSeq3
end
section
variable{prog:Program}{w:World}{A:Around}{E:Value->Shared->Prop}{s:Shared}
noncomputable def sIx(n d:Nat):Option Int->Nat
 |none=>d
 |some v=>if v<0 then(v+(n:Int)).toNat else min v.toNat n
theorem WT(n d:Nat)(hd:d<=n)(o:Option Int):sIx n d o<=n:=by
 cases o with
 |none=>exact hd
 |some v=>
  show(if v<0 then(v+(n:Int)).toNat else min v.toNat n)<=n
  by_cases Z:v<0
  ·rw[if_pos Z];omega
  ·rw[if_neg Z];exact p7 _ _
theorem Jk(v:Int)(n d:Nat):(if v<0 then max (v+(n:Int)) 0 else min v (n:Int))=((sIx n d (some v):Nat):Int):=by
 show(if v<0 then max (v+(n:Int)) 0 else min v (n:Int))=(((if v<0 then(v+(n:Int)).toNat else min v.toNat n):Nat):Int)
 by_cases Z:v<0
 ·simp only[if_pos Z];omega
 ·simp only[if_neg Z];omega
theorem Hz(lo hi:Option Int)(n:Nat):Builtin.Slice.sliceAdjust lo hi 1 (n:Int)=(((sIx n 0 lo:Nat):Int),((sIx n n hi:Nat):Int)):=by
 have h1:¬((1:Int)<0):=by omega
 unfold Builtin.Slice.sliceAdjust
 simp only[h1,if_false]
 refine Prod.ext ?_ ?_
 ·cases lo with
  |none=>rfl
  |some v=>exact Jk v n 0
 ·cases hi with
  |none=>rfl
  |some v=>exact Jk v n n
theorem uT(i j:Nat):Builtin.Slice.slicePlaces (i:Int) (j:Int) 1=j-i:=by
 unfold Builtin.Slice.slicePlaces
 have h1:(1:Int)>0:=by omega
 simp only[h1,if_true,Int.ediv_one]
 split<;>omega
theorem yG{v:Value}{o:Option Int}{Q:Option Int->Shared->Prop}(p:IsPart v o)(h:Q o s):wpAny (model prog w) A (Builtin.Slice.slicePartIndex v) Q E s:=by
 cases p with
 |none=>exact slicePart_none h
 |int i t=>exact slicePart_int h
theorem qt{lo hi:Option Int}{Q:Int×Int×Nat->Shared->Prop}(hs:s.heap.IsSliceOf sl vl vu .none)(pl:IsPart vl lo)(B:IsPart vu hi)
 (h:Q (((sIx n 0 lo:Nat):Int),1,sIx n n hi-sIx n 0 lo) s):wpAny (model prog w) A (Builtin.Slice.sliceApplied (.ref sl) (pure (n:Int))) Q E s:=by
 obtain⟨os,Z,X,Y⟩:=id hs
 unfold Builtin.Slice.sliceApplied Builtin.Slice.sliceFields
 refine aa (aa (a5 Z Y (x:=vl) rfl (aa (a5 Z Y (x:=vu) rfl (aa (a5 Z Y (x:=.none) rfl (ae ?_)))))))
 refine aa (slicePart_none ?_)
 show wpAny _ _ (if((1:Int)==0)=true then _ else _) _ _ s
 rw[if_neg (by decide)]
 refine aa (yG pl (aa (yG B (aa (ae ?_)))))
 show wpAny _ _ (match Builtin.Slice.sliceAdjust lo hi 1 (n:Int)with|(lo,hi)=>pure (lo,(1:Int),Builtin.Slice.slicePlaces lo hi 1)) _ _ s
 rw[Hz lo hi n]
 show wpAny _ _ (pure (((sIx n 0 lo:Nat):Int),(1:Int),Builtin.Slice.slicePlaces ((sIx n 0 lo:Nat):Int) ((sIx n n hi:Nat):Int) 1)) _ _ s
 rw[uT]
 exact ae h
theorem Nk(xs:Array Value)(i k:Nat):((aV k).filterMap λ(m:Nat)=>xs[((i:Int)+(m:Int)*1).toNat]?).toArray=((xs.toList.drop i).take k).toArray:=by
 have e:(λ(m:Nat)=>xs[((i:Int)+(m:Int)*1).toNat]?)=λm=>xs[i+m]?:=by
  funext m
  have:((i:Int)+(m:Int)*1).toNat=i+m:=by omega
  rw[this]
 rw[e]
 have:=pick_run xs i k
 rw[List.filterMap_map]at this
 have e2:((λx=>xs[x]?)∘λx=>i+x)=λm=>xs[i+m]?:=rfl
 rw[e2]at this
 rw[this]
theorem vp{t:Addr}{items:Array Value}{lo hi:Option Int}(B:IsTup s.heap t items)(hs:s.heap.IsSliceOf sl vl vu .none)(pl:IsPart vl lo)(D:IsPart vu hi)
 (hw:¬(sIx items.size 0 lo=0/\sIx items.size items.size hi=items.size))
 (h:Q (.ref s.heap.objs.size) {s with heap:=s.heap.push {cls:=.type "tuple", data:=.seq ((items.toList.drop (sIx items.size 0 lo)).take (sIx items.size items.size hi-sIx items.size 0 lo)).toArray} })
 (hsz:items.size<=sizeLine):wpAny (model prog w) A (getItem (.ref t) (.ref sl)) Q E s:=by
 have Z:sizeOk (.seq ((items.toList.drop (sIx items.size 0 lo)).take (sIx items.size items.size hi-sIx items.size 0 lo)).toArray):=by
  show((items.toList.drop (sIx items.size 0 lo)).take (sIx items.size items.size hi-sIx items.size 0 lo)).toArray.size<=sizeLine
  rw[aX,bV,cV,bD]
  omega
 have T:sIx items.size items.size hi<=items.size:=WT _ _ (aL _) hi
 obtain⟨os,Y,W,U⟩:=id hs
 have V:s.TypeIs (.ref sl) "slice" := ⟨os,Y,W⟩
 unfold getItem
 try with_reducible refine ap ?_
 first|refine aa (ae ?_)|skip
 refine aa (wpAny_sequenceKey B.typeIs (by decide) ?_)
 refine aa (av (name:=Str.ofString "__getitem__") B.typeIs PyProof.Rows.slot_tuple_getitem
  (ar PyProof.Rows.slot_tuple_getitem B.typeIs entry_tuple_getitem ?_ (args_tuple_getitem _ _)))
 show wpAny _ _ (Builtin.Tuple.tupleItemsOf (.ref t) >>= _) _ _ s
 refine aa (tupleItemsOf_ B ?_)
 refine aa (cw V ?_)
 rw[if_pos (by decide)]
 refine aa (qt hs pl D ?_)
 have X:¬((((sIx items.size 0 lo:Nat):Int)==0&&(1:Int)==1&&(sIx items.size items.size hi-sIx items.size 0 lo)==items.size)=true):=by
  intro q
  rw[bf,bf]at q
  have q1:((sIx items.size 0 lo:Nat):Int)=0:=eq_of_beq q.1.1
  have q2:sIx items.size items.size hi-sIx items.size 0 lo=items.size:=eq_of_beq q.2
  exact hw ⟨by omega,by omega⟩
 show wpAny _ _ (if(((sIx items.size 0 lo:Nat):Int)==0&&(1:Int)==1&&(sIx items.size items.size hi-sIx items.size 0 lo)==items.size)=true then _ else _) _ _ s
 rw[if_neg X,Nk]
 first
  |exact aa (m:=Builtin.Tuple.tupleExact _) (aE (ae ⟨_,rfl,ae h⟩) Z)
  |exact aa (m:=Builtin.Tuple.tupleExact _) (aE (aa (ae (ae ⟨_,rfl,ae h⟩))) Z)
  |exact aa (aa (m:=Builtin.Tuple.tupleExact _) (aE (ae (ae ⟨_,rfl,ae h⟩)) Z))
  |exact aa (aa (m:=Builtin.Tuple.tupleExact _) (aE (ae ⟨_,rfl,ae h⟩) Z))
end
end HT
namespace L2
open PySem PySem.Spec PyProof.Rows
abbrev TO:=St->Hp->(Option Int->Hp->Prop)->Prop
def PO(X:Cx)(e:Option Expr)(t:TO):Prop:=
 ∀(pins:List (Addr×Obj))(s:Shared)(σ:St)(H:Hp)(Q:Option Int->Hp->Prop),Inv X pins σ H s->t σ H Q ->
  wpAny (model X.prog X.w) X.A (evalPart e X.env) (λu s'=>∃o H',Inv X pins σ H' s'/\IsPart u o/\Q o H') X.xe s
def R9:TO:=λ_ H Q=>Q none H
def Zn(t:TE):TO:=λσ H Q=>t σ H λx H1=>∃i,x = .int i/\Q (some i) H1
section
variable{X:Cx}{e:Expr}{te:TE}{lo hi:Option Expr}{tl th:TO}{pos p2:Pos}
theorem R_:PO X none R9:=by
 intro pins s σ H Q I h
 rw[evalPart_none]
 exact ae ⟨none,H,I,.none,h⟩
theorem Sg(h:PE X e te):PO X (some e) (Zn te):=by
 intro pins s σ H Q I hw
 rw[evalPart_some]
 refine thn (h pins s σ H _ I hw) λu s1 ⟨x,H1,Y,Z,q1⟩=>?_
 obtain⟨i,rfl,q⟩:=q1
 obtain⟨t,rfl⟩:=Z
 exact⟨some i,H1,Y,.int i t,q⟩
def SlR(X:Cx)(r:V->Option Int->Option Int->Hp->VK->Prop):Prop:=
 ∀(pins:List (Addr×Obj))(s:Shared)(σ:St)(H:Hp)(x:V)(v vl vu:Value)(lo hi:Option Int)(sl:Addr)(Q:VK),Inv X pins σ H s->RelV x v->s.heap.IsSliceOf sl vl vu .none->IsPart vl lo->IsPart vu hi->r x lo hi H Q ->
  ∃T id,typeLookup (.type T) "__getitem__"=pure (some (.builtin id))/\s.TypeIs v T/\wpAny (model X.prog X.w) X.A (getItem v (.ref sl)) (EP X pins σ Q) X.xe s
theorem SlR.or{r r':V->Option Int->Option Int->Hp->VK->Prop}(h:SlR X r)(h':SlR X r'):SlR X (λx lo hi H Q=>r x lo hi H Q\/r' x lo hi H Q):=by
 intro pins s σ H x v vl vu lo hi sl Q I Z hs pl Y q
 rcases q with q|q
 ·exact h pins s σ H x v vl vu lo hi sl Q I Z hs pl Y q
 ·exact h' pins s σ H x v vl vu lo hi sl Q I Z hs pl Y q
noncomputable def tSl(r:V->Option Int->Option Int->Hp->VK->Prop)(te:TE)(tl th:TO):TE:=λσ H Q=>te σ H λx H1=>tl σ H1 λl H2=>th σ H2 λu Z=>r x l u Z Q
theorem Fi{r:V->Option Int->Option Int->Hp->VK->Prop}(D:SlR X r)(O:PE X e te)(J:PO X lo tl)(B:PO X hi th):PE X (.Subscript e (.Slice lo hi none p2) pos) (tSl r te tl th):=by
 intro pins s σ H Q I h
 refine dv (thn (O pins s σ H _ I h) λv s1 ⟨x,H1,K,Y,q1⟩=>?_)
 refine wpAny_Slice (thn (J pins s1 σ H1 _ K q1) λvl s2 ⟨l,H2,L,pl,q2⟩=>thn (B pins s2 σ H2 _ L q2) λvu s3 ⟨u,Z,M,U,W⟩=>?_)
 rw[evalPart_none]
 refine ae ?_
 have N:Inv X pins σ Z {s3 with heap:=s3.heap.push {cls:=.type "slice", data:=.fields #[vl,vu,.none]} }:=M.kept (t':=s3.toks) λb G q=>ad _ q
 obtain⟨T,id,P,S,R⟩:=D pins {s3 with heap:=s3.heap.push {cls:=.type "slice", data:=.fields #[vl,vu,.none]} } σ Z x v vl vu l u s3.heap.objs.size Q N Y (Heap.IsSliceOf.new ..) pl U W
 show wpAny (model X.prog X.w) X.A (subscriptTail e (.Slice lo hi none p2) v (.ref s3.heap.objs.size)) (EP X pins σ Q) X.xe {s3 with heap:=s3.heap.push {cls:=.type "slice", data:=.fields #[vl,vu,.none]} }
 exact tail_any (ops:=[.ref s3.heap.objs.size,v]) S P R (by with_unfolding_all rfl)
def Fj(xs:List V)(lo hi:Option Int):List V:=(xs.drop (HT.sIx xs.length 0 lo)).take (HT.sIx xs.length xs.length hi-HT.sIx xs.length 0 lo)
theorem wX(xs:List V)(lo hi:Option Int):(Fj xs lo hi).length<=xs.length:=by
 unfold Fj
 rw[bV,cV]
 omega
def ag3(K:PySem.W.Frag):V->Option Int->Option Int->Hp->VK->Prop:=λx lo hi H Q=>∃a xs,x = .ref a/\SqT K H a xs /\
 ¬(HT.sIx xs.length 0 lo=0/\HT.sIx xs.length xs.length hi=xs.length)/\∀p,H p=none->Q (.ref p) (upd H p (.tup (Fj xs lo hi)))
theorem WW:SlR X (ag3 X.K):=by
 intro pins s σ H x v vl vu lo hi sl Q I W hs pl V h
 obtain⟨a,xs,rfl,U,hw,q⟩:=h
 cases W
 obtain⟨its,r,Y,Z⟩:=I.tuple U
 have hlen:its.toArray.size=xs.length:=by rw[aX];exact r.length.symm
 refine⟨"tuple", _,PyProof.Rows.slot_tuple_getitem.lookup,Y.typeIs,?_⟩
 refine HT.vp Y hs pl V (by rw[hlen];exact hw) ?_ (by rw[hlen];exact Z)
 rw[hlen]
 refine⟨.ref s.heap.objs.size,_,I.laid (t':=s.toks) (o:=.tup (Fj xs lo hi)) (λb T q=>ad _ q) (aL _) ?_,rfl,q _ (I.hok.fresh (aL _))⟩
 exact⟨bF (wX xs lo hi) Z,_,(r.drop (HT.sIx xs.length 0 lo)).take (HT.sIx xs.length xs.length hi-HT.sIx xs.length 0 lo),IsTup.new _ _⟩
end
end L2
variable{r r':L2.R2}{its:List Value}{T:String}
namespace L2
open PySem PySem.Spec PyProof.Rows
noncomputable def ixN(n:Nat)(i:Int):Option Nat:=if 0<=i then(if i<n then some i.toNat else none)else if -(n:Int)<=i then some (i+n).toNat else none
def atI{α:Type}(xs:List α)(i:Int):Option α:=(ixN xs.length i).bind λj=>xs[j]?
theorem Jl{i:Int}(h:ixN n i=some j):seqIndex? i n=some j/\j<n/\-(n:Int)<=i/\i<n:=by
 unfold ixN at h
 by_cases Z:0<=i
 ·rw[if_pos Z]at h
  by_cases h1:i<n
  ·rw[if_pos h1]at h
   have e:i.toNat=j:=dh.inj h
   exact⟨by rw[ee Z h1,e],by omega,by omega,h1⟩
  ·rw[if_neg h1]at h;cases h
 ·rw[if_neg Z]at h
  by_cases h1 : -(n:Int)<=i
  ·rw[if_pos h1]at h
   have e:(i+n).toNat=j:=dh.inj h
   exact⟨by rw[dA (by omega) h1,e],by omega,h1,by omega⟩
  ·rw[if_neg h1]at h;cases h
theorem xV{α:Type}{xs:List α}{i:Int}{v:α}(h:atI xs i=some v):∃j,seqIndex? i xs.length=some j/\xs[j]? = some v/\j<xs.length/\-(xs.length:Int)<=i/\i<xs.length:=by
 unfold atI at h
 cases e:ixN xs.length i with
 |none=>rw[e]at h;cases h
 |some j=>
  rw[e]at h
  obtain⟨h1,h2,Y,Z⟩:=Jl e
  exact⟨j,h1,h,h2,Y,Z⟩
def Cv(b:Expr):Prop:=∀o i,subscripted b false o i=operate [o,i] (getItem o i)
def IxR(X:Cx)(r:R2):Prop:=
 ∀(value slice:Expr)(pins:List (Addr×Obj))(s:Shared)(σ:St)(H:Hp)(x y:V)(v u:Value)(Q:VK),Inv X pins σ H s->RelV x v->RelV y u->r x y H Q ->
  subscripted slice false v u=operate [v,u] (getItem v u)->wpAny (model X.prog X.w) X.A (subscriptTail value slice v u) (EP X pins σ Q) X.xe s
def MtR(X:Cx)(id:String)(r:V->List V->Hp->VK->Prop):Prop:=
 ∀(pins:List (Addr×Obj))(s:Shared)(σ:St)(H:Hp)(x:V)(xs:List V)(v:Value)(us:List Value)(Q:VK),Inv X pins σ H s->RelV x v->Vals xs us->r x xs H Q ->
  wpAny (model X.prog X.w) X.A (call (.builtin id) (v::us)) (EP X pins σ Q) X.xe s
section
variable{X:Cx}{a b:Expr}{ta tb:TE}{pos:Pos}
theorem IxR.or(h:IxR X r)(h':IxR X r'):IxR X (λx y H Q=>r x y H Q\/r' x y H Q):=by
 intro value slice pins s σ H x y v u Q I Y Z q hs
 rcases q with q|q
 ·exact h value slice pins s σ H x y v u Q I Y Z q hs
 ·exact h' value slice pins s σ H x y v u Q I Y Z q hs
theorem Zo(B:IxR X r)(ha:PE X a ta)(D:PE X b tb)(hs:Cv b):PE X (.Subscript a b pos) (tOp r ta tb):=by
 intro pins s σ H Q I h
 exact dv (WD ha D I h λv u s2 x y H2 W Y Z q=>B a b pins s2 σ H2 x y v u Q W Y Z q (hs _ _))
def Zq(K:PySem.W.Frag):R2:=λx y H Q=>∃p xs i v,x = .ref p/\y = .int i/\SqL K H p xs/\atI xs i=some v/\Q v H
def Zr(K:PySem.W.Frag):R2:=λx y H Q=>∃p xs i v,x = .ref p/\y = .int i/\SqT K H p xs/\atI xs i=some v/\Q v H
def Zt:R2:=λx y H Q=>∃z i c,x = .str z/\y = .int i/\z.length<=sizeLine/\atI z.cps.toList i=some c/\Q (.str ⟨#[c]⟩) H
theorem Sh:IxR X (Zq X.K):=by
 intro value slice pins s σ H x y v u Q I T U h hs
 obtain⟨p,xs,i,z,rfl,rfl,S,P,q⟩:=h
 cases T
 obtain⟨t,rfl⟩:=U
 obtain⟨its,r,pl,M⟩:=I.list S
 obtain⟨j,h1,h2,L,N,O⟩:=xV P
 obtain⟨w,V,Z⟩:=r.get h2
 have R:=r.length
 have hn:=wu
 have fin:EP X pins σ Q w s:=⟨z,H,I,Z,q⟩
 by_cases W:0<=i
 ·have Y:i.toNat=j:=by
   rw[ee W O]at h1
   exact dh.inj h1
  exact item_listR pl.isList W (by omega) (by rw[Y];simpa using V) fin hs
 ·have Y:(i+(its.toArray.size:Int)).toNat=j:=by
   rw[dA (by omega) N]at h1
   rw[aX,<-R]
   exact dh.inj h1
  exact subscriptTail_builtinR (x:=w) pl.isList.typeIs slot_list_getitem.lookup
   (wpAny_getItem_list_neg (Q:=λr s'=>r=w/\EP X pins σ Q r s') pl.isList (by omega) (by rw[aX]<;>omega) (by omega) (by rw[Y];simpa using V) ⟨rfl,fin⟩) hs
theorem WX:IxR X (Zr X.K):=by
 intro value slice pins s σ H x y v u Q I W Y h hs
 obtain⟨p,xs,i,z,rfl,rfl,V,T,q⟩:=h
 cases W
 obtain⟨t,rfl⟩:=Y
 obtain⟨its,r,pl,R⟩:=I.tuple V
 obtain⟨j,h1,h2,N,O,P⟩:=xV T
 obtain⟨w,S,Z⟩:=r.get h2
 have U:=r.length
 have hn:=wu
 have fin:EP X pins σ Q w s:=⟨z,H,I,Z,q⟩
 exact subscriptTail_builtinR (x:=w) pl.typeIs slot_tuple_getitem.lookup
  (getItem_tuple (j:=j) (Q:=λr s'=>r=w/\EP X pins σ Q r s') pl (by omega) (by omega) (by rw[aX,<-U];exact h1) (by simpa using S) ⟨rfl,fin⟩) hs
theorem WY:IxR X Zt:=by
 intro value slice pins s σ H x y v u Q I Y Z h hs
 obtain⟨z,i,c,rfl,rfl,R,V,q⟩:=h
 obtain⟨t,rfl⟩:=Y
 obtain⟨t',rfl⟩:=Z
 obtain⟨j,h1,h2,P,T,U⟩:=xV V
 have W:z.cps.toList.length=z.length:=by simp[Str.length]
 rw[W]at h1 T U
 have hn:=wu
 exact tail_any (typeIs_str s z t) slot_str_getitem.lookup (getItem_str (c:=c) (by
  have S:decide (i < -(2^63:Int))=false:=dFa (by omega)
  have e2:decide (i≥2^63)=false:=dFa (by omega)
  rw[S,e2,uF]) (by rw[h1];simpa using h2) ⟨.str ⟨#[c]⟩,H,I.tok _,⟨_,rfl⟩,q⟩) hs
def rIx(K:PySem.W.Frag):R2:=λx y H Q=>Zq K x y H Q\/Zr K x y H Q\/Zt x y H Q
theorem W6:IxR X (rIx X.K):=Sh.or (WX.or WY)
theorem HB(its:List Value)(n j:Nat)(u:Value):Obj.mapSeq (·.setIfInBounds j u) {cls:=.type "list", data:=.seq its.toArray n}={cls:=.type "list", data:=.seq (its.set j u).toArray n}:=by
 simp[Obj.mapSeq]
theorem Inv.lst{pins:List (Addr×Obj)}{σ:St}{H:Hp}{s:Shared}{p:Addr}{xs:List V}(I:Inv X pins σ H s)(h:H p=some (.lst xs)):
 ∃(its:List Value)(n:Nat),Vals xs its/\s.heap.get? p=some {cls:=.type "list", data:=.seq its.toArray n}/\xs.length<=sizeLine:=by
 obtain⟨z,its,n,r,e⟩:=I.hok p _ h
 exact⟨its,n,r,e,z⟩
theorem Inv.lstUpd{σ:St}{p:Addr}{xs ys:List V}{its':List Value}{B:Nat}{f:Obj->Obj}(I:Inv X pins σ H s)(h:H p=some (.lst xs))
 (J:s.heap.get? p=some {cls:=.type "list", data:=.seq its.toArray n}) (D:f {cls:=.type "list", data:=.seq its.toArray n}={cls:=.type "list", data:=.seq its'.toArray B}) (r:Vals ys its') (hz:ys.length<=sizeLine) (t:Nat) :
 Inv X pins σ (upd H p (.lst ys)) {s with heap:=s.heap.update p f,toks:=t}:=by
 have e:(s.heap.update p f).get? p=some {cls:=.type "list", data:=.seq its'.toArray B}:=by
  rw[az f J (by rw[D]<;>rfl),D]
 refine I.write (x:=p) (e:=p) (by rw[h];trivial) (.inl rfl) (λb u Z q=>(aI _ _ (Ne.symm Z)).trans q) ⟨_,e⟩ ?_
 exact⟨hz,its',B,r,e⟩
def Zu:V->V->V->Hp->(Hp->Prop)->Prop:=λo i v H Q=>∃p xs k j,o = .ref p/\i = .int k/\H p=some (.lst xs)/\ixN xs.length k=some j/\Q (upd H p (.lst (xs.set j v)))
theorem set_list:RW X Zu:=by
 intro pins s σ H o i v J G u Q I N M O h
 obtain⟨p,xs,k,j,rfl,rfl,U,K,q⟩:=h
 cases N
 obtain⟨t,rfl⟩:=M
 obtain⟨its,n,r,Z,L⟩:=I.lst U
 obtain⟨h1,h2,S,T⟩:=Jl K
 have Y:=r.length
 have hn:=wu
 have P:Inv X pins σ (upd H p (.lst (xs.set j v))) {s with heap:=s.heap.update p (Obj.mapSeq (·.setIfInBounds j u))}:=
  I.lstUpd U Z (HB its n j u) (r.set O j) (by rw[cH];exact L) s.toks
 by_cases R:0<=k
 ·have V:k.toNat=j:=by
   rw[ee R T]at h1
   exact dh.inj h1
  exact PySem.W.ki_setAt Z R (by omega) (by rw[aX,<-Y];exact T) (by rw[V];exact⟨_,P,q⟩)
 ·have V:(k+(its.toArray.size:Int)).toNat=j:=by
   rw[dA (by omega) S]at h1
   rw[aX,<-Y]
   exact dh.inj h1
  exact PySem.W.ki_setBack Z (by omega) (by rw[aX,<-Y];exact S) (by omega) (by rw[V];exact⟨_,P,q⟩)
theorem Cw(lo hi:Option Int)(n:Nat):(sliceBounds lo hi none n).1=((HT.sIx n 0 lo:Nat):Int)/\(sliceBounds lo hi none n).2.1=((HT.sIx n n hi:Nat):Int)/\(sliceBounds lo hi none n).2.2=1:=by
 refine⟨?_,?_,rfl⟩
 ·cases lo with
  |none=>simp[sliceBounds,HT.sIx]
  |some i=>
   simp only[sliceBounds,HT.sIx,Option.getD_none,show(1:Int)>0 by decide,if_true]
   by_cases h:i<0
   ·simp only[h,if_true]<;>omega
   ·simp only[h,if_false]<;>omega
 ·cases hi with
  |none=>simp[sliceBounds,HT.sIx]
  |some i=>
   simp only[sliceBounds,HT.sIx,Option.getD_none,show(1:Int)>0 by decide,if_true]
   by_cases h:i<0
   ·simp only[h,if_true]<;>omega
   ·simp only[h,if_false]<;>omega
theorem Ae(its:List Value)(lo hi:Option Int):slicePick its.toArray lo hi none=((its.drop (HT.sIx its.length 0 lo)).take (HT.sIx its.length its.length hi-HT.sIx its.length 0 lo)).toArray:=by
 obtain⟨h1,h2,Z⟩:=Cw lo hi its.toArray.size
 unfold slicePick
 rw[h1,h2,Z]
 simp only[sliceRange_one,pick_run,aX]<;>rfl
def ag4(K:PySem.W.Frag):V->Option Int->Option Int->Hp->VK->Prop:=λx lo hi H Q=>∃a xs,x = .ref a/\SqL K H a xs/\∀p,H p=none->Q (.ref p) (upd H p (.lst (Fj xs lo hi)))
theorem Ss:SlR X (ag4 X.K):=by
 intro pins s σ H x v vl vu lo hi sl Q I Y hs pl W h
 obtain⟨a,xs,rfl,U,q⟩:=h
 cases Y
 obtain⟨its,r,Z,V⟩:=I.list U
 have hlen:=r.length
 refine⟨"list", _,slot_list_getitem.lookup,Z.isList.typeIs,?_⟩
 refine wpAny_getItem_list_slice Z.isList hs pl W .none (by simp) ?_ (by rw[aX]<;>omega)
 rw[Ae,<-hlen]
 refine⟨.ref s.heap.objs.size,_,I.laid (t':=s.toks) (o:=.lst (Fj xs lo hi)) (λb T q=>ad _ q) (aL _) ?_,rfl,q _ (I.hok.fresh (aL _))⟩
 exact⟨bF (wX xs lo hi) V,_,0,(r.drop (HT.sIx xs.length 0 lo)).take (HT.sIx xs.length xs.length hi-HT.sIx xs.length 0 lo),ag _ rfl⟩
theorem cC:lU X (.builtin "len") (λxs H Q=>∃p ys,xs=[.ref p]/\(SqL X.K H p ys\/SqT X.K H p ys)/\Q (.int ys.length) H):=by
 intro pins s σ H xs us Q I r h
 obtain⟨p,ys,rfl,Z,q⟩:=h
 obtain⟨u,rfl,Y⟩:=vals1 r
 cases Y
 have hn:=wu
 rcases Z with Z|Z
 ·obtain⟨its,r',pl,W⟩:=I.list Z
  have hlen:=r'.length
  exact Calls.call_len_list pl.isList (by simp only[aX]<;>omega) ⟨.int ys.length,H,I.tok _,⟨s.toks+1,by rw[aX,hlen]⟩,q⟩
 ·obtain⟨its,r',pl,W⟩:=I.tuple Z
  have hlen:=r'.length
  exact len_tuple pl (by simp only[aX]<;>omega) ⟨.int ys.length,H,I.tok _,⟨s.toks+1,by rw[aX,hlen]⟩,q⟩
theorem Cy:lU X (.type "list") (λxs H Q=>∃p ys,xs=[.ref p]/\(SqL X.K H p ys\/SqT X.K H p ys)/\∀l,H l=none->Q (.ref l) (upd H l (.lst ys))):=by
 intro pins s σ H xs us Q I r h
 obtain⟨p,ys,rfl,Y,q⟩:=h
 obtain⟨u,rfl,U⟩:=vals1 r
 cases U
 have fin:∀(its:List Value),Vals ys its->ys.length<=sizeLine->∀(h':Heap)(c':Nat),(∀b o',s.heap.get? b=some o'->h'.get? b=some o') ->
  h'.get? s.heap.objs.size=some {cls:=.type "list", dict:=none,data:=.seq its.toArray c',slots:=#[]}->EP X pins σ Q (.ref s.heap.objs.size) {s with heap:=h'}:=λits r' Z h' c' kp e=>
  ⟨.ref s.heap.objs.size,_,I.laid (t':=s.toks) kp (aL _) (show gY X.prog X.w _ h' _ (.lst ys)from⟨Z,its,c',r',e⟩),rfl,q _ (I.hok.fresh (aL _))⟩
 rcases Y with Y|Y
 ·obtain⟨its,r',pl,Z⟩:=I.list Y
  have hlen:=r'.length
  obtain⟨o,W,V,n,hd⟩:=pl.isList
  exact call_list_seq p (.inl rfl) W V hd (λh' c' kp e=>fin its r' Z h' c' kp e) (by simp only[aX]<;>omega)
 ·obtain⟨its,r',pl,Z⟩:=I.tuple Y
  have hlen:=r'.length
  obtain⟨o,W,V,n,hd⟩:=pl
  exact call_list_seq p (.inr rfl) W V hd (λh' c' kp e=>fin its r' Z h' c' kp e) (by simp only[aX]<;>omega)
theorem uI:lU X (.type "tuple") (λxs H Q=>∃p ys,xs=[.ref p]/\((SqL X.K H p ys/\∀l,H l=none->Q (.ref l) (upd H l (.tup ys)))\/(SqT X.K H p ys/\Q (.ref p) H))):=by
 intro pins s σ H xs us Q I r h
 obtain⟨p,ys,rfl,h⟩:=h
 obtain⟨u,rfl,V⟩:=vals1 r
 cases V
 rcases h with⟨Z,q⟩|⟨Z,q⟩
 ·obtain⟨its,r',pl,Y⟩:=I.list Z
  have hlen:=r'.length
  refine call_tuple_list pl.isList (λh' kp=>?_) (by simp only[aX]<;>omega)
  have W:Inv X pins σ H {s with heap:=h'}:=I.kept (t':=s.toks) kp
  have U:Inv X pins σ (upd H h'.objs.size (.tup ys)) {s with heap:=h'.push {cls:=.type "tuple", data:=.seq its.toArray} }:=
   W.laid (t':=s.toks) (λb o e=>ad _ e) (aL _) (show gY X.prog X.w _ _ _ (.tup ys)from⟨Y,its,r',IsTup.new _ _⟩)
  exact⟨.ref h'.objs.size,_,U,rfl,q _ (W.hok.fresh (aL _))⟩
 ·obtain⟨its,r',pl,Y⟩:=I.tuple Z
  exact call_tuple_same pl ⟨.ref p,H,I,rfl,q⟩
def tyV(K:PySem.W.Frag)(T:String)(x:V)(H:Hp):Prop:=match x with
 | .str _=>T="str"
 | .int _=>T="int"
 | .ref p=>(T="list" /\ ∃xs,SqL K H p xs)\/(T="tuple" /\ ∃o,K.lookup p=some o/\o.cls = .type "tuple"/\o.dict=none) \/
  (T="dict"/\((∃kvs,H p=some (.dK kvs))\/∃kvs,H p=some (.dT kvs)))\/(T="set" /\ ∃S n,H p=some (.set S n))
 |_=>False
theorem W7{σ:St}{x:V}{v:Value}(I:Inv X pins σ H s)(r:RelV x v)(ty:tyV X.K T x H):
 s.TypeIs v T/\∀a,v = .ref a->∃B,s.heap.get? a=some B/\B.dict=none:=by
 cases x with
 |str z=>
  obtain⟨t,rfl⟩:=r
  cases(show T="str"from ty)
  exact⟨typeIs_str s z t,λ_ e=>nomatch e⟩
 |int i=>
  obtain⟨t,rfl⟩:=r
  cases(show T="int"from ty)
  exact⟨typeIs_int s i t,λ_ e=>nomatch e⟩
 |ref p=>
  cases r
  rcases ty with⟨rfl,xs,Y⟩|⟨rfl,o,Z,W,hd⟩|⟨rfl,Z⟩|⟨rfl,S,n,Z⟩
  ·obtain⟨its,_,pl,_⟩:=I.list Y
   refine⟨pl.isList.typeIs,λa e=>?_⟩
   cases e
   obtain⟨o,n,e,c,hd,_⟩:=pl
   exact⟨o,e,hd⟩
  ·refine⟨⟨o,I.kIn p o Z,W⟩,λa e=>?_⟩
   cases e
   exact⟨o,I.kIn _ o Z,hd⟩
  ·have z:∃o,s.heap.get? p=some o/\o.ExactDict:=by
    rcases Z with⟨kvs,Z⟩|⟨kvs,Z⟩
    ·obtain⟨_,_,_,_,o,_,_,e,ex,_⟩:=I.hok p _ Z
     exact⟨o,e,ex⟩
    ·obtain⟨_,_,_,_,o,_,_,e,ex,_⟩:=I.hok p _ Z
     exact⟨o,e,ex⟩
   obtain⟨o,e,ex⟩:=z
   refine⟨⟨o,e,ex.1⟩,λa e2=>?_⟩
   cases e2
   exact⟨o,e,ex.2.1⟩
  ·obtain⟨o,_,_,_,e,ex,_⟩:=I.hok p _ Z
   refine⟨⟨o,e,ex.1⟩,λa e2=>?_⟩
   cases e2
   exact⟨o,e,ex.2.1⟩
 |_=>exact False.elim ty
noncomputable def tBM(K:PySem.W.Frag)(T:String)(r:V->List V->Hp->VK->Prop)(to:TE)(t:TA):TE:=λσ H Q=>to σ H λx H1=>tyV K T x H1/\t σ H1 λxs H2=>r x xs H2 Q
variable{o e:Expr}{es:List Expr}{to:TE}{t:TA}{name:Str}{apos cpos:Pos}{T id:String}{r:V->List V->Hp->VK->Prop}
theorem Zv(pa:PlainAttrs T)(slot:Slot T name id)(W:typeOf (.builtin id)=pure (.type "method_descriptor"))(hm:MtR X id r)(ho:PE X o to)(ha:PA X (e::es) t)
 (J:attributeBase o name X.env (eval o X.env)=eval o X.env:=by rfl)
 (O:((backTo cpos (starEach (e::es) X.env)).all (λx=>!x.1)&&(backToKw cpos (keywordEach [] X.env)).all (λx=>x.1.isSome)
  && decide ((e::es).length+([]:List Keyword).length+(if([]:List Keyword).isEmpty then 0 else 1)<30))=true:=by rfl)
 (D:(apos.endLine==cpos.line)=true:=by rfl) (hs:starEach (e::es) X.env=(false,eval e X.env)::starEach es X.env:=by rfl) (B:(backTo cpos (starEach es X.env)).any (·.1)=false:=by rfl) :
 PE X (.Call (.Attribute o name apos) (e::es) [] cpos) (tBM X.K T r to t):=by
 intro pins s σ H Q I h
 refine wpAny_Call_method_late J O D rfl (thn (ho pins s σ H _ I h) λv s1 ⟨x,H1,V,Z,ty,q1⟩=>?_)
 obtain⟨h1,h2⟩:=W7 V Z ty
 refine⟨T,id,pa,slot,W,h1,h2,?_⟩
 have Y:=ha cpos pins s1 σ H1 _ V q1
 rw[hs]at Y ⊢
 refine d3 (by show(false||(backTo cpos (starEach es X.env)).any (·.1))=false;rw[B]<;>rfl) (ew ?_)
 exact thn Y λus s2 ⟨vs,H2,S,U,q2⟩=>hm pins s2 σ H2 x vs v us Q S Z U q2
/- xs.append(e),list.index on a module's tuple .. are MtR facts of 06m -/
end
end L2
namespace L2
open PySem PySem.Spec PyProof.Rows
def MtM(X:Cx)(id:String)(r:V->List V->Hp->VK->Prop):Prop:=
 ∀(pins:List (Addr×Obj))(s:Shared)(σ:St)(H:Hp)(x:V)(xs:List V)(v:Value)(us:List Value)(Q:VK),Inv X pins σ H s->RelV x v->Vals xs us->r x xs H Q ->
  wpAny (model X.prog X.w) X.A (call (.builtin id) (v::us)) (EP X pins σ Q) X.xe s
theorem Vals.one:∀{x:V}{us:List Value},Vals [x] us->∃u,us=[u]/\RelV x u
 |_,_,.cons r .nil=>⟨_,rfl,r⟩
theorem Vals.zero:∀{us:List Value},Vals [] us->us=[]
 |_,.nil=>rfl
theorem Vals.dropLast{xs:List V}(h:Vals xs us):Vals xs.dropLast us.dropLast:=by
 induction h with
 |nil=>exact .nil
 |cons r t Z=>
  cases t with
  |nil=>exact .nil
  |cons q t'=>exact .cons r Z
theorem Vals.eraseIdx:∀{xs:List V}{us:List Value}(i:Nat),Vals xs us->Vals (xs.eraseIdx i) (us.eraseIdx i)
 |_,_,_,.nil=>.nil
 |_,_,0,.cons _ t=>t
 |_,_,i+1,.cons r t=>.cons r (Vals.eraseIdx i t)
theorem Vals.reverse{xs:List V}(h:Vals xs us):Vals xs.reverse us.reverse:=by
 induction h with
 |nil=>exact .nil
 |cons r t Z=>rw[jJ,jJ];exact Vals.append Z (.cons r .nil)
theorem Vals.rep{xs:List V}(h:Vals xs us):∀k:Nat,Vals (aQ k xs).flatten (aQ k us).flatten
 |0=>.nil
 |k+1=>by
  rw[cD,cD,eX,eX]
  exact Vals.append h (Vals.rep h k)
theorem foldl_rep(its:List Value):∀(k:Nat)(acc:List Value),
 yx (λx1 B=>x1++B) acc.toArray (aQ k its.toArray)=(acc++(aQ k its).flatten).toArray
 |0,acc=>by simp
 |k+1,acc=>by
  have e:acc.toArray++its.toArray=(acc++its).toArray:=by simp
  have e2:(acc++its)++(aQ k its).flatten=acc++(aQ (k+1) its).flatten:=by
   rw[cD,eX,aR]
  rw[<-e2,<-foldl_rep its k (acc++its),<-e,cD,iI]
section
variable{X:Cx}{pins:List (Addr×Obj)}{σ:St}{H:Hp}{s:Shared}{l b:Addr}{xs ys zs:List V}
theorem Inv.lset{its':List Value}{f:Array Value->Array Value}(I:Inv X pins σ H s)(J:H l=some (.lst xs))
 (e:s.heap.get? l=some {cls:=.type "list", data:=.seq its.toArray n}) (D:f its.toArray=its'.toArray) (B:Vals ys its') (hz:ys.length<=sizeLine) :
 Inv X pins σ (upd H l (.lst ys)) {s with heap:=s.heap.update l (Obj.mapSeq f),toks:=t'}:=by
 have q:=PySem.IsL.update e f
 rw[D]at q
 refine I.write (x:=l) (e:=l) (by rw[J];exact trivial) (.inl rfl) (λW u Y Z=>(aI s.heap (Obj.mapSeq f) (Ne.symm Y)).trans Z) ⟨_,q⟩ ?_
 exact⟨hz,its',_,B,q⟩
theorem Inv.lnew(I:Inv X pins σ H s)(B:Vals ys its)(hz:ys.length<=sizeLine):
 Inv X pins σ (upd H s.heap.objs.size (.lst ys)) {s with heap:=s.heap.push {cls:=.type "list", data:=.seq its.toArray},toks:=t'}:=
 I.laid (λ_ _ q=>ad _ q) (aL _) ⟨hz,its,0,B,ag _ rfl⟩
theorem Inv.fresh(I:Inv X pins σ H s):H s.heap.objs.size=none:=I.hok.fresh (aL _)
theorem Inv.lstM(I:Inv X pins σ H s)(B:H l=some (.lst xs)):xs.length<=sizeLine/\∃(its:List Value)(n:Nat),Vals xs its/\xs.length=its.length/\s.heap.get? l=some {cls:=.type "list", data:=.seq its.toArray n}:=by
 obtain⟨z,its,n,r,e⟩:=I.hok l _ B
 exact⟨z,its,n,r,r.length,e⟩
theorem Nm(h:n<=sizeLine):Builtin.List.listTooLong n=false:=by
 unfold Builtin.List.listTooLong
 exact dFa (by omega)
end
section
variable{X:Cx}
def Sv:V->List V->Hp->VK->Prop:=λx vs H Q=>∃l xs y,x = .ref l/\vs=[y]/\H l=some (.lst xs)/\xs.length<sizeLine/\Q .non (upd H l (.lst (xs++[y])))
theorem Bm:MtM X "list.append" Sv:=by
 intro pins s σ H x vs v us Q I Y W h
 obtain⟨l,xs,y,rfl,rfl,Z,U,q⟩:=h
 cases Y
 obtain⟨u,rfl,V⟩:=W.one
 obtain⟨z,its,n,r,T,e⟩:=I.lstM Z
 refine call_meets F.slot_list_append ⟨_,e,rfl⟩ F.entry_list_append (F.args_list_append_2 _ _) (PySem.list_append l its.toArray n u (by rw[aX];omega)) ⟨e,?_⟩
 refine⟨.non,_,I.lset (its':=its++[u]) Z e (by simp) (r.append (.cons V .nil)) ?_,rfl,q⟩
 rw[bh,dR]
 omega
def ag5:R2:=λx y H Q=>∃l k xs,x = .ref l/\y = .int k/\H l=some (.lst xs)/\-(2^63)<=k/\k<2^63/\xs.length*k.toNat<=sizeLine /\
 ∀p,H p=none->Q (.ref p) (upd H p (.lst (aQ k.toNat xs).flatten))
theorem len_rep{α:Type}(xs:List α)(k:Nat):(aQ k xs).flatten.length=k*xs.length:=by
 induction k with
 |zero=>simp
 |succ k Z=>rw[cD,eX,bh,Z,Nat.succ_mul,Nat.add_comm]
theorem W8:OpR X (binaryOp .Mult) ag5:=by
 intro pins s σ H x y v u Q I O P h
 obtain⟨l,k,xs,rfl,rfl,M,h1,h2,R,q⟩:=h
 cases O
 obtain⟨t,rfl⟩:=P
 obtain⟨z,its,n,r,N,e⟩:=I.lstM M
 have hlen:its.toArray.size*k.toNat<=sizeLine:=by rw[aX,<-N];exact R
 have V:¬its.toArray.size*k.toNat>(2^63-1)/8:=by
  have:(sizeLine:Nat)<=(2^63-1)/8:=by decide
  omega
 have W:¬(!Builtin.List.listFitsIndex k)=true:=by
  rw[fitsIndex_both h1 h2]
  exact aY
 have Z:¬Builtin.List.listTooLong (its.toArray.size*k.toNat)=true:=by
  rw[Nm hlen]
  exact aY
 have Y:yx (λx1 S=>x1++S) #[] (aQ (if its.toArray.isEmpty=true then 0 else k.toNat) its.toArray)=(aQ k.toNat its).flatten.toArray:=by
  have L:∀m:Nat,yx (λx1 S=>x1++S) #[] (aQ m its.toArray)=(aQ m its).flatten.toArray:=λm=>by
   have:=foldl_rep its m []
   rw[dH]at this
   exact this
  rw[L]
  cases its with
  |nil=>simp
  |cons a r'=>rw[if_neg (by simp)]
 refine wpAny_binaryOp_repeat_ref (T := "list") (U := "int") (by decide) ⟨_,e,rfl⟩ (λs'=>typeIs_int s' k t) noFill_list_mul F.fills_int_mul F.slot_int_rmul repeat_list F.slot_int_index.lookup
  (call_meets F.slot_int_rmul (typeIs_int s k t) F.entry_int_rmul (F.args_int_rmul_2 _ _) (int___rmul___int_list k t l its.toArray n)
   ⟨e,rfl,⟨_,e,rfl⟩,call_meets F.slot_list_mul ⟨_,e,rfl⟩ F.entry_list_mul (F.args_list_mul_2 _ _) (AutoListH.list___mul___list_int_3 l its.toArray n k t W V Z) ⟨e,?_⟩⟩)
 rw[Y]
 exact⟨.ref _,_,I.lnew (t':=s.toks) (r.rep k.toNat) (by rw[len_rep,Nat.mul_comm];exact R),rfl,q _ I.fresh⟩
end
section
variable{prog:Program}{w:World}{A:Around}{E:Value->Shared->Prop}{s:Shared}
set_option maxRecDepth 100000 in
end
section
variable{X:Cx}
end
end L2
variable{XP:(Str->Option Value)->Heap->Prop}{YP:World->Heap->Prop}{m:Str->Option Value}
namespace Att
open PySem PySem.W PySem.Calls PyProof.Rows
theorem xK{P:Params}:∀(ns:List Int)(vs:List Value),WellAll P h vs (ns.map WData.int)->IntsAre vs ns:=by
 intro ns
 induction ns with
 |nil=>
  intro vs w
  rw[iJ]at w
  cases w
  exact .nil
 |cons n ns Z=>
  intro vs w
  rw[aP]at w
  cases w with
  |cons a b=>
   cases a
   exact .cons _ _ (Z _ b)
theorem KY{l:OpenLaw}(hn:l.most=some n){P:Params}{h:Heap}{args:List WData}{vals:List Value}
 (B:l.row.toRowW.claim.pre args=true) (D:WellAll P h vals args) :
 ∃a vs ns,vals=[Value.ref a]/\args=[WData.list (ns.map WData.int)]/\h.get? a=some {cls:=.type "list", data:=.seq vs.toArray}/\IntsAre vs ns/\ns.length<=n:=by
 have W:WShape.hasAll [] args [.list .int]=true:=(pre_splitW B).1
 have V:l.pre.holds [] {args:=args}=true:=(pre_splitW B).2
 obtain⟨d,r,rfl,h1,h2⟩:=hasAllW_cons W
 obtain rfl:=hasAllW_nil h2
 obtain⟨xs,rfl,Q⟩:=hasW_list h1
 obtain⟨ns,rfl⟩:=items_int Q
 have hlen:ns.length<=n:=by
  unfold OpenLaw.pre at V
  have X:(WTm.not (.lt (.lit (.int (n:Int))) (.len (.arg 0)))).holds [] {args:=[.list (ns.map .int)]}=true:=by
   have X:=(holds_andW V).1
   rw[hn]at X
   exact X
  have Y:=condW_of X (w_not (w_lt w_lit (w_len_list (w_arg rfl))))
  rw[aq]at Y
  refine Nat.le_of_not_lt λq=>?_
  have S:(n:Int)<((ns.length:Nat):Int):=by omega
  first
   | (rw[dTr S]at Y;exact absurd Y (by decide))
   | (simp at Y;omega)
 cases D with
 |cons T U=>
  cases U
  cases T with
  |list R Z=>exact⟨_,_,ns,rfl,rfl,R,xK ns _ Z,hlen⟩
theorem KZ(l:OpenLaw)(args:List WData):l.row.toRowW.claim.post args (.bool true) args=true:=
 postW_of (r:=l.row.toRowW) (X:=(true==true))
  (show WShape.has [] (.bool true) .bool=true by first|rfl|decide|simp[WShape.has,WShape.arms,WShape.armsAll])
  (show(WTm.eq .res (.lit (.bool true))).value [] {args:=args,res:=some (.bool true),after:=args}=some (.bool (true==true))from w_eq_bool (w_res rfl) w_lit) rfl
theorem Fo{l:OpenLaw}{q:Program}{loose:List Str}{d:DefRec}
 (hn:l.most=some n) (J:d.params.defaults=[])
 (call:∀(w:World)(s₀ B:Shared)(mg D:Str->Option Value)(fa:Addr)(o:Obj)(pm cd doc:Value)(a:Addr)(vs:List Value)(ns:List Int),
  Ground q loose [] XP w s₀ mg D B.heap->YP w B.heap ->
  B.heap.get? fa=some o->o.data = .func (docDef d.name d.params d.body d.scope pm cd doc)->B.heap.CodeRec cd d.name->mg d.name=some (.ref fa) ->
  B.heap.get? a=some {cls:=.type "list", data:=.seq vs.toArray}->IntsAre vs ns->ns.length<=n->B.gens = #[] ->
  codeAny (model l.prog w) callerA (.call (.ref fa) ⟨[.ref a],[]⟩) (λr s'=>r = .ok (.ret (.bool true))/\OldK B.heap s'.heap/\s'.os=B.os/\AllBare s'.gens) B) :
 WalkO q loose XP YP l.row.toRowW d [] (λf vs=>PySem.call f vs):=by
 intro w s₀ B mg D G Y fa o pm cd doc dV kV P hd U S V N args vals as Z T R W O
 obtain rfl:dV = .none:=Dflts.none S J
 obtain rfl:kV = .none:=Dflts.noKw S
 obtain⟨a,vs,ns,rfl,rfl,X,hints,hlen⟩:=KY hn Z W
 refine enter_call (dP (call w s₀ B mg D fa o pm cd doc a vs ns G Y P (fd_plain hd) U V X hints hlen N) λr s' Q=>?_)
 obtain⟨rfl,h2,L,M⟩:=Q
 exact⟨.inl ⟨.bool true,.bool true,[],rfl,λ_=>rfl,.bool true,KZ l _,λ_=>⟨List.Pairwise.nil,λ_ hm=>(nomatch hm)⟩⟩,h2,L,M⟩
section
variable{prog:Program}{w:World}{A:Around}{E:Value->Shared->Prop}{s:Shared}{K:Frag}
def lW(h:Heap):Heap:={h with objs:=#[]}
theorem rG(h:Heap)(b:Addr):(lW h).get? b=none:=by
 cases e:(lW h).get? b with
 |none=>rfl
 |some o=>exact absurd (af e) (Nat.not_lt_zero _)
theorem Np{L:Addr}(n:h.Ns L m):Fr (lW h) L h m:=
 ⟨n,λb o e=>(by rw[rG]at e;cases e),cZ _⟩
end
end Att
variable{CX:L2.CXT}{sp:L2.Sp}{ns:List Int}
namespace L2
open PySem PySem.Spec PyProof.Rows
theorem oR:∀{vs:List Value}{ns:List Int},IntsAre vs ns->Vals (ns.map V.int) vs
 |_,_,.nil=>.nil
 |_,_,.cons n t h=>.cons ⟨t,rfl⟩ (oR h)
def Only(H:Hp):Prop:=∀b,H b=none\/∃o xs,H b=some (.frz o (.lst xs))
noncomputable def yH(ts:List (Addr×Str×Pos))(H:Hp):Hp:=λb=>match ts.find? (λt=>t.1==b)with
 |some t=>some (.tbl t.2.1 t.2.2)
 |none=>H b
theorem Nq(ts:List (Addr×Str×Pos))(H:Hp)(b:Addr):(yH ts H b=H b/\∀t∈ts,t.1≠b)\/∃t∈ts,t.1=b/\yH ts H b=some (.tbl t.2.1 t.2.2):=by
 unfold yH
 cases e:ts.find? (λt=>t.1==b)with
 |none=>exact .inl ⟨rfl,λt Z z=>by have:=jt.mp e t Z;simp[z]at this⟩
 |some t=>
  have h1:=iG e
  have h2:=rY e
  exact .inr ⟨t,h1,by simpa using h2,rfl⟩
theorem Nr{mb:Str->Option Value}{k:Nat}{fa:Addr}{B:Shared}{vs:List Value}
 (KX:K.In B.heap) (hns:B.heap.Ns mainGlobals mg) (D:B.heap.Ns builtinsNs mb) (hbb:∀x:Str,x≠"__name__"->mb x=bootBuiltins x) (hlim:B.heap.NoLimit) (hbm:∃bm O,mg "__builtins__"=some (.ref bm)/\bm≠builtinsNs/\B.heap.get? bm=some O/\O.cls = .type "module"/\O.dict=some builtinsNs/\O.data = .plain) (hg:B.gens = #[])
 (ha:B.heap.get? a=some {cls:=.type "list", data:=.seq vs.toArray}) (hi:IntsAre vs ns) (hl:ns.length<=sizeLine) (hr:Room k callerA)
 (F:∀base:Heap,K.In base->base.Ns mainGlobals mg->FnOk P w K mg base CX k fa fd [x] sp) (hbind:∀(s:Shared)(u:Value),BindsTo s fd ⟨[u],[]⟩ [(x,u)])
 (ts:List (Addr×Str×Pos)) (J:∀t∈ts,B.heap.get? t.1=some {cls:=.none,data:=.fields #[]}) (hCT:∀t∈ts,isCodeTable B.heap t.1) (hKt:∀t∈ts,K.lookup t.1=none) (htu:∀t∈ts,∀t'∈ts,t.1=t'.1->t=t')
 (hsp:∀H:Hp,(∀t∈ts,H t.1=some (.tbl t.2.1 t.2.2))->SqL K H a (ns.map V.int)->sp [.ref a] H (λv _=>v = .bl true) λ_ _ _=>False)
 (hCX:∀H e s',CX [] H B (λ_ _ _=>False) e s'->False) :
 codeAny (model P w) callerA (.call (.ref fa) ⟨[.ref a],[]⟩) (λr s'=>r = .ok (.ret (.bool true))/\OldK B.heap s'.heap/\s'.os=B.os/\AllBare s'.gens) B:=by
 have f:=oR hi
 have N:=hi.length
 have core:∀H:Hp,(∀b,H b=none\/(∃o xs,H b=some (.frz o (.lst xs)))\/∃t∈ts,t.1=b/\H b=some (.tbl t.2.1 t.2.2))->(∀t∈ts,H t.1=some (.tbl t.2.1 t.2.2))->SqL K H a (ns.map V.int)->HOk P w H B.heap->(∀b,H b≠none->b=a\/∃t∈ts,t.1=b)->(H a≠none->K.lookup a=none) ->
  codeAny (model P w) callerA (.call (.ref fa) ⟨[.ref a],[]⟩) (λr s'=>r = .ok (.ret (.bool true))/\OldK B.heap s'.heap/\s'.os=B.os/\AllBare s'.gens) B:=by
  intro H M hT l hok I j
  have Z:∀{b:Addr}{o:Obj},B.heap.get? b=some o->H b=none->(Cp B.heap H).get? b=some o:=λe n=>MN e n
  have E:∀{b:Addr}{o:Obj}{es:Array DictEntry}{ep:Nat},B.heap.get? b=some o->o.data = .dict es ep->H b=none:=λ{b o es ep} e d=>by
   cases q:H b with
   |none=>rfl
   |some u=>
    rcases I b (by rw[q];simp)with X|⟨t,Y,X⟩
    case inr=>
     subst X
     rw[J t Y]at e;cases e
     have g:Data.fields #[]=Data.dict es ep:=d
     cases g
    subst X
    rw[ha]at e;cases e
    have g:Data.seq vs.toArray _=Data.dict es ep:=d
    cases g
  have U:∀{b:Addr}{m:Str->Option Value},B.heap.Ns b m->(Cp B.heap H).Ns b m:=λ{b m} ⟨o,es,ep,e,d,r⟩=>⟨o,es,ep,Z e (E e d),d,r⟩
  have L:K.In (Cp B.heap H):=λb o e=>Z (KX b o e) (by
   cases q:H b with
   |none=>rfl
   |some u=>
    rcases I b (by rw[q];simp)with X|⟨t,Y,X⟩
    ·subst X
     rw[j (by rw[q];simp)]at e;cases e
    ·subst X
     rw[hKt t Y]at e;cases e)
  have hM:Mod K mg (Cp B.heap H):=⟨L,U hns,⟨mb,U D,hbb⟩,let⟨mc,h1,h2⟩:=hlim;⟨mc,U h1,h2⟩,let⟨bm,O,g1,g2,g3,i,g5,g6⟩:=hbm;⟨bm,O,g1,g2,Z g3 (by
   cases q:H bm with
   |none=>rfl
   |some u=>
    rcases I bm (by rw[q];simp)with X|⟨t,Y,X⟩
    ·rw[X,ha]at g3;cases g3
     have z:Value.type "list"=Value.type "module" := i
     injection z with z
     exact absurd z (by decide)
    ·rw[<-X,J t Y]at g3;cases g3
     cases i),i,g5,g6⟩⟩
  have e0:Env0 P w K mg (Cp B.heap H) callerA [] B H:=⟨rfl,hM,λb o e=>RK e,oF (Ky _ _),trivial,λb D=>absurd (show b∈([]:List Addr)from D) (by simp),hok,.of_eq hg⟩
  refine dP ((F _ L (U hns)).run callerA [] B H ⟨[.ref a],[]⟩ [.ref a] [.ref a] _ _ hr e0 (hbind B (.ref a)) (.cons rfl .nil) (hsp H hT l)) λr s' h=>?_
  cases r with
  |error e=>exact(hCX H e s' h).elim
  |ok fl=>
   cases fl with
   |next=>exact False.elim h
   |brk=>exact False.elim h
   |cont=>exact False.elim h
   |ret u=>
    obtain⟨v,H',os,bare,un,T,r',q⟩:=h
    have q':v = .bl true:=q
    subst q'
    obtain rfl:u=Value.bool true:=r'
    refine⟨rfl,⟨λb o e=>?_,λb o e=>un.there b o e (by simp)⟩,os,bare⟩
    cases q:H b with
    |none=>exact .inl <| un.keep b o e q (by intro z;exact absurd (show b∈([]:List Addr)from z) (by simp)) (by simp)
    |some u=>
     rcases M b with z|⟨O,xs,z⟩|⟨t,Y,rfl,z⟩
     case inr.inr=>
      have z2:=un.tbls _ _ _ z
      obtain⟨ps,e2,_⟩:=T _ _ z2
      rw[J t Y]at e;cases e
      exact .inr (.inl ⟨hCT t Y,rfl,#[],ps,rfl,by rw[e2];simp⟩)
     ·rw[q]at z;cases z
     ·have z2:=un.frzs b O _ z
      obtain⟨e1,_⟩:=hok b _ z
      obtain⟨e2,_⟩:=T b _ z2
      rw[e]at e1;cases e1
      exact .inl e2
 have W:∀H:Hp,Only H->SqL K H a (ns.map V.int)->HOk P w H B.heap->(∀b,H b≠none->b=a)->(H a≠none->K.lookup a=none) ->
  codeAny (model P w) callerA (.call (.ref fa) ⟨[.ref a],[]⟩) (λr s'=>r = .ok (.ret (.bool true))/\OldK B.heap s'.heap/\s'.os=B.os/\AllBare s'.gens) B:=by
  intro H M l hok I j
  have na:∀t∈ts,t.1≠a:=λt Y z=>by
   have z2:=J t Y
   rw[z,ha]at z2
   cases z2
  have G:∀b,(yH ts H b=H b/\∀t∈ts,t.1≠b)\/∃t∈ts,t.1=b/\yH ts H b=some (.tbl t.2.1 t.2.2):=Nq ts H
  have C:yH ts H a=H a:=by
   rcases G a with z|⟨t,Y,z,_⟩
   ·exact z.1
   ·exact absurd z (na t Y)
  have R:∀b x,H b≠some (.own x):=λb x z=>by rcases M b with y|⟨_,_,y⟩<;>(rw[y]at z;cases z)
  have S:∀b x,H b≠some (.tup x):=λb x z=>by rcases M b with y|⟨_,_,y⟩<;>(rw[y]at z;cases z)
  refine core (yH ts H) (λb=>?_) (λt Y=>?_) ?_ (λb u z=>?_) (λb z=>?_) (λz=>j (by rw[<-C];exact z))
  ·rcases G b with z|⟨t,Y,z1,z2⟩
   ·rcases M b with y|y
    ·exact .inl (z.1.trans y)
    ·obtain⟨o,xs,y⟩:=y
     exact .inr (.inl ⟨o,xs,z.1.trans y⟩)
   ·exact .inr (.inr ⟨t,Y,z1,z2⟩)
  ·rcases G t.1 with z|⟨t',A,z1,z2⟩
   ·exact absurd rfl (z.2 t Y)
   ·have:=htu t' A t Y z1
    subst this
    exact z2
  ·rcases l with(z|⟨o,z⟩)|z
   ·exact .inl (.inl (by rw[C];exact z))
   ·exact .inl (.inr ⟨o,by rw[C];exact z⟩)
   ·exact .inr z
  ·rcases G b with y|⟨t,Y,z1,z2⟩
   ·rw[y.1]at z
    exact(hok b u z).stay (λ_ _ _ q=>q) (λc q=>absurd q (R c b)) λc xs q=>absurd q (S c xs)
   ·rw[z2]at z
    cases z
    subst z1
    exact⟨#[],J t Y,.inl rfl⟩
  ·rcases G b with y|⟨t,Y,z1,z2⟩
   ·exact .inl (I b (by rw[<-y.1];exact z))
   ·exact .inr ⟨t,Y,z1⟩
 cases p:K.lookup a with
 |some o=>
  have e:=KX a o p
  rw[ha]at e
  cases e
  refine W (λ_=>none) (λ_=>.inl rfl) (.inr ⟨_,vs.toArray,_,p,rfl,rfl,rfl,by rw[aX,N];exact hl,by simpa using f⟩) (λb u z=>by have Q:(none:Option HO)=some u:=z;cases Q) (λb z=>absurd rfl z) λz=>absurd rfl z
 |none=>
  refine W (λb=>if b=a then some (.frz {cls:=.type "list", data:=.seq vs.toArray} (.lst (ns.map V.int)))else none) (λb=>?_) (.inl (.inr ⟨{cls:=.type "list", data:=.seq vs.toArray},if_pos rfl⟩)) (λb u z=>?_) (λb z=>?_) λ_=>p
  ·by_cases D:b=a
   ·exact .inr ⟨_,_,if_pos D⟩
   ·exact .inl (if_neg D)
  ·by_cases D:b=a
   ·have Q:=(if_pos D).symm.trans z
    cases Q
    subst D
    exact⟨ha,by rw[aq];exact hl,vs,_,f,ha⟩
   ·have Q:=(if_neg D).symm.trans z
    cases Q
  ·by_cases D:b=a
   ·exact D
   ·exact absurd (if_neg D) z
end L2
namespace L2
open PySem PySem.Spec PyProof.Rows
abbrev KOf(_:K.In h):PySem.W.Frag:=K
theorem Sw{l:PySem.W.OpenLaw}{k:Nat}{q:Program}{loose:List Str}{d:DefRec}{K:Params->PySem.W.Frag}{CX:World->CXT}{sp:World->Sp}
 (hn:l.most=some n) (O:n<=sizeLine) (hdf:d.params.defaults=[]) (hr:Room k callerA)
 (hY:∀(w:World)(h:Heap),YP w h->(K w.params).In h)
 (F:∀(w:World)(mg:Str->Option Value)(fa:Addr)(h:Heap),(K w.params).In h->h.Ns mainGlobals mg->mg d.name=some (.ref fa) ->
  ∃fd:FuncData,(∀(s:Shared)(u:Value),BindsTo s fd ⟨[u],[]⟩ [(x,u)]) /\
   ∀base:Heap,(K w.params).In base->base.Ns mainGlobals mg->FnOk l.prog w (K w.params) mg base (CX w) k fa fd [x] (sp w))
 (ts:List (Addr×Str×Pos)) (B:∀(w:World)(h:Heap),YP w h->(∀t∈ts,h.get? t.1=some {cls:=.none,data:=.fields #[]})/\(∀t∈ts,isCodeTable h t.1)/\∀t∈ts,(K w.params).lookup t.1=none) (D:∀t∈ts,∀t'∈ts,t.1=t'.1->t=t')
 (J:∀(w:World)(H:Hp)(a:Addr)(ns:List Int),ns.length<=n->(∀t∈ts,H t.1=some (.tbl t.2.1 t.2.2))->SqL (K w.params) H a (ns.map V.int)->sp w [.ref a] H (λv _=>v = .bl true) λ_ _ _=>False)
 (hCX:∀(w:World)(H:Hp)(s:Shared)(e:Value)(s':Shared),CX w [] H s (λ_ _ _=>False) e s'->False) :
 PySem.W.WalkO q loose XP YP l.row.toRowW d [] (λf vs=>PySem.call f vs):=by
 refine Att.Fo hn hdf λw s₀ Z mg I fa o pm cd doc a vs ns G Y E hd Q U X hints hlen R=>?_
 have S:=hY w _ Y
 obtain⟨fd,P,L⟩:=F w mg fa _ S G.T.g U
 exact Nr S G.T.g G.T.b G.T.builtins G.T.nolimit G.T.bmain R X hints (bF hlen O) hr L P ts (B w _ Y).1 (B w _ Y).2.1 (B w _ Y).2.2 D (λH M N=>J w H a ns hlen M N) λH e s'=>hCX w H Z e s'
theorem Nt{l:PySem.W.OpenLaw}{k:Nat}{q:Program}{loose:List Str}{d:DefRec}{K:Params->PySem.W.Frag}{sp:PySem.W.Frag->Sp}
 (hn:l.most=some n) (O:n<=sizeLine) (Y:d.params.defaults=[]) (hr:Room k callerA)
 (hY:∀(w:World)(h:Heap),YP w h->(K w.params).In h)
 (F:∀(w:World)(mg:Str->Option Value)(fa:Addr)(h:Heap),(K w.params).In h->h.Ns mainGlobals mg->mg d.name=some (.ref fa) ->
  ∃fd:FuncData,(∀(s:Shared)(u:Value),BindsTo s fd ⟨[u],[]⟩ [(x,u)]) /\
   ∀base:Heap,(K w.params).In base->base.Ns mainGlobals mg->FnOk l.prog w (K w.params) mg base CX k fa fd [x] (sp (K w.params)))
 (ts:List (Addr×Str×Pos)) (D:∀(w:World)(h:Heap),YP w h->(∀t∈ts,h.get? t.1=some {cls:=.none,data:=.fields #[]})/\(∀t∈ts,isCodeTable h t.1)/\∀t∈ts,(K w.params).lookup t.1=none) (B:∀t∈ts,∀t'∈ts,t.1=t'.1->t=t')
 (J:∀(K:PySem.W.Frag)(H:Hp)(a:Addr)(ns:List Int),ns.length<=n->(∀t∈ts,H t.1=some (.tbl t.2.1 t.2.2))->SqL K H a (ns.map V.int)->sp K [.ref a] H (λv _=>v = .bl true) λ_ _ _=>False)
 (Z:∀(H:Hp)(s:Shared)(e:Value)(s':Shared),CX [] H s (λ_ _ _=>False) e s'->False) :
 PySem.W.WalkO q loose XP YP l.row.toRowW d [] (λf vs=>PySem.call f vs):=
 Sw (K:=K) (CX:=λ_=>CX) (sp:=λw=>sp (K w.params)) hn O Y hr hY F ts D B (λw H a ns h1 h2 X=>J (K w.params) H a ns h1 h2 X) λ_ H s e s'=>Z H s e s'
end L2
/- THE LAST THEOREM (shape;LID,My.* are yours):
   My.Adr: a structure of the addresses that your layer names (classes,functions);My.Txt K t: a structure (Prop) of the equations over K;
   My.txt_mk:{K} {implicit addresses ..} (e1:nsIn K mainGlobals "law"=some (some (.ref f))) (e2:K.lookup f=some ⟨oc,od,.func (fnOf "law" "law" params body scope dV kV doc pm an cdv ct),sl⟩) (e3:codeIn K cdv "law"=true) .. : ∃t,My.Txt K t
set_option maxRecDepth 100000 in
set_option maxHeartbeats 0 in
(the tactic k_is has no namespace: write k_is) -/
variable{H1:L2.Hp}
namespace L2
open PySem PySem.Spec PyProof.Rows
noncomputable def pI(s:Stmt):Arguments:=match s with
 | .FunctionDef _ a _ _ _ _ _ _ _ _=>a
 |_=>{posonlyargs:=[],args:=[],vararg:=none,kwonlyargs:=[],kw_defaults:=[],kwarg:=none,defaults:=[]}
def jz(s:Stmt):List Stmt:=match s with
 | .FunctionDef _ _ b _ _ _ _ _ _ _=>b
 |_=>[]
noncomputable def bK(s:Stmt):Scope:=match s with
 | .FunctionDef _ _ _ _ _ _ sc _ _ _=>sc
 |_=>{kind:=.function,names:=[],isGenerator:=false,isCoroutine:=false}
abbrev CX0:CXT:=λ_ _ _ _ _ _=>False
abbrev E0:XK:=λ_ _ _=>False
theorem Zw:Passes CX0 X E0:=λ_ _ _ _ _ _ _ h=>h.elim
structure Fun(K:PySem.W.Frag)(x qual:Str)(st:Stmt)(f:Addr)(fd:FuncData):Prop where
 ex:∃(oc:Value)(od:Option Addr)(kV doc pm:Value)(an:Option Addr)(cdv ct:Value)(osl:Array (Option Value)),
  fd=PySem.W.fnOf x qual (pI st) (jz st) (bK st) .none kV doc pm an cdv ct/\K.lookup f=some ⟨oc,od,.func fd,osl⟩/\PySem.W.codeIn K cdv qual=true
 kp:PySem.W.keepIn K (.ref f)=true
section
variable{P:Program}{w:World}{K:PySem.W.Frag}{mg:Str->Option Value}{base:Heap}
end
section
variable{X:Cx}
end
theorem Af{A B:Prop}(h:B):if false=true then A else B:=by
 rw[if_neg aY]
 exact h
theorem Ag{A B:Prop}(h:A):if true=true then A else B:=by
 rw[if_pos rfl]
 exact h
def Same(H H':Hp):Prop:=∀b o,H b=some o->H' b=some o
theorem Same.refl(H:Hp):Same H H:=λ_ _ h=>h
theorem Same.trans{H2:Hp}(a:Same H H1)(b:Same H1 H2):Same H H2:=λc o h=>b c o (a c o h)
theorem Same.free(e:Same H H'){l:Addr}(h:H' l=Option.none):H l=Option.none:=by
 cases q:H l with
 |none=>rfl
 |some o=>
  rw[e l o q]at h
  cases h
theorem Same.seq{xs:List V}(e:Same H H')(h:SqL K H a xs):SqL K H' a xs:=by
 rcases h with(h|⟨o,h⟩)|h
 ·exact .inl (.inl (e _ _ h))
 ·exact .inl (.inr ⟨o,e _ _ h⟩)
 ·exact .inr h
end L2
namespace My
open PySem PySem.Spec PyProof.Rows L2
abbrev St:=L2.St
theorem cY{p:Addr}(h:H p=none)(o:HO):Same H (upd H p o):=λb u q=>by rw[cO (jN q h)];exact q
structure Df(K:PySem.W.Frag)(mg:Str->Option Value)(x:Str)(st:Stmt)(ps:List Str):Prop where
 ex:∃(f:Addr)(fd:FuncData),Fun K x x st f fd/\Binds K fd ps []/\mg x=some (.ref f)
structure Has(P:Program)(w:World)(K:PySem.W.Frag)(mg:Str->Option Value)(base:Heap)(n:Nat)(x:Str)(ps:List Str)(sp:Sp):Prop where
 ex:∃(f:Addr)(fd:FuncData),FnOk P w K mg base CX0 n f fd ps sp/\Binds K fd ps []/\PySem.W.keepIn K (.ref f)=true/\mg x=some (.ref f)
section
variable{P:Program}{w:World}{K:PySem.W.Frag}{mg:Str->Option Value}{base:Heap}{x:Str}{ps N:List Str}{sp:Sp}{st:Stmt}{k n:Nat}
theorem Has.mono(h:Has P w K mg base k x ps sp)(l:k<=n):Has P w K mg base n x ps sp:=by
 obtain⟨f,fd,F,b,kp,m⟩:=h.ex
 exact⟨f,fd,F.mono l,b,kp,m⟩
end
section
variable{X:Cx}{x:Str}{ps:List Str}{sp:Sp}{n:Nat}{p pos:Pos}{e:Expr}{es:List Expr}{t:TA}
theorem Fp(h:Has X.prog X.w X.K X.mg X.base n x ps sp)(J:Room n X.A)(ha:PA X (e::es) t)(O:Gl X x:=by rfl)(D:(x==("__debug__":Str))=false:=by decide)
 (W:starEach (e::es) X.env=(false,eval e X.env)::starEach es X.env:=by rfl) (B:(backTo pos (starEach es X.env)).any (·.1)=false:=by rfl) :
 PE X (.Call (.Name x p) (e::es) [] pos) (Vt sp [] E0 t):=by
 obtain⟨f,fd,F,b,kp,m⟩:=h.ex
 exact R8 F J O m kp b .nil Zw ha D W B
end
mutual
inductive RdV(K:PySem.W.Frag)(H:Hp):V->PyData->Prop
 |non:RdV K H .non .none
 |bl (b:Bool):RdV K H (.bl b) (.bool b)
 |int (i:Int):RdV K H (.int i) (.int i)
 |str (x:Str):RdV K H (.str x) (.str x)
 |lst {a:Addr} {xs:List V} {ds:List PyData}:SqL K H a xs->RdVs K H xs ds->RdV K H (.ref a) (.list ds)
 |tup {a:Addr} {xs:List V} {ds:List PyData}:SqT K H a xs->RdVs K H xs ds->RdV K H (.ref a) (.tuple ds)
inductive RdVs(K:PySem.W.Frag)(H:Hp):List V->List PyData->Prop
 |nil:RdVs K H [] []
 |cons {v:V} {d:PyData} {vs:List V} {ds:List PyData}:RdV K H v d->RdVs K H vs ds->RdVs K H (v::vs) (d::ds)
end
section
variable{X:Cx}{pins:List (Addr×Obj)}{σ:St}{H:Hp}{s:Shared}
mutual
theorem RdV.reads(I:Inv X pins σ H s):∀{v:V}{d:PyData},RdV X.K H v d->∀{u:Value},RelV v u->∃as,Reads s.heap u d as
 |_,_,.non,_,r=>by cases r;exact⟨_,.none⟩
 |_,_,.bl b,_,r=>by cases r;exact⟨_,.bool b⟩
 |_,_,.int i,_,r=>by obtain⟨t,rfl⟩:=r;exact⟨_,.int i t⟩
 |_,_,.str x,_,r=>by obtain⟨t,rfl⟩:=r;exact⟨_,.str x t⟩
 |_,_,.lst h q,_,r=>by
  cases r
  obtain⟨its,rv,⟨o,n,e,c,_,d⟩,_⟩:=I.list h
  obtain⟨as,z⟩:=RdVs.reads I q rv
  exact⟨_,.list e c d (by simpa using z)⟩
 |_,_,.tup h q,_,r=>by
  cases r
  obtain⟨its,rv,⟨o,e,c,n,d⟩,_⟩:=I.tuple h
  obtain⟨as,z⟩:=RdVs.reads I q rv
  exact⟨_,.tuple e c d (by simpa using z)⟩
theorem RdVs.reads(I:Inv X pins σ H s):∀{vs:List V}{ds:List PyData},RdVs X.K H vs ds->∀{us:List Value},Vals vs us->∃as,ReadsAll s.heap us ds as
 |_,_,.nil,_,r=>by cases r;exact⟨_,.nil⟩
 |_,_,.cons h q,_,r=>by
  cases r with
  |cons r1 r2=>
   obtain⟨as,z⟩:=RdV.reads I h r1
   obtain⟨bs,y⟩:=RdVs.reads I q r2
   exact⟨_,.cons z y⟩
end
end
section
variable{X:Cx}
noncomputable def Zx(K:PySem.W.Frag):R2:=λx y H Q=>∃Y Z,RdV K H x Y/\RdV K H y Z/\SeqAt.shaped Y=true/\SeqAt.shaped Z=true/\Q (.bl (PyData.eqv Y Z)) H
noncomputable def Zy(K:PySem.W.Frag):R2:=λx y H Q=>∃Y Z,RdV K H x Y/\RdV K H y Z/\SeqAt.shaped Y=true/\SeqAt.shaped Z=true/\Q (.bl (!PyData.eqv Y Z)) H
theorem o8(B:X.A.units+64<cLine):OpR X (compareOp .Eq) (Zx X.K):=by
 intro pins s σ H x y v u Q I U V h
 obtain⟨R,S,ha,T,sa,W,q⟩:=h
 obtain⟨as,Y⟩:=ha.reads I U
 obtain⟨bs,Z⟩:=T.reads I V
 exact SeqAt.compareEq_shaped Y Z sa W B ⟨.bl _,H,I,rfl,q⟩
theorem sO(B:X.A.units+64<cLine):OpR X (compareOp .NotEq) (Zy X.K):=by
 intro pins s σ H x y v u Q I U V h
 obtain⟨R,S,ha,T,sa,W,q⟩:=h
 obtain⟨as,Y⟩:=ha.reads I U
 obtain⟨bs,Z⟩:=T.reads I V
 exact SeqAt.compareNe_shaped Y Z sa W B ⟨.bl _,H,I,rfl,q⟩
end
def isT(c T:String):Bool:=T==c||(T=="bool"&&c=="int")
section
variable{K:PySem.W.Frag}
theorem W9(h:c="int"\/c="bool"\/c="tuple"\/c="list"\/c="str")(g:T="NoneType"\/T="bool"\/T="int"\/T="str"\/T="list"\/T="tuple"\/T="dict"):
 PySem.W.kitOne K (.type T) (.type c)=some (isT c T):=by
 rcases h with rfl|rfl|rfl|rfl|rfl<;>rcases g with rfl|rfl|rfl|rfl|rfl|rfl|rfl<;>kernel_rfl
end
section
variable{X:Cx}
end
theorem big{σ:St}(I:Inv X pins σ H s):sysModules<s.heap.objs.size:=by
 have h:mainGlobals<s.heap.objs.size:=(I.mod.glob.keeps I.bk).lt
 exact oG (by decide) h
theorem Nu(h:Heap)(B:sysModules<h.objs.size):gY P w H (h.push {cls:=.type "dict", data:=.dict #[]}) h.objs.size (.dK []):=
 ⟨cZ _,beq_eq_false_iff_ne.mpr (Ne.symm (aW B)),[],.nil,Heap.DictOf.new h⟩
def W_:TE:=λ_ H Q=>∀p,H p=none->Q (.ref p) (upd H p (.dK []))
theorem Nv:PE X (.Dict [] [] pos) W_:=λpins s σ H Q I h=>
 wpAny_Dict_empty ⟨.ref s.heap.objs.size,_,I.laid (a:=s.heap.objs.size) (o:=.dK []) (t':=s.toks) (λ_ _ q=>ad _ q) (aL _) (Nu s.heap (big I)),rfl,h _ (I.hok.fresh (aL _))⟩
end My
namespace My
open PySem PySem.Spec PyProof.Rows L2
section
variable{X:Cx}{a b c d:Expr}{ta tb tc td:TE}{pos:Pos}
noncomputable def Sx(r r' B:R2)(ta tb tc td:TE):TE:=λσ H Q=>ta σ H λx H1=>tb σ H1 λy H2=>r x y H2 λz W=>∃k,z = .bl k /\
 (if k=true then tc σ W λZ S=>r' y Z S λV X=>∃Y,V = .bl Y/\(if Y=true then td σ X λU T=>B Z U T Q else Q (.bl false) X)else Q (.bl false) W)
theorem K3{B:CmpOp}{D:R2}(ho:OpR X (compareOp op) r)(O:OpR X (compareOp op') r')(J:OpR X (compareOp B) D)(ha:PE X a ta)(hb:PE X b tb)(hc:PE X c tc)(hd:PE X d td)
 (hm:lastMarks [op,op',B] [b,c,d]=false:=by with_unfolding_all rfl):PE X (.Compare a [op,op',B] [b,c,d] pos) (Sx r r' D ta tb tc td):=by
 intro pins s σ H Q I h
 refine Compare_chain (thn (ha pins s σ H _ I h) λv s1 ⟨x,H1,n,A,q1⟩=>chain_link (thn (hb pins s1 σ H1 _ n q1) λu s2 ⟨y,H2,o,V,q2⟩=>
  thn (ho pins s2 σ H2 x y v u _ o A V q2) λd s3 ⟨z,N,R,C,k,e,T⟩=>?_)) hm
 subst e
 cases C
 refine ay ?_
 cases k with
 |false=>exact ite_ff ⟨.bl false,N,R,rfl,T⟩
 |true=>
  refine ite_tt (chain_link (thn (hc pins s3 σ N _ R T) λY F ⟨Z,l,p,W,t⟩=>thn (O pins F σ l y Z u Y _ p V W t) λj G ⟨z2,P,S,E,k2,e2,U⟩=>?_))
  subst e2
  cases E
  refine ay ?_
  cases k2 with
  |false=>exact ite_ff ⟨.bl false,P,S,rfl,U⟩
  |true=>exact ite_tt (chain_last (thn (hd pins G σ P _ S U) λL K ⟨M,m,q,r6,w⟩=>J pins K σ m Z M Y L Q q W r6 w))
end
structure Blt(mg:Str->Option Value):Prop where
 len_:mg "len"=none
 range_:mg "range"=none
 abs_:mg "abs"=none
 isinstance_:mg "isinstance"=none
 int_:mg "int"=none
 bool_:mg "bool"=none
 tuple_:mg "tuple"=none
 max_:mg "max"=none
 min_:mg "min"=none
end My
namespace My
open PySem PySem.Spec PyProof.Rows L2
abbrev cx(P:Program)(w:World)(K:PySem.W.Frag)(mg:Str->Option Value)(base:Heap)(N:List Str)(x:Str)(st:Stmt)(f:Addr)(cdv:Value)(A:Around)(outer:List Env)(s:Shared)(H:Hp)(E:XK):Cx:=
 (Fe CX0 P w K mg base N x (bK st) f cdv A outer s H E).nox
end My
variable{env:Env}
namespace My
open PySem PySem.Spec PyProof.Rows L2
noncomputable def rH(env:Env):List (Str×NameKind)->List (Str×Addr)->List (Str×Addr)
 |[],Z=>Z
 | (n,k)::r,Z=>if(k==NameKind.free)=true then rH env r ((n,(env.cells.lookup n).getD 0)::Z)else rH env r Z
theorem uU:∀(l:List (Str×NameKind))(B:List (Str×Addr)),(∀x∈l,x.2 = .free->∃c,env.cells.lookup x.1=some c) ->
 (forIn l B λ(x:Str×NameKind)(r:List (Str×Addr))=>(if(x.2==NameKind.free)=true then(do let c <-cellOf env x.1;pure (ForInStep.yield ((x.1,c)::r)))else pure (ForInStep.yield r):Sem (ForInStep (List (Str×Addr)))))=pure (rH env l B)
 |[],_,_=>rfl
 | (n,k)::r,B,h=>by
  rw[rZ]
  by_cases Z:(k==NameKind.free)=true
  ·obtain⟨c,V⟩:=h (n,k) aJ (beq_iff_eq.mp Z)
   have W:cellOf env n=pure c:=by
    unfold cellOf
    rw[show env.cells.lookup n=some c from V]
   show(do let x <-(if(k==NameKind.free)=true then(do let c <-cellOf env n;pure (ForInStep.yield ((n,c)::B)))else pure (ForInStep.yield B):Sem (ForInStep (List (Str×Addr))));_)=_
   rw[if_pos Z,W]
   have Y:=uU r ((n,c)::B) λx X=>h x (aK _ X)
   rw[rH,if_pos Z,show env.cells.lookup n=some c from V]
   exact Y
  ·show(do let x <-(if(k==NameKind.free)=true then(do let c <-cellOf env n;pure (ForInStep.yield ((n,c)::B)))else pure (ForInStep.yield B):Sem (ForInStep (List (Str×Addr))));_)=_
   rw[if_neg Z]
   have Y:=uU r B λx X=>h x (aK _ X)
   rw[rH,if_neg Z]
   exact Y
theorem HD{scope:Scope}(h:∀x∈scope.names,x.2 = .free->∃c,env.cells.lookup x.1=some c):closureFor scope env=pure (rH env scope.names []):=by
 have z:=uU (env:=env) scope.names [] h
 show(forIn scope.names [] λ(x:Str×NameKind)(r:List (Str×Addr))=>(if(x.2==NameKind.free)=true then(do let c <-cellOf env x.1;pure (ForInStep.yield ((x.1,c)::r)))else pure (ForInStep.yield r):Sem (ForInStep (List (Str×Addr))))) >>= (λZ=>pure Z)=_
 rw[z]
 rfl
theorem yI:∀(l:List (Str×NameKind))(B:List (Str×Addr)),(∀x∈l,x.2 = .free->∃c,env.cells.lookup x.1=some c)->(∀x c,B.lookup x=some c->env.cells.lookup x=some c) ->
 ∀x c,(rH env l B).lookup x=some c->env.cells.lookup x=some c
 |[],_,_,Y,x,c,e=>Y x c e
 | (n,k)::r,B,h,Y,x,c,e=>by
  rw[rH]at e
  by_cases V:(k==NameKind.free)=true
  ·rw[if_pos V]at e
   obtain⟨d,hd⟩:=h (n,k) aJ (beq_iff_eq.mp V)
   refine yI r _ (λx W=>h x (aK _ W)) (λy c' Z=>?_) x c e
   rw[dI]at Z
   cases X:y==n with
   |true=>
    rw[X]at Z
    have:y=n:=beq_iff_eq.mp X
    subst this
    rw[show env.cells.lookup y=some d from hd]at Z ⊢
    exact Z
   |false=>
    rw[X]at Z
    exact Y y c' Z
  ·rw[if_neg V]at e
   exact yI r B (λx W=>h x (aK _ W)) Y x c e
theorem sU:∀(l:List (Str×NameKind))(B:List (Str×Addr))(x:Str),((x,NameKind.free)∈l\/∃c,B.lookup x=some c)->∃c,(rH env l B).lookup x=some c
 |[],_,x,h=>by
  rcases h with h|h
  ·exact absurd h (by simp)
  ·exact h
 | (n,k)::r,B,x,h=>by
  rw[rH]
  by_cases Z:(k==NameKind.free)=true
  ·rw[if_pos Z]
   refine sU r _ x ?_
   by_cases e:x=n
   ·subst e
    exact .inr ⟨_,by rw[dI,beq_self_eq_true]⟩
   ·rcases h with h|⟨c,h⟩
    ·rcases aU.mp h with h|h
     ·exact absurd (congrArg Prod.fst h) e
     ·exact .inl h
    ·exact .inr ⟨c,by rw[dI,beq_eq_false_iff_ne.mpr e];exact h⟩
  ·rw[if_neg Z]
   refine sU r B x ?_
   rcases h with h|h
   ·rcases aU.mp h with h|h
    ·have:k = .free:=(congrArg Prod.snd h).symm
     subst this
     exact absurd rfl Z
    ·exact .inl h
   ·exact .inr h
noncomputable abbrev blk(X:Cx)(B:List Str)(scope:Scope)(cl:List (Str×Addr))(C:Addr)(s3:Shared)(D:Hp)(fp:List Addr):Cx:=
 {X with N:=B,s₀:=s3,H₀:=D,env:=compEnvC scope cl C X.env,outer:=X.stack,ex:=fp,fn:=λ_=>false,xe:=λ_ _=>False}
noncomputable def yJ(N:List Str)(kinds B:List (Str×NameKind)):List Str->List Nat->Bool
 |[],[]=>true
 |x::V,j::ix=>(N[j]? == some x)&&((kinds.lookup x==some NameKind.cell)&&((B.lookup x==some NameKind.free)&&yJ N kinds B V ix))
 |_,_=>false
def Ah(t:Nat)(ix:List Nat)(σ:St):St:=aQ t none++ix.map λj=>(σ[j]?).getD none
theorem yK{kinds B:List (Str×NameKind)}:∀{V:List Str}{ix:List Nat},yJ N kinds B V ix=true->ix.length=V.length/\∀(k:Nat)(x:Str),V[k]? = some x->∃j,ix[k]? = some j/\N[j]? = some x/\kinds.lookup x=some .cell/\B.lookup x=some .free
 |[],[],_=>⟨rfl,λk x h=>by simp at h⟩
 |x::V,j::ix,h=>by
  rw[yJ,bf,bf,bf]at h
  obtain⟨h1,h2,X,Y⟩:=h
  obtain⟨l,r⟩:=yK Y
  refine⟨by simp[l],λk y Z=>?_⟩
  cases k with
  |zero=>
   simp at Z
   subst Z
   exact⟨j,rfl,beq_iff_eq.mp h1,beq_iff_eq.mp h2,beq_iff_eq.mp X⟩
  |succ k=>exact r k y (by simpa using Z)
 |[],_::_,h=>by simp[yJ]at h
 |_::_,[],h=>by simp[yJ]at h
theorem vq{env:Env}(B:env.scope.kind = .function):∀{names:List (Str×NameKind)}{x:Str},names.lookup x=some .free->env.kindOf x=some .cell ->
 (names.map λ(n,k)=>if(k==NameKind.free&&env.scope.kind == .function&&env.kindOf n==some .cell)then(n,NameKind.cell)else(n,k)).lookup x=some .cell
 |[],_,h,_=>by simp at h
 | (n,k)::r,x,h,Y=>by
  have X:=@vq env B r x
  show wW x ((if(k==NameKind.free&&env.scope.kind == .function&&env.kindOf n==some .cell)=true then(n,NameKind.cell)else(n,k))::_)=_
  cases Z:x==n with
  |true=>
   have e:x=n:=beq_iff_eq.mp Z
   subst e
   simp only[dI,Z]at h
   cases h
   rw[if_pos (by rw[B,Y];rfl)]
   simp[dI]
  |false=>
   simp only[dI,Z]at h
   by_cases W:(k==NameKind.free&&env.scope.kind == .function&&env.kindOf n==some .cell)=true
   ·rw[if_pos W];simp only[dI,Z];exact X h Y
   ·rw[if_neg W];simp only[dI,Z];exact X h Y
theorem rJ{env:Env}:∀{names:List (Str×NameKind)}{x:Str}{k:NameKind},(∀y∈names,y.2 ≠ .cell)->(k = .cell\/k = .free) ->
 (names.map λ(n,k)=>if(k==NameKind.free&&env.scope.kind == .function&&env.kindOf n==some .cell)then(n,NameKind.cell)else(n,k)).lookup x=some k->(x,NameKind.free)∈names
 |[],_,_,_,_,h=>by simp at h
 | (n,X)::r,x,k,U,Y,h=>by
  have V:=@rJ env r x k (λy S=>U y (aK _ S)) Y
  have h':wW x ((if(X==NameKind.free&&env.scope.kind == .function&&env.kindOf n==some .cell)=true then(n,NameKind.cell)else(n,X))::(r.map λ(n,k)=>if(k==NameKind.free&&env.scope.kind == .function&&env.kindOf n==some .cell)then(n,NameKind.cell)else(n,k)))=some k:=h
  by_cases W:(X==NameKind.free&&env.scope.kind == .function&&env.kindOf n==some .cell)=true
  ·rw[if_pos W]at h'
   have T:X = .free:=by
    rw[bf,bf]at W
    exact beq_iff_eq.mp W.1.1
   cases Z:x==n with
   |true=>
    have e:x=n:=beq_iff_eq.mp Z
    subst e
    subst T
    exact aJ
   |false=>
    simp only[dI,Z]at h'
    exact aK _ (V h')
  ·rw[if_neg W]at h'
   cases Z:x==n with
   |true=>
    have e:x=n:=beq_iff_eq.mp Z
    subst e
    simp only[dI,Z]at h'
    cases h'
    rcases Y with Y|Y
    ·exact absurd Y (U _ aJ)
    ·subst Y
     exact aJ
   |false=>
    simp only[dI,Z]at h'
    exact aK _ (V h')
section
variable{X:Cx}{pins:List (Addr×Obj)}{σ:St}{H:Hp}{s:Shared}
theorem Inv.forget{σ':St}(I:Inv X pins σ H s)(B:σ'.length=X.N.length)(h:∀(i:Nat) (v:V),σ'[i]? = some (some v)->σ[i]? = some (some v)):Inv X pins σ' H s:=by
 obtain⟨m,hn,Z⟩:=I.loc
 exact⟨I.ok,I.os,I.bare,I.base,⟨m,hn,λi x v W e2 Y=>Z i x v W (h i v e2) Y⟩,I.cell,I.free,I.freeC,I.pin,I.hok,B⟩
end
end My
variable{prog:Program}{ix:List Nat}{spos:Pos}
namespace My
open PySem PySem.Spec PyProof.Rows L2
theorem Fq{R:Result->Shared->Prop}{elt target:Expr}{ifs:List Expr}{scope:Scope}{it acc:Value}(I:Nat->Shared->Prop)
 (turn:∀n s,I n s->wpAny (model prog w) A (pyNext it) (λr J=>match r with
  |none=>R (.ok .next) J
  |some v=>wpAny (model prog w) A (letOwnedTupleGo target it v) (λ_ D=>wpAny (model prog w) A (assign target env v) (λ_ Y=>
   wpAny (model prog w) A (forIn ifs true λc r=>if r=true then do let ok <-isTrue c env (eval c env);pure (ForInStep.yield ok)else pure (ForInStep.yield r)) (λok B=>
    if ok=true then wpAny (model prog w) A (eval elt env) (λx W=>
     wpAny (model prog w) A (call (.builtin "list.append") [acc,x]) (λ_ O=>∃m,m<n/\I m O) (λ_ _=>False) W) (λ_ _=>False) B
    else ∃m,m<n/\I m B) (λ_ _=>False) Y) (λ_ _=>False) D) (λ_ _=>False) J) (λ_ _=>False) s)
 (n:Nat) (h:I n s) :
 codeAny (model prog w) A (.compLoop (.ListComp elt [⟨target,iter,ifs,0⟩] scope pos) 0 it acc env) R s:=by
 refine codeAny_loop rfl I (λn s Q=>?_) n h
 show wpAny _ A ((compTurn (.ListComp elt [⟨target,iter,ifs,0⟩] scope pos) 0 it acc env).onRaise (λx=>do noteFrame x env;theTreesLotGoes x)) _ _ s
 refine wpAny_noted ?_
 rw[compTurn_list]
 refine aa (de (aa (a6 (turn n s Q) (λr J X=>?_) λ_ _ h'=>h'.elim)))
 cases r with
 |none=>exact ae X
 |some v=>
  refine aa (a6 X (λ_ D V=>?_) λ_ _ h'=>h'.elim)
  refine aa (a6 V (λ_ Y S=>aa (a6 S (λok B Z=>?_) λ_ _ h'=>h'.elim)) λ_ _ h'=>h'.elim)
  cases ok with
  |false=>exact ae ⟨rfl,Z⟩
  |true=>
   exact aa (aa (a6 Z (λx W T=>aa (a6 T (λ_ O U=>ae (ae ⟨rfl,U⟩)) λ_ _ h'=>h'.elim)) λ_ _ h'=>h'.elim))
section
variable{X:Cx}{pins:List (Addr×Obj)}{σ:St}{H:Hp}
theorem K4{T V:List Str}{scope:Scope}{s3:Shared}{B:Heap}{tk:Nat}
 (I:Inv X pins σ H s3) (J:∀b∈fp,wg X pins H b) (ho:∀b∈fp,∃o,s3.heap.get? b=some o)
 (hk:scope.kind = .function) (D:∀y∈scope.names,y.2 ≠ .cell) (hfr:∀x∈scope.names,x.2 = .free->x.1∈V) (hB:yJ X.N X.env.scope.names scope.names V ix=true)
 (hns:B.Ns s3.heap.objs.size m) (keep:∀b o,s3.heap.get? b=some o->B.get? b=some o) :
 Inv (blk X (T++V) scope (rH X.env scope.names []) s3.heap.objs.size s3 H fp) pins (Ah T.length ix σ) H {s3 with heap:=B,toks:=tk}:=by
 obtain⟨C,R⟩:=yK hB
 have L:∀x∈scope.names,x.2 = .free->∃c,X.env.cells.lookup x.1=some c:=λx U e=>by
  obtain⟨k,g⟩:=gH (hfr x U e)
  obtain⟨j,_,_,P,_⟩:=R k _ g
  exact I.ok.has _ (.inl P)
 have sub:=yI (env:=X.env) scope.names [] L (λx c e=>by simp at e)
 have stkSub:∀b,b∈frs X.stack->b=X.env.locals\/b∈X.fs:=λb z=>aU.mp (I.stkSub b z)
 have lt:∀b o,s3.heap.get? b=some o->b≠s3.heap.objs.size:=λb o e=>aW (af e)
 have cellK:∀c v,s3.heap.IsCell c v->B.IsCell c v:=λc v ⟨o,e,d⟩=>⟨o,keep c o e,d⟩
 refine⟨⟨I.ok.mod,hk,I.ok.glob,I.ok.blt,aL _,λx y c G e2=>I.ok.inj x y c (sub x c G) (sub y c e2),λx U=>?_,λx c U=>?_,I.ok.hd,I.ok.frames,.inl rfl,λb Q=>⟨?_,λx c e=>?_⟩,I.bs,bF I.ok.bsz I.sz,λb o e Q=>?_,λb Q z=>?_,I.stack,I.stkFree⟩,
  rfl,I.bare,Un.kept keep,⟨m,hns,λi x v G e2 e3=>?_⟩,λx c e=>?_,I.hok.fresh (aL _),λx c e=>I.freeC x c (sub x c e),λp A=>?_,I.hok.kept keep,?_⟩
 ·rcases U with U|U
  ·exact sU _ _ x (.inl (rJ D (.inl rfl) U))
  ·exact sU _ _ x (.inl (rJ D (.inr rfl) U))
 ·exact absurd U (by simp)
 ·obtain⟨o,e⟩:=ho b Q
  exact lt b o e
 ·exact(J b Q).2.2.2.2.1 x c (sub x c e)
 ·rcases(J b Q).2.2.2.1 with z|z
  ·exact I.ok.noex b o e z
  ·exact absurd (bY (af e) (bF I.ok.bsz z)) (eN _)
 ·rcases stkSub b z with z|z
  ·exact(J b Q).2.1 z
  ·exact(J b Q).2.2.1 z
 ·by_cases hi:i<T.length
  ·have W:(aQ T.length none++ix.map λj=>(σ[j]?).getD none)[i]? = some (some v):=e2
   rw[cg (by rw[bM];exact hi),fM,if_pos hi]at W
   exact absurd W (by simp)
  ·have M:(T++V)[i]? = some x:=G
   rw[bT (by omega)]at M
   obtain⟨j,s,h,P,Y⟩:=R _ x M
   have W:(aQ T.length none++ix.map λj=>(σ[j]?).getD none)[i]? = some (some v):=e2
   rw[bT (by rw[bM];omega),bM,bw,s]at W
   have Z:(σ[j]?).getD none=some v:=by simpa using W
   have K:σ[j]? = some (some v):=by
    cases q:σ[j]? with
    |none=>rw[q]at Z;exact absurd Z (by simp)
    |some o=>rw[q]at Z;simp at Z;rw[Z]
   obtain⟨a,w,t⟩:=I.loc
   obtain⟨u,r,l⟩:=t j x v h K (.inr (.inl P))
   rcases l with⟨z,_⟩|⟨_,c,f,S⟩
   ·have F:X.env.scope.names.lookup x=some .local:=z
    rw[P]at F
    exact absurd F (by simp)
   ·obtain⟨c',O⟩:=sU (env:=X.env) scope.names [] x (.inl (PySem.mem_of_lookup Y))
    have:c'=c:=by
     have q:=sub x c' O
     rw[f]at q
     exact(dh.inj q).symm
    subst this
    exact⟨u,r,.inr ⟨.inl (vq I.ok.kind Y P),c',O,cellK _ _ S⟩⟩
 ·obtain⟨v,z⟩:=I.cell x c (sub x c e)
  exact⟨v,cellK c v z⟩
 ·obtain⟨e,n,ne,E,d⟩:=I.pin p A
  refine⟨keep _ _ e,n,lt _ _ e,λz=>?_,d⟩
  rcases stkSub p.1 z with z|z
  ·exact ne z
  ·exact E z
 ·show(aQ T.length none++ix.map λj=>(σ[j]?).getD none).length=(T++V).length
  rw[bh,bM,aq,bh,C]
theorem Nx{N':List Str}{scope:Scope}{cl:List (Str×Addr)}{pins':List (Addr×Obj)}{σ':St}{J:Hp}{s3 s':Shared}(O:Inv X pins σ J s3)(D:∀b∈fp,wg X pins J b)
 (B:Inv (blk X N' scope cl s3.heap.objs.size s3 J fp) pins' σ' H' s'):Inv X pins σ H' s'/\wg X pins H' s3.heap.objs.size:=by
 have fr:H' s3.heap.objs.size=none:=B.free
 refine⟨?_,O.fpOk (aL _) fr⟩
 have os:s'.os=s3.os:=B.os
 have u:Un (frs X.stack) fp J H' s3.heap s'.heap:=B.base
 have W:=B.hok
 have U:=B.bare
 obtain⟨V,g,d,t,Y⟩:=s'
 obtain rfl:Y=s3.os:=os
 exact O.call (h':=V) (g':=g) (d':=d) (t':=t) (ch:=fp) u W U λb Z=>⟨(D b Z).2.2.2.1,(D b Z).2.1,(D b Z).2.2.2.2.1,(D b Z).2.2.2.2.2⟩
end
def PTs(X:Cx)(ifs:List Expr)(t:TT):Prop:=
 ∀(pins:List (Addr×Obj))(s:Shared)(σ:St)(H:Hp)(Q:Bool->Hp->Prop),Inv X pins σ H s->t σ H Q ->
  wpAny (model X.prog X.w) X.A (forIn ifs true λc r=>if r=true then do let ok <-isTrue c X.env (eval c X.env);pure (ForInStep.yield ok)else pure (ForInStep.yield r)) (TP X pins σ Q) X.xe s
def mK:TT:=λ_ H Q=>Q true H
theorem Sy:PTs X [] mK:=λ_ _ _ H _ I h=>wpAny_tests_nil ⟨H,I,h⟩
theorem xW{c:Expr}{t:TT}(h:PT X c t):PTs X [c] t:=λpins s σ H Q I q=>wpAny_tests_one (h pins s σ H Q I q)
def Jm(wi:TI)(g:TG)(tt:TT)(te:TE)(t:Nat)(B:St->St):TE:=λσ H Q=>wi σ H λJ H1=>∀D,H1 D=none->∃W:Nat->Nat->List V->Hp->Prop,(∃m,W 0 m [] (upd H1 D (.lst []))) /\
 ∀i m xs H2,W i m xs H2->H2 D=some (.lst xs)/\((J.stop i H2/\Q (.ref D) H2)\/(J.go i H2/\xs.length<sizeLine/\∀x T,J.yld i H2 x T->g x (B σ) T λZ S=>Z.drop t=(B σ).drop t /\
  tt Z S λb U=>if b=true then te Z U λv X=>X D=some (.lst xs)/\∃Y,Y<m/\W (i+1) Y (xs++[v]) (upd X D (.lst (xs++[v])))else ∃Y,Y<m/\W (i+1) Y xs U))
section
variable{X:Cx}{elt tg iter:Expr}{ifs:List Expr}{scope:Scope}{pos:Pos}{T V:List Str}{ix:List Nat}{wi:TI}{g:TG}{tt:TT}{te:TE}
theorem Bo(hc:X.calm=true)(hi:PI X tg iter wi)
 (hg:∀cl C s3 B fp,PG (blk X (T++V) scope cl C s3 B fp) tg g) (ht:∀cl C s3 B fp,PTs (blk X (T++V) scope cl C s3 B fp) ifs tt) (he:∀cl C s3 B fp,PE (blk X (T++V) scope cl C s3 B fp) elt te)
 (hB:yJ X.N X.env.scope.names scope.names V ix=true) (hk:scope.kind = .function) (O:∀y∈scope.names,y.2 ≠ .cell) (hnames:∀x∈scope.names,x.2 = .local->scope.names.lookup x.1=some .local)
 (hfr:∀x∈scope.names,x.2 = .free->x.1∈V) (hs:∀x,foldedSetIterable iter X.env x=pure x) {p:Pos}
 {pins:List (Addr×Obj)} {s:Shared} {σ:St} {H:Hp} (I:Inv X pins σ H s) {use:Option (Value->Sem Unit)} {Qp:Value->Shared->Prop} {Qv:VK} (h:Jm wi g tt te T.length (Ah T.length ix) σ H Qv)
 (fin:∀(D C:Addr)(H':Hp)(s':Shared)(m:Str->Option Value),Inv X pins σ H' s'->wg X pins H' C->s'.heap.Ns C m->Qv (.ref D) H'->compPost (model X.prog X.w) X.A X.xe use Qp (.ref D) C (.ok .next) s') :
 wpAny (model X.prog X.w) X.A (comprehension (.ListComp elt [⟨tg,iter,ifs,0⟩] scope pos) scope X.env p (newList []) false (eval iter X.env) use) Qp X.xe s:=by
 obtain⟨lV,capV⟩:=yK hB
 have hcl:∀x∈scope.names,x.2 = .free->∃c,X.env.cells.lookup x.1=some c:=λx hx e=>by
  obtain⟨k,ek⟩:=gH (hfr x hx e)
  obtain⟨j,_,_,hc',_⟩:=capV k _ ek
  exact I.ok.has _ (.inl hc')
 refine wpAny_comprehension_free rfl hs (HD hcl) hk hnames ?_
 refine thn (hi pins s σ H _ I h) λv s1 h1=>thn h1 λitv s2 h2=>?_
 obtain⟨it,fp,tn,J,H2,e,I2,S,l,f2,R⟩:=h2
 subst e
 refine aE (hd:=by size_fits) ?_
 have hD:H2 s2.heap.objs.size=none:=I2.hok.fresh (aL _)
 have I3:Inv X pins σ (upd H2 s2.heap.objs.size (.lst [])) {s2 with heap:=s2.heap.push {cls:=.type "list", dict:=none,data:=.seq ([]:List Value).toArray} }:=
  I2.laid (t':=s2.toks) (λb o e=>ad _ e) (aL _) ⟨cZ _,[],0,.nil,ag _ rfl⟩
 obtain⟨W,⟨m0,w0⟩,turn⟩:=R s2.heap.objs.size hD
 generalize hs3:({s2 with heap:=s2.heap.push {cls:=.type "list", dict:=none,data:=.seq ([]:List Value).toArray} }:Shared)=s3 at I3 ⊢
 have t:tn 0 s3.heap:=by
  rw[<-hs3]
  exact S.keep 0 s2.heap _ l λb Z o e=>ad _ e
 have f3:∀b∈fp,wg X pins (upd H2 s2.heap.objs.size (.lst [])) b:=λb Z=>by
  obtain⟨z0,z1⟩:=f2 b Z
  refine⟨?_,z1⟩
  obtain⟨o,eo,_⟩:=S.obj 0 _ l b Z
  rw[cO (aW (af eo))]
  exact z0
 generalize hH3:upd H2 s2.heap.objs.size (.lst [])=B at I3 f3 w0
 generalize hDn:s2.heap.objs.size=D at turn
 refine wpAny_newFunctionEnv O (by intro y hy;simp at hy) (λU M P=>?_) hk
 have keep:∀b o,s3.heap.get? b=some o->U.get? b=some o:=λb o e=>P.extBut b o (aW (af e)) (ad _ e)
 have I4:=K4 (T:=T) (tk:=s3.toks+([]:List (Str×Value)).length) I3 f3 (λb Z=>let⟨o,eo,_⟩:=S.obj 0 _ t b Z;⟨o,eo⟩) hk O hfr hB M keep
 have z:tn 0 U:=S.keep 0 _ _ t λb Z o e=>keep b o e
 have loop:codeAny (model X.prog X.w) X.A (.compLoop (.ListComp elt [⟨tg,iter,ifs,0⟩] scope pos) 0 (.ref it) (.ref D) (compEnvC scope (rH X.env scope.names []) s3.heap.objs.size X.env))
  (compPost (model X.prog X.w) X.A X.xe use Qp (.ref D) s3.heap.objs.size) {s3 with heap:=U,toks:=s3.toks+([]:List (Str×Value)).length}:=by
  refine Fq (λn s'=>∃i xs H',Inv (blk X (T++V) scope (rH X.env scope.names []) s3.heap.objs.size s3 B fp) pins (Ah T.length ix σ) H' s'/\tn i s'.heap/\(∀b∈fp,H' b=none)/\W i n xs H') ?_ m0
   ⟨0,[],B,I4,z,λb Z=>(f3 b Z).1,w0⟩
  rintro n s5 ⟨i,xs,H5,I5,E,a,w5⟩
  have Y:∀{H':Hp}{pins':List (Addr×Obj)}{σ':St}{s':Shared},Inv (blk X (T++V) scope (rH X.env scope.names []) s3.heap.objs.size s3 B fp) pins σ' H' s'->(∀b∈fp,H' b=none)->∀b∈fp,wg (blk X (T++V) scope (rH X.env scope.names []) s3.heap.objs.size s3 B fp) pins H' b:=λI' hn b Z=>by
   obtain⟨x1,x2⟩:=I'.ok.exf b Z
   refine⟨hn b Z,x1,I'.ok.exfs b Z,.inl Z,x2,λq hq=>?_⟩
   exact(f3 b Z).2.2.2.2.2 q hq
  obtain⟨hD5,r5⟩:=turn i n xs H5 w5
  rcases r5 with⟨stop,q⟩|⟨go,hz,step⟩
  ·refine thn (S.done (blk X (T++V) scope (rH X.env scope.names []) s3.heap.objs.size s3 B fp) rfl rfl rfl hc i pins s5 _ H5 _ I5 (Y (pins':=pins) I5 a) E stop) λr s6 ⟨hr,I6⟩=>?_
   subst hr
   obtain⟨Ib,fC⟩:=Nx I3 f3 I6
   obtain⟨m,hn,_⟩:=I6.loc
   exact fin D _ H5 s6 m Ib fC hn q
  ·refine thn (S.item (blk X (T++V) scope (rH X.env scope.names []) s3.heap.objs.size s3 B fp) rfl rfl rfl hc i pins s5 _ H5 _ I5 (Y (pins':=pins) I5 a) E go) λr s6 ⟨u,hr,h6⟩=>?_
   subst hr
   refine thn h6 λ_ s7 ⟨x,H7,I7,rx,y7,L,fr7⟩=>?_
   have I7':=I7.pinned (Y (pins':=pins) I7 fr7) (S.obj _ _ L)
   refine thn (hg _ _ _ _ _ _ s7 _ H7 x u _ I7' rx (step x H7 y7)) λ_ s8 ⟨Q,H8,I8,k8,q8⟩=>?_
   have again:∀{K:Hp}{G:Shared},Inv (blk X (T++V) scope (rH X.env scope.names []) s3.heap.objs.size s3 B fp) (pins++yF fp s7.heap) Q K G ->
    Inv (blk X (T++V) scope (rH X.env scope.names []) s3.heap.objs.size s3 B fp) pins (Ah T.length ix σ) K G/\tn (i+1) G.heap/\∀b∈fp,K b=none:=λ{K G} F=>by
    refine⟨Inv.forget F.unpinned I4.len λj v e=>?_,S.keep _ _ _ L λb Z o e=>(F.pin (b,o) (bI _ (bI _ (rF Z e)))).1,λb Z=>?_⟩
    ·by_cases hj:j<T.length
     ·have e':(aQ T.length none++ix.map λj=>(σ[j]?).getD none)[j]? = some (some v):=e
      rw[cg (by rw[bM];exact hj),fM,if_pos hj]at e'
      exact absurd e' (by simp)
     ·have ej:j=T.length+(j-T.length):=by omega
      rw[ej,<-fD]at e ⊢
      rw[k8]
      exact e
    ·obtain⟨o,e,d⟩:=S.obj _ _ L b Z
     exact(F.pin (b,o) (bI _ (bI _ (rF Z e)))).2.1
   refine thn (ht _ _ _ _ _ _ s8 Q H8 _ I8 q8) λok G ⟨K,F,q9⟩=>?_
   cases ok with
   |false=>
    obtain⟨m',lm,w9⟩:=q9
    obtain⟨a1,a2,a3⟩:=again F
    exact⟨m',lm,i+1,xs,K,a1,a2,a3,w9⟩
   |true=>
    refine thn (he _ _ _ _ _ _ G Q K _ F q9) λy s10 ⟨v,H10,I10,ry,f,m',lm,w10⟩=>?_
    refine thn (Bm _ s10 Q H10 (.ref D) [v] (.ref D) [y] (λ_ Hn=>Hn=upd H10 D (.lst (xs++[v]))) I10 rfl (.cons ry .nil) ⟨D,xs,v,rfl,rfl,f,hz,rfl⟩) λ_ s11 ⟨_,H11,I11,_,e11⟩=>?_
    subst e11
    obtain⟨a1,a2,a3⟩:=again I11
    exact⟨m',lm,i+1,_,_,a1,a2,a3,w10⟩
 exact codeAny_compStart_list loop (S.self _ 0 _ _ _ z loop)
theorem SJ(hc:X.calm=true)(T V:List Str)(ix:List Nat)(hi:PI X tg iter wi)
 (hg:∀cl C s3 O fp,PG (blk X (T++V) scope cl C s3 O fp) tg g) (ht:∀cl C s3 O fp,PTs (blk X (T++V) scope cl C s3 O fp) ifs tt) (he:∀cl C s3 O fp,PE (blk X (T++V) scope cl C s3 O fp) elt te)
 (hB:yJ X.N X.env.scope.names scope.names V ix=true:=by rfl) (hk:scope.kind = .function:=by rfl) (J:∀y∈scope.names,y.2 ≠ .cell:=by decide +kernel)
 (B:∀x∈scope.names,x.2 = .local->scope.names.lookup x.1=some .local:=by decide +kernel)
 (W:∀x∈scope.names,x.2 = .free->x.1∈V:=by decide +kernel) (hs:∀x,foldedSetIterable iter X.env x=pure x:=by intro _;rfl) :
 PE X (.ListComp elt [⟨tg,iter,ifs,0⟩] scope pos) (Jm wi g tt te T.length (Ah T.length ix)):=by
 intro pins s σ H Q I h
 rw[eval_ListComp]
 refine Bo (use:=none) hc hi hg ht he hB hk J B W hs I h λD C H' s' m L M hn q=>⟨m,hn,λh' R=>⟨.ref D,H',?_,rfl,q⟩⟩
 obtain⟨S,z1,z2,U,Y,Z⟩:=M
 exact L.turned (t':=s'.toks) (λb o P e=>R.extBut b o P e) S z1 U Y Z
theorem SM(hN:X.N.Nodup)(hi':X.N[i]? = some x)(hx:X.env.scope.names.lookup x=some .local)(hc:X.calm=true)(T V:List Str)(ix:List Nat)(hi:PI X tg iter wi)
 (hg:∀cl C s3 O fp,PG (blk X (T++V) scope cl C s3 O fp) tg g) (ht:∀cl C s3 O fp,PTs (blk X (T++V) scope cl C s3 O fp) ifs tt) (he:∀cl C s3 O fp,PE (blk X (T++V) scope cl C s3 O fp) elt te)
 (W:swapsWith (.ListComp elt [⟨tg,iter,ifs,0⟩] scope pos) (some (.Name x pos')) spos.line X.env=pure true:=by rfl)
 (hB:yJ X.N X.env.scope.names scope.names V ix=true:=by rfl) (hk:scope.kind = .function:=by rfl) (J:∀y∈scope.names,y.2 ≠ .cell:=by decide +kernel)
 (B:∀x∈scope.names,x.2 = .local->scope.names.lookup x.1=some .local:=by decide +kernel)
 (hfr:∀x∈scope.names,x.2 = .free->x.1∈V:=by decide +kernel) (hs:∀x,foldedSetIterable iter X.env x=pure x:=by intro _;rfl) :
 PS X (.Assign [.Name x pos'] (.ListComp elt [⟨tg,iter,ifs,0⟩] scope pos) spos) (Wx (Jm wi g tt te T.length (Ah T.length ix)) (M8 i)):=by
 intro pins s σ H D I h
 rw[exec_Assign_Name_used _ _ _ _ W]
 refine aa (de (aa ?_))
 show wpAny _ X.A (do let _ <-comprehension (.ListComp elt [⟨tg,iter,ifs,0⟩] scope pos) scope X.env _ (newList []) false (eval iter X.env) (some (assign (.Name x pos') X.env))) _ _ s
 refine aa (a6 (Bo (use:=some (assign (.Name x pos') X.env)) (Qp:=λ_ s'=>SP X pins D .next s') hc hi hg ht he hB hk J B hfr hs I h λE C H' s' m F G hn q=>?_) (λ_ s' L=>ae (ae L)) λ_ _ e=>e)
 obtain⟨P,z1,z2,Q,S,R⟩:=G
 refine wpAny_assign_Name (Bb F hN hi' (.inl hx) (v:=.ref E) rfl (λY U ⟨a,M,ha⟩=>⟨m,hn.sameBut M ?_,λh' Z=>⟨_,H',?_,q⟩⟩) (.inr hx))
 ·rcases ha with ha|ha
  ·rw[ha];exact z1
  ·exact Ne.symm (S x a ha)
 ·exact U.turned (t':=Y.toks) (λb o K e=>Z.extBut b o K e) P z1 Q S R
end
section
variable{X:Cx}{K:PySem.W.Frag}
end
end My
namespace D3
open PySem
abbrev D:=PyData
inductive U where
 |d (x:D)
 |x (c f:Str) (v:D)
noncomputable abbrev DS:=List (Option U)
inductive Oc where
 |nx (δ:DS)
 |rt (d:D)
 |bk (δ:DS)
 |ct (δ:DS)
 |ex (c f:Str) (v:D)
abbrev FE:=DS->Option D
abbrev FA:=DS->Option (List D)
abbrev FT:=DS->Option Bool
abbrev FS:=DS->Option Oc
abbrev FG:=D->DS->Option DS
mutual
def flat:D->Bool
 | .none=>true
 | .bool _=>true
 | .int _=>true
 | .str _=>true
 | .list _=>false
 | .tuple xs=>flats xs
 | .dict _=>false
def flats:List D->Bool
 |[]=>true
 |x::r=>flat x&&flats r
end
mutual
def nl:D->Nat
 | .none=>0
 | .bool _=>0
 | .int _=>0
 | .str _=>0
 | .list xs=>nls xs+1
 | .tuple xs=>nls xs
 | .dict _=>1
def nls:List D->Nat
 |[]=>0
 |x::r=>nl x+nls r
end
def fl1:D->Bool
 | .list xs=>flats xs
 |d=>flat d
noncomputable def ao(i:Nat):FE:=λδ=>match δ[i]? with
 |some (some (.d x))=>some x
 |_=>none
def dC(d:D):FE:=λ_=>some d
def dOp(g:D->D->Option D)(fa fb:FE):FE:=λδ=>(fa δ).bind λx=>(fb δ).bind λy=>g x y
def dUn(g:D->Option D)(fa:FE):FE:=λδ=>(fa δ).bind g
def aZ:FA:=λ_=>some []
def au(fa:FE)(fr:FA):FA:=λδ=>(fa δ).bind λx=>(fr δ).bind λr=>some (x::r)
def dTup(fa:FA):FE:=λδ=>(fa δ).bind λl=>if l.length<=sizeLine then some (.tuple l)else none
def iY(fa:FA):FE:=λδ=>(fa δ).bind λl=>if l.length<=sizeLine then some (.list l)else none
def dCall(F:List D->Option D)(fa:FA):FE:=λδ=>(fa δ).bind F
def iy(fa:FE):FE:=λδ=>(fa δ).bind λd=>if flat d=true then some d else none
def dN1(fa:FE):FE:=λδ=>(fa δ).bind λd=>if decide (nl d<=1)=true then some d else none
def HJ(fa:FE):FE:=λδ=>(fa δ).bind λd=>if fl1 d=true then some d else none
def Ai(fa fb:FE):FE:=λδ=>(fa δ).bind λx=>match x with
 | .bool true=>fb δ
 | .bool false=>some (.bool false)
 |_=>none
def dOr(fa fb:FE):FE:=λδ=>(fa δ).bind λx=>match x with
 | .bool true=>some (.bool true)
 | .bool false=>fb δ
 |_=>none
def Ny(fa:FE):FE:=λδ=>(fa δ).bind λx=>match x with
 | .bool b=>some (.bool (!b))
 |_=>none
def dIf(c:FT)(fa fb:FE):FE:=λδ=>(c δ).bind λb=>if b=true then fa δ else fb δ
def bN(fa:FE):FT:=λδ=>(fa δ).bind λx=>match x with
 | .bool b=>some b
 |_=>none
def Cr(a b:FT):FT:=λδ=>(a δ).bind λx=>if x=true then b δ else some false
def tOr(a b:FT):FT:=λδ=>(a δ).bind λx=>if x=true then some true else b δ
def jl(a:FT):FT:=λδ=>(a δ).map λx=>!x
def dJ:FS:=λδ=>some (.nx δ)
def bW(a b:FS):FS:=λδ=>(a δ).bind λo=>match o with
 | .nx δ'=>b δ'
 |o=>some o
noncomputable def Zz(i:Nat)(fe:FE):FS:=λδ=>(fe δ).bind λd=>some (.nx (δ.set i (some (.d d))))
def sIf(c:FT)(a b:FS):FS:=λδ=>(c δ).bind λt=>if t=true then a δ else b δ
def dF(fe:FE):FS:=λδ=>(fe δ).bind λd=>some (.rt d)
def ZC:FS:=λ_=>some (.rt .none)
def Jo(fe:FE):FS:=λδ=>(fe δ).bind λ_=>some (.nx δ)
def sBk:FS:=λδ=>some (.bk δ)
def sCt:FS:=λδ=>some (.ct δ)
def gN(i:Nat):FG:=λd δ=>some (δ.set i (some (.d d)))
def jE:List D->DS->Option DS:=λl δ=>match l with
 |[]=>some δ
 |_=>none
noncomputable def cF(g:FG)(r:List D->DS->Option DS):List D->DS->Option DS:=λl δ=>match l with
 |d::Z=>(g d δ).bind λδ'=>r Z δ'
 |[]=>none
def Cz(fe:FE)(g:FG):FS:=λδ=>(fe δ).bind λd=>(g d δ).bind λδ'=>some (.nx δ')
noncomputable def iT(g:FG)(b:FS):List D->DS->Option Oc
 |[],δ=>some (.nx δ)
 |d::r,δ=>(g d δ).bind λZ=>(b Z).bind λo=>match o with
  | .nx δ'=>iT g b r δ'
  | .ct δ'=>iT g b r δ'
  | .bk δ'=>some (.nx δ')
  | .rt v=>some (.rt v)
  | .ex c f v=>some (.ex c f v)
def mV(fi:FA)(g:FG)(b:FS):FS:=λδ=>(fi δ).bind λl=>iT g b l δ
open Classical in
noncomputable def fnD(p q:Nat)(b:FS):List D->Option D:=λds=>if ds.length=p then match b (ds.map (λd=>some (.d d))++aQ q none)with
 |some (.rt d)=>some d
 |some (.nx _)=>some .none
 |_=>none
 else none
def n_(t:Nat)(ix:List Nat)(δ:DS):DS:=aQ t none++ix.map λj=>(δ[j]?).getD none
noncomputable def lG(g:FG)(c:FT)(e:FE)(δ:DS):List D->Option (List D)
 |[]=>some []
 |d::r=>(g d δ).bind λZ=>(c Z).bind λb=>if b=true then(e Z).bind λx=>(lG g c e δ r).bind λl=>some (x::l)else lG g c e δ r
def jF(fi:FA)(g:FG)(c:FT)(e:FE)(t:Nat)(ix:List Nat):FE:=λδ=>(fi δ).bind λl=>if l.length<=100000 then(lG g c e (n_ t ix δ) l).bind λr=>some (.list r)else none
def mK:FT:=λ_=>some true
noncomputable def gI(g:Int->Int->Option D):D->D->Option D:=λx y=>match x,y with
 | .int i,.int j=>g i j
 |_,_=>none
noncomputable def pIx(n:Nat)(i:Int):Option Nat:=if 0<=i then(if i<n then some i.toNat else none)else if -(n:Int)<=i then some (i+n).toNat else none
def pAt(xs:List D)(i:Int):Option D:=(pIx xs.length i).bind λj=>xs[j]?
def isT(c T:String):Bool:=T==c||(T=="bool"&&c=="int")
def bU(i:Nat)(fe:FE):FS:=λδ=>if i<δ.length then Zz i fe δ else none
def eF:D->D->Option D:=gI λi j=>some (.int (i+j))
def uz:D->D->Option D:=gI λi j=>some (.int (i-j))
def yL(i j:Int):Bool:=decide (i.natAbs<2^64)||decide (j.natAbs<2^64)||(decide (i.natAbs<2^30000)&&decide (j.natAbs<2^30000))
def qu:D->D->Option D:=gI λi j=>if yL i j=true then some (.int (i*j))else none
def HN(_ j:Int):Bool:=decide (j≠0)&&decide (j.natAbs<2^9000)
def Ft:D->D->Option D:=gI λi j=>if HN i j=true then some (.int (i.fdiv j))else none
def uV:D->D->Option D:=gI λi j=>if decide (j≠0)=true then some (.int (i.fmod j))else none
def Xa(i j:Int):Bool:=decide (0<=j)&&decide (j<=1000)&&decide (i.natAbs<2^64)
def Xb:D->D->Option D:=gI λi j=>if Xa i j=true then some (.int (i^j.toNat))else none
def gLt:D->D->Option D:=gI λi j=>some (.bool (decide (i<j)))
def gLe:D->D->Option D:=gI λi j=>some (.bool (decide (i<=j)))
def gGt:D->D->Option D:=gI λi j=>some (.bool (decide (j<i)))
def gGe:D->D->Option D:=gI λi j=>some (.bool (decide (j<=i)))
def gEq:D->D->Option D:=λx y=>if(SeqAt.shaped x&&SeqAt.shaped y)=true then some (.bool (PyData.eqv x y))else none
def gNe:D->D->Option D:=λx y=>if(SeqAt.shaped x&&SeqAt.shaped y)=true then some (.bool (!PyData.eqv x y))else none
def gNl(i:Nat):FG:=λd δ=>if i<δ.length then gN i d δ else none
def gTn(n:Nat)(g:List D->DS->Option DS):FG:=λd δ=>match d with
 | .tuple l=>if l.length=n then g l δ else none
 |_=>none
def vC(i:Nat)(f:FE):FS:=λδ=>(ao i δ).bind λx=>(f δ).bind λd=>match x with
 | .list l=>if l.length<1000000 then some (.nx (δ.set i (some (.d (.list (l++[d]))))))else none
 |_=>none
def CG(i:Nat)(fk f:FE):FS:=λδ=>(f δ).bind λd=>(ao i δ).bind λx=>(fk δ).bind λk=>match x,k with
 | .list l,.int j=>(pIx l.length j).bind λn=>some (.nx (δ.set i (some (.d (.list (l.set n d))))))
 |_,_=>none
def putAt(x:D)(n:Nat)(d:D):D:=match x with
 | .list l=>.list (l.set n d)
 | .tuple l=>.tuple (l.set n d)
 |x=>x
def asList:D->Option (List D)
 | .list l=>some l
 |_=>none
def rK(f:FE):FA:=λδ=>(f δ).bind asList
noncomputable def gJ(lo hi:Int):List D:=(aV (hi-lo).toNat).map λ(k:Nat)=>.int (lo+(k:Int))
def yM(i:Int):Bool:=decide (-(2^62)<=i)&&decide (i<2^62)
def mO(fa:FA):FA:=λδ=>(fa δ).bind λl=>match l with
 |[.int j]=>if yM j=true then some (gJ 0 j)else none
 |_=>none
def Vv(fa:FA):FA:=λδ=>(fa δ).bind λl=>match l with
 |[.int i,.int j]=>if(yM i&&yM j)=true then some (gJ i j)else none
 |_=>none
def gIx:D->D->Option D:=λx y=>match x,y with
 | .list l,.int i=>pAt l i
 | .tuple l,.int i=>pAt l i
 |_,_=>none
noncomputable def lX(g g':D->D->Option D)(fa fb fc:FE):FE:=λδ=>(fa δ).bind λx=>(fb δ).bind λy=>(g x y).bind λz=>match z with
 | .bool true=>(fc δ).bind λw=>g' y w
 | .bool false=>some (.bool false)
 |_=>none
noncomputable def xX(g g' B:D->D->Option D)(fa fb fc fd:FE):FE:=λδ=>(fa δ).bind λx=>(fb δ).bind λy=>(g x y).bind λz=>match z with
 | .bool true=>(fc δ).bind λw=>(g' y w).bind λZ=>match Z with
  | .bool true=>(fd δ).bind λu=>B w u
  | .bool false=>some (.bool false)
  |_=>none
 | .bool false=>some (.bool false)
 |_=>none
noncomputable def isNone:D->Bool
 | .none=>true
 |_=>false
def Fv:D->Option D:=λx=>some (.bool (isNone x))
def ZD:D->Option D:=λx=>some (.bool (!isNone x))
def iZ:List D->Option D
 |[.list l]=>some (.int l.length)
 |[.tuple l]=>some (.int l.length)
 |_=>none
noncomputable def dO:List D->Option (List Int)
 |[]=>some []
 | .int i::r=>(dO r).map (i :: ·)
 |_=>none
noncomputable def mxI(i:Int)(r:List Int):Int:=r.foldl (λa b=>if a<b then b else a) i
def yN:List D->Option D
 |[.list l]=>match dO l with
  |some (i::r)=>some (.int (mxI i r))
  |_=>none
 |_=>none
noncomputable def insI(x:Int):List Int->List Int
 |[]=>[x]
 |y::r=>if x<=y then x::y::r else y::insI x r
def Aj:List Int->List Int
 |[]=>[]
 |x::r=>insI x (Aj r)
def Nz:List D->Option D
 |[.list l]=>(dO l).bind λns=>if ns.length<64 then some (.list ((Aj ns).map .int))else none
 |_=>none
def sV:List D->Option D
 |[.int i]=>some (.int i)
 |[.bool b]=>some (.int (if b then 1 else 0))
 |_=>none
def ag6:List D->Option D
 |[.int i]=>some (.int (if i<0 then -i else i))
 |_=>none
def yO:List D->Option D
 |[.int i,.int j]=>some (.int (if j>i then j else i))
 |_=>none
def Fw:List D->Option D
 |[.int i,.int j]=>some (.int (if j<i then j else i))
 |_=>none
noncomputable def tyD:D->String
 | .none => "NoneType"
 | .bool _ => "bool"
 | .int _ => "int"
 | .str _ => "str"
 | .list _ => "list"
 | .tuple _ => "tuple"
 | .dict _ => "dict"
def gIs(c:String):D->Option D:=λd=>some (.bool (isT c (tyD d)))
def SN:D->Option D
 | .int i=>some (.int (-i))
 |_=>none
noncomputable def kj:D->D->Option D:=λx y=>match x,y with
 | .list l,.list m=>if l.length+m.length<=1000000 then some (.list (l++m))else none
 |_,_=>none
noncomputable def uD:D->D->Option D:=λx y=>match x,y with
 | .list l,.int k=>if l.length*k.toNat<=1000000/\-(2^63)<=k/\k<2^63 then some (.list (aQ k.toNat l).flatten)else none
 |_,_=>none
def wY:D->Option D
 | .list l=>some (.list l)
 | .tuple l=>some (.list l)
 |_=>none
def Fx:D->Option D
 | .list l=>some (.list l.reverse)
 |_=>none
abbrev FO:=DS->Option (Option Int)
def kJ:FO:=λ_=>some none
def d8(f:FE):FO:=λδ=>(f δ).bind λx=>match x with
 | .int i=>some (some i)
 |_=>none
noncomputable def pSx(n d:Nat):Option Int->Nat
 |none=>d
 |some i=>if i<0 then(i+n).toNat else min i.toNat n
def cutD(xs:List D)(lo hi:Option Int):List D:=(xs.drop (pSx xs.length 0 lo)).take (pSx xs.length xs.length hi-pSx xs.length 0 lo)
def dSl(f:FE)(lo hi:FO):FE:=λδ=>(f δ).bind λx=>(lo δ).bind λa=>(hi δ).bind λb=>match x with
 | .list l=>some (.list (cutD l a b))
 |_=>none
noncomputable def ZF(i j:Nat)(fa:FA):FS:=λδ=>(fa δ).bind λl=>match l with
 |[x,y]=>if i<δ.length/\j<δ.length then some (.nx ((δ.set i (some (.d x))).set j (some (.d y))))else none
 |_=>none
noncomputable def qw(l:List D):List D:=l.mapIdx λi x=>.tuple [.int (i:Int),x]
def Jp(f:FE):FA:=λδ=>(f δ).bind λd=>match d with
 | .list l=>some (qw l)
 |_=>none
noncomputable def uW:List D->Option (List Bool)
 |[]=>some []
 | .bool b::r=>(uW r).map (b :: ·)
 |_=>none
def SQ:List D->Option D
 |[.list l]=>(uW l).map λbs=>.bool (bs.all id)
 |_=>none
noncomputable def lY:List D->List D->List D
 |x::r,y::s=>.tuple [x,y]::lY r s
 |_,_=>[]
def SX(f g:FE):FA:=λδ=>(f δ).bind λd=>(g δ).bind λe=>match d,e with
 | .list l,.list m=>some (lY l m)
 |_,_=>none
def S6(f:FE):FA:=λδ=>(f δ).bind λd=>match d with
 | .list l=>some l.reverse
 |_=>none
theorem qx:∀(r:List Int)(i:Int),mxI i r∈i::r/\∀a∈i::r,a<=mxI i r
 |[],i=>⟨aJ,λa h=>by rw[aN.mp h];exact eY _⟩
 |b::r,i=>by
  have Z:=qx r (if i<b then b else i)
  have e:mxI i (b::r)=mxI (if i<b then b else i) r:=rfl
  rw[e]
  constructor
  ·rcases aU.mp Z.1 with z|z
   ·rw[z]
    split<;>simp
   ·exact aK _ (aK _ z)
  ·intro a h
   have X:=Z.2 _ aJ
   have Y:i<=(if i<b then b else i)/\b<=(if i<b then b else i):=by split<;>omega
   rcases aU.mp h with rfl|h
   ·exact iM Y.1 X
   ·rcases aU.mp h with rfl|h
    ·exact iM Y.2 X
    ·exact Z.2 a (aK _ h)
theorem insI_perm(x:Int):∀l,(insI x l).Perm (x::l)
 |[]=>.refl _
 |y::r=>by
  unfold insI
  split
  ·exact .refl _
  ·exact((insI_perm x r).cons y).trans (.swap x y r)
theorem qy:∀l,(Aj l).Perm l
 |[]=>.refl _
 |x::r=>(insI_perm x _).trans ((qy r).cons x)
theorem wZ(x:Int):∀l,l.Pairwise (· <= ·)->(insI x l).Pairwise (· <= ·)
 |[],_=>by simp[insI]
 |y::r,h=>by
  obtain⟨h1,h2⟩:=bZ.mp h
  unfold insI
  split
  ·next c=>
   refine bZ.mpr ⟨λa ha=>?_,h⟩
   rcases aU.mp ha with rfl|z
   ·exact c
   ·exact iM c (h1 a z)
  ·next c=>
   refine bZ.mpr ⟨λa ha=>?_,wZ x r h2⟩
   rcases aU.mp ((insI_perm x r).mem_iff.mp ha)with rfl|z
   ·omega
   ·exact h1 a z
theorem sW:∀l,(Aj l).Pairwise (· <= ·)
 |[]=>.nil
 |x::r=>wZ x _ (sW r)
end D3
variable{u:L2.HO}{kvs:List (D3.D×D3.D)}{d y:D3.D}{ds:List D3.D}{pl:Bool}{as:List Addr}{δ:D3.DS}{L:List Nat}
namespace D3
open PySem PySem.Spec PyProof.Rows L2 My
abbrev Ok:=Addr->Prop
abbrev St:=L2.St
class Chg (u:HO):Prop where
 ch:(∃xs,u = .lst xs)\/(∃kvs,u = .dK kvs)\/∃kvs,u = .dT kvs
instance (xs:List V):Chg (.lst xs):=⟨.inl ⟨xs,rfl⟩⟩
instance (kvs:List (Key×V)):Chg (.dK kvs):=⟨.inr (.inl ⟨kvs,rfl⟩)⟩
instance (kvs:List (List Key×V)):Chg (.dT kvs):=⟨.inr (.inr ⟨kvs,rfl⟩)⟩
theorem Chg.frz{o:Obj}{u:HO}(h:Chg (.frz o u)):False:=by
 rcases h.ch with⟨_,z⟩|⟨_,z⟩|⟨_,z⟩<;>cases z
theorem Chg.tup{xs:List V}(h:Chg (.tup xs)):False:=by
 rcases h.ch with⟨_,z⟩|⟨_,z⟩|⟨_,z⟩<;>cases z
def Chd(o:Option HO):Prop:=∃u,o=some u/\Chg u
theorem Chd.ne{o:Option HO}(h:Chd o):o≠none:=by
 obtain⟨u,rfl,_⟩:=h
 simp
def SqK(K:PySem.W.Frag)(H:Hp)(a:Addr)(xs:List V):Prop:=(∃o,H a=some (.frz o (.lst xs))) \/
 ∃(o:Obj)(its:Array Value)(n:Nat),K.lookup a=some o/\o.cls = .type "list"/\o.dict=none/\o.data = .seq its n/\its.size<=sizeLine/\Vals xs its.toList
theorem SqK.sq{xs:List V}(h:SqK K H a xs):SqL K H a xs:=by
 rcases h with⟨o,h⟩|h
 ·exact .inl (.inr ⟨o,h⟩)
 ·exact .inr h
def jH(H:Hp)(a:Addr)(xs:List V):Prop:=H a=some (.tup xs)
theorem jH.sq{xs:List V}(h:jH H a xs):SqT K H a xs:=.inl (.inl h)
theorem jH.same{xs:List V}(e:Same H H')(h:jH H a xs):jH H' a xs:=e _ _ h
theorem jH.upd{xs:List V}[B:Chg u](h:H a=some u)(q:jH H b xs):jH (upd H a o) b xs:=by
 unfold jH
 rw[cO (yD q h (by intro z;subst z;exact B.tup))]
 exact q
noncomputable def dk0:List (D×D)->List (Key×V)
 |[]=>[]
 | (.int i,.int j)::r=>(.inl i,.int j)::dk0 r
 | (.int i,.bool true)::r=>(.inl i,.bl true)::dk0 r
 |_::r=>(.inl 0,.non)::dk0 r
noncomputable def tkK:List D->Option (List Key)
 |[]=>some []
 | .int i::r=>(tkK r).map (.inl i :: ·)
 |_=>none
def tkD:List (D×D)->Option (List (List Key×V))
 |[]=>some []
 | (.tuple l,.bool true)::r=>(tkK l).bind λk=>(tkD r).map ((k,.bl true) :: ·)
 |_=>none
def dh0(kvs:List (D×D)):HO:=match kvs with
 |[]=>.dK []
 |q::r=>match tkD (q::r)with
  |some ts=>.dT ts
  |none=>.dK (dk0 (q::r))
theorem NK(kvs:List (D×D)):(∃ks,dh0 kvs = .dK ks)\/∃ks,dh0 kvs = .dT ks:=by
 cases kvs with
 |nil=>exact .inl ⟨_,rfl⟩
 |cons q r=>
  unfold dh0
  dsimp only
  split
  ·exact .inr ⟨_,rfl⟩
  ·exact .inl ⟨_,rfl⟩
instance (kvs:List (D×D)):Chg (dh0 kvs):=⟨by
 rcases NK kvs with⟨ks,z⟩|⟨ks,z⟩
 ·exact .inr (.inl ⟨ks,z⟩)
 ·exact .inr (.inr ⟨ks,z⟩)⟩
def scV:D->V
 | .int i=>.int i
 |_=>.non
def scs:List D->Bool
 |[]=>true
 | .int _::r=>scs r
 | .none::r=>scs r
 |_=>false
def TV(H:Hp)(v:V)(d:D):Prop:=(v = .non/\d = .none)\/∃b ds,v = .ref b/\d = .tuple ds/\jH H b (ds.map scV)/\scs ds=true
inductive TVs(H:Hp):List (Key×V)->List (D×D)->Prop
 |nil:TVs H [] []
 |cons {i:Int} {v:V} {d:D} {r:List (Key×V)} {r':List (D×D)}:TV H v d->TVs H r r'->TVs H ((.inl i,v)::r) ((.int i,d)::r')
theorem TV.imp(h:∀b xs,jH H b xs->jH H' b xs){v:V}{d:D}(q:TV H v d):TV H' v d:=by
 rcases q with q|⟨b,ds,h1,h2,Y,Z⟩
 ·exact .inl q
 ·exact .inr ⟨b,ds,h1,h2,h _ _ Y,Z⟩
theorem TVs.imp(h:∀b xs,jH H b xs->jH H' b xs){ks:List (Key×V)}{kvs:List (D×D)}(q:TVs H ks kvs):TVs H' ks kvs:=by
 induction q with
 |nil=>exact .nil
 |cons t _ Z=>exact .cons (t.imp h) Z
def HS:List (D×D)->Bool
 |[]=>true
 | (_,.int _)::r=>HS r
 | (_,.bool _)::r=>HS r
 |_=>false
def TW(H:Hp)(v:V)(m:List Int)(z:Int):Prop:=∃b c,v = .ref b/\jH H b [.ref c,.int z]/\jH H c (m.map V.int)
inductive TTs(H:Hp):List (List Key×V)->List (D×D)->Prop
 |nil:TTs H [] []
 |cons {k m:List Int} {z:Int} {v:V} {r:List (List Key×V)} {r':List (D×D)}:TW H v m z->TTs H r r'->TTs H ((k.map Sum.inl,v)::r) ((.tuple (k.map .int),.tuple [.tuple (m.map .int),.int z])::r')
theorem TTs.imp(h:∀b xs,jH H b xs->jH H' b xs){ks:List (List Key×V)}{kvs:List (D×D)}(q:TTs H ks kvs):TTs H' ks kvs:=by
 induction q with
 |nil=>exact .nil
 |cons t _ Z=>
  obtain⟨b,c,h1,h2,Y⟩:=t
  exact .cons ⟨b,c,h1,h _ _ h2,h _ _ Y⟩ Z
def DH(H:Hp)(u:HO)(kvs:List (D×D)):Prop:=(HS kvs=true/\u=dh0 kvs)\/(∃ks,u = .dK ks/\TVs H ks kvs)\/∃q ks,u = .dT (q::ks)/\TTs H (q::ks) kvs
theorem DH.imp(h:∀b xs,jH H b xs->jH H' b xs){u:HO}{kvs:List (D×D)}(q:DH H u kvs):DH H' u kvs:=by
 rcases q with q|⟨ks,q1,q2⟩|⟨k,ks,q1,q2⟩
 ·exact .inl q
 ·exact .inr (.inl ⟨ks,q1,q2.imp h⟩)
 ·exact .inr (.inr ⟨k,ks,q1,q2.imp h⟩)
theorem DH.same(q:DH H u kvs)(e:Same H H'):DH H' u kvs:=q.imp λ_ _ h=>jH.same e h
theorem DH.upd{B:HO}[J:Chg u]{kvs:List (D×D)}(q:DH H B kvs)(h:H a=some u):DH (upd H a o) B kvs:=q.imp λ_ _ z=>jH.upd h z
theorem DH.or(q:DH H u kvs):(∃ks,u = .dK ks)\/∃ks,u = .dT ks:=by
 rcases q with⟨_,rfl⟩|⟨ks,rfl,_⟩|⟨k,ks,rfl,_⟩
 ·exact NK kvs
 ·exact .inl ⟨ks,rfl⟩
 ·exact .inr ⟨_,rfl⟩
theorem DH.chg(q:DH H u kvs):Chg u:=⟨.inr q.or⟩
theorem DH.old(q:DH H u kvs)(h:HS kvs=true):u=dh0 kvs:=by
 rcases q with q|⟨ks,rfl,q⟩|⟨k,ks,rfl,q⟩
 ·exact q.2
 ·cases q with
  |nil=>rfl
  |cons t _=>
   rcases t with⟨_,rfl⟩|⟨_,_,_,rfl,_,_⟩<;>cases h
 ·cases q with
  |cons _ _=>cases h
mutual
inductive RA(K:PySem.W.Frag)(ok:Ok)(pl:Bool)(H:Hp):V->D->Prop
 |non:RA K ok pl H .non .none
 |bl (b:Bool):RA K ok pl H (.bl b) (.bool b)
 |int (i:Int):RA K ok pl H (.int i) (.int i)
 |str (x:Str):RA K ok pl H (.str x) (.str x)
 |lst {a:Addr} {xs:List V} {ds:List D}:H a=some (.lst xs)->ok a->RAs K ok pl H xs ds->RA K ok pl H (.ref a) (.list ds)
 |lsk {a:Addr} {xs:List V} {ds:List D}:SqK K H a xs->pl=true->RAs K ok pl H xs ds->RA K ok pl H (.ref a) (.list ds)
 |tup {a:Addr} {xs:List V} {ds:List D}:jH H a xs->RAs K ok pl H xs ds->RA K ok pl H (.ref a) (.tuple ds)
 |dic {a:Addr} {u:HO} {kvs:List (D×D)}:H a=some u->DH H u kvs->ok a->RA K ok pl H (.ref a) (.dict kvs)
 |dik {a:Addr} {u:HO} {kvs:List (D×D)} {o:Obj}:H a=some (.frz o u)->DH H u kvs->pl=true->RA K ok pl H (.ref a) (.dict kvs)
inductive RAs(K:PySem.W.Frag)(ok:Ok)(pl:Bool)(H:Hp):List V->List D->Prop
 |nil:RAs K ok pl H [] []
 |cons {v:V} {d:D} {vs:List V} {ds:List D}:RA K ok pl H v d->RAs K ok pl H vs ds->RAs K ok pl H (v::vs) (d::ds)
end
section
variable{K:PySem.W.Frag}{ok ok':Ok}{pl pl':Bool}{H H':Hp}
theorem RA.ind{P:V->D->Prop}{Q:List V->List D->Prop}(c1:P .non .none)(c2:∀b,P (.bl b) (.bool b))(c3:∀i,P (.int i) (.int i))(c4:∀x,P (.str x) (.str x))
 (c5:∀{a:Addr}{xs:List V}{ds:List D},H a=some (.lst xs)->ok a->Q xs ds->P (.ref a) (.list ds)) (Z:∀{a:Addr}{xs:List V}{ds:List D},SqK K H a xs->pl=true->Q xs ds->P (.ref a) (.list ds)) (Y:∀{a:Addr}{xs:List V}{ds:List D},jH H a xs->Q xs ds->P (.ref a) (.tuple ds))
 (W:∀{a:Addr}{u:HO}{kvs:List (D×D)},H a=some u->DH H u kvs->ok a->P (.ref a) (.dict kvs)) (O:∀{a:Addr}{u:HO}{kvs:List (D×D)}{o:Obj},H a=some (.frz o u)->DH H u kvs->pl=true->P (.ref a) (.dict kvs)) (J:Q [] []) (B:∀{v:V}{d:D}{vs:List V}{ds:List D},P v d->Q vs ds->Q (v::vs) (d::ds)) :
 (∀{v:V}{d:D},RA K ok pl H v d->P v d)/\∀{v:List V}{d:List D},RAs K ok pl H v d->Q v d:=
 ⟨λh=>RA.rec (motive_1:=λv d _=>P v d) (motive_2:=λv d _=>Q v d) c1 c2 c3 c4 (λh o _ q=>c5 h o q) (λh o _ q=>Z h o q) (λh _ q=>Y h q) (λh g o=>W h g o) (λh g o=>O h g o) J (λ_ _ a q=>B a q) h,
  λh=>RAs.rec (motive_1:=λv d _=>P v d) (motive_2:=λv d _=>Q v d) c1 c2 c3 c4 (λh o _ q=>c5 h o q) (λh o _ q=>Z h o q) (λh _ q=>Y h q) (λh g o=>W h g o) (λh g o=>O h g o) J (λ_ _ a q=>B a q) h⟩
theorem RA.imp2(J:∀a,ok a->ok' a)(B:pl=true->pl'=true):(∀{v:V}{d:D},RA K ok pl H v d->RA K ok' pl' H v d)/\∀{v:List V}{d:List D},RAs K ok pl H v d->RAs K ok' pl' H v d:=
 RA.ind .non .bl .int .str (λh o q=>.lst h (J _ o) q) (λh o q=>.lsk h (B o) q) (λh q=>.tup h q) (λh g o=>.dic h g (J _ o)) (λh g o=>.dik h g (B o)) .nil .cons
theorem RA.imp(J:∀a,ok a->ok' a)(B:pl=true->pl'=true){v:V}{d:D}(h:RA K ok pl H v d):RA K ok' pl' H v d:=(RA.imp2 J B).1 h
theorem RAs.imp(J:∀a,ok a->ok' a)(B:pl=true->pl'=true){v:List V}{d:List D}(h:RAs K ok pl H v d):RAs K ok' pl' H v d:=(RA.imp2 J B).2 h
theorem SqK.same{xs:List V}(e:Same H H')(h:SqK K H a xs):SqK K H' a xs:=by
 rcases h with⟨o,h⟩|h
 ·exact .inl ⟨o,e _ _ h⟩
 ·exact .inr h
theorem RA.same2(e:Same H H'):(∀{v:V}{d:D},RA K ok pl H v d->RA K ok pl H' v d)/\∀{v:List V}{d:List D},RAs K ok pl H v d->RAs K ok pl H' v d:=
 RA.ind .non .bl .int .str (λh o q=>.lst (e _ _ h) o q) (λh o q=>.lsk (h.same e) o q) (λh q=>.tup (jH.same e h) q) (λh g o=>.dic (e _ _ h) (g.same e) o) (λh g o=>.dik (e _ _ h) (g.same e) o) .nil .cons
theorem RA.same(e:Same H H'){v:V}{d:D}(h:RA K ok pl H v d):RA K ok pl H' v d:=(RA.same2 e).1 h
theorem RAs.same(e:Same H H'){v:List V}{d:List D}(h:RAs K ok pl H v d):RAs K ok pl H' v d:=(RA.same2 e).2 h
theorem RA.flat2:(∀{v:V}{d:D},RA K ok pl H v d->flat d=true->RA K ok' pl' H v d)/\∀{v:List V}{d:List D},RAs K ok pl H v d->flats d=true->RAs K ok' pl' H v d:=
 RA.ind (λ_=>.non) (λb _=>.bl b) (λi _=>.int i) (λx _=>.str x) (λ_ _ _ h=>by simp[D3.flat]at h) (λ_ _ _ h=>by simp[D3.flat]at h) (λt q h=>.tup t (q (by simpa[D3.flat]using h))) (λ_ _ _ h=>by simp[D3.flat]at h) (λ_ _ _ h=>by simp[D3.flat]at h) (λ_=>.nil) λa q h=>by
  rw[flats,bf]at h
  exact .cons (a h.1) (q h.2)
theorem RA.flat(B:flat d=true)(h:RA K ok pl H v d):RA K ok' pl' H v d:=RA.flat2.1 h B
theorem RAs.flat{v:List V}{d:List D}(B:flats d=true)(h:RAs K ok pl H v d):RAs K ok' pl' H v d:=RA.flat2.2 h B
theorem SqK.upd{xs:List V}[B:Chg u](h:H a=some u)(q:SqK K H b xs):SqK K (upd H a o) b xs:=by
 rcases q with⟨o',q⟩|q
 ·refine .inl ⟨o',?_⟩
  rw[cO (yD q h (by intro z;subst z;first|exact B.frz|exact B.tup))]
  exact q
 ·exact .inr q
theorem RA.upd2[B:Chg u](h:H a=some u)(na:¬ok a):(∀{v:V}{d:D},RA K ok pl H v d->RA K ok pl (upd H a o) v d)/\∀{v:List V}{d:List D},RAs K ok pl H v d->RAs K ok pl (upd H a o) v d:=
 RA.ind .non .bl .int .str (λe k q=>.lst (by rw[cO (by intro z;subst z;exact na k)];exact e) k q) (λe k q=>.lsk (e.upd h) k q) (λe q=>.tup (jH.upd h e) q) (λe g k=>.dic (by rw[cO (by intro z;subst z;exact na k)];exact e) (g.upd h) k) (λe g k=>.dik (by rw[cO (yD e h (by intro z;subst z;exact B.frz))];exact e) (g.upd h) k) .nil .cons
theorem RA.upd[B:Chg u](h:H a=some u)(na:¬ok a){v:V}{d:D}(r:RA K ok pl H v d):RA K ok pl (upd H a o) v d:=(RA.upd2 h na).1 r
theorem RAs.upd[B:Chg u](h:H a=some u)(na:¬ok a){v:List V}{d:List D}(r:RAs K ok pl H v d):RAs K ok pl (upd H a o) v d:=(RA.upd2 h na).2 r
theorem RA.track2:(∀{v:V}{d:D},RA K ok pl H v d->RA K (λb=>ok b/\H b≠none) pl H v d)/\∀{v:List V}{d:List D},RAs K ok pl H v d->RAs K (λb=>ok b/\H b≠none) pl H v d:=
 RA.ind .non .bl .int .str (λe k q=>.lst e ⟨k,by rw[e];simp⟩ q) (λe k q=>.lsk e k q) (λe q=>.tup e q) (λe g k=>.dic e g ⟨k,by rw[e];simp⟩) (λe g k=>.dik e g k) .nil .cons
theorem RA.track(h:RA K ok pl H v d):RA K (λb=>ok b/\H b≠none) pl H v d:=RA.track2.1 h
theorem RAs.track{v:List V}{d:List D}(h:RAs K ok pl H v d):RAs K (λb=>ok b/\H b≠none) pl H v d:=RA.track2.2 h
theorem RAs.length:∀{v:List V}{d:List D},RAs K ok pl H v d->v.length=d.length
 |_,_,.nil=>rfl
 |_,_,.cons _ q=>by simp[RAs.length q]
theorem RAs.get:∀{v:List V}{d:List D}{i:Nat}{x:D},RAs K ok pl H v d->d[i]? = some x->∃y,v[i]? = some y/\RA K ok pl H y x
 |_,_,_,_,.nil,h=>by simp at h
 |_,_,0,_,.cons a _,h=>by simp at h;subst h;exact⟨_,rfl,a⟩
 |_,_,i+1,_,.cons _ q,h=>by
  obtain⟨y,e,r⟩:=RAs.get (i:=i) q (by simpa using h)
  exact⟨y,by simpa using e,r⟩
theorem RAs.append:∀{v B:List V}{d d':List D},RAs K ok pl H v d->RAs K ok pl H B d'->RAs K ok pl H (v++B) (d++d')
 |_,_,_,_,.nil,q=>q
 |_,_,_,_,.cons a r,q=>.cons a (RAs.append r q)
theorem RAs.set{x:V}(r:RA K ok pl H x y):∀{v:List V}{d:List D}(i:Nat),RAs K ok pl H v d->RAs K ok pl H (v.set i x) (d.set i y)
 |_,_,_,.nil=>.nil
 |_,_,0,.cons _ q=>.cons r q
 |_,_,i+1,.cons a q=>.cons a (RAs.set r i q)
theorem RAs.take:∀{v:List V}{d:List D}(n:Nat),RAs K ok pl H v d->RAs K ok pl H (v.take n) (d.take n)
 |_,_,0,_=>by simp;exact .nil
 |_,_,_+1,.nil=>.nil
 |_,_,n+1,.cons a q=>.cons a (RAs.take n q)
theorem RAs.drop:∀{v:List V}{d:List D}(n:Nat),RAs K ok pl H v d->RAs K ok pl H (v.drop n) (d.drop n)
 |_,_,0,q=>q
 |_,_,_+1,.nil=>.nil
 |_,_,n+1,.cons _ q=>RAs.drop n q
theorem RAs.reverse:∀{v:List V}{d:List D},RAs K ok pl H v d->RAs K ok pl H v.reverse d.reverse
 |_,_,.nil=>.nil
 |_,_,.cons a q=>by
  rw[jJ,jJ]
  exact(RAs.reverse q).append (.cons a .nil)
theorem RA.rd2:(∀{v:V}{d:D},RA K ok pl H v d->d.canLay0=true->RdV K H v d)/\∀{v:List V}{d:List D},RAs K ok pl H v d->PyData.canLayAll0 d=true->RdVs K H v d:=
 RA.ind (λ_=>.non) (λb _=>.bl b) (λi _=>.int i) (λx _=>.str x) (λe _ q h=>.lst (SqL.of e) (q (by simpa[PyData.canLay0]using h))) (λe _ q h=>.lst e.sq (q (by simpa[PyData.canLay0]using h))) (λe q h=>.tup e.sq (q (by simpa[PyData.canLay0]using h))) (λ_ _ _ h=>by simp[PyData.canLay0]at h) (λ_ _ _ h=>by simp[PyData.canLay0]at h) (λ_=>.nil) λa q h=>by
  rw[PyData.canLayAll0,bf]at h
  exact .cons (a h.1) (q h.2)
theorem RA.rd(B:d.canLay0=true)(h:RA K ok pl H v d):RdV K H v d:=RA.rd2.1 h B
theorem RA.intE{i:Int}(h:RA K ok pl H v (.int i)):v = .int i:=by cases h;rfl
theorem RA.blE{b:Bool}(h:RA K ok pl H v (.bool b)):v = .bl b:=by cases h;rfl
theorem RA.lstE(h:RA K ok pl H v (.list ds)):∃a xs,v = .ref a/\SqL K H a xs/\RAs K ok pl H xs ds:=by
 cases h with
 |lst e k q=>exact⟨_,_,rfl,SqL.of e,q⟩
 |lsk e k q=>exact⟨_,_,rfl,e.sq,q⟩
theorem RA.dicU(h:RA K ok pl H v (.dict kvs)):∃a u,v = .ref a/\L2.Rd H a u/\DH H u kvs:=by
 cases h with
 |dic e g k=>exact⟨_,_,rfl,.inl e,g⟩
 |dik e g k=>exact⟨_,_,rfl,.inr ⟨_,e⟩,g⟩
theorem RA.dicE(h:RA K ok pl H v (.dict kvs))(B:HS kvs=true):∃a,v = .ref a/\L2.Rd H a (dh0 kvs):=by
 obtain⟨a,u,h1,h2,Z⟩:=h.dicU
 rw[Z.old B]at h2
 exact⟨a,h1,h2⟩
theorem RA.tupE(h:RA K ok pl H v (.tuple ds)):∃a xs,v = .ref a/\SqT K H a xs/\RAs K ok pl H xs ds:=by
 cases h with
 |tup e q=>exact⟨_,_,rfl,e.sq,q⟩
theorem RA.tupE0(h:RA K ok pl H v (.tuple ds)):∃a xs,v = .ref a/\jH H a xs/\RAs K ok pl H xs ds:=by
 cases h with
 |tup e q=>exact⟨_,_,rfl,e,q⟩
end
inductive Fl where
 |A
 |O
 |L
 |N
 |M
 deriving DecidableEq
def isN:Option Fl->Bool
 |some .N=>true
 |some .M=>true
 |_=>false
mutual
inductive RT(K:PySem.W.Frag)(H:Hp):V->D->List Addr->Prop
 |non:RT K H .non .none []
 |bl (b:Bool):RT K H (.bl b) (.bool b) []
 |int (i:Int):RT K H (.int i) (.int i) []
 |str (x:Str):RT K H (.str x) (.str x) []
 |lst {a:Addr} {xs:List V} {ds:List D} {as:List Addr}:H a=some (.lst xs)->RTs K H xs ds as->RT K H (.ref a) (.list ds) (a::as)
 |tup {a:Addr} {xs:List V} {ds:List D} {as:List Addr}:jH H a xs->RTs K H xs ds as->RT K H (.ref a) (.tuple ds) as
 |dic {a:Addr} {u:HO} {kvs:List (D×D)}:H a=some u->DH H u kvs->RT K H (.ref a) (.dict kvs) [a]
inductive RTs(K:PySem.W.Frag)(H:Hp):List V->List D->List Addr->Prop
 |nil:RTs K H [] [] []
 |cons {v:V} {d:D} {vs:List V} {ds:List D} {as bs:List Addr}:RT K H v d as->RTs K H vs ds bs->RTs K H (v::vs) (d::ds) (as++bs)
end
section
variable{K:PySem.W.Frag}{H H':Hp}
theorem RT.ind{P:V->D->List Addr->Prop}{Q:List V->List D->List Addr->Prop}(c1:P .non .none [])(c2:∀b,P (.bl b) (.bool b) [])(c3:∀i,P (.int i) (.int i) [])(Z:∀x,P (.str x) (.str x) [])
 (Y:∀{a:Addr}{xs:List V}{ds:List D}{as:List Addr},H a=some (.lst xs)->Q xs ds as->P (.ref a) (.list ds) (a::as)) (W:∀{a:Addr}{xs:List V}{ds:List D}{as:List Addr},jH H a xs->Q xs ds as->P (.ref a) (.tuple ds) as)
 (O:∀{a:Addr}{u:HO}{kvs:List (D×D)},H a=some u->DH H u kvs->P (.ref a) (.dict kvs) [a]) (J:Q [] [] []) (B:∀{v:V}{d:D}{vs:List V}{ds:List D}{as bs:List Addr},P v d as->Q vs ds bs->Q (v::vs) (d::ds) (as++bs)) :
 (∀{v:V}{d:D}{as:List Addr},RT K H v d as->P v d as)/\∀{v:List V}{d:List D}{as:List Addr},RTs K H v d as->Q v d as:=
 ⟨λh=>RT.rec (motive_1:=λv d as _=>P v d as) (motive_2:=λv d as _=>Q v d as) c1 c2 c3 Z (λh _ q=>Y h q) (λh _ q=>W h q) (λh g=>O h g) J (λ_ _ a q=>B a q) h,
  λh=>RTs.rec (motive_1:=λv d as _=>P v d as) (motive_2:=λv d as _=>Q v d as) c1 c2 c3 Z (λh _ q=>Y h q) (λh _ q=>W h q) (λh g=>O h g) J (λ_ _ a q=>B a q) h⟩
theorem RT.ra2{ok:Ok}:(∀{v:V}{d:D}{as:List Addr},RT K H v d as->(∀a∈as,ok a)->RA K ok pl H v d)/\∀{v:List V}{d:List D}{as:List Addr},RTs K H v d as->(∀a∈as,ok a)->RAs K ok pl H v d:=
 RT.ind (λ_=>.non) (λb _=>.bl b) (λi _=>.int i) (λx _=>.str x) (λe q h=>.lst e (h _ aJ) (q λa ha=>h a (aK _ ha))) (λe q h=>.tup e (q h)) (λe g h=>.dic e g (h _ aJ)) (λ_=>.nil) λe q h=>.cons (e λa ha=>h a (cB _ ha)) (q λa ha=>h a (bI _ ha))
theorem RT.ra{ok:Ok}(r:RT K H v d as)(h:∀a∈as,ok a):RA K ok pl H v d:=RT.ra2.1 r h
theorem RT.same2(s:Same H H'):(∀{v:V}{d:D}{as:List Addr},RT K H v d as->RT K H' v d as)/\∀{v:List V}{d:List D}{as:List Addr},RTs K H v d as->RTs K H' v d as:=
 RT.ind .non .bl .int .str (λe q=>.lst (s _ _ e) q) (λe q=>.tup (jH.same s e) q) (λe g=>.dic (s _ _ e) (g.same s)) .nil .cons
theorem RT.same(s:Same H H'){v:V}{d:D}{as:List Addr}(h:RT K H v d as):RT K H' v d as:=(RT.same2 s).1 h
theorem RT.upd2[B:Chg u](h:H a=some u):(∀{v:V}{d:D}{as:List Addr},RT K H v d as->a∉as->RT K (upd H a o) v d as)/\∀{v:List V}{d:List D}{as:List Addr},RTs K H v d as->a∉as->RTs K (upd H a o) v d as:=
 RT.ind (λ_=>.non) (λb _=>.bl b) (λi _=>.int i) (λx _=>.str x) (λe q na=>.lst (by rw[cO (λz=>na (by rw[<-z];exact aJ))];exact e) (q λz=>na (aK _ z))) (λe q na=>.tup (jH.upd h e) (q na)) (λe g na=>.dic (by rw[cO (λz=>na (by rw[<-z];exact aJ))];exact e) (g.upd h)) (λ_=>.nil) λe q na=>.cons (e λz=>na (cB _ z)) (q λz=>na (bI _ z))
theorem RT.upd[B:Chg u](h:H a=some u){v:V}{d:D}{as:List Addr}(na:a∉as)(r:RT K H v d as):RT K (upd H a o) v d as:=(RT.upd2 h).1 r na
theorem RT.chd2:(∀{v:V}{d:D}{as:List Addr},RT K H v d as->∀a∈as,Chd (H a))/\∀{v:List V}{d:List D}{as:List Addr},RTs K H v d as->∀a∈as,Chd (H a):=
 RT.ind (λ_ h=>by cases h) (λ_ _ h=>by cases h) (λ_ _ h=>by cases h) (λ_ _ h=>by cases h) (λe q a h=>by
  rcases aU.mp h with rfl|z
  ·exact⟨_,e,inferInstance⟩
  ·exact q a z) (λ_ q=>q) (λe g a h=>by rw[aN.mp h];exact⟨_,e,g.chg⟩) (λ_ h=>by cases h) λe q a h=>by
  rcases cG.mp h with z|z
  ·exact e a z
  ·exact q a z
theorem RT.chd(r:RT K H v d as):∀a∈as,Chd (H a):=RT.chd2.1 r
theorem RTs.chd{v:List V}{d:List D}(r:RTs K H v d as):∀a∈as,Chd (H a):=RT.chd2.2 r
theorem RT.tracked(h:RT K H v d as)(a:Addr)(ha:a∈as):H a≠none:=(h.chd a ha).ne
theorem RA.rt2{ok:Ok}:(∀{v:V}{d:D},RA K ok false H v d->∃as,RT K H v d as/\as.length=nl d/\∀a∈as,ok a)/\∀{v:List V}{d:List D},RAs K ok false H v d->∃as,RTs K H v d as/\as.length=nls d/\∀a∈as,ok a:=
 RA.ind ⟨[],.non,rfl,λ_ h=>by cases h⟩ (λb=>⟨[],.bl b,rfl,λ_ h=>by cases h⟩) (λi=>⟨[],.int i,rfl,λ_ h=>by cases h⟩) (λx=>⟨[],.str x,rfl,λ_ h=>by cases h⟩) (λe k q=>by
  obtain⟨as,h1,h2,Z⟩:=q
  refine⟨_::as,.lst e h1,by rw[bC,h2,nl],λa ha=>?_⟩
  rcases aU.mp ha with rfl|z
  ·exact k
  ·exact Z a z) (λ_ k _=>by cases k) (λe q=>by
  obtain⟨as,h1,h2,Z⟩:=q
  exact⟨as,.tup e h1,by rw[h2,nl],Z⟩) (λe g k=>⟨[_],.dic e g,by simp[nl],λa ha=>by rw[aN.mp ha];exact k⟩) (λ_ _ k=>by cases k) ⟨[],.nil,rfl,λ_ h=>by cases h⟩ λe q=>by
  obtain⟨as,h1,h2,Z⟩:=e
  obtain⟨bs,g1,g2,g3⟩:=q
  refine⟨as++bs,.cons h1 g1,by rw[bh,h2,g2,nls],λa ha=>?_⟩
  rcases cG.mp ha with z|z
  ·exact Z a z
  ·exact g3 a z
theorem RA.rt{ok:Ok}(h:RA K ok false H v d):∃as,RT K H v d as/\as.length=nl d/\∀a∈as,ok a:=RA.rt2.1 h
end
def tabs:List (Addr×Str×Pos):=[(128, "turns.<locals>.<lambda>", ⟨41,42,41,72⟩)]
def Tb(H:Hp):Prop:=∀t∈tabs,H t.1=some (.tbl t.2.1 t.2.2)
theorem Tb.same(t:Tb H)(s:Same H H'):Tb H':=λx Z=>s _ _ (t x Z)
structure Gh where
 H0:Hp
 HF:Hp
 pk:Nat->Option Addr
 pn:Nat->List Addr
 tb:Tb H0
structure Ow where
 s:Nat->Option Addr
 n:Nat->List Addr:=λ_=>[]
instance:CoeFun Ow (λ_=>Nat->Option Addr):=⟨Ow.s⟩
abbrev ow0:Ow:=⟨λ_=>none,λ_=>[]⟩
noncomputable def okA(ow:Ow):Ok:=λa=>(∀i,ow i≠some a)/\∀i,a∉ow.n i
structure Rel(K:PySem.W.Frag)(fl:List Fl)(G:Gh)(ow:Ow)(σ:St)(H:Hp)(δ:DS):Prop where
 s0:Same G.H0 G.HF
 s1:Same G.HF H
 len:σ.length=δ.length
 own:∀i a,ow i=some a->G.H0 a=none/\((fl[i]? = some .O/\G.HF a=none)\/(fl[i]? = some .L/\∃xs,G.HF a=some (.lst xs))) /\
  ∃xs ds,σ[i]? = some (some (.ref a))/\H a=some (.lst xs)/\RAs K (okA ow) true H xs ds/\δ[i]? = some (some (.d (.list ds)))
 inj:∀i j a,ow i=some a->ow j=some a->i=j
 pin:∀i,fl[i]? = some .L->ow i=G.pk i
 dat:∀i d,δ[i]? = some (some (.d d))->isN fl[i]? = false->ow i=none->∃v,σ[i]? = some (some v)/\RA K (okA ow) true H v d
 oo:∀i d,δ[i]? = some (some (.d d))->isN fl[i]? = false->fl[i]? ≠ some .A->ow i=none->flat d=true
 nt:∀i a,a∈ow.n i->G.H0 a=none/\Chd (H a)/\((fl[i]? = some .N/\G.HF a=none)\/fl[i]? = some .M)
 nd:∀i j a,a∈ow.n i->a∈ow.n j->i=j
 ns:∀i j a,a∈ow.n i->ow j≠some a
 np:∀i,fl[i]? = some .M->ow.n i=G.pn i
 nr:∀i d,isN fl[i]? = true->δ[i]? = some (some (.d d))->∃v,σ[i]? = some (some v)/\RT K H v d (ow.n i)/\(ow.n i).Nodup
theorem Rel.tb{fl:List Fl}{G:Gh}{ow:Ow}{σ:St}(R:Rel K fl G ow σ H δ):Tb H:=G.tb.same (R.s0.trans R.s1)
theorem Rel.same0{fl:List Fl}{G:Gh}{ow:Ow}{σ:St}(R:Rel K fl G ow σ H δ):Same G.H0 H:=R.s0.trans R.s1
theorem Rel.grow{fl:List Fl}{G:Gh}{ow:Ow}{σ:St}(R:Rel K fl G ow σ H δ)(e:Same H H'):Rel K fl G ow σ H' δ:=
 ⟨R.s0,R.s1.trans e,R.len,λi a h=>by
  obtain⟨V,X,xs,ds,h1,h2,Z,Y⟩:=R.own i a h
  exact⟨V,X,xs,ds,h1,e _ _ h2,Z.same e,Y⟩,R.inj,R.pin,λi d h1 hn h2=>by
  obtain⟨v,Z,Y⟩:=R.dat i d h1 hn h2
  exact⟨v,Z,Y.same e⟩,R.oo,λi a h=>by
  obtain⟨h1,h2,Z⟩:=R.nt i a h
  exact⟨h1,(let⟨u,z,c⟩:=h2;⟨u,e _ _ z,c⟩),Z⟩,R.nd,R.ns,R.np,λi d h1 h2=>by
  obtain⟨v,Z,Y,W⟩:=R.nr i d h1 h2
  exact⟨v,Z,Y.same e,W⟩⟩
inductive Kd where
 |P
 |B (L:List Nat)
 |A
 |R
 |F
 |C
 |FC
 |T
noncomputable def ok1:Ok:=λ_=>True
def ok0:Ok:=λ_=>False
def okN(H:Hp):Ok:=λa=>H a=none
def Rs(K:PySem.W.Frag)(H0:Hp)(ow:Ow)(Hb H:Hp):Kd->V->D->Prop
 | .P,v,d=>RA K ok1 true H v d
 | .B L,v,d=>RA K (okA ow) true H v d\/∃i∈L,∃a xs ds,ow i=some a/\v = .ref a/\d = .list ds/\H a=some (.lst xs)/\RAs K (okA ow) true H xs ds
 | .A,v,d=>RA K (okA ow) true H v d
 | .R,v,d=>RA K (okN H0) false H v d
 | .F,v,d=>(flat d=true/\RA K ok0 false H v d)\/∃a xs ds,v = .ref a/\d = .list ds/\Hb a=none/\H a=some (.lst xs)/\RAs K (λb=>okA ow b/\b≠a) true H xs ds
 | .C,v,d=>RA K (okN Hb) false H v d
 | .T,v,d=>∃as,RT K H v d as/\as.Nodup/\∀a∈as,Hb a=none
 | .FC,v,d=>(flat d=true/\RA K ok0 false H v d)\/∃a xs ds,v = .ref a/\d = .list ds/\Hb a=none/\H a=some (.lst xs)/\RAs K (λb=>okN Hb b/\b≠a) false H xs ds
section
variable{K:PySem.W.Frag}{Hb H H':Hp}{fl:List Fl}{G:Gh}{ow:Ow}{σ:St}{δ:DS}{v:V}{d:D}
theorem CJ(R:Rel K fl G ow σ Hb δ){a:Addr}(h:Hb a=none):okA ow a:=⟨λi e=>(by
 obtain⟨_,_,xs,_,_,h2,_⟩:=R.own i a e
 rw[h]at h2
 cases h2),λi e=>(R.nt i a e).2.1.ne h⟩
theorem ZG(R:Rel K fl G ow σ Hb δ){a:Addr}(h:Hb a=none):okN G.H0 a:=R.same0.free h
theorem Rs.FC_F(R:Rel K fl G ow σ Hb δ)(h:Rs K G.H0 ow Hb H .FC v d):Rs K G.H0 ow Hb H .F v d:=by
 rcases h with h|⟨a,xs,ds,h1,h2,X,Y,Z⟩
 ·exact .inl h
 ·exact .inr ⟨a,xs,ds,h1,h2,X,Y,Z.imp (λb z=>⟨CJ R z.1,z.2⟩) (λ_=>rfl)⟩
theorem Rs.FC_C(h:Rs K G.H0 ow Hb H .FC v d):Rs K G.H0 ow Hb H .C v d:=by
 rcases h with h|⟨a,xs,ds,rfl,rfl,X,Y,Z⟩
 ·exact RA.flat h.1 h.2
 ·exact .lst Y X (Z.imp (λb z=>z.1) (λz=>z))
theorem Rs.F_A(R:Rel K fl G ow σ Hb δ)(h:Rs K G.H0 ow Hb H .F v d):Rs K G.H0 ow Hb H .A v d:=by
 rcases h with h|⟨a,xs,ds,rfl,rfl,X,Y,Z⟩
 ·exact RA.flat h.1 h.2
 ·exact .lst Y (CJ R X) (Z.imp (λb z=>z.1) (λz=>z))
theorem Rs.C_A(R:Rel K fl G ow σ Hb δ)(h:Rs K G.H0 ow Hb H .C v d):Rs K G.H0 ow Hb H .A v d:=RA.imp (λ_ z=>CJ R z) (λ_=>rfl) h
theorem Rs.C_R(R:Rel K fl G ow σ Hb δ)(h:Rs K G.H0 ow Hb H .C v d):Rs K G.H0 ow Hb H .R v d:=RA.imp (λ_ z=>ZG R z) (λz=>z) h
theorem Rs.A_B(L:List Nat)(h:Rs K G.H0 ow Hb H .A v d):Rs K G.H0 ow Hb H (.B L) v d:=.inl h
theorem Rs.B_P(h:Rs K G.H0 ow Hb H (.B L) v d):Rs K G.H0 ow Hb H .P v d:=by
 rcases h with h|⟨i,_,a,xs,ds,_,rfl,rfl,Y,Z⟩
 ·exact RA.imp (λ_ _=>trivial) (λz=>z) h
 ·exact .lst Y trivial (Z.imp (λ_ _=>trivial) (λz=>z))
theorem Rs.P_flat(B:flat d=true)(h:Rs K G.H0 ow Hb H .P v d):Rs K G.H0 ow Hb H .FC v d:=.inl ⟨B,RA.flat B h⟩
end
noncomputable def tD(K:PySem.W.Frag)(fl:List Fl)(k:Kd)(f:FE):TE:=λσ H Q=>∃G ow δ d,Rel K fl G ow σ H δ/\f δ=some d/\∀v H',Same H H'->Rs K G.H0 ow H H' k v d->Q v H'
abbrev DE(X:Cx)(fl:List Fl)(k:Kd)(e:Expr)(f:FE):Prop:=PE X e (tD X.K fl k f)
def tDA(K:PySem.W.Frag)(fl:List Fl)(f:FA):TA:=λσ H Q=>∃G ow δ ds,Rel K fl G ow σ H δ/\f δ=some ds/\∀vs H',Same H H'->RAs K ok1 true H' vs ds->Q vs H'
abbrev DA(X:Cx)(fl:List Fl)(es:List Expr)(f:FA):Prop:=PA X es (tDA X.K fl f)
def tDT(K:PySem.W.Frag)(fl:List Fl)(f:FT):TT:=λσ H Q=>∃G ow δ b,Rel K fl G ow σ H δ/\f δ=some b/\∀H',Same H H'->Q b H'
abbrev DT(X:Cx)(fl:List Fl)(e:Expr)(f:FT):Prop:=PT X e (tDT X.K fl f)
abbrev DW(X:Cx)(fl:List Fl)(e:Expr)(f:FT):Prop:=PW X e (tDT X.K fl f)
def HW(K:PySem.W.Frag)(fl:List Fl)(G:Gh)(Dn:Ends):Oc->Prop
 | .nx δ'=>∀Z σ' H',Rel K fl G Z σ' H' δ'->Dn.nx σ' H'
 | .rt d=>∀v H',Same G.H0 H'->RA K (okN G.H0) false H' v d->Dn.rt v H'
 | .bk δ'=>∀Z σ' H',Rel K fl G Z σ' H' δ'->Dn.bk σ' H'
 | .ct δ'=>∀Z σ' H',Rel K fl G Z σ' H' δ'->Dn.ct σ' H'
 | .ex _ _ d=>∀v H',Same G.H0 H'->RA K ok1 true H' v d->Dn.rt v H'
def tDS(K:PySem.W.Frag)(fl:List Fl)(f:FS):TS:=λDn σ H=>∃G ow δ o,Rel K fl G ow σ H δ/\f δ=some o/\HW K fl G Dn o
abbrev DS1(X:Cx)(fl:List Fl)(s:Stmt)(f:FS):Prop:=PS X s (tDS X.K fl f)
abbrev DSs(X:Cx)(fl:List Fl)(s:List Stmt)(f:FS):Prop:=PSs X s (tDS X.K fl f)
def tDG(K:PySem.W.Frag)(fl:List Fl)(tg:List Nat)(g:FG):TG:=λv σ H Q=>∃G ow δ d δ',Rel K fl G ow σ H δ/\RA K (okA ow) true H v d/\g d δ=some δ'/\∀σ',Rel K fl G ow σ' H δ'->(∀j,j∉tg->σ'[j]? = σ[j]?)->Q σ' H
abbrev DG(X:Cx)(fl:List Fl)(tg:List Nat)(e:Expr)(g:FG):Prop:=PG X e (tDG X.K fl tg g)
section
variable{X:Cx}{e:Expr}{es:List Expr}{st:Stmt}{sts:List Stmt}
theorem PE.imp{t t':TE}(h:PE X e t)(i:∀σ H Q,t' σ H Q->t σ H Q):PE X e t':=λpins s σ H Q I q=>h pins s σ H Q I (i σ H Q q)
theorem PT.imp{t t':TT}(h:PT X e t)(i:∀σ H Q,t' σ H Q->t σ H Q):PT X e t':=λpins s σ H Q I q=>h pins s σ H Q I (i σ H Q q)
theorem PW.imp{t t':TT}(h:PW X e t)(i:∀σ H Q,t' σ H Q->t σ H Q):PW X e t':=λw pins s σ H Q I q=>h w pins s σ H Q I (i σ H Q q)
theorem PA.imp{t t':TA}(h:PA X es t)(i:∀σ H Q,t' σ H Q->t σ H Q):PA X es t':=λp pins s σ H Q I q=>h p pins s σ H Q I (i σ H Q q)
theorem PS.imp{t t':TS}(h:PS X st t)(i:∀D σ H,t' D σ H->t D σ H):PS X st t':=λpins s σ H D I q=>h pins s σ H D I (i D σ H q)
theorem PSs.imp{t t':TS}(h:PSs X sts t)(i:∀D σ H,t' D σ H->t D σ H):PSs X sts t':=λpins s σ H D I q=>h pins s σ H D I (i D σ H q)
theorem PG.imp{t t':TG}(h:PG X e t)(i:∀v σ H Q,t' v σ H Q->t v σ H Q):PG X e t':=λpins s σ H v u Q I r q=>h pins s σ H v u Q I r (i v σ H Q q)
end
end D3
namespace D3
open PySem PySem.Spec PyProof.Rows L2 My
section
variable{X:Cx}{fl:List Fl}{e a b c:Expr}{es:List Expr}{k:Kd}{f fa fb fc:FE}{pos:Pos}
theorem m_(h:ao i δ=some d):δ[i]? = some (some (.d d)):=by
 unfold ao at h
 split at h
 ·next x e=>rw[e];cases h;rfl
 ·cases h
theorem NP(i:Nat){x:Str}(O:X.N[i]? = some x:=by rfl)(J:Vis X.env.scope x:=by first|exact Or.inl rfl|exact Or.inr (Or.inl rfl)|exact Or.inr (Or.inr rfl))(hd:(x==("__debug__":Str))=false:=by decide)
 (D:(x==("__classdict__":Str))=false:=by decide) (hn:isN fl[i]? = false:=by rfl):DE X fl (.B [i]) (.Name x pos) (ao i):=by
 refine PE.imp (rE O J hd D) λσ H Q h=>?_
 obtain⟨G,ow,δ,d,R,W,q⟩:=h
 have e:=m_ W
 cases Z:ow i with
 |none=>
  obtain⟨v,h1,h2⟩:=R.dat i d e hn Z
  exact⟨v,h1,q v H (Same.refl H) (.inl h2)⟩
 |some a=>
  obtain⟨U,_,xs,ds,h1,h2,V,Y⟩:=R.own i a Z
  rw[e]at Y
  cases Y
  exact⟨_,h1,q _ H (Same.refl H) (.inr ⟨i,aN.mpr rfl,a,xs,ds,Z,rfl,rfl,h2,V⟩)⟩
theorem CK(i:Nat)(B:fl[i]? = some .A){x:Str}(O:X.N[i]? = some x:=by rfl)(J:Vis X.env.scope x:=by first|exact Or.inl rfl|exact Or.inr (Or.inl rfl)|exact Or.inr (Or.inr rfl))(hd:(x==("__debug__":Str))=false:=by decide)
 (D:(x==("__classdict__":Str))=false:=by decide):DE X fl .A (.Name x pos) (ao i):=by
 refine PE.imp (rE O J hd D) λσ H Q h=>?_
 obtain⟨G,ow,δ,d,R,W,q⟩:=h
 have e:=m_ W
 cases Y:ow i with
 |none=>
  obtain⟨v,h1,h2⟩:=R.dat i d e (by rw[B];rfl) Y
  exact⟨v,h1,q v H (Same.refl H) h2⟩
 |some a=>
  obtain⟨V,Z,_⟩:=R.own i a Y
  rw[B]at Z
  rcases Z with⟨z,_⟩|⟨z,_⟩<;>cases z
theorem CN(i:Nat)(B:fl[i]? ≠ some .A){x:Str}(O:X.N[i]? = some x:=by rfl)(J:Vis X.env.scope x:=by first|exact Or.inl rfl|exact Or.inr (Or.inl rfl)|exact Or.inr (Or.inr rfl))(hd:(x==("__debug__":Str))=false:=by decide)
 (D:(x==("__classdict__":Str))=false:=by decide) (hn:isN fl[i]? = false:=by rfl):DE X fl .R (.Name x pos) (HJ (ao i)):=by
 refine PE.imp (rE O J hd D) λσ H Q h=>?_
 obtain⟨G,ow,δ,d,R,Z,q⟩:=h
 unfold HJ at Z
 cases Y:ao i δ with
 |none=>rw[Y]at Z;cases Z
 |some P=>
  rw[Y,aM]at Z
  by_cases V:fl1 P=true
  ·rw[if_pos V]at Z
   cases Z
   have e:=m_ Y
   cases W:ow i with
   |none=>
    obtain⟨v,h1,h2⟩:=R.dat i d e hn W
    exact⟨v,h1,q v H (Same.refl H) (RA.flat (R.oo i d e hn B W) h2)⟩
   |some a=>
    obtain⟨S,_,xs,ds,h1,h2,T,U⟩:=R.own i a W
    rw[e]at U
    cases U
    exact⟨_,h1,q _ H (Same.refl H) (.lst h2 S (RAs.flat V T))⟩
  ·rw[if_neg V]at Z
   cases Z
theorem pJ{B:Kd}(h:DE X fl k e f)(J:∀(Hb H:Hp) (G:Gh) (ow:Ow) (σ:St) (δ:DS) (v:V) (d:D),Rel X.K fl G ow σ Hb δ->Rs X.K G.H0 ow Hb H k v d->Rs X.K G.H0 ow Hb H B v d):DE X fl B e f:=by
 refine PE.imp h λσ H Q h=>?_
 obtain⟨G,ow,δ,d,R,Z,q⟩:=h
 exact⟨G,ow,δ,d,R,Z,λv H' s r=>q v H' s (J _ _ G ow σ δ v d R r)⟩
theorem NQ{B:Kd}{p:D->Bool}(h:DE X fl k e f)(J:∀(Hb H:Hp) (G:Gh) (ow:Ow) (σ:St) (δ:DS) (v:V) (d:D),p d=true->Rel X.K fl G ow σ Hb δ->Rs X.K G.H0 ow Hb H k v d->Rs X.K G.H0 ow Hb H B v d):
 DE X fl B e (λδ=>(f δ).bind λd=>if p d=true then some d else none):=by
 refine PE.imp h λσ H Q h=>?_
 obtain⟨G,ow,δ,d,R,Z,q⟩:=h
 dsimp only at Z
 cases Y:f δ with
 |none=>rw[Y]at Z;cases Z
 |some U=>
  rw[Y,aM]at Z
  by_cases W:p U=true
  ·rw[if_pos W]at Z
   cases Z
   exact⟨G,ow,δ,d,R,Y,λv H' s r=>q v H' s (J _ _ G ow σ δ v d W R r)⟩
  ·rw[if_neg W]at Z
   cases Z
theorem wA(h:DE X fl .FC e f):DE X fl .F e f:=pJ h λ_ _ _ _ _ _ _ _ R r=>r.FC_F R
theorem jO(h:DE X fl .FC e f):DE X fl .C e f:=pJ h λ_ _ _ _ _ _ _ _ R r=>r.FC_C
theorem jg(h:DE X fl .F e f):DE X fl .A e f:=pJ h λ_ _ _ _ _ _ _ _ R r=>r.F_A R
theorem nQ(h:DE X fl .C e f):DE X fl .A e f:=pJ h λ_ _ _ _ _ _ _ _ R r=>r.C_A R
theorem vD(h:DE X fl .C e f):DE X fl .R e f:=pJ h λ_ _ _ _ _ _ _ _ R r=>r.C_R R
theorem gC(h:DE X fl .A e f):DE X fl (.B []) e f:=pJ h λ_ _ _ _ _ _ _ _ R r=>Rs.A_B [] r
theorem NT(h:DE X fl (.B L) e f):DE X fl .P e f:=pJ h λ_ _ _ _ _ _ _ _ R r=>r.B_P
theorem oh(h:DE X fl .P e f):DE X fl .FC e (iy f):=NQ h λ_ _ _ _ _ _ _ _ Z R r=>r.P_flat Z
theorem fH(h:DE X fl .FC e f):DE X fl .A e f:=jg (wA h)
theorem dj(h:DE X fl .FC e f):DE X fl .R e f:=vD (jO h)
theorem fu(h:DE X fl .A e f):DE X fl .P e f:=NT (gC h)
theorem kO(h:DE X fl .C e f):DE X fl .P e f:=fu (nQ h)
theorem bB(h:DE X fl .FC e f):DE X fl .P e f:=fu (fH h)
theorem sX(h:DE X fl .F e f):DE X fl .P e f:=fu (jg h)
theorem yP(h:PE X e (tC v))(D:flat d=true)(B:∀H,RA X.K ok0 false H v d):DE X fl .FC e (dC d):=by
 refine PE.imp h λσ H Q h=>?_
 obtain⟨G,ow,δ,Z,R,hd,q⟩:=h
 cases hd
 exact q v H (Same.refl H) (.inl ⟨D,B H⟩)
theorem CP{i j pos}:DE X fl .FC (.Constant (.int i) j pos) (dC (.int i)):=yP Wf rfl λ_=>.int _
theorem oE{b j pos}:DE X fl .FC (.Constant (.bool b) j pos) (dC (.bool b)):=yP Vr rfl λ_=>.bl _
theorem NZ{j pos}:DE X fl .FC (.Constant .none j pos) (dC .none):=yP Wg rfl λ_=>.non
theorem o9{x j pos}:DE X fl .FC (.Constant (.str x) j pos) (dC (.str x)):=yP Wh rfl λ_=>.str _
theorem CQ{i:Int}(h:∃t,X.mg x=some (.int i t))(B:Gl X x:=by rfl)(hd:(x==("__debug__":Str))=false:=by decide):DE X fl .FC (.Name x pos) (dC (.int i)):=by
 obtain⟨t,h⟩:=h
 exact yP (RM (v:=.int i) B h ⟨t,rfl⟩ hd) rfl λ_=>.int _
def BrO(K:PySem.W.Frag)(r:R2)(g:D->D->Option D):Prop:=∀(H:Hp)(x y:V)(dx Z d:D)(Q:VK),RA K ok1 true H x dx->RA K ok1 true H y Z->g dx Z=some d->(∀v,flat d=true->RA K ok0 false H v d->Q v H)->r x y H Q
theorem Bp{g:D->D->Option D}(h:dOp g fa fb δ=some d):∃x y,fa δ=some x/\fb δ=some y/\g x y=some d:=by
 unfold dOp at h
 cases ha:fa δ with
 |none=>rw[ha]at h;cases h
 |some x=>
  rw[ha,aM]at h
  cases Z:fb δ with
  |none=>rw[Z]at h;cases h
  |some y=>
   rw[Z,aM]at h
   exact⟨x,y,rfl,rfl,h⟩
theorem bind1{α β:Type}{x:Option α}{g:α->Option β}{d:β}(h:x.bind g=some d):∃y,x=some y/\g y=some d:=by
 cases x with
 |none=>cases h
 |some y=>exact⟨y,rfl,h⟩
theorem wC{g:D->D->Option D}{σ:St}{Q:VK}(B:BrO X.K r g)(h:tD X.K fl .FC (dOp g fa fb) σ H Q):tOp r (tD X.K fl .P fa) (tD X.K fl .P fb) σ H Q:=by
 obtain⟨G,ow,δ,d,R,U,q⟩:=h
 obtain⟨x,y,S,e2,T⟩:=Bp U
 refine⟨G,ow,δ,x,R,S,λv H1 s1 W=>⟨G,ow,δ,y,R.grow s1,e2,λu H2 s2 Y=>?_⟩⟩
 exact B H2 v u x y d Q (RA.same s2 W) Y T λz V Z=>q z H2 (s1.trans s2) (.inl ⟨V,Z⟩)
theorem dg{op:Operator}{g:D->D->Option D}(B:OpR X (binaryOp op) r)(J:BrO X.K r g)(h1:DE X fl .P a fa)(h2:DE X fl .P b fb):DE X fl .FC (.BinOp a op b pos) (dOp g fa fb):=
 PE.imp (Nf B h1 h2) λ_ _ _ h=>wC J h
theorem rM{g:D->D->Option D}(B:OpR X (compareOp op) r)(J:BrO X.K r g)(h1:DE X fl .P a fa)(h2:DE X fl .P b fb)(hm:behindInMarks op b=false):DE X fl .FC (.Compare a [op] [b] pos) (dOp g fa fb):=
 PE.imp (R5 B h1 h2 hm) λ_ _ _ h=>wC J h
theorem gb{g:D->D->Option D}(B:OpR X (compareOp op) r)(J:BrO X.K r g)(h1:DE X fl .P a fa)(h2:DE X fl .P b fb)(hm:behindInMarks op b=false):DT X fl (.Compare a [op] [b] pos) (bN (dOp g fa fb)):=by
 refine PT.imp (R6 B h1 h2 hm) λσ H Q h=>?_
 obtain⟨G,ow,δ,c,R,Z,q⟩:=h
 obtain⟨d,Y,e2⟩:=bind1 Z
 cases d<;>first|(cases e2;done)|skip
 cases e2
 refine wC (fl:=fl) (fa:=fa) (fb:=fb) J ⟨G,ow,δ,_,R,Y,λv H' s r=>?_⟩
 obtain rfl:=(Rs.FC_C r).blE
 exact⟨_,rfl,q H' s⟩
theorem lZ(h:DE X fl .P e f)(B:∀whole,isTrue e X.env whole=(do let v <-whole;standAt e.pos;holding [v] (truthy v)):=by intro _;rfl):DT X fl e (bN f):=by
 refine PT.imp (Wl h B) λσ H Q h=>?_
 obtain⟨G,ow,δ,c,R,Z,q⟩:=h
 obtain⟨d,Y,e2⟩:=bind1 Z
 cases d<;>first|(cases e2;done)|skip
 cases e2
 refine⟨G,ow,δ,_,R,Y,λv H' s r=>?_⟩
 obtain rfl:=RA.blE r
 exact⟨_,rfl,q H' s⟩
theorem Bq{h:Int->Int->V}{g:Int->Int->D}(J:∀i j,flat (g i j)=true)(B:∀H i j,RA K ok0 false H (h i j) (g i j)):BrO K (rI0 h) (gI λi j=>some (g i j)):=by
 intro H x y dx X d Q Y Z e q
 unfold gI at e
 split at e
 ·next i j=>
  cases e
  exact⟨i,j,Y.intE,Z.intE,q _ (J i j) (B H i j)⟩
 ·cases e
theorem S7{C:Int->Int->Prop}{h:Int->Int->V}{g:Int->Int->D}{c:Int->Int->Bool}(O:∀i j,c i j=true->C i j)(J:∀i j,flat (g i j)=true)(B:∀H i j,RA K ok0 false H (h i j) (g i j)):
 BrO K (rI C h) (gI λi j=>if c i j=true then some (g i j)else none):=by
 intro H x y dx X d Q Y Z e q
 unfold gI at e
 split at e
 ·next i j=>
  dsimp only at e
  by_cases z:c i j=true
  ·rw[if_pos z]at e
   cases e
   exact⟨i,j,Y.intE,Z.intE,O i j z,q _ (J i j) (B H i j)⟩
  ·rw[if_neg z]at e
   cases e
 ·cases e
end
section
variable{X:Cx}{K:PySem.W.Frag}
theorem S8{i j:Int}(h:yL i j=true):IntMulOk i j:=by
 unfold yL at h
 rw[jB,jB,bf]at h
 rcases h with(h|h)|⟨h1,h2⟩
 ·exact IntMulOk.of_left (PySem.intBits_le_iff.mpr (of_decide_eq_true h))
 ·exact IntMulOk.of_right (PySem.intBits_le_iff.mpr (of_decide_eq_true h))
 ·exact PySem.IntMulOk.of_le (PySem.intBits_le_iff.mpr (of_decide_eq_true h1)) (PySem.intBits_le_iff.mpr (of_decide_eq_true h2)) (by decide)
theorem oM:OpR X (binaryOp .Mult) (rI (λi j=>yL i j=true) λi j=>.int (i*j)):=opI λ_ _ _ _ _ _ _ Z q=>mul_int q (S8 Z)
theorem Jq:OpR X (binaryOp .FloorDiv) (rI (λi j=>HN i j=true) λi j=>.int (i.fdiv j)):=opI λi j _ _ _ _ _ Z q=>by
 unfold HN at Z
 rw[bf]at Z
 have h1:=of_decide_eq_true Z.1
 have h2:=of_decide_eq_true Z.2
 refine floordiv_int h1 q (.inl (PyProof.noPylong_of_log2 ?_))
 exact(Nat.log2_lt (by omega)).mpr h2
theorem S9{i j:Int}(h:Xa i j=true):WK i j:=by
 unfold Xa at h
 rw[bf,bf]at h
 have h1:=of_decide_eq_true h.1.1
 have h2:=of_decide_eq_true h.1.2
 exact⟨h1,by omega,of_decide_eq_true h.2⟩
theorem gM:BrO K (rI0 λi j=>.int (i+j)) eF:=Bq (λ_ _=>rfl) λ_ _ _=>.int _
theorem Br:BrO K (rI0 λi j=>.int (i-j)) uz:=Bq (λ_ _=>rfl) λ_ _ _=>.int _
theorem vG:BrO K (rI (λi j=>yL i j=true) λi j=>.int (i*j)) qu:=S7 (λ_ _ h=>h) (λ_ _=>rfl) λ_ _ _=>.int _
theorem Vw:BrO K (rI (λi j=>HN i j=true) λi j=>.int (i.fdiv j)) Ft:=S7 (λ_ _ h=>h) (λ_ _=>rfl) λ_ _ _=>.int _
theorem vH:BrO K (rI (λ_ j=>j≠0) λi j=>.int (i.fmod j)) uV:=S7 (λ_ _ h=>of_decide_eq_true h) (λ_ _=>rfl) λ_ _ _=>.int _
theorem ZJ:BrO K (rI WK λi j=>.int (i^j.toNat)) Xb:=S7 (λ_ _ h=>S9 h) (λ_ _=>rfl) λ_ _ _=>.int _
theorem b_lt:BrO K (rI0 λi j=>.bl (decide (i<j))) gLt:=Bq (λ_ _=>rfl) λ_ _ _=>.bl _
theorem sY:BrO K (rI0 λi j=>.bl (decide (i<=j))) gLe:=Bq (λ_ _=>rfl) λ_ _ _=>.bl _
theorem K5:BrO K (rI0 λi j=>.bl (decide (j<i))) gGt:=Bq (λ_ _=>rfl) λ_ _ _=>.bl _
theorem ag7:BrO K (rI0 λi j=>.bl (decide (j<=i))) gGe:=Bq (λ_ _=>rfl) λ_ _ _=>.bl _
theorem yQ:BrO K (Zx K) gEq:=by
 intro H x y dx Z d Q X Y e q
 unfold gEq at e
 by_cases z:(SeqAt.shaped dx&&SeqAt.shaped Z)=true
 ·rw[if_pos z]at e
  cases e
  rw[bf]at z
  exact⟨dx,Z,X.rd (aw z.1),Y.rd (aw z.2),z.1,z.2,q _ rfl (.bl _)⟩
 ·rw[if_neg z]at e
  cases e
theorem Fy:BrO K (Zy K) gNe:=by
 intro H x y dx Z d Q X Y e q
 unfold gNe at e
 by_cases z:(SeqAt.shaped dx&&SeqAt.shaped Z)=true
 ·rw[if_pos z]at e
  cases e
  rw[bf]at z
  exact⟨dx,Z,X.rd (aw z.1),Y.rd (aw z.2),z.1,z.2,q _ rfl (.bl _)⟩
 ·rw[if_neg z]at e
  cases e
end
end D3
variable{G:D3.Gh}{ow:D3.Ow}
namespace D3
open PySem PySem.Spec PyProof.Rows L2 My
section
variable{X:Cx}{fl:List Fl}{e a b c:Expr}{es:List Expr}{st:Stmt}{sts body orelse:List Stmt}{k:Kd}{f fa fb fc:FE}{fs gs:FS}{ft gt:FT}{pos:Pos}
theorem HW.nx_imp{Dn:Ends}{N:St->Hp->Prop}{o:Oc}(h:HW K fl G Dn o)(hn:∀δ',o ≠ .nx δ'):HW K fl G {Dn with nx:=N} o:=by
 cases o with
 |nx δ'=>exact absurd rfl (hn δ')
 |rt d=>exact h
 |bk δ'=>exact h
 |ct δ'=>exact h
 |ex c f v=>exact h
theorem dY:DSs X fl [] dJ:=PSs.imp RQ λDn σ H h=>by
 obtain⟨G,ow,δ,o,R,Z,q⟩:=h
 cases Z
 exact q ow σ H R
theorem bx(h1:DS1 X fl st fs)(h2:DSs X fl sts gs):DSs X fl (st::sts) (bW fs gs):=PSs.imp (M5 h1 h2) λDn σ H h=>by
 obtain⟨G,ow,δ,o,R,W,q⟩:=h
 obtain⟨Y,V,e2⟩:=bind1 W
 refine⟨G,ow,δ,Y,R,V,?_⟩
 cases Y with
 |nx δ'=>exact λZ σ' H' R'=>⟨G,Z,δ',o,R',e2,q⟩
 |rt d=>cases e2;exact HW.nx_imp q (λ_ z=>by cases z)
 |bk d=>cases e2;exact HW.nx_imp q (λ_ z=>by cases z)
 |ct d=>cases e2;exact HW.nx_imp q (λ_ z=>by cases z)
 |ex c f v=>cases e2;exact q
theorem bH(h1:DS1 X fl st fs):DSs X fl [st] fs:=PSs.imp (RV h1) λ_ _ _ h=>h
theorem cP(h:DE X fl .R e f):DS1 X fl (.Return (some e) pos) (dF f):=PS.imp (M6 h) λDn σ H h=>by
 obtain⟨G,ow,δ,o,R,Z,q⟩:=h
 obtain⟨d,Y,e2⟩:=bind1 Z
 cases e2
 exact⟨G,ow,δ,d,R,Y,λv H' s r=>q v H' (R.same0.trans s) r⟩
theorem S_(h:DE X fl .P e f)(hs:swapsWith e none pos.line X.env=pure false:=by rfl):DS1 X fl (.Expr e pos) (Jo f):=PS.imp (Cu h hs) λDn σ H h=>by
 obtain⟨G,ow,δ,o,R,Z,q⟩:=h
 obtain⟨d,Y,e2⟩:=bind1 Z
 cases e2
 exact⟨G,ow,δ,d,R,Y,λv H' s r=>q ow σ H' (R.grow s)⟩
theorem iU(B:DT X fl c ft)(h1:DSs X fl body fs)(h2:DSs X fl orelse gs):DS1 X fl (.If c body orelse pos) (sIf ft fs gs):=PS.imp (Ze B h1 h2) λDn σ H h=>by
 obtain⟨G,ow,δ,o,R,Z,q⟩:=h
 obtain⟨t,Y,e2⟩:=bind1 Z
 refine⟨G,ow,δ,t,R,Y,λH' s=>?_⟩
 cases t with
 |true=>exact Ag ⟨G,ow,δ,o,R.grow s,e2,q⟩
 |false=>exact Af ⟨G,ow,δ,o,R.grow s,e2,q⟩
theorem iV{α:Type}{l:List (Option α)}{x y:α}(h:(l.set i (some x))[j]? = some (some y)):(j=i/\x=y)\/(j≠i/\l[j]? = some (some y)):=by
 rw[lK]at h
 by_cases e:i=j
 ·subst e
  rw[if_pos rfl]at h
  by_cases z:i<l.length
  ·rw[if_pos z]at h
   cases h
   exact .inl ⟨rfl,rfl⟩
  ·rw[if_neg z]at h
   cases h
 ·rw[if_neg e]at h
  exact .inr ⟨λz=>e z.symm,h⟩
theorem Rel.q_{σ:St}(R:Rel K fl G ow σ H δ)(B:fl[i]? = some .A)(hi:i<σ.length)(r:RA K (okA ow) true H v d):
 Rel K fl G ow (σ.set i (some v)) H (δ.set i (some (.d d))):=by
 have T:∀a,ow i≠some a:=λa z=>by
  obtain⟨_,U,_⟩:=R.own i a z
  rw[B]at U
  rcases U with⟨z,_⟩|⟨z,_⟩<;>cases z
 refine⟨R.s0,R.s1,by rw[cH,cH];exact R.len,λj a h=>?_,R.inj,R.pin,λj W h1 hn h2=>?_,λj W h1 hn h2 Y=>?_,R.nt,R.nd,R.ns,R.np,λj W hn h1=>?_⟩
 ·have Z:j≠i:=λz=>T a (z▸h)
  obtain⟨Q,S,xs,ds,h1,h2,Y,X⟩:=R.own j a h
  exact⟨Q,S,xs,ds,by rw[bJ (Ne.symm Z)];exact h1,h2,Y,by rw[bJ (Ne.symm Z)];exact X⟩
 ·rcases iV h1 with⟨rfl,e⟩|⟨Z,e⟩
  ·cases e
   exact⟨v,by rw[dD hi],r⟩
  ·obtain⟨V,Y,X⟩:=R.dat j W e hn h2
   exact⟨V,by rw[bJ (Ne.symm Z)];exact Y,X⟩
 ·rcases iV h1 with⟨rfl,e⟩|⟨Z,e⟩
  ·exact absurd B h2
  ·exact R.oo j W e hn h2 Y
 ·rcases iV h1 with⟨rfl,e⟩|⟨Z,e⟩
  ·rw[B]at hn;cases hn
  ·obtain⟨V,Y,X⟩:=R.nr j W hn e
   exact⟨V,by rw[bJ (Ne.symm Z)];exact Y,X⟩
def w6(ow:Ow)(i:Nat)(a:Option Addr):Ow:=⟨λj=>if j=i then a else ow j,ow.n⟩
theorem jG{a:Option Addr}:w6 ow i a i=a:=if_pos rfl
theorem gO{a:Option Addr}(h:j≠i):w6 ow i a j=ow j:=if_neg h
theorem Rel.setO{σ:St}(R:Rel K fl G ow σ H δ)(s:Same H H')(B:fl[i]? = some .O)(hi:i<σ.length)(r:Rs K G.H0 ow H H' .F v d):
 ∃J,Rel K fl G J (σ.set i (some v)) H' (δ.set i (some (.d d))):=by
 have R':=R.grow s
 have S:∀b,okA ow b->okA (w6 ow i none) b:=λb z=>⟨λj e=>by
  by_cases Z:j=i
  ·subst Z;rw[jG]at e;cases e
  ·rw[gO Z]at e;exact z.1 j e,z.2⟩
 have P:∀j W,isN fl[j]? = true->(δ.set i (some (.d d)))[j]? = some (some (.d W))->∃T,(σ.set i (some v))[j]? = some (some T)/\RT K H' T W (ow.n j)/\(ow.n j).Nodup:=λj W hn h1=>by
  rcases iV h1 with⟨rfl,e⟩|⟨Z,e⟩
  ·rw[B]at hn;cases hn
  ·obtain⟨T,Y,U⟩:=R'.nr j W hn e
   exact⟨T,by rw[bJ (Ne.symm Z)];exact Y,U⟩
 rcases r with⟨N,r⟩|⟨a,xs,ds,rfl,rfl,ha,E,C⟩
 ·refine⟨w6 ow i none,R'.s0,R'.s1,by rw[cH,cH];exact R.len,λj a h=>?_,λj j' a h h'=>?_,λj h=>?_,λj W h1 hn h2=>?_,λj W h1 hn h2 Y=>?_,R'.nt,R'.nd,λj j' a h h'=>?_,R'.np,P⟩
  ·have Z:j≠i:=λz=>by subst z;rw[jG]at h;cases h
   rw[gO Z]at h
   obtain⟨L,M,xs,ds,h1,h2,Y,U⟩:=R'.own j a h
   exact⟨L,M,xs,ds,by rw[bJ (Ne.symm Z)];exact h1,h2,Y.imp S (λz=>z),by rw[bJ (Ne.symm Z)];exact U⟩
  ·have Z:j≠i:=λz=>by subst z;rw[jG]at h;cases h
   have X:j'≠i:=λz=>by subst z;rw[jG]at h';cases h'
   rw[gO Z]at h
   rw[gO X]at h'
   exact R.inj j j' a h h'
  ·have Z:j≠i:=λz=>by subst z;rw[B]at h;cases h
   rw[gO Z]
   exact R.pin j h
  ·rcases iV h1 with⟨rfl,e⟩|⟨Z,e⟩
   ·cases e
    exact⟨v,by rw[dD hi],RA.flat N r⟩
   ·rw[gO Z]at h2
    obtain⟨T,Y,U⟩:=R'.dat j W e hn h2
    exact⟨T,by rw[bJ (Ne.symm Z)];exact Y,U.imp S (λz=>z)⟩
  ·rcases iV h1 with⟨rfl,e⟩|⟨Z,e⟩
   ·cases e
    exact N
   ·rw[gO Z]at Y
    exact R.oo j W e hn h2 Y
  ·by_cases Z:j'=i
   ·subst Z;rw[jG]at h';cases h'
   ·rw[gO Z]at h';exact R.ns j j' a h h'
 ·have sub:∀b,okA ow b/\b≠a->okA (w6 ow i (some a)) b:=λb z=>⟨λj e=>by
   by_cases Z:j=i
   ·subst Z;rw[jG]at e;exact z.2 (dh.inj e).symm
   ·rw[gO Z]at e;exact z.1.1 j e,z.1.2⟩
  have old:∀{v:V}{d:D},RA K (okA ow) true H v d->RA K (okA (w6 ow i (some a))) true H' v d:=λr=>(r.track.imp (λb z=>sub b ⟨z.1,λe=>z.2 (e▸ha)⟩) (λz=>z)).same s
  have olds:∀{v:List V}{d:List D},RAs K (okA ow) true H v d->RAs K (okA (w6 ow i (some a))) true H' v d:=λr=>(r.track.imp (λb z=>sub b ⟨z.1,λe=>z.2 (e▸ha)⟩) (λz=>z)).same s
  have Q:∀j,ow j≠some a:=λj z=>by
   obtain⟨_,_,_,_,_,h2,_⟩:=R.own j a z
   rw[ha]at h2
   cases h2
  have A:G.HF a=none:=R.s1.free ha
  refine⟨w6 ow i (some a),R'.s0,R'.s1,by rw[cH,cH];exact R.len,λj b h=>?_,λj j' b h h'=>?_,λj h=>?_,λj W h1 hn h2=>?_,λj W h1 hn h2 Y=>?_,R'.nt,R'.nd,λj j' b h h'=>?_,R'.np,P⟩
  ·by_cases Z:j=i
   ·subst Z
    rw[jG]at h
    cases h
    exact⟨R.same0.free ha,.inl ⟨B,A⟩,xs,ds,by rw[dD hi],E,C.imp sub (λz=>z),by rw[dD (by rw[<-R.len];exact hi)]⟩
   ·rw[gO Z]at h
    obtain⟨L,M,ys,I,h1,h2,Y,U⟩:=R.own j b h
    exact⟨L,M,ys,I,by rw[bJ (Ne.symm Z)];exact h1,s _ _ h2,olds Y,by rw[bJ (Ne.symm Z)];exact U⟩
  ·by_cases Z:j=i
   ·by_cases X:j'=i
    ·rw[Z,X]
    ·subst Z
     rw[jG]at h
     cases h
     rw[gO X]at h'
     exact absurd h' (Q j')
   ·rw[gO Z]at h
    by_cases X:j'=i
    ·subst X
     rw[jG]at h'
     cases h'
     exact absurd h (Q j)
    ·rw[gO X]at h'
     exact R.inj j j' b h h'
  ·have Z:j≠i:=λz=>by subst z;rw[B]at h;cases h
   rw[gO Z]
   exact R.pin j h
  ·rcases iV h1 with⟨rfl,e⟩|⟨Z,e⟩
   ·rw[jG]at h2;cases h2
   ·rw[gO Z]at h2
    obtain⟨T,Y,U⟩:=R.dat j W e hn h2
    exact⟨T,by rw[bJ (Ne.symm Z)];exact Y,old U⟩
  ·rcases iV h1 with⟨rfl,e⟩|⟨Z,e⟩
   ·rw[jG]at Y;cases Y
   ·rw[gO Z]at Y
    exact R.oo j W e hn h2 Y
  ·by_cases Z:j'=i
   ·subst Z
    rw[jG]at h'
    cases h'
    exact(R.nt j a h).2.1.ne ha
   ·rw[gO Z]at h';exact R.ns j j' b h h'
theorem Rel.mut{σ:St}{a:Addr}{ys:List V}(R:Rel K fl G ow σ H δ)(D:fl[i]? = some .O)(B:ow i=some a)(r:RAs K (okA ow) true H ys ds):
 Rel K fl G ow σ (upd H a (.lst ys)) (δ.set i (some (.d (.list ds)))):=by
 obtain⟨I,N,xs,E,F,e2,C,M⟩:=R.own i a B
 have na:¬okA ow a:=λz=>z.1 i B
 have L:G.HF a=none:=by
  rcases N with⟨_,z⟩|⟨z,_⟩
  ·exact z
  ·rw[D]at z;cases z
 have hi:i<δ.length:=by
  rcases gD i δ.length with z|z
  ·exact z
  ·rw[bG z]at M;cases M
 refine⟨R.s0,λb o Y=>?_,by rw[cH];exact R.len,λj b h=>?_,R.inj,R.pin,λj U h1 hn h2=>?_,λj U h1 hn h2 Z=>?_,λj b h=>?_,R.nd,R.ns,R.np,λj U hn h1=>?_⟩
 ·rw[cO (λz=>by subst z;rw[L]at Y;cases Y)]
  exact R.s1 b o Y
 ·by_cases X:j=i
  ·subst X
   rw[B]at h
   cases h
   exact⟨I,N,ys,ds,F,cU,r.upd e2 na,by rw[dD hi]⟩
  ·obtain⟨Q,S,zs,P,h1,h2,Z,W⟩:=R.own j b h
   have Y:b≠a:=λz=>X (R.inj j i a (z▸h) B)
   exact⟨Q,S,zs,P,h1,by rw[cO Y];exact h2,Z.upd e2 na,by rw[bJ (Ne.symm X)];exact W⟩
 ·rcases iV h1 with⟨rfl,e⟩|⟨X,e⟩
  ·rw[B]at h2;cases h2
  ·obtain⟨T,Z,W⟩:=R.dat j U e hn h2
   exact⟨T,Z,W.upd e2 na⟩
 ·rcases iV h1 with⟨rfl,e⟩|⟨X,e⟩
  ·rw[B]at Z;cases Z
  ·exact R.oo j U e hn h2 Z
 ·obtain⟨g1,g2,g3⟩:=R.nt j b h
  refine⟨g1,?_,g3⟩
  by_cases Y:b=a
  ·rw[Y,cU];exact⟨_,rfl,inferInstance⟩
  ·rw[cO Y];exact g2
 ·rcases iV h1 with⟨rfl,e⟩|⟨X,e⟩
  ·rw[D]at hn;cases hn
  ·obtain⟨T,Z,W,J⟩:=R.nr j U hn e
   exact⟨T,Z,W.upd e2 (λz=>R.ns j i a z B),J⟩
theorem vJ{σ:St}(R:Rel K fl G ow σ H δ)(h:i<δ.length):i<σ.length:=by rw[R.len];exact h
theorem Tc(D:fl[i]? = some .A)(O:X.N.Nodup)(hi:X.N[i]? = some x)(J:X.env.scope.names.lookup x=some .local\/X.env.scope.names.lookup x=some .cell)(h:DE X fl .A e f)
 (hs:swapsWith e (some (.Name x pos')) pos.line X.env=pure false:=by rfl) (B:X.fn x=true\/X.env.scope.names.lookup x=some .local:=by first|exact .inl rfl|exact .inr rfl) :
 DS1 X fl (.Assign [.Name x pos'] e pos) (bU i f):=PS.imp (Hv (i:=i) O hi J h hs B) λDn σ H h=>by
 obtain⟨G,ow,δ,o,R,Z,q⟩:=h
 unfold bU at Z
 by_cases Y:i<δ.length
 ·rw[if_pos Y]at Z
  obtain⟨d,W,e2⟩:=bind1 Z
  cases e2
  exact⟨G,ow,δ,d,R,W,λv H' s r=>q ow _ H' ((R.grow s).q_ D (vJ R Y) r)⟩
 ·rw[if_neg Y]at Z
  cases Z
theorem xY(D:fl[i]? = some .O)(hN:X.N.Nodup)(hi:X.N[i]? = some x)(J:X.env.scope.names.lookup x=some .local\/X.env.scope.names.lookup x=some .cell)(h:DE X fl .F e f)
 (hs:swapsWith e (some (.Name x pos')) pos.line X.env=pure false:=by rfl) (B:X.fn x=true\/X.env.scope.names.lookup x=some .local:=by first|exact .inl rfl|exact .inr rfl) :
 DS1 X fl (.Assign [.Name x pos'] e pos) (bU i f):=PS.imp (Hv (i:=i) hN hi J h hs B) λDn σ H h=>by
 obtain⟨G,ow,δ,o,R,Z,q⟩:=h
 unfold bU at Z
 by_cases W:i<δ.length
 ·rw[if_pos W]at Z
  obtain⟨d,V,e2⟩:=bind1 Z
  cases e2
  refine⟨G,ow,δ,d,R,V,λv H' s r=>?_⟩
  obtain⟨Y,R'⟩:=R.setO s D (vJ R W) r
  exact q Y _ H' R'
 ·rw[if_neg W]at Z
  cases Z
theorem Td(D:fl[i]? = some .A)(O:X.N.Nodup)(hi:X.N[i]? = some x)(J:X.env.scope.names.lookup x=some .local\/X.env.scope.names.lookup x=some .cell)
 (B:X.fn x=true\/X.env.scope.names.lookup x=some .local:=by first|exact .inl rfl|exact .inr rfl):DG X fl [i] (.Name x pos) (gNl i):=
 PG.imp (RX (i:=i) O hi J B) λv σ H Q h=>by
 obtain⟨G,ow,δ,d,δ',R,r,Z,q⟩:=h
 unfold gNl at Z
 by_cases Y:i<δ.length
 ·rw[if_pos Y]at Z
  cases Z
  exact q _ (R.q_ D (vJ R Y) r) λj W=>bJ (λz=>W (by rw[z];exact aN.mpr rfl))
 ·rw[if_neg Y]at Z
  cases Z
def ag8(K:PySem.W.Frag)(fl:List Fl)(tg:List Nat)(g:List D->DS->Option DS):TGs:=λvs σ H Q=>∃G ow δ ds δ',Rel K fl G ow σ H δ/\RAs K (okA ow) true H vs ds/\g ds δ=some δ'/\∀σ',Rel K fl G ow σ' H δ'->(∀j,j∉tg->σ'[j]? = σ[j]?)->Q σ' H
theorem PGs.imp{t t':TGs}(h:PGs X es t)(i:∀v σ H Q,t' v σ H Q->t v σ H Q):PGs X es t':=λpins s σ H v u Q I r q=>h pins s σ H v u Q I r (i v σ H Q q)
abbrev DGs(X:Cx)(fl:List Fl)(tg:List Nat)(es:List Expr)(g:List D->DS->Option DS):Prop:=PGs X es (ag8 X.K fl tg g)
theorem pK:DGs X fl [] [] jE:=PGs.imp RZ λvs σ H Q h=>by
 obtain⟨G,ow,δ,ds,δ',R,r,Z,q⟩:=h
 cases r with
 |nil=>cases Z;exact⟨rfl,q σ R λ_ _=>rfl⟩
 |cons _ _=>cases Z
theorem fQ{tg B:List Nat}{g:FG}{gs:List D->DS->Option DS}(h1:DG X fl tg e g)(h2:DGs X fl B es gs)(hs:(assignEach (e::es) X.env).map (·.2)=assign e X.env::(assignEach es X.env).map (·.2):=by rfl):
 DGs X fl (tg++B) (e::es) (cF g gs):=PGs.imp (M9 h1 h2 hs) λvs σ H Q h=>by
 obtain⟨G,ow,δ,ds,δ',R,r,U,q⟩:=h
 cases r with
 |nil=>cases U
 |cons S T=>
  obtain⟨Y,P,e2⟩:=bind1 U
  refine⟨_,_,rfl,G,ow,δ,_,Y,R,S,P,λσ' R' k1=>⟨G,ow,Y,_,δ',R',T,e2,λZ W k2=>q Z W λj V=>?_⟩⟩
  rw[k2 j λz=>V (bI _ z),k1 j λz=>V (cB _ z)]
theorem sZ{tg:List Nat}{gs:List D->DS->Option DS}{k:Nat}(J:X.calm=true)(h:DGs X fl tg es gs)(hn:(assignEach es X.env).length=n:=by rfl)(B:(assignEach es X.env).findIdx? (·.1)=none:=by rfl):
 DG X fl tg (.Tuple es k pos) (gTn n gs):=PG.imp (Wv (n:=n) J h hn B) λv σ H Q h=>by
 obtain⟨G,ow,δ,d,δ',R,r,Z,q⟩:=h
 unfold gTn at Z
 split at Z
 ·next l=>
  by_cases z:l.length=n
  ·rw[if_pos z]at Z
   obtain⟨a,xs,rfl,W,Y⟩:=r.tupE
   exact⟨a,xs,rfl,W,by rw[Y.length];exact z,G,ow,δ,l,δ',R,Y,Z,q⟩
  ·rw[if_neg z]at Z
   cases Z
 ·cases Z
theorem HX{tg:List Nat}{g:FG}{t:Expr}(h:DE X fl .A e f)(B:DG X fl tg t g)(hs:swapsWithSole [t] e pos.line X.env=pure false:=by rfl)(hw:swappedStores [t] e X.env=pure none:=by rfl)
 (h1:(assignEach [t] X.env).map (·.2)=[assign t X.env]:=by rfl):DS1 X fl (.Assign [t] e pos) (Cz f g):=PS.imp (Hu h B hs hw h1) λDn σ H h=>by
 obtain⟨G,ow,δ,o,R,Z,q⟩:=h
 obtain⟨d,V,e2⟩:=bind1 Z
 obtain⟨δ',W,Y⟩:=bind1 e2
 cases Y
 exact⟨G,ow,δ,d,R,V,λv H' s r=>⟨G,ow,δ,d,δ',R.grow s,r,W,λσ' R' _=>q ow σ' H' R'⟩⟩
end
end D3
variable{l:List D3.D}{vpos:Pos}{fk:D3.FE}{Hb:L2.Hp}{fa:D3.FA}{δ':D3.DS}
namespace D3
open PySem PySem.Spec PyProof.Rows L2 My
section
variable{X:Cx}{fl:List Fl}{e a b c:Expr}{es:List Expr}{st:Stmt}{sts body orelse:List Stmt}{k:Kd}{f fa fb fc:FE}{fs gs:FS}{ft gt:FT}{pos:Pos}
theorem N5{σ:St}(R:Rel K fl G ow σ H δ)(B:fl[i]? = some .O)(h:ao i δ=some (.list l)):
 ∃a xs,ow i=some a/\σ[i]? = some (some (.ref a))/\H a=some (.lst xs)/\RAs K (okA ow) true H xs l:=by
 have e:=m_ h
 cases Z:ow i with
 |none=>
  have z:=R.oo i _ e (by rw[B];rfl) (by rw[B];simp) Z
  simp[flat]at z
 |some a=>
  obtain⟨W,_,xs,ds,h1,h2,X,Y⟩:=R.own i a Z
  rw[e]at Y
  cases Y
  exact⟨a,xs,rfl,h1,h2,X⟩
theorem wD{apos cpos:Pos}(Y:fl[i]? = some .O)(h:DE X fl .A e f)(hN:X.N[i]? = some x)(hv:Vis X.env.scope x:=by first|exact Or.inl rfl|exact Or.inr (Or.inl rfl)|exact Or.inr (Or.inr rfl))(hd:(x==("__debug__":Str))=false:=by decide)
 (hcd:(x==("__classdict__":Str))=false:=by decide)
 (hs:swapsWith (.Call (.Attribute (.Name x vpos) "append" apos) [e] [] cpos) none pos.line X.env=pure false:=by rfl)
 (J:attributeBase (.Name x vpos) "append" X.env (eval (.Name x vpos) X.env)=eval (.Name x vpos) X.env:=by rfl)
 (hfew:((backTo cpos (starEach [e] X.env)).all (λx=>!x.1)&&(backToKw cpos (keywordEach [] X.env)).all (λx=>x.1.isSome)
  && decide (([e]:List Expr).length+([]:List Keyword).length+(if([]:List Keyword).isEmpty then 0 else 1)<30))=true:=by rfl)
 (D:(apos.endLine==cpos.line)=true:=by rfl) (W:starEach [e] X.env=(false,eval e X.env)::starEach [] X.env:=by rfl) (B:(backTo cpos (starEach [] X.env)).any (·.1)=false:=by rfl) :
 DS1 X fl (.Expr (.Call (.Attribute (.Name x vpos) "append" apos) [e] [] cpos) pos) (vC i f):=
 PS.imp (Cu (Zv PySem.F.plainAttrs_list PySem.F.slot_list_append PySem.F.type_list_append Bm (rE hN hv hd hcd) (jy h n8 W) J hfew D W B) hs) λDn σ H h=>by
 obtain⟨G,ow,δ,o,R,Z,q⟩:=h
 obtain⟨x,P,U⟩:=bind1 Z
 obtain⟨d,e2,V⟩:=bind1 U
 clear Z U
 have Z:=V
 clear V
 split at Z
 case h_2=>cases Z
 next l=>
 by_cases T:l.length<1000000
 ·rw[if_pos T]at Z
  cases Z
  obtain⟨a,xs,Q,h1,h2,S⟩:=N5 R Y P
  refine⟨_,h1,.inl ⟨rfl,_,SqL.of h2⟩,G,ow,δ,d,R,e2,λv H' s r=>?_⟩
  have R':=R.grow s
  refine⟨a,xs,v,rfl,rfl,s _ _ h2,by rw[S.length];exact oG T (by decide),?_⟩
  exact q ow σ _ (R'.mut Y Q ((S.same s).append (.cons r .nil)))
 ·rw[if_neg T]at Z
  cases Z
theorem Xc{ke:Expr}(B:fl[i]? = some .O)(h:DE X fl .A e f)(hk:DE X fl .P ke fk)(hN:X.N[i]? = some x)(hv:Vis X.env.scope x:=by first|exact Or.inl rfl|exact Or.inr (Or.inl rfl)|exact Or.inr (Or.inr rfl))(hd:(x==("__debug__":Str))=false:=by decide)
 (hcd:(x==("__classdict__":Str))=false:=by decide) (ha:∀v,assign (.Subscript (.Name x vpos) ke spos) X.env v=(do
  let D <-holding [v] (eval (.Name x vpos) X.env)
  let J <-holding [v,D] (eval ke X.env)
  standAt spos
  holding [v,D,J] (setItem D J v)
  release [v,D,J] []):=by intro _;rfl)
 (hs:swapsWithSole [.Subscript (.Name x vpos) ke spos] e pos.line X.env=pure false:=by rfl) (hw:swappedStores [.Subscript (.Name x vpos) ke spos] e X.env=pure none:=by rfl)
 (h1:(assignEach [.Subscript (.Name x vpos) ke spos] X.env).map (·.2)=[assign (.Subscript (.Name x vpos) ke spos) X.env]:=by rfl) :
 DS1 X fl (.Assign [.Subscript (.Name x vpos) ke spos] e pos) (CG i fk f):=
 PS.imp (Hu h (M_ (rE hN hv hd hcd) hk set_list ha) hs hw h1) λDn σ H h=>by
 obtain⟨G,ow,δ,o,R,Z,q⟩:=h
 obtain⟨d,e2,V⟩:=bind1 Z
 obtain⟨x,K,W⟩:=bind1 V
 obtain⟨k,L,Y⟩:=bind1 W
 clear Z V W
 have Z:=Y
 clear Y
 split at Z
 case h_2=>cases Z
 next l j=>
 obtain⟨n,M,Q⟩:=bind1 Z
 cases Q
 obtain⟨a,xs,S,h1,h2,U⟩:=N5 R B K
 refine⟨G,ow,δ,d,R,e2,λv H' s r=>⟨_,h1,G,ow,δ,_,R.grow s,L,λu H2 s2 T=>?_⟩⟩
 obtain rfl:=RA.intE T
 have R2:=R.grow (s.trans s2)
 refine⟨a,xs,j,n,rfl,rfl,(s.trans s2) _ _ h2,by rw[U.length];exact M,?_⟩
 exact q ow σ _ (R2.mut B S (RAs.set (RA.same s2 r) n (U.same (s.trans s2))))
def Vx(K:PySem.W.Frag)(ow:Ow)(L:List Nat)(H1:Hp)(J:It)(l:List D):Prop:=∀H2:Hp,(∀b o,H1 b=some o->(∀i,ow i=some b->i∈L)->(∀i,b∉ow.n i)->H2 b=some o)->∀i:Nat,
 (∀d,l[i]? = some d->J.go i H2/\∀x Z,J.yld i H2 x Z->Same H2 Z/\RA K (λb=>okA ow b/\H1 b≠none) true Z x d)/\(l.length<=i->J.stop i H2)
noncomputable def tDI(K:PySem.W.Frag)(fl:List Fl)(L:List Nat)(fi:FA):TI:=λσ H R'=>∃G ow δ l,Rel K fl G ow σ H δ/\fi δ=some l/\∀J H1,Same H H1->Vx K ow L H1 J l->R' J H1
abbrev DI(X:Cx)(fl:List Fl)(L:List Nat)(tg iter:Expr)(fi:FA):Prop:=PI X tg iter (tDI X.K fl L fi)
theorem PI.imp{t t':TI}(h:PI X tg iter t)(i:∀σ H R',t' σ H R'->t σ H R'):PI X tg iter t':=λpins s σ H R' I q=>h pins s σ H R' I (i σ H R' q)
section
variable{K:PySem.W.Frag}{ok:Ok}{pl:Bool}{H1 H2:Hp}{ow:Ow}{L:List Nat}
theorem nm{b:Addr}(B:∀i b,ow i=some b->∃xs,H1 b=some (.lst xs))(h:H1 b=some o)(hn:∀xs,o ≠ .lst xs):∀i,ow i=some b->i∈L:=λi e=>by
 obtain⟨xs,z⟩:=B i b e
 rw[h]at z
 exact absurd (dh.inj z) (hn xs)
theorem nm2{b:Addr}(B:∀i b,b∈ow.n i->Chd (H1 b))(h:H1 b=some o)(hn:Chg o->False):∀i,b∉ow.n i:=λi e=>by
 obtain⟨u,z,c⟩:=B i b e
 rw[h]at z
 cases z
 exact hn c
mutual
theorem RA.keep(hk:∀b o,H1 b=some o->(∀i,ow i=some b->i∈L)->(∀i,b∉ow.n i)->H2 b=some o)(hl:∀i b,ow i=some b->∃xs,H1 b=some (.lst xs))(hm:∀i b,b∈ow.n i->Chd (H1 b))(ho:∀b,ok b->okA ow b):∀{v:V}{d:D},RA K ok pl H1 v d->RA K ok pl H2 v d
 |_,_,.non=>.non
 |_,_,.bl b=>.bl b
 |_,_,.int i=>.int i
 |_,_,.str x=>.str x
 |_,_,.lst e k q=>.lst (hk _ _ e (λi z=>absurd z ((ho _ k).1 i)) (ho _ k).2) k (RAs.keep hk hl hm ho q)
 |_,_,.lsk e k q=>.lsk (by
  rcases e with⟨o,e⟩|e
  ·exact .inl ⟨o,hk _ _ e (nm hl e (by intro xs z;cases z)) (nm2 hm e Chg.frz)⟩
  ·exact .inr e) k (RAs.keep hk hl hm ho q)
 |_,_,.tup e q=>.tup (hk _ _ e (nm hl e (by intro xs z;cases z)) (nm2 hm e Chg.tup)) (RAs.keep hk hl hm ho q)
 |_,_,.dic e g k=>.dic (hk _ _ e (λi z=>absurd z ((ho _ k).1 i)) (ho _ k).2) (g.imp λ_ _ t=>hk _ _ t (nm hl t (by intro xs z;cases z)) (nm2 hm t Chg.tup)) k
 |_,_,.dik e g k=>.dik (hk _ _ e (nm hl e (by intro xs z;cases z)) (nm2 hm e Chg.frz)) (g.imp λ_ _ t=>hk _ _ t (nm hl t (by intro xs z;cases z)) (nm2 hm t Chg.tup)) k
theorem RAs.keep(hk:∀b o,H1 b=some o->(∀i,ow i=some b->i∈L)->(∀i,b∉ow.n i)->H2 b=some o)(hl:∀i b,ow i=some b->∃xs,H1 b=some (.lst xs))(hm:∀i b,b∈ow.n i->Chd (H1 b))(ho:∀b,ok b->okA ow b):∀{v:List V}{d:List D},RAs K ok pl H1 v d->RAs K ok pl H2 v d
 |_,_,.nil=>.nil
 |_,_,.cons e q=>.cons (RA.keep hk hl hm ho e) (RAs.keep hk hl hm ho q)
end
end
theorem Rel.ownL{σ:St}(R:Rel K fl G ow σ H δ):∀i b,ow i=some b->∃xs,H b=some (.lst xs):=λi b e=>by
 obtain⟨_,_,xs,_,_,h2,_⟩:=R.own i b e
 exact⟨xs,h2⟩
theorem Rel.ownC{σ:St}(R:Rel K fl G ow σ H δ):∀i b,b∈ow.n i->Chd (H b):=λi b e=>(R.nt i b e).2.1
theorem wF{σ:St}(R:Rel K fl G ow σ H δ)(r:Rs K G.H0 ow Hb H (.B L) v (.list l)):∃a xs,v = .ref a/\SqL K H a xs /\
 ∀H2:Hp,(∀b o,H b=some o->(∀i,ow i=some b->i∈L)->(∀i,b∉ow.n i)->H2 b=some o)->SqL K H2 a xs/\RAs K (λb=>okA ow b/\H b≠none) true H2 xs l:=by
 rcases r with r|⟨i,hi,a,xs,ds,X,rfl,e,Y,W⟩
 ·cases r with
  |lst e k q=>exact⟨_,_,rfl,SqL.of e,λH2 Z=>⟨SqL.of (Z _ _ e (λi z=>absurd z (k.1 i)) k.2),RAs.keep Z R.ownL R.ownC (λb z=>z.1) q.track⟩⟩
  |lsk e k q=>exact⟨_,_,rfl,e.sq,λH2 Z=>⟨SqK.sq (by
   rcases e with⟨o,e⟩|e
   ·exact .inl ⟨o,Z _ _ e (nm R.ownL e (by intro xs z;cases z)) (nm2 R.ownC e Chg.frz)⟩
   ·exact .inr e),RAs.keep Z R.ownL R.ownC (λb z=>z.1) q.track⟩⟩
 ·cases e
  exact⟨a,xs,rfl,SqL.of Y,λH2 Z=>⟨SqL.of (Z _ _ Y (λj z=>by rw[R.inj j i a z X];exact hi) (λj z=>R.ns j i a z X)),RAs.keep Z R.ownL R.ownC (λb z=>z.1) W.track⟩⟩
theorem oN(h:DE X fl (.B L) e f):DI X fl L tg e (rK f):=PI.imp (Ji h) λσ H R' h=>by
 obtain⟨G,ow,δ,l,R,P,q⟩:=h
 obtain⟨d,O,e2⟩:=bind1 P
 cases d<;>first|(cases e2;done)|skip
 cases e2
 refine⟨G,ow,δ,_,R,O,λv H1 s r=>?_⟩
 obtain⟨a,xs,rfl,S,keep⟩:=wF (R.grow s) r
 refine⟨a,rfl,⟨xs,S⟩,q _ _ s λH2 k2 i=>?_⟩
 obtain⟨Z,W⟩:=keep H2 k2
 refine⟨λd hd=>?_,λQ=>⟨xs,Z,by rw[W.length];exact Q⟩⟩
 obtain⟨y,V,U⟩:=W.get hd
 refine⟨⟨xs,y,Z,V⟩,λx N Y=>?_⟩
 obtain⟨e,T⟩:=Y
 subst e
 have:some y=some x:=V.symm.trans (T xs Z)
 cases this
 exact⟨Same.refl _,U⟩
theorem N6(lo hi:Int):(gJ lo hi).length=(hi-lo).toNat:=by simp[gJ]
theorem N7(lo hi:Int):Vx K ow L H1 (Itr lo (hi-lo).toNat) (gJ lo hi):=by
 intro H2 _ i
 refine⟨λd hd=>?_,λY=>by rw[N6]at Y;exact Y⟩
 unfold gJ at hd
 rw[bw]at hd
 by_cases Z:i<(hi-lo).toNat
 ·rw[dM Z]at hd
  cases hd
  refine⟨Z,λx W X=>?_⟩
  obtain⟨e,e2⟩:=X
  subst e e2
  exact⟨Same.refl _,.int _⟩
 ·rw[bG (by simpa using Z)]at hd
  cases hd
theorem Jr{i:Int}(h:yM i=true): -(2^62)<=i/\i<2^62:=by
 unfold yM at h
 rw[bf]at h
 exact⟨of_decide_eq_true h.1,of_decide_eq_true h.2⟩
theorem jW{fa:FA}(B:Gl X "range")(hm:X.mg "range"=none)(h:DA X fl [a] fa)(hs:starEach [a] X.env=[(false,eval a X.env)]:=by rfl):DI X fl L tg (.Call (.Name "range" p) [a] [] pos) (mO fa):=
 PI.imp (KD B hm h hs) λσ H R' h=>by
 obtain⟨G,ow,δ,l,R,W,q⟩:=h
 obtain⟨ds,V,e2⟩:=bind1 W
 split at e2
 ·next j=>
  by_cases z:yM j=true
  ·rw[if_pos z]at e2
   cases e2
   refine⟨G,ow,δ,_,R,V,λvs H1 s r=>?_⟩
   cases r with
   |cons Y Z=>
    cases Z
    obtain rfl:=Y.intE
    refine⟨j,rfl,(Jr z).1,(Jr z).2,?_⟩
    have w:=N7 (K:=X.K) (ow:=ow) (L:=L) (H1:=H1) 0 j
    rw[rm]at w
    exact q _ _ s w
  ·rw[if_neg z]at e2
   cases e2
 ·cases e2
def lock(L:List Nat)(fl:List Fl):List Fl:=fl.mapIdx λi x=>if x = .O/\i∈L then .L else x
theorem nR:(lock L fl)[i]? = (fl[i]?).map λx=>if x = .O/\i∈L then .L else x:=by
 unfold lock
 rw[fO]
theorem N8:(lock L fl)[i]? = some .A<->fl[i]? = some .A:=by
 rw[nR]
 cases h:fl[i]? with
 |none=>simp
 |some x=>
  cases x<;>simp
  by_cases z:i∈L<;>simp[z]
theorem HY(h:(lock L fl)[i]? = some .O):fl[i]? = some .O/\i∉L:=by
 rw[nR]at h
 cases e:fl[i]? with
 |none=>rw[e]at h;simp at h
 |some x=>
  rw[e]at h
  cases x<;>simp at h
  by_cases z:i∈L
  ·simp[z]at h
  ·exact⟨rfl,z⟩
theorem H_(h:fl[i]? = some .L):(lock L fl)[i]? = some .L:=by
 rw[nR,h]
 simp
theorem Js(h:fl[i]? = some .O)(hi:i∈L):(lock L fl)[i]? = some .L:=by
 rw[nR,h]
 simp[hi]
theorem Jt(h:fl[i]? = some .O)(hi:i∉L):(lock L fl)[i]? = some .O:=by
 rw[nR,h]
 simp[hi]
theorem CT:(lock L fl)[i]? = some .N<->fl[i]? = some .N:=by
 rw[nR]
 cases h:fl[i]? with
 |none=>simp
 |some x=>
  cases x<;>simp
  by_cases z:i∈L<;>simp[z]
theorem Ia:(lock L fl)[i]? = some .M<->fl[i]? = some .M:=by
 rw[nR]
 cases h:fl[i]? with
 |none=>simp
 |some x=>
  cases x<;>simp
  by_cases z:i∈L<;>simp[z]
theorem qz:isN (lock L fl)[i]? = isN fl[i]?:=by
 rw[nR]
 cases h:fl[i]? with
 |none=>rfl
 |some x=>
  cases x<;>simp[isN]
  by_cases z:i∈L<;>simp[z]
def Let(fl':List Fl)(ow:Ow)(b:Addr):Prop:=(∃j,ow j=some b/\fl'[j]? = some .O)\/∃j,b∈ow.n j/\fl'[j]? = some .N
open Classical in
def ghL(fl':List Fl)(G:Gh)(ow:Ow)(H:Hp):Gh:=⟨G.H0,λb=>if Let fl' ow b then none else H b,ow,ow.n,G.tb⟩
open Classical in
theorem rN{fl':List Fl}{b:Addr}(h:¬Let fl' ow b):(ghL fl' G ow H).HF b=H b:=by
 unfold ghL
 dsimp only
 rw[if_neg h]
open Classical in
theorem Ie{fl':List Fl}{b:Addr}(h:Let fl' ow b):(ghL fl' G ow H).HF b=none:=by
 unfold ghL
 dsimp only
 rw[if_pos h]
theorem Rel.lock{σ:St}(L:List Nat)(R:Rel K fl G ow σ H δ):Rel K (lock L fl) (ghL (lock L fl) G ow H) ow σ H δ:=by
 refine⟨λb o X=>?_,λb o X=>?_,R.len,λi a h=>?_,R.inj,λi h=>rfl,λi d h1 hn h2=>R.dat i d h1 (by rw[qz]at hn;exact hn) h2,λi d h1 hn h2 V=>R.oo i d h1 (by rw[qz]at hn;exact hn) (λz=>h2 (N8.mpr z)) V,λi a h=>?_,R.nd,R.ns,λi h=>rfl,λi d hn h1=>R.nr i d (by rw[qz]at hn;exact hn) h1⟩
 ·have Y:G.H0 b=some o:=X
  rw[rN]
  ·exact R.same0 b o Y
  ·rintro(⟨j,e,_⟩|⟨j,e,_⟩)
   ·have:=(R.own j b e).1
    rw[Y]at this
    cases this
   ·have:=(R.nt j b e).1
    rw[Y]at this
    cases this
 ·by_cases z:Let (D3.lock L fl) ow b
  ·rw[Ie z]at X;cases X
  ·rw[rN z]at X;exact X
 ·obtain⟨S,Z,xs,ds,h1,h2,V,T⟩:=R.own i a h
  refine⟨S,?_,xs,ds,h1,h2,V,T⟩
  have out:(D3.lock L fl)[i]? = some .L->(ghL (D3.lock L fl) G ow H).HF a=H a:=λU=>rN (by
   rintro(⟨j,e,W⟩|⟨j,e,W⟩)
   ·rw[R.inj j i a e h,U]at W
    cases W
   ·exact R.ns j i a e h)
  rcases Z with⟨Z,_⟩|⟨Z,_⟩
  ·by_cases hi:i∈L
   ·exact .inr ⟨Js Z hi,xs,by rw[out (Js Z hi)];exact h2⟩
   ·exact .inl ⟨Jt Z hi,Ie (.inl ⟨i,h,Jt Z hi⟩)⟩
  ·exact .inr ⟨H_ Z,xs,by rw[out (H_ Z)];exact h2⟩
 ·obtain⟨g1,g2,g3⟩:=R.nt i a h
  refine⟨g1,g2,?_⟩
  rcases g3 with⟨z,_⟩|z
  ·exact .inl ⟨CT.mpr z,Ie (.inr ⟨i,h,CT.mpr z⟩)⟩
  ·exact .inr (Ia.mpr z)
theorem Rel.unlock{B:Ow}{σ σ':St}(R:Rel K fl G ow σ H δ)(R':Rel K (D3.lock L fl) (ghL (D3.lock L fl) G ow H) B σ' H' δ'):Rel K fl G B σ' H' δ':=by
 have sub:Same G.HF (ghL (D3.lock L fl) G ow H).HF:=λb o W=>by
  rw[rN]
  ·exact R.s1 b o W
  ·rintro(⟨j,e,X⟩|⟨j,e,X⟩)
   ·rcases(R.own j b e).2.1 with⟨_,z⟩|⟨z,_⟩
    ·rw[W]at z;cases z
    ·have:=(HY X).1
     rw[z]at this
     cases this
   ·rcases(R.nt j b e).2.2 with⟨_,z⟩|z
    ·rw[W]at z;cases z
    ·have:=CT.mp X
     rw[z]at this
     cases this
 refine⟨R.s0,sub.trans R'.s1,R'.len,λi a h=>?_,R'.inj,λi h=>?_,λi d h1 hn h2=>R'.dat i d h1 (by rw[qz];exact hn) h2,λi d h1 hn h2 V=>R'.oo i d h1 (by rw[qz];exact hn) (λz=>h2 (N8.mp z)) V,λi a h=>?_,R'.nd,R'.ns,λi h=>?_,λi d hn h1=>R'.nr i d (by rw[qz];exact hn) h1⟩
 ·obtain⟨U,Z,rest⟩:=R'.own i a h
  refine⟨U,?_,rest⟩
  rcases Z with⟨Z,Y⟩|⟨Z,_⟩
  ·exact .inl ⟨(HY Z).1,sub.free Y⟩
  ·have e:B i=ow i:=R'.pin i Z
   rw[e]at h
   exact(R.own i a h).2.1
 ·have e:B i=ow i:=R'.pin i (H_ h)
  rw[e]
  exact R.pin i h
 ·obtain⟨g1,g2,g3⟩:=R'.nt i a h
  rcases g3 with⟨z,Y⟩|z
  ·exact⟨g1,g2,.inl ⟨CT.mp z,sub.free Y⟩⟩
  ·exact⟨g1,g2,.inr (Ia.mp z)⟩
 ·have e:B.n i=ow.n i:=R'.np i (Ia.mpr h)
  rw[e]
  exact R.np i h
theorem lB{T:List Nat}{fi:FA}{g:FG}(hp:PassesOwn (model X.prog X.w) X.A X.env X.xe)(hc:X.calm=true)(hi:DI X fl L tg iter fi)(hg:DG X (lock L fl) T tg g)(B:DSs X (lock L fl) body fs)
 (hs:∀x,foldedSetIterable iter X.env x=pure x:=by intro _;rfl):DS1 X fl (.For tg iter body [] pos) (mV fi g fs):=PS.imp (Wz hp hc hi hg B hs) λDn σ H h=>by
 obtain⟨G,ow,δ,o,M,p,q⟩:=h
 obtain⟨l,e1,e2⟩:=bind1 p
 refine⟨G,ow,δ,l,M,e1,λJ H1 s E=>?_⟩
 have O:=M.grow s
 have RL:=O.lock L
 refine⟨λi m σ' H'=>m=l.length-i/\∃Z δ',Rel X.K (lock L fl) (ghL (lock L fl) G ow H1) Z σ' H' δ'/\iT g fs (l.drop i) δ'=some o,⟨_,rfl,ow,δ,RL,by simpa using e2⟩,?_⟩
 rintro i m σ' H' ⟨rfl,Z,δ',R',hd⟩
 have kept:∀b o,H1 b=some o->(∀i,ow i=some b->i∈L)->(∀i,b∉ow.n i)->H' b=some o:=λb o B t hn=>R'.s1 b o (by
  rw[rN]
  ·exact B
  ·rintro(⟨j,e,r⟩|⟨j,e,_⟩)
   ·exact(HY r).2 (t j e)
   ·exact hn j e)
 obtain⟨C,D⟩:=E H' kept i
 by_cases P:i<l.length
 ·have R:l.drop i=l[i]::l.drop (i+1):=j9 P
  rw[R,iT]at hd
  obtain⟨Q,a,hd⟩:=bind1 hd
  obtain⟨N,k,hd⟩:=bind1 hd
  obtain⟨go,F⟩:=C l[i] (aB P)
  refine .inr ⟨go,λσ' H'=>∃Z δ',Rel X.K (lock L fl) (ghL (lock L fl) G ow H1) Z σ' H' δ'/\iT g fs (l.drop (i+1)) δ'=some o,λU H2 ⟨Y,W,R2,h2⟩=>⟨l.length-(i+1),by omega,rfl,Y,W,R2,h2⟩,λx H3 u=>?_⟩
  obtain⟨s3,y⟩:=F x H3 u
  have sub:∀b,okA ow b/\H1 b≠none->okA Z b:=λb z=>by
   obtain⟨z1,z2⟩:=z
   refine⟨λj e=>?_,λj e=>?_⟩
   ·rcases(R'.own j b e).2.1 with⟨_,S⟩|⟨S,_⟩
    ·have:(ghL (lock L fl) G ow H1).HF b=H1 b:=rN (by rintro(⟨j',V,_⟩|⟨j',V,_⟩);exact z1.1 j' V;exact z1.2 j' V)
     rw[this]at S
     exact z2 S
    ·have V:Z j=ow j:=R'.pin j S
     rw[V]at e
     exact z1.1 j e
   ·rcases(R'.nt j b e).2.2 with⟨_,S⟩|w
    ·have:(ghL (lock L fl) G ow H1).HF b=H1 b:=rN (by rintro(⟨j',V,_⟩|⟨j',V,_⟩);exact z1.1 j' V;exact z1.2 j' V)
     rw[this]at S
     exact z2 S
    ·have V:Z.n j=ow.n j:=R'.np j w
     rw[V]at e
     exact z1.2 j e
  refine⟨_,Z,δ',_,Q,R'.grow s3,y.imp sub (λz=>z),a,λI R4 _=>⟨_,Z,Q,N,R4,k,?_⟩⟩
  ·cases N with
   |nx W=>exact λY U H2 R2=>⟨Y,W,R2,hd⟩
   |ct W=>exact λY U H2 R2=>⟨Y,W,R2,hd⟩
   |bk W=>cases hd;exact λY U H2 R2=>q Y U H2 (O.unlock R2)
   |rt d=>cases hd;exact q
   |ex c f v=>cases hd;exact q
 ·have e:l.drop i=[]:=g_ (by omega)
  rw[e,iT]at hd
  cases hd
  exact .inl ⟨D (by omega),q Z σ' H' (O.unlock R')⟩
end
end D3
variable{g':D3.D->D3.D->Option D3.D}
namespace D3
open PySem PySem.Spec PyProof.Rows L2 My
def notStar:Expr->Bool
 | .Starred _ _=>false
 |_=>true
theorem oO(h:notStar e=true):starEach (e::es) env=(false,eval e env)::starEach es env:=by
 cases e<;>first|rfl|cases h
theorem N_(h:es.all notStar=true):(backTo pos (starEach es env)).any (·.1)=false:=by
 induction es with
 |nil=>rfl
 |cons e es Z=>
  rw[List.all_cons,bf]at h
  rw[oO h.1]
  have:=Z h.2
  unfold backTo at this ⊢
  rw[aP,m9,this]
  rfl
def isR:Kd->Bool
 | .P=>true
 | .A=>true
 | .R=>true
 | .C=>true
 |_=>false
def Oa(H0:Hp)(ow:Ow)(Hb:Hp):Kd->Ok
 | .P=>ok1
 | .A=>okA ow
 | .R=>okN H0
 |_=>okN Hb
def Xd:Kd->Bool
 | .P=>true
 | .A=>true
 |_=>false
section
variable{K:PySem.W.Frag}{H0 Hb Hc H:Hp}{ow:Ow}{v:V}{d:D}{k:Kd}
theorem Rs.ra(B:isR k=true)(h:Rs K H0 ow Hb H k v d):RA K (Oa H0 ow Hb k) (Xd k) H v d:=by
 cases k<;>first|exact h|cases B
theorem Rs.of_ra(B:isR k=true)(h:RA K (Oa H0 ow Hb k) (Xd k) H v d):Rs K H0 ow Hb H k v d:=by
 cases k<;>first|exact h|cases B
theorem K6(s:Same Hb Hc)(B:isR k=true):∀a,Oa H0 ow Hc k a->Oa H0 ow Hb k a:=λa z=>by
 cases k<;>first|exact z|exact s.free z|cases B
theorem Rs.of_flat(D:flat d=true)(h:RA K ok0 false H v d):Rs K H0 ow Hb H k v d:=by
 cases k with
 |P=>exact RA.flat D h
 |B L=>exact .inl (RA.flat D h)
 |A=>exact RA.flat D h
 |R=>exact RA.flat D h
 |F=>exact .inl ⟨D,h⟩
 |C=>exact RA.flat D h
 |FC=>exact .inl ⟨D,h⟩
 |T=>
  obtain⟨as,h1,_,Z⟩:=RA.rt h
  cases as with
  |nil=>exact⟨[],h1,.nil,λ_ z=>by cases z⟩
  |cons a r=>exact(Z a aJ).elim
theorem Rs.back(s:Same Hb Hc)(h:Rs K H0 ow Hc H k v d):Rs K H0 ow Hb H k v d:=by
 cases k with
 |P=>exact h
 |B L=>exact h
 |A=>exact h
 |R=>exact h
 |F=>
  rcases h with h|⟨a,xs,ds,h1,h2,Z,Y⟩
  ·exact .inl h
  ·exact .inr ⟨a,xs,ds,h1,h2,s.free Z,Y⟩
 |C=>exact RA.imp (λa z=>s.free z) (λz=>z) h
 |FC=>
  rcases h with h|⟨a,xs,ds,h1,h2,Z,Y,X⟩
  ·exact .inl h
  ·exact .inr ⟨a,xs,ds,h1,h2,s.free Z,Y,X.imp (λb z=>⟨s.free z.1,z.2⟩) (λz=>z)⟩
 |T=>
  obtain⟨as,h1,h2,Z⟩:=h
  exact⟨as,h1,h2,λa z=>s.free (Z a z)⟩
end
def tDB(K:PySem.W.Frag)(fl:List Fl)(k:Kd)(f:FA):TA:=λσ H Q=>∃G ow δ ds,Rel K fl G ow σ H δ/\f δ=some ds/\∀vs H',Same H H'->RAs K (Oa G.H0 ow H k) (Xd k) H' vs ds->Q vs H'
abbrev DB(X:Cx)(fl:List Fl)(k:Kd)(es:List Expr)(f:FA):Prop:=PA X es (tDB X.K fl k f)
section
variable{X:Cx}{fl:List Fl}{e a b c:Expr}{es rest:List Expr}{k:Kd}{f fa fb fc:FE}{ft gt:FT}{pos:Pos}
theorem Xe:DB X fl k [] aZ:=PA.imp n8 λσ H Q h=>by
 obtain⟨G,ow,δ,ds,R,Z,q⟩:=h
 cases Z
 exact q [] H (Same.refl H) .nil
theorem Te{fr:FA}(B:isR k=true)(h:DE X fl k e f)(D:DB X fl k es fr)(hs:starEach (e::es) X.env=(false,eval e X.env)::starEach es X.env:=by exact oO rfl):DB X fl k (e::es) (au f fr):=PA.imp (jy h D hs) λσ H Q h=>by
 obtain⟨G,ow,δ,ds,R,Z,q⟩:=h
 obtain⟨d,V,Z⟩:=bind1 Z
 obtain⟨r,e2,Z⟩:=bind1 Z
 cases Z
 refine⟨G,ow,δ,d,R,V,λv H1 s1 W=>⟨G,ow,δ,r,R.grow s1,e2,λvs H2 s2 Y=>?_⟩⟩
 exact q _ H2 (s1.trans s2) (.cons ((W.ra B).same s2) (Y.imp (K6 s1 B) (λz=>z)))
theorem vK(h:DB X fl .P es B):DA X fl es B:=PA.imp h λσ H Q h=>by
 obtain⟨G,ow,δ,ds,R,Z,q⟩:=h
 exact⟨G,ow,δ,ds,R,Z,λvs H' s r=>q vs H' s r⟩
theorem tu{x1}{fa:FA}(B:isR k=true)(h:DB X fl k es fa):DE X fl k (.Tuple es x1 pos) (dTup fa):=PE.imp (WQ h) λσ H Q h=>by
 obtain⟨G,ow,δ,d,R,Y,q⟩:=h
 obtain⟨l,W,e2⟩:=bind1 Y
 by_cases z:l.length<=sizeLine
 ·rw[if_pos z]at e2
  cases e2
  refine⟨G,ow,δ,l,R,W,λvs H' s r=>⟨by rw[r.length];exact z,λp Z=>?_⟩⟩
  have g:=cY Z (.tup vs)
  exact q _ _ (s.trans g) (Rs.of_ra B (.tup cU (r.same g)))
 ·rw[if_neg z]at e2
  cases e2
theorem t_{fa:FA}(h:DB X fl .A es fa):DE X fl .F (.List es pos) (iY fa):=PE.imp (Nj h) λσ H Q h=>by
 obtain⟨G,ow,δ,d,R,Y,q⟩:=h
 obtain⟨l,W,e2⟩:=bind1 Y
 by_cases z:l.length<=sizeLine
 ·rw[if_pos z]at e2
  cases e2
  refine⟨G,ow,δ,l,R,W,λvs H' s r=>⟨by rw[r.length];exact z,λp Z=>?_⟩⟩
  have g:=cY Z (.lst vs)
  exact q _ _ (s.trans g) (.inr ⟨p,vs,l,rfl,rfl,s.free Z,cU,(r.track.imp (λb w=>⟨w.1,λe=>w.2 (e▸Z)⟩) (λz=>z)).same g⟩)
 ·rw[if_neg z]at e2
  cases e2
theorem ig{fa:FA}(h:DB X fl .C es fa):DE X fl .FC (.List es pos) (iY fa):=PE.imp (Nj h) λσ H Q h=>by
 obtain⟨G,ow,δ,d,R,Y,q⟩:=h
 obtain⟨l,W,e2⟩:=bind1 Y
 by_cases z:l.length<=sizeLine
 ·rw[if_pos z]at e2
  cases e2
  refine⟨G,ow,δ,l,R,W,λvs H' s r=>⟨by rw[r.length];exact z,λp Z=>?_⟩⟩
  have g:=cY Z (.lst vs)
  exact q _ _ (s.trans g) (.inr ⟨p,vs,l,rfl,rfl,s.free Z,cU,(r.track.imp (λb w=>⟨w.1,λe=>w.2 (e▸Z)⟩) (λz=>z)).same g⟩)
 ·rw[if_neg z]at e2
  cases e2
theorem RAs.at{ok:Ok}{i:Int}(r:RAs K ok pl H vs l)(h:pAt l i=some d):∃v,atI vs i=some v/\RA K ok pl H v d:=by
 unfold pAt at h
 unfold atI
 obtain⟨j,X,e2⟩:=bind1 h
 obtain⟨y,Y,Z⟩:=r.get e2
 exact⟨y,by rw[r.length,show ixN l.length i=some j from X];exact Y,Z⟩
theorem ZK(ha:DE X fl (.B L) a fa)(D:DE X fl .P b fb)(hs:Cv b):DE X fl .A (.Subscript a b pos) (dOp gIx fa fb):=PE.imp (Zo W6 ha D hs) λσ H Q h=>by
 obtain⟨G,ow,δ,d,R,M,q⟩:=h
 obtain⟨x,y,K,e2,U⟩:=Bp M
 refine⟨G,ow,δ,x,R,K,λv H1 s1 Y=>⟨G,ow,δ,y,R.grow s1,e2,λu H2 s2 S=>?_⟩⟩
 unfold gIx at U
 split at U
 ·next l i=>
  obtain rfl:=RA.intE S
  rcases Y with Y|⟨O,_,p,xs,ds,N,rfl,Z,W,V⟩
  ·obtain⟨p,xs,rfl,W,V⟩:=RA.lstE (RA.same s2 Y)
   obtain⟨z,Z,T⟩:=V.at U
   exact .inl ⟨p,xs,i,z,rfl,rfl,W,Z,q z H2 (s1.trans s2) T⟩
  ·cases Z
   obtain⟨z,Z,T⟩:=(V.same s2).at U
   exact .inl ⟨p,xs,i,z,rfl,rfl,SqL.of (s2 _ _ W),Z,q z H2 (s1.trans s2) T⟩
 ·next l i=>
  obtain rfl:=RA.intE S
  rcases Y with Y|⟨O,_,p,xs,ds,N,rfl,Z,W,V⟩
  ·obtain⟨p,xs,rfl,W,V⟩:=RA.tupE (RA.same s2 Y)
   obtain⟨z,Z,T⟩:=V.at U
   exact .inr (.inl ⟨p,xs,i,z,rfl,rfl,W,Z,q z H2 (s1.trans s2) T⟩)
  ·cases Z
 ·cases U
theorem tE{op:BoolOp}(h:DE X fl k a f):DE X fl k (.BoolOp op [a] pos) f:=Wq h
theorem uX(h1:DE X fl .P a fa)(h2:DE X fl k (.BoolOp .And (b::rest) pos) fb):DE X fl k (.BoolOp .And (a::b::rest) pos) (Ai fa fb):=PE.imp (Wr h1 h2) λσ H Q h=>by
 obtain⟨G,ow,δ,d,R,W,q⟩:=h
 obtain⟨x,V,e2⟩:=bind1 W
 refine⟨G,ow,δ,x,R,V,λv H1 s1 Z=>?_⟩
 split at e2
 ·obtain rfl:=RA.blE Z
  exact⟨true,rfl,Ag ⟨G,ow,δ,d,R.grow s1,e2,λu H2 s2 Y=>q u H2 (s1.trans s2) (Y.back s1)⟩⟩
 ·obtain rfl:=RA.blE Z
  cases e2
  exact⟨false,rfl,Af (q _ H1 s1 (Rs.of_flat rfl (.bl _)))⟩
 ·cases e2
theorem Vy(h1:DE X fl .P a fa)(h2:DE X fl k (.BoolOp .Or (b::rest) pos) fb):DE X fl k (.BoolOp .Or (a::b::rest) pos) (dOr fa fb):=PE.imp (Zb h1 h2) λσ H Q h=>by
 obtain⟨G,ow,δ,d,R,W,q⟩:=h
 obtain⟨x,V,e2⟩:=bind1 W
 refine⟨G,ow,δ,x,R,V,λv H1 s1 Z=>?_⟩
 split at e2
 ·obtain rfl:=RA.blE Z
  cases e2
  exact⟨true,rfl,Ag (q _ H1 s1 (Rs.of_flat rfl (.bl _)))⟩
 ·obtain rfl:=RA.blE Z
  exact⟨false,rfl,Af ⟨G,ow,δ,d,R.grow s1,e2,λu H2 s2 Y=>q u H2 (s1.trans s2) (Y.back s1)⟩⟩
 ·cases e2
theorem Ob(h1:DE X fl .P a fa):DE X fl .FC (.UnaryOp .Not a pos) (Ny fa):=PE.imp (Ws h1) λσ H Q h=>by
 obtain⟨G,ow,δ,d,R,Y,q⟩:=h
 obtain⟨x,W,e2⟩:=bind1 Y
 refine⟨G,ow,δ,x,R,W,λv H1 s1 Z=>?_⟩
 split at e2
 ·next c=>
  obtain rfl:=RA.blE Z
  cases e2
  exact⟨c,rfl,q _ H1 s1 (Rs.of_flat rfl (.bl _))⟩
 ·cases e2
theorem ZL(B:DT X fl c ft)(h1:DE X fl k a fa)(h2:DE X fl k b fb):DE X fl k (.IfExp c a b pos) (dIf ft fa fb):=PE.imp (M4 B h1 h2) λσ H Q h=>by
 obtain⟨G,ow,δ,d,R,Y,q⟩:=h
 obtain⟨t,W,e2⟩:=bind1 Y
 refine⟨G,ow,δ,t,R,W,λH1 s1=>?_⟩
 cases t with
 |true=>exact Ag ⟨G,ow,δ,d,R.grow s1,e2,λu H2 s2 Z=>q u H2 (s1.trans s2) (Z.back s1)⟩
 |false=>exact Af ⟨G,ow,δ,d,R.grow s1,e2,λu H2 s2 Z=>q u H2 (s1.trans s2) (Z.back s1)⟩
theorem mW(h:DT X fl a ft):DT X fl (.UnaryOp .Not a pos) (jl ft):=PT.imp (Wo h) λσ H Q h=>by
 obtain⟨G,ow,δ,t,R,Z,q⟩:=h
 unfold jl at Z
 cases e:ft δ with
 |none=>rw[e]at Z;cases Z
 |some x=>
  rw[e]at Z
  cases Z
  exact⟨G,ow,δ,x,R,e,λH' s=>q H' s⟩
theorem xZ(h:DT X fl a ft):DW X fl (.BoolOp .And [a] pos) ft:=RP h
theorem uY(h:DT X fl a ft):DW X fl (.BoolOp .Or [a] pos) ft:=Wm h
theorem CV(h1:DT X fl a ft)(h2:DW X fl (.BoolOp .And (b::rest) pos) gt):DW X fl (.BoolOp .And (a::b::rest) pos) (Cr ft gt):=PW.imp (Wn h1 h2) λσ H Q h=>by
 obtain⟨G,ow,δ,t,R,Z,q⟩:=h
 obtain⟨x,Y,e2⟩:=bind1 Z
 refine⟨G,ow,δ,x,R,Y,λH1 s1=>?_⟩
 cases x with
 |true=>exact Ag ⟨G,ow,δ,t,R.grow s1,e2,λH2 s2=>q H2 (s1.trans s2)⟩
 |false=>cases e2;exact Af (q H1 s1)
theorem yR(h1:DT X fl a ft)(h2:DW X fl (.BoolOp .Or (b::rest) pos) gt):DW X fl (.BoolOp .Or (a::b::rest) pos) (tOr ft gt):=PW.imp (Y9 h1 h2) λσ H Q h=>by
 obtain⟨G,ow,δ,t,R,Z,q⟩:=h
 obtain⟨x,Y,e2⟩:=bind1 Z
 refine⟨G,ow,δ,x,R,Y,λH1 s1=>?_⟩
 cases x with
 |true=>cases e2;exact Ag (q H1 s1)
 |false=>exact Af ⟨G,ow,δ,t,R.grow s1,e2,λH2 s2=>q H2 (s1.trans s2)⟩
theorem yS(h:DW X fl a ft):DT X fl a ft:=PW.pt h
theorem Fz{g:D->D->Option D}(ho:OpR X (compareOp op) r)(B:OpR X (compareOp op') r')(hb:BrO X.K r g)(J:BrO X.K r' g')(h1:DE X fl .P a fa)(h2:DE X fl .P b fb)(h3:DE X fl .P c fc)
 (hm:lastMarks [op,op'] [b,c]=false:=by with_unfolding_all rfl):DE X fl .FC (.Compare a [op,op'] [b,c] pos) (lX g g' fa fb fc):=PE.imp (Nh ho B h1 h2 h3 hm) λσ H Q h=>by
 obtain⟨G,ow,δ,d,R,Z,q⟩:=h
 obtain⟨x,I,Z⟩:=bind1 Z
 obtain⟨y,e2,Z⟩:=bind1 Z
 obtain⟨z,L,Z⟩:=bind1 Z
 refine⟨G,ow,δ,x,R,I,λv H1 s1 O=>⟨G,ow,δ,y,R.grow s1,e2,λu H2 s2 W=>?_⟩⟩
 refine hb H2 v u x y z _ (RA.same s2 O) W L λF V Y=>?_
 split at Z
 ·obtain rfl:=Y.blE
  obtain⟨w,M,N⟩:=bind1 Z
  refine⟨true,rfl,Ag ⟨G,ow,δ,w,R.grow (s1.trans s2),M,λT U s3 S=>?_⟩⟩
  exact J U u T y w d Q (RA.same s3 W) S N λz V Y=>q z U (s1.trans (s2.trans s3)) (.inl ⟨V,Y⟩)
 ·obtain rfl:=Y.blE
  cases Z
  exact⟨false,rfl,Af (q _ H2 (s1.trans s2) (.inl ⟨rfl,.bl _⟩))⟩
 ·cases Z
theorem K7{B:CmpOp}{J:R2}{g g'':D->D->Option D}{d:Expr}{fd:FE}(ho:OpR X (compareOp op) r)(ho':OpR X (compareOp op') r')(O:OpR X (compareOp B) J)(hb:BrO X.K r g)(hb':BrO X.K r' g')(W:BrO X.K J g'')(h1:DE X fl .P a fa)(h2:DE X fl .P b fb)(h3:DE X fl .P c fc)(h4:DE X fl .P d fd)
 (hm:lastMarks [op,op',B] [b,c,d]=false:=by with_unfolding_all rfl):DE X fl .FC (.Compare a [op,op',B] [b,c,d] pos) (xX g g' g'' fa fb fc fd):=PE.imp (K3 ho ho' O h1 h2 h3 h4 hm) λσ H Q h=>by
 obtain⟨G,ow,δ,j,R,Z,q⟩:=h
 obtain⟨x,k,Z⟩:=bind1 Z
 obtain⟨y,e2,Z⟩:=bind1 Z
 obtain⟨z,l,Z⟩:=bind1 Z
 refine⟨G,ow,δ,x,R,k,λv H1 s1 A=>⟨G,ow,δ,y,R.grow s1,e2,λu H2 s2 N=>?_⟩⟩
 refine hb H2 v u x y z _ (RA.same s2 A) N l λi M V=>?_
 split at Z
 ·obtain rfl:=V.blE
  obtain⟨w,m,Z⟩:=bind1 Z
  obtain⟨E,n,Z⟩:=bind1 Z
  refine⟨true,rfl,Ag ⟨G,ow,δ,w,R.grow (s1.trans s2),m,λU I s3 S=>?_⟩⟩
  refine hb' I u U y w E _ (RA.same s3 N) S n λF s Y=>?_
  split at Z
  ·obtain rfl:=Y.blE
   obtain⟨t,o,p⟩:=bind1 Z
   refine⟨true,rfl,Ag ⟨G,ow,δ,t,R.grow (s1.trans (s2.trans s3)),o,λtv L T C=>?_⟩⟩
   exact W L U tv w t j Q (RA.same T S) C p λz M V=>q z L (s1.trans (s2.trans (s3.trans T))) (.inl ⟨M,V⟩)
  ·obtain rfl:=Y.blE
   cases Z
   exact⟨false,rfl,Af (q _ I (s1.trans (s2.trans s3)) (.inl ⟨rfl,.bl _⟩))⟩
  ·cases Z
 ·obtain rfl:=V.blE
  cases Z
  exact⟨false,rfl,Af (q _ H2 (s1.trans s2) (.inl ⟨rfl,.bl _⟩))⟩
 ·cases Z
theorem Xf{ok:Ok}(r:RA K ok pl H v d):decide (v = .non)=isNone d:=by
 cases r<;>rfl
def BrC(K:PySem.W.Frag)(r:List V->Hp->VK->Prop)(g:List D->Option D):Prop:=∀(H:Hp)(xs:List V)(ds:List D)(d:D)(Q:VK),RAs K ok1 true H xs ds->g ds=some d->(∀v,flat d=true->RA K ok0 false H v d->Q v H)->r xs H Q
theorem fJ{id:String}{r:List V->Hp->VK->Prop}{g:List D->Option D}{fa:FA}(hc:lU X (.builtin id) r)(hb:BrC X.K r g)(W:Gl X x)(hm:X.mg x=none)(B:bootBuiltins x=some (.builtin id))(ha:DB X fl .P (e::es) fa)(hn:x≠"__name__" := by decide)(O:(x==("__debug__":Str))=false:=by decide)
 (he:starEach (e::es) X.env=(false,eval e X.env)::starEach es X.env:=by exact oO rfl) (J:(backTo pos (starEach es X.env)).any (·.1)=false:=by exact N_ rfl):DE X fl .FC (.Call (.Name x p) (e::es) [] pos) (dCall g fa):=
 PE.imp (nO hc W hm B ha hn O he J) λσ H Q h=>by
 obtain⟨G,ow,δ,d,R,Y,q⟩:=h
 obtain⟨ds,U,e2⟩:=bind1 Y
 exact⟨G,ow,δ,ds,R,U,λvs H' s r'=>hb H' vs ds d Q r' e2 λv B Z=>q v H' s (.inl ⟨B,Z⟩)⟩
theorem jL:BrC K (λxs H Q=>∃p ys,xs=[.ref p]/\(SqL K H p ys\/SqT K H p ys)/\Q (.int ys.length) H) iZ:=by
 intro H xs ds d Q r e q
 unfold iZ at e
 split at e
 ·next l=>
  cases e
  cases r with
  |cons Y Z=>
   cases Z
   obtain⟨a,ys,rfl,X,W⟩:=Y.lstE
   refine⟨a,ys,rfl,.inl X,?_⟩
   rw[W.length]
   exact q _ rfl (.int _)
 ·next l=>
  cases e
  cases r with
  |cons Y Z=>
   cases Z
   obtain⟨a,ys,rfl,X,W⟩:=Y.tupE
   refine⟨a,ys,rfl,.inr X,?_⟩
   rw[W.length]
   exact q _ rfl (.int _)
 ·cases e
theorem Od:BrC K (λxs H Q=>∃i j,xs=[.int i,.int j]/\Q (.int (if j>i then j else i)) H) yO:=by
 intro H xs ds d Q r e q
 unfold yO at e
 split at e
 ·cases e
  cases r with
  |cons X Z=>
   cases Z with
   |cons Z Y=>
    cases Y
    obtain rfl:=X.intE
    obtain rfl:=Z.intE
    exact⟨_,_,rfl,q _ rfl (.int _)⟩
 ·cases e
theorem Xg:BrC K (λxs H Q=>∃i j,xs=[.int i,.int j]/\Q (.int (if j<i then j else i)) H) Fw:=by
 intro H xs ds d Q r e q
 unfold Fw at e
 split at e
 ·cases e
  cases r with
  |cons X Z=>
   cases Z with
   |cons Z Y=>
    cases Y
    obtain rfl:=X.intE
    obtain rfl:=Z.intE
    exact⟨_,_,rfl,q _ rfl (.int _)⟩
 ·cases e
theorem Tf(d:D):tyD d="NoneType"\/tyD d="bool"\/tyD d="int"\/tyD d="str"\/tyD d="list"\/tyD d="tuple"\/tyD d="dict" := by
 cases d<;>simp[tyD]
def ag9(K:PySem.W.Frag):List V->Hp->VK->Prop:=λxs H Q=>∃x c d,xs=[x,.ty c]/\(c="int"\/c="bool"\/c="tuple"\/c="list"\/c="str")/\RA K ok1 true H x d/\Q (.bl (isT c (tyD d))) H
theorem Oe:lU X (.builtin "isinstance") (ag9 X.K):=by
 intro pins s σ H xs us Q I r h
 obtain⟨x,c,d,rfl,P,ra,q⟩:=h
 obtain⟨u,N,rfl,Z,S⟩:=vals2 r
 cases S
 have kn:=W9 (K:=X.K) P (Tf d)
 have fin:∀tk,EP X pins σ Q (.bool (isT c (tyD d))) {s with toks:=tk}:=λtk=>⟨.bl _,H,I.tok _,rfl,q⟩
 cases ra with
 |non=>cases(show u=Value.none from Z);exact PySem.W.kia_one PySem.W.kitx_none I.kIn True.intro kn (λz=>nomatch z) fin
 |bl b=>cases(show u=Value.bool b from Z);exact PySem.W.kia_one PySem.W.kitx_bool I.kIn True.intro kn (λz=>nomatch z) fin
 |int i=>obtain⟨t,z⟩:=(show ∃t,u=Value.int i t from Z);cases z;exact PySem.W.kia_one PySem.W.kitx_int I.kIn True.intro kn (λz=>nomatch z) fin
 |str y=>obtain⟨t,z⟩:=(show ∃t,u=Value.str y t from Z);cases z;exact PySem.W.kia_one PySem.W.kitx_str I.kIn True.intro kn (λz=>nomatch z) fin
 | @lst a xs ds e k T=>
  cases(show u=Value.ref a from Z)
  obtain⟨its,_,⟨o,n,V,e2,_⟩,_⟩:=I.list (SqL.of e)
  exact PySem.W.kia_one PySem.W.kitx_list I.kIn ⟨_,V,e2⟩ kn (λz=>nomatch z) fin
 | @lsk a xs ds e k T=>
  cases(show u=Value.ref a from Z)
  obtain⟨its,_,⟨o,n,V,e2,_⟩,_⟩:=I.list e.sq
  exact PySem.W.kia_one PySem.W.kitx_list I.kIn ⟨_,V,e2⟩ kn (λz=>nomatch z) fin
 | @tup a xs ds e T=>
  cases(show u=Value.ref a from Z)
  obtain⟨its,_,⟨o,V,e2,_⟩,_⟩:=I.tuple e.sq
  exact PySem.W.kia_one PySem.W.kitx_tuple I.kIn ⟨_,V,e2⟩ kn (λz=>nomatch z) fin
 | @dic a U kvs e g k=>
  rcases g.or with⟨ks,z⟩|⟨ks,z⟩
  ·rw[z]at e;exact Bf I Z (TyOf.dK e) kn fin
  ·rw[z]at e;exact Bf I Z (TyOf.dT e) kn fin
 | @dik a U kvs Y e g k=>
  cases(show u=Value.ref a from Z)
  have Y:=(show gY X.prog X.w H s.heap a U from(show L2.Rd H a U from .inr ⟨_,e⟩).ok I.hok)
  rcases g.or with⟨ks,z⟩|⟨ks,z⟩
  ·rw[z]at Y
   obtain⟨_,_,vs,_,O⟩:=Y
   obtain⟨R,_,_,h1,h2,_⟩:=O
   exact PySem.W.kia_one PySem.W.kitx_dict I.kIn ⟨_,h1,h2.1⟩ kn (λz=>nomatch z) fin
  ·rw[z]at Y
   obtain⟨_,_,xs,_,R,_,_,h1,h2,_⟩:=Y
   exact PySem.W.kia_one PySem.W.kitx_dict I.kIn ⟨_,h1,h2.1⟩ kn (λz=>nomatch z) fin
theorem o_{p':Pos}(hc:T="int"\/T="bool"\/T="tuple"\/T="list"\/T="str")(h:DE X fl .P a f)(hg:Gl X "isinstance")(hm:X.mg "isinstance"=none)(W:Gl X x)(O:X.mg x=none)(B:bootBuiltins x=some (.type T))
 (J:x≠"__name__" := by decide) (Z:(x==("__debug__":Str))=false:=by decide)
 (he:starEach [a,.Name x p'] X.env=(false,eval a X.env)::starEach [.Name x p'] X.env:=by rfl) (Y:starEach [.Name x p'] X.env=(false,eval (.Name x p') X.env)::starEach [] X.env:=by rfl) (D:(backTo pos (starEach [.Name x p'] X.env)).any (·.1)=false:=by rfl) :
 DE X fl .FC (.Call (.Name "isinstance" p) [a,.Name x p'] [] pos) (dUn (gIs T) f):=
 PE.imp (nO Oe hg hm boot_isinstance (jy h (jy (RN (v:=.ty T) W O B rfl J Z) n8 Y) he) (by decide) (by decide) he D) λσ H Q h=>by
 obtain⟨G,ow,δ,d,R,U,q⟩:=h
 obtain⟨x,S,e2⟩:=bind1 U
 cases e2
 exact⟨G,ow,δ,x,R,S,λv H1 s1 V=>⟨v,T,x,rfl,hc,V,q _ H1 s1 (.inl ⟨rfl,.bl _⟩)⟩⟩
theorem Xh(h:DE X fl .P a f):DE X fl .FC (.UnaryOp .USub a pos) (dUn SN f):=PE.imp (Zi WM h) λσ H Q h=>by
 obtain⟨G,ow,δ,d,R,Y,q⟩:=h
 obtain⟨x,W,e2⟩:=bind1 Y
 refine⟨G,ow,δ,x,R,W,λv H1 s1 Z=>?_⟩
 unfold SN at e2
 split at e2
 ·cases e2
  obtain rfl:=RA.intE Z
  exact⟨_,rfl,q _ H1 s1 (.inl ⟨rfl,.int _⟩)⟩
 ·cases e2
end
def spD(K:PySem.W.Frag)(F:List D->Option D):Sp:=λvs H Q _=>∃ds d,(Tb H/\RAs K ok1 true H vs ds)/\F ds=some d/\∀v H',Same H H'->RA K (okN H) false H' v d->Q v H'
section
variable{P:Program}{w:World}{K:PySem.W.Frag}{mg:Str->Option Value}{base:Heap}{x:Str}{ps N:List Str}{st:Stmt}{k n:Nat}{fs:FS}{fl:List Fl}
theorem mX(p:Nat)(D:∀i,i<p->fl[i]? = some .A)(B:ds.length=p)(J:p<=N.length)(r':Tb H/\RAs K ok1 true H vs ds):
 Rel K fl ⟨H,H,λ_=>none,λ_=>[],r'.1⟩ ow0 (L2.start N vs) H (ds.map (λd=>some (.d d))++aQ (N.length-p) none):=by
 have r:=r'.2
 have Z:vs.length=p:=by rw[r.length];exact B
 have get:∀i d,(ds.map (λd=>some (U.d d))++aQ (N.length-p) none)[i]? = some (some (.d d))->i<p/\ds[i]? = some d:=λi d h=>by
  by_cases hi:i<p
  ·rw[cg (by rw[aq,B];exact hi),bw]at h
   cases e:ds[i]? with
   |none=>rw[e]at h;cases h
   |some z=>rw[e]at h;cases h;exact⟨hi,rfl⟩
  ·rw[bT (by rw[aq,B];omega),fM]at h
   split at h<;>cases h
 refine⟨Same.refl H,Same.refl H,?_,λi a h=>(by cases h),λi j a h=>(by cases h),λi h=>rfl,λi d h _ _=>?_,λi d h _ h2 _=>?_,λi a h=>(by cases h),λi j a h=>(by cases h),λi j a h=>(by cases h),λi h=>rfl,λi d hn h=>?_⟩
 ·unfold L2.start
  simp only[bh,aq,bM,Z,B]
 ·obtain⟨hi,e⟩:=get i d h
  obtain⟨v,Y,e2⟩:=r.get e
  refine⟨v,?_,e2.imp (λ_ _=>⟨λi z=>(by cases z),λi z=>(by cases z)⟩) (λz=>z)⟩
  unfold L2.start
  rw[cg (by rw[aq,Z];exact hi),bw,Y]
  rfl
 ·exact absurd (D i (get i d h).1) h2
 ·rw[D i (get i d h).1]at hn
  cases hn
end
section
variable{X:Cx}{fl:List Fl}{e:Expr}{es:List Expr}{pos p:Pos}{x:Str}{ps:List Str}{n:Nat}{F:List D->Option D}{fa:FA}
theorem b_(h:Has X.prog X.w X.K X.mg X.base n x ps (spD X.K F))(J:Room n X.A)(ha:DB X fl .P (e::es) fa)(O:Gl X x:=by rfl)(D:(x==("__debug__":Str))=false:=by decide)
 (W:starEach (e::es) X.env=(false,eval e X.env)::starEach es X.env:=by exact oO rfl) (B:(backTo pos (starEach es X.env)).any (·.1)=false:=by exact N_ rfl) :
 DE X fl .C (.Call (.Name x p) (e::es) [] pos) (dCall F fa):=PE.imp (Fp h J ha O D W B) λσ H Q h=>by
 obtain⟨G,ow,δ,d,R,Y,q⟩:=h
 obtain⟨ds,V,e2⟩:=bind1 Y
 refine⟨G,ow,δ,ds,R,V,λvs H' s r=>?_⟩
 show spD X.K F (vs++[]) H' Q E0
 rw[cW]
 exact⟨ds,d,⟨R.tb.same s,r⟩,e2,λv H2 s2 Z=>q v H2 (s.trans s2) (RA.imp (λa z=>s.free z) (λz=>z) Z)⟩
end
end D3
variable{fh:D3.FO}
namespace D3
open PySem PySem.Spec PyProof.Rows L2 My
section
variable{X:Cx}{fl fl':List Fl}{e a b c elt tg iter:Expr}{es ifs:List Expr}{k:Kd}{f fa fb fc:FE}{ft gt:FT}{pos:Pos}{scope:Scope}{ix L TT:List Nat}{fi:FA}{g:FG}
theorem pL:PTs X [] (tDT X.K fl D3.mK):=λpins s σ H Q I h=>by
 obtain⟨G,ow,δ,b,R,Z,q⟩:=h
 cases Z
 exact Sy pins s σ H Q I (q H (Same.refl H))
theorem Tg{σ:St}(t:Nat)(ix:List Nat)(B:∀i,i<t+ix.length->fl'[i]? = some .A)(R:Rel K fl G ow σ H δ)(s:Same H H1):
 Rel K fl' ⟨H,H,λ_=>none,λ_=>[],R.tb⟩ ow0 (Ah t ix σ) H1 (n_ t ix δ):=by
 have get:∀i d,(n_ t ix δ)[i]? = some (some (.d d))->i<t+ix.length/\∃j,ix[i-t]? = some j/\t<=i/\δ[j]? = some (some (.d d)):=λi d h=>by
  unfold n_ at h
  by_cases hi:i<t
  ·rw[cg (by rw[bM];exact hi),fM,if_pos hi]at h
   cases h
  ·rw[bT (by rw[bM];omega),bM,bw]at h
   cases e:ix[i-t]? with
   |none=>rw[e]at h;cases h
   |some j=>
    rw[e]at h
    have Q:i-t<ix.length:=by
     rcases gD (i-t) ix.length with z|z
     ·exact z
     ·rw[bG z]at e;cases e
    refine⟨by omega,j,rfl,by omega,?_⟩
    have h':(δ[j]?).getD none=some (.d d):=by simpa using h
    cases q:δ[j]? with
    |none=>rw[q]at h';cases h'
    |some o=>rw[q]at h';simp at h';rw[h']
 refine⟨Same.refl H,s,?_,λi a h=>(by cases h),λi j a h=>(by cases h),λi h=>rfl,λi d h _ _=>?_,λi d h _ h2 _=>absurd (B i (get i d h).1) h2,λi a h=>(by cases h),λi j a h=>(by cases h),λi j a h=>(by cases h),λi h=>rfl,λi d hn h=>(by rw[B i (get i d h).1]at hn;cases hn)⟩
 ·unfold Ah n_
  simp
 ·obtain⟨hi,j,T,S,Y⟩:=get i d h
  have Z:∃v,σ[j]? = some (some v)/\RA K ok1 true H v d:=by
   cases W:isN fl[j]? with
   |true=>
    obtain⟨v,h1,h2,_⟩:=R.nr j d W Y
    exact⟨v,h1,h2.ra λ_ _=>trivial⟩
   |false=>
   cases X:ow j with
   |none=>
    obtain⟨v,h1,h2⟩:=R.dat j d Y W X
    exact⟨v,h1,h2.imp (λ_ _=>trivial) (λz=>z)⟩
   |some a=>
    obtain⟨_,_,xs,ds,h1,h2,U,V⟩:=R.own j a X
    rw[Y]at V
    cases V
    exact⟨_,h1,.lst h2 trivial (U.imp (λ_ _=>trivial) (λz=>z))⟩
  obtain⟨v,h1,h2⟩:=Z
  refine⟨v,?_,(h2.imp (λ_ _=>⟨λi z=>(by cases z),λi z=>(by cases z)⟩) (λz=>z)).same s⟩
  unfold Ah
  rw[bT (by rw[bM];omega),bM,bw,T]
  show some ((σ[j]?).getD none)=_
  rw[h1]
  rfl
theorem xg{σ:St}{H:Hp}{Q:VK}{t:Nat}(hfl:∀i,i<t+ix.length->fl'[i]? = some .A)(B:∀j∈TT,j<t)
 (h:tD X.K fl .FC (jF fi g ft f t ix) σ H Q):Jm (tDI X.K fl L fi) (tDG X.K fl' TT g) (tDT X.K fl' ft) (tD X.K fl' .C f) t (Ah t ix) σ H Q:=by
 obtain⟨G,ow,δ,d,R,hf,q⟩:=h
 obtain⟨l,e1,e2⟩:=bind1 hf
 by_cases w:l.length<=100000
 case neg=>rw[if_neg w]at e2;cases e2
 rw[if_pos w]at e2
 obtain⟨r,e3,e4⟩:=bind1 e2
 cases e4
 refine⟨G,ow,δ,l,R,e1,λJ H1 s1 wk Dl s=>?_⟩
 have R1:=R.grow s1
 let S:Ok:=λb=>okN H b/\b≠Dl
 refine⟨λi m xs H2=>m=l.length-i/\H2 Dl=some (.lst xs)/\Same H1 H2/\xs.length<=i/\i<=l.length/\∃ds rest,RAs X.K S false H2 xs ds/\lG g ft f (n_ t ix δ) (l.drop i)=some rest/\r=ds++rest,
  ⟨_,rfl,cU,cY s _,aL _,cZ _,[],r,.nil,by simpa using e3,rfl⟩,?_⟩
 rintro i m xs H2 ⟨rfl,W,s2,E,u,ds,rest,D,Y,rfl⟩
 refine⟨W,?_⟩
 obtain⟨w1,w2⟩:=wk H2 (λb o N _ _=>s2 b o N) i
 by_cases U:i<l.length
 ·have O:l.drop i=l[i]::l.drop (i+1):=j9 U
  rw[O,lG]at Y
  obtain⟨T,e5,Y⟩:=bind1 Y
  obtain⟨p,e6,Y⟩:=bind1 Y
  obtain⟨go,a⟩:=w1 l[i] (aB U)
  refine .inr ⟨go,oX (bF E (bF u w)) (by decide),λx H3 hy=>?_⟩
  obtain⟨s3,r3⟩:=a x H3 hy
  have I:=s2.trans s3
  have Rb:=(Tg t ix hfl R1 (Same.refl H1)).grow I
  refine⟨_,_,_,_,T,Rb,r3.imp (λ_ _=>⟨λi z=>(by cases z),λi z=>(by cases z)⟩) (λz=>z),e5,λc k P=>⟨?_,?_⟩⟩
  ·apply dX
   intro n
   rw[fD,fD]
   exact P (t+n) λz=>absurd (B _ z) (by omega)
  ·refine⟨_,_,T,p,k,e6,λH5 M=>?_⟩
   cases p with
   |false=>
    rw[if_neg aY]at Y ⊢
    have Z:=s3.trans M
    exact⟨l.length-(i+1),by omega,rfl,Z _ _ W,s2.trans Z,by omega,U,ds,rest,D.same Z,Y,rfl⟩
   |true=>
    rw[if_pos rfl]at Y ⊢
    obtain⟨y,e7,Y⟩:=bind1 Y
    obtain⟨l',e8,Y⟩:=bind1 Y
    cases Y
    refine⟨_,_,T,y,k.grow M,e7,λv H6 s6 r6=>?_⟩
    have Z:=s3.trans M
    have V:=Z.trans s6
    refine⟨V _ _ W,l.length-(i+1),by omega,rfl,cU,?_,by rw[bh,dR];omega,U,ds++[y],l',?_,e8,by simp⟩
    ·intro b o N
     rw[cO (λz=>by subst z;rw[s]at N;cases N)]
     exact(s2.trans V) b o N
    ·have nd:¬S Dl:=λz=>z.2 rfl
     have F:Same H H5:=s1.trans (s2.trans Z)
     have ry:RA X.K S false H6 v y:=RA.imp (λb z=>⟨F.free z,λe=>by subst e;rw[okN,Z _ _ W]at z;cases z⟩) (λz=>z) r6
     exact((D.same V).append (.cons ry .nil)).upd (V _ _ W) nd
 ·have ed:l.drop i=[]:=g_ (by omega)
  rw[ed,lG]at Y
  cases Y
  refine .inl ⟨w2 (by omega),?_⟩
  rw[cW]at q
  exact q (.ref Dl) H2 (s1.trans s2) (.inr ⟨Dl,xs,ds,rfl,rfl,s1.free s,W,D⟩)
theorem nj(hc:X.calm=true)(T J:List Str)(ix:List Nat)(hi:DI X fl L tg iter fi)
 (hg:∀cl C s3 O fp,DG (blk X (T++J) scope cl C s3 O fp) fl' TT tg g) (ht:∀cl C s3 O fp,PTs (blk X (T++J) scope cl C s3 O fp) ifs (tDT X.K fl' ft)) (he:∀cl C s3 O fp,DE (blk X (T++J) scope cl C s3 O fp) fl' .C elt f)
 (Z:∀i,i<T.length+ix.length->fl'[i]? = some .A:=by decide) (W:∀j∈TT,j<T.length:=by decide)
 (hB:yJ X.N X.env.scope.names scope.names J ix=true:=by rfl) (hk:scope.kind = .function:=by rfl) (D:∀y∈scope.names,y.2 ≠ .cell:=by decide +kernel)
 (B:∀x∈scope.names,x.2 = .local->scope.names.lookup x.1=some .local:=by decide +kernel)
 (Y:∀x∈scope.names,x.2 = .free->x.1∈J:=by decide +kernel) (hs:∀x,foldedSetIterable iter X.env x=pure x:=by intro _;rfl) :
 DE X fl .FC (.ListComp elt [⟨tg,iter,ifs,0⟩] scope pos) (jF fi g ft f T.length ix):=
 PE.imp (SJ hc T J ix hi hg ht he hB hk D B Y hs) λ_ _ _ h=>xg Z W h
theorem FJ(hfx:fl[i]? = some .A)(hN:X.N.Nodup)(hi':X.N[i]? = some x)(hx:X.env.scope.names.lookup x=some .local)(hc:X.calm=true)(T J:List Str)(ix:List Nat)(hi:DI X fl L tg iter fi)
 (hg:∀cl C s3 O fp,DG (blk X (T++J) scope cl C s3 O fp) fl' TT tg g) (ht:∀cl C s3 O fp,PTs (blk X (T++J) scope cl C s3 O fp) ifs (tDT X.K fl' ft)) (he:∀cl C s3 O fp,DE (blk X (T++J) scope cl C s3 O fp) fl' .C elt f)
 (hfl:∀i,i<T.length+ix.length->fl'[i]? = some .A:=by decide) (W:∀j∈TT,j<T.length:=by decide)
 (Y:swapsWith (.ListComp elt [⟨tg,iter,ifs,0⟩] scope pos) (some (.Name x pos')) spos.line X.env=pure true:=by rfl)
 (hB:yJ X.N X.env.scope.names scope.names J ix=true:=by rfl) (hk:scope.kind = .function:=by rfl) (D:∀y∈scope.names,y.2 ≠ .cell:=by decide +kernel)
 (B:∀x∈scope.names,x.2 = .local->scope.names.lookup x.1=some .local:=by decide +kernel)
 (hfr:∀x∈scope.names,x.2 = .free->x.1∈J:=by decide +kernel) (hs:∀x,foldedSetIterable iter X.env x=pure x:=by intro _;rfl) :
 DS1 X fl (.Assign [.Name x pos'] (.ListComp elt [⟨tg,iter,ifs,0⟩] scope pos) spos) (bU i (jF fi g ft f T.length ix)):=
 PS.imp (SM hN hi' hx hc T J ix hi hg ht he Y hB hk D B hfr hs) λDn σ H h=>by
 obtain⟨G,ow,δ,o,R,Z,q⟩:=h
 unfold bU at Z
 by_cases V:i<δ.length
 ·rw[if_pos V]at Z
  obtain⟨d,U,e2⟩:=bind1 Z
  cases e2
  exact xg (fl:=fl) hfl W ⟨G,ow,δ,d,R,U,λv H' s r=>q ow _ H' ((R.grow s).q_ hfx (vJ R V) ((r.FC_F R).F_A R))⟩
 ·rw[if_neg V]at Z
  cases Z
theorem Bt{p:Addr}(s:Same H H1)(B:H1 p=none)(r:RAs K (okA ow) true H1 vs l):Rs K G.H0 ow H (upd H1 p (.lst vs)) .F (.ref p) (.list l):=
 .inr ⟨p,vs,l,rfl,rfl,s.free B,cU,(r.track.imp (λb w=>⟨w.1,λe=>w.2 (e▸B)⟩) (λz=>z)).same (cY B _)⟩
theorem tG{H0:Hp}(r:Rs K H0 ow Hb H (.B L) v (.list l)):∃a xs,v = .ref a/\SqL K H a xs/\RAs K (okA ow) true H xs l:=by
 rcases r with r|⟨i,hi,a,xs,ds,X,rfl,e,Z,Y⟩
 ·exact r.lstE
 ·cases e
  exact⟨a,xs,rfl,SqL.of Z,Y⟩
def ZM(K:PySem.W.Frag):R2:=λx y H Q=>∃l b xs zs,x = .ref l/\y = .ref b/\SqL K H l xs/\SqL K H b zs/\xs.length+zs.length<=sizeLine/\∀p,H p=none->Q (.ref p) (upd H p (.lst (xs++zs)))
theorem Ti:OpR X (binaryOp .Add) (ZM X.K):=by
 intro pins s σ H x y v u Q I N O h
 obtain⟨l,b,xs,zs,rfl,rfl,M,L,G,q⟩:=h
 cases N
 cases O
 obtain⟨its,r,p,_⟩:=I.list M
 obtain⟨its2,T,p2,_⟩:=I.list L
 obtain⟨⟨cls,J,data,sl⟩,S,R,n,hd⟩:=p.isList
 obtain⟨⟨P,U,data2,V⟩,Z,W,n2,Y⟩:=p2.isList
 simp only at R hd W Y
 subst R hd W Y
 have E:=r.length
 have e2:=T.length
 have e:its.toArray++its2.toArray=(its++its2).toArray:=by simp
 refine concat_meets ⟨_,S,rfl⟩ ⟨_,Z,rfl⟩ noFill_list_add seq_list_add PySem.F.slot_list_add PySem.F.entry_list_add (PySem.F.args_list_add_2 _ _) (list_addW l b its.toArray its2.toArray n n2 J U sl V (by simp;omega)) ⟨S,Z,?_⟩
 rw[e]
 exact⟨.ref _,_,I.lnew (t':=s.toks) (r.append T) (by rw[bh];omega),rfl,q _ I.fresh⟩
theorem mY{D:List Nat}(h1:DE X fl (.B L) a fa)(h2:DE X fl (.B D) b fb):DE X fl .F (.BinOp a .Add b pos) (dOp kj fa fb):=PE.imp (Nf Ti h1 h2) λσ H Q h=>by
 obtain⟨G,ow,δ,d,R,O,q⟩:=h
 obtain⟨x,y,N,e2,Z⟩:=Bp O
 refine⟨G,ow,δ,x,R,N,λv H1 s1 T=>⟨G,ow,δ,y,R.grow s1,e2,λu H2 s2 U=>?_⟩⟩
 unfold kj at Z
 split at Z
 ·next l m=>
  by_cases z:l.length+m.length<=1000000
  ·rw[if_pos z]at Z
   cases Z
   obtain⟨p,xs,rfl,P,W⟩:=tG T
   obtain⟨p',ys,rfl,S,Y⟩:=tG U
   refine⟨p,p',xs,ys,rfl,rfl,s2.seq P,S,?_,λpn V=>q _ _ ((s1.trans s2).trans (cY V _)) (Bt (G:=G) (s1.trans s2) V ((W.same s2).append Y))⟩
   rw[W.length,Y.length]
   exact bF z (by decide)
  ·rw[if_neg z]at Z
   cases Z
 ·cases Z
theorem RAs.rep{ok:Ok}(r:RAs K ok pl H vs l):∀n:Nat,RAs K ok pl H (aQ n vs).flatten (aQ n l).flatten
 |0=>.nil
 |n+1=>by
  rw[cD,cD,eX,eX]
  exact r.append (RAs.rep r n)
theorem CW(h1:DE X fl .F a fa)(h2:DE X fl .P b fb):DE X fl .F (.BinOp a .Mult b pos) (dOp uD fa fb):=PE.imp (Nf W8 h1 h2) λσ H Q h=>by
 obtain⟨G,ow,δ,d,R,S,q⟩:=h
 obtain⟨x,y,M,e2,Z⟩:=Bp S
 refine⟨G,ow,δ,x,R,M,λv H1 s1 U=>⟨G,ow,δ,y,R.grow s1,e2,λu H2 s2 V=>?_⟩⟩
 unfold uD at Z
 split at Z
 ·next l k=>
  by_cases z:l.length*k.toNat<=1000000/\-(2^63)<=k/\k<2^63
  ·rw[if_pos z]at Z
   cases Z
   obtain rfl:=RA.intE V
   rcases U with⟨T,_⟩|⟨p,xs,ds,rfl,N,L,O,W⟩
   ·simp[flat]at T
   ·cases N
    refine⟨p,k,xs,rfl,rfl,s2 _ _ O,z.2.1,z.2.2,?_,λpn Y=>q _ _ ((s1.trans s2).trans (cY Y _)) (Bt (G:=G) (s1.trans s2) Y (((W.imp (λb w=>w.1) (λz=>z)).same s2).rep _))⟩
    rw[W.length]
    exact bF z.1 (by decide)
  ·rw[if_neg z]at Z
   cases Z
 ·cases Z
theorem Ju(h:DE X fl (.B L) a f)(O:Gl X "list")(hm:X.mg "list"=none)
 (J:starEach [a] X.env=(false,eval a X.env)::starEach [] X.env:=by rfl) (D:(backTo pos (starEach [] X.env)).any (·.1)=false:=by rfl):DE X fl .F (.Call (.Name "list" p) [a] [] pos) (dUn wY f):=
 PE.imp (tZ Cy O hm boot_list (jy h n8 J) (by decide) (by decide) J D) λσ H Q h=>by
 obtain⟨G,ow,δ,d,R,U,q⟩:=h
 obtain⟨x,T,e2⟩:=bind1 U
 refine⟨G,ow,δ,x,R,T,λv H1 s1 Y=>?_⟩
 unfold wY at e2
 split at e2
 ·cases e2
  obtain⟨p,xs,rfl,W,V⟩:=tG Y
  exact⟨p,xs,rfl,.inl W,λpn Z=>q _ _ (s1.trans (cY Z _)) (Bt (G:=G) s1 Z V)⟩
 ·cases e2
  rcases Y with Y|⟨i,hi,a,xs,ds,S,rfl,e,W,V⟩
  ·obtain⟨p,xs,rfl,W,V⟩:=Y.tupE
   exact⟨p,xs,rfl,.inr W,λpn Z=>q _ _ (s1.trans (cY Z _)) (Bt (G:=G) s1 Z V)⟩
  ·cases e
 ·cases e2
def tDO(K:PySem.W.Frag)(fl:List Fl)(f:FO):TO:=λσ H Q=>∃G ow δ o,Rel K fl G ow σ H δ/\f δ=some o/\∀H',Same H H'->Q o H'
theorem PO.imp{o:Option Expr}{t t':TO}(h:PO X o t)(i:∀σ H Q,t' σ H Q->t σ H Q):PO X o t':=λpins s σ H Q I q=>h pins s σ H Q I (i σ H Q q)
theorem nq:PO X none (tDO X.K fl kJ):=PO.imp R_ λσ H Q h=>by
 obtain⟨G,ow,δ,o,R,Z,q⟩:=h
 cases Z
 exact q H (Same.refl H)
theorem jf(h:DE X fl .P e f):PO X (some e) (tDO X.K fl (d8 f)):=PO.imp (Sg h) λσ H Q h=>by
 obtain⟨G,ow,δ,o,R,Y,q⟩:=h
 obtain⟨d,W,e2⟩:=bind1 Y
 split at e2
 ·cases e2
  refine⟨G,ow,δ,_,R,W,λv H1 s1 Z=>?_⟩
  obtain rfl:=RA.intE Z
  exact⟨_,rfl,q H1 s1⟩
 ·cases e2
theorem CZ(n d:Nat)(o:Option Int):HT.sIx n d o=pSx n d o:=by
 cases o<;>rfl
theorem RAs.cut{ok:Ok}(r:RAs K ok pl H vs l)(lo hi:Option Int):RAs K ok pl H (Fj vs lo hi) (cutD l lo hi):=by
 unfold Fj cutD
 rw[r.length,CZ,CZ]
 exact(r.drop _).take _
theorem tH{lo hi:Option Expr}{p2:Pos}{fl1:FO}(h:DE X fl (.B L) a f)(h1:PO X lo (tDO X.K fl fl1))(h2:PO X hi (tDO X.K fl fh)):DE X fl .F (.Subscript a (.Slice lo hi none p2) pos) (dSl f fl1 fh):=PE.imp (Fi Ss h h1 h2) λσ H Q h=>by
 obtain⟨G,ow,δ,d,R,Y,q⟩:=h
 obtain⟨x,M,Y⟩:=bind1 Y
 obtain⟨U,e2,Y⟩:=bind1 Y
 obtain⟨V,N,W⟩:=bind1 Y
 refine⟨G,ow,δ,x,R,M,λv H1 s1 S=>⟨G,ow,δ,U,R.grow s1,e2,λH2 s2=>⟨G,ow,δ,V,R.grow (s1.trans s2),N,λJ s3=>?_⟩⟩⟩
 split at W
 ·cases W
  obtain⟨p,xs,rfl,P,O⟩:=tG S
  have Z:=s2.trans s3
  exact⟨p,xs,rfl,Z.seq P,λpn T=>q _ _ ((s1.trans Z).trans (cY T _)) (Bt (G:=G) (s1.trans Z) T ((O.same Z).cut U V))⟩
 ·cases W
theorem FN{st:Stmt}:DS1 X fl st (λ_=>none):=PS.imp M7 λDn σ H h=>by
 obtain⟨G,ow,δ,o,R,Z,q⟩:=h
 cases Z
end
end D3
variable{elts:List Expr}{tpos:Pos}
namespace D3
open PySem PySem.Spec PyProof.Rows L2 My
section
variable{X:Cx}{pins:List (Addr×Obj)}{σ:St}{H:Hp}{s:Shared}{h':Heap}
theorem Inv.turnedL(I:Inv X pins σ H s)(k:∀b o,b∉ch->s.heap.get? b=some o->h'.get? b=some o)(B:∀b∈ch,wg X pins H b):Inv X pins σ H {s with heap:=h',toks:=t'}:=by
 have Y:∀b u,H b=some u->b∉ch:=λb u e z=>by rw[(B b z).1]at e;cases e
 refine I.step (g':=s.gens) (d':=s.drawn) (ch:=ch) (λb V=>?_) (λb o _ _ Z e _=>k b o Z e) (λb o _ _ Z e _=>⟨o.slots,k b o Z e⟩) (λ_ _ _ _ n=>n)
  (λb o Z e=>⟨o,k b o Z e⟩) (λ_ _ e=>e) (λ_ _ _ e=>e) (λ_ _ _ e=>e) (λm hm=>?_) (λb u e=>?_) I.bare
 ·obtain⟨S,f1,f2,f3,T,U⟩:=B b V
  exact⟨f3,f1,T,U⟩
 ·obtain⟨o,es,ep,W,r⟩:=hm
  exact⟨o,es,ep,k _ o (λz=>(B _ z).2.1 rfl) W,r⟩
 ·refine(I.hok b u e).stay (λc v Z q=>k c v ?_ q) (λ_ q=>q) λ_ _ q=>q
  rcases Z with z|z
  ·rw[z];exact Y b u e
  ·exact Y c _ z
end
def Ite(K:PySem.W.Frag)(a:Addr):It:=
 ⟨λi H=>∃xs x,SqL K H a xs/\xs[i]? = some x,λi H x H'=>∃p y,H p=none/\H'=upd H p (.tup [.int i,y])/\x = .ref p/\∀xs,SqL K H a xs->xs[i]? = some y,λi H=>∃xs,SqL K H a xs/\xs.length<=i⟩
theorem K8{x1}(a it:Addr):
 Turn P w K (.Tuple elts x1 tpos) (Ite K a) [it+1,it] (it+1) (λi h=>∃old,IsEnum h (it+1) it (i:Int) old/\h.IsListIter it a i) where
 mem:=by simp
 obj:=λi h st b Z=>by
  obtain⟨old,W,o,e,c,d⟩:=st
  rcases aU.mp Z with z|z
  ·subst z
   exact⟨_,W,λv z=>by cases z⟩
  ·have z:b=it:=by simpa using z
   subst z
   exact⟨o,e,λv z=>by rw[d]at z;cases z⟩
 keep:=λi h h' st k=>by
  obtain⟨old,W,hi⟩:=st
  exact⟨old,k _ (by simp) _ W,hi.at λo e=>k it (by simp) o e⟩
 item:=by
  intro X L hw J D i pins s σ H E I V st N
  subst L hw J
  obtain⟨xs,x,T,Q⟩:=N
  obtain⟨its,R,p,B⟩:=I.list T
  obtain⟨u,y,C⟩:=R.get Q
  obtain⟨old,W,hi⟩:=st
  have fe:=V (it+1) (by simp)
  have fi:=V it (by simp)
  have U:it+1<s.heap.objs.size:=af W
  refine wpAny_pyNext_enum_item W hi p.isList (x:=u) (by simpa using y) (Nat.succ_ne_self it) λh1 q O t r n=>?_
  refine⟨_,rfl,er q λh2 M Y=>?_⟩
  replace Y:Heap.SameBut (it+1) h1 h2:=Y
  have hn:H s.heap.objs.size=none:=I.hok.fresh (aL _)
  have g:Inv X pins σ (upd H s.heap.objs.size (.tup [.int (i:Int),x])) {s with heap:=s.heap.push {cls:=.type "tuple", data:=.seq #[.int (i:Int) s.toks,u]} }:=
   I.laid (t':=s.toks) (λb o e=>ad _ e) (aL _) ⟨show 2<=sizeLine by decide,[.int (i:Int) s.toks,u],.cons ⟨_,rfl⟩ (.cons C .nil),⟨_,ag _ rfl,rfl,_,rfl⟩⟩
  have ne:∀b,b∈[it+1,it]->b≠s.heap.objs.size:=λb Z=>by
   rcases aU.mp Z with S|S
   ·rw[S];exact aW U
   ·rw[show b=it by simpa using S];exact aW (cM U)
  have j:Inv X pins σ (upd H s.heap.objs.size (.tup [.int (i:Int),x])) {s with heap:=h2,toks:=s.toks+1}:=by
   refine Inv.turnedL (s:={s with heap:=s.heap.push {cls:=.type "tuple", data:=.seq #[.int (i:Int) s.toks,u]} }) (ch:=[it+1,it]) g (λb o Z e=>?_) λb Z=>⟨by rw[cO (ne b Z)];exact(V b Z).1,(V b Z).2⟩
   have F:b≠it+1:=λz=>Z (by simp[z])
   have l:b≠it:=λz=>Z (by simp[z])
   rcases cq e with⟨G,e2⟩|G
   ·subst G e2
    exact(Y.2 _ F).trans t
   ·exact(Y.2 _ F).trans (n b o F l G)
  refine⟨.ref s.heap.objs.size,_,j,rfl,⟨_,x,hn,rfl,rfl,λys A=>by rw[I.list_inj A T];exact Q⟩,⟨_,M,O.at λo e=>(Y.2 _ (aW (fP it))).trans e⟩,λb Z=>?_⟩
  rw[cO (ne b Z)]
  exact(V b Z).1
 done:=by
  intro X L hw J D i pins s σ H E I V st N
  subst L hw J
  obtain⟨xs,T,Q⟩:=N
  obtain⟨its,R,p,B⟩:=I.list T
  obtain⟨old,W,hi⟩:=st
  have f:=R.length
  refine wpAny_pyNext_enum_end (I.ok.hd D) W hi p.isList (by simp;omega) λh' m=>⟨rfl,Inv.turnedL (t':=s.toks) (ch:=[it+1,it]) I (λb o Z e=>m b o (λz=>Z (by simp[z])) e) V⟩
 self:=λ_ _ _ _ _ st h=>by
  obtain⟨old,W,_⟩:=st
  exact ce W h
section
variable{X:Cx}{fl:List Fl}{a:Expr}{f:FE}{pos:Pos}
def ZP(K:PySem.W.Frag)(tl:TE):TI:=λσ H R=>tl σ H λx H1=>∃a,x = .ref a/\(∃xs,SqL K H1 a xs)/\R (Ite K a) H1
theorem Tj{x1}(O:Gl X "enumerate")(hm:X.mg "enumerate"=none)(J:PE X a tl)(D:starEach [a] X.env=(false,eval a X.env)::starEach [] X.env:=by rfl)
 (B:(backTo pos (starEach [] X.env)).any (·.1)=false:=by rfl):PI X (.Tuple elts x1 tpos) (.Call (.Name "enumerate" p) [a] [] pos) (ZP X.K tl):=by
 intro pins s σ H R I h
 refine ax (lR I O hm boot_enumerate (PyProof.Rows.callWith_type1 (thn ((jy J n8 D) pos pins s σ H (λvs H1=>match vs with|[x]=>∃a,x = .ref a/\(∃xs,SqL X.K H1 a xs)/\R (Ite X.K a) H1|_=>False) I h) λus s1 ⟨vs,H1,W,T,q1⟩=>?_) D B))
 cases T with
 |nil=>exact q1.elim
 |cons r U=>
  cases U with
  |cons _ _=>exact q1.elim
  |nil=>
  obtain⟨l,e,⟨xs,Q⟩,q⟩:=q1
  subst e
  cases r
  obtain⟨its,L,pl,G⟩:=W.list Q
  refine call_enumerate_list pl.isList λh' Z V S P=>?_
  have M:Inv X pins σ H1 {s1 with heap:=h'}:=W.kept (t':=s1.toks) P
  refine ce (s:={s1 with heap:=h'}) Z ?_
  refine⟨s1.heap.objs.size+1,[s1.heap.objs.size+1,s1.heap.objs.size],_,_,H1,rfl,M,K8 l s1.heap.objs.size,⟨_,Z,V⟩,λb N=>?_,q⟩
  have Y:s1.heap.objs.size<=b:=by
   rcases aU.mp N with z|z
   ·rw[z];exact jm _
   ·rw[show b=s1.heap.objs.size by simpa using z];exact aL _
  exact W.fpOk Y (W.hok.fresh Y)
theorem Tp{x1}(h:DE X fl (.B L) a f)(J:Gl X "enumerate")(hm:X.mg "enumerate"=none)(he:starEach [a] X.env=(false,eval a X.env)::starEach [] X.env:=by rfl)
 (D:(backTo pos (starEach [] X.env)).any (·.1)=false:=by rfl):DI X fl L (.Tuple elts x1 tpos) (.Call (.Name "enumerate" p) [a] [] pos) (Jp f):=PI.imp (Tj J hm h he D) λσ H R' h=>by
 obtain⟨G,ow,δ,l,R,K,q⟩:=h
 obtain⟨d,I,e2⟩:=bind1 K
 cases d<;>first|(cases e2;done)|skip
 next V=>
 cases e2
 refine⟨G,ow,δ,_,R,I,λv H1 s r=>?_⟩
 obtain⟨a,xs,rfl,O,keep⟩:=wF (R.grow s) r
 refine⟨a,rfl,⟨xs,O⟩,q _ _ s λH2 k2 i=>?_⟩
 obtain⟨Y,U⟩:=keep H2 k2
 refine⟨λd hd=>?_,λM=>⟨xs,Y,by rw[U.length];simpa[qw]using M⟩⟩
 have Z:(V[i]?).map (λx=>PyData.tuple [.int (i:Int),x])=some d:=by
  have:=hd
  unfold qw at this
  rw[fO]at this
  exact this
 cases e:V[i]? with
 |none=>rw[e]at Z;cases Z
 |some F=>
  rw[e]at Z
  cases Z
  obtain⟨y,T,Q⟩:=U.get e
  refine⟨⟨xs,y,Y,T⟩,λx E W=>?_⟩
  obtain⟨p,S,N,rfl,rfl,P⟩:=W
  have:some y=some S:=T.symm.trans (P xs Y)
  cases this
  have g:=cY N (.tup [.int (i:Int),y])
  exact⟨g,.tup cU (.cons (.int _) (.cons (Q.same g) .nil))⟩
end
structure Bl(mg:Str->Option Value):Prop where
 len_:mg "len"=none
 range_:mg "range"=none
 abs_:mg "abs"=none
 isinstance_:mg "isinstance"=none
 int_:mg "int"=none
 bool_:mg "bool"=none
 tuple_:mg "tuple"=none
 list_:mg "list"=none
 str_:mg "str"=none
 max_:mg "max"=none
 min_:mg "min"=none
 sorted_:mg "sorted"=none
 sum_:mg "sum"=none
 reversed_:mg "reversed"=none
 enumerate_:mg "enumerate"=none
 zip_:mg "zip"=none
 set_:mg "set"=none
 any_:mg "any"=none
 all_:mg "all"=none
 dict_:mg "dict"=none
end D3
variable{dc:Value}
namespace D3
open PySem PySem.Spec PyProof.Rows L2 My
structure FunD(K:PySem.W.Frag)(x:Str)(st:Stmt)(f:Addr)(fd:FuncData):Prop where
 ex:∃(oc:Value)(od:Option Addr)(dV kV doc pm:Value)(an:Option Addr)(cdv ct:Value)(osl:Array (Option Value)),
  fd=PySem.W.fnOf x x (pI st) (jz st) (bK st) dV kV doc pm an cdv ct/\K.lookup f=some ⟨oc,od,.func fd,osl⟩/\PySem.W.codeIn K cdv x=true
 kp:PySem.W.keepIn K (.ref f)=true
structure Dg(K:PySem.W.Frag)(mg:Str->Option Value)(x:Str)(st:Stmt)(ps:List Str):Prop where
 ex:∃(f:Addr)(fd:FuncData),FunD K x st f fd/\Binds K fd ps []/\mg x=some (.ref f)
theorem ZQ{kV:Value}{sl:Array (Option Value)}{st:Stmt}(X:K.In h)(G:h.Ns mainGlobals mg)
 (B:∀(kV doc pm:Value)(an:Option Addr)(cdv ct:Value)(us:List Value),us.length=ps.length->bindArgs (PySem.W.fnOf x x (pI st) (jz st) (bK st) .none kV doc pm an cdv ct) ⟨us,[]⟩=pure (ps.zip us))
 (a:PySem.W.nsIn K mainGlobals x=some (some (.ref f))) (l:K.lookup f=some ⟨oc,od,.func (PySem.W.fnOf x x (pI st) (jz st) (bK st) .none kV dc pm an cd ct),sl⟩) (c:PySem.W.codeIn K cd x=true) (k:PySem.W.keepIn K (.ref f)=true):Dg K mg x st ps:=
 ⟨_,_,⟨⟨oc,od,.none,kV,dc,pm,an,cd,ct,sl,rfl,l,c⟩,k⟩,.all (B kV dc pm an cd ct),PySem.W.mg_of X G a⟩
structure Dl(K:PySem.W.Frag)(mg:Str->Option Value)(x y:Str)(st:Stmt):Prop where
 ex:∃(f:Addr)(fd:FuncData),FunD K x st f fd/\(∀(s:Shared)(u:Value),BindsTo s fd ⟨[u],[]⟩ [(y,u)])/\mg x=some (.ref f)
theorem ZR{kV:Value}{sl:Array (Option Value)}{y:Str}{st:Stmt}(X:K.In h)(G:h.Ns mainGlobals mg)
 (B:∀(kV doc pm:Value)(an:Option Addr)(cdv ct:Value)(u:Value),bindArgs (PySem.W.fnOf x x (pI st) (jz st) (bK st) .none kV doc pm an cdv ct) ⟨[u],[]⟩=pure [(y,u)])
 (a:PySem.W.nsIn K mainGlobals x=some (some (.ref f))) (l:K.lookup f=some ⟨oc,od,.func (PySem.W.fnOf x x (pI st) (jz st) (bK st) .none kV dc pm an cd ct),sl⟩) (c:PySem.W.codeIn K cd x=true) (k:PySem.W.keepIn K (.ref f)=true):Dl K mg x y st:=
 ⟨_,_,⟨⟨oc,od,.none,kV,dc,pm,an,cd,ct,sl,rfl,l,c⟩,k⟩,λs u=>.of_eq (B kV dc pm an cd ct u),PySem.W.mg_of X G a⟩
section
variable{P:Program}{w:World}{K:PySem.W.Frag}{mg:Str->Option Value}{base:Heap}{x:Str}{ps N:List Str}{st:Stmt}{k n:Nat}{fs:FS}{fl:List Fl}
theorem FunD.ok(F:FunD K x st f fd)(S:FnScope N ps (bK st))(len:∀vs H Q E,sp vs H Q E->vs.length=ps.length)
 (B:∀(cdv:Value)(A:Around)(outer:List Env)(s:Shared)(H:Hp)(vs:List V)(Q:VK)(E:XK),Room k (A.deeper (envOfC x (bK st) s.heap.objs.size f cdv))->sp vs H Q E ->
  ∃t,PSs (Fe CX0 P w K mg base N x (bK st) f cdv A outer s H E).nox (jz st) t/\t {nx:=λ_ H'=>Q .non H',rt:=Q} (L2.start N vs) H):FnOk P w K mg base CX0 (k+1) f fd ps sp:=by
 obtain⟨oc,od,dV,kV,doc,pm,an,cdv,ct,osl,rfl,lk,Y⟩:=F.ex
 refine Vu lk Y S len λA outer s H vs Q E X Z=>?_
 obtain⟨t,h,q⟩:=B cdv A outer s H vs Q E X Z
 exact⟨t,h.nox,q⟩
theorem Og(O:FunD K x st f fd)(S:FnScope N ps (bK st))(D:∀i,i<ps.length->fl[i]? = some .A)(J:ps.length<=N.length)
 (B:∀(f:Addr)(cdv:Value)(A:Around)(outer:List Env)(s:Shared)(H:Hp)(E:XK),Room k (A.deeper (envOfC x (bK st) s.heap.objs.size f cdv))->DSs (cx P w K mg base N x st f cdv A outer s H E) fl (jz st) fs) :
 FnOk P w K mg base CX0 (k+1) f fd ps (spD K (fnD ps.length (N.length-ps.length) fs)):=by
 refine O.ok S (λvs H Q E h=>?_) (λcdv A outer s H vs Q E X h=>?_)
 ·obtain⟨ds,d,r,Z,_⟩:=h
  unfold fnD at Z
  by_cases z:ds.length=ps.length
  ·rw[r.2.length];exact z
  ·rw[if_neg z]at Z;cases Z
 ·obtain⟨ds,d,r,Z,q⟩:=h
  refine⟨_,B f cdv A outer s H E X,?_⟩
  unfold fnD at Z
  by_cases z:ds.length=ps.length
  ·rw[if_pos z]at Z
   split at Z
   ·next W e=>
    cases Z
    exact⟨_,_,_,_,mX ps.length D z J r,e,λv H' s r=>q v H' s r⟩
   ·next δ' e=>
    cases Z
    exact⟨_,_,_,_,mX ps.length D z J r,e,λY σ' H' R'=>q .non H' R'.same0 .non⟩
   ·cases Z
  ·rw[if_neg z]at Z;cases Z
theorem iD(O:Dg K mg x st ps)(S:FnScope N ps (bK st))(D:∀i,i<ps.length->fl[i]? = some .A)(J:ps.length<=N.length)
 (B:∀(f:Addr)(cdv:Value)(A:Around)(outer:List Env)(s:Shared)(H:Hp)(E:XK),Room k (A.deeper (envOfC x (bK st) s.heap.objs.size f cdv))->DSs (cx P w K mg base N x st f cdv A outer s H E) fl (jz st) fs) :
 Has P w K mg base (k+1) x ps (spD K (fnD ps.length (N.length-ps.length) fs)):=by
 obtain⟨f,fd,Z,b,m⟩:=O.ex
 exact⟨f,fd,Og Z S D J B,b,Z.kp,m⟩
end
noncomputable def Oh(K:PySem.W.Frag):Sp:=λvs H Q _=>∃(a:Addr)(ns:List Int),Tb H/\vs=[.ref a]/\SqL K H a (ns.map V.int)/\ns.length<=63/\∀H',Q (.bl true) H'
theorem rO{ok:Ok}:∀ns:List Int,RAs K ok pl H (ns.map V.int) (ns.map PyData.int)
 |[]=>.nil
 |n::r=>.cons (.int n) (rO r)
theorem Tq{F:List D->Option D}(B:∀ns:List Int,ns.length<=63->F [.list (ns.map .int)]=some (.bool true))(vs:List V)(H:Hp)(Q:VK)(E:XK)(h:Oh K vs H Q E):spD K F vs H Q E:=by
 obtain⟨a,ns,tb,rfl,Y,Z,q⟩:=h
 refine⟨_,_,⟨tb,.cons ?_ .nil⟩,B ns Z,λv H' s r=>?_⟩
 ·rcases Y with(h|⟨o,h⟩)|h
  ·exact .lst h trivial (rO ns)
  ·exact .lsk (.inl ⟨o,h⟩) rfl (rO ns)
  ·exact .lsk (.inr h) rfl (rO ns)
 ·obtain rfl:=r.blE
  exact q H'
end D3
namespace D3
open PySem PySem.Spec PyProof.Rows L2 My
section
variable{prog:Program}{w:World}{A:Around}{E:Value->Shared->Prop}{s:Shared}
theorem Ig:typeLookup (.type "list_reverseiterator") "__len__"=pure none:=by rw[cz,bv];kernel_rfl
theorem Oi:typeLookup (.type "list_reverseiterator") "__length_hint__"=pure (some (.builtin "list_reverseiterator.__length_hint__")):=by rw[cz,bv];kernel_rfl
theorem Oj{r:Addr}{Q:Bool->Shared->Prop}(B:s.TypeIs (.ref r) "list_reverseiterator")(h:Q false s):wpAny (model prog w) A (Builtin.List.listLengthHint (.ref r)) Q E s:=by
 unfold Builtin.List.listLengthHint
 refine aa (b7 B Ig ?_)
 refine bp (λZ=>absurd Z (by decide)) (λ_=>?_)
 refine bp (λZ=>absurd Z (by decide)) (λ_=>?_)
 refine aa (b7 B Oi ?_)
 generalize Y:("list_reverseiterator.__length_hint__":String)=X
 wp_delta
 rw[show splitId X=some ("list_reverseiterator", "__length_hint__")from by subst Y;decide +kernel]
 subst Y
 refine aa (cm (T := "list_reverseiterator") (b:=true) B (by rw[isSubtype_type];kernel_rfl) ?_)
 refine bp (λZ=>absurd Z (by decide)) (λ_=>?_)
 refine bp (λ_=>?_) (λZ=>absurd (by decide +kernel) Z)
 refine bp (λZ=>absurd Z (by decide +kernel)) (λ_=>?_)
 exact ae h
theorem Ih{R:Result->Shared->Prop}{l:Addr}{items:Array Value}(hh:A.handled=none)(hne:l≠it)(J:s.heap.IsRevIter it l ((items.size:Int)-1))(hl:s.heap.IsList l items)(S:Addr)(res:Value)(D:Nat)
 (O:S≠it) (hSl:S≠l) (hS:s.heap.get? S=some {cls:=.type "list", data:=.seq #[] D}) (hn:items.size<=sizeLine)
 (hR:∀h' tk B c',(∀b o,b≠S->b≠it->s.heap.get? b=some o->h'.get? b=some o)->h'.get? S=some {cls:=.type "list", dict:=none,data:=.seq B c',slots:=#[]} ->
  ItemsOf (λi v=>items[items.size-1-i]? = some v) B items.size->R (.ok (.ret res)) {s with heap:=h',toks:=tk}) :
 wpAny (model prog w) A.in1 (Builtin.List.listExtendWith (.ref S) (.ref it) res)
  (λfin s'=>match fin with | .done f=>R (.ok f) s' | .again c'=>c'.quiet=true/\codeAny (model prog w) A c' R s') (λe s'=>R (.error e) s') s:=by
 have Q:s.TypeIs (.ref it) "list_reverseiterator" := J.typeIs
 unfold Builtin.List.listExtendWith
 refine aa (cw Q ?_)
 have h1:Builtin.List.listSameRef (.ref S) (.ref it)=false:=by simp[Builtin.List.listSameRef,O]
 have h2:(Value.type "list_reverseiterator"==Value.type "list")=false:=by decide
 have N:(Value.type "list_reverseiterator"==Value.type "tuple")=false:=by decide
 simp only[h1,h2,N,uF,fG,if_false]
 refine aa (c6 J ?_)
 refine aa (ap (Oj Q ?_))
 refine bp (λV=>absurd V (by decide +kernel)) (λ_=>?_)
 have W:=(Walks.listRev (prog:=prog) (w:=w) (A:=A.in1) hh it l hne items).toS
 have U:S∉[it,l]:=λhm=>by
  rcases aU.mp hm with z|z
  ·exact O z
  ·exact hSl (by simpa using z)
 refine ae ⟨di bS _,codeAny_extend_loopS W hn S U res items.size 0 _ #[] D rfl (cZ _) ⟨cZ _,by simpa using J,hl⟩ hS (ItemsOf.nil _) λs' B c' hm T Y=>?_⟩
 rw[Moved.eq_with hm]
 refine hR s'.heap s'.toks B c' (λb o P X e=>hm.heap b o (λZ=>?_) e) T Y
 rcases aU.mp Z with M|Z
 ·exact P M
 ·exact X (by simpa using Z)
theorem Ak{l:Addr}{items:Array Value}(hh:A.handled=none)(D:l≠it)(J:s.heap.IsRevIter it l ((items.size:Int)-1))(hl:s.heap.IsList l items)(hn:items.size<=sizeLine)
 (hQ:∀h' tk B c',(∀b o,b≠it->s.heap.get? b=some o->h'.get? b=some o)->h'.get? s.heap.objs.size=some {cls:=.type "list", dict:=none,data:=.seq B c',slots:=#[]} ->
  ItemsOf (λi v=>items[items.size-1-i]? = some v) B items.size->Q (.ref s.heap.objs.size) {s with heap:=h',toks:=tk}) :
 wpAny (model prog w) A (call (.type "list") [.ref it]) Q E s:=by
 refine callType_codes (Q₁:=λobj Z=>obj = .ref s.heap.objs.size/\Z={s with heap:=s.heap.push {cls:=.type "list", data:=.seq #[]} }) F.called_list (F.typeCall_list_1 _) F.entry_list_init
  (code_list_new _ ⟨rfl,rfl⟩) λobj Z W=>?_
 obtain⟨rfl,rfl⟩:=W
 have S:(s.heap.push {cls:=.type "list", data:=.seq #[]}).get? s.heap.objs.size=some {cls:=.type "list", data:=.seq #[]}:=ag _ rfl
 obtain⟨N,U,I⟩:=id J
 obtain⟨O,V,K⟩:=id hl
 have L:s.heap.objs.size≠it:=Ne.symm (aW (af U))
 have M:s.heap.objs.size≠l:=Ne.symm (aW (af V))
 refine⟨⟨_,S,rfl⟩,F.args_list_init_2 _ _,?_⟩
 show wpAny _ _ (do let old <-Builtin.List.listItems (.ref s.heap.objs.size);Builtin.List.listUpdate (.ref s.heap.objs.size) (λ_=>#[]);letGo old.toList.reverse;Builtin.List.listExtendWith (.ref s.heap.objs.size) (.ref it) .none) _ _ _
 refine aa ?_
 unfold Builtin.List.listItems
 refine aa (bu S rfl (ae ?_))
 show wpAny _ _ (updateSeq s.heap.objs.size (λ_=>#[]) >>= λ_=>letGo (#[]:Array Value).toList.reverse >>= λ_=>Builtin.List.listExtendWith (.ref s.heap.objs.size) (.ref it) .none) _ _ _
 refine aa (b6 S rfl ?_)
 have X:=az (Obj.mapSeq (λ_=>(#[]:Array Value))) S rfl
 have Y:∀b o,b≠s.heap.objs.size->s.heap.get? b=some o->((s.heap.push {cls:=.type "list", data:=.seq #[]}).update s.heap.objs.size (Obj.mapSeq (λ_=>(#[]:Array Value)))).get? b=some o:=
  λb o R e=>(aI _ _ (Ne.symm R)).trans (ad _ e)
 refine aa (wpAny_letGo ?_)
 refine Ih (A:=A.in1) (s:={s with heap:=(s.heap.push {cls:=.type "list", data:=.seq #[]}).update s.heap.objs.size (Obj.mapSeq (λ_=>(#[]:Array Value)))}) (show A.in1.handled=none from hh) D ?i1 ?i2 s.heap.objs.size .none _ L M X hn λh' tk B c' H P T=>?_
 case i1=>exact⟨N,Y it N (Ne.symm L) U,I⟩
 case i2=>exact⟨O,Y l O (Ne.symm M) V,K⟩
 exact⟨rfl,hQ h' tk B c' (λb o R e=>H b o (aW (af e)) R (Y b o (aW (af e)) e)) P T⟩
end
section
variable{X:Cx}{fl:List Fl}{a:Expr}{f:FE}{pos p p2 pos2:Pos}
theorem K9{acc:Array Value}(h:ItemsOf (λi v=>its.toArray[its.toArray.size-1-i]? = some v) acc its.toArray.size):acc=its.reverse.toArray:=by
 obtain⟨h1,h2⟩:=h
 apply mR.mp
 apply dX
 intro i
 have e:acc.toList[i]? = acc[i]?:=by simp
 rw[e]
 by_cases hi:i<its.length
 ·have hs:i<acc.size:=by rw[h1];simpa using hi
  have:=h2 i acc[i] (gj hs)
  rw[gj hs,<-this]
  simp[mL hi]
 ·rw[fU (by rw[h1];simp;omega)]
  simp
  omega
theorem Jw(h:DE X fl (.B L) a f)(hc:X.calm=true)(hg:Gl X "list")(hm:X.mg "list"=none)(hg2:Gl X "reversed")(hm2:X.mg "reversed"=none)
 (he:starEach [a] X.env=(false,eval a X.env)::starEach [] X.env:=by rfl) (O:(backTo pos2 (starEach [] X.env)).any (·.1)=false:=by rfl)
 (J:starEach [.Call (.Name "reversed" p2) [a] [] pos2] X.env=(false,eval (.Call (.Name "reversed" p2) [a] [] pos2) X.env)::starEach [] X.env:=by rfl) (D:(backTo pos (starEach [] X.env)).any (·.1)=false:=by rfl) :
 DE X fl .F (.Call (.Name "list" p) [.Call (.Name "reversed" p2) [a] [] pos2] [] pos) (dUn Fx f):=by
 intro pins s σ H Q I r
 obtain⟨G,ow,δ,d,R,m,q⟩:=r
 obtain⟨x,i,e2⟩:=bind1 m
 cases x<;>first|(cases e2;done)|skip
 next z=>
 cases e2
 refine ax (lR I hg hm boot_list (PyProof.Rows.callWith_type1 ?_ J D))
 rw[J]
 show wpAny _ _ (spliced ((false,eval (.Call (.Name "reversed" p2) [a] [] pos2) X.env)::backTo pos (starEach [] X.env))) _ _ s
 refine a8 ?_
 refine ax (lR I hg2 hm2 boot_reversed (PyProof.Rows.callWith_type1 (thn ((jy h n8 he) pos2 pins s σ H (λvs H1=>∃v,vs=[v]/\Same H H1/\Rs X.K G.H0 ow H H1 (.B L) v (.list z)) I ⟨G,ow,δ,_,R,i,λv H' s' r'=>⟨v,rfl,s',r'⟩⟩) λus s1 ⟨vs,H1,S,C,v,k,Z,N⟩=>?_) he O))
 subst k
 obtain⟨l,xs,rfl,w,t⟩:=tG N
 cases C with
 |cons ra E=>
  cases E
  cases ra
  obtain⟨its,Y,pl,y⟩:=S.list w
  have hlen:=Y.length
  refine call_reversed_list pl.isList ?_
  refine bo ?_
  obtain⟨A,W,M⟩:=pl.isList
  have U:l≠s1.heap.objs.size:=aW (af W)
  refine Ak (items:=its.toArray) (I.ok.hd hc) U ⟨_,ag _ rfl,rfl,rfl⟩ ⟨A,ad _ W,M⟩ (by rw[aX];omega) λh' tk P c' n T V=>?_
  have j:=K9 V
  subst j
  have g:=S.laid (h':=h') (t':=tk) (a:=(s1.heap.push (revObj l ((its.toArray.size:Int)-1))).objs.size) (o:=.lst xs.reverse) (λb u e=>n b u (aW (af e)) (ad _ e)) (by rw[bq];exact jm _)
   ⟨by rw[fZ];exact y,its.reverse,c',Y.reverse,T⟩
  have hn:H1 (s1.heap.push (revObj l ((its.toArray.size:Int)-1))).objs.size=none:=S.hok.fresh (by rw[bq];exact jm _)
  exact⟨.ref (s1.heap.push (revObj l ((its.toArray.size:Int)-1))).objs.size,_,g,rfl,q _ _ (Z.trans (cY hn _)) (Bt (G:=G) Z hn t.reverse)⟩
end
section
variable{X:Cx}{fl:List Fl}{a b:Expr}{pos p p2 pos2:Pos}{fa:FA}
theorem Jx{f:Nat->V}:∀(us:List Value)(k:Nat),(∀j v,us[j]? = some v->RelV (f (k+j)) v)->Vals ((lE k us.length).map f) us
 |[],_,_=>.nil
 |u::r,k,h=>by
  rw[bC,List.range'_succ,aP]
  refine .cons (h 0 u rfl) (Jx r (k+1) λj v Z=>?_)
  have:=h (j+1) v (by simpa using Z)
  rw[show k+1+j=k+(j+1)by omega]
  exact this
theorem Ol{ok:Ok}(lo:Int):∀(n k:Nat),RAs K ok pl H ((lE k n).map λ(j:Nat)=>V.int (lo+(j:Int))) ((lE k n).map λ(j:Nat)=>PyData.int (lo+(j:Int)))
 |0,_=>.nil
 |n+1,k=>by
  rw[List.range'_succ,aP,aP]
  exact .cons (.int _) (Ol lo n (k+1))
end
end D3
variable{fl:List D3.Fl}
namespace D3
open PySem PySem.Spec PyProof.Rows L2 My
section
variable{X:Cx}
theorem tK:∀{ns:List Int}{its:List Value},Vals (ns.map V.int) its->IntsAre its ns
 |[],_,.nil=>.nil
 |n::r,_,.cons h t=>by
  obtain⟨k,rfl⟩:=h
  exact .cons _ _ (tK t)
theorem vL{ok:Ok}:∀{l:List D}{ns:List Int}{ys:List V},dO l=some ns->RAs K ok pl H ys l->ys=ns.map V.int
 |[],_,_,e,.nil=>by cases e;rfl
 |d::r,ns,_,e,.cons h t=>by
  cases d<;>first|(cases e;done)|skip
  obtain rfl:=h.intE
  cases e2:dO r with
  |none=>rw[dO,e2]at e;cases e
  |some m=>
   rw[dO,e2]at e
   cases e
   rw[vL e2 t]
   rfl
theorem K_(B:X.calm=true):lU X (.builtin "max") (λxs H Q=>∃(p:Addr)(i:Int)(r:List Int),xs=[.ref p]/\SqL X.K H p ((i::r).map V.int)/\Q (.int (mxI i r)) H):=by
 intro pins s σ H xs us Q I r h
 obtain⟨p,i,Y,rfl,O,q⟩:=h
 obtain⟨u,rfl,S⟩:=vals1 r
 cases S
 obtain⟨its,W,pl,G⟩:=I.list O
 have hi:=tK W
 obtain⟨xs,e⟩:=hi.allInts.items
 have Z:i::Y=xs.toList.map (·.1):=by rw[<-hi.numsOf,<-nums_intItems,<-e]
 have U:0<xs.size:=by
  have T:0<(i::Y).length:=by simp
  rw[Z,aq,bD]at T;exact T
 have M:s.heap.IsList p (intItems xs):=e▸pl.isList
 refine max_intList (I.ok.hd B) M U λv h' tk N L=>?_
 obtain⟨t,rfl⟩:=intItems_at N
 obtain⟨h1,h2⟩:=argBest_gt (numAt xs) (xs.size-1)
 have P:numAt xs (argBest (λi j=>decide (numAt xs i>numAt xs j)) (xs.size-1))∈i::Y:=by
  rw[Z,numAt_eq];exact getD_mem (by rw[aq,bD];omega)
 have R:∀a∈i::Y,a<=numAt xs (argBest (λi j=>decide (numAt xs i>numAt xs j)) (xs.size-1)):=λa ha=>by
  rw[Z]at ha
  obtain⟨j,J,rfl⟩:=mem_getD ha
  rw[aq,bD]at J
  rw[<-numAt_eq];exact h2 j (by omega)
 have sp:=qx Y i
 have eq:numAt xs (argBest (λi j=>decide (numAt xs i>numAt xs j)) (xs.size-1))=mxI i Y:=su (sp.2 _ P) (R _ sp.1)
 rw[eq]
 exact⟨.int _,H,I.kept L,⟨_,rfl⟩,q⟩
theorem Xi:BrC K (λxs H Q=>∃(p:Addr)(i:Int)(r:List Int),xs=[.ref p]/\SqL K H p ((i::r).map V.int)/\Q (.int (mxI i r)) H) yN:=by
 intro H xs ds d Q r e q
 unfold yN at e
 split at e
 ·next l=>
  split at e
  ·next i X e2=>
   cases e
   cases r with
   |cons Y Z=>
    cases Z
    obtain⟨a,ys,rfl,W,U⟩:=Y.lstE
    obtain rfl:=vL e2 U
    exact⟨a,i,X,rfl,W,q _ rfl (.int _)⟩
  ·cases e
 ·cases e
theorem wG:∀{l m:List Int},l.Perm m->l.Pairwise (· <= ·)->m.Pairwise (· <= ·)->l=m
 |[],m,p,_,_=>p.nil_eq
 |a::l,m,p,h1,h2=>by
  cases m with
  |nil=>exact absurd p.length_eq (by simp)
  |cons b m=>
   obtain⟨V,W⟩:=bZ.mp h1
   obtain⟨X,Y⟩:=bZ.mp h2
   have e:a=b:=by
    have x1:a∈b::m:=p.mem_iff.mp aJ
    have Z:b∈a::l:=p.mem_iff.mpr aJ
    rcases aU.mp x1 with z|z
    ·exact z
    ·rcases aU.mp Z with y|y
     ·exact y.symm
     ·exact su (V b y) (X a z)
   subst e
   rw[wG (List.Perm.cons_inv p) W Y]
theorem oR:∀{ns:List Int}{its:List Value},IntsAre its ns->Vals (ns.map V.int) its
 |_,_,.nil=>.nil
 |_,_,.cons n t r=>.cons ⟨t,rfl⟩ (oR r)
theorem C_:lU X (.builtin "sorted") (λxs H Q=>∃(p:Addr)(ns:List Int),xs=[.ref p]/\SqL X.K H p (ns.map V.int)/\ns.length<64/\∀l,H l=none->Q (.ref l) (upd H l (.lst ((Aj ns).map V.int)))):=by
 intro pins s σ H xs us Q I r h
 obtain⟨p,ns,rfl,S,Z,q⟩:=h
 obtain⟨u,rfl,W⟩:=vals1 r
 cases W
 obtain⟨its,Y,pl,L⟩:=I.list S
 have hi:=tK Y
 refine sorted_ints pl.isList hi (by rw[hi.length];exact Z) λout U N O P=>?_
 obtain rfl:=wG (O.trans (qy ns).symm) P (sW ns)
 obtain⟨e,R⟩:=sortedAll_at s.heap its out
 have hn:H (s.heap.objs.size+1)=none:=I.hok.fresh (jm _)
 have T:(Aj ns).length=ns.length:=(qy ns).length_eq
 have M:=I.laid (h':=sortedAll s.heap its out) (t':=s.toks) (a:=s.heap.objs.size+1) (o:=.lst ((Aj ns).map V.int)) (λb u e=>sortedAll_old e) (jm _)
  ⟨by rw[aq,T];exact bF (dW Z) (by decide),out.toList,e,oR N,by simpa[seqObj]using R⟩
 exact⟨.ref _,_,M,rfl,q _ hn⟩
theorem La(ha:DB X fl .P [e] fa)(D:Gl X "sorted")(hm:X.mg "sorted"=none)
 (J:starEach [e] X.env=(false,eval e X.env)::starEach [] X.env:=by rfl) (B:(backTo pos (starEach [] X.env)).any (·.1)=false:=by rfl):DE X fl .FC (.Call (.Name "sorted" p) [e] [] pos) (dCall Nz fa):=
 PE.imp (nO C_ D hm (show bootBuiltins "sorted"=some (.builtin "sorted")by decide +kernel) ha (by decide) (by decide) J B) λσ H Q h=>by
 obtain⟨G,ow,δ,d,R,S,q⟩:=h
 obtain⟨ds,O,e2⟩:=bind1 S
 refine⟨G,ow,δ,ds,R,O,λvs H' s r'=>?_⟩
 unfold Nz at e2
 split at e2
 ·next l=>
  cases Y:dO l with
  |none=>rw[Y]at e2;cases e2
  |some ns=>
   rw[Y,aM]at e2
   by_cases Z:ns.length<64
   ·rw[if_pos Z]at e2
    cases e2
    cases r' with
    |cons V W=>
     cases W
     obtain⟨a,ys,rfl,U,T⟩:=V.lstE
     obtain rfl:=vL Y T
     exact⟨a,ns,rfl,U,Z,λl hn=>q _ _ (s.trans (cY hn _)) (.inr ⟨_,_,_,rfl,rfl,s.free hn,cU,rO _⟩)⟩
   ·rw[if_neg Z]at e2;cases e2
 ·cases e2
end
end D3
namespace D3
open PySem PySem.Spec PyProof.Rows L2 My
def gK(n:Nat)(us ws:List α):List α:=if ws.length=n then us++ws else []
structure HasD(P:Program)(w:World)(K:PySem.W.Frag)(mg:Str->Option Value)(base:Heap)(n:Nat)(x:Str)(ps:List Str)(sp:Sp)(dvs:List V)(ks:List Str):Prop where
 ex:∃(f:Addr)(fd:FuncData)(ds:List Value),FnOk P w K mg base CX0 n f fd ps sp/\Binds K fd ps ds/\Vals dvs ds/\KBinds K fd ps ks (gK ks.length) (gK ks.length)/\PySem.W.keepIn K (.ref f)=true/\mg x=some (.ref f)
structure DgD(K:PySem.W.Frag)(mg:Str->Option Value)(x:Str)(st:Stmt)(ps:List Str)(dvs:List V)(ks:List Str):Prop where
 ex:∃(f:Addr)(fd:FuncData)(ds:List Value),FunD K x st f fd/\Binds K fd ps ds/\Vals dvs ds/\KBinds K fd ps ks (gK ks.length) (gK ks.length)/\mg x=some (.ref f)
section
variable{P:Program}{w:World}{K:PySem.W.Frag}{mg:Str->Option Value}{base:Heap}{x:Str}{ps N ks:List Str}{st:Stmt}{k n:Nat}{fs:FS}{fl:List Fl}{dvs:List V}
end
section
variable{X:Cx}{fl:List Fl}{e ke:Expr}{es:List Expr}{pos p kpos:Pos}{x kn:Str}{ps:List Str}{n:Nat}{F:List D->Option D}{fa:FA}{fk:FE}{i:Int}{dvs:List V}
theorem Xj:BrC K (λxs H Q=>(∃i,xs=[.int i]/\Q (.int i) H)\/∃k,xs=[.bl k]/\Q (.int (if k then 1 else 0)) H) sV:=by
 intro H xs ds d Q r e q
 unfold sV at e
 split at e
 ·cases e
  cases r with
  |cons Y Z=>
   cases Z
   obtain rfl:=Y.intE
   exact .inl ⟨_,rfl,q _ rfl (.int _)⟩
 ·cases e
  cases r with
  |cons Y Z=>
   cases Z
   obtain rfl:=Y.blE
   exact .inr ⟨_,rfl,q _ rfl (.int _)⟩
 ·cases e
theorem Xk{j pos'}{a:Expr}{f:FE}(h:DE X fl .P a f):DT X fl (.Compare a [.Is] [.Constant .none j pos'] pos) (bN (dUn Fv f)):=PT.imp (Wk (Wj h)) λσ H Q h=>by
 obtain⟨G,ow,δ,c,R,Y,q⟩:=h
 obtain⟨d,U,e2⟩:=bind1 Y
 obtain⟨x,V,W⟩:=bind1 U
 cases W
 cases e2
 refine⟨G,ow,δ,x,R,V,λv H1 s1 Z=>?_⟩
 refine⟨decide (v = .non),rfl,?_⟩
 rw[Xf (RA.same (Same.refl H1) Z)]
 exact q H1 s1
theorem Dc(ha:DB X fl .P [e] fa)(D:Gl X "int")(hm:X.mg "int"=none)
 (J:starEach [e] X.env=(false,eval e X.env)::starEach [] X.env:=by rfl) (B:(backTo pos (starEach [] X.env)).any (·.1)=false:=by rfl):DE X fl .FC (.Call (.Name "int" p) [e] [] pos) (dCall sV fa):=
 PE.imp (tZ KN D hm boot_int ha (by decide) (by decide) J B) λσ H Q h=>by
 obtain⟨G,ow,δ,d,R,W,q⟩:=h
 obtain⟨ds,V,e2⟩:=bind1 W
 exact⟨G,ow,δ,ds,R,V,λvs H' s r'=>Xj H' vs ds d Q r' e2 λv Y Z=>q v H' s (.inl ⟨Y,Z⟩)⟩
end
end D3
variable{z i1 i2 l1 l2:Addr}{k1 k2:Nat}{ys:Array Value}
namespace D3
open PySem PySem.Spec PyProof.Rows L2 My
section
variable{X:Cx}
theorem FP:∀{bs:List Bool}{its:List Value},Vals (bs.map V.bl) its->its=bs.map Value.bool
 |[],_,.nil=>rfl
 |b::r,_,.cons h t=>by
  cases h
  rw[FP t]
  rfl
theorem all_range(bs:List Bool):(aV bs.length).all (λi=>bs.getD i false)=bs.all id:=by
 rw[nZ,cQ,cQ]
 constructor
 ·intro h b Z
  obtain⟨i,hi,rfl⟩:=f9 Z
  have:=h i (bA.mpr hi)
  rw[aH,aB hi]at this
  exact this
 ·intro h i hi
  have hi:=bA.mp hi
  rw[aH,aB hi]
  exact h _ (cj hi)
theorem FQ(bs:List Bool):TruthOf prog w A (λi v=>(bs.map Value.bool).toArray[i]? = some v) (λi=>bs.getD i false):=by
 intro i v s Q E X W
 have Z:(bs.map Value.bool)[i]? = some v:=by simpa using X
 rw[bw]at Z
 cases e:bs[i]? with
 |none=>rw[e]at Z;cases Z
 |some b=>
  rw[e]at Z
  cases Z
  have V:bs.getD i false=b:=by rw[aH,e];rfl
  have Y:Q (bs.getD i false) s:=W
  rw[V]at Y
  exact ay Y
theorem Lb(B:X.calm=true):lU X (.builtin "all") (λxs H Q=>∃(p:Addr)(bs:List Bool),xs=[.ref p]/\SqL X.K H p (bs.map V.bl)/\Q (.bl (bs.all id)) H):=by
 intro pins s σ H xs us Q I r h
 obtain⟨p,bs,rfl,T,q⟩:=h
 obtain⟨u,rfl,U⟩:=vals1 r
 cases U
 obtain⟨its,Z,pl,R⟩:=I.list T
 obtain rfl:=FP Z
 have W:s.heap.IsList p (bs.map Value.bool).toArray:=pl.isList
 have Y:p<s.heap.objs.size:=by obtain⟨_,e,_⟩:=id W;exact af e
 refine call_all_walk (wpAny_pyIter_list W ?_)
 refine⟨_,_,_,_,_,_,_,rfl,Walks.list (A:=X.A.in1) (I.ok.hd B) _ p (aW Y) (bs.map Value.bool).toArray,⟨⟨_,ag _ rfl,rfl,rfl⟩,W.push _⟩,FQ bs,λh' tk S=>?_⟩
 have e:(bs.map Value.bool).toArray.size=bs.length:=by simp
 rw[e,all_range]
 exact⟨.bl _,H,I.kept (old_kept S),rfl,q⟩
theorem Bu{ok:Ok}:∀{l:List D}{bs:List Bool}{ys:List V},uW l=some bs->RAs K ok pl H ys l->ys=bs.map V.bl
 |[],_,_,e,.nil=>by cases e;rfl
 |d::r,bs,_,e,.cons h t=>by
  cases d<;>first|(cases e;done)|skip
  obtain rfl:=h.blE
  cases e2:uW r with
  |none=>rw[uW,e2]at e;cases e
  |some m=>
   rw[uW,e2]at e
   cases e
   rw[Bu e2 t]
   rfl
theorem ZS:BrC K (λxs H Q=>∃(p:Addr)(bs:List Bool),xs=[.ref p]/\SqL K H p (bs.map V.bl)/\Q (.bl (bs.all id)) H) SQ:=by
 intro H xs ds d Q r e q
 unfold SQ at e
 split at e
 ·next l=>
  cases e2:uW l with
  |none=>rw[e2]at e;cases e
  |some bs=>
   rw[e2]at e
   cases e
   cases r with
   |cons Y Z=>
    cases Z
    obtain⟨a,ys,rfl,X,W⟩:=Y.lstE
    obtain rfl:=Bu e2 W
    exact⟨a,bs,rfl,X,q _ rfl (.bl _)⟩
 ·cases e
end
section
variable{X:Cx}{fl:List Fl}{a:Expr}{f:FE}{pos:Pos}{ta:TE}
end
section
variable{X:Cx}{fl:List Fl}{a b c:Expr}{f fa fb fc:FE}{pos:Pos}
theorem FW{g:D->D->Option D}(ho:OpR X (compareOp op) r)(B:OpR X (compareOp op') r')(hb:BrO X.K r g)(J:BrO X.K r' g')(h1:DE X fl .P a fa)(h2:DE X fl .P b fb)(h3:DE X fl .P c fc)
 (hm:lastMarks [op,op'] [b,c]=false:=by with_unfolding_all rfl):DT X fl (.Compare a [op,op'] [b,c] pos) (bN (lX g g' fa fb fc)):=PT.imp (Ni ho B h1 h2 h3 hm) λσ H Q h=>by
 obtain⟨G,ow,δ,E,R,Z,q⟩:=h
 obtain⟨d,Z,hd⟩:=bind1 Z
 have W:d = .bool E:=by cases d<;>first|(cases hd;rfl)|(cases hd;done)
 subst W
 obtain⟨x,F,Z⟩:=bind1 Z
 obtain⟨y,e2,Z⟩:=bind1 Z
 obtain⟨z,I,Z⟩:=bind1 Z
 refine⟨G,ow,δ,x,R,F,λv H1 s1 O=>⟨G,ow,δ,y,R.grow s1,e2,λu H2 s2 V=>?_⟩⟩
 refine hb H2 v u x y z _ (RA.same s2 O) V I λC N Y=>?_
 split at Z
 ·obtain rfl:=Y.blE
  obtain⟨w,L,M⟩:=bind1 Z
  refine⟨true,rfl,Ag ⟨G,ow,δ,w,R.grow (s1.trans s2),L,λT U s3 S=>?_⟩⟩
  refine J U u T y w _ _ (RA.same s3 V) S M λz N Y=>?_
  obtain rfl:=Y.blE
  exact⟨_,rfl,q U (s1.trans (s2.trans s3))⟩
 ·obtain rfl:=Y.blE
  cases Z
  exact⟨false,rfl,Af ⟨_,rfl,q H2 (s1.trans s2)⟩⟩
 ·cases Z
end
def Itz(K:PySem.W.Frag)(a b:Addr):It:=
 ⟨λi H=>∃xs ys x y,SqL K H a xs/\SqL K H b ys/\xs[i]? = some x/\ys[i]? = some y,
  λi H x H'=>∃p u v,H p=none/\H'=upd H p (.tup [u,v])/\x = .ref p/\(∀xs,SqL K H a xs->xs[i]? = some u)/\∀ys,SqL K H b ys->ys[i]? = some v,
  λi H=>∃xs ys,SqL K H a xs/\SqL K H b ys/\(xs.length<=i\/ys.length<=i)⟩
theorem wH{TI TO:Addr}{f0 a b:Value}{x y:Value}{xs:Array Value}(hz:IsZip h z TI TO f0)(D:IsPair h TI x y)(B:IsPair h TO a b)(h1:h.IsListIter i1 l1 k1)(h2:h.IsListIter i2 l2 k2)(O:h.IsList l1 xs)(J:h.IsList l2 ys)(nT:TI≠TO)(ni:i1≠i2):
 ZipApart z TI TO i1 i2 l1 l2:=by
 obtain⟨U,Z,X,Q⟩:=h1
 obtain⟨V,e2,Y,R⟩:=h2
 obtain⟨p1,g1,k1,S⟩:=O
 obtain⟨p2,g2,k2,T⟩:=J
 have ne:∀{u v:Addr}{o o':Obj},h.get? u=some o->h.get? v=some o'->o.cls≠o'.cls->u≠v:=λe W n z=>by
  subst z
  rw[e]at W
  cases W
  exact n rfl
 exact⟨ne D hz (by simp),ne B hz (by simp),ne Z hz (by rw[X];simp),ne e2 hz (by rw[Y];simp),nT,ne D Z (by rw[X];simp),ne D e2 (by rw[Y];simp),ne B Z (by rw[X];simp),ne B e2 (by rw[Y];simp),ni,
  ne g1 hz (by rw[k1];simp),ne g1 B (by rw[k1];simp),ne g1 Z (by rw[k1,X];simp),ne g1 e2 (by rw[k1,Y];simp),ne g2 hz (by rw[k2];simp),ne g2 B (by rw[k2];simp),ne g2 Z (by rw[k2,X];simp),ne g2 e2 (by rw[k2,Y];simp)⟩
theorem Om{x1}(a b z TI TO i1 i2:Addr)(nT:TI≠TO)(ni:i1≠i2):
 Turn P w K (.Tuple elts x1 tpos) (Itz K a b) [z,TI,TO,i1,i2] z (λi h=>IsZip h z TI TO .none/\IsPair h TI (.ref i1) (.ref i2)/\(∃u v,IsPair h TO u v)/\h.IsListIter i1 a i/\h.IsListIter i2 b i) where
 mem:=by simp
 obj:=λi h st c Z=>by
  obtain⟨V,Y,⟨u,v,W⟩,⟨o1,e1,c1,d1⟩,⟨o2,e2,c2,d2⟩⟩:=st
  simp only[aU,aN,dB,or_false]at Z
  rcases Z with rfl|rfl|rfl|rfl|rfl
  ·exact⟨_,V,λv z=>by cases z⟩
  ·exact⟨_,Y,λv z=>by cases z⟩
  ·exact⟨_,W,λv z=>by cases z⟩
  ·exact⟨o1,e1,λv z=>by rw[d1]at z;cases z⟩
  ·exact⟨o2,e2,λv z=>by rw[d2]at z;cases z⟩
 keep:=λi h h' st k=>by
  obtain⟨V,Y,⟨u,v,W⟩,h1,h2⟩:=st
  exact⟨k _ (by simp) _ V,k _ (by simp) _ Y,⟨u,v,k _ (by simp) _ W⟩,h1.at λo e=>k i1 (by simp) o e,h2.at λo e=>k i2 (by simp) o e⟩
 item:=by
  intro X g hw f Z i pins s σ H E I F st j
  subst g hw f
  obtain⟨xs,ys,x,y,T,U,O,hy⟩:=j
  obtain⟨J,R,M,n⟩:=I.list T
  obtain⟨L,S,N,p⟩:=I.list U
  obtain⟨B,l,t⟩:=R.get O
  obtain⟨C,m,A⟩:=S.get hy
  obtain⟨V,Y,⟨u,v,W⟩,h1,h2⟩:=st
  have D:=wH V Y W h1 h2 M.isList N.isList nT ni
  have r:∀c∈[z,TI,TO,i1,i2],c<s.heap.objs.size:=λc Z=>by
   simp only[aU,aN,dB,or_false]at Z
   rcases Z with rfl|rfl|rfl|rfl|rfl
   ·exact af V
   ·exact af Y
   ·exact af W
   ·obtain⟨o,e,_⟩:=h1;exact af e
   ·obtain⟨o,e,_⟩:=h2;exact af e
  refine wpAny_pyNext_zip_item D V Y W h1 h2 M.isList N.isList (x:=B) (y:=C) (by simpa using l) (by simpa using m) λhh g1 g2 g3 g4 g5 g6 g7=>?_
  refine⟨_,rfl,wpAny_letOwnedTupleGo_zip g1 λG e1 e2=>?_⟩
  replace e2:Heap.SameBut z hh G:=e2
  have hn:H s.heap.objs.size=none:=I.hok.fresh (aL _)
  have I0:Inv X pins σ (upd H s.heap.objs.size (.tup [x,y])) {s with heap:=s.heap.push {cls:=.type "tuple", data:=.seq #[B,C]} }:=
   I.laid (t':=s.toks) (λb o e=>ad _ e) (aL _) ⟨show 2<=sizeLine by decide,[B,C],.cons t (.cons A .nil),⟨_,ag _ rfl,rfl,_,rfl⟩⟩
  have ne:∀c,c∈[z,TI,TO,i1,i2]->c≠s.heap.objs.size:=λc Z=>aW (r c Z)
  have I1:Inv X pins σ (upd H s.heap.objs.size (.tup [x,y])) {s with heap:=G,toks:=s.toks}:=by
   refine Inv.turnedL (s:={s with heap:=s.heap.push {cls:=.type "tuple", data:=.seq #[B,C]} }) (ch:=[z,TI,TO,i1,i2]) I0 (λc o Z e=>?_) λc Z=>⟨by rw[cO (ne c Z)];exact(F c Z).1,(F c Z).2⟩
   have b1:c≠z:=λq=>Z (by simp[q])
   have b2:c≠TO:=λq=>Z (by simp[q])
   have b3:c≠i1:=λq=>Z (by simp[q])
   have b4:c≠i2:=λq=>Z (by simp[q])
   rcases cq e with⟨d,e4⟩|d
   ·subst d e4
    exact(e2.2 _ b1).trans g5
   ·exact(e2.2 _ b1).trans (g7 c o b1 b2 b3 b4 d)
  refine⟨.ref s.heap.objs.size,_,I1,rfl,⟨_,x,y,hn,rfl,rfl,λzs Q=>by rw[I.list_inj Q T];exact O,λzs Q=>by rw[I.list_inj Q U];exact hy⟩,⟨e1,(e2.2 _ D.TIz).trans (g7 _ _ D.TIz D.TITO D.TIi1 D.TIi2 Y),⟨_,_,(e2.2 _ D.TOz).trans g2⟩,g3.at λo e=>(e2.2 _ D.i1z).trans e,g4.at λo e=>(e2.2 _ D.i2z).trans e⟩,λc Z=>?_⟩
  rw[cO (ne c Z)]
  exact(F c Z).1
 done:=by
  intro X g hw f Z i pins s σ H E I F st j
  subst g hw f
  obtain⟨xs,ys,T,U,O⟩:=j
  obtain⟨J,R,M,n⟩:=I.list T
  obtain⟨L,S,N,p⟩:=I.list U
  obtain⟨V,Y,⟨u,v,W⟩,h1,h2⟩:=st
  have D:=wH V Y W h1 h2 M.isList N.isList nT ni
  have la:=R.length
  have lb:=S.length
  refine wpAny_pyNext_zip_end (I.ok.hd Z) D V Y W h1 h2 M.isList N.isList ?_ λh' eb=>⟨rfl,Inv.turnedL (t':=s.toks) (ch:=[z,TI,TO,i1,i2]) I (λc o Z e=>eb c o (λq=>Z (by simp[q])) (λq=>Z (by simp[q])) (λq=>Z (by simp[q])) (λq=>Z (by simp[q])) e) F⟩
  rcases O with O|O
  ·exact .inl (by simp;omega)
  ·exact .inr (by simp;omega)
 self:=λ_ _ _ _ _ st h=>dS st.1 h
section
variable{X:Cx}{fl:List Fl}{a b:Expr}{f g:FE}{pos:Pos}
def ah0(K:PySem.W.Frag)(ta tb:TE):TI:=λσ H R=>ta σ H λx H1=>tb σ H1 λy H2=>∃p q,x = .ref p/\y = .ref q/\(∃xs,SqL K H2 p xs)/\(∃ys,SqL K H2 q ys)/\R (Itz K p q) H2
theorem boot_zip:bootBuiltins "zip"=some (.type "zip"):=by decide +kernel
theorem Xl{x1}{ta tb:TE}(hg:Gl X "zip")(hm:X.mg "zip"=none)(ha:PE X a ta)(B:PE X b tb)(O:starEach [a,b] X.env=(false,eval a X.env)::starEach [b] X.env:=by rfl)(J:starEach [b] X.env=(false,eval b X.env)::starEach [] X.env:=by rfl)
 (D:(backTo pos (starEach [b] X.env)).any (·.1)=false:=by rfl):PI X (.Tuple elts x1 tpos) (.Call (.Name "zip" p) [a,b] [] pos) (ah0 X.K ta tb):=by
 intro pins s σ H R I h
 refine ax (lR I hg hm boot_zip (PyProof.Rows.callWith_type1 (thn ((jy ha (jy B n8 J) O) pos pins s σ H (λvs H1=>match vs with|[x,y]=>∃p q,x = .ref p/\y = .ref q/\(∃xs,SqL X.K H1 p xs)/\(∃ys,SqL X.K H1 q ys)/\R (Itz X.K p q) H1|_=>False) I h) λus s1 ⟨vs,H1,Y,Q,q1⟩=>?_) O D))
 cases Q with
 |nil=>exact q1.elim
 |cons r S=>
  cases S with
  |nil=>exact q1.elim
  |cons r' W=>
  cases W with
  |cons _ _=>exact q1.elim
  |nil=>
  obtain⟨l,m,e,F,⟨xs,N⟩,⟨ys,V⟩,q⟩:=q1
  subst e F
  cases r
  cases r'
  obtain⟨its,C,pl,A⟩:=Y.list N
  obtain⟨U,T,pl',P⟩:=Y.list V
  refine call_zip_2 pl.isList pl'.isList λh' g1 g2 g3 G L z M=>?_
  have E:Inv X pins σ H1 {s1 with heap:=h'}:=Y.kept (t':=s1.toks) M
  refine dS (s:={s1 with heap:=h'}) g1 ?_
  refine⟨s1.heap.objs.size+4,[s1.heap.objs.size+4,s1.heap.objs.size+2,s1.heap.objs.size+3,s1.heap.objs.size,s1.heap.objs.size+1],_,_,H1,rfl,E,Om l m (s1.heap.objs.size+4) (s1.heap.objs.size+2) (s1.heap.objs.size+3) s1.heap.objs.size (s1.heap.objs.size+1) (aW (fP _)) (aW (fP _)),⟨g1,g2,⟨_,_,g3⟩,G,L⟩,λb B=>?_,q⟩
  have Z:s1.heap.objs.size<=b:=by
   simp only[aU,aN,dB,or_false]at B
   rcases B with rfl|rfl|rfl|rfl|rfl<;>omega
  exact Y.fpOk Z (Y.hok.fresh Z)
theorem yU:∀(l m:List D)(i:Nat),(lY l m)[i]? = (l[i]?).bind λx=>(m[i]?).map λy=>PyData.tuple [x,y]
 |[],_,i=>by simp[lY]
 |_::_,[],i=>by cases i<;>simp[lY]
 |x::l,y::m,0=>by simp[lY]
 |x::l,y::m,i+1=>by simp[lY,yU l m i]
theorem tL:∀(l m:List D),(lY l m).length=min l.length m.length
 |[],_=>by simp[lY]
 |_::_,[]=>by simp[lY]
 |x::l,y::m=>by simp[lY,tL l m]
theorem RsB.same(e:Same H H')(h:Rs K G.H0 ow Hb H (.B L) v d):Rs K G.H0 ow Hb H' (.B L) v d:=by
 rcases h with h|⟨i,hi,a,xs,ds,h1,h2,X,Y,Z⟩
 ·exact .inl (RA.same e h)
 ·exact .inr ⟨i,hi,a,xs,ds,h1,h2,X,e _ _ Y,Z.same e⟩
theorem Xm{x1}{L1 L2:List Nat}(ha:DE X fl (.B L1) a f)(hb:DE X fl (.B L2) b g)(hg:Gl X "zip")(hm:X.mg "zip"=none)(hL:L=L1++L2:=by rfl)
 (he:starEach [a,b] X.env=(false,eval a X.env)::starEach [b] X.env:=by rfl) (J:starEach [b] X.env=(false,eval b X.env)::starEach [] X.env:=by rfl)
 (D:(backTo pos (starEach [b] X.env)).any (·.1)=false:=by rfl):DI X fl L (.Tuple elts x1 tpos) (.Call (.Name "zip" p) [a,b] [] pos) (SX f g):=PI.imp (Xl hg hm ha hb he J D) λσ H R' h=>by
 subst hL
 obtain⟨G,ow,δ,l,R,W,q⟩:=h
 obtain⟨d,e1,W⟩:=bind1 W
 obtain⟨E,e2,W⟩:=bind1 W
 obtain⟨P,rfl⟩:∃P,d = .list P:=by cases d<;>first|exact⟨_,rfl⟩|(cases W;done)
 obtain⟨Q,rfl⟩:∃Q,E = .list Q:=by cases E<;>first|exact⟨_,rfl⟩|(cases W;done)
 cases W
 refine⟨G,ow,δ,_,R,e1,λv H1 s1 m=>⟨G,ow,δ,_,R.grow s1,e2,λv' H2 s2 n=>?_⟩⟩
 have S:=RsB.same s2 m
 obtain⟨j,xs,rfl,hx,Y⟩:=wF ((R.grow s1).grow s2) S
 obtain⟨k,ys,rfl,c,Z⟩:=wF ((R.grow s1).grow s2) n
 refine⟨j,k,rfl,rfl,⟨xs,hx⟩,⟨ys,c⟩,q _ _ (s1.trans s2) λt F i=>?_⟩
 obtain⟨I,A⟩:=Y t λb o e z=>F b o e λi w=>cB _ (z i w)
 obtain⟨K,C⟩:=Z t λb o e z=>F b o e λi w=>bI _ (z i w)
 refine⟨λd hd=>?_,λhl=>⟨xs,ys,I,K,?_⟩⟩
 ·rw[yU]at hd
  cases T:P[i]? with
  |none=>rw[T]at hd;cases hd
  |some x0=>
   cases M:Q[i]? with
   |none=>rw[T,M]at hd;cases hd
   |some y0=>
    rw[T,M]at hd
    cases hd
    obtain⟨x,U,r⟩:=A.get T
    obtain⟨y,V,s⟩:=C.get M
    refine⟨⟨xs,ys,x,y,I,K,U,V⟩,λz H4 O=>?_⟩
    obtain⟨p',u,v,hp,rfl,rfl,hu,hv⟩:=O
    have eu:some x=some u:=U.symm.trans (hu xs I)
    have ev:some y=some v:=V.symm.trans (hv ys K)
    cases eu
    cases ev
    have N:=cY hp (.tup [x,y])
    exact⟨N,.tup cU (.cons (r.same N) (.cons (s.same N) .nil))⟩
 ·rw[tL]at hl
  rw[A.length,C.length]
  omega
end
end D3
namespace D3
open PySem PySem.Spec PyProof.Rows L2 My
section
variable{X:Cx}{fl:List Fl}{e a b c:Expr}{es rest:List Expr}{k:Kd}{f fa fb fc:FE}{ft gt:FT}{pos:Pos}
theorem Jy:DE X fl .T (.Dict [] [] pos) (dC (.dict [])):=PE.imp Nv λσ H Q h=>by
 obtain⟨G,ow,δ,d,R,W,q⟩:=h
 cases W
 intro p Z
 exact q _ _ (cY Z _) ⟨[p],.dic cU (.inl ⟨rfl,rfl⟩),eO.mpr ⟨dB,.nil⟩,λx Y=>by rw[aN.mp Y];exact Z⟩
theorem Tr(i:Nat)(hn:isN fl[i]? = true){x:Str}(J:X.N[i]? = some x:=by rfl)(D:Vis X.env.scope x:=by first|exact Or.inl rfl|exact Or.inr (Or.inl rfl)|exact Or.inr (Or.inr rfl))(hd:(x==("__debug__":Str))=false:=by decide)
 (B:(x==("__classdict__":Str))=false:=by decide):DE X fl .P (.Name x pos) (ao i):=by
 refine PE.imp (rE J D hd B) λσ H Q h=>?_
 obtain⟨G,ow,δ,d,R,Z,q⟩:=h
 obtain⟨v,h1,h2,_⟩:=R.nr i d hn (m_ Z)
 exact⟨v,h1,q v H (Same.refl H) (h2.ra λ_ _=>trivial)⟩
theorem Oo(i:Nat)(hn:isN fl[i]? = true){x:Str}(J:X.N[i]? = some x:=by rfl)(D:Vis X.env.scope x:=by first|exact Or.inl rfl|exact Or.inr (Or.inl rfl)|exact Or.inr (Or.inr rfl))(hd:(x==("__debug__":Str))=false:=by decide)
 (B:(x==("__classdict__":Str))=false:=by decide):DE X fl .R (.Name x pos) (ao i):=by
 refine PE.imp (rE J D hd B) λσ H Q h=>?_
 obtain⟨G,ow,δ,d,R,Z,q⟩:=h
 obtain⟨v,h1,h2,_⟩:=R.nr i d hn (m_ Z)
 exact⟨v,h1,q v H (Same.refl H) (h2.ra λa ha=>(R.nt i a ha).1)⟩
end
section
variable{K:PySem.W.Frag}{fl:List Fl}
def owN(ow:Ow)(i:Nat)(as:List Addr):Ow:=⟨ow.s,λj=>if j=i then as else ow.n j⟩
theorem mZ:(owN ow i as).n i=as:=if_pos rfl
theorem lC(h:j≠i):(owN ow i as).n j=ow.n j:=if_neg h
theorem Rel.setN{σ:St}(R:Rel K fl G ow σ H δ)(s:Same H H')(B:fl[i]? = some .N)(hi:i<σ.length)(r:Rs K G.H0 ow H H' .T v d):
 ∃J,Rel K fl G J (σ.set i (some v)) H' (δ.set i (some (.d d))):=by
 have R':=R.grow s
 obtain⟨as,h1,h2,W⟩:=r
 have O:∀a,ow i≠some a:=λa z=>by
  obtain⟨_,P,_⟩:=R.own i a z
  rw[B]at P
  rcases P with⟨z,_⟩|⟨z,_⟩<;>cases z
 have sub:∀b,okA ow b/\H b≠none->okA (owN ow i as) b:=λb z=>⟨z.1.1,λj e=>by
  by_cases Z:j=i
  ·subst Z
   rw[mZ]at e
   exact z.2 (W b e)
  ·rw[lC Z]at e
   exact z.1.2 j e⟩
 have old:∀{v:V}{d:D},RA K (okA ow) true H v d->RA K (okA (owN ow i as)) true H' v d:=λr=>(r.track.imp sub (λz=>z)).same s
 have olds:∀{v:List V}{d:List D},RAs K (okA ow) true H v d->RAs K (okA (owN ow i as)) true H' v d:=λr=>(r.track.imp sub (λz=>z)).same s
 refine⟨owN ow i as,R'.s0,R'.s1,by rw[cH,cH];exact R.len,λj a h=>?_,R.inj,R.pin,λj S g1 X g2=>?_,λj S g1 X g2 g3=>?_,λj a h=>?_,λj j' a h h'=>?_,λj j' a h=>?_,λj h=>?_,λj S X g1=>?_⟩
 ·have Z:j≠i:=λz=>O a (z▸h)
  obtain⟨L,M,xs,ds,g1,g2,g3,U⟩:=R.own j a h
  exact⟨L,M,xs,ds,by rw[bJ (Ne.symm Z)];exact g1,s _ _ g2,olds g3,by rw[bJ (Ne.symm Z)];exact U⟩
 ·rcases iV g1 with⟨rfl,e⟩|⟨Z,e⟩
  ·rw[B]at X;cases X
  ·obtain⟨Q,g3,U⟩:=R.dat j S e X g2
   exact⟨Q,by rw[bJ (Ne.symm Z)];exact g3,old U⟩
 ·rcases iV g1 with⟨rfl,e⟩|⟨Z,e⟩
  ·rw[B]at X;cases X
  ·exact R.oo j S e X g2 g3
 ·by_cases Z:j=i
  ·subst Z
   rw[mZ]at h
   exact⟨R.same0.free (W a h),h1.chd a h,.inl ⟨B,R.s1.free (W a h)⟩⟩
  ·rw[lC Z]at h
   exact R'.nt j a h
 ·by_cases Z:j=i
  ·by_cases Y:j'=i
   ·rw[Z,Y]
   ·subst Z
    rw[mZ]at h
    rw[lC Y]at h'
    exact absurd (W a h) (R.nt j' a h').2.1.ne
  ·rw[lC Z]at h
   by_cases Y:j'=i
   ·subst Y
    rw[mZ]at h'
    exact absurd (W a h') (R.nt j a h).2.1.ne
   ·rw[lC Y]at h'
    exact R.nd j j' a h h'
 ·by_cases Z:j=i
  ·subst Z
   rw[mZ]at h
   exact λz=>by
    obtain⟨_,_,_,_,_,g2,_⟩:=R.own j' a z
    rw[W a h]at g2
    cases g2
  ·rw[lC Z]at h
   exact R.ns j j' a h
 ·have Z:j≠i:=λz=>by subst z;rw[B]at h;cases h
  rw[lC Z]
  exact R.np j h
 ·rcases iV g1 with⟨rfl,e⟩|⟨Z,e⟩
  ·cases e
   exact⟨v,by rw[dD hi],by rw[mZ];exact h1,by rw[mZ];exact h2⟩
  ·obtain⟨Q,g3,U⟩:=R'.nr j S X e
   exact⟨Q,by rw[bJ (Ne.symm Z)];exact g3,by rw[lC Z];exact U⟩
theorem Rel.mutN{σ:St}{J:HO}[cu:Chg u][cu':Chg J]{d:D}{v:V}{as:List Addr}(R:Rel K fl G ow σ H δ)(B:fl[i]? = some .N)(hi:i<δ.length)(ha:a∈ow.n i)(hx:H a=some u)(hv:σ[i]? = some (some v))
 (hr:RT K (upd H a J) v d as) (hs:∀b∈as,b∈ow.n i) (hd:as.Nodup):∃O,Rel K fl G O σ (upd H a J) (δ.set i (some (.d d))):=by
 have na:¬okA ow a:=λz=>z.2 i ha
 have M:G.HF a=none:=by
  rcases(R.nt i a ha).2.2 with⟨_,z⟩|z
  ·exact z
  ·rw[B]at z;cases z
 have Q:∀a,ow i≠some a:=λa z=>by
  obtain⟨_,S,_⟩:=R.own i a z
  rw[B]at S
  rcases S with⟨z,_⟩|⟨z,_⟩<;>cases z
 have sub:∀b,okA ow b->okA (owN ow i as) b:=λb z=>⟨z.1,λj e=>by
  by_cases Z:j=i
  ·subst Z
   rw[mZ]at e
   exact z.2 j (hs b e)
  ·rw[lC Z]at e
   exact z.2 j e⟩
 have tr:∀b,Chd (H b)->Chd (upd H a J b):=λb z=>by
  by_cases X:b=a
  ·rw[X,cU];exact⟨_,rfl,cu'⟩
  ·rw[cO X];exact z
 refine⟨owN ow i as,R.s0,λb o X=>?_,by rw[cH];exact R.len,λj b h=>?_,R.inj,R.pin,λj U g1 Y g2=>?_,λj U g1 Y g2 g3=>?_,λj b h=>?_,λj j' b h h'=>?_,λj j' b h=>?_,λj h=>?_,λj U Y g1=>?_⟩
 ·rw[cO (λz=>by subst z;rw[M]at X;cases X)]
  exact R.s1 b o X
 ·have Z:j≠i:=λz=>Q b (z▸h)
  obtain⟨L,P,zs,ds,g1,g2,g3,W⟩:=R.own j b h
  have X:b≠a:=λz=>R.ns i j a ha (z▸h)
  exact⟨L,P,zs,ds,g1,by rw[cO X];exact g2,(g3.upd hx na).imp sub (λz=>z),by rw[bJ (Ne.symm Z)];exact W⟩
 ·rcases iV g1 with⟨rfl,e⟩|⟨Z,e⟩
  ·rw[B]at Y;cases Y
  ·obtain⟨T,g3,W⟩:=R.dat j U e Y g2
   exact⟨T,g3,(W.upd hx na).imp sub (λz=>z)⟩
 ·rcases iV g1 with⟨rfl,e⟩|⟨Z,e⟩
  ·rw[B]at Y;cases Y
  ·exact R.oo j U e Y g2 g3
 ·by_cases Z:j=i
  ·subst Z
   rw[mZ]at h
   obtain⟨g1,g2,g3⟩:=R.nt j b (hs b h)
   exact⟨g1,tr b g2,g3⟩
  ·rw[lC Z]at h
   obtain⟨g1,g2,g3⟩:=R.nt j b h
   exact⟨g1,tr b g2,g3⟩
 ·have old:∀j b,b∈(owN ow i as).n j->b∈ow.n j:=λj b h=>by
   by_cases Z:j=i
   ·subst Z;rw[mZ]at h;exact hs b h
   ·rw[lC Z]at h;exact h
  exact R.nd j j' b (old j b h) (old j' b h')
 ·by_cases Z:j=i
  ·subst Z;rw[mZ]at h;exact R.ns j j' b (hs b h)
  ·rw[lC Z]at h;exact R.ns j j' b h
 ·have Z:j≠i:=λz=>by subst z;rw[B]at h;cases h
  rw[lC Z]
  exact R.np j h
 ·rcases iV g1 with⟨rfl,e⟩|⟨Z,e⟩
  ·cases e
   exact⟨v,hv,by rw[mZ];exact hr,by rw[mZ];exact hd⟩
  ·obtain⟨T,g3,W,I⟩:=R.nr j U Y e
   exact⟨T,g3,by rw[lC Z];exact W.upd hx (λz=>Z (R.nd j i a z ha)),by rw[lC Z];exact I⟩
end
section
variable{K:PySem.W.Frag}{H:Hp}
end
section
variable{X:Cx}{fl:List Fl}{e ke:Expr}{f fk:FE}{pos:Pos}
theorem Jz(D:fl[i]? = some .N)(O:X.N.Nodup)(hi:X.N[i]? = some x)(J:X.env.scope.names.lookup x=some .local\/X.env.scope.names.lookup x=some .cell)(h:DE X fl .T e f)
 (hs:swapsWith e (some (.Name x pos')) pos.line X.env=pure false:=by rfl) (B:X.fn x=true\/X.env.scope.names.lookup x=some .local:=by first|exact .inl rfl|exact .inr rfl) :
 DS1 X fl (.Assign [.Name x pos'] e pos) (bU i f):=PS.imp (Hv (i:=i) O hi J h hs B) λDn σ H h=>by
 obtain⟨G,ow,δ,o,R,Z,q⟩:=h
 unfold bU at Z
 by_cases W:i<δ.length
 ·rw[if_pos W]at Z
  obtain⟨d,V,e2⟩:=bind1 Z
  cases e2
  refine⟨G,ow,δ,d,R,V,λv H' s r=>?_⟩
  obtain⟨Y,R'⟩:=R.setN s D (vJ R W) r
  exact q Y _ H' R'
 ·rw[if_neg W]at Z
  cases Z
end
end D3
variable{fe:D3.FE}
namespace D3
open PySem
def yV:List D->Option D
 |[.int hi]=>if(-(2^62)<=hi/\hi<2^62)/\(hi-0).toNat<=1000000 then some (.list (gJ 0 hi))else none
 |_=>none
theorem Tt{hi:Int}(h:0<=hi)(h':hi<=1000000):yV [.int hi]=some (.list (gJ 0 hi)):=by
 show(if(-(2^62)<=hi/\hi<2^62)/\(hi-0).toNat<=1000000 then some (PyData.list (gJ 0 hi))else none)=_
 rw[if_pos ⟨⟨by omega,by omega⟩,by omega⟩]
noncomputable def Vz:D->Option (List D)
 | .list l=>some l
 | .tuple l=>some l
 |_=>none
def qSq(x:Option D):Option (List D):=x.bind Vz
def wI(f:FE):FA:=λδ=>(f δ).bind Vz
theorem Xn{f:FE}:wI f δ=qSq (f δ):=rfl
theorem Xo:qSq (some (.tuple l))=some l:=rfl
def pN:D->Option D
 | .list l=>some (.tuple l)
 | .tuple l=>some (.tuple l)
 |_=>none
theorem yW:pN (.list l)=some (.tuple l):=rfl
noncomputable def tM:D->D->Option D:=λx y=>match y with
 | .list l=>if(SeqAt.shaped x&&SeqAt.shaped (.list l))=true then some (.bool (!l.any λz=>PyData.eqv z x))else none
 | .tuple l=>if(SeqAt.shaped x&&SeqAt.shaped (.tuple l))=true then some (.bool (!l.any λz=>PyData.eqv z x))else none
 |_=>none
def qRL(a:Option D):Option Oc:=match a with
 |some d=>some (.ex "" "" d)
 |none=>none
def tO(fe:FE):FS:=λδ=>(fe δ).bind λd=>some (.ex "" "" d)
theorem Xp:tO fe δ=qRL (fe δ):=by
 unfold tO qRL
 cases fe δ<;>rfl
theorem Oq:qRL (some d)=some (.ex "" "" d):=rfl
noncomputable def Tv(o:Option Oc):Option D:=match o with
 |some (.rt d)=>some d
 |some (.ex _ _ d)=>some d
 |some (.nx _)=>some .none
 |_=>none
def fnL(p q:Nat)(b:FS):List D->Option D:=λds=>if ds.length=p then Tv (b (ds.map (λd=>some (.d d))++aQ q none))else none
theorem VB{p q:Nat}{b:FS}:fnL p q b ds=if ds.length=p then Tv (b (ds.map (λd=>some (.d d))++aQ q none))else none:=rfl
theorem Ot{c f:Str}:Tv (some (.ex c f d))=some d:=rfl
end D3
namespace D3
open PySem PySem.Spec PyProof.Rows L2 My
section
variable{X:Cx}
end
section
variable{X:Cx}{fl:List Fl}{e ke:Expr}{f fk:FE}{pos:Pos}
theorem RAs.erase{ok:Ok}{v:List V}{d:List D}(n:Nat)(r:RAs K ok pl H v d):RAs K ok pl H (v.eraseIdx n) (d.eraseIdx n):=by
 rw[mJ,mJ]
 exact(r.take n).append (r.drop (n+1))
end
section
variable{X:Cx}{fl:List Fl}{a:Expr}{pos p p2 pos2:Pos}{fa:FA}
end
end D3
namespace D3
open PySem PySem.Spec PyProof.Rows L2 My
section
variable{X:Cx}{pins:List (Addr×Obj)}{σ:L2.St}{H:Hp}{s:Shared}
end
section
variable{X:Cx}{K:PySem.W.Frag}
end
section
variable{X:Cx}{fl:List Fl}{es:List Expr}{pos:Pos}
end
section
variable{X:Cx}{fl:List Fl}{e:Expr}{f:FE}
theorem ZV{l:Expr}{D B:TI}(h1:PI X tg l D)(h2:PI X tg l B):PI X tg l (λσ H R=>D σ H R\/B σ H R):=λpins s σ H R I h=>by
 rcases h with h|h
 ·exact h1 pins s σ H R I h
 ·exact h2 pins s σ H R I h
theorem Ou{σ:St}(R:Rel K fl G ow σ H δ)(r:Rs K G.H0 ow Hb H (.B L) v (.tuple l)):∃a xs,v = .ref a/\SqT K H a xs /\
 ∀H2:Hp,(∀b o,H b=some o->(∀i,ow i=some b->i∈L)->(∀i,b∉ow.n i)->H2 b=some o)->SqT K H2 a xs/\RAs K (λb=>okA ow b/\H b≠none) true H2 xs l:=by
 rcases r with r|⟨i,hi,a,xs,ds,W,rfl,e,Y,X⟩
 ·cases r with
  |tup e q=>
   refine⟨_,_,rfl,e.sq,λH2 Z=>⟨?_,RAs.keep Z R.ownL R.ownC (λb z=>z.1) q.track⟩⟩
   exact .inl (.inl (Z _ _ e (nm R.ownL e (by intro xs z;cases z)) (nm2 R.ownC e Chg.tup)))
 ·cases e
theorem yX(h:DE X fl (.B L) e f):DI X fl L tg e (wI f):=PI.imp (ZV (Ji h) (Wy h)) λσ H R' h=>by
 obtain⟨G,ow,δ,l,R,N,q⟩:=h
 obtain⟨d,P,e2⟩:=bind1 N
 cases d with
 |list O=>
  cases e2
  refine .inl ⟨G,ow,δ,_,R,P,λv H1 s r=>?_⟩
  obtain⟨a,xs,rfl,S,keep⟩:=wF (R.grow s) r
  refine⟨a,rfl,⟨xs,S⟩,q _ _ s λH2 k2 i=>?_⟩
  obtain⟨Z,W⟩:=keep H2 k2
  refine⟨λd hd=>?_,λQ=>⟨xs,Z,by rw[W.length];exact Q⟩⟩
  obtain⟨y,V,U⟩:=W.get hd
  refine⟨⟨xs,y,Z,V⟩,λx M Y=>?_⟩
  obtain⟨e,T⟩:=Y
  subst e
  have:some y=some x:=V.symm.trans (T xs Z)
  cases this
  exact⟨Same.refl _,U⟩
 |tuple O=>
  cases e2
  refine .inr ⟨G,ow,δ,_,R,P,λv H1 s r=>?_⟩
  obtain⟨a,xs,rfl,S,keep⟩:=Ou (R.grow s) r
  refine⟨a,rfl,⟨xs,S⟩,q _ _ s λH2 k2 i=>?_⟩
  obtain⟨Z,W⟩:=keep H2 k2
  refine⟨λd hd=>?_,λQ=>⟨xs,Z,by rw[W.length];exact Q⟩⟩
  obtain⟨y,V,U⟩:=W.get hd
  refine⟨⟨xs,y,Z,V⟩,λx M Y=>?_⟩
  obtain⟨e,T⟩:=Y
  subst e
  have:some y=some x:=V.symm.trans (T xs Z)
  cases this
  exact⟨Same.refl _,U⟩
 |none=>cases e2
 |bool _=>cases e2
 |int _=>cases e2
 |str _=>cases e2
 |dict _=>cases e2
end
section
variable{X:Cx}{fl:List Fl}{a:Expr}{f:FE}{pos p:Pos}
theorem Dh(h:DE X fl (.B L) a f)(O:Gl X "tuple")(hm:X.mg "tuple"=none)
 (J:starEach [a] X.env=(false,eval a X.env)::starEach [] X.env:=by exact oO rfl) (D:(backTo pos (starEach [] X.env)).any (·.1)=false:=by rfl):DE X fl .A (.Call (.Name "tuple" p) [a] [] pos) (dUn pN f):=
 PE.imp (tZ uI O hm boot_tuple (jy h n8 J) (by decide) (by decide) J D) λσ H Q h=>by
 obtain⟨G,ow,δ,d,R,U,q⟩:=h
 obtain⟨x,T,e2⟩:=bind1 U
 refine⟨G,ow,δ,x,R,T,λv H1 s1 Y=>?_⟩
 unfold pN at e2
 split at e2
 ·cases e2
  obtain⟨p,xs,rfl,Z,W⟩:=tG Y
  exact⟨p,xs,rfl,.inl ⟨Z,λpn V=>q _ _ (s1.trans (cY V _)) (.tup cU (W.same (cY V _)))⟩⟩
 ·cases e2
  rcases Y with Y|⟨i,hi,a,xs,ds,S,rfl,e,Z,W⟩
  ·obtain⟨p,xs,rfl,Z,W⟩:=Y.tupE0
   exact⟨p,xs,rfl,.inr ⟨Z.sq,q _ _ s1 (.tup Z W)⟩⟩
  ·cases e
 ·cases e2
theorem Tw(h:DE X fl .C a f)(J:Gl X "tuple")(hm:X.mg "tuple"=none)
 (D:starEach [a] X.env=(false,eval a X.env)::starEach [] X.env:=by exact oO rfl) (B:(backTo pos (starEach [] X.env)).any (·.1)=false:=by rfl):DE X fl .C (.Call (.Name "tuple" p) [a] [] pos) (dUn pN f):=
 PE.imp (tZ uI J hm boot_tuple (jy h n8 D) (by decide) (by decide) D B) λσ H Q h=>by
 obtain⟨G,ow,δ,d,R,U,q⟩:=h
 obtain⟨x,T,e2⟩:=bind1 U
 refine⟨G,ow,δ,x,R,T,λv H1 s1 W=>?_⟩
 unfold pN at e2
 split at e2
 ·cases e2
  obtain⟨p,xs,rfl,Z,Y⟩:=RA.lstE W
  exact⟨p,xs,rfl,.inl ⟨Z,λpn V=>q _ _ (s1.trans (cY V _)) (.tup cU (Y.same (cY V _)))⟩⟩
 ·cases e2
  obtain⟨p,xs,rfl,Z,Y⟩:=RA.tupE0 W
  exact⟨p,xs,rfl,.inr ⟨Z.sq,q _ _ s1 (.tup Z Y)⟩⟩
 ·cases e2
end
section
variable{X:Cx}{fl:List Fl}{a b:Expr}{fa fb:FE}{pos:Pos}
end
end D3
namespace D3
open PySem PySem.Spec PyProof.Rows L2 My
section
variable{X:Cx}{K:PySem.W.Frag}
noncomputable def JB(K:PySem.W.Frag):R2:=λx y H Q=>∃Z l,RdV K H x Z/\((RdV K H y (.list l)/\SeqAt.shaped (.list l)=true)\/(RdV K H y (.tuple l)/\SeqAt.shaped (.tuple l)=true))/\SeqAt.shaped Z=true/\Q (.bl (!l.any λz=>PyData.eqv z Z)) H
theorem JC(B:A.units+64<cLine)(h:PyData.depthAll l+1<=64):A.units+1+min (PyData.depthAll l) d.depth<cLine:=by
 have:=Nat.min_le_left (PyData.depthAll l) d.depth
 omega
theorem xq(h:SeqAt.shaped (.list l)=true):PyData.canLayAll0 l=true/\PyData.depthAll l+1<=64:=by
 unfold SeqAt.shaped at h
 rw[bf]at h
 refine⟨by simpa[PyData.canLay0]using h.1,?_⟩
 have:=of_decide_eq_true h.2
 simpa[PyData.depth]using this
theorem vM(h:SeqAt.shaped (.tuple l)=true):PyData.canLayAll0 l=true/\PyData.depthAll l+1<=64:=by
 unfold SeqAt.shaped at h
 rw[bf]at h
 refine⟨by simpa[PyData.canLay0]using h.1,?_⟩
 have:=of_decide_eq_true h.2
 simpa[PyData.depth]using this
theorem Ld(B:X.A.units+64<cLine):OpR X (compareOp .NotIn) (JB X.K):=by
 intro pins s σ H x y v u Q I T U h
 obtain⟨S,l,ha,Y,sa,q⟩:=h
 obtain⟨as,V⟩:=ha.reads I T
 rcases Y with⟨Y,Z⟩|⟨Y,Z⟩
 ·obtain⟨bs,W⟩:=Y.reads I U
  exact SeqAt.notIn_list_reads W V (xq Z).1 (aw sa) (JC B (xq Z).2) ⟨.bl _,H,I,rfl,q⟩
 ·obtain⟨bs,W⟩:=Y.reads I U
  exact SeqAt.notIn_tuple_reads W V (vM Z).1 (aw sa) (JC B (vM Z).2) ⟨.bl _,H,I,rfl,q⟩
theorem Tz:BrO K (JB K) tM:=by
 intro H x y dx X d Q Y Z e q
 cases X with
 |list l=>
  by_cases z:(SeqAt.shaped dx&&SeqAt.shaped (.list l))=true
  ·have e:(if(SeqAt.shaped dx&&SeqAt.shaped (.list l))=true then some (PyData.bool (!l.any λz=>PyData.eqv z dx))else none)=some d:=e
   rw[if_pos z]at e
   cases e
   rw[bf]at z
   exact⟨dx,l,Y.rd (aw z.1),.inl ⟨Z.rd (aw z.2),z.2⟩,z.1,q _ rfl (.bl _)⟩
  ·have e:(if(SeqAt.shaped dx&&SeqAt.shaped (.list l))=true then some (PyData.bool (!l.any λz=>PyData.eqv z dx))else none)=some d:=e
   rw[if_neg z]at e
   cases e
 |tuple l=>
  by_cases z:(SeqAt.shaped dx&&SeqAt.shaped (.tuple l))=true
  ·have e:(if(SeqAt.shaped dx&&SeqAt.shaped (.tuple l))=true then some (PyData.bool (!l.any λz=>PyData.eqv z dx))else none)=some d:=e
   rw[if_pos z]at e
   cases e
   rw[bf]at z
   exact⟨dx,l,Y.rd (aw z.1),.inr ⟨Z.rd (aw z.2),z.2⟩,z.1,q _ rfl (.bl _)⟩
  ·have e:(if(SeqAt.shaped dx&&SeqAt.shaped (.tuple l))=true then some (PyData.bool (!l.any λz=>PyData.eqv z dx))else none)=some d:=e
   rw[if_neg z]at e
   cases e
 |_=>cases e
end
noncomputable def Itv(K:PySem.W.Frag)(a:Addr)(n:Nat):It:=
 ⟨λi H=>i<n/\∃xs x,SqL K H a xs/\xs.length=n/\xs[n-1-i]? = some x,λi H x H'=>H'=H/\∀xs,SqL K H a xs->xs[n-1-i]? = some x,λi _=>n<=i⟩
theorem Ov(a it:Addr)(n:Nat):Turn P w K tg (Itv K a n) [it] it (λi h=>i<=n/\h.IsRevIter it a ((n:Int)-1-(i:Int))) where
 mem:=by simp
 obj:=λi h st b Y=>by
  have e:b=it:=by simpa using Y
  subst e
  obtain⟨_,o,e,c,d⟩:=st
  exact⟨o,e,λv z=>by rw[d]at z;cases z⟩
 keep:=λi h h' st k=>⟨st.1,st.2.at λo e=>k it (by simp) o e⟩
 item:=by
  intro X U hw T M i pins s σ H E I V st W
  subst U hw T
  obtain⟨hi,xs,x,N,hn,O⟩:=W
  obtain⟨its,G,p,y⟩:=I.list N
  obtain⟨u,C,F⟩:=G.get O
  obtain⟨Q,f1,f2,f3,R,S⟩:=V it (by simp)
  have Z:=st.2
  rw[show(n:Int)-1-(i:Int)=((n-1-i:Nat):Int)by omega]at Z
  refine wpAny_pyNext_rev_item Z p.isList (x:=u) (by simpa using C) λh' st' J=>?_
  rw[show((n-1-i:Nat):Int)-1=(n:Int)-1-((i+1:Nat):Int)by omega]at st'
  have A:Inv X pins σ H {s with heap:=h'}:=I.turned (t':=s.toks) (λb o Y e=>(J.2 b Y).trans e) Q f1 f3 R S
  obtain⟨o,e,c,d⟩:=id st'
  exact⟨u,rfl,Jh (s:={s with heap:=h'}) e c d (by decide) ⟨x,H,A,F,⟨rfl,λys D=>by rw[I.list_inj D N];exact O⟩,⟨by omega,st'⟩,λb Y=>(V b Y).1⟩⟩
 done:=by
  intro X U hw T M i pins s σ H E I V st W
  subst U hw T
  obtain⟨Q,f1,f2,f3,R,S⟩:=V it (by simp)
  have W:n<=i:=W
  have Z:=st.2
  have L:=st.1
  rw[show(n:Int)-1-(i:Int) = -1 by omega]at Z
  exact wpAny_pyNext_rev_end (I.ok.hd M) Z λh' B=>⟨rfl,I.turned (t':=s.toks) (λb o Y e=>B b o Y e) Q f1 f3 R S⟩
 self:=λ_ _ _ _ _ st h=>c6 st.2 h
section
variable{X:Cx}{fl:List Fl}{a:Expr}{f:FE}{pos:Pos}
def ah1(K:PySem.W.Frag)(ta:TE):TI:=λσ H R=>ta σ H λx H1=>∃p xs,x = .ref p/\SqL K H1 p xs/\R (Itv K p xs.length) H1
theorem Xq{ta:TE}(J:Gl X "reversed")(hm:X.mg "reversed"=none)(ha:PE X a ta)(D:starEach [a] X.env=(false,eval a X.env)::starEach [] X.env:=by rfl)
 (B:(backTo pos (starEach [] X.env)).any (·.1)=false:=by rfl):PI X tg (.Call (.Name "reversed" p) [a] [] pos) (ah1 X.K ta):=by
 intro pins s σ H R I h
 refine ax (lR I J hm boot_reversed (PyProof.Rows.callWith_type1 (thn ((jy ha n8 D) pos pins s σ H (λvs H1=>match vs with|[x]=>∃p xs,x = .ref p/\SqL X.K H1 p xs/\R (Itv X.K p xs.length) H1|_=>False) I h) λus s1 ⟨vs,H1,Y,T,q1⟩=>?_) D B))
 cases T with
 |nil=>exact q1.elim
 |cons r U=>
  cases U with
  |cons _ _=>exact q1.elim
  |nil=>
  obtain⟨l,xs,e,S,q⟩:=q1
  subst e
  cases r
  obtain⟨its,V,pl,O⟩:=Y.list S
  have N:=V.length
  refine call_reversed_list pl.isList ?_
  have P:Inv X pins σ H1 {s1 with heap:=s1.heap.push (revObj l ((its.toArray.size:Int)-1))}:=Y.kept (t':=s1.toks) λb o e=>ad _ e
  have Z:(s1.heap.push (revObj l ((its.toArray.size:Int)-1))).IsRevIter s1.heap.objs.size l ((its.toArray.size:Int)-1):=⟨_,ag _ rfl,rfl,rfl⟩
  refine c6 (s:={s1 with heap:=s1.heap.push (revObj l ((its.toArray.size:Int)-1))}) Z ?_
  have W:=Z
  rw[show(its.toArray.size:Int)-1=(xs.length:Int)-1-((0:Nat):Int)by rw[aX];omega]at W
  refine⟨s1.heap.objs.size,[s1.heap.objs.size],_,_,H1,rfl,P,Ov l s1.heap.objs.size xs.length,⟨cZ _,by rw[show(xs.length:Int)-1-((0:Nat):Int)=(its.toArray.size:Int)-1 by rw[aX];omega];exact Z⟩,λb Q=>?_,q⟩
  have e:b=s1.heap.objs.size:=by simpa using Q
  subst e
  exact Y.fpOk (aL _) (Y.hok.fresh (aL _))
theorem Xr(h:DE X fl (.B L) a f)(J:Gl X "reversed")(hm:X.mg "reversed"=none)(he:starEach [a] X.env=(false,eval a X.env)::starEach [] X.env:=by rfl)
 (D:(backTo pos (starEach [] X.env)).any (·.1)=false:=by rfl):DI X fl L tg (.Call (.Name "reversed" p) [a] [] pos) (S6 f):=PI.imp (Xq J hm h he D) λσ H R' h=>by
 obtain⟨G,ow,δ,l,R,N,q⟩:=h
 obtain⟨d,M,e2⟩:=bind1 N
 obtain⟨Z,rfl⟩:∃Z,d = .list Z:=by cases d<;>first|exact⟨_,rfl⟩|(cases e2;done)
 cases e2
 refine⟨G,ow,δ,_,R,M,λv H1 s r=>?_⟩
 obtain⟨a,xs,rfl,P,keep⟩:=wF (R.grow s) r
 refine⟨a,xs,rfl,P,q _ _ s λH2 k2 i=>?_⟩
 obtain⟨U,V⟩:=keep H2 k2
 have S:=V.length
 refine⟨λd hd=>?_,λO=>by rw[fZ]at O;show xs.length<=i;omega⟩
 have hi:i<Z.length:=by
  have:=(gh.mp hd).1
  rwa[fZ]at this
 rw[mL hi]at hd
 obtain⟨y,W,T⟩:=V.get hd
 rw[<-S]at W
 refine⟨⟨by omega,xs,y,U,rfl,W⟩,λx K Y=>?_⟩
 obtain⟨e,Q⟩:=Y
 subst e
 have:some y=some x:=W.symm.trans (Q xs U)
 cases this
 exact⟨Same.refl _,T⟩
end
def spL(K:PySem.W.Frag)(F:List D->Option D):Sp:=λvs H Q _=>∃ds d,(Tb H/\RAs K ok1 true H vs ds)/\F ds=some d/\∀v H',Same H H'->RA K ok1 true H' v d->Q v H'
section
variable{X:Cx}{fl:List Fl}{e:Expr}{es:List Expr}{f:FE}{pos p:Pos}{x:Str}{n:Nat}{F:List D->Option D}{fa:FA}
theorem JD(h:DE X fl .P e f):DS1 X fl (.Return (some e) pos) (tO f):=PS.imp (M6 h) λDn σ H h=>by
 obtain⟨G,ow,δ,o,R,Z,q⟩:=h
 obtain⟨d,Y,e2⟩:=bind1 Z
 cases e2
 exact⟨G,ow,δ,d,R,Y,λv H' s r=>q v H' (R.same0.trans s) r⟩
theorem ah2(B:(fl.all λx=>decide (x = .A))=true)(h:DE X fl .P e f):DE X fl .A e f:=pJ h λHb H G ow σ δ v d R r=>by
 have Z:∀(i:Nat)(c:Fl),fl[i]? = some c->c=Fl.A:=λi c e=>by simpa using cQ.mp B c (gG e)
 have ok:∀a,okA ow a:=λa=>by
  constructor
  ·intro i z
   rcases(R.own i a z).2.1 with⟨w,_⟩|⟨w,_⟩
   ·cases Z i _ w
   ·cases Z i _ w
  ·intro i z
   rcases(R.nt i a z).2.2 with⟨w,_⟩|w
   ·cases Z i _ w
   ·cases Z i _ w
 exact RA.imp (λa _=>ok a) (λz=>z) r
theorem Ox(h:Has X.prog X.w X.K X.mg X.base n x ps (spL X.K F))(J:Room n X.A)(ha:DB X fl .P (e::es) fa)(O:Gl X x:=by rfl)(D:(x==("__debug__":Str))=false:=by decide)
 (W:starEach (e::es) X.env=(false,eval e X.env)::starEach es X.env:=by exact oO rfl) (B:(backTo pos (starEach es X.env)).any (·.1)=false:=by exact N_ rfl) :
 DE X fl .P (.Call (.Name x p) (e::es) [] pos) (dCall F fa):=PE.imp (Fp h J ha O D W B) λσ H Q h=>by
 obtain⟨G,ow,δ,d,R,Y,q⟩:=h
 obtain⟨ds,V,e2⟩:=bind1 Y
 refine⟨G,ow,δ,ds,R,V,λvs H' s r=>?_⟩
 show spL X.K F (vs++[]) H' Q E0
 rw[cW]
 exact⟨ds,d,⟨R.tb.same s,r⟩,e2,λv H2 s2 Z=>q v H2 (s.trans s2) Z⟩
end
section
variable{P:Program}{w:World}{K:PySem.W.Frag}{mg:Str->Option Value}{base:Heap}{x:Str}{ps N:List Str}{st:Stmt}{k n:Nat}{fs:FS}{fl:List Fl}
theorem TF(O:FunD K x st f fd)(S:FnScope N ps (bK st))(D:∀i,i<ps.length->fl[i]? = some .A)(J:ps.length<=N.length)
 (B:∀(f:Addr)(cdv:Value)(A:Around)(outer:List Env)(s:Shared)(H:Hp)(E:XK),Room k (A.deeper (envOfC x (bK st) s.heap.objs.size f cdv))->DSs (cx P w K mg base N x st f cdv A outer s H E) fl (jz st) fs) :
 FnOk P w K mg base CX0 (k+1) f fd ps (spL K (fnL ps.length (N.length-ps.length) fs)):=by
 refine O.ok S (λvs H Q E h=>?_) (λcdv A outer s H vs Q E X h=>?_)
 ·obtain⟨ds,d,r,Z,_⟩:=h
  unfold fnL at Z
  by_cases z:ds.length=ps.length
  ·rw[r.2.length];exact z
  ·rw[if_neg z]at Z;cases Z
 ·obtain⟨ds,d,r,Z,q⟩:=h
  refine⟨_,B f cdv A outer s H E X,?_⟩
  unfold fnL Tv at Z
  by_cases z:ds.length=ps.length
  ·rw[if_pos z]at Z
   split at Z
   ·next W e=>
    cases Z
    exact⟨_,_,_,_,mX ps.length D z J r,e,λv H' s r=>q v H' s (RA.imp (λ_ _=>trivial) (λ_=>rfl) r)⟩
   ·next c' V W e=>
    cases Z
    exact⟨_,_,_,_,mX ps.length D z J r,e,λv H' s r=>q v H' s r⟩
   ·next δ' e=>
    cases Z
    exact⟨_,_,_,_,mX ps.length D z J r,e,λY σ' H' R'=>q .non H' R'.same0 .non⟩
   ·cases Z
  ·rw[if_neg z]at Z;cases Z
theorem Xu(O:Dg K mg x st ps)(S:FnScope N ps (bK st))(D:∀i,i<ps.length->fl[i]? = some .A)(J:ps.length<=N.length)
 (B:∀(f:Addr)(cdv:Value)(A:Around)(outer:List Env)(s:Shared)(H:Hp)(E:XK),Room k (A.deeper (envOfC x (bK st) s.heap.objs.size f cdv))->DSs (cx P w K mg base N x st f cdv A outer s H E) fl (jz st) fs) :
 Has P w K mg base (k+1) x ps (spL K (fnL ps.length (N.length-ps.length) fs)):=by
 obtain⟨f,fd,Z,b,m⟩:=O.ex
 exact⟨f,fd,TF Z S D J B,b,Z.kp,m⟩
end
section
variable{P:Program}{w:World}{K:PySem.W.Frag}{mg:Str->Option Value}{base:Heap}{x:Str}{ps:List Str}{st:Stmt}{n:Nat}
end
end D3
namespace D3
open PySem PySem.Spec PyProof.Rows L2 My
section
variable{K:PySem.W.Frag}{fl flA:List Fl}{G:Gh}{ow:Ow}{σ σ':St}{H H1:Hp}{δ:DS}{T:List Nat}
end
section
variable{X:Cx}{fl flA:List Fl}{e:Expr}{es:List Expr}{f:FE}{fa:FA}{pos:Pos}
end
section
variable{X:Cx}{fl:List Fl}{pos:Pos}
end
end D3
namespace XS
open PySem PySem.W PyProof.Rows
noncomputable def dZ{α:Type}(lt:Nat->Nat->Bool):KasT α->α
 | .ret a=>a
 | .ask i j k=>dZ lt (k (lt i j))
def pq{α:Type}(n:Nat)(R:α->Prop):KasT α->Prop
 | .ret a=>R a
 | .ask i j k=>i<n/\j<n/\∀b,pq n R (k b)
section
variable{α β:Type}{n:Nat}{R:α->Prop}{R':β->Prop}{lt:Nat->Nat->Bool}
theorem oU(f:α->KasT β):∀t:KasT α,dZ lt (t.bind f)=dZ lt (f (dZ lt t))
 | .ret _=>rfl
 | .ask _ _ k=>oU f (k _)
theorem oV{f:α->KasT β}(B:∀a,R a->pq n R' (f a)):∀t:KasT α,pq n R t->pq n R' (t.bind f)
 | .ret a,h=>B a h
 | .ask _ _ k,h=>⟨h.1,h.2.1,λb=>oV B (k b) (h.2.2 b)⟩
theorem FZ:∀t:KasT α,pq n R t->R (dZ lt t)
 | .ret _,h=>h
 | .ask _ _ k,h=>FZ (k _) (h.2.2 _)
theorem Di{B:Nat->Nat->(Bool->Shared->Prop)->Shared->Prop}{G:α->Shared->Prop}(D:∀i j C,i<n->j<n->C (lt i j) s->B i j C s):
 ∀t:KasT α,pq n R t->G (dZ lt t) s->t.kasWp B G s
 | .ret _,_,q=>q
 | .ask _ _ k,h,q=>D _ _ _ h.1 h.2.1 (Di D (k _) (h.2.2 _) q)
end
def good(n:Nat)(p:Array Nat):Prop:=p.Perm (aV n).toArray
section
variable{n:Nat}{p:Array Nat}
theorem good.mem(g:good n p){x:Nat}(h:x∈p.toList):x<n:=by
 have:x∈(aV n):=by
  have:=(d9.mp g).mem_iff.mp h
  simpa using this
 exact bA.mp this
theorem good.get(g:good n p)(B:0<n)(i:Nat):p.getD i 0<n:=by
 unfold Array.getD
 split
 ·exact g.mem (by simp)
 ·exact B
theorem good.rev(g:good n p)(i j:Nat):good n (bg p i j):=(mirror_perm _ _ _ _).trans g
theorem good.bub(g:good n p)(i j:Nat):good n (bubble p i j):=(bubble_perm _ _ _).trans g
theorem yZ(B:0<n)(g:good n p):∀f a,pq n (λ_=>True) (ck p f a)
 |0,a=>trivial
 |f+1,a=>⟨g.get B _,g.get B _,λb=>by
  cases b
  ·exact yZ B g f (a+1)
  ·trivial⟩
theorem uc(B:0<n):∀f (p:Array Nat) a q,good n p->pq n (λr=>good n r.1) (a7 f p a q)
 |0,p,a,q,g=>g
 |f+1,p,a,q,g=>by
  refine⟨g.get B _,g.get B _,λb=>?_⟩
  cases b
  ·refine⟨g.get B _,g.get B _,λc=>?_⟩
   cases c
   ·exact uc B f p (a+1) (q+1) g
   ·exact g
  ·show pq n _ (if q>0 then _ else _)
   split
   ·exact uc B f _ _ _ (g.rev _ _)
   ·exact uc B f _ _ _ g
theorem zc(B:0<n)(g:good n p)(a m:Nat):pq n (λr=>good n r.2) (b9 a m p):=by
 unfold b9
 refine oV (R:=λ_=>True) (λc _=>?_) _ (yZ B (g.rev _ _) _ _)
 show good n (bg p 0 a)
 exact g.rev _ _
theorem Bv(B:0<n)(g:good n p)(a m:Nat):pq n (λr=>good n r.2) (aS a m p):=
 oV (R:=λr=>good n r.1) (λr h=>by
  split
  ·exact zc B (good.rev h _ _) _ _
  ·exact zc B h _ _) _ (uc B _ _ _ _ g)
theorem Ii(B:0<n)(g:good n p)(m:Nat):pq n (λr=>good n r.2) (cf m p):=
 oV (R:=λ_=>True) (λa _=>by
  split
  ·exact g
  ·split
   ·refine⟨g.get B _,g.get B _,λb=>?_⟩
    cases b
    ·exact Bv B (g.rev _ _) _ _
    ·exact g
   ·exact Bv B g _ _) _ (yZ B g _ _)
theorem uZ(B:0<n)(g:good n p)(k:Nat):∀f l r,pq n (λ_=>True) (bi p k f l r)
 |0,l,r=>trivial
 |f+1,l,r=>by
  unfold bi
  split
  ·trivial
  ·refine⟨g.get B _,g.get B _,λb=>?_⟩
   cases b
   ·exact uZ B g k f _ _
   ·exact uZ B g k f _ _
theorem Ga(B:0<n):∀f (p:Array Nat) k,good n p->pq n (good n) (kas_bin f p k)
 |0,p,k,g=>g
 |f+1,p,k,g=>oV (R:=λ_=>True) (λl _=>Ga B f _ _ (g.bub _ _)) _ (uZ B g k _ _ _)
theorem wJ(B:0<n):pq n (good n) (c0 n):=
 oV (R:=λr=>good n r.2) (λr h=>by
  split
  ·exact Ga B _ _ _ h
  ·exact h) _ (Ii B (Array.Perm.refl _) n)
end
def ou(n:Nat)(lt:Nat->Nat->Bool):List Nat:=(dZ lt (c0 n)).toList
theorem jh(B:0<n)(lt:Nat->Nat->Bool):(ou n lt).Perm (aV n):=by
 have:good n (dZ lt (c0 n)):=FZ _ (wJ B)
 have:=d9.mp this
 simpa[ou]using this
noncomputable def Al(a b:Int×Int):Bool:=if a.1=b.1 then decide (a.2<b.2)else decide (a.1<b.1)
def ltP(B:List (Int×Int))(i j:Nat):Bool:=Al (B.getD i (0,0)) (B.getD j (0,0))
open D3
def Ij:List D->Option (List (Int×Int))
 |[]=>some []
 | .tuple [.int i,.int j]::r=>(Ij r).map ((i,j) :: ·)
 |_=>none
def zf:List D->Option D
 |[.list l]=>match dO l with
  |some _=>Nz [.list l]
  |none=>(Ij l).bind λZ=>if l.length<64 then(if l.length=1 then some (.list l)else some (.list ((ou l.length (ltP Z)).map λi=>l.getD i .none)))else none
 |_=>none
end XS
variable{h':Heap}{C:Bool->Shared->Prop}
namespace XS
open PySem PySem.Spec PySem.W PyProof.Rows L2 My D3
theorem wK(x:gY P w H h a o):∃u,h.get? a=some u:=by
 cases o with
 |lst xs=>obtain⟨_,_,_,_,e⟩:=x;exact⟨_,e⟩
 |tup xs=>obtain⟨_,_,_,u,e,_⟩:=x;exact⟨_,e⟩
 |dK kvs=>obtain⟨_,_,_,_,u,_,_,e,_⟩:=x;exact⟨_,e⟩
 |dT kvs=>obtain⟨_,_,_,_,u,_,_,e,_⟩:=x;exact⟨_,e⟩
 |set S n=>obtain⟨u,_,_,_,e,_⟩:=x;exact⟨_,e⟩
 |ins C dx fs=>obtain⟨_,_,_,e,_⟩:=x;exact⟨_,e⟩
 |own y=>exact x
 |xd fs=>obtain⟨_,⟨u,_,_,e,_⟩,_⟩:=x;exact⟨_,e⟩
 |met f y=>exact⟨_,x⟩
 |rng lo hi=>obtain⟨_,_,_,e⟩:=x;exact⟨_,e⟩
 |frz u v=>exact⟨_,x.1⟩
 |tbl q p=>obtain⟨_,e,_⟩:=x;exact⟨_,e⟩
 |ext φ=>exact x.2.1
section
variable{X:Cx}{pins:List (Addr×Obj)}{σ:L2.St}{H:Hp}{s:Shared}
theorem Xv{L:Addr}{B:Str->Option Value}(a:h.Ns L m)(b:h.Ns L B):m=B:=by
 obtain⟨o,es,ep,e,d,_,f⟩:=a
 obtain⟨o',W,V,Z,Y,_,X⟩:=b
 rw[e]at Z;cases Z
 rw[d]at Y;cases Y
 funext x
 rw[<-f,<-X]
theorem JF{D:Addr}(I:Inv X pins σ H s)(hm:s.heap.Ns X.env.locals m)(B:h'.Ns X.env.locals m)(k:∀b u,b≠X.env.locals->s.heap.get? b=some u->h'.get? b=some u)
 (O:s.heap.get? D=none) (J:gY X.prog X.w (upd H D o) h' D o):Inv X pins σ (upd H D o) {s with heap:=h'}:=by
 have hn:H D=none:=by
  cases e:H D with
  |none=>rfl
  |some u=>
   obtain⟨w,hw⟩:=wK (I.hok D u e)
   rw[O]at hw;cases hw
 have ne:∀{b u},H b=some u->b≠D:=λe=>jN e hn
 refine I.step (g':=s.gens) (d':=s.drawn) (t':=s.toks) (ch:=[]) (λb V=>by cases V) (λb u Z _ _ e _=>k b u Z e) (λb u Z _ _ e _=>⟨u.slots,k b u Z e⟩) (λb u _ e n=>?_) (λb u _ e=>?_)
  (λb xs e=>by rw[cO (ne e)];exact e) (λb u v e=>by rw[cO (ne e)];exact e) (λb q p e=>by rw[cO (ne e)];exact e) (λU h2=>by rw[<-Xv hm h2];exact B) (λb u e=>?_) I.bare
 ·rw[cO (λz=>by rw[z,O]at e;cases e)];exact n
 ·by_cases z:b=X.env.locals
  ·obtain⟨w,_,_,hw,_⟩:=B
   exact⟨w,by rw[z];exact hw⟩
  ·exact⟨u,k b u z e⟩
 ·by_cases z:b=D
  ·subst z
   rw[cU]at e
   cases e
   exact J
  ·rw[cO z]at e
   refine(I.hok b u e).stay (λc w W q=>k c w (λy=>?_) q) (λc q=>by rw[cO (ne q)];exact q) λc xs q=>by rw[cO (ne q)];exact q
   rcases W with rfl|Y
   ·rw[y,I.free]at e;cases e
   ·rw[y,I.free]at Y;cases Y
end
section
variable{prog:Program}{w:World}{A:Around}{E:Value->Shared->Prop}{s:Shared}
theorem TJ{x y:Addr}{a b c d:Int}{O J D B:Tok}(hx:IsTup s.heap x #[.int a O,.int b J])(Y:IsTup s.heap y #[.int c D,.int d B])(q:C (Al (a,b) (c,d)) s):
 wpAny (model prog w) A (keyLt' (tuples' true) (.ref x) (.ref y)) C E s:=by
 obtain⟨T,ex,_,nx,dx⟩:=hx
 obtain⟨U,X,_,S,V⟩:=Y
 refine kat_lt ex dx X V ?_
 show KatLex prog w A true (decide (2<2)) C [(Value.int a O,Value.int c D),(Value.int b J,Value.int d B)] 0 s
 refine kat_cons (cn (kat_go (λe=>?_) λe=>?_))
 ·refine kat_yes (kat_cons (cn (kat_go (λe2=>?_) λe2=>?_)))
  ·refine kat_yes (kat_nil ?_)
   have e:=beq_iff_eq.mp e
   have e2:=beq_iff_eq.mp e2
   subst e e2
   simpa[Al]using q
  ·refine kat_no (kat_one _ _ (lt_int ?_))
   have e:=beq_iff_eq.mp e
   subst e
   simpa[Al,PySem.W.BoolBack]using q
 ·refine kat_no ?_
  have e:a≠c:=by
   intro z;subst z;simp at e
  have Z:C (decide (a<c)) s:=by simpa[Al,e]using q
  exact oneLt_int Z
end
end XS
namespace XS
open PySem PySem.Spec PySem.W PyProof.Rows L2 My D3
def Xw(K:PySem.W.Frag)(H:Hp)(y:V)(q:Int×Int):Prop:=∃a,y = .ref a/\SqT K H a [.int q.1,.int q.2]
abbrev Prs(K:PySem.W.Frag)(H:Hp):List V->List (Int×Int)->Prop:=Paired (Xw K H)
section
variable{X:Cx}{pins:List (Addr×Obj)}{σ:L2.St}{H:Hp}{s:Shared}
theorem Dj(I:Inv X pins σ H s){y:V}{u:Value}{q:Int×Int}(h:Xw X.K H y q)(r:RelV y u):∃a D B,u = .ref a/\IsTup s.heap a #[.int q.1 D,.int q.2 B]:=by
 obtain⟨a,rfl,U⟩:=h
 cases r
 obtain⟨its,Z,p,_⟩:=I.tuple U
 cases Z with
 |cons W Z=>cases Z with
  |cons Y Z=>
   cases Z
   obtain⟨D,rfl⟩:=W
   obtain⟨B,rfl⟩:=Y
   exact⟨a,D,B,rfl,p⟩
theorem vN(I:Inv X pins σ H s){h':Heap}(k:∀a items,IsTup s.heap a items->IsTup h' a items):∀{ys:List V}{us:List Value}{B:List (Int×Int)},Prs X.K H ys B->Vals ys us->∃fs,KatTups h' us fs/\fs.length=us.length/\∀v∈fs,∃i t,v = .int i t
 |_,_,_,.nil,.nil=>⟨[],trivial,rfl,λ_ h=>by cases h⟩
 |_,_,_,.cons p ps,.cons r W=>by
  obtain⟨fs,h1,h2,T⟩:=vN I k ps W
  obtain⟨a,Y,S,rfl,U⟩:=Dj I p r
  obtain⟨o,e,c,n,d⟩:=k _ _ U
  refine⟨.int _ Y::fs,⟨⟨a,o,_,n,rfl,e,c,d,rfl⟩,h1⟩,by simp[h2],λv Z=>?_⟩
  rcases aU.mp Z with rfl|Z
  ·exact⟨_,_,rfl⟩
  ·exact T v Z
theorem ud{ys:List V}{us:List Value}{B:List (Int×Int)}:Prs X.K H ys B->Vals ys us->∀i,i<ys.length->Xw X.K H (ys.getD i .non) (B.getD i (0,0))/\RelV (ys.getD i .non) (us.getD i .none)
 | .nil,.nil,i,h=>by cases h
 | .cons p ps,.cons r Z,0,h=>⟨p,r⟩
 | .cons p ps,.cons r Z,i+1,h=>by
  have:=ud ps Z i (by simpa using h)
  simpa using this
theorem Dk:lU X (.builtin "sorted") (λxs H Q=>∃(p:Addr)(ys:List V)(B:List (Int×Int)),xs=[.ref p]/\SqL X.K H p ys/\2<=ys.length/\ys.length<64/\Prs X.K H ys B/\∀l,H l=none->Q (.ref l) (upd H l (.lst ((ou ys.length (ltP B)).map λi=>ys.getD i .non)))):=by
 intro pins s σ H xs us Q I r h
 obtain⟨p,ys,B,rfl,hx,h2,Y,S,q⟩:=h
 obtain⟨u,rfl,rx⟩:=vals1 r
 cases rx
 obtain⟨its,Z,pl,hz⟩:=I.list hx
 obtain⟨m,hm,_⟩:=id I.loc
 have len:its.length=ys.length:=Z.length.symm
 refine kat_sorted (h₀:=Att.lW s.heap) (L:=X.env.locals) (m:=m) (Att.Np hm) (E_ (g:=Att.lW s.heap) (h:=s.heap) (L:=X.env.locals)) pl.isList (by rw[len];exact h2) (by rw[len];exact Y) λD e1 h' F' G lt=>?_
 have kept:∀{U:Heap}{nw:List (Addr×Obj)},News (Att.lW s.heap) X.env.locals U nw->(∀y∈oJ (Att.lW s.heap) s.heap X.env.locals,y∈nw)->∀b o,b≠X.env.locals->s.heap.get? b=some o->U.get? b=some o:=λN hs b o hb e=>(N (b,o) (hs _ (sJ hb (Att.rG _ _) e))).1
 have O:∀a items,IsTup s.heap a items->IsTup h' a items:=λa items ⟨o,e,c,n,d⟩=>⟨o,kept G (λy W=>aK _ W) a o (λz=>by
  obtain⟨o2,es,ep,e2,d2,_⟩:=hm
  rw[z,e2]at e;cases e
  rw[d2]at d;cases d) e,c,n,d⟩
 obtain⟨fs,f1,f2,f3⟩:=vN I O S Z
 refine kat_kind (T:=.type "int") f1 (by rw[f2,len];omega) (λv M=>?_) rfl ?_
 ·obtain⟨i,t,rfl⟩:=f3 v M
  exact λA Q E s _ q=>ae q
 have e64:its.length<64:=by rw[len];exact Y
 refine Di (n:=its.length) (lt:=ltP B) (R:=good its.length) (λi j C hi J hc=>?_) _ (wJ (by rw[len];omega)) ?_
 ·obtain⟨p1,r1⟩:=ud S Z i (by rw[<-len];exact hi)
  obtain⟨p2,r2⟩:=ud S Z j (by rw[<-len];exact J)
  obtain⟨a1,t1,t2,x1,y1⟩:=Dj I p1 r1
  obtain⟨a2,t3,t4,f,k⟩:=Dj I p2 r2
  unfold kas_ask
  rw[x1,f]
  exact TJ (O _ _ y1) (O _ _ k) hc
 ·refine KasFin.intro F' G (.head λy W=>aW (lt y W)) λh2 c F2 N2=>?_
  have x:s.heap.get? D=none:=by
   cases e:s.heap.get? D with
   |none=>rfl
   |some o=>
    by_cases z:D=X.env.locals
    ·exact absurd z (G _ (aJ ..)).2.1
    ·exact absurd (lt (D,o) (sJ z (Att.rG _ _) e)) (eN _)
  have hn:H D=none:=by
   cases e:H D with
   |none=>rfl
   |some u=>
    obtain⟨w,hw⟩:=wK (I.hok D u e)
    rw[x]at hw;cases hw
  have pm:=jh (n:=ys.length) (by omega) (ltP B)
  have M:∀l:List Nat,(∀i∈l,i<ys.length)->Vals (l.map λi=>ys.getD i .non) (l.map λi=>its.getD i .none):=λl F=>by
   induction l with
   |nil=>exact .nil
   |cons i l ih=>exact .cons (ud S Z i (F i aJ)).2 (ih λj J=>F j (aK _ J))
  have o1:((dZ (ltP B) (c0 its.length)).toList)=ou ys.length (ltP B):=by rw[len];rfl
  have P:gY X.prog X.w (upd H D (.lst ((ou ys.length (ltP B)).map λi=>ys.getD i .non))) h2 D (.lst ((ou ys.length (ltP B)).map λi=>ys.getD i .non)):=by
   refine⟨by rw[aq,pm.length_eq,bO];exact bF (dW Y) (by decide),_,c,M _ λi hi=>bA.mp (pm.mem_iff.mp hi),?_⟩
   have:=(N2 _ (aJ ..)).1
   rw[<-o1]
   exact this
  exact⟨.ref D,_,JF (s:=s) (h':=h2) I hm F2.ns (kept N2 λy W=>aK _ W) x P,rfl,q D hn⟩
end
end XS
namespace XS
open PySem PySem.Spec PySem.W PyProof.Rows L2 My D3
section
variable{prog:Program}{w:World}{A:Around}{E:Value->Shared->Prop}{s:Shared}
theorem Gb{v:Value}{P:PySem.Fin->Shared->Prop}(B:s.heap.get? a=some (seqObj "list" #[v] n))
 (h:∀h' c,(∀b u,b≠a->s.heap.get? b=some u->h'.get? b=some u)->h'.get? a=some (seqObj "list" #[v] c)->P (.done (.ret .none)) {s with heap:=h'}) :
 wpAny (model prog w) A (Builtin.«list.sort» ⟨[.ref a],[]⟩) P E s:=by
 obtain⟨g1,Y⟩:∃g1,g1=s.heap.update a (Obj.mapSeq λ_=>(#[]:Array Value)):=⟨_,rfl⟩
 obtain⟨X,h1⟩:∃c,g1.get? a=some (seqObj "list" #[] c):=⟨_,by rw[Y];exact em B λ_=>#[]⟩
 have k1:∀b u,b≠a->s.heap.get? b=some u->g1.get? b=some u:=λb u z q=>by rw[Y];exact(bz _ _ _ _ z).trans q
 rw[list_sort_plain]
 refine aa (listItems_at B rfl ?_)
 refine aa (dk B rfl ?_ (show 1<=sizeLine by decide) (cZ _))
 rw[<-Y]
 refine aa (ef h1 rfl ?_)
 refine aa (eA ?_ (show 1<=sizeLine by decide))
 refine aa (bE ?_ (cZ _))
 refine ap ?_
 obtain⟨g2,e2⟩:∃g2,g2=(g1.push (seqObj "tuple" #[v] 0)).push (seqObj "list" #[] 0):=⟨_,rfl⟩
 show wpAny (model prog w) A _ P E {s with heap:=(g1.push (seqObj "tuple" #[v] 0)).push (seqObj "list" #[] 0)}
 rw[<-e2]
 have h2:g2.get? a=some (seqObj "list" #[] X):=by rw[e2];exact ad _ (ad _ h1)
 have k2:∀b u,b≠a->s.heap.get? b=some u->g2.get? b=some u:=λb u z q=>by rw[e2];exact ad _ (ad _ (k1 b u z q))
 have two:(#[v]:Array Value).size<2:=fP 1
 have Z:(arrOf (SortSt.mk' general' ((#[v]:Array Value).zip #[v]) #[] 7 none)).map (·.2) = #[v]:=by
  show((#[v]:Array Value).zip #[v]).map (·.2) = #[v]
  simp
 dsimp only
 rw[if_pos two,if_pos two]
 refine aa (ae ?_)
 refine aa (ae ?_)
 dsimp only
 rw[Z]
 refine aa (ef h2 rfl ?_)
 refine aa (dk h2 rfl ?_ (cZ _) (show 1<=sizeLine+1 by decide))
 show wpAny _ _ (if(X != X)=true then _ else ret Value.none) P E _
 rw[if_neg (by simp)]
 refine ae (h _ _ (λb u z q=>(bz _ _ _ _ z).trans (k2 b u z q)) (em h2 _))
end
section
variable{X:Cx}
theorem Dm:lU X (.builtin "sorted") (λxs H Q=>∃(p:Addr)(y:V),xs=[.ref p]/\SqL X.K H p [y]/\∀l,H l=none->Q (.ref l) (upd H l (.lst [y]))):=by
 intro pins s σ H xs us Q I r h
 obtain⟨p,y,rfl,S,q⟩:=h
 obtain⟨u,rfl,U⟩:=vals1 r
 cases U
 obtain⟨its,Y,pl,P⟩:=I.list S
 obtain⟨v,rfl,T⟩:∃v,its=[v]/\RelV y v:=by
  cases Y with
  |cons a b=>cases b;exact⟨_,rfl,a⟩
 refine ba eg dE dL (args_sorted1 _) ?_
 unfold Builtin.«sorted»
 refine aa (m:=checkCount "sorted" 1 1 _) (ae ?_)
 refine aa (collect_list (vs:=[v]) pl.isList ?_ (show 1<=sizeLine by decide))
 refine aa (bE ?_ (show 1<=sizeLine by decide))
 obtain⟨g,W⟩:∃g,g=(s.heap.push (seqObj "list" #[] 0)).update s.heap.objs.size (Obj.mapSeq (·++[v].toArray)):=⟨_,rfl⟩
 show wpAny _ _ _ _ _ {s with heap:=((s.heap.push (seqObj "list" #[] 0)).update s.heap.objs.size (Obj.mapSeq (·++[v].toArray))).push (seqObj "list" [v].toArray 0)}
 rw[<-W]
 have sz:g.objs.size=s.heap.objs.size+1:=by rw[W,aT,cS]
 have old:∀b o,s.heap.get? b=some o->g.get? b=some o:=λb o e=>by
  have lt:=af e
  rw[W,bz _ _ _ _ (aW lt)]
  exact ad _ e
 have Z:(g.push (seqObj "list" [v].toArray 0)).get? g.objs.size=some (seqObj "list" #[v] 0):=ag _ rfl
 refine aa (ap (ar c9 ⟨_,Z,rfl⟩ cE (Gb Z λh' c k e=>⟨_,rfl,?_⟩) (eD _)))
 refine ae ⟨_,rfl,?_⟩
 have hn:H g.objs.size=none:=I.hok.fresh (by rw[sz];exact jm _)
 have R:=I.laid (h':=h') (t':=s.toks) (a:=g.objs.size) (o:=.lst [y]) (λb o q=>k b o (λz=>by
  have lt:b<s.heap.objs.size:=af q
  have z:b=s.heap.objs.size+1:=z.trans sz
  rw[z]at lt
  exact absurd lt (mU.mpr (jm _))) (ad _ (old b o q))) (by rw[sz];exact jm _) ⟨show 1<=sizeLine by decide,[v],c,.cons T .nil,e⟩
 exact⟨.ref _,_,R,rfl,q _ hn⟩
end
end XS
namespace XS
open PySem PySem.Spec PySem.W PyProof.Rows L2 My D3
section
variable{K:PySem.W.Frag}{H:Hp}
theorem Ik:∀{l:List D}{B:List (Int×Int)}{ys:List V},Ij l=some B->RAs K ok1 true H ys l->Prs K H ys B/\l=B.map λq=>.tuple [.int q.1,.int q.2]
 |[],B,ys,e,r=>by
  cases e;cases r;exact⟨.nil,rfl⟩
 |d::l,B,ys,e,r=>by
  cases r with
  |cons W X=>
   unfold Ij at e
   split at e
   ·next h=>cases h
   ·next i j t h=>
    cases h
    cases Y:Ij l with
    |none=>rw[Y]at e;cases e
    |some q2=>
     rw[Y]at e
     cases e
     obtain⟨p,U⟩:=Ik Y X
     obtain⟨a,xs,rfl,hs,Z⟩:=W.tupE
     cases Z with
     |cons h1 Z=>cases Z with
      |cons h2 Z=>
       cases Z
       obtain rfl:=h1.intE
       obtain rfl:=h2.intE
       exact⟨.cons ⟨a,rfl,hs⟩ p,by rw[aP,<-U]⟩
   ·cases e
theorem Gd(B:List (Int×Int)):flats (B.map λq=>(.tuple [.int q.1,.int q.2]:D))=true:=by
 induction B with
 |nil=>rfl
 |cons q B Z=>simp[flats,flat,Z]
theorem zj:∀{l:List D},flats l=true->∀i,flat (l.getD i .none)=true
 |[],_,i=>by simp[flat]
 |d::l,h,0=>by rw[flats,bf]at h;exact h.1
 |d::l,h,i+1=>by
  rw[flats,bf]at h
  simpa using zj h.2 i
theorem Dp:∀{ys:List V}{l:List D}{ok:Ok}{pl:Bool},RAs K ok pl H ys l->∀i,RA K ok pl H (ys.getD i .non) (l.getD i .none)
 |_,_,_,_,.nil,i=>by simp;exact .non
 |_,_,_,_,.cons a b,0=>a
 |_,_,_,_,.cons a b,i+1=>by simpa using Dp b i
end
theorem Oz(ha:DB X fl .P [e] fa)(D:Gl X "sorted")(hm:X.mg "sorted"=none)
 (J:starEach [e] X.env=(false,eval e X.env)::starEach [] X.env:=by rfl) (B:(backTo pos (starEach [] X.env)).any (·.1)=false:=by rfl):DE X fl .FC (.Call (.Name "sorted" p) [e] [] pos) (dCall zf fa):=by
 have bs:bootBuiltins "sorted"=some (.builtin "sorted"):=by decide +kernel
 intro pins s σ H Q I h
 obtain⟨G,ow,δ,d,R,x,q⟩:=h
 obtain⟨ds,O,e2⟩:=bind1 x
 unfold zf at e2
 split at e2
 ·next l=>
  split at e2
  ·next ns C=>exact La ha D hm J B pins s σ H Q I ⟨G,ow,δ,d,R,by unfold dCall;rw[O];exact e2,q⟩
  ·next C=>
   obtain⟨W,E,Y⟩:=bind1 e2
   by_cases U:l.length<64
   ·rw[if_pos U]at Y
    by_cases h1:l.length=1
    ·rw[if_pos h1]at Y
     cases Y
     refine nO Dm D hm bs ha (by decide) (by decide) J B pins s σ H Q I ⟨G,ow,δ,_,R,O,λvs H' sm r'=>?_⟩
     cases r' with
     |cons M N=>
      cases N
      obtain⟨a,ys,rfl,T,Z⟩:=M.lstE
      obtain⟨L,S⟩:=Ik E Z
      obtain⟨y,rfl⟩:∃y,ys=[y]:=by
       have:=Z.length
       rw[h1]at this
       exact rC.mp this
      refine⟨a,y,rfl,T,λA hn=>q _ _ (sm.trans (cY hn _)) (.inr ⟨_,_,_,rfl,rfl,sm.free hn,cU,?_⟩)⟩
      exact RAs.flat (by rw[S];exact Gd W) (Z.same (cY hn _))
    ·rw[if_neg h1]at Y
     cases Y
     refine nO Dk D hm bs ha (by decide) (by decide) J B pins s σ H Q I ⟨G,ow,δ,_,R,O,λvs H' sm r'=>?_⟩
     cases r' with
     |cons M N=>
      cases N
      obtain⟨a,ys,rfl,T,Z⟩:=M.lstE
      obtain⟨L,S⟩:=Ik E Z
      have v:ys.length=l.length:=Z.length
      have h2:2<=ys.length:=by
       rcases gD ys.length 2 with z|z
       ·have:l.length=0:=by omega
        have:=cJ.mp this
        subst this
        cases C
       ·exact z
      refine⟨a,ys,W,rfl,T,h2,by omega,L,λA hn=>q _ _ (sm.trans (cY hn _)) (.inr ⟨_,_,_,rfl,rfl,sm.free hn,cU,?_⟩)⟩
      rw[v]
      have F:flats l=true:=by rw[S];exact Gd W
      have V:=Z.same (cY hn (.lst ((ou l.length (ltP W)).map λi=>ys.getD i .non)))
      generalize ou l.length (ltP W)=is at V ⊢
      clear C E T h2 L S O x
      have:∀(is:List Nat)(H2:Hp),RAs X.K ok1 true H2 ys l->RAs X.K (λb=>okN H b/\b≠A) false H2 (is.map λi=>ys.getD i .non) (is.map λi=>l.getD i .none):=λis H2 Z=>by
       induction is with
       |nil=>exact .nil
       |cons i is w=>exact .cons (RA.flat (zj F i) (Dp Z i)) w
      exact this is _ V
   ·rw[if_neg U]at Y;cases Y
 ·cases e2
end XS
namespace XS
open PySem PySem.Spec PySem.W PyProof.Rows
section
variable{prog:Program}{w:World}{A:Around}{E:Value->Shared->Prop}{s:Shared}
structure PL(h:Heap)(D I l:Addr)(its:Array Value)(vs:List (L2.Key×Value))(i:Nat):Prop where
 iter:h.IsListIter I l i
 lst:h.IsList l its
 prs:∀(j:Nat)(u:Value),its[j]? = some u->∃(a:Addr)(n:Int)(t:Tok)(v:Value),u=Value.ref a/\IsTup h a #[Value.int n t,v]/\vs[j]? = some (Sum.inl n,v)/\a≠D/\a≠I
 ne:l≠D/\l≠I/\D≠I
end
end XS
namespace XS
open PySem PySem.Spec PySem.W PyProof.Rows
section
variable{prog:Program}{w:World}{A:Around}{E:Value->Shared->Prop}{s:Shared}
end
end XS
namespace XS
open PySem PySem.Spec PySem.W PyProof.Rows L2 My D3
section
variable{X:Cx}{pins:List (Addr×Obj)}{σ:L2.St}{H:Hp}{s:Shared}
end
end XS
namespace XS
open PySem PySem.Spec PySem.W PyProof.Rows L2 My D3
section
variable{X:Cx}{fl:List Fl}{a:Expr}{f:FE}{pos:Pos}{ta:TE}
end
end XS
namespace D3
open PySem
end D3
namespace D3
open PySem
end D3
namespace D3
open PySem
end D3
namespace D3
open PySem
end D3
namespace D3
open PySem
end D3
namespace D3
open PySem
def dsT(S:List (List Int)):D:=.dict (S.map λk=>(.tuple (k.map .int),.bool true))
def tsD:List (D×D)->Option (List (List Int))
 |[]=>some []
 | (.tuple l,.bool true)::r=>(dO l).bind λk=>(tsD r).map (k :: ·)
 |_=>none
def OD:D->Option (List (List Int))
 | .dict kvs=>tsD kvs
 |_=>none
def Dq:D->Option (List Int)
 | .tuple l=>dO l
 |_=>none
def m5(S:List (List Int))(k:List Int):List (List Int):=if k∈S then S else S++[k]
theorem JG:∀ns:List Int,dO (ns.map PyData.int)=some ns
 |[]=>rfl
 |n::r=>by
  rw[aP,dO,JG r]
  rfl
theorem zm:∀S:List (List Int),tsD (S.map λk=>((.tuple (k.map .int),.bool true):D×D))=some S
 |[]=>rfl
 |k::S=>by
  rw[aP,tsD,zm S,JG]
  rfl
theorem TQ(S:List (List Int)):OD (dsT S)=some S:=zm S
end D3
namespace D3
open PySem
end D3
namespace D3
open PySem
end D3
namespace D3
open PySem
end D3
namespace D3
open PySem
end D3
namespace D3
open PySem
abbrev Tte:=List Int×List Int×Int
def xM:List (D×D)->Option (List Tte)
 |[]=>some []
 | (.tuple l,.tuple [.tuple m,.int z])::r=>(dO l).bind λk=>(dO m).bind λv=>(xM r).map ((k,v,z) :: ·)
 |_=>none
def Le:D->Option (List Tte)
 | .dict kvs=>xM kvs
 |_=>none
noncomputable def rwD(k:List Int):D:=.tuple (k.map .int)
def ttV(q:List Int×Int):D:=.tuple [rwD q.1,.int q.2]
def ttP(S:List Tte):List (D×D):=S.map λq=>(rwD q.1,ttV q.2)
def dtt(S:List Tte):D:=.dict (ttP S)
noncomputable def pX(S:List Tte)(k:List Int):Option (List Int×Int):=(S.find? λq=>decide (q.1=k)).map (·.2)
def lD:D->D->Option D:=λx y=>(Le x).bind λS=>(Dq y).bind λk=>(pX S k).map ttV
def Lf:D->Option (List Int×Int)
 | .tuple [.tuple m,.int z]=>(dO m).map (·,z)
 |_=>none
def rP(S:List Tte)(k:List Int)(v:List Int×Int):List Tte:=if(pX S k).isSome=true then S else S++[(k,v)]
def tQ(i:Nat)(fk fv:FE):FS:=λδ=>(ao i δ).bind λx=>(fk δ).bind λy=>(fv δ).bind λz=>(Le x).bind λS=>(Dq y).bind λk=>(Lf z).bind λv=>if S.length<1000000 then some (.nx (δ.set i (some (.d (dtt (rP S k v))))))else none
theorem pO:∀ns:List Int,dO (ns.map PyData.int)=some ns
 |[]=>rfl
 |n::r=>by
  rw[aP,dO,pO r]
  rfl
theorem Dr:∀S:List Tte,xM (ttP S)=some S
 |[]=>rfl
 |q::S=>by
  show(dO (q.1.map PyData.int)).bind (λk=>(dO (q.2.1.map PyData.int)).bind λv=>(xM (ttP S)).map ((k,v,q.2.2) :: ·))=_
  rw[pO,aM,pO,aM,Dr S]
  rfl
theorem rQ:∀{l:List D}{k:List Int},dO l=some k->l=k.map PyData.int
 |[],k,h=>by cases h;rfl
 |d::l,k,h=>by
  cases d with
  |int i=>
   unfold dO at h
   cases e:dO l with
   |none=>rw[e]at h;cases h
   |some r=>
    rw[e]at h
    cases h
    rw[rQ e]
    rfl
  |_=>unfold dO at h;cases h
theorem JH:∀{kvs:List (D×D)}{S:List Tte},xM kvs=some S->kvs=ttP S
 |[],S,h=>by cases h;rfl
 | (a,b)::r,S,h=>by
  unfold xM at h
  split at h
  ·next e=>cases e
  ·next e=>
   cases e
   obtain⟨k,Y,h⟩:=p8.mp h
   obtain⟨v,e2,h⟩:=p8.mp h
   cases Z:xM r with
   |none=>rw[Z]at h;cases h
   |some X=>
    rw[Z]at h
    cases h
    rw[rQ Y,rQ e2,JH Z]
    rfl
  ·cases h
theorem Ge(S:List Tte):Le (dtt S)=some S:=Dr S
theorem Ds{x:D}{S:List Tte}(h:Le x=some S):x=dtt S:=by
 cases x with
 |dict kvs=>rw[JH (show xM kvs=some S from h)];rfl
 |_=>cases h
theorem TX{x:D}{v:List Int×Int}(h:Lf x=some v):x=ttV v:=by
 unfold Lf at h
 split at h
 ·next m z=>
  cases e:dO m with
  |none=>rw[e]at h;cases h
  |some k=>
   rw[e]at h
   cases h
   rw[rQ e]
   rfl
 ·cases h
end D3
namespace D3
open PySem
noncomputable def pY:List Int->List Int->Bool
 |[],[]=>false
 |[],_::_=>true
 |_::_,[]=>false
 |x::xs,y::ys=>if x=y then pY xs ys else decide (x<y)
def tR:D->Option (List (List Int))
 | .dict kvs=>match xM kvs with
  |some S=>some (S.map (·.1))
  |none=>tsD kvs
 |_=>none
def xO(f:FE)(fl fh:FO):FE:=λδ=>(f δ).bind λx=>(fl δ).bind λlo=>(fh δ).bind λhi=>match x with
 | .tuple l=>if flats l=true then some (.tuple (cutD l lo hi))else none
 |_=>none
def uJ:List D->Option D
 |[.tuple l]=>match dO l with
  |some (i::r)=>some (.int (mxI i r))
  |_=>none
 |_=>none
def Il(f:FE):FA:=λδ=>(f δ).bind λx=>match x with
 | .tuple l=>some (qw l)
 |_=>none
def wL:D->D->Option D:=λx y=>match x,y with
 | .list l,.list m=>if l.length<=1000 then some (.list (lY l m))else none
 |_,_=>none
end D3
namespace L2
open PySem PySem.Spec PyProof.Rows
section
variable{κ:Type}[DecidableEq κ]
def qH(kvs:List (κ×V))(k:κ):Option V:=(kvs.find? λZ=>decide (Z.1=k)).map (·.2)
noncomputable def putK(kvs:List (κ×V))(k:κ)(v:V):List (κ×V):=
 if(kvs.any λZ=>decide (Z.1=k))=true then kvs.map (λZ=>if Z.1=k then(Z.1,v)else Z)else kvs++[(k,v)]
theorem vO{p:κ×V}{r:List (κ×V)}{k:κ}(e:p.1=k):qH (p::r) k=some p.2:=by simp[qH,jC,e]
theorem vQ{p:κ×V}{r:List (κ×V)}{k:κ}(e:¬p.1=k):qH (p::r) k=qH r k:=by simp[qH,jC,e]
theorem Gf(k:κ):∀kvs:List (κ×V),(kvs.any λB=>decide (B.1=k))=(qH kvs k).isSome
 |[]=>rfl
 |p::r=>by
  rw[m9]
  by_cases e:p.1=k
  ·simp only[vO e,dTr e,Bool.true_or,Option.isSome_some]
  ·rw[vQ e,dFa e,Bool.false_or];exact Gf k r
theorem xr(kvs:List (κ×V))(k:κ)(v:V):(putK kvs k v).length<=kvs.length+1:=by
 unfold putK
 split
 ·rw[aq];omega
 ·rw[bh,bC,jD];omega
theorem v9.isSome_eq{o:Option V}{u:Option Value}(r:v9 o u):o.isSome=u.isSome:=by
 cases o with
 |none=>cases u with
  |none=>rfl
  |some _=>exact(show False from r).elim
 |some _=>cases u with
  |none=>exact(show False from r).elim
  |some _=>rfl
theorem v9.getD{o:Option V}{u:Option Value}{d:V}{d':Value}(r:v9 o u)(rd:RelV d d'):RelV (o.getD d) (u.getD d'):=by
 cases o with
 |none=>cases u with
  |none=>exact rd
  |some _=>exact(show False from r).elim
 |some _=>cases u with
  |none=>exact(show False from r).elim
  |some _=>exact r
theorem KV.val{kvs:List (κ×V)}{vs:List (κ×Value)}(r:KV kvs vs)(k:κ):v9 (qH kvs k) (valueAt vs k):=by
 unfold KV at r
 induction r with
 |nil=>exact True.intro
 | @cons p q ps Z h t X=>
  obtain⟨h1,h2⟩:=h
  by_cases e:p.1=k
  ·have Y:q.1=k:=h1.symm.trans e
   have b:valueAt (q::Z) k=some q.2:=by simp[valueAt,jC,Y]
   rw[vO e,b];exact h2
  ·have Y:¬q.1=k:=λz=>e (h1.trans z)
   have b:valueAt (q::Z) k=valueAt Z k:=by simp[valueAt,jC,Y]
   rw[vQ e,b];exact X
theorem KV.any{kvs:List (κ×V)}{vs:List (κ×Value)}(r:KV kvs vs)(k:κ):(kvs.any λB=>decide (B.1=k))=vs.any λB=>decide (B.1=k):=by
 unfold KV at r
 induction r with
 |nil=>rfl
 |cons h t Z=>rw[m9,m9,Z,h.1]
theorem KV.repl{kvs:List (κ×V)}{vs:List (κ×Value)}(r:KV kvs vs)(k:κ){y:V}{u:Value}(D:RelV y u):
 KV (kvs.map λB=>if B.1=k then(B.1,y)else B) (vs.map λB=>if B.1=k then(B.1,u)else B):=by
 unfold KV at r ⊢
 induction r with
 |nil=>exact .nil
 | @cons p q ps Y h t Z=>
  rw[aP,aP]
  refine .cons ?_ Z
  obtain⟨h1,h2⟩:=h
  by_cases e:p.1=k
  ·rw[if_pos e,if_pos (h1.symm.trans e)];exact⟨h1,D⟩
  ·rw[if_neg e,if_neg (λz=>e (h1.trans z))];exact⟨h1,h2⟩
theorem KV.put{kvs:List (κ×V)}{vs:List (κ×Value)}(r:KV kvs vs)(k:κ){y:V}{u:Value}(B:RelV y u):KV (putK kvs k y) (stored vs k u):=by
 unfold putK stored
 rw[r.any k]
 by_cases e:(vs.any λZ=>decide (Z.1=k))=true
 ·rw[if_pos e,if_pos e];exact r.repl k B
 ·rw[if_neg e,if_neg e];exact Paired.snoc r ⟨rfl,B⟩
theorem KV.keys{kvs:List (κ×V)}{vs:List (κ×Value)}(r:KV kvs vs):kvs.map (·.1)=vs.map (·.1):=by
 unfold KV at r
 induction r with
 |nil=>rfl
 |cons h t Z=>rw[aP,aP,Z,h.1]
theorem KV.length{kvs:List (κ×V)}{vs:List (κ×Value)}(r:KV kvs vs):kvs.length=vs.length:=Paired.length r
end
theorem OJ{k:Key}{u:Value}(r:RelV (kV k) u):(je P w).is k u=true:=by
 cases k with
 |inl i=>obtain⟨t,e⟩:=(show ∃t,u=Value.int i t from r);subst e;exact Ez P w i t
 |inr x=>obtain⟨t,e⟩:=(show ∃t,u=Value.str x t from r);subst e;exact EY P w x t
theorem Bw:∀{ks:List Key}{us:List Value},Vals (ks.map kV) us->ItemsAre (je P w) ks us
 |[],_,r=>by rw[iJ]at r;cases r;exact .nil
 |k::ks,_,r=>by
  rw[aP]at r
  cases r with
  |cons h t=>exact .cons (OJ h) (Bw t)
abbrev KT(H:Hp):List (List Key×V)->List (List Key×Addr×Value)->Prop:=Paired λp q=>p.1=q.1/\H q.2.1=some (.tup (p.1.map kV))/\RelV p.2 q.2.2
theorem KT.val{kvs:List (List Key×V)}{xs:List (List Key×Addr×Value)}(r:KT H kvs xs)(k:List Key):v9 (qH kvs k) ((atKey xs k).map (·.2)):=by
 induction r with
 |nil=>exact True.intro
 | @cons p q ps Z h t X=>
  obtain⟨h1,_,h2⟩:=h
  by_cases e:p.1=k
  ·have Y:q.1=k:=h1.symm.trans e
   have b:atKey (q::Z) k=some q.2:=by simp[atKey,jC,Y]
   rw[vO e,b];exact h2
  ·have Y:¬q.1=k:=λz=>e (h1.trans z)
   have b:atKey (q::Z) k=atKey Z k:=by simp[atKey,jC,Y]
   rw[vQ e,b];exact X
theorem KT.repl{kvs:List (List Key×V)}{xs:List (List Key×Addr×Value)}(r:KT H kvs xs)(k:List Key){y:V}{u:Value}(D:RelV y u):
 KT H (kvs.map λB=>if B.1=k then(B.1,y)else B) (xs.map (putAt k u)):=by
 induction r with
 |nil=>exact .nil
 | @cons p q ps X h t Z=>
  rw[aP,aP]
  refine .cons ?_ Z
  obtain⟨h1,h2,Y⟩:=h
  unfold putAt
  by_cases e:p.1=k
  ·rw[if_pos e,if_pos (h1.symm.trans e)];exact⟨h1,h2,D⟩
  ·rw[if_neg e,if_neg (λz=>e (h1.trans z))];exact⟨h1,h2,Y⟩
theorem KT.put{kvs:List (List Key×V)}{xs:List (List Key×Addr×Value)}(r:KT H kvs xs)(k:List Key){b:Addr}{y:V}{u:Value}(D:H b=some (.tup (k.map kV)))(B:RelV y u):
 KT H (putK kvs k y) (storedH xs k b u):=by
 have e:(kvs.any λZ=>decide (Z.1=k))=(atKey xs k).isSome:=by
  rw[Gf,(r.val k).isSome_eq,Option.isSome_map]
 unfold putK storedH
 rw[e]
 by_cases q:(atKey xs k).isSome=true
 ·rw[if_pos q,if_pos q];exact r.repl k B
 ·rw[if_neg q,if_neg q];exact Paired.snoc r ⟨rfl,D,B⟩
theorem KT.keeps{kvs:List (List Key×V)}{xs:List (List Key×Addr×Value)}(r:KT H kvs xs)(B:∀b ys,H b=some (.tup ys)->H' b=some (.tup ys)):KT H' kvs xs:=
 Paired.mapP r λ_ _ z=>⟨z.1,B _ _ z.2.1,z.2.2⟩
section
variable{P:Program}{w:World}{H:Hp}{h:Heap}{a:Addr}
theorem VD(ok:HOk P w H h)(e:Rd H a u):gY P w H h a u:=e.ok ok
theorem Bx{kvs:List (Key×V)}(ok:HOk P w H h)(e:Rd H a (.dK kvs)):kvs.length<=sizeLine/\(a==sysModules)=false/\∃vs,KV kvs vs/\h.DictOf (je P w) a vs:=
 show gY P w H h a (.dK kvs)from VD ok e
theorem VF{kvs:List (Key×V)}(ok:HOk P w H h)(e:H a=some (.dK kvs)):kvs.length<=sizeLine/\(a==sysModules)=false/\∃vs,KV kvs vs/\h.DictOf (je P w) a vs:=Bx ok (.inl e)
theorem Dt{ks:List Key}(ok:HOk P w H h)(e:H a=some (.tup (ks.map kV))):(tupleKind (je P w)).is h ks a:=by
 obtain⟨_,its,r,o,h1,h2,n,Z⟩:=(show gY P w H h a (.tup (ks.map kV))from ok a _ e)
 exact⟨o,its.toArray,n,h1,h2,Z,by simpa using Bw r⟩
theorem BJ{kvs:List (List Key×V)}(ok:HOk P w H h)(e:Rd H a (.dT kvs)):kvs.length<=sizeLine/\(a==sysModules)=false /\
 ∃xs,KT H kvs xs/\h.DictOfH (tupleKind (je P w)) a xs:=by
 obtain⟨z,y,xs,r,o,es,ep,h1,h2,T,U,W⟩:=(show gY P w H h a (.dT kvs)from VD ok e)
 refine⟨z,y,xs,r,o,es,ep,h1,h2,T,U,λx Z=>?_,W⟩
 have all:∀{l:List (List Key×V)}{m:List (List Key×Addr×Value)},KT H l m->∀x∈m,(tupleKind (je P w)).is h x.1 x.2.1:=by
  intro l m q
  induction q with
  |nil=>intro x Z;exact nomatch Z
  | @cons p q ps S Y t X=>
   intro x Z
   rcases aU.mp Z with e|Z
   ·subst e
    exact Dt ok (by rw[<-Y.1];exact Y.2.1)
   ·exact X x Z
 exact all r x Z
theorem VG{kvs:List (List Key×V)}(ok:HOk P w H h)(e:H a=some (.dT kvs)):kvs.length<=sizeLine/\(a==sysModules)=false /\
 ∃xs,KT H kvs xs/\h.DictOfH (tupleKind (je P w)) a xs:=BJ ok (.inl e)
end
def O1(H:Hp)(a:Addr)(y:V)(r:Option V):Prop:=
 (∃kvs k,Rd H a (.dK kvs)/\y=kV k/\r=qH kvs k)\/∃kvs k b,Rd H a (.dT kvs)/\y = .ref b/\H b=some (.tup (k.map kV))/\r=qH kvs k
def Im(H:Hp)(a:Addr)(y v:V)(H':Hp):Prop:=
 (∃kvs k,H a=some (.dK kvs)/\y=kV k/\kvs.length<sizeLine/\H'=upd H a (.dK (putK kvs k v))) \/
 ∃kvs k b,H a=some (.dT kvs)/\y = .ref b/\H b=some (.tup (k.map kV))/\kvs.length<sizeLine/\H'=upd H a (.dT (putK kvs k v))
theorem O1.k{kvs:List (Key×V)}{k:Key}(e:H a=some (.dK kvs)):O1 H a (kV k) (qH kvs k):=.inl ⟨kvs,k,.inl e,rfl,rfl⟩
theorem Im.k{kvs:List (Key×V)}{k:Key}(e:H a=some (.dK kvs))(B:kvs.length<sizeLine):Im H a (kV k) v (upd H a (.dK (putK kvs k v))):=.inl ⟨kvs,k,e,rfl,B,rfl⟩
theorem Im.t{kvs:List (List Key×V)}{k:List Key}(e:H a=some (.dT kvs))(D:H b=some (.tup (k.map kV)))(B:kvs.length<sizeLine):
 Im H a (.ref b) v (upd H a (.dT (putK kvs k v))):=.inr ⟨kvs,k,b,e,rfl,D,B,rfl⟩
section
variable{X:Cx}{pins:List (Addr×Obj)}{σ:St}{H:Hp}{s:Shared}{a:Addr}{y v:V}{u r:Value}{o:Option V}{A:Around}{E:Value->Shared->Prop}
theorem Lg(J:A.units+1<cLine)(I:Inv X pins σ H s)(g:O1 H a y (some v))(D:RelV y u)(h:∀B s',Inv X pins σ H s'->RelV v B->Q B s'):
 wpAny (model X.prog X.w) A (getItem (.ref a) u) Q E s:=by
 rcases g with⟨kvs,k,e,W,l⟩|⟨kvs,k,b,e,W,T,l⟩
 ·subst W
  obtain⟨z,hd,vs,rel,V⟩:=Bx I.hok e
  obtain⟨B,hw,Z⟩:=v9.some_of (v:=v) (o:=valueAt vs k) (by rw[l];exact rel.val k)
  exact wpAny_getItem_of (OJ D) V.mapOf hw (h B _ (I.tok _) Z)
 ·subst W
  cases(show u=Value.ref b from D)
  obtain⟨z,hd,xs,rel,V⟩:=BJ I.hok e
  obtain⟨B,hw,Z⟩:=v9.some_of (v:=v) (o:=(atKey xs k).map (·.2)) (by rw[l];exact rel.val k)
  obtain⟨p,U,Y⟩:=Option.map_eq_some_iff.mp hw
  refine wpAny_getItem_heap (df J) (Dt I.hok T) V U ?_
  rw[Y]
  exact h B _ (I.tok _) Z
theorem yc{B:HO}(I:Inv X pins σ H s)(J:Mut (H a))(hs:Heap.SameBut a s.heap h')(O:∃q,h'.get? a=some q)(D:gY X.prog X.w (upd H a B) h' a B):
 Inv X pins σ (upd H a B) {s with heap:=h',toks:=t'}:=
 I.write (x:=a) (e:=a) J (.inl rfl) (λb q Z z=>(hs.2 b Z).trans z) O D
theorem Xx{kvs:List (Key×V)}{vs:List (Key×Value)}(z:kvs.length<=sizeLine)(hd:(a==sysModules)=false)(rel:KV kvs vs)(B:h'.DictOf (je P w) a vs):
 gY P w H' h' a (.dK kvs):=⟨z,hd,vs,rel,B⟩
theorem BK{Q:Unit->Shared->Prop}(J:A.units+1<cLine)(I:Inv X pins σ H s)(g:Im H a y v H')(B:RelV y u)(D:RelV v r)(h:∀s',Inv X pins σ H' s'->Q () s'):
 wpAny (model X.prog X.w) A (setItem (.ref a) u r) Q E s:=by
 rcases g with⟨kvs,k,e,U,l,T⟩|⟨kvs,k,b,e,U,P,l,T⟩
 ·subst U T
  obtain⟨z,hd,vs,rel,S⟩:=VF I.hok e
  have W:vs.length<=sizeLine:=by rw[<-rel.length];exact z
  have V:(putK kvs k v).length<=sizeLine:=by have:=xr kvs k v;omega
  refine wpAny_setItem_pairs (hsz:=W) (OJ B) S λh' Z hs=>h _ ?_
  have O:∃q,h'.get? a=some q:=let⟨q,_,_,Y,_⟩:=Z;⟨q,Y⟩
  exact yc I (by rw[e];exact True.intro) hs O (Xx V hd (rel.put k D) Z)
 ·subst U T
  cases(show u=Value.ref b from B)
  obtain⟨z,hd,xs,rel,S⟩:=VG I.hok e
  have W:xs.length<=sizeLine:=by rw[<-Paired.length rel];exact z
  have V:(putK kvs k v).length<=sizeLine:=by have:=xr kvs k v;omega
  refine wpAny_setItem_heap (hsz:=W) (df J) (Dt I.hok P) S λh' Z hs=>h _ ?_
  obtain⟨q,es,ep,Y,h2,L,M,_,N⟩:=Z
  refine yc I (by rw[e];exact True.intro) hs ⟨q,Y⟩ ⟨V,hd,_,(rel.put k P D).keeps λc ys R=>?_,q,es,ep,Y,h2,L,M,N⟩
  rw[cO (yD R e (λz=>nomatch z))]
  exact R
end
section
variable{X:Cx}{pins:List (Addr×Obj)}{σ:St}{H:Hp}{s:Shared}{a:Addr}{kvs:List (Key×V)}{k:Key}{u:Value}{A:Around}{E:Value->Shared->Prop}
theorem ZW(I:Inv X pins σ H s)(e:Rd H a (.dK kvs))(h:∀t s',Inv X pins σ H s'->Q (.int kvs.length t) s'):wpAny (model X.prog X.w) A (call (.builtin "len") [.ref a]) Q E s:=by
 obtain⟨z,hd,vs,rel,Z⟩:=Bx I.hok e
 refine call_len_dict hd Z (by rw[<-rel.length];rw[c_]at z;omega) ?_
 rw[<-rel.length]
 exact h _ _ (I.tok _)
end
def Xy(i:Expr):Prop:=∀Z Y,subscripted i false Z Y=operate [Z,Y] (getItem Z Y)
theorem TY{value slice:Expr}{id:String}
 (J:typeLookup (.type T) "__getitem__"=pure (some (.builtin id))) (hs:Xy slice)
 (h:wpAny (model prog w) A (eval value env) (λo D=>wpAny (model prog w) A (eval slice env) (λi B=>B.TypeIs o T/\wpAny (model prog w) A (getItem o i) Q E B) E D) E s) :
 wpAny (model prog w) A (eval (.Subscript value slice pos) env) Q E s:=by
 refine dv (a6 h (λo D W=>a6 W (λi B Z=>?_) λ_ _ x=>x) λ_ _ x=>x)
 obtain⟨V,Z⟩:=Z
 unfold subscriptTail
 refine aa ?_
 rw[getitemInPython_of_ne V.not_modules]
 refine aa (b7 V J ?_)
 have fin:wpAny (model prog w) A (subscripted slice false o i) (λr Y=>wpAny (model prog w) A (letTemporaryGo value o r >>= λ_=>pure r) Q E Y) E B:=by
  rw[hs o i]
  exact wpAny_operating (a6 Z (λr Y X=>aa (wpAny_letTemporaryGo (ae X))) λ_ _ x=>x)
 first
  |exact ae (aa fin)
  |exact aa (ae (aa fin))
  |exact aa fin
theorem Gg{σ:St}{y:V}{o:Option V}(I:Inv X pins σ H s)(g:O1 H a y o):s.TypeIs (.ref a) "dict" := by
 rcases g with⟨kvs,k,e,_,_⟩|⟨kvs,k,b,e,_,_,_⟩
 ·obtain⟨_,_,vs,_,Z⟩:=Bx I.hok e
  exact Z.typeIs
 ·obtain⟨_,_,xs,_,Z⟩:=BJ I.hok e
  exact Z.typeIs
def ZX(td ty:TE):TE:=λσ H Q=>td σ H λx H1=>ty σ H1 λy H2=>∃a v,x = .ref a/\O1 H2 a y (some v)/\Q v H2
section
variable{X:Cx}{o i e value:Expr}{pos pos' tpos:Pos}{td ty tv:TE}
theorem T3(B:X.A.units+1<cLine)(D:PE X o td)(hi:PE X i ty)(hs:Xy i):PE X (.Subscript o i pos) (ZX td ty):=by
 intro pins s σ H Q I h
 refine TY PySem.F.slot_dict_getitem.lookup hs (thn (D pins s σ H _ I h) λu s1 ⟨x,H1,T,V,q1⟩=>thn (hi pins s1 σ H1 _ T q1) λR s2 ⟨y,H2,Y,W,a,v,ex,g,q2⟩=>?_)
 subst ex
 obtain rfl:u=Value.ref a:=V
 exact⟨Gg Y g,Lg B Y g W λS s3 U Z=>⟨v,H2,U,Z,q2⟩⟩
end
section
variable{X:Cx}{pos:Pos}
end
structure M1(X:Cx)(o:Expr)(m:Str)(apos:Pos)(e:Expr)(cpos:Pos):Prop where
 base:attributeBase o m X.env (eval o X.env)=eval o X.env
 few:((backTo cpos (starEach [e] X.env)).all (λx=>!x.1)&&(backToKw cpos (keywordEach [] X.env)).all (λx=>x.1.isSome)
  && decide (([e]:List Expr).length+([]:List Keyword).length+(if([]:List Keyword).isEmpty then 0 else 1)<30))=true
 line:(apos.endLine==cpos.line)=true
 trees:backTo cpos (starEach [e] X.env)=[(false,eval e X.env)]
structure M2(X:Cx)(o:Expr)(m:Str)(apos:Pos)(e f:Expr)(cpos:Pos):Prop where
 base:attributeBase o m X.env (eval o X.env)=eval o X.env
 few:((backTo cpos (starEach [e,f] X.env)).all (λx=>!x.1)&&(backToKw cpos (keywordEach [] X.env)).all (λx=>x.1.isSome)
  && decide (([e,f]:List Expr).length+([]:List Keyword).length+(if([]:List Keyword).isEmpty then 0 else 1)<30))=true
 line:(apos.endLine==cpos.line)=true
 trees:backTo cpos (starEach [e,f] X.env)=[(false,eval e X.env),(false,eval f X.env)]
def IsD(H:Hp)(a:Addr):Prop:=(∃kvs,Rd H a (.dK kvs))\/∃kvs,Rd H a (.dT kvs)
theorem Xz{σ:St}(I:Inv X pins σ H s)(d:IsD H a):
 s.TypeIs (.ref a) "dict"/\(∀b,Value.ref a = .ref b->∃B,s.heap.get? b=some B/\B.dict=none)/\(a==sysModules)=false:=by
 rcases d with⟨kvs,e⟩|⟨kvs,e⟩
 ·obtain⟨_,hd,vs,_,Z⟩:=Bx I.hok e
  refine⟨Z.typeIs,λb q=>?_,hd⟩
  cases q
  obtain⟨B,_,_,h1,h2,_⟩:=Z
  exact⟨B,h1,h2.2.1⟩
 ·obtain⟨_,hd,xs,_,Z⟩:=BJ I.hok e
  refine⟨Z.typeIs,λb q=>?_,hd⟩
  cases q
  obtain⟨B,_,_,h1,h2,_⟩:=Z
  exact⟨B,h1,h2.2.1⟩
section
variable{X:Cx}{pins:List (Addr×Obj)}{σ:St}{H:Hp}{s:Shared}{a:Addr}{y d:V}{u r:Value}{o:Option V}{A:Around}{E:Value->Shared->Prop}
end
section
variable{X:Cx}{o e f:Expr}{apos cpos:Pos}{td ty tx:TE}
end
section
variable{X:Cx}{pins:List (Addr×Obj)}{σ:St}{H:Hp}{s:Shared}{a:Addr}{kvs:List (Key×V)}{A:Around}{E:Value->Shared->Prop}
end
section
variable{X:Cx}{pins:List (Addr×Obj)}{σ:St}{H:Hp}{s:Shared}{a:Addr}{y:V}{u:Value}{A:Around}{E:Value->Shared->Prop}
end
section
variable{κ:Type}[DecidableEq κ]
end
end L2
namespace XK
open PySem PySem.Spec PyProof.Rows L2 My D3
section
variable{K:PySem.W.Frag}{H:Hp}
theorem T4(s:Same H H')(h:L2.Rd H a u):L2.Rd H' a u:=by
 rcases h with h|⟨o,h⟩
 ·exact .inl (s _ _ h)
 ·exact .inr ⟨o,s _ _ h⟩
end
section
variable{X:Cx}{fl:List Fl}{e a b c ke:Expr}{f fa fb fc fk:FE}{pos:Pos}
theorem JK:∀(l:List Value)(ns:List Int),l.length=ns.length->(∀(j:Nat)(v:Value),l[j]? = some v->∃n t,ns[j]? = some n/\v=Value.int n t)->IntsAre l ns
 |[],[],_,_=>.nil
 |[],_::_,h,_=>by simp at h
 |_::_,[],h,_=>by simp at h
 |v::l,n::ns,h,g=>by
  obtain⟨X,t,Y,e2⟩:=g 0 v rfl
  cases Y
  subst e2
  exact .cons _ _ (JK l ns (by simpa using h) λj v Z=>by simpa using g (j+1) v (by simpa using Z))
end
end XK
namespace XK
open PySem PySem.Spec PyProof.Rows L2 My D3
theorem hu1(h:n+64<cLine):n+1<cLine:=by omega
section
variable{K:PySem.W.Frag}{fl:List Fl}
end
section
variable{X:Cx}{fl:List Fl}{e a b c ke:Expr}{f fa fb fc fk:FE}{pos:Pos}
end
end XK
namespace XK
open PySem PySem.Spec PyProof.Rows L2 My D3
section
variable{X:Cx}{pins:List (Addr×Obj)}{σ:L2.St}{H H':Hp}{s:Shared}{a:Addr}{kvs:List (Key×V)}{o:Obj}
end
section
variable{K:PySem.W.Frag}{H:Hp}{a:Addr}{kvs:List (Key×V)}{o:Obj}
end
section
variable{X:Cx}{fl fl':List Fl}{e b c elt tg iter:Expr}{es ifs:List Expr}{k:Kd}{f fa fb fc fx:FE}{ft gt:FT}{pos:Pos}{scope:Scope}{ix L TT:List Nat}{fi:FA}{g:FG}
end
end XK
variable{a0:Addr}{o0:Obj}
namespace XK
open PySem PyProof.Rows
theorem Gi{Q:Option Obj->Shared->Prop}(h:Q (s.heap.get? a) s):wpAny M A (loadIfAlive a) Q E s:=λ_ _ _=>h
abbrev zq(h:Heap)(z a0 TI TO:Addr)(b:Bool):Prop:=
 h.get? z=some {cls:=.type "zip", dict:=none,data:=.fields #[rawInt a0,.bool b,.bool false,.ref TI,.ref TO],slots:=#[]}
section
variable{prog:Program}{w:World}{A:Around}{E:Value->Shared->Prop}{s:Shared}
theorem zu{TI TO:Addr}{b:Bool}{Q:Bool->Shared->Prop}(hz:zq s.heap z a0 TI TO b)(D:s.heap.get? a0=some o0)(B:∀h',zq h' z a0 TI TO true->Heap.SameBut z s.heap h'->Q false {s with heap:=h'}):
 wpAny (model prog w) A (Builtin.SmallTypes.ownedTupleIsFree (.ref z)) Q E s:=by
 unfold Builtin.SmallTypes.ownedTupleIsFree
 refine aa (a5 hz rfl (x:=rawInt a0) rfl ?_)
 show wpAny _ _ (loadIfAlive ((a0:Int)).toNat >>= _) _ _ _
 refine aa (Gi ?_)
 rw[eZ,D]
 show wpAny _ _ (field (.ref z) 1 >>= _) _ _ _
 refine aa (a5 hz rfl (x:=.bool b) rfl ?_)
 cases b with
 |true=>
  show wpAny _ _ (pure false) _ _ _
  exact ae (B s.heap hz ⟨rfl,λ_ _=>rfl⟩)
 |false=>
  show wpAny _ _ (setField (.ref z) 1 (.bool true) >>= _) _ _ _
  refine aa (wpAny_setField_rec hz (by simp) λX Z Y=>ae (B X Z Y))
theorem O2{TI TO:Addr}{xs:Array Value}{x y:Value}{b:Bool}(D:ZipApart z TI TO i1 i2 l1 l2)
 (hz:zq s.heap z a0 TI TO b) (h0:s.heap.get? a0=some o0) (O:IsPair s.heap TI (.ref i1) (.ref i2))
 (h1:s.heap.IsListIter i1 l1 k1) (h2:s.heap.IsListIter i2 l2 k2) (J:s.heap.IsList l1 xs) (B:s.heap.IsList l2 ys) (hx:xs[k1]? = some x) (hy:ys[k2]? = some y)
 (hQ:∀h',zq h' z a0 TI TO true->h'.IsListIter i1 l1 (k1+1)->h'.IsListIter i2 l2 (k2+1)->IsPair h' s.heap.objs.size x y ->
  (∀c o,c≠z->c≠i1->c≠i2->s.heap.get? c=some o->h'.get? c=some o)->Q (.ref s.heap.objs.size) {s with heap:=h'}) :
 wpAny (model prog w) A (Builtin.«zip.__next__» ⟨[.ref z],[]⟩) (λfin s'=>∃v,fin = .done (.ret v)/\Q v s') E s:=by
 show wpAny _ _ (field (.ref z) 2 >>= _) _ _ _
 refine aa (a5 hz rfl (x:=.bool false) rfl ?_)
 show wpAny _ _ (field (.ref z) 3 >>= _) _ _ _
 refine aa (a5 hz rfl (x:=.ref TI) rfl ?_)
 refine aa (bu O rfl ?_)
 show wpAny _ _ (Builtin.SmallTypes.ownedTupleIsFree (.ref z) >>= _) _ _ _
 refine aa (zu hz h0 λK U Z=>?_)
 simp only[fG,if_false]
 refine aa ?_
 simp only[<-uM,rZ,List.forIn_nil]
 refine aa (aa (ap ?_))
 show wpAny _ _ (Builtin.SmallTypes.nextOf (.ref i1) >>= _) _ _ _
 refine aa (cr (h1.extBut Z.extBut D.i1z) (J.extBut Z.extBut D.l1z) hx λL S Y=>ae (ae ?_))
 refine aa (aa (ap ?_))
 show wpAny _ _ (Builtin.SmallTypes.nextOf (.ref i2) >>= _) _ _ _
 refine aa (cr ((h2.extBut Z.extBut D.i2z).extBut Y.extBut D.i12.symm) ((B.extBut Z.extBut D.l2z).extBut Y.extBut D.l2i1) hy λX T W=>ae (ae (ae ?_)))
 show wpAny _ _ (newTuple [x,y] >>= _) _ _ _
 refine aa (eA (ae ⟨_,rfl,?_⟩))
 have R:X.objs.size=s.heap.objs.size:=by rw[W.1,Y.1,Z.1]
 show Q (.ref X.objs.size) _
 have I:∀c o,c≠z->c≠i1->c≠i2->s.heap.get? c=some o->X.get? c=some o:=λc o M N P e=>W.extBut _ _ P (Y.extBut _ _ N (Z.extBut _ _ M e))
 have V:zq X z a0 TI TO true:=W.extBut _ _ D.i2z.symm (Y.extBut _ _ D.i1z.symm U)
 have up:∀c o,X.get? c=some o->(X.push {cls:=.type "tuple", data:=.seq #[x,y]}).get? c=some o:=λc o e=>ad _ e
 rw[R]
 refine hQ _ (up _ _ V) (((S.extBut W.extBut D.i12)).at λo e=>up _ o e) (T.at λo e=>up _ o e) ?_ λc o M N P e=>up c o (I c o M N P e)
 rw[<-R]
 exact ag _ rfl
theorem O3{TI TO:Addr}{xs:Array Value}{b:Bool}{Q:Fin->Shared->Prop}(hh:A.handled=none)(D:ZipApart z TI TO i1 i2 l1 l2)
 (hz:zq s.heap z a0 TI TO b) (h0:s.heap.get? a0=some o0) (hTI:IsPair s.heap TI (.ref i1) (.ref i2))
 (h1:s.heap.IsListIter i1 l1 k1) (h2:s.heap.IsListIter i2 l2 k2) (B:s.heap.IsList l1 xs) (O:s.heap.IsList l2 ys) (J:xs[k1]? = none\/ys[k2]? = none)
 (hE:∀h' e,(∀c o,c≠z->c≠i1->c≠i2->s.heap.get? c=some o->h'.get? c=some o)->(∃o,h'.get? e=some o/\o.cls = .type "StopIteration")->E (.ref e) {s with heap:=h'}) :
 wpAny (model prog w) A (Builtin.«zip.__next__» ⟨[.ref z],[]⟩) Q E s:=by
 show wpAny _ _ (field (.ref z) 2 >>= _) _ _ _
 refine aa (a5 hz rfl (x:=.bool false) rfl ?_)
 show wpAny _ _ (field (.ref z) 3 >>= _) _ _ _
 refine aa (a5 hz rfl (x:=.ref TI) rfl ?_)
 refine aa (bu hTI rfl ?_)
 show wpAny _ _ (Builtin.SmallTypes.ownedTupleIsFree (.ref z) >>= _) _ _ _
 refine aa (zu hz h0 λM U Z=>?_)
 simp only[fG,if_false]
 refine aa ?_
 simp only[<-uM,rZ,List.forIn_nil]
 refine aa (aa (ap ?_))
 show wpAny _ _ (Builtin.SmallTypes.nextOf (.ref i1) >>= _) _ _ _
 cases T:xs[k1]? with
 |none=>
  refine aa (wpAny_nextOf_list_end hh (h1.extBut Z.extBut D.i1z) (B.extBut Z.extBut D.l1z) T λX e Y S=>?_)
  exact hE X e (λc o N P _ x=>Y _ _ P (Z.extBut _ _ N x)) S
 |some x=>
  have L:ys[k2]? = none:=by rcases J with h|h;rw[T]at h;cases h;exact h
  refine aa (cr (h1.extBut Z.extBut D.i1z) (B.extBut Z.extBut D.l1z) T λX R Y=>ae (ae ?_))
  refine aa (aa (ap ?_))
  show wpAny _ _ (Builtin.SmallTypes.nextOf (.ref i2) >>= _) _ _ _
  refine aa (wpAny_nextOf_list_end hh ((h2.extBut Z.extBut D.i2z).extBut Y.extBut D.i12.symm) ((O.extBut Z.extBut D.l2z).extBut Y.extBut D.l2i1) L λV e W S=>?_)
  exact hE V e (λc o N P K x=>W _ _ K (Y.extBut _ _ P (Z.extBut _ _ N x))) S
theorem Lh{TI TO:Addr}{xs:Array Value}{x y:Value}{b:Bool}{Q:Option Value->Shared->Prop}(D:ZipApart z TI TO i1 i2 l1 l2)
 (hz:zq s.heap z a0 TI TO b) (h0:s.heap.get? a0=some o0) (O:IsPair s.heap TI (.ref i1) (.ref i2))
 (h1:s.heap.IsListIter i1 l1 k1) (h2:s.heap.IsListIter i2 l2 k2) (J:s.heap.IsList l1 xs) (B:s.heap.IsList l2 ys) (Y:xs[k1]? = some x) (W:ys[k2]? = some y)
 (hQ:∀h',zq h' z a0 TI TO true->h'.IsListIter i1 l1 (k1+1)->h'.IsListIter i2 l2 (k2+1)->IsPair h' s.heap.objs.size x y ->
  (∀c o,c≠z->c≠i1->c≠i2->s.heap.get? c=some o->h'.get? c=some o)->Q (some (.ref s.heap.objs.size)) {s with heap:=h'}) :
 wpAny (model prog w) A (pyNext (.ref z)) Q E s:=by
 have Z:s.TypeIs (.ref z) "zip" := ⟨_,hz,rfl⟩
 unfold pyNext
 exact aa (bP (av (name:=Str.ofString "__next__") Z cv
  (ar cv Z F.entry_zip_next (O2 D hz h0 O h1 h2 J B Y W λh' S T U V X=>ae (hQ h' S T U V X)) (F.args_zip_next_1 _))))
theorem Li{TI TO:Addr}{xs:Array Value}{b:Bool}{Q:Option Value->Shared->Prop}(hh:A.handled=none)(D:ZipApart z TI TO i1 i2 l1 l2)
 (hz:zq s.heap z a0 TI TO b) (h0:s.heap.get? a0=some o0) (W:IsPair s.heap TI (.ref i1) (.ref i2))
 (h1:s.heap.IsListIter i1 l1 k1) (h2:s.heap.IsListIter i2 l2 k2) (O:s.heap.IsList l1 xs) (J:s.heap.IsList l2 ys) (B:xs[k1]? = none\/ys[k2]? = none)
 (hQ:∀h',(∀c o,c≠z->c≠i1->c≠i2->s.heap.get? c=some o->h'.get? c=some o)->Q none {s with heap:=h'}):wpAny (model prog w) A (pyNext (.ref z)) Q E s:=by
 have Z:s.TypeIs (.ref z) "zip" := ⟨_,hz,rfl⟩
 unfold pyNext
 refine aa (bP (av (name:=Str.ofString "__next__") Z cv
  (ar cv Z F.entry_zip_next (O3 hh D hz h0 W h1 h2 O J B λh' e X V=>?_) (F.args_zip_next_1 _))))
 obtain⟨o,Y,U⟩:=V
 refine aa (cm (T := "StopIteration") (b:=true) ⟨o,Y,U⟩ eC ?_)
 exact ae (hQ _ X)
end
end XK
namespace XK
open PySem PyProof.Rows
structure LZ(h:Heap)(base:Nat)(z TI TO i1 i2 l1 l2 S:Addr)(xs ys:Array Value)(i:Nat)(acc:Array Value):Prop where
 ti:IsPair h TI (.ref i1) (.ref i2)
 j1:h.IsListIter i1 l1 i
 j2:h.IsListIter i2 l2 i
 q1:h.IsList l1 xs
 q2:h.IsList l2 ys
 zz:(i=0/\IsZip h z TI TO .none/\∃a b,IsPair h TO a b)\/∃a0 b o0,base<=a0/\zq h z a0 TI TO b/\h.get? a0=some o0
 sz:base<=h.objs.size
 al:acc.size=i
 ac:∀j,j<i->∃a x y,acc[j]? = some (.ref a)/\base<=a/\xs[j]? = some x/\ys[j]? = some y/\IsPair h a x y
 inj:∀(j j':Nat)(a:Addr),acc[j]? = some (.ref a)->acc[j']? = some (.ref a)->j=j'
 ss:∃c,h.get? S=some {cls:=.type "list", dict:=none,data:=.seq acc c,slots:=#[]}
section
variable{prog:Program}{w:World}{A:Around}{R:Result->Shared->Prop}{z TI TO i1 i2 l1 l2 S:Addr}{xs ys:Array Value}{base:Nat}
theorem T5(hh:A.in1.handled=none)(D:ZipApart z TI TO i1 i2 l1 l2)(res:Value)(hb:∀c,c∈[z,TI,TO,i1,i2,l1,l2,S]->c<base)(J:S∉[z,TI,TO,i1,i2,l1,l2])(hn:xs.size<=sizeLine):
 ∀(k i:Nat)(s:Shared)(acc:Array Value),min xs.size ys.size-i=k->i<=min xs.size ys.size->LZ s.heap base z TI TO i1 i2 l1 l2 S xs ys i acc ->
 (∀h' B,(∀c o,c∉[z,TO,i1,i2,S]->s.heap.get? c=some o->h'.get? c=some o)->B.size=min xs.size ys.size ->
  (∀j,j<min xs.size ys.size->∃a x y,B[j]? = some (.ref a)/\base<=a/\xs[j]? = some x/\ys[j]? = some y/\IsPair h' a x y)->(∀(j j':Nat)(a:Addr),B[j]? = some (.ref a)->B[j']? = some (.ref a)->j=j') ->
  (∃c,h'.get? S=some {cls:=.type "list", dict:=none,data:=.seq B c,slots:=#[]})->R (.ok (.ret res)) {s with heap:=h'}) ->
 codeAny (model prog w) A (.builtin "list.extend.loop" ⟨[.ref S,.ref z,res],[]⟩) R s:=by
 have O:S≠z:=λe=>J (by simp[e])
 have d:S≠TI:=λe=>J (by simp[e])
 have G:S≠TO:=λe=>J (by simp[e])
 have M:S≠i1:=λe=>J (by simp[e])
 have N:S≠i2:=λe=>J (by simp[e])
 have g:S≠l1:=λe=>J (by simp[e])
 have h:S≠l2:=λe=>J (by simp[e])
 have ne:∀c,c∈[z,TI,TO,i1,i2,l1,l2,S]->∀a:Addr,base<=a->a≠c:=λc Y a ha q=>mU.mpr ha (by rw[q];exact hb c Y)
 intro k
 induction k with
 |zero=>
  intro i s acc hk hi L hR
  have l:i=min xs.size ys.size:=by omega
  have T:xs[i]? = none\/ys[i]? = none:=by
   rcases Nat.le_total xs.size ys.size with z|z
   ·exact .inl (fU (by omega))
   ·exact .inr (fU (by omega))
  refine cK F.entry_extend_loop ?_
  rw[br bS _]
  show wpAny _ A.in1 (pyNext (.ref z) >>= _) _ _ s
  have fin:∀h',(∀c o,c≠z->c≠TO->c≠i1->c≠i2->s.heap.get? c=some o->h'.get? c=some o)->R (.ok (.ret res)) {s with heap:=h'}:=λh' X=>by
   have up:∀a o,base<=a->s.heap.get? a=some o->h'.get? a=some o:=λa o ha e=>X a o (ne z (by simp) _ ha) (ne TO (by simp) _ ha) (ne i1 (by simp) _ ha) (ne i2 (by simp) _ ha) e
   obtain⟨c,Y⟩:=L.ss
   have V:=X S _ O G M N Y
   refine hR h' acc (λc o Y e=>X c o (λq=>Y (by simp[q])) (λq=>Y (by simp[q])) (λq=>Y (by simp[q])) (λq=>Y (by simp[q])) e) (by rw[L.al];exact l) (λj u=>?_) L.inj ⟨c,V⟩
   ·obtain⟨a,x,y,h1,h2,h3,h4,h5⟩:=L.ac j (by omega)
    exact⟨a,x,y,h1,h2,h3,h4,up a _ h2 h5⟩
  rcases L.zz with⟨I,Q,a,b,P⟩|⟨a0,b,o0,_,Q,I⟩
  ·exact aa (wpAny_pyNext_zip_end hh D Q L.ti P L.j1 L.j2 L.q1 L.q2 T λh' X=>ae (fin h' X))
  ·exact aa (Li hh D Q I L.ti L.j1 L.j2 L.q1 L.q2 T λh' X=>ae (fin h' λc o c1 _ c3 c4 e=>X c o c1 c3 c4 e))
 |succ k ih=>
  intro i s acc hk hi L hR
  have hlt:i<min xs.size ys.size:=by omega
  obtain⟨x,n⟩:∃x,xs[i]? = some x:=⟨_,gj (by omega)⟩
  obtain⟨y,p⟩:∃y,ys[i]? = some y:=⟨_,gj (by omega)⟩
  refine cK F.entry_extend_loop ?_
  rw[br bS _]
  show wpAny _ A.in1 (pyNext (.ref z) >>= _) _ _ s
  have step:∀(h':Heap),(∃a0 b o0,base<=a0/\zq h' z a0 TI TO b/\h'.get? a0=some o0)->h'.IsListIter i1 l1 (i+1)->h'.IsListIter i2 l2 (i+1)->IsPair h' s.heap.objs.size x y ->
   (∀c o,c≠z->c≠TO->c≠i1->c≠i2->s.heap.get? c=some o->h'.get? c=some o) ->
   wpAny (model prog w) A.in1 (updateSeq S (·.push (.ref s.heap.objs.size)) >>= λ_=>again (.builtin "list.extend.loop" ⟨[.ref S,.ref z,res],[]⟩)) (λfin s'=>match fin with | .done f=>R (.ok f) s' | .again c'=>c'.quiet=true/\codeAny (model prog w) A c' R s') (λe s'=>R (.error e) s') {s with heap:=h'}:=λh' g1 g3 E K W=>by
   obtain⟨c,Y⟩:=L.ss
   have V:=W S _ O G M N Y
   have up:∀a o,base<=a->s.heap.get? a=some o->h'.get? a=some o:=λa o ha e=>W a o (ne z (by simp) _ ha) (ne TO (by simp) _ ha) (ne i1 (by simp) _ ha) (ne i2 (by simp) _ ha) e
   have Z:∀b o,b≠S->h'.get? b=some o->(h'.update S (Obj.mapSeq (·.push (.ref s.heap.objs.size)))).get? b=some o:=λb o hb e=>(aI _ _ (Ne.symm hb)).trans e
   refine aa ?_
   refine b6 V rfl (ae ⟨di bS _,ih (i+1) _ (acc.push (.ref s.heap.objs.size)) (by omega) (by omega) ⟨?_,?_,?_,?_,?_,?_,?_,?_,?_,?_,?_⟩ λh'' B H e2 e3 e4 e5=>?_⟩)
    (by rw[L.al];omega) (by show(acc.push _).size<=sizeLine+1;rw[Array.size_push,L.al];omega)
   ·exact Z _ _ (Ne.symm d) (W _ _ D.TIz D.TITO D.TIi1 D.TIi2 L.ti)
   ·exact g3.at λo e=>Z _ o (Ne.symm M) e
   ·exact E.at λo e=>Z _ o (Ne.symm N) e
   ·obtain⟨o,m,r⟩:=L.q1
    exact⟨o,Z _ _ (Ne.symm g) (W _ _ D.l1z D.l1TO D.l1i1 D.l1i2 m),r⟩
   ·obtain⟨o,m,r⟩:=L.q2
    exact⟨o,Z _ _ (Ne.symm h) (W _ _ D.l2z D.l2TO D.l2i1 D.l2i2 m),r⟩
   ·obtain⟨a0,b,o0,k1,k2,v⟩:=g1
    exact .inr ⟨a0,b,o0,k1,Z _ _ (Ne.symm O) k2,Z _ _ (ne S (by simp) _ k1) v⟩
   ·show base<=(h'.update S _).objs.size
    rw[aT]
    exact bF L.sz (dW (af K))
   ·rw[Array.size_push,L.al]
   ·intro j u
    by_cases q:j=i
    ·subst q
     exact⟨_,x,y,by rw[<-L.al];simp,L.sz,n,p,Z _ _ (ne S (by simp) _ L.sz) K⟩
    ·obtain⟨a,x',y',k1,k2,v,k4,t⟩:=L.ac j (by omega)
     refine⟨a,x',y',?_,k2,v,k4,Z _ _ (ne S (by simp) _ k2) (up a _ k2 t)⟩
     rw[Array.getElem?_push_lt (by rw[L.al];omega)]
     rw[gj (by rw[L.al];omega)]at k1
     exact k1
   ·have lt:∀(j:Nat)(a:Addr),acc[j]? = some (.ref a)->a<s.heap.objs.size/\j<i:=λj a e=>by
     have u:j<i:=by
      rcases gD j acc.size with q|q
      ·rw[L.al]at q;exact q
      ·rw[fU q]at e;cases e
     obtain⟨a',x',y',k1,k2,v,k4,t⟩:=L.ac j u
     rw[e]at k1
     cases k1
     exact⟨af t,u⟩
    have cs:∀(j:Nat)(a:Addr),(acc.push (.ref s.heap.objs.size))[j]? = some (.ref a)->(acc[j]? = some (.ref a))\/(j=i/\a=s.heap.objs.size):=λj a e=>by
     rw[Array.getElem?_push]at e
     by_cases q:j=acc.size
     ·rw[if_pos q]at e
      cases e
      exact .inr ⟨by rw[q,L.al],rfl⟩
     ·rw[if_neg q]at e
      exact .inl e
    intro j j' a e e'
    rcases cs j a e with q|⟨q,r⟩<;>rcases cs j' a e' with C|⟨C,r'⟩
    ·exact L.inj j j' a q C
    ·exact absurd (lt j a q).1 (by rw[r'];exact eN _)
    ·exact absurd (lt j' a C).1 (by rw[r];exact eN _)
    ·rw[q,C]
   ·exact⟨_,az _ V rfl⟩
   ·exact hR h'' B (λc o Y e=>H c o Y (Z c o (λq=>Y (by simp[q])) (W c o (λq=>Y (by simp[q])) (λq=>Y (by simp[q])) (λq=>Y (by simp[q])) (λq=>Y (by simp[q])) e))) e2 e3 e4 e5
  rcases L.zz with⟨I,Q,a,b,P⟩|⟨a0,b,o0,U,Q,I⟩
  ·refine aa (wpAny_pyNext_zip_item D Q L.ti P L.j1 L.j2 L.q1 L.q2 n p λh' g1 g2 g3 E K g6 W=>?_)
   exact step h' ⟨s.heap.objs.size,false,_,L.sz,g1,K⟩ g3 E K W
  ·refine aa (Lh D Q I L.ti L.j1 L.j2 L.q1 L.q2 n p λh' g1 g3 E K W=>?_)
   exact step h' ⟨a0,true,o0,U,g1,W a0 o0 (ne z (by simp) _ U) (ne i1 (by simp) _ U) (ne i2 (by simp) _ U) I⟩ g3 E K λc o c1 _ c3 c4 e=>W c o c1 c3 c4 e
end
end XK
namespace XK
open PySem PyProof.Rows
theorem Io:typeLookup (.type "zip") "__len__"=pure none:=by rw[cz,bv];kernel_rfl
theorem Gj:typeLookup (.type "zip") "__length_hint__"=pure none:=by rw[cz,bv];kernel_rfl
section
variable{prog:Program}{w:World}{A:Around}{E:Value->Shared->Prop}{s:Shared}
theorem O4{Q:Bool->Shared->Prop}(B:s.TypeIs (.ref z) "zip")(h:Q true s):wpAny (model prog w) A (Builtin.List.listLengthHint (.ref z)) Q E s:=by
 unfold Builtin.List.listLengthHint
 refine aa (b7 B Io ?_)
 show wpAny _ A (specialOf (Value.ref z) (Str.ofString "__length_hint__") >>= _) _ _ _
 exact aa (b7 B Gj (ae h))
theorem O5{TI TO:Addr}{xs:Array Value}{a b:Value}(hh:A.handled=none)(D:ZipApart z TI TO i1 i2 l1 l2)(hz:IsZip s.heap z TI TO .none)(hTI:IsPair s.heap TI (.ref i1) (.ref i2))(O:IsPair s.heap TO a b)
 (h1:s.heap.IsListIter i1 l1 0) (h2:s.heap.IsListIter i2 l2 0) (J:s.heap.IsList l1 xs) (B:s.heap.IsList l2 ys) (hn:xs.size<=sizeLine)
 (hQ:∀h' acc c,(∀c o,c∉[z,TO,i1,i2]->s.heap.get? c=some o->h'.get? c=some o)->acc.size=min xs.size ys.size ->
  (∀j,j<min xs.size ys.size->∃a x y,acc[j]? = some (.ref a)/\s.heap.objs.size<a/\xs[j]? = some x/\ys[j]? = some y/\IsPair h' a x y)->(∀(j j':Nat)(a:Addr),acc[j]? = some (.ref a)->acc[j']? = some (.ref a)->j=j') ->
  h'.get? s.heap.objs.size=some {cls:=.type "list", dict:=none,data:=.seq acc c,slots:=#[]}->Q (.ref s.heap.objs.size) {s with heap:=h'}) :
 wpAny (model prog w) A (call (.type "list") [.ref z]) Q E s:=by
 refine callType_codes (Q₁:=λobj Y=>obj = .ref s.heap.objs.size/\Y={s with heap:=s.heap.push {cls:=.type "list", data:=.seq #[]} }) PySem.F.called_list (PySem.F.typeCall_list_1 _) PySem.F.entry_list_init (code_list_new _ ⟨rfl,rfl⟩) λobj Y g=>?_
 obtain⟨rfl,rfl⟩:=g
 have N:(s.heap.push {cls:=.type "list", data:=.seq #[]}).get? s.heap.objs.size=some {cls:=.type "list", data:=.seq #[]}:=ag _ rfl
 refine⟨⟨_,N,rfl⟩,PySem.F.args_list_init_2 _ _,?_⟩
 show wpAny _ _ (do let old <-Builtin.List.listItems (.ref s.heap.objs.size);Builtin.List.listUpdate (.ref s.heap.objs.size) (λ_=>#[]);letGo old.toList.reverse;Builtin.List.listExtendWith (.ref s.heap.objs.size) (.ref z) .none) _ _ _
 refine aa ?_
 unfold Builtin.List.listItems
 refine aa (bu N rfl (ae ?_))
 show wpAny _ _ (updateSeq s.heap.objs.size (λ_=>#[]) >>= λ_=>letGo (#[]:Array Value).toList.reverse >>= λ_=>Builtin.List.listExtendWith (.ref s.heap.objs.size) (.ref z) .none) _ _ _
 refine aa (b6 N rfl ?_)
 have U:=az (Obj.mapSeq (λ_=>(#[]:Array Value))) N rfl
 refine aa (wpAny_letGo ?_)
 have old:∀c o,s.heap.get? c=some o->c≠s.heap.objs.size:=λc o e=>aW (af e)
 have k2:∀c o,s.heap.get? c=some o->((s.heap.push {cls:=.type "list", data:=.seq #[]}).update s.heap.objs.size (Obj.mapSeq (λ_=>(#[]:Array Value)))).get? c=some o:=λc o e=>
  (aI _ _ (Ne.symm (old c o e))).trans (ad _ e)
 have W:((s.heap.push {cls:=.type "list", data:=.seq #[]}).update s.heap.objs.size (Obj.mapSeq (λ_=>(#[]:Array Value)))).objs.size=s.heap.objs.size+1:=by rw[aT,bq]
 generalize (s.heap.push {cls:=.type "list", data:=.seq #[]}).update s.heap.objs.size (Obj.mapSeq (λ_=>(#[]:Array Value)))=M at U k2 W
 unfold Builtin.List.listExtendWith
 refine aa (cw (T := "zip") ⟨_,k2 _ _ hz,rfl⟩ ?_)
 have v:Builtin.List.listSameRef (.ref s.heap.objs.size) (.ref z)=false:=by simp[Builtin.List.listSameRef,Ne.symm (old z _ hz)]
 have e2:(Value.type "zip"==Value.type "list")=false:=by decide
 have C:(Value.type "zip"==Value.type "tuple")=false:=by decide
 simp only[v,e2,C,uF,fG,if_false]
 refine aa (dS (k2 _ _ hz) ?_)
 refine aa (ap (O4 ⟨_,k2 _ _ hz,rfl⟩ ?_))
 rw[if_pos (Bool.true_or _)]
 refine aa (be ?_)
 refine aa ?_
 show wpAny _ _ (updateSeq s.heap.objs.size (·.push .none) >>= λ_=>updateSeq s.heap.objs.size (·.pop)) _ _ _
 refine aa (b6 U rfl ?_)
 have R:=az (Obj.mapSeq (·.push Value.none)) U rfl
 refine b6 (hz:=by seq_fits) R rfl ?_
 have S:=az (Obj.mapSeq (·.pop)) R rfl
 have Z:∀c o,s.heap.get? c=some o->((M.update s.heap.objs.size (Obj.mapSeq (·.push Value.none))).update s.heap.objs.size (Obj.mapSeq (·.pop))).get? c=some o:=λc o e=>
  (aI _ _ (Ne.symm (old c o e))).trans ((aI _ _ (Ne.symm (old c o e))).trans (k2 c o e))
 have X:((M.update s.heap.objs.size (Obj.mapSeq (·.push Value.none))).update s.heap.objs.size (Obj.mapSeq (·.pop))).objs.size=s.heap.objs.size+1:=by rw[aT,aT,W]
 generalize (M.update s.heap.objs.size (Obj.mapSeq (·.push Value.none))).update s.heap.objs.size (Obj.mapSeq (·.pop))=u at S Z X
 have lt:∀c∈[z,TI,TO,i1,i2,l1,l2],c<s.heap.objs.size:=λc V=>by
  simp only[aU,aN,dB,or_false]at V
  rcases V with rfl|rfl|rfl|rfl|rfl|rfl|rfl
  ·exact af hz
  ·exact af hTI
  ·exact af O
  ·obtain⟨o,e,_⟩:=h1;exact af e
  ·obtain⟨o,e,_⟩:=h2;exact af e
  ·obtain⟨o,e,_⟩:=J;exact af e
  ·obtain⟨o,e,_⟩:=B;exact af e
 refine ae ⟨di PySem.F.plain_extend_loop _,T5 (base:=s.heap.objs.size+1) (A:=A.in1) (xs:=xs) (ys:=ys) hh D .none (λc V=>?_) (λV=>eN _ (lt _ V)) hn _ 0 _ #[] rfl (cZ _) ⟨Z _ _ hTI,h1.at λo e=>Z _ o e,h2.at λo e=>Z _ o e,?_,?_,.inl ⟨rfl,Z _ _ hz,a,b,Z _ _ O⟩,by rw[X];exact aL _,rfl,λj G=>absurd G (Nat.not_lt_zero _),λj j' c e=>by simp at e,⟨_,S⟩⟩ λh' P H f1 f2 f3 I=>?_⟩
 ·have K:c∈[z,TI,TO,i1,i2,l1,l2]\/c=s.heap.objs.size:=by
   simp only[aU,aN,dB,or_false]at V ⊢
   rcases V with h|h|h|h|h|h|h|h<;>simp[h]
  rcases K with h|h
  ·exact gQ (lt c h)
  ·rw[h];exact fP _
 ·obtain⟨o,L,r⟩:=J
  exact⟨o,Z _ _ L,r⟩
 ·obtain⟨o,L,r⟩:=B
  exact⟨o,Z _ _ L,r⟩
 ·obtain⟨c,I⟩:=I
  refine⟨rfl,hQ h' P c (λd o hd e=>H d o (λq=>?_) (Z d o e)) f1 f2 f3 I⟩
  simp only[aU,aN,dB,or_false]at q hd
  rcases q with q|q|q|q|q
  ·exact hd (.inl q)
  ·exact hd (.inr (.inl q))
  ·exact hd (.inr (.inr (.inl q)))
  ·exact hd (.inr (.inr (.inr q)))
  ·exact old d o e q
end
end XK
namespace XK
open PySem PySem.Spec PyProof.Rows L2 My D3
theorem O6{σ:L2.St}(I:L2.Inv X pins σ H s)(k:∀b u,s.heap.get? b=some u->h'.get? b=some u)(B:∀b,b<s.heap.objs.size->H' b=H b)(hok:HOk X.prog X.w H' h'):
 L2.Inv X pins σ H' {s with heap:=h',toks:=t'}:=I.un {
 keep:=λb u q _ _ _=>k b u q
 slot:=λb u q _ _ _=>⟨u.slots,k b u q⟩
 free:=λb u q n _=>by rw[B b (af q)];exact n
 there:=λb u q _=>⟨u,k b u q⟩
 tups:=λb xs q=>by rw[B b (I.hok.lt q)];exact q
 frzs:=λb u xs q=>by rw[B b (I.hok.lt q)];exact q
 tbls:=λb q p e=>by rw[B b (I.hok.lt e)];exact e} hok
section
variable{X:Cx}{fl:List Fl}{a b:Expr}{f g:FE}{p p2 pos pos2:Pos}
end
end XK
namespace XK
open PySem PyProof.Rows
section
variable{prog:Program}{w:World}{A:Around}{R:Result->Shared->Prop}{I:Addr}{fp wr:List Addr}{n:Nat}{P:Nat->Value->Prop}{St:Nat->Heap->Prop}{kw:List (Str×Value)}
end
section
variable{prog:Program}{w:World}{A:Around}{E:Value->Shared->Prop}{s:Shared}
end
end XK
namespace XK
open PySem PySem.Spec PyProof.Rows L2 My D3
section
variable{X:Cx}{fl:List Fl}{e z:Expr}{fa:FA}{fz:FE}{p pos kpos:Pos}
variable{a:Expr}{f:FE}{ta:TE}
end
end XK
namespace XK
open PySem PySem.Spec PyProof.Rows L2 My D3
section
variable{K:PySem.W.Frag}{H:Hp}
end
section
variable{X:Cx}{fl:List Fl}{e k1 k2:Expr}{f f1 f2:FE}{pos:Pos}
end
end XK
namespace XK
open PySem PySem.Spec PyProof.Rows L2 My D3
section
variable{X:Cx}
end
end XK
namespace XT
open PySem PySem.Spec PyProof.Rows L2 My D3 XK
def dtI(S:List (List Int)):List (List Key×V):=S.map λk=>(k.map .inl,.bl true)
theorem Gk:∀{l:List D}{k:List Int},dO l=some k->tkK l=some (k.map .inl)
 |[],k,h=>by cases h;rfl
 |d::l,k,h=>by
  cases d with
  |int i=>
   unfold dO at h
   cases e:dO l with
   |none=>rw[e]at h;cases h
   |some r=>
    rw[e]at h
    cases h
    rw[tkK,Gk e]
    rfl
  |_=>unfold dO at h;cases h
theorem O7:∀{kvs:List (D×D)}{S:List (List Int)},tsD kvs=some S->tkD kvs=some (dtI S)
 |[],S,h=>by cases h;rfl
 | (a,b)::r,S,h=>by
  unfold tsD at h
  split at h
  ·next e=>cases e
  ·next l r' e=>
   cases e
   obtain⟨k,Y,e2⟩:=bind1 h
   cases Z:tsD r with
   |none=>rw[Z]at e2;cases e2
   |some X=>
    rw[Z]at e2
    cases e2
    rw[tkD,Gk Y,O7 Z]
    rfl
  ·cases h
theorem Ip{S:List (List Int)}(h:tsD kvs=some S)(B:S≠[]):kvs≠[]:=λz=>by
 subst z
 cases h
 exact B rfl
theorem zA:∀{kvs:List (D×D)}{S:List (List Int)},tsD kvs=some S->HS kvs=true
 |[],_,_=>rfl
 | (a,b)::r,S,h=>by
  unfold tsD at h
  split at h
  ·next e=>cases e
  ·next e=>
   cases e
   cases Z:tsD r with
   |none=>simp[Z]at h
   |some S=>exact(show HS r=true from zA Z)
  ·cases h
theorem Du{S:List (List Int)}(h:tsD kvs=some S)(B:S≠[]):dh0 kvs = .dT (dtI S):=by
 have:=Ip h B
 cases kvs with
 |nil=>exact absurd rfl this
 |cons q r=>
  unfold dh0
  dsimp only
  rw[O7 h]
theorem zB{ok:Ok}:∀{xs:List V}{l:List D}{k:List Int},RAs K ok pl H xs l->dO l=some k->xs=(k.map Sum.inl).map kV
 |_,_,k,.nil,h=>by cases h;rfl
 |_,_,k,.cons (d:=d) a q,h=>by
  cases d with
  |int i=>
   unfold dO at h
   cases e:dO _ with
   |none=>rw[e]at h;cases h
   |some r=>
    rw[e]at h
    cases h
    rw[a.intE,zB q e]
    rfl
  |_=>unfold dO at h;cases h
theorem yd{ok:Ok}{k:List Int}(e:Dq y=some k)(r:RA K ok pl H v y):∃b,v = .ref b/\H b=some (.tup ((k.map Sum.inl).map kV)):=by
 cases y with
 |tuple l=>
  obtain⟨b,xs,rfl,h1,h2⟩:=r.tupE0
  rw[<-zB h2 e]
  exact⟨b,rfl,h1⟩
 |_=>cases e
theorem T6{ok:Ok}{x:D}{S:List (List Int)}(e:OD x=some S)(B:S≠[])(r:RA K ok pl H v x):∃a,v = .ref a/\L2.Rd H a (.dT (dtI S)):=by
 cases x with
 |dict kvs=>
  obtain⟨a,rfl,h⟩:=r.dicE (zA e)
  rw[Du e B]at h
  exact⟨a,rfl,h⟩
 |_=>cases e
theorem Dv:∀{k B:List Int},k.map (Sum.inl:Int->Key)=B.map Sum.inl->k=B
 |[],[],_=>rfl
 |[],_::_,h=>by cases h
 |_::_,[],h=>by cases h
 |a::k,b::B,h=>by
  rw[aP,aP]at h
  injection h with h1 h2
  injection h1 with h1
  rw[h1,Dv h2]
theorem XC(S:List (List Int))(k:List Int):putK (dtI S) (k.map Sum.inl) (.bl true)=dtI (m5 S k):=by
 unfold putK m5 dtI
 have e:((S.map λk=>((k.map Sum.inl,V.bl true):List Key×V)).any λq=>decide (q.1=k.map Sum.inl))=decide (k∈S):=by
  induction S with
  |nil=>rfl
  |cons q S Z=>
   rw[aP,m9,Z]
   by_cases h:q=k
   ·subst h;simp
   ·have h2:¬k=q:=λz=>h z.symm
    have Y:¬q.map (Sum.inl:Int->Key)=k.map Sum.inl:=λz=>h (Dv z)
    simp[h2,Y]
 rw[e]
 by_cases h:k∈S
 ·rw[dTr h,if_pos rfl,if_pos h,cR]
  refine dN λq _=>?_
  show(if q.map Sum.inl=k.map Sum.inl then(q.map Sum.inl,V.bl true)else(q.map Sum.inl,V.bl true))=_
  split<;>rfl
 ·rw[dFa h,if_neg aY,if_neg h,cI]
  rfl
section
variable{K:PySem.W.Frag}{fl:List Fl}
theorem O8{σ:L2.St}{x:D}{S:List (List Int)}(R:Rel K fl G ow σ H δ)(O:fl[i]? = some .N)(hx:ao i δ=some x)(B:OD x=some S)(hS:S≠[]):
 ∃a,σ[i]? = some (some (.ref a))/\H a=some (.dT (dtI S))/\∀H',Same H H'->∀J,J≠[]->∃W,Rel K fl G W σ (upd H' a (.dT (dtI J))) (δ.set i (some (.d (dsT J)))):=by
 have e:=m_ hx
 have hi:i<δ.length:=by
  rcases gD i δ.length with z|z
  ·exact z
  ·rw[bG z]at e;cases e
 obtain⟨v,h1,h2,T⟩:=R.nr i x (by rw[O];rfl) e
 generalize X:ow.n i=as at h2 T
 cases h2 with
 |dic ha V=>
  rename_i a u kvs
  rw[V.old (zA B)]at ha
  have Z:=ha
  rw[Du B hS]at Z
  refine⟨a,h1,Z,λH' s J Y=>?_⟩
  refine(R.grow s).mutN (as:=[a]) O hi (by rw[X];exact gR _) (s _ _ ha) h1 ?_ (λb U=>by rw[X];exact U) (eO.mpr ⟨dB,.nil⟩)
  refine .dic cU (.inl ⟨zA (zm J),?_⟩)
  rw[Du (zm J) Y]
 |non=>cases B
 |bl _=>cases B
 |int _=>cases B
 |str _=>cases B
 |lst _ _=>cases B
 |tup _ _=>cases B
end
def VH:V->V->V->Hp->(Hp->Prop)->Prop:=λo i v H Q=>∃p kvs k b,o = .ref p/\i = .ref b/\H p=some (.dT kvs)/\H b=some (.tup (oY kV k))/\kvs.length<sizeLine/\Q (upd H p (.dT (putK kvs k v)))
section
variable{X:Cx}{fl:List Fl}{e a b c ke:Expr}{f fa fb fc fk:FE}{pos:Pos}
theorem O9(B:X.A.units+1<cLine):RW X VH:=by
 intro pins s σ H o i v R P u Q I Y W Z h
 obtain⟨p,kvs,k,b,rfl,rfl,V,T,U,q⟩:=h
 cases Y
 exact BK B I (Im.t V T U) W Z λs' S=>⟨_,S,q⟩
end
end XT
namespace XT
open PySem PySem.Spec PyProof.Rows L2 My D3 XK
end XT
namespace XV
open PySem PySem.Spec PyProof.Rows L2 My D3
section
variable{K:PySem.W.Frag}{fl:List Fl}
end
end XV
namespace XB
open PySem PySem.Spec PyProof.Rows L2 My D3 XK
section
variable{K:PySem.W.Frag}{fl:List Fl}
end
section
variable{X:Cx}{fl:List Fl}{e a b c ke:Expr}{f fa fb fc fk:FE}{pos:Pos}
end
end XB
namespace XB
open PySem PySem.Spec PyProof.Rows L2 My D3 XK
section
variable{X:Cx}{fl:List Fl}{e:Expr}{pos:Pos}
theorem Dw(B:X.calm=true):lU X (.builtin "sorted") (λxs H Q=>∃(p:Addr)(ks:List (Key×V))(is:List Int),xs=[.ref p]/\L2.Rd H p (.dK ks)/\ks.map (·.1)=is.map Sum.inl/\is.length<64/\∀l,H l=none->Q (.ref l) (upd H l (.lst ((Aj is).map V.int)))):=by
 intro pins s σ H xs us Q I r h
 obtain⟨p,ks,is,rfl,E,z,Z,q⟩:=h
 obtain⟨u,rfl,J⟩:=vals1 r
 cases J
 obtain⟨_,hd,vs,rel,g⟩:=Bx I.hok E
 obtain⟨ep,M⟩:=g.dictAt
 have L:vs.map (·.1)=is.map Sum.inl:=by rw[<-rel.keys];exact z
 have hlen:vs.length=is.length:=by
  have:=congrArg pD L
  rwa[aq,aq]at this
 refine ba eg dE dL (args_sorted1 _) ?_
 unfold Builtin.«sorted»
 refine aa (m:=checkCount "sorted" 1 1 _) (ae ?_)
 refine aa (PySem.W.kdu_collect (A:=X.A.in1) (PySem.W.kdl_dict (knd:=je X.prog X.w) (kvs:=vs) (ep:=ep) hd) (I.ok.hd B) M (by rw[hlen];exact bF (dW Z) (by decide)) λh' tk acc D Y=>?_)
 have O:acc.toList.length=is.length:=by rw[bD,Y.1,hlen]
 have y:IntsAre acc.toList is:=JK _ _ O λj v P=>by
  obtain⟨k,x,N,S⟩:=Y.2 j v (by rw[<-cL];exact P)
  have R:(vs.map (·.1))[j]? = some k:=by rw[bw,N];rfl
  rw[L,bw]at R
  cases e2:is[j]? with
  |none=>rw[e2]at R;cases R
  |some i=>
   rw[e2]at R
   have n:k=Sum.inl i:=by
    cases R
    rfl
   subst n
   rw[Ht]at S
   obtain⟨t,rfl⟩:∃t,v=Value.int i t:=Value.isInt_shape S
   exact⟨i,t,rfl,rfl⟩
 have K:L2.Inv X pins σ H {s with heap:=h',toks:=tk}:=I.kept D
 refine aa (bE ?_ (by rw[O];exact bF (dW Z) (by decide)))
 have U:(h'.push (seqObj "list" acc.toList.toArray 0)).get? h'.objs.size=some (seqObj "list" acc.toList.toArray 0):=ag _ rfl
 show wpAny _ _ _ _ _ {s with heap:=h'.push (seqObj "list" acc.toList.toArray 0),toks:=tk}
 refine aa (ap (ar c9 ⟨_,U,rfl⟩ cE (list_sort_tree U y (by rw[O];exact Z) λout G c d f=>⟨_,rfl,?_⟩) (eD _)))
 refine ae ⟨_,rfl,?_⟩
 obtain rfl:=wG (d.trans (qy _).symm) f (sW _)
 obtain⟨e,C⟩:=sortedHeap_at (out:=out) U
 have hn:H h'.objs.size=none:=K.hok.fresh (aL _)
 have F:(Aj is).length=is.length:=(qy _).length_eq
 have I2:=K.laid (h':=sortedHeap (h'.push (seqObj "list" acc.toList.toArray 0)) h'.objs.size acc.toList out) (t':=tk) (a:=h'.objs.size) (o:=.lst ((Aj is).map V.int)) (λb u e=>by
  have T:=af e
  rw[eB (aW T) (by rw[cS];exact gQ T)]
  exact ad _ e) (aL _)
  ⟨by rw[aq,F];exact bF (dW Z) (by decide),out.toList,e,D3.oR c,by simpa[seqObj]using C⟩
 exact⟨.ref _,_,I2,rfl,q _ hn⟩
end
end XB
namespace XD
open PySem PySem.Spec PyProof.Rows L2 My D3 XK
section
variable{X:Cx}{fl:List Fl}{e a b c ke ve:Expr}{f fa fb fc fk fv:FE}{pos:Pos}
end
section
variable{K:PySem.W.Frag}{fl:List Fl}
end
section
variable{X:Cx}{pins:List (Addr×Obj)}{σ:L2.St}{H:Hp}{s:Shared}{a:Addr}{kvs:List (Key×V)}{k:Key}{z:V}{u r:Value}{A:Around}{E:Value->Shared->Prop}
end
section
variable{X:Cx}{o e f:Expr}{apos cpos:Pos}{td ty tx:TE}
end
section
variable{X:Cx}{fl:List Fl}{ke ve:Expr}{fk fv:FE}{pos:Pos}
theorem set_same(h:δ[i]? = some (some (.d y))):δ.set i (some (.d y))=δ:=by
 apply dX
 intro j
 rw[lK]
 split
 ·next z=>
  subst z
  split
  ·exact h.symm
  ·next z=>rw[bG (Nat.le_of_not_lt z)]at h;cases h
 ·rfl
end
end XD
namespace TD
open PySem PySem.Spec PyProof.Rows
section
variable{prog:Program}{w:World}{A:Around}{E:Value->Shared->Prop}{s:Shared}{d it:Addr}{es:Array DictEntry}{i ep:Nat}
def xP(h:Heap)(d:Addr)(es:Array DictEntry)(ep:Nat):Prop:=∃o,h.get? d=some o/\o.ExactDict/\o.data = .dict es ep
theorem xP.typ(m:xP s.heap d es ep):s.TypeIs (.ref d) "dict" := let⟨o,h1,h2,_⟩:=m;⟨o,h1,h2.1⟩
theorem xP.kept(m:xP h d es ep)(k:∀o,h.get? d=some o->h'.get? d=some o):xP h' d es ep:=let⟨o,h1,r⟩:=m;⟨o,k o h1,r⟩
theorem XF(lo:(d==sysModules)=false)(m:xP s.heap d es ep)(q:Q (.ref s.heap.objs.size) {s with heap:=s.heap.push {cls:=.type "dict_keyiterator", data:=.fields #[.ref d,.int 0 0,.int es.size 0,.int ep 0]} }):
 wpAny (model prog w) A (pyIter (.ref d)) Q E s:=by
 obtain⟨o,h1,h2,Z⟩:=id m
 refine wpAny_pyIter_slot m.typ F.slot_dict_iter (ar F.slot_dict_iter m.typ F.entry_dict_iter ?_ (F.args_dict_iter_1 _))
 unfold Builtin.«dict.__iter__» Builtin.Dict.dictSlotNone
 refine aa (aa (wpAny_notOrdered_dict m.typ (ae (a:=Value.ref d) ?_)))
 show wpAny _ _ (Builtin.Dict.showsAll d >>= _) _ _ s
 unfold Builtin.Dict.showsAll
 rw[if_neg (by rw[lo];exact aY)]
 refine aa (ae (aa (bt h1 Z (aa (d6 h1 Z (aa (aE (ae ⟨_,rfl, "dict_keyiterator", _,⟨_,ag _ rfl,rfl⟩,F.slot_dict_keyiterator_next.lookup,?_⟩))))))))
 simpa[rawInt]using q
theorem XH{Q:Option Value->Shared->Prop}{e:DictEntry}(g:s.heap.IsKeyIter it d i es.size ep)(m:xP s.heap d es ep)(B:es[i]? = some e)
 (q:∀h',h'.IsKeyIter it d (i+1) es.size ep->Heap.SameBut it s.heap h'->Q (some e.key) {s with heap:=h'}):wpAny (model prog w) A (pyNext (.ref it)) Q E s:=by
 obtain⟨o,Z,X,hd⟩:=id g
 obtain⟨od,h1,h2,Y⟩:=id m
 have ty:=g.typeIs
 unfold pyNext
 refine aa (bP (av (name:=Str.ofString "__next__") ty a_ (ar a_ ty dy ?_ (dm _))))
 refine aa (ae (aa (aa ?_)))
 first|refine aa (a9 ty (ae (aa (c8 Z hd ?_))))|refine aa (bn ty (ae (aa (c8 Z hd ?_))))
 simp only[show Builtin.Dict_items.ownsTuple "dict_keyiterator"=false by decide,fG,if_false]
 show wpAny _ _ (if(Value.ref d==Value.none)=true then _ else _) _ _ s
 rw[if_neg (show ¬((Value.ref d==Value.none)=true)from aY)]
 refine aa (ae (aa (bt h1 Y ?_)))
 rw[if_neg (by simp)]
 refine aa (ae (aa (d6 h1 Y ?_)))
 rw[if_neg (by simp)]
 refine ae ?_
 simp only[show ¬((i:Int)<0)from by omega,if_false,eZ,B]
 refine aa ?_
 first|refine aa (a9 ty (ae (aa (cy ty ?_))))|refine aa (bn ty (ae (aa (cy ty ?_))))
 show wpAny _ _ (setField (.ref it) 1 (rawInt ((i:Int)+1)) >>= _) _ _ s
 refine aa (c7 Z hd (by simp) ?_)
 have g':(s.heap.update it (Obj.mapFields (·.setIfInBounds 1 (rawInt ((i:Int)+1))))).IsKeyIter it d (i+1) es.size ep:=
  ⟨_,az _ Z (eH (b5 hd _)),(Obj.cls_mapFields ..).trans X,by rw[b5 hd];simp[rawInt]⟩
 refine aa (ap (aa (cy (s:={s with heap:=s.heap.update it (Obj.mapFields (·.setIfInBounds 1 (rawInt ((i:Int)+1))))}) g'.typeIs ?_)))
 show wpAny _ _ (pure e.key) _ _ _
 exact ae (ae ⟨_,rfl,ae (q _ g' (Heap.SameBut.update ..))⟩)
theorem XM{Q:Option Value->Shared->Prop}(D:A.handled=none)(g:s.heap.IsKeyIter it d i es.size ep)(m:xP s.heap d es ep)(B:es[i]? = none)
 (q:∀h',Heap.ExtBut it s.heap h'->Q none {s with heap:=h'}):wpAny (model prog w) A (pyNext (.ref it)) Q E s:=by
 obtain⟨o,Z,X,hd⟩:=id g
 obtain⟨od,h1,h2,Y⟩:=id m
 have ty:=g.typeIs
 unfold pyNext
 refine aa (bP (av (name:=Str.ofString "__next__") ty a_ (ar a_ ty dy ?_ (dm _))))
 refine aa (ae (aa (aa ?_)))
 first|refine aa (a9 ty (ae (aa (c8 Z hd ?_))))|refine aa (bn ty (ae (aa (c8 Z hd ?_))))
 simp only[show Builtin.Dict_items.ownsTuple "dict_keyiterator"=false by decide,fG,if_false]
 show wpAny _ _ (if(Value.ref d==Value.none)=true then _ else _) _ _ s
 rw[if_neg (show ¬((Value.ref d==Value.none)=true)from aY)]
 refine aa (ae (aa (bt h1 Y ?_)))
 rw[if_neg (by simp)]
 refine aa (ae (aa (d6 h1 Y ?_)))
 rw[if_neg (by simp)]
 refine ae ?_
 simp only[show ¬((i:Int)<0)from by omega,if_false,eZ,B]
 refine aa ?_
 first|refine aa (a9 ty (ae ?_))|refine aa (bn ty (ae ?_))
 refine aa (m:=setField (.ref it) 0 .none) (c7 Z hd (by simp) ?_)
 refine aa (m:=newExc (.type "StopIteration") []) ?_
 simp only[newExc,newTuple]
 refine aa (aE (aa (m:=firstArgMember _ _) (wpAny_of_eq (a:=Value.none) (by first|rfl|(simp only[firstArgMember];rfl)) (aE ?_ (by size_fits)))) (by size_fits))
 simp only[raiseNew]
 refine aa (wpAny_handled ?_)
 rw[show A.in1.handled=none from D]
 refine aa (ae (wpAny_throw ?_))
 refine aa (cm (b:=true) ⟨_,ag _ rfl,rfl⟩ eC (ae ?_))
 exact q _ (((Heap.SameBut.update ..).extBut.push _).push _)
theorem Z0(D:A.handled=none)(I d:Addr)(B:d≠I)(es:Array DictEntry)(ep:Nat):Walks prog w A I [I,d] [I] es.size (λi v=>∃e,es[i]? = some e/\v=e.key) (λi h=>h.IsKeyIter I d i es.size ep/\xP h d es ep) where
 sub:=λb Z=>by simp at Z;simp[Z]
 frame:=λ_ _ _ st X=>⟨st.1.at λo e=>X I (by simp) o e,st.2.kept λo e=>X d (by simp) o e⟩
 item:=λi s Q E hi st Y=>XH (e:=es[i]) st.1 st.2 (by simp[hi]) λh' g hs=>Y _ h' s.toks ⟨es[i],by simp[hi],rfl⟩ ⟨g,st.2.kept λo e=>hs.extBut d o B e⟩ λb o Z e=>hs.extBut b o (λh=>Z (by simp[h])) e
 done:=λs Q E st Y=>XM D st.1 st.2 (by simp) λh' W=>Y h' s.toks λb o Z e=>W b o (λh=>Z (by simp[h])) e
 self:=λ_ _ _ _ st Y=>wpAny_pyIter_keyiter st.1 Y
theorem T7(lo:(d==sysModules)=false):W.KdlSrc prog w "dict" d d es.size (λi v=>∃e,es[i]? = some e/\v=e.key) (λh=>xP h d es ep) where
 type:=λ_ m=>m.typ
 there:=λ_ m=>let⟨_,h1,_⟩:=m;⟨af h1,af h1⟩
 keep:=λ_ _ m Y=>m.kept λo e=>Y d (.inl rfl) o e
 notList:=by decide
 notTuple:=by decide
 hint:=λ_ _ _ _ m Z=>W.kdl_hint_dict m.typ Z
 iter:=λA s X m=>⟨_,_,(λ_ _ q=>XF lo m q),Z0 X _ d (let⟨_,h1,_⟩:=m;aW (af h1)) es ep,⟨⟨_,ag _ rfl,rfl,rfl⟩,m.kept λo e=>ad _ e⟩⟩
theorem T8(lo:(d==sysModules)=false)(m:xP s.heap d es ep)(B:(es.size:Int)<2^63)(q:∀t tk,Q (.int es.size t) {s with toks:=tk}):wpAny (model prog w) A (call (.builtin "len") [.ref d]) Q E s:=by
 obtain⟨o,h1,h2,Z⟩:=id m
 refine ba kind_len plain_len entry_len (args_len1 _) ?_
 unfold Builtin.«len»
 refine aa (m:=oneArg "len" _) (ae (aa (m:=callSpecial? (.ref d) (Str.ofString "__len__")) (av (name:=Str.ofString "__len__") m.typ F.slot_dict_len (ar F.slot_dict_len m.typ F.entry_dict_len ?_ (F.args_dict_len_1 _)))))
 refine aa (m:=dictSize d) ?_
 unfold dictSize
 refine aa (bt h1 Z (ae (aa (m:=Builtin.Dict.pendingCount d) (wpAny_pendingCount_other lo ?_))))
 refine aa (wpAny_mkInt (ae ⟨_,rfl,?_⟩))
 rw[ju]
 refine aa (ap (ae (aa (wpAny_letGo ?_))))
 show wpAny _ _ (if((es.size:Nat):Int)<0 then _ else _) _ _ _
 rw[if_neg (by omega)]
 show wpAny _ _ (if((es.size:Nat):Int)≥2^63 then _ else _) _ _ _
 rw[if_neg (by omega)]
 exact aa (wpAny_mkInt (ae ⟨_,rfl,q _ _⟩))
end
section
variable{prog:Program}{w:World}{K:Type}[DecidableEq K]{knd:HeapKind prog w K}{A:Around}{E:Value->Shared->Prop}{s:Shared}{d a:Addr}{xs:List (K×Addr×Value)}{k:K}{v:Value}
theorem O_(D:knd.room A.in1)(B:knd.is s.heap k a)(lo:(d==sysModules)=false)(m:s.heap.DictOfH knd d xs)(hz:xs.length<=sizeLine)
 (h1:∀p tk,atKey xs k=some p->Q p.2 {s with toks:=tk}) (h2:∀h' tk,atKey xs k=none->h'.DictOfH knd d (xs++[(k,a,v)])->Heap.SameBut d s.heap h'->Q v {s with heap:=h',toks:=tk}) :
 wpAny (model prog w) A (call (.builtin "dict.setdefault") [.ref d,.ref a,v]) Q E s:=by
 have ty:=m.typeIs
 obtain⟨o,es,ep,Y,P,hd,U,V,hn⟩:=m
 refine ar F.slot_dict_setdefault ty F.entry_dict_setdefault ?_ (F.args_dict_setdefault_3 _ _ _)
 unfold Builtin.«dict.setdefault» Builtin.Dict.keyAndDefault
 refine aa (aa (wpAny_notOrdered_dict ty (ae (a:=(d,Value.ref a,some v)) ?_)))
 show wpAny _ _ (if(d==sysModules)=true then _ else(dictSetDefault d (.ref a) v >>= _)) _ _ s
 rw[if_neg (by rw[lo];exact aY)]
 refine aa ?_
 unfold dictSetDefault
 try with_reducible refine ap ?_
 refine aa (knd.pyHash D B (aa (wpAny_dictFind_heap (s:={s with toks:=s.toks+knd.draws k}) D B Y hd U V hn (λW=>?_) λj p T=>?_)))
 ·have S:=atKey_none_of_get W
  have X:=not_mem_keys_of_get W
  refine aa (be (aa (wpAny_updateDictKeys (hz:=by have e:=size_of_entries U;omega) (s:={s with toks:=s.toks+knd.draws k}) Y hd (ae (ae ⟨_,rfl,h2 _ _ S ⟨_,_,ep+1,az _ Y (Obj.isFreed_of_dict (eJ hd _)),P.mapDictKeys _,eJ hd _,?_,?_,?_⟩ (Heap.SameBut.update ..)⟩)))))
  ·simp[U,entryOfKey]
  ·intro x Z
   rcases cG.mp Z with Z|Z
   ·exact knd.keeps (V x Z) Y hd (.update ..)
   ·rw[aN.mp Z]
    exact knd.keeps B Y hd (.update ..)
  ·rw[cI,pF]
   exact⟨hn,by simp,λx Z y R=>by
    rw[show y=k by simpa using R]
    exact λe=>X (e▸Z)⟩
 ·refine aa (bt (s:={s with toks:=s.toks+knd.draws k}) Y hd ?_)
  rw[entry_at U j,T]
  exact aa (be (ae (ae ⟨_,rfl,h1 p _ (atKey_of_get hn T)⟩)))
end
end TD
variable{S:List D3.Tte}
namespace XJ
open PySem PySem.Spec PyProof.Rows L2 My D3 XK XT XD
theorem Gm:∀k:List Int,flats (k.map PyData.int)=true
 |[]=>rfl
 |i::k=>by rw[aP,flats,Gm k];rfl
theorem T9(q:List Int×Int):flat (ttV q)=true:=by
 show(flats (q.1.map PyData.int)&&true)=true
 rw[Gm]
 rfl
theorem tw_ra{ok:Ok}{q:List Int×Int}(t:TW H v q.1 q.2):RA K ok pl H v (ttV q):=by
 obtain⟨b,c,rfl,h1,h2⟩:=t
 exact .tup h1 (.cons (.tup h2 (rO _)) (.cons (.int _) .nil))
theorem T_(k:List Int):oY kV (k.map Sum.inl)=k.map V.int:=by
 rw[cR]
 rfl
theorem JL{ok:Ok}:∀{xs:List V}{k:List Int},RAs K ok pl H xs (k.map PyData.int)->xs=k.map V.int
 |_,[],.nil=>rfl
 |_,i::k,.cons a q=>by rw[a.intE,JL q];rfl
theorem Z1{ok:Ok}{q:List Int×Int}(r:RA K ok pl H v (ttV q)):TW H v q.1 q.2:=by
 obtain⟨b,xs,rfl,h1,h2⟩:=r.tupE0
 cases h2 with
 |cons W Z=>
 cases Z with
 |cons Z X=>
 cases X
 obtain⟨c,ys,rfl,Y,V⟩:=W.tupE0
 rw[JL V]at Y
 obtain rfl:=Z.intE
 exact⟨b,c,rfl,h1,Y⟩
theorem VJ(g:DH H u (ttP S)):(S=[]/\u = .dK [])\/∃q ks,u = .dT (q::ks)/\TTs H (q::ks) (ttP S):=by
 rcases g with⟨g1,g2⟩|⟨ks,rfl,g⟩|g
 ·cases S with
  |nil=>exact .inl ⟨rfl,g2⟩
  |cons q S=>exact absurd g1 aY
 ·cases S with
  |nil=>cases g;exact .inl ⟨rfl,rfl⟩
  |cons q S=>cases g
 ·exact .inr g
theorem JM{ok:Ok}{x:D}(e:Le x=some S)(r:RA K ok pl H v x):∃a,v = .ref a/\((S=[]/\L2.Rd H a (.dK []))\/∃q ks,L2.Rd H a (.dT (q::ks))/\TTs H (q::ks) (ttP S)):=by
 obtain rfl:=Ds e
 obtain⟨a,u,rfl,h2,g⟩:=RA.dicU (kvs:=ttP S) r
 rcases VJ g with⟨h,rfl⟩|⟨q,ks,rfl,t⟩
 ·exact⟨a,rfl,.inl ⟨h,h2⟩⟩
 ·exact⟨a,rfl,.inr ⟨q,ks,h2,t⟩⟩
theorem Dy:∀{S:List Tte}{ks:List (List Key×V)}(k:List Int),TTs H ks (ttP S)->(pX S k=none/\qH ks (k.map Sum.inl)=none)\/∃p v,pX S k=some p/\qH ks (k.map Sum.inl)=some v/\TW H v p.1 p.2
 |[],_,k,h=>by cases h;exact .inl ⟨rfl,rfl⟩
 |q::S,ks,k,h=>by
  obtain⟨v,r,rfl,t,Y⟩:∃v r,ks=(q.1.map Sum.inl,v)::r/\TW H v q.2.1 q.2.2/\TTs H r (ttP S):=by
   generalize Z:ttP (q::S)=g at h
   cases h with
   |nil=>cases Z
   |cons t r=>
    rename_i W m z v X R
    have Z:(rwD q.1,ttV q.2)::ttP S=_:=Z
    injection Z with h1 h2
    injection h1 with h1 U
    have T:q.1=W:=by
     have:=congrArg (λd=>Dq d) h1
     simpa[rwD,Dq,pO]using this
    have e2:q.2=(m,z):=by
     have:=congrArg (λd=>Lf d) U
     have this:q.2.1=m/\q.2.2=z:=by simpa[ttV,rwD,Lf,pO]using this
     exact Prod.ext this.1 this.2
    subst T
    rw[e2]
    exact⟨v,X,rfl,t,h2▸r⟩
  by_cases e:q.1=k
  ·refine .inr ⟨q.2,v,?_,vO (by rw[e]),t⟩
   simp[pX,e]
  ·rw[vQ (λz=>e (Dv z))]
   have:pX (q::S) k=pX S k:=by simp[pX,e]
   rw[this]
   exact Dy k Y
theorem Pa{p:List Int×Int}{k:List Int}(t:TW H v p.1 p.2):∀{S:List Tte}{ks:List (List Key×V)},TTs H ks (ttP S)->TTs H (ks++[(k.map Sum.inl,v)]) (ttP (S++[(k,p)])):=by
 intro S ks h
 rw[show ttP (S++[(k,p)])=ttP S++[(rwD k,ttV p)]by unfold ttP;rw[cI];rfl]
 generalize ttP S=g at h ⊢
 induction h with
 |nil=>exact .cons t .nil
 |cons t' _ Z=>exact .cons t' Z
theorem Ua{ks:List (List Key×V)}(h:TTs H ks (ttP S)):ks.length=S.length:=by
 have:ks.length=(ttP S).length:=by
  generalize ttP S=g at h ⊢
  induction h with
  |nil=>rfl
  |cons _ _ Z=>rw[bC,bC,Z]
 rw[this,ttP,aq]
section
variable{X:Cx}{fl:List Fl}{e a b:Expr}{fa fb fk fv:FE}{pos:Pos}
theorem Gn(B:X.A.units+1<cLine)(ha:DE X fl .P a fa)(D:DE X fl .P b fb)(hs:Xy b):DE X fl .FC (.Subscript a b pos) (dOp lD fa fb):=PE.imp (T3 B ha D hs) λσ H Q h=>by
 obtain⟨G,ow,δ,d,R,O,q⟩:=h
 obtain⟨x,y,I,e2,J⟩:=Bp O
 refine⟨G,ow,δ,x,R,I,λv H1 s1 T=>⟨G,ow,δ,y,R.grow s1,e2,λu H2 s2 U=>?_⟩⟩
 obtain⟨S,K,L⟩:=bind1 J
 obtain⟨k,M,Y⟩:=bind1 L
 obtain⟨F,rfl,V⟩:=yd M U
 obtain⟨p,rfl,W⟩:=JM K T
 cases Z:pX S k with
 |none=>rw[Z]at Y;cases Y
 |some z=>
  rw[Z]at Y
  cases Y
  rcases W with⟨rfl,_⟩|⟨q1,ks,W,t⟩
  ·cases Z
  ·have t:=t.imp λ_ _ z=>jH.same s2 z
   rcases Dy k t with⟨h1,_⟩|⟨E,w,h1,h2,N⟩
   ·rw[h1]at Z;cases Z
   ·rw[h1]at Z
    cases Z
    exact⟨p,w,rfl,.inr ⟨_,_,F,T4 s2 W,rfl,V,h2.symm⟩,q _ H2 (s1.trans s2) (.inl ⟨T9 z,tw_ra N⟩)⟩
end
section
variable{K:PySem.W.Frag}{fl:List Fl}
theorem XQ{σ:L2.St}{x:D}(R:Rel K fl G ow σ H δ)(Y:fl[i]? = some .N)(hx:ao i δ=some x)(hq:Le x=some S):
 ∃a,σ[i]? = some (some (.ref a))/\((S=[]/\H a=some (.dK []))\/∃q ks,H a=some (.dT (q::ks))/\TTs H (q::ks) (ttP S))/\∀H',Same H H'->∀J B W,TTs H' (J::B) (ttP W)->∃O,Rel K fl G O σ (upd H' a (.dT (J::B))) (δ.set i (some (.d (dtt W)))):=by
 have e:=m_ hx
 have hi:i<δ.length:=by
  rcases gD i δ.length with z|z
  ·exact z
  ·rw[bG z]at e;cases e
 obtain⟨v,h1,h2,U⟩:=R.nr i x (by rw[Y];rfl) e
 generalize X:ow.n i=as at h2 U
 obtain rfl:=Ds hq
 have h2:RT K H v (.dict (ttP S)) as:=h2
 cases h2 with
 |dic ha Z=>
  rename_i a u
  have fin:∀H',Same H H'->∀J B W,TTs H' (J::B) (ttP W)->∃O,Rel K fl G O σ (upd H' a (.dT (J::B))) (δ.set i (some (.d (dtt W)))):=λH' s J B W t'=>by
   have:=Z.chg
   refine(R.grow s).mutN (as:=[a]) Y hi (by rw[X];exact gR _) (s _ _ ha) h1 ?_ (λb V=>by rw[X];exact V) (eO.mpr ⟨dB,.nil⟩)
   exact .dic cU (.inr (.inr ⟨J,B,rfl,t'.imp λ_ _ z=>jH.upd (s _ _ ha) z⟩))
  rcases VJ Z with⟨h,rfl⟩|⟨q,ks,rfl,t⟩
  ·exact⟨a,h1,.inl ⟨h,ha⟩,fin⟩
  ·exact⟨a,h1,.inr ⟨q,ks,ha,t⟩,fin⟩
end
section
variable{X:Cx}{pins:List (Addr×Obj)}{σ:L2.St}{H:Hp}{s:Shared}{a b:Addr}{kvs:List (List Key×V)}{k:List Key}{z:V}{u r:Value}{A:Around}{E:Value->Shared->Prop}
theorem Pg(I:L2.Inv X pins σ H s)(e:H a=some (.dK [])):L2.Inv X pins σ (upd H a (.dT [])) s:=by
 obtain⟨_,hd,vs,rel,o,es,ep,h1,h2,W,U,Y,V⟩:=VF I.hok e
 cases rel
 have Z:es.toList=[]:=by
  have:=Y.length
  exact cJ.mp this
 exact yc (h':=s.heap) (t':=s.toks) I (by rw[e];exact True.intro) (.refl a s.heap) ⟨o,h1⟩ ⟨cZ _,hd,[],.nil,o,es,ep,h1,h2,W,Z,List.nodup_nil⟩
theorem Ph(O:A.units+1<cLine)(I:L2.Inv X pins σ H s)(e:H a=some (.dT kvs))(hl:kvs.length<sizeLine)(D:H b=some (.tup (oY kV k)))(J:RelV z r)
 (h1:∀v B s',qH kvs k=some v->L2.Inv X pins σ H s'->RelV v B->Q B s') (h2:∀s',qH kvs k=none->L2.Inv X pins σ (upd H a (.dT (kvs++[(k,z)]))) s'->Q r s') :
 wpAny (model X.prog X.w) A (call (.builtin "dict.setdefault") [.ref a,.ref b,r]) Q E s:=by
 obtain⟨T,hd,xs,rel,N⟩:=VG I.hok e
 have S:xs.length=kvs.length:=(Paired.length rel).symm
 refine TD.O_ (df O) (Dt I.hok D) hd N (by rw[S];exact T) (λp tk Y=>?_) λh' tk Y W hs=>?_
 ·have q:=rel.val k
  rw[Y]at q
  cases Z:qH kvs k with
  |none=>rw[Z]at q;cases q
  |some v=>
   rw[Z]at q
   exact h1 v _ _ Z (I.tok _) q
 ·have q:=rel.val k
  rw[Y]at q
  have Z:qH kvs k=none:=by
   cases Z:qH kvs k with
   |none=>rfl
   |some v=>rw[Z]at q;cases q
  obtain⟨o,es,ep,V,g2,g3,P,_,R⟩:=W
  refine h2 _ Z (yc I (by rw[e];exact True.intro) hs ⟨o,V⟩ ⟨by rw[bh];exact hl,hd,_,KT.keeps (Paired.snoc rel ⟨rfl,D,J⟩) λc ys U=>?_,o,es,ep,V,g2,g3,P,R⟩)
  rw[cO (yD U e (λz=>nomatch z))]
  exact U
end
def Z2(td ty tx:TE):TE:=λσ H Q=>td σ H λx H1=>∃a,x = .ref a/\IsD H1 a/\ty σ H1 λy H2=>tx σ H2 λz Z=>∃k b,y = .ref b/\Z b=some (.tup (oY kV k)) /\
 ((Z a=some (.dK [])/\Q z (upd Z a (.dT [(k,z)])))\/∃kvs,Z a=some (.dT kvs)/\kvs.length<sizeLine/\(∀v,qH kvs k=some v->Q v Z)/\(qH kvs k=none->Q z (upd Z a (.dT (kvs++[(k,z)])))))
section
variable{X:Cx}{o e f:Expr}{apos cpos:Pos}{td ty tx:TE}
theorem Ub(B:X.A.units+1<cLine)(ho:PE X o td)(he:PE X e ty)(hf:PE X f tx)(m:M2 X o "setdefault" apos e f cpos):PE X (.Call (.Attribute o "setdefault" apos) [e,f] [] cpos) (Z2 td ty tx):=by
 intro pins s σ H Q I h
 refine wpAny_Call_method m.base m.few m.line PySem.F.plainAttrs_dict PySem.F.slot_dict_setdefault PySem.F.type_dict_setdefault (thn (ho pins s σ H _ I h) λu s1 ⟨x,H1,O,G,a,ex,d,q1⟩=>?_)
 subst ex
 obtain rfl:u=Value.ref a:=G
 obtain⟨K,L,_⟩:=Xz O d
 refine⟨K,L,?_⟩
 rw[m.trees]
 refine d3 rfl (ew (a8 (thn (he pins s1 σ H1 _ O q1) λD s2 ⟨y,H2,r,J,q2⟩=>
  a8 (thn (hf pins s2 σ H2 _ r q2) λfv s3 ⟨z,N,P,Y,k,b,t,S,T⟩=>bo ?_))))
 subst t
 obtain rfl:D=Value.ref b:=J
 rcases T with⟨W,q⟩|⟨kvs,W,C,T,E⟩
 ·have Z:=Pg P W
  have w:upd N a (.dT []) b=some (.tup (oY kV k)):=by
   rw[cO (yD S W (λz=>nomatch z))]
   exact S
  exact Ph B Z cU (show 0<sizeLine by decide) w Y (λv M V l _ _=>by cases l) λV _ R=>by
   rw[Jf]at R
   exact⟨z,_,R,Y,q⟩
 ·exact Ph B P W C S Y (λv M V l Z U=>⟨v,N,Z,U,T v l⟩) λV l Z=>⟨z,_,Z,Y,E l⟩
end
section
variable{X:Cx}{fl:List Fl}{ke ve:Expr}{fk fv:FE}{pos:Pos}
theorem Pj{apos cpos:Pos}(hu:X.A.units+1<cLine)(B:fl[i]? = some .N)(hk:DE X fl .P ke fk)(hw:DE X fl .P ve fv)(hN:X.N[i]? = some x)(hm:M2 X (.Name x vpos) "setdefault" apos ke ve cpos)(hv:Vis X.env.scope x:=by first|exact Or.inl rfl|exact Or.inr (Or.inl rfl)|exact Or.inr (Or.inr rfl))(hd:(x==("__debug__":Str))=false:=by decide)
 (D:(x==("__classdict__":Str))=false:=by decide) (hs:swapsWith (.Call (.Attribute (.Name x vpos) "setdefault" apos) [ke,ve] [] cpos) none pos.line X.env=pure false:=by rfl) :
 DS1 X fl (.Expr (.Call (.Attribute (.Name x vpos) "setdefault" apos) [ke,ve] [] cpos) pos) (tQ i fk fv):=PS.imp (Cu (Ub hu (rE hN hv hd D) hk hw hm) hs) λDn σ H r=>by
 obtain⟨G,ow,δ,o,R,Y,q⟩:=r
 obtain⟨y,E,V⟩:=bind1 Y
 clear Y
 obtain⟨g,e2,Y⟩:=bind1 V
 clear V
 obtain⟨zz,j,V⟩:=bind1 Y
 clear Y
 obtain⟨S,F,Y⟩:=bind1 V
 clear V
 obtain⟨k,l,V⟩:=bind1 Y
 clear Y
 obtain⟨U,m,Y⟩:=bind1 V
 clear V
 by_cases L:S.length<1000000
 case neg=>rw[if_neg L]at Y;cases Y
 rw[if_pos L]at Y
 cases Y
 obtain⟨p,h1,h2,I⟩:=XQ R B E F
 have O:IsD H p:=by
  rcases h2 with⟨_,h⟩|⟨_,_,h,_⟩
  ·exact .inl ⟨_,.inl h⟩
  ·exact .inr ⟨_,.inl h⟩
 refine⟨_,h1,p,rfl,O,G,ow,δ,_,R,e2,λu H1 s1 s=>⟨G,ow,δ,_,R.grow s1,j,λw H2 s2 J=>?_⟩⟩
 obtain⟨b,rfl,n⟩:=yd l s
 rw[TX m]at J
 have K:TW H2 w U.1 U.2:=Z1 J
 have Z:=s1.trans s2
 refine⟨k.map Sum.inl,b,rfl,s2 _ _ n,?_⟩
 rcases h2 with⟨rfl,h⟩|⟨q1,ks,h,t⟩
 ·refine .inl ⟨Z _ _ h,?_⟩
  obtain⟨T,R'⟩:=I H2 Z (k.map Sum.inl,w) [] [(k,U)] (.cons K .nil)
  exact q T σ _ R'
 ·have Q:TTs H2 (q1::ks) (ttP S):=t.imp λ_ _ z=>jH.same Z z
  refine .inr ⟨q1::ks,Z _ _ h,by rw[Ua t];exact oG L (by decide),λv W=>?_,λW=>?_⟩
  ·have M:rP S k U=S:=by
    unfold rP
    rcases Dy k Q with⟨_,b⟩|⟨d,C,a,b,_⟩
    ·rw[b]at W;cases W
    ·rw[if_pos (by rw[a];rfl)]
   rw[M]at q
   rw[<-Ds F,set_same (m_ E)]at q
   exact q ow σ _ (R.grow Z)
  ·have M:rP S k U=S++[(k,U)]:=by
    unfold rP
    rcases Dy k Q with⟨a,_⟩|⟨d,C,a,b,_⟩
    ·rw[if_neg (by rw[a];simp)]
    ·rw[b]at W;cases W
   rw[M]at q
   obtain⟨T,R'⟩:=I H2 Z q1 (ks++[(k.map Sum.inl,w)]) (S++[(k,U)]) (by
    have:=Pa (k:=k) K Q
    rw[List.cons_append]at this
    exact this)
   exact q T σ _ R'
end
end XJ
variable{xs:Array Keyed}
namespace Sq
open PySem PyProof.Rows
structure Cq where
 nu:Keyed->Int
 ok:Keyed->Prop
 κ:SortKind
class LtOk (prog:Program) (w:World) (A:Around) (s:Shared) (C:Cq):Prop where
 lt:∀{x y:Keyed}{Q:Bool->Shared->Prop}{E:Value->Shared->Prop},C.ok x->C.ok y->Q (decide (C.nu x<C.nu y)) s->wpAny (model prog w) A (keyLt' C.κ x.1 y.1) Q E s
noncomputable def KC(C:Cq)(xs:Array Keyed)(i:Nat):Int:=match xs[i]? with
 |some p=>C.nu p
 |none=>0
def STo(C:Cq)(xs:Array Keyed)(k:Nat):Prop:=∀i j,i<=j->j<k->KC C xs i<=KC C xs j
def Oks(C:Cq)(xs:Array Keyed):Prop:=∀p,p∈xs.toList->C.ok p
section
variable{C:Cq}
theorem K_congr{ys:Array Keyed}(h:xs[i]? = ys[j]?):KC C xs i=KC C ys j:=by unfold KC;rw[h]
theorem K_bubble{B d:Nat}(hs:B<xs.size)(hd:d<=B)(k:Nat):
 KC C (bubble xs B d) k=if k=B-d then KC C xs B else if B-d<k/\k<=B then KC C xs (k-1)else KC C xs k:=by
 have e:=eh hs d hd k
 split at e
 ·next z=>rw[if_pos z];exact K_congr e
 ·next z=>
  rw[if_neg z]
  split at e
  ·next y=>rw[if_pos y];exact K_congr e
  ·next y=>rw[if_neg y];exact K_congr e
theorem K_mirror(B:j<=xs.size)(k:Nat):
 KC C (mirror xs i j ((j-i)/2)) k=if i<=k/\k<j then KC C xs (i+j-1-k)else KC C xs k:=by
 have e:=da (i:=i) B k
 split at e
 ·next z=>rw[if_pos z];exact K_congr e
 ·next z=>rw[if_neg z];exact K_congr e
theorem K_mirror_equal(D:j<=xs.size)(B:∀k,i<=k->k<j->KC C xs k=KC C xs (j-1))(k:Nat):KC C (mirror xs i j ((j-i)/2)) k=KC C xs k:=by
 rw[K_mirror D]
 split
 ·rw[B _ (by omega) (by omega),B k (by omega) (by omega)]
 ·rfl
variable{M:Model}{A:Around}{E:Value->Shared->Prop}{s:Shared}{α:Type}{Q:α->SortSt->Prop}{st:SortSt}{x y:StateT SortSt Sem α}{c:Prop}[Decidable c]
theorem fW(h:c)(k:wpS M A E s x Q st):wpS M A E s (if c then x else y) Q st:=by rw[if_pos h];exact k
theorem gB(h:¬c)(k:wpS M A E s y Q st):wpS M A E s (if c then x else y) Q st:=by rw[if_neg h];exact k
theorem JN(h:wpS M A E s x Q st/\wpS M A E s y Q st):wpS M A E s (if c then x else y) Q st:=by
 split
 ·exact h.1
 ·exact h.2
theorem both{P:Nat->Prop}(h:∀g,P g)(u v:Nat):P u/\P v:=⟨h u,h v⟩
end
end Sq
variable{st:SortSt}{arr:Array Keyed}
namespace Sq
open PySem PyProof.Rows
section
variable{C:Cq}
def vR:Bool->Keyed->Array Keyed->Nat->Nat->Nat->StateT SortSt Sem (Option Nat):=sortPriv% PySem.Builtin.gallop
noncomputable def bey(left:Bool)(B:Keyed)(arr:Array Keyed)(base i:Nat):StateT SortSt Sem (Option Bool):=do
 let x <-elem' arr (base+i)
 if left then lt' x B else return(<-lt' B x).map (!·)
section
variable{prog:Program}{w:World}{A:Around}{E:Value->Shared->Prop}{s:Shared}{C:Cq}[LtOk prog w A s C]
theorem zE{x y:Keyed}{Q:Option Bool->SortSt->Prop}(J:kindOf st=C.κ)(D:C.ok x)(B:C.ok y)(h:Q (some (decide (C.nu x<C.nu y))) st):wpS (model prog w) A E s (lt' x y) Q st:=by
 rw[lt'_eq]
 refine ai (ci ?_)
 rw[J]
 exact ai (db (bP (LtOk.lt D B ⟨rfl,am h⟩)))
theorem eG{x:Keyed}{Q:Keyed->SortSt->Prop}(B:arr[i]? = some x)(h:Q x st):wpS (model prog w) A E s (elem' arr i) Q st:=by
 rw[elem'_eq,B]
 exact am h
def Pb(C:Cq)(left:Bool)(B:Keyed)(arr:Array Keyed)(base i:Nat):Bool:=if left then decide ((KC C) arr (base+i)<C.nu B)else !decide (C.nu B<(KC C) arr (base+i))
theorem vU{left:Bool}{B:Keyed}{base:Nat}{Q:Option Bool->SortSt->Prop}(J:kindOf st=C.κ)(D:C.ok B)(ha:∀p∈arr.toList,C.ok p)(hi:base+i<arr.size)(h:Q (some ((Pb C) left B arr base i)) st):wpS (model prog w) A E s (bey left B arr base i) Q st:=by
 have e:arr[base+i]? = some arr[base+i]:=getElem?_pos arr (base+i) hi
 have Z:C.ok arr[base+i]:=ha _ (by simp)
 have Y:(KC C) arr (base+i)=C.nu arr[base+i]:=by unfold KC;rw[e]
 unfold bey
 refine ai (eG e ?_)
 unfold Pb at h
 rw[Y]at h
 cases left with
 |true=>exact zE J Z D h
 |false=>exact ai (zE J D Z (am h))
theorem m6{left:Bool}{B:Keyed}{base hint:Nat}{Q:Option Nat->SortSt->Prop}(J:kindOf st=C.κ)(D:C.ok B)(ha:∀p∈arr.toList,C.ok p)(hb:base+n<=arr.size)(hh:hint<n)
 (mono:∀i j,i<=j->j<n->(Pb C) left B arr base j=true->(Pb C) left B arr base i=true)
 (h:∀k,k<=n->(∀i,i<k->(Pb C) left B arr base i=true)->(∀i,k<=i->i<n->(Pb C) left B arr base i=false)->Q (some k) st) :
 wpS (model prog w) A E s (vR left B arr base n hint) Q st:=by
 have V:∀i j,i<=j->j<n->(Pb C) left B arr base i=false->(Pb C) left B arr base j=false:=λi j h1 h2 T=>by
  cases e:(Pb C) left B arr base j with
  |false=>rfl
  |true=>rw[mono i j h1 h2 e]at T;cases T
 refine ai (m:=bey left B arr base hint) (vU J D ha (by omega) ?_)
 dsimp only
 cases e:(Pb C) left B arr base hint with
 |true=>
  refine fW rfl ?_
  refine ai (bj (a4 (I:=λx c st'=>st'=st/\∃Y o,c=(none,Y,o)/\Y<o/\x+1<=o/\hint+Y<n/\(Pb C) left B arr base (hint+Y)=true)
   (Q:=λc st'=>st'=st/\∃Y o,c=(none,Y,o)/\Y<o/\hint+Y<n/\(Pb C) left B arr base (hint+Y)=true/\(o≥n-hint\/(hint+o<n/\(Pb C) left B arr base (hint+o)=false))) ?step ?fin ⟨rfl,0,1,rfl,by omega,by omega,by omega,e⟩) ?post)
  case fin=>
   rintro c st' ⟨rfl,Y,o,rfl,g1,g2,g3,W⟩
   exact⟨rfl,Y,o,rfl,g1,g3,W,.inl (by omega)⟩
  case step=>
   rintro x c st' _ O ⟨rfl,Y,o,rfl,g1,g2,g3,W⟩
   dsimp only
   by_cases X:o≥n-hint
   ·refine fW X ?_
    exact am ⟨rfl,Y,o,rfl,g1,g3,W,.inl X⟩
   ·refine gB X ?_
    refine ai (vU J D ha (by omega) ?_)
    dsimp only
    cases e2:(Pb C) left B arr base (hint+o)with
    |true=>
     refine gB (by decide) ?_
     exact am ⟨rfl,o,2*o+1,rfl,by omega,by omega,by omega,e2⟩
    |false=>
     refine fW (by decide) ?_
     exact am ⟨rfl,Y,o,rfl,g1,g3,W,.inr ⟨by omega,e2⟩⟩
  case post=>
   rintro c st' ⟨rfl,Y,o,rfl,g1,g3,W,U⟩
   have h1:hint+Y+1<=hint+min o (n-hint):=by omega
   have h2:hint+min o (n-hint)<=n:=by omega
   have T:∀i,i<hint+Y+1->(Pb C) left B arr base i=true:=λi hi=>mono i _ (by omega) g3 W
   have P:∀i,hint+min o (n-hint)<=i->i<n->(Pb C) left B arr base i=false:=λi i1 i2=>by
    rcases U with U|⟨U,M⟩
    ·omega
    ·exact V _ i (by omega) i2 M
   dsimp only
   generalize hint+Y+1=S at h1 T ⊢
   generalize hint+min o (n-hint)=R at h1 h2 P ⊢
   refine ai (bj (a4 (I:=λx c Z=>Z=st'/\∃hi lo,c=(none,lo,hi)/\lo<=hi/\hi<=n/\hi-lo<=n-x/\(∀i,i<lo->(Pb C) left B arr base i=true)/\(∀i,hi<=i->i<n->(Pb C) left B arr base i=false))
    (Q:=λc Z=>Z=st'/\∃hi lo,c=(none,lo,hi)/\hi<=n/\(∀i,i<hi->(Pb C) left B arr base i=true)/\(∀i,hi<=i->i<n->(Pb C) left B arr base i=false)) ?sT ?fT ⟨rfl,R,S,rfl,h1,h2,by omega,T,P⟩) ?pT)
   case fT=>
    rintro c Z ⟨rfl,hi,lo,rfl,g1,g2,g3,W,U⟩
    have:lo=hi:=by omega
    subst this
    exact⟨rfl,lo,lo,rfl,g2,W,U⟩
   case sT=>
    rintro x c Z _ O ⟨rfl,hi,lo,rfl,g1,g2,g3,W,U⟩
    dsimp only
    by_cases X:lo≥hi
    ·refine fW X ?_
     have:lo=hi:=by omega
     subst this
     exact am ⟨rfl,lo,lo,rfl,g2,W,U⟩
    ·refine gB X ?_
     have hm:lo+(hi-lo)/2<hi:=by omega
     refine ai (vU J D ha (by omega) ?_)
     dsimp only
     cases e:(Pb C) left B arr base (lo+(hi-lo)/2)with
     |true=>
      refine fW rfl ?_
      exact am ⟨rfl,hi,lo+(hi-lo)/2+1,rfl,by omega,g2,by omega,λi N=>mono i _ (by omega) (by omega) e,U⟩
     |false=>
      refine gB aY ?_
      exact am ⟨rfl,lo+(hi-lo)/2,lo,rfl,by omega,by omega,by omega,W,λi i1 i2=>V _ i i1 i2 e⟩
   case pT=>
    rintro c Z ⟨rfl,hi,lo,rfl,g1,g2,g3⟩
    exact am (h hi g1 g2 g3)
 |false=>
  refine gB aY ?_
  refine ai (bj (a4 (I:=λx c st'=>st'=st/\∃Y o,c=(none,Y,o)/\Y<o/\x+1<=o/\Y<=hint/\(Pb C) left B arr base (hint-Y)=false)
   (Q:=λc st'=>st'=st/\∃Y o,c=(none,Y,o)/\Y<o/\Y<=hint/\(Pb C) left B arr base (hint-Y)=false/\(o≥hint+1\/(o<=hint/\(Pb C) left B arr base (hint-o)=true))) ?step2 ?fin2 ⟨rfl,0,1,rfl,by omega,by omega,by omega,e⟩) ?post2)
  case fin2=>
   rintro c st' ⟨rfl,Y,o,rfl,g1,g2,g3,W⟩
   exact⟨rfl,Y,o,rfl,g1,g3,W,.inl (by omega)⟩
  case step2=>
   rintro x c st' _ O ⟨rfl,Y,o,rfl,g1,g2,g3,W⟩
   dsimp only
   by_cases X:o≥hint+1
   ·refine fW X ?_
    exact am ⟨rfl,Y,o,rfl,g1,g3,W,.inl X⟩
   ·refine gB X ?_
    refine ai (vU J D ha (by omega) ?_)
    dsimp only
    cases e2:(Pb C) left B arr base (hint-o)with
    |true=>
     refine fW rfl ?_
     exact am ⟨rfl,Y,o,rfl,g1,g3,W,.inr ⟨by omega,e2⟩⟩
    |false=>
     refine gB aY ?_
     exact am ⟨rfl,o,2*o+1,rfl,by omega,by omega,by omega,e2⟩
  case post2=>
   rintro c st' ⟨rfl,Y,o,rfl,g1,g3,W,U⟩
   have h1:hint+1-min o (hint+1)<=hint-Y:=by omega
   have h2:hint-Y<=n:=by omega
   have T:∀i,i<hint+1-min o (hint+1)->(Pb C) left B arr base i=true:=λi hi=>by
    rcases U with U|⟨U,M⟩
    ·omega
    ·exact mono i _ (by omega) (by omega) M
   have P:∀i,hint-Y<=i->i<n->(Pb C) left B arr base i=false:=λi i1 i2=>V _ i i1 i2 W
   dsimp only
   generalize hint+1-min o (hint+1)=S at h1 T ⊢
   generalize hint-Y=R at h1 h2 P ⊢
   refine ai (bj (a4 (I:=λx c Z=>Z=st'/\∃hi lo,c=(none,lo,hi)/\lo<=hi/\hi<=n/\hi-lo<=n-x/\(∀i,i<lo->(Pb C) left B arr base i=true)/\(∀i,hi<=i->i<n->(Pb C) left B arr base i=false))
    (Q:=λc Z=>Z=st'/\∃hi lo,c=(none,lo,hi)/\hi<=n/\(∀i,i<hi->(Pb C) left B arr base i=true)/\(∀i,hi<=i->i<n->(Pb C) left B arr base i=false)) ?sT ?fT ⟨rfl,R,S,rfl,h1,h2,by omega,T,P⟩) ?pT)
   case fT=>
    rintro c Z ⟨rfl,hi,lo,rfl,g1,g2,g3,W,U⟩
    have:lo=hi:=by omega
    subst this
    exact⟨rfl,lo,lo,rfl,g2,W,U⟩
   case sT=>
    rintro x c Z _ O ⟨rfl,hi,lo,rfl,g1,g2,g3,W,U⟩
    dsimp only
    by_cases X:lo≥hi
    ·refine fW X ?_
     have:lo=hi:=by omega
     subst this
     exact am ⟨rfl,lo,lo,rfl,g2,W,U⟩
    ·refine gB X ?_
     have hm:lo+(hi-lo)/2<hi:=by omega
     refine ai (vU J D ha (by omega) ?_)
     dsimp only
     cases e:(Pb C) left B arr base (lo+(hi-lo)/2)with
     |true=>
      refine fW rfl ?_
      exact am ⟨rfl,hi,lo+(hi-lo)/2+1,rfl,by omega,g2,by omega,λi N=>mono i _ (by omega) (by omega) e,U⟩
     |false=>
      refine gB aY ?_
      exact am ⟨rfl,lo+(hi-lo)/2,lo,rfl,by omega,by omega,by omega,W,λi i1 i2=>V _ i i1 i2 e⟩
   case pT=>
    rintro c Z ⟨rfl,hi,lo,rfl,g1,g2,g3⟩
    exact am (h hi g1 g2 g3)
end
end
end Sq
namespace Sq
open PySem PyProof.Rows
section
variable{C:Cq}
def Am:Nat->StateT SortSt Sem Unit:=sortPriv% PySem.Builtin.setMinGallop
abbrev setG(st:SortSt)(g:Nat):SortSt:=SortSt.mk' (kindOf st) (arrOf st) (pendingOf st) g (failedOf st)
def Pk:Array Keyed->Array Keyed->StateT SortSt Sem (Array Keyed):=sortPriv% PySem.Builtin.mergeLo
def BL(a b out:Array Keyed)(ia ib:Nat):Array Keyed:=out++a.extract ia a.size++b.extract ib b.size
def JQ(a b out:Array Keyed)(ia ib:Nat):Array Keyed:=out++b.extract ib b.size++a.extract ia a.size
def R(C:Cq)(x y:Keyed):Prop:=C.nu x<=C.nu y
structure MI(C:Cq)(a b out:Array Keyed)(ia ib:Nat):Prop where
 A:(out.toList++a.toList.drop ia).Pairwise (R C)
 B:(out.toList++b.toList.drop ib).Pairwise (R C)
 P:(out.toList++a.toList.drop ia++b.toList.drop ib).Perm (a.toList++b.toList)
section
variable{C:Cq}{a b out:Array Keyed}{ia ib:Nat}
theorem vV{l:List Keyed}(h:i<l.length):l.drop i=l[i]::l.drop (i+1):=j9 h
theorem jA(h:ia<a.size):(KC C) a ia=C.nu (a[ia]):=by unfold KC;rw[getElem?_pos a ia h]
theorem MI.pushA(h:(MI C) a b out ia ib)(hi:ia<a.size)(B:∀y∈b.toList.drop ib,(R C) a[ia] y):(MI C) a b (out.push a[ia]) (ia+1) ib:=by
 have hd:a.toList.drop ia=a[ia]::a.toList.drop (ia+1):=vV (by simpa using hi)
 obtain⟨h1,h2,Y⟩:=h
 rw[hd]at h1 Y
 have e:(out.push a[ia]).toList=out.toList++[a[ia]]:=pG
 refine⟨by rw[e,aR];exact h1,?_,by rw[e];simpa using Y⟩
 rw[e,aR]
 obtain⟨p1,p2,p3⟩:=aO.mp h2
 obtain⟨q1,q2,X⟩:=aO.mp h1
 refine aO.mpr ⟨p1,bZ.mpr ⟨B,p2⟩,λx Z y W=>?_⟩
 rcases aU.mp W with rfl|z
 ·exact X x Z _ aJ
 ·exact p3 x Z y z
theorem MI.pushB(h:(MI C) a b out ia ib)(hi:ib<b.size)(B:∀y∈a.toList.drop ia,(R C) b[ib] y):(MI C) a b (out.push b[ib]) ia (ib+1):=by
 have hd:b.toList.drop ib=b[ib]::b.toList.drop (ib+1):=vV (by simpa using hi)
 obtain⟨h1,h2,Y⟩:=h
 rw[hd]at h2 Y
 have e:(out.push b[ib]).toList=out.toList++[b[ib]]:=pG
 refine⟨?_,by rw[e,aR];exact h2,?_⟩
 ·rw[e,aR]
  obtain⟨p1,p2,p3⟩:=aO.mp h1
  obtain⟨q1,q2,X⟩:=aO.mp h2
  refine aO.mpr ⟨p1,bZ.mpr ⟨B,p2⟩,λx Z y W=>?_⟩
  rcases aU.mp W with rfl|z
  ·exact X x Z _ aJ
  ·exact p3 x Z y z
 ·rw[e]
  refine List.Perm.trans ?_ Y
  rw[aR,aR,aR]
  exact List.Perm.append_left _ (by simpa using(List.perm_middle (a:=b[ib]) (l₁:=a.toList.drop ia) (l₂:=b.toList.drop (ib+1))).symm)
theorem gZ{x:Array Keyed}:(x.extract i j).toList=(x.toList.drop i).take (j-i):=by
 rw[Array.toList_extract,List.extract_eq_take_drop]
theorem MI.appA(h:(MI C) a b out ia ib){k:Nat}(B:∀x∈(a.toList.drop ia).take k,∀y∈b.toList.drop ib,(R C) x y):(MI C) a b (out++a.extract ia (ia+k)) (ia+k) ib:=by
 have e:(out++a.extract ia (ia+k)).toList=out.toList++(a.toList.drop ia).take k:=by
  rw[cN,gZ,qd]
 have d:a.toList.drop ia=(a.toList.drop ia).take k++a.toList.drop (ia+k):=by rw[<-jM,dU]
 obtain⟨h1,h2,X⟩:=h
 obtain⟨p1,p2,p3⟩:=aO.mp h2
 have Z:=h1
 rw[d]at Z X
 obtain⟨q1,q2,W⟩:=aO.mp Z
 refine⟨by rw[e,aR];exact Z,?_,by rw[e];simpa[aR]using X⟩
 rw[e,aR]
 refine aO.mpr ⟨p1,aO.mpr ⟨(aO.mp q2).1,p2,B⟩,λx Y y V=>?_⟩
 rcases cG.mp V with z|z
 ·exact W x Y y (cB _ z)
 ·exact p3 x Y y z
theorem MI.appB(h:(MI C) a b out ia ib){k:Nat}(B:∀x∈(b.toList.drop ib).take k,∀y∈a.toList.drop ia,(R C) x y):(MI C) a b (out++b.extract ib (ib+k)) ia (ib+k):=by
 have e:(out++b.extract ib (ib+k)).toList=out.toList++(b.toList.drop ib).take k:=by
  rw[cN,gZ,qd]
 have d:b.toList.drop ib=(b.toList.drop ib).take k++b.toList.drop (ib+k):=by rw[<-jM,dU]
 obtain⟨h1,h2,X⟩:=h
 obtain⟨p1,p2,p3⟩:=aO.mp h1
 have Z:=h2
 rw[d]at Z X
 obtain⟨q1,q2,W⟩:=aO.mp Z
 refine⟨?_,by rw[e,aR];exact Z,?_⟩
 ·rw[e,aR]
  refine aO.mpr ⟨p1,aO.mpr ⟨(aO.mp q2).1,p2,B⟩,λx Y y V=>?_⟩
  rcases cG.mp V with z|z
  ·exact W x Y y (cB _ z)
  ·exact p3 x Y y z
 ·rw[e]
  refine List.Perm.trans ?_ X
  rw[aR,aR,aR]
  refine List.Perm.append_left _ ?_
  rw[<-aR,<-aR]
  exact List.Perm.append_right _ fj
structure Res(C:Cq)(a b r:Array Keyed):Prop where
 P:r.toList.Perm (a.toList++b.toList)
 S:r.toList.Pairwise (R C)
theorem MI.endB(h:(MI C) a b out ia ib)(e:b.size<=ib):(Res C) a b (BL a b out ia ib):=by
 have d:b.toList.drop ib=[]:=g_ (by simpa using e)
 have l:(BL a b out ia ib).toList=out.toList++a.toList.drop ia:=by
  unfold BL
  rw[cN,cN,gZ,gZ,d,List.take_nil,cW,eU (by simp)]
 obtain⟨h1,h2,Z⟩:=h
 rw[d,cW]at Z
 exact⟨by rw[l];exact Z,by rw[l];exact h1⟩
theorem MI.endA(h:(MI C) a b out ia ib)(e:a.size<=ia):(Res C) a b (BL a b out ia ib):=by
 have d:a.toList.drop ia=[]:=g_ (by simpa using e)
 have l:(BL a b out ia ib).toList=out.toList++b.toList.drop ib:=by
  unfold BL
  rw[cN,cN,gZ,gZ,d,List.take_nil,cW,eU (by simp)]
 obtain⟨h1,h2,Z⟩:=h
 rw[d,cW]at Z
 exact⟨by rw[l];exact Z,by rw[l];exact h2⟩
theorem MI.last(h:(MI C) a b out ia ib)(hi:ia<a.size)(B:∀y∈b.toList,(R C) y a[ia])(e:ia+1=a.size):(Res C) a b (JQ a b out ia ib):=by
 have hd:a.toList.drop ia=[a[ia]]:=by
  rw[vV (l:=a.toList) (by simpa using hi),g_ (by simpa using oF e.symm)]
  rfl
 have l:(JQ a b out ia ib).toList=out.toList++b.toList.drop ib++[a[ia]]:=by
  unfold JQ
  rw[cN,cN,gZ,gZ,hd,eU (by simp),eU (by simp;omega)]
 obtain⟨h1,h2,Z⟩:=h
 rw[hd]at h1 Z
 refine⟨by
  rw[l]
  refine List.Perm.trans ?_ Z
  rw[aR,aR]
  exact List.Perm.append_left _ fj,?_⟩
 rw[l]
 refine aO.mpr ⟨h2,gU _ _,λx X y Y=>?_⟩
 rw[aN.mp Y]
 rcases cG.mp X with z|z
 ·exact(aO.mp h1).2.2 x z _ (aN.mpr rfl)
 ·exact B x (nD z)
theorem JR{l:List Keyed}(p:(l.drop i).Pairwise (R C))(h:i<l.length):∀y∈l.drop i,(R C) l[i] y:=λy Z=>by
 rw[vV h]at Z p
 rcases aU.mp Z with rfl|z
 ·exact eY _
 ·exact(bZ.mp p).1 y z
end
end
end Sq
variable{st':SortSt}{out:Array Keyed}{lo hi:Nat}
namespace Sq
open PySem PyProof.Rows
section
variable{C:Cq}
structure Eqv(st st':SortSt):Prop where
 k:kindOf st'=kindOf st
 a:arrOf st'=arrOf st
 p:pendingOf st'=pendingOf st
 f:failedOf st'=failedOf st
theorem Eqv.refl(st:SortSt):Eqv st st:=⟨rfl,rfl,rfl,rfl⟩
theorem Eqv.set(h:Eqv st st')(g:Nat):Eqv st (setG st' g):=⟨h.k,h.a,h.p,h.f⟩
section
variable{prog:Program}{w:World}{A:Around}{E:Value->Shared->Prop}{s:Shared}{a b:Array Keyed}{C:Cq}[LtOk prog w A s C]
theorem vW{g:Nat}{Q:Unit->SortSt->Prop}(h:Q () (setG st g)):wpS (model prog w) A E s (Am g) Q st:=bX h
theorem K_R{x:Array Keyed}(p:x.toList.Pairwise (R C))(B:i<=j)(D:j<x.size):(KC C) x i<=(KC C) x j:=by
 rw[jA D,jA (oX B D)]
 rcases Nat.lt_or_eq_of_le B with z|z
 ·have:=cA.mp p i j (by simpa using oX B D) (by simpa using D) z
  unfold R at this
  simpa using this
 ·subst z;exact eY _
theorem qJ{x:Array Keyed}{k:Nat}{p:Keyed}(h:p∈(x.toList.drop i).take k):∃j,j<k/\∃B:i+j<x.size,p=x[i+j]:=by
 obtain⟨j,B,e⟩:=f9 h
 rw[bV,cV,bD]at B
 refine⟨j,by omega,by omega,?_⟩
 rw[<-e,pH,lM]
 simp
theorem pA{x:Array Keyed}{p:Keyed}(h:p∈x.toList.drop i):∃j,∃B:i+j<x.size,p=x[i+j]:=by
 obtain⟨j,B,e⟩:=f9 h
 rw[cV,bD]at B
 refine⟨j,by omega,?_⟩
 rw[<-e,lM]
 simp
theorem nA{x:Array Keyed}(h:∀p∈x.toList,C.ok p){i:Nat}(hi:i<x.size):C.ok x[i]:=h _ (by simp)
theorem Z4{Q:Option Nat->SortSt->Prop}{ia ib:Nat}(D:kindOf st=C.κ)(ha:∀p∈a.toList,C.ok p)(J:∀p∈b.toList,C.ok p)(sa:a.toList.Pairwise (R C))(B:b.toList.Pairwise (R C))
 (M:(MI C) a b out ia ib) (i1:ia<a.size) (i2:ib<b.size) (h:∀k,ia+k<=a.size->(MI C) a b (out++a.extract ia (ia+k)) (ia+k) ib->(ia+k<a.size->∀y∈a.toList.drop (ia+k),(R C) b[ib] y)->Q (some k) st) :
 wpS (model prog w) A E s (vR false b[ib] a ia (a.size-ia) 0) Q st:=by
 refine m6 D (nA J i2) ha (by omega) (by omega) (λi j h1 h2 X=>?_) λk k1 k2 W=>h k (by omega) (M.appA λx V y Z=>?_) λY y Z=>?_
 ·unfold Pb at X ⊢
  have:=K_R sa (i:=ia+i) (j:=ia+j) (by omega) (by omega)
  rw[if_neg aY,gW,decide_eq_false_iff_not]at X ⊢
  omega
 ·obtain⟨j,j1,j2,rfl⟩:=qJ V
  obtain⟨l,l1,rfl⟩:=pA Z
  have:=k2 j j1
  unfold Pb at this
  rw[if_neg aY,gW,decide_eq_false_iff_not,jA j2]at this
  have q:=K_R B (i:=ib) (j:=ib+l) (by omega) l1
  rw[jA i2,jA l1]at q
  unfold R
  omega
 ·obtain⟨l,l1,rfl⟩:=pA Z
  have:=W k (aL _) (by omega)
  unfold Pb at this
  rw[if_neg aY,oZ,decide_eq_true_iff,jA Y]at this
  have q:=K_R sa (i:=ia+k) (j:=ia+k+l) (by omega) l1
  rw[jA Y,jA l1]at q
  unfold R
  omega
theorem Z5{Q:Option Nat->SortSt->Prop}{ia ib:Nat}(D:kindOf st=C.κ)(ha:∀p∈a.toList,C.ok p)(J:∀p∈b.toList,C.ok p)(sa:a.toList.Pairwise (R C))(B:b.toList.Pairwise (R C))
 (M:(MI C) a b out ia ib) (i1:ia<a.size) (i2:ib<b.size) (h:∀k,ib+k<=b.size->(MI C) a b (out++b.extract ib (ib+k)) ia (ib+k)->(∀y∈b.toList.drop (ib+k),(R C) a[ia] y)->Q (some k) st) :
 wpS (model prog w) A E s (vR true a[ia] b ib (b.size-ib) 0) Q st:=by
 refine m6 D (nA ha i1) J (by omega) (by omega) (λi j h1 h2 Y=>?_) λk k1 k2 X=>h k (by omega) (M.appB λx W y Z=>?_) λy Z=>?_
 ·unfold Pb at Y ⊢
  have:=K_R B (i:=ib+i) (j:=ib+j) (by omega) (by omega)
  rw[if_pos rfl,decide_eq_true_iff]at Y ⊢
  omega
 ·obtain⟨j,j1,j2,rfl⟩:=qJ W
  obtain⟨l,l1,rfl⟩:=pA Z
  have:=k2 j j1
  unfold Pb at this
  rw[if_pos rfl,decide_eq_true_iff,jA j2]at this
  have q:=K_R sa (i:=ia) (j:=ia+l) (by omega) l1
  rw[jA i1,jA l1]at q
  unfold R
  omega
 ·obtain⟨l,l1,rfl⟩:=pA Z
  have:=X (k+l) (by omega) (by omega)
  unfold Pb at this
  rw[if_pos rfl,decide_eq_false_iff_not,<-uG,jA l1]at this
  unfold R
  omega
structure LoI(C:Cq)(st:SortSt)(a b:Array Keyed)(n:Nat)(o:Array Keyed)(i j:Nat)(t:SortSt):Prop where
 E:Eqv st t
 M:MI C a b o i j
 x:i+1<a.size
 y:j<b.size
 n:n<=i+j
def LQ{X Y Z B:Type}(P:Nat->X->Y->Z->SortSt->Prop)(D:Array Keyed->SortSt->Prop)(n m:Nat):ForInStep (Option (Array Keyed)×X×Y×Z×B)->SortSt->Prop
 | .done (some r,_),t=>D r t
 | .done (none,o,i,j,_),t=>P m o i j t
 | .yield (none,o,i,j,_),t=>P n o i j t
 | .yield (some _,_),_=>False
theorem qM{β X Y Z B:Type}{f:Nat->Option (Array Keyed)×X×Y×Z×B->StateT SortSt Sem (ForInStep (Option (Array Keyed)×X×Y×Z×B))}{k:Option (Array Keyed)×X×Y×Z×B->StateT SortSt Sem β}{Q:β->SortSt->Prop}
 (P:Nat->X->Y->Z->SortSt->Prop) (D:Array Keyed->SortSt->Prop) (φ:Nat->Nat) (m:Nat) {o:X} {i:Y} {j:Z} {g:B} {st:SortSt} (O:P (φ lo) o i j st)
 (J:∀o i j t,P (φ (max lo hi)) o i j t->P m o i j t) (hd:∀r c t,D r t->wpS M A E s (k (some r,c)) Q t) (hn:∀o i j g t,P m o i j t->wpS M A E s (k (none,o,i,j,g)) Q t)
 (hs:∀n o i j g t,P (φ n) o i j t->wpS M A E s (f n (none,o,i,j,g)) (LQ P D (φ (n+1)) m) t):wpS M A E s (forIn [lo:hi] (none,o,i,j,g) f >>= k) Q st:=by
 refine ai (bj (a4 (I:=λn c t=>LQ P D (φ n) m (.yield c) t) (Q:=λc t=>LQ P D m m (.done c) t) ?_ ?_ O) ?_)
 ·rintro n ⟨_|_,o,i,j,g⟩ t _ _ p
  ·refine bj (hs n o i j g t p) ?_
   rintro(⟨_|_,_⟩|⟨_|_,_⟩) t q<;>exact q
  ·exact p.elim
 ·rintro⟨_|_,o,i,j,g⟩ t p
  ·exact J o i j t p
  ·exact p.elim
 ·rintro⟨_|r,c⟩ t p
  ·exact hn _ _ _ _ t p
  ·exact hd r c t p
theorem jX{α:Type}{Q:α->SortSt->Prop}{x y:StateT SortSt Sem α}{c:Prop}[Decidable c](h:c->wpS M A E s x Q st)(k:¬c->wpS M A E s y Q st):wpS M A E s (if c then x else y) Q st:=by
 split
 ·next z=>exact h z
 ·next z=>exact k z
theorem iB{α:Type}{Q:α->SortSt->Prop}{x y:StateT SortSt Sem α}{m:Nat}(h:m=n->wpS M A E s x Q st)(k:m≠n->wpS M A E s y Q st):wpS M A E s (if(m==n)=true then x else y) Q st:=
 jX (λz=>h (eq_of_beq z)) λz=>k λe=>z (beq_iff_eq.mpr e)
theorem Gq{Q:Array Keyed->SortSt->Prop}(hk:kindOf st=C.κ)(ha:∀p∈a.toList,C.ok p)(hb:∀p∈b.toList,C.ok p)(a0:0<a.size)(b0:0<b.size)(sa:a.toList.Pairwise (R C))(D:b.toList.Pairwise (R C))
 (hf:(KC C) b 0<(KC C) a 0) (hl:∀y∈b.toList,(R C) y (a[a.size-1]'(by omega))) (h:∀r st',(Res C) a b r->Eqv st st'->Q r st'):wpS (model prog w) A E s (Pk a b) Q st:=by
 refine ai (m:=liftM (rule _)) (db (be ⟨rfl,?_⟩))
 refine ai (eG (getElem?_pos b 0 b0) ?_)
 have H:(MI C) a b #[b[0]] 0 1:=by
  have hd:b.toList=b[0]::b.toList.drop 1:=by
   have:=vV (l:=b.toList) (i:=0) (by simpa using b0)
   rw[d_]at this
   simpa using this
  refine⟨?_,?_,?_⟩
  ·show([b[0]]++a.toList.drop 0).Pairwise (R C)
   rw[d_]
   refine bZ.mpr ⟨λy U=>?_,sa⟩
   obtain⟨l,l1,rfl⟩:=pA (x:=a) (i:=0) (by rw[d_];exact U)
   have q:=K_R sa (i:=0) (j:=0+l) (by omega) l1
   rw[jA a0]at q hf
   rw[jA b0]at hf
   rw[jA l1]at q
   unfold R
   omega
  ·show(b[0]::b.toList.drop 1).Pairwise (R C)
   rw[<-hd];exact D
  ·show([b[0]]++a.toList.drop 0++b.toList.drop 1).Perm (a.toList++b.toList)
   rw[d_]
   have:=(List.perm_middle (a:=b[0]) (l₁:=a.toList) (l₂:=b.toList.drop 1)).symm
   rw[<-hd]at this
   exact this
 have Z:∀(out:Array Keyed)(ia ib:Nat),(MI C) a b out ia ib->ia+1=a.size->(Res C) a b (JQ a b out ia ib):=λout ia ib M e=>M.last (by omega) (by
  have:a.size-1=ia:=by omega
  subst this
  exact hl) e
 refine iB (λc1=>am (h _ _ (H.endB (by omega)) (Eqv.refl st))) λc1=>?_
 refine iB (λf=>am (h _ _ (Z _ _ _ H f) (Eqv.refl st))) λf=>?_
 refine ai (ci ?_)
 refine qM (LoI C st a b) (λr t=>Eqv st t/\Res C a b r) (· + 1) (a.size+b.size) ⟨Eqv.refl st,H,by omega,by omega,by omega⟩ ?oe ?od ?on ?os
 case oe=>exact λo i j t p=>{p with n:=by have:=p.n;omega}
 case od=>exact λr c t p=>am (h r t p.2 p.1)
 case on=>exact λo i j g t p=>absurd p.n (by have:=p.x;have:=p.y;omega)
 case os=>
  intro x o ia ib g t p0
  refine qM (LoI C st a b) (λr t=>Eqv st t/\Res C a b r) (λ_=>x+1) (x+1) p0 (λ_ _ _ _ p=>p) (λr c t p=>am p) ?n1 ?s1
  case s1=>
   rintro y o i j ⟨ac,d⟩ t p
   refine ai (eG (getElem?_pos b j p.y) (ai (eG (getElem?_pos a i (cM p.x)) ?_)))
   refine ai (zE (p.E.k.trans hk) (nA hb p.y) (nA ha (cM p.x)) ?_)
   refine jX (λlt=>ai (eG (getElem?_pos b j p.y) ?_)) (λlt=>ai (eG (getElem?_pos a i (cM p.x)) ?_))
   ·have P:=p.M.pushB p.y λy U=>by
     have:=JR (aO.mp p.M.A).2.1 (by simpa using cM p.x) y U
     unfold R at this ⊢
     simp at this lt
     omega
    refine iB (λ(z:j+1=b.size)=>am ⟨p.E,P.endB (by omega)⟩) λ(z:j+1≠b.size)=>?_
    have q:LoI C st a b (x+1) _ _ _ t:=⟨p.E,P,p.x,by have:=p.y;omega,vg p.n⟩
    exact jX (λ_=>am q) λ_=>am q
   ·have P:=p.M.pushA (cM p.x) λy U=>by
     have:=JR (aO.mp p.M.B).2.1 (by simpa using p.y) y U
     unfold R at this ⊢
     simp at this lt
     omega
    refine iB (λz=>am ⟨p.E,Z _ _ _ P z⟩) λ(z:i+1+1≠a.size)=>?_
    have q:LoI C st a b (x+1) _ _ _ t:=⟨p.E,P,by have:=p.x;omega,p.y,by have:=p.n;omega⟩
    exact jX (λ_=>am q) λ_=>am q
  case n1=>
   rintro o i j ⟨ac,d⟩ t p
   refine ai (db (be ⟨rfl,?_⟩))
   refine qM (LoI C st a b) (λr t=>Eqv st t/\Res C a b r) (λy=>x+1+min y 1) (x+1+1) p ?e2 (λr c t p=>am p) ?n2 ?s2
   case e2=>exact λo i j t p=>{p with n:=by have:=p.n;omega}
   case n2=>exact λo i j g t p=>ai (vW (am ⟨p.E.set _,p.M,p.x,p.y,p.n⟩))
   case s2=>
    rintro y o V Y ⟨g,ac,d⟩ t p
    dsimp only
    have i2:=p.y
    refine JN ?_
    generalize g-1=I
    refine And.intro ?l ?r
    case' l=>
     revert I
     refine id ?_
    case r=>exact(id ?l:_) g
    intro I
    refine ai (vW (ai (eG (getElem?_pos b Y i2) ?_)))
    refine ai (Z4 ((p.E.set _).k.trans hk) ha hb sa D p.M (cM p.x) i2 λk k1 Mk k2=>?_)
    dsimp only
    refine jX (λkp=>?_) λkp=>?N1
    generalize o++a.extract V (V+k)=o at Mk ⊢
    generalize hi:V+k=i at k1 k2 Mk ⊢
    refine iB (λq1=>am ⟨p.E.set _,Z _ _ _ Mk q1⟩) λq1=>iB (λq2=>am ⟨p.E.set _,Mk.endA (oF q2.symm)⟩) λq2=>?_
    have W:=k2 (by omega)
    have T:V<=i:=by omega
    have X:i+1<a.size:=by omega
    clear k1 k2 q1 q2 hi kp
    revert X T W Mk o i
    refine id ?K1
    case N1=>
     have k0:k=0:=by omega
     have W:=k2 (by have:=p.x;omega)
     rw[k0,ju]at W
     exact(id ?K1:_) o V p.M W (aL _) p.x
    intro o i Mk W T X
    refine ai (eG (getElem?_pos b Y i2) ?_)
    have O:=Mk.pushB i2 W
    generalize o.push b[Y]=u at O ⊢
    refine iB (λJ=>am ⟨p.E.set _,O.endB (oF J.symm)⟩) λJ=>?_
    refine ai (eG (getElem?_pos a _ (cM X)) ?_)
    refine ai (Z5 ((p.E.set _).k.trans hk) ha hb sa D O (cM X) (Nat.lt_of_le_of_ne i2 J) λl l1 S l2=>?_)
    dsimp only
    refine jX (λlp=>?_) λlp=>?N2
    generalize u++b.extract (Y+1) (Y+1+l)=v at S ⊢
    generalize hj:Y+1+l=j at l1 S l2 ⊢
    refine iB (λK=>am ⟨p.E.set _,S.endB (oF K.symm)⟩) λK=>?_
    have N:=S.pushA (cM X) l2
    have L:j<b.size:=by omega
    have G:Y<j:=by omega
    clear l1 l2 S hj K lp
    revert G L N v j
    refine id ?K2
    case N2=>
     have l0:l=0:=by omega
     rw[l0,ju]at l2
     exact(id ?K2:_) u (Y+1) (O.pushA (cM X) l2) (by omega) (by omega)
    intro v j N L G
    refine ai (eG (getElem?_pos a _ (cM X)) ?_)
    refine iB (λF=>am ⟨p.E.set _,Z _ _ _ N F⟩) λF=>?_
    have q:∀n,n<=1->LoI C st a b (x+1+n) _ _ _ (setG t I):=λn hn=>⟨p.E.set _,N,by omega,L,by have:=p.n;omega⟩
    exact jX (λ_=>am (q _ (aL _))) λ_=>am (q _ (p7 _ _))
end
end
end Sq
namespace Sq
open PySem PyProof.Rows
section
variable{C:Cq}
def Pn:Array Keyed->Array Keyed->StateT SortSt Sem (Array Keyed):=sortPriv% PySem.Builtin.mergeHi
def BP(a b out:Array Keyed)(na nb:Nat):Array Keyed:=a.extract 0 na++b.extract 0 nb++out.reverse
def DK(a b out:Array Keyed)(na nb:Nat):Array Keyed:=b.extract 0 nb++a.extract 0 na++out.reverse
structure MJ(C:Cq)(a b out:Array Keyed)(na nb:Nat):Prop where
 A:(a.toList.take na++out.toList.reverse).Pairwise (R C)
 B:(b.toList.take nb++out.toList.reverse).Pairwise (R C)
 P:(a.toList.take na++(b.toList.take nb++out.toList.reverse)).Perm (a.toList++b.toList)
section
variable{C:Cq}{a b out:Array Keyed}{na nb:Nat}
theorem yg{x:Array Keyed}(h:i<x.size):x.toList.take (i+1)=x.toList.take i++[x[i]]:=by
 rw[List.take_add_one,aB (by simpa using h)]
 simp
theorem DN{l o:List Keyed}{m:List Keyed}(h:(l++o).Pairwise (R C))(hm:m.Pairwise (R C))(h1:∀x∈l,∀y∈m,(R C) x y)(h2:∀x∈m,∀y∈o,(R C) x y):(l++(m++o)).Pairwise (R C):=by
 obtain⟨p1,p2,p3⟩:=aO.mp h
 refine aO.mpr ⟨p1,aO.mpr ⟨hm,p2,h2⟩,λx Z y Y=>?_⟩
 rcases cG.mp Y with z|z
 ·exact h1 x Z y z
 ·exact p3 x Z y z
theorem MJ.pushA(h:(MJ C) a b out (na+1) nb)(hi:na<a.size)(B:∀x∈b.toList.take nb,(R C) x a[na]):(MJ C) a b (out.push a[na]) na nb:=by
 obtain⟨h1,h2,X⟩:=h
 rw[yg hi]at h1 X
 have e:(out.push a[na]).toList.reverse=[a[na]]++out.toList.reverse:=by simp
 rw[aR]at h1 X
 obtain⟨q1,q2,W⟩:=aO.mp h1
 refine⟨by rw[e];exact h1,?_,?_⟩
 ·rw[e]
  exact DN h2 (gU _ _) (λx Y y Z=>by rw[aN.mp Z];exact B x Y) (λx Y y Z=>(aO.mp q2).2.2 x Y y Z)
 ·rw[e]
  refine List.Perm.trans (List.Perm.append_left _ ?_) X
  rw[<-aR,<-aR]
  exact List.Perm.append_right _ fj
theorem MJ.pushB(h:(MJ C) a b out na (nb+1))(hi:nb<b.size)(B:∀x∈a.toList.take na,(R C) x b[nb]):(MJ C) a b (out.push b[nb]) na nb:=by
 obtain⟨h1,h2,X⟩:=h
 rw[yg hi]at h2 X
 have e:(out.push b[nb]).toList.reverse=[b[nb]]++out.toList.reverse:=by simp
 rw[aR]at h2 X
 obtain⟨q1,q2,W⟩:=aO.mp h2
 refine⟨?_,by rw[e];exact h2,by rw[e];exact X⟩
 rw[e]
 exact DN h1 (gU _ _) (λx Y y Z=>by rw[aN.mp Z];exact B x Y) (λx Y y Z=>(aO.mp q2).2.2 x Y y Z)
theorem zF{l:List Keyed}(h:i<=n):l.take n=l.take i++(l.drop i).take (n-i):=by
 rw[<-List.take_add,Nat.add_sub_cancel' h]
theorem uf{x:Array Keyed}:(out++(x.extract i n).reverse).toList.reverse=(x.toList.drop i).take (n-i)++out.toList.reverse:=by
 rw[cN,List.reverse_append,nF,sH,gZ]
theorem MJ.appA(h:(MJ C) a b out na nb){i:Nat}(hi:i<=na)(B:∀x∈b.toList.take nb,∀y∈(a.toList.drop i).take (na-i),(R C) x y):(MJ C) a b (out++(a.extract i na).reverse) i nb:=by
 obtain⟨h1,h2,Z⟩:=h
 rw[zF hi,aR]at h1 Z
 obtain⟨q1,q2,Y⟩:=aO.mp h1
 refine⟨by rw[uf];exact h1,?_,?_⟩
 ·rw[uf]
  exact DN h2 (aO.mp q2).1 B (aO.mp q2).2.2
 ·rw[uf]
  refine List.Perm.trans (List.Perm.append_left _ ?_) Z
  rw[<-aR,<-aR]
  exact List.Perm.append_right _ fj
theorem MJ.appB(h:(MJ C) a b out na nb){i:Nat}(hi:i<=nb)(B:∀x∈a.toList.take na,∀y∈(b.toList.drop i).take (nb-i),(R C) x y):(MJ C) a b (out++(b.extract i nb).reverse) na i:=by
 obtain⟨h1,h2,Z⟩:=h
 rw[zF hi,aR]at h2 Z
 obtain⟨q1,q2,Y⟩:=aO.mp h2
 refine⟨?_,by rw[uf];exact h2,by rw[uf];exact Z⟩
 rw[uf]
 exact DN h1 (aO.mp q2).1 B (aO.mp q2).2.2
theorem zG:(BP a b out na nb).toList=a.toList.take na++(b.toList.take nb++out.toList.reverse):=by
 unfold BP
 rw[cN,cN,gZ,gZ,d_,d_,oH,oH,nF,aR]
theorem MJ.endA(h:(MJ C) a b out 0 nb):(Res C) a b (BP a b out 0 nb):=by
 have e:=zG (a:=a) (b:=b) (out:=out) (na:=0) (nb:=nb)
 rw[lN,dH]at e
 have p:=h.P
 rw[lN,dH]at p
 exact⟨by rw[e];exact p,by rw[e];exact h.B⟩
theorem MJ.endB(h:(MJ C) a b out na 0):(Res C) a b (BP a b out na 0):=by
 have e:=zG (a:=a) (b:=b) (out:=out) (na:=na) (nb:=0)
 rw[lN,dH]at e
 have p:=h.P
 rw[lN,dH]at p
 exact⟨by rw[e];exact p,by rw[e];exact h.A⟩
theorem MJ.first(h:(MJ C) a b out na 1)(J:0<b.size)(D:∀y∈a.toList,(R C) b[0] y):(Res C) a b (DK a b out na 1):=by
 have t:b.toList.take 1=[b[0]]:=by rw[yg J,lN];rfl
 have e:(DK a b out na 1).toList=[b[0]]++(a.toList.take na++out.toList.reverse):=by
  unfold DK
  rw[cN,cN,gZ,gZ,d_,d_,oH,oH,nF,t,aR]
 have p:=h.P
 have B:=h.B
 rw[t]at p B
 refine⟨?_,?_⟩
 ·rw[e]
  refine List.Perm.trans ?_ p
  rw[<-aR,<-aR]
  exact List.Perm.append_right _ fj
 ·rw[e]
  show(b[0]::(a.toList.take na++out.toList.reverse)).Pairwise (R C)
  have B:(b[0]::out.toList.reverse).Pairwise (R C):=B
  refine bZ.mpr ⟨λy Z=>?_,h.A⟩
  rcases cG.mp Z with z|z
  ·exact D y (nG z)
  ·exact(bZ.mp B).1 y z
theorem wM{x:Array Keyed}{p:Keyed}(h:p∈x.toList.take n):∃j,j<n/\∃B:j<x.size,p=x[j]:=by
 obtain⟨j,j1,j2,e⟩:=qJ (i:=0) (by rw[d_];exact h)
 exact⟨j,j1,by omega,by rw[e];congr 1;omega⟩
variable{prog:Program}{w:World}{A:Around}{E:Value->Shared->Prop}{s:Shared}{C:Cq}[LtOk prog w A s C]
theorem XR{Q:Option Nat->SortSt->Prop}(O:kindOf st=C.κ)(ha:∀p∈a.toList,C.ok p)(hb:∀p∈b.toList,C.ok p)(sa:a.toList.Pairwise (R C))(B:b.toList.Pairwise (R C))
 (M:(MJ C) a b out na nb) (i1:0<na) (J:na<=a.size) (i2:0<nb) (D:nb<=b.size) (h:∀k,k<=na->(MJ C) a b (out++(a.extract k na).reverse) k nb->(∀x∈a.toList.take k,(R C) x (b[nb-1]'(by omega)))->Q (some k) st) :
 wpS (model prog w) A E s (vR false (b[nb-1]'(by omega)) a 0 na (na-1)) Q st:=by
 have Z:nb-1<b.size:=by omega
 refine m6 O (nA hb Z) ha (by omega) (by omega) (λi j h1 h2 X=>?_) λk k1 k2 W=>h k k1 (M.appA k1 λx Y y V=>?_) λx Y=>?_
 ·unfold Pb at X ⊢
  have:=K_R sa (i:=0+i) (j:=0+j) (by omega) (by omega)
  rw[if_neg aY,gW,decide_eq_false_iff_not]at X ⊢
  omega
 ·obtain⟨j,j1,j2,rfl⟩:=qJ V
  obtain⟨l,l1,l2,rfl⟩:=wM Y
  have:=W (k+j) (by omega) (by omega)
  unfold Pb at this
  rw[if_neg aY,oZ,decide_eq_true_iff,fV,jA j2]at this
  have q:=K_R B (i:=l) (j:=nb-1) (by omega) Z
  rw[jA Z,jA l2]at q
  unfold R
  omega
 ·obtain⟨l,l1,l2,rfl⟩:=wM Y
  have:=k2 l l1
  unfold Pb at this
  rw[if_neg aY,gW,decide_eq_false_iff_not,fV,jA l2]at this
  unfold R
  omega
theorem X3{Q:Option Nat->SortSt->Prop}(O:kindOf st=C.κ)(ha:∀p∈a.toList,C.ok p)(hb:∀p∈b.toList,C.ok p)(sa:a.toList.Pairwise (R C))(B:b.toList.Pairwise (R C))
 (M:(MJ C) a b out na nb) (i1:0<na) (J:na<=a.size) (i2:0<nb) (D:nb<=b.size) (h:∀k,k<=nb->(MJ C) a b (out++(b.extract k nb).reverse) na k->(∀x∈b.toList.take k,(R C) x (a[na-1]'(by omega)))->Q (some k) st) :
 wpS (model prog w) A E s (vR true (a[na-1]'(by omega)) b 0 nb (nb-1)) Q st:=by
 have Z:na-1<a.size:=by omega
 refine m6 O (nA ha Z) hb (by omega) (by omega) (λi j h1 h2 X=>?_) λk k1 k2 W=>h k k1 (M.appB k1 λx Y y V=>?_) λx Y=>?_
 ·unfold Pb at X ⊢
  have:=K_R B (i:=0+i) (j:=0+j) (by omega) (by omega)
  rw[if_pos rfl,decide_eq_true_iff]at X ⊢
  omega
 ·obtain⟨j,j1,j2,rfl⟩:=qJ V
  obtain⟨l,l1,l2,rfl⟩:=wM Y
  have:=W (k+j) (by omega) (by omega)
  unfold Pb at this
  rw[if_pos rfl,decide_eq_false_iff_not,fV,jA j2]at this
  have q:=K_R sa (i:=l) (j:=na-1) (by omega) Z
  rw[jA Z,jA l2]at q
  unfold R
  omega
 ·obtain⟨l,l1,l2,rfl⟩:=wM Y
  have:=k2 l l1
  unfold Pb at this
  rw[if_pos rfl,decide_eq_true_iff,fV,jA l2]at this
  unfold R
  omega
end
end
end Sq
variable{na nb:Nat}
namespace Sq
open PySem PyProof.Rows
section
variable{C:Cq}
section
variable{prog:Program}{w:World}{A:Around}{E:Value->Shared->Prop}{s:Shared}{a b:Array Keyed}{C:Cq}[LtOk prog w A s C]
theorem MJ.endA'(h:(MJ C) a b out na nb)(e:na=0):(Res C) a b (BP a b out na nb):=by subst e;exact h.endA
theorem MJ.endB'(h:(MJ C) a b out na nb)(e:nb=0):(Res C) a b (BP a b out na nb):=by subst e;exact h.endB
theorem MJ.first'(h:(MJ C) a b out na nb)(e:nb=1)(D:0<b.size)(B:∀y∈a.toList,(R C) b[0] y):(Res C) a b (DK a b out na nb):=by subst e;exact h.first D B
theorem MJ.pushA'(h:(MJ C) a b out na nb)(D:0<na)(hi:na-1<a.size)(B:∀x∈b.toList.take nb,(R C) x a[na-1]):(MJ C) a b (out.push a[na-1]) (na-1) nb:=by
 cases na with
 |zero=>omega
 |succ n=>exact MJ.pushA (na:=n) h hi B
theorem MJ.pushB'(h:(MJ C) a b out na nb)(D:0<nb)(hi:nb-1<b.size)(B:∀x∈a.toList.take na,(R C) x b[nb-1]):(MJ C) a b (out.push b[nb-1]) na (nb-1):=by
 cases nb with
 |zero=>omega
 |succ n=>exact MJ.pushB (nb:=n) h hi B
structure HiI(C:Cq)(st:SortSt)(a b:Array Keyed)(n i j:Nat)(o:Array Keyed)(t:SortSt):Prop where
 E:Eqv st t
 M:MJ C a b o i j
 x:0<i
 x1:i<=a.size
 y:1<j
 y1:j<=b.size
 n:i+j+n<=a.size+b.size
theorem Gs{Q:Array Keyed->SortSt->Prop}(hk:kindOf st=C.κ)(ha:∀p∈a.toList,C.ok p)(hb:∀p∈b.toList,C.ok p)(a0:0<a.size)(B:0<b.size)(sa:a.toList.Pairwise (R C))(D:b.toList.Pairwise (R C))
 (hf:(KC C) b 0<(KC C) a 0) (hl:∀y∈b.toList,(R C) y (a[a.size-1]'(by omega))) (h:∀r st',(Res C) a b r->Eqv st st'->Q r st'):wpS (model prog w) A E s (Pn a b) Q st:=by
 have la:a.size-1<a.size:=by omega
 have S:∀y∈a.toList,(R C) b[0] y:=λy G=>by
  obtain⟨l,l1,rfl⟩:=pA (x:=a) (i:=0) (by rw[d_];exact G)
  have q:=K_R sa (i:=0) (j:=0+l) (by omega) l1
  rw[jA a0]at q hf
  rw[jA B]at hf
  rw[jA l1]at q
  unfold R
  omega
 refine ai (m:=liftM (rule _)) (db (be ⟨rfl,?_⟩))
 refine ai (eG (getElem?_pos a (a.size-1) la) ?_)
 have v:(MJ C) a b #[a[a.size-1]] (a.size-1) b.size:=by
  have ta:a.toList.take (a.size-1)++[a[a.size-1]]=a.toList:=by
   rw[<-yg la,Nat.sub_add_cancel a0,eU (by simp)]
  have tb:b.toList.take b.size=b.toList:=eU (by simp)
  refine⟨?_,?_,?_⟩
  ·show(a.toList.take (a.size-1)++[a[a.size-1]]).Pairwise (R C)
   rw[ta];exact sa
  ·show(b.toList.take b.size++[a[a.size-1]]).Pairwise (R C)
   rw[tb]
   exact aO.mpr ⟨D,gU _ _,λx P y G=>by rw[aN.mp G];exact hl x P⟩
  ·show(a.toList.take (a.size-1)++(b.toList.take b.size++[a[a.size-1]])).Perm (a.toList++b.toList)
   rw[tb]
   have:(a.toList.take (a.size-1)++(b.toList++[a[a.size-1]])).Perm (a.toList.take (a.size-1)++([a[a.size-1]]++b.toList)):=List.Perm.append_left _ fj
   rw[<-aR _ [a[a.size-1]],ta]at this
   exact this
 refine iB (λc1=>am (h _ _ (v.endA' c1) (Eqv.refl st))) λc1=>?_
 refine iB (λc2=>am (h _ _ (v.first' c2 B S) (Eqv.refl st))) λc2=>?_
 refine ai (ci ?_)
 refine qM (HiI C st a b) (λr t=>Eqv st t/\Res C a b r) (· + 1) (a.size+b.size) ⟨Eqv.refl st,v,by omega,by omega,by omega,by omega,by omega⟩ ?oe ?od ?on ?os
 case oe=>exact λo i j t p=>{p with n:=by have:=p.n;omega}
 case od=>exact λr c t p=>am (h r t p.2 p.1)
 case on=>exact λo i j g t p=>absurd p.n (by have:=p.x;omega)
 case os=>
  intro x i j o g t p0
  refine qM (HiI C st a b) (λr t=>Eqv st t/\Res C a b r) (λ_=>x+1) (x+1) p0 (λ_ _ _ _ p=>p) (λr c t p=>am p) ?n1 ?s1
  case s1=>
   rintro y i j o ⟨ac,bc⟩ t p
   have X:i-1<a.size:=by have:=p.x;have:=p.x1;omega
   have Y:j-1<b.size:=by have:=p.y;have:=p.y1;omega
   refine ai (eG (getElem?_pos b (j-1) Y) (ai (eG (getElem?_pos a (i-1) X) ?_)))
   refine ai (zE (p.E.k.trans hk) (nA hb Y) (nA ha X) ?_)
   refine jX (λlt=>ai (eG (getElem?_pos a (i-1) X) ?_)) (λlt=>ai (eG (getElem?_pos b (j-1) Y) ?_))
   ·have N:=p.M.pushA' p.x X λx P=>by
     obtain⟨l,l1,l2,rfl⟩:=wM P
     have q:=K_R D (i:=l) (j:=j-1) (by omega) Y
     rw[jA Y,jA l2]at q
     unfold R
     simp at lt
     omega
    refine iB (λz=>am ⟨p.E,N.endA' z⟩) λ(z:i-1≠0)=>?_
    have q:HiI C st a b (x+1) _ _ _ t:=⟨p.E,N,by omega,by omega,p.y,p.y1,by have:=p.n;omega⟩
    exact jX (λ_=>am q) λ_=>am q
   ·have N:=p.M.pushB' (by have:=p.y;omega) Y λx P=>by
     obtain⟨l,l1,l2,rfl⟩:=wM P
     have q:=K_R sa (i:=l) (j:=i-1) (by omega) X
     rw[jA X,jA l2]at q
     unfold R
     simp at lt
     omega
    refine iB (λz=>am ⟨p.E,N.first' z B S⟩) λ(z:j-1≠1)=>?_
    have q:HiI C st a b (x+1) _ _ _ t:=⟨p.E,N,p.x,p.x1,by have:=p.y;omega,by omega,by have:=p.n;omega⟩
    exact jX (λ_=>am q) λ_=>am q
  case n1=>
   rintro i j o ⟨ac,bc⟩ t p
   refine ai (db (be ⟨rfl,?_⟩))
   refine qM (HiI C st a b) (λr t=>Eqv st t/\Res C a b r) (λy=>x+1+min y 1) (x+1+1) p ?e2 (λr c t p=>am p) ?n2 ?s2
   case e2=>exact λo i j t p=>{p with n:=by have:=p.n;omega}
   case n2=>exact λi j o g t p=>ai (vW (am {p with E:=p.E.set _}))
   case s2=>
    rintro y U Z o ⟨g,ac,bc⟩ t p
    dsimp only
    have V:Z-1<b.size:=by have:=p.y;have:=p.y1;omega
    refine JN ?_
    generalize g-1=F
    refine And.intro ?l ?r
    case' l=>
     revert F
     refine id ?_
    case r=>exact(id ?l:_) g
    intro F
    refine ai (vW (ai (eG (getElem?_pos b (Z-1) V) ?_)))
    refine ai (XR ((p.E.set _).k.trans hk) ha hb sa D p.M p.x p.x1 (cM p.y) p.y1 λk k1 Mk k2=>?_)
    dsimp only
    generalize hc:U-k=c
    refine jX (λkp=>?_) λkp=>?N1
    generalize o++(a.extract k U).reverse=o at Mk ⊢
    refine iB (λq1=>am ⟨p.E.set _,Mk.endA' q1⟩) λq1=>?_
    have W:=Nat.pos_of_ne_zero q1
    clear q1 kp hc
    revert W k1 k2 Mk o c k
    refine id ?K1
    case N1=>
     have k0:k=U:=by omega
     rw[k0]at k2
     exact(id ?K1:_) U (aL _) k2 c o p.M p.x
    intro k k1 k2 c o Mk W
    have ka:=bF k1 p.x1
    refine ai (eG (getElem?_pos b (Z-1) V) ?_)
    have L:=Mk.pushB' (cM p.y) V k2
    generalize o.push b[Z-1]=o1 at L ⊢
    refine iB (λf=>am ⟨p.E.set _,L.first' f B S⟩) λf=>?_
    have T:k-1<a.size:=by omega
    refine ai (eG (getElem?_pos a (k-1) T) ?_)
    refine ai (X3 ((p.E.set _).k.trans hk) ha hb sa D L W ka (Nat.sub_pos_of_lt p.y) (dW V) λl l1 O l2=>?_)
    dsimp only
    generalize hd:Z-1-l=d
    refine jX (λlp=>?_) λlp=>?N2
    generalize o1++(b.extract l (Z-1)).reverse=e at O ⊢
    refine iB (λH=>am ⟨p.E.set _,O.first' H B S⟩) λH=>iB (λI=>am ⟨p.E.set _,O.endB' I⟩) λI=>?_
    have K:=O.pushA' W T l2
    have J:1<l:=by omega
    clear l2 O hd H I lp
    revert J K e l1 d l
    refine id ?K2
    case N2=>
     have l0:l=Z-1:=by omega
     rw[l0]at l2
     exact(id ?K2:_) (Z-1) (aL _) d o1 (L.pushA' W T l2) (by have:=p.y;omega)
    intro l l1 d e K J
    refine ai (eG (getElem?_pos a (k-1) T) ?_)
    refine iB (λu=>am ⟨p.E.set _,K.endA' u⟩) λu=>?_
    have q:∀n,n<=1->HiI C st a b (x+1+n) _ _ _ (setG t F):=λn hn=>⟨p.E.set _,K,by omega,by omega,J,by omega,by have:=p.n;omega⟩
    exact jX (λ_=>am (q _ (aL _))) λ_=>am (q _ (p7 _ _))
end
end
end Sq
namespace Sq
open PySem PyProof.Rows
section
variable{C:Cq}
def SIn(C:Cq)(xs:Array Keyed)(lo hi:Nat):Prop:=∀i j,lo<=i->i<=j->j<hi->(KC C) xs i<=(KC C) xs j
structure Ch(st st':SortSt)(lo hi:Nat):Prop where
 perm:(arrOf st').Perm (arrOf st)
 kind:kindOf st'=kindOf st
 failed:failedOf st'=failedOf st
 pend:pendingOf st'=pendingOf st
 out:∀i,i<lo\/hi<=i->(arrOf st')[i]? = (arrOf st)[i]?
theorem Ch.refl(st:SortSt)(lo hi:Nat):Ch st st lo hi:=⟨Array.Perm.refl _,rfl,rfl,rfl,λ_ _=>rfl⟩
theorem Ch.size(h:Ch st st' lo hi):(arrOf st').size=(arrOf st).size:=h.perm.size_eq
theorem Ch.ints(h:Ch st st' lo hi)(B:Oks C (arrOf st)):Oks C (arrOf st'):=λp Z=>B p ((d9.mp h.perm).mem_iff.mp Z)
theorem Ch.trans{B:SortSt}(h:Ch st st' lo hi)(g:Ch st' B lo hi):Ch st B lo hi:=⟨g.perm.trans h.perm,g.kind.trans h.kind,g.failed.trans h.failed,g.pend.trans h.pend,λi q=>(g.out i q).trans (h.out i q)⟩
theorem Ch.set(B:xs.Perm (arrOf st))(D:∀i,i<lo\/hi<=i->xs[i]? = (arrOf st)[i]?):Ch st (setArr st xs) lo hi:=⟨B,rfl,rfl,rfl,D⟩
section
variable{prog:Program}{w:World}{A:Around}{E:Value->Shared->Prop}{s:Shared}{C:Cq}[LtOk prog w A s C]
theorem ug{Q:Option Bool->SortSt->Prop}(J:kindOf st=C.κ)(D:Oks C (arrOf st))(hi:i<(arrOf st).size)(B:j<(arrOf st).size)(h:Q (some (decide ((KC C) (arrOf st) i<(KC C) (arrOf st) j))) st):
 wpS (model prog w) A E s (ltAt' i j) Q st:=by
 rw[jA hi,jA B]at h
 rw[ltAt'_eq]
 refine ai (ci ?_)
 exact ai (eG (getElem?_pos _ i hi) (ai (eG (getElem?_pos _ j B) (zE J (D _ (by simp)) (D _ (by simp)) h))))
def Gap(C:Cq)(xs:Array Keyed)(lo k l r:Nat):Prop:=(∀i,i<l->(KC C) xs (lo+i)<=(KC C) xs (lo+k))/\∀i,r<=i->i<k->(KC C) xs (lo+k)<(KC C) xs (lo+i)
theorem Uc{ok:Nat}{Q:Bool->SortSt->Prop}(B:kindOf st=C.κ)(D:Oks C (arrOf st))(hn:lo+n<=(arrOf st).size)(hok:ok<=n)(hs:(SIn C) (arrOf st) lo (lo+ok))
 (h:∀st',Ch st st' lo (lo+n)->(SIn C) (arrOf st') lo (lo+n)->Q true st'):wpS (model prog w) A E s (binarySort' lo n ok) Q st:=by
 rw[binarySort'_eq]
 refine ai (bj (a4 (I:=λk c st'=>c=(none,())/\Ch st st' lo (lo+n)/\(SIn C) (arrOf st') lo (lo+min k n))
  (Q:=λc st'=>c=(none,())/\Ch st st' lo (lo+n)/\(SIn C) (arrOf st') lo (lo+n)) ?s1 ?f1 ?z1) ?p1)
 case p1=>
  rintro c st' ⟨rfl,ch,X⟩
  exact am (h st' ch X)
 case z1=>
  refine⟨rfl,Ch.refl _ _ _,λi j O P L=>?_⟩
  by_cases h1:ok=0
  ·rw[show i=j by omega]
   exact eY _
  ·exact hs i j O P (by omega)
 case f1=>
  rintro c st' ⟨J,ch,X⟩
  refine⟨J,ch,?_⟩
  rwa[show min (max (max ok 1) n) n=n by omega]at X
 case s1=>
  rintro k c st' k1 k2 ⟨rfl,ch,X⟩
  rw[show min k n=k by omega]at X
  have sz:=ch.size
  have Y:lo+k<(arrOf st').size:=by omega
  have R:=ch.ints D
  refine ai (bj (a4 (I:=λx c Z=>∃l r,((Z=st'/\c=(none,l,r))/\l<=r/\r<=k/\r-l<=k-x)/\(Gap C) (arrOf st') lo k l r) (Q:=λc Z=>∃l r,((Z=st'/\c=(none,l,r))/\l<=k)/\(Gap C) (arrOf st') lo k l l) ?s2 ?f2 ?z2) ?p2)
  case z2=>exact⟨0,k,⟨⟨rfl,rfl⟩,by omega,by omega,by omega⟩,λi hi=>by omega,λi h1 h2=>by omega⟩
  case f2=>
   rintro c Z ⟨l,r,⟨⟨rfl,rfl⟩,q1,q2,M⟩,V,W⟩
   have:l=r:=by omega
   subst this
   exact⟨l,l,⟨⟨rfl,rfl⟩,q2⟩,V,W⟩
  case s2=>
   rintro x c Z _ H ⟨l,r,⟨⟨rfl,rfl⟩,q1,q2,M⟩,V,W⟩
   dsimp only
   by_cases N:l≥r
   ·refine fW N ?_
    have:l=r:=by omega
    subst this
    exact am ⟨l,l,⟨⟨rfl,rfl⟩,q2⟩,V,W⟩
   ·refine gB N ?_
    refine ai (ug (ch.kind.trans B) R Y (by omega) ?_)
    by_cases U:(KC C) (arrOf Z) (lo+k)<(KC C) (arrOf Z) (lo+(l+r)/2)
    ·simp only[U,decide_true,if_true]
     refine am ⟨l,(l+r)/2,⟨⟨rfl,rfl⟩,by omega,by omega,by omega⟩,V,λi h1 h2=>?_⟩
     exact Int.lt_of_lt_of_le U (X _ _ (by omega) (by omega) (by omega))
    ·simp only[U,decide_false,fG,if_false]
     refine am ⟨(l+r)/2+1,r,⟨⟨rfl,rfl⟩,by omega,by omega,by omega⟩,λi h1=>?_,W⟩
     exact iM (X (lo+i) (lo+(l+r)/2) (by omega) (by omega) (by omega)) (Int.not_lt.mp U)
  case p2=>
   rintro c Z ⟨l,r,⟨⟨rfl,rfl⟩,K⟩,V,W⟩
   show wpS _ _ _ _ (do moveDown' (lo+k) (lo+l);pure (ForInStep.yield (none,()))) _ _
   rw[moveDown'_eq]
   have G:lo+k-(lo+l)=k-l:=by omega
   refine ai (bX (am ⟨rfl,ch.trans (Ch.set (bubble_perm _ _ _) λi hi=>?_),?_⟩))
   ·rw[eh Y _ (by omega)]
    rw[if_neg (by omega),if_neg (by omega)]
   have mk:min (k+1) n=k+1:=by omega
   rw[mk]
   intro i j O P L
   show(KC C) (bubble (arrOf Z) (lo+k) (lo+k-(lo+l))) i<=(KC C) (bubble (arrOf Z) (lo+k) (lo+k-(lo+l))) j
   rw[K_bubble Y (by omega),K_bubble Y (by omega),show lo+k-(lo+k-(lo+l))=lo+l by omega]
   have T:∀x,lo<=x->x<lo+l->(KC C) (arrOf Z) x<=(KC C) (arrOf Z) (lo+k):=λx h1 h2=>by
    have:=V (x-lo) (by omega)
    rwa[show lo+(x-lo)=x by omega]at this
   have S:∀x,lo+l<=x->x<lo+k->(KC C) (arrOf Z) (lo+k)<(KC C) (arrOf Z) x:=λx h1 h2=>by
    have:=W (x-lo) (by omega) (by omega)
    rwa[show lo+(x-lo)=x by omega]at this
   repeat' split
   all_goals first
    | (exfalso;omega)
    |exact eY _
    |exact T _ (by omega) (by omega)
    |exact vh (S _ (by omega) (by omega))
    |exact X _ _ (by omega) (by omega) (by omega)
end
end
end Sq
variable{off:Nat}
namespace Sq
open PySem PyProof.Rows
section
variable{C:Cq}
def putAll(x:Array Keyed)(off:Nat)(m:List Keyed):Array Keyed:=m.zipIdx.foldl (λa q=>a.setIfInBounds (off+q.2) q.1) x
theorem JT:∀(m:List Keyed)(n off:Nat)(x:Array Keyed),off+n+m.length<=x.size ->
 ((m.zipIdx n).foldl (λa q=>a.setIfInBounds (off+q.2) q.1) x).size=x.size/\∀j,((m.zipIdx n).foldl (λa q=>a.setIfInBounds (off+q.2) q.1) x)[j]? = if off+n<=j/\j<off+n+m.length then m[j-(off+n)]? else x[j]?
 |[],n,off,x,_=>⟨rfl,λj=>by rw[if_neg (by simp only[jD];omega)];rfl⟩
 |p::m,n,off,x,h=>by
  rw[bC]at h
  obtain⟨h1,h2⟩:=JT m (n+1) off (x.setIfInBounds (off+n) p) (by rw[pR];omega)
  rw[List.zipIdx_cons,iI]
  refine⟨h1.trans pR,λj=>?_⟩
  rw[h2 j,bC]
  by_cases Y:off+(n+1)<=j/\j<off+(n+1)+m.length
  ·rw[if_pos Y,if_pos (by omega),show j-(off+n)=(j-(off+(n+1)))+1 by omega,List.getElem?_cons_succ]
  ·rw[if_neg Y,Array.getElem?_setIfInBounds]
   by_cases Z:off+n=j
   ·rw[if_pos Z,if_pos (by omega),if_pos (by omega),show j-(off+n)=0 by omega,List.getElem?_cons_zero]
   ·rw[if_neg Z,if_neg (by omega)]
theorem zH{x:Array Keyed}{m:List Keyed}(h:off+m.length<=x.size)(j:Nat):(putAll x off m)[j]? = if off<=j/\j<off+m.length then m[j-off]? else x[j]?:=by
 have:=(JT m 0 off x (by omega)).2 j
 simpa[putAll]using this
theorem Pq{x:Array Keyed}{m:List Keyed}(h:off+m.length<=x.size):(putAll x off m).toList=x.toList.take off++(m++x.toList.drop (off+m.length)):=by
 apply dX
 intro j
 rw[cL,zH h]
 by_cases Z:j<off
 ·rw[if_neg (by omega),cg (by simp;omega),iW Z,cL]
 ·have l1:(x.toList.take off).length=off:=by simp;omega
  rw[bT (by omega),l1]
  by_cases Y:j<off+m.length
  ·rw[if_pos (by omega),cg (by omega)]
  ·rw[if_neg (by omega),bT (by omega),fD,cL]
   congr 1
   omega
theorem Pr{x:Array Keyed}{m:List Keyed}(h:off+m.length<=x.size)(p:m.Perm ((x.toList.drop off).take m.length)):(putAll x off m).Perm x:=by
 rw[d9,Pq h]
 have e:x.toList=x.toList.take off++((x.toList.drop off).take m.length++x.toList.drop (off+m.length)):=by
  rw[<-jM,dU,dU]
 refine List.Perm.trans (List.Perm.append_left _ (List.Perm.append_right _ p)) ?_
 rw[<-e]
end
end Sq
namespace Sq
open PySem PyProof.Rows
section
variable{C:Cq}
section
variable{prog:Program}{w:World}{A:Around}{E:Value->Shared->Prop}{s:Shared}{C:Cq}[LtOk prog w A s C]
theorem Pu{σ:Type}{st B:σ}{Q:PUnit->σ->Prop}(h:Q ⟨⟩ B):wpS M A E s (set B:StateT σ Sem PUnit) Q st:=bX (f:=λ_=>B) h
theorem yh{x:Array Keyed}(h:Oks C x):∀p∈(x.extract i j).toList,C.ok p:=λp Z=>h p (by
 rw[gZ]at Z
 exact nD (nG Z))
theorem Gu{x:Array Keyed}(B:i<=j)(D:j<=x.size):(x.extract i j).size=j-i:=by rw[Array.size_extract];omega
theorem tU{x:Array Keyed}{k:Nat}(D:j<=x.size)(B:i+k<j):(KC C) (x.extract i j) k=(KC C) x (i+k):=by
 unfold KC
 rw[Array.getElem?_extract,if_pos (by omega)]
theorem VL{x:Array Keyed}(h:∀i j,i<=j->j<x.size->(KC C) x i<=(KC C) x j):x.toList.Pairwise (R C):=cA.mpr λi j hi Y Z=>by
 have:=h i j (dW Z) (by simpa using Y)
 rw[jA (by simpa using hi),jA (by simpa using Y)]at this
 unfold R
 simpa using this
theorem Gv{sa p B p2:Nat}{Q:Bool->SortSt->Prop}(J:kindOf st=C.κ)(D:failedOf st=none)(h0:Oks C (arrOf st))(e1:(pendingOf st)[i]? = some (sa,na,p))(e2:(pendingOf st)[i+1]? = some (B,nb,p2))(hc:B=sa+na)(hn:B+nb<=(arrOf st).size)(n1:0<na)(n2:0<nb)
 (s1:(SIn C) (arrOf st) sa B) (s2:(SIn C) (arrOf st) B (B+nb))
 (h:∀st',(arrOf st').Perm (arrOf st)->kindOf st'=C.κ->failedOf st'=none->pendingOf st'=((pendingOf st).setIfInBounds i (sa,na+nb,p)).eraseIdxIfInBounds (i+1)->(∀j,j<sa\/B+nb<=j->(arrOf st')[j]? = (arrOf st)[j]?)->(SIn C) (arrOf st') sa (B+nb)->Q true st') :
 wpS (model prog w) A E s (mergeAt' i) Q st:=by
 have c:∀p∈(arrOf st).toList,C.ok p:=h0
 have O:B<(arrOf st).size:=by omega
 have hla:sa+na-1<(arrOf st).size:=by omega
 refine ai (m:=get) (ci ?_)
 rw[e1,e2]
 dsimp only
 refine ai (Pu ?_)
 refine ai (eG (getElem?_pos (arrOf st) B O) ?_)
 have Kb:(KC C) (arrOf st) B=C.nu ((arrOf st)[B]):=jA O
 refine ai (m6 (arr:=arrOf st) (base:=sa) (n:=na) (hint:=0) J (nA c O) c (by omega) n1 (λa b ab b1 o=>?_) λk k1 k2 k3=>?_)
 ·unfold Pb at o ⊢
  have:=s1 (sa+a) (sa+b) (by omega) (by omega) (by omega)
  rw[if_neg aY,gW,decide_eq_false_iff_not]at o ⊢
  omega
 have lo1:∀u,u<k->(KC C) (arrOf st) (sa+u)<=(KC C) (arrOf st) B:=λu T=>by
  have:=k2 u T
  unfold Pb at this
  rw[if_neg aY,gW,decide_eq_false_iff_not]at this
  omega
 have M:∀u,k<=u->u<na->(KC C) (arrOf st) B<(KC C) (arrOf st) (sa+u):=λu Y X=>by
  have:=k3 u Y X
  unfold Pb at this
  rw[if_neg aY,oZ,decide_eq_true_iff]at this
  omega
 dsimp only
 by_cases c1:na-k=0
 ·refine fW (by simpa using c1) ?_
  refine am (h _ (Array.Perm.refl _) J D rfl (λ_ _=>rfl) λu v Y W Z=>?_)
  show(KC C) (arrOf st) u<=(KC C) (arrOf st) v
  by_cases V:v<B
  ·exact s1 u v Y W V
  ·by_cases X:u<B
   ·have g:=lo1 (u-sa) (by omega)
    have a2:=s2 B v (aL _) (by omega) Z
    rw[show sa+(u-sa)=u by omega]at g
    omega
   ·exact s2 u v (by omega) W Z
 refine gB (by simpa using c1) ?_
 have N:sa+k+(na-k)-1<(arrOf st).size:=by omega
 have exl:sa+k+(na-k)-1=B-1:=by omega
 refine ai (eG (getElem?_pos (arrOf st) (sa+k+(na-k)-1) N) ?_)
 have Ka:(KC C) (arrOf st) (B-1)=C.nu ((arrOf st)[sa+k+(na-k)-1]):=by rw[<-exl];exact jA N
 refine ai (m6 (arr:=arrOf st) (base:=B) (n:=nb) (hint:=nb-1) J (nA c N) c (by omega) (by omega) (λa b ab b1 o=>?_) λl l1 l2 l3=>?_)
 ·unfold Pb at o ⊢
  have:=s2 (B+a) (B+b) (by omega) (by omega) (by omega)
  rw[if_pos rfl,decide_eq_true_iff]at o ⊢
  omega
 have H:∀u,u<l->(KC C) (arrOf st) (B+u)<(KC C) (arrOf st) (B-1):=λu T=>by
  have:=l2 u T
  unfold Pb at this
  rw[if_pos rfl,decide_eq_true_iff]at this
  omega
 have F:∀u,l<=u->u<nb->(KC C) (arrOf st) (B-1)<=(KC C) (arrOf st) (B+u):=λu Y X=>by
  have:=l3 u Y X
  unfold Pb at this
  rw[if_pos rfl,decide_eq_false_iff_not]at this
  omega
 dsimp only
 have l0:0<l:=by
  rcases uN l with z|z
  ·have g:=F 0 (by omega) n2
   have a2:=M (na-1) (by omega) (by omega)
   rw[show sa+(na-1)=B-1 by omega]at a2
   rw[ju]at g
   omega
  ·exact z
 refine gB (by simpa using lJ l0) ?_
 have d:((arrOf st).extract (sa+k) B).size=B-(sa+k):=Gu (by omega) (by omega)
 have zy:((arrOf st).extract B (B+l)).size=l:=by rw[Gu (by omega) (by omega)];omega
 have px:((arrOf st).extract (sa+k) B).toList.Pairwise (R C):=VL λu v W Z=>by
  rw[d]at Z
  rw[tU (by omega) (by omega),tU (by omega) (by omega)]
  exact s1 _ _ (by omega) (by omega) (by omega)
 have py:((arrOf st).extract B (B+l)).toList.Pairwise (R C):=VL λu v W Z=>by
  rw[zy]at Z
  rw[tU (by omega) (by omega),tU (by omega) (by omega)]
  exact s2 _ _ (by omega) (by omega) (by omega)
 have f0:(KC C) ((arrOf st).extract B (B+l)) 0<(KC C) ((arrOf st).extract (sa+k) B) 0:=by
  rw[tU (by omega) (by omega),tU (by omega) (by omega),ju,ju]
  exact M k (aL _) (by omega)
 have xl:((arrOf st).extract (sa+k) B).size-1<((arrOf st).extract (sa+k) B).size:=by omega
 have fl:∀y∈((arrOf st).extract B (B+l)).toList,(R C) y (((arrOf st).extract (sa+k) B)[((arrOf st).extract (sa+k) B).size-1]'xl):=λy hy=>by
  obtain⟨u,Y,rfl⟩:=pA (x:=(arrOf st).extract B (B+l)) (i:=0) (by rw[d_];exact hy)
  have g:=jA (C:=C) Y
  have a2:=jA (C:=C) xl
  unfold R
  rw[<-g,<-a2,tU (by omega) (by omega),tU (by omega) (by omega)]
  have:=H (0+u) (by omega)
  rw[d,show sa+k+(B-(sa+k)-1)=B-1 by omega]
  omega
 have fin:∀(r:Array Keyed)(st':SortSt),(Res C) ((arrOf st).extract (sa+k) B) ((arrOf st).extract B (B+l)) r->kindOf st'=kindOf st->arrOf st'=arrOf st->failedOf st'=failedOf st->pendingOf st'=((pendingOf st).setIfInBounds i (sa,na+nb,p)).eraseIdxIfInBounds (i+1) ->
  Q true (setArr st' (putAll (arrOf st) (sa+k) r.toList)):=λr st' U g1 g2 g3 g4=>by
  have rl:r.toList.length=B+l-(sa+k):=by
   rw[U.P.length_eq,bh,bD,bD,d,zy]
   omega
  have G:sa+k+r.toList.length<=(arrOf st).size:=by omega
  have cut:((arrOf st).toList.drop (sa+k)).take r.toList.length=((arrOf st).extract (sa+k) B).toList++((arrOf st).extract B (B+l)).toList:=by
   rw[gZ,gZ,rl,show B+l-(sa+k)=(B-(sa+k))+(B+l-B)by omega,List.take_add,jM,show sa+k+(B-(sa+k))=B by omega]
  have I:∀u,sa+k<=u->u<B+l->∃v,sa+k<=v/\v<B+l/\(KC C) (putAll (arrOf st) (sa+k) r.toList) u=(KC C) (arrOf st) v:=λu Y X=>by
   have q:=zH G u
   rw[if_pos (by omega)]at q
   have T:u-(sa+k)<r.toList.length:=by omega
   rw[aB T]at q
   have hm:r.toList[u-(sa+k)]∈((arrOf st).toList.drop (sa+k)).take r.toList.length:=by
    rw[cut]
    exact U.P.mem_iff.mp (cj T)
   obtain⟨v,Z,V,ev⟩:=qJ hm
   refine⟨sa+k+v,by omega,by omega,?_⟩
   rw[jA V,<-ev]
   unfold KC
   rw[q]
  have out:∀u,u<sa+k\/B+l<=u->(KC C) (putAll (arrOf st) (sa+k) r.toList) u=(KC C) (arrOf st) u:=λu T=>K_congr (by rw[zH G,if_neg (by omega)])
  have ms:∀u v,sa+k<=u->u<=v->v<B+l->(KC C) (putAll (arrOf st) (sa+k) r.toList) u<=(KC C) (putAll (arrOf st) (sa+k) r.toList) v:=λu v Y W Z=>by
   have eq:∀u,sa+k<=u->u<B+l->(KC C) (putAll (arrOf st) (sa+k) r.toList) u=(KC C) r (u-(sa+k)):=λu Y X=>K_congr (by
    rw[zH G,if_pos (by omega),cL])
   rw[eq u Y (by omega),eq v (by omega) Z]
   exact K_R U.S (by omega) (by rw[<-bD];omega)
  have up:∀v,sa+k<=v->v<B+l->(KC C) (arrOf st) v<=(KC C) (arrOf st) (B-1):=λv Z V=>by
   by_cases z:v<B
   ·exact s1 v (B-1) (by omega) (by omega) (by omega)
   ·have:=H (v-B) (by omega)
    rw[show B+(v-B)=v by omega]at this
    omega
  have dn:∀v,sa+k<=v->v<B+l->(KC C) (arrOf st) B<=(KC C) (arrOf st) v:=λv Z V=>by
   by_cases z:v<B
   ·have:=M (v-sa) (by omega) (by omega)
    rw[show sa+(v-sa)=v by omega]at this
    omega
   ·exact s2 B v (aL _) (by omega) (by omega)
  have low:∀u,sa<=u->u<sa+k->(KC C) (arrOf st) u<=(KC C) (arrOf st) B:=λu Y X=>by
   have:=lo1 (u-sa) (by omega)
   rwa[show sa+(u-sa)=u by omega]at this
  have hig:∀v,B+l<=v->v<B+nb->(KC C) (arrOf st) (B-1)<=(KC C) (arrOf st) v:=λv Z V=>by
   have:=F (v-B) (by omega) (by omega)
   rwa[show B+(v-B)=v by omega]at this
  refine h _ ?_ (g1.trans J) (g3.trans D) g4 (λj hj=>?_) λu v Y W Z=>?_
  ·exact Pr G (by rw[cut];exact U.P)
  ·show(putAll (arrOf st) (sa+k) r.toList)[j]? = _
   rw[zH G,if_neg (by omega)]
  ·show(KC C) (putAll (arrOf st) (sa+k) r.toList) u<=(KC C) (putAll (arrOf st) (sa+k) r.toList) v
   by_cases X:u<sa+k
   ·rw[out u (.inl X)]
    by_cases V:v<sa+k
    ·rw[out v (.inl V)];exact s1 u v Y W (by omega)
    ·by_cases v3:v<B+l
     ·obtain⟨t,t1,t2,t3⟩:=I v (by omega) v3
      rw[t3]
      exact iM (low u Y X) (dn t t1 t2)
     ·rw[out v (.inr (by omega))]
      exact iM (low u Y X) (s2 B v (aL _) (by omega) Z)
   ·by_cases u3:u<B+l
    ·by_cases v3:v<B+l
     ·exact ms u v (by omega) W v3
     ·rw[out v (.inr (by omega))]
      obtain⟨t,t1,t2,t3⟩:=I u (by omega) u3
      rw[t3]
      exact iM (up t t1 t2) (hig v (by omega) Z)
    ·rw[out u (.inr (by omega)),out v (.inr (by omega))]
     exact s2 u v (by omega) W Z
 have K:0<((arrOf st).extract (sa+k) B).size:=by rw[d];omega
 have L:0<((arrOf st).extract B (B+l)).size:=by rw[zy];exact l0
 have nn:(failedOf st).isNone=true:=by rw[D];rfl
 split
 ·refine ai (Gq J (yh h0) (yh h0) K L px py f0 fl λr st' U E=>?_)
  refine ai (bX (ai (ci (am ?_))))
  have:=fin r st' U E.k E.a E.f E.p
  rw[<-E.a]at this
  have e:(failedOf st').isNone=true:=by rw[E.f];exact nn
  show Q (failedOf st').isNone _
  rw[e]
  exact this
 ·refine ai (Gs J (yh h0) (yh h0) K L px py f0 fl λr st' U E=>?_)
  refine ai (bX (ai (ci (am ?_))))
  have:=fin r st' U E.k E.a E.f E.p
  rw[<-E.a]at this
  have e:(failedOf st').isNone=true:=by rw[E.f];exact nn
  show Q (failedOf st').isNone _
  rw[e]
  exact this
end
end
end Sq
namespace Sq
open PySem PyProof.Rows
section
variable{C:Cq}
def NIn(C:Cq)(xs:Array Keyed)(lo hi:Nat):Prop:=∀i j,lo<=i->i<=j->j<hi->(KC C) xs j<=(KC C) xs i
section
variable{prog:Program}{w:World}{A:Around}{E:Value->Shared->Prop}{s:Shared}{C:Cq}[LtOk prog w A s C]
theorem uh(h1:lo<=i)(h2:j<=hi)(B:j<=(arrOf st).size):Ch st (setArr st (mirror (arrOf st) i j ((j-i)/2))) lo hi:=
 Ch.set (mirror_perm _ _ _ _) λu Z=>by rw[da B,if_neg (by omega)]
theorem SIn.one(h:hi<=lo+1):(SIn C) xs lo hi:=λi j h1 h2 Z=>by
 have:i=j:=by omega
 subst this
 exact eY _
theorem SIn.more(h:(SIn C) xs lo (lo+n))(hn:1<=n)(q:¬(KC C) xs (lo+n)<(KC C) xs (lo+n-1)):(SIn C) xs lo (lo+(n+1)):=λi j h1 h2 Y=>by
 by_cases z:j<lo+n
 ·exact h i j h1 h2 z
 ·have Z:j=lo+n:=by omega
  subst Z
  by_cases y:i=lo+n
  ·rw[y];exact eY _
  ·have:=h i (lo+n-1) h1 (by omega) (by omega)
   omega
theorem NIn.more(h:(NIn C) xs lo (lo+n))(hn:1<=n)(q:(KC C) xs (lo+n)<=(KC C) xs (lo+n-1)):(NIn C) xs lo (lo+(n+1)):=λi j h1 h2 Y=>by
 by_cases z:j<lo+n
 ·exact h i j h1 h2 z
 ·have Z:j=lo+n:=by omega
  subst Z
  by_cases y:i=lo+n
  ·rw[y];exact eY _
  ·have:=h i (lo+n-1) h1 (by omega) (by omega)
   omega
theorem Lj{B:Nat}{Q:Option Nat->SortSt->Prop}(hk:kindOf st=C.κ)(h0:Oks C (arrOf st))(h1:1<=B)(hn:lo+B<=(arrOf st).size)
 (h:∀m st',Ch st st' lo (lo+B)->1<=m->m<=B->(SIn C) (arrOf st') lo (lo+m)->Q (some m) st'):wpS (model prog w) A E s (countRun' lo B) Q st:=by
 refine ai (bj (a4 (a:=1) (b:=B) (I:=λx c st'=>st'=st/\c=(none,x)/\(SIn C) (arrOf st) lo (lo+x))
  (Q:=λc st'=>st'=st/\∃n,c=(none,n)/\1<=n/\n<=B/\(SIn C) (arrOf st) lo (lo+n)/\(n=B\/(KC C) (arrOf st) (lo+n)<(KC C) (arrOf st) (lo+n-1))) ?s1 ?f1 ⟨rfl,rfl,SIn.one (by omega)⟩) ?p1)
 case f1=>
  rintro c st' ⟨rfl,rfl,U⟩
  rw[show max 1 B=B by omega]at U ⊢
  exact⟨rfl,B,rfl,h1,aL _,U,.inl rfl⟩
 case s1=>
  rintro x c st' x1 g ⟨rfl,rfl,U⟩
  dsimp only
  refine ai (ug hk h0 (by omega) (by omega) ?_)
  dsimp only
  by_cases lt:(KC C) (arrOf st') (lo+x)<(KC C) (arrOf st') (lo+x-1)
  ·refine fW (dTr lt) ?_
   exact am ⟨rfl,x,rfl,x1,by omega,U,.inr lt⟩
  ·refine gB (by rw[dFa lt];exact aY) ?_
   exact am ⟨rfl,rfl,U.more x1 lt⟩
 case p1=>
  rintro c st' ⟨rfl,n,rfl,n1,n2,U,t⟩
  dsimp only
  by_cases k:n=B
  ·refine fW (by simpa using k) ?_
   exact am (h n st' (Ch.refl _ _ _) n1 n2 U)
  refine gB (by simpa using k) ?_
  have lt:=t.resolve_left k
  by_cases c2:n>1
  case' pos=>
   refine fW c2 ?_
   refine ai (ug hk h0 (by omega) (by omega) ?_)
   dsimp only
   by_cases f:(KC C) (arrOf st') lo<(KC C) (arrOf st') (lo+n-1)
   case pos=>
    refine fW (dTr f) ?_
    exact am (h n st' (Ch.refl _ _ _) n1 n2 U)
   refine gB (by rw[dFa f];exact aY) ?_
   refine ai (d4 ?_)
   have al:∀u,lo<=u->u<lo+n->(KC C) (arrOf st') u=(KC C) (arrOf st') (lo+n-1):=λu H F=>by
    have a1:=U lo u (aL _) H F
    have a2:=U u (lo+n-1) H (by omega) (by omega)
    omega
   have ch:Ch st' (setArr st' (mirror (arrOf st') lo (lo+n) ((lo+n-lo)/2))) lo (lo+B):=uh (aL _) (by omega) (by omega)
   have M:=K_mirror_equal (xs:=arrOf st') (i:=lo) (j:=lo+n) (by omega) al
   have o:(NIn C) (arrOf (setArr st' (mirror (arrOf st') lo (lo+n) ((lo+n-lo)/2)))) lo (lo+(n+1)):=λi j i1 G j1=>by
    show(KC C) (mirror (arrOf st') lo (lo+n) ((lo+n-lo)/2)) j<=(KC C) (mirror (arrOf st') lo (lo+n) ((lo+n-lo)/2)) i
    rw[M,M]
    by_cases z:j<lo+n
    ·rw[al i i1 (by omega),al j (by omega) z];exact eY _
    ·have l:j=lo+n:=by omega
     subst l
     by_cases y:i=lo+n
     ·rw[y];exact eY _
     ·rw[al i i1 (by omega)];omega
   generalize setArr st' (mirror (arrOf st') lo (lo+n) ((lo+n-lo)/2))=S at ch o ⊢
  case' neg=>
   refine gB c2 ?_
   have en:n=1:=by omega
   have p:(NIn C) (arrOf st') lo (lo+(n+1)):=λi j i1 G j1=>by
    by_cases y:i=j
    ·rw[y];exact eY _
    ·have ei:i=lo:=by omega
     have l:j=lo+n:=by omega
     rw[ei,l]
     rw[show lo+n-1=lo by omega]at lt
     omega
   obtain⟨S,es⟩:∃S,S=st':=⟨_,rfl⟩
   have ch:Ch st' S lo (lo+B):=by rw[es];exact Ch.refl _ _ _
   have o:(NIn C) (arrOf S) lo (lo+(n+1)):=by rw[es];exact p
   rw[<-es]
  all_goals
   refine ai (db (be ⟨rfl,?_⟩))
   refine ai (bj (a4 (I:=λx c Z=>∃q,c=(none,x,q)/\Ch st' Z lo (lo+B)/\(NIn C) (arrOf Z) lo (lo+x)/\q+1<=x/\∀u,lo+x-(q+1)<=u->u<lo+x->(KC C) (arrOf Z) u=(KC C) (arrOf Z) (lo+x-1))
    (Q:=λc Z=>∃m q,c=(none,m,q)/\n+1<=m/\m<=B/\Ch st' Z lo (lo+B)/\(NIn C) (arrOf Z) lo (lo+m)/\q+1<=m/\∀u,lo+m-(q+1)<=u->u<lo+m->(KC C) (arrOf Z) u=(KC C) (arrOf Z) (lo+m-1)) ?s2 ?f2 ⟨0,rfl,ch,o,by omega,λu H F=>by congr 1;omega⟩) ?p2)
   case f2=>
    rintro c Z ⟨q,rfl,X,W,q1,T⟩
    rw[show max (n+1) B=B by omega]at W q1 T ⊢
    exact⟨B,q,rfl,by omega,aL _,X,W,q1,T⟩
   case s2=>
    rintro x c Z x1 g ⟨q,rfl,X,W,q1,T⟩
    dsimp only
    have sz:=X.size
    have e:=X.kind.trans hk
    have d:=X.ints h0
    refine ai (ug e d (by omega) (by omega) ?_)
    dsimp only
    by_cases O:(KC C) (arrOf Z) (lo+x)<(KC C) (arrOf Z) (lo+x-1)
    ·refine fW (dTr O) ?_
     by_cases v:q>0
     ·refine fW v ?_
      have M:=K_mirror_equal (xs:=arrOf Z) (i:=lo+x-(q+1)) (j:=lo+x) (by omega) T
      refine ai (d4 (am ⟨0,rfl,X.trans (uh (by omega) (by omega) (by omega)),?_,by omega,λu H F=>by congr 1;omega⟩))
      have no:=W.more (by omega) (vh O)
      intro i j i1 G j1
      show(KC C) (mirror (arrOf Z) (lo+x-(q+1)) (lo+x) _) j<=(KC C) (mirror (arrOf Z) (lo+x-(q+1)) (lo+x) _) i
      rw[M,M]
      exact no i j i1 G j1
     ·refine gB v ?_
      exact am ⟨0,rfl,X,W.more (by omega) (vh O),by omega,λu H F=>by congr 1;omega⟩
    ·refine gB (by rw[dFa O];exact aY) ?_
     refine ai (ug e d (by omega) (by omega) ?_)
     dsimp only
     by_cases r:(KC C) (arrOf Z) (lo+x-1)<(KC C) (arrOf Z) (lo+x)
     ·refine fW (dTr r) ?_
      exact am ⟨x,q,rfl,x1,by omega,X,W,q1,T⟩
     ·refine gB (by rw[dFa r];exact aY) ?_
      refine am ⟨q+1,rfl,X,W.more (by omega) (by omega),by omega,λu H F=>?_⟩
      rw[show lo+(x+1)-1=lo+x by omega]
      by_cases z:u=lo+x
      ·rw[z]
      ·rw[T u (by omega) (by omega)];omega
   case p2=>
    rintro c Z ⟨m,q,rfl,m1,m2,X,W,q1,T⟩
    dsimp only
    have sz:=X.size
    by_cases v:q>0
    case' pos=>
     refine fW v ?_
     refine ai (d4 ?_)
     have M:=K_mirror_equal (xs:=arrOf Z) (i:=lo+m-(q+1)) (j:=lo+m) (by omega) T
     have N:Ch st' (setArr Z (mirror (arrOf Z) (lo+m-(q+1)) (lo+m) ((lo+m-(lo+m-(q+1)))/2))) lo (lo+B):=X.trans (uh (by omega) (by omega) (by omega))
     have L:(NIn C) (arrOf (setArr Z (mirror (arrOf Z) (lo+m-(q+1)) (lo+m) ((lo+m-(lo+m-(q+1)))/2)))) lo (lo+m):=λi j i1 G j1=>by
      show(KC C) (mirror (arrOf Z) (lo+m-(q+1)) (lo+m) _) j<=(KC C) (mirror (arrOf Z) (lo+m-(q+1)) (lo+m) _) i
      rw[M,M]
      exact W i j i1 G j1
     generalize setArr Z (mirror (arrOf Z) (lo+m-(q+1)) (lo+m) ((lo+m-(lo+m-(q+1)))/2))=Y at N L ⊢
    case' neg=>
     refine gB v ?_
     obtain⟨Y,J⟩:∃Y,Y=Z:=⟨_,rfl⟩
     have N:Ch st' Y lo (lo+B):=by rw[J];exact X
     have L:(NIn C) (arrOf Y) lo (lo+m):=by rw[J];exact W
     rw[<-J]
    all_goals
     have sz4:=N.size
     refine ai (d4 ?_)
     have R:Ch st' (setArr Y (mirror (arrOf Y) lo (lo+m) ((lo+m-lo)/2))) lo (lo+B):=N.trans (uh (aL _) (by omega) (by omega))
     have D:(SIn C) (arrOf (setArr Y (mirror (arrOf Y) lo (lo+m) ((lo+m-lo)/2)))) lo (lo+m):=λi j i1 G j1=>by
      show(KC C) (mirror (arrOf Y) lo (lo+m) ((lo+m-lo)/2)) i<=(KC C) (mirror (arrOf Y) lo (lo+m) ((lo+m-lo)/2)) j
      rw[K_mirror (by omega),K_mirror (by omega),if_pos (by omega),if_pos (by omega)]
      exact L _ _ (by omega) (by omega) (by omega)
     generalize setArr Y (mirror (arrOf Y) lo (lo+m) ((lo+m-lo)/2))=P at R D ⊢
     have sz5:=R.size
     refine ai (bj (a4 (I:=λx c V=>V=P/\c=(none,x)/\(SIn C) (arrOf P) lo (lo+x)) (Q:=λc V=>V=P/\∃z,c=(none,z)/\m<=z/\z<=B/\(SIn C) (arrOf P) lo (lo+z)) ?s3 ?f3 ⟨rfl,rfl,D⟩) ?p3)
     case f3=>
      rintro c V ⟨rfl,rfl,U⟩
      rw[show max m B=B by omega]at U ⊢
      exact⟨rfl,B,rfl,m2,aL _,U⟩
     case s3=>
      rintro x c V x1 g ⟨rfl,rfl,U⟩
      dsimp only
      refine ai (ug (R.kind.trans hk) (R.ints h0) (by omega) (by omega) ?_)
      dsimp only
      by_cases K:(KC C) (arrOf V) (lo+x)<(KC C) (arrOf V) (lo+x-1)
      ·refine fW (dTr K) ?_
       exact am ⟨rfl,x,rfl,x1,by omega,U⟩
      ·refine gB (by rw[dFa K];exact aY) ?_
       exact am ⟨rfl,rfl,U.more (by omega) K⟩
     case p3=>
      rintro c V ⟨rfl,z,rfl,z1,z2,U⟩
      exact am (h z V R (by omega) z2 U)
end
end
end Sq
variable{st0:SortSt}
namespace Sq
open PySem PyProof.Rows
section
variable{C:Cq}
def Runs(C:Cq)(xs:Array Keyed):List (Nat×Nat×Nat)->Nat->Nat->Prop
 |[],a,b=>a=b
 | (st,len,_)::r,a,b=>st=a/\0<len/\(SIn C) xs a (a+len)/\(Runs C) xs r (a+len) b
theorem Runs.le:∀{ps:List (Nat×Nat×Nat)}{a b:Nat},(Runs C) xs ps a b->a+ps.length<=b
 |[],a,b,h=>by have:a=b:=h;simp only[jD];omega
 | (st,len,_)::r,a,b,h=>by
  have:=h.2.2.2.le
  have:=h.2.1
  rw[bC]
  omega
theorem SIn.same{ys:Array Keyed}(h:(SIn C) xs lo hi)(e:∀j,lo<=j->j<hi->(KC C) ys j=(KC C) xs j):(SIn C) ys lo hi:=λi j h1 h2 Z=>by
 rw[e i h1 (by omega),e j (by omega) Z]
 exact h i j h1 h2 Z
theorem Runs.same{ys:Array Keyed}:∀{ps:List (Nat×Nat×Nat)}{a b:Nat},(Runs C) xs ps a b->(∀j,a<=j->j<b->(KC C) ys j=(KC C) xs j)->(Runs C) ys ps a b
 |[],a,b,h,_=>h
 | (st,len,p)::r,a,b,h,e=>by
  have l:=h.2.2.2.le
  exact⟨h.1,h.2.1,h.2.2.1.same λj j1 j2=>e j j1 (by omega),Runs.same h.2.2.2 λj j1 j2=>e j (by omega) j2⟩
theorem Runs.app:∀{ps:List (Nat×Nat×Nat)}{a b c p:Nat},(Runs C) xs ps a b->0<c->(SIn C) xs b (b+c)->(Runs C) xs (ps++[(b,c,p)]) a (b+c)
 |[],a,b,c,p,h,h1,h2=>by
  have:a=b:=h
  subst this
  exact⟨rfl,h1,h2,rfl⟩
 | (st,len,q)::r,a,b,c,p,h,h1,h2=>⟨h.1,h.2.1,h.2.2.1,Runs.app h.2.2.2 h1 h2⟩
theorem Runs.pw(f:Nat×Nat×Nat->Nat):∀{ps:List (Nat×Nat×Nat)}{a b i:Nat},(Runs C) xs ps a b->(Runs C) xs (ps.modify i λq=>(q.1,q.2.1,f q)) a b
 |[],a,b,i,h=>by cases i<;>exact h
 | (st,len,q)::r,a,b,0,h=>h
 | (st,len,q)::r,a,b,i+1,h=>⟨h.1,h.2.1,h.2.2.1,Runs.pw f (i:=i) h.2.2.2⟩
theorem Runs.merge:∀{ps:List (Nat×Nat×Nat)}{a b i sa na p B nb q:Nat},(Runs C) xs ps a b->ps[i]? = some (sa,na,p)->ps[i+1]? = some (B,nb,q) ->
 (a<=sa/\B=sa+na/\0<na/\0<nb/\(SIn C) xs sa B/\(SIn C) xs B (B+nb)/\B+nb<=b) /\
 ∀ys,(∀j,j<sa\/B+nb<=j->(KC C) ys j=(KC C) xs j)->(SIn C) ys sa (B+nb)->(Runs C) ys ((ps.set i (sa,na+nb,p)).eraseIdx (i+1)) a b
 |[],a,b,i,sa,na,p,B,nb,q,h,Z,e2=>by cases Z
 | (st,len,V)::r,a,b,0,sa,na,p,B,nb,q,h,Z,e2=>by
  cases Z
  cases r with
  |nil=>cases e2
  |cons x r=>
   cases e2
   obtain⟨h1,h2,X,Y,T,U,W⟩:=h
   subst h1 Y
   have l:=W.le
   refine⟨⟨aL _,rfl,h2,T,X,U,by omega⟩,λys e s=>⟨rfl,by omega,by rwa[<-uG],?_⟩⟩
   have:=W.same (ys:=ys) λj j1 j2=>e j (.inr (by omega))
   rwa[<-uG]
 | (st,len,V)::r,a,b,i+1,sa,na,p,B,nb,q,h,Z,e2=>by
  obtain⟨h1,h2,X,Y⟩:=h
  subst h1
  obtain⟨⟨g1,g2,g3,O,P,Q,R⟩,S⟩:=Runs.merge (i:=i) Y (by simpa using Z) (by simpa using e2)
  refine⟨⟨by omega,g2,g3,O,P,Q,R⟩,λys e s=>⟨rfl,h2,X.same λj j1 j2=>e j (.inl (by omega)),?_⟩⟩
  exact S ys e s
section
variable{prog:Program}{w:World}{A:Around}{E:Value->Shared->Prop}{s:Shared}{C:Cq}[LtOk prog w A s C]
structure W(C:Cq)(st0 st:SortSt)(lo:Nat):Prop where
 perm:(arrOf st).Perm (arrOf st0)
 kind:kindOf st=C.κ
 failed:failedOf st=none
 runs:(Runs C) (arrOf st) (pendingOf st).toList 0 lo
theorem W.ints(h:(W C) st0 st lo)(B:Oks C (arrOf st0)):Oks C (arrOf st):=λp Z=>B p ((d9.mp h.perm).mem_iff.mp Z)
theorem Gw{Q:Bool->SortSt->Prop}(J:Oks C (arrOf st0))(B:(W C) st0 st lo)(D:lo<=(arrOf st0).size)(hi:i+1<(pendingOf st).size)
 (h:∀st',(W C) st0 st' lo->(pendingOf st').size+1=(pendingOf st).size->(∀j,lo<=j->(arrOf st')[j]? = (arrOf st)[j]?)->Q true st'):wpS (model prog w) A E s (mergeAt' i) Q st:=by
 obtain⟨sa,na,p,X⟩:∃sa na p,(pendingOf st)[i]? = some (sa,na,p):=⟨_,_,_,getElem?_pos (pendingOf st) i (by omega)⟩
 obtain⟨Z,nb,q,e2⟩:∃Z nb q,(pendingOf st)[i+1]? = some (Z,nb,q):=⟨_,_,_,getElem?_pos (pendingOf st) (i+1) hi⟩
 obtain⟨⟨g1,g2,g3,P,R,S,K⟩,T⟩:=B.runs.merge (i:=i) (by rw[cL];exact X) (by rw[cL];exact e2)
 have sz:=B.perm.size_eq
 refine Gv B.kind B.failed (B.ints J) X e2 g2 (by omega) g3 P R S λst' L M N U V O=>h st' ⟨L.trans B.perm,M,N,?_⟩ ?_ λj Y=>V j (.inr (by omega))
 ·have:=T (arrOf st') (λj Y=>K_congr (V j Y)) O
  rw[U]
  simpa using this
 ·rw[U,<-bD,<-bD]
  rw[show(((pendingOf st).setIfInBounds i (sa,na+nb,p)).eraseIdxIfInBounds (i+1)).toList=((pendingOf st).toList.set i (sa,na+nb,p)).eraseIdx (i+1)by simp,List.length_eraseIdx_of_lt (by simpa using hi),cH,bD]
  omega
theorem W.push(h:(W C) st0 st lo)(hn:0<n)(B:(SIn C) (arrOf st) lo (lo+n)):(W C) st0 (setPending st ((pendingOf st).push (lo,n,0))) (lo+n):=
 ⟨h.perm,h.kind,h.failed,by
  show(Runs C) (arrOf st) ((pendingOf st).push (lo,n,0)).toList 0 (lo+n)
  rw[pG]
  exact h.runs.app hn B⟩
theorem W.pow{f:Nat×Nat×Nat->Nat}(h:(W C) st0 st lo):(W C) st0 (setPending st ((pendingOf st).modify i λq=>(q.1,q.2.1,f q))) lo:=
 ⟨h.perm,h.kind,h.failed,by
  show(Runs C) (arrOf st) ((pendingOf st).modify i λq=>(q.1,q.2.1,f q)).toList 0 lo
  rw[Array.toList_modify]
  exact h.runs.pw f⟩
theorem W.of{D B:SortSt}(h:(W C) st0 D lo)(ch:Ch D B lo hi):(W C) st0 B lo:=
 ⟨ch.perm.trans h.perm,ch.kind.trans h.kind,ch.failed.trans h.failed,by
  rw[ch.pend]
  exact h.runs.same λj _ j2=>K_congr (ch.out j (.inl j2))⟩
theorem Px{Q:Unit->SortSt->Prop}(hk:kindOf st=C.κ)(hf:failedOf st=none)(hp:pendingOf st = #[])(B:Oks C (arrOf st))(h2:2<=(arrOf st).size)
 (h:∀st',(arrOf st').Perm (arrOf st)->failedOf st'=none->STo C (arrOf st') (arrOf st).size->Q () st'):wpS (model prog w) A E s sortRuns' Q st:=by
 have W0:(W C) st st 0:=⟨Array.Perm.refl _,hk,hf,by rw[hp];rfl⟩
 rw[sortRuns'_eq]
 refine ai (ci ?_)
 dsimp only
 refine ai (bj (a4 (I:=λx c st'=>∃lo,c=(none,lo)/\lo<=(arrOf st).size/\min x (arrOf st).size<=lo/\(W C) st st' lo)
  (Q:=λc st'=>c=(none,(arrOf st).size)/\(W C) st st' (arrOf st).size) ?s1 ?f1 ⟨0,rfl,cZ _,by omega,W0⟩) ?p1)
 case f1=>
  rintro c st' ⟨lo,rfl,l1,l2,Ww⟩
  have:lo=(arrOf st).size:=by omega
  subst this
  exact⟨rfl,Ww⟩
 case s1=>
  rintro x c K _ hx ⟨lo,rfl,l1,l2,U⟩
  dsimp only
  have sz:=U.perm.size_eq
  by_cases z:lo≥(arrOf st).size
  ·refine fW z ?_
   have:lo=(arrOf st).size:=by omega
   subst this
   exact am ⟨rfl,U⟩
  refine gB z ?_
  refine ai (Lj U.kind (U.ints B) (by omega) (by omega) λm Z ch g m2 N=>?_)
  dsimp only
  by_cases D:m<minRun' (arrOf st).size (arrOf st).size 0
  case' pos=>
   refine fW D ?_
   refine ai (db (be ⟨rfl,?_⟩))
   have t:=ch.size
   have X:=U.of ch
   refine ai (Uc X.kind (X.ints B) (by omega) (by omega) N λL R T=>?_)
   have M:∃n,n=min ((arrOf st).size-lo) (minRun' (arrOf st).size (arrOf st).size 0):=⟨_,rfl⟩
   obtain⟨n,M⟩:=M
   rw[<-M]at T R ⊢
   have n1:1<=n:=by omega
   have n2:lo+n<=(arrOf st).size:=by omega
   have O:=X.of R
   refine gB (by decide) ?_
   clear M N ch X
  case' neg=>
   refine gB D ?_
   have O:=U.of ch
   have T:=N
   have n1:=g
   have n2:lo+m<=(arrOf st).size:=by omega
   clear N ch
  all_goals
   refine ai (ci ?_)
   split
   ·next s1 k p1 eb=>
    refine ai (bj (a4 (I:=λy c Y=>c=(none,())/\(W C) st Y lo/\(SIn C) (arrOf Y) lo _) (Q:=λc Y=>c=(none,())/\(W C) st Y lo/\(SIn C) (arrOf Y) lo _) ?s2 (λ_ _ q=>q) ⟨rfl,O,T⟩) ?p2)
    case s2=>
     rintro y c Y _ e ⟨rfl,P,V⟩
     refine ai (ci ?_)
     by_cases F:(pendingOf Y).size>1
     ·rw[if_pos F]
      obtain⟨u,v,o,eo⟩:∃u v o,(pendingOf Y)[(pendingOf Y).size-2]? = some (u,v,o):=⟨_,_,_,getElem?_pos (pendingOf Y) _ (by omega)⟩
      rw[eo]
      dsimp only
      split
      ·exact am ⟨rfl,P,V⟩
      ·refine ai (Gw B P l1 (by omega) λr W5 _ l=>?_)
       refine gB (by decide) ?_
       exact am ⟨rfl,W5,V.same λj j1 _=>K_congr (l j j1)⟩
     ·rw[if_neg F]
      exact am ⟨rfl,P,V⟩
    case p2=>
     rintro c Y ⟨rfl,P,V⟩
     dsimp only
     refine ai (bX (ai (bX (am ⟨_,rfl,n2,by omega,?_⟩))))
     exact(P.pow).push n1 V
   ·exact ai (bX (am ⟨_,rfl,n2,by omega,O.push n1 T⟩))
 case p1=>
  rintro c K ⟨rfl,U⟩
  dsimp only
  have sz:=U.perm.size_eq
  have lp:=U.runs.le
  rw[bD]at lp
  refine ai (bj (a4 (I:=λy c Z=>c=(none,())/\(W C) st Z (arrOf st).size/\((pendingOf Z).size<=1\/(pendingOf Z).size+y<=(arrOf st).size)) (Q:=λc Z=>c=(none,())/\(W C) st Z (arrOf st).size/\(pendingOf Z).size<=1) ?s3 ?f3 ⟨rfl,U,.inr (by omega)⟩) ?p3)
  case f3=>
   rintro c Z ⟨rfl,X,q⟩
   exact⟨rfl,X,by omega⟩
  case s3=>
   rintro y c Z _ e ⟨rfl,X,q⟩
   refine ai (ci ?_)
   by_cases H:(pendingOf Z).size<=1
   ·refine fW H ?_
    exact am ⟨rfl,X,H⟩
   refine gB H ?_
   split
   all_goals
    refine ai (Gw B X (aL _) (by split<;>omega) λL O q3 _=>?_)
    refine gB (by decide) ?_
    exact am ⟨rfl,O,.inr (by omega)⟩
  case p3=>
   rintro c Z ⟨rfl,X,q⟩
   refine am (h Z X.perm X.failed ?_)
   have S:=X.runs
   have p:(pendingOf Z).toList.length<=1:=by rw[bD];exact q
   match hps:(pendingOf Z).toList,S,p with
   |[],S,_=>
    have:0=(arrOf st).size:=S
    omega
   |[(a,b,d)],S,_=>
    obtain⟨_,_,G,J⟩:=S
    have J:0+b=(arrOf st).size:=J
    rw[J]at G
    exact λi j f j1=>G i j (cZ _) f j1
end
end
end Sq
variable{ks:List (List Int)}
namespace XJ
open PySem PySem.Spec PySem.W PyProof.Rows L2 My D3
theorem yj:∀a:List Int,pY a a=false
 |[]=>rfl
 |x::xs=>by simp[pY,yj xs]
theorem DP:∀{a b c:List Int},pY a b=true->pY b c=true->pY a c=true
 |[],[],_,h,_=>by cases h
 |[],_::_,[],_,h=>by cases h
 |[],_::_,_::_,_,_=>rfl
 |_::_,[],_,h,_=>by cases h
 |_::_,_::_,[],_,h=>by cases h
 |x::xs,y::ys,z::zs,h1,h2=>by
  simp only[pY]at h1 h2 ⊢
  by_cases Z:x=y
  ·subst Z
   rw[if_pos rfl]at h1
   by_cases e2:x=z
   ·subst e2
    rw[if_pos rfl]at h2 ⊢
    exact DP h1 h2
   ·rw[if_neg e2]at h2 ⊢
    exact h2
  ·rw[if_neg Z]at h1
   have h1:=of_decide_eq_true h1
   by_cases e2:y=z
   ·subst e2
    rw[if_neg Z]
    exact dTr h1
   ·rw[if_neg e2]at h2
    have h2:=of_decide_eq_true h2
    rw[if_neg (by omega)]
    exact dTr (by omega)
theorem yp:∀{a b:List Int},a≠b->pY a b=true\/pY b a=true
 |[],[],h=>absurd rfl h
 |[],_::_,_=>.inl rfl
 |_::_,[],_=>.inr rfl
 |x::xs,y::ys,h=>by
  simp only[pY]
  by_cases e:x=y
  ·subst e
   rw[if_pos rfl,if_pos rfl]
   exact yp λz=>h (by rw[z])
  ·rw[if_neg e,if_neg (Ne.symm e)]
   by_cases l:x<y
   ·exact .inl (dTr l)
   ·exact .inr (dTr (by omega))
def Lk(k:List Int):List (List Int)->List (List Int)
 |[]=>[k]
 |q::r=>if pY k q=true then k::q::r else q::Lk k r
def gw(ks:List (List Int)):List (List Int):=ks.foldr Lk []
theorem zJ(k:List Int):∀l:List (List Int),(Lk k l).Perm (k::l)
 |[]=>.refl _
 |q::r=>by
  unfold Lk
  split
  ·exact .refl _
  ·exact((zJ k r).cons q).trans (.swap k q r)
theorem fK:∀ks:List (List Int),(gw ks).Perm ks
 |[]=>.refl _
 |k::r=>(zJ k _).trans ((fK r).cons k)
abbrev LL(a b:List Int):Prop:=pY a b=true
theorem Py(k:List Int):∀l:List (List Int),l.Pairwise LL->¬k∈l->(Lk k l).Pairwise LL
 |[],_,_=>gU _ _
 |q::r,h,Y=>by
  have h':=bZ.mp h
  unfold Lk
  split
  ·next z=>
   refine bZ.mpr ⟨λy Z=>?_,h⟩
   rcases aU.mp Z with rfl|Z
   ·exact z
   ·exact DP z (h'.1 y Z)
  ·next z=>
   have ne:q≠k:=λe=>Y (by rw[e];exact aJ)
   have X:pY q k=true:=(yp ne).resolve_right z
   refine bZ.mpr ⟨λy Z=>?_,Py k r h'.2 λe=>Y (aK _ e)⟩
   rcases aU.mp ((zJ k r).mem_iff.mp Z)with rfl|Z
   ·exact X
   ·exact h'.1 y Z
theorem Gx:∀{ks:List (List Int)},ks.Nodup->(gw ks).Pairwise LL
 |[],_=>.nil
 |k::r,h=>Py k _ (Gx (eO.mp h).2) λz=>(eO.mp h).1 ((fK r).mem_iff.mp z)
theorem BR:∀{l m:List (List Int)},l.Perm m->l.Pairwise LL->m.Pairwise LL->l=m
 |[],m,h,_,_=>(List.nil_perm.mp h).symm
 |a::l,[],h,_,_=>absurd (uH.mp h) (by simp)
 |a::l,b::m,h,h1,h2=>by
  have p1:=bZ.mp h1
  have p2:=bZ.mp h2
  have e:a=b:=by
   rcases aU.mp (h.mem_iff.mp (aJ (a:=a) (l:=l)))with z|z
   ·exact z
   rcases aU.mp (h.symm.mem_iff.mp (aJ (a:=b) (l:=m)))with y|y
   ·exact y.symm
   have:=DP (p1.1 b y) (p2.1 a z)
   rw[yj]at this
   cases this
  subst e
  rw[BR (List.perm_cons a |>.mp h) p1.2 p2.2]
def rk(ks:List (List Int))(k:List Int):Nat:=ks.countP λq=>pY q k
theorem Gy{p q:List Int->Bool}(h:∀x,p x=true->q x=true):∀{l:List (List Int)}{a:List Int},a∈l->q a=true->p a=false->l.countP p<l.countP q
 |[],_,ha,_,_=>by cases ha
 |x::r,a,ha,h1,h2=>by
  rw[List.countP_cons,List.countP_cons]
  have m:r.countP p<=r.countP q:=List.countP_mono_left λy _=>h y
  rcases aU.mp ha with rfl|ha
  ·rw[h1,h2,if_pos rfl,if_neg aY];omega
  ·have:=Gy h ha h1 h2
   by_cases z:p x=true
   ·rw[if_pos z,if_pos (h x z)];omega
   ·rw[if_neg z]
    split<;>omega
theorem Pz{a b:List Int}(ha:a∈ks)(h:pY a b=true):rk ks a<rk ks b:=Gy (λ_ z=>DP z h) ha h (yj a)
theorem X4{a b:List Int}(ha:a∈ks)(B:b∈ks):decide ((rk ks a:Int)<(rk ks b:Int))=pY a b:=by
 by_cases e:a=b
 ·subst e
  rw[yj]
  exact dFa (by omega)
 ·cases q:pY a b with
  |true=>have:=Pz ha q;exact dTr (by omega)
  |false=>
   have:=Pz B ((yp e).resolve_left (by rw[q];exact aY))
   exact dFa (by omega)
end XJ
variable{ky:Addr->List Int}
namespace XJ
open PySem PySem.Spec PySem.W PyProof.Rows L2 My D3 XK XT XD XS
section
variable{prog:Program}{w:World}{A:Around}{E:Value->Shared->Prop}{s:Shared}
theorem JV{fin:Bool}:∀(a b:List Int)(u v:List Value)(i:Nat),IntsAre u a->IntsAre v b->(fin=decide (a.length<b.length))->C (pY a b) s->KatLex prog w A true fin C (u.zip v) i s
 |[],[],_,_,_,.nil,.nil,Z,q=>by
  refine kat_nil ?_
  rw[Z]
  exact q
 |[],y::ys,_,_,_,.nil,.cons _ _ _,Z,q=>by
  refine kat_nil ?_
  rw[Z,dTr (by simp)]
  exact q
 |x::xs,[],_,_,_,.cons _ _ _,.nil,Z,q=>by
  refine kat_nil ?_
  rw[Z,dFa (by simp)]
  exact q
 |x::xs,y::ys,_,_,i,.cons _ V h1,.cons _ X h2,Z,q=>by
  refine kat_cons (cn (kat_go (λe=>?_) λe=>?_))
  ·have e:=beq_iff_eq.mp e
   subst e
   refine kat_yes (JV xs ys _ _ (i+1) h1 h2 (by rw[Z];simp) ?_)
   simpa[pY]using q
  ·have e:x≠y:=by
    intro z;subst z;simp at e
   have Y:C (decide (x<y)) s:=by simpa[pY,e]using q
   refine kat_no ?_
   cases i with
   |zero=>exact oneLt_int Y
   |succ i=>exact kat_one _ _ (lt_int (by simpa[PySem.W.BoolBack]using Y))
theorem X5{x y:Addr}{a b:List Int}{u v:List Value}(O:IsTup s.heap x u.toArray)(J:IsTup s.heap y v.toArray)(D:IntsAre u a)(B:IntsAre v b)(q:C (pY a b) s):wpAny (model prog w) A (keyLt' (tuples' true) (.ref x) (.ref y)) C E s:=by
 obtain⟨W,ex,_,nx,dx⟩:=O
 obtain⟨X,Z,_,V,Y⟩:=J
 refine kat_lt ex dx Z Y ?_
 have:=JV (prog:=prog) (w:=w) (A:=A) (s:=s) (fin:=decide (u.toArray.size<v.toArray.size)) (C:=C) a b u v 0 D B (by rw[aX,aX,D.length,B.length]) q
 simpa using this
end
section
variable{prog:Program}{w:World}{A:Around}{E:Value->Shared->Prop}{s:Shared}
def Gz(bs:List Addr)(ky:Addr->List Int):Sq.Cq:=⟨λx=>match x.1 with
    | .ref b=>(rk (bs.map ky) (ky b):Int)
    |_=>0,λx=>∃b∈bs,x.1 = .ref b,tuples' true⟩
theorem X6{bs:List Addr}(B:∀b∈bs,∃u:List Value,IsTup s.heap b u.toArray/\IntsAre u (ky b)):Sq.LtOk prog w A s (Gz bs ky):=⟨λ{x y Q E} T U h=>by
 obtain⟨b,Y,X⟩:=T
 obtain⟨c,Z,e2⟩:=U
 obtain⟨u,V,i1⟩:=B b Y
 obtain⟨v,W,i2⟩:=B c Z
 have n1:(Gz bs ky).nu x=(rk (bs.map ky) (ky b):Int):=by unfold Gz;dsimp only;rw[X]
 have n2:(Gz bs ky).nu y=(rk (bs.map ky) (ky c):Int):=by unfold Gz;dsimp only;rw[e2]
 rw[n1,n2]at h
 rw[X4 (eV Y) (eV Z)]at h
 rw[X,e2]
 exact X5 V W i1 i2 h⟩
theorem vN{B:Heap}:∀bs:List Addr,(∀b∈bs,ky b≠[]/\∃u:List Value,IsTup B b u.toArray/\IntsAre u (ky b))->∃fs,KatTups B (bs.map Value.ref) fs/\fs.length=bs.length/\∀v∈fs,∃i t,v = .int i t
 |[],_=>⟨[],trivial,rfl,λ_ h=>by cases h⟩
 |b::bs,h=>by
  obtain⟨fs,f1,f2,f3⟩:=vN bs λc W=>h c (aK _ W)
  obtain⟨X,u,⟨o,g1,g2,n,g3⟩,Y⟩:=h b aJ
  generalize ky b=V at Y X
  cases Y with
  |nil=>exact absurd rfl X
  |cons x t Y=>
   refine⟨.int x t::fs,⟨⟨_,o,_,n,rfl,g1,g2,g3,rfl⟩,f1⟩,by simp[f2],λv Z=>?_⟩
   rcases aU.mp Z with rfl|Z
   ·exact⟨_,_,rfl⟩
   ·exact f3 v Z
theorem GC:∀bs:List Addr,(bs.map Value.ref).zip (bs.map Value.ref)=bs.map λc=>(Value.ref c,Value.ref c)
 |[]=>rfl
 |b::r=>by rw[aP,uO,GC r,aP]
theorem Ln{bs:List Addr}{P:PySem.Fin->Shared->Prop}(D:s.heap.get? a=some (seqObj "list" (bs.map Value.ref).toArray n))(h2:2<=bs.length)(hz:bs.length<=1000)
 (ht:∀b∈bs,ky b≠[]/\∃u:List Value,IsTup s.heap b u.toArray/\IntsAre u (ky b)) (nd:(bs.map ky).Nodup)
 (h:∀B:List Addr,B.Perm bs->B.map ky=gw (bs.map ky)->P (.done (.ret .none)) {s with heap:=sortedHeap s.heap a (bs.map Value.ref) (B.map Value.ref).toArray}):wpAny (model prog w) A (Builtin.«list.sort» ⟨[.ref a],[]⟩) P E s:=by
 have M:a<s.heap.objs.size:=af D
 have vl:(bs.map Value.ref).length=bs.length:=aq _
 have y:(bs.map Value.ref).length<=sizeLine:=by rw[vl,c_];omega
 rw[list_sort_plain]
 refine aa (listItems_at D rfl (aa (dk D rfl ?_)))
 obtain⟨e,h1⟩:∃e,(s.heap.update a (Obj.mapSeq λ_=>#[])).get? a=some (seqObj "list" #[] e):=⟨_,em D λ_=>#[]⟩
 refine aa (ef h1 rfl (aa (eA (aa (bE (ap ?_))))))
 have old:∀b o,b≠a->s.heap.get? b=some o->(((s.heap.update a (Obj.mapSeq λ_=>#[])).push (seqObj "tuple" (bs.map Value.ref).toArray 0)).push (seqObj "list" #[] 0)).get? b=some o:=λb o Z e=>by
  have V:=af e
  rw[ca _ _ _ (by rw[cS,aT];exact aW (gQ V)),ca _ _ _ (by rw[aT];exact aW V),bz _ _ _ _ Z,e]
 have J:(((s.heap.update a (Obj.mapSeq λ_=>#[])).push (seqObj "tuple" (bs.map Value.ref).toArray 0)).push (seqObj "list" #[] 0)).get? a=some (seqObj "list" #[] e):=by
  rw[ca _ _ _ (by rw[cS,aT];exact aW (gQ M)),ca _ _ _ (by rw[aT];exact aW M),h1]
 have X:∀b∈bs,ky b≠[]/\∃u:List Value,IsTup (((s.heap.update a (Obj.mapSeq λ_=>#[])).push (seqObj "tuple" (bs.map Value.ref).toArray 0)).push (seqObj "list" #[] 0)) b u.toArray/\IntsAre u (ky b):=λb Z=>by
  obtain⟨q,u,⟨o,g1,g2,g3⟩,r⟩:=ht b Z
  refine⟨q,u,⟨o,old b o (λz=>?_) g1,g2,g3⟩,r⟩
  rw[z,D]at g1
  cases g1
  exact absurd g2 (by simp[seqObj])
 show wpAny (model prog w) A _ P E {s with heap:=((s.heap.update a (Obj.mapSeq λ_=>#[])).push (seqObj "tuple" (bs.map Value.ref).toArray 0)).push (seqObj "list" #[] 0)}
 dsimp only
 have H:¬(bs.map Value.ref).toArray.size<2:=by rw[aX,vl];omega
 rw[if_neg H,if_neg H]
 obtain⟨fs,f1,f2,f3⟩:=vN bs X
 refine aa (kat_kind (T:=.type "int") f1 (by omega) (λv x=>?_) rfl ?_)
 ·obtain⟨i,t,rfl⟩:=f3 v x
  exact λA Q E s _ q=>ae q
 haveI:=X6 (prog:=prog) (w:=w) (A:=A) (s:={s with heap:=((s.heap.update a (Obj.mapSeq λ_=>#[])).push (seqObj "tuple" (bs.map Value.ref).toArray 0)).push (seqObj "list" #[] 0)}) (ky:=ky) λb Z=>(X b Z).2
 have ps:(pairsOf (bs.map Value.ref)).size=bs.length:=by rw[pairsOf_size,vl]
 refine aa (a6 (Sq.Px (C:=Gz bs ky) (st:=SortSt.mk' (tuples' true) (pairsOf (bs.map Value.ref)) #[] 7 none)
  (Q:=λ_ st'=>(arrOf st').Perm (pairsOf (bs.map Value.ref))/\failedOf st'=none/\Sq.STo (Gz bs ky) (arrOf st') (pairsOf (bs.map Value.ref)).size) rfl rfl rfl (λp W=>?ok) (by show 2<=(pairsOf _).size;rw[ps];exact h2) λst' k l m=>⟨k,l,m⟩) ?_ λ_ _ q=>q)
 case ok=>
  have W:p∈(bs.map Value.ref).zip (bs.map Value.ref):=by rw[<-pairsOf_toList];exact W
  obtain⟨b,Z,e⟩:=bQ.mp (nY W).1
  exact⟨b,Z,e.symm⟩
 rintro⟨⟨⟩,st'⟩ s' ⟨rfl,q1,q2,G⟩
 dsimp only
 have N:(arrOf st').toList.Perm ((bs.map Value.ref).zip (bs.map Value.ref)):=by rw[<-pairsOf_toList];exact d9.mp q1
 obtain⟨B,I,Y⟩:∃B:List Addr,(arrOf st').toList=B.map (λc=>(Value.ref c,Value.ref c))/\B.Perm bs:=by
  have zz:=GC bs
  rw[zz]at N
  refine⟨(arrOf st').toList.map (λp=>match p.1 with
   | .ref c=>c
   |_=>0),?_,?_⟩
  ·rw[cR]
   conv=>lhs;rw[<-nH (arrOf st').toList]
   refine dN λp W=>?_
   obtain⟨c,_,rfl⟩:=bQ.mp (N.mem_iff.mp W)
   rfl
  ·have:=N.map (λp:Value×Value=>match p.1 with
    | .ref c=>c
    |_=>0)
   refine this.trans (.of_eq ?_)
   rw[cR]
   conv=>rhs;rw[<-nH bs]
   rfl
 have outs:(arrOf st').map (·.2)=(B.map Value.ref).toArray:=by
  apply mR.mp
  rw[Array.toList_map,I,cR]
  rfl
 have cl:B.length=bs.length:=Y.length_eq
 have sz:((arrOf st').map (·.2)).size<=sizeLine:=by rw[outs,aX,aq,cl,<-vl];exact y
 refine aa (ef J rfl (aa (dk J rfl ?_ (hsz2:=vg sz))))
 rw[q2]
 simp only[bne_self_eq_false,fG,if_false]
 rw[outs]
 refine ae (h B Y (BR ((Y.map ky).trans (fK _).symm) ?_ (Gx nd)))
 have O:(B.map ky).Nodup:=(Y.map ky).nodup_iff.mpr nd
 rw[cA]
 intro i j hi K S
 have R:i<B.length:=by simpa using hi
 have U:j<B.length:=by simpa using K
 have L:∀i,(h:i<B.length)->Sq.KC (Gz bs ky) (arrOf st') i=(rk (bs.map ky) (ky B[i]):Int):=λi h=>by
  have e:(arrOf st')[i]? = some (Value.ref B[i],Value.ref B[i]):=by
   rw[<-cL,I,bw,aB h]
   rfl
  unfold Sq.KC
  rw[e]
  rfl
 have le:=G i j (dW S) (by rw[ps];omega)
 rw[L i R,L j U]at le
 rw[gA,gA]
 have g:ky B[i]∈bs.map ky:=eV (Y.mem_iff.mp (cj R))
 have F:ky B[j]∈bs.map ky:=eV (Y.mem_iff.mp (cj U))
 have ne:ky B[i]≠ky B[j]:=λz=>by
  have:=(cA.mp O) i j hi K S
  rw[gA,gA]at this
  exact this z
 refine(yp ne).resolve_right λz=>?_
 have:=Pz F z
 omega
end
end XJ
namespace XJ
open PySem D3
def ji:List D->Option D
 |[x]=>(tR x).bind λks=>if ks.length<=1000/\(ks.all λk=>!k.isEmpty)=true then some (.list ((gw ks).map rwD))else none
 |_=>none
def mQ:List D->Option D
 |[x]=>(tR x).map λks=>.int (ks.length:Int)
 |_=>none
end XJ
namespace XJ
open PySem PySem.Spec PySem.W PyProof.Rows L2 My D3 XK XT XD XS
section
variable{X:Cx}{fl:List Fl}{e:Expr}{pos:Pos}
theorem JW{K:Type}:∀{kvs:List (List L2.Key×V)}{xs:List (List L2.Key×Addr×Value)}{ks:List (List Int)},KT H kvs xs->kvs.map (·.1)=ks.map (λk=>k.map Sum.inl)->∀(j:Nat)(b:Addr)(k:List Int),(xs.map (·.2.1))[j]? = some b->ks[j]? = some k->H b=some (.tup (k.map V.int))
 |_,_,[],.nil,_,j,b,k,h,_=>by simp at h
 |_,_,_::_,.nil,Z,_,_,_,_,_=>by simp at Z
 |_,_,[],.cons _ _,Z,_,_,_,_,_=>by simp at Z
 |_,_,Y::ks,.cons (a:=p) (b:=q) h t,Z,0,b,k,h1,h2=>by
  simp at Z h1 h2
  obtain⟨X,_⟩:=Z
  subst h1 h2
  have:=h.2.1
  rw[X]at this
  rw[this,T_]
 |_,_,Y::ks,.cons (a:=p) (b:=q) h t,Z,j+1,b,k,h1,h2=>by
  simp at Z
  exact JW (K:=K) t (by simpa using Z.2) j b k (by simpa using h1) (by simpa using h2)
theorem BW:∀{kvs:List (List L2.Key×V)}{xs:List (List L2.Key×Addr×Value)},KT H kvs xs->xs.map (·.1)=kvs.map (·.1)
 |_,_,.nil=>rfl
 |_,_,.cons h t=>by rw[aP,aP,BW t,h.1]
def vI:V->Int
 | .int i=>i
 |_=>0
def kyH(H:Hp)(b:Addr):List Int:=match H b with
 |some (.tup xs)=>xs.map vI
 |_=>[]
theorem PB{k:List Int}(h:H b=some (.tup (k.map V.int))):kyH H b=k:=by
 unfold kyH
 rw[h]
 dsimp only
 rw[cR]
 conv=>rhs;rw[<-nH k]
 rfl
theorem DQ(D:X.calm=true):lU X (.builtin "sorted") (λxs H Q=>∃(p:Addr)(kvs:List (List L2.Key×V))(ks:List (List Int)),xs=[.ref p]/\L2.Rd H p (.dT kvs)/\kvs.map (·.1)=ks.map (λk=>k.map Sum.inl)/\ks.length<=1000/\(∀k∈ks,k≠[]) /\
 ∀(l:Addr)(B:List Addr),H l=none->(∀c∈B,H c=some (.tup ((kyH H c).map V.int)))->B.map (kyH H)=gw ks->Q (.ref l) (upd H l (.lst (B.map V.ref)))):=by
 intro pins s σ H xs us Q I r h
 obtain⟨p,kvs,ks,rfl,hx,J,T,L,q⟩:=h
 obtain⟨u,rfl,rx⟩:=vals1 r
 cases rx
 obtain⟨_,hd,ents,rel,dd⟩:=BJ I.hok hx
 obtain⟨o,es,ep,h1,h2,G,h4,h5,h6⟩:=dd
 have M:TD.xP s.heap p es ep:=⟨o,h1,h2,G⟩
 have le:ents.length=ks.length:=by
  have a:=Paired.length rel
  have b:=congrArg pD J
  rw[aq,aq]at b
  omega
 have ez:es.size=ks.length:=by rw[<-bD,h4,aq,le]
 have bl:(ents.map (·.2.1)).length=ks.length:=by rw[aq,le]
 have d:=JW (K:=Unit) rel J
 refine ba eg dE dL (args_sorted1 _) ?_
 unfold Builtin.«sorted»
 refine aa (m:=checkCount "sorted" 1 1 _) (ae ?_)
 refine aa (PySem.W.kdu_collect (A:=X.A.in1) (TD.T7 (es:=es) (ep:=ep) hd) (I.ok.hd D) M (by rw[ez];exact bF T (by decide)) λh' tk acc hk S=>?_)
 have ea:acc.toList=(ents.map (·.2.1)).map Value.ref:=by
  apply dX
  intro j
  cases ej:acc.toList[j]? with
  |none=>
   have:acc.toList.length<=j:=List.getElem?_eq_none_iff.mp ej
   rw[bD,S.1,ez,<-bl]at this
   rw[bG (by rw[aq];exact this)]
  |some v=>
   obtain⟨e,U,rfl⟩:=S.2 j v (by rw[<-cL];exact ej)
   rw[<-cL,h4,bw]at U
   rw[cR,bw]
   cases ex:ents[j]? with
   |none=>rw[ex]at U;cases U
   |some x=>rw[ex]at U;cases U;rfl
 have N:L2.Inv X pins σ H {s with heap:=h',toks:=tk}:=I.kept hk
 generalize hB:ents.map (·.2.1)=bs at *
 rw[ea]
 have vl:(bs.map Value.ref).length=ks.length:=by rw[aq,bl]
 have hn:H h'.objs.size=none:=N.hok.fresh (aL _)
 have bk:∀b∈bs,H b=some (.tup ((kyH H b).map V.int))/\kyH H b∈ks:=λb hm=>by
  obtain⟨j,g⟩:=gH hm
  have t:j<ks.length:=by rw[<-bl];exact(gh.mp g).1
  have z:=d j b ks[j] g (aB t)
  rw[PB z]
  exact⟨z,cj t⟩
 have bm:bs.map (kyH H)=ks:=by
  apply qe
  ·rw[aq,bl]
  ·intro j g1 g2
   rw[gA]
   have l1:j<bs.length:=by rw[bl];exact g2
   exact PB (d j _ _ (aB l1) (aB g2))
 have nd:(bs.map (kyH H)).Nodup:=by
  rw[bm]
  rw[BW rel,J]at h6
  exact(iQ.mp h6).imp λz y=>z (by rw[y])
 refine aa (bE ?_ (by rw[vl];exact bF T (by decide)))
 have Z:(h'.push (seqObj "list" (bs.map Value.ref).toArray 0)).get? h'.objs.size=some (seqObj "list" (bs.map Value.ref).toArray 0):=ag _ rfl
 show wpAny _ _ _ _ _ {s with heap:=h'.push (seqObj "list" (bs.map Value.ref).toArray 0),toks:=tk}
 have R:∀(B:List Addr)(h2:Heap)(c:Nat),B.length<=1000->h2.get? h'.objs.size=some (seqObj "list" (B.map Value.ref).toArray c)->gY X.prog X.w (upd H h'.objs.size (.lst (B.map V.ref))) h2 h'.objs.size (.lst (B.map V.ref)):=λB h2 c n f=>by
  refine⟨by rw[aq];exact bF n (by decide),_,c,?_,f⟩
  clear f n
  induction B with
  |nil=>exact .nil
  |cons i l ih=>exact .cons rfl ih
 refine aa (ap (ar c9 ⟨_,Z,rfl⟩ cE ?body (eD _)))
 case body=>
  by_cases h2:2<=bs.length
  ·refine Ln (ky:=kyH H) Z h2 (by rw[bl];exact T) (λb hm=>⟨L _ (bk b hm).2,?_⟩) nd λB C ec=>⟨_,rfl,ae ⟨_,rfl,?_⟩⟩
   ·obtain⟨its,rr,⟨o,g1,g2,g3⟩,_⟩:=N.tuple (.inl (.inl (bk b hm).1))
    exact⟨its,⟨o,ad _ g1,g2,g3⟩,tK rr⟩
   ·obtain⟨c,U⟩:=sortedHeap_at (out:=(B.map Value.ref).toArray) Z
    have O:=N.laid (h':=sortedHeap (h'.push (seqObj "list" (bs.map Value.ref).toArray 0)) h'.objs.size (bs.map Value.ref) (B.map Value.ref).toArray) (t':=tk) (a:=h'.objs.size) (o:=.lst (B.map V.ref)) (λb u e=>by
     have Y:=af e
     rw[eB (aW Y) (by rw[cS];exact gQ Y)]
     exact ad _ e) (aL _) (R B _ c (by rw[C.length_eq,bl];exact T) U)
    exact⟨.ref _,_,O,rfl,q _ B hn (λc D=>(bk c (C.mem_iff.mp D)).1) (by rw[ec,bm])⟩
  ·have E:=q _ bs hn (λc D=>(bk c D).1)
   have F:bs.length=0\/bs.length=1:=by omega
   rcases F with h0|h1
   ·have P:bs=[]:=cJ.mp (by omega)
    subst P
    refine list_sort_tree (ns:=[]) Z .nil (by decide) λout ns' a1 a2 a3=>⟨_,rfl,ae ⟨_,rfl,?_⟩⟩
    obtain rfl:=uH.mp a2
    have oe:out.toList=[]:=cJ.mp a1.length
    obtain⟨c,U⟩:=sortedHeap_at (out:=out) Z
    have O:=N.laid (h':=sortedHeap (h'.push (seqObj "list" (([]:List Addr).map Value.ref).toArray 0)) h'.objs.size (([]:List Addr).map Value.ref) out) (t':=tk) (a:=h'.objs.size) (o:=.lst (([]:List Addr).map V.ref)) (λb u e=>by
     have Y:=af e
     rw[eB (aW Y) (by rw[cS];exact gQ Y)]
     exact ad _ e) (aL _) (R [] _ c (by decide) (by
      have:out = #[]:=mR.mp oe
      rw[this]at U ⊢
      exact U))
    exact⟨.ref _,_,O,rfl,E (by rw[<-bm];rfl)⟩
   ·obtain⟨P,rfl⟩:=rC.mp h1
    refine Gb (v:=.ref P) Z λG c k e=>⟨_,rfl,ae ⟨_,rfl,?_⟩⟩
    have O:=N.laid (h':=G) (t':=tk) (a:=h'.objs.size) (o:=.lst ([P].map V.ref)) (λb u e=>k b u (aW (af e)) (ad _ e)) (aL _) (R [P] _ c (show 1<=1000 by decide) e)
    exact⟨.ref _,_,O,rfl,E (by rw[<-bm];rfl)⟩
end
end XJ
namespace XJ
open PySem PySem.Spec PySem.W PyProof.Rows L2 My D3 XK XT XD XS
theorem JX{ks:List (List L2.Key×V)}(h:TTs H ks (ttP S)):ks.map (·.1)=(S.map (·.1)).map λk=>k.map Sum.inl:=by
 induction S generalizing ks with
 |nil=>cases h;rfl
 |cons q S X=>
  generalize Z:ttP (q::S)=g at h
  cases h with
  |nil=>cases Z
  |cons t r=>
   rename_i Y m z v T U
   have Z:(rwD q.1,ttV q.2)::ttP S=_:=Z
   injection Z with h1 h2
   injection h1 with h1 R
   have W:q.1=Y:=by
    have:=congrArg (λd=>Dq d) h1
    simpa[rwD,Dq,pO]using this
   subst W
   rw[aP,aP,aP,X (h2▸r)]
theorem DR{ok:Ok}{x:D}{S:List (List Int)}(e:tR x=some S)(r:RA K ok pl H v x):∃a,v = .ref a/\((S=[]/\L2.Rd H a (.dK []))\/(S≠[]/\∃kvs,L2.Rd H a (.dT kvs)/\kvs.map (·.1)=S.map λk=>k.map Sum.inl)):=by
 cases x with
 |dict kvs=>
  unfold tR at e
  dsimp only at e
  cases Z:xM kvs with
  |some T=>
   rw[Z]at e
   cases e
   obtain⟨a,rfl,h⟩:=JM (x:=.dict kvs) Z r
   refine⟨a,rfl,?_⟩
   rcases h with⟨rfl,h⟩|⟨q,ks,h,t⟩
   ·exact .inl ⟨rfl,h⟩
   ·exact .inr ⟨(λz=>by
     have:=JX t
     rw[z]at this
     cases this),_,h,JX t⟩
  |none=>
   rw[Z]at e
   have e:tsD kvs=some S:=e
   by_cases Y:S=[]
   ·subst Y
    cases kvs with
    |nil=>cases Z
    |cons q X=>
     exfalso
     unfold tsD at e
     split at e
     ·next z=>cases z
     ·obtain⟨k,_,e2⟩:=bind1 e
      cases W:tsD X with
      |none=>simp_all
      |some V=>simp_all
     ·cases e
   ·obtain⟨a,rfl,h⟩:=T6 (x:=.dict kvs) e Y r
    refine⟨a,rfl,.inr ⟨Y,_,h,?_⟩⟩
    unfold dtI
    rw[cR]
    rfl
 |_=>cases e
section
variable{X:Cx}{fl:List Fl}{e:Expr}{pos:Pos}
theorem vX(D:X.calm=true){fa:FA}{p:Pos}(ha:DB X fl .P [e] fa)(J:Gl X "sorted")(hm:X.mg "sorted"=none)
 (he:starEach [e] X.env=(false,eval e X.env)::starEach [] X.env:=by rfl) (B:(backTo pos (starEach [] X.env)).any (·.1)=false:=by rfl):DE X fl .FC (.Call (.Name "sorted" p) [e] [] pos) (dCall ji fa):=by
 have bs:bootBuiltins "sorted"=some (.builtin "sorted"):=by decide +kernel
 intro pins s σ H Q I h
 obtain⟨G,ow,δ,d,R,y,q⟩:=h
 obtain⟨ds,E,e2⟩:=bind1 y
 unfold ji at e2
 split at e2
 case h_2=>cases e2
 next x=>
 obtain⟨ks,F,U⟩:=bind1 e2
 by_cases W:ks.length<=1000/\(ks.all λk=>!k.isEmpty)=true
 case neg=>rw[if_neg W]at U;cases U
 rw[if_pos W]at U
 cases U
 by_cases L:ks=[]
 ·subst L
  refine nO (XB.Dw D) J hm bs ha (by decide) (by decide) he B pins s σ H Q I ⟨G,ow,δ,_,R,E,λvs H' sm r'=>?_⟩
  cases r' with
  |cons O S=>
   cases S
   obtain⟨a,rfl,Y⟩:=DR F O
   have Y:L2.Rd H' a (.dK []):=by
    rcases Y with⟨_,h⟩|⟨z,_⟩
    ·exact h
    ·exact absurd rfl z
   exact⟨a,[],[],rfl,Y,rfl,by decide,λl hn=>q _ _ (sm.trans (cY hn _)) (.inr ⟨_,_,_,rfl,rfl,sm.free hn,cU,.nil⟩)⟩
 ·refine nO (DQ D) J hm bs ha (by decide) (by decide) he B pins s σ H Q I ⟨G,ow,δ,_,R,E,λvs H' sm r'=>?_⟩
  cases r' with
  |cons O S=>
   cases S
   obtain⟨a,rfl,Y⟩:=DR F O
   rcases Y with⟨z,_⟩|⟨_,kvs,h,w⟩
   ·exact absurd z L
   refine⟨a,kvs,ks,rfl,h,w,W.1,λk N=>?_,λl T hn M K=>q _ _ (sm.trans (cY hn _)) (.inr ⟨_,_,_,rfl,rfl,sm.free hn,cU,?_⟩)⟩
   ·have:=cQ.mp W.2 k N
    intro z
    subst z
    cases this
   ·rw[<-K,cR]
    have Z:∀c∈T,upd H' l (.lst (T.map V.ref)) c=some (.tup ((kyH H' c).map V.int)):=λc D=>cY hn _ _ _ (M c D)
    generalize upd H' l (.lst (T.map V.ref))=v at Z
    clear K M
    induction T with
    |nil=>exact .nil
    |cons i is C=>exact .cons (.tup (Z i aJ) (rO _)) (C λj A=>Z j (aK _ A))
theorem Lp:lU X (.builtin "len") (λxs H Q=>∃(p:Addr),xs=[.ref p]/\((∃kvs,L2.Rd H p (.dK kvs)/\Q (.int kvs.length) H)\/∃kvs,L2.Rd H p (.dT kvs)/\Q (.int kvs.length) H)):=by
 intro pins s σ H xs us Q I r h
 obtain⟨p,rfl,h⟩:=h
 obtain⟨u,rfl,W⟩:=vals1 r
 cases W
 rcases h with⟨kvs,Z,q⟩|⟨kvs,Z,q⟩
 ·exact ZW I Z λt s' S=>⟨.int _,H,S,⟨t,rfl⟩,q⟩
 ·obtain⟨z,hd,ents,rel,T⟩:=BJ I.hok Z
  obtain⟨o,es,ep,h1,h2,U,V,_,_⟩:=T
  have Y:es.size=kvs.length:=by rw[<-bD,V,aq,(Paired.length rel).symm]
  refine TD.T8 hd ⟨o,h1,h2,U⟩ (by rw[Y];rw[c_]at z;omega) λt tk=>?_
  rw[Y]
  exact⟨.int _,H,I.tok tk,⟨t,rfl⟩,q⟩
theorem DX(ha:DB X fl .P [e] fa)(D:Gl X "len")(hm:X.mg "len"=none)
 (J:starEach [e] X.env=(false,eval e X.env)::starEach [] X.env:=by rfl) (B:(backTo pos (starEach [] X.env)).any (·.1)=false:=by rfl):DE X fl .FC (.Call (.Name "len" p) [e] [] pos) (dCall mQ fa):=
 PE.imp (nO Lp D hm (show bootBuiltins "len"=some (.builtin "len")by decide +kernel) ha (by decide) (by decide) J B) λσ H Q h=>by
 obtain⟨G,ow,δ,d,R,U,q⟩:=h
 obtain⟨ds,S,e2⟩:=bind1 U
 refine⟨G,ow,δ,ds,R,S,λvs H' s r'=>?_⟩
 unfold mQ at e2
 split at e2
 case h_2=>cases e2
 next x=>
 cases Z:tR x with
 |none=>rw[Z]at e2;cases e2
 |some ks=>
  rw[Z]at e2
  cases e2
  cases r' with
  |cons W Y=>
   cases Y
   obtain⟨a,rfl,V⟩:=DR Z W
   rcases V with⟨rfl,h⟩|⟨_,kvs,h,T⟩
   ·exact⟨a,rfl,.inl ⟨_,h,q _ _ s (.inl ⟨rfl,.int _⟩)⟩⟩
   ·refine⟨a,rfl,.inr ⟨_,h,?_⟩⟩
    have:kvs.length=ks.length:=by
     have:=congrArg pD T
     rwa[aq,aq]at this
    rw[this]
    exact q _ _ s (.inl ⟨rfl,.int _⟩)
end
end XJ
namespace XJ
open PySem PySem.Spec PyProof.Rows L2 My D3 XK XT XD
section
variable{X:Cx}{pins:List (Addr×Obj)}{σ:L2.St}{H H':Hp}{s:Shared}{a:Addr}{kvs:List (List L2.Key×V)}{o:Obj}
end
section
variable{K:PySem.W.Frag}{H:Hp}{a:Addr}{kvs:List (List L2.Key×V)}{o:Obj}
end
section
variable{X:Cx}{fl fl':List Fl}{e b c elt tg iter:Expr}{es ifs:List Expr}{k:Kd}{f fa fb fc fx:FE}{ft gt:FT}{pos:Pos}{scope:Scope}{ix L TT:List Nat}{fi:FA}{g:FG}
end
end XJ
namespace HT
open PySem PySem.Spec PyProof.Rows L2
section
variable{prog:Program}{w:World}{A:Around}{E:Value->Shared->Prop}{s:Shared}
theorem Ud{t:Addr}{items:Array Value}{lo hi:Option Int}(B:IsTup s.heap t items)(hs:s.heap.IsSliceOf sl vl vu .none)(pl:IsPart vl lo)(D:IsPart vu hi)
 (hw:sIx items.size 0 lo=0/\sIx items.size items.size hi=items.size) (h:Q (.ref t) s):wpAny (model prog w) A (getItem (.ref t) (.ref sl)) Q E s:=by
 obtain⟨os,Y,X,W⟩:=id hs
 have ty:s.TypeIs (.ref sl) "slice" := ⟨os,Y,X⟩
 unfold getItem
 try with_reducible refine ap ?_
 first|refine aa (ae ?_)|skip
 refine aa (wpAny_sequenceKey B.typeIs (by decide) (aa (av (name:=Str.ofString "__getitem__") B.typeIs PyProof.Rows.slot_tuple_getitem (ar PyProof.Rows.slot_tuple_getitem B.typeIs entry_tuple_getitem ?_ (args_tuple_getitem _ _)))))
 refine aa (m:=Builtin.Tuple.tupleItemsOf (.ref t)) (tupleItemsOf_ B (aa (cw ty ?_)))
 rw[if_pos (by decide)]
 refine aa (qt hs pl D ?_)
 have Z:(((sIx items.size 0 lo:Nat):Int)==0&&(1:Int)==1&&(sIx items.size items.size hi-sIx items.size 0 lo)==items.size)=true:=by
  rw[hw.1,hw.2]
  simp
 show wpAny _ _ (if(((sIx items.size 0 lo:Nat):Int)==0&&(1:Int)==1&&(sIx items.size items.size hi-sIx items.size 0 lo)==items.size)=true then _ else _) _ _ s
 rw[if_pos Z]
 unfold Builtin.Tuple.tupleIsExact
 refine aa (aa (cw B.typeIs (ae ?_)))
 rw[if_pos (by decide)]
 exact aa (be (ae ⟨_,rfl,ae h⟩))
end
end HT
namespace D3
open PySem PySem.Spec PyProof.Rows L2 My
def ah3(K:PySem.W.Frag):V->Option Int->Option Int->Hp->VK->Prop:=λx lo hi H Q=>∃a xs,x = .ref a/\SqT K H a xs/\HT.sIx xs.length 0 lo=0/\HT.sIx xs.length xs.length hi=xs.length/\Q (.ref a) H
theorem PJ:SlR X (ah3 X.K):=by
 intro pins s σ H x v vl vu lo hi sl Q I Y hs pl W h
 obtain⟨a,xs,rfl,V,h1,h2,q⟩:=h
 cases Y
 obtain⟨its,r,Z,U⟩:=I.tuple V
 have hlen:its.toArray.size=xs.length:=by rw[aX];exact r.length.symm
 exact⟨"tuple", _,PyProof.Rows.slot_tuple_getitem.lookup,Z.typeIs,HT.Ud Z hs pl W (by rw[hlen];exact⟨h1,h2⟩) ⟨.ref a,H,I,rfl,q⟩⟩
section
variable{X:Cx}{fl:List Fl}{a e:Expr}{f:FE}{pos:Pos}
theorem wN(h:flats l=true)(lo hi:Option Int):flats (cutD l lo hi)=true:=by
 have Y:∀(n:Nat)(l:List D),flats l=true->flats (l.drop n)=true:=λn=>by
  induction n with
  |zero=>exact λl h=>h
  |succ n Z=>
   intro l h
   cases l with
   |nil=>rfl
   |cons d l=>rw[flats,bf]at h;exact Z l h.2
 have tk:∀(n:Nat)(l:List D),flats l=true->flats (l.take n)=true:=λn=>by
  induction n with
  |zero=>exact λl h=>by simp[flats]
  |succ n Z=>
   intro l h
   cases l with
   |nil=>rfl
   |cons d l=>
    rw[flats,bf]at h
    rw[List.take_succ_cons,flats,bf]
    exact⟨h.1,Z l h.2⟩
 exact tk _ _ (Y _ _ h)
theorem PK{lo hi:Option Expr}{p2:Pos}{fl1:FO}(h:DE X fl .P a f)(h1:PO X lo (tDO X.K fl fl1))(h2:PO X hi (tDO X.K fl fh)):DE X fl .FC (.Subscript a (.Slice lo hi none p2) pos) (xO f fl1 fh):=PE.imp (Fi (PJ.or WW) h h1 h2) λσ H Q h=>by
 obtain⟨G,ow,δ,d,R,O,q⟩:=h
 obtain⟨x,E,O⟩:=bind1 O
 obtain⟨V,e2,O⟩:=bind1 O
 obtain⟨W,F,T⟩:=bind1 O
 refine⟨G,ow,δ,x,R,E,λv H1 s1 J=>⟨G,ow,δ,V,R.grow s1,e2,λH2 s2=>⟨G,ow,δ,W,R.grow (s1.trans s2),F,λD s3=>?_⟩⟩⟩
 obtain⟨l,rfl⟩:∃l,x = .tuple l:=by
  cases x<;>first|exact⟨_,rfl⟩|cases T
 dsimp only at T
 by_cases Z:flats l=true
 case neg=>rw[if_neg Z]at T;cases T
 rw[if_pos Z]at T
 cases T
 obtain⟨p,xs,rfl,I,M⟩:=J.tupE0
 have Y:=s2.trans s3
 have N:xs.length=l.length:=M.length
 have U:jH D p xs:=jH.same Y I
 have S:=M.same Y
 by_cases hw:HT.sIx xs.length 0 V=0/\HT.sIx xs.length xs.length W=xs.length
 ·refine .inl ⟨p,xs,rfl,.inl (.inl U),hw.1,hw.2,q _ _ (s1.trans Y) (.inl ⟨wN Z V W,?_⟩)⟩
  have:cutD l V W=l:=by
   unfold cutD
   rw[<-N,<-CZ,<-CZ,hw.1,hw.2,N]
   simp
  rw[this]
  exact .tup U (RAs.flat Z S)
 ·refine .inr ⟨p,xs,rfl,.inl (.inl U),hw,λpn L=>q _ _ ((s1.trans Y).trans (cY L _)) (.inl ⟨wN Z V W,?_⟩)⟩
  exact .tup (show jH _ _ _ from cU) (RAs.flat (wN Z V W) ((S.same (cY L _)).cut V W))
theorem BX(B:X.calm=true):lU X (.builtin "max") (λxs H Q=>∃(p:Addr)(i:Int)(r:List Int),xs=[.ref p]/\SqT X.K H p ((i::r).map V.int)/\Q (.int (mxI i r)) H):=by
 intro pins s σ H xs us Q I r h
 obtain⟨p,i,Y,rfl,J,q⟩:=h
 obtain⟨u,rfl,N⟩:=vals1 r
 cases N
 obtain⟨its,U,pl,C⟩:=I.tuple J
 have hi:=tK U
 obtain⟨xs,e⟩:=hi.allInts.items
 have Z:i::Y=xs.toList.map (·.1):=by rw[<-hi.numsOf,<-nums_intItems,<-e]
 have T:0<xs.size:=by
  have O:0<(i::Y).length:=by simp
  rw[Z,aq,bD]at O;exact O
 have S:s.heap.IsTuple p (intItems xs):=by
  rw[<-e]
  obtain⟨o,g1,g2,n,g3⟩:=pl
  exact⟨o,g1,g2,n,g3⟩
 have W:p<s.heap.objs.size:=by obtain⟨o,g1,_⟩:=S;exact af g1
 refine call_max_walk (cb S ?_)
 refine⟨_,_,_,_,_,_,_,rfl,Walks.tuple (A:=X.A.in1) (I.ok.hd B) _ p (aW W) (intItems xs),⟨⟨_,ag _ rfl,rfl,rfl⟩,S.push _⟩,λb P=>?_,by simpa[intItems]using T,CmpOf.ints_gt (numAt xs) (λ_ _=>intItems_at),λv h' tk D F=>?_⟩
 ·show b<(s.heap.push _).objs.size
  rw[bq]
  simp at P
  rcases P with rfl|rfl
  ·exact fP _
  ·exact gQ W
 have G:(intItems xs)[argBest (λi j=>decide (numAt xs i>numAt xs j)) (xs.size-1)]? = some v:=by simpa[intItems]using D
 obtain⟨t,rfl⟩:=intItems_at G
 obtain⟨h1,h2⟩:=argBest_gt (numAt xs) (xs.size-1)
 have L:numAt xs (argBest (λi j=>decide (numAt xs i>numAt xs j)) (xs.size-1))∈i::Y:=by
  rw[Z,numAt_eq];exact getD_mem (by rw[aq,bD];omega)
 have M:∀a∈i::Y,a<=numAt xs (argBest (λi j=>decide (numAt xs i>numAt xs j)) (xs.size-1)):=λa ha=>by
  rw[Z]at ha
  obtain⟨j,E,rfl⟩:=mem_getD ha
  rw[aq,bD]at E
  rw[<-numAt_eq];exact h2 j (by omega)
 have sp:=qx Y i
 have eq:numAt xs (argBest (λi j=>decide (numAt xs i>numAt xs j)) (xs.size-1))=mxI i Y:=su (sp.2 _ L) (M _ sp.1)
 rw[eq]
 exact⟨.int _,H,I.kept λb o R=>F b o (λz=>by
  rw[aN.mp z]at R
  exact absurd (af R) (eN _)) (ad _ R),⟨_,rfl⟩,q⟩
theorem PN:BrC K (λxs H Q=>∃(p:Addr)(i:Int)(r:List Int),xs=[.ref p]/\SqT K H p ((i::r).map V.int)/\Q (.int (mxI i r)) H) uJ:=by
 intro H xs ds d Q r e q
 unfold uJ at e
 split at e
 ·next l=>
  split at e
  ·next i X e2=>
   cases e
   cases r with
   |cons Y Z=>
    cases Z
    obtain⟨a,ys,rfl,W,U⟩:=Y.tupE
    obtain rfl:=vL e2 U
    exact⟨a,i,X,rfl,W,q _ rfl (.int _)⟩
  ·cases e
 ·cases e
end
end D3
namespace TE2
open PySem PySem.Spec PyProof.Rows
section
variable{prog:Program}{w:World}{A:Around}{E:Value->Shared->Prop}{s:Shared}{it t:Addr}{i:Nat}{items:Array Value}
theorem Ue{x:Value}(g:s.heap.IsTupleIter it t i)(D:s.heap.IsTuple t items)(B:items[i]? = some x)(q:∀h',h'.IsTupleIter it t (i+1)->Heap.SameBut it s.heap h'->Q x {s with heap:=h'}):wpAny (model prog w) A (Builtin.SmallTypes.nextOf (.ref it)) Q E s:=by
 obtain⟨o,Z,Y,hd⟩:=id g
 obtain⟨X,h1,_,nl,h2⟩:=D
 unfold Builtin.SmallTypes.nextOf
 refine aa (av (name:=Str.ofString "__next__") g.typeIs bb (ar bb g.typeIs d0 ?_ (dQ _)))
 refine aa (m:=field (.ref it) 0) (a5 Z hd (x:=.ref t) rfl ?_)
 show wpAny _ _ (if(Value.ref t==Value.none)=true then _ else _) _ _ s
 rw[if_neg (show ¬((Value.ref t==Value.none)=true)from aY)]
 refine aa (m:=field (.ref it) 1) (a5 Z hd (x:=.int i 0) rfl (aa (m:=seqItems? (.ref t)) (bu h1 h2 ?_)))
 simp only[eZ,B]
 refine aa (c7 Z hd (by simp) (ae ⟨x,rfl,ae (q _ ⟨_,az _ Z (eH (b5 hd _)),(Obj.cls_mapFields ..).trans Y,?_⟩ (Heap.SameBut.update ..))⟩))
 rw[b5 hd];simp[rawInt]
theorem PX(J:A.handled=none)(g:s.heap.IsTupleIter it t i)(D:s.heap.IsTuple t items)(B:items[i]? = none)
 (q:∀h' e,Heap.ExtBut it s.heap h'->(∃o,h'.get? e=some o/\o.cls = .type "StopIteration")->E (.ref e) {s with heap:=h'}):wpAny (model prog w) A (Builtin.SmallTypes.nextOf (.ref it)) Q E s:=by
 obtain⟨o,Z,X,hd⟩:=id g
 obtain⟨Y,h1,_,nl,h2⟩:=D
 unfold Builtin.SmallTypes.nextOf
 refine aa (av (name:=Str.ofString "__next__") g.typeIs bb (ar bb g.typeIs d0 ?_ (dQ _)))
 refine aa (m:=field (.ref it) 0) (a5 Z hd (x:=.ref t) rfl ?_)
 show wpAny _ _ (if(Value.ref t==Value.none)=true then _ else _) _ _ s
 rw[if_neg (show ¬((Value.ref t==Value.none)=true)from aY)]
 refine aa (m:=field (.ref it) 1) (a5 Z hd (x:=.int i 0) rfl (aa (m:=seqItems? (.ref t)) (bu h1 h2 ?_)))
 simp only[eZ,B]
 refine aa (be (aa (c7 Z hd (by simp) ?_)))
 refine aa (m:=newExc (.type "StopIteration") []) ?_
 simp only[newExc,newTuple]
 refine aa (aE (aa (m:=firstArgMember _ _) (wpAny_of_eq (a:=Value.none) (by first|rfl|(simp only[firstArgMember];rfl)) (aE ?_ (by size_fits)))) (by size_fits))
 simp only[raiseNew]
 refine aa (wpAny_handled ?_)
 rw[show A.in1.handled=none from J]
 refine aa (ae (wpAny_throw ?_))
 exact q _ _ (((Heap.SameBut.update ..).extBut.push _).push _) ⟨_,ag _ rfl,rfl⟩
theorem draws(D:A.handled=none)(it t:Addr)(B:t≠it)(items:Array Value):Draws prog w A it [it,t] items.size (λi v=>items[i]? = some v) (λi h=>h.IsTupleIter it t i/\h.IsTuple t items) where
 live:=λ_ _ st=>let⟨o,Y,_⟩:=st.1;⟨o,Y⟩
 frame:=λ_ _ _ st Z=>⟨st.1.at λo e=>Z it (by simp) o e,st.2.at λo e=>Z t (by simp) o e⟩
 item:=λi s Q E hi st X=>Ue st.1 st.2 (x:=items[i]) (by simp[hi]) λh' g hs=>X _ h' s.toks (by simp[hi]) ⟨g,st.2.extBut hs.extBut B⟩ hs
 done:=λs Q E st W=>PX D st.1 st.2 (by simp) W
end
open AutoSeq1 (wpAny_loadPart')
theorem P0(l:Addr)(items:Array Value)(n:Nat)(B:Option Addr)(sl:Array (Option Value)):
 Meets (Builtin.«enumerate.__new__» ⟨[.type "enumerate", .ref l],[]⟩) (λ_ R s=>s.heap.get? l=some {cls:=.type "tuple", dict:=B,data:=.seq items n,slots:=sl} /\
  R (.ok (.ret (.ref (s.heap.push {cls:=.type "tuple_iterator", data:=.fields #[.ref l,.int 0 0]}).objs.size)))
   {s with heap:=(s.heap.push {cls:=.type "tuple_iterator", data:=.fields #[.ref l,.int 0 0]}).push {cls:=.type "enumerate", data:=.fields #[.none,.bool false,.ref s.heap.objs.size,rawInt 0,.none,.none]} }):=
 .of_wp λprog w A R s h=>by
  obtain⟨W,g,d,tk,os⟩:=s;obtain⟨Z,h⟩:=h
  have Y:=sub_enumerate
  have X:Heap.IsTuple (Shared.heap ⟨W,g,d,tk,os⟩) l items:=⟨_,Z,rfl,n,rfl⟩
  wp_walk using wpAny_loadPart' Z
  refine wpAny_stack_any λst=>ae ?_
  split
  ·rename_i c _ _ _ _ _
   cases(c==Value.type "enumerate")<;>(wp_walk using wpAny_loadPart' Z,cb X;exact⟨_,rfl,h⟩)
  ·wp_walk using wpAny_loadPart' Z,cb X
   exact⟨_,rfl,h⟩
section
variable{prog:Program}{w:World}{A:Around}{E:Value->Shared->Prop}{s:Shared}
theorem Lq{l:Addr}{items:Array Value}(B:s.heap.IsTuple l items)
 (h:∀h',IsEnum h' (s.heap.objs.size+1) s.heap.objs.size 0 .none->h'.IsTupleIter s.heap.objs.size l 0->h'.objs.size=s.heap.objs.size+2->(∀b o,s.heap.get? b=some o->h'.get? b=some o)->Q (.ref (s.heap.objs.size+1)) {s with heap:=h'}) :
 wpAny (model prog w) A (call (.type "enumerate") [.ref l]) Q E s:=by
 obtain⟨⟨c,X,U,sl⟩,V,Y,n,hd⟩:=B
 replace Y:c = .type "tuple" := Y
 replace hd:U = .seq items n:=hd
 subst Y hd
 refine callType_new F.called_enumerate (by decide) (F.typeCall_enumerate_1 _) (F.newCall_enumerate_1 _) (λobj=>F.args_object_init_2 obj _) F.entry_enumerate_new (P0 l items n X sl) ⟨V,?_⟩
 have Z:(s.heap.push {cls:=.type "tuple_iterator", data:=.fields #[.ref l,.int 0 0]}).objs.size=s.heap.objs.size+1:=bq ..
 show _/\_
 rw[Z]
 have W:IsEnum ((s.heap.push {cls:=.type "tuple_iterator", data:=.fields #[.ref l,.int 0 0]}).push {cls:=.type "enumerate", data:=.fields #[.none,.bool false,.ref s.heap.objs.size,rawInt 0,.none,.none]}) (s.heap.objs.size+1) s.heap.objs.size 0 .none:=by
  have:=ag (s.heap.push {cls:=.type "tuple_iterator", data:=.fields #[.ref l,.int 0 0]}) (o:={cls:=.type "enumerate", data:=.fields #[.none,.bool false,.ref s.heap.objs.size,rawInt 0,.none,.none]}) rfl
  rw[Z]at this;exact this
 exact⟨⟨_,W,rfl⟩,h _ W ⟨_,ad _ (ag _ rfl),rfl,rfl⟩ (by rw[bq,Z]) λb o x=>ad _ (ad _ x)⟩
theorem Ug{e t:Addr}{items:Array Value}{old:Value}{Q:Option Value->Shared->Prop}(W:A.handled=none)(O:t≠it)(B:IsEnum s.heap e it (i:Int) old)(hi:s.heap.IsTupleIter it t i)(J:s.heap.IsTuple t items)(D:items[i]? = none)
 (q:∀h',Heap.ExtBut it s.heap h'->Q none {s with heap:=h'}):wpAny (model prog w) A (pyNext (.ref e)) Q E s:=by
 have ty:s.TypeIs (.ref e) "enumerate" := ⟨_,B,rfl⟩
 unfold pyNext
 refine aa (bP (av (name:=Str.ofString "__next__") ty F.slot_enumerate_next (ar F.slot_enumerate_next ty F.entry_enumerate_next ?_ (F.args_enumerate_next_1 _))))
 refine aa (m:=field (.ref e) 2) (a5 B rfl (x:=.ref it) rfl (aa (PX (A:=A.in1) W hi J D λh' x Y Z=>?_)))
 obtain⟨o,X,V⟩:=Z
 exact aa (cm (T := "StopIteration") (b:=true) ⟨o,X,V⟩ eC (ae (q _ Y)))
end
end TE2
namespace D3
open PySem PySem.Spec PyProof.Rows L2 My
def ItT(K:PySem.W.Frag)(a:Addr):It:=
 ⟨λi H=>∃xs x,SqT K H a xs/\xs[i]? = some x,λi H x H'=>∃p y,H p=none/\H'=upd H p (.tup [.int i,y])/\x = .ref p/\∀xs,SqT K H a xs->xs[i]? = some y,λi H=>∃xs,SqT K H a xs/\xs.length<=i⟩
theorem Ir{x1}(a it:Addr):
 Turn P w K (.Tuple elts x1 tpos) (ItT K a) [it+1,it] (it+1) (λi h=>∃old,IsEnum h (it+1) it (i:Int) old/\h.IsTupleIter it a i) where
 mem:=by simp
 obj:=λi h st b Z=>by
  obtain⟨old,W,o,e,c,d⟩:=st
  rcases aU.mp Z with z|z
  ·subst z
   exact⟨_,W,λv z=>by cases z⟩
  ·have z:b=it:=by simpa using z
   subst z
   exact⟨o,e,λv z=>by rw[d]at z;cases z⟩
 keep:=λi h h' st k=>by
  obtain⟨old,W,hi⟩:=st
  exact⟨old,k _ (by simp) _ W,hi.at λo e=>k it (by simp) o e⟩
 item:=by
  intro X t hw r y i pins s σ H E I U st C
  subst t hw r
  obtain⟨xs,x,O,J⟩:=C
  obtain⟨its,L,p,hz⟩:=I.tuple O
  obtain⟨u,G,j⟩:=L.get J
  obtain⟨old,W,hi⟩:=st
  have fe:=U (it+1) (by simp)
  have fi:=U it (by simp)
  have R:it+1<s.heap.objs.size:=af W
  have f:i<its.toArray.size:=by
   rw[aX]
   rcases gD i its.length with z|z
   ·exact z
   ·rw[bG z]at G;cases G
  have pt:s.heap.IsTuple a its.toArray:=by
   obtain⟨o,g1,g2,n,g3⟩:=p
   exact⟨o,g1,g2,n,g3⟩
  have V:a≠it:=λz=>by
   obtain⟨o,g1,g2,_⟩:=p
   obtain⟨g,g3,q,_⟩:=id hi
   rw[z,g3]at g1
   cases g1
   rw[q]at g2
   exact absurd g2 (by decide)
  have S:a≠it+1:=λz=>by
   obtain⟨o,g1,g2,_⟩:=p
   rw[z,W]at g1
   cases g1
   exact absurd (show Value.type "enumerate"=Value.type "tuple"from g2) (by decide)
  refine wpAny_pyNext_enum_itemD (TE2.draws (A:=X.A.in1) (I.ok.hd y) it a V its.toArray) W ⟨hi,pt⟩ f (Nat.succ_ne_self it) (by simp[Ne.symm S]) λQ h1 tk T ho M ht hsz F=>?_
  have D:=M.1
  obtain rfl:Q=u:=by
   have:its.toArray[i]? = some u:=by simpa using G
   rw[this]at T
   exact(dh.inj T).symm
  have F:∀b o,b≠it+1->b≠it->s.heap.get? b=some o->h1.get? b=some o:=F
  refine⟨_,rfl,er ho λh2 B Y=>?_⟩
  replace Y:Heap.SameBut (it+1) h1 h2:=Y
  have hn:H s.heap.objs.size=none:=I.hok.fresh (aL _)
  have I0:Inv X pins σ (upd H s.heap.objs.size (.tup [.int (i:Int),x])) {s with heap:=s.heap.push {cls:=.type "tuple", data:=.seq #[.int (i:Int) tk,Q]} }:=
   I.laid (t':=s.toks) (λb o e=>ad _ e) (aL _) ⟨show 2<=sizeLine by decide,[.int (i:Int) tk,Q],.cons ⟨_,rfl⟩ (.cons j .nil),⟨_,ag _ rfl,rfl,_,rfl⟩⟩
  have ne:∀b,b∈[it+1,it]->b≠s.heap.objs.size:=λb Z=>by
   rcases aU.mp Z with N|N
   ·rw[N];exact aW R
   ·rw[show b=it by simpa using N];exact aW (cM R)
  have I1:Inv X pins σ (upd H s.heap.objs.size (.tup [.int (i:Int),x])) {s with heap:=h2,toks:=tk+1}:=by
   refine Inv.turnedL (s:={s with heap:=s.heap.push {cls:=.type "tuple", data:=.seq #[.int (i:Int) tk,Q]} }) (ch:=[it+1,it]) I0 (λb o Z e=>?_) λb Z=>⟨by rw[cO (ne b Z)];exact(U b Z).1,(U b Z).2⟩
   have l:b≠it+1:=λz=>Z (by simp[z])
   have b2:b≠it:=λz=>Z (by simp[z])
   rcases cq e with⟨m,e2⟩|m
   ·subst m e2
    exact(Y.2 _ l).trans ht
   ·exact(Y.2 _ l).trans (F b o l b2 m)
  refine⟨.ref s.heap.objs.size,_,I1,rfl,⟨_,x,hn,rfl,rfl,λys hy=>by rw[I.tuple_inj hy O];exact J⟩,⟨_,B,D.at λo e=>(Y.2 _ (aW (fP it))).trans e⟩,λb Z=>?_⟩
  rw[cO (ne b Z)]
  exact(U b Z).1
 done:=by
  intro X t hw r y i pins s σ H E I U st C
  subst t hw r
  obtain⟨xs,O,J⟩:=C
  obtain⟨its,L,p,hz⟩:=I.tuple O
  obtain⟨old,W,hi⟩:=st
  have hl:=L.length
  have pt:s.heap.IsTuple a its.toArray:=by
   obtain⟨o,g1,g2,n,g3⟩:=p
   exact⟨o,g1,g2,n,g3⟩
  have V:a≠it:=λz=>by
   obtain⟨o,g1,g2,_⟩:=p
   obtain⟨g,g3,q,_⟩:=id hi
   rw[z,g3]at g1
   cases g1
   rw[q]at g2
   exact absurd g2 (by decide)
  refine TE2.Ug (I.ok.hd y) V W hi pt (by simp;omega) λh' eb=>⟨rfl,Inv.turnedL (t':=s.toks) (ch:=[it+1,it]) I (λb o Z e=>eb b o (λz=>Z (by simp[z])) e) U⟩
 self:=λ_ _ _ _ _ st h=>by
  obtain⟨old,W,_⟩:=st
  exact ce W h
section
variable{X:Cx}{fl:List Fl}{a:Expr}{f:FE}{pos:Pos}
def X7(K:PySem.W.Frag)(tl:TE):TI:=λσ H R=>tl σ H λx H1=>∃a,x = .ref a/\(∃xs,SqT K H1 a xs)/\R (ItT K a) H1
theorem P_{x1}(O:Gl X "enumerate")(hm:X.mg "enumerate"=none)(J:PE X a tl)(D:starEach [a] X.env=(false,eval a X.env)::starEach [] X.env:=by rfl)
 (B:(backTo pos (starEach [] X.env)).any (·.1)=false:=by rfl):PI X (.Tuple elts x1 tpos) (.Call (.Name "enumerate" p) [a] [] pos) (X7 X.K tl):=by
 intro pins s σ H R I h
 refine ax (lR I O hm boot_enumerate (PyProof.Rows.callWith_type1 (thn ((jy J n8 D) pos pins s σ H (λvs H1=>match vs with|[x]=>∃a,x = .ref a/\(∃xs,SqT X.K H1 a xs)/\R (ItT X.K a) H1|_=>False) I h) λus s1 ⟨vs,H1,W,T,q1⟩=>?_) D B))
 cases T with
 |nil=>exact q1.elim
 |cons r U=>
  cases U with
  |cons _ _=>exact q1.elim
  |nil=>
  obtain⟨l,e,⟨xs,Q⟩,q⟩:=q1
  subst e
  cases r
  obtain⟨its,L,pl,G⟩:=W.tuple Q
  have pt:s1.heap.IsTuple l its.toArray:=by
   obtain⟨o,g1,g2,n,g3⟩:=pl
   exact⟨o,g1,g2,n,g3⟩
  refine TE2.Lq pt λh' Z V S P=>?_
  have M:Inv X pins σ H1 {s1 with heap:=h'}:=W.kept (t':=s1.toks) P
  refine ce (s:={s1 with heap:=h'}) Z ?_
  refine⟨s1.heap.objs.size+1,[s1.heap.objs.size+1,s1.heap.objs.size],_,_,H1,rfl,M,Ir l s1.heap.objs.size,⟨_,Z,V⟩,λb N=>?_,q⟩
  have Y:s1.heap.objs.size<=b:=by
   rcases aU.mp N with z|z
   ·rw[z];exact jm _
   ·rw[show b=s1.heap.objs.size by simpa using z];exact aL _
  exact W.fpOk Y (W.hok.fresh Y)
theorem Qa{x1}(h:DE X fl (.B L) a f)(J:Gl X "enumerate")(hm:X.mg "enumerate"=none)(he:starEach [a] X.env=(false,eval a X.env)::starEach [] X.env:=by rfl)
 (D:(backTo pos (starEach [] X.env)).any (·.1)=false:=by rfl):DI X fl L (.Tuple elts x1 tpos) (.Call (.Name "enumerate" p) [a] [] pos) (Il f):=PI.imp (P_ J hm h he D) λσ H R' h=>by
 obtain⟨G,ow,δ,l,R,K,q⟩:=h
 obtain⟨d,I,e2⟩:=bind1 K
 cases d<;>first|(cases e2;done)|skip
 next V=>
 cases e2
 refine⟨G,ow,δ,_,R,I,λv H1 s r=>?_⟩
 obtain⟨a,xs,rfl,O,keep⟩:=Ou (R.grow s) r
 refine⟨a,rfl,⟨xs,O⟩,q _ _ s λH2 k2 i=>?_⟩
 obtain⟨Y,U⟩:=keep H2 k2
 refine⟨λd hd=>?_,λM=>⟨xs,Y,by rw[U.length];simpa[qw]using M⟩⟩
 have Z:(V[i]?).map (λx=>PyData.tuple [.int (i:Int),x])=some d:=by
  have:=hd
  unfold qw at this
  rw[fO]at this
  exact this
 cases e:V[i]? with
 |none=>rw[e]at Z;cases Z
 |some F=>
  rw[e]at Z
  cases Z
  obtain⟨y,T,Q⟩:=U.get e
  refine⟨⟨xs,y,Y,T⟩,λx E W=>?_⟩
  obtain⟨p,S,N,rfl,rfl,P⟩:=W
  have:some y=some S:=T.symm.trans (P xs Y)
  cases this
  have g:=cY N (.tup [.int (i:Int),y])
  exact⟨g,.tup cU (.cons (.int _) (.cons (Q.same g) .nil))⟩
end
end D3
variable{ts:List (Addr×L2.V×L2.V)}
namespace XK
open PySem PySem.Spec PyProof.Rows L2 My D3
theorem VN{P:Nat->Addr->V->V->Prop}:∀n,(∀j,j<n->∃a i k,P j a i k)->∃ts:List (Addr×V×V),ts.length=n/\∀j t,ts[j]? = some t->P j t.1 t.2.1 t.2.2
 |0,_=>⟨[],rfl,λj t h=>by simp at h⟩
 |n+1,h=>by
  obtain⟨ts,h1,h2⟩:=VN n λj Y=>h j (by omega)
  obtain⟨a,i,k,X⟩:=h n (by omega)
  refine⟨ts++[(a,i,k)],by simp[h1],λj t e=>?_⟩
  by_cases Y:j<ts.length
  ·rw[cg Y]at e
   exact h2 j t e
  ·rw[bT (by omega)]at e
   have Z:j-ts.length=0:=by
    rcases uN (j-ts.length)with z|z
    ·exact z
    ·rw[bG (by simp;omega)]at e;cases e
   rw[Z]at e
   cases e
   rw[show j=n by omega]
   exact X
noncomputable def zK(H:Hp)(S:Addr)(vs:List V)(ts:List (Addr×V×V)):Hp:=λb=>if b=S then some (.lst vs)else match ts.find? (λt=>decide (t.1=b))with
 |some t=>some (.tup [t.2.1,t.2.2])
 |none=>H b
theorem Qc{S:Addr}:zK H S vs ts S=some (.lst vs):=by unfold zK;rw[if_pos rfl]
theorem Qd{S:Addr}(hi:∀(j j':Nat) (t t':Addr×V×V),ts[j]? = some t->ts[j']? = some t'->t.1=t'.1->j=j'){t:Addr×V×V}(B:t∈ts)(D:t.1≠S):zK H S vs ts t.1=some (.tup [t.2.1,t.2.2]):=by
 unfold zK
 rw[if_neg D]
 cases e:ts.find? (λu=>decide (u.1=t.1))with
 |none=>
  have:=jt.mp e t B
  simp at this
 |some t'=>
  have h1:=iG e
  have h2:t'.1=t.1:=of_decide_eq_true (rY (p:=λu:Addr×V×V=>decide (u.1=t.1)) e)
  obtain⟨j,Y⟩:=gH B
  obtain⟨j',Z⟩:=gH h1
  have:=hi j j' t t' Y Z h2.symm
  subst this
  rw[Y]at Z
  cases Z
  rfl
theorem Qe{S:Addr}(h1:b≠S)(h2:∀t∈ts,t.1≠b):zK H S vs ts b=H b:=by
 unfold zK
 rw[if_neg h1,jt.mpr λt Z=>by simp[h2 t Z]]
theorem Qf{ok:Ok}:∀{vs:List V}{ds:List D},vs.length=ds.length->(∀(j:Nat)(v:V)(d:D),vs[j]? = some v->ds[j]? = some d->RA K ok pl H v d)->RAs K ok pl H vs ds
 |[],[],_,_=>.nil
 |[],_::_,h,_=>by cases h
 |_::_,[],h,_=>by cases h
 |v::vs,d::ds,h,g=>.cons (g 0 v d rfl rfl) (Qf (vm.inj h) λj u e h1 h2=>g (j+1) u e h1 h2)
theorem tL:∀l m:List D,(lY l m).length=min l.length m.length
 |[],m=>by simp[lY]
 |_::_,[]=>by simp[lY]
 |a::l,b::m=>by
  show(lY l m).length+1=_
  rw[tL l m,bC,bC]
  omega
section
variable{X:Cx}{fl:List Fl}{a b:Expr}{f g:FE}{p p2 pos pos2:Pos}
theorem Qg{L1 L2:List Nat}(ha:DE X fl (.B L1) a f)(hb:DE X fl (.B L2) b g)(hc:X.calm=true)(hg:Gl X "list")(hm:X.mg "list"=none)(hg2:Gl X "zip")(hm2:X.mg "zip"=none)
 (he:starEach [a,b] X.env=(false,eval a X.env)::starEach [b] X.env:=by rfl) (heb:starEach [b] X.env=(false,eval b X.env)::starEach [] X.env:=by rfl) (hpl:(backTo pos2 (starEach [b] X.env)).any (·.1)=false:=by rfl)
 (he2:starEach [.Call (.Name "zip" p2) [a,b] [] pos2] X.env=(false,eval (.Call (.Name "zip" p2) [a,b] [] pos2) X.env)::starEach [] X.env:=by rfl) (hpl2:(backTo pos (starEach [] X.env)).any (·.1)=false:=by rfl) :
 DE X fl .F (.Call (.Name "list" p) [.Call (.Name "zip" p2) [a,b] [] pos2] [] pos) (dOp wL f g):=by
 intro pins s σ H Q I hq
 obtain⟨G,ow,δ,d,R,hf,q⟩:=hq
 obtain⟨x,y,e1,e2,L⟩:=Bp hf
 unfold wL at L
 split at L
 case h_2=>cases L
 next l m=>
 by_cases hl:l.length<=1000
 case neg=>rw[if_neg hl]at L;cases L
 rw[if_pos hl]at L
 cases L
 refine ax (lR I hg hm boot_list (PyProof.Rows.callWith_type1 ?_ he2 hpl2))
 rw[he2]
 show wpAny _ _ (spliced ((false,eval (.Call (.Name "zip" p2) [a,b] [] pos2) X.env)::backTo pos (starEach [] X.env))) _ _ s
 refine a8 ?_
 refine ax (lR I hg2 hm2 D3.boot_zip (PyProof.Rows.callWith_type1 (thn ((jy ha (jy hb n8 heb) he) pos2 pins s σ H (λvs H1=>∃v u,vs=[v,u]/\Same H H1/\(∃l1 xs,v = .ref l1/\SqL X.K H1 l1 xs/\RAs X.K (okA ow) true H1 xs l)/\∃l2 ys,u = .ref l2/\SqL X.K H1 l2 ys/\RAs X.K (okA ow) true H1 ys m) I
  ⟨G,ow,δ,_,R,e1,λv H1 s1 M=>⟨G,ow,δ,_,R.grow s1,e2,λu H2 s2 A=>⟨v,u,rfl,s1.trans s2,(let⟨l1,xs,e,hx,hr⟩:=tG M;⟨l1,xs,e,s2.seq hx,hr.same s2⟩),tG A⟩⟩⟩) λus s1 ⟨vs,H1,S,M,v,u,ev,D,rv,ru⟩=>?_) he hpl))
 subst ev
 obtain⟨l1,xs,rfl,hx,hr⟩:=rv
 obtain⟨l2,ys,rfl,hy,hr'⟩:=ru
 cases M with
 |cons ra rb=>
 cases rb with
 |cons rb rc=>
 cases rc
 cases ra
 cases rb
 obtain⟨its,C,pl,hz⟩:=S.list hx
 obtain⟨Z,O,pl',hz'⟩:=S.list hy
 have il:its.length=xs.length:=C.length.symm
 have il':Z.length=ys.length:=O.length.symm
 have xl:xs.length=l.length:=hr.length
 have yl:ys.length=m.length:=hr'.length
 refine call_zip_2 pl.isList pl'.isList λh' g1 g2 g3 g4 g5 g6 hk=>?_
 refine bo ?_
 have q1:h'.IsList l1 its.toArray:=by
  obtain⟨o,ho,r⟩:=pl.isList
  exact⟨o,hk _ _ ho,r⟩
 have q2:h'.IsList l2 Z.toArray:=by
  obtain⟨o,ho,r⟩:=pl'.isList
  exact⟨o,hk _ _ ho,r⟩
 have Dz:=wH g1 g2 g3 g4 g5 q1 q2 (aW (fP _)) (aW (fP _))
 refine O5 (s:={s1 with heap:=h'}) (S.ok.hd hc) Dz g1 g2 g3 g4 g5 q1 q2 (by rw[aX,il,xl];exact bF hl (by decide)) λY acc c kk f1 f2 f3 f4=>?_
 replace kk:∀c o,c∉[s1.heap.objs.size+4,s1.heap.objs.size+3,s1.heap.objs.size,s1.heap.objs.size+1]->h'.get? c=some o->Y.get? c=some o:=kk
 replace f4:Y.get? h'.objs.size=some {cls:=.type "list", dict:=none,data:=.seq acc c,slots:=#[]}:=f4
 replace f2:∀j,j<min its.toArray.size Z.toArray.size->∃a x y,acc[j]? = some (.ref a)/\h'.objs.size<a/\its.toArray[j]? = some x/\Z.toArray[j]? = some y/\IsPair Y a x y:=f2
 have fr:∀c,s1.heap.objs.size<=c->H1 c=none:=λc hc=>S.hok.fresh hc
 have kept:∀b u,s1.heap.get? b=some u->Y.get? b=some u:=λb u e=>kk b u (λz=>by
  have U:=af e
  simp only[aU,aN,dB,or_false]at z
  rcases z with z|z|z|z<;>rw[z]at U
  ·exact mU.mpr (qg _ _) U
  ·exact mU.mpr (qg _ _) U
  ·exact eN _ U
  ·exact mU.mpr (qg _ _) U) (hk b u e)
 have sS:s1.heap.objs.size<=h'.objs.size:=by rw[g6];omega
 simp only[aX,il,il']at f1 f2
 obtain⟨ts,tl,J⟩:=VN (P:=λj a i k=>acc[j]? = some (.ref a)/\h'.objs.size<a/\xs[j]? = some i/\ys[j]? = some k/\∃u v,IsPair Y a u v/\RelV i u/\RelV k v) (min xs.length ys.length) (λj E=>by
  obtain⟨a,x,y,k1,k2,k3,h,n⟩:=f2 j E
  have hn1:j<xs.length:=by omega
  have hn2:j<ys.length:=by omega
  obtain⟨u1,w1,M⟩:=C.get (aB hn1)
  obtain⟨u2,w2,A⟩:=O.get (aB hn2)
  have ex:x=u1:=by
   have:its[j]? = some x:=by simpa using k3
   rw[w1]at this
   exact(dh.inj this).symm
  have ey:y=u2:=by
   have:Z[j]? = some y:=by simpa using h
   rw[w2]at this
   exact(dh.inj this).symm
  subst ex ey
  exact⟨a,xs[j],ys[j],k1,k2,aB hn1,aB hn2,x,y,n,M,A⟩)
 have inj:∀(j j':Nat)(t t':Addr×V×V),ts[j]? = some t->ts[j']? = some t'->t.1=t'.1->j=j':=λj j' t t' h1 h2 h3=>by
  have a1:=(J j t h1).1
  have a2:=(J j' t' h2).1
  rw[<-h3]at a2
  exact f3 j j' t.1 a1 a2
 have T:∀t∈ts,h'.objs.size<t.1/\∃u v,IsPair Y t.1 u v/\RelV t.2.1 u/\RelV t.2.2 v:=λt W=>by
  obtain⟨j,E⟩:=gH W
  obtain⟨_,k2,_,_,n⟩:=J j t E
  exact⟨k2,n⟩
 have N:acc.toList=ts.map λt=>Value.ref t.1:=by
  apply dX
  intro j
  rw[cL,bw]
  by_cases E:j<ts.length
  ·rw[aB E]
   exact(J j _ (aB E)).1
  ·rw[bG (by omega),fU (by omega)]
   rfl
 have tn:∀t∈ts,t.1≠h'.objs.size:=λt W=>lJ (T t W).1
 have low:∀b,b<s1.heap.objs.size->zK H1 h'.objs.size (ts.map λt=>V.ref t.1) ts b=H1 b:=λb hb=>Qe (λz=>by rw[z]at hb;exact mU.mpr sS hb) λt W z=>by
  have:=(T t W).1
  rw[z]at this
  exact mU.mpr sS (oG this hb)
 have hok:HOk X.prog X.w (zK H1 h'.objs.size (ts.map λt=>V.ref t.1) ts) Y:=λb u e=>by
  by_cases hbS:b=h'.objs.size
  ·subst hbS
   rw[Qc]at e
   cases e
   refine⟨by rw[aq,tl];exact bF (bF (Nat.min_le_left _ _) (by rw[xl];exact hl)) (by decide),acc.toList,c,?_,by simpa using f4⟩
   rw[N]
   clear J tl inj T N tn low
   induction ts with
   |nil=>exact .nil
   |cons t ts ih=>exact .cons rfl ih
  ·by_cases hbt:∃t∈ts,t.1=b
   ·obtain⟨t,W,rfl⟩:=hbt
    rw[Qd inj W (tn t W)]at e
    cases e
    obtain⟨_,v1,v2,n,k6,k7⟩:=T t W
    exact⟨show 2<=sizeLine by decide,[v1,v2],.cons k6 (.cons k7 .nil),⟨_,n,rfl,_,rfl⟩⟩
   ·rw[Qe hbS λt W z=>hbt ⟨t,W,z⟩]at e
    exact(S.hok b u e).stay (λc v _ r=>kept c v r) (λc r=>by rw[low c (S.hok.lt r)];exact r) λc xs r=>by rw[low c (S.hok.lt r)];exact r
 have sm:Same H1 (zK H1 h'.objs.size (ts.map λt=>V.ref t.1) ts):=λb u e=>by rw[low b (S.hok.lt e)];exact e
 have I2:=O6 (t':=s1.toks) S kept low hok
 have sz:Same H1 (zK H1 h'.objs.size (ts.map λt=>V.ref t.1) ts):=sm
 have hrz:RAs X.K (λb=>okA ow b/\b≠h'.objs.size) true (zK H1 h'.objs.size (ts.map λt=>V.ref t.1) ts) (ts.map λt=>V.ref t.1) (lY l m):=by
  have hp:=fr _ sS
  have M:=(hr.track.imp (ok':=λb=>okA ow b/\b≠h'.objs.size) (λb w=>⟨w.1,λe=>w.2 (e▸hp)⟩) (λz=>z)).same sm
  have A:=(hr'.track.imp (ok':=λb=>okA ow b/\b≠h'.objs.size) (λb w=>⟨w.1,λe=>w.2 (e▸hp)⟩) (λz=>z)).same sm
  have zln:(lY l m).length=ts.length:=by rw[tl,xl,yl,tL]
  refine Qf (by rw[aq,zln]) λj v d hv hd=>?_
  rw[bw]at hv
  cases et:ts[j]? with
  |none=>rw[et]at hv;cases hv
  |some t=>
   rw[et]at hv
   cases hv
   obtain⟨_,_,k3,h,_⟩:=J j t et
   have lj:j<l.length:=by
    rw[<-xl]
    rcases gD j xs.length with z|z
    ·exact z
    ·rw[bG z]at k3;cases k3
   have mj:j<m.length:=by
    rw[<-yl]
    rcases gD j ys.length with z|z
    ·exact z
    ·rw[bG z]at h;cases h
   rw[yU,aB lj,aB mj]at hd
   cases hd
   obtain⟨y1,g1,g2⟩:=M.get (aB lj)
   obtain⟨y2,g3,g4⟩:=A.get (aB mj)
   rw[k3]at g1
   rw[h]at g3
   cases g1
   cases g3
   exact .tup (Qd inj (gG et) (tn t (gG et))) (.cons g2 (.cons g4 .nil))
 refine⟨.ref h'.objs.size,_,I2,rfl,q _ _ (D.trans sm) (.inr ⟨h'.objs.size,_,_,rfl,rfl,D.free (fr _ sS),Qc,hrz⟩)⟩
end
end XK
namespace XJ
open PySem PySem.Spec PySem.W PyProof.Rows XS
section
variable{prog:Program}{w:World}{A:Around}{E:Value->Shared->Prop}{s:Shared}
structure PR(prog:Program)(w:World)(h:Heap)(D I l:Addr)(its:Array Value)(vs:List (List L2.Key×Addr×Value))(i:Nat):Prop where
 iter:h.IsListIter I l i
 lst:h.IsList l its
 prs:∀(j:Nat)(u:Value),its[j]? = some u->∃(a b:Addr)(k:List L2.Key)(v:Value),u=Value.ref a/\IsTup h a #[Value.ref b,v]/\vs[j]? = some (k,b,v)/\a≠D/\a≠I/\(tupleKind (L2.je prog w)).is h k b/\b≠D/\b≠I
 ne:l≠D/\l≠I/\D≠I
end
end XJ
namespace XJ
open PySem PySem.Spec PySem.W PyProof.Rows L2 My D3 XK XT XD XS
theorem um:∀(ks:List (List Int))(S:List (List Int)),(ks.foldl m5 S).length<=S.length+ks.length
 |[],S=>aL _
 |k::ks,S=>by
  have h1:=um ks (m5 S k)
  have h2:(m5 S k).length<=S.length+1:=by
   unfold m5
   split<;>simp
  rw[iI,bC]
  omega
section
variable{X:Cx}
end
end XJ
namespace XV
open PySem PySem.Spec PyProof.Rows L2 My D3
end XV
namespace D3
open PySem
def tV(i:Nat)(fk:FE):FS:=λδ=>(ao i δ).bind λx=>(fk δ).bind λy=>(OD x).bind λS=>(Dq y).bind λk=>if S.length<1000000 then some (.nx (δ.set i (some (.d (dsT (m5 S k))))))else none
end D3
namespace XJ
open PySem PySem.Spec PyProof.Rows L2 My D3 XK XT
section
variable{K:PySem.W.Frag}{fl:List Fl}
theorem Ip(h:tsD kvs=some []):kvs=[]:=by
 cases kvs with
 |nil=>rfl
 |cons q r=>
  obtain⟨a,b⟩:=q
  unfold tsD at h
  split at h
  ·next e=>cases e
  ·next e=>
   cases e
   obtain⟨k,Y,e2⟩:=bind1 h
   cases Z:tsD r with
   |none=>rw[Z]at e2;cases e2
   |some z=>rw[Z]at e2;cases e2
  ·cases h
theorem Lr{σ:L2.St}{x:D}(R:Rel K fl G ow σ H δ)(O:fl[i]? = some .N)(hx:ao i δ=some x)(B:OD x=some []):
 ∃a,σ[i]? = some (some (.ref a))/\H a=some (.dK [])/\∀H',Same H H'->∀J,J≠[]->∃W,Rel K fl G W σ (upd H' a (.dT (dtI J))) (δ.set i (some (.d (dsT J)))):=by
 have e:=m_ hx
 have hi:i<δ.length:=by
  rcases gD i δ.length with z|z
  ·exact z
  ·rw[bG z]at e;cases e
 obtain⟨v,h1,h2,T⟩:=R.nr i x (by rw[O];rfl) e
 generalize Y:ow.n i=as at h2 T
 cases h2 with
 |dic ha V=>
  rename_i a u kvs
  have X:=Ip B
  subst X
  rw[V.old rfl]at ha
  refine⟨a,h1,ha,λH' s J Z=>?_⟩
  refine(R.grow s).mutN (as:=[a]) O hi (by rw[Y];exact gR _) (s _ _ ha) h1 ?_ (λb U=>by rw[Y];exact U) (eO.mpr ⟨dB,.nil⟩)
  refine .dic cU (.inl ⟨zA (zm J),?_⟩)
  rw[Du (zm J) Z]
 |non=>cases B
 |bl _=>cases B
 |int _=>cases B
 |str _=>cases B
 |lst _ _=>cases B
 |tup _ _=>cases B
end
def X8:V->V->V->Hp->(Hp->Prop)->Prop:=λo i v H Q=>VH o i v H Q\/∃p k b,o = .ref p/\i = .ref b/\H p=some (.dK [])/\H b=some (.tup (oY kV k))/\Q (upd H p (.dT [(k,v)]))
section
variable{X:Cx}{fl:List Fl}{e ke:Expr}{fk:FE}{pos:Pos}
theorem Ls(B:X.A.units+1<cLine):RW X X8:=by
 intro pins s σ H o i v R P u Q I W V Y h
 rcases h with h|⟨p,k,b,rfl,rfl,U,T,q⟩
 ·exact O9 B pins s σ H o i v R P u Q I W V Y h
 ·cases W
  have Z:upd H p (.dT []) b=some (.tup (oY kV k)):=by
   rw[cO (yD T U (λz=>nomatch z))]
   exact T
  exact BK B (Pg I U) (Im.t cU Z (show 0<sizeLine by decide)) V Y λs' S=>⟨_,by rw[Jf]at S;exact S,q⟩
theorem Qh(hu:X.A.units+1<cLine){i:Nat}{x:Str}{vpos spos:Pos}(B:fl[i]? = some .N)(he:PE X e (tC (.bl true)))(hk:DE X fl .P ke fk)(hN:X.N[i]? = some x)(hv:Vis X.env.scope x:=by first|exact Or.inl rfl|exact Or.inr (Or.inl rfl)|exact Or.inr (Or.inr rfl))(hd:(x==("__debug__":Str))=false:=by decide)
 (O:(x==("__classdict__":Str))=false:=by decide) (ha:∀v,assign (.Subscript (.Name x vpos) ke spos) X.env v=(do
  let D <-holding [v] (eval (.Name x vpos) X.env)
  let J <-holding [v,D] (eval ke X.env)
  standAt spos
  holding [v,D,J] (setItem D J v)
  release [v,D,J] []):=by intro _;rfl)
 (hs:swapsWithSole [.Subscript (.Name x vpos) ke spos] e pos.line X.env=pure false:=by rfl) (hw:swappedStores [.Subscript (.Name x vpos) ke spos] e X.env=pure none:=by rfl)
 (h1:(assignEach [.Subscript (.Name x vpos) ke spos] X.env).map (·.2)=[assign (.Subscript (.Name x vpos) ke spos) X.env]:=by rfl) :
 DS1 X fl (.Assign [.Subscript (.Name x vpos) ke spos] e pos) (tV i fk):=
 PS.imp (Hu he (M_ (rE hN hv hd O) hk (Ls hu) ha) hs hw h1) λDn σ H h=>by
 obtain⟨G,ow,δ,o,R,Z,q⟩:=h
 obtain⟨y,I,Z⟩:=bind1 Z
 obtain⟨z,e2,Z⟩:=bind1 Z
 obtain⟨S,K,Z⟩:=bind1 Z
 obtain⟨k,L,Z⟩:=bind1 Z
 by_cases V:S.length<1000000
 case neg=>rw[if_neg V]at Z;cases Z
 rw[if_pos V]at Z
 cases Z
 by_cases Q:S=[]
 ·subst Q
  obtain⟨p,h1,h2,M⟩:=Lr R B I K
  refine⟨_,h1,G,ow,δ,_,R,e2,λu H2 s2 W=>?_⟩
  obtain⟨b,rfl,U⟩:=yd L W
  obtain⟨Y,R'⟩:=M H2 s2 [k] (by simp)
  exact .inr ⟨p,k.map Sum.inl,b,rfl,rfl,s2 _ _ h2,U,q Y σ _ R'⟩
 ·obtain⟨p,h1,h2,M⟩:=O8 R B I K Q
  refine⟨_,h1,G,ow,δ,_,R,e2,λu H2 s2 W=>?_⟩
  obtain⟨b,rfl,U⟩:=yd L W
  have T:m5 S k≠[]:=by
   unfold m5
   split
   ·exact Q
   ·simp
  obtain⟨Y,R'⟩:=M H2 s2 (m5 S k) T
  refine .inl ⟨p,dtI S,k.map Sum.inl,b,rfl,rfl,s2 _ _ h2,U,by unfold dtI;rw[aq];exact oG V (by decide),?_⟩
  rw[XC]
  exact q Y σ _ R'
end
end XJ
namespace XL
open PySem PySem.Spec PySem.W PyProof.Rows L2 My D3
abbrev Lw(x y:Str)(p1 p2 p3 p4 p5:Pos)(kd:Nat):Expr:=.Subscript (.Subscript (.Name x p1) (.Name y p2) p3) (.Constant (.int 0) kd p4) p5
section
variable{prog:Program}{w:World}{A:Around}{R:Result->Shared->Prop}{s:Shared}{f c' a b cell:Addr}{nm q x y:Str}{params:Arguments}{scope:Scope}{pm ctv:Value}{p1 p2 p3 p4 p5:Pos}{kd:Nat}{i k:Int}{j:Nat}{t t':Tok}{its its2:Array Value}
theorem Qi{x:Value}(O:s.heap.IsList a its)(D : -(its.size:Int)<=i)(J:i<its.size)(hsz:its.size<=sizeLine)(B:seqIndex? i its.size=some j)(hi:its[j]? = some x)(h:Q x s):
 wpAny (model prog w) A (getItem (.ref a) (.int i t)) Q E s:=by
 have hn:=wu
 by_cases Y:0<=i
 ·have Z:i.toNat=j:=by
   rw[ee Y J]at B
   exact dh.inj B
  exact wpAny_getItem_list O Y (by omega) (by rw[Z];exact hi) h
 ·have Z:(i+(its.size:Int)).toNat=j:=by
   rw[dA (by omega) D]at B
   exact dh.inj B
  exact wpAny_getItem_list_neg O (by omega) D (by omega) (by rw[Z];exact hi) h
theorem Uh(ho:s.heap.get? f=some (kla_obj nm q params (Lw x y p1 p2 p3 p4 p5 kd) scope [(x,cell)] pm c' ctv))(hcd:s.heap.CodeRec (.ref c') q)(B:A.depth<recursionLimit)(hlim:s.heap.NoLimit)
 (O:∀u,bindArgs (kla_fn nm q params (Lw x y p1 p2 p3 p4 p5 kd) scope [(x,cell)] pm (.ref c') ctv) ⟨[u],[]⟩=pure [(y,u)])
 (hco:scope.isCoroutine=false) (hgen:scope.isGenerator=false) (hk:scope.kind = .function) (J:∀z∈scope.names,z.2 ≠ .cell) (hy:scope.names.lookup y=some .local) (hx:scope.names.lookup x=some .free)
 (hxd:(x==("__debug__":Str))=false) (hyd:(y==("__debug__":Str))=false) (hxc:(x==("__classdict__":Str))=false)
 (hc:s.heap.IsCell cell (some (.ref a))) (hl:s.heap.IsList a its) (hlo : -(its.size:Int)<=i) (hhi:i<its.size) (hsz:its.size<=sizeLine) (hsx:seqIndex? i its.size=some j) (hi:its[j]? = some (.ref b)) (ht:IsTup s.heap b its2) (D:its2[0]? = some (.int k t'))
 (h:∀h' tk,(∀b o,s.heap.get? b=some o->h'.get? b=some o)->R (.ok (.ret (.int k t'))) {s with heap:=h',toks:=tk}) :
 codeAny (model prog w) A (.call (.ref f) ⟨[.int i t],[]⟩) R s:=by
 refine kla_callFunE B ho rfl hco hgen rfl hcd ?_
 rw[O]
 refine ae (wpAny_newFunctionEnv J (λz Q=>?_) (λY S V=>⟨hlim.fresh _ V,?_⟩) hk)
 ·rw[aN.mp Q]
  exact hy
 have Z:∀b o,s.heap.get? b=some o->Y.get? b=some o:=λb o e=>V.extBut b o (aW (af e)) (ad _ e)
 refine kla_codeExpr ?_
 have U:Y.IsList a its:=by
  obtain⟨o,X,e2⟩:=hl
  exact⟨o,Z _ _ X,e2⟩
 have W:IsTup Y b its2:=by
  obtain⟨o,X,e2⟩:=ht
  exact⟨o,Z _ _ X,e2⟩
 refine dv ?_
 refine dv ?_
 refine du ?_ hxd
 refine wpAny_loadName_free (c:=cell) (v:=.ref a) hk hx ?_ ?_ ?_ hxc
 ·show wW x [(x,cell)]=some cell
  simp
 ·obtain⟨o,X,e2⟩:=hc
  exact⟨o,Z _ _ X,e2⟩
 refine du ?_ hyd
 refine wpAny_loadName_local (v:=.int i t) hk hy S ?_ ?_
 ·simp
 refine subscriptTail_builtin (T := "list") (id := "list.__getitem__") ?_ PySem.F.slot_list_getitem.lookup ?_
 ·obtain⟨o,X,e2,_⟩:=U
  exact⟨o,X,e2⟩
 refine Qi U hlo hhi hsz hsx hi ?_
 refine wpAny_Constant_int ?_
 refine kba_turn (value':=PySem.Expr.Name (PySem.Str.ofString "_") ⟨0,0,0,0⟩) (λ_=>rfl) ?_
 refine subscriptTail_builtin (T := "tuple") (id := "tuple.__getitem__") ?_ PySem.F.slot_tuple_getitem.lookup ?_
 ·obtain⟨o,X,e2,_⟩:=W
  exact⟨o,X,e2⟩
 refine PyProof.Rows.getItem_tuple (j:=0) (x:=.int k t') W (by decide) (by decide) ?_ D ?_
 ·have:0<its2.size:=by
   rcases gD 0 its2.size with z|z
   ·exact z
   ·rw[fU z]at D;cases D
  unfold seqIndex?
  have h2:(0:Int)<(its2.size:Int):=by omega
  show(if(decide ((0:Int)<=0)&&decide ((0:Int)<(its2.size:Int)))=true then some (0:Int).toNat else none)=some 0
  rw[dTr (eY 0),dTr h2]
  rfl
 ·exact h Y _ Z
end
section
variable{M:Model}{A:Around}{E:Value->Shared->Prop}{s:Shared}{params:Arguments}{body:Expr}{scope:Scope}{env:Env}{c P:Addr}{pos:Pos}{mg:Str->Option Value}{clos:List (Str×Addr)}{Q:Value->Shared->Prop}{q:Str}
abbrev ent(pos:Pos)(c':Addr):Array Value:=#[rawInt pos.line,rawInt pos.col,.ref c']
theorem Qj(hq:env.qual++"<lambda>"=q)(J:defaultsOf params env=([],[]))(O:closureFor scope env=pure clos)(D:env.globals=mainGlobals)(hg:s.heap.Ns mainGlobals mg)(B:env.code = .ref c)(C:CodeHd s.heap c P)(hgP:mainGlobals≠P)(hb:s.heap.BuiltinsAt mg P)
 (hT:∃ps,s.heap.get? P=some (tabObj ps)/\(ps = #[]\/∃c',ps=ent pos c'/\s.heap.CodeRec (.ref c') q))
 (h:∀f c' ctv h' tk,(∀b o,b≠P->s.heap.get? b=some o->h'.get? b=some o)->h'.get? P=some (tabObj (ent pos c'))->(s.heap.get? P=some (tabObj (ent pos c'))\/(s.heap.get? P=some (tabObj #[])/\s.heap.objs.size<=c'/\c'≠f))->s.heap.objs.size<=f ->
  h'.get? f=some (kla_obj "<lambda>" q params body scope clos ((mg "__name__").getD .none) c' ctv)->h'.CodeRec (.ref c') q->Q (.ref f) {s with heap:=h',toks:=tk}) :
 wpAny M A (eval (.Lambda params body scope pos) env) Q E s:=by
 refine kla_eval J ?_
 rw[hq]
 obtain⟨ps,W,z|⟨c',z,K⟩⟩:=hT
 ·subst z
  refine kla_makeFunction (mg:=mg) O D hg B C W trivial rfl hgP hb λc' ctv h' tk L X Y Z U=>?_
  have up:∀b o,h'.get? b=some o->(h'.push (kla_obj "<lambda>" q params body scope clos ((mg "__name__").getD .none) c' ctv)).get? b=some o:=λb o e=>ad _ e
  obtain⟨N,oc,vs,V,R,e2,S⟩:=Z
  refine h h'.objs.size c' ctv _ tk (λb o hb e=>up b o (L b o hb e)) (up _ _ (by rw[U];rfl)) (.inr ⟨W,X,aW Y⟩) (bF X (dW Y)) (ag _ rfl) ⟨N,oc,vs,V,R,up _ _ e2,S⟩
 ·subst z
  have ha:codeAmong pos (ent pos c').toList=some (.ref c'):=by simp[codeAmong,rawInt]
  refine kla_makeFunctionHit (mg:=mg) O D hg B C W trivial ha hb λctv h' tk I T=>?_
  have up:∀b o,s.heap.get? b=some o->(h'.push (kla_obj "<lambda>" q params body scope clos ((mg "__name__").getD .none) c' ctv)).get? b=some o:=λb o e=>ad _ (I b o e)
  obtain⟨N,oc,vs,V,R,e2,S⟩:=K
  exact h h'.objs.size c' ctv _ tk (λb o _ e=>up b o e) (up _ _ W) (.inl W) T (ag _ rfl) ⟨N,oc,vs,V,R,up _ _ e2,S⟩
end
end XL
namespace XL
open PySem PySem.Spec PySem.W PyProof.Rows L2 My D3 XS
section
variable{prog:Program}{w:World}{A:Around}{h₀:Heap}{L kS:Addr}{m:Str->Option Value}{f:Value}{nw:List (Addr×Obj)}
def JZ(prog:Program)(w:World)(A:Around)(nw:List (Addr×Obj))(f v:Value)(k:Int):Prop:=
 ∃t,∀(s:Shared)(R:Result->Shared->Prop),(∀p∈nw,s.heap.get? p.1=some p.2)->s.heap.NoLimit->(∀h' tk,(∀b o,s.heap.get? b=some o->h'.get? b=some o)->R (.ok (.ret (.int k t))) {s with heap:=h',toks:=tk}) ->
  codeAny (model prog w) A (.call f ⟨[v],[]⟩) R s
theorem GD{Fin:List Value->Nat->Shared->Prop}(J:∀y∈nw,y.1≠kS)(D:∀s:Shared,(∀p∈nw,s.heap.get? p.1=some p.2)->s.heap.NoLimit):∀(vs:List Value)(ns:List Int)(ks:List Value)(e:Nat)(s:Shared),Paired (λv k=>JZ prog w A nw f v k) vs ns ->
 Fr h₀ L s.heap m->News h₀ L s.heap ((kS,seqObj "list" (jw ks) e)::nw) ->
 (∀B O s',Fr h₀ L s'.heap m->News h₀ L s'.heap ((kS,seqObj "list" (jw (ks++B)) O)::nw)->s'.gens=s.gens->s'.drawn=s.drawn->s'.os=s.os->Paired (λ(v:Value)(k:Int)=>∃t,v = .int k t) B ns->Fin (ks++B) O s') ->
 KatKeys prog w A h₀ L m kS f Fin vs ks e s
 |[],_,ks,e,s,p,F,N,h=>by
  cases p
  have:=h [] e s F (by rw[cW];exact N) rfl rfl rfl .nil
  rw[cW]at this
  exact this
 |v::vs,_,ks,e,s,p,F,N,h=>by
  cases p with
  |cons p1 p2=>
  rename_i k ns
  obtain⟨t,c⟩:=p1
  have Z:∀p∈nw,s.heap.get? p.1=some p.2:=λp Y=>(N p (aK _ Y)).1
  refine KatKeys.cons (wpAny_call (c s _ Z (D s Z) λh' tk X=>?_))
  have S:Fr h₀ L h' m:=⟨F.ns.keeps X,λb o z=>X b o (F.keep b o z),F.above⟩
  have V:News h₀ L h' ((kS,seqObj "list" (jw ks) e)::nw):=λp Y=>⟨X _ _ (N p Y).1,(N p Y).2⟩
  refine KatBack.intro (s:={s with heap:=h',toks:=tk}) S V (.head J) λh2 e2 T N2=>?_
  refine GD J D vs ns (ks++[.int k t]) e2 {s with heap:=h2,toks:=tk} p2 T N2 λB O s' U W g1 g2 g3 q=>?_
  have z:=h (.int k t::B) O s' U (by rw[show ks++.int k t::B=ks++[.int k t]++B by simp];exact W) g1 g2 g3 (.cons ⟨t,rfl⟩ q)
  rw[show ks++.int k t::B=ks++[.int k t]++B by simp]at z
  exact z
end
section
variable{prog:Program}{w:World}{A:Around}{E:Value->Shared->Prop}{s:Shared}{h₀:Heap}{L l fa:Addr}{m:Str->Option Value}{vs:List Value}{ns:List Int}{news:List (Addr×Obj)}{Q:Value->Shared->Prop}
def ltK(ns:List Int)(i j:Nat):Bool:=decide (ns.getD i 0<ns.getD j 0)
theorem Iu(a b:Value):argsOk "sorted" ⟨[a],[(Str.ofString "key", b)]⟩:=by unfold argsOk;kernel_rfl
theorem GF(a b:Value):argsOk "list.sort" ⟨[a],[(Str.ofString "key", b)]⟩:=by unfold argsOk;kernel_rfl
theorem ints_of:∀{ks:List Value}{ns:List Int},Paired (λ(v:Value)(k:Int)=>∃t,v = .int k t) ks ns->IntsAre ks ns
 |_,_,.nil=>.nil
 |_,_,.cons p q=>by
  obtain⟨t,rfl⟩:=p
  exact .cons _ _ (ints_of q)
theorem DY:∀{ks:List Value}{ns:List Int},Paired (λ(v:Value)(k:Int)=>∃t,v = .int k t) ks ns->∀i,i<ks.length->∃t,ks.getD i .none = .int (ns.getD i 0) t
 |_,_,.nil,i,h=>by cases h
 |_,_,.cons p q,0,h=>by obtain⟨t,rfl⟩:=p;exact⟨t,rfl⟩
 |_,_,.cons p q,i+1,h=>by
  obtain⟨t,e⟩:=DY q i (by simpa using h)
  exact⟨t,by simpa using e⟩
theorem BZ{α β:Type}{R:α->β->Prop}:∀{l:List α}{r:List β},Paired R l r->∀{i:Nat}{a:α}{b:β},l[i]? = some a->r[i]? = some b->R a b
 |_,_,.nil,i,a,b,h,_=>by simp at h
 |_,_,.cons p q,0,a,b,h1,h2=>by
  simp at h1 h2
  subst h1 h2
  exact p
 |_,_,.cons p q,i+1,a,b,h1,h2=>BZ q (i:=i) (by simpa using h1) (by simpa using h2)
end
end XL
namespace XS
open PySem D3
def uK(l:List D)(ns:List Int):List D:=if l.length<=1 then l else(ou l.length λi j=>decide (ns.getD i 0<ns.getD j 0)).map λi=>l.getD i .none
def D_(fa fe:FE)(ix:List Nat):FE:=λδ=>(fa δ).bind λx=>match x with
 | .list l=>if l.length<64/\flats l=true then(lG (gNl 0) D3.mK fe (n_ 1 ix δ) l).bind λks=>(dO ks).map λns=>.list (uK l ns)else none
 |_=>none
def dK0:FE:=λδ=>match δ with
 |[some (.d (.int z)),some (.d (.list ds))]=>(pAt ds z).bind λt=>match t with
  | .tuple (.int n::_)=>some (.int n)
  |_=>none
 |_=>none
def qSK(x:Option D)(k:List D->Option (List D)):Option D:=match x with
 |some (.list l)=>if l.length<64/\flats l=true then(k l).bind λks=>(dO ks).map λns=>.list (uK l ns)else none
 |_=>none
theorem Ui{fa:FE}:D_ fa fe ix δ=qSK (fa δ) (lG (gNl 0) D3.mK fe (n_ 1 ix δ)):=by
 unfold D_ qSK
 cases fa δ with
 |none=>rfl
 |some d=>cases d<;>rfl
theorem Lx{ks:List D}{k:List D->Option (List D)}(h1:l.length<64)(h2:flats l=true)(J:k l=some ks)(B:dO ks=some ns):qSK (some (.list l)) k=some (.list (uK l ns)):=by
 unfold qSK
 dsimp only
 rw[if_pos ⟨h1,h2⟩,J,aM,B]
 rfl
end XS
variable{c:Addr}
namespace XL
open PySem PySem.Spec PySem.W PyProof.Rows L2 My D3 XS
section
variable{X:Cx}{pins:List (Addr×Obj)}{σ:L2.St}{H:Hp}{s:Shared}{h':Heap}{P c':Addr}{q:Str}{lp:Pos}{tk:Nat}
theorem Uj(I:Inv X pins σ H s)(J:H P=some (.tbl q lp))(kp:∀b o,b≠P->s.heap.get? b=some o->h'.get? b=some o)(O:h'.get? P=some (tabObj (ent lp c')))
 (D:s.heap.get? P=some (tabObj (ent lp c'))\/(s.heap.get? P=some (tabObj #[])/\s.heap.objs.size<=c')) (B:h'.CodeRec (.ref c') q) :
 ∃H2,Inv X pins σ H2 {s with heap:=h',toks:=tk}/\Same H H2:=by
 rcases D with z|⟨z,Y⟩
 ·refine⟨H,I.kept λb o e=>?_,λ_ _ e=>e⟩
  by_cases Z:b=P
  ·subst Z
   rw[z]at e;cases e
   exact O
  ·exact kp b o Z e
 ·have hn:H c'=none:=I.hok.fresh Y
  have ne:∀{b u},H b=some u->b≠c':=λe=>jN e hn
  have V:∀{b},H b=none->b≠P:=λe y=>by rw[y,J]at e;cases e
  refine⟨upd H c' (.own P),?_,cY hn _⟩
  refine I.step (g':=s.gens) (d':=s.drawn) (ch:=[]) (λb Z=>by cases Z) (λb u _ _ _ e n=>kp b u (V n) e) (λb u _ _ _ e n=>⟨u.slots,kp b u (V n) e⟩) (λb u _ e n=>?_) (λb u _ e=>?_)
   (λb xs e=>by rw[cO (ne e)];exact e) (λb u v e=>by rw[cO (ne e)];exact e) (λb q p e=>by rw[cO (ne e)];exact e) (λm ⟨o,es,ep,e,r⟩=>⟨o,es,ep,kp _ o (V I.free) e,r⟩) (λb u e=>?_) I.bare
  ·rw[cO (aW (bY (af e) Y))];exact n
  ·by_cases Z:b=P
   ·exact⟨_,by rw[Z];exact O⟩
   ·exact⟨u,kp b u Z e⟩
  ·by_cases Z:b=c'
   ·subst Z
    rw[cU]at e
    cases e
    obtain⟨N,oc,vs,Q,R,e2,_⟩:=B
    cases R
    exact⟨_,e2⟩
   ·rw[cO Z]at e
    by_cases W:b=P
    ·subst W
     rw[J]at e;cases e
     exact⟨_,O,.inr ⟨c',rfl,cU,B⟩⟩
    ·refine(I.hok b u e).stay (λc w S y=>kp c w (λT=>?_) y) (λc y=>by rw[cO (ne y)];exact y) λc xs y=>by rw[cO (ne y)];exact y
     rcases S with rfl|U
     ·exact W T
     ·rw[T,J]at U;cases U
end
theorem B_:∀{ys:List V}{vs:List Value},Vals ys vs->∀i,RelV (ys.getD i .non) (vs.getD i .none)
 |_,_,.nil,i=>by simp;rfl
 |_,_,.cons r Z,0=>r
 |_,_,.cons r Z,i+1=>by simpa using B_ Z i
theorem Ca{J:DS}:∀{l ks:List D}{ns:List Int},lG (gNl 0) D3.mK fe J l=some ks->dO ks=some ns->Paired (λd n=>∃B,gNl 0 d J=some B/\fe B=some (.int n)) l ns
 |[],ks,ns,h1,h2=>by
  cases h1
  cases h2
  exact .nil
 |d::l,ks,ns,h1,h2=>by
  unfold lG at h1
  obtain⟨B,U,h1⟩:=bind1 h1
  obtain⟨b,e2,h1⟩:=bind1 h1
  cases e2
  rw[if_pos rfl]at h1
  obtain⟨x,V,h1⟩:=bind1 h1
  obtain⟨r,W,h1⟩:=bind1 h1
  cases h1
  cases x with
  |int n=>
   have Y:(dO r).bind (λm=>some (n::m))=some ns:=by
    cases Z:dO r with
    |none=>unfold dO at h2;rw[Z]at h2;cases h2
    |some m=>unfold dO at h2;rw[Z]at h2;cases h2;rfl
   obtain⟨m,Z,X⟩:=bind1 Y
   cases X
   exact .cons ⟨B,U,V⟩ (Ca W Z)
  |_=>unfold dO at h2;cases h2
theorem J0{ok:Ok}{S:D->Int->Prop}{R:Value->Int->Prop}(f:∀y d v n,RA K ok pl H y d->RelV y v->S d n->R v n):∀{ys:List V}{l:List D}{vs:List Value}{ns:List Int},RAs K ok pl H ys l->Vals ys vs->Paired S l ns->Paired R vs ns
 |_,_,_,_,.nil,.nil,.nil=>.nil
 |_,_,_,_,.cons a b,.cons c d,.cons e g=>.cons (f _ _ _ _ a c e) (J0 f b d g)
structure LamAt(X:Cx)(P:Addr)(q:Str)(lp:Pos):Prop where
 cd:∃c,X.env.code = .ref c/\codeHdIn X.K c P=true
 qn:X.env.qual++"<lambda>"=q
 tb:(P,q,lp)∈tabs
section
variable{X:Cx}{fl:List Fl}{e:Expr}{fa:FE}{p pos kpos lp p1 p2 p3 p4 p5:Pos}{x y q:Str}{P:Addr}{kd i k:Nat}{params:Arguments}{scope:Scope}
theorem X_{D B:DS}{n:Int}{u:Option U}(J:D=[none,u])(h1:gNl 0 d D=some B)(h2:dK0 B=some (.int n)):∃z ds r,d = .int z/\u=some (.d (.list ds))/\pAt ds z=some (.tuple (.int n::r)):=by
 subst J
 cases h1
 unfold dK0 at h2
 split at h2
 ·next z ds e=>
  cases e
  obtain⟨t,Z,e2⟩:=bind1 h2
  split at e2
  ·next m r=>cases e2;exact⟨z,ds,r,rfl,rfl,Z⟩
  ·cases e2
 ·cases h2
end
theorem Uk{K:Frag}{P:Addr}{q:Str}{lp:Pos}(J:K.In h)(B:h.get? P=some (tabObj #[]))(D:codeHdIn K c P=true)(hn:K.lookup P=none):
 (∀t∈[(P,q,lp)],h.get? t.1=some {cls:=.none,data:=.fields #[]})/\(∀t∈[(P,q,lp)],isCodeTable h t.1)/\∀t∈[(P,q,lp)],K.lookup t.1=none:=
 ⟨λt Z=>by rw[aN.mp Z];exact B,λt Z=>by rw[aN.mp Z];exact((codeHd_of_K J D).tab B).isCodeTable,λt Z=>by rw[aN.mp Z];exact hn⟩
theorem Qk{P:Addr}{q:Str}{lp:Pos}:∀t∈[(P,q,lp)],∀t'∈[(P,q,lp)],t.1=t'.1->t=t':=λt Y t' Z _=>(aN.mp Y).trans (aN.mp Z).symm
theorem Ql{scope:Scope}{y:Str}(hn:scope.names=[(y,.local),(x,.free)])(h:env.cells.lookup x=some c):closureFor scope env=pure [(x,c)]:=by
 unfold closureFor
 rw[hn]
 simp[cellOf,h]
section
variable{P:Program}{w:World}{K:PySem.W.Frag}{mg:Str->Option Value}{base:Heap}{x:Str}{ps N:List Str}{st:Stmt}{k n:Nat}{fs:FS}{fl:List Fl}{Pt:Addr}{q:Str}{lp:Pos}
structure DgT(K:PySem.W.Frag)(mg:Str->Option Value)(x:Str)(st:Stmt)(ps:List Str)(Pt:Addr)(q:Str)(lp:Pos):Prop where
 ex:∃(f:Addr)(fd:FuncData)(c:Addr),FunD K x st f fd/\Binds K fd ps []/\mg x=some (.ref f)/\fd.code = .ref c/\codeHdIn K c Pt=true
 tb:(Pt,q,lp)∈tabs
theorem Yb{kV:Value}{sl:Array (Option Value)}(X:K.In h)(G:h.Ns mainGlobals mg)
 (B:∀(kV doc pm:Value)(an:Option Addr)(cdv ct:Value)(us:List Value),us.length=ps.length->bindArgs (PySem.W.fnOf x x (pI st) (jz st) (bK st) .none kV doc pm an cdv ct) ⟨us,[]⟩=pure (ps.zip us))
 (a:PySem.W.nsIn K mainGlobals x=some (some (.ref f))) (l:K.lookup f=some ⟨oc,od,.func (PySem.W.fnOf x x (pI st) (jz st) (bK st) .none kV dc pm an (.ref c) ct),sl⟩) (D:PySem.W.codeIn K (.ref c) x=true) (k:PySem.W.keepIn K (.ref f)=true)
 (hd:codeHdIn K c Pt=true) (tb:(Pt,q,lp)∈tabs):DgT K mg x st ps Pt q lp:=
 ⟨⟨_,_,c,⟨⟨oc,od,.none,kV,dc,pm,an,.ref c,ct,sl,rfl,l,D⟩,k⟩,.all (B kV dc pm an (.ref c) ct),PySem.W.mg_of X G a,rfl,hd⟩,tb⟩
theorem okT(F:FunD K x st f fd)(D:fd.code = .ref c)(S:FnScope N ps (bK st))(len:∀vs H Q E,sp vs H Q E->vs.length=ps.length)
 (B:∀(A:Around)(outer:List Env)(s:Shared)(H:Hp)(vs:List V)(Q:VK)(E:XK),Room k (A.deeper (envOfC x (bK st) s.heap.objs.size f (.ref c)))->sp vs H Q E ->
  ∃t,PSs (Fe CX0 P w K mg base N x (bK st) f (.ref c) A outer s H E).nox (jz st) t/\t {nx:=λ_ H'=>Q .non H',rt:=Q} (L2.start N vs) H):FnOk P w K mg base CX0 (k+1) f fd ps sp:=by
 obtain⟨oc,od,dV,kV,doc,pm,an,cdv,ct,osl,rfl,lk,Z⟩:=F.ex
 have e:cdv = .ref c:=D
 subst e
 refine Vu lk Z S len λA outer s H vs Q E X Y=>?_
 obtain⟨t,h,q⟩:=B A outer s H vs Q E X Y
 exact⟨t,h.nox,q⟩
theorem Yc(O:DgT K mg x st ps Pt q lp)(S:FnScope N ps (bK st))(D:∀i,i<ps.length->fl[i]? = some .A)(J:ps.length<=N.length)
 (B:∀(f c:Addr)(A:Around)(outer:List Env)(s:Shared)(H:Hp)(E:XK),codeHdIn K c Pt=true->Room k (A.deeper (envOfC x (bK st) s.heap.objs.size f (.ref c)))->DSs (cx P w K mg base N x st f (.ref c) A outer s H E) fl (jz st) fs) :
 Has P w K mg base (k+1) x ps (spD K (fnD ps.length (N.length-ps.length) fs)):=by
 obtain⟨f,fd,c,W,b,m,X,Y⟩:=O.ex
 refine⟨f,fd,?_,b,W.kp,m⟩
 refine okT W X S (λvs H Q E h=>?_) (λA outer s H vs Q E U h=>?_)
 ·obtain⟨ds,d,r,Z,_⟩:=h
  unfold fnD at Z
  by_cases z:ds.length=ps.length
  ·rw[r.2.length];exact z
  ·rw[if_neg z]at Z;cases Z
 ·obtain⟨ds,d,r,Z,q⟩:=h
  refine⟨_,B f c A outer s H E Y U,?_⟩
  unfold fnD at Z
  by_cases z:ds.length=ps.length
  ·rw[if_pos z]at Z
   split at Z
   ·next T e=>
    cases Z
    exact⟨_,_,_,_,mX ps.length D z J r,e,λv H' s r=>q v H' s r⟩
   ·next δ' e=>
    cases Z
    exact⟨_,_,_,_,mX ps.length D z J r,e,λV σ' H' R'=>q .non H' R'.same0 .non⟩
   ·cases Z
  ·rw[if_neg z]at Z;cases Z
end
end XL
namespace XL
open PySem PySem.Spec PySem.W PyProof.Rows L2 My D3 XS
section
variable{prog:Program}{w:World}{A:Around}{E:Value->Shared->Prop}{s:Shared}{r fa L:Addr}{t u v:Tok}{n:Nat}{hi:Int}{h₀:Heap}{m:Str->Option Value}{ns:List Int}{news:List (Addr×Obj)}{Q:Value->Shared->Prop}
def Cd(vs:List Value):Prop:=∀(j:Nat)(x:Value),vs[j]? = some x->∃t,x = .int (j:Int) t
theorem Qm{R:List Value->Shared->Prop}(D:A.handled=none)(B:IsRange s.heap r 0 hi 1 t u v)(sm:Builtin.Range.small 0 hi 1=true)(hn:Builtin.Range.rangeSize 0 hi 1=n)(J:n<64)
 (h:∀h' tk vs,(∀b o,s.heap.get? b=some o->h'.get? b=some o)->vs.length=n->Cd vs->R vs {s with heap:=h',toks:=tk}):wpAny (model prog w) A (collect (.ref r)) R E s:=by
 unfold collect
 refine aa (wpAny_runValue (cK F.entry_proto_collect ?_))
 rw[br F.plain_proto_collect _]
 refine aa (m:=newList []) (aE (ae ⟨di F.plain_list_iadd _,cK F.entry_list_iadd ?_⟩))
 rw[br F.plain_list_iadd _]
 refine a6 (wpAny_extend_range (A:=A) (s:={s with heap:=s.heap.push (seqObj "list" #[] 0)}) (R:=λq s'=>q = .ok (.ret (.ref s.heap.objs.size))/\∃h' tk acc c,s'={s with heap:=h',toks:=tk}/\(∀b o,s.heap.get? b=some o->h'.get? b=some o)/\h'.get? s.heap.objs.size=some (seqObj "list" acc c)/\acc.toList.length=n/\Cd acc.toList)
  D (ad _ B) sm hn (by omega) s.heap.objs.size (.ref s.heap.objs.size) 0 (ag _ rfl) λh' tk acc c k1 k2 Z=>⟨rfl,h',tk,acc,c,rfl,λb o e=>k1 b o (aW (af e)) (ad _ e),k2,by rw[bD];exact Z.1,λj x X=>by
   obtain⟨t,rfl⟩:=Z.2 j x (by rw[<-cL];exact X)
   exact⟨t,by rw[jU,wV]⟩⟩) (λfin s' x=>?_) λe s' x=>by cases x.1
 cases fin with
 |done f=>
  obtain⟨e,h',tk,acc,c,rfl,k1,k2,Z,Y⟩:=x
  cases e
  exact aa (m:=load s.heap.objs.size) (wpAny_load k2 (ae (h h' tk _ k1 Z Y)))
 |again W=>
  refine⟨x.1,dP x.2 λq s2 y=>?_⟩
  obtain⟨rfl,h',tk,acc,c,rfl,k1,k2,Z,Y⟩:=y
  exact aa (m:=load s.heap.objs.size) (wpAny_load k2 (ae (h h' tk _ k1 Z Y)))
theorem Ul(hh:A.handled=none)(F:Fr h₀ L s.heap m)(N:News h₀ L s.heap news)(hr:IsRange s.heap r 0 hi 1 t u v)(sm:Builtin.Range.small 0 hi 1=true)(hn:Builtin.Range.rangeSize 0 hi 1=n)(h64:n<64)
 (hc:∀vs,vs.length=n->Cd vs->Paired (λv k=>JZ prog w A.in1.in1 news (.ref fa) v k) vs ns) (B:∀s:Shared,(∀p∈news,s.heap.get? p.1=some p.2)->s.heap.NoLimit)
 (h:∀D h' e tk vs,vs.length=n->Cd vs->Fr h₀ L h' m->News h₀ L h' ((D,seqObj "list" (jw (if n<=1 then vs else(ou n (ltK ns)).map λi=>vs.getD i Value.none)) e)::news)->(∀q∈news,q.1<D)->Q (.ref D) {s with heap:=h',toks:=tk}) :
 wpAny (model prog w) A (call (.builtin "sorted") [.ref r] [(Str.ofString "key", .ref fa)]) Q E s:=by
 refine call_function_entry_kw eg dE dL (Iu _ _) ?_
 unfold Builtin.«sorted»
 refine aa (m:=checkCount "sorted" 1 1 _) (ae ?_)
 refine aa (Qm (A:=A.in1) hh hr sm hn h64 λh1 tk vs k1 lv I=>?_)
 refine aa (bE ?_ (by rw[lv,c_];omega))
 have V:(h1.push (seqObj "list" vs.toArray 0)).get? h1.objs.size=some (seqObj "list" vs.toArray 0):=ag _ rfl
 have kp:∀b o,s.heap.get? b=some o->(h1.push (seqObj "list" vs.toArray 0)).get? b=some o:=λb o e=>ad _ (k1 b o e)
 have Y:∀q∈news,q.1<h1.objs.size:=λq hq=>af (k1 _ _ (N q hq).1)
 have l:L<h1.objs.size:=(F.kept k1).ns.lt
 have hA:=F.above
 have a:=F.kept kp
 have N1:=N.grown kp
 have X:=hc vs lv I
 have f:h₀.get? h1.objs.size=none:=eI (bF F.above (dW l))
 show wpAny _ _ _ _ _ {s with heap:=h1.push (seqObj "list" vs.toArray 0),toks:=tk}
 refine aa (ap (wpAny_call_entry_kw c9 ⟨_,V,rfl⟩ cE ?body (GF _ _)))
 case body=>
  rw[ksk_t1]
  by_cases h2:n<=1
  ·refine ksk_sort (kz:=ns) (b:=false) (s:={s with heap:=h1.push (seqObj "list" vs.toArray 0),toks:=tk}) a N1 V (lJ l) f (λp Z=>aW (Y p Z)) X.length.symm (by omega) (λi v k hv hk Z tk own T W=>?_) λh' tk out c T W ko=>⟨_,rfl,ae ⟨_,rfl,?_⟩⟩
   ·obtain⟨t,z⟩:=BZ X hv hk
    have P:∀p∈news,Z.get? p.1=some p.2:=λp q=>(W p (cB _ q)).1
    refine wpAny_call (z {s with heap:=Z,toks:=tk} _ P (B {s with heap:=Z,toks:=tk} P) λh2 K U=>?_)
    exact⟨h2,K,t,rfl,rfl,⟨T.ns.keeps U,λb o z=>U b o (T.keep b o z),T.above⟩,λp q=>⟨U _ _ (W p q).1,(W p q).2⟩⟩
   ·obtain⟨ps,Z,M,_⟩:=ko
    have e:out.toList=vs:=by
     cases X with
     |nil=>
      have Z:ps.Perm []:=Z
      rw[uH.mp Z]at M
      exact M
     |cons p q=>
      cases q with
      |nil=>
       have Z:ps.Perm [(_,_)]:=Z
       rw[List.perm_singleton.mp Z]at M
       exact M
      |cons _ _=>simp at lv;omega
    have e2:out=vs.toArray:=mR.mp (e.trans (by simp))
    rw[e2]at W
    exact h _ h' c tk vs lv I T (by rw[if_pos h2];exact W) Y
  ·refine kat_keyed (b:=false) (s:={s with heap:=h1.push (seqObj "list" vs.toArray 0),toks:=tk}) a N1 V (lJ l) f (λp Z=>aW (Y p Z)) (by omega) (by omega) λkS g h' T W S H=>?_
   have O:∀y∈(h1.objs.size,seqObj "list" #[] g)::news,y.1≠kS:=λy G=>by
    rcases aU.mp G with rfl|z
    ·exact aW S
    ·exact aW (H y z)
   have x:Paired (λv k=>JZ prog w A.in1.in1 ((h1.objs.size,seqObj "list" #[] g)::news) (.ref fa) v k) vs ns:=Paired.mapP X λv k ⟨t,z⟩=>⟨t,λs R q1 q2 q3=>z s R (λp Z=>q1 p (aK _ Z)) q2 q3⟩
   refine GD (kS:=kS) O (λs q=>B s λp Z=>q p (aK _ Z)) vs ns [] 0 _ x T W λks e s' d N2 g1 g2 g3 pk=>?_
   have lk:ks.length=vs.length:=pk.length.trans X.length.symm
   rw[dH]at N2 ⊢
   rw[ksk_kind (ints_of pk) (by rw[aX,lk];omega)]
   refine ae ?_
   refine Di (n:=vs.length) (lt:=ltK ns) (R:=good vs.length) (λi j C hi hj hC=>?_) _ (wJ (by omega)) ?_
   ·obtain⟨t1,q1⟩:=DY pk i (by rw[lk];exact hi)
    obtain⟨t2,q2⟩:=DY pk j (by rw[lk];exact hj)
    unfold kas_ask
    show wpAny _ _ (keyLt' oneType' (ks.getD i Value.none) (ks.getD j Value.none)) _ _ _
    rw[q1,q2]
    exact kat_lt_int hC
   ·obtain⟨Z,gn,dr,J,os⟩:=s'
    simp only at g1 g2 g3 d N2
    subst g1 g2 g3
    refine KatFin.intro d N2 (.head O) λh3 c3 F3 N3=>?_
    refine KasFin.intro F3 N3 (.tail (lJ S) (.head λy G=>aW (Y y G))) λh4 c4 F4 N4=>⟨_,rfl,ae ⟨_,rfl,?_⟩⟩
    exact h _ h4 c4 J vs lv I F4 (λp Z=>by
     rw[if_neg h2,<-lv]at Z
     exact N4 p (aK _ Z)) Y
end
section
variable{X:Cx}{fl:List Fl}{e:Expr}{fb:FA}{p pos kpos lp p1 p2 p3 p4 p5 pr posr:Pos}{x y q:Str}{P:Addr}{kd i k:Nat}{params:Arguments}{scope:Scope}
theorem Iv(hl:LamAt X P q lp)(hr:Room k X.A)(hcm:X.calm=true)(ha:DB X fl .P [e] fb)(hg:Gl X "sorted")(hm:X.mg "sorted"=none)(hg2:Gl X "range")(hm2:X.mg "range"=none)
 (hix:X.N[i]? = some x) (hfl:fl[i]? = some .A) (B:X.env.kindOf x=some .cell)
 (hdef:defaultsOf params X.env=([],[])) (hcl:∀c,X.env.cells.lookup x=some c->closureFor scope X.env=pure [(x,c)])
 (hbind:∀(cl:List (Str×Addr))(pm:Value)(c':Addr)(ctv u:Value),bindArgs (kla_fn "<lambda>" q params (Lw x y p1 p2 p3 p4 p5 kd) scope cl pm (.ref c') ctv) ⟨[u],[]⟩=pure [(y,u)])
 (hco:scope.isCoroutine=false) (hgen:scope.isGenerator=false) (hk:scope.kind = .function) (hcells:∀z∈scope.names,z.2 ≠ .cell) (hy:scope.names.lookup y=some .local) (hxf:scope.names.lookup x=some .free)
 (hxd:(x==("__debug__":Str))=false) (hyd:(y==("__debug__":Str))=false) (hxc:(x==("__classdict__":Str))=false)
 (he:backTo pos (starEach [Expr.Call (.Name "range" pr) [e] [] posr] X.env)=(false,eval (Expr.Call (.Name "range" pr) [e] [] posr) X.env)::backTo pos (starEach [] X.env)) (hpl:(backTo pos (starEach [Expr.Call (.Name "range" pr) [e] [] posr] X.env)).any (·.1)=false)
 (hs:starEach [e] X.env=(false,eval e X.env)::starEach [] X.env:=by exact oO rfl)
 : DE X fl .FC (.Call (.Name "sorted" p) [.Call (.Name "range" pr) [e] [] posr] [⟨some (Str.ofString "key"),.Lambda params (Lw x y p1 p2 p3 p4 p5 kd) scope lp,kpos⟩] pos) (D_ (dCall yV fb) dK0 [i]):=by
 have bs:bootBuiltins "sorted"=some (.builtin "sorted"):=by decide +kernel
 intro pins s σ H Q I hq
 obtain⟨G,ow,δ,d,R,hf,q0⟩:=hq
 obtain⟨xd,e1,T⟩:=bind1 hf
 obtain⟨ds0,e0,Y⟩:=bind1 e1
 unfold yV at Y
 split at Y
 case h_2=>cases Y
 next hi=>
 by_cases z:(-(2^62)<=hi/\hi<2^62)/\(hi-0).toNat<=1000000
 case neg=>rw[if_neg z]at Y;cases Y
 rw[if_pos z]at Y
 cases Y
 obtain⟨⟨z3,z4⟩,z5⟩:=z
 have el:gJ 0 hi=(lE 0 (hi-0).toNat).map λ(j:Nat)=>PyData.int (0+(j:Int)):=by
  unfold gJ
  rw[List.range_eq_range']
 have ll:(gJ 0 hi).length=(hi-0).toNat:=by rw[el,aq,uP]
 have ra0:∀a:Hp,RAs X.K ok1 true a ((lE 0 (hi-0).toNat).map λ(j:Nat)=>V.int (0+(j:Int))) (gJ 0 hi):=λa=>by rw[el];exact Ol 0 _ 0
 generalize gJ 0 hi=l at *
 dsimp only at T
 by_cases hc:l.length<64/\flats l=true
 case neg=>rw[if_neg hc]at T;cases T
 rw[if_pos hc]at T
 obtain⟨ks,e2,L⟩:=bind1 T
 cases e3:dO ks with
 |none=>rw[e3]at L;cases L
 |some ns=>
 rw[e3]at L
 cases L
 refine ax (lR I hg hm bs ?_)
 refine PyProof.Rows.callWith_kw ?_ he hpl rfl rfl
 rw[he]
 refine a8 ?_
 refine Call_ (lR I hg2 hm2 boot_range (PyProof.Rows.callWith_type1 (thn (ha posr pins s σ H (λvs H1=>Same H H1/\RAs X.K ok1 true H1 vs [.int hi]) I ⟨G,ow,δ,_,R,e0,λvs H' s' r'=>⟨s',r'⟩⟩) λus s0 ⟨vs,H1,I0,r1,sm1,ra⟩=>?_) hs rfl))
 cases ra with
 |cons ra1 ra2=>
 cases ra2
 obtain rfl:=ra1.intE
 cases r1 with
 |cons c1 c2=>
 cases c2
 obtain⟨t0,rfl⟩:=c1
 refine call_range_1 ?_
 refine bo ?_
 have hsz:Builtin.Range.rangeSize 0 hi 1=(((hi-0).toNat:Nat):Int):=by rw[rangeSize_one];split<;>omega
 have smr:Builtin.Range.small 0 hi 1=true:=small_one (by decide) (by decide) z3 z4
 obtain⟨ta,tb,tc,M⟩:∃ta tb tc,IsRange (s0.heap.push {cls:=.type "range", data:=.fields #[.int 0 s0.toks,.int hi t0,.int 1 (s0.toks+1)]}) s0.heap.objs.size 0 hi 1 ta tb tc:=⟨_,_,_,IsRange.new ..⟩
 generalize hra:s0.heap.objs.size=ra at *
 have U:L2.Inv X pins σ H1 {s0 with heap:=s0.heap.push {cls:=.type "range", data:=.fields #[.int 0 s0.toks,.int hi t0,.int 1 (s0.toks+1)]},toks:=s0.toks+2}:=I0.kept λb o e=>ad _ e
 show wpAny _ _ _ _ _ {s0 with heap:=s0.heap.push {cls:=.type "range", data:=.fields #[.int 0 s0.toks,.int hi t0,.int 1 (s0.toks+1)]},toks:=s0.toks+2}
 generalize es1:({s0 with heap:=s0.heap.push {cls:=.type "range", data:=.fields #[.int 0 s0.toks,.int hi t0,.int 1 (s0.toks+1)]},toks:=s0.toks+2}:Shared)=s1 at *
 have M:IsRange s1.heap ra 0 hi 1 ta tb tc:=by rw[<-es1];exact M
 have R1:=R.grow sm1
 have hT:H1 P=some (.tbl q lp):=R1.tb _ hl.tb
 obtain⟨c,hcx⟩:=U.ok.has x (.inl B)
 obtain⟨cc,hcode,hhd⟩:=hl.cd
 have KX:=U.kIn
 have hgl:s1.heap.Ns mainGlobals X.mg:=U.mod.glob.keeps U.bk
 have hgP:mainGlobals≠P:=λz=>by
  obtain⟨o,_,_,g1,_⟩:=U.mod.glob
  have:=(U.bs _ _ g1).2
  rw[z,hT]at this;cases this
 have hbm:s1.heap.BuiltinsAt X.mg P:=by
  obtain⟨bm,ob,g1,g2,g3,g4,g5,g6⟩:=U.mod.bm
  refine⟨bm,ob,g1,g2,λz=>?_,λz=>?_,U.bk _ _ g3,g4,g5,g6⟩
  ·obtain⟨o,_,_,k1,k2,_⟩:=U.mod.glob
   rw[z,k1]at g3;cases g3
   rw[k2]at g6;cases g6
  ·have:=(U.bs _ _ g3).2
   rw[z,hT]at this;cases this
 have hTT:∃ps,s1.heap.get? P=some (tabObj ps)/\(ps = #[]\/∃c',ps=ent lp c'/\s1.heap.CodeRec (.ref c') q):=by
  obtain⟨ps,g1,g2⟩:=U.hok P _ hT
  refine⟨ps,g1,?_⟩
  rcases g2 with g|⟨c',g,_,g3⟩
  ·exact .inl g
  ·exact .inr ⟨c',g,g3⟩
 show wpAny _ _ (evalAll [do let v <-eval (.Lambda params (Lw x y p1 p2 p3 p4 p5 kd) scope lp) X.env;standAt pos;pure v]) _ _ s1
 refine wpAny_evalAll_cons (aa ?_)
 refine Qj (mg:=X.mg) hl.qn hdef (hcl c hcx) U.ok.glob hgl hcode (codeHd_of_K KX hhd) hgP hbm hTT λf c' ctv h' tk kp hP' hor hfs hfo t=>aa (de (ae ?_))
 refine wpAny_evalAll_nil ?_
 show wpAny _ _ (PySem.call (.builtin "sorted") [.ref ra] [(Str.ofString "key", .ref f)]) _ _ _
 obtain⟨H2,F,sm2⟩:=Uj (tk:=tk) U hT kp hP' (hor.imp (λz=>z) λz=>⟨z.1,z.2.1⟩) t
 have R2:=R1.grow sm2
 have hrg2:IsRange h' ra 0 hi 1 ta tb tc:=by
  refine kp ra _ (λy=>?_) M
  obtain⟨ps,g1,_⟩:=hTT
  have Z:=M
  rw[y]at Z
  have Z:s1.heap.get? P=_:=Z
  rw[g1]at Z
  cases Z
 have rva:∀vs:List Value,vs.length=(hi-0).toNat->Cd vs->Vals ((lE 0 (hi-0).toNat).map λ(j:Nat)=>V.int (0+(j:Int))) vs:=λvs lv rv=>by
  have:=Jx (f:=λj:Nat=>V.int (0+(j:Int))) vs 0 λj v hj=>by
   obtain⟨tt,e⟩:=rv j v hj
   rw[fV]
   exact⟨tt,by rw[e,jU]⟩
  rw[lv]at this
  exact this
 obtain⟨m,hmm,hlk⟩:=id F.loc
 have notL:∀{b:Addr}{o:Obj},h'.get? b=some o->(∀es ep,o.data ≠ .dict es ep)->b≠X.env.locals:=λ{b o} g1 g2 z=>by
  obtain⟨o2,es,ep,k1,k2,_⟩:=hmm
  rw[<-z]at k1
  rw[show h'.get? b=some o2 from k1]at g1;cases g1
  exact g2 _ _ k2
 have mem:∀{b:Addr}{o:Obj},h'.get? b=some o->b≠X.env.locals->(b,o)∈oJ (Att.lW h') h' X.env.locals:=λg1 g2=>sJ g2 (Att.rG _ _) g1
 have hlim:∀s':Shared,(∀p∈oJ (Att.lW h') h' X.env.locals,s'.heap.get? p.1=some p.2)->s'.heap.NoLimit:=λs' hk'=>F.ok.mod.nolimit.keeps λb o g=>hk' (b,o) (mem (F.bk b o g) (aW (bY (af (F.ok.bs b o g).1) F.ok.above)))
 have calls:∀vs:List Value,vs.length=(hi-0).toNat->Cd vs->Paired (λv n=>JZ X.prog X.w X.A.in1.in1 (oJ (Att.lW h') h' X.env.locals) (.ref f) v n) vs ns:=λvs lv rv=>by
  refine J0 (S:=λd n=>∃δ1,gNl 0 d (n_ 1 [i] δ)=some δ1/\dK0 δ1=some (.int n)) (λy0 d v n r1 r2 ⟨δ1,g1,g2⟩=>?_) (ra0 H2) (rva vs lv rv) (Ca e2 e3)
  obtain⟨z,ds,r,rfl,g4,g5⟩:=X_ (u:=(δ[i]?).getD none) rfl g1 g2
  obtain rfl:=r1.intE
  obtain⟨t0,rfl⟩:=r2
  have g6:δ[i]? = some (some (.d (.list ds))):=by
   cases g7:δ[i]? with
   |none=>rw[g7]at g4;cases g4
   |some u=>rw[g7]at g4;exact congrArg some g4
  have own0:ow i=none:=by
   cases g7:ow i with
   |none=>rfl
   |some b=>
    obtain⟨_,g8,_⟩:=R2.own i b g7
    rw[hfl]at g8
    rcases g8 with⟨g8,_⟩|⟨g8,_⟩<;>cases g8
  obtain⟨v0,k1,k2⟩:=R2.dat i _ g6 (by rw[hfl];rfl) own0
  obtain⟨b,xs,rfl,k3,k4⟩:=k2.lstE
  obtain⟨v1,k5,k6⟩:=k4.at g5
  obtain⟨b2,ws,rfl,k7,k8⟩:=k6.tupE
  cases k8 with
  |cons k9 k10=>
  obtain rfl:=k9.intE
  obtain⟨it2,rv2,pl2,hz2⟩:=F.list k3
  obtain⟨it3,rv3,pl3,_⟩:=F.tuple k7
  obtain⟨j,j1,j2,j3,j4,j5⟩:=xV k5
  obtain⟨C,j6,j7⟩:=rv2.get j2
  cases j7
  cases rv3 with
  |cons r3 rv3=>
  obtain⟨t3,rfl⟩:=r3
  have l2:=rv2.length
  obtain⟨u,u1,u2⟩:=hlk i x _ hix k1 (.inr (.inl B))
  cases u1
  rcases u2 with⟨u3,_⟩|⟨_,cl,u4,u5⟩
  ·have:some NameKind.cell=some NameKind.local:=B.symm.trans u3
   cases this
  have:cl=c:=by rw[hcx]at u4;exact(dh.inj u4).symm
  subst this
  refine⟨t3,λs' R' hk' hlim' hR=>?_⟩
  have kk:∀{b:Addr}{o:Obj},h'.get? b=some o->(∀es ep,o.data ≠ .dict es ep)->s'.heap.get? b=some o:=λg1 g2=>hk' _ (mem g1 (notL g1 g2))
  have f1:s'.heap.get? f=some (kla_obj "<lambda>" q params (Lw x y p1 p2 p3 p4 p5 kd) scope [(x,cl)] ((X.mg "__name__").getD .none) c' ctv):=kk hfo (λ_ _ z=>by cases z)
  have f2:s'.heap.CodeRec (.ref c') q:=by
   obtain⟨c2,oc,vs2,tq,C,E,w3,w4⟩:=t
   exact⟨c2,oc,vs2,tq,C,kk E (λ_ _ z=>by rw[w3]at z;cases z),w3,w4⟩
  have f3:s'.heap.IsCell cl (some (.ref b)):=by
   obtain⟨o,C,E⟩:=u5
   exact⟨o,kk C (λ_ _ z=>by rw[E]at z;cases z),E⟩
  have f4:s'.heap.IsList b it2.toArray:=by
   obtain⟨o,C,E,w3,w4⟩:=pl2.isList
   exact⟨o,kk C (λ_ _ z=>by rw[w4]at z;cases z),E,w3,w4⟩
  have f5:∀{it5:Array Value},IsTup h' b2 it5->IsTup s'.heap b2 it5:=λ⟨o,C,E,w3,w4⟩=>⟨o,kk C (λ_ _ z=>by rw[w4]at z;cases z),E,w3,w4⟩
  exact Uh (i:=z) (j:=j) (its:=it2.toArray) f1 f2 (by have:=hr.dp;show X.A.depth<_;omega) hlim' (λu=>hbind _ _ _ _ u) hco hgen hk hcells hy hxf hxd hyd hxc f3 f4 (by rw[aX,<-l2];exact j4) (by rw[aX,<-l2];exact j5)
   (by rw[aX,<-l2];exact hz2) (by rw[aX,<-l2];exact j1) (by simpa using j6) (f5 pl3) (by simp) hR
 have fin:∀(D:Addr)(O:Heap)(ec W:Nat)(is:List V)(ds:List D3.D)(vo:List Value),Vals is vo->is.length<=sizeLine->(∀(a:Hp),RAs X.K ok0 false a is ds) ->
  uK l ns=ds->Fr (Att.lW h') X.env.locals O m->News (Att.lW h') X.env.locals O ((D,seqObj "list" (jw vo) ec)::oJ (Att.lW h') h' X.env.locals)->(∀z∈oJ (Att.lW h') h' X.env.locals,z.1<D) ->
  EP X pins σ Q (.ref D) {s1 with heap:=O,toks:=W}:=λD O ec W is ds vo v1 v2 v3 v4 F3 h lt=>by
  have kept3:∀b o,b≠X.env.locals->h'.get? b=some o->O.get? b=some o:=λb o hb g=>(h (b,o) (aK _ (mem g hb))).1
  have hD:h'.get? D=none:=by
   cases g:h'.get? D with
   |none=>rfl
   |some o=>
    by_cases z:D=X.env.locals
    ·exact absurd z (h _ (aJ ..)).2.1
    ·exact absurd (lt (D,o) (mem g z)) (eN _)
  have hn:H2 D=none:=by
   cases g:H2 D with
   |none=>rfl
   |some u=>
    obtain⟨w,hw⟩:=wK (F.hok D u g)
    rw[show h'.get? D=some w from hw]at hD;cases hD
  have new:gY X.prog X.w (upd H2 D (.lst is)) O D (.lst is):=⟨v2,vo,ec,v1,(h _ (aJ ..)).1⟩
  have J:=JF (s:={s1 with heap:=h',toks:=tk}) (h':=O) F hmm F3.ns kept3 hD new
  refine⟨.ref D,_,J.tok W,rfl,q0 _ _ ((sm1.trans sm2).trans (cY hn _)) (.inr ⟨D,is,ds,rfl,(by show PyData.list (uK l ns)=_;rw[v4]),(sm1.trans sm2).free hn,cU,?_⟩)⟩
  exact(v3 _).imp (λ_ z=>z.elim) (λz=>z)
 refine Ul (I.ok.hd hcm) (Att.Np hmm) E_ hrg2 smr hsz (by omega) calls hlim λD O ec W vs lv rv F3 h lt=>?_
 by_cases h1:(hi-0).toNat<=1
 ·rw[if_pos h1]at h
  exact fin D O ec W _ l vs (rva vs lv rv) (by rw[aq,uP];exact bF h1 (by decide)) (λa=>RAs.flat hc.2 (ra0 a)) (by unfold uK;rw[if_pos (by omega)]) F3 h lt
 ·rw[if_neg h1]at h
  have eo:uK l ns=(ou (hi-0).toNat (ltK ns)).map λi=>l.getD i .none:=by unfold uK;rw[if_neg (by omega),ll];rfl
  have pm:=jh (n:=(hi-0).toNat) (by omega) (ltK ns)
  refine fin D O ec W ((ou (hi-0).toNat (ltK ns)).map λi=>((lE 0 (hi-0).toNat).map λ(j:Nat)=>V.int (0+(j:Int))).getD i .non) _ _ ?_ ?_ ?_ eo F3 h lt
  ·have rvs:=rva vs lv rv
   generalize ou (hi-0).toNat (ltK ns)=is
   induction is with
   |nil=>exact .nil
   |cons i is ih=>exact .cons (B_ rvs i) ih
  ·rw[aq,pm.length_eq,bO]
   exact bF (dW (ll▸hc.1)) (by decide)
  ·intro a
   have r:=ra0 a
   generalize ou (hi-0).toNat (ltK ns)=is
   induction is with
   |nil=>exact .nil
   |cons i is ih=>exact .cons (RA.flat (zj hc.2 i) (Dp r i)) ih
end
end XL
namespace D3
open PySem PySem.Spec PyProof.Rows L2 My
section
variable{X:Cx}{fl:List Fl}{e a b:Expr}{es:List Expr}{f fa fb:FE}{fr:FA}{k:Kd}{pos:Pos}
theorem vA(i:Nat){x:Str}(B:fl[i]? = some .A:=by rfl)(O:X.N[i]? = some x:=by rfl)(J:Vis X.env.scope x:=by first|exact Or.inl rfl|exact Or.inr (Or.inl rfl)|exact Or.inr (Or.inr rfl))(hd:(x==("__debug__":Str))=false:=by decide)
 (D:(x==("__classdict__":Str))=false:=by decide):DE X fl .A (.Name x pos) (ao i):=CK i B O J hd D
theorem vP(i:Nat){x:Str}(B:fl[i]? = some .A:=by rfl)(O:X.N[i]? = some x:=by rfl)(J:Vis X.env.scope x:=by first|exact Or.inl rfl|exact Or.inr (Or.inl rfl)|exact Or.inr (Or.inr rfl))(hd:(x==("__debug__":Str))=false:=by decide)
 (D:(x==("__classdict__":Str))=false:=by decide):DE X fl .P (.Name x pos) (ao i):=fu (CK i B O J hd D)
theorem vB(i:Nat){x:Str}(D:fl[i]? = some .A:=by rfl)(W:X.N[i]? = some x:=by rfl)(O:Vis X.env.scope x:=by first|exact Or.inl rfl|exact Or.inr (Or.inl rfl)|exact Or.inr (Or.inr rfl))(hd:(x==("__debug__":Str))=false:=by decide)
 (J:(x==("__classdict__":Str))=false:=by decide):DE X fl (.B []) (.Name x pos) (ao i):=gC (CK i D W O hd J)
theorem iP{i j pos}:DE X fl .P (.Constant (.int i) j pos) (dC (.int i)):=bB CP
theorem iC{i j pos}:DE X fl .C (.Constant (.int i) j pos) (dC (.int i)):=jO CP
theorem dz:DB X fl k [] aZ:=Xe
theorem dq(h:DE X fl k e f)(B:DB X fl k es fr)(D:isR k=true:=by rfl)(hs:starEach (e::es) X.env=(false,eval e X.env)::starEach es X.env:=by exact oO rfl):DB X fl k (e::es) (au f fr):=Te D h B hs
theorem dx(ha:DE X fl (.B L) a fa)(D:DE X fl .P b fb)(hs:Cv b:=by exact λ_ _=>rfl):DE X fl .A (.Subscript a b pos) (dOp gIx fa fb):=ZK ha D hs
theorem sA(O:X.N.Nodup)(h:DE X fl .A e f)(D:fl[i]? = some .A:=by rfl)(hi:X.N[i]? = some x:=by rfl)(J:X.env.scope.names.lookup x=some .local\/X.env.scope.names.lookup x=some .cell:=by first|exact Or.inl rfl|exact Or.inr rfl)
 (hs:swapsWith e (some (.Name x pos')) pos.line X.env=pure false:=by rfl) (B:X.fn x=true\/X.env.scope.names.lookup x=some .local:=by first|exact .inl rfl|exact .inr rfl) :
 DS1 X fl (.Assign [.Name x pos'] e pos) (bU i f):=Tc D O hi J h hs B
theorem gN'(O:X.N.Nodup)(D:fl[i]? = some .A:=by rfl)(hi:X.N[i]? = some x:=by rfl)(J:X.env.scope.names.lookup x=some .local\/X.env.scope.names.lookup x=some .cell:=by first|exact Or.inl rfl|exact Or.inr rfl)
 (B:X.fn x=true\/X.env.scope.names.lookup x=some .local:=by first|exact .inl rfl|exact .inr rfl):DG X fl [i] (.Name x pos) (gNl i):=Td D O hi J B
end
theorem fsc{P:List Str}{sc:Scope}(a:sc.kind = .function:=by rfl)(b:sc.isCoroutine=false:=by rfl)(c:sc.isGenerator=false:=by rfl)(d:N.Nodup:=by decide +kernel)(e:N.take P.length=P:=by rfl)(f:∀x∈P,sc.names.lookup x=some .local\/sc.names.lookup x=some .cell:=by decide +kernel)(g:∀y∈sc.names,y.2 ≠ .free:=by decide +kernel):FnScope N P sc:=⟨a,b,c,d,e,f,g⟩
end D3
namespace D3
open PySem
def qS(o:Option Oc)(b:FS):Option Oc:=match o with
 |some (.nx δ)=>b δ
 |some o=>some o
 |none=>none
def qI(o:Option Bool)(a b:FS)(δ:DS):Option Oc:=match o with
 |some true=>a δ
 |some false=>b δ
 |none=>none
noncomputable def qO(g:D->D->Option D)(a b:Option D):Option D:=match a,b with
 |some x,some y=>g x y
 |_,_=>none
def qU(g:D->Option D)(a:Option D):Option D:=match a with
 |some x=>g x
 |none=>none
def qC(a:Option D)(r:Option (List D)):Option (List D):=match a,r with
 |some x,some l=>some (x::l)
 |_,_=>none
def qF(F:List D->Option D)(l:Option (List D)):Option D:=match l with
 |some l=>F l
 |none=>none
def qR(a:Option D):Option Oc:=match a with
 |some d=>some (.rt d)
 |none=>none
noncomputable def Yd(i:Nat)(a:Option D)(δ:DS):Option Oc:=match a with
 |some d=>if i<δ.length then some (.nx (δ.set i (some (.d d))))else none
 |none=>none
def Ly(a:Option D)(fb:FE)(δ:DS):Option D:=match a with
 |some (.bool true)=>fb δ
 |some (.bool false)=>some (.bool false)
 |_=>none
def qOr(a:Option D)(fb:FE)(δ:DS):Option D:=match a with
 |some (.bool true)=>some (.bool true)
 |some (.bool false)=>fb δ
 |_=>none
def qN(a:Option D):Option D:=match a with
 |some (.bool b)=>some (.bool (!b))
 |_=>none
def qB(a:Option D):Option Bool:=match a with
 |some (.bool b)=>some b
 |_=>none
def qTA(a:Option Bool)(b:FT)(δ:DS):Option Bool:=match a with
 |some true=>b δ
 |some false=>some false
 |none=>none
def qTO(a:Option Bool)(b:FT)(δ:DS):Option Bool:=match a with
 |some true=>some true
 |some false=>b δ
 |none=>none
def qTN(a:Option Bool):Option Bool:=match a with
 |some b=>some (!b)
 |none=>none
def qE(a:Option Bool)(fa fb:FE)(δ:DS):Option D:=match a with
 |some true=>fa δ
 |some false=>fb δ
 |none=>none
def qL(a:Option D):Option (List D):=match a with
 |some (.list l)=>some l
 |_=>none
def Ye(a:Option (List D))(g:FG)(b:FS)(δ:DS):Option Oc:=match a with
 |some l=>iT g b l δ
 |none=>none
def qD(a:Option DS):Option Oc:=match a with
 |some δ=>some (.nx δ)
 |none=>none
def qG(a:Option D)(g:FG)(δ:DS):Option DS:=match a with
 |some d=>g d δ
 |none=>none
def qGs(a:Option DS)(r:List D->DS->Option DS)(l:List D):Option DS:=match a with
 |some δ=>r l δ
 |none=>none
def qT(a:Option (List D)):Option D:=match a with
 |some l=>if l.length<=sizeLine then some (.tuple l)else none
 |none=>none
def qK(a:Option (List D)):Option D:=match a with
 |some l=>if l.length<=sizeLine then some (.list l)else none
 |none=>none
def qFl(p:D->Bool)(a:Option D):Option D:=match a with
 |some d=>if p d=true then some d else none
 |none=>none
noncomputable def qA(i:Nat)(x a:Option D)(δ:DS):Option Oc:=match x,a with
 |some (.list l),some d=>if l.length<1000000 then some (.nx (δ.set i (some (.d (.list (l++[d]))))))else none
 |_,_=>none
def qP(i:Nat)(a x k:Option D)(δ:DS):Option Oc:=match a,x,k with
 |some d,some (.list l),some (.int j)=>(pIx l.length j).bind λn=>some (.nx (δ.set i (some (.d (.list (l.set n d))))))
 |_,_,_=>none
def qCh(g':D->D->Option D)(z:Option D)(y:Option D)(fc:FE)(δ:DS):Option D:=match z with
 |some (.bool true)=>qO g' y (fc δ)
 |some (.bool false)=>some (.bool false)
 |_=>none
def qFn(o:Option Oc):Option D:=match o with
 |some (.rt d)=>some d
 |some (.nx _)=>some .none
 |_=>none
def qCo(a:Option (List D))(g:FG)(c:FT)(e:FE)(t:Nat)(ix:List Nat)(δ:DS):Option D:=match a with
 |some l=>if l.length<=100000 then(match lG g c e (n_ t ix δ) l with|some r=>some (.list r)|none=>none)else none
 |none=>none
section
variable{a b:FS}{c c':FT}{fa fb fc:FE}{fr:FA}{δ:DS}{g:D->D->Option D}{h:D->Option D}{F:List D->Option D}{i:Nat}{G:FG}{d:D}
theorem Z6:bW a b δ=qS (a δ) b:=by
 unfold bW qS
 cases a δ with
 |none=>rfl
 |some o=>cases o<;>rfl
theorem Qn:qS (some (.nx δ')) b=b δ':=rfl
theorem Qo:qS (some (.rt d)) b=some (.rt d):=rfl
theorem Qq:qS (some (.bk δ')) b=some (.bk δ'):=rfl
theorem Qs:qS (some (.ct δ')) b=some (.ct δ'):=rfl
theorem Z7:dJ δ=some (.nx δ):=rfl
theorem ah4:sBk δ=some (.bk δ):=rfl
theorem ah5:sCt δ=some (.ct δ):=rfl
theorem ah6:sIf c a b δ=qI (c δ) a b δ:=by
 unfold sIf qI
 cases c δ with
 |none=>rfl
 |some t=>cases t<;>rfl
theorem Yg:qI (some true) a b δ=a δ:=rfl
theorem Yh:qI (some false) a b δ=b δ:=rfl
theorem v_op:dOp g fa fb δ=qO g (fa δ) (fb δ):=by
 unfold dOp qO
 cases fa δ<;>cases fb δ<;>rfl
theorem Yi{x:D}:qO g (some x) (some y)=g x y:=rfl
theorem ah7:dUn h fa δ=qU h (fa δ):=by
 unfold dUn qU
 cases fa δ<;>rfl
theorem Yj{x:D}:qU h (some x)=h x:=rfl
theorem Yk:aZ δ=some []:=rfl
theorem Um:au fa fr δ=qC (fa δ) (fr δ):=by
 unfold au qC
 cases fa δ<;>cases fr δ<;>rfl
theorem Lz{x:D}:qC (some x) (some l)=some (x::l):=rfl
theorem Yl:dCall F fr δ=qF F (fr δ):=by
 unfold dCall qF
 cases fr δ<;>rfl
theorem Qt:qF F (some l)=F l:=rfl
theorem Z8:dF fa δ=qR (fa δ):=by
 unfold dF qR
 cases fa δ<;>rfl
theorem Uo:qR (some d)=some (.rt d):=rfl
theorem Ym:ZC δ=some (.rt .none):=rfl
theorem Z9:bU i fa δ=Yd i (fa δ) δ:=by
 unfold bU Zz Yd
 cases fa δ with
 |none=>simp
 |some d=>rfl
theorem Uq:Yd i (some d) δ=if i<δ.length then some (.nx (δ.set i (some (.d d))))else none:=rfl
theorem v_c:dC d δ=some d:=rfl
theorem v_and:Ai fa fb δ=Ly (fa δ) fb δ:=by
 unfold Ai Ly
 cases fa δ with
 |none=>rfl
 |some x=>
  cases x<;>try rfl
  next b=>cases b<;>rfl
theorem Ur:Ly (some (.bool true)) fb δ=fb δ:=rfl
theorem Us:Ly (some (.bool false)) fb δ=some (.bool false):=rfl
theorem v_or:dOr fa fb δ=qOr (fa δ) fb δ:=by
 unfold dOr qOr
 cases fa δ with
 |none=>rfl
 |some x=>
  cases x<;>try rfl
  next b=>cases b<;>rfl
theorem Yn:qOr (some (.bool true)) fb δ=some (.bool true):=rfl
theorem Yo:qOr (some (.bool false)) fb δ=fb δ:=rfl
theorem v_not:Ny fa δ=qN (fa δ):=by
 unfold Ny qN
 cases fa δ with
 |none=>rfl
 |some x=>cases x<;>rfl
theorem Ut{b:Bool}:qN (some (.bool b))=some (.bool (!b)):=rfl
theorem ah8:bN fa δ=qB (fa δ):=by
 unfold bN qB
 cases fa δ with
 |none=>rfl
 |some x=>cases x<;>rfl
theorem Yp{b:Bool}:qB (some (.bool b))=some b:=rfl
theorem Yq:D3.Cr c c' δ=qTA (c δ) c' δ:=by
 unfold D3.Cr qTA
 cases c δ with
 |none=>rfl
 |some t=>cases t<;>rfl
theorem Qu:qTA (some true) c δ=c δ:=rfl
theorem Qw:qTA (some false) c δ=some false:=rfl
theorem Z_:D3.tOr c c' δ=qTO (c δ) c' δ:=by
 unfold D3.tOr qTO
 cases c δ with
 |none=>rfl
 |some t=>cases t<;>rfl
theorem Uu:qTO (some true) c δ=some true:=rfl
theorem Uv:qTO (some false) c δ=c δ:=rfl
theorem Yr:D3.jl c δ=qTN (c δ):=by
 unfold D3.jl qTN
 cases c δ<;>rfl
theorem Qx{b:Bool}:qTN (some b)=some (!b):=rfl
theorem v_ite:dIf c fa fb δ=qE (c δ) fa fb δ:=by
 unfold dIf qE
 cases c δ with
 |none=>rfl
 |some t=>cases t<;>rfl
theorem Uw:qE (some true) fa fb δ=fa δ:=rfl
theorem Ux:qE (some false) fa fb δ=fb δ:=rfl
theorem aa0:rK fa δ=qL (fa δ):=by
 unfold rK qL asList
 cases fa δ with
 |none=>rfl
 |some x=>cases x<;>rfl
theorem Uy:qL (some (.list l))=some l:=rfl
theorem aa1:mV fr G b δ=Ye (fr δ) G b δ:=by
 unfold mV Ye
 cases fr δ<;>rfl
theorem Uz:Ye (some l) G b δ=iT G b l δ:=rfl
theorem LC:iT G b [] δ=some (.nx δ):=rfl
theorem aa2:Cz fa G δ=qD (qG (fa δ) G δ):=by
 unfold Cz qG qD
 cases fa δ with
 |none=>rfl
 |some d=>
  dsimp only[aM]
  cases G d δ<;>rfl
theorem UG:qG (some d) G δ=G d δ:=rfl
theorem UJ:qD (some δ')=some (.nx δ'):=rfl
theorem ah9:gNl i d δ=if i<δ.length then some (δ.set i (some (.d d)))else none:=rfl
theorem ai0{gs:List D->DS->Option DS}:gTn n gs (.tuple l) δ=if l.length=n then gs l δ else none:=rfl
theorem aa3:jE [] δ=some δ:=rfl
theorem aa4{gs:List D->DS->Option DS}:cF G gs (d::l) δ=qGs (G d δ) gs l:=by
 show(G d δ).bind (λδ'=>gs l δ')=qGs (G d δ) gs l
 cases G d δ<;>rfl
theorem UL{gs:List D->DS->Option DS}:qGs (some δ') gs l=gs l δ':=rfl
theorem aa5:dTup fr δ=qT (fr δ):=by
 unfold dTup qT
 cases fr δ<;>rfl
theorem UW:qT (some l)=if l.length<=sizeLine then some (.tuple l)else none:=rfl
theorem ai1:iY fr δ=qK (fr δ):=by
 unfold iY qK
 cases fr δ<;>rfl
theorem Ys:qK (some l)=if l.length<=sizeLine then some (.list l)else none:=rfl
theorem Yt:iy fa δ=qFl flat (fa δ):=by
 unfold iy qFl
 cases fa δ<;>rfl
theorem aa6:HJ fa δ=qFl fl1 (fa δ):=by
 unfold HJ qFl
 cases fa δ<;>rfl
theorem Yu{p:D->Bool}:qFl p (some d)=if p d=true then some d else none:=rfl
theorem aa7:vC i fa δ=qA i (ao i δ) (fa δ) δ:=by
 unfold vC qA
 cases ao i δ with
 |none=>rfl
 |some x=>
  cases fa δ with
  |none=>cases x<;>rfl
  |some d=>cases x<;>rfl
theorem U0:qA i (some (.list l)) (some d) δ=if l.length<1000000 then some (.nx (δ.set i (some (.d (.list (l++[d]))))))else none:=rfl
theorem aa8:CG i fk fa δ=qP i (fa δ) (ao i δ) (fk δ) δ:=by
 unfold CG qP
 cases fa δ with
 |none=>rfl
 |some d=>
  cases ao i δ with
  |none=>rfl
  |some x=>
   cases fk δ with
   |none=>cases x<;>rfl
   |some k=>cases x<;>cases k<;>rfl
theorem U3{j:Int}:qP i (some d) (some (.list l)) (some (.int j)) δ=(pIx l.length j).bind λn=>some (.nx (δ.set i (some (.d (.list (l.set n d)))))):=rfl
theorem U4:lX g g' fa fb fc δ=qCh g' (qO g (fa δ) (fb δ)) (fb δ) fc δ:=by
 unfold lX qCh qO
 cases fa δ with
 |none=>rfl
 |some x=>
  cases fb δ with
  |none=>rfl
  |some y=>
   dsimp only[aM]
   cases g x y with
   |none=>rfl
   |some z=>
    cases z<;>try rfl
    next b=>
    cases b with
    |false=>rfl
    |true=>dsimp only[aM];cases fc δ<;>rfl
theorem LK{y:Option D}:qCh g' (some (.bool true)) y fc δ=qO g' y (fc δ):=rfl
theorem LR{y:Option D}:qCh g' (some (.bool false)) y fc δ=some (.bool false):=rfl
theorem aa9{p q:Nat}:fnD p q b ds=if ds.length=p then qFn (b (ds.map (λd=>some (.d d))++aQ q none))else none:=by
 unfold fnD qFn
 rfl
theorem U5:qFn (some (.rt d))=some d:=rfl
theorem U6:qFn (some (.nx δ'))=some .none:=rfl
theorem Yv{t:Nat}:jF fr G c fa t ix δ=qCo (fr δ) G c fa t ix δ:=by
 unfold jF qCo
 cases fr δ with
 |none=>rfl
 |some l=>
  dsimp only[aM]
  by_cases z:l.length<=100000
  ·rw[if_pos z,if_pos z]
   cases lG G c fa (n_ t ix δ) l<;>rfl
  ·rw[if_neg z,if_neg z]
theorem Qy{t:Nat}:qCo (some l) G c fa t ix δ=if l.length<=100000 then(match lG G c fa (n_ t ix δ) l with|some r=>some (.list r)|none=>none)else none:=rfl
theorem ab0:D3.mK δ=some true:=rfl
theorem Yw{r:DS}{x:D}:ao 0 (some (.d x)::r)=some x:=rfl
theorem Yx{r:DS}{y:Option U}:ao (i+1) (y::r)=ao i r:=rfl
end
section
variable{i j:Int}{l m:List D}{d:D}
theorem ab1:eF (.int i) (.int j)=some (.int (i+j)):=rfl
theorem ab2:uz (.int i) (.int j)=some (.int (i-j)):=rfl
theorem ai2:gLt (.int i) (.int j)=some (.bool (decide (i<j))):=rfl
theorem ai3:gLe (.int i) (.int j)=some (.bool (decide (i<=j))):=rfl
theorem ai4:gGt (.int i) (.int j)=some (.bool (decide (j<i))):=rfl
theorem ai5:gGe (.int i) (.int j)=some (.bool (decide (j<=i))):=rfl
theorem ab3:gEq (.int i) (.int j)=some (.bool (decide (i=j))):=rfl
theorem ab4:gNe (.int i) (.int j)=some (.bool (!decide (i=j))):=rfl
theorem ab5:iZ [.list l]=some (.int l.length):=rfl
theorem Yy:iZ [.tuple l]=some (.int l.length):=rfl
theorem uo:∀ns:List Int,dO (ns.map .int)=some ns
 |[]=>rfl
 |n::r=>by rw[aP,dO,uo r];rfl
theorem ab6:ag6 [.int i]=some (.int (if i<0 then -i else i)):=rfl
theorem Qz:yO [.int i,.int j]=some (.int (if j>i then j else i)):=rfl
theorem ab7:Fw [.int i,.int j]=some (.int (if j<i then j else i)):=rfl
theorem ab8:SN (.int i)=some (.int (-i)):=rfl
theorem ai6:gIx (.list l) (.int i)=pAt l i:=rfl
theorem ab9:gIx (.tuple l) (.int i)=pAt l i:=rfl
theorem J1:kj (.list l) (.list m)=if l.length+m.length<=1000000 then some (.list (l++m))else none:=rfl
theorem Yz:wY (.list l)=some (.list l):=rfl
theorem U7:wY (.tuple l)=some (.list l):=rfl
theorem ac0:pAt (d::l) 0=some d:=by
 unfold pAt pIx
 rw[if_pos (by decide),if_pos (by simp)]
 rfl
end
noncomputable def YB(i j:Nat)(a:Option (List D))(δ:DS):Option Oc:=match a with
 |some l=>match l with
  |[x,y]=>if i<δ.length/\j<δ.length then some (.nx ((δ.set i (some (.d x))).set j (some (.d y))))else none
  |_=>none
 |none=>none
def uL(a:Option (List D)):Option (List D):=match a with
 |some l=>match l with
  |[.int j]=>if yM j=true then some (gJ 0 j)else none
  |_=>none
 |none=>none
def VP(a:Option (List D)):Option (List D):=match a with
 |some l=>match l with
  |[.int i,.int j]=>if(yM i&&yM j)=true then some (gJ i j)else none
  |_=>none
 |none=>none
def qSl(x:Option D)(a b:Option (Option Int)):Option D:=match x,a,b with
 |some (.list l),some a,some b=>some (.list (cutD l a b))
 |_,_,_=>none
def qOP(x:Option D):Option (Option Int):=match x with
 |some (.int i)=>some (some i)
 |_=>none
def qEn(x:Option D):Option (List D):=match x with
 |some (.list l)=>some (qw l)
 |_=>none
section
variable{a b:FS}{fa:FE}{fr:FA}{δ:DS}{i j:Nat}{g:FG}
theorem ac1:ZF i j fr δ=YB i j (fr δ) δ:=by
 unfold ZF YB
 cases fr δ with
 |none=>rfl
 |some l=>rfl
theorem U8{x:D}:YB i j (some [x,y]) δ=if i<δ.length/\j<δ.length then some (.nx ((δ.set i (some (.d x))).set j (some (.d y))))else none:=rfl
theorem YC:mO fr δ=uL (fr δ):=by
 unfold mO uL
 cases fr δ with
 |none=>rfl
 |some l=>rfl
theorem GJ{k:Int}(h : -(2^62)<=k)(h2:k<2^62):uL (some [.int k])=some (gJ 0 k):=by
 show(if yM k=true then some (gJ 0 k)else none)=_
 rw[if_pos]
 unfold yM
 rw[dTr h,dTr h2]
 rfl
theorem YD:Vv fr δ=VP (fr δ):=by
 unfold Vv VP
 cases fr δ with
 |none=>rfl
 |some l=>rfl
theorem ai7{lo hi:FO}:dSl fa lo hi δ=qSl (fa δ) (lo δ) (hi δ):=by
 unfold dSl qSl
 cases fa δ with
 |none=>rfl
 |some x=>
  dsimp only[aM]
  cases lo δ with
  |none=>cases x<;>rfl
  |some p=>
   dsimp only[aM]
   cases hi δ with
   |none=>cases x<;>rfl
   |some r=>cases x<;>rfl
theorem YF{p r:Option Int}:qSl (some (.list l)) (some p) (some r)=some (.list (cutD l p r)):=rfl
theorem ai8:kJ δ=some none:=rfl
theorem ai9:d8 fa δ=qOP (fa δ):=by
 unfold d8 qOP
 cases fa δ with
 |none=>rfl
 |some x=>cases x<;>rfl
theorem YG{k:Int}:qOP (some (.int k))=some (some k):=rfl
theorem YH:Jp fa δ=qEn (fa δ):=by
 unfold Jp qEn
 cases fa δ with
 |none=>rfl
 |some x=>cases x<;>rfl
theorem QB:qEn (some (.list l))=some (qw l):=rfl
theorem uq(Inv:Nat->DS->Prop):∀(l:List D)(δ:DS),Inv 0 δ->(∀i d δ,l[i]? = some d->Inv i δ->∃B δ',g d δ=some B/\(b B=some (.nx δ')\/b B=some (.ct δ'))/\Inv (i+1) δ')->∃δ',iT g b l δ=some (.nx δ')/\Inv l.length δ':=by
 have X:∀(l:List D)(k:Nat)(δ:DS),Inv k δ->(∀i d δ,l[i]? = some d->Inv (k+i) δ->∃B δ',g d δ=some B/\(b B=some (.nx δ')\/b B=some (.ct δ'))/\Inv (k+i+1) δ')->∃δ',iT g b l δ=some (.nx δ')/\Inv (k+l.length) δ':=by
  intro l
  induction l with
  |nil=>exact λk δ h _=>⟨δ,rfl,h⟩
  |cons d r V=>
   intro k δ h hs
   obtain⟨B,δ',S,e2,T⟩:=hs 0 d δ rfl h
   obtain⟨Y,W,U⟩:=V (k+1) δ' T λi R Z hd hi=>by
    have:=hs (i+1) R Z (by simpa using hd) (by rw[show k+(i+1)=k+1+i by omega];exact hi)
    rw[show k+(i+1)+1=k+1+i+1 by omega]at this
    exact this
   refine⟨Y,?_,by rw[bC,show k+(r.length+1)=k+1+r.length by omega];exact U⟩
   rw[iT,S,aM]
   rcases e2 with e2|e2
   ·rw[e2];exact W
   ·rw[e2];exact W
 intro l δ h hs
 have:=X l 0 δ h λi d δ hd hi=>by
  have:=hs i d δ hd (by rw[fV]at hi;exact hi)
  rw[fV]
  exact this
 rw[fV]at this
 exact this
end
def qX(a:Option D)(δ:DS):Option Oc:=match a with
 |some _=>some (.nx δ)
 |none=>none
theorem YJ{fa:FE}:Jo fa δ=qX (fa δ) δ:=by
 unfold Jo qX
 cases fa δ<;>rfl
theorem QC:qX (some d) δ=some (.nx δ):=rfl
theorem QD{g B:D->D->Option D}{fa fb fc fd:FE}:xX g g' B fa fb fc fd δ=Ly (qO g (fa δ) (fb δ)) (lX g' B fb fc fd) δ:=by
 unfold xX Ly lX qO
 cases fa δ with
 |none=>rfl
 |some x=>
  cases fb δ with
  |none=>rfl
  |some y=>
   dsimp only[aM]
   cases g x y with
   |none=>rfl
   |some z=>
    cases z<;>try rfl
    next b=>cases b<;>rfl
def qZ(a b:Option D):Option (List D):=match a,b with
 |some (.list l),some (.list m)=>some (lY l m)
 |_,_=>none
theorem ac2{f g:FE}:SX f g δ=qZ (f δ) (g δ):=by
 unfold SX qZ
 cases f δ with
 |none=>rfl
 |some x=>
  cases g δ with
  |none=>cases x<;>rfl
  |some y=>cases x<;>cases y<;>rfl
theorem U9{m:List D}:qZ (some (.list l)) (some (.list m))=some (lY l m):=rfl
theorem aj0{fa:FE}:dN1 fa δ=qFl (λd=>decide (nl d<=1)) (fa δ):=by
 unfold dN1 qFl
 cases fa δ<;>rfl
theorem ac3:flat .none=true:=rfl
theorem aj1{b:Bool}:flat (.bool b)=true:=rfl
theorem f_int{i:Int}:flat (.int i)=true:=rfl
theorem ac4:flat (.str x)=true:=rfl
theorem ac5:flat (.list l)=false:=rfl
theorem f_tup:flat (.tuple l)=flats l:=rfl
theorem ac6:flats []=true:=rfl
theorem YK:flats (d::l)=(flat d&&flats l):=rfl
theorem YL:fl1 .none=true:=rfl
theorem ac7{b:Bool}:fl1 (.bool b)=true:=rfl
theorem YM{i:Int}:fl1 (.int i)=true:=rfl
theorem YQ:fl1 (.str x)=true:=rfl
theorem YS:fl1 (.list l)=flats l:=rfl
theorem YT:fl1 (.tuple l)=flats l:=rfl
theorem aj2{c:String}:gIs c d=some (.bool (isT c (tyD d))):=rfl
theorem ac8:Fv d=some (.bool (isNone d)):=rfl
theorem YW:ZD d=some (.bool (!isNone d)):=rfl
theorem ac9:isNone .none=true:=rfl
theorem aj3{b:Bool}:isNone (.bool b)=false:=rfl
theorem ad0{i:Int}:isNone (.int i)=false:=rfl
theorem ad1:isNone (.str x)=false:=rfl
theorem ad2:isNone (.list l)=false:=rfl
theorem ad3:isNone (.tuple l)=false:=rfl
theorem ad4{l:List (D×D)}:isNone (.dict l)=false:=rfl
noncomputable def EVL:=And.intro @ac3 <| And.intro @aj1 <| And.intro @f_int <| And.intro @ac4 <| And.intro @ac5 <| And.intro @f_tup <| And.intro @ac6 <| And.intro @YK <| And.intro @YL <| And.intro @ac7 <| And.intro @YM <| And.intro @YQ <| And.intro @YS <| And.intro @YT <| And.intro @aj2 <| And.intro @ac8 <| And.intro @YW <| And.intro @ac9 <| And.intro @aj3 <| And.intro @ad0 <| And.intro @ad1 <| And.intro @ad2 <| And.intro @ad3 <| And.intro @ad4 <| And.intro @bC.{0} <| And.intro @jD.{0} <| And.intro @aP.{0,0} <| And.intro @iJ.{0,0} <| And.intro @cD.{0} <| And.intro @List.replicate_zero.{0} <| And.intro @List.cons_append.{0} <| And.intro @dH.{0} <| And.intro @cW.{0} <| And.intro @List.set_cons_zero.{0} <| And.intro @List.set_cons_succ.{0} <| And.intro @fV <| And.intro @if_true.{1} <| And.intro @decide_true <| And.intro @decide_false <| And.intro @Int.cast_ofNat_Int <| And.intro @cT <| And.intro @lO <| @Bool.and_self
def EV:=And.intro EVL <| And.intro @aj0 <| And.intro @ac2 <| And.intro @U9 <| And.intro @YJ <| And.intro @QC <| And.intro @QD <| And.intro @Z6 (And.intro @Qn (And.intro @Qo (And.intro @Qq (And.intro @Qs (And.intro @Z7 (And.intro @ah4 (And.intro @ah5 (And.intro @ah6 (And.intro @Yg (And.intro @Yh (And.intro @v_op (And.intro @Yi (And.intro @ah7 (And.intro @Yj (And.intro @Yk (And.intro @Um (And.intro @Lz (And.intro @Yl (And.intro @Qt (And.intro @Z8 (And.intro @Uo (And.intro @Ym (And.intro @Z9 (And.intro @Uq (And.intro @v_c (And.intro @v_and (And.intro @Ur (And.intro @Us (And.intro @v_or (And.intro @Yn (And.intro @Yo (And.intro @v_not (And.intro @Ut (And.intro @ah8 (And.intro @Yp (And.intro @Yq (And.intro @Qu (And.intro @Qw (And.intro @Z_ (And.intro @Uu (And.intro @Uv (And.intro @Yr (And.intro @Qx (And.intro @v_ite (And.intro @Uw (And.intro @Ux (And.intro @aa0 (And.intro @Uy (And.intro @aa1 (And.intro @Uz (And.intro @LC (And.intro @aa2 (And.intro @UG (And.intro @UJ (And.intro @ah9 (And.intro @ai0 (And.intro @aa3 (And.intro @aa4 (And.intro @UL (And.intro @aa5 (And.intro @UW (And.intro @ai1 (And.intro @Ys (And.intro @Yt (And.intro @aa6 (And.intro @Yu (And.intro @aa7 (And.intro @U0 (And.intro @aa8 (And.intro @U3 (And.intro @U4 (And.intro @LK (And.intro @LR (And.intro @aa9 (And.intro @U5 (And.intro @U6 (And.intro @Yv (And.intro @Qy (And.intro @ab0 (And.intro @Yw (And.intro @Yx (And.intro @ab1 (And.intro @ab2 (And.intro @ai2 (And.intro @ai3 (And.intro @ai4 (And.intro @ai5 (And.intro @ab3 (And.intro @ab4 (And.intro @ab5 (And.intro @Yy (And.intro @ab6 (And.intro @Qz (And.intro @ab7 (And.intro @ab8 (And.intro @ai6 (And.intro @ab9 (And.intro @J1 (And.intro @Yz (And.intro @U7 (And.intro @ac0 (And.intro @ac1 (And.intro @U8 (And.intro @YC (And.intro @YD (And.intro @ai7 (And.intro @YF (And.intro @ai8 (And.intro @ai9 (And.intro @YG (And.intro @YH @QB)))))))))))))))))))))))))))))))))))))))))))))))))))))))))))))))))))))))))))))))))))))))))))))))))))))))))))))))
end D3
namespace My
noncomputable def pP(ns:List Int)(i:Int):Int:=
 if i<(ns.length:Int)then ns.getD i.toNat 0%1000000007
 else if ns=[]then 7919*i+5000011
 else ns.getD (i*7%(ns.length:Int)).toNat 0%1000000007+7919*i
def divs(n:Int):Nat->Int
 |0=>n
 |k+1=>divs n k/1000003
noncomputable def J2(c i k m:Int):Int:=
 (((c+65537*i+3)*(1299709+15485863*k)%2147483629*((c+65537*i+3)*(1299709+15485863*k)%2147483629)%1500450271+104729) *
  ((c+65537*i+3)*(1299709+15485863*k)%2147483629*((c+65537*i+3)*(1299709+15485863*k)%2147483629)%1500450271+104729))%715827883/64%m
def jd(ns:List Int)(i k m:Int):Int:=
 if i<(ns.length:Int)/\10^40<=ns.getD i.toNat 0/\0<divs (ns.getD i.toNat 0) k.toNat then divs (ns.getD i.toNat 0) k.toNat%1000003%m
 else J2 (pP ns i) i k m
theorem gP(ns:List Int)(i k:Int){m:Int}(h:0<m):0<=jd ns i k m/\jd ns i k m<m:=by
 unfold jd J2
 split
 ·exact⟨k_ _ (by omega),jx _ h⟩
 ·exact⟨k_ _ (by omega),jx _ h⟩
theorem L_{i k m:Int}(h1:i<(ns.length:Int))(h2:10^40<=ns.getD i.toNat 0)(B:0<divs (ns.getD i.toNat 0) k.toNat):
 jd ns i k m=divs (ns.getD i.toNat 0) k.toNat%1000003%m:=by
 unfold jd
 rw[if_pos ⟨h1,h2,B⟩]
theorem u6{i k m:Int}(h:¬(i<(ns.length:Int)/\10^40<=ns.getD i.toNat 0/\0<divs (ns.getD i.toNat 0) k.toNat)):
 jd ns i k m=J2 (pP ns i) i k m:=by
 unfold jd
 rw[if_neg h]
end My
namespace Com
open PySem D3
def iz:List D->Option D:=fnD 1 0 (dF (Ai (dUn (gIs "int") (ao 0)) (Ny (dUn (gIs "bool") (ao 0)))))
def jq:List D->Option D:=fnD 2 0 (bW (sIf (bN (dOp gLt (ao 1) (dCall iZ (au (ao 0) (aZ))))) (dF (dOp uV (dOp gIx (ao 0) (ao 1)) (dC (.int 1000000007)))) (dJ))
    (bW (sIf (bN (dOp gEq (ao 0) (iY (aZ)))) (dF (dOp eF (dOp qu (dC (.int 7919)) (ao 1)) (dC (.int 5000011)))) (dJ))
    (dF (dOp eF (dOp uV (dOp gIx (ao 0) (dOp uV (dOp qu (ao 1) (dC (.int 7))) (dCall iZ (au (ao 0) (aZ))))) (dC (.int 1000000007))) (dOp qu (dC (.int 7919)) (ao 1))))))
def bR:List D->Option D:=fnD 4 2 (bW (sIf (D3.Cr (bN (dOp gLt (ao 1) (dCall iZ (au (ao 0) (aZ))))) (bN (dOp gGe (dOp gIx (ao 0) (ao 1)) (dOp Xb (dC (.int 10)) (dC (.int 40)))))) (bW (bU 4 (dOp gIx (ao 0) (ao 1)))
    (bW (mV (mO (au (ao 2) (aZ))) (gNl 5) (bU 4 (dOp Ft (ao 4) (dC (.int 1000003)))))
    (sIf (bN (dOp gGt (ao 4) (dC (.int 0)))) (dF (dOp uV (dOp uV (ao 4) (dC (.int 1000003))) (ao 3))) (dJ)))) (dJ))
    (bW (bU 4 (dOp uV (dOp qu (dOp eF (dOp eF (dCall jq (au (ao 0) (au (ao 1) (aZ)))) (dOp qu (dC (.int 65537)) (ao 1))) (dC (.int 3))) (dOp eF (dC (.int 1299709)) (dOp qu (dC (.int 15485863)) (ao 2)))) (dC (.int 2147483629))))
    (bW (bU 4 (dOp eF (dOp uV (dOp qu (ao 4) (ao 4)) (dC (.int 1500450271))) (dC (.int 104729))))
    (dF (dOp uV (dOp Ft (dOp uV (dOp qu (ao 4) (ao 4)) (dC (.int 715827883))) (dC (.int 64))) (ao 3))))))
def dw:List D->Option D:=fnD 1 0 (dF (Ai (dUn (gIs "int") (ao 0)) (Ny (dUn (gIs "bool") (ao 0)))))
def jP:List D->Option D:=fnD 2 4 (bW (bU 2 (dCall bR (au (ao 0) (au (dC (.int 1)) (au (dC (.int 0)) (au (dC (.int 380)) (aZ)))))))
    (bW (bU 3 (iY (aZ)))
    (bW (mV (mO (au (ao 1) (aZ))) (gNl 4) (bW (bU 5 (dCall bR (au (ao 0) (au (dC (.int 2)) (au (ao 4) (au (dC (.int 9)) (aZ)))))))
    (vC 3 (dOp gIx (iY (au (dC (.int 0)) (au (dOp uz (dOp eF (ao 2) (ao 5)) (dC (.int 5))) (aZ)))) (dCall sV (au (dOp gGt (ao 5) (dC (.int 4))) (aZ)))))))
    (dF (HJ (ao 3))))))
def jQ:List D->Option D:=fnD 1 0 (dF (dTup (au (iy (dOp gIx (ao 0) (dC (.int 0)))) (au (iy (dOp gIx (ao 0) (dC (.int 1)))) (aZ)))))
def fX:List D->Option D:=fnD 3 0 (dF (Ai (dCall iz (au (ao 0) (aZ))) (lX gLe gLe (ao 1) (ao 0) (ao 2))))
def fY:List D->Option D:=fnD 3 0 (bW (sIf (bN (ao 2)) (dF (iy (dOp gIx (ao 1) (dC (.int 1))))) (dJ))
    (dF (iy (dIf (bN (dOp gLe (ao 0) (dOp gIx (ao 1) (dC (.int 0))))) (dC (.int 0)) (ao 0)))))
def dG:List D->Option D:=fnD 4 0 (bW (sIf (D3.tOr (bN (dOp gLe (dOp gIx (ao 0) (dC (.int 1))) (dOp gIx (ao 2) (dC (.int 0))))) (bN (dOp gLe (dOp gIx (ao 2) (dC (.int 1))) (dOp gIx (ao 0) (dC (.int 0)))))) (dF (dC (.bool true))) (dJ))
    (dF (dOr (dOp gLe (dOp eF (ao 1) (dOp gIx (ao 0) (dC (.int 2)))) (ao 3)) (dOp gLe (dOp eF (ao 3) (dOp gIx (ao 2) (dC (.int 2)))) (ao 1)))))
def jR:List D->Option D:=fnD 3 6 (bW (sIf (D3.tOr (D3.jl (bN (dUn (gIs "list") (ao 2)))) (bN (dOp gNe (dCall iZ (au (ao 2) (aZ))) (dCall iZ (au (ao 1) (aZ)))))) (dF (dC (.bool false))) (dJ))
    (bW (mV (mO (au (dCall iZ (au (ao 1) (aZ))) (aZ))) (gNl 3) (bW (bU 4 (dOp gIx (ao 2) (ao 3)))
    (bW (Cz (dOp gIx (ao 1) (ao 3)) (gTn 3 (cF (gNl 5) (cF (gNl 6) (cF (gNl 7) (jE))))))
    (bW (sIf (D3.tOr (D3.jl (bN (dCall dw (au (ao 4) (aZ))))) (D3.jl (bN (lX gLe gLe (dC (.int 0)) (ao 4) (dOp uz (dCall iZ (au (ao 0) (aZ))) (ao 7)))))) (dF (dC (.bool false))) (dJ))
    (sIf (bN (dOp gGt (dCall yN (au (dSl (ao 0) (d8 (ao 4)) (d8 (dOp eF (ao 4) (ao 7)))) (aZ))) (ao 5))) (dF (dC (.bool false))) (dJ))))))
    (bW (mV (mO (au (dCall iZ (au (ao 1) (aZ))) (aZ))) (gNl 3) (mV (mO (au (ao 3) (aZ))) (gNl 8) (sIf (D3.jl (bN (dCall dG (au (dOp gIx (ao 1) (ao 8)) (au (dOp gIx (ao 2) (ao 8)) (au (dOp gIx (ao 1) (ao 3)) (au (dOp gIx (ao 2) (ao 3)) (aZ)))))))) (dF (dC (.bool false))) (dJ))))
    (dF (dC (.bool true))))))
def i_:List D->Option D:=fnD 3 5 (bW (bU 3 (dCall bR (au (ao 0) (au (dC (.int 1)) (au (dC (.int 0)) (au (dC (.int 380)) (aZ)))))))
    (bW (bU 4 (iY (aZ)))
    (bW (mV (mO (au (ao 2) (aZ))) (gNl 5) (bW (bU 6 (dOp eF (ao 3) (dCall bR (au (ao 0) (au (dOp eF (dC (.int 3)) (ao 5)) (au (dC (.int 0)) (au (dC (.int 7)) (aZ))))))))
    (bW (bU 7 (dOp eF (dC (.int 1)) (dCall bR (au (ao 0) (au (dOp eF (dC (.int 3)) (ao 5)) (au (dC (.int 2)) (au (ao 1) (aZ))))))))
    (bW (sIf (bN (dOp gEq (dCall bR (au (ao 0) (au (dOp eF (dC (.int 3)) (ao 5)) (au (dC (.int 3)) (au (dC (.int 16)) (aZ)))))) (dC (.int 0)))) (bU 7 (dCall Fw (au (dC (.int 6)) (au (dOp eF (ao 1) (dC (.int 1))) (aZ))))) (dJ))
    (vC 4 (dTup (au (ao 6) (au (dOp eF (dOp eF (ao 6) (dC (.int 1))) (dCall bR (au (ao 0) (au (dOp eF (dC (.int 3)) (ao 5)) (au (dC (.int 1)) (au (dC (.int 6)) (aZ))))))) (au (ao 7) (aZ))))))))))
    (dF (HJ (ao 4))))))
end Com
namespace Com
open PySem D3 My
theorem vY{i:Int}(B:0<=i)(h1:i<ns.length):pAt (ns.map PyData.int) i=some (.int (ns.getD i.toNat 0)):=by
 unfold pAt pIx
 rw[aq,if_pos B,if_pos h1,aM,bw]
 have h:i.toNat<ns.length:=by omega
 rw[aB h]
 simp[List.getD,h]
theorem Ea{k:Nat}:pAt l (k:Int)=l[k]?:=by
 unfold pAt pIx
 rw[if_pos (by omega)]
 by_cases h:k<l.length
 ·rw[if_pos (by omega),aM]
  simp
 ·rw[if_neg (by omega),bG (by omega)]
  rfl
theorem at0{a:D}:pAt (a::l) 0=some a:=Ea (k:=0)
theorem at1{a b:D}:pAt (a::b::l) 1=some b:=Ea (k:=1)
theorem Eb{i j:Int}(h:0<j):uV (.int i) (.int j)=some (.int (i%j)):=by
 show(if decide (j≠0)=true then some (PyData.int (i.fmod j))else none)=_
 rw[if_pos (dTr (by omega)),Int.fmod_eq_emod_of_nonneg i (by omega)]
theorem QF{j:Int}(h:j.natAbs<2^64):j.natAbs<2^9000:=bY h (Nat.pow_le_pow_right (by decide) (by decide))
theorem aj4{i j:Int}(h:0<j)(h2:j.natAbs<2^9000):Ft (.int i) (.int j)=some (.int (i/j)):=by
 show(if HN i j=true then some (PyData.int (i.fdiv j))else none)=_
 have e:HN i j=true:=by
  unfold HN
  rw[bf]
  exact⟨dTr (by omega),dTr h2⟩
 rw[if_pos e,Int.fdiv_eq_ediv_of_nonneg i (by omega)]
theorem ad5{i j:Int}(h:0<j)(h2:j<18446744073709551616):Ft (.int i) (.int j)=some (.int (i/j)):=aj4 h (QF (by omega))
theorem mulL{i j:Int}(h1 : -18446744073709551616<i)(h2:i<18446744073709551616):qu (.int i) (.int j)=some (.int (i*j)):=by
 show(if yL i j=true then some (PyData.int (i*j))else none)=_
 have e:yL i j=true:=by
  unfold yL
  rw[dTr (show i.natAbs<2^64 by omega)]
  rfl
 rw[if_pos e]
theorem mulR{i j:Int}(h1 : -18446744073709551616<j)(h2:j<18446744073709551616):qu (.int i) (.int j)=some (.int (i*j)):=by
 show(if yL i j=true then some (PyData.int (i*j))else none)=_
 have e:yL i j=true:=by
  unfold yL
  rw[dTr (show j.natAbs<2^64 by omega),Bool.or_true]
  rfl
 rw[if_pos e]
theorem VR:Xb (.int 10) (.int 40)=some (.int (10^40)):=rfl
theorem sz(h:n<=1000000):n<=sizeLine:=bF h (by decide)
theorem shaped_ints(ns:List Int):SeqAt.shaped (.list (ns.map PyData.int))=true:=by
 have h1:∀ns:List Int,PyData.canLayAll0 (ns.map PyData.int)=true:=λns=>by
  induction ns with
  |nil=>rfl
  |cons a r Z=>simp[PyData.canLayAll0,PyData.canLay0,Z]
 have h2:∀ns:List Int,PyData.depthAll (ns.map PyData.int)<=1:=λns=>by
  induction ns with
  |nil=>simp[PyData.depthAll]
  |cons a r Z=>simp[PyData.depthAll,PyData.depth];omega
 unfold SeqAt.shaped
 rw[bf]
 refine⟨by simp[PyData.canLay0,h1],dTr ?_⟩
 have:=h2 ns
 simp only[PyData.depth]
 omega
theorem eq_empty(ns:List Int):gEq (.list (ns.map PyData.int)) (.list [])=some (.bool (decide (ns=[]))):=by
 unfold gEq
 rw[shaped_ints ns]
 cases ns with
 |nil=>rfl
 |cons a r=>rfl
theorem Mf{i:Int}(B:0<=i):jq [.list (ns.map .int),.int i]=some (.int (pP ns i)):=by
 unfold jq pP
 by_cases h:i<(ns.length:Int)
 ·rw[if_pos h]
  simp only[EV,reduceIte,aA,aC,aj,ak,aD,aF,aG,lMp,dTr h,vY B h,Eb (show(0:Int)<1000000007 by decide)]
 ·rw[if_neg h]
  by_cases hn:ns=[]
  ·rw[if_pos hn]
   simp only[EV,reduceIte,aA,aC,aj,ak,aD,aF,aG,lMp,dFa h,eq_empty,dTr hn,cZ,mulL (show(-18446744073709551616:Int)<7919 by decide) (show(7919:Int)<18446744073709551616 by decide)]
  ·rw[if_neg hn]
   have X:0<ns.length:=by
    cases ns with
    |nil=>exact absurd rfl hn
    |cons _ _=>simp
   have Y:0<=i*7%(ns.length:Int):=k_ _ (by omega)
   have Z:i*7%(ns.length:Int)<(ns.length:Int):=jx _ (by omega)
   simp only[EV,reduceIte,aA,aC,aj,ak,aD,aF,aG,lMp,dFa h,eq_empty,dFa hn,cZ,mulL (show(-18446744073709551616:Int)<7919 by decide) (show(7919:Int)<18446744073709551616 by decide),mulR (show(-18446744073709551616:Int)<7 by decide) (show(7:Int)<18446744073709551616 by decide),Eb (show(0:Int)<1000000007 by decide),Eb (show(0:Int)<ns.length by omega),vY Y Z]
theorem Ce{l:D}{i k m:D}(n:Int):∀(B:List D)(c:Nat)(y:Option U),(∀j∈B,∃x,j = .int x)->∃J,iT (gNl 5) (bU 4 (dOp Ft (ao 4) (dC (.int 1000003)))) B [some (.d l),some (.d i),some (.d k),some (.d m),some (.d (.int (divs n c))),y] =
 some (.nx [some (.d l),some (.d i),some (.d k),some (.d m),some (.d (.int (divs n (c+B.length)))),J])
 |[],c,y,_=>⟨y,rfl⟩
 |j::B,c,y,h=>by
  obtain⟨J,e⟩:=Ce (l:=l) (i:=i) (k:=k) (m:=m) n B (c+1) (some (.d j)) λj' Z=>h j' (aK _ Z)
  refine⟨J,?_⟩
  rw[iT]
  simp only[EV,reduceIte,aA,aC,aj,ak,aD,aF,aG,ad5 (show(0:Int)<1000003 by decide) (show(1000003:Int)<18446744073709551616 by decide),aM]
  rw[show c+(B.length+1)=c+1+B.length by omega,<-e]
  rfl
theorem Mg(lo hi:Int):∀j∈gJ lo hi,∃x,j = .int x:=by
 intro j Z
 unfold gJ at Z
 obtain⟨k,_,rfl⟩:=bQ.mp Z
 exact⟨_,rfl⟩
theorem m7{i k m:Int}(B:0<=i)(D:0<=k)(J:k<=1000)(hm:0<m):bR [.list (ns.map .int),.int i,.int k,.int m]=some (.int (jd ns i k m)):=by
 have rest:∀x y:Option U,qFn ((bW (bU 4 (dOp uV (dOp qu (dOp eF (dOp eF (dCall jq (au (ao 0) (au (ao 1) (aZ)))) (dOp qu (dC (.int 65537)) (ao 1))) (dC (.int 3))) (dOp eF (dC (.int 1299709)) (dOp qu (dC (.int 15485863)) (ao 2)))) (dC (.int 2147483629))))
  (bW (bU 4 (dOp eF (dOp uV (dOp qu (ao 4) (ao 4)) (dC (.int 1500450271))) (dC (.int 104729))))
  (dF (dOp uV (dOp Ft (dOp uV (dOp qu (ao 4) (ao 4)) (dC (.int 715827883))) (dC (.int 64))) (ao 3))))) [some (.d (.list (ns.map .int))),some (.d (.int i)),some (.d (.int k)),some (.d (.int m)),x,y])=some (.int (J2 (pP ns i) i k m)):=by
  intro x y
  have R:0<=(pP ns i+65537*i+3)*(1299709+15485863*k)%2147483629:=k_ _ (by decide)
  have S:(pP ns i+65537*i+3)*(1299709+15485863*k)%2147483629<2147483629:=jx _ (by decide)
  have T:0<=(pP ns i+65537*i+3)*(1299709+15485863*k)%2147483629*((pP ns i+65537*i+3)*(1299709+15485863*k)%2147483629)%1500450271:=k_ _ (by decide)
  have V:(pP ns i+65537*i+3)*(1299709+15485863*k)%2147483629*((pP ns i+65537*i+3)*(1299709+15485863*k)%2147483629)%1500450271<1500450271:=jx _ (by decide)
  simp only[EV,reduceIte,aA,aC,aj,ak,aD,aF,aG,Mf B,mulL (show(-18446744073709551616:Int)<65537 by decide) (show(65537:Int)<18446744073709551616 by decide),mulL (show(-18446744073709551616:Int)<15485863 by decide) (show(15485863:Int)<18446744073709551616 by decide),
   mulR (i:=pP ns i+65537*i+3) (show(-18446744073709551616:Int)<1299709+15485863*k by omega) (show 1299709+15485863*k<(18446744073709551616:Int)by omega),Eb (show(0:Int)<2147483629 by decide)]
  simp only[mulL (show(-18446744073709551616:Int)<(pP ns i+65537*i+3)*(1299709+15485863*k)%2147483629 by omega) (show(pP ns i+65537*i+3)*(1299709+15485863*k)%2147483629<(18446744073709551616:Int)by omega)]
  simp only[EV,reduceIte,aA,aC,aj,ak,aD,aF,aG,Eb (show(0:Int)<1500450271 by decide)]
  rw[mulL (by omega) (by omega)]
  simp only[EV,reduceIte,aA,aC,aj,ak,aD,aF,aG,Eb (show(0:Int)<715827883 by decide),ad5 (show(0:Int)<64 by decide) (show(64:Int)<18446744073709551616 by decide),Eb hm]
  rfl
 unfold bR
 rw[aa9]
 simp only[EV,reduceIte,aA,aC,aj,ak,aD,aF,aG]
 by_cases h:i<(ns.length:Int)
 ·by_cases h2:10^40<=ns.getD i.toNat 0
  ·simp only[EV,reduceIte,aA,aC,aj,ak,aD,aF,aG,lMp,dTr h,vY B h,VR,dTr h2]
   obtain⟨Y,e⟩:=Ce (l:=.list (ns.map .int)) (i:=.int i) (k:=.int k) (m:=.int m) (ns.getD i.toNat 0) (gJ 0 k) 0 none (Mg 0 k)
   have X:0+(gJ 0 k).length=k.toNat:=by simp[gJ]
   rw[X]at e
   have W:iT (gNl 5) (bU 4 (dOp Ft (ao 4) (dC (.int 1000003)))) (gJ 0 k) [some (.d (.list (ns.map .int))),some (.d (.int i)),some (.d (.int k)),some (.d (.int m)),some (.d (.int (ns.getD i.toNat 0))),none] =
    some (.nx [some (.d (.list (ns.map .int))),some (.d (.int i)),some (.d (.int k)),some (.d (.int m)),some (.d (.int (divs (ns.getD i.toNat 0) k.toNat))),Y]):=e
   rw[GJ (by omega) (by omega)]
   simp only[EV,reduceIte,aA,aC,aj,ak,aD,aF,aG,W]
   by_cases Z:0<divs (ns.getD i.toNat 0) k.toNat
   ·simp only[EV,reduceIte,aA,aC,aj,ak,aD,aF,aG,dTr Z,Eb (show(0:Int)<1000003 by decide),Eb hm]
    rw[L_ h h2 Z]
   ·simp only[EV,reduceIte,aA,aC,aj,ak,aD,aF,aG,dFa Z]
    rw[u6 (λz=>Z z.2.2)]
    have:=rest (some (.d (.int (divs (ns.getD i.toNat 0) k.toNat)))) Y
    simp only[EV,reduceIte,aA,aC,aj,ak,aD,aF,aG]at this
    exact this
  ·simp only[EV,reduceIte,aA,aC,aj,ak,aD,aF,aG,lMp,dTr h,vY B h,VR,dFa h2]
   rw[u6 (λz=>h2 z.2.1)]
   have:=rest none none
   simp only[EV,reduceIte,aA,aC,aj,ak,aD,aF,aG]at this
   exact this
 ·simp only[EV,reduceIte,aA,aC,aj,ak,aD,aF,aG,lMp,dFa h]
  rw[u6 (λz=>h z.1)]
  have:=rest none none
  simp only[EV,reduceIte,aA,aC,aj,ak,aD,aF,aG]at this
  exact this
end Com
namespace Com
open PySem D3 My
theorem QG{α:Type}{g:FG}{c:FT}{e:FE}(f:α->D)(p:α->Bool)(h:α->D):∀l:List α,(∀s∈l,∃B,g (f s) δ=some B/\c B=some (p s)/\(p s=true->e B=some (h s)))->lG g c e δ (l.map f)=some ((l.filter p).map h)
 |[],_=>rfl
 |s::r,hs=>by
  obtain⟨B,W,e2,X⟩:=hs s aJ
  have Z:=QG f p h r λx Y=>hs x (aK _ Y)
  rw[aP,lG,W,aM,e2,aM]
  by_cases c:p s=true
  ·rw[if_pos c,X c,aM,Z,jV,if_pos c]
   rfl
  ·rw[if_neg c,Z,jV,if_neg c]
theorem Ao{α:Type}{g:FG}{c:FT}{e:FE}(f:α->D)(h:α->D):∀l:List α,(∀s∈l,∃B,g (f s) δ=some B/\c B=some true/\e B=some (h s))->lG g c e δ (l.map f)=some (l.map h)
 |[],_=>rfl
 |s::r,hs=>by
  obtain⟨B,X,e2,Y⟩:=hs s aJ
  rw[aP,lG,X,aM,e2,aM,if_pos rfl,Y,aM,Ao f h r λx Z=>hs x (aK _ Z)]
  rfl
theorem ur{α:Type}(f:α->D)(h:∀a,flat (f a)=true):∀l:List α,flats (l.map f)=true
 |[]=>rfl
 |a::r=>by rw[aP,flats,h,ur f h r];rfl
theorem rR(l:List Int):flats (l.map PyData.int)=true:=ur _ (λ_=>rfl) l
theorem J3{m:Int}:(gJ 0 m).length=m.toNat:=by unfold gJ;rw[aq,bO,rm]
theorem QH{v k:Int}(h:k<=1000000)(h' : -(2^63)<=k):uD (.list [.int v]) (.int k)=some (.list ((aQ k.toNat v).map PyData.int)):=by
 show(if [PyData.int v].length*k.toNat<=1000000/\-(2^63)<=k/\k<2^63 then some (PyData.list (aQ k.toNat [PyData.int v]).flatten)else none)=_
 rw[if_pos ⟨by simp only[bC,jD];omega,h',by omega⟩]
 congr 2
 generalize k.toNat=n
 induction n with
 |zero=>rfl
 |succ n Z=>rw[cD,eX,Z,cD,aP];rfl
theorem J4{k:Int}(h:0<=k):cutD l (some k) none=l.drop k.toNat:=by
 unfold cutD
 have e:pSx l.length 0 (some k)=min k.toNat l.length:=by
  show(if k<0 then _ else _)=_
  rw[if_neg (by omega)]
 rw[e,show pSx l.length l.length none=l.length from rfl]
 by_cases c:k.toNat<=l.length
 ·rw[show min k.toNat l.length=k.toNat by omega,eU (by rw[cV];omega)]
 ·rw[show min k.toNat l.length=l.length by omega,rD (by omega),rD (by omega)]
  simp
theorem J5{k:Int}(h:0<=k):cutD l none (some k)=l.take k.toNat:=by
 unfold cutD
 have e:pSx l.length l.length (some k)=min k.toNat l.length:=by
  show(if k<0 then _ else _)=_
  rw[if_neg (by omega)]
 rw[e,show pSx l.length 0 none=0 from rfl,d_,oH,List.take_eq_take_iff]
 omega
theorem isList:D3.isT "list" "list"=true:=rfl
mutual
theorem eqv_refl:∀d:D,d.canLay0=true->PyData.eqv d d=true
 | .none,_=>by simp[PyData.eqv]
 | .bool b,_=>by simp[PyData.eqv]
 | .int i,_=>by simp[PyData.eqv]
 | .str x,_=>by simp[PyData.eqv]
 | .list l,h=>by
  have:=eqvAll_refl l (by simpa[PyData.canLay0]using h)
  simpa[PyData.eqv]using this
 | .tuple l,h=>by
  have:=eqvAll_refl l (by simpa[PyData.canLay0]using h)
  simpa[PyData.eqv]using this
 | .dict l,h=>by simp[PyData.canLay0]at h
theorem eqvAll_refl:∀l:List D,PyData.canLayAll0 l=true->PyData.eqvAll l l=true
 |[],_=>by simp[PyData.eqvAll]
 |d::r,h=>by
  rw[PyData.canLayAll0,bf]at h
  rw[PyData.eqvAll,eqv_refl d h.1,eqvAll_refl r h.2]
  rfl
end
def ly(n:Nat)(d:D):Prop:=d.canLay0=true/\d.depth<=n
def lys(n:Nat)(l:List D):Prop:=PyData.canLayAll0 l=true/\PyData.depthAll l<=n
theorem xu{m:Nat}(h:ly n d)(l:n<=m):ly m d:=⟨h.1,bF h.2 l⟩
theorem Ec:lys n []:=⟨by simp[PyData.canLayAll0],by simp[PyData.depthAll]⟩
theorem kW(h:ly n d)(q:lys n l):lys n (d::l):=
 ⟨by rw[PyData.canLayAll0,h.1,q.1];rfl,by have:=h.2;have:=q.2;simp only[PyData.depthAll];omega⟩
theorem vZ{α:Type}(f:α->D)(h:∀a,ly n (f a)):∀l:List α,lys n (l.map f)
 |[]=>Ec
 |a::r=>kW (h a) (vZ f h r)
theorem yq(h:lys n l):ly (n+1) (.list l):=⟨by simp[PyData.canLay0,h.1],by have:=h.2;simp only[PyData.depth];omega⟩
theorem QJ(h:lys n l):ly (n+1) (.tuple l):=⟨by simp[PyData.canLay0,h.1],by have:=h.2;simp only[PyData.depth];omega⟩
theorem QK{i:Int}:ly (n+1) (.int i):=⟨rfl,by simp[PyData.depth]⟩
theorem qQ(h:ly 60 d):SeqAt.shaped d=true:=by
 unfold SeqAt.shaped
 rw[bf]
 exact⟨h.1,dTr (by have:=h.2;omega)⟩
theorem eq_self(h:ly 60 d):gEq d d=some (.bool true):=by
 unfold gEq
 rw[qQ h,eqv_refl d h.1]
 rfl
end Com
namespace Com
open PySem D3 My
noncomputable def q(t b:Int):Rat:=mkRat t b.toNat
end Com
namespace Com
open PySem D3 My
def sm(k:Nat)(x:Int):Prop:=x.natAbs<2^k
end Com
namespace Com
open PySem D3 My
theorem J6{k:Nat}(h:k<n):pIx n (k:Int)=some k:=by
 unfold pIx
 rw[if_pos (by omega),if_pos (by omega)]
 rfl
structure Tb where
 N:Nat
 w:Nat->Int
 B:Int
def sumTo(f:Nat->Int):Nat->Int
 |0=>0
 |n+1=>sumTo f n+f n
structure TbOk(t:Tb)(k:Nat):Prop where
 B0:0<t.B
 Bs:sm (7*k+1) t.B
 w0:∀j,0<=t.w j
 wB:∀j,t.w j<=t.B
 wz:∀j,t.N<=j->t.w j=0
 N1:1<=t.N
 N4:t.N<=1+4*k
 sum:sumTo t.w t.N=t.B
end Com
namespace Com
open PySem D3 My
end Com
namespace Com
open PySem D3 My
theorem sm1(k:Nat){x:Int}(h:x.natAbs<=1):sm (k+1) x:=by
 unfold sm
 rw[Nat.pow_succ]
 have:=Nat.one_le_two_pow (n:=k)
 omega
structure bd(k:Nat)(a:Rat):Prop where
 n:sm k a.num
 d:sm k (a.den:Int)
end Com
namespace Com
open PySem D3 My
theorem zL{g:FG}{b:FS}(Inv:Nat->DS->Prop){v:D}(n:Nat):∀(l:List D)(δ:DS),Inv 0 δ->n<l.length->(∀i d δ,i<n->l[i]? = some d->Inv i δ->∃B δ',g d δ=some B/\b B=some (.nx δ')/\Inv (i+1) δ') ->
 (∀d δ,l[n]? = some d->Inv n δ->∃B,g d δ=some B/\b B=some (.rt v))->iT g b l δ=some (.rt v):=by
 have V:∀(n:Nat)(l:List D)(k:Nat)(δ:DS),Inv k δ->n<l.length->(∀i d δ,i<n->l[i]? = some d->Inv (k+i) δ->∃B δ',g d δ=some B/\b B=some (.nx δ')/\Inv (k+i+1) δ') ->
  (∀d δ,l[n]? = some d->Inv (k+n) δ->∃B,g d δ=some B/\b B=some (.rt v))->iT g b l δ=some (.rt v):=by
  intro n
  induction n with
  |zero=>
   intro l k δ W hn _ X
   cases l with
   |nil=>simp at hn
   |cons d r=>
    obtain⟨B,U,e2⟩:=X d δ rfl W
    rw[iT,U,aM,e2]
    rfl
  |succ n S=>
   intro l k δ W hn hs X
   cases l with
   |nil=>simp at hn
   |cons d r=>
    obtain⟨B,δ',U,e2,R⟩:=hs 0 d δ (by omega) rfl W
    rw[iT,U,aM,e2]
    refine S r (k+1) δ' R (by simpa using hn) (λi T Z hi hd Y=>?_) (λT Z hd Y=>X T Z (by simpa using hd) (by rw[show k+(n+1)=k+1+n by omega];exact Y))
    have:=hs (i+1) T Z (by omega) (by simpa using hd) (by rw[show k+(i+1)=k+1+i by omega];exact Y)
    rw[show k+(i+1)+1=k+1+i+1 by omega]at this
    exact this
 intro l δ W hn hs X
 refine V n l 0 δ W hn (λi d δ hi hd Y=>?_) (λd δ hd Y=>X d δ hd (by rw[fV]at Y;exact Y))
 have:=hs i d δ hi hd (by rw[fV]at Y;exact Y)
 rw[fV]
 exact this
theorem mq{hi:Int}(h:(gJ 0 hi)[i]? = some d):(i:Int)<hi/\d = .int (i:Int):=by
 unfold gJ at h
 rw[bw]at h
 by_cases Z:i<(hi-0).toNat
 ·rw[dM Z]at h
  cases h
  refine⟨by omega,?_⟩
  show PyData.int (0+(i:Int))=_
  rw[jU]
 ·rw[bG (by simpa using Z)]at h
  cases h
end Com
namespace XS
open PySem PySem.W PyProof.Rows
structure Weak(lt:Nat->Nat->Bool):Prop where
 irr:∀a,lt a a=false
 tr:∀a b c,lt a b=true->lt b c=true->lt a c=true
 nt:∀a b c,lt a c=true->lt a b=true\/lt b c=true
def Rk(lt:Nat->Nat->Bool)(a b:Nat):Prop:=lt a b=true\/(lt b a=false/\a<b)
section
variable{lt:Nat->Nat->Bool}{p:Array Nat}{n:Nat}
theorem Weak.not(W:Weak lt){a b c:Nat}(h1:lt a b=false)(h2:lt b c=false):lt a c=false:=by
 cases q:lt a c with
 |false=>rfl
 |true=>
  rcases W.nt a b c q with z|z
  ·rw[z]at h1;cases h1
  ·rw[z]at h2;cases h2
theorem Rk.trans(W:Weak lt){a b c:Nat}(h1:Rk lt a b)(h2:Rk lt b c):Rk lt a c:=by
 rcases h1 with h1|⟨h1,l1⟩
 ·rcases h2 with h2|⟨h2,l2⟩
  ·exact .inl (W.tr _ _ _ h1 h2)
  ·rcases W.nt a c b h1 with z|z
   ·exact .inl z
   ·rw[z]at h2;cases h2
 ·rcases h2 with h2|⟨h2,l2⟩
  ·rcases W.nt b a c h2 with z|z
   ·rw[z]at h1;cases h1
   ·exact .inl z
  ·exact .inr ⟨W.not h2 h1,by omega⟩
abbrev ga(p:Array Nat)(i:Nat):Nat:=p.getD i 0
def Asc(lt:Nat->Nat->Bool)(p:Array Nat)(m:Nat):Prop:=∀i j,i<j->j<m->Rk lt (ga p i) (ga p j)
structure Run(lt:Nat->Nat->Bool)(n:Nat)(p:Array Nat)(m:Nat):Prop where
 asc:Asc lt p m
 rest:∀k,m<=k->k<n->ga p k=k
 low:∀k,k<m->ga p k<m
theorem Run.snoc(W:Weak lt){a:Nat}(R:Run lt n p a)(h1:1<=a)(ha:a<n)(h:lt (ga p a) (ga p (a-1))=false):Run lt n p (a+1):=by
 have U:=R.rest a (aL _) ha
 have X:=R.low (a-1) (by omega)
 have st:Rk lt (ga p (a-1)) (ga p a):=.inr ⟨h,by omega⟩
 refine⟨λi j Z V=>?_,λk Y hn=>R.rest k (by omega) hn,λk Y=>?_⟩
 ·by_cases z:j<a
  ·exact R.asc i j Z z
  ·have:j=a:=by omega
   subst this
   by_cases y:i=j-1
   ·rw[y];exact st
   ·exact(R.asc i (j-1) (by omega) (by omega)).trans W st
 ·by_cases z:k<a
  ·have:=R.low k z;omega
  ·have:k=a:=by omega
   subst this
   omega
theorem Iw(W:Weak lt):∀(f a:Nat),Run lt n p a->1<=a->a+f<=n->Run lt n p (dZ lt (ck p f a))/\a<=dZ lt (ck p f a)/\dZ lt (ck p f a)<=a+f/\(dZ lt (ck p f a)<a+f->lt (ga p (dZ lt (ck p f a))) (ga p (dZ lt (ck p f a)-1))=true)
 |0,a,R,h1,Y=>⟨R,aL _,aL _,λz=>by
  have z:a<a+0:=z
  omega⟩
 |f+1,a,R,h1,Y=>by
  have e:dZ lt (ck p (f+1) a)=dZ lt (if lt (ga p a) (ga p (a-1))=true then .ret a else ck p f (a+1)):=rfl
  rw[e]
  by_cases c:lt (ga p a) (ga p (a-1))=true
  ·rw[if_pos c]
   exact⟨R,aL _,by show a<=a+(f+1);omega,λ_=>c⟩
  ·rw[if_neg c]
   obtain⟨q1,q2,X,Z⟩:=Iw W f (a+1) (R.snoc W h1 (by omega) (by simpa using c)) (by omega) (by omega)
   exact⟨q1,by omega,by omega,λz=>Z (by omega)⟩
theorem zM(W:Weak lt){k:Nat}(R:Run lt n p k):∀(f l r:Nat),l<=r->r<=k->r-l<=f->(∀i,i<l->lt (ga p k) (ga p i)=false)->(∀i,r<=i->i<k->lt (ga p k) (ga p i)=true) ->
 dZ lt (bi p k f l r)<=k/\(∀i,i<dZ lt (bi p k f l r)->lt (ga p k) (ga p i)=false)/\(∀i,dZ lt (bi p k f l r)<=i->i<k->lt (ga p k) (ga p i)=true)
 |0,l,r,h1,h2,T,Y,Z=>by
  have:l=r:=by omega
  subst this
  exact⟨h2,Y,Z⟩
 |f+1,l,r,h1,h2,T,Y,Z=>by
  by_cases z:l≥r
  ·have:l=r:=by omega
   subst this
   have e:bi p k (f+1) l l = .ret l:=by unfold bi;rw[if_pos z]
   rw[e]
   exact⟨h2,Y,Z⟩
  ·have e:dZ lt (bi p k (f+1) l r)=dZ lt (if lt (ga p k) (ga p ((l+r)/2))=true then bi p k f l ((l+r)/2)else bi p k f ((l+r)/2+1) r):=by
    conv=>lhs;unfold bi
    rw[if_neg z]
    rfl
   rw[e]
   have V:l<=(l+r)/2:=by omega
   have S:(l+r)/2<r:=by omega
   by_cases c:lt (ga p k) (ga p ((l+r)/2))=true
   ·rw[if_pos c]
    refine zM W R f l ((l+r)/2) V (by omega) (by omega) Y λi hi U=>?_
    by_cases y:i=(l+r)/2
    ·rw[y];exact c
    ·rcases R.asc ((l+r)/2) i (by omega) U with q|⟨q,_⟩
     ·exact W.tr _ _ _ c q
     ·rcases W.nt _ (ga p i) _ c with w|w
      ·exact w
      ·rw[w]at q;cases q
   ·rw[if_neg c]
    have c:lt (ga p k) (ga p ((l+r)/2))=false:=by simpa using c
    refine zM W R f ((l+r)/2+1) r (by omega) h2 (by omega) (λi hi=>?_) Z
    by_cases y:i=(l+r)/2
    ·rw[y];exact c
    ·cases q:lt (ga p k) (ga p i)with
     |false=>rfl
     |true=>
      rcases R.asc i ((l+r)/2) (by omega) (by omega)with w|⟨w,_⟩
      ·rw[W.tr _ _ _ q w]at c;cases c
      ·rcases W.nt _ (ga p ((l+r)/2)) _ q with X|X
       ·rw[X]at c;cases c
       ·rw[X]at w;cases w
theorem YX{k l:Nat}(B:k<p.size)(D:l<=k)(i:Nat):ga (bubble p k (k-l)) i=if i=l then ga p k else if l<i/\i<=k then ga p (i-1)else ga p i:=by
 have e:=eh B (k-l) (by omega) i
 rw[show k-(k-l)=l by omega]at e
 have g:∀(q:Array Nat)(i:Nat),ga q i=(q[i]?).getD 0:=λq i=>by simp[ga,h_]
 rw[g,e,g p k,g p (i-1),g p i]
 by_cases Y:i=l
 ·rw[if_pos Y,if_pos Y]
 ·rw[if_neg Y,if_neg Y]
  by_cases Z:l<i/\i<=k
  ·rw[if_pos Z,if_pos Z]
  ·rw[if_neg Z,if_neg Z]
theorem QL(W:Weak lt)(hs:p.size=n){k l:Nat}(R:Run lt n p k)(J:k<n)(D:l<=k)(h1:∀i,i<l->lt (ga p k) (ga p i)=false)(h2:∀i,l<=i->i<k->lt (ga p k) (ga p i)=true):Run lt n (bubble p k (k-l)) (k+1):=by
 have T:=R.rest k (aL _) J
 have B:=YX (p:=p) (k:=k) (by omega) D
 refine⟨λi j Z S=>?_,λm hm hn=>?_,λm hm=>?_⟩
 ·rw[B,B]
  by_cases U:i=l
  ·rw[if_pos U,if_neg (by omega),if_pos (by omega)]
   exact .inl (h2 (j-1) (by omega) (by omega))
  ·rw[if_neg U]
   by_cases V:j=l
   ·rw[if_pos V,if_neg (by omega)]
    exact .inr ⟨h1 i (by omega),by rw[T];exact R.low i (by omega)⟩
   ·rw[if_neg V]
    by_cases X:l<i/\i<=k
    ·rw[if_pos X,if_pos (by omega)]
     exact R.asc _ _ (by omega) (by omega)
    ·rw[if_neg X]
     by_cases Y:l<j/\j<=k
     ·rw[if_pos Y]
      exact R.asc _ _ (by omega) (by omega)
     ·rw[if_neg Y]
      exact R.asc _ _ Z (by omega)
 ·rw[B,if_neg (by omega),if_neg (by omega)]
  exact R.rest m (by omega) hn
 ·rw[B]
  split
  ·omega
  ·split
   ·have:=R.low (m-1) (by omega);omega
   ·have:=R.low m (by omega);omega
theorem QM(W:Weak lt):∀(f:Nat)(p:Array Nat)(k:Nat),p.size=n->Run lt n p k->k+f=n->Run lt n (dZ lt (kas_bin f p k)) n
 |0,p,k,hs,R,h=>by
  have:k=n:=by omega
  subst this
  exact R
 |f+1,p,k,hs,R,h=>by
  have e:dZ lt (kas_bin (f+1) p k)=dZ lt (kas_bin f (bubble p k (k-dZ lt (bi p k k 0 k))) (k+1)):=oU _ _
  rw[e]
  obtain⟨q1,q2,Z⟩:=zM W R k 0 k (cZ _) (aL _) (by omega) (λi hi=>by omega) (λi h1 h2=>by omega)
  exact QM W f _ (k+1) (by rw[bubble_size];exact hs) (QL W hs R (by omega) q1 q2 Z) (by omega)
end
end XS
namespace XS
open PySem PySem.W PyProof.Rows
section
variable{lt:Nat->Nat->Bool}{p p':Array Nat}{n a q:Nat}
theorem Rk.nr(W:Weak lt){a b:Nat}(h:Rk lt a b):lt b a=false:=by
 rcases h with h|⟨h,_⟩
 ·cases z:lt b a with
  |false=>rfl
  |true=>have:=W.tr _ _ _ h z;rw[W.irr]at this;cases this
 ·exact h
theorem Iz(B:j<=p.size)(k:Nat):ga (bg p i j) k=if i<=k/\k<j then ga p (i+j-1-k)else ga p k:=by
 have e:=da (i:=i) B k
 have g:∀(q:Array Nat)(i:Nat),ga q i=(q[i]?).getD 0:=λq i=>by simp[ga,h_]
 rw[g,g p (i+j-1-k),g p k]
 unfold bg
 rw[e]
 by_cases c:i<=k/\k<j
 ·rw[if_pos c,if_pos c]
 ·rw[if_neg c,if_neg c]
theorem zN(i j:Nat):(bg p i j).size=p.size:=mirror_size _ _ _ _
structure Dn(lt:Nat->Nat->Bool)(n:Nat)(p:Array Nat)(a q:Nat):Prop where
 le:q+1<=a
 desc:∀i j,i<j->j<a-(q+1)->Rk lt (ga p j) (ga p i)
 strict:∀i j,i<a-(q+1)->a-(q+1)<=j->j<a->lt (ga p j) (ga p i)=true
 run:∀i j,a-(q+1)<=i->i<j->j<a->lt (ga p i) (ga p j)=false/\lt (ga p j) (ga p i)=false/\ga p i<ga p j
 rest:∀k,a<=k->k<n->ga p k=k
 low:∀k,k<a->ga p k<a
structure Desc(lt:Nat->Nat->Bool)(n:Nat)(p:Array Nat)(a:Nat):Prop where
 desc:∀i j,i<j->j<a->Rk lt (ga p j) (ga p i)
 rest:∀k,a<=k->k<n->ga p k=k
 low:∀k,k<a->ga p k<a
theorem Dn.turn(D:Dn lt n p a q)(h:∀k,ga p' k=if a-(q+1)<=k/\k<a then ga p (a-(q+1)+a-1-k)else ga p k):Desc lt n p' a:=by
 have l:=D.le
 refine⟨λi j Y X=>?_,λk Z hn=>?_,λk Z=>?_⟩
 ·by_cases c:j<a-(q+1)
  ·rw[h,h,if_neg (by omega),if_neg (by omega)]
   exact D.desc i j Y c
  ·rw[h j,if_pos (by omega),h i]
   by_cases e:i<a-(q+1)
   ·rw[if_neg (by omega)]
    exact .inl (D.strict _ _ e (by omega) (by omega))
   ·rw[if_pos (by omega)]
    obtain⟨x,y,z⟩:=D.run (a-(q+1)+a-1-j) (a-(q+1)+a-1-i) (by omega) (by omega) (by omega)
    exact .inr ⟨y,z⟩
 ·rw[h,if_neg (by omega)];exact D.rest k Z hn
 ·rw[h]
  split
  ·exact D.low _ (by omega)
  ·exact D.low _ Z
theorem Desc.up(D:Desc lt n p a)(ha:a<n)(h:∀i,i<a->lt (ga p a) (ga p i)=true):Dn lt n p (a+1) 0:=by
 refine⟨by omega,λi j Z X=>D.desc i j Z (by omega),λi j hi h1 h2=>?_,λi j h1 h2 W=>by omega,λk Y hn=>D.rest k (by omega) hn,λk Y=>?_⟩
 ·have:j=a:=by omega
  subst this
  exact h i (by omega)
 ·by_cases z:k<a
  ·have:=D.low k z;omega
  ·have:k=a:=by omega
   subst this
   rw[D.rest k (aL _) ha];omega
def turned(p:Array Nat)(a q:Nat):Array Nat:=if q>0 then bg p (a-(q+1)) a else p
theorem uw(hs:p.size=n)(ha:a<=n)(l:q+1<=a)(k:Nat):ga (turned p a q) k=if a-(q+1)<=k/\k<a then ga p (a-(q+1)+a-1-k)else ga p k:=by
 unfold turned
 by_cases c:q>0
 ·rw[if_pos c];exact Iz (by omega) k
 ·rw[if_neg c]
  by_cases e:a-(q+1)<=k/\k<a
  ·rw[if_pos e,show a-(q+1)+a-1-k=k by omega]
  ·rw[if_neg e]
theorem xG:(turned p a q).size=p.size:=by
 unfold turned
 split
 ·exact zN _ _
 ·rfl
theorem Dn.below(W:Weak lt)(D:Dn lt n p a q)(hs:p.size=n)(ha:a<n)(h:lt (ga p a) (ga p (a-1))=true)(i:Nat)(hi:i<a):lt (ga (turned p a q) a) (ga (turned p a q) i)=true:=by
 have l:=D.le
 have all:∀i,i<a->lt (ga p a) (ga p i)=true:=λi hi=>by
  by_cases c:i<a-(q+1)
  ·exact W.tr _ _ _ h (D.strict i (a-1) c (by omega) (by omega))
  ·by_cases e:i=a-1
   ·rw[e];exact h
   ·rcases W.nt _ (ga p i) _ h with w|w
    ·exact w
    ·rw[(D.run i (a-1) (by omega) (by omega) (by omega)).1]at w;cases w
 rw[uw hs (by omega) l,if_neg (by omega),uw hs (by omega) l]
 split
 ·exact all _ (by omega)
 ·exact all _ hi
theorem Dn.same(W:Weak lt)(D:Dn lt n p a q)(ha:a<n)(h1:lt (ga p a) (ga p (a-1))=false)(h2:lt (ga p (a-1)) (ga p a)=false):Dn lt n p (a+1) (q+1):=by
 have l:=D.le
 have U:=D.rest a (aL _) ha
 refine⟨by omega,λi j Z V=>D.desc i j Z (by omega),λi j hi q1 q2=>?_,λi j q1 q2 X=>?_,λk Y hn=>D.rest k (by omega) hn,λk Y=>?_⟩
 ·by_cases z:j<a
  ·exact D.strict i j (by omega) (by omega) z
  ·have:j=a:=by omega
   subst this
   rcases W.nt _ (ga p j) _ (D.strict i (j-1) (by omega) (by omega) (by omega))with w|w
   ·rw[w]at h2;cases h2
   ·exact w
 ·by_cases z:j<a
  ·exact D.run i j (by omega) q2 z
  ·have:j=a:=by omega
   subst this
   have lo:=D.low i (by omega)
   by_cases e:i=j-1
   ·subst e
    exact⟨h2,h1,by omega⟩
   ·obtain⟨x,y,_⟩:=D.run i (j-1) (by omega) (by omega) (by omega)
    exact⟨W.not x h2,W.not h1 y,by omega⟩
 ·by_cases z:k<a
  ·have:=D.low k z;omega
  ·have:k=a:=by omega
   subst this
   omega
theorem Ed(W:Weak lt):∀(f:Nat)(p:Array Nat)(a q:Nat),p.size=n->Dn lt n p a q->a+f<=n ->
 (dZ lt (a7 f p a q)).1.size=n/\Dn lt n (dZ lt (a7 f p a q)).1 (dZ lt (a7 f p a q)).2.1 (dZ lt (a7 f p a q)).2.2/\(dZ lt (a7 f p a q)).2.1<=n
 |0,p,a,q,hs,D,h=>⟨hs,D,h⟩
 |f+1,p,a,q,hs,D,h=>by
  have e:dZ lt (a7 (f+1) p a q)=dZ lt (if lt (ga p a) (ga p (a-1))=true then(if q>0 then a7 f (bg p (a-(q+1)) a) (a+1) 0 else a7 f p (a+1) 0)else .ask (ga p (a-1)) (ga p a) λd=>if d=true then .ret (p,a,q)else a7 f p (a+1) (q+1)):=rfl
  rw[e]
  by_cases c:lt (ga p a) (ga p (a-1))=true
  ·rw[if_pos c]
   have e2:(if q>0 then a7 f (bg p (a-(q+1)) a) (a+1) 0 else a7 f p (a+1) 0)=a7 f (turned p a q) (a+1) 0:=by
    unfold turned
    split<;>rfl
   rw[e2]
   exact Ed W f (turned p a q) (a+1) 0 (by rw[xG];exact hs) ((D.turn (uw hs (by omega) D.le)).up (by omega) (D.below W hs (by omega) c)) (by omega)
  ·rw[if_neg c]
   have Z:dZ lt (.ask (ga p (a-1)) (ga p a) λd=>if d=true then .ret (p,a,q)else a7 f p (a+1) (q+1))=dZ lt (if lt (ga p (a-1)) (ga p a)=true then .ret (p,a,q)else a7 f p (a+1) (q+1)):=rfl
   rw[Z]
   by_cases d:lt (ga p (a-1)) (ga p a)=true
   ·rw[if_pos d]
    exact⟨hs,D,by show a<=n;omega⟩
   ·rw[if_neg d]
    exact Ed W f p (a+1) (q+1) hs (D.same W (by omega) (by simpa using c) (by simpa using d)) (by omega)
theorem U_(W:Weak lt)(hs:p.size=n)(D:Desc lt n p a)(h1:1<=a)(ha:a<=n):
 (dZ lt (b9 a n p)).2.size=n/\Run lt n (dZ lt (b9 a n p)).2 (dZ lt (b9 a n p)).1/\1<=(dZ lt (b9 a n p)).1/\(dZ lt (b9 a n p)).1<=n:=by
 have e:dZ lt (b9 a n p)=(dZ lt (ck (bg p 0 a) (n-a) a),bg p 0 a):=oU _ _
 rw[e]
 have B:=Iz (p:=p) (i:=0) (j:=a) (by omega)
 have R:Run lt n (bg p 0 a) a:=by
  refine⟨λi j Y V=>?_,λk Z hn=>?_,λk Z=>?_⟩
  ·rw[B,B,if_pos (by omega),if_pos (by omega)]
   exact D.desc _ _ (by omega) (by omega)
  ·rw[B,if_neg (by omega)];exact D.rest k Z hn
  ·rw[B,if_pos (by omega)];exact D.low _ (by omega)
 obtain⟨q1,q2,X,_⟩:=Iw W (n-a) a R h1 (by omega)
 exact⟨by rw[zN];exact hs,q1,by show 1<=dZ lt _;omega,by show dZ lt _<=n;omega⟩
theorem J7(W:Weak lt)(hs:p.size=n)(D:Dn lt n p (a+1) 0)(ha:a<n):
 (dZ lt (aS a n p)).2.size=n/\Run lt n (dZ lt (aS a n p)).2 (dZ lt (aS a n p)).1/\1<=(dZ lt (aS a n p)).1/\(dZ lt (aS a n p)).1<=n:=by
 obtain⟨q1,q2,Z⟩:=Ed W (n-(a+1)) p (a+1) 0 hs D (by omega)
 have e:dZ lt (aS a n p)=dZ lt (b9 (dZ lt (a7 (n-(a+1)) p (a+1) 0)).2.1 n (turned (dZ lt (a7 (n-(a+1)) p (a+1) 0)).1 (dZ lt (a7 (n-(a+1)) p (a+1) 0)).2.1 (dZ lt (a7 (n-(a+1)) p (a+1) 0)).2.2)):=by
  refine(oU _ _).trans ?_
  unfold turned
  split<;>rfl
 rw[e]
 have l:=q2.le
 exact U_ W (by rw[xG];exact q1) (q2.turn (uw q1 Z l)) (by omega) Z
theorem QS(W:Weak lt)(hs:p.size=n)(hn:1<=n)(R:Run lt n p 1):
 (dZ lt (cf n p)).2.size=n/\Run lt n (dZ lt (cf n p)).2 (dZ lt (cf n p)).1/\1<=(dZ lt (cf n p)).1/\(dZ lt (cf n p)).1<=n:=by
 obtain⟨q1,q2,X,Z⟩:=Iw W (n-1) 1 R (aL _) (by omega)
 have e:dZ lt (cf n p)=_:=oU _ _
 rw[e]
 clear e
 generalize dZ lt (ck p (n-1) 1)=m at q1 q2 X Z ⊢
 by_cases c:(m==n)=true
 ·rw[if_pos c];exact⟨hs,q1,q2,by show m<=n;omega⟩
 ·rw[if_neg c]
  have c:m<n:=by
   have:¬m=n:=by simpa using c
   omega
  have U:=Z (by omega)
  have st:∀p',(∀k,ga p' k=if 0<=k/\k<m then ga p (0+m-1-k)else ga p k)->lt (ga p 0) (ga p (m-1))=false->Dn lt n p' (m+1) 0:=λp' B z=>by
   have D:Desc lt n p' m:=by
    refine⟨λi j V T=>?_,λk Y hn=>?_,λk Y=>?_⟩
    ·rw[B,B,if_pos (by omega),if_pos (by omega)]
     exact q1.asc _ _ (by omega) (by omega)
    ·rw[B,if_neg (by omega)];exact q1.rest k Y hn
    ·rw[B,if_pos (by omega)];exact q1.low _ (by omega)
   have all:∀i,i<m->lt (ga p m) (ga p i)=true:=λi hi=>by
    rcases W.nt _ (ga p i) _ U with w|w
    ·exact w
    ·by_cases y:i=0
     ·subst y;rw[z]at w;cases w
     ·rcases W.nt _ (ga p 0) _ w with v|v
      ·rw[(q1.asc 0 i (by omega) hi).nr W]at v;cases v
      ·rw[z]at v;cases v
   refine D.up c λi hi=>?_
   rw[B,if_neg (by omega),B,if_pos (by omega)]
   exact all _ (by omega)
  by_cases g:m>1
  ·rw[if_pos g]
   show _/\Run lt n (dZ lt (if lt (ga p 0) (ga p (m-1))=true then .ret (m,p)else aS m n (bg p 0 m))).2 (dZ lt (if lt (ga p 0) (ga p (m-1))=true then .ret (m,p)else aS m n (bg p 0 m))).1/\_
   by_cases z:lt (ga p 0) (ga p (m-1))=true
   ·have e:dZ lt (.ask (ga p 0) (ga p (m-1)) λc=>if c=true then .ret (m,p)else aS m n (bg p 0 m))=(m,p):=by
     show dZ lt (if lt (ga p 0) (ga p (m-1))=true then .ret (m,p)else aS m n (bg p 0 m))=_
     rw[if_pos z];rfl
    rw[e,if_pos z]
    exact⟨hs,q1,q2,by show m<=n;omega⟩
   ·have e:dZ lt (.ask (ga p 0) (ga p (m-1)) λc=>if c=true then .ret (m,p)else aS m n (bg p 0 m))=dZ lt (aS m n (bg p 0 m)):=by
     show dZ lt (if lt (ga p 0) (ga p (m-1))=true then .ret (m,p)else aS m n (bg p 0 m))=_
     rw[if_neg z]
    rw[e,if_neg z]
    exact J7 W (by rw[zN];exact hs) (st _ (Iz (by omega)) (by simpa using z)) c
  ·rw[if_neg g]
   have:m=1:=by omega
   subst this
   refine J7 W hs (st p (λk=>?_) (W.irr _)) c
   split
   ·rw[show 0+1-1-k=k by omega]
   ·rfl
theorem Va(W:Weak lt)(hn:1<=n):Run lt n (dZ lt (c0 n)) n:=by
 have Y:∀k,k<n->ga (jw (aV n)) k=k:=λk Z=>by
  simp[ga,h_,Z]
 obtain⟨q1,q2,V,X⟩:=QS (p:=jw (aV n)) W (by simp) hn ⟨λi j h1 h2=>by omega,λk Z h=>Y k h,λk Z=>by rw[Y k (by omega)];exact Z⟩
 have e:dZ lt (c0 n)=_:=oU _ _
 rw[e]
 clear e
 generalize dZ lt (cf n (jw (aV n)))=r at q1 q2 V X ⊢
 by_cases c:r.1<n
 ·rw[if_pos c,show max r.1 1=r.1 by omega]
  exact QM W _ _ _ q1 q2 (by omega)
 ·rw[if_neg c]
  have:r.1=n:=by omega
  rw[<-this]
  rw[<-this]at q2
  exact q2
theorem rT(W:Weak lt)(hn:1<=n):(ou n lt).Pairwise (Rk lt):=by
 have R:=Va W hn
 have z:(ou n lt).length=n:=by
  have:=(jh (n:=n) (by omega) lt).length_eq
  simpa using this
 rw[cA]
 intro i j hi Y Z
 have:=R.asc i j Z (by omega)
 have g:∀k (h:k<(ou n lt).length),ga (dZ lt (c0 n)) k=(ou n lt)[k]:=λk h=>by
  unfold ou at h ⊢
  have h':k<(dZ lt (c0 n)).size:=by simpa using h
  simp[ga,h_,h']
 rw[g i hi,g j Y]at this
 exact this
end
end XS
namespace XS
theorem QT{k:Nat->Int×Int}:Weak λi j=>Al (k i) (k j):=by
 refine⟨λa=>?_,λa b c h1 h2=>?_,λa b c h=>?_⟩
 ·simp[Al]
 ·revert h1 h2
  simp only[Al]
  generalize (k a).1=U
  generalize (k a).2=V
  generalize (k b).1=W
  generalize (k b).2=X
  generalize (k c).1=Y
  generalize (k c).2=Z
  split<;>split<;>split<;>simp only[decide_eq_true_eq]<;>omega
 ·revert h
  simp only[Al]
  generalize (k a).1=U
  generalize (k a).2=V
  generalize (k b).1=W
  generalize (k b).2=X
  generalize (k c).1=Y
  generalize (k c).2=Z
  split<;>split<;>split<;>simp only[decide_eq_true_eq]<;>omega
theorem QV(B:List (Int×Int)):Weak (ltP B):=QT (k:=λi=>B.getD i (0,0))
theorem v5{k:Nat->Int}:Weak λi j=>decide (k i<k j):=by
 refine⟨λa=>?_,λa b c h1 h2=>?_,λa b c h=>?_⟩
 ·simp
 ·simp only[decide_eq_true_eq]at *;omega
 ·simp only[decide_eq_true_eq]at *;omega
theorem Mh{lt:Nat->Nat->Bool}(W:Weak lt):∀{l m:List Nat},l.Perm m->l.Pairwise (Rk lt)->m.Pairwise (Rk lt)->l=m:=by
 intro l m h h1 h2
 refine List.Perm.eq_of_pairwise (le:=Rk lt) (λa b _ _ x y=>?_) h1 h2 h
 have n1:=x.nr W
 have n2:=y.nr W
 rcases x with x|⟨_,x⟩
 ·rw[x]at n2;cases n2
 ·rcases y with y|⟨_,y⟩
  ·rw[y]at n1;cases n1
  ·omega
theorem zO{lt:Nat->Nat->Bool}(W:Weak lt)(hn:1<=n){m:List Nat}(h:m.Perm (aV n))(h2:m.Pairwise (Rk lt)):ou n lt=m:=
 Mh W ((jh (by omega) lt).trans h.symm) (rT W hn) h2
end XS
namespace Com
open PySem D3 My XS
theorem ad6{k:Nat->Int}(h:Rk (λi j=>decide (k i<k j)) i j):k i<=k j:=by
 rcases h with z|⟨z,_⟩
 ·have z:=of_decide_eq_true z;omega
 ·have z:=of_decide_eq_false z;omega
end Com
namespace Com
open PySem D3 My
def r6(x:Int):Prop:=0<=x/\x<1000000
abbrev Wi:=Int×Int×Int
def wiD(w:Wi):D:=.tuple [.int w.1,.int w.2.1,.int w.2.2]
end Com
namespace Com
open PySem D3 My
theorem mz{α:Type}(f:α->D){l:List α}(x:α){i:Int}(B:0<=i)(h1:i<l.length):pAt (l.map f) i=some (f (l.getD i.toNat x)):=by
 have Z:i.toNat<l.length:=by omega
 obtain⟨k,rfl⟩:∃k:Nat,i=(k:Int):=⟨i.toNat,by omega⟩
 rw[Ea,bw,aH]
 simp only[eZ]at Z ⊢
 rw[aB Z]
 rfl
end Com
namespace Com
open PySem D3 My
theorem Mi(fs:List Int):qw (fs.map .int)=(aV fs.length).map λk:Nat=>PyData.tuple [.int (k:Int),.int (fs.getD k 0)]:=by
 unfold qw
 apply dX
 intro i
 rw[fO,bw,bw]
 by_cases h:i<fs.length
 ·have e:fs.getD i 0=fs[i]:=by rw[aH,aB h];rfl
  rw[dM h,aB h,kZ,kZ,kZ,e]
 ·rw[bG (by simpa using h),bG (by simpa using h)]
  rfl
end Com
namespace Com
open PySem D3 My
theorem v7(P:Nat->Bool):∀n,(∃m,m<n/\P m=true/\∀i,i<m->P i=false)\/∀i,i<n->P i=false
 |0=>.inr λi h=>by omega
 |n+1=>by
  rcases v7 P n with⟨m,h1,h2,Z⟩|h
  ·exact .inl ⟨m,by omega,h2,Z⟩
  ·cases c:P n with
   |true=>exact .inl ⟨n,by omega,c,h⟩
   |false=>
    refine .inr λi hi=>?_
    by_cases e:i=n
    ·rw[e];exact c
    ·exact h i (by omega)
end Com
variable{row held:List Int}
namespace Sd
abbrev Gp:=Int×Int×Nat
abbrev Pl:=Gp×Nat
def gok(g:Gp):Prop:=0<=g.1/\g.1<g.2.1/\1<=g.2.2
def inn(p:Pl)(r:Nat):Prop:=p.2<=r/\r<p.2+p.1.2.2
def fits(row:List Int)(g:Gp)(s:Nat):Prop:=s+g.2.2<=row.length/\∀r,s<=r->r<s+g.2.2->row.getD r 0<=g.1
noncomputable def cell(g:Gp)(s r:Nat)(e:Int):Int:=if s<=r/\r<s+g.2.2 then g.2.1 else if e<=g.1 then 0 else e
def put(row:List Int)(g:Gp)(s:Nat):List Int:=row.mapIdx (cell g s)
theorem yr(row:List Int)(g:Gp)(s:Nat):(put row g s).length=row.length:=by unfold put;rw[List.length_mapIdx]
theorem Vb{g:Gp}{s r:Nat}(h:r<row.length):(put row g s).getD r 0=cell g s r (row.getD r 0):=by
 unfold put
 rw[aH,fO,aH,aB h]
 rfl
def Run:List Int->List Pl->List Int->Prop
 |row,[],out=>out=row
 |row,p::ps,out=>fits row p.1 p.2/\Run (put row p.1 p.2) ps out
def Jv(held:List Int)(done:List Pl)(row:List Int):Prop:=row.length=held.length/\∀r,r<held.length->∀x:Int,0<=x->(∀p∈done,p.1.1<=x) ->
 (row.getD r 0<=x<->held.getD r 0<=x/\∀p∈done,inn p r->p.1.2.1<=x)
theorem Jv.nil(held:List Int):Jv held [] held:=⟨rfl,λr _ x _ _=>⟨λh=>⟨h,λp Z=>by cases Z⟩,λh=>h.1⟩⟩
theorem Jv.step{done:List Pl}{p:Pl}(h:Jv held done row)(ok:gok p.1)(asc:∀q∈done,q.1.1<=p.1.1)(ft:fits row p.1 p.2):Jv held (done++[p]) (put row p.1 p.2):=by
 obtain⟨T,W⟩:=h
 obtain⟨U,R,_⟩:=ok
 refine⟨(yr _ _ _).trans T,λr X x V Y=>?_⟩
 have S:p.1.1<=x:=Y p (bI _ (aN.mpr rfl))
 have xd:∀q∈done,q.1.1<=x:=λq Z=>Y q (cB _ Z)
 have j1:=W r X x V xd
 rw[Vb (by omega)]
 have all:(∀q∈done++[p],inn q r->q.1.2.1<=x)<->(∀q∈done,inn q r->q.1.2.1<=x)/\(inn p r->p.1.2.1<=x):=by
  constructor
  ·exact λz=>⟨λq Z=>z q (cB _ Z),z p (bI _ (aN.mpr rfl))⟩
  ·rintro⟨z1,z2⟩ q Z
   rcases cG.mp Z with k|k
   ·exact z1 q k
   ·rw[aN.mp k];exact z2
 rw[all]
 unfold cell
 by_cases c:p.2<=r/\r<p.2+p.1.2.2
 ·rw[if_pos c]
  have f1:=ft.2 r c.1 c.2
  have j2:=(W r X p.1.1 U asc).mp f1
  constructor
  ·exact λz=>⟨by have:=j2.1;omega,λq Z hi=>by have:=j2.2 q Z hi;omega,λ_=>z⟩
  ·exact λz=>z.2.2 c
 ·rw[if_neg c]
  have e:((if row.getD r 0<=p.1.1 then 0 else row.getD r 0)<=x)<->row.getD r 0<=x:=by split<;>omega
  rw[e,j1]
  exact⟨λz=>⟨z.1,z.2,λy=>absurd y c⟩,λz=>⟨z.1,z.2.1⟩⟩
def apart(p q:Pl):Prop:=p.1.2.1<=q.1.1\/q.1.2.1<=p.1.1\/p.2+p.1.2.2<=q.2\/q.2+q.1.2.2<=p.2
def home(held:List Int)(p:Pl):Prop:=fits held p.1 p.2
theorem QW{done:List Pl}{p:Pl}(h:Jv held done row)(ok:gok p.1)(B:∀q∈done,gok q.1/\q.1.1<=p.1.1)(hd:∀q∈done,q.2+q.1.2.2<=held.length):
 fits row p.1 p.2<->home held p/\∀q∈done,apart q p:=by
 obtain⟨T,S⟩:=h
 have j:=λr V=>S r V p.1.1 ok.1 λq Z=>(B q Z).2
 unfold home fits
 rw[T]
 constructor
 ·rintro⟨f1,f2⟩
  refine⟨⟨f1,λr X Y=>((j r (by omega)).mp (f2 r X Y)).1⟩,λq Z=>?_⟩
  unfold apart
  apply Classical.byContradiction
  intro W
  have W:¬q.1.2.1<=p.1.1/\¬p.1.2.1<=q.1.1/\¬q.2+q.1.2.2<=p.2/\¬p.2+p.1.2.2<=q.2:=by omega
  have s1:=ok.2.2
  have s2:=(B q Z).1.2.2
  by_cases k:q.2<=p.2
  ·have:=((j p.2 (by omega)).mp (f2 p.2 (aL _) (by omega))).2 q Z ⟨k,by omega⟩
   omega
  ·have U:=hd q Z
   have:=((j q.2 (by omega)).mp (f2 q.2 (by omega) (by omega))).2 q Z ⟨aL _,by omega⟩
   omega
 ·rintro⟨⟨f1,f2⟩,R⟩
  refine⟨f1,λr X Y=>(j r (by omega)).mpr ⟨f2 r X Y,λq Z hi=>?_⟩⟩
  have a:=R q Z
  have o:=B q Z
  have P:=ok.2.1
  have Q:=o.1.2.1
  unfold apart at a
  unfold inn at hi
  omega
def Sit(held:List Int)(ps:List Pl):Prop:=(∀p∈ps,home held p)/\ps.Pairwise apart
theorem u9:∀{ps done:List Pl}{row:List Int},Jv held done row->(∀p∈done,home held p)->(∀p∈done++ps,gok p.1)->(done++ps).Pairwise (λp q=>p.1.1<=q.1.1) ->
 ((∃out,Run row ps out/\Jv held (done++ps) out)<->(∀p∈ps,home held p)/\(∀q∈done,∀p∈ps,apart q p)/\ps.Pairwise apart)
 |[],done,row,j,_,_,_=>by
  constructor
  ·exact λ_=>⟨λp U=>(by cases U),λq _ p U=>(by cases U),.nil⟩
  ·exact λ_=>⟨row,rfl,by rw[cW];exact j⟩
 |p::ps,done,row,j,hd,ok,asc=>by
  have Y:=ok p (bI _ aJ)
  have T:∀q∈done,q.1.1<=p.1.1:=λq Z=>(aO.mp asc).2.2 q Z p aJ
  have fi:=QW j Y (λq Z=>⟨ok q (cB _ Z),T q Z⟩) (λq Z=>(hd q Z).1)
  have e:done++p::ps=(done++[p])++ps:=by rw[aR];rfl
  constructor
  ·rintro⟨out,⟨f,r⟩,V⟩
   obtain⟨f1,f2⟩:=fi.mp f
   have W:=(u9 (ps:=ps) (done:=done++[p]) (j.step Y T f) (λq Z=>by
    rcases cG.mp Z with k|k
    ·exact hd q k
    ·rw[aN.mp k];exact f1) (e▸ok) (e▸asc)).mp ⟨out,r,e▸V⟩
   refine⟨λq Z=>?_,λq Z x X=>?_,bZ.mpr ⟨λx X=>W.2.1 p (bI _ (aN.mpr rfl)) x X,W.2.2⟩⟩
   ·rcases aU.mp Z with rfl|k
    ·exact f1
    ·exact W.1 q k
   ·rcases aU.mp X with rfl|k
    ·exact f2 q Z
    ·exact W.2.1 q (cB _ Z) x k
  ·rintro⟨h1,h2,Q⟩
   obtain⟨R,S⟩:=bZ.mp Q
   have f:=fi.mpr ⟨h1 p aJ,λq Z=>h2 q Z p aJ⟩
   obtain⟨out,r,V⟩:=(u9 (ps:=ps) (done:=done++[p]) (j.step Y T f) (λq Z=>by
    rcases cG.mp Z with k|k
    ·exact hd q k
    ·rw[aN.mp k];exact h1 p aJ) (e▸ok) (e▸asc)).mpr ⟨λq Z=>h1 q (aK _ Z),λq Z x X=>by
     rcases cG.mp Z with k|k
     ·exact h2 q k x (aK _ X)
     ·rw[aN.mp k];exact R x X,S⟩
   exact⟨out,⟨f,r⟩,e▸V⟩
theorem J8{ps:List Pl}(ok:∀p∈ps,gok p.1)(asc:ps.Pairwise λp q=>p.1.1<=q.1.1):(∃out,Run held ps out)<->Sit held ps:=by
 have h:=u9 (ps:=ps) (done:=[]) (Jv.nil held) (λp V=>by cases V) (by rw[dH];exact ok) (by rw[dH];exact asc)
 constructor
 ·rintro⟨out,r⟩
  have X:Jv held ([]++ps) out:=by
   have go:∀{ps done:List Pl}{row out:List Int},Jv held done row->(∀p∈done++ps,gok p.1)->(done++ps).Pairwise (λp q=>p.1.1<=q.1.1)->Run row ps out->Jv held (done++ps) out:=by
    intro ps
    induction ps with
    |nil=>
     intro done row out j _ _ r
     have:out=row:=r
     rw[cW,this]
     exact j
    |cons p ps W=>
     intro done row out j ok asc r
     have e:done++p::ps=(done++[p])++ps:=by rw[aR];rfl
     have U:∀q∈done,q.1.1<=p.1.1:=λq Z=>(aO.mp asc).2.2 q Z p aJ
     rw[e]
     exact W (j.step (ok p (bI _ aJ)) U r.1) (e▸ok) (e▸asc) r.2
   exact go (Jv.nil held) (by rw[dH];exact ok) (by rw[dH];exact asc) r
  obtain⟨h1,_,Y⟩:=h.mp ⟨out,r,X⟩
  exact⟨h1,Y⟩
 ·rintro⟨h1,Y⟩
  obtain⟨out,r,_⟩:=h.mpr ⟨h1,(λq Z=>by cases Z),Y⟩
  exact⟨out,r⟩
end Sd
namespace K78
open PySem D3
abbrev iz:List D->Option D:=Com.iz
abbrev fX:List D->Option D:=Com.fX
def nU:List D->Option D:=fnD 1 0 (dF (dCall SQ (au (jF (wI (ao 0)) (gNl 0) (mK) (dCall iz (au (ao 0) (aZ))) 1 []) (aZ))))
def kY:List D->Option D:=fnD 2 0 (dF (Ai (dUn (gIs "tuple") (ao 0)) (Ai (dOp gEq (dCall iZ (au (ao 0) (aZ))) (ao 1)) (dCall nU (au (ao 0) (aZ))))))
def qW:List D->Option D:=fnD 1 0 (dF (dCall kY (au (ao 0) (au (dC (.int 2)) (aZ)))))
def mC:List D->Option D:=fnD 1 0 (dF (Ai (dCall qW (au (ao 0) (aZ))) (xX gLe gLt gLe (dC (.int 0)) (dOp gIx (ao 0) (dC (.int 0))) (dOp gIx (ao 0) (dC (.int 1))) (dC (.int 400)))))
abbrev jQ:List D->Option D:=Com.jQ
def m8:List D->Option D:=fnD 1 0 (bW (sIf (D3.tOr (D3.jl (bN (dUn (gIs "tuple") (ao 0)))) (bN (dOp gNe (dCall iZ (au (ao 0) (aZ))) (dC (.int 3))))) (dF (dC (.bool false))) (dJ))
    (dF (Ai (dCall mC (au (dCall jQ (au (ao 0) (aZ))) (aZ))) (dCall fX (au (dOp gIx (ao 0) (dC (.int 2))) (au (dC (.int 1)) (au (dC (.int 6)) (aZ))))))))
def jT:List D->Option D:=fnD 1 2 (mV (Jp (ao 0)) (gTn 2 (cF (gNl 1) (cF (gNl 2) (jE)))) (sIf (D3.jl (bN (dCall m8 (au (ao 2) (aZ))))) ((λ_=>none)) (dJ)))
def jY:List D->Option D:=fnD 1 0 (dF (XS.D_ (dCall yV (au (dCall iZ (au (ao 0) (aZ))) (aZ))) XS.dK0 [0]))
def jr:List D->Option D:=fnD 2 1 (bW (bU 2 (dOp uz (dCall iZ (au (ao 0) (aZ))) (dOp gIx (ao 1) (dC (.int 2)))))
    (dF (jF (mO (au (dOp eF (ao 2) (dC (.int 1))) (aZ))) (gNl 0) (bN (dOp gLe (dCall uJ (au (xO (ao 2) (d8 (ao 0)) (d8 (dOp eF (ao 0) (dOp gIx (ao 1) (dC (.int 2)))))) (aZ))) (dOp gIx (ao 1) (dC (.int 0))))) (iy (ao 0)) 1 [1,0])))
abbrev fY:List D->Option D:=Com.fY
def gF:List D->Option D:=fnD 3 1 (bW (bU 3 (dOp eF (ao 2) (dOp gIx (ao 1) (dC (.int 2)))))
    (dF (dUn pN (jF (Il (ao 0)) (gTn 2 (cF (gNl 0) (cF (gNl 1) (jE)))) (mK) (dCall fY (au (ao 1) (au (ao 2) (au (lX gLe gLt (ao 3) (ao 0) (ao 4)) (aZ))))) 2 [1,2,3]))))
def fB:List D->Option D:=fnD 2 3 (bW (bU 2 (dC (.dict [])))
    (bW (mV (rK (ao 0)) (gNl 3) (mV (rK (dCall jr (au (ao 3) (au (ao 1) (aZ))))) (gNl 4) (tQ 2 (dCall gF (au (ao 3) (au (ao 1) (au (ao 4) (aZ))))) (dTup (au (ao 3) (au (ao 4) (aZ)))))))
    (dF (ao 2))))
def jZ:List D->Option D:=fnL 2 4 (bW (bU 2 (iY (aZ)))
    (bW (bU 3 (iY (au (dUn pN (ao 0)) (aZ))))
    (bW (mV (rK (dCall jY (au (ao 1) (aZ)))) (gNl 4) (bW (bU 5 (dCall fB (au (ao 3) (au (dOp gIx (ao 1) (ao 4)) (aZ)))))
    (bW (vC 2 (ao 5))
    (bW (sIf (bN (dOp gGt (dCall XJ.mQ (au (ao 5) (aZ))) (dC (.int 400)))) ((λ_=>none)) (dJ))
    (bW (sIf (bN (dOp gEq (dCall XJ.mQ (au (ao 5) (aZ))) (dC (.int 0)))) (tO (ao 2)) (dJ))
    (bU 3 (dCall XJ.ji (au (ao 5) (aZ)))))))))
    (tO (ao 2)))))
def lH:List D->Option D:=fnD 2 4 (bW (bU 2 (dOp uD (iY (au (dC (.none)) (aZ))) (dCall iZ (au (ao 1) (aZ)))))
    (bW (bU 3 (dC (.none)))
    (bW (mV (S6 (dOp wL (dCall jY (au (ao 1) (aZ))) (ao 0))) (gTn 2 (cF (gNl 4) (cF (gNl 5) (jE)))) (bW (sIf (bN (dUn Fv (ao 3))) (bU 3 (dOp gIx (dCall XJ.ji (au (ao 5) (aZ))) (dC (.int 0)))) (dJ))
    (bW (CG 2 (ao 4) (dOp gIx (dOp lD (ao 5) (ao 3)) (dC (.int 1))))
    (bU 3 (dOp gIx (dOp lD (ao 5) (ao 3)) (dC (.int 0)))))))
    (dF (HJ (ao 2))))))
def fL:List D->Option D:=fnD 2 1 (bW (bU 2 (dCall jZ (au (ao 0) (au (ao 1) (aZ)))))
    (bW (sIf (D3.Cr (bN (dOp gGt (dCall iZ (au (ao 2) (aZ))) (dC (.int 0)))) (bN (dOp gEq (dCall XJ.mQ (au (dOp gIx (ao 2) (dUn SN (dC (.int 1)))) (aZ))) (dC (.int 0))))) (dF (dTup (au (dC (.str "none")) (au (jF (rK (ao 2)) (gNl 0) (mK) (dCall XJ.ji (au (ao 0) (aZ))) 1 []) (aZ))))) (dJ))
    (dF (dTup (au (dC (.str "laid")) (au (dCall lH (au (ao 2) (au (ao 1) (aZ)))) (aZ)))))))
def u_:List D->Option D:=fnD 2 0 (bW (Jo (dCall jT (au (ao 1) (aZ))))
    (dF (dCall fL (au (ao 0) (au (ao 1) (aZ))))))
abbrev jq:List D->Option D:=Com.jq
abbrev bR:List D->Option D:=Com.bR
abbrev dw:List D->Option D:=Com.dw
abbrev dG:List D->Option D:=Com.dG
abbrev jR:List D->Option D:=Com.jR
abbrev jP:List D->Option D:=Com.jP
abbrev i_:List D->Option D:=Com.i_
def mD:List D->Option D:=fnD 1 0 (dF (jF (rK (dCall XS.zf (au (jF (mO (au (dCall iZ (au (ao 0) (aZ))) (aZ))) (gNl 0) (mK) (iy (dTup (au (dOp gIx (dOp gIx (ao 1) (ao 0)) (dC (.int 0))) (au (ao 0) (aZ))))) 1 [0]) (aZ)))) (gNl 0) (mK) (iy (dOp gIx (ao 1) (dOp gIx (ao 0) (dC (.int 1))))) 1 [0]))
def iw:List D->Option D:=fnD 2 8 (bW (Cz (ao 1) (gTn 3 (cF (gNl 2) (cF (gNl 3) (cF (gNl 4) (jE))))))
    (bW (bU 5 (dC (.dict [])))
    (bW (mV (wI (ao 0)) (gNl 6) (bW (bU 7 (jF (wI (ao 6)) (gNl 0) (mK) (iy (dOp gIx (iY (au (ao 0) (au (dC (.int 0)) (aZ)))) (dCall sV (au (dOp gLe (ao 0) (ao 1)) (aZ))))) 1 [2]))
    (mV (mO (au (dOp eF (dOp uz (dCall iZ (au (ao 6) (aZ))) (ao 4)) (dC (.int 1))) (aZ))) (gNl 8) (sIf (bN (dOp gLe (dCall uJ (au (xO (ao 6) (d8 (ao 8)) (d8 (dOp eF (ao 8) (ao 4)))) (aZ))) (ao 2))) (bW (bU 9 (dOp kj (dSl (ao 7) kJ (d8 (ao 8))) (dOp uD (iY (au (ao 3) (aZ))) (ao 4))))
    (tV 5 (dUn pN (dOp kj (ao 9) (dSl (ao 7) (d8 (dOp eF (ao 8) (ao 4))) kJ))))) (dJ)))))
    (dF (dCall XJ.ji (au (ao 5) (aZ)))))))
def jk:List D->Option D:=fnD 2 1 (bW (sIf (D3.jl (bN (dUn (gIs "list") (ao 0)))) (dF (dC (.bool false))) (dJ))
    (bW (mV (wI (ao 0)) (gNl 2) (bW (sIf (D3.tOr (D3.jl (bN (dUn (gIs "tuple") (ao 2)))) (bN (dOp gNe (dCall iZ (au (ao 2) (aZ))) (ao 1)))) (dF (dC (.bool false))) (dJ))
    (sIf (bN (dOp gNe (jF (wI (ao 2)) (gNl 0) (D3.jl (bN (dCall dw (au (ao 0) (aZ))))) (iy (ao 0)) 1 []) (iY (aZ)))) (dF (dC (.bool false))) (dJ))))
    (dF (dC (.bool true)))))
def jc:List D->Option D:=fnD 3 3 (bW (sIf (D3.tOr (D3.jl (bN (dUn (gIs "list") (ao 2)))) (D3.jl (bN (lX gLe gLe (dC (.int 1)) (dCall iZ (au (ao 2) (aZ))) (dCall iZ (au (ao 1) (aZ))))))) (dF (dC (.bool false))) (dJ))
    (bW (sIf (bN (dOp gNe (jF (rK (ao 2)) (gNl 0) (D3.jl (bN (dCall jk (au (ao 0) (au (dCall iZ (au (ao 1) (aZ))) (aZ)))))) (iy (ao 0)) 1 [0]) (iY (aZ)))) (dF (dC (.bool false))) (dJ))
    (bW (bU 3 (iY (au (dUn pN (ao 0)) (aZ))))
    (bW (mV (SX (ao 2) (dCall mD (au (ao 1) (aZ)))) (gTn 2 (cF (gNl 4) (cF (gNl 5) (jE)))) (bW (sIf (bN (dOp gNe (jF (rK (dCall iw (au (ao 3) (au (ao 5) (aZ))))) (gNl 0) (bN (dOp tM (ao 0) (ao 1))) (iy (ao 0)) 1 [4]) (iY (aZ)))) (dF (dC (.bool false))) (dJ))
    (bU 3 (ao 4))))
    (dF (dOp gEq (ao 3) (iY (aZ))))))))
def bL:List D->Option D:=fnD 2 1 (bW (bU 2 (dCall u_ (au (dUn wY (ao 0)) (au (dUn wY (ao 1)) (aZ)))))
    (bW (sIf (D3.tOr (D3.jl (bN (dUn (gIs "tuple") (ao 2)))) (bN (dOp gNe (dCall iZ (au (ao 2) (aZ))) (dC (.int 2))))) (dF (dC (.str "other"))) (dJ))
    (bW (sIf (D3.Cr (bN (dOp gEq (dOp gIx (ao 2) (dC (.int 0))) (dC (.str "laid")))) (bN (dCall jR (au (ao 0) (au (ao 1) (au (dOp gIx (ao 2) (dC (.int 1))) (aZ))))))) (dF (dC (.str "laid"))) (dJ))
    (bW (sIf (D3.Cr (bN (dOp gEq (dOp gIx (ao 2) (dC (.int 0))) (dC (.str "none")))) (bN (dCall jc (au (ao 0) (au (ao 1) (au (dOp gIx (ao 2) (dC (.int 1))) (aZ))))))) (dF (dC (.str "none"))) (dJ))
    (dF (dC (.str "other")))))))
def mF:List D->Option D:=fnD 3 1 (bW (bU 3 (jF (rK (ao 0)) (gNl 0) (mK) (dOp eF (ao 0) (dOp qu (ao 1) (dCall sV (au (dOp gGt (ao 0) (dC (.int 0))) (aZ))))) 1 [2]))
    (dF (dCall bL (au (ao 3) (au (jF (rK (ao 1)) (gTn 3 (cF (gNl 0) (cF (gNl 1) (cF (gNl 2) (jE))))) (mK) (iy (dTup (au (dOp eF (ao 0) (ao 3)) (au (dOp eF (ao 1) (ao 3)) (au (ao 2) (aZ)))))) 3 [2]) (aZ))))))
def mG:List D->Option D:=fnD 3 8 (bW (bU 3 (dCall bR (au (ao 0) (au (dC (.int 0)) (au (dC (.int 2)) (au (dCall iZ (au (ao 2) (aZ))) (aZ)))))))
    (bW (bU 4 (dCall bR (au (ao 0) (au (dC (.int 0)) (au (dC (.int 3)) (au (dCall iZ (au (ao 1) (aZ))) (aZ)))))))
    (bW (Cz (dOp gIx (ao 2) (ao 3)) (gTn 3 (cF (gNl 5) (cF (gNl 6) (cF (gNl 7) (jE))))))
    (bW (bU 8 (dOp kj (dOp kj (dSl (ao 2) kJ (d8 (ao 3))) (iY (au (dTup (au (ao 5) (au (dCall yO (au (dOp eF (ao 5) (dC (.int 1))) (au (dOp uz (ao 6) (dC (.int 1))) (aZ)))) (au (ao 7) (aZ))))) (aZ)))) (dSl (ao 2) (d8 (dOp eF (ao 3) (dC (.int 1)))) kJ)))
    (bW (bU 9 (dOp kj (dOp kj (dSl (ao 1) kJ (d8 (ao 4))) (iY (au (dCall yO (au (dC (.int 0)) (au (dOp uz (dOp gIx (ao 1) (ao 4)) (dC (.int 1))) (aZ)))) (aZ)))) (dSl (ao 1) (d8 (dOp eF (ao 4) (dC (.int 1)))) kJ)))
    (bW (bU 10 (iY (au (dCall bL (au (ao 1) (au (dOp kj (dSl (ao 2) kJ (d8 (ao 3))) (dSl (ao 2) (d8 (dOp eF (ao 3) (dC (.int 1)))) kJ)) (aZ)))) (au (dCall bL (au (dOp kj (ao 1) (iY (au (dC (.int 0)) (aZ)))) (au (ao 2) (aZ)))) (aZ)))))
    (bW (bU 10 (dOp kj (ao 10) (iY (au (dCall bL (au (dOp kj (iY (au (dC (.int 0)) (aZ))) (ao 1)) (au (ao 2) (aZ)))) (au (dCall bL (au (ao 9) (au (ao 2) (aZ)))) (au (dCall bL (au (ao 1) (au (ao 8) (aZ)))) (aZ)))))))
    (dF (dOp gEq (ao 10) (dOp uD (iY (au (dC (.str "laid")) (aZ))) (dC (.int 5))))))))))))
def QX:List D->Option D:=fnD 1 6 (bW (bU 1 (dOp eF (dC (.int 1)) (dCall bR (au (ao 0) (au (dC (.int 0)) (au (dC (.int 0)) (au (dC (.int 4)) (aZ))))))))
    (bW (bU 2 (dCall jP (au (ao 0) (au (ao 1) (aZ)))))
    (bW (bU 3 (dCall i_ (au (ao 0) (au (ao 1) (au (dOp eF (dC (.int 1)) (dCall bR (au (ao 0) (au (dC (.int 0)) (au (dC (.int 1)) (au (dC (.int 7)) (aZ))))))) (aZ))))))
    (bW (bU 4 (dCall bL (au (ao 2) (au (ao 3) (aZ)))))
    (bW (sIf (bN (dOp gEq (ao 4) (dC (.str "other")))) (dF (dC (.bool false))) (dJ))
    (bW (bU 5 (dCall bR (au (ao 0) (au (dC (.int 0)) (au (dC (.int 4)) (au (dCall iZ (au (ao 3) (aZ))) (aZ)))))))
    (bW (bU 6 (iY (au (dCall bL (au (dUn Fx (ao 2)) (au (ao 3) (aZ)))) (au (dCall bL (au (ao 2) (au (dUn Fx (ao 3)) (aZ)))) (aZ)))))
    (bW (bU 6 (dOp kj (ao 6) (iY (au (dCall bL (au (ao 2) (au (dOp kj (dSl (ao 3) (d8 (ao 5)) kJ) (dSl (ao 3) kJ (d8 (ao 5)))) (aZ)))) (aZ)))))
    (bW (bU 6 (dOp kj (ao 6) (iY (au (dCall mF (au (ao 2) (au (ao 3) (au (dOp eF (dC (.int 1)) (dCall bR (au (ao 0) (au (dC (.int 0)) (au (dC (.int 5)) (au (dC (.int 8)) (aZ))))))) (aZ))))) (aZ)))))
    (bW (sIf (bN (dOp gNe (ao 6) (dOp uD (iY (au (ao 4) (aZ))) (dC (.int 4))))) (dF (dC (.bool false))) (dJ))
    (dF (dOr (dOp gEq (ao 4) (dC (.str "none"))) (dCall mG (au (ao 0) (au (ao 2) (au (ao 3) (aZ)))))))))))))))))
end K78
variable{g:Com.Wi}{gs gs':List Com.Wi}{hs hs':List Int}{rows:List (List Int)}
namespace K78
open PySem D3 My Com
def isI:D->Bool
 | .int _=>true
 |_=>false
theorem wh(d:D):Com.iz [d]=some (.bool (isI d)):=by
 unfold Com.iz
 cases d<;>rfl
theorem lwh(d:D):Com.dw [d]=some (.bool (isI d)):=by
 unfold Com.dw
 cases d<;>rfl
def two:D->Bool
 | .tuple [x,y]=>isI x&&isI y
 |_=>false
theorem all2(x y:D):nU [.tuple [x,y]]=some (.bool (isI x&&isI y)):=by
 have C:=Ao (g:=(gNl 0)) (c:=(D3.mK)) (e:=(dCall iz (au (ao 0) (aZ)))) (δ:=[none]) (λd:D=>d) (λd=>.bool (isI d)) [x,y] (λd _=>⟨[some (.d d)],rfl,rfl,by simp only[EV,reduceIte,aA,aC,aj,ak,aD,aF,aG,wh]⟩)
 have C:lG (gNl 0) (D3.mK) (dCall iz (au (ao 0) (aZ))) [none] [x,y]=some [.bool (isI x),.bool (isI y)]:=C
 have Z:∀a:Option U,n_ 1 [] [a]=[none]:=λ_=>rfl
 have ga:SQ [.list [.bool (isI x),.bool (isI y)]]=some (.bool (isI x&&isI y)):=by cases isI x<;>cases isI y<;>rfl
 unfold nU
 simp only[EV,reduceIte,aA,aC,aj,ak,aD,aF,aG,Xn,Xo,show 2<=100000 by decide,Z,C,ga]
theorem len2(h:l.length=2):∃x y,l=[x,y]:=by
 match l,h with
 |[x,y],_=>exact⟨x,y,rfl⟩
theorem two_no(h:¬l.length=2):two (.tuple l)=false:=by
 match l,h with
 |[],_=>rfl
 |[_],_=>rfl
 |[_,_],h=>exact absurd rfl h
 |_::_::_::_,_=>rfl
theorem isTup:D3.isT "tuple" "tuple"=true:=by decide
theorem zP(d:D):qW [d]=some (.bool (two d)):=by
 have T:kY [d,.int 2]=some (.bool (two d)):=by
  unfold kY
  cases d with
  |tuple l=>
   by_cases h:l.length=2
   ·obtain⟨x,y,rfl⟩:=len2 h
    simp only[EV,reduceIte,aA,aC,aj,ak,aD,aF,aG,tyD,isTup,show iZ [PyData.tuple [x,y]]=some (.int 2)from rfl,show gEq (.int 2) (.int 2)=some (.bool true)from rfl,all2]
    rfl
   ·have Z:iZ [PyData.tuple l]=some (.int (l.length:Int)):=rfl
    rw[two_no h]
    simp only[EV,reduceIte,aA,aC,aj,ak,aD,aF,aG,tyD,isTup,Z,dFa (show ¬(l.length:Int)=2 by omega)]
  |_=>rfl
 unfold qW
 simp only[EV,reduceIte,aA,aC,aj,ak,aD,aF,aG,T]
theorem tw(a b:Int):two (.tuple [.int a,.int b])=true:=rfl
def stB(a b:Int):Bool:=decide (0<=a)&&(decide (a<b)&&decide (b<=400))
theorem GK(a b:Int):mC [.tuple [.int a,.int b]]=some (.bool (stB a b)):=by
 unfold mC stB
 by_cases c:0<=a
 ·by_cases Z:a<b
  ·simp only[EV,reduceIte,aA,aC,aj,ak,aD,aF,aG,zP,tw,at0,at1,dTr c,dTr Z]
   rfl
  ·simp only[EV,reduceIte,aA,aC,aj,ak,aD,aF,aG,zP,tw,at0,at1,dTr c,dFa Z]
   rfl
 ·simp only[EV,reduceIte,aA,aC,aj,ak,aD,aF,aG,zP,tw,at0,at1,dFa c]
  rfl
structure grOk(g:Wi):Prop where
 f:0<=g.1
 b:g.1<g.2.1
 n:g.2.1<=400
 s:1<=g.2.2
 t:g.2.2<=6
theorem IK(g:Wi):Com.jQ [wiD g]=some (.tuple [.int g.1,.int g.2.1]):=by
 unfold Com.jQ wiD
 simp only[EV,reduceIte,aA,aC,aj,ak,aD,aF,aG,at0,at1,sz (show 2<=1000000 by decide)]
theorem Mj(h:grOk g):m8 [wiD g]=some (.bool true):=by
 have S:=GK g.1 g.2.1
 rw[show stB g.1 g.2.1=true by unfold stB;rw[dTr h.f,dTr h.b,dTr h.n];rfl]at S
 have W:Com.fX [.int g.2.2,.int 1,.int 6]=some (.bool true):=by
  unfold Com.fX
  simp only[EV,reduceIte,aA,aC,aj,ak,aD,aF,aG,wh,isI,dTr h.s,dTr h.t]
 have N:=IK g
 have i2:gIx (wiD g) (.int 2)=some (.int g.2.2):=rfl
 unfold m8
 simp only[EV,reduceIte,aA,aC,aj,ak,aD,aF,aG,show D3.isT "tuple" (tyD (wiD g))=true from rfl,show iZ [wiD g]=some (.int 3)from rfl,show gNe (.int 3) (.int 3)=some (.bool false)from rfl,cT,N,S,i2,W]
theorem Mp(h:∀g∈gs,grOk g):jT [.list (gs.map wiD)]=some .none:=by
 unfold jT
 simp only[EV,reduceIte,aA,aC,aj,ak,aD,aF,aG]
 obtain⟨δ',e,Y,y1,rfl⟩:=uq (g:=(gTn 2 (cF (gNl 1) (cF (gNl 2) (jE))))) (b:=(sIf (D3.jl (bN (dCall m8 (au (ao 2) (aZ))))) ((λ_=>none)) (dJ))) (λ_ δ=>∃y1 Z:Option U,δ=[some (.d (.list (gs.map wiD))),y1,Z]) (qw (gs.map wiD)) [some (.d (.list (gs.map wiD))),none,none] ⟨none,none,rfl⟩
  (by
   rintro i d δ hd ⟨y1,Z,rfl⟩
   unfold qw at hd
   rw[fO,bw]at hd
   cases hw:gs[i]? with
   |none=>rw[hw]at hd;cases hd
   |some w=>
    rw[hw]at hd
    cases hd
    refine⟨_,_,rfl,.inl ?_,some (.d (.int (i:Int))),some (.d (wiD w)),rfl⟩
    simp only[EV,reduceIte,aA,aC,aj,ak,aD,aF,aG,Mj (h w (gG hw))])
 rw[e]
 simp only[EV,reduceIte,aA,aC,aj,ak,aD,aF,aG]
def meB(g k:Wi):Bool:=decide ((if k.1>g.1 then k.1 else g.1)<(if k.2.1<g.2.1 then k.2.1 else g.2.1))
def coB(g:Wi)(p:Int)(k:Wi)(q:Int):Bool:=decide ((if q>p then q else p)<(if q+k.2.2<p+g.2.2 then q+k.2.2 else p+g.2.2))
def apB(g:Wi)(p:Int)(k:Wi)(q:Int):Bool:=(decide (g.2.1<=k.1)||decide (k.2.1<=g.1))||(decide (p+g.2.2<=q)||decide (q+k.2.2<=p))
theorem Mq(g k:Wi)(p q:Int):Com.dG [wiD g,.int p,wiD k,.int q]=some (.bool (apB g p k q)):=by
 have V:gIx (wiD g) (.int 0)=some (.int g.1):=rfl
 have i1:gIx (wiD g) (.int 1)=some (.int g.2.1):=rfl
 have i2:gIx (wiD g) (.int 2)=some (.int g.2.2):=rfl
 have W:gIx (wiD k) (.int 0)=some (.int k.1):=rfl
 have j1:gIx (wiD k) (.int 1)=some (.int k.2.1):=rfl
 have j2:gIx (wiD k) (.int 2)=some (.int k.2.2):=rfl
 unfold Com.dG
 by_cases Y:g.2.1<=k.1
 ·have Z:apB g p k q=true:=by unfold apB;rw[dTr Y];rfl
  rw[Z]
  simp only[EV,reduceIte,aA,aC,aj,ak,aD,aF,aG,V,i1,i2,W,j1,j2,dTr Y]
 ·by_cases X:k.2.1<=g.1
  ·have Z:apB g p k q=true:=by unfold apB;rw[dTr X];simp
   rw[Z]
   simp only[EV,reduceIte,aA,aC,aj,ak,aD,aF,aG,V,i1,i2,W,j1,j2,dFa Y,dTr X]
  ·by_cases U:p+g.2.2<=q
   ·have Z:apB g p k q=true:=by unfold apB;rw[dTr U];simp
    rw[Z]
    simp only[EV,reduceIte,aA,aC,aj,ak,aD,aF,aG,V,i1,i2,W,j1,j2,dFa Y,dFa X,dTr U]
   ·have Z:apB g p k q=decide (q+k.2.2<=p):=by unfold apB;rw[dFa Y,dFa X,dFa U];rfl
    rw[Z]
    simp only[EV,reduceIte,aA,aC,aj,ak,aD,aF,aG,V,i1,i2,W,j1,j2,dFa Y,dFa X,dFa U]
theorem qY{k:Wi}{p q:Int}(D:grOk g)(B:grOk k):apB k q g p = !(meB g k&&coB g p k q):=by
 have W:=D.b;have X:=B.b;have Y:=D.s;have Z:=B.s
 unfold apB meB coB
 rw[nZ]
 simp only[jB,gW,Bool.and_eq_false_iff,decide_eq_true_eq,decide_eq_false_iff_not]
 constructor
 ·intro h
  by_cases z:(if k.1>g.1 then k.1 else g.1)<(if k.2.1<g.2.1 then k.2.1 else g.2.1)
  ·right
   intro y
   split at z<;>split at z<;>split at y<;>split at y<;>omega
  ·left;exact z
 ·intro h
  rcases h with h|h
  ·left
   split at h<;>split at h<;>omega
  ·right
   split at h<;>split at h<;>omega
section
variable{gs:List Wi}{ps:List Int}
noncomputable def gat(gs:List Wi)(i:Nat):Wi:=gs.getD i (0,0,0)
def beB(gs:List Wi)(ps:List Int)(i:Nat):Bool:=(aV i).all λj=>!(meB (gat gs i) (gat gs j)&&coB (gat gs i) (ps.getD i 0) (gat gs j) (ps.getD j 0))
end
theorem YZ{a b:Int}(B:0<=a)(h1:a<=b)(h2:b<=l.length):cutD l (some a) (some b)=(l.drop a.toNat).take (b-a).toNat:=by
 unfold cutD
 have Z:pSx l.length 0 (some a)=a.toNat:=by
  show(if a<0 then _ else _)=_
  rw[if_neg (by omega)]
  omega
 have e2:pSx l.length l.length (some b)=b.toNat:=by
  show(if b<0 then _ else _)=_
  rw[if_neg (by omega)]
  omega
 rw[Z,e2,show b.toNat-a.toNat=(b-a).toNat by omega]
def mx:List Int->Int
 |[]=>0
 |x::r=>mxI x r
theorem J9{l:List Int}(h:l≠[]):yN [.list (l.map .int)]=some (.int (mx l)):=by
 cases l with
 |nil=>exact absurd rfl h
 |cons x r=>
  show(match dO ((x::r).map .int)with|some (i::r)=>some (PyData.int (mxI i r))|_=>none)=_
  rw[uo]
  rfl
def sli(hs:List Int)(p s:Int):List Int:=(hs.drop p.toNat).take s.toNat
def roB(hs:List Int)(g:Wi)(p:Int):Bool:=(decide (0<=p)&&decide (p<=(hs.length:Int)-g.2.2))&&decide (mx (sli hs p g.2.2)<=g.1)
theorem wO{p s:Int}(B:0<=p)(h1:p<=(hs.length:Int)-s)(h2:1<=s):sli hs p s≠[]:=by
 intro z
 have:=congrArg pD z
 unfold sli at this
 rw[bV,cV]at this
 simp at this
 omega
theorem yt{p s:Int}(B:0<=p)(h1:p<=(hs.length:Int)-s)(h2:1<=s):cutD (hs.map PyData.int) (some p) (some (p+s))=(sli hs p s).map .int:=by
 rw[YZ B (by omega) (by rw[aq];omega),show p+s-p=s by omega]
 unfold sli
 rw[kE,kI]
section
variable{hs:List Int}{gs:List Wi}{ps:List Int}
def ad7(hs:List Int)(gs:List Wi)(ps:List Int)(i:Nat):Bool:=roB hs (gat gs i) (ps.getD i 0)&&beB gs ps i
def laB(hs:List Int)(gs:List Wi)(ps:List Int):Bool:=decide (ps.length=gs.length)&&(aV gs.length).all (ad7 hs gs ps)
theorem rW(h:∀g∈gs,grOk g)(hi:i<gs.length):grOk (gat gs i):=by
 unfold gat
 rw[aH,aB hi]
 exact h _ (cj hi)
theorem zQ(h:∀g∈gs,grOk g)(pl:ps.length=gs.length){i:Nat}(hi:i<gs.length)(y4 y5 y6 y7 B:Option U):∃z4 O J D,((bW (bU 4 (dOp gIx (ao 2) (ao 3))) (bW (Cz (dOp gIx (ao 1) (ao 3)) (gTn 3 (cF (gNl 5) (cF (gNl 6) (cF (gNl 7) (jE)))))) (bW (sIf (D3.tOr (D3.jl (bN (dCall dw (au (ao 4) (aZ))))) (D3.jl (bN (lX gLe gLe (dC (.int 0)) (ao 4) (dOp uz (dCall iZ (au (ao 0) (aZ))) (ao 7)))))) (dF (dC (.bool false))) (dJ)) (sIf (bN (dOp gGt (dCall yN (au (dSl (ao 0) (d8 (ao 4)) (d8 (dOp eF (ao 4) (ao 7)))) (aZ))) (ao 5))) (dF (dC (.bool false))) (dJ)))))) [some (.d (.list (hs.map .int))),some (.d (.list (gs.map wiD))),some (.d (.list (ps.map .int))),some (.d (.int (i:Int))),y4,y5,y6,y7,B] =
 if roB hs (gat gs i) (ps.getD i 0)=true then some (.nx [some (.d (.list (hs.map .int))),some (.d (.list (gs.map wiD))),some (.d (.list (ps.map .int))),some (.d (.int (i:Int))),z4,O,J,D,B])else some (.rt (.bool false)):=by
 have X:=mz wiD (l:=gs) (0,0,0) (i:=(i:Int)) (by omega) (by omega)
 have W:=mz PyData.int (l:=ps) 0 (i:=(i:Int)) (by omega) (by omega)
 rw[eZ]at X W
 have X:pAt (gs.map wiD) (i:Int)=some (.tuple [.int (gat gs i).1,.int (gat gs i).2.1,.int (gat gs i).2.2]):=X
 have T:=rW h hi
 have V:Com.dw [.int (ps.getD i 0)]=some (.bool true):=rfl
 refine⟨some (.d (.int (ps.getD i 0))),some (.d (.int (gat gs i).1)),some (.d (.int (gat gs i).2.1)),some (.d (.int (gat gs i).2.2)),?_⟩
 by_cases Z:0<=ps.getD i 0
 ·by_cases Y:ps.getD i 0<=(hs.length:Int)-(gat gs i).2.2
  ·have r:roB hs (gat gs i) (ps.getD i 0)=decide (mx (sli hs (ps.getD i 0) (gat gs i).2.2)<=(gat gs i).1):=by unfold roB;rw[dTr Z,dTr Y];rfl
   rw[r]
   by_cases S:mx (sli hs (ps.getD i 0) (gat gs i).2.2)<=(gat gs i).1
   ·rw[dTr S,if_pos rfl]
    simp only[EV,reduceIte,aA,aC,aj,ak,aD,aF,aG,X,W,V,lMp,dTr Z,dTr Y,yt Z Y T.s,J9 (wO Z Y T.s),dFa (show ¬mx (sli hs (ps.getD i 0) (gat gs i).2.2)>(gat gs i).1 by omega)]
   ·rw[dFa S,if_neg (by decide)]
    simp only[EV,reduceIte,aA,aC,aj,ak,aD,aF,aG,X,W,V,lMp,dTr Z,dTr Y,yt Z Y T.s,J9 (wO Z Y T.s),dTr (show mx (sli hs (ps.getD i 0) (gat gs i).2.2)>(gat gs i).1 by omega)]
  ·have r:roB hs (gat gs i) (ps.getD i 0)=false:=by unfold roB;rw[dTr Z,dFa Y];rfl
   rw[r,if_neg (by decide)]
   simp only[EV,reduceIte,aA,aC,aj,ak,aD,aF,aG,X,W,V,lMp,dTr Z,dFa Y]
 ·have r:roB hs (gat gs i) (ps.getD i 0)=false:=by unfold roB;rw[dFa Z];rfl
  rw[r,if_neg (by decide)]
  simp only[EV,reduceIte,aA,aC,aj,ak,aD,aF,aG,X,W,V,lMp,dFa Z]
theorem Ef(h:∀g∈gs,grOk g)(pl:ps.length=gs.length){i j:Nat}(hi:i<gs.length)(W:j<i)(O J D B:Option U):(sIf (D3.jl (bN (dCall dG (au (dOp gIx (ao 1) (ao 8)) (au (dOp gIx (ao 2) (ao 8)) (au (dOp gIx (ao 1) (ao 3)) (au (dOp gIx (ao 2) (ao 3)) (aZ)))))))) (dF (dC (.bool false))) (dJ)) [some (.d (.list (hs.map .int))),some (.d (.list (gs.map wiD))),some (.d (.list (ps.map .int))),some (.d (.int (i:Int))),O,J,D,B,some (.d (.int (j:Int)))] =
 if(meB (gat gs i) (gat gs j)&&coB (gat gs i) (ps.getD i 0) (gat gs j) (ps.getD j 0))=false then some (.nx [some (.d (.list (hs.map .int))),some (.d (.list (gs.map wiD))),some (.d (.list (ps.map .int))),some (.d (.int (i:Int))),O,J,D,B,some (.d (.int (j:Int)))])else some (.rt (.bool false)):=by
 have Z:=mz wiD (l:=gs) (0,0,0) (i:=(i:Int)) (by omega) (by omega)
 have e2:=mz wiD (l:=gs) (0,0,0) (i:=(j:Int)) (by omega) (by omega)
 have X:=mz PyData.int (l:=ps) 0 (i:=(i:Int)) (by omega) (by omega)
 have Y:=mz PyData.int (l:=ps) 0 (i:=(j:Int)) (by omega) (by omega)
 rw[eZ]at Z e2 X Y
 have Z:pAt (gs.map wiD) (i:Int)=some (wiD (gat gs i)):=Z
 have e2:pAt (gs.map wiD) (j:Int)=some (wiD (gat gs j)):=e2
 have A:=Mq (gat gs j) (gat gs i) (ps.getD j 0) (ps.getD i 0)
 rw[qY (rW h hi) (rW h (show j<gs.length by omega))]at A
 cases m:meB (gat gs i) (gat gs j)&&coB (gat gs i) (ps.getD i 0) (gat gs j) (ps.getD j 0)with
 |false=>
  rw[m]at A
  rw[if_pos rfl]
  simp only[EV,reduceIte,aA,aC,aj,ak,aD,aF,aG,Z,e2,X,Y,A,lO]
 |true=>
  rw[m]at A
  rw[if_neg (by decide)]
  simp only[EV,reduceIte,aA,aC,aj,ak,aD,aF,aG,Z,e2,X,Y,A,cT]
theorem Y0(h:∀g∈gs,grOk g)(pl:ps.length=gs.length){i:Nat}(hi:i<gs.length)(W O J D B:Option U):(∃Y,beB gs ps i=true/\iT (gNl 8) (sIf (D3.jl (bN (dCall dG (au (dOp gIx (ao 1) (ao 8)) (au (dOp gIx (ao 2) (ao 8)) (au (dOp gIx (ao 1) (ao 3)) (au (dOp gIx (ao 2) (ao 3)) (aZ)))))))) (dF (dC (.bool false))) (dJ)) (gJ 0 (i:Int)) [some (.d (.list (hs.map .int))),some (.d (.list (gs.map wiD))),some (.d (.list (ps.map .int))),some (.d (.int (i:Int))),W,O,J,D,B]=some (.nx [some (.d (.list (hs.map .int))),some (.d (.list (gs.map wiD))),some (.d (.list (ps.map .int))),some (.d (.int (i:Int))),W,O,J,D,Y]))\/(beB gs ps i=false/\iT (gNl 8) (sIf (D3.jl (bN (dCall dG (au (dOp gIx (ao 1) (ao 8)) (au (dOp gIx (ao 2) (ao 8)) (au (dOp gIx (ao 1) (ao 3)) (au (dOp gIx (ao 2) (ao 3)) (aZ)))))))) (dF (dC (.bool false))) (dJ)) (gJ 0 (i:Int)) [some (.d (.list (hs.map .int))),some (.d (.list (gs.map wiD))),some (.d (.list (ps.map .int))),some (.d (.int (i:Int))),W,O,J,D,B]=some (.rt (.bool false))):=by
 have T:(gJ 0 (i:Int)).length=i:=by unfold gJ;rw[aq,bO];omega
 rcases v7 (λj=>meB (gat gs i) (gat gs j)&&coB (gat gs i) (ps.getD i 0) (gat gs j) (ps.getD j 0)) i with⟨m,hm,X,hn⟩|hn
 ·right
  constructor
  ·cases q:beB gs ps i with
   |false=>rfl
   |true=>
    have:=cQ.mp q m (bA.mpr hm)
    rw[X]at this
    cases this
  ·exact zL (λ_ δ=>∃B:Option U,δ=[some (.d (.list (hs.map .int))),some (.d (.list (gs.map wiD))),some (.d (.list (ps.map .int))),some (.d (.int (i:Int))),W,O,J,D,B]) m (gJ 0 (i:Int)) _ ⟨B,rfl⟩ (by rw[T];exact hm)
    (by
     rintro j d δ Z hd ⟨B,rfl⟩
     obtain⟨V,rfl⟩:=mq hd
     refine⟨_,_,rfl,?_,some (.d (.int (j:Int))),rfl⟩
     refine(Ef h pl hi (by omega) W O J D).trans ?_
     rw[if_pos (hn j Z)])
    (by
     rintro d δ hd ⟨B,rfl⟩
     obtain⟨V,rfl⟩:=mq hd
     refine⟨_,rfl,?_⟩
     refine(Ef h pl hi hm W O J D).trans ?_
     rw[if_neg (by simpa using X)])
 ·left
  obtain⟨δ',e,Y,rfl⟩:=uq (g:=gNl 8) (b:=(sIf (D3.jl (bN (dCall dG (au (dOp gIx (ao 1) (ao 8)) (au (dOp gIx (ao 2) (ao 8)) (au (dOp gIx (ao 1) (ao 3)) (au (dOp gIx (ao 2) (ao 3)) (aZ)))))))) (dF (dC (.bool false))) (dJ))) (λ_ δ=>∃B:Option U,δ=[some (.d (.list (hs.map .int))),some (.d (.list (gs.map wiD))),some (.d (.list (ps.map .int))),some (.d (.int (i:Int))),W,O,J,D,B]) (gJ 0 (i:Int)) _ ⟨B,rfl⟩
   (by
    rintro j d δ hd ⟨B,rfl⟩
    obtain⟨V,rfl⟩:=mq hd
    refine⟨_,_,rfl,.inl ?_,some (.d (.int (j:Int))),rfl⟩
    refine(Ef h pl hi (by omega) W O J D).trans ?_
    rw[if_pos (hn j (by omega))])
  refine⟨Y,?_,e⟩
  unfold beB
  rw[cQ]
  intro j Z
  have:=hn j (bA.mp Z)
  rw[this]
  rfl
theorem wQ:laB hs gs ps=true<->ps.length=gs.length/\(∀i,i<gs.length->roB hs (gat gs i) (ps.getD i 0)=true)/\∀i,i<gs.length->beB gs ps i=true:=by
 unfold laB ad7
 rw[bf,decide_eq_true_eq,cQ]
 constructor
 ·rintro⟨h1,h2⟩
  refine⟨h1,λi hi=>?_,λi hi=>?_⟩
  ·exact(nJ.mp (h2 i (bA.mpr hi))).1
  ·exact(nJ.mp (h2 i (bA.mpr hi))).2
 ·rintro⟨h1,h2,Z⟩
  exact⟨h1,λi hi=>nJ.mpr ⟨h2 i (bA.mp hi),Z i (bA.mp hi)⟩⟩
theorem zR(h:¬(ps.length=gs.length/\(∀i,i<gs.length->roB hs (gat gs i) (ps.getD i 0)=true)/\∀i,i<gs.length->beB gs ps i=true)):laB hs gs ps=false:=by
 cases q:laB hs gs ps with
 |false=>rfl
 |true=>exact absurd (wQ.mp q) h
theorem QZ(h:∀g∈gs,grOk g)(B:gs.length<=1000):Com.jR [.list (hs.map .int),.list (gs.map wiD),.list (ps.map .int)]=some (.bool (laB hs gs ps)):=by
 have I:D3.isT "list" (tyD (.list (ps.map .int)))=true:=rfl
 have H:uL (some [.int (gs.length:Int)])=some (gJ 0 (gs.length:Int)):=GJ (by omega) (by omega)
 have F:(gJ 0 (gs.length:Int)).length=gs.length:=by unfold gJ;rw[aq,bO];omega
 unfold Com.jR
 by_cases pl:ps.length=gs.length
 case neg=>
  rw[zR (λz=>pl z.1)]
  have ne:gNe (.int (ps.length:Int)) (.int (gs.length:Int))=some (.bool true):=by
   show some (PyData.bool (!PyData.eqv (.int (ps.length:Int)) (.int (gs.length:Int))))=_
   simp[PyData.eqv]
   omega
  simp only[EV,reduceIte,aA,aC,aj,ak,aD,aF,aG,I,cT,lMp,ne]
 have ne:gNe (.int (ps.length:Int)) (.int (gs.length:Int))=some (.bool false):=by
  rw[pl]
  show some (PyData.bool (!PyData.eqv (.int (gs.length:Int)) (.int (gs.length:Int))))=_
  simp[PyData.eqv]
 rcases v7 (λi=>!roB hs (gat gs i) (ps.getD i 0)) gs.length with⟨m,hm,P,hn⟩|hn
 ·rw[zR (λz=>by have:=z.2.1 m hm;rw[this]at P;cases P)]
  have e:=zL (g:=(gNl 3)) (b:=(bW (bU 4 (dOp gIx (ao 2) (ao 3))) (bW (Cz (dOp gIx (ao 1) (ao 3)) (gTn 3 (cF (gNl 5) (cF (gNl 6) (cF (gNl 7) (jE)))))) (bW (sIf (D3.tOr (D3.jl (bN (dCall dw (au (ao 4) (aZ))))) (D3.jl (bN (lX gLe gLe (dC (.int 0)) (ao 4) (dOp uz (dCall iZ (au (ao 0) (aZ))) (ao 7)))))) (dF (dC (.bool false))) (dJ)) (sIf (bN (dOp gGt (dCall yN (au (dSl (ao 0) (d8 (ao 4)) (d8 (dOp eF (ao 4) (ao 7)))) (aZ))) (ao 5))) (dF (dC (.bool false))) (dJ)))))) (λ_ δ=>∃T V W X Y,δ=[some (.d (.list (hs.map .int))),some (.d (.list (gs.map wiD))),some (.d (.list (ps.map .int))),T,V,W,X,Y,none]) (v:=.bool false) m (gJ 0 (gs.length:Int)) [some (.d (.list (hs.map .int))),some (.d (.list (gs.map wiD))),some (.d (.list (ps.map .int))),none,none,none,none,none,none] ⟨none,none,none,none,none,rfl⟩ (by rw[F];exact hm)
   (by
    rintro j d δ N hd ⟨T,V,W,X,Y,rfl⟩
    obtain⟨O,rfl⟩:=mq hd
    obtain⟨J,K,L,M,Z⟩:=zQ (hs:=hs) h pl (show j<gs.length by omega) V W X Y none
    rw[if_pos (by simpa using hn j N)]at Z
    exact⟨_,_,rfl,Z,some (.d (.int (j:Int))),J,K,L,M,rfl⟩)
   (by
    rintro d δ hd ⟨T,V,W,X,Y,rfl⟩
    obtain⟨O,rfl⟩:=mq hd
    obtain⟨J,K,L,M,Z⟩:=zQ (hs:=hs) h pl hm V W X Y none
    rw[if_neg (by simpa using P)]at Z
    exact⟨_,rfl,Z⟩)
  simp only[EV,reduceIte,aA,aC,aj,ak,aD,aF,aG,I,cT,lMp,ne,H,e]
 ·obtain⟨δ',e,T,V,W,X,Y,rfl⟩:=uq (g:=(gNl 3)) (b:=(bW (bU 4 (dOp gIx (ao 2) (ao 3))) (bW (Cz (dOp gIx (ao 1) (ao 3)) (gTn 3 (cF (gNl 5) (cF (gNl 6) (cF (gNl 7) (jE)))))) (bW (sIf (D3.tOr (D3.jl (bN (dCall dw (au (ao 4) (aZ))))) (D3.jl (bN (lX gLe gLe (dC (.int 0)) (ao 4) (dOp uz (dCall iZ (au (ao 0) (aZ))) (ao 7)))))) (dF (dC (.bool false))) (dJ)) (sIf (bN (dOp gGt (dCall yN (au (dSl (ao 0) (d8 (ao 4)) (d8 (dOp eF (ao 4) (ao 7)))) (aZ))) (ao 5))) (dF (dC (.bool false))) (dJ)))))) (λ_ δ=>∃T V W X Y,δ=[some (.d (.list (hs.map .int))),some (.d (.list (gs.map wiD))),some (.d (.list (ps.map .int))),T,V,W,X,Y,none]) (gJ 0 (gs.length:Int)) [some (.d (.list (hs.map .int))),some (.d (.list (gs.map wiD))),some (.d (.list (ps.map .int))),none,none,none,none,none,none] ⟨none,none,none,none,none,rfl⟩
   (by
    rintro j d δ hd ⟨T,V,W,X,Y,rfl⟩
    obtain⟨O,rfl⟩:=mq hd
    obtain⟨J,K,L,M,Z⟩:=zQ (hs:=hs) h pl (show j<gs.length by omega) V W X Y none
    rw[if_pos (by simpa using hn j (by omega))]at Z
    exact⟨_,_,rfl,.inl Z,some (.d (.int (j:Int))),J,K,L,M,rfl⟩)
  have G:∀(j:Nat)(S:Option U),j<gs.length->(∃R,beB gs ps j=true/\((mV (mO (au (ao 3) (aZ))) (gNl 8) (sIf (D3.jl (bN (dCall dG (au (dOp gIx (ao 1) (ao 8)) (au (dOp gIx (ao 2) (ao 8)) (au (dOp gIx (ao 1) (ao 3)) (au (dOp gIx (ao 2) (ao 3)) (aZ)))))))) (dF (dC (.bool false))) (dJ)))) [some (.d (.list (hs.map .int))),some (.d (.list (gs.map wiD))),some (.d (.list (ps.map .int))),some (.d (.int (j:Int))),V,W,X,Y,S]=some (.nx [some (.d (.list (hs.map .int))),some (.d (.list (gs.map wiD))),some (.d (.list (ps.map .int))),some (.d (.int (j:Int))),V,W,X,Y,R]))\/(beB gs ps j=false/\((mV (mO (au (ao 3) (aZ))) (gNl 8) (sIf (D3.jl (bN (dCall dG (au (dOp gIx (ao 1) (ao 8)) (au (dOp gIx (ao 2) (ao 8)) (au (dOp gIx (ao 1) (ao 3)) (au (dOp gIx (ao 2) (ao 3)) (aZ)))))))) (dF (dC (.bool false))) (dJ)))) [some (.d (.list (hs.map .int))),some (.d (.list (gs.map wiD))),some (.d (.list (ps.map .int))),some (.d (.int (j:Int))),V,W,X,Y,S]=some (.rt (.bool false))):=λj S N=>by
   have E:uL (some [.int (j:Int)])=some (gJ 0 (j:Int)):=GJ (by omega) (by omega)
   rcases Y0 (hs:=hs) h pl N V W X Y S with⟨R,b,Z⟩|⟨b,Z⟩
   ·refine .inl ⟨R,b,?_⟩
    simp only[EV,reduceIte,aA,aC,aj,ak,aD,aF,aG,E,Z]
   ·refine .inr ⟨b,?_⟩
    simp only[EV,reduceIte,aA,aC,aj,ak,aD,aF,aG,E,Z]
  rcases v7 (λi=>!beB gs ps i) gs.length with⟨m,hm,P,Q⟩|Q
  ·rw[zR (λz=>by have:=z.2.2 m hm;rw[this]at P;cases P)]
   have e2:=zL (g:=(gNl 3)) (b:=(mV (mO (au (ao 3) (aZ))) (gNl 8) (sIf (D3.jl (bN (dCall dG (au (dOp gIx (ao 1) (ao 8)) (au (dOp gIx (ao 2) (ao 8)) (au (dOp gIx (ao 1) (ao 3)) (au (dOp gIx (ao 2) (ao 3)) (aZ)))))))) (dF (dC (.bool false))) (dJ)))) (λ_ δ=>∃T S,δ=[some (.d (.list (hs.map .int))),some (.d (.list (gs.map wiD))),some (.d (.list (ps.map .int))),T,V,W,X,Y,S]) (v:=.bool false) m (gJ 0 (gs.length:Int)) [some (.d (.list (hs.map .int))),some (.d (.list (gs.map wiD))),some (.d (.list (ps.map .int))),T,V,W,X,Y,none] ⟨T,none,rfl⟩ (by rw[F];exact hm)
    (by
     rintro j d δ N hd ⟨T,S,rfl⟩
     obtain⟨O,rfl⟩:=mq hd
     rcases G j S (by omega)with⟨R,b,Z⟩|⟨b,Z⟩
     ·exact⟨_,_,rfl,Z,some (.d (.int (j:Int))),R,rfl⟩
     ·have:=Q j N;rw[b]at this;cases this)
    (by
     rintro d δ hd ⟨T,S,rfl⟩
     obtain⟨O,rfl⟩:=mq hd
     rcases G m S hm with⟨R,b,Z⟩|⟨b,Z⟩
     ·rw[b]at P;cases P
     ·exact⟨_,rfl,Z⟩)
   simp only[EV,reduceIte,aA,aC,aj,ak,aD,aF,aG,I,cT,lMp,ne,H,e,e2]
  ·rw[wQ.mpr ⟨pl,λi hi=>by simpa using hn i hi,λi hi=>by simpa using Q i hi⟩]
   obtain⟨D,e2,C,R,rfl⟩:=uq (g:=(gNl 3)) (b:=(mV (mO (au (ao 3) (aZ))) (gNl 8) (sIf (D3.jl (bN (dCall dG (au (dOp gIx (ao 1) (ao 8)) (au (dOp gIx (ao 2) (ao 8)) (au (dOp gIx (ao 1) (ao 3)) (au (dOp gIx (ao 2) (ao 3)) (aZ)))))))) (dF (dC (.bool false))) (dJ)))) (λ_ δ=>∃T S,δ=[some (.d (.list (hs.map .int))),some (.d (.list (gs.map wiD))),some (.d (.list (ps.map .int))),T,V,W,X,Y,S]) (gJ 0 (gs.length:Int)) [some (.d (.list (hs.map .int))),some (.d (.list (gs.map wiD))),some (.d (.list (ps.map .int))),T,V,W,X,Y,none] ⟨T,none,rfl⟩
    (by
     rintro j d δ hd ⟨T,S,rfl⟩
     obtain⟨O,rfl⟩:=mq hd
     rcases G j S (by omega)with⟨R,b,Z⟩|⟨b,Z⟩
     ·exact⟨_,_,rfl,.inl Z,some (.d (.int (j:Int))),R,rfl⟩
     ·have:=Q j (by omega);rw[b]at this;cases this)
   simp only[EV,reduceIte,aA,aC,aj,ak,aD,aF,aG,I,cT,lMp,ne,H,e,e2]
end
def gp(g:Wi):Sd.Gp:=(g.1,g.2.1,g.2.2.toNat)
theorem GP{l:List Int}(h:l≠[]):uJ [.tuple (l.map .int)]=some (.int (mx l)):=by
 cases l with
 |nil=>exact absurd rfl h
 |cons x r=>
  show(match dO ((x::r).map .int)with|some (i::r)=>some (PyData.int (mxI i r))|_=>none)=_
  rw[uo]
  rfl
def stN(row:List Int)(g:Wi):List Nat:=(aV ((row.length:Int)-g.2.2+1).toNat).filter λs=>decide (mx (sli row (s:Int) g.2.2)<=g.1)
theorem J_{f:FE}{fl:FO}{lo hi:Option Int}(h:f δ=some (.tuple l))(h1:fl δ=some lo)(h2:fh δ=some hi)(B:flats l=true):xO f fl fh δ=some (.tuple (cutD l lo hi)):=by
 unfold xO
 rw[h,aM,h1,aM,h2,aM]
 dsimp only
 rw[if_pos B]
theorem IV(B:1<=g.2.2)(D:g.2.2<=6)(J:row.length<=1000):jr [rwD row,wiD g]=some (.list ((stN row g).map λs:Nat=>PyData.int (s:Int))):=by
 have V:gIx (wiD g) (.int 0)=some (.int g.1):=rfl
 have i2:gIx (wiD g) (.int 2)=some (.int g.2.2):=rfl
 have C:=QG (g:=(gNl 0)) (c:=(bN (dOp gLe (dCall uJ (au (xO (ao 2) (d8 (ao 0)) (d8 (dOp eF (ao 0) (dOp gIx (ao 1) (dC (.int 2)))))) (aZ))) (dOp gIx (ao 1) (dC (.int 0)))))) (e:=(iy (ao 0))) (δ:=[none,some (.d (wiD g)),some (.d (rwD row))]) (λs:Nat=>PyData.int (s:Int)) (λs=>decide (mx (sli row (s:Int) g.2.2)<=g.1)) (λs:Nat=>PyData.int (s:Int)) (aV ((row.length:Int)-g.2.2+1).toNat) (λs hs=>by
  have hs:=bA.mp hs
  have Y:(s:Int)<=(row.length:Int)-g.2.2:=by omega
  refine⟨[some (.d (.int (s:Int))),some (.d (wiD g)),some (.d (rwD row))],rfl,?_,λ_=>rfl⟩
  have sl:xO (ao 2) (d8 (ao 0)) (d8 (dOp eF (ao 0) (dOp gIx (ao 1) (dC (.int 2))))) [some (.d (.int (s:Int))),some (.d (wiD g)),some (.d (rwD row))]=some (.tuple ((sli row (s:Int) g.2.2).map .int)):=by
   rw[J_ (l:=row.map .int) (lo:=some (s:Int)) (hi:=some ((s:Int)+g.2.2)) rfl rfl rfl (rR _),yt (by omega) Y B]
  simp only[EV,reduceIte,aA,aC,aj,ak,aD,aF,aG,sl,GP (wO (by omega) Y B),V])
 have T:∀a b c:Option U,n_ 1 [1,0] [a,b,c]=[none,b,a]:=λ_ _ _=>rfl
 have Z:∀k:Int,-(2^62)<=k->k<2^62->uL (some [.int k])=some ((aV k.toNat).map λs:Nat=>PyData.int (s:Int)):=λk h1 h2=>by
  rw[GJ h1 h2]
  unfold gJ
  rw[rm]
  congr 1
  exact dN λs _=>by rw[jU]
 have X:iZ [rwD row]=some (.int (row.length:Int)):=by
  show some (PyData.int ((row.map PyData.int).length:Int))=_
  rw[aq]
 have Z:=Z ((row.length:Int)-g.2.2+1) (by omega) (by omega)
 have W:((aV ((row.length:Int)-g.2.2+1).toNat).map λs:Nat=>PyData.int (s:Int)).length<=100000:=by
  rw[aq,bO]
  omega
 unfold jr
 simp only[EV,reduceIte,aA,aC,aj,ak,aD,aF,aG,X,i2,T,Z,C,W]
 rfl
def nbI(g:Wi)(e:Int)(b:Bool):Int:=if b=true then g.2.1 else if e<=g.1 then 0 else e
theorem Cg(g:Wi)(e:Int)(b:Bool):fY [.int e,wiD g,.bool b]=some (.int (nbI g e b)):=by
 have Z:gIx (wiD g) (.int 0)=some (.int g.1):=rfl
 have i1:gIx (wiD g) (.int 1)=some (.int g.2.1):=rfl
 show Com.fY _=_
 unfold Com.fY nbI
 cases b with
 |true=>
  simp only[EV,reduceIte,aA,aC,aj,ak,aD,aF,aG,i1]
 |false=>
  by_cases c:e<=g.1
  ·simp only[EV,reduceIte,aA,aC,aj,ak,aD,aF,aG,Z,dTr c]
   rw[if_neg (by decide),if_pos c]
  ·simp only[EV,reduceIte,aA,aC,aj,ak,aD,aF,aG,Z,dFa c]
   rw[if_neg (by decide),if_neg c]
theorem IW{s:Nat}(J:1<=g.2.2)(B:g.2.2<=6)(D:row.length<=1000):gF [rwD row,wiD g,.int (s:Int)]=some (rwD (Sd.put row (gp g) s)):=by
 have i2:gIx (wiD g) (.int 2)=some (.int g.2.2):=rfl
 have V:qw (row.map .int)=(aV row.length).map λk:Nat=>PyData.tuple [.int (k:Int),.int (row.getD k 0)]:=Mi row
 have fe:Il (ao 0) [some (.d (rwD row)),some (.d (wiD g)),some (.d (.int (s:Int))),some (.d (.int ((s:Int)+g.2.2)))]=some ((aV row.length).map λk:Nat=>PyData.tuple [.int (k:Int),.int (row.getD k 0)]):=by
  rw[<-V]
  rfl
 have C:=Ao (g:=(gTn 2 (cF (gNl 0) (cF (gNl 1) (jE))))) (c:=(D3.mK)) (e:=(dCall fY (au (ao 1) (au (ao 2) (au (lX gLe gLt (ao 3) (ao 0) (ao 4)) (aZ)))))) (δ:=[none,none,some (.d (wiD g)),some (.d (.int (s:Int))),some (.d (.int ((s:Int)+g.2.2)))]) (λk:Nat=>PyData.tuple [.int (k:Int),.int (row.getD k 0)]) (λk:Nat=>PyData.int (Sd.cell (gp g) s k (row.getD k 0))) (aV row.length) (λk S=>by
  refine⟨[some (.d (.int (k:Int))),some (.d (.int (row.getD k 0))),some (.d (wiD g)),some (.d (.int (s:Int))),some (.d (.int ((s:Int)+g.2.2)))],rfl,rfl,?_⟩
  have cl:∀b:Bool,(b=true<->s<=k/\k<s+g.2.2.toNat)->nbI g (row.getD k 0) b=Sd.cell (gp g) s k (row.getD k 0):=λb Z=>by
   unfold nbI Sd.cell gp
   dsimp only
   by_cases c:s<=k/\k<s+g.2.2.toNat
   ·rw[if_pos (Z.mpr c),if_pos c]
   ·rw[if_neg (λz=>c (Z.mp z)),if_neg c]
  by_cases Y:(s:Int)<=(k:Int)
  ·rw[<-cl (decide ((k:Int)<(s:Int)+g.2.2)) (by rw[decide_eq_true_iff];omega)]
   simp only[EV,reduceIte,aA,aC,aj,ak,aD,aF,aG,dTr Y,Cg]
  ·rw[<-cl false (by constructor<;>intro z;cases z;omega)]
   simp only[EV,reduceIte,aA,aC,aj,ak,aD,aF,aG,dFa Y,Cg])
 have T:∀a b c d:Option U,n_ 2 [1,2,3] [a,b,c,d]=[none,none,b,c,d]:=λ_ _ _ _=>rfl
 have X:Sd.put row (gp g) s=(aV row.length).map λk=>Sd.cell (gp g) s k (row.getD k 0):=by
  unfold Sd.put
  apply qe
  ·simp
  ·intro k h1 h2
   have h1:k<row.length:=by simpa using h1
   rw[List.getElem_mapIdx,gA,o7,aH,aB h1]
   rfl
 have W:((aV row.length).map λk:Nat=>PyData.tuple [.int (k:Int),.int (row.getD k 0)]).length<=100000:=by
  rw[aq,bO];omega
 unfold gF
 simp only[EV,reduceIte,aA,aC,aj,ak,aD,aF,aG,i2,fe,T,C,W,yW]
 rw[X]
 unfold rwD
 rw[cR]
 rfl
def Aq(g:Wi)(row:List Int)(S:List Tte)(ss:List Nat):List Tte:=ss.foldl (λS s=>rP S (Sd.put row (gp g) s) (row,(s:Int))) S
def j8(g:Wi)(rows:List (List Int))(S:List Tte):List Tte:=rows.foldl (λS row=>Aq g row S (stN row g)) S
theorem GQ(S:List Tte)(k:List Int)(v:List Int×Int):(rP S k v).length<=S.length+1:=by
 unfold rP
 split<;>simp
theorem GR(g:Wi)(row:List Int):∀(ss:List Nat)(S:List Tte),(Aq g row S ss).length<=S.length+ss.length
 |[],S=>aL _
 |s::ss,S=>by
  have h1:=GR g row ss (rP S (Sd.put row (gp g) s) (row,(s:Int)))
  have h2:=GQ S (Sd.put row (gp g) s) (row,(s:Int))
  show(Aq g row (rP S (Sd.put row (gp g) s) (row,(s:Int))) ss).length<=_
  rw[bC]
  omega
theorem Kc(row:List Int)(g:Wi)(B:1<=g.2.2):(stN row g).length<=row.length:=by
 unfold stN
 refine bF (sE _ _) ?_
 rw[bO]
 omega
theorem pB{g:FG}{b:FS}{r:List D}{B:DS}(h1:g d δ=some B)(h2:b B=some (.nx δ')):iT g b (d::r) δ=iT g b r δ':=by
 rw[iT,h1,aM,h2]
 rfl
theorem Eh(k:List Int):Dq (rwD k)=some k:=pO k
theorem Vc(v:List Int×Int):Lf (ttV v)=some v:=by
 show(dO (v.1.map PyData.int)).map (·,v.2)=_
 rw[pO]
 rfl
theorem Vd{fv:FE}{k:List Int}{v:List Int×Int}(D:ao i δ=some (dtt S))(h1:fk δ=some (rwD k))(h2:fv δ=some (ttV v))(B:S.length<1000000):tQ i fk fv δ=some (.nx (δ.set i (some (.d (dtt (rP S k v)))))):=by
 unfold tQ
 rw[D,aM,h1,aM,h2,aM,Ge,aM,Eh,aM,Vc,aM,if_pos B]
theorem zT(O:1<=g.2.2)(B:g.2.2<=6)(J:row.length<=1000)(a:Option U):∀(ss:List Nat)(S:List Tte)(u:Option U),S.length+ss.length<1000000 ->
 ∃D,iT (gNl 4) (tQ 2 (dCall gF (au (ao 3) (au (ao 1) (au (ao 4) (aZ))))) (dTup (au (ao 3) (au (ao 4) (aZ))))) (ss.map λs:Nat=>PyData.int (s:Int)) [a,some (.d (wiD g)),some (.d (dtt S)),some (.d (rwD row)),u]=some (.nx [a,some (.d (wiD g)),some (.d (dtt (Aq g row S ss))),some (.d (rwD row)),D])
 |[],S,u,_=>⟨u,rfl⟩
 |s::ss,S,u,Z=>by
  rw[bC]at Z
  have b:=IW (row:=row) (g:=g) (s:=s) O B J
  have h1:(dCall gF (au (ao 3) (au (ao 1) (au (ao 4) (aZ))))) [a,some (.d (wiD g)),some (.d (dtt S)),some (.d (rwD row)),some (.d (.int (s:Int)))]=some (rwD (Sd.put row (gp g) s)):=by
   simp only[EV,reduceIte,aA,aC,aj,ak,aD,aF,aG,b]
  have h2:(dTup (au (ao 3) (au (ao 4) (aZ)))) [a,some (.d (wiD g)),some (.d (dtt S)),some (.d (rwD row)),some (.d (.int (s:Int)))]=some (ttV (row,(s:Int))):=by
   simp only[EV,reduceIte,aA,aC,aj,ak,aD,aF,aG,Com.sz (show 2<=1000000 by decide)]
   rfl
  have st:=Vd (i:=2) (S:=S) rfl h1 h2 (by omega)
  have dl:=GQ S (Sd.put row (gp g) s) (row,(s:Int))
  obtain⟨D,e⟩:=zT O B J a ss (rP S (Sd.put row (gp g) s) (row,(s:Int))) (some (.d (.int (s:Int)))) (by omega)
  exact⟨D,(pB rfl st).trans e⟩
theorem zU(J:1<=g.2.2)(B:g.2.2<=6)(a:Option U):∀(rows:List (List Int))(S:List Tte)(u v:Option U),(∀r∈rows,r.length<=100)->S.length+100*rows.length<1000000 ->
 ∃D O,iT (gNl 3) (mV (rK (dCall jr (au (ao 3) (au (ao 1) (aZ))))) (gNl 4) (tQ 2 (dCall gF (au (ao 3) (au (ao 1) (au (ao 4) (aZ))))) (dTup (au (ao 3) (au (ao 4) (aZ)))))) (rows.map rwD) [a,some (.d (wiD g)),some (.d (dtt S)),u,v]=some (.nx [a,some (.d (wiD g)),some (.d (dtt (j8 g rows S))),D,O])
 |[],S,u,v,_,_=>⟨u,v,rfl⟩
 |row::rows,S,u,v,Z,W=>by
  rw[bC]at W
  have T:=Z row aJ
  have st:=IV (row:=row) (g:=g) J B (by omega)
  have sl:=Kc row g J
  obtain⟨D,e⟩:=zT (g:=g) (row:=row) J B (by omega) a (stN row g) S v (by omega)
  have Q:=GR g row (stN row g) S
  have R:((stN row g).map λs:Nat=>PyData.int (s:Int)).length<=100000:=by rw[aq];omega
  have V:(mV (rK (dCall jr (au (ao 3) (au (ao 1) (aZ))))) (gNl 4) (tQ 2 (dCall gF (au (ao 3) (au (ao 1) (au (ao 4) (aZ))))) (dTup (au (ao 3) (au (ao 4) (aZ)))))) [a,some (.d (wiD g)),some (.d (dtt S)),some (.d (rwD row)),v]=some (.nx [a,some (.d (wiD g)),some (.d (dtt (Aq g row S (stN row g)))),some (.d (rwD row)),D]):=by
   simp only[EV,reduceIte,aA,aC,aj,ak,aD,aF,aG,st]
   exact e
  obtain⟨X,Y,e2⟩:=zU J B a rows (Aq g row S (stN row g)) (some (.d (rwD row))) D (λr h=>Z r (aK _ h)) (by omega)
  exact⟨X,Y,(pB rfl V).trans e2⟩
theorem Q0(J:1<=g.2.2)(B:g.2.2<=6)(D:∀r∈rows,r.length<=100)(O:rows.length<=1000):fB [.list (rows.map rwD),wiD g]=some (dtt (j8 g rows [])):=by
 obtain⟨u,v,e⟩:=zU (g:=g) J B (some (.d (.list (rows.map rwD)))) rows [] none none D (by simp;omega)
 have e:iT (gNl 3) (mV (rK (dCall jr (au (ao 3) (au (ao 1) (aZ))))) (gNl 4) (tQ 2 (dCall gF (au (ao 3) (au (ao 1) (au (ao 4) (aZ))))) (dTup (au (ao 3) (au (ao 4) (aZ)))))) (rows.map rwD) [some (.d (.list (rows.map rwD))),some (.d (wiD g)),some (.d (.dict [])),none,none]=some (.nx [some (.d (.list (rows.map rwD))),some (.d (wiD g)),some (.d (dtt (j8 g rows []))),u,v]):=e
 have Z:(rows.map rwD).length<=100000:=by rw[aq];omega
 unfold fB
 simp only[EV,reduceIte,aA,aC,aj,ak,aD,aF,aG]
 rw[e]
 simp only[EV,reduceIte,aA,aC,aj,ak,aD,aF,aG]
noncomputable def cX(S:List Tte):List (List Int):=S.map (·.1)
def lv:List (List Int)->List Wi->List (List Tte)
 |_,[]=>[]
 |rows,g::gs=>j8 g rows []::if j8 g rows []=[]then []else lv (XJ.gw (cX (j8 g rows []))) gs
theorem pC(rows:List (List Int)):lv rows []=[]:=by unfold lv;rfl
theorem nC(rows:List (List Int))(g:Wi)(gs:List Wi):lv rows (g::gs)=j8 g rows []::if j8 g rows []=[]then []else lv (XJ.gw (cX (j8 g rows []))) gs:=by conv=>lhs;unfold lv
def Few(L:List (List Tte)):Prop:=∀S∈L,S.length<=400/\∀k∈cX S,k≠[]/\k.length<=100
theorem GX(S:List Tte):tR (dtt S)=some (cX S):=by
 show(match xM (ttP S)with|some Z=>some (oY (λq:Tte=>q.1) Z)|none=>tsD (ttP S))=_
 rw[Dr]
 rfl
theorem Ei(S:List Tte):XJ.mQ [dtt S]=some (.int (S.length:Int)):=by
 show(tR (dtt S)).map (λks=>PyData.int (ks.length:Int))=_
 rw[GX]
 show some (PyData.int ((cX S).length:Int))=_
 unfold cX
 rw[aq]
theorem zV(h:S.length<=400)(B:∀k∈cX S,k≠[]):XJ.ji [dtt S]=some (.list ((XJ.gw (cX S)).map rwD)):=by
 show(tR (dtt S)).bind _=_
 rw[GX,aM,if_pos]
 refine⟨by unfold cX;rw[aq];omega,cQ.mpr λk Z=>?_⟩
 have:=B k Z
 cases k with
 |nil=>exact absurd rfl this
 |cons _ _=>rfl
theorem fK(ks:List (List Int)):(XJ.gw ks).Perm ks:=XJ.fK ks
theorem zW(h:i<gs.length):pAt (gs.map wiD) (i:Int)=some (wiD (gat gs i)):=by
 rw[mz wiD (0,0,0) (by omega) (by omega)]
 rfl
def gOk(g:Wi):Prop:=1<=g.2.2/\g.2.2<=6
theorem GZ(J:∀g∈gs,gOk g)(a:Option U):∀(ts:List Nat)(rows:List (List Int))(acc:List (List Tte))(u v:Option U),(∀t∈ts,t<gs.length)->rows.length<=1000->(∀r∈rows,r.length<=100)->acc.length+ts.length<=1000->Few (lv rows (ts.map (gat gs))) ->
 (∃r' D B,iT (gNl 4) (bW (bU 5 (dCall fB (au (ao 3) (au (dOp gIx (ao 1) (ao 4)) (aZ))))) (bW (vC 2 (ao 5)) (bW (sIf (bN (dOp gGt (dCall XJ.mQ (au (ao 5) (aZ))) (dC (.int 400)))) ((λ_=>none)) (dJ)) (bW (sIf (bN (dOp gEq (dCall XJ.mQ (au (ao 5) (aZ))) (dC (.int 0)))) (tO (ao 2)) (dJ)) (bU 3 (dCall XJ.ji (au (ao 5) (aZ)))))))) (ts.map λt:Nat=>PyData.int (t:Int)) [a,some (.d (.list (gs.map wiD))),some (.d (.list (acc.map dtt))),some (.d (.list (rows.map rwD))),u,v]=some (.nx [a,some (.d (.list (gs.map wiD))),some (.d (.list ((acc++lv rows (ts.map (gat gs))).map dtt))),r',D,B])) \/
 iT (gNl 4) (bW (bU 5 (dCall fB (au (ao 3) (au (dOp gIx (ao 1) (ao 4)) (aZ))))) (bW (vC 2 (ao 5)) (bW (sIf (bN (dOp gGt (dCall XJ.mQ (au (ao 5) (aZ))) (dC (.int 400)))) ((λ_=>none)) (dJ)) (bW (sIf (bN (dOp gEq (dCall XJ.mQ (au (ao 5) (aZ))) (dC (.int 0)))) (tO (ao 2)) (dJ)) (bU 3 (dCall XJ.ji (au (ao 5) (aZ)))))))) (ts.map λt:Nat=>PyData.int (t:Int)) [a,some (.d (.list (gs.map wiD))),some (.d (.list (acc.map dtt))),some (.d (.list (rows.map rwD))),u,v]=some (.ex "" "" (.list ((acc++lv rows (ts.map (gat gs))).map dtt)))
 |[],rows,acc,u,v,_,_,_,_,_=>.inl ⟨_,_,_,by simp only[iJ,pC,cW];exact rfl⟩
 |t::ts,rows,acc,u,v,P,M,R,ha,Y=>by
  rw[bC]at ha
  have tl:=P t aJ
  have O:gOk (gat gs t):=by
   unfold gat
   rw[aH,aB tl]
   exact J _ (cj tl)
  have T:=Q0 (g:=gat gs t) (rows:=rows) O.1 O.2 R M
  rw[show(t::ts).map (gat gs)=gat gs t::ts.map (gat gs)from rfl,nC]at Y ⊢
  generalize I:j8 (gat gs t) rows []=S at T Y ⊢
  obtain⟨f1,f2⟩:=Y S aJ
  have V:=zV f1 λk L=>(f2 k L).1
  have tn:=Ei S
  have al:(acc.map dtt).length<1000000:=by rw[aq];omega
  have Q:decide ((S.length:Int)>400)=false:=dFa (by omega)
  have ga:=zW tl
  by_cases c:S=[]
  ·subst c
   refine .inr ?_
   rw[if_pos rfl,aP]
   have W:decide ((([]:List Tte).length:Int)=0)=true:=rfl
   have X:(bW (bU 5 (dCall fB (au (ao 3) (au (dOp gIx (ao 1) (ao 4)) (aZ))))) (bW (vC 2 (ao 5)) (bW (sIf (bN (dOp gGt (dCall XJ.mQ (au (ao 5) (aZ))) (dC (.int 400)))) ((λ_=>none)) (dJ)) (bW (sIf (bN (dOp gEq (dCall XJ.mQ (au (ao 5) (aZ))) (dC (.int 0)))) (tO (ao 2)) (dJ)) (bU 3 (dCall XJ.ji (au (ao 5) (aZ)))))))) [a,some (.d (.list (gs.map wiD))),some (.d (.list (acc.map dtt))),some (.d (.list (rows.map rwD))),some (.d (.int (t:Int))),v]=some (.ex "" "" (.list ((acc++[[]]).map dtt))):=by
    simp only[EV,reduceIte,aA,aC,aj,ak,aD,aF,aG,ga,T,al,tn,Q,W]
    rw[cI]
    rfl
   rw[iT,show(gNl 4) (.int (t:Int)) [a,some (.d (.list (gs.map wiD))),some (.d (.list (acc.map dtt))),some (.d (.list (rows.map rwD))),u,v]=some [a,some (.d (.list (gs.map wiD))),some (.d (.list (acc.map dtt))),some (.d (.list (rows.map rwD))),some (.d (.int (t:Int))),v]from rfl,aM,X]
   rfl
  ·rw[if_neg c]at Y ⊢
   have W:decide ((S.length:Int)=0)=false:=dFa (by
    have:S.length≠0:=λz=>c (cJ.mp z)
    omega)
   have pm:=fK (cX S)
   have X:(bW (bU 5 (dCall fB (au (ao 3) (au (dOp gIx (ao 1) (ao 4)) (aZ))))) (bW (vC 2 (ao 5)) (bW (sIf (bN (dOp gGt (dCall XJ.mQ (au (ao 5) (aZ))) (dC (.int 400)))) ((λ_=>none)) (dJ)) (bW (sIf (bN (dOp gEq (dCall XJ.mQ (au (ao 5) (aZ))) (dC (.int 0)))) (tO (ao 2)) (dJ)) (bU 3 (dCall XJ.ji (au (ao 5) (aZ)))))))) [a,some (.d (.list (gs.map wiD))),some (.d (.list (acc.map dtt))),some (.d (.list (rows.map rwD))),some (.d (.int (t:Int))),v]=some (.nx [a,some (.d (.list (gs.map wiD))),some (.d (.list ((acc++[S]).map dtt))),some (.d (.list ((XJ.gw (cX S)).map rwD))),some (.d (.int (t:Int))),some (.d (dtt S))]):=by
    simp only[EV,reduceIte,aA,aC,aj,ak,aD,aF,aG,ga,T,al,tn,Q,W,V]
    rw[cI]
    rfl
   have Z:=GZ J a ts (XJ.gw (cX S)) (acc++[S]) (some (.d (.int (t:Int)))) (some (.d (dtt S))) (λq N=>P q (aK _ N)) (by rw[pm.length_eq];unfold cX;rw[aq];omega) (λr R=>(f2 r (pm.mem_iff.mp R)).2) (by rw[bh];simp;omega) (λK h'=>Y K (aK _ h'))
   rw[show acc++[S]++lv (XJ.gw (cX S)) (ts.map (gat gs))=acc++S::lv (XJ.gw (cX S)) (ts.map (gat gs))by simp]at Z
   rw[aP]
   rcases Z with⟨r',D,B,Z⟩|Z
   ·exact .inl ⟨r',D,B,(pB rfl X).trans Z⟩
   ·exact .inr ((pB rfl X).trans Z)
def inT(gs:List Wi)(ts:List Nat):List Wi:=ts.map (gat gs)
theorem all_gen{ts:List Nat}(J:∀g∈gs,gOk g)(hl:gs.length<64)(B:hs.length<=100)(D:jY [.list (gs.map wiD)]=some (.list (ts.map λt:Nat=>PyData.int (t:Int))))(pm:ts.Perm (aV gs.length))(O:Few (lv [hs] (inT gs ts))):
 jZ [.list (hs.map .int),.list (gs.map wiD)]=some (.list ((lv [hs] (inT gs ts)).map dtt)):=by
 have tl:ts.length=gs.length:=by rw[pm.length_eq,bO]
 have L:=GZ J (some (.d (.list (hs.map .int)))) ts [hs] [] none none (λt h=>bA.mp (pm.mem_iff.mp h)) (by simp) (λr X=>by rw[aN.mp X];exact B) (by simp;omega) O
 have W:(ts.map λt:Nat=>PyData.int (t:Int)).length<=100000:=by rw[aq];omega
 have L:(∃r' Y Z,iT (gNl 4) (bW (bU 5 (dCall fB (au (ao 3) (au (dOp gIx (ao 1) (ao 4)) (aZ))))) (bW (vC 2 (ao 5)) (bW (sIf (bN (dOp gGt (dCall XJ.mQ (au (ao 5) (aZ))) (dC (.int 400)))) ((λ_=>none)) (dJ)) (bW (sIf (bN (dOp gEq (dCall XJ.mQ (au (ao 5) (aZ))) (dC (.int 0)))) (tO (ao 2)) (dJ)) (bU 3 (dCall XJ.ji (au (ao 5) (aZ)))))))) (ts.map λt:Nat=>PyData.int (t:Int)) [some (.d (.list (hs.map .int))),some (.d (.list (gs.map wiD))),some (.d (.list [])),some (.d (.list [.tuple (hs.map .int)])),none,none]=some (.nx [some (.d (.list (hs.map .int))),some (.d (.list (gs.map wiD))),some (.d (.list ((lv [hs] (inT gs ts)).map dtt))),r',Y,Z])) \/
  iT (gNl 4) (bW (bU 5 (dCall fB (au (ao 3) (au (dOp gIx (ao 1) (ao 4)) (aZ))))) (bW (vC 2 (ao 5)) (bW (sIf (bN (dOp gGt (dCall XJ.mQ (au (ao 5) (aZ))) (dC (.int 400)))) ((λ_=>none)) (dJ)) (bW (sIf (bN (dOp gEq (dCall XJ.mQ (au (ao 5) (aZ))) (dC (.int 0)))) (tO (ao 2)) (dJ)) (bU 3 (dCall XJ.ji (au (ao 5) (aZ)))))))) (ts.map λt:Nat=>PyData.int (t:Int)) [some (.d (.list (hs.map .int))),some (.d (.list (gs.map wiD))),some (.d (.list [])),some (.d (.list [.tuple (hs.map .int)])),none,none]=some (.ex "" "" (.list ((lv [hs] (inT gs ts)).map dtt))):=L
 unfold jZ
 simp only[EV,reduceIte,aA,aC,aj,ak,aD,aF,aG,VB,yW,cZ,Com.sz (show 1<=1000000 by decide),D]
 rcases L with⟨r',Y,Z,L⟩|L
 ·rw[L]
  simp only[EV,reduceIte,aA,aC,aj,ak,aD,aF,aG,VB,Ot,Xp,Oq]
 ·rw[L]
  rfl
theorem Ci{k:List Int}:pX S k=none<->k∉cX S:=by
 unfold pX cX
 rw[Option.map_eq_none_iff,jt]
 constructor
 ·intro h z
  obtain⟨q,Z,e⟩:=bQ.mp z
  exact h q Z (by simp[e])
 ·intro h q Z z
  exact h (bQ.mpr ⟨q,Z,of_decide_eq_true z⟩)
theorem yu{k:List Int}{v:List Int×Int}:(k∈cX S/\rP S k v=S)\/(k∉cX S/\rP S k v=S++[(k,v)]):=by
 unfold rP
 by_cases h:k∈cX S
 ·refine .inl ⟨h,if_pos ?_⟩
  cases e:pX S k with
  |none=>exact absurd h (Ci.mp e)
  |some _=>rfl
 ·refine .inr ⟨h,if_neg ?_⟩
  rw[Ci.mpr h]
  decide
theorem Q5{k:List Int}{v:List Int×Int}{q:Tte}(h:q∈S):q∈rP S k v:=by
 rcases yu (S:=S) (k:=k) (v:=v)with⟨_,e⟩|⟨_,e⟩<;>rw[e]
 ·exact h
 ·exact cB _ h
theorem Q6{k:List Int}{v:List Int×Int}{q:Tte}(h:q∈rP S k v):q∈S\/q=(k,v):=by
 rcases yu (S:=S) (k:=k) (v:=v)with⟨_,e⟩|⟨_,e⟩<;>rw[e]at h
 ·exact .inl h
 ·rcases cG.mp h with h|h
  ·exact .inl h
  ·exact .inr (aN.mp h)
theorem Q7(S:List Tte)(k:List Int)(v:List Int×Int):k∈cX (rP S k v):=by
 rcases yu (S:=S) (k:=k) (v:=v)with⟨h,e⟩|⟨_,e⟩<;>rw[e]
 ·exact h
 ·exact bQ.mpr ⟨_,bI _ (gR _),rfl⟩
theorem Ve{k:List Int}{v:List Int×Int}(h:(cX S).Nodup):(cX (rP S k v)).Nodup:=by
 rcases yu (S:=S) (k:=k) (v:=v)with⟨_,e⟩|⟨Z,e⟩<;>rw[e]
 ·exact h
 ·unfold cX at h Z ⊢
  rw[cI,pF]
  refine⟨h,by simp,λa ha b Y=>?_⟩
  rw[show b=k by simpa using Y]
  intro z
  exact Z (z▸ha)
section
variable{g:Wi}
theorem zX{q:Tte}:∀(ss:List Nat)(S:List Tte),q∈S->q∈Aq g row S ss
 |[],_,h=>h
 |_::ss,_,h=>zX ss _ (Q5 h)
theorem G3{q:Tte}:∀(ss:List Nat)(S:List Tte),q∈Aq g row S ss->q∈S\/∃s∈ss,q=(Sd.put row (gp g) s,(row,(s:Int)))
 |[],_,h=>.inl h
 |s::ss,S,h=>by
  rcases G3 ss _ h with h|⟨t,Z,e⟩
  ·rcases Q6 h with h|h
   ·exact .inl h
   ·exact .inr ⟨s,aJ,h⟩
  ·exact .inr ⟨t,aK _ Z,e⟩
theorem G4:∀(ss:List Nat)(S:List Tte),∀s∈ss,Sd.put row (gp g) s∈cX (Aq g row S ss)
 |[],_,s,h=>by cases h
 |t::ss,S,s,h=>by
  rcases aU.mp h with rfl|h
  ·obtain⟨q,Z,e⟩:=bQ.mp (Q7 S (Sd.put row (gp g) s) (row,(s:Int)))
   exact bQ.mpr ⟨q,zX ss _ Z,e⟩
  ·exact G4 ss _ s h
theorem Ke:∀(ss:List Nat)(S:List Tte),(cX S).Nodup->(cX (Aq g row S ss)).Nodup
 |[],_,h=>h
 |_::ss,_,h=>Ke ss _ (Ve h)
theorem G5{q:Tte}:∀(rows:List (List Int))(S:List Tte),q∈S->q∈j8 g rows S
 |[],_,h=>h
 |_::rows,_,h=>G5 rows _ (zX _ _ h)
theorem tW{q:Tte}:∀(rows:List (List Int))(S:List Tte),q∈j8 g rows S->q∈S\/∃row∈rows,∃s∈stN row g,q=(Sd.put row (gp g) s,(row,(s:Int)))
 |[],_,h=>.inl h
 |row::rows,S,h=>by
  rcases tW rows _ h with h|⟨r,Z,z⟩
  ·rcases G3 _ _ h with h|z
   ·exact .inl h
   ·exact .inr ⟨row,aJ,z⟩
  ·exact .inr ⟨r,aK _ Z,z⟩
theorem zY:∀(rows:List (List Int))(S:List Tte),∀row∈rows,∀s∈stN row g,Sd.put row (gp g) s∈cX (j8 g rows S)
 |[],_,_,h,_,_=>by cases h
 |r::rows,S,row,h,s,hs=>by
  rcases aU.mp h with rfl|h
  ·obtain⟨q,Z,e⟩:=bQ.mp (G4 (stN row g) S s hs)
   exact bQ.mpr ⟨q,G5 rows _ Z,e⟩
  ·exact zY rows _ row h s hs
theorem Kf:∀(rows:List (List Int))(S:List Tte),(cX S).Nodup->(cX (j8 g rows S)).Nodup
 |[],_,h=>h
 |_::rows,_,h=>Kf rows _ (Ke _ _ h)
theorem ad8{l:List Int}(h:l≠[]){z:Int}:mx l<=z<->∀x∈l,x<=z:=by
 cases l with
 |nil=>exact absurd rfl h
 |cons a r=>
  have sp:=qx r a
  constructor
  ·intro Z x Y
   have:=sp.2 x Y
   show x<=z
   have Z:mxI a r<=z:=Z
   omega
  ·exact λZ=>Z _ sp.1
theorem yw{s:Nat}(B:gOk g):s∈stN row g<->Sd.fits row (gp g) s:=by
 have g1:=B.1
 unfold stN Sd.fits gp
 dsimp only
 rw[iH,bA,decide_eq_true_iff]
 have sl:∀(c:(s:Int)<=(row.length:Int)-g.2.2),(mx (sli row (s:Int) g.2.2)<=g.1<->∀r,s<=r->r<s+g.2.2.toNat->row.getD r 0<=g.1):=λc=>by
  rw[ad8 (wO (by omega) c g1)]
  unfold sli
  rw[show((s:Int)).toNat=s by omega]
  constructor
  ·intro h r h1 h2
   refine h _ ?_
   rw[sG]
   refine⟨r-s,?_⟩
   rw[uQ,if_pos (by omega),fD,show s+(r-s)=r by omega,aH,aB (by omega)]
   rfl
  ·intro h x X
   obtain⟨j,Z⟩:=sG.mp X
   rw[uQ]at Z
   by_cases Y:j<g.2.2.toNat
   ·rw[if_pos Y,fD]at Z
    have:=h (s+j) (by omega) (by omega)
    rw[aH,Z]at this
    exact this
   ·rw[if_neg Y]at Z;cases Z
 constructor
 ·rintro⟨h1,h2⟩
  have c:(s:Int)<=(row.length:Int)-g.2.2:=by omega
  exact⟨by omega,(sl c).mp h2⟩
 ·rintro⟨h1,h2⟩
  have c:(s:Int)<=(row.length:Int)-g.2.2:=by omega
  exact⟨by omega,(sl c).mpr h2⟩
end
theorem Kg:∀(gs:List Wi)(rows:List (List Int)),(∀g∈gs,gOk g)->[]∈lv rows gs->∀row∈rows,¬ ∃(ss:List Nat)(out:List Int),ss.length=gs.length/\Sd.Run row ((gs.map gp).zip ss) out
 |[],rows,_,h,_,_=>by rw[pC]at h;cases h
 |g::gs,rows,X,h,row,W=>by
  rintro⟨ss,out,Y,run⟩
  cases ss with
  |nil=>cases Y
  |cons s ss=>
   have run:Sd.fits row (gp g) s/\Sd.Run (Sd.put row (gp g) s) ((gs.map gp).zip ss) out:=run
   have Z:=zY (g:=g) rows [] row W s ((yw (X g aJ)).mpr run.1)
   rw[nC]at h
   by_cases c:j8 g rows []=[]
   ·rw[c]at Z
    cases Z
   ·rw[if_neg c]at h
    rcases aU.mp h with h|h
    ·exact c h.symm
    ·exact Kg gs _ (λg' h'=>X g' (aK _ h')) h _ ((fK _).mem_iff.mpr Z) ⟨ss,out,vm.inj Y,run.2⟩
def bk:List (List Tte)->List Int->Option (List Int×List Nat)
 |[],row=>some (row,[])
 |S::L,row=>match bk L row with
  |some (r,ss)=>match pX S r with
   |some (p,z)=>some (p,z.toNat::ss)
   |none=>none
  |none=>none
theorem Mr{k:List Int}(h:k∈cX S):∃v,pX S k=some v/\(k,v)∈S:=by
 unfold pX
 cases e:S.find? λq=>decide (q.1=k)with
 |none=>
  obtain⟨q,Z,z⟩:=bQ.mp h
  exact absurd (jt.mp e q Z) (by simp[z])
 |some q=>
  refine⟨q.2,rfl,?_⟩
  have h1:=iG e
  have h2:q.1=k:=of_decide_eq_true (rY (p:=λq:Tte=>decide (q.1=k)) e)
  rw[<-h2]
  exact h1
def xH:List (List Tte)->List (List Int)->List (List Int)
 |[],rows=>rows
 |[S],_=>cX S
 |_::S::L,rows=>xH (S::L) rows
theorem vd(S:List Tte)(L:List (List Tte))(rows:List (List Int)):xH (S::L) rows=xH L (cX S):=by
 induction L generalizing S rows with
 |nil=>rfl
 |cons T L Z=>
  show xH (T::L) rows=xH (T::L) (cX S)
  rw[Z,Z]
theorem Q8:∀(gs:List Wi)(rows:List (List Int)),(∀g∈gs,gOk g)->[]∉lv rows gs->∀row∈xH (lv rows gs) rows,∃(B:List Int)(ss:List Nat),bk (lv rows gs) row=some (B,ss)/\B∈rows/\ss.length=gs.length/\Sd.Run B ((gs.map gp).zip ss) row
 |[],rows,_,_,row,h=>⟨row,[],by rw[pC];rfl,by rw[pC]at h;exact h,rfl,rfl⟩
 |g::gs,rows,X,hn,row,h=>by
  rw[nC]at hn h ⊢
  have c:j8 g rows []≠[]:=λz=>hn (by rw[z];exact aJ)
  rw[if_neg c]at hn h ⊢
  rw[vd]at h
  have pm:=fK (cX (j8 g rows []))
  have h':row∈xH (lv (XJ.gw (cX (j8 g rows []))) gs) (XJ.gw (cX (j8 g rows []))):=by
   cases W:lv (XJ.gw (cX (j8 g rows []))) gs with
   |nil=>
    rw[W]at h
    exact pm.mem_iff.mpr h
   |cons T L=>
    rw[W,vd]at h
    rw[vd]
    exact h
  obtain⟨S,ss,e,Z,U,run⟩:=Q8 gs _ (λg' h'=>X g' (aK _ h')) (λz=>hn (aK _ z)) row h'
  obtain⟨v,e2,V⟩:=Mr (pm.mem_iff.mp Z)
  rcases tW rows [] V with z|⟨B,Y,s,hs,eq⟩
  ·cases z
  ·injection eq with q1 q2
   subst q2
   refine⟨B,s::ss,?_,Y,by rw[bC,bC,U],?_⟩
   ·unfold bk
    rw[e]
    dsimp only
    rw[e2]
    rfl
   ·show Sd.fits B (gp g) s/\Sd.Run (Sd.put B (gp g) s) ((gs.map gp).zip ss) row
    rw[<-q1]
    exact⟨(yw (X g aJ)).mp hs,run⟩
def q_:List D->List Nat->List Nat->List D
 |P,t::ts,s::ss=>(q_ P ts ss).set t (.int (s:Int))
 |P,_,_=>P
theorem v8:∀(P:List D)(ts ss:List Nat),(q_ P ts ss).length=P.length
 |P,t::ts,s::ss=>by rw[q_,cH,v8]
 |P,[],_=>by unfold q_;rfl
 |P,_::_,[]=>by unfold q_;rfl
def zpr(ts:List Nat)(L:List (List Tte)):List D:=(ts.zip L).map λq=>PyData.tuple [.int (q.1:Int),dtt q.2]
theorem Q9{r:List Int}{v:List Int×Int}(h:pX S r=some v):lD (dtt S) (rwD r)=some (ttV v):=by
 unfold lD
 rw[Ge,aM,Eh,aM,h]
 rfl
def wR(S:List Tte):List Int:=(XJ.gw (cX S)).getD 0 []
def G6:List (List Tte)->List Int
 |[]=>[]
 |[S]=>wR S
 |_::S::L=>G6 (S::L)
theorem Ms(S T:List Tte)(L:List (List Tte)):G6 (S::T::L)=G6 (T::L):=rfl
theorem Cj{a b:Option U}{n:Nat}:∀(ts:List Nat)(L:List (List Tte))(P:List D)(B:List Int)(ss:List Nat)(u v:Option U)(m:List D),L≠[]->ts.length=L.length->(∀t∈ts,t<P.length)->Few L->(∀S∈L,S≠[]/\∀q∈S,0<=q.2.2)->bk L (G6 L)=some (B,ss) ->
 ∃u' v',iT (gTn 2 (cF (gNl 4) (cF (gNl 5) (jE)))) (bW (sIf (bN (dUn Fv (ao 3))) (bU 3 (dOp gIx (dCall XJ.ji (au (ao 5) (aZ))) (dC (.int 0)))) (dJ)) (bW (CG 2 (ao 4) (dOp gIx (dOp lD (ao 5) (ao 3)) (dC (.int 1)))) (bU 3 (dOp gIx (dOp lD (ao 5) (ao 3)) (dC (.int 0)))))) ((zpr ts L).reverse++m) [a,b,some (.d (.list P)),some (.d .none),u,v]=iT (gTn 2 (cF (gNl 4) (cF (gNl 5) (jE)))) (bW (sIf (bN (dUn Fv (ao 3))) (bU 3 (dOp gIx (dCall XJ.ji (au (ao 5) (aZ))) (dC (.int 0)))) (dJ)) (bW (CG 2 (ao 4) (dOp gIx (dOp lD (ao 5) (ao 3)) (dC (.int 1)))) (bU 3 (dOp gIx (dOp lD (ao 5) (ao 3)) (dC (.int 0)))))) m [a,b,some (.d (.list (q_ P ts ss))),some (.d (rwD B)),u',v']
 |[],L,P,B,ss,u,v,m,N,V,_,_,_,_=>by
  cases L with
  |nil=>exact absurd rfl N
  |cons _ _=>cases V
 |t::ts,[],P,B,ss,u,v,m,N,_,_,_,_,_=>absurd rfl N
 |t::ts,S::L,P,B,ss,u,v,m,_,V,F,E,G,Z=>by
  have V:ts.length=L.length:=vm.inj V
  have tl:=F t aJ
  obtain⟨f1,f2⟩:=E S aJ
  obtain⟨z1,z2⟩:=G S aJ
  have C:(zpr (t::ts) (S::L)).reverse++m=(zpr ts L).reverse++(PyData.tuple [.int (t:Int),dtt S]::m):=by
   unfold zpr
   rw[uO,aP,jJ,aR]
   rfl
  rw[C]
  have I:∀{r:List Int}{v:List Int×Int},pX S r=some v->0<=v.2:=λ{r v} h=>by
   unfold pX at h
   cases e:S.find? λq=>decide (q.1=r)with
   |none=>rw[e]at h;cases h
   |some q=>
    rw[e]at h
    cases h
    exact z2 q (iG e)
  have i1:∀v:List Int×Int,gIx (ttV v) (.int 1)=some (.int v.2):=λ_=>rfl
  have H:∀v:List Int×Int,gIx (ttV v) (.int 0)=some (rwD v.1):=λ_=>rfl
  have y:isNone .none=true:=rfl
  have nr:∀r:List Int,isNone (rwD r)=false:=λ_=>rfl
  have g1:∀(x:Option U)(Q:List D)(u v:Option U),(gTn 2 (cF (gNl 4) (cF (gNl 5) (jE)))) (PyData.tuple [.int (t:Int),dtt S]) [a,b,some (.d (.list Q)),x,u,v]=some [a,b,some (.d (.list Q)),x,some (.d (.int (t:Int))),some (.d (dtt S))]:=λ_ _ _ _=>rfl
  by_cases c:L=[]
  ·subst c
   obtain rfl:ts=[]:=cJ.mp V
   have Z:(match pX S (wR S)with|some (p,z)=>some (p,z.toNat::[])|none=>none)=some (B,ss):=Z
   cases Y:pX S (wR S)with
   |none=>rw[Y]at Z;cases Z
   |some w=>
    rw[Y]at Z
    cases Z
    have w0:=I Y
    have gt:=Q9 Y
    have A:=zV f1 λk Y=>(f2 k Y).1
    have j:0<(XJ.gw (cX S)).length:=by
     rw[(fK _).length_eq]
     unfold cX
     rw[aq]
     exact uy.mpr z1
    have fa:pAt ((XJ.gw (cX S)).map rwD) 0=some (rwD (wR S)):=by
     rw[mz rwD [] (by omega) (by omega)]
     rfl
    have O:=J6 tl
    have M:(bW (sIf (bN (dUn Fv (ao 3))) (bU 3 (dOp gIx (dCall XJ.ji (au (ao 5) (aZ))) (dC (.int 0)))) (dJ)) (bW (CG 2 (ao 4) (dOp gIx (dOp lD (ao 5) (ao 3)) (dC (.int 1)))) (bU 3 (dOp gIx (dOp lD (ao 5) (ao 3)) (dC (.int 0)))))) [a,b,some (.d (.list P)),some (.d .none),some (.d (.int (t:Int))),some (.d (dtt S))]=some (.nx [a,b,some (.d (.list (P.set t (.int w.2)))),some (.d (rwD w.1)),some (.d (.int (t:Int))),some (.d (dtt S))]):=by
     simp only[EV,reduceIte,aA,aC,aj,ak,aD,aF,aG,y,A,fa,gt,i1,H,O,aM]
    refine⟨some (.d (.int (t:Int))),some (.d (dtt S)),(pB (g1 _ _ _ _) M).trans ?_⟩
    rw[q_,show q_ P [] []=P by unfold q_;rfl,show((w.2.toNat:Nat):Int)=w.2 by omega]
  ·obtain⟨T,J,rfl⟩:=List.exists_cons_of_ne_nil c
   rw[Ms]at Z
   unfold bk at Z
   cases W:bk (T::J) (G6 (T::J))with
   |none=>rw[W]at Z;cases Z
   |some q=>
    obtain⟨R,X⟩:=q
    rw[W]at Z
    dsimp only at Z
    cases Y:pX S R with
    |none=>rw[Y]at Z;cases Z
    |some w=>
     rw[Y]at Z
     cases Z
     have w0:=I Y
     have gt:=Q9 Y
     obtain⟨l,o,e⟩:=Cj (a:=a) (b:=b) (n:=n) ts (T::J) P R X u v (PyData.tuple [.int (t:Int),dtt S]::m) (by simp) V (λq s=>F q (aK _ s)) (λK h'=>E K (aK _ h')) (λK h'=>G K (aK _ h')) W
     have O:pIx (q_ P ts X).length (t:Int)=some t:=J6 (by rw[v8];exact tl)
     have M:(bW (sIf (bN (dUn Fv (ao 3))) (bU 3 (dOp gIx (dCall XJ.ji (au (ao 5) (aZ))) (dC (.int 0)))) (dJ)) (bW (CG 2 (ao 4) (dOp gIx (dOp lD (ao 5) (ao 3)) (dC (.int 1)))) (bU 3 (dOp gIx (dOp lD (ao 5) (ao 3)) (dC (.int 0)))))) [a,b,some (.d (.list (q_ P ts X))),some (.d (rwD R)),some (.d (.int (t:Int))),some (.d (dtt S))]=some (.nx [a,b,some (.d (.list ((q_ P ts X).set t (.int w.2)))),some (.d (rwD w.1)),some (.d (.int (t:Int))),some (.d (dtt S))]):=by
      simp only[EV,reduceIte,aA,aC,aj,ak,aD,aF,aG,nr,gt,i1,H,O,aM]
     refine⟨some (.d (.int (t:Int))),some (.d (dtt S)),e.trans ((pB (g1 _ _ _ _) M).trans ?_)⟩
     rw[q_,show((w.2.toNat:Nat):Int)=w.2 by omega]
theorem G7{P:List D}:∀(ts ss:List Nat),ts.length=ss.length->∀i,i∈ts->i<P.length->(q_ P ts ss)[i]? = some (.int ((ss.getD (ts.idxOf i) 0:Nat):Int))
 |[],_,_,i,h,_=>by cases h
 |_::_,[],h,_,_,_=>by cases h
 |t::ts,s::ss,Y,i,hi,Z=>by
  rw[q_,lK]
  by_cases c:t=i
  ·subst c
   rw[if_pos rfl,if_pos (by rw[v8];exact Z)]
   simp
  ·rw[if_neg c]
   rcases aU.mp hi with z|hi
   ·exact absurd z.symm c
   ·rw[G7 ts ss (vm.inj Y) i hi Z]
    have X:(t==i)=false:=by simpa using c
    rw[List.idxOf_cons,X]
    rfl
def Ej(n:Nat)(ts ss:List Nat):List Int:=(aV n).map λi=>((ss.getD (ts.idxOf i) 0:Nat):Int)
theorem Vf{ts ss:List Nat}(pm:ts.Perm (aV n))(B:ts.length=ss.length):q_ (aQ n .none) ts ss=(Ej n ts ss).map .int:=by
 apply dX
 intro i
 unfold Ej
 rw[cR,bw]
 by_cases c:i<n
 ·rw[G7 ts ss B i (pm.mem_iff.mpr (bA.mpr c)) (by simpa using c),dM c]
  rfl
 ·rw[bG (by rw[v8,bM];omega),bG (by rw[bO];omega)]
  rfl
theorem Kh:∀(ts:List Nat)(L:List (List Tte)),lY (ts.map λt:Nat=>PyData.int (t:Int)) (L.map dtt)=zpr ts L
 |[],_=>by simp[lY,zpr]
 |_::_,[]=>by simp[lY,zpr]
 |t::ts,S::L=>by
  show PyData.tuple [.int (t:Int),dtt S]::lY (ts.map λt:Nat=>PyData.int (t:Int)) (L.map dtt)=_
  rw[Kh ts L]
  rfl
theorem ad9{k:Nat}(h:k<=1000):uD (.list [.none]) (.int (k:Int))=some (.list (aQ k .none)):=by
 show(if [PyData.none].length*((k:Int)).toNat<=1000000/\-(2^63)<=(k:Int)/\(k:Int)<2^63 then some (PyData.list (aQ ((k:Int)).toNat [PyData.none]).flatten)else none)=_
 rw[if_pos ⟨by simp;omega,by omega,by omega⟩,show((k:Int)).toNat=k by omega]
 congr 2
 induction k with
 |zero=>rfl
 |succ k Z=>rw[cD,eX,Z (by omega),cD];rfl
section
variable{gs:List Wi}{ts:List Nat}{L:List (List Tte)}
theorem uT{B:List Int}{ss:List Nat}(hl:gs.length<64)(O:jY [.list (gs.map wiD)]=some (.list (ts.map λt:Nat=>PyData.int (t:Int))))(pm:ts.Perm (aV gs.length))(D:ts.length=L.length)(J:ts.length=ss.length)(hf:Few L)(hz:∀S∈L,S≠[]/\∀q∈S,0<=q.2.2)(hb:L≠[]->bk L (G6 L)=some (B,ss)):
 lH [.list (L.map dtt),.list (gs.map wiD)]=some (.list ((Ej gs.length ts ss).map .int)):=by
 have tl:ts.length=gs.length:=by rw[pm.length_eq,bO]
 have V:=ad9 (k:=gs.length) (by omega)
 have W:wL (.list (ts.map λt:Nat=>PyData.int (t:Int))) (.list (L.map dtt))=some (.list (zpr ts L)):=by
  show(if(ts.map λt:Nat=>PyData.int (t:Int)).length<=1000 then some (PyData.list (lY _ _))else none)=_
  rw[if_pos (by rw[aq];omega),Kh]
 have U:S6 (dOp wL (dCall jY (au (ao 1) (aZ))) (ao 0)) [some (.d (.list (L.map dtt))),some (.d (.list (gs.map wiD))),some (.d (.list (aQ gs.length .none))),some (.d .none),none,none]=some (zpr ts L).reverse:=by
  unfold S6
  have:(dOp wL (dCall jY (au (ao 1) (aZ))) (ao 0)) [some (.d (.list (L.map dtt))),some (.d (.list (gs.map wiD))),some (.d (.list (aQ gs.length .none))),some (.d .none),none,none]=some (.list (zpr ts L)):=by
   simp only[EV,reduceIte,aA,aC,aj,ak,aD,aF,aG,O,W]
  rw[this]
  rfl
 have fl:flats ((Ej gs.length ts ss).map PyData.int)=true:=rR _
 have lo:∃r' Y Z,iT (gTn 2 (cF (gNl 4) (cF (gNl 5) (jE)))) (bW (sIf (bN (dUn Fv (ao 3))) (bU 3 (dOp gIx (dCall XJ.ji (au (ao 5) (aZ))) (dC (.int 0)))) (dJ)) (bW (CG 2 (ao 4) (dOp gIx (dOp lD (ao 5) (ao 3)) (dC (.int 1)))) (bU 3 (dOp gIx (dOp lD (ao 5) (ao 3)) (dC (.int 0)))))) (zpr ts L).reverse [some (.d (.list (L.map dtt))),some (.d (.list (gs.map wiD))),some (.d (.list (aQ gs.length .none))),some (.d .none),none,none]=some (.nx [some (.d (.list (L.map dtt))),some (.d (.list (gs.map wiD))),some (.d (.list ((Ej gs.length ts ss).map .int))),r',Y,Z]):=by
  by_cases c:L=[]
  ·subst c
   have X:ts=[]:=cJ.mp D
   have T:gs=[]:=cJ.mp (by rw[<-tl,X];rfl)
   subst X T
   exact⟨_,_,_,rfl⟩
  ·obtain⟨Y,Z,e⟩:=Cj (a:=some (.d (.list (L.map dtt)))) (b:=some (.d (.list (gs.map wiD)))) (n:=0) ts L (aQ gs.length .none) B ss none none [] c D (λt h=>by rw[bM];exact bA.mp (pm.mem_iff.mp h)) hf hz (hb c)
   rw[cW,Vf pm J]at e
   exact⟨_,_,_,e⟩
 obtain⟨r',Y,Z,lo⟩:=lo
 unfold lH
 simp only[EV,reduceIte,aA,aC,aj,ak,aD,aF,aG,lMp,Com.sz (show 1<=1000000 by decide),V,U]
 rw[lo]
 simp only[EV,reduceIte,aA,aC,aj,ak,aD,aF,aG,fl]
end
theorem Q_:∀(gs:List Wi)(rows:List (List Int)),[]∉lv rows gs->(lv rows gs).length=gs.length
 |[],rows,_=>by rw[pC];rfl
 |g::gs,rows,h=>by
  rw[nC]at h ⊢
  have c:j8 g rows []≠[]:=λz=>h (by rw[z];exact aJ)
  rw[if_neg c]at h ⊢
  rw[bC,bC,Q_ gs _ λz=>h (aK _ z)]
theorem I_:∀(gs:List Wi)(rows:List (List Int)),[]∈lv rows gs->∃B,lv rows gs=B++[[]]/\[]∉B
 |[],rows,h=>by rw[pC]at h;cases h
 |g::gs,rows,h=>by
  rw[nC]at h ⊢
  by_cases c:j8 g rows []=[]
  ·rw[if_pos c,c]
   exact⟨[],rfl,by simp⟩
  ·rw[if_neg c]at h ⊢
   rcases aU.mp h with h|h
   ·exact absurd h.symm c
   ·obtain⟨B,e,hn⟩:=I_ gs _ h
    rw[e]
    refine⟨j8 g rows []::B,rfl,λz=>?_⟩
    rcases aU.mp z with z|z
    ·exact c z.symm
    ·exact hn z
theorem Ra:∀(gs:List Wi)(rows:List (List Int))(S:List Tte),S∈lv rows gs->∀q∈S,0<=q.2.2
 |[],rows,S,h,_,_=>by rw[pC]at h;cases h
 |g::gs,rows,S,h,q,Z=>by
  rw[nC]at h
  rcases aU.mp h with rfl|h
  ·rcases tW rows [] Z with z|⟨r,_,s,_,e⟩
   ·cases z
   ·rw[e]
    show(0:Int)<=(s:Int)
    omega
  ·by_cases c:j8 g rows []=[]
   ·rw[if_pos c]at h;cases h
   ·rw[if_neg c]at h
    exact Ra gs _ S h q Z
theorem Mt(h:S≠[]):wR S∈cX S:=by
 have Z:0<(XJ.gw (cX S)).length:=by
  rw[(fK _).length_eq]
  unfold cX
  rw[aq]
  exact uy.mpr h
 refine(fK _).mem_iff.mp ?_
 unfold wR
 rw[aH,aB Z]
 exact cj Z
theorem G8:∀(L:List (List Tte))(rows:List (List Int)),L≠[]->[]∉L->G6 L∈xH L rows
 |[],_,h,_=>absurd rfl h
 |[S],rows,_,hn=>Mt λz=>hn (by rw[z];exact aJ)
 |_::S::L,rows,_,hn=>G8 (S::L) rows (by simp) λz=>hn (aK _ z)
theorem Kl:pAt (l++[d]) (-1)=some d:=by
 unfold pAt pIx
 simp
 rw[if_pos (by omega),aM,show(-1+((l.length:Int)+1)).toNat=l.length by omega,bT (aL _)]
 simp
section
variable{gs:List Wi}{ts:List Nat}{hs:List Int}
theorem Vg(hg:∀g∈gs,gOk g)(O:gs.length<64)(D:hs.length<=100)(J:jY [.list (gs.map wiD)]=some (.list (ts.map λt:Nat=>PyData.int (t:Int))))(pm:ts.Perm (aV gs.length))(B:Few (lv [hs] (inT gs ts)))(hn:[]∈lv [hs] (inT gs ts)):
 fL [.list (hs.map .int),.list (gs.map wiD)]=some (.tuple [.str "none", .list ((lv [hs] (inT gs ts)).map λS=>PyData.list ((XJ.gw (cX S)).map rwD))]):=by
 have al:=all_gen hg O D J pm B
 obtain⟨M,e,_⟩:=I_ _ _ hn
 generalize P:lv [hs] (inT gs ts)=L at al B e ⊢
 have tn:=Ei []
 have W:pAt (L.map dtt) (-1)=some (dtt []):=by
  rw[e,cI]
  exact Kl
 have V:decide (((L.map dtt).length:Int)>0)=true:=dTr (by rw[e];simp)
 have C:=Ao (g:=(gNl 0)) (c:=(D3.mK)) (e:=(dCall XJ.ji (au (ao 0) (aZ)))) (δ:=[none]) dtt (λS=>PyData.list ((XJ.gw (cX S)).map rwD)) L (λS Z=>by
  refine⟨[some (.d (dtt S))],rfl,rfl,?_⟩
  have X:=zV (B S Z).1 λk Q=>((B S Z).2 k Q).1
  simp only[EV,reduceIte,aA,aC,aj,ak,aD,aF,aG,X])
 have N:∀a b c:Option U,n_ 1 [] [a,b,c]=[none]:=λ_ _ _=>rfl
 have Y:decide (((([]:List Tte).length:Nat):Int)=0)=true:=rfl
 have T:(L.map dtt).length<=100000:=by
  have:L.length<=gs.length:=by
   rw[<-P]
   have:∀(gs:List Wi)(rows:List (List Int)),(lv rows gs).length<=gs.length:=λgs=>by
    induction gs with
    |nil=>exact λrows=>by rw[pC];exact aL _
    |cons g gs R=>
     intro rows
     rw[nC,bC,bC]
     split
     ·simp
     ·exact Nat.succ_le_succ (R _)
   refine bF (this _ _) ?_
   unfold inT
   rw[aq,pm.length_eq,bO]
   exact aL _
  rw[aq]
  omega
 unfold fL
 simp only[EV,reduceIte,aA,aC,aj,ak,aD,aF,aG,al,V,W,tn,Y,T,N,C,Com.sz (show 2<=1000000 by decide)]
theorem Rc(hg:∀g∈gs,gOk g)(O:gs.length<64)(wl:hs.length<=100)(J:jY [.list (gs.map wiD)]=some (.list (ts.map λt:Nat=>PyData.int (t:Int))))(pm:ts.Perm (aV gs.length))(B:Few (lv [hs] (inT gs ts)))(hn:[]∉lv [hs] (inT gs ts)):
 ∃(ss:List Nat)(out:List Int),ss.length=ts.length/\Sd.Run hs (((inT gs ts).map gp).zip ss) out/\fL [.list (hs.map .int),.list (gs.map wiD)]=some (.tuple [.str "laid", .list ((Ej gs.length ts ss).map .int)]):=by
 have al:=all_gen hg O wl J pm B
 have tl:ts.length=gs.length:=by rw[pm.length_eq,bO]
 have V:=Q_ _ _ hn
 have it:(inT gs ts).length=ts.length:=by unfold inT;rw[aq]
 have N:∀g∈inT gs ts,gOk g:=λg h=>by
  obtain⟨t,h1,rfl⟩:=bQ.mp h
  have:=bA.mp (pm.mem_iff.mp h1)
  unfold gat
  rw[aH,aB this]
  exact hg _ (cj this)
 have Y:∃(ss:List Nat)(out:List Int),ss.length=ts.length/\Sd.Run hs (((inT gs ts).map gp).zip ss) out/\(lv [hs] (inT gs ts)≠[]->bk (lv [hs] (inT gs ts)) (G6 (lv [hs] (inT gs ts)))=some (hs,ss)):=by
  by_cases c:lv [hs] (inT gs ts)=[]
  ·have T:ts=[]:=cJ.mp (by rw[<-it,<-V,c];rfl)
   subst T
   exact⟨[],hs,rfl,rfl,λz=>absurd c z⟩
  ·obtain⟨M,ss,e,Q,W,run⟩:=Q8 _ _ N hn _ (G8 _ [hs] c hn)
   rw[aN.mp Q]at e run
   exact⟨ss,_,W.trans it,run,λ_=>e⟩
 obtain⟨ss,out,sl,run,P⟩:=Y
 have pl:=uT O J pm (by rw[V,it]) sl.symm B (λS h=>⟨λz=>hn (z▸h),Ra _ _ S h⟩) P
 refine⟨ss,out,sl,run,?_⟩
 generalize K:lv [hs] (inT gs ts)=L at al B hn pl V
 unfold fL
 by_cases c:L=[]
 ·subst c
  have al:jZ [.list (hs.map .int),.list (gs.map wiD)]=some (.list []):=al
  have pl:lH [.list [],.list (gs.map wiD)]=some (.list ((Ej gs.length ts ss).map .int)):=pl
  have X:decide (((([]:List D).length:Nat):Int)>0)=false:=rfl
  simp only[EV,reduceIte,aA,aC,aj,ak,aD,aF,aG,al,X,pl,Com.sz (show 2<=1000000 by decide)]
 ·obtain⟨Z,S,rfl⟩:∃Z S,L=Z++[S]:=⟨L.dropLast,L.getLast c,(n6 c).symm⟩
  have X:decide ((((Z++[S]).map dtt).length:Int)>0)=true:=dTr (by simp)
  have R:pAt ((Z++[S]).map dtt) (-1)=some (dtt S):=by
   rw[cI]
   exact Kl
  have tn:=Ei S
  have U:decide ((S.length:Int)=0)=false:=dFa λz=>hn (by
   have:S=[]:=cJ.mp (by omega)
   rw[this]
   simp)
  simp only[EV,reduceIte,aA,aC,aj,ak,aD,aF,aG,al,X,R,tn,U,pl,Com.sz (show 2<=1000000 by decide)]
end
def pr(gs:List Wi)(ts ss:List Nat)(t:Nat):Sd.Pl:=(gp (gat gs t),ss.getD (ts.idxOf t) 0)
theorem Rf:∀(ts ss:List Nat),ts.Nodup->ts.length=ss.length->((inT gs ts).map gp).zip ss=ts.map (pr gs ts ss)
 |ts,ss,nd,Z=>by
  unfold inT
  rw[cR]
  apply dX
  intro i
  rw[bw]
  by_cases hi:i<ts.length
  ·have hs:i<ss.length:=by omega
   rw[List.getElem?_zip_eq_some.mpr ⟨(by rw[bw,aB hi];rfl:(ts.map (gp∘gat gs))[i]? = some (gp (gat gs ts[i]),ss[i]).1),(aB hs:ss[i]? = some (gp (gat gs ts[i]),ss[i]).2)⟩,aB hi]
   have ix:ts.idxOf ts[i]=i:=List.Nodup.idxOf_getElem nd i hi
   show _=some (gp (gat gs ts[i]),ss.getD (ts.idxOf ts[i]) 0)
   rw[ix,aH,aB hs]
   rfl
  ·rw[bG (by simp;omega),bG (by omega)]
   rfl
theorem Ja{p q:Sd.Pl}(h:Sd.apart p q):Sd.apart q p:=by
 unfold Sd.apart at h ⊢
 rcases h with h|h|h|h
 ·exact .inr (.inl h)
 ·exact .inl h
 ·exact .inr (.inr (.inr h))
 ·exact .inr (.inr (.inl h))
theorem G9{l m:List Sd.Pl}(p:l.Perm m)(h:Sd.Sit hs l):Sd.Sit hs m:=
 ⟨λx Z=>h.1 x (p.mem_iff.mpr Z),p.pairwise h.2 λ{x y} z=>Ja z⟩
def std(gs:List Wi)(f:Nat->Nat):List Sd.Pl:=(aV gs.length).map λi=>(gp (gat gs i),f i)
theorem G_{s:Nat}(B:gOk g):roB hs g (s:Int)=true<->Sd.home hs (gp g,s):=by
 have:=yw (g:=g) (row:=hs) (s:=s) B
 unfold Sd.home
 rw[<-this]
 unfold roB stN
 rw[iH,bA,bf,bf,decide_eq_true_iff,decide_eq_true_iff]
 have:=B.1
 constructor
 ·rintro⟨⟨h1,h2⟩,Z⟩
  exact⟨by omega,Z⟩
 ·rintro⟨h1,Z⟩
  exact⟨⟨by omega,by omega⟩,Z⟩
theorem Km{k:Wi}{p q:Nat}(D:gOk g)(B:gOk k):apB g (p:Int) k (q:Int)=true<->Sd.apart (gp g,p) (gp k,q):=by
 have:=D.1
 have:=B.1
 unfold apB Sd.apart gp
 simp only[jB,decide_eq_true_iff]
 constructor
 ·rintro((h|h)|(h|h))
  ·exact .inl h
  ·exact .inr (.inl h)
  ·exact .inr (.inr (.inl (by omega)))
  ·exact .inr (.inr (.inr (by omega)))
 ·rintro(h|h|h|h)
  ·exact .inl (.inl h)
  ·exact .inl (.inr h)
  ·exact .inr (.inl (by omega))
  ·exact .inr (.inr (by omega))
theorem Rg(B:∀g∈gs,grOk g/\gOk g)(f:Nat->Nat):laB hs gs ((aV gs.length).map λi=>((f i:Nat):Int))=true<->Sd.Sit hs (std gs f):=by
 have Y:∀i,i<gs.length->grOk (gat gs i)/\gOk (gat gs i):=λi hi=>by
  unfold gat
  rw[aH,aB hi]
  exact B _ (cj hi)
 have W:∀i,i<gs.length->((aV gs.length).map λi=>((f i:Nat):Int)).getD i 0=((f i:Nat):Int):=λi hi=>by
  rw[aH,bw,dM hi]
  rfl
 rw[wQ]
 unfold Sd.Sit std
 constructor
 ·rintro⟨_,h1,h2⟩
  refine⟨λp V=>?_,?_⟩
  ·obtain⟨i,hi,rfl⟩:=bQ.mp V
   have hi:=bA.mp hi
   have:=h1 i hi
   rw[W i hi]at this
   exact(G_ (Y i hi).2).mp this
  ·rw[iQ,cA]
   intro i j hi Z X
   simp only[o7]
   have hi:i<gs.length:=by simpa using hi
   have Z:j<gs.length:=by simpa using Z
   have:=h2 j Z
   unfold beB at this
   have:=cQ.mp this i (bA.mpr X)
   rw[W j Z,W i hi,<-qY (Y j Z).1 (Y i hi).1]at this
   exact(Km (Y i hi).2 (Y j Z).2).mp this
 ·rintro⟨h1,h2⟩
  refine⟨by simp,λi hi=>?_,λj Z=>?_⟩
  ·rw[W i hi]
   exact(G_ (Y i hi).2).mpr (h1 _ (bQ.mpr ⟨i,bA.mpr hi,rfl⟩))
  ·unfold beB
   refine cQ.mpr λi hi=>?_
   have X:=bA.mp hi
   have hi:i<gs.length:=by omega
   rw[W j Z,W i hi,<-qY (Y j Z).1 (Y i hi).1]
   refine(Km (Y i hi).2 (Y j Z).2).mpr ?_
   rw[iQ,cA]at h2
   have:=h2 i j (by simpa using hi) (by simpa using Z) X
   simpa using this
section
variable{gs:List Wi}{ts:List Nat}{hs:List Int}
theorem Y4(h:grOk g):Sd.gok (gp g):=by
 have a:=h.f
 have b:=h.b
 have c:=h.s
 unfold Sd.gok gp
 exact⟨a,b,by dsimp only;omega⟩
theorem Ko(B:∀g∈gs,grOk g/\gOk g)(pm:ts.Perm (aV gs.length)){f:Nat->Nat}:∀p∈ts.map (λt=>((gp (gat gs t),f t):Sd.Pl)),Sd.gok p.1:=λp Z=>by
 obtain⟨t,h,rfl⟩:=bQ.mp Z
 have:=bA.mp (pm.mem_iff.mp h)
 refine Y4 (g:=gat gs t) ?_
 unfold gat
 rw[aH,aB this]
 exact(B _ (cj this)).1
theorem Hf(pw:ts.Pairwise λa b=>(gat gs a).1<=(gat gs b).1){f:Nat->Nat}:(ts.map (λt=>((gp (gat gs t),f t):Sd.Pl))).Pairwise λp q=>p.1.1<=q.1.1:=by
 rw[iQ]
 exact pw
theorem Hg(pm:ts.Perm (aV gs.length))(f:Nat->Nat):(ts.map (λt=>((gp (gat gs t),f t):Sd.Pl))).Perm (std gs f):=pm.map _
theorem V0:∀(ts:List Nat)(f:Nat->Nat),((inT gs ts).map gp).zip (ts.map f)=ts.map (λt=>((gp (gat gs t),f t):Sd.Pl))
 |[],_=>rfl
 |t::ts,f=>by
  show(gp (gat gs t),f t)::((inT gs ts).map gp).zip (ts.map f)=_
  rw[V0 ts f]
  rfl
theorem Mu(B:∀g∈gs,grOk g/\gOk g)(pm:ts.Perm (aV gs.length))(pw:ts.Pairwise λa b=>(gat gs a).1<=(gat gs b).1)(hn:[]∈lv [hs] (inT gs ts))(f:Nat->Nat):laB hs gs ((aV gs.length).map λi=>((f i:Nat):Int))=false:=by
 cases e:laB hs gs ((aV gs.length).map λi=>((f i:Nat):Int))with
 |false=>rfl
 |true=>
  exfalso
  have st:=G9 (Hg pm f).symm ((Rg B f).mp e)
  obtain⟨out,run⟩:=(Sd.J8 (Ko B pm) (Hf pw)).mpr st
  rw[<-V0]at run
  have Z:∀g∈inT gs ts,gOk g:=λg h=>by
   obtain⟨t,h1,rfl⟩:=bQ.mp h
   have:=bA.mp (pm.mem_iff.mp h1)
   unfold gat
   rw[aH,aB this]
   exact(B _ (cj this)).2
  refine Kg _ _ Z hn hs (gR _) ⟨ts.map f,out,?_,run⟩
  unfold inT
  rw[aq,aq]
theorem Mv(B:∀g∈gs,grOk g/\gOk g)(pm:ts.Perm (aV gs.length))(pw:ts.Pairwise λa b=>(gat gs a).1<=(gat gs b).1){ss:List Nat}{out:List Int}(sl:ss.length=ts.length)(run:Sd.Run hs (((inT gs ts).map gp).zip ss) out):laB hs gs (Ej gs.length ts ss)=true:=by
 have nd:ts.Nodup:=pm.nodup_iff.mpr List.nodup_range
 rw[Rf ts ss nd sl.symm]at run
 have st:=(Sd.J8 (Ko B pm (f:=λt=>ss.getD (ts.idxOf t) 0)) (Hf pw)).mp ⟨out,run⟩
 exact(Rg B λi=>ss.getD (ts.idxOf i) 0).mpr (G9 (Hg pm _) st)
end
theorem ae0{α:Type}(f:α->D){l m:List α}(h:l.length+m.length<=1000000):kj (.list (l.map f)) (.list (m.map f))=some (.list ((l++m).map f)):=by
 rw[J1,if_pos (by rw[aq,aq];exact h),cI]
def rlD(R:List (List Int)):D:=.list (R.map rwD)
theorem Rh{S:List (List Int)}{k x:List Int}:x∈m5 S k<->x∈S\/x=k:=by
 unfold m5
 split
 ·rename_i h
  exact⟨.inl,λz=>z.elim id λe=>e▸h⟩
 ·simp
theorem Ck:∀(ks S:List (List Int))(x:List Int),x∈ks.foldl m5 S<->x∈S\/x∈ks
 |[],S,x=>by simp
 |k::ks,S,x=>by
  rw[iI,Ck ks,Rh,aU]
  constructor
  ·rintro((h|h)|h)
   ·exact .inl h
   ·exact .inr (.inl h)
   ·exact .inr (.inr h)
  ·rintro(h|h|h)
   ·exact .inl (.inl h)
   ·exact .inl (.inr h)
   ·exact .inr h
theorem Ri(T:List (List Int)):tR (dsT T)=some T:=by
 unfold dsT tR
 dsimp only
 cases T with
 |nil=>rfl
 |cons k T=>
  have:xM ((k::T).map λk=>((.tuple (k.map .int),.bool true):D×D))=none:=rfl
  rw[this]
  exact zm (k::T)
open XS in
theorem V6(f g:Nat->Int):∀l:List Nat,Ij (l.map λk=>PyData.tuple [.int (f k),.int (g k)])=some (l.map λk=>(f k,g k))
 |[]=>rfl
 |a::l=>by
  rw[aP,Ij,V6 f g l]
  rfl
theorem Kp(R:List (List Int)):gEq (rlD R) (.list [])=some (.bool R.isEmpty):=by
 have l1:∀P:List Int,ly 5 (rwD P):=λP=>xu (QJ (vZ (n:=1) PyData.int (λ_=>QK) P)) (by decide)
 have l2:ly 60 (.list (R.map rwD)):=xu (yq (vZ rwD l1 R)) (by decide)
 unfold gEq rlD
 rw[qQ l2,show SeqAt.shaped (.list [])=true from rfl]
 cases R<;>simp[PyData.eqv,PyData.eqvAll]
def tn(n:Nat)(f:Nat->Int):List Nat:=if n<=1 then aV n else XS.ou n λi j=>decide (f i<f j)
theorem ux(n:Nat)(f:Nat->Int):(tn n f).Perm (aV n):=by
 unfold tn
 split
 ·exact .refl _
 ·exact XS.jh (by omega) _
theorem ae1(n:Nat)(f:Nat->Int):(tn n f).Pairwise λa b=>f a<=f b:=by
 unfold tn
 split
 ·next h=>
  have:n=0\/n=1:=by omega
  rcases this with rfl|rfl<;>simp
 ·exact(XS.rT XS.v5 (by omega)).imp λh=>ad6 h
theorem Rj(B:gs.length<64):jY [.list (gs.map wiD)]=some (.list ((tn gs.length λt=>(gat gs t).1).map λt:Nat=>PyData.int (t:Int))):=by
 have W:gJ 0 (gs.length:Int)=(aV gs.length).map λp:Nat=>PyData.int (p:Int):=by
  unfold gJ
  rw[show((gs.length:Int)-0).toNat=gs.length by omega]
  exact dN λk _=>by rw[jU]
 have U:yV [.int (gs.length:Int)]=some (.list ((aV gs.length).map λp:Nat=>PyData.int (p:Int))):=by
  rw[<-W]
  exact Tt (by omega) (by omega)
 have N:lG (gNl 0) D3.mK XS.dK0 (n_ 1 [0] [some (.d (.list (gs.map wiD)))]) ((aV gs.length).map λp:Nat=>PyData.int (p:Int))=some (((aV gs.length).map λt=>(gat gs t).1).map PyData.int):=by
  rw[cR]
  exact Ao (λp:Nat=>PyData.int (p:Int)) (λp:Nat=>PyData.int (gat gs p).1) _ λp R=>⟨[some (.d (.int (p:Int))),some (.d (.list (gs.map wiD)))],rfl,rfl,by
   show(pAt (gs.map wiD) (p:Int)).bind _=_
   rw[zW (bA.mp R)]
   rfl⟩
 have V:=XS.Lx (l:=(aV gs.length).map λp:Nat=>PyData.int (p:Int)) (k:=lG (gNl 0) D3.mK XS.dK0 (n_ 1 [0] [some (.d (.list (gs.map wiD)))])) (by rw[aq,bO];exact B) (by
  have:∀l:List Nat,flats (l.map λp:Nat=>PyData.int (p:Int))=true:=λl=>by
   induction l with
   |nil=>rfl
   |cons _ _ T=>rw[aP,flats,T];rfl
  exact this _) N (uo _)
 have e:XS.uK ((aV gs.length).map λp:Nat=>PyData.int (p:Int)) ((aV gs.length).map λt=>(gat gs t).1)=(tn gs.length λt=>(gat gs t).1).map λt:Nat=>PyData.int (t:Int):=by
  unfold XS.uK tn
  rw[aq,bO]
  by_cases h1:gs.length<=1
  ·rw[if_pos h1,if_pos h1]
  ·rw[if_neg h1,if_neg h1]
   have O:XS.ou gs.length (λi j=>decide (((aV gs.length).map λt=>(gat gs t).1).getD i 0<((aV gs.length).map λt=>(gat gs t).1).getD j 0))=XS.ou gs.length λi j=>decide ((gat gs i).1<(gat gs j).1):=by
    refine XS.zO XS.v5 (by omega) (XS.jh (by omega) _) ?_
    refine List.Pairwise.imp_of_mem ?_ (XS.rT XS.v5 (by omega))
    intro i j hi P S
    have Z:=bA.mp ((XS.jh (n:=gs.length) (by omega) _).mem_iff.mp hi)
    have Y:=bA.mp ((XS.jh (n:=gs.length) (by omega) _).mem_iff.mp P)
    have X:∀k,k<gs.length->((aV gs.length).map λt=>(gat gs t).1).getD k 0=(gat gs k).1:=λk Q=>by
     rw[aH,bw,dM Q]
     rfl
    show decide (((aV gs.length).map λt=>(gat gs t).1).getD i 0<((aV gs.length).map λt=>(gat gs t).1).getD j 0)=true\/(decide (((aV gs.length).map λt=>(gat gs t).1).getD j 0<((aV gs.length).map λt=>(gat gs t).1).getD i 0)=false/\i<j)
    rw[X i Z,X j Y]
    exact S
   rw[O]
   apply dN
   intro i hi
   have Z:=bA.mp ((XS.jh (n:=gs.length) (by omega) _).mem_iff.mp hi)
   rw[aH,bw,dM Z]
   rfl
 unfold jY
 simp only[EV,reduceIte,aA,aC,aj,ak,aD,aF,aG,lMp,U,XS.Ui,V]
 rw[e]
open XS in
theorem Rm(f:Nat->Int)(hn:n<64):XS.zf [.list ((aV n).map λk:Nat=>PyData.tuple [.int (f k),.int (k:Int)])]=some (.list ((tn n f).map λk:Nat=>PyData.tuple [.int (f k),.int (k:Int)])):=by
 by_cases R:n=0
 ·subst R
  rfl
 have P:dO ((aV n).map λk:Nat=>PyData.tuple [.int (f k),.int (k:Int)])=none:=by
  obtain⟨m,rfl⟩:∃m,n=m+1:=⟨n-1,by omega⟩
  rw[List.range_succ_eq_map,aP]
  rfl
 have ep:=V6 f (λk:Nat=>(k:Int)) (aV n)
 have len:((aV n).map λk:Nat=>PyData.tuple [.int (f k),.int (k:Int)]).length=n:=by rw[aq,bO]
 unfold XS.zf
 dsimp only
 rw[P]
 dsimp only
 rw[ep,aM,len,if_pos hn]
 by_cases h1:n=1
 ·subst h1
  rfl
 ·rw[if_neg h1]
  have W:∀i,i<n->((aV n).map λk:Nat=>(f k,(k:Int))).getD i (0,0)=(f i,(i:Int)):=λi hi=>by
   rw[aH,bw,dM hi]
   rfl
  have Q:tn n f=XS.ou n (XS.ltP ((aV n).map λk:Nat=>(f k,(k:Int)))):=by
   unfold tn
   rw[if_neg (by omega)]
   refine XS.zO XS.v5 (by omega) (XS.jh (by omega) _) ?_
   refine List.Pairwise.imp_of_mem ?_ (XS.rT (XS.QV _) (by omega))
   intro i j hi T V
   have Z:=bA.mp ((XS.jh (n:=n) (by omega) _).mem_iff.mp hi)
   have X:=bA.mp ((XS.jh (n:=n) (by omega) _).mem_iff.mp T)
   have Y:∀a b,a<n->b<n->XS.ltP ((aV n).map λk:Nat=>(f k,(k:Int))) a b=if f a=f b then decide ((a:Int)<b)else decide (f a<f b):=λa b ha S=>by
    unfold XS.ltP XS.Al
    rw[W a ha,W b S]
   unfold XS.Rk
   rcases V with z|⟨z,U⟩
   ·rw[Y i j Z X]at z
    split at z
    ·have:=of_decide_eq_true z
     exact .inr ⟨dFa (by omega),by omega⟩
    ·exact .inl z
   ·rw[Y j i X Z]at z
    split at z
    ·exact .inr ⟨dFa (by omega),U⟩
    ·have:=of_decide_eq_false z
     exact .inl (dTr (by omega))
  rw[Q]
  congr 2
  apply dN
  intro i hi
  have Z:=bA.mp ((XS.jh (n:=n) (by omega) _).mem_iff.mp hi)
  rw[aH,bw,dM Z]
  rfl
def zZ(gs:List Wi):List Wi:=(tn gs.length λt=>(gat gs t).1).map (gat gs)
theorem Jb(B:gs.length<64):mD [.list (gs.map wiD)]=some (.list ((zZ gs).map wiD)):=by
 have X:uL (some [.int (gs.length:Int)])=some (gJ 0 (gs.length:Int)):=GJ (by omega) (by omega)
 have W:gJ 0 (gs.length:Int)=(aV gs.length).map λp:Nat=>PyData.int (p:Int):=by
  unfold gJ
  rw[show((gs.length:Int)-0).toNat=gs.length by omega]
  exact dN λk _=>by rw[jU]
 have Q:=Ao (g:=(gNl 0)) (c:=(D3.mK)) (e:=(iy (dTup (au (dOp gIx (dOp gIx (ao 1) (ao 0)) (dC (.int 0))) (au (ao 0) (aZ)))))) (δ:=[none,some (.d (.list (gs.map wiD)))]) (λp:Nat=>PyData.int (p:Int)) (λp:Nat=>PyData.tuple [.int (gat gs p).1,.int (p:Int)]) (aV gs.length) (λp Z=>by
  refine⟨[some (.d (.int (p:Int))),some (.d (.list (gs.map wiD)))],rfl,rfl,?_⟩
  have ga:=zW (gs:=gs) (bA.mp Z)
  have V:gIx (wiD (gat gs p)) (.int 0)=some (.int (gat gs p).1):=rfl
  simp only[EV,reduceIte,aA,aC,aj,ak,aD,aF,aG,ga,V,Com.sz (show 2<=1000000 by decide)])
 have R:=Ao (g:=(gNl 0)) (c:=(D3.mK)) (e:=(iy (dOp gIx (ao 1) (dOp gIx (ao 0) (dC (.int 1)))))) (δ:=[none,some (.d (.list (gs.map wiD)))]) (λp:Nat=>PyData.tuple [.int (gat gs p).1,.int (p:Int)]) (λp:Nat=>wiD (gat gs p)) (tn gs.length λt=>(gat gs t).1) (λp Z=>by
  refine⟨[some (.d (.tuple [.int (gat gs p).1,.int (p:Int)])),some (.d (.list (gs.map wiD)))],rfl,rfl,?_⟩
  have ga:=zW (gs:=gs) (bA.mp ((ux _ _).mem_iff.mp Z))
  have i1:∀a b:D,gIx (.tuple [a,b]) (.int 1)=some b:=λ_ _=>rfl
  have T:flat (wiD (gat gs p))=true:=rfl
  simp only[EV,reduceIte,aA,aC,aj,ak,aD,aF,aG,i1,ga,T])
 have Y:=Rm (n:=gs.length) (λt=>(gat gs t).1) B
 have S:∀a:Option U,n_ 1 [0] [a]=[none,a]:=λ_=>rfl
 have l1:(aV gs.length).length<=100000:=by rw[bO];omega
 have l2:(tn gs.length λt=>(gat gs t).1).length<=100000:=by rw[(ux _ _).length_eq,bO];omega
 unfold mD
 simp only[EV,reduceIte,aA,aC,aj,ak,aD,aF,aG,lMp,X,W,S,l1,Q,Y,l2,R]
 unfold zZ
 rw[cR]
 rfl
theorem Rn(gs:List Wi):(zZ gs).length=gs.length:=by unfold zZ;rw[aq,(ux _ _).length_eq,bO]
theorem Ro:g∈zZ gs<->g∈gs:=by
 unfold zZ
 rw[bQ]
 constructor
 ·rintro⟨t,h1,rfl⟩
  have:=bA.mp ((ux _ _).mem_iff.mp h1)
  unfold gat
  rw[aH,aB this]
  exact cj this
 ·intro h
  obtain⟨i,hi,rfl⟩:=f9 h
  refine⟨i,(ux _ _).mem_iff.mpr (bA.mpr hi),?_⟩
  unfold gat
  rw[aH,aB hi]
  rfl
def rest(g:Wi)(row:List Int):List Int:=row.map λe=>if e<=g.1 then 0 else e
theorem Kq{s:Nat}(B:1<=g.2.2)(h:s+g.2.2.toNat<=row.length):(rest g row).take s++aQ g.2.2.toNat g.2.1++(rest g row).drop (s+g.2.2.toNat)=Sd.put row (gp g) s:=by
 have Z:(rest g row).length=row.length:=by unfold rest;rw[aq]
 apply dX
 intro i
 unfold Sd.put
 rw[fO]
 have X:∀i,(rest g row)[i]? = row[i]?.map λe=>if e<=g.1 then 0 else e:=λi=>by unfold rest;rw[bw]
 by_cases h1:i<s
 ·rw[aR,cg (by rw[bV,Z];omega),iW h1,X]
  congr 1
  funext e
  show _=if s<=i/\i<s+g.2.2.toNat then g.2.1 else if e<=g.1 then 0 else e
  rw[if_neg (show ¬(s<=i/\i<s+g.2.2.toNat)by omega)]
 ·by_cases h2:i<s+g.2.2.toNat
  ·rw[aR,bT (by rw[bV,Z];omega),cg (by rw[bV,Z,bM];omega),fM,bV,Z,if_pos (by omega),aB (by omega)]
   unfold Sd.cell gp
   rw[kZ,if_pos (by dsimp only;omega)]
  ·have Y:((rest g row).take s++aQ g.2.2.toNat g.2.1).length=s+g.2.2.toNat:=by rw[bh,bV,Z,bM];omega
   rw[bT (by rw[Y];omega),fD,Y,show s+g.2.2.toNat+(i-(s+g.2.2.toNat))=i by omega,X]
   congr 1
   funext e
   show _=if s<=i/\i<s+g.2.2.toNat then g.2.1 else if e<=g.1 then 0 else e
   rw[if_neg (show ¬(s<=i/\i<s+g.2.2.toNat)by omega)]
def Mw(g:Wi)(rows:List (List Int)):List (List Int):=rows.flatMap λrow=>(stN row g).map λs=>Sd.put row (gp g) s
def nxT(g:Wi)(rows:List (List Int)):List (List Int):=(Mw g rows).foldl m5 []
theorem Rp{S:List (List Int)}{k:List Int}(D:ao i δ=some (dsT S))(h1:fk δ=some (rwD k))(B:S.length<1000000):tV i fk δ=some (.nx (δ.set i (some (.d (dsT (m5 S k)))))):=by
 unfold tV
 rw[D,aM,h1,aM,TQ,aM,Eh,aM,if_pos B]
theorem Hh(S:List (List Int))(k:List Int):(m5 S k).length<=S.length+1:=by
 unfold m5
 split<;>simp
theorem um:∀(ks S:List (List Int)),(ks.foldl m5 S).length<=S.length+ks.length
 |[],S=>aL _
 |k::ks,S=>by
  have h1:=um ks (m5 S k)
  have h2:=Hh S k
  rw[iI,bC]
  omega
theorem Vh{S:List (List Int)}{k:List Int}(h:S.Nodup):(m5 S k).Nodup:=by
 unfold m5
 split
 ·exact h
 ·rename_i q
  rw[pF]
  exact⟨h,by simp,λa ha b Z e=>q (by rw[aN.mp Z]at e;rw[<-e];exact ha)⟩
theorem Hi:∀(ks S:List (List Int)),S.Nodup->(ks.foldl m5 S).Nodup
 |[],S,h=>h
 |k::ks,S,h=>by
  rw[iI]
  exact Hi ks _ (Vh h)
theorem Y5(g:Wi)(rows:List (List Int)):(nxT g rows).Nodup:=Hi _ _ .nil
theorem Ek{x:List Int}:x∈nxT g rows<->∃row∈rows,∃s∈stN row g,x=Sd.put row (gp g) s:=by
 unfold nxT
 rw[Ck]
 unfold Mw
 rw[List.mem_flatMap]
 constructor
 ·rintro(h|⟨row,Z,h⟩)
  ·cases h
  ·obtain⟨s,hs,rfl⟩:=bQ.mp h
   exact⟨row,Z,s,hs,rfl⟩
 ·rintro⟨row,Z,s,hs,rfl⟩
  exact .inr ⟨row,Z,bQ.mpr ⟨s,hs,rfl⟩⟩
theorem tX(O:1<=g.2.2)(J:g.2.2<=6)(W:row.length<=100)(a:Option U):∀(ss:List Nat)(S:List (List Int))(u v:Option U),(∀s∈ss,(s:Int)<=(row.length:Int)-g.2.2)->S.length+ss.length<1000000 ->
 ∃D B,iT (gNl 8) (sIf (bN (dOp gLe (dCall uJ (au (xO (ao 6) (d8 (ao 8)) (d8 (dOp eF (ao 8) (ao 4)))) (aZ))) (ao 2))) (bW (bU 9 (dOp kj (dSl (ao 7) kJ (d8 (ao 8))) (dOp uD (iY (au (ao 3) (aZ))) (ao 4)))) (tV 5 (dUn pN (dOp kj (ao 9) (dSl (ao 7) (d8 (dOp eF (ao 8) (ao 4))) kJ))))) (dJ)) (ss.map λs:Nat=>PyData.int (s:Int)) [a,some (.d (wiD g)),some (.d (.int g.1)),some (.d (.int g.2.1)),some (.d (.int g.2.2)),some (.d (dsT S)),some (.d (rwD row)),some (.d (.list ((rest g row).map .int))),u,v] =
  some (.nx [a,some (.d (wiD g)),some (.d (.int g.1)),some (.d (.int g.2.1)),some (.d (.int g.2.2)),some (.d (dsT (((ss.filter λs:Nat=>decide (mx (sli row (s:Int) g.2.2)<=g.1)).map λs=>Sd.put row (gp g) s).foldl m5 S))),some (.d (rwD row)),some (.d (.list ((rest g row).map .int))),D,B])
 |[],S,u,v,_,_=>⟨u,v,rfl⟩
 |s::ss,S,u,v,hs,R=>by
  rw[bC]at R
  have Y:=hs s aJ
  have hs':∀t∈ss,(t:Int)<=(row.length:Int)-g.2.2:=λt T=>hs t (aK _ T)
  have Q:(rest g row).length=row.length:=by unfold rest;rw[aq]
  have Z:∀(a b c d e f h:Option U),xO (ao 6) (d8 (ao 8)) (d8 (dOp eF (ao 8) (ao 4))) [a,b,c,d,some (.d (.int g.2.2)),f,some (.d (rwD row)),h,some (.d (.int (s:Int))),e]=some (.tuple ((sli row (s:Int) g.2.2).map .int)):=λa b c d e f h=>by
   rw[J_ (l:=row.map .int) (lo:=some (s:Int)) (hi:=some ((s:Int)+g.2.2)) rfl rfl rfl (rR _),yt (by omega) Y O]
  have mt:=GP (wO (show(0:Int)<=(s:Int)by omega) Y O)
  rw[jV]
  by_cases q:mx (sli row (s:Int) g.2.2)<=g.1
  ·rw[if_pos (dTr q),aP (f:=λs:Nat=>Sd.put row (gp g) s),iI]
   have k1:cutD ((rest g row).map PyData.int) none (some (s:Int))=((rest g row).take s).map .int:=by rw[J5 (by omega),kE];rfl
   have k2:cutD ((rest g row).map PyData.int) (some ((s:Int)+g.2.2)) none=((rest g row).drop (s+g.2.2.toNat)).map .int:=by rw[J4 (by omega),kI,show((s:Int)+g.2.2).toNat=s+g.2.2.toNat by omega]
   have V:uD (.list [.int g.2.1]) (.int g.2.2)=some (.list ((aQ g.2.2.toNat g.2.1).map PyData.int)):=QH (by omega) (by omega)
   have g1:kj (.list (((rest g row).take s).map .int)) (.list ((aQ g.2.2.toNat g.2.1).map PyData.int))=some (.list (((rest g row).take s++aQ g.2.2.toNat g.2.1).map PyData.int)):=ae0 PyData.int (by rw[bV,bM];omega)
   have g2:kj (.list (((rest g row).take s++aQ g.2.2.toNat g.2.1).map PyData.int)) (.list (((rest g row).drop (s+g.2.2.toNat)).map .int))=some (.list ((Sd.put row (gp g) s).map .int)):=by
    rw[ae0 PyData.int (by rw[bh,bV,bM,cV];omega),Kq O (by omega)]
   have pl:=Hh S (Sd.put row (gp g) s)
   obtain⟨D,B,e⟩:=tX O J W a ss (m5 S (Sd.put row (gp g) s)) (some (.d (.int (s:Int)))) (some (.d (.list (((rest g row).take s++aQ g.2.2.toNat g.2.1).map .int)))) hs' (by omega)
   refine⟨D,B,(pB rfl ?_).trans e⟩
   have X:=Rp (i:=5) (S:=S) (k:=Sd.put row (gp g) s) (fk:=(dUn pN (dOp kj (ao 9) (dSl (ao 7) (d8 (dOp eF (ao 8) (ao 4))) kJ)))) (δ:=[a,some (.d (wiD g)),some (.d (.int g.1)),some (.d (.int g.2.1)),some (.d (.int g.2.2)),some (.d (dsT S)),some (.d (rwD row)),some (.d (.list ((rest g row).map .int))),some (.d (.int (s:Int))),some (.d (.list (((rest g row).take s++aQ g.2.2.toNat g.2.1).map .int)))]) rfl (by
    simp only[EV,reduceIte,aA,aC,aj,ak,aD,aF,aG,k2,g2,yW]
    rfl) (by omega)
   simp only[EV,reduceIte,aA,aC,aj,ak,aD,aF,aG,Z,mt,dTr q,k1,V,g1,X,Com.sz (show 1<=1000000 by decide)]
  ·rw[if_neg (by rw[dFa q];decide)]
   obtain⟨D,B,e⟩:=tX O J W a ss S (some (.d (.int (s:Int)))) v hs' (by omega)
   refine⟨D,B,(pB rfl ?_).trans e⟩
   simp only[EV,reduceIte,aA,aC,aj,ak,aD,aF,aG,Z,mt,dFa q]
theorem Mx(g:Wi)(row:List Int)(rows:List (List Int)):Mw g (row::rows)=((stN row g).map λs=>Sd.put row (gp g) s)++Mw g rows:=by unfold Mw;rw[List.flatMap_cons]
theorem xJ(Z:1<=g.2.2)(B:g.2.2<=6)(a:Option U):∀(rows:List (List Int))(S:List (List Int))(u v w x:Option U),(∀r∈rows,r.length<=100)->S.length+101*rows.length<1000000 ->
 ∃Y W O J,iT (gNl 6) (bW (bU 7 (jF (wI (ao 6)) (gNl 0) (D3.mK) (iy (dOp gIx (iY (au (ao 0) (au (dC (.int 0)) (aZ)))) (dCall sV (au (dOp gLe (ao 0) (ao 1)) (aZ))))) 1 [2])) (mV (mO (au (dOp eF (dOp uz (dCall iZ (au (ao 6) (aZ))) (ao 4)) (dC (.int 1))) (aZ))) (gNl 8) (sIf (bN (dOp gLe (dCall uJ (au (xO (ao 6) (d8 (ao 8)) (d8 (dOp eF (ao 8) (ao 4)))) (aZ))) (ao 2))) (bW (bU 9 (dOp kj (dSl (ao 7) kJ (d8 (ao 8))) (dOp uD (iY (au (ao 3) (aZ))) (ao 4)))) (tV 5 (dUn pN (dOp kj (ao 9) (dSl (ao 7) (d8 (dOp eF (ao 8) (ao 4))) kJ))))) (dJ)))) (rows.map rwD) [a,some (.d (wiD g)),some (.d (.int g.1)),some (.d (.int g.2.1)),some (.d (.int g.2.2)),some (.d (dsT S)),u,v,w,x] =
  some (.nx [a,some (.d (wiD g)),some (.d (.int g.1)),some (.d (.int g.2.1)),some (.d (.int g.2.2)),some (.d (dsT ((Mw g rows).foldl m5 S))),Y,W,O,J])
 |[],S,u,v,w,x,_,_=>⟨u,v,w,x,rfl⟩
 |row::rows,S,u,v,w,x,R,K=>by
  rw[bC]at K
  have Q:=R row aJ
  have sq:qSq (some (rwD row))=some (row.map .int):=rfl
  have C:=Ao (g:=(gNl 0)) (c:=(D3.mK)) (e:=(iy (dOp gIx (iY (au (ao 0) (au (dC (.int 0)) (aZ)))) (dCall sV (au (dOp gLe (ao 0) (ao 1)) (aZ)))))) (δ:=[none,some (.d (.int g.1))]) (λe:Int=>PyData.int e) (λe:Int=>PyData.int (if e<=g.1 then 0 else e)) row (λe _=>by
   refine⟨[some (.d (.int e)),some (.d (.int g.1))],rfl,rfl,?_⟩
   have H:∀p q:D,gIx (.list [p,q]) (.int 0)=some p:=λ_ _=>rfl
   have i1:∀p q:D,gIx (.list [p,q]) (.int 1)=some q:=λ_ _=>rfl
   by_cases c:e<=g.1
   ·rw[if_pos c]
    simp only[EV,reduceIte,aA,aC,aj,ak,aD,aF,aG,dTr c,show sV [.bool true]=some (.int 1)from rfl,at1,Com.sz (show 2<=1000000 by decide)]
   ·rw[if_neg c]
    simp only[EV,reduceIte,aA,aC,aj,ak,aD,aF,aG,dFa c,show sV [.bool false]=some (.int 0)from rfl,at0,Com.sz (show 2<=1000000 by decide)])
  have N:(row.map λe:Int=>PyData.int (if e<=g.1 then 0 else e))=(rest g row).map .int:=by unfold rest;rw[cR];rfl
  rw[N]at C
  have I:∀a b c d e f g h i j:Option U,n_ 1 [2] [a,b,c,d,e,f,g,h,i,j]=[none,c]:=λ_ _ _ _ _ _ _ _ _ _=>rfl
  have L:row.length<=100000:=by omega
  have M:iZ [rwD row]=some (.int (row.length:Int)):=by
   show some (PyData.int ((row.map PyData.int).length:Int))=_
   rw[aq]
  have P:uL (some [.int ((row.length:Int)-g.2.2+1)])=some ((aV ((row.length:Int)-g.2.2+1).toNat).map λs:Nat=>PyData.int (s:Int)):=by
   rw[GJ (by omega) (by omega)]
   unfold gJ
   rw[rm]
   congr 1
   exact dN λs _=>by rw[jU]
  obtain⟨T,V,X⟩:=tX (g:=g) (row:=row) Z B Q a (aV ((row.length:Int)-g.2.2+1).toNat) S w x (λs hs=>by have:=bA.mp hs;omega) (by rw[bO];omega)
  have fl:=um ((stN row g).map λs=>Sd.put row (gp g) s) S
  have sl:=Kc row g Z
  rw[aq]at fl
  obtain⟨Y,W,O,J,e2⟩:=xJ Z B a rows (((stN row g).map λs=>Sd.put row (gp g) s).foldl m5 S) (some (.d (rwD row))) (some (.d (.list ((rest g row).map .int)))) T V (λr h=>R r (aK _ h)) (by omega)
  refine⟨Y,W,O,J,?_⟩
  rw[Mx,List.foldl_append]
  have X:iT (gNl 8) (sIf (bN (dOp gLe (dCall uJ (au (xO (ao 6) (d8 (ao 8)) (d8 (dOp eF (ao 8) (ao 4)))) (aZ))) (ao 2))) (bW (bU 9 (dOp kj (dSl (ao 7) kJ (d8 (ao 8))) (dOp uD (iY (au (ao 3) (aZ))) (ao 4)))) (tV 5 (dUn pN (dOp kj (ao 9) (dSl (ao 7) (d8 (dOp eF (ao 8) (ao 4))) kJ))))) (dJ)) ((aV ((row.length:Int)-g.2.2+1).toNat).map λs:Nat=>PyData.int (s:Int)) [a,some (.d (wiD g)),some (.d (.int g.1)),some (.d (.int g.2.1)),some (.d (.int g.2.2)),some (.d (dsT S)),some (.d (rwD row)),some (.d (.list ((rest g row).map .int))),w,x]=some (.nx [a,some (.d (wiD g)),some (.d (.int g.1)),some (.d (.int g.2.1)),some (.d (.int g.2.2)),some (.d (dsT (((stN row g).map λs=>Sd.put row (gp g) s).foldl m5 S))),some (.d (rwD row)),some (.d (.list ((rest g row).map .int))),T,V]):=X
  refine(pB rfl ?_).trans e2
  simp only[EV,reduceIte,aA,aC,aj,ak,aD,aF,aG,Xn,sq,I,lMp,L,C,M,P,X]
theorem Rq(J:1<=g.2.2)(B:g.2.2<=6)(D:∀r∈rows,1<=r.length/\r.length<=100)(hl:rows.length<=1000)(O:(nxT g rows).length<=1000):iw [.list (rows.map rwD),wiD g]=some (.list ((XJ.gw (nxT g rows)).map rwD)):=by
 obtain⟨W,X,Y,Z,e⟩:=xJ J B (some (.d (.list (rows.map rwD)))) rows [] none none none none (λr h=>(D r h).2) (by simp;omega)
 have e:iT (gNl 6) (bW (bU 7 (jF (wI (ao 6)) (gNl 0) (D3.mK) (iy (dOp gIx (iY (au (ao 0) (au (dC (.int 0)) (aZ)))) (dCall sV (au (dOp gLe (ao 0) (ao 1)) (aZ))))) 1 [2])) (mV (mO (au (dOp eF (dOp uz (dCall iZ (au (ao 6) (aZ))) (ao 4)) (dC (.int 1))) (aZ))) (gNl 8) (sIf (bN (dOp gLe (dCall uJ (au (xO (ao 6) (d8 (ao 8)) (d8 (dOp eF (ao 8) (ao 4)))) (aZ))) (ao 2))) (bW (bU 9 (dOp kj (dSl (ao 7) kJ (d8 (ao 8))) (dOp uD (iY (au (ao 3) (aZ))) (ao 4)))) (tV 5 (dUn pN (dOp kj (ao 9) (dSl (ao 7) (d8 (dOp eF (ao 8) (ao 4))) kJ))))) (dJ)))) (rows.map rwD) [some (.d (.list (rows.map rwD))),some (.d (wiD g)),some (.d (.int g.1)),some (.d (.int g.2.1)),some (.d (.int g.2.2)),some (.d (.dict [])),none,none,none,none]=some (.nx [some (.d (.list (rows.map rwD))),some (.d (wiD g)),some (.d (.int g.1)),some (.d (.int g.2.1)),some (.d (.int g.2.2)),some (.d (dsT (nxT g rows))),W,X,Y,Z]):=e
 have ts:XJ.ji [dsT (nxT g rows)]=some (.list ((XJ.gw (nxT g rows)).map rwD)):=by
  show(tR (dsT (nxT g rows))).bind _=_
  rw[Ri,aM,if_pos]
  refine⟨O,cQ.mpr λk T=>?_⟩
  obtain⟨row,h1,s,_,rfl⟩:=Ek.mp T
  have l1:=Sd.yr row (gp g) s
  have l2:=(D row h1).1
  cases V:Sd.put row (gp g) s with
  |nil=>rw[V,jD]at l1;omega
  |cons _ _=>rfl
 have sq:qSq (some (.list (rows.map rwD)))=some (rows.map rwD):=rfl
 have as:∀(a b c d e f h i j k:Option U),gTn 3 (cF (gNl 2) (cF (gNl 3) (cF (gNl 4) (jE)))) (wiD g) [a,b,c,d,e,f,h,i,j,k]=some [a,b,some (.d (.int g.1)),some (.d (.int g.2.1)),some (.d (.int g.2.2)),f,h,i,j,k]:=λ_ _ _ _ _ _ _ _ _ _=>rfl
 unfold iw
 simp only[EV,reduceIte,aA,aC,aj,ak,aD,aF,aG,as,Xn,sq,e,ts]
theorem wU{x:List Int}:x∈XJ.gw ks<->x∈ks:=(fK ks).mem_iff
def fac:Nat->Nat
 |0=>1
 |n+1=>(n+1)*fac n
theorem Hj{α β:Type}[DecidableEq β](f:α->β):∀(ks:List β)(L:List α),(∀x∈L,f x∈ks)->L.length<=(ks.map λk=>(L.filter λx=>decide (f x=k)).length).sum
 |[],L,h=>by
  cases L with
  |nil=>simp
  |cons x r=>exact absurd (h x aJ) dB
 |k::ks,L,h=>by
  have split:∀L:List α,L.length=(L.filter λx=>decide (f x=k)).length+(L.filter λx=>!decide (f x=k)).length:=λL=>by
   induction L with
   |nil=>rfl
   |cons x r Y=>
    rw[jV,jV]
    cases decide (f x=k)<;>simp<;>omega
  have Y:=Hj f ks (L.filter λx=>!decide (f x=k)) (λx X=>by
   rw[iH]at X
   have hn:f x≠k:=by simpa using X.2
   rcases aU.mp (h x X.1)with z|z
   ·exact absurd z hn
   ·exact z)
  have sub:∀Z,((L.filter λx=>!decide (f x=k)).filter λx=>decide (f x=Z)).length<=(L.filter λx=>decide (f x=Z)).length:=λZ=>by
   have e:((L.filter λx=>!decide (f x=k)).filter λx=>decide (f x=Z))=(L.filter λx=>decide (f x=Z)).filter λx=>!decide (f x=k):=by
    rw[uR,uR]
    congr 1
    funext x
    exact Bool.and_comm _ _
   rw[e]
   exact sE _ _
  have mono:∀ks:List β,(ks.map λZ=>((L.filter λx=>!decide (f x=k)).filter λx=>decide (f x=Z)).length).sum<=(ks.map λZ=>(L.filter λx=>decide (f x=Z)).length).sum:=λks=>by
   induction ks with
   |nil=>exact aL _
   |cons Z ks Y=>rw[aP,aP,pU,pU];exact Nat.add_le_add (sub Z) Y
  rw[aP,pU,split L]
  exact Nat.add_le_add_left (bF Y (mono ks)) _
theorem Rr{β:Type}(f:β->Nat)(c:Nat):∀ks:List β,(∀k∈ks,f k<=c)->(ks.map f).sum<=ks.length*c
 |[],_=>by simp
 |k::ks,h=>by
  rw[aP,pU,bC,Nat.succ_mul,Nat.add_comm]
  exact Nat.add_le_add (Rr f c ks λx Z=>h x (aK _ Z)) (h k aJ)
theorem z9:∀(n:Nat)(m:List Int),m.length=n->∀L:List (List Int),L.Nodup->(∀x∈L,x.Perm m)->L.length<=fac n
 |0,m,hm,L,nd,h=>by
  have hm:m=[]:=cJ.mp hm
  subst hm
  match L,nd,h with
  |[],_,_=>exact cZ _
  |[_],_,_=>exact aL _
  |x::y::r,nd,h=>
   have Z:x=[]:=(h x aJ).eq_nil
   have X:y=[]:=(h y (aK _ aJ)).eq_nil
   rw[Z,X]at nd
   exact absurd aJ (eO.mp nd).1
 |n+1,m,hm,L,nd,h=>by
  have ne:∀x∈L,∃a t,x=a::t/\a∈m:=λx Z=>by
   cases x with
   |nil=>have:=(h [] Z).length_eq;rw[hm]at this;cases this
   |cons a t=>exact⟨a,t,rfl,(h _ Z).mem_iff.mp aJ⟩
  have c:=Hj (λx:List Int=>x.headD 0) m L (λx Z=>by
   obtain⟨a,t,rfl,ha⟩:=ne x Z
   exact ha)
  refine bF c (bF (Rr _ (fac n) m λa ha=>?_) (by rw[hm];exact aL _))
  have Y:=z9 n (m.erase a) (by rw[List.length_erase_of_mem ha,hm];rfl) ((L.filter λx=>decide (x.headD 0=a)).map List.tail) (by
   show List.Pairwise _ _
   rw[iQ]
   refine List.Pairwise.imp_of_mem (λ{x y} Z X W e=>W ?_) (nd.filter λx=>decide (x.headD 0=a))
   rw[iH]at Z X
   obtain⟨b,t,rfl,_⟩:=ne x Z.1
   obtain⟨S,t',rfl,_⟩:=ne y X.1
   have U:b=a:=by simpa using Z.2
   have V:S=a:=by simpa using X.2
   subst U V
   have e:t=t':=e
   rw[e]) (λt T=>by
   obtain⟨x,Z,rfl⟩:=bQ.mp T
   rw[iH]at Z
   obtain⟨b,t,rfl,_⟩:=ne x Z.1
   have U:b=a:=by simpa using Z.2
   subst U
   exact List.Perm.cons_inv ((h _ Z.1).trans (List.perm_cons_erase ha)))
  rw[aq]at Y
  exact Y
noncomputable def can(g:Wi)(m:List Int):List Int:=m.filter (λe=>decide (g.1<e))++aQ g.2.2.toNat g.2.1++aQ ((m.filter λe=>decide (e<=g.1)).length-g.2.2.toNat) 0
theorem z_(g:Wi)(x:Int):∀X:List Int,(rest g X).count x=(X.filter λe=>decide (g.1<e)).count x+if x=0 then(X.filter λe=>decide (e<=g.1)).length else 0
 |[]=>by simp[rest]
 |e::X=>by
  have Z:=z_ g x X
  have Y:rest g (e::X)=(if e<=g.1 then 0 else e)::rest g X:=rfl
  rw[Y,List.count_cons,Z]
  by_cases c:e<=g.1
  ·rw[if_pos c,qj (by simp;omega),qm (by simp;omega)]
   by_cases z:x=0
   ·subst z;simp;omega
   ·simp[z,Ne.symm z]
  ·rw[if_neg c,qm (by simp;omega),qj (by simp;omega),List.count_cons]
   omega
theorem Kr{m:List Int}{s:Nat}(D:gOk g)(B:row.Perm m)(hs:s∈stN row g):(Sd.put row (gp g) s).Perm (can g m):=by
 have ft:=(yw D).mp hs
 have f1:s+g.2.2.toNat<=row.length:=ft.1
 have f2:∀r,s<=r->r<s+g.2.2.toNat->row.getD r 0<=g.1:=ft.2
 rw[<-Kq D.1 f1]
 have ra:(rest g row).take s=rest g (row.take s):=by unfold rest;rw[kE]
 have rd:(rest g row).drop (s+g.2.2.toNat)=rest g (row.drop (s+g.2.2.toNat)):=by unfold rest;rw[kI]
 have W:row=row.take s++((row.drop s).take g.2.2.toNat++row.drop (s+g.2.2.toNat)):=by
  have:=(dU g.2.2.toNat (row.drop s))
  rw[jM]at this
  rw[this,dU]
 have U:((row.drop s).take g.2.2.toNat).length=g.2.2.toNat:=by rw[bV,cV];omega
 have V:∀e∈(row.drop s).take g.2.2.toNat,e<=g.1:=λe Z=>by
  obtain⟨i,hi,rfl⟩:=f9 Z
  rw[U]at hi
  have:=f2 (s+i) (by omega) (by omega)
  rw[pH,lM]
  rw[aH,aB (by omega)]at this
  exact this
 have X:((row.drop s).take g.2.2.toNat).filter (λe=>decide (g.1<e))=[]:=lQ.mpr λe Z=>by have:=V e Z;simp;omega
 have Y:((row.drop s).take g.2.2.toNat).filter (λe=>decide (e<=g.1))=(row.drop s).take g.2.2.toNat:=List.filter_eq_self.mpr λe Z=>dTr (V e Z)
 have h1:(m.filter λe=>decide (g.1<e)).Perm ((row.take s).filter (λe=>decide (g.1<e))++(row.drop (s+g.2.2.toNat)).filter λe=>decide (g.1<e)):=by
  have:=(B.filter λe=>decide (g.1<e)).symm
  rw[W,lA,lA,X,dH]at this
  exact this
 have h2:(m.filter λe=>decide (e<=g.1)).length=((row.take s).filter λe=>decide (e<=g.1)).length+g.2.2.toNat+((row.drop (s+g.2.2.toNat)).filter λe=>decide (e<=g.1)).length:=by
  have:=(B.filter λe=>decide (e<=g.1)).length_eq.symm
  rw[W,lA,lA,Y,bh,bh,U]at this
  omega
 rw[List.perm_iff_count]
 intro x
 unfold can
 rw[ra,rd,jK,jK,jK,jK,z_,z_,h1.count_eq,jK,h2,List.count_replicate (n:=_-_)]
 generalize ((row.take s).filter λe=>decide (e<=g.1)).length=p
 generalize ((row.drop (s+g.2.2.toNat)).filter λe=>decide (e<=g.1)).length=q
 by_cases z:x=0
 ·subst z;simp;omega
 ·simp[z,Ne.symm z];omega
def El(w:Nat)(R:List (List Int)):Prop:=∃m:List Int,m.length=w/\∀r∈R,r.Perm m
theorem El.len{w:Nat}{R:List (List Int)}(h:El w R):∀r∈R,r.length=w:=λr Z=>by
 obtain⟨m,h1,Y⟩:=h
 rw[(Y r Z).length_eq,h1]
theorem V7:∀w,w<=5->fac w<=120:=by decide
theorem Vi{w:Nat}{R:List (List Int)}(hw:w<=5)(B:gOk g)(h:El w R):(nxT g R).length<=120:=by
 obtain⟨m,h1,W⟩:=h
 by_cases e:nxT g R=[]
 ·rw[e];exact cZ _
 obtain⟨x,Y⟩:=j_ _ e
 have kp:∀y∈nxT g R,y.Perm (can g m)/\y.length=w:=λy Z=>by
  obtain⟨row,X,s,hs,rfl⟩:=Ek.mp Z
  exact⟨Kr B (W row X) hs,by rw[Sd.yr,(W row X).length_eq,h1]⟩
 have cl:(can g m).length=w:=by rw[<-(kp x Y).1.length_eq,(kp x Y).2]
 exact bF (z9 w (can g m) cl _ (Y5 g R) λy Z=>(kp y Z).1) (V7 w hw)
theorem Hl:∀a b:List Int,PyData.eqvAll (a.map PyData.int) (b.map PyData.int)=decide (a=b)
 |[],[]=>by simp[PyData.eqvAll]
 |[],_::_=>by simp[PyData.eqvAll]
 |_::_,[]=>by simp[PyData.eqvAll]
 |x::a,y::b=>by
  rw[aP,aP,PyData.eqvAll,Hl a b]
  show(decide (x=y)&&decide (a=b))=_
  by_cases h1:x=y<;>by_cases h2:a=b<;>simp[h1,h2]
theorem Rt(a b:List Int):PyData.eqv (rwD a) (rwD b)=decide (a=b):=by
 show PyData.eqvAll (a.map PyData.int) (b.map PyData.int)=_
 exact Hl a b
theorem V8(r:List Int):ly 5 (rwD r):=xu (QJ (vZ (n:=1) PyData.int (λ_=>QK) r)) (by decide)
theorem ae2(R:List (List Int)):ly 7 (rlD R):=xu (yq (vZ rwD V8 R)) (by decide)
theorem Ru(x:List Int)(R:List (List Int)):tM (rwD x) (rlD R)=some (.bool (!decide (x∈R))):=by
 have s1:=qQ (xu (V8 x) (m:=60) (by decide))
 have s2:=qQ (xu (ae2 R) (m:=60) (by decide))
 show(if(SeqAt.shaped (rwD x)&&SeqAt.shaped (rlD R))=true then some (PyData.bool (!(R.map rwD).any λz=>PyData.eqv z (rwD x)))else none)=_
 rw[s1,s2]
 have:((R.map rwD).any λz=>PyData.eqv z (rwD x))=decide (x∈R):=by
  rw[List.any_map,nZ,List.any_eq_true,decide_eq_true_iff]
  constructor
  ·rintro⟨r,Z,e⟩
   have e:PyData.eqv (rwD r) (rwD x)=true:=e
   rw[Rt]at e
   rw[<-of_decide_eq_true e]
   exact Z
  ·intro h
   exact⟨x,h,by show PyData.eqv (rwD x) (rwD x)=true;rw[Rt];exact dTr rfl⟩
 rw[this]
 rfl
def sub(g:Wi)(ah R:List (List Int)):Bool:=(nxT g ah).all λx=>decide (x∈R)
def chk:List (List Int)->List Wi->List (List (List Int))->Bool
 |ah,g::gs,R::Rs=>sub g ah R&&chk R gs Rs
 |_,_,_=>true
theorem Vj{ah:List (List Int)}{x:List Int}:x∈cX (j8 g ah [])<->x∈nxT g ah:=by
 rw[Ek]
 constructor
 ·intro h
  unfold cX at h
  obtain⟨q,Y,rfl⟩:=bQ.mp h
  rcases tW ah [] Y with z|⟨row,Z,s,hs,rfl⟩
  ·cases z
  ·exact⟨row,Z,s,hs,rfl⟩
 ·rintro⟨row,Z,s,hs,rfl⟩
  exact zY ah [] row Z s hs
def Ks(Rs:List (List (List Int))):Bool:=match Rs.getLast? with
 |some []=>true
 |_=>false
def Vk(hs:List Int)(gs:List Wi)(Rs:List (List (List Int))):Bool:=decide (1<=Rs.length)&&(decide (Rs.length<=gs.length)&&(Ks Rs&&chk [hs] (zZ gs) Rs))
theorem ae3{α:Type}(l:List α):l.filter (λ_=>false)=[]:=lQ.mpr (by simp)
theorem Vl(R:List (List Int)):gNe (rlD R) (.list [])=some (.bool (!R.isEmpty)):=by
 have h:=Kp R
 unfold gEq at h
 unfold gNe
 split at h
 ·next z=>
  rw[if_pos z]
  cases h':PyData.eqv (rlD R) (.list [])<;>rw[h']at h<;>cases h2:R.isEmpty<;>rw[h2]at h<;>simp at h<;>rfl
 ·cases h
theorem Ho{w:Nat}(D:w<=1000)(a:Option U):∀(R:List (List Int))(u:Option U),(∀r∈R,r.length=w) ->
 ∃B,iT (gNl 2) (bW (sIf (D3.tOr (D3.jl (bN (dUn (gIs "tuple") (ao 2)))) (bN (dOp gNe (dCall iZ (au (ao 2) (aZ))) (ao 1)))) (dF (dC (.bool false))) (dJ)) (sIf (bN (dOp gNe (jF (wI (ao 2)) (gNl 0) (D3.jl (bN (dCall dw (au (ao 0) (aZ))))) (iy (ao 0)) 1 []) (iY (aZ)))) (dF (dC (.bool false))) (dJ))) (R.map rwD) [a,some (.d (.int (w:Int))),u]=some (.nx [a,some (.d (.int (w:Int))),B])
 |[],u,_=>⟨u,rfl⟩
 |r::R,u,h=>by
  obtain⟨B,e⟩:=Ho D a R (some (.d (rwD r))) λx W=>h x (aK _ W)
  have Z:r.length=w:=h r aJ
  have ty:D3.isT "tuple" (tyD (rwD r))=true:=isTup
  have Y:iZ [rwD r]=some (.int (w:Int)):=by
   show some (PyData.int ((r.map PyData.int).length:Int))=_
   rw[aq,Z]
  have fs:∀a b:Option U,wI (ao 2) [a,b,some (.d (rwD r))]=some (r.map .int):=λ_ _=>rfl
  have C:=QG (g:=(gNl 0)) (c:=(D3.jl (bN (dCall dw (au (ao 0) (aZ)))))) (e:=(iy (ao 0))) (δ:=[none]) PyData.int (λ_=>false) PyData.int r (λx _=>by
   refine⟨[some (.d (.int x))],rfl,?_,λz=>by cases z⟩
   have w:dw [.int x]=some (.bool true):=lwh (.int x)
   simp only[EV,reduceIte,aA,aC,aj,ak,aD,aF,aG,w,cT])
  rw[ae3]at C
  have V:∀a b c:Option U,n_ 1 [] [a,b,c]=[none]:=λ_ _ _=>rfl
  have X:(r.map PyData.int).length<=100000:=by rw[aq];omega
  have T:(bW (sIf (D3.tOr (D3.jl (bN (dUn (gIs "tuple") (ao 2)))) (bN (dOp gNe (dCall iZ (au (ao 2) (aZ))) (ao 1)))) (dF (dC (.bool false))) (dJ)) (sIf (bN (dOp gNe (jF (wI (ao 2)) (gNl 0) (D3.jl (bN (dCall dw (au (ao 0) (aZ))))) (iy (ao 0)) 1 []) (iY (aZ)))) (dF (dC (.bool false))) (dJ))) [a,some (.d (.int (w:Int))),some (.d (rwD r))]=some (.nx [a,some (.d (.int (w:Int))),some (.d (rwD r))]):=by
   have ne:gNe (.list []) (.list [])=some (.bool false):=rfl
   have nw:gNe (.int (w:Int)) (.int (w:Int))=some (.bool false):=by
    show some (PyData.bool (!decide ((w:Int)=(w:Int))))=_
    rw[dTr rfl]
    rfl
   simp only[EV,reduceIte,aA,aC,aj,ak,aD,aF,aG,ty,Y,nw,fs,X,V,C,iJ,ne,cT,Com.sz (show 0<=1000000 by decide)]
  exact⟨B,by rw[aP];exact(pB rfl T).trans e⟩
theorem Vm{R:List (List Int)}{w:Nat}(hw:∀r∈R,r.length=w)(B:w<=1000):jk [rlD R,.int (w:Int)]=some (.bool true):=by
 obtain⟨Z,e⟩:=Ho B (some (.d (rlD R))) R none hw
 have ty:D3.isT "list" (tyD (rlD R))=true:=(by decide:D3.isT "list" "list"=true)
 have fs:∀a b:Option U,wI (ao 0) [some (.d (rlD R)),a,b]=some (R.map rwD):=λ_ _=>rfl
 unfold jk
 simp only[EV,reduceIte,aA,aC,aj,ak,aD,aF,aG,ty,fs,e,cT]
theorem Hq{w:Nat}(D:1<=w)(B:w<=5)(a b c:Option U):∀(ts:List Wi)(Rs:List (List (List Int)))(ah:List (List Int))(u v:Option U),(∀g∈ts,gOk g)->El w ah->ah.length<=1000->(∀R∈Rs,R.length<=1000/\El w R)->Rs.length<=ts.length ->
 (chk ah ts Rs=true/\∃O J,iT (gTn 2 (cF (gNl 4) (cF (gNl 5) (jE)))) (bW (sIf (bN (dOp gNe (jF (rK (dCall iw (au (ao 3) (au (ao 5) (aZ))))) (gNl 0) (bN (dOp tM (ao 0) (ao 1))) (iy (ao 0)) 1 [4]) (iY (aZ)))) (dF (dC (.bool false))) (dJ)) (bU 3 (ao 4))) (lY (Rs.map rlD) (ts.map wiD)) [a,b,c,some (.d (rlD ah)),u,v]=some (.nx [a,b,c,some (.d (rlD (Rs.getLastD ah))),O,J])) \/
 (chk ah ts Rs=false/\iT (gTn 2 (cF (gNl 4) (cF (gNl 5) (jE)))) (bW (sIf (bN (dOp gNe (jF (rK (dCall iw (au (ao 3) (au (ao 5) (aZ))))) (gNl 0) (bN (dOp tM (ao 0) (ao 1))) (iy (ao 0)) 1 [4]) (iY (aZ)))) (dF (dC (.bool false))) (dJ)) (bU 3 (ao 4))) (lY (Rs.map rlD) (ts.map wiD)) [a,b,c,some (.d (rlD ah)),u,v]=some (.rt (.bool false)))
 |[],[],ah,u,v,_,_,_,_,_=>.inl ⟨by unfold chk;rfl,u,v,rfl⟩
 |_::_,[],ah,u,v,_,_,_,_,_=>.inl ⟨by unfold chk;rfl,u,v,rfl⟩
 |[],_::_,ah,u,v,_,_,_,_,h=>absurd h (by simp)
 |g::ts,R::Rs,ah,u,v,T,hn,ha,Y,L=>by
  have X:=T g aJ
  have K:=Vi B X hn
  have nx:=Rq (g:=g) (rows:=ah) X.1 X.2 (λr h=>by rw[hn.len r h];omega) ha (by omega)
  have nx:iw [rlD ah,wiD g]=some (.list ((XJ.gw (nxT g ah)).map rwD)):=nx
  have pl:=(fK (nxT g ah)).length_eq
  have C:=QG (g:=(gNl 0)) (c:=(bN (dOp tM (ao 0) (ao 1)))) (e:=(iy (ao 0))) (δ:=[none,some (.d (rlD R))]) rwD (λx=>!decide (x∈R)) rwD (XJ.gw (nxT g ah)) (λx _=>by
   refine⟨[some (.d (rwD x)),some (.d (rlD R))],rfl,?_,λ_=>?_⟩
   ·simp only[EV,reduceIte,aA,aC,aj,ak,aD,aF,aG,Ru x R]
   ·simp only[EV,reduceIte,aA,aC,aj,ak,aD,aF,aG,show flat (rwD x)=true from ur PyData.int (λ_=>rfl) x])
  have P:∀a b c d e f:Option U,n_ 1 [4] [a,b,c,d,e,f]=[none,e]:=λ_ _ _ _ _ _=>rfl
  have V:((XJ.gw (nxT g ah)).map rwD).length<=100000:=by rw[aq];omega
  have N:=Vl ((XJ.gw (nxT g ah)).filter λx=>!decide (x∈R))
  have S:((XJ.gw (nxT g ah)).filter λx=>!decide (x∈R)).isEmpty=sub g ah R:=by
   unfold sub
   rw[nZ,List.isEmpty_iff,lQ,cQ]
   constructor
   ·intro h x Z
    have:=h x (wU.mpr Z)
    simpa using this
   ·intro h x Z
    have:=h x (wU.mp Z)
    simpa using this
  rw[S]at N
  have N:gNe (.list (((XJ.gw (nxT g ah)).filter λx=>!decide (x∈R)).map rwD)) (.list [])=some (.bool (!sub g ah R)):=N
  have z:lY ((R::Rs).map rlD) ((g::ts).map wiD) = .tuple [rlD R,wiD g]::lY (Rs.map rlD) (ts.map wiD):=rfl
  have Q:(gTn 2 (cF (gNl 4) (cF (gNl 5) (jE)))) (.tuple [rlD R,wiD g]) [a,b,c,some (.d (rlD ah)),u,v]=some [a,b,c,some (.d (rlD ah)),some (.d (rlD R)),some (.d (wiD g))]:=rfl
  rw[z,chk]
  cases s:sub g ah R with
  |true=>
   rw[s]at N
   have W:(bW (sIf (bN (dOp gNe (jF (rK (dCall iw (au (ao 3) (au (ao 5) (aZ))))) (gNl 0) (bN (dOp tM (ao 0) (ao 1))) (iy (ao 0)) 1 [4]) (iY (aZ)))) (dF (dC (.bool false))) (dJ)) (bU 3 (ao 4))) [a,b,c,some (.d (rlD ah)),some (.d (rlD R)),some (.d (wiD g))]=some (.nx [a,b,c,some (.d (rlD R)),some (.d (rlD R)),some (.d (wiD g))]):=by
    simp only[EV,reduceIte,aA,aC,aj,ak,aD,aF,aG,nx,V,P,C,N,cT,Com.sz (show 0<=1000000 by decide)]
   have M:=Hq D B a b c ts Rs R (some (.d (rlD R))) (some (.d (wiD g))) (λg' h'=>T g' (aK _ h')) (Y R aJ).2 (Y R aJ).1 (λx Z=>Y x (aK _ Z)) (by simpa using L)
   rw[pB Q W,pW,List.getLastD_cons]
   exact M
  |false=>
   rw[s]at N
   have W:(bW (sIf (bN (dOp gNe (jF (rK (dCall iw (au (ao 3) (au (ao 5) (aZ))))) (gNl 0) (bN (dOp tM (ao 0) (ao 1))) (iy (ao 0)) 1 [4]) (iY (aZ)))) (dF (dC (.bool false))) (dJ)) (bU 3 (ao 4))) [a,b,c,some (.d (rlD ah)),some (.d (rlD R)),some (.d (wiD g))]=some (.rt (.bool false)):=by
    simp only[EV,reduceIte,aA,aC,aj,ak,aD,aF,aG,nx,V,P,C,N,lO,Com.sz (show 0<=1000000 by decide)]
   refine .inr ⟨oW _,?_⟩
   rw[iT,Q,aM,W]
   rfl
section
variable{hs:List Int}{gs:List Wi}{Rs:List (List (List Int))}
theorem Rv(hs:List Int):El hs.length [hs]:=⟨hs,rfl,λr Z=>by rw[aN.mp Z]⟩
theorem Jc(O:∀g∈gs,gOk g)(J:gs.length<64)(D:1<=hs.length)(B:hs.length<=5)(hw:∀R∈Rs,R.length<=1000/\El hs.length R):
 jc [.list (hs.map .int),.list (gs.map wiD),.list (Rs.map rlD)]=some (.bool (Vk hs gs Rs)):=by
 have ty:D3.isT "list" (tyD (.list (Rs.map rlD)))=true:=(by decide:D3.isT "list" "list"=true)
 unfold Vk
 by_cases Z:1<=Rs.length
 ·by_cases X:Rs.length<=gs.length
  ·rw[dTr Z,dTr X,pW,pW]
   have T:=Jb J
   have C:=QG (g:=(gNl 0)) (c:=(D3.jl (bN (dCall jk (au (ao 0) (au (dCall iZ (au (ao 1) (aZ))) (aZ))))))) (e:=(iy (ao 0))) (δ:=[none,some (.d (.list (hs.map .int)))]) rlD (λ_=>false) rlD Rs (λR P=>by
    refine⟨[some (.d (rlD R)),some (.d (.list (hs.map .int)))],rfl,?_,λz=>by cases z⟩
    have i:=Vm (hw R P).2.len (by omega)
    simp only[EV,reduceIte,aA,aC,aj,ak,aD,aF,aG,lMp,i,cT])
   rw[ae3]at C
   have V:∀a b c d e f:Option U,n_ 1 [0] [a,b,c,d,e,f]=[none,a]:=λ_ _ _ _ _ _=>rfl
   have W:(Rs.map rlD).length<=100000:=by rw[aq];omega
   have ne:gNe (.list []) (.list [])=some (.bool false):=rfl
   have L:=Hq D B (some (.d (.list (hs.map .int)))) (some (.d (.list (gs.map wiD)))) (some (.d (.list (Rs.map rlD)))) (zZ gs) Rs [hs] none none (λg h=>O g (Ro.mp h)) (Rv hs) (by simp) hw (by rw[Rn];exact X)
   have S:rlD [hs] = .list [.tuple (hs.map .int)]:=rfl
   have E:=Kp (Rs.getLastD [hs])
   have le:Ks Rs=(Rs.getLastD [hs]).isEmpty:=by
    obtain⟨Q,R,rfl⟩:∃Q R,Rs=Q++[R]:=by
     have ne:Rs≠[]:=λz=>by rw[z]at Z;simp at Z
     exact⟨Rs.dropLast,Rs.getLast ne,(n6 ne).symm⟩
    rw[List.getLastD_concat]
    unfold Ks
    rw[sI]
    cases R<;>rfl
   rw[S]at L
   unfold jc
   rcases L with⟨Y,M,N,e2⟩|⟨Y,e2⟩
   ·rw[Y,Bool.and_true,le]
    simp only[EV,reduceIte,aA,aC,aj,ak,aD,aF,aG,ty,lMp,dTr (show(1:Int)<=(Rs.length:Int)by omega),dTr (show(Rs.length:Int)<=(gs.length:Int)by omega),cT,W,show Rs.length<=100000 by omega,V,C,iJ,ne,yW,T,e2,E,Com.sz (show 0<=1000000 by decide),Com.sz (show 1<=1000000 by decide)]
   ·rw[Y,Bool.and_false]
    simp only[EV,reduceIte,aA,aC,aj,ak,aD,aF,aG,ty,lMp,dTr (show(1:Int)<=(Rs.length:Int)by omega),dTr (show(Rs.length:Int)<=(gs.length:Int)by omega),cT,W,show Rs.length<=100000 by omega,V,C,iJ,ne,yW,T,e2,Com.sz (show 0<=1000000 by decide),Com.sz (show 1<=1000000 by decide)]
  ·rw[dFa X,oW,Bool.and_false]
   unfold jc
   simp only[EV,reduceIte,aA,aC,aj,ak,aD,aF,aG,ty,lMp,dTr (show(1:Int)<=(Rs.length:Int)by omega),dFa (show ¬(Rs.length:Int)<=(gs.length:Int)by omega),cT,lO]
 ·rw[dFa Z,oW]
  unfold jc
  simp only[EV,reduceIte,aA,aC,aj,ak,aD,aF,aG,ty,lMp,dFa (show ¬(1:Int)<=(Rs.length:Int)by omega),cT,lO]
end
theorem Ku{w:Nat}(D:1<=w)(B:w<=5):∀(gs:List Wi)(rows:List (List Int))(m:List Int),(∀g∈gs,gOk g)->m.length=w->(∀r∈rows,r.Perm m)->∀S∈lv rows gs,S.length<=120/\El w (cX S)
 |[],rows,m,_,_,_=>by
  rw[pC]
  exact λ_ z=>nomatch z
 |g::gs,rows,m,U,hm,V=>by
  have Q:=U g aJ
  have kp:∀k∈cX (j8 g rows []),k.Perm (can g m)/\k.length=w:=λk Y=>by
   obtain⟨q,X,rfl⟩:=bQ.mp Y
   rcases tW rows [] X with z|⟨row,h1,s,h2,rfl⟩
   ·cases z
   ·exact⟨Kr Q (V row h1) h2,by rw[Sd.yr,(V row h1).length_eq,hm]⟩
  have nd:=Kf (g:=g) rows [] .nil
  have T:(j8 g rows []).length=(cX (j8 g rows [])).length:=by unfold cX;rw[aq]
  have sl:(j8 g rows []).length<=120/\El w (cX (j8 g rows [])):=by
   by_cases e:j8 g rows []=[]
   ·rw[e]
    exact⟨cZ _,m,hm,λr z=>nomatch (show r∈([]:List (List Int))from z)⟩
   obtain⟨q,X⟩:=j_ _ e
   have Y:q.1∈cX (j8 g rows []):=eV X
   have cl:(can g m).length=w:=by rw[<-(kp _ Y).1.length_eq,(kp _ Y).2]
   rw[T]
   exact⟨bF (z9 w (can g m) cl _ nd λy R=>(kp y R).1) (V7 w B),can g m,cl,λr Z=>(kp r Z).1⟩
  rw[nC]
  intro S W
  rcases aU.mp W with rfl|W
  ·exact sl
  ·split at W
   ·cases W
   ·next e=>
    obtain⟨q,X⟩:=j_ _ e
    have Y:q.1∈cX (j8 g rows []):=eV X
    have cl:(can g m).length=w:=by rw[<-(kp _ Y).1.length_eq,(kp _ Y).2]
    exact Ku D B gs _ (can g m) (λg' h'=>U g' (aK _ h')) cl (λr Z=>(kp r ((fK _).mem_iff.mp Z)).1) S W
theorem Rw:∀(gs:List Wi)(rows:List (List Int)),chk rows gs ((lv rows gs).map λS=>XJ.gw (cX S))=true
 |[],rows=>by rw[pC];unfold chk;rfl
 |g::gs,rows=>by
  rw[nC,aP,chk]
  have s:sub g rows (XJ.gw (cX (j8 g rows [])))=true:=by
   unfold sub
   rw[cQ]
   exact λx Z=>dTr (wU.mpr (Vj.mpr Z))
  rw[s,pW]
  split
  ·rw[iJ];unfold chk;cases gs<;>rfl
  ·exact Rw gs _
theorem V9:∀(gs:List Wi)(rows:List (List Int)),(lv rows gs).length<=gs.length
 |[],rows=>by rw[pC];exact aL _
 |g::gs,rows=>by
  rw[nC,bC,bC]
  split
  ·simp
  ·exact Nat.succ_le_succ (V9 gs _)
def iu(hs:List Int)(gs:List Wi):Prop:=∃ps,laB hs gs ps=true
theorem w_eq(s:Str)(h:PyData.canLay0 (.str s)=true)(t:Str)(h2:PyData.canLay0 (.str t)=true):gEq (.str s) (.str t)=some (.bool (decide (s=t))):=by
 have Z:∀u:Str,PyData.canLay0 (.str u)=true->SeqAt.shaped (.str u)=true:=λu Y=>qQ ⟨Y,by simp[PyData.depth]⟩
 unfold gEq
 rw[Z s h,Z t h2]
 show some (PyData.bool (s==t))=_
 by_cases e:s=t
 ·rw[e];simp
 ·rw[dFa e];simp[e]
theorem pQ(B:∀g∈gs,grOk g/\gOk g)(J:gs.length<64)(w1:1<=hs.length)(w5:hs.length<=5):
 (iu hs gs/\bL [.list (hs.map .int),.list (gs.map wiD)]=some (.str "laid"))\/(¬iu hs gs/\bL [.list (hs.map .int),.list (gs.map wiD)]=some (.str "none")):=by
 have go:∀g∈gs,grOk g:=λg h=>(B g h).1
 have Z:∀g∈gs,gOk g:=λg h=>(B g h).2
 have K:=Rj J
 have pm:=ux gs.length λt=>(gat gs t).1
 have pw:=ae1 gs.length λt=>(gat gs t).1
 have it:inT gs (tn gs.length λt=>(gat gs t).1)=zZ gs:=rfl
 generalize v:tn gs.length (λt=>(gat gs t).1)=ts at *
 have q:∀g∈inT gs ts,gOk g:=λg h=>by
  obtain⟨t,h1,rfl⟩:=bQ.mp h
  have:=bA.mp (pm.mem_iff.mp h1)
  unfold gat
  rw[aH,aB this]
  exact Z _ (cj this)
 have P:=Ku w1 w5 (inT gs ts) [hs] hs q rfl λr O=>by rw[aN.mp O]
 have H:Few (lv [hs] (inT gs ts)):=λS U=>⟨by have:=(P S U).1;omega,λk u=>by
  have:=(P S U).2.len k u
  exact⟨λz=>by rw[z]at this;simp at this;omega,by omega⟩⟩
 have ty:∀a b:D,D3.isT "tuple" (tyD (.tuple [a,b]))=true:=λ_ _=>isTup
 have l2:∀a b:D,iZ [.tuple [a,b]]=some (.int 2):=λ_ _=>rfl
 have X:gNe (.int 2) (.int 2)=some (.bool false):=rfl
 have M:∀a b:D,gIx (.tuple [a,b]) (.int 0)=some a:=λ_ _=>rfl
 have i1:∀a b:D,gIx (.tuple [a,b]) (.int 1)=some b:=λ_ _=>rfl
 have V:wY (.list (hs.map PyData.int))=some (.list (hs.map .int)):=rfl
 have W:wY (.list (gs.map wiD))=some (.list (gs.map wiD)):=rfl
 have q1:gEq (.str "laid") (.str "laid")=some (.bool true):=w_eq _ (by rw[PyData.canLay0];decide +kernel) _ (by rw[PyData.canLay0];decide +kernel)
 have q2:gEq (.str "none") (.str "laid")=some (.bool false):=w_eq _ (by rw[PyData.canLay0];decide +kernel) _ (by rw[PyData.canLay0];decide +kernel)
 have y:gEq (.str "none") (.str "none")=some (.bool true):=w_eq _ (by rw[PyData.canLay0];decide +kernel) _ (by rw[PyData.canLay0];decide +kernel)
 have F:=Mp go
 by_cases hn:[]∈lv [hs] (inT gs ts)
 ·refine .inr ⟨λ⟨Y,I⟩=>?_,?_⟩
  ·obtain⟨N,A,n⟩:=wQ.mp I
   have z:=Mu B pm pw hn λi=>(Y.getD i 0).toNat
   have e:((aV gs.length).map λi=>(((Y.getD i 0).toNat:Nat):Int))=Y:=by
    apply qe
    ·rw[aq,bO,N]
    ·intro i g1 g2
     have o:i<gs.length:=by rw[<-N];exact g2
     rw[gA,o7]
     have:=A i o
     unfold roB at this
     rw[bf,bf]at this
     have Q:=of_decide_eq_true this.1.1
     rw[aH,aB g2]at Q ⊢
     show((Y[i].toNat:Nat):Int)=Y[i]
     have Q:0<=Y[i]:=Q
     omega
   rw[e,I]at z
   cases z
  ·have L:=Vg Z J (by omega) K pm H hn
   have LL:u_ [.list (hs.map .int),.list (gs.map wiD)]=some (.tuple [.str "none", .list (((lv [hs] (inT gs ts)).map λS=>XJ.gw (cX S)).map rlD)]):=by
    rw[cR]
    unfold u_
    simp only[EV,reduceIte,aA,aC,aj,ak,aD,aF,aG,F,L]
    rfl
   have G:=Jc (hs:=hs) (gs:=gs) (Rs:=(lv [hs] (inT gs ts)).map λS=>XJ.gw (cX S)) Z J w1 w5 (λR s=>by
    obtain⟨S,U,rfl⟩:=bQ.mp s
    obtain⟨a,m,b,c⟩:=P S U
    have p:=fK (cX S)
    refine⟨?_,m,b,λr O=>c r (p.mem_iff.mp O)⟩
    rw[p.length_eq]
    unfold cX
    rw[aq]
    omega)
   have C:Vk hs gs ((lv [hs] (inT gs ts)).map λS=>XJ.gw (cX S))=true:=by
    obtain⟨l,e,_⟩:=I_ _ _ hn
    unfold Vk
    have E:=Rw (inT gs ts) [hs]
    have x:=V9 (inT gs ts) [hs]
    have w:(inT gs ts).length=gs.length:=by unfold inT;rw[aq,pm.length_eq,bO]
    rw[it]at E x w ⊢
    rw[it]at e
    rw[E,aq,dTr (show(lv [hs] (zZ gs)).length<=gs.length by omega),dTr (show 1<=(lv [hs] (zZ gs)).length by rw[e,bh];simp)]
    rw[e,cI,aP,iJ,show XJ.gw (cX [])=[]from rfl]
    unfold Ks
    rw[sI]
    rfl
   rw[C]at G
   unfold bL
   simp only[EV,reduceIte,aA,aC,aj,ak,aD,aF,aG,V,W,LL,ty,l2,X,M,i1,q2,y,G,cT]
 ·obtain⟨ss,out,sl,run,L⟩:=Rc Z J (by omega) K pm H hn
  have T:=Mv B pm pw sl run
  refine .inl ⟨⟨_,T⟩,?_⟩
  generalize Ej gs.length ts ss=ps at *
  have LL:u_ [.list (hs.map .int),.list (gs.map wiD)]=some (.tuple [.str "laid", .list (ps.map .int)]):=by
   unfold u_
   simp only[EV,reduceIte,aA,aC,aj,ak,aD,aF,aG,F,L]
  have st:=QZ (hs:=hs) (ps:=ps) go (by omega)
  rw[T]at st
  unfold bL
  simp only[EV,reduceIte,aA,aC,aj,ak,aD,aF,aG,V,W,LL,ty,l2,X,M,i1,q1,st,cT]
theorem ae4{l:List Int}{x:Int}(h:x∈l):x<=mx l:=by
 cases l with
 |nil=>cases h
 |cons a r=>exact(qx r a).2 x h
theorem Y6{l:List Int}{b:Int}(n:l≠[])(h:∀x∈l,x<=b):mx l<=b:=by
 cases l with
 |nil=>exact absurd rfl n
 |cons a r=>exact h _ (qx r a).1
theorem Vo{l:List Int}{p s x:Int}(B:0<=p)(h:x∈sli l p s):∃r:Nat,p<=r/\(r:Int)<p+s/\r<l.length/\x=l.getD r 0:=by
 unfold sli at h
 obtain⟨i,hi,e⟩:=f9 h
 have Z:i<s.toNat/\i<l.length-p.toNat:=by
  have:=hi
  rw[bV,cV]at this
  omega
 rw[pH,lM]at e
 refine⟨p.toNat+i,by omega,by omega,by omega,?_⟩
 rw[<-e,aH,aB (by omega)]
 rfl
theorem Vp{l:List Int}{p s:Int}{r:Nat}(D:0<=p)(h1:p<=r)(h2:(r:Int)<p+s)(B:r<l.length):l.getD r 0∈sli l p s:=by
 unfold sli
 rw[aH,aB B]
 refine gG (i:=r-p.toNat) ?_
 rw[iW (by omega),fD,show p.toNat+(r-p.toNat)=r by omega,aB B]
 rfl
theorem ae5{zs:List (Wi×Int)}(h1:∀z∈zs,grOk z.1/\roB hs z.1 z.2=true)(h2:zs.Pairwise (λa b=>apB a.1 a.2 b.1 b.2=true)):laB hs (zs.map Prod.fst) (zs.map Prod.snd)=true:=by
 have G:∀i (hi:i<zs.length),gat (zs.map Prod.fst) i=zs[i].1/\(zs.map Prod.snd).getD i 0=zs[i].2:=λi hi=>by
  unfold gat
  rw[aH,aH,bw,bw,aB hi]
  exact⟨rfl,rfl⟩
 refine wQ.mpr ⟨by simp,λi hi=>?_,λi hi=>?_⟩
 ·rw[aq]at hi
  rw[(G i hi).1,(G i hi).2]
  exact(h1 _ (cj hi)).2
 ·rw[aq]at hi
  unfold beB
  rw[cQ]
  intro j Y
  have Y:=bA.mp Y
  have Z:j<zs.length:=by omega
  rw[(G i hi).1,(G i hi).2,(G j Z).1,(G j Z).2,<-qY (h1 _ (cj hi)).1 (h1 _ (cj Z)).1]
  exact cA.mp h2 j i Z hi Y
theorem Rx{k:Wi}{p q:Int}(h:apB g p k q=true):apB k q g p=true:=by
 unfold apB at *
 simp only[jB,decide_eq_true_eq]at *
 omega
theorem tY{p:Int}(s1:1<=g.2.2):roB hs g p=true<->(0<=p/\p+g.2.2<=hs.length)/\∀r:Nat,p<=r->(r:Int)<p+g.2.2->hs.getD r 0<=g.1:=by
 unfold roB
 rw[bf,bf,decide_eq_true_eq,decide_eq_true_eq,decide_eq_true_eq]
 constructor
 ·rintro⟨⟨a,b⟩,c⟩
  exact⟨⟨a,by omega⟩,λr h1 h2=>iM (ae4 (Vp a h1 h2 (by omega))) c⟩
 ·rintro⟨⟨a,b⟩,c⟩
  refine⟨⟨a,by omega⟩,Y6 (wO a (by omega) s1) λx X=>?_⟩
  obtain⟨r,Y,Z,_,rfl⟩:=Vo a X
  exact c r Y Z
theorem pZ{k:Wi}{p q:Int}:apB g p k q=true<->g.2.1<=k.1\/k.2.1<=g.1\/p+g.2.2<=q\/q+k.2.2<=p:=by
 unfold apB
 simp only[jB,decide_eq_true_eq]
 omega
abbrev AP(a b:Wi×Int):Prop:=apB a.1 a.2 b.1 b.2=true
theorem nW(go:∀g∈gs,grOk g):iu hs gs<->∃zs:List (Wi×Int),zs.map Prod.fst=gs/\(∀z∈zs,roB hs z.1 z.2=true)/\zs.Pairwise AP:=by
 constructor
 ·rintro⟨ps,h⟩
  obtain⟨V,W,U⟩:=wQ.mp h
  have T:(gs.zip ps).length=gs.length:=by rw[List.length_zip,V,Nat.min_self]
  have Y:∀i,(h:i<gs.length)->(gs.zip ps)[i]'(by omega)=(gat gs i,ps.getD i 0):=λi h=>by
   rw[List.getElem_zip]
   unfold gat
   rw[aH,aH,aB h,aB (show i<ps.length by omega)]
   rfl
  refine⟨gs.zip ps,List.map_fst_zip (by omega),λz Z=>?_,?_⟩
  ·obtain⟨i,hi,rfl⟩:=f9 Z
   rw[Y i (by omega)]
   exact W i (by omega)
  ·rw[cA]
   intro i j hi S X
   rw[Y i (by omega),Y j (by omega)]
   have b:=U j (by omega)
   unfold beB at b
   have b:=cQ.mp b i (bA.mpr X)
   show apB (gat gs i) (ps.getD i 0) (gat gs j) (ps.getD j 0)=true
   rw[qY (rW go (show j<gs.length by omega)) (rW go (show i<gs.length by omega))]
   exact b
 ·rintro⟨zs,rfl,h1,h2⟩
  exact⟨_,ae5 (λz Z=>⟨go _ (eV Z),h1 z Z⟩) h2⟩
theorem Mz(h:gs.Perm gs'):∀zs:List (Wi×Int),zs.map Prod.fst=gs->∃B:List (Wi×Int),B.Perm zs/\B.map Prod.fst=gs':=by
 induction h with
 |nil=>exact λzs e=>⟨zs,.refl _,e⟩
 |cons x _ U=>
  intro zs e
  match zs,e with
  |z::r,e=>
   rw[aP]at e
   injection e with Z e2
   obtain⟨r',p,W⟩:=U r e2
   exact⟨z::r',p.cons z,by rw[aP,Z,W]⟩
 |swap x y l=>
  intro zs e
  match zs,e with
  |z::V::r,e=>
   rw[aP,aP]at e
   injection e with Z e2
   injection e2 with e2 W
   exact⟨V::z::r,.swap _ _ _,by rw[aP,aP,Z,e2,W]⟩
 |trans _ _ X Y=>
  intro zs e
  obtain⟨z1,p1,Z⟩:=X zs e
  obtain⟨z2,p2,e2⟩:=Y z1 Z
  exact⟨z2,p2.trans p1,e2⟩
theorem iu.perm(go:∀g∈gs,grOk g)(p:gs.Perm gs')(h:iu hs gs):iu hs gs':=by
 obtain⟨zs,e,h1,h2⟩:=(nW go).mp h
 obtain⟨Z,p',V⟩:=Mz p zs e
 exact(nW λg W=>go g (p.mem_iff.mpr W)).mpr ⟨Z,V,λz X=>h1 z (p'.mem_iff.mp X),(p'.pairwise_iff λ{x y} Y=>Rx Y).mpr h2⟩
theorem iu.map(go:∀g∈gs,grOk g)(f:Wi->Wi)(q:Wi->Int->Int)(D:∀g∈gs,grOk (f g))(B:∀g∈gs,∀p,roB hs g p=true->roB hs' (f g) (q g p)=true)
 (ha:∀g∈gs,∀k∈gs,∀p r,apB g p k r=true->apB (f g) (q g p) (f k) (q k r)=true) (h:iu hs gs):iu hs' (gs.map f):=by
 obtain⟨zs,e,h1,h2⟩:=(nW go).mp h
 have mem:∀z∈zs,z.1∈gs:=λz Y=>by rw[<-e];exact eV Y
 refine(nW λg V=>?_).mpr ⟨zs.map λz=>(f z.1,q z.1 z.2),?_,λz Y=>?_,?_⟩
 ·obtain⟨T,U,rfl⟩:=bQ.mp V
  exact D T U
 ·rw[<-e,cR,cR]
  rfl
 ·obtain⟨y,Z,rfl⟩:=bQ.mp Y
  exact B _ (mem y Z) _ (h1 y Z)
 ·rw[iQ]
  exact List.Pairwise.imp_of_mem (λ{x y} W Z X=>ha _ (mem x W) _ (mem y Z) _ _ X) h2
theorem iu.sub(go:∀g∈gs,grOk g)(s:gs'.Sublist gs)(h:iu hs gs):iu hs gs':=by
 obtain⟨zs,e,h1,h2⟩:=(nW go).mp h
 have lift:∀{gs gs':List Wi},gs'.Sublist gs->∀zs:List (Wi×Int),zs.map Prod.fst=gs->∃Z:List (Wi×Int),Z.Sublist zs/\Z.map Prod.fst=gs':=λs=>by
  induction s with
  |slnil=>exact λzs e=>⟨zs,.refl _,e⟩
  |cons x _ Y=>
   intro zs e
   match zs,e with
   |z::r,e=>
    rw[aP]at e
    injection e with W e2
    obtain⟨r',p,X⟩:=Y r e2
    exact⟨r',p.cons z,X⟩
  |cons_cons x _ Y=>
   intro zs e
   match zs,e with
   |z::r,e=>
    rw[aP]at e
    injection e with W e2
    obtain⟨r',p,X⟩:=Y r e2
    exact⟨z::r',p.cons_cons z,by rw[aP,W,X]⟩
 obtain⟨Z,p,T⟩:=lift s zs e
 exact(nW λg U=>go g (s.subset U)).mpr ⟨Z,T,λz V=>h1 z (p.subset V),h2.sublist p⟩
theorem iu.shorter{a:Nat}{b:Int}(go:∀g∈gs,grOk g)(ha:a<gs.length)(h1:(gat gs a).1<b)(h2:b<=(gat gs a).2.1)(h:iu hs gs):iu hs (gs.set a ((gat gs a).1,b,(gat gs a).2.2)):=by
 obtain⟨zs,e,W,S⟩:=(nW go).mp h
 have P:zs.length=gs.length:=by rw[<-e,aq]
 have Y:(zs[a]'(by omega)).1=gat gs a:=by
  unfold gat
  rw[aH,aB ha]
  subst e
  rw[gA]
  rfl
 have Z:=rW go ha
 have ok:∀g∈gs.set a ((gat gs a).1,b,(gat gs a).2.2),grOk g:=λg Q=>by
  rcases kh Q with z|rfl
  ·exact go g z
  ·exact⟨Z.f,h1,by have:=Z.n;show b<=400;omega,Z.s,Z.t⟩
 refine(nW ok).mpr ⟨zs.set a (((gat gs a).1,b,(gat gs a).2.2),(zs[a]'(by omega)).2),?_,λz R=>?_,?_⟩
 ·rw[List.map_set,e]
 ·rcases kh R with y|rfl
  ·exact W z y
  ·have:=W _ (cj (show a<zs.length by omega))
   rw[Y]at this
   exact this
 ·have pw:=cA.mp S
  rw[cA]
  intro i j hi V X
  rw[cH]at hi V
  have:=pZ.mp (pw i j hi V X)
  rw[List.getElem_set,List.getElem_set]
  show apB _ _ _ _=true
  rw[pZ]
  by_cases T:a=i
  ·subst T
   rw[if_pos rfl,if_neg (by omega)]
   rw[Y]at this
   show b<=_\/_
   rcases this with z|z|z|z
   ·exact .inl (by omega)
   ·exact .inr (.inl z)
   ·exact .inr (.inr (.inl z))
   ·exact .inr (.inr (.inr z))
  ·rw[if_neg T]
   by_cases U:a=j
   ·subst U
    rw[if_pos rfl]
    rw[Y]at this
    rcases this with z|z|z|z
    ·exact .inl z
    ·exact .inr (.inl (show b<=_ by omega))
    ·exact .inr (.inr (.inl z))
    ·exact .inr (.inr (.inr z))
   ·rw[if_neg U]
    exact this
theorem iu.rev(go:∀g∈gs,grOk g)(h:iu hs gs):iu hs.reverse gs:=by
 have:=iu.map (hs':=hs.reverse) go id (λg p=>(hs.length:Int)-g.2.2-p) go (λg Y p W=>by
  have s1:=(go g Y).s
  obtain⟨⟨a,b⟩,c⟩:=(tY s1).mp W
  refine(tY s1).mpr ⟨⟨by omega,by rw[fZ];show(hs.length:Int)-g.2.2-p+g.2.2<=_;omega⟩,λr V Z=>?_⟩
  have Z:(r:Int)<(hs.length:Int)-g.2.2-p+g.2.2:=Z
  have X:r<hs.length:=by omega
  rw[aH,mL X]
  have:=c (hs.length-1-r) (by omega) (by omega)
  rw[aH]at this
  exact this) (λg Y k U p r ha=>by
  have ha:=pZ.mp ha
  rw[pZ]
  show g.2.1<=k.1\/k.2.1<=g.1\/(hs.length:Int)-g.2.2-p+g.2.2<=(hs.length:Int)-k.2.2-r\/(hs.length:Int)-k.2.2-r+k.2.2<=(hs.length:Int)-g.2.2-p
  omega) h
 rw[nH]at this
 exact this
theorem iu.more(go:∀g∈gs,grOk g)(d:Nat)(D:hs.length+d<=hs'.length)(B:∀r,r<hs.length->hs'.getD (r+d) 0<=hs.getD r 0)(h:iu hs gs):iu hs' gs:=by
 have:=iu.map (hs':=hs') go id (λ_ p=>p+(d:Int)) go (λg Y p X=>by
  have s1:=(go g Y).s
  obtain⟨⟨a,b⟩,c⟩:=(tY s1).mp X
  refine(tY s1).mpr ⟨⟨by omega,by show p+(d:Int)+g.2.2<=_;omega⟩,λr W Z=>?_⟩
  have Z:(r:Int)<p+(d:Int)+g.2.2:=Z
  have q:=B (r-d) (by omega)
  rw[show r-d+d=r by omega]at q
  exact iM q (c (r-d) (by omega) (by omega))) (λg Y k V p r ha=>by
  have ha:=pZ.mp ha
  rw[pZ]
  show g.2.1<=k.1\/k.2.1<=g.1\/p+(d:Int)+g.2.2<=r+(d:Int)\/r+(d:Int)+k.2.2<=p+(d:Int)
  omega) h
 rw[nH]at this
 exact this
def mvG(b:Int)(g:Wi):Wi:=(g.1+b,g.2.1+b,g.2.2)
def mvH(b:Int)(e:Int):Int:=if e>0 then e+b else e
theorem Ry{b:Int}(h:grOk g)(D:0<=b)(B:g.2.1+b<=400):grOk (mvG b g):=⟨by have:=h.f;show 0<=g.1+b;omega,by have:=h.b;show g.1+b<g.2.1+b;omega,B,h.s,h.t⟩
theorem Rz{b:Int}(r:Nat):(hs.map (mvH b)).getD r 0=mvH b (hs.getD r 0):=by
 rw[aH,aH,bw]
 cases hs[r]? with
 |none=>rfl
 |some e=>rfl
theorem iu.mv{b:Int}(go:∀g∈gs,grOk g)(D:0<=b)(B:∀g∈gs,g.2.1+b<=400)(h:iu hs gs):iu (hs.map (mvH b)) (gs.map (mvG b)):=
 iu.map go (mvG b) (λ_ p=>p) (λg Z=>Ry (go g Z) D (B g Z)) (λg Z p W=>by
  have s1:=(go g Z).s
  have U:=(go g Z).f
  obtain⟨a,c⟩:=(tY s1).mp W
  refine(tY (g:=mvG b g) s1).mpr ⟨by rw[aq];exact a,λr X Y=>?_⟩
  have q:=c r X Y
  rw[Rz]
  show mvH b (hs.getD r 0)<=g.1+b
  unfold mvH
  split<;>omega) (λg Z k V p r ha=>by
  have ha:=pZ.mp ha
  rw[pZ]
  show g.2.1+b<=k.1+b\/k.2.1+b<=g.1+b\/p+g.2.2<=r\/r+k.2.2<=p
  omega) h
theorem iu.unmv{b:Int}(go:∀g∈gs,grOk g)(D:0<=b)(B:∀g∈gs,g.2.1+b<=400)(h:iu (hs.map (mvH b)) (gs.map (mvG b))):iu hs gs:=by
 have:=iu.map (hs':=hs) (λg X=>by
  obtain⟨Z,Y,rfl⟩:=bQ.mp X
  exact Ry (go Z Y) D (B Z Y)) (mvG (-b)) (λ_ p=>p) (λg X=>by
  obtain⟨Z,Y,rfl⟩:=bQ.mp X
  have e:mvG (-b) (mvG b Z)=Z:=by unfold mvG;ext<;>dsimp only<;>omega
  rw[e]
  exact go Z Y) (λg X p T=>by
  obtain⟨Z,Y,rfl⟩:=bQ.mp X
  have e:mvG (-b) (mvG b Z)=Z:=by unfold mvG;ext<;>dsimp only<;>omega
  rw[e]
  have s1:=(go Z Y).s
  have R:=(go Z Y).f
  obtain⟨a,c⟩:=(tY (g:=mvG b Z) s1).mp T
  rw[aq]at a
  refine(tY s1).mpr ⟨a,λr U V=>?_⟩
  have q:=c r U V
  rw[Rz]at q
  have q:mvH b (hs.getD r 0)<=Z.1+b:=q
  unfold mvH at q
  split at q<;>omega) (λg X k S p r ha=>by
  obtain⟨Z,Y,rfl⟩:=bQ.mp X
  obtain⟨W,h1,rfl⟩:=bQ.mp S
  have e:∀Z:Wi,mvG (-b) (mvG b Z)=Z:=λZ=>by unfold mvG;ext<;>dsimp only<;>omega
  have ha:=pZ.mp ha
  rw[e,e,pZ]
  have ha:Z.2.1+b<=W.1+b\/W.2.1+b<=Z.1+b\/p+Z.2.2<=r\/r+W.2.2<=p:=ha
  omega) h
 rw[cR]at this
 have e:(gs.map (mvG (-b)∘mvG b))=gs:=by
  conv=>rhs;rw[<-nH gs]
  refine dN λg _=>?_
  show mvG (-b) (mvG b g)=g
  unfold mvG;ext<;>dsimp only<;>omega
 rw[e]at this
 exact this
theorem RB(ns:List Int){w:Int}(w0:1<=w)(D:w<=6):∃hs:List Int,(hs.length:Int)=w/\(∀h∈hs,0<=h)/\Com.jP [.list (ns.map .int),.int w]=some (.list (hs.map .int)):=by
 have R:uL (some [.int w])=some (gJ 0 w):=GJ (by omega) (by omega)
 have S:Com.bR [.list (ns.map .int),.int 1,.int 0,.int 380]=some (.int (jd ns 1 0 380)):=m7 (by decide) (by decide) (by decide) (by decide)
 have B:=gP ns 1 0 (m:=380) (by decide)
 generalize jd ns 1 0 380=b at S B
 obtain⟨δ',e,hs,L,M,Q,Z,rfl⟩:=uq (g:=(gNl 4)) (b:=(bW (bU 5 (dCall bR (au (ao 0) (au (dC (.int 2)) (au (ao 4) (au (dC (.int 9)) (aZ))))))) (vC 3 (dOp gIx (iY (au (dC (.int 0)) (au (dOp uz (dOp eF (ao 2) (ao 5)) (dC (.int 5))) (aZ)))) (dCall sV (au (dOp gGt (ao 5) (dC (.int 4))) (aZ))))))) (λi δ=>∃(hs:List Int)(X Y:Option U),hs.length=i/\(∀h∈hs,0<=h)/\δ=[some (.d (.list (ns.map .int))),some (.d (.int w)),some (.d (.int b)),some (.d (.list (hs.map .int))),X,Y]) (gJ 0 w) [some (.d (.list (ns.map .int))),some (.d (.int w)),some (.d (.int b)),some (.d (.list [])),none,none] ⟨[],none,none,rfl,by simp,rfl⟩
  (by
   rintro i d δ hd ⟨hs,X,Y,T,Z,rfl⟩
   obtain⟨K,rfl⟩:=mq hd
   have P:Com.bR [.list (ns.map .int),.int 2,.int (i:Int),.int 9]=some (.int (jd ns 2 (i:Int) 9)):=m7 (by decide) (by omega) (by omega) (by decide)
   generalize jd ns 2 (i:Int) 9=x at P
   have W:∀v:Int,0<=v->∀h∈hs++[v],0<=h:=λv O h N=>by
    rcases cG.mp N with z|z
    ·exact Z h z
    ·rw[aN.mp z];exact O
   have V:∀v:Int,(hs++[v]).map PyData.int=hs.map PyData.int++[.int v]:=λv=>by rw[cI];rfl
   by_cases c:x>4
   ·refine⟨_,_,rfl,.inl ?_,hs++[b+x-5],some (.d (.int (i:Int))),some (.d (.int x)),by rw[bh,T];rfl,W _ (by omega),rfl⟩
    rw[V]
    simp only[EV,reduceIte,aA,aC,aj,ak,aD,aF,aG,P,dTr c,show sV [.bool true]=some (.int 1)from rfl,at1,Com.sz (show 2<=1000000 by decide),lMp,show hs.length<1000000 by omega]
   ·refine⟨_,_,rfl,.inl ?_,hs++[0],some (.d (.int (i:Int))),some (.d (.int x)),by rw[bh,T];rfl,W _ (by decide),rfl⟩
    rw[V]
    simp only[EV,reduceIte,aA,aC,aj,ak,aD,aF,aG,P,dFa c,show sV [.bool false]=some (.int 0)from rfl,at0,Com.sz (show 2<=1000000 by decide),lMp,show hs.length<1000000 by omega])
 refine⟨hs,by rw[Q,J3];omega,Z,?_⟩
 unfold Com.jP
 simp only[EV,reduceIte,aA,aC,aj,ak,aD,aF,aG,S,R,e,rR,Com.sz (show 0<=1000000 by decide)]
theorem Jd(ns:List Int){w m:Int}(w0:1<=w)(D:w<=4)(m0:0<=m)(m1:m<=16):∃gs:List Wi,(gs.length:Int)=m/\(∀g∈gs,grOk g/\gOk g/\g.2.1<=391)/\Com.i_ [.list (ns.map .int),.int w,.int m]=some (.list (gs.map wiD)):=by
 have M:uL (some [.int m])=some (gJ 0 m):=GJ (by omega) (by omega)
 have N:Com.bR [.list (ns.map .int),.int 1,.int 0,.int 380]=some (.int (jd ns 1 0 380)):=m7 (by decide) (by decide) (by decide) (by decide)
 have B:=gP ns 1 0 (m:=380) (by decide)
 generalize jd ns 1 0 380=b at N B
 obtain⟨δ',e,gs,F,G,H,I,Z,rfl⟩:=uq (g:=(gNl 5)) (b:=(bW (bU 6 (dOp eF (ao 3) (dCall bR (au (ao 0) (au (dOp eF (dC (.int 3)) (ao 5)) (au (dC (.int 0)) (au (dC (.int 7)) (aZ)))))))) (bW (bU 7 (dOp eF (dC (.int 1)) (dCall bR (au (ao 0) (au (dOp eF (dC (.int 3)) (ao 5)) (au (dC (.int 2)) (au (ao 1) (aZ)))))))) (bW (sIf (bN (dOp gEq (dCall bR (au (ao 0) (au (dOp eF (dC (.int 3)) (ao 5)) (au (dC (.int 3)) (au (dC (.int 16)) (aZ)))))) (dC (.int 0)))) (bU 7 (dCall Fw (au (dC (.int 6)) (au (dOp eF (ao 1) (dC (.int 1))) (aZ))))) (dJ)) (vC 4 (dTup (au (ao 6) (au (dOp eF (dOp eF (ao 6) (dC (.int 1))) (dCall bR (au (ao 0) (au (dOp eF (dC (.int 3)) (ao 5)) (au (dC (.int 1)) (au (dC (.int 6)) (aZ))))))) (au (ao 7) (aZ)))))))))) (λi δ=>∃(gs:List Wi)(R S T:Option U),gs.length=i/\(∀g∈gs,grOk g/\gOk g/\g.2.1<=391)/\δ=[some (.d (.list (ns.map .int))),some (.d (.int w)),some (.d (.int m)),some (.d (.int b)),some (.d (.list (gs.map wiD))),R,S,T]) (gJ 0 m) [some (.d (.list (ns.map .int))),some (.d (.int w)),some (.d (.int m)),some (.d (.int b)),some (.d (.list [])),none,none,none] ⟨[],none,none,none,rfl,by simp,rfl⟩
  (by
   rintro i d δ hd ⟨gs,R,S,T,O,Z,rfl⟩
   obtain⟨E,rfl⟩:=mq hd
   have P:∀k m:Int,0<=k->k<=1000->0<m->Com.bR [.list (ns.map .int),.int (3+(i:Int)),.int k,.int m]=some (.int (jd ns (3+(i:Int)) k m)):=λk m a b c=>m7 (by omega) a b c
   have V:=P 0 7 (by decide) (by decide) (by decide)
   have J:=gP ns (3+(i:Int)) 0 (m:=7) (by decide)
   generalize jd ns (3+(i:Int)) 0 7=x at V J
   have X:=P 2 w (by decide) (by decide) (by omega)
   have L:=gP ns (3+(i:Int)) 2 (m:=w) (by omega)
   generalize jd ns (3+(i:Int)) 2 w=s at X L
   have Y:=P 3 16 (by decide) (by decide) (by decide)
   generalize jd ns (3+(i:Int)) 3 16=t at Y
   have W:=P 1 6 (by decide) (by decide) (by decide)
   have K:=gP ns (3+(i:Int)) 1 (m:=6) (by decide)
   generalize jd ns (3+(i:Int)) 1 6=y at W K
   have ok:∀z:Int,1<=z->z<=6->∀g∈gs++[(b+x,b+x+1+y,z)],grOk g/\gOk g/\g.2.1<=391:=λz z1 z2 g hm=>by
    rcases cG.mp hm with hm|hm
    ·exact Z g hm
    ·rw[aN.mp hm]
     exact⟨⟨by show 0<=b+x;omega,by show b+x<b+x+1+y;omega,by show b+x+1+y<=400;omega,z1,z2⟩,⟨z1,z2⟩,by show b+x+1+y<=391;omega⟩
   have Q:∀z:Int,(gs++[(b+x,b+x+1+y,z)]).map wiD=gs.map wiD++[.tuple [.int (b+x),.int (b+x+1+y),.int z]]:=λv=>by rw[cI];rfl
   by_cases c:t=0
   ·refine⟨_,_,rfl,.inl ?_,gs++[(b+x,b+x+1+y,if w+1<6 then w+1 else 6)],some (.d (.int (i:Int))),some (.d (.int (b+x))),some (.d (.int (if w+1<6 then w+1 else 6))),by rw[bh,O];rfl,ok _ (by split<;>omega) (by split<;>omega),rfl⟩
    rw[Q]
    simp only[EV,reduceIte,aA,aC,aj,ak,aD,aF,aG,V,W,X,Y,dTr c,Com.sz (show 3<=1000000 by decide),lMp,show gs.length<1000000 by omega]
   ·refine⟨_,_,rfl,.inl ?_,gs++[(b+x,b+x+1+y,1+s)],some (.d (.int (i:Int))),some (.d (.int (b+x))),some (.d (.int (1+s))),by rw[bh,O];rfl,ok _ (by omega) (by omega),rfl⟩
    rw[Q]
    simp only[EV,reduceIte,aA,aC,aj,ak,aD,aF,aG,V,W,X,Y,dFa c,Com.sz (show 3<=1000000 by decide),lMp,show gs.length<1000000 by omega])
 refine⟨gs,by rw[I,J3];omega,Z,?_⟩
 unfold Com.i_
 simp only[EV,reduceIte,aA,aC,aj,ak,aD,aF,aG,N,M,e,ur wiD (λ_=>rfl),Com.sz (show 0<=1000000 by decide)]
theorem Em{v:D}(hg:∀g∈gs,grOk g/\gOk g)(O:∀g∈gs',grOk g/\gOk g)(gl:gs.length<64)(W:gs'.length<64)(Z:1<=hs.length)(Y:hs.length<=5)(J:1<=hs'.length)(B:hs'.length<=5)
 (h:bL [.list (hs.map .int),.list (gs.map wiD)]=some v) (e:iu hs gs<->iu hs' gs'):bL [.list (hs'.map .int),.list (gs'.map wiD)]=some v:=by
 rcases pQ hg gl Z Y with⟨a,b⟩|⟨a,b⟩<;>rcases pQ O W J B with⟨c,d⟩|⟨c,d⟩
 ·rw[b]at h;rw[d,h]
 ·exact absurd (e.mp a) c
 ·exact absurd (e.mpr c) a
 ·rw[b]at h;rw[d,h]
theorem MF{b:Int}{v:D}(J:gs.length<64)(B:hs.length<=5)(q:bL [.list ((hs.map (mvH b)).map .int),.list ((gs.map (mvG b)).map wiD)]=some v):mF [.list (hs.map .int),.list (gs.map wiD),.int b]=some v:=by
 have W:=Ao (g:=(gNl 0)) (c:=(D3.mK)) (e:=(dOp eF (ao 0) (dOp qu (ao 1) (dCall sV (au (dOp gGt (ao 0) (dC (.int 0))) (aZ)))))) (δ:=[none,some (.d (.int b))]) PyData.int (λe=>.int (mvH b e)) hs (λe _=>by
  refine⟨[some (.d (.int e)),some (.d (.int b))],rfl,rfl,?_⟩
  unfold mvH
  by_cases c:e>0
  ·rw[if_pos c]
   have V:qu (.int b) (.int 1)=some (.int b):=by rw[mulR (by decide) (by decide),wV]
   simp only[EV,reduceIte,aA,aC,aj,ak,aD,aF,aG,dTr c,show sV [.bool true]=some (.int 1)from rfl,V]
  ·rw[if_neg c]
   have T:qu (.int b) (.int 0)=some (.int 0):=by rw[mulR (by decide) (by decide),Int.mul_zero]
   simp only[EV,reduceIte,aA,aC,aj,ak,aD,aF,aG,dFa c,show sV [.bool false]=some (.int 0)from rfl,T]
   rw[Int.add_zero])
 have X:=Ao (g:=(gTn 3 (cF (gNl 0) (cF (gNl 1) (cF (gNl 2) (jE)))))) (c:=(D3.mK)) (e:=(iy (dTup (au (dOp eF (ao 0) (ao 3)) (au (dOp eF (ao 1) (ao 3)) (au (ao 2) (aZ))))))) (δ:=[none,none,none,some (.d (.int b))]) wiD (λg=>wiD (mvG b g)) gs (λg _=>by
  refine⟨[some (.d (.int g.1)),some (.d (.int g.2.1)),some (.d (.int g.2.2)),some (.d (.int b))],rfl,rfl,?_⟩
  have S:flat (.tuple [.int (g.1+b),.int (g.2.1+b),.int g.2.2])=true:=rfl
  simp only[EV,reduceIte,aA,aC,aj,ak,aD,aF,aG,Com.sz (show 3<=1000000 by decide),S]
  rfl)
 have Y:∀a b c d:Option U,n_ 1 [2] [a,b,c,d]=[none,c]:=λ_ _ _ _=>rfl
 have Z:∀a b c d:Option U,n_ 3 [2] [a,b,c,d]=[none,none,none,c]:=λ_ _ _ _=>rfl
 have R:(hs.map λe=>PyData.int (mvH b e))=(hs.map (mvH b)).map PyData.int:=by rw[cR];rfl
 have e2:(gs.map λg=>wiD (mvG b g))=(gs.map (mvG b)).map wiD:=by rw[cR];rfl
 rw[R]at W
 rw[e2]at X
 have l1:(hs.map PyData.int).length<=100000:=by rw[aq];omega
 have l2:(gs.map wiD).length<=100000:=by rw[aq];omega
 unfold mF
 simp only[EV,reduceIte,aA,aC,aj,ak,aD,aF,aG,l1,l2,Y,Z,W,X,q]
theorem V_{s:Str}(h:n<=1000):uD (.list [.str s]) (.int (n:Int))=some (.list (aQ n (.str s))):=by
 show(if [PyData.str s].length*((n:Int)).toNat<=1000000/\-(2^63)<=(n:Int)/\(n:Int)<2^63 then some (PyData.list (aQ ((n:Int)).toNat [PyData.str s]).flatten)else none)=_
 rw[if_pos ⟨by simp;omega,by omega,by omega⟩,show((n:Int)).toNat=n by omega]
 congr 2
 clear h
 induction n with
 |zero=>rfl
 |succ n Z=>rw[cD,eX,Z,cD];rfl
theorem mH(J:∀g∈gs,grOk g/\gOk g)(O:gs.length<64)(D:1<=hs.length)(B:hs.length<=5)(h:iu hs gs):bL [.list (hs.map .int),.list (gs.map wiD)]=some (.str "laid"):=by
 rcases pQ J O D B with⟨_,b⟩|⟨a,_⟩
 ·exact b
 ·exact absurd h a
theorem MK(ns:List Int){hs:List Int}{gs:List Wi}(J:∀g∈gs,grOk g/\gOk g)(hn:∀h∈hs,0<=h)(g0:1<=gs.length)(gl:gs.length<60)(w1:1<=hs.length)(w4:hs.length<=4)(h:iu hs gs):mG [.list (ns.map .int),.list (hs.map .int),.list (gs.map wiD)]=some (.bool true):=by
 have go:∀g∈gs,grOk g:=λg h=>(J g h).1
 have A:Com.bR [.list (ns.map .int),.int 0,.int 2,.int (gs.length:Int)]=some (.int (jd ns 0 2 (gs.length:Int))):=m7 (by decide) (by decide) (by decide) (by omega)
 have p:=gP ns 0 2 (m:=(gs.length:Int)) (by omega)
 generalize jd ns 0 2 (gs.length:Int)=a at A p
 have B:Com.bR [.list (ns.map .int),.int 0,.int 3,.int (hs.length:Int)]=some (.int (jd ns 0 3 (hs.length:Int))):=m7 (by decide) (by decide) (by decide) (by omega)
 have u:=gP ns 0 3 (m:=(hs.length:Int)) (by omega)
 generalize jd ns 0 3 (hs.length:Int)=r at B u
 obtain⟨a,rfl⟩:=lF p.1
 obtain⟨r,rfl⟩:=lF u.1
 have al:a<gs.length:=by omega
 have Q:r<hs.length:=by omega
 have ga:=zW al
 have Y:=rW go al
 have o:=mz PyData.int (l:=hs) 0 (i:=(r:Int)) (by omega) (by omega)
 rw[eZ]at o
 generalize y:(if(gat gs a).2.1-1>(gat gs a).1+1 then(gat gs a).2.1-1 else(gat gs a).1+1)=b
 have e:(gat gs a).1<b:=by rw[<-y];split<;>omega
 have b2:b<=(gat gs a).2.1:=by have:=Y.b;rw[<-y];split<;>omega
 have S5:=iu.shorter go al e b2 h
 have Z:∀{α:Type}(l:List α)(k:Nat)(x:α),k<l.length->l.set k x=l.take k++[x]++l.drop (k+1):=λl k x hk=>by rw[List.set_eq_take_append_cons_drop,if_pos hk,aR];rfl
 have e5:=Z gs a ((gat gs a).1,b,(gat gs a).2.2) al
 generalize j:(if hs.getD r 0-1>0 then hs.getD r 0-1 else 0)=c
 have c1:c<=hs.getD r 0:=by
  have:0<=hs.getD r 0:=by
   rw[aH,aB Q]
   exact hn _ (cj Q)
  rw[<-j];split<;>omega
 have S4:iu (hs.set r c) gs:=iu.more go 0 (by rw[cH];omega) (λq C=>by
  rw[ju,aH,lK]
  by_cases z:r=q
  ·subst z
   rw[if_pos rfl,if_pos Q]
   exact c1
  ·rw[if_neg z,<-aH]
   exact eY _) h
 have e4:=Z hs r c Q
 have S1:iu hs (gs.take a++gs.drop (a+1)):=iu.sub go (by
  have:=(dU a gs)
  conv=>rhs;rw[<-this]
  refine List.Sublist.append (List.Sublist.refl _) ?_
  rw[<-jM]
  exact List.drop_sublist 1 _) h
 have S2:iu (hs++[0]) gs:=iu.more go 0 (by rw[bh];omega) (λq C=>by
  rw[ju,aH,cg C,<-aH]
  exact eY _) h
 have S3:iu ([0]++hs) gs:=iu.more go 1 (by rw[bh];show hs.length+1<=1+hs.length;omega) (λq C=>by
  rw[aH,bT (by show 1<=q+1;omega),show q+1 - [(0:Int)].length=q by show q+1-1=q;omega,<-aH]
  exact eY _) h
 have g1:∀g∈gs.take a++gs.drop (a+1),grOk g/\gOk g:=λg hm=>by
  rcases cG.mp hm with z|z
  ·exact J g (nG z)
  ·exact J g (nD z)
 have g5:∀g∈gs.set a ((gat gs a).1,b,(gat gs a).2.2),grOk g/\gOk g:=λg hm=>by
  rcases kh hm with z|rfl
  ·exact J g z
  ·exact⟨⟨Y.f,e,by have:=Y.n;show b<=400;omega,Y.s,Y.t⟩,Y.s,Y.t⟩
 have L:=mH g1 (by rw[bh,bV,cV];omega) w1 (by omega) S1
 have M:=mH J (by omega) (by rw[bh];omega) (by rw[bh];show hs.length+1<=5;omega) S2
 have N:=mH J (by omega) (by rw[bh];show 1<=1+hs.length;omega) (by rw[bh];show 1+hs.length<=5;omega) S3
 have O:=mH J (by omega) (by rw[cH];omega) (by rw[cH];omega) S4
 have P:=mH g5 (by rw[cH];omega) w1 (by omega) S5
 rw[e4,cI,cI]at O
 rw[e5,cI,cI]at P
 rw[cI]at L M N
 have k1:cutD (gs.map wiD) none (some (a:Int))=(gs.take a).map wiD:=by rw[J5 (by omega),kE];rfl
 have k2:cutD (gs.map wiD) (some ((a:Int)+1)) none=(gs.drop (a+1)).map wiD:=by rw[J4 (by omega),kI];rfl
 have k3:cutD (hs.map PyData.int) none (some (r:Int))=(hs.take r).map .int:=by rw[J5 (by omega),kE];rfl
 have k4:cutD (hs.map PyData.int) (some ((r:Int)+1)) none=(hs.drop (r+1)).map .int:=by rw[J4 (by omega),kI];rfl
 have cat:∀(l m:List D),l.length+m.length<=1000000->kj (.list l) (.list m)=some (.list (l++m)):=λl m hl=>by rw[J1,if_pos hl]
 have E:yO [.int ((gat gs a).1+1),.int ((gat gs a).2.1-1)]=some (.int b):=by rw[Qz,y]
 have F:yO [.int 0,.int (hs.getD r 0-1)]=some (.int c):=by rw[Qz,j]
 have G:=V_ (s := "laid") (n:=5) (by decide)
 have G:uD (.list [.str "laid"]) (.int 5)=some (.list [.str "laid", .str "laid", .str "laid", .str "laid", .str "laid"]):=G
 have W:ly 3 (.str "laid"):=⟨by rw[PyData.canLay0];decide +kernel,by simp[PyData.depth]⟩
 have eq:gEq (.list [.str "laid", .str "laid", .str "laid", .str "laid", .str "laid"]) (.list [.str "laid", .str "laid", .str "laid", .str "laid", .str "laid"])=some (.bool true):=Com.eq_self (xu (yq (kW W (kW W (kW W (kW W (kW W Ec)))))) (by decide))
 have as:∀(v x1 R S T H I K V w X:Option U),gTn 3 (cF (gNl 5) (cF (gNl 6) (cF (gNl 7) (jE)))) (wiD (gat gs a)) [v,x1,R,S,T,H,I,K,V,w,X]=some [v,x1,R,S,T,some (.d (.int (gat gs a).1)),some (.d (.int (gat gs a).2.1)),some (.d (.int (gat gs a).2.2)),V,w,X]:=λ_ _ _ _ _ _ _ _ _ _ _=>rfl
 have L:bL [.list (hs.map .int),.list ((gs.take a).map wiD++(gs.drop (a+1)).map wiD)]=some (.str "laid"):=L
 have M:bL [.list (hs.map .int++[.int 0]),.list (gs.map wiD)]=some (.str "laid"):=M
 have N:bL [.list (.int 0::hs.map .int),.list (gs.map wiD)]=some (.str "laid"):=N
 have O:bL [.list ((hs.take r).map .int++[.int c]++(hs.drop (r+1)).map .int),.list (gs.map wiD)]=some (.str "laid"):=O
 have P:bL [.list (hs.map .int),.list ((gs.take a).map wiD++[.tuple [.int (gat gs a).1,.int b,.int (gat gs a).2.2]]++(gs.drop (a+1)).map wiD)]=some (.str "laid"):=P
 have x1:=cat ((gs.take a).map wiD) [.tuple [.int (gat gs a).1,.int b,.int (gat gs a).2.2]] (by rw[aq,bV,dR];omega)
 have R:=cat ((gs.take a).map wiD++[.tuple [.int (gat gs a).1,.int b,.int (gat gs a).2.2]]) ((gs.drop (a+1)).map wiD) (by rw[bh,aq,aq,bV,cV,dR];omega)
 have S:=cat ((hs.take r).map .int) [.int c] (by rw[aq,bV,dR];omega)
 have T:=cat ((hs.take r).map .int++[.int c]) ((hs.drop (r+1)).map .int) (by rw[bh,aq,aq,bV,cV,dR];omega)
 have H:=cat ((gs.take a).map wiD) ((gs.drop (a+1)).map wiD) (by rw[aq,aq,bV,cV];omega)
 have I:=cat (hs.map .int) [.int 0] (by rw[aq,dR];omega)
 have K:=cat [.int 0] (hs.map .int) (by rw[aq,dR];omega)
 have V:kj (.list [.str "laid", .str "laid"]) (.list [.str "laid", .str "laid", .str "laid"])=some (.list [.str "laid", .str "laid", .str "laid", .str "laid", .str "laid"]):=cat _ _ (show 2+3<=1000000 by decide)
 unfold mG
 simp only[EV,reduceIte,aA,aC,aj,ak,aD,aF,aG,A,B,lMp,ga,as,k1,k2,k3,k4,o,E,F,x1,R,S,T,H,I,K,V,L,M,N,O,P,G,eq,Com.sz (show 1<=1000000 by decide),Com.sz (show 2<=1000000 by decide),Com.sz (show 3<=1000000 by decide)]
theorem RD(go:∀g∈gs,grOk g):iu hs gs<->iu hs.reverse gs:=⟨λh=>h.rev go,λh=>by have:=h.rev go;rw[sH]at this;exact this⟩
theorem Cm(go:∀g∈gs,grOk g)(p:gs.Perm gs'):iu hs gs<->iu hs gs':=⟨λh=>h.perm go p,λh=>h.perm (λg Z=>go g (p.mem_iff.mpr Z)) p.symm⟩
theorem RG(ns:List Int)(hn:ns.length<=63):QX [.list (ns.map .int)]=some (.bool true):=by
 have PA:∀k m:Int,0<=k->k<=1000->0<m->Com.bR [.list (ns.map .int),.int 0,.int k,.int m]=some (.int (jd ns 0 k m)):=λk m a b c=>m7 (by decide) a b c
 have F:=PA 0 4 (by decide) (by decide) (by decide)
 have u:=gP ns 0 0 (m:=4) (by decide)
 generalize jd ns 0 0 4=w at F u
 have G:=PA 1 7 (by decide) (by decide) (by decide)
 have v:=gP ns 0 1 (m:=7) (by decide)
 generalize jd ns 0 1 7=m at G v
 have I:=PA 5 8 (by decide) (by decide) (by decide)
 have x:=gP ns 0 5 (m:=8) (by decide)
 generalize jd ns 0 5 8=z at I x
 obtain⟨hs,j,o,K⟩:=RB ns (w:=1+w) (by omega) (by omega)
 obtain⟨gs,i,Y,y⟩:=Jd ns (w:=1+w) (m:=1+m) (by omega) (by omega) (by omega) (by omega)
 have H:=PA 4 (gs.length:Int) (by decide) (by decide) (by omega)
 have A:=gP ns 0 4 (m:=(gs.length:Int)) (by omega)
 generalize jd ns 0 4 (gs.length:Int)=t at H A
 obtain⟨t,rfl⟩:=lF A.1
 have go:∀g∈gs,grOk g:=λg h=>(Y g h).1
 have Z:∀g∈gs,grOk g/\gOk g:=λg h=>⟨(Y g h).1,(Y g h).2.1⟩
 have P:∀g∈gs,g.2.1+(1+z)<=400:=λg h=>by have:=(Y g h).2.2;omega
 obtain⟨s,X,Q⟩:∃s:Str,bL [.list (hs.map .int),.list (gs.map wiD)]=some (.str s)/\((s="laid"/\iu hs gs)\/s="none"):=by
  rcases pQ (hs:=hs) Z (by omega) (by omega) (by omega)with⟨a,b⟩|⟨a,b⟩
  ·exact⟨_,b,.inl ⟨rfl,a⟩⟩
  ·exact⟨_,b,.inr rfl⟩
 have J:=Em Z Z (by omega) (by omega) (by omega) (by omega) (by rw[fZ];omega) (by rw[fZ];omega) X (RD go)
 have r:∀g∈gs.reverse,grOk g/\gOk g:=λg h=>Z g (List.mem_reverse.mp h)
 have L:=Em Z r (by omega) (by rw[fZ];omega) (by omega) (by omega) (by omega) (by omega) X (Cm go (List.reverse_perm gs).symm)
 have pt:gs.Perm (gs.drop t++gs.take t):=by
  have:=fj (l₁:=gs.drop t) (l₂:=gs.take t)
  rw[dU]at this
  exact this.symm
 have M:=Em Z (λg h=>Z g (pt.mem_iff.mpr h)) (by omega) (by rw[<-pt.length_eq];omega) (by omega) (by omega) (by omega) (by omega) X (Cm go pt)
 have mg:∀g∈gs.map (mvG (1+z)),grOk g/\gOk g:=λg hm=>by
  obtain⟨N,O,rfl⟩:=bQ.mp hm
  exact⟨Ry (Y N O).1 (by omega) (P N O),(Y N O).2.1⟩
 have R:=Em Z mg (by omega) (by rw[aq];omega) (by omega) (by omega) (by rw[aq];omega) (by rw[aq];omega) X ⟨λh=>h.mv go (by omega) P,λh=>h.unmv go (by omega) P⟩
 have R:=MF (gs:=gs) (hs:=hs) (by omega) (by omega) R
 rw[List.map_reverse]at J L
 rw[cI]at M
 have k1:cutD (gs.map wiD) none (some (t:Int))=(gs.take t).map wiD:=by rw[J5 (by omega),kE];rfl
 have k2:cutD (gs.map wiD) (some (t:Int)) none=(gs.drop t).map wiD:=by rw[J4 (by omega),kI];rfl
 have cat:∀(l m:List D),l.length+m.length<=1000000->kj (.list l) (.list m)=some (.list (l++m)):=λl m p=>by rw[J1,if_pos p]
 have x1:=cat ((gs.drop t).map wiD) ((gs.take t).map wiD) (by rw[aq,aq,bV,cV];omega)
 have B:kj (.list [.str s,.str s]) (.list [.str s])=some (.list [.str s,.str s,.str s]):=cat _ _ (show 2+1<=1000000 by decide)
 have C:kj (.list [.str s,.str s,.str s]) (.list [.str s])=some (.list [.str s,.str s,.str s,.str s]):=cat _ _ (show 3+1<=1000000 by decide)
 have U:=V_ (s:=s) (n:=4) (by decide)
 have U:uD (.list [.str s]) (.int 4)=some (.list [.str s,.str s,.str s,.str s]):=U
 have cl:PyData.canLay0 (.str s)=true:=by
  rcases Q with⟨rfl,_⟩|rfl<;>(rw[PyData.canLay0];decide +kernel)
 have T:ly 3 (.str s):=⟨cl,by simp[PyData.depth]⟩
 have ne:gNe (.list [.str s,.str s,.str s,.str s]) (.list [.str s,.str s,.str s,.str s])=some (.bool false):=by
  have e:=Com.eq_self (xu (yq (kW T (kW T (kW T (kW T Ec))))) (show 4<=60 by decide))
  unfold gEq at e
  unfold gNe
  split at e
  ·next q=>
   rw[if_pos q]
   have:PyData.eqv (.list [.str s,.str s,.str s,.str s]) (.list [.str s,.str s,.str s,.str s])=true:=by simpa using e
   rw[this]
   rfl
  ·cases e
 have q1:=w_eq s cl "other" (by rw[PyData.canLay0];decide +kernel)
 have q1:gEq (.str s) (.str "other")=some (.bool false):=by
  rw[q1,dFa]
  rcases Q with⟨rfl,_⟩|rfl<;>decide +kernel
 have q2:=w_eq s cl "none" (by rw[PyData.canLay0];decide +kernel)
 have V:Fx (.list (hs.map PyData.int))=some (.list (hs.map PyData.int).reverse):=rfl
 have W:Fx (.list (gs.map wiD))=some (.list (gs.map wiD).reverse):=rfl
 unfold QX
 rcases Q with⟨e,S⟩|e
 ·have q2:gEq (.str s) (.str "none")=some (.bool false):=by rw[q2,e,dFa (by decide +kernel)]
  have E:=MK ns Z o (by omega) (by omega) (by omega) (by omega) S
  simp only[EV,reduceIte,aA,aC,aj,ak,aD,aF,aG,F,G,H,I,K,y,X,q1,lMp,V,W,J,L,k1,k2,x1,M,B,R,C,U,ne,q2,E,Com.sz (show 1<=1000000 by decide),Com.sz (show 2<=1000000 by decide)]
 ·have q2:gEq (.str s) (.str "none")=some (.bool true):=by rw[q2,e,dTr rfl]
  simp only[EV,reduceIte,aA,aC,aj,ak,aD,aF,aG,F,G,H,I,K,y,X,q1,lMp,V,W,J,L,k1,k2,x1,M,B,R,C,U,ne,q2,Com.sz (show 1<=1000000 by decide),Com.sz (show 2<=1000000 by decide)]
end K78
namespace K78
open PySem PySem.Spec PyProof.Rows L2 My D3 XS XK
def top(i:Nat):Stmt:=PySem.Challenge.pw_nightbook_k78_whole_put_otherwise.main.body.getD i (.Pass ⟨0,0,0,0⟩)
section
seal PE PT PW PA PS PSs PG PGs PI PO PTs
variable{P:Program}{w:World}{K:PySem.W.Frag}{mg:Str->Option Value}{base:Heap}{n:Nat}
theorem Hr(D:Dg K mg "is_whole" (top 5) ["thing"])(B:Bl mg):Has P w K mg base (n+1) "is_whole" ["thing"] (spD K iz):=by
 have sc:FnScope ["thing"] ["thing"] (bK (top 5)):=fsc
 exact iD (fl:=[.A]) D sc (by decide) (by decide) λf cdv A outer s H E Z=>bH (cP (dj (uX (bB (o_ (T := "int") (by decide) (vP 0) (by rfl) B.isinstance_ (by rfl) B.int_ PyProof.Rows.boot_int)) (tE (Ob (bB (o_ (T := "bool") (by decide) (vP 0) (by rfl) B.isinstance_ (by rfl) B.bool_ PyProof.Rows.boot_bool)))))))
theorem vf(D:Dg K mg "is_whole_within" (top 6) ["thing", "least", "most"])(B:Bl mg)(J:Has P w K mg base n "is_whole" ["thing"] (spD K iz)):Has P w K mg base (n+1) "is_whole_within" ["thing", "least", "most"] (spD K fX):=by
 have sc:FnScope ["thing", "least", "most"] ["thing", "least", "most"] (bK (top 6)):=fsc
 exact iD (fl:=[.A,.A,.A]) D sc (by decide) (by decide) λf cdv A outer s H E Z=>bH (cP (dj (uX (kO (b_ J Z (dq (vP 0) dz))) (tE (Fz nM nM sY sY (vP 1) (vP 0) (vP 2))))))
theorem En(D:Dg K mg "all_whole" (top 7) ["things"])(B:Bl mg)(J:Has P w K mg base n "is_whole" ["thing"] (spD K iz)):Has P w K mg base (n+1) "all_whole" ["things"] (spD K nU):=by
 have sc:FnScope ["things"] ["things"] (bK (top 7)):=fsc
 exact iD (fl:=[.A]) D sc (by decide) (by decide) λf cdv A outer s H E Z=>bH (cP (dj (fJ (Lb rfl) ZS (by rfl) B.all_ (show bootBuiltins "all"=some (.builtin "all")by decide +kernel) (dq (bB (nj (L:=[]) (fl':=[.A]) rfl ["thing"] [] [] (yX (vB 0)) (λ_ _ _ _ _=>gN' (i:=0) (show(["thing"]:List Str).Nodup by decide +kernel)) (λ_ _ _ _ _=>pL) (λ_ _ _ _ _=>b_ J Z (dq (vP 0) dz)))) dz))))
theorem Aa(D:Dg K mg "is_tuple_of" (top 8) ["thing", "many"])(B:Bl mg)(J:Has P w K mg base n "all_whole" ["things"] (spD K nU)):Has P w K mg base (n+1) "is_tuple_of" ["thing", "many"] (spD K kY):=by
 have sc:FnScope ["thing", "many"] ["thing", "many"] (bK (top 8)):=fsc
 exact iD (fl:=[.A,.A]) D sc (by decide) (by decide) λf cdv A outer s H E Z=>bH (cP (vD (uX (bB (o_ (T := "tuple") (by decide) (vP 0) (by rfl) B.isinstance_ (by rfl) B.tuple_ PyProof.Rows.boot_tuple)) (uX (bB (rM (o8 Z.units) yQ (bB (fJ cC jL (by rfl) B.len_ PySem.boot_len (dq (vP 0) dz))) (vP 1) (d7 _))) (tE (b_ J Z (dq (vP 0) dz)))))))
theorem Je(D:Dg K mg "is_pair" (top 9) ["thing"])(B:Bl mg)(J:Has P w K mg base n "is_tuple_of" ["thing", "many"] (spD K kY)):Has P w K mg base (n+1) "is_pair" ["thing"] (spD K qW):=by
 have sc:FnScope ["thing"] ["thing"] (bK (top 9)):=fsc
 exact iD (fl:=[.A]) D sc (by decide) (by decide) λf cdv A outer s H E Z=>bH (cP (vD (b_ J Z (dq (vP 0) (dq iP dz)))))
theorem Ar(D:Dg K mg "is_stretch" (top 12) ["thing"])(B:Bl mg)(J:Has P w K mg base n "is_pair" ["thing"] (spD K qW))(O:∃t,mg "NIGHTS"=some (.int 400 t)):Has P w K mg base (n+1) "is_stretch" ["thing"] (spD K mC):=by
 have sc:FnScope ["thing"] ["thing"] (bK (top 12)):=fsc
 exact iD (fl:=[.A]) D sc (by decide) (by decide) λf cdv A outer s H E Z=>bH (cP (dj (uX (kO (b_ J Z (dq (vP 0) dz))) (tE (K7 nM Jj nM sY b_lt sY iP (fu (dx (vB 0) iP)) (fu (dx (vB 0) iP)) (bB (CQ O)))))))
theorem Eo(D:Dg K mg "nights_of" (top 13) ["stay"])(B:Bl mg):Has P w K mg base (n+1) "nights_of" ["stay"] (spD K jQ):=by
 have sc:FnScope ["stay"] ["stay"] (bK (top 13)):=fsc
 exact iD (fl:=[.A]) D sc (by decide) (by decide) λf cdv A outer s H E Z=>bH (cP (tu rfl (dq (dj (oh (fu (dx (vB 0) iP)))) (dq (dj (oh (fu (dx (vB 0) iP)))) dz))))
theorem Hs(D:Dg K mg "is_group" (top 17) ["thing"])(B:Bl mg)(J:Has P w K mg base n "is_whole_within" ["thing", "least", "most"] (spD K fX))(W:Has P w K mg base n "is_stretch" ["thing"] (spD K mC))(Y:Has P w K mg base n "nights_of" ["stay"] (spD K jQ))(O:∃t,mg "MOST_OF_A_GROUP"=some (.int 6 t)):Has P w K mg base (n+1) "is_group" ["thing"] (spD K m8):=by
 have sc:FnScope ["thing"] ["thing"] (bK (top 17)):=fsc
 exact iD (fl:=[.A]) D sc (by decide) (by decide) λf cdv A outer s H E Z=>bx (iU (yS (yR (mW (lZ (bB (o_ (T := "tuple") (by decide) (vP 0) (by rfl) B.isinstance_ (by rfl) B.tuple_ PyProof.Rows.boot_tuple)))) (uY (gb (sO Z.units) Fy (bB (fJ cC jL (by rfl) B.len_ PySem.boot_len (dq (vP 0) dz))) iP (d7 _))))) (bH (cP (dj (oE)))) (dY))
  (bH (cP (vD (uX (kO (b_ W Z (dq (kO (b_ Y Z (dq (vP 0) dz))) dz))) (tE (b_ J Z (dq (fu (dx (vB 0) iP)) (dq iP (dq (bB (CQ O)) dz)))))))))
theorem xQ(D:Dg K mg "check_groups" (top 18) ["groups"])(B:Bl mg)(J:Has P w K mg base n "is_group" ["thing"] (spD K m8)):Has P w K mg base (n+1) "check_groups" ["groups"] (spD K jT):=by
 have sc:FnScope ["groups", "at", "group"] ["groups"] (bK (top 18)):=fsc
 exact iD (fl:=[.A,.A,.A]) D sc (by decide) (by decide) λf cdv A outer s H E Z=>bH (lB (L:=[]) PassesOwn.never rfl (Tp (vB 0) (by rfl) B.enumerate_) (sZ rfl (fQ (gN' (i:=1) sc.nd) (fQ (gN' (i:=2) sc.nd) (pK)))) (bH (iU (mW (lZ (kO (b_ J Z (dq (vP 2) dz))))) (bH (FN)) (dY))))
theorem RJ{Pt:Addr}(D:XL.DgT K mg "turns" (top 19) ["groups"] Pt "turns.<locals>.<lambda>" ⟨41,42,41,72⟩)(B:Bl mg):Has P w K mg base (n+1) "turns" ["groups"] (spD K jY):=by
 have sc:FnScope ["groups"] ["groups"] (bK (top 19)):=fsc
 exact XL.Yc (fl:=[.A]) D sc (by decide) (by decide) λf c A outer s H E Z Y=>bH (cP (dj (XL.Iv (i:=0) ⟨⟨_,rfl,Z⟩,rfl,D.tb⟩ Y rfl (dq (bB (fJ cC jL (by rfl) B.len_ PySem.boot_len (dq (vP 0) dz))) dz) (by rfl) B.sorted_ (by rfl) B.range_ rfl rfl rfl rfl (λ_ h=>XL.Ql rfl h) (λ_ _ _ _ _=>rfl) rfl rfl rfl (by decide +kernel) rfl rfl (by decide) (by decide) (by decide) rfl rfl)))
theorem Ep(D:Dg K mg "starts_in" (top 20) ["row", "group"])(B:Bl mg):Has P w K mg base (n+1) "starts_in" ["row", "group"] (spD K jr):=by
 have sc:FnScope ["row", "group", "last"] ["row", "group"] (bK (top 20)):=fsc
 exact iD (fl:=[.A,.A,.A]) D sc (by decide) (by decide) λf cdv A outer s H E Z=>bx (sA (i:=2) sc.nd (fH (dg wj Br (bB (fJ cC jL (by rfl) B.len_ PySem.boot_len (dq (vP 0) dz))) (fu (dx (vB 1) iP)))))
  (bH (cP (dj (nj (L:=[]) (fl':=[.A,.A,.A]) rfl ["start"] ["group", "row"] [1,0] (jW (by rfl) B.range_ (vK (dq (bB (dg eE gM (vP 2) iP)) dz))) (λ_ _ _ _ _=>gN' (i:=0) (show(["start", "group", "row"]:List Str).Nodup by decide +kernel)) (λ_ _ _ _ _=>xW (gb nM sY (bB (fJ (BX rfl) PN (by rfl) B.max_ PyProof.Rows.boot_max (dq (bB (PK (vP 2) (jf (vP 0)) (jf (bB (dg eE gM (vP 0) (fu (dx (vB 1) iP))))))) dz))) (fu (dx (vB 1) iP)) (d7 _))) (λ_ _ _ _ _=>jO (oh (vP 0)))))))
theorem xR(D:Dg K mg "night_behind" (top 21) ["since", "group", "is_own"])(B:Bl mg):Has P w K mg base (n+1) "night_behind" ["since", "group", "is_own"] (spD K fY):=by
 have sc:FnScope ["since", "group", "is_own"] ["since", "group", "is_own"] (bK (top 21)):=fsc
 exact iD (fl:=[.A,.A,.A]) D sc (by decide) (by decide) λf cdv A outer s H E Z=>bx (iU (lZ (vP 2)) (bH (cP (dj (oh (fu (dx (vB 1) iP)))))) (dY))
  (bH (cP (dj (oh (fu (ZL (gb nM sY (vP 0) (fu (dx (vB 1) iP)) (d7 _)) (fH (CP)) (vA 0)))))))
theorem Av(D:Dg K mg "row_behind" (top 22) ["row", "group", "start"])(B:Bl mg)(J:Has P w K mg base n "night_behind" ["since", "group", "is_own"] (spD K fY)):Has P w K mg base (n+1) "row_behind" ["row", "group", "start"] (spD K gF):=by
 have sc:FnScope ["row", "group", "start", "behind"] ["row", "group", "start"] (bK (top 22)):=fsc
 exact iD (fl:=[.A,.A,.A,.A]) D sc (by decide) (by decide) λf cdv A outer s H E Z=>bx (sA (i:=3) sc.nd (fH (dg eE gM (vP 2) (fu (dx (vB 1) iP)))))
  (bH (cP (vD (Tw (jO (nj (L:=[]) (fl':=[.A,.A,.A,.A,.A]) rfl ["room", "since"] ["group", "start", "behind"] [1,2,3] (Qa (vB 0) (by rfl) B.enumerate_) (λ_ _ _ _ _=>sZ rfl (fQ (gN' (i:=0) (show(["room", "since", "group", "start", "behind"]:List Str).Nodup by decide +kernel)) (fQ (gN' (i:=1) (show(["room", "since", "group", "start", "behind"]:List Str).Nodup by decide +kernel)) (pK)))) (λ_ _ _ _ _=>pL) (λ_ _ _ _ _=>b_ J Z (dq (vP 1) (dq (vP 2) (dq (bB (Fz nM Jj sY b_lt (vP 3) (vP 0) (vP 4))) dz)))))) (by rfl) B.tuple_))))
theorem Ab(D:Dg K mg "rows_behind" (top 23) ["rows", "group"])(B:Bl mg)(O:Has P w K mg base n "starts_in" ["row", "group"] (spD K jr))(J:Has P w K mg base n "row_behind" ["row", "group", "start"] (spD K gF)):Has P w K mg base (n+1) "rows_behind" ["rows", "group"] (spD K fB):=by
 have sc:FnScope ["rows", "group", "found", "row", "start"] ["rows", "group"] (bK (top 23)):=fsc
 exact iD (fl:=[.A,.A,.N,.A,.A]) D sc (by decide) (by decide) λf cdv A outer s H E Z=>bx (Jz (i:=2) rfl sc.nd rfl (by first|exact Or.inl rfl|exact Or.inr rfl) (Jy))
  (bx (lB (L:=[]) PassesOwn.never rfl (oN (vB 0)) (gN' (i:=3) sc.nd) (bH (lB (L:=[]) PassesOwn.never rfl (oN (gC (nQ (b_ O Z (dq (vP 3) (dq (vP 1) dz)))))) (gN' (i:=4) sc.nd) (bH (XJ.Pj (i:=2) (XK.hu1 Z.units) rfl (kO (b_ J Z (dq (vP 3) (dq (vP 1) (dq (vP 4) dz))))) (fu (tu rfl (dq (vA 3) (dq (vA 4) dz)))) rfl ⟨rfl,rfl,rfl,rfl⟩)))))
  (bH (cP (Oo 2 rfl))))
theorem Aw(D:Dg K mg "all_behind" (top 24) ["held", "groups"])(B:Bl mg)(Y:Has P w K mg base n "turns" ["groups"] (spD K jY))(J:Has P w K mg base n "rows_behind" ["rows", "group"] (spD K fB))(W:∃t,mg "MOST_ROWS"=some (.int 400 t)):Has P w K mg base (n+1) "all_behind" ["held", "groups"] (spL K jZ):=by
 have sc:FnScope ["held", "groups", "found", "rows", "place", "behind"] ["held", "groups"] (bK (top 24)):=fsc
 exact Xu (fl:=[.A,.A,.O,.A,.A,.A]) D sc (by decide) (by decide) λf cdv A outer s H E Z=>bx (xY (i:=2) rfl sc.nd rfl (by first|exact Or.inl rfl|exact Or.inr rfl) (wA (ig dz)))
  (bx (sA (i:=3) sc.nd (jg (t_ (dq (Dh (vB 0) (by rfl) B.tuple_) dz))))
  (bx (lB (L:=[]) PassesOwn.never rfl (oN (gC (nQ (b_ Y Z (dq (vP 1) dz))))) (gN' (i:=4) sc.nd) (bx (sA (i:=5) sc.nd (nQ (b_ J Z (dq (vP 3) (dq (fu (dx (vB 1) (vP 4))) dz)))))
  (bx (wD (i:=2) rfl (vA 5) rfl)
  (bx (iU (gb Bc K5 (bB (XJ.DX (dq (vP 5) dz) (by rfl) B.len_)) (bB (CQ W)) (d7 _)) (bH (FN)) (dY))
  (bx (iU (gb (o8 Z.units) yQ (bB (XJ.DX (dq (vP 5) dz) (by rfl) B.len_)) iP (d7 _)) (bH (JD (NT (NP 2)))) (dY))
  (bH (sA (i:=3) sc.nd (fH (XJ.vX rfl (dq (vP 5) dz) (by rfl) B.sorted_)))))))))
  (bH (JD (NT (NP 2))))))
theorem Er(D:Dg K mg "places_by" (top 25) ["found", "groups"])(B:Bl mg)(J:Has P w K mg base n "turns" ["groups"] (spD K jY)):Has P w K mg base (n+1) "places_by" ["found", "groups"] (spD K lH):=by
 have sc:FnScope ["found", "groups", "places", "row", "place", "behind"] ["found", "groups"] (bK (top 25)):=fsc
 exact iD (fl:=[.A,.A,.O,.A,.A,.A]) D sc (by decide) (by decide) λf cdv A outer s H E Z=>bx (xY (i:=2) rfl sc.nd rfl (by first|exact Or.inl rfl|exact Or.inr rfl) (CW (wA (ig (dq (jO (NZ)) dz))) (bB (fJ cC jL (by rfl) B.len_ PySem.boot_len (dq (vP 1) dz)))))
  (bx (sA (i:=3) sc.nd (fH (NZ)))
  (bx (lB (L:=[]) PassesOwn.never rfl (Xr (gC (jg (XK.Qg (gC (nQ (b_ J Z (dq (vP 1) dz)))) (vB 0) rfl (by rfl) B.list_ (by rfl) B.zip_))) (by rfl) B.reversed_) (sZ rfl (fQ (gN' (i:=4) sc.nd) (fQ (gN' (i:=5) sc.nd) (pK)))) (bx (iU (Xk (vP 3)) (bH (sA (i:=3) sc.nd (dx (gC (fH (XJ.vX rfl (dq (vP 5) dz) (by rfl) B.sorted_))) iP))) (dY))
  (bx (Xc (i:=2) rfl (dx (gC (fH (XJ.Gn (XK.hu1 Z.units) (vP 5) (vP 3) (λ_ _=>rfl)))) iP) (vP 4) rfl)
  (bH (sA (i:=3) sc.nd (dx (gC (fH (XJ.Gn (XK.hu1 Z.units) (vP 5) (vP 3) (λ_ _=>rfl)))) iP))))))
  (bH (cP (CN 2 (by decide))))))
theorem uE(D:Dg K mg "laid_as_they_are" (top 26) ["held", "groups"])(B:Bl mg)(J:Has P w K mg base n "all_behind" ["held", "groups"] (spL K jZ))(O:Has P w K mg base n "places_by" ["found", "groups"] (spD K lH)):Has P w K mg base (n+1) "laid_as_they_are" ["held", "groups"] (spD K fL):=by
 have sc:FnScope ["held", "groups", "found"] ["held", "groups"] (bK (top 26)):=fsc
 exact iD (fl:=[.A,.A,.A]) D sc (by decide) (by decide) λf cdv A outer s H E Z=>bx (sA (i:=2) sc.nd (ah2 rfl (Ox J Z (dq (vP 0) (dq (vP 1) dz)))))
  (bx (iU (yS (CV (gb Bc K5 (bB (fJ cC jL (by rfl) B.len_ PySem.boot_len (dq (vP 2) dz))) iP (d7 _)) (xZ (gb (o8 Z.units) yQ (bB (XJ.DX (dq (fu (dx (vB 2) (bB (Xh iP)))) dz) (by rfl) B.len_)) iP (d7 _))))) (bH (cP (tu rfl (dq (dj (o9)) (dq (dj (nj (L:=[]) (fl':=[.A]) rfl ["behind"] [] [] (oN (vB 2)) (λ_ _ _ _ _=>gN' (i:=0) (show(["behind"]:List Str).Nodup by decide +kernel)) (λ_ _ _ _ _=>pL) (λ_ _ _ _ _=>jO (XJ.vX rfl (dq (vP 0) dz) (by rfl) B.sorted_)))) dz))))) (dY))
  (bH (cP (tu rfl (dq (dj (o9)) (dq (vD (b_ O Z (dq (vP 2) (dq (vP 1) dz)))) dz))))))
theorem Vq(D:Dg K mg "laid" (top 27) ["held", "groups"])(B:Bl mg)(O:Has P w K mg base n "check_groups" ["groups"] (spD K jT))(J:Has P w K mg base n "laid_as_they_are" ["held", "groups"] (spD K fL)):Has P w K mg base (n+1) "laid" ["held", "groups"] (spD K u_):=by
 have sc:FnScope ["held", "groups"] ["held", "groups"] (bK (top 27)):=fsc
 exact iD (fl:=[.A,.A]) D sc (by decide) (by decide) λf cdv A outer s H E Z=>bx (S_ (kO (b_ O Z (dq (vP 1) dz))))
  (bH (cP (vD (b_ J Z (dq (vP 0) (dq (vP 1) dz))))))
theorem Es(D:Dg K mg "_law_cell" (top 29) ["_law_script", "_law_at"])(B:Bl mg):Has P w K mg base (n+1) "_law_cell" ["_law_script", "_law_at"] (spD K jq):=by
 have sc:FnScope ["_law_script", "_law_at"] ["_law_script", "_law_at"] (bK (top 29)):=fsc
 exact iD (fl:=[.A,.A]) D sc (by decide) (by decide) λf cdv A outer s H E Z=>bx (iU (gb Jj b_lt (vP 1) (bB (fJ cC jL (by rfl) B.len_ PySem.boot_len (dq (vP 0) dz))) (d7 _)) (bH (cP (dj (dg oK vH (fu (dx (vB 0) (vP 1))) iP)))) (dY))
  (bx (iU (gb (o8 Z.units) yQ (vP 0) (bB (ig dz)) (d7 _)) (bH (cP (dj (dg eE gM (bB (dg oM vG iP (vP 1))) iP)))) (dY))
  (bH (cP (dj (dg eE gM (bB (dg oK vH (fu (dx (vB 0) (bB (dg oK vH (bB (dg oM vG (vP 1) iP)) (bB (fJ cC jL (by rfl) B.len_ PySem.boot_len (dq (vP 0) dz))))))) iP)) (bB (dg oM vG iP (vP 1))))))))
theorem Et(D:Dg K mg "_law_part" (top 30) ["_law_script", "_law_at", "_law_k", "_law_many"])(B:Bl mg)(J:Has P w K mg base n "_law_cell" ["_law_script", "_law_at"] (spD K jq)):Has P w K mg base (n+1) "_law_part" ["_law_script", "_law_at", "_law_k", "_law_many"] (spD K bR):=by
 have sc:FnScope ["_law_script", "_law_at", "_law_k", "_law_many", "_law_number", "_law_j"] ["_law_script", "_law_at", "_law_k", "_law_many"] (bK (top 30)):=fsc
 exact iD (fl:=[.A,.A,.A,.A,.A,.A]) D sc (by decide) (by decide) λf cdv A outer s H E Z=>bx (iU (yS (CV (gb Jj b_lt (vP 1) (bB (fJ cC jL (by rfl) B.len_ PySem.boot_len (dq (vP 0) dz))) (d7 _)) (xZ (gb Zk ag7 (fu (dx (vB 0) (vP 1))) (bB (dg WL ZJ iP iP)) (d7 _))))) (bx (sA (i:=4) sc.nd (dx (vB 0) (vP 1)))
  (bx (lB (L:=[]) PassesOwn.never rfl (jW (by rfl) B.range_ (vK (dq (vP 2) dz))) (gN' (i:=5) sc.nd) (bH (sA (i:=4) sc.nd (fH (dg Jq Vw (vP 4) iP)))))
  (bH (iU (gb Bc K5 (vP 4) iP (d7 _)) (bH (cP (dj (dg oK vH (bB (dg oK vH (vP 4) iP)) (vP 3))))) (dY))))) (dY))
  (bx (sA (i:=4) sc.nd (fH (dg oK vH (bB (dg oM vG (bB (dg eE gM (bB (dg eE gM (kO (b_ J Z (dq (vP 0) (dq (vP 1) dz)))) (bB (dg oM vG iP (vP 1))))) iP)) (bB (dg eE gM iP (bB (dg oM vG iP (vP 2))))))) iP)))
  (bx (sA (i:=4) sc.nd (fH (dg eE gM (bB (dg oK vH (bB (dg oM vG (vP 4) (vP 4))) iP)) iP)))
  (bH (cP (dj (dg oK vH (bB (dg Jq Vw (bB (dg oK vH (bB (dg oM vG (vP 4) (vP 4))) iP)) iP)) (vP 3)))))))
theorem Ax(D:Dg K mg "_law_whole" (top 31) ["_law_found"])(B:Bl mg):Has P w K mg base (n+1) "_law_whole" ["_law_found"] (spD K dw):=by
 have sc:FnScope ["_law_found"] ["_law_found"] (bK (top 31)):=fsc
 exact iD (fl:=[.A]) D sc (by decide) (by decide) λf cdv A outer s H E Z=>bH (cP (dj (uX (bB (o_ (T := "int") (by decide) (vP 0) (by rfl) B.isinstance_ (by rfl) B.int_ PyProof.Rows.boot_int)) (tE (Ob (bB (o_ (T := "bool") (by decide) (vP 0) (by rfl) B.isinstance_ (by rfl) B.bool_ PyProof.Rows.boot_bool)))))))
theorem Ay(D:Dg K mg "_law_apart" (top 32) ["_law_one", "_law_place", "_law_other", "_law_there"])(B:Bl mg):Has P w K mg base (n+1) "_law_apart" ["_law_one", "_law_place", "_law_other", "_law_there"] (spD K dG):=by
 have sc:FnScope ["_law_one", "_law_place", "_law_other", "_law_there"] ["_law_one", "_law_place", "_law_other", "_law_there"] (bK (top 32)):=fsc
 exact iD (fl:=[.A,.A,.A,.A]) D sc (by decide) (by decide) λf cdv A outer s H E Z=>bx (iU (yS (yR (gb nM sY (fu (dx (vB 0) iP)) (fu (dx (vB 2) iP)) (d7 _)) (uY (gb nM sY (fu (dx (vB 2) iP)) (fu (dx (vB 0) iP)) (d7 _))))) (bH (cP (dj (oE)))) (dY))
  (bH (cP (dj (Vy (bB (rM nM sY (bB (dg eE gM (vP 1) (fu (dx (vB 0) iP)))) (vP 3) (d7 _))) (tE (rM nM sY (bB (dg eE gM (vP 3) (fu (dx (vB 2) iP)))) (vP 1) (d7 _)))))))
theorem Eu(D:Dg K mg "_law_sits" (top 33) ["_law_held_here", "_law_groups_here", "_law_places"])(B:Bl mg)(J:Has P w K mg base n "_law_whole" ["_law_found"] (spD K dw))(O:Has P w K mg base n "_law_apart" ["_law_one", "_law_place", "_law_other", "_law_there"] (spD K dG)):Has P w K mg base (n+1) "_law_sits" ["_law_held_here", "_law_groups_here", "_law_places"] (spD K jR):=by
 have sc:FnScope ["_law_held_here", "_law_groups_here", "_law_places", "_law_at", "_law_place", "_law_first", "_law_behind", "_law_size", "_law_k"] ["_law_held_here", "_law_groups_here", "_law_places"] (bK (top 33)):=fsc
 exact iD (fl:=[.A,.A,.A,.A,.A,.A,.A,.A,.A]) D sc (by decide) (by decide) λf cdv A outer s H E Z=>bx (iU (yS (yR (mW (lZ (bB (o_ (T := "list") (by decide) (vP 2) (by rfl) B.isinstance_ (by rfl) B.list_ PyProof.Rows.boot_list)))) (uY (gb (sO Z.units) Fy (bB (fJ cC jL (by rfl) B.len_ PySem.boot_len (dq (vP 2) dz))) (bB (fJ cC jL (by rfl) B.len_ PySem.boot_len (dq (vP 1) dz))) (d7 _))))) (bH (cP (dj (oE)))) (dY))
  (bx (lB (L:=[]) PassesOwn.never rfl (jW (by rfl) B.range_ (vK (dq (bB (fJ cC jL (by rfl) B.len_ PySem.boot_len (dq (vP 1) dz))) dz))) (gN' (i:=3) sc.nd) (bx (sA (i:=4) sc.nd (dx (vB 2) (vP 3)))
  (bx (HX (dx (vB 1) (vP 3)) (sZ rfl (fQ (gN' (i:=5) sc.nd) (fQ (gN' (i:=6) sc.nd) (fQ (gN' (i:=7) sc.nd) (pK))))))
  (bx (iU (yS (yR (mW (lZ (kO (b_ J Z (dq (vP 4) dz))))) (uY (mW (FW nM nM sY sY iP (vP 4) (bB (dg wj Br (bB (fJ cC jL (by rfl) B.len_ PySem.boot_len (dq (vP 0) dz))) (vP 7)))))))) (bH (cP (dj (oE)))) (dY))
  (bH (iU (gb Bc K5 (bB (fJ (K_ rfl) Xi (by rfl) B.max_ PyProof.Rows.boot_max (dq (sX (tH (vB 0) (jf (vP 4)) (jf (bB (dg eE gM (vP 4) (vP 7)))))) dz))) (vP 5) (d7 _)) (bH (cP (dj (oE)))) (dY)))))))
  (bx (lB (L:=[]) PassesOwn.never rfl (jW (by rfl) B.range_ (vK (dq (bB (fJ cC jL (by rfl) B.len_ PySem.boot_len (dq (vP 1) dz))) dz))) (gN' (i:=3) sc.nd) (bH (lB (L:=[]) PassesOwn.never rfl (jW (by rfl) B.range_ (vK (dq (vP 3) dz))) (gN' (i:=8) sc.nd) (bH (iU (mW (lZ (kO (b_ O Z (dq (fu (dx (vB 1) (vP 8))) (dq (fu (dx (vB 2) (vP 8))) (dq (fu (dx (vB 1) (vP 3))) (dq (fu (dx (vB 2) (vP 3))) dz)))))))) (bH (cP (dj (oE)))) (dY))))))
  (bH (cP (dj (oE))))))
theorem Ew(D:Dg K mg "_law_held" (top 34) ["_law_script", "_law_wide"])(B:Bl mg)(J:Has P w K mg base n "_law_part" ["_law_script", "_law_at", "_law_k", "_law_many"] (spD K bR)):Has P w K mg base (n+1) "_law_held" ["_law_script", "_law_wide"] (spD K jP):=by
 have sc:FnScope ["_law_script", "_law_wide", "_law_base", "_law_held_here", "_law_room", "_law_number"] ["_law_script", "_law_wide"] (bK (top 34)):=fsc
 exact iD (fl:=[.A,.A,.A,.O,.A,.A]) D sc (by decide) (by decide) λf cdv A outer s H E Z=>bx (sA (i:=2) sc.nd (nQ (b_ J Z (dq (vP 0) (dq iP (dq iP (dq iP dz)))))))
  (bx (xY (i:=3) rfl sc.nd rfl (by first|exact Or.inl rfl|exact Or.inr rfl) (wA (ig dz)))
  (bx (lB (L:=[]) PassesOwn.never rfl (jW (by rfl) B.range_ (vK (dq (vP 1) dz))) (gN' (i:=4) sc.nd) (bx (sA (i:=5) sc.nd (nQ (b_ J Z (dq (vP 0) (dq iP (dq (vP 4) (dq iP dz)))))))
  (bH (wD (i:=3) rfl (dx (gC (fH (ig (dq iC (dq (jO (dg wj Br (bB (dg eE gM (vP 2) (vP 5))) iP)) dz))))) (bB (Dc (dq (bB (rM Bc K5 (vP 5) iP (d7 _))) dz) (by rfl) B.int_))) rfl))))
  (bH (cP (CN 3 (by decide))))))
theorem Ac(D:Dg K mg "_law_groups" (top 35) ["_law_script", "_law_wide", "_law_many"])(B:Bl mg)(J:Has P w K mg base n "_law_part" ["_law_script", "_law_at", "_law_k", "_law_many"] (spD K bR)):Has P w K mg base (n+1) "_law_groups" ["_law_script", "_law_wide", "_law_many"] (spD K i_):=by
 have sc:FnScope ["_law_script", "_law_wide", "_law_many", "_law_base", "_law_groups_here", "_law_k", "_law_first", "_law_size"] ["_law_script", "_law_wide", "_law_many"] (bK (top 35)):=fsc
 exact iD (fl:=[.A,.A,.A,.A,.O,.A,.A,.A]) D sc (by decide) (by decide) λf cdv A outer s H E Z=>bx (sA (i:=3) sc.nd (nQ (b_ J Z (dq (vP 0) (dq iP (dq iP (dq iP dz)))))))
  (bx (xY (i:=4) rfl sc.nd rfl (by first|exact Or.inl rfl|exact Or.inr rfl) (wA (ig dz)))
  (bx (lB (L:=[]) PassesOwn.never rfl (jW (by rfl) B.range_ (vK (dq (vP 2) dz))) (gN' (i:=5) sc.nd) (bx (sA (i:=6) sc.nd (fH (dg eE gM (vP 3) (kO (b_ J Z (dq (vP 0) (dq (bB (dg eE gM iP (vP 5))) (dq iP (dq iP dz)))))))))
  (bx (sA (i:=7) sc.nd (fH (dg eE gM iP (kO (b_ J Z (dq (vP 0) (dq (bB (dg eE gM iP (vP 5))) (dq iP (dq (vP 1) dz)))))))))
  (bx (iU (gb (o8 Z.units) yQ (kO (b_ J Z (dq (vP 0) (dq (bB (dg eE gM iP (vP 5))) (dq iP (dq iP dz)))))) iP (d7 _)) (bH (sA (i:=7) sc.nd (fH (fJ (KJ rfl) Xg (by rfl) B.min_ PyProof.Rows.boot_min (dq iP (dq (bB (dg eE gM (vP 1) iP)) dz)))))) (dY))
  (bH (wD (i:=4) rfl (tu rfl (dq (vA 6) (dq (fH (dg eE gM (bB (dg eE gM (vP 6) iP)) (kO (b_ J Z (dq (vP 0) (dq (bB (dg eE gM iP (vP 5))) (dq iP (dq iP dz)))))))) (dq (vA 7) dz)))) rfl))))))
  (bH (cP (CN 4 (by decide))))))
theorem Az(D:Dg K mg "_law_turns" (top 36) ["_law_groups_here"])(B:Bl mg):Has P w K mg base (n+1) "_law_turns" ["_law_groups_here"] (spD K mD):=by
 have sc:FnScope ["_law_groups_here"] ["_law_groups_here"] (bK (top 36)):=fsc
 exact iD (fl:=[.A]) D sc (by decide) (by decide) λf cdv A outer s H E Z=>bH (cP (dj (nj (L:=[]) (fl':=[.A,.A]) rfl ["_law_pair"] ["_law_groups_here"] [0] (oN (gC (fH (Oz (dq (bB (nj (L:=[]) (fl':=[.A,.A]) rfl ["_law_at"] ["_law_groups_here"] [0] (jW (by rfl) B.range_ (vK (dq (bB (fJ cC jL (by rfl) B.len_ PySem.boot_len (dq (vP 0) dz))) dz))) (λ_ _ _ _ _=>gN' (i:=0) (show(["_law_at", "_law_groups_here"]:List Str).Nodup by decide +kernel)) (λ_ _ _ _ _=>pL) (λ_ _ _ _ _=>jO (oh (fu (tu rfl (dq (dx (gC (dx (vB 1) (vP 0))) iP) (dq (vA 0) dz)))))))) dz) (by rfl) B.sorted_)))) (λ_ _ _ _ _=>gN' (i:=0) (show(["_law_pair", "_law_groups_here"]:List Str).Nodup by decide +kernel)) (λ_ _ _ _ _=>pL) (λ_ _ _ _ _=>jO (oh (fu (dx (vB 1) (fu (dx (vB 0) iP)))))))))
theorem Ey(D:Dg K mg "_law_next" (top 37) ["_law_rows", "_law_group"])(B:Bl mg):Has P w K mg base (n+1) "_law_next" ["_law_rows", "_law_group"] (spD K iw):=by
 have sc:FnScope ["_law_rows", "_law_group", "_law_first", "_law_behind", "_law_size", "_law_found", "_law_row", "_law_rest", "_law_place", "_law_other"] ["_law_rows", "_law_group"] (bK (top 37)):=fsc
 exact iD (fl:=[.A,.A,.A,.A,.A,.N,.A,.A,.A,.A]) D sc (by decide) (by decide) λf cdv A outer s H E Z=>bx (HX (vA 1) (sZ rfl (fQ (gN' (i:=2) sc.nd) (fQ (gN' (i:=3) sc.nd) (fQ (gN' (i:=4) sc.nd) (pK))))))
  (bx (Jz (i:=5) rfl sc.nd rfl (by first|exact Or.inl rfl|exact Or.inr rfl) (Jy))
  (bx (lB (L:=[]) PassesOwn.never rfl (yX (vB 0)) (gN' (i:=6) sc.nd) (bx (FJ (i:=7) (L:=[]) (fl':=[.A,.A]) rfl sc.nd rfl rfl rfl ["_law_end"] ["_law_first"] [2] (yX (vB 6)) (λ_ _ _ _ _=>gN' (i:=0) (show(["_law_end", "_law_first"]:List Str).Nodup by decide +kernel)) (λ_ _ _ _ _=>pL) (λ_ _ _ _ _=>jO (oh (fu (dx (gC (jg (t_ (dq (vA 0) (dq (fH (CP)) dz))))) (bB (Dc (dq (bB (rM nM sY (vP 0) (vP 1) (d7 _))) dz) (by rfl) B.int_)))))))
  (bH (lB (L:=[]) PassesOwn.never rfl (jW (by rfl) B.range_ (vK (dq (bB (dg eE gM (bB (dg wj Br (bB (fJ cC jL (by rfl) B.len_ PySem.boot_len (dq (vP 6) dz))) (vP 4))) iP)) dz))) (gN' (i:=8) sc.nd) (bH (iU (gb nM sY (bB (fJ (BX rfl) PN (by rfl) B.max_ PyProof.Rows.boot_max (dq (bB (PK (vP 6) (jf (vP 8)) (jf (bB (dg eE gM (vP 8) (vP 4)))))) dz))) (vP 2) (d7 _)) (bx (sA (i:=9) sc.nd (jg (mY (gC (jg (tH (vB 7) nq (jf (vP 8))))) (gC (jg (CW (t_ (dq (vA 3) dz)) (vP 4)))))))
  (bH (XJ.Qh (XK.hu1 Z.units) (i:=5) rfl Vr (fu (Dh (gC (jg (mY (vB 9) (gC (jg (tH (vB 7) (jf (bB (dg eE gM (vP 8) (vP 4)))) nq)))))) (by rfl) B.tuple_)) rfl))) (dY)))))))
  (bH (cP (dj (XJ.vX rfl (dq (Tr 5 rfl) dz) (by rfl) B.sorted_))))))
theorem xT(D:Dg K mg "_law_is_rows" (top 38) ["_law_thing", "_law_wide"])(B:Bl mg)(J:Has P w K mg base n "_law_whole" ["_law_found"] (spD K dw)):Has P w K mg base (n+1) "_law_is_rows" ["_law_thing", "_law_wide"] (spD K jk):=by
 have sc:FnScope ["_law_thing", "_law_wide", "_law_row"] ["_law_thing", "_law_wide"] (bK (top 38)):=fsc
 exact iD (fl:=[.A,.A,.A]) D sc (by decide) (by decide) λf cdv A outer s H E Z=>bx (iU (mW (lZ (bB (o_ (T := "list") (by decide) (vP 0) (by rfl) B.isinstance_ (by rfl) B.list_ PyProof.Rows.boot_list)))) (bH (cP (dj (oE)))) (dY))
  (bx (lB (L:=[]) PassesOwn.never rfl (yX (vB 0)) (gN' (i:=2) sc.nd) (bx (iU (yS (yR (mW (lZ (bB (o_ (T := "tuple") (by decide) (vP 2) (by rfl) B.isinstance_ (by rfl) B.tuple_ PyProof.Rows.boot_tuple)))) (uY (gb (sO Z.units) Fy (bB (fJ cC jL (by rfl) B.len_ PySem.boot_len (dq (vP 2) dz))) (vP 1) (d7 _))))) (bH (cP (dj (oE)))) (dY))
  (bH (iU (gb (sO Z.units) Fy (bB (nj (L:=[]) (fl':=[.A]) rfl ["_law_end"] [] [] (yX (vB 2)) (λ_ _ _ _ _=>gN' (i:=0) (show(["_law_end"]:List Str).Nodup by decide +kernel)) (λ_ _ _ _ _=>xW (mW (lZ (kO (b_ J Z (dq (vP 0) dz)))))) (λ_ _ _ _ _=>jO (oh (vP 0))))) (bB (ig dz)) (d7 _)) (bH (cP (dj (oE)))) (dY)))))
  (bH (cP (dj (oE)))))
theorem Ad(D:Dg K mg "_law_closed" (top 39) ["_law_held_here", "_law_groups_here", "_law_thing"])(B:Bl mg)(O:Has P w K mg base n "_law_turns" ["_law_groups_here"] (spD K mD))(W:Has P w K mg base n "_law_next" ["_law_rows", "_law_group"] (spD K iw))(J:Has P w K mg base n "_law_is_rows" ["_law_thing", "_law_wide"] (spD K jk)):Has P w K mg base (n+1) "_law_closed" ["_law_held_here", "_law_groups_here", "_law_thing"] (spD K jc):=by
 have sc:FnScope ["_law_held_here", "_law_groups_here", "_law_thing", "_law_rows", "_law_listed", "_law_group"] ["_law_held_here", "_law_groups_here", "_law_thing"] (bK (top 39)):=fsc
 exact iD (fl:=[.A,.A,.A,.A,.A,.A]) D sc (by decide) (by decide) λf cdv A outer s H E Z=>bx (iU (yS (yR (mW (lZ (bB (o_ (T := "list") (by decide) (vP 2) (by rfl) B.isinstance_ (by rfl) B.list_ PyProof.Rows.boot_list)))) (uY (mW (FW nM nM sY sY iP (bB (fJ cC jL (by rfl) B.len_ PySem.boot_len (dq (vP 2) dz))) (bB (fJ cC jL (by rfl) B.len_ PySem.boot_len (dq (vP 1) dz)))))))) (bH (cP (dj (oE)))) (dY))
  (bx (iU (gb (sO Z.units) Fy (bB (nj (L:=[]) (fl':=[.A,.A]) rfl ["_law_rows"] ["_law_held_here"] [0] (oN (vB 2)) (λ_ _ _ _ _=>gN' (i:=0) (show(["_law_rows", "_law_held_here"]:List Str).Nodup by decide +kernel)) (λ_ _ _ _ _=>xW (mW (lZ (kO (b_ J Z (dq (vP 0) (dq (bB (fJ cC jL (by rfl) B.len_ PySem.boot_len (dq (vP 1) dz))) dz))))))) (λ_ _ _ _ _=>jO (oh (vP 0))))) (bB (ig dz)) (d7 _)) (bH (cP (dj (oE)))) (dY))
  (bx (sA (i:=3) sc.nd (jg (t_ (dq (Dh (vB 0) (by rfl) B.tuple_) dz))))
  (bx (lB (L:=[]) PassesOwn.never rfl (Xm (L1:=[]) (L2:=[]) (vB 2) (gC (nQ (b_ O Z (dq (vP 1) dz)))) (by rfl) B.zip_) (sZ rfl (fQ (gN' (i:=4) sc.nd) (fQ (gN' (i:=5) sc.nd) (pK)))) (bx (iU (gb (sO Z.units) Fy (bB (nj (L:=[]) (fl':=[.A,.A]) rfl ["_law_row"] ["_law_listed"] [4] (oN (gC (nQ (b_ W Z (dq (vP 3) (dq (vP 5) dz)))))) (λ_ _ _ _ _=>gN' (i:=0) (show(["_law_row", "_law_listed"]:List Str).Nodup by decide +kernel)) (λ_ _ _ _ _=>xW (gb (Ld Z.units) Tz (vP 0) (vP 1) (by with_unfolding_all rfl))) (λ_ _ _ _ _=>jO (oh (vP 0))))) (bB (ig dz)) (d7 _)) (bH (cP (dj (oE)))) (dY))
  (bH (sA (i:=3) sc.nd (vA 4)))))
  (bH (cP (dj (rM (o8 Z.units) yQ (vP 3) (bB (ig dz)) (d7 _))))))))
theorem xU(D:Dg K mg "_law_verdict" (top 40) ["_law_held_here", "_law_groups_here"])(B:Bl mg)(W:Has P w K mg base n "laid" ["held", "groups"] (spD K u_))(O:Has P w K mg base n "_law_sits" ["_law_held_here", "_law_groups_here", "_law_places"] (spD K jR))(J:Has P w K mg base n "_law_closed" ["_law_held_here", "_law_groups_here", "_law_thing"] (spD K jc)):Has P w K mg base (n+1) "_law_verdict" ["_law_held_here", "_law_groups_here"] (spD K bL):=by
 have sc:FnScope ["_law_held_here", "_law_groups_here", "_law_found"] ["_law_held_here", "_law_groups_here"] (bK (top 40)):=fsc
 exact iD (fl:=[.A,.A,.A]) D sc (by decide) (by decide) λf cdv A outer s H E Z=>bx (sA (i:=2) sc.nd (nQ (b_ W Z (dq (sX (Ju (vB 0) (by rfl) B.list_)) (dq (sX (Ju (vB 1) (by rfl) B.list_)) dz)))))
  (bx (iU (yS (yR (mW (lZ (bB (o_ (T := "tuple") (by decide) (vP 2) (by rfl) B.isinstance_ (by rfl) B.tuple_ PyProof.Rows.boot_tuple)))) (uY (gb (sO Z.units) Fy (bB (fJ cC jL (by rfl) B.len_ PySem.boot_len (dq (vP 2) dz))) iP (d7 _))))) (bH (cP (dj (o9)))) (dY))
  (bx (iU (yS (CV (gb (o8 Z.units) yQ (fu (dx (vB 2) iP)) (bB (o9)) (d7 _)) (xZ (lZ (kO (b_ O Z (dq (vP 0) (dq (vP 1) (dq (fu (dx (vB 2) iP)) dz))))))))) (bH (cP (dj (o9)))) (dY))
  (bx (iU (yS (CV (gb (o8 Z.units) yQ (fu (dx (vB 2) iP)) (bB (o9)) (d7 _)) (xZ (lZ (kO (b_ J Z (dq (vP 0) (dq (vP 1) (dq (fu (dx (vB 2) iP)) dz))))))))) (bH (cP (dj (o9)))) (dY))
  (bH (cP (dj (o9)))))))
theorem A_(D:Dg K mg "_law_moved" (top 41) ["_law_held_here", "_law_groups_here", "_law_by"])(B:Bl mg)(J:Has P w K mg base n "_law_verdict" ["_law_held_here", "_law_groups_here"] (spD K bL)):Has P w K mg base (n+1) "_law_moved" ["_law_held_here", "_law_groups_here", "_law_by"] (spD K mF):=by
 have sc:FnScope ["_law_held_here", "_law_groups_here", "_law_by", "_law_ends"] ["_law_held_here", "_law_groups_here", "_law_by"] (bK (top 41)):=fsc
 exact iD (fl:=[.A,.A,.A,.A]) D sc (by decide) (by decide) λf cdv A outer s H E Z=>bx (FJ (i:=3) (L:=[]) (fl':=[.A,.A]) rfl sc.nd rfl rfl rfl ["_law_end"] ["_law_by"] [2] (oN (vB 0)) (λ_ _ _ _ _=>gN' (i:=0) (show(["_law_end", "_law_by"]:List Str).Nodup by decide +kernel)) (λ_ _ _ _ _=>pL) (λ_ _ _ _ _=>jO (dg eE gM (vP 0) (bB (dg oM vG (vP 1) (bB (Dc (dq (bB (rM Bc K5 (vP 0) iP (d7 _))) dz) (by rfl) B.int_)))))))
  (bH (cP (vD (b_ J Z (dq (vP 3) (dq (bB (nj (L:=[]) (fl':=[.A,.A,.A,.A]) rfl ["_law_first", "_law_behind", "_law_size"] ["_law_by"] [2] (oN (vB 1)) (λ_ _ _ _ _=>sZ rfl (fQ (gN' (i:=0) (show(["_law_first", "_law_behind", "_law_size", "_law_by"]:List Str).Nodup by decide +kernel)) (fQ (gN' (i:=1) (show(["_law_first", "_law_behind", "_law_size", "_law_by"]:List Str).Nodup by decide +kernel)) (fQ (gN' (i:=2) (show(["_law_first", "_law_behind", "_law_size", "_law_by"]:List Str).Nodup by decide +kernel)) (pK))))) (λ_ _ _ _ _=>pL) (λ_ _ _ _ _=>jO (oh (fu (tu rfl (dq (fH (dg eE gM (vP 0) (vP 3))) (dq (fH (dg eE gM (vP 1) (vP 3))) (dq (vA 2) dz))))))))) dz))))))
theorem Ba(D:Dg K mg "_law_eased" (top 42) ["_law_script", "_law_held_here", "_law_groups_here"])(B:Bl mg)(O:Has P w K mg base n "_law_part" ["_law_script", "_law_at", "_law_k", "_law_many"] (spD K bR))(J:Has P w K mg base n "_law_verdict" ["_law_held_here", "_law_groups_here"] (spD K bL)):Has P w K mg base (n+1) "_law_eased" ["_law_script", "_law_held_here", "_law_groups_here"] (spD K mG):=by
 have sc:FnScope ["_law_script", "_law_held_here", "_law_groups_here", "_law_at", "_law_room", "_law_first", "_law_behind", "_law_size", "_law_shorter", "_law_sooner", "_law_told"] ["_law_script", "_law_held_here", "_law_groups_here"] (bK (top 42)):=fsc
 exact iD (fl:=[.A,.A,.A,.A,.A,.A,.A,.A,.A,.A,.A]) D sc (by decide) (by decide) λf cdv A outer s H E Z=>bx (sA (i:=3) sc.nd (nQ (b_ O Z (dq (vP 0) (dq iP (dq iP (dq (bB (fJ cC jL (by rfl) B.len_ PySem.boot_len (dq (vP 2) dz))) dz)))))))
  (bx (sA (i:=4) sc.nd (nQ (b_ O Z (dq (vP 0) (dq iP (dq iP (dq (bB (fJ cC jL (by rfl) B.len_ PySem.boot_len (dq (vP 1) dz))) dz)))))))
  (bx (HX (dx (vB 2) (vP 3)) (sZ rfl (fQ (gN' (i:=5) sc.nd) (fQ (gN' (i:=6) sc.nd) (fQ (gN' (i:=7) sc.nd) (pK))))))
  (bx (sA (i:=8) sc.nd (jg (mY (gC (jg (mY (gC (jg (tH (vB 2) nq (jf (vP 3))))) (gC (jg (t_ (dq (tu rfl (dq (vA 5) (dq (fH (fJ (Bd rfl) Od (by rfl) B.max_ PyProof.Rows.boot_max (dq (bB (dg eE gM (vP 5) iP)) (dq (bB (dg wj Br (vP 6) iP)) dz)))) (dq (vA 7) dz)))) dz))))))) (gC (jg (tH (vB 2) (jf (bB (dg eE gM (vP 3) iP))) nq))))))
  (bx (sA (i:=9) sc.nd (jg (mY (gC (jg (mY (gC (jg (tH (vB 1) nq (jf (vP 4))))) (gC (fH (ig (dq (jO (fJ (Bd rfl) Od (by rfl) B.max_ PyProof.Rows.boot_max (dq iP (dq (bB (dg wj Br (fu (dx (vB 1) (vP 4))) iP)) dz)))) dz))))))) (gC (jg (tH (vB 1) (jf (bB (dg eE gM (vP 4) iP))) nq))))))
  (bx (sA (i:=10) sc.nd (fH (ig (dq (b_ J Z (dq (vP 1) (dq (sX (mY (gC (jg (tH (vB 2) nq (jf (vP 3))))) (gC (jg (tH (vB 2) (jf (bB (dg eE gM (vP 3) iP))) nq))))) dz))) (dq (b_ J Z (dq (sX (mY (vB 1) (gC (fH (ig (dq iC dz)))))) (dq (vP 2) dz))) dz)))))
  (bx (sA (i:=10) sc.nd (jg (mY (vB 10) (gC (fH (ig (dq (b_ J Z (dq (sX (mY (gC (fH (ig (dq iC dz)))) (vB 1))) (dq (vP 2) dz))) (dq (b_ J Z (dq (vP 9) (dq (vP 2) dz))) (dq (b_ J Z (dq (vP 1) (dq (vP 8) dz))) dz)))))))))
  (bH (cP (dj (rM (o8 Z.units) yQ (vP 10) (sX (CW (wA (ig (dq (jO (o9)) dz))) iP)) (d7 _)))))))))))
theorem Y7(Fn:FunD K "law" (top 43) f fd)(B:Bl mg)(J:Has P w K mg base n "_law_part" ["_law_script", "_law_at", "_law_k", "_law_many"] (spD K bR))(Z:Has P w K mg base n "_law_held" ["_law_script", "_law_wide"] (spD K jP))(O:Has P w K mg base n "_law_groups" ["_law_script", "_law_wide", "_law_many"] (spD K i_))(D:Has P w K mg base n "_law_verdict" ["_law_held_here", "_law_groups_here"] (spD K bL))(W:Has P w K mg base n "_law_moved" ["_law_held_here", "_law_groups_here", "_law_by"] (spD K mF))(Y:Has P w K mg base n "_law_eased" ["_law_script", "_law_held_here", "_law_groups_here"] (spD K mG)):FnOk P w K mg base CX0 (n+1) f fd ["_law_script"] (spD K QX):=by
 have sc:FnScope ["_law_script", "_law_wide", "_law_held_here", "_law_groups_here", "_law_verdict_here", "_law_turn", "_law_told"] ["_law_script"] (bK (top 43)):=fsc
 exact Og (fl:=[.A,.A,.A,.A,.A,.A,.A]) Fn sc (by decide) (by decide) λf cdv A outer s H E X=>bx (sA (i:=1) sc.nd (fH (dg eE gM iP (kO (b_ J X (dq (vP 0) (dq iP (dq iP (dq iP dz)))))))))
  (bx (sA (i:=2) sc.nd (nQ (b_ Z X (dq (vP 0) (dq (vP 1) dz)))))
  (bx (sA (i:=3) sc.nd (nQ (b_ O X (dq (vP 0) (dq (vP 1) (dq (bB (dg eE gM iP (kO (b_ J X (dq (vP 0) (dq iP (dq iP (dq iP dz)))))))) dz))))))
  (bx (sA (i:=4) sc.nd (nQ (b_ D X (dq (vP 2) (dq (vP 3) dz)))))
  (bx (iU (gb (o8 X.units) yQ (vP 4) (bB (o9)) (d7 _)) (bH (cP (dj (oE)))) (dY))
  (bx (sA (i:=5) sc.nd (nQ (b_ J X (dq (vP 0) (dq iP (dq iP (dq (bB (fJ cC jL (by rfl) B.len_ PySem.boot_len (dq (vP 3) dz))) dz)))))))
  (bx (sA (i:=6) sc.nd (fH (ig (dq (b_ D X (dq (sX (Jw (vB 2) rfl (by rfl) B.list_ (by rfl) B.reversed_)) (dq (vP 3) dz))) (dq (b_ D X (dq (vP 2) (dq (sX (Jw (vB 3) rfl (by rfl) B.list_ (by rfl) B.reversed_)) dz))) dz)))))
  (bx (sA (i:=6) sc.nd (jg (mY (vB 6) (gC (fH (ig (dq (b_ D X (dq (vP 2) (dq (sX (mY (gC (jg (tH (vB 3) (jf (vP 5)) nq))) (gC (jg (tH (vB 3) nq (jf (vP 5))))))) dz))) dz)))))))
  (bx (sA (i:=6) sc.nd (jg (mY (vB 6) (gC (fH (ig (dq (b_ W X (dq (vP 2) (dq (vP 3) (dq (bB (dg eE gM iP (kO (b_ J X (dq (vP 0) (dq iP (dq iP (dq iP dz)))))))) dz)))) dz)))))))
  (bx (iU (gb (sO X.units) Fy (vP 6) (sX (CW (t_ (dq (vA 4) dz)) iP)) (d7 _)) (bH (cP (dj (oE)))) (dY))
  (bH (cP (vD (Vy (bB (rM (o8 X.units) yQ (vP 4) (bB (o9)) (d7 _))) (tE (b_ Y X (dq (vP 0) (dq (vP 2) (dq (vP 3) dz))))))))))))))))))
end
end K78
namespace D3
theorem len0{p:List PySem.Value->Prop}(h:p []):∀us,us.length=0->p us:=λus Z=>by
 cases us with
 |nil=>exact h
 |cons _ _=>cases Z
theorem ae6{p:List PySem.Value->Prop}(h:∀a us,us.length=n->p (a::us)):∀us,us.length=n+1->p us:=λus Z=>by
 cases us with
 |nil=>cases Z
 |cons a r=>exact h a r (vm.inj Z)
end D3
namespace K78
open PySem L2 My D3
structure Txt(K:PySem.W.Frag)(mg:Str->Option Value):Prop where
 d_is_whole:Dg K mg "is_whole" (top 5) ["thing"]
 d_is_whole_within:Dg K mg "is_whole_within" (top 6) ["thing", "least", "most"]
 d_all_whole:Dg K mg "all_whole" (top 7) ["things"]
 d_is_tuple_of:Dg K mg "is_tuple_of" (top 8) ["thing", "many"]
 d_is_pair:Dg K mg "is_pair" (top 9) ["thing"]
 d_is_stretch:Dg K mg "is_stretch" (top 12) ["thing"]
 d_nights_of:Dg K mg "nights_of" (top 13) ["stay"]
 d_is_group:Dg K mg "is_group" (top 17) ["thing"]
 d_check_groups:Dg K mg "check_groups" (top 18) ["groups"]
 d_turns:XL.DgT K mg "turns" (top 19) ["groups"] 128 "turns.<locals>.<lambda>" ⟨41,42,41,72⟩
 d_starts_in:Dg K mg "starts_in" (top 20) ["row", "group"]
 d_night_behind:Dg K mg "night_behind" (top 21) ["since", "group", "is_own"]
 d_row_behind:Dg K mg "row_behind" (top 22) ["row", "group", "start"]
 d_rows_behind:Dg K mg "rows_behind" (top 23) ["rows", "group"]
 d_all_behind:Dg K mg "all_behind" (top 24) ["held", "groups"]
 d_places_by:Dg K mg "places_by" (top 25) ["found", "groups"]
 d_laid_as_they_are:Dg K mg "laid_as_they_are" (top 26) ["held", "groups"]
 d_laid:Dg K mg "laid" (top 27) ["held", "groups"]
 d__law_cell:Dg K mg "_law_cell" (top 29) ["_law_script", "_law_at"]
 d__law_part:Dg K mg "_law_part" (top 30) ["_law_script", "_law_at", "_law_k", "_law_many"]
 d__law_whole:Dg K mg "_law_whole" (top 31) ["_law_found"]
 d__law_apart:Dg K mg "_law_apart" (top 32) ["_law_one", "_law_place", "_law_other", "_law_there"]
 d__law_sits:Dg K mg "_law_sits" (top 33) ["_law_held_here", "_law_groups_here", "_law_places"]
 d__law_held:Dg K mg "_law_held" (top 34) ["_law_script", "_law_wide"]
 d__law_groups:Dg K mg "_law_groups" (top 35) ["_law_script", "_law_wide", "_law_many"]
 d__law_turns:Dg K mg "_law_turns" (top 36) ["_law_groups_here"]
 d__law_next:Dg K mg "_law_next" (top 37) ["_law_rows", "_law_group"]
 d__law_is_rows:Dg K mg "_law_is_rows" (top 38) ["_law_thing", "_law_wide"]
 d__law_closed:Dg K mg "_law_closed" (top 39) ["_law_held_here", "_law_groups_here", "_law_thing"]
 d__law_verdict:Dg K mg "_law_verdict" (top 40) ["_law_held_here", "_law_groups_here"]
 d__law_moved:Dg K mg "_law_moved" (top 41) ["_law_held_here", "_law_groups_here", "_law_by"]
 d__law_eased:Dg K mg "_law_eased" (top 42) ["_law_script", "_law_held_here", "_law_groups_here"]
 d_law:Dl K mg "law" "_law_script" (top 43)
 blt:Bl mg
 c_NIGHTS:∃t,mg "NIGHTS"=some (.int 400 t)
 c_MOST_OF_A_GROUP:∃t,mg "MOST_OF_A_GROUP"=some (.int 6 t)
 c_MOST_ROWS:∃t,mg "MOST_ROWS"=some (.int 400 t)
theorem Y8(T:Txt K mg){f:Addr}{fd:FuncData}(F:FunD K "law" (top 43) f fd):FnOk P w K mg base CX0 65 f fd ["_law_script"] (Oh K):=by
 have U:=Hr (P:=P) (w:=w) (base:=base) (n:=0) T.d_is_whole T.blt
 have z:=Eo (P:=P) (w:=w) (base:=base) (n:=0) T.d_nights_of T.blt
 have s:=RJ (P:=P) (w:=w) (base:=base) (n:=0) T.d_turns T.blt
 have B:=Ep (P:=P) (w:=w) (base:=base) (n:=0) T.d_starts_in T.blt
 have S:=xR (P:=P) (w:=w) (base:=base) (n:=0) T.d_night_behind T.blt
 have t:=Es (P:=P) (w:=w) (base:=base) (n:=0) T.d__law_cell T.blt
 have W:=Ax (P:=P) (w:=w) (base:=base) (n:=0) T.d__law_whole T.blt
 have C:=Ay (P:=P) (w:=w) (base:=base) (n:=0) T.d__law_apart T.blt
 have G:=Az (P:=P) (w:=w) (base:=base) (n:=0) T.d__law_turns T.blt
 have v:=Ey (P:=P) (w:=w) (base:=base) (n:=0) T.d__law_next T.blt
 have V:=vf (P:=P) (w:=w) (base:=base) (n:=1) T.d_is_whole_within T.blt (U.mono (by decide))
 have y:=En (P:=P) (w:=w) (base:=base) (n:=1) T.d_all_whole T.blt (U.mono (by decide))
 have J:=Av (P:=P) (w:=w) (base:=base) (n:=1) T.d_row_behind T.blt (S.mono (by decide))
 have A:=Er (P:=P) (w:=w) (base:=base) (n:=1) T.d_places_by T.blt (s.mono (by decide))
 have Y:=Et (P:=P) (w:=w) (base:=base) (n:=1) T.d__law_part T.blt (t.mono (by decide))
 have x:=Eu (P:=P) (w:=w) (base:=base) (n:=1) T.d__law_sits T.blt (W.mono (by decide)) (C.mono (by decide))
 have Q:=xT (P:=P) (w:=w) (base:=base) (n:=1) T.d__law_is_rows T.blt (W.mono (by decide))
 have N:=Aa (P:=P) (w:=w) (base:=base) (n:=2) T.d_is_tuple_of T.blt (y.mono (by decide))
 have O:=Ab (P:=P) (w:=w) (base:=base) (n:=2) T.d_rows_behind T.blt (B.mono (by decide)) (J.mono (by decide))
 have u:=Ew (P:=P) (w:=w) (base:=base) (n:=2) T.d__law_held T.blt (Y.mono (by decide))
 have M:=Ac (P:=P) (w:=w) (base:=base) (n:=2) T.d__law_groups T.blt (Y.mono (by decide))
 have L:=Ad (P:=P) (w:=w) (base:=base) (n:=2) T.d__law_closed T.blt (G.mono (by decide)) (v.mono (by decide)) (Q.mono (by decide))
 have q:=Je (P:=P) (w:=w) (base:=base) (n:=3) T.d_is_pair T.blt (N.mono (by decide))
 have H:=Aw (P:=P) (w:=w) (base:=base) (n:=3) T.d_all_behind T.blt (s.mono (by decide)) (O.mono (by decide)) T.c_MOST_ROWS
 have I:=Ar (P:=P) (w:=w) (base:=base) (n:=4) T.d_is_stretch T.blt (q.mono (by decide)) T.c_NIGHTS
 have X:=uE (P:=P) (w:=w) (base:=base) (n:=4) T.d_laid_as_they_are T.blt (H.mono (by decide)) (A.mono (by decide))
 have r:=Hs (P:=P) (w:=w) (base:=base) (n:=5) T.d_is_group T.blt (V.mono (by decide)) (I.mono (by decide)) (z.mono (by decide)) T.c_MOST_OF_A_GROUP
 have R:=xQ (P:=P) (w:=w) (base:=base) (n:=6) T.d_check_groups T.blt (r.mono (by decide))
 have p:=Vq (P:=P) (w:=w) (base:=base) (n:=7) T.d_laid T.blt (R.mono (by decide)) (X.mono (by decide))
 have Z:=xU (P:=P) (w:=w) (base:=base) (n:=8) T.d__law_verdict T.blt (p.mono (by decide)) (x.mono (by decide)) (L.mono (by decide))
 have E:=A_ (P:=P) (w:=w) (base:=base) (n:=9) T.d__law_moved T.blt (Z.mono (by decide))
 have D:=Ba (P:=P) (w:=w) (base:=base) (n:=9) T.d__law_eased T.blt (Y.mono (by decide)) (Z.mono (by decide))
 exact((Y7 (P:=P) (w:=w) (base:=base) (n:=10) F T.blt (Y.mono (by decide)) (u.mono (by decide)) (M.mono (by decide)) (Z.mono (by decide)) (E.mono (by decide)) (D.mono (by decide))).mono (by decide)).imp (Tq K78.RG)
end K78
def PySem.W.Fast.tw5029304102300622060:=0
def PySem.W.Fast.tw14898152815319009785:=0
def PySem.W.Fast.tw11516946072733612981:=0
def PySem.W.Fast.tw10142217658594869067:=0
def PySem.W.Fast.tw4048659456832427013:=0
def PySem.W.Fast.tw16289901944488739517:=0
def PySem.W.Fast.tw3616600111941007084:=0
def PySem.W.Fast.tw6354862923670381384:=0
def PySem.W.Fast.tw6450282208306144626:=0
def PySem.W.Fast.tw6516151456725655385:=0
def PySem.W.Fast.tw5000610633580792330:=0
def PySem.W.Fast.tw6768286452453354941:=0
def PySem.W.Fast.tw10597234742303247260:=0
def PySem.W.Fast.tw6378780940360440250:=0
def PySem.W.Fast.tw827428870048188188:=0
def PySem.W.Fast.tw18029792088608066415:=0
def PySem.W.Fast.tw798394599405214673:=0
def PySem.W.Fast.tw2463529490417992946:=0
def PySem.W.Fast.tw4279489678200111850:=0
def PySem.W.Fast.tw3386549355800514208:=0
def PySem.W.Fast.tw9420849534430378868:=0
def PySem.W.Fast.tw5697123171292184268:=0
def PySem.W.Fast.tw14681878524839240727:=0
def PySem.W.Fast.tw11827121658349529579:=0
def PySem.W.Fast.tw16504352118700331656:=0
def PySem.W.Fast.tw9788190348911317251:=0
def PySem.W.Fast.tw2072367723103355344:=0
def PySem.W.Fast.tw14612798047523575847:=0
def PySem.W.Fast.tw17064352374871087660:=0
def PySem.W.Fast.tw4708388917890943978:=0
def PySem.W.Fast.tw15205361878479050688:=0
def PySem.W.Fast.tw17979310482304795749:=0
def PySem.W.Fast.tw10612146714494546771:=0
def PySem.W.Fast.tw429621847681899664:=0
def PySem.W.Fast.tw11028579866339945700:=0
def PySem.W.Fast.tw9006517090068647950:=0
def PySem.W.Fast.tw14468848600250926960:=0
def PySem.W.Fast.tw10754701301264075839:=0
def PySem.W.Fast.tw9998846906074120959:=0
def PySem.W.Fast.tw12862076446545054524:=0
def PySem.W.Fast.tw15408508193885452596:=0
def PySem.W.Fast.tw1145582536482256104:=0
def PySem.W.Fast.tw16823336173710716818:=0
def PySem.W.Fast.tw6260219533335598420:=0
def PySem.W.Fast.tw8276516728267285559:=0
def PySem.W.Fast.tw3110481697463406802:=0
def PySem.W.Fast.tw6579893789848331918:=0
def PySem.W.Fast.tw10770256745957374225:=0
def PySem.W.Fast.tw1313536622010561008:=0
def PySem.W.Fast.tw16238180302887288390:=0
def PySem.W.Fast.tw8346127631162021075:=0
def PySem.W.Fast.tw1395588058190380173:=0
def PySem.W.Fast.tw7048476151414593871:=0
def PySem.W.Fast.tw5666450357455177048:=0
def PySem.W.Fast.tw4398705458904062390:=0
def PySem.W.Fast.tw10467595642910974843:=0
def PySem.W.Fast.tw12192708749340689913:=0
def PySem.W.Fast.tw893208521433197056:=0
def PySem.W.Fast.tw4137784546902603539:=0
def PySem.W.Fast.tw15747339781714945683:=0
def PySem.W.Fast.tw14167924171123520869:=0
def PySem.W.Fast.tw11202118026690874355:=0
def PySem.W.Fast.tw4480589460424388717:=0
def PySem.W.Fast.tw12420170548315509818:=0
def PySem.W.Fast.tw5695555981812854085:=0
def PySem.W.Fast.tw6525028032008680884:=0
def PySem.W.Fast.tw6469015181427382006:=0
def PySem.W.Fast.tw5877957542151723148:=0
def PySem.W.Fast.tw16581606390376271794:=0
def PySem.W.Fast.tw1635626015213761453:=0
def PySem.W.Fast.tw2529577584539175185:=0
def PySem.W.Fast.tw17745595453398751566:=0
def PySem.W.Fast.tw15874614067085137622:=0
def PySem.W.Fast.tw6838821704824493446:=0
def PySem.W.Fast.tw10893552585990026245:=0
def PySem.W.Fast.tw3202443561492046884:=0
def PySem.W.Fast.tw1017681005749974455:=0
def PySem.W.Fast.tw3842258136791049751:=0
def PySem.W.Fast.tw8774716361512357822:=0
def PySem.W.Fast.tw9740050979834798316:=0
def PySem.W.Fast.tw11076770807803202775:=0
def PySem.W.Fast.tw9124846758393573788:=0
def PySem.W.Fast.tw5579117298936464085:=0
def PySem.W.Fast.tw16364186152390126526:=0
def PySem.W.Fast.tw16223915066216151486:=0
open PySem PySem.W PyProof.Rows
set_option maxRecDepth 100000 in
set_option maxHeartbeats 0 in
theorem PySem.Challenge.cw_nightbook_k78_whole_put_otherwise_holds : PySem.Challenge.rw_nightbook_k78_whole_put_otherwise.Holds := by
 w_on;o_law;k_head;(case hw=>w_witness2)
 k_fill
 refine L2.Nt (l:=PySem.Challenge.rw_nightbook_k78_whole_put_otherwise) (n:=63) (k:=65) (x := "_law_script") (CX:=L2.CX0) (sp:=D3.Oh) rfl (by decide) rfl ⟨rfl,by decide,by decide⟩ (λw h Y=>PySem.W.km_in_of Y) ?F D3.tabs (λw h Y=>XL.Uk (c:=132) (PySem.W.km_in_of Y) (PySem.W.km_tabs_of Y _ (aJ)) (by kernel_rfl) (by kernel_rfl)) XL.Qk ?S ?C
 case F=>
  intro w mg fa h Z G X
  have T:K78.Txt (L2.KOf Z) mg:=by
   constructor
   (case blt=>constructor<;>(refine' PySem.W.mg_none_of Z G ?z;(case z=>k_is)))
   all_goals try dsimp only[L2.KOf]
   all_goals first
    | (refine' D3.ZQ Z G ?b ?a ?l ?c ?k;(case a=>k_is);(case l=>k_is);(case c=>k_is);(case k=>k_is);(case b=>intro _ _ _ _ _ _;repeat(first|exact D3.len0 rfl|exact D3.len0 ⟨_,rfl,rfl⟩|refine D3.ae6 λ_=>?_)))
    | (refine' D3.ZR Z G ?b ?a ?l ?c ?k;(case a=>k_is);(case l=>k_is);(case c=>k_is);(case k=>k_is);(case b=>exact λ_ _ _ _ _ _ u=>rfl))
    | (refine' XL.Yb Z G ?b ?a ?l ?c ?k ?h ?t;(case a=>k_is);(case l=>k_is);(case c=>k_is);(case k=>k_is);(case h=>kernel_rfl);(case t=>exact aJ);(case b=>intro _ _ _ _ _ _;repeat(first|exact D3.len0 rfl|exact D3.len0 ⟨_,rfl,rfl⟩|refine D3.ae6 λ_=>?_)))
    | (exact⟨_,PySem.W.mg_of Z G rfl⟩)
  obtain⟨f,fd,F,b,m⟩:=T.d_law.ex
  have Q:=X.symm.trans m
  cases Q
  exact⟨fd,b,λbase P nb=>K78.Y8 T F⟩
 case S=>exact λK H a ns V R U=>⟨a,ns,R,rfl,U,V,λ_=>rfl⟩
 case C=>exact λ_ _ _ _ z=>z
