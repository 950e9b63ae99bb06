import PyProof.Rows.All
import Wide.All
import OpenK.AllK
import Wide.FinOn
import Lean
import PyProof.EqAt
import PyProof.EqKinds
import PyProof.TupleCall
import PyProof.EqLayable
import KE.KSortTup
import PyProof.AttrMissHeap
import KE.KDictOf
import KE.KDictSum
import PyProof.Rows.SortWalk
import PyProof.NeKinds
import PyProof.DictWalks
import KE.KMinBuiltin
import PyProof.DictRoadsH
import Wide.Seal
import KE.KDictLaws
import PyProof.Rows.SortRuns
import PyProof.Rows.SortShell
import KE.KDictSum
import KE.KDictLaws
import PyProof.DictFindH
import PyProof.DictRoadsH
import PyProof.WalksMore
import PyProof.Draws
import PyProof.EnumMake
import PyProof.TupleIter
import KE.KLam
import KE.KNestM
import PyProof.ListRange
import PySem.Challenge.RW_nightbook_k73_lists_step_by_step
set_option Elab.async false
set_option linter.all false
set_option maxRecDepth 100000
set_option maxHeartbeats 4000000
set_option exponentiation.threshold 40000
set_option genSizeOf false
set_option genSizeOfSpec false
set_option genInjectivity false
set_option bootstrap.genMatcherCode false
noncomputable section
open PySem renaming wpAny_bind->aa,wpAny_pure->ae,wpAny_holding->ap,wpAny_call_entry->ar,wpAny_callSpecial?_slot->av,wpAny_truthy_bool->aw,wpAny_newObj_type->ax,wpAny_Call_Name_kw->ay,wpAny_field->aT,wpAny_mono->a5,wpAny_typeNameOfWhole_keyiter->a8,wpAny_rule->a9,tupleKind_room_in1->ba,wpAny_typeNameOf_keyiter->bo,codeAny_builtin->bq,wpAny_dictEntries->br,wpAny_seqItems->bt,wpAny_newList->bv,wpAny_attempt->bz,wpAny_passesOwn->bS,wpAny_typeOf->b6,wpAny_pyIter_tuple->b7,wpAny_pyIter_enum->b9,plainId_quiet->cf,wpAny_eqBool_int->ck,wpAny_nextOf_list_item->cn,wpAny_updateSeq->cv,wpAny_notOrdered_dict->cw,wpAny_isOneOf_keyiter->cy,builtinLookup_eq_fast->cE,wpAny_setField->c7,wpAny_fieldsOf->c8,sizeLine_eq->da,wpAny_standAt->df,wpAny_pyIter_list->dt,wpAny_Name->du,call_meets->dv,seqIndex_neg->dE,codeAny_mono->dQ,wpAny_pyIter_zip->d0,wpAny_isInstance->d4,wpAny_specialOf->ef,wpAny_execs_nil->eg,wpAny_dictEpoch->eh,typeLookup_type->en,seqIndex_of->er,wpAny_letOwnedTupleGo_enum->eD,wpAny_newTuple->eI,isSubtype_stop->eK
open PySem.Heap renaming get?_push_of_some->ad,lt_size->af,get?_push_size->ag,get?_update_self->az,size_update->aI,get?_update_other->a4,get?_update_ne->bu,get?_push_ne->b5,get?_push_cases->cm,size_push->cq,get?_none_of_le->eP
open PyProof.Rows renaming wpS_bind->ai,wpS_pure->am,wpS_forRange->aS,wpS_mono->bj,wpS_modify->bE,wpS_get->ce,entry_list_sort->cz,size_push'->cK,slot_list_sort->c_,getElem?_mirror_all->db,wpS_lift->de,listUpdate_at->di,Subscript_->dy,plain_sorted->dL,entry_sorted->dP,wpS_reverse->ee,seqEpoch_at->ew,kind_sorted->eA,getElem?_bubble->eB,get?_update_seq->eC,sortedHeap_old->eJ,args_list_sort->eL
open PySem.W renaming kas_descPart->aE,kas_desc->a7,kas_place->bg,kas_rev->bn,kas_tail3->ca,kas_count->cb,kas_asc->ci,kas_sort->cS
open PySem.Around renaming under_plainId->a6
open PySem.F renaming slot_dict_keyiterator_next->a_,slot_tuple_iterator_next->be,slot_zip_next->cr,plain_extend_loop->c0,args_dict_keyiterator_next_1->dk,entry_dict_keyiterator_next->dA,args_tuple_iterator_next_1->dS,entry_tuple_iterator_next->d7
open PySem.Calls renaming call_function_entry->bb,spliced_cons->bi,spliced_nil->bX,callWith_builtin->b8,Name_function_global->dm,evalArgs_plain->eH
open PySem.SeqAt renaming canLay_of_shaped->bp
open PySem.Obj renaming data_mapFields->bP,isFreed_of_fields->eM,data_mapDictKeys->eQ
open List renaming mem_cons_self->ak,length_map->aq,mem_cons_of_mem->au,getElem?_eq_getElem->aA,map_cons->aF,getD_eq_getElem?_getD->aG,pairwise_append->aH,mem_singleton->aJ,mem_cons->aK,append_assoc->aL,size_toArray->aM,replicate->aO,range->aQ,length_cons->aR,getElem?_map->aU,getElem?_eq_none->aZ,mem_range->bf,mem_append_right->bx,length_append->bB,getElem?_set_ne->bD,length_replicate->bI,pairwise_cons->bJ,mem_map->bK,length_eq_zero_iff->bL,mem_append_left->bN,getElem?_append_right->bR,length_range->bV,mem_append->bZ,nodup_cons->b_,getElem?_append_left->cj,append_nil->cA,replicate_succ->cL,length_take->cP,all_eq_true->cQ,not_mem_nil->cR,nil_append->cT,getElem_mem->cV,map_append->cW,map_map->cZ,length_set->dg,pairwise_iff_getElem->dj,getElem?_set_self->dw,mem_filter->dG,lookup_cons->dI,getElem?_range->dJ,ext_getElem?->dN,getElem?_drop->dW,drop_zero->dY,take_of_length_le->eN,map_congr_left->eO,getElem?_replicate->eZ,getElem?_of_mem->fu,getElem?_mapIdx->fB,flatten_cons->fJ,drop_eq_nil_of_le->fK,mem_map_of_mem->fU,getElem?_eq_some_iff->fW,take_append_drop->fX,perm_append_comm->fY,length_drop->fZ,mem_of_getElem?->gw,nodup_append->gG,pairwise_singleton->gH,pairwise_map->gM,count_append->gO,foldl_cons->gP,mem_of_find?_eq_some->ig,drop_eq_getElem_cons->iu,exists_mem_of_ne_nil->iw,length_nil->iz,map_nil->iB,getElem_of_mem->iW,mem_singleton_self->iZ,getElem_map->i_,filter_cons_of_pos->jc,find?_eq_none->jr,toArray->ju,length_singleton->jG,reverse_cons->jJ,filter_cons->jX,length_pos_iff->j8,getElem?_take_of_lt->kj,map->kE,sum_cons->kI,mem_filterMap->kW,filter_append->kZ,range'->lE,filter_cons_of_neg->lF,drop_drop->lQ,take_zero->lR,filter_eq_nil_iff->lU,eraseIdx_eq_take_drop_succ->mF,any_cons->mX,length->m8,mem_of_mem_take->m_,of_mem_zip->nF,filterMap_cons->nR,zip_cons_cons->oJ,getElem?_set->oZ,getElem_drop->o8,length_erase_of_mem->pI,length_eq_one_iff->qy,drop_of_length_le->qz,find?_some->rJ,forIn_cons->rK,length_filter_le->rQ,mem_iff_getElem?->rR,mem_of_mem_drop->rY,perm_cons_erase->rZ,length_reverse->tZ,filter_eq_self->t_,perm_nil->ug,map_take->uh,map_drop->um,length_range'->uD,getElem_range->uE,getElem?_take->uF,filter_filter->uG,countP_append->uH,map_inj_right->uI,getElem_take->uY,take_add_one->u9,foldl_append->vd,lookup->xq,map_id->xr
open Nat renaming le_refl->aB,reduceAdd->aD,ne_of_lt->aP,le_trans->aW,reduceLT->bC,lt_of_lt_of_le->bQ,lt_of_succ_lt->cD,le_of_lt->cG,zero_le->cH,lt_or_ge->dM,lt_irrefl->eF,zero_add->eX,lt_succ_self->fD,lt_succ_of_lt->gF,lt_of_le_of_lt->kY,le_succ->lD,ne_of_gt->lM,lt_trans->lN,add_zero->lO,not_lt->mK,le_add_right->mL,le_of_eq->nW,sub_zero->nY,min_le_right->pQ,add_sub_cancel_left->pU,succ_le_succ->pW,add_assoc->uf,lt_of_le_of_ne->uy,eq_zero_or_pos->uz,le_succ_of_le->uZ,succ->yJ
open Int renaming toNat_natCast->fL,le_refl->fV,le_trans->jt,zero_add->jW,emod_lt_of_pos->oK,sub_zero->qx,reduceLT->qH,le_antisymm->rM,emod_nonneg->rN,le_of_lt->u_
open Option renaming bind_some->aC,some->cO,map_some->jC,bind_eq_some_iff->pR,isSome_map->uX
open Bool renaming and_eq_true->aV,false_ne_true->aX,false_eq_true->f9,not_eq_true'->gJ,true_and->mY,and_eq_true_iff->nj,or_eq_true->nG,not_eq_false'->oH
open Array renaming length_toList->aY,getElem?_toList->bW,toList_append->cF,perm_iff_toList_perm->dX,getElem?_eq_none->fM,getD_eq_getD_getElem?->gY,getElem?_eq_getElem->jZ,toList_reverse->m9,toList_push->o7,size_setIfInBounds->pH,toList_inj->pX,forIn_toList->ux
open And renaming intro->eR
open PySem renaming Shared->eS,Program->e9,Around->fm,World->fy,Heap->f8,FuncData->gk,IsPair->gX,Stmt->hI,Builtin->hJ,Scope->hV,Keyword->h8,ZipApart->ip,Arguments->iq
open PySem.PyData renaming int->eT,tuple->e_,canLay0->ff,canLayAll0->f_,bool->ge,eqv->gi,depthAll->hF,depth->hH,list->hU,eqvAll->ii
open PySem.Value renaming ref->eW,none->fS,bool->gq,type->hP,int->hX
open Sum renaming inl->fo
open PySem.PassesOwn renaming never->fq
open PyProof.Rows renaming callWith_type1->fw,SortSt->fE,slot_tuple_getitem->gg,boot_list->gl,IntsAre->gS,IsTup->g9,boot_max->hG,boot_tuple->hW,AllBare->ik,boot_bool->ir
open Ne renaming symm->fA
open Or renaming inr->fF,inl->f7
open PySem.Obj renaming mapSeq->fI
open PySem.SeqAt renaming shaped->fN
open PySem.NameKind renaming free->fR,cell->gT
open PySem.Str renaming ofString->f6
open List.Perm renaming append_left->gc,append_right->gr,trans->gu,cons_inv->ie
open True renaming intro->gd
open ForInStep renaming yield->gf
open PySem.Heap renaming SameBut->gm
open PySem.Builtin.Slice renaming slicePlaces->gv,sliceAdjust->hO
open PySem.Heap.SameBut renaming update->gx
open List.Pairwise renaming imp_of_mem->gy
open PySem.Builtin.Tuple renaming tupleExact->gz,tupleItemsOf->ij
open PySem.Builtin.Range renaming rangeSize->gE,small->h7
open False renaming elim->gL
open Classical renaming propDecidable->g0
open Array.Perm renaming refl->hZ
open PySem.Builtin.Dict_items renaming ownsTuple->h9
open PySem.Builtin.SmallTypes renaming nextOf->ic
open PySem.Builtin.List renaming listTooLong->im,listSameRef->io
open List.Sublist renaming cons_cons->iv
open PySem PySem.Spec PyProof.Rows
theorem dTr{p:Prop}[Decidable p](h:p):decide p=true:=decide_eq_true h
theorem dFa{p:Prop}[Decidable p](h:¬p):decide p=false:=decide_eq_false h
theorem lMp{α β:Type}{f:α->β}{l:List α}:(l.map f).length=l.length:=aq f

namespace L2
abbrev Key:=Sum Int Str
noncomputable def yK:Key->Value->Bool
 | .inl k,v=>Value.isInt k v
 | .inr x,v=>Value.isStrOf x v
def ai8(w:fy):Key->Int
 | .inl k=>hashInt k
 | .inr x=>hashStr w x
theorem iD:∀{k:Key}{v:Value},yK k v=true->(∃i t,k=fo i/\v=hX i t)\/(∃x t,k=Sum.inr x/\v=Value.str x t)
 | .inl i,v,h=>by
  obtain⟨t,e⟩:=Value.isInt_shape (k:=i) (v:=v) h;exact .inl ⟨i,t,rfl,e⟩
 | .inr x,v,h=>by
  obtain⟨t,e⟩:=Value.isStrOf_shape (x:=x) (v:=v) h;exact .inr ⟨x,t,rfl,e⟩
theorem Lq(i:Int)(t:Tok):yK (.inl i) (.int i t)=true:=by simp[yK,Value.isInt]
theorem Lr(x:Str)(t:Tok):yK (.inr x) (.str x t)=true:=by simp[yK,Value.isStrOf]
theorem W9(a b:Int):decide ((fo a:Key)=fo b)=(a==b):=by
 by_cases e:a=b
 ·subst e;simp
 ·have h:¬(fo a:Key)=fo b:=λq=>e (Sum.inl.inj q)
  rw[dFa h];exact(beq_eq_false_iff_ne.mpr e).symm
theorem W_(a b:Str):decide ((Sum.inr a:Key)=Sum.inr b)=decide (a=b):=by
 by_cases e:a=b
 ·subst e;simp
 ·have h:¬(Sum.inr a:Key)=Sum.inr b:=λq=>e (Sum.inr.inj q)
  rw[dFa h,dFa e]
theorem Xa(a:Int)(b:Str):decide ((fo a:Key)=Sum.inr b)=false:=dFa (λq=>nomatch q)
theorem Xb(a:Str)(b:Int):decide ((Sum.inr a:Key)=fo b)=false:=dFa (λq=>nomatch q)
def cX(prog:e9)(w:fy):PySem.KeyKind prog w Key where
 is:=yK
 hash:=ai8 w
 inj:=λv a b ha X=>by
  rcases iD ha with⟨i,t,rfl,rfl⟩|⟨x,t,rfl,rfl⟩
  ·rcases iD X with⟨j,u,rfl,e⟩|⟨y,u,rfl,e⟩
   ·injection e with Z _;rw[Z]
   ·exact nomatch e
  ·rcases iD X with⟨j,u,rfl,e⟩|⟨y,u,rfl,e⟩
   ·exact nomatch e
   ·injection e with Z _;rw[Z]
 byValue:=λk v h=>by
  rcases iD h with⟨i,t,rfl,rfl⟩|⟨x,t,rfl,rfl⟩<;>rfl
 pyHash:=λY h=>by
  rcases iD Y with⟨i,t,rfl,rfl⟩|⟨x,t,rfl,rfl⟩
  ·exact wpAny_pyHash_int h
  ·exact wpAny_pyHash_str h
 eqBool:=λhu Y h=>by
  rcases iD hu with⟨i,t,rfl,rfl⟩|⟨x,t,rfl,rfl⟩
  ·rcases iD Y with⟨j,u,rfl,rfl⟩|⟨y,u,rfl,rfl⟩
   ·rw[W9]at h;exact ck h
   ·rw[Xa]at h;exact SeqAt.EqAt.int_str i t y u _ _ _ _ h
  ·rcases iD Y with⟨j,u,rfl,rfl⟩|⟨y,u,rfl,rfl⟩
   ·rw[Xb]at h;exact SeqAt.EqAt.str_int x t j u _ _ _ _ h
   ·rw[W_]at h;exact wpAny_eqBool_str h
 «strs»:=λk x t v h=>by
  rcases iD h with⟨i,u,rfl,e⟩|⟨y,u,rfl,e⟩
  ·exact nomatch e
  ·injection e with Z _
   subst Z
   cases v<;>rfl
theorem HX(prog:e9)(w:fy)(k:Key)(v:Value):(cX prog w).is k v=yK k v:=rfl
theorem Et(prog:e9)(w:fy)(i:Int)(t:Tok):(cX prog w).is (.inl i) (.int i t)=true:=Lq i t
theorem Eu(prog:e9)(w:fy)(x:Str)(t:Tok):(cX prog w).is (.inr x) (.str x t)=true:=Lr x t
end L2
variable{us:List Value}{a b:Addr}{P:e9}{w:fy}{h:f8}
namespace L2
inductive V where
 |non|bl (b:Bool)|int (i:Int)|str (x:Str)|byt (b:Array UInt8)|flt (b:UInt64)|ref (a:Addr)|ty (n:String)
 deriving DecidableEq
def RelV:V->Value->Prop
 | .non,u=>u=fS
 | .bl b,u=>u=gq b
 | .int i,u=>∃t,u=hX i t
 | .str x,u=>∃t,u=Value.str x t
 | .byt b,u=>∃t,u=Value.bytes b t
 | .flt b,u=>∃t,u=Value.float b t
 | .ref a,u=>u=eW a
 | .ty n,u=>u=hP n
abbrev Vals:List V->List Value->Prop:=Paired RelV
theorem Vals.length{xs:List V}(r:Vals xs us):xs.length=us.length:=Paired.length r
theorem Vals.get:∀{xs:List V}{us:List Value}{i:Nat}{x:V},Vals xs us->xs[i]? = some x->∃u,us[i]? = some u/\RelV x u
 |_,_,_,_,.nil,e=>by simp at e
 |_,_,0,_,.cons r _,e=>by simp at e;subst e;exact⟨_,rfl,r⟩
 |_,_,i+1,x,.cons _ t,e=>by
  obtain⟨u,h1,h2⟩:=Vals.get (i:=i) (x:=x) t (by simpa using e);exact⟨u,by simpa using h1,h2⟩
theorem Vals.set{x:V}{u:Value}(r:RelV x u):∀{xs:List V}{us:List Value}(i:Nat),Vals xs us->Vals (xs.set i x) (us.set i u)
 |_,_,_,.nil=>.nil
 |_,_,0,.cons _ t=>.cons r t
 |_,_,i+1,.cons q t=>.cons q (Vals.set r i t)
theorem Vals.append:∀{xs ys:List V}{us ws:List Value},Vals xs us->Vals ys ws->Vals (xs++ys) (us++ws)
 |_,_,_,_,.nil,s=>s
 |_,_,_,_,.cons r t,s=>.cons r (Vals.append t s)
theorem Vals.take:∀{xs:List V}{us:List Value}(n:Nat),Vals xs us->Vals (xs.take n) (us.take n)
 |_,_,0,_=>.nil
 |_,_,_+1,.nil=>.nil
 |_,_,n+1,.cons r t=>.cons r (Vals.take n t)
theorem Vals.drop:∀{xs:List V}{us:List Value}(n:Nat),Vals xs us->Vals (xs.drop n) (us.drop n)
 |_,_,0,r=>r
 |_,_,_+1,.nil=>.nil
 |_,_,n+1,.cons _ t=>Vals.drop n t
def wj:Option V->Option Value->Prop
 |some v,some u=>RelV v u
 |none,none=>True
 |_,_=>False
def KV{κ:Type}:List (κ×V)->List (κ×Value)->Prop:=Paired λ(p:κ×V)(q:κ×Value)=>p.1=q.1/\RelV p.2 q.2
noncomputable def kV:Key->V
 | .inl i=>.int i
 | .inr x=>.str x
inductive HO where
 |lst (xs:List V)
 |tup (xs:List V)
 |dK (kvs:List (Key×V))|dT (kvs:List (List Key×V))
 |set (S:Int->Bool) (n:Nat)
 |ins (C dx:Addr) (fs:List (Str×V))
 |own (x:Addr)
 |xd (fs:List (Str×V))
 |met (f x:Addr)
 |rng (lo hi:Int)
 |frz (o:Obj) (u:HO)
 |tbl (q:Str) (p:Pos)
 |ext (φ:f8->Prop)
noncomputable abbrev Hp:=Addr->Option HO
noncomputable def upd(H:Hp)(a:Addr)(o:HO):Hp:=λb=>if b=a then some o else H b
theorem bT{H:Hp}{o:HO}:upd H a o a=some o:=by unfold upd;rw[if_pos rfl]
theorem bF{H:Hp}{o:HO}(h:b≠a):upd H a o b=H b:=by unfold upd;rw[if_neg h]
theorem JK{H:Hp}{o u:HO}:upd (upd H a o) a u=upd H a u:=by
 funext b;unfold upd;split<;>rfl
theorem iR{H:Hp}{o u:HO}(h:H a=some o)(h':H b=some u)(d:o≠u):a≠b:=by
 intro e;subst e;rw[h]at h';exact d (cO.inj h')
theorem jw{H:Hp}{o:HO}(h:H a=some o)(h':H b=none):a≠b:=by
 intro e;subst e;rw[h]at h';cases h'
section
variable(P:e9)(w:fy)
def gA(H:Hp)(h:f8)(a:Addr):HO->Prop
 | .lst xs=>xs.length<=sizeLine/\∃(its:List Value)(n:Nat),Vals xs its/\h.get? a=some {cls:=.type "list", data:=.seq its.toArray n}
 | .tup xs=>xs.length<=sizeLine/\∃its:List Value,Vals xs its/\g9 h a its.toArray
 | .dK kvs=>kvs.length<=sizeLine/\(a==sysModules)=false/\∃vs,KV kvs vs/\h.DictOf (cX P w) a vs
 | .dT kvs=>kvs.length<=sizeLine/\(a==sysModules)=false/\∃xs:List (List Key×Addr×Value),
  Paired (λ(p:List Key×V)(q:List Key×Addr×Value)=>p.1=q.1/\H q.2.1=some (.tup (p.1.map kV))/\RelV p.2 q.2.2) kvs xs /\
  ∃o es ep,h.get? a=some o/\o.ExactDict/\o.data = .dict es ep/\es.toList=xs.map (entryOfKey (tupleKind (cX P w)))/\(xs.map (·.1)).Nodup
 | .set S n=>h.SetOf (intKind P w) a S n
 | .ins C dx fs=>H dx=some (.own a)/\fs.length<=1000/\dx≠a/\h.get? a=some (PySem.W.instObj C dx) /\
  ∃mA,h.Ns1 dx mA/\(∀f,wj (fs.lookup f) (mA f))/\PySem.Within mA (fs.map (·.1))
 | .own _=>∃o,h.get? a=some o
 | .xd fs=>∃mA,h.Ns1 a mA/\∀f,wj (fs.lookup f) (mA f)
 | .rng lo hi=>∃t u v,h.get? a=some {cls:=.type "range", data:=.fields #[.int lo t,.int hi u,.int 1 v]}
 | .frz o u=>h.get? a=some o/\gA H h a u
 | .tbl q p=>∃ps,h.get? a=some {cls:=.none,data:=.fields ps}/\(ps = #[]\/∃c',ps = #[rawInt p.line,rawInt p.col,.ref c']/\H c'=some (.own a)/\h.CodeRec (.ref c') q)
 | .met f x=>h.get? a=some (PySem.W.methodObj (.ref f) (.ref x))
 | .ext φ=>φ h/\(∃o,h.get? a=some o)/\∀h1 h2:f8,φ h1->(∀o,h1.get? a=some o->h2.get? a=some o)->φ h2
def HOk(H:Hp)(h:f8):Prop:=∀a o,H a=some o->gA P w H h a o
end
section
variable{P:e9}{w:fy}{H H':Hp}{h h':f8}{a:Addr}{o:HO}
theorem gA.lt(x:gA P w H h a o):a<h.objs.size:=by
 cases o with
 |lst xs=>obtain⟨_,_,_,_,e⟩:=x;exact af e
 |tup xs=>obtain⟨_,_,_,p⟩:=x;exact p.lt
 |dK kvs=>obtain⟨_,_,_,_,o,_,_,e,_⟩:=x;exact af e
 |dT kvs=>obtain⟨_,_,_,_,o,_,_,e,_⟩:=x;exact af e
 |set S n=>obtain⟨o,_,_,_,e,_⟩:=x;exact af e
 |ins C dx fs=>obtain⟨_,_,_,e,_⟩:=x;exact af e
 |own y=>obtain⟨_,e⟩:=x;exact af e
 |xd fs=>obtain⟨_,⟨_,_,_,e,_⟩,_⟩:=x;exact af e
 |rng lo hi=>obtain⟨_,_,_,e⟩:=x;exact af e
 |frz Z u=>obtain⟨e,_⟩:=x;exact af e
 |tbl q p=>obtain⟨_,e,_⟩:=x;exact af e
 |met f y=>exact af (show h.get? a=some _ from x)
 |ext φ=>obtain⟨_,⟨_,e⟩,_⟩:=x;exact af e
theorem Paired.mapP{α β:Type}{F G:α->β->Prop}:∀{l₁:List α}{l₂:List β},Paired F l₁ l₂->(∀a b,F a b->G a b)->Paired G l₁ l₂
 |_,_,.nil,_=>.nil
 |_,_,.cons r t,f=>.cons (f _ _ r) (Paired.mapP t f)
theorem gA.stay(x:gA P w H h a o)(k:∀b u,(b=a\/H b=some (.own a))->h.get? b=some u->h'.get? b=some u)
 (B:∀b,H b=some (.own a)->H' b=some (.own a)) (D:∀b xs,H b=some (.tup xs)->H' b=some (.tup xs)):gA P w H' h' a o:=by
 induction o with
 |lst xs=>obtain⟨z,its,n,r,e⟩:=x;exact⟨z,its,n,r,k _ _ (.inl rfl) e⟩
 |tup xs=>obtain⟨z,its,r,Z,e,c⟩:=x;exact⟨z,its,r,Z,k _ _ (.inl rfl) e,c⟩
 |dK kvs=>obtain⟨z,y,vs,r,Z,es,ep,e,c⟩:=x;exact⟨z,y,vs,r,Z,es,ep,k _ _ (.inl rfl) e,c⟩
 |dT kvs=>
  obtain⟨z,y,xs,r,Z,es,ep,e,c⟩:=x;exact⟨z,y,xs,Paired.mapP r λp q z=>⟨z.1,D _ _ z.2.1,z.2.2⟩,Z,es,ep,k _ _ (.inl rfl) e,c⟩
 |set S n=>obtain⟨Z,es,ep,t,e,c⟩:=x;exact⟨Z,es,ep,t,k _ _ (.inl rfl) e,c⟩
 |ins C dx fs=>
  obtain⟨d,z,ne,e,mA,⟨od,es,ep,e2,c⟩,r⟩:=x;exact⟨B _ d,z,ne,k _ _ (.inl rfl) e,mA,⟨od,es,ep,k _ _ (.inr d) e2,c⟩,r⟩
 |own y=>obtain⟨Z,e⟩:=x;exact⟨Z,k _ _ (.inl rfl) e⟩
 |xd fs=>obtain⟨mA,⟨od,es,ep,e,c⟩,r⟩:=x;exact⟨mA,⟨od,es,ep,k _ _ (.inl rfl) e,c⟩,r⟩
 |rng lo hi=>obtain⟨t,u,v,e⟩:=x;exact⟨t,u,v,k _ _ (.inl rfl) e⟩
 |frz Z u R=>obtain⟨e,q⟩:=x;exact⟨k _ _ (.inl rfl) e,R q⟩
 |tbl q p=>
  obtain⟨ps,e,z⟩:=x;refine⟨ps,k a _ (.inl rfl) e,?_⟩;rcases z with z|⟨c',z1,z2,U⟩
  ·exact .inl z
  ·obtain⟨c,oc,vs,T,V,Y,X,Q⟩:=U;have W:c'=c:=by injection V
   exact .inr ⟨c',z1,B _ z2,c,oc,vs,T,V,k _ _ (.inr (W▸z2)) Y,X,Q⟩
 |met f y=>
  have e:=x;exact k a _ (.inl rfl) e
 |ext φ=>obtain⟨p,⟨o,e⟩,st⟩:=x;exact⟨st _ _ p λo q=>k _ _ (.inl rfl) q,⟨o,k _ _ (.inl rfl) e⟩,st⟩
theorem HOk.lt(x:HOk P w H h)(e:H a=some o):a<h.objs.size:=(x a o e).lt
theorem HOk.fresh(x:HOk P w H h)(e:h.objs.size<=a):H a=none:=by
 cases q:H a with
 |none=>rfl
 |some u=>exact absurd (bQ (x.lt q) e) (eF _)
theorem HOk.kept(x:HOk P w H h)(k:∀b u,h.get? b=some u->h'.get? b=some u):HOk P w H h':=λa o e=>
 (x a o e).stay (λb u _ q=>k b u q) (λ_ q=>q) λ_ _ q=>q
theorem HOk.laid(x:HOk P w H h)(k:∀b u,h.get? b=some u->h'.get? b=some u)(D:h.objs.size<=a)(B:gA P w (upd H a o) h' a o):HOk P w (upd H a o) h':=λb u e=>by
 have hn:=x.fresh D;by_cases Z:b=a
 ·subst Z;rw[bT]at e;cases e;exact B
 ·rw[bF Z]at e;exact(x b u e).stay (λc v _ q=>k c v q) (λc q=>by rwa[bF (jw q hn)]) λc xs q=>by rwa[bF (jw q hn)]
end
def Rd(H:Hp)(a:Addr)(u:HO):Prop:=H a=some u\/∃o,H a=some (.frz o u)
theorem Rd.ok{H:Hp}{u:HO}(r:Rd H a u)(x:HOk P w H h):gA P w H h a u:=by
 rcases r with r|⟨o,r⟩
 ·exact x a u r
 ·obtain⟨_,q⟩:=x a _ r;exact q
def Mut:Option HO->Prop
 |some (.lst _)=>True
 |some (.dK _)=>True
 |some (.dT _)=>True
 |some (.set _ _)=>True
 |some (.ins _ _ _)=>True
 |some (.ext _)=>True
 |_=>False
section
variable{P:e9}{w:fy}{H:Hp}{h h':f8}{x e:Addr}{o':HO}
theorem HOk.write(ok:HOk P w H h)(B:Mut (H x))(O:e=x\/H e=some (.own x))(k:∀b u,b≠e->h.get? b=some u->h'.get? b=some u)(J:∃u,h'.get? e=some u)
 (D:gA P w (upd H x o') h' x o'):HOk P w (upd H x o') h':=λb u q=>by
 have Y:∀c y,H c=some (.own y)->c≠x:=λc y r z=>by subst z;rw[r]at B;exact B
 have X:∀c xs,H c=some (.tup xs)->c≠x:=λc xs r z=>by subst z;rw[r]at B;exact B
 by_cases V:b=x
 ·subst V;rw[bT]at q;cases q;exact D
 ·rw[bF V]at q;by_cases Z:b=e
  ·have U:H b=some (.own x):=by
    rcases O with z|z
    ·exact absurd (Z.trans z) V
    ·rwa[Z]
   rw[q]at U;cases U;obtain⟨v,T⟩:=J;exact⟨v,by rwa[Z]⟩
  ·refine(ok b u q).stay (λc v W r=>k c v ?_ r) (λc r=>by rwa[bF (Y c b r)]) λc xs r=>by rwa[bF (X c xs r)]
   rcases W with rfl|W
   ·exact Z
   ·rintro rfl;rcases O with z|z
    ·exact Y c b W z
    ·rw[W]at z;cases z;exact V rfl
end
structure Un(fs ex:List Addr)(H H':Hp)(h h':f8):Prop where
 keep:∀b o,h.get? b=some o->H b=none->b∉fs->b∉ex->h'.get? b=some o
 slot:∀b o,h.get? b=some o->H b=none->b∈fs->b∉ex->∃sl,h'.get? b=some {o with slots:=sl}
 free:∀b o,h.get? b=some o->H b=none->b∉ex->H' b=none
 there:∀b o,h.get? b=some o->b∉ex->∃o',h'.get? b=some o'
 tups:∀b xs,H b=some (.tup xs)->H' b=some (.tup xs)
 frzs:∀b o u,H b=some (.frz o u)->H' b=some (.frz o u)
 tbls:∀b q p,H b=some (.tbl q p)->H' b=some (.tbl q p)
section
variable{fs fs' ex ex':List Addr}{H H1 H2:Hp}{h h1 h2 h':f8}{a x e:Addr}{o:HO}
theorem Un.any(u:Un fs ex H H1 h h1){b:Addr}{B:Obj}(q:h.get? b=some B)(n:H b=none)(D:b∉ex):∃sl,h1.get? b=some {B with slots:=sl}:=by
 by_cases Z:b∈fs
 ·exact u.slot b B q n Z D
 ·exact⟨B.slots,u.keep b B q n Z D⟩
theorem Un.kept(k:∀b u,h.get? b=some u->h'.get? b=some u):Un fs ex H H h h':=
 ⟨λb Z q _ _ _=>k b Z q,λb Z q _ _ _=>⟨Z.slots,k b Z q⟩,λ_ _ _ n _=>n,λb Z q _=>⟨Z,k b Z q⟩,λ_ _ q=>q,λ_ _ _ q=>q,λ_ _ _ q=>q⟩
theorem Un.refl:Un fs ex H H h h:=Un.kept λ_ _ q=>q
theorem Un.laid(k:∀b u,h.get? b=some u->h'.get? b=some u)(B:h.objs.size<=a)(hn:H a=none):Un fs ex H (upd H a o) h h' where
 keep:=λb u q _ _ _=>k b u q
 slot:=λb u q _ _ _=>⟨u.slots,k b u q⟩
 free:=λb u q n _=>by rwa[bF (aP (bQ (af q) B))]
 there:=λb u q _=>⟨u,k b u q⟩
 tups:=λb xs q=>by rwa[bF (jw q hn)]
 frzs:=λb u xs q=>by rwa[bF (jw q hn)]
 tbls:=λb q p e=>by rwa[bF (jw e hn)]
theorem Un.write(B:Mut (H x))(J:e=x\/H e=some (.own x))(k:∀b u,b≠e->h.get? b=some u->h'.get? b=some u)(D:∃u,h'.get? e=some u):Un fs ex H (upd H x o) h h':=by
 have Y:∀b,H b=none->b≠x:=λb n z=>by subst z;rw[n]at B;exact B
 have X:∀b,H b=none->b≠e:=λb n z=>by
  subst z;rcases J with r|r
  ·exact Y b n r
  ·rw[n]at r;cases r
 have hm:∀b u,H b=some u->¬Mut (some u)->b≠x:=λb u q nm z=>by subst z;rw[q]at B;exact nm B
 refine⟨λb u q n _ _=>k b u (X b n) q,λb u q n _ _=>⟨u.slots,k b u (X b n) q⟩,λb u q n _=>by rwa[bF (Y b n)],λb u q _=>?_,
  λb xs q=>by rwa[bF (hm b _ q λz=>z)],λb u xs q=>by rwa[bF (hm b _ q λz=>z)],λb q p e=>by rwa[bF (hm b _ e λz=>z)]⟩
 by_cases Z:b=e
 ·subst Z;exact D
 ·exact⟨u,k b u Z q⟩
end
noncomputable def trk(h:f8)(H:Hp):List Addr:=(aQ h.objs.size).filter λa=>(H a).isSome
def Ew(h:f8)(H:Hp):f8:=PySem.W.hideAll h (trk h H)
theorem Lw(h:f8)(H:Hp):(Ew h H).objs.size=h.objs.size:=PySem.W.hideAll_size _ _
theorem NQ{H:Hp}{o:Obj}(e:h.get? b=some o)(n:H b=none):(Ew h H).get? b=some o:=
 PySem.W.hideAll_get _ e λhm=>by
  have q:=(dG.mp hm).2;rw[n]at q;simp at q
theorem Tp{H:Hp}{o:Obj}(e:(Ew h H).get? b=some o):h.get? b=some o/\H b=none:=by
 have Z:h.get? b=some o:=PySem.W.of_hideAll (trk h H) e;refine⟨Z,?_⟩
 cases q:H b with
 |none=>rfl
 |some x=>
  have hm:b∈trk h H:=dG.mpr ⟨bf.mpr (af Z),by simp[q]⟩;have z:(Ew h H).get? b=none:=PySem.W.hideAll_none (trk h H) hm;rw[z]at e;cases e
noncomputable def nZ(g h:f8)(L:Addr):List (Addr×Obj):=(aQ h.objs.size).filterMap λa=>if a=L\/(g.get? a).isSome=true then none else(h.get? a).map λo=>(a,o)
theorem su{g:f8}{L:Addr}{o:Obj}(h1:a≠L)(h2:g.get? a=none)(B:h.get? a=some o):(a,o)∈nZ g h L:=
 kW.mpr ⟨a,bf.mpr (af B),by simp[h1,h2,B]⟩
theorem yL{g:f8}{L:Addr}{p:Addr×Obj}(B:p∈nZ g h L):p.1≠L/\g.get? p.1=none/\h.get? p.1=some p.2:=by
 obtain⟨b,_,e⟩:=kW.mp B;split at e
 ·cases e
 ·rename_i hn
  cases q:h.get? b with
  |none=>rw[q]at e;simp at e
  |some u=>
   rw[q]at e;simp only[jC,cO.injEq]at e;subst e;refine⟨λz=>hn (.inl z),?_,q⟩
   cases r:g.get? b with
   |none=>rfl
   |some v=>exact(hn (.inr (by simp[r]))).elim
theorem Ey{g:f8}{L:Addr}:News g L h (nZ g h L):=λp Z=>let⟨a,b,c⟩:=yL Z;⟨c,a,b⟩
end L2
variable{t' i:Nat}{ch:List Addr}{it:Addr}{o:L2.HO}{N:List Str}{M:Model}{A:fm}{E:Value->eS->Prop}{x:Str}{v:L2.V}{e:Expr}{s:eS}
namespace L2
structure Mod(K:PySem.W.Frag)(mg:Str->Option Value)(base:f8):Prop where
 kin:K.In base
 glob:base.Ns mainGlobals mg
 blt:∃mb,base.Ns builtinsNs mb/\∀x:Str,x≠"__name__"->mb x=bootBuiltins x
 nolimit:base.NoLimit
 bm:∃bm ob,mg "__builtins__"=some (.ref bm)/\bm≠builtinsNs/\base.get? bm=some ob/\ob.cls = .type "module"/\ob.dict=some builtinsNs/\ob.data = .plain
structure Cx where
 prog:e9
 w:fy
 K:PySem.W.Frag
 mg:Str->Option Value
 base:f8
 A:fm
 N:List Str
 s₀:eS
 H₀:Hp
 env:Env
 outer:List Env
 stack:List Env
 ex:List Addr
 fn:Str->Bool
 calm:Bool
 pn:List (Addr×Obj)
 xe:Value->eS->Prop
def frs(l:List Env):List Addr:=l.filterMap (·.frame)
abbrev Cx.fs(X:Cx):List Addr:=frs X.outer
def Vis(sc:hV)(x:Str):Prop:=sc.names.lookup x=some .local\/sc.names.lookup x=some .cell\/sc.names.lookup x=some .free
def Loc(sc:hV)(x:Str):Prop:=sc.names.lookup x=some .local\/sc.names.lookup x=some .cell
def Look(env:Env)(h:f8)(m:Str->Option Value)(x:Str)(u:Value):Prop:=
 (env.kindOf x=some .local/\m x=some u)\/((env.kindOf x=some .cell\/env.kindOf x=some .free)/\∃c,env.cells.lookup x=some c/\h.IsCell c (some u))
structure Cx.Ok(X:Cx):Prop where
 mod:Mod X.K X.mg X.base
 kind:X.env.scope.kind = .function
 glob:X.env.globals=mainGlobals
 blt:X.env.builtins=builtinsNs
 above:X.s₀.heap.objs.size<=X.env.locals
 inj:∀x y c,X.env.cells.lookup x=some c->X.env.cells.lookup y=some c->x=y
 has:∀x,(X.env.kindOf x=some .cell\/X.env.kindOf x=some .free)->∃c,X.env.cells.lookup x=some c
 cab:∀x c,X.fn x=true->X.env.cells.lookup x=some c->X.s₀.heap.objs.size<=c
 hd:X.calm=true->X.A.handled=none
 frames:X.A.frames=some X.stack
 stk:X.stack=X.outer\/(X.stack=X.env::X.outer/\X.env.frame=some X.env.locals)
 exf:∀b∈X.ex,b≠X.env.locals/\∀x c,X.env.cells.lookup x=some c->c≠b
 bs:∀b o,X.base.get? b=some o->X.s₀.heap.get? b=some o/\X.H₀ b=none
 bsz:X.base.objs.size<=X.s₀.heap.objs.size
 noex:∀b o,X.base.get? b=some o->b∉X.ex
 exfs:∀b∈X.ex,b∉X.fs
 funs:X.s₀.heap.FunFrames X.base X.outer
 frf:∀b∈X.fs,X.H₀ b=none
structure Inv(X:Cx)(pins:List (Addr×Obj))(σ:List (Option V))(H:Hp)(s:eS):Prop where
 ok:X.Ok
 os:s.os=X.s₀.os
 bare:ik s.gens
 base:Un X.fs X.ex X.H₀ H X.s₀.heap s.heap
 loc:∃m,s.heap.Ns X.env.locals m/\∀(i:Nat)(x:Str)(v:V),X.N[i]? = some x->σ[i]? = some (some v)->Vis X.env.scope x->∃u,RelV v u/\Look X.env s.heap m x u
 cell:∀x c,X.env.cells.lookup x=some c->∃v,s.heap.IsCell c v
 free:H X.env.locals=none
 freeC:∀x c,X.env.cells.lookup x=some c->H c=none
 pin:∀p∈X.pn++pins,s.heap.get? p.1=some p.2/\H p.1=none/\p.1≠X.env.locals/\p.1∉X.fs/\∀v,p.2.data ≠ .cell v
 hok:HOk X.prog X.w H s.heap
 len:σ.length=X.N.length
section
variable{X:Cx}{pins:List (Addr×Obj)}{σ:List (Option V)}{H H':Hp}{s:eS}{h':f8}
theorem Cx.Ok.nofr(ok:X.Ok){b:Addr}{o:Obj}(e:X.base.get? b=some o):b∉X.fs:=λZ=>by
 have:=(ok.funs.mem Z).1;rw[e]at this;cases this
theorem Inv.bs(I:Inv X pins σ H s):∀b o,X.base.get? b=some o->s.heap.get? b=some o/\H b=none:=λb o e=>
 ⟨I.base.keep b o (I.ok.bs b o e).1 (I.ok.bs b o e).2 (I.ok.nofr e) (I.ok.noex b o e),I.base.free b o (I.ok.bs b o e).1 (I.ok.bs b o e).2 (I.ok.noex b o e)⟩
theorem Inv.bk(I:Inv X pins σ H s):∀b o,X.base.get? b=some o->s.heap.get? b=some o:=λb o e=>(I.bs b o e).1
theorem Inv.mod(I:Inv X pins σ H s):Mod X.K X.mg X.base:=I.ok.mod
theorem Inv.kIn(I:Inv X pins σ H s):X.K.In s.heap:=I.ok.mod.kin.keeps I.bk
theorem Inv.lt(I:Inv X pins σ H s):X.env.locals<s.heap.objs.size:=let⟨_,hn,_⟩:=I.loc;hn.lt
theorem Inv.sz(I:Inv X pins σ H s):X.s₀.heap.objs.size<=s.heap.objs.size:=aW I.ok.above (cG I.lt)
theorem Inv.nofs(I:Inv X pins σ H s){a:Addr}(h:s.heap.objs.size<=a):a∉X.fs:=λY=>by
 obtain⟨_,o,Z,_⟩:=I.ok.funs.mem Y;exact absurd (bQ (af Z) (aW I.sz h)) (eF _)
theorem Inv.cne(I:Inv X pins σ H s):∀x c,X.env.cells.lookup x=some c->c≠X.env.locals:=λx c e z=>by
 obtain⟨v,o,W,hd⟩:=I.cell x c e;obtain⟨m,⟨o',es,ep,Z,Y,_⟩,_⟩:=I.loc;rw[z,Z]at W;cases W;rw[Y]at hd;cases hd
theorem Inv.funs(I:Inv X pins σ H s):s.heap.FunFrames X.base X.outer:=by
 have all:∀(l:List Env),(∀b∈frs l,b∈X.fs)->X.s₀.heap.FunFrames X.base l->s.heap.FunFrames X.base l:=by
  intro l
  induction l with
  |nil=>intro _ _;trivial
  |cons env r V=>
   intro hs S;obtain⟨R,⟨L,o,Z,hn,T,hd⟩,U⟩:=S;have W:=hs L (by unfold frs;rw[nR,Z];exact ak);obtain⟨sl,e⟩:=I.base.slot L o T (I.ok.frf L W) W λz=>I.ok.exfs L z W
   exact⟨R,⟨L,_,Z,hn,e,hd⟩,V (λb Y=>hs b (by unfold frs;rw[nR,Z];exact au _ Y)) U⟩
 exact all X.outer (λ_ Y=>Y) I.ok.funs
theorem Inv.stack(I:Inv X pins σ H s):s.heap.FunFrames X.base X.stack:=by
 rcases I.ok.stk with e|⟨e,Z⟩
 ·rw[e];exact I.funs
 ·rw[e];obtain⟨m,hn,_⟩:=I.loc;refine .cons (by rw[I.ok.kind];decide) Z hn ?_ I.funs;exact eP (aW I.ok.bsz I.ok.above)
theorem Inv.stkSub(I:Inv X pins σ H s):∀b∈frs X.stack,b∈X.env.locals::X.fs:=λb Z=>by
 rcases I.ok.stk with e|⟨e,Y⟩
 ·rw[e]at Z;exact au _ Z
 ·rw[e]at Z;unfold frs at Z;rwa[nR,Y]at Z
theorem Inv.stkFree(I:Inv X pins σ H s):∀b∈frs X.stack,H b=none:=λb Z=>by
 rcases aK.mp (I.stkSub b Z)with e|Z
 ·rw[e];exact I.free
 ·obtain⟨_,o,Y,_⟩:=I.ok.funs.mem Z;exact I.base.free b o Y (I.ok.frf b Z) λz=>I.ok.exfs b z Z
theorem Inv.step{g':Array GenState}{d':Drawn}(I:Inv X pins σ H s)
 (B:∀b∈ch,(b∈X.ex\/X.s₀.heap.objs.size<=b)/\b≠X.env.locals/\(∀x c,X.env.cells.lookup x=some c->c≠b)/\∀p∈X.pn++pins,p.1≠b)
 (keep:∀b o,b≠X.env.locals->b∉X.fs->b∉ch->s.heap.get? b=some o->H b=none->h'.get? b=some o)
 (slot:∀b o,b≠X.env.locals->b∈X.fs->b∉ch->s.heap.get? b=some o->H b=none->∃sl,h'.get? b=some {o with slots:=sl}) (free:∀b o,b∉ch->s.heap.get? b=some o->H b=none->H' b=none)
 (there:∀b o,b∉ch->s.heap.get? b=some o->∃o',h'.get? b=some o')
 (tups:∀b xs,H b=some (.tup xs)->H' b=some (.tup xs)) (frzs:∀b o u,H b=some (.frz o u)->H' b=some (.frz o u)) (tbls:∀b q p,H b=some (.tbl q p)->H' b=some (.tbl q p))
 (ns:∀m,s.heap.Ns X.env.locals m->h'.Ns X.env.locals m) (hok:HOk X.prog X.w H' h') (D:ik g') :
 Inv X pins σ H' {s with heap:=h',gens:=g',drawn:=d',toks:=t'}:=by
 have S:∀b o,X.s₀.heap.get? b=some o->b≠X.env.locals:=λb o e=>aP (bQ (af e) I.ok.above)
 have W:∀b o,X.s₀.heap.get? b=some o->b∉X.ex->b∉ch:=λb o e Z V=>by
  rcases(B b V).1 with z|z
  ·exact Z z
  ·exact absurd (bQ (af e) z) (eF _)
 have cellK:∀x c,X.env.cells.lookup x=some c->∀v,s.heap.IsCell c v->h'.IsCell c v:=λx c e v ⟨o,T,hd⟩=>by
  have Y:=λz=>(B c z).2.2.1 x c e rfl
  by_cases O:c∈X.fs
  ·obtain⟨sl,q⟩:=slot c o (I.cne x c e) O Y T (I.freeC x c e);exact⟨_,q,hd⟩
  ·exact⟨o,keep c o (I.cne x c e) O Y T (I.freeC x c e),hd⟩
 refine⟨I.ok,I.os,D,⟨λb o e n V Z=>?_,λb o e n V Z=>?_,λb o e n Z=>?_,λb o e Z=>?_,λb xs e=>tups b xs (I.base.tups b xs e),λb o xs e=>frzs b o xs (I.base.frzs b o xs e),λb q p e=>tbls b q p (I.base.tbls b q p e)⟩,?_,λx c e=>?_,?_,λx c e=>?_,λp P=>?_,hok,I.len⟩
 ·exact keep b o (S b o e) V (W b o e Z) (I.base.keep b o e n V Z) (I.base.free b o e n Z)
 ·obtain⟨sl,U⟩:=I.base.slot b o e n V Z;obtain⟨R,e2⟩:=slot b _ (S b o e) V (W b o e Z) U (I.base.free b o e n Z);exact⟨R,e2⟩
 ·obtain⟨o',U⟩:=I.base.there b o e Z;exact free b o' (W b o e Z) U (I.base.free b o e n Z)
 ·obtain⟨o',U⟩:=I.base.there b o e Z;exact there b o' (W b o e Z) U
 ·obtain⟨m,hn,N⟩:=I.loc;refine⟨m,ns m hn,λi x v U e2 M=>?_⟩;obtain⟨u,r,l⟩:=N i x v U e2 M;refine⟨u,r,?_⟩;rcases l with l|⟨k,c,e,z⟩
  ·exact .inl l
  ·exact .inr ⟨k,c,e,cellK x c e _ z⟩
 ·obtain⟨v,z⟩:=I.cell x c e;exact⟨v,cellK x c e v z⟩
 ·obtain⟨m,⟨o,_,_,T,_⟩,_⟩:=I.loc;exact free _ o (λz=>(B _ z).2.1 rfl) T I.free
 ·obtain⟨v,o,T,hd⟩:=I.cell x c e;exact free c o (λz=>(B c z).2.2.1 x c e rfl) T (I.freeC x c e)
 ·obtain⟨e,n,ne,Q,d⟩:=I.pin p P;have Y:=λz=>(B p.1 z).2.2.2 p P rfl
  exact⟨keep p.1 p.2 ne Q Y e n,free p.1 p.2 Y e n,ne,Q,d⟩
theorem Inv.un(I:Inv X pins σ H s)(u:Un X.fs [] H H' s.heap h')(hok:HOk X.prog X.w H' h'):Inv X pins σ H' {s with heap:=h',toks:=t'}:=by
 obtain⟨m,⟨o,es,ep,U,r⟩,_⟩:=id I.loc;obtain⟨sl,T⟩:=u.any U I.free (by simp);exact I.step (g':=s.gens) (d':=s.drawn) (ch:=[]) (λ_ z=>nomatch z) (λb o _ Y _ e n=>u.keep b o e n Y (by simp)) (λb o _ Y _ e n=>u.slot b o e n Y (by simp)) (λb o _ e n=>u.free b o e n (by simp)) (λb o _ e=>u.there b o e (by simp)) u.tups u.frzs u.tbls (λS hm=>by
  obtain⟨o',W,V,Z,r'⟩:=hm;rw[U]at Z;cases Z;exact⟨_,W,V,T,r'⟩) hok I.bare
theorem Inv.call{g':Array GenState}{d':Drawn}(I:Inv X pins σ H s)(u:Un (frs X.stack) ch H H' s.heap h')(hok:HOk X.prog X.w H' h')(D:ik g')
 (B:∀b∈ch,(b∈X.ex\/X.s₀.heap.objs.size<=b)/\b≠X.env.locals/\(∀x c,X.env.cells.lookup x=some c->c≠b)/\∀p∈X.pn++pins,p.1≠b) :
 Inv X pins σ H' {s with heap:=h',gens:=g',drawn:=d',toks:=t'}:=by
 obtain⟨m,⟨o,es,ep,T,r⟩,_⟩:=id I.loc;obtain⟨sl,W⟩:=u.any T I.free λz=>(B _ z).2.1 rfl
 exact I.step (ch:=ch) B (λb o W S Z e n=>u.keep b o e n (λz=>(aK.mp (I.stkSub b z)).elim W S) Z) (λb o _ _ Z e n=>u.any e n Z) (λb o Z e n=>u.free b o e n Z) (λb o Z e=>u.there b o e Z) u.tups u.frzs u.tbls (λR hm=>by
  obtain⟨o',V,U,Y,r'⟩:=hm;rw[T]at Y;cases Y;exact⟨_,V,U,W,r'⟩) hok D
theorem Inv.turned(I:Inv X pins σ H s)(k:∀b o,b≠it->s.heap.get? b=some o->h'.get? b=some o)(hn:H it=none)(B:it≠X.env.locals)
 (h1:it∈X.ex\/X.s₀.heap.objs.size<=it) (h2:∀x c,X.env.cells.lookup x=some c->c≠it) (D:∀p∈X.pn++pins,p.1≠it):Inv X pins σ H {s with heap:=h',toks:=t'}:=by
 have Y:∀b u,H b=some u->b≠it:=λb u e z=>by rw[z,hn]at e;cases e
 refine I.step (g':=s.gens) (d':=s.drawn) (ch:=[it]) (λb V=>?_) (λb o _ _ Z e _=>k b o (λz=>Z (by simp[z])) e) (λb o _ _ Z e _=>⟨o.slots,k b o (λz=>Z (by simp[z])) e⟩) (λ_ _ _ _ n=>n)
  (λb o Z e=>⟨o,k b o (λz=>Z (by simp[z])) e⟩) (λ_ _ e=>e) (λ_ _ _ e=>e) (λ_ _ _ e=>e) (λm hm=>?_) (λb u e=>?_) I.bare
 ·have e:b=it:=by simpa using V
  subst e;exact⟨h1,B,h2,D⟩
 ·obtain⟨o,es,ep,W,r⟩:=hm;exact⟨o,es,ep,k _ o (fA B) W,r⟩
 ·refine(I.hok b u e).stay (λc v Z q=>k c v ?_ q) (λ_ q=>q) λ_ _ q=>q
  rcases Z with z|z
  ·rw[z];exact Y b u e
  ·exact Y c _ z
theorem Inv.tok(I:Inv X pins σ H s)(t:Nat):Inv X pins σ H {s with toks:=t}:=I.un (h':=s.heap) (t':=t) Un.refl I.hok
theorem Inv.kept(I:Inv X pins σ H s)(k:∀b u,s.heap.get? b=some u->h'.get? b=some u):Inv X pins σ H {s with heap:=h',toks:=t'}:=I.un (Un.kept k) (I.hok.kept k)
theorem Inv.laid(I:Inv X pins σ H s)(k:∀b u,s.heap.get? b=some u->h'.get? b=some u)(D:s.heap.objs.size<=a)(B:gA X.prog X.w (upd H a o) h' a o):
 Inv X pins σ (upd H a o) {s with heap:=h',toks:=t'}:=I.un (Un.laid k D (I.hok.fresh D)) (I.hok.laid k D B)
theorem Inv.write{x e:Addr}(I:Inv X pins σ H s)(J:Mut (H x))(O:e=x\/H e=some (.own x))(k:∀b u,b≠e->s.heap.get? b=some u->h'.get? b=some u)(B:∃u,h'.get? e=some u)
 (D:gA X.prog X.w (upd H x o) h' x o):Inv X pins σ (upd H x o) {s with heap:=h',toks:=t'}:=I.un (Un.write J O k B) (I.hok.write J O k B D)
theorem Inv.pins_of{pins':List (Addr×Obj)}(I:Inv X pins σ H s)(h:∀p∈pins',s.heap.get? p.1=some p.2/\H p.1=none/\p.1≠X.env.locals/\p.1∉X.fs/\∀v,p.2.data ≠ .cell v):Inv X pins' σ H s:=
 ⟨I.ok,I.os,I.bare,I.base,I.loc,I.cell,I.free,I.freeC,λp Z=>(bZ.mp Z).elim (λz=>I.pin p (bN _ z)) (h p),I.hok,I.len⟩
theorem Ez(B:N.Nodup){i j:Nat}{x:Str}(a:N[i]? = some x)(b:N[j]? = some x):i=j:=by
 obtain⟨h1,Z⟩:=fW.mp a;obtain⟨h2,e2⟩:=fW.mp b;exact(List.getElem_inj B).mp (Z.trans e2.symm)
theorem Bj{u:Value}{Q:Unit->eS->Prop}(I:Inv X pins σ H s)(hN:X.N.Nodup)(hi:X.N[i]? = some x)(B:Loc X.env.scope x)(r:RelV v u)
 (h:∀s',Inv X pins (σ.set i (some v)) H s'->(∃a,gm a s.heap s'.heap/\(a=X.env.locals\/X.env.cells.lookup x=some a))->Q () s') (hf:X.fn x=true\/X.env.scope.names.lookup x=some .local:=by first|exact .inl rfl|exact .inr rfl|assumption):wpAny M A (storeName X.env x u) Q E s:=by
 obtain⟨m,hn,hl⟩:=id I.loc;have O:(X.env.scope.kind == .class||(X.env.scope.kind == .module&&X.env.locals != X.env.globals))=false:=by rw[I.ok.kind];rfl
 have U:i<σ.length:=by rw[I.len];exact(fW.mp hi).1
 have cne:=I.cne;have tracked:∀{a:Addr}{h':f8},(∃o,s.heap.get? a=some o/\H a=none)->gm a s.heap h'->HOk X.prog X.w H h':=λ{a h'} ha hs b ob e=>by
  obtain⟨_,_,W⟩:=ha;refine(I.hok b ob e).stay (λc J Y q=>(hs.2 c ?_).trans q) (λ_ q=>q) λ_ _ q=>q
  rintro rfl;rcases Y with rfl|Y
  ·rw[W]at e;cases e
  ·rw[W]at Y;cases Y
 rcases B with V|V
 ·refine wpAny_storeName_local V hn (λh' l hs=>?_) O;obtain⟨oL,_,_,t,_⟩:=id hn;refine h _ ⟨I.ok,I.os,I.bare,⟨λb o e n R B=>?_,λb o e n R B=>?_,I.base.free,λb o e B=>?_,I.base.tups,I.base.frzs,I.base.tbls⟩,⟨_,l,λj y G Z e2 g=>?_⟩,λy c e=>?_,I.free,I.freeC,λp C=>?_,tracked ⟨oL,t,I.free⟩ hs,by simpa using I.len⟩ ⟨_,hs,.inl rfl⟩
  ·exact(hs.2 b (aP (bQ (af e) I.ok.above))).trans (I.base.keep b o e n R B)
  ·obtain⟨sl,Z⟩:=I.base.slot b o e n R B;exact⟨sl,(hs.2 b (aP (bQ (af e) I.ok.above))).trans Z⟩
  ·obtain⟨o',Z⟩:=I.base.there b o e B;exact⟨o',(hs.2 b (aP (bQ (af e) I.ok.above))).trans Z⟩
  ·by_cases T:j=i
   ·subst T;rw[hi]at Z;cases Z;rw[dw U]at e2
    cases e2;exact⟨u,r,.inl ⟨V,by simp⟩⟩
   ·rw[bD (fA T)]at e2;obtain⟨F,r',q⟩:=hl j y G Z e2 g;refine⟨F,r',?_⟩;rcases q with⟨k,e⟩|⟨k,c,e,z⟩
    ·refine .inl ⟨k,?_⟩;have:y≠x:=λe=>T (Ez hN Z (e▸hi))
     simp[this,e]
    ·exact .inr ⟨k,c,e,z.sameBut hs (cne y c e)⟩
  ·obtain⟨J,z⟩:=I.cell y c e;exact⟨J,z.sameBut hs (cne y c e)⟩
  ·obtain⟨e,n,ne,D,d⟩:=I.pin p C;exact⟨(hs.2 p.1 ne).trans e,n,ne,D,d⟩
 ·have S:X.fn x=true:=by
   rcases hf with z|z
   ·exact z
   ·rw[z]at V;cases V
  obtain⟨c,Y⟩:=I.ok.has x (.inl V);obtain⟨J,z⟩:=I.cell x c Y;refine wpAny_storeName_cell I.ok.kind V Y z (λh' K hs=>?_);obtain⟨oc,P,f⟩:=id z;refine h {s with heap:=h'} ⟨I.ok,I.os,I.bare,⟨λb o e n R B=>?_,λb o e n R B=>?_,I.base.free,λb o e B=>?_,I.base.tups,I.base.frzs,I.base.tbls⟩,⟨m,hn.sameBut hs (fA (cne x c Y)),λj y G Z e2 g=>?_⟩,λy c' e=>?_,I.free,I.freeC,λp C=>?_,tracked ⟨oc,P,I.freeC x c Y⟩ hs,by simpa using I.len⟩ ⟨c,hs,.inr Y⟩
  ·exact(hs.2 b (aP (bQ (af e) (I.ok.cab x c S Y)))).trans (I.base.keep b o e n R B)
  ·obtain⟨sl,Z⟩:=I.base.slot b o e n R B;exact⟨sl,(hs.2 b (aP (bQ (af e) (I.ok.cab x c S Y)))).trans Z⟩
  ·obtain⟨o',Z⟩:=I.base.there b o e B;exact⟨o',(hs.2 b (aP (bQ (af e) (I.ok.cab x c S Y)))).trans Z⟩
  ·by_cases T:j=i
   ·subst T;rw[hi]at Z;cases Z;rw[dw U]at e2
    cases e2;exact⟨u,r,.inr ⟨.inl V,c,Y,K⟩⟩
   ·rw[bD (fA T)]at e2;obtain⟨F,r',q⟩:=hl j y G Z e2 g;refine⟨F,r',?_⟩;rcases q with q|⟨k,c',e,z'⟩
    ·exact .inl q
    ·refine .inr ⟨k,c',e,z'.sameBut hs ?_⟩;rintro rfl;exact T (Ez hN Z (I.ok.inj _ _ _ e Y▸hi))
  ·by_cases L:c'=c
   ·subst L;exact⟨_,K⟩
   ·obtain⟨w2,z2⟩:=I.cell y c' e;exact⟨w2,z2.sameBut hs L⟩
  ·obtain⟨e,n,ne,D,d⟩:=I.pin p C;refine⟨(hs.2 p.1 ?_).trans e,n,ne,D,d⟩;intro q;rw[q,P]at e;have q':oc=p.2:=cO.inj e;exact d J (by rwa[<-q'])
theorem EY{u:Value}{Q:Unit->eS->Prop}(I:Inv X pins σ H s)(J:X.N.Nodup)(hi:X.N[i]? = some x)(B:Loc X.env.scope x)(r:RelV v u)
 (h:∀s',Inv X pins (σ.set i (some v)) H s'->Q () s') (D:X.fn x=true\/X.env.scope.names.lookup x=some .local:=by first|exact .inl rfl|exact .inr rfl|assumption):wpAny M A (storeName X.env x u) Q E s:=
 Bj I J hi B r (λs' Z _=>h s' Z) D
end
abbrev XK:=Value->Option Addr->Hp->Prop
abbrev St:=List (Option V)
abbrev VK:=V->Hp->Prop
abbrev TE:=St->Hp->VK->Prop
abbrev TT:=St->Hp->(Bool->Hp->Prop)->Prop
abbrev TA:=St->Hp->(List V->Hp->Prop)->Prop
structure Ends where
 nx:St->Hp->Prop
 rt:VK
 bk:St->Hp->Prop:=λ_ _=>False
 ct:St->Hp->Prop:=λ_ _=>False
abbrev TS:=Ends->St->Hp->Prop
def EP(X:Cx)(pins:List (Addr×Obj))(σ:St)(Q:VK)(u:Value)(s':eS):Prop:=∃v H',Inv X pins σ H' s'/\RelV v u/\Q v H'
def TP(X:Cx)(pins:List (Addr×Obj))(σ:St)(Q:Bool->Hp->Prop)(b:Bool)(s':eS):Prop:=∃H',Inv X pins σ H' s'/\Q b H'
def AP(X:Cx)(pins:List (Addr×Obj))(σ:St)(Q:List V->Hp->Prop)(us:List Value)(s':eS):Prop:=∃vs H',Inv X pins σ H' s'/\Vals vs us/\Q vs H'
def SP(X:Cx)(pins:List (Addr×Obj))(D:Ends)(f:Flow)(s':eS):Prop:=
 match f with
 | .next=>∃σ' H',Inv X pins σ' H' s'/\D.nx σ' H'
 | .brk=>∃σ' H',Inv X pins σ' H' s'/\D.bk σ' H'
 | .cont=>∃σ' H',Inv X pins σ' H' s'/\D.ct σ' H'
 | .ret u=>∃v σ' H',Inv X pins σ' H' s'/\RelV v u/\D.rt v H'
def PE(X:Cx)(e:Expr)(t:TE):Prop:=
 ∀(pins:List (Addr×Obj))(s:eS)(σ:St)(H:Hp)(Q:VK),Inv X pins σ H s->t σ H Q->wpAny (model X.prog X.w) X.A (eval e X.env) (EP X pins σ Q) X.xe s
def PT(X:Cx)(e:Expr)(t:TT):Prop:=
 ∀(pins:List (Addr×Obj))(s:eS)(σ:St)(H:Hp)(Q:Bool->Hp->Prop),Inv X pins σ H s->t σ H Q->wpAny (model X.prog X.w) X.A (isTrue e X.env (eval e X.env)) (TP X pins σ Q) X.xe s
def PW(X:Cx)(e:Expr)(t:TT):Prop:=
 ∀(whole:Sem Value)(pins:List (Addr×Obj))(s:eS)(σ:St)(H:Hp)(Q:Bool->Hp->Prop),Inv X pins σ H s->t σ H Q->wpAny (model X.prog X.w) X.A (isTrue e X.env whole) (TP X pins σ Q) X.xe s
theorem PW.pt{X:Cx}{t:TT}(h:PW X e t):PT X e t:=h _
def PA(X:Cx)(es:List Expr)(t:TA):Prop:=
 ∀(pos:Pos)(pins:List (Addr×Obj))(s:eS)(σ:St)(H:Hp)(Q:List V->Hp->Prop),Inv X pins σ H s->t σ H Q->wpAny (model X.prog X.w) X.A (spliced (backTo pos (starEach es X.env))) (AP X pins σ Q) X.xe s
def PS(X:Cx)(st:hI)(t:TS):Prop:=
 ∀(pins:List (Addr×Obj))(s:eS)(σ:St)(H:Hp)(D:Ends),Inv X pins σ H s->t D σ H->wpAny (model X.prog X.w) X.A (exec st X.env) (SP X pins D) X.xe s
def PSs(X:Cx)(st:List hI)(t:TS):Prop:=
 ∀(pins:List (Addr×Obj))(s:eS)(σ:St)(H:Hp)(D:Ends),Inv X pins σ H s->t D σ H->wpAny (model X.prog X.w) X.A (execs st X.env) (SP X pins D) X.xe s
theorem thn{α:Type}{t:Sem α}{Q B:α->eS->Prop}(h:wpAny M A t Q E s)(D:∀a s,Q a s->B a s):wpAny M A t B E s:=a5 h D λ_ _ x=>x
end L2
variable{pos:Pos}{pins:List (Addr×Obj)}{H:L2.Hp}{Q:Value->eS->Prop}{op:CmpOp}
namespace L2
section
variable{X:Cx}
def ai9(i:Nat):TE:=λσ H Q=>∃v,σ[i]? = some (some v)/\Q v H
def tC(v:V):TE:=λ_ H Q=>Q v H
theorem oM(J:X.N[i]? = some x)(D:Vis X.env.scope x)(hd:(x==("__debug__":Str))=false:=by decide)(B:(x==("__classdict__":Str))=false:=by decide):PE X (.Name x pos) (ai9 i):=by
 intro pins s σ H Q I h;obtain⟨v,e,h⟩:=h;obtain⟨m,hn,V⟩:=I.loc;obtain⟨u,r,l⟩:=V i x v J e D;have fin:EP X pins σ Q u s:=⟨v,H,I,r,h⟩;rcases l with⟨Y,hm⟩|⟨Y,c,W,Z⟩
 ·exact du (wpAny_loadName_local I.ok.kind Y hn hm fin) hd
 ·rcases Y with Y|Y
  ·exact du (wpAny_loadName_cell I.ok.kind Y W Z fin) hd
  ·exact du (wpAny_loadName_free I.ok.kind Y W Z fin B) hd
theorem Xc{i j pos}:PE X (.Constant (.int i) j pos) (tC (.int i)):=λ_ _ _ H _ I h=>wpAny_Constant_int ⟨.int i,H,I.tok _,⟨_,rfl⟩,h⟩
theorem Wq{b j pos}:PE X (.Constant (.bool b) j pos) (tC (.bl b)):=λ_ _ _ H _ I h=>Constant_bool ⟨.bl b,H,I,rfl,h⟩
theorem Xd{j pos}:PE X (.Constant .none j pos) (tC .non):=λ_ _ _ H _ I h=>Constant_none ⟨.non,H,I,rfl,h⟩
theorem Xe{x j pos}:PE X (.Constant (.str x) j pos) (tC (.str x)):=λ_ _ _ H _ I h=>Calls.Constant_str ⟨.str x,H,I.tok _,⟨_,rfl⟩,h⟩
def Gl(X:Cx)(x:Str):Prop:=X.env.kindOf x=some .globalImplicit
theorem JL{σ:St}{u:Value}(I:Inv X pins σ H s)(B:Gl X x)(hm:X.mg x=some u)(h:Q u s)
 (hd:(x==("__debug__":Str))=false:=by decide):wpAny (model X.prog X.w) X.A (eval (.Name x pos) X.env) Q E s:=
 dm I.ok.kind B (Calls.loadGlobal_global (by rw[I.ok.glob];exact I.mod.glob.keeps I.bk) hm h) hd
theorem nH{σ:St}{u:Value}(I:Inv X pins σ H s)(D:Gl X x)(hm:X.mg x=none)(B:bootBuiltins x=some u)(h:Q u s)
 (hn:x≠"__name__" := by decide) (hd:(x==("__debug__":Str))=false:=by decide):wpAny (model X.prog X.w) X.A (eval (.Name x pos) X.env) Q E s:=by
 obtain⟨Z,h1,h2⟩:=I.mod.blt;exact dm I.ok.kind D (Calls.loadGlobal_builtin (by rw[I.ok.glob];exact I.mod.glob.keeps I.bk) hm (by rw[I.ok.blt];exact h1.keeps I.bk) ((h2 x hn).trans B) h) hd
theorem Tq{u:Value}(B:Gl X x)(hm:X.mg x=some u)(r:RelV v u)(hd:(x==("__debug__":Str))=false:=by decide):PE X (.Name x pos) (tC v):=
 λ_ _ _ H _ I h=>JL I B hm ⟨v,H,I,r,h⟩ hd
theorem Tr{u:Value}(D:Gl X x)(hm:X.mg x=none)(B:bootBuiltins x=some u)(r:RelV v u)(hn:x≠"__name__" := by decide)(hd:(x==("__debug__":Str))=false:=by decide):PE X (.Name x pos) (tC v):=
 λ_ _ _ H _ I h=>nH I D hm B ⟨v,H,I,r,h⟩ hn hd
variable{a b:Expr}{ta tb:TE}{pos:Pos}
def PC(X:Cx)(op:CmpOp)(a b:Expr)(t:TE):Prop:=
 ∀(pins:List (Addr×Obj))(s:eS)(σ:St)(H:Hp)(Q:VK),Inv X pins σ H s->t σ H Q ->
  wpAny (model X.prog X.w) X.A (eval a X.env) (λv Y=>wpAny (model X.prog X.w) X.A (eval b X.env) (λu Z=>wpAny (model X.prog X.w) X.A (compareOp op v u) (EP X pins σ Q) X.xe Z) X.xe Y) X.xe s
theorem NT(b:Expr){op:CmpOp}(h:op ≠ .In)(h2:op ≠ .NotIn):behindInMarks op b=false:=by
 have Z:(op==CmpOp.In)=false:=by cases op<;>first|rfl|exact absurd rfl h
 have e2:(op==CmpOp.NotIn)=false:=by cases op<;>first|rfl|exact absurd rfl h2
 cases b<;>simp[behindInMarks,Z,e2]
def aj0(ta:TE):TE:=λσ H Q=>ta σ H λx H1=>Q (.bl (decide (x = .non))) H1
theorem RelV.none_iff{x:V}{v:Value}(r:RelV x v):(v==fS)=decide (x = .non):=by
 cases x with
 |non=>cases r;rfl
 |bl _=>cases r;rfl
 |int _=>obtain⟨t,rfl⟩:=r;rfl
 |str _=>obtain⟨t,rfl⟩:=r;rfl
 |byt _=>obtain⟨t,rfl⟩:=r;rfl
 |flt _=>obtain⟨t,rfl⟩:=r;rfl
 |ref _=>cases r;rfl
 |ty _=>cases r;rfl
theorem Xf{j pos'}(ha:PE X a ta):PC X .Is a (.Constant .none j pos') (aj0 ta):=by
 intro pins s σ H Q I h;refine thn (ha pins s σ H _ I h) λv s1 ⟨x,H1,Y,Z,q1⟩=>?_
 exact Constant_none (is_none_gen ⟨.bl _,H1,Y,by rw[Z.none_iff];rfl,q1⟩)
def tB(t:TE):TT:=λσ H Q=>t σ H λx H1=>∃c,x = .bl c/\Q c H1
theorem NZ{t:TE}(h:PC X op a b t)(h1:behindInMarks op b=false:=by first|exact NT _ (by decide) (by decide)|rfl):PT X (.Compare a [op] [b] pos) (tB t):=by
 intro pins s σ H Q I hw;refine wpAny_isTrue_Compare1 (thn (h pins s σ H _ I hw) λv s1 h1=>thn h1 λu s2 h2=>thn h2 λc s3 ⟨x,H1,Y,Z,q1⟩=>?_) h1;obtain⟨d,rfl,q⟩:=q1
 cases Z;exact aw ⟨H1,Y,q⟩
theorem Xg{t:TE}(h:PE X e t)(B:∀whole,isTrue e X.env whole=(do let v <-whole;standAt e.pos;holding [v] (truthy v)):=by intro _;rfl):PT X e (tB t):=by
 intro pins s σ H Q I hw;refine isTrue_plain (thn (h pins s σ H _ I hw) λv s1 ⟨x,H1,Y,Z,q1⟩=>?_) (B _);obtain⟨d,rfl,q⟩:=q1
 cases Z;exact aw ⟨H1,Y,q⟩
variable{tA tB':TT}{rest:List Expr}
def HY(t u:TT):TT:=λσ H Q=>t σ H λc H1=>if c=true then u σ H1 Q else Q false H1
def tOr(t u:TT):TT:=λσ H Q=>t σ H λc H1=>if c=true then Q true H1 else u σ H1 Q
def gU(t:TT):TT:=λσ H Q=>t σ H λc H1=>Q (!c) H1
theorem Tt(ha:PT X a tA):PW X (.BoolOp .And [a] pos) tA:=by
 intro wh pins s σ H Q I h;refine isTrue_and (thn (ha pins s σ H Q I h) λc s1 e=>?_)
 cases c with
 |true=>exact isTrue_and_nil e
 |false=>exact e
theorem Xh(ha:PT X a tA):PW X (.BoolOp .Or [a] pos) tA:=by
 intro wh pins s σ H Q I h;refine isTrue_or (thn (ha pins s σ H Q I h) λc s1 e=>?_)
 cases c with
 |false=>exact isTrue_or_nil e
 |true=>exact e
theorem Xi(ha:PT X a tA)(B:PW X (.BoolOp .And (b::rest) pos) tB'):PW X (.BoolOp .And (a::b::rest) pos) (HY tA tB'):=by
 intro wh pins s σ H Q I h;refine isTrue_and (thn (ha pins s σ H _ I h) λc s1 ⟨H1,Z,q1⟩=>?_)
 cases c with
 |true=>exact B wh pins s1 σ H1 Q Z q1
 |false=>exact⟨H1,Z,q1⟩
theorem ZR(ha:PT X a tA)(B:PW X (.BoolOp .Or (b::rest) pos) tB'):PW X (.BoolOp .Or (a::b::rest) pos) (tOr tA tB'):=by
 intro wh pins s σ H Q I h;refine isTrue_or (thn (ha pins s σ H _ I h) λc s1 ⟨H1,Z,q1⟩=>?_)
 cases c with
 |true=>exact⟨H1,Z,q1⟩
 |false=>exact B wh pins s1 σ H1 Q Z q1
theorem Xj(ha:PT X a tA):PT X (.UnaryOp .Not a pos) (gU tA):=by
 intro pins s σ H Q I h;exact isTrue_not (ha pins s σ H (λc H1=>Q (!c) H1) I h)
def ZS(ta tb:TE):TE:=λσ H Q=>ta σ H λx H1=>∃c,x = .bl c/\if c=true then tb σ H1 Q else Q (.bl false) H1
def aj1(ta tb:TE):TE:=λσ H Q=>ta σ H λx H1=>∃c,x = .bl c/\if c=true then Q (.bl true) H1 else tb σ H1 Q
def ZV(ta:TE):TE:=λσ H Q=>ta σ H λx H1=>∃c,x = .bl c/\Q (.bl (!c)) H1
theorem Xk{op}{t:TE}(h:PE X a t):PE X (.BoolOp op [a] pos) t:=λpins s σ H Q I hw=>BoolOp_one (h pins s σ H Q I hw)
theorem Xl(ha:PE X a ta)(B:PE X (.BoolOp .And (b::rest) pos) tb):PE X (.BoolOp .And (a::b::rest) pos) (ZS ta tb):=by
 intro pins s σ H Q I h;refine BoolOp_and (thn (ha pins s σ H _ I h) λv s1 ⟨x,H1,Z,Y,q1⟩=>?_);obtain⟨c,rfl,q1⟩:=q1
 cases Y;refine aw ?_
 cases c with
 |true=>exact B pins s1 σ H1 Q Z q1
 |false=>exact⟨.bl false,H1,Z,rfl,q1⟩
theorem ZW(ha:PE X a ta)(B:PE X (.BoolOp .Or (b::rest) pos) tb):PE X (.BoolOp .Or (a::b::rest) pos) (aj1 ta tb):=by
 intro pins s σ H Q I h;refine BoolOp_or (thn (ha pins s σ H _ I h) λv s1 ⟨x,H1,Z,Y,q1⟩=>?_);obtain⟨c,rfl,q1⟩:=q1
 cases Y;refine aw ?_
 cases c with
 |false=>exact B pins s1 σ H1 Q Z q1
 |true=>exact⟨.bl true,H1,Z,rfl,q1⟩
theorem Xm(ha:PE X a ta):PE X (.UnaryOp .Not a pos) (ZV ta):=by
 intro pins s σ H Q I h;refine UnaryOp_ (thn (ha pins s σ H _ I h) λv s1 ⟨x,H1,Y,Z,q1⟩=>?_);obtain⟨c,rfl,q1⟩:=q1
 cases Z;exact not_of (aw ⟨.bl (!c),H1,Y,rfl,q1⟩)
def tIf(t:TT)(ta tb:TE):TE:=λσ H Q=>t σ H λc H1=>if c=true then ta σ H1 Q else tb σ H1 Q
theorem N5{c:Expr}(B:PT X c tA)(ha:PE X a ta)(D:PE X b tb):PE X (.IfExp c a b pos) (tIf tA ta tb):=by
 intro pins s σ H Q I h;refine wpAny_IfExp (thn (B pins s σ H _ I h) λd s1 ⟨H1,Z,q1⟩=>?_)
 cases d with
 |true=>exact ha pins s1 σ H1 Q Z q1
 |false=>exact D pins s1 σ H1 Q Z q1
end
end L2
variable{K:PySem.W.Frag}{X:L2.Cx}{es:List Expr}{n:Nat}{tg:Expr}{pos':Pos}{H':L2.Hp}
namespace L2
def SqL(K:PySem.W.Frag)(H:Hp)(a:Addr)(xs:List V):Prop:=
 Rd H a (.lst xs) \/
  ∃(o:Obj)(its:Array Value)(n:Nat),K.lookup a=some o/\o.cls = .type "list"/\o.dict=none/\o.data = .seq its n/\its.size<=sizeLine/\Vals xs its.toList
def SqT(K:PySem.W.Frag)(H:Hp)(a:Addr)(xs:List V):Prop:=
 Rd H a (.tup xs) \/
  ∃(o:Obj)(its:Array Value)(n:Nat),K.lookup a=some o/\o.cls = .type "tuple"/\o.data = .seq its n/\its.size<=sizeLine/\Vals xs its.toList
noncomputable def aj2:Value->Option V
 | .none=>some .non
 | .bool b=>some (.bl b)
 | .int i _=>some (.int i)
 | .str x _=>some (.str x)
 | .bytes b _=>some (.byt b)
 | .float b _=>some (.flt b)
 | .ref a=>some (.ref a)
 | .type n=>some (.ty n)
 |_=>none
theorem RelV.abs{x:V}{u:Value}(r:RelV x u):aj2 u=some x:=by
 cases x with
 |non=>cases r;rfl
 |bl _=>cases r;rfl
 |int _=>obtain⟨t,rfl⟩:=r;rfl
 |str _=>obtain⟨t,rfl⟩:=r;rfl
 |byt _=>obtain⟨t,rfl⟩:=r;rfl
 |flt _=>obtain⟨t,rfl⟩:=r;rfl
 |ref _=>cases r;rfl
 |ty _=>cases r;rfl
theorem RelV.inj{x y:V}{u:Value}(r:RelV x u)(q:RelV y u):x=y:=cO.inj (r.abs.symm.trans q.abs)
theorem Vals.inj:∀{xs ys:List V}{us:List Value},Vals xs us->Vals ys us->xs=ys
 |_,_,_,.nil,.nil=>rfl
 |_,_,_,.cons r t,.cons r' t'=>by rw[r.inj r',Vals.inj t t']
section
variable{X:Cx}{pins:List (Addr×Obj)}{σ:St}{H:Hp}{s:eS}{a:Addr}{xs ys:List V}
theorem SqL.of(h:H a=some (.lst xs)):SqL K H a xs:=.inl (.inl h)
theorem Inv.list(I:Inv X pins σ H s)(h:SqL X.K H a xs):∃its:List Value,Vals xs its/\PlainL s.heap a its.toArray/\xs.length<=sizeLine:=by
 rcases h with h|⟨o,its,n,Z,Y,hd,hs,W,r⟩
 ·obtain⟨z,its,n,r,e⟩:=h.ok I.hok;exact⟨its,r,⟨_,n,e,rfl,rfl,rfl⟩,z⟩
 ·refine⟨its.toList,r,⟨o,n,I.kIn a o Z,Y,hd,by simpa using hs⟩,?_⟩;have e:=r.length;simp only[aY]at e;omega
theorem Inv.tuple(I:Inv X pins σ H s)(h:SqT X.K H a xs):∃its:List Value,Vals xs its/\g9 s.heap a its.toArray/\xs.length<=sizeLine:=by
 rcases h with h|⟨o,its,n,Z,Y,hs,W,r⟩
 ·obtain⟨z,its,r,p⟩:=h.ok I.hok;exact⟨its,r,p,z⟩
 ·refine⟨its.toList,r,⟨o,I.kIn a o Z,Y,n,by simpa using hs⟩,?_⟩;have e:=r.length;simp only[aY]at e;omega
theorem Inv.list_inj(I:Inv X pins σ H s)(h:SqL X.K H a xs)(h':SqL X.K H a ys):xs=ys:=by
 obtain⟨its,r,⟨o,n,e,_,_,d⟩,_⟩:=I.list h;obtain⟨Z,r',⟨o',U,Y,_,_,W⟩,_⟩:=I.list h';rw[e]at Y;cases Y;rw[d]at W;injection W with V _
 have:its=Z:=by simpa using congrArg Array.toList V
 subst this;exact r.inj r'
theorem Inv.tuple_inj(I:Inv X pins σ H s)(h:SqT X.K H a xs)(h':SqT X.K H a ys):xs=ys:=by
 obtain⟨its,r,⟨o,e,_,n,d⟩,_⟩:=I.tuple h;obtain⟨Z,r',⟨o',Y,_,U,W⟩,_⟩:=I.tuple h';rw[e]at Y;cases Y;rw[d]at W;injection W with V _
 have:its=Z:=by simpa using congrArg Array.toList V
 subst this;exact r.inj r'
end
abbrev Cx.wish(X:Cx)(E:Value->eS->Prop):Cx:={X with xe:=E}
abbrev Cx.nox(X:Cx):Cx:=X.wish λ_ _=>False
theorem Cx.Ok.wish(ok:X.Ok)(E:Value->eS->Prop):(X.wish E).Ok:=
 ⟨ok.mod,ok.kind,ok.glob,ok.blt,ok.above,ok.inj,ok.has,ok.cab,ok.hd,ok.frames,ok.stk,ok.exf,ok.bs,ok.bsz,ok.noex,ok.exfs,ok.funs,ok.frf⟩
theorem Cx.Ok.unwish(ok:(X.wish E).Ok):X.Ok:=
 ⟨ok.mod,ok.kind,ok.glob,ok.blt,ok.above,ok.inj,ok.has,ok.cab,ok.hd,ok.frames,ok.stk,ok.exf,ok.bs,ok.bsz,ok.noex,ok.exfs,ok.funs,ok.frf⟩
section
variable{X:Cx}{pins:List (Addr×Obj)}{σ:St}{H:Hp}{s:eS}{E:Value->eS->Prop}
theorem Inv.wish(I:Inv X pins σ H s)(E:Value->eS->Prop):Inv (X.wish E) pins σ H s:=⟨I.ok.wish E,I.os,I.bare,I.base,I.loc,I.cell,I.free,I.freeC,I.pin,I.hok,I.len⟩
theorem Inv.unwish(I:Inv (X.wish E) pins σ H s):Inv X pins σ H s:=⟨I.ok.unwish,I.os,I.bare,I.base,I.loc,I.cell,I.free,I.freeC,I.pin,I.hok,I.len⟩
theorem SP.unwish{D:Ends}{f:Flow}{s':eS}(h:SP (X.wish E) pins D f s'):SP X pins D f s':=by
 cases f with
 |next=>obtain⟨σ',H',I,q⟩:=h;exact⟨σ',H',I.unwish,q⟩
 |brk=>obtain⟨σ',H',I,q⟩:=h;exact⟨σ',H',I.unwish,q⟩
 |cont=>obtain⟨σ',H',I,q⟩:=h;exact⟨σ',H',I.unwish,q⟩
 |ret u=>obtain⟨v,σ',H',I,r,q⟩:=h;exact⟨v,σ',H',I.unwish,r,q⟩
theorem PSs.nox{st:List hI}{t:TS}(h:PSs X.nox st t):PSs X st t:=λpins s σ H D I hw=>
 a5 (h pins s σ H D (I.wish _) hw) (λ_ _ q=>q.unwish) λ_ _ z=>gL z
end
section
variable{X:Cx}{st:hI}{rest:List hI}{t u:TS}{e:Expr}{te:TE}{pos:Pos}
def ZX:TS:=λD σ H=>D.nx σ H
def aj3(t u:TS):TS:=λD σ H=>t {D with nx:=u D} σ H
theorem Tv:PSs X [] ZX:=λ_ _ σ H _ I h=>eg ⟨σ,H,I,h⟩
theorem N6(h1:PS X st t)(h2:PSs X rest u):PSs X (st::rest) (aj3 t u):=by
 intro pins s σ H D I h;refine wpAny_execs_cons (thn (h1 pins s σ H {D with nx:=u D} I h) λf s1 q=>?_)
 cases f with
 |next=>
  obtain⟨σ',H',Z,q⟩:=q;exact h2 pins s1 σ' H' D Z q
 |ret v=>exact q
 |brk=>exact q
 |cont=>exact q
theorem Tw(h1:PS X st t):PSs X [st] t:=by
 intro pins s σ H D I h;refine wpAny_execs_cons (thn (h1 pins s σ H D I h) λf s1 q=>?_)
 cases f with
 |next=>exact eg q
 |ret v=>exact q
 |brk=>exact q
 |cont=>exact q
theorem Inv.quiet{σ:St}(I:Inv X pins σ H s):interactive X.env=false:=by simp[interactive,I.ok.kind]
def Z0(te:TE):TS:=λD σ H=>te σ H λ_ H1=>D.nx σ H1
theorem vf(B:PE X e te)(hs:swapsWith e none pos.line X.env=pure false:=by rfl):PS X (.Expr e pos) (Z0 te):=by
 intro pins s σ H D I h;exact wpAny_Expr_any (thn (B pins s σ H _ I h) λv s1 ⟨x,H1,Z,Y,q1⟩=>⟨σ,H1,Z,q1⟩) I.quiet hs
def aj4(te:TE):TS:=λD σ H=>te σ H D.rt
theorem N7(B:PE X e te):PS X (.Return (some e) pos) (aj4 te):=by
 intro pins s σ H D I h;exact wpAny_Return_some (thn (B pins s σ H _ I h) λv s1 ⟨x,H1,Y,Z,q1⟩=>⟨x,σ,H1,Y,Z,q1⟩)
def aj5(c:TT)(t u:TS):TS:=λD σ H=>c σ H λb H1=>if b=true then t D σ H1 else u D σ H1
theorem Z1{c:Expr}{a b:List hI}{tc:TT}(B:PT X c tc)(ha:PSs X a t)(J:PSs X b u):PS X (.If c a b pos) (aj5 tc t u):=by
 intro pins s σ H D I h;refine wpAny_If (thn (B pins s σ H _ I h) λd s1 ⟨H1,Z,q1⟩=>?_)
 cases d with
 |true=>exact ha pins s1 σ H1 D Z q1
 |false=>exact J pins s1 σ H1 D Z q1
def Xn:TS:=λ_ _ _=>False
theorem N8:PS X st Xn:=λ_ _ _ _ _ _ h=>h.elim
end
abbrev TG:=V->St->Hp->(St->Hp->Prop)->Prop
abbrev TGs:=List V->St->Hp->(St->Hp->Prop)->Prop
def PG(X:Cx)(target:Expr)(t:TG):Prop:=
 ∀(pins:List (Addr×Obj))(s:eS)(σ:St)(H:Hp)(v:V)(u:Value)(Q:St->Hp->Prop),Inv X pins σ H s->RelV v u->t v σ H Q ->
  wpAny (model X.prog X.w) X.A (assign target X.env u) (λ_ s'=>∃σ' H',Inv X pins σ' H' s'/\Q σ' H') X.xe s
def PGs(X:Cx)(ts:List Expr)(t:TGs):Prop:=
 ∀(pins:List (Addr×Obj))(s:eS)(σ:St)(H:Hp)(vs:List V)(us:List Value)(Q:St->Hp->Prop),Inv X pins σ H s->Vals vs us->t vs σ H Q ->
  wpAny (model X.prog X.w) X.A (assignInOrder ((assignEach ts X.env).map (·.2)) us) (λ_ s'=>∃σ' H',Inv X pins σ' H' s'/\Q σ' H') X.xe s
abbrev Xo:=V->V->V->Hp->(Hp->Prop)->Prop
def Tz(X:Cx)(t:Xo):Prop:=
 ∀(pins:List (Addr×Obj))(s:eS)(σ:St)(H:Hp)(o i v:V)(Z Y u:Value)(Q:Hp->Prop),Inv X pins σ H s->RelV o Z->RelV i Y->RelV v u->t o i v H Q ->
  wpAny (model X.prog X.w) X.A (setItem Z Y u) (λ_ s'=>∃H',Inv X pins σ H' s'/\Q H') X.xe s
section
variable{X:Cx}{pos:Pos}
def N_(i:Nat):TG:=λv σ H Q=>Q (σ.set i (some v)) H
theorem TF(J:X.N.Nodup)(hi:X.N[i]? = some x)(B:Loc X.env.scope x)(D:X.fn x=true\/X.env.scope.names.lookup x=some .local:=by first|exact .inl rfl|exact .inr rfl|assumption):PG X (.Name x pos) (N_ i):=by
 intro pins s σ H v u Q I r h;exact wpAny_assign_Name (EY I J hi B r (λs' Z=>⟨_,H,Z,h⟩) D)
def aj6:TGs:=λvs σ H Q=>vs=[]/\Q σ H
def Z2(t:TG)(u:TGs):TGs:=λvs σ H Q=>∃v r,vs=v::r/\t v σ H λσ' H'=>u r σ' H' Q
theorem TJ:PGs X [] aj6:=by
 intro pins s σ H vs us Q I r h;obtain⟨e,h⟩:=h;subst e
 cases r;exact assignInOrder_nil ⟨σ,H,I,h⟩
theorem Oa{t:TG}{u:TGs}(h1:PG X e t)(h2:PGs X es u)
 (hs:(assignEach (e::es) X.env).map (·.2)=assign e X.env::(assignEach es X.env).map (·.2):=by rfl):PGs X (e::es) (Z2 t u):=by
 intro pins s σ H vs us Q I r h;obtain⟨v,U,W,h⟩:=h;subst W
 cases r with
 |cons r Y=>
  rw[hs];refine assignInOrder_cons (thn (h1 pins s σ H _ _ _ I r h) λ_ s1 ⟨Z,H1,V,q1⟩=>?_);exact h2 pins s1 Z H1 _ _ Q V Y q1
def aj7(K:PySem.W.Frag)(n:Nat)(t:TGs):TG:=λv σ H Q=>∃a xs,v = .ref a/\SqT K H a xs/\xs.length=n/\t xs σ H Q
theorem Xp{k:Nat}{t:TGs}(D:X.calm=true)(h:PGs X es t)
 (hn:(assignEach es X.env).length=n:=by rfl) (B:(assignEach es X.env).findIdx? (·.1)=none:=by rfl):PG X (.Tuple es k pos) (aj7 X.K n t):=by
 intro pins s σ H v u Q I r hw;obtain⟨a,xs,T,V,U,hw⟩:=hw;subst T
 cases r;obtain⟨its,Z,W,R⟩:=I.tuple V;refine assign_Tuple_tuple (I.ok.hd D) W (by simp[hn,<-U,Z.length]) B λh' Y=>?_
 have S:=I.kept (t':=s.toks) λb o e=>Y b o (aP (af e)) e
 exact h pins _ σ H xs _ Q S (by simpa using Z) hw
def vg(to ti:TE)(t:Xo):TG:=λv σ H Q=>to σ H λo H1=>ti σ H1 λi H2=>t o i v H2 λZ=>Q σ Z
theorem Ob{o i:Expr}{to ti:TE}{t:Xo}(J:PE X o to)(hi:PE X i ti)(hs:Tz X t)
 (ha:∀v,assign (.Subscript o i pos) X.env v=(do
  let B <-holding [v] (eval o X.env)
  let D <-holding [v,B] (eval i X.env)
  standAt pos
  holding [v,B,D] (setItem B D v)
  release [v,B,D] []):=by intro _;rfl):PG X (.Subscript o i pos) (vg to ti t):=by
 intro pins s σ H v u Q I r h;rw[ha];refine aa (ap (thn (J pins s σ H _ I h) λB s1 ⟨x,H1,T,Y,q1⟩=>?_));refine aa (ap (thn (hi pins s1 σ H1 _ T q1) λD s2 ⟨y,H2,U,Z,q2⟩=>?_));refine aa (df (aa (ap (thn (hs pins s2 σ H2 x y v B D u _ U Y Z r q2) λ_ s3 ⟨S,V,W⟩=>?_))));exact wpAny_release ⟨σ,S,V,W⟩
def Xq(te:TE)(g:TG):TS:=λD σ H=>te σ H λx H1=>g x σ H1 D.nx
theorem H_{te:TE}{g:TG}(J:PE X e te)(B:PG X tg g)(hs:swapsWithSole [tg] e pos.line X.env=pure false:=by rfl)(hw:swappedStores [tg] e X.env=pure none:=by rfl)
 (h1:(assignEach [tg] X.env).map (·.2)=[assign tg X.env]:=by rfl):PS X (.Assign [tg] e pos) (Xq te g):=by
 intro pins s σ H D I h;refine wpAny_Assign_stores (thn (J pins s σ H _ I h) λv s1 ⟨x,H1,Y,Z,q1⟩=>?_) hs hw;rw[h1];exact thn (B pins s1 σ H1 x v _ Y Z q1) λ_ s2 q=>q
theorem Ia{te:TE}(W:X.N.Nodup)(hi:X.N[i]? = some x)(B:Loc X.env.scope x)(O:PE X e te)(hs:swapsWith e (some (.Name x pos')) pos.line X.env=pure false:=by rfl)(J:X.fn x=true\/X.env.scope.names.lookup x=some .local:=by first|exact .inl rfl|exact .inr rfl|assumption):
 PS X (.Assign [.Name x pos'] e pos) (Xq te (N_ i)):=by
 intro pins s σ H D I h;refine wpAny_Assign_Name (thn (O pins s σ H _ I h) λv s1 ⟨y,H1,V,Z,q1⟩=>?_) hs;exact EY V W hi B Z (λs2 Y=>⟨_,H1,Y,q1⟩) J
end
section
variable{X:Cx}{pos:Pos}
end
structure It where
 go:Nat->Hp->Prop
 yld:Nat->Hp->V->Hp->Prop
 stop:Nat->Hp->Prop
def wu(X:Cx)(pins:List (Addr×Obj))(H:Hp)(b:Addr):Prop:=
 H b=none/\b≠X.env.locals/\b∉X.fs/\(b∈X.ex\/X.s₀.heap.objs.size<=b)/\(∀x c,X.env.cells.lookup x=some c->c≠b)/\∀p∈X.pn++pins,p.1≠b
theorem Inv.fpOk{σ:St}(I:Inv X pins σ H s)(B:s.heap.objs.size<=b)(hn:H' b=none):wu X pins H' b:=by
 refine⟨hn,lM (bQ I.lt B),I.nofs B,.inr (aW I.sz B),λx c e z=>?_,λp Z z=>?_⟩
 ·obtain⟨v,q⟩:=I.cell x c e;exact absurd (bQ q.lt (by rwa[z])) (eF _)
 ·exact absurd (bQ (af (I.pin p Z).1) (by rwa[z])) (eF _)
structure Turn(P:e9)(w:fy)(K:PySem.W.Frag)(tg:Expr)(J:It)(fp:List Addr)(it:Addr)(tn:Nat->f8->Prop):Prop where
 mem:it∈fp
 obj:∀i h,tn i h->∀b∈fp,∃o,h.get? b=some o/\∀v,o.data ≠ .cell v
 keep:∀i h h',tn i h->(∀b∈fp,∀o,h.get? b=some o->h'.get? b=some o)->tn i h'
 item:∀(X:Cx),X.prog=P->X.w=w->X.K=K->X.calm=true->∀(i:Nat)(pins:List (Addr×Obj))(s:eS)(σ:St)(H:Hp)(E:Value->eS->Prop),Inv X pins σ H s->(∀b∈fp,wu X pins H b)->tn i s.heap->J.go i H ->
  wpAny (model P w) X.A (pyNext (.ref it)) (λr s1=>∃u,r=some u /\
   wpAny (model P w) X.A (letOwnedTupleGo tg (.ref it) u) (λ_ s2=>∃x H',Inv X pins σ H' s2/\RelV x u/\J.yld i H x H'/\tn (i+1) s2.heap/\∀b∈fp,H' b=none) E s1) E s
 done:∀(X:Cx),X.prog=P->X.w=w->X.K=K->X.calm=true->∀(i:Nat)(pins:List (Addr×Obj))(s:eS)(σ:St)(H:Hp)(E:Value->eS->Prop),Inv X pins σ H s->(∀b∈fp,wu X pins H b)->tn i s.heap->J.stop i H ->
  wpAny (model P w) X.A (pyNext (.ref it)) (λr s1=>r=none/\Inv X pins σ H s1) E s
 self:∀(A:fm)(i:Nat)(s:eS)(Q:Value->eS->Prop)(E:Value->eS->Prop),tn i s.heap->Q (.ref it) s->wpAny (model P w) A (pyIter (.ref it)) Q E s
abbrev TI:=St->Hp->(It->Hp->Prop)->Prop
def PIE(X:Cx)(pins:List (Addr×Obj))(σ:St)(tg:Expr)(R:It->Hp->Prop)(B:Value)(s2:eS):Prop:=
 ∃(it:Addr)(fp:List Addr)(tn:Nat->f8->Prop)(J:It)(H':Hp),B = .ref it/\Inv X pins σ H' s2/\Turn X.prog X.w X.K tg J fp it tn/\tn 0 s2.heap/\(∀b∈fp,wu X pins H' b)/\R J H'
def PI(X:Cx)(tg iter:Expr)(wi:TI):Prop:=
 ∀(pins:List (Addr×Obj))(s:eS)(σ:St)(H:Hp)(R:It->Hp->Prop),Inv X pins σ H s->wi σ H R ->
  wpAny (model X.prog X.w) X.A (eval iter X.env) (λv s1=>wpAny (model X.prog X.w) X.A (pyIter v) (PIE X pins σ tg R) X.xe s1) X.xe s
theorem E_{u:Value}{o:Obj}{n:String}{vs:Array Value}{Q:Unit->eS->Prop}(D:s.heap.get? it=some o)(J:o.cls = .type n)(hd:o.data = .fields vs)
 (hn:["enumerate", "zip", "dict_itemiterator", "dict_reverseitemiterator", "odict_iterator", "itertools.zip_longest", "itertools.pairwise"].contains n=false) (B:Q () s):wpAny M A (letOwnedTupleGo tg (.ref it) u) Q E s:=by
 cases tg<;>first
  |exact ae B
  | (cases u<;>first
   |exact ae B
   | (refine aa (wpAny_load D ?_)
      rw[J,hd];show wpAny M A (if(["enumerate", "zip", "dict_itemiterator", "dict_reverseitemiterator", "odict_iterator", "itertools.zip_longest", "itertools.pairwise"].contains n&&vs[0]? == some (rawInt _))=true then _ else _) Q E s;rw[if_neg (by intro h;rw[hn,Bool.false_and]at h;cases h)];exact ae B))
noncomputable def Itl(K:PySem.W.Frag)(a:Addr):It:=
 ⟨λi H=>∃xs x,SqL K H a xs/\xs[i]? = some x,λi H x H'=>H'=H/\∀xs,SqL K H a xs->xs[i]? = some x,λi H=>∃xs,SqL K H a xs/\xs.length<=i⟩
noncomputable def Itt(K:PySem.W.Frag)(a:Addr):It:=
 ⟨λi H=>∃xs x,SqT K H a xs/\xs[i]? = some x,λi H x H'=>H'=H/\∀xs,SqT K H a xs->xs[i]? = some x,λi H=>∃xs,SqT K H a xs/\xs.length<=i⟩
noncomputable def Itr(lo:Int)(n:Nat):It:=⟨λi _=>i<n,λi H x H'=>H'=H/\x = .int (lo+i),λi _=>n<=i⟩
theorem Lx(a it:Addr):Turn P w K tg (Itl K a) [it] it (λi h=>h.IsListIter it a i) where
 mem:=by simp
 obj:=λi h st b Z=>by
  have e:b=it:=by simpa using Z
  subst e;obtain⟨o,e,c,d⟩:=st;exact⟨o,e,λv z=>by rw[d]at z;cases z⟩
 keep:=λi h h' st k=>st.at λo e=>k it (by simp) o e
 item:=by
  intro X T hw S M i pins s σ H E I W st U;subst T hw S;obtain⟨xs,x,Y,N⟩:=U;obtain⟨its,V,p,G⟩:=I.list Y;obtain⟨u,hu,J⟩:=V.get N;obtain⟨O,f1,f2,f3,Q,R⟩:=W it (by simp);refine wpAny_pyNext_list_item st p.isList (x:=u) (by simpa using hu) λh' st' L=>?_
  have C:=I.turned (t':=s.toks) (λb o Z e=>(L.2 b Z).trans e) O f1 f3 Q R;obtain⟨o,e,c,d⟩:=id st';exact⟨u,rfl,E_ (s:={s with heap:=h'}) e c d (by decide) ⟨x,H,C,J,⟨rfl,λys F=>by rwa[I.list_inj F Y]⟩,st',λb Z=>(W b Z).1⟩⟩
 done:=by
  intro X T hw S M i pins s σ H E I W st U;subst T hw S;obtain⟨xs,Y,N⟩:=U;obtain⟨its,V,p,G⟩:=I.list Y;obtain⟨O,f1,f2,f3,Q,R⟩:=W it (by simp);have B:=V.length;exact wpAny_pyNext_list_end (I.ok.hd M) st p.isList (by simp;omega) λh' D=>⟨rfl,I.turned (t':=s.toks) (λb o Z e=>D b o Z e) O f1 f3 Q R⟩
 self:=λ_ _ _ _ _ st h=>wpAny_pyIter_listiter st h
theorem Ie(a it:Addr):Turn P w K tg (Itt K a) [it] it (λi h=>h.IsTupleIter it a i) where
 mem:=by simp
 obj:=λi h st b Z=>by
  have e:b=it:=by simpa using Z
  subst e;obtain⟨o,e,c,d⟩:=st;exact⟨o,e,λv z=>by rw[d]at z;cases z⟩
 keep:=λi h h' st k=>st.at λo e=>k it (by simp) o e
 item:=by
  intro X T hw S M i pins s σ H E I W st U;subst T hw S;obtain⟨xs,x,Y,N⟩:=U;obtain⟨its,V,p,G⟩:=I.tuple Y;obtain⟨u,hu,J⟩:=V.get N;obtain⟨O,f1,f2,f3,Q,R⟩:=W it (by simp);refine wpAny_pyNext_tuple_item st (show s.heap.IsTuple a its.toArray from p) (x:=u) (by simpa using hu) λh' st' L=>?_
  have C:=I.turned (t':=s.toks) (λb o Z e=>(L.2 b Z).trans e) O f1 f3 Q R;obtain⟨o,e,c,d⟩:=id st';exact⟨u,rfl,E_ (s:={s with heap:=h'}) e c d (by decide) ⟨x,H,C,J,⟨rfl,λys F=>by rwa[I.tuple_inj F Y]⟩,st',λb Z=>(W b Z).1⟩⟩
 done:=by
  intro X T hw S M i pins s σ H E I W st U;subst T hw S;obtain⟨xs,Y,N⟩:=U;obtain⟨its,V,p,G⟩:=I.tuple Y;obtain⟨O,f1,f2,f3,Q,R⟩:=W it (by simp);have B:=V.length;exact wpAny_pyNext_tuple_end (I.ok.hd M) st (show s.heap.IsTuple a its.toArray from p) (by simp;omega) λh' D=>⟨rfl,I.turned (t':=s.toks) (λb o Z e=>D b o Z e) O f1 f3 Q R⟩
 self:=λ_ _ _ _ _ st h=>wpAny_pyIter_tupleiter st h
theorem Ig(it:Addr)(lo:Int)(n:Nat):Turn P w K tg (Itr lo n) [it] it (λi h=>IsRangeIter h it (lo+(i:Nat)*1) ((n:Int)-(i:Nat)) 1) where
 mem:=by simp
 obj:=λi h st b Z=>by
  have e:b=it:=by simpa using Z
  subst e;exact⟨_,st,λv z=>by
   have N:Data.fields _=Data.cell v:=z
   cases N⟩
 keep:=λi h h' st k=>k it (by simp) _ st
 item:=by
  intro X T hw S U i pins s σ H E I Y st V;subst T hw S;obtain⟨O,f1,f2,f3,Q,R⟩:=Y it (by simp);have W:=Walks.range (prog:=X.prog) (w:=X.w) (I.ok.hd U) it lo 1 n;refine W.item i s _ _ V st λv h' tk L st' M=>?_
  obtain⟨t,rfl⟩:=L;have G:Inv X pins σ H {s with heap:=h',toks:=tk}:=I.turned (λb o Z e=>M b o (by simpa using Z) e) O f1 f3 Q R;refine⟨_,rfl,E_ (s:={s with heap:=h',toks:=tk}) (n := "range_iterator") st' rfl rfl (by decide) ⟨.int (lo+i),H,G,⟨t,?_⟩,⟨rfl,rfl⟩,st',λb Z=>(Y b Z).1⟩⟩;rw[Int.mul_one]
 done:=by
  intro X T hw S U i pins s σ H E I Y st V;subst T hw S;obtain⟨O,f1,f2,f3,Q,R⟩:=Y it (by simp);exact wpAny_pyNext_range_end (I.ok.hd U) st (by have:n<=i:=V;omega) λh' J=>⟨rfl,I.turned (t':=s.toks) (λb o Z e=>J b o Z e) O f1 f3 Q R⟩
 self:=λ_ _ _ _ _ st h=>wpAny_pyIter_rangeiter st h
end L2
variable{tl:L2.TE}{p:Pos}{fp:List Addr}{iter:Expr}
namespace L2
section
variable{X:Cx}{tg:Expr}
def Z4(K:PySem.W.Frag)(tl:TE):TI:=λσ H R=>tl σ H λx H1=>∃a,x = .ref a/\(∃xs,SqL K H1 a xs)/\R (Itl K a) H1
def TQ(K:PySem.W.Frag)(tl:TE):TI:=λσ H R=>tl σ H λx H1=>∃a,x = .ref a/\(∃xs,SqT K H1 a xs)/\R (Itt K a) H1
theorem JM{l:Expr}(B:PE X l tl):PI X tg l (Z4 X.K tl):=by
 intro pins s σ H R I h;refine thn (B pins s σ H _ I h) λv s1 ⟨x,H1,Z,Y,q1⟩=>?_
 obtain⟨a,e,⟨xs,W⟩,q⟩:=q1;subst e
 cases Y;obtain⟨its,U,p,T⟩:=Z.list W;refine dt p.isList ?_;refine⟨s1.heap.objs.size,[s1.heap.objs.size],_,_,H1,rfl,Z.kept (t':=s1.toks) λb o e=>ad _ e,Lx a _,⟨_,ag _ rfl,rfl,rfl⟩,λb V=>?_,q⟩;have e:b=s1.heap.objs.size:=by simpa using V
 subst e;exact Z.fpOk (aB _) (Z.hok.fresh (aB _))
theorem Ih{l:Expr}(B:PE X l tl):PI X tg l (TQ X.K tl):=by
 intro pins s σ H R I h;refine thn (B pins s σ H _ I h) λv s1 ⟨x,H1,Z,Y,q1⟩=>?_
 obtain⟨a,e,⟨xs,W⟩,q⟩:=q1;subst e
 cases Y;obtain⟨its,U,p,T⟩:=Z.tuple W;refine b7 (show s1.heap.IsTuple a its.toArray from p) ?_;refine⟨s1.heap.objs.size,[s1.heap.objs.size],_,_,H1,rfl,Z.kept (t':=s1.toks) λb o e=>ad _ e,Ie a _,⟨_,ag _ rfl,rfl,rfl⟩,λb V=>?_,q⟩;have e:b=s1.heap.objs.size:=by simpa using V
 subst e;exact Z.fpOk (aB _) (Z.hok.fresh (aB _))
theorem Od{σ:St}{R:It->Hp->Prop}{lo hi:Int}{t u v:Tok}{tk:Nat}(I:Inv X pins σ H s)(h1 : -(2^62)<=lo)(h2:lo<2^62)(D : -(2^62)<=hi)(B:hi<2^62)
 (q:R (Itr lo (hi-lo).toNat) H):wpAny (model X.prog X.w) X.A (pyIter (.ref s.heap.objs.size)) (PIE X pins σ tg R) E {s with heap:=s.heap.push {cls:=.type "range", data:=.fields #[.int lo t,.int hi u,.int 1 v]},toks:=tk}:=by
 refine wpAny_pyIter_range (IsRange.new ..) (small_one h1 h2 D B) ?_;have Z:Inv X pins σ H {s with heap:=s.heap.push {cls:=.type "range", data:=.fields #[.int lo t,.int hi u,.int 1 v]},toks:=tk}:=I.kept λb o e=>ad _ e
 refine⟨(s.heap.push {cls:=.type "range", data:=.fields #[.int lo t,.int hi u,.int 1 v]}).objs.size,[(s.heap.push {cls:=.type "range", data:=.fields #[.int lo t,.int hi u,.int 1 v]}).objs.size],_,_,H,rfl,
  Z.kept (t':=tk) λb o e=>ad _ e,Ig _ lo (hi-lo).toNat,?_,λb Y=>?_,q⟩
 ·have W:lo+((0:Nat):Int)*1=lo:=by simp
  have e2:(((hi-lo).toNat:Nat):Int)-((0:Nat):Int)=gE lo hi 1:=by rw[rangeSize_one];split<;>omega
  rw[W,e2];exact ag _ rfl
 ·have e:b=(s.heap.push {cls:=.type "range", data:=.fields #[.int lo t,.int hi u,.int 1 v]}).objs.size:=by simpa using Y
  subst e;exact Z.fpOk (aB _) (Z.hok.fresh (aB _))
def Z5(ta:TA):TI:=λσ H R=>ta σ H λvs H1=>∃j:Int,vs=[.int j]/\-(2^62)<=j/\j<2^62/\R (Itr 0 j.toNat) H1
theorem Ly{a:Expr}{ta:TA}(B:Gl X "range")(hm:X.mg "range"=none)(ha:PA X [a] ta)(hs:starEach [a] X.env=[(false,eval a X.env)]:=by rfl):PI X tg (.Call (.Name "range" p) [a] [] pos) (Z5 ta):=by
 intro pins s σ H R I h;refine Call_ (nH I B hm boot_range (fw (thn (ha pos pins s σ H _ I h) λus s1 ⟨vs,H1,W,Y,q1⟩=>?_) hs rfl));obtain⟨j,e,q1,q2,q⟩:=q1;subst e
 cases Y with
 |cons r Z=>
  cases Z;obtain⟨t,rfl⟩:=r;exact call_range_1 (Od W (by omega) (by omega) q1 q2 (by simpa using q))
def aj8(wi:TI)(g:TG)(tb:TS):TS:=λD σ H=>wi σ H λJ H1=>∃W:Nat->Nat->St->Hp->Prop,(∃m,W 0 m σ H1)/\∀i m σ H,W i m σ H ->
 (J.stop i H/\D.nx σ H)\/(J.go i H/\∃N:St->Hp->Prop,(∀σ' H',N σ' H'->∃Y,Y<m/\W (i+1) Y σ' H')/\∀x H',J.yld i H x H'->g x σ H' λZ H2=>tb {D with nx:=N,ct:=N,bk:=D.nx} Z H2)
def yM(fp:List Addr)(h:f8):List (Addr×Obj):=fp.filterMap λb=>(h.get? b).map λo=>(b,o)
theorem qJ{o:Obj}(B:b∈fp)(e:h.get? b=some o):(b,o)∈yM fp h:=kW.mpr ⟨b,B,by rw[e];rfl⟩
theorem Lz{p:Addr×Obj}(B:p∈yM fp h):p.1∈fp/\h.get? p.1=some p.2:=by
 obtain⟨b,Z,e⟩:=kW.mp B
 cases q:h.get? b with
 |none=>rw[q]at e;cases e
 |some o=>
  rw[q]at e;have Y:(b,o)=p:=cO.inj e;subst Y;exact⟨Z,q⟩
theorem Inv.pinned{σ:St}(I:Inv X pins σ H s)(D:∀b∈fp,wu X pins H b)(B:∀b∈fp,∃o,s.heap.get? b=some o/\∀v,o.data ≠ .cell v):Inv X (pins++yM fp s.heap) σ H s:=
 I.pins_of λp W=>(bZ.mp W).elim (λz=>I.pin p (bx _ z)) λz=>by
  obtain⟨Z,e⟩:=Lz z;obtain⟨V,f1,f2,_⟩:=D p.1 Z;obtain⟨o,Y,d⟩:=B p.1 Z;rw[e]at Y;cases Y;exact⟨e,V,f1,f2,d⟩
theorem Inv.unpinned{pl:List (Addr×Obj)}{σ:St}(I:Inv X (pins++pl) σ H s):Inv X pins σ H s:=I.pins_of λp Z=>I.pin p (bx _ (bN _ Z))
theorem Xr{body:List hI}{wi:TI}{g:TG}{tb:TS}(hp:PassesOwn (model X.prog X.w) X.A X.env X.xe)(hc:X.calm=true)(hi:PI X tg iter wi)(hg:PG X tg g)(B:PSs X body tb)
 (hs:∀x,foldedSetIterable iter X.env x=pure x:=by intro _;rfl):PS X (.For tg iter body [] pos) (aj8 wi g tb):=by
 intro pins s σ H D I h;refine wpAny_For (thn (hi pins s σ H _ I h) λv s1 h1=>thn h1 λitv s2 h2=>?_) hs;obtain⟨it,fp,tn,J,H2,e,I2,T,G,f2,W,⟨m0,w0⟩,turn⟩:=h2;subst e;have V:∀{H':Hp},(∀b∈fp,H' b=none)->∀b∈fp,wu X pins H' b:=λhn b B=>⟨hn b B,(f2 b B).2⟩
 refine codeAny_forLoop_any (λn s'=>∃i σ' H',Inv X pins σ' H' s'/\tn i s'.heap/\(∀b∈fp,H' b=none)/\W i n σ' H') ?_ m0 ⟨0,σ,H2,I2,G,λb B=>(f2 b B).1,w0⟩;rintro n s3 ⟨i,Y,L,t,P,M,j⟩;rcases turn i n Y L j with⟨stop,qn⟩|⟨go,N,hN,step⟩
 ·refine bS hp (thn (T.done X rfl rfl rfl hc i pins s3 Y L X.xe t (V M) P stop) λr a ⟨E,I4⟩=>?_);subst E;exact eg ⟨Y,L,I4,qn⟩
 ·refine bS hp (thn (T.item X rfl rfl rfl hc i pins s3 Y L X.xe t (V M) P go) λr a ⟨u,E,h4⟩=>?_);subst E;refine bS hp (thn h4 λ_ y ⟨x,q,I5,r5,p,Q,C⟩=>?_);have z:=I5.pinned (V C) (T.obj _ _ Q);refine bS hp (thn (hg _ y Y q x u _ z r5 (step x q p)) λ_ c ⟨K,H6,I6,q6⟩=>?_);refine bS hp (thn (B _ c K H6 _ I6 q6) λf F R=>?_);have again:∀{Z:St}{S:Hp},Inv X (pins++yM fp y.heap) Z S F->N Z S->∃m,m<n/\∃i σ' H',Inv X pins σ' H' F/\tn i F.heap/\(∀b∈fp,H' b=none)/\W i m σ' H':=λ{Z S} U O=>by
   obtain⟨m',hm,k⟩:=hN Z S O;refine⟨m',hm,i+1,Z,S,U.unpinned,T.keep _ _ _ Q λb B o e=>(U.pin (b,o) (bx _ (bx _ (qJ B e)))).1,λb B=>?_,k⟩;obtain⟨o,e,d⟩:=T.obj _ _ Q b B;exact(U.pin (b,o) (bx _ (bx _ (qJ B e)))).2.1
  cases f with
  |next=>obtain⟨Z,S,U,O⟩:=R;exact again U O
  |cont=>obtain⟨Z,S,U,O⟩:=R;exact again U O
  |brk=>obtain⟨Z,S,U,R⟩:=R;exact⟨Z,S,U.unpinned,R⟩
  |ret v=>obtain⟨l,Z,S,U,r7,R⟩:=R;exact⟨l,Z,S,U.unpinned,r7,R⟩
end
end L2
variable{op':CmpOp}
namespace L2
abbrev R2:=V->V->Hp->VK->Prop
def OpR(X:Cx)(f:Value->Value->Sem Value)(r:R2):Prop:=
 ∀(pins:List (Addr×Obj))(s:eS)(σ:St)(H:Hp)(x y:V)(v u:Value)(Q:VK),Inv X pins σ H s->RelV x v->RelV y u->r x y H Q ->
  wpAny (model X.prog X.w) X.A (f v u) (EP X pins σ Q) X.xe s
def UnR(X:Cx)(f:Value->Sem Value)(r:V->Hp->VK->Prop):Prop:=
 ∀(pins:List (Addr×Obj))(s:eS)(σ:St)(H:Hp)(x:V)(v:Value)(Q:VK),Inv X pins σ H s->RelV x v->r x H Q ->
  wpAny (model X.prog X.w) X.A (f v) (EP X pins σ Q) X.xe s
def lG(X:Cx)(f:Value)(r:List V->Hp->VK->Prop):Prop:=
 ∀(pins:List (Addr×Obj))(s:eS)(σ:St)(H:Hp)(xs:List V)(us:List Value)(Q:VK),Inv X pins σ H s->Vals xs us->r xs H Q ->
  wpAny (model X.prog X.w) X.A (call f us) (EP X pins σ Q) X.xe s
def tOp(r:R2)(ta tb:TE):TE:=λσ H Q=>ta σ H λx H1=>tb σ H1 λy H2=>r x y H2 Q
def tUn(r:V->Hp->VK->Prop)(ta:TE):TE:=λσ H Q=>ta σ H λx H1=>r x H1 Q
def rI(C:Int->Int->Prop)(g:Int->Int->V):R2:=λx y H Q=>∃i j,x = .int i/\y = .int j/\C i j/\Q (g i j) H
def rI0(g:Int->Int->V):R2:=λx y H Q=>∃i j,x = .int i/\y = .int j/\Q (g i j) H
def rU(g:Int->V):V->Hp->VK->Prop:=λx H Q=>∃i,x = .int i/\Q (g i) H
section
variable{X:Cx}{a b c:Expr}{ta tb tc:TE}{pos:Pos}
theorem Xu(ha:PE X a ta)(O:PE X b tb){pins:List (Addr×Obj)}{s:eS}{σ:St}{H:Hp}{R:V->V->Hp->Prop}(I:Inv X pins σ H s)
 (h:ta σ H λx H1=>tb σ H1 λy H2=>R x y H2) {Q:Value->eS->Prop} {f:Value->Value->Sem Value}
 (J:∀v u s2 x y H2,Inv X pins σ H2 s2->RelV x v->RelV y u->R x y H2->wpAny (model X.prog X.w) X.A (f v u) Q X.xe s2) :
 wpAny (model X.prog X.w) X.A (eval a X.env) (λv D=>wpAny (model X.prog X.w) X.A (eval b X.env) (λu B=>wpAny (model X.prog X.w) X.A (f v u) Q X.xe B) X.xe D) X.xe s:=by
 refine thn (ha pins s σ H _ I h) λv s1 ⟨x,H1,U,Y,q1⟩=>?_
 refine thn (O pins s1 σ H1 _ U q1) λu s2 ⟨y,H2,W,Z,q2⟩=>?_
 exact J v u s2 x y H2 W Y Z q2
theorem Oe{op:Operator}{r:R2}(B:OpR X (binaryOp op) r)(ha:PE X a ta)(D:PE X b tb):PE X (.BinOp a op b pos) (tOp r ta tb):=by
 intro pins s σ H Q I h;exact wpAny_BinOp (Xu ha D I h λv u s2 x y H2 W Y Z q=>B pins s2 σ H2 x y v u Q W Y Z q)
theorem Z6{op:UnaryOp}{r:V->Hp->VK->Prop}(B:UnR X (unaryOp op) r)(ha:PE X a ta):PE X (.UnaryOp op a pos) (tUn r ta):=by
 intro pins s σ H Q I h;exact UnaryOp_ (thn (ha pins s σ H _ I h) λv s1 ⟨x,H1,Y,Z,q1⟩=>B pins s1 σ H1 x v Q Y Z q1)
theorem opI{f:Value->Value->Sem Value}{C:Int->Int->Prop}{g:Int->Int->Int}
 (rule:∀(i j:Int)(t u:Tok)(s:eS)(Q:Value->eS->Prop)(E:Value->eS->Prop),C i j->Q (.int (g i j) s.toks) {s with toks:=s.toks+1}->wpAny (model X.prog X.w) X.A (f (.int i t) (.int j u)) Q E s) :
 OpR X f (rI C λi j=>.int (g i j)):=by
 intro pins s σ H x y v u Q I Y Z h;obtain⟨i,j,rfl,rfl,W,q⟩:=h;obtain⟨t,rfl⟩:=Y;obtain⟨t',rfl⟩:=Z;exact rule i j t t' s _ _ W ⟨.int (g i j),H,I.tok _,⟨_,rfl⟩,q⟩
theorem Z7{f:Value->Value->Sem Value}{g:Int->Int->Int}
 (rule:∀(i j:Int)(t u:Tok)(s:eS)(Q:Value->eS->Prop)(E:Value->eS->Prop),Q (.int (g i j) s.toks) {s with toks:=s.toks+1}->wpAny (model X.prog X.w) X.A (f (.int i t) (.int j u)) Q E s) :
 OpR X f (rI0 λi j=>.int (g i j)):=by
 intro pins s σ H x y v u Q I Y Z h;obtain⟨i,j,rfl,rfl,q⟩:=h;obtain⟨t,rfl⟩:=Y;obtain⟨t',rfl⟩:=Z;exact rule i j t t' s _ _ ⟨.int (g i j),H,I.tok _,⟨_,rfl⟩,q⟩
theorem TX{f:Value->Value->Sem Value}{g:Int->Int->Bool}
 (rule:∀(i j:Int)(t u:Tok)(s:eS)(Q:Value->eS->Prop)(E:Value->eS->Prop),Q (.bool (g i j)) s->wpAny (model X.prog X.w) X.A (f (.int i t) (.int j u)) Q E s) :
 OpR X f (rI0 λi j=>.bl (g i j)):=by
 intro pins s σ H x y v u Q I Y Z h;obtain⟨i,j,rfl,rfl,q⟩:=h;obtain⟨t,rfl⟩:=Y;obtain⟨t',rfl⟩:=Z;exact rule i j t t' s _ _ ⟨.bl (g i j),H,I,rfl,q⟩
def Xv(i j:Int):Prop:=0<=j/\j<=1000000/\i.natAbs<2^64
theorem gb:OpR X (binaryOp .Add) (rI0 λi j=>.int (i+j)):=Z7 λ_ _ _ _ _ _ _ q=>add_int q
theorem Cu:OpR X (binaryOp .Sub) (rI0 λi j=>.int (i-j)):=Z7 λ_ _ _ _ _ _ _ q=>sub_int q
theorem n6:OpR X (binaryOp .Mod) (rI (λ_ j=>j≠0) λi j=>.int (i.fmod j)):=opI λ_ _ _ _ _ _ _ Z q=>mod_int' Z q
theorem Xw:OpR X (binaryOp .Pow) (rI Xv λi j=>.int (i^j.toNat)):=opI λ_ _ _ _ _ _ _ Z q=>pow_int_small Z.1 Z.2.1 Z.2.2 q
theorem unI{f:Value->Sem Value}{g:Int->Int}
 (rule:∀(i:Int)(t:Tok)(s:eS)(Q:Value->eS->Prop)(E:Value->eS->Prop),Q (.int (g i) s.toks) {s with toks:=s.toks+1}->wpAny (model X.prog X.w) X.A (f (.int i t)) Q E s) :
 UnR X f (rU λi=>.int (g i)):=by
 intro pins s σ H x v Q I Z h;obtain⟨i,rfl,q⟩:=h;obtain⟨t,rfl⟩:=Z;exact rule i t s _ _ ⟨.int (g i),H,I.tok _,⟨_,rfl⟩,q⟩
theorem Xx:UnR X (unaryOp .USub) (rU λi=>.int (-i)):=unI λ_ _ _ _ _ q=>neg_int q
end
section
variable{X:Cx}{a b c:Expr}{ta tb tc:TE}{pos:Pos}
theorem JN:OpR X (compareOp .Lt) (rI0 λi j=>.bl (decide (i<j))):=TX λ_ _ _ _ _ _ _ q=>lt_int q
theorem lW:OpR X (compareOp .LtE) (rI0 λi j=>.bl (decide (i<=j))):=TX λ_ _ _ _ _ _ _ q=>le_int q
theorem Bk:OpR X (compareOp .Gt) (rI0 λi j=>.bl (decide (j<i))):=TX λ_ _ _ _ _ _ _ q=>gt_int q
theorem Z8:OpR X (compareOp .GtE) (rI0 λi j=>.bl (decide (j<=i))):=TX λ_ _ _ _ _ _ _ q=>ge_int q
theorem dZ(b:Expr){op:CmpOp}(h:op ≠ .In:=by decide)(h2:op ≠ .NotIn:=by decide):behindInMarks op b=false:=by
 have Z:(op==CmpOp.In)=false:=by cases op<;>first|rfl|exact absurd rfl h
 have e2:(op==CmpOp.NotIn)=false:=by cases op<;>first|rfl|exact absurd rfl h2
 cases b<;>simp[behindInMarks,Z,e2]
theorem TY{r:R2}(B:OpR X (compareOp op) r)(ha:PE X a ta)(D:PE X b tb)(hm:behindInMarks op b=false):PE X (.Compare a [op] [b] pos) (tOp r ta tb):=by
 intro pins s σ H Q I h;exact wpAny_Compare1 (Xu ha D I h λv u s2 x y H2 W Y Z q=>B pins s2 σ H2 x y v u Q W Y Z q) hm
def Wr(t:TE):TT:=λσ H Q=>t σ H λx H'=>∃k,x = .bl k/\Q k H'
theorem T3{r:R2}(B:OpR X (compareOp op) r)(ha:PE X a ta)(D:PE X b tb)(hm:behindInMarks op b=false):PT X (.Compare a [op] [b] pos) (Wr (tOp r ta tb)):=by
 intro pins s σ H Q I h;refine wpAny_isTrue_Compare1 (thn (ha pins s σ H _ I h) λv s1 ⟨x,H1,S,W,q1⟩=>thn (D pins s1 σ H1 _ S q1) λu s2 ⟨y,H2,T,Y,q2⟩=>
  thn (B pins s2 σ H2 x y v u _ T W Y q2) λc s3 ⟨z,R,U,Z,k,e,V⟩=>?_) hm
 subst e
 cases Z;exact aw ⟨R,U,V⟩
noncomputable def Og(r r':R2)(ta tb tc:TE):TE:=λσ H Q=>ta σ H λx H1=>tb σ H1 λy H2=>r x y H2 λz Z=>∃k,z = .bl k /\
 (if k=true then tc σ Z λY X=>r' y Y X Q else Q (.bl false) Z)
theorem Oh{r r':R2}(D:OpR X (compareOp op) r)(B:OpR X (compareOp op') r')(ha:PE X a ta)(hb:PE X b tb)(J:PE X c tc)
 (hm:lastMarks [op,op'] [b,c]=false:=by with_unfolding_all rfl):PE X (.Compare a [op,op'] [b,c] pos) (Og r r' ta tb tc):=by
 intro pins s σ H Q I h;refine Compare_chain (thn (ha pins s σ H _ I h) λv s1 ⟨x,H1,K,O,q1⟩=>chain_link (thn (hb pins s1 σ H1 _ K q1) λu s2 ⟨y,H2,L,Z,q2⟩=>
  thn (D pins s2 σ H2 x y v u _ L O Z q2) λd s3 ⟨z,V,W,P,k,e,Y⟩=>?_)) hm
 subst e
 cases P;refine aw ?_
 cases k with
 |false=>exact ite_ff ⟨.bl false,V,W,rfl,Y⟩
 |true=>exact ite_tt (chain_last (thn (J pins s3 σ V _ W Y) λT S ⟨U,G,M,R,N⟩=>B pins S σ G y U u T Q M Z R N))
theorem Oi{r r':R2}(D:OpR X (compareOp op) r)(B:OpR X (compareOp op') r')(ha:PE X a ta)(hb:PE X b tb)(J:PE X c tc)
 (hm:lastMarks [op,op'] [b,c]=false:=by with_unfolding_all rfl):PT X (.Compare a [op,op'] [b,c] pos) (Wr (Og r r' ta tb tc)):=by
 intro pins s σ H Q I h;refine isTrue_chain (thn (ha pins s σ H _ I h) λv s1 ⟨x,H1,A,N,q1⟩=>test_link (thn (hb pins s1 σ H1 _ A q1) λu s2 ⟨y,H2,C,Z,q2⟩=>
  thn (D pins s2 σ H2 x y v u _ C N Z q2) λd s3 ⟨z,V,W,O,k,e,Y⟩=>?_)) hm
 subst e
 cases O;refine aw ?_
 cases k with
 |false=>
  obtain⟨p,G,K⟩:=Y
  cases G;exact ite_ff ⟨V,W,K⟩
 |true=>
  refine ite_tt (test_last (thn (J pins s3 σ V _ W Y) λT S ⟨U,t,E,P,L⟩=>thn (B pins S σ t y U u T _ E Z P L) λo q ⟨z2,w,F,R,k2,e2,M⟩=>?_));subst e2
  cases R;exact aw ⟨w,F,M⟩
theorem wA:(sizeLine:Nat)<2^63:=by rw[da];decide
theorem vals1{x:V}(r:Vals [x] us):∃u,us=[u]/\RelV x u:=by
 cases r with
 |cons Y Z=>cases Z;exact⟨_,rfl,Y⟩
theorem vals2{x y:V}(r:Vals [x,y] us):∃u B,us=[u,B]/\RelV x u/\RelV y B:=by
 cases r with
 |cons W X=>
  cases X with
  |cons Y Z=>cases Z;exact⟨_,_,rfl,W,Y⟩
theorem LC(B:X.calm=true):lG X (.builtin "max") (λxs H Q=>∃i j,xs=[.int i,.int j]/\Q (.int (if j>i then j else i)) H):=by
 intro pins s σ H xs us Q I r h;obtain⟨i,j,rfl,q⟩:=h;obtain⟨u,Y,rfl,⟨t,rfl⟩,⟨t',rfl⟩⟩:=vals2 r;refine max_two_ints (I.ok.hd B) λh' tk k=>⟨_,H,I.kept k,?_,q⟩
 by_cases Z:j>i
 ·rw[if_pos Z,if_pos Z];exact⟨_,rfl⟩
 ·rw[if_neg Z,if_neg Z];exact⟨_,rfl⟩
theorem LK(B:X.calm=true):lG X (.builtin "min") (λxs H Q=>∃i j,xs=[.int i,.int j]/\Q (.int (if j<i then j else i)) H):=by
 intro pins s σ H xs us Q I r h;obtain⟨i,j,rfl,q⟩:=h;obtain⟨u,Y,rfl,⟨t,rfl⟩,⟨t',rfl⟩⟩:=vals2 r;refine min_two_ints (I.ok.hd B) λh' tk k=>⟨_,H,I.kept k,?_,q⟩
 by_cases Z:j<i
 ·rw[if_pos Z,if_pos Z];exact⟨_,rfl⟩
 ·rw[if_neg Z,if_neg Z];exact⟨_,rfl⟩
theorem LR:lG X (.type "int") (λxs H Q=>(∃i,xs=[.int i]/\Q (.int i) H)\/∃k,xs=[.bl k]/\Q (.int (if k then 1 else 0)) H):=by
 intro pins s σ H xs us Q I r h;rcases h with⟨i,rfl,q⟩|⟨k,rfl,q⟩
 ·obtain⟨u,rfl,t,rfl⟩:=vals1 r;exact call_int_int ⟨.int i,H,I,⟨_,rfl⟩,q⟩
 ·obtain⟨u,rfl,Z⟩:=vals1 r
  cases Z;exact call_int_bool ⟨.int (if k then 1 else 0),H,I.tok _,⟨_,rfl⟩,q⟩
end
end L2
namespace L2
structure ObjM(h:f8)(x dx C:Addr)(mA:Str->Option Value):Prop where
 obj:h.get? x=some (PySem.W.instObj C dx)
 ns:h.Ns1 dx mA
 ne:dx≠x
theorem L_{dx:Addr}{mA:Str->Option Value}(n:h.Ns1 dx mA):∃od,h.get? dx=some od/\∀name,PySem.W.lookIn name od=some (mA name):=by
 obtain⟨o,es,ep,X,hd,V,_,hm⟩:=n;refine⟨o,X,λname=>?_⟩;have e:=hm name;unfold nsFind findBy at e;rw[<-Array.find?_toList]at e;unfold PySem.W.lookIn;rw[hd];dsimp only;split
 ·rename_i y q;rw[q]at e;exact congrArg some e
 ·rename_i q;rw[q]at e;have a:es.toList.any (·.refKey)=false:=by
   rw[List.any_eq_false];intro y Y;obtain⟨z,t,Z⟩:=V y (Array.mem_toList_iff.mp Y);simp[DictEntry.refKey,Z]
  have U:¬es.toList.any (·.refKey)=true:=by rw[a];exact aX
  rw[if_neg U];exact congrArg some e
theorem ObjM.look{x dx C:Addr}{mA:Str->Option Value}(I:ObjM h x dx C mA):∃od,PySem.W.InstAt h x (PySem.W.instObj C dx) C (some od)/\∀name,PySem.W.lookIn name od=some (mA name):=
 let⟨od,Z,Y⟩:=L_ I.ns
 ⟨od,⟨I.obj,rfl,rfl,Z⟩,Y⟩
section
variable{prog:e9}{w:fy}{A:fm}{E:Value->eS->Prop}{s:eS}{K:PySem.W.Frag}{x dx C f:Addr}{mA:Str->Option Value}{name:Str}{v:Value}
end
theorem wj.some_of{o:Option Value}(r:wj (some v) o):∃u,o=some u/\RelV v u:=by
 cases o with
 |none=>exact(show False from r).elim
 |some u=>exact⟨u,rfl,r⟩
section
variable{P:e9}{w:fy}{H H':Hp}{h h':f8}{a C dx:Addr}{fs fs':List (Str×V)}
theorem T4(hok:HOk P w H h)(e:H a=some (.ins C dx fs)):∃mA,ObjM h a dx C mA/\(∀f,wj (fs.lookup f) (mA f))/\PySem.Within mA (fs.map (·.1))/\fs.length<=1000/\H dx=some (.own a):=by
 obtain⟨d,z,ne,Z,mA,n,r,q⟩:=(show gA P w H h a (.ins C dx fs)from hok a _ e);exact⟨mA,⟨Z,n,ne⟩,r,q,z,d⟩
end
structure Cls(K:PySem.W.Frag)(C:Addr):Prop where
 pg:PySem.W.plainGet K C Str.empty=true
 hd:PySem.W.hasDictIn K C=true
 po:PySem.W.plainOver K C=true
 sa:PySem.W.findIn K (.ref C) "__setattr__"=some (some (.builtin "object.__setattr__"))
theorem Cls.get{C:Addr}(c:Cls K C)(f:Str):PySem.W.plainGet K C f=true:=c.pg
structure Con(K:PySem.W.Frag)(C:Addr)(f:Str)(v:V)(u:Value):Prop where
 at_:PySem.W.findIn K (.ref C) f=some (some u)
 rel:RelV v u
 get:PySem.W.specialIn K u "__get__"=some none
 cp:PySem.W.copiedNames.contains f=false
structure Meth(K:PySem.W.Frag)(C:Addr)(m:Str)(f:Addr):Prop where
 at_:PySem.W.findIn K (.ref C) m=some (some (.ref f))
 fn:PySem.W.isFn K (.ref f)=true
 kp:PySem.W.keepIn K (.ref f)=true
section
variable{X:Cx}{pins:List (Addr×Obj)}{σ:St}{H:Hp}{s:eS}{a C dx:Addr}{fs:List (Str×V)}{f:Str}{v:V}{A:fm}{E:Value->eS->Prop}
end
section
variable{X:Cx}{o e value:Expr}{f:Str}{pos pos' tpos:Pos}{ta tv:TE}
end
section
variable{X:Cx}{pins:List (Addr×Obj)}{σ:St}{H:Hp}{s:eS}{A:fm}{E:Value->eS->Prop}{Q:Value->eS->Prop}{c:Value}{b:Bool}
inductive TyOf(K:PySem.W.Frag)(H:Hp):V->Value->Prop where
 |non:TyOf K H .non (.type "NoneType")
 |bl (x:Bool):TyOf K H (.bl x) (.type "bool")
 |int (i:Int):TyOf K H (.int i) (.type "int")
 |str (x:Str):TyOf K H (.str x) (.type "str")
 |flt (x:UInt64):TyOf K H (.flt x) (.type "float")
 |lst {a:Addr} {xs:List V} (e:H a=some (.lst xs)):TyOf K H (.ref a) (.type "list")
 |frz {a:Addr} {o:Obj} {xs:List V} (e:H a=some (.frz o (.lst xs))):TyOf K H (.ref a) (.type "list")
 |tup {a:Addr} {xs:List V} (e:H a=some (.tup xs)):TyOf K H (.ref a) (.type "tuple")
 |dK {a:Addr} {kvs:List (Key×V)} (e:H a=some (.dK kvs)):TyOf K H (.ref a) (.type "dict")
 |dT {a:Addr} {kvs:List (List Key×V)} (e:H a=some (.dT kvs)):TyOf K H (.ref a) (.type "dict")
 |ins {a C dx:Addr} {fs:List (Str×V)} (e:H a=some (.ins C dx fs)) (cl:Cls K C) (ha:PySem.W.findIn K (.ref C) "__class__"=some (some (.builtin "object.__class__")))
  (hn:PySem.W.specialIn K (.builtin "object.__class__") "__get__"=some (some (.builtin "getset_descriptor.__get__"))) (htk:PySem.W.takesIn K (.builtin "object.__class__")=some true)
  (hm:PySem.W.mroIn K C (.type "object")=some true):TyOf K H (.ref a) (.ref C)
theorem Bm{x:V}{u t:Value}(I:Inv X pins σ H s)(B:RelV x u)(ty:TyOf X.K H x t)(e:PySem.W.kitOne X.K t c=some b)(h:∀tk,Q (.bool b) {s with toks:=tk}):
 wpAny (model X.prog X.w) A (call (.builtin "isinstance") [u,c]) Q E s:=by
 cases ty with
 |non=>cases(show u=fS from B);exact PySem.W.kia_one PySem.W.kitx_none I.kIn gd e (λz=>nomatch z) h
 |bl y=>cases(show u=gq y from B);exact PySem.W.kia_one PySem.W.kitx_bool I.kIn gd e (λz=>nomatch z) h
 |int i=>obtain⟨t,q⟩:=(show ∃t,u=hX i t from B);cases q;exact PySem.W.kia_one PySem.W.kitx_int I.kIn gd e (λz=>nomatch z) h
 |str y=>obtain⟨t,q⟩:=(show ∃t,u=Value.str y t from B);cases q;exact PySem.W.kia_one PySem.W.kitx_str I.kIn gd e (λz=>nomatch z) h
 |flt y=>obtain⟨t,q⟩:=(show ∃t,u=Value.float y t from B);cases q;exact PySem.W.kia_one PySem.W.kitx_float I.kIn gd e (λz=>nomatch z) h
 | @lst a xs Z=>
  cases(show u=eW a from B);obtain⟨_,_,n,_,h1⟩:=(show gA X.prog X.w H s.heap a (.lst xs)from I.hok a _ Z);exact PySem.W.kia_one PySem.W.kitx_list I.kIn ⟨_,h1,rfl⟩ e (λz=>nomatch z) h
 | @frz a Y xs Z=>
  cases(show u=eW a from B);obtain⟨_,_,_,n,_,h1⟩:=(show gA X.prog X.w H s.heap a (.frz Y (.lst xs))from I.hok a _ Z);exact PySem.W.kia_one PySem.W.kitx_list I.kIn ⟨_,h1,rfl⟩ e (λz=>nomatch z) h
 | @tup a xs Z=>
  cases(show u=eW a from B);obtain⟨_,_,_,p⟩:=(show gA X.prog X.w H s.heap a (.tup xs)from I.hok a _ Z);obtain⟨o,h1,h2,_⟩:=p;exact PySem.W.kia_one PySem.W.kitx_tuple I.kIn ⟨o,h1,h2⟩ e (λz=>nomatch z) h
 | @dK a kvs Z=>
  cases(show u=eW a from B);obtain⟨_,_,vs,_,p⟩:=(show gA X.prog X.w H s.heap a (.dK kvs)from I.hok a _ Z);obtain⟨o,es,ep,h1,h2,_⟩:=p;exact PySem.W.kia_one PySem.W.kitx_dict I.kIn ⟨o,h1,h2.1⟩ e (λz=>nomatch z) h
 | @dT a kvs Z=>
  cases(show u=eW a from B);obtain⟨_,_,xs,_,o,es,ep,h1,h2,_⟩:=(show gA X.prog X.w H s.heap a (.dT kvs)from I.hok a _ Z);exact PySem.W.kia_one PySem.W.kitx_dict I.kIn ⟨o,h1,h2.1⟩ e (λz=>nomatch z) h
 | @ins a C dx fs Z cl ha hn htk hm=>
  cases(show u=eW a from B);obtain⟨mA,O,_⟩:=T4 I.hok Z;obtain⟨od,J,_⟩:=O.look;exact PySem.W.kia_one (PySem.W.kitx_own (cl.get _) cl.hd ha hn htk hm) I.kIn J e (λz=>nomatch z) h
end
end L2
variable{j:Nat}{mg:Str->Option Value}{base:f8}{f:Addr}{fd:gk}{ps:List Str}{vs:List L2.V}{cd pm ct oc:Value}{an od:Option Addr}
namespace L2
structure Room(k:Nat)(A:fm):Prop where
 hd:A.handled=none
 dp:A.depth+3*k+5<recursionLimit
 un:A.units+16*k+200<cLine
theorem Room.mono{k:Nat}(r:Room k A)(h:j<=k):Room j A:=⟨r.hd,by have:=r.dp;omega,by have:=r.un;omega⟩
theorem Room.deeper{k:Nat}(r:Room (k+1) A)(env:Env):Room k (A.deeper env):=
 ⟨r.hd,by have:=r.dp;show A.depth+1+3*k+5<_;omega,by have:=r.un;show A.units+3+16*k+200<_;omega⟩
theorem Room.depth{k:Nat}(r:Room k A):A.depth<recursionLimit:=by have:=r.dp;omega
theorem Room.units{k:Nat}(r:Room k A):A.units+64<cLine:=by have:=r.un;omega
def aj9:TA:=λ_ H Q=>Q [] H
def Z9(ta:TE)(tr:TA):TA:=λσ H Q=>ta σ H λx H1=>tr σ H1 λxs H2=>Q (x::xs) H2
section
variable{X:Cx}{e:Expr}{es:List Expr}{te:TE}{t:TA}{pos:Pos}
theorem nJ:PA X [] aj9:=λ_ _ _ _ H Q I h=>bX ⟨[],H,I,.nil,h⟩
theorem jx(ha:PE X e te)(B:PA X es t)(hs:starEach (e::es) X.env=(false,eval e X.env)::starEach es X.env:=by rfl):PA X (e::es) (Z9 te t):=by
 intro pos pins s σ H Q I h;rw[hs];refine bi (thn (ha pins s σ H _ I h) λu s1 ⟨x,H1,V,Y,q1⟩=>?_);exact thn (B pos pins s1 σ H1 _ V q1) λus s2 ⟨xs,H2,W,Z,q2⟩=>⟨x::xs,H2,W,.cons Y Z,q2⟩
def ak0(t:TA):TE:=λσ H Q=>t σ H λxs H1=>xs.length<=sizeLine/\∀p,H1 p=none->Q (.ref p) (upd H1 p (.tup xs))
def ak1(t:TA):TE:=λσ H Q=>t σ H λxs H1=>xs.length<=sizeLine/\∀p,H1 p=none->Q (.ref p) (upd H1 p (.lst xs))
theorem Xy{x1}(h:PA X es t):PE X (.Tuple es x1 pos) (ak0 t):=by
 intro pins s σ H Q I Y;refine wpAny_Tuple_spliced (thn (h pos pins s σ H _ I Y) λus s1 ⟨xs,H1,Z,r,z,q⟩=>⟨by rwa[<-r.length],?_⟩);have W:=Z.hok.fresh (aB _);refine⟨.ref s1.heap.objs.size,upd H1 s1.heap.objs.size (.tup xs),Z.laid (t':=s1.toks) (λb u e=>ad _ e) (aB _) ?_,rfl,q _ W⟩;exact⟨z,us,r,⟨_,ag _ rfl,rfl,_,rfl⟩⟩
theorem Ii(h:PA X es t):PE X (.List es pos) (ak1 t):=by
 intro pins s σ H Q I Y;refine wpAny_List_spliced (thn (h pos pins s σ H _ I Y) λus s1 ⟨xs,H1,Z,r,z,q⟩=>⟨by rwa[<-r.length],?_⟩);have W:=Z.hok.fresh (aB _);refine⟨.ref s1.heap.objs.size,upd H1 s1.heap.objs.size (.lst xs),Z.laid (t':=s1.toks) (λb u e=>ad _ e) (aB _) ?_,rfl,q _ W⟩;exact⟨z,us,0,r,ag _ rfl⟩
end
abbrev Sp:=List V->Hp->VK->XK->Prop
abbrev CXT:=List Env->Hp->eS->XK->Value->eS->Prop
structure Env0(P:e9)(w:fy)(K:PySem.W.Frag)(mg:Str->Option Value)(base:f8)(A:fm)(outer:List Env)(s:eS)(H:Hp):Prop where
 frames:A.frames=some outer
 mod:Mod K mg base
 bs:∀b o,base.get? b=some o->s.heap.get? b=some o/\H b=none
 bsz:base.objs.size<=s.heap.objs.size
 funs:s.heap.FunFrames base outer
 frf:∀b∈frs outer,H b=none
 hok:HOk P w H s.heap
 bare:ik s.gens
def CE(outer:List Env)(P:e9)(w:fy)(H:Hp)(s:eS)(Q:VK)(u:Value)(s':eS):Prop:=
 ∃v H',s'.os=s.os/\ik s'.gens/\Un (frs outer) [] H H' s.heap s'.heap/\HOk P w H' s'.heap/\RelV v u/\Q v H'
def CR(CX:CXT)(outer:List Env)(P:e9)(w:fy)(H:Hp)(s:eS)(Q:VK)(E:XK)(r:Result)(s':eS):Prop:=
 match r with
 | .ok (.ret u)=>CE outer P w H s Q u s'
 | .ok _=>False
 | .error e=>CX outer H s E e s'
structure FnOk(P:e9)(w:fy)(K:PySem.W.Frag)(mg:Str->Option Value)(base:f8)(CX:CXT)(k:Nat)(f:Addr)(fd:gk)(ps:List Str)(sp:Sp):Prop where
 len:∀vs H Q E,sp vs H Q E->vs.length=ps.length
 run:∀(A:fm)(outer:List Env)(s:eS)(H:Hp)(args:Args)(us:List Value)(vs:List V)(Q:VK)(E:XK),Room k A->Env0 P w K mg base A outer s H->BindsTo s fd args (ps.zip us)->Vals vs us->sp vs H Q E ->
  codeAny (model P w) A (.call (.ref f) args) (CR CX outer P w H s Q E) s
theorem FnOk.mono{CX:CXT}{k:Nat}{sp:Sp}(F:FnOk P w K mg base CX j f fd ps sp)(h:j<=k):
 FnOk P w K mg base CX k f fd ps sp:=⟨F.len,λA outer s H args us vs Q E Z=>F.run A outer s H args us vs Q E (Z.mono h)⟩
theorem FnOk.imp{CX:CXT}{k:Nat}{sp B:Sp}(F:FnOk P w K mg base CX k f fd ps sp)
 (h:∀vs H Q E,B vs H Q E->sp vs H Q E):FnOk P w K mg base CX k f fd ps B:=
 ⟨λvs H Q E q=>F.len vs H Q E (h _ _ _ _ q),λA outer s H args us vs Q E Y X W Z hs=>F.run A outer s H args us vs Q E Y X W Z (h _ _ _ _ hs)⟩
section
variable{X:Cx}{pins:List (Addr×Obj)}{σ:St}{H:Hp}{s s':eS}
theorem Inv.env0(I:Inv X pins σ H s):Env0 X.prog X.w X.K X.mg X.base X.A X.stack s H:=
 ⟨I.ok.frames,I.ok.mod,I.bs,aW I.ok.bsz I.sz,I.stack,I.stkFree,I.hok,I.bare⟩
theorem Inv.after{Q:VK}{u:Value}(I:Inv X pins σ H s)(h:CE X.stack X.prog X.w H s Q u s'):EP X pins σ Q u s':=by
 obtain⟨v,H',os,bare,un,hok,r,q⟩:=h;obtain⟨Y,g,d,t,Z⟩:=s';obtain rfl:Z=s.os:=os;exact⟨v,H',I.call (h':=Y) (g':=g) (d':=d) (t':=t) (ch:=[]) un hok bare (λb z=>absurd z (by simp)),r,q⟩
end
def Ws(sp:Sp)(dvs:List V)(E:XK)(t:TA):TE:=λσ H Q=>t σ H λvs H1=>sp (vs++dvs) H1 Q E
def Binds(K:PySem.W.Frag)(fd:gk)(ps:List Str)(ds:List Value):Prop:=
 ∀(s:eS)(us:List Value),K.In s.heap->(us++ds).length=ps.length->BindsTo s fd ⟨us,[]⟩ (ps.zip (us++ds))
theorem Binds.all(h:∀us:List Value,us.length=ps.length->bindArgs fd ⟨us,[]⟩=pure (ps.zip us)):Binds K fd ps []:=λs us _ Z=>by
 rw[cA]at Z ⊢;exact .of_eq (h us Z)
def Passes(CX:CXT)(X:Cx)(E:XK):Prop:=∀(pins:List (Addr×Obj))(σ:St)(H:Hp)(s:eS)(e:Value)(s':eS),Inv X pins σ H s->CX X.stack H s E e s'->X.xe e s'
section
variable{X:Cx}{CX:CXT}{k:Nat}{f C:Addr}{fd:gk}{ps:List Str}{sp:Sp}{dvs:List V}{ds:List Value}{E:XK}{x m:Str}{p pos apos:Pos}{e o:Expr}{es:List Expr}{ta:TE}{t:TA}
theorem Xz{σ:St}{Q:VK}(F:FnOk X.prog X.w X.K X.mg X.base CX k f fd ps sp)(D:Room k X.A)(J:Binds X.K fd ps ds)(hd:Vals dvs ds)(B:Passes CX X E)
 (I:Inv X pins σ H s) (r:Vals vs us) (h:sp (vs++dvs) H Q E):wpAny (model X.prog X.w) X.A (call (.ref f) us) (EP X pins σ Q) X.xe s:=by
 have Y:=r.append hd;have W:(us++ds).length=ps.length:=by rw[<-Y.length];exact F.len _ _ _ _ h
 refine wpAny_call (dQ (F.run X.A X.stack s H ⟨us,[]⟩ (us++ds) (vs++dvs) Q E D I.env0 (J s us I.kIn W) Y h) λr s' Z=>?_)
 cases r with
 |error e=>exact B pins σ H s e s' I Z
 |ok fl=>
  cases fl with
  |ret u=>exact I.after Z
  |next=>exact gL Z
  |brk=>exact gL Z
  |cont=>exact gL Z
theorem T5(F:FnOk X.prog X.w X.K X.mg X.base CX k f fd ps sp)(O:Room k X.A)(hg:Gl X x)(hm:X.mg x=some (.ref f))(Y:PySem.W.keepIn X.K (.ref f)=true)(hb:Binds X.K fd ps ds)(hd:Vals dvs ds)(J:Passes CX X E)
 (ha:PA X (e::es) t) (D:(x==("__debug__":Str))=false:=by decide) (he:starEach (e::es) X.env=(false,eval e X.env)::starEach es X.env:=by rfl) (B:(backTo pos (starEach es X.env)).any (·.1)=false:=by rfl) :
 PE X (.Call (.Name x p) (e::es) [] pos) (Ws sp dvs E t):=by
 intro pins s σ H Q I h;refine ay (JL I hg hm ?_ D);refine PySem.W.callWith_K (h₀:=X.base) I.ok.mod.kin Y (thn (ha pos pins s σ H _ I h) λus s1 ⟨vs,H1,Z,r,q⟩=>⟨Z.kIn,?_⟩) he B;exact Xz F O hb hd J Z r q
structure Mk(K:PySem.W.Frag)(C f:Addr):Prop where
 makes:PySem.W.makesIn K C=true
 init:PySem.W.findIn K (.ref C) "__init__"=some (some (.ref f))
 fn:PySem.W.isFn K (.ref f)=true
 kp:PySem.W.keepIn K (.ref C)=true
end
section
variable{X:Cx}{CX:CXT}{k:Nat}{f C:Addr}{fd:gk}{ps ks:List Str}{sp:Sp}{E:XK}{x m:Str}{p pos apos kpos:Pos}{e o:Expr}{es:List Expr}{kws:List h8}{te ta:TE}{t tk:TA}{nm:Option Str}
structure KBinds(K:PySem.W.Frag)(fd:gk)(ps ks:List Str)(g:List Value->List Value->List Value)(gV:List V->List V->List V):Prop where
 to:∀(s:eS)(us ws:List Value),K.In s.heap->(g us ws).length=ps.length->BindsTo s fd ⟨us,ks.zip ws⟩ (ps.zip (g us ws))
 rel:∀{vs:List V}{us:List Value}{zs:List V}{ws:List Value},Vals vs us->Vals zs ws->Vals (gV vs zs) (g us ws)
variable{g:List Value->List Value->List Value}{gV:List V->List V->List V}
end
structure FnScope(N P:List Str)(sc:hV):Prop where
 kind:sc.kind = .function
 co:sc.isCoroutine=false
 gen:sc.isGenerator=false
 nd:N.Nodup
 pre:N.take P.length=P
 par:∀x∈P,sc.names.lookup x=some .local\/sc.names.lookup x=some .cell
 nofree:∀y∈sc.names,y.2 ≠ .free
theorem Bo{kindOf:Str->Option NameKind}:∀{binds:List (Str×Value)}{m:Str->Option Value},(∀v,(x,v)∉binds)->bindL kindOf binds m x=m x
 |[],_,_=>rfl
 | (n,v)::r,m,h=>by
  unfold bindL;rw[Bo λw hw=>h w (au _ hw)];split
  ·have:x≠n:=by rintro rfl;exact h v ak
   simp[this]
  ·rfl
theorem Bp{kindOf:Str->Option NameKind}:∀{binds:List (Str×Value)}{m:Str->Option Value},(∀v,(x,v)∉binds)->bindC kindOf binds m x=m x
 |[],_,_=>rfl
 | (n,v)::r,m,h=>by
  unfold bindC;rw[Bp λw hw=>h w (au _ hw)];split
  ·rfl
  ·have:x≠n:=by rintro rfl;exact h v ak
   simp[this]
theorem Bq{kindOf:Str->Option NameKind}{v:Value}:∀{P:List Str}{vs:List Value}{i:Nat}{m:Str->Option Value},P.Nodup->P[i]? = some x->vs[i]? = some v->kindOf x=some .local ->
 bindL kindOf (P.zip vs) m x=some v
 |[],_,_,_,_,h,_,_=>by simp at h
 |_::_,[],_,_,_,_,h,_=>by simp at h
 |p::P,w::vs,0,m,nd,h1,h2,Z=>by
  simp at h1 h2;subst h1;subst h2;show bindL kindOf ((p,w)::P.zip vs) m p=_;unfold bindL;rw[Bo λv Y=>(b_.mp nd).1 (nF Y).1,if_pos Z];simp
 |p::P,w::vs,i+1,m,nd,h1,h2,Z=>by
  show bindL kindOf ((p,w)::P.zip vs) m x=_;unfold bindL;exact Bq (i:=i) (b_.mp nd).2 (by simpa using h1) (by simpa using h2) Z
theorem Br{kindOf:Str->Option NameKind}{v:Value}:∀{P:List Str}{vs:List Value}{i:Nat}{m:Str->Option Value},P.Nodup->P[i]? = some x->vs[i]? = some v->kindOf x≠some .local ->
 bindC kindOf (P.zip vs) m x=some v
 |[],_,_,_,_,h,_,_=>by simp at h
 |_::_,[],_,_,_,_,h,_=>by simp at h
 |p::P,w::vs,0,m,nd,h1,h2,Z=>by
  simp at h1 h2;subst h1;subst h2;show bindC kindOf ((p,w)::P.zip vs) m p=_;unfold bindC;rw[Bp λv Y=>(b_.mp nd).1 (nF Y).1,if_neg Z];simp
 |p::P,w::vs,i+1,m,nd,h1,h2,Z=>by
  show bindC kindOf ((p,w)::P.zip vs) m x=_;unfold bindC;exact Br (i:=i) (b_.mp nd).2 (by simpa using h1) (by simpa using h2) Z
def start(N:List Str)(vs:List V):St:=vs.map some++aO (N.length-vs.length) none
noncomputable def Fb(CX:CXT)(P:e9)(w:fy)(K:PySem.W.Frag)(mg:Str->Option Value)(base:f8)(N:List Str)(qual:Str)(scope:hV)(f:Addr)(cd:Value)(A:fm)(outer:List Env)(s:eS)(H:Hp)(E:XK):Cx where
 prog:=P
 w:=w
 K:=K
 mg:=mg
 base:=base
 A:=A.deeper (envOfC qual scope s.heap.objs.size f cd)
 N:=N
 s₀:=s
 H₀:=H
 env:=envOfC qual scope s.heap.objs.size f cd
 outer:=outer
 stack:=envOfC qual scope s.heap.objs.size f cd::outer
 ex:=[]
 calm:=true
 fn:=λ_=>true
 pn:=[]
 xe:=λe s'=>wpAny (model P w) (A.deeper (envOfC qual scope s.heap.objs.size f cd)) (leaving (envOfC qual scope s.heap.objs.size f cd) e) (λ_ Z=>CX outer H s E e Z) (λY Z=>CX outer H s E Y Z) s'
theorem Fd{sc:hV}(h:sc.names.lookup x=some .cell):∃c,(cellsFrom n sc.names []).lookup x=some c:=by
 have q:=PySem.W.cellsFrom_some sc.names n [] (.inl h);exact Option.isSome_iff_exists.mp q
theorem Mf{CX:CXT}{qual:Str}{scope:hV}{outer:List Env}{s1:eS}{E:XK}
 (S:FnScope N ps scope) (hd:A.handled=none) (B:Env0 P w K mg base A outer s H) (D:vs.length=ps.length) (r:Vals vs us)
 (x:InCallC s s.heap.objs.size (bindL (envOfC qual scope s.heap.objs.size f cd).kindOf (ps.zip us) λ_=>none) (cellsFrom (s.heap.objs.size+1) scope.names []) (bindC (envOfC qual scope s.heap.objs.size f cd).kindOf (ps.zip us) λ_=>none) s1) :
 Inv (Fb CX P w K mg base N qual scope f cd A outer s H E) [] (start N vs) H s1:=by
 have T:ps.length<=N.length:=by have:=congrArg m8 S.pre;rw[cP]at this;omega
 obtain⟨h1,tk,rfl,V⟩:=x.done;have Z:∀b:Addr,b∉(Fb CX P w K mg base N qual scope f cd A outer s H E).ex:=λb z=>absurd (show b∈([]:List Addr)from z) (by simp)
 refine⟨⟨B.mod,S.kind,rfl,rfl,aB _,λy z c h1 h2=>?_,λy Y=>?_,λy c _ h=>?_,λ_=>hd,Around.frames_deeper B.frames,.inr ⟨rfl,rfl⟩,λb z=>absurd z (Z b),B.bs,B.bsz,λb _ _=>Z b,λb z=>absurd z (Z b),B.funs,B.frf⟩,
  rfl,B.bare,Un.kept V,⟨_,x.toInCall.ns,λi y v h1 h2 R=>?_⟩,λy c h=>⟨_,x.cell y c h⟩,B.hok.fresh (aB _),λy c h=>?_,λp W=>absurd (show p∈([]:List (Addr×Obj))from W) (by simp),B.hok.kept V,?_⟩
 ·exact name_of_addr x.apart (PySem.mem_of_lookup h1) (PySem.mem_of_lookup h2)
 ·have Y:=Y;rcases Y with Y|Y
  ·exact Fd Y
  ·exact absurd rfl (S.nofree _ (PySem.mem_of_lookup Y))
 ·exact cG (x.above y c (PySem.mem_of_lookup h))
 ·have hi:i<vs.length:=by
   unfold start at h2;by_cases hi:i<vs.length
   ·exact hi
   ·rw[bR (by simpa using hi)]at h2;rw[eZ]at h2;split at h2<;>cases h2
  have ha:vs[i]? = some v:=by
   unfold start at h2;rw[cj (by simpa using hi),aU]at h2
   cases e:vs[i]? with
   |none=>rw[e]at h2;cases h2
   |some a=>rw[e]at h2;cases h2;rfl
  obtain⟨u,hu,U⟩:=r.get ha;have W:ps[i]? = some y:=by
   rwa[<-S.pre,kj (by omega)]
  have X:ps.Nodup:=by rw[<-S.pre];exact S.nd.sublist (List.take_sublist _ _)
  refine⟨u,U,?_⟩;rcases S.par y (gw W)with k|k
  ·exact .inl ⟨k,Bq X W hu k⟩
  ·obtain⟨c,e⟩:=Fd (n:=s.heap.objs.size+1) k;refine .inr ⟨.inl k,c,e,?_⟩;have q:=x.cell y c e;rwa[Br X W hu (by show scope.names.lookup y≠_;rw[k];decide)]at q
 ·exact B.hok.fresh (cG (x.above y c (PySem.mem_of_lookup h)))
 ·unfold start;show _=N.length;rw[bB,aq,bI];omega
theorem Wt{CX:CXT}{k:Nat}{name qual:Str}{params:iq}{body:List hI}{scope:hV}{dV kV doc cdv:Value}
 {osl:Array (Option Value)} {sp:Sp} (lk:K.lookup f=some ⟨oc,od,.func (PySem.W.fnOf name qual params body scope dV kV doc pm an cdv ct),osl⟩) (D:PySem.W.codeIn K cdv qual=true) (S:FnScope N ps scope)
 (len:∀vs H Q E,sp vs H Q E->vs.length=ps.length)
 (B:∀(A:fm)(outer:List Env)(s:eS)(H:Hp)(vs:List V)(Q:VK)(E:XK),Room k (A.deeper (envOfC qual scope s.heap.objs.size f cdv))->sp vs H Q E ->
  ∃t,PSs (Fb CX P w K mg base N qual scope f cdv A outer s H E) body t/\t {nx:=λ_ H'=>Q .non H',rt:=Q} (start N vs) H) :
 FnOk P w K mg base CX (k+1) f (PySem.W.fnOf name qual params body scope dV kV doc pm an cdv ct) ps sp:=by
 refine⟨len,λA outer s H args us vs Q E R X z r Y=>?_⟩;have F:=len _ _ _ _ Y;have O:K.In s.heap:=X.mod.kin.keeps λb o e=>(X.bs b o e).1
 have T:s.heap.NoLimit:=X.mod.nolimit.keeps λb o e=>(X.bs b o e).1
 have Z:∀y∈ps.zip us,scope.names.lookup y.1=some .local\/(scope.names.lookup y.1=some .cell/\((cellsFrom (s.heap.objs.size+1) scope.names []).lookup y.1).isSome=true):=λ⟨n,v⟩ M=>by
  rcases S.par n (nF M).1 with q|q
  ·exact .inl q
  ·exact .inr ⟨q,PySem.W.cellsFrom_some _ _ _ (.inl q)⟩
 refine codeAny_call_function R.depth (O _ _ lk) rfl S.co S.gen rfl (PySem.W.codeRec_of O D) (z _ _ _ _ ?_);refine wpAny_newFunctionEnv_cells S.kind Z λenv C s1 x=>?_
 subst C;refine⟨T.keeps x.toInCall.keep,codeAny_func ?_⟩;obtain⟨t,L,G⟩:=B A outer s H vs Q E (R.deeper _) Y;have I:Inv (Fb CX P w K mg base N qual scope f cdv A outer s H E) [] (start N vs) H s1:=Mf S R.hd X F r x;refine a5 (L [] s1 (start N vs) H _ I G) (λfl s' hs=>?_) λe s' hs=>hs
 have fin:∀{σ':St}{H':Hp}{v:V}{u:Value},Inv (Fb CX P w K mg base N qual scope f cdv A outer s H E) [] σ' H' s'->RelV v u->Q v H'->CE outer P w H s Q u s':=
  λ{σ' H' v u} J U q=>⟨v,H',J.os,J.bare,J.base,J.hok,U,q⟩
 cases fl with
 |ret u=>
  obtain⟨v,σ',H',J,U,q⟩:=hs;exact fin J U q
 |next=>
  obtain⟨σ',H',J,q⟩:=hs;exact fin (v:=V.non) (u:=fS) J rfl q
 |brk=>
  obtain⟨_,_,_,q⟩:=hs;exact gL q
 |cont=>
  obtain⟨_,_,_,q⟩:=hs;exact gL q
end L2
namespace L2
section
variable{X:Cx}{x:Str}{p pos:Pos}{e:Expr}{es:List Expr}{t:TA}{id T:String}{r:List V->Hp->VK->Prop}
def tCB(r:List V->Hp->VK->Prop)(t:TA):TE:=λσ H Q=>t σ H λvs H1=>r vs H1 Q
theorem nq(Y:lG X (.builtin id) r)(O:Gl X x)(hm:X.mg x=none)(J:bootBuiltins x=some (.builtin id))(ha:PA X (e::es) t)(hn:x≠"__name__" := by decide)(D:(x==("__debug__":Str))=false:=by decide)
 (W:starEach (e::es) X.env=(false,eval e X.env)::starEach es X.env:=by rfl) (B:(backTo pos (starEach es X.env)).any (·.1)=false:=by rfl):PE X (.Call (.Name x p) (e::es) [] pos) (tCB r t):=by
 intro pins s σ H Q I h;refine ay (nH I O hm J ?_ hn D);exact PyProof.Rows.callWith_builtin1 (thn (ha pos pins s σ H _ I h) λus s1 ⟨vs,H1,V,Z,q1⟩=>Y pins s1 σ H1 vs us Q V Z q1) W B
theorem pY(Y:lG X (.type T) r)(O:Gl X x)(hm:X.mg x=none)(J:bootBuiltins x=some (.type T))(ha:PA X (e::es) t)(hn:x≠"__name__" := by decide)(D:(x==("__debug__":Str))=false:=by decide)
 (W:starEach (e::es) X.env=(false,eval e X.env)::starEach es X.env:=by rfl) (B:(backTo pos (starEach es X.env)).any (·.1)=false:=by rfl):PE X (.Call (.Name x p) (e::es) [] pos) (tCB r t):=by
 intro pins s σ H Q I h;refine ay (nH I O hm J ?_ hn D);exact fw (thn (ha pos pins s σ H _ I h) λus s1 ⟨vs,H1,V,Z,q1⟩=>Y pins s1 σ H1 vs us Q V Z q1) W B
end
end L2
variable{vl vu:Value}
namespace HT
section
open PySem.SeqAt
open PySem.AutoSeq1 (wpAny_loadPart')
open PySem.MeetsSeq PySem.MeetsSeq2 PySem.MeetsSeq3
end
section
variable{prog:e9}{w:fy}{A:fm}{E:Value->eS->Prop}{s:eS}
noncomputable def sIx(n d:Nat):Option Int->Nat
 |none=>d
 |some v=>if v<0 then(v+(n:Int)).toNat else min v.toNat n
theorem ak2(n d:Nat)(hd:d<=n)(o:Option Int):sIx n d o<=n:=by
 cases o with
 |none=>exact hd
 |some v=>
  show(if v<0 then(v+(n:Int)).toNat else min v.toNat n)<=n;by_cases Z:v<0
  ·rw[if_pos Z];omega
  ·rw[if_neg Z];exact pQ _ _
theorem JQ(v:Int)(n d:Nat):(if v<0 then max (v+(n:Int)) 0 else min v (n:Int))=((sIx n d (some v):Nat):Int):=by
 show(if v<0 then max (v+(n:Int)) 0 else min v (n:Int))=(((if v<0 then(v+(n:Int)).toNat else min v.toNat n):Nat):Int);by_cases Z:v<0
 ·simp only[if_pos Z];omega
 ·simp only[if_neg Z];omega
theorem Ij(lo hi:Option Int)(n:Nat):hO lo hi 1 (n:Int)=(((sIx n 0 lo:Nat):Int),((sIx n n hi:Nat):Int)):=by
 have h1:¬((1:Int)<0):=by omega
 unfold hO;simp only[h1,if_false];refine Prod.ext ?_ ?_
 ·cases lo with
  |none=>rfl
  |some v=>exact JQ v n 0
 ·cases hi with
  |none=>rfl
  |some v=>exact JQ v n n
theorem uJ(i j:Nat):gv (i:Int) (j:Int) 1=j-i:=by
 unfold gv;have h1:(1:Int)>0:=by omega
 simp only[h1,if_true,Int.ediv_one];split<;>omega
theorem yN{v:Value}{o:Option Int}{Q:Option Int->eS->Prop}(p:IsPart v o)(h:Q o s):wpAny (model prog w) A (Builtin.Slice.slicePartIndex v) Q E s:=by
 cases p with
 |none=>exact slicePart_none h
 |int i t=>exact slicePart_int h
theorem pZ{sl:Addr}{lo hi:Option Int}{Q:Int×Int×Nat->eS->Prop}(hs:s.heap.IsSliceOf sl vl vu .none)(pl:IsPart vl lo)(B:IsPart vu hi)
 (h:Q (((sIx n 0 lo:Nat):Int),1,sIx n n hi-sIx n 0 lo) s):wpAny (model prog w) A (Builtin.Slice.sliceApplied (.ref sl) (pure (n:Int))) Q E s:=by
 obtain⟨os,Z,X,Y⟩:=id hs;refine aa (aa (aT Z Y (x:=vl) rfl (aa (aT Z Y (x:=vu) rfl (aa (aT Z Y (x:=.none) rfl (ae ?_)))))));refine aa (slicePart_none ?_);rw[if_neg (by decide)];refine aa (yN pl (aa (yN B (aa (ae ?_)))));show wpAny _ _ (match hO lo hi 1 (n:Int)with|(lo,hi)=>pure (lo,(1:Int),gv lo hi 1)) _ _ s;rw[Ij lo hi n];show wpAny _ _ (pure (((sIx n 0 lo:Nat):Int),(1:Int),gv ((sIx n 0 lo:Nat):Int) ((sIx n n hi:Nat):Int) 1)) _ _ s;rw[uJ];exact ae h
theorem Oj(xs:Array Value)(i k:Nat):((aQ k).filterMap λ(m:Nat)=>xs[((i:Int)+(m:Int)*1).toNat]?).toArray=((xs.toList.drop i).take k).toArray:=by
 have e:(λ(m:Nat)=>xs[((i:Int)+(m:Int)*1).toNat]?)=λm=>xs[i+m]?:=by
  funext m
  have:((i:Int)+(m:Int)*1).toNat=i+m:=by omega
  rw[this]
 rw[e];have:=pick_run xs i k;rw[List.filterMap_map]at this;have e2:((λx=>xs[x]?)∘λx=>i+x)=λm=>xs[i+m]?:=rfl
 rw[e2]at this;rw[this]
theorem vh{t sl:Addr}{items:Array Value}{lo hi:Option Int}(B:g9 s.heap t items)(hs:s.heap.IsSliceOf sl vl vu .none)(pl:IsPart vl lo)(D:IsPart vu hi)
 (hw:¬(sIx items.size 0 lo=0/\sIx items.size items.size hi=items.size))
 (h:Q (.ref s.heap.objs.size) {s with heap:=s.heap.push {cls:=.type "tuple", data:=.seq ((items.toList.drop (sIx items.size 0 lo)).take (sIx items.size items.size hi-sIx items.size 0 lo)).toArray} })
 (hsz:items.size<=sizeLine):wpAny (model prog w) A (getItem (.ref t) (.ref sl)) Q E s:=by
 have Z:sizeOk (.seq ((items.toList.drop (sIx items.size 0 lo)).take (sIx items.size items.size hi-sIx items.size 0 lo)).toArray):=by
  show((items.toList.drop (sIx items.size 0 lo)).take (sIx items.size items.size hi-sIx items.size 0 lo)).toArray.size<=sizeLine;rw[aM,cP,fZ,aY];omega
 obtain⟨os,Y,W,U⟩:=id hs;have V:s.TypeIs (.ref sl) "slice" := ⟨os,Y,W⟩;unfold getItem
 try with_reducible refine ap ?_
 first|refine aa (ae ?_)|skip
 refine aa (wpAny_sequenceKey B.typeIs (by decide) ?_);refine aa (av (name:=f6 "__getitem__") B.typeIs gg
  (ar gg B.typeIs entry_tuple_getitem ?_ (args_tuple_getitem _ _)))
 show wpAny _ _ (ij (.ref t) >>= _) _ _ s;refine aa (tupleItemsOf_ B ?_);refine aa (b6 V ?_);rw[if_pos (by decide)];refine aa (pZ hs pl D ?_);have X:¬((((sIx items.size 0 lo:Nat):Int)==0&&(1:Int)==1&&(sIx items.size items.size hi-sIx items.size 0 lo)==items.size)=true):=by
  intro q;rw[aV,aV]at q;have q1:((sIx items.size 0 lo:Nat):Int)=0:=eq_of_beq q.1.1;have q2:sIx items.size items.size hi-sIx items.size 0 lo=items.size:=eq_of_beq q.2;exact hw ⟨by omega,by omega⟩
 show wpAny _ _ (if(((sIx items.size 0 lo:Nat):Int)==0&&(1:Int)==1&&(sIx items.size items.size hi-sIx items.size 0 lo)==items.size)=true then _ else _) _ _ s;rw[if_neg X,Oj]
 first
  |exact aa (m:=gz _) (ax (ae ⟨_,rfl,ae h⟩) Z)
  |exact aa (m:=gz _) (ax (aa (ae (ae ⟨_,rfl,ae h⟩))) Z)
  |exact aa (aa (m:=gz _) (ax (ae (ae ⟨_,rfl,ae h⟩)) Z))
  |exact aa (aa (m:=gz _) (ax (ae ⟨_,rfl,ae h⟩) Z))
end
end HT
namespace L2
abbrev TO:=St->Hp->(Option Int->Hp->Prop)->Prop
def PO(X:Cx)(e:Option Expr)(t:TO):Prop:=
 ∀(pins:List (Addr×Obj))(s:eS)(σ:St)(H:Hp)(Q:Option Int->Hp->Prop),Inv X pins σ H s->t σ H Q ->
  wpAny (model X.prog X.w) X.A (evalPart e X.env) (λu s'=>∃o H',Inv X pins σ H' s'/\IsPart u o/\Q o H') X.xe s
def T6:TO:=λ_ H Q=>Q none H
def Z_(t:TE):TO:=λσ H Q=>t σ H λx H1=>∃i,x = .int i/\Q (some i) H1
section
variable{X:Cx}{e:Expr}{te:TE}{lo hi:Option Expr}{tl th:TO}{pos p2:Pos}
theorem T7:PO X none T6:=by
 intro pins s σ H Q I h;rw[evalPart_none];exact ae ⟨none,H,I,.none,h⟩
theorem T8(h:PE X e te):PO X (some e) (Z_ te):=by
 intro pins s σ H Q I hw;rw[evalPart_some];refine thn (h pins s σ H _ I hw) λu s1 ⟨x,H1,Y,Z,q1⟩=>?_
 obtain⟨i,rfl,q⟩:=q1;obtain⟨t,rfl⟩:=Z;exact⟨some i,H1,Y,.int i t,q⟩
def SlR(X:Cx)(r:V->Option Int->Option Int->Hp->VK->Prop):Prop:=
 ∀(pins:List (Addr×Obj))(s:eS)(σ:St)(H:Hp)(x:V)(v vl vu:Value)(lo hi:Option Int)(sl:Addr)(Q:VK),Inv X pins σ H s->RelV x v->s.heap.IsSliceOf sl vl vu .none->IsPart vl lo->IsPart vu hi->r x lo hi H Q ->
  ∃T id,typeLookup (.type T) "__getitem__"=pure (some (.builtin id))/\s.TypeIs v T/\wpAny (model X.prog X.w) X.A (getItem v (.ref sl)) (EP X pins σ Q) X.xe s
theorem SlR.or{r r':V->Option Int->Option Int->Hp->VK->Prop}(h:SlR X r)(h':SlR X r'):SlR X (λx lo hi H Q=>r x lo hi H Q\/r' x lo hi H Q):=by
 intro pins s σ H x v vl vu lo hi sl Q I Z hs pl Y q;rcases q with q|q
 ·exact h pins s σ H x v vl vu lo hi sl Q I Z hs pl Y q
 ·exact h' pins s σ H x v vl vu lo hi sl Q I Z hs pl Y q
noncomputable def tSl(r:V->Option Int->Option Int->Hp->VK->Prop)(te:TE)(tl th:TO):TE:=λσ H Q=>te σ H λx H1=>tl σ H1 λl H2=>th σ H2 λu Z=>r x l u Z Q
theorem Fe{r:V->Option Int->Option Int->Hp->VK->Prop}(B:SlR X r)(J:PE X e te)(D:PO X lo tl)(hu:PO X hi th):PE X (.Subscript e (.Slice lo hi none p2) pos) (tSl r te tl th):=by
 intro pins s σ H Q I h;refine dy (thn (J pins s σ H _ I h) λv s1 ⟨x,H1,L,Y,q1⟩=>?_);refine wpAny_Slice (thn (D pins s1 σ H1 _ L q1) λvl s2 ⟨l,H2,M,pl,q2⟩=>thn (hu pins s2 σ H2 _ M q2) λvu s3 ⟨u,Z,N,U,W⟩=>?_);rw[evalPart_none];refine ae ?_;have O:Inv X pins σ Z {s3 with heap:=s3.heap.push {cls:=.type "slice", data:=.fields #[vl,vu,.none]} }:=N.kept (t':=s3.toks) λb K q=>ad _ q
 obtain⟨T,id,P,S,R⟩:=B pins {s3 with heap:=s3.heap.push {cls:=.type "slice", data:=.fields #[vl,vu,.none]} } σ Z x v vl vu l u s3.heap.objs.size Q O Y (Heap.IsSliceOf.new ..) pl U W;exact tail_any (ops:=[.ref s3.heap.objs.size,v]) S P R (by with_unfolding_all rfl)
def Fg(xs:List V)(lo hi:Option Int):List V:=(xs.drop (HT.sIx xs.length 0 lo)).take (HT.sIx xs.length xs.length hi-HT.sIx xs.length 0 lo)
theorem xu(xs:List V)(lo hi:Option Int):(Fg xs lo hi).length<=xs.length:=by
 unfold Fg;rw[cP,fZ];omega
def ak3(K:PySem.W.Frag):V->Option Int->Option Int->Hp->VK->Prop:=λx lo hi H Q=>∃a xs,x = .ref a/\SqT K H a xs /\
 ¬(HT.sIx xs.length 0 lo=0/\HT.sIx xs.length xs.length hi=xs.length)/\∀p,H p=none->Q (.ref p) (upd H p (.tup (Fg xs lo hi)))
theorem XC:SlR X (ak3 X.K):=by
 intro pins s σ H x v vl vu lo hi sl Q I Y hs pl W h;obtain⟨a,xs,rfl,U,hw,q⟩:=h
 cases Y;obtain⟨its,r,Z,V⟩:=I.tuple U;have hlen:its.toArray.size=xs.length:=by rw[aM];exact r.length.symm
 refine⟨"tuple", _,PyProof.Rows.slot_tuple_getitem.lookup,Z.typeIs,?_⟩;refine HT.vh Z hs pl W (by rwa[hlen]) ?_ (by rwa[hlen]);rw[hlen];refine⟨.ref s.heap.objs.size,_,I.laid (t':=s.toks) (o:=.tup (Fg xs lo hi)) (λb T q=>ad _ q) (aB _) ?_,rfl,q _ (I.hok.fresh (aB _))⟩;exact⟨aW (xu xs lo hi) V,_,(r.drop (HT.sIx xs.length 0 lo)).take (HT.sIx xs.length xs.length hi-HT.sIx xs.length 0 lo),IsTup.new _ _⟩
end
end L2
variable{r r':L2.R2}{its:List Value}{T:String}
namespace L2
noncomputable def ixN(n:Nat)(i:Int):Option Nat:=if 0<=i then(if i<n then some i.toNat else none)else if -(n:Int)<=i then some (i+n).toNat else none
def atI{α:Type}(xs:List α)(i:Int):Option α:=(ixN xs.length i).bind λj=>xs[j]?
theorem JR{i:Int}(h:ixN n i=some j):seqIndex? i n=some j/\j<n/\-(n:Int)<=i/\i<n:=by
 unfold ixN at h;by_cases Z:0<=i
 ·rw[if_pos Z]at h;by_cases h1:i<n
  ·rw[if_pos h1]at h;have e:=cO.inj h;exact⟨by rw[er Z h1,e],by omega,by omega,h1⟩
  ·rw[if_neg h1]at h;cases h
 ·rw[if_neg Z]at h;by_cases h1 : -(n:Int)<=i
  ·rw[if_pos h1]at h;have e:=cO.inj h;exact⟨by rw[dE (by omega) h1,e],by omega,h1,by omega⟩
  ·rw[if_neg h1]at h;cases h
theorem yp{α:Type}{xs:List α}{i:Int}{v:α}(h:atI xs i=some v):∃j,seqIndex? i xs.length=some j/\xs[j]? = some v/\j<xs.length/\-(xs.length:Int)<=i/\i<xs.length:=by
 unfold atI at h
 cases e:ixN xs.length i with
 |none=>rw[e]at h;cases h
 |some j=>
  rw[e]at h;obtain⟨h1,h2,Y,Z⟩:=JR e;exact⟨j,h1,h,h2,Y,Z⟩
def qM(b:Expr):Prop:=∀o i,subscripted b false o i=operate [o,i] (getItem o i)
def IxR(X:Cx)(r:R2):Prop:=
 ∀(value slice:Expr)(pins:List (Addr×Obj))(s:eS)(σ:St)(H:Hp)(x y:V)(v u:Value)(Q:VK),Inv X pins σ H s->RelV x v->RelV y u->r x y H Q ->
  subscripted slice false v u=operate [v,u] (getItem v u)->wpAny (model X.prog X.w) X.A (subscriptTail value slice v u) (EP X pins σ Q) X.xe s
def MtR(X:Cx)(id:String)(r:V->List V->Hp->VK->Prop):Prop:=
 ∀(pins:List (Addr×Obj))(s:eS)(σ:St)(H:Hp)(x:V)(xs:List V)(v:Value)(us:List Value)(Q:VK),Inv X pins σ H s->RelV x v->Vals xs us->r x xs H Q ->
  wpAny (model X.prog X.w) X.A (call (.builtin id) (v::us)) (EP X pins σ Q) X.xe s
section
variable{X:Cx}{a b:Expr}{ta tb:TE}{pos:Pos}
theorem IxR.or(h:IxR X r)(h':IxR X r'):IxR X (λx y H Q=>r x y H Q\/r' x y H Q):=by
 intro value slice pins s σ H x y v u Q I Y Z q hs;rcases q with q|q
 ·exact h value slice pins s σ H x y v u Q I Y Z q hs
 ·exact h' value slice pins s σ H x y v u Q I Y Z q hs
theorem Fi(B:IxR X r)(ha:PE X a ta)(D:PE X b tb)(hs:qM b):PE X (.Subscript a b pos) (tOp r ta tb):=by
 intro pins s σ H Q I h;exact dy (Xu ha D I h λv u s2 x y H2 W Y Z q=>B a b pins s2 σ H2 x y v u Q W Y Z q (hs _ _))
def aa0(K:PySem.W.Frag):R2:=λx y H Q=>∃p xs i v,x = .ref p/\y = .int i/\SqL K H p xs/\atI xs i=some v/\Q v H
def aa1(K:PySem.W.Frag):R2:=λx y H Q=>∃p xs i v,x = .ref p/\y = .int i/\SqT K H p xs/\atI xs i=some v/\Q v H
def aa2:R2:=λx y H Q=>∃z i c,x = .str z/\y = .int i/\z.length<=sizeLine/\atI z.cps.toList i=some c/\Q (.str ⟨#[c]⟩) H
theorem T9:IxR X (aa0 X.K):=by
 intro value slice pins s σ H x y v u Q I T U h hs;obtain⟨p,xs,i,z,rfl,rfl,S,P,q⟩:=h
 cases T;obtain⟨t,rfl⟩:=U;obtain⟨its,r,pl,M⟩:=I.list S;obtain⟨j,h1,h2,L,N,O⟩:=yp P;obtain⟨w,V,Z⟩:=r.get h2;have R:=r.length;have hn:=wA;have fin:EP X pins σ Q w s:=⟨z,H,I,Z,q⟩;by_cases W:0<=i
 ·have Y:i.toNat=j:=by
   rw[er W O]at h1;exact cO.inj h1
  exact item_listR pl.isList W (by omega) (by rw[Y];simpa using V) fin hs
 ·have Y:(i+(its.toArray.size:Int)).toNat=j:=by
   rw[dE (by omega) N]at h1;rw[aM,<-R];exact cO.inj h1
  exact subscriptTail_builtinR (x:=w) pl.isList.typeIs slot_list_getitem.lookup
   (wpAny_getItem_list_neg (Q:=λr s'=>r=w/\EP X pins σ Q r s') pl.isList (by omega) (by rw[aM]<;>omega) (by omega) (by rw[Y];simpa using V) ⟨rfl,fin⟩) hs
theorem XF:IxR X (aa1 X.K):=by
 intro value slice pins s σ H x y v u Q I W Y h hs;obtain⟨p,xs,i,z,rfl,rfl,V,T,q⟩:=h
 cases W;obtain⟨t,rfl⟩:=Y;obtain⟨its,r,pl,R⟩:=I.tuple V;obtain⟨j,h1,h2,N,O,P⟩:=yp T;obtain⟨w,S,Z⟩:=r.get h2;have U:=r.length;have hn:=wA;have fin:EP X pins σ Q w s:=⟨z,H,I,Z,q⟩;exact subscriptTail_builtinR (x:=w) pl.typeIs slot_tuple_getitem.lookup
  (getItem_tuple (j:=j) (Q:=λr s'=>r=w/\EP X pins σ Q r s') pl (by omega) (by omega) (by rwa[aM,<-U]) (by simpa using S) ⟨rfl,fin⟩) hs
theorem XH:IxR X aa2:=by
 intro value slice pins s σ H x y v u Q I Y Z h hs;obtain⟨z,i,c,rfl,rfl,R,V,q⟩:=h;obtain⟨t,rfl⟩:=Y;obtain⟨t',rfl⟩:=Z;obtain⟨j,h1,h2,P,T,U⟩:=yp V;have W:z.cps.toList.length=z.length:=by simp[Str.length]
 rw[W]at h1 T U;have hn:=wA;exact tail_any (typeIs_str s z t) slot_str_getitem.lookup (getItem_str (c:=c) (by
  have S:decide (i < -(2^63:Int))=false:=dFa (by omega);have e2:decide (i≥2^63)=false:=dFa (by omega);rw[S,e2,Bool.or_false]) (by rw[h1];simpa using h2) ⟨.str ⟨#[c]⟩,H,I.tok _,⟨_,rfl⟩,q⟩) hs
def rIx(K:PySem.W.Frag):R2:=λx y H Q=>aa0 K x y H Q\/aa1 K x y H Q\/aa2 x y H Q
theorem yO:IxR X (rIx X.K):=T9.or (XF.or XH)
theorem Ik(its:List Value)(n j:Nat)(u:Value):fI (·.setIfInBounds j u) {cls:=.type "list", data:=.seq its.toArray n}={cls:=.type "list", data:=.seq (its.set j u).toArray n}:=by
 simp[fI]
theorem Inv.lst{pins:List (Addr×Obj)}{σ:St}{H:Hp}{s:eS}{p:Addr}{xs:List V}(I:Inv X pins σ H s)(h:H p=some (.lst xs)):
 ∃(its:List Value)(n:Nat),Vals xs its/\s.heap.get? p=some {cls:=.type "list", data:=.seq its.toArray n}/\xs.length<=sizeLine:=by
 obtain⟨z,its,n,r,e⟩:=I.hok p _ h;exact⟨its,n,r,e,z⟩
theorem Inv.lstUpd{σ:St}{p:Addr}{xs ys:List V}{its':List Value}{B:Nat}{f:Obj->Obj}(I:Inv X pins σ H s)(h:H p=some (.lst xs))
 (J:s.heap.get? p=some {cls:=.type "list", data:=.seq its.toArray n}) (D:f {cls:=.type "list", data:=.seq its.toArray n}={cls:=.type "list", data:=.seq its'.toArray B}) (r:Vals ys its') (hz:ys.length<=sizeLine) (t:Nat) :
 Inv X pins σ (upd H p (.lst ys)) {s with heap:=s.heap.update p f,toks:=t}:=by
 have e:(s.heap.update p f).get? p=some {cls:=.type "list", data:=.seq its'.toArray B}:=by
  rw[az f J (by rw[D]<;>rfl),D]
 refine I.write (x:=p) (e:=p) (by rw[h];trivial) (.inl rfl) (λb u Z q=>(a4 _ _ (fA Z)).trans q) ⟨_,e⟩ ?_;exact⟨hz,its',B,r,e⟩
def aa3:V->V->V->Hp->(Hp->Prop)->Prop:=λo i v H Q=>∃p xs k j,o = .ref p/\i = .int k/\H p=some (.lst xs)/\ixN xs.length k=some j/\Q (upd H p (.lst (xs.set j v)))
theorem set_list:Tz X aa3:=by
 intro pins s σ H o i v K J u Q I P O R h;obtain⟨p,xs,k,j,rfl,rfl,U,N,q⟩:=h
 cases P;obtain⟨t,rfl⟩:=O;obtain⟨its,n,r,Z,G⟩:=I.lst U;obtain⟨h1,h2,L,M⟩:=JR N;have Y:=r.length;have hn:=wA;have S:Inv X pins σ (upd H p (.lst (xs.set j v))) {s with heap:=s.heap.update p (fI (·.setIfInBounds j u))}:=
  I.lstUpd U Z (Ik its n j u) (r.set R j) (by rwa[dg]) s.toks
 by_cases T:0<=k
 ·have V:k.toNat=j:=by
   rw[er T M]at h1;exact cO.inj h1
  exact PySem.W.ki_setAt Z T (by omega) (by rwa[aM,<-Y]) (by rw[V];exact⟨_,S,q⟩)
 ·have V:(k+(its.toArray.size:Int)).toNat=j:=by
   rw[dE (by omega) L]at h1;rw[aM,<-Y];exact cO.inj h1
  exact PySem.W.ki_setBack Z (by omega) (by rwa[aM,<-Y]) (by omega) (by rw[V];exact⟨_,S,q⟩)
theorem Cv(lo hi:Option Int)(n:Nat):(sliceBounds lo hi none n).1=((HT.sIx n 0 lo:Nat):Int)/\(sliceBounds lo hi none n).2.1=((HT.sIx n n hi:Nat):Int)/\(sliceBounds lo hi none n).2.2=1:=by
 refine⟨?_,?_,rfl⟩
 ·cases lo with
  |none=>simp[sliceBounds,HT.sIx]
  |some i=>
   simp only[sliceBounds,HT.sIx,Option.getD_none,show(1:Int)>0 by decide,if_true];by_cases h:i<0
   ·simp only[h,if_true]<;>omega
   ·simp only[h,if_false]<;>omega
 ·cases hi with
  |none=>simp[sliceBounds,HT.sIx]
  |some i=>
   simp only[sliceBounds,HT.sIx,Option.getD_none,show(1:Int)>0 by decide,if_true];by_cases h:i<0
   ·simp only[h,if_true]<;>omega
   ·simp only[h,if_false]<;>omega
theorem Av(its:List Value)(lo hi:Option Int):slicePick its.toArray lo hi none=((its.drop (HT.sIx its.length 0 lo)).take (HT.sIx its.length its.length hi-HT.sIx its.length 0 lo)).toArray:=by
 obtain⟨h1,h2,Z⟩:=Cv lo hi its.toArray.size;unfold slicePick;rw[h1,h2,Z];simp only[sliceRange_one,pick_run,aM]<;>rfl
def ak4(K:PySem.W.Frag):V->Option Int->Option Int->Hp->VK->Prop:=λx lo hi H Q=>∃a xs,x = .ref a/\SqL K H a xs/\∀p,H p=none->Q (.ref p) (upd H p (.lst (Fg xs lo hi)))
theorem T_:SlR X (ak4 X.K):=by
 intro pins s σ H x v vl vu lo hi sl Q I Y hs pl W h;obtain⟨a,xs,rfl,U,q⟩:=h
 cases Y;obtain⟨its,r,Z,V⟩:=I.list U;have hlen:=r.length;refine⟨"list", _,slot_list_getitem.lookup,Z.isList.typeIs,?_⟩;refine wpAny_getItem_list_slice Z.isList hs pl W .none (by simp) ?_ (by rw[aM]<;>omega);rw[Av,<-hlen];refine⟨.ref s.heap.objs.size,_,I.laid (t':=s.toks) (o:=.lst (Fg xs lo hi)) (λb T q=>ad _ q) (aB _) ?_,rfl,q _ (I.hok.fresh (aB _))⟩;exact⟨aW (xu xs lo hi) V,_,0,(r.drop (HT.sIx xs.length 0 lo)).take (HT.sIx xs.length xs.length hi-HT.sIx xs.length 0 lo),ag _ rfl⟩
theorem cB:lG X (.builtin "len") (λxs H Q=>∃p ys,xs=[.ref p]/\(SqL X.K H p ys\/SqT X.K H p ys)/\Q (.int ys.length) H):=by
 intro pins s σ H xs us Q I r h;obtain⟨p,ys,rfl,Z,q⟩:=h;obtain⟨u,rfl,Y⟩:=vals1 r
 cases Y;have hn:=wA;rcases Z with Z|Z
 ·obtain⟨its,r',pl,W⟩:=I.list Z;have hlen:=r'.length;exact Calls.call_len_list pl.isList (by simp only[aM]<;>omega) ⟨.int ys.length,H,I.tok _,⟨s.toks+1,by rw[aM,hlen]⟩,q⟩
 ·obtain⟨its,r',pl,W⟩:=I.tuple Z;have hlen:=r'.length;exact len_tuple pl (by simp only[aM]<;>omega) ⟨.int ys.length,H,I.tok _,⟨s.toks+1,by rw[aM,hlen]⟩,q⟩
theorem Cw:lG X (.type "list") (λxs H Q=>∃p ys,xs=[.ref p]/\(SqL X.K H p ys\/SqT X.K H p ys)/\∀l,H l=none->Q (.ref l) (upd H l (.lst ys))):=by
 intro pins s σ H xs us Q I r h;obtain⟨p,ys,rfl,Y,q⟩:=h;obtain⟨u,rfl,U⟩:=vals1 r
 cases U;have fin:∀(its:List Value),Vals ys its->ys.length<=sizeLine->∀(h':f8)(c':Nat),(∀b o',s.heap.get? b=some o'->h'.get? b=some o') ->
  h'.get? s.heap.objs.size=some {cls:=.type "list", dict:=none,data:=.seq its.toArray c',slots:=#[]}->EP X pins σ Q (.ref s.heap.objs.size) {s with heap:=h'}:=λits r' Z h' c' kp e=>
  ⟨.ref s.heap.objs.size,_,I.laid (t':=s.toks) kp (aB _) (show gA X.prog X.w _ h' _ (.lst ys)from⟨Z,its,c',r',e⟩),rfl,q _ (I.hok.fresh (aB _))⟩
 rcases Y with Y|Y
 ·obtain⟨its,r',pl,Z⟩:=I.list Y;have hlen:=r'.length;obtain⟨o,W,V,n,hd⟩:=pl.isList;exact call_list_seq p (.inl rfl) W V hd (λh' c' kp e=>fin its r' Z h' c' kp e) (by simp only[aM]<;>omega)
 ·obtain⟨its,r',pl,Z⟩:=I.tuple Y;have hlen:=r'.length;obtain⟨o,W,V,n,hd⟩:=pl;exact call_list_seq p (.inr rfl) W V hd (λh' c' kp e=>fin its r' Z h' c' kp e) (by simp only[aM]<;>omega)
theorem uo:lG X (.type "tuple") (λxs H Q=>∃p ys,xs=[.ref p]/\((SqL X.K H p ys/\∀l,H l=none->Q (.ref l) (upd H l (.tup ys)))\/(SqT X.K H p ys/\Q (.ref p) H))):=by
 intro pins s σ H xs us Q I r h;obtain⟨p,ys,rfl,h⟩:=h;obtain⟨u,rfl,V⟩:=vals1 r
 cases V;rcases h with⟨Z,q⟩|⟨Z,q⟩
 ·obtain⟨its,r',pl,Y⟩:=I.list Z;have hlen:=r'.length;refine call_tuple_list pl.isList (λh' kp=>?_) (by simp only[aM]<;>omega);have W:=I.kept (t':=s.toks) kp;have U:Inv X pins σ (upd H h'.objs.size (.tup ys)) {s with heap:=h'.push {cls:=.type "tuple", data:=.seq its.toArray} }:=
   W.laid (t':=s.toks) (λb o e=>ad _ e) (aB _) (show gA X.prog X.w _ _ _ (.tup ys)from⟨Y,its,r',IsTup.new _ _⟩)
  exact⟨.ref h'.objs.size,_,U,rfl,q _ (W.hok.fresh (aB _))⟩
 ·obtain⟨its,r',pl,Y⟩:=I.tuple Z;exact call_tuple_same pl ⟨.ref p,H,I,rfl,q⟩
def tyV(K:PySem.W.Frag)(T:String)(x:V)(H:Hp):Prop:=match x with
 | .str _=>T="str"
 | .int _=>T="int"
 | .ref p=>(T="list" /\ ∃xs,SqL K H p xs)\/(T="tuple" /\ ∃o,K.lookup p=some o/\o.cls = .type "tuple"/\o.dict=none) \/
  (T="dict"/\((∃kvs,H p=some (.dK kvs))\/∃kvs,H p=some (.dT kvs)))\/(T="set" /\ ∃S n,H p=some (.set S n))
 |_=>False
theorem Ol{σ:St}{x:V}{v:Value}(I:Inv X pins σ H s)(r:RelV x v)(ty:tyV X.K T x H):
 s.TypeIs v T/\∀a,v = .ref a->∃B,s.heap.get? a=some B/\B.dict=none:=by
 cases x with
 |str z=>
  obtain⟨t,rfl⟩:=r
  cases(show T="str"from ty);exact⟨typeIs_str s z t,λ_ e=>nomatch e⟩
 |int i=>
  obtain⟨t,rfl⟩:=r
  cases(show T="int"from ty);exact⟨typeIs_int s i t,λ_ e=>nomatch e⟩
 |ref p=>
  cases r;rcases ty with⟨rfl,xs,Y⟩|⟨rfl,o,Z,W,hd⟩|⟨rfl,Z⟩|⟨rfl,S,n,Z⟩
  ·obtain⟨its,_,pl,_⟩:=I.list Y;refine⟨pl.isList.typeIs,λa e=>?_⟩
   cases e;obtain⟨o,n,e,c,hd,_⟩:=pl;exact⟨o,e,hd⟩
  ·refine⟨⟨o,I.kIn p o Z,W⟩,λa e=>?_⟩
   cases e;exact⟨o,I.kIn _ o Z,hd⟩
  ·have z:∃o,s.heap.get? p=some o/\o.ExactDict:=by
    rcases Z with⟨kvs,Z⟩|⟨kvs,Z⟩
    ·obtain⟨_,_,_,_,o,_,_,e,ex,_⟩:=I.hok p _ Z;exact⟨o,e,ex⟩
    ·obtain⟨_,_,_,_,o,_,_,e,ex,_⟩:=I.hok p _ Z;exact⟨o,e,ex⟩
   obtain⟨o,e,ex⟩:=z;refine⟨⟨o,e,ex.1⟩,λa e2=>?_⟩
   cases e2;exact⟨o,e,ex.2.1⟩
  ·obtain⟨o,_,_,_,e,ex,_⟩:=I.hok p _ Z;refine⟨⟨o,e,ex.1⟩,λa e2=>?_⟩
   cases e2;exact⟨o,e,ex.2.1⟩
 |_=>exact gL ty
def ak5(K:PySem.W.Frag)(T:String)(r:V->List V->Hp->VK->Prop)(to:TE):TE:=λσ H Q=>to σ H λx H1=>tyV K T x H1/\r x [] H1 Q
noncomputable def tBM(K:PySem.W.Frag)(T:String)(r:V->List V->Hp->VK->Prop)(to:TE)(t:TA):TE:=λσ H Q=>to σ H λx H1=>tyV K T x H1/\t σ H1 λxs H2=>r x xs H2 Q
variable{o e:Expr}{es:List Expr}{to:TE}{t:TA}{name:Str}{apos cpos:Pos}{T id:String}{r:V->List V->Hp->VK->Prop}
theorem XM(O:PlainAttrs T)(slot:Slot T name id)(J:typeOf (.builtin id)=pure (.type "method_descriptor"))(hm:MtR X id r)(W:PE X o to)
 (D:attributeBase o name X.env (eval o X.env)=eval o X.env:=by rfl) (B:(apos.endLine==cpos.line)=true:=by rfl):PE X (.Call (.Attribute o name apos) [] [] cpos) (ak5 X.K T r to):=by
 intro pins s σ H Q I h;refine wpAny_Call_method0_late D B (thn (W pins s σ H _ I h) λv s1 ⟨x,H1,Y,Z,ty,q1⟩=>?_);obtain⟨h1,h2⟩:=Ol Y Z ty;exact⟨T,id,O,slot,J,h1,h2,b8 rfl (PySem.evalArgs_none (hm pins s1 σ H1 x [] v [] Q Y Z .nil q1))⟩
theorem Wu(pa:PlainAttrs T)(slot:Slot T name id)(W:typeOf (.builtin id)=pure (.type "method_descriptor"))(hm:MtR X id r)(ho:PE X o to)(ha:PA X (e::es) t)
 (J:attributeBase o name X.env (eval o X.env)=eval o X.env:=by rfl)
 (O:((backTo cpos (starEach (e::es) X.env)).all (λx=>!x.1)&&(backToKw cpos (keywordEach [] X.env)).all (λx=>x.1.isSome)
  && decide ((e::es).length+([]:List h8).length+(if([]:List h8).isEmpty then 0 else 1)<30))=true:=by rfl)
 (D:(apos.endLine==cpos.line)=true:=by rfl) (hs:starEach (e::es) X.env=(false,eval e X.env)::starEach es X.env:=by rfl) (B:(backTo cpos (starEach es X.env)).any (·.1)=false:=by rfl) :
 PE X (.Call (.Attribute o name apos) (e::es) [] cpos) (tBM X.K T r to t):=by
 intro pins s σ H Q I h;refine wpAny_Call_method_late J O D rfl (thn (ho pins s σ H _ I h) λv s1 ⟨x,H1,V,Z,ty,q1⟩=>?_);obtain⟨h1,h2⟩:=Ol V Z ty;refine⟨T,id,pa,slot,W,h1,h2,?_⟩;have Y:=ha cpos pins s1 σ H1 _ V q1;rw[hs]at Y ⊢;refine b8 (by show(false||(backTo cpos (starEach es X.env)).any (·.1))=false;rw[B]<;>rfl) (eH ?_);exact thn Y λus s2 ⟨vs,H2,S,U,q2⟩=>hm pins s2 σ H2 x vs v us Q S Z U q2
/- xs.append(e),list.index on a module's tuple .. are MtR facts of 06m -/
end
end L2
namespace L2
def MtM(X:Cx)(id:String)(r:V->List V->Hp->VK->Prop):Prop:=
 ∀(pins:List (Addr×Obj))(s:eS)(σ:St)(H:Hp)(x:V)(xs:List V)(v:Value)(us:List Value)(Q:VK),Inv X pins σ H s->RelV x v->Vals xs us->r x xs H Q ->
  wpAny (model X.prog X.w) X.A (call (.builtin id) (v::us)) (EP X pins σ Q) X.xe s
theorem Vals.one:∀{x:V}{us:List Value},Vals [x] us->∃u,us=[u]/\RelV x u
 |_,_,.cons r .nil=>⟨_,rfl,r⟩
theorem Vals.zero:∀{us:List Value},Vals [] us->us=[]
 |_,.nil=>rfl
theorem Vals.dropLast{xs:List V}(h:Vals xs us):Vals xs.dropLast us.dropLast:=by
 induction h with
 |nil=>exact .nil
 |cons r t Z=>
  cases t with
  |nil=>exact .nil
  |cons q t'=>exact .cons r Z
theorem Vals.eraseIdx:∀{xs:List V}{us:List Value}(i:Nat),Vals xs us->Vals (xs.eraseIdx i) (us.eraseIdx i)
 |_,_,_,.nil=>.nil
 |_,_,0,.cons _ t=>t
 |_,_,i+1,.cons r t=>.cons r (Vals.eraseIdx i t)
theorem Vals.reverse{xs:List V}(h:Vals xs us):Vals xs.reverse us.reverse:=by
 induction h with
 |nil=>exact .nil
 |cons r t Z=>rw[jJ,jJ];exact Vals.append Z (.cons r .nil)
theorem Vals.rep{xs:List V}(h:Vals xs us):∀k:Nat,Vals (aO k xs).flatten (aO k us).flatten
 |0=>.nil
 |k+1=>by
  rw[cL,cL,fJ,fJ];exact Vals.append h (Vals.rep h k)
theorem Il{α:Type}(l:List α):l.eraseIdx (l.length-1)=l.dropLast:=by
 induction l with
 |nil=>rfl
 |cons a r Z=>
  cases r with
  |nil=>rfl
  |cons b r=>
   have e:(a::b::r).length-1=((b::r).length-1)+1:=by
    have h1:(a::b::r).length=r.length+2:=rfl;have h2:(b::r).length=r.length+1:=rfl;omega
   rw[e,List.eraseIdx_cons_succ,Z]
   all_goals rfl
theorem foldl_rep(its:List Value):∀(k:Nat)(acc:List Value),
 List.foldl (λx1 B=>x1++B) acc.toArray (aO k its.toArray)=(acc++(aO k its).flatten).toArray
 |0,acc=>by simp
 |k+1,acc=>by
  have e:acc.toArray++its.toArray=(acc++its).toArray:=by simp
  have e2:(acc++its)++(aO k its).flatten=acc++(aO (k+1) its).flatten:=by
   rw[cL,fJ,aL]
  rw[<-e2,<-foldl_rep its k (acc++its),<-e,cL,gP]
section
variable{X:Cx}{pins:List (Addr×Obj)}{σ:St}{H:Hp}{s:eS}{l b:Addr}{xs ys zs:List V}
theorem Inv.lset{its':List Value}{f:Array Value->Array Value}(I:Inv X pins σ H s)(J:H l=some (.lst xs))
 (e:s.heap.get? l=some {cls:=.type "list", data:=.seq its.toArray n}) (D:f its.toArray=its'.toArray) (B:Vals ys its') (hz:ys.length<=sizeLine) :
 Inv X pins σ (upd H l (.lst ys)) {s with heap:=s.heap.update l (fI f),toks:=t'}:=by
 have q:=PySem.IsL.update e f;rw[D]at q;refine I.write (x:=l) (e:=l) (by rw[J];exact trivial) (.inl rfl) (λY u Z hu=>(a4 s.heap (fI f) (fA Z)).trans hu) ⟨_,q⟩ ?_;exact⟨hz,its',_,B,q⟩
theorem Inv.lnew(I:Inv X pins σ H s)(B:Vals ys its)(hz:ys.length<=sizeLine):
 Inv X pins σ (upd H s.heap.objs.size (.lst ys)) {s with heap:=s.heap.push {cls:=.type "list", data:=.seq its.toArray},toks:=t'}:=
 I.laid (λ_ _ q=>ad _ q) (aB _) ⟨hz,its,0,B,ag _ rfl⟩
theorem Inv.fresh(I:Inv X pins σ H s):H s.heap.objs.size=none:=I.hok.fresh (aB _)
theorem Inv.lstM(I:Inv X pins σ H s)(B:H l=some (.lst xs)):xs.length<=sizeLine/\∃(its:List Value)(n:Nat),Vals xs its/\xs.length=its.length/\s.heap.get? l=some {cls:=.type "list", data:=.seq its.toArray n}:=by
 obtain⟨z,its,n,r,e⟩:=I.hok l _ B;exact⟨z,its,n,r,r.length,e⟩
theorem Om(h:n<=sizeLine):im n=false:=by
 exact dFa (by omega)
end
section
variable{X:Cx}
def Ua:V->List V->Hp->VK->Prop:=λx vs H Q=>∃l xs y,x = .ref l/\vs=[y]/\H l=some (.lst xs)/\xs.length<sizeLine/\Q .non (upd H l (.lst (xs++[y])))
theorem wC:MtM X "list.append" Ua:=by
 intro pins s σ H x vs v us Q I Y W h;obtain⟨l,xs,y,rfl,rfl,Z,U,q⟩:=h
 cases Y;obtain⟨u,rfl,V⟩:=W.one;obtain⟨z,its,n,r,T,e⟩:=I.lstM Z;refine dv F.slot_list_append ⟨_,e,rfl⟩ F.entry_list_append (F.args_list_append_2 _ _) (PySem.list_append l its.toArray n u (by rw[aM];omega)) ⟨e,?_⟩;refine⟨.non,_,I.lset (its':=its++[u]) Z e (by simp) (r.append (.cons V .nil)) ?_,rfl,q⟩;rw[bB,jG];omega
def ak6:V->List V->Hp->VK->Prop:=λx vs H Q=>∃l xs y,x = .ref l/\vs=[]/\H l=some (.lst xs)/\xs[xs.length-1]? = some y/\Q y (upd H l (.lst xs.dropLast))
theorem XQ:MtM X "list.pop" ak6:=by
 intro pins s σ H x vs v us Q I V U h;obtain⟨l,xs,y,rfl,rfl,W,S,q⟩:=h
 cases V;have Y:=U.zero;subst Y;obtain⟨z,its,n,r,R,e⟩:=I.lstM W;obtain⟨u,hu,T⟩:=r.get S;have Z:its.toArray[its.toArray.size-1]? = some u:=by
  show its.toArray[its.length-1]? = some u;rwa[<-bW,<-R]
 refine dv F.slot_list_pop ⟨_,e,rfl⟩ F.entry_list_pop (F.args_list_pop_1 _) (MeetsSeq.list_pop_last l its.toArray n u Z (by rw[aM];omega)) ⟨e,?_⟩;refine⟨y,_,I.lset (its':=its.dropLast) W e ?_ r.dropLast ?_,T,q⟩
 ·rw[aM,List.eraseIdxIfInBounds_toArray,Il]
 ·rw[List.length_dropLast];omega
def ak7:R2:=λx y H Q=>∃l k xs,x = .ref l/\y = .int k/\H l=some (.lst xs)/\-(2^63)<=k/\k<2^63/\xs.length*k.toNat<=sizeLine /\
 ∀p,H p=none->Q (.ref p) (upd H p (.lst (aO k.toNat xs).flatten))
theorem len_rep{α:Type}(xs:List α)(k:Nat):(aO k xs).flatten.length=k*xs.length:=by
 induction k with
 |zero=>simp
 |succ k Z=>rw[cL,fJ,bB,Z,Nat.succ_mul,Nat.add_comm]
theorem XR:OpR X (binaryOp .Mult) ak7:=by
 intro pins s σ H x y v u Q I P R h;obtain⟨l,k,xs,rfl,rfl,N,h1,h2,L,q⟩:=h
 cases P;obtain⟨t,rfl⟩:=R;obtain⟨z,its,n,r,O,e⟩:=I.lstM N;have hlen:its.toArray.size*k.toNat<=sizeLine:=by rwa[aM,<-O]
 have V:¬its.toArray.size*k.toNat>(2^63-1)/8:=by
  have:(sizeLine:Nat)<=(2^63-1)/8:=by decide
  omega
 have W:¬(!Builtin.List.listFitsIndex k)=true:=by
  rw[fitsIndex_both h1 h2];exact aX
 have Z:¬im (its.toArray.size*k.toNat)=true:=by
  rw[Om hlen];exact aX
 have Y:List.foldl (λx1 S=>x1++S) #[] (aO (if its.toArray.isEmpty=true then 0 else k.toNat) its.toArray)=(aO k.toNat its).flatten.toArray:=by
  have M:=λm=>by
   have:=foldl_rep its m [];rwa[cT]at this
  rw[M]
  cases its with
  |nil=>simp
  |cons a r'=>rw[if_neg (by simp)]
 refine wpAny_binaryOp_repeat_ref (T := "list") (U := "int") (by decide) ⟨_,e,rfl⟩ (λs'=>typeIs_int s' k t) noFill_list_mul F.fills_int_mul F.slot_int_rmul repeat_list F.slot_int_index.lookup
  (dv F.slot_int_rmul (typeIs_int s k t) F.entry_int_rmul (F.args_int_rmul_2 _ _) (int___rmul___int_list k t l its.toArray n)
   ⟨e,rfl,⟨_,e,rfl⟩,dv F.slot_list_mul ⟨_,e,rfl⟩ F.entry_list_mul (F.args_list_mul_2 _ _) (AutoListH.list___mul___list_int_3 l its.toArray n k t W V Z) ⟨e,?_⟩⟩)
 rw[Y];exact⟨.ref _,_,I.lnew (t':=s.toks) (r.rep k.toNat) (by rwa[len_rep,Nat.mul_comm]),rfl,q _ I.fresh⟩
end
section
variable{prog:e9}{w:fy}{A:fm}{E:Value->eS->Prop}{s:eS}
set_option maxRecDepth 100000 in
end
section
variable{X:Cx}
end
end L2
variable{XP:(Str->Option Value)->f8->Prop}{YP:fy->f8->Prop}{m:Str->Option Value}
namespace Att
open PySem.W PySem.Calls
theorem xX{P:Params}:∀(ns:List Int)(vs:List Value),WellAll P h vs (ns.map WData.int)->gS vs ns:=by
 intro ns
 induction ns with
 |nil=>
  intro vs w;rw[iB]at w
  cases w;exact .nil
 |cons n ns Z=>
  intro vs w;rw[aF]at w
  cases w with
  |cons a b=>
   cases a;exact .cons _ _ (Z _ b)
theorem Mg{l:OpenLaw}(hn:l.most=some n){P:Params}{h:f8}{args:List WData}{vals:List Value}
 (B:l.row.toRowW.claim.pre args=true) (D:WellAll P h vals args) :
 ∃a vs ns,vals=[eW a]/\args=[WData.list (ns.map WData.int)]/\h.get? a=some {cls:=.type "list", data:=.seq vs.toArray}/\gS vs ns/\ns.length<=n:=by
 have X:=(pre_splitW B).1;have R:l.pre.holds [] {args:=args}=true:=(pre_splitW B).2;obtain⟨d,r,rfl,h1,h2⟩:=hasAllW_cons X;obtain rfl:=hasAllW_nil h2;obtain⟨xs,rfl,Q⟩:=hasW_list h1;obtain⟨ns,rfl⟩:=items_int Q;have hlen:ns.length<=n:=by
  have W:(WTm.not (.lt (.lit (.int (n:Int))) (.len (.arg 0)))).holds [] {args:=[.list (ns.map .int)]}=true:=by
   have W:=(holds_andW R).1;rwa[hn]at W
  have Y:=condW_of W (w_not (w_lt w_lit (w_len_list (w_arg rfl))));rw[aq]at Y;refine Nat.le_of_not_lt λq=>?_
  have T:(n:Int)<((ns.length:Nat):Int):=by omega
  first
   | (rw[dTr T]at Y;exact absurd Y (by decide))
   | (simp at Y;omega)
 cases D with
 |cons U V=>
  cases V
  cases U with
  |list S Z=>exact⟨_,_,ns,rfl,rfl,S,xX ns _ Z,hlen⟩
theorem Mh(l:OpenLaw)(args:List WData):l.row.toRowW.claim.post args (.bool true) args=true:=
 postW_of (r:=l.row.toRowW) (X:=(true==true))
  (show WShape.has [] (.bool true) .bool=true by first|rfl|decide|simp[WShape.has,WShape.arms,WShape.armsAll])
  (show(WTm.eq .res (.lit (.bool true))).value [] {args:=args,res:=some (.bool true),after:=args}=some (.bool (true==true))from w_eq_bool (w_res rfl) w_lit) rfl
theorem Fj{l:OpenLaw}{q:e9}{loose:List Str}{d:DefRec}
 (hn:l.most=some n) (J:d.params.defaults=[])
 (call:∀(w:fy)(s₀ B:eS)(mg D:Str->Option Value)(fa:Addr)(o:Obj)(pm cd doc:Value)(a:Addr)(vs:List Value)(ns:List Int),
  Ground q loose [] XP w s₀ mg D B.heap->YP w B.heap ->
  B.heap.get? fa=some o->o.data = .func (docDef d.name d.params d.body d.scope pm cd doc)->B.heap.CodeRec cd d.name->mg d.name=some (.ref fa) ->
  B.heap.get? a=some {cls:=.type "list", data:=.seq vs.toArray}->gS vs ns->ns.length<=n->B.gens = #[] ->
  codeAny (model l.prog w) callerA (.call (.ref fa) ⟨[.ref a],[]⟩) (λr s'=>r = .ok (.ret (.bool true))/\OldK B.heap s'.heap/\s'.os=B.os/\ik s'.gens) B) :
 WalkO q loose XP YP l.row.toRowW d [] (λf vs=>PySem.call f vs):=by
 intro w s₀ B mg D G Y fa o pm cd doc dV kV P hd U S V N args vals as Z T R W O;obtain rfl:dV = .none:=Dflts.none S J;obtain rfl:kV = .none:=Dflts.noKw S;obtain⟨a,vs,ns,rfl,rfl,X,hints,hlen⟩:=Mg hn Z W;refine enter_call (dQ (call w s₀ B mg D fa o pm cd doc a vs ns G Y P (fd_plain hd) U V X hints hlen N) λr s' Q=>?_);obtain⟨rfl,h2,L,M⟩:=Q;exact⟨.inl ⟨.bool true,.bool true,[],rfl,λ_=>rfl,.bool true,Mh l _,λ_=>⟨List.Pairwise.nil,λ_ hm=>(nomatch hm)⟩⟩,h2,L,M⟩
section
variable{prog:e9}{w:fy}{A:fm}{E:Value->eS->Prop}{s:eS}{K:Frag}
def lX(h:f8):f8:={h with objs:=#[]}
theorem qQ(h:f8)(b:Addr):(lX h).get? b=none:=by
 cases e:(lX h).get? b with
 |none=>rfl
 |some o=>exact absurd (af e) (Nat.not_lt_zero _)
theorem Oo{L:Addr}(n:h.Ns L m):Fr (lX h) L h m:=
 ⟨n,λb o e=>(by rw[qQ]at e;cases e),cH _⟩
end
end Att
variable{CX:L2.CXT}{sp:L2.Sp}{ns:List Int}
namespace L2
theorem oA:∀{vs:List Value}{ns:List Int},gS vs ns->Vals (ns.map V.int) vs
 |_,_,.nil=>.nil
 |_,_,.cons n t h=>.cons ⟨t,rfl⟩ (oA h)
def Only(H:Hp):Prop:=∀b,H b=none\/∃o xs,H b=some (.frz o (.lst xs))
noncomputable def Fo(ts:List (Addr×Str×Pos))(H:Hp):Hp:=λb=>match ts.find? (λt=>t.1==b)with
 |some t=>some (.tbl t.2.1 t.2.2)
 |none=>H b
theorem Oq(ts:List (Addr×Str×Pos))(H:Hp)(b:Addr):(Fo ts H b=H b/\∀t∈ts,t.1≠b)\/∃t∈ts,t.1=b/\Fo ts H b=some (.tbl t.2.1 t.2.2):=by
 unfold Fo
 cases e:ts.find? (λt=>t.1==b)with
 |none=>exact .inl ⟨rfl,λt Z z=>by have:=jr.mp e t Z;simp[z]at this⟩
 |some t=>
  have h1:=ig e;have h2:=rJ e;exact .inr ⟨t,h1,by simpa using h2,rfl⟩
theorem Ot{mb:Str->Option Value}{k:Nat}{fa:Addr}{B:eS}{vs:List Value}
 (KX:K.In B.heap) (hns:B.heap.Ns mainGlobals mg) (D:B.heap.Ns builtinsNs mb) (hbb:∀x:Str,x≠"__name__"->mb x=bootBuiltins x) (hlim:B.heap.NoLimit) (hbm:∃bm O,mg "__builtins__"=some (.ref bm)/\bm≠builtinsNs/\B.heap.get? bm=some O/\O.cls = .type "module"/\O.dict=some builtinsNs/\O.data = .plain) (hg:B.gens = #[])
 (ha:B.heap.get? a=some {cls:=.type "list", data:=.seq vs.toArray}) (hi:gS vs ns) (hl:ns.length<=sizeLine) (hr:Room k callerA)
 (F:∀base:f8,K.In base->base.Ns mainGlobals mg->FnOk P w K mg base CX k fa fd [x] sp) (hbind:∀(s:eS)(u:Value),BindsTo s fd ⟨[u],[]⟩ [(x,u)])
 (ts:List (Addr×Str×Pos)) (J:∀t∈ts,B.heap.get? t.1=some {cls:=.none,data:=.fields #[]}) (hCT:∀t∈ts,isCodeTable B.heap t.1) (hKt:∀t∈ts,K.lookup t.1=none) (htu:∀t∈ts,∀t'∈ts,t.1=t'.1->t=t')
 (hsp:∀H:Hp,(∀t∈ts,H t.1=some (.tbl t.2.1 t.2.2))->SqL K H a (ns.map V.int)->sp [.ref a] H (λv _=>v = .bl true) λ_ _ _=>False)
 (hCX:∀H e s',CX [] H B (λ_ _ _=>False) e s'->False) :
 codeAny (model P w) callerA (.call (.ref fa) ⟨[.ref a],[]⟩) (λr s'=>r = .ok (.ret (.bool true))/\OldK B.heap s'.heap/\s'.os=B.os/\ik s'.gens) B:=by
 have f:=oA hi;have N:=hi.length;have core:∀H:Hp,(∀b,H b=none\/(∃o xs,H b=some (.frz o (.lst xs)))\/∃t∈ts,t.1=b/\H b=some (.tbl t.2.1 t.2.2))->(∀t∈ts,H t.1=some (.tbl t.2.1 t.2.2))->SqL K H a (ns.map V.int)->HOk P w H B.heap->(∀b,H b≠none->b=a\/∃t∈ts,t.1=b)->(H a≠none->K.lookup a=none) ->
  codeAny (model P w) callerA (.call (.ref fa) ⟨[.ref a],[]⟩) (λr s'=>r = .ok (.ret (.bool true))/\OldK B.heap s'.heap/\s'.os=B.os/\ik s'.gens) B:=by
  intro H M hT l hok I j;have Z:∀{b:Addr}{o:Obj},B.heap.get? b=some o->H b=none->(Ew B.heap H).get? b=some o:=λe n=>NQ e n
  have E:∀{b:Addr}{o:Obj}{es:Array DictEntry}{ep:Nat},B.heap.get? b=some o->o.data = .dict es ep->H b=none:=λ{b o es ep} e d=>by
   cases q:H b with
   |none=>rfl
   |some u=>
    rcases I b (by rw[q];simp)with X|⟨t,Y,X⟩
    case inr=>
     subst X;rw[J t Y]at e;cases e;have g:Data.fields #[]=Data.dict es ep:=d
     cases g
    subst X;rw[ha]at e;cases e;have g:Data.seq vs.toArray _=Data.dict es ep:=d
    cases g
  have U:∀{b:Addr}{m:Str->Option Value},B.heap.Ns b m->(Ew B.heap H).Ns b m:=λ{b m} ⟨o,es,ep,e,d,r⟩=>⟨o,es,ep,Z e (E e d),d,r⟩
  have L:=λb o e=>Z (KX b o e) (by
   cases q:H b with
   |none=>rfl
   |some u=>
    rcases I b (by rw[q];simp)with X|⟨t,Y,X⟩
    ·subst X;rw[j (by rw[q];simp)]at e;cases e
    ·subst X;rw[hKt t Y]at e;cases e)
  have hM:Mod K mg (Ew B.heap H):=⟨L,U hns,⟨mb,U D,hbb⟩,let⟨mc,h1,h2⟩:=hlim;⟨mc,U h1,h2⟩,let⟨bm,O,g1,g2,g3,i,g5,g6⟩:=hbm;⟨bm,O,g1,g2,Z g3 (by
   cases q:H bm with
   |none=>rfl
   |some u=>
    rcases I bm (by rw[q];simp)with X|⟨t,Y,X⟩
    ·rw[X,ha]at g3;cases g3;have z:=i;injection z with z
     exact absurd z (by decide)
    ·rw[<-X,J t Y]at g3;cases g3
     cases i),i,g5,g6⟩⟩
  have e0:Env0 P w K mg (Ew B.heap H) callerA [] B H:=⟨rfl,hM,λb o e=>Tp e,nW (Lw _ _),trivial,λb D=>absurd (show b∈([]:List Addr)from D) (by simp),hok,.of_eq hg⟩;refine dQ ((F _ L (U hns)).run callerA [] B H ⟨[.ref a],[]⟩ [.ref a] [.ref a] _ _ hr e0 (hbind B (.ref a)) (.cons rfl .nil) (hsp H hT l)) λr s' h=>?_
  cases r with
  |error e=>exact(hCX H e s' h).elim
  |ok fl=>
   cases fl with
   |next=>exact gL h
   |brk=>exact gL h
   |cont=>exact gL h
   |ret u=>
    obtain⟨v,H',os,bare,un,T,r',q⟩:=h;have q':v = .bl true:=q;subst q';obtain rfl:u=gq true:=r';refine⟨rfl,⟨λb o e=>?_,λb o e=>un.there b o e (by simp)⟩,os,bare⟩
    cases q:H b with
    |none=>exact .inl <| un.keep b o e q (by intro z;exact absurd (show b∈([]:List Addr)from z) (by simp)) (by simp)
    |some u=>
     rcases M b with z|⟨O,xs,z⟩|⟨t,Y,rfl,z⟩
     case inr.inr=>
      have z2:=un.tbls _ _ _ z;obtain⟨ps,e2,_⟩:=T _ _ z2;rw[J t Y]at e;cases e;exact .inr (.inl ⟨hCT t Y,rfl,#[],ps,rfl,by rw[e2];simp⟩)
     ·rw[q]at z;cases z
     ·have z2:=un.frzs b O _ z;obtain⟨e1,_⟩:=hok b _ z;obtain⟨e2,_⟩:=T b _ z2;rw[e]at e1;cases e1;exact .inl e2
 have W:∀H:Hp,Only H->SqL K H a (ns.map V.int)->HOk P w H B.heap->(∀b,H b≠none->b=a)->(H a≠none->K.lookup a=none) ->
  codeAny (model P w) callerA (.call (.ref fa) ⟨[.ref a],[]⟩) (λr s'=>r = .ok (.ret (.bool true))/\OldK B.heap s'.heap/\s'.os=B.os/\ik s'.gens) B:=by
  intro H M l hok I j;have na:∀t∈ts,t.1≠a:=λt Y z=>by
   have z2:=J t Y;rw[z,ha]at z2
   cases z2
  have G:=Oq ts H;have C:Fo ts H a=H a:=by
   rcases G a with z|⟨t,Y,z,_⟩
   ·exact z.1
   ·exact absurd z (na t Y)
  have R:∀b x,H b≠some (.own x):=λb x z=>by rcases M b with y|⟨_,_,y⟩<;>(rw[y]at z;cases z)
  have S:∀b x,H b≠some (.tup x):=λb x z=>by rcases M b with y|⟨_,_,y⟩<;>(rw[y]at z;cases z)
  refine core (Fo ts H) (λb=>?_) (λt Y=>?_) ?_ (λb u z=>?_) (λb z=>?_) (λz=>j (by rwa[<-C]))
  ·rcases G b with z|⟨t,Y,z1,z2⟩
   ·rcases M b with y|y
    ·exact .inl (z.1.trans y)
    ·obtain⟨o,xs,y⟩:=y;exact .inr (.inl ⟨o,xs,z.1.trans y⟩)
   ·exact .inr (.inr ⟨t,Y,z1,z2⟩)
  ·rcases G t.1 with z|⟨t',A,z1,z2⟩
   ·exact absurd rfl (z.2 t Y)
   ·have:=htu t' A t Y z1;subst this;exact z2
  ·rcases l with(z|⟨o,z⟩)|z
   ·exact .inl (.inl (by rwa[C]))
   ·exact .inl (.inr ⟨o,by rwa[C]⟩)
   ·exact .inr z
  ·rcases G b with y|⟨t,Y,z1,z2⟩
   ·rw[y.1]at z;exact(hok b u z).stay (λ_ _ _ q=>q) (λc q=>absurd q (R c b)) λc xs q=>absurd q (S c xs)
   ·rw[z2]at z
    cases z;subst z1;exact⟨#[],J t Y,.inl rfl⟩
  ·rcases G b with y|⟨t,Y,z1,z2⟩
   ·exact .inl (I b (by rw[<-y.1];exact z))
   ·exact .inr ⟨t,Y,z1⟩
 cases p:K.lookup a with
 |some o=>
  have e:=KX a o p;rw[ha]at e
  cases e;refine W (λ_=>none) (λ_=>.inl rfl) (.inr ⟨_,vs.toArray,_,p,rfl,rfl,rfl,by rw[aM,N];exact hl,by simpa using f⟩) (λb u z=>by have Q:(none:Option HO)=some u:=z;cases Q) (λb z=>absurd rfl z) λz=>absurd rfl z
 |none=>
  refine W (λb=>if b=a then some (.frz {cls:=.type "list", data:=.seq vs.toArray} (.lst (ns.map V.int)))else none) (λb=>?_) (.inl (.inr ⟨{cls:=.type "list", data:=.seq vs.toArray},if_pos rfl⟩)) (λb u z=>?_) (λb z=>?_) λ_=>p
  ·by_cases D:b=a
   ·exact .inr ⟨_,_,if_pos D⟩
   ·exact .inl (if_neg D)
  ·by_cases D:b=a
   ·have Q:=(if_pos D).symm.trans z
    cases Q;subst D;exact⟨ha,by rw[aq];exact hl,vs,_,f,ha⟩
   ·have Q:=(if_neg D).symm.trans z
    cases Q
  ·by_cases D:b=a
   ·exact D
   ·exact absurd (if_neg D) z
end L2
namespace L2
abbrev KOf(_:K.In h):PySem.W.Frag:=K
theorem Ub{l:PySem.W.OpenLaw}{k:Nat}{q:e9}{loose:List Str}{d:DefRec}{K:Params->PySem.W.Frag}{CX:fy->CXT}{sp:fy->Sp}
 (hn:l.most=some n) (O:n<=sizeLine) (hdf:d.params.defaults=[]) (hr:Room k callerA)
 (hY:∀(w:fy)(h:f8),YP w h->(K w.params).In h)
 (F:∀(w:fy)(mg:Str->Option Value)(fa:Addr)(h:f8),(K w.params).In h->h.Ns mainGlobals mg->mg d.name=some (.ref fa) ->
  ∃fd:gk,(∀(s:eS)(u:Value),BindsTo s fd ⟨[u],[]⟩ [(x,u)]) /\
   ∀base:f8,(K w.params).In base->base.Ns mainGlobals mg->FnOk l.prog w (K w.params) mg base (CX w) k fa fd [x] (sp w))
 (ts:List (Addr×Str×Pos)) (B:∀(w:fy)(h:f8),YP w h->(∀t∈ts,h.get? t.1=some {cls:=.none,data:=.fields #[]})/\(∀t∈ts,isCodeTable h t.1)/\∀t∈ts,(K w.params).lookup t.1=none) (D:∀t∈ts,∀t'∈ts,t.1=t'.1->t=t')
 (J:∀(w:fy)(H:Hp)(a:Addr)(ns:List Int),ns.length<=n->(∀t∈ts,H t.1=some (.tbl t.2.1 t.2.2))->SqL (K w.params) H a (ns.map V.int)->sp w [.ref a] H (λv _=>v = .bl true) λ_ _ _=>False)
 (hCX:∀(w:fy)(H:Hp)(s:eS)(e:Value)(s':eS),CX w [] H s (λ_ _ _=>False) e s'->False) :
 PySem.W.WalkO q loose XP YP l.row.toRowW d [] (λf vs=>PySem.call f vs):=by
 refine Att.Fj hn hdf λw s₀ Z mg I fa o pm cd doc a vs ns G Y E hd Q U X hints hlen R=>?_
 have S:=hY w _ Y;obtain⟨fd,P,L⟩:=F w mg fa _ S G.T.g U;exact Ot S G.T.g G.T.b G.T.builtins G.T.nolimit G.T.bmain R X hints (aW hlen O) hr L P ts (B w _ Y).1 (B w _ Y).2.1 (B w _ Y).2.2 D (λH M N=>J w H a ns hlen M N) λH e s'=>hCX w H Z e s'
theorem Ou{l:PySem.W.OpenLaw}{k:Nat}{q:e9}{loose:List Str}{d:DefRec}{K:Params->PySem.W.Frag}{sp:PySem.W.Frag->Sp}
 (hn:l.most=some n) (O:n<=sizeLine) (Y:d.params.defaults=[]) (hr:Room k callerA)
 (hY:∀(w:fy)(h:f8),YP w h->(K w.params).In h)
 (F:∀(w:fy)(mg:Str->Option Value)(fa:Addr)(h:f8),(K w.params).In h->h.Ns mainGlobals mg->mg d.name=some (.ref fa) ->
  ∃fd:gk,(∀(s:eS)(u:Value),BindsTo s fd ⟨[u],[]⟩ [(x,u)]) /\
   ∀base:f8,(K w.params).In base->base.Ns mainGlobals mg->FnOk l.prog w (K w.params) mg base CX k fa fd [x] (sp (K w.params)))
 (ts:List (Addr×Str×Pos)) (D:∀(w:fy)(h:f8),YP w h->(∀t∈ts,h.get? t.1=some {cls:=.none,data:=.fields #[]})/\(∀t∈ts,isCodeTable h t.1)/\∀t∈ts,(K w.params).lookup t.1=none) (B:∀t∈ts,∀t'∈ts,t.1=t'.1->t=t')
 (J:∀(K:PySem.W.Frag)(H:Hp)(a:Addr)(ns:List Int),ns.length<=n->(∀t∈ts,H t.1=some (.tbl t.2.1 t.2.2))->SqL K H a (ns.map V.int)->sp K [.ref a] H (λv _=>v = .bl true) λ_ _ _=>False)
 (Z:∀(H:Hp)(s:eS)(e:Value)(s':eS),CX [] H s (λ_ _ _=>False) e s'->False) :
 PySem.W.WalkO q loose XP YP l.row.toRowW d [] (λf vs=>PySem.call f vs):=
 Ub (K:=K) (CX:=λ_=>CX) (sp:=λw=>sp (K w.params)) hn O Y hr hY F ts D B (λw H a ns h1 h2 X=>J (K w.params) H a ns h1 h2 X) λ_ H s e s'=>Z H s e s'
end L2
/- THE LAST THEOREM (shape;LID,My.* are yours):
   My.Adr: a structure of the addresses that your layer names (classes,functions);My.Txt K t: a structure (Prop) of the equations over K;
   My.txt_mk:{K} {implicit addresses ..} (e1:nsIn K mainGlobals "law"=some (some (.ref f))) (e2:K.lookup f=some ⟨oc,od,.func (fnOf "law" "law" params body scope dV kV doc pm an cdv ct),sl⟩) (e3:codeIn K cdv "law"=true) .. : ∃t,My.Txt K t
set_option maxRecDepth 100000 in
set_option maxHeartbeats 0 in
(the tactic k_is has no namespace: write k_is) -/
variable{H1:L2.Hp}
namespace L2
noncomputable def o9(s:hI):iq:=match s with
 | .FunctionDef _ a _ _ _ _ _ _ _ _=>a
 |_=>{posonlyargs:=[],args:=[],vararg:=none,kwonlyargs:=[],kw_defaults:=[],kwarg:=none,defaults:=[]}
def jy(s:hI):List hI:=match s with
 | .FunctionDef _ _ b _ _ _ _ _ _ _=>b
 |_=>[]
noncomputable def bH(s:hI):hV:=match s with
 | .FunctionDef _ _ _ _ _ _ sc _ _ _=>sc
 |_=>{kind:=.function,names:=[],isGenerator:=false,isCoroutine:=false}
abbrev CX0:CXT:=λ_ _ _ _ _ _=>False
abbrev E0:XK:=λ_ _ _=>False
theorem aa4:Passes CX0 X E0:=λ_ _ _ _ _ _ _ h=>h.elim
structure Fun(K:PySem.W.Frag)(x qual:Str)(st:hI)(f:Addr)(fd:gk):Prop where
 ex:∃(oc:Value)(od:Option Addr)(kV doc pm:Value)(an:Option Addr)(cdv ct:Value)(osl:Array (Option Value)),
  fd=PySem.W.fnOf x qual (o9 st) (jy st) (bH st) .none kV doc pm an cdv ct/\K.lookup f=some ⟨oc,od,.func fd,osl⟩/\PySem.W.codeIn K cdv qual=true
 kp:PySem.W.keepIn K (.ref f)=true
section
variable{P:e9}{w:fy}{K:PySem.W.Frag}{mg:Str->Option Value}{base:f8}
end
section
variable{X:Cx}
end
theorem Aw{A B:Prop}(h:B):if false=true then A else B:=by
 rwa[if_neg aX]
theorem Ax{A B:Prop}(h:A):if true=true then A else B:=by
 rwa[if_pos rfl]
def Same(H H':Hp):Prop:=∀b o,H b=some o->H' b=some o
theorem Same.refl(H:Hp):Same H H:=λ_ _ h=>h
theorem Same.trans{H2:Hp}(a:Same H H1)(b:Same H1 H2):Same H H2:=λc o h=>b c o (a c o h)
theorem Same.free(e:Same H H'){l:Addr}(h:H' l=Option.none):H l=Option.none:=by
 cases q:H l with
 |none=>rfl
 |some o=>
  rw[e l o q]at h
  cases h
theorem Same.seq{xs:List V}(e:Same H H')(h:SqL K H a xs):SqL K H' a xs:=by
 rcases h with(h|⟨o,h⟩)|h
 ·exact .inl (.inl (e _ _ h))
 ·exact .inl (.inr ⟨o,e _ _ h⟩)
 ·exact .inr h
end L2
namespace My
open L2
abbrev St:=L2.St
theorem cM{p:Addr}(h:H p=none)(o:HO):Same H (upd H p o):=λb u q=>by rwa[bF (jw q h)]
theorem Fp{xs:List V}(e:Same H H')(h:SqT K H a xs):SqT K H' a xs:=by
 rcases h with(h|⟨o,h⟩)|h
 ·exact .inl (.inl (e _ _ h))
 ·exact .inl (.inr ⟨o,e _ _ h⟩)
 ·exact .inr h
structure Df(K:PySem.W.Frag)(mg:Str->Option Value)(x:Str)(st:hI)(ps:List Str):Prop where
 ex:∃(f:Addr)(fd:gk),Fun K x x st f fd/\Binds K fd ps []/\mg x=some (.ref f)
structure Has(P:e9)(w:fy)(K:PySem.W.Frag)(mg:Str->Option Value)(base:f8)(n:Nat)(x:Str)(ps:List Str)(sp:Sp):Prop where
 ex:∃(f:Addr)(fd:gk),FnOk P w K mg base CX0 n f fd ps sp/\Binds K fd ps []/\PySem.W.keepIn K (.ref f)=true/\mg x=some (.ref f)
section
variable{P:e9}{w:fy}{K:PySem.W.Frag}{mg:Str->Option Value}{base:f8}{x:Str}{ps N:List Str}{sp:Sp}{st:hI}{k n:Nat}
theorem Has.mono(h:Has P w K mg base k x ps sp)(l:k<=n):Has P w K mg base n x ps sp:=by
 obtain⟨f,fd,F,b,kp,m⟩:=h.ex;exact⟨f,fd,F.mono l,b,kp,m⟩
end
section
variable{X:Cx}{x:Str}{ps:List Str}{sp:Sp}{n:Nat}{p pos:Pos}{e:Expr}{es:List Expr}{t:TA}
theorem Fq(h:Has X.prog X.w X.K X.mg X.base n x ps sp)(J:Room n X.A)(ha:PA X (e::es) t)(O:Gl X x:=by rfl)(D:(x==("__debug__":Str))=false:=by decide)
 (W:starEach (e::es) X.env=(false,eval e X.env)::starEach es X.env:=by rfl) (B:(backTo pos (starEach es X.env)).any (·.1)=false:=by rfl) :
 PE X (.Call (.Name x p) (e::es) [] pos) (Ws sp [] E0 t):=by
 obtain⟨f,fd,F,b,kp,m⟩:=h.ex;exact T5 F J O m kp b .nil aa4 ha D W B
end
mutual
inductive RdV(K:PySem.W.Frag)(H:Hp):V->PyData->Prop
 |non:RdV K H .non .none
 |bl (b:Bool):RdV K H (.bl b) (.bool b)
 |int (i:Int):RdV K H (.int i) (.int i)
 |str (x:Str):RdV K H (.str x) (.str x)
 |lst {a:Addr} {xs:List V} {ds:List PyData}:SqL K H a xs->RdVs K H xs ds->RdV K H (.ref a) (.list ds)
 |tup {a:Addr} {xs:List V} {ds:List PyData}:SqT K H a xs->RdVs K H xs ds->RdV K H (.ref a) (.tuple ds)
inductive RdVs(K:PySem.W.Frag)(H:Hp):List V->List PyData->Prop
 |nil:RdVs K H [] []
 |cons {v:V} {d:PyData} {vs:List V} {ds:List PyData}:RdV K H v d->RdVs K H vs ds->RdVs K H (v::vs) (d::ds)
end
section
variable{X:Cx}{pins:List (Addr×Obj)}{σ:St}{H:Hp}{s:eS}
mutual
theorem RdV.reads(I:Inv X pins σ H s):∀{v:V}{d:PyData},RdV X.K H v d->∀{u:Value},RelV v u->∃as,Reads s.heap u d as
 |_,_,.non,_,r=>by cases r;exact⟨_,.none⟩
 |_,_,.bl b,_,r=>by cases r;exact⟨_,.bool b⟩
 |_,_,.int i,_,r=>by obtain⟨t,rfl⟩:=r;exact⟨_,.int i t⟩
 |_,_,.str x,_,r=>by obtain⟨t,rfl⟩:=r;exact⟨_,.str x t⟩
 |_,_,.lst h q,_,r=>by
  cases r;obtain⟨its,rv,⟨o,n,e,c,_,d⟩,_⟩:=I.list h;obtain⟨as,z⟩:=RdVs.reads I q rv;exact⟨_,.list e c d (by simpa using z)⟩
 |_,_,.tup h q,_,r=>by
  cases r;obtain⟨its,rv,⟨o,e,c,n,d⟩,_⟩:=I.tuple h;obtain⟨as,z⟩:=RdVs.reads I q rv;exact⟨_,.tuple e c d (by simpa using z)⟩
theorem RdVs.reads(I:Inv X pins σ H s):∀{vs:List V}{ds:List PyData},RdVs X.K H vs ds->∀{us:List Value},Vals vs us->∃as,ReadsAll s.heap us ds as
 |_,_,.nil,_,r=>by cases r;exact⟨_,.nil⟩
 |_,_,.cons h q,_,r=>by
  cases r with
  |cons r1 r2=>
   obtain⟨as,z⟩:=RdV.reads I h r1;obtain⟨bs,y⟩:=RdVs.reads I q r2;exact⟨_,.cons z y⟩
end
end
section
variable{X:Cx}
noncomputable def aa5(K:PySem.W.Frag):R2:=λx y H Q=>∃Y Z,RdV K H x Y/\RdV K H y Z/\fN Y=true/\fN Z=true/\Q (.bl (gi Y Z)) H
noncomputable def aa6(K:PySem.W.Frag):R2:=λx y H Q=>∃Y Z,RdV K H x Y/\RdV K H y Z/\fN Y=true/\fN Z=true/\Q (.bl (!PyData.eqv Y Z)) H
theorem oN(hu:X.A.units+64<cLine):OpR X (compareOp .Eq) (aa5 X.K):=by
 intro pins s σ H x y v u Q I U V h;obtain⟨R,S,ha,T,sa,W,q⟩:=h;obtain⟨as,Y⟩:=ha.reads I U;obtain⟨bs,Z⟩:=T.reads I V;exact SeqAt.compareEq_shaped Y Z sa W hu ⟨.bl _,H,I,rfl,q⟩
theorem uK(hu:X.A.units+64<cLine):OpR X (compareOp .NotEq) (aa6 X.K):=by
 intro pins s σ H x y v u Q I U V h;obtain⟨R,S,ha,T,sa,W,q⟩:=h;obtain⟨as,Y⟩:=ha.reads I U;obtain⟨bs,Z⟩:=T.reads I V;exact SeqAt.compareNe_shaped Y Z sa W hu ⟨.bl _,H,I,rfl,q⟩
end
def isT(c T:String):Bool:=T==c||(T=="bool"&&c=="int")
section
variable{K:PySem.W.Frag}
theorem X3(h:c="int"\/c="bool"\/c="tuple"\/c="list"\/c="str")(g:T="NoneType"\/T="bool"\/T="int"\/T="str"\/T="list"\/T="tuple"\/T="dict"):
 PySem.W.kitOne K (.type T) (.type c)=some (isT c T):=by
 rcases h with rfl|rfl|rfl|rfl|rfl<;>rcases g with rfl|rfl|rfl|rfl|rfl|rfl|rfl<;>kernel_rfl
end
section
variable{X:Cx}
end
theorem big{σ:St}(I:Inv X pins σ H s):sysModules<s.heap.objs.size:=by
 have h:=(I.mod.glob.keeps I.bk).lt;exact lN (by decide) h
theorem Ov(h:f8)(B:sysModules<h.objs.size):gA P w H (h.push {cls:=.type "dict", data:=.dict #[]}) h.objs.size (.dK []):=
 ⟨cH _,beq_eq_false_iff_ne.mpr (fA (aP B)),[],.nil,Heap.DictOf.new h⟩
def X4:TE:=λ_ H Q=>∀p,H p=none->Q (.ref p) (upd H p (.dK []))
theorem Ox:PE X (.Dict [] [] pos) X4:=λpins s σ H Q I h=>
 wpAny_Dict_empty ⟨.ref s.heap.objs.size,_,I.laid (a:=s.heap.objs.size) (o:=.dK []) (t':=s.toks) (λ_ _ q=>ad _ q) (aB _) (Ov s.heap (big I)),rfl,h _ (I.hok.fresh (aB _))⟩
end My
namespace My
open L2
section
variable{X:Cx}{a b c d:Expr}{ta tb tc td:TE}{pos:Pos}
noncomputable def Uc(r r' B:R2)(ta tb tc td:TE):TE:=λσ H Q=>ta σ H λx H1=>tb σ H1 λy H2=>r x y H2 λz W=>∃k,z = .bl k /\
 (if k=true then tc σ W λZ S=>r' y Z S λV X=>∃Y,V = .bl Y/\(if Y=true then td σ X λU T=>B Z U T Q else Q (.bl false) X)else Q (.bl false) W)
theorem Mi{B:CmpOp}{D:R2}(ho:OpR X (compareOp op) r)(O:OpR X (compareOp op') r')(J:OpR X (compareOp B) D)(ha:PE X a ta)(hb:PE X b tb)(hc:PE X c tc)(hd:PE X d td)
 (hm:lastMarks [op,op',B] [b,c,d]=false:=by with_unfolding_all rfl):PE X (.Compare a [op,op',B] [b,c,d] pos) (Uc r r' D ta tb tc td):=by
 intro pins s σ H Q I h;refine Compare_chain (thn (ha pins s σ H _ I h) λv s1 ⟨x,H1,n,A,q1⟩=>chain_link (thn (hb pins s1 σ H1 _ n q1) λu s2 ⟨y,H2,o,V,q2⟩=>
  thn (ho pins s2 σ H2 x y v u _ o A V q2) λd s3 ⟨z,N,R,C,k,e,T⟩=>?_)) hm
 subst e
 cases C;refine aw ?_
 cases k with
 |false=>exact ite_ff ⟨.bl false,N,R,rfl,T⟩
 |true=>
  refine ite_tt (chain_link (thn (hc pins s3 σ N _ R T) λY F ⟨Z,l,p,W,t⟩=>thn (O pins F σ l y Z u Y _ p V W t) λj G ⟨z2,P,S,E,k2,e2,U⟩=>?_));subst e2
  cases E;refine aw ?_
  cases k2 with
  |false=>exact ite_ff ⟨.bl false,P,S,rfl,U⟩
  |true=>exact ite_tt (chain_last (thn (hd pins G σ P _ S U) λL K ⟨M,m,q,r6,w⟩=>J pins K σ m Z M Y L Q q W r6 w))
end
structure Blt(mg:Str->Option Value):Prop where
 len_:mg "len"=none
 range_:mg "range"=none
 abs_:mg "abs"=none
 isinstance_:mg "isinstance"=none
 int_:mg "int"=none
 bool_:mg "bool"=none
 tuple_:mg "tuple"=none
 max_:mg "max"=none
 min_:mg "min"=none
end My
namespace My
open L2
abbrev cx(P:e9)(w:fy)(K:PySem.W.Frag)(mg:Str->Option Value)(base:f8)(N:List Str)(x:Str)(st:hI)(f:Addr)(cdv:Value)(A:fm)(outer:List Env)(s:eS)(H:Hp)(E:XK):Cx:=
 (Fb CX0 P w K mg base N x (bH st) f cdv A outer s H E).nox
end My
variable{env:Env}
namespace My
open L2
noncomputable def qW(env:Env):List (Str×NameKind)->List (Str×Addr)->List (Str×Addr)
 |[],Z=>Z
 | (n,k)::r,Z=>if(k==fR)=true then qW env r ((n,(env.cells.lookup n).getD 0)::Z)else qW env r Z
theorem uL:∀(l:List (Str×NameKind))(B:List (Str×Addr)),(∀x∈l,x.2 = .free->∃c,env.cells.lookup x.1=some c) ->
 (forIn l B λ(x:Str×NameKind)(r:List (Str×Addr))=>(if(x.2==fR)=true then(do let c <-cellOf env x.1;pure (gf ((x.1,c)::r)))else pure (gf r):Sem (ForInStep (List (Str×Addr)))))=pure (qW env l B)
 |[],_,_=>rfl
 | (n,k)::r,B,h=>by
  rw[rK];by_cases Z:(k==fR)=true
  ·obtain⟨c,W⟩:=h (n,k) ak (beq_iff_eq.mp Z);have X:cellOf env n=pure c:=by
    unfold cellOf;rw[show env.cells.lookup n=some c from W]
   rw[if_pos Z,X];have V:=uL r ((n,c)::B) λx Y=>h x (au _ Y)
   rwa[qW,if_pos Z,show env.cells.lookup n=some c from W]
  ·rw[if_neg Z];have V:=uL r B λx Y=>h x (au _ Y)
   rwa[qW,if_neg Z]
theorem Im{scope:hV}(h:∀x∈scope.names,x.2 = .free->∃c,env.cells.lookup x.1=some c):closureFor scope env=pure (qW env scope.names []):=by
 have z:=uL (env:=env) scope.names [] h;show(forIn scope.names [] λ(x:Str×NameKind)(r:List (Str×Addr))=>(if(x.2==fR)=true then(do let c <-cellOf env x.1;pure (gf ((x.1,c)::r)))else pure (gf r):Sem (ForInStep (List (Str×Addr))))) >>= (λZ=>pure Z)=_;rw[z];rfl
theorem yP:∀(l:List (Str×NameKind))(B:List (Str×Addr)),(∀x∈l,x.2 = .free->∃c,env.cells.lookup x.1=some c)->(∀x c,B.lookup x=some c->env.cells.lookup x=some c) ->
 ∀x c,(qW env l B).lookup x=some c->env.cells.lookup x=some c
 |[],_,_,Y,x,c,e=>Y x c e
 | (n,k)::r,B,h,Y,x,c,e=>by
  rw[qW]at e;by_cases V:(k==fR)=true
  ·rw[if_pos V]at e;obtain⟨d,hd⟩:=h (n,k) ak (beq_iff_eq.mp V);refine yP r _ (λx W=>h x (au _ W)) (λy c' Z=>?_) x c e;rw[dI]at Z
   cases X:y==n with
   |true=>
    rw[X]at Z;have:y=n:=beq_iff_eq.mp X;subst this;rw[show env.cells.lookup y=some d from hd]at Z ⊢;exact Z
   |false=>
    rw[X]at Z;exact Y y c' Z
  ·rw[if_neg V]at e;exact yP r B (λx W=>h x (au _ W)) Y x c e
theorem sy:∀(l:List (Str×NameKind))(B:List (Str×Addr))(x:Str),((x,fR)∈l\/∃c,B.lookup x=some c)->∃c,(qW env l B).lookup x=some c
 |[],_,x,h=>by
  rcases h with h|h
  ·exact absurd h (by simp)
  ·exact h
 | (n,k)::r,B,x,h=>by
  rw[qW];by_cases Z:(k==fR)=true
  ·rw[if_pos Z];refine sy r _ x ?_;by_cases e:x=n
   ·subst e;exact .inr ⟨_,by rw[dI,beq_self_eq_true]⟩
   ·rcases h with h|⟨c,h⟩
    ·rcases aK.mp h with h|h
     ·exact absurd (congrArg Prod.fst h) e
     ·exact .inl h
    ·exact .inr ⟨c,by rwa[dI,beq_eq_false_iff_ne.mpr e]⟩
  ·rw[if_neg Z];refine sy r B x ?_;rcases h with h|h
   ·rcases aK.mp h with h|h
    ·have:k = .free:=(congrArg Prod.snd h).symm;subst this;exact absurd rfl Z
    ·exact .inl h
   ·exact .inr h
noncomputable abbrev blk(X:Cx)(B:List Str)(scope:hV)(cl:List (Str×Addr))(C:Addr)(s3:eS)(D:Hp)(fp:List Addr):Cx:=
 {X with N:=B,s₀:=s3,H₀:=D,env:=compEnvC scope cl C X.env,outer:=X.stack,ex:=fp,fn:=λ_=>false,xe:=λ_ _=>False}
noncomputable def xY(N:List Str)(kinds B:List (Str×NameKind)):List Str->List Nat->Bool
 |[],[]=>true
 |x::V,j::ix=>(N[j]? == some x)&&((kinds.lookup x==some gT)&&((B.lookup x==some fR)&&xY N kinds B V ix))
 |_,_=>false
def uM(t:Nat)(ix:List Nat)(σ:St):St:=aO t none++ix.map λj=>(σ[j]?).getD none
theorem yQ{kinds B:List (Str×NameKind)}:∀{V:List Str}{ix:List Nat},xY N kinds B V ix=true->ix.length=V.length/\∀(k:Nat)(x:Str),V[k]? = some x->∃j,ix[k]? = some j/\N[j]? = some x/\kinds.lookup x=some .cell/\B.lookup x=some .free
 |[],[],_=>⟨rfl,λk x h=>by simp at h⟩
 |x::V,j::ix,h=>by
  rw[xY,aV,aV,aV]at h;obtain⟨h1,h2,X,Y⟩:=h;obtain⟨l,r⟩:=yQ Y;refine⟨by simp[l],λk y Z=>?_⟩
  cases k with
  |zero=>
   simp at Z;subst Z;exact⟨j,rfl,beq_iff_eq.mp h1,beq_iff_eq.mp h2,beq_iff_eq.mp X⟩
  |succ k=>exact r k y (by simpa using Z)
 |[],_::_,h=>by simp[xY]at h
 |_::_,[],h=>by simp[xY]at h
theorem vm{env:Env}(B:env.scope.kind = .function):∀{names:List (Str×NameKind)}{x:Str},names.lookup x=some .free->env.kindOf x=some .cell ->
 (names.map λ(n,k)=>if(k==fR&&env.scope.kind == .function&&env.kindOf n==some .cell)then(n,gT)else(n,k)).lookup x=some .cell
 |[],_,h,_=>by simp at h
 | (n,k)::r,x,h,Y=>by
  have X:=@vm env B r x;show xq x ((if(k==fR&&env.scope.kind == .function&&env.kindOf n==some .cell)=true then(n,gT)else(n,k))::_)=_
  cases Z:x==n with
  |true=>
   have e:=beq_iff_eq.mp Z;subst e;simp only[dI,Z]at h
   cases h;rw[if_pos (by rw[B,Y];rfl)];simp[dI]
  |false=>
   simp only[dI,Z]at h;by_cases W:(k==fR&&env.scope.kind == .function&&env.kindOf n==some .cell)=true
   ·rw[if_pos W];simp only[dI,Z];exact X h Y
   ·rw[if_neg W];simp only[dI,Z];exact X h Y
theorem qY{env:Env}:∀{names:List (Str×NameKind)}{x:Str}{k:NameKind},(∀y∈names,y.2 ≠ .cell)->(k = .cell\/k = .free) ->
 (names.map λ(n,k)=>if(k==fR&&env.scope.kind == .function&&env.kindOf n==some .cell)then(n,gT)else(n,k)).lookup x=some k->(x,fR)∈names
 |[],_,_,_,_,h=>by simp at h
 | (n,X)::r,x,k,U,Y,h=>by
  have V:=@qY env r x k (λy S=>U y (au _ S)) Y;have h':xq x ((if(X==fR&&env.scope.kind == .function&&env.kindOf n==some .cell)=true then(n,gT)else(n,X))::(r.map λ(n,k)=>if(k==fR&&env.scope.kind == .function&&env.kindOf n==some .cell)then(n,gT)else(n,k)))=some k:=h;by_cases W:(X==fR&&env.scope.kind == .function&&env.kindOf n==some .cell)=true
  ·rw[if_pos W]at h';have T:X = .free:=by
    rw[aV,aV]at W;exact beq_iff_eq.mp W.1.1
   cases Z:x==n with
   |true=>
    have e:=beq_iff_eq.mp Z;subst e;subst T;exact ak
   |false=>
    simp only[dI,Z]at h';exact au _ (V h')
  ·rw[if_neg W]at h'
   cases Z:x==n with
   |true=>
    have e:=beq_iff_eq.mp Z;subst e;simp only[dI,Z]at h'
    cases h';rcases Y with Y|Y
    ·exact absurd Y (U _ ak)
    ·subst Y;exact ak
   |false=>
    simp only[dI,Z]at h';exact au _ (V h')
section
variable{X:Cx}{pins:List (Addr×Obj)}{σ:St}{H:Hp}{s:eS}
theorem Inv.forget{σ':St}(I:Inv X pins σ H s)(B:σ'.length=X.N.length)(h:∀(i:Nat) (v:V),σ'[i]? = some (some v)->σ[i]? = some (some v)):Inv X pins σ' H s:=by
 obtain⟨m,hn,Z⟩:=I.loc;exact⟨I.ok,I.os,I.bare,I.base,⟨m,hn,λi x v W e2 Y=>Z i x v W (h i v e2) Y⟩,I.cell,I.free,I.freeC,I.pin,I.hok,B⟩
end
end My
variable{prog:e9}{ix:List Nat}{spos:Pos}
namespace My
open L2
theorem Ft{R:Result->eS->Prop}{elt target:Expr}{ifs:List Expr}{scope:hV}{it acc:Value}(I:Nat->eS->Prop)
 (turn:∀n s,I n s->wpAny (model prog w) A (pyNext it) (λr J=>match r with
  |none=>R (.ok .next) J
  |some v=>wpAny (model prog w) A (letOwnedTupleGo target it v) (λ_ D=>wpAny (model prog w) A (assign target env v) (λ_ Y=>
   wpAny (model prog w) A (forIn ifs true λc r=>if r=true then do let ok <-isTrue c env (eval c env);pure (gf ok)else pure (gf r)) (λok B=>
    if ok=true then wpAny (model prog w) A (eval elt env) (λx W=>
     wpAny (model prog w) A (call (.builtin "list.append") [acc,x]) (λ_ O=>∃m,m<n/\I m O) (λ_ _=>False) W) (λ_ _=>False) B
    else ∃m,m<n/\I m B) (λ_ _=>False) Y) (λ_ _=>False) D) (λ_ _=>False) J) (λ_ _=>False) s)
 (n:Nat) (h:I n s) :
 codeAny (model prog w) A (.compLoop (.ListComp elt [⟨target,iter,ifs,0⟩] scope pos) 0 it acc env) R s:=by
 refine codeAny_loop rfl I (λn s Q=>?_) n h;refine wpAny_noted ?_;rw[compTurn_list];refine aa (df (aa (a5 (turn n s Q) (λr J X=>?_) λ_ _ h'=>h'.elim)))
 cases r with
 |none=>exact ae X
 |some v=>
  refine aa (a5 X (λ_ D V=>?_) λ_ _ h'=>h'.elim);refine aa (a5 V (λ_ Y S=>aa (a5 S (λok B Z=>?_) λ_ _ h'=>h'.elim)) λ_ _ h'=>h'.elim)
  cases ok with
  |false=>exact ae ⟨rfl,Z⟩
  |true=>
   exact aa (aa (a5 Z (λx W T=>aa (a5 T (λ_ O U=>ae (ae ⟨rfl,U⟩)) λ_ _ h'=>h'.elim)) λ_ _ h'=>h'.elim))
section
variable{X:Cx}{pins:List (Addr×Obj)}{σ:St}{H:Hp}
theorem Mj{T V:List Str}{scope:hV}{s3:eS}{B:f8}{tk:Nat}
 (I:Inv X pins σ H s3) (J:∀b∈fp,wu X pins H b) (ho:∀b∈fp,∃o,s3.heap.get? b=some o)
 (hk:scope.kind = .function) (D:∀y∈scope.names,y.2 ≠ .cell) (hfr:∀x∈scope.names,x.2 = .free->x.1∈V) (hB:xY X.N X.env.scope.names scope.names V ix=true)
 (hns:B.Ns s3.heap.objs.size m) (keep:∀b o,s3.heap.get? b=some o->B.get? b=some o) :
 Inv (blk X (T++V) scope (qW X.env scope.names []) s3.heap.objs.size s3 H fp) pins (uM T.length ix σ) H {s3 with heap:=B,toks:=tk}:=by
 obtain⟨C,R⟩:=yQ hB;have L:∀x∈scope.names,x.2 = .free->∃c,X.env.cells.lookup x.1=some c:=λx U e=>by
  obtain⟨k,g⟩:=fu (hfr x U e);obtain⟨j,_,_,P,_⟩:=R k _ g;exact I.ok.has _ (.inl P)
 have sub:=yP (env:=X.env) scope.names [] L (λx c e=>by simp at e);have stkSub:=λb z=>aK.mp (I.stkSub b z)
 have lt:∀b o,s3.heap.get? b=some o->b≠s3.heap.objs.size:=λb o e=>aP (af e)
 have cellK:∀c v,s3.heap.IsCell c v->B.IsCell c v:=λc v ⟨o,e,d⟩=>⟨o,keep c o e,d⟩
 refine⟨⟨I.ok.mod,hk,I.ok.glob,I.ok.blt,aB _,λx y c G e2=>I.ok.inj x y c (sub x c G) (sub y c e2),λx U=>?_,λx c U=>?_,I.ok.hd,I.ok.frames,.inl rfl,λb Q=>⟨?_,λx c e=>?_⟩,I.bs,aW I.ok.bsz I.sz,λb o e Q=>?_,λb Q z=>?_,I.stack,I.stkFree⟩,
  rfl,I.bare,Un.kept keep,⟨m,hns,λi x v G e2 e3=>?_⟩,λx c e=>?_,I.hok.fresh (aB _),λx c e=>I.freeC x c (sub x c e),λp A=>?_,I.hok.kept keep,?_⟩
 ·rcases U with U|U
  ·exact sy _ _ x (.inl (qY D (.inl rfl) U))
  ·exact sy _ _ x (.inl (qY D (.inr rfl) U))
 ·exact absurd U (by simp)
 ·obtain⟨o,e⟩:=ho b Q;exact lt b o e
 ·exact(J b Q).2.2.2.2.1 x c (sub x c e)
 ·rcases(J b Q).2.2.2.1 with z|z
  ·exact I.ok.noex b o e z
  ·exact absurd (bQ (af e) (aW I.ok.bsz z)) (eF _)
 ·rcases stkSub b z with z|z
  ·exact(J b Q).2.1 z
  ·exact(J b Q).2.2.1 z
 ·by_cases hi:i<T.length
  ·have W:(aO T.length none++ix.map λj=>(σ[j]?).getD none)[i]? = some (some v):=e2;rw[cj (by rwa[bI]),eZ,if_pos hi]at W;exact absurd W (by simp)
  ·have M:(T++V)[i]? = some x:=G;rw[bR (by omega)]at M;obtain⟨j,s,h,P,Y⟩:=R _ x M;have W:(aO T.length none++ix.map λj=>(σ[j]?).getD none)[i]? = some (some v):=e2;rw[bR (by rw[bI];omega),bI,aU,s]at W;have Z:(σ[j]?).getD none=some v:=by simpa using W
   have K:σ[j]? = some (some v):=by
    cases q:σ[j]? with
    |none=>rw[q]at Z;exact absurd Z (by simp)
    |some o=>rw[q]at Z;simp at Z;rw[Z]
   obtain⟨a,w,t⟩:=I.loc;obtain⟨u,r,l⟩:=t j x v h K (.inr (.inl P));rcases l with⟨z,_⟩|⟨_,c,f,S⟩
   ·have F:X.env.scope.names.lookup x=some .local:=z;rw[P]at F;exact absurd F (by simp)
   ·obtain⟨c',O⟩:=sy (env:=X.env) scope.names [] x (.inl (PySem.mem_of_lookup Y));have:c'=c:=by
     have q:=sub x c' O;rw[f]at q;exact(cO.inj q).symm
    subst this;exact⟨u,r,.inr ⟨.inl (vm I.ok.kind Y P),c',O,cellK _ _ S⟩⟩
 ·obtain⟨v,z⟩:=I.cell x c (sub x c e);exact⟨v,cellK c v z⟩
 ·obtain⟨e,n,ne,E,d⟩:=I.pin p A;refine⟨keep _ _ e,n,lt _ _ e,λz=>?_,d⟩;rcases stkSub p.1 z with z|z
  ·exact ne z
  ·exact E z
 ·show(aO T.length none++ix.map λj=>(σ[j]?).getD none).length=(T++V).length;rw[bB,bI,aq,bB,C]
theorem Oz{N':List Str}{scope:hV}{cl:List (Str×Addr)}{pins':List (Addr×Obj)}{σ':St}{J:Hp}{s3 s':eS}(O:Inv X pins σ J s3)(D:∀b∈fp,wu X pins J b)
 (B:Inv (blk X N' scope cl s3.heap.objs.size s3 J fp) pins' σ' H' s'):Inv X pins σ H' s'/\wu X pins H' s3.heap.objs.size:=by
 have fr:=B.free;refine⟨?_,O.fpOk (aB _) fr⟩;have os:=B.os;have u:=B.base;have W:=B.hok;have U:=B.bare;obtain⟨V,g,d,t,Y⟩:=s';obtain rfl:Y=s3.os:=os;exact O.call (h':=V) (g':=g) (d':=d) (t':=t) (ch:=fp) u W U λb Z=>⟨(D b Z).2.2.2.1,(D b Z).2.1,(D b Z).2.2.2.2.1,(D b Z).2.2.2.2.2⟩
end
def PTs(X:Cx)(ifs:List Expr)(t:TT):Prop:=
 ∀(pins:List (Addr×Obj))(s:eS)(σ:St)(H:Hp)(Q:Bool->Hp->Prop),Inv X pins σ H s->t σ H Q ->
  wpAny (model X.prog X.w) X.A (forIn ifs true λc r=>if r=true then do let ok <-isTrue c X.env (eval c X.env);pure (gf ok)else pure (gf r)) (TP X pins σ Q) X.xe s
def j9:TT:=λ_ H Q=>Q true H
theorem Ud:PTs X [] j9:=λ_ _ _ H _ I h=>wpAny_tests_nil ⟨H,I,h⟩
theorem JT{c:Expr}{t:TT}(h:PT X c t):PTs X [c] t:=λpins s σ H Q I q=>wpAny_tests_one (h pins s σ H Q I q)
def Fv(wi:TI)(g:TG)(tt:TT)(te:TE)(t:Nat)(B:St->St):TE:=λσ H Q=>wi σ H λJ H1=>∀D,H1 D=none->∃W:Nat->Nat->List V->Hp->Prop,(∃m,W 0 m [] (upd H1 D (.lst []))) /\
 ∀i m xs H2,W i m xs H2->H2 D=some (.lst xs)/\((J.stop i H2/\Q (.ref D) H2)\/(J.go i H2/\xs.length<sizeLine/\∀x T,J.yld i H2 x T->g x (B σ) T λZ S=>Z.drop t=(B σ).drop t /\
  tt Z S λb U=>if b=true then te Z U λv X=>X D=some (.lst xs)/\∃Y,Y<m/\W (i+1) Y (xs++[v]) (upd X D (.lst (xs++[v])))else ∃Y,Y<m/\W (i+1) Y xs U))
section
variable{X:Cx}{elt tg iter:Expr}{ifs:List Expr}{scope:hV}{pos:Pos}{T V:List Str}{ix:List Nat}{wi:TI}{g:TG}{tt:TT}{te:TE}
theorem Bt(hc:X.calm=true)(hi:PI X tg iter wi)
 (hg:∀cl C s3 B fp,PG (blk X (T++V) scope cl C s3 B fp) tg g) (ht:∀cl C s3 B fp,PTs (blk X (T++V) scope cl C s3 B fp) ifs tt) (he:∀cl C s3 B fp,PE (blk X (T++V) scope cl C s3 B fp) elt te)
 (hB:xY X.N X.env.scope.names scope.names V ix=true) (hk:scope.kind = .function) (O:∀y∈scope.names,y.2 ≠ .cell) (hnames:∀x∈scope.names,x.2 = .local->scope.names.lookup x.1=some .local)
 (hfr:∀x∈scope.names,x.2 = .free->x.1∈V) (hs:∀x,foldedSetIterable iter X.env x=pure x) {p:Pos}
 {pins:List (Addr×Obj)} {s:eS} {σ:St} {H:Hp} (I:Inv X pins σ H s) {use:Option (Value->Sem Unit)} {Qp:Value->eS->Prop} {Qv:VK} (h:Fv wi g tt te T.length (uM T.length ix) σ H Qv)
 (fin:∀(D C:Addr)(H':Hp)(s':eS)(m:Str->Option Value),Inv X pins σ H' s'->wu X pins H' C->s'.heap.Ns C m->Qv (.ref D) H'->compPost (model X.prog X.w) X.A X.xe use Qp (.ref D) C (.ok .next) s') :
 wpAny (model X.prog X.w) X.A (comprehension (.ListComp elt [⟨tg,iter,ifs,0⟩] scope pos) scope X.env p (newList []) false (eval iter X.env) use) Qp X.xe s:=by
 obtain⟨lV,capV⟩:=yQ hB;have hcl:∀x∈scope.names,x.2 = .free->∃c,X.env.cells.lookup x.1=some c:=λx hx e=>by
  obtain⟨k,ek⟩:=fu (hfr x hx e);obtain⟨j,_,_,hc',_⟩:=capV k _ ek;exact I.ok.has _ (.inl hc')
 refine wpAny_comprehension_free rfl hs (Im hcl) hk hnames ?_;refine thn (hi pins s σ H _ I h) λv s1 h1=>thn h1 λitv s2 h2=>?_
 obtain⟨it,fp,tn,J,H2,e,I2,U,t,f2,R⟩:=h2;subst e;refine ax (hd:=by size_fits) ?_;have hD:=I2.hok.fresh (aB _);have I3:Inv X pins σ (upd H2 s2.heap.objs.size (.lst [])) {s2 with heap:=s2.heap.push {cls:=.type "list", dict:=none,data:=.seq ([]:List Value).toArray} }:=
  I2.laid (t':=s2.toks) (λb o e=>ad _ e) (aB _) ⟨cH _,[],0,.nil,ag _ rfl⟩
 obtain⟨W,⟨m0,w0⟩,turn⟩:=R s2.heap.objs.size hD;generalize hs3:({s2 with heap:=s2.heap.push {cls:=.type "list", dict:=none,data:=.seq ([]:List Value).toArray} }:eS)=s3 at I3 ⊢;have z:tn 0 s3.heap:=by
  rw[<-hs3];exact U.keep 0 s2.heap _ t λb Z o e=>ad _ e
 have f3:∀b∈fp,wu X pins (upd H2 s2.heap.objs.size (.lst [])) b:=λb Z=>by
  obtain⟨z0,z1⟩:=f2 b Z;refine⟨?_,z1⟩;obtain⟨o,eo,_⟩:=U.obj 0 _ t b Z;rwa[bF (aP (af eo))]
 generalize hH3:upd H2 s2.heap.objs.size (.lst [])=B at I3 f3 w0;generalize hDn:s2.heap.objs.size=D at turn;refine wpAny_newFunctionEnv O (by intro y hy;simp at hy) (λl P Q=>?_) hk;have keep:=λb o e=>Q.extBut b o (aP (af e)) (ad _ e)
 have I4:=Mj (T:=T) (tk:=s3.toks+([]:List (Str×Value)).length) I3 f3 (λb Z=>let⟨o,eo,_⟩:=U.obj 0 _ z b Z;⟨o,eo⟩) hk O hfr hB P keep;have E:=U.keep 0 _ _ z λb Z o e=>keep b o e
 have loop:codeAny (model X.prog X.w) X.A (.compLoop (.ListComp elt [⟨tg,iter,ifs,0⟩] scope pos) 0 (.ref it) (.ref D) (compEnvC scope (qW X.env scope.names []) s3.heap.objs.size X.env))
  (compPost (model X.prog X.w) X.A X.xe use Qp (.ref D) s3.heap.objs.size) {s3 with heap:=l,toks:=s3.toks+([]:List (Str×Value)).length}:=by
  refine Ft (λn s'=>∃i xs H',Inv (blk X (T++V) scope (qW X.env scope.names []) s3.heap.objs.size s3 B fp) pins (uM T.length ix σ) H' s'/\tn i s'.heap/\(∀b∈fp,H' b=none)/\W i n xs H') ?_ m0
   ⟨0,[],B,I4,E,λb Z=>(f3 b Z).1,w0⟩
  rintro n s5 ⟨i,xs,H5,I5,F,a,w5⟩;have Y:∀{H':Hp}{pins':List (Addr×Obj)}{σ':St}{s':eS},Inv (blk X (T++V) scope (qW X.env scope.names []) s3.heap.objs.size s3 B fp) pins σ' H' s'->(∀b∈fp,H' b=none)->∀b∈fp,wu (blk X (T++V) scope (qW X.env scope.names []) s3.heap.objs.size s3 B fp) pins H' b:=λI' hn b Z=>by
   obtain⟨x1,x2⟩:=I'.ok.exf b Z;refine⟨hn b Z,x1,I'.ok.exfs b Z,.inl Z,x2,λq hq=>?_⟩;exact(f3 b Z).2.2.2.2.2 q hq
  obtain⟨hD5,r5⟩:=turn i n xs H5 w5;rcases r5 with⟨stop,q⟩|⟨go,hz,step⟩
  ·refine thn (U.done (blk X (T++V) scope (qW X.env scope.names []) s3.heap.objs.size s3 B fp) rfl rfl rfl hc i pins s5 _ H5 _ I5 (Y (pins':=pins) I5 a) F stop) λr s6 ⟨hr,I6⟩=>?_
   subst hr;obtain⟨Ib,fC⟩:=Oz I3 f3 I6;obtain⟨m,hn,_⟩:=I6.loc;exact fin D _ H5 s6 m Ib fC hn q
  ·refine thn (U.item (blk X (T++V) scope (qW X.env scope.names []) s3.heap.objs.size s3 B fp) rfl rfl rfl hc i pins s5 _ H5 _ I5 (Y (pins':=pins) I5 a) F go) λr s6 ⟨u,hr,h6⟩=>?_
   subst hr;refine thn h6 λ_ s7 ⟨x,H7,I7,rx,y7,M,fr7⟩=>?_
   have I7':=I7.pinned (Y (pins':=pins) I7 fr7) (U.obj _ _ M);refine thn (hg _ _ _ _ _ _ s7 _ H7 x u _ I7' rx (step x H7 y7)) λ_ s8 ⟨S,H8,I8,k8,q8⟩=>?_
   have again:∀{L:Hp}{K:eS},Inv (blk X (T++V) scope (qW X.env scope.names []) s3.heap.objs.size s3 B fp) (pins++yM fp s7.heap) S L K ->
    Inv (blk X (T++V) scope (qW X.env scope.names []) s3.heap.objs.size s3 B fp) pins (uM T.length ix σ) L K/\tn (i+1) K.heap/\∀b∈fp,L b=none:=λ{L K} G=>by
    refine⟨Inv.forget G.unpinned I4.len λj v e=>?_,U.keep _ _ _ M λb Z o e=>(G.pin (b,o) (bx _ (bx _ (qJ Z e)))).1,λb Z=>?_⟩
    ·by_cases hj:j<T.length
     ·have e':(aO T.length none++ix.map λj=>(σ[j]?).getD none)[j]? = some (some v):=e;rw[cj (by rwa[bI]),eZ,if_pos hj]at e';exact absurd e' (by simp)
     ·have ej:j=T.length+(j-T.length):=by omega
      rw[ej,<-dW]at e ⊢;rwa[k8]
    ·obtain⟨o,e,d⟩:=U.obj _ _ M b Z;exact(G.pin (b,o) (bx _ (bx _ (qJ Z e)))).2.1
   refine thn (ht _ _ _ _ _ _ s8 S H8 _ I8 q8) λok K ⟨L,G,q9⟩=>?_
   cases ok with
   |false=>
    obtain⟨m',lm,w9⟩:=q9;obtain⟨a1,a2,a3⟩:=again G;exact⟨m',lm,i+1,xs,L,a1,a2,a3,w9⟩
   |true=>
    refine thn (he _ _ _ _ _ _ K S L _ G q9) λy s10 ⟨v,H10,I10,ry,f,m',lm,w10⟩=>?_
    refine thn (wC _ s10 S H10 (.ref D) [v] (.ref D) [y] (λ_ Hn=>Hn=upd H10 D (.lst (xs++[v]))) I10 rfl (.cons ry .nil) ⟨D,xs,v,rfl,rfl,f,hz,rfl⟩) λ_ s11 ⟨_,H11,I11,_,e11⟩=>?_
    subst e11;obtain⟨a1,a2,a3⟩:=again I11;exact⟨m',lm,i+1,_,_,a1,a2,a3,w10⟩
 exact codeAny_compStart_list loop (U.self _ 0 _ _ _ E loop)
theorem JV(hc:X.calm=true)(T V:List Str)(ix:List Nat)(hi:PI X tg iter wi)
 (hg:∀cl C s3 O fp,PG (blk X (T++V) scope cl C s3 O fp) tg g) (ht:∀cl C s3 O fp,PTs (blk X (T++V) scope cl C s3 O fp) ifs tt) (he:∀cl C s3 O fp,PE (blk X (T++V) scope cl C s3 O fp) elt te)
 (hB:xY X.N X.env.scope.names scope.names V ix=true:=by rfl) (hk:scope.kind = .function:=by rfl) (J:∀y∈scope.names,y.2 ≠ .cell:=by decide +kernel)
 (B:∀x∈scope.names,x.2 = .local->scope.names.lookup x.1=some .local:=by decide +kernel)
 (W:∀x∈scope.names,x.2 = .free->x.1∈V:=by decide +kernel) (hs:∀x,foldedSetIterable iter X.env x=pure x:=by intro _;rfl) :
 PE X (.ListComp elt [⟨tg,iter,ifs,0⟩] scope pos) (Fv wi g tt te T.length (uM T.length ix)):=by
 intro pins s σ H Q I h;rw[eval_ListComp];refine Bt (use:=none) hc hi hg ht he hB hk J B W hs I h λD C H' s' m L M hn q=>⟨m,hn,λh' R=>⟨.ref D,H',?_,rfl,q⟩⟩
 obtain⟨S,z1,z2,U,Y,Z⟩:=M;exact L.turned (t':=s'.toks) (λb o P e=>R.extBut b o P e) S z1 U Y Z
theorem Ue(hN:X.N.Nodup)(hi':X.N[i]? = some x)(hx:X.env.scope.names.lookup x=some .local)(hc:X.calm=true)(T V:List Str)(ix:List Nat)(hi:PI X tg iter wi)
 (hg:∀cl C s3 O fp,PG (blk X (T++V) scope cl C s3 O fp) tg g) (ht:∀cl C s3 O fp,PTs (blk X (T++V) scope cl C s3 O fp) ifs tt) (he:∀cl C s3 O fp,PE (blk X (T++V) scope cl C s3 O fp) elt te)
 (W:swapsWith (.ListComp elt [⟨tg,iter,ifs,0⟩] scope pos) (some (.Name x pos')) spos.line X.env=pure true:=by rfl)
 (hB:xY X.N X.env.scope.names scope.names V ix=true:=by rfl) (hk:scope.kind = .function:=by rfl) (J:∀y∈scope.names,y.2 ≠ .cell:=by decide +kernel)
 (B:∀x∈scope.names,x.2 = .local->scope.names.lookup x.1=some .local:=by decide +kernel)
 (hfr:∀x∈scope.names,x.2 = .free->x.1∈V:=by decide +kernel) (hs:∀x,foldedSetIterable iter X.env x=pure x:=by intro _;rfl) :
 PS X (.Assign [.Name x pos'] (.ListComp elt [⟨tg,iter,ifs,0⟩] scope pos) spos) (Xq (Fv wi g tt te T.length (uM T.length ix)) (N_ i)):=by
 intro pins s σ H D I h;rw[exec_Assign_Name_used _ _ _ _ W];refine aa (df (aa ?_));refine aa (a5 (Bt (use:=some (assign (.Name x pos') X.env)) (Qp:=λ_ s'=>SP X pins D .next s') hc hi hg ht he hB hk J B hfr hs I h λE C H' s' m F G hn q=>?_) (λ_ s' L=>ae (ae L)) λ_ _ e=>e);obtain⟨P,z1,z2,Q,S,R⟩:=G;refine wpAny_assign_Name (Bj F hN hi' (.inl hx) (v:=.ref E) rfl (λY U ⟨a,M,ha⟩=>⟨m,hn.sameBut M ?_,λh' Z=>⟨_,H',?_,q⟩⟩) (.inr hx))
 ·rcases ha with ha|ha
  ·rwa[ha]
  ·exact fA (S x a ha)
 ·exact U.turned (t':=Y.toks) (λb o K e=>Z.extBut b o K e) P z1 Q S R
end
section
variable{X:Cx}{K:PySem.W.Frag}
end
end My
namespace D3
theorem ex1{α:Type _}{A B:α->Prop}{G:Prop}(h:∃a,A a/\B a)(k:∀a,A a->B a->G):G:=h.elim λa z=>k a z.1 z.2
theorem ex4{α β J D:Type _}{A B C:α->β->J->D->Prop}{G:Prop}(h:∃a b c d,A a b c d/\B a b c d/\C a b c d)(k:∀a b c d,A a b c d->B a b c d->C a b c d->G):G:=h.elim λa h=>h.elim λb h=>h.elim λc h=>h.elim λd z=>k a b c d z.1 z.2.1 z.2.2
abbrev D:=PyData
inductive U where
 |d (x:D)
 |x (c f:Str) (v:D)
noncomputable abbrev DS:=List (Option U)
inductive Oc where
 |nx (δ:DS)
 |rt (d:D)
 |bk (δ:DS)
 |ct (δ:DS)
 |ex (c f:Str) (v:D)
abbrev FE:=DS->Option D
abbrev FA:=DS->Option (List D)
abbrev FT:=DS->Option Bool
abbrev FS:=DS->Option Oc
abbrev FG:=D->DS->Option DS
mutual
def flat:D->Bool
 | .none=>true
 | .bool _=>true
 | .int _=>true
 | .str _=>true
 | .list _=>false
 | .tuple xs=>flats xs
 | .dict _=>false
def flats:List D->Bool
 |[]=>true
 |x::r=>flat x&&flats r
end
mutual
def nl:D->Nat
 | .none=>0
 | .bool _=>0
 | .int _=>0
 | .str _=>0
 | .list xs=>nls xs+1
 | .tuple xs=>nls xs
 | .dict _=>1
def nls:List D->Nat
 |[]=>0
 |x::r=>nl x+nls r
end
def fl1:D->Bool
 | .list xs=>flats xs
 |d=>flat d
noncomputable def aj(i:Nat):FE:=λδ=>match δ[i]? with
 |some (some (.d x))=>some x
 |_=>none
def dC(d:D):FE:=λ_=>some d
def dOp(g:D->D->Option D)(fa fb:FE):FE:=λδ=>(fa δ).bind λx=>(fb δ).bind λy=>g x y
def dUn(g:D->Option D)(fa:FE):FE:=λδ=>(fa δ).bind g
def aN:FA:=λ_=>some []
def ao(fa:FE)(fr:FA):FA:=λδ=>(fa δ).bind λx=>(fr δ).bind λr=>some (x::r)
def dTup(fa:FA):FE:=λδ=>(fa δ).bind λl=>if l.length<=sizeLine then some (.tuple l)else none
def jz(fa:FA):FE:=λδ=>(fa δ).bind λl=>if l.length<=sizeLine then some (.list l)else none
def dCall(F:List D->Option D)(fa:FA):FE:=λδ=>(fa δ).bind F
def ji(fa:FE):FE:=λδ=>(fa δ).bind λd=>if flat d=true then some d else none
def dN1(fa:FE):FE:=λδ=>(fa δ).bind λd=>if decide (nl d<=1)=true then some d else none
def Io(fa:FE):FE:=λδ=>(fa δ).bind λd=>if fl1 d=true then some d else none
def wD(fa fb:FE):FE:=λδ=>(fa δ).bind λx=>match x with
 | .bool true=>fb δ
 | .bool false=>some (.bool false)
 |_=>none
def dOr(fa fb:FE):FE:=λδ=>(fa δ).bind λx=>match x with
 | .bool true=>some (.bool true)
 | .bool false=>fb δ
 |_=>none
def OD(fa:FE):FE:=λδ=>(fa δ).bind λx=>match x with
 | .bool b=>some (.bool (!b))
 |_=>none
def dIf(c:FT)(fa fb:FE):FE:=λδ=>(c δ).bind λb=>if b=true then fa δ else fb δ
def bG(fa:FE):FT:=λδ=>(fa δ).bind λx=>match x with
 | .bool b=>some b
 |_=>none
def HY(a b:FT):FT:=λδ=>(a δ).bind λx=>if x=true then b δ else some false
def tOr(a b:FT):FT:=λδ=>(a δ).bind λx=>if x=true then some true else b δ
def gU(a:FT):FT:=λδ=>(a δ).map λx=>!x
def dB:FS:=λδ=>some (.nx δ)
def bU(a b:FS):FS:=λδ=>(a δ).bind λo=>match o with
 | .nx δ'=>b δ'
 |o=>some o
noncomputable def aa7(i:Nat)(fe:FE):FS:=λδ=>(fe δ).bind λd=>some (.nx (δ.set i (some (.d d))))
def sIf(c:FT)(a b:FS):FS:=λδ=>(c δ).bind λt=>if t=true then a δ else b δ
def dh(fe:FE):FS:=λδ=>(fe δ).bind λd=>some (.rt d)
def aa8:FS:=λ_=>some (.rt .none)
def Fw(fe:FE):FS:=λδ=>(fe δ).bind λ_=>some (.nx δ)
def sBk:FS:=λδ=>some (.bk δ)
def sCt:FS:=λδ=>some (.ct δ)
def gN(i:Nat):FG:=λd δ=>some (δ.set i (some (.d d)))
def iT:List D->DS->Option DS:=λl δ=>match l with
 |[]=>some δ
 |_=>none
noncomputable def cg(g:FG)(r:List D->DS->Option DS):List D->DS->Option DS:=λl δ=>match l with
 |d::Z=>(g d δ).bind λδ'=>r Z δ'
 |[]=>none
def Fx(fe:FE)(g:FG):FS:=λδ=>(fe δ).bind λd=>(g d δ).bind λδ'=>some (.nx δ')
noncomputable def g_(g:FG)(b:FS):List D->DS->Option Oc
 |[],δ=>some (.nx δ)
 |d::r,δ=>(g d δ).bind λZ=>(b Z).bind λo=>match o with
  | .nx δ'=>g_ g b r δ'
  | .ct δ'=>g_ g b r δ'
  | .bk δ'=>some (.nx δ')
  | .rt v=>some (.rt v)
  | .ex c f v=>some (.ex c f v)
def kJ(fi:FA)(g:FG)(b:FS):FS:=λδ=>(fi δ).bind λl=>g_ g b l δ
open Classical in
noncomputable def fnD(p q:Nat)(b:FS):List D->Option D:=λds=>if ds.length=p then match b (ds.map (λd=>some (.d d))++aO q none)with
 |some (.rt d)=>some d
 |some (.nx _)=>some .none
 |_=>none
 else none
def j_(t:Nat)(ix:List Nat)(δ:DS):DS:=aO t none++ix.map λj=>(δ[j]?).getD none
noncomputable def jK(g:FG)(c:FT)(e:FE)(δ:DS):List D->Option (List D)
 |[]=>some []
 |d::r=>(g d δ).bind λZ=>(c Z).bind λb=>if b=true then(e Z).bind λx=>(jK g c e δ r).bind λl=>some (x::l)else jK g c e δ r
def jk(fi:FA)(g:FG)(c:FT)(e:FE)(t:Nat)(ix:List Nat):FE:=λδ=>(fi δ).bind λl=>if l.length<=100000 then(jK g c e (j_ t ix δ) l).bind λr=>some (.list r)else none
def j9:FT:=λ_=>some true
noncomputable def gI(g:Int->Int->Option D):D->D->Option D:=λx y=>match x,y with
 | .int i,.int j=>g i j
 |_,_=>none
noncomputable def pIx(n:Nat)(i:Int):Option Nat:=if 0<=i then(if i<n then some i.toNat else none)else if -(n:Int)<=i then some (i+n).toNat else none
def pAt(xs:List D)(i:Int):Option D:=(pIx xs.length i).bind λj=>xs[j]?
def isT(c T:String):Bool:=T==c||(T=="bool"&&c=="int")
def bO(i:Nat)(fe:FE):FS:=λδ=>if i<δ.length then aa7 i fe δ else none
def eY:D->D->Option D:=gI λi j=>some (.int (i+j))
def vg:D->D->Option D:=gI λi j=>some (.int (i-j))
def yR(i j:Int):Bool:=decide (i.natAbs<2^64)||decide (j.natAbs<2^64)||(decide (i.natAbs<2^30000)&&decide (j.natAbs<2^30000))
def uc:D->D->Option D:=gI λi j=>if yR i j=true then some (.int (i*j))else none
def Ir(_ j:Int):Bool:=decide (j≠0)&&decide (j.natAbs<2^9000)
def Fy:D->D->Option D:=gI λi j=>if Ir i j=true then some (.int (i.fdiv j))else none
def uN:D->D->Option D:=gI λi j=>if decide (j≠0)=true then some (.int (i.fmod j))else none
def X5(i j:Int):Bool:=decide (0<=j)&&decide (j<=1000)&&decide (i.natAbs<2^64)
def X6:D->D->Option D:=gI λi j=>if X5 i j=true then some (.int (i^j.toNat))else none
def gLt:D->D->Option D:=gI λi j=>some (.bool (decide (i<j)))
def gLe:D->D->Option D:=gI λi j=>some (.bool (decide (i<=j)))
def gGt:D->D->Option D:=gI λi j=>some (.bool (decide (j<i)))
def gGe:D->D->Option D:=gI λi j=>some (.bool (decide (j<=i)))
def gEq:D->D->Option D:=λx y=>if(fN x&&fN y)=true then some (.bool (gi x y))else none
def gNe:D->D->Option D:=λx y=>if(fN x&&fN y)=true then some (.bool (!PyData.eqv x y))else none
def gNl(i:Nat):FG:=λd δ=>if i<δ.length then gN i d δ else none
def gTn(n:Nat)(g:List D->DS->Option DS):FG:=λd δ=>match d with
 | .tuple l=>if l.length=n then g l δ else none
 |_=>none
def rT(i:Nat)(f:FE):FS:=λδ=>(aj i δ).bind λx=>(f δ).bind λd=>match x with
 | .list l=>if l.length<1000000 then some (.nx (δ.set i (some (.d (.list (l++[d]))))))else none
 |_=>none
def Cy(i:Nat)(fk f:FE):FS:=λδ=>(f δ).bind λd=>(aj i δ).bind λx=>(fk δ).bind λk=>match x,k with
 | .list l,.int j=>(pIx l.length j).bind λn=>some (.nx (δ.set i (some (.d (.list (l.set n d))))))
 |_,_=>none
def putAt(x:D)(n:Nat)(d:D):D:=match x with
 | .list l=>.list (l.set n d)
 | .tuple l=>.tuple (l.set n d)
 |x=>x
def asList:D->Option (List D)
 | .list l=>some l
 |_=>none
def uO(f:FE):FA:=λδ=>(f δ).bind asList
noncomputable def gD(lo hi:Int):List D:=(aQ (hi-lo).toNat).map λ(k:Nat)=>.int (lo+(k:Int))
def yS(i:Int):Bool:=decide (-(2^62)<=i)&&decide (i<2^62)
def mG(fa:FA):FA:=λδ=>(fa δ).bind λl=>match l with
 |[.int j]=>if yS j=true then some (gD 0 j)else none
 |_=>none
def Wv(fa:FA):FA:=λδ=>(fa δ).bind λl=>match l with
 |[.int i,.int j]=>if(yS i&&yS j)=true then some (gD i j)else none
 |_=>none
def gIx:D->D->Option D:=λx y=>match x,y with
 | .list l,.int i=>pAt l i
 | .tuple l,.int i=>pAt l i
 |_,_=>none
noncomputable def k_(g g':D->D->Option D)(fa fb fc:FE):FE:=λδ=>(fa δ).bind λx=>(fb δ).bind λy=>(g x y).bind λz=>match z with
 | .bool true=>(fc δ).bind λw=>g' y w
 | .bool false=>some (.bool false)
 |_=>none
noncomputable def yq(g g' B:D->D->Option D)(fa fb fc fd:FE):FE:=λδ=>(fa δ).bind λx=>(fb δ).bind λy=>(g x y).bind λz=>match z with
 | .bool true=>(fc δ).bind λw=>(g' y w).bind λZ=>match Z with
  | .bool true=>(fd δ).bind λu=>B w u
  | .bool false=>some (.bool false)
  |_=>none
 | .bool false=>some (.bool false)
 |_=>none
noncomputable def isNone:D->Bool
 | .none=>true
 |_=>false
def Fz:D->Option D:=λx=>some (.bool (isNone x))
def aa9:D->Option D:=λx=>some (.bool (!isNone x))
def jd:List D->Option D
 |[.list l]=>some (.int l.length)
 |[.tuple l]=>some (.int l.length)
 |_=>none
noncomputable def dF:List D->Option (List Int)
 |[]=>some []
 | .int i::r=>(dF r).map (i :: ·)
 |_=>none
noncomputable def mxI(i:Int)(r:List Int):Int:=r.foldl (λa b=>if a<b then b else a) i
def yU:List D->Option D
 |[.list l]=>match dF l with
  |some (i::r)=>some (.int (mxI i r))
  |_=>none
 |_=>none
noncomputable def insI(x:Int):List Int->List Int
 |[]=>[x]
 |y::r=>if x<=y then x::y::r else y::insI x r
def Cz:List Int->List Int
 |[]=>[]
 |x::r=>insI x (Cz r)
def OJ:List D->Option D
 |[.list l]=>(dF l).bind λns=>if ns.length<64 then some (.list ((Cz ns).map .int))else none
 |_=>none
def q_:List D->Option D
 |[.int i]=>some (.int i)
 |[.bool b]=>some (.int (if b then 1 else 0))
 |_=>none
def ak8:List D->Option D
 |[.int i]=>some (.int (if i<0 then -i else i))
 |_=>none
def xG:List D->Option D
 |[.int i,.int j]=>some (.int (if j>i then j else i))
 |_=>none
def FJ:List D->Option D
 |[.int i,.int j]=>some (.int (if j<i then j else i))
 |_=>none
noncomputable def tyD:D->String
 | .none => "NoneType"
 | .bool _ => "bool"
 | .int _ => "int"
 | .str _ => "str"
 | .list _ => "list"
 | .tuple _ => "tuple"
 | .dict _ => "dict"
def gIs(c:String):D->Option D:=λd=>some (.bool (isT c (tyD d)))
def O1:D->Option D
 | .int i=>some (.int (-i))
 |_=>none
noncomputable def sE:D->D->Option D:=λx y=>match x,y with
 | .list l,.list m=>if l.length+m.length<=1000000 then some (.list (l++m))else none
 |_,_=>none
noncomputable def yV:D->D->Option D:=λx y=>match x,y with
 | .list l,.int k=>if l.length*k.toNat<=1000000/\-(2^63)<=k/\k<2^63 then some (.list (aO k.toNat l).flatten)else none
 |_,_=>none
def xH:D->Option D
 | .list l=>some (.list l)
 | .tuple l=>some (.list l)
 |_=>none
abbrev FO:=DS->Option (Option Int)
def p7:FO:=λ_=>some none
def fG(f:FE):FO:=λδ=>(f δ).bind λx=>match x with
 | .int i=>some (some i)
 |_=>none
noncomputable def pSx(n d:Nat):Option Int->Nat
 |none=>d
 |some i=>if i<0 then(i+n).toNat else min i.toNat n
def cuD(xs:List D)(lo hi:Option Int):List D:=(xs.drop (pSx xs.length 0 lo)).take (pSx xs.length xs.length hi-pSx xs.length 0 lo)
def dSl(f:FE)(lo hi:FO):FE:=λδ=>(f δ).bind λx=>(lo δ).bind λa=>(hi δ).bind λb=>match x with
 | .list l=>some (.list (cuD l a b))
 |_=>none
noncomputable def ab0(i j:Nat)(fa:FA):FS:=λδ=>(fa δ).bind λl=>match l with
 |[x,y]=>if i<δ.length/\j<δ.length then some (.nx ((δ.set i (some (.d x))).set j (some (.d y))))else none
 |_=>none
noncomputable def rO(l:List D):List D:=l.mapIdx λi x=>.tuple [.int (i:Int),x]
def JW(f:FE):FA:=λδ=>(f δ).bind λd=>match d with
 | .list l=>some (rO l)
 |_=>none
noncomputable def jA:List D->Option (List Bool)
 |[]=>some []
 | .bool b::r=>(jA r).map (b :: ·)
 |_=>none
def yW:List D->Option D
 |[.list l]=>(jA l).map λbs=>.bool (bs.all id)
 |_=>none
noncomputable def jM:List D->List D->List D
 |x::r,y::s=>.tuple [x,y]::jM r s
 |_,_=>[]
def O2(f g:FE):FA:=λδ=>(f δ).bind λd=>(g δ).bind λe=>match d,e with
 | .list l,.list m=>some (jM l m)
 |_,_=>none
def Ug(f:FE):FA:=λδ=>(f δ).bind λd=>match d with
 | .list l=>some l.reverse
 |_=>none
def O3:D->Option D
 | .bool b=>some (.bool (!b))
 |_=>none
theorem vp:∀(r:List Int)(i:Int),mxI i r∈i::r/\∀a∈i::r,a<=mxI i r
 |[],i=>⟨ak,λa h=>by rw[aJ.mp h];exact fV _⟩
 |b::r,i=>by
  have Z:=vp r (if i<b then b else i);have e:mxI i (b::r)=mxI (if i<b then b else i) r:=rfl;rw[e]
  constructor
  ·rcases aK.mp Z.1 with z|z
   ·rw[z];split<;>simp
   ·exact au _ (au _ z)
  ·intro a h;have X:=Z.2 _ ak;have Y:i<=(if i<b then b else i)/\b<=(if i<b then b else i):=by split<;>omega
   rcases aK.mp h with rfl|h
   ·exact jt Y.1 X
   ·rcases aK.mp h with rfl|h
    ·exact jt Y.2 X
    ·exact Z.2 a (au _ h)
theorem insI_perm(x:Int):∀l,(insI x l).Perm (x::l)
 |[]=>.refl _
 |y::r=>by
  unfold insI;split
  ·exact .refl _
  ·exact((insI_perm x r).cons y).trans (.swap x y r)
theorem p8:∀l,(Cz l).Perm l
 |[]=>.refl _
 |x::r=>(insI_perm x _).trans ((p8 r).cons x)
theorem xJ(x:Int):∀l,l.Pairwise (· <= ·)->(insI x l).Pairwise (· <= ·)
 |[],_=>by simp[insI]
 |y::r,h=>by
  obtain⟨h1,h2⟩:=bJ.mp h;unfold insI;split
  ·next c=>
   refine bJ.mpr ⟨λa ha=>?_,h⟩;rcases aK.mp ha with rfl|z
   ·exact c
   ·exact jt c (h1 a z)
  ·next c=>
   refine bJ.mpr ⟨λa ha=>?_,xJ x r h2⟩;rcases aK.mp ((insI_perm x r).mem_iff.mp ha)with rfl|z
   ·omega
   ·exact h1 a z
theorem sG:∀l,(Cz l).Pairwise (· <= ·)
 |[]=>.nil
 |x::r=>xJ x _ (sG r)
end D3
variable{u:L2.HO}{kvs:List (D3.D×D3.D)}{d y:D3.D}{ds:List D3.D}{pl:Bool}{as:List Addr}{δ:D3.DS}{L:List Nat}
namespace D3
open L2 My
abbrev Ok:=Addr->Prop
abbrev St:=L2.St
class Chg (u:HO):Prop where
 ch:(∃xs,u = .lst xs)\/(∃kvs,u = .dK kvs)\/∃kvs,u = .dT kvs
instance (xs:List V):Chg (.lst xs):=⟨.inl ⟨xs,rfl⟩⟩
instance (kvs:List (Key×V)):Chg (.dK kvs):=⟨.inr (.inl ⟨kvs,rfl⟩)⟩
instance (kvs:List (List Key×V)):Chg (.dT kvs):=⟨.inr (.inr ⟨kvs,rfl⟩)⟩
theorem Chg.frz{o:Obj}{u:HO}(h:Chg (.frz o u)):False:=by
 rcases h.ch with⟨_,z⟩|⟨_,z⟩|⟨_,z⟩<;>cases z
theorem Chg.tup{xs:List V}(h:Chg (.tup xs)):False:=by
 rcases h.ch with⟨_,z⟩|⟨_,z⟩|⟨_,z⟩<;>cases z
def Chd(o:Option HO):Prop:=∃u,o=some u/\Chg u
theorem Chd.ne{o:Option HO}(h:Chd o):o≠none:=by
 obtain⟨u,rfl,_⟩:=h;simp
def SqK(K:PySem.W.Frag)(H:Hp)(a:Addr)(xs:List V):Prop:=(∃o,H a=some (.frz o (.lst xs))) \/
 ∃(o:Obj)(its:Array Value)(n:Nat),K.lookup a=some o/\o.cls = .type "list"/\o.dict=none/\o.data = .seq its n/\its.size<=sizeLine/\Vals xs its.toList
theorem SqK.sq{xs:List V}(h:SqK K H a xs):SqL K H a xs:=by
 rcases h with⟨o,h⟩|h
 ·exact .inl (.inr ⟨o,h⟩)
 ·exact .inr h
def gQ(H:Hp)(a:Addr)(xs:List V):Prop:=H a=some (.tup xs)
theorem gQ.sq{xs:List V}(h:gQ H a xs):SqT K H a xs:=.inl (.inl h)
theorem gQ.same{xs:List V}(e:Same H H')(h:gQ H a xs):gQ H' a xs:=e _ _ h
theorem gQ.upd{xs:List V}[B:Chg u](h:H a=some u)(q:gQ H b xs):gQ (upd H a o) b xs:=by
 unfold gQ;rwa[bF (iR q h (by intro z;subst z;exact B.tup))]
noncomputable def dk0:List (D×D)->List (Key×V)
 |[]=>[]
 | (.int i,.int j)::r=>(.inl i,.int j)::dk0 r
 | (.int i,.bool true)::r=>(.inl i,.bl true)::dk0 r
 |_::r=>(.inl 0,.non)::dk0 r
noncomputable def tkK:List D->Option (List Key)
 |[]=>some []
 | .int i::r=>(tkK r).map (.inl i :: ·)
 |_=>none
def tkD:List (D×D)->Option (List (List Key×V))
 |[]=>some []
 | (.tuple l,.bool true)::r=>(tkK l).bind λk=>(tkD r).map ((k,.bl true) :: ·)
 |_=>none
def dh0(kvs:List (D×D)):HO:=match kvs with
 |[]=>.dK []
 |q::r=>match tkD (q::r)with
  |some ts=>.dT ts
  |none=>.dK (dk0 (q::r))
theorem O4(kvs:List (D×D)):(∃ks,dh0 kvs = .dK ks)\/∃ks,dh0 kvs = .dT ks:=by
 cases kvs with
 |nil=>exact .inl ⟨_,rfl⟩
 |cons q r=>
  unfold dh0;dsimp only;split
  ·exact .inr ⟨_,rfl⟩
  ·exact .inl ⟨_,rfl⟩
instance (kvs:List (D×D)):Chg (dh0 kvs):=⟨by
 rcases O4 kvs with⟨ks,z⟩|⟨ks,z⟩
 ·exact .inr (.inl ⟨ks,z⟩)
 ·exact .inr (.inr ⟨ks,z⟩)⟩
def scV:D->V
 | .int i=>.int i
 |_=>.non
def scs:List D->Bool
 |[]=>true
 | .int _::r=>scs r
 | .none::r=>scs r
 |_=>false
def TV(H:Hp)(v:V)(d:D):Prop:=(v = .non/\d = .none)\/∃b ds,v = .ref b/\d = .tuple ds/\gQ H b (ds.map scV)/\scs ds=true
inductive TVs(H:Hp):List (Key×V)->List (D×D)->Prop
 |nil:TVs H [] []
 |cons {i:Int} {v:V} {d:D} {r:List (Key×V)} {r':List (D×D)}:TV H v d->TVs H r r'->TVs H ((.inl i,v)::r) ((.int i,d)::r')
theorem TV.imp(h:∀b xs,gQ H b xs->gQ H' b xs){v:V}{d:D}(q:TV H v d):TV H' v d:=by
 rcases q with q|⟨b,ds,h1,h2,Y,Z⟩
 ·exact .inl q
 ·exact .inr ⟨b,ds,h1,h2,h _ _ Y,Z⟩
theorem TVs.imp(h:∀b xs,gQ H b xs->gQ H' b xs){ks:List (Key×V)}{kvs:List (D×D)}(q:TVs H ks kvs):TVs H' ks kvs:=by
 induction q with
 |nil=>exact .nil
 |cons t _ Z=>exact .cons (t.imp h) Z
def Iu:List (D×D)->Bool
 |[]=>true
 | (_,.int _)::r=>Iu r
 | (_,.bool _)::r=>Iu r
 |_=>false
def TW(H:Hp)(v:V)(m:List Int)(z:Int):Prop:=∃b c,v = .ref b/\gQ H b [.ref c,.int z]/\gQ H c (m.map V.int)
inductive TTs(H:Hp):List (List Key×V)->List (D×D)->Prop
 |nil:TTs H [] []
 |cons {k m:List Int} {z:Int} {v:V} {r:List (List Key×V)} {r':List (D×D)}:TW H v m z->TTs H r r'->TTs H ((k.map fo,v)::r) ((.tuple (k.map .int),.tuple [.tuple (m.map .int),.int z])::r')
theorem TTs.imp(h:∀b xs,gQ H b xs->gQ H' b xs){ks:List (List Key×V)}{kvs:List (D×D)}(q:TTs H ks kvs):TTs H' ks kvs:=by
 induction q with
 |nil=>exact .nil
 |cons t _ Z=>
  obtain⟨b,c,h1,h2,Y⟩:=t;exact .cons ⟨b,c,h1,h _ _ h2,h _ _ Y⟩ Z
def DH(H:Hp)(u:HO)(kvs:List (D×D)):Prop:=(Iu kvs=true/\u=dh0 kvs)\/(∃ks,u = .dK ks/\TVs H ks kvs)\/∃q ks,u = .dT (q::ks)/\TTs H (q::ks) kvs
theorem DH.imp(h:∀b xs,gQ H b xs->gQ H' b xs){u:HO}{kvs:List (D×D)}(q:DH H u kvs):DH H' u kvs:=by
 rcases q with q|⟨ks,q1,q2⟩|⟨k,ks,q1,q2⟩
 ·exact .inl q
 ·exact .inr (.inl ⟨ks,q1,q2.imp h⟩)
 ·exact .inr (.inr ⟨k,ks,q1,q2.imp h⟩)
theorem DH.same(q:DH H u kvs)(e:Same H H'):DH H' u kvs:=q.imp λ_ _ h=>gQ.same e h
theorem DH.upd{B:HO}[J:Chg u]{kvs:List (D×D)}(q:DH H B kvs)(h:H a=some u):DH (upd H a o) B kvs:=q.imp λ_ _ z=>gQ.upd h z
theorem DH.or(q:DH H u kvs):(∃ks,u = .dK ks)\/∃ks,u = .dT ks:=by
 rcases q with⟨_,rfl⟩|⟨ks,rfl,_⟩|⟨k,ks,rfl,_⟩
 ·exact O4 kvs
 ·exact .inl ⟨ks,rfl⟩
 ·exact .inr ⟨_,rfl⟩
theorem DH.chg(q:DH H u kvs):Chg u:=⟨.inr q.or⟩
theorem DH.old(q:DH H u kvs)(h:Iu kvs=true):u=dh0 kvs:=by
 rcases q with q|⟨ks,rfl,q⟩|⟨k,ks,rfl,q⟩
 ·exact q.2
 ·cases q with
  |nil=>rfl
  |cons t _=>
   rcases t with⟨_,rfl⟩|⟨_,_,_,rfl,_,_⟩<;>cases h
 ·cases q with
  |cons _ _=>cases h
mutual
inductive RA(K:PySem.W.Frag)(ok:Ok)(pl:Bool)(H:Hp):V->D->Prop
 |non:RA K ok pl H .non .none
 |bl (b:Bool):RA K ok pl H (.bl b) (.bool b)
 |int (i:Int):RA K ok pl H (.int i) (.int i)
 |str (x:Str):RA K ok pl H (.str x) (.str x)
 |lst {a:Addr} {xs:List V} {ds:List D}:H a=some (.lst xs)->ok a->RAs K ok pl H xs ds->RA K ok pl H (.ref a) (.list ds)
 |lsk {a:Addr} {xs:List V} {ds:List D}:SqK K H a xs->pl=true->RAs K ok pl H xs ds->RA K ok pl H (.ref a) (.list ds)
 |tup {a:Addr} {xs:List V} {ds:List D}:gQ H a xs->RAs K ok pl H xs ds->RA K ok pl H (.ref a) (.tuple ds)
 |dic {a:Addr} {u:HO} {kvs:List (D×D)}:H a=some u->DH H u kvs->ok a->RA K ok pl H (.ref a) (.dict kvs)
 |dik {a:Addr} {u:HO} {kvs:List (D×D)} {o:Obj}:H a=some (.frz o u)->DH H u kvs->pl=true->RA K ok pl H (.ref a) (.dict kvs)
inductive RAs(K:PySem.W.Frag)(ok:Ok)(pl:Bool)(H:Hp):List V->List D->Prop
 |nil:RAs K ok pl H [] []
 |cons {v:V} {d:D} {vs:List V} {ds:List D}:RA K ok pl H v d->RAs K ok pl H vs ds->RAs K ok pl H (v::vs) (d::ds)
end
section
variable{K:PySem.W.Frag}{ok ok':Ok}{pl pl':Bool}{H H':Hp}
theorem RA.ind{P:V->D->Prop}{Q:List V->List D->Prop}(c1:P .non .none)(c2:∀b,P (.bl b) (.bool b))(c3:∀i,P (.int i) (.int i))(c4:∀x,P (.str x) (.str x))
 (c5:∀{a:Addr}{xs:List V}{ds:List D},H a=some (.lst xs)->ok a->Q xs ds->P (.ref a) (.list ds)) (Z:∀{a:Addr}{xs:List V}{ds:List D},SqK K H a xs->pl=true->Q xs ds->P (.ref a) (.list ds)) (Y:∀{a:Addr}{xs:List V}{ds:List D},gQ H a xs->Q xs ds->P (.ref a) (.tuple ds))
 (W:∀{a:Addr}{u:HO}{kvs:List (D×D)},H a=some u->DH H u kvs->ok a->P (.ref a) (.dict kvs)) (O:∀{a:Addr}{u:HO}{kvs:List (D×D)}{o:Obj},H a=some (.frz o u)->DH H u kvs->pl=true->P (.ref a) (.dict kvs)) (J:Q [] []) (B:∀{v:V}{d:D}{vs:List V}{ds:List D},P v d->Q vs ds->Q (v::vs) (d::ds)) :
 (∀{v:V}{d:D},RA K ok pl H v d->P v d)/\∀{v:List V}{d:List D},RAs K ok pl H v d->Q v d:=
 ⟨λh=>RA.rec (motive_1:=λv d _=>P v d) (motive_2:=λv d _=>Q v d) c1 c2 c3 c4 (λh o _ q=>c5 h o q) (λh o _ q=>Z h o q) (λh _ q=>Y h q) (λh g o=>W h g o) (λh g o=>O h g o) J (λ_ _ a q=>B a q) h,
  λh=>RAs.rec (motive_1:=λv d _=>P v d) (motive_2:=λv d _=>Q v d) c1 c2 c3 c4 (λh o _ q=>c5 h o q) (λh o _ q=>Z h o q) (λh _ q=>Y h q) (λh g o=>W h g o) (λh g o=>O h g o) J (λ_ _ a q=>B a q) h⟩
theorem RA.imp2(J:∀a,ok a->ok' a)(B:pl=true->pl'=true):(∀{v:V}{d:D},RA K ok pl H v d->RA K ok' pl' H v d)/\∀{v:List V}{d:List D},RAs K ok pl H v d->RAs K ok' pl' H v d:=
 RA.ind .non .bl .int .str (λh o q=>.lst h (J _ o) q) (λh o q=>.lsk h (B o) q) (λh q=>.tup h q) (λh g o=>.dic h g (J _ o)) (λh g o=>.dik h g (B o)) .nil .cons
theorem RA.imp(J:∀a,ok a->ok' a)(B:pl=true->pl'=true){v:V}{d:D}(h:RA K ok pl H v d):RA K ok' pl' H v d:=(RA.imp2 J B).1 h
theorem RAs.imp(J:∀a,ok a->ok' a)(B:pl=true->pl'=true){v:List V}{d:List D}(h:RAs K ok pl H v d):RAs K ok' pl' H v d:=(RA.imp2 J B).2 h
theorem SqK.same{xs:List V}(e:Same H H')(h:SqK K H a xs):SqK K H' a xs:=by
 rcases h with⟨o,h⟩|h
 ·exact .inl ⟨o,e _ _ h⟩
 ·exact .inr h
theorem RA.same2(e:Same H H'):(∀{v:V}{d:D},RA K ok pl H v d->RA K ok pl H' v d)/\∀{v:List V}{d:List D},RAs K ok pl H v d->RAs K ok pl H' v d:=
 RA.ind .non .bl .int .str (λh o q=>.lst (e _ _ h) o q) (λh o q=>.lsk (h.same e) o q) (λh q=>.tup (gQ.same e h) q) (λh g o=>.dic (e _ _ h) (g.same e) o) (λh g o=>.dik (e _ _ h) (g.same e) o) .nil .cons
theorem RA.same(e:Same H H'){v:V}{d:D}(h:RA K ok pl H v d):RA K ok pl H' v d:=(RA.same2 e).1 h
theorem RAs.same(e:Same H H'){v:List V}{d:List D}(h:RAs K ok pl H v d):RAs K ok pl H' v d:=(RA.same2 e).2 h
theorem RA.flat2:(∀{v:V}{d:D},RA K ok pl H v d->flat d=true->RA K ok' pl' H v d)/\∀{v:List V}{d:List D},RAs K ok pl H v d->flats d=true->RAs K ok' pl' H v d:=
 RA.ind (λ_=>.non) (λb _=>.bl b) (λi _=>.int i) (λx _=>.str x) (λ_ _ _ h=>by simp[D3.flat]at h) (λ_ _ _ h=>by simp[D3.flat]at h) (λt q h=>.tup t (q (by simpa[D3.flat]using h))) (λ_ _ _ h=>by simp[D3.flat]at h) (λ_ _ _ h=>by simp[D3.flat]at h) (λ_=>.nil) λa q h=>by
  rw[flats,aV]at h;exact .cons (a h.1) (q h.2)
theorem RA.flat(B:flat d=true)(h:RA K ok pl H v d):RA K ok' pl' H v d:=RA.flat2.1 h B
theorem RAs.flat{v:List V}{d:List D}(B:flats d=true)(h:RAs K ok pl H v d):RAs K ok' pl' H v d:=RA.flat2.2 h B
theorem SqK.upd{xs:List V}[B:Chg u](h:H a=some u)(q:SqK K H b xs):SqK K (upd H a o) b xs:=by
 rcases q with⟨o',q⟩|q
 ·refine .inl ⟨o',?_⟩;rwa[bF (iR q h (by intro z;subst z;first|exact B.frz|exact B.tup))]
 ·exact .inr q
theorem RA.upd2[B:Chg u](h:H a=some u)(na:¬ok a):(∀{v:V}{d:D},RA K ok pl H v d->RA K ok pl (upd H a o) v d)/\∀{v:List V}{d:List D},RAs K ok pl H v d->RAs K ok pl (upd H a o) v d:=
 RA.ind .non .bl .int .str (λe k q=>.lst (by rwa[bF (by intro z;subst z;exact na k)]) k q) (λe k q=>.lsk (e.upd h) k q) (λe q=>.tup (gQ.upd h e) q) (λe g k=>.dic (by rwa[bF (by intro z;subst z;exact na k)]) (g.upd h) k) (λe g k=>.dik (by rwa[bF (iR e h (by intro z;subst z;exact B.frz))]) (g.upd h) k) .nil .cons
theorem RA.upd[B:Chg u](h:H a=some u)(na:¬ok a){v:V}{d:D}(r:RA K ok pl H v d):RA K ok pl (upd H a o) v d:=(RA.upd2 h na).1 r
theorem RAs.upd[B:Chg u](h:H a=some u)(na:¬ok a){v:List V}{d:List D}(r:RAs K ok pl H v d):RAs K ok pl (upd H a o) v d:=(RA.upd2 h na).2 r
theorem RA.track2:(∀{v:V}{d:D},RA K ok pl H v d->RA K (λb=>ok b/\H b≠none) pl H v d)/\∀{v:List V}{d:List D},RAs K ok pl H v d->RAs K (λb=>ok b/\H b≠none) pl H v d:=
 RA.ind .non .bl .int .str (λe k q=>.lst e ⟨k,by rw[e];simp⟩ q) (λe k q=>.lsk e k q) (λe q=>.tup e q) (λe g k=>.dic e g ⟨k,by rw[e];simp⟩) (λe g k=>.dik e g k) .nil .cons
theorem RA.track(h:RA K ok pl H v d):RA K (λb=>ok b/\H b≠none) pl H v d:=RA.track2.1 h
theorem RAs.track{v:List V}{d:List D}(h:RAs K ok pl H v d):RAs K (λb=>ok b/\H b≠none) pl H v d:=RA.track2.2 h
theorem RAs.length:∀{v:List V}{d:List D},RAs K ok pl H v d->v.length=d.length
 |_,_,.nil=>rfl
 |_,_,.cons _ q=>by simp[RAs.length q]
theorem RAs.get:∀{v:List V}{d:List D}{i:Nat}{x:D},RAs K ok pl H v d->d[i]? = some x->∃y,v[i]? = some y/\RA K ok pl H y x
 |_,_,_,_,.nil,h=>by simp at h
 |_,_,0,_,.cons a _,h=>by simp at h;subst h;exact⟨_,rfl,a⟩
 |_,_,i+1,_,.cons _ q,h=>by
  obtain⟨y,e,r⟩:=RAs.get (i:=i) q (by simpa using h);exact⟨y,by simpa using e,r⟩
theorem RAs.append:∀{v B:List V}{d d':List D},RAs K ok pl H v d->RAs K ok pl H B d'->RAs K ok pl H (v++B) (d++d')
 |_,_,_,_,.nil,q=>q
 |_,_,_,_,.cons a r,q=>.cons a (RAs.append r q)
theorem RAs.set{x:V}(r:RA K ok pl H x y):∀{v:List V}{d:List D}(i:Nat),RAs K ok pl H v d->RAs K ok pl H (v.set i x) (d.set i y)
 |_,_,_,.nil=>.nil
 |_,_,0,.cons _ q=>.cons r q
 |_,_,i+1,.cons a q=>.cons a (RAs.set r i q)
theorem RAs.take:∀{v:List V}{d:List D}(n:Nat),RAs K ok pl H v d->RAs K ok pl H (v.take n) (d.take n)
 |_,_,0,_=>by simp;exact .nil
 |_,_,_+1,.nil=>.nil
 |_,_,n+1,.cons a q=>.cons a (RAs.take n q)
theorem RAs.drop:∀{v:List V}{d:List D}(n:Nat),RAs K ok pl H v d->RAs K ok pl H (v.drop n) (d.drop n)
 |_,_,0,q=>q
 |_,_,_+1,.nil=>.nil
 |_,_,n+1,.cons _ q=>RAs.drop n q
theorem RAs.reverse:∀{v:List V}{d:List D},RAs K ok pl H v d->RAs K ok pl H v.reverse d.reverse
 |_,_,.nil=>.nil
 |_,_,.cons a q=>by
  rw[jJ,jJ];exact(RAs.reverse q).append (.cons a .nil)
theorem RA.rd2:(∀{v:V}{d:D},RA K ok pl H v d->d.canLay0=true->RdV K H v d)/\∀{v:List V}{d:List D},RAs K ok pl H v d->f_ d=true->RdVs K H v d:=
 RA.ind (λ_=>.non) (λb _=>.bl b) (λi _=>.int i) (λx _=>.str x) (λe _ q h=>.lst (SqL.of e) (q (by simpa[ff]using h))) (λe _ q h=>.lst e.sq (q (by simpa[ff]using h))) (λe q h=>.tup e.sq (q (by simpa[ff]using h))) (λ_ _ _ h=>by simp[ff]at h) (λ_ _ _ h=>by simp[ff]at h) (λ_=>.nil) λa q h=>by
  rw[f_,aV]at h;exact .cons (a h.1) (q h.2)
theorem RA.rd(B:d.canLay0=true)(h:RA K ok pl H v d):RdV K H v d:=RA.rd2.1 h B
theorem RA.intE{i:Int}(h:RA K ok pl H v (.int i)):v = .int i:=by cases h;rfl
theorem RA.blE{b:Bool}(h:RA K ok pl H v (.bool b)):v = .bl b:=by cases h;rfl
theorem RA.lstE(h:RA K ok pl H v (.list ds)):∃a xs,v = .ref a/\SqL K H a xs/\RAs K ok pl H xs ds:=by
 cases h with
 |lst e k q=>exact⟨_,_,rfl,SqL.of e,q⟩
 |lsk e k q=>exact⟨_,_,rfl,e.sq,q⟩
theorem RA.dicU(h:RA K ok pl H v (.dict kvs)):∃a u,v = .ref a/\L2.Rd H a u/\DH H u kvs:=by
 cases h with
 |dic e g k=>exact⟨_,_,rfl,.inl e,g⟩
 |dik e g k=>exact⟨_,_,rfl,.inr ⟨_,e⟩,g⟩
theorem RA.dicE(h:RA K ok pl H v (.dict kvs))(B:Iu kvs=true):∃a,v = .ref a/\L2.Rd H a (dh0 kvs):=by
 obtain⟨a,u,h1,h2,Z⟩:=h.dicU;rw[Z.old B]at h2;exact⟨a,h1,h2⟩
theorem RA.tupE(h:RA K ok pl H v (.tuple ds)):∃a xs,v = .ref a/\SqT K H a xs/\RAs K ok pl H xs ds:=by
 cases h with
 |tup e q=>exact⟨_,_,rfl,e.sq,q⟩
theorem RA.tupE0(h:RA K ok pl H v (.tuple ds)):∃a xs,v = .ref a/\gQ H a xs/\RAs K ok pl H xs ds:=by
 cases h with
 |tup e q=>exact⟨_,_,rfl,e,q⟩
end
inductive Fl where
 |A
 |O
 |L
 |N
 |M
 deriving DecidableEq
def isN:Option Fl->Bool
 |some .N=>true
 |some .M=>true
 |_=>false
mutual
inductive RT(K:PySem.W.Frag)(H:Hp):V->D->List Addr->Prop
 |non:RT K H .non .none []
 |bl (b:Bool):RT K H (.bl b) (.bool b) []
 |int (i:Int):RT K H (.int i) (.int i) []
 |str (x:Str):RT K H (.str x) (.str x) []
 |lst {a:Addr} {xs:List V} {ds:List D} {as:List Addr}:H a=some (.lst xs)->RTs K H xs ds as->RT K H (.ref a) (.list ds) (a::as)
 |tup {a:Addr} {xs:List V} {ds:List D} {as:List Addr}:gQ H a xs->RTs K H xs ds as->RT K H (.ref a) (.tuple ds) as
 |dic {a:Addr} {u:HO} {kvs:List (D×D)}:H a=some u->DH H u kvs->RT K H (.ref a) (.dict kvs) [a]
inductive RTs(K:PySem.W.Frag)(H:Hp):List V->List D->List Addr->Prop
 |nil:RTs K H [] [] []
 |cons {v:V} {d:D} {vs:List V} {ds:List D} {as bs:List Addr}:RT K H v d as->RTs K H vs ds bs->RTs K H (v::vs) (d::ds) (as++bs)
end
section
variable{K:PySem.W.Frag}{H H':Hp}
theorem RT.ind{P:V->D->List Addr->Prop}{Q:List V->List D->List Addr->Prop}(c1:P .non .none [])(c2:∀b,P (.bl b) (.bool b) [])(c3:∀i,P (.int i) (.int i) [])(Z:∀x,P (.str x) (.str x) [])
 (Y:∀{a:Addr}{xs:List V}{ds:List D}{as:List Addr},H a=some (.lst xs)->Q xs ds as->P (.ref a) (.list ds) (a::as)) (W:∀{a:Addr}{xs:List V}{ds:List D}{as:List Addr},gQ H a xs->Q xs ds as->P (.ref a) (.tuple ds) as)
 (O:∀{a:Addr}{u:HO}{kvs:List (D×D)},H a=some u->DH H u kvs->P (.ref a) (.dict kvs) [a]) (J:Q [] [] []) (B:∀{v:V}{d:D}{vs:List V}{ds:List D}{as bs:List Addr},P v d as->Q vs ds bs->Q (v::vs) (d::ds) (as++bs)) :
 (∀{v:V}{d:D}{as:List Addr},RT K H v d as->P v d as)/\∀{v:List V}{d:List D}{as:List Addr},RTs K H v d as->Q v d as:=
 ⟨λh=>RT.rec (motive_1:=λv d as _=>P v d as) (motive_2:=λv d as _=>Q v d as) c1 c2 c3 Z (λh _ q=>Y h q) (λh _ q=>W h q) (λh g=>O h g) J (λ_ _ a q=>B a q) h,
  λh=>RTs.rec (motive_1:=λv d as _=>P v d as) (motive_2:=λv d as _=>Q v d as) c1 c2 c3 Z (λh _ q=>Y h q) (λh _ q=>W h q) (λh g=>O h g) J (λ_ _ a q=>B a q) h⟩
theorem RT.ra2{ok:Ok}:(∀{v:V}{d:D}{as:List Addr},RT K H v d as->(∀a∈as,ok a)->RA K ok pl H v d)/\∀{v:List V}{d:List D}{as:List Addr},RTs K H v d as->(∀a∈as,ok a)->RAs K ok pl H v d:=
 RT.ind (λ_=>.non) (λb _=>.bl b) (λi _=>.int i) (λx _=>.str x) (λe q h=>.lst e (h _ ak) (q λa ha=>h a (au _ ha))) (λe q h=>.tup e (q h)) (λe g h=>.dic e g (h _ ak)) (λ_=>.nil) λe q h=>.cons (e λa ha=>h a (bN _ ha)) (q λa ha=>h a (bx _ ha))
theorem RT.ra{ok:Ok}(r:RT K H v d as)(h:∀a∈as,ok a):RA K ok pl H v d:=RT.ra2.1 r h
theorem RT.same2(s:Same H H'):(∀{v:V}{d:D}{as:List Addr},RT K H v d as->RT K H' v d as)/\∀{v:List V}{d:List D}{as:List Addr},RTs K H v d as->RTs K H' v d as:=
 RT.ind .non .bl .int .str (λe q=>.lst (s _ _ e) q) (λe q=>.tup (gQ.same s e) q) (λe g=>.dic (s _ _ e) (g.same s)) .nil .cons
theorem RT.same(s:Same H H'){v:V}{d:D}{as:List Addr}(h:RT K H v d as):RT K H' v d as:=(RT.same2 s).1 h
theorem RT.upd2[B:Chg u](h:H a=some u):(∀{v:V}{d:D}{as:List Addr},RT K H v d as->a∉as->RT K (upd H a o) v d as)/\∀{v:List V}{d:List D}{as:List Addr},RTs K H v d as->a∉as->RTs K (upd H a o) v d as:=
 RT.ind (λ_=>.non) (λb _=>.bl b) (λi _=>.int i) (λx _=>.str x) (λe q na=>.lst (by rwa[bF (λz=>na (by rw[<-z];exact ak))]) (q λz=>na (au _ z))) (λe q na=>.tup (gQ.upd h e) (q na)) (λe g na=>.dic (by rwa[bF (λz=>na (by rw[<-z];exact ak))]) (g.upd h)) (λ_=>.nil) λe q na=>.cons (e λz=>na (bN _ z)) (q λz=>na (bx _ z))
theorem RT.upd[B:Chg u](h:H a=some u){v:V}{d:D}{as:List Addr}(na:a∉as)(r:RT K H v d as):RT K (upd H a o) v d as:=(RT.upd2 h).1 r na
theorem RTs.upd[B:Chg u](h:H a=some u){v:List V}{d:List D}{as:List Addr}(na:a∉as)(r:RTs K H v d as):RTs K (upd H a o) v d as:=(RT.upd2 h).2 r na
theorem RT.chd2:(∀{v:V}{d:D}{as:List Addr},RT K H v d as->∀a∈as,Chd (H a))/\∀{v:List V}{d:List D}{as:List Addr},RTs K H v d as->∀a∈as,Chd (H a):=
 RT.ind (λ_ h=>by cases h) (λ_ _ h=>by cases h) (λ_ _ h=>by cases h) (λ_ _ h=>by cases h) (λe q a h=>by
  rcases aK.mp h with rfl|z
  ·exact⟨_,e,inferInstance⟩
  ·exact q a z) (λ_ q=>q) (λe g a h=>by rw[aJ.mp h];exact⟨_,e,g.chg⟩) (λ_ h=>by cases h) λe q a h=>by
  rcases bZ.mp h with z|z
  ·exact e a z
  ·exact q a z
theorem RT.chd(r:RT K H v d as):∀a∈as,Chd (H a):=RT.chd2.1 r
theorem RTs.chd{v:List V}{d:List D}(r:RTs K H v d as):∀a∈as,Chd (H a):=RT.chd2.2 r
theorem RT.tracked(h:RT K H v d as)(a:Addr)(ha:a∈as):H a≠none:=(h.chd a ha).ne
theorem RA.rt2{ok:Ok}:(∀{v:V}{d:D},RA K ok false H v d->∃as,RT K H v d as/\as.length=nl d/\∀a∈as,ok a)/\∀{v:List V}{d:List D},RAs K ok false H v d->∃as,RTs K H v d as/\as.length=nls d/\∀a∈as,ok a:=
 RA.ind ⟨[],.non,rfl,λ_ h=>by cases h⟩ (λb=>⟨[],.bl b,rfl,λ_ h=>by cases h⟩) (λi=>⟨[],.int i,rfl,λ_ h=>by cases h⟩) (λx=>⟨[],.str x,rfl,λ_ h=>by cases h⟩) (λe k q=>by
  obtain⟨as,h1,h2,Z⟩:=q;refine⟨_::as,.lst e h1,by rw[aR,h2,nl],λa ha=>?_⟩;rcases aK.mp ha with rfl|z
  ·exact k
  ·exact Z a z) (λ_ k _=>by cases k) (λe q=>by
  obtain⟨as,h1,h2,Z⟩:=q;exact⟨as,.tup e h1,by rw[h2,nl],Z⟩) (λe g k=>⟨[_],.dic e g,by simp[nl],λa ha=>by rwa[aJ.mp ha]⟩) (λ_ _ k=>by cases k) ⟨[],.nil,rfl,λ_ h=>by cases h⟩ λe q=>by
  obtain⟨as,h1,h2,Z⟩:=e;obtain⟨bs,g1,g2,g3⟩:=q;refine⟨as++bs,.cons h1 g1,by rw[bB,h2,g2,nls],λa ha=>?_⟩;rcases bZ.mp ha with z|z
  ·exact Z a z
  ·exact g3 a z
theorem RA.rt{ok:Ok}(h:RA K ok false H v d):∃as,RT K H v d as/\as.length=nl d/\∀a∈as,ok a:=RA.rt2.1 h
end
def tabs:List (Addr×Str×Pos):=[(128, "turns.<locals>.<lambda>", ⟨41,42,41,72⟩)]
def Tb(H:Hp):Prop:=∀t∈tabs,H t.1=some (.tbl t.2.1 t.2.2)
theorem Tb.same(t:Tb H)(s:Same H H'):Tb H':=λx Z=>s _ _ (t x Z)
structure Gh where
 H0:Hp
 HF:Hp
 pk:Nat->Option Addr
 pn:Nat->List Addr
 tb:Tb H0
structure Ow where
 s:Nat->Option Addr
 n:Nat->List Addr:=λ_=>[]
instance:CoeFun Ow (λ_=>Nat->Option Addr):=⟨Ow.s⟩
abbrev ow0:Ow:=⟨λ_=>none,λ_=>[]⟩
noncomputable def okA(ow:Ow):Ok:=λa=>(∀i,ow i≠some a)/\∀i,a∉ow.n i
structure Rel(K:PySem.W.Frag)(fl:List Fl)(G:Gh)(ow:Ow)(σ:St)(H:Hp)(δ:DS):Prop where
 s0:Same G.H0 G.HF
 s1:Same G.HF H
 len:σ.length=δ.length
 own:∀i a,ow i=some a->G.H0 a=none/\((fl[i]? = some .O/\G.HF a=none)\/(fl[i]? = some .L/\∃xs,G.HF a=some (.lst xs))) /\
  ∃xs ds,σ[i]? = some (some (.ref a))/\H a=some (.lst xs)/\RAs K (okA ow) true H xs ds/\δ[i]? = some (some (.d (.list ds)))
 inj:∀i j a,ow i=some a->ow j=some a->i=j
 pin:∀i,fl[i]? = some .L->ow i=G.pk i
 dat:∀i d,δ[i]? = some (some (.d d))->isN fl[i]? = false->ow i=none->∃v,σ[i]? = some (some v)/\RA K (okA ow) true H v d
 oo:∀i d,δ[i]? = some (some (.d d))->isN fl[i]? = false->fl[i]? ≠ some .A->ow i=none->flat d=true
 nt:∀i a,a∈ow.n i->G.H0 a=none/\Chd (H a)/\((fl[i]? = some .N/\G.HF a=none)\/fl[i]? = some .M)
 nd:∀i j a,a∈ow.n i->a∈ow.n j->i=j
 ns:∀i j a,a∈ow.n i->ow j≠some a
 np:∀i,fl[i]? = some .M->ow.n i=G.pn i
 nr:∀i d,isN fl[i]? = true->δ[i]? = some (some (.d d))->∃v,σ[i]? = some (some v)/\RT K H v d (ow.n i)/\(ow.n i).Nodup
theorem Rel.tb{fl:List Fl}{G:Gh}{ow:Ow}{σ:St}(R:Rel K fl G ow σ H δ):Tb H:=G.tb.same (R.s0.trans R.s1)
theorem Rel.same0{fl:List Fl}{G:Gh}{ow:Ow}{σ:St}(R:Rel K fl G ow σ H δ):Same G.H0 H:=R.s0.trans R.s1
theorem Rel.grow{fl:List Fl}{G:Gh}{ow:Ow}{σ:St}(R:Rel K fl G ow σ H δ)(e:Same H H'):Rel K fl G ow σ H' δ:=
 ⟨R.s0,R.s1.trans e,R.len,λi a h=>by
  obtain⟨V,X,xs,ds,h1,h2,Z,Y⟩:=R.own i a h;exact⟨V,X,xs,ds,h1,e _ _ h2,Z.same e,Y⟩,R.inj,R.pin,λi d h1 hn h2=>by
  obtain⟨v,Z,Y⟩:=R.dat i d h1 hn h2;exact⟨v,Z,Y.same e⟩,R.oo,λi a h=>by
  obtain⟨h1,h2,Z⟩:=R.nt i a h;exact⟨h1,(let⟨u,z,c⟩:=h2;⟨u,e _ _ z,c⟩),Z⟩,R.nd,R.ns,R.np,λi d h1 h2=>by
  obtain⟨v,Z,Y,W⟩:=R.nr i d h1 h2;exact⟨v,Z,Y.same e,W⟩⟩
inductive Kd where
 |P
 |B (L:List Nat)
 |A
 |R
 |F
 |C
 |FC
 |T
noncomputable def ok1:Ok:=λ_=>True
def ok0:Ok:=λ_=>False
def okN(H:Hp):Ok:=λa=>H a=none
def Rs(K:PySem.W.Frag)(H0:Hp)(ow:Ow)(Hb H:Hp):Kd->V->D->Prop
 | .P,v,d=>RA K ok1 true H v d
 | .B L,v,d=>RA K (okA ow) true H v d\/∃i∈L,∃a xs ds,ow i=some a/\v = .ref a/\d = .list ds/\H a=some (.lst xs)/\RAs K (okA ow) true H xs ds
 | .A,v,d=>RA K (okA ow) true H v d
 | .R,v,d=>RA K (okN H0) false H v d
 | .F,v,d=>(flat d=true/\RA K ok0 false H v d)\/∃a xs ds,v = .ref a/\d = .list ds/\Hb a=none/\H a=some (.lst xs)/\RAs K (λb=>okA ow b/\b≠a) true H xs ds
 | .C,v,d=>RA K (okN Hb) false H v d
 | .T,v,d=>∃as,RT K H v d as/\as.Nodup/\∀a∈as,Hb a=none
 | .FC,v,d=>(flat d=true/\RA K ok0 false H v d)\/∃a xs ds,v = .ref a/\d = .list ds/\Hb a=none/\H a=some (.lst xs)/\RAs K (λb=>okN Hb b/\b≠a) false H xs ds
section
variable{K:PySem.W.Frag}{Hb H H':Hp}{fl:List Fl}{G:Gh}{ow:Ow}{σ:St}{δ:DS}{v:V}{d:D}
theorem CG(R:Rel K fl G ow σ Hb δ){a:Addr}(h:Hb a=none):okA ow a:=⟨λi e=>(by
 obtain⟨_,_,xs,_,_,h2,_⟩:=R.own i a e;rw[h]at h2
 cases h2),λi e=>(R.nt i a e).2.1.ne h⟩
theorem ab1(R:Rel K fl G ow σ Hb δ){a:Addr}(h:Hb a=none):okN G.H0 a:=R.same0.free h
theorem Rs.FC_F(R:Rel K fl G ow σ Hb δ)(h:Rs K G.H0 ow Hb H .FC v d):Rs K G.H0 ow Hb H .F v d:=by
 rcases h with h|⟨a,xs,ds,h1,h2,X,Y,Z⟩
 ·exact .inl h
 ·exact .inr ⟨a,xs,ds,h1,h2,X,Y,Z.imp (λb z=>⟨CG R z.1,z.2⟩) (λ_=>rfl)⟩
theorem Rs.FC_C(h:Rs K G.H0 ow Hb H .FC v d):Rs K G.H0 ow Hb H .C v d:=by
 rcases h with h|⟨a,xs,ds,rfl,rfl,X,Y,Z⟩
 ·exact RA.flat h.1 h.2
 ·exact .lst Y X (Z.imp (λb z=>z.1) (λz=>z))
theorem Rs.F_A(R:Rel K fl G ow σ Hb δ)(h:Rs K G.H0 ow Hb H .F v d):Rs K G.H0 ow Hb H .A v d:=by
 rcases h with h|⟨a,xs,ds,rfl,rfl,X,Y,Z⟩
 ·exact RA.flat h.1 h.2
 ·exact .lst Y (CG R X) (Z.imp (λb z=>z.1) (λz=>z))
theorem Rs.C_A(R:Rel K fl G ow σ Hb δ)(h:Rs K G.H0 ow Hb H .C v d):Rs K G.H0 ow Hb H .A v d:=RA.imp (λ_ z=>CG R z) (λ_=>rfl) h
theorem Rs.C_R(R:Rel K fl G ow σ Hb δ)(h:Rs K G.H0 ow Hb H .C v d):Rs K G.H0 ow Hb H .R v d:=RA.imp (λ_ z=>ab1 R z) (λz=>z) h
theorem Rs.A_B(L:List Nat)(h:Rs K G.H0 ow Hb H .A v d):Rs K G.H0 ow Hb H (.B L) v d:=.inl h
theorem Rs.B_P(h:Rs K G.H0 ow Hb H (.B L) v d):Rs K G.H0 ow Hb H .P v d:=by
 rcases h with h|⟨i,_,a,xs,ds,_,rfl,rfl,Y,Z⟩
 ·exact RA.imp (λ_ _=>trivial) (λz=>z) h
 ·exact .lst Y trivial (Z.imp (λ_ _=>trivial) (λz=>z))
theorem Rs.P_flat(B:flat d=true)(h:Rs K G.H0 ow Hb H .P v d):Rs K G.H0 ow Hb H .FC v d:=.inl ⟨B,RA.flat B h⟩
end
noncomputable def tD(K:PySem.W.Frag)(fl:List Fl)(k:Kd)(f:FE):TE:=λσ H Q=>∃G ow δ d,Rel K fl G ow σ H δ/\f δ=some d/\∀v H',Same H H'->Rs K G.H0 ow H H' k v d->Q v H'
abbrev DE(X:Cx)(fl:List Fl)(k:Kd)(e:Expr)(f:FE):Prop:=PE X e (tD X.K fl k f)
def tDA(K:PySem.W.Frag)(fl:List Fl)(f:FA):TA:=λσ H Q=>∃G ow δ ds,Rel K fl G ow σ H δ/\f δ=some ds/\∀vs H',Same H H'->RAs K ok1 true H' vs ds->Q vs H'
abbrev DA(X:Cx)(fl:List Fl)(es:List Expr)(f:FA):Prop:=PA X es (tDA X.K fl f)
def tDT(K:PySem.W.Frag)(fl:List Fl)(f:FT):TT:=λσ H Q=>∃G ow δ b,Rel K fl G ow σ H δ/\f δ=some b/\∀H',Same H H'->Q b H'
abbrev DT(X:Cx)(fl:List Fl)(e:Expr)(f:FT):Prop:=PT X e (tDT X.K fl f)
abbrev DW(X:Cx)(fl:List Fl)(e:Expr)(f:FT):Prop:=PW X e (tDT X.K fl f)
def Iv(K:PySem.W.Frag)(fl:List Fl)(G:Gh)(Dn:Ends):Oc->Prop
 | .nx δ'=>∀Z σ' H',Rel K fl G Z σ' H' δ'->Dn.nx σ' H'
 | .rt d=>∀v H',Same G.H0 H'->RA K (okN G.H0) false H' v d->Dn.rt v H'
 | .bk δ'=>∀Z σ' H',Rel K fl G Z σ' H' δ'->Dn.bk σ' H'
 | .ct δ'=>∀Z σ' H',Rel K fl G Z σ' H' δ'->Dn.ct σ' H'
 | .ex _ _ d=>∀v H',Same G.H0 H'->RA K ok1 true H' v d->Dn.rt v H'
def tDS(K:PySem.W.Frag)(fl:List Fl)(f:FS):TS:=λDn σ H=>∃G ow δ o,Rel K fl G ow σ H δ/\f δ=some o/\Iv K fl G Dn o
abbrev DS1(X:Cx)(fl:List Fl)(s:hI)(f:FS):Prop:=PS X s (tDS X.K fl f)
abbrev DSs(X:Cx)(fl:List Fl)(s:List hI)(f:FS):Prop:=PSs X s (tDS X.K fl f)
def tDG(K:PySem.W.Frag)(fl:List Fl)(tg:List Nat)(g:FG):TG:=λv σ H Q=>∃G ow δ d δ',Rel K fl G ow σ H δ/\RA K (okA ow) true H v d/\g d δ=some δ'/\∀σ',Rel K fl G ow σ' H δ'->(∀j,j∉tg->σ'[j]? = σ[j]?)->Q σ' H
abbrev DG(X:Cx)(fl:List Fl)(tg:List Nat)(e:Expr)(g:FG):Prop:=PG X e (tDG X.K fl tg g)
section
variable{X:Cx}{e:Expr}{es:List Expr}{st:hI}{sts:List hI}
theorem PE.imp{t t':TE}(h:PE X e t)(i:∀σ H Q,t' σ H Q->t σ H Q):PE X e t':=λpins s σ H Q I q=>h pins s σ H Q I (i σ H Q q)
theorem PT.imp{t t':TT}(h:PT X e t)(i:∀σ H Q,t' σ H Q->t σ H Q):PT X e t':=λpins s σ H Q I q=>h pins s σ H Q I (i σ H Q q)
theorem PW.imp{t t':TT}(h:PW X e t)(i:∀σ H Q,t' σ H Q->t σ H Q):PW X e t':=λw pins s σ H Q I q=>h w pins s σ H Q I (i σ H Q q)
theorem PA.imp{t t':TA}(h:PA X es t)(i:∀σ H Q,t' σ H Q->t σ H Q):PA X es t':=λp pins s σ H Q I q=>h p pins s σ H Q I (i σ H Q q)
theorem PS.imp{t t':TS}(h:PS X st t)(i:∀D σ H,t' D σ H->t D σ H):PS X st t':=λpins s σ H D I q=>h pins s σ H D I (i D σ H q)
theorem PSs.imp{t t':TS}(h:PSs X sts t)(i:∀D σ H,t' D σ H->t D σ H):PSs X sts t':=λpins s σ H D I q=>h pins s σ H D I (i D σ H q)
theorem PG.imp{t t':TG}(h:PG X e t)(i:∀v σ H Q,t' v σ H Q->t v σ H Q):PG X e t':=λpins s σ H v u Q I r q=>h pins s σ H v u Q I r (i v σ H Q q)
end
end D3
namespace D3
open L2 My
section
variable{X:Cx}{fl:List Fl}{e a b c:Expr}{es:List Expr}{k:Kd}{f fa fb fc:FE}{pos:Pos}
theorem lY(h:aj i δ=some d):δ[i]? = some (some (.d d)):=by
 unfold aj at h;split at h
 ·next x e=>rw[e];cases h;rfl
 ·cases h
theorem rm(i:Nat){x:Str}(O:X.N[i]? = some x:=by rfl)(J:Vis X.env.scope x:=by first|exact f7 rfl|exact fF (f7 rfl)|exact fF (fF rfl))(hd:(x==("__debug__":Str))=false:=by decide)
 (D:(x==("__classdict__":Str))=false:=by decide) (hn:isN fl[i]? = false:=by rfl):DE X fl (.B [i]) (.Name x pos) (aj i):=by
 refine PE.imp (oM O J hd D) λσ H Q h=>?_
 refine D3.ex4 h λG ow δ d R W q=>?_
 have e:=lY W
 cases Z:ow i with
 |none=>
  obtain⟨v,h1,h2⟩:=R.dat i d e hn Z;exact⟨v,h1,q v H (Same.refl H) (.inl h2)⟩
 |some a=>
  obtain⟨U,_,xs,ds,h1,h2,V,Y⟩:=R.own i a Z;rw[e]at Y
  cases Y;exact⟨_,h1,q _ H (Same.refl H) (.inr ⟨i,aJ.mpr rfl,a,xs,ds,Z,rfl,rfl,h2,V⟩)⟩
theorem CJ(i:Nat)(B:fl[i]? = some .A){x:Str}(O:X.N[i]? = some x:=by rfl)(J:Vis X.env.scope x:=by first|exact f7 rfl|exact fF (f7 rfl)|exact fF (fF rfl))(hd:(x==("__debug__":Str))=false:=by decide)
 (D:(x==("__classdict__":Str))=false:=by decide):DE X fl .A (.Name x pos) (aj i):=by
 refine PE.imp (oM O J hd D) λσ H Q h=>?_
 refine D3.ex4 h λG ow δ d R W q=>?_
 have e:=lY W
 cases Y:ow i with
 |none=>
  obtain⟨v,h1,h2⟩:=R.dat i d e (by rw[B];rfl) Y;exact⟨v,h1,q v H (Same.refl H) h2⟩
 |some a=>
  obtain⟨V,Z,_⟩:=R.own i a Y;rw[B]at Z;rcases Z with⟨z,_⟩|⟨z,_⟩<;>cases z
theorem CK(i:Nat)(B:fl[i]? ≠ some .A){x:Str}(O:X.N[i]? = some x:=by rfl)(J:Vis X.env.scope x:=by first|exact f7 rfl|exact fF (f7 rfl)|exact fF (fF rfl))(hd:(x==("__debug__":Str))=false:=by decide)
 (D:(x==("__classdict__":Str))=false:=by decide) (hn:isN fl[i]? = false:=by rfl):DE X fl .R (.Name x pos) (Io (aj i)):=by
 refine PE.imp (oM O J hd D) λσ H Q h=>?_
 refine D3.ex4 h λG ow δ d R Z q=>?_
 unfold Io at Z
 cases Y:aj i δ with
 |none=>rw[Y]at Z;cases Z
 |some P=>
  rw[Y,aC]at Z;by_cases V:fl1 P=true
  ·rw[if_pos V]at Z
   cases Z;have e:=lY Y
   cases W:ow i with
   |none=>
    obtain⟨v,h1,h2⟩:=R.dat i d e hn W;exact⟨v,h1,q v H (Same.refl H) (RA.flat (R.oo i d e hn B W) h2)⟩
   |some a=>
    obtain⟨S,_,xs,ds,h1,h2,T,U⟩:=R.own i a W;rw[e]at U
    cases U;exact⟨_,h1,q _ H (Same.refl H) (.lst h2 S (RAs.flat V T))⟩
  ·rw[if_neg V]at Z
   cases Z
theorem o_{B:Kd}(h:DE X fl k e f)(J:∀(Hb H:Hp) (G:Gh) (ow:Ow) (σ:St) (δ:DS) (v:V) (d:D),Rel X.K fl G ow σ Hb δ->Rs X.K G.H0 ow Hb H k v d->Rs X.K G.H0 ow Hb H B v d):DE X fl B e f:=by
 refine PE.imp h λσ H Q h=>?_
 refine D3.ex4 h λG ow δ d R Z q=>?_
 exact⟨G,ow,δ,d,R,Z,λv H' s r=>q v H' s (J _ _ G ow σ δ v d R r)⟩
theorem FN{B:Kd}{p:D->Bool}(h:DE X fl k e f)(J:∀(Hb H:Hp) (G:Gh) (ow:Ow) (σ:St) (δ:DS) (v:V) (d:D),p d=true->Rel X.K fl G ow σ Hb δ->Rs X.K G.H0 ow Hb H k v d->Rs X.K G.H0 ow Hb H B v d):
 DE X fl B e (λδ=>(f δ).bind λd=>if p d=true then some d else none):=by
 refine PE.imp h λσ H Q h=>?_
 refine D3.ex4 h λG ow δ d R Z q=>?_
 dsimp only at Z
 cases Y:f δ with
 |none=>rw[Y]at Z;cases Z
 |some U=>
  rw[Y,aC]at Z;by_cases W:p U=true
  ·rw[if_pos W]at Z
   cases Z;exact⟨G,ow,δ,d,R,Y,λv H' s r=>q v H' s (J _ _ G ow σ δ v d W R r)⟩
  ·rw[if_neg W]at Z
   cases Z
theorem wF(h:DE X fl .FC e f):DE X fl .F e f:=o_ h λ_ _ _ _ _ _ _ _ R r=>r.FC_F R
theorem mO(h:DE X fl .FC e f):DE X fl .C e f:=o_ h λ_ _ _ _ _ _ _ _ R r=>r.FC_C
theorem oO(h:DE X fl .F e f):DE X fl .A e f:=o_ h λ_ _ _ _ _ _ _ _ R r=>r.F_A R
theorem pq(h:DE X fl .C e f):DE X fl .A e f:=o_ h λ_ _ _ _ _ _ _ _ R r=>r.C_A R
theorem xK(h:DE X fl .C e f):DE X fl .R e f:=o_ h λ_ _ _ _ _ _ _ _ R r=>r.C_R R
theorem lH(h:DE X fl .A e f):DE X fl (.B []) e f:=o_ h λ_ _ _ _ _ _ _ _ R r=>Rs.A_B [] r
theorem vq(h:DE X fl (.B L) e f):DE X fl .P e f:=o_ h λ_ _ _ _ _ _ _ _ R r=>r.B_P
theorem pJ(h:DE X fl .P e f):DE X fl .FC e (ji f):=FN h λ_ _ _ _ _ _ _ _ Z R r=>r.P_flat Z
theorem iy(h:DE X fl .FC e f):DE X fl .A e f:=oO (wF h)
theorem cY(h:DE X fl .FC e f):DE X fl .R e f:=xK (mO h)
theorem eG(h:DE X fl .A e f):DE X fl .P e f:=vq (lH h)
theorem jD(h:DE X fl .C e f):DE X fl .P e f:=eG (pq h)
theorem bw(h:DE X fl .FC e f):DE X fl .P e f:=eG (iy h)
theorem ab2(h:DE X fl .F e f):DE X fl .P e f:=eG (oO h)
theorem yX(h:PE X e (tC v))(D:flat d=true)(B:∀H,RA X.K ok0 false H v d):DE X fl .FC e (dC d):=by
 refine PE.imp h λσ H Q h=>?_
 refine D3.ex4 h λG ow δ Z R hd q=>?_
 cases hd;exact q v H (Same.refl H) (.inl ⟨D,B H⟩)
theorem CN{i j pos}:DE X fl .FC (.Constant (.int i) j pos) (dC (.int i)):=yX Xc rfl λ_=>.int _
theorem mH{b j pos}:DE X fl .FC (.Constant (.bool b) j pos) (dC (.bool b)):=yX Wq rfl λ_=>.bl _
theorem O5{j pos}:DE X fl .FC (.Constant .none j pos) (dC .none):=yX Xd rfl λ_=>.non
theorem yZ{x j pos}:DE X fl .FC (.Constant (.str x) j pos) (dC (.str x)):=yX Xe rfl λ_=>.str _
theorem CP{i:Int}(h:∃t,X.mg x=some (.int i t))(B:Gl X x:=by rfl)(hd:(x==("__debug__":Str))=false:=by decide):DE X fl .FC (.Name x pos) (dC (.int i)):=by
 obtain⟨t,h⟩:=h;exact yX (Tq (v:=.int i) B h ⟨t,rfl⟩ hd) rfl λ_=>.int _
def BrO(K:PySem.W.Frag)(r:R2)(g:D->D->Option D):Prop:=∀(H:Hp)(x y:V)(dx Z d:D)(Q:VK),RA K ok1 true H x dx->RA K ok1 true H y Z->g dx Z=some d->(∀v,flat d=true->RA K ok0 false H v d->Q v H)->r x y H Q
theorem zc{g:D->D->Option D}(h:dOp g fa fb δ=some d):∃x y,fa δ=some x/\fb δ=some y/\g x y=some d:=by
 unfold dOp at h
 cases ha:fa δ with
 |none=>rw[ha]at h;cases h
 |some x=>
  rw[ha,aC]at h
  cases Z:fb δ with
  |none=>rw[Z]at h;cases h
  |some y=>
   rw[Z,aC]at h;exact⟨x,y,rfl,rfl,h⟩
theorem bind1{α β:Type}{x:Option α}{g:α->Option β}{d:β}(h:x.bind g=some d):∃y,x=some y/\g y=some d:=by
 cases x with
 |none=>cases h
 |some y=>exact⟨y,rfl,h⟩
theorem wG{g:D->D->Option D}{σ:St}{Q:VK}(B:BrO X.K r g)(h:tD X.K fl .FC (dOp g fa fb) σ H Q):tOp r (tD X.K fl .P fa) (tD X.K fl .P fb) σ H Q:=by
 refine D3.ex4 h λG ow δ d R U q=>?_
 obtain⟨x,y,S,e2,T⟩:=zc U;refine⟨G,ow,δ,x,R,S,λv H1 s1 W=>⟨G,ow,δ,y,R.grow s1,e2,λu H2 s2 Y=>?_⟩⟩;exact B H2 v u x y d Q (RA.same s2 W) Y T λz V Z=>q z H2 (s1.trans s2) (.inl ⟨V,Z⟩)
theorem dH{op:Operator}{g:D->D->Option D}(B:OpR X (binaryOp op) r)(J:BrO X.K r g)(h1:DE X fl .P a fa)(h2:DE X fl .P b fb):DE X fl .FC (.BinOp a op b pos) (dOp g fa fb):=
 PE.imp (Oe B h1 h2) λ_ _ _ h=>wG J h
theorem pK{g:D->D->Option D}(B:OpR X (compareOp op) r)(J:BrO X.K r g)(h1:DE X fl .P a fa)(h2:DE X fl .P b fb)(hm:behindInMarks op b=false):DE X fl .FC (.Compare a [op] [b] pos) (dOp g fa fb):=
 PE.imp (TY B h1 h2 hm) λ_ _ _ h=>wG J h
theorem gB{g:D->D->Option D}(B:OpR X (compareOp op) r)(J:BrO X.K r g)(h1:DE X fl .P a fa)(h2:DE X fl .P b fb)(hm:behindInMarks op b=false):DT X fl (.Compare a [op] [b] pos) (bG (dOp g fa fb)):=by
 refine PT.imp (T3 B h1 h2 hm) λσ H Q h=>?_
 refine D3.ex4 h λG ow δ c R Z q=>?_
 refine D3.ex1 (bind1 Z) λd Y e2=>?_
 cases d<;>first|(cases e2;done)|skip
 cases e2;refine wG (fl:=fl) (fa:=fa) (fb:=fb) J ⟨G,ow,δ,_,R,Y,λv H' s r=>?_⟩;obtain rfl:=(Rs.FC_C r).blE;exact⟨_,rfl,q H' s⟩
theorem lZ(h:DE X fl .P e f)(B:∀whole,isTrue e X.env whole=(do let v <-whole;standAt e.pos;holding [v] (truthy v)):=by intro _;rfl):DT X fl e (bG f):=by
 refine PT.imp (Xg h B) λσ H Q h=>?_
 refine D3.ex4 h λG ow δ c R Z q=>?_
 refine D3.ex1 (bind1 Z) λd Y e2=>?_
 cases d<;>first|(cases e2;done)|skip
 cases e2;refine⟨G,ow,δ,_,R,Y,λv H' s r=>?_⟩;obtain rfl:=RA.blE r;exact⟨_,rfl,q H' s⟩
theorem Bu{h:Int->Int->V}{g:Int->Int->D}(J:∀i j,flat (g i j)=true)(B:∀H i j,RA K ok0 false H (h i j) (g i j)):BrO K (rI0 h) (gI λi j=>some (g i j)):=by
 intro H x y dx X d Q Y Z e q;unfold gI at e;split at e
 ·next i j=>
  cases e;exact⟨i,j,Y.intE,Z.intE,q _ (J i j) (B H i j)⟩
 ·cases e
theorem Uh{C:Int->Int->Prop}{h:Int->Int->V}{g:Int->Int->D}{c:Int->Int->Bool}(O:∀i j,c i j=true->C i j)(J:∀i j,flat (g i j)=true)(B:∀H i j,RA K ok0 false H (h i j) (g i j)):
 BrO K (rI C h) (gI λi j=>if c i j=true then some (g i j)else none):=by
 intro H x y dx X d Q Y Z e q;unfold gI at e;split at e
 ·next i j=>
  dsimp only at e;by_cases z:c i j=true
  ·rw[if_pos z]at e
   cases e;exact⟨i,j,Y.intE,Z.intE,O i j z,q _ (J i j) (B H i j)⟩
  ·rw[if_neg z]at e
   cases e
 ·cases e
end
section
variable{X:Cx}{K:PySem.W.Frag}
theorem Ui{i j:Int}(h:yR i j=true):IntMulOk i j:=by
 unfold yR at h;rw[nG,nG,aV]at h;rcases h with(h|h)|⟨h1,h2⟩
 ·exact IntMulOk.of_left (PySem.intBits_le_iff.mpr (of_decide_eq_true h))
 ·exact IntMulOk.of_right (PySem.intBits_le_iff.mpr (of_decide_eq_true h))
 ·exact PySem.IntMulOk.of_le (PySem.intBits_le_iff.mpr (of_decide_eq_true h1)) (PySem.intBits_le_iff.mpr (of_decide_eq_true h2)) (by decide)
theorem pA:OpR X (binaryOp .Mult) (rI (λi j=>yR i j=true) λi j=>.int (i*j)):=opI λ_ _ _ _ _ _ _ Z q=>mul_int q (Ui Z)
theorem JX:OpR X (binaryOp .FloorDiv) (rI (λi j=>Ir i j=true) λi j=>.int (i.fdiv j)):=opI λi j _ _ _ _ _ Z q=>by
 unfold Ir at Z;rw[aV]at Z;have h1:=of_decide_eq_true Z.1;have h2:=of_decide_eq_true Z.2;refine floordiv_int h1 q (.inl (PyProof.noPylong_of_log2 ?_));exact(Nat.log2_lt (by omega)).mpr h2
theorem Uj{i j:Int}(h:X5 i j=true):Xv i j:=by
 unfold X5 at h;rw[aV,aV]at h;have h1:=of_decide_eq_true h.1.1;have h2:=of_decide_eq_true h.1.2;exact⟨h1,by omega,of_decide_eq_true h.2⟩
theorem jf:BrO K (rI0 λi j=>.int (i+j)) eY:=Bu (λ_ _=>rfl) λ_ _ _=>.int _
theorem JZ:BrO K (rI0 λi j=>.int (i-j)) vg:=Bu (λ_ _=>rfl) λ_ _ _=>.int _
theorem xM:BrO K (rI (λi j=>yR i j=true) λi j=>.int (i*j)) uc:=Uh (λ_ _ h=>h) (λ_ _=>rfl) λ_ _ _=>.int _
theorem Wx:BrO K (rI (λi j=>Ir i j=true) λi j=>.int (i.fdiv j)) Fy:=Uh (λ_ _ h=>h) (λ_ _=>rfl) λ_ _ _=>.int _
theorem vC:BrO K (rI (λ_ j=>j≠0) λi j=>.int (i.fmod j)) uN:=Uh (λ_ _ h=>of_decide_eq_true h) (λ_ _=>rfl) λ_ _ _=>.int _
theorem ab3:BrO K (rI Xv λi j=>.int (i^j.toNat)) X6:=Uh (λ_ _ h=>Uj h) (λ_ _=>rfl) λ_ _ _=>.int _
theorem b_lt:BrO K (rI0 λi j=>.bl (decide (i<j))) gLt:=Bu (λ_ _=>rfl) λ_ _ _=>.bl _
theorem rA:BrO K (rI0 λi j=>.bl (decide (i<=j))) gLe:=Bu (λ_ _=>rfl) λ_ _ _=>.bl _
theorem Mp:BrO K (rI0 λi j=>.bl (decide (j<i))) gGt:=Bu (λ_ _=>rfl) λ_ _ _=>.bl _
theorem ak9:BrO K (rI0 λi j=>.bl (decide (j<=i))) gGe:=Bu (λ_ _=>rfl) λ_ _ _=>.bl _
theorem zf:BrO K (aa5 K) gEq:=by
 intro H x y dx Z d Q X Y e q;unfold gEq at e;by_cases z:(fN dx&&fN Z)=true
 ·rw[if_pos z]at e
  cases e;rw[aV]at z;exact⟨dx,Z,X.rd (bp z.1),Y.rd (bp z.2),z.1,z.2,q _ rfl (.bl _)⟩
 ·rw[if_neg z]at e
  cases e
theorem Iw:BrO K (aa6 K) gNe:=by
 intro H x y dx Z d Q X Y e q;unfold gNe at e;by_cases z:(fN dx&&fN Z)=true
 ·rw[if_pos z]at e
  cases e;rw[aV]at z;exact⟨dx,Z,X.rd (bp z.1),Y.rd (bp z.2),z.1,z.2,q _ rfl (.bl _)⟩
 ·rw[if_neg z]at e
  cases e
end
end D3
variable{G:D3.Gh}{ow:D3.Ow}
namespace D3
open L2 My
section
variable{X:Cx}{fl:List Fl}{e a b c:Expr}{es:List Expr}{st:hI}{sts body orelse:List hI}{k:Kd}{f fa fb fc:FE}{fs gs:FS}{ft gt:FT}{pos:Pos}
theorem Iv.nx_imp{Dn:Ends}{N:St->Hp->Prop}{o:Oc}(h:Iv K fl G Dn o)(hn:∀δ',o ≠ .nx δ'):Iv K fl G {Dn with nx:=N} o:=by
 cases o with
 |nx δ'=>exact absurd rfl (hn δ')
 |rt d=>exact h
 |bk δ'=>exact h
 |ct δ'=>exact h
 |ex c f v=>exact h
theorem dU:DSs X fl [] dB:=PSs.imp Tv λDn σ H h=>by
 refine D3.ex4 h λG ow δ o R Z q=>?_
 cases Z;exact q ow σ H R
theorem bh(h1:DS1 X fl st fs)(h2:DSs X fl sts gs):DSs X fl (st::sts) (bU fs gs):=PSs.imp (N6 h1 h2) λDn σ H h=>by
 refine D3.ex4 h λG ow δ o R W q=>?_
 refine D3.ex1 (bind1 W) λY V e2=>?_
 refine⟨G,ow,δ,Y,R,V,?_⟩
 cases Y with
 |nx δ'=>exact λZ σ' H' R'=>⟨G,Z,δ',o,R',e2,q⟩
 |rt d=>cases e2;exact Iv.nx_imp q (λ_ z=>by cases z)
 |bk d=>cases e2;exact Iv.nx_imp q (λ_ z=>by cases z)
 |ct d=>cases e2;exact Iv.nx_imp q (λ_ z=>by cases z)
 |ex c f v=>cases e2;exact q
theorem bA(h1:DS1 X fl st fs):DSs X fl [st] fs:=PSs.imp (Tw h1) λ_ _ _ h=>h
theorem cJ(h:DE X fl .R e f):DS1 X fl (.Return (some e) pos) (dh f):=PS.imp (N7 h) λDn σ H h=>by
 refine D3.ex4 h λG ow δ o R Z q=>?_
 refine D3.ex1 (bind1 Z) λd Y e2=>?_
 cases e2;exact⟨G,ow,δ,d,R,Y,λv H' s r=>q v H' (R.same0.trans s) r⟩
theorem J0(h:DE X fl .P e f)(hs:swapsWith e none pos.line X.env=pure false:=by rfl):DS1 X fl (.Expr e pos) (Fw f):=PS.imp (vf h hs) λDn σ H h=>by
 refine D3.ex4 h λG ow δ o R Z q=>?_
 refine D3.ex1 (bind1 Z) λd Y e2=>?_
 cases e2;exact⟨G,ow,δ,d,R,Y,λv H' s r=>q ow σ H' (R.grow s)⟩
theorem iU(B:DT X fl c ft)(h1:DSs X fl body fs)(h2:DSs X fl orelse gs):DS1 X fl (.If c body orelse pos) (sIf ft fs gs):=PS.imp (Z1 B h1 h2) λDn σ H h=>by
 refine D3.ex4 h λG ow δ o R Z q=>?_
 refine D3.ex1 (bind1 Z) λt Y e2=>?_
 refine⟨G,ow,δ,t,R,Y,λH' s=>?_⟩
 cases t with
 |true=>exact Ax ⟨G,ow,δ,o,R.grow s,e2,q⟩
 |false=>exact Aw ⟨G,ow,δ,o,R.grow s,e2,q⟩
theorem iG{α:Type}{l:List (Option α)}{x y:α}(h:(l.set i (some x))[j]? = some (some y)):(j=i/\x=y)\/(j≠i/\l[j]? = some (some y)):=by
 rw[oZ]at h;by_cases e:i=j
 ·subst e;rw[if_pos rfl]at h;by_cases z:i<l.length
  ·rw[if_pos z]at h
   cases h;exact .inl ⟨rfl,rfl⟩
  ·rw[if_neg z]at h
   cases h
 ·rw[if_neg e]at h;exact .inr ⟨λz=>e z.symm,h⟩
theorem Rel.qw{σ:St}(R:Rel K fl G ow σ H δ)(B:fl[i]? = some .A)(hi:i<σ.length)(r:RA K (okA ow) true H v d):
 Rel K fl G ow (σ.set i (some v)) H (δ.set i (some (.d d))):=by
 have T:∀a,ow i≠some a:=λa z=>by
  obtain⟨_,U,_⟩:=R.own i a z;rw[B]at U;rcases U with⟨z,_⟩|⟨z,_⟩<;>cases z
 refine⟨R.s0,R.s1,by rw[dg,dg];exact R.len,λj a h=>?_,R.inj,R.pin,λj X h1 hn h2=>?_,λj X h1 hn h2 Y=>?_,R.nt,R.nd,R.ns,R.np,λj X hn h1=>?_⟩
 ·have Z:j≠i:=λz=>T a (z▸h)
  obtain⟨Q,S,xs,ds,h1,h2,Y,W⟩:=R.own j a h;exact⟨Q,S,xs,ds,by rwa[bD (fA Z)],h2,Y,by rwa[bD (fA Z)]⟩
 ·rcases iG h1 with⟨rfl,e⟩|⟨Z,e⟩
  ·cases e;exact⟨v,by rw[dw hi],r⟩
  ·obtain⟨V,Y,W⟩:=R.dat j X e hn h2;exact⟨V,by rwa[bD (fA Z)],W⟩
 ·rcases iG h1 with⟨rfl,e⟩|⟨Z,e⟩
  ·exact absurd B h2
  ·exact R.oo j X e hn h2 Y
 ·rcases iG h1 with⟨rfl,e⟩|⟨Z,e⟩
  ·rw[B]at hn;cases hn
  ·obtain⟨V,Y,W⟩:=R.nr j X hn e;exact⟨V,by rwa[bD (fA Z)],W⟩
def xO(ow:Ow)(i:Nat)(a:Option Addr):Ow:=⟨λj=>if j=i then a else ow j,ow.n⟩
theorem jE{a:Option Addr}:xO ow i a i=a:=if_pos rfl
theorem gC{a:Option Addr}(h:j≠i):xO ow i a j=ow j:=if_neg h
theorem Rel.setO{σ:St}(R:Rel K fl G ow σ H δ)(s:Same H H')(B:fl[i]? = some .O)(hi:i<σ.length)(r:Rs K G.H0 ow H H' .F v d):
 ∃J,Rel K fl G J (σ.set i (some v)) H' (δ.set i (some (.d d))):=by
 have R':=R.grow s;have T:∀b,okA ow b->okA (xO ow i none) b:=λb z=>⟨λj e=>by
  by_cases Z:j=i
  ·subst Z;rw[jE]at e;cases e
  ·rw[gC Z]at e;exact z.1 j e,z.2⟩
 have P:∀j W,isN fl[j]? = true->(δ.set i (some (.d d)))[j]? = some (some (.d W))->∃U,(σ.set i (some v))[j]? = some (some U)/\RT K H' U W (ow.n j)/\(ow.n j).Nodup:=λj W hn h1=>by
  rcases iG h1 with⟨rfl,e⟩|⟨Z,e⟩
  ·rw[B]at hn;cases hn
  ·obtain⟨U,X,Q⟩:=R'.nr j W hn e;exact⟨U,by rwa[bD (fA Z)],Q⟩
 rcases r with⟨N,r⟩|⟨a,xs,ds,rfl,rfl,ha,E,C⟩
 ·refine⟨xO ow i none,R'.s0,R'.s1,by rw[dg,dg];exact R.len,λj a h=>?_,λj j' a h h'=>?_,λj h=>?_,λj W h1 hn h2=>?_,λj W h1 hn h2 X=>?_,R'.nt,R'.nd,λj j' a h h'=>?_,R'.np,P⟩
  ·have Z:j≠i:=λz=>by subst z;rw[jE]at h;cases h
   rw[gC Z]at h;obtain⟨L,M,xs,ds,h1,h2,X,Q⟩:=R'.own j a h;exact⟨L,M,xs,ds,by rwa[bD (fA Z)],h2,X.imp T (λz=>z),by rwa[bD (fA Z)]⟩
  ·have Z:j≠i:=λz=>by subst z;rw[jE]at h;cases h
   have Y:j'≠i:=λz=>by subst z;rw[jE]at h';cases h'
   rw[gC Z]at h;rw[gC Y]at h';exact R.inj j j' a h h'
  ·have Z:j≠i:=λz=>by subst z;rw[B]at h;cases h
   rw[gC Z];exact R.pin j h
  ·rcases iG h1 with⟨rfl,e⟩|⟨Z,e⟩
   ·cases e;exact⟨v,by rw[dw hi],RA.flat N r⟩
   ·rw[gC Z]at h2;obtain⟨U,X,Q⟩:=R'.dat j W e hn h2;exact⟨U,by rwa[bD (fA Z)],Q.imp T (λz=>z)⟩
  ·rcases iG h1 with⟨rfl,e⟩|⟨Z,e⟩
   ·cases e;exact N
   ·rw[gC Z]at X;exact R.oo j W e hn h2 X
  ·by_cases Z:j'=i
   ·subst Z;rw[jE]at h';cases h'
   ·rw[gC Z]at h';exact R.ns j j' a h h'
 ·have sub:∀b,okA ow b/\b≠a->okA (xO ow i (some a)) b:=λb z=>⟨λj e=>by
   by_cases Z:j=i
   ·subst Z;rw[jE]at e;exact z.2 (cO.inj e).symm
   ·rw[gC Z]at e;exact z.1.1 j e,z.1.2⟩
  have old:∀{v:V}{d:D},RA K (okA ow) true H v d->RA K (okA (xO ow i (some a))) true H' v d:=λr=>(r.track.imp (λb z=>sub b ⟨z.1,λe=>z.2 (e▸ha)⟩) (λz=>z)).same s
  have olds:∀{v:List V}{d:List D},RAs K (okA ow) true H v d->RAs K (okA (xO ow i (some a))) true H' v d:=λr=>(r.track.imp (λb z=>sub b ⟨z.1,λe=>z.2 (e▸ha)⟩) (λz=>z)).same s
  have S:∀j,ow j≠some a:=λj z=>by
   obtain⟨_,_,_,_,_,h2,_⟩:=R.own j a z;rw[ha]at h2
   cases h2
  have A:=R.s1.free ha;refine⟨xO ow i (some a),R'.s0,R'.s1,by rw[dg,dg];exact R.len,λj b h=>?_,λj j' b h h'=>?_,λj h=>?_,λj W h1 hn h2=>?_,λj W h1 hn h2 X=>?_,R'.nt,R'.nd,λj j' b h h'=>?_,R'.np,P⟩
  ·by_cases Z:j=i
   ·subst Z;rw[jE]at h
    cases h;exact⟨R.same0.free ha,.inl ⟨B,A⟩,xs,ds,by rw[dw hi],E,C.imp sub (λz=>z),by rw[dw (by rwa[<-R.len])]⟩
   ·rw[gC Z]at h;obtain⟨L,M,ys,I,h1,h2,X,Q⟩:=R.own j b h;exact⟨L,M,ys,I,by rw[bD (fA Z)];exact h1,s _ _ h2,olds X,by rw[bD (fA Z)];exact Q⟩
  ·by_cases Z:j=i
   ·by_cases Y:j'=i
    ·rw[Z,Y]
    ·subst Z;rw[jE]at h
     cases h;rw[gC Y]at h';exact absurd h' (S j')
   ·rw[gC Z]at h;by_cases Y:j'=i
    ·subst Y;rw[jE]at h'
     cases h';exact absurd h (S j)
    ·rw[gC Y]at h';exact R.inj j j' b h h'
  ·have Z:j≠i:=λz=>by subst z;rw[B]at h;cases h
   rw[gC Z];exact R.pin j h
  ·rcases iG h1 with⟨rfl,e⟩|⟨Z,e⟩
   ·rw[jE]at h2;cases h2
   ·rw[gC Z]at h2;obtain⟨U,X,Q⟩:=R.dat j W e hn h2;exact⟨U,by rw[bD (fA Z)];exact X,old Q⟩
  ·rcases iG h1 with⟨rfl,e⟩|⟨Z,e⟩
   ·rw[jE]at X;cases X
   ·rw[gC Z]at X;exact R.oo j W e hn h2 X
  ·by_cases Z:j'=i
   ·subst Z;rw[jE]at h'
    cases h';exact(R.nt j a h).2.1.ne ha
   ·rw[gC Z]at h';exact R.ns j j' b h h'
theorem Rel.mut{σ:St}{a:Addr}{ys:List V}(R:Rel K fl G ow σ H δ)(D:fl[i]? = some .O)(B:ow i=some a)(r:RAs K (okA ow) true H ys ds):
 Rel K fl G ow σ (upd H a (.lst ys)) (δ.set i (some (.d (.list ds)))):=by
 obtain⟨I,N,xs,E,F,e2,C,M⟩:=R.own i a B;have na:¬okA ow a:=λz=>z.1 i B
 have L:G.HF a=none:=by
  rcases N with⟨_,z⟩|⟨z,_⟩
  ·exact z
  ·rw[D]at z;cases z
 have hi:i<δ.length:=by
  rcases dM i δ.length with z|z
  ·exact z
  ·rw[aZ z]at M;cases M
 refine⟨R.s0,λb o Y=>?_,by rw[dg];exact R.len,λj b h=>?_,R.inj,R.pin,λj W h1 hn h2=>?_,λj W h1 hn h2 Z=>?_,λj b h=>?_,R.nd,R.ns,R.np,λj W hn h1=>?_⟩
 ·rw[bF (λz=>by subst z;rw[L]at Y;cases Y)];exact R.s1 b o Y
 ·by_cases X:j=i
  ·subst X;rw[B]at h
   cases h;exact⟨I,N,ys,ds,F,bT,r.upd e2 na,by rw[dw hi]⟩
  ·obtain⟨Q,S,zs,P,h1,h2,Z,U⟩:=R.own j b h;have Y:b≠a:=λz=>X (R.inj j i a (z▸h) B)
   exact⟨Q,S,zs,P,h1,by rwa[bF Y],Z.upd e2 na,by rwa[bD (fA X)]⟩
 ·rcases iG h1 with⟨rfl,e⟩|⟨X,e⟩
  ·rw[B]at h2;cases h2
  ·obtain⟨T,Z,U⟩:=R.dat j W e hn h2;exact⟨T,Z,U.upd e2 na⟩
 ·rcases iG h1 with⟨rfl,e⟩|⟨X,e⟩
  ·rw[B]at Z;cases Z
  ·exact R.oo j W e hn h2 Z
 ·obtain⟨g1,g2,g3⟩:=R.nt j b h;refine⟨g1,?_,g3⟩;by_cases Y:b=a
  ·rw[Y,bT];exact⟨_,rfl,inferInstance⟩
  ·rwa[bF Y]
 ·rcases iG h1 with⟨rfl,e⟩|⟨X,e⟩
  ·rw[D]at hn;cases hn
  ·obtain⟨T,Z,U,J⟩:=R.nr j W hn e;exact⟨T,Z,U.upd e2 (λz=>R.ns j i a z B),J⟩
theorem vD{σ:St}(R:Rel K fl G ow σ H δ)(h:i<δ.length):i<σ.length:=by rwa[R.len]
theorem Uk(D:fl[i]? = some .A)(O:X.N.Nodup)(hi:X.N[i]? = some x)(J:X.env.scope.names.lookup x=some .local\/X.env.scope.names.lookup x=some .cell)(h:DE X fl .A e f)
 (hs:swapsWith e (some (.Name x pos')) pos.line X.env=pure false:=by rfl) (B:X.fn x=true\/X.env.scope.names.lookup x=some .local:=by first|exact .inl rfl|exact .inr rfl) :
 DS1 X fl (.Assign [.Name x pos'] e pos) (bO i f):=PS.imp (Ia (i:=i) O hi J h hs B) λDn σ H h=>by
 refine D3.ex4 h λG ow δ o R Z q=>?_
 unfold bO at Z;by_cases Y:i<δ.length
 ·rw[if_pos Y]at Z;refine D3.ex1 (bind1 Z) λd W e2=>?_
  cases e2;exact⟨G,ow,δ,d,R,W,λv H' s r=>q ow _ H' ((R.grow s).qw D (vD R Y) r)⟩
 ·rw[if_neg Y]at Z
  cases Z
theorem vG(D:fl[i]? = some .O)(hN:X.N.Nodup)(hi:X.N[i]? = some x)(J:X.env.scope.names.lookup x=some .local\/X.env.scope.names.lookup x=some .cell)(h:DE X fl .F e f)
 (hs:swapsWith e (some (.Name x pos')) pos.line X.env=pure false:=by rfl) (B:X.fn x=true\/X.env.scope.names.lookup x=some .local:=by first|exact .inl rfl|exact .inr rfl) :
 DS1 X fl (.Assign [.Name x pos'] e pos) (bO i f):=PS.imp (Ia (i:=i) hN hi J h hs B) λDn σ H h=>by
 refine D3.ex4 h λG ow δ o R Z q=>?_
 unfold bO at Z;by_cases W:i<δ.length
 ·rw[if_pos W]at Z;refine D3.ex1 (bind1 Z) λd V e2=>?_
  cases e2;refine⟨G,ow,δ,d,R,V,λv H' s r=>?_⟩;obtain⟨Y,R'⟩:=R.setO s D (vD R W) r;exact q Y _ H' R'
 ·rw[if_neg W]at Z
  cases Z
theorem Ul(D:fl[i]? = some .A)(O:X.N.Nodup)(hi:X.N[i]? = some x)(J:X.env.scope.names.lookup x=some .local\/X.env.scope.names.lookup x=some .cell)
 (B:X.fn x=true\/X.env.scope.names.lookup x=some .local:=by first|exact .inl rfl|exact .inr rfl):DG X fl [i] (.Name x pos) (gNl i):=
 PG.imp (TF (i:=i) O hi J B) λv σ H Q h=>by
 obtain⟨G,ow,δ,d,δ',R,r,Z,q⟩:=h;unfold gNl at Z;by_cases Y:i<δ.length
 ·rw[if_pos Y]at Z
  cases Z;exact q _ (R.qw D (vD R Y) r) λj W=>bD (λz=>W (by rw[z];exact aJ.mpr rfl))
 ·rw[if_neg Y]at Z
  cases Z
def al0(K:PySem.W.Frag)(fl:List Fl)(tg:List Nat)(g:List D->DS->Option DS):TGs:=λvs σ H Q=>∃G ow δ ds δ',Rel K fl G ow σ H δ/\RAs K (okA ow) true H vs ds/\g ds δ=some δ'/\∀σ',Rel K fl G ow σ' H δ'->(∀j,j∉tg->σ'[j]? = σ[j]?)->Q σ' H
theorem PGs.imp{t t':TGs}(h:PGs X es t)(i:∀v σ H Q,t' v σ H Q->t v σ H Q):PGs X es t':=λpins s σ H v u Q I r q=>h pins s σ H v u Q I r (i v σ H Q q)
abbrev DGs(X:Cx)(fl:List Fl)(tg:List Nat)(es:List Expr)(g:List D->DS->Option DS):Prop:=PGs X es (al0 X.K fl tg g)
theorem pB:DGs X fl [] [] iT:=PGs.imp TJ λvs σ H Q h=>by
 obtain⟨G,ow,δ,ds,δ',R,r,Z,q⟩:=h
 cases r with
 |nil=>cases Z;exact⟨rfl,q σ R λ_ _=>rfl⟩
 |cons _ _=>cases Z
theorem fO{tg B:List Nat}{g:FG}{gs:List D->DS->Option DS}(h1:DG X fl tg e g)(h2:DGs X fl B es gs)(hs:(assignEach (e::es) X.env).map (·.2)=assign e X.env::(assignEach es X.env).map (·.2):=by rfl):
 DGs X fl (tg++B) (e::es) (cg g gs):=PGs.imp (Oa h1 h2 hs) λvs σ H Q h=>by
 obtain⟨G,ow,δ,ds,δ',R,r,U,q⟩:=h
 cases r with
 |nil=>cases U
 |cons S T=>
  refine D3.ex1 (bind1 U) λY P e2=>?_
  refine⟨_,_,rfl,G,ow,δ,_,Y,R,S,P,λσ' R' k1=>⟨G,ow,Y,_,δ',R',T,e2,λZ W k2=>q Z W λj V=>?_⟩⟩;rw[k2 j λz=>V (bx _ z),k1 j λz=>V (bN _ z)]
theorem sH{tg:List Nat}{gs:List D->DS->Option DS}{k:Nat}(J:X.calm=true)(h:DGs X fl tg es gs)(hn:(assignEach es X.env).length=n:=by rfl)(B:(assignEach es X.env).findIdx? (·.1)=none:=by rfl):
 DG X fl tg (.Tuple es k pos) (gTn n gs):=PG.imp (Xp (n:=n) J h hn B) λv σ H Q h=>by
 obtain⟨G,ow,δ,d,δ',R,r,Z,q⟩:=h;unfold gTn at Z;split at Z
 ·next l=>
  by_cases z:l.length=n
  ·rw[if_pos z]at Z;obtain⟨a,xs,rfl,W,Y⟩:=r.tupE;exact⟨a,xs,rfl,W,by rwa[Y.length],G,ow,δ,l,δ',R,Y,Z,q⟩
  ·rw[if_neg z]at Z
   cases Z
 ·cases Z
theorem O6{tg:List Nat}{g:FG}{t:Expr}(h:DE X fl .A e f)(B:DG X fl tg t g)(hs:swapsWithSole [t] e pos.line X.env=pure false:=by rfl)(hw:swappedStores [t] e X.env=pure none:=by rfl)
 (h1:(assignEach [t] X.env).map (·.2)=[assign t X.env]:=by rfl):DS1 X fl (.Assign [t] e pos) (Fx f g):=PS.imp (H_ h B hs hw h1) λDn σ H h=>by
 refine D3.ex4 h λG ow δ o R Z q=>?_
 refine D3.ex1 (bind1 Z) λd V e2=>?_
 refine D3.ex1 (bind1 e2) λδ' W Y=>?_
 cases Y;exact⟨G,ow,δ,d,R,V,λv H' s r=>⟨G,ow,δ,d,δ',R.grow s,r,W,λσ' R' _=>q ow σ' H' R'⟩⟩
end
end D3
variable{l:List D3.D}{vpos apos cpos:Pos}{fk:D3.FE}{Hb:L2.Hp}{fa:D3.FA}{δ':D3.DS}
namespace D3
open L2 My
section
variable{X:Cx}{fl:List Fl}{e a b c:Expr}{es:List Expr}{st:hI}{sts body orelse:List hI}{k:Kd}{f fa fb fc:FE}{fs gs:FS}{ft gt:FT}{pos:Pos}
theorem O7{σ:St}(R:Rel K fl G ow σ H δ)(B:fl[i]? = some .O)(h:aj i δ=some (.list l)):
 ∃a xs,ow i=some a/\σ[i]? = some (some (.ref a))/\H a=some (.lst xs)/\RAs K (okA ow) true H xs l:=by
 have e:=lY h
 cases Z:ow i with
 |none=>
  have z:=R.oo i _ e (by rw[B];rfl) (by rw[B];simp) Z;simp[flat]at z
 |some a=>
  obtain⟨W,_,xs,ds,h1,h2,X,Y⟩:=R.own i a Z;rw[e]at Y
  cases Y;exact⟨a,xs,rfl,h1,h2,X⟩
theorem tG(Y:fl[i]? = some .O)(h:DE X fl .A e f)(hN:X.N[i]? = some x)(hv:Vis X.env.scope x:=by first|exact f7 rfl|exact fF (f7 rfl)|exact fF (fF rfl))(hd:(x==("__debug__":Str))=false:=by decide)
 (hcd:(x==("__classdict__":Str))=false:=by decide)
 (hs:swapsWith (.Call (.Attribute (.Name x vpos) "append" apos) [e] [] cpos) none pos.line X.env=pure false:=by rfl)
 (J:attributeBase (.Name x vpos) "append" X.env (eval (.Name x vpos) X.env)=eval (.Name x vpos) X.env:=by rfl)
 (hfew:((backTo cpos (starEach [e] X.env)).all (λx=>!x.1)&&(backToKw cpos (keywordEach [] X.env)).all (λx=>x.1.isSome)
  && decide (([e]:List Expr).length+([]:List h8).length+(if([]:List h8).isEmpty then 0 else 1)<30))=true:=by rfl)
 (D:(apos.endLine==cpos.line)=true:=by rfl) (W:starEach [e] X.env=(false,eval e X.env)::starEach [] X.env:=by rfl) (B:(backTo cpos (starEach [] X.env)).any (·.1)=false:=by rfl) :
 DS1 X fl (.Expr (.Call (.Attribute (.Name x vpos) "append" apos) [e] [] cpos) pos) (rT i f):=
 PS.imp (vf (Wu PySem.F.plainAttrs_list PySem.F.slot_list_append PySem.F.type_list_append wC (oM hN hv hd hcd) (jx h nJ W) J hfew D W B) hs) λDn σ H h=>by
 refine D3.ex4 h λG ow δ o R Z q=>?_
 refine D3.ex1 (bind1 Z) λx P T=>?_
 refine D3.ex1 (bind1 T) λd e2 U=>?_
 have Z:=U;split at Z
 case h_2=>cases Z
 next l=>
 by_cases V:l.length<1000000
 ·rw[if_pos V]at Z
  cases Z;obtain⟨a,xs,Q,h1,h2,S⟩:=O7 R Y P;refine⟨_,h1,.inl ⟨rfl,_,SqL.of h2⟩,G,ow,δ,d,R,e2,λv H' s r=>?_⟩;have R':=R.grow s;refine⟨a,xs,v,rfl,rfl,s _ _ h2,by rw[S.length];exact lN V (by decide),?_⟩;exact q ow σ _ (R'.mut Y Q ((S.same s).append (.cons r .nil)))
 ·rw[if_neg V]at Z
  cases Z
theorem X7{ke:Expr}(B:fl[i]? = some .O)(h:DE X fl .A e f)(hk:DE X fl .P ke fk)(hN:X.N[i]? = some x)(hv:Vis X.env.scope x:=by first|exact f7 rfl|exact fF (f7 rfl)|exact fF (fF rfl))(hd:(x==("__debug__":Str))=false:=by decide)
 (hcd:(x==("__classdict__":Str))=false:=by decide) (ha:∀v,assign (.Subscript (.Name x vpos) ke spos) X.env v=(do
  let D <-holding [v] (eval (.Name x vpos) X.env)
  let J <-holding [v,D] (eval ke X.env)
  standAt spos
  holding [v,D,J] (setItem D J v)
  release [v,D,J] []):=by intro _;rfl)
 (hs:swapsWithSole [.Subscript (.Name x vpos) ke spos] e pos.line X.env=pure false:=by rfl) (hw:swappedStores [.Subscript (.Name x vpos) ke spos] e X.env=pure none:=by rfl)
 (h1:(assignEach [.Subscript (.Name x vpos) ke spos] X.env).map (·.2)=[assign (.Subscript (.Name x vpos) ke spos) X.env]:=by rfl) :
 DS1 X fl (.Assign [.Subscript (.Name x vpos) ke spos] e pos) (Cy i fk f):=
 PS.imp (H_ h (Ob (oM hN hv hd hcd) hk set_list ha) hs hw h1) λDn σ H h=>by
 refine D3.ex4 h λG ow δ o R Z q=>?_
 refine D3.ex1 (bind1 Z) λd e2 V=>?_
 refine D3.ex1 (bind1 V) λx L W=>?_
 refine D3.ex1 (bind1 W) λk M Y=>?_
 have Z:=Y;split at Z
 case h_2=>cases Z
 next l j=>
 refine D3.ex1 (bind1 Z) λn K Q=>?_
 cases Q;obtain⟨a,xs,S,h1,h2,U⟩:=O7 R B L;refine⟨G,ow,δ,d,R,e2,λv H' s r=>⟨_,h1,G,ow,δ,_,R.grow s,M,λu H2 s2 T=>?_⟩⟩;obtain rfl:=RA.intE T;have R2:=R.grow (s.trans s2);refine⟨a,xs,j,n,rfl,rfl,(s.trans s2) _ _ h2,by rwa[U.length],?_⟩;exact q ow σ _ (R2.mut B S (RAs.set (RA.same s2 r) n (U.same (s.trans s2))))
def Wy(K:PySem.W.Frag)(ow:Ow)(L:List Nat)(H1:Hp)(J:It)(l:List D):Prop:=∀H2:Hp,(∀b o,H1 b=some o->(∀i,ow i=some b->i∈L)->(∀i,b∉ow.n i)->H2 b=some o)->∀i:Nat,
 (∀d,l[i]? = some d->J.go i H2/\∀x Z,J.yld i H2 x Z->Same H2 Z/\RA K (λb=>okA ow b/\H1 b≠none) true Z x d)/\(l.length<=i->J.stop i H2)
noncomputable def tDI(K:PySem.W.Frag)(fl:List Fl)(L:List Nat)(fi:FA):TI:=λσ H R'=>∃G ow δ l,Rel K fl G ow σ H δ/\fi δ=some l/\∀J H1,Same H H1->Wy K ow L H1 J l->R' J H1
abbrev DI(X:Cx)(fl:List Fl)(L:List Nat)(tg iter:Expr)(fi:FA):Prop:=PI X tg iter (tDI X.K fl L fi)
theorem PI.imp{t t':TI}(h:PI X tg iter t)(i:∀σ H R',t' σ H R'->t σ H R'):PI X tg iter t':=λpins s σ H R' I q=>h pins s σ H R' I (i σ H R' q)
section
variable{K:PySem.W.Frag}{ok:Ok}{pl:Bool}{H1 H2:Hp}{ow:Ow}{L:List Nat}
theorem nm{b:Addr}(B:∀i b,ow i=some b->∃xs,H1 b=some (.lst xs))(h:H1 b=some o)(hn:∀xs,o ≠ .lst xs):∀i,ow i=some b->i∈L:=λi e=>by
 obtain⟨xs,z⟩:=B i b e;rw[h]at z;exact absurd (cO.inj z) (hn xs)
theorem nm2{b:Addr}(B:∀i b,b∈ow.n i->Chd (H1 b))(h:H1 b=some o)(hn:Chg o->False):∀i,b∉ow.n i:=λi e=>by
 obtain⟨u,z,c⟩:=B i b e;rw[h]at z
 cases z;exact hn c
mutual
theorem RA.keep(hk:∀b o,H1 b=some o->(∀i,ow i=some b->i∈L)->(∀i,b∉ow.n i)->H2 b=some o)(hl:∀i b,ow i=some b->∃xs,H1 b=some (.lst xs))(hm:∀i b,b∈ow.n i->Chd (H1 b))(ho:∀b,ok b->okA ow b):∀{v:V}{d:D},RA K ok pl H1 v d->RA K ok pl H2 v d
 |_,_,.non=>.non
 |_,_,.bl b=>.bl b
 |_,_,.int i=>.int i
 |_,_,.str x=>.str x
 |_,_,.lst e k q=>.lst (hk _ _ e (λi z=>absurd z ((ho _ k).1 i)) (ho _ k).2) k (RAs.keep hk hl hm ho q)
 |_,_,.lsk e k q=>.lsk (by
  rcases e with⟨o,e⟩|e
  ·exact .inl ⟨o,hk _ _ e (nm hl e (by intro xs z;cases z)) (nm2 hm e Chg.frz)⟩
  ·exact .inr e) k (RAs.keep hk hl hm ho q)
 |_,_,.tup e q=>.tup (hk _ _ e (nm hl e (by intro xs z;cases z)) (nm2 hm e Chg.tup)) (RAs.keep hk hl hm ho q)
 |_,_,.dic e g k=>.dic (hk _ _ e (λi z=>absurd z ((ho _ k).1 i)) (ho _ k).2) (g.imp λ_ _ t=>hk _ _ t (nm hl t (by intro xs z;cases z)) (nm2 hm t Chg.tup)) k
 |_,_,.dik e g k=>.dik (hk _ _ e (nm hl e (by intro xs z;cases z)) (nm2 hm e Chg.frz)) (g.imp λ_ _ t=>hk _ _ t (nm hl t (by intro xs z;cases z)) (nm2 hm t Chg.tup)) k
theorem RAs.keep(hk:∀b o,H1 b=some o->(∀i,ow i=some b->i∈L)->(∀i,b∉ow.n i)->H2 b=some o)(hl:∀i b,ow i=some b->∃xs,H1 b=some (.lst xs))(hm:∀i b,b∈ow.n i->Chd (H1 b))(ho:∀b,ok b->okA ow b):∀{v:List V}{d:List D},RAs K ok pl H1 v d->RAs K ok pl H2 v d
 |_,_,.nil=>.nil
 |_,_,.cons e q=>.cons (RA.keep hk hl hm ho e) (RAs.keep hk hl hm ho q)
end
end
theorem Rel.ownL{σ:St}(R:Rel K fl G ow σ H δ):∀i b,ow i=some b->∃xs,H b=some (.lst xs):=λi b e=>by
 obtain⟨_,_,xs,_,_,h2,_⟩:=R.own i b e;exact⟨xs,h2⟩
theorem Rel.ownC{σ:St}(R:Rel K fl G ow σ H δ):∀i b,b∈ow.n i->Chd (H b):=λi b e=>(R.nt i b e).2.1
theorem wH{σ:St}(R:Rel K fl G ow σ H δ)(r:Rs K G.H0 ow Hb H (.B L) v (.list l)):∃a xs,v = .ref a/\SqL K H a xs /\
 ∀H2:Hp,(∀b o,H b=some o->(∀i,ow i=some b->i∈L)->(∀i,b∉ow.n i)->H2 b=some o)->SqL K H2 a xs/\RAs K (λb=>okA ow b/\H b≠none) true H2 xs l:=by
 rcases r with r|⟨i,hi,a,xs,ds,X,rfl,e,Y,W⟩
 ·cases r with
  |lst e k q=>exact⟨_,_,rfl,SqL.of e,λH2 Z=>⟨SqL.of (Z _ _ e (λi z=>absurd z (k.1 i)) k.2),RAs.keep Z R.ownL R.ownC (λb z=>z.1) q.track⟩⟩
  |lsk e k q=>exact⟨_,_,rfl,e.sq,λH2 Z=>⟨SqK.sq (by
   rcases e with⟨o,e⟩|e
   ·exact .inl ⟨o,Z _ _ e (nm R.ownL e (by intro xs z;cases z)) (nm2 R.ownC e Chg.frz)⟩
   ·exact .inr e),RAs.keep Z R.ownL R.ownC (λb z=>z.1) q.track⟩⟩
 ·cases e;exact⟨a,xs,rfl,SqL.of Y,λH2 Z=>⟨SqL.of (Z _ _ Y (λj z=>by rwa[R.inj j i a z X]) (λj z=>R.ns j i a z X)),RAs.keep Z R.ownL R.ownC (λb z=>z.1) W.track⟩⟩
theorem n8(h:DE X fl (.B L) e f):DI X fl L tg e (uO f):=PI.imp (JM h) λσ H R' h=>by
 refine D3.ex4 h λG ow δ l R Q q=>?_
 refine D3.ex1 (bind1 Q) λd P e2=>?_
 cases d<;>first|(cases e2;done)|skip
 cases e2;refine⟨G,ow,δ,_,R,P,λv H1 s r=>?_⟩;obtain⟨a,xs,rfl,S,keep⟩:=wH (R.grow s) r;refine⟨a,rfl,⟨xs,S⟩,q _ _ s λH2 k2 i=>?_⟩;obtain⟨Z,W⟩:=keep H2 k2;refine⟨λd hd=>?_,λO=>⟨xs,Z,by rwa[W.length]⟩⟩;obtain⟨y,V,U⟩:=W.get hd;refine⟨⟨xs,y,Z,V⟩,λx N Y=>?_⟩;obtain⟨e,T⟩:=Y;subst e;have:some y=some x:=V.symm.trans (T xs Z)
 cases this;exact⟨Same.refl _,U⟩
theorem O8(lo hi:Int):(gD lo hi).length=(hi-lo).toNat:=by simp[gD]
theorem O9(lo hi:Int):Wy K ow L H1 (Itr lo (hi-lo).toNat) (gD lo hi):=by
 intro H2 _ i;refine⟨λd hd=>?_,λY=>by rw[O8]at Y;exact Y⟩;unfold gD at hd;rw[aU]at hd;by_cases Z:i<(hi-lo).toNat
 ·rw[dJ Z]at hd
  cases hd;refine⟨Z,λx W X=>?_⟩;obtain⟨e,e2⟩:=X;subst e e2;exact⟨Same.refl _,.int _⟩
 ·rw[aZ (by simpa using Z)]at hd
  cases hd
theorem J1{i:Int}(h:yS i=true): -(2^62)<=i/\i<2^62:=by
 unfold yS at h;rw[aV]at h;exact⟨of_decide_eq_true h.1,of_decide_eq_true h.2⟩
theorem jY{fa:FA}(B:Gl X "range")(hm:X.mg "range"=none)(h:DA X fl [a] fa)(hs:starEach [a] X.env=[(false,eval a X.env)]:=by rfl):DI X fl L tg (.Call (.Name "range" p) [a] [] pos) (mG fa):=
 PI.imp (Ly B hm h hs) λσ H R' h=>by
 refine D3.ex4 h λG ow δ l R W q=>?_
 refine D3.ex1 (bind1 W) λds V e2=>?_
 split at e2
 ·next j=>
  by_cases z:yS j=true
  ·rw[if_pos z]at e2
   cases e2;refine⟨G,ow,δ,_,R,V,λvs H1 s r=>?_⟩
   cases r with
   |cons Y Z=>
    cases Z;obtain rfl:=Y.intE;refine⟨j,rfl,(J1 z).1,(J1 z).2,?_⟩;have w:=O9 (K:=X.K) (ow:=ow) (L:=L) (H1:=H1) 0 j;rw[qx]at w;exact q _ _ s w
  ·rw[if_neg z]at e2
   cases e2
 ·cases e2
def lock(L:List Nat)(fl:List Fl):List Fl:=fl.mapIdx λi x=>if x = .O/\i∈L then .L else x
theorem nA:(lock L fl)[i]? = (fl[i]?).map λx=>if x = .O/\i∈L then .L else x:=by
 unfold lock;rw[fB]
theorem O_:(lock L fl)[i]? = some .A<->fl[i]? = some .A:=by
 rw[nA]
 cases h:fl[i]? with
 |none=>simp
 |some x=>
  cases x<;>simp
  by_cases z:i∈L<;>simp[z]
theorem Iz(h:(lock L fl)[i]? = some .O):fl[i]? = some .O/\i∉L:=by
 rw[nA]at h
 cases e:fl[i]? with
 |none=>rw[e]at h;simp at h
 |some x=>
  rw[e]at h
  cases x<;>simp at h
  by_cases z:i∈L
  ·simp[z]at h
  ·exact⟨rfl,z⟩
theorem IK(h:fl[i]? = some .L):(lock L fl)[i]? = some .L:=by
 rw[nA,h];simp
theorem J2(h:fl[i]? = some .O)(hi:i∈L):(lock L fl)[i]? = some .L:=by
 rw[nA,h];simp[hi]
theorem J3(h:fl[i]? = some .O)(hi:i∉L):(lock L fl)[i]? = some .O:=by
 rw[nA,h];simp[hi]
theorem CQ:(lock L fl)[i]? = some .N<->fl[i]? = some .N:=by
 rw[nA]
 cases h:fl[i]? with
 |none=>simp
 |some x=>
  cases x<;>simp
  by_cases z:i∈L<;>simp[z]
theorem IV:(lock L fl)[i]? = some .M<->fl[i]? = some .M:=by
 rw[nA]
 cases h:fl[i]? with
 |none=>simp
 |some x=>
  cases x<;>simp
  by_cases z:i∈L<;>simp[z]
theorem qb:isN (lock L fl)[i]? = isN fl[i]?:=by
 rw[nA]
 cases h:fl[i]? with
 |none=>rfl
 |some x=>
  cases x<;>simp[isN]
  by_cases z:i∈L<;>simp[z]
def Let(fl':List Fl)(ow:Ow)(b:Addr):Prop:=(∃j,ow j=some b/\fl'[j]? = some .O)\/∃j,b∈ow.n j/\fl'[j]? = some .N
open Classical in
def ghL(fl':List Fl)(G:Gh)(ow:Ow)(H:Hp):Gh:=⟨G.H0,λb=>if Let fl' ow b then none else H b,ow,ow.n,G.tb⟩
open Classical in
theorem rB{fl':List Fl}{b:Addr}(h:¬Let fl' ow b):(ghL fl' G ow H).HF b=H b:=by
 unfold ghL;dsimp only;rw[if_neg h]
open Classical in
theorem IW{fl':List Fl}{b:Addr}(h:Let fl' ow b):(ghL fl' G ow H).HF b=none:=by
 unfold ghL;dsimp only;rw[if_pos h]
theorem Rel.lock{σ:St}(L:List Nat)(R:Rel K fl G ow σ H δ):Rel K (lock L fl) (ghL (lock L fl) G ow H) ow σ H δ:=by
 refine⟨λb o X=>?_,λb o X=>?_,R.len,λi a h=>?_,R.inj,λi h=>rfl,λi d h1 hn h2=>R.dat i d h1 (by rw[qb]at hn;exact hn) h2,λi d h1 hn h2 V=>R.oo i d h1 (by rw[qb]at hn;exact hn) (λz=>h2 (O_.mpr z)) V,λi a h=>?_,R.nd,R.ns,λi h=>rfl,λi d hn h1=>R.nr i d (by rw[qb]at hn;exact hn) h1⟩
 ·have Y:G.H0 b=some o:=X;rw[rB]
  ·exact R.same0 b o Y
  ·rintro(⟨j,e,_⟩|⟨j,e,_⟩)
   ·have:=(R.own j b e).1;rw[Y]at this
    cases this
   ·have:=(R.nt j b e).1;rw[Y]at this
    cases this
 ·by_cases z:Let (D3.lock L fl) ow b
  ·rw[IW z]at X;cases X
  ·rw[rB z]at X;exact X
 ·obtain⟨S,Z,xs,ds,h1,h2,V,T⟩:=R.own i a h;refine⟨S,?_,xs,ds,h1,h2,V,T⟩;have out:(D3.lock L fl)[i]? = some .L->(ghL (D3.lock L fl) G ow H).HF a=H a:=λU=>rB (by
   rintro(⟨j,e,W⟩|⟨j,e,W⟩)
   ·rw[R.inj j i a e h,U]at W
    cases W
   ·exact R.ns j i a e h)
  rcases Z with⟨Z,_⟩|⟨Z,_⟩
  ·by_cases hi:i∈L
   ·exact .inr ⟨J2 Z hi,xs,by rwa[out (J2 Z hi)]⟩
   ·exact .inl ⟨J3 Z hi,IW (.inl ⟨i,h,J3 Z hi⟩)⟩
  ·exact .inr ⟨IK Z,xs,by rwa[out (IK Z)]⟩
 ·obtain⟨g1,g2,g3⟩:=R.nt i a h;refine⟨g1,g2,?_⟩;rcases g3 with⟨z,_⟩|z
  ·exact .inl ⟨CQ.mpr z,IW (.inr ⟨i,h,CQ.mpr z⟩)⟩
  ·exact .inr (IV.mpr z)
theorem Rel.unlock{B:Ow}{σ σ':St}(R:Rel K fl G ow σ H δ)(R':Rel K (D3.lock L fl) (ghL (D3.lock L fl) G ow H) B σ' H' δ'):Rel K fl G B σ' H' δ':=by
 have sub:Same G.HF (ghL (D3.lock L fl) G ow H).HF:=λb o W=>by
  rw[rB]
  ·exact R.s1 b o W
  ·rintro(⟨j,e,X⟩|⟨j,e,X⟩)
   ·rcases(R.own j b e).2.1 with⟨_,z⟩|⟨z,_⟩
    ·rw[W]at z;cases z
    ·have:=(Iz X).1;rw[z]at this
     cases this
   ·rcases(R.nt j b e).2.2 with⟨_,z⟩|z
    ·rw[W]at z;cases z
    ·have:=CQ.mp X;rw[z]at this
     cases this
 refine⟨R.s0,sub.trans R'.s1,R'.len,λi a h=>?_,R'.inj,λi h=>?_,λi d h1 hn h2=>R'.dat i d h1 (by rwa[qb]) h2,λi d h1 hn h2 V=>R'.oo i d h1 (by rwa[qb]) (λz=>h2 (O_.mp z)) V,λi a h=>?_,R'.nd,R'.ns,λi h=>?_,λi d hn h1=>R'.nr i d (by rwa[qb]) h1⟩
 ·obtain⟨U,Z,rest⟩:=R'.own i a h;refine⟨U,?_,rest⟩;rcases Z with⟨Z,Y⟩|⟨Z,_⟩
  ·exact .inl ⟨(Iz Z).1,sub.free Y⟩
  ·have e:=R'.pin i Z;rw[e]at h;exact(R.own i a h).2.1
 ·have e:=R'.pin i (IK h);rw[e];exact R.pin i h
 ·obtain⟨g1,g2,g3⟩:=R'.nt i a h;rcases g3 with⟨z,Y⟩|z
  ·exact⟨g1,g2,.inl ⟨CQ.mp z,sub.free Y⟩⟩
  ·exact⟨g1,g2,.inr (IV.mp z)⟩
 ·have e:=R'.np i (IV.mpr h);rw[e];exact R.np i h
theorem jN{T:List Nat}{fi:FA}{g:FG}(hp:PassesOwn (model X.prog X.w) X.A X.env X.xe)(hc:X.calm=true)(hi:DI X fl L tg iter fi)(hg:DG X (lock L fl) T tg g)(B:DSs X (lock L fl) body fs)
 (hs:∀x,foldedSetIterable iter X.env x=pure x:=by intro _;rfl):DS1 X fl (.For tg iter body [] pos) (kJ fi g fs):=PS.imp (Xr hp hc hi hg B hs) λDn σ H h=>by
 refine D3.ex4 h λG ow δ o M p q=>?_
 refine D3.ex1 (bind1 p) λl e1 e2=>?_
 refine⟨G,ow,δ,l,M,e1,λJ H1 s E=>?_⟩;have O:=M.grow s;have RL:=O.lock L;refine⟨λi m σ' H'=>m=l.length-i/\∃Z δ',Rel X.K (lock L fl) (ghL (lock L fl) G ow H1) Z σ' H' δ'/\g_ g fs (l.drop i) δ'=some o,⟨_,rfl,ow,δ,RL,by simpa using e2⟩,?_⟩;rintro i m σ' H' ⟨rfl,Z,δ',R',hd⟩;have kept:∀b o,H1 b=some o->(∀i,ow i=some b->i∈L)->(∀i,b∉ow.n i)->H' b=some o:=λb o B t hn=>R'.s1 b o (by
  rw[rB]
  ·exact B
  ·rintro(⟨j,e,r⟩|⟨j,e,_⟩)
   ·exact(Iz r).2 (t j e)
   ·exact hn j e)
 obtain⟨C,D⟩:=E H' kept i;by_cases P:i<l.length
 ·have R:=iu P;rw[R,g_]at hd;refine D3.ex1 (bind1 hd) λQ a hd=>?_
  refine D3.ex1 (bind1 hd) λN k hd=>?_
  obtain⟨go,F⟩:=C l[i] (aA P);refine .inr ⟨go,λσ' H'=>∃Z δ',Rel X.K (lock L fl) (ghL (lock L fl) G ow H1) Z σ' H' δ'/\g_ g fs (l.drop (i+1)) δ'=some o,λU H2 ⟨Y,W,R2,h2⟩=>⟨l.length-(i+1),by omega,rfl,Y,W,R2,h2⟩,λx H3 u=>?_⟩;obtain⟨s3,y⟩:=F x H3 u;have sub:∀b,okA ow b/\H1 b≠none->okA Z b:=λb z=>by
   obtain⟨z1,z2⟩:=z;refine⟨λj e=>?_,λj e=>?_⟩
   ·rcases(R'.own j b e).2.1 with⟨_,S⟩|⟨S,_⟩
    ·have:(ghL (lock L fl) G ow H1).HF b=H1 b:=rB (by rintro(⟨j',V,_⟩|⟨j',V,_⟩);exact z1.1 j' V;exact z1.2 j' V);rw[this]at S;exact z2 S
    ·have V:Z j=ow j:=R'.pin j S;rw[V]at e;exact z1.1 j e
   ·rcases(R'.nt j b e).2.2 with⟨_,S⟩|w
    ·have:(ghL (lock L fl) G ow H1).HF b=H1 b:=rB (by rintro(⟨j',V,_⟩|⟨j',V,_⟩);exact z1.1 j' V;exact z1.2 j' V);rw[this]at S;exact z2 S
    ·have V:Z.n j=ow.n j:=R'.np j w;rw[V]at e;exact z1.2 j e
  refine⟨_,Z,δ',_,Q,R'.grow s3,y.imp sub (λz=>z),a,λI R4 _=>⟨_,Z,Q,N,R4,k,?_⟩⟩
  ·cases N with
   |nx W=>exact λY U H2 R2=>⟨Y,W,R2,hd⟩
   |ct W=>exact λY U H2 R2=>⟨Y,W,R2,hd⟩
   |bk W=>cases hd;exact λY U H2 R2=>q Y U H2 (O.unlock R2)
   |rt d=>cases hd;exact q
   |ex c f v=>cases hd;exact q
 ·have e:l.drop i=[]:=fK (by omega);rw[e,g_]at hd
  cases hd;exact .inl ⟨D (by omega),q Z σ' H' (O.unlock R')⟩
end
end D3
variable{g':D3.D->D3.D->Option D3.D}
namespace D3
open L2 My
def notStar:Expr->Bool
 | .Starred _ _=>false
 |_=>true
theorem n_(h:notStar e=true):starEach (e::es) env=(false,eval e env)::starEach es env:=by
 cases e<;>first|rfl|cases h
theorem Pa(h:es.all notStar=true):(backTo pos (starEach es env)).any (·.1)=false:=by
 induction es with
 |nil=>rfl
 |cons e es Z=>
  rw[List.all_cons,aV]at h;rw[n_ h.1];have:=Z h.2;unfold backTo at this ⊢;rw[aF,mX,this];rfl
def isR:Kd->Bool
 | .P=>true
 | .A=>true
 | .R=>true
 | .C=>true
 |_=>false
def Pg(H0:Hp)(ow:Ow)(Hb:Hp):Kd->Ok
 | .P=>ok1
 | .A=>okA ow
 | .R=>okN H0
 |_=>okN Hb
def X8:Kd->Bool
 | .P=>true
 | .A=>true
 |_=>false
section
variable{K:PySem.W.Frag}{H0 Hb Hc H:Hp}{ow:Ow}{v:V}{d:D}{k:Kd}
theorem Rs.ra(B:isR k=true)(h:Rs K H0 ow Hb H k v d):RA K (Pg H0 ow Hb k) (X8 k) H v d:=by
 cases k<;>first|exact h|cases B
theorem Rs.of_ra(B:isR k=true)(h:RA K (Pg H0 ow Hb k) (X8 k) H v d):Rs K H0 ow Hb H k v d:=by
 cases k<;>first|exact h|cases B
theorem Mq(s:Same Hb Hc)(B:isR k=true):∀a,Pg H0 ow Hc k a->Pg H0 ow Hb k a:=λa z=>by
 cases k<;>first|exact z|exact s.free z|cases B
theorem Rs.of_flat(D:flat d=true)(h:RA K ok0 false H v d):Rs K H0 ow Hb H k v d:=by
 cases k with
 |P=>exact RA.flat D h
 |B L=>exact .inl (RA.flat D h)
 |A=>exact RA.flat D h
 |R=>exact RA.flat D h
 |F=>exact .inl ⟨D,h⟩
 |C=>exact RA.flat D h
 |FC=>exact .inl ⟨D,h⟩
 |T=>
  obtain⟨as,h1,_,Z⟩:=RA.rt h
  cases as with
  |nil=>exact⟨[],h1,.nil,λ_ z=>by cases z⟩
  |cons a r=>exact(Z a ak).elim
theorem Rs.back(s:Same Hb Hc)(h:Rs K H0 ow Hc H k v d):Rs K H0 ow Hb H k v d:=by
 cases k with
 |P=>exact h
 |B L=>exact h
 |A=>exact h
 |R=>exact h
 |F=>
  rcases h with h|⟨a,xs,ds,h1,h2,Z,Y⟩
  ·exact .inl h
  ·exact .inr ⟨a,xs,ds,h1,h2,s.free Z,Y⟩
 |C=>exact RA.imp (λa z=>s.free z) (λz=>z) h
 |FC=>
  rcases h with h|⟨a,xs,ds,h1,h2,Z,Y,X⟩
  ·exact .inl h
  ·exact .inr ⟨a,xs,ds,h1,h2,s.free Z,Y,X.imp (λb z=>⟨s.free z.1,z.2⟩) (λz=>z)⟩
 |T=>
  obtain⟨as,h1,h2,Z⟩:=h;exact⟨as,h1,h2,λa z=>s.free (Z a z)⟩
end
def tDB(K:PySem.W.Frag)(fl:List Fl)(k:Kd)(f:FA):TA:=λσ H Q=>∃G ow δ ds,Rel K fl G ow σ H δ/\f δ=some ds/\∀vs H',Same H H'->RAs K (Pg G.H0 ow H k) (X8 k) H' vs ds->Q vs H'
abbrev DB(X:Cx)(fl:List Fl)(k:Kd)(es:List Expr)(f:FA):Prop:=PA X es (tDB X.K fl k f)
section
variable{X:Cx}{fl:List Fl}{e a b c:Expr}{es rest:List Expr}{k:Kd}{f fa fb fc:FE}{ft gt:FT}{pos:Pos}
theorem X_:DB X fl k [] aN:=PA.imp nJ λσ H Q h=>by
 refine D3.ex4 h λG ow δ ds R Z q=>?_
 cases Z;exact q [] H (Same.refl H) .nil
theorem Um{fr:FA}(B:isR k=true)(h:DE X fl k e f)(D:DB X fl k es fr)(hs:starEach (e::es) X.env=(false,eval e X.env)::starEach es X.env:=by exact n_ rfl):DB X fl k (e::es) (ao f fr):=PA.imp (jx h D hs) λσ H Q h=>by
 refine D3.ex4 h λG ow δ ds R Z q=>?_
 refine D3.ex1 (bind1 Z) λd V Z=>?_
 refine D3.ex1 (bind1 Z) λr e2 Z=>?_
 cases Z;refine⟨G,ow,δ,d,R,V,λv H1 s1 W=>⟨G,ow,δ,r,R.grow s1,e2,λvs H2 s2 Y=>?_⟩⟩;exact q _ H2 (s1.trans s2) (.cons ((W.ra B).same s2) (Y.imp (Mq s1 B) (λz=>z)))
theorem vH(h:DB X fl .P es B):DA X fl es B:=PA.imp h λσ H Q h=>by
 refine D3.ex4 h λG ow δ ds R Z q=>?_
 exact⟨G,ow,δ,ds,R,Z,λvs H' s r=>q vs H' s r⟩
theorem rC{x1}{fa:FA}(B:isR k=true)(h:DB X fl k es fa):DE X fl k (.Tuple es x1 pos) (dTup fa):=PE.imp (Xy h) λσ H Q h=>by
 refine D3.ex4 h λG ow δ d R Y q=>?_
 refine D3.ex1 (bind1 Y) λl W e2=>?_
 by_cases z:l.length<=sizeLine
 ·rw[if_pos z]at e2
  cases e2;refine⟨G,ow,δ,l,R,W,λvs H' s r=>⟨by rwa[r.length],λp Z=>?_⟩⟩;have g:=cM Z (.tup vs);exact q _ _ (s.trans g) (Rs.of_ra B (.tup bT (r.same g)))
 ·rw[if_neg z]at e2
  cases e2
theorem tH{fa:FA}(h:DB X fl .A es fa):DE X fl .F (.List es pos) (jz fa):=PE.imp (Ii h) λσ H Q h=>by
 refine D3.ex4 h λG ow δ d R Y q=>?_
 refine D3.ex1 (bind1 Y) λl W e2=>?_
 by_cases z:l.length<=sizeLine
 ·rw[if_pos z]at e2
  cases e2;refine⟨G,ow,δ,l,R,W,λvs H' s r=>⟨by rwa[r.length],λp Z=>?_⟩⟩;have g:=cM Z (.lst vs);exact q _ _ (s.trans g) (.inr ⟨p,vs,l,rfl,rfl,s.free Z,bT,(r.track.imp (λb w=>⟨w.1,λe=>w.2 (e▸Z)⟩) (λz=>z)).same g⟩)
 ·rw[if_neg z]at e2
  cases e2
theorem mZ{fa:FA}(h:DB X fl .C es fa):DE X fl .FC (.List es pos) (jz fa):=PE.imp (Ii h) λσ H Q h=>by
 refine D3.ex4 h λG ow δ d R Y q=>?_
 refine D3.ex1 (bind1 Y) λl W e2=>?_
 by_cases z:l.length<=sizeLine
 ·rw[if_pos z]at e2
  cases e2;refine⟨G,ow,δ,l,R,W,λvs H' s r=>⟨by rwa[r.length],λp Z=>?_⟩⟩;have g:=cM Z (.lst vs);exact q _ _ (s.trans g) (.inr ⟨p,vs,l,rfl,rfl,s.free Z,bT,(r.track.imp (λb w=>⟨w.1,λe=>w.2 (e▸Z)⟩) (λz=>z)).same g⟩)
 ·rw[if_neg z]at e2
  cases e2
theorem RAs.at{ok:Ok}{i:Int}(r:RAs K ok pl H vs l)(h:pAt l i=some d):∃v,atI vs i=some v/\RA K ok pl H v d:=by
 unfold atI;refine D3.ex1 (bind1 h) λj Y e2=>?_
 obtain⟨y,X,Z⟩:=r.get e2;exact⟨y,by rwa[r.length,show ixN l.length i=some j from Y],Z⟩
theorem ab4(ha:DE X fl (.B L) a fa)(D:DE X fl .P b fb)(hs:qM b):DE X fl .A (.Subscript a b pos) (dOp gIx fa fb):=PE.imp (Fi yO ha D hs) λσ H Q h=>by
 refine D3.ex4 h λG ow δ d R M q=>?_
 obtain⟨x,y,K,e2,U⟩:=zc M;refine⟨G,ow,δ,x,R,K,λv H1 s1 Y=>⟨G,ow,δ,y,R.grow s1,e2,λu H2 s2 S=>?_⟩⟩;unfold gIx at U;split at U
 ·next l i=>
  obtain rfl:=RA.intE S;rcases Y with Y|⟨O,_,p,xs,ds,N,rfl,Z,W,V⟩
  ·obtain⟨p,xs,rfl,W,V⟩:=RA.lstE (RA.same s2 Y);obtain⟨z,Z,T⟩:=V.at U;exact .inl ⟨p,xs,i,z,rfl,rfl,W,Z,q z H2 (s1.trans s2) T⟩
  ·cases Z;obtain⟨z,Z,T⟩:=(V.same s2).at U;exact .inl ⟨p,xs,i,z,rfl,rfl,SqL.of (s2 _ _ W),Z,q z H2 (s1.trans s2) T⟩
 ·next l i=>
  obtain rfl:=RA.intE S;rcases Y with Y|⟨O,_,p,xs,ds,N,rfl,Z,W,V⟩
  ·obtain⟨p,xs,rfl,W,V⟩:=RA.tupE (RA.same s2 Y);obtain⟨z,Z,T⟩:=V.at U;exact .inr (.inl ⟨p,xs,i,z,rfl,rfl,W,Z,q z H2 (s1.trans s2) T⟩)
  ·cases Z
 ·cases U
theorem rD{op:BoolOp}(h:DE X fl k a f):DE X fl k (.BoolOp op [a] pos) f:=Xk h
theorem pL(h1:DE X fl .P a fa)(h2:DE X fl k (.BoolOp .And (b::rest) pos) fb):DE X fl k (.BoolOp .And (a::b::rest) pos) (wD fa fb):=PE.imp (Xl h1 h2) λσ H Q h=>by
 refine D3.ex4 h λG ow δ d R W q=>?_
 refine D3.ex1 (bind1 W) λx V e2=>?_
 refine⟨G,ow,δ,x,R,V,λv H1 s1 Z=>?_⟩;split at e2
 ·obtain rfl:=RA.blE Z;exact⟨true,rfl,Ax ⟨G,ow,δ,d,R.grow s1,e2,λu H2 s2 Y=>q u H2 (s1.trans s2) (Y.back s1)⟩⟩
 ·obtain rfl:=RA.blE Z
  cases e2;exact⟨false,rfl,Aw (q _ H1 s1 (Rs.of_flat rfl (.bl _)))⟩
 ·cases e2
theorem ab5(h1:DE X fl .P a fa)(h2:DE X fl k (.BoolOp .Or (b::rest) pos) fb):DE X fl k (.BoolOp .Or (a::b::rest) pos) (dOr fa fb):=PE.imp (ZW h1 h2) λσ H Q h=>by
 refine D3.ex4 h λG ow δ d R W q=>?_
 refine D3.ex1 (bind1 W) λx V e2=>?_
 refine⟨G,ow,δ,x,R,V,λv H1 s1 Z=>?_⟩;split at e2
 ·obtain rfl:=RA.blE Z
  cases e2;exact⟨true,rfl,Ax (q _ H1 s1 (Rs.of_flat rfl (.bl _)))⟩
 ·obtain rfl:=RA.blE Z;exact⟨false,rfl,Aw ⟨G,ow,δ,d,R.grow s1,e2,λu H2 s2 Y=>q u H2 (s1.trans s2) (Y.back s1)⟩⟩
 ·cases e2
theorem Ph(h1:DE X fl .P a fa):DE X fl .FC (.UnaryOp .Not a pos) (OD fa):=PE.imp (Xm h1) λσ H Q h=>by
 refine D3.ex4 h λG ow δ d R Y q=>?_
 refine D3.ex1 (bind1 Y) λx W e2=>?_
 refine⟨G,ow,δ,x,R,W,λv H1 s1 Z=>?_⟩;split at e2
 ·next c=>
  obtain rfl:=RA.blE Z
  cases e2;exact⟨c,rfl,q _ H1 s1 (Rs.of_flat rfl (.bl _))⟩
 ·cases e2
theorem ab6(B:DT X fl c ft)(h1:DE X fl k a fa)(h2:DE X fl k b fb):DE X fl k (.IfExp c a b pos) (dIf ft fa fb):=PE.imp (N5 B h1 h2) λσ H Q h=>by
 refine D3.ex4 h λG ow δ d R Y q=>?_
 refine D3.ex1 (bind1 Y) λt W e2=>?_
 refine⟨G,ow,δ,t,R,W,λH1 s1=>?_⟩
 cases t with
 |true=>exact Ax ⟨G,ow,δ,d,R.grow s1,e2,λu H2 s2 Z=>q u H2 (s1.trans s2) (Z.back s1)⟩
 |false=>exact Aw ⟨G,ow,δ,d,R.grow s1,e2,λu H2 s2 Z=>q u H2 (s1.trans s2) (Z.back s1)⟩
theorem kh(h:DT X fl a ft):DT X fl (.UnaryOp .Not a pos) (gU ft):=PT.imp (Xj h) λσ H Q h=>by
 refine D3.ex4 h λG ow δ t R Z q=>?_
 unfold gU at Z
 cases e:ft δ with
 |none=>rw[e]at Z;cases Z
 |some x=>
  rw[e]at Z
  cases Z;exact⟨G,ow,δ,x,R,e,λH' s=>q H' s⟩
theorem J4(h:DT X fl a ft):DW X fl (.BoolOp .And [a] pos) ft:=Tt h
theorem pN(h:DT X fl a ft):DW X fl (.BoolOp .Or [a] pos) ft:=Xh h
theorem Pj(h1:DT X fl a ft)(h2:DW X fl (.BoolOp .And (b::rest) pos) gt):DW X fl (.BoolOp .And (a::b::rest) pos) (HY ft gt):=PW.imp (Xi h1 h2) λσ H Q h=>by
 refine D3.ex4 h λG ow δ t R Z q=>?_
 refine D3.ex1 (bind1 Z) λx Y e2=>?_
 refine⟨G,ow,δ,x,R,Y,λH1 s1=>?_⟩
 cases x with
 |true=>exact Ax ⟨G,ow,δ,t,R.grow s1,e2,λH2 s2=>q H2 (s1.trans s2)⟩
 |false=>cases e2;exact Aw (q H1 s1)
theorem rP(h1:DT X fl a ft)(h2:DW X fl (.BoolOp .Or (b::rest) pos) gt):DW X fl (.BoolOp .Or (a::b::rest) pos) (tOr ft gt):=PW.imp (ZR h1 h2) λσ H Q h=>by
 refine D3.ex4 h λG ow δ t R Z q=>?_
 refine D3.ex1 (bind1 Z) λx Y e2=>?_
 refine⟨G,ow,δ,x,R,Y,λH1 s1=>?_⟩
 cases x with
 |true=>cases e2;exact Ax (q H1 s1)
 |false=>exact Aw ⟨G,ow,δ,t,R.grow s1,e2,λH2 s2=>q H2 (s1.trans s2)⟩
theorem xZ(h:DW X fl a ft):DT X fl a ft:=PW.pt h
theorem FP{g:D->D->Option D}(ho:OpR X (compareOp op) r)(B:OpR X (compareOp op') r')(hb:BrO X.K r g)(J:BrO X.K r' g')(h1:DE X fl .P a fa)(h2:DE X fl .P b fb)(h3:DE X fl .P c fc)
 (hm:lastMarks [op,op'] [b,c]=false:=by with_unfolding_all rfl):DE X fl .FC (.Compare a [op,op'] [b,c] pos) (k_ g g' fa fb fc):=PE.imp (Oh ho B h1 h2 h3 hm) λσ H Q h=>by
 refine D3.ex4 h λG ow δ d R Z q=>?_
 refine D3.ex1 (bind1 Z) λx I Z=>?_
 refine D3.ex1 (bind1 Z) λy e2 Z=>?_
 refine D3.ex1 (bind1 Z) λz L Z=>?_
 refine⟨G,ow,δ,x,R,I,λv H1 s1 O=>⟨G,ow,δ,y,R.grow s1,e2,λu H2 s2 W=>?_⟩⟩;refine hb H2 v u x y z _ (RA.same s2 O) W L λF V Y=>?_
 split at Z
 ·obtain rfl:=Y.blE;refine D3.ex1 (bind1 Z) λw M N=>?_
  refine⟨true,rfl,Ax ⟨G,ow,δ,w,R.grow (s1.trans s2),M,λT U s3 S=>?_⟩⟩;exact J U u T y w d Q (RA.same s3 W) S N λz V Y=>q z U (s1.trans (s2.trans s3)) (.inl ⟨V,Y⟩)
 ·obtain rfl:=Y.blE
  cases Z;exact⟨false,rfl,Aw (q _ H2 (s1.trans s2) (.inl ⟨rfl,.bl _⟩))⟩
 ·cases Z
theorem Mr{B:CmpOp}{J:R2}{g g'':D->D->Option D}{d:Expr}{fd:FE}(ho:OpR X (compareOp op) r)(ho':OpR X (compareOp op') r')(O:OpR X (compareOp B) J)(hb:BrO X.K r g)(hb':BrO X.K r' g')(W:BrO X.K J g'')(h1:DE X fl .P a fa)(h2:DE X fl .P b fb)(h3:DE X fl .P c fc)(h4:DE X fl .P d fd)
 (hm:lastMarks [op,op',B] [b,c,d]=false:=by with_unfolding_all rfl):DE X fl .FC (.Compare a [op,op',B] [b,c,d] pos) (yq g g' g'' fa fb fc fd):=PE.imp (Mi ho ho' O h1 h2 h3 h4 hm) λσ H Q h=>by
 refine D3.ex4 h λG ow δ j R Z q=>?_
 refine D3.ex1 (bind1 Z) λx k Z=>?_
 refine D3.ex1 (bind1 Z) λy e2 Z=>?_
 refine D3.ex1 (bind1 Z) λz l Z=>?_
 refine⟨G,ow,δ,x,R,k,λv H1 s1 A=>⟨G,ow,δ,y,R.grow s1,e2,λu H2 s2 N=>?_⟩⟩;refine hb H2 v u x y z _ (RA.same s2 A) N l λi M V=>?_
 split at Z
 ·obtain rfl:=V.blE;refine D3.ex1 (bind1 Z) λw m Z=>?_
  refine D3.ex1 (bind1 Z) λE n Z=>?_
  refine⟨true,rfl,Ax ⟨G,ow,δ,w,R.grow (s1.trans s2),m,λU I s3 S=>?_⟩⟩;refine hb' I u U y w E _ (RA.same s3 N) S n λF s Y=>?_
  split at Z
  ·obtain rfl:=Y.blE;refine D3.ex1 (bind1 Z) λt o p=>?_
   refine⟨true,rfl,Ax ⟨G,ow,δ,t,R.grow (s1.trans (s2.trans s3)),o,λtv L T C=>?_⟩⟩;exact W L U tv w t j Q (RA.same T S) C p λz M V=>q z L (s1.trans (s2.trans (s3.trans T))) (.inl ⟨M,V⟩)
  ·obtain rfl:=Y.blE
   cases Z;exact⟨false,rfl,Aw (q _ I (s1.trans (s2.trans s3)) (.inl ⟨rfl,.bl _⟩))⟩
  ·cases Z
 ·obtain rfl:=V.blE
  cases Z;exact⟨false,rfl,Aw (q _ H2 (s1.trans s2) (.inl ⟨rfl,.bl _⟩))⟩
 ·cases Z
theorem Yb{ok:Ok}(r:RA K ok pl H v d):decide (v = .non)=isNone d:=by
 cases r<;>rfl
def BrC(K:PySem.W.Frag)(r:List V->Hp->VK->Prop)(g:List D->Option D):Prop:=∀(H:Hp)(xs:List V)(ds:List D)(d:D)(Q:VK),RAs K ok1 true H xs ds->g ds=some d->(∀v,flat d=true->RA K ok0 false H v d->Q v H)->r xs H Q
theorem eU{id:String}{r:List V->Hp->VK->Prop}{g:List D->Option D}{fa:FA}(hc:lG X (.builtin id) r)(hb:BrC X.K r g)(W:Gl X x)(hm:X.mg x=none)(B:bootBuiltins x=some (.builtin id))(ha:DB X fl .P (e::es) fa)(hn:x≠"__name__" := by decide)(O:(x==("__debug__":Str))=false:=by decide)
 (he:starEach (e::es) X.env=(false,eval e X.env)::starEach es X.env:=by exact n_ rfl) (J:(backTo pos (starEach es X.env)).any (·.1)=false:=by exact Pa rfl):DE X fl .FC (.Call (.Name x p) (e::es) [] pos) (dCall g fa):=
 PE.imp (nq hc W hm B ha hn O he J) λσ H Q h=>by
 refine D3.ex4 h λG ow δ d R Y q=>?_
 refine D3.ex1 (bind1 Y) λds U e2=>?_
 exact⟨G,ow,δ,ds,R,U,λvs H' s r'=>hb H' vs ds d Q r' e2 λv B Z=>q v H' s (.inl ⟨B,Z⟩)⟩
theorem jO:BrC K (λxs H Q=>∃p ys,xs=[.ref p]/\(SqL K H p ys\/SqT K H p ys)/\Q (.int ys.length) H) jd:=by
 intro H xs ds d Q r e q;unfold jd at e;split at e
 ·next l=>
  cases e
  cases r with
  |cons Y Z=>
   cases Z;obtain⟨a,ys,rfl,X,W⟩:=Y.lstE;refine⟨a,ys,rfl,.inl X,?_⟩;rw[W.length];exact q _ rfl (.int _)
 ·next l=>
  cases e
  cases r with
  |cons Y Z=>
   cases Z;obtain⟨a,ys,rfl,X,W⟩:=Y.tupE;refine⟨a,ys,rfl,.inr X,?_⟩;rw[W.length];exact q _ rfl (.int _)
 ·cases e
theorem Yc:BrC K (λxs H Q=>∃i j,xs=[.int i,.int j]/\Q (.int (if j>i then j else i)) H) xG:=by
 intro H xs ds d Q r e q;unfold xG at e;split at e
 ·cases e
  cases r with
  |cons X Z=>
   cases Z with
   |cons Z Y=>
    cases Y;obtain rfl:=X.intE;obtain rfl:=Z.intE;exact⟨_,_,rfl,q _ rfl (.int _)⟩
 ·cases e
theorem Yd:BrC K (λxs H Q=>∃i j,xs=[.int i,.int j]/\Q (.int (if j<i then j else i)) H) FJ:=by
 intro H xs ds d Q r e q;unfold FJ at e;split at e
 ·cases e
  cases r with
  |cons X Z=>
   cases Z with
   |cons Z Y=>
    cases Y;obtain rfl:=X.intE;obtain rfl:=Z.intE;exact⟨_,_,rfl,q _ rfl (.int _)⟩
 ·cases e
theorem Uo(d:D):tyD d="NoneType"\/tyD d="bool"\/tyD d="int"\/tyD d="str"\/tyD d="list"\/tyD d="tuple"\/tyD d="dict" := by
 cases d<;>simp[tyD]
def al1(K:PySem.W.Frag):List V->Hp->VK->Prop:=λxs H Q=>∃x c d,xs=[x,.ty c]/\(c="int"\/c="bool"\/c="tuple"\/c="list"\/c="str")/\RA K ok1 true H x d/\Q (.bl (isT c (tyD d))) H
theorem Pk:lG X (.builtin "isinstance") (al1 X.K):=by
 intro pins s σ H xs us Q I r h;obtain⟨x,c,d,rfl,P,ra,q⟩:=h;obtain⟨u,N,rfl,Z,S⟩:=vals2 r
 cases S;have kn:=X3 (K:=X.K) P (Uo d);have fin:∀tk,EP X pins σ Q (.bool (isT c (tyD d))) {s with toks:=tk}:=λtk=>⟨.bl _,H,I.tok _,rfl,q⟩
 cases ra with
 |non=>cases(show u=fS from Z);exact PySem.W.kia_one PySem.W.kitx_none I.kIn gd kn (λz=>nomatch z) fin
 |bl b=>cases(show u=gq b from Z);exact PySem.W.kia_one PySem.W.kitx_bool I.kIn gd kn (λz=>nomatch z) fin
 |int i=>obtain⟨t,z⟩:=(show ∃t,u=hX i t from Z);cases z;exact PySem.W.kia_one PySem.W.kitx_int I.kIn gd kn (λz=>nomatch z) fin
 |str y=>obtain⟨t,z⟩:=(show ∃t,u=Value.str y t from Z);cases z;exact PySem.W.kia_one PySem.W.kitx_str I.kIn gd kn (λz=>nomatch z) fin
 | @lst a xs ds e k T=>
  cases(show u=eW a from Z);obtain⟨its,_,⟨o,n,V,e2,_⟩,_⟩:=I.list (SqL.of e);exact PySem.W.kia_one PySem.W.kitx_list I.kIn ⟨_,V,e2⟩ kn (λz=>nomatch z) fin
 | @lsk a xs ds e k T=>
  cases(show u=eW a from Z);obtain⟨its,_,⟨o,n,V,e2,_⟩,_⟩:=I.list e.sq;exact PySem.W.kia_one PySem.W.kitx_list I.kIn ⟨_,V,e2⟩ kn (λz=>nomatch z) fin
 | @tup a xs ds e T=>
  cases(show u=eW a from Z);obtain⟨its,_,⟨o,V,e2,_⟩,_⟩:=I.tuple e.sq;exact PySem.W.kia_one PySem.W.kitx_tuple I.kIn ⟨_,V,e2⟩ kn (λz=>nomatch z) fin
 | @dic a U kvs e g k=>
  rcases g.or with⟨ks,z⟩|⟨ks,z⟩
  ·rw[z]at e;exact Bm I Z (TyOf.dK e) kn fin
  ·rw[z]at e;exact Bm I Z (TyOf.dT e) kn fin
 | @dik a U kvs Y e g k=>
  cases(show u=eW a from Z);have Y:=(show gA X.prog X.w H s.heap a U from(show L2.Rd H a U from .inr ⟨_,e⟩).ok I.hok);rcases g.or with⟨ks,z⟩|⟨ks,z⟩
  ·rw[z]at Y;obtain⟨_,_,vs,_,O⟩:=Y;obtain⟨R,_,_,h1,h2,_⟩:=O;exact PySem.W.kia_one PySem.W.kitx_dict I.kIn ⟨_,h1,h2.1⟩ kn (λz=>nomatch z) fin
  ·rw[z]at Y;obtain⟨_,_,xs,_,R,_,_,h1,h2,_⟩:=Y;exact PySem.W.kia_one PySem.W.kitx_dict I.kIn ⟨_,h1,h2.1⟩ kn (λz=>nomatch z) fin
theorem nM{p':Pos}(hc:T="int"\/T="bool"\/T="tuple"\/T="list"\/T="str")(h:DE X fl .P a f)(hg:Gl X "isinstance")(hm:X.mg "isinstance"=none)(W:Gl X x)(O:X.mg x=none)(B:bootBuiltins x=some (.type T))
 (J:x≠"__name__" := by decide) (Z:(x==("__debug__":Str))=false:=by decide)
 (he:starEach [a,.Name x p'] X.env=(false,eval a X.env)::starEach [.Name x p'] X.env:=by rfl) (Y:starEach [.Name x p'] X.env=(false,eval (.Name x p') X.env)::starEach [] X.env:=by rfl) (D:(backTo pos (starEach [.Name x p'] X.env)).any (·.1)=false:=by rfl) :
 DE X fl .FC (.Call (.Name "isinstance" p) [a,.Name x p'] [] pos) (dUn (gIs T) f):=
 PE.imp (nq Pk hg hm boot_isinstance (jx h (jx (Tr (v:=.ty T) W O B rfl J Z) nJ Y) he) (by decide) (by decide) he D) λσ H Q h=>by
 refine D3.ex4 h λG ow δ d R U q=>?_
 refine D3.ex1 (bind1 U) λx S e2=>?_
 cases e2;exact⟨G,ow,δ,x,R,S,λv H1 s1 V=>⟨v,T,x,rfl,hc,V,q _ H1 s1 (.inl ⟨rfl,.bl _⟩)⟩⟩
theorem Pn(h:DE X fl .P a f):DE X fl .FC (.UnaryOp .USub a pos) (dUn O1 f):=PE.imp (Z6 Xx h) λσ H Q h=>by
 refine D3.ex4 h λG ow δ d R Y q=>?_
 refine D3.ex1 (bind1 Y) λx W e2=>?_
 refine⟨G,ow,δ,x,R,W,λv H1 s1 Z=>?_⟩;unfold O1 at e2;split at e2
 ·cases e2;obtain rfl:=RA.intE Z;exact⟨_,rfl,q _ H1 s1 (.inl ⟨rfl,.int _⟩)⟩
 ·cases e2
end
def spD(K:PySem.W.Frag)(F:List D->Option D):Sp:=λvs H Q _=>∃ds d,(Tb H/\RAs K ok1 true H vs ds)/\F ds=some d/\∀v H',Same H H'->RA K (okN H) false H' v d->Q v H'
section
variable{P:e9}{w:fy}{K:PySem.W.Frag}{mg:Str->Option Value}{base:f8}{x:Str}{ps N:List Str}{st:hI}{k n:Nat}{fs:FS}{fl:List Fl}
theorem mQ(p:Nat)(D:∀i,i<p->fl[i]? = some .A)(B:ds.length=p)(J:p<=N.length)(r':Tb H/\RAs K ok1 true H vs ds):
 Rel K fl ⟨H,H,λ_=>none,λ_=>[],r'.1⟩ ow0 (L2.start N vs) H (ds.map (λd=>some (.d d))++aO (N.length-p) none):=by
 have r:=r'.2;have Z:vs.length=p:=by rwa[r.length]
 have get:∀i d,(ds.map (λd=>some (U.d d))++aO (N.length-p) none)[i]? = some (some (.d d))->i<p/\ds[i]? = some d:=λi d h=>by
  by_cases hi:i<p
  ·rw[cj (by rwa[aq,B]),aU]at h
   cases e:ds[i]? with
   |none=>rw[e]at h;cases h
   |some z=>rw[e]at h;cases h;exact⟨hi,rfl⟩
  ·rw[bR (by rw[aq,B];omega),eZ]at h;split at h<;>cases h
 refine⟨Same.refl H,Same.refl H,?_,λi a h=>(by cases h),λi j a h=>(by cases h),λi h=>rfl,λi d h _ _=>?_,λi d h _ h2 _=>?_,λi a h=>(by cases h),λi j a h=>(by cases h),λi j a h=>(by cases h),λi h=>rfl,λi d hn h=>?_⟩
 ·unfold L2.start;simp only[bB,aq,bI,Z,B]
 ·obtain⟨hi,e⟩:=get i d h;obtain⟨v,Y,e2⟩:=r.get e;refine⟨v,?_,e2.imp (λ_ _=>⟨λi z=>(by cases z),λi z=>(by cases z)⟩) (λz=>z)⟩;unfold L2.start;rw[cj (by rwa[aq,Z]),aU,Y];rfl
 ·exact absurd (D i (get i d h).1) h2
 ·rw[D i (get i d h).1]at hn
  cases hn
end
section
variable{X:Cx}{fl:List Fl}{e:Expr}{es:List Expr}{pos p:Pos}{x:Str}{ps:List Str}{n:Nat}{F:List D->Option D}{fa:FA}
theorem cC(h:Has X.prog X.w X.K X.mg X.base n x ps (spD X.K F))(J:Room n X.A)(ha:DB X fl .P (e::es) fa)(O:Gl X x:=by rfl)(D:(x==("__debug__":Str))=false:=by decide)
 (W:starEach (e::es) X.env=(false,eval e X.env)::starEach es X.env:=by exact n_ rfl) (B:(backTo pos (starEach es X.env)).any (·.1)=false:=by exact Pa rfl) :
 DE X fl .C (.Call (.Name x p) (e::es) [] pos) (dCall F fa):=PE.imp (Fq h J ha O D W B) λσ H Q h=>by
 refine D3.ex4 h λG ow δ d R Y q=>?_
 refine D3.ex1 (bind1 Y) λds V e2=>?_
 refine⟨G,ow,δ,ds,R,V,λvs H' s r=>?_⟩;show spD X.K F (vs++[]) H' Q E0;rw[cA];exact⟨ds,d,⟨R.tb.same s,r⟩,e2,λv H2 s2 Z=>q v H2 (s.trans s2) (RA.imp (λa z=>s.free z) (λz=>z) Z)⟩
end
end D3
variable{fh:D3.FO}
namespace D3
open L2 My
section
variable{X:Cx}{fl fl':List Fl}{e a b c elt tg iter:Expr}{es ifs:List Expr}{k:Kd}{f fa fb fc:FE}{ft gt:FT}{pos:Pos}{scope:hV}{ix L TT:List Nat}{fi:FA}{g:FG}
theorem m5:PTs X [] (tDT X.K fl D3.j9):=λpins s σ H Q I h=>by
 refine D3.ex4 h λG ow δ b R Z q=>?_
 cases Z;exact Ud pins s σ H Q I (q H (Same.refl H))
theorem J5{σ:St}(t:Nat)(ix:List Nat)(B:∀i,i<t+ix.length->fl'[i]? = some .A)(R:Rel K fl G ow σ H δ)(s:Same H H1):
 Rel K fl' ⟨H,H,λ_=>none,λ_=>[],R.tb⟩ ow0 (uM t ix σ) H1 (j_ t ix δ):=by
 have get:∀i d,(j_ t ix δ)[i]? = some (some (.d d))->i<t+ix.length/\∃j,ix[i-t]? = some j/\t<=i/\δ[j]? = some (some (.d d)):=λi d h=>by
  unfold j_ at h;by_cases hi:i<t
  ·rw[cj (by rwa[bI]),eZ,if_pos hi]at h
   cases h
  ·rw[bR (by rw[bI];omega),bI,aU]at h
   cases e:ix[i-t]? with
   |none=>rw[e]at h;cases h
   |some j=>
    rw[e]at h;have Q:i-t<ix.length:=by
     rcases dM (i-t) ix.length with z|z
     ·exact z
     ·rw[aZ z]at e;cases e
    refine⟨by omega,j,rfl,by omega,?_⟩;have h':(δ[j]?).getD none=some (.d d):=by simpa using h
    cases q:δ[j]? with
    |none=>rw[q]at h';cases h'
    |some o=>rw[q]at h';simp at h';rw[h']
 refine⟨Same.refl H,s,?_,λi a h=>(by cases h),λi j a h=>(by cases h),λi h=>rfl,λi d h _ _=>?_,λi d h _ h2 _=>absurd (B i (get i d h).1) h2,λi a h=>(by cases h),λi j a h=>(by cases h),λi j a h=>(by cases h),λi h=>rfl,λi d hn h=>(by rw[B i (get i d h).1]at hn;cases hn)⟩
 ·unfold uM j_;simp
 ·obtain⟨hi,j,T,S,Y⟩:=get i d h;have Z:∃v,σ[j]? = some (some v)/\RA K ok1 true H v d:=by
   cases W:isN fl[j]? with
   |true=>
    obtain⟨v,h1,h2,_⟩:=R.nr j d W Y;exact⟨v,h1,h2.ra λ_ _=>trivial⟩
   |false=>
   cases X:ow j with
   |none=>
    obtain⟨v,h1,h2⟩:=R.dat j d Y W X;exact⟨v,h1,h2.imp (λ_ _=>trivial) (λz=>z)⟩
   |some a=>
    obtain⟨_,_,xs,ds,h1,h2,U,V⟩:=R.own j a X;rw[Y]at V
    cases V;exact⟨_,h1,.lst h2 trivial (U.imp (λ_ _=>trivial) (λz=>z))⟩
  obtain⟨v,h1,h2⟩:=Z;refine⟨v,?_,(h2.imp (λ_ _=>⟨λi z=>(by cases z),λi z=>(by cases z)⟩) (λz=>z)).same s⟩;unfold uM;rw[bR (by rw[bI];omega),bI,aU,T];show some ((σ[j]?).getD none)=_;rw[h1];rfl
theorem xP{σ:St}{H:Hp}{Q:VK}{t:Nat}(hfl:∀i,i<t+ix.length->fl'[i]? = some .A)(B:∀j∈TT,j<t)
 (h:tD X.K fl .FC (jk fi g ft f t ix) σ H Q):Fv (tDI X.K fl L fi) (tDG X.K fl' TT g) (tDT X.K fl' ft) (tD X.K fl' .C f) t (uM t ix) σ H Q:=by
 refine D3.ex4 h λG ow δ d R hf q=>?_
 refine D3.ex1 (bind1 hf) λl e1 e2=>?_
 by_cases w:l.length<=100000
 case neg=>rw[if_neg w]at e2;cases e2
 rw[if_pos w]at e2;refine D3.ex1 (bind1 e2) λr e3 e4=>?_
 cases e4;refine⟨G,ow,δ,l,R,e1,λJ H1 s1 wk Dl s=>?_⟩;have R1:=R.grow s1
 let S:Ok:=λb=>okN H b/\b≠Dl
 refine⟨λi m xs H2=>m=l.length-i/\H2 Dl=some (.lst xs)/\Same H1 H2/\xs.length<=i/\i<=l.length/\∃ds rest,RAs X.K S false H2 xs ds/\jK g ft f (j_ t ix δ) (l.drop i)=some rest/\r=ds++rest,
  ⟨_,rfl,bT,cM s _,aB _,cH _,[],r,.nil,by simpa using e3,rfl⟩,?_⟩
 rintro i m xs H2 ⟨rfl,W,s2,E,u,ds,rest,D,Y,rfl⟩;refine⟨W,?_⟩;obtain⟨w1,w2⟩:=wk H2 (λb o N _ _=>s2 b o N) i;by_cases U:i<l.length
 ·have O:=iu U;rw[O,jK]at Y;refine D3.ex1 (bind1 Y) λT e5 Y=>?_
  refine D3.ex1 (bind1 Y) λp e6 Y=>?_
  obtain⟨go,a⟩:=w1 l[i] (aA U);refine .inr ⟨go,kY (aW E (aW u w)) (by decide),λx H3 hy=>?_⟩;obtain⟨s3,r3⟩:=a x H3 hy;have I:=s2.trans s3;have Rb:=(J5 t ix hfl R1 (Same.refl H1)).grow I;refine⟨_,_,_,_,T,Rb,r3.imp (λ_ _=>⟨λi z=>(by cases z),λi z=>(by cases z)⟩) (λz=>z),e5,λc k P=>⟨?_,?_⟩⟩
  ·apply dN;intro n;rw[dW,dW];exact P (t+n) λz=>absurd (B _ z) (by omega)
  ·refine⟨_,_,T,p,k,e6,λH5 M=>?_⟩
   cases p with
   |false=>
    rw[if_neg aX]at Y ⊢;have Z:=s3.trans M;exact⟨l.length-(i+1),by omega,rfl,Z _ _ W,s2.trans Z,by omega,U,ds,rest,D.same Z,Y,rfl⟩
   |true=>
    rw[if_pos rfl]at Y ⊢;refine D3.ex1 (bind1 Y) λy e7 Y=>?_
    refine D3.ex1 (bind1 Y) λl' e8 Y=>?_
    cases Y;refine⟨_,_,T,y,k.grow M,e7,λv H6 s6 r6=>?_⟩;have Z:=s3.trans M;have V:=Z.trans s6;refine⟨V _ _ W,l.length-(i+1),by omega,rfl,bT,?_,by rw[bB,jG];omega,U,ds++[y],l',?_,e8,by simp⟩
    ·intro b o N;rw[bF (λz=>by subst z;rw[s]at N;cases N)];exact(s2.trans V) b o N
    ·have nd:¬S Dl:=λz=>z.2 rfl
     have F:=s1.trans (s2.trans Z);have ry:RA X.K S false H6 v y:=RA.imp (λb z=>⟨F.free z,λe=>by subst e;rw[okN,Z _ _ W]at z;cases z⟩) (λz=>z) r6;exact((D.same V).append (.cons ry .nil)).upd (V _ _ W) nd
 ·have ed:l.drop i=[]:=fK (by omega);rw[ed,jK]at Y
  cases Y;refine .inl ⟨w2 (by omega),?_⟩;rw[cA]at q;exact q (.ref Dl) H2 (s1.trans s2) (.inr ⟨Dl,xs,ds,rfl,rfl,s1.free s,W,D⟩)
theorem m6(hc:X.calm=true)(T J:List Str)(ix:List Nat)(hi:DI X fl L tg iter fi)
 (hg:∀cl C s3 O fp,DG (blk X (T++J) scope cl C s3 O fp) fl' TT tg g) (ht:∀cl C s3 O fp,PTs (blk X (T++J) scope cl C s3 O fp) ifs (tDT X.K fl' ft)) (he:∀cl C s3 O fp,DE (blk X (T++J) scope cl C s3 O fp) fl' .C elt f)
 (Z:∀i,i<T.length+ix.length->fl'[i]? = some .A:=by decide) (W:∀j∈TT,j<T.length:=by decide)
 (hB:xY X.N X.env.scope.names scope.names J ix=true:=by rfl) (hk:scope.kind = .function:=by rfl) (D:∀y∈scope.names,y.2 ≠ .cell:=by decide +kernel)
 (B:∀x∈scope.names,x.2 = .local->scope.names.lookup x.1=some .local:=by decide +kernel)
 (Y:∀x∈scope.names,x.2 = .free->x.1∈J:=by decide +kernel) (hs:∀x,foldedSetIterable iter X.env x=pure x:=by intro _;rfl) :
 DE X fl .FC (.ListComp elt [⟨tg,iter,ifs,0⟩] scope pos) (jk fi g ft f T.length ix):=
 PE.imp (JV hc T J ix hi hg ht he hB hk D B Y hs) λ_ _ _ h=>xP Z W h
theorem Pq(hfx:fl[i]? = some .A)(hN:X.N.Nodup)(hi':X.N[i]? = some x)(hx:X.env.scope.names.lookup x=some .local)(hc:X.calm=true)(T J:List Str)(ix:List Nat)(hi:DI X fl L tg iter fi)
 (hg:∀cl C s3 O fp,DG (blk X (T++J) scope cl C s3 O fp) fl' TT tg g) (ht:∀cl C s3 O fp,PTs (blk X (T++J) scope cl C s3 O fp) ifs (tDT X.K fl' ft)) (he:∀cl C s3 O fp,DE (blk X (T++J) scope cl C s3 O fp) fl' .C elt f)
 (hfl:∀i,i<T.length+ix.length->fl'[i]? = some .A:=by decide) (W:∀j∈TT,j<T.length:=by decide)
 (Y:swapsWith (.ListComp elt [⟨tg,iter,ifs,0⟩] scope pos) (some (.Name x pos')) spos.line X.env=pure true:=by rfl)
 (hB:xY X.N X.env.scope.names scope.names J ix=true:=by rfl) (hk:scope.kind = .function:=by rfl) (D:∀y∈scope.names,y.2 ≠ .cell:=by decide +kernel)
 (B:∀x∈scope.names,x.2 = .local->scope.names.lookup x.1=some .local:=by decide +kernel)
 (hfr:∀x∈scope.names,x.2 = .free->x.1∈J:=by decide +kernel) (hs:∀x,foldedSetIterable iter X.env x=pure x:=by intro _;rfl) :
 DS1 X fl (.Assign [.Name x pos'] (.ListComp elt [⟨tg,iter,ifs,0⟩] scope pos) spos) (bO i (jk fi g ft f T.length ix)):=
 PS.imp (Ue hN hi' hx hc T J ix hi hg ht he Y hB hk D B hfr hs) λDn σ H h=>by
 refine D3.ex4 h λG ow δ o R Z q=>?_
 unfold bO at Z;by_cases V:i<δ.length
 ·rw[if_pos V]at Z;refine D3.ex1 (bind1 Z) λd U e2=>?_
  cases e2;exact xP (fl:=fl) hfl W ⟨G,ow,δ,d,R,U,λv H' s r=>q ow _ H' ((R.grow s).qw hfx (vD R V) ((r.FC_F R).F_A R))⟩
 ·rw[if_neg V]at Z
  cases Z
theorem FQ{p:Addr}(s:Same H H1)(B:H1 p=none)(r:RAs K (okA ow) true H1 vs l):Rs K G.H0 ow H (upd H1 p (.lst vs)) .F (.ref p) (.list l):=
 .inr ⟨p,vs,l,rfl,rfl,s.free B,bT,(r.track.imp (λb w=>⟨w.1,λe=>w.2 (e▸B)⟩) (λz=>z)).same (cM B _)⟩
theorem uP{H0:Hp}(r:Rs K H0 ow Hb H (.B L) v (.list l)):∃a xs,v = .ref a/\SqL K H a xs/\RAs K (okA ow) true H xs l:=by
 rcases r with r|⟨i,hi,a,xs,ds,X,rfl,e,Z,Y⟩
 ·exact r.lstE
 ·cases e;exact⟨a,xs,rfl,SqL.of Z,Y⟩
def ab7(K:PySem.W.Frag):R2:=λx y H Q=>∃l b xs zs,x = .ref l/\y = .ref b/\SqL K H l xs/\SqL K H b zs/\xs.length+zs.length<=sizeLine/\∀p,H p=none->Q (.ref p) (upd H p (.lst (xs++zs)))
theorem Uq:OpR X (binaryOp .Add) (ab7 X.K):=by
 intro pins s σ H x y v u Q I N O h;obtain⟨l,b,xs,zs,rfl,rfl,M,L,G,q⟩:=h
 cases N
 cases O;obtain⟨its,r,p,_⟩:=I.list M;obtain⟨its2,T,p2,_⟩:=I.list L;obtain⟨⟨cls,J,data,sl⟩,S,R,n,hd⟩:=p.isList;obtain⟨⟨P,U,data2,V⟩,Z,W,n2,Y⟩:=p2.isList;simp only at R hd W Y;subst R hd W Y;have E:=r.length;have e2:=T.length;have e:its.toArray++its2.toArray=(its++its2).toArray:=by simp
 refine concat_meets ⟨_,S,rfl⟩ ⟨_,Z,rfl⟩ noFill_list_add seq_list_add PySem.F.slot_list_add PySem.F.entry_list_add (PySem.F.args_list_add_2 _ _) (list_addW l b its.toArray its2.toArray n n2 J U sl V (by simp;omega)) ⟨S,Z,?_⟩;rw[e];exact⟨.ref _,_,I.lnew (t':=s.toks) (r.append T) (by rw[bB];omega),rfl,q _ I.fresh⟩
theorem Pr{D:List Nat}(h1:DE X fl (.B L) a fa)(h2:DE X fl (.B D) b fb):DE X fl .F (.BinOp a .Add b pos) (dOp sE fa fb):=PE.imp (Oe Uq h1 h2) λσ H Q h=>by
 refine D3.ex4 h λG ow δ d R O q=>?_
 obtain⟨x,y,N,e2,Z⟩:=zc O;refine⟨G,ow,δ,x,R,N,λv H1 s1 T=>⟨G,ow,δ,y,R.grow s1,e2,λu H2 s2 U=>?_⟩⟩;unfold sE at Z;split at Z
 ·next l m=>
  by_cases z:l.length+m.length<=1000000
  ·rw[if_pos z]at Z
   cases Z;obtain⟨p,xs,rfl,P,W⟩:=uP T;obtain⟨p',ys,rfl,S,Y⟩:=uP U;refine⟨p,p',xs,ys,rfl,rfl,s2.seq P,S,?_,λpn V=>q _ _ ((s1.trans s2).trans (cM V _)) (FQ (G:=G) (s1.trans s2) V ((W.same s2).append Y))⟩;rw[W.length,Y.length];exact aW z (by decide)
  ·rw[if_neg z]at Z
   cases Z
 ·cases Z
theorem RAs.rep{ok:Ok}(r:RAs K ok pl H vs l):∀n:Nat,RAs K ok pl H (aO n vs).flatten (aO n l).flatten
 |0=>.nil
 |n+1=>by
  rw[cL,cL,fJ,fJ];exact r.append (RAs.rep r n)
theorem Pu(h1:DE X fl .F a fa)(h2:DE X fl .P b fb):DE X fl .F (.BinOp a .Mult b pos) (dOp yV fa fb):=PE.imp (Oe XR h1 h2) λσ H Q h=>by
 refine D3.ex4 h λG ow δ d R S q=>?_
 obtain⟨x,y,M,e2,Z⟩:=zc S;refine⟨G,ow,δ,x,R,M,λv H1 s1 U=>⟨G,ow,δ,y,R.grow s1,e2,λu H2 s2 V=>?_⟩⟩;unfold yV at Z;split at Z
 ·next l k=>
  by_cases z:l.length*k.toNat<=1000000/\-(2^63)<=k/\k<2^63
  ·rw[if_pos z]at Z
   cases Z;obtain rfl:=RA.intE V;rcases U with⟨T,_⟩|⟨p,xs,ds,rfl,N,L,O,W⟩
   ·simp[flat]at T
   ·cases N;refine⟨p,k,xs,rfl,rfl,s2 _ _ O,z.2.1,z.2.2,?_,λpn Y=>q _ _ ((s1.trans s2).trans (cM Y _)) (FQ (G:=G) (s1.trans s2) Y (((W.imp (λb w=>w.1) (λz=>z)).same s2).rep _))⟩;rw[W.length];exact aW z.1 (by decide)
  ·rw[if_neg z]at Z
   cases Z
 ·cases Z
theorem J6(h:DE X fl (.B L) a f)(O:Gl X "list")(hm:X.mg "list"=none)
 (J:starEach [a] X.env=(false,eval a X.env)::starEach [] X.env:=by rfl) (D:(backTo pos (starEach [] X.env)).any (·.1)=false:=by rfl):DE X fl .F (.Call (.Name "list" p) [a] [] pos) (dUn xH f):=
 PE.imp (pY Cw O hm boot_list (jx h nJ J) (by decide) (by decide) J D) λσ H Q h=>by
 refine D3.ex4 h λG ow δ d R U q=>?_
 refine D3.ex1 (bind1 U) λx T e2=>?_
 refine⟨G,ow,δ,x,R,T,λv H1 s1 Y=>?_⟩;unfold xH at e2;split at e2
 ·cases e2;obtain⟨p,xs,rfl,W,V⟩:=uP Y;exact⟨p,xs,rfl,.inl W,λpn Z=>q _ _ (s1.trans (cM Z _)) (FQ (G:=G) s1 Z V)⟩
 ·cases e2;rcases Y with Y|⟨i,hi,a,xs,ds,S,rfl,e,W,V⟩
  ·obtain⟨p,xs,rfl,W,V⟩:=Y.tupE;exact⟨p,xs,rfl,.inr W,λpn Z=>q _ _ (s1.trans (cM Z _)) (FQ (G:=G) s1 Z V)⟩
  ·cases e
 ·cases e2
def tDO(K:PySem.W.Frag)(fl:List Fl)(f:FO):TO:=λσ H Q=>∃G ow δ o,Rel K fl G ow σ H δ/\f δ=some o/\∀H',Same H H'->Q o H'
theorem PO.imp{o:Option Expr}{t t':TO}(h:PO X o t)(i:∀σ H Q,t' σ H Q->t σ H Q):PO X o t':=λpins s σ H Q I q=>h pins s σ H Q I (i σ H Q q)
theorem J7:PO X none (tDO X.K fl p7):=PO.imp T7 λσ H Q h=>by
 refine D3.ex4 h λG ow δ o R Z q=>?_
 cases Z;exact q H (Same.refl H)
theorem pC(h:DE X fl .P e f):PO X (some e) (tDO X.K fl (fG f)):=PO.imp (T8 h) λσ H Q h=>by
 refine D3.ex4 h λG ow δ o R Y q=>?_
 refine D3.ex1 (bind1 Y) λd W e2=>?_
 split at e2
 ·cases e2;refine⟨G,ow,δ,_,R,W,λv H1 s1 Z=>?_⟩;obtain rfl:=RA.intE Z;exact⟨_,rfl,q H1 s1⟩
 ·cases e2
theorem CT(n d:Nat)(o:Option Int):HT.sIx n d o=pSx n d o:=by
 cases o<;>rfl
theorem RAs.cut{ok:Ok}(r:RAs K ok pl H vs l)(lo hi:Option Int):RAs K ok pl H (Fg vs lo hi) (cuD l lo hi):=by
 unfold Fg cuD;rw[r.length,CT,CT];exact(r.drop _).take _
theorem Px{lo hi:Option Expr}{p2:Pos}{fl1:FO}(h:DE X fl (.B L) a f)(h1:PO X lo (tDO X.K fl fl1))(h2:PO X hi (tDO X.K fl fh)):DE X fl .F (.Subscript a (.Slice lo hi none p2) pos) (dSl f fl1 fh):=PE.imp (Fe T_ h h1 h2) λσ H Q h=>by
 refine D3.ex4 h λG ow δ d R Y q=>?_
 refine D3.ex1 (bind1 Y) λx M Y=>?_
 refine D3.ex1 (bind1 Y) λU e2 Y=>?_
 refine D3.ex1 (bind1 Y) λV N W=>?_
 refine⟨G,ow,δ,x,R,M,λv H1 s1 S=>⟨G,ow,δ,U,R.grow s1,e2,λH2 s2=>⟨G,ow,δ,V,R.grow (s1.trans s2),N,λJ s3=>?_⟩⟩⟩;split at W
 ·cases W;obtain⟨p,xs,rfl,P,O⟩:=uP S;have Z:=s2.trans s3;exact⟨p,xs,rfl,Z.seq P,λpn T=>q _ _ ((s1.trans Z).trans (cM T _)) (FQ (G:=G) (s1.trans Z) T ((O.same Z).cut U V))⟩
 ·cases W
theorem FW{st:hI}:DS1 X fl st (λ_=>none):=PS.imp N8 λDn σ H h=>by
 refine D3.ex4 h λG ow δ o R Z q=>?_
 cases Z
end
end D3
variable{elts:List Expr}{tpos:Pos}
namespace D3
open L2 My
section
variable{X:Cx}{pins:List (Addr×Obj)}{σ:St}{H:Hp}{s:eS}{h':f8}
theorem Inv.turnedL(I:Inv X pins σ H s)(k:∀b o,b∉ch->s.heap.get? b=some o->h'.get? b=some o)(B:∀b∈ch,wu X pins H b):Inv X pins σ H {s with heap:=h',toks:=t'}:=by
 have Y:∀b u,H b=some u->b∉ch:=λb u e z=>by rw[(B b z).1]at e;cases e
 refine I.step (g':=s.gens) (d':=s.drawn) (ch:=ch) (λb V=>?_) (λb o _ _ Z e _=>k b o Z e) (λb o _ _ Z e _=>⟨o.slots,k b o Z e⟩) (λ_ _ _ _ n=>n)
  (λb o Z e=>⟨o,k b o Z e⟩) (λ_ _ e=>e) (λ_ _ _ e=>e) (λ_ _ _ e=>e) (λm hm=>?_) (λb u e=>?_) I.bare
 ·obtain⟨S,f1,f2,f3,T,U⟩:=B b V;exact⟨f3,f1,T,U⟩
 ·obtain⟨o,es,ep,W,r⟩:=hm;exact⟨o,es,ep,k _ o (λz=>(B _ z).2.1 rfl) W,r⟩
 ·refine(I.hok b u e).stay (λc v Z q=>k c v ?_ q) (λ_ q=>q) λ_ _ q=>q
  rcases Z with z|z
  ·rw[z];exact Y b u e
  ·exact Y c _ z
end
def Ite(K:PySem.W.Frag)(a:Addr):It:=
 ⟨λi H=>∃xs x,SqL K H a xs/\xs[i]? = some x,λi H x H'=>∃p y,H p=none/\H'=upd H p (.tup [.int i,y])/\x = .ref p/\∀xs,SqL K H a xs->xs[i]? = some y,λi H=>∃xs,SqL K H a xs/\xs.length<=i⟩
theorem Ms{x1}(a it:Addr):
 Turn P w K (.Tuple elts x1 tpos) (Ite K a) [it+1,it] (it+1) (λi h=>∃old,IsEnum h (it+1) it (i:Int) old/\h.IsListIter it a i) where
 mem:=by simp
 obj:=λi h st b Z=>by
  obtain⟨old,W,o,e,c,d⟩:=st;rcases aK.mp Z with z|z
  ·subst z;exact⟨_,W,λv z=>by cases z⟩
  ·have z:b=it:=by simpa using z
   subst z;exact⟨o,e,λv z=>by rw[d]at z;cases z⟩
 keep:=λi h h' st k=>by
  obtain⟨old,W,hi⟩:=st;exact⟨old,k _ (by simp) _ W,hi.at λo e=>k it (by simp) o e⟩
 item:=by
  intro X M hw L D i pins s σ H E I U st O;subst M hw L;obtain⟨xs,x,T,F⟩:=O;obtain⟨its,R,p,B⟩:=I.list T;obtain⟨u,hu,C⟩:=R.get F;obtain⟨old,W,hi⟩:=st;have V:=af W;refine wpAny_pyNext_enum_item W hi p.isList (x:=u) (by simpa using hu) (Nat.succ_ne_self it) λh1 r Q y t q=>?_
  refine⟨_,rfl,eD r λh2 N Y=>?_⟩
  replace Y:gm (it+1) h1 h2:=Y
  have hn:=I.hok.fresh (aB _);have j:Inv X pins σ (upd H s.heap.objs.size (.tup [.int (i:Int),x])) {s with heap:=s.heap.push {cls:=.type "tuple", data:=.seq #[.int (i:Int) s.toks,u]} }:=
   I.laid (t':=s.toks) (λb o e=>ad _ e) (aB _) ⟨show 2<=sizeLine by decide,[.int (i:Int) s.toks,u],.cons ⟨_,rfl⟩ (.cons C .nil),⟨_,ag _ rfl,rfl,_,rfl⟩⟩
  have ne:∀b,b∈[it+1,it]->b≠s.heap.objs.size:=λb Z=>by
   rcases aK.mp Z with S|S
   ·rw[S];exact aP V
   ·rw[show b=it by simpa using S];exact aP (cD V)
  have l:Inv X pins σ (upd H s.heap.objs.size (.tup [.int (i:Int),x])) {s with heap:=h2,toks:=s.toks+1}:=by
   refine Inv.turnedL (s:={s with heap:=s.heap.push {cls:=.type "tuple", data:=.seq #[.int (i:Int) s.toks,u]} }) (ch:=[it+1,it]) j (λb o Z e=>?_) λb Z=>⟨by rw[bF (ne b Z)];exact(U b Z).1,(U b Z).2⟩
   have G:b≠it+1:=λz=>Z (by simp[z])
   have m:b≠it:=λz=>Z (by simp[z])
   rcases cm e with⟨J,e2⟩|J
   ·subst J e2;exact(Y.2 _ G).trans y
   ·exact(Y.2 _ G).trans (q b o G m J)
  refine⟨.ref s.heap.objs.size,_,l,rfl,⟨_,x,hn,rfl,rfl,λys A=>by rwa[I.list_inj A T]⟩,⟨_,N,Q.at λo e=>(Y.2 _ (aP (fD it))).trans e⟩,λb Z=>?_⟩;rw[bF (ne b Z)];exact(U b Z).1
 done:=by
  intro X M hw L D i pins s σ H E I U st O;subst M hw L;obtain⟨xs,T,F⟩:=O;obtain⟨its,R,p,B⟩:=I.list T;obtain⟨old,W,hi⟩:=st;have g:=R.length;refine wpAny_pyNext_enum_end (I.ok.hd D) W hi p.isList (by simp;omega) λh' n=>⟨rfl,Inv.turnedL (t':=s.toks) (ch:=[it+1,it]) I (λb o Z e=>n b o (λz=>Z (by simp[z])) e) U⟩
 self:=λ_ _ _ _ _ st h=>by
  obtain⟨old,W,_⟩:=st;exact b9 W h
section
variable{X:Cx}{fl:List Fl}{a:Expr}{f:FE}{pos:Pos}
def ab8(K:PySem.W.Frag)(tl:TE):TI:=λσ H R=>tl σ H λx H1=>∃a,x = .ref a/\(∃xs,SqL K H1 a xs)/\R (Ite K a) H1
theorem Ur{x1}(O:Gl X "enumerate")(hm:X.mg "enumerate"=none)(J:PE X a tl)(D:starEach [a] X.env=(false,eval a X.env)::starEach [] X.env:=by rfl)
 (B:(backTo pos (starEach [] X.env)).any (·.1)=false:=by rfl):PI X (.Tuple elts x1 tpos) (.Call (.Name "enumerate" p) [a] [] pos) (ab8 X.K tl):=by
 intro pins s σ H R I h;refine ay (nH I O hm boot_enumerate (fw (thn ((jx J nJ D) pos pins s σ H (λvs H1=>match vs with|[x]=>∃a,x = .ref a/\(∃xs,SqL X.K H1 a xs)/\R (Ite X.K a) H1|_=>False) I h) λus s1 ⟨vs,H1,W,T,q1⟩=>?_) D B))
 cases T with
 |nil=>exact q1.elim
 |cons r U=>
  cases U with
  |cons _ _=>exact q1.elim
  |nil=>
  obtain⟨l,e,⟨xs,Q⟩,q⟩:=q1;subst e
  cases r;obtain⟨its,L,pl,G⟩:=W.list Q;refine call_enumerate_list pl.isList λh' Z V S P=>?_
  have M:=W.kept (t':=s1.toks) P;refine b9 (s:={s1 with heap:=h'}) Z ?_;refine⟨s1.heap.objs.size+1,[s1.heap.objs.size+1,s1.heap.objs.size],_,_,H1,rfl,M,Ms l s1.heap.objs.size,⟨_,Z,V⟩,λb N=>?_,q⟩;have Y:s1.heap.objs.size<=b:=by
   rcases aK.mp N with z|z
   ·rw[z];exact lD _
   ·rw[show b=s1.heap.objs.size by simpa using z];exact aB _
  exact W.fpOk Y (W.hok.fresh Y)
theorem Us{x1}(h:DE X fl (.B L) a f)(J:Gl X "enumerate")(hm:X.mg "enumerate"=none)(he:starEach [a] X.env=(false,eval a X.env)::starEach [] X.env:=by rfl)
 (D:(backTo pos (starEach [] X.env)).any (·.1)=false:=by rfl):DI X fl L (.Tuple elts x1 tpos) (.Call (.Name "enumerate" p) [a] [] pos) (JW f):=PI.imp (Ur J hm h he D) λσ H R' h=>by
 refine D3.ex4 h λG ow δ l R K q=>?_
 refine D3.ex1 (bind1 K) λd I e2=>?_
 cases d<;>first|(cases e2;done)|skip
 next V=>
 cases e2;refine⟨G,ow,δ,_,R,I,λv H1 s r=>?_⟩;obtain⟨a,xs,rfl,O,keep⟩:=wH (R.grow s) r;refine⟨a,rfl,⟨xs,O⟩,q _ _ s λH2 k2 i=>?_⟩;obtain⟨Y,U⟩:=keep H2 k2;refine⟨λd hd=>?_,λM=>⟨xs,Y,by rw[U.length];simpa[rO]using M⟩⟩;have Z:(V[i]?).map (λx=>e_ [.int (i:Int),x])=some d:=by
  have:=hd;unfold rO at this;rwa[fB]at this
 cases e:V[i]? with
 |none=>rw[e]at Z;cases Z
 |some F=>
  rw[e]at Z
  cases Z;obtain⟨y,T,Q⟩:=U.get e;refine⟨⟨xs,y,Y,T⟩,λx E W=>?_⟩;obtain⟨p,S,N,rfl,rfl,P⟩:=W;have:some y=some S:=T.symm.trans (P xs Y)
  cases this;have g:=cM N (.tup [.int (i:Int),y]);exact⟨g,.tup bT (.cons (.int _) (.cons (Q.same g) .nil))⟩
end
structure Bl(mg:Str->Option Value):Prop where
 len_:mg "len"=none
 range_:mg "range"=none
 abs_:mg "abs"=none
 isinstance_:mg "isinstance"=none
 int_:mg "int"=none
 bool_:mg "bool"=none
 tuple_:mg "tuple"=none
 list_:mg "list"=none
 str_:mg "str"=none
 max_:mg "max"=none
 min_:mg "min"=none
 sorted_:mg "sorted"=none
 sum_:mg "sum"=none
 reversed_:mg "reversed"=none
 enumerate_:mg "enumerate"=none
 zip_:mg "zip"=none
 set_:mg "set"=none
 any_:mg "any"=none
 all_:mg "all"=none
 dict_:mg "dict"=none
end D3
variable{dc:Value}{sl:Array (Option Value)}
namespace D3
open L2 My
structure FunD(K:PySem.W.Frag)(x:Str)(st:hI)(f:Addr)(fd:gk):Prop where
 ex:∃(oc:Value)(od:Option Addr)(dV kV doc pm:Value)(an:Option Addr)(cdv ct:Value)(osl:Array (Option Value)),
  fd=PySem.W.fnOf x x (o9 st) (jy st) (bH st) dV kV doc pm an cdv ct/\K.lookup f=some ⟨oc,od,.func fd,osl⟩/\PySem.W.codeIn K cdv x=true
 kp:PySem.W.keepIn K (.ref f)=true
structure Dg(K:PySem.W.Frag)(mg:Str->Option Value)(x:Str)(st:hI)(ps:List Str):Prop where
 ex:∃(f:Addr)(fd:gk),FunD K x st f fd/\Binds K fd ps []/\mg x=some (.ref f)
theorem ab9{kV:Value}{st:hI}(X:K.In h)(G:h.Ns mainGlobals mg)
 (B:∀(kV doc pm:Value)(an:Option Addr)(cdv ct:Value)(us:List Value),us.length=ps.length->bindArgs (PySem.W.fnOf x x (o9 st) (jy st) (bH st) .none kV doc pm an cdv ct) ⟨us,[]⟩=pure (ps.zip us))
 (a:PySem.W.nsIn K mainGlobals x=some (some (.ref f))) (l:K.lookup f=some ⟨oc,od,.func (PySem.W.fnOf x x (o9 st) (jy st) (bH st) .none kV dc pm an cd ct),sl⟩) (c:PySem.W.codeIn K cd x=true) (k:PySem.W.keepIn K (.ref f)=true):Dg K mg x st ps:=
 ⟨_,_,⟨⟨oc,od,.none,kV,dc,pm,an,cd,ct,sl,rfl,l,c⟩,k⟩,.all (B kV dc pm an cd ct),PySem.W.mg_of X G a⟩
structure Dl(K:PySem.W.Frag)(mg:Str->Option Value)(x y:Str)(st:hI):Prop where
 ex:∃(f:Addr)(fd:gk),FunD K x st f fd/\(∀(s:eS)(u:Value),BindsTo s fd ⟨[u],[]⟩ [(y,u)])/\mg x=some (.ref f)
theorem ac0{kV:Value}{y:Str}{st:hI}(X:K.In h)(G:h.Ns mainGlobals mg)
 (B:∀(kV doc pm:Value)(an:Option Addr)(cdv ct:Value)(u:Value),bindArgs (PySem.W.fnOf x x (o9 st) (jy st) (bH st) .none kV doc pm an cdv ct) ⟨[u],[]⟩=pure [(y,u)])
 (a:PySem.W.nsIn K mainGlobals x=some (some (.ref f))) (l:K.lookup f=some ⟨oc,od,.func (PySem.W.fnOf x x (o9 st) (jy st) (bH st) .none kV dc pm an cd ct),sl⟩) (c:PySem.W.codeIn K cd x=true) (k:PySem.W.keepIn K (.ref f)=true):Dl K mg x y st:=
 ⟨_,_,⟨⟨oc,od,.none,kV,dc,pm,an,cd,ct,sl,rfl,l,c⟩,k⟩,λs u=>.of_eq (B kV dc pm an cd ct u),PySem.W.mg_of X G a⟩
section
variable{P:e9}{w:fy}{K:PySem.W.Frag}{mg:Str->Option Value}{base:f8}{x:Str}{ps N:List Str}{st:hI}{k n:Nat}{fs:FS}{fl:List Fl}
theorem FunD.ok(F:FunD K x st f fd)(S:FnScope N ps (bH st))(len:∀vs H Q E,sp vs H Q E->vs.length=ps.length)
 (B:∀(cdv:Value)(A:fm)(outer:List Env)(s:eS)(H:Hp)(vs:List V)(Q:VK)(E:XK),Room k (A.deeper (envOfC x (bH st) s.heap.objs.size f cdv))->sp vs H Q E ->
  ∃t,PSs (Fb CX0 P w K mg base N x (bH st) f cdv A outer s H E).nox (jy st) t/\t {nx:=λ_ H'=>Q .non H',rt:=Q} (L2.start N vs) H):FnOk P w K mg base CX0 (k+1) f fd ps sp:=by
 obtain⟨oc,od,dV,kV,doc,pm,an,cdv,ct,osl,rfl,lk,Y⟩:=F.ex;refine Wt lk Y S len λA outer s H vs Q E X Z=>?_
 obtain⟨t,h,q⟩:=B cdv A outer s H vs Q E X Z;exact⟨t,h.nox,q⟩
theorem Py(O:FunD K x st f fd)(S:FnScope N ps (bH st))(D:∀i,i<ps.length->fl[i]? = some .A)(J:ps.length<=N.length)
 (B:∀(f:Addr)(cdv:Value)(A:fm)(outer:List Env)(s:eS)(H:Hp)(E:XK),Room k (A.deeper (envOfC x (bH st) s.heap.objs.size f cdv))->DSs (cx P w K mg base N x st f cdv A outer s H E) fl (jy st) fs) :
 FnOk P w K mg base CX0 (k+1) f fd ps (spD K (fnD ps.length (N.length-ps.length) fs)):=by
 refine O.ok S (λvs H Q E h=>?_) (λcdv A outer s H vs Q E X h=>?_)
 ·obtain⟨ds,d,r,Z,_⟩:=h;unfold fnD at Z;by_cases z:ds.length=ps.length
  ·rwa[r.2.length]
  ·rw[if_neg z]at Z;cases Z
 ·obtain⟨ds,d,r,Z,q⟩:=h;refine⟨_,B f cdv A outer s H E X,?_⟩;unfold fnD at Z;by_cases z:ds.length=ps.length
  ·rw[if_pos z]at Z;split at Z
   ·next W e=>
    cases Z;exact⟨_,_,_,_,mQ ps.length D z J r,e,λv H' s r=>q v H' s r⟩
   ·next δ' e=>
    cases Z;exact⟨_,_,_,_,mQ ps.length D z J r,e,λY σ' H' R'=>q .non H' R'.same0 .non⟩
   ·cases Z
  ·rw[if_neg z]at Z;cases Z
theorem iH(O:Dg K mg x st ps)(S:FnScope N ps (bH st))(D:∀i,i<ps.length->fl[i]? = some .A)(J:ps.length<=N.length)
 (B:∀(f:Addr)(cdv:Value)(A:fm)(outer:List Env)(s:eS)(H:Hp)(E:XK),Room k (A.deeper (envOfC x (bH st) s.heap.objs.size f cdv))->DSs (cx P w K mg base N x st f cdv A outer s H E) fl (jy st) fs) :
 Has P w K mg base (k+1) x ps (spD K (fnD ps.length (N.length-ps.length) fs)):=by
 obtain⟨f,fd,Z,b,m⟩:=O.ex;exact⟨f,fd,Py Z S D J B,b,Z.kp,m⟩
end
noncomputable def Pz(K:PySem.W.Frag):Sp:=λvs H Q _=>∃(a:Addr)(ns:List Int),Tb H/\vs=[.ref a]/\SqL K H a (ns.map V.int)/\ns.length<=63/\∀H',Q (.bl true) H'
theorem pD{ok:Ok}:∀ns:List Int,RAs K ok pl H (ns.map V.int) (ns.map eT)
 |[]=>.nil
 |n::r=>.cons (.int n) (pD r)
theorem Ut{F:List D->Option D}(B:∀ns:List Int,ns.length<=63->F [.list (ns.map .int)]=some (.bool true))(vs:List V)(H:Hp)(Q:VK)(E:XK)(h:Pz K vs H Q E):spD K F vs H Q E:=by
 obtain⟨a,ns,tb,rfl,Y,Z,q⟩:=h;refine⟨_,_,⟨tb,.cons ?_ .nil⟩,B ns Z,λv H' s r=>?_⟩
 ·rcases Y with(h|⟨o,h⟩)|h
  ·exact .lst h trivial (pD ns)
  ·exact .lsk (.inl ⟨o,h⟩) rfl (pD ns)
  ·exact .lsk (.inr h) rfl (pD ns)
 ·obtain rfl:=r.blE;exact q H'
end D3
namespace D3
open L2 My
section
variable{prog:e9}{w:fy}{A:fm}{E:Value->eS->Prop}{s:eS}
end
section
variable{X:Cx}{fl:List Fl}{a:Expr}{f:FE}{pos p p2 pos2:Pos}
end
section
variable{X:Cx}{fl:List Fl}{a b:Expr}{pos p p2 pos2:Pos}{fa:FA}
theorem J8{f:Nat->V}:∀(us:List Value)(k:Nat),(∀j v,us[j]? = some v->RelV (f (k+j)) v)->Vals ((lE k us.length).map f) us
 |[],_,_=>.nil
 |u::r,k,h=>by
  rw[aR,List.range'_succ,aF];refine .cons (h 0 u rfl) (J8 r (k+1) λj v Z=>?_);have:=h (j+1) v (by simpa using Z);rwa[show k+1+j=k+(j+1)by omega]
theorem PB{ok:Ok}(lo:Int):∀(n k:Nat),RAs K ok pl H ((lE k n).map λ(j:Nat)=>V.int (lo+(j:Int))) ((lE k n).map λ(j:Nat)=>eT (lo+(j:Int)))
 |0,_=>.nil
 |n+1,k=>by
  rw[List.range'_succ,aF,aF];exact .cons (.int _) (PB lo n (k+1))
end
end D3
variable{fl:List D3.Fl}
namespace D3
open L2 My
section
variable{X:Cx}
theorem sI:∀{ns:List Int}{its:List Value},Vals (ns.map V.int) its->gS its ns
 |[],_,.nil=>.nil
 |n::r,_,.cons h t=>by
  obtain⟨k,rfl⟩:=h;exact .cons _ _ (sI t)
theorem vJ{ok:Ok}:∀{l:List D}{ns:List Int}{ys:List V},dF l=some ns->RAs K ok pl H ys l->ys=ns.map V.int
 |[],_,_,e,.nil=>by cases e;rfl
 |d::r,ns,_,e,.cons h t=>by
  cases d<;>first|(cases e;done)|skip
  obtain rfl:=h.intE
  cases e2:dF r with
  |none=>rw[dF,e2]at e;cases e
  |some m=>
   rw[dF,e2]at e
   cases e;rw[vJ e2 t];rfl
theorem Mt(B:X.calm=true):lG X (.builtin "max") (λxs H Q=>∃(p:Addr)(i:Int)(r:List Int),xs=[.ref p]/\SqL X.K H p ((i::r).map V.int)/\Q (.int (mxI i r)) H):=by
 intro pins s σ H xs us Q I r h;obtain⟨p,i,Y,rfl,O,q⟩:=h;obtain⟨u,rfl,S⟩:=vals1 r
 cases S;obtain⟨its,W,pl,G⟩:=I.list O;have hi:=sI W;obtain⟨xs,e⟩:=hi.allInts.items;have Z:i::Y=xs.toList.map (·.1):=by rw[<-hi.numsOf,<-nums_intItems,<-e]
 have U:0<xs.size:=by
  have T:0<(i::Y).length:=by simp
  rw[Z,aq,aY]at T;exact T
 have M:=e▸pl.isList;refine max_intList (I.ok.hd B) M U λv h' tk N L=>?_
 obtain⟨t,rfl⟩:=intItems_at N;obtain⟨h1,h2⟩:=argBest_gt (numAt xs) (xs.size-1);have P:numAt xs (argBest (λi j=>decide (numAt xs i>numAt xs j)) (xs.size-1))∈i::Y:=by
  rw[Z,numAt_eq];exact getD_mem (by rw[aq,aY];omega)
 have R:∀a∈i::Y,a<=numAt xs (argBest (λi j=>decide (numAt xs i>numAt xs j)) (xs.size-1)):=λa ha=>by
  rw[Z]at ha;obtain⟨j,J,rfl⟩:=mem_getD ha;rw[aq,aY]at J;rw[<-numAt_eq];exact h2 j (by omega)
 have sp:=vp Y i;have eq:=rM (sp.2 _ P) (R _ sp.1);rw[eq];exact⟨.int _,H,I.kept L,⟨_,rfl⟩,q⟩
theorem Ye:BrC K (λxs H Q=>∃(p:Addr)(i:Int)(r:List Int),xs=[.ref p]/\SqL K H p ((i::r).map V.int)/\Q (.int (mxI i r)) H) yU:=by
 intro H xs ds d Q r e q;unfold yU at e;split at e
 ·next l=>
  split at e
  ·next i X e2=>
   cases e
   cases r with
   |cons Y Z=>
    cases Z;obtain⟨a,ys,rfl,W,U⟩:=Y.lstE;obtain rfl:=vJ e2 U;exact⟨a,i,X,rfl,W,q _ rfl (.int _)⟩
  ·cases e
 ·cases e
theorem wI:∀{l m:List Int},l.Perm m->l.Pairwise (· <= ·)->m.Pairwise (· <= ·)->l=m
 |[],m,p,_,_=>p.nil_eq
 |a::l,m,p,h1,h2=>by
  cases m with
  |nil=>exact absurd p.length_eq (by simp)
  |cons b m=>
   obtain⟨V,W⟩:=bJ.mp h1;obtain⟨X,Y⟩:=bJ.mp h2;have e:a=b:=by
    have x1:=p.mem_iff.mp ak;have Z:=p.mem_iff.mpr ak;rcases aK.mp x1 with z|z
    ·exact z
    ·rcases aK.mp Z with y|y
     ·exact y.symm
     ·exact rM (V b y) (X a z)
   subst e;rw[wI (ie p) W Y]
theorem oA:∀{ns:List Int}{its:List Value},gS its ns->Vals (ns.map V.int) its
 |_,_,.nil=>.nil
 |_,_,.cons n t r=>.cons ⟨t,rfl⟩ (oA r)
theorem CV:lG X (.builtin "sorted") (λxs H Q=>∃(p:Addr)(ns:List Int),xs=[.ref p]/\SqL X.K H p (ns.map V.int)/\ns.length<64/\∀l,H l=none->Q (.ref l) (upd H l (.lst ((Cz ns).map V.int)))):=by
 intro pins s σ H xs us Q I r h;obtain⟨p,ns,rfl,S,Y,q⟩:=h;obtain⟨u,rfl,W⟩:=vals1 r
 cases W;obtain⟨its,Z,pl,L⟩:=I.list S;have hi:=sI Z;refine sorted_ints pl.isList hi (by rwa[hi.length]) λout U N O P=>?_
 obtain rfl:=wI (O.trans (p8 ns).symm) P (sG ns);obtain⟨e,R⟩:=sortedAll_at s.heap its out;have hn:=I.hok.fresh (lD _);have T:=(p8 ns).length_eq;have M:=I.laid (h':=sortedAll s.heap its out) (t':=s.toks) (a:=s.heap.objs.size+1) (o:=.lst ((Cz ns).map V.int)) (λb u e=>sortedAll_old e) (lD _)
  ⟨by rw[aq,T];exact aW (cG Y) (by decide),out.toList,e,oA N,by simpa[seqObj]using R⟩
 exact⟨.ref _,_,M,rfl,q _ hn⟩
theorem Mu(ha:DB X fl .P [e] fa)(D:Gl X "sorted")(hm:X.mg "sorted"=none)
 (J:starEach [e] X.env=(false,eval e X.env)::starEach [] X.env:=by rfl) (B:(backTo pos (starEach [] X.env)).any (·.1)=false:=by rfl):DE X fl .FC (.Call (.Name "sorted" p) [e] [] pos) (dCall OJ fa):=
 PE.imp (nq CV D hm (show bootBuiltins "sorted"=some (.builtin "sorted")by decide +kernel) ha (by decide) (by decide) J B) λσ H Q h=>by
 refine D3.ex4 h λG ow δ d R S q=>?_
 refine D3.ex1 (bind1 S) λds O e2=>?_
 refine⟨G,ow,δ,ds,R,O,λvs H' s r'=>?_⟩;unfold OJ at e2;split at e2
 ·next l=>
  cases Y:dF l with
  |none=>rw[Y]at e2;cases e2
  |some ns=>
   rw[Y,aC]at e2;by_cases Z:ns.length<64
   ·rw[if_pos Z]at e2
    cases e2
    cases r' with
    |cons V W=>
     cases W;obtain⟨a,ys,rfl,U,T⟩:=V.lstE;obtain rfl:=vJ Y T;exact⟨a,ns,rfl,U,Z,λl hn=>q _ _ (s.trans (cM hn _)) (.inr ⟨_,_,_,rfl,rfl,s.free hn,bT,pD _⟩)⟩
   ·rw[if_neg Z]at e2;cases e2
 ·cases e2
end
end D3
namespace D3
open L2 My
def gK(n:Nat)(us ws:List α):List α:=if ws.length=n then us++ws else []
structure HasD(P:e9)(w:fy)(K:PySem.W.Frag)(mg:Str->Option Value)(base:f8)(n:Nat)(x:Str)(ps:List Str)(sp:Sp)(dvs:List V)(ks:List Str):Prop where
 ex:∃(f:Addr)(fd:gk)(ds:List Value),FnOk P w K mg base CX0 n f fd ps sp/\Binds K fd ps ds/\Vals dvs ds/\KBinds K fd ps ks (gK ks.length) (gK ks.length)/\PySem.W.keepIn K (.ref f)=true/\mg x=some (.ref f)
structure DgD(K:PySem.W.Frag)(mg:Str->Option Value)(x:Str)(st:hI)(ps:List Str)(dvs:List V)(ks:List Str):Prop where
 ex:∃(f:Addr)(fd:gk)(ds:List Value),FunD K x st f fd/\Binds K fd ps ds/\Vals dvs ds/\KBinds K fd ps ks (gK ks.length) (gK ks.length)/\mg x=some (.ref f)
section
variable{P:e9}{w:fy}{K:PySem.W.Frag}{mg:Str->Option Value}{base:f8}{x:Str}{ps N ks:List Str}{st:hI}{k n:Nat}{fs:FS}{fl:List Fl}{dvs:List V}
end
section
variable{X:Cx}{fl:List Fl}{e ke:Expr}{es:List Expr}{pos p kpos:Pos}{x kn:Str}{ps:List Str}{n:Nat}{F:List D->Option D}{fa:FA}{fk:FE}{i:Int}{dvs:List V}
theorem Yg:BrC K (λxs H Q=>(∃i,xs=[.int i]/\Q (.int i) H)\/∃k,xs=[.bl k]/\Q (.int (if k then 1 else 0)) H) q_:=by
 intro H xs ds d Q r e q;unfold q_ at e;split at e
 ·cases e
  cases r with
  |cons Y Z=>
   cases Z;obtain rfl:=Y.intE;exact .inl ⟨_,rfl,q _ rfl (.int _)⟩
 ·cases e
  cases r with
  |cons Y Z=>
   cases Z;obtain rfl:=Y.blE;exact .inr ⟨_,rfl,q _ rfl (.int _)⟩
 ·cases e
theorem Yh{j pos'}{a:Expr}{f:FE}(h:DE X fl .P a f):DT X fl (.Compare a [.Is] [.Constant .none j pos'] pos) (bG (dUn Fz f)):=PT.imp (NZ (Xf h)) λσ H Q h=>by
 refine D3.ex4 h λG ow δ c R Y q=>?_
 refine D3.ex1 (bind1 Y) λd U e2=>?_
 refine D3.ex1 (bind1 U) λx V W=>?_
 cases W
 cases e2;refine⟨G,ow,δ,x,R,V,λv H1 s1 Z=>?_⟩;refine⟨decide (v = .non),rfl,?_⟩;rw[Yb (RA.same (Same.refl H1) Z)];exact q H1 s1
theorem CW(ha:DB X fl .P [e] fa)(D:Gl X "int")(hm:X.mg "int"=none)
 (J:starEach [e] X.env=(false,eval e X.env)::starEach [] X.env:=by rfl) (B:(backTo pos (starEach [] X.env)).any (·.1)=false:=by rfl):DE X fl .FC (.Call (.Name "int" p) [e] [] pos) (dCall q_ fa):=
 PE.imp (pY LR D hm boot_int ha (by decide) (by decide) J B) λσ H Q h=>by
 refine D3.ex4 h λG ow δ d R W q=>?_
 refine D3.ex1 (bind1 W) λds V e2=>?_
 exact⟨G,ow,δ,ds,R,V,λvs H' s r'=>Yg H' vs ds d Q r' e2 λv Y Z=>q v H' s (.inl ⟨Y,Z⟩)⟩
end
end D3
variable{z i1 i2 l1 l2:Addr}{k1 k2:Nat}{ys:Array Value}
namespace D3
open L2 My
section
variable{X:Cx}
theorem FZ:∀{bs:List Bool}{its:List Value},Vals (bs.map V.bl) its->its=bs.map gq
 |[],_,.nil=>rfl
 |b::r,_,.cons h t=>by
  cases h;rw[FZ t];rfl
theorem all_range(bs:List Bool):(aQ bs.length).all (λi=>bs.getD i false)=bs.all id:=by
 rw[Bool.eq_iff_iff,cQ,cQ]
 constructor
 ·intro h b Z;obtain⟨i,hi,rfl⟩:=iW Z;have:=h i (bf.mpr hi);rwa[aG,aA hi]at this
 ·intro h i hi;have hi:=bf.mp hi;rw[aG,aA hi];exact h _ (cV hi)
theorem Ga(bs:List Bool):TruthOf prog w A (λi v=>(bs.map gq).toArray[i]? = some v) (λi=>bs.getD i false):=by
 intro i v s Q E X W;have Z:(bs.map gq)[i]? = some v:=by simpa using X
 rw[aU]at Z
 cases e:bs[i]? with
 |none=>rw[e]at Z;cases Z
 |some b=>
  rw[e]at Z
  cases Z;have V:bs.getD i false=b:=by rw[aG,e];rfl
  have Y:Q (bs.getD i false) s:=W;rw[V]at Y;exact aw Y
theorem tK(B:X.calm=true):lG X (.builtin "all") (λxs H Q=>∃(p:Addr)(bs:List Bool),xs=[.ref p]/\SqL X.K H p (bs.map V.bl)/\Q (.bl (bs.all id)) H):=by
 intro pins s σ H xs us Q I r h;obtain⟨p,bs,rfl,T,q⟩:=h;obtain⟨u,rfl,U⟩:=vals1 r
 cases U;obtain⟨its,Z,pl,R⟩:=I.list T;obtain rfl:=FZ Z;have W:=pl.isList;have Y:p<s.heap.objs.size:=by obtain⟨_,e,_⟩:=id W;exact af e
 refine call_all_walk (dt W ?_);refine⟨_,_,_,_,_,_,_,rfl,Walks.list (A:=X.A.in1) (I.ok.hd B) _ p (aP Y) (bs.map gq).toArray,⟨⟨_,ag _ rfl,rfl,rfl⟩,W.push _⟩,Ga bs,λh' tk S=>?_⟩;have e:(bs.map gq).toArray.size=bs.length:=by simp
 rw[e,all_range];exact⟨.bl _,H,I.kept (old_kept S),rfl,q⟩
theorem Bv{ok:Ok}:∀{l:List D}{bs:List Bool}{ys:List V},jA l=some bs->RAs K ok pl H ys l->ys=bs.map V.bl
 |[],_,_,e,.nil=>by cases e;rfl
 |d::r,bs,_,e,.cons h t=>by
  cases d<;>first|(cases e;done)|skip
  obtain rfl:=h.blE
  cases e2:jA r with
  |none=>rw[jA,e2]at e;cases e
  |some m=>
   rw[jA,e2]at e
   cases e;rw[Bv e2 t];rfl
theorem J9:BrC K (λxs H Q=>∃(p:Addr)(bs:List Bool),xs=[.ref p]/\SqL K H p (bs.map V.bl)/\Q (.bl (bs.all id)) H) yW:=by
 intro H xs ds d Q r e q;unfold yW at e;split at e
 ·next l=>
  cases e2:jA l with
  |none=>rw[e2]at e;cases e
  |some bs=>
   rw[e2]at e
   cases e
   cases r with
   |cons Y Z=>
    cases Z;obtain⟨a,ys,rfl,X,W⟩:=Y.lstE;obtain rfl:=Bv e2 W;exact⟨a,bs,rfl,X,q _ rfl (.bl _)⟩
 ·cases e
end
section
variable{X:Cx}{fl:List Fl}{a:Expr}{f:FE}{pos:Pos}{ta:TE}
theorem Uu{j pos'}(ha:PE X a ta):PC X .IsNot a (.Constant (.bool true) j pos') (λσ H Q=>ta σ H λx H1=>∃b,x = .bl b/\Q (.bl (!b)) H1):=by
 intro pins s σ H Q I h;refine thn (ha pins s σ H _ I h) λv s1 ⟨x,H1,Z,Y,q1⟩=>?_
 obtain⟨b,rfl,q⟩:=q1
 cases Y;refine Constant_bool ?_
 cases b
 ·exact ae ⟨.bl true,H1,Z,rfl,q⟩
 ·exact ae ⟨.bl false,H1,Z,rfl,q⟩
end
section
variable{X:Cx}{fl:List Fl}{a b c:Expr}{f fa fb fc:FE}{pos:Pos}
theorem zj{g:D->D->Option D}(ho:OpR X (compareOp op) r)(B:OpR X (compareOp op') r')(hb:BrO X.K r g)(J:BrO X.K r' g')(h1:DE X fl .P a fa)(h2:DE X fl .P b fb)(h3:DE X fl .P c fc)
 (hm:lastMarks [op,op'] [b,c]=false:=by with_unfolding_all rfl):DT X fl (.Compare a [op,op'] [b,c] pos) (bG (k_ g g' fa fb fc)):=PT.imp (Oi ho B h1 h2 h3 hm) λσ H Q h=>by
 refine D3.ex4 h λG ow δ E R Z q=>?_
 refine D3.ex1 (bind1 Z) λd Z hd=>?_
 have W:d = .bool E:=by cases d<;>first|(cases hd;rfl)|(cases hd;done)
 subst W;refine D3.ex1 (bind1 Z) λx F Z=>?_
 refine D3.ex1 (bind1 Z) λy e2 Z=>?_
 refine D3.ex1 (bind1 Z) λz I Z=>?_
 refine⟨G,ow,δ,x,R,F,λv H1 s1 O=>⟨G,ow,δ,y,R.grow s1,e2,λu H2 s2 V=>?_⟩⟩;refine hb H2 v u x y z _ (RA.same s2 O) V I λC N Y=>?_
 split at Z
 ·obtain rfl:=Y.blE;refine D3.ex1 (bind1 Z) λw L M=>?_
  refine⟨true,rfl,Ax ⟨G,ow,δ,w,R.grow (s1.trans s2),L,λT U s3 S=>?_⟩⟩;refine J U u T y w _ _ (RA.same s3 V) S M λz N Y=>?_
  obtain rfl:=Y.blE;exact⟨_,rfl,q U (s1.trans (s2.trans s3))⟩
 ·obtain rfl:=Y.blE
  cases Z;exact⟨false,rfl,Aw ⟨_,rfl,q H2 (s1.trans s2)⟩⟩
 ·cases Z
theorem Uv{j pos'}(h:DE X fl .P a f):DT X fl (.Compare a [.IsNot] [.Constant (.bool true) j pos'] pos) (bG (dUn O3 f)):=PT.imp (NZ (Uu h)) λσ H Q h=>by
 refine D3.ex4 h λG ow δ V R Z q=>?_
 refine D3.ex1 (bind1 Z) λd Z hd=>?_
 refine D3.ex1 (bind1 Z) λx W e2=>?_
 cases x<;>first|(cases e2;done)|skip
 cases e2
 cases hd;refine⟨G,ow,δ,_,R,W,λv H1 s1 Y=>?_⟩;obtain rfl:=RA.blE Y;exact⟨_,rfl,_,rfl,q H1 s1⟩
end
def Itz(K:PySem.W.Frag)(a b:Addr):It:=
 ⟨λi H=>∃xs ys x y,SqL K H a xs/\SqL K H b ys/\xs[i]? = some x/\ys[i]? = some y,
  λi H x H'=>∃p u v,H p=none/\H'=upd H p (.tup [u,v])/\x = .ref p/\(∀xs,SqL K H a xs->xs[i]? = some u)/\∀ys,SqL K H b ys->ys[i]? = some v,
  λi H=>∃xs ys,SqL K H a xs/\SqL K H b ys/\(xs.length<=i\/ys.length<=i)⟩
theorem wJ{TI TO:Addr}{f0 a b:Value}{x y:Value}{xs:Array Value}(hz:IsZip h z TI TO f0)(D:gX h TI x y)(B:gX h TO a b)(h1:h.IsListIter i1 l1 k1)(h2:h.IsListIter i2 l2 k2)(O:h.IsList l1 xs)(J:h.IsList l2 ys)(nT:TI≠TO)(ni:i1≠i2):
 ip z TI TO i1 i2 l1 l2:=by
 obtain⟨U,Z,X,Q⟩:=h1;obtain⟨V,e2,Y,R⟩:=h2;obtain⟨p1,g1,k1,S⟩:=O;obtain⟨p2,g2,k2,T⟩:=J;have ne:∀{u v:Addr}{o o':Obj},h.get? u=some o->h.get? v=some o'->o.cls≠o'.cls->u≠v:=λe W n z=>by
  subst z;rw[e]at W
  cases W;exact n rfl
 exact⟨ne D hz (by simp),ne B hz (by simp),ne Z hz (by rw[X];simp),ne e2 hz (by rw[Y];simp),nT,ne D Z (by rw[X];simp),ne D e2 (by rw[Y];simp),ne B Z (by rw[X];simp),ne B e2 (by rw[Y];simp),ni,
  ne g1 hz (by rw[k1];simp),ne g1 B (by rw[k1];simp),ne g1 Z (by rw[k1,X];simp),ne g1 e2 (by rw[k1,Y];simp),ne g2 hz (by rw[k2];simp),ne g2 B (by rw[k2];simp),ne g2 Z (by rw[k2,X];simp),ne g2 e2 (by rw[k2,Y];simp)⟩
theorem PJ{x1}(a b z TI TO i1 i2:Addr)(nT:TI≠TO)(ni:i1≠i2):
 Turn P w K (.Tuple elts x1 tpos) (Itz K a b) [z,TI,TO,i1,i2] z (λi h=>IsZip h z TI TO .none/\gX h TI (.ref i1) (.ref i2)/\(∃u v,gX h TO u v)/\h.IsListIter i1 a i/\h.IsListIter i2 b i) where
 mem:=by simp
 obj:=λi h st c Z=>by
  obtain⟨V,Y,⟨u,v,W⟩,⟨o1,e1,c1,d1⟩,⟨o2,e2,c2,d2⟩⟩:=st;simp only[aK,cR,or_false]at Z;rcases Z with rfl|rfl|rfl|rfl|rfl
  ·exact⟨_,V,λv z=>by cases z⟩
  ·exact⟨_,Y,λv z=>by cases z⟩
  ·exact⟨_,W,λv z=>by cases z⟩
  ·exact⟨o1,e1,λv z=>by rw[d1]at z;cases z⟩
  ·exact⟨o2,e2,λv z=>by rw[d2]at z;cases z⟩
 keep:=λi h h' st k=>by
  obtain⟨V,Y,⟨u,v,W⟩,h1,h2⟩:=st;exact⟨k _ (by simp) _ V,k _ (by simp) _ Y,⟨u,v,k _ (by simp) _ W⟩,h1.at λo e=>k i1 (by simp) o e,h2.at λo e=>k i2 (by simp) o e⟩
 item:=by
  intro X g hw f Z i pins s σ H E I F st j;subst g hw f;obtain⟨xs,ys,x,y,T,U,J,hy⟩:=j;obtain⟨L,R,N,n⟩:=I.list T;obtain⟨M,S,O,p⟩:=I.list U;obtain⟨B,l,t⟩:=R.get J;obtain⟨C,m,A⟩:=S.get hy;obtain⟨V,Y,⟨u,v,W⟩,h1,h2⟩:=st;have D:=wJ V Y W h1 h2 N.isList O.isList nT ni;have r:∀c∈[z,TI,TO,i1,i2],c<s.heap.objs.size:=λc Z=>by
   simp only[aK,cR,or_false]at Z;rcases Z with rfl|rfl|rfl|rfl|rfl
   ·exact af V
   ·exact af Y
   ·exact af W
   ·obtain⟨o,e,_⟩:=h1;exact af e
   ·obtain⟨o,e,_⟩:=h2;exact af e
  refine wpAny_pyNext_zip_item D V Y W h1 h2 N.isList O.isList (x:=B) (y:=C) (by simpa using l) (by simpa using m) λhh g1 g2 g3 g4 g5 g6 g7=>?_
  refine⟨_,rfl,wpAny_letOwnedTupleGo_zip g1 λG e1 e2=>?_⟩
  replace e2:gm z hh G:=e2
  have hn:=I.hok.fresh (aB _);have I0:Inv X pins σ (upd H s.heap.objs.size (.tup [x,y])) {s with heap:=s.heap.push {cls:=.type "tuple", data:=.seq #[B,C]} }:=
   I.laid (t':=s.toks) (λb o e=>ad _ e) (aB _) ⟨show 2<=sizeLine by decide,[B,C],.cons t (.cons A .nil),⟨_,ag _ rfl,rfl,_,rfl⟩⟩
  have ne:=λc Z=>aP (r c Z)
  have I1:Inv X pins σ (upd H s.heap.objs.size (.tup [x,y])) {s with heap:=G,toks:=s.toks}:=by
   refine Inv.turnedL (s:={s with heap:=s.heap.push {cls:=.type "tuple", data:=.seq #[B,C]} }) (ch:=[z,TI,TO,i1,i2]) I0 (λc o Z e=>?_) λc Z=>⟨by rw[bF (ne c Z)];exact(F c Z).1,(F c Z).2⟩
   have b1:c≠z:=λq=>Z (by simp[q])
   have b2:c≠TO:=λq=>Z (by simp[q])
   have b3:c≠i1:=λq=>Z (by simp[q])
   have b4:c≠i2:=λq=>Z (by simp[q])
   rcases cm e with⟨d,e4⟩|d
   ·subst d e4;exact(e2.2 _ b1).trans g5
   ·exact(e2.2 _ b1).trans (g7 c o b1 b2 b3 b4 d)
  refine⟨.ref s.heap.objs.size,_,I1,rfl,⟨_,x,y,hn,rfl,rfl,λzs Q=>by rwa[I.list_inj Q T],λzs Q=>by rwa[I.list_inj Q U]⟩,⟨e1,(e2.2 _ D.TIz).trans (g7 _ _ D.TIz D.TITO D.TIi1 D.TIi2 Y),⟨_,_,(e2.2 _ D.TOz).trans g2⟩,g3.at λo e=>(e2.2 _ D.i1z).trans e,g4.at λo e=>(e2.2 _ D.i2z).trans e⟩,λc Z=>?_⟩;rw[bF (ne c Z)];exact(F c Z).1
 done:=by
  intro X g hw f Z i pins s σ H E I F st j;subst g hw f;obtain⟨xs,ys,T,U,J⟩:=j;obtain⟨L,R,N,n⟩:=I.list T;obtain⟨M,S,O,p⟩:=I.list U;obtain⟨V,Y,⟨u,v,W⟩,h1,h2⟩:=st;have D:=wJ V Y W h1 h2 N.isList O.isList nT ni;have la:=R.length;have lb:=S.length;refine wpAny_pyNext_zip_end (I.ok.hd Z) D V Y W h1 h2 N.isList O.isList ?_ λh' eb=>⟨rfl,Inv.turnedL (t':=s.toks) (ch:=[z,TI,TO,i1,i2]) I (λc o Z e=>eb c o (λq=>Z (by simp[q])) (λq=>Z (by simp[q])) (λq=>Z (by simp[q])) (λq=>Z (by simp[q])) e) F⟩
  rcases J with J|J
  ·exact .inl (by simp;omega)
  ·exact .inr (by simp;omega)
 self:=λ_ _ _ _ _ st h=>d0 st.1 h
section
variable{X:Cx}{fl:List Fl}{a b:Expr}{f g:FE}{pos:Pos}
def al2(K:PySem.W.Frag)(ta tb:TE):TI:=λσ H R=>ta σ H λx H1=>tb σ H1 λy H2=>∃p q,x = .ref p/\y = .ref q/\(∃xs,SqL K H2 p xs)/\(∃ys,SqL K H2 q ys)/\R (Itz K p q) H2
theorem boot_zip:bootBuiltins "zip"=some (.type "zip"):=by decide +kernel
theorem Yi{x1}{ta tb:TE}(hg:Gl X "zip")(hm:X.mg "zip"=none)(ha:PE X a ta)(B:PE X b tb)(O:starEach [a,b] X.env=(false,eval a X.env)::starEach [b] X.env:=by rfl)(J:starEach [b] X.env=(false,eval b X.env)::starEach [] X.env:=by rfl)
 (D:(backTo pos (starEach [b] X.env)).any (·.1)=false:=by rfl):PI X (.Tuple elts x1 tpos) (.Call (.Name "zip" p) [a,b] [] pos) (al2 X.K ta tb):=by
 intro pins s σ H R I h;refine ay (nH I hg hm boot_zip (fw (thn ((jx ha (jx B nJ J) O) pos pins s σ H (λvs H1=>match vs with|[x,y]=>∃p q,x = .ref p/\y = .ref q/\(∃xs,SqL X.K H1 p xs)/\(∃ys,SqL X.K H1 q ys)/\R (Itz X.K p q) H1|_=>False) I h) λus s1 ⟨vs,H1,Y,Q,q1⟩=>?_) O D))
 cases Q with
 |nil=>exact q1.elim
 |cons r S=>
  cases S with
  |nil=>exact q1.elim
  |cons r' W=>
  cases W with
  |cons _ _=>exact q1.elim
  |nil=>
  obtain⟨l,m,e,F,⟨xs,N⟩,⟨ys,V⟩,q⟩:=q1;subst e F
  cases r
  cases r';obtain⟨its,C,pl,A⟩:=Y.list N;obtain⟨U,T,pl',P⟩:=Y.list V;refine call_zip_2 pl.isList pl'.isList λh' g1 g2 g3 G L z M=>?_
  have E:=Y.kept (t':=s1.toks) M;refine d0 (s:={s1 with heap:=h'}) g1 ?_;refine⟨s1.heap.objs.size+4,[s1.heap.objs.size+4,s1.heap.objs.size+2,s1.heap.objs.size+3,s1.heap.objs.size,s1.heap.objs.size+1],_,_,H1,rfl,E,PJ l m (s1.heap.objs.size+4) (s1.heap.objs.size+2) (s1.heap.objs.size+3) s1.heap.objs.size (s1.heap.objs.size+1) (aP (fD _)) (aP (fD _)),⟨g1,g2,⟨_,_,g3⟩,G,L⟩,λb B=>?_,q⟩;have Z:s1.heap.objs.size<=b:=by
   simp only[aK,cR,or_false]at B;rcases B with rfl|rfl|rfl|rfl|rfl<;>omega
  exact Y.fpOk Z (Y.hok.fresh Z)
theorem zm:∀(l m:List D)(i:Nat),(jM l m)[i]? = (l[i]?).bind λx=>(m[i]?).map λy=>e_ [x,y]
 |[],_,i=>by simp[jM]
 |_::_,[],i=>by cases i<;>simp[jM]
 |x::l,y::m,0=>by simp[jM]
 |x::l,y::m,i+1=>by simp[jM,zm l m i]
theorem sJ:∀(l m:List D),(jM l m).length=min l.length m.length
 |[],_=>by simp[jM]
 |_::_,[]=>by simp[jM]
 |x::l,y::m=>by simp[jM,sJ l m]
theorem RsB.same(e:Same H H')(h:Rs K G.H0 ow Hb H (.B L) v d):Rs K G.H0 ow Hb H' (.B L) v d:=by
 rcases h with h|⟨i,hi,a,xs,ds,h1,h2,X,Y,Z⟩
 ·exact .inl (RA.same e h)
 ·exact .inr ⟨i,hi,a,xs,ds,h1,h2,X,e _ _ Y,Z.same e⟩
theorem PK{x1}{L1 L2:List Nat}(ha:DE X fl (.B L1) a f)(hb:DE X fl (.B L2) b g)(hg:Gl X "zip")(hm:X.mg "zip"=none)(hL:L=L1++L2:=by rfl)
 (he:starEach [a,b] X.env=(false,eval a X.env)::starEach [b] X.env:=by rfl) (J:starEach [b] X.env=(false,eval b X.env)::starEach [] X.env:=by rfl)
 (D:(backTo pos (starEach [b] X.env)).any (·.1)=false:=by rfl):DI X fl L (.Tuple elts x1 tpos) (.Call (.Name "zip" p) [a,b] [] pos) (O2 f g):=PI.imp (Yi hg hm ha hb he J D) λσ H R' h=>by
 subst hL;refine D3.ex4 h λG ow δ l R W q=>?_
 refine D3.ex1 (bind1 W) λd e1 W=>?_
 refine D3.ex1 (bind1 W) λE e2 W=>?_
 obtain⟨P,rfl⟩:∃P,d = .list P:=by cases d<;>first|exact⟨_,rfl⟩|(cases W;done)
 obtain⟨Q,rfl⟩:∃Q,E = .list Q:=by cases E<;>first|exact⟨_,rfl⟩|(cases W;done)
 cases W;refine⟨G,ow,δ,_,R,e1,λv H1 s1 m=>⟨G,ow,δ,_,R.grow s1,e2,λv' H2 s2 n=>?_⟩⟩;have S:=RsB.same s2 m;obtain⟨j,xs,rfl,hx,Y⟩:=wH ((R.grow s1).grow s2) S;obtain⟨k,ys,rfl,c,Z⟩:=wH ((R.grow s1).grow s2) n;refine⟨j,k,rfl,rfl,⟨xs,hx⟩,⟨ys,c⟩,q _ _ (s1.trans s2) λt F i=>?_⟩;obtain⟨I,A⟩:=Y t λb o e z=>F b o e λi w=>bN _ (z i w)
 obtain⟨K,C⟩:=Z t λb o e z=>F b o e λi w=>bx _ (z i w)
 refine⟨λd hd=>?_,λhl=>⟨xs,ys,I,K,?_⟩⟩
 ·rw[zm]at hd
  cases T:P[i]? with
  |none=>rw[T]at hd;cases hd
  |some x0=>
   cases M:Q[i]? with
   |none=>rw[T,M]at hd;cases hd
   |some y0=>
    rw[T,M]at hd
    cases hd;obtain⟨x,U,r⟩:=A.get T;obtain⟨y,V,s⟩:=C.get M;refine⟨⟨xs,ys,x,y,I,K,U,V⟩,λz H4 O=>?_⟩;obtain⟨p',u,v,hp,rfl,rfl,hu,hv⟩:=O;have eu:=U.symm.trans (hu xs I);have ev:=V.symm.trans (hv ys K)
    cases eu
    cases ev;have N:=cM hp (.tup [x,y]);exact⟨N,.tup bT (.cons (r.same N) (.cons (s.same N) .nil))⟩
 ·rw[sJ]at hl;rw[A.length,C.length];omega
end
end D3
namespace D3
open L2 My
theorem RTs.length:∀{v:List V}{d:List D}{as:List Addr},RTs K H v d as->v.length=d.length
 |_,_,_,.nil=>rfl
 |_,_,_,.cons _ q=>by simp[RTs.length q]
section
variable{X:Cx}{fl:List Fl}{e a b c:Expr}{es rest:List Expr}{k:Kd}{f fa fb fc:FE}{ft gt:FT}{pos:Pos}
theorem J_:DE X fl .T (.Dict [] [] pos) (dC (.dict [])):=PE.imp Ox λσ H Q h=>by
 refine D3.ex4 h λG ow δ d R W q=>?_
 cases W;intro p Y;exact q _ _ (cM Y _) ⟨[p],.dic bT (.inl ⟨rfl,rfl⟩),b_.mpr ⟨cR,.nil⟩,λx Z=>by rwa[aJ.mp Z]⟩
theorem pF(i:Nat)(hn:isN fl[i]? = true){x:Str}(J:X.N[i]? = some x:=by rfl)(D:Vis X.env.scope x:=by first|exact f7 rfl|exact fF (f7 rfl)|exact fF (fF rfl))(hd:(x==("__debug__":Str))=false:=by decide)
 (B:(x==("__classdict__":Str))=false:=by decide):DE X fl .P (.Name x pos) (aj i):=by
 refine PE.imp (oM J D hd B) λσ H Q h=>?_
 refine D3.ex4 h λG ow δ d R Z q=>?_
 obtain⟨v,h1,h2,_⟩:=R.nr i d hn (lY Z);exact⟨v,h1,q v H (Same.refl H) (h2.ra λ_ _=>trivial)⟩
theorem PN(i:Nat)(hn:isN fl[i]? = true){x:Str}(J:X.N[i]? = some x:=by rfl)(D:Vis X.env.scope x:=by first|exact f7 rfl|exact fF (f7 rfl)|exact fF (fF rfl))(hd:(x==("__debug__":Str))=false:=by decide)
 (B:(x==("__classdict__":Str))=false:=by decide):DE X fl .R (.Name x pos) (aj i):=by
 refine PE.imp (oM J D hd B) λσ H Q h=>?_
 refine D3.ex4 h λG ow δ d R Z q=>?_
 obtain⟨v,h1,h2,_⟩:=R.nr i d hn (lY Z);exact⟨v,h1,q v H (Same.refl H) (h2.ra λa ha=>(R.nt i a ha).1)⟩
theorem zq(B:isR k=true)(ha:DE X fl k a fa)(D:DE X fl .P b fb)(hs:qM b):DE X fl k (.Subscript a b pos) (dOp gIx fa fb):=PE.imp (Fi yO ha D hs) λσ H Q h=>by
 refine D3.ex4 h λG ow δ d R O q=>?_
 obtain⟨x,y,N,e2,Z⟩:=zc O;refine⟨G,ow,δ,x,R,N,λv H1 s1 S=>⟨G,ow,δ,y,R.grow s1,e2,λu H2 s2 T=>?_⟩⟩;have q1:=(S.ra B).same s2;unfold gIx at Z;split at Z
 ·next l i=>
  obtain rfl:=RA.intE T;obtain⟨p,xs,rfl,W,V⟩:=q1.lstE;obtain⟨z,U,Y⟩:=V.at Z;exact .inl ⟨p,xs,i,z,rfl,rfl,W,U,q z H2 (s1.trans s2) (Rs.of_ra B Y)⟩
 ·next l i=>
  obtain rfl:=RA.intE T;obtain⟨p,xs,rfl,W,V⟩:=q1.tupE;obtain⟨z,U,Y⟩:=V.at Z;exact .inr (.inl ⟨p,xs,i,z,rfl,rfl,W,U,q z H2 (s1.trans s2) (Rs.of_ra B Y)⟩)
 ·cases Z
end
section
variable{K:PySem.W.Frag}{fl:List Fl}
def owN(ow:Ow)(i:Nat)(as:List Addr):Ow:=⟨ow.s,λj=>if j=i then as else ow.n j⟩
theorem mR:(owN ow i as).n i=as:=if_pos rfl
theorem lu(h:j≠i):(owN ow i as).n j=ow.n j:=if_neg h
theorem Rel.setN{σ:St}(R:Rel K fl G ow σ H δ)(s:Same H H')(B:fl[i]? = some .N)(hi:i<σ.length)(r:Rs K G.H0 ow H H' .T v d):
 ∃J,Rel K fl G J (σ.set i (some v)) H' (δ.set i (some (.d d))):=by
 have R':=R.grow s;obtain⟨as,h1,h2,W⟩:=r;have O:∀a,ow i≠some a:=λa z=>by
  obtain⟨_,P,_⟩:=R.own i a z;rw[B]at P;rcases P with⟨z,_⟩|⟨z,_⟩<;>cases z
 have sub:∀b,okA ow b/\H b≠none->okA (owN ow i as) b:=λb z=>⟨z.1.1,λj e=>by
  by_cases Z:j=i
  ·subst Z;rw[mR]at e;exact z.2 (W b e)
  ·rw[lu Z]at e;exact z.1.2 j e⟩
 have old:∀{v:V}{d:D},RA K (okA ow) true H v d->RA K (okA (owN ow i as)) true H' v d:=λr=>(r.track.imp sub (λz=>z)).same s
 have olds:∀{v:List V}{d:List D},RAs K (okA ow) true H v d->RAs K (okA (owN ow i as)) true H' v d:=λr=>(r.track.imp sub (λz=>z)).same s
 refine⟨owN ow i as,R'.s0,R'.s1,by rw[dg,dg];exact R.len,λj a h=>?_,R.inj,R.pin,λj U g1 X g2=>?_,λj U g1 X g2 g3=>?_,λj a h=>?_,λj j' a h h'=>?_,λj j' a h=>?_,λj h=>?_,λj U X g1=>?_⟩
 ·have Z:j≠i:=λz=>O a (z▸h)
  obtain⟨L,M,xs,ds,g1,g2,g3,Q⟩:=R.own j a h;exact⟨L,M,xs,ds,by rwa[bD (fA Z)],s _ _ g2,olds g3,by rwa[bD (fA Z)]⟩
 ·rcases iG g1 with⟨rfl,e⟩|⟨Z,e⟩
  ·rw[B]at X;cases X
  ·obtain⟨S,g3,Q⟩:=R.dat j U e X g2;exact⟨S,by rwa[bD (fA Z)],old Q⟩
 ·rcases iG g1 with⟨rfl,e⟩|⟨Z,e⟩
  ·rw[B]at X;cases X
  ·exact R.oo j U e X g2 g3
 ·by_cases Z:j=i
  ·subst Z;rw[mR]at h;exact⟨R.same0.free (W a h),h1.chd a h,.inl ⟨B,R.s1.free (W a h)⟩⟩
  ·rw[lu Z]at h;exact R'.nt j a h
 ·by_cases Z:j=i
  ·by_cases Y:j'=i
   ·rw[Z,Y]
   ·subst Z;rw[mR]at h;rw[lu Y]at h';exact absurd (W a h) (R.nt j' a h').2.1.ne
  ·rw[lu Z]at h;by_cases Y:j'=i
   ·subst Y;rw[mR]at h';exact absurd (W a h') (R.nt j a h).2.1.ne
   ·rw[lu Y]at h';exact R.nd j j' a h h'
 ·by_cases Z:j=i
  ·subst Z;rw[mR]at h;exact λz=>by
    obtain⟨_,_,_,_,_,g2,_⟩:=R.own j' a z;rw[W a h]at g2
    cases g2
  ·rw[lu Z]at h;exact R.ns j j' a h
 ·have Z:j≠i:=λz=>by subst z;rw[B]at h;cases h
  rw[lu Z];exact R.np j h
 ·rcases iG g1 with⟨rfl,e⟩|⟨Z,e⟩
  ·cases e;exact⟨v,by rw[dw hi],by rwa[mR],by rwa[mR]⟩
  ·obtain⟨S,g3,Q⟩:=R'.nr j U X e;exact⟨S,by rwa[bD (fA Z)],by rwa[lu Z]⟩
theorem Rel.mutN{σ:St}{J:HO}[cu:Chg u][cu':Chg J]{d:D}{v:V}{as:List Addr}(R:Rel K fl G ow σ H δ)(B:fl[i]? = some .N)(hi:i<δ.length)(ha:a∈ow.n i)(hx:H a=some u)(hv:σ[i]? = some (some v))
 (hr:RT K (upd H a J) v d as) (hs:∀b∈as,b∈ow.n i) (hd:as.Nodup):∃O,Rel K fl G O σ (upd H a J) (δ.set i (some (.d d))):=by
 have na:¬okA ow a:=λz=>z.2 i ha
 have M:G.HF a=none:=by
  rcases(R.nt i a ha).2.2 with⟨_,z⟩|z
  ·exact z
  ·rw[B]at z;cases z
 have Q:∀a,ow i≠some a:=λa z=>by
  obtain⟨_,S,_⟩:=R.own i a z;rw[B]at S;rcases S with⟨z,_⟩|⟨z,_⟩<;>cases z
 have sub:∀b,okA ow b->okA (owN ow i as) b:=λb z=>⟨z.1,λj e=>by
  by_cases Z:j=i
  ·subst Z;rw[mR]at e;exact z.2 j (hs b e)
  ·rw[lu Z]at e;exact z.2 j e⟩
 have tr:∀b,Chd (H b)->Chd (upd H a J b):=λb z=>by
  by_cases X:b=a
  ·rw[X,bT];exact⟨_,rfl,cu'⟩
  ·rwa[bF X]
 refine⟨owN ow i as,R.s0,λb o X=>?_,by rw[dg];exact R.len,λj b h=>?_,R.inj,R.pin,λj W g1 Y g2=>?_,λj W g1 Y g2 g3=>?_,λj b h=>?_,λj j' b h h'=>?_,λj j' b h=>?_,λj h=>?_,λj W Y g1=>?_⟩
 ·rw[bF (λz=>by subst z;rw[M]at X;cases X)];exact R.s1 b o X
 ·have Z:j≠i:=λz=>Q b (z▸h)
  obtain⟨L,P,zs,ds,g1,g2,g3,U⟩:=R.own j b h;have X:b≠a:=λz=>R.ns i j a ha (z▸h)
  exact⟨L,P,zs,ds,g1,by rwa[bF X],(g3.upd hx na).imp sub (λz=>z),by rwa[bD (fA Z)]⟩
 ·rcases iG g1 with⟨rfl,e⟩|⟨Z,e⟩
  ·rw[B]at Y;cases Y
  ·obtain⟨T,g3,U⟩:=R.dat j W e Y g2;exact⟨T,g3,(U.upd hx na).imp sub (λz=>z)⟩
 ·rcases iG g1 with⟨rfl,e⟩|⟨Z,e⟩
  ·rw[B]at Y;cases Y
  ·exact R.oo j W e Y g2 g3
 ·by_cases Z:j=i
  ·subst Z;rw[mR]at h;obtain⟨g1,g2,g3⟩:=R.nt j b (hs b h);exact⟨g1,tr b g2,g3⟩
  ·rw[lu Z]at h;obtain⟨g1,g2,g3⟩:=R.nt j b h;exact⟨g1,tr b g2,g3⟩
 ·have old:∀j b,b∈(owN ow i as).n j->b∈ow.n j:=λj b h=>by
   by_cases Z:j=i
   ·subst Z;rw[mR]at h;exact hs b h
   ·rw[lu Z]at h;exact h
  exact R.nd j j' b (old j b h) (old j' b h')
 ·by_cases Z:j=i
  ·subst Z;rw[mR]at h;exact R.ns j j' b (hs b h)
  ·rw[lu Z]at h;exact R.ns j j' b h
 ·have Z:j≠i:=λz=>by subst z;rw[B]at h;cases h
  rw[lu Z];exact R.np j h
 ·rcases iG g1 with⟨rfl,e⟩|⟨Z,e⟩
  ·cases e;exact⟨v,hv,by rwa[mR],by rw[mR];exact hd⟩
  ·obtain⟨T,g3,U,I⟩:=R.nr j W Y e;exact⟨T,g3,by rw[lu Z];exact U.upd hx (λz=>Z (R.nd j i a z ha)),by rw[lu Z];exact I⟩
end
section
variable{K:PySem.W.Frag}{H:Hp}
theorem RTs.snoc{w:V}(r:RT K H w d []):∀{vs:List V}{ds:List D}{as:List Addr},RTs K H vs ds as->RTs K H (vs++[w]) (ds++[d]) as
 |_,_,_,.nil=>by
  have:=RTs.cons r (.nil (K:=K) (H:=H));simpa using this
 |_,_,_,.cons e q=>.cons e (RTs.snoc r q)
theorem RT.flat0{ok:Ok}(B:flat d=true)(h:RA K ok pl H v d):RT K H v d []:=by
 obtain⟨as,h1,_,Z⟩:=RA.rt (RA.flat (ok':=ok0) (pl':=false) B h)
 cases as with
 |nil=>exact h1
 |cons a r=>exact(Z a ak).elim
end
section
variable{X:Cx}{fl:List Fl}{e ke:Expr}{f fk:FE}{pos:Pos}
theorem CZ(D:fl[i]? = some .N)(O:X.N.Nodup)(hi:X.N[i]? = some x)(J:X.env.scope.names.lookup x=some .local\/X.env.scope.names.lookup x=some .cell)(h:DE X fl .T e f)
 (hs:swapsWith e (some (.Name x pos')) pos.line X.env=pure false:=by rfl) (B:X.fn x=true\/X.env.scope.names.lookup x=some .local:=by first|exact .inl rfl|exact .inr rfl) :
 DS1 X fl (.Assign [.Name x pos'] e pos) (bO i f):=PS.imp (Ia (i:=i) O hi J h hs B) λDn σ H h=>by
 refine D3.ex4 h λG ow δ o R Z q=>?_
 unfold bO at Z;by_cases W:i<δ.length
 ·rw[if_pos W]at Z;refine D3.ex1 (bind1 Z) λd V e2=>?_
  cases e2;refine⟨G,ow,δ,d,R,V,λv H' s r=>?_⟩;obtain⟨Y,R'⟩:=R.setN s D (vD R W) r;exact q Y _ H' R'
 ·rw[if_neg W]at Z
  cases Z
theorem I_{j:Int}(B:pIx vs.length j=some n)(h:vs[n]? = some v):atI vs j=some v:=by
 unfold atI;rwa[show ixN vs.length j=some n from B]
end
end D3
variable{fe:D3.FE}
namespace D3
def zu:List D->Option D
 |[.int hi]=>if(-(2^62)<=hi/\hi<2^62)/\(hi-0).toNat<=1000000 then some (.list (gD 0 hi))else none
 |_=>none
theorem Uw{hi:Int}(h:0<=hi)(h':hi<=1000000):zu [.int hi]=some (.list (gD 0 hi)):=by
 show(if(-(2^62)<=hi/\hi<2^62)/\(hi-0).toNat<=1000000 then some (hU (gD 0 hi))else none)=_;rw[if_pos ⟨⟨by omega,by omega⟩,by omega⟩]
noncomputable def Wz:D->Option (List D)
 | .list l=>some l
 | .tuple l=>some l
 |_=>none
def qSq(x:Option D):Option (List D):=x.bind Wz
def qd(f:FE):FA:=λδ=>(f δ).bind Wz
theorem Yj{f:FE}:qd f δ=qSq (f δ):=rfl
theorem Yk:qSq (some (.tuple l))=some l:=rfl
def nU:D->Option D
 | .list l=>some (.tuple l)
 | .tuple l=>some (.tuple l)
 |_=>none
theorem zA:nU (.list l)=some (.tuple l):=rfl
def qRL(a:Option D):Option Oc:=match a with
 |some d=>some (.ex "" "" d)
 |none=>none
def sO(fe:FE):FS:=λδ=>(fe δ).bind λd=>some (.ex "" "" d)
theorem Yl:sO fe δ=qRL (fe δ):=by
 unfold sO qRL
 cases fe δ<;>rfl
theorem PX:qRL (some d)=some (.ex "" "" d):=rfl
noncomputable def Ux(o:Option Oc):Option D:=match o with
 |some (.rt d)=>some d
 |some (.ex _ _ d)=>some d
 |some (.nx _)=>some .none
 |_=>none
def fnL(p q:Nat)(b:FS):List D->Option D:=λds=>if ds.length=p then Ux (b (ds.map (λd=>some (.d d))++aO q none))else none
theorem ac1{p q:Nat}{b:FS}:fnL p q b ds=if ds.length=p then Ux (b (ds.map (λd=>some (.d d))++aO q none))else none:=rfl
theorem P0{c f:Str}:Ux (some (.ex c f d))=some d:=rfl
end D3
namespace D3
open L2 My
section
variable{X:Cx}
end
section
variable{X:Cx}{fl:List Fl}{e ke:Expr}{f fk:FE}{pos:Pos}
theorem RAs.erase{ok:Ok}{v:List V}{d:List D}(n:Nat)(r:RAs K ok pl H v d):RAs K ok pl H (v.eraseIdx n) (d.eraseIdx n):=by
 rw[mF,mF];exact(r.take n).append (r.drop (n+1))
end
section
variable{X:Cx}{fl:List Fl}{a:Expr}{pos p p2 pos2:Pos}{fa:FA}
end
end D3
namespace D3
open L2 My
section
variable{X:Cx}{pins:List (Addr×Obj)}{σ:L2.St}{H:Hp}{s:eS}
end
section
variable{X:Cx}{K:PySem.W.Frag}
end
section
variable{X:Cx}{fl:List Fl}{es:List Expr}{pos:Pos}
end
section
variable{X:Cx}{fl:List Fl}{e:Expr}{f:FE}
theorem ac2{l:Expr}{D B:TI}(h1:PI X tg l D)(h2:PI X tg l B):PI X tg l (λσ H R=>D σ H R\/B σ H R):=λpins s σ H R I h=>by
 rcases h with h|h
 ·exact h1 pins s σ H R I h
 ·exact h2 pins s σ H R I h
theorem P_{σ:St}(R:Rel K fl G ow σ H δ)(r:Rs K G.H0 ow Hb H (.B L) v (.tuple l)):∃a xs,v = .ref a/\SqT K H a xs /\
 ∀H2:Hp,(∀b o,H b=some o->(∀i,ow i=some b->i∈L)->(∀i,b∉ow.n i)->H2 b=some o)->SqT K H2 a xs/\RAs K (λb=>okA ow b/\H b≠none) true H2 xs l:=by
 rcases r with r|⟨i,hi,a,xs,ds,W,rfl,e,Y,X⟩
 ·cases r with
  |tup e q=>
   refine⟨_,_,rfl,e.sq,λH2 Z=>⟨?_,RAs.keep Z R.ownL R.ownC (λb z=>z.1) q.track⟩⟩;exact .inl (.inl (Z _ _ e (nm R.ownL e (by intro xs z;cases z)) (nm2 R.ownC e Chg.tup)))
 ·cases e
theorem zB(h:DE X fl (.B L) e f):DI X fl L tg e (qd f):=PI.imp (ac2 (JM h) (Ih h)) λσ H R' h=>by
 refine D3.ex4 h λG ow δ l R N q=>?_
 refine D3.ex1 (bind1 N) λd Q e2=>?_
 cases d with
 |list P=>
  cases e2;refine .inl ⟨G,ow,δ,_,R,Q,λv H1 s r=>?_⟩;obtain⟨a,xs,rfl,S,keep⟩:=wH (R.grow s) r;refine⟨a,rfl,⟨xs,S⟩,q _ _ s λH2 k2 i=>?_⟩;obtain⟨Z,W⟩:=keep H2 k2;refine⟨λd hd=>?_,λO=>⟨xs,Z,by rwa[W.length]⟩⟩;obtain⟨y,V,U⟩:=W.get hd;refine⟨⟨xs,y,Z,V⟩,λx M Y=>?_⟩;obtain⟨e,T⟩:=Y;subst e;have:some y=some x:=V.symm.trans (T xs Z)
  cases this;exact⟨Same.refl _,U⟩
 |tuple P=>
  cases e2;refine .inr ⟨G,ow,δ,_,R,Q,λv H1 s r=>?_⟩;obtain⟨a,xs,rfl,S,keep⟩:=P_ (R.grow s) r;refine⟨a,rfl,⟨xs,S⟩,q _ _ s λH2 k2 i=>?_⟩;obtain⟨Z,W⟩:=keep H2 k2;refine⟨λd hd=>?_,λO=>⟨xs,Z,by rwa[W.length]⟩⟩;obtain⟨y,V,U⟩:=W.get hd;refine⟨⟨xs,y,Z,V⟩,λx M Y=>?_⟩;obtain⟨e,T⟩:=Y;subst e;have:some y=some x:=V.symm.trans (T xs Z)
  cases this;exact⟨Same.refl _,U⟩
 |none=>cases e2
 |bool _=>cases e2
 |int _=>cases e2
 |str _=>cases e2
 |dict _=>cases e2
end
section
variable{X:Cx}{fl:List Fl}{a:Expr}{f:FE}{pos p:Pos}
theorem yr(h:DE X fl (.B L) a f)(O:Gl X "tuple")(hm:X.mg "tuple"=none)
 (J:starEach [a] X.env=(false,eval a X.env)::starEach [] X.env:=by exact n_ rfl) (D:(backTo pos (starEach [] X.env)).any (·.1)=false:=by rfl):DE X fl .A (.Call (.Name "tuple" p) [a] [] pos) (dUn nU f):=
 PE.imp (pY uo O hm boot_tuple (jx h nJ J) (by decide) (by decide) J D) λσ H Q h=>by
 refine D3.ex4 h λG ow δ d R U q=>?_
 refine D3.ex1 (bind1 U) λx T e2=>?_
 refine⟨G,ow,δ,x,R,T,λv H1 s1 Y=>?_⟩;unfold nU at e2;split at e2
 ·cases e2;obtain⟨p,xs,rfl,Z,W⟩:=uP Y;exact⟨p,xs,rfl,.inl ⟨Z,λpn V=>q _ _ (s1.trans (cM V _)) (.tup bT (W.same (cM V _)))⟩⟩
 ·cases e2;rcases Y with Y|⟨i,hi,a,xs,ds,S,rfl,e,Z,W⟩
  ·obtain⟨p,xs,rfl,Z,W⟩:=Y.tupE0;exact⟨p,xs,rfl,.inr ⟨Z.sq,q _ _ s1 (.tup Z W)⟩⟩
  ·cases e
 ·cases e2
theorem Uy(h:DE X fl .C a f)(J:Gl X "tuple")(hm:X.mg "tuple"=none)
 (D:starEach [a] X.env=(false,eval a X.env)::starEach [] X.env:=by exact n_ rfl) (B:(backTo pos (starEach [] X.env)).any (·.1)=false:=by rfl):DE X fl .C (.Call (.Name "tuple" p) [a] [] pos) (dUn nU f):=
 PE.imp (pY uo J hm boot_tuple (jx h nJ D) (by decide) (by decide) D B) λσ H Q h=>by
 refine D3.ex4 h λG ow δ d R U q=>?_
 refine D3.ex1 (bind1 U) λx T e2=>?_
 refine⟨G,ow,δ,x,R,T,λv H1 s1 W=>?_⟩;unfold nU at e2;split at e2
 ·cases e2;obtain⟨p,xs,rfl,Z,Y⟩:=RA.lstE W;exact⟨p,xs,rfl,.inl ⟨Z,λpn V=>q _ _ (s1.trans (cM V _)) (.tup bT (Y.same (cM V _)))⟩⟩
 ·cases e2;obtain⟨p,xs,rfl,Z,Y⟩:=RA.tupE0 W;exact⟨p,xs,rfl,.inr ⟨Z.sq,q _ _ s1 (.tup Z Y)⟩⟩
 ·cases e2
end
section
variable{X:Cx}{fl:List Fl}{a b:Expr}{fa fb:FE}{pos:Pos}
end
end D3
namespace D3
open L2 My
section
variable{X:Cx}{K:PySem.W.Frag}
end
noncomputable def Itv(K:PySem.W.Frag)(a:Addr)(n:Nat):It:=
 ⟨λi H=>i<n/\∃xs x,SqL K H a xs/\xs.length=n/\xs[n-1-i]? = some x,λi H x H'=>H'=H/\∀xs,SqL K H a xs->xs[n-1-i]? = some x,λi _=>n<=i⟩
theorem Qa(a it:Addr)(n:Nat):Turn P w K tg (Itv K a n) [it] it (λi h=>i<=n/\h.IsRevIter it a ((n:Int)-1-(i:Int))) where
 mem:=by simp
 obj:=λi h st b Y=>by
  have e:b=it:=by simpa using Y
  subst e;obtain⟨_,o,e,c,d⟩:=st;exact⟨o,e,λv z=>by rw[d]at z;cases z⟩
 keep:=λi h h' st k=>⟨st.1,st.2.at λo e=>k it (by simp) o e⟩
 item:=by
  intro X U hw T N i pins s σ H E I V st W;subst U hw T;obtain⟨hi,xs,x,O,hn,F⟩:=W;obtain⟨its,L,p,B⟩:=I.list O;obtain⟨u,hu,J⟩:=L.get F;obtain⟨Q,f1,f2,f3,R,S⟩:=V it (by simp);have Z:=st.2;rw[show(n:Int)-1-(i:Int)=((n-1-i:Nat):Int)by omega]at Z;refine wpAny_pyNext_rev_item Z p.isList (x:=u) (by simpa using hu) λh' st' M=>?_
  rw[show((n-1-i:Nat):Int)-1=(n:Int)-1-((i+1:Nat):Int)by omega]at st';have C:=I.turned (t':=s.toks) (λb o Y e=>(M.2 b Y).trans e) Q f1 f3 R S;obtain⟨o,e,c,d⟩:=id st';exact⟨u,rfl,E_ (s:={s with heap:=h'}) e c d (by decide) ⟨x,H,C,J,⟨rfl,λys G=>by rwa[I.list_inj G O]⟩,⟨by omega,st'⟩,λb Y=>(V b Y).1⟩⟩
 done:=by
  intro X U hw T N i pins s σ H E I V st W;subst U hw T;obtain⟨Q,f1,f2,f3,R,S⟩:=V it (by simp);have W:n<=i:=W;have Z:=st.2;rw[show(n:Int)-1-(i:Int) = -1 by omega]at Z;exact wpAny_pyNext_rev_end (I.ok.hd N) Z λh' D=>⟨rfl,I.turned (t':=s.toks) (λb o Y e=>D b o Y e) Q f1 f3 R S⟩
 self:=λ_ _ _ _ _ st h=>wpAny_pyIter_revIter st.2 h
section
variable{X:Cx}{fl:List Fl}{a:Expr}{f:FE}{pos:Pos}
def al4(K:PySem.W.Frag)(ta:TE):TI:=λσ H R=>ta σ H λx H1=>∃p xs,x = .ref p/\SqL K H1 p xs/\R (Itv K p xs.length) H1
theorem Ym{ta:TE}(J:Gl X "reversed")(hm:X.mg "reversed"=none)(ha:PE X a ta)(D:starEach [a] X.env=(false,eval a X.env)::starEach [] X.env:=by rfl)
 (B:(backTo pos (starEach [] X.env)).any (·.1)=false:=by rfl):PI X tg (.Call (.Name "reversed" p) [a] [] pos) (al4 X.K ta):=by
 intro pins s σ H R I h;refine ay (nH I J hm boot_reversed (fw (thn ((jx ha nJ D) pos pins s σ H (λvs H1=>match vs with|[x]=>∃p xs,x = .ref p/\SqL X.K H1 p xs/\R (Itv X.K p xs.length) H1|_=>False) I h) λus s1 ⟨vs,H1,Y,T,q1⟩=>?_) D B))
 cases T with
 |nil=>exact q1.elim
 |cons r U=>
  cases U with
  |cons _ _=>exact q1.elim
  |nil=>
  obtain⟨l,xs,e,S,q⟩:=q1;subst e
  cases r;obtain⟨its,V,pl,O⟩:=Y.list S;have N:=V.length;refine call_reversed_list pl.isList ?_;have P:Inv X pins σ H1 {s1 with heap:=s1.heap.push (revObj l ((its.toArray.size:Int)-1))}:=Y.kept (t':=s1.toks) λb o e=>ad _ e
  have Z:(s1.heap.push (revObj l ((its.toArray.size:Int)-1))).IsRevIter s1.heap.objs.size l ((its.toArray.size:Int)-1):=⟨_,ag _ rfl,rfl,rfl⟩;refine wpAny_pyIter_revIter (s:={s1 with heap:=s1.heap.push (revObj l ((its.toArray.size:Int)-1))}) Z ?_;have W:=Z;rw[show(its.toArray.size:Int)-1=(xs.length:Int)-1-((0:Nat):Int)by rw[aM];omega]at W;refine⟨s1.heap.objs.size,[s1.heap.objs.size],_,_,H1,rfl,P,Qa l s1.heap.objs.size xs.length,⟨cH _,by rwa[show(xs.length:Int)-1-((0:Nat):Int)=(its.toArray.size:Int)-1 by rw[aM];omega]⟩,λb Q=>?_,q⟩;have e:b=s1.heap.objs.size:=by simpa using Q
  subst e;exact Y.fpOk (aB _) (Y.hok.fresh (aB _))
theorem Yn(h:DE X fl (.B L) a f)(J:Gl X "reversed")(hm:X.mg "reversed"=none)(he:starEach [a] X.env=(false,eval a X.env)::starEach [] X.env:=by rfl)
 (D:(backTo pos (starEach [] X.env)).any (·.1)=false:=by rfl):DI X fl L tg (.Call (.Name "reversed" p) [a] [] pos) (Ug f):=PI.imp (Ym J hm h he D) λσ H R' h=>by
 refine D3.ex4 h λG ow δ l R N q=>?_
 refine D3.ex1 (bind1 N) λd M e2=>?_
 obtain⟨Z,rfl⟩:∃Z,d = .list Z:=by cases d<;>first|exact⟨_,rfl⟩|(cases e2;done)
 cases e2;refine⟨G,ow,δ,_,R,M,λv H1 s r=>?_⟩;obtain⟨a,xs,rfl,P,keep⟩:=wH (R.grow s) r;refine⟨a,xs,rfl,P,q _ _ s λH2 k2 i=>?_⟩;obtain⟨U,V⟩:=keep H2 k2;have S:=V.length;refine⟨λd hd=>?_,λO=>by rw[tZ]at O;show xs.length<=i;omega⟩;have hi:i<Z.length:=by
  have:=(fW.mp hd).1;rwa[tZ]at this
 rw[List.getElem?_reverse hi]at hd;obtain⟨y,W,T⟩:=V.get hd;rw[<-S]at W;refine⟨⟨by omega,xs,y,U,rfl,W⟩,λx K Y=>?_⟩;obtain⟨e,Q⟩:=Y;subst e;have:some y=some x:=W.symm.trans (Q xs U)
 cases this;exact⟨Same.refl _,T⟩
end
def spL(K:PySem.W.Frag)(F:List D->Option D):Sp:=λvs H Q _=>∃ds d,(Tb H/\RAs K ok1 true H vs ds)/\F ds=some d/\∀v H',Same H H'->RA K ok1 true H' v d->Q v H'
section
variable{X:Cx}{fl:List Fl}{e:Expr}{es:List Expr}{f:FE}{pos p:Pos}{x:Str}{n:Nat}{F:List D->Option D}{fa:FA}
theorem Kc(h:DE X fl .P e f):DS1 X fl (.Return (some e) pos) (sO f):=PS.imp (N7 h) λDn σ H h=>by
 refine D3.ex4 h λG ow δ o R Z q=>?_
 refine D3.ex1 (bind1 Z) λd Y e2=>?_
 cases e2;exact⟨G,ow,δ,d,R,Y,λv H' s r=>q v H' (R.same0.trans s) r⟩
theorem al5(B:(fl.all λx=>decide (x = .A))=true)(h:DE X fl .P e f):DE X fl .A e f:=o_ h λHb H G ow σ δ v d R r=>by
 have Z:∀(i:Nat)(c:Fl),fl[i]? = some c->c=Fl.A:=λi c e=>by simpa using cQ.mp B c (gw e)
 have ok:∀a,okA ow a:=λa=>by
  constructor
  ·intro i z;rcases(R.own i a z).2.1 with⟨w,_⟩|⟨w,_⟩
   ·cases Z i _ w
   ·cases Z i _ w
  ·intro i z;rcases(R.nt i a z).2.2 with⟨w,_⟩|w
   ·cases Z i _ w
   ·cases Z i _ w
 exact RA.imp (λa _=>ok a) (λz=>z) r
theorem Qc(h:Has X.prog X.w X.K X.mg X.base n x ps (spL X.K F))(J:Room n X.A)(ha:DB X fl .P (e::es) fa)(O:Gl X x:=by rfl)(D:(x==("__debug__":Str))=false:=by decide)
 (W:starEach (e::es) X.env=(false,eval e X.env)::starEach es X.env:=by exact n_ rfl) (B:(backTo pos (starEach es X.env)).any (·.1)=false:=by exact Pa rfl) :
 DE X fl .P (.Call (.Name x p) (e::es) [] pos) (dCall F fa):=PE.imp (Fq h J ha O D W B) λσ H Q h=>by
 refine D3.ex4 h λG ow δ d R Y q=>?_
 refine D3.ex1 (bind1 Y) λds V e2=>?_
 refine⟨G,ow,δ,ds,R,V,λvs H' s r=>?_⟩;show spL X.K F (vs++[]) H' Q E0;rw[cA];exact⟨ds,d,⟨R.tb.same s,r⟩,e2,λv H2 s2 Z=>q v H2 (s.trans s2) Z⟩
end
section
variable{P:e9}{w:fy}{K:PySem.W.Frag}{mg:Str->Option Value}{base:f8}{x:Str}{ps N:List Str}{st:hI}{k n:Nat}{fs:FS}{fl:List Fl}
theorem Uz(O:FunD K x st f fd)(S:FnScope N ps (bH st))(D:∀i,i<ps.length->fl[i]? = some .A)(J:ps.length<=N.length)
 (B:∀(f:Addr)(cdv:Value)(A:fm)(outer:List Env)(s:eS)(H:Hp)(E:XK),Room k (A.deeper (envOfC x (bH st) s.heap.objs.size f cdv))->DSs (cx P w K mg base N x st f cdv A outer s H E) fl (jy st) fs) :
 FnOk P w K mg base CX0 (k+1) f fd ps (spL K (fnL ps.length (N.length-ps.length) fs)):=by
 refine O.ok S (λvs H Q E h=>?_) (λcdv A outer s H vs Q E X h=>?_)
 ·obtain⟨ds,d,r,Z,_⟩:=h;unfold fnL at Z;by_cases z:ds.length=ps.length
  ·rwa[r.2.length]
  ·rw[if_neg z]at Z;cases Z
 ·obtain⟨ds,d,r,Z,q⟩:=h;refine⟨_,B f cdv A outer s H E X,?_⟩;unfold fnL Ux at Z;by_cases z:ds.length=ps.length
  ·rw[if_pos z]at Z;split at Z
   ·next W e=>
    cases Z;exact⟨_,_,_,_,mQ ps.length D z J r,e,λv H' s r=>q v H' s (RA.imp (λ_ _=>trivial) (λ_=>rfl) r)⟩
   ·next c' V W e=>
    cases Z;exact⟨_,_,_,_,mQ ps.length D z J r,e,λv H' s r=>q v H' s r⟩
   ·next δ' e=>
    cases Z;exact⟨_,_,_,_,mQ ps.length D z J r,e,λY σ' H' R'=>q .non H' R'.same0 .non⟩
   ·cases Z
  ·rw[if_neg z]at Z;cases Z
theorem Yo(O:Dg K mg x st ps)(S:FnScope N ps (bH st))(D:∀i,i<ps.length->fl[i]? = some .A)(J:ps.length<=N.length)
 (B:∀(f:Addr)(cdv:Value)(A:fm)(outer:List Env)(s:eS)(H:Hp)(E:XK),Room k (A.deeper (envOfC x (bH st) s.heap.objs.size f cdv))->DSs (cx P w K mg base N x st f cdv A outer s H E) fl (jy st) fs) :
 Has P w K mg base (k+1) x ps (spL K (fnL ps.length (N.length-ps.length) fs)):=by
 obtain⟨f,fd,Z,b,m⟩:=O.ex;exact⟨f,fd,Uz Z S D J B,b,Z.kp,m⟩
end
section
variable{P:e9}{w:fy}{K:PySem.W.Frag}{mg:Str->Option Value}{base:f8}{x:Str}{ps:List Str}{st:hI}{n:Nat}
end
end D3
namespace D3
open L2 My
section
variable{K:PySem.W.Frag}{fl flA:List Fl}{G:Gh}{ow:Ow}{σ σ':St}{H H1:Hp}{δ:DS}{T:List Nat}
end
section
variable{X:Cx}{fl flA:List Fl}{e:Expr}{es:List Expr}{f:FE}{fa:FA}{pos:Pos}
theorem Ke(h:DB X fl .P es fa):DE X fl .P (.List es pos) (jz fa):=PE.imp (Ii h) λσ H Q h=>by
 refine D3.ex4 h λG ow δ d R Y q=>?_
 refine D3.ex1 (bind1 Y) λl W e2=>?_
 by_cases z:l.length<=sizeLine
 ·rw[if_pos z]at e2
  cases e2;refine⟨G,ow,δ,l,R,W,λvs H' s r=>⟨by rwa[r.length],λp Z=>?_⟩⟩;have g:=cM Z (.lst vs);exact q _ _ (s.trans g) (.lst bT trivial (r.same g))
 ·rw[if_neg z]at e2
  cases e2
end
section
variable{X:Cx}{fl:List Fl}{pos:Pos}
end
end D3
namespace XS
open PySem.W
noncomputable def dO{α:Type}(lt:Nat->Nat->Bool):KasT α->α
 | .ret a=>a
 | .ask i j k=>dO lt (k (lt i j))
def pG{α:Type}(n:Nat)(R:α->Prop):KasT α->Prop
 | .ret a=>R a
 | .ask i j k=>i<n/\j<n/\∀b,pG n R (k b)
section
variable{α β:Type}{n:Nat}{R:α->Prop}{R':β->Prop}{lt:Nat->Nat->Bool}
theorem oE(f:α->KasT β):∀t:KasT α,dO lt (t.bind f)=dO lt (f (dO lt t))
 | .ret _=>rfl
 | .ask _ _ k=>oE f (k _)
theorem oF{f:α->KasT β}(B:∀a,R a->pG n R' (f a)):∀t:KasT α,pG n R t->pG n R' (t.bind f)
 | .ret a,h=>B a h
 | .ask _ _ k,h=>⟨h.1,h.2.1,λb=>oF B (k b) (h.2.2 b)⟩
theorem Gb:∀t:KasT α,pG n R t->R (dO lt t)
 | .ret _,h=>h
 | .ask _ _ k,h=>Gb (k _) (h.2.2 _)
theorem C_{B:Nat->Nat->(Bool->eS->Prop)->eS->Prop}{G:α->eS->Prop}(D:∀i j C,i<n->j<n->C (lt i j) s->B i j C s):
 ∀t:KasT α,pG n R t->G (dO lt t) s->t.kasWp B G s
 | .ret _,_,q=>q
 | .ask _ _ k,h,q=>D _ _ _ h.1 h.2.1 (C_ D (k _) (h.2.2 _) q)
end
def good(n:Nat)(p:Array Nat):Prop:=p.Perm (aQ n).toArray
section
variable{n:Nat}{p:Array Nat}
theorem good.mem(g:good n p){x:Nat}(h:x∈p.toList):x<n:=by
 have:x∈(aQ n):=by
  have:=(dX.mp g).mem_iff.mp h;simpa using this
 exact bf.mp this
theorem good.get(g:good n p)(B:0<n)(i:Nat):p.getD i 0<n:=by
 unfold Array.getD;split
 ·exact g.mem (by simp)
 ·exact B
theorem good.rev(g:good n p)(i j:Nat):good n (bn p i j):=(mirror_perm _ _ _ _).trans g
theorem good.bub(g:good n p)(i j:Nat):good n (bubble p i j):=(bubble_perm _ _ _).trans g
theorem zE(B:0<n)(g:good n p):∀f a,pG n (λ_=>True) (ci p f a)
 |0,a=>trivial
 |f+1,a=>⟨g.get B _,g.get B _,λb=>by
  cases b
  ·exact zE B g f (a+1)
  ·trivial⟩
theorem tL(B:0<n):∀f (p:Array Nat) a q,good n p->pG n (λr=>good n r.1) (a7 f p a q)
 |0,p,a,q,g=>g
 |f+1,p,a,q,g=>by
  refine⟨g.get B _,g.get B _,λb=>?_⟩
  cases b
  ·refine⟨g.get B _,g.get B _,λc=>?_⟩
   cases c
   ·exact tL B f p (a+1) (q+1) g
   ·exact g
  ·split
   ·exact tL B f _ _ _ (g.rev _ _)
   ·exact tL B f _ _ _ g
theorem zF(B:0<n)(g:good n p)(a m:Nat):pG n (λr=>good n r.2) (ca a m p):=by
 refine oF (R:=λ_=>True) (λc _=>?_) _ (zE B (g.rev _ _) _ _);exact g.rev _ _
theorem Bw(B:0<n)(g:good n p)(a m:Nat):pG n (λr=>good n r.2) (aE a m p):=
 oF (R:=λr=>good n r.1) (λr h=>by
  split
  ·exact zF B (good.rev h _ _) _ _
  ·exact zF B h _ _) _ (tL B _ _ _ _ g)
theorem Ja(B:0<n)(g:good n p)(m:Nat):pG n (λr=>good n r.2) (cb m p):=
 oF (R:=λ_=>True) (λa _=>by
  split
  ·exact g
  ·split
   ·refine⟨g.get B _,g.get B _,λb=>?_⟩
    cases b
    ·exact Bw B (g.rev _ _) _ _
    ·exact g
   ·exact Bw B g _ _) _ (zE B g _ _)
theorem uQ(B:0<n)(g:good n p)(k:Nat):∀f l r,pG n (λ_=>True) (bg p k f l r)
 |0,l,r=>trivial
 |f+1,l,r=>by
  unfold bg;split
  ·trivial
  ·refine⟨g.get B _,g.get B _,λb=>?_⟩
   cases b
   ·exact uQ B g k f _ _
   ·exact uQ B g k f _ _
theorem Gd(B:0<n):∀f (p:Array Nat) k,good n p->pG n (good n) (kas_bin f p k)
 |0,p,k,g=>g
 |f+1,p,k,g=>oF (R:=λ_=>True) (λl _=>Gd B f _ _ (g.bub _ _)) _ (uQ B g k _ _ _)
theorem wK(B:0<n):pG n (good n) (cS n):=
 oF (R:=λr=>good n r.2) (λr h=>by
  split
  ·exact Gd B _ _ _ h
  ·exact h) _ (Ja B (hZ _) n)
end
def nO(n:Nat)(lt:Nat->Nat->Bool):List Nat:=(dO lt (cS n)).toList
theorem jg(B:0<n)(lt:Nat->Nat->Bool):(nO n lt).Perm (aQ n):=by
 have:good n (dO lt (cS n)):=Gb _ (wK B);have:=dX.mp this;simpa[nO]using this
noncomputable def Ay(a b:Int×Int):Bool:=if a.1=b.1 then decide (a.2<b.2)else decide (a.1<b.1)
def ltP(B:List (Int×Int))(i j:Nat):Bool:=Ay (B.getD i (0,0)) (B.getD j (0,0))
open D3
def Jb:List D->Option (List (Int×Int))
 |[]=>some []
 | .tuple [.int i,.int j]::r=>(Jb r).map ((i,j) :: ·)
 |_=>none
def zG:List D->Option D
 |[.list l]=>match dF l with
  |some _=>OJ [.list l]
  |none=>(Jb l).bind λZ=>if l.length<64 then(if l.length=1 then some (.list l)else some (.list ((nO l.length (ltP Z)).map λi=>l.getD i .none)))else none
 |_=>none
end XS
variable{h':f8}{C:Bool->eS->Prop}
namespace XS
open PySem.W L2 My D3
theorem wL(x:gA P w H h a o):∃u,h.get? a=some u:=by
 cases o with
 |lst xs=>obtain⟨_,_,_,_,e⟩:=x;exact⟨_,e⟩
 |tup xs=>obtain⟨_,_,_,u,e,_⟩:=x;exact⟨_,e⟩
 |dK kvs=>obtain⟨_,_,_,_,u,_,_,e,_⟩:=x;exact⟨_,e⟩
 |dT kvs=>obtain⟨_,_,_,_,u,_,_,e,_⟩:=x;exact⟨_,e⟩
 |set S n=>obtain⟨u,_,_,_,e,_⟩:=x;exact⟨_,e⟩
 |ins C dx fs=>obtain⟨_,_,_,e,_⟩:=x;exact⟨_,e⟩
 |own y=>exact x
 |xd fs=>obtain⟨_,⟨u,_,_,e,_⟩,_⟩:=x;exact⟨_,e⟩
 |met f y=>exact⟨_,x⟩
 |rng lo hi=>obtain⟨_,_,_,e⟩:=x;exact⟨_,e⟩
 |frz u v=>exact⟨_,x.1⟩
 |tbl q p=>obtain⟨_,e,_⟩:=x;exact⟨_,e⟩
 |ext φ=>exact x.2.1
section
variable{X:Cx}{pins:List (Addr×Obj)}{σ:L2.St}{H:Hp}{s:eS}
theorem Yp{L:Addr}{B:Str->Option Value}(a:h.Ns L m)(b:h.Ns L B):m=B:=by
 obtain⟨o,es,ep,e,d,_,f⟩:=a;obtain⟨o',W,V,Z,Y,_,X⟩:=b;rw[e]at Z;cases Z;rw[d]at Y;cases Y
 funext x
 rw[<-f,<-X]
theorem Kf{D:Addr}(I:Inv X pins σ H s)(hm:s.heap.Ns X.env.locals m)(B:h'.Ns X.env.locals m)(k:∀b u,b≠X.env.locals->s.heap.get? b=some u->h'.get? b=some u)
 (O:s.heap.get? D=none) (J:gA X.prog X.w (upd H D o) h' D o):Inv X pins σ (upd H D o) {s with heap:=h'}:=by
 have hn:H D=none:=by
  cases e:H D with
  |none=>rfl
  |some u=>
   obtain⟨w,hw⟩:=wL (I.hok D u e);rw[O]at hw;cases hw
 have ne:∀{b u},H b=some u->b≠D:=λe=>jw e hn
 refine I.step (g':=s.gens) (d':=s.drawn) (t':=s.toks) (ch:=[]) (λb V=>by cases V) (λb u Z _ _ e _=>k b u Z e) (λb u Z _ _ e _=>⟨u.slots,k b u Z e⟩) (λb u _ e n=>?_) (λb u _ e=>?_)
  (λb xs e=>by rwa[bF (ne e)]) (λb u v e=>by rwa[bF (ne e)]) (λb q p e=>by rwa[bF (ne e)]) (λU h2=>by rw[<-Yp hm h2];exact B) (λb u e=>?_) I.bare
 ·rwa[bF (λz=>by rw[z,O]at e;cases e)]
 ·by_cases z:b=X.env.locals
  ·obtain⟨w,_,_,hw,_⟩:=B;exact⟨w,by rwa[z]⟩
  ·exact⟨u,k b u z e⟩
 ·by_cases z:b=D
  ·subst z;rw[bT]at e
   cases e;exact J
  ·rw[bF z]at e;refine(I.hok b u e).stay (λc w W q=>k c w (λy=>?_) q) (λc q=>by rwa[bF (ne q)]) λc xs q=>by rwa[bF (ne q)]
   rcases W with rfl|Y
   ·rw[y,I.free]at e;cases e
   ·rw[y,I.free]at Y;cases Y
end
section
variable{prog:e9}{w:fy}{A:fm}{E:Value->eS->Prop}{s:eS}
theorem UG{x y:Addr}{a b c d:Int}{O J D B:Tok}(hx:g9 s.heap x #[.int a O,.int b J])(Y:g9 s.heap y #[.int c D,.int d B])(q:C (Ay (a,b) (c,d)) s):
 wpAny (model prog w) A (keyLt' (tuples' true) (.ref x) (.ref y)) C E s:=by
 obtain⟨T,ex,_,nx,dx⟩:=hx;obtain⟨U,X,_,S,V⟩:=Y;refine kat_lt ex dx X V ?_;refine kat_cons (ck (kat_go (λe=>?_) λe=>?_))
 ·refine kat_yes (kat_cons (ck (kat_go (λe2=>?_) λe2=>?_)))
  ·refine kat_yes (kat_nil ?_);have e:=beq_iff_eq.mp e;have e2:=beq_iff_eq.mp e2;subst e e2;simpa[Ay]using q
  ·refine kat_no (kat_one _ _ (lt_int ?_));have e:=beq_iff_eq.mp e;subst e;simpa[Ay,PySem.W.BoolBack]using q
 ·refine kat_no ?_;have e:a≠c:=by
   intro z;subst z;simp at e
  have Z:C (decide (a<c)) s:=by simpa[Ay,e]using q
  exact oneLt_int Z
end
end XS
namespace XS
open PySem.W L2 My D3
def Yq(K:PySem.W.Frag)(H:Hp)(y:V)(q:Int×Int):Prop:=∃a,y = .ref a/\SqT K H a [.int q.1,.int q.2]
abbrev Prs(K:PySem.W.Frag)(H:Hp):List V->List (Int×Int)->Prop:=Paired (Yq K H)
section
variable{X:Cx}{pins:List (Addr×Obj)}{σ:L2.St}{H:Hp}{s:eS}
theorem Dc(I:Inv X pins σ H s){y:V}{u:Value}{q:Int×Int}(h:Yq X.K H y q)(r:RelV y u):∃a D B,u = .ref a/\g9 s.heap a #[.int q.1 D,.int q.2 B]:=by
 obtain⟨a,rfl,U⟩:=h
 cases r;obtain⟨its,Z,p,_⟩:=I.tuple U
 cases Z with
 |cons W Z=>cases Z with
  |cons Y Z=>
   cases Z;obtain⟨D,rfl⟩:=W;obtain⟨B,rfl⟩:=Y;exact⟨a,D,B,rfl,p⟩
theorem vK(I:Inv X pins σ H s){h':f8}(k:∀a items,g9 s.heap a items->g9 h' a items):∀{ys:List V}{us:List Value}{B:List (Int×Int)},Prs X.K H ys B->Vals ys us->∃fs,KatTups h' us fs/\fs.length=us.length/\∀v∈fs,∃i t,v = .int i t
 |_,_,_,.nil,.nil=>⟨[],trivial,rfl,λ_ h=>by cases h⟩
 |_,_,_,.cons p ps,.cons r W=>by
  obtain⟨fs,h1,h2,T⟩:=vK I k ps W;obtain⟨a,Y,S,rfl,U⟩:=Dc I p r;obtain⟨o,e,c,n,d⟩:=k _ _ U;refine⟨.int _ Y::fs,⟨⟨a,o,_,n,rfl,e,c,d,rfl⟩,h1⟩,by simp[h2],λv Z=>?_⟩;rcases aK.mp Z with rfl|Z
  ·exact⟨_,_,rfl⟩
  ·exact T v Z
theorem tM{ys:List V}{us:List Value}{B:List (Int×Int)}:Prs X.K H ys B->Vals ys us->∀i,i<ys.length->Yq X.K H (ys.getD i .non) (B.getD i (0,0))/\RelV (ys.getD i .non) (us.getD i .none)
 | .nil,.nil,i,h=>by cases h
 | .cons p ps,.cons r Z,0,h=>⟨p,r⟩
 | .cons p ps,.cons r Z,i+1,h=>by
  have:=tM ps Z i (by simpa using h);simpa using this
theorem Dh:lG X (.builtin "sorted") (λxs H Q=>∃(p:Addr)(ys:List V)(B:List (Int×Int)),xs=[.ref p]/\SqL X.K H p ys/\2<=ys.length/\ys.length<64/\Prs X.K H ys B/\∀l,H l=none->Q (.ref l) (upd H l (.lst ((nO ys.length (ltP B)).map λi=>ys.getD i .non)))):=by
 intro pins s σ H xs us Q I r h;obtain⟨p,ys,B,rfl,hx,h2,M,U,q⟩:=h;obtain⟨u,rfl,rx⟩:=vals1 r
 cases rx;obtain⟨its,Z,pl,hz⟩:=I.list hx;obtain⟨m,hm,_⟩:=id I.loc;have len:=Z.length.symm;refine kat_sorted (h₀:=Att.lX s.heap) (L:=X.env.locals) (m:=m) (Att.Oo hm) (Ey (g:=Att.lX s.heap) (h:=s.heap) (L:=X.env.locals)) pl.isList (by rwa[len]) (by rwa[len]) λD e1 h' F' J lt=>?_
 have kept:∀{W:f8}{nw:List (Addr×Obj)},News (Att.lX s.heap) X.env.locals W nw->(∀y∈nZ (Att.lX s.heap) s.heap X.env.locals,y∈nw)->∀b o,b≠X.env.locals->s.heap.get? b=some o->W.get? b=some o:=λN hs b o hb e=>(N (b,o) (hs _ (su hb (Att.qQ _ _) e))).1
 have P:∀a items,g9 s.heap a items->g9 h' a items:=λa items ⟨o,e,c,n,d⟩=>⟨o,kept J (λy Y=>au _ Y) a o (λz=>by
  obtain⟨o2,es,ep,e2,d2,_⟩:=hm;rw[z,e2]at e;cases e;rw[d2]at d;cases d) e,c,n,d⟩
 obtain⟨fs,f1,f2,f3⟩:=vK I P U Z;refine kat_kind (T:=.type "int") f1 (by rw[f2,len];omega) (λv O=>?_) rfl ?_
 ·obtain⟨i,t,rfl⟩:=f3 v O;exact λA Q E s _ q=>ae q
 refine C_ (n:=its.length) (lt:=ltP B) (R:=good its.length) (λi j C hi F hc=>?_) _ (wK (by rw[len];omega)) ?_
 ·obtain⟨p1,r1⟩:=tM U Z i (by rwa[<-len]);obtain⟨p2,r2⟩:=tM U Z j (by rwa[<-len]);obtain⟨a1,t1,t2,x1,y1⟩:=Dc I p1 r1;obtain⟨a2,t3,t4,f,k⟩:=Dc I p2 r2;unfold kas_ask;rw[x1,f];exact UG (P _ _ y1) (P _ _ k) hc
 ·refine KasFin.intro F' J (.head λy Y=>aP (lt y Y)) λh2 c F2 N2=>?_
  have x:s.heap.get? D=none:=by
   cases e:s.heap.get? D with
   |none=>rfl
   |some o=>
    by_cases z:D=X.env.locals
    ·exact absurd z (J _ (ak ..)).2.1
    ·exact absurd (lt (D,o) (su z (Att.qQ _ _) e)) (eF _)
  have hn:H D=none:=by
   cases e:H D with
   |none=>rfl
   |some u=>
    obtain⟨w,hw⟩:=wL (I.hok D u e);rw[x]at hw;cases hw
  have pm:=jg (n:=ys.length) (by omega) (ltP B);have O:∀l:List Nat,(∀i∈l,i<ys.length)->Vals (l.map λi=>ys.getD i .non) (l.map λi=>its.getD i .none):=λl G=>by
   induction l with
   |nil=>exact .nil
   |cons i l ih=>exact .cons (tM U Z i (G i ak)).2 (ih λj F=>G j (au _ F))
  have o1:((dO (ltP B) (cS its.length)).toList)=nO ys.length (ltP B):=by rw[len];rfl
  have S:gA X.prog X.w (upd H D (.lst ((nO ys.length (ltP B)).map λi=>ys.getD i .non))) h2 D (.lst ((nO ys.length (ltP B)).map λi=>ys.getD i .non)):=by
   refine⟨by rw[aq,pm.length_eq,bV];exact aW (cG M) (by decide),_,c,O _ λi hi=>bf.mp (pm.mem_iff.mp hi),?_⟩;have:=(N2 _ (ak ..)).1;rwa[<-o1]
  exact⟨.ref D,_,Kf (s:=s) (h':=h2) I hm F2.ns (kept N2 λy Y=>au _ Y) x S,rfl,q D hn⟩
end
end XS
namespace XS
open PySem.W L2 My D3
section
variable{prog:e9}{w:fy}{A:fm}{E:Value->eS->Prop}{s:eS}
theorem Ge{v:Value}{P:PySem.Fin->eS->Prop}(B:s.heap.get? a=some (seqObj "list" #[v] n))
 (h:∀h' c,(∀b u,b≠a->s.heap.get? b=some u->h'.get? b=some u)->h'.get? a=some (seqObj "list" #[v] c)->P (.done (.ret .none)) {s with heap:=h'}) :
 wpAny (model prog w) A (hJ.«list.sort» ⟨[.ref a],[]⟩) P E s:=by
 obtain⟨g1,Y⟩:∃g1,g1=s.heap.update a (fI λ_=>(#[]:Array Value)):=⟨_,rfl⟩;obtain⟨X,h1⟩:∃c,g1.get? a=some (seqObj "list" #[] c):=⟨_,by rw[Y];exact eC B λ_=>#[]⟩;have k1:∀b u,b≠a->s.heap.get? b=some u->g1.get? b=some u:=λb u z q=>by rw[Y];exact(bu _ _ _ _ z).trans q
 rw[list_sort_plain];refine aa (listItems_at B rfl ?_);refine aa (di B rfl ?_ (show 1<=sizeLine by decide) (cH _));rw[<-Y];refine aa (ew h1 rfl ?_);refine aa (eI ?_ (show 1<=sizeLine by decide));refine aa (bv ?_ (cH _));refine ap ?_;obtain⟨g2,e2⟩:∃g2,g2=(g1.push (seqObj "tuple" #[v] 0)).push (seqObj "list" #[] 0):=⟨_,rfl⟩;rw[<-e2];have h2:g2.get? a=some (seqObj "list" #[] X):=by rw[e2];exact ad _ (ad _ h1)
 have k2:∀b u,b≠a->s.heap.get? b=some u->g2.get? b=some u:=λb u z q=>by rw[e2];exact ad _ (ad _ (k1 b u z q))
 have two:(#[v]:Array Value).size<2:=fD 1;have Z:(arrOf (SortSt.mk' general' ((#[v]:Array Value).zip #[v]) #[] 7 none)).map (·.2) = #[v]:=by
  show((#[v]:Array Value).zip #[v]).map (·.2) = #[v];simp
 rw[if_pos two,if_pos two];refine aa (ae ?_);refine aa (ae ?_);dsimp only;rw[Z];refine aa (ew h2 rfl ?_);refine aa (di h2 rfl ?_ (cH _) (show 1<=sizeLine+1 by decide));rw[if_neg (by simp)];refine ae (h _ _ (λb u z q=>(bu _ _ _ _ z).trans (k2 b u z q)) (eC h2 _))
end
section
variable{X:Cx}
theorem Di:lG X (.builtin "sorted") (λxs H Q=>∃(p:Addr)(y:V),xs=[.ref p]/\SqL X.K H p [y]/\∀l,H l=none->Q (.ref l) (upd H l (.lst [y]))):=by
 intro pins s σ H xs us Q I r h;obtain⟨p,y,rfl,S,q⟩:=h;obtain⟨u,rfl,U⟩:=vals1 r
 cases U;obtain⟨its,Y,pl,P⟩:=I.list S;obtain⟨v,rfl,T⟩:∃v,its=[v]/\RelV y v:=by
  cases Y with
  |cons a b=>cases b;exact⟨_,rfl,a⟩
 refine bb eA dL dP (args_sorted1 _) ?_;unfold hJ.«sorted»;refine aa (m:=checkCount "sorted" 1 1 _) (ae ?_);refine aa (collect_list (vs:=[v]) pl.isList ?_ (show 1<=sizeLine by decide));refine aa (bv ?_ (show 1<=sizeLine by decide));obtain⟨g,W⟩:∃g,g=(s.heap.push (seqObj "list" #[] 0)).update s.heap.objs.size (fI (·++[v].toArray)):=⟨_,rfl⟩;rw[<-W];have sz:g.objs.size=s.heap.objs.size+1:=by rw[W,aI,cK]
 have old:∀b o,s.heap.get? b=some o->g.get? b=some o:=λb o e=>by
  have lt:=af e;rw[W,bu _ _ _ _ (aP lt)];exact ad _ e
 have Z:(g.push (seqObj "list" [v].toArray 0)).get? g.objs.size=some (seqObj "list" #[v] 0):=ag _ rfl;refine aa (ap (ar c_ ⟨_,Z,rfl⟩ cz (Ge Z λh' c k e=>⟨_,rfl,?_⟩) (eL _)));refine ae ⟨_,rfl,?_⟩;have hn:H g.objs.size=none:=I.hok.fresh (by rw[sz];exact lD _);have R:=I.laid (h':=h') (t':=s.toks) (a:=g.objs.size) (o:=.lst [y]) (λb o q=>k b o (λz=>by
  have lt:=af q;have z:=z.trans sz;rw[z]at lt;exact absurd lt (mK.mpr (lD _))) (ad _ (old b o q))) (by rw[sz];exact lD _) ⟨show 1<=sizeLine by decide,[v],c,.cons T .nil,e⟩
 exact⟨.ref _,_,R,rfl,q _ hn⟩
end
end XS
namespace XS
open PySem.W L2 My D3
section
variable{K:PySem.W.Frag}{H:Hp}
theorem Jc:∀{l:List D}{B:List (Int×Int)}{ys:List V},Jb l=some B->RAs K ok1 true H ys l->Prs K H ys B/\l=B.map λq=>.tuple [.int q.1,.int q.2]
 |[],B,ys,e,r=>by
  cases e;cases r;exact⟨.nil,rfl⟩
 |d::l,B,ys,e,r=>by
  cases r with
  |cons W X=>
   unfold Jb at e;split at e
   ·next h=>cases h
   ·next i j t h=>
    cases h
    cases Y:Jb l with
    |none=>rw[Y]at e;cases e
    |some q2=>
     rw[Y]at e
     cases e;obtain⟨p,U⟩:=Jc Y X;obtain⟨a,xs,rfl,hs,Z⟩:=W.tupE
     cases Z with
     |cons h1 Z=>cases Z with
      |cons h2 Z=>
       cases Z;obtain rfl:=h1.intE;obtain rfl:=h2.intE;exact⟨.cons ⟨a,rfl,hs⟩ p,by rw[aF,<-U]⟩
   ·cases e
theorem Gf(B:List (Int×Int)):flats (B.map λq=>(.tuple [.int q.1,.int q.2]:D))=true:=by
 induction B with
 |nil=>rfl
 |cons q B Z=>simp[flats,flat,Z]
theorem zH:∀{l:List D},flats l=true->∀i,flat (l.getD i .none)=true
 |[],_,i=>by simp[flat]
 |d::l,h,0=>by rw[flats,aV]at h;exact h.1
 |d::l,h,i+1=>by
  rw[flats,aV]at h;simpa using zH h.2 i
theorem Dj:∀{ys:List V}{l:List D}{ok:Ok}{pl:Bool},RAs K ok pl H ys l->∀i,RA K ok pl H (ys.getD i .non) (l.getD i .none)
 |_,_,_,_,.nil,i=>by simp;exact .non
 |_,_,_,_,.cons a b,0=>a
 |_,_,_,_,.cons a b,i+1=>by simpa using Dj b i
end
theorem Qd(ha:DB X fl .P [e] fa)(D:Gl X "sorted")(hm:X.mg "sorted"=none)
 (J:starEach [e] X.env=(false,eval e X.env)::starEach [] X.env:=by rfl) (B:(backTo pos (starEach [] X.env)).any (·.1)=false:=by rfl):DE X fl .FC (.Call (.Name "sorted" p) [e] [] pos) (dCall zG fa):=by
 have bs:bootBuiltins "sorted"=some (.builtin "sorted"):=by decide +kernel
 intro pins s σ H Q I h;refine D3.ex4 h λG ow δ d R w q=>?_
 refine D3.ex1 (bind1 w) λds L e2=>?_
 unfold zG at e2;split at e2
 ·next l=>
  split at e2
  ·next ns A=>exact Mu ha D hm J B pins s σ H Q I ⟨G,ow,δ,d,R,by unfold dCall;rwa[L],q⟩
  ·next A=>
   refine D3.ex1 (bind1 e2) λW C Y=>?_
   by_cases U:l.length<64
   ·rw[if_pos U]at Y;by_cases h1:l.length=1
    ·rw[if_pos h1]at Y
     cases Y;refine nq Di D hm bs ha (by decide) (by decide) J B pins s σ H Q I ⟨G,ow,δ,_,R,L,λvs H' sm r'=>?_⟩
     cases r' with
     |cons S T=>
      cases T;obtain⟨a,ys,rfl,O,Z⟩:=S.lstE;obtain⟨E,N⟩:=Jc C Z;obtain⟨y,rfl⟩:∃y,ys=[y]:=by
       have:=Z.length;rw[h1]at this;exact qy.mp this
      refine⟨a,y,rfl,O,λF hn=>q _ _ (sm.trans (cM hn _)) (.inr ⟨_,_,_,rfl,rfl,sm.free hn,bT,?_⟩)⟩;exact RAs.flat (by rw[N];exact Gf W) (Z.same (cM hn _))
    ·rw[if_neg h1]at Y
     cases Y;refine nq Dh D hm bs ha (by decide) (by decide) J B pins s σ H Q I ⟨G,ow,δ,_,R,L,λvs H' sm r'=>?_⟩
     cases r' with
     |cons S T=>
      cases T;obtain⟨a,ys,rfl,O,Z⟩:=S.lstE;obtain⟨E,N⟩:=Jc C Z;have v:=Z.length;have h2:2<=ys.length:=by
       rcases dM ys.length 2 with z|z
       ·have:l.length=0:=by omega
        have:=bL.mp this;subst this
        cases A
       ·exact z
      refine⟨a,ys,W,rfl,O,h2,by omega,E,λF hn=>q _ _ (sm.trans (cM hn _)) (.inr ⟨_,_,_,rfl,rfl,sm.free hn,bT,?_⟩)⟩;rw[v];have M:flats l=true:=by rw[N];exact Gf W
      have V:=Z.same (cM hn (.lst ((nO l.length (ltP W)).map λi=>ys.getD i .non)));generalize nO l.length (ltP W)=is at V ⊢;have:∀(is:List Nat)(H2:Hp),RAs X.K ok1 true H2 ys l->RAs X.K (λb=>okN H b/\b≠F) false H2 (is.map λi=>ys.getD i .non) (is.map λi=>l.getD i .none):=λis H2 Z=>by
       induction is with
       |nil=>exact .nil
       |cons i is x=>exact .cons (RA.flat (zH M i) (Dj Z i)) x
      exact this is _ V
   ·rw[if_neg U]at Y;cases Y
 ·cases e2
end XS
namespace XS
open PySem.W
section
variable{prog:e9}{w:fy}{A:fm}{E:Value->eS->Prop}{s:eS}
theorem UJ:typeLookup (.type "list") "keys"=pure none:=by rw[en,cE];kernel_rfl
theorem Mv{xs:Array Value}{k:Nat}{Q:Option Value->eS->Prop}(B:s.heap.get? a=some {cls:=.type "list", dict:=none,data:=.seq xs k,slots:=sl})(D:A.handled=none)
 (h:∀h' tk,(∀b o,s.heap.get? b=some o->h'.get? b=some o)->Q none {s with heap:=h',toks:=tk}):wpAny (model prog w) A (getAttr? (.ref a) "keys") Q E s:=by
 obtain⟨W,g,d,tk,os⟩:=s;have X:∀Z,(⟨W,g,d,Z,os⟩:eS).TypeIs (.ref a) "list" := λ_=>⟨_,B,rfl⟩
 have f1:=sub_AttributeError;have f3:=F.slot_list_getattribute.lookup;have S:=F.slot_list_getattribute.bind (.ref a);have T:=am_list_getattr_none;unfold getAttr? getAttrBy? getAttrBy
 repeat(any_goals(first|assumption|exact X _|((with_reducible show wpAny _ _ (call (Value.builtin "list.__getattribute__") _ _) _ _ _);refine dv F.slot_list_getattribute (X _) am_entry_list_getattribute (F.args_list_getattribute_2 _ _) (meets_getattribute_miss_list a xs k sl "keys" _ UJ (by decide) (by decide)) ⟨B,D,λh' Z e Y=>?_⟩)|wp_step))
 obtain⟨t',V,U⟩:=Y.there;unfold getattributeRaised
 repeat(any_goals(first|assumption|wp_step))
 exact h _ _ Y.keeps
theorem Bx:entryFor table "dict.update.loop"=some hJ.«dict.update.loop»:=entryFor_of_tree (by kernel_rfl)
theorem tO:plainId "dict.update.loop"=true:=by decide +kernel
structure PL(h:f8)(D I l:Addr)(its:Array Value)(vs:List (L2.Key×Value))(i:Nat):Prop where
 iter:h.IsListIter I l i
 lst:h.IsList l its
 prs:∀(j:Nat)(u:Value),its[j]? = some u->∃(a:Addr)(n:Int)(t:Tok)(v:Value),u=eW a/\g9 h a #[hX n t,v]/\vs[j]? = some (fo n,v)/\a≠D/\a≠I
 ne:l≠D/\l≠I/\D≠I
end
end XS
namespace XS
open PySem.W
section
variable{prog:e9}{w:fy}{A:fm}{E:Value->eS->Prop}{s:eS}
end
end XS
namespace XS
open PySem.W L2 My D3
section
variable{X:Cx}{pins:List (Addr×Obj)}{σ:L2.St}{H:Hp}{s:eS}
end
end XS
namespace XS
open PySem.W L2 My D3
section
variable{X:Cx}{fl:List Fl}{a:Expr}{f:FE}{pos:Pos}{ta:TE}
end
end XS
namespace D3
def isL:D->Bool
 | .list _=>true
 |_=>false
end D3
namespace D3
end D3
namespace D3
end D3
namespace D3
end D3
namespace D3
end D3
namespace D3
def dsT(S:List (List Int)):D:=.dict (S.map λk=>(.tuple (k.map .int),.bool true))
def tsD:List (D×D)->Option (List (List Int))
 |[]=>some []
 | (.tuple l,.bool true)::r=>(dF l).bind λk=>(tsD r).map (k :: ·)
 |_=>none
def Qe:D->Option (List (List Int))
 | .dict kvs=>tsD kvs
 |_=>none
def zJ:D->Option (List Int)
 | .tuple l=>dF l
 |_=>none
def iV(S:List (List Int))(k:List Int):List (List Int):=if k∈S then S else S++[k]
theorem Kg:∀ns:List Int,dF (ns.map eT)=some ns
 |[]=>rfl
 |n::r=>by
  rw[aF,dF,Kg r];rfl
theorem vL:∀S:List (List Int),tsD (S.map λk=>((.tuple (k.map .int),.bool true):D×D))=some S
 |[]=>rfl
 |k::S=>by
  rw[aF,tsD,vL S,Kg];rfl
theorem UL(S:List (List Int)):Qe (dsT S)=some S:=vL S
end D3
namespace D3
end D3
namespace D3
end D3
namespace D3
end D3
namespace D3
end D3
namespace D3
abbrev Tte:=List Int×List Int×Int
def yc:List (D×D)->Option (List Tte)
 |[]=>some []
 | (.tuple l,.tuple [.tuple m,.int z])::r=>(dF l).bind λk=>(dF m).bind λv=>(yc r).map ((k,v,z) :: ·)
 |_=>none
def Mw:D->Option (List Tte)
 | .dict kvs=>yc kvs
 |_=>none
noncomputable def rwD(k:List Int):D:=.tuple (k.map .int)
def ttV(q:List Int×Int):D:=.tuple [rwD q.1,.int q.2]
def ttP(S:List Tte):List (D×D):=S.map λq=>(rwD q.1,ttV q.2)
def dtt(S:List Tte):D:=.dict (ttP S)
noncomputable def pO(S:List Tte)(k:List Int):Option (List Int×Int):=(S.find? λq=>decide (q.1=k)).map (·.2)
def lA:D->D->Option D:=λx y=>(Mw x).bind λS=>(zJ y).bind λk=>(pO S k).map ttV
def Mx:D->Option (List Int×Int)
 | .tuple [.tuple m,.int z]=>(dF m).map (·,z)
 |_=>none
def rW(S:List Tte)(k:List Int)(v:List Int×Int):List Tte:=if(pO S k).isSome=true then S else S++[(k,v)]
def sU(i:Nat)(fk fv:FE):FS:=λδ=>(aj i δ).bind λx=>(fk δ).bind λy=>(fv δ).bind λz=>(Mw x).bind λS=>(zJ y).bind λk=>(Mx z).bind λv=>if S.length<1000000 then some (.nx (δ.set i (some (.d (dtt (rW S k v))))))else none
theorem oh:∀ns:List Int,dF (ns.map eT)=some ns
 |[]=>rfl
 |n::r=>by
  rw[aF,dF,oh r];rfl
theorem Dk:∀S:List Tte,yc (ttP S)=some S
 |[]=>rfl
 |q::S=>by
  show(dF (q.1.map eT)).bind (λk=>(dF (q.2.1.map eT)).bind λv=>(yc (ttP S)).map ((k,v,q.2.2) :: ·))=_;rw[oh,aC,oh,aC,Dk S];rfl
theorem rE:∀{l:List D}{k:List Int},dF l=some k->l=k.map eT
 |[],k,h=>by cases h;rfl
 |d::l,k,h=>by
  cases d with
  |int i=>
   unfold dF at h
   cases e:dF l with
   |none=>rw[e]at h;cases h
   |some r=>
    rw[e]at h
    cases h;rw[rE e];rfl
  |_=>unfold dF at h;cases h
theorem Kh:∀{kvs:List (D×D)}{S:List Tte},yc kvs=some S->kvs=ttP S
 |[],S,h=>by cases h;rfl
 | (a,b)::r,S,h=>by
  unfold yc at h;split at h
  ·next e=>cases e
  ·next e=>
   cases e;obtain⟨k,Y,h⟩:=pR.mp h;obtain⟨v,e2,h⟩:=pR.mp h
   cases Z:yc r with
   |none=>rw[Z]at h;cases h
   |some X=>
    rw[Z]at h
    cases h;rw[rE Y,rE e2,Kh Z];rfl
  ·cases h
theorem Gg(S:List Tte):Mw (dtt S)=some S:=Dk S
theorem Dm{x:D}{S:List Tte}(h:Mw x=some S):x=dtt S:=by
 cases x with
 |dict kvs=>rw[Kh (show yc kvs=some S from h)];rfl
 |_=>cases h
theorem UW{x:D}{v:List Int×Int}(h:Mx x=some v):x=ttV v:=by
 unfold Mx at h;split at h
 ·next m z=>
  cases e:dF m with
  |none=>rw[e]at h;cases h
  |some k=>
   rw[e]at h
   cases h;rw[rE e];rfl
 ·cases h
end D3
namespace D3
noncomputable def pP:List Int->List Int->Bool
 |[],[]=>false
 |[],_::_=>true
 |_::_,[]=>false
 |x::xs,y::ys=>if x=y then pP xs ys else decide (x<y)
def oR:D->Option (List (List Int))
 | .dict kvs=>match yc kvs with
  |some S=>some (S.map (·.1))
  |none=>tsD kvs
 |_=>none
def Gi:D->D->Option D:=λy x=>(oR x).bind λS=>(zJ y).map λk=>.bool (decide (k∈S))
def yd(f:FE)(fl fh:FO):FE:=λδ=>(f δ).bind λx=>(fl δ).bind λlo=>(fh δ).bind λhi=>match x with
 | .tuple l=>if flats l=true then some (.tuple (cuD l lo hi))else none
 |_=>none
def uq:List D->Option D
 |[.tuple l]=>match dF l with
  |some (i::r)=>some (.int (mxI i r))
  |_=>none
 |_=>none
def Jd(f:FE):FA:=λδ=>(f δ).bind λx=>match x with
 | .tuple l=>some (rO l)
 |_=>none
def Kl(fx:FE):FA:=λδ=>(fx δ).bind λx=>(oR x).map λS=>S.map rwD
def wM:D->D->Option D:=λx y=>match x,y with
 | .list l,.list m=>if l.length<=1000 then some (.list (jM l m))else none
 |_,_=>none
def rpD:List D->Option (List (List Int))
 |[]=>some []
 | .tuple [.tuple l,.bool true]::r=>(dF l).bind λk=>(rpD r).map (k :: ·)
 |_=>none
def zK:List D->Option D
 |[.list l]=>(rpD l).bind λks=>if l.length<=1000 then some (dsT (ks.foldl iV []))else none
 |_=>none
end D3
namespace L2
section
variable{κ:Type}[DecidableEq κ]
def oU(kvs:List (κ×V))(k:κ):Option V:=(kvs.find? λZ=>decide (Z.1=k)).map (·.2)
noncomputable def putK(kvs:List (κ×V))(k:κ)(v:V):List (κ×V):=
 if(kvs.any λZ=>decide (Z.1=k))=true then kvs.map (λZ=>if Z.1=k then(Z.1,v)else Z)else kvs++[(k,v)]
theorem sV{p:κ×V}{r:List (κ×V)}{k:κ}(e:p.1=k):oU (p::r) k=some p.2:=by simp[oU,e]
theorem sW{p:κ×V}{r:List (κ×V)}{k:κ}(e:¬p.1=k):oU (p::r) k=oU r k:=by simp[oU,e]
theorem Gj(k:κ):∀kvs:List (κ×V),(kvs.any λB=>decide (B.1=k))=(oU kvs k).isSome
 |[]=>rfl
 |p::r=>by
  rw[mX];by_cases e:p.1=k
  ·simp only[sV e,dTr e,Bool.true_or,Option.isSome_some]
  ·rw[sW e,dFa e,Bool.false_or];exact Gj k r
theorem xQ(kvs:List (κ×V))(k:κ)(v:V):(putK kvs k v).length<=kvs.length+1:=by
 unfold putK;split
 ·rw[aq];omega
 ·rw[bB,aR,iz];omega
theorem wj.isSome_eq{o:Option V}{u:Option Value}(r:wj o u):o.isSome=u.isSome:=by
 cases o with
 |none=>cases u with
  |none=>rfl
  |some _=>exact(show False from r).elim
 |some _=>cases u with
  |none=>exact(show False from r).elim
  |some _=>rfl
theorem wj.getD{o:Option V}{u:Option Value}{d:V}{d':Value}(r:wj o u)(rd:RelV d d'):RelV (o.getD d) (u.getD d'):=by
 cases o with
 |none=>cases u with
  |none=>exact rd
  |some _=>exact(show False from r).elim
 |some _=>cases u with
  |none=>exact(show False from r).elim
  |some _=>exact r
theorem KV.val{kvs:List (κ×V)}{vs:List (κ×Value)}(r:KV kvs vs)(k:κ):wj (oU kvs k) (valueAt vs k):=by
 induction r with
 |nil=>exact gd
 | @cons p q ps Z h t X=>
  obtain⟨h1,h2⟩:=h;by_cases e:p.1=k
  ·have Y:q.1=k:=h1.symm.trans e;have b:valueAt (q::Z) k=some q.2:=by simp[valueAt,Y]
   rwa[sV e,b]
  ·have Y:¬q.1=k:=λz=>e (h1.trans z)
   have b:valueAt (q::Z) k=valueAt Z k:=by simp[valueAt,Y]
   rwa[sW e,b]
theorem KV.any{kvs:List (κ×V)}{vs:List (κ×Value)}(r:KV kvs vs)(k:κ):(kvs.any λB=>decide (B.1=k))=vs.any λB=>decide (B.1=k):=by
 induction r with
 |nil=>rfl
 |cons h t Z=>rw[mX,mX,Z,h.1]
theorem KV.repl{kvs:List (κ×V)}{vs:List (κ×Value)}(r:KV kvs vs)(k:κ){y:V}{u:Value}(D:RelV y u):
 KV (kvs.map λB=>if B.1=k then(B.1,y)else B) (vs.map λB=>if B.1=k then(B.1,u)else B):=by
 unfold KV at r ⊢
 induction r with
 |nil=>exact .nil
 | @cons p q ps Y h t Z=>
  rw[aF,aF];refine .cons ?_ Z;obtain⟨h1,h2⟩:=h;by_cases e:p.1=k
  ·rw[if_pos e,if_pos (h1.symm.trans e)];exact⟨h1,D⟩
  ·rw[if_neg e,if_neg (λz=>e (h1.trans z))];exact⟨h1,h2⟩
theorem KV.put{kvs:List (κ×V)}{vs:List (κ×Value)}(r:KV kvs vs)(k:κ){y:V}{u:Value}(B:RelV y u):KV (putK kvs k y) (stored vs k u):=by
 unfold putK stored;rw[r.any k];by_cases e:(vs.any λZ=>decide (Z.1=k))=true
 ·rw[if_pos e,if_pos e];exact r.repl k B
 ·rw[if_neg e,if_neg e];exact Paired.snoc r ⟨rfl,B⟩
theorem KV.keys{kvs:List (κ×V)}{vs:List (κ×Value)}(r:KV kvs vs):kvs.map (·.1)=vs.map (·.1):=by
 induction r with
 |nil=>rfl
 |cons h t Z=>rw[aF,aF,Z,h.1]
theorem KV.length{kvs:List (κ×V)}{vs:List (κ×Value)}(r:KV kvs vs):kvs.length=vs.length:=Paired.length r
end
theorem Km{k:Key}{u:Value}(r:RelV (kV k) u):(cX P w).is k u=true:=by
 cases k with
 |inl i=>obtain⟨t,e⟩:=(show ∃t,u=hX i t from r);subst e;exact Et P w i t
 |inr x=>obtain⟨t,e⟩:=(show ∃t,u=Value.str x t from r);subst e;exact Eu P w x t
theorem BJ:∀{ks:List Key}{us:List Value},Vals (ks.map kV) us->ItemsAre (cX P w) ks us
 |[],_,r=>by rw[iB]at r;cases r;exact .nil
 |k::ks,_,r=>by
  rw[aF]at r
  cases r with
  |cons h t=>exact .cons (Km h) (BJ t)
abbrev KT(H:Hp):List (List Key×V)->List (List Key×Addr×Value)->Prop:=Paired λp q=>p.1=q.1/\H q.2.1=some (.tup (p.1.map kV))/\RelV p.2 q.2.2
theorem KT.val{kvs:List (List Key×V)}{xs:List (List Key×Addr×Value)}(r:KT H kvs xs)(k:List Key):wj (oU kvs k) ((atKey xs k).map (·.2)):=by
 induction r with
 |nil=>exact gd
 | @cons p q ps Z h t X=>
  obtain⟨h1,_,h2⟩:=h;by_cases e:p.1=k
  ·have Y:q.1=k:=h1.symm.trans e;have b:atKey (q::Z) k=some q.2:=by simp[atKey,Y]
   rwa[sV e,b]
  ·have Y:¬q.1=k:=λz=>e (h1.trans z)
   have b:atKey (q::Z) k=atKey Z k:=by simp[atKey,Y]
   rwa[sW e,b]
theorem KT.repl{kvs:List (List Key×V)}{xs:List (List Key×Addr×Value)}(r:KT H kvs xs)(k:List Key){y:V}{u:Value}(D:RelV y u):
 KT H (kvs.map λB=>if B.1=k then(B.1,y)else B) (xs.map (putAt k u)):=by
 induction r with
 |nil=>exact .nil
 | @cons p q ps X h t Z=>
  rw[aF,aF];refine .cons ?_ Z;obtain⟨h1,h2,Y⟩:=h;unfold putAt;by_cases e:p.1=k
  ·rw[if_pos e,if_pos (h1.symm.trans e)];exact⟨h1,h2,D⟩
  ·rw[if_neg e,if_neg (λz=>e (h1.trans z))];exact⟨h1,h2,Y⟩
theorem KT.put{kvs:List (List Key×V)}{xs:List (List Key×Addr×Value)}(r:KT H kvs xs)(k:List Key){b:Addr}{y:V}{u:Value}(D:H b=some (.tup (k.map kV)))(B:RelV y u):
 KT H (putK kvs k y) (storedH xs k b u):=by
 have e:(kvs.any λZ=>decide (Z.1=k))=(atKey xs k).isSome:=by
  rw[Gj,(r.val k).isSome_eq,uX]
 unfold putK storedH;rw[e];by_cases q:(atKey xs k).isSome=true
 ·rw[if_pos q,if_pos q];exact r.repl k B
 ·rw[if_neg q,if_neg q];exact Paired.snoc r ⟨rfl,D,B⟩
theorem KT.keeps{kvs:List (List Key×V)}{xs:List (List Key×Addr×Value)}(r:KT H kvs xs)(B:∀b ys,H b=some (.tup ys)->H' b=some (.tup ys)):KT H' kvs xs:=
 Paired.mapP r λ_ _ z=>⟨z.1,B _ _ z.2.1,z.2.2⟩
section
variable{P:e9}{w:fy}{H:Hp}{h:f8}{a:Addr}
theorem WD(ok:HOk P w H h)(e:Rd H a u):gA P w H h a u:=e.ok ok
theorem vM{kvs:List (Key×V)}(ok:HOk P w H h)(e:Rd H a (.dK kvs)):kvs.length<=sizeLine/\(a==sysModules)=false/\∃vs,KV kvs vs/\h.DictOf (cX P w) a vs:=
 show gA P w H h a (.dK kvs)from WD ok e
theorem WK{kvs:List (Key×V)}(ok:HOk P w H h)(e:H a=some (.dK kvs)):kvs.length<=sizeLine/\(a==sysModules)=false/\∃vs,KV kvs vs/\h.DictOf (cX P w) a vs:=vM ok (.inl e)
theorem uR{ks:List Key}(ok:HOk P w H h)(e:H a=some (.tup (ks.map kV))):(tupleKind (cX P w)).is h ks a:=by
 obtain⟨_,its,r,o,h1,h2,n,Z⟩:=(show gA P w H h a (.tup (ks.map kV))from ok a _ e);exact⟨o,its.toArray,n,h1,h2,Z,by simpa using BJ r⟩
theorem xR{kvs:List (List Key×V)}(ok:HOk P w H h)(e:Rd H a (.dT kvs)):kvs.length<=sizeLine/\(a==sysModules)=false /\
 ∃xs,KT H kvs xs/\h.DictOfH (tupleKind (cX P w)) a xs:=by
 obtain⟨z,y,xs,r,o,es,ep,h1,h2,T,U,W⟩:=(show gA P w H h a (.dT kvs)from WD ok e);refine⟨z,y,xs,r,o,es,ep,h1,h2,T,U,λx Z=>?_,W⟩;have all:∀{l:List (List Key×V)}{m:List (List Key×Addr×Value)},KT H l m->∀x∈m,(tupleKind (cX P w)).is h x.1 x.2.1:=by
  intro l m q
  induction q with
  |nil=>intro x Z;exact nomatch Z
  | @cons p q ps S Y t X=>
   intro x Z;rcases aK.mp Z with e|Z
   ·subst e;exact uR ok (by rw[<-Y.1];exact Y.2.1)
   ·exact X x Z
 exact all r x Z
theorem WL{kvs:List (List Key×V)}(ok:HOk P w H h)(e:H a=some (.dT kvs)):kvs.length<=sizeLine/\(a==sysModules)=false /\
 ∃xs,KT H kvs xs/\h.DictOfH (tupleKind (cX P w)) a xs:=xR ok (.inl e)
end
def Je(H:Hp)(a:Addr)(y:V)(r:Option V):Prop:=
 (∃kvs k,Rd H a (.dK kvs)/\y=kV k/\r=oU kvs k)\/∃kvs k b,Rd H a (.dT kvs)/\y = .ref b/\H b=some (.tup (k.map kV))/\r=oU kvs k
def Jf(H:Hp)(a:Addr)(y v:V)(H':Hp):Prop:=
 (∃kvs k,H a=some (.dK kvs)/\y=kV k/\kvs.length<sizeLine/\H'=upd H a (.dK (putK kvs k v))) \/
 ∃kvs k b,H a=some (.dT kvs)/\y = .ref b/\H b=some (.tup (k.map kV))/\kvs.length<sizeLine/\H'=upd H a (.dT (putK kvs k v))
theorem Je.k{kvs:List (Key×V)}{k:Key}(e:H a=some (.dK kvs)):Je H a (kV k) (oU kvs k):=.inl ⟨kvs,k,.inl e,rfl,rfl⟩
theorem Jf.k{kvs:List (Key×V)}{k:Key}(e:H a=some (.dK kvs))(B:kvs.length<sizeLine):Jf H a (kV k) v (upd H a (.dK (putK kvs k v))):=.inl ⟨kvs,k,e,rfl,B,rfl⟩
theorem Jf.t{kvs:List (List Key×V)}{k:List Key}(e:H a=some (.dT kvs))(D:H b=some (.tup (k.map kV)))(B:kvs.length<sizeLine):
 Jf H a (.ref b) v (upd H a (.dT (putK kvs k v))):=.inr ⟨kvs,k,b,e,rfl,D,B,rfl⟩
section
variable{X:Cx}{pins:List (Addr×Obj)}{σ:St}{H:Hp}{s:eS}{a:Addr}{y v:V}{u r:Value}{o:Option V}{A:fm}{E:Value->eS->Prop}
theorem Mz(hu:A.units+1<cLine)(I:Inv X pins σ H s)(g:Je H a y (some v))(D:RelV y u)(h:∀B s',Inv X pins σ H s'->RelV v B->Q B s'):
 wpAny (model X.prog X.w) A (getItem (.ref a) u) Q E s:=by
 rcases g with⟨kvs,k,e,W,l⟩|⟨kvs,k,b,e,W,T,l⟩
 ·subst W;obtain⟨z,hd,vs,rel,V⟩:=vM I.hok e;obtain⟨B,hw,Z⟩:=wj.some_of (v:=v) (o:=valueAt vs k) (by rw[l];exact rel.val k);exact wpAny_getItem_of (Km D) V.mapOf hw (h B _ (I.tok _) Z)
 ·subst W
  cases(show u=eW b from D);obtain⟨z,hd,xs,rel,V⟩:=xR I.hok e;obtain⟨B,hw,Z⟩:=wj.some_of (v:=v) (o:=(atKey xs k).map (·.2)) (by rw[l];exact rel.val k);obtain⟨p,U,Y⟩:=Option.map_eq_some_iff.mp hw;refine wpAny_getItem_heap (ba hu) (uR I.hok T) V U ?_;rw[Y];exact h B _ (I.tok _) Z
theorem al6(hu:A.units+1<cLine)(I:Inv X pins σ H s)(g:Je H a y o)(B:RelV y u)(h:∀s',Inv X pins σ H s'->Q (.bool o.isSome) s'):
 wpAny (model X.prog X.w) A (compareOp .In u (.ref a)) Q E s:=by
 rcases g with⟨kvs,k,e,Z,l⟩|⟨kvs,k,b,e,Z,W,l⟩
 ·subst Z;obtain⟨z,hd,vs,rel,Y⟩:=vM I.hok e;refine wpAny_in_of (Km B) hd Y.mapOf ?_;rw[<-(rel.val k).isSome_eq,<-l];exact h _ (I.tok _)
 ·subst Z
  cases(show u=eW b from B);obtain⟨z,hd,xs,rel,Y⟩:=xR I.hok e;refine wpAny_in_heap (ba hu) (uR I.hok W) hd Y ?_;have q:=(rel.val k).isSome_eq;rw[uX]at q;rw[<-q,<-l];exact h _ (I.tok _)
theorem yt{B:HO}(I:Inv X pins σ H s)(J:Mut (H a))(hs:gm a s.heap h')(O:∃q,h'.get? a=some q)(D:gA X.prog X.w (upd H a B) h' a B):
 Inv X pins σ (upd H a B) {s with heap:=h',toks:=t'}:=
 I.write (x:=a) (e:=a) J (.inl rfl) (λb q Z z=>(hs.2 b Z).trans z) O D
theorem Yr{kvs:List (Key×V)}{vs:List (Key×Value)}(z:kvs.length<=sizeLine)(hd:(a==sysModules)=false)(rel:KV kvs vs)(B:h'.DictOf (cX P w) a vs):
 gA P w H' h' a (.dK kvs):=⟨z,hd,vs,rel,B⟩
theorem BK{Q:Unit->eS->Prop}(hu:A.units+1<cLine)(I:Inv X pins σ H s)(g:Jf H a y v H')(B:RelV y u)(D:RelV v r)(h:∀s',Inv X pins σ H' s'->Q () s'):
 wpAny (model X.prog X.w) A (setItem (.ref a) u r) Q E s:=by
 rcases g with⟨kvs,k,e,U,l,T⟩|⟨kvs,k,b,e,U,R,l,T⟩
 ·subst U T;obtain⟨z,hd,vs,rel,S⟩:=WK I.hok e;have W:vs.length<=sizeLine:=by rwa[<-rel.length]
  have V:(putK kvs k v).length<=sizeLine:=by have:=xQ kvs k v;omega
  refine wpAny_setItem_pairs (hsz:=W) (Km B) S λh' Z hs=>h _ ?_
  have P:∃q,h'.get? a=some q:=let⟨q,_,_,Y,_⟩:=Z;⟨q,Y⟩;exact yt I (by rw[e];exact gd) hs P (Yr V hd (rel.put k D) Z)
 ·subst U T
  cases(show u=eW b from B);obtain⟨z,hd,xs,rel,S⟩:=WL I.hok e;have W:xs.length<=sizeLine:=by rwa[<-Paired.length rel]
  have V:(putK kvs k v).length<=sizeLine:=by have:=xQ kvs k v;omega
  refine wpAny_setItem_heap (hsz:=W) (ba hu) (uR I.hok R) S λh' Z hs=>h _ ?_
  obtain⟨q,es,ep,Y,h2,M,N,_,O⟩:=Z;refine yt I (by rw[e];exact gd) hs ⟨q,Y⟩ ⟨V,hd,_,(rel.put k R D).keeps λc ys L=>?_,q,es,ep,Y,h2,M,N,O⟩;rwa[bF (iR L e (λz=>nomatch z))]
end
section
variable{X:Cx}{pins:List (Addr×Obj)}{σ:St}{H:Hp}{s:eS}{a:Addr}{kvs:List (Key×V)}{k:Key}{u:Value}{A:fm}{E:Value->eS->Prop}
theorem ac3(I:Inv X pins σ H s)(e:Rd H a (.dK kvs))(h:∀t s',Inv X pins σ H s'->Q (.int kvs.length t) s'):wpAny (model X.prog X.w) A (call (.builtin "len") [.ref a]) Q E s:=by
 obtain⟨z,hd,vs,rel,Z⟩:=vM I.hok e;refine call_len_dict hd Z (by rw[<-rel.length];rw[da]at z;omega) ?_;rw[<-rel.length];exact h _ _ (I.tok _)
end
def Ys(i:Expr):Prop:=∀Z Y,subscripted i false Z Y=operate [Z,Y] (getItem Z Y)
theorem U0{value slice:Expr}{id:String}
 (J:typeLookup (.type T) "__getitem__"=pure (some (.builtin id))) (hs:Ys slice)
 (h:wpAny (model prog w) A (eval value env) (λo D=>wpAny (model prog w) A (eval slice env) (λi B=>B.TypeIs o T/\wpAny (model prog w) A (getItem o i) Q E B) E D) E s) :
 wpAny (model prog w) A (eval (.Subscript value slice pos) env) Q E s:=by
 refine dy (a5 h (λo D W=>a5 W (λi B Z=>?_) λ_ _ x=>x) λ_ _ x=>x);obtain⟨V,Z⟩:=Z;refine aa ?_;rw[getitemInPython_of_ne V.not_modules];refine aa (ef V J ?_);have fin:wpAny (model prog w) A (subscripted slice false o i) (λr Y=>wpAny (model prog w) A (letTemporaryGo value o r >>= λ_=>pure r) Q E Y) E B:=by
  rw[hs o i];exact wpAny_operating (a5 Z (λr Y X=>aa (wpAny_letTemporaryGo (ae X))) λ_ _ x=>x)
 first
  |exact ae (aa fin)
  |exact aa (ae (aa fin))
  |exact aa fin
theorem Gk{σ:St}{y:V}{o:Option V}(I:Inv X pins σ H s)(g:Je H a y o):s.TypeIs (.ref a) "dict" := by
 rcases g with⟨kvs,k,e,_,_⟩|⟨kvs,k,b,e,_,_,_⟩
 ·obtain⟨_,_,vs,_,Z⟩:=vM I.hok e;exact Z.typeIs
 ·obtain⟨_,_,xs,_,Z⟩:=xR I.hok e;exact Z.typeIs
def ac4(td ty:TE):TE:=λσ H Q=>td σ H λx H1=>ty σ H1 λy H2=>∃a v,x = .ref a/\Je H2 a y (some v)/\Q v H2
section
variable{X:Cx}{o i e value:Expr}{pos pos' tpos:Pos}{td ty tv:TE}
theorem U3(hu:X.A.units+1<cLine)(B:PE X o td)(hi:PE X i ty)(hs:Ys i):PE X (.Subscript o i pos) (ac4 td ty):=by
 intro pins s σ H Q I h;refine U0 PySem.F.slot_dict_getitem.lookup hs (thn (B pins s σ H _ I h) λu s1 ⟨x,H1,T,V,q1⟩=>thn (hi pins s1 σ H1 _ T q1) λR s2 ⟨y,H2,Y,W,a,v,ex,g,q2⟩=>?_);subst ex;obtain rfl:u=eW a:=V;exact⟨Gk Y g,Mz hu Y g W λS s3 U Z=>⟨v,H2,U,Z,q2⟩⟩
end
section
variable{X:Cx}{pos:Pos}
end
structure M1(X:Cx)(o:Expr)(m:Str)(apos:Pos)(e:Expr)(cpos:Pos):Prop where
 base:attributeBase o m X.env (eval o X.env)=eval o X.env
 few:((backTo cpos (starEach [e] X.env)).all (λx=>!x.1)&&(backToKw cpos (keywordEach [] X.env)).all (λx=>x.1.isSome)
  && decide (([e]:List Expr).length+([]:List h8).length+(if([]:List h8).isEmpty then 0 else 1)<30))=true
 line:(apos.endLine==cpos.line)=true
 trees:backTo cpos (starEach [e] X.env)=[(false,eval e X.env)]
structure M2(X:Cx)(o:Expr)(m:Str)(apos:Pos)(e f:Expr)(cpos:Pos):Prop where
 base:attributeBase o m X.env (eval o X.env)=eval o X.env
 few:((backTo cpos (starEach [e,f] X.env)).all (λx=>!x.1)&&(backToKw cpos (keywordEach [] X.env)).all (λx=>x.1.isSome)
  && decide (([e,f]:List Expr).length+([]:List h8).length+(if([]:List h8).isEmpty then 0 else 1)<30))=true
 line:(apos.endLine==cpos.line)=true
 trees:backTo cpos (starEach [e,f] X.env)=[(false,eval e X.env),(false,eval f X.env)]
def IsD(H:Hp)(a:Addr):Prop:=(∃kvs,Rd H a (.dK kvs))\/∃kvs,Rd H a (.dT kvs)
theorem Yt{σ:St}(I:Inv X pins σ H s)(d:IsD H a):
 s.TypeIs (.ref a) "dict"/\(∀b,eW a = .ref b->∃B,s.heap.get? b=some B/\B.dict=none)/\(a==sysModules)=false:=by
 rcases d with⟨kvs,e⟩|⟨kvs,e⟩
 ·obtain⟨_,hd,vs,_,Z⟩:=vM I.hok e;refine⟨Z.typeIs,λb q=>?_,hd⟩
  cases q;obtain⟨B,_,_,h1,h2,_⟩:=Z;exact⟨B,h1,h2.2.1⟩
 ·obtain⟨_,hd,xs,_,Z⟩:=xR I.hok e;refine⟨Z.typeIs,λb q=>?_,hd⟩
  cases q;obtain⟨B,_,_,h1,h2,_⟩:=Z;exact⟨B,h1,h2.2.1⟩
section
variable{X:Cx}{pins:List (Addr×Obj)}{σ:St}{H:Hp}{s:eS}{a:Addr}{y d:V}{u r:Value}{o:Option V}{A:fm}{E:Value->eS->Prop}
end
section
variable{X:Cx}{o e f:Expr}{apos cpos:Pos}{td ty tx:TE}
end
section
variable{X:Cx}{pins:List (Addr×Obj)}{σ:St}{H:Hp}{s:eS}{a:Addr}{kvs:List (Key×V)}{A:fm}{E:Value->eS->Prop}
end
section
variable{X:Cx}{pins:List (Addr×Obj)}{σ:St}{H:Hp}{s:eS}{a:Addr}{y:V}{u:Value}{A:fm}{E:Value->eS->Prop}
end
section
variable{κ:Type}[DecidableEq κ]
end
end L2
namespace XK
open L2 My D3
section
variable{K:PySem.W.Frag}{H:Hp}
theorem U4(s:Same H H')(h:L2.Rd H a u):L2.Rd H' a u:=by
 rcases h with h|⟨o,h⟩
 ·exact .inl (s _ _ h)
 ·exact .inr ⟨o,s _ _ h⟩
end
section
variable{X:Cx}{fl:List Fl}{e a b c ke:Expr}{f fa fb fc fk:FE}{pos:Pos}
def al7:R2:=λx y H Q=>∃p o,y = .ref p/\Je H p x o/\Q (.bl o.isSome) H
theorem Yu(hu:X.A.units+64<cLine):OpR X (compareOp .In) al7:=by
 intro pins s σ H x y v u Q I Y Z h;obtain⟨p,o,rfl,g,q⟩:=h;obtain rfl:u=eW p:=Z;exact al6 (by omega) I g Y λs' W=>⟨.bl o.isSome,H,W,rfl,q⟩
theorem Ko:∀(l:List Value)(ns:List Int),l.length=ns.length->(∀(j:Nat)(v:Value),l[j]? = some v->∃n t,ns[j]? = some n/\v=hX n t)->gS l ns
 |[],[],_,_=>.nil
 |[],_::_,h,_=>by simp at h
 |_::_,[],h,_=>by simp at h
 |v::l,n::ns,h,g=>by
  obtain⟨X,t,Y,e2⟩:=g 0 v rfl
  cases Y;subst e2;exact .cons _ _ (Ko l ns (by simpa using h) λj v Z=>by simpa using g (j+1) v (by simpa using Z))
end
end XK
namespace XK
open L2 My D3
theorem hu1(h:n+64<cLine):n+1<cLine:=by omega
section
variable{K:PySem.W.Frag}{fl:List Fl}
end
section
variable{X:Cx}{fl:List Fl}{e a b c ke:Expr}{f fa fb fc fk:FE}{pos:Pos}
end
end XK
namespace XK
open L2 My D3
def Qf(X:Cx)(a:Addr):Prop:=(∀xs,X.H₀ a≠some (.tup xs))/\(∀o u,X.H₀ a≠some (.frz o u))/\∀q p,X.H₀ a≠some (.tbl q p)
section
variable{X:Cx}{pins:List (Addr×Obj)}{σ:L2.St}{H H':Hp}{s:eS}{a:Addr}{kvs:List (Key×V)}{o:Obj}
theorem Qg(I:L2.Inv X pins σ H s)(hn:Qf X a)(ha:H a≠none)(B:∀b,b≠a->H' b=H b)(hok:HOk X.prog X.w H' s.heap):L2.Inv X pins σ H' s:=by
 have Z:∀b,H b=none->H' b=none:=λb z=>by
  rw[B b (λe=>ha (by rwa[<-e]))];exact z
 refine⟨I.ok,I.os,I.bare,⟨I.base.keep,I.base.slot,λb o e n Y=>Z b (I.base.free b o e n Y),I.base.there,λb xs e=>?_,λb o u e=>?_,λb q p e=>?_⟩,I.loc,I.cell,Z _ I.free,λx c e=>Z _ (I.freeC x c e),λp W=>?_,hok,I.len⟩
 ·rw[B b (λz=>hn.1 xs (by rwa[<-z]))];exact I.base.tups b xs e
 ·rw[B b (λz=>hn.2.1 o u (by rwa[<-z]))];exact I.base.frzs b o u e
 ·rw[B b (λz=>hn.2.2 q p (by rwa[<-z]))];exact I.base.tbls b q p e
 ·obtain⟨h1,h2,V⟩:=I.pin p W;exact⟨h1,Z _ h2,V⟩
end
section
variable{K:PySem.W.Frag}{H:Hp}{a:Addr}{kvs:List (Key×V)}{o:Obj}
mutual
theorem Dp{ok:Ok}(h:H a=some (.dK kvs)):∀{v:V}{d:D},RA K ok true H v d->RA K ok true (upd H a (.frz o (.dK kvs))) v d
 |_,_,.non=>.non
 |_,_,.bl b=>.bl b
 |_,_,.int i=>.int i
 |_,_,.str x=>.str x
 |_,_,.lst e k q=>.lst (by rwa[bF (iR e h (by intro z;cases z))]) k (ou h q)
 |_,_,.lsk e k q=>.lsk (by
  rcases e with⟨o',e⟩|e
  ·exact .inl ⟨o',by rwa[bF (iR e h (by intro z;cases z))]⟩
  ·exact .inr e) k (ou h q)
 |_,_,.tup e q=>.tup (by unfold gQ;rwa[bF (iR e h (by intro z;cases z))]) (ou h q)
 |_,_,.dic (a:=b) e g k=>by
  by_cases hb:b=a
  ·subst hb;have g':=g.upd (o:=.frz o (.dK kvs)) h;rw[h]at e;exact .dik (by rw[bT];injection e with e;rw[e]) g' rfl
  ·exact .dic (by rwa[bF hb]) (g.upd h) k
 |_,_,.dik e g k=>.dik (by rwa[bF (iR e h (by intro z;cases z))]) (g.upd h) k
theorem ou{ok:Ok}(h:H a=some (.dK kvs)):∀{v:List V}{d:List D},RAs K ok true H v d->RAs K ok true (upd H a (.frz o (.dK kvs))) v d
 |_,_,.nil=>.nil
 |_,_,.cons e q=>.cons (Dp h e) (ou h q)
end
mutual
theorem Dq{ok:Ok}(h:H a=some (.frz o (.dK kvs))):∀{v:V}{d:D},RA K ok false H v d->RA K ok false (upd H a (.dK kvs)) v d
 |_,_,.non=>.non
 |_,_,.bl b=>.bl b
 |_,_,.int i=>.int i
 |_,_,.str x=>.str x
 |_,_,.lst e k q=>.lst (by rwa[bF (iR e h (by intro z;cases z))]) k (nC h q)
 |_,_,.lsk e k q=>by cases k
 |_,_,.tup e q=>.tup (by unfold gQ;rwa[bF (iR e h (by intro z;cases z))]) (nC h q)
 |_,_,.dic e g k=>.dic (by rwa[bF (iR e h (by intro z;rcases g.or with⟨ks,y⟩|⟨ks,y⟩<;>(rw[y]at z;cases z)))]) (g.imp λ_ _ t=>by unfold gQ;rwa[bF (iR t h (by intro z;cases z))]) k
 |_,_,.dik e _ k=>by cases k
theorem nC{ok:Ok}(h:H a=some (.frz o (.dK kvs))):∀{v:List V}{d:List D},RAs K ok false H v d->RAs K ok false (upd H a (.dK kvs)) v d
 |_,_,.nil=>.nil
 |_,_,.cons e q=>.cons (Dq h e) (nC h q)
end
end
section
variable{X:Cx}{fl fl':List Fl}{e b c elt tg iter:Expr}{es ifs:List Expr}{k:Kd}{f fa fb fc fx:FE}{ft gt:FT}{pos:Pos}{scope:hV}{ix L TT:List Nat}{fi:FA}{g:FG}
theorem Gm{σ:L2.St}{Q:VK}{t:Nat}{r:List D}{J:It}{Dl:Addr}{tb:Tb H1}(htg:∀j∈TT,j<t)(R:Rel X.K fl' ⟨H1,H1,λ_=>none,λ_=>[],tb⟩ ow0 (uM t ix σ) H1 (j_ t ix δ))
 (hl:l.length<=100000) (e3:jK g ft f (j_ t ix δ) l=some r) (hD:H1 Dl=none)
 (wk:∀H2,Same H1 H2->∀i:Nat,(∀d,l[i]? = some d->J.go i H2/\∀x O,J.yld i H2 x O->Same H2 O/\RA X.K ok1 true O x d)/\(l.length<=i->J.stop i H2))
 (q:∀H2 xs,Same H1 H2->H2 Dl=some (.lst xs)->RAs X.K (λb=>okN H1 b/\b≠Dl) false H2 xs r->Q (.ref Dl) H2) :
 ∃W:Nat->Nat->List V->Hp->Prop,(∃m,W 0 m [] (upd H1 Dl (.lst []))) /\
  ∀i m xs H2,W i m xs H2->H2 Dl=some (.lst xs)/\((J.stop i H2/\Q (.ref Dl) H2)\/(J.go i H2/\xs.length<sizeLine/\∀x O,J.yld i H2 x O->tDG X.K fl' TT g x (uM t ix σ) O λB H4=>B.drop t=(uM t ix σ).drop t /\
   tDT X.K fl' ft B H4 λb H5=>if b=true then tD X.K fl' .C f B H5 λv H6=>H6 Dl=some (.lst xs)/\∃m',m'<m/\W (i+1) m' (xs++[v]) (upd H6 Dl (.lst (xs++[v])))else ∃m',m'<m/\W (i+1) m' xs H5)):=by
 let N:Ok:=λb=>okN H1 b/\b≠Dl
 refine⟨λi m xs H2=>m=l.length-i/\H2 Dl=some (.lst xs)/\Same H1 H2/\xs.length<=i/\i<=l.length/\∃ds rest,RAs X.K N false H2 xs ds/\jK g ft f (j_ t ix δ) (l.drop i)=some rest/\r=ds++rest,
  ⟨_,rfl,bT,cM hD _,aB _,cH _,[],r,.nil,by simpa using e3,rfl⟩,?_⟩
 rintro i m xs H2 ⟨rfl,U,s2,F,A,ds,rest,E,Y,rfl⟩;refine⟨U,?_⟩;obtain⟨h,k⟩:=wk H2 s2 i;by_cases S:i<l.length
 ·have L:=iu S;rw[L,jK]at Y;refine D3.ex1 (bind1 Y) λP e5 Y=>?_
  refine D3.ex1 (bind1 Y) λu e6 Y=>?_
  obtain⟨go,p⟩:=h l[i] (aA S);refine .inr ⟨go,kY (aW F (aW A hl)) (by decide),λx O hy=>?_⟩;obtain⟨s3,r3⟩:=p x O hy;have H:=s2.trans s3;have Rb:=R.grow H;refine⟨_,_,_,_,P,Rb,r3.imp (λ_ _=>⟨λi z=>(by cases z),λi z=>(by cases z)⟩) (λz=>z),e5,λB s M=>⟨?_,?_⟩⟩
  ·apply dN;intro n;rw[dW,dW];exact M (t+n) λz=>absurd (htg _ z) (by omega)
  ·refine⟨_,_,P,u,s,e6,λH5 I=>?_⟩
   cases u with
   |false=>
    rw[if_neg aX]at Y ⊢;have Z:=s3.trans I;exact⟨l.length-(i+1),by omega,rfl,Z _ _ U,s2.trans Z,by omega,S,ds,rest,E.same Z,Y,rfl⟩
   |true=>
    rw[if_pos rfl]at Y ⊢;refine D3.ex1 (bind1 Y) λy e7 Y=>?_
    refine D3.ex1 (bind1 Y) λl' e8 Y=>?_
    cases Y;refine⟨_,_,P,y,s.grow I,e7,λv H6 c r6=>?_⟩;have Z:=s3.trans I;have T:=Z.trans c;refine⟨T _ _ U,l.length-(i+1),by omega,rfl,bT,?_,by rw[bB,jG];omega,S,ds++[y],l',?_,e8,by simp⟩
    ·intro b o w;rw[bF (λz=>by subst z;rw[hD]at w;cases w)];exact(s2.trans T) b o w
    ·have nd:¬N Dl:=λz=>z.2 rfl
     have G:=s2.trans Z;have a:RA X.K N false H6 v y:=RA.imp (λb z=>⟨G.free z,λe=>by subst e;rw[okN,Z _ _ U]at z;cases z⟩) (λz=>z) r6;exact((E.same T).append (.cons a .nil)).upd (T _ _ U) nd
 ·have ed:l.drop i=[]:=fK (by omega);rw[ed,jK]at Y
  cases Y;refine .inl ⟨k (by omega),?_⟩;rw[cA]at q;exact q H2 xs s2 U E
end
end XK
variable{a0:Addr}{o0:Obj}
namespace XK
theorem Gn{Q:Option Obj->eS->Prop}(h:Q (s.heap.get? a) s):wpAny M A (loadIfAlive a) Q E s:=λ_ _ _=>h
abbrev Az(h:f8)(z a0 TI TO:Addr)(b:Bool):Prop:=
 h.get? z=some {cls:=.type "zip", dict:=none,data:=.fields #[rawInt a0,.bool b,.bool false,.ref TI,.ref TO],slots:=#[]}
section
variable{prog:e9}{w:fy}{A:fm}{E:Value->eS->Prop}{s:eS}
theorem zL{TI TO:Addr}{b:Bool}{Q:Bool->eS->Prop}(hz:Az s.heap z a0 TI TO b)(D:s.heap.get? a0=some o0)(B:∀h',Az h' z a0 TI TO true->gm z s.heap h'->Q false {s with heap:=h'}):
 wpAny (model prog w) A (Builtin.SmallTypes.ownedTupleIsFree (.ref z)) Q E s:=by
 refine aa (aT hz rfl (x:=rawInt a0) rfl ?_);refine aa (Gn ?_);rw[fL,D];refine aa (aT hz rfl (x:=.bool b) rfl ?_)
 cases b with
 |true=>
  exact ae (B s.heap hz ⟨rfl,λ_ _=>rfl⟩)
 |false=>
  refine aa (wpAny_setField_rec hz (by simp) λX Z Y=>ae (B X Z Y))
theorem Qh{TI TO:Addr}{xs:Array Value}{x y:Value}{b:Bool}(D:ip z TI TO i1 i2 l1 l2)
 (hz:Az s.heap z a0 TI TO b) (h0:s.heap.get? a0=some o0) (O:gX s.heap TI (.ref i1) (.ref i2))
 (h1:s.heap.IsListIter i1 l1 k1) (h2:s.heap.IsListIter i2 l2 k2) (J:s.heap.IsList l1 xs) (B:s.heap.IsList l2 ys) (hx:xs[k1]? = some x) (hy:ys[k2]? = some y)
 (hQ:∀h',Az h' z a0 TI TO true->h'.IsListIter i1 l1 (k1+1)->h'.IsListIter i2 l2 (k2+1)->gX h' s.heap.objs.size x y ->
  (∀c o,c≠z->c≠i1->c≠i2->s.heap.get? c=some o->h'.get? c=some o)->Q (.ref s.heap.objs.size) {s with heap:=h'}) :
 wpAny (model prog w) A (hJ.«zip.__next__» ⟨[.ref z],[]⟩) (λfin s'=>∃v,fin = .done (.ret v)/\Q v s') E s:=by
 show wpAny _ _ (field (.ref z) 2 >>= _) _ _ _;refine aa (aT hz rfl (x:=.bool false) rfl ?_);refine aa (aT hz rfl (x:=.ref TI) rfl ?_);refine aa (bt O rfl ?_);refine aa (zL hz h0 λK U Z=>?_);simp only[f9,if_false];refine aa ?_;simp only[<-ux,rK,List.forIn_nil];refine aa (aa (ap ?_));refine aa (cn (h1.extBut Z.extBut D.i1z) (J.extBut Z.extBut D.l1z) hx λL S Y=>ae (ae ?_));refine aa (aa (ap ?_));refine aa (cn ((h2.extBut Z.extBut D.i2z).extBut Y.extBut D.i12.symm) ((B.extBut Z.extBut D.l2z).extBut Y.extBut D.l2i1) hy λW T X=>ae (ae (ae ?_)));show wpAny _ _ (newTuple [x,y] >>= _) _ _ _;refine aa (eI (ae ⟨_,rfl,?_⟩));have R:W.objs.size=s.heap.objs.size:=by rw[X.1,Y.1,Z.1]
 have I:∀c o,c≠z->c≠i1->c≠i2->s.heap.get? c=some o->W.get? c=some o:=λc o M N P e=>X.extBut _ _ P (Y.extBut _ _ N (Z.extBut _ _ M e))
 have V:=X.extBut _ _ D.i2z.symm (Y.extBut _ _ D.i1z.symm U);have up:∀c o,W.get? c=some o->(W.push {cls:=.type "tuple", data:=.seq #[x,y]}).get? c=some o:=λc o e=>ad _ e
 rw[R];refine hQ _ (up _ _ V) (((S.extBut X.extBut D.i12)).at λo e=>up _ o e) (T.at λo e=>up _ o e) ?_ λc o M N P e=>up c o (I c o M N P e)
 rw[<-R];exact ag _ rfl
theorem Qi{TI TO:Addr}{xs:Array Value}{b:Bool}{Q:Fin->eS->Prop}(hh:A.handled=none)(D:ip z TI TO i1 i2 l1 l2)
 (hz:Az s.heap z a0 TI TO b) (h0:s.heap.get? a0=some o0) (hTI:gX s.heap TI (.ref i1) (.ref i2))
 (h1:s.heap.IsListIter i1 l1 k1) (h2:s.heap.IsListIter i2 l2 k2) (B:s.heap.IsList l1 xs) (O:s.heap.IsList l2 ys) (J:xs[k1]? = none\/ys[k2]? = none)
 (hE:∀h' e,(∀c o,c≠z->c≠i1->c≠i2->s.heap.get? c=some o->h'.get? c=some o)->(∃o,h'.get? e=some o/\o.cls = .type "StopIteration")->E (.ref e) {s with heap:=h'}) :
 wpAny (model prog w) A (hJ.«zip.__next__» ⟨[.ref z],[]⟩) Q E s:=by
 show wpAny _ _ (field (.ref z) 2 >>= _) _ _ _;refine aa (aT hz rfl (x:=.bool false) rfl ?_);refine aa (aT hz rfl (x:=.ref TI) rfl ?_);refine aa (bt hTI rfl ?_);refine aa (zL hz h0 λM U Z=>?_);simp only[f9,if_false];refine aa ?_;simp only[<-ux,rK,List.forIn_nil];refine aa (aa (ap ?_))
 cases T:xs[k1]? with
 |none=>
  refine aa (wpAny_nextOf_list_end hh (h1.extBut Z.extBut D.i1z) (B.extBut Z.extBut D.l1z) T λX e Y S=>?_);exact hE X e (λc o N P _ x=>Y _ _ P (Z.extBut _ _ N x)) S
 |some x=>
  have L:ys[k2]? = none:=by rcases J with h|h;rw[T]at h;cases h;exact h
  refine aa (cn (h1.extBut Z.extBut D.i1z) (B.extBut Z.extBut D.l1z) T λX R Y=>ae (ae ?_));refine aa (aa (ap ?_));refine aa (wpAny_nextOf_list_end hh ((h2.extBut Z.extBut D.i2z).extBut Y.extBut D.i12.symm) ((O.extBut Z.extBut D.l2z).extBut Y.extBut D.l2i1) L λV e W S=>?_);exact hE V e (λc o N P K x=>W _ _ K (Y.extBut _ _ P (Z.extBut _ _ N x))) S
theorem MF{TI TO:Addr}{xs:Array Value}{x y:Value}{b:Bool}{Q:Option Value->eS->Prop}(D:ip z TI TO i1 i2 l1 l2)
 (hz:Az s.heap z a0 TI TO b) (h0:s.heap.get? a0=some o0) (O:gX s.heap TI (.ref i1) (.ref i2))
 (h1:s.heap.IsListIter i1 l1 k1) (h2:s.heap.IsListIter i2 l2 k2) (J:s.heap.IsList l1 xs) (B:s.heap.IsList l2 ys) (Y:xs[k1]? = some x) (W:ys[k2]? = some y)
 (hQ:∀h',Az h' z a0 TI TO true->h'.IsListIter i1 l1 (k1+1)->h'.IsListIter i2 l2 (k2+1)->gX h' s.heap.objs.size x y ->
  (∀c o,c≠z->c≠i1->c≠i2->s.heap.get? c=some o->h'.get? c=some o)->Q (some (.ref s.heap.objs.size)) {s with heap:=h'}) :
 wpAny (model prog w) A (pyNext (.ref z)) Q E s:=by
 have Z:s.TypeIs (.ref z) "zip" := ⟨_,hz,rfl⟩;exact aa (bz (av (name:=f6 "__next__") Z cr
  (ar cr Z F.entry_zip_next (Qh D hz h0 O h1 h2 J B Y W λh' S T U V X=>ae (hQ h' S T U V X)) (F.args_zip_next_1 _))))
theorem MK{TI TO:Addr}{xs:Array Value}{b:Bool}{Q:Option Value->eS->Prop}(hh:A.handled=none)(D:ip z TI TO i1 i2 l1 l2)
 (hz:Az s.heap z a0 TI TO b) (h0:s.heap.get? a0=some o0) (W:gX s.heap TI (.ref i1) (.ref i2))
 (h1:s.heap.IsListIter i1 l1 k1) (h2:s.heap.IsListIter i2 l2 k2) (O:s.heap.IsList l1 xs) (J:s.heap.IsList l2 ys) (B:xs[k1]? = none\/ys[k2]? = none)
 (hQ:∀h',(∀c o,c≠z->c≠i1->c≠i2->s.heap.get? c=some o->h'.get? c=some o)->Q none {s with heap:=h'}):wpAny (model prog w) A (pyNext (.ref z)) Q E s:=by
 have Z:s.TypeIs (.ref z) "zip" := ⟨_,hz,rfl⟩;refine aa (bz (av (name:=f6 "__next__") Z cr
  (ar cr Z F.entry_zip_next (Qi hh D hz h0 W h1 h2 O J B λh' e X V=>?_) (F.args_zip_next_1 _))))
 obtain⟨o,Y,U⟩:=V;refine aa (d4 (T := "StopIteration") (b:=true) ⟨o,Y,U⟩ eK ?_);exact ae (hQ _ X)
end
end XK
namespace XK
structure LZ(h:f8)(base:Nat)(z TI TO i1 i2 l1 l2 S:Addr)(xs ys:Array Value)(i:Nat)(acc:Array Value):Prop where
 ti:gX h TI (.ref i1) (.ref i2)
 j1:h.IsListIter i1 l1 i
 j2:h.IsListIter i2 l2 i
 q1:h.IsList l1 xs
 q2:h.IsList l2 ys
 zz:(i=0/\IsZip h z TI TO .none/\∃a b,gX h TO a b)\/∃a0 b o0,base<=a0/\Az h z a0 TI TO b/\h.get? a0=some o0
 sz:base<=h.objs.size
 al:acc.size=i
 ac:∀j,j<i->∃a x y,acc[j]? = some (.ref a)/\base<=a/\xs[j]? = some x/\ys[j]? = some y/\gX h a x y
 inj:∀(j j':Nat)(a:Addr),acc[j]? = some (.ref a)->acc[j']? = some (.ref a)->j=j'
 ss:∃c,h.get? S=some {cls:=.type "list", dict:=none,data:=.seq acc c,slots:=#[]}
section
variable{prog:e9}{w:fy}{A:fm}{R:Result->eS->Prop}{z TI TO i1 i2 l1 l2 S:Addr}{xs ys:Array Value}{base:Nat}
theorem U5(hh:A.in1.handled=none)(D:ip z TI TO i1 i2 l1 l2)(res:Value)(hb:∀c,c∈[z,TI,TO,i1,i2,l1,l2,S]->c<base)(J:S∉[z,TI,TO,i1,i2,l1,l2])(hn:xs.size<=sizeLine):
 ∀(k i:Nat)(s:eS)(acc:Array Value),min xs.size ys.size-i=k->i<=min xs.size ys.size->LZ s.heap base z TI TO i1 i2 l1 l2 S xs ys i acc ->
 (∀h' B,(∀c o,c∉[z,TO,i1,i2,S]->s.heap.get? c=some o->h'.get? c=some o)->B.size=min xs.size ys.size ->
  (∀j,j<min xs.size ys.size->∃a x y,B[j]? = some (.ref a)/\base<=a/\xs[j]? = some x/\ys[j]? = some y/\gX h' a x y)->(∀(j j':Nat)(a:Addr),B[j]? = some (.ref a)->B[j']? = some (.ref a)->j=j') ->
  (∃c,h'.get? S=some {cls:=.type "list", dict:=none,data:=.seq B c,slots:=#[]})->R (.ok (.ret res)) {s with heap:=h'}) ->
 codeAny (model prog w) A (.builtin "list.extend.loop" ⟨[.ref S,.ref z,res],[]⟩) R s:=by
 have O:S≠z:=λe=>J (by simp[e])
 have g:S≠TI:=λe=>J (by simp[e])
 have G:S≠TO:=λe=>J (by simp[e])
 have M:S≠i1:=λe=>J (by simp[e])
 have N:S≠i2:=λe=>J (by simp[e])
 have h:S≠l1:=λe=>J (by simp[e])
 have l:S≠l2:=λe=>J (by simp[e])
 have ne:∀c,c∈[z,TI,TO,i1,i2,l1,l2,S]->∀a:Addr,base<=a->a≠c:=λc Y a ha q=>mK.mpr ha (by rw[q];exact hb c Y)
 intro k
 induction k with
 |zero=>
  intro i s acc hk hi L d;have hin:i=min xs.size ys.size:=by omega
  have T:xs[i]? = none\/ys[i]? = none:=by
   rcases Nat.le_total xs.size ys.size with z|z
   ·exact .inl (fM (by omega))
   ·exact .inr (fM (by omega))
  refine bq F.entry_extend_loop ?_;rw[a6 c0 _];have fin:∀h',(∀c o,c≠z->c≠TO->c≠i1->c≠i2->s.heap.get? c=some o->h'.get? c=some o)->R (.ok (.ret res)) {s with heap:=h'}:=λh' X=>by
   have up:=λa o ha e=>X a o (ne z (by simp) _ ha) (ne TO (by simp) _ ha) (ne i1 (by simp) _ ha) (ne i2 (by simp) _ ha) e
   obtain⟨c,Y⟩:=L.ss;have V:=X S _ O G M N Y;refine d h' acc (λc o Y e=>X c o (λq=>Y (by simp[q])) (λq=>Y (by simp[q])) (λq=>Y (by simp[q])) (λq=>Y (by simp[q])) e) (by rwa[L.al]) (λj u=>?_) L.inj ⟨c,V⟩
   ·obtain⟨a,x,y,h1,h2,h3,h4,h5⟩:=L.ac j (by omega);exact⟨a,x,y,h1,h2,h3,h4,up a _ h2 h5⟩
  rcases L.zz with⟨I,Q,a,b,P⟩|⟨a0,b,o0,_,Q,I⟩
  ·exact aa (wpAny_pyNext_zip_end hh D Q L.ti P L.j1 L.j2 L.q1 L.q2 T λh' X=>ae (fin h' X))
  ·exact aa (MK hh D Q I L.ti L.j1 L.j2 L.q1 L.q2 T λh' X=>ae (fin h' λc o c1 _ c3 c4 e=>X c o c1 c3 c4 e))
 |succ k ih=>
  intro i s acc hk hi L d;have hlt:i<min xs.size ys.size:=by omega
  obtain⟨x,n⟩:∃x,xs[i]? = some x:=⟨_,jZ (by omega)⟩;obtain⟨y,p⟩:∃y,ys[i]? = some y:=⟨_,jZ (by omega)⟩;refine bq F.entry_extend_loop ?_;rw[a6 c0 _];show wpAny _ A.in1 (pyNext (.ref z) >>= _) _ _ s;have step:∀(h':f8),(∃a0 b o0,base<=a0/\Az h' z a0 TI TO b/\h'.get? a0=some o0)->h'.IsListIter i1 l1 (i+1)->h'.IsListIter i2 l2 (i+1)->gX h' s.heap.objs.size x y ->
   (∀c o,c≠z->c≠TO->c≠i1->c≠i2->s.heap.get? c=some o->h'.get? c=some o) ->
   wpAny (model prog w) A.in1 (updateSeq S (·.push (.ref s.heap.objs.size)) >>= λ_=>again (.builtin "list.extend.loop" ⟨[.ref S,.ref z,res],[]⟩)) (λfin s'=>match fin with | .done f=>R (.ok f) s' | .again c'=>c'.quiet=true/\codeAny (model prog w) A c' R s') (λe s'=>R (.error e) s') {s with heap:=h'}:=λh' g1 g3 E K W=>by
   obtain⟨c,Y⟩:=L.ss;have V:=W S _ O G M N Y;have up:∀a o,base<=a->s.heap.get? a=some o->h'.get? a=some o:=λa o ha e=>W a o (ne z (by simp) _ ha) (ne TO (by simp) _ ha) (ne i1 (by simp) _ ha) (ne i2 (by simp) _ ha) e
   have Z:∀b o,b≠S->h'.get? b=some o->(h'.update S (fI (·.push (.ref s.heap.objs.size)))).get? b=some o:=λb o hb e=>(a4 _ _ (fA hb)).trans e
   refine aa ?_;refine cv V rfl (ae ⟨cf c0 _,ih (i+1) _ (acc.push (.ref s.heap.objs.size)) (by omega) (by omega) ⟨?_,?_,?_,?_,?_,?_,?_,?_,?_,?_,?_⟩ λh'' B H e2 e3 e4 e5=>?_⟩)
    (by rw[L.al];omega) (by show(acc.push _).size<=sizeLine+1;rw[Array.size_push,L.al];omega)
   ·exact Z _ _ (fA g) (W _ _ D.TIz D.TITO D.TIi1 D.TIi2 L.ti)
   ·exact g3.at λo e=>Z _ o (fA M) e
   ·exact E.at λo e=>Z _ o (fA N) e
   ·obtain⟨o,m,r⟩:=L.q1;exact⟨o,Z _ _ (fA h) (W _ _ D.l1z D.l1TO D.l1i1 D.l1i2 m),r⟩
   ·obtain⟨o,m,r⟩:=L.q2;exact⟨o,Z _ _ (fA l) (W _ _ D.l2z D.l2TO D.l2i1 D.l2i2 m),r⟩
   ·obtain⟨a0,b,o0,k1,k2,v⟩:=g1;exact .inr ⟨a0,b,o0,k1,Z _ _ (fA O) k2,Z _ _ (ne S (by simp) _ k1) v⟩
   ·show base<=(h'.update S _).objs.size;rw[aI];exact aW L.sz (cG (af K))
   ·rw[Array.size_push,L.al]
   ·intro j u;by_cases q:j=i
    ·subst q;exact⟨_,x,y,by rw[<-L.al];simp,L.sz,n,p,Z _ _ (ne S (by simp) _ L.sz) K⟩
    ·obtain⟨a,x',y',k1,k2,v,k4,t⟩:=L.ac j (by omega);refine⟨a,x',y',?_,k2,v,k4,Z _ _ (ne S (by simp) _ k2) (up a _ k2 t)⟩;rw[Array.getElem?_push_lt (by rw[L.al];omega)];rw[jZ (by rw[L.al];omega)]at k1;exact k1
   ·have lt:∀(j:Nat)(a:Addr),acc[j]? = some (.ref a)->a<s.heap.objs.size/\j<i:=λj a e=>by
     have u:j<i:=by
      rcases dM j acc.size with q|q
      ·rw[L.al]at q;exact q
      ·rw[fM q]at e;cases e
     obtain⟨a',x',y',k1,k2,v,k4,t⟩:=L.ac j u;rw[e]at k1
     cases k1;exact⟨af t,u⟩
    have cs:∀(j:Nat)(a:Addr),(acc.push (.ref s.heap.objs.size))[j]? = some (.ref a)->(acc[j]? = some (.ref a))\/(j=i/\a=s.heap.objs.size):=λj a e=>by
     rw[Array.getElem?_push]at e;by_cases q:j=acc.size
     ·rw[if_pos q]at e
      cases e;exact .inr ⟨by rw[q,L.al],rfl⟩
     ·rw[if_neg q]at e;exact .inl e
    intro j j' a e e';rcases cs j a e with q|⟨q,r⟩<;>rcases cs j' a e' with C|⟨C,r'⟩
    ·exact L.inj j j' a q C
    ·exact absurd (lt j a q).1 (by rw[r'];exact eF _)
    ·exact absurd (lt j' a C).1 (by rw[r];exact eF _)
    ·rw[q,C]
   ·exact⟨_,az _ V rfl⟩
   ·exact d h'' B (λc o Y e=>H c o Y (Z c o (λq=>Y (by simp[q])) (W c o (λq=>Y (by simp[q])) (λq=>Y (by simp[q])) (λq=>Y (by simp[q])) (λq=>Y (by simp[q])) e))) e2 e3 e4 e5
  rcases L.zz with⟨I,Q,a,b,P⟩|⟨a0,b,o0,U,Q,I⟩
  ·refine aa (wpAny_pyNext_zip_item D Q L.ti P L.j1 L.j2 L.q1 L.q2 n p λh' g1 g2 g3 E K g6 W=>?_);exact step h' ⟨s.heap.objs.size,false,_,L.sz,g1,K⟩ g3 E K W
  ·refine aa (MF D Q I L.ti L.j1 L.j2 L.q1 L.q2 n p λh' g1 g3 E K W=>?_);exact step h' ⟨a0,true,o0,U,g1,W a0 o0 (ne z (by simp) _ U) (ne i1 (by simp) _ U) (ne i2 (by simp) _ U) I⟩ g3 E K λc o c1 _ c3 c4 e=>W c o c1 c3 c4 e
end
end XK
namespace XK
theorem Jg:typeLookup (.type "zip") "__len__"=pure none:=by rw[en,cE];kernel_rfl
theorem Gq:typeLookup (.type "zip") "__length_hint__"=pure none:=by rw[en,cE];kernel_rfl
section
variable{prog:e9}{w:fy}{A:fm}{E:Value->eS->Prop}{s:eS}
theorem Qj{Q:Bool->eS->Prop}(B:s.TypeIs (.ref z) "zip")(h:Q true s):wpAny (model prog w) A (Builtin.List.listLengthHint (.ref z)) Q E s:=by
 refine aa (ef B Jg ?_);exact aa (ef B Gq (ae h))
theorem Qk{TI TO:Addr}{xs:Array Value}{a b:Value}(hh:A.handled=none)(D:ip z TI TO i1 i2 l1 l2)(hz:IsZip s.heap z TI TO .none)(hTI:gX s.heap TI (.ref i1) (.ref i2))(O:gX s.heap TO a b)
 (h1:s.heap.IsListIter i1 l1 0) (h2:s.heap.IsListIter i2 l2 0) (J:s.heap.IsList l1 xs) (B:s.heap.IsList l2 ys) (hn:xs.size<=sizeLine)
 (hQ:∀h' acc c,(∀c o,c∉[z,TO,i1,i2]->s.heap.get? c=some o->h'.get? c=some o)->acc.size=min xs.size ys.size ->
  (∀j,j<min xs.size ys.size->∃a x y,acc[j]? = some (.ref a)/\s.heap.objs.size<a/\xs[j]? = some x/\ys[j]? = some y/\gX h' a x y)->(∀(j j':Nat)(a:Addr),acc[j]? = some (.ref a)->acc[j']? = some (.ref a)->j=j') ->
  h'.get? s.heap.objs.size=some {cls:=.type "list", dict:=none,data:=.seq acc c,slots:=#[]}->Q (.ref s.heap.objs.size) {s with heap:=h'}) :
 wpAny (model prog w) A (call (.type "list") [.ref z]) Q E s:=by
 refine callType_codes (Q₁:=λobj Y=>obj = .ref s.heap.objs.size/\Y={s with heap:=s.heap.push {cls:=.type "list", data:=.seq #[]} }) PySem.F.called_list (PySem.F.typeCall_list_1 _) PySem.F.entry_list_init (code_list_new _ ⟨rfl,rfl⟩) λobj Y g=>?_
 obtain⟨rfl,rfl⟩:=g;have N:(s.heap.push {cls:=.type "list", data:=.seq #[]}).get? s.heap.objs.size=some {cls:=.type "list", data:=.seq #[]}:=ag _ rfl;refine⟨⟨_,N,rfl⟩,PySem.F.args_list_init_2 _ _,?_⟩;refine aa ?_;refine aa (bt N rfl (ae ?_));refine aa (cv N rfl ?_);have U:=az (fI (λ_=>(#[]:Array Value))) N rfl;refine aa (wpAny_letGo ?_);have old:∀c o,s.heap.get? c=some o->c≠s.heap.objs.size:=λc o e=>aP (af e)
 have k2:∀c o,s.heap.get? c=some o->((s.heap.push {cls:=.type "list", data:=.seq #[]}).update s.heap.objs.size (fI (λ_=>(#[]:Array Value)))).get? c=some o:=λc o e=>
  (a4 _ _ (fA (old c o e))).trans (ad _ e)
 have W:((s.heap.push {cls:=.type "list", data:=.seq #[]}).update s.heap.objs.size (fI (λ_=>(#[]:Array Value)))).objs.size=s.heap.objs.size+1:=by rw[aI,cq]
 generalize (s.heap.push {cls:=.type "list", data:=.seq #[]}).update s.heap.objs.size (fI (λ_=>(#[]:Array Value)))=M at U k2 W;refine aa (b6 (T := "zip") ⟨_,k2 _ _ hz,rfl⟩ ?_);have v:io (.ref s.heap.objs.size) (.ref z)=false:=by simp[io,fA (old z _ hz)]
 have e2:(hP "zip"==hP "list")=false:=by decide
 have C:(hP "zip"==hP "tuple")=false:=by decide
 simp only[v,e2,C,Bool.or_false,f9,if_false];refine aa (d0 (k2 _ _ hz) ?_);refine aa (ap (Qj ⟨_,k2 _ _ hz,rfl⟩ ?_));rw[if_pos (Bool.true_or _)];refine aa (a9 ?_);refine aa ?_;refine aa (cv U rfl ?_);have R:=az (fI (·.push fS)) U rfl;refine cv (hz:=by seq_fits) R rfl ?_;have S:=az (fI (·.pop)) R rfl;have Z:∀c o,s.heap.get? c=some o->((M.update s.heap.objs.size (fI (·.push fS))).update s.heap.objs.size (fI (·.pop))).get? c=some o:=λc o e=>
  (a4 _ _ (fA (old c o e))).trans ((a4 _ _ (fA (old c o e))).trans (k2 c o e))
 have X:((M.update s.heap.objs.size (fI (·.push fS))).update s.heap.objs.size (fI (·.pop))).objs.size=s.heap.objs.size+1:=by rw[aI,aI,W]
 generalize (M.update s.heap.objs.size (fI (·.push fS))).update s.heap.objs.size (fI (·.pop))=u at S Z X;have lt:∀c∈[z,TI,TO,i1,i2,l1,l2],c<s.heap.objs.size:=λc V=>by
  simp only[aK,cR,or_false]at V;rcases V with rfl|rfl|rfl|rfl|rfl|rfl|rfl
  ·exact af hz
  ·exact af hTI
  ·exact af O
  ·obtain⟨o,e,_⟩:=h1;exact af e
  ·obtain⟨o,e,_⟩:=h2;exact af e
  ·obtain⟨o,e,_⟩:=J;exact af e
  ·obtain⟨o,e,_⟩:=B;exact af e
 refine ae ⟨cf PySem.F.plain_extend_loop _,U5 (base:=s.heap.objs.size+1) (A:=A.in1) (xs:=xs) (ys:=ys) hh D .none (λc V=>?_) (λV=>eF _ (lt _ V)) hn _ 0 _ #[] rfl (cH _) ⟨Z _ _ hTI,h1.at λo e=>Z _ o e,h2.at λo e=>Z _ o e,?_,?_,.inl ⟨rfl,Z _ _ hz,a,b,Z _ _ O⟩,by rw[X];exact aB _,rfl,λj G=>absurd G (Nat.not_lt_zero _),λj j' c e=>by simp at e,⟨_,S⟩⟩ λh' P H f1 f2 f3 I=>?_⟩
 ·have K:c∈[z,TI,TO,i1,i2,l1,l2]\/c=s.heap.objs.size:=by
   simp only[aK,cR,or_false]at V ⊢;rcases V with h|h|h|h|h|h|h|h<;>simp[h]
  rcases K with h|h
  ·exact gF (lt c h)
  ·rw[h];exact fD _
 ·obtain⟨o,L,r⟩:=J;exact⟨o,Z _ _ L,r⟩
 ·obtain⟨o,L,r⟩:=B;exact⟨o,Z _ _ L,r⟩
 ·obtain⟨c,I⟩:=I;refine⟨rfl,hQ h' P c (λd o hd e=>H d o (λq=>?_) (Z d o e)) f1 f2 f3 I⟩;simp only[aK,cR,or_false]at q hd;rcases q with q|q|q|q|q
  ·exact hd (.inl q)
  ·exact hd (.inr (.inl q))
  ·exact hd (.inr (.inr (.inl q)))
  ·exact hd (.inr (.inr (.inr q)))
  ·exact old d o e q
end
end XK
namespace XK
open L2 My D3
theorem Ql{σ:L2.St}(I:L2.Inv X pins σ H s)(k:∀b u,s.heap.get? b=some u->h'.get? b=some u)(B:∀b,b<s.heap.objs.size->H' b=H b)(hok:HOk X.prog X.w H' h'):
 L2.Inv X pins σ H' {s with heap:=h',toks:=t'}:=I.un {
 keep:=λb u q _ _ _=>k b u q
 slot:=λb u q _ _ _=>⟨u.slots,k b u q⟩
 free:=λb u q n _=>by rwa[B b (af q)]
 there:=λb u q _=>⟨u,k b u q⟩
 tups:=λb xs q=>by rwa[B b (I.hok.lt q)]
 frzs:=λb u xs q=>by rwa[B b (I.hok.lt q)]
 tbls:=λb q p e=>by rw[B b (I.hok.lt e)];exact e} hok
section
variable{X:Cx}{fl:List Fl}{a b:Expr}{f g:FE}{p p2 pos pos2:Pos}
end
end XK
namespace XK
section
variable{prog:e9}{w:fy}{A:fm}{R:Result->eS->Prop}{I:Addr}{fp wr:List Addr}{n:Nat}{P:Nat->Value->Prop}{St:Nat->f8->Prop}{kw:List (Str×Value)}
end
section
variable{prog:e9}{w:fy}{A:fm}{E:Value->eS->Prop}{s:eS}
end
end XK
namespace XK
open L2 My D3
section
variable{X:Cx}{fl:List Fl}{e z:Expr}{fa:FA}{fz:FE}{p pos kpos:Pos}
variable{a:Expr}{f:FE}{ta:TE}
end
end XK
namespace XK
open L2 My D3
section
variable{K:PySem.W.Frag}{H:Hp}
end
section
variable{X:Cx}{fl:List Fl}{e k1 k2:Expr}{f f1 f2:FE}{pos:Pos}
end
end XK
namespace XK
open L2 My D3
section
variable{X:Cx}
end
end XK
namespace XT
open L2 My D3 XK
def dtI(S:List (List Int)):List (List Key×V):=S.map λk=>(k.map .inl,.bl true)
theorem Gs:∀{l:List D}{k:List Int},dF l=some k->tkK l=some (k.map .inl)
 |[],k,h=>by cases h;rfl
 |d::l,k,h=>by
  cases d with
  |int i=>
   unfold dF at h
   cases e:dF l with
   |none=>rw[e]at h;cases h
   |some r=>
    rw[e]at h
    cases h;rw[tkK,Gs e];rfl
  |_=>unfold dF at h;cases h
theorem Qm:∀{kvs:List (D×D)}{S:List (List Int)},tsD kvs=some S->tkD kvs=some (dtI S)
 |[],S,h=>by cases h;rfl
 | (a,b)::r,S,h=>by
  unfold tsD at h;split at h
  ·next e=>cases e
  ·next l r' e=>
   cases e;refine D3.ex1 (bind1 h) λk Y e2=>?_
   cases Z:tsD r with
   |none=>rw[Z]at e2;cases e2
   |some X=>
    rw[Z]at e2
    cases e2;rw[tkD,Gs Y,Qm Z];rfl
  ·cases h
theorem Jh{S:List (List Int)}(h:tsD kvs=some S)(B:S≠[]):kvs≠[]:=λz=>by
 subst z
 cases h;exact B rfl
theorem wN:∀{kvs:List (D×D)}{S:List (List Int)},tsD kvs=some S->Iu kvs=true
 |[],_,_=>rfl
 | (a,b)::r,S,h=>by
  unfold tsD at h;split at h
  ·next e=>cases e
  ·next e=>
   cases e
   cases Z:tsD r with
   |none=>simp[Z]at h
   |some S=>exact(show Iu r=true from wN Z)
  ·cases h
theorem zM{S:List (List Int)}(h:tsD kvs=some S)(B:S≠[]):dh0 kvs = .dT (dtI S):=by
 have:=Jh h B
 cases kvs with
 |nil=>exact absurd rfl this
 |cons q r=>
  unfold dh0;dsimp only;rw[Qm h]
theorem zN{ok:Ok}:∀{xs:List V}{l:List D}{k:List Int},RAs K ok pl H xs l->dF l=some k->xs=(k.map fo).map kV
 |_,_,k,.nil,h=>by cases h;rfl
 |_,_,k,.cons (d:=d) a q,h=>by
  cases d with
  |int i=>
   unfold dF at h
   cases e:dF _ with
   |none=>rw[e]at h;cases h
   |some r=>
    rw[e]at h
    cases h;rw[a.intE,zN q e];rfl
  |_=>unfold dF at h;cases h
theorem tQ{ok:Ok}{k:List Int}(e:zJ y=some k)(r:RA K ok pl H v y):∃b,v = .ref b/\H b=some (.tup ((k.map fo).map kV)):=by
 cases y with
 |tuple l=>
  obtain⟨b,xs,rfl,h1,h2⟩:=r.tupE0;rw[<-zN h2 e];exact⟨b,rfl,h1⟩
 |_=>cases e
theorem U6{ok:Ok}{x:D}{S:List (List Int)}(e:Qe x=some S)(B:S≠[])(r:RA K ok pl H v x):∃a,v = .ref a/\L2.Rd H a (.dT (dtI S)):=by
 cases x with
 |dict kvs=>
  obtain⟨a,rfl,h⟩:=r.dicE (wN e);rw[zM e B]at h;exact⟨a,rfl,h⟩
 |_=>cases e
theorem yu:∀{k B:List Int},k.map (fo:Int->Key)=B.map fo->k=B
 |[],[],_=>rfl
 |[],_::_,h=>by cases h
 |_::_,[],h=>by cases h
 |a::k,b::B,h=>by
  rw[aF,aF]at h;injection h with h1 h2
  injection h1 with h1
  rw[h1,yu h2]
theorem Qn(S:List (List Int))(k:List Int):putK (dtI S) (k.map fo) (.bl true)=dtI (iV S k):=by
 unfold putK iV dtI;have e:((S.map λk=>((k.map fo,V.bl true):List Key×V)).any λq=>decide (q.1=k.map fo))=decide (k∈S):=by
  induction S with
  |nil=>rfl
  |cons q S Z=>
   rw[aF,mX,Z];by_cases h:q=k
   ·subst h;simp
   ·have h2:¬k=q:=λz=>h z.symm
    have Y:¬q.map (fo:Int->Key)=k.map fo:=λz=>h (yu z)
    simp[h2,Y]
 rw[e];by_cases h:k∈S
 ·rw[dTr h,if_pos rfl,if_pos h,cZ];refine eO λq _=>?_
  show(if q.map fo=k.map fo then(q.map fo,V.bl true)else(q.map fo,V.bl true))=_;split<;>rfl
 ·rw[dFa h,if_neg aX,if_neg h,cW];rfl
section
variable{K:PySem.W.Frag}{fl:List Fl}
theorem Qo{σ:L2.St}{x:D}{S:List (List Int)}(R:Rel K fl G ow σ H δ)(O:fl[i]? = some .N)(hx:aj i δ=some x)(B:Qe x=some S)(hS:S≠[]):
 ∃a,σ[i]? = some (some (.ref a))/\H a=some (.dT (dtI S))/\∀H',Same H H'->∀J,J≠[]->∃W,Rel K fl G W σ (upd H' a (.dT (dtI J))) (δ.set i (some (.d (dsT J)))):=by
 have e:=lY hx;have hi:i<δ.length:=by
  rcases dM i δ.length with z|z
  ·exact z
  ·rw[aZ z]at e;cases e
 obtain⟨v,h1,h2,U⟩:=R.nr i x (by rw[O];rfl) e;generalize X:ow.n i=as at h2 U
 cases h2 with
 |dic ha V=>
  rename_i a u kvs;rw[V.old (wN B)]at ha;have Z:=ha;rw[zM B hS]at Z;refine⟨a,h1,Z,λH' s J Y=>?_⟩;refine(R.grow s).mutN (as:=[a]) O hi (by rw[X];exact iZ _) (s _ _ ha) h1 ?_ (λb T=>by rwa[X]) (b_.mpr ⟨cR,.nil⟩);refine .dic bT (.inl ⟨wN (vL J),?_⟩);rw[zM (vL J) Y]
 |non=>cases B
 |bl _=>cases B
 |int _=>cases B
 |str _=>cases B
 |lst _ _=>cases B
 |tup _ _=>cases B
end
def WM:V->V->V->Hp->(Hp->Prop)->Prop:=λo i v H Q=>∃p kvs k b,o = .ref p/\i = .ref b/\H p=some (.dT kvs)/\H b=some (.tup (kE kV k))/\kvs.length<sizeLine/\Q (upd H p (.dT (putK kvs k v)))
section
variable{X:Cx}{fl:List Fl}{e a b c ke:Expr}{f fa fb fc fk:FE}{pos:Pos}
theorem Qq(hu:X.A.units+1<cLine):Tz X WM:=by
 intro pins s σ H o i v R P u Q I Y W Z h;obtain⟨p,kvs,k,b,rfl,rfl,V,T,U,q⟩:=h
 cases Y;exact BK hu I (Jf.t V T U) W Z λs' S=>⟨_,S,q⟩
end
end XT
namespace XT
open L2 My D3 XK
end XT
namespace XV
open L2 My D3
section
variable{K:PySem.W.Frag}{fl:List Fl}
end
end XV
namespace XB
open L2 My D3 XK
section
variable{K:PySem.W.Frag}{fl:List Fl}
end
section
variable{X:Cx}{fl:List Fl}{e a b c ke:Expr}{f fa fb fc fk:FE}{pos:Pos}
end
end XB
namespace XB
open L2 My D3 XK
section
variable{X:Cx}{fl:List Fl}{e:Expr}{pos:Pos}
theorem Dr(B:X.calm=true):lG X (.builtin "sorted") (λxs H Q=>∃(p:Addr)(ks:List (Key×V))(is:List Int),xs=[.ref p]/\L2.Rd H p (.dK ks)/\ks.map (·.1)=is.map fo/\is.length<64/\∀l,H l=none->Q (.ref l) (upd H l (.lst ((Cz is).map V.int)))):=by
 intro pins s σ H xs us Q I r h;obtain⟨p,ks,is,rfl,E,hK,U,q⟩:=h;obtain⟨u,rfl,J⟩:=vals1 r
 cases J;obtain⟨_,hd,vs,rel,n⟩:=vM I.hok E;obtain⟨ep,M⟩:=n.dictAt;have L:vs.map (·.1)=is.map fo:=by rwa[<-rel.keys]
 have hlen:vs.length=is.length:=by
  have:=congrArg m8 L;rwa[aq,aq]at this
 refine bb eA dL dP (args_sorted1 _) ?_;unfold hJ.«sorted»;refine aa (m:=checkCount "sorted" 1 1 _) (ae ?_);refine aa (PySem.W.kdu_collect (A:=X.A.in1) (PySem.W.kdl_dict (knd:=cX X.prog X.w) (kvs:=vs) (ep:=ep) hd) (I.ok.hd B) M (by rw[hlen];exact aW (cG U) (by decide)) λh' tk acc D Z=>?_);have O:acc.toList.length=is.length:=by rw[aY,Z.1,hlen]
 have z:=Ko _ _ O λj v P=>by
  obtain⟨k,x,N,S⟩:=Z.2 j v (by rw[<-bW];exact P);have R:(vs.map (·.1))[j]? = some k:=by rw[aU,N];rfl
  rw[L,aU]at R
  cases e2:is[j]? with
  |none=>rw[e2]at R;cases R
  |some i=>
   rw[e2]at R;have y:k=fo i:=by
    cases R;rfl
   subst y;rw[HX]at S;obtain⟨t,rfl⟩:∃t,v=hX i t:=Value.isInt_shape S;exact⟨i,t,rfl,rfl⟩
 have K:L2.Inv X pins σ H {s with heap:=h',toks:=tk}:=I.kept D;refine aa (bv ?_ (by rw[O];exact aW (cG U) (by decide)));have Y:(h'.push (seqObj "list" acc.toList.toArray 0)).get? h'.objs.size=some (seqObj "list" acc.toList.toArray 0):=ag _ rfl;refine aa (ap (ar c_ ⟨_,Y,rfl⟩ cz (list_sort_tree Y z (by rwa[O]) λout G d f g=>⟨_,rfl,?_⟩) (eL _)));refine ae ⟨_,rfl,?_⟩;obtain rfl:=wI (f.trans (p8 _).symm) g (sG _);obtain⟨e,C⟩:=sortedHeap_at (out:=out) Y;have hn:=K.hok.fresh (aB _);have F:(Cz is).length=is.length:=(p8 _).length_eq;have c:=K.laid (h':=sortedHeap (h'.push (seqObj "list" acc.toList.toArray 0)) h'.objs.size acc.toList out) (t':=tk) (a:=h'.objs.size) (o:=.lst ((Cz is).map V.int)) (λb u e=>by
  have T:=af e;rw[eJ (aP T) (by rw[cK];exact gF T)];exact ad _ e) (aB _)
  ⟨by rw[aq,F];exact aW (cG U) (by decide),out.toList,e,D3.oA d,by simpa[seqObj]using C⟩
 exact⟨.ref _,_,c,rfl,q _ hn⟩
end
end XB
namespace XD
open L2 My D3 XK
section
variable{X:Cx}{fl:List Fl}{e a b c ke ve:Expr}{f fa fb fc fk fv:FE}{pos:Pos}
end
section
variable{K:PySem.W.Frag}{fl:List Fl}
end
section
variable{X:Cx}{pins:List (Addr×Obj)}{σ:L2.St}{H:Hp}{s:eS}{a:Addr}{kvs:List (Key×V)}{k:Key}{z:V}{u r:Value}{A:fm}{E:Value->eS->Prop}
end
section
variable{X:Cx}{o e f:Expr}{apos cpos:Pos}{td ty tx:TE}
end
section
variable{X:Cx}{fl:List Fl}{ke ve:Expr}{fk fv:FE}{pos:Pos}
theorem set_same(h:δ[i]? = some (some (.d y))):δ.set i (some (.d y))=δ:=by
 apply dN;intro j;rw[oZ];split
 ·next z=>
  subst z;split
  ·exact h.symm
  ·next z=>rw[aZ (Nat.le_of_not_lt z)]at h;cases h
 ·rfl
end
end XD
namespace TD
section
variable{prog:e9}{w:fy}{A:fm}{E:Value->eS->Prop}{s:eS}{d it:Addr}{es:Array DictEntry}{i ep:Nat}
def wO(h:f8)(d:Addr)(es:Array DictEntry)(ep:Nat):Prop:=∃o,h.get? d=some o/\o.ExactDict/\o.data = .dict es ep
theorem wO.typ(m:wO s.heap d es ep):s.TypeIs (.ref d) "dict" := let⟨o,h1,h2,_⟩:=m;⟨o,h1,h2.1⟩
theorem wO.kept(m:wO h d es ep)(k:∀o,h.get? d=some o->h'.get? d=some o):wO h' d es ep:=let⟨o,h1,r⟩:=m;⟨o,k o h1,r⟩
theorem Qs(lo:(d==sysModules)=false)(m:wO s.heap d es ep)(q:Q (.ref s.heap.objs.size) {s with heap:=s.heap.push {cls:=.type "dict_keyiterator", data:=.fields #[.ref d,.int 0 0,.int es.size 0,.int ep 0]} }):
 wpAny (model prog w) A (pyIter (.ref d)) Q E s:=by
 obtain⟨o,h1,h2,Z⟩:=id m;refine wpAny_pyIter_slot m.typ F.slot_dict_iter (ar F.slot_dict_iter m.typ F.entry_dict_iter ?_ (F.args_dict_iter_1 _));unfold hJ.«dict.__iter__» Builtin.Dict.dictSlotNone;refine aa (aa (cw m.typ (ae (a:=eW d) ?_)));show wpAny _ _ (Builtin.Dict.showsAll d >>= _) _ _ s;unfold Builtin.Dict.showsAll;rw[if_neg (by rw[lo];exact aX)];refine aa (ae (aa (br h1 Z (aa (eh h1 Z (aa (ax (ae ⟨_,rfl, "dict_keyiterator", _,⟨_,ag _ rfl,rfl⟩,F.slot_dict_keyiterator_next.lookup,?_⟩))))))));simpa[rawInt]using q
theorem Qt{Q:Option Value->eS->Prop}{e:DictEntry}(g:s.heap.IsKeyIter it d i es.size ep)(m:wO s.heap d es ep)(B:es[i]? = some e)
 (q:∀h',h'.IsKeyIter it d (i+1) es.size ep->gm it s.heap h'->Q (some e.key) {s with heap:=h'}):wpAny (model prog w) A (pyNext (.ref it)) Q E s:=by
 obtain⟨o,Z,X,hd⟩:=id g;obtain⟨od,h1,h2,Y⟩:=id m;have ty:=g.typeIs;refine aa (bz (av (name:=f6 "__next__") ty a_ (ar a_ ty dA ?_ (dk _))));refine aa (ae (aa (aa ?_)))
 first|refine aa (a8 ty (ae (aa (c8 Z hd ?_))))|refine aa (bo ty (ae (aa (c8 Z hd ?_))))
 simp only[show h9 "dict_keyiterator"=false by decide,f9,if_false];show wpAny _ _ (if(eW d==fS)=true then _ else _) _ _ s;rw[if_neg (show ¬((eW d==fS)=true)from aX)];refine aa (ae (aa (br h1 Y ?_)));rw[if_neg (by simp)];refine aa (ae (aa (eh h1 Y ?_)));rw[if_neg (by simp)];refine ae ?_;simp only[show ¬((i:Int)<0)from by omega,if_false,fL,B];refine aa ?_
 first|refine aa (a8 ty (ae (aa (cy ty ?_))))|refine aa (bo ty (ae (aa (cy ty ?_))))
 show wpAny _ _ (setField (.ref it) 1 (rawInt ((i:Int)+1)) >>= _) _ _ s;refine aa (c7 Z hd (by simp) ?_);have g':(s.heap.update it (Obj.mapFields (·.setIfInBounds 1 (rawInt ((i:Int)+1))))).IsKeyIter it d (i+1) es.size ep:=
  ⟨_,az _ Z (eM (bP hd _)),(Obj.cls_mapFields ..).trans X,by rw[bP hd];simp[rawInt]⟩
 refine aa (ap (aa (cy (s:={s with heap:=s.heap.update it (Obj.mapFields (·.setIfInBounds 1 (rawInt ((i:Int)+1))))}) g'.typeIs ?_)));exact ae (ae ⟨_,rfl,ae (q _ g' (gx ..))⟩)
theorem Qu{Q:Option Value->eS->Prop}(D:A.handled=none)(g:s.heap.IsKeyIter it d i es.size ep)(m:wO s.heap d es ep)(B:es[i]? = none)
 (q:∀h',Heap.ExtBut it s.heap h'->Q none {s with heap:=h'}):wpAny (model prog w) A (pyNext (.ref it)) Q E s:=by
 obtain⟨o,Z,X,hd⟩:=id g;obtain⟨od,h1,h2,Y⟩:=id m;have ty:=g.typeIs;refine aa (bz (av (name:=f6 "__next__") ty a_ (ar a_ ty dA ?_ (dk _))));refine aa (ae (aa (aa ?_)))
 first|refine aa (a8 ty (ae (aa (c8 Z hd ?_))))|refine aa (bo ty (ae (aa (c8 Z hd ?_))))
 simp only[show h9 "dict_keyiterator"=false by decide,f9,if_false];show wpAny _ _ (if(eW d==fS)=true then _ else _) _ _ s;rw[if_neg (show ¬((eW d==fS)=true)from aX)];refine aa (ae (aa (br h1 Y ?_)));rw[if_neg (by simp)];refine aa (ae (aa (eh h1 Y ?_)));rw[if_neg (by simp)];refine ae ?_;simp only[show ¬((i:Int)<0)from by omega,if_false,fL,B];refine aa ?_
 first|refine aa (a8 ty (ae ?_))|refine aa (bo ty (ae ?_))
 refine aa (m:=setField (.ref it) 0 .none) (c7 Z hd (by simp) ?_);refine aa (m:=newExc (.type "StopIteration") []) ?_;simp only[newExc,newTuple];refine aa (ax (aa (m:=firstArgMember _ _) (wpAny_of_eq (a:=fS) (by first|rfl|(simp only[firstArgMember];rfl)) (ax ?_ (by size_fits)))) (by size_fits));simp only[raiseNew];refine aa (wpAny_handled ?_);rw[show A.in1.handled=none from D];refine aa (ae (wpAny_throw ?_));refine aa (d4 (b:=true) ⟨_,ag _ rfl,rfl⟩ eK (ae ?_));exact q _ (((gx ..).extBut.push _).push _)
theorem ac5(D:A.handled=none)(I d:Addr)(B:d≠I)(es:Array DictEntry)(ep:Nat):Walks prog w A I [I,d] [I] es.size (λi v=>∃e,es[i]? = some e/\v=e.key) (λi h=>h.IsKeyIter I d i es.size ep/\wO h d es ep) where
 sub:=λb Z=>by simp at Z;simp[Z]
 frame:=λ_ _ _ st X=>⟨st.1.at λo e=>X I (by simp) o e,st.2.kept λo e=>X d (by simp) o e⟩
 item:=λi s Q E hi st Y=>Qt (e:=es[i]) st.1 st.2 (by simp[hi]) λh' g hs=>Y _ h' s.toks ⟨es[i],by simp[hi],rfl⟩ ⟨g,st.2.kept λo e=>hs.extBut d o B e⟩ λb o Z e=>hs.extBut b o (λh=>Z (by simp[h])) e
 done:=λs Q E st Y=>Qu D st.1 st.2 (by simp) λh' W=>Y h' s.toks λb o Z e=>W b o (λh=>Z (by simp[h])) e
 self:=λ_ _ _ _ st Y=>wpAny_pyIter_keyiter st.1 Y
theorem U7(lo:(d==sysModules)=false):W.KdlSrc prog w "dict" d d es.size (λi v=>∃e,es[i]? = some e/\v=e.key) (λh=>wO h d es ep) where
 type:=λ_ m=>m.typ
 there:=λ_ m=>let⟨_,h1,_⟩:=m;⟨af h1,af h1⟩
 keep:=λ_ _ m Y=>m.kept λo e=>Y d (.inl rfl) o e
 notList:=by decide
 notTuple:=by decide
 hint:=λ_ _ _ _ m Z=>W.kdl_hint_dict m.typ Z
 iter:=λA s X m=>⟨_,_,(λ_ _ q=>Qs lo m q),ac5 X _ d (let⟨_,h1,_⟩:=m;aP (af h1)) es ep,⟨⟨_,ag _ rfl,rfl,rfl⟩,m.kept λo e=>ad _ e⟩⟩
theorem U8(lo:(d==sysModules)=false)(m:wO s.heap d es ep)(B:(es.size:Int)<2^63)(q:∀t tk,Q (.int es.size t) {s with toks:=tk}):wpAny (model prog w) A (call (.builtin "len") [.ref d]) Q E s:=by
 obtain⟨o,h1,h2,Z⟩:=id m;refine bb kind_len plain_len entry_len (args_len1 _) ?_;unfold hJ.«len»;refine aa (m:=oneArg "len" _) (ae (aa (m:=callSpecial? (.ref d) (f6 "__len__")) (av (name:=f6 "__len__") m.typ F.slot_dict_len (ar F.slot_dict_len m.typ F.entry_dict_len ?_ (F.args_dict_len_1 _)))));refine aa (m:=dictSize d) ?_;refine aa (br h1 Z (ae (aa (m:=Builtin.Dict.pendingCount d) (wpAny_pendingCount_other lo ?_))));refine aa (wpAny_mkInt (ae ⟨_,rfl,?_⟩));rw[lO];refine aa (ap (ae (aa (wpAny_letGo ?_))));rw[if_neg (by omega)];rw[if_neg (by omega)];exact aa (wpAny_mkInt (ae ⟨_,rfl,q _ _⟩))
end
section
variable{prog:e9}{w:fy}{K:Type}[DecidableEq K]{knd:HeapKind prog w K}{A:fm}{E:Value->eS->Prop}{s:eS}{d a:Addr}{xs:List (K×Addr×Value)}{k:K}{v:Value}
theorem Qw(hu:knd.room A.in1)(B:knd.is s.heap k a)(lo:(d==sysModules)=false)(m:s.heap.DictOfH knd d xs)(hz:xs.length<=sizeLine)
 (h1:∀p tk,atKey xs k=some p->Q p.2 {s with toks:=tk}) (h2:∀h' tk,atKey xs k=none->h'.DictOfH knd d (xs++[(k,a,v)])->gm d s.heap h'->Q v {s with heap:=h',toks:=tk}) :
 wpAny (model prog w) A (call (.builtin "dict.setdefault") [.ref d,.ref a,v]) Q E s:=by
 have ty:=m.typeIs;obtain⟨o,es,ep,Y,P,hd,U,V,hn⟩:=m;refine ar F.slot_dict_setdefault ty F.entry_dict_setdefault ?_ (F.args_dict_setdefault_3 _ _ _);unfold hJ.«dict.setdefault» Builtin.Dict.keyAndDefault;refine aa (aa (cw ty (ae (a:=(d,eW a,some v)) ?_)));show wpAny _ _ (if(d==sysModules)=true then _ else(dictSetDefault d (.ref a) v >>= _)) _ _ s;rw[if_neg (by rw[lo];exact aX)];refine aa ?_;unfold dictSetDefault
 try with_reducible refine ap ?_
 refine aa (knd.pyHash hu B (aa (wpAny_dictFind_heap (s:={s with toks:=s.toks+knd.draws k}) hu B Y hd U V hn (λW=>?_) λj p T=>?_)))
 ·have S:=atKey_none_of_get W;have X:=not_mem_keys_of_get W;refine aa (a9 (aa (wpAny_updateDictKeys (hz:=by have e:=size_of_entries U;omega) (s:={s with toks:=s.toks+knd.draws k}) Y hd (ae (ae ⟨_,rfl,h2 _ _ S ⟨_,_,ep+1,az _ Y (Obj.isFreed_of_dict (eQ hd _)),P.mapDictKeys _,eQ hd _,?_,?_,?_⟩ (gx ..)⟩)))))
  ·simp[U,entryOfKey]
  ·intro x Z;rcases bZ.mp Z with Z|Z
   ·exact knd.keeps (V x Z) Y hd (.update ..)
   ·rw[aJ.mp Z];exact knd.keeps B Y hd (.update ..)
  ·rw[cW,gG];exact⟨hn,by simp,λx Z y R=>by
    rw[show y=k by simpa using R];exact λe=>X (e▸Z)⟩
 ·refine aa (br (s:={s with toks:=s.toks+knd.draws k}) Y hd ?_);rw[entry_at U j,T];exact aa (a9 (ae (ae ⟨_,rfl,h1 p _ (atKey_of_get hn T)⟩)))
end
end TD
variable{S:List D3.Tte}
namespace XJ
open L2 My D3 XK XT XD
theorem Gu:∀k:List Int,flats (k.map eT)=true
 |[]=>rfl
 |i::k=>by rw[aF,flats,Gu k];rfl
theorem U9(q:List Int×Int):flat (ttV q)=true:=by
 show(flats (q.1.map eT)&&true)=true;rw[Gu];rfl
theorem tw_ra{ok:Ok}{q:List Int×Int}(t:TW H v q.1 q.2):RA K ok pl H v (ttV q):=by
 obtain⟨b,c,rfl,h1,h2⟩:=t;exact .tup h1 (.cons (.tup h2 (pD _)) (.cons (.int _) .nil))
theorem vN(k:List Int):kE kV (k.map fo)=k.map V.int:=by
 rw[cZ];rfl
theorem Kp{ok:Ok}:∀{xs:List V}{k:List Int},RAs K ok pl H xs (k.map eT)->xs=k.map V.int
 |_,[],.nil=>rfl
 |_,i::k,.cons a q=>by rw[a.intE,Kp q];rfl
theorem ac6{ok:Ok}{q:List Int×Int}(r:RA K ok pl H v (ttV q)):TW H v q.1 q.2:=by
 obtain⟨b,xs,rfl,h1,h2⟩:=r.tupE0
 cases h2 with
 |cons W Z=>
 cases Z with
 |cons Z X=>
 cases X;obtain⟨c,ys,rfl,Y,V⟩:=W.tupE0;rw[Kp V]at Y;obtain rfl:=Z.intE;exact⟨b,c,rfl,h1,Y⟩
theorem WQ(g:DH H u (ttP S)):(S=[]/\u = .dK [])\/∃q ks,u = .dT (q::ks)/\TTs H (q::ks) (ttP S):=by
 rcases g with⟨g1,g2⟩|⟨ks,rfl,g⟩|g
 ·cases S with
  |nil=>exact .inl ⟨rfl,g2⟩
  |cons q S=>exact absurd g1 aX
 ·cases S with
  |nil=>cases g;exact .inl ⟨rfl,rfl⟩
  |cons q S=>cases g
 ·exact .inr g
theorem Kq{ok:Ok}{x:D}(e:Mw x=some S)(r:RA K ok pl H v x):∃a,v = .ref a/\((S=[]/\L2.Rd H a (.dK []))\/∃q ks,L2.Rd H a (.dT (q::ks))/\TTs H (q::ks) (ttP S)):=by
 obtain rfl:=Dm e;obtain⟨a,u,rfl,h2,g⟩:=RA.dicU (kvs:=ttP S) r;rcases WQ g with⟨h,rfl⟩|⟨q,ks,rfl,t⟩
 ·exact⟨a,rfl,.inl ⟨h,h2⟩⟩
 ·exact⟨a,rfl,.inr ⟨q,ks,h2,t⟩⟩
theorem Ds:∀{S:List Tte}{ks:List (List Key×V)}(k:List Int),TTs H ks (ttP S)->(pO S k=none/\oU ks (k.map fo)=none)\/∃p v,pO S k=some p/\oU ks (k.map fo)=some v/\TW H v p.1 p.2
 |[],_,k,h=>by cases h;exact .inl ⟨rfl,rfl⟩
 |q::S,ks,k,h=>by
  obtain⟨v,r,rfl,t,Y⟩:∃v r,ks=(q.1.map fo,v)::r/\TW H v q.2.1 q.2.2/\TTs H r (ttP S):=by
   generalize Z:ttP (q::S)=g at h
   cases h with
   |nil=>cases Z
   |cons t r=>
    rename_i W m z v X R;have Z:(rwD q.1,ttV q.2)::ttP S=_:=Z;injection Z with h1 h2
    injection h1 with h1 U
    have T:q.1=W:=by
     have:=congrArg (λd=>zJ d) h1;simpa[rwD,zJ,oh]using this
    have e2:q.2=(m,z):=by
     have:=congrArg (λd=>Mx d) U;have this:q.2.1=m/\q.2.2=z:=by simpa[ttV,rwD,Mx,oh]using this
     exact Prod.ext this.1 this.2
    subst T;rw[e2];exact⟨v,X,rfl,t,h2▸r⟩
  by_cases e:q.1=k
  ·refine .inr ⟨q.2,v,?_,sV (by rw[e]),t⟩;simp[pO,e]
  ·rw[sW (λz=>e (yu z))];have:pO (q::S) k=pO S k:=by simp[pO,e]
   rw[this];exact Ds k Y
theorem Qx{p:List Int×Int}{k:List Int}(t:TW H v p.1 p.2):∀{S:List Tte}{ks:List (List Key×V)},TTs H ks (ttP S)->TTs H (ks++[(k.map fo,v)]) (ttP (S++[(k,p)])):=by
 intro S ks h;rw[show ttP (S++[(k,p)])=ttP S++[(rwD k,ttV p)]by unfold ttP;rw[cW];rfl];generalize ttP S=g at h ⊢
 induction h with
 |nil=>exact .cons t .nil
 |cons t' _ Z=>exact .cons t' Z
theorem U_{ks:List (List Key×V)}(h:TTs H ks (ttP S)):ks.length=S.length:=by
 have:ks.length=(ttP S).length:=by
  generalize ttP S=g at h ⊢
  induction h with
  |nil=>rfl
  |cons _ _ Z=>rw[aR,aR,Z]
 rw[this,ttP,aq]
section
variable{X:Cx}{fl:List Fl}{e a b:Expr}{fa fb fk fv:FE}{pos:Pos}
theorem Gv(hu:X.A.units+1<cLine)(ha:DE X fl .P a fa)(B:DE X fl .P b fb)(hs:Ys b):DE X fl .FC (.Subscript a b pos) (dOp lA fa fb):=PE.imp (U3 hu ha B hs) λσ H Q h=>by
 refine D3.ex4 h λG ow δ d R O q=>?_
 obtain⟨x,y,I,e2,J⟩:=zc O;refine⟨G,ow,δ,x,R,I,λv H1 s1 T=>⟨G,ow,δ,y,R.grow s1,e2,λu H2 s2 U=>?_⟩⟩;refine D3.ex1 (bind1 J) λS K L=>?_
 refine D3.ex1 (bind1 L) λk M Y=>?_
 obtain⟨F,rfl,V⟩:=tQ M U;obtain⟨p,rfl,W⟩:=Kq K T
 cases Z:pO S k with
 |none=>rw[Z]at Y;cases Y
 |some z=>
  rw[Z]at Y
  cases Y;rcases W with⟨rfl,_⟩|⟨q1,ks,W,t⟩
  ·cases Z
  ·have t:=t.imp λ_ _ z=>gQ.same s2 z
   rcases Ds k t with⟨h1,_⟩|⟨E,w,h1,h2,N⟩
   ·rw[h1]at Z;cases Z
   ·rw[h1]at Z
    cases Z;exact⟨p,w,rfl,.inr ⟨_,_,F,U4 s2 W,rfl,V,h2.symm⟩,q _ H2 (s1.trans s2) (.inl ⟨U9 z,tw_ra N⟩)⟩
end
section
variable{K:PySem.W.Frag}{fl:List Fl}
theorem Yv{σ:L2.St}{x:D}(R:Rel K fl G ow σ H δ)(Y:fl[i]? = some .N)(hx:aj i δ=some x)(hq:Mw x=some S):
 ∃a,σ[i]? = some (some (.ref a))/\((S=[]/\H a=some (.dK []))\/∃q ks,H a=some (.dT (q::ks))/\TTs H (q::ks) (ttP S))/\∀H',Same H H'->∀J B W,TTs H' (J::B) (ttP W)->∃O,Rel K fl G O σ (upd H' a (.dT (J::B))) (δ.set i (some (.d (dtt W)))):=by
 have e:=lY hx;have hi:i<δ.length:=by
  rcases dM i δ.length with z|z
  ·exact z
  ·rw[aZ z]at e;cases e
 obtain⟨v,h1,h2,V⟩:=R.nr i x (by rw[Y];rfl) e;generalize X:ow.n i=as at h2 V;obtain rfl:=Dm hq;have h2:=h2
 cases h2 with
 |dic ha Z=>
  rename_i a u;have fin:∀H',Same H H'->∀J B W,TTs H' (J::B) (ttP W)->∃O,Rel K fl G O σ (upd H' a (.dT (J::B))) (δ.set i (some (.d (dtt W)))):=λH' s J B W t'=>by
   have:=Z.chg;refine(R.grow s).mutN (as:=[a]) Y hi (by rw[X];exact iZ _) (s _ _ ha) h1 ?_ (λb U=>by rwa[X]) (b_.mpr ⟨cR,.nil⟩);exact .dic bT (.inr (.inr ⟨J,B,rfl,t'.imp λ_ _ z=>gQ.upd (s _ _ ha) z⟩))
  rcases WQ Z with⟨h,rfl⟩|⟨q,ks,rfl,t⟩
  ·exact⟨a,h1,.inl ⟨h,ha⟩,fin⟩
  ·exact⟨a,h1,.inr ⟨q,ks,ha,t⟩,fin⟩
end
section
variable{X:Cx}{pins:List (Addr×Obj)}{σ:L2.St}{H:Hp}{s:eS}{a b:Addr}{kvs:List (List Key×V)}{k:List Key}{z:V}{u r:Value}{A:fm}{E:Value->eS->Prop}
theorem Qy(I:L2.Inv X pins σ H s)(e:H a=some (.dK [])):L2.Inv X pins σ (upd H a (.dT [])) s:=by
 obtain⟨_,hd,vs,rel,o,es,ep,h1,h2,W,U,Y,V⟩:=WK I.hok e
 cases rel;have Z:es.toList=[]:=by
  have:=Y.length;exact bL.mp this
 exact yt (h':=s.heap) (t':=s.toks) I (by rw[e];exact gd) (.refl a s.heap) ⟨o,h1⟩ ⟨cH _,hd,[],.nil,o,es,ep,h1,h2,W,Z,List.nodup_nil⟩
theorem Qz(hu:A.units+1<cLine)(I:L2.Inv X pins σ H s)(e:H a=some (.dT kvs))(hl:kvs.length<sizeLine)(D:H b=some (.tup (kE kV k)))(J:RelV z r)
 (h1:∀v B s',oU kvs k=some v->L2.Inv X pins σ H s'->RelV v B->Q B s') (h2:∀s',oU kvs k=none->L2.Inv X pins σ (upd H a (.dT (kvs++[(k,z)]))) s'->Q r s') :
 wpAny (model X.prog X.w) A (call (.builtin "dict.setdefault") [.ref a,.ref b,r]) Q E s:=by
 obtain⟨O,hd,xs,rel,P⟩:=WL I.hok e;have U:=(Paired.length rel).symm;refine TD.Qw (ba hu) (uR I.hok D) hd P (by rwa[U]) (λp tk Y=>?_) λh' tk Y W hs=>?_
 ·have q:=rel.val k;rw[Y]at q
  cases Z:oU kvs k with
  |none=>rw[Z]at q;cases q
  |some v=>
   rw[Z]at q;exact h1 v _ _ Z (I.tok _) q
 ·have q:=rel.val k;rw[Y]at q;have Z:oU kvs k=none:=by
   cases Z:oU kvs k with
   |none=>rfl
   |some v=>rw[Z]at q;cases q
  obtain⟨o,es,ep,V,g2,g3,S,_,T⟩:=W;refine h2 _ Z (yt I (by rw[e];exact gd) hs ⟨o,V⟩ ⟨by rwa[bB],hd,_,KT.keeps (Paired.snoc rel ⟨rfl,D,J⟩) λc ys R=>?_,o,es,ep,V,g2,g3,S,T⟩);rwa[bF (iR R e (λz=>nomatch z))]
end
def ac7(td ty tx:TE):TE:=λσ H Q=>td σ H λx H1=>∃a,x = .ref a/\IsD H1 a/\ty σ H1 λy H2=>tx σ H2 λz Z=>∃k b,y = .ref b/\Z b=some (.tup (kE kV k)) /\
 ((Z a=some (.dK [])/\Q z (upd Z a (.dT [(k,z)])))\/∃kvs,Z a=some (.dT kvs)/\kvs.length<sizeLine/\(∀v,oU kvs k=some v->Q v Z)/\(oU kvs k=none->Q z (upd Z a (.dT (kvs++[(k,z)])))))
section
variable{X:Cx}{o e f:Expr}{apos cpos:Pos}{td ty tx:TE}
theorem Va(hu:X.A.units+1<cLine)(B:PE X o td)(he:PE X e ty)(hf:PE X f tx)(m:M2 X o "setdefault" apos e f cpos):PE X (.Call (.Attribute o "setdefault" apos) [e,f] [] cpos) (ac7 td ty tx):=by
 intro pins s σ H Q I h;refine wpAny_Call_method m.base m.few m.line PySem.F.plainAttrs_dict PySem.F.slot_dict_setdefault PySem.F.type_dict_setdefault (thn (B pins s σ H _ I h) λu s1 ⟨x,H1,O,G,a,ex,d,q1⟩=>?_);subst ex;obtain rfl:u=eW a:=G;obtain⟨K,L,_⟩:=Yt O d;refine⟨K,L,?_⟩;rw[m.trees];refine b8 rfl (eH (bi (thn (he pins s1 σ H1 _ O q1) λD s2 ⟨y,H2,r,J,q2⟩=>
  bi (thn (hf pins s2 σ H2 _ r q2) λfv s3 ⟨z,N,P,Y,k,b,t,S,T⟩=>bX ?_))))
 subst t;obtain rfl:D=eW b:=J;rcases T with⟨W,q⟩|⟨kvs,W,C,T,E⟩
 ·have Z:=Qy P W;have w:upd N a (.dT []) b=some (.tup (kE kV k)):=by
   rwa[bF (iR S W (λz=>nomatch z))]
  exact Qz hu Z bT (show 0<sizeLine by decide) w Y (λv M V l _ _=>by cases l) λV _ R=>by
   rw[JK]at R;exact⟨z,_,R,Y,q⟩
 ·exact Qz hu P W C S Y (λv M V l Z U=>⟨v,N,Z,U,T v l⟩) λV l Z=>⟨z,_,Z,Y,E l⟩
end
section
variable{X:Cx}{fl:List Fl}{ke ve:Expr}{fk fv:FE}{pos:Pos}
theorem QB(hu:X.A.units+1<cLine)(B:fl[i]? = some .N)(hk:DE X fl .P ke fk)(hw:DE X fl .P ve fv)(hN:X.N[i]? = some x)(hm:M2 X (.Name x vpos) "setdefault" apos ke ve cpos)(hv:Vis X.env.scope x:=by first|exact f7 rfl|exact fF (f7 rfl)|exact fF (fF rfl))(hd:(x==("__debug__":Str))=false:=by decide)
 (D:(x==("__classdict__":Str))=false:=by decide) (hs:swapsWith (.Call (.Attribute (.Name x vpos) "setdefault" apos) [ke,ve] [] cpos) none pos.line X.env=pure false:=by rfl) :
 DS1 X fl (.Expr (.Call (.Attribute (.Name x vpos) "setdefault" apos) [ke,ve] [] cpos) pos) (sU i fk fv):=PS.imp (vf (Va hu (oM hN hv hd D) hk hw hm) hs) λDn σ H r=>by
 refine D3.ex4 r λG ow δ o R W q=>?_
 refine D3.ex1 (bind1 W) λy E Q=>?_
 refine D3.ex1 (bind1 Q) λg e2 W=>?_
 refine D3.ex1 (bind1 W) λzz j Q=>?_
 refine D3.ex1 (bind1 Q) λS F W=>?_
 refine D3.ex1 (bind1 W) λk l Q=>?_
 refine D3.ex1 (bind1 Q) λT m W=>?_
 by_cases L:S.length<1000000
 case neg=>rw[if_neg L]at W;cases W
 rw[if_pos L]at W
 cases W;obtain⟨p,h1,h2,I⟩:=Yv R B E F;have O:IsD H p:=by
  rcases h2 with⟨_,h⟩|⟨_,_,h,_⟩
  ·exact .inl ⟨_,.inl h⟩
  ·exact .inr ⟨_,.inl h⟩
 refine⟨_,h1,p,rfl,O,G,ow,δ,_,R,e2,λu H1 s1 s=>⟨G,ow,δ,_,R.grow s1,j,λw H2 s2 J=>?_⟩⟩;obtain⟨b,rfl,n⟩:=tQ l s;rw[UW m]at J;have K:=ac6 J;have Z:=s1.trans s2;refine⟨k.map fo,b,rfl,s2 _ _ n,?_⟩;rcases h2 with⟨rfl,h⟩|⟨q1,ks,h,t⟩
 ·refine .inl ⟨Z _ _ h,?_⟩;obtain⟨V,R'⟩:=I H2 Z (k.map fo,w) [] [(k,T)] (.cons K .nil);exact q V σ _ R'
 ·have U:TTs H2 (q1::ks) (ttP S):=t.imp λ_ _ z=>gQ.same Z z
  refine .inr ⟨q1::ks,Z _ _ h,by rw[U_ t];exact lN L (by decide),λv Y=>?_,λY=>?_⟩
  ·have M:rW S k T=S:=by
    unfold rW;rcases Ds k U with⟨_,b⟩|⟨d,C,a,b,_⟩
    ·rw[b]at Y;cases Y
    ·rw[if_pos (by rw[a];rfl)]
   rw[M]at q;rw[<-Dm F,set_same (lY E)]at q;exact q ow σ _ (R.grow Z)
  ·have M:rW S k T=S++[(k,T)]:=by
    unfold rW;rcases Ds k U with⟨a,_⟩|⟨d,C,a,b,_⟩
    ·rw[if_neg (by rw[a];simp)]
    ·rw[b]at Y;cases Y
   rw[M]at q;obtain⟨V,R'⟩:=I H2 Z q1 (ks++[(k.map fo,w)]) (S++[(k,T)]) (by
    have:=Qx (k:=k) K U;rw[List.cons_append]at this;exact this)
   exact q V σ _ R'
end
end XJ
variable{xs:Array Keyed}
namespace Sq
structure Cq where
 nu:Keyed->Int
 ok:Keyed->Prop
 κ:SortKind
class LtOk (prog:e9) (w:fy) (A:fm) (s:eS) (C:Cq):Prop where
 lt:∀{x y:Keyed}{Q:Bool->eS->Prop}{E:Value->eS->Prop},C.ok x->C.ok y->Q (decide (C.nu x<C.nu y)) s->wpAny (model prog w) A (keyLt' C.κ x.1 y.1) Q E s
noncomputable def KC(C:Cq)(xs:Array Keyed)(i:Nat):Int:=match xs[i]? with
 |some p=>C.nu p
 |none=>0
def STo(C:Cq)(xs:Array Keyed)(k:Nat):Prop:=∀i j,i<=j->j<k->KC C xs i<=KC C xs j
def Oks(C:Cq)(xs:Array Keyed):Prop:=∀p,p∈xs.toList->C.ok p
section
variable{C:Cq}
theorem K_congr{ys:Array Keyed}(h:xs[i]? = ys[j]?):KC C xs i=KC C ys j:=by unfold KC;rw[h]
theorem K_bubble{B d:Nat}(hs:B<xs.size)(hd:d<=B)(k:Nat):
 KC C (bubble xs B d) k=if k=B-d then KC C xs B else if B-d<k/\k<=B then KC C xs (k-1)else KC C xs k:=by
 have e:=eB hs d hd k;split at e
 ·next z=>rw[if_pos z];exact K_congr e
 ·next z=>
  rw[if_neg z];split at e
  ·next y=>rw[if_pos y];exact K_congr e
  ·next y=>rw[if_neg y];exact K_congr e
theorem K_mirror(B:j<=xs.size)(k:Nat):
 KC C (mirror xs i j ((j-i)/2)) k=if i<=k/\k<j then KC C xs (i+j-1-k)else KC C xs k:=by
 have e:=db (i:=i) B k;split at e
 ·next z=>rw[if_pos z];exact K_congr e
 ·next z=>rw[if_neg z];exact K_congr e
theorem K_mirror_equal(D:j<=xs.size)(B:∀k,i<=k->k<j->KC C xs k=KC C xs (j-1))(k:Nat):KC C (mirror xs i j ((j-i)/2)) k=KC C xs k:=by
 rw[K_mirror D];split
 ·rw[B _ (by omega) (by omega),B k (by omega) (by omega)]
 ·rfl
variable{M:Model}{A:fm}{E:Value->eS->Prop}{s:eS}{α:Type}{Q:α->fE->Prop}{st:fE}{x y:StateT fE Sem α}{c:Prop}[Decidable c]
theorem jL(h:c)(k:wpS M A E s x Q st):wpS M A E s (if c then x else y) Q st:=by rwa[if_pos h]
theorem jH(h:¬c)(k:wpS M A E s y Q st):wpS M A E s (if c then x else y) Q st:=by rwa[if_neg h]
theorem Kr(h:wpS M A E s x Q st/\wpS M A E s y Q st):wpS M A E s (if c then x else y) Q st:=by
 split
 ·exact h.1
 ·exact h.2
theorem both{P:Nat->Prop}(h:∀g,P g)(u v:Nat):P u/\P v:=⟨h u,h v⟩
end
end Sq
variable{st:fE}{arr:Array Keyed}
namespace Sq
section
variable{C:Cq}
def vO:Bool->Keyed->Array Keyed->Nat->Nat->Nat->StateT fE Sem (Option Nat):=sortPriv% PySem.Builtin.gallop
noncomputable def bey(left:Bool)(B:Keyed)(arr:Array Keyed)(base i:Nat):StateT fE Sem (Option Bool):=do
 let x <-elem' arr (base+i)
 if left then lt' x B else return(<-lt' B x).map (!·)
section
variable{prog:e9}{w:fy}{A:fm}{E:Value->eS->Prop}{s:eS}{C:Cq}[LtOk prog w A s C]
theorem zO{x y:Keyed}{Q:Option Bool->fE->Prop}(J:kindOf st=C.κ)(D:C.ok x)(B:C.ok y)(h:Q (some (decide (C.nu x<C.nu y))) st):wpS (model prog w) A E s (lt' x y) Q st:=by
 rw[lt'_eq];refine ai (ce ?_);rw[J];exact ai (de (bz (LtOk.lt D B ⟨rfl,am h⟩)))
theorem d_{x:Keyed}{Q:Keyed->fE->Prop}(B:arr[i]? = some x)(h:Q x st):wpS (model prog w) A E s (elem' arr i) Q st:=by
 rw[elem'_eq,B];exact am h
def Pb(C:Cq)(left:Bool)(B:Keyed)(arr:Array Keyed)(base i:Nat):Bool:=if left then decide ((KC C) arr (base+i)<C.nu B)else !decide (C.nu B<(KC C) arr (base+i))
theorem vQ{left:Bool}{B:Keyed}{base:Nat}{Q:Option Bool->fE->Prop}(J:kindOf st=C.κ)(D:C.ok B)(ha:∀p∈arr.toList,C.ok p)(hi:base+i<arr.size)(h:Q (some ((Pb C) left B arr base i)) st):wpS (model prog w) A E s (bey left B arr base i) Q st:=by
 have e:=getElem?_pos arr (base+i) hi;have Z:C.ok arr[base+i]:=ha _ (by simp);have Y:(KC C) arr (base+i)=C.nu arr[base+i]:=by unfold KC;rw[e]
 refine ai (d_ e ?_);unfold Pb at h;rw[Y]at h
 cases left with
 |true=>exact zO J Z D h
 |false=>exact ai (zO J D Z (am h))
theorem mU{left:Bool}{B:Keyed}{base hint:Nat}{Q:Option Nat->fE->Prop}(J:kindOf st=C.κ)(D:C.ok B)(ha:∀p∈arr.toList,C.ok p)(hb:base+n<=arr.size)(hh:hint<n)
 (mono:∀i j,i<=j->j<n->(Pb C) left B arr base j=true->(Pb C) left B arr base i=true)
 (h:∀k,k<=n->(∀i,i<k->(Pb C) left B arr base i=true)->(∀i,k<=i->i<n->(Pb C) left B arr base i=false)->Q (some k) st) :
 wpS (model prog w) A E s (vO left B arr base n hint) Q st:=by
 have V:∀i j,i<=j->j<n->(Pb C) left B arr base i=false->(Pb C) left B arr base j=false:=λi j h1 h2 T=>by
  cases e:(Pb C) left B arr base j with
  |false=>rfl
  |true=>rw[mono i j h1 h2 e]at T;cases T
 refine ai (m:=bey left B arr base hint) (vQ J D ha (by omega) ?_);dsimp only
 cases e:(Pb C) left B arr base hint with
 |true=>
  refine jL rfl ?_;refine ai (bj (aS (I:=λx c st'=>st'=st/\∃Y o,c=(none,Y,o)/\Y<o/\x+1<=o/\hint+Y<n/\(Pb C) left B arr base (hint+Y)=true)
   (Q:=λc st'=>st'=st/\∃Y o,c=(none,Y,o)/\Y<o/\hint+Y<n/\(Pb C) left B arr base (hint+Y)=true/\(o≥n-hint\/(hint+o<n/\(Pb C) left B arr base (hint+o)=false))) ?step ?fin ⟨rfl,0,1,rfl,by omega,by omega,by omega,e⟩) ?post)
  case fin=>
   rintro c st' ⟨rfl,Y,o,rfl,g1,g2,g3,W⟩;exact⟨rfl,Y,o,rfl,g1,g3,W,.inl (by omega)⟩
  case step=>
   rintro x c st' _ O ⟨rfl,Y,o,rfl,g1,g2,g3,W⟩;dsimp only;by_cases X:o≥n-hint
   ·refine jL X ?_;exact am ⟨rfl,Y,o,rfl,g1,g3,W,.inl X⟩
   ·refine jH X ?_;refine ai (vQ J D ha (by omega) ?_)
    cases e2:(Pb C) left B arr base (hint+o)with
    |true=>
     refine jH (by decide) ?_;exact am ⟨rfl,o,2*o+1,rfl,by omega,by omega,by omega,e2⟩
    |false=>
     refine jL (by decide) ?_;exact am ⟨rfl,Y,o,rfl,g1,g3,W,.inr ⟨by omega,e2⟩⟩
  case post=>
   rintro c st' ⟨rfl,Y,o,rfl,g1,g3,W,U⟩;have h1:hint+Y+1<=hint+min o (n-hint):=by omega
   have h2:hint+min o (n-hint)<=n:=by omega
   have T:∀i,i<hint+Y+1->(Pb C) left B arr base i=true:=λi hi=>mono i _ (by omega) g3 W
   have P:∀i,hint+min o (n-hint)<=i->i<n->(Pb C) left B arr base i=false:=λi i1 i2=>by
    rcases U with U|⟨U,M⟩
    ·omega
    ·exact V _ i (by omega) i2 M
   generalize hint+Y+1=S at h1 T ⊢;generalize hint+min o (n-hint)=R at h1 h2 P ⊢;refine ai (bj (aS (I:=λx c Z=>Z=st'/\∃hi lo,c=(none,lo,hi)/\lo<=hi/\hi<=n/\hi-lo<=n-x/\(∀i,i<lo->(Pb C) left B arr base i=true)/\(∀i,hi<=i->i<n->(Pb C) left B arr base i=false))
    (Q:=λc Z=>Z=st'/\∃hi lo,c=(none,lo,hi)/\hi<=n/\(∀i,i<hi->(Pb C) left B arr base i=true)/\(∀i,hi<=i->i<n->(Pb C) left B arr base i=false)) ?sT ?fT ⟨rfl,R,S,rfl,h1,h2,by omega,T,P⟩) ?pT)
   case fT=>
    rintro c Z ⟨rfl,hi,lo,rfl,g1,g2,g3,W,U⟩;have:lo=hi:=by omega
    subst this;exact⟨rfl,lo,lo,rfl,g2,W,U⟩
   case sT=>
    rintro x c Z _ O ⟨rfl,hi,lo,rfl,g1,g2,g3,W,U⟩;dsimp only;by_cases X:lo≥hi
    ·refine jL X ?_;have:lo=hi:=by omega
     subst this;exact am ⟨rfl,lo,lo,rfl,g2,W,U⟩
    ·refine jH X ?_;have hm:lo+(hi-lo)/2<hi:=by omega
     refine ai (vQ J D ha (by omega) ?_)
     cases e:(Pb C) left B arr base (lo+(hi-lo)/2)with
     |true=>
      refine jL rfl ?_;exact am ⟨rfl,hi,lo+(hi-lo)/2+1,rfl,by omega,g2,by omega,λi N=>mono i _ (by omega) (by omega) e,U⟩
     |false=>
      refine jH aX ?_;exact am ⟨rfl,lo+(hi-lo)/2,lo,rfl,by omega,by omega,by omega,W,λi i1 i2=>V _ i i1 i2 e⟩
   case pT=>
    rintro c Z ⟨rfl,hi,lo,rfl,g1,g2,g3⟩;exact am (h hi g1 g2 g3)
 |false=>
  refine jH aX ?_;refine ai (bj (aS (I:=λx c st'=>st'=st/\∃Y o,c=(none,Y,o)/\Y<o/\x+1<=o/\Y<=hint/\(Pb C) left B arr base (hint-Y)=false)
   (Q:=λc st'=>st'=st/\∃Y o,c=(none,Y,o)/\Y<o/\Y<=hint/\(Pb C) left B arr base (hint-Y)=false/\(o≥hint+1\/(o<=hint/\(Pb C) left B arr base (hint-o)=true))) ?step2 ?fin2 ⟨rfl,0,1,rfl,by omega,by omega,by omega,e⟩) ?post2)
  case fin2=>
   rintro c st' ⟨rfl,Y,o,rfl,g1,g2,g3,W⟩;exact⟨rfl,Y,o,rfl,g1,g3,W,.inl (by omega)⟩
  case step2=>
   rintro x c st' _ O ⟨rfl,Y,o,rfl,g1,g2,g3,W⟩;by_cases X:o≥hint+1
   ·refine jL X ?_;exact am ⟨rfl,Y,o,rfl,g1,g3,W,.inl X⟩
   ·refine jH X ?_;refine ai (vQ J D ha (by omega) ?_)
    cases e2:(Pb C) left B arr base (hint-o)with
    |true=>
     refine jL rfl ?_;exact am ⟨rfl,Y,o,rfl,g1,g3,W,.inr ⟨by omega,e2⟩⟩
    |false=>
     refine jH aX ?_;exact am ⟨rfl,o,2*o+1,rfl,by omega,by omega,by omega,e2⟩
  case post2=>
   rintro c st' ⟨rfl,Y,o,rfl,g1,g3,W,U⟩;have h1:hint+1-min o (hint+1)<=hint-Y:=by omega
   have h2:hint-Y<=n:=by omega
   have T:∀i,i<hint+1-min o (hint+1)->(Pb C) left B arr base i=true:=λi hi=>by
    rcases U with U|⟨U,M⟩
    ·omega
    ·exact mono i _ (by omega) (by omega) M
   have P:=λi i1 i2=>V _ i i1 i2 W
   generalize hint+1-min o (hint+1)=S at h1 T ⊢;generalize hint-Y=R at h1 h2 P ⊢;refine ai (bj (aS (I:=λx c Z=>Z=st'/\∃hi lo,c=(none,lo,hi)/\lo<=hi/\hi<=n/\hi-lo<=n-x/\(∀i,i<lo->(Pb C) left B arr base i=true)/\(∀i,hi<=i->i<n->(Pb C) left B arr base i=false))
    (Q:=λc Z=>Z=st'/\∃hi lo,c=(none,lo,hi)/\hi<=n/\(∀i,i<hi->(Pb C) left B arr base i=true)/\(∀i,hi<=i->i<n->(Pb C) left B arr base i=false)) ?sT ?fT ⟨rfl,R,S,rfl,h1,h2,by omega,T,P⟩) ?pT)
   case fT=>
    rintro c Z ⟨rfl,hi,lo,rfl,g1,g2,g3,W,U⟩;have:lo=hi:=by omega
    subst this;exact⟨rfl,lo,lo,rfl,g2,W,U⟩
   case sT=>
    rintro x c Z _ O ⟨rfl,hi,lo,rfl,g1,g2,g3,W,U⟩;dsimp only;by_cases X:lo≥hi
    ·refine jL X ?_;have:lo=hi:=by omega
     subst this;exact am ⟨rfl,lo,lo,rfl,g2,W,U⟩
    ·refine jH X ?_;refine ai (vQ J D ha (by omega) ?_)
     cases e:(Pb C) left B arr base (lo+(hi-lo)/2)with
     |true=>
      refine jL rfl ?_;exact am ⟨rfl,hi,lo+(hi-lo)/2+1,rfl,by omega,g2,by omega,λi N=>mono i _ (by omega) (by omega) e,U⟩
     |false=>
      refine jH aX ?_;exact am ⟨rfl,lo+(hi-lo)/2,lo,rfl,by omega,by omega,by omega,W,λi i1 i2=>V _ i i1 i2 e⟩
   case pT=>
    rintro c Z ⟨rfl,hi,lo,rfl,g1,g2,g3⟩;exact am (h hi g1 g2 g3)
end
end
end Sq
namespace Sq
section
variable{C:Cq}
def A_:Nat->StateT fE Sem Unit:=sortPriv% PySem.Builtin.setMinGallop
abbrev setG(st:fE)(g:Nat):fE:=SortSt.mk' (kindOf st) (arrOf st) (pendingOf st) g (failedOf st)
def QC:Array Keyed->Array Keyed->StateT fE Sem (Array Keyed):=sortPriv% PySem.Builtin.mergeLo
def BL(a b out:Array Keyed)(ia ib:Nat):Array Keyed:=out++a.extract ia a.size++b.extract ib b.size
def Ks(a b out:Array Keyed)(ia ib:Nat):Array Keyed:=out++b.extract ib b.size++a.extract ia a.size
def R(C:Cq)(x y:Keyed):Prop:=C.nu x<=C.nu y
structure MI(C:Cq)(a b out:Array Keyed)(ia ib:Nat):Prop where
 A:(out.toList++a.toList.drop ia).Pairwise (R C)
 B:(out.toList++b.toList.drop ib).Pairwise (R C)
 P:(out.toList++a.toList.drop ia++b.toList.drop ib).Perm (a.toList++b.toList)
section
variable{C:Cq}{a b out:Array Keyed}{ia ib:Nat}
theorem vR{l:List Keyed}(h:i<l.length):l.drop i=l[i]::l.drop (i+1):=iu h
theorem jB(h:ia<a.size):(KC C) a ia=C.nu (a[ia]):=by unfold KC;rw[getElem?_pos a ia h]
theorem MI.pushA(h:(MI C) a b out ia ib)(hi:ia<a.size)(B:∀y∈b.toList.drop ib,(R C) a[ia] y):(MI C) a b (out.push a[ia]) (ia+1) ib:=by
 have hd:a.toList.drop ia=a[ia]::a.toList.drop (ia+1):=vR (by simpa using hi);obtain⟨h1,h2,Y⟩:=h;rw[hd]at h1 Y;have e:(out.push a[ia]).toList=out.toList++[a[ia]]:=o7;refine⟨by rwa[e,aL],?_,by rw[e];simpa using Y⟩;rw[e,aL];obtain⟨p1,p2,p3⟩:=aH.mp h2;obtain⟨q1,q2,X⟩:=aH.mp h1;refine aH.mpr ⟨p1,bJ.mpr ⟨B,p2⟩,λx Z y W=>?_⟩;rcases aK.mp W with rfl|z
 ·exact X x Z _ ak
 ·exact p3 x Z y z
theorem MI.pushB(h:(MI C) a b out ia ib)(hi:ib<b.size)(B:∀y∈a.toList.drop ia,(R C) b[ib] y):(MI C) a b (out.push b[ib]) ia (ib+1):=by
 have hd:b.toList.drop ib=b[ib]::b.toList.drop (ib+1):=vR (by simpa using hi);obtain⟨h1,h2,Y⟩:=h;rw[hd]at h2 Y;have e:(out.push b[ib]).toList=out.toList++[b[ib]]:=o7;refine⟨?_,by rwa[e,aL],?_⟩
 ·rw[e,aL];obtain⟨p1,p2,p3⟩:=aH.mp h1;obtain⟨q1,q2,X⟩:=aH.mp h2;refine aH.mpr ⟨p1,bJ.mpr ⟨B,p2⟩,λx Z y W=>?_⟩;rcases aK.mp W with rfl|z
  ·exact X x Z _ ak
  ·exact p3 x Z y z
 ·rw[e];refine gu ?_ Y;rw[aL,aL,aL];exact gc _ (by simpa using(List.perm_middle (a:=b[ib]) (l₁:=a.toList.drop ia) (l₂:=b.toList.drop (ib+1))).symm)
theorem gW{x:Array Keyed}:(x.extract i j).toList=(x.toList.drop i).take (j-i):=by
 rw[Array.toList_extract,List.extract_eq_take_drop]
theorem MI.appA(h:(MI C) a b out ia ib){k:Nat}(B:∀x∈(a.toList.drop ia).take k,∀y∈b.toList.drop ib,(R C) x y):(MI C) a b (out++a.extract ia (ia+k)) (ia+k) ib:=by
 have e:(out++a.extract ia (ia+k)).toList=out.toList++(a.toList.drop ia).take k:=by
  rw[cF,gW,pU]
 have d:a.toList.drop ia=(a.toList.drop ia).take k++a.toList.drop (ia+k):=by rw[<-lQ,fX]
 obtain⟨h1,h2,X⟩:=h;obtain⟨p1,p2,p3⟩:=aH.mp h2;have Z:=h1;rw[d]at Z X;obtain⟨q1,q2,W⟩:=aH.mp Z;refine⟨by rw[e,aL];exact Z,?_,by rw[e];simpa[aL]using X⟩;rw[e,aL];refine aH.mpr ⟨p1,aH.mpr ⟨(aH.mp q2).1,p2,B⟩,λx Y y V=>?_⟩;rcases bZ.mp V with z|z
 ·exact W x Y y (bN _ z)
 ·exact p3 x Y y z
theorem MI.appB(h:(MI C) a b out ia ib){k:Nat}(B:∀x∈(b.toList.drop ib).take k,∀y∈a.toList.drop ia,(R C) x y):(MI C) a b (out++b.extract ib (ib+k)) ia (ib+k):=by
 have e:(out++b.extract ib (ib+k)).toList=out.toList++(b.toList.drop ib).take k:=by
  rw[cF,gW,pU]
 have d:b.toList.drop ib=(b.toList.drop ib).take k++b.toList.drop (ib+k):=by rw[<-lQ,fX]
 obtain⟨h1,h2,X⟩:=h;obtain⟨p1,p2,p3⟩:=aH.mp h1;have Z:=h2;rw[d]at Z X;obtain⟨q1,q2,W⟩:=aH.mp Z;refine⟨?_,by rw[e,aL];exact Z,?_⟩
 ·rw[e,aL];refine aH.mpr ⟨p1,aH.mpr ⟨(aH.mp q2).1,p2,B⟩,λx Y y V=>?_⟩;rcases bZ.mp V with z|z
  ·exact W x Y y (bN _ z)
  ·exact p3 x Y y z
 ·rw[e];refine gu ?_ X;rw[aL,aL,aL];refine gc _ ?_;rw[<-aL,<-aL];exact gr _ fY
structure Res(C:Cq)(a b r:Array Keyed):Prop where
 P:r.toList.Perm (a.toList++b.toList)
 S:r.toList.Pairwise (R C)
theorem MI.endB(h:(MI C) a b out ia ib)(e:b.size<=ib):(Res C) a b (BL a b out ia ib):=by
 have d:b.toList.drop ib=[]:=fK (by simpa using e);have l:(BL a b out ia ib).toList=out.toList++a.toList.drop ia:=by
  unfold BL;rw[cF,cF,gW,gW,d,List.take_nil,cA,eN (by simp)]
 obtain⟨h1,h2,Z⟩:=h;rw[d,cA]at Z;exact⟨by rwa[l],by rwa[l]⟩
theorem MI.endA(h:(MI C) a b out ia ib)(e:a.size<=ia):(Res C) a b (BL a b out ia ib):=by
 have d:a.toList.drop ia=[]:=fK (by simpa using e);have l:(BL a b out ia ib).toList=out.toList++b.toList.drop ib:=by
  unfold BL;rw[cF,cF,gW,gW,d,List.take_nil,cA,eN (by simp)]
 obtain⟨h1,h2,Z⟩:=h;rw[d,cA]at Z;exact⟨by rwa[l],by rwa[l]⟩
theorem MI.last(h:(MI C) a b out ia ib)(hi:ia<a.size)(B:∀y∈b.toList,(R C) y a[ia])(e:ia+1=a.size):(Res C) a b (Ks a b out ia ib):=by
 have hd:a.toList.drop ia=[a[ia]]:=by
  rw[vR (l:=a.toList) (by simpa using hi),fK (by simpa using nW e.symm)];rfl
 have l:(Ks a b out ia ib).toList=out.toList++b.toList.drop ib++[a[ia]]:=by
  unfold Ks;rw[cF,cF,gW,gW,hd,eN (by simp),eN (by simp;omega)]
 obtain⟨h1,h2,Z⟩:=h;rw[hd]at h1 Z;refine⟨by
  rw[l];refine gu ?_ Z;rw[aL,aL];exact gc _ fY,?_⟩
 rw[l];refine aH.mpr ⟨h2,gH _ _,λx X y Y=>?_⟩;rw[aJ.mp Y];rcases bZ.mp X with z|z
 ·exact(aH.mp h1).2.2 x z _ (aJ.mpr rfl)
 ·exact B x (rY z)
theorem Ku{l:List Keyed}(p:(l.drop i).Pairwise (R C))(h:i<l.length):∀y∈l.drop i,(R C) l[i] y:=λy Z=>by
 rw[vR h]at Z p;rcases aK.mp Z with rfl|z
 ·exact fV _
 ·exact(bJ.mp p).1 y z
end
end
end Sq
variable{st':fE}{out:Array Keyed}{lo hi:Nat}
namespace Sq
section
variable{C:Cq}
structure Eqv(st st':fE):Prop where
 k:kindOf st'=kindOf st
 a:arrOf st'=arrOf st
 p:pendingOf st'=pendingOf st
 f:failedOf st'=failedOf st
theorem Eqv.refl(st:fE):Eqv st st:=⟨rfl,rfl,rfl,rfl⟩
theorem Eqv.set(h:Eqv st st')(g:Nat):Eqv st (setG st' g):=⟨h.k,h.a,h.p,h.f⟩
section
variable{prog:e9}{w:fy}{A:fm}{E:Value->eS->Prop}{s:eS}{a b:Array Keyed}{C:Cq}[LtOk prog w A s C]
theorem vU{g:Nat}{Q:Unit->fE->Prop}(h:Q () (setG st g)):wpS (model prog w) A E s (A_ g) Q st:=bE h
theorem K_R{x:Array Keyed}(p:x.toList.Pairwise (R C))(B:i<=j)(D:j<x.size):(KC C) x i<=(KC C) x j:=by
 rw[jB D,jB (kY B D)];rcases Nat.lt_or_eq_of_le B with z|z
 ·have:=dj.mp p i j (by simpa using kY B D) (by simpa using D) z;unfold R at this;simpa using this
 ·subst z;exact fV _
theorem qe{x:Array Keyed}{k:Nat}{p:Keyed}(h:p∈(x.toList.drop i).take k):∃j,j<k/\∃B:i+j<x.size,p=x[i+j]:=by
 obtain⟨j,B,e⟩:=iW h;rw[cP,fZ,aY]at B;refine⟨j,by omega,by omega,?_⟩;rw[<-e,uY,o8];simp
theorem oV{x:Array Keyed}{p:Keyed}(h:p∈x.toList.drop i):∃j,∃B:i+j<x.size,p=x[i+j]:=by
 obtain⟨j,B,e⟩:=iW h;rw[fZ,aY]at B;refine⟨j,by omega,?_⟩;rw[<-e,o8];simp
theorem m7{x:Array Keyed}(h:∀p∈x.toList,C.ok p){i:Nat}(hi:i<x.size):C.ok x[i]:=h _ (by simp)
theorem ac8{Q:Option Nat->fE->Prop}{ia ib:Nat}(D:kindOf st=C.κ)(ha:∀p∈a.toList,C.ok p)(J:∀p∈b.toList,C.ok p)(sa:a.toList.Pairwise (R C))(B:b.toList.Pairwise (R C))
 (M:(MI C) a b out ia ib) (i1:ia<a.size) (i2:ib<b.size) (h:∀k,ia+k<=a.size->(MI C) a b (out++a.extract ia (ia+k)) (ia+k) ib->(ia+k<a.size->∀y∈a.toList.drop (ia+k),(R C) b[ib] y)->Q (some k) st) :
 wpS (model prog w) A E s (vO false b[ib] a ia (a.size-ia) 0) Q st:=by
 refine mU D (m7 J i2) ha (by omega) (by omega) (λi j h1 h2 X=>?_) λk k1 k2 W=>h k (by omega) (M.appA λx V y Z=>?_) λY y Z=>?_
 ·unfold Pb at X ⊢;have:=K_R sa (i:=ia+i) (j:=ia+j) (by omega) (by omega);rw[if_neg aX,gJ,decide_eq_false_iff_not]at X ⊢;omega
 ·obtain⟨j,j1,j2,rfl⟩:=qe V;obtain⟨l,l1,rfl⟩:=oV Z;have:=k2 j j1;unfold Pb at this;rw[if_neg aX,gJ,decide_eq_false_iff_not,jB j2]at this;have q:=K_R B (i:=ib) (j:=ib+l) (by omega) l1;rw[jB i2,jB l1]at q;unfold R;omega
 ·obtain⟨l,l1,rfl⟩:=oV Z;have:=W k (aB _) (by omega);unfold Pb at this;rw[if_neg aX,oH,decide_eq_true_iff,jB Y]at this;have q:=K_R sa (i:=ia+k) (j:=ia+k+l) (by omega) l1;rw[jB Y,jB l1]at q;unfold R;omega
theorem ac9{Q:Option Nat->fE->Prop}{ia ib:Nat}(D:kindOf st=C.κ)(ha:∀p∈a.toList,C.ok p)(J:∀p∈b.toList,C.ok p)(sa:a.toList.Pairwise (R C))(B:b.toList.Pairwise (R C))
 (M:(MI C) a b out ia ib) (i1:ia<a.size) (i2:ib<b.size) (h:∀k,ib+k<=b.size->(MI C) a b (out++b.extract ib (ib+k)) ia (ib+k)->(∀y∈b.toList.drop (ib+k),(R C) a[ia] y)->Q (some k) st) :
 wpS (model prog w) A E s (vO true a[ia] b ib (b.size-ib) 0) Q st:=by
 refine mU D (m7 ha i1) J (by omega) (by omega) (λi j h1 h2 Y=>?_) λk k1 k2 X=>h k (by omega) (M.appB λx W y Z=>?_) λy Z=>?_
 ·unfold Pb at Y ⊢;have:=K_R B (i:=ib+i) (j:=ib+j) (by omega) (by omega);rw[if_pos rfl,decide_eq_true_iff]at Y ⊢;omega
 ·obtain⟨j,j1,j2,rfl⟩:=qe W;obtain⟨l,l1,rfl⟩:=oV Z;have:=k2 j j1;unfold Pb at this;rw[if_pos rfl,decide_eq_true_iff,jB j2]at this;have q:=K_R sa (i:=ia) (j:=ia+l) (by omega) l1;rw[jB i1,jB l1]at q;unfold R;omega
 ·obtain⟨l,l1,rfl⟩:=oV Z;have:=X (k+l) (by omega) (by omega);unfold Pb at this;rw[if_pos rfl,decide_eq_false_iff_not,<-uf,jB l1]at this;unfold R;omega
structure LoI(C:Cq)(st:fE)(a b:Array Keyed)(n:Nat)(o:Array Keyed)(i j:Nat)(t:fE):Prop where
 E:Eqv st t
 M:MI C a b o i j
 x:i+1<a.size
 y:j<b.size
 n:n<=i+j
def LQ{X Y Z B:Type}(P:Nat->X->Y->Z->fE->Prop)(D:Array Keyed->fE->Prop)(n m:Nat):ForInStep (Option (Array Keyed)×X×Y×Z×B)->fE->Prop
 | .done (some r,_),t=>D r t
 | .done (none,o,i,j,_),t=>P m o i j t
 | .yield (none,o,i,j,_),t=>P n o i j t
 | .yield (some _,_),_=>False
theorem qg{β X Y Z B:Type}{f:Nat->Option (Array Keyed)×X×Y×Z×B->StateT fE Sem (ForInStep (Option (Array Keyed)×X×Y×Z×B))}{k:Option (Array Keyed)×X×Y×Z×B->StateT fE Sem β}{Q:β->fE->Prop}
 (P:Nat->X->Y->Z->fE->Prop) (D:Array Keyed->fE->Prop) (φ:Nat->Nat) (m:Nat) {o:X} {i:Y} {j:Z} {g:B} {st:fE} (O:P (φ lo) o i j st)
 (J:∀o i j t,P (φ (max lo hi)) o i j t->P m o i j t) (hd:∀r c t,D r t->wpS M A E s (k (some r,c)) Q t) (hn:∀o i j g t,P m o i j t->wpS M A E s (k (none,o,i,j,g)) Q t)
 (hs:∀n o i j g t,P (φ n) o i j t->wpS M A E s (f n (none,o,i,j,g)) (LQ P D (φ (n+1)) m) t):wpS M A E s (forIn [lo:hi] (none,o,i,j,g) f >>= k) Q st:=by
 refine ai (bj (aS (I:=λn c t=>LQ P D (φ n) m (.yield c) t) (Q:=λc t=>LQ P D m m (.done c) t) ?_ ?_ O) ?_)
 ·rintro n ⟨_|_,o,i,j,g⟩ t _ _ p
  ·refine bj (hs n o i j g t p) ?_;rintro(⟨_|_,_⟩|⟨_|_,_⟩) t q<;>exact q
  ·exact p.elim
 ·rintro⟨_|_,o,i,j,g⟩ t p
  ·exact J o i j t p
  ·exact p.elim
 ·rintro⟨_|r,c⟩ t p
  ·exact hn _ _ _ _ t p
  ·exact hd r c t p
theorem gh{α:Type}{Q:α->fE->Prop}{x y:StateT fE Sem α}{c:Prop}[Decidable c](h:c->wpS M A E s x Q st)(k:¬c->wpS M A E s y Q st):wpS M A E s (if c then x else y) Q st:=by
 split
 ·next z=>exact h z
 ·next z=>exact k z
theorem gZ{α:Type}{Q:α->fE->Prop}{x y:StateT fE Sem α}{m:Nat}(h:m=n->wpS M A E s x Q st)(k:m≠n->wpS M A E s y Q st):wpS M A E s (if(m==n)=true then x else y) Q st:=
 gh (λz=>h (eq_of_beq z)) λz=>k λe=>z (beq_iff_eq.mpr e)
theorem Gw{Q:Array Keyed->fE->Prop}(D:kindOf st=C.κ)(ha:∀p∈a.toList,C.ok p)(hb:∀p∈b.toList,C.ok p)(a0:0<a.size)(b0:0<b.size)(sa:a.toList.Pairwise (R C))(sb:b.toList.Pairwise (R C))
 (hf:(KC C) b 0<(KC C) a 0) (hl:∀y∈b.toList,(R C) y (a[a.size-1]'(by omega))) (h:∀r st',(Res C) a b r->Eqv st st'->Q r st'):wpS (model prog w) A E s (QC a b) Q st:=by
 refine ai (m:=liftM (rule _)) (de (a9 ⟨rfl,?_⟩));refine ai (d_ (getElem?_pos b 0 b0) ?_);have H:(MI C) a b #[b[0]] 0 1:=by
  have hd:b.toList=b[0]::b.toList.drop 1:=by
   have:=vR (l:=b.toList) (i:=0) (by simpa using b0);rw[dY]at this;simpa using this
  refine⟨?_,?_,?_⟩
  ·show([b[0]]++a.toList.drop 0).Pairwise (R C);rw[dY];refine bJ.mpr ⟨λy P=>?_,sa⟩;obtain⟨l,l1,rfl⟩:=oV (x:=a) (i:=0) (by rwa[dY]);have q:=K_R sa (i:=0) (j:=0+l) (by omega) l1;rw[jB a0]at q hf;rw[jB b0]at hf;rw[jB l1]at q;unfold R;omega
  ·show(b[0]::b.toList.drop 1).Pairwise (R C);rwa[<-hd]
  ·rw[dY];have:=(List.perm_middle (a:=b[0]) (l₁:=a.toList) (l₂:=b.toList.drop 1)).symm;rwa[<-hd]at this
 have Z:∀(out:Array Keyed)(ia ib:Nat),(MI C) a b out ia ib->ia+1=a.size->(Res C) a b (Ks a b out ia ib):=λout ia ib M e=>M.last (by omega) (by
  have:a.size-1=ia:=by omega
  subst this;exact hl) e
 refine gZ (λc1=>am (h _ _ (H.endB (by omega)) (Eqv.refl st))) λc1=>?_
 refine gZ (λf=>am (h _ _ (Z _ _ _ H f) (Eqv.refl st))) λf=>?_
 refine ai (ce ?_);refine qg (LoI C st a b) (λr t=>Eqv st t/\Res C a b r) (· + 1) (a.size+b.size) ⟨Eqv.refl st,H,by omega,by omega,by omega⟩ ?oe ?od ?on ?os
 case oe=>exact λo i j t p=>{p with n:=by have:=p.n;omega}
 case od=>exact λr c t p=>am (h r t p.2 p.1)
 case on=>exact λo i j g t p=>absurd p.n (by have:=p.x;have:=p.y;omega)
 case os=>
  intro x o ia ib g t p0;refine qg (LoI C st a b) (λr t=>Eqv st t/\Res C a b r) (λ_=>x+1) (x+1) p0 (λ_ _ _ _ p=>p) (λr c t p=>am p) ?n1 ?s1
  case s1=>
   rintro y o i j ⟨ac,d⟩ t p;refine ai (d_ (getElem?_pos b j p.y) (ai (d_ (getElem?_pos a i (cD p.x)) ?_)));refine ai (zO (p.E.k.trans D) (m7 hb p.y) (m7 ha (cD p.x)) ?_);refine gh (λlt=>ai (d_ (getElem?_pos b j p.y) ?_)) (λlt=>ai (d_ (getElem?_pos a i (cD p.x)) ?_))
   ·have S:=p.M.pushB p.y λy P=>by
     have:=Ku (aH.mp p.M.A).2.1 (by simpa using cD p.x) y P;unfold R at this ⊢;simp at this lt;omega
    refine gZ (λ(z:j+1=b.size)=>am ⟨p.E,S.endB (by omega)⟩) λ(z:j+1≠b.size)=>?_
    have q:LoI C st a b (x+1) _ _ _ t:=⟨p.E,S,p.x,by have:=p.y;omega,uZ p.n⟩;exact gh (λ_=>am q) λ_=>am q
   ·have S:=p.M.pushA (cD p.x) λy P=>by
     have:=Ku (aH.mp p.M.B).2.1 (by simpa using p.y) y P;unfold R at this ⊢;simp at this lt;omega
    refine gZ (λz=>am ⟨p.E,Z _ _ _ S z⟩) λ(z:i+1+1≠a.size)=>?_
    have q:LoI C st a b (x+1) _ _ _ t:=⟨p.E,S,by have:=p.x;omega,p.y,by have:=p.n;omega⟩;exact gh (λ_=>am q) λ_=>am q
  case n1=>
   rintro o i j ⟨ac,d⟩ t p;refine ai (de (a9 ⟨rfl,?_⟩));refine qg (LoI C st a b) (λr t=>Eqv st t/\Res C a b r) (λy=>x+1+min y 1) (x+1+1) p ?e2 (λr c t p=>am p) ?n2 ?s2
   case e2=>exact λo i j t p=>{p with n:=by have:=p.n;omega}
   case n2=>exact λo i j g t p=>ai (vU (am ⟨p.E.set _,p.M,p.x,p.y,p.n⟩))
   case s2=>
    rintro y o V Y ⟨g,ac,d⟩ t p;dsimp only;have i2:=p.y;refine Kr ?_;generalize g-1=I;refine eR ?l ?r
    case' l=>
     revert I;refine id ?_
    case r=>exact(id ?l:_) g
    intro I;refine ai (vU (ai (d_ (getElem?_pos b Y i2) ?_)));refine ai (ac8 ((p.E.set _).k.trans D) ha hb sa sb p.M (cD p.x) i2 λk k1 Mk k2=>?_);dsimp only;refine gh (λkp=>?_) λkp=>?N1
    generalize o++a.extract V (V+k)=o at Mk ⊢;generalize hi:V+k=i at k1 k2 Mk ⊢;refine gZ (λq1=>am ⟨p.E.set _,Z _ _ _ Mk q1⟩) λq1=>gZ (λq2=>am ⟨p.E.set _,Mk.endA (nW q2.symm)⟩) λq2=>?_
    have W:=k2 (by omega);have U:V<=i:=by omega
    have X:i+1<a.size:=by omega
    clear k1 k2 q1 q2 hi kp;revert X U W Mk o i;refine id ?K1
    case N1=>
     have k0:k=0:=by omega
     have W:=k2 (by have:=p.x;omega);rw[k0,lO]at W;exact(id ?K1:_) o V p.M W (aB _) p.x
    intro o i Mk W U X;refine ai (d_ (getElem?_pos b Y i2) ?_);have O:=Mk.pushB i2 W;generalize o.push b[Y]=u at O ⊢;refine gZ (λJ=>am ⟨p.E.set _,O.endB (nW J.symm)⟩) λJ=>?_
    refine ai (d_ (getElem?_pos a _ (cD X)) ?_);refine ai (ac9 ((p.E.set _).k.trans D) ha hb sa sb O (cD X) (uy i2 J) λl l1 T l2=>?_);dsimp only;refine gh (λlp=>?_) λlp=>?N2
    generalize u++b.extract (Y+1) (Y+1+l)=v at T ⊢;generalize hj:Y+1+l=j at l1 T l2 ⊢;refine gZ (λK=>am ⟨p.E.set _,T.endB (nW K.symm)⟩) λK=>?_
    have N:=T.pushA (cD X) l2;have L:j<b.size:=by omega
    have G:Y<j:=by omega
    clear l1 l2 T hj K lp;revert G L N v j;refine id ?K2
    case N2=>
     have l0:l=0:=by omega
     rw[l0,lO]at l2;exact(id ?K2:_) u (Y+1) (O.pushA (cD X) l2) (by omega) (by omega)
    intro v j N L G;refine ai (d_ (getElem?_pos a _ (cD X)) ?_);refine gZ (λF=>am ⟨p.E.set _,Z _ _ _ N F⟩) λF=>?_
    have q:∀n,n<=1->LoI C st a b (x+1+n) _ _ _ (setG t I):=λn hn=>⟨p.E.set _,N,by omega,L,by have:=p.n;omega⟩
    exact gh (λ_=>am (q _ (aB _))) λ_=>am (q _ (pQ _ _))
end
end
end Sq
namespace Sq
section
variable{C:Cq}
def QD:Array Keyed->Array Keyed->StateT fE Sem (Array Keyed):=sortPriv% PySem.Builtin.mergeHi
def BP(a b out:Array Keyed)(na nb:Nat):Array Keyed:=a.extract 0 na++b.extract 0 nb++out.reverse
def Dt(a b out:Array Keyed)(na nb:Nat):Array Keyed:=b.extract 0 nb++a.extract 0 na++out.reverse
structure MJ(C:Cq)(a b out:Array Keyed)(na nb:Nat):Prop where
 A:(a.toList.take na++out.toList.reverse).Pairwise (R C)
 B:(b.toList.take nb++out.toList.reverse).Pairwise (R C)
 P:(a.toList.take na++(b.toList.take nb++out.toList.reverse)).Perm (a.toList++b.toList)
section
variable{C:Cq}{a b out:Array Keyed}{na nb:Nat}
theorem yw{x:Array Keyed}(h:i<x.size):x.toList.take (i+1)=x.toList.take i++[x[i]]:=by
 rw[u9,aA (by simpa using h)];simp
theorem Dv{l o:List Keyed}{m:List Keyed}(h:(l++o).Pairwise (R C))(hm:m.Pairwise (R C))(h1:∀x∈l,∀y∈m,(R C) x y)(h2:∀x∈m,∀y∈o,(R C) x y):(l++(m++o)).Pairwise (R C):=by
 obtain⟨p1,p2,p3⟩:=aH.mp h;refine aH.mpr ⟨p1,aH.mpr ⟨hm,p2,h2⟩,λx Z y Y=>?_⟩;rcases bZ.mp Y with z|z
 ·exact h1 x Z y z
 ·exact p3 x Z y z
theorem MJ.pushA(h:(MJ C) a b out (na+1) nb)(hi:na<a.size)(B:∀x∈b.toList.take nb,(R C) x a[na]):(MJ C) a b (out.push a[na]) na nb:=by
 obtain⟨h1,h2,X⟩:=h;rw[yw hi]at h1 X;have e:(out.push a[na]).toList.reverse=[a[na]]++out.toList.reverse:=by simp
 rw[aL]at h1 X;obtain⟨q1,q2,W⟩:=aH.mp h1;refine⟨by rwa[e],?_,?_⟩
 ·rw[e];exact Dv h2 (gH _ _) (λx Y y Z=>by rw[aJ.mp Z];exact B x Y) (λx Y y Z=>(aH.mp q2).2.2 x Y y Z)
 ·rw[e];refine gu (gc _ ?_) X;rw[<-aL,<-aL];exact gr _ fY
theorem MJ.pushB(h:(MJ C) a b out na (nb+1))(hi:nb<b.size)(B:∀x∈a.toList.take na,(R C) x b[nb]):(MJ C) a b (out.push b[nb]) na nb:=by
 obtain⟨h1,h2,X⟩:=h;rw[yw hi]at h2 X;have e:(out.push b[nb]).toList.reverse=[b[nb]]++out.toList.reverse:=by simp
 rw[aL]at h2 X;obtain⟨q1,q2,W⟩:=aH.mp h2;refine⟨?_,by rwa[e],by rwa[e]⟩;rw[e];exact Dv h1 (gH _ _) (λx Y y Z=>by rw[aJ.mp Z];exact B x Y) (λx Y y Z=>(aH.mp q2).2.2 x Y y Z)
theorem zP{l:List Keyed}(h:i<=n):l.take n=l.take i++(l.drop i).take (n-i):=by
 rw[<-List.take_add,Nat.add_sub_cancel' h]
theorem tR{x:Array Keyed}:(out++(x.extract i n).reverse).toList.reverse=(x.toList.drop i).take (n-i)++out.toList.reverse:=by
 rw[cF,List.reverse_append,m9,List.reverse_reverse,gW]
theorem MJ.appA(h:(MJ C) a b out na nb){i:Nat}(hi:i<=na)(B:∀x∈b.toList.take nb,∀y∈(a.toList.drop i).take (na-i),(R C) x y):(MJ C) a b (out++(a.extract i na).reverse) i nb:=by
 obtain⟨h1,h2,Z⟩:=h;rw[zP hi,aL]at h1 Z;obtain⟨q1,q2,Y⟩:=aH.mp h1;refine⟨by rwa[tR],?_,?_⟩
 ·rw[tR];exact Dv h2 (aH.mp q2).1 B (aH.mp q2).2.2
 ·rw[tR];refine gu (gc _ ?_) Z;rw[<-aL,<-aL];exact gr _ fY
theorem MJ.appB(h:(MJ C) a b out na nb){i:Nat}(hi:i<=nb)(B:∀x∈a.toList.take na,∀y∈(b.toList.drop i).take (nb-i),(R C) x y):(MJ C) a b (out++(b.extract i nb).reverse) na i:=by
 obtain⟨h1,h2,Z⟩:=h;rw[zP hi,aL]at h2 Z;obtain⟨q1,q2,Y⟩:=aH.mp h2;refine⟨?_,by rwa[tR],by rwa[tR]⟩;rw[tR];exact Dv h1 (aH.mp q2).1 B (aH.mp q2).2.2
theorem zQ:(BP a b out na nb).toList=a.toList.take na++(b.toList.take nb++out.toList.reverse):=by
 unfold BP;rw[cF,cF,gW,gW,dY,dY,nY,nY,m9,aL]
theorem MJ.endA(h:(MJ C) a b out 0 nb):(Res C) a b (BP a b out 0 nb):=by
 have e:=zQ (a:=a) (b:=b) (out:=out) (na:=0) (nb:=nb);rw[lR,cT]at e;have p:=h.P;rw[lR,cT]at p;exact⟨by rwa[e],by rw[e];exact h.B⟩
theorem MJ.endB(h:(MJ C) a b out na 0):(Res C) a b (BP a b out na 0):=by
 have e:=zQ (a:=a) (b:=b) (out:=out) (na:=na) (nb:=0);rw[lR,cT]at e;have p:=h.P;rw[lR,cT]at p;exact⟨by rwa[e],by rw[e];exact h.A⟩
theorem MJ.first(h:(MJ C) a b out na 1)(J:0<b.size)(D:∀y∈a.toList,(R C) b[0] y):(Res C) a b (Dt a b out na 1):=by
 have t:b.toList.take 1=[b[0]]:=by rw[yw J,lR];rfl
 have e:(Dt a b out na 1).toList=[b[0]]++(a.toList.take na++out.toList.reverse):=by
  unfold Dt;rw[cF,cF,gW,gW,dY,dY,nY,nY,m9,t,aL]
 have p:=h.P;have B:=h.B;rw[t]at p B;refine⟨?_,?_⟩
 ·rw[e];refine gu ?_ p;rw[<-aL,<-aL];exact gr _ fY
 ·rw[e];show(b[0]::(a.toList.take na++out.toList.reverse)).Pairwise (R C);have B:=B;refine bJ.mpr ⟨λy Z=>?_,h.A⟩;rcases bZ.mp Z with z|z
  ·exact D y (m_ z)
  ·exact(bJ.mp B).1 y z
theorem wQ{x:Array Keyed}{p:Keyed}(h:p∈x.toList.take n):∃j,j<n/\∃B:j<x.size,p=x[j]:=by
 obtain⟨j,j1,j2,e⟩:=qe (i:=0) (by rwa[dY]);exact⟨j,j1,by omega,by rw[e];congr 1;omega⟩
variable{prog:e9}{w:fy}{A:fm}{E:Value->eS->Prop}{s:eS}{C:Cq}[LtOk prog w A s C]
theorem Yw{Q:Option Nat->fE->Prop}(O:kindOf st=C.κ)(ha:∀p∈a.toList,C.ok p)(hb:∀p∈b.toList,C.ok p)(sa:a.toList.Pairwise (R C))(B:b.toList.Pairwise (R C))
 (M:(MJ C) a b out na nb) (i1:0<na) (J:na<=a.size) (i2:0<nb) (D:nb<=b.size) (h:∀k,k<=na->(MJ C) a b (out++(a.extract k na).reverse) k nb->(∀x∈a.toList.take k,(R C) x (b[nb-1]'(by omega)))->Q (some k) st) :
 wpS (model prog w) A E s (vO false (b[nb-1]'(by omega)) a 0 na (na-1)) Q st:=by
 have Z:nb-1<b.size:=by omega
 refine mU O (m7 hb Z) ha (by omega) (by omega) (λi j h1 h2 X=>?_) λk k1 k2 W=>h k k1 (M.appA k1 λx Y y V=>?_) λx Y=>?_
 ·unfold Pb at X ⊢;have:=K_R sa (i:=0+i) (j:=0+j) (by omega) (by omega);rw[if_neg aX,gJ,decide_eq_false_iff_not]at X ⊢;omega
 ·obtain⟨j,j1,j2,rfl⟩:=qe V;obtain⟨l,l1,l2,rfl⟩:=wQ Y;have:=W (k+j) (by omega) (by omega);unfold Pb at this;rw[if_neg aX,oH,decide_eq_true_iff,eX,jB j2]at this;have q:=K_R B (i:=l) (j:=nb-1) (by omega) Z;rw[jB Z,jB l2]at q;unfold R;omega
 ·obtain⟨l,l1,l2,rfl⟩:=wQ Y;have:=k2 l l1;unfold Pb at this;rw[if_neg aX,gJ,decide_eq_false_iff_not,eX,jB l2]at this;unfold R;omega
theorem Yx{Q:Option Nat->fE->Prop}(O:kindOf st=C.κ)(ha:∀p∈a.toList,C.ok p)(hb:∀p∈b.toList,C.ok p)(sa:a.toList.Pairwise (R C))(B:b.toList.Pairwise (R C))
 (M:(MJ C) a b out na nb) (i1:0<na) (J:na<=a.size) (i2:0<nb) (D:nb<=b.size) (h:∀k,k<=nb->(MJ C) a b (out++(b.extract k nb).reverse) na k->(∀x∈b.toList.take k,(R C) x (a[na-1]'(by omega)))->Q (some k) st) :
 wpS (model prog w) A E s (vO true (a[na-1]'(by omega)) b 0 nb (nb-1)) Q st:=by
 have Z:na-1<a.size:=by omega
 refine mU O (m7 ha Z) hb (by omega) (by omega) (λi j h1 h2 X=>?_) λk k1 k2 W=>h k k1 (M.appB k1 λx Y y V=>?_) λx Y=>?_
 ·unfold Pb at X ⊢;have:=K_R B (i:=0+i) (j:=0+j) (by omega) (by omega);rw[if_pos rfl,decide_eq_true_iff]at X ⊢;omega
 ·obtain⟨j,j1,j2,rfl⟩:=qe V;obtain⟨l,l1,l2,rfl⟩:=wQ Y;have:=W (k+j) (by omega) (by omega);unfold Pb at this;rw[if_pos rfl,decide_eq_false_iff_not,eX,jB j2]at this;have q:=K_R sa (i:=l) (j:=na-1) (by omega) Z;rw[jB Z,jB l2]at q;unfold R;omega
 ·obtain⟨l,l1,l2,rfl⟩:=wQ Y;have:=k2 l l1;unfold Pb at this;rw[if_pos rfl,decide_eq_true_iff,eX,jB l2]at this;unfold R;omega
end
end
end Sq
variable{na nb:Nat}
namespace Sq
section
variable{C:Cq}
section
variable{prog:e9}{w:fy}{A:fm}{E:Value->eS->Prop}{s:eS}{a b:Array Keyed}{C:Cq}[LtOk prog w A s C]
theorem MJ.endA'(h:(MJ C) a b out na nb)(e:na=0):(Res C) a b (BP a b out na nb):=by subst e;exact h.endA
theorem MJ.endB'(h:(MJ C) a b out na nb)(e:nb=0):(Res C) a b (BP a b out na nb):=by subst e;exact h.endB
theorem MJ.first'(h:(MJ C) a b out na nb)(e:nb=1)(D:0<b.size)(B:∀y∈a.toList,(R C) b[0] y):(Res C) a b (Dt a b out na nb):=by subst e;exact h.first D B
theorem MJ.pushA'(h:(MJ C) a b out na nb)(D:0<na)(hi:na-1<a.size)(B:∀x∈b.toList.take nb,(R C) x a[na-1]):(MJ C) a b (out.push a[na-1]) (na-1) nb:=by
 cases na with
 |zero=>omega
 |succ n=>exact MJ.pushA (na:=n) h hi B
theorem MJ.pushB'(h:(MJ C) a b out na nb)(D:0<nb)(hi:nb-1<b.size)(B:∀x∈a.toList.take na,(R C) x b[nb-1]):(MJ C) a b (out.push b[nb-1]) na (nb-1):=by
 cases nb with
 |zero=>omega
 |succ n=>exact MJ.pushB (nb:=n) h hi B
structure HiI(C:Cq)(st:fE)(a b:Array Keyed)(n i j:Nat)(o:Array Keyed)(t:fE):Prop where
 E:Eqv st t
 M:MJ C a b o i j
 x:0<i
 x1:i<=a.size
 y:1<j
 y1:j<=b.size
 n:i+j+n<=a.size+b.size
theorem Gx{Q:Array Keyed->fE->Prop}(hk:kindOf st=C.κ)(ha:∀p∈a.toList,C.ok p)(hb:∀p∈b.toList,C.ok p)(a0:0<a.size)(B:0<b.size)(sa:a.toList.Pairwise (R C))(D:b.toList.Pairwise (R C))
 (hf:(KC C) b 0<(KC C) a 0) (hl:∀y∈b.toList,(R C) y (a[a.size-1]'(by omega))) (h:∀r st',(Res C) a b r->Eqv st st'->Q r st'):wpS (model prog w) A E s (QD a b) Q st:=by
 have la:a.size-1<a.size:=by omega
 have S:∀y∈a.toList,(R C) b[0] y:=λy hy=>by
  obtain⟨l,l1,rfl⟩:=oV (x:=a) (i:=0) (by rwa[dY]);have q:=K_R sa (i:=0) (j:=0+l) (by omega) l1;rw[jB a0]at q hf;rw[jB B]at hf;rw[jB l1]at q;unfold R;omega
 refine ai (m:=liftM (rule _)) (de (a9 ⟨rfl,?_⟩));refine ai (d_ (getElem?_pos a (a.size-1) la) ?_);have F:(MJ C) a b #[a[a.size-1]] (a.size-1) b.size:=by
  have ta:a.toList.take (a.size-1)++[a[a.size-1]]=a.toList:=by
   rw[<-yw la,Nat.sub_add_cancel a0,eN (by simp)]
  have tb:b.toList.take b.size=b.toList:=eN (by simp);refine⟨?_,?_,?_⟩
  ·show(a.toList.take (a.size-1)++[a[a.size-1]]).Pairwise (R C);rwa[ta]
  ·rw[tb];exact aH.mpr ⟨D,gH _ _,λx P y hy=>by rw[aJ.mp hy];exact hl x P⟩
  ·rw[tb];have:(a.toList.take (a.size-1)++(b.toList++[a[a.size-1]])).Perm (a.toList.take (a.size-1)++([a[a.size-1]]++b.toList)):=gc _ fY;rwa[<-aL _ [a[a.size-1]],ta]at this
 refine gZ (λc1=>am (h _ _ (F.endA' c1) (Eqv.refl st))) λc1=>?_
 refine gZ (λc2=>am (h _ _ (F.first' c2 B S) (Eqv.refl st))) λc2=>?_
 refine ai (ce ?_);refine qg (HiI C st a b) (λr t=>Eqv st t/\Res C a b r) (· + 1) (a.size+b.size) ⟨Eqv.refl st,F,by omega,by omega,by omega,by omega,by omega⟩ ?oe ?od ?on ?os
 case oe=>exact λo i j t p=>{p with n:=by have:=p.n;omega}
 case od=>exact λr c t p=>am (h r t p.2 p.1)
 case on=>exact λo i j g t p=>absurd p.n (by have:=p.x;omega)
 case os=>
  intro x i j o g t p0;refine qg (HiI C st a b) (λr t=>Eqv st t/\Res C a b r) (λ_=>x+1) (x+1) p0 (λ_ _ _ _ p=>p) (λr c t p=>am p) ?n1 ?s1
  case s1=>
   rintro y i j o ⟨ac,bc⟩ t p;have X:i-1<a.size:=by have:=p.x;have:=p.x1;omega
   have Y:j-1<b.size:=by have:=p.y;have:=p.y1;omega
   refine ai (d_ (getElem?_pos b (j-1) Y) (ai (d_ (getElem?_pos a (i-1) X) ?_)));refine ai (zO (p.E.k.trans hk) (m7 hb Y) (m7 ha X) ?_);refine gh (λlt=>ai (d_ (getElem?_pos a (i-1) X) ?_)) (λlt=>ai (d_ (getElem?_pos b (j-1) Y) ?_))
   ·have N:=p.M.pushA' p.x X λx P=>by
     obtain⟨l,l1,l2,rfl⟩:=wQ P;have q:=K_R D (i:=l) (j:=j-1) (by omega) Y;rw[jB Y,jB l2]at q;unfold R;simp at lt;omega
    refine gZ (λz=>am ⟨p.E,N.endA' z⟩) λ(z:i-1≠0)=>?_
    have q:HiI C st a b (x+1) _ _ _ t:=⟨p.E,N,by omega,by omega,p.y,p.y1,by have:=p.n;omega⟩;exact gh (λ_=>am q) λ_=>am q
   ·have N:=p.M.pushB' (by have:=p.y;omega) Y λx P=>by
     obtain⟨l,l1,l2,rfl⟩:=wQ P;have q:=K_R sa (i:=l) (j:=i-1) (by omega) X;rw[jB X,jB l2]at q;unfold R;simp at lt;omega
    refine gZ (λz=>am ⟨p.E,N.first' z B S⟩) λ(z:j-1≠1)=>?_
    have q:HiI C st a b (x+1) _ _ _ t:=⟨p.E,N,p.x,p.x1,by have:=p.y;omega,by omega,by have:=p.n;omega⟩;exact gh (λ_=>am q) λ_=>am q
  case n1=>
   rintro i j o ⟨ac,bc⟩ t p;refine ai (de (a9 ⟨rfl,?_⟩));refine qg (HiI C st a b) (λr t=>Eqv st t/\Res C a b r) (λy=>x+1+min y 1) (x+1+1) p ?e2 (λr c t p=>am p) ?n2 ?s2
   case e2=>exact λo i j t p=>{p with n:=by have:=p.n;omega}
   case n2=>exact λi j o g t p=>ai (vU (am {p with E:=p.E.set _}))
   case s2=>
    rintro y U Z o ⟨g,ac,bc⟩ t p;have V:Z-1<b.size:=by have:=p.y;have:=p.y1;omega
    refine Kr ?_;generalize g-1=G;refine eR ?l ?r
    case' l=>
     revert G;refine id ?_
    case r=>exact(id ?l:_) g
    intro G;refine ai (vU (ai (d_ (getElem?_pos b (Z-1) V) ?_)));refine ai (Yw ((p.E.set _).k.trans hk) ha hb sa D p.M p.x p.x1 (cD p.y) p.y1 λk k1 Mk k2=>?_);dsimp only;generalize hc:U-k=c;refine gh (λkp=>?_) λkp=>?N1
    generalize o++(a.extract k U).reverse=o at Mk ⊢;refine gZ (λq1=>am ⟨p.E.set _,Mk.endA' q1⟩) λq1=>?_
    have W:=Nat.pos_of_ne_zero q1;clear q1 kp hc;revert W k1 k2 Mk o c k;refine id ?K1
    case N1=>
     have k0:k=U:=by omega
     rw[k0]at k2;exact(id ?K1:_) U (aB _) k2 c o p.M p.x
    intro k k1 k2 c o Mk W;have ka:=aW k1 p.x1;refine ai (d_ (getElem?_pos b (Z-1) V) ?_);have L:=Mk.pushB' (cD p.y) V k2;generalize o.push b[Z-1]=e at L ⊢;refine gZ (λu=>am ⟨p.E.set _,L.first' u B S⟩) λu=>?_
    have T:k-1<a.size:=by omega
    refine ai (d_ (getElem?_pos a (k-1) T) ?_);refine ai (Yx ((p.E.set _).k.trans hk) ha hb sa D L W ka (Nat.sub_pos_of_lt p.y) (cG V) λl l1 O l2=>?_);dsimp only;generalize hd:Z-1-l=d;refine gh (λlp=>?_) λlp=>?N2
    generalize e++(b.extract l (Z-1)).reverse=f at O ⊢;refine gZ (λH=>am ⟨p.E.set _,O.first' H B S⟩) λH=>gZ (λI=>am ⟨p.E.set _,O.endB' I⟩) λI=>?_
    have K:=O.pushA' W T l2;have J:1<l:=by omega
    clear l2 O hd H I lp;revert J K f l1 d l;refine id ?K2
    case N2=>
     have l0:l=Z-1:=by omega
     rw[l0]at l2;exact(id ?K2:_) (Z-1) (aB _) d e (L.pushA' W T l2) (by have:=p.y;omega)
    intro l l1 d f K J;refine ai (d_ (getElem?_pos a (k-1) T) ?_);refine gZ (λv=>am ⟨p.E.set _,K.endA' v⟩) λv=>?_
    have q:∀n,n<=1->HiI C st a b (x+1+n) _ _ _ (setG t G):=λn hn=>⟨p.E.set _,K,by omega,by omega,J,by omega,by have:=p.n;omega⟩
    exact gh (λ_=>am (q _ (aB _))) λ_=>am (q _ (pQ _ _))
end
end
end Sq
namespace Sq
section
variable{C:Cq}
def SIn(C:Cq)(xs:Array Keyed)(lo hi:Nat):Prop:=∀i j,lo<=i->i<=j->j<hi->(KC C) xs i<=(KC C) xs j
structure Ch(st st':fE)(lo hi:Nat):Prop where
 perm:(arrOf st').Perm (arrOf st)
 kind:kindOf st'=kindOf st
 failed:failedOf st'=failedOf st
 pend:pendingOf st'=pendingOf st
 out:∀i,i<lo\/hi<=i->(arrOf st')[i]? = (arrOf st)[i]?
theorem Ch.refl(st:fE)(lo hi:Nat):Ch st st lo hi:=⟨hZ _,rfl,rfl,rfl,λ_ _=>rfl⟩
theorem Ch.size(h:Ch st st' lo hi):(arrOf st').size=(arrOf st).size:=h.perm.size_eq
theorem Ch.ints(h:Ch st st' lo hi)(B:Oks C (arrOf st)):Oks C (arrOf st'):=λp Z=>B p ((dX.mp h.perm).mem_iff.mp Z)
theorem Ch.trans{B:fE}(h:Ch st st' lo hi)(g:Ch st' B lo hi):Ch st B lo hi:=⟨g.perm.trans h.perm,g.kind.trans h.kind,g.failed.trans h.failed,g.pend.trans h.pend,λi q=>(g.out i q).trans (h.out i q)⟩
theorem Ch.set(B:xs.Perm (arrOf st))(D:∀i,i<lo\/hi<=i->xs[i]? = (arrOf st)[i]?):Ch st (setArr st xs) lo hi:=⟨B,rfl,rfl,rfl,D⟩
section
variable{prog:e9}{w:fy}{A:fm}{E:Value->eS->Prop}{s:eS}{C:Cq}[LtOk prog w A s C]
theorem tU{Q:Option Bool->fE->Prop}(J:kindOf st=C.κ)(D:Oks C (arrOf st))(hi:i<(arrOf st).size)(B:j<(arrOf st).size)(h:Q (some (decide ((KC C) (arrOf st) i<(KC C) (arrOf st) j))) st):
 wpS (model prog w) A E s (ltAt' i j) Q st:=by
 rw[jB hi,jB B]at h;rw[ltAt'_eq];refine ai (ce ?_);exact ai (d_ (getElem?_pos _ i hi) (ai (d_ (getElem?_pos _ j B) (zO J (D _ (by simp)) (D _ (by simp)) h))))
def Gap(C:Cq)(xs:Array Keyed)(lo k l r:Nat):Prop:=(∀i,i<l->(KC C) xs (lo+i)<=(KC C) xs (lo+k))/\∀i,r<=i->i<k->(KC C) xs (lo+k)<(KC C) xs (lo+i)
theorem Vb{ok:Nat}{Q:Bool->fE->Prop}(B:kindOf st=C.κ)(D:Oks C (arrOf st))(hn:lo+n<=(arrOf st).size)(hok:ok<=n)(hs:(SIn C) (arrOf st) lo (lo+ok))
 (h:∀st',Ch st st' lo (lo+n)->(SIn C) (arrOf st') lo (lo+n)->Q true st'):wpS (model prog w) A E s (binarySort' lo n ok) Q st:=by
 rw[binarySort'_eq];refine ai (bj (aS (I:=λk c st'=>c=(none,())/\Ch st st' lo (lo+n)/\(SIn C) (arrOf st') lo (lo+min k n))
  (Q:=λc st'=>c=(none,())/\Ch st st' lo (lo+n)/\(SIn C) (arrOf st') lo (lo+n)) ?s1 ?f1 ?z1) ?p1)
 case p1=>
  rintro c st' ⟨rfl,ch,X⟩;exact am (h st' ch X)
 case z1=>
  refine⟨rfl,Ch.refl _ _ _,λi j O P L=>?_⟩;by_cases h1:ok=0
  ·rw[show i=j by omega];exact fV _
  ·exact hs i j O P (by omega)
 case f1=>
  rintro c st' ⟨J,ch,X⟩;refine⟨J,ch,?_⟩;rwa[show min (max (max ok 1) n) n=n by omega]at X
 case s1=>
  rintro k c st' k1 k2 ⟨rfl,ch,X⟩;rw[show min k n=k by omega]at X;have sz:=ch.size;have Y:lo+k<(arrOf st').size:=by omega
  have R:=ch.ints D;refine ai (bj (aS (I:=λx c Z=>∃l r,((Z=st'/\c=(none,l,r))/\l<=r/\r<=k/\r-l<=k-x)/\(Gap C) (arrOf st') lo k l r) (Q:=λc Z=>∃l r,((Z=st'/\c=(none,l,r))/\l<=k)/\(Gap C) (arrOf st') lo k l l) ?s2 ?f2 ?z2) ?p2)
  case z2=>exact⟨0,k,⟨⟨rfl,rfl⟩,by omega,by omega,by omega⟩,λi hi=>by omega,λi h1 h2=>by omega⟩
  case f2=>
   rintro c Z ⟨l,r,⟨⟨rfl,rfl⟩,q1,q2,M⟩,V,W⟩;have:l=r:=by omega
   subst this;exact⟨l,l,⟨⟨rfl,rfl⟩,q2⟩,V,W⟩
  case s2=>
   rintro x c Z _ H ⟨l,r,⟨⟨rfl,rfl⟩,q1,q2,M⟩,V,W⟩;dsimp only;by_cases N:l≥r
   ·refine jL N ?_;have:l=r:=by omega
    subst this;exact am ⟨l,l,⟨⟨rfl,rfl⟩,q2⟩,V,W⟩
   ·refine jH N ?_;refine ai (tU (ch.kind.trans B) R Y (by omega) ?_);by_cases U:(KC C) (arrOf Z) (lo+k)<(KC C) (arrOf Z) (lo+(l+r)/2)
    ·simp only[U,decide_true,if_true];refine am ⟨l,(l+r)/2,⟨⟨rfl,rfl⟩,by omega,by omega,by omega⟩,V,λi h1 h2=>?_⟩;exact Int.lt_of_lt_of_le U (X _ _ (by omega) (by omega) (by omega))
    ·simp only[U,decide_false,f9,if_false];refine am ⟨(l+r)/2+1,r,⟨⟨rfl,rfl⟩,by omega,by omega,by omega⟩,λi h1=>?_,W⟩;exact jt (X (lo+i) (lo+(l+r)/2) (by omega) (by omega) (by omega)) (Int.not_lt.mp U)
  case p2=>
   rintro c Z ⟨l,r,⟨⟨rfl,rfl⟩,K⟩,V,W⟩;show wpS _ _ _ _ (do moveDown' (lo+k) (lo+l);pure (gf (none,()))) _ _;rw[moveDown'_eq];refine ai (bE (am ⟨rfl,ch.trans (Ch.set (bubble_perm _ _ _) λi hi=>?_),?_⟩))
   ·rw[eB Y _ (by omega)];rw[if_neg (by omega),if_neg (by omega)]
   have mk:min (k+1) n=k+1:=by omega
   rw[mk];intro i j O P L;rw[K_bubble Y (by omega),K_bubble Y (by omega),show lo+k-(lo+k-(lo+l))=lo+l by omega];have T:∀x,lo<=x->x<lo+l->(KC C) (arrOf Z) x<=(KC C) (arrOf Z) (lo+k):=λx h1 h2=>by
    have:=V (x-lo) (by omega);rwa[show lo+(x-lo)=x by omega]at this
   have S:∀x,lo+l<=x->x<lo+k->(KC C) (arrOf Z) (lo+k)<(KC C) (arrOf Z) x:=λx h1 h2=>by
    have:=W (x-lo) (by omega) (by omega);rwa[show lo+(x-lo)=x by omega]at this
   repeat' split
   all_goals first
    | (exfalso;omega)
    |exact fV _
    |exact T _ (by omega) (by omega)
    |exact u_ (S _ (by omega) (by omega))
    |exact X _ _ (by omega) (by omega) (by omega)
end
end
end Sq
variable{off:Nat}
namespace Sq
section
variable{C:Cq}
def putAll(x:Array Keyed)(off:Nat)(m:List Keyed):Array Keyed:=m.zipIdx.foldl (λa q=>a.setIfInBounds (off+q.2) q.1) x
theorem Kv:∀(m:List Keyed)(n off:Nat)(x:Array Keyed),off+n+m.length<=x.size ->
 ((m.zipIdx n).foldl (λa q=>a.setIfInBounds (off+q.2) q.1) x).size=x.size/\∀j,((m.zipIdx n).foldl (λa q=>a.setIfInBounds (off+q.2) q.1) x)[j]? = if off+n<=j/\j<off+n+m.length then m[j-(off+n)]? else x[j]?
 |[],n,off,x,_=>⟨rfl,λj=>by rw[if_neg (by simp only[iz];omega)];rfl⟩
 |p::m,n,off,x,h=>by
  rw[aR]at h;obtain⟨h1,h2⟩:=Kv m (n+1) off (x.setIfInBounds (off+n) p) (by rw[pH];omega);rw[List.zipIdx_cons,gP];refine⟨h1.trans pH,λj=>?_⟩;rw[h2 j,aR];by_cases Y:off+(n+1)<=j/\j<off+(n+1)+m.length
  ·rw[if_pos Y,if_pos (by omega),show j-(off+n)=(j-(off+(n+1)))+1 by omega,List.getElem?_cons_succ]
  ·rw[if_neg Y,Array.getElem?_setIfInBounds];by_cases Z:off+n=j
   ·rw[if_pos Z,if_pos (by omega),if_pos (by omega),show j-(off+n)=0 by omega,List.getElem?_cons_zero]
   ·rw[if_neg Z,if_neg (by omega)]
theorem zR{x:Array Keyed}{m:List Keyed}(h:off+m.length<=x.size)(j:Nat):(putAll x off m)[j]? = if off<=j/\j<off+m.length then m[j-off]? else x[j]?:=by
 have:=(Kv m 0 off x (by omega)).2 j;simpa[putAll]using this
theorem QF{x:Array Keyed}{m:List Keyed}(h:off+m.length<=x.size):(putAll x off m).toList=x.toList.take off++(m++x.toList.drop (off+m.length)):=by
 apply dN;intro j;rw[bW,zR h];by_cases Z:j<off
 ·rw[if_neg (by omega),cj (by simp;omega),kj Z,bW]
 ·have l1:(x.toList.take off).length=off:=by simp;omega
  rw[bR (by omega),l1];by_cases Y:j<off+m.length
  ·rw[if_pos (by omega),cj (by omega)]
  ·rw[if_neg (by omega),bR (by omega),dW,bW];congr 1;omega
theorem QG{x:Array Keyed}{m:List Keyed}(h:off+m.length<=x.size)(p:m.Perm ((x.toList.drop off).take m.length)):(putAll x off m).Perm x:=by
 rw[dX,QF h];have e:x.toList=x.toList.take off++((x.toList.drop off).take m.length++x.toList.drop (off+m.length)):=by
  rw[<-lQ,fX,fX]
 refine gu (gc _ (gr _ p)) ?_;rw[<-e]
end
end Sq
namespace Sq
section
variable{C:Cq}
section
variable{prog:e9}{w:fy}{A:fm}{E:Value->eS->Prop}{s:eS}{C:Cq}[LtOk prog w A s C]
theorem QH{σ:Type}{st B:σ}{Q:PUnit->σ->Prop}(h:Q ⟨⟩ B):wpS M A E s (set B:StateT σ Sem PUnit) Q st:=bE (f:=λ_=>B) h
theorem yx{x:Array Keyed}(h:Oks C x):∀p∈(x.extract i j).toList,C.ok p:=λp Z=>h p (by
 rw[gW]at Z;exact rY (m_ Z))
theorem Gy{x:Array Keyed}(B:i<=j)(D:j<=x.size):(x.extract i j).size=j-i:=by rw[Array.size_extract];omega
theorem sX{x:Array Keyed}{k:Nat}(D:j<=x.size)(B:i+k<j):(KC C) (x.extract i j) k=(KC C) x (i+k):=by
 unfold KC;rw[Array.getElem?_extract,if_pos (by omega)]
theorem WR{x:Array Keyed}(h:∀i j,i<=j->j<x.size->(KC C) x i<=(KC C) x j):x.toList.Pairwise (R C):=dj.mpr λi j hi Y Z=>by
 have:=h i j (cG Z) (by simpa using Y);rw[jB (by simpa using hi),jB (by simpa using Y)]at this;unfold R;simpa using this
theorem Gz{sa p B p2:Nat}{Q:Bool->fE->Prop}(J:kindOf st=C.κ)(D:failedOf st=none)(h0:Oks C (arrOf st))(e1:(pendingOf st)[i]? = some (sa,na,p))(e2:(pendingOf st)[i+1]? = some (B,nb,p2))(hc:B=sa+na)(hn:B+nb<=(arrOf st).size)(n1:0<na)(n2:0<nb)
 (s1:(SIn C) (arrOf st) sa B) (s2:(SIn C) (arrOf st) B (B+nb))
 (h:∀st',(arrOf st').Perm (arrOf st)->kindOf st'=C.κ->failedOf st'=none->pendingOf st'=((pendingOf st).setIfInBounds i (sa,na+nb,p)).eraseIdxIfInBounds (i+1)->(∀j,j<sa\/B+nb<=j->(arrOf st')[j]? = (arrOf st)[j]?)->(SIn C) (arrOf st') sa (B+nb)->Q true st') :
 wpS (model prog w) A E s (mergeAt' i) Q st:=by
 have d:=h0;have T:B<(arrOf st).size:=by omega
 refine ai (m:=get) (ce ?_);rw[e1,e2];refine ai (QH ?_);refine ai (d_ (getElem?_pos (arrOf st) B T) ?_);have Kb:(KC C) (arrOf st) B=C.nu ((arrOf st)[B]):=jB T;refine ai (mU (arr:=arrOf st) (base:=sa) (n:=na) (hint:=0) J (m7 d T) d (by omega) n1 (λa b ab b1 F=>?_) λk k1 k2 k3=>?_)
 ·unfold Pb at F ⊢;have:=s1 (sa+a) (sa+b) (by omega) (by omega) (by omega);rw[if_neg aX,gJ,decide_eq_false_iff_not]at F ⊢;omega
 have lo1:∀u,u<k->(KC C) (arrOf st) (sa+u)<=(KC C) (arrOf st) B:=λu hu=>by
  have:=k2 u hu;unfold Pb at this;rw[if_neg aX,gJ,decide_eq_false_iff_not]at this;omega
 have N:∀u,k<=u->u<na->(KC C) (arrOf st) B<(KC C) (arrOf st) (sa+u):=λu Y X=>by
  have:=k3 u Y X;unfold Pb at this;rw[if_neg aX,oH,decide_eq_true_iff]at this;omega
 by_cases c1:na-k=0
 ·refine jL (by simpa using c1) ?_;refine am (h _ (hZ _) J D rfl (λ_ _=>rfl) λu v Y W Z=>?_);show(KC C) (arrOf st) u<=(KC C) (arrOf st) v;by_cases V:v<B
  ·exact s1 u v Y W V
  ·by_cases X:u<B
   ·have o:=lo1 (u-sa) (by omega);have c:=s2 B v (aB _) (by omega) Z;rw[show sa+(u-sa)=u by omega]at o;omega
   ·exact s2 u v (by omega) W Z
 refine jH (by simpa using c1) ?_;have O:sa+k+(na-k)-1<(arrOf st).size:=by omega
 have exl:sa+k+(na-k)-1=B-1:=by omega
 refine ai (d_ (getElem?_pos (arrOf st) (sa+k+(na-k)-1) O) ?_);have Ka:(KC C) (arrOf st) (B-1)=C.nu ((arrOf st)[sa+k+(na-k)-1]):=by rw[<-exl];exact jB O
 refine ai (mU (arr:=arrOf st) (base:=B) (n:=nb) (hint:=nb-1) J (m7 d O) d (by omega) (by omega) (λa b ab b1 F=>?_) λl l1 l2 l3=>?_)
 ·unfold Pb at F ⊢;have:=s2 (B+a) (B+b) (by omega) (by omega) (by omega);rw[if_pos rfl,decide_eq_true_iff]at F ⊢;omega
 have I:=λu hu=>by
  have:=l2 u hu;unfold Pb at this;rw[if_pos rfl,decide_eq_true_iff]at this;omega
 have G:∀u,l<=u->u<nb->(KC C) (arrOf st) (B-1)<=(KC C) (arrOf st) (B+u):=λu Y X=>by
  have:=l3 u Y X;unfold Pb at this;rw[if_pos rfl,decide_eq_false_iff_not]at this;omega
 dsimp only;have l0:0<l:=by
  rcases uz l with z|z
  ·have o:=G 0 (by omega) n2;have c:=N (na-1) (by omega) (by omega);rw[show sa+(na-1)=B-1 by omega]at c;rw[lO]at o;omega
  ·exact z
 refine jH (by simpa using lM l0) ?_;have g:((arrOf st).extract (sa+k) B).size=B-(sa+k):=Gy (by omega) (by omega);have zy:((arrOf st).extract B (B+l)).size=l:=by rw[Gy (by omega) (by omega)];omega
 have px:((arrOf st).extract (sa+k) B).toList.Pairwise (R C):=WR λu v W Z=>by
  rw[g]at Z;rw[sX (by omega) (by omega),sX (by omega) (by omega)];exact s1 _ _ (by omega) (by omega) (by omega)
 have py:((arrOf st).extract B (B+l)).toList.Pairwise (R C):=WR λu v W Z=>by
  rw[zy]at Z;rw[sX (by omega) (by omega),sX (by omega) (by omega)];exact s2 _ _ (by omega) (by omega) (by omega)
 have f0:(KC C) ((arrOf st).extract B (B+l)) 0<(KC C) ((arrOf st).extract (sa+k) B) 0:=by
  rw[sX (by omega) (by omega),sX (by omega) (by omega),lO,lO];exact N k (aB _) (by omega)
 have xl:((arrOf st).extract (sa+k) B).size-1<((arrOf st).extract (sa+k) B).size:=by omega
 have fl:∀y∈((arrOf st).extract B (B+l)).toList,(R C) y (((arrOf st).extract (sa+k) B)[((arrOf st).extract (sa+k) B).size-1]'xl):=λy hy=>by
  obtain⟨u,Y,rfl⟩:=oV (x:=(arrOf st).extract B (B+l)) (i:=0) (by rw[dY];exact hy);have o:=jB (C:=C) Y;have c:=jB (C:=C) xl;unfold R;rw[<-o,<-c,sX (by omega) (by omega),sX (by omega) (by omega)];have:=I (0+u) (by omega);rw[g,show sa+k+(B-(sa+k)-1)=B-1 by omega];omega
 have fin:∀(r:Array Keyed)(st':fE),(Res C) ((arrOf st).extract (sa+k) B) ((arrOf st).extract B (B+l)) r->kindOf st'=kindOf st->arrOf st'=arrOf st->failedOf st'=failedOf st->pendingOf st'=((pendingOf st).setIfInBounds i (sa,na+nb,p)).eraseIdxIfInBounds (i+1) ->
  Q true (setArr st' (putAll (arrOf st) (sa+k) r.toList)):=λr st' U g1 g2 g3 g4=>by
  have rl:r.toList.length=B+l-(sa+k):=by
   rw[U.P.length_eq,bB,aY,aY,g,zy];omega
  have H:sa+k+r.toList.length<=(arrOf st).size:=by omega
  have cut:((arrOf st).toList.drop (sa+k)).take r.toList.length=((arrOf st).extract (sa+k) B).toList++((arrOf st).extract B (B+l)).toList:=by
   rw[gW,gW,rl,show B+l-(sa+k)=(B-(sa+k))+(B+l-B)by omega,List.take_add,lQ,show sa+k+(B-(sa+k))=B by omega]
  have K:∀u,sa+k<=u->u<B+l->∃v,sa+k<=v/\v<B+l/\(KC C) (putAll (arrOf st) (sa+k) r.toList) u=(KC C) (arrOf st) v:=λu Y X=>by
   have q:=zR H u;rw[if_pos (by omega)]at q;have hu:u-(sa+k)<r.toList.length:=by omega
   rw[aA hu]at q;have hm:r.toList[u-(sa+k)]∈((arrOf st).toList.drop (sa+k)).take r.toList.length:=by
    rw[cut];exact U.P.mem_iff.mp (cV hu)
   obtain⟨v,Z,V,ev⟩:=qe hm;refine⟨sa+k+v,by omega,by omega,?_⟩;rw[jB V,<-ev];unfold KC;rw[q]
  have out:∀u,u<sa+k\/B+l<=u->(KC C) (putAll (arrOf st) (sa+k) r.toList) u=(KC C) (arrOf st) u:=λu hu=>K_congr (by rw[zR H,if_neg (by omega)])
  have ms:∀u v,sa+k<=u->u<=v->v<B+l->(KC C) (putAll (arrOf st) (sa+k) r.toList) u<=(KC C) (putAll (arrOf st) (sa+k) r.toList) v:=λu v Y W Z=>by
   have eq:∀u,sa+k<=u->u<B+l->(KC C) (putAll (arrOf st) (sa+k) r.toList) u=(KC C) r (u-(sa+k)):=λu Y X=>K_congr (by
    rw[zR H,if_pos (by omega),bW])
   rw[eq u Y (by omega),eq v (by omega) Z];exact K_R U.S (by omega) (by rw[<-aY];omega)
  have up:∀v,sa+k<=v->v<B+l->(KC C) (arrOf st) v<=(KC C) (arrOf st) (B-1):=λv Z V=>by
   by_cases z:v<B
   ·exact s1 v (B-1) (by omega) (by omega) (by omega)
   ·have:=I (v-B) (by omega);rw[show B+(v-B)=v by omega]at this;omega
  have dn:∀v,sa+k<=v->v<B+l->(KC C) (arrOf st) B<=(KC C) (arrOf st) v:=λv Z V=>by
   by_cases z:v<B
   ·have:=N (v-sa) (by omega) (by omega);rw[show sa+(v-sa)=v by omega]at this;omega
   ·exact s2 B v (aB _) (by omega) (by omega)
  have low:∀u,sa<=u->u<sa+k->(KC C) (arrOf st) u<=(KC C) (arrOf st) B:=λu Y X=>by
   have:=lo1 (u-sa) (by omega);rwa[show sa+(u-sa)=u by omega]at this
  have hig:∀v,B+l<=v->v<B+nb->(KC C) (arrOf st) (B-1)<=(KC C) (arrOf st) v:=λv Z V=>by
   have:=G (v-B) (by omega) (by omega);rwa[show B+(v-B)=v by omega]at this
  refine h _ ?_ (g1.trans J) (g3.trans D) g4 (λj hj=>?_) λu v Y W Z=>?_
  ·exact QG H (by rw[cut];exact U.P)
  ·show(putAll (arrOf st) (sa+k) r.toList)[j]? = _;rw[zR H,if_neg (by omega)]
  ·show(KC C) (putAll (arrOf st) (sa+k) r.toList) u<=(KC C) (putAll (arrOf st) (sa+k) r.toList) v;by_cases X:u<sa+k
   ·rw[out u (.inl X)];by_cases V:v<sa+k
    ·rw[out v (.inl V)];exact s1 u v Y W (by omega)
    ·by_cases v3:v<B+l
     ·obtain⟨t,t1,t2,t3⟩:=K v (by omega) v3;rw[t3];exact jt (low u Y X) (dn t t1 t2)
     ·rw[out v (.inr (by omega))];exact jt (low u Y X) (s2 B v (aB _) (by omega) Z)
   ·by_cases u3:u<B+l
    ·by_cases v3:v<B+l
     ·exact ms u v (by omega) W v3
     ·rw[out v (.inr (by omega))];obtain⟨t,t1,t2,t3⟩:=K u (by omega) u3;rw[t3];exact jt (up t t1 t2) (hig v (by omega) Z)
    ·rw[out u (.inr (by omega)),out v (.inr (by omega))];exact s2 u v (by omega) W Z
 have L:0<((arrOf st).extract (sa+k) B).size:=by rw[g];omega
 have M:0<((arrOf st).extract B (B+l)).size:=by rw[zy];exact l0
 have nn:(failedOf st).isNone=true:=by rw[D];rfl
 split
 ·refine ai (Gw J (yx h0) (yx h0) L M px py f0 fl λr st' U E=>?_);refine ai (bE (ai (ce (am ?_))));have:=fin r st' U E.k E.a E.f E.p;rw[<-E.a]at this;have e:(failedOf st').isNone=true:=by rw[E.f];exact nn
  show Q (failedOf st').isNone _;rw[e];exact this
 ·refine ai (Gx J (yx h0) (yx h0) L M px py f0 fl λr st' U E=>?_);refine ai (bE (ai (ce (am ?_))));have:=fin r st' U E.k E.a E.f E.p;rw[<-E.a]at this;have e:(failedOf st').isNone=true:=by rw[E.f];exact nn
  show Q (failedOf st').isNone _;rw[e];exact this
end
end
end Sq
namespace Sq
section
variable{C:Cq}
def NIn(C:Cq)(xs:Array Keyed)(lo hi:Nat):Prop:=∀i j,lo<=i->i<=j->j<hi->(KC C) xs j<=(KC C) xs i
section
variable{prog:e9}{w:fy}{A:fm}{E:Value->eS->Prop}{s:eS}{C:Cq}[LtOk prog w A s C]
theorem tV(h1:lo<=i)(h2:j<=hi)(B:j<=(arrOf st).size):Ch st (setArr st (mirror (arrOf st) i j ((j-i)/2))) lo hi:=
 Ch.set (mirror_perm _ _ _ _) λu hu=>by rw[db B,if_neg (by omega)]
theorem SIn.one(h:hi<=lo+1):(SIn C) xs lo hi:=λi j h1 h2 Z=>by
 have:i=j:=by omega
 subst this;exact fV _
theorem SIn.more(h:(SIn C) xs lo (lo+n))(hn:1<=n)(q:¬(KC C) xs (lo+n)<(KC C) xs (lo+n-1)):(SIn C) xs lo (lo+(n+1)):=λi j h1 h2 Y=>by
 by_cases z:j<lo+n
 ·exact h i j h1 h2 z
 ·have Z:j=lo+n:=by omega
  subst Z;by_cases y:i=lo+n
  ·rw[y];exact fV _
  ·have:=h i (lo+n-1) h1 (by omega) (by omega);omega
theorem NIn.more(h:(NIn C) xs lo (lo+n))(hn:1<=n)(q:(KC C) xs (lo+n)<=(KC C) xs (lo+n-1)):(NIn C) xs lo (lo+(n+1)):=λi j h1 h2 Y=>by
 by_cases z:j<lo+n
 ·exact h i j h1 h2 z
 ·have Z:j=lo+n:=by omega
  subst Z;by_cases y:i=lo+n
  ·rw[y];exact fV _
  ·have:=h i (lo+n-1) h1 (by omega) (by omega);omega
theorem MN{B:Nat}{Q:Option Nat->fE->Prop}(D:kindOf st=C.κ)(J:Oks C (arrOf st))(h1:1<=B)(hn:lo+B<=(arrOf st).size)
 (h:∀m st',Ch st st' lo (lo+B)->1<=m->m<=B->(SIn C) (arrOf st') lo (lo+m)->Q (some m) st'):wpS (model prog w) A E s (countRun' lo B) Q st:=by
 refine ai (bj (aS (a:=1) (b:=B) (I:=λx c st'=>st'=st/\c=(none,x)/\(SIn C) (arrOf st) lo (lo+x))
  (Q:=λc st'=>st'=st/\∃n,c=(none,n)/\1<=n/\n<=B/\(SIn C) (arrOf st) lo (lo+n)/\(n=B\/(KC C) (arrOf st) (lo+n)<(KC C) (arrOf st) (lo+n-1))) ?s1 ?f1 ⟨rfl,rfl,SIn.one (by omega)⟩) ?p1)
 case f1=>
  rintro c st' ⟨rfl,rfl,V⟩;rw[show max 1 B=B by omega]at V ⊢;exact⟨rfl,B,rfl,h1,aB _,V,.inl rfl⟩
 case s1=>
  rintro x c st' x1 v ⟨rfl,rfl,V⟩;refine ai (tU D J (by omega) (by omega) ?_);exact gh (λlt=>am ⟨rfl,x,rfl,x1,cG v,V,.inr (of_decide_eq_true lt)⟩) λlt=>am ⟨rfl,rfl,V.more x1 λz=>lt (dTr z)⟩
 case p1=>
  rintro c st' ⟨rfl,n,rfl,n1,n2,V,L⟩;dsimp only;refine gZ (λk=>am (h n st' (Ch.refl _ _ _) n1 n2 V)) λk=>?_
  have lt:=L.resolve_left k;have n3:n<B:=uy n2 k;clear L k n2;refine gh (λc2=>?_) λc2=>?N1
  refine ai (tU D J (by omega) (by omega) ?_);refine gh (λd=>am (h n st' (Ch.refl _ _ _) n1 (cG n3) V)) λr0=>?_
  have d:¬(KC C) (arrOf st') lo<(KC C) (arrOf st') (lo+n-1):=λz=>r0 (dTr z)
  refine ai (ee ?_);have al:∀u,lo<=u->u<lo+n->(KC C) (arrOf st') u=(KC C) (arrOf st') (lo+n-1):=λu H t=>by
   have a1:=V lo u (aB _) H t;have a2:=V u (lo+n-1) H (by omega) (by omega);omega
  have ch:Ch st' (setArr st' (mirror (arrOf st') lo (lo+n) ((lo+n-lo)/2))) lo (lo+B):=tV (aB _) (by omega) (by omega);have O:=K_mirror_equal (xs:=arrOf st') (i:=lo) (j:=lo+n) (by omega) al;have G:(NIn C) (arrOf (setArr st' (mirror (arrOf st') lo (lo+n) ((lo+n-lo)/2)))) lo (lo+(n+1)):=λi j i1 F j1=>by
   show(KC C) (mirror (arrOf st') lo (lo+n) ((lo+n-lo)/2)) j<=(KC C) (mirror (arrOf st') lo (lo+n) ((lo+n-lo)/2)) i;rw[O,O];clear O ch V D J hn h;by_cases z:j<lo+n
   ·rw[al i i1 (by omega),al j (by omega) z];exact fV _
   ·have e:j=lo+n:=by omega
    subst e;by_cases y:i=lo+n
    ·rw[y];exact fV _
    ·rw[al i i1 (by omega)];omega
  generalize setArr st' (mirror (arrOf st') lo (lo+n) ((lo+n-lo)/2))=r at ch G ⊢;clear al O c2 d r0 V lt;revert G ch r;refine id ?K1
  case N1=>
   refine(id ?K1:_) st' (Ch.refl _ _ _) λi j i1 F j1=>?_
   clear V D J hn h;by_cases y:i=j
   ·rw[y];exact fV _
   ·have ei:i=lo:=by omega
    have e:j=lo+n:=by omega
    rw[ei,e];rw[show lo+n-1=lo by omega]at lt;omega
  intro r ch G;refine ai (de (a9 ⟨rfl,?_⟩));refine ai (bj (aS (I:=λx c Z=>∃q,c=(none,x,q)/\Ch st' Z lo (lo+B)/\(NIn C) (arrOf Z) lo (lo+x)/\q+1<=x/\∀u,lo+x-(q+1)<=u->u<lo+x->(KC C) (arrOf Z) u=(KC C) (arrOf Z) (lo+x-1))
   (Q:=λc Z=>∃m q,c=(none,m,q)/\n+1<=m/\m<=B/\Ch st' Z lo (lo+B)/\(NIn C) (arrOf Z) lo (lo+m)/\q+1<=m/\∀u,lo+m-(q+1)<=u->u<lo+m->(KC C) (arrOf Z) u=(KC C) (arrOf Z) (lo+m-1)) ?s2 ?f2 ⟨0,rfl,ch,G,by omega,λu H t=>by congr 1;omega⟩) ?p2)
  case f2=>
   rintro c Z ⟨q,rfl,Y,X,q1,U⟩;rw[show max (n+1) B=B by omega]at X q1 U ⊢;exact⟨B,q,rfl,n3,aB _,Y,X,q1,U⟩
  case s2=>
   rintro x c Z x1 v ⟨q,rfl,Y,X,q1,U⟩;dsimp only;clear G ch;have sz:=Y.size;have z1:lo+x<(arrOf Z).size:=by omega
   have z2:lo+x-1<(arrOf Z).size:=by omega
   have g:1<=x:=by omega
   refine ai (tU (Y.kind.trans D) (Y.ints J) z1 z2 ?_);refine gh (λS=>?_) λS=>ai (tU (Y.kind.trans D) (Y.ints J) z2 z1 (gh (λK=>am ⟨x,q,rfl,x1,cG v,Y,X,q1,U⟩) λK=>am ⟨q+1,rfl,Y,X.more g ?_,pW q1,λu H t=>?_⟩))
   ·have S:=of_decide_eq_true S;refine gh (λl=>ai (ee (am ⟨0,rfl,Y.trans (tV (by omega) (by omega) (cG z1)),λi j i1 F j1=>?_,Nat.le_add_left ..,λu H t=>by congr 1;omega⟩))) λl=>am ⟨0,rfl,Y,X.more g (u_ S),Nat.le_add_left ..,λu H t=>by congr 1;omega⟩
    have O:=K_mirror_equal (xs:=arrOf Z) (i:=lo+x-(q+1)) (j:=lo+x) (cG z1) U;show(KC C) (mirror (arrOf Z) (lo+x-(q+1)) (lo+x) _) j<=(KC C) (mirror (arrOf Z) (lo+x-(q+1)) (lo+x) _) i;rw[O,O];exact X.more g (u_ S) i j i1 F j1
   ·exact Int.not_lt.mp λz=>K (dTr z)
   ·rw[show lo+(x+1)-1=lo+x by omega];by_cases z:u=lo+x
    ·rw[z]
    ·rw[U u (by omega) (by omega)];have a:¬(KC C) (arrOf Z) (lo+x)<(KC C) (arrOf Z) (lo+x-1):=λz=>S (dTr z)
     have b:¬(KC C) (arrOf Z) (lo+x-1)<(KC C) (arrOf Z) (lo+x):=λz=>K (dTr z)
     omega
  case p2=>
   rintro c Z ⟨m,q,rfl,m1,m2,Y,X,q1,U⟩;dsimp only;clear G ch;have sz:=Y.size;refine gh (λl=>?_) λl=>?N2
   refine ai (ee ?_);have O:=K_mirror_equal (xs:=arrOf Z) (i:=lo+m-(q+1)) (j:=lo+m) (by omega) U;have R:Ch st' (setArr Z (mirror (arrOf Z) (lo+m-(q+1)) (lo+m) ((lo+m-(lo+m-(q+1)))/2))) lo (lo+B):=Y.trans (tV (by omega) (by omega) (by omega));have P:(NIn C) (arrOf (setArr Z (mirror (arrOf Z) (lo+m-(q+1)) (lo+m) ((lo+m-(lo+m-(q+1)))/2)))) lo (lo+m):=λi j i1 F j1=>by
    show(KC C) (mirror (arrOf Z) (lo+m-(q+1)) (lo+m) _) j<=(KC C) (mirror (arrOf Z) (lo+m-(q+1)) (lo+m) _) i;rw[O,O];exact X i j i1 F j1
   generalize setArr Z (mirror (arrOf Z) (lo+m-(q+1)) (lo+m) ((lo+m-(lo+m-(q+1)))/2))=W at R P ⊢;clear O l sz;revert P R W;refine id ?K2
   case N2=>exact(id ?K2:_) Z Y X
   intro W R P;clear U X Y q1;have f:=R.size;refine ai (ee ?_);have N:Ch st' (setArr W (mirror (arrOf W) lo (lo+m) ((lo+m-lo)/2))) lo (lo+B):=R.trans (tV (aB _) (by omega) (by omega));have p:(SIn C) (arrOf (setArr W (mirror (arrOf W) lo (lo+m) ((lo+m-lo)/2)))) lo (lo+m):=λi j i1 F j1=>by
    show(KC C) (mirror (arrOf W) lo (lo+m) ((lo+m-lo)/2)) i<=(KC C) (mirror (arrOf W) lo (lo+m) ((lo+m-lo)/2)) j;rw[K_mirror (by omega),K_mirror (by omega),if_pos (by omega),if_pos (by omega)];exact P _ _ (by omega) (by omega) (by omega)
   generalize setArr W (mirror (arrOf W) lo (lo+m) ((lo+m-lo)/2))=M at N p ⊢;have sz5:=N.size;clear R P f;refine ai (bj (aS (I:=λx c T=>T=M/\c=(none,x)/\(SIn C) (arrOf M) lo (lo+x)) (Q:=λc T=>T=M/\∃z,c=(none,z)/\m<=z/\z<=B/\(SIn C) (arrOf M) lo (lo+z)) ?s3 ?f3 ⟨rfl,rfl,p⟩) ?p3)
   case f3=>
    rintro c T ⟨rfl,rfl,V⟩;rw[show max m B=B by omega]at V ⊢;exact⟨rfl,B,rfl,m2,aB _,V⟩
   case s3=>
    rintro x c T x1 v ⟨rfl,rfl,V⟩;refine ai (tU (N.kind.trans D) (N.ints J) (by omega) (by omega) ?_);exact gh (λo=>am ⟨rfl,x,rfl,x1,cG v,V⟩) λo=>am ⟨rfl,rfl,V.more (by omega) λz=>o (dTr z)⟩
   case p3=>
    rintro c T ⟨rfl,z,rfl,z1,z2,V⟩;exact am (h z T N (by omega) z2 V)
end
end
end Sq
variable{st0:fE}
namespace Sq
section
variable{C:Cq}
def Runs(C:Cq)(xs:Array Keyed):List (Nat×Nat×Nat)->Nat->Nat->Prop
 |[],a,b=>a=b
 | (st,len,_)::r,a,b=>st=a/\0<len/\(SIn C) xs a (a+len)/\(Runs C) xs r (a+len) b
theorem Runs.le:∀{ps:List (Nat×Nat×Nat)}{a b:Nat},(Runs C) xs ps a b->a+ps.length<=b
 |[],a,b,h=>by have:a=b:=h;simp only[iz];omega
 | (st,len,_)::r,a,b,h=>by
  have:=h.2.2.2.le;have:=h.2.1;rw[aR];omega
theorem SIn.same{ys:Array Keyed}(h:(SIn C) xs lo hi)(e:∀j,lo<=j->j<hi->(KC C) ys j=(KC C) xs j):(SIn C) ys lo hi:=λi j h1 h2 Z=>by
 rw[e i h1 (by omega),e j (by omega) Z];exact h i j h1 h2 Z
theorem Runs.same{ys:Array Keyed}:∀{ps:List (Nat×Nat×Nat)}{a b:Nat},(Runs C) xs ps a b->(∀j,a<=j->j<b->(KC C) ys j=(KC C) xs j)->(Runs C) ys ps a b
 |[],a,b,h,_=>h
 | (st,len,p)::r,a,b,h,e=>by
  have l:=h.2.2.2.le;exact⟨h.1,h.2.1,h.2.2.1.same λj j1 j2=>e j j1 (by omega),Runs.same h.2.2.2 λj j1 j2=>e j (by omega) j2⟩
theorem Runs.app:∀{ps:List (Nat×Nat×Nat)}{a b c p:Nat},(Runs C) xs ps a b->0<c->(SIn C) xs b (b+c)->(Runs C) xs (ps++[(b,c,p)]) a (b+c)
 |[],a,b,c,p,h,h1,h2=>by
  have:a=b:=h;subst this;exact⟨rfl,h1,h2,rfl⟩
 | (st,len,q)::r,a,b,c,p,h,h1,h2=>⟨h.1,h.2.1,h.2.2.1,Runs.app h.2.2.2 h1 h2⟩
theorem Runs.pw(f:Nat×Nat×Nat->Nat):∀{ps:List (Nat×Nat×Nat)}{a b i:Nat},(Runs C) xs ps a b->(Runs C) xs (ps.modify i λq=>(q.1,q.2.1,f q)) a b
 |[],a,b,i,h=>by cases i<;>exact h
 | (st,len,q)::r,a,b,0,h=>h
 | (st,len,q)::r,a,b,i+1,h=>⟨h.1,h.2.1,h.2.2.1,Runs.pw f (i:=i) h.2.2.2⟩
theorem Runs.merge:∀{ps:List (Nat×Nat×Nat)}{a b i sa na p B nb q:Nat},(Runs C) xs ps a b->ps[i]? = some (sa,na,p)->ps[i+1]? = some (B,nb,q) ->
 (a<=sa/\B=sa+na/\0<na/\0<nb/\(SIn C) xs sa B/\(SIn C) xs B (B+nb)/\B+nb<=b) /\
 ∀ys,(∀j,j<sa\/B+nb<=j->(KC C) ys j=(KC C) xs j)->(SIn C) ys sa (B+nb)->(Runs C) ys ((ps.set i (sa,na+nb,p)).eraseIdx (i+1)) a b
 |[],a,b,i,sa,na,p,B,nb,q,h,Z,e2=>by cases Z
 | (st,len,V)::r,a,b,0,sa,na,p,B,nb,q,h,Z,e2=>by
  cases Z
  cases r with
  |nil=>cases e2
  |cons x r=>
   cases e2;obtain⟨h1,h2,X,Y,T,U,W⟩:=h;subst h1 Y;have l:=W.le;refine⟨⟨aB _,rfl,h2,T,X,U,by omega⟩,λys e s=>⟨rfl,by omega,by rwa[<-uf],?_⟩⟩;have:=W.same (ys:=ys) λj j1 j2=>e j (.inr (by omega))
   rwa[<-uf]
 | (st,len,V)::r,a,b,i+1,sa,na,p,B,nb,q,h,Z,e2=>by
  obtain⟨h1,h2,X,Y⟩:=h;subst h1;obtain⟨⟨g1,g2,g3,O,P,Q,R⟩,S⟩:=Runs.merge (i:=i) Y (by simpa using Z) (by simpa using e2);refine⟨⟨by omega,g2,g3,O,P,Q,R⟩,λys e s=>⟨rfl,h2,X.same λj j1 j2=>e j (.inl (by omega)),?_⟩⟩;exact S ys e s
section
variable{prog:e9}{w:fy}{A:fm}{E:Value->eS->Prop}{s:eS}{C:Cq}[LtOk prog w A s C]
structure W(C:Cq)(st0 st:fE)(lo:Nat):Prop where
 perm:(arrOf st).Perm (arrOf st0)
 kind:kindOf st=C.κ
 failed:failedOf st=none
 runs:(Runs C) (arrOf st) (pendingOf st).toList 0 lo
theorem W.ints(h:(W C) st0 st lo)(B:Oks C (arrOf st0)):Oks C (arrOf st):=λp Z=>B p ((dX.mp h.perm).mem_iff.mp Z)
theorem GC{Q:Bool->fE->Prop}(J:Oks C (arrOf st0))(B:(W C) st0 st lo)(D:lo<=(arrOf st0).size)(hi:i+1<(pendingOf st).size)
 (h:∀st',(W C) st0 st' lo->(pendingOf st').size+1=(pendingOf st).size->(∀j,lo<=j->(arrOf st')[j]? = (arrOf st)[j]?)->Q true st'):wpS (model prog w) A E s (mergeAt' i) Q st:=by
 obtain⟨sa,na,p,P⟩:∃sa na p,(pendingOf st)[i]? = some (sa,na,p):=⟨_,_,_,getElem?_pos (pendingOf st) i (by omega)⟩;obtain⟨Z,nb,q,e2⟩:∃Z nb q,(pendingOf st)[i+1]? = some (Z,nb,q):=⟨_,_,_,getElem?_pos (pendingOf st) (i+1) hi⟩;obtain⟨⟨g1,g2,g3,R,S,T,K⟩,U⟩:=B.runs.merge (i:=i) (by rwa[bW]) (by rwa[bW]);have sz:=B.perm.size_eq;refine Gz B.kind B.failed (B.ints J) P e2 g2 (by omega) g3 R S T λst' L M N V X O=>h st' ⟨L.trans B.perm,M,N,?_⟩ ?_ λj Y=>X j (.inr (by omega))
 ·have:=U (arrOf st') (λj Y=>K_congr (X j Y)) O;rw[V];simpa using this
 ·rw[V,<-aY,<-aY];rw[show(((pendingOf st).setIfInBounds i (sa,na+nb,p)).eraseIdxIfInBounds (i+1)).toList=((pendingOf st).toList.set i (sa,na+nb,p)).eraseIdx (i+1)by simp,List.length_eraseIdx_of_lt (by simpa using hi),dg,aY];omega
theorem W.push(h:(W C) st0 st lo)(hn:0<n)(B:(SIn C) (arrOf st) lo (lo+n)):(W C) st0 (setPending st ((pendingOf st).push (lo,n,0))) (lo+n):=
 ⟨h.perm,h.kind,h.failed,by
  rw[o7];exact h.runs.app hn B⟩
theorem W.pow{f:Nat×Nat×Nat->Nat}(h:(W C) st0 st lo):(W C) st0 (setPending st ((pendingOf st).modify i λq=>(q.1,q.2.1,f q))) lo:=
 ⟨h.perm,h.kind,h.failed,by
  rw[Array.toList_modify];exact h.runs.pw f⟩
theorem W.of{D B:fE}(h:(W C) st0 D lo)(ch:Ch D B lo hi):(W C) st0 B lo:=
 ⟨ch.perm.trans h.perm,ch.kind.trans h.kind,ch.failed.trans h.failed,by
  rw[ch.pend];exact h.runs.same λj _ j2=>K_congr (ch.out j (.inl j2))⟩
theorem QJ{Q:Unit->fE->Prop}(hk:kindOf st=C.κ)(hf:failedOf st=none)(hp:pendingOf st = #[])(B:Oks C (arrOf st))(h2:2<=(arrOf st).size)
 (h:∀st',(arrOf st').Perm (arrOf st)->failedOf st'=none->STo C (arrOf st') (arrOf st).size->Q () st'):wpS (model prog w) A E s sortRuns' Q st:=by
 have W0:(W C) st st 0:=⟨hZ _,hk,hf,by rw[hp];rfl⟩;rw[sortRuns'_eq];refine ai (ce ?_);refine ai (bj (aS (I:=λx c st'=>∃lo,c=(none,lo)/\lo<=(arrOf st).size/\min x (arrOf st).size<=lo/\(W C) st st' lo)
  (Q:=λc st'=>c=(none,(arrOf st).size)/\(W C) st st' (arrOf st).size) ?s1 ?f1 ⟨0,rfl,cH _,by omega,W0⟩) ?p1)
 case f1=>
  rintro c st' ⟨lo,rfl,l1,l2,Ww⟩;have:lo=(arrOf st).size:=by omega
  subst this;exact⟨rfl,Ww⟩
 case s1=>
  rintro x c M _ hx ⟨lo,rfl,l1,l2,T⟩;dsimp only;have sz:=T.perm.size_eq;by_cases z:lo≥(arrOf st).size
  ·refine jL z ?_;have:lo=(arrOf st).size:=by omega
   subst this;exact am ⟨rfl,T⟩
  refine jH z ?_;refine ai (MN T.kind (T.ints B) (by omega) (by omega) λm Z ch g m2 H=>?_);by_cases D:m<minRun' (arrOf st).size (arrOf st).size 0
  case' pos=>
   refine jL D ?_;refine ai (de (a9 ⟨rfl,?_⟩));have t:=ch.size;have X:=T.of ch;refine ai (Vb X.kind (X.ints B) (by omega) (by omega) H λN R U=>?_);have K:∃n,n=min ((arrOf st).size-lo) (minRun' (arrOf st).size (arrOf st).size 0):=⟨_,rfl⟩;obtain⟨n,K⟩:=K;rw[<-K]at U R ⊢;have n1:1<=n:=by omega
   have n2:lo+n<=(arrOf st).size:=by omega
   have O:=X.of R;refine jH (by decide) ?_
  case' neg=>
   refine jH D ?_;have O:=T.of ch;have U:=H;have n1:=g;have n2:lo+m<=(arrOf st).size:=by omega
  all_goals
   refine ai (ce ?_);split
   ·next s1 k p1 eb=>
    refine ai (bj (aS (I:=λy c Y=>c=(none,())/\(W C) st Y lo/\(SIn C) (arrOf Y) lo _) (Q:=λc Y=>c=(none,())/\(W C) st Y lo/\(SIn C) (arrOf Y) lo _) ?s2 (λ_ _ q=>q) ⟨rfl,O,U⟩) ?p2)
    case s2=>
     rintro y c Y _ e ⟨rfl,P,V⟩;refine ai (ce ?_);by_cases F:(pendingOf Y).size>1
     ·rw[if_pos F];obtain⟨u,v,o,eo⟩:∃u v o,(pendingOf Y)[(pendingOf Y).size-2]? = some (u,v,o):=⟨_,_,_,getElem?_pos (pendingOf Y) _ (by omega)⟩;rw[eo];dsimp only;split
      ·exact am ⟨rfl,P,V⟩
      ·refine ai (GC B P l1 (by omega) λr W5 _ l=>?_);refine jH (by decide) ?_;exact am ⟨rfl,W5,V.same λj j1 _=>K_congr (l j j1)⟩
     ·rw[if_neg F];exact am ⟨rfl,P,V⟩
    case p2=>
     rintro c Y ⟨rfl,P,V⟩;refine ai (bE (ai (bE (am ⟨_,rfl,n2,by omega,?_⟩))));exact(P.pow).push n1 V
   ·exact ai (bE (am ⟨_,rfl,n2,by omega,O.push n1 U⟩))
 case p1=>
  rintro c M ⟨rfl,T⟩;dsimp only;have lp:=T.runs.le;rw[aY]at lp;refine ai (bj (aS (I:=λy c Z=>c=(none,())/\(W C) st Z (arrOf st).size/\((pendingOf Z).size<=1\/(pendingOf Z).size+y<=(arrOf st).size)) (Q:=λc Z=>c=(none,())/\(W C) st Z (arrOf st).size/\(pendingOf Z).size<=1) ?s3 ?f3 ⟨rfl,T,.inr (by omega)⟩) ?p3)
  case f3=>
   rintro c Z ⟨rfl,X,q⟩;exact⟨rfl,X,by omega⟩
  case s3=>
   rintro y c Z _ e ⟨rfl,X,q⟩;refine ai (ce ?_);by_cases J:(pendingOf Z).size<=1
   ·refine jL J ?_;exact am ⟨rfl,X,J⟩
   refine jH J ?_;split
   all_goals
    refine ai (GC B X (aB _) (by split<;>omega) λN O q3 _=>?_);refine jH (by decide) ?_;exact am ⟨rfl,O,.inr (by omega)⟩
  case p3=>
   rintro c Z ⟨rfl,X,q⟩;refine am (h Z X.perm X.failed ?_);have S:=X.runs;have p:(pendingOf Z).toList.length<=1:=by rwa[aY]
   match hps:(pendingOf Z).toList,S,p with
   |[],S,_=>
    have:0=(arrOf st).size:=S;omega
   |[(a,b,d)],S,_=>
    obtain⟨_,_,G,L⟩:=S;have L:=L;rw[L]at G;exact λi j f j1=>G i j (cH _) f j1
end
end
end Sq
namespace XJ
open PySem.W L2 My D3
theorem yC:∀a:List Int,pP a a=false
 |[]=>rfl
 |x::xs=>by simp[pP,yC xs]
theorem Dw:∀{a b c:List Int},pP a b=true->pP b c=true->pP a c=true
 |[],[],_,h,_=>by cases h
 |[],_::_,[],_,h=>by cases h
 |[],_::_,_::_,_,_=>rfl
 |_::_,[],_,h,_=>by cases h
 |_::_,_::_,[],_,h=>by cases h
 |x::xs,y::ys,z::zs,h1,h2=>by
  simp only[pP]at h1 h2 ⊢;by_cases Z:x=y
  ·subst Z;rw[if_pos rfl]at h1;by_cases e2:x=z
   ·subst e2;rw[if_pos rfl]at h2 ⊢;exact Dw h1 h2
   ·rw[if_neg e2]at h2 ⊢;exact h2
  ·rw[if_neg Z]at h1;have h1:=of_decide_eq_true h1;by_cases e2:y=z
   ·subst e2;rw[if_neg Z];exact dTr h1
   ·rw[if_neg e2]at h2;have h2:=of_decide_eq_true h2;rw[if_neg (by omega)];exact dTr (by omega)
theorem yD:∀{a b:List Int},a≠b->pP a b=true\/pP b a=true
 |[],[],h=>absurd rfl h
 |[],_::_,_=>.inl rfl
 |_::_,[],_=>.inr rfl
 |x::xs,y::ys,h=>by
  simp only[pP];by_cases e:x=y
  ·subst e;rw[if_pos rfl,if_pos rfl];exact yD λz=>h (by rw[z])
  ·rw[if_neg e,if_neg (fA e)];by_cases l:x<y
   ·exact .inl (dTr l)
   ·exact .inr (dTr (by omega))
def MP(k:List Int):List (List Int)->List (List Int)
 |[]=>[k]
 |q::r=>if pP k q=true then k::q::r else q::MP k r
def dR(ks:List (List Int)):List (List Int):=ks.foldr MP []
theorem zT(k:List Int):∀l:List (List Int),(MP k l).Perm (k::l)
 |[]=>.refl _
 |q::r=>by
  unfold MP;split
  ·exact .refl _
  ·exact((zT k r).cons q).trans (.swap k q r)
theorem cU:∀ks:List (List Int),(dR ks).Perm ks
 |[]=>.refl _
 |k::r=>(zT k _).trans ((cU r).cons k)
abbrev LL(a b:List Int):Prop:=pP a b=true
theorem QK(k:List Int):∀l:List (List Int),l.Pairwise LL->¬k∈l->(MP k l).Pairwise LL
 |[],_,_=>gH _ _
 |q::r,h,Y=>by
  have h':=bJ.mp h;unfold MP;split
  ·next z=>
   refine bJ.mpr ⟨λy Z=>?_,h⟩;rcases aK.mp Z with rfl|Z
   ·exact z
   ·exact Dw z (h'.1 y Z)
  ·next z=>
   have ne:q≠k:=λe=>Y (by rw[e];exact ak)
   have X:pP q k=true:=(yD ne).resolve_right z;refine bJ.mpr ⟨λy Z=>?_,QK k r h'.2 λe=>Y (au _ e)⟩;rcases aK.mp ((zT k r).mem_iff.mp Z)with rfl|Z
   ·exact X
   ·exact h'.1 y Z
theorem vV:∀{ks:List (List Int)},ks.Nodup->(dR ks).Pairwise LL
 |[],_=>.nil
 |k::r,h=>QK k _ (vV (b_.mp h).2) λz=>(b_.mp h).1 ((cU r).mem_iff.mp z)
theorem wR:∀{l m:List (List Int)},l.Perm m->l.Pairwise LL->m.Pairwise LL->l=m
 |[],m,h,_,_=>(List.nil_perm.mp h).symm
 |a::l,[],h,_,_=>absurd (ug.mp h) (by simp)
 |a::l,b::m,h,h1,h2=>by
  have p1:=bJ.mp h1;have p2:=bJ.mp h2;have e:a=b:=by
   rcases aK.mp (h.mem_iff.mp (ak (a:=a) (l:=l)))with z|z
   ·exact z
   rcases aK.mp (h.symm.mem_iff.mp (ak (a:=b) (l:=m)))with y|y
   ·exact y.symm
   have:=Dw (p1.1 b y) (p2.1 a z);rw[yC]at this
   cases this
  subst e;rw[wR (List.perm_cons a |>.mp h) p1.2 p2.2]
def rk(ks:List (List Int))(k:List Int):Nat:=ks.countP λq=>pP q k
theorem GD{p q:List Int->Bool}(h:∀x,p x=true->q x=true):∀{l:List (List Int)}{a:List Int},a∈l->q a=true->p a=false->l.countP p<l.countP q
 |[],_,ha,_,_=>by cases ha
 |x::r,a,ha,h1,h2=>by
  rw[List.countP_cons,List.countP_cons];have m:r.countP p<=r.countP q:=List.countP_mono_left λy _=>h y
  rcases aK.mp ha with rfl|ha
  ·rw[h1,h2,if_pos rfl,if_neg aX];omega
  ·have:=GD h ha h1 h2;by_cases z:p x=true
   ·rw[if_pos z,if_pos (h x z)];omega
   ·rw[if_neg z];split<;>omega
theorem QL{ks:List (List Int)}{a b:List Int}(ha:a∈ks)(h:pP a b=true):rk ks a<rk ks b:=GD (λ_ z=>Dw z h) ha h (yC a)
theorem Yy{ks:List (List Int)}{a b:List Int}(ha:a∈ks)(B:b∈ks):decide ((rk ks a:Int)<(rk ks b:Int))=pP a b:=by
 by_cases e:a=b
 ·subst e;rw[yC];exact dFa (by omega)
 ·cases q:pP a b with
  |true=>have:=QL ha q;exact dTr (by omega)
  |false=>
   have:=QL B ((yD e).resolve_left (by rw[q];exact aX));exact dFa (by omega)
end XJ
variable{ky:Addr->List Int}
namespace XJ
open PySem.W L2 My D3 XK XT XD XS
section
variable{prog:e9}{w:fy}{A:fm}{E:Value->eS->Prop}{s:eS}
theorem Kw{fin:Bool}:∀(a b:List Int)(u v:List Value)(i:Nat),gS u a->gS v b->(fin=decide (a.length<b.length))->C (pP a b) s->KatLex prog w A true fin C (u.zip v) i s
 |[],[],_,_,_,.nil,.nil,Z,q=>by
  refine kat_nil ?_;rwa[Z]
 |[],y::ys,_,_,_,.nil,.cons _ _ _,Z,q=>by
  refine kat_nil ?_;rwa[Z,dTr (by simp)]
 |x::xs,[],_,_,_,.cons _ _ _,.nil,Z,q=>by
  refine kat_nil ?_;rwa[Z,dFa (by simp)]
 |x::xs,y::ys,_,_,i,.cons _ V h1,.cons _ X h2,Z,q=>by
  refine kat_cons (ck (kat_go (λe=>?_) λe=>?_))
  ·have e:=beq_iff_eq.mp e;subst e;refine kat_yes (Kw xs ys _ _ (i+1) h1 h2 (by rw[Z];simp) ?_);simpa[pP]using q
  ·have e:x≠y:=by
    intro z;subst z;simp at e
   have Y:C (decide (x<y)) s:=by simpa[pP,e]using q
   refine kat_no ?_
   cases i with
   |zero=>exact oneLt_int Y
   |succ i=>exact kat_one _ _ (lt_int (by simpa[PySem.W.BoolBack]using Y))
theorem Yz{x y:Addr}{a b:List Int}{u v:List Value}(J:g9 s.heap x u.toArray)(D:g9 s.heap y v.toArray)(hu:gS u a)(B:gS v b)(q:C (pP a b) s):wpAny (model prog w) A (keyLt' (tuples' true) (.ref x) (.ref y)) C E s:=by
 obtain⟨W,ex,_,nx,dx⟩:=J;obtain⟨X,Z,_,V,Y⟩:=D;refine kat_lt ex dx Z Y ?_;have:=Kw (prog:=prog) (w:=w) (A:=A) (s:=s) (fin:=decide (u.toArray.size<v.toArray.size)) (C:=C) a b u v 0 hu B (by rw[aM,aM,hu.length,B.length]) q;simpa using this
end
section
variable{prog:e9}{w:fy}{A:fm}{E:Value->eS->Prop}{s:eS}
def GF(bs:List Addr)(ky:Addr->List Int):Sq.Cq:=⟨λx=>match x.1 with
    | .ref b=>(rk (bs.map ky) (ky b):Int)
    |_=>0,λx=>∃b∈bs,x.1 = .ref b,tuples' true⟩
theorem YB{bs:List Addr}(B:∀b∈bs,∃u:List Value,g9 s.heap b u.toArray/\gS u (ky b)):Sq.LtOk prog w A s (GF bs ky):=⟨λ{x y Q E} T U h=>by
 obtain⟨b,Y,X⟩:=T;obtain⟨c,Z,e2⟩:=U;obtain⟨u,V,i1⟩:=B b Y;obtain⟨v,W,i2⟩:=B c Z;have n1:(GF bs ky).nu x=(rk (bs.map ky) (ky b):Int):=by unfold GF;dsimp only;rw[X]
 have n2:(GF bs ky).nu y=(rk (bs.map ky) (ky c):Int):=by unfold GF;dsimp only;rw[e2]
 rw[n1,n2]at h;rw[Yy (fU Y) (fU Z)]at h;rw[X,e2];exact Yz V W i1 i2 h⟩
theorem vK{B:f8}:∀bs:List Addr,(∀b∈bs,ky b≠[]/\∃u:List Value,g9 B b u.toArray/\gS u (ky b))->∃fs,KatTups B (bs.map eW) fs/\fs.length=bs.length/\∀v∈fs,∃i t,v = .int i t
 |[],_=>⟨[],trivial,rfl,λ_ h=>by cases h⟩
 |b::bs,h=>by
  obtain⟨fs,f1,f2,f3⟩:=vK bs λc X=>h c (au _ X)
  obtain⟨Y,u,⟨o,g1,g2,n,g3⟩,hu⟩:=h b ak;generalize ky b=W at hu Y
  cases hu with
  |nil=>exact absurd rfl Y
  |cons x t hu=>
   refine⟨.int x t::fs,⟨⟨_,o,_,n,rfl,g1,g2,g3,rfl⟩,f1⟩,by simp[f2],λv Z=>?_⟩;rcases aK.mp Z with rfl|Z
   ·exact⟨_,_,rfl⟩
   ·exact f3 v Z
theorem GJ:∀bs:List Addr,(bs.map eW).zip (bs.map eW)=bs.map λc=>(eW c,eW c)
 |[]=>rfl
 |b::r=>by rw[aF,oJ,GJ r,aF]
theorem M4{bs:List Addr}{P:PySem.Fin->eS->Prop}(D:s.heap.get? a=some (seqObj "list" (bs.map eW).toArray n))(h2:2<=bs.length)(hz:bs.length<=1000)
 (ht:∀b∈bs,ky b≠[]/\∃u:List Value,g9 s.heap b u.toArray/\gS u (ky b)) (nd:(bs.map ky).Nodup)
 (h:∀B:List Addr,B.Perm bs->B.map ky=dR (bs.map ky)->P (.done (.ret .none)) {s with heap:=sortedHeap s.heap a (bs.map eW) (B.map eW).toArray}):wpAny (model prog w) A (hJ.«list.sort» ⟨[.ref a],[]⟩) P E s:=by
 have M:=af D;have vl:(bs.map eW).length=bs.length:=aq _;have l:(bs.map eW).length<=sizeLine:=by rw[vl,da];omega
 rw[list_sort_plain];refine aa (listItems_at D rfl (aa (di D rfl ?_)));obtain⟨e,h1⟩:∃e,(s.heap.update a (fI λ_=>#[])).get? a=some (seqObj "list" #[] e):=⟨_,eC D λ_=>#[]⟩;refine aa (ew h1 rfl (aa (eI (aa (bv (ap ?_))))));have old:∀b o,b≠a->s.heap.get? b=some o->(((s.heap.update a (fI λ_=>#[])).push (seqObj "tuple" (bs.map eW).toArray 0)).push (seqObj "list" #[] 0)).get? b=some o:=λb o Z e=>by
  have W:=af e;rw[b5 _ _ _ (by rw[cK,aI];exact aP (gF W)),b5 _ _ _ (by rw[aI];exact aP W),bu _ _ _ _ Z,e]
 have J:(((s.heap.update a (fI λ_=>#[])).push (seqObj "tuple" (bs.map eW).toArray 0)).push (seqObj "list" #[] 0)).get? a=some (seqObj "list" #[] e):=by
  rw[b5 _ _ _ (by rw[cK,aI];exact aP (gF M)),b5 _ _ _ (by rw[aI];exact aP M),h1]
 have X:∀b∈bs,ky b≠[]/\∃u:List Value,g9 (((s.heap.update a (fI λ_=>#[])).push (seqObj "tuple" (bs.map eW).toArray 0)).push (seqObj "list" #[] 0)) b u.toArray/\gS u (ky b):=λb Z=>by
  obtain⟨q,u,⟨o,g1,g2,g3⟩,hu⟩:=ht b Z;refine⟨q,u,⟨o,old b o (λz=>?_) g1,g2,g3⟩,hu⟩;rw[z,D]at g1
  cases g1;exact absurd g2 (by simp[seqObj])
 have H:¬(bs.map eW).toArray.size<2:=by rw[aM,vl];omega
 rw[if_neg H,if_neg H];obtain⟨fs,f1,f2,f3⟩:=vK bs X;refine aa (kat_kind (T:=.type "int") f1 (by omega) (λv y=>?_) rfl ?_)
 ·obtain⟨i,t,rfl⟩:=f3 v y;exact λA Q E s _ q=>ae q
 haveI:=YB (prog:=prog) (w:=w) (A:=A) (s:={s with heap:=((s.heap.update a (fI λ_=>#[])).push (seqObj "tuple" (bs.map eW).toArray 0)).push (seqObj "list" #[] 0)}) (ky:=ky) λb Z=>(X b Z).2
 have ps:(pairsOf (bs.map eW)).size=bs.length:=by rw[pairsOf_size,vl]
 refine aa (a5 (Sq.QJ (C:=GF bs ky) (st:=SortSt.mk' (tuples' true) (pairsOf (bs.map eW)) #[] 7 none)
  (Q:=λ_ st'=>(arrOf st').Perm (pairsOf (bs.map eW))/\failedOf st'=none/\Sq.STo (GF bs ky) (arrOf st') (pairsOf (bs.map eW)).size) rfl rfl rfl (λp S=>?ok) (by show 2<=(pairsOf _).size;rwa[ps]) λst' m r x=>⟨m,r,x⟩) ?_ λ_ _ q=>q)
 case ok=>
  have S:p∈(bs.map eW).zip (bs.map eW):=by rwa[<-pairsOf_toList]
  obtain⟨b,Z,e⟩:=bK.mp (nF S).1;exact⟨b,Z,e.symm⟩
 rintro⟨⟨⟩,st'⟩ s' ⟨rfl,q1,q2,G⟩;have O:(arrOf st').toList.Perm ((bs.map eW).zip (bs.map eW)):=by rw[<-pairsOf_toList];exact dX.mp q1
 obtain⟨B,I,Y⟩:∃B:List Addr,(arrOf st').toList=B.map (λc=>(eW c,eW c))/\B.Perm bs:=by
  have zz:=GJ bs;rw[zz]at O;refine⟨(arrOf st').toList.map (λp=>match p.1 with
   | .ref c=>c
   |_=>0),?_,?_⟩
  ·rw[cZ]
   conv=>lhs;rw[<-xr (arrOf st').toList]
   refine eO λp S=>?_
   obtain⟨c,_,rfl⟩:=bK.mp (O.mem_iff.mp S);rfl
  ·have:=O.map (λp:Value×Value=>match p.1 with
    | .ref c=>c
    |_=>0)
   refine this.trans (.of_eq ?_);rw[cZ]
   conv=>rhs;rw[<-xr bs]
   rfl
 have outs:(arrOf st').map (·.2)=(B.map eW).toArray:=by
  apply pX.mp;rw[Array.toList_map,I,cZ];rfl
 have cl:=Y.length_eq;have sz:((arrOf st').map (·.2)).size<=sizeLine:=by rwa[outs,aM,aq,cl,<-vl]
 refine aa (ew J rfl (aa (di J rfl ?_ (hsz2:=uZ sz))));rw[q2];simp only[bne_self_eq_false,f9,if_false];rw[outs];refine ae (h B Y (wR ((Y.map ky).trans (cU _).symm) ?_ (vV nd)));have R:(B.map ky).Nodup:=(Y.map ky).nodup_iff.mpr nd;rw[dj];intro i j hi K U;have N:i<B.length:=by simpa using hi
 have V:j<B.length:=by simpa using K
 have L:∀i,(h:i<B.length)->Sq.KC (GF bs ky) (arrOf st') i=(rk (bs.map ky) (ky B[i]):Int):=λi h=>by
  have e:(arrOf st')[i]? = some (eW B[i],eW B[i]):=by
   rw[<-bW,I,aU,aA h];rfl
  unfold Sq.KC;rw[e];rfl
 have le:=G i j (cG U) (by rw[ps];omega);rw[L i N,L j V]at le;rw[i_,i_];have F:ky B[j]∈bs.map ky:=fU (Y.mem_iff.mp (cV V));have ne:=λz=>by
  have:=(dj.mp R) i j hi K U;rw[i_,i_]at this;exact this z
 refine(yD ne).resolve_right λz=>?_
 have:=QL F z;omega
end
end XJ
namespace XJ
open D3
def jh:List D->Option D
 |[x]=>(oR x).bind λks=>if ks.length<=1000/\(ks.all λk=>!k.isEmpty)=true then some (.list ((dR ks).map rwD))else none
 |_=>none
def mJ:List D->Option D
 |[x]=>(oR x).map λks=>.int (ks.length:Int)
 |_=>none
end XJ
namespace XJ
open PySem.W L2 My D3 XK XT XD XS
section
variable{X:Cx}{fl:List Fl}{e:Expr}{pos:Pos}
theorem Ky{K:Type}:∀{kvs:List (List L2.Key×V)}{xs:List (List L2.Key×Addr×Value)}{ks:List (List Int)},KT H kvs xs->kvs.map (·.1)=ks.map (λk=>k.map fo)->∀(j:Nat)(b:Addr)(k:List Int),(xs.map (·.2.1))[j]? = some b->ks[j]? = some k->H b=some (.tup (k.map V.int))
 |_,_,[],.nil,_,j,b,k,h,_=>by simp at h
 |_,_,_::_,.nil,Z,_,_,_,_,_=>by simp at Z
 |_,_,[],.cons _ _,Z,_,_,_,_,_=>by simp at Z
 |_,_,Y::ks,.cons (a:=p) (b:=q) h t,Z,0,b,k,h1,h2=>by
  simp at Z h1 h2;obtain⟨X,_⟩:=Z;subst h1 h2;have:=h.2.1;rw[X]at this;rw[this,vN]
 |_,_,Y::ks,.cons (a:=p) (b:=q) h t,Z,j+1,b,k,h1,h2=>by
  simp at Z;exact Ky (K:=K) t (by simpa using Z.2) j b k (by simpa using h1) (by simpa using h2)
theorem BR:∀{kvs:List (List L2.Key×V)}{xs:List (List L2.Key×Addr×Value)},KT H kvs xs->xs.map (·.1)=kvs.map (·.1)
 |_,_,.nil=>rfl
 |_,_,.cons h t=>by rw[aF,aF,BR t,h.1]
def vI:V->Int
 | .int i=>i
 |_=>0
def kyH(H:Hp)(b:Addr):List Int:=match H b with
 |some (.tup xs)=>xs.map vI
 |_=>[]
theorem QM{k:List Int}(h:H b=some (.tup (k.map V.int))):kyH H b=k:=by
 unfold kyH;rw[h];dsimp only;rw[cZ]
 conv=>rhs;rw[<-xr k]
 rfl
theorem Dy(D:X.calm=true):lG X (.builtin "sorted") (λxs H Q=>∃(p:Addr)(kvs:List (List L2.Key×V))(ks:List (List Int)),xs=[.ref p]/\L2.Rd H p (.dT kvs)/\kvs.map (·.1)=ks.map (λk=>k.map fo)/\ks.length<=1000/\(∀k∈ks,k≠[]) /\
 ∀(l:Addr)(B:List Addr),H l=none->(∀c∈B,H c=some (.tup ((kyH H c).map V.int)))->B.map (kyH H)=dR ks->Q (.ref l) (upd H l (.lst (B.map V.ref)))):=by
 intro pins s σ H xs us Q I r h;obtain⟨p,kvs,ks,rfl,hx,J,R,L,q⟩:=h;obtain⟨u,rfl,rx⟩:=vals1 r
 cases rx;obtain⟨_,hd,ents,rel,dd⟩:=xR I.hok hx;obtain⟨o,es,ep,h1,h2,G,h4,h5,h6⟩:=dd;have M:TD.wO s.heap p es ep:=⟨o,h1,h2,G⟩;have le:ents.length=ks.length:=by
  have a:=Paired.length rel;have b:=congrArg m8 J;rw[aq,aq]at b;omega
 have ez:es.size=ks.length:=by rw[<-aY,h4,aq,le]
 have bl:(ents.map (·.2.1)).length=ks.length:=by rw[aq,le]
 have d:=Ky (K:=Unit) rel J;refine bb eA dL dP (args_sorted1 _) ?_;unfold hJ.«sorted»;refine aa (m:=checkCount "sorted" 1 1 _) (ae ?_);refine aa (PySem.W.kdu_collect (A:=X.A.in1) (TD.U7 (es:=es) (ep:=ep) hd) (I.ok.hd D) M (by rw[ez];exact aW R (by decide)) λh' tk acc hk T=>?_);have ea:acc.toList=(ents.map (·.2.1)).map eW:=by
  apply dN;intro j
  cases ej:acc.toList[j]? with
  |none=>
   have:acc.toList.length<=j:=List.getElem?_eq_none_iff.mp ej;rw[aY,T.1,ez,<-bl]at this;rw[aZ (by rwa[aq])]
  |some v=>
   obtain⟨e,U,rfl⟩:=T.2 j v (by rwa[<-bW]);rw[<-bW,h4,aU]at U;rw[cZ,aU]
   cases ex:ents[j]? with
   |none=>rw[ex]at U;cases U
   |some x=>rw[ex]at U;cases U;rfl
 have N:L2.Inv X pins σ H {s with heap:=h',toks:=tk}:=I.kept hk;generalize hB:ents.map (·.2.1)=bs at *;rw[ea];have vl:(bs.map eW).length=ks.length:=by rw[aq,bl]
 have hn:=N.hok.fresh (aB _);have bk:∀b∈bs,H b=some (.tup ((kyH H b).map V.int))/\kyH H b∈ks:=λb hm=>by
  obtain⟨j,g⟩:=fu hm;have t:j<ks.length:=by rw[<-bl];exact(fW.mp g).1
  have z:=d j b ks[j] g (aA t);rw[QM z];exact⟨z,cV t⟩
 have bm:bs.map (kyH H)=ks:=by
  apply List.ext_getElem
  ·rw[aq,bl]
  ·intro j g1 g2;rw[i_];have l1:j<bs.length:=by rwa[bl]
   exact QM (d j _ _ (aA l1) (aA g2))
 have nd:(bs.map (kyH H)).Nodup:=by
  rw[bm];rw[BR rel,J]at h6;exact(gM.mp h6).imp λz y=>z (by rw[y])
 refine aa (bv ?_ (by rw[vl];exact aW R (by decide)));have Z:(h'.push (seqObj "list" (bs.map eW).toArray 0)).get? h'.objs.size=some (seqObj "list" (bs.map eW).toArray 0):=ag _ rfl;have S:∀(B:List Addr)(h2:f8)(c:Nat),B.length<=1000->h2.get? h'.objs.size=some (seqObj "list" (B.map eW).toArray c)->gA X.prog X.w (upd H h'.objs.size (.lst (B.map V.ref))) h2 h'.objs.size (.lst (B.map V.ref)):=λB h2 c n f=>by
  refine⟨by rw[aq];exact aW n (by decide),_,c,?_,f⟩;clear f n
  induction B with
  |nil=>exact .nil
  |cons i l ih=>exact .cons rfl ih
 refine aa (ap (ar c_ ⟨_,Z,rfl⟩ cz ?body (eL _)))
 case body=>
  by_cases h2:2<=bs.length
  ·refine M4 (ky:=kyH H) Z h2 (by rwa[bl]) (λb hm=>⟨L _ (bk b hm).2,?_⟩) nd λB C ec=>⟨_,rfl,ae ⟨_,rfl,?_⟩⟩
   ·obtain⟨its,rr,⟨o,g1,g2,g3⟩,_⟩:=N.tuple (.inl (.inl (bk b hm).1));exact⟨its,⟨o,ad _ g1,g2,g3⟩,sI rr⟩
   ·obtain⟨c,U⟩:=sortedHeap_at (out:=(B.map eW).toArray) Z;have O:=N.laid (h':=sortedHeap (h'.push (seqObj "list" (bs.map eW).toArray 0)) h'.objs.size (bs.map eW) (B.map eW).toArray) (t':=tk) (a:=h'.objs.size) (o:=.lst (B.map V.ref)) (λb u e=>by
     have Y:=af e;rw[eJ (aP Y) (by rw[cK];exact gF Y)];exact ad _ e) (aB _) (S B _ c (by rwa[C.length_eq,bl]) U)
    exact⟨.ref _,_,O,rfl,q _ B hn (λc D=>(bk c (C.mem_iff.mp D)).1) (by rw[ec,bm])⟩
  ·have E:=q _ bs hn (λc D=>(bk c D).1);have F:bs.length=0\/bs.length=1:=by omega
   rcases F with h0|h1
   ·have P:=bL.mp (by omega);subst P;refine list_sort_tree (ns:=[]) Z .nil (by decide) λout ns' a1 a2 a3=>⟨_,rfl,ae ⟨_,rfl,?_⟩⟩
    obtain rfl:=ug.mp a2;have oe:=bL.mp a1.length;obtain⟨c,U⟩:=sortedHeap_at (out:=out) Z;have O:=N.laid (h':=sortedHeap (h'.push (seqObj "list" (([]:List Addr).map eW).toArray 0)) h'.objs.size (([]:List Addr).map eW) out) (t':=tk) (a:=h'.objs.size) (o:=.lst (([]:List Addr).map V.ref)) (λb u e=>by
     have Y:=af e;rw[eJ (aP Y) (by rw[cK];exact gF Y)];exact ad _ e) (aB _) (S [] _ c (by decide) (by
      have:out = #[]:=pX.mp oe;rw[this]at U ⊢;exact U))
    exact⟨.ref _,_,O,rfl,E (by rw[<-bm];rfl)⟩
   ·obtain⟨P,rfl⟩:=qy.mp h1;refine Ge (v:=.ref P) Z λG c k e=>⟨_,rfl,ae ⟨_,rfl,?_⟩⟩
    have O:=N.laid (h':=G) (t':=tk) (a:=h'.objs.size) (o:=.lst ([P].map V.ref)) (λb u e=>k b u (aP (af e)) (ad _ e)) (aB _) (S [P] _ c (show 1<=1000 by decide) e);exact⟨.ref _,_,O,rfl,E (by rw[<-bm];rfl)⟩
end
end XJ
namespace XJ
open PySem.W L2 My D3 XK XT XD XS
theorem Kz{ks:List (List L2.Key×V)}(h:TTs H ks (ttP S)):ks.map (·.1)=(S.map (·.1)).map λk=>k.map fo:=by
 induction S generalizing ks with
 |nil=>cases h;rfl
 |cons q S X=>
  generalize Z:ttP (q::S)=g at h
  cases h with
  |nil=>cases Z
  |cons t r=>
   rename_i Y m z v T U;have Z:(rwD q.1,ttV q.2)::ttP S=_:=Z;injection Z with h1 h2
   injection h1 with h1 R
   have W:q.1=Y:=by
    have:=congrArg (λd=>zJ d) h1;simpa[rwD,zJ,oh]using this
   subst W;rw[aF,aF,aF,X (h2▸r)]
theorem vW{ok:Ok}{x:D}{S:List (List Int)}(e:oR x=some S)(r:RA K ok pl H v x):∃a,v = .ref a/\((S=[]/\L2.Rd H a (.dK []))\/(S≠[]/\∃kvs,L2.Rd H a (.dT kvs)/\kvs.map (·.1)=S.map λk=>k.map fo)):=by
 cases x with
 |dict kvs=>
  unfold oR at e;dsimp only at e
  cases Z:yc kvs with
  |some T=>
   rw[Z]at e
   cases e;obtain⟨a,rfl,h⟩:=Kq (x:=.dict kvs) Z r;refine⟨a,rfl,?_⟩;rcases h with⟨rfl,h⟩|⟨q,ks,h,t⟩
   ·exact .inl ⟨rfl,h⟩
   ·exact .inr ⟨(λz=>by
     have:=Kz t;rw[z]at this
     cases this),_,h,Kz t⟩
  |none=>
   rw[Z]at e;have e:tsD kvs=some S:=e;by_cases Y:S=[]
   ·subst Y
    cases kvs with
    |nil=>cases Z
    |cons q X=>
     exfalso
     unfold tsD at e;split at e
     ·next z=>cases z
     ·refine D3.ex1 (bind1 e) λk _ e2=>?_
      cases W:tsD X with
      |none=>simp_all
      |some V=>simp_all
     ·cases e
   ·obtain⟨a,rfl,h⟩:=U6 (x:=.dict kvs) e Y r;refine⟨a,rfl,.inr ⟨Y,_,h,?_⟩⟩;unfold dtI;rw[cZ];rfl
 |_=>cases e
section
variable{X:Cx}{fl:List Fl}{e:Expr}{pos:Pos}
theorem vX(D:X.calm=true){fa:FA}{p:Pos}(ha:DB X fl .P [e] fa)(J:Gl X "sorted")(hm:X.mg "sorted"=none)
 (he:starEach [e] X.env=(false,eval e X.env)::starEach [] X.env:=by rfl) (B:(backTo pos (starEach [] X.env)).any (·.1)=false:=by rfl):DE X fl .FC (.Call (.Name "sorted" p) [e] [] pos) (dCall jh fa):=by
 have bs:bootBuiltins "sorted"=some (.builtin "sorted"):=by decide +kernel
 intro pins s σ H Q I h;refine D3.ex4 h λG ow δ d R y q=>?_
 refine D3.ex1 (bind1 y) λds E e2=>?_
 unfold jh at e2;split at e2
 case h_2=>cases e2
 next x=>
 refine D3.ex1 (bind1 e2) λks F U=>?_
 by_cases W:ks.length<=1000/\(ks.all λk=>!k.isEmpty)=true
 case neg=>rw[if_neg W]at U;cases U
 rw[if_pos W]at U
 cases U;by_cases L:ks=[]
 ·subst L;refine nq (XB.Dr D) J hm bs ha (by decide) (by decide) he B pins s σ H Q I ⟨G,ow,δ,_,R,E,λvs H' sm r'=>?_⟩
  cases r' with
  |cons O S=>
   cases S;obtain⟨a,rfl,Y⟩:=vW F O;have Y:L2.Rd H' a (.dK []):=by
    rcases Y with⟨_,h⟩|⟨z,_⟩
    ·exact h
    ·exact absurd rfl z
   exact⟨a,[],[],rfl,Y,rfl,by decide,λl hn=>q _ _ (sm.trans (cM hn _)) (.inr ⟨_,_,_,rfl,rfl,sm.free hn,bT,.nil⟩)⟩
 ·refine nq (Dy D) J hm bs ha (by decide) (by decide) he B pins s σ H Q I ⟨G,ow,δ,_,R,E,λvs H' sm r'=>?_⟩
  cases r' with
  |cons O S=>
   cases S;obtain⟨a,rfl,Y⟩:=vW F O;rcases Y with⟨z,_⟩|⟨_,kvs,h,w⟩
   ·exact absurd z L
   refine⟨a,kvs,ks,rfl,h,w,W.1,λk N=>?_,λl T hn M K=>q _ _ (sm.trans (cM hn _)) (.inr ⟨_,_,_,rfl,rfl,sm.free hn,bT,?_⟩)⟩
   ·have:=cQ.mp W.2 k N;intro z;subst z
    cases this
   ·rw[<-K,cZ];have Z:∀c∈T,upd H' l (.lst (T.map V.ref)) c=some (.tup ((kyH H' c).map V.int)):=λc D=>cM hn _ _ _ (M c D)
    generalize upd H' l (.lst (T.map V.ref))=v at Z;clear K M
    induction T with
    |nil=>exact .nil
    |cons i is C=>exact .cons (.tup (Z i ak) (pD _)) (C λj A=>Z j (au _ A))
theorem M5:lG X (.builtin "len") (λxs H Q=>∃(p:Addr),xs=[.ref p]/\((∃kvs,L2.Rd H p (.dK kvs)/\Q (.int kvs.length) H)\/∃kvs,L2.Rd H p (.dT kvs)/\Q (.int kvs.length) H)):=by
 intro pins s σ H xs us Q I r h;obtain⟨p,rfl,h⟩:=h;obtain⟨u,rfl,W⟩:=vals1 r
 cases W;rcases h with⟨kvs,Z,q⟩|⟨kvs,Z,q⟩
 ·exact ac3 I Z λt s' S=>⟨.int _,H,S,⟨t,rfl⟩,q⟩
 ·obtain⟨z,hd,ents,rel,T⟩:=xR I.hok Z;obtain⟨o,es,ep,h1,h2,U,V,_,_⟩:=T;have Y:es.size=kvs.length:=by rw[<-aY,V,aq,(Paired.length rel).symm]
  refine TD.U8 hd ⟨o,h1,h2,U⟩ (by rw[Y];rw[da]at z;omega) λt tk=>?_
  rw[Y];exact⟨.int _,H,I.tok tk,⟨t,rfl⟩,q⟩
theorem DK(ha:DB X fl .P [e] fa)(D:Gl X "len")(hm:X.mg "len"=none)
 (J:starEach [e] X.env=(false,eval e X.env)::starEach [] X.env:=by rfl) (B:(backTo pos (starEach [] X.env)).any (·.1)=false:=by rfl):DE X fl .FC (.Call (.Name "len" p) [e] [] pos) (dCall mJ fa):=
 PE.imp (nq M5 D hm (show bootBuiltins "len"=some (.builtin "len")by decide +kernel) ha (by decide) (by decide) J B) λσ H Q h=>by
 refine D3.ex4 h λG ow δ d R U q=>?_
 refine D3.ex1 (bind1 U) λds S e2=>?_
 refine⟨G,ow,δ,ds,R,S,λvs H' s r'=>?_⟩;unfold mJ at e2;split at e2
 case h_2=>cases e2
 next x=>
 cases Z:oR x with
 |none=>rw[Z]at e2;cases e2
 |some ks=>
  rw[Z]at e2
  cases e2
  cases r' with
  |cons W Y=>
   cases Y;obtain⟨a,rfl,V⟩:=vW Z W;rcases V with⟨rfl,h⟩|⟨_,kvs,h,T⟩
   ·exact⟨a,rfl,.inl ⟨_,h,q _ _ s (.inl ⟨rfl,.int _⟩)⟩⟩
   ·refine⟨a,rfl,.inr ⟨_,h,?_⟩⟩;have:kvs.length=ks.length:=by
     have:=congrArg m8 T;rwa[aq,aq]at this
    rw[this];exact q _ _ s (.inl ⟨rfl,.int _⟩)
end
def ad0(n:Bool):R2:=λx y H Q=>∃p b k,y = .ref p/\x = .ref b/\H b=some (.tup (kE kV k))/\((L2.Rd H p (.dK [])/\Q (.bl n) H)\/∃kvs,L2.Rd H p (.dT kvs)/\Q (.bl (n ^^ (oU kvs k).isSome)) H)
theorem Vc(ok:HOk P w H h)(e:L2.Rd H a (.dK [])):(a==sysModules)=false/\h.DictOfH (tupleKind (cX P w)) a []:=by
 obtain⟨_,hd,vs,rel,o,es,ep,h1,h2,W,U,X,V⟩:=vM ok e
 cases rel;have Y:es.toList=[]:=by
  have:=X.length;exact bL.mp this
 exact⟨hd,o,es,ep,h1,h2,W,Y,(λx Z=>by cases Z),List.nodup_nil⟩
theorem YC(hu:X.A.units+64<cLine):OpR X (compareOp .In) (ad0 false):=by
 intro pins s σ H x y v u Q I Y Z h;obtain⟨p,b,k,rfl,rfl,W,h⟩:=h;rcases h with⟨h,q⟩|⟨kvs,h,q⟩
 ·obtain rfl:u=eW p:=Z;obtain rfl:v=eW b:=Y;obtain⟨hd,V⟩:=Vc I.hok h;exact wpAny_in_heap (ba (by omega)) (uR I.hok W) hd V ⟨.bl false,H,I.tok _,rfl,q⟩
 ·exact Yu hu pins s σ H _ _ v u Q I Y Z ⟨p,oU kvs k,rfl,.inr ⟨_,_,b,h,rfl,W,rfl⟩,by simpa using q⟩
theorem GK:∀{kvs:List (List L2.Key×V)}{S:List (List Int)}(k:List Int),kvs.map (·.1)=S.map (λk=>k.map fo)->(oU kvs (k.map fo)).isSome=decide (k∈S)
 |[],[],k,_=>rfl
 |[],_::_,_,h=>by cases h
 |_::_,[],_,h=>by cases h
 |q::kvs,Z::S,k,h=>by
  rw[aF,aF]at h;injection h with h1 h2
  by_cases e:Z=k
  ·subst e;rw[sV h1];simp
  ·rw[sW (λz=>e (yu (h1.symm.trans z))),GK k h2];have e2:¬k=Z:=λz=>e z.symm
   simp[e2]
theorem ad1:BrO K (ad0 false) Gi:=by
 intro H x y dx P d Q W X e q;refine D3.ex1 (bind1 e) λS R Z=>?_
 cases Y:zJ dx with
 |none=>rw[Y]at Z;cases Z
 |some k=>
  rw[Y]at Z
  cases Z;obtain⟨b,rfl,U⟩:=tQ Y W;obtain⟨a,rfl,V⟩:=vW R X;refine⟨a,b,_,rfl,rfl,U,?_⟩;rcases V with⟨rfl,h⟩|⟨_,kvs,h,T⟩
  ·exact .inl ⟨h,q _ rfl (.bl _)⟩
  ·refine .inr ⟨kvs,h,?_⟩;rw[GK k T,Bool.false_xor];exact q _ rfl (.bl _)
end XJ
namespace XJ
open L2 My D3 XK XT XD
inductive Du:HO->List (List L2.Key×V)->Prop
 |t (kvs:List (List L2.Key×V)):Du (.dT kvs) kvs
 |k:Du (.dK []) []
theorem Du.chg{kvs:List (List L2.Key×V)}(hu:Du u kvs):Chg u:=by cases hu<;>infer_instance
section
variable{X:Cx}{pins:List (Addr×Obj)}{σ:L2.St}{H H':Hp}{s:eS}{a:Addr}{kvs:List (List L2.Key×V)}{o:Obj}{u:HO}(hu:Du u kvs)
include hu
theorem KD(I:L2.Inv X pins σ H s)(h:H a=some u):Qf X a:=
 ⟨λxs z=>(by rw[I.base.tups a xs z]at h;cases h;cases hu),λo u z=>(by rw[I.base.frzs a o u z]at h;cases h;cases hu),λq p z=>(by
  rw[I.base.tbls a q p z]at h;cases h;cases hu)⟩
theorem Vd(I:L2.Inv X pins σ H s)(h:H a=some u)(B:s.heap.get? a=some o):L2.Inv X pins σ (upd H a (.frz o u)) s:=by
 have Z:Mut (H a):=by rw[h];cases hu<;>exact gd
 refine Qg I (KD hu I h) (by rw[h];simp) (λb Y=>bF Y) (I.hok.write Z (.inl rfl) (λ_ _ _ q=>q) ⟨o,B⟩ ⟨B,?_⟩);exact(I.hok a _ h).stay (λ_ _ _ q=>q) (λb q=>by rwa[bF (iR q h (by rintro rfl;cases hu))]) (λb xs q=>by rwa[bF (iR q h (by rintro rfl;cases hu))])
end
theorem QS{σ:L2.St}{o:Obj}(I:L2.Inv X pins σ H s)(hn:Qf X a)(h:H a=some (.frz o u)):L2.Inv X pins σ (upd H a u) s:=by
 have st:∀b v,gA X.prog X.w H s.heap b v->gA X.prog X.w (upd H a u) s.heap b v:=λb v z=>
  z.stay (λ_ _ _ q=>q) (λc q=>by rw[bF (iR q h (by intro z;cases z))];exact q) (λc xs q=>by rw[bF (iR q h (by intro z;cases z))];exact q)
 refine Qg I hn (by rw[h];simp) (λb Z=>bF Z) λb v e=>?_
 by_cases Z:b=a
 ·subst Z;rw[bT]at e
  cases e;exact st _ _ (I.hok b _ h).2
 ·rw[bF Z]at e;exact st b v (I.hok b v e)
def Itt(o:Obj)(a:Addr)(u:HO)(kvs:List (List L2.Key×V)):It:=
 ⟨λi H=>H a=some (.frz o u)/\i<kvs.length,λi H x H'=>H'=H/\∃k v b,kvs[i]? = some (k,v)/\x = .ref b/\H b=some (.tup (kE kV k)),λi H=>H a=some (.frz o u)/\kvs.length<=i⟩
theorem BW{es:Array DictEntry}(h:Pairs (cX P w) es.toList []):es.toList=[]:=bL.mp h.length
theorem QT{σ:L2.St}{kvs:List (List L2.Key×V)}{o:Obj}{es:Array DictEntry}{ep:Nat}(hu:Du u kvs)(I:L2.Inv X pins σ H s)(h:H a=some (.frz o u))(hd:o.data = .dict es ep):
 ∃xs,KT H kvs xs/\TD.wO s.heap a es ep/\es.toList=xs.map (entryOfKey (tupleKind (cX X.prog X.w))):=by
 cases hu
 ·obtain⟨Z,_,_,xs,rel,o',U,T,Y,R,W,S,_⟩:=I.hok a _ h;rw[Z]at Y
  cases Y;rw[hd]at W
  cases W;exact⟨xs,rel,⟨o,Z,R,hd⟩,S⟩
 ·obtain⟨Z,_,_,xs,rel,o',U,T,Y,R,W,_,S,_⟩:=I.hok a _ h;rw[Z]at Y
  cases Y;rw[hd]at W
  cases W
  cases rel;exact⟨[],.nil,⟨o,Z,R,hd⟩,BW S⟩
theorem ad2{kvs:List (List L2.Key×V)}(ok:HOk P w H h)(hu:Du u kvs)(e:L2.Rd H a u):(a==sysModules)=false/\∃B es ep,h.get? a=some B/\B.ExactDict/\B.data = .dict es ep/\es.size=kvs.length:=by
 cases hu
 ·obtain⟨_,lo,vs,rel,B,es,ep,Z,X,hd,Y,_⟩:=xR ok e;exact⟨lo,B,es,ep,Z,X,hd,by rw[<-aY,Y,aq,(Paired.length rel).symm]⟩
 ·obtain⟨_,lo,vs,rel,B,es,ep,Z,X,hd,_,Y,_⟩:=vM ok e
  cases rel;exact⟨lo,B,es,ep,Z,X,hd,by rw[<-aY,BW Y];rfl⟩
theorem QV:∀{kvs:List (List L2.Key×V)}{xs:List (List L2.Key×Addr×Value)},KT H kvs xs->∀{i:Nat}{x:List L2.Key×Addr×Value},xs[i]? = some x->∃k v,kvs[i]? = some (k,v)/\H x.2.1=some (.tup (kE kV k))
 |_,_,.nil,i,x,h=>by simp at h
 |_,_,.cons (a:=p) (b:=q) h t,0,x,Z=>by
  simp at Z;subst Z;exact⟨p.1,p.2,rfl,h.2.1⟩
 |_,_,.cons h t,i+1,x,Z=>QV t (i:=i) (by simpa using Z)
theorem GP(o:Obj)(a it:Addr)(kvs:List (List L2.Key×V)){u:HO}(hu:Du u kvs){es:Array DictEntry}{ep:Nat}(hd:o.data = .dict es ep):Turn P w K tg (Itt o a u kvs) [it] it (λi h=>h.IsKeyIter it a i kvs.length ep) where
 mem:=by simp
 obj:=λi h st b Z=>by
  have e:b=it:=by simpa using Z
  subst e;obtain⟨o,e,c,d⟩:=st;exact⟨o,e,λv z=>by rw[d]at z;cases z⟩
 keep:=λi h h' st k=>by
  obtain⟨o,e,r⟩:=st;exact⟨o,k it (by simp) o e,r⟩
 item:=by
  intro X N hw M D i pins s σ H E I U st Q;subst N hw M;obtain⟨R,hi⟩:=Q;obtain⟨xs,rel,dat,T⟩:=QT hu I R hd;have W:=Paired.length rel;have le:es.size=xs.length:=by rw[<-aY,T,aq]
  obtain⟨G,f1,f2,f3,J,L⟩:=U it (by simp);obtain⟨x,F⟩:∃p,xs[i]? = some p:=⟨xs[i],by simp[W▸hi]⟩;obtain⟨k,v,C,Z⟩:=QV rel F;have O:es[i]? = some (entryOfKey (tupleKind (cX X.prog X.w)) x):=by rw[<-bW,T,aU,F];rfl
  rw[W,<-le]at st;refine TD.Qt st dat O λh' Y S=>?_
  have A:=I.turned (t':=s.toks) (λb o Z e=>(S.2 b Z).trans e) G f1 f3 J L;obtain⟨y,e,c,d⟩:=id Y;exact⟨_,rfl,E_ (s:={s with heap:=h'}) e c d (by decide) ⟨.ref x.2.1,H,A,rfl,⟨rfl,k,v,_,C,rfl,Z⟩,by rw[W,<-le];exact Y,λb Z=>(U b Z).1⟩⟩
 done:=by
  intro X N hw M D i pins s σ H E I U st Q;subst N hw M;obtain⟨R,hi⟩:=Q;obtain⟨xs,rel,dat,T⟩:=QT hu I R hd;have W:=Paired.length rel;have le:es.size=xs.length:=by rw[<-aY,T,aq]
  rw[W,<-le]at st hi;obtain⟨G,f1,f2,f3,J,L⟩:=U it (by simp);exact TD.Qu (I.ok.hd D) st dat (fM hi) λh' B=>⟨rfl,I.turned (t':=s.toks) (λb o Z e=>B b o Z e) G f1 f3 J L⟩
 self:=λ_ _ _ _ _ st h=>wpAny_pyIter_keyiter st h
def TQ(X:Cx)(tl:TE):TI:=λσ H R=>tl σ H λx H1=>∃a u kvs,Du u kvs/\x = .ref a/\((H1 a=some u/\∀o,Qf X a->R (Itt o a u kvs) (upd H1 a (.frz o u)))\/∃o,H1 a=some (.frz o u)/\R (Itt o a u kvs) H1)
theorem Ih{l:Expr}(B:PE X l tl):PI X tg l (TQ X tl):=by
 intro pins s σ H R I h;refine thn (B pins s σ H _ I h) λv s1 ⟨x,H1,Z,S,q1⟩=>?_
 obtain⟨a,u,kvs,hu,e,q⟩:=q1;subst e
 cases S;have rd:L2.Rd H1 a u:=q.elim (λz=>.inl z.1) (λ⟨o,z,_⟩=>.inr ⟨o,z⟩);obtain⟨lo,Y,es,ep,U,Q,hd,le⟩:=ad2 Z.hok hu rd;refine TD.Qs lo ⟨Y,U,Q,hd⟩ ?_;have T:L2.Inv X pins σ H1 {s1 with heap:=s1.heap.push {cls:=.type "dict_keyiterator", data:=.fields #[.ref a,.int 0 0,.int es.size 0,.int ep 0]} }:=Z.kept (t':=s1.toks) λb o e=>ad _ e
 have st:(s1.heap.push {cls:=.type "dict_keyiterator", data:=.fields #[.ref a,.int 0 0,.int es.size 0,.int ep 0]}).IsKeyIter s1.heap.objs.size a 0 kvs.length ep:=⟨_,ag _ rfl,rfl,by rw[<-le];rfl⟩;have fr:=Z.hok.fresh (aB _);rcases q with⟨W,q⟩|⟨o,W,q⟩
 ·refine⟨s1.heap.objs.size,[s1.heap.objs.size],_,_,_,rfl,Vd hu T W (ad _ U),GP Y a _ kvs hu hd,st,λb V=>?_,q Y (KD hu Z W)⟩;have e:b=s1.heap.objs.size:=by simpa using V
  subst e;refine Z.fpOk (aB _) ?_;rw[bF (λz=>by rw[z,W]at fr;cases fr)];exact fr
 ·have eq:Y=o:=by
   have:=(Z.hok a _ W).1;rw[U]at this;exact cO.inj this
  subst eq;refine⟨s1.heap.objs.size,[s1.heap.objs.size],_,_,_,rfl,T,GP Y a _ kvs hu hd,st,λb V=>?_,q⟩;have e:b=s1.heap.objs.size:=by simpa using V
  subst e;exact Z.fpOk (aB _) fr
section
variable{K:PySem.W.Frag}{H:Hp}{a:Addr}{kvs:List (List L2.Key×V)}{o:Obj}{u:HO}
mutual
theorem Dp{ok:Ok}(hu:Du u kvs)(h:H a=some u):∀{v:V}{d:D},RA K ok true H v d->RA K ok true (upd H a (.frz o u)) v d
 |_,_,.non=>.non
 |_,_,.bl b=>.bl b
 |_,_,.int i=>.int i
 |_,_,.str x=>.str x
 |_,_,.lst e k q=>.lst (by rwa[bF (iR e h (by rintro rfl;cases hu))]) k (ou hu h q)
 |_,_,.lsk e k q=>.lsk (by
  rcases e with⟨o',e⟩|e
  ·exact .inl ⟨o',by rwa[bF (iR e h (by rintro rfl;cases hu))]⟩
  ·exact .inr e) k (ou hu h q)
 |_,_,.tup e q=>.tup (by unfold gQ;rwa[bF (iR e h (by rintro rfl;cases hu))]) (ou hu h q)
 |_,_,.dic (a:=b) e g k=>by
  have:=hu.chg;by_cases hb:b=a
  ·subst hb;have g':=g.upd (o:=.frz o u) h;rw[h]at e;exact .dik (by rw[bT];injection e with e;rw[e]) g' rfl
  ·exact .dic (by rwa[bF hb]) (g.upd h) k
 |_,_,.dik e g k=>have:=hu.chg;.dik (by rwa[bF (iR e h (by rintro rfl;cases hu))]) (g.upd h) k
theorem ou{ok:Ok}(hu:Du u kvs)(h:H a=some u):∀{v:List V}{d:List D},RAs K ok true H v d->RAs K ok true (upd H a (.frz o u)) v d
 |_,_,.nil=>.nil
 |_,_,.cons e q=>.cons (Dp hu h e) (ou hu h q)
end
mutual
theorem Dq{ok:Ok}(h:H a=some (.frz o u)):∀{v:V}{d:D},RA K ok false H v d->RA K ok false (upd H a u) v d
 |_,_,.non=>.non
 |_,_,.bl b=>.bl b
 |_,_,.int i=>.int i
 |_,_,.str x=>.str x
 |_,_,.lst e k q=>.lst (by rwa[bF (iR e h (by intro z;cases z))]) k (nC h q)
 |_,_,.lsk e k q=>by cases k
 |_,_,.tup e q=>.tup (by unfold gQ;rwa[bF (iR e h (by intro z;cases z))]) (nC h q)
 |_,_,.dic e g k=>.dic (by rwa[bF (iR e h (by intro z;rcases g.or with⟨ks,y⟩|⟨ks,y⟩<;>(rw[y]at z;cases z)))]) (g.imp λ_ _ t=>by unfold gQ;rwa[bF (iR t h (by intro z;cases z))]) k
 |_,_,.dik e _ k=>by cases k
theorem nC{ok:Ok}(h:H a=some (.frz o u)):∀{v:List V}{d:List D},RAs K ok false H v d->RAs K ok false (upd H a u) v d
 |_,_,.nil=>.nil
 |_,_,.cons e q=>.cons (Dq h e) (nC h q)
end
end
section
variable{X:Cx}{fl fl':List Fl}{e b c elt tg iter:Expr}{es ifs:List Expr}{k:Kd}{f fa fb fc fx:FE}{ft gt:FT}{pos:Pos}{scope:hV}{ix L TT:List Nat}{fi:FA}{g:FG}
theorem QW{o:Obj}{kvs:List (List L2.Key×V)}{S:List (List Int)}(D:kvs.map (·.1)=S.map λk=>k.map fo)(h:H1 a=some (.frz o u)):∀H2,Same H1 H2->∀i:Nat,(∀d,(S.map rwD)[i]? = some d->(Itt o a u kvs).go i H2/\∀x B,(Itt o a u kvs).yld i H2 x B->Same H2 B/\RA K ok1 true B x d)/\((S.map rwD).length<=i->(Itt o a u kvs).stop i H2):=by
 intro H2 s2 i;have Y:kvs.length=S.length:=by
  have:=congrArg m8 D;rwa[aq,aq]at this
 refine⟨λd hd=>?_,λhi=>⟨s2 _ _ h,by rw[Y];simpa using hi⟩⟩;rw[aU]at hd
 cases e:S[i]? with
 |none=>rw[e]at hd;cases hd
 |some X=>
  rw[e]at hd
  cases hd;have hi:i<S.length:=by
   rcases dM i S.length with z|z
   ·exact z
   ·rw[aZ z]at e;cases e
  refine⟨⟨s2 _ _ h,by omega⟩,λx B W=>?_⟩;obtain⟨rfl,k,v,b,U,rfl,Z⟩:=W;have T:k=X.map fo:=by
   have:=congrArg (λl=>l[i]?) D;simp only[aU,U,e,jC,cO.injEq]at this;exact this
  subst T;rw[vN]at Z;exact⟨Same.refl _,.tup Z (pD _)⟩
def KH(X:Cx)(Q:VK):VK:=λv H2=>Q v H2\/∃a o u kvs,Du u kvs/\Qf X a/\H2 a=some (.frz o u)/\Q v (upd H2 a u)
theorem Ve{σ:L2.St}{H:Hp}{Q:VK}{T:List Str}(D:∀i,i<T.length+ix.length->fl'[i]? = some .A)(B:∀j∈TT,j<T.length)(h:tD X.K fl .FC (jk (Kl fx) g ft f T.length ix) σ H Q):
 Fv (TQ X (tD X.K fl .P fx)) (tDG X.K fl' TT g) (tDT X.K fl' ft) (tD X.K fl' .C f) T.length (uM T.length ix) σ H (KH X Q):=by
 refine D3.ex4 h λG ow δ d R n q=>?_
 refine D3.ex1 (bind1 n) λl e1 e2=>?_
 by_cases S:l.length<=100000
 case neg=>rw[if_neg S]at e2;cases e2
 rw[if_pos S]at e2;refine D3.ex1 (bind1 e2) λr y e4=>?_
 cases e4;refine D3.ex1 (bind1 e1) λx c M=>?_
 cases I:oR x with
 |none=>rw[I]at M;cases M
 |some p=>
 rw[I]at M
 cases M;refine⟨G,ow,δ,x,R,c,λv H1 s1 s=>?_⟩;have R1:=R.grow s1;have W:=J5 (fl':=fl') T.length ix D R1 (Same.refl H1);obtain⟨a,rfl,Z⟩:=vW I s;obtain⟨u,kvs,hu,Z,N⟩:∃u kvs,Du u kvs/\L2.Rd H1 a u/\kvs.map (·.1)=p.map λk=>k.map fo:=by
  rcases Z with⟨rfl,Z⟩|⟨_,kvs,Z,N⟩
  ·exact⟨_,_,.k,Z,rfl⟩
  ·exact⟨_,_,.t kvs,Z,N⟩
 refine⟨a,u,kvs,hu,rfl,?_⟩;rcases Z with Z|⟨o,Z⟩
 ·refine .inl ⟨Z,λo lo Dl Y=>?_⟩;have U:Dl≠a:=λz=>by rw[z,bT]at Y;cases Y
  have L:Tb (upd H1 a (.frz o u)):=λt E=>by rw[bF (iR (W.tb t E) Z (by rintro rfl;cases hu))];exact W.tb t E
  have F:Rel X.K fl' ⟨upd H1 a (.frz o u),upd H1 a (.frz o u),λ_=>none,λ_=>[],L⟩ ow0 (uM T.length ix σ) (upd H1 a (.frz o u)) (j_ T.length ix δ):=by
   refine⟨Same.refl _,Same.refl _,W.len,λi b h=>(by cases h),λi j b h=>(by cases h),λi h=>rfl,λi d h1 hn h2=>?_,W.oo,λi b h=>(by cases h),λi j b h=>(by cases h),λi j b h=>(by cases h),λi h=>rfl,λi d hn h1=>?_⟩
   ·obtain⟨v,e,m⟩:=W.dat i d h1 hn h2;exact⟨v,e,Dp hu Z m⟩
   ·have hi:i<T.length+ix.length:=by
     have h2:i<(j_ T.length ix δ).length:=by
      rcases dM i (j_ T.length ix δ).length with z|z
      ·exact z
      ·rw[aZ z]at h1;cases h1
     unfold j_ at h2;simpa using h2
    rw[D i hi]at hn
    cases hn
  refine Gm (Q:=KH X Q) B F S y Y (QW N bT) λH2 xs s2 V J=>fF ⟨a,o,u,kvs,hu,lo,s2 _ _ bT,?_⟩
  have sm:Same H (upd H2 a u):=λb v O=>by
   by_cases z:b=a
   ·subst z;have:=s1 _ _ O;rw[Z]at this;rwa[bT]
   ·rw[bF z];exact s2 b v (by rw[bF z];exact s1 b v O)
  refine q _ _ sm (.inr ⟨Dl,xs,r,rfl,rfl,s1.free (by rw[bF U]at Y;exact Y),by rwa[bF U],?_⟩);refine(nC (s2 _ _ bT) J).imp (λb z=>⟨?_,z.2⟩) (λz=>z);have z1:=z.1;unfold okN at z1 ⊢;have O:b≠a:=λw=>by rw[w,bT]at z1;cases z1
  rw[bF O]at z1;exact s1.free z1
 ·refine .inr ⟨o,Z,λDl Y=>?_⟩;have F:=W;refine Gm (Q:=KH X Q) B F S y Y (QW N Z) λH2 xs s2 V J=>f7 (q _ _ (s1.trans s2) (.inr ⟨Dl,xs,r,rfl,rfl,s1.free Y,V,J.imp (λb z=>⟨s1.free z.1,z.2⟩) (λz=>z)⟩))
theorem QX(hc:X.calm=true)(T J:List Str)(ix:List Nat)(hi:DE X fl .P iter fx)
 (hg:∀cl C s3 O fp,DG (blk X (T++J) scope cl C s3 O fp) fl' TT tg g) (ht:∀cl C s3 O fp,PTs (blk X (T++J) scope cl C s3 O fp) ifs (tDT X.K fl' ft)) (he:∀cl C s3 O fp,DE (blk X (T++J) scope cl C s3 O fp) fl' .C elt f)
 (hfl:∀i,i<T.length+ix.length->fl'[i]? = some .A:=by decide) (W:∀j∈TT,j<T.length:=by decide)
 (hB:xY X.N X.env.scope.names scope.names J ix=true:=by rfl) (hk:scope.kind = .function:=by rfl) (D:∀y∈scope.names,y.2 ≠ .cell:=by decide +kernel)
 (B:∀x∈scope.names,x.2 = .local->scope.names.lookup x.1=some .local:=by decide +kernel)
 (Y:∀x∈scope.names,x.2 = .free->x.1∈J:=by decide +kernel) (hs:∀x,foldedSetIterable iter X.env x=pure x:=by intro _;rfl) :
 DE X fl .FC (.ListComp elt [⟨tg,iter,ifs,0⟩] scope pos) (jk (Kl fx) g ft f T.length ix):=by
 intro pins s σ H Q I h;have run:=JV (g:=tDG X.K fl' TT g) (tt:=tDT X.K fl' ft) (te:=tD X.K fl' .C f) (pos:=pos) hc T J ix (Ih hi) hg ht he hB hk D B Y hs pins s σ H (KH X Q) I (Ve hfl W h);refine thn run λv s' ⟨x,H2,U,V,Z⟩=>?_
 rcases Z with Z|⟨a,o,u,kvs,hu,lo,ha,Z⟩
 ·exact⟨x,H2,U,V,Z⟩
 ·exact⟨x,_,QS U lo ha,V,Z⟩
end
end XJ
namespace HT
open L2
section
variable{prog:e9}{w:fy}{A:fm}{E:Value->eS->Prop}{s:eS}
theorem Vf{t sl:Addr}{items:Array Value}{lo hi:Option Int}(B:g9 s.heap t items)(hs:s.heap.IsSliceOf sl vl vu .none)(pl:IsPart vl lo)(D:IsPart vu hi)
 (hw:sIx items.size 0 lo=0/\sIx items.size items.size hi=items.size) (h:Q (.ref t) s):wpAny (model prog w) A (getItem (.ref t) (.ref sl)) Q E s:=by
 obtain⟨os,Y,X,W⟩:=id hs;have ty:s.TypeIs (.ref sl) "slice" := ⟨os,Y,X⟩;unfold getItem
 try with_reducible refine ap ?_
 first|refine aa (ae ?_)|skip
 refine aa (wpAny_sequenceKey B.typeIs (by decide) (aa (av (name:=f6 "__getitem__") B.typeIs gg (ar gg B.typeIs entry_tuple_getitem ?_ (args_tuple_getitem _ _)))));refine aa (m:=ij (.ref t)) (tupleItemsOf_ B (aa (b6 ty ?_)));rw[if_pos (by decide)];refine aa (pZ hs pl D ?_);have Z:(((sIx items.size 0 lo:Nat):Int)==0&&(1:Int)==1&&(sIx items.size items.size hi-sIx items.size 0 lo)==items.size)=true:=by
  rw[hw.1,hw.2];simp
 show wpAny _ _ (if(((sIx items.size 0 lo:Nat):Int)==0&&(1:Int)==1&&(sIx items.size items.size hi-sIx items.size 0 lo)==items.size)=true then _ else _) _ _ s;rw[if_pos Z];refine aa (aa (b6 B.typeIs (ae ?_)));rw[if_pos (by decide)];exact aa (a9 (ae ⟨_,rfl,ae h⟩))
end
end HT
namespace D3
open L2 My
def al8(K:PySem.W.Frag):V->Option Int->Option Int->Hp->VK->Prop:=λx lo hi H Q=>∃a xs,x = .ref a/\SqT K H a xs/\HT.sIx xs.length 0 lo=0/\HT.sIx xs.length xs.length hi=xs.length/\Q (.ref a) H
theorem QZ:SlR X (al8 X.K):=by
 intro pins s σ H x v vl vu lo hi sl Q I Y hs pl W h;obtain⟨a,xs,rfl,V,h1,h2,q⟩:=h
 cases Y;obtain⟨its,r,Z,U⟩:=I.tuple V;have hlen:its.toArray.size=xs.length:=by rw[aM];exact r.length.symm
 exact⟨"tuple", _,PyProof.Rows.slot_tuple_getitem.lookup,Z.typeIs,HT.Vf Z hs pl W (by rw[hlen];exact⟨h1,h2⟩) ⟨.ref a,H,I,rfl,q⟩⟩
section
variable{X:Cx}{fl:List Fl}{a e:Expr}{f:FE}{pos:Pos}
theorem wU(h:flats l=true)(lo hi:Option Int):flats (cuD l lo hi)=true:=by
 have Y:∀(n:Nat)(l:List D),flats l=true->flats (l.drop n)=true:=λn=>by
  induction n with
  |zero=>exact λl h=>h
  |succ n Z=>
   intro l h
   cases l with
   |nil=>rfl
   |cons d l=>rw[flats,aV]at h;exact Z l h.2
 have tk:∀(n:Nat)(l:List D),flats l=true->flats (l.take n)=true:=λn=>by
  induction n with
  |zero=>exact λl h=>by simp[flats]
  |succ n Z=>
   intro l h
   cases l with
   |nil=>rfl
   |cons d l=>
    rw[flats,aV]at h;rw[List.take_succ_cons,flats,aV];exact⟨h.1,Z l h.2⟩
 exact tk _ _ (Y _ _ h)
theorem Q0{lo hi:Option Expr}{p2:Pos}{fl1:FO}(h:DE X fl .P a f)(h1:PO X lo (tDO X.K fl fl1))(h2:PO X hi (tDO X.K fl fh)):DE X fl .FC (.Subscript a (.Slice lo hi none p2) pos) (yd f fl1 fh):=PE.imp (Fe (QZ.or XC) h h1 h2) λσ H Q h=>by
 refine D3.ex4 h λG ow δ d R O q=>?_
 refine D3.ex1 (bind1 O) λx E O=>?_
 refine D3.ex1 (bind1 O) λV e2 O=>?_
 refine D3.ex1 (bind1 O) λW F T=>?_
 refine⟨G,ow,δ,x,R,E,λv H1 s1 J=>⟨G,ow,δ,V,R.grow s1,e2,λH2 s2=>⟨G,ow,δ,W,R.grow (s1.trans s2),F,λD s3=>?_⟩⟩⟩;obtain⟨l,rfl⟩:∃l,x = .tuple l:=by
  cases x<;>first|exact⟨_,rfl⟩|cases T
 dsimp only at T;by_cases Z:flats l=true
 case neg=>rw[if_neg Z]at T;cases T
 rw[if_pos Z]at T
 cases T;obtain⟨p,xs,rfl,I,M⟩:=J.tupE0;have Y:=s2.trans s3;have N:=M.length;have U:=gQ.same Y I;have S:=M.same Y;by_cases hw:HT.sIx xs.length 0 V=0/\HT.sIx xs.length xs.length W=xs.length
 ·refine .inl ⟨p,xs,rfl,.inl (.inl U),hw.1,hw.2,q _ _ (s1.trans Y) (.inl ⟨wU Z V W,?_⟩)⟩;have:cuD l V W=l:=by
   unfold cuD;rw[<-N,<-CT,<-CT,hw.1,hw.2,N];simp
  rw[this];exact .tup U (RAs.flat Z S)
 ·refine .inr ⟨p,xs,rfl,.inl (.inl U),hw,λpn L=>q _ _ ((s1.trans Y).trans (cM L _)) (.inl ⟨wU Z V W,?_⟩)⟩;exact .tup (show gQ _ _ _ from bT) (RAs.flat (wU Z V W) ((S.same (cM L _)).cut V W))
theorem BX(B:X.calm=true):lG X (.builtin "max") (λxs H Q=>∃(p:Addr)(i:Int)(r:List Int),xs=[.ref p]/\SqT X.K H p ((i::r).map V.int)/\Q (.int (mxI i r)) H):=by
 intro pins s σ H xs us Q I r h;obtain⟨p,i,Y,rfl,J,q⟩:=h;obtain⟨u,rfl,N⟩:=vals1 r
 cases N;obtain⟨its,U,pl,C⟩:=I.tuple J;have hi:=sI U;obtain⟨xs,e⟩:=hi.allInts.items;have Z:i::Y=xs.toList.map (·.1):=by rw[<-hi.numsOf,<-nums_intItems,<-e]
 have T:0<xs.size:=by
  have O:0<(i::Y).length:=by simp
  rw[Z,aq,aY]at O;exact O
 have S:s.heap.IsTuple p (intItems xs):=by
  rw[<-e];obtain⟨o,g1,g2,n,g3⟩:=pl;exact⟨o,g1,g2,n,g3⟩
 have W:p<s.heap.objs.size:=by obtain⟨o,g1,_⟩:=S;exact af g1
 refine call_max_walk (b7 S ?_);refine⟨_,_,_,_,_,_,_,rfl,Walks.tuple (A:=X.A.in1) (I.ok.hd B) _ p (aP W) (intItems xs),⟨⟨_,ag _ rfl,rfl,rfl⟩,S.push _⟩,λb P=>?_,by simpa[intItems]using T,CmpOf.ints_gt (numAt xs) (λ_ _=>intItems_at),λv h' tk D F=>?_⟩
 ·rw[cq];simp at P;rcases P with rfl|rfl
  ·exact fD _
  ·exact gF W
 have G:(intItems xs)[argBest (λi j=>decide (numAt xs i>numAt xs j)) (xs.size-1)]? = some v:=by simpa[intItems]using D
 obtain⟨t,rfl⟩:=intItems_at G;obtain⟨h1,h2⟩:=argBest_gt (numAt xs) (xs.size-1);have L:numAt xs (argBest (λi j=>decide (numAt xs i>numAt xs j)) (xs.size-1))∈i::Y:=by
  rw[Z,numAt_eq];exact getD_mem (by rw[aq,aY];omega)
 have M:∀a∈i::Y,a<=numAt xs (argBest (λi j=>decide (numAt xs i>numAt xs j)) (xs.size-1)):=λa ha=>by
  rw[Z]at ha;obtain⟨j,E,rfl⟩:=mem_getD ha;rw[aq,aY]at E;rw[<-numAt_eq];exact h2 j (by omega)
 have sp:=vp Y i;have eq:=rM (sp.2 _ L) (M _ sp.1);rw[eq];exact⟨.int _,H,I.kept λb o R=>F b o (λz=>by
  rw[aJ.mp z]at R;exact absurd (af R) (eF _)) (ad _ R),⟨_,rfl⟩,q⟩
theorem Q5:BrC K (λxs H Q=>∃(p:Addr)(i:Int)(r:List Int),xs=[.ref p]/\SqT K H p ((i::r).map V.int)/\Q (.int (mxI i r)) H) uq:=by
 intro H xs ds d Q r e q;unfold uq at e;split at e
 ·next l=>
  split at e
  ·next i X e2=>
   cases e
   cases r with
   |cons Y Z=>
    cases Z;obtain⟨a,ys,rfl,W,U⟩:=Y.tupE;obtain rfl:=vJ e2 U;exact⟨a,i,X,rfl,W,q _ rfl (.int _)⟩
  ·cases e
 ·cases e
end
end D3
namespace TE2
section
variable{prog:e9}{w:fy}{A:fm}{E:Value->eS->Prop}{s:eS}{it t:Addr}{i:Nat}{items:Array Value}
theorem Vg{x:Value}(g:s.heap.IsTupleIter it t i)(D:s.heap.IsTuple t items)(B:items[i]? = some x)(q:∀h',h'.IsTupleIter it t (i+1)->gm it s.heap h'->Q x {s with heap:=h'}):wpAny (model prog w) A (ic (.ref it)) Q E s:=by
 obtain⟨o,Z,Y,hd⟩:=id g;obtain⟨X,h1,_,nl,h2⟩:=D;refine aa (av (name:=f6 "__next__") g.typeIs be (ar be g.typeIs d7 ?_ (dS _)));refine aa (m:=field (.ref it) 0) (aT Z hd (x:=.ref t) rfl ?_);rw[if_neg (show ¬((eW t==fS)=true)from aX)];refine aa (m:=field (.ref it) 1) (aT Z hd (x:=.int i 0) rfl (aa (m:=seqItems? (.ref t)) (bt h1 h2 ?_)));simp only[fL,B];refine aa (c7 Z hd (by simp) (ae ⟨x,rfl,ae (q _ ⟨_,az _ Z (eM (bP hd _)),(Obj.cls_mapFields ..).trans Y,?_⟩ (gx ..))⟩));rw[bP hd];simp[rawInt]
theorem Q6(J:A.handled=none)(g:s.heap.IsTupleIter it t i)(D:s.heap.IsTuple t items)(B:items[i]? = none)
 (q:∀h' e,Heap.ExtBut it s.heap h'->(∃o,h'.get? e=some o/\o.cls = .type "StopIteration")->E (.ref e) {s with heap:=h'}):wpAny (model prog w) A (ic (.ref it)) Q E s:=by
 obtain⟨o,Z,X,hd⟩:=id g;obtain⟨Y,h1,_,nl,h2⟩:=D;refine aa (av (name:=f6 "__next__") g.typeIs be (ar be g.typeIs d7 ?_ (dS _)));refine aa (m:=field (.ref it) 0) (aT Z hd (x:=.ref t) rfl ?_);rw[if_neg (show ¬((eW t==fS)=true)from aX)];refine aa (m:=field (.ref it) 1) (aT Z hd (x:=.int i 0) rfl (aa (m:=seqItems? (.ref t)) (bt h1 h2 ?_)));simp only[fL,B];refine aa (a9 (aa (c7 Z hd (by simp) ?_)));refine aa (m:=newExc (.type "StopIteration") []) ?_;simp only[newExc,newTuple];refine aa (ax (aa (m:=firstArgMember _ _) (wpAny_of_eq (a:=fS) (by first|rfl|(simp only[firstArgMember];rfl)) (ax ?_ (by size_fits)))) (by size_fits));simp only[raiseNew];refine aa (wpAny_handled ?_);rw[show A.in1.handled=none from J];refine aa (ae (wpAny_throw ?_));exact q _ _ (((gx ..).extBut.push _).push _) ⟨_,ag _ rfl,rfl⟩
theorem draws(D:A.handled=none)(it t:Addr)(B:t≠it)(items:Array Value):Draws prog w A it [it,t] items.size (λi v=>items[i]? = some v) (λi h=>h.IsTupleIter it t i/\h.IsTuple t items) where
 live:=λ_ _ st=>let⟨o,Y,_⟩:=st.1;⟨o,Y⟩
 frame:=λ_ _ _ st Z=>⟨st.1.at λo e=>Z it (by simp) o e,st.2.at λo e=>Z t (by simp) o e⟩
 item:=λi s Q E hi st X=>Vg st.1 st.2 (x:=items[i]) (by simp[hi]) λh' g hs=>X _ h' s.toks (by simp[hi]) ⟨g,st.2.extBut hs.extBut B⟩ hs
 done:=λs Q E st W=>Q6 D st.1 st.2 (by simp) W
end
open AutoSeq1 (wpAny_loadPart')
theorem Q7(l:Addr)(items:Array Value)(n:Nat)(B:Option Addr)(sl:Array (Option Value)):
 Meets (hJ.«enumerate.__new__» ⟨[.type "enumerate", .ref l],[]⟩) (λ_ R s=>s.heap.get? l=some {cls:=.type "tuple", dict:=B,data:=.seq items n,slots:=sl} /\
  R (.ok (.ret (.ref (s.heap.push {cls:=.type "tuple_iterator", data:=.fields #[.ref l,.int 0 0]}).objs.size)))
   {s with heap:=(s.heap.push {cls:=.type "tuple_iterator", data:=.fields #[.ref l,.int 0 0]}).push {cls:=.type "enumerate", data:=.fields #[.none,.bool false,.ref s.heap.objs.size,rawInt 0,.none,.none]} }):=
 .of_wp λprog w A R s h=>by
  obtain⟨W,g,d,tk,os⟩:=s;obtain⟨Z,h⟩:=h;have Y:=sub_enumerate;have X:Heap.IsTuple (Shared.heap ⟨W,g,d,tk,os⟩) l items:=⟨_,Z,rfl,n,rfl⟩
  wp_walk using wpAny_loadPart' Z
  refine wpAny_stack_any λst=>ae ?_
  split
  ·rename_i c _ _ _ _ _
   cases(c==hP "enumerate")<;>(wp_walk using wpAny_loadPart' Z,b7 X;exact⟨_,rfl,h⟩)
  ·wp_walk using wpAny_loadPart' Z,b7 X
   exact⟨_,rfl,h⟩
section
variable{prog:e9}{w:fy}{A:fm}{E:Value->eS->Prop}{s:eS}
theorem M6{l:Addr}{items:Array Value}(B:s.heap.IsTuple l items)
 (h:∀h',IsEnum h' (s.heap.objs.size+1) s.heap.objs.size 0 .none->h'.IsTupleIter s.heap.objs.size l 0->h'.objs.size=s.heap.objs.size+2->(∀b o,s.heap.get? b=some o->h'.get? b=some o)->Q (.ref (s.heap.objs.size+1)) {s with heap:=h'}) :
 wpAny (model prog w) A (call (.type "enumerate") [.ref l]) Q E s:=by
 obtain⟨⟨c,X,U,sl⟩,V,Y,n,hd⟩:=B
 replace Y:c = .type "tuple" := Y
 replace hd:U = .seq items n:=hd
 subst Y hd;refine callType_new F.called_enumerate (by decide) (F.typeCall_enumerate_1 _) (F.newCall_enumerate_1 _) (λobj=>F.args_object_init_2 obj _) F.entry_enumerate_new (Q7 l items n X sl) ⟨V,?_⟩;have Z:(s.heap.push {cls:=.type "tuple_iterator", data:=.fields #[.ref l,.int 0 0]}).objs.size=s.heap.objs.size+1:=cq ..;rw[Z];have W:IsEnum ((s.heap.push {cls:=.type "tuple_iterator", data:=.fields #[.ref l,.int 0 0]}).push {cls:=.type "enumerate", data:=.fields #[.none,.bool false,.ref s.heap.objs.size,rawInt 0,.none,.none]}) (s.heap.objs.size+1) s.heap.objs.size 0 .none:=by
  have:=ag (s.heap.push {cls:=.type "tuple_iterator", data:=.fields #[.ref l,.int 0 0]}) (o:={cls:=.type "enumerate", data:=.fields #[.none,.bool false,.ref s.heap.objs.size,rawInt 0,.none,.none]}) rfl;rw[Z]at this;exact this
 exact⟨⟨_,W,rfl⟩,h _ W ⟨_,ad _ (ag _ rfl),rfl,rfl⟩ (by rw[cq,Z]) λb o x=>ad _ (ad _ x)⟩
theorem Vh{e t:Addr}{items:Array Value}{old:Value}{Q:Option Value->eS->Prop}(W:A.handled=none)(O:t≠it)(B:IsEnum s.heap e it (i:Int) old)(hi:s.heap.IsTupleIter it t i)(J:s.heap.IsTuple t items)(D:items[i]? = none)
 (q:∀h',Heap.ExtBut it s.heap h'->Q none {s with heap:=h'}):wpAny (model prog w) A (pyNext (.ref e)) Q E s:=by
 have ty:s.TypeIs (.ref e) "enumerate" := ⟨_,B,rfl⟩;refine aa (bz (av (name:=f6 "__next__") ty F.slot_enumerate_next (ar F.slot_enumerate_next ty F.entry_enumerate_next ?_ (F.args_enumerate_next_1 _))));refine aa (m:=field (.ref e) 2) (aT B rfl (x:=.ref it) rfl (aa (Q6 (A:=A.in1) W hi J D λh' x Y Z=>?_)));obtain⟨o,X,V⟩:=Z;exact aa (d4 (T := "StopIteration") (b:=true) ⟨o,X,V⟩ eK (ae (q _ Y)))
end
end TE2
namespace D3
open L2 My
def ItT(K:PySem.W.Frag)(a:Addr):It:=
 ⟨λi H=>∃xs x,SqT K H a xs/\xs[i]? = some x,λi H x H'=>∃p y,H p=none/\H'=upd H p (.tup [.int i,y])/\x = .ref p/\∀xs,SqT K H a xs->xs[i]? = some y,λi H=>∃xs,SqT K H a xs/\xs.length<=i⟩
theorem Ji{x1}(a it:Addr):
 Turn P w K (.Tuple elts x1 tpos) (ItT K a) [it+1,it] (it+1) (λi h=>∃old,IsEnum h (it+1) it (i:Int) old/\h.IsTupleIter it a i) where
 mem:=by simp
 obj:=λi h st b Z=>by
  obtain⟨old,W,o,e,c,d⟩:=st;rcases aK.mp Z with z|z
  ·subst z;exact⟨_,W,λv z=>by cases z⟩
  ·have z:b=it:=by simpa using z
   subst z;exact⟨o,e,λv z=>by rw[d]at z;cases z⟩
 keep:=λi h h' st k=>by
  obtain⟨old,W,hi⟩:=st;exact⟨old,k _ (by simp) _ W,hi.at λo e=>k it (by simp) o e⟩
 item:=by
  intro X B hw y C i pins s σ H E I R st F;subst B hw y;obtain⟨xs,x,O,m⟩:=F;obtain⟨its,L,p,f⟩:=I.tuple O;obtain⟨u,hu,l⟩:=L.get m;obtain⟨old,W,hi⟩:=st;have S:=af W;have g:i<its.toArray.size:=by
   rw[aM];rcases dM i its.length with z|z
   ·exact z
   ·rw[aZ z]at hu;cases hu
  have pt:s.heap.IsTuple a its.toArray:=by
   obtain⟨o,g1,g2,n,g3⟩:=p;exact⟨o,g1,g2,n,g3⟩
  have V:a≠it:=λz=>by
   obtain⟨o,g1,g2,_⟩:=p;obtain⟨j,g3,t,_⟩:=id hi;rw[z,g3]at g1
   cases g1;rw[t]at g2;exact absurd g2 (by decide)
  have T:a≠it+1:=λz=>by
   obtain⟨o,g1,g2,_⟩:=p;rw[z,W]at g1
   cases g1;exact absurd (show hP "enumerate"=hP "tuple"from g2) (by decide)
  refine wpAny_pyNext_enum_itemD (TE2.draws (A:=X.A.in1) (I.ok.hd C) it a V its.toArray) W ⟨hi,pt⟩ g (Nat.succ_ne_self it) (by simp[fA T]) λQ h1 tk U ho M ht hsz J=>?_
  have G:=M.1;obtain rfl:Q=u:=by
   have:its.toArray[i]? = some u:=by simpa using hu
   rw[this]at U;exact(cO.inj U).symm
  have J:=J;refine⟨_,rfl,eD ho λh2 D Y=>?_⟩
  replace Y:gm (it+1) h1 h2:=Y
  have hn:=I.hok.fresh (aB _);have I0:Inv X pins σ (upd H s.heap.objs.size (.tup [.int (i:Int),x])) {s with heap:=s.heap.push {cls:=.type "tuple", data:=.seq #[.int (i:Int) tk,Q]} }:=
   I.laid (t':=s.toks) (λb o e=>ad _ e) (aB _) ⟨show 2<=sizeLine by decide,[.int (i:Int) tk,Q],.cons ⟨_,rfl⟩ (.cons l .nil),⟨_,ag _ rfl,rfl,_,rfl⟩⟩
  have ne:∀b,b∈[it+1,it]->b≠s.heap.objs.size:=λb Z=>by
   rcases aK.mp Z with N|N
   ·rw[N];exact aP S
   ·rw[show b=it by simpa using N];exact aP (cD S)
  have I1:Inv X pins σ (upd H s.heap.objs.size (.tup [.int (i:Int),x])) {s with heap:=h2,toks:=tk+1}:=by
   refine Inv.turnedL (s:={s with heap:=s.heap.push {cls:=.type "tuple", data:=.seq #[.int (i:Int) tk,Q]} }) (ch:=[it+1,it]) I0 (λb o Z e=>?_) λb Z=>⟨by rw[bF (ne b Z)];exact(R b Z).1,(R b Z).2⟩
   have q:b≠it+1:=λz=>Z (by simp[z])
   have b2:b≠it:=λz=>Z (by simp[z])
   rcases cm e with⟨r,e2⟩|r
   ·subst r e2;exact(Y.2 _ q).trans ht
   ·exact(Y.2 _ q).trans (J b o q b2 r)
  refine⟨.ref s.heap.objs.size,_,I1,rfl,⟨_,x,hn,rfl,rfl,λys hy=>by rwa[I.tuple_inj hy O]⟩,⟨_,D,G.at λo e=>(Y.2 _ (aP (fD it))).trans e⟩,λb Z=>?_⟩;rw[bF (ne b Z)];exact(R b Z).1
 done:=by
  intro X B hw y C i pins s σ H E I R st F;subst B hw y;obtain⟨xs,O,m⟩:=F;obtain⟨its,L,p,f⟩:=I.tuple O;obtain⟨old,W,hi⟩:=st;have hl:=L.length;have pt:s.heap.IsTuple a its.toArray:=by
   obtain⟨o,g1,g2,n,g3⟩:=p;exact⟨o,g1,g2,n,g3⟩
  have V:a≠it:=λz=>by
   obtain⟨o,g1,g2,_⟩:=p;obtain⟨j,g3,t,_⟩:=id hi;rw[z,g3]at g1
   cases g1;rw[t]at g2;exact absurd g2 (by decide)
  refine TE2.Vh (I.ok.hd C) V W hi pt (by simp;omega) λh' eb=>⟨rfl,Inv.turnedL (t':=s.toks) (ch:=[it+1,it]) I (λb o Z e=>eb b o (λz=>Z (by simp[z])) e) R⟩
 self:=λ_ _ _ _ _ st h=>by
  obtain⟨old,W,_⟩:=st;exact b9 W h
section
variable{X:Cx}{fl:List Fl}{a:Expr}{f:FE}{pos:Pos}
def YD(K:PySem.W.Frag)(tl:TE):TI:=λσ H R=>tl σ H λx H1=>∃a,x = .ref a/\(∃xs,SqT K H1 a xs)/\R (ItT K a) H1
theorem Q8{x1}(O:Gl X "enumerate")(hm:X.mg "enumerate"=none)(J:PE X a tl)(D:starEach [a] X.env=(false,eval a X.env)::starEach [] X.env:=by rfl)
 (B:(backTo pos (starEach [] X.env)).any (·.1)=false:=by rfl):PI X (.Tuple elts x1 tpos) (.Call (.Name "enumerate" p) [a] [] pos) (YD X.K tl):=by
 intro pins s σ H R I h;refine ay (nH I O hm boot_enumerate (fw (thn ((jx J nJ D) pos pins s σ H (λvs H1=>match vs with|[x]=>∃a,x = .ref a/\(∃xs,SqT X.K H1 a xs)/\R (ItT X.K a) H1|_=>False) I h) λus s1 ⟨vs,H1,W,T,q1⟩=>?_) D B))
 cases T with
 |nil=>exact q1.elim
 |cons r U=>
  cases U with
  |cons _ _=>exact q1.elim
  |nil=>
  obtain⟨l,e,⟨xs,Q⟩,q⟩:=q1;subst e
  cases r;obtain⟨its,L,pl,G⟩:=W.tuple Q;have pt:s1.heap.IsTuple l its.toArray:=by
   obtain⟨o,g1,g2,n,g3⟩:=pl;exact⟨o,g1,g2,n,g3⟩
  refine TE2.M6 pt λh' Z V S P=>?_
  have M:=W.kept (t':=s1.toks) P;refine b9 (s:={s1 with heap:=h'}) Z ?_;refine⟨s1.heap.objs.size+1,[s1.heap.objs.size+1,s1.heap.objs.size],_,_,H1,rfl,M,Ji l s1.heap.objs.size,⟨_,Z,V⟩,λb N=>?_,q⟩;have Y:s1.heap.objs.size<=b:=by
   rcases aK.mp N with z|z
   ·rw[z];exact lD _
   ·rw[show b=s1.heap.objs.size by simpa using z];exact aB _
  exact W.fpOk Y (W.hok.fresh Y)
theorem Q9{x1}(h:DE X fl (.B L) a f)(J:Gl X "enumerate")(hm:X.mg "enumerate"=none)(he:starEach [a] X.env=(false,eval a X.env)::starEach [] X.env:=by rfl)
 (D:(backTo pos (starEach [] X.env)).any (·.1)=false:=by rfl):DI X fl L (.Tuple elts x1 tpos) (.Call (.Name "enumerate" p) [a] [] pos) (Jd f):=PI.imp (Q8 J hm h he D) λσ H R' h=>by
 refine D3.ex4 h λG ow δ l R K q=>?_
 refine D3.ex1 (bind1 K) λd I e2=>?_
 cases d<;>first|(cases e2;done)|skip
 next V=>
 cases e2;refine⟨G,ow,δ,_,R,I,λv H1 s r=>?_⟩;obtain⟨a,xs,rfl,O,keep⟩:=P_ (R.grow s) r;refine⟨a,rfl,⟨xs,O⟩,q _ _ s λH2 k2 i=>?_⟩;obtain⟨Y,U⟩:=keep H2 k2;refine⟨λd hd=>?_,λM=>⟨xs,Y,by rw[U.length];simpa[rO]using M⟩⟩;have Z:(V[i]?).map (λx=>e_ [.int (i:Int),x])=some d:=by
  have:=hd;unfold rO at this;rwa[fB]at this
 cases e:V[i]? with
 |none=>rw[e]at Z;cases Z
 |some F=>
  rw[e]at Z
  cases Z;obtain⟨y,T,Q⟩:=U.get e;refine⟨⟨xs,y,Y,T⟩,λx E W=>?_⟩;obtain⟨p,S,N,rfl,rfl,P⟩:=W;have:some y=some S:=T.symm.trans (P xs Y)
  cases this;have g:=cM N (.tup [.int (i:Int),y]);exact⟨g,.tup bT (.cons (.int _) (.cons (Q.same g) .nil))⟩
end
end D3
variable{ts:List (Addr×L2.V×L2.V)}
namespace XK
open L2 My D3
theorem WT{P:Nat->Addr->V->V->Prop}:∀n,(∀j,j<n->∃a i k,P j a i k)->∃ts:List (Addr×V×V),ts.length=n/\∀j t,ts[j]? = some t->P j t.1 t.2.1 t.2.2
 |0,_=>⟨[],rfl,λj t h=>by simp at h⟩
 |n+1,h=>by
  obtain⟨ts,h1,h2⟩:=WT n λj Y=>h j (by omega)
  obtain⟨a,i,k,X⟩:=h n (by omega);refine⟨ts++[(a,i,k)],by simp[h1],λj t e=>?_⟩;by_cases Y:j<ts.length
  ·rw[cj Y]at e;exact h2 j t e
  ·rw[bR (by omega)]at e;have Z:j-ts.length=0:=by
    rcases uz (j-ts.length)with z|z
    ·exact z
    ·rw[aZ (by simp;omega)]at e;cases e
   rw[Z]at e
   cases e;rwa[show j=n by omega]
noncomputable def zU(H:Hp)(S:Addr)(vs:List V)(ts:List (Addr×V×V)):Hp:=λb=>if b=S then some (.lst vs)else match ts.find? (λt=>decide (t.1=b))with
 |some t=>some (.tup [t.2.1,t.2.2])
 |none=>H b
theorem Q_{S:Addr}:zU H S vs ts S=some (.lst vs):=by unfold zU;rw[if_pos rfl]
theorem Ra{S:Addr}(hi:∀(j j':Nat) (t t':Addr×V×V),ts[j]? = some t->ts[j']? = some t'->t.1=t'.1->j=j'){t:Addr×V×V}(B:t∈ts)(D:t.1≠S):zU H S vs ts t.1=some (.tup [t.2.1,t.2.2]):=by
 unfold zU;rw[if_neg D]
 cases e:ts.find? (λu=>decide (u.1=t.1))with
 |none=>
  have:=jr.mp e t B;simp at this
 |some t'=>
  have h1:=ig e;have h2:=of_decide_eq_true (rJ (p:=λu:Addr×V×V=>decide (u.1=t.1)) e);obtain⟨j,Y⟩:=fu B;obtain⟨j',Z⟩:=fu h1;have:=hi j j' t t' Y Z h2.symm;subst this;rw[Y]at Z
  cases Z;rfl
theorem Rc{S:Addr}(h1:b≠S)(h2:∀t∈ts,t.1≠b):zU H S vs ts b=H b:=by
 unfold zU;rw[if_neg h1,jr.mpr λt Z=>by simp[h2 t Z]]
theorem Rf{ok:Ok}:∀{vs:List V}{ds:List D},vs.length=ds.length->(∀(j:Nat)(v:V)(d:D),vs[j]? = some v->ds[j]? = some d->RA K ok pl H v d)->RAs K ok pl H vs ds
 |[],[],_,_=>.nil
 |[],_::_,h,_=>by cases h
 |_::_,[],h,_=>by cases h
 |v::vs,d::ds,h,g=>.cons (g 0 v d rfl rfl) (Rf (yJ.inj h) λj u e h1 h2=>g (j+1) u e h1 h2)
theorem sJ:∀l m:List D,(jM l m).length=min l.length m.length
 |[],m=>by simp[jM]
 |_::_,[]=>by simp[jM]
 |a::l,b::m=>by
  show(jM l m).length+1=_;rw[sJ l m,aR,aR];omega
section
variable{X:Cx}{fl:List Fl}{a b:Expr}{f g:FE}{p p2 pos pos2:Pos}
theorem Rg{L1 L2:List Nat}(ha:DE X fl (.B L1) a f)(hb:DE X fl (.B L2) b g)(hc:X.calm=true)(hg:Gl X "list")(hm:X.mg "list"=none)(hg2:Gl X "zip")(hm2:X.mg "zip"=none)
 (he:starEach [a,b] X.env=(false,eval a X.env)::starEach [b] X.env:=by rfl) (heb:starEach [b] X.env=(false,eval b X.env)::starEach [] X.env:=by rfl) (hpl:(backTo pos2 (starEach [b] X.env)).any (·.1)=false:=by rfl)
 (he2:starEach [.Call (.Name "zip" p2) [a,b] [] pos2] X.env=(false,eval (.Call (.Name "zip" p2) [a,b] [] pos2) X.env)::starEach [] X.env:=by rfl) (hpl2:(backTo pos (starEach [] X.env)).any (·.1)=false:=by rfl) :
 DE X fl .F (.Call (.Name "list" p) [.Call (.Name "zip" p2) [a,b] [] pos2] [] pos) (dOp wM f g):=by
 intro pins s σ H Q I hq;refine D3.ex4 hq λG ow δ d R hf q=>?_
 obtain⟨x,y,e1,e2,L⟩:=zc hf;unfold wM at L;split at L
 case h_2=>cases L
 next l m=>
 by_cases hl:l.length<=1000
 case neg=>rw[if_neg hl]at L;cases L
 rw[if_pos hl]at L
 cases L;refine ay (nH I hg hm boot_list (fw ?_ he2 hpl2));rw[he2];refine bi ?_;refine ay (nH I hg2 hm2 D3.boot_zip (fw (thn ((jx ha (jx hb nJ heb) he) pos2 pins s σ H (λvs H1=>∃v u,vs=[v,u]/\Same H H1/\(∃l1 xs,v = .ref l1/\SqL X.K H1 l1 xs/\RAs X.K (okA ow) true H1 xs l)/\∃l2 ys,u = .ref l2/\SqL X.K H1 l2 ys/\RAs X.K (okA ow) true H1 ys m) I
  ⟨G,ow,δ,_,R,e1,λv H1 s1 M=>⟨G,ow,δ,_,R.grow s1,e2,λu H2 s2 A=>⟨v,u,rfl,s1.trans s2,(let⟨l1,xs,e,hx,hr⟩:=uP M;⟨l1,xs,e,s2.seq hx,hr.same s2⟩),uP A⟩⟩⟩) λus s1 ⟨vs,H1,S,M,v,u,ev,D,rv,ru⟩=>?_) he hpl))
 subst ev;obtain⟨l1,xs,rfl,hx,hr⟩:=rv;obtain⟨l2,ys,rfl,hy,hr'⟩:=ru
 cases M with
 |cons ra rb=>
 cases rb with
 |cons rb rc=>
 cases rc
 cases ra
 cases rb;obtain⟨its,C,pl,hz⟩:=S.list hx;obtain⟨Z,O,pl',hz'⟩:=S.list hy;have il:=C.length.symm;have il':Z.length=ys.length:=O.length.symm;have xl:=hr.length;have yl:=hr'.length;refine call_zip_2 pl.isList pl'.isList λh' g1 g2 g3 g4 g5 g6 hk=>?_
 refine bX ?_;have q1:h'.IsList l1 its.toArray:=by
  obtain⟨o,ho,r⟩:=pl.isList;exact⟨o,hk _ _ ho,r⟩
 have q2:h'.IsList l2 Z.toArray:=by
  obtain⟨o,ho,r⟩:=pl'.isList;exact⟨o,hk _ _ ho,r⟩
 have Dz:=wJ g1 g2 g3 g4 g5 q1 q2 (aP (fD _)) (aP (fD _));refine Qk (s:={s1 with heap:=h'}) (S.ok.hd hc) Dz g1 g2 g3 g4 g5 q1 q2 (by rw[aM,il,xl];exact aW hl (by decide)) λY acc c kk f1 f2 f3 f4=>?_
 replace kk:∀c o,c∉[s1.heap.objs.size+4,s1.heap.objs.size+3,s1.heap.objs.size,s1.heap.objs.size+1]->h'.get? c=some o->Y.get? c=some o:=kk
 replace f4:Y.get? h'.objs.size=some {cls:=.type "list", dict:=none,data:=.seq acc c,slots:=#[]}:=f4
 replace f2:∀j,j<min its.toArray.size Z.toArray.size->∃a x y,acc[j]? = some (.ref a)/\h'.objs.size<a/\its.toArray[j]? = some x/\Z.toArray[j]? = some y/\gX Y a x y:=f2
 have fr:∀c,s1.heap.objs.size<=c->H1 c=none:=λc hc=>S.hok.fresh hc
 have kept:=λb u e=>kk b u (λz=>by
  have U:=af e;simp only[aK,cR,or_false]at z;rcases z with z|z|z|z<;>rw[z]at U
  ·exact mK.mpr (mL _ _) U
  ·exact mK.mpr (mL _ _) U
  ·exact eF _ U
  ·exact mK.mpr (mL _ _) U) (hk b u e)
 have sS:s1.heap.objs.size<=h'.objs.size:=by rw[g6];omega
 simp only[aM,il,il']at f1 f2;obtain⟨ts,tl,J⟩:=WT (P:=λj a i k=>acc[j]? = some (.ref a)/\h'.objs.size<a/\xs[j]? = some i/\ys[j]? = some k/\∃u v,gX Y a u v/\RelV i u/\RelV k v) (min xs.length ys.length) (λj E=>by
  obtain⟨a,x,y,k1,k2,k3,h,n⟩:=f2 j E;have hn1:j<xs.length:=by omega
  have hn2:j<ys.length:=by omega
  obtain⟨u1,w1,M⟩:=C.get (aA hn1);obtain⟨u2,w2,A⟩:=O.get (aA hn2);have ex:x=u1:=by
   have:its[j]? = some x:=by simpa using k3
   rw[w1]at this;exact(cO.inj this).symm
  have ey:y=u2:=by
   have:Z[j]? = some y:=by simpa using h
   rw[w2]at this;exact(cO.inj this).symm
  subst ex ey;exact⟨a,xs[j],ys[j],k1,k2,aA hn1,aA hn2,x,y,n,M,A⟩)
 have inj:∀(j j':Nat)(t t':Addr×V×V),ts[j]? = some t->ts[j']? = some t'->t.1=t'.1->j=j':=λj j' t t' h1 h2 h3=>by
  have a1:=(J j t h1).1;have a2:=(J j' t' h2).1;rw[<-h3]at a2;exact f3 j j' t.1 a1 a2
 have T:∀t∈ts,h'.objs.size<t.1/\∃u v,gX Y t.1 u v/\RelV t.2.1 u/\RelV t.2.2 v:=λt W=>by
  obtain⟨j,E⟩:=fu W;obtain⟨_,k2,_,_,n⟩:=J j t E;exact⟨k2,n⟩
 have N:acc.toList=ts.map λt=>eW t.1:=by
  apply dN;intro j;rw[bW,aU];by_cases E:j<ts.length
  ·rw[aA E];exact(J j _ (aA E)).1
  ·rw[aZ (by omega),fM (by omega)];rfl
 have tn:=λt W=>lM (T t W).1
 have low:∀b,b<s1.heap.objs.size->zU H1 h'.objs.size (ts.map λt=>V.ref t.1) ts b=H1 b:=λb hb=>Rc (λz=>by rw[z]at hb;exact mK.mpr sS hb) λt W z=>by
  have:=(T t W).1;rw[z]at this;exact mK.mpr sS (lN this hb)
 have hok:HOk X.prog X.w (zU H1 h'.objs.size (ts.map λt=>V.ref t.1) ts) Y:=λb u e=>by
  by_cases hbS:b=h'.objs.size
  ·subst hbS;rw[Q_]at e
   cases e;refine⟨by rw[aq,tl];exact aW (aW (Nat.min_le_left _ _) (by rwa[xl])) (by decide),acc.toList,c,?_,by simpa using f4⟩;rw[N];clear J tl inj T N tn low
   induction ts with
   |nil=>exact .nil
   |cons t ts ih=>exact .cons rfl ih
  ·by_cases hbt:∃t∈ts,t.1=b
   ·obtain⟨t,W,rfl⟩:=hbt;rw[Ra inj W (tn t W)]at e
    cases e;obtain⟨_,v1,v2,n,k6,k7⟩:=T t W;exact⟨show 2<=sizeLine by decide,[v1,v2],.cons k6 (.cons k7 .nil),⟨_,n,rfl,_,rfl⟩⟩
   ·rw[Rc hbS λt W z=>hbt ⟨t,W,z⟩]at e;exact(S.hok b u e).stay (λc v _ r=>kept c v r) (λc r=>by rw[low c (S.hok.lt r)];exact r) λc xs r=>by rwa[low c (S.hok.lt r)]
 have sm:Same H1 (zU H1 h'.objs.size (ts.map λt=>V.ref t.1) ts):=λb u e=>by rw[low b (S.hok.lt e)];exact e
 have I2:=Ql (t':=s1.toks) S kept low hok;have sz:Same H1 (zU H1 h'.objs.size (ts.map λt=>V.ref t.1) ts):=sm;have hrz:RAs X.K (λb=>okA ow b/\b≠h'.objs.size) true (zU H1 h'.objs.size (ts.map λt=>V.ref t.1) ts) (ts.map λt=>V.ref t.1) (jM l m):=by
  have hp:=fr _ sS;have M:=(hr.track.imp (ok':=λb=>okA ow b/\b≠h'.objs.size) (λb w=>⟨w.1,λe=>w.2 (e▸hp)⟩) (λz=>z)).same sm;have A:=(hr'.track.imp (ok':=λb=>okA ow b/\b≠h'.objs.size) (λb w=>⟨w.1,λe=>w.2 (e▸hp)⟩) (λz=>z)).same sm;have zln:(jM l m).length=ts.length:=by rw[tl,xl,yl,sJ]
  refine Rf (by rw[aq,zln]) λj v d hv hd=>?_
  rw[aU]at hv
  cases et:ts[j]? with
  |none=>rw[et]at hv;cases hv
  |some t=>
   rw[et]at hv
   cases hv;obtain⟨_,_,k3,h,_⟩:=J j t et;have lj:j<l.length:=by
    rw[<-xl];rcases dM j xs.length with z|z
    ·exact z
    ·rw[aZ z]at k3;cases k3
   have mj:j<m.length:=by
    rw[<-yl];rcases dM j ys.length with z|z
    ·exact z
    ·rw[aZ z]at h;cases h
   rw[zm,aA lj,aA mj]at hd
   cases hd;obtain⟨y1,g1,g2⟩:=M.get (aA lj);obtain⟨y2,g3,g4⟩:=A.get (aA mj);rw[k3]at g1;rw[h]at g3
   cases g1
   cases g3;exact .tup (Ra inj (gw et) (tn t (gw et))) (.cons g2 (.cons g4 .nil))
 refine⟨.ref h'.objs.size,_,I2,rfl,q _ _ (D.trans sm) (.inr ⟨h'.objs.size,_,_,rfl,rfl,D.free (fr _ sS),Q_,hrz⟩)⟩
end
end XK
variable{I:Addr}
namespace XJ
open PySem.W XS
def oW(vs:List (List L2.Key×Addr×Value)):List (List L2.Key×Addr×Value):=vs.foldl (λxs e=>storedH xs e.1 e.2.1 e.2.2) []
theorem Jj(vs:List (List L2.Key×Addr×Value))(e:List L2.Key×Addr×Value):oW (vs++[e])=storedH (oW vs) e.1 e.2.1 e.2.2:=by
 unfold oW;rw[vd];rfl
theorem GQ(xs:List (List L2.Key×Addr×Value))(k:List L2.Key)(a:Addr)(v:Value):(storedH xs k a v).length<=xs.length+1:=by
 cases h:atKey xs k with
 |none=>rw[storedH_new h];simp
 |some p=>rw[storedH_old h];simp
theorem M7:∀vs:List (List L2.Key×Addr×Value),(oW vs).length<=vs.length:=λvs=>by
 have:∀(vs acc:List (List L2.Key×Addr×Value)),(vs.foldl (λxs e=>storedH xs e.1 e.2.1 e.2.2) acc).length<=acc.length+vs.length:=λvs=>by
  induction vs with
  |nil=>exact λacc=>aB _
  |cons e vs Z=>
   intro acc;have h1:=Z (storedH acc e.1 e.2.1 e.2.2);have h2:=GQ acc e.1 e.2.1 e.2.2;rw[gP,aR];omega
 simpa[oW]using this vs []
theorem M8:∀(vs:List (List L2.Key×Addr×Value))(x:List L2.Key×Addr×Value),x∈oW vs->∃e∈vs,e.2.1=x.2.1:=λvs x=>by
 have:∀(vs acc:List (List L2.Key×Addr×Value)),x∈vs.foldl (λxs e=>storedH xs e.1 e.2.1 e.2.2) acc->(∃e∈vs,e.2.1=x.2.1)\/∃e∈acc,e.2.1=x.2.1:=λvs=>by
  induction vs with
  |nil=>exact λacc h=>.inr ⟨x,h,rfl⟩
  |cons e vs X=>
   intro acc h;rcases X _ h with⟨Z,h1,h2⟩|⟨Z,h1,h2⟩
   ·exact .inl ⟨Z,au _ h1,h2⟩
   ·have h1:Z∈storedH acc e.1 e.2.1 e.2.2:=h1
    cases Y:atKey acc e.1 with
    |none=>
     rw[storedH_new Y]at h1;rcases bZ.mp h1 with h1|h1
     ·exact .inr ⟨Z,h1,h2⟩
     ·rw[aJ.mp h1]at h2;exact .inl ⟨e,ak,h2⟩
    |some p=>
     rw[storedH_old Y]at h1;obtain⟨V,W,rfl⟩:=bK.mp h1;refine .inr ⟨V,W,?_⟩;unfold putAt at h2;split at h2<;>exact h2
 intro h;rcases this vs [] h with h|⟨_,h,_⟩
 ·exact h
 ·cases h
section
variable{prog:e9}{w:fy}{A:fm}{E:Value->eS->Prop}{s:eS}
theorem vY{k:List L2.Key}(z:(tupleKind (L2.cX prog w)).is h k b)(kp:∀o,h.get? b=some o->h'.get? b=some o):(tupleKind (L2.cX prog w)).is h' k b:=by
 obtain⟨o,its,n,h1,r⟩:=z;exact⟨o,its,n,kp o h1,r⟩
theorem zV{D:Addr}{xs:List (List L2.Key×Addr×Value)}(d:h.DictOfH (tupleKind (L2.cX prog w)) D xs)(kp:∀b o,b≠I->h.get? b=some o->h'.get? b=some o)(J:D≠I)(B:∀x∈xs,x.2.1≠I):h'.DictOfH (tupleKind (L2.cX prog w)) D xs:=by
 obtain⟨o,es,ep,h1,h2,V,W,X,Y⟩:=d;exact⟨o,es,ep,kp D o J h1,h2,V,W,λx Z=>vY (X x Z) λo q=>kp _ o (B x Z) q,Y⟩
structure PR(prog:e9)(w:fy)(h:f8)(D I l:Addr)(its:Array Value)(vs:List (List L2.Key×Addr×Value))(i:Nat):Prop where
 iter:h.IsListIter I l i
 lst:h.IsList l its
 prs:∀(j:Nat)(u:Value),its[j]? = some u->∃(a b:Addr)(k:List L2.Key)(v:Value),u=eW a/\g9 h a #[eW b,v]/\vs[j]? = some (k,b,v)/\a≠D/\a≠I/\(tupleKind (L2.cX prog w)).is h k b/\b≠D/\b≠I
 ne:l≠D/\l≠I/\D≠I
theorem GR{D l:Addr}{its:Array Value}{vs:List (List L2.Key×Addr×Value)}(P:PR prog w h D I l its vs i)(hz:vs.length=its.size):∀x∈oW (vs.take i),x.2.1≠I:=λx W=>by
 obtain⟨e,V,U⟩:=M8 _ x W;obtain⟨j,Z⟩:=fu (m_ V);have X:j<its.size:=by
  rw[<-hz];rcases dM j vs.length with z|z
  ·exact z
  ·rw[aZ z]at Z;cases Z
 obtain⟨a,b,k,v,_,_,Y,_,_,_,_,T⟩:=P.prs j its[j] (by simp[X]);rw[Z]at Y
 cases Y;rwa[<-U]
theorem Rh{D l:Addr}{its:Array Value}{vs:List (List L2.Key×Addr×Value)}{R:Result->eS->Prop}(hA:A.handled=none)(B:(tupleKind (L2.cX prog w)).room A.in1)(hz:vs.length=its.size)(hs:its.size<=1000):
 ∀(m i:Nat)(tk:Tok)(s:eS),its.size-i=m->i<=its.size->PR prog w s.heap D I l its vs i->s.heap.DictOfH (tupleKind (L2.cX prog w)) D (oW (vs.take i)) ->
  (∀h' tk,(∀b o,b≠D->b≠I->s.heap.get? b=some o->h'.get? b=some o)->h'.DictOfH (tupleKind (L2.cX prog w)) D (oW vs)->R (.ok (.ret .none)) {s with heap:=h',toks:=tk}) ->
  codeAny (model prog w) A (.builtin "dict.update.loop" ⟨[.ref D,.ref I,.int i tk,.none],[]⟩) R s:=by
 intro m
 induction m with
 |zero=>
  intro i tk s hm hi P hd G;have e:i=its.size:=by omega
  subst e;refine bq Bx ?_;rw[a6 tO _];have:its[its.size]? = none:=by simp
  refine aa (wpAny_pyNext_list_end (by simpa using hA) P.iter P.lst this λh' r=>?_);refine aa (ae (ae ?_));have N:h'.DictOfH (tupleKind (L2.cX prog w)) D (oW vs):=by
   have:=zV hd (λb o z q=>r b o z q) P.ne.2.2 (GR P hz);rwa[<-hz,List.take_length]at this
  exact G h' s.toks (λb o _ z q=>r b o z q) N
 |succ m ih=>
  intro i tk s hm hi P hd G;have W:i<its.size:=by omega
  obtain⟨u,hu⟩:∃u,its[i]? = some u:=⟨its[i],by simp[W]⟩;obtain⟨a,V,t,v,rfl,hp,hv,na,d,J,nb,S⟩:=P.prs i u hu;refine bq Bx ?_;rw[a6 tO _];refine aa (wpAny_pyNext_list_item P.iter P.lst hu λh1 O T=>?_);have k1:=λb z=>T.2 b z
  have L:g9 h1 a #[.ref V,v]:=by
   obtain⟨o,e,c⟩:=hp;exact⟨o,(k1 a d).trans e,c⟩
  have H:=zV hd (λb o z q=>(k1 b z).trans q) P.ne.2.2 (GR P hz);have K:=vY J λo q=>(k1 V S).trans q
  refine aa (ap ?_);have M:(oW (vs.take i)).length<=sizeLine:=by
   refine aW (M7 _) ?_;rw[cP];exact aW (Nat.min_le_left _ _) (aW (cG W) (aW hs (by decide)))
  have X:storedH (oW (vs.take i)) t V v=oW (vs.take (i+1)):=by
   rw[u9,hv];exact(Jj (vs.take i) (t,V,v)).symm
  obtain⟨f,e2,c2,n2,d2⟩:=id L;have hT:Shared.TypeIs {s with heap:=h1} (.ref a) "tuple" := ⟨f,e2,c2⟩;refine aa (wpAny_tryCatch ?_);refine aa (b6 hT ?_);rw[if_pos (by decide)];refine aa (bt e2 d2 (ae ?_));refine ap (wpAny_dictSet_heap (hsz:=M) B K H λh2 p Y=>?_);rw[X]at p;refine ae ⟨cf tO _,?_⟩;have k2:∀b o,b≠D->b≠I->s.heap.get? b=some o->h2.get? b=some o:=λb o z1 z2 q=>(Y.2 b z1).trans ((k1 b z2).trans q)
  have Z:∀b x,b≠D->b≠I->g9 s.heap b x->g9 h2 b x:=λb x z1 z2 ⟨o,e,c⟩=>⟨o,k2 b o z1 z2 e,c⟩
  refine ih (i+1) 0 _ (by omega) (by omega) ⟨?_,?_,λj u hj=>?_,P.ne⟩ p λh3 U k3 d3=>?_
  ·obtain⟨o,e,c⟩:=O;exact⟨o,(Y.2 I (fA P.ne.2.2)).trans e,c⟩
  ·obtain⟨o,e,c⟩:=P.lst;exact⟨o,k2 l o P.ne.1 P.ne.2.1 e,c⟩
  ·obtain⟨k,n,Q,h,rfl,q1,q2,y,C,g,E,F⟩:=P.prs j u hj;exact⟨k,n,Q,h,rfl,Z k _ y C q1,q2,y,C,vY g λo q=>k2 n o E F q,E,F⟩
  ·exact G h3 U (λb o z1 z2 q=>k3 b o z1 z2 (k2 b o z1 z2 q)) d3
theorem DN{l:Addr}{its:Array Value}{vs:List (List L2.Key×Addr×Value)}(D:A.handled=none)(B:s.heap.get? l=some {cls:=.type "list", dict:=none,data:=.seq its n,slots:=sl})
 (hp:∀(j:Nat)(u:Value),its[j]? = some u->∃(a b:Addr)(k:List L2.Key)(v:Value),u=eW a/\g9 s.heap a #[eW b,v]/\vs[j]? = some (k,b,v)/\(tupleKind (L2.cX prog w)).is s.heap k b) (hu:(tupleKind (L2.cX prog w)).room A.in1.in1) (hz:vs.length=its.size) (hs:its.size<=1000)
 (h:∀h' tk,h'.DictOfH (tupleKind (L2.cX prog w)) s.heap.objs.size (oW vs)->(∀b o,s.heap.get? b=some o->h'.get? b=some o)->Q (.ref s.heap.objs.size) {s with heap:=h',toks:=tk}) :
 wpAny (model prog w) A (PySem.call (.type "dict") [.ref l]) Q E s:=by
 refine callType_codes (Q₁:=λobj Y=>obj = .ref s.heap.objs.size/\Y={s with heap:=s.heap.push {cls:=.type "dict", data:=.dict #[]} }) F.kt_called_dict (F.kt_typeCall_dict_1 _) F.entry_dict_init (kt_code_dict_new _ ⟨rfl,rfl⟩) ?_;rintro obj Y ⟨rfl,rfl⟩;obtain⟨g,W⟩:∃g,g=s.heap.push {cls:=.type "dict", data:=.dict #[]}:=⟨_,rfl⟩;rw[<-W];have N:g.DictOf (L2.cX prog w) s.heap.objs.size []:=by rw[W];exact Heap.DictOf.new s.heap
 have S:∀b o,s.heap.get? b=some o->g.get? b=some o:=λb o q=>by rw[W];exact ad _ q
 have T:=S _ _ B;have p:Shared.TypeIs {s with heap:=g} (.ref l) "list" := ⟨_,T,rfl⟩;refine⟨N.typeIs,F.args_dict_init_2 _ _,?_⟩;unfold hJ.«dict.__init__»;refine aa ?_;refine aa (cw N.typeIs ?_);refine ae ?_;refine aa (b6 p ?_);rw[if_pos (by decide)];have R:A.in1.in1.handled=none:=by simpa using D
 refine aa (Mv (s:={s with heap:=g}) T R λh1 X k1=>?_);rw[if_pos (by rfl)];refine aa (a9 ?_);have l1:=k1 _ _ T;have y:h1.IsList l its:=⟨_,l1,rfl,n,rfl⟩;refine aa (dt (s:={s with heap:=h1,toks:=X}) y ?_);refine ae ⟨cf tO _,?_⟩;obtain⟨g2,Z⟩:∃g2,g2=h1.push {cls:=.type "list_iterator", data:=.fields #[.ref l,.int 0 0]}:=⟨_,rfl⟩;have k2:∀b o,s.heap.get? b=some o->g2.get? b=some o:=λb o q=>by rw[Z];exact ad _ (k1 _ _ (S _ _ q))
 have old:∀b o,s.heap.get? b=some o->b≠s.heap.objs.size/\b≠h1.objs.size:=λb o q=>by
  have lt:=af q;have U:=af (k1 _ _ (S _ _ q));exact⟨aP lt,aP U⟩
 have P:s.heap.objs.size≠h1.objs.size:=by
  obtain⟨o,_,_,e,_⟩:=N;exact aP (af (k1 _ _ e))
 have f:g2.DictOfH (tupleKind (L2.cX prog w)) s.heap.objs.size (oW (vs.take 0)):=by
  have O:g.DictOfH (tupleKind (L2.cX prog w)) s.heap.objs.size []:=by rw[W];exact Heap.DictOfH.new s.heap
  obtain⟨o,es,ep,e,C,G,H,r4,I⟩:=O;exact⟨o,es,ep,by rw[Z];exact ad _ (k1 _ _ e),C,G,H,(λx t=>by cases t),I⟩
 have K:=old _ _ B;rw[<-Z];refine Rh (s:={s with heap:=g2,toks:=X}) (A:=A.in1) (by simpa using D) hu hz hs its.size 0 0 rfl (cH _) ⟨⟨_,by rw[Z];exact ag _ rfl,rfl,rfl⟩,⟨_,k2 _ _ B,rfl,n,rfl⟩,λj u r=>?_,⟨K.1,K.2,P⟩⟩ f λm V z d=>?_
 ·obtain⟨a,b,k,v,rfl,⟨o,e,c⟩,q,J⟩:=hp j u r;have L:=old _ _ e;have M:b≠s.heap.objs.size/\b≠h1.objs.size:=by
   obtain⟨ob,_,_,i,_⟩:=id J;exact old _ _ i
  exact⟨a,b,k,v,rfl,⟨o,k2 _ _ e,c⟩,q,L.1,L.2,vY J λo q=>k2 b o q,M.1,M.2⟩
 ·exact⟨rfl,h m V d λb o q=>z b o (old b o q).1 (old b o q).2 (k2 b o q)⟩
end
end XJ
namespace XJ
open PySem.W L2 My D3 XK XT XD XS
def YF(K:PySem.W.Frag)(H:Hp)(y:V)(k:List Int):Prop:=∃a b,y = .ref a/\gQ H a [.ref b,.bl true]/\H b=some (.tup (k.map V.int))
theorem WW{ok:Ok}:∀{l:List D}{ks:List (List Int)}{ys:List V},rpD l=some ks->RAs K ok pl H ys l->Paired (YF K H) ys ks
 |[],ks,_,e,.nil=>by cases e;exact .nil
 |d::l,ks,_,e,.cons a q=>by
  unfold rpD at e;split at e
  ·next z=>cases z
  ·next m r z=>
   cases z;refine D3.ex1 (bind1 e) λk S e2=>?_
   cases Y:rpD l with
   |none=>rw[Y]at e2;cases e2
   |some T=>
    rw[Y]at e2
    cases e2;obtain⟨p,xs,rfl,h1,h2⟩:=a.tupE0
    cases h2 with
    |cons U Z=>
    cases Z with
    |cons Z W=>
    cases W;obtain rfl:=Z.blE;obtain⟨b,rfl,X⟩:=tQ (y:=.tuple m) (k:=k) S U;rw[vN]at X;exact .cons ⟨p,b,rfl,h1,X⟩ (WW Y q)
  ·cases e
theorem KJ:∀(es:List (List Int×Addr))(S:List (List Int))(xs:List (List L2.Key×Addr×Value)),(∀e∈es,H e.2=some (.tup (e.1.map V.int)))->KT H (dtI S) xs ->
 KT H (dtI ((es.map (·.1)).foldl iV S)) ((es.map λe=>((e.1.map fo,e.2,gq true):List L2.Key×Addr×Value)).foldl (λxs e=>storedH xs e.1 e.2.1 e.2.2) xs)
 |[],S,xs,_,h=>h
 |e::es,S,xs,Z,h=>by
  refine KJ es (iV S e.1) (storedH xs (e.1.map fo) e.2 (.bool true)) (λX Y=>Z X (au _ Y)) ?_;rw[<-Qn];exact KT.put h _ (by rw[vN];exact Z e ak) rfl
theorem Vi(S:List (List Int))(k:List Int):iV S k≠[]:=by
 unfold iV;split
 ·intro z;subst z;rename_i h
  cases h
 ·simp
theorem GX:∀(ks:List (List Int))(S:List (List Int)),(ks≠[]\/S≠[])->ks.foldl iV S≠[]
 |[],S,h=>by
  rcases h with h|h
  ·exact absurd rfl h
  ·exact h
 |k::ks,S,_=>GX ks (iV S k) (.inr (Vi S k))
theorem qj:∀(ks:List (List Int))(S:List (List Int)),(ks.foldl iV S).length<=S.length+ks.length
 |[],S=>aB _
 |k::ks,S=>by
  have h1:=qj ks (iV S k);have h2:(iV S k).length<=S.length+1:=by
   unfold iV;split<;>simp
  rw[gP,aR];omega
section
variable{X:Cx}
theorem KN{σ:L2.St}(I:L2.Inv X pins σ H s):∀{ys:List V}{us:List Value}{ks:List (List Int)},Paired (YF X.K H) ys ks->Vals ys us->∃es:List (List Int×Addr),es.length=us.length/\es.map (·.1)=ks/\(∀e∈es,H e.2=some (.tup (e.1.map V.int))) /\
 ∀(j:Nat)(u:Value),us[j]? = some u->∃(a:Addr)(e:List Int×Addr),u=eW a/\es[j]? = some e/\g9 s.heap a #[eW e.2,gq true]
 |_,_,_,.nil,.nil=>⟨[],rfl,rfl,(λe h=>by cases h),(λj u h=>by simp at h)⟩
 |_,_,_,.cons (b:=k) p ps,.cons r U=>by
  obtain⟨es,h1,h2,O,P⟩:=KN I ps U;obtain⟨a,b,rfl,R,Q⟩:=p
  cases r;obtain⟨its,Z,pt,_⟩:=I.tuple (.inl (.inl R));refine⟨(k,b)::es,by simp[h1],by simp[h2],λe W=>?_,λj u Y=>?_⟩
  ·rcases aK.mp W with rfl|W
   ·exact Q
   ·exact O e W
  ·cases j with
   |zero=>
    simp at Y;subst Y
    cases Z with
    |cons S Z=>
    cases Z with
    |cons T Z=>
    cases Z
    cases S
    cases T;exact⟨a,(k,b),rfl,rfl,pt⟩
   |succ j=>exact P j u (by simpa using Y)
theorem rm2(hu:A.units+64<cLine):(tupleKind (L2.cX P w)).room A.in1.in1:=ba (A:=A.in1) (by
 have:A.in1.units<=A.units+1:=by
  first|exact aB _|(unfold Around.in1;simp)
 omega)
theorem Jk(hu:X.A.units+64<cLine)(hA:X.A.handled=none):lG X (.type "dict") (λxs H Q=>∃(p:Addr)(ys:List V)(ks:List (List Int)),xs=[.ref p]/\SqL X.K H p ys/\ys.length<=1000/\Paired (YF X.K H) ys ks/\∀l,H l=none->Q (.ref l) (upd H l (if ks=[]then .dK []else .dT (dtI (ks.foldl iV []))))):=by
 intro pins s σ H xs us Q I r h;obtain⟨p,ys,ks,rfl,W,C,O,q⟩:=h;obtain⟨u,rfl,E⟩:=vals1 r
 cases E;obtain⟨its,Z,pl,t⟩:=I.list W;obtain⟨⟨c,d,i,sl⟩,n,e,rfl,rfl,rfl⟩:=pl;obtain⟨es,F,S,T,G⟩:=KN I O Z;have len:its.length=ys.length:=Z.length.symm;have U:=I.hok.fresh (aB _);refine DN (vs:=es.map λe=>(e.1.map fo,e.2,gq true)) hA e (λj u B=>?_) (rm2 hu) (by simpa using F) (by simp;omega) λh' tk v k=>?_
 ·obtain⟨a,e,rfl,h1,h2⟩:=G j u (by simpa using B);refine⟨a,e.2,e.1.map fo,.bool true,rfl,h2,by rw[aU,h1];rfl,uR I.hok ?_⟩;rw[vN];exact T e (gw h1)
 ·have P:=KJ (H:=H) es [] [] T .nil;rw[S]at P;obtain⟨o,Y,ep,g1,g2,g3,M,m,y⟩:=v;have R:=beq_eq_false_iff_ne.mpr (fA (aP (big I)));by_cases N:ks=[]
  ·subst N;obtain rfl:es=[]:=List.map_eq_nil_iff.mp S;have L:=M;exact⟨.ref _,_,I.laid (h':=h') (t':=tk) (a:=s.heap.objs.size) (o:=.dK []) k (aB _) ⟨cH _,R,[],.nil,o,Y,ep,g1,g2,g3,λx W=>(by rw[Array.mem_def,L]at W;cases W),by rw[L];exact .nil,.nil⟩,rfl,q _ U⟩
  ·have q:=q _ U;rw[if_neg N]at q;exact⟨.ref _,_,I.laid (h':=h') (t':=tk) (a:=s.heap.objs.size) (o:=.dT (dtI (ks.foldl iV []))) k (aB _) ⟨by
    have z:=qj ks [];have D:=O.length.symm;unfold dtI;rw[aq];refine aW z ?_;rw[iz,eX,D];exact aW C (by decide),R,_,KT.keeps P λc J w=>by rwa[bF (jw w U)],o,Y,ep,g1,g2,g3,M,y⟩,rfl,q⟩
theorem Ri(hu:X.A.units+64<cLine)(hA:X.A.handled=none)(ha:DB X fl .P [e] fa)(D:Gl X "dict")(hm:X.mg "dict"=none)
 (J:starEach [e] X.env=(false,eval e X.env)::starEach [] X.env:=by rfl) (B:(backTo pos (starEach [] X.env)).any (·.1)=false:=by rfl):DE X fl .C (.Call (.Name "dict" p) [e] [] pos) (dCall zK fa):=by
 intro pins s σ H Q I h;refine D3.ex4 h λG ow δ d R O q=>?_
 refine D3.ex1 (bind1 O) λds M e2=>?_
 unfold zK at e2;split at e2
 case h_2=>cases e2
 next l=>
 refine D3.ex1 (bind1 e2) λks N Z=>?_
 by_cases V:l.length<=1000
 case neg=>rw[if_neg V]at Z;cases Z
 rw[if_pos V]at Z
 cases Z;refine pY (Jk hu hA) D hm (show bootBuiltins "dict"=some (.type "dict")by decide +kernel) ha (by decide) (by decide) J B pins s σ H Q I ⟨G,ow,δ,_,R,M,λvs H' sm r'=>?_⟩
 cases r' with
 |cons T U=>
  cases U;obtain⟨a,ys,rfl,S,W⟩:=T.lstE;refine⟨a,ys,ks,rfl,S,by rwa[W.length],WW N W,λL hn=>q _ _ (sm.trans (cM hn _)) (.dic bT (.inl ⟨wN (vL _),?_⟩) (sm.free hn))⟩;by_cases Y:ks=[]
  ·subst Y;rfl
  ·rw[if_neg Y,zM (vL _) (GX ks [] (.inl Y))]
end
end XJ
namespace XV
open L2 My D3
end XV
namespace D3
def sY(i:Nat)(fk:FE):FS:=λδ=>(aj i δ).bind λx=>(fk δ).bind λy=>(Qe x).bind λS=>(zJ y).bind λk=>if S.length<1000000 then some (.nx (δ.set i (some (.d (dsT (iV S k))))))else none
end D3
namespace XJ
open L2 My D3 XK XT
section
variable{K:PySem.W.Frag}{fl:List Fl}
theorem Jh(h:tsD kvs=some []):kvs=[]:=by
 cases kvs with
 |nil=>rfl
 |cons q r=>
  obtain⟨a,b⟩:=q;unfold tsD at h;split at h
  ·next e=>cases e
  ·next e=>
   cases e;refine D3.ex1 (bind1 h) λk Y e2=>?_
   cases Z:tsD r with
   |none=>rw[Z]at e2;cases e2
   |some z=>rw[Z]at e2;cases e2
  ·cases h
theorem M9{σ:L2.St}{x:D}(R:Rel K fl G ow σ H δ)(O:fl[i]? = some .N)(hx:aj i δ=some x)(B:Qe x=some []):
 ∃a,σ[i]? = some (some (.ref a))/\H a=some (.dK [])/\∀H',Same H H'->∀J,J≠[]->∃W,Rel K fl G W σ (upd H' a (.dT (dtI J))) (δ.set i (some (.d (dsT J)))):=by
 have e:=lY hx;have hi:i<δ.length:=by
  rcases dM i δ.length with z|z
  ·exact z
  ·rw[aZ z]at e;cases e
 obtain⟨v,h1,h2,U⟩:=R.nr i x (by rw[O];rfl) e;generalize Y:ow.n i=as at h2 U
 cases h2 with
 |dic ha V=>
  rename_i a u kvs;have X:=Jh B;subst X;rw[V.old rfl]at ha;refine⟨a,h1,ha,λH' s J Z=>?_⟩;refine(R.grow s).mutN (as:=[a]) O hi (by rw[Y];exact iZ _) (s _ _ ha) h1 ?_ (λb T=>by rwa[Y]) (b_.mpr ⟨cR,.nil⟩);refine .dic bT (.inl ⟨wN (vL J),?_⟩);rw[zM (vL J) Z]
 |non=>cases B
 |bl _=>cases B
 |int _=>cases B
 |str _=>cases B
 |lst _ _=>cases B
 |tup _ _=>cases B
end
def YG:V->V->V->Hp->(Hp->Prop)->Prop:=λo i v H Q=>WM o i v H Q\/∃p k b,o = .ref p/\i = .ref b/\H p=some (.dK [])/\H b=some (.tup (kE kV k))/\Q (upd H p (.dT [(k,v)]))
section
variable{X:Cx}{fl:List Fl}{e ke:Expr}{fk:FE}{pos:Pos}
theorem M_(hu:X.A.units+1<cLine):Tz X YG:=by
 intro pins s σ H o i v S R u Q I W V Y h;rcases h with h|⟨p,k,b,rfl,rfl,U,P,q⟩
 ·exact Qq hu pins s σ H o i v S R u Q I W V Y h
 ·cases W;have Z:upd H p (.dT []) b=some (.tup (kE kV k)):=by
   rwa[bF (iR P U (λz=>nomatch z))]
  exact BK hu (Qy I U) (Jf.t bT Z (show 0<sizeLine by decide)) V Y λs' T=>⟨_,by rw[JK]at T;exact T,q⟩
theorem Rj(hu:X.A.units+1<cLine){i:Nat}{x:Str}{vpos spos:Pos}(B:fl[i]? = some .N)(he:PE X e (tC (.bl true)))(hk:DE X fl .P ke fk)(hN:X.N[i]? = some x)(hv:Vis X.env.scope x:=by first|exact f7 rfl|exact fF (f7 rfl)|exact fF (fF rfl))(hd:(x==("__debug__":Str))=false:=by decide)
 (O:(x==("__classdict__":Str))=false:=by decide) (ha:∀v,assign (.Subscript (.Name x vpos) ke spos) X.env v=(do
  let D <-holding [v] (eval (.Name x vpos) X.env)
  let J <-holding [v,D] (eval ke X.env)
  standAt spos
  holding [v,D,J] (setItem D J v)
  release [v,D,J] []):=by intro _;rfl)
 (hs:swapsWithSole [.Subscript (.Name x vpos) ke spos] e pos.line X.env=pure false:=by rfl) (hw:swappedStores [.Subscript (.Name x vpos) ke spos] e X.env=pure none:=by rfl)
 (h1:(assignEach [.Subscript (.Name x vpos) ke spos] X.env).map (·.2)=[assign (.Subscript (.Name x vpos) ke spos) X.env]:=by rfl) :
 DS1 X fl (.Assign [.Subscript (.Name x vpos) ke spos] e pos) (sY i fk):=
 PS.imp (H_ he (Ob (oM hN hv hd O) hk (M_ hu) ha) hs hw h1) λDn σ H h=>by
 refine D3.ex4 h λG ow δ o R Z q=>?_
 refine D3.ex1 (bind1 Z) λy I Z=>?_
 refine D3.ex1 (bind1 Z) λz e2 Z=>?_
 refine D3.ex1 (bind1 Z) λS K Z=>?_
 refine D3.ex1 (bind1 Z) λk L Z=>?_
 by_cases V:S.length<1000000
 case neg=>rw[if_neg V]at Z;cases Z
 rw[if_pos V]at Z
 cases Z;by_cases Q:S=[]
 ·subst Q;obtain⟨p,h1,h2,M⟩:=M9 R B I K;refine⟨_,h1,G,ow,δ,_,R,e2,λu H2 s2 W=>?_⟩;obtain⟨b,rfl,U⟩:=tQ L W;obtain⟨Y,R'⟩:=M H2 s2 [k] (by simp);exact .inr ⟨p,k.map fo,b,rfl,rfl,s2 _ _ h2,U,q Y σ _ R'⟩
 ·obtain⟨p,h1,h2,M⟩:=Qo R B I K Q;refine⟨_,h1,G,ow,δ,_,R,e2,λu H2 s2 W=>?_⟩;obtain⟨b,rfl,U⟩:=tQ L W;have T:iV S k≠[]:=by
   unfold iV;split
   ·exact Q
   ·simp
  obtain⟨Y,R'⟩:=M H2 s2 (iV S k) T;refine .inl ⟨p,dtI S,k.map fo,b,rfl,rfl,s2 _ _ h2,U,by unfold dtI;rw[aq];exact lN V (by decide),?_⟩;rw[Qn];exact q Y σ _ R'
end
end XJ
namespace D3
def ndN:D->Bool
 | .tuple [s,.list Z]=>flat s&&Z.all fl1 && @decide (Z.filter isL).Nodup (g0 _)
 |_=>false
def dNm(fa:FE):FE:=λδ=>(fa δ).bind λd=>if ndN d=true then some d else none
def DP(i:Nat)(fj fk f:FE):FS:=λδ=>(aj i δ).bind λx=>(fj δ).bind λj=>(fk δ).bind λk=>(f δ).bind λd=>match x,j,k with
 | .tuple l,.int j,.int k=>(pIx l.length j).bind λn=>match l[n]? with
  |some (.list m)=>(pIx m.length k).bind λr=>match m[r]? with
   |some (.list q)=>if flat d=true/\q.length<1000000 then some (.nx (δ.set i (some (.d (.tuple (l.set n (.list (m.set r (.list (q++[d]))))))))))
    else none
   |_=>none
  |_=>none
 |_,_,_=>none
def KQ(i:Nat)(fk:FE):FS:=λδ=>(aj i δ).bind λx=>(fk δ).bind λk=>match x,k with
 | .tuple l,.int j=>(pIx l.length j).bind λn=>match l[n]? with
  |some (.list m)=>if m=[]then none else some (.nx (δ.set i (some (.d (.tuple (l.set n (.list m.dropLast)))))))
  |_=>none
 |_,_=>none
end D3
namespace XK
open L2 My D3
section
variable{K:PySem.W.Frag}{H:Hp}
theorem Rm:(∀{v:V}{d:D}{as:List Addr},RT K H v d as->flat d=true->∀d' B,RT K H v d' B->d=d')/\∀{v:List V}{d:List D}{as:List Addr},RTs K H v d as->flats d=true->∀d' B,RTs K H v d' B->d=d':=
 RT.ind (λ_ _ _ r=>by cases r;rfl) (λ_ _ _ _ r=>by cases r;rfl) (λ_ _ _ _ r=>by cases r;rfl) (λ_ _ _ _ r=>by cases r;rfl) (λ_ _ h=>by simp[flat]at h) (λ{a xs ds as} t q h d' B r=>by
  cases r with
  |lst e _=>rw[t]at e;cases e
  |tup e r=>
   unfold gQ at e;rw[t]at e
   cases e;rw[q (by simpa[flat]using h) _ _ r]
  |dic e g=>
   rw[t]at e
   cases e;exact(g.chg).tup.elim) (λ_ _ h=>by simp[flat]at h) (λ_ _ _ r=>by cases r;rfl) λe q h d' B r=>by
  cases r with
  |cons Y Z=>
   rw[flats,aV]at h;rw[e h.1 _ _ Y,q h.2 _ _ Z]
theorem GZ{ok:Ok}:∀{l:List D}{xs:List V},flats l=true->RAs K ok false H xs l->RTs K H xs l []
 |[],_,_,.nil=>.nil
 |d::l,_,Z,.cons X Y=>by
  rw[flats,aV]at Z;have:=RTs.cons (RT.flat0 Z.1 X) (GZ Z.2 Y);simpa using this
theorem BZ{ok:Ok}:∀{vs:List V}{ds:List D},RAs K ok false H vs ds->ds.all fl1=true->(ds.filter isL).Nodup->∃as,RTs K H vs ds as/\as.Nodup/\∀a∈as,ok a/\∃l xs,.list l∈ds/\H a=some (.lst xs)/\flats l=true/\RTs K H xs l []
 |_,_,.nil,_,_=>⟨[],.nil,.nil,λ_ h=>(by cases h)⟩
 |_,_,.cons (d:=d) (ds:=ds) r q,h,nd=>by
  rw[List.all_cons,aV]at h;obtain⟨as,h1,h2,U⟩:=BZ q h.2 (((List.sublist_cons_self d ds).filter isL).nodup nd);have Y:∀a∈as,ok a/\∃l xs,.list l∈d::ds/\H a=some (.lst xs)/\flats l=true/\RTs K H xs l []:=λa ha=>by
   obtain⟨P,l,xs,g1,g2⟩:=U a ha;exact⟨P,l,xs,au _ g1,g2⟩
  by_cases e:∃l,d = .list l
  ·obtain⟨l,rfl⟩:=e
   cases r with
   |lst X k S=>
    rename_i a xs;have Z:=h.1;have W:=GZ Z S;refine⟨(a::[])++as,.cons (.lst X W) h1,b_.mpr ⟨λz=>?_,h2⟩,λb R=>?_⟩
    ·obtain⟨_,O,T,g1,g2,g3,Q⟩:=U a z;rw[X]at g2
     cases g2;obtain rfl:=Rm.2 W Z _ _ Q;rw[jc rfl,b_]at nd;exact nd.1 (dG.mpr ⟨g1,rfl⟩)
    ·rcases aK.mp R with rfl|z
     ·exact⟨k,l,_,ak,X,Z,W⟩
     ·exact Y b z
   |lsk _ z _=>cases z
  ·have Z:flat d=true:=by
    have h1:=h.1
    cases d<;>first|exact h1|exact absurd ⟨_,rfl⟩ e
   exact⟨[]++as,.cons (RT.flat0 Z r) h1,h2,Y⟩
theorem G3:∀{vs:List V}{ds:List D}{as:List Addr},RTs K H vs ds as->∃bs,RTs K H vs.dropLast ds.dropLast bs/\bs.Sublist as
 |_,_,_,.nil=>⟨[],.nil,.slnil⟩
 |_,_,_,.cons _ .nil=>⟨[],.nil,List.nil_sublist _⟩
 |_,_,_,.cons e (.cons e2 q)=>by
  obtain⟨bs,h1,h2⟩:=G3 (.cons e2 q);exact⟨_,.cons e h1,List.Sublist.append_left h2 _⟩
theorem Jl:∀{vs:List V}{ds:List D}{as:List Addr}{k:Nat},RTs K H vs ds as->ds[k]? = some d->as.Nodup->∃v bs,vs[k]? = some v/\RT K H v d bs/\(∀b∈bs,b∈as)/\bs.Nodup /\
 ∀c u o d' B,c∈bs->H c=some u->Chg u->RT K (L2.upd H c o) v d' B->(∀b∈B,b∈bs)->B.Nodup->∃J,RTs K (L2.upd H c o) vs (ds.set k d') J/\J.Nodup/\∀b∈J,b∈as
 |_,_,_,_,.nil,h,_=>by simp at h
 |_,_,_,0,.cons (as:=Y) (bs:=W) e q,h,nd=>by
  simp at h;subst h;obtain⟨n1,n2,X⟩:=gG.mp nd;refine⟨_,Y,rfl,e,λb Z=>bN _ Z,n1,λc u o d' B U hu P r hs hn=>⟨B++W,.cons r (RTs.upd hu (λz=>X c U c z rfl) q),gG.mpr ⟨hn,n2,λx S y T=>X x (hs x S) y T⟩,λb Z=>?_⟩⟩;rcases bZ.mp Z with z|z
  ·exact bN _ (hs b z)
  ·exact bx _ z
 |_,_,_,k+1,.cons (as:=Y) (bs:=W) e q,h,nd=>by
  obtain⟨n1,n2,X⟩:=gG.mp nd;obtain⟨v,bs,h1,h2,Q,L,M⟩:=Jl (k:=k) q (by simpa using h) n2;refine⟨v,bs,by simpa using h1,h2,λb Z=>bx _ (Q b Z),L,λc u o d' B U hu P r hs hn=>?_⟩;obtain⟨J,N,O,R⟩:=M c u o d' B U hu P r hs hn;refine⟨Y++J,.cons (RT.upd hu (λz=>X c z c (Q c U) rfl) e) N,gG.mpr ⟨n1,O,λx S y T=>X x S y (R y T)⟩,λb Z=>?_⟩;rcases bZ.mp Z with z|z
  ·exact bN _ z
  ·exact bx _ (R b z)
theorem part1{Gl:Prop}{σ:L2.St}{m:List D}(R:Rel K fl G ow σ H δ)(O:fl[i]? = some .N)(Y:aj i δ=some (.tuple l))(hm:l[n]? = some (.list m))
 (W:∀p vs a xs bs as,σ[i]? = some (some (.ref p))->vs.length=l.length->gQ H p vs->vs[n]? = some (.ref a)->H a=some (.lst xs)->RTs K H xs m bs->(a::bs).Nodup->ow.n i=as->(∀b∈a::bs,b∈as)->(∀c u o d' B,c∈a::bs->H c=some u->Chg u->RT K (L2.upd H c o) (.ref a) d' B->(∀b∈B,b∈a::bs)->B.Nodup->∃J,RTs K (L2.upd H c o) vs (l.set n d') J/\J.Nodup/\∀b∈J,b∈as)->i<δ.length->Gl):Gl:=by
 have e:=lY Y;have hi:i<δ.length:=by
  rcases dM i δ.length with z|z
  ·exact z
  ·rw[aZ z]at e;cases e
 obtain⟨v,h1,h2,Z⟩:=R.nr i _ (by rw[O];rfl) e;generalize V:ow.n i=as at h2 Z
 cases h2 with
 |tup X q=>
  obtain⟨Q,S,g1,g2,g3,T,U⟩:=Jl q hm Z
  cases g2 with
  |lst ha q1=>exact W _ _ _ _ _ _ h1 q.length X g1 ha q1 T V g3 U hi
theorem part2{Gl:Prop}{σ:L2.St}{m r:List D}{k:Nat}(R:Rel K fl G ow σ H δ)(B:fl[i]? = some .N)(hx:aj i δ=some (.tuple l))(hm:l[n]? = some (.list m))(hr:m[k]? = some (.list r))
 (kk:∀p vs a xs b ys,σ[i]? = some (some (.ref p))->vs.length=l.length->gQ H p vs->vs[n]? = some (.ref a)->H a=some (.lst xs)->xs.length=m.length->xs[k]? = some (.ref b)->H b=some (.lst ys)->ys.length=r.length ->
  (∀w d,RT K H w d []->∃J,Rel K fl G J σ (L2.upd H b (.lst (ys++[w]))) (δ.set i (some (.d (.tuple (l.set n (.list (m.set k (.list (r++[d]))))))))) )->Gl):Gl:=
 part1 R B hx hm λp vs a xs bs as h1 h2 T g1 ha q1 F S g3 I hi=>by
 obtain⟨n1,n2⟩:=b_.mp F;obtain⟨v,C,f1,f2,f3,Q,E⟩:=Jl q1 hr n2
 cases f2 with
 |lst Z q2=>
  rename_i b ys A;refine kk p vs a xs b ys h1 h2 T g1 ha q1.length f1 Z q2.length λw d Y=>?_
  obtain⟨L,u⟩:=b_.mp Q;have x:a≠b:=λz=>n1 (z▸f3 b ak)
  have V:b∈a::bs:=au _ (f3 b ak);obtain⟨W,k1,k2,U⟩:=E b _ (.lst (ys++[w])) (.list (r++[d])) (b::A) ak Z inferInstance (.lst bT ((RTs.upd Z L q2).snoc (RT.upd Z cR Y))) (λ_ z=>z) Q;obtain⟨y,M,O,P⟩:=I b _ (.lst (ys++[w])) (.list (m.set k (.list (r++[d])))) (a::W) V Z inferInstance (.lst (by rw[bF x];exact ha) k1) (λc X=>by
   rcases aK.mp X with rfl|z
   ·exact ak
   ·exact au _ (U c z)) (b_.mpr ⟨λz=>n1 (U a z),k2⟩)
  exact R.mutN B hi (by rw[S];exact g3 b V) Z h1 (.tup (gQ.upd Z T) M) (λc X=>by rw[S];exact P c X) O
theorem part3{Gl:Prop}{σ:L2.St}{m:List D}(R:Rel K fl G ow σ H δ)(B:fl[i]? = some .N)(hx:aj i δ=some (.tuple l))(hm:l[n]? = some (.list m))
 (O:∀p vs a xs,σ[i]? = some (some (.ref p))->vs.length=l.length->gQ H p vs->vs[n]? = some (.ref a)->H a=some (.lst xs)->xs.length=m.length->(∃J,Rel K fl G J σ (L2.upd H a (.lst xs.dropLast)) (δ.set i (some (.d (.tuple (l.set n (.list m.dropLast)))))))->Gl):Gl:=
 part1 R B hx hm λp vs a xs bs as h1 h2 Y g1 ha q1 W X g3 Q hi=>by
 refine O p vs a xs h1 h2 Y g1 ha q1.length ?_;obtain⟨n1,n2⟩:=b_.mp W;obtain⟨P,M,V⟩:=G3 (RTs.upd (o:=.lst xs.dropLast) ha n1 q1);obtain⟨L,S,T,U⟩:=Q a _ (.lst xs.dropLast) (.list m.dropLast) (a::P) ak ha inferInstance (.lst bT M) (λc Z=>(iv a V).subset Z) ((iv a V).nodup W);exact R.mutN B hi (by rw[X];exact g3 a ak) ha h1 (.tup (gQ.upd ha Y) S) (λc Z=>by rw[X];exact U c Z) T
end
section
variable{X:Cx}{fl:List Fl}{e ke je:Expr}{f fk fj:FE}{pos:Pos}
theorem YH(h:DE X fl .C e f):DE X fl .T e (dNm f):=FN h λHb H G ow σ δ v d Y R r=>by
 unfold ndN at Y;split at Y
 case h_2=>cases Y
 next s O=>
 rw[aV,aV,@decide_eq_true_iff _ (g0 _)]at Y
 cases r with
 |tup P Z=>
  cases Z with
  |cons U Z=>
   cases Z with
   |cons V Z=>
    cases Z
    cases V with
    |lsk _ z _=>cases z
    |lst W k Z=>
     obtain⟨as,g1,g2,g3⟩:=BZ Z Y.1.2 Y.2;have:=RTs.cons (RT.flat0 Y.1.1 U) (.cons (.lst W g1) .nil);refine⟨_,.tup P this,?_,?_⟩
     ·rw[cT,cA];refine b_.mpr ⟨λz=>?_,g2⟩;obtain⟨_,l,xs,q1,q2,Q,S⟩:=g3 _ z;rw[W]at q2
      cases q2;obtain rfl:=Rm.2 S Q _ _ g1;have:=List.sizeOf_lt_of_mem q1;simp at this;omega
     ·intro a ha;rw[cT,cA]at ha;rcases aK.mp ha with rfl|z
      ·exact k
      ·exact(g3 a z).1
theorem Vj{Gl:Prop}{o:Oc}(h:KQ i fk δ=some o)(B:∀l j n m,aj i δ=some (.tuple l)->fk δ=some (.int j)->pIx l.length j=some n->l[n]? = some (.list m)->m≠[]->o = .nx (δ.set i (some (.d (.tuple (l.set n (.list m.dropLast))))))->Gl):Gl:=by
 refine D3.ex1 (bind1 h) λy X h1=>?_
 refine D3.ex1 (bind1 h1) λk e2 h2=>?_
 clear h h1;split at h2
 case h_2=>cases h2
 next l j=>
 refine D3.ex1 (bind1 h2) λn Y Z=>?_
 clear h2;split at Z
 case h_2=>cases Z
 next m em=>
 by_cases hm:m=[]
 case pos=>rw[if_pos hm]at Z;cases Z
 rw[if_neg hm]at Z
 cases Z;exact B l j n m X e2 Y em hm rfl
theorem Vk(J:fl[i]? = some .N)(hk:DE X fl .P ke fk)(hN:X.N[i]? = some x)(O:qM ke)(hv:Vis X.env.scope x:=by first|exact f7 rfl|exact fF (f7 rfl)|exact fF (fF rfl))(hd:(x==("__debug__":Str))=false:=by decide)
 (W:(x==("__classdict__":Str))=false:=by decide)
 (hs:swapsWith (.Call (.Attribute (.Subscript (.Name x vpos) ke spos) "pop" apos) [] [] cpos) none pos.line X.env=pure false:=by rfl)
 (D:attributeBase (.Subscript (.Name x vpos) ke spos) "pop" X.env (eval (.Subscript (.Name x vpos) ke spos) X.env)=eval (.Subscript (.Name x vpos) ke spos) X.env:=by rfl)
 (B:(apos.endLine==cpos.line)=true:=by rfl) :
 DS1 X fl (.Expr (.Call (.Attribute (.Subscript (.Name x vpos) ke spos) "pop" apos) [] [] cpos) pos) (KQ i fk):=
 PS.imp (vf (XM PySem.F.plainAttrs_list PySem.F.slot_list_pop PySem.F.type_list_pop XQ (Fi yO (oM hN hv hd W) hk O) D B) hs) λDn σ H Z=>by
 refine Z.elim λG Z=>Z.elim λow Z=>Z.elim λδ Z=>Z.elim λo Z=>?_
 have R:=Z.1;refine Vj Z.2.1 λl j n m U e2 A em hm C=>?_
 subst C;refine part3 R J U em λp vs a xs L t M Q V v q=>⟨_,L,G,ow,δ,_,R,e2,λu H1 s1 E=>?_⟩
 obtain rfl:=RA.intE E;refine .inr (.inl ⟨p,vs,j,.ref a,rfl,rfl,Fp s1 M.sq,I_ (by rw[t];exact A) Q,.inl ⟨rfl,_,SqL.of (s1 _ _ V)⟩,a,xs,_,rfl,rfl,s1 _ _ V,aA (i:=xs.length-1) (by rw[v];have:=j8.mpr hm;omega),?_⟩);refine part3 (R.grow s1) J U em λp' I k K S r w T y s z=>?_
 rw[L]at S
 cases S
 cases(gQ.same s1 M).symm.trans w;rw[Q]at T
 cases T
 cases(s1 _ _ V).symm.trans y;exact z.elim λY R'=>Z.2.2 Y σ _ R'
theorem Rn{Gl:Prop}{o:Oc}(h:DP i fj fk f δ=some o)(B:∀l j k n m t r d,aj i δ=some (.tuple l)->fj δ=some (.int j)->fk δ=some (.int k)->f δ=some d->pIx l.length j=some n->l[n]? = some (.list m)->pIx m.length k=some t->m[t]? = some (.list r)->flat d=true/\r.length<1000000->o = .nx (δ.set i (some (.d (.tuple (l.set n (.list (m.set t (.list (r++[d])))))))) )->Gl):Gl:=by
 refine D3.ex1 (bind1 h) λy P h1=>?_
 refine D3.ex1 (bind1 h1) λj e2 h2=>?_
 refine D3.ex1 (bind1 h2) λk Q V=>?_
 refine D3.ex1 (bind1 V) λd R X=>?_
 clear h h1 h2 V;split at X
 case h_2=>cases X
 next l j k=>
 refine D3.ex1 (bind1 X) λn S Y=>?_
 clear X;split at Y
 case h_2=>cases Y
 next m em=>
 refine D3.ex1 (bind1 Y) λt T Z=>?_
 clear Y;split at Z
 case h_2=>cases Z
 next r U=>
 by_cases W:flat d=true/\r.length<1000000
 case neg=>rw[if_neg W]at Z;cases Z
 rw[if_pos W]at Z
 cases Z;exact B l j k n m t r d P e2 Q R S em T U W rfl
theorem Ro{B:Pos}(hfl:fl[i]? = some .N)(hj:DE X fl .P je fj)(hk:DE X fl .P ke fk)(h:DE X fl .P e f)(hN:X.N[i]? = some x)(hsj:qM je)(hsx:qM ke)(hv:Vis X.env.scope x:=by first|exact f7 rfl|exact fF (f7 rfl)|exact fF (fF rfl))(hd:(x==("__debug__":Str))=false:=by decide)
 (hcd:(x==("__classdict__":Str))=false:=by decide)
 (hs:swapsWith (.Call (.Attribute (.Subscript (.Subscript (.Name x vpos) je spos) ke B) "append" apos) [e] [] cpos) none pos.line X.env=pure false:=by rfl)
 (O:attributeBase (.Subscript (.Subscript (.Name x vpos) je spos) ke B) "append" X.env (eval (.Subscript (.Subscript (.Name x vpos) je spos) ke B) X.env)=eval (.Subscript (.Subscript (.Name x vpos) je spos) ke B) X.env:=by rfl)
 (hfew:((backTo cpos (starEach [e] X.env)).all (λx=>!x.1)&&(backToKw cpos (keywordEach [] X.env)).all (λx=>x.1.isSome)
  && decide (([e]:List Expr).length+([]:List h8).length+(if([]:List h8).isEmpty then 0 else 1)<30))=true:=by rfl)
 (J:(apos.endLine==cpos.line)=true:=by rfl) (hst:starEach [e] X.env=(false,eval e X.env)::starEach [] X.env:=by rfl) (D:(backTo cpos (starEach [] X.env)).any (·.1)=false:=by rfl) :
 DS1 X fl (.Expr (.Call (.Attribute (.Subscript (.Subscript (.Name x vpos) je spos) ke B) "append" apos) [e] [] cpos) pos) (DP i fj fk f):=
 PS.imp (vf (Wu PySem.F.plainAttrs_list PySem.F.slot_list_append PySem.F.type_list_append wC (Fi yO (Fi yO (oM hN hv hd hcd) hj hsj) hk hsx) (jx h nJ hst) O hfew J hst D) hs) λDn σ H Y=>by
 refine Y.elim λG Y=>Y.elim λow Y=>Y.elim λδ Y=>Y.elim λo Y=>?_
 have R:=Y.1;refine Rn Y.2.1 λl j k n m t r d M e2 e3 e4 e5 em e6 Q S eo=>?_
 subst eo;refine part2 R hfl M em Q λp vs a xs b ys y c2 z A C c6 E T c9 _=>⟨_,y,G,ow,δ,_,R,e2,λu H1 s1 r1=>?_⟩
 obtain rfl:=RA.intE r1;refine .inr (.inl ⟨p,vs,j,.ref a,rfl,rfl,(Fp s1 z.sq),I_ (by rw[c2];exact e5) A,G,ow,δ,_,R.grow s1,e3,λu2 H2 s2 c=>?_⟩);obtain rfl:=RA.intE c;have W:=s1.trans s2;refine .inl ⟨a,xs,k,.ref b,rfl,rfl,SqL.of (W _ _ C),I_ (by rw[c6];exact e6) E,.inl ⟨rfl,_,SqL.of (W _ _ T)⟩,G,ow,δ,d,R.grow W,e4,λw H3 s3 g=>?_⟩;have Z:=W.trans s3;refine⟨b,ys,w,rfl,rfl,Z _ _ T,by rw[c9];exact lN S.2 (by decide),?_⟩;refine part2 (R.grow Z) hfl M em Q λp' q a' s b' v I d2 d3 K d5 d6 L d8 d9 U=>?_
 rw[y]at I
 cases I
 cases(gQ.same Z z).symm.trans d3;rw[A]at K
 cases K
 cases(Z _ _ C).symm.trans d5;rw[E]at L
 cases L
 cases(Z _ _ T).symm.trans d8;exact(U w d (RT.flat0 S.1 g)).elim λV R'=>Y.2.2 V σ _ R'
end
end XK
namespace XL
open PySem.W L2 My D3
abbrev Rp(x y:Str)(p1 p2 p3 p4 p5:Pos)(kd:Nat):Expr:=.Subscript (.Subscript (.Name x p1) (.Name y p2) p3) (.Constant (.int 0) kd p4) p5
section
variable{prog:e9}{w:fy}{A:fm}{R:Result->eS->Prop}{s:eS}{f c' a b cell:Addr}{nm q x y:Str}{params:iq}{scope:hV}{pm ctv:Value}{p1 p2 p3 p4 p5:Pos}{kd:Nat}{i k:Int}{j:Nat}{t t':Tok}{its its2:Array Value}
theorem Rq{x:Value}(O:s.heap.IsList a its)(D : -(its.size:Int)<=i)(J:i<its.size)(hsz:its.size<=sizeLine)(B:seqIndex? i its.size=some j)(hi:its[j]? = some x)(h:Q x s):
 wpAny (model prog w) A (getItem (.ref a) (.int i t)) Q E s:=by
 have hn:=wA;by_cases Y:0<=i
 ·have Z:i.toNat=j:=by
   rw[er Y J]at B;exact cO.inj B
  exact wpAny_getItem_list O Y (by omega) (by rwa[Z]) h
 ·have Z:(i+(its.size:Int)).toNat=j:=by
   rw[dE (by omega) D]at B;exact cO.inj B
  exact wpAny_getItem_list_neg O (by omega) D (by omega) (by rwa[Z]) h
theorem Vl(ho:s.heap.get? f=some (kla_obj nm q params (Rp x y p1 p2 p3 p4 p5 kd) scope [(x,cell)] pm c' ctv))(hcd:s.heap.CodeRec (.ref c') q)(B:A.depth<recursionLimit)(hlim:s.heap.NoLimit)
 (O:∀u,bindArgs (kla_fn nm q params (Rp x y p1 p2 p3 p4 p5 kd) scope [(x,cell)] pm (.ref c') ctv) ⟨[u],[]⟩=pure [(y,u)])
 (hco:scope.isCoroutine=false) (hgen:scope.isGenerator=false) (hk:scope.kind = .function) (J:∀z∈scope.names,z.2 ≠ .cell) (hy:scope.names.lookup y=some .local) (hx:scope.names.lookup x=some .free)
 (hxd:(x==("__debug__":Str))=false) (hyd:(y==("__debug__":Str))=false) (hxc:(x==("__classdict__":Str))=false)
 (hc:s.heap.IsCell cell (some (.ref a))) (hl:s.heap.IsList a its) (hlo : -(its.size:Int)<=i) (hhi:i<its.size) (hsz:its.size<=sizeLine) (hsx:seqIndex? i its.size=some j) (hi:its[j]? = some (.ref b)) (ht:g9 s.heap b its2) (D:its2[0]? = some (.int k t'))
 (h:∀h' tk,(∀b o,s.heap.get? b=some o->h'.get? b=some o)->R (.ok (.ret (.int k t'))) {s with heap:=h',toks:=tk}) :
 codeAny (model prog w) A (.call (.ref f) ⟨[.int i t],[]⟩) R s:=by
 refine kla_callFunE B ho rfl hco hgen rfl hcd ?_;rw[O];refine ae (wpAny_newFunctionEnv J (λz Q=>?_) (λY S V=>⟨hlim.fresh _ V,?_⟩) hk)
 ·rwa[aJ.mp Q]
 have Z:=λb o e=>V.extBut b o (aP (af e)) (ad _ e)
 refine kla_codeExpr ?_;have U:Y.IsList a its:=by
  obtain⟨o,X,e2⟩:=hl;exact⟨o,Z _ _ X,e2⟩
 have W:g9 Y b its2:=by
  obtain⟨o,X,e2⟩:=ht;exact⟨o,Z _ _ X,e2⟩
 refine dy ?_;refine dy ?_;refine du ?_ hxd;refine wpAny_loadName_free (c:=cell) (v:=.ref a) hk hx ?_ ?_ ?_ hxc
 ·show xq x [(x,cell)]=some cell;simp
 ·obtain⟨o,X,e2⟩:=hc;exact⟨o,Z _ _ X,e2⟩
 refine du ?_ hyd;refine wpAny_loadName_local (v:=.int i t) hk hy S ?_ ?_
 ·simp
 refine subscriptTail_builtin (T := "list") (id := "list.__getitem__") ?_ PySem.F.slot_list_getitem.lookup ?_
 ·obtain⟨o,X,e2,_⟩:=U;exact⟨o,X,e2⟩
 refine Rq U hlo hhi hsz hsx hi ?_;refine wpAny_Constant_int ?_;refine kba_turn (value':=PySem.Expr.Name (PySem.Str.ofString "_") ⟨0,0,0,0⟩) (λ_=>rfl) ?_;refine subscriptTail_builtin (T := "tuple") (id := "tuple.__getitem__") ?_ PySem.F.slot_tuple_getitem.lookup ?_
 ·obtain⟨o,X,e2,_⟩:=W;exact⟨o,X,e2⟩
 refine PyProof.Rows.getItem_tuple (j:=0) (x:=.int k t') W (by decide) (by decide) ?_ D ?_
 ·have:0<its2.size:=by
   rcases dM 0 its2.size with z|z
   ·exact z
   ·rw[fM z]at D;cases D
  unfold seqIndex?;have h2:(0:Int)<(its2.size:Int):=by omega
  show(if(decide ((0:Int)<=0)&&decide ((0:Int)<(its2.size:Int)))=true then some (0:Int).toNat else none)=some 0;rw[dTr (fV 0),dTr h2];rfl
 ·exact h Y _ Z
end
section
variable{M:Model}{A:fm}{E:Value->eS->Prop}{s:eS}{params:iq}{body:Expr}{scope:hV}{env:Env}{c P:Addr}{pos:Pos}{mg:Str->Option Value}{clos:List (Str×Addr)}{Q:Value->eS->Prop}{q:Str}
abbrev ent(pos:Pos)(c':Addr):Array Value:=#[rawInt pos.line,rawInt pos.col,.ref c']
theorem Rr(hq:env.qual++"<lambda>"=q)(J:defaultsOf params env=([],[]))(O:closureFor scope env=pure clos)(D:env.globals=mainGlobals)(hg:s.heap.Ns mainGlobals mg)(B:env.code = .ref c)(C:CodeHd s.heap c P)(hgP:mainGlobals≠P)(hb:s.heap.BuiltinsAt mg P)
 (hT:∃ps,s.heap.get? P=some (tabObj ps)/\(ps = #[]\/∃c',ps=ent pos c'/\s.heap.CodeRec (.ref c') q))
 (h:∀f c' ctv h' tk,(∀b o,b≠P->s.heap.get? b=some o->h'.get? b=some o)->h'.get? P=some (tabObj (ent pos c'))->(s.heap.get? P=some (tabObj (ent pos c'))\/(s.heap.get? P=some (tabObj #[])/\s.heap.objs.size<=c'/\c'≠f))->s.heap.objs.size<=f ->
  h'.get? f=some (kla_obj "<lambda>" q params body scope clos ((mg "__name__").getD .none) c' ctv)->h'.CodeRec (.ref c') q->Q (.ref f) {s with heap:=h',toks:=tk}) :
 wpAny M A (eval (.Lambda params body scope pos) env) Q E s:=by
 refine kla_eval J ?_;rw[hq];obtain⟨ps,W,z|⟨c',z,K⟩⟩:=hT
 ·subst z;refine kla_makeFunction (mg:=mg) O D hg B C W trivial rfl hgP hb λc' ctv h' tk L X Y Z U=>?_
  have up:∀b o,h'.get? b=some o->(h'.push (kla_obj "<lambda>" q params body scope clos ((mg "__name__").getD .none) c' ctv)).get? b=some o:=λb o e=>ad _ e
  obtain⟨N,oc,vs,V,R,e2,S⟩:=Z;refine h h'.objs.size c' ctv _ tk (λb o hb e=>up b o (L b o hb e)) (up _ _ (by rw[U];rfl)) (.inr ⟨W,X,aP Y⟩) (aW X (cG Y)) (ag _ rfl) ⟨N,oc,vs,V,R,up _ _ e2,S⟩
 ·subst z;have ha:codeAmong pos (ent pos c').toList=some (.ref c'):=by simp[codeAmong,rawInt]
  refine kla_makeFunctionHit (mg:=mg) O D hg B C W trivial ha hb λctv h' tk I T=>?_
  have up:∀b o,s.heap.get? b=some o->(h'.push (kla_obj "<lambda>" q params body scope clos ((mg "__name__").getD .none) c' ctv)).get? b=some o:=λb o e=>ad _ (I b o e)
  obtain⟨N,oc,vs,V,R,e2,S⟩:=K;exact h h'.objs.size c' ctv _ tk (λb o _ e=>up b o e) (up _ _ W) (.inl W) T (ag _ rfl) ⟨N,oc,vs,V,R,up _ _ e2,S⟩
end
end XL
namespace XL
open PySem.W L2 My D3 XS
section
variable{prog:e9}{w:fy}{A:fm}{h₀:f8}{L kS:Addr}{m:Str->Option Value}{f:Value}{nw:List (Addr×Obj)}
def KR(prog:e9)(w:fy)(A:fm)(nw:List (Addr×Obj))(f v:Value)(k:Int):Prop:=
 ∃t,∀(s:eS)(R:Result->eS->Prop),(∀p∈nw,s.heap.get? p.1=some p.2)->s.heap.NoLimit->(∀h' tk,(∀b o,s.heap.get? b=some o->h'.get? b=some o)->R (.ok (.ret (.int k t))) {s with heap:=h',toks:=tk}) ->
  codeAny (model prog w) A (.call f ⟨[v],[]⟩) R s
theorem G4{Fin:List Value->Nat->eS->Prop}(J:∀y∈nw,y.1≠kS)(D:∀s:eS,(∀p∈nw,s.heap.get? p.1=some p.2)->s.heap.NoLimit):∀(vs:List Value)(ns:List Int)(ks:List Value)(e:Nat)(s:eS),Paired (λv k=>KR prog w A nw f v k) vs ns ->
 Fr h₀ L s.heap m->News h₀ L s.heap ((kS,seqObj "list" (ju ks) e)::nw) ->
 (∀B O s',Fr h₀ L s'.heap m->News h₀ L s'.heap ((kS,seqObj "list" (ju (ks++B)) O)::nw)->s'.gens=s.gens->s'.drawn=s.drawn->s'.os=s.os->Paired (λ(v:Value)(k:Int)=>∃t,v = .int k t) B ns->Fin (ks++B) O s') ->
 KatKeys prog w A h₀ L m kS f Fin vs ks e s
 |[],_,ks,e,s,p,F,N,h=>by
  cases p;have:=h [] e s F (by rwa[cA]) rfl rfl rfl .nil;rwa[cA]at this
 |v::vs,_,ks,e,s,p,F,N,h=>by
  cases p with
  |cons p1 p2=>
  rename_i k ns;obtain⟨t,c⟩:=p1;have Z:=λp Y=>(N p (au _ Y)).1
  refine KatKeys.cons (wpAny_call (c s _ Z (D s Z) λh' tk X=>?_));have T:Fr h₀ L h' m:=⟨F.ns.keeps X,λb o z=>X b o (F.keep b o z),F.above⟩;have W:News h₀ L h' ((kS,seqObj "list" (ju ks) e)::nw):=λp Y=>⟨X _ _ (N p Y).1,(N p Y).2⟩
  refine KatBack.intro (s:={s with heap:=h',toks:=tk}) T W (.head J) λh2 e2 U N2=>?_
  refine G4 J D vs ns (ks++[.int k t]) e2 {s with heap:=h2,toks:=tk} p2 U N2 λB O s' V S g1 g2 g3 q=>?_
  have z:=h (.int k t::B) O s' V (by rwa[show ks++.int k t::B=ks++[.int k t]++B by simp]) g1 g2 g3 (.cons ⟨t,rfl⟩ q);rwa[show ks++.int k t::B=ks++[.int k t]++B by simp]at z
end
section
variable{prog:e9}{w:fy}{A:fm}{E:Value->eS->Prop}{s:eS}{h₀:f8}{L l fa:Addr}{m:Str->Option Value}{vs:List Value}{ns:List Int}{news:List (Addr×Obj)}{Q:Value->eS->Prop}
def ltK(ns:List Int)(i j:Nat):Bool:=decide (ns.getD i 0<ns.getD j 0)
theorem Jm(a b:Value):argsOk "sorted" ⟨[a],[(f6 "key", b)]⟩:=by unfold argsOk;kernel_rfl
theorem G5(a b:Value):argsOk "list.sort" ⟨[a],[(f6 "key", b)]⟩:=by unfold argsOk;kernel_rfl
theorem ints_of:∀{ks:List Value}{ns:List Int},Paired (λ(v:Value)(k:Int)=>∃t,v = .int k t) ks ns->gS ks ns
 |_,_,.nil=>.nil
 |_,_,.cons p q=>by
  obtain⟨t,rfl⟩:=p;exact .cons _ _ (ints_of q)
theorem DQ:∀{ks:List Value}{ns:List Int},Paired (λ(v:Value)(k:Int)=>∃t,v = .int k t) ks ns->∀i,i<ks.length->∃t,ks.getD i .none = .int (ns.getD i 0) t
 |_,_,.nil,i,h=>by cases h
 |_,_,.cons p q,0,h=>by obtain⟨t,rfl⟩:=p;exact⟨t,rfl⟩
 |_,_,.cons p q,i+1,h=>by
  obtain⟨t,e⟩:=DQ q i (by simpa using h);exact⟨t,by simpa using e⟩
theorem B_{α β:Type}{R:α->β->Prop}:∀{l:List α}{r:List β},Paired R l r->∀{i:Nat}{a:α}{b:β},l[i]? = some a->r[i]? = some b->R a b
 |_,_,.nil,i,a,b,h,_=>by simp at h
 |_,_,.cons p q,0,a,b,h1,h2=>by
  simp at h1 h2;subst h1 h2;exact p
 |_,_,.cons p q,i+1,a,b,h1,h2=>B_ q (i:=i) (by simpa using h1) (by simpa using h2)
end
end XL
namespace XS
open D3
def ur(l:List D)(ns:List Int):List D:=if l.length<=1 then l else(nO l.length λi j=>decide (ns.getD i 0<ns.getD j 0)).map λi=>l.getD i .none
def DR(fa fe:FE)(ix:List Nat):FE:=λδ=>(fa δ).bind λx=>match x with
 | .list l=>if l.length<64/\flats l=true then(jK (gNl 0) D3.j9 fe (j_ 1 ix δ) l).bind λks=>(dF ks).map λns=>.list (ur l ns)else none
 |_=>none
def dK0:FE:=λδ=>match δ with
 |[some (.d (.int z)),some (.d (.list ds))]=>(pAt ds z).bind λt=>match t with
  | .tuple (.int n::_)=>some (.int n)
  |_=>none
 |_=>none
def qSK(x:Option D)(k:List D->Option (List D)):Option D:=match x with
 |some (.list l)=>if l.length<64/\flats l=true then(k l).bind λks=>(dF ks).map λns=>.list (ur l ns)else none
 |_=>none
theorem Vm{fa:FE}:DR fa fe ix δ=qSK (fa δ) (jK (gNl 0) D3.j9 fe (j_ 1 ix δ)):=by
 unfold DR qSK
 cases fa δ with
 |none=>rfl
 |some d=>cases d<;>rfl
theorem Nb{ks:List D}{k:List D->Option (List D)}(h1:l.length<64)(h2:flats l=true)(J:k l=some ks)(B:dF ks=some ns):qSK (some (.list l)) k=some (.list (ur l ns)):=by
 unfold qSK;dsimp only;rw[if_pos ⟨h1,h2⟩,J,aC,B];rfl
end XS
variable{c:Addr}
namespace XL
open PySem.W L2 My D3 XS
section
variable{X:Cx}{pins:List (Addr×Obj)}{σ:L2.St}{H:Hp}{s:eS}{h':f8}{P c':Addr}{q:Str}{lp:Pos}{tk:Nat}
theorem Vo(I:Inv X pins σ H s)(J:H P=some (.tbl q lp))(kp:∀b o,b≠P->s.heap.get? b=some o->h'.get? b=some o)(O:h'.get? P=some (tabObj (ent lp c')))
 (D:s.heap.get? P=some (tabObj (ent lp c'))\/(s.heap.get? P=some (tabObj #[])/\s.heap.objs.size<=c')) (B:h'.CodeRec (.ref c') q) :
 ∃H2,Inv X pins σ H2 {s with heap:=h',toks:=tk}/\Same H H2:=by
 rcases D with z|⟨z,Y⟩
 ·refine⟨H,I.kept λb o e=>?_,λ_ _ e=>e⟩;by_cases Z:b=P
  ·subst Z;rw[z]at e;cases e;exact O
  ·exact kp b o Z e
 ·have hn:=I.hok.fresh Y;have ne:∀{b u},H b=some u->b≠c':=λe=>jw e hn
  have V:∀{b},H b=none->b≠P:=λe y=>by rw[y,J]at e;cases e
  refine⟨upd H c' (.own P),?_,cM hn _⟩;refine I.step (g':=s.gens) (d':=s.drawn) (ch:=[]) (λb Z=>by cases Z) (λb u _ _ _ e n=>kp b u (V n) e) (λb u _ _ _ e n=>⟨u.slots,kp b u (V n) e⟩) (λb u _ e n=>?_) (λb u _ e=>?_)
   (λb xs e=>by rwa[bF (ne e)]) (λb u v e=>by rwa[bF (ne e)]) (λb q p e=>by rwa[bF (ne e)]) (λm ⟨o,es,ep,e,r⟩=>⟨o,es,ep,kp _ o (V I.free) e,r⟩) (λb u e=>?_) I.bare
  ·rwa[bF (aP (bQ (af e) Y))]
  ·by_cases Z:b=P
   ·exact⟨_,by rwa[Z]⟩
   ·exact⟨u,kp b u Z e⟩
  ·by_cases Z:b=c'
   ·subst Z;rw[bT]at e
    cases e;obtain⟨N,oc,vs,Q,R,e2,_⟩:=B
    cases R;exact⟨_,e2⟩
   ·rw[bF Z]at e;by_cases W:b=P
    ·subst W;rw[J]at e;cases e;exact⟨_,O,.inr ⟨c',rfl,bT,B⟩⟩
    ·refine(I.hok b u e).stay (λc w S y=>kp c w (λT=>?_) y) (λc y=>by rwa[bF (ne y)]) λc xs y=>by rwa[bF (ne y)]
     rcases S with rfl|U
     ·exact W T
     ·rw[T,J]at U;cases U
end
theorem Ca:∀{ys:List V}{vs:List Value},Vals ys vs->∀i,RelV (ys.getD i .non) (vs.getD i .none)
 |_,_,.nil,i=>by simp;rfl
 |_,_,.cons r Z,0=>r
 |_,_,.cons r Z,i+1=>by simpa using Ca Z i
theorem Cd{J:DS}:∀{l ks:List D}{ns:List Int},jK (gNl 0) D3.j9 fe J l=some ks->dF ks=some ns->Paired (λd n=>∃B,gNl 0 d J=some B/\fe B=some (.int n)) l ns
 |[],ks,ns,h1,h2=>by
  cases h1
  cases h2;exact .nil
 |d::l,ks,ns,h1,h2=>by
  unfold jK at h1;refine D3.ex1 (bind1 h1) λB U h1=>?_
  refine D3.ex1 (bind1 h1) λb e2 h1=>?_
  cases e2;rw[if_pos rfl]at h1;refine D3.ex1 (bind1 h1) λx V h1=>?_
  refine D3.ex1 (bind1 h1) λr W h1=>?_
  cases h1
  cases x with
  |int n=>
   have Y:(dF r).bind (λm=>some (n::m))=some ns:=by
    cases Z:dF r with
    |none=>unfold dF at h2;rw[Z]at h2;cases h2
    |some m=>unfold dF at h2;rw[Z]at h2;cases h2;rfl
   refine D3.ex1 (bind1 Y) λm Z X=>?_
   cases X;exact .cons ⟨B,U,V⟩ (Cd W Z)
  |_=>unfold dF at h2;cases h2
theorem KY{ok:Ok}{S:D->Int->Prop}{R:Value->Int->Prop}(f:∀y d v n,RA K ok pl H y d->RelV y v->S d n->R v n):∀{ys:List V}{l:List D}{vs:List Value}{ns:List Int},RAs K ok pl H ys l->Vals ys vs->Paired S l ns->Paired R vs ns
 |_,_,_,_,.nil,.nil,.nil=>.nil
 |_,_,_,_,.cons a b,.cons c d,.cons e g=>.cons (f _ _ _ _ a c e) (KY f b d g)
structure LamAt(X:Cx)(P:Addr)(q:Str)(lp:Pos):Prop where
 cd:∃c,X.env.code = .ref c/\codeHdIn X.K c P=true
 qn:X.env.qual++"<lambda>"=q
 tb:(P,q,lp)∈tabs
section
variable{X:Cx}{fl:List Fl}{e:Expr}{fa:FE}{p pos kpos lp p1 p2 p3 p4 p5:Pos}{x y q:Str}{P:Addr}{kd i k:Nat}{params:iq}{scope:hV}
theorem YJ{D B:DS}{n:Int}{u:Option U}(J:D=[none,u])(h1:gNl 0 d D=some B)(h2:dK0 B=some (.int n)):∃z ds r,d = .int z/\u=some (.d (.list ds))/\pAt ds z=some (.tuple (.int n::r)):=by
 subst J
 cases h1;unfold dK0 at h2;split at h2
 ·next z ds e=>
  cases e;refine D3.ex1 (bind1 h2) λt Z e2=>?_
  split at e2
  ·next m r=>cases e2;exact⟨z,ds,r,rfl,rfl,Z⟩
  ·cases e2
 ·cases h2
end
theorem Vp{K:Frag}{P:Addr}{q:Str}{lp:Pos}(J:K.In h)(D:h.get? P=some (tabObj #[]))(B:codeHdIn K c P=true)(hn:K.lookup P=none):
 (∀t∈[(P,q,lp)],h.get? t.1=some {cls:=.none,data:=.fields #[]})/\(∀t∈[(P,q,lp)],isCodeTable h t.1)/\∀t∈[(P,q,lp)],K.lookup t.1=none:=
 ⟨λt Z=>by rwa[aJ.mp Z],λt Z=>by rw[aJ.mp Z];exact((codeHd_of_K J B).tab D).isCodeTable,λt Z=>by rwa[aJ.mp Z]⟩
theorem Rt{P:Addr}{q:Str}{lp:Pos}:∀t∈[(P,q,lp)],∀t'∈[(P,q,lp)],t.1=t'.1->t=t':=λt Y t' Z _=>(aJ.mp Y).trans (aJ.mp Z).symm
theorem Ru{scope:hV}{y:Str}(hn:scope.names=[(y,.local),(x,.free)])(h:env.cells.lookup x=some c):closureFor scope env=pure [(x,c)]:=by
 unfold closureFor;rw[hn];simp[cellOf,h]
section
variable{P:e9}{w:fy}{K:PySem.W.Frag}{mg:Str->Option Value}{base:f8}{x:Str}{ps N:List Str}{st:hI}{k n:Nat}{fs:FS}{fl:List Fl}{Pt:Addr}{q:Str}{lp:Pos}
structure DgT(K:PySem.W.Frag)(mg:Str->Option Value)(x:Str)(st:hI)(ps:List Str)(Pt:Addr)(q:Str)(lp:Pos):Prop where
 ex:∃(f:Addr)(fd:gk)(c:Addr),FunD K x st f fd/\Binds K fd ps []/\mg x=some (.ref f)/\fd.code = .ref c/\codeHdIn K c Pt=true
 tb:(Pt,q,lp)∈tabs
theorem YK{kV:Value}(X:K.In h)(G:h.Ns mainGlobals mg)
 (B:∀(kV doc pm:Value)(an:Option Addr)(cdv ct:Value)(us:List Value),us.length=ps.length->bindArgs (PySem.W.fnOf x x (o9 st) (jy st) (bH st) .none kV doc pm an cdv ct) ⟨us,[]⟩=pure (ps.zip us))
 (a:PySem.W.nsIn K mainGlobals x=some (some (.ref f))) (l:K.lookup f=some ⟨oc,od,.func (PySem.W.fnOf x x (o9 st) (jy st) (bH st) .none kV dc pm an (.ref c) ct),sl⟩) (D:PySem.W.codeIn K (.ref c) x=true) (k:PySem.W.keepIn K (.ref f)=true)
 (hd:codeHdIn K c Pt=true) (tb:(Pt,q,lp)∈tabs):DgT K mg x st ps Pt q lp:=
 ⟨⟨_,_,c,⟨⟨oc,od,.none,kV,dc,pm,an,.ref c,ct,sl,rfl,l,D⟩,k⟩,.all (B kV dc pm an (.ref c) ct),PySem.W.mg_of X G a,rfl,hd⟩,tb⟩
theorem okT(F:FunD K x st f fd)(D:fd.code = .ref c)(S:FnScope N ps (bH st))(len:∀vs H Q E,sp vs H Q E->vs.length=ps.length)
 (B:∀(A:fm)(outer:List Env)(s:eS)(H:Hp)(vs:List V)(Q:VK)(E:XK),Room k (A.deeper (envOfC x (bH st) s.heap.objs.size f (.ref c)))->sp vs H Q E ->
  ∃t,PSs (Fb CX0 P w K mg base N x (bH st) f (.ref c) A outer s H E).nox (jy st) t/\t {nx:=λ_ H'=>Q .non H',rt:=Q} (L2.start N vs) H):FnOk P w K mg base CX0 (k+1) f fd ps sp:=by
 obtain⟨oc,od,dV,kV,doc,pm,an,cdv,ct,osl,rfl,lk,Z⟩:=F.ex;have e:cdv = .ref c:=D;subst e;refine Wt lk Z S len λA outer s H vs Q E X Y=>?_
 obtain⟨t,h,q⟩:=B A outer s H vs Q E X Y;exact⟨t,h.nox,q⟩
theorem YL(O:DgT K mg x st ps Pt q lp)(S:FnScope N ps (bH st))(D:∀i,i<ps.length->fl[i]? = some .A)(J:ps.length<=N.length)
 (B:∀(f c:Addr)(A:fm)(outer:List Env)(s:eS)(H:Hp)(E:XK),codeHdIn K c Pt=true->Room k (A.deeper (envOfC x (bH st) s.heap.objs.size f (.ref c)))->DSs (cx P w K mg base N x st f (.ref c) A outer s H E) fl (jy st) fs) :
 Has P w K mg base (k+1) x ps (spD K (fnD ps.length (N.length-ps.length) fs)):=by
 obtain⟨f,fd,c,W,b,m,X,Y⟩:=O.ex;refine⟨f,fd,?_,b,W.kp,m⟩;refine okT W X S (λvs H Q E h=>?_) (λA outer s H vs Q E U h=>?_)
 ·obtain⟨ds,d,r,Z,_⟩:=h;unfold fnD at Z;by_cases z:ds.length=ps.length
  ·rwa[r.2.length]
  ·rw[if_neg z]at Z;cases Z
 ·obtain⟨ds,d,r,Z,q⟩:=h;refine⟨_,B f c A outer s H E Y U,?_⟩;unfold fnD at Z;by_cases z:ds.length=ps.length
  ·rw[if_pos z]at Z;split at Z
   ·next T e=>
    cases Z;exact⟨_,_,_,_,mQ ps.length D z J r,e,λv H' s r=>q v H' s r⟩
   ·next δ' e=>
    cases Z;exact⟨_,_,_,_,mQ ps.length D z J r,e,λV σ' H' R'=>q .non H' R'.same0 .non⟩
   ·cases Z
  ·rw[if_neg z]at Z;cases Z
end
end XL
namespace XL
open PySem.W L2 My D3 XS
section
variable{prog:e9}{w:fy}{A:fm}{E:Value->eS->Prop}{s:eS}{r fa L:Addr}{t u v:Tok}{n:Nat}{hi:Int}{h₀:f8}{m:Str->Option Value}{ns:List Int}{news:List (Addr×Obj)}{Q:Value->eS->Prop}
def Ce(vs:List Value):Prop:=∀(j:Nat)(x:Value),vs[j]? = some x->∃t,x = .int (j:Int) t
theorem Rv{R:List Value->eS->Prop}(D:A.handled=none)(B:IsRange s.heap r 0 hi 1 t u v)(sm:h7 0 hi 1=true)(hn:gE 0 hi 1=n)(J:n<64)
 (h:∀h' tk vs,(∀b o,s.heap.get? b=some o->h'.get? b=some o)->vs.length=n->Ce vs->R vs {s with heap:=h',toks:=tk}):wpAny (model prog w) A (collect (.ref r)) R E s:=by
 refine aa (wpAny_runValue (bq F.entry_proto_collect ?_));rw[a6 F.plain_proto_collect _];refine aa (m:=newList []) (ax (ae ⟨cf F.plain_list_iadd _,bq F.entry_list_iadd ?_⟩));rw[a6 F.plain_list_iadd _];refine a5 (wpAny_extend_range (A:=A) (s:={s with heap:=s.heap.push (seqObj "list" #[] 0)}) (R:=λq s'=>q = .ok (.ret (.ref s.heap.objs.size))/\∃h' tk acc c,s'={s with heap:=h',toks:=tk}/\(∀b o,s.heap.get? b=some o->h'.get? b=some o)/\h'.get? s.heap.objs.size=some (seqObj "list" acc c)/\acc.toList.length=n/\Ce acc.toList)
  D (ad _ B) sm hn (by omega) s.heap.objs.size (.ref s.heap.objs.size) 0 (ag _ rfl) λh' tk acc c k1 k2 Z=>⟨rfl,h',tk,acc,c,rfl,λb o e=>k1 b o (aP (af e)) (ad _ e),k2,by rw[aY];exact Z.1,λj x X=>by
   obtain⟨t,rfl⟩:=Z.2 j x (by rwa[<-bW]);exact⟨t,by rw[jW,Int.mul_one]⟩⟩) (λfin s' x=>?_) λe s' x=>by cases x.1
 cases fin with
 |done f=>
  obtain⟨e,h',tk,acc,c,rfl,k1,k2,Z,Y⟩:=x
  cases e;exact aa (m:=load s.heap.objs.size) (wpAny_load k2 (ae (h h' tk _ k1 Z Y)))
 |again W=>
  refine⟨x.1,dQ x.2 λq s2 y=>?_⟩;obtain⟨rfl,h',tk,acc,c,rfl,k1,k2,Z,Y⟩:=y;exact aa (m:=load s.heap.objs.size) (wpAny_load k2 (ae (h h' tk _ k1 Z Y)))
theorem Vq(hh:A.handled=none)(F:Fr h₀ L s.heap m)(N:News h₀ L s.heap news)(hr:IsRange s.heap r 0 hi 1 t u v)(sm:h7 0 hi 1=true)(hn:gE 0 hi 1=n)(h64:n<64)
 (hc:∀vs,vs.length=n->Ce vs->Paired (λv k=>KR prog w A.in1.in1 news (.ref fa) v k) vs ns) (B:∀s:eS,(∀p∈news,s.heap.get? p.1=some p.2)->s.heap.NoLimit)
 (h:∀D h' e tk vs,vs.length=n->Ce vs->Fr h₀ L h' m->News h₀ L h' ((D,seqObj "list" (ju (if n<=1 then vs else(nO n (ltK ns)).map λi=>vs.getD i fS)) e)::news)->(∀q∈news,q.1<D)->Q (.ref D) {s with heap:=h',toks:=tk}) :
 wpAny (model prog w) A (call (.builtin "sorted") [.ref r] [(f6 "key", .ref fa)]) Q E s:=by
 refine call_function_entry_kw eA dL dP (Jm _ _) ?_;unfold hJ.«sorted»;refine aa (m:=checkCount "sorted" 1 1 _) (ae ?_);refine aa (Rv (A:=A.in1) hh hr sm hn h64 λh1 tk vs k1 lv J=>?_);refine aa (bv ?_ (by rw[lv,da];omega));have V:(h1.push (seqObj "list" vs.toArray 0)).get? h1.objs.size=some (seqObj "list" vs.toArray 0):=ag _ rfl;have kp:∀b o,s.heap.get? b=some o->(h1.push (seqObj "list" vs.toArray 0)).get? b=some o:=λb o e=>ad _ (k1 b o e)
 have Y:=λq hq=>af (k1 _ _ (N q hq).1)
 have x:=(F.kept k1).ns.lt;have a:=F.kept kp;have N1:=N.grown kp;have X:=hc vs lv J;have f:=eP (aW F.above (cG x));refine aa (ap (wpAny_call_entry_kw c_ ⟨_,V,rfl⟩ cz ?body (G5 _ _)))
 case body=>
  rw[ksk_t1];by_cases h2:n<=1
  ·refine ksk_sort (kz:=ns) (b:=false) (s:={s with heap:=h1.push (seqObj "list" vs.toArray 0),toks:=tk}) a N1 V (lM x) f (λp Z=>aP (Y p Z)) X.length.symm (by omega) (λi v k hv hk Z tk own T W=>?_) λh' tk out c T W ko=>⟨_,rfl,ae ⟨_,rfl,?_⟩⟩
   ·obtain⟨t,z⟩:=B_ X hv hk;have P:=λp q=>(W p (bN _ q)).1
    refine wpAny_call (z {s with heap:=Z,toks:=tk} _ P (B {s with heap:=Z,toks:=tk} P) λh2 M U=>?_);exact⟨h2,M,t,rfl,rfl,⟨T.ns.keeps U,λb o z=>U b o (T.keep b o z),T.above⟩,λp q=>⟨U _ _ (W p q).1,(W p q).2⟩⟩
   ·obtain⟨ps,Z,l,_⟩:=ko;have e:out.toList=vs:=by
     cases X with
     |nil=>
      have Z:=Z;rwa[ug.mp Z]at l
     |cons p q=>
      cases q with
      |nil=>
       have Z:=Z;rwa[List.perm_singleton.mp Z]at l
      |cons _ _=>simp at lv;omega
    have e2:out=vs.toArray:=pX.mp (e.trans (by simp));rw[e2]at W;exact h _ h' c tk vs lv J T (by rw[if_pos h2];exact W) Y
  ·refine kat_keyed (b:=false) (s:={s with heap:=h1.push (seqObj "list" vs.toArray 0),toks:=tk}) a N1 V (lM x) f (λp Z=>aP (Y p Z)) (by omega) (by omega) λkS g h' T W S I=>?_
   have O:∀y∈(h1.objs.size,seqObj "list" #[] g)::news,y.1≠kS:=λy H=>by
    rcases aK.mp H with rfl|z
    ·exact aP S
    ·exact aP (I y z)
   have G:Paired (λv k=>KR prog w A.in1.in1 ((h1.objs.size,seqObj "list" #[] g)::news) (.ref fa) v k) vs ns:=Paired.mapP X λv k ⟨t,z⟩=>⟨t,λs R q1 q2 q3=>z s R (λp Z=>q1 p (au _ Z)) q2 q3⟩
   refine G4 (kS:=kS) O (λs q=>B s λp Z=>q p (au _ Z)) vs ns [] 0 _ G T W λks e s' d N2 g1 g2 g3 pk=>?_
   have lk:=pk.length.trans X.length.symm;rw[cT]at N2 ⊢;rw[ksk_kind (ints_of pk) (by rw[aM,lk];omega)];refine ae ?_;refine C_ (n:=vs.length) (lt:=ltK ns) (R:=good vs.length) (λi j C hi hj hC=>?_) _ (wK (by omega)) ?_
   ·obtain⟨t1,q1⟩:=DQ pk i (by rwa[lk]);obtain⟨t2,q2⟩:=DQ pk j (by rwa[lk]);show wpAny _ _ (keyLt' oneType' (ks.getD i fS) (ks.getD j fS)) _ _ _;rw[q1,q2];exact kat_lt_int hC
   ·obtain⟨Z,gn,dr,K,os⟩:=s';simp only at g1 g2 g3 d N2;subst g1 g2 g3;refine KatFin.intro d N2 (.head O) λh3 c3 F3 N3=>?_
    refine KasFin.intro F3 N3 (.tail (lM S) (.head λy H=>aP (Y y H))) λh4 c4 F4 N4=>⟨_,rfl,ae ⟨_,rfl,?_⟩⟩
    exact h _ h4 c4 K vs lv J F4 (λp Z=>by
     rw[if_neg h2,<-lv]at Z;exact N4 p (au _ Z)) Y
end
section
variable{X:Cx}{fl:List Fl}{e:Expr}{fb:FA}{p pos kpos lp p1 p2 p3 p4 p5 pr posr:Pos}{x y q:Str}{P:Addr}{kd i k:Nat}{params:iq}{scope:hV}
theorem Jo(hl:LamAt X P q lp)(hr:Room k X.A)(hcm:X.calm=true)(ha:DB X fl .P [e] fb)(hg:Gl X "sorted")(hm:X.mg "sorted"=none)(hg2:Gl X "range")(hm2:X.mg "range"=none)
 (hix:X.N[i]? = some x) (hfl:fl[i]? = some .A) (B:X.env.kindOf x=some .cell)
 (hdef:defaultsOf params X.env=([],[])) (hcl:∀c,X.env.cells.lookup x=some c->closureFor scope X.env=pure [(x,c)])
 (hbind:∀(cl:List (Str×Addr))(pm:Value)(c':Addr)(ctv u:Value),bindArgs (kla_fn "<lambda>" q params (Rp x y p1 p2 p3 p4 p5 kd) scope cl pm (.ref c') ctv) ⟨[u],[]⟩=pure [(y,u)])
 (hco:scope.isCoroutine=false) (hgen:scope.isGenerator=false) (hk:scope.kind = .function) (hcells:∀z∈scope.names,z.2 ≠ .cell) (hy:scope.names.lookup y=some .local) (hxf:scope.names.lookup x=some .free)
 (hxd:(x==("__debug__":Str))=false) (hyd:(y==("__debug__":Str))=false) (hxc:(x==("__classdict__":Str))=false)
 (he:backTo pos (starEach [Expr.Call (.Name "range" pr) [e] [] posr] X.env)=(false,eval (Expr.Call (.Name "range" pr) [e] [] posr) X.env)::backTo pos (starEach [] X.env)) (hpl:(backTo pos (starEach [Expr.Call (.Name "range" pr) [e] [] posr] X.env)).any (·.1)=false)
 (hs:starEach [e] X.env=(false,eval e X.env)::starEach [] X.env:=by exact n_ rfl)
 : DE X fl .FC (.Call (.Name "sorted" p) [.Call (.Name "range" pr) [e] [] posr] [⟨some (f6 "key"),.Lambda params (Rp x y p1 p2 p3 p4 p5 kd) scope lp,kpos⟩] pos) (DR (dCall zu fb) dK0 [i]):=by
 have bs:bootBuiltins "sorted"=some (.builtin "sorted"):=by decide +kernel
 intro pins s σ H Q I hq;refine D3.ex4 hq λG ow δ d R hf q0=>?_
 refine D3.ex1 (bind1 hf) λxd e1 T=>?_
 refine D3.ex1 (bind1 e1) λds0 e0 Y=>?_
 unfold zu at Y;split at Y
 case h_2=>cases Y
 next hi=>
 by_cases z:(-(2^62)<=hi/\hi<2^62)/\(hi-0).toNat<=1000000
 case neg=>rw[if_neg z]at Y;cases Y
 rw[if_pos z]at Y
 cases Y;obtain⟨⟨z3,z4⟩,z5⟩:=z;have el:gD 0 hi=(lE 0 (hi-0).toNat).map λ(j:Nat)=>eT (0+(j:Int)):=by
  unfold gD;rw[List.range_eq_range']
 have ll:(gD 0 hi).length=(hi-0).toNat:=by rw[el,aq,uD]
 have ra0:∀h:Hp,RAs X.K ok1 true h ((lE 0 (hi-0).toNat).map λ(j:Nat)=>V.int (0+(j:Int))) (gD 0 hi):=λh=>by rw[el];exact PB 0 _ 0
 generalize gD 0 hi=l at *;dsimp only at T;by_cases hc:l.length<64/\flats l=true
 case neg=>rw[if_neg hc]at T;cases T
 rw[if_pos hc]at T;refine D3.ex1 (bind1 T) λks e2 M=>?_
 cases e3:dF ks with
 |none=>rw[e3]at M;cases M
 |some ns=>
 rw[e3]at M
 cases M;refine ay (nH I hg hm bs ?_);refine PyProof.Rows.callWith_kw ?_ he hpl rfl rfl;rw[he];refine bi ?_;refine Call_ (nH I hg2 hm2 boot_range (fw (thn (ha posr pins s σ H (λvs H1=>Same H H1/\RAs X.K ok1 true H1 vs [.int hi]) I ⟨G,ow,δ,_,R,e0,λvs H' s' r'=>⟨s',r'⟩⟩) λus s0 ⟨vs,H1,I0,r1,sm1,ra⟩=>?_) hs rfl))
 cases ra with
 |cons ra1 ra2=>
 cases ra2;obtain rfl:=ra1.intE
 cases r1 with
 |cons c1 c2=>
 cases c2;obtain⟨t0,rfl⟩:=c1;refine call_range_1 ?_;refine bX ?_;have hsz:gE 0 hi 1=(((hi-0).toNat:Nat):Int):=by rw[rangeSize_one];split<;>omega
 have smr:h7 0 hi 1=true:=small_one (by decide) (by decide) z3 z4;obtain⟨ta,tb,tc,hrg⟩:∃ta tb tc,IsRange (s0.heap.push {cls:=.type "range", data:=.fields #[.int 0 s0.toks,.int hi t0,.int 1 (s0.toks+1)]}) s0.heap.objs.size 0 hi 1 ta tb tc:=⟨_,_,_,IsRange.new ..⟩;generalize hra:s0.heap.objs.size=ra at *;have U:L2.Inv X pins σ H1 {s0 with heap:=s0.heap.push {cls:=.type "range", data:=.fields #[.int 0 s0.toks,.int hi t0,.int 1 (s0.toks+1)]},toks:=s0.toks+2}:=I0.kept λb o e=>ad _ e
 generalize es1:({s0 with heap:=s0.heap.push {cls:=.type "range", data:=.fields #[.int 0 s0.toks,.int hi t0,.int 1 (s0.toks+1)]},toks:=s0.toks+2}:eS)=s1 at *;have hrg:IsRange s1.heap ra 0 hi 1 ta tb tc:=by rwa[<-es1]
 have R1:=R.grow sm1;have hT:=R1.tb _ hl.tb;obtain⟨c,hcx⟩:=U.ok.has x (.inl B);obtain⟨cc,hcode,hhd⟩:=hl.cd;have KX:=U.kIn;have hgl:=U.mod.glob.keeps U.bk;have hgP:mainGlobals≠P:=λz=>by
  obtain⟨o,_,_,g1,_⟩:=U.mod.glob;have:=(U.bs _ _ g1).2;rw[z,hT]at this;cases this
 have hbm:s1.heap.BuiltinsAt X.mg P:=by
  obtain⟨bm,ob,g1,g2,g3,g4,g5,g6⟩:=U.mod.bm;refine⟨bm,ob,g1,g2,λz=>?_,λz=>?_,U.bk _ _ g3,g4,g5,g6⟩
  ·obtain⟨o,_,_,k1,k2,_⟩:=U.mod.glob;rw[z,k1]at g3;cases g3;rw[k2]at g6;cases g6
  ·have:=(U.bs _ _ g3).2;rw[z,hT]at this;cases this
 have hTT:∃ps,s1.heap.get? P=some (tabObj ps)/\(ps = #[]\/∃c',ps=ent lp c'/\s1.heap.CodeRec (.ref c') q):=by
  obtain⟨ps,g1,g2⟩:=U.hok P _ hT;refine⟨ps,g1,?_⟩;rcases g2 with g|⟨c',g,_,g3⟩
  ·exact .inl g
  ·exact .inr ⟨c',g,g3⟩
 refine wpAny_evalAll_cons (aa ?_);refine Rr (mg:=X.mg) hl.qn hdef (hcl c hcx) U.ok.glob hgl hcode (codeHd_of_K KX hhd) hgP hbm hTT λf c' ctv h' tk kp hP' hor hfs hfo C=>aa (df (ae ?_))
 refine wpAny_evalAll_nil ?_;show wpAny _ _ (PySem.call (.builtin "sorted") [.ref ra] [(f6 "key", .ref f)]) _ _ _;obtain⟨H2,L,sm2⟩:=Vo (tk:=tk) U hT kp hP' (hor.imp (λz=>z) λz=>⟨z.1,z.2.1⟩) C;have R2:=R1.grow sm2;have hrg2:IsRange h' ra 0 hi 1 ta tb tc:=by
  refine kp ra _ (λy=>?_) hrg;obtain⟨ps,g1,_⟩:=hTT;have Z:=hrg;rw[y]at Z;have Z:s1.heap.get? P=_:=Z;rw[g1]at Z
  cases Z
 have rva:∀vs:List Value,vs.length=(hi-0).toNat->Ce vs->Vals ((lE 0 (hi-0).toNat).map λ(j:Nat)=>V.int (0+(j:Int))) vs:=λvs lv rv=>by
  have:=J8 (f:=λj:Nat=>V.int (0+(j:Int))) vs 0 λj v hj=>by
   obtain⟨tt,e⟩:=rv j v hj;rw[eX];exact⟨tt,by rw[e,jW]⟩
  rw[lv]at this;exact this
 obtain⟨m,hmm,hlk⟩:=id L.loc;have notL:∀{b:Addr}{o:Obj},h'.get? b=some o->(∀es ep,o.data ≠ .dict es ep)->b≠X.env.locals:=λ{b o} g1 g2 z=>by
  obtain⟨o2,es,ep,k1,k2,_⟩:=hmm;rw[<-z]at k1;rw[show h'.get? b=some o2 from k1]at g1;cases g1;exact g2 _ _ k2
 have mem:∀{b:Addr}{o:Obj},h'.get? b=some o->b≠X.env.locals->(b,o)∈nZ (Att.lX h') h' X.env.locals:=λg1 g2=>su g2 (Att.qQ _ _) g1
 have hlim:∀s':eS,(∀p∈nZ (Att.lX h') h' X.env.locals,s'.heap.get? p.1=some p.2)->s'.heap.NoLimit:=λs' hk'=>L.ok.mod.nolimit.keeps λb o g=>hk' (b,o) (mem (L.bk b o g) (aP (bQ (af (L.ok.bs b o g).1) L.ok.above)))
 have calls:∀vs:List Value,vs.length=(hi-0).toNat->Ce vs->Paired (λv n=>KR X.prog X.w X.A.in1.in1 (nZ (Att.lX h') h' X.env.locals) (.ref f) v n) vs ns:=λvs lv rv=>by
  refine KY (S:=λd n=>∃a,gNl 0 d (j_ 1 [i] δ)=some a/\dK0 a=some (.int n)) (λy0 d v n r1 r2 ⟨a,g1,g2⟩=>?_) (ra0 H2) (rva vs lv rv) (Cd e2 e3);obtain⟨z,ds,r,rfl,g4,g5⟩:=YJ (u:=(δ[i]?).getD none) rfl g1 g2;obtain rfl:=r1.intE;obtain⟨t0,rfl⟩:=r2;have g6:δ[i]? = some (some (.d (.list ds))):=by
   cases g7:δ[i]? with
   |none=>rw[g7]at g4;cases g4
   |some u=>rw[g7]at g4;exact congrArg some g4
  have own0:ow i=none:=by
   cases g7:ow i with
   |none=>rfl
   |some b=>
    obtain⟨_,g8,_⟩:=R2.own i b g7;rw[hfl]at g8;rcases g8 with⟨g8,_⟩|⟨g8,_⟩<;>cases g8
  obtain⟨v0,k1,k2⟩:=R2.dat i _ g6 (by rw[hfl];rfl) own0;obtain⟨b,xs,rfl,k3,k4⟩:=k2.lstE;obtain⟨v1,k5,k6⟩:=k4.at g5;obtain⟨b2,ws,rfl,k7,k8⟩:=k6.tupE
  cases k8 with
  |cons k9 k10=>
  obtain rfl:=k9.intE;obtain⟨it2,rv2,pl2,hz2⟩:=L.list k3;obtain⟨it3,rv3,pl3,_⟩:=L.tuple k7;obtain⟨j,j1,j2,j3,j4,j5⟩:=yp k5;obtain⟨E,j6,j7⟩:=rv2.get j2
  cases j7
  cases rv3 with
  |cons r3 rv3=>
  obtain⟨t3,rfl⟩:=r3;have l2:=rv2.length;obtain⟨u,u1,u2⟩:=hlk i x _ hix k1 (.inr (.inl B))
  cases u1;rcases u2 with⟨u3,_⟩|⟨_,cl,u4,u5⟩
  ·have:some gT=some NameKind.local:=B.symm.trans u3
   cases this
  have:cl=c:=by rw[hcx]at u4;exact(cO.inj u4).symm
  subst this;refine⟨t3,λs' R' hk' hlim' hR=>?_⟩;have kk:∀{b:Addr}{o:Obj},h'.get? b=some o->(∀es ep,o.data ≠ .dict es ep)->s'.heap.get? b=some o:=λg1 g2=>hk' _ (mem g1 (notL g1 g2))
  have f1:s'.heap.get? f=some (kla_obj "<lambda>" q params (Rp x y p1 p2 p3 p4 p5 kd) scope [(x,cl)] ((X.mg "__name__").getD .none) c' ctv):=kk hfo (λ_ _ z=>by cases z);have f2:s'.heap.CodeRec (.ref c') q:=by
   obtain⟨c2,oc,vs2,tq,E,F,w3,w4⟩:=C;exact⟨c2,oc,vs2,tq,E,kk F (λ_ _ z=>by rw[w3]at z;cases z),w3,w4⟩
  have f3:s'.heap.IsCell cl (some (.ref b)):=by
   obtain⟨o,E,F⟩:=u5;exact⟨o,kk E (λ_ _ z=>by rw[F]at z;cases z),F⟩
  have f4:s'.heap.IsList b it2.toArray:=by
   obtain⟨o,E,F,w3,w4⟩:=pl2.isList;exact⟨o,kk E (λ_ _ z=>by rw[w4]at z;cases z),F,w3,w4⟩
  have f5:∀{it5:Array Value},g9 h' b2 it5->g9 s'.heap b2 it5:=λ⟨o,E,F,w3,w4⟩=>⟨o,kk E (λ_ _ z=>by rw[w4]at z;cases z),F,w3,w4⟩
  exact Vl (i:=z) (j:=j) (its:=it2.toArray) f1 f2 (by have:=hr.dp;show X.A.depth<_;omega) hlim' (λu=>hbind _ _ _ _ u) hco hgen hk hcells hy hxf hxd hyd hxc f3 f4 (by rw[aM,<-l2];exact j4) (by rw[aM,<-l2];exact j5)
   (by rw[aM,<-l2];exact hz2) (by rw[aM,<-l2];exact j1) (by simpa using j6) (f5 pl3) (by simp) hR
 have fin:∀(D:Addr)(O:f8)(ec W:Nat)(is:List V)(ds:List D3.D)(vo:List Value),Vals is vo->is.length<=sizeLine->(∀(h:Hp),RAs X.K ok0 false h is ds) ->
  ur l ns=ds->Fr (Att.lX h') X.env.locals O m->News (Att.lX h') X.env.locals O ((D,seqObj "list" (ju vo) ec)::nZ (Att.lX h') h' X.env.locals)->(∀z∈nZ (Att.lX h') h' X.env.locals,z.1<D) ->
  EP X pins σ Q (.ref D) {s1 with heap:=O,toks:=W}:=λD O ec W is ds vo v1 v2 v3 v4 F3 t lt=>by
  have kept3:∀b o,b≠X.env.locals->h'.get? b=some o->O.get? b=some o:=λb o hb g=>(t (b,o) (au _ (mem g hb))).1
  have hD:h'.get? D=none:=by
   cases g:h'.get? D with
   |none=>rfl
   |some o=>
    by_cases z:D=X.env.locals
    ·exact absurd z (t _ (ak ..)).2.1
    ·exact absurd (lt (D,o) (mem g z)) (eF _)
  have hn:H2 D=none:=by
   cases g:H2 D with
   |none=>rfl
   |some u=>
    obtain⟨w,hw⟩:=wL (L.hok D u g);rw[show h'.get? D=some w from hw]at hD;cases hD
  have new:gA X.prog X.w (upd H2 D (.lst is)) O D (.lst is):=⟨v2,vo,ec,v1,(t _ (ak ..)).1⟩;have J:=Kf (s:={s1 with heap:=h',toks:=tk}) (h':=O) L hmm F3.ns kept3 hD new;refine⟨.ref D,_,J.tok W,rfl,q0 _ _ ((sm1.trans sm2).trans (cM hn _)) (.inr ⟨D,is,ds,rfl,(by show hU (ur l ns)=_;rw[v4]),(sm1.trans sm2).free hn,bT,?_⟩)⟩;exact(v3 _).imp (λ_ z=>z.elim) (λz=>z)
 refine Vq (I.ok.hd hcm) (Att.Oo hmm) Ey hrg2 smr hsz (by omega) calls hlim λD O ec W vs lv rv F3 t lt=>?_
 by_cases h1:(hi-0).toNat<=1
 ·rw[if_pos h1]at t;exact fin D O ec W _ l vs (rva vs lv rv) (by rw[aq,uD];exact aW h1 (by decide)) (λh=>RAs.flat hc.2 (ra0 h)) (by unfold ur;rw[if_pos (by omega)]) F3 t lt
 ·rw[if_neg h1]at t;have eo:ur l ns=(nO (hi-0).toNat (ltK ns)).map λi=>l.getD i .none:=by unfold ur;rw[if_neg (by omega),ll];rfl
  have pm:=jg (n:=(hi-0).toNat) (by omega) (ltK ns);refine fin D O ec W ((nO (hi-0).toNat (ltK ns)).map λi=>((lE 0 (hi-0).toNat).map λ(j:Nat)=>V.int (0+(j:Int))).getD i .non) _ _ ?_ ?_ ?_ eo F3 t lt
  ·have rvs:=rva vs lv rv;generalize nO (hi-0).toNat (ltK ns)=is
   induction is with
   |nil=>exact .nil
   |cons i is ih=>exact .cons (Ca rvs i) ih
  ·rw[aq,pm.length_eq,bV];exact aW (cG (ll▸hc.1)) (by decide)
  ·intro h;have r:=ra0 h;generalize nO (hi-0).toNat (ltK ns)=is
   induction is with
   |nil=>exact .nil
   |cons i is ih=>exact .cons (RA.flat (zH hc.2 i) (Dj r i)) ih
end
end XL
namespace D3
open L2 My
section
variable{X:Cx}{fl:List Fl}{e a b:Expr}{es:List Expr}{f fa fb:FE}{fr:FA}{k:Kd}{pos:Pos}
theorem vA(i:Nat){x:Str}(B:fl[i]? = some .A:=by rfl)(O:X.N[i]? = some x:=by rfl)(J:Vis X.env.scope x:=by first|exact f7 rfl|exact fF (f7 rfl)|exact fF (fF rfl))(hd:(x==("__debug__":Str))=false:=by decide)
 (D:(x==("__classdict__":Str))=false:=by decide):DE X fl .A (.Name x pos) (aj i):=CJ i B O J hd D
theorem vP(i:Nat){x:Str}(B:fl[i]? = some .A:=by rfl)(O:X.N[i]? = some x:=by rfl)(J:Vis X.env.scope x:=by first|exact f7 rfl|exact fF (f7 rfl)|exact fF (fF rfl))(hd:(x==("__debug__":Str))=false:=by decide)
 (D:(x==("__classdict__":Str))=false:=by decide):DE X fl .P (.Name x pos) (aj i):=eG (CJ i B O J hd D)
theorem vB(i:Nat){x:Str}(D:fl[i]? = some .A:=by rfl)(W:X.N[i]? = some x:=by rfl)(O:Vis X.env.scope x:=by first|exact f7 rfl|exact fF (f7 rfl)|exact fF (fF rfl))(hd:(x==("__debug__":Str))=false:=by decide)
 (J:(x==("__classdict__":Str))=false:=by decide):DE X fl (.B []) (.Name x pos) (aj i):=lH (CJ i D W O hd J)
theorem iP{i j pos}:DE X fl .P (.Constant (.int i) j pos) (dC (.int i)):=bw CN
theorem iC{i j pos}:DE X fl .C (.Constant (.int i) j pos) (dC (.int i)):=mO CN
theorem dz:DB X fl k [] aN:=X_
theorem dq(h:DE X fl k e f)(B:DB X fl k es fr)(D:isR k=true:=by rfl)(hs:starEach (e::es) X.env=(false,eval e X.env)::starEach es X.env:=by exact n_ rfl):DB X fl k (e::es) (ao f fr):=Um D h B hs
theorem dx(ha:DE X fl (.B L) a fa)(D:DE X fl .P b fb)(hs:qM b:=by exact λ_ _=>rfl):DE X fl .A (.Subscript a b pos) (dOp gIx fa fb):=ab4 ha D hs
theorem sA(O:X.N.Nodup)(h:DE X fl .A e f)(D:fl[i]? = some .A:=by rfl)(hi:X.N[i]? = some x:=by rfl)(J:X.env.scope.names.lookup x=some .local\/X.env.scope.names.lookup x=some .cell:=by first|exact f7 rfl|exact fF rfl)
 (hs:swapsWith e (some (.Name x pos')) pos.line X.env=pure false:=by rfl) (B:X.fn x=true\/X.env.scope.names.lookup x=some .local:=by first|exact .inl rfl|exact .inr rfl) :
 DS1 X fl (.Assign [.Name x pos'] e pos) (bO i f):=Uk D O hi J h hs B
theorem gN'(O:X.N.Nodup)(D:fl[i]? = some .A:=by rfl)(hi:X.N[i]? = some x:=by rfl)(J:X.env.scope.names.lookup x=some .local\/X.env.scope.names.lookup x=some .cell:=by first|exact f7 rfl|exact fF rfl)
 (B:X.fn x=true\/X.env.scope.names.lookup x=some .local:=by first|exact .inl rfl|exact .inr rfl):DG X fl [i] (.Name x pos) (gNl i):=Ul D O hi J B
end
theorem fsc{P:List Str}{sc:hV}(a:sc.kind = .function:=by rfl)(b:sc.isCoroutine=false:=by rfl)(c:sc.isGenerator=false:=by rfl)(d:N.Nodup:=by decide +kernel)(e:N.take P.length=P:=by rfl)(f:∀x∈P,sc.names.lookup x=some .local\/sc.names.lookup x=some .cell:=by decide +kernel)(g:∀y∈sc.names,y.2 ≠ .free:=by decide +kernel):FnScope N P sc:=⟨a,b,c,d,e,f,g⟩
end D3
namespace D3
def qS(o:Option Oc)(b:FS):Option Oc:=match o with
 |some (.nx δ)=>b δ
 |some o=>some o
 |none=>none
def qI(o:Option Bool)(a b:FS)(δ:DS):Option Oc:=match o with
 |some true=>a δ
 |some false=>b δ
 |none=>none
noncomputable def qO(g:D->D->Option D)(a b:Option D):Option D:=match a,b with
 |some x,some y=>g x y
 |_,_=>none
def qU(g:D->Option D)(a:Option D):Option D:=match a with
 |some x=>g x
 |none=>none
def qC(a:Option D)(r:Option (List D)):Option (List D):=match a,r with
 |some x,some l=>some (x::l)
 |_,_=>none
def qF(F:List D->Option D)(l:Option (List D)):Option D:=match l with
 |some l=>F l
 |none=>none
def qR(a:Option D):Option Oc:=match a with
 |some d=>some (.rt d)
 |none=>none
noncomputable def YM(i:Nat)(a:Option D)(δ:DS):Option Oc:=match a with
 |some d=>if i<δ.length then some (.nx (δ.set i (some (.d d))))else none
 |none=>none
def Nf(a:Option D)(fb:FE)(δ:DS):Option D:=match a with
 |some (.bool true)=>fb δ
 |some (.bool false)=>some (.bool false)
 |_=>none
def qOr(a:Option D)(fb:FE)(δ:DS):Option D:=match a with
 |some (.bool true)=>some (.bool true)
 |some (.bool false)=>fb δ
 |_=>none
def qN(a:Option D):Option D:=match a with
 |some (.bool b)=>some (.bool (!b))
 |_=>none
def qB(a:Option D):Option Bool:=match a with
 |some (.bool b)=>some b
 |_=>none
def qTA(a:Option Bool)(b:FT)(δ:DS):Option Bool:=match a with
 |some true=>b δ
 |some false=>some false
 |none=>none
def qTO(a:Option Bool)(b:FT)(δ:DS):Option Bool:=match a with
 |some true=>some true
 |some false=>b δ
 |none=>none
def qTN(a:Option Bool):Option Bool:=match a with
 |some b=>some (!b)
 |none=>none
def qE(a:Option Bool)(fa fb:FE)(δ:DS):Option D:=match a with
 |some true=>fa δ
 |some false=>fb δ
 |none=>none
def qL(a:Option D):Option (List D):=match a with
 |some (.list l)=>some l
 |_=>none
def YQ(a:Option (List D))(g:FG)(b:FS)(δ:DS):Option Oc:=match a with
 |some l=>g_ g b l δ
 |none=>none
def qD(a:Option DS):Option Oc:=match a with
 |some δ=>some (.nx δ)
 |none=>none
def qG(a:Option D)(g:FG)(δ:DS):Option DS:=match a with
 |some d=>g d δ
 |none=>none
def qGs(a:Option DS)(r:List D->DS->Option DS)(l:List D):Option DS:=match a with
 |some δ=>r l δ
 |none=>none
def qT(a:Option (List D)):Option D:=match a with
 |some l=>if l.length<=sizeLine then some (.tuple l)else none
 |none=>none
def qK(a:Option (List D)):Option D:=match a with
 |some l=>if l.length<=sizeLine then some (.list l)else none
 |none=>none
def qFl(p:D->Bool)(a:Option D):Option D:=match a with
 |some d=>if p d=true then some d else none
 |none=>none
noncomputable def qA(i:Nat)(x a:Option D)(δ:DS):Option Oc:=match x,a with
 |some (.list l),some d=>if l.length<1000000 then some (.nx (δ.set i (some (.d (.list (l++[d]))))))else none
 |_,_=>none
def qP(i:Nat)(a x k:Option D)(δ:DS):Option Oc:=match a,x,k with
 |some d,some (.list l),some (.int j)=>(pIx l.length j).bind λn=>some (.nx (δ.set i (some (.d (.list (l.set n d))))))
 |_,_,_=>none
def qCh(g':D->D->Option D)(z:Option D)(y:Option D)(fc:FE)(δ:DS):Option D:=match z with
 |some (.bool true)=>qO g' y (fc δ)
 |some (.bool false)=>some (.bool false)
 |_=>none
def qFn(o:Option Oc):Option D:=match o with
 |some (.rt d)=>some d
 |some (.nx _)=>some .none
 |_=>none
def qCo(a:Option (List D))(g:FG)(c:FT)(e:FE)(t:Nat)(ix:List Nat)(δ:DS):Option D:=match a with
 |some l=>if l.length<=100000 then(match jK g c e (j_ t ix δ) l with|some r=>some (.list r)|none=>none)else none
 |none=>none
section
variable{a b:FS}{c c':FT}{fa fb fc:FE}{fr:FA}{δ:DS}{g:D->D->Option D}{h:D->Option D}{F:List D->Option D}{i:Nat}{G:FG}{d:D}
theorem ad3:bU a b δ=qS (a δ) b:=by
 unfold bU qS
 cases a δ with
 |none=>rfl
 |some o=>cases o<;>rfl
theorem Rw:qS (some (.nx δ')) b=b δ':=rfl
theorem Rx:qS (some (.rt d)) b=some (.rt d):=rfl
theorem Ry:qS (some (.bk δ')) b=some (.bk δ'):=rfl
theorem Rz:qS (some (.ct δ')) b=some (.ct δ'):=rfl
theorem ad4:dB δ=some (.nx δ):=rfl
theorem al9:sBk δ=some (.bk δ):=rfl
theorem am0:sCt δ=some (.ct δ):=rfl
theorem am1:sIf c a b δ=qI (c δ) a b δ:=by
 unfold sIf qI
 cases c δ with
 |none=>rfl
 |some t=>cases t<;>rfl
theorem YS:qI (some true) a b δ=a δ:=rfl
theorem YT:qI (some false) a b δ=b δ:=rfl
theorem v_op:dOp g fa fb δ=qO g (fa δ) (fb δ):=by
 unfold dOp qO
 cases fa δ<;>cases fb δ<;>rfl
theorem YW{x:D}:qO g (some x) (some y)=g x y:=rfl
theorem am2:dUn h fa δ=qU h (fa δ):=by
 unfold dUn qU
 cases fa δ<;>rfl
theorem YX{x:D}:qU h (some x)=h x:=rfl
theorem YZ:aN δ=some []:=rfl
theorem Vr:ao fa fr δ=qC (fa δ) (fr δ):=by
 unfold ao qC
 cases fa δ<;>cases fr δ<;>rfl
theorem Ng{x:D}:qC (some x) (some l)=some (x::l):=rfl
theorem Y0:dCall F fr δ=qF F (fr δ):=by
 unfold dCall qF
 cases fr δ<;>rfl
theorem RB:qF F (some l)=F l:=rfl
theorem ad5:dh fa δ=qR (fa δ):=by
 unfold dh qR
 cases fa δ<;>rfl
theorem Vs:qR (some d)=some (.rt d):=rfl
theorem Y4:aa8 δ=some (.rt .none):=rfl
theorem ad6:bO i fa δ=YM i (fa δ) δ:=by
 unfold bO aa7 YM
 cases fa δ with
 |none=>simp
 |some d=>rfl
theorem Vt:YM i (some d) δ=if i<δ.length then some (.nx (δ.set i (some (.d d))))else none:=rfl
theorem v_c:dC d δ=some d:=rfl
theorem v_and:wD fa fb δ=Nf (fa δ) fb δ:=by
 unfold wD Nf
 cases fa δ with
 |none=>rfl
 |some x=>
  cases x<;>try rfl
  next b=>cases b<;>rfl
theorem Vu:Nf (some (.bool true)) fb δ=fb δ:=rfl
theorem Vv:Nf (some (.bool false)) fb δ=some (.bool false):=rfl
theorem v_or:dOr fa fb δ=qOr (fa δ) fb δ:=by
 unfold dOr qOr
 cases fa δ with
 |none=>rfl
 |some x=>
  cases x<;>try rfl
  next b=>cases b<;>rfl
theorem Y5:qOr (some (.bool true)) fb δ=some (.bool true):=rfl
theorem Y6:qOr (some (.bool false)) fb δ=fb δ:=rfl
theorem v_not:OD fa δ=qN (fa δ):=by
 unfold OD qN
 cases fa δ with
 |none=>rfl
 |some x=>cases x<;>rfl
theorem Vw{b:Bool}:qN (some (.bool b))=some (.bool (!b)):=rfl
theorem am3:bG fa δ=qB (fa δ):=by
 unfold bG qB
 cases fa δ with
 |none=>rfl
 |some x=>cases x<;>rfl
theorem Y7{b:Bool}:qB (some (.bool b))=some b:=rfl
theorem Y8:D3.HY c c' δ=qTA (c δ) c' δ:=by
 unfold D3.HY qTA
 cases c δ with
 |none=>rfl
 |some t=>cases t<;>rfl
theorem RD:qTA (some true) c δ=c δ:=rfl
theorem RG:qTA (some false) c δ=some false:=rfl
theorem ad7:D3.tOr c c' δ=qTO (c δ) c' δ:=by
 unfold D3.tOr qTO
 cases c δ with
 |none=>rfl
 |some t=>cases t<;>rfl
theorem Vx:qTO (some true) c δ=some true:=rfl
theorem Vy:qTO (some false) c δ=c δ:=rfl
theorem Y9:D3.gU c δ=qTN (c δ):=by
 unfold D3.gU qTN
 cases c δ<;>rfl
theorem RJ{b:Bool}:qTN (some b)=some (!b):=rfl
theorem v_ite:dIf c fa fb δ=qE (c δ) fa fb δ:=by
 unfold dIf qE
 cases c δ with
 |none=>rfl
 |some t=>cases t<;>rfl
theorem Vz:qE (some true) fa fb δ=fa δ:=rfl
theorem VB:qE (some false) fa fb δ=fb δ:=rfl
theorem ad8:uO fa δ=qL (fa δ):=by
 unfold uO qL asList
 cases fa δ with
 |none=>rfl
 |some x=>cases x<;>rfl
theorem VD:qL (some (.list l))=some l:=rfl
theorem ad9:kJ fr G b δ=YQ (fr δ) G b δ:=by
 unfold kJ YQ
 cases fr δ<;>rfl
theorem VF:YQ (some l) G b δ=g_ G b l δ:=rfl
theorem Nh:g_ G b [] δ=some (.nx δ):=rfl
theorem ae0:Fx fa G δ=qD (qG (fa δ) G δ):=by
 unfold Fx qG qD
 cases fa δ with
 |none=>rfl
 |some d=>
  dsimp only[aC]
  cases G d δ<;>rfl
theorem VG:qG (some d) G δ=G d δ:=rfl
theorem VH:qD (some δ')=some (.nx δ'):=rfl
theorem am4:gNl i d δ=if i<δ.length then some (δ.set i (some (.d d)))else none:=rfl
theorem am5{gs:List D->DS->Option DS}:gTn n gs (.tuple l) δ=if l.length=n then gs l δ else none:=rfl
theorem ae1:iT [] δ=some δ:=rfl
theorem ae2{gs:List D->DS->Option DS}:cg G gs (d::l) δ=qGs (G d δ) gs l:=by
 show(G d δ).bind (λδ'=>gs l δ')=qGs (G d δ) gs l
 cases G d δ<;>rfl
theorem VJ{gs:List D->DS->Option DS}:qGs (some δ') gs l=gs l δ':=rfl
theorem ae3:dTup fr δ=qT (fr δ):=by
 unfold dTup qT
 cases fr δ<;>rfl
theorem VL:qT (some l)=if l.length<=sizeLine then some (.tuple l)else none:=rfl
theorem am6:jz fr δ=qK (fr δ):=by
 unfold jz qK
 cases fr δ<;>rfl
theorem Y_:qK (some l)=if l.length<=sizeLine then some (.list l)else none:=rfl
theorem Za:ji fa δ=qFl flat (fa δ):=by
 unfold ji qFl
 cases fa δ<;>rfl
theorem ae4:Io fa δ=qFl fl1 (fa δ):=by
 unfold Io qFl
 cases fa δ<;>rfl
theorem Zb{p:D->Bool}:qFl p (some d)=if p d=true then some d else none:=rfl
theorem ae5:rT i fa δ=qA i (aj i δ) (fa δ) δ:=by
 unfold rT qA
 cases aj i δ with
 |none=>rfl
 |some x=>
  cases fa δ with
  |none=>cases x<;>rfl
  |some d=>cases x<;>rfl
theorem VN:qA i (some (.list l)) (some d) δ=if l.length<1000000 then some (.nx (δ.set i (some (.d (.list (l++[d]))))))else none:=rfl
theorem ae6:Cy i fk fa δ=qP i (fa δ) (aj i δ) (fk δ) δ:=by
 unfold Cy qP
 cases fa δ with
 |none=>rfl
 |some d=>
  cases aj i δ with
  |none=>rfl
  |some x=>
   cases fk δ with
   |none=>cases x<;>rfl
   |some k=>cases x<;>cases k<;>rfl
theorem VP{j:Int}:qP i (some d) (some (.list l)) (some (.int j)) δ=(pIx l.length j).bind λn=>some (.nx (δ.set i (some (.d (.list (l.set n d)))))):=rfl
theorem VR:k_ g g' fa fb fc δ=qCh g' (qO g (fa δ) (fb δ)) (fb δ) fc δ:=by
 unfold k_ qCh qO
 cases fa δ with
 |none=>rfl
 |some x=>
  cases fb δ with
  |none=>rfl
  |some y=>
   dsimp only[aC]
   cases g x y with
   |none=>rfl
   |some z=>
    cases z<;>try rfl
    next b=>
    cases b with
    |false=>rfl
    |true=>dsimp only[aC];cases fc δ<;>rfl
theorem Ni{y:Option D}:qCh g' (some (.bool true)) y fc δ=qO g' y (fc δ):=rfl
theorem Nj{y:Option D}:qCh g' (some (.bool false)) y fc δ=some (.bool false):=rfl
theorem ae7{p q:Nat}:fnD p q b ds=if ds.length=p then qFn (b (ds.map (λd=>some (.d d))++aO q none))else none:=by
 rfl
theorem V0:qFn (some (.rt d))=some d:=rfl
theorem V1:qFn (some (.nx δ'))=some .none:=rfl
theorem Zc{t:Nat}:jk fr G c fa t ix δ=qCo (fr δ) G c fa t ix δ:=by
 unfold jk qCo
 cases fr δ with
 |none=>rfl
 |some l=>
  dsimp only[aC];by_cases z:l.length<=100000
  ·rw[if_pos z,if_pos z]
   cases jK G c fa (j_ t ix δ) l<;>rfl
  ·rw[if_neg z,if_neg z]
theorem RK{t:Nat}:qCo (some l) G c fa t ix δ=if l.length<=100000 then(match jK G c fa (j_ t ix δ) l with|some r=>some (.list r)|none=>none)else none:=rfl
theorem ae8:D3.j9 δ=some true:=rfl
theorem Zd{r:DS}{x:D}:aj 0 (some (.d x)::r)=some x:=rfl
theorem Ze{r:DS}{y:Option U}:aj (i+1) (y::r)=aj i r:=rfl
end
section
variable{i j:Int}{l m:List D}{d:D}
theorem ae9:eY (.int i) (.int j)=some (.int (i+j)):=rfl
theorem af0:vg (.int i) (.int j)=some (.int (i-j)):=rfl
theorem am7:gLt (.int i) (.int j)=some (.bool (decide (i<j))):=rfl
theorem am8:gLe (.int i) (.int j)=some (.bool (decide (i<=j))):=rfl
theorem am9:gGt (.int i) (.int j)=some (.bool (decide (j<i))):=rfl
theorem an0:gGe (.int i) (.int j)=some (.bool (decide (j<=i))):=rfl
theorem af2:gEq (.int i) (.int j)=some (.bool (decide (i=j))):=rfl
theorem af3:gNe (.int i) (.int j)=some (.bool (!decide (i=j))):=rfl
theorem af4:jd [.list l]=some (.int l.length):=rfl
theorem Zf:jd [.tuple l]=some (.int l.length):=rfl
theorem tW:∀ns:List Int,dF (ns.map .int)=some ns
 |[]=>rfl
 |n::r=>by rw[aF,dF,tW r];rfl
theorem af5:ak8 [.int i]=some (.int (if i<0 then -i else i)):=rfl
theorem af6:xG [.int i,.int j]=some (.int (if j>i then j else i)):=rfl
theorem af7:FJ [.int i,.int j]=some (.int (if j<i then j else i)):=rfl
theorem af8:O1 (.int i)=some (.int (-i)):=rfl
theorem an1:gIx (.list l) (.int i)=pAt l i:=rfl
theorem af9:gIx (.tuple l) (.int i)=pAt l i:=rfl
theorem WX:sE (.list l) (.list m)=if l.length+m.length<=1000000 then some (.list (l++m))else none:=rfl
theorem Zg:xH (.list l)=some (.list l):=rfl
theorem V2:xH (.tuple l)=some (.list l):=rfl
theorem ag0:pAt (d::l) 0=some d:=by
 unfold pAt pIx;rw[if_pos (by decide),if_pos (by simp)];rfl
end
noncomputable def Zh(i j:Nat)(a:Option (List D))(δ:DS):Option Oc:=match a with
 |some l=>match l with
  |[x,y]=>if i<δ.length/\j<δ.length then some (.nx ((δ.set i (some (.d x))).set j (some (.d y))))else none
  |_=>none
 |none=>none
def uw(a:Option (List D)):Option (List D):=match a with
 |some l=>match l with
  |[.int j]=>if yS j=true then some (gD 0 j)else none
  |_=>none
 |none=>none
def WY(a:Option (List D)):Option (List D):=match a with
 |some l=>match l with
  |[.int i,.int j]=>if(yS i&&yS j)=true then some (gD i j)else none
  |_=>none
 |none=>none
def qSl(x:Option D)(a b:Option (Option Int)):Option D:=match x,a,b with
 |some (.list l),some a,some b=>some (.list (cuD l a b))
 |_,_,_=>none
def qOP(x:Option D):Option (Option Int):=match x with
 |some (.int i)=>some (some i)
 |_=>none
def qEn(x:Option D):Option (List D):=match x with
 |some (.list l)=>some (rO l)
 |_=>none
section
variable{a b:FS}{fa:FE}{fr:FA}{δ:DS}{i j:Nat}{g:FG}
theorem ag1:ab0 i j fr δ=Zh i j (fr δ) δ:=by
 unfold ab0 Zh
 cases fr δ with
 |none=>rfl
 |some l=>rfl
theorem V3{x:D}:Zh i j (some [x,y]) δ=if i<δ.length/\j<δ.length then some (.nx ((δ.set i (some (.d x))).set j (some (.d y))))else none:=rfl
theorem Zi:mG fr δ=uw (fr δ):=by
 unfold mG uw
 cases fr δ with
 |none=>rfl
 |some l=>rfl
theorem G6{k:Int}(h : -(2^62)<=k)(h2:k<2^62):uw (some [.int k])=some (gD 0 k):=by
 show(if yS k=true then some (gD 0 k)else none)=_;rw[if_pos];unfold yS;rw[dTr h,dTr h2];rfl
theorem Zj:Wv fr δ=WY (fr δ):=by
 unfold Wv WY
 cases fr δ with
 |none=>rfl
 |some l=>rfl
theorem an2{lo hi:FO}:dSl fa lo hi δ=qSl (fa δ) (lo δ) (hi δ):=by
 unfold dSl qSl
 cases fa δ with
 |none=>rfl
 |some x=>
  dsimp only[aC]
  cases lo δ with
  |none=>cases x<;>rfl
  |some p=>
   dsimp only[aC]
   cases hi δ with
   |none=>cases x<;>rfl
   |some r=>cases x<;>rfl
theorem Zk{p r:Option Int}:qSl (some (.list l)) (some p) (some r)=some (.list (cuD l p r)):=rfl
theorem an3:p7 δ=some none:=rfl
theorem an4:fG fa δ=qOP (fa δ):=by
 unfold fG qOP
 cases fa δ with
 |none=>rfl
 |some x=>cases x<;>rfl
theorem Zm{k:Int}:qOP (some (.int k))=some (some k):=rfl
theorem Zn:JW fa δ=qEn (fa δ):=by
 unfold JW qEn
 cases fa δ with
 |none=>rfl
 |some x=>cases x<;>rfl
theorem RM:qEn (some (.list l))=some (rO l):=rfl
theorem tX(Inv:Nat->DS->Prop):∀(l:List D)(δ:DS),Inv 0 δ->(∀i d δ,l[i]? = some d->Inv i δ->∃B δ',g d δ=some B/\(b B=some (.nx δ')\/b B=some (.ct δ'))/\Inv (i+1) δ')->∃δ',g_ g b l δ=some (.nx δ')/\Inv l.length δ':=by
 have X:∀(l:List D)(k:Nat)(δ:DS),Inv k δ->(∀i d δ,l[i]? = some d->Inv (k+i) δ->∃B δ',g d δ=some B/\(b B=some (.nx δ')\/b B=some (.ct δ'))/\Inv (k+i+1) δ')->∃δ',g_ g b l δ=some (.nx δ')/\Inv (k+l.length) δ':=by
  intro l
  induction l with
  |nil=>exact λk δ h _=>⟨δ,rfl,h⟩
  |cons d r W=>
   intro k δ h hs;obtain⟨B,δ',U,e2,V⟩:=hs 0 d δ rfl h;obtain⟨Y,R,S⟩:=W (k+1) δ' V λi T Z hd hi=>by
    have:=hs (i+1) T Z (by simpa using hd) (by rwa[show k+(i+1)=k+1+i by omega]);rwa[show k+(i+1)+1=k+1+i+1 by omega]at this
   refine⟨Y,?_,by rwa[aR,show k+(r.length+1)=k+1+r.length by omega]⟩;rw[g_,U,aC];rcases e2 with e2|e2
   ·rwa[e2]
   ·rwa[e2]
 intro l δ h hs;have:=X l 0 δ h λi d δ hd hi=>by
  have:=hs i d δ hd (by rw[eX]at hi;exact hi);rwa[eX]
 rwa[eX]at this
end
def qX(a:Option D)(δ:DS):Option Oc:=match a with
 |some _=>some (.nx δ)
 |none=>none
theorem Zo{fa:FE}:Fw fa δ=qX (fa δ) δ:=by
 unfold Fw qX
 cases fa δ<;>rfl
theorem RN:qX (some d) δ=some (.nx δ):=rfl
theorem RP{g B:D->D->Option D}{fa fb fc fd:FE}:yq g g' B fa fb fc fd δ=Nf (qO g (fa δ) (fb δ)) (k_ g' B fb fc fd) δ:=by
 unfold yq Nf k_ qO
 cases fa δ with
 |none=>rfl
 |some x=>
  cases fb δ with
  |none=>rfl
  |some y=>
   dsimp only[aC]
   cases g x y with
   |none=>rfl
   |some z=>
    cases z<;>try rfl
    next b=>cases b<;>rfl
def qZ(a b:Option D):Option (List D):=match a,b with
 |some (.list l),some (.list m)=>some (jM l m)
 |_,_=>none
theorem ag2{f g:FE}:O2 f g δ=qZ (f δ) (g δ):=by
 unfold O2 qZ
 cases f δ with
 |none=>rfl
 |some x=>
  cases g δ with
  |none=>cases x<;>rfl
  |some y=>cases x<;>cases y<;>rfl
theorem V4{m:List D}:qZ (some (.list l)) (some (.list m))=some (jM l m):=rfl
theorem an5{fa:FE}:dN1 fa δ=qFl (λd=>decide (nl d<=1)) (fa δ):=by
 unfold dN1 qFl
 cases fa δ<;>rfl
theorem ag3:flat .none=true:=rfl
theorem an6{b:Bool}:flat (.bool b)=true:=rfl
theorem f_int{i:Int}:flat (.int i)=true:=rfl
theorem ag4:flat (.str x)=true:=rfl
theorem ag5:flat (.list l)=false:=rfl
theorem f_tup:flat (.tuple l)=flats l:=rfl
theorem ag6:flats []=true:=rfl
theorem Zq:flats (d::l)=(flat d&&flats l):=rfl
theorem Zr:fl1 .none=true:=rfl
theorem ag7{b:Bool}:fl1 (.bool b)=true:=rfl
theorem Zt{i:Int}:fl1 (.int i)=true:=rfl
theorem Zu:fl1 (.str x)=true:=rfl
theorem Zv:fl1 (.list l)=flats l:=rfl
theorem Zw:fl1 (.tuple l)=flats l:=rfl
theorem an7{c:String}:gIs c d=some (.bool (isT c (tyD d))):=rfl
theorem ag8:Fz d=some (.bool (isNone d)):=rfl
theorem Zx:aa9 d=some (.bool (!isNone d)):=rfl
theorem ag9:isNone .none=true:=rfl
theorem an8{b:Bool}:isNone (.bool b)=false:=rfl
theorem ah0{i:Int}:isNone (.int i)=false:=rfl
theorem ah1:isNone (.str x)=false:=rfl
theorem ah2:isNone (.list l)=false:=rfl
theorem ah3:isNone (.tuple l)=false:=rfl
theorem ah4{l:List (D×D)}:isNone (.dict l)=false:=rfl
noncomputable def EVL:=eR @ag3 <| eR @an6 <| eR @f_int <| eR @ag4 <| eR @ag5 <| eR @f_tup <| eR @ag6 <| eR @Zq <| eR @Zr <| eR @ag7 <| eR @Zt <| eR @Zu <| eR @Zv <| eR @Zw <| eR @an7 <| eR @ag8 <| eR @Zx <| eR @ag9 <| eR @an8 <| eR @ah0 <| eR @ah1 <| eR @ah2 <| eR @ah3 <| eR @ah4 <| eR @aR.{0} <| eR @iz.{0} <| eR @aF.{0,0} <| eR @iB.{0,0} <| eR @cL.{0} <| eR @List.replicate_zero.{0} <| eR @List.cons_append.{0} <| eR @cT.{0} <| eR @cA.{0} <| eR @List.set_cons_zero.{0} <| eR @List.set_cons_succ.{0} <| eR @eX <| eR @if_true.{1} <| eR @decide_true <| eR @decide_false <| eR @Int.cast_ofNat_Int <| eR @Bool.not_true <| eR @Bool.not_false <| @Bool.and_self
def EV:=eR EVL <| eR @an5 <| eR @ag2 <| eR @V4 <| eR @Zo <| eR @RN <| eR @RP <| eR @ad3 (eR @Rw (eR @Rx (eR @Ry (eR @Rz (eR @ad4 (eR @al9 (eR @am0 (eR @am1 (eR @YS (eR @YT (eR @v_op (eR @YW (eR @am2 (eR @YX (eR @YZ (eR @Vr (eR @Ng (eR @Y0 (eR @RB (eR @ad5 (eR @Vs (eR @Y4 (eR @ad6 (eR @Vt (eR @v_c (eR @v_and (eR @Vu (eR @Vv (eR @v_or (eR @Y5 (eR @Y6 (eR @v_not (eR @Vw (eR @am3 (eR @Y7 (eR @Y8 (eR @RD (eR @RG (eR @ad7 (eR @Vx (eR @Vy (eR @Y9 (eR @RJ (eR @v_ite (eR @Vz (eR @VB (eR @ad8 (eR @VD (eR @ad9 (eR @VF (eR @Nh (eR @ae0 (eR @VG (eR @VH (eR @am4 (eR @am5 (eR @ae1 (eR @ae2 (eR @VJ (eR @ae3 (eR @VL (eR @am6 (eR @Y_ (eR @Za (eR @ae4 (eR @Zb (eR @ae5 (eR @VN (eR @ae6 (eR @VP (eR @VR (eR @Ni (eR @Nj (eR @ae7 (eR @V0 (eR @V1 (eR @Zc (eR @RK (eR @ae8 (eR @Zd (eR @Ze (eR @ae9 (eR @af0 (eR @am7 (eR @am8 (eR @am9 (eR @an0 (eR @af2 (eR @af3 (eR @af4 (eR @Zf (eR @af5 (eR @af6 (eR @af7 (eR @af8 (eR @an1 (eR @af9 (eR @WX (eR @Zg (eR @V2 (eR @ag0 (eR @ag1 (eR @V3 (eR @Zi (eR @Zj (eR @an2 (eR @Zk (eR @an3 (eR @an4 (eR @Zm (eR @Zn @RM)))))))))))))))))))))))))))))))))))))))))))))))))))))))))))))))))))))))))))))))))))))))))))))))))))))))))))))))
end D3
namespace My
noncomputable def xT(ns:List Int)(i:Int):Int:=
 if i<(ns.length:Int)then ns.getD i.toNat 0%1000000007
 else if ns=[]then 7919*i+5000011
 else ns.getD (i*7%(ns.length:Int)).toNat 0%1000000007+7919*i
def divs(n:Int):Nat->Int
 |0=>n
 |k+1=>divs n k/1000003
noncomputable def KZ(c i k m:Int):Int:=
 (((c+65537*i+3)*(1299709+15485863*k)%2147483629*((c+65537*i+3)*(1299709+15485863*k)%2147483629)%1500450271+104729) *
  ((c+65537*i+3)*(1299709+15485863*k)%2147483629*((c+65537*i+3)*(1299709+15485863*k)%2147483629)%1500450271+104729))%715827883/64%m
def jP(ns:List Int)(i k m:Int):Int:=
 if i<(ns.length:Int)/\10^40<=ns.getD i.toNat 0/\0<divs (ns.getD i.toNat 0) k.toNat then divs (ns.getD i.toNat 0) k.toNat%1000003%m
 else KZ (xT ns i) i k m
theorem jQ(ns:List Int)(i k:Int){m:Int}(h:0<m):0<=jP ns i k m/\jP ns i k m<m:=by
 unfold jP KZ;split
 ·exact⟨rN _ (by omega),oK _ h⟩
 ·exact⟨rN _ (by omega),oK _ h⟩
theorem Nk{i k m:Int}(h1:i<(ns.length:Int))(h2:10^40<=ns.getD i.toNat 0)(B:0<divs (ns.getD i.toNat 0) k.toNat):
 jP ns i k m=divs (ns.getD i.toNat 0) k.toNat%1000003%m:=by
 unfold jP;rw[if_pos ⟨h1,h2,B⟩]
theorem uT{i k m:Int}(h:¬(i<(ns.length:Int)/\10^40<=ns.getD i.toNat 0/\0<divs (ns.getD i.toNat 0) k.toNat)):
 jP ns i k m=KZ (xT ns i) i k m:=by
 unfold jP;rw[if_neg h]
end My
namespace Com
open D3
def gR:List D->Option D:=fnD 1 0 (dh (wD (dUn (gIs "int") (aj 0)) (OD (dUn (gIs "bool") (aj 0)))))
def jm:List D->Option D:=fnD 2 0 (bU (sIf (bG (dOp gLt (aj 1) (dCall jd (ao (aj 0) (aN))))) (dh (dOp uN (dOp gIx (aj 0) (aj 1)) (dC (.int 1000000007)))) (dB))
    (bU (sIf (bG (dOp gEq (aj 0) (jz (aN)))) (dh (dOp eY (dOp uc (dC (.int 7919)) (aj 1)) (dC (.int 5000011)))) (dB))
    (dh (dOp eY (dOp uN (dOp gIx (aj 0) (dOp uN (dOp uc (aj 1) (dC (.int 7))) (dCall jd (ao (aj 0) (aN))))) (dC (.int 1000000007))) (dOp uc (dC (.int 7919)) (aj 1))))))
def bY:List D->Option D:=fnD 4 2 (bU (sIf (D3.HY (bG (dOp gLt (aj 1) (dCall jd (ao (aj 0) (aN))))) (bG (dOp gGe (dOp gIx (aj 0) (aj 1)) (dOp X6 (dC (.int 10)) (dC (.int 40)))))) (bU (bO 4 (dOp gIx (aj 0) (aj 1)))
    (bU (kJ (mG (ao (aj 2) (aN))) (gNl 5) (bO 4 (dOp Fy (aj 4) (dC (.int 1000003)))))
    (sIf (bG (dOp gGt (aj 4) (dC (.int 0)))) (dh (dOp uN (dOp uN (aj 4) (dC (.int 1000003))) (aj 3))) (dB)))) (dB))
    (bU (bO 4 (dOp uN (dOp uc (dOp eY (dOp eY (dCall jm (ao (aj 0) (ao (aj 1) (aN)))) (dOp uc (dC (.int 65537)) (aj 1))) (dC (.int 3))) (dOp eY (dC (.int 1299709)) (dOp uc (dC (.int 15485863)) (aj 2)))) (dC (.int 2147483629))))
    (bU (bO 4 (dOp eY (dOp uN (dOp uc (aj 4) (aj 4)) (dC (.int 1500450271))) (dC (.int 104729))))
    (dh (dOp uN (dOp Fy (dOp uN (dOp uc (aj 4) (aj 4)) (dC (.int 715827883))) (dC (.int 64))) (aj 3))))))
def cN:List D->Option D:=fnD 1 0 (dh (wD (dUn (gIs "int") (aj 0)) (OD (dUn (gIs "bool") (aj 0)))))
def jR:List D->Option D:=fnD 2 4 (bU (bO 2 (dCall bY (ao (aj 0) (ao (dC (.int 1)) (ao (dC (.int 0)) (ao (dC (.int 380)) (aN)))))))
    (bU (bO 3 (jz (aN)))
    (bU (kJ (mG (ao (aj 1) (aN))) (gNl 4) (bU (bO 5 (dCall bY (ao (aj 0) (ao (dC (.int 2)) (ao (aj 4) (ao (dC (.int 9)) (aN)))))))
    (rT 3 (dOp gIx (jz (ao (dC (.int 0)) (ao (dOp vg (dOp eY (aj 2) (aj 5)) (dC (.int 5))) (aN)))) (dCall q_ (ao (dOp gGt (aj 5) (dC (.int 4))) (aN)))))))
    (dh (Io (aj 3))))))
def jT:List D->Option D:=fnD 1 0 (dh (dTup (ao (ji (dOp gIx (aj 0) (dC (.int 0)))) (ao (ji (dOp gIx (aj 0) (dC (.int 1)))) (aN)))))
def fP:List D->Option D:=fnD 3 0 (dh (wD (dCall gR (ao (aj 0) (aN))) (k_ gLe gLe (aj 1) (aj 0) (aj 2))))
def fQ:List D->Option D:=fnD 3 0 (bU (sIf (bG (aj 2)) (dh (ji (dOp gIx (aj 1) (dC (.int 1))))) (dB))
    (dh (ji (dIf (bG (dOp gLe (aj 0) (dOp gIx (aj 1) (dC (.int 0))))) (dC (.int 0)) (aj 0)))))
def dD:List D->Option D:=fnD 4 0 (bU (sIf (D3.tOr (bG (dOp gLe (dOp gIx (aj 0) (dC (.int 1))) (dOp gIx (aj 2) (dC (.int 0))))) (bG (dOp gLe (dOp gIx (aj 2) (dC (.int 1))) (dOp gIx (aj 0) (dC (.int 0)))))) (dh (dC (.bool true))) (dB))
    (dh (dOr (dOp gLe (dOp eY (aj 1) (dOp gIx (aj 0) (dC (.int 2)))) (aj 3)) (dOp gLe (dOp eY (aj 3) (dOp gIx (aj 2) (dC (.int 2)))) (aj 1)))))
def jU:List D->Option D:=fnD 3 6 (bU (sIf (D3.tOr (D3.gU (bG (dUn (gIs "list") (aj 2)))) (bG (dOp gNe (dCall jd (ao (aj 2) (aN))) (dCall jd (ao (aj 1) (aN)))))) (dh (dC (.bool false))) (dB))
    (bU (kJ (mG (ao (dCall jd (ao (aj 1) (aN))) (aN))) (gNl 3) (bU (bO 4 (dOp gIx (aj 2) (aj 3)))
    (bU (Fx (dOp gIx (aj 1) (aj 3)) (gTn 3 (cg (gNl 5) (cg (gNl 6) (cg (gNl 7) (iT))))))
    (bU (sIf (D3.tOr (D3.gU (bG (dCall cN (ao (aj 4) (aN))))) (D3.gU (bG (k_ gLe gLe (dC (.int 0)) (aj 4) (dOp vg (dCall jd (ao (aj 0) (aN))) (aj 7)))))) (dh (dC (.bool false))) (dB))
    (sIf (bG (dOp gGt (dCall yU (ao (dSl (aj 0) (fG (aj 4)) (fG (dOp eY (aj 4) (aj 7)))) (aN))) (aj 5))) (dh (dC (.bool false))) (dB))))))
    (bU (kJ (mG (ao (dCall jd (ao (aj 1) (aN))) (aN))) (gNl 3) (kJ (mG (ao (aj 3) (aN))) (gNl 8) (sIf (D3.gU (bG (dCall dD (ao (dOp gIx (aj 1) (aj 8)) (ao (dOp gIx (aj 2) (aj 8)) (ao (dOp gIx (aj 1) (aj 3)) (ao (dOp gIx (aj 2) (aj 3)) (aN)))))))) (dh (dC (.bool false))) (dB))))
    (dh (dC (.bool true))))))
def iJ:List D->Option D:=fnD 3 5 (bU (bO 3 (dCall bY (ao (aj 0) (ao (dC (.int 1)) (ao (dC (.int 0)) (ao (dC (.int 380)) (aN)))))))
    (bU (bO 4 (jz (aN)))
    (bU (kJ (mG (ao (aj 2) (aN))) (gNl 5) (bU (bO 6 (dOp eY (aj 3) (dCall bY (ao (aj 0) (ao (dOp eY (dC (.int 3)) (aj 5)) (ao (dC (.int 0)) (ao (dC (.int 7)) (aN))))))))
    (bU (bO 7 (dOp eY (dC (.int 1)) (dCall bY (ao (aj 0) (ao (dOp eY (dC (.int 3)) (aj 5)) (ao (dC (.int 2)) (ao (aj 1) (aN))))))))
    (bU (sIf (bG (dOp gEq (dCall bY (ao (aj 0) (ao (dOp eY (dC (.int 3)) (aj 5)) (ao (dC (.int 3)) (ao (dC (.int 16)) (aN)))))) (dC (.int 0)))) (bO 7 (dCall FJ (ao (dC (.int 6)) (ao (dOp eY (aj 1) (dC (.int 1))) (aN))))) (dB))
    (rT 4 (dTup (ao (aj 6) (ao (dOp eY (dOp eY (aj 6) (dC (.int 1))) (dCall bY (ao (aj 0) (ao (dOp eY (dC (.int 3)) (aj 5)) (ao (dC (.int 1)) (ao (dC (.int 6)) (aN))))))) (ao (aj 7) (aN))))))))))
    (dh (Io (aj 4))))))
end Com
namespace Com
open D3 My
theorem vZ{i:Int}(B:0<=i)(h1:i<ns.length):pAt (ns.map eT) i=some (.int (ns.getD i.toNat 0)):=by
 unfold pAt pIx;rw[aq,if_pos B,if_pos h1,aC,aU];have h:i.toNat<ns.length:=by omega
 rw[aA h];simp[List.getD,h]
theorem DX{k:Nat}:pAt l (k:Int)=l[k]?:=by
 unfold pAt pIx;rw[if_pos (by omega)];by_cases h:k<l.length
 ·rw[if_pos (by omega),aC];simp
 ·rw[if_neg (by omega),aZ (by omega)];rfl
theorem at0{a:D}:pAt (a::l) 0=some a:=DX (k:=0)
theorem at1{a b:D}:pAt (a::b::l) 1=some b:=DX (k:=1)
theorem DY{i j:Int}(h:0<j):uN (.int i) (.int j)=some (.int (i%j)):=by
 show(if decide (j≠0)=true then some (eT (i.fmod j))else none)=_;rw[if_pos (dTr (by omega)),Int.fmod_eq_emod_of_nonneg i (by omega)]
theorem RQ{j:Int}(h:j.natAbs<2^64):j.natAbs<2^9000:=bQ h (Nat.pow_le_pow_right (by decide) (by decide))
theorem an9{i j:Int}(h:0<j)(h2:j.natAbs<2^9000):Fy (.int i) (.int j)=some (.int (i/j)):=by
 show(if Ir i j=true then some (eT (i.fdiv j))else none)=_;have e:Ir i j=true:=by
  unfold Ir;rw[aV];exact⟨dTr (by omega),dTr h2⟩
 rw[if_pos e,Int.fdiv_eq_ediv_of_nonneg i (by omega)]
theorem ah5{i j:Int}(h:0<j)(h2:j<18446744073709551616):Fy (.int i) (.int j)=some (.int (i/j)):=an9 h (RQ (by omega))
theorem mulL{i j:Int}(h1 : -18446744073709551616<i)(h2:i<18446744073709551616):uc (.int i) (.int j)=some (.int (i*j)):=by
 show(if yR i j=true then some (eT (i*j))else none)=_;have e:yR i j=true:=by
  unfold yR;rw[dTr (show i.natAbs<2^64 by omega)];rfl
 rw[if_pos e]
theorem mulR{i j:Int}(h1 : -18446744073709551616<j)(h2:j<18446744073709551616):uc (.int i) (.int j)=some (.int (i*j)):=by
 show(if yR i j=true then some (eT (i*j))else none)=_;have e:yR i j=true:=by
  unfold yR;rw[dTr (show j.natAbs<2^64 by omega),Bool.or_true];rfl
 rw[if_pos e]
theorem W6:X6 (.int 10) (.int 40)=some (.int (10^40)):=rfl
theorem sz(h:n<=1000000):n<=sizeLine:=aW h (by decide)
theorem shaped_ints(ns:List Int):fN (.list (ns.map eT))=true:=by
 have h1:∀ns:List Int,f_ (ns.map eT)=true:=λns=>by
  induction ns with
  |nil=>rfl
  |cons a r Z=>simp[f_,ff,Z]
 have h2:∀ns:List Int,hF (ns.map eT)<=1:=λns=>by
  induction ns with
  |nil=>simp[hF]
  |cons a r Z=>simp[hF,hH];omega
 unfold fN;rw[aV];refine⟨by simp[ff,h1],dTr ?_⟩;have:=h2 ns;simp only[hH];omega
theorem eq_empty(ns:List Int):gEq (.list (ns.map eT)) (.list [])=some (.bool (decide (ns=[]))):=by
 unfold gEq;rw[shaped_ints ns]
 cases ns with
 |nil=>rfl
 |cons a r=>rfl
theorem Nm{i:Int}(B:0<=i):jm [.list (ns.map .int),.int i]=some (.int (xT ns i)):=by
 unfold jm xT;by_cases h:i<(ns.length:Int)
 ·rw[if_pos h];simp only[EV,aD,lMp,dTr h,vZ B h,DY (show(0:Int)<1000000007 by decide)]
 ·rw[if_neg h];by_cases hn:ns=[]
  ·rw[if_pos hn];simp only[EV,aD,lMp,dFa h,eq_empty,dTr hn,cH,mulL (show(-18446744073709551616:Int)<7919 by decide) (show(7919:Int)<18446744073709551616 by decide)]
  ·rw[if_neg hn];have X:0<ns.length:=by
    cases ns with
    |nil=>exact absurd rfl hn
    |cons _ _=>simp
   have Y:0<=i*7%(ns.length:Int):=rN _ (by omega);have Z:i*7%(ns.length:Int)<(ns.length:Int):=oK _ (by omega);simp only[EV,aD,lMp,dFa h,eq_empty,dFa hn,cH,mulL (show(-18446744073709551616:Int)<7919 by decide) (show(7919:Int)<18446744073709551616 by decide),mulR (show(-18446744073709551616:Int)<7 by decide) (show(7:Int)<18446744073709551616 by decide),DY (show(0:Int)<1000000007 by decide),DY (show(0:Int)<ns.length by omega),vZ Y Z]
theorem Cg{l:D}{i k m:D}(n:Int):∀(B:List D)(c:Nat)(y:Option U),(∀j∈B,∃x,j = .int x)->∃J,g_ (gNl 5) (bO 4 (dOp Fy (aj 4) (dC (.int 1000003)))) B [some (.d l),some (.d i),some (.d k),some (.d m),some (.d (.int (divs n c))),y] =
 some (.nx [some (.d l),some (.d i),some (.d k),some (.d m),some (.d (.int (divs n (c+B.length)))),J])
 |[],c,y,_=>⟨y,rfl⟩
 |j::B,c,y,h=>by
  obtain⟨J,e⟩:=Cg (l:=l) (i:=i) (k:=k) (m:=m) n B (c+1) (some (.d j)) λj' Z=>h j' (au _ Z)
  refine⟨J,?_⟩;rw[g_];simp only[EV,aD,bC,ah5 (show(0:Int)<1000003 by decide) (show(1000003:Int)<18446744073709551616 by decide),aC];rw[show c+(B.length+1)=c+1+B.length by omega,<-e];rfl
theorem Np(lo hi:Int):∀j∈gD lo hi,∃x,j = .int x:=by
 intro j Z;obtain⟨k,_,rfl⟩:=bK.mp Z;exact⟨_,rfl⟩
theorem oG{i k m:Int}(B:0<=i)(D:0<=k)(J:k<=1000)(hm:0<m):bY [.list (ns.map .int),.int i,.int k,.int m]=some (.int (jP ns i k m)):=by
 have rest:∀x y:Option U,qFn ((bU (bO 4 (dOp uN (dOp uc (dOp eY (dOp eY (dCall jm (ao (aj 0) (ao (aj 1) (aN)))) (dOp uc (dC (.int 65537)) (aj 1))) (dC (.int 3))) (dOp eY (dC (.int 1299709)) (dOp uc (dC (.int 15485863)) (aj 2)))) (dC (.int 2147483629))))
  (bU (bO 4 (dOp eY (dOp uN (dOp uc (aj 4) (aj 4)) (dC (.int 1500450271))) (dC (.int 104729))))
  (dh (dOp uN (dOp Fy (dOp uN (dOp uc (aj 4) (aj 4)) (dC (.int 715827883))) (dC (.int 64))) (aj 3))))) [some (.d (.list (ns.map .int))),some (.d (.int i)),some (.d (.int k)),some (.d (.int m)),x,y])=some (.int (KZ (xT ns i) i k m)):=by
  intro x y;simp only[EV,aD,bC,Nm B,mulL (show(-18446744073709551616:Int)<65537 by decide) (show(65537:Int)<18446744073709551616 by decide),mulL (show(-18446744073709551616:Int)<15485863 by decide) (show(15485863:Int)<18446744073709551616 by decide),
   mulR (i:=xT ns i+65537*i+3) (show(-18446744073709551616:Int)<1299709+15485863*k by omega) (show 1299709+15485863*k<(18446744073709551616:Int)by omega),DY (show(0:Int)<2147483629 by decide)]
  simp only[mulL (show(-18446744073709551616:Int)<(xT ns i+65537*i+3)*(1299709+15485863*k)%2147483629 by omega) (show(xT ns i+65537*i+3)*(1299709+15485863*k)%2147483629<(18446744073709551616:Int)by omega)];simp only[EV,aD,bC,DY (show(0:Int)<1500450271 by decide)];rw[mulL (by omega) (by omega)];simp only[EV,DY (show(0:Int)<715827883 by decide),ah5 (show(0:Int)<64 by decide) (show(64:Int)<18446744073709551616 by decide),DY hm];rfl
 unfold bY;rw[ae7];simp only[EV,aD,];by_cases h:i<(ns.length:Int)
 ·by_cases h2:10^40<=ns.getD i.toNat 0
  ·simp only[EV,aD,bC,lMp,dTr h,vZ B h,W6,dTr h2];obtain⟨Y,e⟩:=Cg (l:=.list (ns.map .int)) (i:=.int i) (k:=.int k) (m:=.int m) (ns.getD i.toNat 0) (gD 0 k) 0 none (Np 0 k);have X:0+(gD 0 k).length=k.toNat:=by simp[gD]
   rw[X]at e;have W:g_ (gNl 5) (bO 4 (dOp Fy (aj 4) (dC (.int 1000003)))) (gD 0 k) [some (.d (.list (ns.map .int))),some (.d (.int i)),some (.d (.int k)),some (.d (.int m)),some (.d (.int (ns.getD i.toNat 0))),none] =
    some (.nx [some (.d (.list (ns.map .int))),some (.d (.int i)),some (.d (.int k)),some (.d (.int m)),some (.d (.int (divs (ns.getD i.toNat 0) k.toNat))),Y]):=e
   rw[G6 (by omega) (by omega)];simp only[EV,W];by_cases Z:0<divs (ns.getD i.toNat 0) k.toNat
   ·simp only[EV,dTr Z,DY (show(0:Int)<1000003 by decide),DY hm];rw[Nk h h2 Z]
   ·simp only[EV,dFa Z];rw[uT (λz=>Z z.2.2)];have:=rest (some (.d (.int (divs (ns.getD i.toNat 0) k.toNat)))) Y;simp only[EV,]at this;exact this
  ·simp only[EV,lMp,dTr h,vZ B h,W6,dFa h2];rw[uT (λz=>h2 z.2.1)];have:=rest none none;simp only[EV,]at this;exact this
 ·simp only[EV,lMp,dFa h];rw[uT (λz=>h z.1)];have:=rest none none;simp only[EV,]at this;exact this
end Com
namespace Com
open D3 My
theorem Zy{α:Type}{g:FG}{c:FT}{e:FE}(f:α->D)(p:α->Bool)(h:α->D):∀l:List α,(∀s∈l,∃B,g (f s) δ=some B/\c B=some (p s)/\(p s=true->e B=some (h s)))->jK g c e δ (l.map f)=some ((l.filter p).map h)
 |[],_=>rfl
 |s::r,hs=>by
  obtain⟨B,W,e2,X⟩:=hs s ak;have Z:=Zy f p h r λx Y=>hs x (au _ Y)
  rw[aF,jK,W,aC,e2,aC];by_cases c:p s=true
  ·rw[if_pos c,X c,aC,Z,jX,if_pos c];rfl
  ·rw[if_neg c,Z,jX,if_neg c]
theorem wV{α:Type}{g:FG}{c:FT}{e:FE}(f:α->D)(h:α->D):∀l:List α,(∀s∈l,∃B,g (f s) δ=some B/\c B=some true/\e B=some (h s))->jK g c e δ (l.map f)=some (l.map h)
 |[],_=>rfl
 |s::r,hs=>by
  obtain⟨B,X,e2,Y⟩:=hs s ak;rw[aF,jK,X,aC,e2,aC,if_pos rfl,Y,aC,wV f h r λx Z=>hs x (au _ Z)];rfl
theorem qm{α:Type}(f:α->D)(h:∀a,flat (f a)=true):∀l:List α,flats (l.map f)=true
 |[]=>rfl
 |a::r=>by rw[aF,flats,h,qm f h r];rfl
theorem lB(l:List Int):flats (l.map eT)=true:=qm _ (λ_=>rfl) l
theorem K3{m:Int}:(gD 0 m).length=m.toNat:=by unfold gD;rw[aq,bV,qx]
theorem RV{v k:Int}(h:k<=1000000)(h' : -(2^63)<=k):yV (.list [.int v]) (.int k)=some (.list ((aO k.toNat v).map eT)):=by
 show(if [eT v].length*k.toNat<=1000000/\-(2^63)<=k/\k<2^63 then some (hU (aO k.toNat [eT v]).flatten)else none)=_;rw[if_pos ⟨by simp only[aR,iz];omega,h',by omega⟩];congr 2;generalize k.toNat=n
 induction n with
 |zero=>rfl
 |succ n Z=>rw[cL,fJ,Z,cL,aF];rfl
theorem ah6{k:Int}(h:0<=k):cuD l (some k) none=l.drop k.toNat:=by
 unfold cuD;have e:pSx l.length 0 (some k)=min k.toNat l.length:=by
  show(if k<0 then _ else _)=_;rw[if_neg (by omega)]
 rw[e,show pSx l.length l.length none=l.length from rfl];by_cases c:k.toNat<=l.length
 ·rw[show min k.toNat l.length=k.toNat by omega,eN (by rw[fZ];omega)]
 ·rw[show min k.toNat l.length=l.length by omega,qz (by omega),qz (by omega)];simp
theorem ah7{k:Int}(h:0<=k):cuD l none (some k)=l.take k.toNat:=by
 unfold cuD;have e:pSx l.length l.length (some k)=min k.toNat l.length:=by
  show(if k<0 then _ else _)=_;rw[if_neg (by omega)]
 rw[e,show pSx l.length 0 none=0 from rfl,dY,nY,List.take_eq_take_iff];omega
theorem isList:D3.isT "list" "list"=true:=rfl
mutual
theorem eqv_refl:∀d:D,d.canLay0=true->gi d d=true
 | .none,_=>by simp[gi]
 | .bool b,_=>by simp[gi]
 | .int i,_=>by simp[gi]
 | .str x,_=>by simp[gi]
 | .list l,h=>by
  have:=eqvAll_refl l (by simpa[ff]using h);simpa[gi]using this
 | .tuple l,h=>by
  have:=eqvAll_refl l (by simpa[ff]using h);simpa[gi]using this
 | .dict l,h=>by simp[ff]at h
theorem eqvAll_refl:∀l:List D,f_ l=true->ii l l=true
 |[],_=>by simp[ii]
 |d::r,h=>by
  rw[f_,aV]at h;rw[ii,eqv_refl d h.1,eqvAll_refl r h.2];rfl
end
def ly(n:Nat)(d:D):Prop:=d.canLay0=true/\d.depth<=n
def lys(n:Nat)(l:List D):Prop:=f_ l=true/\hF l<=n
theorem sZ{m:Nat}(h:ly n d)(l:n<=m):ly m d:=⟨h.1,aW h.2 l⟩
theorem D_:lys n []:=⟨by simp[f_],by simp[hF]⟩
theorem qt(h:ly n d)(q:lys n l):lys n (d::l):=
 ⟨by rw[f_,h.1,q.1];rfl,by have:=h.2;have:=q.2;simp only[hF];omega⟩
theorem rF{α:Type}(f:α->D)(h:∀a,ly n (f a)):∀l:List α,lys n (l.map f)
 |[]=>D_
 |a::r=>qt (h a) (rF f h r)
theorem v5(h:lys n l):ly (n+1) (.list l):=⟨by simp[ff,h.1],by have:=h.2;simp only[hH];omega⟩
theorem Jp(h:lys n l):ly (n+1) (.tuple l):=⟨by simp[ff,h.1],by have:=h.2;simp only[hH];omega⟩
theorem wW{i:Int}:ly (n+1) (.int i):=⟨rfl,by simp[hH]⟩
theorem wX(h:ly 60 d):fN d=true:=by
 unfold fN;rw[aV];exact⟨h.1,dTr (by have:=h.2;omega)⟩
theorem eq_self(h:ly 60 d):gEq d d=some (.bool true):=by
 unfold gEq;rw[wX h,eqv_refl d h.1];rfl
end Com
namespace Com
open D3 My
noncomputable def q(t b:Int):Rat:=mkRat t b.toNat
end Com
namespace Com
open D3 My
def sm(k:Nat)(x:Int):Prop:=x.natAbs<2^k
end Com
namespace Com
open D3 My
theorem K4{k:Nat}(h:k<n):pIx n (k:Int)=some k:=by
 unfold pIx;rw[if_pos (by omega),if_pos (by omega)];rfl
structure Tb where
 N:Nat
 w:Nat->Int
 B:Int
def sumTo(f:Nat->Int):Nat->Int
 |0=>0
 |n+1=>sumTo f n+f n
structure TbOk(t:Tb)(k:Nat):Prop where
 B0:0<t.B
 Bs:sm (7*k+1) t.B
 w0:∀j,0<=t.w j
 wB:∀j,t.w j<=t.B
 wz:∀j,t.N<=j->t.w j=0
 N1:1<=t.N
 N4:t.N<=1+4*k
 sum:sumTo t.w t.N=t.B
end Com
namespace Com
open D3 My
end Com
namespace Com
open D3 My
theorem sm1(k:Nat){x:Int}(h:x.natAbs<=1):sm (k+1) x:=by
 unfold sm;rw[Nat.pow_succ];have:=Nat.one_le_two_pow (n:=k);omega
structure bd(k:Nat)(a:Rat):Prop where
 n:sm k a.num
 d:sm k (a.den:Int)
end Com
namespace Com
open D3 My
theorem zW{g:FG}{b:FS}(Inv:Nat->DS->Prop){v:D}(n:Nat):∀(l:List D)(δ:DS),Inv 0 δ->n<l.length->(∀i d δ,i<n->l[i]? = some d->Inv i δ->∃B δ',g d δ=some B/\b B=some (.nx δ')/\Inv (i+1) δ') ->
 (∀d δ,l[n]? = some d->Inv n δ->∃B,g d δ=some B/\b B=some (.rt v))->g_ g b l δ=some (.rt v):=by
 have V:∀(n:Nat)(l:List D)(k:Nat)(δ:DS),Inv k δ->n<l.length->(∀i d δ,i<n->l[i]? = some d->Inv (k+i) δ->∃B δ',g d δ=some B/\b B=some (.nx δ')/\Inv (k+i+1) δ') ->
  (∀d δ,l[n]? = some d->Inv (k+n) δ->∃B,g d δ=some B/\b B=some (.rt v))->g_ g b l δ=some (.rt v):=by
  intro n
  induction n with
  |zero=>
   intro l k δ W hn _ X
   cases l with
   |nil=>simp at hn
   |cons d r=>
    obtain⟨B,U,e2⟩:=X d δ rfl W;rw[g_,U,aC,e2];rfl
  |succ n S=>
   intro l k δ W hn hs X
   cases l with
   |nil=>simp at hn
   |cons d r=>
    obtain⟨B,δ',U,e2,R⟩:=hs 0 d δ (by omega) rfl W;rw[g_,U,aC,e2];refine S r (k+1) δ' R (by simpa using hn) (λi T Z hi hd Y=>?_) (λT Z hd Y=>X T Z (by simpa using hd) (by rwa[show k+(n+1)=k+1+n by omega]));have:=hs (i+1) T Z (by omega) (by simpa using hd) (by rwa[show k+(i+1)=k+1+i by omega]);rwa[show k+(i+1)+1=k+1+i+1 by omega]at this
 intro l δ W hn hs X;refine V n l 0 δ W hn (λi d δ hi hd Y=>?_) (λd δ hd Y=>X d δ hd (by rw[eX]at Y;exact Y));have:=hs i d δ hi hd (by rw[eX]at Y;exact Y);rwa[eX]
theorem mq{hi:Int}(h:(gD 0 hi)[i]? = some d):(i:Int)<hi/\d = .int (i:Int):=by
 unfold gD at h;rw[aU]at h;by_cases Z:i<(hi-0).toNat
 ·rw[dJ Z]at h
  cases h;refine⟨by omega,?_⟩;show eT (0+(i:Int))=_;rw[jW]
 ·rw[aZ (by simpa using Z)]at h
  cases h
end Com
namespace XS
open PySem.W
structure Weak(lt:Nat->Nat->Bool):Prop where
 irr:∀a,lt a a=false
 tr:∀a b c,lt a b=true->lt b c=true->lt a c=true
 nt:∀a b c,lt a c=true->lt a b=true\/lt b c=true
def Rk(lt:Nat->Nat->Bool)(a b:Nat):Prop:=lt a b=true\/(lt b a=false/\a<b)
section
variable{lt:Nat->Nat->Bool}{p:Array Nat}{n:Nat}
theorem Weak.not(W:Weak lt){a b c:Nat}(h1:lt a b=false)(h2:lt b c=false):lt a c=false:=by
 cases q:lt a c with
 |false=>rfl
 |true=>
  rcases W.nt a b c q with z|z
  ·rw[z]at h1;cases h1
  ·rw[z]at h2;cases h2
theorem Rk.trans(W:Weak lt){a b c:Nat}(h1:Rk lt a b)(h2:Rk lt b c):Rk lt a c:=by
 rcases h1 with h1|⟨h1,l1⟩
 ·rcases h2 with h2|⟨h2,l2⟩
  ·exact .inl (W.tr _ _ _ h1 h2)
  ·rcases W.nt a c b h1 with z|z
   ·exact .inl z
   ·rw[z]at h2;cases h2
 ·rcases h2 with h2|⟨h2,l2⟩
  ·rcases W.nt b a c h2 with z|z
   ·rw[z]at h1;cases h1
   ·exact .inl z
  ·exact .inr ⟨W.not h2 h1,by omega⟩
abbrev ga(p:Array Nat)(i:Nat):Nat:=p.getD i 0
def Asc(lt:Nat->Nat->Bool)(p:Array Nat)(m:Nat):Prop:=∀i j,i<j->j<m->Rk lt (ga p i) (ga p j)
structure Run(lt:Nat->Nat->Bool)(n:Nat)(p:Array Nat)(m:Nat):Prop where
 asc:Asc lt p m
 rest:∀k,m<=k->k<n->ga p k=k
 low:∀k,k<m->ga p k<m
theorem Run.snoc(W:Weak lt){a:Nat}(R:Run lt n p a)(h1:1<=a)(ha:a<n)(h:lt (ga p a) (ga p (a-1))=false):Run lt n p (a+1):=by
 have U:=R.rest a (aB _) ha;have X:=R.low (a-1) (by omega);have st:Rk lt (ga p (a-1)) (ga p a):=.inr ⟨h,by omega⟩;refine⟨λi j Z V=>?_,λk Y hn=>R.rest k (by omega) hn,λk Y=>?_⟩
 ·by_cases z:j<a
  ·exact R.asc i j Z z
  ·have:j=a:=by omega
   subst this;by_cases y:i=j-1
   ·rwa[y]
   ·exact(R.asc i (j-1) (by omega) (by omega)).trans W st
 ·by_cases z:k<a
  ·have:=R.low k z;omega
  ·have:k=a:=by omega
   subst this;omega
theorem Jq(W:Weak lt):∀(f a:Nat),Run lt n p a->1<=a->a+f<=n->Run lt n p (dO lt (ci p f a))/\a<=dO lt (ci p f a)/\dO lt (ci p f a)<=a+f/\(dO lt (ci p f a)<a+f->lt (ga p (dO lt (ci p f a))) (ga p (dO lt (ci p f a)-1))=true)
 |0,a,R,h1,Y=>⟨R,aB _,aB _,λz=>by
  have z:a<a+0:=z;omega⟩
 |f+1,a,R,h1,Y=>by
  have e:dO lt (ci p (f+1) a)=dO lt (if lt (ga p a) (ga p (a-1))=true then .ret a else ci p f (a+1)):=rfl;rw[e];by_cases c:lt (ga p a) (ga p (a-1))=true
  ·rw[if_pos c];exact⟨R,aB _,by show a<=a+(f+1);omega,λ_=>c⟩
  ·rw[if_neg c];obtain⟨q1,q2,X,Z⟩:=Jq W f (a+1) (R.snoc W h1 (by omega) (by simpa using c)) (by omega) (by omega);exact⟨q1,by omega,by omega,λz=>Z (by omega)⟩
theorem zX(W:Weak lt){k:Nat}(R:Run lt n p k):∀(f l r:Nat),l<=r->r<=k->r-l<=f->(∀i,i<l->lt (ga p k) (ga p i)=false)->(∀i,r<=i->i<k->lt (ga p k) (ga p i)=true) ->
 dO lt (bg p k f l r)<=k/\(∀i,i<dO lt (bg p k f l r)->lt (ga p k) (ga p i)=false)/\(∀i,dO lt (bg p k f l r)<=i->i<k->lt (ga p k) (ga p i)=true)
 |0,l,r,h1,h2,T,Y,Z=>by
  have:l=r:=by omega
  subst this;exact⟨h2,Y,Z⟩
 |f+1,l,r,h1,h2,T,Y,Z=>by
  by_cases z:l≥r
  ·have:l=r:=by omega
   subst this;have e:bg p k (f+1) l l = .ret l:=by unfold bg;rw[if_pos z]
   rw[e];exact⟨h2,Y,Z⟩
  ·have e:dO lt (bg p k (f+1) l r)=dO lt (if lt (ga p k) (ga p ((l+r)/2))=true then bg p k f l ((l+r)/2)else bg p k f ((l+r)/2+1) r):=by
    conv=>lhs;unfold bg
    rw[if_neg z];rfl
   rw[e];have V:l<=(l+r)/2:=by omega
   by_cases c:lt (ga p k) (ga p ((l+r)/2))=true
   ·rw[if_pos c];refine zX W R f l ((l+r)/2) V (by omega) (by omega) Y λi hi U=>?_
    by_cases y:i=(l+r)/2
    ·rwa[y]
    ·rcases R.asc ((l+r)/2) i (by omega) U with q|⟨q,_⟩
     ·exact W.tr _ _ _ c q
     ·rcases W.nt _ (ga p i) _ c with w|w
      ·exact w
      ·rw[w]at q;cases q
   ·rw[if_neg c];have c:lt (ga p k) (ga p ((l+r)/2))=false:=by simpa using c
    refine zX W R f ((l+r)/2+1) r (by omega) h2 (by omega) (λi hi=>?_) Z;by_cases y:i=(l+r)/2
    ·rwa[y]
    ·cases q:lt (ga p k) (ga p i)with
     |false=>rfl
     |true=>
      rcases R.asc i ((l+r)/2) (by omega) (by omega)with w|⟨w,_⟩
      ·rw[W.tr _ _ _ q w]at c;cases c
      ·rcases W.nt _ (ga p ((l+r)/2)) _ q with X|X
       ·rw[X]at c;cases c
       ·rw[X]at w;cases w
theorem Zz{k l:Nat}(B:k<p.size)(D:l<=k)(i:Nat):ga (bubble p k (k-l)) i=if i=l then ga p k else if l<i/\i<=k then ga p (i-1)else ga p i:=by
 have e:=eB B (k-l) (by omega) i;rw[show k-(k-l)=l by omega]at e;have g:∀(q:Array Nat)(i:Nat),ga q i=(q[i]?).getD 0:=λq i=>by simp[ga,gY]
 rw[g,e,g p k,g p (i-1),g p i];by_cases Y:i=l
 ·rw[if_pos Y,if_pos Y]
 ·rw[if_neg Y,if_neg Y];by_cases Z:l<i/\i<=k
  ·rw[if_pos Z,if_pos Z]
  ·rw[if_neg Z,if_neg Z]
theorem RW(W:Weak lt)(hs:p.size=n){k l:Nat}(R:Run lt n p k)(J:k<n)(D:l<=k)(h1:∀i,i<l->lt (ga p k) (ga p i)=false)(h2:∀i,l<=i->i<k->lt (ga p k) (ga p i)=true):Run lt n (bubble p k (k-l)) (k+1):=by
 have T:=R.rest k (aB _) J;have B:=Zz (p:=p) (k:=k) (by omega) D;refine⟨λi j Z S=>?_,λm hm hn=>?_,λm hm=>?_⟩
 ·rw[B,B];by_cases U:i=l
  ·rw[if_pos U,if_neg (by omega),if_pos (by omega)];exact .inl (h2 (j-1) (by omega) (by omega))
  ·rw[if_neg U];by_cases V:j=l
   ·rw[if_pos V,if_neg (by omega)];exact .inr ⟨h1 i (by omega),by rw[T];exact R.low i (by omega)⟩
   ·rw[if_neg V];by_cases X:l<i/\i<=k
    ·rw[if_pos X,if_pos (by omega)];exact R.asc _ _ (by omega) (by omega)
    ·rw[if_neg X];by_cases Y:l<j/\j<=k
     ·rw[if_pos Y];exact R.asc _ _ (by omega) (by omega)
     ·rw[if_neg Y];exact R.asc _ _ Z (by omega)
 ·rw[B,if_neg (by omega),if_neg (by omega)];exact R.rest m (by omega) hn
 ·rw[B];split
  ·omega
  ·split
   ·have:=R.low (m-1) (by omega);omega
   ·have:=R.low m (by omega);omega
theorem RX(W:Weak lt):∀(f:Nat)(p:Array Nat)(k:Nat),p.size=n->Run lt n p k->k+f=n->Run lt n (dO lt (kas_bin f p k)) n
 |0,p,k,hs,R,h=>by
  have:k=n:=by omega
  subst this;exact R
 |f+1,p,k,hs,R,h=>by
  have e:dO lt (kas_bin (f+1) p k)=dO lt (kas_bin f (bubble p k (k-dO lt (bg p k k 0 k))) (k+1)):=oE _ _;rw[e];obtain⟨q1,q2,Z⟩:=zX W R k 0 k (cH _) (aB _) (by omega) (λi hi=>by omega) (λi h1 h2=>by omega);exact RX W f _ (k+1) (by rwa[bubble_size]) (RW W hs R (by omega) q1 q2 Z) (by omega)
end
end XS
namespace XS
open PySem.W
section
variable{lt:Nat->Nat->Bool}{p p':Array Nat}{n a q:Nat}
theorem Rk.nr(W:Weak lt){a b:Nat}(h:Rk lt a b):lt b a=false:=by
 rcases h with h|⟨h,_⟩
 ·cases z:lt b a with
  |false=>rfl
  |true=>have:=W.tr _ _ _ h z;rw[W.irr]at this;cases this
 ·exact h
theorem Jr(B:j<=p.size)(k:Nat):ga (bn p i j) k=if i<=k/\k<j then ga p (i+j-1-k)else ga p k:=by
 have e:=db (i:=i) B k;have g:∀(q:Array Nat)(i:Nat),ga q i=(q[i]?).getD 0:=λq i=>by simp[ga,gY]
 rw[g,g p (i+j-1-k),g p k];unfold bn;rw[e];by_cases c:i<=k/\k<j
 ·rw[if_pos c,if_pos c]
 ·rw[if_neg c,if_neg c]
theorem zY(i j:Nat):(bn p i j).size=p.size:=mirror_size _ _ _ _
structure Dn(lt:Nat->Nat->Bool)(n:Nat)(p:Array Nat)(a q:Nat):Prop where
 le:q+1<=a
 desc:∀i j,i<j->j<a-(q+1)->Rk lt (ga p j) (ga p i)
 strict:∀i j,i<a-(q+1)->a-(q+1)<=j->j<a->lt (ga p j) (ga p i)=true
 run:∀i j,a-(q+1)<=i->i<j->j<a->lt (ga p i) (ga p j)=false/\lt (ga p j) (ga p i)=false/\ga p i<ga p j
 rest:∀k,a<=k->k<n->ga p k=k
 low:∀k,k<a->ga p k<a
structure Desc(lt:Nat->Nat->Bool)(n:Nat)(p:Array Nat)(a:Nat):Prop where
 desc:∀i j,i<j->j<a->Rk lt (ga p j) (ga p i)
 rest:∀k,a<=k->k<n->ga p k=k
 low:∀k,k<a->ga p k<a
theorem Dn.turn(D:Dn lt n p a q)(h:∀k,ga p' k=if a-(q+1)<=k/\k<a then ga p (a-(q+1)+a-1-k)else ga p k):Desc lt n p' a:=by
 refine⟨λi j Y X=>?_,λk Z hn=>?_,λk Z=>?_⟩
 ·by_cases c:j<a-(q+1)
  ·rw[h,h,if_neg (by omega),if_neg (by omega)];exact D.desc i j Y c
  ·rw[h j,if_pos (by omega),h i];by_cases e:i<a-(q+1)
   ·rw[if_neg (by omega)];exact .inl (D.strict _ _ e (by omega) (by omega))
   ·rw[if_pos (by omega)];obtain⟨x,y,z⟩:=D.run (a-(q+1)+a-1-j) (a-(q+1)+a-1-i) (by omega) (by omega) (by omega);exact .inr ⟨y,z⟩
 ·rw[h,if_neg (by omega)];exact D.rest k Z hn
 ·rw[h];split
  ·exact D.low _ (by omega)
  ·exact D.low _ Z
theorem Desc.up(D:Desc lt n p a)(ha:a<n)(h:∀i,i<a->lt (ga p a) (ga p i)=true):Dn lt n p (a+1) 0:=by
 refine⟨by omega,λi j Z X=>D.desc i j Z (by omega),λi j hi h1 h2=>?_,λi j h1 h2 W=>by omega,λk Y hn=>D.rest k (by omega) hn,λk Y=>?_⟩
 ·have:j=a:=by omega
  subst this;exact h i (by omega)
 ·by_cases z:k<a
  ·have:=D.low k z;omega
  ·have:k=a:=by omega
   subst this;rw[D.rest k (aB _) ha];omega
def turned(p:Array Nat)(a q:Nat):Array Nat:=if q>0 then bn p (a-(q+1)) a else p
theorem tY(hs:p.size=n)(ha:a<=n)(l:q+1<=a)(k:Nat):ga (turned p a q) k=if a-(q+1)<=k/\k<a then ga p (a-(q+1)+a-1-k)else ga p k:=by
 unfold turned;by_cases c:q>0
 ·rw[if_pos c];exact Jr (by omega) k
 ·rw[if_neg c];by_cases e:a-(q+1)<=k/\k<a
  ·rw[if_pos e,show a-(q+1)+a-1-k=k by omega]
  ·rw[if_neg e]
theorem xU:(turned p a q).size=p.size:=by
 unfold turned;split
 ·exact zY _ _
 ·rfl
theorem Dn.below(W:Weak lt)(D:Dn lt n p a q)(hs:p.size=n)(ha:a<n)(h:lt (ga p a) (ga p (a-1))=true)(i:Nat)(hi:i<a):lt (ga (turned p a q) a) (ga (turned p a q) i)=true:=by
 have l:=D.le;have all:∀i,i<a->lt (ga p a) (ga p i)=true:=λi hi=>by
  by_cases c:i<a-(q+1)
  ·exact W.tr _ _ _ h (D.strict i (a-1) c (by omega) (by omega))
  ·by_cases e:i=a-1
   ·rwa[e]
   ·rcases W.nt _ (ga p i) _ h with w|w
    ·exact w
    ·rw[(D.run i (a-1) (by omega) (by omega) (by omega)).1]at w;cases w
 rw[tY hs (by omega) l,if_neg (by omega),tY hs (by omega) l];split
 ·exact all _ (by omega)
 ·exact all _ hi
theorem Dn.same(W:Weak lt)(D:Dn lt n p a q)(ha:a<n)(h1:lt (ga p a) (ga p (a-1))=false)(h2:lt (ga p (a-1)) (ga p a)=false):Dn lt n p (a+1) (q+1):=by
 have l:=D.le;have U:=D.rest a (aB _) ha;refine⟨by omega,λi j Z V=>D.desc i j Z (by omega),λi j hi q1 q2=>?_,λi j q1 q2 X=>?_,λk Y hn=>D.rest k (by omega) hn,λk Y=>?_⟩
 ·by_cases z:j<a
  ·exact D.strict i j (by omega) (by omega) z
  ·have:j=a:=by omega
   subst this;rcases W.nt _ (ga p j) _ (D.strict i (j-1) (by omega) (by omega) (by omega))with w|w
   ·rw[w]at h2;cases h2
   ·exact w
 ·by_cases z:j<a
  ·exact D.run i j (by omega) q2 z
  ·have:j=a:=by omega
   subst this;have lo:=D.low i (by omega);by_cases e:i=j-1
   ·subst e;exact⟨h2,h1,by omega⟩
   ·obtain⟨x,y,_⟩:=D.run i (j-1) (by omega) (by omega) (by omega);exact⟨W.not x h2,W.not h1 y,by omega⟩
 ·by_cases z:k<a
  ·have:=D.low k z;omega
  ·have:k=a:=by omega
   subst this;omega
theorem Ea(W:Weak lt):∀(f:Nat)(p:Array Nat)(a q:Nat),p.size=n->Dn lt n p a q->a+f<=n ->
 (dO lt (a7 f p a q)).1.size=n/\Dn lt n (dO lt (a7 f p a q)).1 (dO lt (a7 f p a q)).2.1 (dO lt (a7 f p a q)).2.2/\(dO lt (a7 f p a q)).2.1<=n
 |0,p,a,q,hs,D,h=>⟨hs,D,h⟩
 |f+1,p,a,q,hs,D,h=>by
  have e:dO lt (a7 (f+1) p a q)=dO lt (if lt (ga p a) (ga p (a-1))=true then(if q>0 then a7 f (bn p (a-(q+1)) a) (a+1) 0 else a7 f p (a+1) 0)else .ask (ga p (a-1)) (ga p a) λd=>if d=true then .ret (p,a,q)else a7 f p (a+1) (q+1)):=rfl;rw[e];by_cases c:lt (ga p a) (ga p (a-1))=true
  ·rw[if_pos c];have e2:(if q>0 then a7 f (bn p (a-(q+1)) a) (a+1) 0 else a7 f p (a+1) 0)=a7 f (turned p a q) (a+1) 0:=by
    unfold turned;split<;>rfl
   rw[e2];exact Ea W f (turned p a q) (a+1) 0 (by rwa[xU]) ((D.turn (tY hs (by omega) D.le)).up (by omega) (D.below W hs (by omega) c)) (by omega)
  ·rw[if_neg c];have Z:dO lt (.ask (ga p (a-1)) (ga p a) λd=>if d=true then .ret (p,a,q)else a7 f p (a+1) (q+1))=dO lt (if lt (ga p (a-1)) (ga p a)=true then .ret (p,a,q)else a7 f p (a+1) (q+1)):=rfl;rw[Z];by_cases d:lt (ga p (a-1)) (ga p a)=true
   ·rw[if_pos d];exact⟨hs,D,by show a<=n;omega⟩
   ·rw[if_neg d];exact Ea W f p (a+1) (q+1) hs (D.same W (by omega) (by simpa using c) (by simpa using d)) (by omega)
theorem V5(W:Weak lt)(hs:p.size=n)(D:Desc lt n p a)(h1:1<=a)(ha:a<=n):
 (dO lt (ca a n p)).2.size=n/\Run lt n (dO lt (ca a n p)).2 (dO lt (ca a n p)).1/\1<=(dO lt (ca a n p)).1/\(dO lt (ca a n p)).1<=n:=by
 have e:dO lt (ca a n p)=(dO lt (ci (bn p 0 a) (n-a) a),bn p 0 a):=oE _ _;rw[e];have B:=Jr (p:=p) (i:=0) (j:=a) (by omega);have R:Run lt n (bn p 0 a) a:=by
  refine⟨λi j Y V=>?_,λk Z hn=>?_,λk Z=>?_⟩
  ·rw[B,B,if_pos (by omega),if_pos (by omega)];exact D.desc _ _ (by omega) (by omega)
  ·rw[B,if_neg (by omega)];exact D.rest k Z hn
  ·rw[B,if_pos (by omega)];exact D.low _ (by omega)
 obtain⟨q1,q2,X,_⟩:=Jq W (n-a) a R h1 (by omega);exact⟨by rwa[zY],q1,by show 1<=dO lt _;omega,by show dO lt _<=n;omega⟩
theorem K5(W:Weak lt)(hs:p.size=n)(D:Dn lt n p (a+1) 0)(ha:a<n):
 (dO lt (aE a n p)).2.size=n/\Run lt n (dO lt (aE a n p)).2 (dO lt (aE a n p)).1/\1<=(dO lt (aE a n p)).1/\(dO lt (aE a n p)).1<=n:=by
 obtain⟨q1,q2,Z⟩:=Ea W (n-(a+1)) p (a+1) 0 hs D (by omega);have e:dO lt (aE a n p)=dO lt (ca (dO lt (a7 (n-(a+1)) p (a+1) 0)).2.1 n (turned (dO lt (a7 (n-(a+1)) p (a+1) 0)).1 (dO lt (a7 (n-(a+1)) p (a+1) 0)).2.1 (dO lt (a7 (n-(a+1)) p (a+1) 0)).2.2)):=by
  refine(oE _ _).trans ?_;unfold turned;split<;>rfl
 rw[e];have l:=q2.le;exact V5 W (by rwa[xU]) (q2.turn (tY q1 Z l)) (by omega) Z
theorem RZ(W:Weak lt)(hs:p.size=n)(hn:1<=n)(R:Run lt n p 1):
 (dO lt (cb n p)).2.size=n/\Run lt n (dO lt (cb n p)).2 (dO lt (cb n p)).1/\1<=(dO lt (cb n p)).1/\(dO lt (cb n p)).1<=n:=by
 obtain⟨q1,q2,X,Z⟩:=Jq W (n-1) 1 R (aB _) (by omega);have e:dO lt (cb n p)=_:=oE _ _;rw[e];generalize dO lt (ci p (n-1) 1)=m at q1 q2 X Z ⊢;by_cases c:(m==n)=true
 ·rw[if_pos c];exact⟨hs,q1,q2,by show m<=n;omega⟩
 ·rw[if_neg c];have c:m<n:=by
   have:¬m=n:=by simpa using c
   omega
  have U:=Z (by omega);have st:∀p',(∀k,ga p' k=if 0<=k/\k<m then ga p (0+m-1-k)else ga p k)->lt (ga p 0) (ga p (m-1))=false->Dn lt n p' (m+1) 0:=λp' B z=>by
   have D:Desc lt n p' m:=by
    refine⟨λi j V T=>?_,λk Y hn=>?_,λk Y=>?_⟩
    ·rw[B,B,if_pos (by omega),if_pos (by omega)];exact q1.asc _ _ (by omega) (by omega)
    ·rw[B,if_neg (by omega)];exact q1.rest k Y hn
    ·rw[B,if_pos (by omega)];exact q1.low _ (by omega)
   have all:∀i,i<m->lt (ga p m) (ga p i)=true:=λi hi=>by
    rcases W.nt _ (ga p i) _ U with w|w
    ·exact w
    ·by_cases y:i=0
     ·subst y;rw[z]at w;cases w
     ·rcases W.nt _ (ga p 0) _ w with v|v
      ·rw[(q1.asc 0 i (by omega) hi).nr W]at v;cases v
      ·rw[z]at v;cases v
   refine D.up c λi hi=>?_
   rw[B,if_neg (by omega),B,if_pos (by omega)];exact all _ (by omega)
  by_cases g:m>1
  ·rw[if_pos g];show _/\Run lt n (dO lt (if lt (ga p 0) (ga p (m-1))=true then .ret (m,p)else aE m n (bn p 0 m))).2 (dO lt (if lt (ga p 0) (ga p (m-1))=true then .ret (m,p)else aE m n (bn p 0 m))).1/\_;by_cases z:lt (ga p 0) (ga p (m-1))=true
   ·have e:dO lt (.ask (ga p 0) (ga p (m-1)) λc=>if c=true then .ret (m,p)else aE m n (bn p 0 m))=(m,p):=by
     show dO lt (if lt (ga p 0) (ga p (m-1))=true then .ret (m,p)else aE m n (bn p 0 m))=_;rw[if_pos z];rfl
    rw[e,if_pos z];exact⟨hs,q1,q2,by show m<=n;omega⟩
   ·have e:dO lt (.ask (ga p 0) (ga p (m-1)) λc=>if c=true then .ret (m,p)else aE m n (bn p 0 m))=dO lt (aE m n (bn p 0 m)):=by
     show dO lt (if lt (ga p 0) (ga p (m-1))=true then .ret (m,p)else aE m n (bn p 0 m))=_;rw[if_neg z]
    rw[e,if_neg z];exact K5 W (by rwa[zY]) (st _ (Jr (by omega)) (by simpa using z)) c
  ·rw[if_neg g];have:m=1:=by omega
   subst this;refine K5 W hs (st p (λk=>?_) (W.irr _)) c;split
   ·rw[show 0+1-1-k=k by omega]
   ·rfl
theorem V6(W:Weak lt)(hn:1<=n):Run lt n (dO lt (cS n)) n:=by
 have Y:∀k,k<n->ga (ju (aQ n)) k=k:=λk Z=>by
  simp[ga,gY,Z]
 obtain⟨q1,q2,V,X⟩:=RZ (p:=ju (aQ n)) W (by simp) hn ⟨λi j h1 h2=>by omega,λk Z h=>Y k h,λk Z=>by rwa[Y k (by omega)]⟩;have e:dO lt (cS n)=_:=oE _ _;rw[e];generalize dO lt (cb n (ju (aQ n)))=r at q1 q2 V X ⊢;by_cases c:r.1<n
 ·rw[if_pos c,show max r.1 1=r.1 by omega];exact RX W _ _ _ q1 q2 (by omega)
 ·rw[if_neg c];have:r.1=n:=by omega
  rw[<-this];rwa[<-this]at q2
theorem rG(W:Weak lt)(hn:1<=n):(nO n lt).Pairwise (Rk lt):=by
 have R:=V6 W hn;have z:(nO n lt).length=n:=by
  have:=(jg (n:=n) (by omega) lt).length_eq;simpa using this
 rw[dj];intro i j hi Y Z;have:=R.asc i j Z (by omega);have g:∀k (h:k<(nO n lt).length),ga (dO lt (cS n)) k=(nO n lt)[k]:=λk h=>by
  unfold nO at h ⊢;have h':k<(dO lt (cS n)).size:=by simpa using h
  simp[ga,gY,h']
 rwa[g i hi,g j Y]at this
end
end XS
namespace XS
theorem R3{k:Nat->Int×Int}:Weak λi j=>Ay (k i) (k j):=by
 refine⟨λa=>?_,λa b c h1 h2=>?_,λa b c h=>?_⟩
 ·simp[Ay]
 ·revert h1 h2;simp only[Ay];generalize (k a).1=U;generalize (k a).2=V;generalize (k b).1=W;generalize (k b).2=X;generalize (k c).1=Y;generalize (k c).2=Z;split<;>split<;>split<;>simp only[decide_eq_true_eq]<;>omega
 ·revert h;simp only[Ay];generalize (k a).1=U;generalize (k a).2=V;generalize (k b).1=W;generalize (k b).2=X;generalize (k c).1=Y;generalize (k c).2=Z;split<;>split<;>split<;>simp only[decide_eq_true_eq]<;>omega
theorem R5(B:List (Int×Int)):Weak (ltP B):=R3 (k:=λi=>B.getD i (0,0))
theorem v7{k:Nat->Int}:Weak λi j=>decide (k i<k j):=by
 refine⟨λa=>?_,λa b c h1 h2=>?_,λa b c h=>?_⟩
 ·simp
 ·simp only[decide_eq_true_eq]at *;omega
 ·simp only[decide_eq_true_eq]at *;omega
theorem Nq{lt:Nat->Nat->Bool}(W:Weak lt):∀{l m:List Nat},l.Perm m->l.Pairwise (Rk lt)->m.Pairwise (Rk lt)->l=m:=by
 intro l m h h1 h2;refine List.Perm.eq_of_pairwise (le:=Rk lt) (λa b _ _ x y=>?_) h1 h2 h;have n1:=x.nr W;have n2:=y.nr W;rcases x with x|⟨_,x⟩
 ·rw[x]at n2;cases n2
 ·rcases y with y|⟨_,y⟩
  ·rw[y]at n1;cases n1
  ·omega
theorem zZ{lt:Nat->Nat->Bool}(W:Weak lt)(hn:1<=n){m:List Nat}(h:m.Perm (aQ n))(h2:m.Pairwise (Rk lt)):nO n lt=m:=
 Nq W ((jg (by omega) lt).trans h.symm) (rG W hn) h2
end XS
namespace Com
open D3 My XS
theorem ah8{k:Nat->Int}(h:Rk (λi j=>decide (k i<k j)) i j):k i<=k j:=by
 rcases h with z|⟨z,_⟩
 ·have z:=of_decide_eq_true z;omega
 ·have z:=of_decide_eq_false z;omega
end Com
namespace Com
open D3 My
def r6(x:Int):Prop:=0<=x/\x<1000000
abbrev Wi:=Int×Int×Int
def wiD(w:Wi):D:=.tuple [.int w.1,.int w.2.1,.int w.2.2]
end Com
namespace Com
open D3 My
theorem nD{α:Type}(f:α->D){l:List α}(x:α){i:Int}(B:0<=i)(h1:i<l.length):pAt (l.map f) i=some (f (l.getD i.toNat x)):=by
 have Z:i.toNat<l.length:=by omega
 obtain⟨k,rfl⟩:∃k:Nat,i=(k:Int):=⟨i.toNat,by omega⟩;rw[DX,aU,aG];simp only[fL]at Z ⊢;rw[aA Z];rfl
end Com
namespace Com
open D3 My
theorem Nr(fs:List Int):rO (fs.map .int)=(aQ fs.length).map λk:Nat=>e_ [.int (k:Int),.int (fs.getD k 0)]:=by
 unfold rO;apply dN;intro i;rw[fB,aU,aU];by_cases h:i<fs.length
 ·have e:fs.getD i 0=fs[i]:=by rw[aG,aA h];rfl
  rw[dJ h,aA h,jC,jC,jC,e]
 ·rw[aZ (by simpa using h),aZ (by simpa using h)];rfl
end Com
namespace Com
open D3 My
theorem v8(P:Nat->Bool):∀n,(∃m,m<n/\P m=true/\∀i,i<m->P i=false)\/∀i,i<n->P i=false
 |0=>.inr λi h=>by omega
 |n+1=>by
  rcases v8 P n with⟨m,h1,h2,Z⟩|h
  ·exact .inl ⟨m,by omega,h2,Z⟩
  ·cases c:P n with
   |true=>exact .inl ⟨n,by omega,c,h⟩
   |false=>
    refine .inr λi hi=>?_
    by_cases e:i=n
    ·rwa[e]
    ·exact h i (by omega)
end Com
variable{row held:List Int}
namespace Sd
abbrev Gp:=Int×Int×Nat
abbrev Pl:=Gp×Nat
def gok(g:Gp):Prop:=0<=g.1/\g.1<g.2.1/\1<=g.2.2
def inn(p:Pl)(r:Nat):Prop:=p.2<=r/\r<p.2+p.1.2.2
def fits(row:List Int)(g:Gp)(s:Nat):Prop:=s+g.2.2<=row.length/\∀r,s<=r->r<s+g.2.2->row.getD r 0<=g.1
noncomputable def cell(g:Gp)(s r:Nat)(e:Int):Int:=if s<=r/\r<s+g.2.2 then g.2.1 else if e<=g.1 then 0 else e
def put(row:List Int)(g:Gp)(s:Nat):List Int:=row.mapIdx (cell g s)
theorem yE(row:List Int)(g:Gp)(s:Nat):(put row g s).length=row.length:=by unfold put;rw[List.length_mapIdx]
theorem V7{g:Gp}{s r:Nat}(h:r<row.length):(put row g s).getD r 0=cell g s r (row.getD r 0):=by
 unfold put;rw[aG,fB,aG,aA h];rfl
def Run:List Int->List Pl->List Int->Prop
 |row,[],out=>out=row
 |row,p::ps,out=>fits row p.1 p.2/\Run (put row p.1 p.2) ps out
def Jv(held:List Int)(done:List Pl)(row:List Int):Prop:=row.length=held.length/\∀r,r<held.length->∀x:Int,0<=x->(∀p∈done,p.1.1<=x) ->
 (row.getD r 0<=x<->held.getD r 0<=x/\∀p∈done,inn p r->p.1.2.1<=x)
theorem Jv.nil(held:List Int):Jv held [] held:=⟨rfl,λr _ x _ _=>⟨λh=>⟨h,λp Z=>by cases Z⟩,λh=>h.1⟩⟩
theorem Jv.step{done:List Pl}{p:Pl}(h:Jv held done row)(ok:gok p.1)(asc:∀q∈done,q.1.1<=p.1.1)(ft:fits row p.1 p.2):Jv held (done++[p]) (put row p.1 p.2):=by
 obtain⟨T,W⟩:=h;obtain⟨U,R,_⟩:=ok;refine⟨(yE _ _ _).trans T,λr X x V Y=>?_⟩;have S:p.1.1<=x:=Y p (bx _ (aJ.mpr rfl));have xd:=λq Z=>Y q (bN _ Z)
 have j1:=W r X x V xd;rw[V7 (by omega)];have all:(∀q∈done++[p],inn q r->q.1.2.1<=x)<->(∀q∈done,inn q r->q.1.2.1<=x)/\(inn p r->p.1.2.1<=x):=by
  constructor
  ·exact λz=>⟨λq Z=>z q (bN _ Z),z p (bx _ (aJ.mpr rfl))⟩
  ·rintro⟨z1,z2⟩ q Z;rcases bZ.mp Z with k|k
   ·exact z1 q k
   ·rwa[aJ.mp k]
 rw[all];unfold cell;by_cases c:p.2<=r/\r<p.2+p.1.2.2
 ·rw[if_pos c];have f1:=ft.2 r c.1 c.2;have j2:=(W r X p.1.1 U asc).mp f1
  constructor
  ·exact λz=>⟨by have:=j2.1;omega,λq Z hi=>by have:=j2.2 q Z hi;omega,λ_=>z⟩
  ·exact λz=>z.2.2 c
 ·rw[if_neg c];have e:((if row.getD r 0<=p.1.1 then 0 else row.getD r 0)<=x)<->row.getD r 0<=x:=by split<;>omega
  rw[e,j1];exact⟨λz=>⟨z.1,z.2,λy=>absurd y c⟩,λz=>⟨z.1,z.2.1⟩⟩
def apart(p q:Pl):Prop:=p.1.2.1<=q.1.1\/q.1.2.1<=p.1.1\/p.2+p.1.2.2<=q.2\/q.2+q.1.2.2<=p.2
def home(held:List Int)(p:Pl):Prop:=fits held p.1 p.2
theorem R6{done:List Pl}{p:Pl}(h:Jv held done row)(ok:gok p.1)(B:∀q∈done,gok q.1/\q.1.1<=p.1.1)(hd:∀q∈done,q.2+q.1.2.2<=held.length):
 fits row p.1 p.2<->home held p/\∀q∈done,apart q p:=by
 obtain⟨U,T⟩:=h;have j:=λr W=>T r W p.1.1 ok.1 λq Z=>(B q Z).2
 unfold home fits;rw[U]
 constructor
 ·rintro⟨f1,f2⟩;refine⟨⟨f1,λr X Y=>((j r (by omega)).mp (f2 r X Y)).1⟩,λq Z=>?_⟩;unfold apart;apply Classical.byContradiction;intro Q;have s1:=ok.2.2;have s2:=(B q Z).1.2.2;by_cases k:q.2<=p.2
  ·have:=((j p.2 (by omega)).mp (f2 p.2 (aB _) (by omega))).2 q Z ⟨k,by omega⟩;omega
  ·have V:=hd q Z;have:=((j q.2 (by omega)).mp (f2 q.2 (by omega) (by omega))).2 q Z ⟨aB _,by omega⟩;omega
 ·rintro⟨⟨f1,f2⟩,S⟩;refine⟨f1,λr X Y=>(j r (by omega)).mpr ⟨f2 r X Y,λq Z hi=>?_⟩⟩;have a:=S q Z;have o:=B q Z;have R:=ok.2.1;unfold apart at a;unfold inn at hi;omega
def Sit(held:List Int)(ps:List Pl):Prop:=(∀p∈ps,home held p)/\ps.Pairwise apart
theorem uU:∀{ps done:List Pl}{row:List Int},Jv held done row->(∀p∈done,home held p)->(∀p∈done++ps,gok p.1)->(done++ps).Pairwise (λp q=>p.1.1<=q.1.1) ->
 ((∃out,Run row ps out/\Jv held (done++ps) out)<->(∀p∈ps,home held p)/\(∀q∈done,∀p∈ps,apart q p)/\ps.Pairwise apart)
 |[],done,row,j,_,_,_=>by
  constructor
  ·exact λ_=>⟨λp U=>(by cases U),λq _ p U=>(by cases U),.nil⟩
  ·exact λ_=>⟨row,rfl,by rwa[cA]⟩
 |p::ps,done,row,j,hd,ok,asc=>by
  have Y:=ok p (bx _ ak);have T:=λq Z=>(aH.mp asc).2.2 q Z p ak
  have fi:=R6 j Y (λq Z=>⟨ok q (bN _ Z),T q Z⟩) (λq Z=>(hd q Z).1);have e:done++p::ps=(done++[p])++ps:=by rw[aL];rfl
  constructor
  ·rintro⟨out,⟨f,r⟩,V⟩;obtain⟨f1,f2⟩:=fi.mp f;have W:=(uU (ps:=ps) (done:=done++[p]) (j.step Y T f) (λq Z=>by
    rcases bZ.mp Z with k|k
    ·exact hd q k
    ·rwa[aJ.mp k]) (e▸ok) (e▸asc)).mp ⟨out,r,e▸V⟩
   refine⟨λq Z=>?_,λq Z x X=>?_,bJ.mpr ⟨λx X=>W.2.1 p (bx _ (aJ.mpr rfl)) x X,W.2.2⟩⟩
   ·rcases aK.mp Z with rfl|k
    ·exact f1
    ·exact W.1 q k
   ·rcases aK.mp X with rfl|k
    ·exact f2 q Z
    ·exact W.2.1 q (bN _ Z) x k
  ·rintro⟨h1,h2,Q⟩;obtain⟨R,S⟩:=bJ.mp Q;have f:=fi.mpr ⟨h1 p ak,λq Z=>h2 q Z p ak⟩;obtain⟨out,r,V⟩:=(uU (ps:=ps) (done:=done++[p]) (j.step Y T f) (λq Z=>by
    rcases bZ.mp Z with k|k
    ·exact hd q k
    ·rw[aJ.mp k];exact h1 p ak) (e▸ok) (e▸asc)).mpr ⟨λq Z=>h1 q (au _ Z),λq Z x X=>by
     rcases bZ.mp Z with k|k
     ·exact h2 q k x (au _ X)
     ·rw[aJ.mp k];exact R x X,S⟩
   exact⟨out,⟨f,r⟩,e▸V⟩
theorem V8{ps:List Pl}(ok:∀p∈ps,gok p.1)(asc:ps.Pairwise λp q=>p.1.1<=q.1.1):(∃out,Run held ps out)<->Sit held ps:=by
 have h:=uU (ps:=ps) (done:=[]) (Jv.nil held) (λp V=>by cases V) (by rwa[cT]) (by rwa[cT])
 constructor
 ·rintro⟨out,r⟩;have X:Jv held ([]++ps) out:=by
   have go:∀{ps done:List Pl}{row out:List Int},Jv held done row->(∀p∈done++ps,gok p.1)->(done++ps).Pairwise (λp q=>p.1.1<=q.1.1)->Run row ps out->Jv held (done++ps) out:=by
    intro ps
    induction ps with
    |nil=>
     intro done row out j _ _ r;have:out=row:=r;rwa[cA,this]
    |cons p ps W=>
     intro done row out j ok asc r;have e:done++p::ps=(done++[p])++ps:=by rw[aL];rfl
     have U:=λq Z=>(aH.mp asc).2.2 q Z p ak
     rw[e];exact W (j.step (ok p (bx _ ak)) U r.1) (e▸ok) (e▸asc) r.2
   exact go (Jv.nil held) (by rwa[cT]) (by rwa[cT]) r
  obtain⟨h1,_,Y⟩:=h.mp ⟨out,r,X⟩;exact⟨h1,Y⟩
 ·rintro⟨h1,Y⟩;obtain⟨out,r,_⟩:=h.mpr ⟨h1,(λq Z=>by cases Z),Y⟩;exact⟨out,r⟩
end Sd
namespace K73
open D3
abbrev gR:List D->Option D:=Com.gR
abbrev fP:List D->Option D:=Com.fP
def jV:List D->Option D:=fnD 1 0 (dh (dCall yW (ao (jk (qd (aj 0)) (gNl 0) (j9) (dCall gR (ao (aj 0) (aN))) 1 []) (aN))))
def fH:List D->Option D:=fnD 2 0 (dh (wD (dUn (gIs "tuple") (aj 0)) (wD (dOp gEq (dCall jd (ao (aj 0) (aN))) (aj 1)) (dCall jV (ao (aj 0) (aN))))))
def qu:List D->Option D:=fnD 1 0 (dh (dCall fH (ao (aj 0) (ao (dC (.int 2)) (aN)))))
def mz:List D->Option D:=fnD 1 0 (dh (wD (dCall qu (ao (aj 0) (aN))) (yq gLe gLt gLe (dC (.int 0)) (dOp gIx (aj 0) (dC (.int 0))) (dOp gIx (aj 0) (dC (.int 1))) (dC (.int 400)))))
abbrev jT:List D->Option D:=Com.jT
def mV:List D->Option D:=fnD 1 0 (bU (sIf (D3.tOr (D3.gU (bG (dUn (gIs "tuple") (aj 0)))) (bG (dOp gNe (dCall jd (ao (aj 0) (aN))) (dC (.int 3))))) (dh (dC (.bool false))) (dB))
    (dh (wD (dCall mz (ao (dCall jT (ao (aj 0) (aN))) (aN))) (dCall fP (ao (dOp gIx (aj 0) (dC (.int 2))) (ao (dC (.int 1)) (ao (dC (.int 6)) (aN))))))))
def h_:List D->Option D:=fnD 1 2 (kJ (JW (aj 0)) (gTn 2 (cg (gNl 1) (cg (gNl 2) (iT)))) (sIf (D3.gU (bG (dCall mV (ao (aj 2) (aN))))) ((λ_=>none)) (dB)))
def iY:List D->Option D:=fnD 1 0 (dh (XS.DR (dCall zu (ao (dCall jd (ao (aj 0) (aN))) (aN))) XS.dK0 [0]))
def jq:List D->Option D:=fnD 2 1 (bU (bO 2 (dOp vg (dCall jd (ao (aj 0) (aN))) (dOp gIx (aj 1) (dC (.int 2)))))
    (dh (jk (mG (ao (dOp eY (aj 2) (dC (.int 1))) (aN))) (gNl 0) (bG (dOp gLe (dCall uq (ao (yd (aj 2) (fG (aj 0)) (fG (dOp eY (aj 0) (dOp gIx (aj 1) (dC (.int 2)))))) (aN))) (dOp gIx (aj 1) (dC (.int 0))))) (ji (aj 0)) 1 [1,0])))
abbrev fQ:List D->Option D:=Com.fQ
def gj:List D->Option D:=fnD 3 1 (bU (bO 3 (dOp eY (aj 2) (dOp gIx (aj 1) (dC (.int 2)))))
    (dh (dUn nU (jk (Jd (aj 0)) (gTn 2 (cg (gNl 0) (cg (gNl 1) (iT)))) (j9) (dCall fQ (ao (aj 1) (ao (aj 2) (ao (k_ gLe gLt (aj 3) (aj 0) (aj 4)) (aN))))) 2 [1,2,3]))))
def cI:List D->Option D:=fnD 2 3 (bU (bO 2 (dC (.dict [])))
    (bU (kJ (uO (aj 0)) (gNl 3) (kJ (uO (dCall jq (ao (aj 3) (ao (aj 1) (aN))))) (gNl 4) (sU 2 (dCall gj (ao (aj 3) (ao (aj 1) (ao (aj 4) (aN))))) (dTup (ao (aj 3) (ao (aj 4) (aN)))))))
    (dh (aj 2))))
def mC:List D->Option D:=fnL 2 4 (bU (bO 2 (jz (aN)))
    (bU (bO 3 (jz (ao (dUn nU (aj 0)) (aN))))
    (bU (kJ (uO (dCall iY (ao (aj 1) (aN)))) (gNl 4) (bU (bO 5 (dCall cI (ao (aj 3) (ao (dOp gIx (aj 1) (aj 4)) (aN)))))
    (bU (rT 2 (aj 5))
    (bU (sIf (bG (dOp gGt (dCall XJ.mJ (ao (aj 5) (aN))) (dC (.int 400)))) ((λ_=>none)) (dB))
    (bU (sIf (bG (dOp gEq (dCall XJ.mJ (ao (aj 5) (aN))) (dC (.int 0)))) (sO (aj 2)) (dB))
    (bO 3 (dCall XJ.jh (ao (aj 5) (aN)))))))))
    (sO (aj 2)))))
def lJ:List D->Option D:=fnD 2 4 (bU (bO 2 (dOp yV (jz (ao (dC (.none)) (aN))) (dCall jd (ao (aj 1) (aN)))))
    (bU (bO 3 (dC (.none)))
    (bU (kJ (Ug (dOp wM (dCall iY (ao (aj 1) (aN))) (aj 0))) (gTn 2 (cg (gNl 4) (cg (gNl 5) (iT)))) (bU (sIf (bG (dUn Fz (aj 3))) (bO 3 (dOp gIx (dCall XJ.jh (ao (aj 5) (aN))) (dC (.int 0)))) (dB))
    (bU (Cy 2 (aj 4) (dOp gIx (dOp lA (aj 5) (aj 3)) (dC (.int 1))))
    (bO 3 (dOp gIx (dOp lA (aj 5) (aj 3)) (dC (.int 0)))))))
    (dh (Io (aj 2))))))
def eE:List D->Option D:=fnD 2 1 (bU (bO 2 (dCall mC (ao (aj 0) (ao (aj 1) (aN)))))
    (bU (sIf (D3.HY (bG (dOp gGt (dCall jd (ao (aj 2) (aN))) (dC (.int 0)))) (bG (dOp gEq (dCall XJ.mJ (ao (dOp gIx (aj 2) (dUn O1 (dC (.int 1)))) (aN))) (dC (.int 0))))) (dh (dTup (ao (dC (.str "none")) (ao (jk (uO (aj 2)) (gNl 0) (j9) (dCall XJ.jh (ao (aj 0) (aN))) 1 []) (aN))))) (dB))
    (dh (dTup (ao (dC (.str "laid")) (ao (dCall lJ (ao (aj 2) (ao (aj 1) (aN)))) (aN)))))))
def oX:List D->Option D:=fnD 2 0 (bU (Fw (dCall h_ (ao (aj 1) (aN))))
    (dh (dCall eE (ao (aj 0) (ao (aj 1) (aN))))))
def iM:List D->Option D:=fnD 2 0 (dh (wD (dUn (gIs "list") (aj 0)) (dCall yW (ao (jk (uO (aj 0)) (gNl 0) (j9) (dCall fH (ao (aj 0) (ao (aj 1) (aN)))) 1 [1]) (aN)))))
def jF:List D->Option D:=fnD 2 1 (bU (bO 2 (dCall zK (ao (jk (uO (aj 0)) (gNl 0) (j9) (ji (dTup (ao (aj 0) (ao (dC (.bool true)) (aN))))) 1 []) (aN))))
    (dh (dCall yW (ao (jk (Kl (aj 1)) (gNl 0) (j9) (dOp Gi (aj 0) (aj 1)) 1 [2]) (aN)))))
def mW:List D->Option D:=fnD 3 3 (bU (Fw (dCall h_ (ao (aj 1) (aN))))
    (bU (sIf (D3.tOr (D3.gU (bG (dUn (gIs "list") (aj 2)))) (D3.gU (bG (k_ gLe gLe (dC (.int 1)) (dCall jd (ao (aj 2) (aN))) (dCall jd (ao (aj 1) (aN))))))) (dh (dC (.bool false))) (dB))
    (bU (sIf (D3.tOr (D3.gU (bG (dCall yW (ao (jk (uO (aj 2)) (gNl 0) (j9) (dCall iM (ao (aj 0) (ao (dCall jd (ao (aj 1) (aN))) (aN)))) 1 [0]) (aN))))) (bG (dOp gGt (dCall jd (ao (dOp gIx (aj 2) (dUn O1 (dC (.int 1)))) (aN))) (dC (.int 0))))) (dh (dC (.bool false))) (dB))
    (bU (bO 3 (jz (ao (dUn nU (aj 0)) (aN))))
    (bU (kJ (O2 (dCall iY (ao (aj 1) (aN))) (aj 2)) (gTn 2 (cg (gNl 4) (cg (gNl 5) (iT)))) (bU (sIf (D3.gU (bG (dCall jF (ao (aj 5) (ao (dCall cI (ao (aj 3) (ao (dOp gIx (aj 1) (aj 4)) (aN)))) (aN)))))) (dh (dC (.bool false))) (dB))
    (bO 3 (aj 5))))
    (dh (dC (.bool true))))))))
abbrev jm:List D->Option D:=Com.jm
abbrev bY:List D->Option D:=Com.bY
abbrev cN:List D->Option D:=Com.cN
abbrev dD:List D->Option D:=Com.dD
abbrev jU:List D->Option D:=Com.jU
abbrev jR:List D->Option D:=Com.jR
abbrev iJ:List D->Option D:=Com.iJ
def mD:List D->Option D:=fnD 1 0 (dh (jk (uO (dCall XS.zG (ao (jk (mG (ao (dCall jd (ao (aj 0) (aN))) (aN))) (gNl 0) (j9) (ji (dTup (ao (dOp gIx (dOp gIx (aj 1) (aj 0)) (dC (.int 0))) (ao (aj 0) (aN))))) 1 [0]) (aN)))) (gNl 0) (j9) (ji (dOp gIx (aj 1) (dOp gIx (aj 0) (dC (.int 1))))) 1 [0]))
def iI:List D->Option D:=fnD 2 8 (bU (Fx (aj 1) (gTn 3 (cg (gNl 2) (cg (gNl 3) (cg (gNl 4) (iT))))))
    (bU (bO 5 (dC (.dict [])))
    (bU (kJ (qd (aj 0)) (gNl 6) (bU (bO 7 (jk (qd (aj 6)) (gNl 0) (j9) (ji (dOp gIx (jz (ao (aj 0) (ao (dC (.int 0)) (aN)))) (dCall q_ (ao (dOp gLe (aj 0) (aj 1)) (aN))))) 1 [2]))
    (kJ (mG (ao (dOp eY (dOp vg (dCall jd (ao (aj 6) (aN))) (aj 4)) (dC (.int 1))) (aN))) (gNl 8) (sIf (bG (dOp gLe (dCall uq (ao (yd (aj 6) (fG (aj 8)) (fG (dOp eY (aj 8) (aj 4)))) (aN))) (aj 2))) (bU (bO 9 (dOp sE (dSl (aj 7) p7 (fG (aj 8))) (dOp yV (jz (ao (aj 3) (aN))) (aj 4))))
    (sY 5 (dUn nU (dOp sE (aj 9) (dSl (aj 7) (fG (dOp eY (aj 8) (aj 4))) p7))))) (dB)))))
    (dh (dCall XJ.jh (ao (aj 5) (aN)))))))
def iQ:List D->Option D:=fnD 3 4 (bU (sIf (D3.tOr (D3.gU (bG (dUn (gIs "list") (aj 2)))) (D3.gU (bG (k_ gLe gLe (dC (.int 1)) (dCall jd (ao (aj 2) (aN))) (dCall jd (ao (aj 1) (aN))))))) (dh (dC (.bool false))) (dB))
    (bU (bO 3 (jz (ao (dUn nU (aj 0)) (aN))))
    (bU (kJ (O2 (aj 2) (dCall mD (ao (aj 1) (aN)))) (gTn 2 (cg (gNl 4) (cg (gNl 5) (iT)))) (bU (sIf (D3.tOr (bG (dOp gEq (aj 3) (jz (aN)))) (D3.tOr (D3.gU (bG (dUn (gIs "list") (aj 4)))) (bG (dOp gNe (aj 4) (dCall iI (ao (aj 3) (ao (aj 5) (aN)))))))) (dh (dC (.bool false))) (dB))
    (bU (kJ (qd (aj 4)) (gNl 6) (sIf (bG (dOp gNe (jk (qd (aj 6)) (gNl 0) (D3.gU (bG (dCall cN (ao (aj 0) (aN))))) (ji (aj 0)) 1 []) (jz (aN)))) (dh (dC (.bool false))) (dB)))
    (bO 3 (aj 4)))))
    (dh (dOp gEq (aj 3) (jz (aN)))))))
def K6:List D->Option D:=fnD 1 9 (bU (bO 1 (dOp eY (dC (.int 1)) (dCall bY (ao (aj 0) (ao (dC (.int 0)) (ao (dC (.int 0)) (ao (dC (.int 6)) (aN))))))))
    (bU (bO 2 (dCall jR (ao (aj 0) (ao (aj 1) (aN)))))
    (bU (bO 3 (jz (aN)))
    (bU (kJ (uO (dCall iJ (ao (aj 0) (ao (aj 1) (ao (dCall bY (ao (aj 0) (ao (dC (.int 0)) (ao (dC (.int 1)) (ao (dC (.int 17)) (aN)))))) (aN)))))) (gTn 3 (cg (gNl 4) (cg (gNl 5) (cg (gNl 6) (iT))))) (rT 3 (dTup (ao (aj 4) (ao (aj 5) (ao (dCall xG (ao (aj 6) (ao (dOp eY (dC (.int 1)) (dCall q_ (ao (dOp gEq (aj 1) (dC (.int 6))) (aN)))) (aN)))) (aN)))))))
    (bU (bO 7 (jz (ao (dUn xH (aj 2)) (ao (dUn xH (aj 3)) (aN)))))
    (bU (bO 8 (dNm (dCall oX (ao (dOp gIx (aj 7) (dC (.int 0))) (ao (dOp gIx (aj 7) (dC (.int 1))) (aN))))))
    (bU (sIf (D3.tOr (bG (dOp gNe (aj 7) (jz (ao (aj 2) (ao (aj 3) (aN)))))) (D3.tOr (D3.gU (bG (dUn (gIs "tuple") (aj 8)))) (bG (dOp gNe (dCall jd (ao (aj 8) (aN))) (dC (.int 2)))))) (dh (dC (.bool false))) (dB))
    (bU (sIf (bG (dOp gEq (dOp gIx (aj 8) (dC (.int 0))) (dC (.str "laid")))) (dh (dCall jU (ao (aj 2) (ao (aj 3) (ao (dOp gIx (aj 8) (dC (.int 1))) (aN)))))) (dB))
    (bU (sIf (D3.tOr (bG (dOp gNe (dOp gIx (aj 8) (dC (.int 0))) (dC (.str "none")))) (D3.gU (bG (dCall iQ (ao (aj 2) (ao (aj 3) (ao (dOp gIx (aj 8) (dC (.int 1))) (aN)))))))) (dh (dC (.bool false))) (dB))
    (bU (sIf (bG (dUn O3 (dCall mW (ao (dOp gIx (aj 7) (dC (.int 0))) (ao (dOp gIx (aj 7) (dC (.int 1))) (ao (dOp gIx (aj 8) (dC (.int 1))) (aN))))))) (dh (dC (.bool false))) (dB))
    (bU (DP 8 (dC (.int 1)) (dC (.int 0)) (dTup (aN)))
    (bU (KQ 8 (dC (.int 1)))
    (bU (bO 9 (dCall oX (ao (aj 2) (ao (aj 3) (aN)))))
    (dh (wD (dOp gEq (dOp gIx (aj 9) (dC (.int 0))) (dC (.str "none"))) (wD (dCall iQ (ao (aj 2) (ao (aj 3) (ao (dOp gIx (aj 9) (dC (.int 1))) (aN))))) (dOp gEq (aj 7) (jz (ao (aj 2) (ao (aj 3) (aN)))))))))))))))))))))
end K73
variable{g:Com.Wi}{gs:List Com.Wi}{hs:List Int}{rows:List (List Int)}
namespace K73
open D3 My Com
def isI:D->Bool
 | .int _=>true
 |_=>false
theorem wh(d:D):Com.gR [d]=some (.bool (isI d)):=by
 cases d<;>rfl
theorem lwh(d:D):Com.cN [d]=some (.bool (isI d)):=by
 cases d<;>rfl
def two:D->Bool
 | .tuple [x,y]=>isI x&&isI y
 |_=>false
theorem all2(x y:D):jV [.tuple [x,y]]=some (.bool (isI x&&isI y)):=by
 have C:=wV (g:=(gNl 0)) (c:=(D3.j9)) (e:=(dCall gR (ao (aj 0) (aN)))) (δ:=[none]) (λd:D=>d) (λd=>.bool (isI d)) [x,y] (λd _=>⟨[some (.d d)],rfl,rfl,by simp only[EV,wh]⟩);have C:jK (gNl 0) (D3.j9) (dCall gR (ao (aj 0) (aN))) [none] [x,y]=some [.bool (isI x),.bool (isI y)]:=C;have Z:∀a:Option U,j_ 1 [] [a]=[none]:=λ_=>rfl
 have ga:yW [.list [.bool (isI x),.bool (isI y)]]=some (.bool (isI x&&isI y)):=by cases isI x<;>cases isI y<;>rfl
 unfold jV;simp only[EV,aD,Yj,Yk,show 2<=100000 by decide,Z,C,ga]
theorem len2(h:l.length=2):∃x y,l=[x,y]:=by
 match l,h with
 |[x,y],_=>exact⟨x,y,rfl⟩
theorem two_no(h:¬l.length=2):two (.tuple l)=false:=by
 match l,h with
 |[],_=>rfl
 |[_],_=>rfl
 |[_,_],h=>exact absurd rfl h
 |_::_::_::_,_=>rfl
theorem isTup:D3.isT "tuple" "tuple"=true:=by decide
theorem z9(d:D):qu [d]=some (.bool (two d)):=by
 have T:fH [d,.int 2]=some (.bool (two d)):=by
  unfold fH
  cases d with
  |tuple l=>
   by_cases h:l.length=2
   ·obtain⟨x,y,rfl⟩:=len2 h;simp only[EV,aD,tyD,isTup,show jd [e_ [x,y]]=some (.int 2)from rfl,show gEq (.int 2) (.int 2)=some (.bool true)from rfl,all2];rfl
   ·have Z:jd [e_ l]=some (.int (l.length:Int)):=rfl;rw[two_no h];simp only[EV,aD,tyD,isTup,Z,dFa (show ¬(l.length:Int)=2 by omega)]
  |_=>rfl
 unfold qu;simp only[EV,T]
theorem tw(a b:Int):two (.tuple [.int a,.int b])=true:=rfl
def stB(a b:Int):Bool:=decide (0<=a)&&(decide (a<b)&&decide (b<=400))
theorem G7(a b:Int):mz [.tuple [.int a,.int b]]=some (.bool (stB a b)):=by
 unfold mz stB;by_cases c:0<=a
 ·by_cases Z:a<b
  ·simp only[EV,z9,tw,at1,dTr c,dTr Z];rfl
  ·simp only[EV,z9,tw,at1,dTr c,dFa Z];rfl
 ·simp only[EV,z9,tw,dFa c];rfl
structure grOk(g:Wi):Prop where
 f:0<=g.1
 b:g.1<g.2.1
 n:g.2.1<=400
 s:1<=g.2.2
 t:g.2.2<=6
theorem Js(g:Wi):Com.jT [wiD g]=some (.tuple [.int g.1,.int g.2.1]):=by
 unfold Com.jT wiD;simp only[EV,aD,at1,sz (show 2<=1000000 by decide)]
theorem Nt(h:grOk g):mV [wiD g]=some (.bool true):=by
 have S:=G7 g.1 g.2.1;rw[show stB g.1 g.2.1=true by unfold stB;rw[dTr h.f,dTr h.b,dTr h.n];rfl]at S;have W:Com.fP [.int g.2.2,.int 1,.int 6]=some (.bool true):=by
  unfold Com.fP;simp only[EV,aD,wh,isI,dTr h.s,dTr h.t]
 have N:=Js g;have i2:gIx (wiD g) (.int 2)=some (.int g.2.2):=rfl;unfold mV;simp only[EV,show D3.isT "tuple" (tyD (wiD g))=true from rfl,show jd [wiD g]=some (.int 3)from rfl,show gNe (.int 3) (.int 3)=some (.bool false)from rfl,N,S,i2,W]
theorem Ci(h:∀g∈gs,grOk g):h_ [.list (gs.map wiD)]=some .none:=by
 unfold h_;simp only[EV,];obtain⟨δ',e,Y,y1,rfl⟩:=tX (g:=(gTn 2 (cg (gNl 1) (cg (gNl 2) (iT))))) (b:=(sIf (D3.gU (bG (dCall mV (ao (aj 2) (aN))))) ((λ_=>none)) (dB))) (λ_ δ=>∃y1 Z:Option U,δ=[some (.d (.list (gs.map wiD))),y1,Z]) (rO (gs.map wiD)) [some (.d (.list (gs.map wiD))),none,none] ⟨none,none,rfl⟩
  (by
   rintro i d δ hd ⟨y1,Z,rfl⟩;unfold rO at hd;rw[fB,aU]at hd
   cases hw:gs[i]? with
   |none=>rw[hw]at hd;cases hd
   |some w=>
    rw[hw]at hd
    cases hd;refine⟨_,_,rfl,.inl ?_,some (.d (.int (i:Int))),some (.d (wiD w)),rfl⟩;simp only[EV,Nt (h w (gw hw))])
 rw[e];simp only[EV,]
def meB(g k:Wi):Bool:=decide ((if k.1>g.1 then k.1 else g.1)<(if k.2.1<g.2.1 then k.2.1 else g.2.1))
def coB(g:Wi)(p:Int)(k:Wi)(q:Int):Bool:=decide ((if q>p then q else p)<(if q+k.2.2<p+g.2.2 then q+k.2.2 else p+g.2.2))
def apB(g:Wi)(p:Int)(k:Wi)(q:Int):Bool:=(decide (g.2.1<=k.1)||decide (k.2.1<=g.1))||(decide (p+g.2.2<=q)||decide (q+k.2.2<=p))
theorem Nu(g k:Wi)(p q:Int):Com.dD [wiD g,.int p,wiD k,.int q]=some (.bool (apB g p k q)):=by
 have U:gIx (wiD g) (.int 0)=some (.int g.1):=rfl;have i1:gIx (wiD g) (.int 1)=some (.int g.2.1):=rfl;have i2:gIx (wiD g) (.int 2)=some (.int g.2.2):=rfl;have W:gIx (wiD k) (.int 0)=some (.int k.1):=rfl;have j1:gIx (wiD k) (.int 1)=some (.int k.2.1):=rfl;have j2:gIx (wiD k) (.int 2)=some (.int k.2.2):=rfl;unfold Com.dD;by_cases Y:g.2.1<=k.1
 ·have Z:apB g p k q=true:=by unfold apB;rw[dTr Y];rfl
  rw[Z];simp only[EV,aD,i1,W,dTr Y]
 ·by_cases X:k.2.1<=g.1
  ·have Z:apB g p k q=true:=by unfold apB;rw[dTr X];simp
   rw[Z];simp only[EV,aD,U,i1,W,j1,dFa Y,dTr X]
  ·by_cases V:p+g.2.2<=q
   ·have Z:apB g p k q=true:=by unfold apB;rw[dTr V];simp
    rw[Z];simp only[EV,aD,U,i1,i2,W,j1,dFa Y,dFa X,dTr V]
   ·have Z:apB g p k q=decide (q+k.2.2<=p):=by unfold apB;rw[dFa Y,dFa X,dFa V];rfl
    rw[Z];simp only[EV,aD,U,i1,i2,W,j1,j2,dFa Y,dFa X,dFa V]
theorem wY{k:Wi}{p q:Int}(D:grOk g)(B:grOk k):apB k q g p = !(meB g k&&coB g p k q):=by
 have W:=D.b;have X:=B.b;have Y:=D.s;have Z:=B.s;unfold apB meB coB;rw[Bool.eq_iff_iff];simp only[nG,gJ,Bool.and_eq_false_iff,decide_eq_true_eq,decide_eq_false_iff_not]
 constructor
 ·intro h;by_cases z:(if k.1>g.1 then k.1 else g.1)<(if k.2.1<g.2.1 then k.2.1 else g.2.1)
  ·right
   intro y;split at z<;>split at z<;>split at y<;>split at y<;>omega
  ·left;exact z
 ·intro h;rcases h with h|h
  ·left
   split at h<;>split at h<;>omega
  ·right
   split at h<;>split at h<;>omega
section
variable{gs:List Wi}{ps:List Int}
noncomputable def gat(gs:List Wi)(i:Nat):Wi:=gs.getD i (0,0,0)
def beB(gs:List Wi)(ps:List Int)(i:Nat):Bool:=(aQ i).all λj=>!(meB (gat gs i) (gat gs j)&&coB (gat gs i) (ps.getD i 0) (gat gs j) (ps.getD j 0))
end
theorem ZC{a b:Int}(B:0<=a)(h1:a<=b)(h2:b<=l.length):cuD l (some a) (some b)=(l.drop a.toNat).take (b-a).toNat:=by
 unfold cuD;have Z:pSx l.length 0 (some a)=a.toNat:=by
  show(if a<0 then _ else _)=_;rw[if_neg (by omega)];omega
 have e2:pSx l.length l.length (some b)=b.toNat:=by
  show(if b<0 then _ else _)=_;rw[if_neg (by omega)];omega
 rw[Z,e2,show b.toNat-a.toNat=(b-a).toNat by omega]
def mx:List Int->Int
 |[]=>0
 |x::r=>mxI x r
theorem K7{l:List Int}(h:l≠[]):yU [.list (l.map .int)]=some (.int (mx l)):=by
 cases l with
 |nil=>exact absurd rfl h
 |cons x r=>
  show(match dF ((x::r).map .int)with|some (i::r)=>some (eT (mxI i r))|_=>none)=_;rw[tW];rfl
def sli(hs:List Int)(p s:Int):List Int:=(hs.drop p.toNat).take s.toNat
def roB(hs:List Int)(g:Wi)(p:Int):Bool:=(decide (0<=p)&&decide (p<=(hs.length:Int)-g.2.2))&&decide (mx (sli hs p g.2.2)<=g.1)
theorem z_{p s:Int}(B:0<=p)(h1:p<=(hs.length:Int)-s)(h2:1<=s):sli hs p s≠[]:=by
 intro z;have:=congrArg m8 z;unfold sli at this;rw[cP,fZ]at this;simp at this;omega
theorem yF{p s:Int}(B:0<=p)(h1:p<=(hs.length:Int)-s)(h2:1<=s):cuD (hs.map eT) (some p) (some (p+s))=(sli hs p s).map .int:=by
 rw[ZC B (by omega) (by rw[aq];omega),show p+s-p=s by omega];unfold sli;rw[uh,um]
section
variable{hs:List Int}{gs:List Wi}{ps:List Int}
def ah9(hs:List Int)(gs:List Wi)(ps:List Int)(i:Nat):Bool:=roB hs (gat gs i) (ps.getD i 0)&&beB gs ps i
def laB(hs:List Int)(gs:List Wi)(ps:List Int):Bool:=decide (ps.length=gs.length)&&(aQ gs.length).all (ah9 hs gs ps)
theorem Eb(h:∀g∈gs,grOk g)(hi:i<gs.length):grOk (gat gs i):=by
 unfold gat;rw[aG,aA hi];exact h _ (cV hi)
theorem Aa(h:∀g∈gs,grOk g)(pl:ps.length=gs.length){i:Nat}(hi:i<gs.length)(y4 y5 y6 y7 B:Option U):∃z4 O J D,((bU (bO 4 (dOp gIx (aj 2) (aj 3))) (bU (Fx (dOp gIx (aj 1) (aj 3)) (gTn 3 (cg (gNl 5) (cg (gNl 6) (cg (gNl 7) (iT)))))) (bU (sIf (D3.tOr (D3.gU (bG (dCall cN (ao (aj 4) (aN))))) (D3.gU (bG (k_ gLe gLe (dC (.int 0)) (aj 4) (dOp vg (dCall jd (ao (aj 0) (aN))) (aj 7)))))) (dh (dC (.bool false))) (dB)) (sIf (bG (dOp gGt (dCall yU (ao (dSl (aj 0) (fG (aj 4)) (fG (dOp eY (aj 4) (aj 7)))) (aN))) (aj 5))) (dh (dC (.bool false))) (dB)))))) [some (.d (.list (hs.map .int))),some (.d (.list (gs.map wiD))),some (.d (.list (ps.map .int))),some (.d (.int (i:Int))),y4,y5,y6,y7,B] =
 if roB hs (gat gs i) (ps.getD i 0)=true then some (.nx [some (.d (.list (hs.map .int))),some (.d (.list (gs.map wiD))),some (.d (.list (ps.map .int))),some (.d (.int (i:Int))),z4,O,J,D,B])else some (.rt (.bool false)):=by
 have X:=nD wiD (l:=gs) (0,0,0) (i:=(i:Int)) (by omega) (by omega);have W:=nD eT (l:=ps) 0 (i:=(i:Int)) (by omega) (by omega);rw[fL]at X W;have X:pAt (gs.map wiD) (i:Int)=some (.tuple [.int (gat gs i).1,.int (gat gs i).2.1,.int (gat gs i).2.2]):=X;have T:=Eb h hi;have V:Com.cN [.int (ps.getD i 0)]=some (.bool true):=rfl;refine⟨some (.d (.int (ps.getD i 0))),some (.d (.int (gat gs i).1)),some (.d (.int (gat gs i).2.1)),some (.d (.int (gat gs i).2.2)),?_⟩;by_cases Z:0<=ps.getD i 0
 ·by_cases Y:ps.getD i 0<=(hs.length:Int)-(gat gs i).2.2
  ·have r:roB hs (gat gs i) (ps.getD i 0)=decide (mx (sli hs (ps.getD i 0) (gat gs i).2.2)<=(gat gs i).1):=by unfold roB;rw[dTr Z,dTr Y];rfl
   rw[r];by_cases S:mx (sli hs (ps.getD i 0) (gat gs i).2.2)<=(gat gs i).1
   ·rw[dTr S,if_pos rfl];simp only[EV,aD,bC,X,W,V,lMp,dTr Z,dTr Y,yF Z Y T.s,K7 (z_ Z Y T.s),dFa (show ¬mx (sli hs (ps.getD i 0) (gat gs i).2.2)>(gat gs i).1 by omega)]
   ·rw[dFa S,if_neg (by decide)];simp only[EV,aD,bC,X,W,V,lMp,dTr Z,dTr Y,yF Z Y T.s,K7 (z_ Z Y T.s),dTr (show mx (sli hs (ps.getD i 0) (gat gs i).2.2)>(gat gs i).1 by omega)]
  ·have r:roB hs (gat gs i) (ps.getD i 0)=false:=by unfold roB;rw[dTr Z,dFa Y];rfl
   rw[r,if_neg (by decide)];simp only[EV,aD,bC,X,W,V,lMp,dTr Z,dFa Y]
 ·have r:roB hs (gat gs i) (ps.getD i 0)=false:=by unfold roB;rw[dFa Z];rfl
  rw[r,if_neg (by decide)];simp only[EV,aD,bC,X,W,V,dFa Z]
theorem Ec(h:∀g∈gs,grOk g)(pl:ps.length=gs.length){i j:Nat}(hi:i<gs.length)(W:j<i)(O J D B:Option U):(sIf (D3.gU (bG (dCall dD (ao (dOp gIx (aj 1) (aj 8)) (ao (dOp gIx (aj 2) (aj 8)) (ao (dOp gIx (aj 1) (aj 3)) (ao (dOp gIx (aj 2) (aj 3)) (aN)))))))) (dh (dC (.bool false))) (dB)) [some (.d (.list (hs.map .int))),some (.d (.list (gs.map wiD))),some (.d (.list (ps.map .int))),some (.d (.int (i:Int))),O,J,D,B,some (.d (.int (j:Int)))] =
 if(meB (gat gs i) (gat gs j)&&coB (gat gs i) (ps.getD i 0) (gat gs j) (ps.getD j 0))=false then some (.nx [some (.d (.list (hs.map .int))),some (.d (.list (gs.map wiD))),some (.d (.list (ps.map .int))),some (.d (.int (i:Int))),O,J,D,B,some (.d (.int (j:Int)))])else some (.rt (.bool false)):=by
 have Z:=nD wiD (l:=gs) (0,0,0) (i:=(i:Int)) (by omega) (by omega);have e2:=nD wiD (l:=gs) (0,0,0) (i:=(j:Int)) (by omega) (by omega);have X:=nD eT (l:=ps) 0 (i:=(i:Int)) (by omega) (by omega);have Y:=nD eT (l:=ps) 0 (i:=(j:Int)) (by omega) (by omega);rw[fL]at Z e2 X Y;have Z:pAt (gs.map wiD) (i:Int)=some (wiD (gat gs i)):=Z;have e2:pAt (gs.map wiD) (j:Int)=some (wiD (gat gs j)):=e2;have A:=Nu (gat gs j) (gat gs i) (ps.getD j 0) (ps.getD i 0);rw[wY (Eb h hi) (Eb h (show j<gs.length by omega))]at A
 cases m:meB (gat gs i) (gat gs j)&&coB (gat gs i) (ps.getD i 0) (gat gs j) (ps.getD j 0)with
 |false=>
  rw[m]at A;rw[if_pos rfl];simp only[EV,Z,e2,X,Y,A]
 |true=>
  rw[m]at A;rw[if_neg (by decide)];simp only[EV,Z,e2,X,Y,A]
theorem ZD(h:∀g∈gs,grOk g)(pl:ps.length=gs.length){i:Nat}(hi:i<gs.length)(W O J D B:Option U):(∃Y,beB gs ps i=true/\g_ (gNl 8) (sIf (D3.gU (bG (dCall dD (ao (dOp gIx (aj 1) (aj 8)) (ao (dOp gIx (aj 2) (aj 8)) (ao (dOp gIx (aj 1) (aj 3)) (ao (dOp gIx (aj 2) (aj 3)) (aN)))))))) (dh (dC (.bool false))) (dB)) (gD 0 (i:Int)) [some (.d (.list (hs.map .int))),some (.d (.list (gs.map wiD))),some (.d (.list (ps.map .int))),some (.d (.int (i:Int))),W,O,J,D,B]=some (.nx [some (.d (.list (hs.map .int))),some (.d (.list (gs.map wiD))),some (.d (.list (ps.map .int))),some (.d (.int (i:Int))),W,O,J,D,Y]))\/(beB gs ps i=false/\g_ (gNl 8) (sIf (D3.gU (bG (dCall dD (ao (dOp gIx (aj 1) (aj 8)) (ao (dOp gIx (aj 2) (aj 8)) (ao (dOp gIx (aj 1) (aj 3)) (ao (dOp gIx (aj 2) (aj 3)) (aN)))))))) (dh (dC (.bool false))) (dB)) (gD 0 (i:Int)) [some (.d (.list (hs.map .int))),some (.d (.list (gs.map wiD))),some (.d (.list (ps.map .int))),some (.d (.int (i:Int))),W,O,J,D,B]=some (.rt (.bool false))):=by
 have T:(gD 0 (i:Int)).length=i:=by unfold gD;rw[aq,bV];omega
 rcases v8 (λj=>meB (gat gs i) (gat gs j)&&coB (gat gs i) (ps.getD i 0) (gat gs j) (ps.getD j 0)) i with⟨m,hm,X,hn⟩|hn
 ·right
  constructor
  ·cases q:beB gs ps i with
   |false=>rfl
   |true=>
    have:=cQ.mp q m (bf.mpr hm);rw[X]at this
    cases this
  ·exact zW (λ_ δ=>∃B:Option U,δ=[some (.d (.list (hs.map .int))),some (.d (.list (gs.map wiD))),some (.d (.list (ps.map .int))),some (.d (.int (i:Int))),W,O,J,D,B]) m (gD 0 (i:Int)) _ ⟨B,rfl⟩ (by rwa[T])
    (by
     rintro j d δ Z hd ⟨B,rfl⟩;obtain⟨V,rfl⟩:=mq hd;refine⟨_,_,rfl,?_,some (.d (.int (j:Int))),rfl⟩;refine(Ec h pl hi (by omega) W O J D).trans ?_;rw[if_pos (hn j Z)])
    (by
     rintro d δ hd ⟨B,rfl⟩;obtain⟨V,rfl⟩:=mq hd;refine⟨_,rfl,?_⟩;refine(Ec h pl hi hm W O J D).trans ?_;rw[if_neg (by simpa using X)])
 ·left
  obtain⟨δ',e,Y,rfl⟩:=tX (g:=gNl 8) (b:=(sIf (D3.gU (bG (dCall dD (ao (dOp gIx (aj 1) (aj 8)) (ao (dOp gIx (aj 2) (aj 8)) (ao (dOp gIx (aj 1) (aj 3)) (ao (dOp gIx (aj 2) (aj 3)) (aN)))))))) (dh (dC (.bool false))) (dB))) (λ_ δ=>∃B:Option U,δ=[some (.d (.list (hs.map .int))),some (.d (.list (gs.map wiD))),some (.d (.list (ps.map .int))),some (.d (.int (i:Int))),W,O,J,D,B]) (gD 0 (i:Int)) _ ⟨B,rfl⟩
   (by
    rintro j d δ hd ⟨B,rfl⟩;obtain⟨V,rfl⟩:=mq hd;refine⟨_,_,rfl,.inl ?_,some (.d (.int (j:Int))),rfl⟩;refine(Ec h pl hi (by omega) W O J D).trans ?_;rw[if_pos (hn j (by omega))])
  refine⟨Y,?_,e⟩;unfold beB;rw[cQ];intro j Z;have:=hn j (bf.mp Z);rw[this];rfl
theorem Jt:laB hs gs ps=true<->ps.length=gs.length/\(∀i,i<gs.length->roB hs (gat gs i) (ps.getD i 0)=true)/\∀i,i<gs.length->beB gs ps i=true:=by
 unfold laB ah9;rw[aV,decide_eq_true_eq,cQ]
 constructor
 ·rintro⟨h1,h2⟩;refine⟨h1,λi hi=>?_,λi hi=>?_⟩
  ·exact(nj.mp (h2 i (bf.mpr hi))).1
  ·exact(nj.mp (h2 i (bf.mpr hi))).2
 ·rintro⟨h1,h2,Z⟩;exact⟨h1,λi hi=>nj.mpr ⟨h2 i (bf.mp hi),Z i (bf.mp hi)⟩⟩
theorem Ab(h:¬(ps.length=gs.length/\(∀i,i<gs.length->roB hs (gat gs i) (ps.getD i 0)=true)/\∀i,i<gs.length->beB gs ps i=true)):laB hs gs ps=false:=by
 cases q:laB hs gs ps with
 |false=>rfl
 |true=>exact absurd (Jt.mp q) h
theorem R7(h:∀g∈gs,grOk g)(B:gs.length<=1000):Com.jU [.list (hs.map .int),.list (gs.map wiD),.list (ps.map .int)]=some (.bool (laB hs gs ps)):=by
 have I:D3.isT "list" (tyD (.list (ps.map .int)))=true:=rfl;have H:uw (some [.int (gs.length:Int)])=some (gD 0 (gs.length:Int)):=G6 (by omega) (by omega);have F:(gD 0 (gs.length:Int)).length=gs.length:=by unfold gD;rw[aq,bV];omega
 unfold Com.jU;by_cases pl:ps.length=gs.length
 case neg=>
  rw[Ab (λz=>pl z.1)];have ne:gNe (.int (ps.length:Int)) (.int (gs.length:Int))=some (.bool true):=by
   show some (ge (!PyData.eqv (.int (ps.length:Int)) (.int (gs.length:Int))))=_;simp[gi];omega
  simp only[EV,aD,I,lMp,ne]
 have ne:gNe (.int (ps.length:Int)) (.int (gs.length:Int))=some (.bool false):=by
  rw[pl];show some (ge (!PyData.eqv (.int (gs.length:Int)) (.int (gs.length:Int))))=_;simp[gi]
 rcases v8 (λi=>!roB hs (gat gs i) (ps.getD i 0)) gs.length with⟨m,hm,P,hn⟩|hn
 ·rw[Ab (λz=>by have:=z.2.1 m hm;rw[this]at P;cases P)];have e:=zW (g:=(gNl 3)) (b:=(bU (bO 4 (dOp gIx (aj 2) (aj 3))) (bU (Fx (dOp gIx (aj 1) (aj 3)) (gTn 3 (cg (gNl 5) (cg (gNl 6) (cg (gNl 7) (iT)))))) (bU (sIf (D3.tOr (D3.gU (bG (dCall cN (ao (aj 4) (aN))))) (D3.gU (bG (k_ gLe gLe (dC (.int 0)) (aj 4) (dOp vg (dCall jd (ao (aj 0) (aN))) (aj 7)))))) (dh (dC (.bool false))) (dB)) (sIf (bG (dOp gGt (dCall yU (ao (dSl (aj 0) (fG (aj 4)) (fG (dOp eY (aj 4) (aj 7)))) (aN))) (aj 5))) (dh (dC (.bool false))) (dB)))))) (λ_ δ=>∃T V W X Y,δ=[some (.d (.list (hs.map .int))),some (.d (.list (gs.map wiD))),some (.d (.list (ps.map .int))),T,V,W,X,Y,none]) (v:=.bool false) m (gD 0 (gs.length:Int)) [some (.d (.list (hs.map .int))),some (.d (.list (gs.map wiD))),some (.d (.list (ps.map .int))),none,none,none,none,none,none] ⟨none,none,none,none,none,rfl⟩ (by rwa[F])
   (by
    rintro j d δ N hd ⟨T,V,W,X,Y,rfl⟩;obtain⟨O,rfl⟩:=mq hd;obtain⟨J,K,L,M,Z⟩:=Aa (hs:=hs) h pl (show j<gs.length by omega) V W X Y none;rw[if_pos (by simpa using hn j N)]at Z;exact⟨_,_,rfl,Z,some (.d (.int (j:Int))),J,K,L,M,rfl⟩)
   (by
    rintro d δ hd ⟨T,V,W,X,Y,rfl⟩;obtain⟨O,rfl⟩:=mq hd;obtain⟨J,K,L,M,Z⟩:=Aa (hs:=hs) h pl hm V W X Y none;rw[if_neg (by simpa using P)]at Z;exact⟨_,rfl,Z⟩)
  simp only[EV,aD,I,lMp,ne,H,e]
 ·obtain⟨δ',e,T,V,W,X,Y,rfl⟩:=tX (g:=(gNl 3)) (b:=(bU (bO 4 (dOp gIx (aj 2) (aj 3))) (bU (Fx (dOp gIx (aj 1) (aj 3)) (gTn 3 (cg (gNl 5) (cg (gNl 6) (cg (gNl 7) (iT)))))) (bU (sIf (D3.tOr (D3.gU (bG (dCall cN (ao (aj 4) (aN))))) (D3.gU (bG (k_ gLe gLe (dC (.int 0)) (aj 4) (dOp vg (dCall jd (ao (aj 0) (aN))) (aj 7)))))) (dh (dC (.bool false))) (dB)) (sIf (bG (dOp gGt (dCall yU (ao (dSl (aj 0) (fG (aj 4)) (fG (dOp eY (aj 4) (aj 7)))) (aN))) (aj 5))) (dh (dC (.bool false))) (dB)))))) (λ_ δ=>∃T V W X Y,δ=[some (.d (.list (hs.map .int))),some (.d (.list (gs.map wiD))),some (.d (.list (ps.map .int))),T,V,W,X,Y,none]) (gD 0 (gs.length:Int)) [some (.d (.list (hs.map .int))),some (.d (.list (gs.map wiD))),some (.d (.list (ps.map .int))),none,none,none,none,none,none] ⟨none,none,none,none,none,rfl⟩
   (by
    rintro j d δ hd ⟨T,V,W,X,Y,rfl⟩;obtain⟨O,rfl⟩:=mq hd;obtain⟨J,K,L,M,Z⟩:=Aa (hs:=hs) h pl (show j<gs.length by omega) V W X Y none;rw[if_pos (by simpa using hn j (by omega))]at Z;exact⟨_,_,rfl,.inl Z,some (.d (.int (j:Int))),J,K,L,M,rfl⟩)
  have G:∀(j:Nat)(S:Option U),j<gs.length->(∃R,beB gs ps j=true/\((kJ (mG (ao (aj 3) (aN))) (gNl 8) (sIf (D3.gU (bG (dCall dD (ao (dOp gIx (aj 1) (aj 8)) (ao (dOp gIx (aj 2) (aj 8)) (ao (dOp gIx (aj 1) (aj 3)) (ao (dOp gIx (aj 2) (aj 3)) (aN)))))))) (dh (dC (.bool false))) (dB)))) [some (.d (.list (hs.map .int))),some (.d (.list (gs.map wiD))),some (.d (.list (ps.map .int))),some (.d (.int (j:Int))),V,W,X,Y,S]=some (.nx [some (.d (.list (hs.map .int))),some (.d (.list (gs.map wiD))),some (.d (.list (ps.map .int))),some (.d (.int (j:Int))),V,W,X,Y,R]))\/(beB gs ps j=false/\((kJ (mG (ao (aj 3) (aN))) (gNl 8) (sIf (D3.gU (bG (dCall dD (ao (dOp gIx (aj 1) (aj 8)) (ao (dOp gIx (aj 2) (aj 8)) (ao (dOp gIx (aj 1) (aj 3)) (ao (dOp gIx (aj 2) (aj 3)) (aN)))))))) (dh (dC (.bool false))) (dB)))) [some (.d (.list (hs.map .int))),some (.d (.list (gs.map wiD))),some (.d (.list (ps.map .int))),some (.d (.int (j:Int))),V,W,X,Y,S]=some (.rt (.bool false))):=λj S N=>by
   have E:uw (some [.int (j:Int)])=some (gD 0 (j:Int)):=G6 (by omega) (by omega);rcases ZD (hs:=hs) h pl N V W X Y S with⟨R,b,Z⟩|⟨b,Z⟩
   ·refine .inl ⟨R,b,?_⟩;simp only[EV,E,Z]
   ·refine .inr ⟨b,?_⟩;simp only[EV,E,Z]
  rcases v8 (λi=>!beB gs ps i) gs.length with⟨m,hm,P,Q⟩|Q
  ·rw[Ab (λz=>by have:=z.2.2 m hm;rw[this]at P;cases P)];have e2:=zW (g:=(gNl 3)) (b:=(kJ (mG (ao (aj 3) (aN))) (gNl 8) (sIf (D3.gU (bG (dCall dD (ao (dOp gIx (aj 1) (aj 8)) (ao (dOp gIx (aj 2) (aj 8)) (ao (dOp gIx (aj 1) (aj 3)) (ao (dOp gIx (aj 2) (aj 3)) (aN)))))))) (dh (dC (.bool false))) (dB)))) (λ_ δ=>∃T S,δ=[some (.d (.list (hs.map .int))),some (.d (.list (gs.map wiD))),some (.d (.list (ps.map .int))),T,V,W,X,Y,S]) (v:=.bool false) m (gD 0 (gs.length:Int)) [some (.d (.list (hs.map .int))),some (.d (.list (gs.map wiD))),some (.d (.list (ps.map .int))),T,V,W,X,Y,none] ⟨T,none,rfl⟩ (by rwa[F])
    (by
     rintro j d δ N hd ⟨T,S,rfl⟩;obtain⟨O,rfl⟩:=mq hd;rcases G j S (by omega)with⟨R,b,Z⟩|⟨b,Z⟩
     ·exact⟨_,_,rfl,Z,some (.d (.int (j:Int))),R,rfl⟩
     ·have:=Q j N;rw[b]at this;cases this)
    (by
     rintro d δ hd ⟨T,S,rfl⟩;obtain⟨O,rfl⟩:=mq hd;rcases G m S hm with⟨R,b,Z⟩|⟨b,Z⟩
     ·rw[b]at P;cases P
     ·exact⟨_,rfl,Z⟩)
   simp only[EV,aD,I,lMp,ne,H,e,e2]
  ·rw[Jt.mpr ⟨pl,λi hi=>by simpa using hn i hi,λi hi=>by simpa using Q i hi⟩];obtain⟨D,e2,C,R,rfl⟩:=tX (g:=(gNl 3)) (b:=(kJ (mG (ao (aj 3) (aN))) (gNl 8) (sIf (D3.gU (bG (dCall dD (ao (dOp gIx (aj 1) (aj 8)) (ao (dOp gIx (aj 2) (aj 8)) (ao (dOp gIx (aj 1) (aj 3)) (ao (dOp gIx (aj 2) (aj 3)) (aN)))))))) (dh (dC (.bool false))) (dB)))) (λ_ δ=>∃T S,δ=[some (.d (.list (hs.map .int))),some (.d (.list (gs.map wiD))),some (.d (.list (ps.map .int))),T,V,W,X,Y,S]) (gD 0 (gs.length:Int)) [some (.d (.list (hs.map .int))),some (.d (.list (gs.map wiD))),some (.d (.list (ps.map .int))),T,V,W,X,Y,none] ⟨T,none,rfl⟩
    (by
     rintro j d δ hd ⟨T,S,rfl⟩;obtain⟨O,rfl⟩:=mq hd;rcases G j S (by omega)with⟨R,b,Z⟩|⟨b,Z⟩
     ·exact⟨_,_,rfl,.inl Z,some (.d (.int (j:Int))),R,rfl⟩
     ·have:=Q j (by omega);rw[b]at this;cases this)
   simp only[EV,aD,I,lMp,ne,H,e,e2]
end
def gp(g:Wi):Sd.Gp:=(g.1,g.2.1,g.2.2.toNat)
theorem G8{l:List Int}(h:l≠[]):uq [.tuple (l.map .int)]=some (.int (mx l)):=by
 cases l with
 |nil=>exact absurd rfl h
 |cons x r=>
  show(match dF ((x::r).map .int)with|some (i::r)=>some (eT (mxI i r))|_=>none)=_;rw[tW];rfl
def stN(row:List Int)(g:Wi):List Nat:=(aQ ((row.length:Int)-g.2.2+1).toNat).filter λs=>decide (mx (sli row (s:Int) g.2.2)<=g.1)
theorem K8{f:FE}{fl:FO}{lo hi:Option Int}(h:f δ=some (.tuple l))(h1:fl δ=some lo)(h2:fh δ=some hi)(B:flats l=true):yd f fl fh δ=some (.tuple (cuD l lo hi)):=by
 unfold yd;rw[h,aC,h1,aC,h2,aC];dsimp only;rw[if_pos B]
theorem Ju(B:1<=g.2.2)(D:g.2.2<=6)(J:row.length<=1000):jq [rwD row,wiD g]=some (.list ((stN row g).map λs:Nat=>eT (s:Int))):=by
 have V:gIx (wiD g) (.int 0)=some (.int g.1):=rfl;have i2:gIx (wiD g) (.int 2)=some (.int g.2.2):=rfl;have C:=Zy (g:=(gNl 0)) (c:=(bG (dOp gLe (dCall uq (ao (yd (aj 2) (fG (aj 0)) (fG (dOp eY (aj 0) (dOp gIx (aj 1) (dC (.int 2)))))) (aN))) (dOp gIx (aj 1) (dC (.int 0)))))) (e:=(ji (aj 0))) (δ:=[none,some (.d (wiD g)),some (.d (rwD row))]) (λs:Nat=>eT (s:Int)) (λs=>decide (mx (sli row (s:Int) g.2.2)<=g.1)) (λs:Nat=>eT (s:Int)) (aQ ((row.length:Int)-g.2.2+1).toNat) (λs hs=>by
  have hs:=bf.mp hs;have Y:(s:Int)<=(row.length:Int)-g.2.2:=by omega
  refine⟨[some (.d (.int (s:Int))),some (.d (wiD g)),some (.d (rwD row))],rfl,?_,λ_=>rfl⟩;have sl:yd (aj 2) (fG (aj 0)) (fG (dOp eY (aj 0) (dOp gIx (aj 1) (dC (.int 2))))) [some (.d (.int (s:Int))),some (.d (wiD g)),some (.d (rwD row))]=some (.tuple ((sli row (s:Int) g.2.2).map .int)):=by
   rw[K8 (l:=row.map .int) (lo:=some (s:Int)) (hi:=some ((s:Int)+g.2.2)) rfl rfl rfl (lB _),yF (by omega) Y B]
  simp only[EV,sl,G8 (z_ (by omega) Y B),V])
 have T:∀a b c:Option U,j_ 1 [1,0] [a,b,c]=[none,b,a]:=λ_ _ _=>rfl
 have Z:∀k:Int,-(2^62)<=k->k<2^62->uw (some [.int k])=some ((aQ k.toNat).map λs:Nat=>eT (s:Int)):=λk h1 h2=>by
  rw[G6 h1 h2];unfold gD;rw[qx];congr 1;exact eO λs _=>by rw[jW]
 have X:jd [rwD row]=some (.int (row.length:Int)):=by
  show some (eT ((row.map eT).length:Int))=_;rw[aq]
 have Z:=Z ((row.length:Int)-g.2.2+1) (by omega) (by omega);have W:((aQ ((row.length:Int)-g.2.2+1).toNat).map λs:Nat=>eT (s:Int)).length<=100000:=by
  rw[aq,bV];omega
 unfold jq;simp only[EV,aD,bC,X,i2,T,Z,C,W];rfl
def nbI(g:Wi)(e:Int)(b:Bool):Int:=if b=true then g.2.1 else if e<=g.1 then 0 else e
theorem Cj(g:Wi)(e:Int)(b:Bool):fQ [.int e,wiD g,.bool b]=some (.int (nbI g e b)):=by
 have Z:gIx (wiD g) (.int 0)=some (.int g.1):=rfl;have i1:gIx (wiD g) (.int 1)=some (.int g.2.1):=rfl;show Com.fQ _=_;unfold Com.fQ nbI
 cases b with
 |true=>
  simp only[EV,aD,i1]
 |false=>
  by_cases c:e<=g.1
  ·simp only[EV,aD,Z,dTr c];rw[if_neg (by decide),if_pos c]
  ·simp only[EV,aD,Z,dFa c];rw[if_neg (by decide),if_neg c]
theorem Jw{s:Nat}(J:1<=g.2.2)(B:g.2.2<=6)(D:row.length<=1000):gj [rwD row,wiD g,.int (s:Int)]=some (rwD (Sd.put row (gp g) s)):=by
 have i2:gIx (wiD g) (.int 2)=some (.int g.2.2):=rfl;have V:=Nr row;have fe:Jd (aj 0) [some (.d (rwD row)),some (.d (wiD g)),some (.d (.int (s:Int))),some (.d (.int ((s:Int)+g.2.2)))]=some ((aQ row.length).map λk:Nat=>e_ [.int (k:Int),.int (row.getD k 0)]):=by
  rw[<-V];rfl
 have C:=wV (g:=(gTn 2 (cg (gNl 0) (cg (gNl 1) (iT))))) (c:=(D3.j9)) (e:=(dCall fQ (ao (aj 1) (ao (aj 2) (ao (k_ gLe gLt (aj 3) (aj 0) (aj 4)) (aN)))))) (δ:=[none,none,some (.d (wiD g)),some (.d (.int (s:Int))),some (.d (.int ((s:Int)+g.2.2)))]) (λk:Nat=>e_ [.int (k:Int),.int (row.getD k 0)]) (λk:Nat=>eT (Sd.cell (gp g) s k (row.getD k 0))) (aQ row.length) (λk S=>by
  refine⟨[some (.d (.int (k:Int))),some (.d (.int (row.getD k 0))),some (.d (wiD g)),some (.d (.int (s:Int))),some (.d (.int ((s:Int)+g.2.2)))],rfl,rfl,?_⟩;have cl:∀b:Bool,(b=true<->s<=k/\k<s+g.2.2.toNat)->nbI g (row.getD k 0) b=Sd.cell (gp g) s k (row.getD k 0):=λb Z=>by
   unfold nbI Sd.cell gp;by_cases c:s<=k/\k<s+g.2.2.toNat
   ·rw[if_pos (Z.mpr c),if_pos c]
   ·rw[if_neg (λz=>c (Z.mp z)),if_neg c]
  by_cases Y:(s:Int)<=(k:Int)
  ·rw[<-cl (decide ((k:Int)<(s:Int)+g.2.2)) (by rw[decide_eq_true_iff];omega)];simp only[EV,dTr Y,Cj]
  ·rw[<-cl false (by constructor<;>intro z;cases z;omega)];simp only[EV,dFa Y,Cj])
 have T:∀a b c d:Option U,j_ 2 [1,2,3] [a,b,c,d]=[none,none,b,c,d]:=λ_ _ _ _=>rfl
 have X:Sd.put row (gp g) s=(aQ row.length).map λk=>Sd.cell (gp g) s k (row.getD k 0):=by
  unfold Sd.put;apply List.ext_getElem
  ·simp
  ·intro k h1 h2;have h1:k<row.length:=by simpa using h1
   rw[List.getElem_mapIdx,i_,uE,aG,aA h1];rfl
 have W:((aQ row.length).map λk:Nat=>e_ [.int (k:Int),.int (row.getD k 0)]).length<=100000:=by
  rw[aq,bV];omega
 unfold gj;simp only[EV,aD,bC,i2,fe,T,C,W,zA];rw[X];unfold rwD;rw[cZ];rfl
def Ba(g:Wi)(row:List Int)(S:List Tte)(ss:List Nat):List Tte:=ss.foldl (λS s=>rW S (Sd.put row (gp g) s) (row,(s:Int))) S
def eV(g:Wi)(rows:List (List Int))(S:List Tte):List Tte:=rows.foldl (λS row=>Ba g row S (stN row g)) S
theorem G9(S:List Tte)(k:List Int)(v:List Int×Int):(rW S k v).length<=S.length+1:=by
 unfold rW;split<;>simp
theorem G_(g:Wi)(row:List Int):∀(ss:List Nat)(S:List Tte),(Ba g row S ss).length<=S.length+ss.length
 |[],S=>aB _
 |s::ss,S=>by
  have h1:=G_ g row ss (rW S (Sd.put row (gp g) s) (row,(s:Int)));have h2:=G9 S (Sd.put row (gp g) s) (row,(s:Int));show(Ba g row (rW S (Sd.put row (gp g) s) (row,(s:Int))) ss).length<=_;rw[aR];omega
theorem K9(row:List Int)(g:Wi)(B:1<=g.2.2):(stN row g).length<=row.length:=by
 refine aW (rQ _ _) ?_;rw[bV];omega
theorem lC{g:FG}{b:FS}{r:List D}{B:DS}(h1:g d δ=some B)(h2:b B=some (.nx δ')):g_ g b (d::r) δ=g_ g b r δ':=by
 rw[g_,h1,aC,h2];rfl
theorem yG(k:List Int):zJ (rwD k)=some k:=oh k
theorem V9(v:List Int×Int):Mx (ttV v)=some v:=by
 show(dF (v.1.map eT)).map (·,v.2)=_;rw[oh];rfl
theorem V_{fv:FE}{k:List Int}{v:List Int×Int}(D:aj i δ=some (dtt S))(h1:fk δ=some (rwD k))(h2:fv δ=some (ttV v))(B:S.length<1000000):sU i fk fv δ=some (.nx (δ.set i (some (.d (dtt (rW S k v)))))):=by
 unfold sU;rw[D,aC,h1,aC,h2,aC,Gg,aC,yG,aC,V9,aC,if_pos B]
theorem Ac(O:1<=g.2.2)(B:g.2.2<=6)(J:row.length<=1000)(a:Option U):∀(ss:List Nat)(S:List Tte)(u:Option U),S.length+ss.length<1000000 ->
 ∃D,g_ (gNl 4) (sU 2 (dCall gj (ao (aj 3) (ao (aj 1) (ao (aj 4) (aN))))) (dTup (ao (aj 3) (ao (aj 4) (aN))))) (ss.map λs:Nat=>eT (s:Int)) [a,some (.d (wiD g)),some (.d (dtt S)),some (.d (rwD row)),u]=some (.nx [a,some (.d (wiD g)),some (.d (dtt (Ba g row S ss))),some (.d (rwD row)),D])
 |[],S,u,_=>⟨u,rfl⟩
 |s::ss,S,u,Z=>by
  rw[aR]at Z;have b:=Jw (row:=row) (g:=g) (s:=s) O B J;have h1:(dCall gj (ao (aj 3) (ao (aj 1) (ao (aj 4) (aN))))) [a,some (.d (wiD g)),some (.d (dtt S)),some (.d (rwD row)),some (.d (.int (s:Int)))]=some (rwD (Sd.put row (gp g) s)):=by
   simp only[EV,b]
  have h2:(dTup (ao (aj 3) (ao (aj 4) (aN)))) [a,some (.d (wiD g)),some (.d (dtt S)),some (.d (rwD row)),some (.d (.int (s:Int)))]=some (ttV (row,(s:Int))):=by
   simp only[EV,aD,Com.sz (show 2<=1000000 by decide)];rfl
  have st:=V_ (i:=2) (S:=S) rfl h1 h2 (by omega);have dl:=G9 S (Sd.put row (gp g) s) (row,(s:Int));obtain⟨D,e⟩:=Ac O B J a ss (rW S (Sd.put row (gp g) s) (row,(s:Int))) (some (.d (.int (s:Int)))) (by omega);exact⟨D,(lC rfl st).trans e⟩
theorem Ad(J:1<=g.2.2)(B:g.2.2<=6)(a:Option U):∀(rows:List (List Int))(S:List Tte)(u v:Option U),(∀r∈rows,r.length<=100)->S.length+100*rows.length<1000000 ->
 ∃D O,g_ (gNl 3) (kJ (uO (dCall jq (ao (aj 3) (ao (aj 1) (aN))))) (gNl 4) (sU 2 (dCall gj (ao (aj 3) (ao (aj 1) (ao (aj 4) (aN))))) (dTup (ao (aj 3) (ao (aj 4) (aN)))))) (rows.map rwD) [a,some (.d (wiD g)),some (.d (dtt S)),u,v]=some (.nx [a,some (.d (wiD g)),some (.d (dtt (eV g rows S))),D,O])
 |[],S,u,v,_,_=>⟨u,v,rfl⟩
 |row::rows,S,u,v,Z,W=>by
  rw[aR]at W;have T:=Z row ak;have st:=Ju (row:=row) (g:=g) J B (by omega);have sl:=K9 row g J;obtain⟨D,e⟩:=Ac (g:=g) (row:=row) J B (by omega) a (stN row g) S v (by omega);have R:=G_ g row (stN row g) S;have V:(kJ (uO (dCall jq (ao (aj 3) (ao (aj 1) (aN))))) (gNl 4) (sU 2 (dCall gj (ao (aj 3) (ao (aj 1) (ao (aj 4) (aN))))) (dTup (ao (aj 3) (ao (aj 4) (aN)))))) [a,some (.d (wiD g)),some (.d (dtt S)),some (.d (rwD row)),v]=some (.nx [a,some (.d (wiD g)),some (.d (dtt (Ba g row S (stN row g)))),some (.d (rwD row)),D]):=by
   simp only[EV,st];exact e
  obtain⟨X,Y,e2⟩:=Ad J B a rows (Ba g row S (stN row g)) (some (.d (rwD row))) D (λr h=>Z r (au _ h)) (by omega);exact⟨X,Y,(lC rfl V).trans e2⟩
theorem Hf(J:1<=g.2.2)(B:g.2.2<=6)(D:∀r∈rows,r.length<=100)(O:rows.length<=1000):cI [.list (rows.map rwD),wiD g]=some (dtt (eV g rows [])):=by
 obtain⟨u,v,e⟩:=Ad (g:=g) J B (some (.d (.list (rows.map rwD)))) rows [] none none D (by simp;omega);have e:g_ (gNl 3) (kJ (uO (dCall jq (ao (aj 3) (ao (aj 1) (aN))))) (gNl 4) (sU 2 (dCall gj (ao (aj 3) (ao (aj 1) (ao (aj 4) (aN))))) (dTup (ao (aj 3) (ao (aj 4) (aN)))))) (rows.map rwD) [some (.d (.list (rows.map rwD))),some (.d (wiD g)),some (.d (.dict [])),none,none]=some (.nx [some (.d (.list (rows.map rwD))),some (.d (wiD g)),some (.d (dtt (eV g rows []))),u,v]):=e;unfold cI;simp only[EV,aD,bC,];rw[e];simp only[EV,]
noncomputable def bM(S:List Tte):List (List Int):=S.map (·.1)
def lv:List (List Int)->List Wi->List (List Tte)
 |_,[]=>[]
 |rows,g::gs=>eV g rows []::if eV g rows []=[]then []else lv (XJ.dR (bM (eV g rows []))) gs
theorem nQ(rows:List (List Int)):lv rows []=[]:=by unfold lv;rfl
theorem kO(rows:List (List Int))(g:Wi)(gs:List Wi):lv rows (g::gs)=eV g rows []::if eV g rows []=[]then []else lv (XJ.dR (bM (eV g rows []))) gs:=by conv=>lhs;unfold lv
def Few(L:List (List Tte)):Prop:=∀S∈L,S.length<=400/\∀k∈bM S,k≠[]/\k.length<=100
theorem Ae(S:List Tte):oR (dtt S)=some (bM S):=by
 show(match yc (ttP S)with|some Z=>some (kE (λq:Tte=>q.1) Z)|none=>tsD (ttP S))=_;rw[Dk];rfl
theorem Ed(S:List Tte):XJ.mJ [dtt S]=some (.int (S.length:Int)):=by
 show(oR (dtt S)).map (λks=>eT (ks.length:Int))=_;rw[Ae];show some (eT ((bM S).length:Int))=_;unfold bM;rw[aq]
theorem Af(h:S.length<=400)(B:∀k∈bM S,k≠[]):XJ.jh [dtt S]=some (.list ((XJ.dR (bM S)).map rwD)):=by
 show(oR (dtt S)).bind _=_;rw[Ae,aC,if_pos];refine⟨by unfold bM;rw[aq];omega,cQ.mpr λk Z=>?_⟩;have:=B k Z
 cases k with
 |nil=>exact absurd rfl this
 |cons _ _=>rfl
theorem cU(ks:List (List Int)):(XJ.dR ks).Perm ks:=XJ.cU ks
theorem Ag(h:i<gs.length):pAt (gs.map wiD) (i:Int)=some (wiD (gat gs i)):=by
 rw[nD wiD (0,0,0) (by omega) (by omega)];rfl
def gOk(g:Wi):Prop:=1<=g.2.2/\g.2.2<=6
theorem Hg(J:∀g∈gs,gOk g)(a:Option U):∀(ts:List Nat)(rows:List (List Int))(acc:List (List Tte))(u v:Option U),(∀t∈ts,t<gs.length)->rows.length<=1000->(∀r∈rows,r.length<=100)->acc.length+ts.length<=1000->Few (lv rows (ts.map (gat gs))) ->
 (∃r' D B,g_ (gNl 4) (bU (bO 5 (dCall cI (ao (aj 3) (ao (dOp gIx (aj 1) (aj 4)) (aN))))) (bU (rT 2 (aj 5)) (bU (sIf (bG (dOp gGt (dCall XJ.mJ (ao (aj 5) (aN))) (dC (.int 400)))) ((λ_=>none)) (dB)) (bU (sIf (bG (dOp gEq (dCall XJ.mJ (ao (aj 5) (aN))) (dC (.int 0)))) (sO (aj 2)) (dB)) (bO 3 (dCall XJ.jh (ao (aj 5) (aN)))))))) (ts.map λt:Nat=>eT (t:Int)) [a,some (.d (.list (gs.map wiD))),some (.d (.list (acc.map dtt))),some (.d (.list (rows.map rwD))),u,v]=some (.nx [a,some (.d (.list (gs.map wiD))),some (.d (.list ((acc++lv rows (ts.map (gat gs))).map dtt))),r',D,B])) \/
 g_ (gNl 4) (bU (bO 5 (dCall cI (ao (aj 3) (ao (dOp gIx (aj 1) (aj 4)) (aN))))) (bU (rT 2 (aj 5)) (bU (sIf (bG (dOp gGt (dCall XJ.mJ (ao (aj 5) (aN))) (dC (.int 400)))) ((λ_=>none)) (dB)) (bU (sIf (bG (dOp gEq (dCall XJ.mJ (ao (aj 5) (aN))) (dC (.int 0)))) (sO (aj 2)) (dB)) (bO 3 (dCall XJ.jh (ao (aj 5) (aN)))))))) (ts.map λt:Nat=>eT (t:Int)) [a,some (.d (.list (gs.map wiD))),some (.d (.list (acc.map dtt))),some (.d (.list (rows.map rwD))),u,v]=some (.ex "" "" (.list ((acc++lv rows (ts.map (gat gs))).map dtt)))
 |[],rows,acc,u,v,_,_,_,_,_=>.inl ⟨_,_,_,by simp only[iB,nQ,cA];exact rfl⟩
 |t::ts,rows,acc,u,v,Q,M,T,ha,Y=>by
  rw[aR]at ha;have tl:=Q t ak;have P:gOk (gat gs t):=by
   unfold gat;rw[aG,aA tl];exact J _ (cV tl)
  have V:=Hf (g:=gat gs t) (rows:=rows) P.1 P.2 T M;rw[show(t::ts).map (gat gs)=gat gs t::ts.map (gat gs)from rfl,kO]at Y ⊢;generalize I:eV (gat gs t) rows []=S at V Y ⊢;obtain⟨f1,f2⟩:=Y S ak;have W:=Af f1 λk L=>(f2 k L).1
  have tn:=Ed S;have al:(acc.map dtt).length<1000000:=by rw[aq];omega
  have O:decide ((S.length:Int)>400)=false:=dFa (by omega);have ga:=Ag tl;by_cases c:S=[]
  ·subst c;refine .inr ?_;rw[if_pos rfl,aF];have R:decide ((([]:List Tte).length:Int)=0)=true:=rfl;have X:(bU (bO 5 (dCall cI (ao (aj 3) (ao (dOp gIx (aj 1) (aj 4)) (aN))))) (bU (rT 2 (aj 5)) (bU (sIf (bG (dOp gGt (dCall XJ.mJ (ao (aj 5) (aN))) (dC (.int 400)))) ((λ_=>none)) (dB)) (bU (sIf (bG (dOp gEq (dCall XJ.mJ (ao (aj 5) (aN))) (dC (.int 0)))) (sO (aj 2)) (dB)) (bO 3 (dCall XJ.jh (ao (aj 5) (aN)))))))) [a,some (.d (.list (gs.map wiD))),some (.d (.list (acc.map dtt))),some (.d (.list (rows.map rwD))),some (.d (.int (t:Int))),v]=some (.ex "" "" (.list ((acc++[[]]).map dtt))):=by
    simp only[EV,aD,bC,qH,ga,V,al,tn,];rw[cW];rfl
   rw[g_,show(gNl 4) (.int (t:Int)) [a,some (.d (.list (gs.map wiD))),some (.d (.list (acc.map dtt))),some (.d (.list (rows.map rwD))),u,v]=some [a,some (.d (.list (gs.map wiD))),some (.d (.list (acc.map dtt))),some (.d (.list (rows.map rwD))),some (.d (.int (t:Int))),v]from rfl,aC,X];rfl
  ·rw[if_neg c]at Y ⊢;have R:decide ((S.length:Int)=0)=false:=dFa (by
    have:S.length≠0:=λz=>c (bL.mp z)
    omega)
   have pm:=cU (bM S);have X:(bU (bO 5 (dCall cI (ao (aj 3) (ao (dOp gIx (aj 1) (aj 4)) (aN))))) (bU (rT 2 (aj 5)) (bU (sIf (bG (dOp gGt (dCall XJ.mJ (ao (aj 5) (aN))) (dC (.int 400)))) ((λ_=>none)) (dB)) (bU (sIf (bG (dOp gEq (dCall XJ.mJ (ao (aj 5) (aN))) (dC (.int 0)))) (sO (aj 2)) (dB)) (bO 3 (dCall XJ.jh (ao (aj 5) (aN)))))))) [a,some (.d (.list (gs.map wiD))),some (.d (.list (acc.map dtt))),some (.d (.list (rows.map rwD))),some (.d (.int (t:Int))),v]=some (.nx [a,some (.d (.list (gs.map wiD))),some (.d (.list ((acc++[S]).map dtt))),some (.d (.list ((XJ.dR (bM S)).map rwD))),some (.d (.int (t:Int))),some (.d (dtt S))]):=by
    simp only[EV,aD,bC,ga,V,al,tn,O,R,W];rw[cW];rfl
   have Z:=Hg J a ts (XJ.dR (bM S)) (acc++[S]) (some (.d (.int (t:Int)))) (some (.d (dtt S))) (λq N=>Q q (au _ N)) (by rw[pm.length_eq];unfold bM;rw[aq];omega) (λr T=>(f2 r (pm.mem_iff.mp T)).2) (by rw[bB];simp;omega) (λK h'=>Y K (au _ h'));rw[show acc++[S]++lv (XJ.dR (bM S)) (ts.map (gat gs))=acc++S::lv (XJ.dR (bM S)) (ts.map (gat gs))by simp]at Z;rw[aF];rcases Z with⟨r',D,B,Z⟩|Z
   ·exact .inl ⟨r',D,B,(lC rfl X).trans Z⟩
   ·exact .inr ((lC rfl X).trans Z)
def inT(gs:List Wi)(ts:List Nat):List Wi:=ts.map (gat gs)
theorem all_gen{ts:List Nat}(D:∀g∈gs,gOk g)(W:gs.length<64)(O:hs.length<=100)(B:iY [.list (gs.map wiD)]=some (.list (ts.map λt:Nat=>eT (t:Int))))(pm:ts.Perm (aQ gs.length))(J:Few (lv [hs] (inT gs ts))):
 mC [.list (hs.map .int),.list (gs.map wiD)]=some (.list ((lv [hs] (inT gs ts)).map dtt)):=by
 have tl:ts.length=gs.length:=by rw[pm.length_eq,bV]
 have L:=Hg D (some (.d (.list (hs.map .int)))) ts [hs] [] none none (λt h=>bf.mp (pm.mem_iff.mp h)) (by simp) (λr X=>by rwa[aJ.mp X]) (by simp;omega) J;have L:(∃r' Y Z,g_ (gNl 4) (bU (bO 5 (dCall cI (ao (aj 3) (ao (dOp gIx (aj 1) (aj 4)) (aN))))) (bU (rT 2 (aj 5)) (bU (sIf (bG (dOp gGt (dCall XJ.mJ (ao (aj 5) (aN))) (dC (.int 400)))) ((λ_=>none)) (dB)) (bU (sIf (bG (dOp gEq (dCall XJ.mJ (ao (aj 5) (aN))) (dC (.int 0)))) (sO (aj 2)) (dB)) (bO 3 (dCall XJ.jh (ao (aj 5) (aN)))))))) (ts.map λt:Nat=>eT (t:Int)) [some (.d (.list (hs.map .int))),some (.d (.list (gs.map wiD))),some (.d (.list [])),some (.d (.list [.tuple (hs.map .int)])),none,none]=some (.nx [some (.d (.list (hs.map .int))),some (.d (.list (gs.map wiD))),some (.d (.list ((lv [hs] (inT gs ts)).map dtt))),r',Y,Z])) \/
  g_ (gNl 4) (bU (bO 5 (dCall cI (ao (aj 3) (ao (dOp gIx (aj 1) (aj 4)) (aN))))) (bU (rT 2 (aj 5)) (bU (sIf (bG (dOp gGt (dCall XJ.mJ (ao (aj 5) (aN))) (dC (.int 400)))) ((λ_=>none)) (dB)) (bU (sIf (bG (dOp gEq (dCall XJ.mJ (ao (aj 5) (aN))) (dC (.int 0)))) (sO (aj 2)) (dB)) (bO 3 (dCall XJ.jh (ao (aj 5) (aN)))))))) (ts.map λt:Nat=>eT (t:Int)) [some (.d (.list (hs.map .int))),some (.d (.list (gs.map wiD))),some (.d (.list [])),some (.d (.list [.tuple (hs.map .int)])),none,none]=some (.ex "" "" (.list ((lv [hs] (inT gs ts)).map dtt))):=L
 unfold mC;simp only[EV,aD,bC,ac1,zA,cH,Com.sz (show 1<=1000000 by decide),B];rcases L with⟨r',Y,Z,L⟩|L
 ·rw[L];simp only[EV,P0,Yl,PX]
 ·rw[L];rfl
theorem Ck{k:List Int}:pO S k=none<->k∉bM S:=by
 unfold pO bM;rw[Option.map_eq_none_iff,jr]
 constructor
 ·intro h z;obtain⟨q,Z,e⟩:=bK.mp z;exact h q Z (by simp[e])
 ·intro h q Z z;exact h (bK.mpr ⟨q,Z,of_decide_eq_true z⟩)
theorem yH{k:List Int}{v:List Int×Int}:(k∈bM S/\rW S k v=S)\/(k∉bM S/\rW S k v=S++[(k,v)]):=by
 by_cases h:k∈bM S
 ·refine .inl ⟨h,if_pos ?_⟩
  cases e:pO S k with
  |none=>exact absurd h (Ck.mp e)
  |some _=>rfl
 ·refine .inr ⟨h,if_neg ?_⟩;rw[Ck.mpr h];decide
theorem R8{k:List Int}{v:List Int×Int}{q:Tte}(h:q∈S):q∈rW S k v:=by
 rcases yH (S:=S) (k:=k) (v:=v)with⟨_,e⟩|⟨_,e⟩<;>rw[e]
 ·exact h
 ·exact bN _ h
theorem R9{k:List Int}{v:List Int×Int}{q:Tte}(h:q∈rW S k v):q∈S\/q=(k,v):=by
 rcases yH (S:=S) (k:=k) (v:=v)with⟨_,e⟩|⟨_,e⟩<;>rw[e]at h
 ·exact .inl h
 ·rcases bZ.mp h with h|h
  ·exact .inl h
  ·exact .inr (aJ.mp h)
theorem R_(S:List Tte)(k:List Int)(v:List Int×Int):k∈bM (rW S k v):=by
 rcases yH (S:=S) (k:=k) (v:=v)with⟨h,e⟩|⟨_,e⟩<;>rw[e]
 ·exact h
 ·exact bK.mpr ⟨_,bx _ (iZ _),rfl⟩
theorem Wa{k:List Int}{v:List Int×Int}(h:(bM S).Nodup):(bM (rW S k v)).Nodup:=by
 rcases yH (S:=S) (k:=k) (v:=v)with⟨_,e⟩|⟨Z,e⟩<;>rw[e]
 ·exact h
 ·unfold bM at h Z ⊢;rw[cW,gG];refine⟨h,by simp,λa ha b Y=>?_⟩;rw[show b=k by simpa using Y];intro z;exact Z (z▸ha)
section
variable{g:Wi}
theorem Ah{q:Tte}:∀(ss:List Nat)(S:List Tte),q∈S->q∈Ba g row S ss
 |[],_,h=>h
 |_::ss,_,h=>Ah ss _ (R8 h)
theorem Hh{q:Tte}:∀(ss:List Nat)(S:List Tte),q∈Ba g row S ss->q∈S\/∃s∈ss,q=(Sd.put row (gp g) s,(row,(s:Int)))
 |[],_,h=>.inl h
 |s::ss,S,h=>by
  rcases Hh ss _ h with h|⟨t,Z,e⟩
  ·rcases R9 h with h|h
   ·exact .inl h
   ·exact .inr ⟨s,ak,h⟩
  ·exact .inr ⟨t,au _ Z,e⟩
theorem Hi:∀(ss:List Nat)(S:List Tte),∀s∈ss,Sd.put row (gp g) s∈bM (Ba g row S ss)
 |[],_,s,h=>by cases h
 |t::ss,S,s,h=>by
  rcases aK.mp h with rfl|h
  ·obtain⟨q,Z,e⟩:=bK.mp (R_ S (Sd.put row (gp g) s) (row,(s:Int)));exact bK.mpr ⟨q,Ah ss _ Z,e⟩
  ·exact Hi ss _ s h
theorem K_:∀(ss:List Nat)(S:List Tte),(bM S).Nodup->(bM (Ba g row S ss)).Nodup
 |[],_,h=>h
 |_::ss,_,h=>K_ ss _ (Wa h)
theorem Hj{q:Tte}:∀(rows:List (List Int))(S:List Tte),q∈S->q∈eV g rows S
 |[],_,h=>h
 |_::rows,_,h=>Hj rows _ (Ah _ _ h)
theorem oY{q:Tte}:∀(rows:List (List Int))(S:List Tte),q∈eV g rows S->q∈S\/∃row∈rows,∃s∈stN row g,q=(Sd.put row (gp g) s,(row,(s:Int)))
 |[],_,h=>.inl h
 |row::rows,S,h=>by
  rcases oY rows _ h with h|⟨r,Z,z⟩
  ·rcases Hh _ _ h with h|z
   ·exact .inl h
   ·exact .inr ⟨row,ak,z⟩
  ·exact .inr ⟨r,au _ Z,z⟩
theorem Hl:∀(rows:List (List Int))(S:List Tte),∀row∈rows,∀s∈stN row g,Sd.put row (gp g) s∈bM (eV g rows S)
 |[],_,_,h,_,_=>by cases h
 |r::rows,S,row,h,s,hs=>by
  rcases aK.mp h with rfl|h
  ·obtain⟨q,Z,e⟩:=bK.mp (Hi (stN row g) S s hs);exact bK.mpr ⟨q,Hj rows _ Z,e⟩
  ·exact Hl rows _ row h s hs
theorem yI:∀(rows:List (List Int))(S:List Tte),(bM S).Nodup->(bM (eV g rows S)).Nodup
 |[],_,h=>h
 |_::rows,_,h=>yI rows _ (K_ _ _ h)
theorem ai0{l:List Int}(h:l≠[]){z:Int}:mx l<=z<->∀x∈l,x<=z:=by
 cases l with
 |nil=>exact absurd rfl h
 |cons a r=>
  have sp:=vp r a
  constructor
  ·intro Z x Y;have:=sp.2 x Y;have Z:mxI a r<=z:=Z;omega
  ·exact λZ=>Z _ sp.1
theorem Ef{s:Nat}(B:gOk g):s∈stN row g<->Sd.fits row (gp g) s:=by
 have g1:=B.1;unfold stN Sd.fits gp;dsimp only;rw[dG,bf,decide_eq_true_iff];have sl:∀(c:(s:Int)<=(row.length:Int)-g.2.2),(mx (sli row (s:Int) g.2.2)<=g.1<->∀r,s<=r->r<s+g.2.2.toNat->row.getD r 0<=g.1):=λc=>by
  rw[ai0 (z_ (by omega) c g1)];unfold sli;rw[show((s:Int)).toNat=s by omega]
  constructor
  ·intro h r h1 h2;refine h _ ?_;rw[rR];refine⟨r-s,?_⟩;rw[uF,if_pos (by omega),dW,show s+(r-s)=r by omega,aG,aA (by omega)];rfl
  ·intro h x X;obtain⟨j,Z⟩:=rR.mp X;rw[uF]at Z;by_cases Y:j<g.2.2.toNat
   ·rw[if_pos Y,dW]at Z;have:=h (s+j) (by omega) (by omega);rwa[aG,Z]at this
   ·rw[if_neg Y]at Z;cases Z
 constructor
 ·rintro⟨h1,h2⟩;have c:(s:Int)<=(row.length:Int)-g.2.2:=by omega
  exact⟨by omega,(sl c).mp h2⟩
 ·rintro⟨h1,h2⟩;have c:(s:Int)<=(row.length:Int)-g.2.2:=by omega
  exact⟨by omega,(sl c).mpr h2⟩
end
def bk:List (List Tte)->List Int->Option (List Int×List Nat)
 |[],row=>some (row,[])
 |S::L,row=>match bk L row with
  |some (r,ss)=>match pO S r with
   |some (p,z)=>some (p,z.toNat::ss)
   |none=>none
  |none=>none
theorem Nv{k:List Int}(h:k∈bM S):∃v,pO S k=some v/\(k,v)∈S:=by
 unfold pO
 cases e:S.find? λq=>decide (q.1=k)with
 |none=>
  obtain⟨q,Z,z⟩:=bK.mp h;exact absurd (jr.mp e q Z) (by simp[z])
 |some q=>
  refine⟨q.2,rfl,?_⟩;have h1:=ig e;have h2:=of_decide_eq_true (rJ (p:=λq:Tte=>decide (q.1=k)) e);rwa[<-h2]
def xV:List (List Tte)->List (List Int)->List (List Int)
 |[],rows=>rows
 |[S],_=>bM S
 |_::S::L,rows=>xV (S::L) rows
theorem uV(S:List Tte)(L:List (List Tte))(rows:List (List Int)):xV (S::L) rows=xV L (bM S):=by
 induction L generalizing S rows with
 |nil=>rfl
 |cons T L Z=>
  show xV (T::L) rows=xV (T::L) (bM S);rw[Z,Z]
theorem Sg:∀(gs:List Wi)(rows:List (List Int)),(∀g∈gs,gOk g)->[]∉lv rows gs->∀row∈xV (lv rows gs) rows,∃(B:List Int)(ss:List Nat),bk (lv rows gs) row=some (B,ss)/\B∈rows/\ss.length=gs.length/\Sd.Run B ((gs.map gp).zip ss) row
 |[],rows,_,_,row,h=>⟨row,[],by rw[nQ];rfl,by rw[nQ]at h;exact h,rfl,rfl⟩
 |g::gs,rows,X,hn,row,h=>by
  rw[kO]at hn h ⊢;have c:eV g rows []≠[]:=λz=>hn (by rw[z];exact ak)
  rw[if_neg c]at hn h ⊢;rw[uV]at h;have pm:=cU (bM (eV g rows []));have h':row∈xV (lv (XJ.dR (bM (eV g rows []))) gs) (XJ.dR (bM (eV g rows []))):=by
   cases W:lv (XJ.dR (bM (eV g rows []))) gs with
   |nil=>
    rw[W]at h;exact pm.mem_iff.mpr h
   |cons T L=>
    rw[W,uV]at h;rwa[uV]
  obtain⟨S,ss,e,Z,U,run⟩:=Sg gs _ (λg' h'=>X g' (au _ h')) (λz=>hn (au _ z)) row h';obtain⟨v,e2,V⟩:=Nv (pm.mem_iff.mp Z);rcases oY rows [] V with z|⟨B,Y,s,hs,eq⟩
  ·cases z
  ·injection eq with q1 q2
   subst q2;refine⟨B,s::ss,?_,Y,by rw[aR,aR,U],?_⟩
   ·unfold bk;rw[e];dsimp only;rw[e2];rfl
   ·show Sd.fits B (gp g) s/\Sd.Run (Sd.put B (gp g) s) ((gs.map gp).zip ss) row;rw[<-q1];exact⟨(Ef (X g ak)).mp hs,run⟩
def qw:List D->List Nat->List Nat->List D
 |P,t::ts,s::ss=>(qw P ts ss).set t (.int (s:Int))
 |P,_,_=>P
theorem v9:∀(P:List D)(ts ss:List Nat),(qw P ts ss).length=P.length
 |P,t::ts,s::ss=>by rw[qw,dg,v9]
 |P,[],_=>by unfold qw;rfl
 |P,_::_,[]=>by unfold qw;rfl
def zpr(ts:List Nat)(L:List (List Tte)):List D:=(ts.zip L).map λq=>e_ [.int (q.1:Int),dtt q.2]
theorem Sh{r:List Int}{v:List Int×Int}(h:pO S r=some v):lA (dtt S) (rwD r)=some (ttV v):=by
 unfold lA;rw[Gg,aC,yG,aC,h];rfl
def wZ(S:List Tte):List Int:=(XJ.dR (bM S)).getD 0 []
def Ho:List (List Tte)->List Int
 |[]=>[]
 |[S]=>wZ S
 |_::S::L=>Ho (S::L)
theorem Nx(S T:List Tte)(L:List (List Tte)):Ho (S::T::L)=Ho (T::L):=rfl
theorem Cm{a b:Option U}{n:Nat}:∀(ts:List Nat)(L:List (List Tte))(P:List D)(B:List Int)(ss:List Nat)(u v:Option U)(m:List D),L≠[]->ts.length=L.length->(∀t∈ts,t<P.length)->Few L->(∀S∈L,S≠[]/\∀q∈S,0<=q.2.2)->bk L (Ho L)=some (B,ss) ->
 ∃u' v',g_ (gTn 2 (cg (gNl 4) (cg (gNl 5) (iT)))) (bU (sIf (bG (dUn Fz (aj 3))) (bO 3 (dOp gIx (dCall XJ.jh (ao (aj 5) (aN))) (dC (.int 0)))) (dB)) (bU (Cy 2 (aj 4) (dOp gIx (dOp lA (aj 5) (aj 3)) (dC (.int 1)))) (bO 3 (dOp gIx (dOp lA (aj 5) (aj 3)) (dC (.int 0)))))) ((zpr ts L).reverse++m) [a,b,some (.d (.list P)),some (.d .none),u,v]=g_ (gTn 2 (cg (gNl 4) (cg (gNl 5) (iT)))) (bU (sIf (bG (dUn Fz (aj 3))) (bO 3 (dOp gIx (dCall XJ.jh (ao (aj 5) (aN))) (dC (.int 0)))) (dB)) (bU (Cy 2 (aj 4) (dOp gIx (dOp lA (aj 5) (aj 3)) (dC (.int 1)))) (bO 3 (dOp gIx (dOp lA (aj 5) (aj 3)) (dC (.int 0)))))) m [a,b,some (.d (.list (qw P ts ss))),some (.d (rwD B)),u',v']
 |[],L,P,B,ss,u,v,m,N,V,_,_,_,_=>by
  cases L with
  |nil=>exact absurd rfl N
  |cons _ _=>cases V
 |t::ts,[],P,B,ss,u,v,m,N,_,_,_,_,_=>absurd rfl N
 |t::ts,S::L,P,B,ss,u,v,m,_,V,F,E,G,Z=>by
  have V:=yJ.inj V;have tl:=F t ak;obtain⟨f1,f2⟩:=E S ak;obtain⟨z1,z2⟩:=G S ak;have C:(zpr (t::ts) (S::L)).reverse++m=(zpr ts L).reverse++(e_ [.int (t:Int),dtt S]::m):=by
   unfold zpr;rw[oJ,aF,jJ,aL];rfl
  rw[C];have I:∀{r:List Int}{v:List Int×Int},pO S r=some v->0<=v.2:=λ{r v} h=>by
   unfold pO at h
   cases e:S.find? λq=>decide (q.1=r)with
   |none=>rw[e]at h;cases h
   |some q=>
    rw[e]at h
    cases h;exact z2 q (ig e)
  have i1:∀v:List Int×Int,gIx (ttV v) (.int 1)=some (.int v.2):=λ_=>rfl
  have H:∀v:List Int×Int,gIx (ttV v) (.int 0)=some (rwD v.1):=λ_=>rfl
  have y:isNone .none=true:=rfl;have nr:∀r:List Int,isNone (rwD r)=false:=λ_=>rfl
  have g1:∀(x:Option U)(Q:List D)(u v:Option U),(gTn 2 (cg (gNl 4) (cg (gNl 5) (iT)))) (e_ [.int (t:Int),dtt S]) [a,b,some (.d (.list Q)),x,u,v]=some [a,b,some (.d (.list Q)),x,some (.d (.int (t:Int))),some (.d (dtt S))]:=λ_ _ _ _=>rfl
  by_cases c:L=[]
  ·subst c;obtain rfl:ts=[]:=bL.mp V;have Z:(match pO S (wZ S)with|some (p,z)=>some (p,z.toNat::[])|none=>none)=some (B,ss):=Z
   cases Y:pO S (wZ S)with
   |none=>rw[Y]at Z;cases Z
   |some w=>
    rw[Y]at Z
    cases Z;have w0:=I Y;have gt:=Sh Y;have A:=Af f1 λk Y=>(f2 k Y).1
    have j:0<(XJ.dR (bM S)).length:=by
     rw[(cU _).length_eq];unfold bM;rw[aq];exact j8.mpr z1
    have fa:pAt ((XJ.dR (bM S)).map rwD) 0=some (rwD (wZ S)):=by
     rw[nD rwD [] (by omega) (by omega)];rfl
    have O:=K4 tl;have M:(bU (sIf (bG (dUn Fz (aj 3))) (bO 3 (dOp gIx (dCall XJ.jh (ao (aj 5) (aN))) (dC (.int 0)))) (dB)) (bU (Cy 2 (aj 4) (dOp gIx (dOp lA (aj 5) (aj 3)) (dC (.int 1)))) (bO 3 (dOp gIx (dOp lA (aj 5) (aj 3)) (dC (.int 0)))))) [a,b,some (.d (.list P)),some (.d .none),some (.d (.int (t:Int))),some (.d (dtt S))]=some (.nx [a,b,some (.d (.list (P.set t (.int w.2)))),some (.d (rwD w.1)),some (.d (.int (t:Int))),some (.d (dtt S))]):=by
     simp only[EV,aD,bC,y,A,fa,gt,i1,H,O,aC]
    refine⟨some (.d (.int (t:Int))),some (.d (dtt S)),(lC (g1 _ _ _ _) M).trans ?_⟩;rw[qw,show qw P [] []=P by unfold qw;rfl,show((w.2.toNat:Nat):Int)=w.2 by omega]
  ·obtain⟨T,J,rfl⟩:=List.exists_cons_of_ne_nil c;rw[Nx]at Z;unfold bk at Z
   cases W:bk (T::J) (Ho (T::J))with
   |none=>rw[W]at Z;cases Z
   |some q=>
    obtain⟨R,X⟩:=q;rw[W]at Z;dsimp only at Z
    cases Y:pO S R with
    |none=>rw[Y]at Z;cases Z
    |some w=>
     rw[Y]at Z
     cases Z;have w0:=I Y;have gt:=Sh Y;obtain⟨l,o,e⟩:=Cm (a:=a) (b:=b) (n:=n) ts (T::J) P R X u v (e_ [.int (t:Int),dtt S]::m) (by simp) V (λq s=>F q (au _ s)) (λK h'=>E K (au _ h')) (λK h'=>G K (au _ h')) W;have O:pIx (qw P ts X).length (t:Int)=some t:=K4 (by rw[v9];exact tl);have M:(bU (sIf (bG (dUn Fz (aj 3))) (bO 3 (dOp gIx (dCall XJ.jh (ao (aj 5) (aN))) (dC (.int 0)))) (dB)) (bU (Cy 2 (aj 4) (dOp gIx (dOp lA (aj 5) (aj 3)) (dC (.int 1)))) (bO 3 (dOp gIx (dOp lA (aj 5) (aj 3)) (dC (.int 0)))))) [a,b,some (.d (.list (qw P ts X))),some (.d (rwD R)),some (.d (.int (t:Int))),some (.d (dtt S))]=some (.nx [a,b,some (.d (.list ((qw P ts X).set t (.int w.2)))),some (.d (rwD w.1)),some (.d (.int (t:Int))),some (.d (dtt S))]):=by
      simp only[EV,aD,bC,nr,gt,i1,H,O,aC]
     refine⟨some (.d (.int (t:Int))),some (.d (dtt S)),e.trans ((lC (g1 _ _ _ _) M).trans ?_)⟩;rw[qw,show((w.2.toNat:Nat):Int)=w.2 by omega]
theorem Hq{P:List D}:∀(ts ss:List Nat),ts.length=ss.length->∀i,i∈ts->i<P.length->(qw P ts ss)[i]? = some (.int ((ss.getD (ts.idxOf i) 0:Nat):Int))
 |[],_,_,i,h,_=>by cases h
 |_::_,[],h,_,_,_=>by cases h
 |t::ts,s::ss,Y,i,hi,Z=>by
  rw[qw,oZ];by_cases c:t=i
  ·subst c;rw[if_pos rfl,if_pos (by rwa[v9])];simp
  ·rw[if_neg c];rcases aK.mp hi with z|hi
   ·exact absurd z.symm c
   ·rw[Hq ts ss (yJ.inj Y) i hi Z];have X:(t==i)=false:=by simpa using c
    rw[List.idxOf_cons,X];rfl
def Hr(n:Nat)(ts ss:List Nat):List Int:=(aQ n).map λi=>((ss.getD (ts.idxOf i) 0:Nat):Int)
theorem Wb{ts ss:List Nat}(pm:ts.Perm (aQ n))(B:ts.length=ss.length):qw (aO n .none) ts ss=(Hr n ts ss).map .int:=by
 apply dN;intro i;unfold Hr;rw[cZ,aU];by_cases c:i<n
 ·rw[Hq ts ss B i (pm.mem_iff.mpr (bf.mpr c)) (by simpa using c),dJ c];rfl
 ·rw[aZ (by rw[v9,bI];omega),aZ (by rw[bV];omega)];rfl
theorem La:∀(ts:List Nat)(L:List (List Tte)),jM (ts.map λt:Nat=>eT (t:Int)) (L.map dtt)=zpr ts L
 |[],_=>by simp[jM,zpr]
 |_::_,[]=>by simp[jM,zpr]
 |t::ts,S::L=>by
  show e_ [.int (t:Int),dtt S]::jM (ts.map λt:Nat=>eT (t:Int)) (L.map dtt)=_;rw[La ts L];rfl
theorem ai1{k:Nat}(h:k<=1000):yV (.list [.none]) (.int (k:Int))=some (.list (aO k .none)):=by
 show(if [PyData.none].length*((k:Int)).toNat<=1000000/\-(2^63)<=(k:Int)/\(k:Int)<2^63 then some (hU (aO ((k:Int)).toNat [PyData.none]).flatten)else none)=_;rw[if_pos ⟨by simp;omega,by omega,by omega⟩,show((k:Int)).toNat=k by omega];congr 2
 induction k with
 |zero=>rfl
 |succ k Z=>rw[cL,fJ,Z (by omega),cL];rfl
section
variable{gs:List Wi}{ts:List Nat}{L:List (List Tte)}
theorem uJ{B:List Int}{ss:List Nat}(hl:gs.length<64)(O:iY [.list (gs.map wiD)]=some (.list (ts.map λt:Nat=>eT (t:Int))))(pm:ts.Perm (aQ gs.length))(D:ts.length=L.length)(J:ts.length=ss.length)(hf:Few L)(hz:∀S∈L,S≠[]/\∀q∈S,0<=q.2.2)(hb:L≠[]->bk L (Ho L)=some (B,ss)):
 lJ [.list (L.map dtt),.list (gs.map wiD)]=some (.list ((Hr gs.length ts ss).map .int)):=by
 have tl:ts.length=gs.length:=by rw[pm.length_eq,bV]
 have V:=ai1 (k:=gs.length) (by omega);have W:wM (.list (ts.map λt:Nat=>eT (t:Int))) (.list (L.map dtt))=some (.list (zpr ts L)):=by
  show(if(ts.map λt:Nat=>eT (t:Int)).length<=1000 then some (hU (jM _ _))else none)=_;rw[if_pos (by rw[aq];omega),La]
 have U:Ug (dOp wM (dCall iY (ao (aj 1) (aN))) (aj 0)) [some (.d (.list (L.map dtt))),some (.d (.list (gs.map wiD))),some (.d (.list (aO gs.length .none))),some (.d .none),none,none]=some (zpr ts L).reverse:=by
  unfold Ug;have:(dOp wM (dCall iY (ao (aj 1) (aN))) (aj 0)) [some (.d (.list (L.map dtt))),some (.d (.list (gs.map wiD))),some (.d (.list (aO gs.length .none))),some (.d .none),none,none]=some (.list (zpr ts L)):=by
   simp only[EV,O,W]
  rw[this];rfl
 have fl:flats ((Hr gs.length ts ss).map eT)=true:=lB _;have lo:∃r' Y Z,g_ (gTn 2 (cg (gNl 4) (cg (gNl 5) (iT)))) (bU (sIf (bG (dUn Fz (aj 3))) (bO 3 (dOp gIx (dCall XJ.jh (ao (aj 5) (aN))) (dC (.int 0)))) (dB)) (bU (Cy 2 (aj 4) (dOp gIx (dOp lA (aj 5) (aj 3)) (dC (.int 1)))) (bO 3 (dOp gIx (dOp lA (aj 5) (aj 3)) (dC (.int 0)))))) (zpr ts L).reverse [some (.d (.list (L.map dtt))),some (.d (.list (gs.map wiD))),some (.d (.list (aO gs.length .none))),some (.d .none),none,none]=some (.nx [some (.d (.list (L.map dtt))),some (.d (.list (gs.map wiD))),some (.d (.list ((Hr gs.length ts ss).map .int))),r',Y,Z]):=by
  by_cases c:L=[]
  ·subst c;have X:=bL.mp D;have T:=bL.mp (by rw[<-tl,X];rfl);subst X T;exact⟨_,_,_,rfl⟩
  ·obtain⟨Y,Z,e⟩:=Cm (a:=some (.d (.list (L.map dtt)))) (b:=some (.d (.list (gs.map wiD)))) (n:=0) ts L (aO gs.length .none) B ss none none [] c D (λt h=>by rw[bI];exact bf.mp (pm.mem_iff.mp h)) hf hz (hb c);rw[cA,Wb pm J]at e;exact⟨_,_,_,e⟩
 obtain⟨r',Y,Z,lo⟩:=lo;unfold lJ;simp only[EV,aD,bC,lMp,Com.sz (show 1<=1000000 by decide),V,U];rw[lo];simp only[EV,fl]
end
theorem Ss:∀(gs:List Wi)(rows:List (List Int)),[]∉lv rows gs->(lv rows gs).length=gs.length
 |[],rows,_=>by rw[nQ];rfl
 |g::gs,rows,h=>by
  rw[kO]at h ⊢;have c:eV g rows []≠[]:=λz=>h (by rw[z];exact ak)
  rw[if_neg c]at h ⊢;rw[aR,aR,Ss gs _ λz=>h (au _ z)]
theorem Jx:∀(gs:List Wi)(rows:List (List Int)),[]∈lv rows gs->∃B,lv rows gs=B++[[]]/\[]∉B
 |[],rows,h=>by rw[nQ]at h;cases h
 |g::gs,rows,h=>by
  rw[kO]at h ⊢;by_cases c:eV g rows []=[]
  ·rw[if_pos c,c];exact⟨[],rfl,by simp⟩
  ·rw[if_neg c]at h ⊢;rcases aK.mp h with h|h
   ·exact absurd h.symm c
   ·obtain⟨B,e,hn⟩:=Jx gs _ h;rw[e];refine⟨eV g rows []::B,rfl,λz=>?_⟩;rcases aK.mp z with z|z
    ·exact c z.symm
    ·exact hn z
theorem Sv:∀(gs:List Wi)(rows:List (List Int))(S:List Tte),S∈lv rows gs->∀q∈S,0<=q.2.2
 |[],rows,S,h,_,_=>by rw[nQ]at h;cases h
 |g::gs,rows,S,h,q,Z=>by
  rw[kO]at h;rcases aK.mp h with rfl|h
  ·rcases oY rows [] Z with z|⟨r,_,s,_,e⟩
   ·cases z
   ·rw[e];show(0:Int)<=(s:Int);omega
  ·by_cases c:eV g rows []=[]
   ·rw[if_pos c]at h;cases h
   ·rw[if_neg c]at h;exact Sv gs _ S h q Z
theorem Ny(h:S≠[]):wZ S∈bM S:=by
 have Z:0<(XJ.dR (bM S)).length:=by
  rw[(cU _).length_eq];unfold bM;rw[aq];exact j8.mpr h
 refine(cU _).mem_iff.mp ?_;unfold wZ;rw[aG,aA Z];exact cV Z
theorem Hs:∀(L:List (List Tte))(rows:List (List Int)),L≠[]->[]∉L->Ho L∈xV L rows
 |[],_,h,_=>absurd rfl h
 |[S],rows,_,hn=>Ny λz=>hn (by rw[z];exact ak)
 |_::S::L,rows,_,hn=>Hs (S::L) rows (by simp) λz=>hn (au _ z)
theorem Eh:pAt (l++[d]) (-1)=some d:=by
 unfold pAt pIx;simp;rw[if_pos (by omega),aC,show(-1+((l.length:Int)+1)).toNat=l.length by omega,bR (aB _)];simp
section
variable{gs:List Wi}{ts:List Nat}{hs:List Int}
theorem Wc(hg:∀g∈gs,gOk g)(O:gs.length<64)(D:hs.length<=100)(J:iY [.list (gs.map wiD)]=some (.list (ts.map λt:Nat=>eT (t:Int))))(pm:ts.Perm (aQ gs.length))(B:Few (lv [hs] (inT gs ts)))(hn:[]∈lv [hs] (inT gs ts)):
 eE [.list (hs.map .int),.list (gs.map wiD)]=some (.tuple [.str "none", .list ((lv [hs] (inT gs ts)).map λS=>hU ((XJ.dR (bM S)).map rwD))]):=by
 have al:=all_gen hg O D J pm B;obtain⟨M,e,_⟩:=Jx _ _ hn;generalize Q:lv [hs] (inT gs ts)=L at al B e ⊢;have tn:=Ed [];have X:pAt (L.map dtt) (-1)=some (dtt []):=by
  rw[e,cW];exact Eh
 have W:decide (((L.map dtt).length:Int)>0)=true:=dTr (by rw[e];simp);have C:=wV (g:=(gNl 0)) (c:=(D3.j9)) (e:=(dCall XJ.jh (ao (aj 0) (aN)))) (δ:=[none]) dtt (λS=>hU ((XJ.dR (bM S)).map rwD)) L (λS Z=>by
  refine⟨[some (.d (dtt S))],rfl,rfl,?_⟩;have Y:=Af (B S Z).1 λk R=>((B S Z).2 k R).1
  simp only[EV,Y])
 have P:∀a b c:Option U,j_ 1 [] [a,b,c]=[none]:=λ_ _ _=>rfl
 have N:decide (((([]:List Tte).length:Nat):Int)=0)=true:=rfl;have V:(L.map dtt).length<=100000:=by
  have:L.length<=gs.length:=by
   rw[<-Q];have:∀(gs:List Wi)(rows:List (List Int)),(lv rows gs).length<=gs.length:=λgs=>by
    induction gs with
    |nil=>exact λrows=>by rw[nQ];exact aB _
    |cons g gs T=>
     intro rows;rw[kO,aR,aR];split
     ·simp
     ·exact pW (T _)
   refine aW (this _ _) ?_;unfold inT;rw[aq,pm.length_eq,bV];exact aB _
  rw[aq];omega
 unfold eE;simp only[EV,aD,bC,al,W,X,tn,V,P,C,Com.sz (show 2<=1000000 by decide)]
theorem Sw(hg:∀g∈gs,gOk g)(O:gs.length<64)(wl:hs.length<=100)(J:iY [.list (gs.map wiD)]=some (.list (ts.map λt:Nat=>eT (t:Int))))(pm:ts.Perm (aQ gs.length))(B:Few (lv [hs] (inT gs ts)))(hn:[]∉lv [hs] (inT gs ts)):
 ∃(ss:List Nat)(out:List Int),ss.length=ts.length/\Sd.Run hs (((inT gs ts).map gp).zip ss) out/\eE [.list (hs.map .int),.list (gs.map wiD)]=some (.tuple [.str "laid", .list ((Hr gs.length ts ss).map .int)]):=by
 have al:=all_gen hg O wl J pm B;have W:=Ss _ _ hn;have it:(inT gs ts).length=ts.length:=by unfold inT;rw[aq]
 have N:∀g∈inT gs ts,gOk g:=λg h=>by
  obtain⟨t,h1,rfl⟩:=bK.mp h;have:=bf.mp (pm.mem_iff.mp h1);unfold gat;rw[aG,aA this];exact hg _ (cV this)
 have Y:∃(ss:List Nat)(out:List Int),ss.length=ts.length/\Sd.Run hs (((inT gs ts).map gp).zip ss) out/\(lv [hs] (inT gs ts)≠[]->bk (lv [hs] (inT gs ts)) (Ho (lv [hs] (inT gs ts)))=some (hs,ss)):=by
  by_cases c:lv [hs] (inT gs ts)=[]
  ·have T:=bL.mp (by rw[<-it,<-W,c];rfl);subst T;exact⟨[],hs,rfl,rfl,λz=>absurd c z⟩
  ·obtain⟨M,ss,e,Q,X,run⟩:=Sg _ _ N hn _ (Hs _ [hs] c hn);rw[aJ.mp Q]at e run;exact⟨ss,_,X.trans it,run,λ_=>e⟩
 obtain⟨ss,out,sl,run,P⟩:=Y;have pl:=uJ O J pm (by rw[W,it]) sl.symm B (λS h=>⟨λz=>hn (z▸h),Sv _ _ S h⟩) P;refine⟨ss,out,sl,run,?_⟩;generalize K:lv [hs] (inT gs ts)=L at al B hn pl W;unfold eE;by_cases c:L=[]
 ·subst c;have al:=al;have pl:lJ [.list [],.list (gs.map wiD)]=some (.list ((Hr gs.length ts ss).map .int)):=pl;have V:decide (((([]:List D).length:Nat):Int)>0)=false:=rfl;simp only[EV,aD,bC,qH,al,pl,Com.sz (show 2<=1000000 by decide)]
 ·obtain⟨Z,S,rfl⟩:∃Z S,L=Z++[S]:=⟨L.dropLast,L.getLast c,(List.dropLast_concat_getLast c).symm⟩;have V:decide ((((Z++[S]).map dtt).length:Int)>0)=true:=dTr (by simp);have R:pAt ((Z++[S]).map dtt) (-1)=some (dtt S):=by
   rw[cW];exact Eh
  have tn:=Ed S;have U:decide ((S.length:Int)=0)=false:=dFa λz=>hn (by
   have:S=[]:=bL.mp (by omega);rw[this];simp)
  simp only[EV,aD,bC,al,V,R,tn,U,pl,Com.sz (show 2<=1000000 by decide)]
end
def pr(gs:List Wi)(ts ss:List Nat)(t:Nat):Sd.Pl:=(gp (gat gs t),ss.getD (ts.idxOf t) 0)
theorem Sx:∀(ts ss:List Nat),ts.Nodup->ts.length=ss.length->((inT gs ts).map gp).zip ss=ts.map (pr gs ts ss)
 |ts,ss,nd,Z=>by
  unfold inT;rw[cZ];apply dN;intro i;rw[aU];by_cases hi:i<ts.length
  ·have hs:i<ss.length:=by omega
   rw[List.getElem?_zip_eq_some.mpr ⟨(by rw[aU,aA hi];rfl:(ts.map (gp∘gat gs))[i]? = some (gp (gat gs ts[i]),ss[i]).1),(aA hs:ss[i]? = some (gp (gat gs ts[i]),ss[i]).2)⟩,aA hi];have ix:=List.Nodup.idxOf_getElem nd i hi;show _=some (gp (gat gs ts[i]),ss.getD (ts.idxOf ts[i]) 0);rw[ix,aG,aA hs];rfl
  ·rw[aZ (by simp;omega),aZ (by omega)];rfl
theorem Jy{p q:Sd.Pl}(h:Sd.apart p q):Sd.apart q p:=by
 unfold Sd.apart at h ⊢;rcases h with h|h|h|h
 ·exact .inr (.inl h)
 ·exact .inl h
 ·exact .inr (.inr (.inr h))
 ·exact .inr (.inr (.inl h))
theorem Sy{l m:List Sd.Pl}(p:l.Perm m)(h:Sd.Sit hs l):Sd.Sit hs m:=
 ⟨λx Z=>h.1 x (p.mem_iff.mpr Z),p.pairwise h.2 λ{x y} z=>Jy z⟩
def std(gs:List Wi)(f:Nat->Nat):List Sd.Pl:=(aQ gs.length).map λi=>(gp (gat gs i),f i)
theorem Ht{s:Nat}(B:gOk g):roB hs g (s:Int)=true<->Sd.home hs (gp g,s):=by
 have:=Ef (g:=g) (row:=hs) (s:=s) B;unfold Sd.home;rw[<-this];unfold roB stN;rw[dG,bf,aV,aV,decide_eq_true_iff,decide_eq_true_iff];have:=B.1
 constructor
 ·rintro⟨⟨h1,h2⟩,Z⟩;exact⟨by omega,Z⟩
 ·rintro⟨h1,Z⟩;exact⟨⟨by omega,by omega⟩,Z⟩
theorem Lb{k:Wi}{p q:Nat}(D:gOk g)(B:gOk k):apB g (p:Int) k (q:Int)=true<->Sd.apart (gp g,p) (gp k,q):=by
 have:=D.1;have:=B.1;unfold apB Sd.apart gp;simp only[nG,decide_eq_true_iff]
 constructor
 ·rintro((h|h)|(h|h))
  ·exact .inl h
  ·exact .inr (.inl h)
  ·exact .inr (.inr (.inl (by omega)))
  ·exact .inr (.inr (.inr (by omega)))
 ·rintro(h|h|h|h)
  ·exact .inl (.inl h)
  ·exact .inl (.inr h)
  ·exact .inr (.inl (by omega))
  ·exact .inr (.inr (by omega))
theorem ZF(B:∀g∈gs,grOk g/\gOk g)(f:Nat->Nat):laB hs gs ((aQ gs.length).map λi=>((f i:Nat):Int))=true<->Sd.Sit hs (std gs f):=by
 have Y:∀i,i<gs.length->grOk (gat gs i)/\gOk (gat gs i):=λi hi=>by
  unfold gat;rw[aG,aA hi];exact B _ (cV hi)
 have W:∀i,i<gs.length->((aQ gs.length).map λi=>((f i:Nat):Int)).getD i 0=((f i:Nat):Int):=λi hi=>by
  rw[aG,aU,dJ hi];rfl
 rw[Jt];unfold Sd.Sit std
 constructor
 ·rintro⟨_,h1,h2⟩;refine⟨λp V=>?_,?_⟩
  ·obtain⟨i,hi,rfl⟩:=bK.mp V;have hi:=bf.mp hi;have:=h1 i hi;rw[W i hi]at this;exact(Ht (Y i hi).2).mp this
  ·rw[gM,dj];intro i j hi Z X;simp only[uE];have hi:i<gs.length:=by simpa using hi
   have Z:j<gs.length:=by simpa using Z
   have:=h2 j Z;have:=cQ.mp this i (bf.mpr X);rw[W j Z,W i hi,<-wY (Y j Z).1 (Y i hi).1]at this;exact(Lb (Y i hi).2 (Y j Z).2).mp this
 ·rintro⟨h1,h2⟩;refine⟨by simp,λi hi=>?_,λj Z=>?_⟩
  ·rw[W i hi];exact(Ht (Y i hi).2).mpr (h1 _ (bK.mpr ⟨i,bf.mpr hi,rfl⟩))
  ·refine cQ.mpr λi hi=>?_
   have X:=bf.mp hi;have hi:i<gs.length:=by omega
   rw[W j Z,W i hi,<-wY (Y j Z).1 (Y i hi).1];refine(Lb (Y i hi).2 (Y j Z).2).mpr ?_;rw[gM,dj]at h2;have:=h2 i j (by simpa using hi) (by simpa using Z) X;simpa using this
section
variable{gs:List Wi}{ts:List Nat}{hs:List Int}
theorem ZG(h:grOk g):Sd.gok (gp g):=by
 have a:=h.f;have b:=h.b;have c:=h.s;unfold Sd.gok gp;exact⟨a,b,by dsimp only;omega⟩
theorem Wd(B:∀g∈gs,grOk g/\gOk g)(pm:ts.Perm (aQ gs.length)){f:Nat->Nat}:∀p∈ts.map (λt=>((gp (gat gs t),f t):Sd.Pl)),Sd.gok p.1:=λp Z=>by
 obtain⟨t,h,rfl⟩:=bK.mp Z;have:=bf.mp (pm.mem_iff.mp h);refine ZG (g:=gat gs t) ?_;unfold gat;rw[aG,aA this];exact(B _ (cV this)).1
theorem SJ(pw:ts.Pairwise λa b=>(gat gs a).1<=(gat gs b).1){f:Nat->Nat}:(ts.map (λt=>((gp (gat gs t),f t):Sd.Pl))).Pairwise λp q=>p.1.1<=q.1.1:=by
 rwa[gM]
theorem SM(pm:ts.Perm (aQ gs.length))(f:Nat->Nat):(ts.map (λt=>((gp (gat gs t),f t):Sd.Pl))).Perm (std gs f):=pm.map _
theorem Nz(B:∀g∈gs,grOk g/\gOk g)(pm:ts.Perm (aQ gs.length))(pw:ts.Pairwise λa b=>(gat gs a).1<=(gat gs b).1){ss:List Nat}{out:List Int}(sl:ss.length=ts.length)(run:Sd.Run hs (((inT gs ts).map gp).zip ss) out):laB hs gs (Hr gs.length ts ss)=true:=by
 have nd:=pm.nodup_iff.mpr List.nodup_range;rw[Sx ts ss nd sl.symm]at run;have st:=(Sd.V8 (Wd B pm (f:=λt=>ss.getD (ts.idxOf t) 0)) (SJ pw)).mp ⟨out,run⟩;exact(ZF B λi=>ss.getD (ts.idxOf i) 0).mpr (Sy (SM pm _) st)
end
theorem SN{S:List (List Int)}{k x:List Int}:x∈iV S k<->x∈S\/x=k:=by
 unfold iV;split
 ·rename_i h;exact⟨.inl,λz=>z.elim id λe=>e▸h⟩
 ·simp
theorem xg:∀(ks S:List (List Int))(x:List Int),x∈ks.foldl iV S<->x∈S\/x∈ks
 |[],S,x=>by simp
 |k::ks,S,x=>by
  rw[gP,xg ks,SN,aK]
  constructor
  ·rintro((h|h)|h)
   ·exact .inl h
   ·exact .inr (.inl h)
   ·exact .inr (.inr h)
  ·rintro(h|h|h)
   ·exact .inl (.inl h)
   ·exact .inl (.inr h)
   ·exact .inr h
theorem Hu(T:List (List Int)):oR (dsT T)=some T:=by
 unfold dsT oR;dsimp only
 cases T with
 |nil=>rfl
 |cons k T=>
  have:yc ((k::T).map λk=>((.tuple (k.map .int),.bool true):D×D))=none:=rfl;rw[this];exact vL (k::T)
theorem Ld:∀rows:List (List Int),rpD (rows.map λr=>e_ [rwD r,.bool true])=some rows
 |[]=>rfl
 |r::rows=>by
  show(dF (r.map eT)).bind (λk=>(rpD (rows.map λr=>e_ [rwD r,.bool true])).map (k :: ·))=_;rw[oh,aC,Ld rows];rfl
theorem Wf(B:rows.length<=1000)(sl:S.length<=1000):jF [.list (rows.map rwD),dtt S]=some (.bool ((bM S).all λk=>decide (k∈rows))):=by
 have Q:=wV (g:=(gNl 0)) (c:=(D3.j9)) (e:=(ji (dTup (ao (aj 0) (ao (dC (.bool true)) (aN)))))) (δ:=[none]) rwD (λr=>e_ [rwD r,.bool true]) rows (λr _=>by
  refine⟨[some (.d (rwD r))],rfl,rfl,?_⟩;have fl:flat (e_ [rwD r,.bool true])=true:=by
   show(flats (r.map eT)&&true)=true;rw[lB];rfl
  simp only[EV,aD,Com.sz (show 2<=1000000 by decide),fl])
 have V:∀a b c:Option U,j_ 1 [] [a,b,c]=[none]:=λ_ _ _=>rfl
 have X:zK [.list (rows.map λr=>e_ [rwD r,.bool true])]=some (dsT (rows.foldl iV [])):=by
  unfold zK;dsimp only;rw[Ld,aC,if_pos (by rwa[aq])]
 have R:=wV (g:=(gNl 0)) (c:=(D3.j9)) (e:=(dOp Gi (aj 0) (aj 1))) (δ:=[none,some (.d (dsT (rows.foldl iV [])))]) rwD (λk=>ge (decide (k∈rows))) (bM S) (λk _=>by
  refine⟨[some (.d (rwD k)),some (.d (dsT (rows.foldl iV [])))],rfl,rfl,?_⟩;have Y:Gi (rwD k) (dsT (rows.foldl iV []))=some (.bool (decide (k∈rows))):=by
   unfold Gi;rw[Hu,aC,yG];show some (ge (decide (k∈rows.foldl iV [])))=_;congr 2;rw[decide_eq_decide,xg];simp
  simp only[EV,Y])
 have W:∀a b c:Option U,j_ 1 [2] [a,b,c]=[none,c]:=λ_ _ _=>rfl
 have fr:Kl (aj 1) [some (.d (.list (rows.map rwD))),some (.d (dtt S)),some (.d (dsT (rows.foldl iV [])))]=some ((bM S).map rwD):=by
  show(oR (dtt S)).map _=_;rw[Ae];rfl
 have l1:(rows.map rwD).length<=100000:=by rw[aq];omega
 have l2:((bM S).map rwD).length<=100000:=by unfold bM;rw[aq,aq];omega
 have T:yW [.list ((bM S).map λk=>ge (decide (k∈rows)))]=some (.bool ((bM S).all λk=>decide (k∈rows))):=by
  have:∀l:List (List Int),jA (l.map λk=>ge (decide (k∈rows)))=some (l.map λk=>decide (k∈rows)):=λl=>by
   induction l with
   |nil=>rfl
   |cons a r Z=>rw[aF,jA,Z];rfl
  show(jA _).map _=_;rw[this];simp[List.all_map]
 unfold jF;simp only[EV,aD,bC,l1,V,Q,X,fr,l2,W,R,T]
theorem SQ{r:List Int}(B:r.length<=1000):jV [rwD r]=some (.bool true):=by
 have C:=wV (g:=(gNl 0)) (c:=(D3.j9)) (e:=(dCall gR (ao (aj 0) (aN)))) (δ:=[none]) eT (λ_=>.bool true) r (λx _=>by
  refine⟨[some (.d (.int x))],rfl,rfl,?_⟩;have w:=wh (.int x);have w:gR [.int x]=some (.bool true):=w;simp only[EV,w])
 have X:∀a:Option U,j_ 1 [] [a]=[none]:=λ_=>rfl
 have fs:qd (aj 0) [some (.d (rwD r))]=some (r.map .int):=rfl;have Z:(r.map eT).length<=100000:=by rw[aq];omega
 have W:yW [.list (r.map λ_=>ge true)]=some (.bool true):=by
  have:∀l:List Int,jA (l.map λ_=>ge true)=some (l.map λ_=>true):=λl=>by
   induction l with
   |nil=>rfl
   |cons a r Y=>rw[aF,jA,Y];rfl
  show(jA _).map _=_;rw[this];simp
 unfold jV;simp only[EV,fs,Z,X,C,W]
theorem ZJ{r:List Int}(B:r.length<=1000):fH [rwD r,.int (r.length:Int)]=some (.bool true):=by
 have ty:D3.isT "tuple" (tyD (rwD r))=true:=isTup;have Z:jd [rwD r]=some (.int (r.length:Int)):=by
  show some (eT ((r.map eT).length:Int))=_;rw[aq]
 have d:decide ((r.length:Int)=(r.length:Int))=true:=by simp
 unfold fH;simp only[EV,aD,ty,Z,SQ B]
theorem SX{w:Nat}(hw:∀r∈rows,r.length=w)(B:w<=1000)(D:rows.length<=1000):iM [.list (rows.map rwD),.int (w:Int)]=some (.bool true):=by
 have C:=wV (g:=(gNl 0)) (c:=(D3.j9)) (e:=(dCall fH (ao (aj 0) (ao (aj 1) (aN))))) (δ:=[none,some (.d (.int (w:Int)))]) rwD (λ_=>.bool true) rows (λr Z=>by
  refine⟨[some (.d (rwD r)),some (.d (.int (w:Int)))],rfl,rfl,?_⟩;have t:=ZJ (r:=r) (by rwa[hw r Z]);rw[hw r Z]at t;simp only[EV,t])
 have W:∀a b:Option U,j_ 1 [1] [a,b]=[none,b]:=λ_ _=>rfl
 have ty:D3.isT "list" (tyD (.list (rows.map rwD)))=true:=(by decide:D3.isT "list" "list"=true);have Y:(rows.map rwD).length<=100000:=by rw[aq];omega
 have V:yW [.list (rows.map λ_=>ge true)]=some (.bool true):=by
  have:∀l:List (List Int),jA (l.map λ_=>ge true)=some (l.map λ_=>true):=λl=>by
   induction l with
   |nil=>rfl
   |cons a r X=>rw[aF,jA,X];rfl
  show(jA _).map _=_;rw[this];simp
 unfold iM;simp only[EV,aD,ty,Y,W,C,V]
def yg(gs:List Wi):List (List Int)->List Nat->List (List (List Int))->Bool
 |ah,t::ts,R::Rs=>((bM (eV (gat gs t) ah [])).all λk=>decide (k∈R))&&yg gs R ts Rs
 |_,_,_=>true
def rlD(R:List (List Int)):D:=.list (R.map rwD)
theorem Cp(D:∀g∈gs,gOk g)(a b:Option U):∀(ts:List Nat)(Rs:List (List (List Int)))(ah:List (List Int))(u v:Option U),(∀t∈ts,t<gs.length)->ah.length<=1000->(∀r∈ah,r.length<=100)->(∀R∈Rs,R.length<=1000/\∀r∈R,r.length<=100)->(∀t∈ts,∀B,(B=ah\/B∈Rs)->(eV (gat gs t) B []).length<=1000) ->
 (yg gs ah ts Rs=true/\∃δ',g_ (gTn 2 (cg (gNl 4) (cg (gNl 5) (iT)))) (bU (sIf (D3.gU (bG (dCall jF (ao (aj 5) (ao (dCall cI (ao (aj 3) (ao (dOp gIx (aj 1) (aj 4)) (aN)))) (aN)))))) (dh (dC (.bool false))) (dB)) (bO 3 (aj 5))) ((ts.zip Rs).map λq=>e_ [.int (q.1:Int),rlD q.2]) [a,some (.d (.list (gs.map wiD))),b,some (.d (rlD ah)),u,v]=some (.nx δ')) \/
 (yg gs ah ts Rs=false/\g_ (gTn 2 (cg (gNl 4) (cg (gNl 5) (iT)))) (bU (sIf (D3.gU (bG (dCall jF (ao (aj 5) (ao (dCall cI (ao (aj 3) (ao (dOp gIx (aj 1) (aj 4)) (aN)))) (aN)))))) (dh (dC (.bool false))) (dB)) (bO 3 (aj 5))) ((ts.zip Rs).map λq=>e_ [.int (q.1:Int),rlD q.2]) [a,some (.d (.list (gs.map wiD))),b,some (.d (rlD ah)),u,v]=some (.rt (.bool false)))
 |[],Rs,ah,u,v,_,_,_,_,_=>.inl ⟨by unfold yg;rfl,_,by simp only[List.zip_nil_left,iB];exact rfl⟩
 |_::_,[],ah,u,v,_,_,_,_,_=>.inl ⟨by unfold yg;rfl,_,by simp only[List.zip_nil_right,iB];exact rfl⟩
 |t::ts,R::Rs,ah,u,v,T,M,N,Z,Q=>by
  have tl:=T t ak;have P:gOk (gat gs t):=by
   unfold gat;rw[aG,aA tl];exact D _ (cV tl)
  have V:cI [rlD ah,wiD (gat gs t)]=_:=Hf (g:=gat gs t) (rows:=ah) P.1 P.2 N M;have ha:jF [rlD R,dtt (eV (gat gs t) ah [])]=_:=Wf (rows:=R) (S:=eV (gat gs t) ah []) (Z R ak).1 (Q t ak ah (.inl rfl));have ga:=Ag tl;rw[oJ,aF,yg]
  cases c:(bM (eV (gat gs t) ah [])).all λk=>decide (k∈R)with
  |false=>
   rw[c]at ha;refine .inr ⟨rfl,?_⟩;have Y:(bU (sIf (D3.gU (bG (dCall jF (ao (aj 5) (ao (dCall cI (ao (aj 3) (ao (dOp gIx (aj 1) (aj 4)) (aN)))) (aN)))))) (dh (dC (.bool false))) (dB)) (bO 3 (aj 5))) [a,some (.d (.list (gs.map wiD))),b,some (.d (rlD ah)),some (.d (.int (t:Int))),some (.d (rlD R))]=some (.rt (.bool false)):=by
    simp only[EV,ga,V,ha]
   rw[g_,show(gTn 2 (cg (gNl 4) (cg (gNl 5) (iT)))) (e_ [.int (t:Int),rlD R]) [a,some (.d (.list (gs.map wiD))),b,some (.d (rlD ah)),u,v]=some [a,some (.d (.list (gs.map wiD))),b,some (.d (rlD ah)),some (.d (.int (t:Int))),some (.d (rlD R))]from rfl,aC,Y];rfl
  |true=>
   rw[c]at ha;have Y:(bU (sIf (D3.gU (bG (dCall jF (ao (aj 5) (ao (dCall cI (ao (aj 3) (ao (dOp gIx (aj 1) (aj 4)) (aN)))) (aN)))))) (dh (dC (.bool false))) (dB)) (bO 3 (aj 5))) [a,some (.d (.list (gs.map wiD))),b,some (.d (rlD ah)),some (.d (.int (t:Int))),some (.d (rlD R))]=some (.nx [a,some (.d (.list (gs.map wiD))),b,some (.d (rlD R)),some (.d (.int (t:Int))),some (.d (rlD R))]):=by
    simp only[EV,aD,bC,ga,V,ha]
   have O:=Cp D a b ts Rs R (some (.d (.int (t:Int)))) (some (.d (rlD R))) (λq X=>T q (au _ X)) (Z R ak).1 (Z R ak).2 (λR' h'=>Z R' (au _ h')) (λq X B h'=>Q q (au _ X) B (.inr (h'.elim (λe=>e▸ak) (au _))));rw[mY];rcases O with⟨W,δ',e2⟩|⟨W,e2⟩
   ·exact .inl ⟨W,δ',(lC rfl Y).trans e2⟩
   ·exact .inr ⟨W,(lC rfl Y).trans e2⟩
section
variable{gs:List Wi}{ts:List Nat}{hs:List Int}{Rs:List (List (List Int))}
theorem Jz:∀(ts:List Nat)(Rs:List (List (List Int))),jM (ts.map λt:Nat=>eT (t:Int)) (Rs.map rlD)=(ts.zip Rs).map λq=>e_ [.int (q.1:Int),rlD q.2]
 |[],_=>by simp[jM]
 |_::_,[]=>by simp[jM]
 |t::ts,R::Rs=>by
  show e_ [.int (t:Int),rlD R]::jM (ts.map λt:Nat=>eT (t:Int)) (Rs.map rlD)=_;rw[Jz ts Rs];rfl
theorem S5(J:∀g∈gs,grOk g/\gOk g)(hl:gs.length<64)(wl:hs.length<=100)(D:iY [.list (gs.map wiD)]=some (.list (ts.map λt:Nat=>eT (t:Int))))(pm:ts.Perm (aQ gs.length))
 (h1:Rs.length<gs.length) (hw:∀R∈Rs++[[]],R.length<=1000/\∀r∈R,r.length=hs.length) (hS:∀t∈ts,∀B,(B=[hs]\/B∈Rs++[[]])->(eV (gat gs t) B []).length<=1000) :
 mW [.list (hs.map .int),.list (gs.map wiD),.list ((Rs++[[]]).map rlD)]=some (.bool (yg gs [hs] ts (Rs++[[]]))):=by
 have S:=Ci λg h=>(J g h).1
 have ty:D3.isT "list" (tyD (.list ((Rs++[[]]).map rlD)))=true:=(by decide:D3.isT "list" "list"=true);have L:=Cp (λg h=>(J g h).2) (some (.d (.list (hs.map .int)))) (some (.d (.list ((Rs++[[]]).map rlD)))) ts (Rs++[[]]) [hs] none none (λt h=>bf.mp (pm.mem_iff.mp h)) (by simp) (λr Z=>by rwa[aJ.mp Z]) (λR h=>⟨(hw R h).1,λr Z=>by rwa[(hw R h).2 r Z]⟩) hS;have O:decide ((1:Int)<=(((Rs++[[]]).map rlD).length:Int))=true:=dTr (by simp;omega);have P:decide ((((Rs++[[]]).map rlD).length:Int)<=((gs.map wiD).length:Int))=true:=dTr (by simp;omega);have C:=wV (g:=(gNl 0)) (c:=(D3.j9)) (e:=(dCall iM (ao (aj 0) (ao (dCall jd (ao (aj 1) (aN))) (aN))))) (δ:=[none,some (.d (.list (hs.map .int)))]) rlD (λ_=>ge true) (Rs++[[]]) (λR T=>by
  refine⟨[some (.d (rlD R)),some (.d (.list (hs.map .int)))],rfl,rfl,?_⟩;have r:iM [rlD R,.int (hs.length:Int)]=some (.bool true):=SX (hw R T).2 (by omega) (hw R T).1;simp only[EV,lMp,r])
 have Q:∀a b c d e f:Option U,j_ 1 [0] [a,b,c,d,e,f]=[none,a]:=λ_ _ _ _ _ _=>rfl
 have N:yW [.list ((Rs++[[]]).map λ_=>ge true)]=some (.bool true):=by
  have:∀l:List (List (List Int)),jA (l.map λ_=>ge true)=some (l.map λ_=>true):=λl=>by
   induction l with
   |nil=>rfl
   |cons a r K=>rw[aF,jA,K];rfl
  show(jA _).map _=_;rw[this];simp
 have V:((Rs++[[]]).map rlD).length<=100000:=by simp;omega
 have X:pAt ((Rs++[[]]).map rlD) (-1)=some (rlD []):=by
  rw[cW];exact Eh
 have W:jd [rlD []]=some (.int 0):=rfl;have I:decide ((0:Int)>0)=false:=rfl;have M:rlD [hs] = .list [.tuple (hs.map .int)]:=rfl;rw[M]at L;unfold mW;rcases L with⟨Y,δ',e2⟩|⟨Y,e2⟩
 ·simp only[EV,aD,bC,qH,S,ty,O,P,V,Q,C,N,X,W,zA,Com.sz (show 1<=1000000 by decide),D,Jz,e2];rw[Y]
 ·simp only[EV,aD,bC,qH,S,ty,O,P,V,Q,C,N,X,W,zA,Com.sz (show 1<=1000000 by decide),D,Jz,e2];rw[Y]
end
theorem Hv(gs:List Wi):∀(ts:List Nat)(rows:List (List Int)),yg gs rows ts ((lv rows (inT gs ts)).map λS=>XJ.dR (bM S))=true
 |[],rows=>by unfold yg;rfl
 |t::ts,rows=>by
  rw[show inT gs (t::ts)=gat gs t::inT gs ts from rfl,kO,aF,yg,aV];refine⟨cQ.mpr λk Z=>dTr ((cU _).mem_iff.mpr Z),?_⟩;split
  ·cases ts<;>(unfold yg;rfl)
  ·exact Hv gs ts _
theorem ai2{α:Type}(f:α->D){l m:List α}(h:l.length+m.length<=1000000):sE (.list (l.map f)) (.list (m.map f))=some (.list ((l++m).map f)):=by
 rw[WX,if_pos (by rwa[aq,aq]),cW]
open XS in
theorem W7(f g:Nat->Int):∀l:List Nat,Jb (l.map λk=>e_ [.int (f k),.int (g k)])=some (l.map λk=>(f k,g k))
 |[]=>rfl
 |a::l=>by
  rw[aF,Jb,W7 f g l];rfl
theorem Wg(R:List (List Int)):gEq (rlD R) (.list [])=some (.bool R.isEmpty):=by
 have l1:∀P:List Int,ly 5 (rwD P):=λP=>sZ (Jp (rF (n:=1) eT (λ_=>wW) P)) (by decide)
 have l2:ly 60 (.list (R.map rwD)):=sZ (v5 (rF rwD l1 R)) (by decide);unfold gEq rlD;rw[wX l2,show fN (.list [])=true from rfl]
 cases R<;>simp[gi,ii]
def tn(n:Nat)(f:Nat->Int):List Nat:=if n<=1 then aQ n else XS.nO n λi j=>decide (f i<f j)
theorem rH(n:Nat)(f:Nat->Int):(tn n f).Perm (aQ n):=by
 unfold tn;split
 ·exact .refl _
 ·exact XS.jg (by omega) _
theorem ai3(n:Nat)(f:Nat->Int):(tn n f).Pairwise λa b=>f a<=f b:=by
 unfold tn;split
 ·next h=>
  have:n=0\/n=1:=by omega
  rcases this with rfl|rfl<;>simp
 ·exact(XS.rG XS.v7 (by omega)).imp λh=>ah8 h
theorem Hw(B:gs.length<64):iY [.list (gs.map wiD)]=some (.list ((tn gs.length λt=>(gat gs t).1).map λt:Nat=>eT (t:Int))):=by
 have W:gD 0 (gs.length:Int)=(aQ gs.length).map λp:Nat=>eT (p:Int):=by
  unfold gD;rw[show((gs.length:Int)-0).toNat=gs.length by omega];exact eO λk _=>by rw[jW]
 have U:zu [.int (gs.length:Int)]=some (.list ((aQ gs.length).map λp:Nat=>eT (p:Int))):=by
  rw[<-W];exact Uw (by omega) (by omega)
 have O:jK (gNl 0) D3.j9 XS.dK0 (j_ 1 [0] [some (.d (.list (gs.map wiD)))]) ((aQ gs.length).map λp:Nat=>eT (p:Int))=some (((aQ gs.length).map λt=>(gat gs t).1).map eT):=by
  rw[cZ];exact wV (λp:Nat=>eT (p:Int)) (λp:Nat=>eT (gat gs p).1) _ λp S=>⟨[some (.d (.int (p:Int))),some (.d (.list (gs.map wiD)))],rfl,rfl,by
   show(pAt (gs.map wiD) (p:Int)).bind _=_;rw[Ag (bf.mp S)];rfl⟩
 have V:=XS.Nb (l:=(aQ gs.length).map λp:Nat=>eT (p:Int)) (k:=jK (gNl 0) D3.j9 XS.dK0 (j_ 1 [0] [some (.d (.list (gs.map wiD)))])) (by rwa[aq,bV]) (by
  have:∀l:List Nat,flats (l.map λp:Nat=>eT (p:Int))=true:=λl=>by
   induction l with
   |nil=>rfl
   |cons _ _ T=>rw[aF,flats,T];rfl
  exact this _) O (tW _)
 have e:XS.ur ((aQ gs.length).map λp:Nat=>eT (p:Int)) ((aQ gs.length).map λt=>(gat gs t).1)=(tn gs.length λt=>(gat gs t).1).map λt:Nat=>eT (t:Int):=by
  unfold XS.ur tn;rw[aq,bV];by_cases h1:gs.length<=1
  ·rw[if_pos h1,if_pos h1]
  ·rw[if_neg h1,if_neg h1];have P:XS.nO gs.length (λi j=>decide (((aQ gs.length).map λt=>(gat gs t).1).getD i 0<((aQ gs.length).map λt=>(gat gs t).1).getD j 0))=XS.nO gs.length λi j=>decide ((gat gs i).1<(gat gs j).1):=by
    refine XS.zZ XS.v7 (by omega) (XS.jg (by omega) _) ?_;refine gy ?_ (XS.rG XS.v7 (by omega));intro i j hi Q N;have Z:=bf.mp ((XS.jg (n:=gs.length) (by omega) _).mem_iff.mp hi);have Y:=bf.mp ((XS.jg (n:=gs.length) (by omega) _).mem_iff.mp Q);have X:∀k,k<gs.length->((aQ gs.length).map λt=>(gat gs t).1).getD k 0=(gat gs k).1:=λk R=>by
     rw[aG,aU,dJ R];rfl
    show decide (((aQ gs.length).map λt=>(gat gs t).1).getD i 0<((aQ gs.length).map λt=>(gat gs t).1).getD j 0)=true\/(decide (((aQ gs.length).map λt=>(gat gs t).1).getD j 0<((aQ gs.length).map λt=>(gat gs t).1).getD i 0)=false/\i<j);rwa[X i Z,X j Y]
   rw[P];apply eO;intro i hi;have Z:=bf.mp ((XS.jg (n:=gs.length) (by omega) _).mem_iff.mp hi);rw[aG,aU,dJ Z];rfl
 unfold iY;simp only[EV,lMp,U,XS.Vm,V];rw[e]
open XS in
theorem S6(f:Nat->Int)(hn:n<64):XS.zG [.list ((aQ n).map λk:Nat=>e_ [.int (f k),.int (k:Int)])]=some (.list ((tn n f).map λk:Nat=>e_ [.int (f k),.int (k:Int)])):=by
 by_cases R:n=0
 ·subst R;rfl
 have P:dF ((aQ n).map λk:Nat=>e_ [.int (f k),.int (k:Int)])=none:=by
  obtain⟨m,rfl⟩:∃m,n=m+1:=⟨n-1,by omega⟩;rw[List.range_succ_eq_map,aF];rfl
 have ep:=W7 f (λk:Nat=>(k:Int)) (aQ n);have len:((aQ n).map λk:Nat=>e_ [.int (f k),.int (k:Int)]).length=n:=by rw[aq,bV]
 unfold XS.zG;dsimp only;rw[P];dsimp only;rw[ep,aC,len,if_pos hn];by_cases h1:n=1
 ·subst h1;rfl
 ·rw[if_neg h1];have W:∀i,i<n->((aQ n).map λk:Nat=>(f k,(k:Int))).getD i (0,0)=(f i,(i:Int)):=λi hi=>by
   rw[aG,aU,dJ hi];rfl
  have Q:tn n f=XS.nO n (XS.ltP ((aQ n).map λk:Nat=>(f k,(k:Int)))):=by
   unfold tn;rw[if_neg (by omega)];refine XS.zZ XS.v7 (by omega) (XS.jg (by omega) _) ?_;refine gy ?_ (XS.rG (XS.R5 _) (by omega));intro i j hi T V;have Z:=bf.mp ((XS.jg (n:=n) (by omega) _).mem_iff.mp hi);have X:=bf.mp ((XS.jg (n:=n) (by omega) _).mem_iff.mp T);have Y:∀a b,a<n->b<n->XS.ltP ((aQ n).map λk:Nat=>(f k,(k:Int))) a b=if f a=f b then decide ((a:Int)<b)else decide (f a<f b):=λa b ha S=>by
    unfold XS.ltP XS.Ay;rw[W a ha,W b S]
   rcases V with z|⟨z,U⟩
   ·rw[Y i j Z X]at z;split at z
    ·have:=of_decide_eq_true z;exact .inr ⟨dFa (by omega),by omega⟩
    ·exact .inl z
   ·rw[Y j i X Z]at z;split at z
    ·exact .inr ⟨dFa (by omega),U⟩
    ·have:=of_decide_eq_false z;exact .inl (dTr (by omega))
  rw[Q];congr 2;apply eO;intro i hi;have Z:=bf.mp ((XS.jg (n:=n) (by omega) _).mem_iff.mp hi);rw[aG,aU,dJ Z];rfl
def lK(gs:List Wi):List Wi:=(tn gs.length λt=>(gat gs t).1).map (gat gs)
theorem JB(B:gs.length<64):mD [.list (gs.map wiD)]=some (.list ((lK gs).map wiD)):=by
 have X:uw (some [.int (gs.length:Int)])=some (gD 0 (gs.length:Int)):=G6 (by omega) (by omega);have W:gD 0 (gs.length:Int)=(aQ gs.length).map λp:Nat=>eT (p:Int):=by
  unfold gD;rw[show((gs.length:Int)-0).toNat=gs.length by omega];exact eO λk _=>by rw[jW]
 have Q:=wV (g:=(gNl 0)) (c:=(D3.j9)) (e:=(ji (dTup (ao (dOp gIx (dOp gIx (aj 1) (aj 0)) (dC (.int 0))) (ao (aj 0) (aN)))))) (δ:=[none,some (.d (.list (gs.map wiD)))]) (λp:Nat=>eT (p:Int)) (λp:Nat=>e_ [.int (gat gs p).1,.int (p:Int)]) (aQ gs.length) (λp Z=>by
  refine⟨[some (.d (.int (p:Int))),some (.d (.list (gs.map wiD)))],rfl,rfl,?_⟩;have ga:=Ag (gs:=gs) (bf.mp Z);have V:gIx (wiD (gat gs p)) (.int 0)=some (.int (gat gs p).1):=rfl;simp only[EV,aD,ga,V,Com.sz (show 2<=1000000 by decide)])
 have R:=wV (g:=(gNl 0)) (c:=(D3.j9)) (e:=(ji (dOp gIx (aj 1) (dOp gIx (aj 0) (dC (.int 1)))))) (δ:=[none,some (.d (.list (gs.map wiD)))]) (λp:Nat=>e_ [.int (gat gs p).1,.int (p:Int)]) (λp:Nat=>wiD (gat gs p)) (tn gs.length λt=>(gat gs t).1) (λp Z=>by
  refine⟨[some (.d (.tuple [.int (gat gs p).1,.int (p:Int)])),some (.d (.list (gs.map wiD)))],rfl,rfl,?_⟩;have ga:=Ag (gs:=gs) (bf.mp ((rH _ _).mem_iff.mp Z));have i1:∀a b:D,gIx (.tuple [a,b]) (.int 1)=some b:=λ_ _=>rfl
  have T:flat (wiD (gat gs p))=true:=rfl;simp only[EV,i1,ga,T])
 have Y:=S6 (n:=gs.length) (λt=>(gat gs t).1) B;have S:∀a:Option U,j_ 1 [0] [a]=[none,a]:=λ_=>rfl
 have l1:(aQ gs.length).length<=100000:=by rw[bV];omega
 have l2:(tn gs.length λt=>(gat gs t).1).length<=100000:=by rw[(rH _ _).length_eq,bV];omega
 unfold mD;simp only[EV,lMp,X,W,S,l1,Q,Y,l2,R];unfold lK;rw[cZ];rfl
theorem Hy(gs:List Wi):(lK gs).length=gs.length:=by unfold lK;rw[aq,(rH _ _).length_eq,bV]
theorem Ai:g∈lK gs<->g∈gs:=by
 unfold lK;rw[bK]
 constructor
 ·rintro⟨t,h1,rfl⟩;have:=bf.mp ((rH _ _).mem_iff.mp h1);unfold gat;rw[aG,aA this];exact cV this
 ·intro h;obtain⟨i,hi,rfl⟩:=iW h;refine⟨i,(rH _ _).mem_iff.mpr (bf.mpr hi),?_⟩;unfold gat;rw[aG,aA hi];rfl
def rest(g:Wi)(row:List Int):List Int:=row.map λe=>if e<=g.1 then 0 else e
theorem Le{s:Nat}(B:1<=g.2.2)(h:s+g.2.2.toNat<=row.length):(rest g row).take s++aO g.2.2.toNat g.2.1++(rest g row).drop (s+g.2.2.toNat)=Sd.put row (gp g) s:=by
 have Z:(rest g row).length=row.length:=by unfold rest;rw[aq]
 apply dN;intro i;unfold Sd.put;rw[fB];have X:∀i,(rest g row)[i]? = row[i]?.map λe=>if e<=g.1 then 0 else e:=λi=>by unfold rest;rw[aU]
 by_cases h1:i<s
 ·rw[aL,cj (by rw[cP,Z];omega),kj h1,X];congr 1
  funext e
  show _=if s<=i/\i<s+g.2.2.toNat then g.2.1 else if e<=g.1 then 0 else e
  rw[if_neg (show ¬(s<=i/\i<s+g.2.2.toNat)by omega)]
 ·by_cases h2:i<s+g.2.2.toNat
  ·rw[aL,bR (by rw[cP,Z];omega),cj (by rw[cP,Z,bI];omega),eZ,cP,Z,if_pos (by omega),aA (by omega)];unfold Sd.cell gp;rw[jC,if_pos (by dsimp only;omega)]
  ·have Y:((rest g row).take s++aO g.2.2.toNat g.2.1).length=s+g.2.2.toNat:=by rw[bB,cP,Z,bI];omega
   rw[bR (by rw[Y];omega),dW,Y,show s+g.2.2.toNat+(i-(s+g.2.2.toNat))=i by omega,X];congr 1
   funext e
   show _=if s<=i/\i<s+g.2.2.toNat then g.2.1 else if e<=g.1 then 0 else e
   rw[if_neg (show ¬(s<=i/\i<s+g.2.2.toNat)by omega)]
def NK(g:Wi)(rows:List (List Int)):List (List Int):=rows.flatMap λrow=>(stN row g).map λs=>Sd.put row (gp g) s
def nxT(g:Wi)(rows:List (List Int)):List (List Int):=(NK g rows).foldl iV []
theorem S7{S:List (List Int)}{k:List Int}(D:aj i δ=some (dsT S))(h1:fk δ=some (rwD k))(B:S.length<1000000):sY i fk δ=some (.nx (δ.set i (some (.d (dsT (iV S k)))))):=by
 unfold sY;rw[D,aC,h1,aC,UL,aC,yG,aC,if_pos B]
theorem Hz(S:List (List Int))(k:List Int):(iV S k).length<=S.length+1:=by
 unfold iV;split<;>simp
theorem qj:∀(ks S:List (List Int)),(ks.foldl iV S).length<=S.length+ks.length
 |[],S=>aB _
 |k::ks,S=>by
  have h1:=qj ks (iV S k);have h2:=Hz S k;rw[gP,aR];omega
theorem Wh{S:List (List Int)}{k:List Int}(h:S.Nodup):(iV S k).Nodup:=by
 unfold iV;split
 ·exact h
 ·rename_i q;rw[gG];exact⟨h,by simp,λa ha b Z e=>q (by rw[aJ.mp Z]at e;rwa[<-e])⟩
theorem HB:∀(ks S:List (List Int)),S.Nodup->(ks.foldl iV S).Nodup
 |[],S,h=>h
 |k::ks,S,h=>by
  rw[gP];exact HB ks _ (Wh h)
theorem ZK(g:Wi)(rows:List (List Int)):(nxT g rows).Nodup:=HB _ _ .nil
theorem Lf{x:List Int}:x∈nxT g rows<->∃row∈rows,∃s∈stN row g,x=Sd.put row (gp g) s:=by
 unfold nxT;rw[xg];unfold NK;rw[List.mem_flatMap]
 constructor
 ·rintro(h|⟨row,Z,h⟩)
  ·cases h
  ·obtain⟨s,hs,rfl⟩:=bK.mp h;exact⟨row,Z,s,hs,rfl⟩
 ·rintro⟨row,Z,s,hs,rfl⟩;exact .inr ⟨row,Z,bK.mpr ⟨s,hs,rfl⟩⟩
theorem tE(O:1<=g.2.2)(J:g.2.2<=6)(W:row.length<=100)(a:Option U):∀(ss:List Nat)(S:List (List Int))(u v:Option U),(∀s∈ss,(s:Int)<=(row.length:Int)-g.2.2)->S.length+ss.length<1000000 ->
 ∃D B,g_ (gNl 8) (sIf (bG (dOp gLe (dCall uq (ao (yd (aj 6) (fG (aj 8)) (fG (dOp eY (aj 8) (aj 4)))) (aN))) (aj 2))) (bU (bO 9 (dOp sE (dSl (aj 7) p7 (fG (aj 8))) (dOp yV (jz (ao (aj 3) (aN))) (aj 4)))) (sY 5 (dUn nU (dOp sE (aj 9) (dSl (aj 7) (fG (dOp eY (aj 8) (aj 4))) p7))))) (dB)) (ss.map λs:Nat=>eT (s:Int)) [a,some (.d (wiD g)),some (.d (.int g.1)),some (.d (.int g.2.1)),some (.d (.int g.2.2)),some (.d (dsT S)),some (.d (rwD row)),some (.d (.list ((rest g row).map .int))),u,v] =
  some (.nx [a,some (.d (wiD g)),some (.d (.int g.1)),some (.d (.int g.2.1)),some (.d (.int g.2.2)),some (.d (dsT (((ss.filter λs:Nat=>decide (mx (sli row (s:Int) g.2.2)<=g.1)).map λs=>Sd.put row (gp g) s).foldl iV S))),some (.d (rwD row)),some (.d (.list ((rest g row).map .int))),D,B])
 |[],S,u,v,_,_=>⟨u,v,rfl⟩
 |s::ss,S,u,v,hs,Q=>by
  rw[aR]at Q;have X:=hs s ak;have Y:∀t∈ss,(t:Int)<=(row.length:Int)-g.2.2:=λt R=>hs t (au _ R)
  have P:(rest g row).length=row.length:=by unfold rest;rw[aq]
  have Z:∀(a b c d e f h:Option U),yd (aj 6) (fG (aj 8)) (fG (dOp eY (aj 8) (aj 4))) [a,b,c,d,some (.d (.int g.2.2)),f,some (.d (rwD row)),h,some (.d (.int (s:Int))),e]=some (.tuple ((sli row (s:Int) g.2.2).map .int)):=λa b c d e f h=>by
   rw[K8 (l:=row.map .int) (lo:=some (s:Int)) (hi:=some ((s:Int)+g.2.2)) rfl rfl rfl (lB _),yF (by omega) X O]
  have mt:=G8 (z_ (show(0:Int)<=(s:Int)by omega) X O);rw[jX];by_cases q:mx (sli row (s:Int) g.2.2)<=g.1
  ·rw[if_pos (dTr q),aF (f:=λs:Nat=>Sd.put row (gp g) s),gP];have k1:cuD ((rest g row).map eT) none (some (s:Int))=((rest g row).take s).map .int:=by rw[ah7 (by omega),uh];rfl
   have k2:cuD ((rest g row).map eT) (some ((s:Int)+g.2.2)) none=((rest g row).drop (s+g.2.2.toNat)).map .int:=by rw[ah6 (by omega),um,show((s:Int)+g.2.2).toNat=s+g.2.2.toNat by omega]
   have T:yV (.list [.int g.2.1]) (.int g.2.2)=some (.list ((aO g.2.2.toNat g.2.1).map eT)):=RV (by omega) (by omega);have g1:sE (.list (((rest g row).take s).map .int)) (.list ((aO g.2.2.toNat g.2.1).map eT))=some (.list (((rest g row).take s++aO g.2.2.toNat g.2.1).map eT)):=ai2 eT (by rw[cP,bI];omega);have g2:sE (.list (((rest g row).take s++aO g.2.2.toNat g.2.1).map eT)) (.list (((rest g row).drop (s+g.2.2.toNat)).map .int))=some (.list ((Sd.put row (gp g) s).map .int)):=by
    rw[ai2 eT (by rw[bB,cP,bI,fZ];omega),Le O (by omega)]
   have pl:=Hz S (Sd.put row (gp g) s);obtain⟨D,B,e⟩:=tE O J W a ss (iV S (Sd.put row (gp g) s)) (some (.d (.int (s:Int)))) (some (.d (.list (((rest g row).take s++aO g.2.2.toNat g.2.1).map .int)))) Y (by omega);refine⟨D,B,(lC rfl ?_).trans e⟩;have V:=S7 (i:=5) (S:=S) (k:=Sd.put row (gp g) s) (fk:=(dUn nU (dOp sE (aj 9) (dSl (aj 7) (fG (dOp eY (aj 8) (aj 4))) p7)))) (δ:=[a,some (.d (wiD g)),some (.d (.int g.1)),some (.d (.int g.2.1)),some (.d (.int g.2.2)),some (.d (dsT S)),some (.d (rwD row)),some (.d (.list ((rest g row).map .int))),some (.d (.int (s:Int))),some (.d (.list (((rest g row).take s++aO g.2.2.toNat g.2.1).map .int)))]) rfl (by
    simp only[EV,k2,g2,zA];rfl) (by omega)
   simp only[EV,aD,bC,Z,mt,dTr q,k1,T,g1,V,Com.sz (show 1<=1000000 by decide)]
  ·rw[if_neg (by rw[dFa q];decide)];obtain⟨D,B,e⟩:=tE O J W a ss S (some (.d (.int (s:Int)))) v Y (by omega);refine⟨D,B,(lC rfl ?_).trans e⟩;simp only[EV,Z,mt,dFa q]
theorem NP(g:Wi)(row:List Int)(rows:List (List Int)):NK g (row::rows)=((stN row g).map λs=>Sd.put row (gp g) s)++NK g rows:=by unfold NK;rw[List.flatMap_cons]
theorem xW(Y:1<=g.2.2)(B:g.2.2<=6)(a:Option U):∀(rows:List (List Int))(S:List (List Int))(u v w x:Option U),(∀r∈rows,r.length<=100)->S.length+101*rows.length<1000000 ->
 ∃W O J D,g_ (gNl 6) (bU (bO 7 (jk (qd (aj 6)) (gNl 0) (D3.j9) (ji (dOp gIx (jz (ao (aj 0) (ao (dC (.int 0)) (aN)))) (dCall q_ (ao (dOp gLe (aj 0) (aj 1)) (aN))))) 1 [2])) (kJ (mG (ao (dOp eY (dOp vg (dCall jd (ao (aj 6) (aN))) (aj 4)) (dC (.int 1))) (aN))) (gNl 8) (sIf (bG (dOp gLe (dCall uq (ao (yd (aj 6) (fG (aj 8)) (fG (dOp eY (aj 8) (aj 4)))) (aN))) (aj 2))) (bU (bO 9 (dOp sE (dSl (aj 7) p7 (fG (aj 8))) (dOp yV (jz (ao (aj 3) (aN))) (aj 4)))) (sY 5 (dUn nU (dOp sE (aj 9) (dSl (aj 7) (fG (dOp eY (aj 8) (aj 4))) p7))))) (dB)))) (rows.map rwD) [a,some (.d (wiD g)),some (.d (.int g.1)),some (.d (.int g.2.1)),some (.d (.int g.2.2)),some (.d (dsT S)),u,v,w,x] =
  some (.nx [a,some (.d (wiD g)),some (.d (.int g.1)),some (.d (.int g.2.1)),some (.d (.int g.2.2)),some (.d (dsT ((NK g rows).foldl iV S))),W,O,J,D])
 |[],S,u,v,w,x,_,_=>⟨u,v,w,x,rfl⟩
 |row::rows,S,u,v,w,x,T,L=>by
  rw[aR]at L;have R:=T row ak;have sq:qSq (some (rwD row))=some (row.map .int):=rfl;have C:=wV (g:=(gNl 0)) (c:=(D3.j9)) (e:=(ji (dOp gIx (jz (ao (aj 0) (ao (dC (.int 0)) (aN)))) (dCall q_ (ao (dOp gLe (aj 0) (aj 1)) (aN)))))) (δ:=[none,some (.d (.int g.1))]) (λe:Int=>eT e) (λe:Int=>eT (if e<=g.1 then 0 else e)) row (λe _=>by
   refine⟨[some (.d (.int e)),some (.d (.int g.1))],rfl,rfl,?_⟩;by_cases c:e<=g.1
   ·rw[if_pos c];simp only[EV,aD,dTr c,show q_ [.bool true]=some (.int 1)from rfl,at1,Com.sz (show 2<=1000000 by decide)]
   ·rw[if_neg c];simp only[EV,aD,dFa c,show q_ [.bool false]=some (.int 0)from rfl,Com.sz (show 2<=1000000 by decide)])
  have P:(row.map λe:Int=>eT (if e<=g.1 then 0 else e))=(rest g row).map .int:=by unfold rest;rw[cZ];rfl
  rw[P]at C;have K:∀a b c d e f g h i j:Option U,j_ 1 [2] [a,b,c,d,e,f,g,h,i,j]=[none,c]:=λ_ _ _ _ _ _ _ _ _ _=>rfl
  have M:row.length<=100000:=by omega
  have N:jd [rwD row]=some (.int (row.length:Int)):=by
   show some (eT ((row.map eT).length:Int))=_;rw[aq]
  have Q:uw (some [.int ((row.length:Int)-g.2.2+1)])=some ((aQ ((row.length:Int)-g.2.2+1).toNat).map λs:Nat=>eT (s:Int)):=by
   rw[G6 (by omega) (by omega)];unfold gD;rw[qx];congr 1;exact eO λs _=>by rw[jW]
  obtain⟨V,X,Z⟩:=tE (g:=g) (row:=row) Y B R a (aQ ((row.length:Int)-g.2.2+1).toNat) S w x (λs hs=>by have:=bf.mp hs;omega) (by rw[bV];omega);have fl:=qj ((stN row g).map λs=>Sd.put row (gp g) s) S;have sl:=K9 row g Y;rw[aq]at fl;obtain⟨W,O,J,D,e2⟩:=xW Y B a rows (((stN row g).map λs=>Sd.put row (gp g) s).foldl iV S) (some (.d (rwD row))) (some (.d (.list ((rest g row).map .int)))) V X (λr h=>T r (au _ h)) (by omega);refine⟨W,O,J,D,?_⟩;rw[NP,vd];have Z:g_ (gNl 8) (sIf (bG (dOp gLe (dCall uq (ao (yd (aj 6) (fG (aj 8)) (fG (dOp eY (aj 8) (aj 4)))) (aN))) (aj 2))) (bU (bO 9 (dOp sE (dSl (aj 7) p7 (fG (aj 8))) (dOp yV (jz (ao (aj 3) (aN))) (aj 4)))) (sY 5 (dUn nU (dOp sE (aj 9) (dSl (aj 7) (fG (dOp eY (aj 8) (aj 4))) p7))))) (dB)) ((aQ ((row.length:Int)-g.2.2+1).toNat).map λs:Nat=>eT (s:Int)) [a,some (.d (wiD g)),some (.d (.int g.1)),some (.d (.int g.2.1)),some (.d (.int g.2.2)),some (.d (dsT S)),some (.d (rwD row)),some (.d (.list ((rest g row).map .int))),w,x]=some (.nx [a,some (.d (wiD g)),some (.d (.int g.1)),some (.d (.int g.2.1)),some (.d (.int g.2.2)),some (.d (dsT (((stN row g).map λs=>Sd.put row (gp g) s).foldl iV S))),some (.d (rwD row)),some (.d (.list ((rest g row).map .int))),V,X]):=Z;refine(lC rfl ?_).trans e2;simp only[EV,aD,bC,Yj,sq,K,lMp,M,C,N,Q,Z]
theorem S8(J:1<=g.2.2)(B:g.2.2<=6)(D:∀r∈rows,1<=r.length/\r.length<=100)(hl:rows.length<=1000)(O:(nxT g rows).length<=1000):iI [.list (rows.map rwD),wiD g]=some (.list ((XJ.dR (nxT g rows)).map rwD)):=by
 obtain⟨W,X,Y,Z,e⟩:=xW J B (some (.d (.list (rows.map rwD)))) rows [] none none none none (λr h=>(D r h).2) (by simp;omega);have e:g_ (gNl 6) (bU (bO 7 (jk (qd (aj 6)) (gNl 0) (D3.j9) (ji (dOp gIx (jz (ao (aj 0) (ao (dC (.int 0)) (aN)))) (dCall q_ (ao (dOp gLe (aj 0) (aj 1)) (aN))))) 1 [2])) (kJ (mG (ao (dOp eY (dOp vg (dCall jd (ao (aj 6) (aN))) (aj 4)) (dC (.int 1))) (aN))) (gNl 8) (sIf (bG (dOp gLe (dCall uq (ao (yd (aj 6) (fG (aj 8)) (fG (dOp eY (aj 8) (aj 4)))) (aN))) (aj 2))) (bU (bO 9 (dOp sE (dSl (aj 7) p7 (fG (aj 8))) (dOp yV (jz (ao (aj 3) (aN))) (aj 4)))) (sY 5 (dUn nU (dOp sE (aj 9) (dSl (aj 7) (fG (dOp eY (aj 8) (aj 4))) p7))))) (dB)))) (rows.map rwD) [some (.d (.list (rows.map rwD))),some (.d (wiD g)),some (.d (.int g.1)),some (.d (.int g.2.1)),some (.d (.int g.2.2)),some (.d (.dict [])),none,none,none,none]=some (.nx [some (.d (.list (rows.map rwD))),some (.d (wiD g)),some (.d (.int g.1)),some (.d (.int g.2.1)),some (.d (.int g.2.2)),some (.d (dsT (nxT g rows))),W,X,Y,Z]):=e;have ts:XJ.jh [dsT (nxT g rows)]=some (.list ((XJ.dR (nxT g rows)).map rwD)):=by
  show(oR (dsT (nxT g rows))).bind _=_;rw[Hu,aC,if_pos];refine⟨O,cQ.mpr λk T=>?_⟩;obtain⟨row,h1,s,_,rfl⟩:=Lf.mp T;have l1:=Sd.yE row (gp g) s;have l2:=(D row h1).1
  cases V:Sd.put row (gp g) s with
  |nil=>rw[V,iz]at l1;omega
  |cons _ _=>rfl
 have sq:qSq (some (.list (rows.map rwD)))=some (rows.map rwD):=rfl;have as:∀(a b c d e f h i j k:Option U),gTn 3 (cg (gNl 2) (cg (gNl 3) (cg (gNl 4) (iT)))) (wiD g) [a,b,c,d,e,f,h,i,j,k]=some [a,b,some (.d (.int g.1)),some (.d (.int g.2.1)),some (.d (.int g.2.2)),f,h,i,j,k]:=λ_ _ _ _ _ _ _ _ _ _=>rfl
 unfold iI;simp only[EV,aD,bC,as,Yj,sq,e,ts]
def fac:Nat->Nat
 |0=>1
 |n+1=>(n+1)*fac n
theorem Aj{α β:Type}[DecidableEq β](f:α->β):∀(ks:List β)(L:List α),(∀x∈L,f x∈ks)->L.length<=(ks.map λk=>(L.filter λx=>decide (f x=k)).length).sum
 |[],L,h=>by
  cases L with
  |nil=>simp
  |cons x r=>exact absurd (h x ak) cR
 |k::ks,L,h=>by
  have split:∀L:List α,L.length=(L.filter λx=>decide (f x=k)).length+(L.filter λx=>!decide (f x=k)).length:=λL=>by
   induction L with
   |nil=>rfl
   |cons x r Y=>
    rw[jX,jX]
    cases decide (f x=k)<;>simp<;>omega
  have Y:=Aj f ks (L.filter λx=>!decide (f x=k)) (λx X=>by
   rw[dG]at X;have hn:f x≠k:=by simpa using X.2
   rcases aK.mp (h x X.1)with z|z
   ·exact absurd z hn
   ·exact z)
  have sub:∀Z,((L.filter λx=>!decide (f x=k)).filter λx=>decide (f x=Z)).length<=(L.filter λx=>decide (f x=Z)).length:=λZ=>by
   have e:((L.filter λx=>!decide (f x=k)).filter λx=>decide (f x=Z))=(L.filter λx=>decide (f x=Z)).filter λx=>!decide (f x=k):=by
    rw[uG,uG];congr 1
    funext x
    exact Bool.and_comm _ _
   rw[e];exact rQ _ _
  have mono:∀ks:List β,(ks.map λZ=>((L.filter λx=>!decide (f x=k)).filter λx=>decide (f x=Z)).length).sum<=(ks.map λZ=>(L.filter λx=>decide (f x=Z)).length).sum:=λks=>by
   induction ks with
   |nil=>exact aB _
   |cons Z ks Y=>rw[aF,aF,kI,kI];exact Nat.add_le_add (sub Z) Y
  rw[aF,kI,split L];exact Nat.add_le_add_left (aW Y (mono ks)) _
theorem S9{β:Type}(f:β->Nat)(c:Nat):∀ks:List β,(∀k∈ks,f k<=c)->(ks.map f).sum<=ks.length*c
 |[],_=>by simp
 |k::ks,h=>by
  rw[aF,kI,aR,Nat.succ_mul,Nat.add_comm];exact Nat.add_le_add (S9 f c ks λx Z=>h x (au _ Z)) (h k ak)
theorem wg:∀(n:Nat)(m:List Int),m.length=n->∀L:List (List Int),L.Nodup->(∀x∈L,x.Perm m)->L.length<=fac n
 |0,m,hm,L,nd,h=>by
  have hm:=bL.mp hm;subst hm
  match L,nd,h with
  |[],_,_=>exact cH _
  |[_],_,_=>exact aB _
  |x::y::r,nd,h=>
   have Z:=(h x ak).eq_nil;have Y:=(h y (au _ ak)).eq_nil;rw[Z,Y]at nd;exact absurd ak (b_.mp nd).1
 |n+1,m,hm,L,nd,h=>by
  have ne:∀x∈L,∃a t,x=a::t/\a∈m:=λx Z=>by
   cases x with
   |nil=>have:=(h [] Z).length_eq;rw[hm]at this;cases this
   |cons a t=>exact⟨a,t,rfl,(h _ Z).mem_iff.mp ak⟩
  have c:=Aj (λx:List Int=>x.headD 0) m L (λx Z=>by
   obtain⟨a,t,rfl,ha⟩:=ne x Z;exact ha)
  refine aW c (aW (S9 _ (fac n) m λa ha=>?_) (by rw[hm];exact aB _));have X:=wg n (m.erase a) (by rw[pI ha,hm];rfl) ((L.filter λx=>decide (x.headD 0=a)).map List.tail) (by
   show List.Pairwise _ _;rw[gM];refine gy (λ{x y} Z Y W e=>W ?_) (nd.filter λx=>decide (x.headD 0=a));rw[dG]at Z Y;obtain⟨b,t,rfl,_⟩:=ne x Z.1;obtain⟨S,t',rfl,_⟩:=ne y Y.1;have U:b=a:=by simpa using Z.2
   have V:S=a:=by simpa using Y.2
   subst U V;have e:t=t':=e;rw[e]) (λt T=>by
   obtain⟨x,Z,rfl⟩:=bK.mp T;rw[dG]at Z;obtain⟨b,t,rfl,_⟩:=ne x Z.1;have U:b=a:=by simpa using Z.2
   subst U;exact ie ((h _ Z.1).trans (rZ ha)))
  rwa[aq]at X
noncomputable def can(g:Wi)(m:List Int):List Int:=m.filter (λe=>decide (g.1<e))++aO g.2.2.toNat g.2.1++aO ((m.filter λe=>decide (e<=g.1)).length-g.2.2.toNat) 0
theorem Ak(g:Wi)(x:Int):∀X:List Int,(rest g X).count x=(X.filter λe=>decide (g.1<e)).count x+if x=0 then(X.filter λe=>decide (e<=g.1)).length else 0
 |[]=>by simp[rest]
 |e::X=>by
  have Z:=Ak g x X;have Y:rest g (e::X)=(if e<=g.1 then 0 else e)::rest g X:=rfl;rw[Y,List.count_cons,Z];by_cases c:e<=g.1
  ·rw[if_pos c,lF (by simp;omega),jc (by simp;omega)];by_cases z:x=0
   ·subst z;simp;omega
   ·simp[z,fA z]
  ·rw[if_neg c,jc (by simp;omega),lF (by simp;omega),List.count_cons];omega
theorem Ei{m:List Int}{s:Nat}(D:gOk g)(B:row.Perm m)(hs:s∈stN row g):(Sd.put row (gp g) s).Perm (can g m):=by
 have ft:=(Ef D).mp hs;have f1:s+g.2.2.toNat<=row.length:=ft.1;have f2:∀r,s<=r->r<s+g.2.2.toNat->row.getD r 0<=g.1:=ft.2;rw[<-Le D.1 f1];have ra:(rest g row).take s=rest g (row.take s):=by unfold rest;rw[uh]
 have rd:(rest g row).drop (s+g.2.2.toNat)=rest g (row.drop (s+g.2.2.toNat)):=by unfold rest;rw[um]
 have W:row=row.take s++((row.drop s).take g.2.2.toNat++row.drop (s+g.2.2.toNat)):=by
  have:=(fX g.2.2.toNat (row.drop s));rw[lQ]at this;rw[this,fX]
 have U:((row.drop s).take g.2.2.toNat).length=g.2.2.toNat:=by rw[cP,fZ];omega
 have V:∀e∈(row.drop s).take g.2.2.toNat,e<=g.1:=λe Z=>by
  obtain⟨i,hi,rfl⟩:=iW Z;rw[U]at hi;have:=f2 (s+i) (by omega) (by omega);rw[uY,o8];rwa[aG,aA (by omega)]at this
 have X:((row.drop s).take g.2.2.toNat).filter (λe=>decide (g.1<e))=[]:=lU.mpr λe Z=>by have:=V e Z;simp;omega
 have Y:=t_.mpr λe Z=>dTr (V e Z)
 have h1:(m.filter λe=>decide (g.1<e)).Perm ((row.take s).filter (λe=>decide (g.1<e))++(row.drop (s+g.2.2.toNat)).filter λe=>decide (g.1<e)):=by
  have:=(B.filter λe=>decide (g.1<e)).symm;rwa[W,kZ,kZ,X,cT]at this
 have h2:(m.filter λe=>decide (e<=g.1)).length=((row.take s).filter λe=>decide (e<=g.1)).length+g.2.2.toNat+((row.drop (s+g.2.2.toNat)).filter λe=>decide (e<=g.1)).length:=by
  have:=(B.filter λe=>decide (e<=g.1)).length_eq.symm;rw[W,kZ,kZ,Y,bB,bB,U]at this;omega
 rw[List.perm_iff_count];intro x;unfold can;rw[ra,rd,gO,gO,gO,gO,Ak,Ak,h1.count_eq,gO,h2,List.count_replicate (n:=_-_)];generalize ((row.take s).filter λe=>decide (e<=g.1)).length=p;generalize ((row.drop (s+g.2.2.toNat)).filter λe=>decide (e<=g.1)).length=q;by_cases z:x=0
 ·subst z;simp;omega
 ·simp[z,fA z];omega
theorem ai4(r:List Int):ly 5 (rwD r):=sZ (Jp (rF (n:=1) eT (λ_=>wW) r)) (by decide)
theorem ai5(R:List (List Int)):ly 7 (rlD R):=sZ (v5 (rF rwD ai4 R)) (by decide)
theorem Wj{ah:List (List Int)}{x:List Int}:x∈bM (eV g ah [])<->x∈nxT g ah:=by
 rw[Lf]
 constructor
 ·intro h;obtain⟨q,Y,rfl⟩:=bK.mp h;rcases oY ah [] Y with z|⟨row,Z,s,hs,rfl⟩
  ·cases z
  ·exact⟨row,Z,s,hs,rfl⟩
 ·rintro⟨row,Z,s,hs,rfl⟩;exact Hl ah [] row Z s hs
theorem ao0{α:Type}(l:List α):l.filter (λ_=>false)=[]:=lU.mpr (by simp)
theorem Lg(x:Int):∀m:List Int,m.length=m.count x+(m.filter λa=>decide (a≠x)).length
 |[]=>rfl
 |a::r=>by
  have Z:=Lg x r;by_cases z:a=x
  ·subst z;rw[List.count_cons_self,lF (by simp),aR,Z];omega
  ·rw[List.count_cons_of_ne z,jc (by simpa using z),aR,aR,Z];omega
theorem Cr:∀(n:Nat)(m:List Int)(x:Int),m.length=n->2<=m.count x->∀L:List (List Int),L.Nodup->(∀y∈L,y.Perm m)->2*L.length<=fac n
 |0,m,x,hm,T,L,nd,h=>by
  have hm:=bL.mp hm;subst hm;simp at T
 |n+1,m,x,hm,T,L,nd,h=>by
  have ne:∀y∈L,∃a t,y=a::t/\a∈m:=λy Z=>by
   cases y with
   |nil=>have:=(h [] Z).length_eq;rw[hm]at this;cases this
   |cons a t=>exact⟨a,t,rfl,(h _ Z).mem_iff.mp ak⟩
  have X:x∈m:=List.count_pos_iff.mp (by omega);have tl:∀a∈m,((L.filter λy=>decide (y.headD 0=a)).map List.tail).Nodup/\∀t∈(L.filter λy=>decide (y.headD 0=a)).map List.tail,t.Perm (m.erase a):=λa ha=>by
   refine⟨?_,λt Q=>?_⟩
   ·show List.Pairwise _ _;rw[gM];refine gy (λ{y z} Z W V e=>V ?_) (nd.filter λy=>decide (y.headD 0=a));rw[dG]at Z W;obtain⟨b,t,rfl,_⟩:=ne y Z.1;obtain⟨P,t',rfl,_⟩:=ne z W.1;have Y:b=a:=by simpa using Z.2
    have U:P=a:=by simpa using W.2
    subst Y U;have e:t=t':=e;rw[e]
   ·obtain⟨y,Z,rfl⟩:=bK.mp Q;rw[dG]at Z;obtain⟨b,t,rfl,_⟩:=ne y Z.1;have Y:b=a:=by simpa using Z.2
    subst Y;exact ie ((h _ Z.1).trans (rZ ha))
  have S:∀a∈m,(m.erase a).length=n:=λa ha=>by rw[pI ha,hm];rfl
  have c:=Aj (λy:List Int=>y.headD 0) (x::m.filter λa=>decide (a≠x)) L (λy Z=>by
   obtain⟨a,t,rfl,ha⟩:=ne y Z;by_cases z:a=x
   ·rw[z];exact ak
   ·exact au _ (dG.mpr ⟨ha,dTr z⟩))
  have k1:(L.filter λy=>decide (y.headD 0=x)).length<=fac n:=by
   have:=wg n (m.erase x) (S x X) _ (tl x X).1 (tl x X).2;rwa[aq]at this
  have k2:∀a∈m.filter (λa=>decide (a≠x)),2*(L.filter λy=>decide (y.headD 0=a)).length<=fac n:=λa ha=>by
   rw[dG]at ha;have z:=of_decide_eq_true ha.2;have:=Cr n (m.erase a) x (S a ha.1) (by rwa[List.count_erase_of_ne (fA z)]) _ (tl a ha.1).1 (tl a ha.1).2;rwa[aq]at this
  have s2:∀ks:List Int,(∀a∈ks,2*(L.filter λy=>decide (y.headD 0=a)).length<=fac n)->2*(ks.map λa=>(L.filter λy=>decide (y.headD 0=a)).length).sum<=ks.length*fac n:=λks=>by
   induction ks with
   |nil=>intro _;exact cH _
   |cons a r R=>
    intro h;have:=R λb Y=>h b (au _ Y)
    have:=h a ak;rw[aF,kI,aR,Nat.add_mul r.length 1,Nat.one_mul];omega
  have s2:=s2 _ k2;have fl:(m.filter λa=>decide (a≠x)).length+2<=n+1:=by
   have:=Lg x m;omega
  rw[aF,kI]at c;show 2*L.length<=(n+1)*fac n;have g:(m.filter λa=>decide (a≠x)).length*fac n+2*fac n<=(n+1)*fac n:=by
   rw[<-Nat.add_mul];exact Nat.mul_le_mul_right _ fl
  omega
def HD(w:Nat)(R:List (List Int)):Prop:=∃m:List Int,m.length=w/\∀r∈R,r.Perm m
theorem HD.len{w:Nat}{R:List (List Int)}(h:HD w R):∀r∈R,r.length=w:=λr Z=>by
 obtain⟨m,h1,Y⟩:=h;rw[(Y r Z).length_eq,h1]
theorem S_(hs:List Int):HD hs.length [hs]:=⟨hs,rfl,λr Z=>by rw[aJ.mp Z]⟩
theorem Wk{m:List Int}(h:2<=g.2.2):2<=(can g m).count g.2.1:=by
 unfold can;rw[gO,gO,List.count_replicate_self];omega
theorem ai6:∀w,w<=5->fac w<=120:=by decide
theorem Lh{w:Nat}(D:1<=w)(B:w<=6):∀(gs:List Wi)(rows:List (List Int))(m:List Int),(∀g∈gs,gOk g/\(w=6->2<=g.2.2))->m.length=w->(∀r∈rows,r.Perm m)->Few (lv rows gs)/\∀S∈lv rows gs,HD w (bM S)
 |[],rows,m,_,_,_=>by
  rw[nQ];exact⟨λ_ z=>(nomatch z),λ_ z=>(nomatch z)⟩
 |g::gs,rows,m,R,hm,T=>by
  have Q:=R g ak;have kp:∀k∈bM (eV g rows []),k.Perm (can g m)/\k.length=w:=λk Z=>by
   obtain⟨q,W,rfl⟩:=bK.mp Z;rcases oY rows [] W with z|⟨row,h1,s,h2,rfl⟩
   ·cases z
   ·exact⟨Ei Q.1 (T row h1) h2,by rw[Sd.yE,(T row h1).length_eq,hm]⟩
  have nd:=yI (g:=g) rows [] .nil;have sl:(eV g rows []).length<=400:=by
   by_cases e:eV g rows []=[]
   ·rw[e];exact cH _
   obtain⟨q,W⟩:=iw _ e;have Z:q.1∈bM (eV g rows []):=fU W;have cl:(can g m).length=w:=by rw[<-(kp _ Z).1.length_eq,(kp _ Z).2]
   have P:(eV g rows []).length=(bM (eV g rows [])).length:=by unfold bM;rw[aq]
   rw[P];by_cases c:w=6
   ·have:=Cr w (can g m) g.2.1 cl (Wk (Q.2 c)) _ nd λy V=>(kp y V).1
    rw[c]at this;have:fac 6=720:=rfl;omega
   ·have:=wg w (can g m) cl _ nd λy V=>(kp y V).1
    have:=ai6 w (by omega);omega
  have nr:HD w (bM (eV g rows [])):=by
   by_cases e:eV g rows []=[]
   ·rw[e];exact⟨m,hm,λr z=>nomatch (show r∈([]:List (List Int))from z)⟩
   obtain⟨q,W⟩:=iw _ e;have Z:q.1∈bM (eV g rows []):=fU W;exact⟨can g m,by rw[<-(kp _ Z).1.length_eq,(kp _ Z).2],λr X=>(kp r X).1⟩
  have hd:(eV g rows []).length<=400/\∀k∈bM (eV g rows []),k≠[]/\k.length<=100:=⟨sl,λk Z=>by
   have:=(kp k Z).2;exact⟨λz=>by rw[z]at this;simp at this;omega,by omega⟩⟩
  rw[kO];by_cases e:eV g rows []=[]
  ·rw[if_pos e];exact⟨λS Y=>by rwa[aJ.mp Y],λS Y=>by rwa[aJ.mp Y]⟩
  ·rw[if_neg e];obtain⟨q,W⟩:=iw _ e;have Z:q.1∈bM (eV g rows []):=fU W;have cl:(can g m).length=w:=by rw[<-(kp _ Z).1.length_eq,(kp _ Z).2]
   have U:=Lh D B gs (XJ.dR (bM (eV g rows []))) (can g m) (λg' h'=>R g' (au _ h')) cl λr X=>(kp r ((cU _).mem_iff.mp X)).1
   refine⟨λS Y=>?_,λS Y=>?_⟩<;>rcases aK.mp Y with rfl|Y
   ·exact hd
   ·exact U.1 S Y
   ·exact nr
   ·exact U.2 S Y
theorem HJ{w:Nat}{R:List (List Int)}(B:w<=6)(D:gOk g)(h:HD w R):(eV g R []).length<=1000:=by
 obtain⟨m,hm,X⟩:=h;have kp:∀k∈bM (eV g R []),k.Perm (can g m)/\k.length=w:=λk Z=>by
  obtain⟨q,Y,rfl⟩:=bK.mp Z;rcases oY R [] Y with z|⟨row,h1,s,h2,rfl⟩
  ·cases z
  ·exact⟨Ei D (X row h1) h2,by rw[Sd.yE,(X row h1).length_eq,hm]⟩
 by_cases e:eV g R []=[]
 ·rw[e];exact cH _
 obtain⟨q,Y⟩:=iw _ e;have Z:q.1∈bM (eV g R []):=fU Y;have cl:(can g m).length=w:=by rw[<-(kp _ Z).1.length_eq,(kp _ Z).2]
 have U:(eV g R []).length=(bM (eV g R [])).length:=by unfold bM;rw[aq]
 have:=wg w (can g m) cl _ (yI (g:=g) R [] .nil) λy W=>(kp y W).1
 have V:∀w,w<=6->fac w<=720:=by decide
 have:=V w B;omega
theorem Tc:∀(gs:List Wi)(rows:List (List Int)),(lv rows gs).length<=gs.length
 |[],rows=>by rw[nQ];exact aB _
 |g::gs,rows=>by
  rw[kO,aR,aR];split
  ·simp
  ·exact pW (Tc gs _)
theorem w_eq(s:Str)(h:ff (.str s)=true)(t:Str)(h2:ff (.str t)=true):gEq (.str s) (.str t)=some (.bool (decide (s=t))):=by
 have Z:∀u:Str,ff (.str u)=true->fN (.str u)=true:=λu hu=>wX ⟨hu,by simp[hH]⟩
 unfold gEq;rw[Z s h,Z t h2];show some (ge (s==t))=_;by_cases e:s=t
 ·rw[e];simp
 ·rw[dFa e];simp[e]
theorem Td(ns:List Int){w:Int}(w0:1<=w)(D:w<=6):∃hs:List Int,(hs.length:Int)=w/\(∀h∈hs,0<=h)/\Com.jR [.list (ns.map .int),.int w]=some (.list (hs.map .int)):=by
 have R:uw (some [.int w])=some (gD 0 w):=G6 (by omega) (by omega);have S:Com.bY [.list (ns.map .int),.int 1,.int 0,.int 380]=some (.int (jP ns 1 0 380)):=oG (by decide) (by decide) (by decide) (by decide);have B:=jQ ns 1 0 (m:=380) (by decide);generalize jP ns 1 0 380=b at S B;obtain⟨δ',e,hs,M,N,Q,Z,rfl⟩:=tX (g:=(gNl 4)) (b:=(bU (bO 5 (dCall bY (ao (aj 0) (ao (dC (.int 2)) (ao (aj 4) (ao (dC (.int 9)) (aN))))))) (rT 3 (dOp gIx (jz (ao (dC (.int 0)) (ao (dOp vg (dOp eY (aj 2) (aj 5)) (dC (.int 5))) (aN)))) (dCall q_ (ao (dOp gGt (aj 5) (dC (.int 4))) (aN))))))) (λi δ=>∃(hs:List Int)(X Y:Option U),hs.length=i/\(∀h∈hs,0<=h)/\δ=[some (.d (.list (ns.map .int))),some (.d (.int w)),some (.d (.int b)),some (.d (.list (hs.map .int))),X,Y]) (gD 0 w) [some (.d (.list (ns.map .int))),some (.d (.int w)),some (.d (.int b)),some (.d (.list [])),none,none] ⟨[],none,none,rfl,by simp,rfl⟩
  (by
   rintro i d δ hd ⟨hs,X,Y,T,Z,rfl⟩;obtain⟨K,rfl⟩:=mq hd;have P:Com.bY [.list (ns.map .int),.int 2,.int (i:Int),.int 9]=some (.int (jP ns 2 (i:Int) 9)):=oG (by decide) (by omega) (by omega) (by decide);generalize jP ns 2 (i:Int) 9=x at P;have W:∀v:Int,0<=v->∀h∈hs++[v],0<=h:=λv L h O=>by
    rcases bZ.mp O with z|z
    ·exact Z h z
    ·rwa[aJ.mp z]
   have V:∀v:Int,(hs++[v]).map eT=hs.map eT++[.int v]:=λv=>by rw[cW];rfl
   by_cases c:x>4
   ·refine⟨_,_,rfl,.inl ?_,hs++[b+x-5],some (.d (.int (i:Int))),some (.d (.int x)),by rw[bB,T];rfl,W _ (by omega),rfl⟩;rw[V];simp only[EV,aD,bC,P,dTr c,show q_ [.bool true]=some (.int 1)from rfl,at1,Com.sz (show 2<=1000000 by decide),lMp,show hs.length<1000000 by omega]
   ·refine⟨_,_,rfl,.inl ?_,hs++[0],some (.d (.int (i:Int))),some (.d (.int x)),by rw[bB,T];rfl,W _ (by decide),rfl⟩;rw[V];simp only[EV,aD,bC,P,dFa c,show q_ [.bool false]=some (.int 0)from rfl,Com.sz (show 2<=1000000 by decide),lMp,show hs.length<1000000 by omega])
 refine⟨hs,by rw[Q,K3];omega,Z,?_⟩;unfold Com.jR;simp only[EV,aD,bC,S,R,e,lB,Com.sz (show 0<=1000000 by decide)]
theorem JC(ns:List Int){w m:Int}(w0:1<=w)(D:w<=6)(m0:0<=m)(m1:m<=16):∃gs:List Wi,(gs.length:Int)=m/\(∀g∈gs,grOk g/\gOk g/\g.2.1<=391)/\Com.iJ [.list (ns.map .int),.int w,.int m]=some (.list (gs.map wiD)):=by
 have M:uw (some [.int m])=some (gD 0 m):=G6 (by omega) (by omega);have N:Com.bY [.list (ns.map .int),.int 1,.int 0,.int 380]=some (.int (jP ns 1 0 380)):=oG (by decide) (by decide) (by decide) (by decide);have B:=jQ ns 1 0 (m:=380) (by decide);generalize jP ns 1 0 380=b at N B;obtain⟨δ',e,gs,F,G,H,I,Z,rfl⟩:=tX (g:=(gNl 5)) (b:=(bU (bO 6 (dOp eY (aj 3) (dCall bY (ao (aj 0) (ao (dOp eY (dC (.int 3)) (aj 5)) (ao (dC (.int 0)) (ao (dC (.int 7)) (aN)))))))) (bU (bO 7 (dOp eY (dC (.int 1)) (dCall bY (ao (aj 0) (ao (dOp eY (dC (.int 3)) (aj 5)) (ao (dC (.int 2)) (ao (aj 1) (aN)))))))) (bU (sIf (bG (dOp gEq (dCall bY (ao (aj 0) (ao (dOp eY (dC (.int 3)) (aj 5)) (ao (dC (.int 3)) (ao (dC (.int 16)) (aN)))))) (dC (.int 0)))) (bO 7 (dCall FJ (ao (dC (.int 6)) (ao (dOp eY (aj 1) (dC (.int 1))) (aN))))) (dB)) (rT 4 (dTup (ao (aj 6) (ao (dOp eY (dOp eY (aj 6) (dC (.int 1))) (dCall bY (ao (aj 0) (ao (dOp eY (dC (.int 3)) (aj 5)) (ao (dC (.int 1)) (ao (dC (.int 6)) (aN))))))) (ao (aj 7) (aN)))))))))) (λi δ=>∃(gs:List Wi)(R S T:Option U),gs.length=i/\(∀g∈gs,grOk g/\gOk g/\g.2.1<=391)/\δ=[some (.d (.list (ns.map .int))),some (.d (.int w)),some (.d (.int m)),some (.d (.int b)),some (.d (.list (gs.map wiD))),R,S,T]) (gD 0 m) [some (.d (.list (ns.map .int))),some (.d (.int w)),some (.d (.int m)),some (.d (.int b)),some (.d (.list [])),none,none,none] ⟨[],none,none,none,rfl,by simp,rfl⟩
  (by
   rintro i d δ hd ⟨gs,R,S,T,O,Z,rfl⟩;obtain⟨E,rfl⟩:=mq hd;have P:∀k m:Int,0<=k->k<=1000->0<m->Com.bY [.list (ns.map .int),.int (3+(i:Int)),.int k,.int m]=some (.int (jP ns (3+(i:Int)) k m)):=λk m a b c=>oG (by omega) a b c
   have V:=P 0 7 (by decide) (by decide) (by decide);have J:=jQ ns (3+(i:Int)) 0 (m:=7) (by decide);generalize jP ns (3+(i:Int)) 0 7=x at V J;have X:=P 2 w (by decide) (by decide) (by omega);have L:=jQ ns (3+(i:Int)) 2 (m:=w) (by omega);generalize jP ns (3+(i:Int)) 2 w=s at X L;have Y:=P 3 16 (by decide) (by decide) (by decide);generalize jP ns (3+(i:Int)) 3 16=t at Y;have W:=P 1 6 (by decide) (by decide) (by decide);have K:=jQ ns (3+(i:Int)) 1 (m:=6) (by decide);generalize jP ns (3+(i:Int)) 1 6=y at W K;have ok:∀z:Int,1<=z->z<=6->∀g∈gs++[(b+x,b+x+1+y,z)],grOk g/\gOk g/\g.2.1<=391:=λz z1 z2 g hm=>by
    rcases bZ.mp hm with hm|hm
    ·exact Z g hm
    ·rw[aJ.mp hm];exact⟨⟨by show 0<=b+x;omega,by show b+x<b+x+1+y;omega,by show b+x+1+y<=400;omega,z1,z2⟩,⟨z1,z2⟩,by show b+x+1+y<=391;omega⟩
   have Q:∀z:Int,(gs++[(b+x,b+x+1+y,z)]).map wiD=gs.map wiD++[.tuple [.int (b+x),.int (b+x+1+y),.int z]]:=λv=>by rw[cW];rfl
   by_cases c:t=0
   ·refine⟨_,_,rfl,.inl ?_,gs++[(b+x,b+x+1+y,if w+1<6 then w+1 else 6)],some (.d (.int (i:Int))),some (.d (.int (b+x))),some (.d (.int (if w+1<6 then w+1 else 6))),by rw[bB,O];rfl,ok _ (by split<;>omega) (by split<;>omega),rfl⟩;rw[Q];simp only[EV,aD,bC,V,W,X,Y,dTr c,Com.sz (show 3<=1000000 by decide),lMp,show gs.length<1000000 by omega]
   ·refine⟨_,_,rfl,.inl ?_,gs++[(b+x,b+x+1+y,1+s)],some (.d (.int (i:Int))),some (.d (.int (b+x))),some (.d (.int (1+s))),by rw[bB,O];rfl,ok _ (by omega) (by omega),rfl⟩;rw[Q];simp only[EV,aD,bC,V,W,X,Y,dFa c,Com.sz (show 3<=1000000 by decide),lMp,show gs.length<1000000 by omega])
 refine⟨gs,by rw[I,K3];omega,Z,?_⟩;unfold Com.iJ;simp only[EV,aD,bC,N,M,e,qm wiD (λ_=>rfl),Com.sz (show 0<=1000000 by decide)]
def cof(f:Int)(r:List Int):Nat:=r.countP λe=>decide (f<e)
theorem Te{f:Int}{a b:List Int}(h:a.Perm b):cof f a=cof f b:=h.countP_eq _
theorem Wl{s:Nat}{f:Int}(B:gOk g)(hs:s∈stN row g)(D:g.1<=f):cof f row+(if f<g.2.1 then 1 else 0)<=cof f (Sd.put row (gp g) s):=by
 rw[Te (Ei B (List.Perm.refl row) hs)];unfold can cof;rw[uH,uH,List.countP_filter,List.countP_replicate];have e:row.countP (λa=>decide (f<a)&&decide (g.1<a))=row.countP λa=>decide (f<a):=List.countP_congr λa _=>by
  simp only[aV,decide_eq_true_eq];omega
 rw[e];have:=B.1;split
 ·next z=>rw[if_pos (dTr z)];omega
 ·omega
theorem Li:∀(gs:List Wi)(rows:List (List Int))(S:List Tte),(∀g∈gs,gOk g/\g.1<g.2.1)->gs.Pairwise (λa b=>a.1<=b.1)->S∈lv rows gs->∃g∈gs,∀c,(∀r∈rows,c<=cof g.1 r)->∀k∈bM S,c+1<=cof g.1 k
 |[],rows,S,_,_,h=>by rw[nQ]at h;cases h
 |g::gs,rows,S,W,pw,h=>by
  have V:=W g ak;have st:∀{f:Int}{c:Nat},g.1<=f->(∀r∈rows,c<=cof f r)->∀k∈bM (eV g rows []),c+(if f<g.2.1 then 1 else 0)<=cof f k:=λT Z k X=>by
   obtain⟨q,U,rfl⟩:=bK.mp X;rcases oY rows [] U with z|⟨row,Y,s,hs,rfl⟩
   ·cases z
   ·exact aW (Nat.add_le_add_right (Z row Y) _) (Wl V.1 hs T)
  rw[kO]at h;rcases aK.mp h with rfl|h
  ·refine⟨g,ak,λc Z k X=>?_⟩;have:=st (fV g.1) Z k X;rwa[if_pos V.2]at this
  ·by_cases c:eV g rows []=[]
   ·rw[if_pos c]at h;cases h
   ·rw[if_neg c]at h;obtain⟨g',m,q⟩:=Li gs _ S (λg' h'=>W g' (au _ h')) (bJ.mp pw).2 h;refine⟨g',au _ m,λc Z=>q c λr Y=>?_⟩;have:=st ((bJ.mp pw).1 g' m) Z r ((cU _).mem_iff.mp Y);exact aW (mL ..) this
theorem HN:∀(gs:List Wi)(rows:List (List Int)),(∀g∈gs,gOk g/\g.1<g.2.1)->gs.Pairwise (λa b=>a.1<=b.1)->((lv rows gs).map λS=>XJ.dR (bM S)).Nodup
 |[],rows,_,_=>by rw[nQ];exact .nil
 |g::gs,rows,V,pw=>by
  rw[kO,aF];have Z:=(bJ.mp pw).2;have Y:=λg' h'=>V g' (au _ h')
  by_cases c:eV g rows []=[]
  ·rw[if_pos c];exact b_.mpr ⟨cR,.nil⟩
  ·rw[if_neg c];refine b_.mpr ⟨λz=>?_,HN gs _ Y Z⟩;obtain⟨S,U,e⟩:=bK.mp z;obtain⟨g',_,q⟩:=Li gs _ S Y Z U;have up:∀n:Nat,∀r∈XJ.dR (bM (eV g rows [])),n<=cof g'.1 r:=λn=>by
    induction n with
    |zero=>exact λ_ _=>cH _
    |succ n W=>exact λr R=>q n W r ((cU _).mem_iff.mp (by rwa[e]))
   cases X:eV g rows []with
   |nil=>exact c X
   |cons t T=>
    have:=up (t.1.length+1) t.1 ((cU _).mem_iff.mpr (by rw[X];exact ak));have l:cof g'.1 t.1<=t.1.length:=List.countP_le_length;omega
theorem ZL{a b:List Int}(h:rwD a=rwD b):a=b:=by
 have:a.map eT=b.map eT:=PyData.tuple.inj h;exact uI (λ_ _ z=>PyData.int.inj z) |>.mp this
theorem ZM{a b:List (List Int)}(h:rlD a=rlD b):a=b:=uI (λ_ _ z=>ZL z) |>.mp (PyData.list.inj h)
theorem Tf{Rs:List (List (List Int))}(h:Rs.Nodup)(s:D)(hs:flat s=true):ndN (.tuple [s,.list (Rs.map rlD)])=true:=by
 have f1:(Rs.map rlD).filter isL=Rs.map rlD:=t_.mpr λd hd=>by
  obtain⟨R,_,rfl⟩:=bK.mp hd;rfl
 have f2:(Rs.map rlD).all fl1=true:=cQ.mpr λd hd=>by
  obtain⟨R,_,rfl⟩:=bK.mp hd;exact qm rwD (λr=>lB r) R
 show(flat s&&(Rs.map rlD).all fl1&&_)=true;rw[hs,f1,f2,mY,mY,@decide_eq_true_iff _ (g0 _)];exact List.Pairwise.map _ (λa b z e=>z (ZM e)) h
theorem Wm{ps:List Int}(s:D)(hs:flat s=true):ndN (.tuple [s,.list (ps.map .int)])=true:=by
 have f1:(ps.map eT).filter isL=[]:=lU.mpr λd hd=>by
  obtain⟨R,_,rfl⟩:=bK.mp hd;exact aX
 have f2:(ps.map eT).all fl1=true:=cQ.mpr λd hd=>by
  obtain⟨R,_,rfl⟩:=bK.mp hd;rfl
 show(flat s&&(ps.map eT).all fl1&&_)=true;rw[hs,f1,f2,mY,mY,@decide_eq_true_iff _ (g0 _)];exact .nil
theorem ne_self(h:ly 50 d):gNe d d=some (.bool false):=by
 have e:=Com.eq_self (sZ h (show 50<=60 by decide));unfold gEq at e;unfold gNe;split at e
 ·next q=>
  rw[if_pos q];have:gi d d=true:=by simpa using e
  rw[this];rfl
 ·cases e
theorem Lj(hs:List Int)(gs:List Wi):ly 50 (.list [.list (hs.map .int),.list (gs.map wiD)]):=by
 have a:ly 6 (.list (hs.map .int)):=sZ (v5 (rF (n:=1) eT (λ_=>wW) hs)) (by decide);have b:ly 6 (.list (gs.map wiD)):=sZ (v5 (rF (n:=4) wiD (λg=>sZ (Jp (n:=1) (qt wW (qt wW (qt wW D_)))) (by decide)) gs)) (by decide);exact sZ (v5 (qt a (qt b D_))) (by decide)
theorem Lk(g:Wi)(R:List (List Int)):XJ.dR (bM (eV g R []))=XJ.dR (nxT g R):=by
 have n1:(bM (eV g R [])).Nodup:=yI R [] .nil;have n2:=ZK g R;have p:=(List.perm_ext_iff_of_nodup n1 n2).mpr λx=>Wj
 exact XJ.wR ((cU _).trans (p.trans (cU _).symm)) (XJ.vV n1) (XJ.vV n2)
theorem W8(a b c d e f:Option U):∀(R:List (List Int))(u:Option U),(∀r∈R,r.length<=100) ->
 ∃B,g_ (gNl 6) (sIf (bG (dOp gNe (jk (qd (aj 6)) (gNl 0) (D3.gU (bG (dCall cN (ao (aj 0) (aN))))) (ji (aj 0)) 1 []) (jz (aN)))) (dh (dC (.bool false))) (dB)) (R.map rwD) [a,b,c,d,e,f,u]=some (.nx [a,b,c,d,e,f,B])
 |[],u,_=>⟨u,rfl⟩
 |r::R,u,h=>by
  obtain⟨B,q⟩:=W8 a b c d e f R (some (.d (rwD r))) λx Y=>h x (au _ Y)
  have V:=h r ak;have fs:∀a b c d e f:Option U,qd (aj 6) [a,b,c,d,e,f,some (.d (rwD r))]=some (r.map .int):=λ_ _ _ _ _ _=>rfl
  have C:=Zy (g:=(gNl 0)) (c:=(D3.gU (bG (dCall cN (ao (aj 0) (aN)))))) (e:=(ji (aj 0))) (δ:=[none]) eT (λ_=>false) eT r (λx _=>by
   refine⟨[some (.d (.int x))],rfl,?_,λz=>by cases z⟩;have w:cN [.int x]=some (.bool true):=lwh (.int x);simp only[EV,w])
  rw[ao0]at C;have X:∀a b c d e f g:Option U,j_ 1 [] [a,b,c,d,e,f,g]=[none]:=λ_ _ _ _ _ _ _=>rfl
  have Z:(r.map eT).length<=100000:=by rw[aq];omega
  have W:(sIf (bG (dOp gNe (jk (qd (aj 6)) (gNl 0) (D3.gU (bG (dCall cN (ao (aj 0) (aN))))) (ji (aj 0)) 1 []) (jz (aN)))) (dh (dC (.bool false))) (dB)) [a,b,c,d,e,f,some (.d (rwD r))]=some (.nx [a,b,c,d,e,f,some (.d (rwD r))]):=by
   have ne:gNe (.list []) (.list [])=some (.bool false):=rfl;simp only[EV,fs,Z,X,C,ne,Com.sz (show 0<=1000000 by decide)]
  exact⟨B,by rw[aF];exact(lC rfl W).trans q⟩
theorem Ln(a b c:Option U):∀(gs:List Wi)(R:List (List Int))(u v x:Option U),(∀g∈gs,gOk g)->R≠[]->(∀r∈R,1<=r.length/\r.length<=100)->R.length<=1000->Few (lv R gs)->[]∈lv R gs ->
 ∃J D B,g_ (gTn 2 (cg (gNl 4) (cg (gNl 5) (iT)))) (bU (sIf (D3.tOr (bG (dOp gEq (aj 3) (jz (aN)))) (D3.tOr (D3.gU (bG (dUn (gIs "list") (aj 4)))) (bG (dOp gNe (aj 4) (dCall iI (ao (aj 3) (ao (aj 5) (aN)))))))) (dh (dC (.bool false))) (dB)) (bU (kJ (qd (aj 4)) (gNl 6) (sIf (bG (dOp gNe (jk (qd (aj 6)) (gNl 0) (D3.gU (bG (dCall cN (ao (aj 0) (aN))))) (ji (aj 0)) 1 []) (jz (aN)))) (dh (dC (.bool false))) (dB))) (bO 3 (aj 4)))) (jM ((lv R gs).map λS=>rlD (XJ.dR (bM S))) (gs.map wiD)) [a,b,c,some (.d (rlD R)),u,v,x]=some (.nx [a,b,c,some (.d (.list [])),J,D,B])
 |[],R,u,v,x,_,_,_,_,_,h=>by rw[nQ]at h;cases h
 |g::gs,R,u,v,x,P,H,L,K,Y,h=>by
  have O:=P g ak;rw[kO]at Y h ⊢;obtain⟨f1,f2⟩:=Y _ ak;have pl:=(cU (bM (eV g R []))).length_eq;have pn:=(cU (nxT g R)).length_eq;have nx:=S8 (g:=g) (rows:=R) O.1 O.2 L K (by
   rw[<-pn,<-Lk,pl];unfold bM;rw[aq];omega)
  rw[<-Lk]at nx;have nx:iI [rlD R,wiD g]=some (rlD (XJ.dR (bM (eV g R [])))):=nx;have Q:∀r∈XJ.dR (bM (eV g R [])),1<=r.length/\r.length<=100:=λr m=>by
   obtain⟨k1,k2⟩:=f2 r ((cU _).mem_iff.mp m);have:=j8.mpr k1;omega
  have tl:(XJ.dR (bM (eV g R []))).length<=1000:=by
   rw[pl];unfold bM;rw[aq];omega
  have ne:gNe (rlD (XJ.dR (bM (eV g R [])))) (rlD (XJ.dR (bM (eV g R []))))=some (.bool false):=ne_self (sZ (ai5 _) (by decide));have V:=Wg R;have V:gEq (rlD R) (.list [])=some (.bool false):=by
   rw[V]
   cases R with
   |nil=>exact absurd rfl H
   |cons _ _=>rfl
  generalize W:XJ.dR (bM (eV g R []))=T at *;have ty:D3.isT "list" (tyD (rlD T))=true:=(by decide:D3.isT "list" "list"=true);obtain⟨B,i1⟩:=W8 a b c (some (.d (rlD R))) (some (.d (rlD T))) (some (.d (wiD g))) T x λr m=>(Q r m).2
  have fs:∀a b c d f x:Option U,qd (aj 4) [a,b,c,d,some (.d (rlD T)),f,x]=some (T.map rwD):=λ_ _ _ _ _ _=>rfl
  have N:(gTn 2 (cg (gNl 4) (cg (gNl 5) (iT)))) (.tuple [rlD T,wiD g]) [a,b,c,some (.d (rlD R)),u,v,x]=some [a,b,c,some (.d (rlD R)),some (.d (rlD T)),some (.d (wiD g)),x]:=rfl;have M:(bU (sIf (D3.tOr (bG (dOp gEq (aj 3) (jz (aN)))) (D3.tOr (D3.gU (bG (dUn (gIs "list") (aj 4)))) (bG (dOp gNe (aj 4) (dCall iI (ao (aj 3) (ao (aj 5) (aN)))))))) (dh (dC (.bool false))) (dB)) (bU (kJ (qd (aj 4)) (gNl 6) (sIf (bG (dOp gNe (jk (qd (aj 6)) (gNl 0) (D3.gU (bG (dCall cN (ao (aj 0) (aN))))) (ji (aj 0)) 1 []) (jz (aN)))) (dh (dC (.bool false))) (dB))) (bO 3 (aj 4)))) [a,b,c,some (.d (rlD R)),some (.d (rlD T)),some (.d (wiD g)),x]=some (.nx [a,b,c,some (.d (rlD T)),some (.d (rlD T)),some (.d (wiD g)),B]):=by
   simp only[EV,aD,bC,V,ty,nx,ne,fs,i1,Com.sz (show 0<=1000000 by decide)]
  by_cases Z:eV g R []=[]
  ·rw[if_pos Z];have:T=[]:=by rw[<-W,Z];rfl
   rw[aF,W,iB,show jM [rlD T] ((g::gs).map wiD)=[.tuple [rlD T,wiD g]]from by simp[jM],lC N M,this];exact⟨_,_,_,rfl⟩
  ·rw[if_neg Z]at Y h ⊢;have X:T≠[]:=λz=>by
    rw[z]at pl;unfold bM at pl;rw[aq]at pl;exact Z (bL.mp pl.symm)
   rw[aF,W];have z:jM (rlD T::(lv T gs).map λS=>rlD (XJ.dR (bM S))) ((g::gs).map wiD) = .tuple [rlD T,wiD g]::jM ((lv T gs).map λS=>rlD (XJ.dR (bM S))) (gs.map wiD):=rfl;rw[z,lC N M];refine Ln a b c gs T _ _ _ (λg' h'=>P g' (au _ h')) X Q tl (λS I=>Y S (au _ I)) ?_;rcases aK.mp h with z|z
   ·exact absurd z.symm Z
   ·exact z
section
variable{hs:List Int}{gs:List Wi}
abbrev lsD(hs:List Int)(gs:List Wi):D:=.list ((lv [hs] (lK gs)).map λS=>rlD (XJ.dR (bM S)))
theorem JD(J:∀g∈gs,gOk g)(O:gs.length<64)(D:1<=hs.length)(B:hs.length<=100)(W:Few (lv [hs] (lK gs)))(hn:[]∈lv [hs] (lK gs)):
 iQ [.list (hs.map .int),.list (gs.map wiD),lsD hs gs]=some (.bool true):=by
 obtain⟨u,v,x,e⟩:=Ln (some (.d (.list (hs.map .int)))) (some (.d (.list (gs.map wiD)))) (some (.d (lsD hs gs))) (lK gs) [hs] none none none (λg h=>J g (Ai.mp h)) (by simp) (λr Y=>by rw[aJ.mp Y];exact⟨D,B⟩) (by simp) W hn;have lt:=JB O;have ty:D3.isT "list" (tyD (lsD hs gs))=true:=(by decide:D3.isT "list" "list"=true);have l1:1<=(lv [hs] (lK gs)).length:=List.length_pos_of_mem hn;have l2:=Tc (lK gs) [hs];rw[Hy]at l2;have Z:nU (.list (hs.map eT))=some (rwD hs):=rfl;have X:gEq (.list []) (.list [])=some (.bool true):=rfl;have U:decide ((1:Int)<=((lv [hs] (lK gs)).length:Int))=true:=dTr (by omega);have V:decide (((lv [hs] (lK gs)).length:Int)<=(gs.length:Int))=true:=dTr (by omega);have e:g_ (gTn 2 (cg (gNl 4) (cg (gNl 5) (iT)))) (bU (sIf (D3.tOr (bG (dOp gEq (aj 3) (jz (aN)))) (D3.tOr (D3.gU (bG (dUn (gIs "list") (aj 4)))) (bG (dOp gNe (aj 4) (dCall iI (ao (aj 3) (ao (aj 5) (aN)))))))) (dh (dC (.bool false))) (dB)) (bU (kJ (qd (aj 4)) (gNl 6) (sIf (bG (dOp gNe (jk (qd (aj 6)) (gNl 0) (D3.gU (bG (dCall cN (ao (aj 0) (aN))))) (ji (aj 0)) 1 []) (jz (aN)))) (dh (dC (.bool false))) (dB))) (bO 3 (aj 4)))) (jM ((lv [hs] (lK gs)).map λS=>rlD (XJ.dR (bM S))) ((lK gs).map wiD)) [some (.d (.list (hs.map .int))),some (.d (.list (gs.map wiD))),some (.d (lsD hs gs)),some (.d (.list [rwD hs])),none,none,none]=_:=e;unfold iQ;simp only[EV,aD,bC,ty,lt,Z,e,X,U,V,lMp,Com.sz (show 0<=1000000 by decide),Com.sz (show 1<=1000000 by decide)]
theorem Wn(D:∀g∈gs,grOk g/\gOk g)(J:gs.length<64)(B:hs.length<=6)(O:Few (lv [hs] (lK gs)))(nr:∀S∈lv [hs] (lK gs),HD hs.length (bM S))(hn:[]∈lv [hs] (lK gs)):
 mW [.list (hs.map .int),.list (gs.map wiD),lsD hs gs]=some (.bool true):=by
 have pm:=rH gs.length λt=>(gat gs t).1
 have Z:∀R∈(lv [hs] (lK gs)).map (λS=>XJ.dR (bM S)),R.length<=1000/\HD hs.length R:=λR Y=>by
  obtain⟨S,W,rfl⟩:=bK.mp Y;obtain⟨m,hm,q⟩:=nr S W;refine⟨?_,m,hm,λr Q=>q r ((cU _).mem_iff.mp Q)⟩;have:=(O S W).1;rw[(cU _).length_eq];unfold bM;rw[aq];omega
 have tc:=Hv gs (tn gs.length λt=>(gat gs t).1) [hs];have tc:yg gs [hs] (tn gs.length λt=>(gat gs t).1) ((lv [hs] (lK gs)).map λS=>XJ.dR (bM S))=true:=tc;have X:=Tc (lK gs) [hs];rw[Hy]at X;have le:lsD hs gs = .list (((lv [hs] (lK gs)).map λS=>XJ.dR (bM S)).map rlD):=by rw[cZ];rfl
 obtain⟨V,e,_⟩:=Jx _ _ hn;rw[le];have em:(lv [hs] (lK gs)).map (λS=>XJ.dR (bM S))=V.map (λS=>XJ.dR (bM S))++[[]]:=by rw[e,cW];rfl
 rw[em]at Z tc ⊢;rw[e,bB]at X;have U:=S5 (hs:=hs) (Rs:=V.map λS=>XJ.dR (bM S)) D J (by omega) (Hw J) pm (by rwa[aq]) (λR Y=>⟨(Z R Y).1,(Z R Y).2.len⟩) (λt T ah ha=>by
  have gt:gOk (gat gs t):=by
   have:=bf.mp (pm.mem_iff.mp T);unfold gat;rw[aG,aA this];exact(D _ (cV this)).2
  rcases ha with rfl|ha
  ·exact HJ B gt (S_ hs)
  ·exact HJ B gt (Z ah ha).2)
 rw[U,tc]
theorem Tg(B:∀g∈gs,grOk g/\gOk g/\(hs.length=6->2<=g.2.2))(D:gs.length<64)(O:1<=hs.length)(J:hs.length<=6):
 (∃ps:List Int,laB hs gs ps=true/\oX [.list (hs.map .int),.list (gs.map wiD)]=some (.tuple [.str "laid", .list (ps.map .int)])) \/
 (oX [.list (hs.map .int),.list (gs.map wiD)]=some (.tuple [.str "none", lsD hs gs])/\ndN (.tuple [.str "none", lsD hs gs])=true/\(∃R Ls,lsD hs gs = .list (rlD R::Ls)/\R.length<=400)/\iQ [.list (hs.map .int),.list (gs.map wiD),lsD hs gs]=some (.bool true)/\mW [.list (hs.map .int),.list (gs.map wiD),lsD hs gs]=some (.bool true)):=by
 have go:=λg h=>(B g h).1
 have Z:=λg h=>(B g h).2.1
 have Y:∀g∈gs,grOk g/\gOk g:=λg h=>⟨(B g h).1,(B g h).2.1⟩
 have X:=Hw D;have pm:=rH gs.length λt=>(gat gs t).1
 have pw:=ai3 gs.length λt=>(gat gs t).1
 have it:inT gs (tn gs.length λt=>(gat gs t).1)=lK gs:=rfl;have W:=λg h=>(B g (Ai.mp h)).2
 have fh:=Lh O J (lK gs) [hs] hs W rfl λr U=>by rw[aJ.mp U]
 have V:=Ci go;by_cases hn:[]∈lv [hs] (lK gs)
 ·have L:=Wc (hs:=hs) Z D (by omega) X pm (by rw[it];exact fh.1) (by rwa[it]);have L:eE [.list (hs.map .int),.list (gs.map wiD)]=some (.tuple [.str "none", lsD hs gs]):=L;have T:=HN (lK gs) [hs] (λg h=>⟨(W g h).1,(go g (Ai.mp h)).b⟩) (by
   unfold lK;rw[gM];exact pw)
  refine .inr ⟨?_,?_,?_,JD Z D O (by omega) fh.1 hn,Wn Y D J fh.1 fh.2 hn⟩
  ·unfold oX;simp only[EV,aD,V,L]
  ·have:=Tf T (.str "none") rfl;rwa[cZ]at this
  ·cases e:lv [hs] (lK gs)with
   |nil=>rw[e]at hn;cases hn
   |cons S Q=>
    refine⟨XJ.dR (bM S),Q.map λS=>rlD (XJ.dR (bM S)),by unfold lsD;rw[e];rfl,?_⟩;have:=(fh.1 S (by rw[e];exact ak)).1;rw[(cU _).length_eq];unfold bM;rwa[aq]
 ·obtain⟨ss,out,sl,run,L⟩:=Sw (hs:=hs) Z D (by omega) X pm (by rw[it];exact fh.1) (by rwa[it]);refine .inl ⟨_,Nz Y pm pw sl run,?_⟩;unfold oX;simp only[EV,aD,V,L]
end
def adG(k:Int)(g:Wi):Wi:=(g.1,g.2.1,if k>g.2.2 then k else g.2.2)
theorem Lp{k z:Int}(hz:q_ [.bool (decide (k=6))]=some (.int z))(a b:Option U):∀(gs acc:List Wi)(u v w:Option U),acc.length+gs.length<=1000 ->
 ∃J D B,g_ (gTn 3 (cg (gNl 4) (cg (gNl 5) (cg (gNl 6) (iT))))) (rT 3 (dTup (ao (aj 4) (ao (aj 5) (ao (dCall xG (ao (aj 6) (ao (dOp eY (dC (.int 1)) (dCall q_ (ao (dOp gEq (aj 1) (dC (.int 6))) (aN)))) (aN)))) (aN)))))) (gs.map wiD) [a,some (.d (.int k)),b,some (.d (.list (acc.map wiD))),u,v,w,none,none,none]=some (.nx [a,some (.d (.int k)),b,some (.d (.list ((acc++gs.map (adG (1+z))).map wiD))),J,D,B,none,none,none])
 |[],acc,u,v,w,_=>⟨u,v,w,by rw[iB,iB,cA];rfl⟩
 |g::gs,acc,u,v,w,Y=>by
  rw[aR]at Y;obtain⟨J,D,B,e⟩:=Lp hz a b gs (acc++[adG (1+z) g]) (some (.d (.int g.1))) (some (.d (.int g.2.1))) (some (.d (.int g.2.2))) (by rw[bB,jG];omega);have mx:xG [.int g.2.2,.int (1+z)]=some (.int (adG (1+z) g).2.2):=rfl;have Z:(acc++[adG (1+z) g]).map wiD=acc.map wiD++[.tuple [.int g.1,.int g.2.1,.int (adG (1+z) g).2.2]]:=by rw[cW];rfl
  have X:(rT 3 (dTup (ao (aj 4) (ao (aj 5) (ao (dCall xG (ao (aj 6) (ao (dOp eY (dC (.int 1)) (dCall q_ (ao (dOp gEq (aj 1) (dC (.int 6))) (aN)))) (aN)))) (aN)))))) [a,some (.d (.int k)),b,some (.d (.list (acc.map wiD))),some (.d (.int g.1)),some (.d (.int g.2.1)),some (.d (.int g.2.2)),none,none,none]=some (.nx [a,some (.d (.int k)),b,some (.d (.list ((acc++[adG (1+z) g]).map wiD))),some (.d (.int g.1)),some (.d (.int g.2.1)),some (.d (.int g.2.2)),none,none,none]):=by
   rw[Z];simp only[EV,aD,hz,mx,Com.sz (show 3<=1000000 by decide),lMp,show acc.length<1000000 by omega]
  refine⟨J,D,B,?_⟩;rw[aF,lC rfl X,e,aF,aL,List.singleton_append]
theorem Ti(ns:List Int)(hn:ns.length<=63):K6 [.list (ns.map .int)]=some (.bool true):=by
 have M:Com.bY [.list (ns.map .int),.int 0,.int 0,.int 6]=some (.int (jP ns 0 0 6)):=oG (by decide) (by decide) (by decide) (by decide);have C:=jQ ns 0 0 (m:=6) (by decide);generalize jP ns 0 0 6=w0 at M C;have O:Com.bY [.list (ns.map .int),.int 0,.int 1,.int 17]=some (.int (jP ns 0 1 17)):=oG (by decide) (by decide) (by decide) (by decide);have E:=jQ ns 0 1 (m:=17) (by decide);generalize jP ns 0 1 17=m at O E;obtain⟨hs,lh,hh,K⟩:=Td ns (w:=1+w0) (by omega) (by omega);obtain⟨V,lg,P,F⟩:=JC ns (w:=1+w0) (m:=m) (by omega) (by omega) (by omega) (by omega);obtain⟨Z,u,l1,l2,v⟩:∃Z:Int,q_ [.bool (decide (1+w0=6))]=some (.int Z)/\1<=1+Z/\1+Z<=2/\(hs.length=6->2<=1+Z):=by
  by_cases c:1+w0=6
  ·rw[dTr c];exact⟨1,rfl,by decide,by decide,λ_=>by decide⟩
  ·rw[dFa c];exact⟨0,rfl,by decide,by decide,λz=>by omega⟩
 obtain⟨u4,u5,u6,e⟩:=Lp (k:=1+w0) u (some (.d (.list (ns.map .int)))) (some (.d (.list (hs.map .int)))) V [] none none none (by simp;omega);have G:∀g∈V.map (adG (1+Z)),grOk g/\gOk g/\(hs.length=6->2<=g.2.2):=λg h=>by
  obtain⟨q,h1,rfl⟩:=bK.mp h;obtain⟨a,b,_⟩:=P q h1;have z:(q.2.2<=(adG (1+Z) q).2.2/\1+Z<=(adG (1+Z) q).2.2)/\((adG (1+Z) q).2.2=q.2.2\/(adG (1+Z) q).2.2=1+Z):=by
   unfold adG;dsimp only;split<;>omega
  have b2:=b.2;exact⟨⟨a.f,a.b,a.n,by omega,by omega⟩,⟨by omega,by omega⟩,λe=>jt (v e) z.1.2⟩
 have p:(V.map (adG (1+Z))).length<64:=by rw[aq];omega
 rw[cT]at e;have e:g_ (gTn 3 (cg (gNl 4) (cg (gNl 5) (cg (gNl 6) (iT))))) (rT 3 (dTup (ao (aj 4) (ao (aj 5) (ao (dCall xG (ao (aj 6) (ao (dOp eY (dC (.int 1)) (dCall q_ (ao (dOp gEq (aj 1) (dC (.int 6))) (aN)))) (aN)))) (aN)))))) (V.map wiD) [some (.d (.list (ns.map .int))),some (.d (.int (1+w0))),some (.d (.list (hs.map .int))),some (.d (.list [])),none,none,none,none,none,none]=_:=e;generalize V.map (adG (1+Z))=gs at *;have go:=λg h=>(G g h).1
 have I:=ne_self (Lj hs gs);have l:=Com.eq_self (sZ (Lj hs gs) (by decide));have Q:gIx (.list [.list (hs.map .int),.list (gs.map wiD)]) (.int 0)=some (.list (hs.map .int)):=rfl;have S:gIx (.list [.list (hs.map .int),.list (gs.map wiD)]) (.int 1)=some (.list (gs.map wiD)):=rfl;have W:xH (.list (hs.map eT))=some (.list (hs.map .int)):=rfl;have X:xH (.list (gs.map wiD))=some (.list (gs.map wiD)):=rfl;have ty:∀a b:D,D3.isT "tuple" (tyD (.tuple [a,b]))=true:=λ_ _=>isTup
 have J:∀a b:D,jd [.tuple [a,b]]=some (.int 2):=λ_ _=>rfl
 have Y:gNe (.int 2) (.int 2)=some (.bool false):=rfl;have H:∀a b:D,gIx (.tuple [a,b]) (.int 0)=some a:=λ_ _=>rfl
 have i1:∀a b:D,gIx (.tuple [a,b]) (.int 1)=some b:=λ_ _=>rfl
 have q1:gEq (.str "laid") (.str "laid")=some (.bool true):=w_eq _ (by rw[ff];decide +kernel) _ (by rw[ff];decide +kernel);have q2:gEq (.str "none") (.str "laid")=some (.bool false):=w_eq _ (by rw[ff];decide +kernel) _ (by rw[ff];decide +kernel);have A:gEq (.str "none") (.str "none")=some (.bool true):=w_eq _ (by rw[ff];decide +kernel) _ (by rw[ff];decide +kernel);have fg:flats (gs.map wiD)=true:=qm wiD (λ_=>rfl) gs;have fh:flats (hs.map eT)=true:=lB hs;have nd:∀(t:D)(δ:DS),oX [.list (hs.map .int),.list (gs.map wiD)]=some t->aj 7 δ=some (.list [.list (hs.map .int),.list (gs.map wiD)])->ndN t=true->dNm (dCall oX (ao (dOp gIx (aj 7) (dC (.int 0))) (ao (dOp gIx (aj 7) (dC (.int 1))) (aN)))) δ=some t:=λt δ h1 h2 r=>by
  unfold dNm;have:dCall oX (ao (dOp gIx (aj 7) (dC (.int 0))) (ao (dOp gIx (aj 7) (dC (.int 1))) (aN))) δ=some t:=by
   unfold dCall ao dOp dC aN;rw[h2];exact h1
  rw[this,aC,if_pos r]
 rcases Tg G p (by omega) (by omega)with⟨ps,lp,L⟩|⟨L,n1,⟨R,T,o,rl⟩,L2,i⟩
 ·have st:=R7 (hs:=hs) (ps:=ps) go (by omega);rw[lp]at st;have N:=λa b c d e f g=>nd _ [a,b,c,d,e,f,g,some (.d (.list [.list (hs.map .int),.list (gs.map wiD)])),none,none] L rfl (Wm (.str "laid") rfl)
  unfold K6;simp only[EV,aD,bC,M,O,K,F,e,W,X,N,I,ty,J,Y,H,i1,q1,st,Com.sz (show 0<=1000000 by decide),Com.sz (show 2<=1000000 by decide)]
 ·have N:=λa b c d e f g=>nd _ [a,b,c,d,e,f,g,some (.d (.list [.list (hs.map .int),.list (gs.map wiD)])),none,none] L rfl n1
  have B:=ne_self (d:=.str "none") ⟨by rw[ff];decide +kernel,by simp[hH]⟩;have j:∀a b c d e f g h:Option U,DP 8 (dC (.int 1)) (dC (.int 0)) (dTup (aN)) [a,b,c,d,e,f,g,h,some (.d (.tuple [.str "none", lsD hs gs])),none]=some (.nx [a,b,c,d,e,f,g,h,some (.d (.tuple [.str "none", .list (.list (R.map rwD++[.tuple []])::T)])),none]):=λa b c d e f g h=>by
   rw[o];have s:flat (.tuple [])=true/\(R.map rwD).length<1000000:=⟨rfl,by rw[aq];omega⟩;have y:pIx (rlD R::T).length 0=some 0:=by
    unfold pIx;rw[if_pos (by decide),if_pos (by rw[aR];omega)];rfl
   refine(show _=(pIx (rlD R::T).length 0).bind _ from rfl).trans ?_;rw[y,aC];refine(show _=(if flat (.tuple [])=true/\(R.map rwD).length<1000000 then _ else none)from rfl).trans ?_;rw[if_pos s];rfl
  have pp:∀a b c d e f g h:Option U,KQ 8 (dC (.int 1)) [a,b,c,d,e,f,g,h,some (.d (.tuple [.str "none", .list (.list (R.map rwD++[.tuple []])::T)])),none]=some (.nx [a,b,c,d,e,f,g,h,some (.d (.tuple [.str "none", .list (.list (R.map rwD++[.tuple []])::T).dropLast])),none]):=λa b c d e f g h=>rfl
  have x:O3 (.bool true)=some (.bool false):=rfl;unfold K6;simp only[EV,aD,bC,M,O,K,F,e,W,X,Q,S,L,N,I,l,ty,J,Y,H,i1,q2,A,B,L2,i,x,j,pp,Com.sz (show 0<=1000000 by decide),Com.sz (show 2<=1000000 by decide)]
end K73
namespace K73
open L2 My D3 XS XK
def top(i:Nat):hI:=PySem.Challenge.pw_nightbook_k73_lists_step_by_step.main.body.getD i (.Pass ⟨0,0,0,0⟩)
section
seal PE PT PW PA PS PSs PG PGs PI PO PTs
variable{P:e9}{w:fy}{K:PySem.W.Frag}{mg:Str->Option Value}{base:f8}{n:Nat}
theorem HS(D:Dg K mg "is_whole" (top 5) ["thing"])(B:Bl mg):Has P w K mg base (n+1) "is_whole" ["thing"] (spD K gR):=by
 have sc:FnScope ["thing"] ["thing"] (bH (top 5)):=fsc;exact iH (fl:=[.A]) D sc (by decide) (by decide) λf cdv A outer s H E Z=>bA (cJ (cY (pL (bw (nM (T := "int") (by decide) (vP 0) (by rfl) B.isinstance_ (by rfl) B.int_ PyProof.Rows.boot_int)) (rD (Ph (bw (nM (T := "bool") (by decide) (vP 0) (by rfl) B.isinstance_ (by rfl) B.bool_ ir)))))))
theorem uW(D:Dg K mg "is_whole_within" (top 6) ["thing", "least", "most"])(B:Bl mg)(J:Has P w K mg base n "is_whole" ["thing"] (spD K gR)):Has P w K mg base (n+1) "is_whole_within" ["thing", "least", "most"] (spD K fP):=by
 have sc:FnScope ["thing", "least", "most"] ["thing", "least", "most"] (bH (top 6)):=fsc;exact iH (fl:=[.A,.A,.A]) D sc (by decide) (by decide) λf cdv A outer s H E Z=>bA (cJ (cY (pL (jD (cC J Z (dq (vP 0) dz))) (rD (FP lW lW rA rA (vP 1) (vP 0) (vP 2))))))
theorem Ej(D:Dg K mg "all_whole" (top 7) ["things"])(B:Bl mg)(J:Has P w K mg base n "is_whole" ["thing"] (spD K gR)):Has P w K mg base (n+1) "all_whole" ["things"] (spD K jV):=by
 have sc:FnScope ["things"] ["things"] (bH (top 7)):=fsc;exact iH (fl:=[.A]) D sc (by decide) (by decide) λf cdv A outer s H E Z=>bA (cJ (cY (eU (tK rfl) J9 (by rfl) B.all_ (show bootBuiltins "all"=some (.builtin "all")by decide +kernel) (dq (bw (m6 (L:=[]) (fl':=[.A]) rfl ["thing"] [] [] (zB (vB 0)) (λ_ _ _ _ _=>gN' (i:=0) (show(["thing"]:List Str).Nodup by decide +kernel)) (λ_ _ _ _ _=>m5) (λ_ _ _ _ _=>cC J Z (dq (vP 0) dz)))) dz))))
theorem Al(D:Dg K mg "is_tuple_of" (top 8) ["thing", "many"])(B:Bl mg)(J:Has P w K mg base n "all_whole" ["things"] (spD K jV)):Has P w K mg base (n+1) "is_tuple_of" ["thing", "many"] (spD K fH):=by
 have sc:FnScope ["thing", "many"] ["thing", "many"] (bH (top 8)):=fsc;exact iH (fl:=[.A,.A]) D sc (by decide) (by decide) λf cdv A outer s H E Z=>bA (cJ (xK (pL (bw (nM (T := "tuple") (by decide) (vP 0) (by rfl) B.isinstance_ (by rfl) B.tuple_ hW)) (pL (bw (pK (oN Z.units) zf (bw (eU cB jO (by rfl) B.len_ PySem.boot_len (dq (vP 0) dz))) (vP 1) (dZ _))) (rD (cC J Z (dq (vP 0) dz)))))))
theorem JF(D:Dg K mg "is_pair" (top 9) ["thing"])(B:Bl mg)(J:Has P w K mg base n "is_tuple_of" ["thing", "many"] (spD K fH)):Has P w K mg base (n+1) "is_pair" ["thing"] (spD K qu):=by
 have sc:FnScope ["thing"] ["thing"] (bH (top 9)):=fsc;exact iH (fl:=[.A]) D sc (by decide) (by decide) λf cdv A outer s H E Z=>bA (cJ (xK (cC J Z (dq (vP 0) (dq iP dz)))))
theorem Bb(D:Dg K mg "is_stretch" (top 12) ["thing"])(B:Bl mg)(J:Has P w K mg base n "is_pair" ["thing"] (spD K qu))(O:∃t,mg "NIGHTS"=some (.int 400 t)):Has P w K mg base (n+1) "is_stretch" ["thing"] (spD K mz):=by
 have sc:FnScope ["thing"] ["thing"] (bH (top 12)):=fsc;exact iH (fl:=[.A]) D sc (by decide) (by decide) λf cdv A outer s H E Z=>bA (cJ (cY (pL (jD (cC J Z (dq (vP 0) dz))) (rD (Mr lW JN lW rA b_lt rA iP (eG (dx (vB 0) iP)) (eG (dx (vB 0) iP)) (bw (CP O)))))))
theorem Ek(D:Dg K mg "nights_of" (top 13) ["stay"])(B:Bl mg):Has P w K mg base (n+1) "nights_of" ["stay"] (spD K jT):=by
 have sc:FnScope ["stay"] ["stay"] (bH (top 13)):=fsc;exact iH (fl:=[.A]) D sc (by decide) (by decide) λf cdv A outer s H E Z=>bA (cJ (rC rfl (dq (cY (pJ (eG (dx (vB 0) iP)))) (dq (cY (pJ (eG (dx (vB 0) iP)))) dz))))
theorem HW(D:Dg K mg "is_group" (top 17) ["thing"])(B:Bl mg)(J:Has P w K mg base n "is_whole_within" ["thing", "least", "most"] (spD K fP))(W:Has P w K mg base n "is_stretch" ["thing"] (spD K mz))(Y:Has P w K mg base n "nights_of" ["stay"] (spD K jT))(O:∃t,mg "MOST_OF_A_GROUP"=some (.int 6 t)):Has P w K mg base (n+1) "is_group" ["thing"] (spD K mV):=by
 have sc:FnScope ["thing"] ["thing"] (bH (top 17)):=fsc;exact iH (fl:=[.A]) D sc (by decide) (by decide) λf cdv A outer s H E Z=>bh (iU (xZ (rP (kh (lZ (bw (nM (T := "tuple") (by decide) (vP 0) (by rfl) B.isinstance_ (by rfl) B.tuple_ hW)))) (pN (gB (uK Z.units) Iw (bw (eU cB jO (by rfl) B.len_ PySem.boot_len (dq (vP 0) dz))) iP (dZ _))))) (bA (cJ (cY (mH)))) (dU))
  (bA (cJ (xK (pL (jD (cC W Z (dq (jD (cC Y Z (dq (vP 0) dz))) dz))) (rD (cC J Z (dq (eG (dx (vB 0) iP)) (dq iP (dq (bw (CP O)) dz)))))))))
theorem yh(D:Dg K mg "check_groups" (top 18) ["groups"])(B:Bl mg)(J:Has P w K mg base n "is_group" ["thing"] (spD K mV)):Has P w K mg base (n+1) "check_groups" ["groups"] (spD K h_):=by
 have sc:FnScope ["groups", "at", "group"] ["groups"] (bH (top 18)):=fsc;exact iH (fl:=[.A,.A,.A]) D sc (by decide) (by decide) λf cdv A outer s H E Z=>bA (jN (L:=[]) fq rfl (Us (vB 0) (by rfl) B.enumerate_) (sH rfl (fO (gN' (i:=1) sc.nd) (fO (gN' (i:=2) sc.nd) (pB)))) (bA (iU (kh (lZ (jD (cC J Z (dq (vP 2) dz))))) (bA (FW)) (dU))))
theorem Tj{Pt:Addr}(D:XL.DgT K mg "turns" (top 19) ["groups"] Pt "turns.<locals>.<lambda>" ⟨41,42,41,72⟩)(B:Bl mg):Has P w K mg base (n+1) "turns" ["groups"] (spD K iY):=by
 have sc:FnScope ["groups"] ["groups"] (bH (top 19)):=fsc;exact XL.YL (fl:=[.A]) D sc (by decide) (by decide) λf c A outer s H E Z Y=>bA (cJ (cY (XL.Jo (i:=0) ⟨⟨_,rfl,Z⟩,rfl,D.tb⟩ Y rfl (dq (bw (eU cB jO (by rfl) B.len_ PySem.boot_len (dq (vP 0) dz))) dz) (by rfl) B.sorted_ (by rfl) B.range_ rfl rfl rfl rfl (λ_ h=>XL.Ru rfl h) (λ_ _ _ _ _=>rfl) rfl rfl rfl (by decide +kernel) rfl rfl (by decide) (by decide) (by decide) rfl rfl)))
theorem El(D:Dg K mg "starts_in" (top 20) ["row", "group"])(B:Bl mg):Has P w K mg base (n+1) "starts_in" ["row", "group"] (spD K jq):=by
 have sc:FnScope ["row", "group", "last"] ["row", "group"] (bH (top 20)):=fsc;exact iH (fl:=[.A,.A,.A]) D sc (by decide) (by decide) λf cdv A outer s H E Z=>bh (sA (i:=2) sc.nd (iy (dH Cu JZ (bw (eU cB jO (by rfl) B.len_ PySem.boot_len (dq (vP 0) dz))) (eG (dx (vB 1) iP)))))
  (bA (cJ (cY (m6 (L:=[]) (fl':=[.A,.A,.A]) rfl ["start"] ["group", "row"] [1,0] (jY (by rfl) B.range_ (vH (dq (bw (dH gb jf (vP 2) iP)) dz))) (λ_ _ _ _ _=>gN' (i:=0) (show(["start", "group", "row"]:List Str).Nodup by decide +kernel)) (λ_ _ _ _ _=>JT (gB lW rA (bw (eU (BX rfl) Q5 (by rfl) B.max_ hG (dq (bw (Q0 (vP 2) (pC (vP 0)) (pC (bw (dH gb jf (vP 0) (eG (dx (vB 1) iP))))))) dz))) (eG (dx (vB 1) iP)) (dZ _))) (λ_ _ _ _ _=>mO (pJ (vP 0)))))))
theorem yj(D:Dg K mg "night_behind" (top 21) ["since", "group", "is_own"])(B:Bl mg):Has P w K mg base (n+1) "night_behind" ["since", "group", "is_own"] (spD K fQ):=by
 have sc:FnScope ["since", "group", "is_own"] ["since", "group", "is_own"] (bH (top 21)):=fsc;exact iH (fl:=[.A,.A,.A]) D sc (by decide) (by decide) λf cdv A outer s H E Z=>bh (iU (lZ (vP 2)) (bA (cJ (cY (pJ (eG (dx (vB 1) iP)))))) (dU))
  (bA (cJ (cY (pJ (eG (ab6 (gB lW rA (vP 0) (eG (dx (vB 1) iP)) (dZ _)) (iy (CN)) (vA 0)))))))
theorem Bc(D:Dg K mg "row_behind" (top 22) ["row", "group", "start"])(B:Bl mg)(J:Has P w K mg base n "night_behind" ["since", "group", "is_own"] (spD K fQ)):Has P w K mg base (n+1) "row_behind" ["row", "group", "start"] (spD K gj):=by
 have sc:FnScope ["row", "group", "start", "behind"] ["row", "group", "start"] (bH (top 22)):=fsc;exact iH (fl:=[.A,.A,.A,.A]) D sc (by decide) (by decide) λf cdv A outer s H E Z=>bh (sA (i:=3) sc.nd (iy (dH gb jf (vP 2) (eG (dx (vB 1) iP)))))
  (bA (cJ (xK (Uy (mO (m6 (L:=[]) (fl':=[.A,.A,.A,.A,.A]) rfl ["room", "since"] ["group", "start", "behind"] [1,2,3] (Q9 (vB 0) (by rfl) B.enumerate_) (λ_ _ _ _ _=>sH rfl (fO (gN' (i:=0) (show(["room", "since", "group", "start", "behind"]:List Str).Nodup by decide +kernel)) (fO (gN' (i:=1) (show(["room", "since", "group", "start", "behind"]:List Str).Nodup by decide +kernel)) (pB)))) (λ_ _ _ _ _=>m5) (λ_ _ _ _ _=>cC J Z (dq (vP 1) (dq (vP 2) (dq (bw (FP lW JN rA b_lt (vP 3) (vP 0) (vP 4))) dz)))))) (by rfl) B.tuple_))))
theorem Am(D:Dg K mg "rows_behind" (top 23) ["rows", "group"])(B:Bl mg)(O:Has P w K mg base n "starts_in" ["row", "group"] (spD K jq))(J:Has P w K mg base n "row_behind" ["row", "group", "start"] (spD K gj)):Has P w K mg base (n+1) "rows_behind" ["rows", "group"] (spD K cI):=by
 have sc:FnScope ["rows", "group", "found", "row", "start"] ["rows", "group"] (bH (top 23)):=fsc;exact iH (fl:=[.A,.A,.N,.A,.A]) D sc (by decide) (by decide) λf cdv A outer s H E Z=>bh (CZ (i:=2) rfl sc.nd rfl (by first|exact f7 rfl|exact fF rfl) (J_))
  (bh (jN (L:=[]) fq rfl (n8 (vB 0)) (gN' (i:=3) sc.nd) (bA (jN (L:=[]) fq rfl (n8 (lH (pq (cC O Z (dq (vP 3) (dq (vP 1) dz)))))) (gN' (i:=4) sc.nd) (bA (XJ.QB (i:=2) (XK.hu1 Z.units) rfl (jD (cC J Z (dq (vP 3) (dq (vP 1) (dq (vP 4) dz))))) (eG (rC rfl (dq (vA 3) (dq (vA 4) dz)))) rfl ⟨rfl,rfl,rfl,rfl⟩)))))
  (bA (cJ (PN 2 rfl))))
theorem Bd(D:Dg K mg "all_behind" (top 24) ["held", "groups"])(B:Bl mg)(Y:Has P w K mg base n "turns" ["groups"] (spD K iY))(J:Has P w K mg base n "rows_behind" ["rows", "group"] (spD K cI))(W:∃t,mg "MOST_ROWS"=some (.int 400 t)):Has P w K mg base (n+1) "all_behind" ["held", "groups"] (spL K mC):=by
 have sc:FnScope ["held", "groups", "found", "rows", "place", "behind"] ["held", "groups"] (bH (top 24)):=fsc;exact Yo (fl:=[.A,.A,.O,.A,.A,.A]) D sc (by decide) (by decide) λf cdv A outer s H E Z=>bh (vG (i:=2) rfl sc.nd rfl (by first|exact f7 rfl|exact fF rfl) (wF (mZ dz)))
  (bh (sA (i:=3) sc.nd (oO (tH (dq (yr (vB 0) (by rfl) B.tuple_) dz))))
  (bh (jN (L:=[]) fq rfl (n8 (lH (pq (cC Y Z (dq (vP 1) dz))))) (gN' (i:=4) sc.nd) (bh (sA (i:=5) sc.nd (pq (cC J Z (dq (vP 3) (dq (eG (dx (vB 1) (vP 4))) dz)))))
  (bh (tG (i:=2) rfl (vA 5) rfl)
  (bh (iU (gB Bk Mp (bw (XJ.DK (dq (vP 5) dz) (by rfl) B.len_)) (bw (CP W)) (dZ _)) (bA (FW)) (dU))
  (bh (iU (gB (oN Z.units) zf (bw (XJ.DK (dq (vP 5) dz) (by rfl) B.len_)) iP (dZ _)) (bA (Kc (vq (rm 2)))) (dU))
  (bA (sA (i:=3) sc.nd (iy (XJ.vX rfl (dq (vP 5) dz) (by rfl) B.sorted_)))))))))
  (bA (Kc (vq (rm 2))))))
theorem Em(D:Dg K mg "places_by" (top 25) ["found", "groups"])(B:Bl mg)(J:Has P w K mg base n "turns" ["groups"] (spD K iY)):Has P w K mg base (n+1) "places_by" ["found", "groups"] (spD K lJ):=by
 have sc:FnScope ["found", "groups", "places", "row", "place", "behind"] ["found", "groups"] (bH (top 25)):=fsc;exact iH (fl:=[.A,.A,.O,.A,.A,.A]) D sc (by decide) (by decide) λf cdv A outer s H E Z=>bh (vG (i:=2) rfl sc.nd rfl (by first|exact f7 rfl|exact fF rfl) (Pu (wF (mZ (dq (mO (O5)) dz))) (bw (eU cB jO (by rfl) B.len_ PySem.boot_len (dq (vP 1) dz)))))
  (bh (sA (i:=3) sc.nd (iy (O5)))
  (bh (jN (L:=[]) fq rfl (Yn (lH (oO (XK.Rg (lH (pq (cC J Z (dq (vP 1) dz)))) (vB 0) rfl (by rfl) B.list_ (by rfl) B.zip_))) (by rfl) B.reversed_) (sH rfl (fO (gN' (i:=4) sc.nd) (fO (gN' (i:=5) sc.nd) (pB)))) (bh (iU (Yh (vP 3)) (bA (sA (i:=3) sc.nd (dx (lH (iy (XJ.vX rfl (dq (vP 5) dz) (by rfl) B.sorted_))) iP))) (dU))
  (bh (X7 (i:=2) rfl (dx (lH (iy (XJ.Gv (XK.hu1 Z.units) (vP 5) (vP 3) (λ_ _=>rfl)))) iP) (vP 4) rfl)
  (bA (sA (i:=3) sc.nd (dx (lH (iy (XJ.Gv (XK.hu1 Z.units) (vP 5) (vP 3) (λ_ _=>rfl)))) iP))))))
  (bA (cJ (CK 2 (by decide))))))
theorem ud(D:Dg K mg "laid_as_they_are" (top 26) ["held", "groups"])(B:Bl mg)(J:Has P w K mg base n "all_behind" ["held", "groups"] (spL K mC))(O:Has P w K mg base n "places_by" ["found", "groups"] (spD K lJ)):Has P w K mg base (n+1) "laid_as_they_are" ["held", "groups"] (spD K eE):=by
 have sc:FnScope ["held", "groups", "found"] ["held", "groups"] (bH (top 26)):=fsc;exact iH (fl:=[.A,.A,.A]) D sc (by decide) (by decide) λf cdv A outer s H E Z=>bh (sA (i:=2) sc.nd (al5 rfl (Qc J Z (dq (vP 0) (dq (vP 1) dz)))))
  (bh (iU (xZ (Pj (gB Bk Mp (bw (eU cB jO (by rfl) B.len_ PySem.boot_len (dq (vP 2) dz))) iP (dZ _)) (J4 (gB (oN Z.units) zf (bw (XJ.DK (dq (eG (dx (vB 2) (bw (Pn iP)))) dz) (by rfl) B.len_)) iP (dZ _))))) (bA (cJ (rC rfl (dq (cY (yZ)) (dq (cY (m6 (L:=[]) (fl':=[.A]) rfl ["behind"] [] [] (n8 (vB 2)) (λ_ _ _ _ _=>gN' (i:=0) (show(["behind"]:List Str).Nodup by decide +kernel)) (λ_ _ _ _ _=>m5) (λ_ _ _ _ _=>mO (XJ.vX rfl (dq (vP 0) dz) (by rfl) B.sorted_)))) dz))))) (dU))
  (bA (cJ (rC rfl (dq (cY (yZ)) (dq (xK (cC O Z (dq (vP 2) (dq (vP 1) dz)))) dz))))))
theorem Wo(D:Dg K mg "laid" (top 27) ["held", "groups"])(B:Bl mg)(O:Has P w K mg base n "check_groups" ["groups"] (spD K h_))(J:Has P w K mg base n "laid_as_they_are" ["held", "groups"] (spD K eE)):Has P w K mg base (n+1) "laid" ["held", "groups"] (spD K oX):=by
 have sc:FnScope ["held", "groups"] ["held", "groups"] (bH (top 27)):=fsc;exact iH (fl:=[.A,.A]) D sc (by decide) (by decide) λf cdv A outer s H E Z=>bh (J0 (jD (cC O Z (dq (vP 1) dz))))
  (bA (cJ (xK (cC J Z (dq (vP 0) (dq (vP 1) dz))))))
theorem Ao(D:Dg K mg "is_row_list" (top 28) ["thing", "many"])(B:Bl mg)(J:Has P w K mg base n "is_tuple_of" ["thing", "many"] (spD K fH)):Has P w K mg base (n+1) "is_row_list" ["thing", "many"] (spD K iM):=by
 have sc:FnScope ["thing", "many"] ["thing", "many"] (bH (top 28)):=fsc;exact iH (fl:=[.A,.A]) D sc (by decide) (by decide) λf cdv A outer s H E Z=>bA (cJ (cY (pL (bw (nM (T := "list") (by decide) (vP 0) (by rfl) B.isinstance_ (by rfl) B.list_ gl)) (rD (eU (tK rfl) J9 (by rfl) B.all_ (show bootBuiltins "all"=some (.builtin "all")by decide +kernel) (dq (bw (m6 (L:=[]) (fl':=[.A,.A]) rfl ["row"] ["many"] [1] (n8 (vB 0)) (λ_ _ _ _ _=>gN' (i:=0) (show(["row", "many"]:List Str).Nodup by decide +kernel)) (λ_ _ _ _ _=>m5) (λ_ _ _ _ _=>cC J Z (dq (vP 0) (dq (vP 1) dz))))) dz))))))
theorem JG(D:Dg K mg "has_all" (top 29) ["rows", "needed"])(B:Bl mg):Has P w K mg base (n+1) "has_all" ["rows", "needed"] (spD K jF):=by
 have sc:FnScope ["rows", "needed", "known"] ["rows", "needed"] (bH (top 29)):=fsc;exact iH (fl:=[.A,.A,.A]) D sc (by decide) (by decide) λf cdv A outer s H E Z=>bh (sA (i:=2) sc.nd (pq (XJ.Ri Z.units Z.hd (dq (bw (m6 (L:=[]) (fl':=[.A]) rfl ["row"] [] [] (n8 (vB 0)) (λ_ _ _ _ _=>gN' (i:=0) (show(["row"]:List Str).Nodup by decide +kernel)) (λ_ _ _ _ _=>m5) (λ_ _ _ _ _=>mO (pJ (eG (rC rfl (dq (vA 0) (dq (iy (mH)) dz)))))))) dz) (by rfl) B.dict_)))
  (bA (cJ (cY (eU (tK rfl) J9 (by rfl) B.all_ (show bootBuiltins "all"=some (.builtin "all")by decide +kernel) (dq (bw (XJ.QX (fl':=[.A,.A]) rfl ["row"] ["known"] [2] (vP 1) (λ_ _ _ _ _=>gN' (i:=0) (show(["row", "known"]:List Str).Nodup by decide +kernel)) (λ_ _ _ _ _=>m5) (λ_ _ _ _ _=>mO (pK (XJ.YC Z.units) XJ.ad1 (vP 0) (vP 1) (by with_unfolding_all rfl))))) dz)))))
theorem JH(D:Dg K mg "is_none" (top 30) ["held", "groups", "thing"])(B:Bl mg)(J:Has P w K mg base n "check_groups" ["groups"] (spD K h_))(Z:Has P w K mg base n "turns" ["groups"] (spD K iY))(O:Has P w K mg base n "rows_behind" ["rows", "group"] (spD K cI))(W:Has P w K mg base n "is_row_list" ["thing", "many"] (spD K iM))(Y:Has P w K mg base n "has_all" ["rows", "needed"] (spD K jF)):Has P w K mg base (n+1) "is_none" ["held", "groups", "thing"] (spD K mW):=by
 have sc:FnScope ["held", "groups", "thing", "ahead", "place", "rows"] ["held", "groups", "thing"] (bH (top 30)):=fsc;exact iH (fl:=[.A,.A,.A,.A,.A,.A]) D sc (by decide) (by decide) λf cdv A outer s H E X=>bh (J0 (jD (cC J X (dq (vP 1) dz))))
  (bh (iU (xZ (rP (kh (lZ (bw (nM (T := "list") (by decide) (vP 2) (by rfl) B.isinstance_ (by rfl) B.list_ gl)))) (pN (kh (zj lW lW rA rA iP (bw (eU cB jO (by rfl) B.len_ PySem.boot_len (dq (vP 2) dz))) (bw (eU cB jO (by rfl) B.len_ PySem.boot_len (dq (vP 1) dz)))))))) (bA (cJ (cY (mH)))) (dU))
  (bh (iU (xZ (rP (kh (lZ (bw (eU (tK rfl) J9 (by rfl) B.all_ (show bootBuiltins "all"=some (.builtin "all")by decide +kernel) (dq (bw (m6 (L:=[]) (fl':=[.A,.A]) rfl ["rows"] ["held"] [0] (n8 (vB 2)) (λ_ _ _ _ _=>gN' (i:=0) (show(["rows", "held"]:List Str).Nodup by decide +kernel)) (λ_ _ _ _ _=>m5) (λ_ _ _ _ _=>cC W X (dq (vP 0) (dq (bw (eU cB jO (by rfl) B.len_ PySem.boot_len (dq (vP 1) dz))) dz))))) dz))))) (pN (gB Bk Mp (bw (eU cB jO (by rfl) B.len_ PySem.boot_len (dq (eG (dx (vB 2) (bw (Pn iP)))) dz))) iP (dZ _))))) (bA (cJ (cY (mH)))) (dU))
  (bh (sA (i:=3) sc.nd (oO (tH (dq (yr (vB 0) (by rfl) B.tuple_) dz))))
  (bh (jN (L:=[]) fq rfl (PK (L1:=[]) (L2:=[]) (lH (pq (cC Z X (dq (vP 1) dz)))) (vB 2) (by rfl) B.zip_) (sH rfl (fO (gN' (i:=4) sc.nd) (fO (gN' (i:=5) sc.nd) (pB)))) (bh (iU (kh (lZ (jD (cC Y X (dq (vP 5) (dq (jD (cC O X (dq (vP 3) (dq (eG (dx (vB 1) (vP 4))) dz)))) dz)))))) (bA (cJ (cY (mH)))) (dU))
  (bA (sA (i:=3) sc.nd (vA 5)))))
  (bA (cJ (cY (mH))))))))
theorem En(D:Dg K mg "_law_cell" (top 32) ["_law_script", "_law_at"])(B:Bl mg):Has P w K mg base (n+1) "_law_cell" ["_law_script", "_law_at"] (spD K jm):=by
 have sc:FnScope ["_law_script", "_law_at"] ["_law_script", "_law_at"] (bH (top 32)):=fsc;exact iH (fl:=[.A,.A]) D sc (by decide) (by decide) λf cdv A outer s H E Z=>bh (iU (gB JN b_lt (vP 1) (bw (eU cB jO (by rfl) B.len_ PySem.boot_len (dq (vP 0) dz))) (dZ _)) (bA (cJ (cY (dH n6 vC (eG (dx (vB 0) (vP 1))) iP)))) (dU))
  (bh (iU (gB (oN Z.units) zf (vP 0) (bw (mZ dz)) (dZ _)) (bA (cJ (cY (dH gb jf (bw (dH pA xM iP (vP 1))) iP)))) (dU))
  (bA (cJ (cY (dH gb jf (bw (dH n6 vC (eG (dx (vB 0) (bw (dH n6 vC (bw (dH pA xM (vP 1) iP)) (bw (eU cB jO (by rfl) B.len_ PySem.boot_len (dq (vP 0) dz))))))) iP)) (bw (dH pA xM iP (vP 1))))))))
theorem Eo(D:Dg K mg "_law_part" (top 33) ["_law_script", "_law_at", "_law_k", "_law_many"])(B:Bl mg)(J:Has P w K mg base n "_law_cell" ["_law_script", "_law_at"] (spD K jm)):Has P w K mg base (n+1) "_law_part" ["_law_script", "_law_at", "_law_k", "_law_many"] (spD K bY):=by
 have sc:FnScope ["_law_script", "_law_at", "_law_k", "_law_many", "_law_number", "_law_j"] ["_law_script", "_law_at", "_law_k", "_law_many"] (bH (top 33)):=fsc;exact iH (fl:=[.A,.A,.A,.A,.A,.A]) D sc (by decide) (by decide) λf cdv A outer s H E Z=>bh (iU (xZ (Pj (gB JN b_lt (vP 1) (bw (eU cB jO (by rfl) B.len_ PySem.boot_len (dq (vP 0) dz))) (dZ _)) (J4 (gB Z8 ak9 (eG (dx (vB 0) (vP 1))) (bw (dH Xw ab3 iP iP)) (dZ _))))) (bh (sA (i:=4) sc.nd (dx (vB 0) (vP 1)))
  (bh (jN (L:=[]) fq rfl (jY (by rfl) B.range_ (vH (dq (vP 2) dz))) (gN' (i:=5) sc.nd) (bA (sA (i:=4) sc.nd (iy (dH JX Wx (vP 4) iP)))))
  (bA (iU (gB Bk Mp (vP 4) iP (dZ _)) (bA (cJ (cY (dH n6 vC (bw (dH n6 vC (vP 4) iP)) (vP 3))))) (dU))))) (dU))
  (bh (sA (i:=4) sc.nd (iy (dH n6 vC (bw (dH pA xM (bw (dH gb jf (bw (dH gb jf (jD (cC J Z (dq (vP 0) (dq (vP 1) dz)))) (bw (dH pA xM iP (vP 1))))) iP)) (bw (dH gb jf iP (bw (dH pA xM iP (vP 2))))))) iP)))
  (bh (sA (i:=4) sc.nd (iy (dH gb jf (bw (dH n6 vC (bw (dH pA xM (vP 4) (vP 4))) iP)) iP)))
  (bA (cJ (cY (dH n6 vC (bw (dH JX Wx (bw (dH n6 vC (bw (dH pA xM (vP 4) (vP 4))) iP)) iP)) (vP 3)))))))
theorem Bf(D:Dg K mg "_law_whole" (top 34) ["_law_found"])(B:Bl mg):Has P w K mg base (n+1) "_law_whole" ["_law_found"] (spD K cN):=by
 have sc:FnScope ["_law_found"] ["_law_found"] (bH (top 34)):=fsc;exact iH (fl:=[.A]) D sc (by decide) (by decide) λf cdv A outer s H E Z=>bA (cJ (cY (pL (bw (nM (T := "int") (by decide) (vP 0) (by rfl) B.isinstance_ (by rfl) B.int_ PyProof.Rows.boot_int)) (rD (Ph (bw (nM (T := "bool") (by decide) (vP 0) (by rfl) B.isinstance_ (by rfl) B.bool_ ir)))))))
theorem Bg(D:Dg K mg "_law_apart" (top 35) ["_law_one", "_law_place", "_law_other", "_law_there"])(B:Bl mg):Has P w K mg base (n+1) "_law_apart" ["_law_one", "_law_place", "_law_other", "_law_there"] (spD K dD):=by
 have sc:FnScope ["_law_one", "_law_place", "_law_other", "_law_there"] ["_law_one", "_law_place", "_law_other", "_law_there"] (bH (top 35)):=fsc;exact iH (fl:=[.A,.A,.A,.A]) D sc (by decide) (by decide) λf cdv A outer s H E Z=>bh (iU (xZ (rP (gB lW rA (eG (dx (vB 0) iP)) (eG (dx (vB 2) iP)) (dZ _)) (pN (gB lW rA (eG (dx (vB 2) iP)) (eG (dx (vB 0) iP)) (dZ _))))) (bA (cJ (cY (mH)))) (dU))
  (bA (cJ (cY (ab5 (bw (pK lW rA (bw (dH gb jf (vP 1) (eG (dx (vB 0) iP)))) (vP 3) (dZ _))) (rD (pK lW rA (bw (dH gb jf (vP 3) (eG (dx (vB 2) iP)))) (vP 1) (dZ _)))))))
theorem Ep(D:Dg K mg "_law_sits" (top 36) ["_law_held_here", "_law_groups_here", "_law_places"])(B:Bl mg)(J:Has P w K mg base n "_law_whole" ["_law_found"] (spD K cN))(O:Has P w K mg base n "_law_apart" ["_law_one", "_law_place", "_law_other", "_law_there"] (spD K dD)):Has P w K mg base (n+1) "_law_sits" ["_law_held_here", "_law_groups_here", "_law_places"] (spD K jU):=by
 have sc:FnScope ["_law_held_here", "_law_groups_here", "_law_places", "_law_at", "_law_place", "_law_first", "_law_behind", "_law_size", "_law_k"] ["_law_held_here", "_law_groups_here", "_law_places"] (bH (top 36)):=fsc;exact iH (fl:=[.A,.A,.A,.A,.A,.A,.A,.A,.A]) D sc (by decide) (by decide) λf cdv A outer s H E Z=>bh (iU (xZ (rP (kh (lZ (bw (nM (T := "list") (by decide) (vP 2) (by rfl) B.isinstance_ (by rfl) B.list_ gl)))) (pN (gB (uK Z.units) Iw (bw (eU cB jO (by rfl) B.len_ PySem.boot_len (dq (vP 2) dz))) (bw (eU cB jO (by rfl) B.len_ PySem.boot_len (dq (vP 1) dz))) (dZ _))))) (bA (cJ (cY (mH)))) (dU))
  (bh (jN (L:=[]) fq rfl (jY (by rfl) B.range_ (vH (dq (bw (eU cB jO (by rfl) B.len_ PySem.boot_len (dq (vP 1) dz))) dz))) (gN' (i:=3) sc.nd) (bh (sA (i:=4) sc.nd (dx (vB 2) (vP 3)))
  (bh (O6 (dx (vB 1) (vP 3)) (sH rfl (fO (gN' (i:=5) sc.nd) (fO (gN' (i:=6) sc.nd) (fO (gN' (i:=7) sc.nd) (pB))))))
  (bh (iU (xZ (rP (kh (lZ (jD (cC J Z (dq (vP 4) dz))))) (pN (kh (zj lW lW rA rA iP (vP 4) (bw (dH Cu JZ (bw (eU cB jO (by rfl) B.len_ PySem.boot_len (dq (vP 0) dz))) (vP 7)))))))) (bA (cJ (cY (mH)))) (dU))
  (bA (iU (gB Bk Mp (bw (eU (Mt rfl) Ye (by rfl) B.max_ hG (dq (ab2 (Px (vB 0) (pC (vP 4)) (pC (bw (dH gb jf (vP 4) (vP 7)))))) dz))) (vP 5) (dZ _)) (bA (cJ (cY (mH)))) (dU)))))))
  (bh (jN (L:=[]) fq rfl (jY (by rfl) B.range_ (vH (dq (bw (eU cB jO (by rfl) B.len_ PySem.boot_len (dq (vP 1) dz))) dz))) (gN' (i:=3) sc.nd) (bA (jN (L:=[]) fq rfl (jY (by rfl) B.range_ (vH (dq (vP 3) dz))) (gN' (i:=8) sc.nd) (bA (iU (kh (lZ (jD (cC O Z (dq (eG (dx (vB 1) (vP 8))) (dq (eG (dx (vB 2) (vP 8))) (dq (eG (dx (vB 1) (vP 3))) (dq (eG (dx (vB 2) (vP 3))) dz)))))))) (bA (cJ (cY (mH)))) (dU))))))
  (bA (cJ (cY (mH))))))
theorem Er(D:Dg K mg "_law_held" (top 37) ["_law_script", "_law_wide"])(B:Bl mg)(J:Has P w K mg base n "_law_part" ["_law_script", "_law_at", "_law_k", "_law_many"] (spD K bY)):Has P w K mg base (n+1) "_law_held" ["_law_script", "_law_wide"] (spD K jR):=by
 have sc:FnScope ["_law_script", "_law_wide", "_law_base", "_law_held_here", "_law_room", "_law_number"] ["_law_script", "_law_wide"] (bH (top 37)):=fsc;exact iH (fl:=[.A,.A,.A,.O,.A,.A]) D sc (by decide) (by decide) λf cdv A outer s H E Z=>bh (sA (i:=2) sc.nd (pq (cC J Z (dq (vP 0) (dq iP (dq iP (dq iP dz)))))))
  (bh (vG (i:=3) rfl sc.nd rfl (by first|exact f7 rfl|exact fF rfl) (wF (mZ dz)))
  (bh (jN (L:=[]) fq rfl (jY (by rfl) B.range_ (vH (dq (vP 1) dz))) (gN' (i:=4) sc.nd) (bh (sA (i:=5) sc.nd (pq (cC J Z (dq (vP 0) (dq iP (dq (vP 4) (dq iP dz)))))))
  (bA (tG (i:=3) rfl (dx (lH (iy (mZ (dq iC (dq (mO (dH Cu JZ (bw (dH gb jf (vP 2) (vP 5))) iP)) dz))))) (bw (CW (dq (bw (pK Bk Mp (vP 5) iP (dZ _))) dz) (by rfl) B.int_))) rfl))))
  (bA (cJ (CK 3 (by decide))))))
theorem Aq(D:Dg K mg "_law_groups" (top 38) ["_law_script", "_law_wide", "_law_many"])(B:Bl mg)(J:Has P w K mg base n "_law_part" ["_law_script", "_law_at", "_law_k", "_law_many"] (spD K bY)):Has P w K mg base (n+1) "_law_groups" ["_law_script", "_law_wide", "_law_many"] (spD K iJ):=by
 have sc:FnScope ["_law_script", "_law_wide", "_law_many", "_law_base", "_law_groups_here", "_law_k", "_law_first", "_law_size"] ["_law_script", "_law_wide", "_law_many"] (bH (top 38)):=fsc;exact iH (fl:=[.A,.A,.A,.A,.O,.A,.A,.A]) D sc (by decide) (by decide) λf cdv A outer s H E Z=>bh (sA (i:=3) sc.nd (pq (cC J Z (dq (vP 0) (dq iP (dq iP (dq iP dz)))))))
  (bh (vG (i:=4) rfl sc.nd rfl (by first|exact f7 rfl|exact fF rfl) (wF (mZ dz)))
  (bh (jN (L:=[]) fq rfl (jY (by rfl) B.range_ (vH (dq (vP 2) dz))) (gN' (i:=5) sc.nd) (bh (sA (i:=6) sc.nd (iy (dH gb jf (vP 3) (jD (cC J Z (dq (vP 0) (dq (bw (dH gb jf iP (vP 5))) (dq iP (dq iP dz)))))))))
  (bh (sA (i:=7) sc.nd (iy (dH gb jf iP (jD (cC J Z (dq (vP 0) (dq (bw (dH gb jf iP (vP 5))) (dq iP (dq (vP 1) dz)))))))))
  (bh (iU (gB (oN Z.units) zf (jD (cC J Z (dq (vP 0) (dq (bw (dH gb jf iP (vP 5))) (dq iP (dq iP dz)))))) iP (dZ _)) (bA (sA (i:=7) sc.nd (iy (eU (LK rfl) Yd (by rfl) B.min_ PyProof.Rows.boot_min (dq iP (dq (bw (dH gb jf (vP 1) iP)) dz)))))) (dU))
  (bA (tG (i:=4) rfl (rC rfl (dq (vA 6) (dq (iy (dH gb jf (bw (dH gb jf (vP 6) iP)) (jD (cC J Z (dq (vP 0) (dq (bw (dH gb jf iP (vP 5))) (dq iP (dq iP dz)))))))) (dq (vA 7) dz)))) rfl))))))
  (bA (cJ (CK 4 (by decide))))))
theorem Bh(D:Dg K mg "_law_turns" (top 39) ["_law_groups_here"])(B:Bl mg):Has P w K mg base (n+1) "_law_turns" ["_law_groups_here"] (spD K mD):=by
 have sc:FnScope ["_law_groups_here"] ["_law_groups_here"] (bH (top 39)):=fsc;exact iH (fl:=[.A]) D sc (by decide) (by decide) λf cdv A outer s H E Z=>bA (cJ (cY (m6 (L:=[]) (fl':=[.A,.A]) rfl ["_law_pair"] ["_law_groups_here"] [0] (n8 (lH (iy (Qd (dq (bw (m6 (L:=[]) (fl':=[.A,.A]) rfl ["_law_at"] ["_law_groups_here"] [0] (jY (by rfl) B.range_ (vH (dq (bw (eU cB jO (by rfl) B.len_ PySem.boot_len (dq (vP 0) dz))) dz))) (λ_ _ _ _ _=>gN' (i:=0) (show(["_law_at", "_law_groups_here"]:List Str).Nodup by decide +kernel)) (λ_ _ _ _ _=>m5) (λ_ _ _ _ _=>mO (pJ (eG (rC rfl (dq (dx (lH (dx (vB 1) (vP 0))) iP) (dq (vA 0) dz)))))))) dz) (by rfl) B.sorted_)))) (λ_ _ _ _ _=>gN' (i:=0) (show(["_law_pair", "_law_groups_here"]:List Str).Nodup by decide +kernel)) (λ_ _ _ _ _=>m5) (λ_ _ _ _ _=>mO (pJ (eG (dx (vB 1) (eG (dx (vB 0) iP)))))))))
theorem Es(D:Dg K mg "_law_next" (top 40) ["_law_rows", "_law_group"])(B:Bl mg):Has P w K mg base (n+1) "_law_next" ["_law_rows", "_law_group"] (spD K iI):=by
 have sc:FnScope ["_law_rows", "_law_group", "_law_first", "_law_behind", "_law_size", "_law_found", "_law_row", "_law_rest", "_law_place", "_law_other"] ["_law_rows", "_law_group"] (bH (top 40)):=fsc;exact iH (fl:=[.A,.A,.A,.A,.A,.N,.A,.A,.A,.A]) D sc (by decide) (by decide) λf cdv A outer s H E Z=>bh (O6 (vA 1) (sH rfl (fO (gN' (i:=2) sc.nd) (fO (gN' (i:=3) sc.nd) (fO (gN' (i:=4) sc.nd) (pB))))))
  (bh (CZ (i:=5) rfl sc.nd rfl (by first|exact f7 rfl|exact fF rfl) (J_))
  (bh (jN (L:=[]) fq rfl (zB (vB 0)) (gN' (i:=6) sc.nd) (bh (Pq (i:=7) (L:=[]) (fl':=[.A,.A]) rfl sc.nd rfl rfl rfl ["_law_end"] ["_law_first"] [2] (zB (vB 6)) (λ_ _ _ _ _=>gN' (i:=0) (show(["_law_end", "_law_first"]:List Str).Nodup by decide +kernel)) (λ_ _ _ _ _=>m5) (λ_ _ _ _ _=>mO (pJ (eG (dx (lH (oO (tH (dq (vA 0) (dq (iy (CN)) dz))))) (bw (CW (dq (bw (pK lW rA (vP 0) (vP 1) (dZ _))) dz) (by rfl) B.int_)))))))
  (bA (jN (L:=[]) fq rfl (jY (by rfl) B.range_ (vH (dq (bw (dH gb jf (bw (dH Cu JZ (bw (eU cB jO (by rfl) B.len_ PySem.boot_len (dq (vP 6) dz))) (vP 4))) iP)) dz))) (gN' (i:=8) sc.nd) (bA (iU (gB lW rA (bw (eU (BX rfl) Q5 (by rfl) B.max_ hG (dq (bw (Q0 (vP 6) (pC (vP 8)) (pC (bw (dH gb jf (vP 8) (vP 4)))))) dz))) (vP 2) (dZ _)) (bh (sA (i:=9) sc.nd (oO (Pr (lH (oO (Px (vB 7) J7 (pC (vP 8))))) (lH (oO (Pu (tH (dq (vA 3) dz)) (vP 4)))))))
  (bA (XJ.Rj (XK.hu1 Z.units) (i:=5) rfl Wq (eG (yr (lH (oO (Pr (vB 9) (lH (oO (Px (vB 7) (pC (bw (dH gb jf (vP 8) (vP 4)))) J7)))))) (by rfl) B.tuple_)) rfl))) (dU)))))))
  (bA (cJ (cY (XJ.vX rfl (dq (pF 5 rfl) dz) (by rfl) B.sorted_))))))
theorem Ar(D:Dg K mg "_law_listed" (top 41) ["_law_held_here", "_law_groups_here", "_law_lists"])(B:Bl mg)(J:Has P w K mg base n "_law_whole" ["_law_found"] (spD K cN))(O:Has P w K mg base n "_law_turns" ["_law_groups_here"] (spD K mD))(W:Has P w K mg base n "_law_next" ["_law_rows", "_law_group"] (spD K iI)):Has P w K mg base (n+1) "_law_listed" ["_law_held_here", "_law_groups_here", "_law_lists"] (spD K iQ):=by
 have sc:FnScope ["_law_held_here", "_law_groups_here", "_law_lists", "_law_rows", "_law_rows_told", "_law_group", "_law_row"] ["_law_held_here", "_law_groups_here", "_law_lists"] (bH (top 41)):=fsc;exact iH (fl:=[.A,.A,.A,.A,.A,.A,.A]) D sc (by decide) (by decide) λf cdv A outer s H E Z=>bh (iU (xZ (rP (kh (lZ (bw (nM (T := "list") (by decide) (vP 2) (by rfl) B.isinstance_ (by rfl) B.list_ gl)))) (pN (kh (zj lW lW rA rA iP (bw (eU cB jO (by rfl) B.len_ PySem.boot_len (dq (vP 2) dz))) (bw (eU cB jO (by rfl) B.len_ PySem.boot_len (dq (vP 1) dz)))))))) (bA (cJ (cY (mH)))) (dU))
  (bh (sA (i:=3) sc.nd (oO (tH (dq (yr (vB 0) (by rfl) B.tuple_) dz))))
  (bh (jN (L:=[]) fq rfl (PK (L1:=[]) (L2:=[]) (vB 2) (lH (pq (cC O Z (dq (vP 1) dz)))) (by rfl) B.zip_) (sH rfl (fO (gN' (i:=4) sc.nd) (fO (gN' (i:=5) sc.nd) (pB)))) (bh (iU (xZ (rP (gB (oN Z.units) zf (vP 3) (bw (mZ dz)) (dZ _)) (rP (kh (lZ (bw (nM (T := "list") (by decide) (vP 4) (by rfl) B.isinstance_ (by rfl) B.list_ gl)))) (pN (gB (uK Z.units) Iw (vP 4) (jD (cC W Z (dq (vP 3) (dq (vP 5) dz)))) (dZ _)))))) (bA (cJ (cY (mH)))) (dU))
  (bh (jN (L:=[]) fq rfl (zB (vB 4)) (gN' (i:=6) sc.nd) (bA (iU (gB (uK Z.units) Iw (bw (m6 (L:=[]) (fl':=[.A]) rfl ["_law_end"] [] [] (zB (vB 6)) (λ_ _ _ _ _=>gN' (i:=0) (show(["_law_end"]:List Str).Nodup by decide +kernel)) (λ_ _ _ _ _=>JT (kh (lZ (jD (cC J Z (dq (vP 0) dz)))))) (λ_ _ _ _ _=>mO (pJ (vP 0))))) (bw (mZ dz)) (dZ _)) (bA (cJ (cY (mH)))) (dU))))
  (bA (sA (i:=3) sc.nd (vA 4))))))
  (bA (cJ (cY (pK (oN Z.units) zf (vP 3) (bw (mZ dz)) (dZ _)))))))
theorem ZP(Fn:FunD K "law" (top 42) f fd)(B:Bl mg)(hlaid:Has P w K mg base n "laid" ["held", "groups"] (spD K oX))(his_none:Has P w K mg base n "is_none" ["held", "groups", "thing"] (spD K mW))(J:Has P w K mg base n "_law_part" ["_law_script", "_law_at", "_law_k", "_law_many"] (spD K bY))(Y:Has P w K mg base n "_law_sits" ["_law_held_here", "_law_groups_here", "_law_places"] (spD K jU))(h_law_held:Has P w K mg base n "_law_held" ["_law_script", "_law_wide"] (spD K jR))(W:Has P w K mg base n "_law_groups" ["_law_script", "_law_wide", "_law_many"] (spD K iJ))(D:Has P w K mg base n "_law_listed" ["_law_held_here", "_law_groups_here", "_law_lists"] (spD K iQ)):FnOk P w K mg base CX0 (n+1) f fd ["_law_script"] (spD K K6):=by
 have sc:FnScope ["_law_script", "_law_wide", "_law_held_here", "_law_groups_here", "_law_first", "_law_behind", "_law_size", "_law_handed", "_law_found", "_law_again"] ["_law_script"] (bH (top 42)):=fsc;exact Py (fl:=[.A,.A,.A,.O,.A,.A,.A,.A,.N,.A]) Fn sc (by decide) (by decide) λf cdv A outer s H E Z=>bh (sA (i:=1) sc.nd (iy (dH gb jf iP (jD (cC J Z (dq (vP 0) (dq iP (dq iP (dq iP dz)))))))))
  (bh (sA (i:=2) sc.nd (pq (cC h_law_held Z (dq (vP 0) (dq (vP 1) dz)))))
  (bh (vG (i:=3) rfl sc.nd rfl (by first|exact f7 rfl|exact fF rfl) (wF (mZ dz)))
  (bh (jN (L:=[]) fq rfl (n8 (lH (pq (cC W Z (dq (vP 0) (dq (vP 1) (dq (jD (cC J Z (dq (vP 0) (dq iP (dq iP (dq iP dz)))))) dz))))))) (sH rfl (fO (gN' (i:=4) sc.nd) (fO (gN' (i:=5) sc.nd) (fO (gN' (i:=6) sc.nd) (pB))))) (bA (tG (i:=3) rfl (rC rfl (dq (vA 4) (dq (vA 5) (dq (iy (eU (LC rfl) Yc (by rfl) B.max_ hG (dq (vP 6) (dq (bw (dH gb jf iP (bw (CW (dq (bw (pK (oN Z.units) zf (vP 1) iP (dZ _))) dz) (by rfl) B.int_)))) dz)))) dz)))) rfl)))
  (bh (sA (i:=7) sc.nd (oO (tH (dq (oO (J6 (vB 2) (by rfl) B.list_)) (dq (oO (J6 (rm 3) (by rfl) B.list_)) dz)))))
  (bh (CZ (i:=8) rfl sc.nd rfl (by first|exact f7 rfl|exact fF rfl) (XK.YH (cC hlaid Z (dq (eG (dx (vB 7) iP)) (dq (eG (dx (vB 7) iP)) dz)))))
  (bh (iU (xZ (rP (gB (uK Z.units) Iw (vP 7) (Ke (dq (vP 2) (dq (vq (rm 3)) dz))) (dZ _)) (rP (kh (lZ (bw (nM (T := "tuple") (by decide) (pF 8 rfl) (by rfl) B.isinstance_ (by rfl) B.tuple_ hW)))) (pN (gB (uK Z.units) Iw (bw (eU cB jO (by rfl) B.len_ PySem.boot_len (dq (pF 8 rfl) dz))) iP (dZ _)))))) (bA (cJ (cY (mH)))) (dU))
  (bh (iU (gB (oN Z.units) zf (zq rfl (pF 8 rfl) iP (λ_ _=>rfl)) (bw (yZ)) (dZ _)) (bA (cJ (xK (cC Y Z (dq (vP 2) (dq (vq (rm 3)) (dq (zq rfl (pF 8 rfl) iP (λ_ _=>rfl)) dz))))))) (dU))
  (bh (iU (xZ (rP (gB (uK Z.units) Iw (zq rfl (pF 8 rfl) iP (λ_ _=>rfl)) (bw (yZ)) (dZ _)) (pN (kh (lZ (jD (cC D Z (dq (vP 2) (dq (vq (rm 3)) (dq (zq rfl (pF 8 rfl) iP (λ_ _=>rfl)) dz)))))))))) (bA (cJ (cY (mH)))) (dU))
  (bh (iU (Uv (jD (cC his_none Z (dq (eG (dx (vB 7) iP)) (dq (eG (dx (vB 7) iP)) (dq (zq rfl (pF 8 rfl) iP (λ_ _=>rfl)) dz)))))) (bA (cJ (cY (mH)))) (dU))
  (bh (XK.Ro (i:=8) rfl iP iP (jD (rC rfl dz)) rfl (λ_ _=>rfl) (λ_ _=>rfl))
  (bh (XK.Vk (i:=8) rfl iP rfl (λ_ _=>rfl))
  (bh (sA (i:=9) sc.nd (pq (cC hlaid Z (dq (vP 2) (dq (vq (rm 3)) dz)))))
  (bA (cJ (cY (pL (bw (pK (oN Z.units) zf (eG (dx (vB 9) iP)) (bw (yZ)) (dZ _))) (pL (jD (cC D Z (dq (vP 2) (dq (vq (rm 3)) (dq (eG (dx (vB 9) iP)) dz))))) (rD (pK (oN Z.units) zf (vP 7) (Ke (dq (vP 2) (dq (vq (rm 3)) dz))) (dZ _))))))))))))))))))))
end
end K73
namespace D3
theorem len0{p:List PySem.Value->Prop}(h:p []):∀us,us.length=0->p us:=λus Z=>by
 cases us with
 |nil=>exact h
 |cons _ _=>cases Z
theorem ai7{p:List PySem.Value->Prop}(h:∀a us,us.length=n->p (a::us)):∀us,us.length=n+1->p us:=λus Z=>by
 cases us with
 |nil=>cases Z
 |cons a r=>exact h a r (yJ.inj Z)
end D3
namespace K73
open L2 My D3
structure Txt(K:PySem.W.Frag)(mg:Str->Option Value):Prop where
 d_is_whole:Dg K mg "is_whole" (top 5) ["thing"]
 d_is_whole_within:Dg K mg "is_whole_within" (top 6) ["thing", "least", "most"]
 d_all_whole:Dg K mg "all_whole" (top 7) ["things"]
 d_is_tuple_of:Dg K mg "is_tuple_of" (top 8) ["thing", "many"]
 d_is_pair:Dg K mg "is_pair" (top 9) ["thing"]
 d_is_stretch:Dg K mg "is_stretch" (top 12) ["thing"]
 d_nights_of:Dg K mg "nights_of" (top 13) ["stay"]
 d_is_group:Dg K mg "is_group" (top 17) ["thing"]
 d_check_groups:Dg K mg "check_groups" (top 18) ["groups"]
 d_turns:XL.DgT K mg "turns" (top 19) ["groups"] 128 "turns.<locals>.<lambda>" ⟨41,42,41,72⟩
 d_starts_in:Dg K mg "starts_in" (top 20) ["row", "group"]
 d_night_behind:Dg K mg "night_behind" (top 21) ["since", "group", "is_own"]
 d_row_behind:Dg K mg "row_behind" (top 22) ["row", "group", "start"]
 d_rows_behind:Dg K mg "rows_behind" (top 23) ["rows", "group"]
 d_all_behind:Dg K mg "all_behind" (top 24) ["held", "groups"]
 d_places_by:Dg K mg "places_by" (top 25) ["found", "groups"]
 d_laid_as_they_are:Dg K mg "laid_as_they_are" (top 26) ["held", "groups"]
 d_laid:Dg K mg "laid" (top 27) ["held", "groups"]
 d_is_row_list:Dg K mg "is_row_list" (top 28) ["thing", "many"]
 d_has_all:Dg K mg "has_all" (top 29) ["rows", "needed"]
 d_is_none:Dg K mg "is_none" (top 30) ["held", "groups", "thing"]
 d__law_cell:Dg K mg "_law_cell" (top 32) ["_law_script", "_law_at"]
 d__law_part:Dg K mg "_law_part" (top 33) ["_law_script", "_law_at", "_law_k", "_law_many"]
 d__law_whole:Dg K mg "_law_whole" (top 34) ["_law_found"]
 d__law_apart:Dg K mg "_law_apart" (top 35) ["_law_one", "_law_place", "_law_other", "_law_there"]
 d__law_sits:Dg K mg "_law_sits" (top 36) ["_law_held_here", "_law_groups_here", "_law_places"]
 d__law_held:Dg K mg "_law_held" (top 37) ["_law_script", "_law_wide"]
 d__law_groups:Dg K mg "_law_groups" (top 38) ["_law_script", "_law_wide", "_law_many"]
 d__law_turns:Dg K mg "_law_turns" (top 39) ["_law_groups_here"]
 d__law_next:Dg K mg "_law_next" (top 40) ["_law_rows", "_law_group"]
 d__law_listed:Dg K mg "_law_listed" (top 41) ["_law_held_here", "_law_groups_here", "_law_lists"]
 d_law:Dl K mg "law" "_law_script" (top 42)
 blt:Bl mg
 c_NIGHTS:∃t,mg "NIGHTS"=some (.int 400 t)
 c_MOST_OF_A_GROUP:∃t,mg "MOST_OF_A_GROUP"=some (.int 6 t)
 c_MOST_ROWS:∃t,mg "MOST_ROWS"=some (.int 400 t)
theorem ZQ(T:Txt K mg){f:Addr}{fd:gk}(F:FunD K "law" (top 42) f fd):FnOk P w K mg base CX0 65 f fd ["_law_script"] (Pz K):=by
 have R:=HS (P:=P) (w:=w) (base:=base) (n:=0) T.d_is_whole T.blt;have B:=Ek (P:=P) (w:=w) (base:=base) (n:=0) T.d_nights_of T.blt;have O:=Tj (P:=P) (w:=w) (base:=base) (n:=0) T.d_turns T.blt;have D:=El (P:=P) (w:=w) (base:=base) (n:=0) T.d_starts_in T.blt;have Q:=yj (P:=P) (w:=w) (base:=base) (n:=0) T.d_night_behind T.blt;have r:=JG (P:=P) (w:=w) (base:=base) (n:=0) T.d_has_all T.blt;have v:=En (P:=P) (w:=w) (base:=base) (n:=0) T.d__law_cell T.blt;have U:=Bf (P:=P) (w:=w) (base:=base) (n:=0) T.d__law_whole T.blt;have E:=Bg (P:=P) (w:=w) (base:=base) (n:=0) T.d__law_apart T.blt;have G:=Bh (P:=P) (w:=w) (base:=base) (n:=0) T.d__law_turns T.blt;have y:=Es (P:=P) (w:=w) (base:=base) (n:=0) T.d__law_next T.blt;have S:=uW (P:=P) (w:=w) (base:=base) (n:=1) T.d_is_whole_within T.blt (R.mono (by decide));have A:=Ej (P:=P) (w:=w) (base:=base) (n:=1) T.d_all_whole T.blt (R.mono (by decide));have J:=Bc (P:=P) (w:=w) (base:=base) (n:=1) T.d_row_behind T.blt (Q.mono (by decide));have C:=Em (P:=P) (w:=w) (base:=base) (n:=1) T.d_places_by T.blt (O.mono (by decide));have Z:=Eo (P:=P) (w:=w) (base:=base) (n:=1) T.d__law_part T.blt (v.mono (by decide));have z:=Ep (P:=P) (w:=w) (base:=base) (n:=1) T.d__law_sits T.blt (U.mono (by decide)) (E.mono (by decide));have M:=Ar (P:=P) (w:=w) (base:=base) (n:=1) T.d__law_listed T.blt (U.mono (by decide)) (G.mono (by decide)) (y.mono (by decide));have W:=Al (P:=P) (w:=w) (base:=base) (n:=2) T.d_is_tuple_of T.blt (A.mono (by decide));have X:=Am (P:=P) (w:=w) (base:=base) (n:=2) T.d_rows_behind T.blt (D.mono (by decide)) (J.mono (by decide));have x:=Er (P:=P) (w:=w) (base:=base) (n:=2) T.d__law_held T.blt (Z.mono (by decide));have L:=Aq (P:=P) (w:=w) (base:=base) (n:=2) T.d__law_groups T.blt (Z.mono (by decide));have t:=JF (P:=P) (w:=w) (base:=base) (n:=3) T.d_is_pair T.blt (W.mono (by decide));have H:=Bd (P:=P) (w:=w) (base:=base) (n:=3) T.d_all_behind T.blt (O.mono (by decide)) (X.mono (by decide)) T.c_MOST_ROWS;have N:=Ao (P:=P) (w:=w) (base:=base) (n:=3) T.d_is_row_list T.blt (W.mono (by decide));have I:=Bb (P:=P) (w:=w) (base:=base) (n:=4) T.d_is_stretch T.blt (t.mono (by decide)) T.c_NIGHTS;have V:=ud (P:=P) (w:=w) (base:=base) (n:=4) T.d_laid_as_they_are T.blt (H.mono (by decide)) (C.mono (by decide));have u:=HW (P:=P) (w:=w) (base:=base) (n:=5) T.d_is_group T.blt (S.mono (by decide)) (I.mono (by decide)) (B.mono (by decide)) T.c_MOST_OF_A_GROUP;have Y:=yh (P:=P) (w:=w) (base:=base) (n:=6) T.d_check_groups T.blt (u.mono (by decide));have q:=Wo (P:=P) (w:=w) (base:=base) (n:=7) T.d_laid T.blt (Y.mono (by decide)) (V.mono (by decide));have s:=JH (P:=P) (w:=w) (base:=base) (n:=7) T.d_is_none T.blt (Y.mono (by decide)) (O.mono (by decide)) (X.mono (by decide)) (N.mono (by decide)) (r.mono (by decide));exact((ZP (P:=P) (w:=w) (base:=base) (n:=8) F T.blt (q.mono (by decide)) (s.mono (by decide)) (Z.mono (by decide)) (z.mono (by decide)) (x.mono (by decide)) (L.mono (by decide)) (M.mono (by decide))).mono (by decide)).imp (Ut K73.Ti)
end K73
def PySem.W.Fast.tw11632336707213172589:=0
def PySem.W.Fast.tw9625060033944226810:=0
def PySem.W.Fast.tw15220838688659507157:=0
def PySem.W.Fast.tw3892910710604874238:=0
def PySem.W.Fast.tw17843538702230534004:=0
def PySem.W.Fast.tw12707171841592546158:=0
def PySem.W.Fast.tw9974500475412983521:=0
def PySem.W.Fast.tw16178915231081546183:=0
def PySem.W.Fast.tw5584510408458323177:=0
def PySem.W.Fast.tw17051722364183991093:=0
def PySem.W.Fast.tw16031892620195786286:=0
def PySem.W.Fast.tw1898349000058339806:=0
def PySem.W.Fast.tw12953133124723439501:=0
def PySem.W.Fast.tw15982334209231785371:=0
def PySem.W.Fast.tw6452353954552379909:=0
def PySem.W.Fast.tw235114757999599603:=0
def PySem.W.Fast.tw973418438773839746:=0
def PySem.W.Fast.tw15382799338806564933:=0
def PySem.W.Fast.tw7554131201777294938:=0
def PySem.W.Fast.tw1901487547844366974:=0
def PySem.W.Fast.tw17869660755419687398:=0
def PySem.W.Fast.tw16536589501683495982:=0
def PySem.W.Fast.tw6678189569758731288:=0
def PySem.W.Fast.tw8074576472219087540:=0
def PySem.W.Fast.tw12891574432661023803:=0
def PySem.W.Fast.tw17818496689957115837:=0
def PySem.W.Fast.tw7848459416844435982:=0
def PySem.W.Fast.tw10764770836204082243:=0
def PySem.W.Fast.tw3146036176811637249:=0
def PySem.W.Fast.tw4744119785939789914:=0
def PySem.W.Fast.tw7853054646841511285:=0
def PySem.W.Fast.tw17549153537051146971:=0
def PySem.W.Fast.tw11069162161686348776:=0
def PySem.W.Fast.tw3696342304579393584:=0
def PySem.W.Fast.tw45565172307841942:=0
def PySem.W.Fast.tw1392249392296390377:=0
def PySem.W.Fast.tw14149881868808021956:=0
def PySem.W.Fast.tw3374277808461801482:=0
def PySem.W.Fast.tw11463927599163705967:=0
def PySem.W.Fast.tw15043278384495958453:=0
def PySem.W.Fast.tw10464976600978960664:=0
def PySem.W.Fast.tw4126743842198560254:=0
def PySem.W.Fast.tw17563808443644652279:=0
def PySem.W.Fast.tw7168096352754147226:=0
def PySem.W.Fast.tw7034046243947667297:=0
def PySem.W.Fast.tw11856771991088596403:=0
def PySem.W.Fast.tw10963713354997699439:=0
def PySem.W.Fast.tw17311080562883266824:=0
def PySem.W.Fast.tw3497490524166769427:=0
def PySem.W.Fast.tw4471582578614459925:=0
def PySem.W.Fast.tw2020978225455561102:=0
def PySem.W.Fast.tw10728465837308721234:=0
def PySem.W.Fast.tw13113980181132065975:=0
def PySem.W.Fast.tw5443080289892262386:=0
def PySem.W.Fast.tw17716001046985782129:=0
def PySem.W.Fast.tw15668022941917164606:=0
def PySem.W.Fast.tw11629057532751355379:=0
def PySem.W.Fast.tw17043773858340458296:=0
def PySem.W.Fast.tw8708182564112672113:=0
def PySem.W.Fast.tw12211580159157732032:=0
def PySem.W.Fast.tw10795890666777777844:=0
def PySem.W.Fast.tw2851475352863387680:=0
def PySem.W.Fast.tw6231815980339896375:=0
def PySem.W.Fast.tw13318339101812478792:=0
def PySem.W.Fast.tw5277974589611130711:=0
def PySem.W.Fast.tw2478027380100101521:=0
def PySem.W.Fast.tw11410637559329628888:=0
def PySem.W.Fast.tw597072378856700820:=0
def PySem.W.Fast.tw12739012624372103881:=0
def PySem.W.Fast.tw17922105866663094674:=0
def PySem.W.Fast.tw6682375263912625873:=0
def PySem.W.Fast.tw9613182352879725008:=0
def PySem.W.Fast.tw13018638881440023013:=0
def PySem.W.Fast.tw12103442865188408497:=0
def PySem.W.Fast.tw3419108004846658075:=0
def PySem.W.Fast.tw858132857639143707:=0
def PySem.W.Fast.tw5958194058777064999:=0
def PySem.W.Fast.tw13919423289211402165:=0
def PySem.W.Fast.tw274939990159356041:=0
def PySem.W.Fast.tw95093499824218732:=0
def PySem.W.Fast.tw4180920535298270861:=0
def PySem.W.Fast.tw8994378436083245602:=0
def PySem.W.Fast.tw14513782936475863822:=0
def PySem.W.Fast.tw13965072921899181529:=0
def PySem.W.Fast.tw14873397362539128244:=0
def PySem.W.Fast.tw17096513594269916197:=0
def PySem.W.Fast.tw1170537300495444416:=0
def PySem.W.Fast.tw11713918757645231480:=0
def PySem.W.Fast.tw3900928570541271601:=0
def PySem.W.Fast.tw2737886905938051974:=0
def PySem.W.Fast.tw16701507111084304287:=0
def PySem.W.Fast.tw4956811673382426475:=0
def PySem.W.Fast.tw9613695280748757015:=0
def PySem.W.Fast.tw8805726950862736327:=0
def PySem.W.Fast.tw4294819935050818336:=0
def PySem.W.Fast.tw3265853956755228751:=0
def PySem.W.Fast.tw12352601770277772123:=0
def PySem.W.Fast.tw8715488256359078445:=0
def PySem.W.Fast.tw15995199669527396813:=0
def PySem.W.Fast.tw96858604066910486:=0
def PySem.W.Fast.tw4120117677387686768:=0
def PySem.W.Fast.tw11309724074303789585:=0
def PySem.W.Fast.tw1252438500603277826:=0
def PySem.W.Fast.tw1632984303471821712:=0
def PySem.W.Fast.tw15166358004792191216:=0
def PySem.W.Fast.tw1500651007005880552:=0
def PySem.W.Fast.tw13944798265347998957:=0
def PySem.W.Fast.tw12082324983723520101:=0
def PySem.W.Fast.tw6656331430559763821:=0
def PySem.W.Fast.tw15764275793895109332:=0
def PySem.W.Fast.tw11696473131782652046:=0
def PySem.W.Fast.tw15022682042469114098:=0
def PySem.W.Fast.tw16935481671057456757:=0
def PySem.W.Fast.tw15368459673128295662:=0
def PySem.W.Fast.tw9479818640283971137:=0
def PySem.W.Fast.tw18252963725742405033:=0
def PySem.W.Fast.tw14033224131476331122:=0
def PySem.W.Fast.tw13030083109804702735:=0
def PySem.W.Fast.tw12748394847337946773:=0
def PySem.W.Fast.tw5790181740272441434:=0
def PySem.W.Fast.tw662722038999004706:=0
def PySem.W.Fast.tw12745997534969063385:=0
def PySem.W.Fast.tw10411282107155117248:=0
def PySem.W.Fast.tw4830298563478681787:=0
def PySem.W.Fast.tw12074687514586033785:=0
def PySem.W.Fast.tw11639391609004380868:=0
def PySem.W.Fast.tw17381421200071259264:=0
def PySem.W.Fast.tw14471700201890588095:=0
def PySem.W.Fast.tw5737599061416636335:=0
def PySem.W.Fast.tw8187781885624934943:=0
def PySem.W.Fast.tw10180277815117772032:=0
def PySem.W.Fast.tw3188213035659016878:=0
def PySem.W.Fast.tw1187079787952161888:=0
def PySem.W.Fast.tw17417586019461153789:=0
def PySem.W.Fast.tw4244749883971159013:=0
def PySem.W.Fast.tw3635933565946007327:=0
def PySem.W.Fast.tw14768156901207126923:=0
def PySem.W.Fast.tw401287667551405356:=0
def PySem.W.Fast.tw4701840674495248529:=0
def PySem.W.Fast.tw2513039025285409796:=0
def PySem.W.Fast.tw16049542060714066568:=0
def PySem.W.Fast.tw15252024016185082260:=0
def PySem.W.Fast.tw13217693982412797856:=0
def PySem.W.Fast.tw11075725674772538293:=0
def PySem.W.Fast.tw3957086540578260866:=0
def PySem.W.Fast.tw868709672179586299:=0
def PySem.W.Fast.tw3204098920203650673:=0
def PySem.W.Fast.tw3532774817209761126:=0
def PySem.W.Fast.tw6197365900545374031:=0
def PySem.W.Fast.tw1430819336414570502:=0
def PySem.W.Fast.tw310426759327054900:=0
def PySem.W.Fast.tw16904821629525324160:=0
def PySem.W.Fast.tw12090832993101007594:=0
def PySem.W.Fast.tw365954583281024790:=0
def PySem.W.Fast.tw12521988178377774777:=0
def PySem.W.Fast.tw8355389155383111577:=0
def PySem.W.Fast.tw10734555891139702841:=0
def PySem.W.Fast.tw12982879588676022290:=0
def PySem.W.Fast.tw234315964782593430:=0
def PySem.W.Fast.tw18043998678855341333:=0
def PySem.W.Fast.tw1331809389223570679:=0
def PySem.W.Fast.tw17720982247877421169:=0
def PySem.W.Fast.tw916720328636284483:=0
def PySem.W.Fast.tw4585058188932733329:=0
def PySem.W.Fast.tw7297399304408804023:=0
def PySem.W.Fast.tw10890191036101397288:=0
def PySem.W.Fast.tw12957918726954009507:=0
def PySem.W.Fast.tw17191339155995491360:=0
def PySem.W.Fast.tw17331751938228951075:=0
def PySem.W.Fast.tw17723956221765898860:=0
def PySem.W.Fast.tw9947726552542347436:=0
def PySem.W.Fast.tw5120006396087312393:=0
def PySem.W.Fast.tw5247078125578782402:=0
def PySem.W.Fast.tw7140497858036912951:=0
def PySem.W.Fast.tw91987453778869439:=0
def PySem.W.Fast.tw12191571234390051744:=0
def PySem.W.Fast.tw18189589104927188347:=0
def PySem.W.Fast.tw17544497691635180287:=0
open PySem PySem.W PyProof.Rows
set_option maxRecDepth 100000 in
set_option maxHeartbeats 0 in
theorem PySem.Challenge.cw_nightbook_k73_lists_step_by_step_holds : PySem.Challenge.rw_nightbook_k73_lists_step_by_step.Holds := by
 w_on;o_law;k_head;(case hw=>w_witness2)
 k_fill
 refine L2.Ou (l:=PySem.Challenge.rw_nightbook_k73_lists_step_by_step) (n:=63) (k:=65) (x := "_law_script") (CX:=L2.CX0) (sp:=D3.Pz) rfl (by decide) rfl ⟨rfl,by decide,by decide⟩ (λw h Y=>PySem.W.km_in_of Y) ?F D3.tabs (λw h Y=>XL.Vp (c:=132) (PySem.W.km_in_of Y) (PySem.W.km_tabs_of Y _ (ak)) (by kernel_rfl) (by kernel_rfl)) XL.Rt ?S ?C
 case F=>
  intro w mg fa h Z G X;have T:K73.Txt (L2.KOf Z) mg:=by
   constructor
   (case blt=>constructor<;>(refine' PySem.W.mg_none_of Z G ?z;(case z=>k_is)))
   all_goals try dsimp only[L2.KOf]
   all_goals first
    | (refine' D3.ab9 Z G ?b ?a ?l ?c ?k;(case a=>k_is);(case l=>k_is);(case c=>k_is);(case k=>k_is);(case b=>intro _ _ _ _ _ _;repeat(first|exact D3.len0 rfl|exact D3.len0 ⟨_,rfl,rfl⟩|refine D3.ai7 λ_=>?_)))
    | (refine' D3.ac0 Z G ?b ?a ?l ?c ?k;(case a=>k_is);(case l=>k_is);(case c=>k_is);(case k=>k_is);(case b=>exact λ_ _ _ _ _ _ u=>rfl))
    | (refine' XL.YK Z G ?b ?a ?l ?c ?k ?h ?t;(case a=>k_is);(case l=>k_is);(case c=>k_is);(case k=>k_is);(case h=>kernel_rfl);(case t=>exact ak);(case b=>intro _ _ _ _ _ _;repeat(first|exact D3.len0 rfl|exact D3.len0 ⟨_,rfl,rfl⟩|refine D3.ai7 λ_=>?_)))
    | (exact⟨_,PySem.W.mg_of Z G rfl⟩)
  obtain⟨f,fd,F,b,m⟩:=T.d_law.ex;have Q:=X.symm.trans m
  cases Q;exact⟨fd,b,λbase P nb=>K73.ZQ T F⟩
 case S=>exact λK H a ns V R U=>⟨a,ns,R,rfl,U,V,λ_=>rfl⟩
 case C=>exact λ_ _ _ _ z=>z
