import PyProof.Rows.All
import Wide.All
import OpenK.AllK
import Wide.FinOn
import Lean
import PyProof.EqAt
import PyProof.EqKinds
import PyProof.TupleCall
import PyProof.EqLayable
import KE.KSortTup
import PyProof.AttrMissHeap
import KE.KDictOf
import KE.KDictSum
import PyProof.Rows.SortWalk
import PyProof.NeKinds
import PyProof.DictWalks
import KE.KMinBuiltin
import PyProof.DictRoadsH
import Wide.Seal
import KE.KDictLaws
import PyProof.Rows.SortRuns
import PyProof.Rows.SortShell
import KE.KDictSum
import KE.KDictLaws
import PyProof.DictFindH
import PyProof.DictRoadsH
import PyProof.WalksMore
import PyProof.Draws
import PyProof.EnumMake
import PyProof.TupleIter
import KE.KLam
import KE.KNestM
import PyProof.ListRange
import PySem.Challenge.RW_nightbook_k76_least_wide
set_option Elab.async false
set_option linter.all false
set_option maxRecDepth 100000
set_option maxHeartbeats 4000000
set_option exponentiation.threshold 40000
set_option genSizeOf false
set_option genSizeOfSpec false
set_option genInjectivity false
set_option bootstrap.genMatcherCode false
noncomputable section
open PySem renaming wpAny_bind->aa,wpAny_pure->ae,wpAny_holding->ap,wpAny_call_entry->ar,wpAny_callSpecial?_slot->av,wpAny_truthy_bool->aw,wpAny_newObj_type->ax,wpAny_Call_Name_kw->ay,wpAny_field->aT,wpAny_mono->a5,wpAny_typeNameOfWhole_keyiter->a8,wpAny_rule->a9,tupleKind_room_in1->ba,wpAny_typeNameOf_keyiter->bo,codeAny_builtin->bq,wpAny_dictEntries->br,wpAny_seqItems->bt,wpAny_newList->bv,wpAny_attempt->bz,wpAny_passesOwn->bS,wpAny_typeOf->b6,wpAny_pyIter_tuple->b7,wpAny_pyIter_enum->b8,plainId_quiet->ce,wpAny_eqBool_int->ci,wpAny_nextOf_list_item->cm,wpAny_updateSeq->cr,wpAny_notOrdered_dict->cv,wpAny_isOneOf_keyiter->cw,builtinLookup_eq_fast->cz,wpAny_setField->cS,wpAny_fieldsOf->c0,sizeLine_eq->c8,wpAny_standAt->da,wpAny_pyIter_list->di,wpAny_Name->dk,seqIndex_neg->du,codeAny_mono->dA,wpAny_pyIter_zip->dL,wpAny_isInstance->dP,wpAny_specialOf->d0,wpAny_execs_nil->d4,wpAny_dictEpoch->d5,typeLookup_type->d6,seqIndex_of->ee,wpAny_letOwnedTupleGo_enum->er,wpAny_newTuple->eA,isSubtype_stop->eC,call_meets->eJ
open PySem.Heap renaming get?_push_of_some->ad,lt_size->af,get?_push_size->ag,get?_update_self->az,size_update->aI,get?_update_other->a4,get?_update_ne->bu,get?_push_ne->b5,get?_push_cases->ck,size_push->cn,get?_none_of_le->eI
open PyProof.Rows renaming wpS_bind->ai,wpS_pure->am,wpS_forRange->aS,wpS_mono->bj,wpS_modify->bE,wpS_get->cb,entry_list_sort->cy,size_push'->cA,slot_list_sort->c7,getElem?_mirror_all->c9,wpS_lift->c_,listUpdate_at->db,Subscript_->dm,plain_sorted->dv,entry_sorted->dy,wpS_reverse->dW,seqEpoch_at->ef,kind_sorted->eg,getElem?_bubble->eh,get?_update_seq->en,sortedHeap_old->eB,args_list_sort->eD
open PySem.W renaming kas_descPart->aE,kas_desc->a7,kas_place->bg,kas_rev->bn,kas_tail3->b9,kas_count->ca,kas_asc->cf,kas_sort->cE
open PySem.Around renaming under_plainId->a6
open PySem.F renaming slot_dict_keyiterator_next->a_,slot_tuple_iterator_next->be,slot_zip_next->cq,plain_extend_loop->cK,args_dict_keyiterator_next_1->de,entry_dict_keyiterator_next->dt,args_tuple_iterator_next_1->dE,entry_tuple_iterator_next->dQ
open PySem.Calls renaming call_function_entry->bb,spliced_cons->bi,spliced_nil->bX,Name_function_global->df,callWith_builtin->dS,evalArgs_plain->ew
open PySem.SeqAt renaming canLay_of_shaped->bp
open PySem.Obj renaming data_mapFields->bP,isFreed_of_fields->eH,data_mapDictKeys->eK
open List renaming mem_cons_self->ao,length_map->aq,mem_cons_of_mem->au,getElem?_eq_getElem->aA,getD_eq_getElem?_getD->aD,map_cons->aG,pairwise_append->aH,mem_cons->aJ,mem_singleton->aL,range->aN,replicate->aO,append_assoc->aP,size_toArray->aQ,getElem?_map->aW,length_cons->aX,getElem?_set_ne->aY,mem_range->aZ,mem_append_right->bw,getElem?_eq_none->bx,length_replicate->bD,pairwise_cons->bI,length_eq_zero_iff->bJ,length_append->bL,mem_append_left->bO,length_range->bQ,mem_map->bT,getElem?_append_right->bV,mem_append->bW,nodup_cons->bY,getElem?_append_left->b_,replicate_succ->cD,append_nil->cI,length_set->cJ,length_take->cO,all_eq_true->cT,getElem_mem->cU,not_mem_nil->cV,map_map->cX,getElem?_set_self->dg,pairwise_iff_getElem->dF,nil_append->dI,map_append->dJ,drop_zero->dM,lookup_cons->dR,getElem?_range->dU,map_congr_left->dX,ext_getElem?->dY,getElem?_drop->d8,mem_filter->eN,map_nil->eO,take_of_length_le->eU,flatten_cons->eY,nodup_append->eZ,take_append_drop->fu,perm_append_comm->fB,getElem?_replicate->fM,length_drop->fO,getElem?_of_mem->fP,getElem?_mapIdx->fQ,drop_eq_nil_of_le->fX,getElem?_eq_some_iff->gB,getElem_map->gC,mem_of_getElem?->gJ,mem_singleton_self->gU,pairwise_singleton->gW,pairwise_map->gY,count_append->gZ,foldl_cons->g_,length_nil->h_,mem_of_find?_eq_some->iT,drop_eq_getElem_cons->iU,getElem_of_mem->jh,mem_map_of_mem->ji,find?_eq_none->jA,toArray->jB,countP_append->jC,reverse_cons->jQ,filter_cons->kE,length_pos_iff->k_,getElem?_take_of_lt->lB,map->lC,sum_cons->lD,mem_filterMap->lH,getElem_range->lK,filter_append->lM,range'->lW,filter_cons_of_neg->lX,filter_cons_of_pos->lY,getElem?_set->mF,drop_drop->mG,take_zero->mJ,eraseIdx_eq_take_drop_succ->mZ,length_singleton->m5,countP_replicate->m6,countP_cons->nj,ext_getElem->nq,any_cons->nH,length->nQ,mem_of_mem_take->nU,count_replicate->nY,length_dropLast->nZ,of_mem_zip->oA,filterMap_cons->oK,zip_cons_cons->pG,count_pos_iff->pJ,exists_mem_of_ne_nil->pX,getElem_drop->p7,countP_congr->p8,map_take->qz,map_drop->qH,length_erase_of_mem->qJ,length_eq_one_iff->rP,drop_of_length_le->rQ,range_succ_eq_map->rR,find?_some->sV,forIn_cons->sW,countP_mono_left->tG,length_filter_le->tH,mem_iff_getElem?->tK,mem_of_mem_drop->tQ,perm_cons_erase->tR,length_reverse->uR,perm_nil->uX,length_range'->vf,getElem?_take->vg,filter_filter->vh,countP_filter->vm,map_inj_right->vp,getElem_take->vW,take_add_one->vY,foldl_append->v5,lookup->yH,map_id->yI
open Nat renaming le_refl->aB,reduceAdd->aC,ne_of_lt->aR,le_trans->aV,reduceLT->bB,lt_of_lt_of_le->bU,zero_le->cg,le_of_lt->cG,lt_of_succ_lt->cH,lt_or_ge->dB,lt_irrefl->eG,zero_add->fG,lt_succ_self->fU,lt_succ_of_lt->gR,le_of_not_lt->iG,le_add_right->jr,lt_trans->j9,add_zero->kh,reduceLeDiff->kI,reduceEqDiff->kJ,lt_of_le_of_lt->lJ,le_succ->lU,ne_of_gt->mD,sub_zero->mH,not_lt->m_,le_of_eq->oU,min_le_right->q_,add_sub_cancel_left->rA,succ_le_succ->rB,add_assoc->uW,lt_of_le_of_ne->u_,eq_zero_or_pos->vd,le_succ_of_le->vX,succ->vZ
open Int renaming reduceLT->fH,toNat_natCast->fY,le_refl->gw,le_trans->j_,zero_add->kj,reduceLE->kO,reduceEq->mK,le_of_lt->oV,emod_lt_of_pos->pI,sub_zero->rO,le_antisymm->sX,emod_nonneg->sZ
open Option renaming bind_some->aF,some->cR,map_some->jG,bind_eq_some_iff->rm,isSome_map->vV
open Bool renaming and_eq_true->aK,false_ne_true->bA,false_eq_true->fL,not_eq_true'->f9,and_eq_true_iff->nW,or_eq_true->oE,not_eq_false'->pF,not_false->pH,eq_iff_iff->sY
open Array renaming length_toList->bh,getElem?_toList->cj,toList_append->cL,perm_iff_toList_perm->d9,getElem?_eq_none->fZ,getD_eq_getD_getElem?->iz,getElem?_eq_getElem->kY,toList_reverse->nR,toList_push->pZ,size_setIfInBounds->qy,toList_inj->rC,forIn_toList->u9
open And renaming intro->eL
open PySem renaming Shared->eM,Program->eS,Around->eW,World->ff,Heap->fF,FuncData->gc,Stmt->gv,IsPair->gS,Builtin->g9,Scope->hH,Keyword->hV,CmpOp->ic,ZipApart->ik,Arguments->im
open PySem.PyData renaming int->eP,canLay0->eR,tuple->eT,bool->fI,canLayAll0->fN,eqv->f7,list->f8,depth->gz,depthAll->gX,eqvAll->hO
open PySem.Value renaming ref->eQ,none->fy,bool->gg,type->hG,int->hJ
open Ne renaming symm->e9
open PyProof.Rows renaming callWith_type1->e_,SortSt->fh,slot_tuple_getitem->f_,boot_list->ge,IntsAre->gE,IsTup->gT,boot_tuple->hI,boot_max->hK,AllBare->h9,boot_bool->io
open Sum renaming inl->fe
open Or renaming inr->fg,inl->fE
open PySem.PassesOwn renaming never->fm
open PySem.Obj renaming mapSeq->fo
open PySem.SeqAt renaming shaped->fq
open PySem.NameKind renaming free->fw,cell->gL
open PySem.Str renaming ofString->fA
open List.Perm renaming append_left->fR,append_right->gi,trans->gk,cons_inv->hZ
open True renaming intro->fS
open ForInStep renaming yield->f6
open Classical renaming propDecidable->gd,byContradiction->ip
open PySem.Heap renaming SameBut->gf
open PySem.Builtin.Slice renaming slicePlaces->gm,sliceAdjust->hF
open PySem.Heap.SameBut renaming update->gq
open List.Pairwise renaming imp_of_mem->gr
open PySem.Builtin.Tuple renaming tupleExact->gu,tupleItemsOf->h7
open PySem.Builtin.Range renaming rangeSize->gx,small->hU
open False renaming elim->gy
open Array.Perm renaming refl->hP
open PySem.Builtin.Dict_items renaming ownsTuple->hW
open PySem.Builtin.SmallTypes renaming nextOf->hX
open PySem.PyData.list renaming inj->h8
open PySem.Builtin.List renaming listTooLong->ie,listSameRef->ii
open PySem PySem.Spec PyProof.Rows
local macro_rules|`(tactic|lia)=>`(tactic|omega)
variable{h h':fF}{o:Obj}{e tg ke:Expr}{i:Int}{pins:List (Addr×Obj)}{pos pos' apos kpos p2 cpos pos2:Pos}{Q:Value->eM->Prop}{j:Nat}{ps:List Str}{es ifs:List Expr}{scope:hH}{params:im}{body sts orelse:List gv}{ix ts:List Nat}{u:Value}{hs:List Int}
def dTr{p:Prop}[Decidable p](h:p):decide p=true:=decide_eq_true h
def dFa{p:Prop}[Decidable p](h:¬p):decide p=false:=decide_eq_false h
def lMp{α β:Type}{f:α->β}{l:List α}:(l.map f).length=l.length:=aq f

namespace L2
abbrev Key:=Sum Int Str
noncomputable def z_:Key->Value->Bool
 | .inl k,v=>Value.isInt k v
 | .inr x,v=>Value.isStrOf x v
def ap5(w:ff):Key->Int
 | .inl k=>hashInt k
 | .inr x=>hashStr w x
theorem iW:∀{k:Key}{v:Value},z_ k v=true->(∃i t,k=fe i/\v=hJ i t)\/(∃x t,k=Sum.inr x/\v=Value.str x t)
 | .inl i,v,h=>by
  obtain⟨t,e⟩:=Value.isInt_shape (k:=i) (v:=v) h;exact .inl ⟨i,t,rfl,e⟩
 | .inr x,v,h=>by
  obtain⟨t,e⟩:=Value.isStrOf_shape (x:=x) (v:=v) h;exact .inr ⟨x,t,rfl,e⟩
def NZ(i:Int)(t:Tok):z_ (.inl i) (.int i t)=true:=by simp[z_,Value.isInt]
def N5(x:Str)(t:Tok):z_ (.inr x) (.str x t)=true:=by simp[z_,Value.isStrOf]
def Yw(a b:Int):decide ((fe a:Key)=fe b)=(a==b):=by
 by_cases e:a=b
 .subst e;simp
 .have h:¬(fe a:Key)=fe b:=λq=>e (Sum.inl.inj q)
  rw[dFa h];exact(beq_eq_false_iff_ne.mpr e).symm
def Yx(a b:Str):decide ((Sum.inr a:Key)=Sum.inr b)=decide (a=b):=by
 by_cases e:a=b
 .subst e;simp
 .have h:¬(Sum.inr a:Key)=Sum.inr b:=λq=>e (Sum.inr.inj q)
  rw[dFa h,dFa e]
def Yy(a:Int)(b:Str):decide ((fe a:Key)=Sum.inr b)=false:=dFa (λq=>nomatch q)
def Yz(a:Str)(b:Int):decide ((Sum.inr a:Key)=fe b)=false:=dFa (λq=>nomatch q)
def dh(prog:eS)(w:ff):PySem.KeyKind prog w Key where
 is:=z_
 hash:=ap5 w
 inj:=λv a b ha Y=>by
  rcases iW ha with⟨i,t,rfl,rfl⟩|⟨x,t,rfl,rfl⟩
  .rcases iW Y with⟨j,u,rfl,e⟩|⟨y,u,rfl,e⟩
   .injection e with e1 _;rw[e1]
   .exact nomatch e
  .rcases iW Y with⟨j,u,rfl,e⟩|⟨y,u,rfl,e⟩
   .exact nomatch e
   .injection e with e1 _;rw[e1]
 byValue:=λk v h=>by
  rcases iW h with⟨i,t,rfl,rfl⟩|⟨x,t,rfl,rfl⟩<;>rfl
 pyHash:=λZ h=>by
  rcases iW Z with⟨i,t,rfl,rfl⟩|⟨x,t,rfl,rfl⟩
  .exact wpAny_pyHash_int h
  .exact wpAny_pyHash_str h
 eqBool:=λhu Z h=>by
  rcases iW hu with⟨i,t,rfl,rfl⟩|⟨x,t,rfl,rfl⟩
  .rcases iW Z with⟨j,u,rfl,rfl⟩|⟨y,u,rfl,rfl⟩
   .rw[Yw]at h;exact ci h
   .rw[Yy]at h;exact SeqAt.EqAt.int_str i t y u _ _ _ _ h
  .rcases iW Z with⟨j,u,rfl,rfl⟩|⟨y,u,rfl,rfl⟩
   .rw[Yz]at h;exact SeqAt.EqAt.str_int x t j u _ _ _ _ h
   .rw[Yx]at h;exact wpAny_eqBool_str h
 «strs»:=λk x t v h=>by
  rcases iW h with⟨i,u,rfl,e⟩|⟨y,u,rfl,e⟩
  .exact nomatch e
  .injection e with e1 _
   subst e1
   cases v<;>rfl
def JT(prog:eS)(w:ff)(k:Key)(v:Value):(dh prog w).is k v=z_ k v:=rfl
def GJ(prog:eS)(w:ff)(i:Int)(t:Tok):(dh prog w).is (.inl i) (.int i t)=true:=NZ i t
def GK(prog:eS)(w:ff)(x:Str)(t:Tok):(dh prog w).is (.inr x) (.str x t)=true:=N5 x t
end L2
variable{a:Addr}{P:eS}{w:ff}
namespace L2
inductive V where
 |non|bl (b:Bool)|int (i:Int)|str (x:Str)|byt (b:Array UInt8)|flt (b:UInt64)|ref (a:Addr)|ty (n:String)
 deriving DecidableEq
def RelV:V->Value->Prop
 | .non,u=>u=fy
 | .bl b,u=>u=gg b
 | .int i,u=>∃t,u=hJ i t
 | .str x,u=>∃t,u=Value.str x t
 | .byt b,u=>∃t,u=Value.bytes b t
 | .flt b,u=>∃t,u=Value.float b t
 | .ref a,u=>u=eQ a
 | .ty n,u=>u=hG n
abbrev Vals:List V->List Value->Prop:=Paired RelV
def Vals.length{xs:List V}{us:List Value}(r:Vals xs us):xs.length=us.length:=Paired.length r
theorem Vals.get:∀{xs:List V}{us:List Value}{i:Nat}{x:V},Vals xs us->xs[i]? = some x->∃u,us[i]? = some u/\RelV x u
 |_,_,_,_,.nil,e=>by simp at e
 |_,_,0,_,.cons r _,e=>by simp at e;subst e;exact⟨_,rfl,r⟩
 |_,_,i+1,x,.cons _ t,e=>by
  obtain⟨u,h1,h2⟩:=Vals.get (i:=i) (x:=x) t (by simpa using e);exact⟨u,by simpa using h1,h2⟩
theorem Vals.set (r:RelV x b):∀{xs:List V}{us:List Value}(i:Nat),Vals xs us->Vals (xs.set i x) (us.set i b)
 |_,_,_,.nil=>.nil
 |_,_,0,.cons _ t=>.cons r t
 |_,_,i+1,.cons q t=>.cons q (Vals.set r i t)
theorem Vals.append:∀{xs ys:List V}{us ws:List Value},Vals xs us->Vals ys ws->Vals (xs++ys) (us++ws)
 |_,_,_,_,.nil,s=>s
 |_,_,_,_,.cons r t,s=>.cons r (Vals.append t s)
theorem Vals.take:∀{xs:List V}{us:List Value}(n:Nat),Vals xs us->Vals (xs.take n) (us.take n)
 |_,_,0,_=>.nil
 |_,_,_+1,.nil=>.nil
 |_,_,n+1,.cons r t=>.cons r (Vals.take n t)
theorem Vals.drop:∀{xs:List V}{us:List Value}(n:Nat),Vals xs us->Vals (xs.drop n) (us.drop n)
 |_,_,0,r=>r
 |_,_,_+1,.nil=>.nil
 |_,_,n+1,.cons _ t=>Vals.drop n t
def xO:Option V->Option Value->Prop
 |some v,some u=>RelV v u
 |none,none=>True
 |_,_=>False
def KV : List (κ×V)->List (κ×Value)->Prop:=Paired λ(p:κ×V)(q:κ×Value)=>p.1=q.1/\RelV p.2 q.2
noncomputable def kV:Key->V
 | .inl i=>.int i
 | .inr x=>.str x
inductive HO where
 |lst (xs:List V)
 |tup (xs:List V)
 |dK (kvs:List (Key×V))|dT (kvs:List (List Key×V))
 |set (S:Int->Bool) (n:Nat)
 |ins (C dx:Addr) (fs:List (Str×V))
 |own (x:Addr)
 |xd (fs:List (Str×V))
 |met (f x:Addr)
 |rng (lo hi:Int)
 |frz (o:Obj) (u:HO)
 |tbl (q:Str) (p:Pos)
 |ext (φ:fF->Prop)
noncomputable abbrev Hp:=Addr->Option HO
noncomputable def upd(H:Hp)(a:Addr)(o:HO):Hp:=λb=>if b=a then some o else H b
def bR{H:Hp}{o:HO}:upd H a o a=some o:=by unfold upd;rw[if_pos rfl]
def bG (h:b≠a):upd H a c b=H b:=by unfold upd;rw[if_neg h]
def Le : upd (upd H a c) a d=upd H a d:=by
 funext b;unfold upd;split<;>rfl
def jf{H:Hp} (h:H a=some c) (h':H b=some f) (d:c≠f):a≠b:=by
 intro e;subst e;rw[h]at h';exact d (cR.inj h')
def jD{H:Hp} (h:H a=some c) (h':H b=none):a≠b:=by
 intro e;subst e;rw[h]at h';cases h'
section
variable(P:eS)(w:ff)
def gM(H:Hp)(h:fF)(a:Addr):HO->Prop
 | .lst xs=>xs.length<=sizeLine/\∃(its:List Value)(n:Nat),Vals xs its/\h.get? a=some {cls:=.type "list", data:=.seq its.toArray n}
 | .tup xs=>xs.length<=sizeLine/\∃its:List Value,Vals xs its/\gT h a its.toArray
 | .dK kvs=>kvs.length<=sizeLine/\(a==sysModules)=false/\∃vs,KV kvs vs/\h.DictOf (dh P w) a vs
 | .dT kvs=>kvs.length<=sizeLine/\(a==sysModules)=false/\∃xs:List (List Key×Addr×Value),
  Paired (λ(p:List Key×V)(q:List Key×Addr×Value)=>p.1=q.1/\H q.2.1=some (.tup (p.1.map kV))/\RelV p.2 q.2.2) kvs xs /\
  ∃o es ep,h.get? a=some o/\o.ExactDict/\o.data = .dict es ep/\es.toList=xs.map (entryOfKey (tupleKind (dh P w)))/\(xs.map (·.1)).Nodup
 | .set S n=>h.SetOf (intKind P w) a S n
 | .ins C dx fs=>H dx=some (.own a)/\fs.length<=1000/\dx≠a/\h.get? a=some (PySem.W.instObj C dx) /\
  ∃mA,h.Ns1 dx mA/\(∀f,xO (fs.lookup f) (mA f))/\PySem.Within mA (fs.map (·.1))
 | .own _=>∃o,h.get? a=some o
 | .xd fs=>∃mA,h.Ns1 a mA/\∀f,xO (fs.lookup f) (mA f)
 | .rng lo hi=>∃t u v,h.get? a=some {cls:=.type "range", data:=.fields #[.int lo t,.int hi u,.int 1 v]}
 | .frz o u=>h.get? a=some o/\gM H h a u
 | .tbl q p=>∃ps,h.get? a=some {cls:=.none,data:=.fields ps}/\(ps = #[]\/∃c',ps = #[rawInt p.line,rawInt p.col,.ref c']/\H c'=some (.own a)/\h.CodeRec (.ref c') q)
 | .met f x=>h.get? a=some (PySem.W.methodObj (.ref f) (.ref x))
 | .ext φ=>φ h/\(∃o,h.get? a=some o)/\∀h1 h2:fF,φ h1->(∀o,h1.get? a=some o->h2.get? a=some o)->φ h2
def HOk(H:Hp)(h:fF):Prop:=∀a o,H a=some o->gM P w H h a o
end
section
variable{H H':Hp}{o:HO}
theorem gM.lt(x:gM P w H h a o):a<h.objs.size:=by
 cases o with
 |lst xs=>obtain⟨_,_,_,_,e⟩:=x;exact af e
 |tup xs=>obtain⟨_,_,_,p⟩:=x;exact p.lt
 |dK kvs=>obtain⟨_,_,_,_,o,_,_,e,_⟩:=x;exact af e
 |dT kvs=>obtain⟨_,_,_,_,o,_,_,e,_⟩:=x;exact af e
 |set S n=>obtain⟨o,_,_,_,e,_⟩:=x;exact af e
 |ins C dx fs=>obtain⟨_,_,_,e,_⟩:=x;exact af e
 |own y=>obtain⟨_,e⟩:=x;exact af e
 |xd fs=>obtain⟨_,⟨_,_,_,e,_⟩,_⟩:=x;exact af e
 |rng lo hi=>obtain⟨_,_,_,e⟩:=x;exact af e
 |frz Z u=>obtain⟨e,_⟩:=x;exact af e
 |tbl q p=>obtain⟨_,e,_⟩:=x;exact af e
 |met f y=>exact af (show h.get? a=some _ from x)
 |ext φ=>obtain⟨_,⟨_,e⟩,_⟩:=x;exact af e
theorem Paired.mapP : ∀{l₁:List α}{l₂:List β},Paired F l₁ l₂->(∀a b,F a b->G a b)->Paired G l₁ l₂
 |_,_,.nil,_=>.nil
 |_,_,.cons r t,f=>.cons (f _ _ r) (Paired.mapP t f)
theorem gM.stay(x:gM P w H h a o)(k:∀b u,(b=a\/H b=some (.own a))->h.get? b=some u->h'.get? b=some u)
 (B:∀b,H b=some (.own a)->H' b=some (.own a)) (D:∀b xs,H b=some (.tup xs)->H' b=some (.tup xs)):gM P w H' h' a o:=by
 induction o with
 |lst xs=>obtain⟨z,its,n,r,e⟩:=x;exact⟨z,its,n,r,k _ _ (.inl rfl) e⟩
 |tup xs=>obtain⟨z,its,r,Z,e,c⟩:=x;exact⟨z,its,r,Z,k _ _ (.inl rfl) e,c⟩
 |dK kvs=>obtain⟨z,y,vs,r,Z,es,ep,e,c⟩:=x;exact⟨z,y,vs,r,Z,es,ep,k _ _ (.inl rfl) e,c⟩
 |dT kvs=>
  obtain⟨z,y,xs,r,Z,es,ep,e,c⟩:=x;exact⟨z,y,xs,Paired.mapP r λp q z=>⟨z.1,D _ _ z.2.1,z.2.2⟩,Z,es,ep,k _ _ (.inl rfl) e,c⟩
 |set S n=>obtain⟨Z,es,ep,t,e,c⟩:=x;exact⟨Z,es,ep,t,k _ _ (.inl rfl) e,c⟩
 |ins C dx fs=>
  obtain⟨d,z,ne,e,mA,⟨od,es,ep,e2,c⟩,r⟩:=x;exact⟨B _ d,z,ne,k _ _ (.inl rfl) e,mA,⟨od,es,ep,k _ _ (.inr d) e2,c⟩,r⟩
 |own y=>obtain⟨Z,e⟩:=x;exact⟨Z,k _ _ (.inl rfl) e⟩
 |xd fs=>obtain⟨mA,⟨od,es,ep,e,c⟩,r⟩:=x;exact⟨mA,⟨od,es,ep,k _ _ (.inl rfl) e,c⟩,r⟩
 |rng lo hi=>obtain⟨t,u,v,e⟩:=x;exact⟨t,u,v,k _ _ (.inl rfl) e⟩
 |frz Z u R=>obtain⟨e,q⟩:=x;exact⟨k _ _ (.inl rfl) e,R q⟩
 |tbl q p=>
  obtain⟨ps,e,z⟩:=x;refine⟨ps,k a _ (.inl rfl) e,?_⟩;rcases z with z|⟨c',z1,z2,U⟩
  .exact .inl z
  .obtain⟨c,oc,vs,T,V,Y,X,Q⟩:=U;have W:c'=c:=by injection V
   exact .inr ⟨c',z1,B _ z2,c,oc,vs,T,V,k _ _ (.inr (W▸z2)) Y,X,Q⟩
 |met f y=>
  have e:=x;exact k a _ (.inl rfl) e
 |ext φ=>obtain⟨p,⟨o,e⟩,st⟩:=x;exact⟨st _ _ p λo q=>k _ _ (.inl rfl) q,⟨o,k _ _ (.inl rfl) e⟩,st⟩
def HOk.lt(x:HOk P w H h)(e:H a=some o):a<h.objs.size:=(x a o e).lt
theorem HOk.fresh(x:HOk P w H h)(e:h.objs.size<=a):H a=none:=by
 cases q:H a with
 |none=>rfl
 |some u=>exact absurd (bU (x.lt q) e) (eG _)
def HOk.kept(x:HOk P w H h)(k:∀b u,h.get? b=some u->h'.get? b=some u):HOk P w H h':=λa o e=>
 (x a o e).stay (λb u _ q=>k b u q) (λ_ q=>q) λ_ _ q=>q
def HOk.laid(x:HOk P w H h)(k:∀b u,h.get? b=some u->h'.get? b=some u)(D:h.objs.size<=a)(B:gM P w (upd H a o) h' a o):HOk P w (upd H a o) h':=λb u e=>by
 have hn:=x.fresh D;by_cases Z:b=a
 .subst Z;rw[bR]at e;cases e;exact B
 .rw[bG Z]at e;exact(x b u e).stay (λc v _ q=>k c v q) (λc q=>by rwa[bG (jD q hn)]) λc xs q=>by rwa[bG (jD q hn)]
end
def Rd(H:Hp)(a:Addr)(u:HO):Prop:=H a=some u\/∃o,H a=some (.frz o u)
def Rd.ok {u:HO} (r:Rd H a u) (x:HOk P w H h):gM P w H h a u:=by
 rcases r with r|⟨o,r⟩
 .exact x a u r
 .obtain⟨_,q⟩:=x a _ r;exact q
def Mut:Option HO->Prop
 |some (.lst _)=>True
 |some (.dK _)=>True
 |some (.dT _)=>True
 |some (.set _ _)=>True
 |some (.ins _ _ _)=>True
 |some (.ext _)=>True
 |_=>False
section
variable{H:Hp}{x e:Addr}{o':HO}
def HOk.write(ok:HOk P w H h)(B:Mut (H x))(O:e=x\/H e=some (.own x))(k:∀b u,b≠e->h.get? b=some u->h'.get? b=some u)(J:∃u,h'.get? e=some u)
 (D:gM P w (upd H x o') h' x o'):HOk P w (upd H x o') h':=λb u q=>by
 have Y:∀c y,H c=some (.own y)->c≠x:=λc y r z=>by subst z;rw[r]at B;exact B
 have X:∀c xs,H c=some (.tup xs)->c≠x:=λc xs r z=>by subst z;rw[r]at B;exact B
 by_cases V:b=x
 .subst V;rw[bR]at q;cases q;exact D
 .rw[bG V]at q;by_cases Z:b=e
  .have U:H b=some (.own x):=by
    rcases O with z|z
    .exact absurd (Z.trans z) V
    .rwa[Z]
   rw[q]at U;cases U;obtain⟨v,T⟩:=J;exact⟨v,by rwa[Z]⟩
  .refine(ok b u q).stay (λc v W r=>k c v ?_ r) (λc r=>by rwa[bG (Y c b r)]) λc xs r=>by rwa[bG (X c xs r)]
   rcases W with rfl|W
   .exact Z
   .rintro rfl;rcases O with z|z
    .exact Y c b W z
    .rw[W]at z;cases z;exact V rfl
end
structure Un(fs ex:List Addr)(H H':Hp)(h h':fF):Prop where
 keep:∀b o,h.get? b=some o->H b=none->b∉fs->b∉ex->h'.get? b=some o
 slot:∀b o,h.get? b=some o->H b=none->b∈fs->b∉ex->∃sl,h'.get? b=some {o with slots:=sl}
 free:∀b o,h.get? b=some o->H b=none->b∉ex->H' b=none
 there:∀b o,h.get? b=some o->b∉ex->∃o',h'.get? b=some o'
 tups:∀b xs,H b=some (.tup xs)->H' b=some (.tup xs)
 frzs:∀b o u,H b=some (.frz o u)->H' b=some (.frz o u)
 tbls:∀b q p,H b=some (.tbl q p)->H' b=some (.tbl q p)
section
variable{fs fs' ex ex':List Addr}{H H1 H2:Hp}{h1 h2:fF}{x e:Addr}{o:HO}
def Un.any(u:Un fs ex H H1 h h1) (q:h.get? b=some B) (n:H b=none) (D:b∉ex):∃J,h1.get? b=some {B with slots:=J}:=by
 by_cases Z:b∈fs
 .exact u.slot b B q n Z D
 .exact⟨B.slots,u.keep b B q n Z D⟩
def Un.kept(k:∀b u,h.get? b=some u->h'.get? b=some u):Un fs ex H H h h':=
 ⟨λb Z q _ _ _=>k b Z q,λb Z q _ _ _=>⟨Z.slots,k b Z q⟩,λ_ _ _ n _=>n,λb Z q _=>⟨Z,k b Z q⟩,λ_ _ q=>q,λ_ _ _ q=>q,λ_ _ _ q=>q⟩
def Un.refl:Un fs ex H H h h:=Un.kept λ_ _ q=>q
theorem Un.laid(k:∀b u,h.get? b=some u->h'.get? b=some u)(B:h.objs.size<=a)(hn:H a=none):Un fs ex H (upd H a o) h h' where
 keep:=λb u q _ _ _=>k b u q
 slot:=λb u q _ _ _=>⟨u.slots,k b u q⟩
 free:=λb u q n _=>by rwa[bG (aR (bU (af q) B))]
 there:=λb u q _=>⟨u,k b u q⟩
 tups:=λb xs q=>by rwa[bG (jD q hn)]
 frzs:=λb u xs q=>by rwa[bG (jD q hn)]
 tbls:=λb q p e=>by rwa[bG (jD e hn)]
def Un.write(B:Mut (H x))(J:e=x\/H e=some (.own x))(k:∀b u,b≠e->h.get? b=some u->h'.get? b=some u)(D:∃u,h'.get? e=some u):Un fs ex H (upd H x o) h h':=by
 have Y:∀b,H b=none->b≠x:=λb n z=>by subst z;rw[n]at B;exact B
 have X:∀b,H b=none->b≠e:=λb n z=>by
  subst z;rcases J with r|r
  .exact Y b n r
  .rw[n]at r;cases r
 have hm:∀b u,H b=some u->¬Mut (some u)->b≠x:=λb u q nm z=>by subst z;rw[q]at B;exact nm B
 refine⟨λb u q n _ _=>k b u (X b n) q,λb u q n _ _=>⟨u.slots,k b u (X b n) q⟩,λb u q n _=>by rwa[bG (Y b n)],λb u q _=>?_,
  λb xs q=>by rwa[bG (hm b _ q λz=>z)],λb u xs q=>by rwa[bG (hm b _ q λz=>z)],λb q p e=>by rwa[bG (hm b _ e λz=>z)]⟩
 by_cases Z:b=e
 .subst Z;exact D
 .exact⟨u,k b u Z q⟩
end
noncomputable def trk(h:fF)(H:Hp):List Addr:=(aN h.objs.size).filter λa=>(H a).isSome
def GP(h:fF)(H:Hp):fF:=PySem.W.hideAll h (trk h H)
def N6(h:fF)(H:Hp):(GP h H).objs.size=h.objs.size:=PySem.W.hideAll_size _ _
def Qd (e:h.get? b=some c) (n:H b=none):(GP h H).get? b=some c:=
 PySem.W.hideAll_get _ e λhm=>by
  have q:=(eN.mp hm).2;rw[n]at q;simp at q
theorem U0 (e:(GP h H).get? b=some c):h.get? b=some c/\H b=none:=by
 have Z:h.get? b=some c:=PySem.W.of_hideAll (trk h H) e;refine⟨Z,?_⟩
 cases q:H b with
 |none=>rfl
 |some x=>
  have hm:b∈trk h H:=eN.mpr ⟨aZ.mpr (af Z),by simp[q]⟩;have z:(GP h H).get? b=none:=PySem.W.hideAll_none (trk h H) hm;rw[z]at e;cases e
noncomputable def oW(g h:fF)(L:Addr):List (Addr×Obj):=(aN h.objs.size).filterMap λa=>if a=L\/(g.get? a).isSome=true then none else(h.get? a).map λo=>(a,o)
def tU (h1:a≠L) (h2:g.get? a=none) (B:h.get? a=some b):(a,b)∈oW g h L:=
 lH.mpr ⟨a,aZ.mpr (af B),by simp[h1,h2,B]⟩
def Aa (B:p∈oW g h L):p.1≠L/\g.get? p.1=none/\h.get? p.1=some p.2:=by
 obtain⟨b,_,e⟩:=lH.mp B;split at e
 .cases e
 .rename_i hn
  cases q:h.get? b with
  |none=>rw[q]at e;simp at e
  |some u=>
   rw[q]at e;simp only[jG,cR.injEq]at e;subst e;refine⟨λz=>hn (.inl z),?_,q⟩
   cases r:g.get? b with
   |none=>rfl
   |some v=>exact(hn (.inr (by simp[r]))).elim
def GQ : News g L h (oW g h L):=λp Z=>let⟨a,b,c⟩:=Aa Z;⟨c,a,b⟩
end L2
variable{xs:List L2.V}{H H' H1:L2.Hp}
variable{N:List Str}{i:Nat}{x:Str}{v:L2.V}
namespace L2
structure Mod(K:PySem.W.Frag)(mg:Str->Option Value)(base:fF):Prop where
 kin:K.In base
 glob:base.Ns mainGlobals mg
 blt:∃mb,base.Ns builtinsNs mb/\∀x:Str,x≠"__name__"->mb x=bootBuiltins x
 nolimit:base.NoLimit
 bm:∃bm ob,mg "__builtins__"=some (.ref bm)/\bm≠builtinsNs/\base.get? bm=some ob/\ob.cls = .type "module"/\ob.dict=some builtinsNs/\ob.data = .plain
structure Cx where
 prog:eS
 w:ff
 K:PySem.W.Frag
 mg:Str->Option Value
 base:fF
 A:eW
 N:List Str
 s₀:eM
 H₀:Hp
 env:Env
 outer:List Env
 stack:List Env
 ex:List Addr
 fn:Str->Bool
 calm:Bool
 pn:List (Addr×Obj)
 xe:Value->eM->Prop
def frs(l:List Env):List Addr:=l.filterMap (·.frame)
abbrev Cx.fs(X:Cx):List Addr:=frs X.outer
def Vis(sc:hH)(x:Str):Prop:=sc.names.lookup x=some .local\/sc.names.lookup x=some .cell\/sc.names.lookup x=some .free
def Loc(sc:hH)(x:Str):Prop:=sc.names.lookup x=some .local\/sc.names.lookup x=some .cell
def Look(env:Env)(h:fF)(m:Str->Option Value)(x:Str)(u:Value):Prop:=
 (env.kindOf x=some .local/\m x=some u)\/((env.kindOf x=some .cell\/env.kindOf x=some .free)/\∃c,env.cells.lookup x=some c/\h.IsCell c (some u))
structure Cx.Ok(X:Cx):Prop where
 mod:Mod X.K X.mg X.base
 kind:X.env.scope.kind = .function
 glob:X.env.globals=mainGlobals
 blt:X.env.builtins=builtinsNs
 above:X.s₀.heap.objs.size<=X.env.locals
 inj:∀x y c,X.env.cells.lookup x=some c->X.env.cells.lookup y=some c->x=y
 has:∀x,(X.env.kindOf x=some .cell\/X.env.kindOf x=some .free)->∃c,X.env.cells.lookup x=some c
 cab:∀x c,X.fn x=true->X.env.cells.lookup x=some c->X.s₀.heap.objs.size<=c
 hd:X.calm=true->X.A.handled=none
 frames:X.A.frames=some X.stack
 stk:X.stack=X.outer\/(X.stack=X.env::X.outer/\X.env.frame=some X.env.locals)
 exf:∀b∈X.ex,b≠X.env.locals/\∀x c,X.env.cells.lookup x=some c->c≠b
 bs:∀b o,X.base.get? b=some o->X.s₀.heap.get? b=some o/\X.H₀ b=none
 bsz:X.base.objs.size<=X.s₀.heap.objs.size
 noex:∀b o,X.base.get? b=some o->b∉X.ex
 exfs:∀b∈X.ex,b∉X.fs
 funs:X.s₀.heap.FunFrames X.base X.outer
 frf:∀b∈X.fs,X.H₀ b=none
structure Inv(X:Cx)(pins:List (Addr×Obj))(σ:List (Option V))(H:Hp)(s:eM):Prop where
 ok:X.Ok
 os:s.os=X.s₀.os
 bare:h9 s.gens
 base:Un X.fs X.ex X.H₀ H X.s₀.heap s.heap
 loc:∃m,s.heap.Ns X.env.locals m/\∀(i:Nat)(x:Str)(v:V),X.N[i]? = some x->σ[i]? = some (some v)->Vis X.env.scope x->∃u,RelV v u/\Look X.env s.heap m x u
 cell:∀x c,X.env.cells.lookup x=some c->∃v,s.heap.IsCell c v
 free:H X.env.locals=none
 freeC:∀x c,X.env.cells.lookup x=some c->H c=none
 pin:∀p∈X.pn++pins,s.heap.get? p.1=some p.2/\H p.1=none/\p.1≠X.env.locals/\p.1∉X.fs/\∀v,p.2.data ≠ .cell v
 hok:HOk X.prog X.w H s.heap
 len:σ.length=X.N.length
section
variable{X:Cx}{σ:List (Option V)}{s:eM}
def Cx.Ok.nofr(ok:X.Ok) (e:X.base.get? b=some c):b∉X.fs:=λZ=>by
 have:=(ok.funs.mem Z).1;rw[e]at this;cases this
def Inv.bs(I:Inv X pins σ H s):∀b o,X.base.get? b=some o->s.heap.get? b=some o/\H b=none:=λb o e=>
 ⟨I.base.keep b o (I.ok.bs b o e).1 (I.ok.bs b o e).2 (I.ok.nofr e) (I.ok.noex b o e),I.base.free b o (I.ok.bs b o e).1 (I.ok.bs b o e).2 (I.ok.noex b o e)⟩
def Inv.bk(I:Inv X pins σ H s):∀b o,X.base.get? b=some o->s.heap.get? b=some o:=λb o e=>(I.bs b o e).1
def Inv.mod(I:Inv X pins σ H s):Mod X.K X.mg X.base:=I.ok.mod
def Inv.kIn(I:Inv X pins σ H s):X.K.In s.heap:=I.ok.mod.kin.keeps I.bk
def Inv.lt(I:Inv X pins σ H s):X.env.locals<s.heap.objs.size:=let⟨_,hn,_⟩:=I.loc;hn.lt
def Inv.sz(I:Inv X pins σ H s):X.s₀.heap.objs.size<=s.heap.objs.size:=aV I.ok.above (cG I.lt)
def Inv.nofs(I:Inv X pins σ H s) (h:s.heap.objs.size<=b):b∉X.fs:=λY=>by
 obtain⟨_,o,Z,_⟩:=I.ok.funs.mem Y;exact absurd (bU (af Z) (aV I.sz h)) (eG _)
def Inv.cne(I:Inv X pins σ H s):∀x c,X.env.cells.lookup x=some c->c≠X.env.locals:=λx c e z=>by
 obtain⟨v,o,W,hd⟩:=I.cell x c e;obtain⟨m,⟨o',es,ep,Z,Y,_⟩,_⟩:=I.loc;rw[z,Z]at W;cases W;rw[Y]at hd;cases hd
def Inv.funs(I:Inv X pins σ H s):s.heap.FunFrames X.base X.outer:=by
 have all:∀(l:List Env),(∀b∈frs l,b∈X.fs)->X.s₀.heap.FunFrames X.base l->s.heap.FunFrames X.base l:=by
  intro l
  induction l with
  |nil=>intro _ _;trivial
  |cons env r V=>
   intro hs S;obtain⟨R,⟨L,o,Z,hn,T,hd⟩,U⟩:=S;have W:=hs L (by unfold frs;rw[oK,Z];exact ao);obtain⟨Q,e⟩:=I.base.slot L o T (I.ok.frf L W) W λz=>I.ok.exfs L z W
   exact⟨R,⟨L,_,Z,hn,e,hd⟩,V (λb Y=>hs b (by unfold frs;rw[oK,Z];exact au _ Y)) U⟩
 exact all X.outer (λ_ Y=>Y) I.ok.funs
def Inv.stack(I:Inv X pins σ H s):s.heap.FunFrames X.base X.stack:=by
 rcases I.ok.stk with e|⟨e,Z⟩
 .rw[e];exact I.funs
 .rw[e];obtain⟨m,hn,_⟩:=I.loc;refine .cons (by rw[I.ok.kind];decide) Z hn ?_ I.funs;exact eI (aV I.ok.bsz I.ok.above)
def Inv.stkSub(I:Inv X pins σ H s):∀b∈frs X.stack,b∈X.env.locals::X.fs:=λb Z=>by
 rcases I.ok.stk with e|⟨e,Y⟩
 .rw[e]at Z;exact au _ Z
 .rw[e]at Z;unfold frs at Z;rwa[oK,Y]at Z
def Inv.stkFree(I:Inv X pins σ H s):∀b∈frs X.stack,H b=none:=λb Z=>by
 rcases aJ.mp (I.stkSub b Z)with e|Z
 .rw[e];exact I.free
 .obtain⟨_,o,Y,_⟩:=I.ok.funs.mem Z;exact I.base.free b o Y (I.ok.frf b Z) λz=>I.ok.exfs b z Z
def Inv.step {ch:List Addr} (I:Inv X pins σ H s)
 (B:∀b∈ch,(b∈X.ex\/X.s₀.heap.objs.size<=b)/\b≠X.env.locals/\(∀x c,X.env.cells.lookup x=some c->c≠b)/\∀p∈X.pn++pins,p.1≠b)
 (keep:∀b o,b≠X.env.locals->b∉X.fs->b∉ch->s.heap.get? b=some o->H b=none->h'.get? b=some o)
 (slot:∀b o,b≠X.env.locals->b∈X.fs->b∉ch->s.heap.get? b=some o->H b=none->∃D,h'.get? b=some {o with slots:=D}) (free:∀b o,b∉ch->s.heap.get? b=some o->H b=none->H' b=none)
 (there:∀b o,b∉ch->s.heap.get? b=some o->∃o',h'.get? b=some o')
 (tups:∀b xs,H b=some (.tup xs)->H' b=some (.tup xs)) (frzs:∀b o u,H b=some (.frz o u)->H' b=some (.frz o u)) (tbls:∀b q p,H b=some (.tbl q p)->H' b=some (.tbl q p))
 (ns:∀m,s.heap.Ns X.env.locals m->h'.Ns X.env.locals m) (hok:HOk X.prog X.w H' h') (J:h9 g') :
 Inv X pins σ H' {s with heap:=h',gens:=g',drawn:=d',toks:=t'}:=by
 have T:∀b o,X.s₀.heap.get? b=some o->b≠X.env.locals:=λb o e=>aR (bU (af e) I.ok.above)
 have W:∀b o,X.s₀.heap.get? b=some o->b∉X.ex->b∉ch:=λb o e Z V=>by
  rcases(B b V).1 with z|z
  .exact Z z
  .exact absurd (bU (af e) z) (eG _)
 have cellK:∀x c,X.env.cells.lookup x=some c->∀v,s.heap.IsCell c v->h'.IsCell c v:=λx c e v ⟨o,U,hd⟩=>by
  have Y:=λz=>(B c z).2.2.1 x c e rfl
  by_cases P:c∈X.fs
  .obtain⟨D,q⟩:=slot c o (I.cne x c e) P Y U (I.freeC x c e);exact⟨_,q,hd⟩
  .exact⟨o,keep c o (I.cne x c e) P Y U (I.freeC x c e),hd⟩
 refine⟨I.ok,I.os,J,⟨λb o e n V Z=>?_,λb o e n V Z=>?_,λb o e n Z=>?_,λb o e Z=>?_,λb xs e=>tups b xs (I.base.tups b xs e),λb o xs e=>frzs b o xs (I.base.frzs b o xs e),λb q p e=>tbls b q p (I.base.tbls b q p e)⟩,?_,λx c e=>?_,?_,λx c e=>?_,λp Q=>?_,hok,I.len⟩
 .exact keep b o (T b o e) V (W b o e Z) (I.base.keep b o e n V Z) (I.base.free b o e n Z)
 .obtain⟨D,e1⟩:=I.base.slot b o e n V Z;obtain⟨S,e2⟩:=slot b _ (T b o e) V (W b o e Z) e1 (I.base.free b o e n Z);exact⟨S,e2⟩
 .obtain⟨o',e1⟩:=I.base.there b o e Z;exact free b o' (W b o e Z) e1 (I.base.free b o e n Z)
 .obtain⟨o',e1⟩:=I.base.there b o e Z;exact there b o' (W b o e Z) e1
 .obtain⟨m,hn,O⟩:=I.loc;refine⟨m,ns m hn,λi x v e1 e2 e3=>?_⟩;obtain⟨u,r,l⟩:=O i x v e1 e2 e3;refine⟨u,r,?_⟩;rcases l with l|⟨k,c,e,z⟩
  .exact .inl l
  .exact .inr ⟨k,c,e,cellK x c e _ z⟩
 .obtain⟨v,z⟩:=I.cell x c e;exact⟨v,cellK x c e v z⟩
 .obtain⟨m,⟨o,_,_,U,_⟩,_⟩:=I.loc;exact free _ o (λz=>(B _ z).2.1 rfl) U I.free
 .obtain⟨v,o,U,hd⟩:=I.cell x c e;exact free c o (λz=>(B c z).2.2.1 x c e rfl) U (I.freeC x c e)
 .obtain⟨e,n,ne,R,d⟩:=I.pin p Q;have Y:=λz=>(B p.1 z).2.2.2 p Q rfl
  exact⟨keep p.1 p.2 ne R Y e n,free p.1 p.2 Y e n,ne,R,d⟩
def Inv.un (I:Inv X pins σ H s) (u:Un X.fs [] H H' s.heap h') (hok:HOk X.prog X.w H' h'):Inv X pins σ H' {s with heap:=h',toks:=t'}:=by
 obtain⟨m,⟨o,es,ep,U,r⟩,_⟩:=id I.loc;obtain⟨R,S⟩:=u.any U I.free (by simp);exact I.step (g':=s.gens) (d':=s.drawn) (ch:=[]) (λ_ z=>nomatch z) (λb o _ Y _ e n=>u.keep b o e n Y (by simp)) (λb o _ Y _ e n=>u.slot b o e n Y (by simp)) (λb o _ e n=>u.free b o e n (by simp)) (λb o _ e=>u.there b o e (by simp)) u.tups u.frzs u.tbls (λQ hm=>by
  obtain⟨o',W,V,Z,T⟩:=hm;rw[U]at Z;cases Z;exact⟨_,W,V,S,T⟩) hok I.bare
def Inv.call (I:Inv X pins σ H s) (u:Un (frs X.stack) ch H H' s.heap h') (hok:HOk X.prog X.w H' h') (D:h9 g')
 (B:∀b∈ch,(b∈X.ex\/X.s₀.heap.objs.size<=b)/\b≠X.env.locals/\(∀x c,X.env.cells.lookup x=some c->c≠b)/\∀p∈X.pn++pins,p.1≠b) :
 Inv X pins σ H' {s with heap:=h',gens:=g',drawn:=d',toks:=t'}:=by
 obtain⟨m,⟨o,es,ep,T,r⟩,_⟩:=id I.loc;obtain⟨Q,W⟩:=u.any T I.free λz=>(B _ z).2.1 rfl
 exact I.step (ch:=ch) B (λb o W R Z e n=>u.keep b o e n (λz=>(aJ.mp (I.stkSub b z)).elim W R) Z) (λb o _ _ Z e n=>u.any e n Z) (λb o Z e n=>u.free b o e n Z) (λb o Z e=>u.there b o e Z) u.tups u.frzs u.tbls (λP hm=>by
  obtain⟨o',V,U,Y,S⟩:=hm;rw[T]at Y;cases Y;exact⟨_,V,U,W,S⟩) hok D
def Inv.turned (I:Inv X pins σ H s) (k:∀b o,b≠it->s.heap.get? b=some o->h'.get? b=some o) (hn:H it=none) (B:it≠X.env.locals)
 (h1:it∈X.ex\/X.s₀.heap.objs.size<=it) (h2:∀x c,X.env.cells.lookup x=some c->c≠it) (D:∀p∈X.pn++pins,p.1≠it):Inv X pins σ H {s with heap:=h',toks:=t'}:=by
 have Y:∀b u,H b=some u->b≠it:=λb u e z=>by rw[z,hn]at e;cases e
 refine I.step (g':=s.gens) (d':=s.drawn) (ch:=[it]) (λb V=>?_) (λb o _ _ Z e _=>k b o (λz=>Z (by simp[z])) e) (λb o _ _ Z e _=>⟨o.slots,k b o (λz=>Z (by simp[z])) e⟩) (λ_ _ _ _ n=>n)
  (λb o Z e=>⟨o,k b o (λz=>Z (by simp[z])) e⟩) (λ_ _ e=>e) (λ_ _ _ e=>e) (λ_ _ _ e=>e) (λm hm=>?_) (λb u e=>?_) I.bare
 .have e:b=it:=by simpa using V
  subst e;exact⟨h1,B,h2,D⟩
 .obtain⟨o,es,ep,W,r⟩:=hm;exact⟨o,es,ep,k _ o (e9 B) W,r⟩
 .refine(I.hok b u e).stay (λc v Z q=>k c v ?_ q) (λ_ q=>q) λ_ _ q=>q
  rcases Z with z|z
  .rw[z];exact Y b u e
  .exact Y c _ z
def Inv.tok(I:Inv X pins σ H s)(t:Nat):Inv X pins σ H {s with toks:=t}:=I.un (h':=s.heap) (t':=t) Un.refl I.hok
def Inv.kept (I:Inv X pins σ H s) (k:∀b u,s.heap.get? b=some u->h'.get? b=some u):Inv X pins σ H {s with heap:=h',toks:=t'}:=I.un (Un.kept k) (I.hok.kept k)
def Inv.laid {o:HO}(I:Inv X pins σ H s) (k:∀b u,s.heap.get? b=some u->h'.get? b=some u) (D:s.heap.objs.size<=a) (B:gM X.prog X.w (upd H a o) h' a o) :
 Inv X pins σ (upd H a o) {s with heap:=h',toks:=t'}:=I.un (Un.laid k D (I.hok.fresh D)) (I.hok.laid k D B)
def Inv.write {x e:Addr}(I:Inv X pins σ H s) (J:Mut (H x)) (O:e=x\/H e=some (.own x)) (k:∀b u,b≠e->s.heap.get? b=some u->h'.get? b=some u) (B:∃u,h'.get? e=some u)
 (D:gM X.prog X.w (upd H x c) h' x c):Inv X pins σ (upd H x c) {s with heap:=h',toks:=t'}:=I.un (Un.write J O k B) (I.hok.write J O k B D)
def Inv.pins_of (I:Inv X pins σ H s) (h:∀p∈pins',s.heap.get? p.1=some p.2/\H p.1=none/\p.1≠X.env.locals/\p.1∉X.fs/\∀v,p.2.data ≠ .cell v):Inv X pins' σ H s:=
 ⟨I.ok,I.os,I.bare,I.base,I.loc,I.cell,I.free,I.freeC,λp Z=>(bW.mp Z).elim (λz=>I.pin p (bO _ z)) (h p),I.hok,I.len⟩
def GR(B:N.Nodup){i j:Nat} (a:N[i]? = some c) (b:N[j]? = some c):i=j:=by
 obtain⟨h1,e1⟩:=gB.mp a;obtain⟨h2,e2⟩:=gB.mp b;exact(List.getElem_inj B).mp (e1.trans e2.symm)
def Dh (I:Inv X pins σ H s) (hN:X.N.Nodup) (hi:X.N[i]? = some x) (B:Loc X.env.scope x) (r:RelV v q0)
 (h:∀s',Inv X pins (σ.set i (some v)) H s'->(∃a,gf a s.heap s'.heap/\(a=X.env.locals\/X.env.cells.lookup x=some a))->q1 () s') (hf:X.fn x=true\/X.env.scope.names.lookup x=some .local:=by first|exact .inl rfl|exact .inr rfl|assumption):wpAny M A (storeName X.env x q0) q1 E s:=by
 obtain⟨m,hn,hl⟩:=id I.loc;have P:(X.env.scope.kind == .class||(X.env.scope.kind == .module&&X.env.locals != X.env.globals))=false:=by rw[I.ok.kind];rfl
 have V:i<σ.length:=by rw[I.len];exact(gB.mp hi).1
 have cne:=I.cne;have tracked:∀{a:Addr}{h':fF},(∃o,s.heap.get? a=some o/\H a=none)->gf a s.heap h'->HOk X.prog X.w H h':=λ{a h'} ha hs b ob e=>by
  obtain⟨_,_,Y⟩:=ha;refine(I.hok b ob e).stay (λc K Z q=>(hs.2 c ?_).trans q) (λ_ q=>q) λ_ _ q=>q
  rintro rfl;rcases Z with rfl|Z
  .rw[Y]at e;cases e
  .rw[Y]at Z;cases Z
 rcases B with W|W
 .refine wpAny_storeName_local W hn (λh' g hs=>?_) P;obtain⟨oL,_,_,l,_⟩:=id hn;refine h _ ⟨I.ok,I.os,I.bare,⟨λb o e n S B=>?_,λb o e n S B=>?_,I.base.free,λb o e B=>?_,I.base.tups,I.base.frzs,I.base.tbls⟩,⟨_,g,λj y J e1 e2 e3=>?_⟩,λy c e=>?_,I.free,I.freeC,λp t=>?_,tracked ⟨oL,l,I.free⟩ hs,by simpa using I.len⟩ ⟨_,hs,.inl rfl⟩
  .exact(hs.2 b (aR (bU (af e) I.ok.above))).trans (I.base.keep b o e n S B)
  .obtain⟨F,e1⟩:=I.base.slot b o e n S B;exact⟨F,(hs.2 b (aR (bU (af e) I.ok.above))).trans e1⟩
  .obtain⟨o',e1⟩:=I.base.there b o e B;exact⟨o',(hs.2 b (aR (bU (af e) I.ok.above))).trans e1⟩
  .by_cases U:j=i
   .subst U;rw[hi]at e1;cases e1;rw[dg V]at e2
    cases e2;exact⟨q0,r,.inl ⟨W,by simp⟩⟩
   .rw[aY (e9 U)]at e2;obtain⟨G,D,q⟩:=hl j y J e1 e2 e3;refine⟨G,D,?_⟩;rcases q with⟨k,e⟩|⟨k,c,e,z⟩
    .refine .inl ⟨k,?_⟩;have:y≠x:=λe=>U (GR hN e1 (e▸hi))
     simp[this,e]
    .exact .inr ⟨k,c,e,z.sameBut hs (cne y c e)⟩
  .obtain⟨K,z⟩:=I.cell y c e;exact⟨K,z.sameBut hs (cne y c e)⟩
  .obtain⟨e,n,ne,C,d⟩:=I.pin p t;exact⟨(hs.2 p.1 ne).trans e,n,ne,C,d⟩
 .have T:X.fn x=true:=by
   rcases hf with z|z
   .exact z
   .rw[z]at W;cases W
  obtain⟨c,Z⟩:=I.ok.has x (.inl W);obtain⟨K,z⟩:=I.cell x c Z;refine wpAny_storeName_cell I.ok.kind W Z z (λh' L hs=>?_);obtain⟨oc,R,f⟩:=id z;refine h {s with heap:=h'} ⟨I.ok,I.os,I.bare,⟨λb o e n S B=>?_,λb o e n S B=>?_,I.base.free,λb o e B=>?_,I.base.tups,I.base.frzs,I.base.tbls⟩,⟨m,hn.sameBut hs (e9 (cne x c Z)),λj y J e1 e2 e3=>?_⟩,λy c' e=>?_,I.free,I.freeC,λp t=>?_,tracked ⟨oc,R,I.freeC x c Z⟩ hs,by simpa using I.len⟩ ⟨c,hs,.inr Z⟩
  .exact(hs.2 b (aR (bU (af e) (I.ok.cab x c T Z)))).trans (I.base.keep b o e n S B)
  .obtain⟨F,e1⟩:=I.base.slot b o e n S B;exact⟨F,(hs.2 b (aR (bU (af e) (I.ok.cab x c T Z)))).trans e1⟩
  .obtain⟨o',e1⟩:=I.base.there b o e B;exact⟨o',(hs.2 b (aR (bU (af e) (I.ok.cab x c T Z)))).trans e1⟩
  .by_cases U:j=i
   .subst U;rw[hi]at e1;cases e1;rw[dg V]at e2
    cases e2;exact⟨q0,r,.inr ⟨.inl W,c,Z,L⟩⟩
   .rw[aY (e9 U)]at e2;obtain⟨G,D,q⟩:=hl j y J e1 e2 e3;refine⟨G,D,?_⟩;rcases q with q|⟨k,c',e,z'⟩
    .exact .inl q
    .refine .inr ⟨k,c',e,z'.sameBut hs ?_⟩;rintro rfl;exact U (GR hN e1 (I.ok.inj _ _ _ e Z▸hi))
  .by_cases O:c'=c
   .subst O;exact⟨_,L⟩
   .obtain⟨w2,z2⟩:=I.cell y c' e;exact⟨w2,z2.sameBut hs O⟩
  .obtain⟨e,n,ne,C,d⟩:=I.pin p t;refine⟨(hs.2 p.1 ?_).trans e,n,ne,C,d⟩;intro q;rw[q,R]at e;have q':oc=p.2:=cR.inj e;exact d K (by rwa[<-q'])
def GX (I:Inv X pins σ H s) (J:X.N.Nodup) (hi:X.N[i]? = some x) (B:Loc X.env.scope x) (r:RelV v b)
 (h:∀s',Inv X pins (σ.set i (some v)) H s'->c () s') (D:X.fn x=true\/X.env.scope.names.lookup x=some .local:=by first|exact .inl rfl|exact .inr rfl|assumption):wpAny M A (storeName X.env x b) c E s:=
 Dh I J hi B r (λs' Z _=>h s' Z) D
end
abbrev XK:=Value->Option Addr->Hp->Prop
abbrev St:=List (Option V)
abbrev VK:=V->Hp->Prop
abbrev TE:=St->Hp->VK->Prop
abbrev TT:=St->Hp->(Bool->Hp->Prop)->Prop
abbrev TA:=St->Hp->(List V->Hp->Prop)->Prop
structure Ends where
 nx:St->Hp->Prop
 rt:VK
 bk:St->Hp->Prop:=λ_ _=>False
 ct:St->Hp->Prop:=λ_ _=>False
abbrev TS:=Ends->St->Hp->Prop
def EP(X:Cx)(pins:List (Addr×Obj))(σ:St)(Q:VK)(u:Value)(s':eM):Prop:=∃v H',Inv X pins σ H' s'/\RelV v u/\Q v H'
def TP(X:Cx)(pins:List (Addr×Obj))(σ:St)(Q:Bool->Hp->Prop)(b:Bool)(s':eM):Prop:=∃H',Inv X pins σ H' s'/\Q b H'
def AP(X:Cx)(pins:List (Addr×Obj))(σ:St)(Q:List V->Hp->Prop)(us:List Value)(s':eM):Prop:=∃vs H',Inv X pins σ H' s'/\Vals vs us/\Q vs H'
def SP(X:Cx)(pins:List (Addr×Obj))(D:Ends)(f:Flow)(s':eM):Prop:=
 match f with
 | .next=>∃σ' H',Inv X pins σ' H' s'/\D.nx σ' H'
 | .brk=>∃σ' H',Inv X pins σ' H' s'/\D.bk σ' H'
 | .cont=>∃σ' H',Inv X pins σ' H' s'/\D.ct σ' H'
 | .ret u=>∃v σ' H',Inv X pins σ' H' s'/\RelV v u/\D.rt v H'
def PE(X:Cx)(e:Expr)(t:TE):Prop:=
 ∀(pins:List (Addr×Obj))(s:eM)(σ:St)(H:Hp)(Q:VK),Inv X pins σ H s->t σ H Q->wpAny (model X.prog X.w) X.A (eval e X.env) (EP X pins σ Q) X.xe s
def PT(X:Cx)(e:Expr)(t:TT):Prop:=
 ∀(pins:List (Addr×Obj))(s:eM)(σ:St)(H:Hp)(Q:Bool->Hp->Prop),Inv X pins σ H s->t σ H Q->wpAny (model X.prog X.w) X.A (isTrue e X.env (eval e X.env)) (TP X pins σ Q) X.xe s
def PW(X:Cx)(e:Expr)(t:TT):Prop:=
 ∀(whole:Sem Value)(pins:List (Addr×Obj))(s:eM)(σ:St)(H:Hp)(Q:Bool->Hp->Prop),Inv X pins σ H s->t σ H Q->wpAny (model X.prog X.w) X.A (isTrue e X.env whole) (TP X pins σ Q) X.xe s
def PW.pt (h:PW X b t):PT X b t:=h _
def PA(X:Cx)(es:List Expr)(t:TA):Prop:=
 ∀(pos:Pos)(pins:List (Addr×Obj))(s:eM)(σ:St)(H:Hp)(Q:List V->Hp->Prop),Inv X pins σ H s->t σ H Q->wpAny (model X.prog X.w) X.A (spliced (backTo pos (starEach es X.env))) (AP X pins σ Q) X.xe s
def PS(X:Cx)(st:gv)(t:TS):Prop:=
 ∀(pins:List (Addr×Obj))(s:eM)(σ:St)(H:Hp)(D:Ends),Inv X pins σ H s->t D σ H->wpAny (model X.prog X.w) X.A (exec st X.env) (SP X pins D) X.xe s
def PSs(X:Cx)(st:List gv)(t:TS):Prop:=
 ∀(pins:List (Addr×Obj))(s:eM)(σ:St)(H:Hp)(D:Ends),Inv X pins σ H s->t D σ H->wpAny (model X.prog X.w) X.A (execs st X.env) (SP X pins D) X.xe s
def thn (h:wpAny M A t b E s) (D:∀a s,b a s->B a s):wpAny M A t B E s:=a5 h D λ_ _ x=>x
end L2
variable{X:L2.Cx}
variable{H:L2.Hp}
namespace L2
section
def ap6(i:Nat):TE:=λσ H Q=>∃v,σ[i]? = some (some v)/\Q v H
def tC(v:V):TE:=λ_ H Q=>Q v H
def pK (J:X.N[i]? = some x) (D:Vis X.env.scope x) (hd:(x==("__debug__":Str))=false:=by decide) (B:(x==("__classdict__":Str))=false:=by decide):PE X (.Name x b) (ap6 i):=by
 intro pins s σ H Q I h;obtain⟨v,e,h⟩:=h;obtain⟨m,hn,V⟩:=I.loc;obtain⟨u,r,l⟩:=V i x v J e D;have fin:EP X pins σ Q u s:=⟨v,H,I,r,h⟩;rcases l with⟨Y,hm⟩|⟨Y,c,W,Z⟩
 .exact dk (wpAny_loadName_local I.ok.kind Y hn hm fin) hd
 .rcases Y with Y|Y
  .exact dk (wpAny_loadName_cell I.ok.kind Y W Z fin) hd
  .exact dk (wpAny_loadName_free I.ok.kind Y W Z fin B) hd
def YB{i j pos}:PE X (.Constant (.int i) j pos) (tC (.int i)):=λ_ _ _ H _ I h=>wpAny_Constant_int ⟨.int i,H,I.tok _,⟨_,rfl⟩,h⟩
def XR{b j pos}:PE X (.Constant (.bool b) j pos) (tC (.bl b)):=λ_ _ _ H _ I h=>Constant_bool ⟨.bl b,H,I,rfl,h⟩
def YC{j pos}:PE X (.Constant .none j pos) (tC .non):=λ_ _ _ H _ I h=>Constant_none ⟨.non,H,I,rfl,h⟩
def YD{x j pos}:PE X (.Constant (.str x) j pos) (tC (.str x)):=λ_ _ _ H _ I h=>Calls.Constant_str ⟨.str x,H,I.tok _,⟨_,rfl⟩,h⟩
def Gl(X:Cx)(x:Str):Prop:=X.env.kindOf x=some .globalImplicit
def Lf (I:Inv X b σ H s) (B:Gl X x) (hm:X.mg x=some c) (h:f c s)
 (hd:(x==("__debug__":Str))=false:=by decide):wpAny (model X.prog X.w) X.A (eval (.Name x d) X.env) f E s:=
 df I.ok.kind B (Calls.loadGlobal_global (by rw[I.ok.glob];exact I.mod.glob.keeps I.bk) hm h) hd
def nA (I:Inv X b σ H s) (D:Gl X x) (hm:X.mg x=none) (B:bootBuiltins x=some c) (h:f c s)
 (hn:x≠"__name__" := by decide) (hd:(x==("__debug__":Str))=false:=by decide):wpAny (model X.prog X.w) X.A (eval (.Name x d) X.env) f E s:=by
 obtain⟨Z,h1,h2⟩:=I.mod.blt;exact df I.ok.kind D (Calls.loadGlobal_builtin (by rw[I.ok.glob];exact I.mod.glob.keeps I.bk) hm (by rw[I.ok.blt];exact h1.keeps I.bk) ((h2 x hn).trans B) h) hd
def U3 (B:Gl X x) (hm:X.mg x=some b) (r:RelV v b) (hd:(x==("__debug__":Str))=false:=by decide):PE X (.Name x c) (tC v):=
 λ_ _ _ H _ I h=>Lf I B hm ⟨v,H,I,r,h⟩ hd
def U4 (D:Gl X x) (hm:X.mg x=none) (B:bootBuiltins x=some b) (r:RelV v b) (hn:x≠"__name__" := by decide) (hd:(x==("__debug__":Str))=false:=by decide):PE X (.Name x c) (tC v):=
 λ_ _ _ H _ I h=>nA I D hm B ⟨v,H,I,r,h⟩ hn hd
variable{a b:Expr}{ta tb:TE}
def PC(X:Cx)(B:ic)(a b:Expr)(t:TE):Prop:=
 ∀(pins:List (Addr×Obj))(s:eM)(σ:St)(H:Hp)(Q:VK),Inv X pins σ H s->t σ H Q ->
  wpAny (model X.prog X.w) X.A (eval a X.env) (λv Y=>wpAny (model X.prog X.w) X.A (eval b X.env) (λu Z=>wpAny (model X.prog X.w) X.A (compareOp B v u) (EP X pins σ Q) X.xe Z) X.xe Y) X.xe s
def GZ(b:Expr) (h:B ≠ .In) (h2:B ≠ .NotIn):behindInMarks B b=false:=by
 have e1:(B==CmpOp.In)=false:=by cases B<;>first|rfl|exact absurd rfl h
 have e2:(B==CmpOp.NotIn)=false:=by cases B<;>first|rfl|exact absurd rfl h2
 cases b<;>simp[behindInMarks,e1,e2]
def ap7(ta:TE):TE:=λσ H Q=>ta σ H λx H1=>Q (.bl (decide (x = .non))) H1
def ae2(ta:TE):TE:=λσ H Q=>ta σ H λx H1=>Q (.bl (!decide (x = .non))) H1
theorem RelV.none_iff (r:RelV c d):(d==fy)=decide (c = .non):=by
 cases c with
 |non=>cases r;rfl
 |bl _=>cases r;rfl
 |int _=>obtain⟨t,rfl⟩:=r;rfl
 |str _=>obtain⟨t,rfl⟩:=r;rfl
 |byt _=>obtain⟨t,rfl⟩:=r;rfl
 |flt _=>obtain⟨t,rfl⟩:=r;rfl
 |ref _=>cases r;rfl
 |ty _=>cases r;rfl
def YF{j pos'}(ha:PE X a ta):PC X .Is a (.Constant .none j pos') (ap7 ta):=by
 intro pins s σ H Q I h;refine thn (ha pins s σ H _ I h) λv s1 ⟨x,H1,Y,Z,q1⟩=>?_
 exact Constant_none (is_none_gen ⟨.bl _,H1,Y,by rw[Z.none_iff];rfl,q1⟩)
def U5{j pos'}(ha:PE X a ta):PC X .IsNot a (.Constant .none j pos') (ae2 ta):=by
 intro pins s σ H Q I h;refine thn (ha pins s σ H _ I h) λv s1 ⟨x,H1,Y,Z,q1⟩=>?_
 exact Constant_none (isnot_none_gen ⟨.bl _,H1,Y,by rw[Z.none_iff];rfl,q1⟩)
def tB(t:TE):TT:=λσ H Q=>t σ H λx H1=>∃c,x = .bl c/\Q c H1
def Qe (h:PC X B a b t) (h1:behindInMarks B b=false:=by first|exact GZ _ (by decide) (by decide)|rfl):PE X (.Compare a [B] [b] pos) t:=λpins s σ H Q I hw=>wpAny_Compare1 (h pins s σ H Q I hw) h1
def YG (h:PC X B a b t) (h1:behindInMarks B b=false:=by first|exact GZ _ (by decide) (by decide)|rfl):PT X (.Compare a [B] [b] pos) (tB t):=by
 intro pins s σ H Q I hw;refine wpAny_isTrue_Compare1 (thn (h pins s σ H _ I hw) λv s1 h1=>thn h1 λu s2 h2=>thn h2 λc s3 ⟨x,H1,Y,Z,q1⟩=>?_) h1;obtain⟨d,rfl,q⟩:=q1
 cases Z;exact aw ⟨H1,Y,q⟩
def YH (h:PE X c t) (B:∀whole,isTrue c X.env whole=(do let v <-whole;standAt c.pos;holding [v] (truthy v)):=by intro _;rfl):PT X c (tB t):=by
 intro pins s σ H Q I hw;refine isTrue_plain (thn (h pins s σ H _ I hw) λv s1 ⟨x,H1,Y,Z,q1⟩=>?_) (B _);obtain⟨d,rfl,q⟩:=q1
 cases Z;exact aw ⟨H1,Y,q⟩
variable{tA tB':TT}{rest:List Expr}
def G3(t u:TT):TT:=λσ H Q=>t σ H λc H1=>if c=true then u σ H1 Q else Q false H1
def tOr(t u:TT):TT:=λσ H Q=>t σ H λc H1=>if c=true then Q true H1 else u σ H1 Q
def iY(t:TT):TT:=λσ H Q=>t σ H λc H1=>Q (!c) H1
theorem U6(ha:PT X a tA):PW X (.BoolOp .And [a] pos) tA:=by
 intro wh pins s σ H Q I h;refine isTrue_and (thn (ha pins s σ H Q I h) λc s1 e=>?_)
 cases c with
 |true=>exact isTrue_and_nil e
 |false=>exact e
theorem YJ(ha:PT X a tA):PW X (.BoolOp .Or [a] pos) tA:=by
 intro wh pins s σ H Q I h;refine isTrue_or (thn (ha pins s σ H Q I h) λc s1 e=>?_)
 cases c with
 |false=>exact isTrue_or_nil e
 |true=>exact e
theorem YK(ha:PT X a tA)(B:PW X (.BoolOp .And (b::rest) pos) tB'):PW X (.BoolOp .And (a::b::rest) pos) (G3 tA tB'):=by
 intro wh pins s σ H Q I h;refine isTrue_and (thn (ha pins s σ H _ I h) λc s1 ⟨H1,Z,q1⟩=>?_)
 cases c with
 |true=>exact B wh pins s1 σ H1 Q Z q1
 |false=>exact⟨H1,Z,q1⟩
theorem ae3(ha:PT X a tA)(B:PW X (.BoolOp .Or (b::rest) pos) tB'):PW X (.BoolOp .Or (a::b::rest) pos) (tOr tA tB'):=by
 intro wh pins s σ H Q I h;refine isTrue_or (thn (ha pins s σ H _ I h) λc s1 ⟨H1,Z,q1⟩=>?_)
 cases c with
 |true=>exact⟨H1,Z,q1⟩
 |false=>exact B wh pins s1 σ H1 Q Z q1
def YL(ha:PT X a tA):PT X (.UnaryOp .Not a pos) (iY tA):=by
 intro pins s σ H Q I h;exact isTrue_not (ha pins s σ H (λc H1=>Q (!c) H1) I h)
def ae4(ta tb:TE):TE:=λσ H Q=>ta σ H λx H1=>∃c,x = .bl c/\if c=true then tb σ H1 Q else Q (.bl false) H1
def ap8(ta tb:TE):TE:=λσ H Q=>ta σ H λx H1=>∃c,x = .bl c/\if c=true then Q (.bl true) H1 else tb σ H1 Q
def ae5(ta:TE):TE:=λσ H Q=>ta σ H λx H1=>∃c,x = .bl c/\Q (.bl (!c)) H1
def YM{B} (h:PE X a t):PE X (.BoolOp B [a] pos) t:=λpins s σ H Q I hw=>BoolOp_one (h pins s σ H Q I hw)
theorem YQ(ha:PE X a ta)(B:PE X (.BoolOp .And (b::rest) pos) tb):PE X (.BoolOp .And (a::b::rest) pos) (ae4 ta tb):=by
 intro pins s σ H Q I h;refine BoolOp_and (thn (ha pins s σ H _ I h) λv s1 ⟨x,H1,Z,Y,q1⟩=>?_);obtain⟨c,rfl,q1⟩:=q1
 cases Y;refine aw ?_
 cases c with
 |true=>exact B pins s1 σ H1 Q Z q1
 |false=>exact⟨.bl false,H1,Z,rfl,q1⟩
theorem ae6(ha:PE X a ta)(B:PE X (.BoolOp .Or (b::rest) pos) tb):PE X (.BoolOp .Or (a::b::rest) pos) (ap8 ta tb):=by
 intro pins s σ H Q I h;refine BoolOp_or (thn (ha pins s σ H _ I h) λv s1 ⟨x,H1,Z,Y,q1⟩=>?_);obtain⟨c,rfl,q1⟩:=q1
 cases Y;refine aw ?_
 cases c with
 |false=>exact B pins s1 σ H1 Q Z q1
 |true=>exact⟨.bl true,H1,Z,rfl,q1⟩
def YS(ha:PE X a ta):PE X (.UnaryOp .Not a pos) (ae5 ta):=by
 intro pins s σ H Q I h;refine UnaryOp_ (thn (ha pins s σ H _ I h) λv s1 ⟨x,H1,Y,Z,q1⟩=>?_);obtain⟨c,rfl,q1⟩:=q1
 cases Z;exact not_of (aw ⟨.bl (!c),H1,Y,rfl,q1⟩)
def tIf(t:TT)(ta tb:TE):TE:=λσ H Q=>t σ H λc H1=>if c=true then ta σ H1 Q else tb σ H1 Q
theorem Qf (B:PT X c tA) (ha:PE X a ta) (D:PE X b tb):PE X (.IfExp c a b pos) (tIf tA ta tb):=by
 intro pins s σ H Q I h;refine wpAny_IfExp (thn (B pins s σ H _ I h) λd s1 ⟨H1,Z,q1⟩=>?_)
 cases d with
 |true=>exact ha pins s1 σ H1 Q Z q1
 |false=>exact D pins s1 σ H1 Q Z q1
end
end L2
variable{K:PySem.W.Frag}{n:Nat}{H':L2.Hp}
namespace L2
def SqL(K:PySem.W.Frag)(H:Hp)(a:Addr)(xs:List V):Prop:=
 Rd H a (.lst xs) \/
  ∃(o:Obj)(its:Array Value)(n:Nat),K.lookup a=some o/\o.cls = .type "list"/\o.dict=none/\o.data = .seq its n/\its.size<=sizeLine/\Vals xs its.toList
def SqT(K:PySem.W.Frag)(H:Hp)(a:Addr)(xs:List V):Prop:=
 Rd H a (.tup xs) \/
  ∃(o:Obj)(its:Array Value)(n:Nat),K.lookup a=some o/\o.cls = .type "tuple"/\o.data = .seq its n/\its.size<=sizeLine/\Vals xs its.toList
noncomputable def ap9:Value->Option V
 | .none=>some .non
 | .bool b=>some (.bl b)
 | .int i _=>some (.int i)
 | .str x _=>some (.str x)
 | .bytes b _=>some (.byt b)
 | .float b _=>some (.flt b)
 | .ref a=>some (.ref a)
 | .type n=>some (.ty n)
 |_=>none
theorem RelV.abs (r:RelV b c):ap9 c=some b:=by
 cases b with
 |non=>cases r;rfl
 |bl _=>cases r;rfl
 |int _=>obtain⟨t,rfl⟩:=r;rfl
 |str _=>obtain⟨t,rfl⟩:=r;rfl
 |byt _=>obtain⟨t,rfl⟩:=r;rfl
 |flt _=>obtain⟨t,rfl⟩:=r;rfl
 |ref _=>cases r;rfl
 |ty _=>cases r;rfl
def RelV.inj (r:RelV b c) (q:RelV y c):b=y:=cR.inj (r.abs.symm.trans q.abs)
theorem Vals.inj:∀{xs ys:List V}{us:List Value},Vals xs us->Vals ys us->xs=ys
 |_,_,_,.nil,.nil=>rfl
 |_,_,_,.cons r t,.cons Z t'=>by rw[r.inj Z,Vals.inj t t']
section
variable{σ:St}{H:Hp}{s:eM}{ys:List V}
def SqL.of(h:H a=some (.lst xs)):SqL K H a xs:=.inl (.inl h)
def Inv.list(I:Inv X pins σ H s)(h:SqL X.K H a xs):∃its:List Value,Vals xs its/\PlainL s.heap a its.toArray/\xs.length<=sizeLine:=by
 rcases h with h|⟨o,its,n,Z,Y,hd,hs,W,r⟩
 .obtain⟨z,its,n,r,e⟩:=h.ok I.hok;exact⟨its,r,⟨_,n,e,rfl,rfl,rfl⟩,z⟩
 .refine⟨its.toList,r,⟨o,n,I.kIn a o Z,Y,hd,by simpa using hs⟩,?_⟩;have e:=r.length;simp only[bh]at e;lia
def Inv.tuple(I:Inv X pins σ H s)(h:SqT X.K H a xs):∃its:List Value,Vals xs its/\gT s.heap a its.toArray/\xs.length<=sizeLine:=by
 rcases h with h|⟨o,its,n,Z,Y,hs,W,r⟩
 .obtain⟨z,its,r,p⟩:=h.ok I.hok;exact⟨its,r,p,z⟩
 .refine⟨its.toList,r,⟨o,I.kIn a o Z,Y,n,by simpa using hs⟩,?_⟩;have e:=r.length;simp only[bh]at e;lia
def Inv.list_inj(I:Inv X pins σ H s)(h:SqL X.K H a xs)(h':SqL X.K H a ys):xs=ys:=by
 obtain⟨its,r,⟨o,n,e,_,_,d⟩,_⟩:=I.list h;obtain⟨Z,V,⟨o',T,Y,_,_,W⟩,_⟩:=I.list h';rw[e]at Y;cases Y;rw[d]at W;injection W with U _
 have:its=Z:=by simpa using congrArg Array.toList U
 subst this;exact r.inj V
def Inv.tuple_inj(I:Inv X pins σ H s)(h:SqT X.K H a xs)(h':SqT X.K H a ys):xs=ys:=by
 obtain⟨its,r,⟨o,e,_,n,d⟩,_⟩:=I.tuple h;obtain⟨Z,V,⟨o',Y,_,T,W⟩,_⟩:=I.tuple h';rw[e]at Y;cases Y;rw[d]at W;injection W with U _
 have:its=Z:=by simpa using congrArg Array.toList U
 subst this;exact r.inj V
end
abbrev Cx.wish(X:Cx)(E:Value->eM->Prop):Cx:={X with xe:=E}
abbrev Cx.nox(X:Cx):Cx:=X.wish λ_ _=>False
def Cx.Ok.wish(ok:X.Ok)(E:Value->eM->Prop):(X.wish E).Ok:=
 ⟨ok.mod,ok.kind,ok.glob,ok.blt,ok.above,ok.inj,ok.has,ok.cab,ok.hd,ok.frames,ok.stk,ok.exf,ok.bs,ok.bsz,ok.noex,ok.exfs,ok.funs,ok.frf⟩
def Cx.Ok.unwish (ok:(X.wish E).Ok):X.Ok:=
 ⟨ok.mod,ok.kind,ok.glob,ok.blt,ok.above,ok.inj,ok.has,ok.cab,ok.hd,ok.frames,ok.stk,ok.exf,ok.bs,ok.bsz,ok.noex,ok.exfs,ok.funs,ok.frf⟩
section
variable{σ:St}{H:Hp}{s:eM}{E:Value->eM->Prop}
def Inv.wish(I:Inv X pins σ H s)(E:Value->eM->Prop):Inv (X.wish E) pins σ H s:=⟨I.ok.wish E,I.os,I.bare,I.base,I.loc,I.cell,I.free,I.freeC,I.pin,I.hok,I.len⟩
def Inv.unwish(I:Inv (X.wish E) pins σ H s):Inv X pins σ H s:=⟨I.ok.unwish,I.os,I.bare,I.base,I.loc,I.cell,I.free,I.freeC,I.pin,I.hok,I.len⟩
theorem SP.unwish (h:SP (X.wish E) pins b f s'):SP X pins b f s':=by
 cases f with
 |next=>obtain⟨σ',H',I,q⟩:=h;exact⟨σ',H',I.unwish,q⟩
 |brk=>obtain⟨σ',H',I,q⟩:=h;exact⟨σ',H',I.unwish,q⟩
 |cont=>obtain⟨σ',H',I,q⟩:=h;exact⟨σ',H',I.unwish,q⟩
 |ret u=>obtain⟨v,σ',H',I,r,q⟩:=h;exact⟨v,σ',H',I.unwish,r,q⟩
def PSs.nox{st:List gv} (h:PSs X.nox st t):PSs X st t:=λpins s σ H D I hw=>
 a5 (h pins s σ H D (I.wish _) hw) (λ_ _ q=>q.unwish) λ_ _ z=>gy z
end
section
variable{st:gv}{rest:List gv}{t u:TS}{te:TE}
def ae7:TS:=λD σ H=>D.nx σ H
def aq0(t u:TS):TS:=λD σ H=>t {D with nx:=u D} σ H
def Lg:PSs X [] ae7:=λ_ _ σ H _ I h=>d4 ⟨σ,H,I,h⟩
theorem G4(h1:PS X st t)(h2:PSs X rest u):PSs X (st::rest) (aq0 t u):=by
 intro pins s σ H D I h;refine wpAny_execs_cons (thn (h1 pins s σ H {D with nx:=u D} I h) λf s1 q=>?_)
 cases f with
 |next=>
  obtain⟨σ',H',Z,q⟩:=q;exact h2 pins s1 σ' H' D Z q
 |ret v=>exact q
 |brk=>exact q
 |cont=>exact q
theorem Lh(h1:PS X st t):PSs X [st] t:=by
 intro pins s σ H D I h;refine wpAny_execs_cons (thn (h1 pins s σ H D I h) λf s1 q=>?_)
 cases f with
 |next=>exact d4 q
 |ret v=>exact q
 |brk=>exact q
 |cont=>exact q
def Inv.quiet (I:Inv X b σ H s):interactive X.env=false:=by simp[interactive,I.ok.kind]
def ae8(te:TE):TS:=λD σ H=>te σ H λ_ H1=>D.nx σ H1
def zB(B:PE X e te)(hs:swapsWith e none pos.line X.env=pure false:=by rfl):PS X (.Expr e pos) (ae8 te):=by
 intro pins s σ H D I h;exact wpAny_Expr_any (thn (B pins s σ H _ I h) λv s1 ⟨x,H1,Z,Y,q1⟩=>⟨σ,H1,Z,q1⟩) I.quiet hs
def aq1(te:TE):TS:=λD σ H=>te σ H D.rt
def JV(B:PE X e te):PS X (.Return (some e) pos) (aq1 te):=by
 intro pins s σ H D I h;exact wpAny_Return_some (thn (B pins s σ H _ I h) λv s1 ⟨x,H1,Y,Z,q1⟩=>⟨x,σ,H1,Y,Z,q1⟩)
def aq2(c:TT)(t u:TS):TS:=λD σ H=>c σ H λb H1=>if b=true then t D σ H1 else u D σ H1
theorem X3 (B:PT X c tc) (ha:PSs X f t) (J:PSs X b u):PS X (.If c f b pos) (aq2 tc t u):=by
 intro pins s σ H D I h;refine wpAny_If (thn (B pins s σ H _ I h) λd s1 ⟨H1,Z,q1⟩=>?_)
 cases d with
 |true=>exact ha pins s1 σ H1 D Z q1
 |false=>exact J pins s1 σ H1 D Z q1
def YT:TS:=λ_ _ _=>False
def Qg:PS X st YT:=λ_ _ _ _ _ _ h=>h.elim
end
abbrev TG:=V->St->Hp->(St->Hp->Prop)->Prop
abbrev TGs:=List V->St->Hp->(St->Hp->Prop)->Prop
def PG(X:Cx)(target:Expr)(t:TG):Prop:=
 ∀(pins:List (Addr×Obj))(s:eM)(σ:St)(H:Hp)(v:V)(u:Value)(Q:St->Hp->Prop),Inv X pins σ H s->RelV v u->t v σ H Q ->
  wpAny (model X.prog X.w) X.A (assign target X.env u) (λ_ s'=>∃σ' H',Inv X pins σ' H' s'/\Q σ' H') X.xe s
def PGs(X:Cx)(ts:List Expr)(t:TGs):Prop:=
 ∀(pins:List (Addr×Obj))(s:eM)(σ:St)(H:Hp)(vs:List V)(us:List Value)(Q:St->Hp->Prop),Inv X pins σ H s->Vals vs us->t vs σ H Q ->
  wpAny (model X.prog X.w) X.A (assignInOrder ((assignEach ts X.env).map (·.2)) us) (λ_ s'=>∃σ' H',Inv X pins σ' H' s'/\Q σ' H') X.xe s
abbrev YW:=V->V->V->Hp->(Hp->Prop)->Prop
def U7(X:Cx)(t:YW):Prop:=
 ∀(pins:List (Addr×Obj))(s:eM)(σ:St)(H:Hp)(o i v:V)(Z Y u:Value)(Q:Hp->Prop),Inv X pins σ H s->RelV o Z->RelV i Y->RelV v u->t o i v H Q ->
  wpAny (model X.prog X.w) X.A (setItem Z Y u) (λ_ s'=>∃H',Inv X pins σ H' s'/\Q H') X.xe s
section
def Qh(i:Nat):TG:=λv σ H Q=>Q (σ.set i (some v)) H
def U8(J:X.N.Nodup)(hi:X.N[i]? = some x)(B:Loc X.env.scope x)(D:X.fn x=true\/X.env.scope.names.lookup x=some .local:=by first|exact .inl rfl|exact .inr rfl|assumption):PG X (.Name x pos) (Qh i):=by
 intro pins s σ H v u Q I r h;exact wpAny_assign_Name (GX I J hi B r (λs' Z=>⟨_,H,Z,h⟩) D)
def aq3:TGs:=λvs σ H Q=>vs=[]/\Q σ H
def ae9(t:TG)(u:TGs):TGs:=λvs σ H Q=>∃v r,vs=v::r/\t v σ H λσ' H'=>u r σ' H' Q
def U9:PGs X [] aq3:=by
 intro pins s σ H vs us Q I r h;obtain⟨e,h⟩:=h;subst e
 cases r;exact assignInOrder_nil ⟨σ,H,I,h⟩
theorem Qi (h1:PG X b t) (h2:PGs X c d)
 (hs:(assignEach (b::c) X.env).map (·.2)=assign b X.env::(assignEach c X.env).map (·.2):=by rfl):PGs X (b::c) (ae9 t d):=by
 intro pins s σ H vs us Q I r h;obtain⟨v,V,e1,h⟩:=h;subst e1
 cases r with
 |cons r Y=>
  rw[hs];refine assignInOrder_cons (thn (h1 pins s σ H _ _ _ I r h) λ_ s1 ⟨Z,H1,W,q1⟩=>?_);exact h2 pins s1 Z H1 _ _ Q W Y q1
def aq4(K:PySem.W.Frag)(n:Nat)(t:TGs):TG:=λv σ H Q=>∃a xs,v = .ref a/\SqT K H a xs/\xs.length=n/\t xs σ H Q
def YX (D:X.calm=true) (h:PGs X c t)
 (hn:(assignEach c X.env).length=n:=by rfl) (B:(assignEach c X.env).findIdx? (·.1)=none:=by rfl):PG X (.Tuple c k pos) (aq4 X.K n t):=by
 intro pins s σ H v u Q I r hw;obtain⟨a,xs,e1,V,U,hw⟩:=hw;subst e1
 cases r;obtain⟨its,Z,W,S⟩:=I.tuple V;refine assign_Tuple_tuple (I.ok.hd D) W (by simp[hn,<-U,Z.length]) B λh' Y=>?_
 have T:=I.kept (t':=s.toks) λb o e=>Y b o (aR (af e)) e
 exact h pins _ σ H xs _ Q T (by simpa using Z) hw
def xP(to ti:TE)(t:YW):TG:=λv σ H Q=>to σ H λo H1=>ti σ H1 λi H2=>t o i v H2 λZ=>Q σ Z
def Qj (J:PE X b to) (hi:PE X c ti) (hs:U7 X t)
 (ha:∀v,assign (.Subscript b c pos) X.env v=(do
  let B <-holding [v] (eval b X.env)
  let D <-holding [v,B] (eval c X.env)
  standAt pos
  holding [v,B,D] (setItem B D v)
  release [v,B,D] []):=by intro _;rfl):PG X (.Subscript b c pos) (xP to ti t):=by
 intro pins s σ H v u Q I r h;rw[ha];refine aa (ap (thn (J pins s σ H _ I h) λB s1 ⟨x,H1,T,Y,q1⟩=>?_));refine aa (ap (thn (hi pins s1 σ H1 _ T q1) λD s2 ⟨y,H2,U,Z,q2⟩=>?_));refine aa (da (aa (ap (thn (hs pins s2 σ H2 x y v B D u _ U Y Z r q2) λ_ s3 ⟨S,V,W⟩=>?_))));exact wpAny_release ⟨σ,S,V,W⟩
def YZ(te:TE)(g:TG):TS:=λD σ H=>te σ H λx H1=>g x σ H1 D.nx
def JW (J:PE X b te) (B:PG X tg g) (hs:swapsWithSole [tg] b pos.line X.env=pure false:=by rfl) (hw:swappedStores [tg] b X.env=pure none:=by rfl)
 (h1:(assignEach [tg] X.env).map (·.2)=[assign tg X.env]:=by rfl):PS X (.Assign [tg] b pos) (YZ te g):=by
 intro pins s σ H D I h;refine wpAny_Assign_stores (thn (J pins s σ H _ I h) λv s1 ⟨x,H1,Y,Z,q1⟩=>?_) hs hw;rw[h1];exact thn (B pins s1 σ H1 x v _ Y Z q1) λ_ s2 q=>q
def Es (Y:X.N.Nodup) (hi:X.N[i]? = some x) (B:Loc X.env.scope x) (O:PE X b te) (hs:swapsWith b (some (.Name x c)) pos.line X.env=pure false:=by rfl) (J:X.fn x=true\/X.env.scope.names.lookup x=some .local:=by first|exact .inl rfl|exact .inr rfl|assumption) :
 PS X (.Assign [.Name x c] b pos) (YZ te (Qh i)):=by
 intro pins s σ H D I h;refine wpAny_Assign_Name (thn (O pins s σ H _ I h) λv s1 ⟨y,H1,V,Z,q1⟩=>?_) hs;exact GX V Y hi B Z (λs2 W=>⟨_,H1,W,q1⟩) J
end
section
end
structure It where
 go:Nat->Hp->Prop
 yld:Nat->Hp->V->Hp->Prop
 stop:Nat->Hp->Prop
def xQ(X:Cx)(pins:List (Addr×Obj))(H:Hp)(b:Addr):Prop:=
 H b=none/\b≠X.env.locals/\b∉X.fs/\(b∈X.ex\/X.s₀.heap.objs.size<=b)/\(∀x c,X.env.cells.lookup x=some c->c≠b)/\∀p∈X.pn++pins,p.1≠b
def Inv.fpOk (I:Inv d f σ H s) (B:s.heap.objs.size<=b) (hn:H' b=none):xQ d f H' b:=by
 refine⟨hn,mD (bU I.lt B),I.nofs B,.inr (aV I.sz B),λx c e z=>?_,λp Z z=>?_⟩
 .obtain⟨v,q⟩:=I.cell x c e;exact absurd (bU q.lt (by rwa[z])) (eG _)
 .exact absurd (bU (af (I.pin p Z).1) (by rwa[z])) (eG _)
structure Turn(P:eS)(w:ff)(K:PySem.W.Frag)(tg:Expr)(J:It)(fp:List Addr)(it:Addr)(tn:Nat->fF->Prop):Prop where
 mem:it∈fp
 obj:∀i h,tn i h->∀b∈fp,∃o,h.get? b=some o/\∀v,o.data ≠ .cell v
 keep:∀i h h',tn i h->(∀b∈fp,∀o,h.get? b=some o->h'.get? b=some o)->tn i h'
 item:∀(X:Cx),X.prog=P->X.w=w->X.K=K->X.calm=true->∀(i:Nat)(pins:List (Addr×Obj))(s:eM)(σ:St)(H:Hp)(E:Value->eM->Prop),Inv X pins σ H s->(∀b∈fp,xQ X pins H b)->tn i s.heap->J.go i H ->
  wpAny (model P w) X.A (pyNext (.ref it)) (λr s1=>∃u,r=some u /\
   wpAny (model P w) X.A (letOwnedTupleGo tg (.ref it) u) (λ_ s2=>∃x H',Inv X pins σ H' s2/\RelV x u/\J.yld i H x H'/\tn (i+1) s2.heap/\∀b∈fp,H' b=none) E s1) E s
 done:∀(X:Cx),X.prog=P->X.w=w->X.K=K->X.calm=true->∀(i:Nat)(pins:List (Addr×Obj))(s:eM)(σ:St)(H:Hp)(E:Value->eM->Prop),Inv X pins σ H s->(∀b∈fp,xQ X pins H b)->tn i s.heap->J.stop i H ->
  wpAny (model P w) X.A (pyNext (.ref it)) (λr s1=>r=none/\Inv X pins σ H s1) E s
 self:∀(A:eW)(i:Nat)(s:eM)(Q:Value->eM->Prop)(E:Value->eM->Prop),tn i s.heap->Q (.ref it) s->wpAny (model P w) A (pyIter (.ref it)) Q E s
abbrev TI:=St->Hp->(It->Hp->Prop)->Prop
def PIE(X:Cx)(pins:List (Addr×Obj))(σ:St)(tg:Expr)(R:It->Hp->Prop)(B:Value)(s2:eM):Prop:=
 ∃(it:Addr)(fp:List Addr)(tn:Nat->fF->Prop)(J:It)(H':Hp),B = .ref it/\Inv X pins σ H' s2/\Turn X.prog X.w X.K tg J fp it tn/\tn 0 s2.heap/\(∀b∈fp,xQ X pins H' b)/\R J H'
def PI(X:Cx)(tg iter:Expr)(wi:TI):Prop:=
 ∀(pins:List (Addr×Obj))(s:eM)(σ:St)(H:Hp)(R:It->Hp->Prop),Inv X pins σ H s->wi σ H R ->
  wpAny (model X.prog X.w) X.A (eval iter X.env) (λv s1=>wpAny (model X.prog X.w) X.A (pyIter v) (PIE X pins σ tg R) X.xe s1) X.xe s
def G5 {n:String}(D:s.heap.get? it=some c) (J:c.cls = .type n) (hd:c.data = .fields vs)
 (hn:["enumerate", "zip", "dict_itemiterator", "dict_reverseitemiterator", "odict_iterator", "itertools.zip_longest", "itertools.pairwise"].contains n=false) (B:d () s):wpAny M A (letOwnedTupleGo tg (.ref it) b) d E s:=by
 cases tg<;>first
  |exact ae B
  | (cases b<;>first
   |exact ae B
   | (refine aa (wpAny_load D ?_)
      rw[J,hd];show wpAny M A (if(["enumerate", "zip", "dict_itemiterator", "dict_reverseitemiterator", "odict_iterator", "itertools.zip_longest", "itertools.pairwise"].contains n&&vs[0]? == some (rawInt _))=true then _ else _) d E s;rw[if_neg (by intro h;rw[hn,Bool.false_and]at h;cases h)];exact ae B))
noncomputable def Itl(K:PySem.W.Frag)(a:Addr):It:=
 ⟨λi H=>∃xs x,SqL K H a xs/\xs[i]? = some x,λi H x H'=>H'=H/\∀xs,SqL K H a xs->xs[i]? = some x,λi H=>∃xs,SqL K H a xs/\xs.length<=i⟩
noncomputable def Itt(K:PySem.W.Frag)(a:Addr):It:=
 ⟨λi H=>∃xs x,SqT K H a xs/\xs[i]? = some x,λi H x H'=>H'=H/\∀xs,SqT K H a xs->xs[i]? = some x,λi H=>∃xs,SqT K H a xs/\xs.length<=i⟩
noncomputable def Itr(lo:Int)(n:Nat):It:=⟨λi _=>i<n,λi H x H'=>H'=H/\x = .int (lo+i),λi _=>n<=i⟩
theorem N7(a it:Addr):Turn P w K tg (Itl K a) [it] it (λi h=>h.IsListIter it a i) where
 mem:=by simp
 obj:=λi h st b Z=>by
  have e:b=it:=by simpa using Z
  subst e;obtain⟨o,e,c,d⟩:=st;exact⟨o,e,λv z=>by rw[d]at z;cases z⟩
 keep:=λi h h' st k=>st.at λo e=>k it (by simp) o e
 item:=by
  intro X T hw S N i pins s σ H E I W st U;subst T hw S;obtain⟨xs,x,Y,O⟩:=U;obtain⟨its,V,p,J⟩:=I.list Y;obtain⟨u,hu,L⟩:=V.get O;obtain⟨f0,f1,f2,f3,Q,R⟩:=W it (by simp);refine wpAny_pyNext_list_item st p.isList (x:=u) (by simpa using hu) λh' st' M=>?_
  have D:=I.turned (t':=s.toks) (λb o Z e=>(M.2 b Z).trans e) f0 f1 f3 Q R;obtain⟨o,e,c,d⟩:=id st';exact⟨u,rfl,G5 (s:={s with heap:=h'}) e c d (by decide) ⟨x,H,D,L,⟨rfl,λys G=>by rwa[I.list_inj G Y]⟩,st',λb Z=>(W b Z).1⟩⟩
 done:=by
  intro X T hw S N i pins s σ H E I W st U;subst T hw S;obtain⟨xs,Y,O⟩:=U;obtain⟨its,V,p,J⟩:=I.list Y;obtain⟨f0,f1,f2,f3,Q,R⟩:=W it (by simp);have C:=V.length;exact wpAny_pyNext_list_end (I.ok.hd N) st p.isList (by simp;lia) λh' F=>⟨rfl,I.turned (t':=s.toks) (λb o Z e=>F b o Z e) f0 f1 f3 Q R⟩
 self:=λ_ _ _ _ _ st h=>wpAny_pyIter_listiter st h
theorem JX(a it:Addr):Turn P w K tg (Itt K a) [it] it (λi h=>h.IsTupleIter it a i) where
 mem:=by simp
 obj:=λi h st b Z=>by
  have e:b=it:=by simpa using Z
  subst e;obtain⟨o,e,c,d⟩:=st;exact⟨o,e,λv z=>by rw[d]at z;cases z⟩
 keep:=λi h h' st k=>st.at λo e=>k it (by simp) o e
 item:=by
  intro X T hw S N i pins s σ H E I W st U;subst T hw S;obtain⟨xs,x,Y,O⟩:=U;obtain⟨its,V,p,J⟩:=I.tuple Y;obtain⟨u,hu,L⟩:=V.get O;obtain⟨f0,f1,f2,f3,Q,R⟩:=W it (by simp);refine wpAny_pyNext_tuple_item st (show s.heap.IsTuple a its.toArray from p) (x:=u) (by simpa using hu) λh' st' M=>?_
  have D:=I.turned (t':=s.toks) (λb o Z e=>(M.2 b Z).trans e) f0 f1 f3 Q R;obtain⟨o,e,c,d⟩:=id st';exact⟨u,rfl,G5 (s:={s with heap:=h'}) e c d (by decide) ⟨x,H,D,L,⟨rfl,λys G=>by rwa[I.tuple_inj G Y]⟩,st',λb Z=>(W b Z).1⟩⟩
 done:=by
  intro X T hw S N i pins s σ H E I W st U;subst T hw S;obtain⟨xs,Y,O⟩:=U;obtain⟨its,V,p,J⟩:=I.tuple Y;obtain⟨f0,f1,f2,f3,Q,R⟩:=W it (by simp);have C:=V.length;exact wpAny_pyNext_tuple_end (I.ok.hd N) st (show s.heap.IsTuple a its.toArray from p) (by simp;lia) λh' F=>⟨rfl,I.turned (t':=s.toks) (λb o Z e=>F b o Z e) f0 f1 f3 Q R⟩
 self:=λ_ _ _ _ _ st h=>wpAny_pyIter_tupleiter st h
theorem JZ(it:Addr)(lo:Int)(n:Nat):Turn P w K tg (Itr lo n) [it] it (λi h=>IsRangeIter h it (lo+(i:Nat)*1) ((n:Int)-(i:Nat)) 1) where
 mem:=by simp
 obj:=λi h st b Z=>by
  have e:b=it:=by simpa using Z
  subst e;exact⟨_,st,λv z=>by
   have O:Data.fields _=Data.cell v:=z
   cases O⟩
 keep:=λi h h' st k=>k it (by simp) _ st
 item:=by
  intro X T hw S U i pins s σ H E I Y st V;subst T hw S;obtain⟨f0,f1,f2,f3,Q,R⟩:=Y it (by simp);have W:=Walks.range (prog:=X.prog) (w:=X.w) (I.ok.hd U) it lo 1 n;refine W.item i s _ _ V st λv h' tk M st' N=>?_
  obtain⟨t,rfl⟩:=M;have J:Inv X pins σ H {s with heap:=h',toks:=tk}:=I.turned (λb o Z e=>N b o (by simpa using Z) e) f0 f1 f3 Q R;refine⟨_,rfl,G5 (s:={s with heap:=h',toks:=tk}) (n := "range_iterator") st' rfl rfl (by decide) ⟨.int (lo+i),H,J,⟨t,?_⟩,⟨rfl,rfl⟩,st',λb Z=>(Y b Z).1⟩⟩;rw[Int.mul_one]
 done:=by
  intro X T hw S U i pins s σ H E I Y st V;subst T hw S;obtain⟨f0,f1,f2,f3,Q,R⟩:=Y it (by simp);exact wpAny_pyNext_range_end (I.ok.hd U) st (by have:n<=i:=V;lia) λh' L=>⟨rfl,I.turned (t':=s.toks) (λb o Z e=>L b o Z e) f0 f1 f3 Q R⟩
 self:=λ_ _ _ _ _ st h=>wpAny_pyIter_rangeiter st h
end L2
variable{p:Pos}
namespace L2
section
def af0(K:PySem.W.Frag)(tl:TE):TI:=λσ H R=>tl σ H λx H1=>∃a,x = .ref a/\(∃xs,SqL K H1 a xs)/\R (Itl K a) H1
def U_(K:PySem.W.Frag)(tl:TE):TI:=λσ H R=>tl σ H λx H1=>∃a,x = .ref a/\(∃xs,SqT K H1 a xs)/\R (Itt K a) H1
def Li (B:PE X l tl):PI X tg l (af0 X.K tl):=by
 intro pins s σ H R I h;refine thn (B pins s σ H _ I h) λv s1 ⟨x,H1,Z,Y,q1⟩=>?_
 obtain⟨a,e,⟨xs,W⟩,q⟩:=q1;subst e
 cases Y;obtain⟨its,U,p,T⟩:=Z.list W;refine di p.isList ?_;refine⟨s1.heap.objs.size,[s1.heap.objs.size],_,_,H1,rfl,Z.kept (t':=s1.toks) λb o e=>ad _ e,N7 a _,⟨_,ag _ rfl,rfl,rfl⟩,λb V=>?_,q⟩;have e:b=s1.heap.objs.size:=by simpa using V
 subst e;exact Z.fpOk (aB _) (Z.hok.fresh (aB _))
def J0 (B:PE X l tl):PI X tg l (U_ X.K tl):=by
 intro pins s σ H R I h;refine thn (B pins s σ H _ I h) λv s1 ⟨x,H1,Z,Y,q1⟩=>?_
 obtain⟨a,e,⟨xs,W⟩,q⟩:=q1;subst e
 cases Y;obtain⟨its,U,p,T⟩:=Z.tuple W;refine b7 (show s1.heap.IsTuple a its.toArray from p) ?_;refine⟨s1.heap.objs.size,[s1.heap.objs.size],_,_,H1,rfl,Z.kept (t':=s1.toks) λb o e=>ad _ e,JX a _,⟨_,ag _ rfl,rfl,rfl⟩,λb V=>?_,q⟩;have e:b=s1.heap.objs.size:=by simpa using V
 subst e;exact Z.fpOk (aB _) (Z.hok.fresh (aB _))
def G6 {E:Value->eM->Prop} {lo hi:Int} {t u v:Tok} {tk:Nat} (I:Inv X c σ H s) (h1 : -(2^62)<=lo) (h2:lo<2^62) (D : -(2^62)<=hi) (B:hi<2^62)
 (q:d (Itr lo (hi-lo).toNat) H):wpAny (model X.prog X.w) X.A (pyIter (.ref s.heap.objs.size)) (PIE X c σ tg d) E {s with heap:=s.heap.push {cls:=.type "range", data:=.fields #[.int lo t,.int hi u,.int 1 v]},toks:=tk}:=by
 refine wpAny_pyIter_range (IsRange.new ..) (small_one h1 h2 D B) ?_;have Z:Inv X c σ H {s with heap:=s.heap.push {cls:=.type "range", data:=.fields #[.int lo t,.int hi u,.int 1 v]},toks:=tk}:=I.kept λb o e=>ad _ e
 refine⟨(s.heap.push {cls:=.type "range", data:=.fields #[.int lo t,.int hi u,.int 1 v]}).objs.size,[(s.heap.push {cls:=.type "range", data:=.fields #[.int lo t,.int hi u,.int 1 v]}).objs.size],_,_,H,rfl,
  Z.kept (t':=tk) λb o e=>ad _ e,JZ _ lo (hi-lo).toNat,?_,λb Y=>?_,q⟩
 .have e1:lo+((0:Nat):Int)*1=lo:=by simp
  have e2:(((hi-lo).toNat:Nat):Int)-((0:Nat):Int)=gx lo hi 1:=by rw[rangeSize_one];split<;>lia
  rw[e1,e2];exact ag _ rfl
 .have e:b=(s.heap.push {cls:=.type "range", data:=.fields #[.int lo t,.int hi u,.int 1 v]}).objs.size:=by simpa using Y
  subst e;exact Z.fpOk (aB _) (Z.hok.fresh (aB _))
def af2(ta:TA):TI:=λσ H R=>ta σ H λvs H1=>∃j:Int,vs=[.int j]/\-(2^62)<=j/\j<2^62/\R (Itr 0 j.toNat) H1
def af3(ta:TA):TI:=λσ H R=>ta σ H λvs H1=>∃i j:Int,vs=[.int i,.int j]/\(-(2^62)<=i/\i<2^62/\-(2^62)<=j/\j<2^62)/\R (Itr i (j-i).toNat) H1
theorem N8 (B:Gl X "range") (hm:X.mg "range"=none) (ha:PA X [b] ta) (hs:starEach [b] X.env=[(false,eval b X.env)]:=by rfl):PI X tg (.Call (.Name "range" p) [b] [] c) (af2 ta):=by
 intro pins s σ H R I h;refine Call_ (nA I B hm boot_range (e_ (thn (ha c pins s σ H _ I h) λus s1 ⟨vs,H1,W,Y,q1⟩=>?_) hs rfl));obtain⟨j,e,q1,q2,q⟩:=q1;subst e
 cases Y with
 |cons r Z=>
  cases Z;obtain⟨t,rfl⟩:=r;exact call_range_1 (G6 W (by lia) (by lia) q1 q2 (by simpa using q))
theorem N_ (D:Gl X "range") (hm:X.mg "range"=none) (ha:PA X [c,b] ta) (hs:starEach [c,b] X.env=[(false,eval c X.env),(false,eval b X.env)]:=by rfl) (B:starEach [b] X.env=[(false,eval b X.env)]:=by rfl) :
 PI X tg (.Call (.Name "range" p) [c,b] [] d) (af3 ta):=by
 intro pins s σ H R I h;refine Call_ (nA I D hm boot_range (e_ (thn (ha d pins s σ H _ I h) λus s1 ⟨vs,H1,T,Y,q1⟩=>?_) (by rw[hs,B]) (by rw[B];rfl)));obtain⟨i,j,e,⟨q1,q2,U,V⟩,q⟩:=q1;subst e
 cases Y with
 |cons r Z=>
  cases Z with
  |cons W Z=>
   cases Z;obtain⟨t,rfl⟩:=r;obtain⟨t',rfl⟩:=W;exact call_range_2 (G6 T q1 q2 U V q)
def aq5(wi:TI)(g:TG)(tb:TS):TS:=λD σ H=>wi σ H λJ H1=>∃W:Nat->Nat->St->Hp->Prop,(∃m,W 0 m σ H1)/\∀i m σ H,W i m σ H ->
 (J.stop i H/\D.nx σ H)\/(J.go i H/\∃N:St->Hp->Prop,(∀σ' H',N σ' H'->∃Y,Y<m/\W (i+1) Y σ' H')/\∀x H',J.yld i H x H'->g x σ H' λZ H2=>tb {D with nx:=N,ct:=N,bk:=D.nx} Z H2)
def Ab(fp:List Addr)(h:fF):List (Addr×Obj):=fp.filterMap λb=>(h.get? b).map λo=>(b,o)
def rT (B:b∈fp) (e:h.get? b=some c):(b,c)∈Ab fp h:=lH.mpr ⟨b,B,by rw[e];rfl⟩
theorem Oa (B:c∈Ab fp h):c.1∈fp/\h.get? c.1=some c.2:=by
 obtain⟨b,Z,e⟩:=lH.mp B
 cases q:h.get? b with
 |none=>rw[q]at e;cases e
 |some o=>
  rw[q]at e;have Y:(b,o)=c:=cR.inj e;subst Y;exact⟨Z,q⟩
def Inv.pinned (I:Inv X c σ H s) (D:∀b∈fp,xQ X c H b) (B:∀b∈fp,∃o,s.heap.get? b=some o/\∀v,o.data ≠ .cell v):Inv X (c++Ab fp s.heap) σ H s:=
 I.pins_of λp W=>(bW.mp W).elim (λz=>I.pin p (bw _ z)) λz=>by
  obtain⟨Z,e⟩:=Oa z;obtain⟨f0,f1,f2,_⟩:=D p.1 Z;obtain⟨o,Y,d⟩:=B p.1 Z;rw[e]at Y;cases Y;exact⟨e,f0,f1,f2,d⟩
def Inv.unpinned (I:Inv X (b++pl) σ H s):Inv X b σ H s:=I.pins_of λp Z=>I.pin p (bw _ (bO _ Z))
def Y0 (hp:PassesOwn (model X.prog X.w) X.A X.env X.xe) (hc:X.calm=true) (hi:PI X tg q0 wi) (hg:PG X tg g) (B:PSs X q1 tb)
 (hs:∀x,foldedSetIterable q0 X.env x=pure x:=by intro _;rfl):PS X (.For tg q0 q1 [] q2) (aq5 wi g tb):=by
 intro pins s σ H D I h;refine wpAny_For (thn (hi pins s σ H _ I h) λv s1 h1=>thn h1 λitv s2 h2=>?_) hs;obtain⟨it,fp,tn,J,H2,e,I2,T,G,f2,W,⟨m0,w0⟩,turn⟩:=h2;subst e;have V:∀{H':Hp},(∀b∈fp,H' b=none)->∀b∈fp,xQ X pins H' b:=λhn b B=>⟨hn b B,(f2 b B).2⟩
 refine codeAny_forLoop_any (λn s'=>∃i σ' H',Inv X pins σ' H' s'/\tn i s'.heap/\(∀b∈fp,H' b=none)/\W i n σ' H') ?_ m0 ⟨0,σ,H2,I2,G,λb B=>(f2 b B).1,w0⟩;rintro n s3 ⟨i,Y,L,t,P,M,k⟩;rcases turn i n Y L k with⟨stop,qn⟩|⟨go,N,hN,step⟩
 .refine bS hp (thn (T.done X rfl rfl rfl hc i pins s3 Y L X.xe t (V M) P stop) λr c ⟨E,I4⟩=>?_);subst E;exact d4 ⟨Y,L,I4,qn⟩
 .refine bS hp (thn (T.item X rfl rfl rfl hc i pins s3 Y L X.xe t (V M) P go) λr c ⟨u,E,h4⟩=>?_);subst E;refine bS hp (thn h4 λ_ y ⟨x,q,I5,r5,p,Q,C⟩=>?_);have z:=I5.pinned (V C) (T.obj _ _ Q);refine bS hp (thn (hg _ y Y q x u _ z r5 (step x q p)) λ_ j ⟨K,H6,I6,q6⟩=>?_);refine bS hp (thn (B _ j K H6 _ I6 q6) λf F R=>?_);have again:∀{Z:St}{S:Hp},Inv X (pins++Ab fp y.heap) Z S F->N Z S->∃m,m<n/\∃i σ' H',Inv X pins σ' H' F/\tn i F.heap/\(∀b∈fp,H' b=none)/\W i m σ' H':=λ{Z S} U O=>by
   obtain⟨m',hm,l⟩:=hN Z S O;refine⟨m',hm,i+1,Z,S,U.unpinned,T.keep _ _ _ Q λb B o e=>(U.pin (b,o) (bw _ (bw _ (rT B e)))).1,λb B=>?_,l⟩;obtain⟨o,e,d⟩:=T.obj _ _ Q b B;exact(U.pin (b,o) (bw _ (bw _ (rT B e)))).2.1
  cases f with
  |next=>obtain⟨Z,S,U,O⟩:=R;exact again U O
  |cont=>obtain⟨Z,S,U,O⟩:=R;exact again U O
  |brk=>obtain⟨Z,S,U,R⟩:=R;exact⟨Z,S,U.unpinned,R⟩
  |ret v=>obtain⟨x7,Z,S,U,a,R⟩:=R;exact⟨x7,Z,S,U.unpinned,a,R⟩
end
end L2
namespace L2
abbrev R2:=V->V->Hp->VK->Prop
def OpR(X:Cx)(f:Value->Value->Sem Value)(r:R2):Prop:=
 ∀(pins:List (Addr×Obj))(s:eM)(σ:St)(H:Hp)(x y:V)(v u:Value)(Q:VK),Inv X pins σ H s->RelV x v->RelV y u->r x y H Q ->
  wpAny (model X.prog X.w) X.A (f v u) (EP X pins σ Q) X.xe s
def UnR(X:Cx)(f:Value->Sem Value)(r:V->Hp->VK->Prop):Prop:=
 ∀(pins:List (Addr×Obj))(s:eM)(σ:St)(H:Hp)(x:V)(v:Value)(Q:VK),Inv X pins σ H s->RelV x v->r x H Q ->
  wpAny (model X.prog X.w) X.A (f v) (EP X pins σ Q) X.xe s
def m7(X:Cx)(f:Value)(r:List V->Hp->VK->Prop):Prop:=
 ∀(pins:List (Addr×Obj))(s:eM)(σ:St)(H:Hp)(xs:List V)(us:List Value)(Q:VK),Inv X pins σ H s->Vals xs us->r xs H Q ->
  wpAny (model X.prog X.w) X.A (call f us) (EP X pins σ Q) X.xe s
def tOp(r:R2)(ta tb:TE):TE:=λσ H Q=>ta σ H λx H1=>tb σ H1 λy H2=>r x y H2 Q
def tUn(r:V->Hp->VK->Prop)(ta:TE):TE:=λσ H Q=>ta σ H λx H1=>r x H1 Q
def rI(C:Int->Int->Prop)(g:Int->Int->V):R2:=λx y H Q=>∃i j,x = .int i/\y = .int j/\C i j/\Q (g i j) H
def rI0(g:Int->Int->V):R2:=λx y H Q=>∃i j,x = .int i/\y = .int j/\Q (g i j) H
def rU(g:Int->V):V->Hp->VK->Prop:=λx H Q=>∃i,x = .int i/\Q (g i) H
section
variable{a b c:Expr}{ta tb tc:TE}
def Y4(ha:PE X a ta)(O:PE X b tb) {R:V->V->Hp->Prop} (I:Inv X d σ g s)
 (h:ta σ g λx H1=>tb σ H1 λy H2=>R x y H2) {Q:Value->eM->Prop} {f:Value->Value->Sem Value}
 (J:∀v u s2 x y H2,Inv X d σ H2 s2->RelV x v->RelV y u->R x y H2->wpAny (model X.prog X.w) X.A (f v u) Q X.xe s2) :
 wpAny (model X.prog X.w) X.A (eval a X.env) (λv D=>wpAny (model X.prog X.w) X.A (eval b X.env) (λu B=>wpAny (model X.prog X.w) X.A (f v u) Q X.xe B) X.xe D) X.xe s:=by
 refine thn (ha d s σ g _ I h) λv s1 ⟨x,H1,U,Y,q1⟩=>?_
 refine thn (O d s1 σ H1 _ U q1) λu s2 ⟨y,H2,W,Z,q2⟩=>?_
 exact J v u s2 x y H2 W Y Z q2
def Qk (D:OpR X (binaryOp B) r) (ha:PE X a ta) (J:PE X b tb):PE X (.BinOp a B b pos) (tOp r ta tb):=by
 intro pins s σ H Q I h;exact wpAny_BinOp (Y4 ha J I h λv u s2 x y H2 W Y Z q=>D pins s2 σ H2 x y v u Q W Y Z q)
def af4 (D:UnR X (unaryOp B) r) (ha:PE X a ta):PE X (.UnaryOp B a pos) (tUn r ta):=by
 intro pins s σ H Q I h;exact UnaryOp_ (thn (ha pins s σ H _ I h) λv s1 ⟨x,H1,Y,Z,q1⟩=>D pins s1 σ H1 x v Q Y Z q1)
def opI {g:Int->Int->Int}
 (rule:∀(i j:Int)(t u:Tok)(s:eM)(Q:Value->eM->Prop)(E:Value->eM->Prop),C i j->Q (.int (g i j) s.toks) {s with toks:=s.toks+1}->wpAny (model X.prog X.w) X.A (f (.int i t) (.int j u)) Q E s) :
 OpR X f (rI C λi j=>.int (g i j)):=by
 intro pins s σ H x y v u Q I Y Z h;obtain⟨i,j,rfl,rfl,W,q⟩:=h;obtain⟨t,rfl⟩:=Y;obtain⟨t',rfl⟩:=Z;exact rule i j t t' s _ _ W ⟨.int (g i j),H,I.tok _,⟨_,rfl⟩,q⟩
def af5 {g:Int->Int->Int}
 (rule:∀(i j:Int)(t u:Tok)(s:eM)(Q:Value->eM->Prop)(E:Value->eM->Prop),Q (.int (g i j) s.toks) {s with toks:=s.toks+1}->wpAny (model X.prog X.w) X.A (f (.int i t) (.int j u)) Q E s) :
 OpR X f (rI0 λi j=>.int (g i j)):=by
 intro pins s σ H x y v u Q I Y Z h;obtain⟨i,j,rfl,rfl,q⟩:=h;obtain⟨t,rfl⟩:=Y;obtain⟨t',rfl⟩:=Z;exact rule i j t t' s _ _ ⟨.int (g i j),H,I.tok _,⟨_,rfl⟩,q⟩
def Va {g:Int->Int->Bool}
 (rule:∀(i j:Int)(t u:Tok)(s:eM)(Q:Value->eM->Prop)(E:Value->eM->Prop),Q (.bool (g i j)) s->wpAny (model X.prog X.w) X.A (f (.int i t) (.int j u)) Q E s) :
 OpR X f (rI0 λi j=>.bl (g i j)):=by
 intro pins s σ H x y v u Q I Y Z h;obtain⟨i,j,rfl,rfl,q⟩:=h;obtain⟨t,rfl⟩:=Y;obtain⟨t',rfl⟩:=Z;exact rule i j t t' s _ _ ⟨.bl (g i j),H,I,rfl,q⟩
def Y5(i j:Int):Prop:=0<=j/\j<=1000000/\i.natAbs<2^64
def gb:OpR X (binaryOp .Add) (rI0 λi j=>.int (i+j)):=af5 λ_ _ _ _ _ _ _ q=>add_int q
def Et:OpR X (binaryOp .Sub) (rI0 λi j=>.int (i-j)):=af5 λ_ _ _ _ _ _ _ q=>sub_int q
def oX:OpR X (binaryOp .Mod) (rI (λ_ j=>j≠0) λi j=>.int (i.fmod j)):=opI λ_ _ _ _ _ _ _ Z q=>mod_int' Z q
def Y6:OpR X (binaryOp .Pow) (rI Y5 λi j=>.int (i^j.toNat)):=opI λ_ _ _ _ _ _ _ Z q=>pow_int_small Z.1 Z.2.1 Z.2.2 q
def unI {g:Int->Int}
 (rule:∀(i:Int)(t:Tok)(s:eM)(Q:Value->eM->Prop)(E:Value->eM->Prop),Q (.int (g i) s.toks) {s with toks:=s.toks+1}->wpAny (model X.prog X.w) X.A (f (.int i t)) Q E s) :
 UnR X f (rU λi=>.int (g i)):=by
 intro pins s σ H x v Q I Z h;obtain⟨i,rfl,q⟩:=h;obtain⟨t,rfl⟩:=Z;exact rule i t s _ _ ⟨.int (g i),H,I.tok _,⟨_,rfl⟩,q⟩
def Y7:UnR X (unaryOp .USub) (rU λi=>.int (-i)):=unI λ_ _ _ _ _ q=>neg_int q
end
section
variable{a b c:Expr}{ta tb tc:TE}
def G7:OpR X (compareOp .Lt) (rI0 λi j=>.bl (decide (i<j))):=Va λ_ _ _ _ _ _ _ q=>lt_int q
def kZ:OpR X (compareOp .LtE) (rI0 λi j=>.bl (decide (i<=j))):=Va λ_ _ _ _ _ _ _ q=>le_int q
def Ac:OpR X (compareOp .Gt) (rI0 λi j=>.bl (decide (j<i))):=Va λ_ _ _ _ _ _ _ q=>gt_int q
def af6:OpR X (compareOp .GtE) (rI0 λi j=>.bl (decide (j<=i))):=Va λ_ _ _ _ _ _ _ q=>ge_int q
def cY(b:Expr) (h:B ≠ .In:=by decide) (h2:B ≠ .NotIn:=by decide):behindInMarks B b=false:=by
 have e1:(B==CmpOp.In)=false:=by cases B<;>first|rfl|exact absurd rfl h
 have e2:(B==CmpOp.NotIn)=false:=by cases B<;>first|rfl|exact absurd rfl h2
 cases b<;>simp[behindInMarks,e1,e2]
def Vb (D:OpR X (compareOp B) r) (ha:PE X a ta) (J:PE X b tb) (hm:behindInMarks B b=false):PE X (.Compare a [B] [b] pos) (tOp r ta tb):=by
 intro pins s σ H Q I h;exact wpAny_Compare1 (Y4 ha J I h λv u s2 x y H2 W Y Z q=>D pins s2 σ H2 x y v u Q W Y Z q) hm
def X4(t:TE):TT:=λσ H Q=>t σ H λx H'=>∃k,x = .bl k/\Q k H'
def Vc (D:OpR X (compareOp B) r) (ha:PE X a ta) (J:PE X b tb) (hm:behindInMarks B b=false):PT X (.Compare a [B] [b] pos) (X4 (tOp r ta tb)):=by
 intro pins s σ H Q I h;refine wpAny_isTrue_Compare1 (thn (ha pins s σ H _ I h) λv s1 ⟨x,H1,S,W,q1⟩=>thn (J pins s1 σ H1 _ S q1) λu s2 ⟨y,H2,T,Y,q2⟩=>
  thn (D pins s2 σ H2 x y v u _ T W Y q2) λc s3 ⟨z,R,U,Z,k,e,V⟩=>?_) hm
 subst e
 cases Z;exact aw ⟨R,U,V⟩
noncomputable def Ql(r B:R2)(ta tb tc:TE):TE:=λσ H Q=>ta σ H λx H1=>tb σ H1 λy H2=>r x y H2 λz Z=>∃k,z = .bl k /\
 (if k=true then tc σ Z λY X=>B y Y X Q else Q (.bl false) Z)
theorem Qm (ho:OpR X (compareOp f) r) (J:OpR X (compareOp B) O) (ha:PE X a ta) (hb:PE X b tb) (hc:PE X c tc)
 (hm:lastMarks [f,B] [b,c]=false:=by with_unfolding_all rfl):PE X (.Compare a [f,B] [b,c] pos) (Ql r O ta tb tc):=by
 intro pins s σ H Q I h;refine Compare_chain (thn (ha pins s σ H _ I h) λv s1 ⟨x,H1,G,N,q1⟩=>chain_link (thn (hb pins s1 σ H1 _ G q1) λu s2 ⟨y,H2,K,Z,q2⟩=>
  thn (ho pins s2 σ H2 x y v u _ K N Z q2) λd s3 ⟨z,V,W,P,k,e,Y⟩=>?_)) hm
 subst e
 cases P;refine aw ?_
 cases k with
 |false=>exact ite_ff ⟨.bl false,V,W,rfl,Y⟩
 |true=>exact ite_tt (chain_last (thn (hc pins s3 σ V _ W Y) λT S ⟨U,F,L,R,M⟩=>J pins S σ F y U u T Q L Z R M))
theorem Qn (ho:OpR X (compareOp f) r) (J:OpR X (compareOp B) O) (ha:PE X a ta) (hb:PE X b tb) (hc:PE X c tc)
 (hm:lastMarks [f,B] [b,c]=false:=by with_unfolding_all rfl):PT X (.Compare a [f,B] [b,c] pos) (X4 (Ql r O ta tb tc)):=by
 intro pins s σ H Q I h;refine isTrue_chain (thn (ha pins s σ H _ I h) λv s1 ⟨x,H1,w,M,q1⟩=>test_link (thn (hb pins s1 σ H1 _ w q1) λu s2 ⟨y,H2,A,Z,q2⟩=>
  thn (ho pins s2 σ H2 x y v u _ A M Z q2) λd s3 ⟨z,V,W,N,k,e,Y⟩=>?_)) hm
 subst e
 cases N;refine aw ?_
 cases k with
 |false=>
  obtain⟨o,F,G⟩:=Y
  cases F;exact ite_ff ⟨V,W,G⟩
 |true=>
  refine ite_tt (test_last (thn (hc pins s3 σ V _ W Y) λT S ⟨U,q,C,P,K⟩=>thn (J pins S σ q y U u T _ C Z P K) λn p ⟨z2,t,E,R,k2,e2,L⟩=>?_));subst e2
  cases R;exact aw ⟨t,E,L⟩
def xR:(sizeLine:Nat)<2^63:=by rw[c8];decide
theorem vals1 (r:Vals [d] us):∃u,us=[u]/\RelV d u:=by
 cases r with
 |cons Y Z=>cases Z;exact⟨_,rfl,Y⟩
theorem vals2 (r:Vals [d,y] us):∃u B,us=[u,B]/\RelV d u/\RelV y B:=by
 cases r with
 |cons W X=>
  cases X with
  |cons Y Z=>cases Z;exact⟨_,_,rfl,W,Y⟩
def Ob:m7 X (.type "int") (λxs H Q=>(∃i,xs=[.int i]/\Q (.int i) H)\/∃k,xs=[.bl k]/\Q (.int (if k then 1 else 0)) H):=by
 intro pins s σ H xs us Q I r h;rcases h with⟨i,rfl,q⟩|⟨k,rfl,q⟩
 .obtain⟨u,rfl,t,rfl⟩:=vals1 r;exact call_int_int ⟨.int i,H,I,⟨_,rfl⟩,q⟩
 .obtain⟨u,rfl,Z⟩:=vals1 r
  cases Z;exact call_int_bool ⟨.int (if k then 1 else 0),H,I.tok _,⟨_,rfl⟩,q⟩
end
end L2
namespace L2
structure ObjM(h:fF)(x dx C:Addr)(mA:Str->Option Value):Prop where
 obj:h.get? x=some (PySem.W.instObj C dx)
 ns:h.Ns1 dx mA
 ne:dx≠x
def Od (n:h.Ns1 b mA):∃od,h.get? b=some od/\∀name,PySem.W.lookIn name od=some (mA name):=by
 obtain⟨o,es,ep,X,hd,V,_,hm⟩:=n;refine⟨o,X,λname=>?_⟩;have e:=hm name;unfold nsFind findBy at e;rw[<-Array.find?_toList]at e;unfold PySem.W.lookIn;rw[hd];dsimp only;split
 .rename_i y q;rw[q]at e;exact congrArg some e
 .rename_i q;rw[q]at e;have a:es.toList.any (·.refKey)=false:=by
   rw[List.any_eq_false];intro y Y;obtain⟨z,t,Z⟩:=V y (Array.mem_toList_iff.mp Y);simp[DictEntry.refKey,Z]
  have U:¬es.toList.any (·.refKey)=true:=by rw[a];exact bA
  rw[if_neg U];exact congrArg some e
def ObjM.look (I:ObjM h b c C mA):∃od,PySem.W.InstAt h b (PySem.W.instObj C c) C (some od)/\∀name,PySem.W.lookIn name od=some (mA name):=
 let⟨od,Z,Y⟩:=Od I.ns
 ⟨od,⟨I.obj,rfl,rfl,Z⟩,Y⟩
section
variable{prog:eS}{A:eW}{E:Value->eM->Prop}{s:eM}{x dx C f:Addr}{mA:Str->Option Value}{name:Str}{v:Value}
end
theorem xO.some_of {o:Option Value}(r:xO (some v) o):∃u,o=some u/\RelV v u:=by
 cases o with
 |none=>exact(show False from r).elim
 |some u=>exact⟨u,rfl,r⟩
section
variable{H H':Hp}{C dx:Addr}{fs fs':List (Str×V)}
def Vd(hok:HOk P w H h)(e:H a=some (.ins C dx fs)):∃mA,ObjM h a dx C mA/\(∀f,xO (fs.lookup f) (mA f))/\PySem.Within mA (fs.map (·.1))/\fs.length<=1000/\H dx=some (.own a):=by
 obtain⟨d,z,ne,Z,mA,n,r,q⟩:=(show gM P w H h a (.ins C dx fs)from hok a _ e);exact⟨mA,⟨Z,n,ne⟩,r,q,z,d⟩
end
structure Cls(K:PySem.W.Frag)(C:Addr):Prop where
 pg:PySem.W.plainGet K C Str.empty=true
 hd:PySem.W.hasDictIn K C=true
 po:PySem.W.plainOver K C=true
 sa:PySem.W.findIn K (.ref C) "__setattr__"=some (some (.builtin "object.__setattr__"))
def Cls.get (c:Cls K C) (f:Str):PySem.W.plainGet K C f=true:=c.pg
structure Con(K:PySem.W.Frag)(C:Addr)(f:Str)(v:V)(u:Value):Prop where
 at_:PySem.W.findIn K (.ref C) f=some (some u)
 rel:RelV v u
 get:PySem.W.specialIn K u "__get__"=some none
 cp:PySem.W.copiedNames.contains f=false
structure Meth(K:PySem.W.Frag)(C:Addr)(m:Str)(f:Addr):Prop where
 at_:PySem.W.findIn K (.ref C) m=some (some (.ref f))
 fn:PySem.W.isFn K (.ref f)=true
 kp:PySem.W.keepIn K (.ref f)=true
section
variable{σ:St}{H:Hp}{s:eM}{C dx:Addr}{fs:List (Str×V)}{f:Str}{v:V}{A:eW}{E:Value->eM->Prop}
end
section
variable{o value:Expr}{f:Str}{tpos:Pos}{ta tv:TE}
end
section
variable{σ:St}{H:Hp}{s:eM}{A:eW}{E:Value->eM->Prop}{c:Value}{b:Bool}
inductive TyOf(K:PySem.W.Frag)(H:Hp):V->Value->Prop where
 |non:TyOf K H .non (.type "NoneType")
 |bl (x:Bool):TyOf K H (.bl x) (.type "bool")
 |int (i:Int):TyOf K H (.int i) (.type "int")
 |str (x:Str):TyOf K H (.str x) (.type "str")
 |flt (x:UInt64):TyOf K H (.flt x) (.type "float")
 |lst {a:Addr} {xs:List V} (e:H a=some (.lst xs)):TyOf K H (.ref a) (.type "list")
 |frz {a:Addr} {o:Obj} {xs:List V} (e:H a=some (.frz o (.lst xs))):TyOf K H (.ref a) (.type "list")
 |tup {a:Addr} {xs:List V} (e:H a=some (.tup xs)):TyOf K H (.ref a) (.type "tuple")
 |dK {a:Addr} {kvs:List (Key×V)} (e:H a=some (.dK kvs)):TyOf K H (.ref a) (.type "dict")
 |dT {a:Addr} {kvs:List (List Key×V)} (e:H a=some (.dT kvs)):TyOf K H (.ref a) (.type "dict")
 |ins {a C dx:Addr} {fs:List (Str×V)} (e:H a=some (.ins C dx fs)) (cl:Cls K C) (ha:PySem.W.findIn K (.ref C) "__class__"=some (some (.builtin "object.__class__")))
  (hn:PySem.W.specialIn K (.builtin "object.__class__") "__get__"=some (some (.builtin "getset_descriptor.__get__"))) (htk:PySem.W.takesIn K (.builtin "object.__class__")=some true)
  (hm:PySem.W.mroIn K C (.type "object")=some true):TyOf K H (.ref a) (.ref C)
theorem Di (I:Inv X pins σ H s) (B:RelV d f) (ty:TyOf X.K H d t) (e:PySem.W.kitOne X.K t c=some b) (h:∀tk,Q (.bool b) {s with toks:=tk}) :
 wpAny (model X.prog X.w) A (call (.builtin "isinstance") [f,c]) Q E s:=by
 cases ty with
 |non=>cases(show f=fy from B);exact PySem.W.kia_one PySem.W.kitx_none I.kIn fS e (λz=>nomatch z) h
 |bl y=>cases(show f=gg y from B);exact PySem.W.kia_one PySem.W.kitx_bool I.kIn fS e (λz=>nomatch z) h
 |int i=>obtain⟨t,q⟩:=(show ∃t,f=hJ i t from B);cases q;exact PySem.W.kia_one PySem.W.kitx_int I.kIn fS e (λz=>nomatch z) h
 |str y=>obtain⟨t,q⟩:=(show ∃t,f=Value.str y t from B);cases q;exact PySem.W.kia_one PySem.W.kitx_str I.kIn fS e (λz=>nomatch z) h
 |flt y=>obtain⟨t,q⟩:=(show ∃t,f=Value.float y t from B);cases q;exact PySem.W.kia_one PySem.W.kitx_float I.kIn fS e (λz=>nomatch z) h
 | @lst a xs Z=>
  cases(show f=eQ a from B);obtain⟨_,_,n,_,h1⟩:=(show gM X.prog X.w H s.heap a (.lst xs)from I.hok a _ Z);exact PySem.W.kia_one PySem.W.kitx_list I.kIn ⟨_,h1,rfl⟩ e (λz=>nomatch z) h
 | @frz a Y xs Z=>
  cases(show f=eQ a from B);obtain⟨_,_,_,n,_,h1⟩:=(show gM X.prog X.w H s.heap a (.frz Y (.lst xs))from I.hok a _ Z);exact PySem.W.kia_one PySem.W.kitx_list I.kIn ⟨_,h1,rfl⟩ e (λz=>nomatch z) h
 | @tup a xs Z=>
  cases(show f=eQ a from B);obtain⟨_,_,_,p⟩:=(show gM X.prog X.w H s.heap a (.tup xs)from I.hok a _ Z);obtain⟨o,h1,h2,_⟩:=p;exact PySem.W.kia_one PySem.W.kitx_tuple I.kIn ⟨o,h1,h2⟩ e (λz=>nomatch z) h
 | @dK a kvs Z=>
  cases(show f=eQ a from B);obtain⟨_,_,vs,_,p⟩:=(show gM X.prog X.w H s.heap a (.dK kvs)from I.hok a _ Z);obtain⟨o,es,ep,h1,h2,_⟩:=p;exact PySem.W.kia_one PySem.W.kitx_dict I.kIn ⟨o,h1,h2.1⟩ e (λz=>nomatch z) h
 | @dT a kvs Z=>
  cases(show f=eQ a from B);obtain⟨_,_,xs,_,o,es,ep,h1,h2,_⟩:=(show gM X.prog X.w H s.heap a (.dT kvs)from I.hok a _ Z);exact PySem.W.kia_one PySem.W.kitx_dict I.kIn ⟨o,h1,h2.1⟩ e (λz=>nomatch z) h
 | @ins a C dx fs Z cl ha hn htk hm=>
  cases(show f=eQ a from B);obtain⟨mA,O,_⟩:=Vd I.hok Z;obtain⟨od,J,_⟩:=O.look;exact PySem.W.kia_one (PySem.W.kitx_own (cl.get _) cl.hd ha hn htk hm) I.kIn J e (λz=>nomatch z) h
end
end L2
variable{mg:Str->Option Value}{base:fF}{f:Addr}{fd:gc}{vs:List L2.V}{cd pm ct oc:Value}{an od:Option Addr}
namespace L2
structure Room(k:Nat)(A:eW):Prop where
 hd:A.handled=none
 dp:A.depth+3*k+5<recursionLimit
 un:A.units+16*k+200<cLine
def Room.mono (r:Room k A) (h:j<=k):Room j A:=⟨r.hd,by have:=r.dp;lia,by have:=r.un;lia⟩
def Room.deeper (r:Room (k+1) A) (env:Env):Room k (A.deeper env):=
 ⟨r.hd,by have:=r.dp;show A.depth+1+3*k+5<_;lia,by have:=r.un;show A.units+3+16*k+200<_;lia⟩
def Room.depth (r:Room k A):A.depth<recursionLimit:=by have:=r.dp;lia
def Room.units (r:Room k A):A.units+64<cLine:=by have:=r.un;lia
def aq6:TA:=λ_ H Q=>Q [] H
def af7(ta:TE)(tr:TA):TA:=λσ H Q=>ta σ H λx H1=>tr σ H1 λxs H2=>Q (x::xs) H2
section
variable{te:TE}{t:TA}
def nC:PA X [] aq6:=λ_ _ _ _ H Q I h=>bX ⟨[],H,I,.nil,h⟩
def jk(ha:PE X e te)(B:PA X es t)(hs:starEach (e::es) X.env=(false,eval e X.env)::starEach es X.env:=by rfl):PA X (e::es) (af7 te t):=by
 intro pos pins s σ H Q I h;rw[hs];refine bi (thn (ha pins s σ H _ I h) λu s1 ⟨x,H1,V,Y,q1⟩=>?_);exact thn (B pos pins s1 σ H1 _ V q1) λus s2 ⟨xs,H2,W,Z,q2⟩=>⟨x::xs,H2,W,.cons Y Z,q2⟩
def aq7(t:TA):TE:=λσ H Q=>t σ H λxs H1=>xs.length<=sizeLine/\∀p,H1 p=none->Q (.ref p) (upd H1 p (.tup xs))
def aq8(t:TA):TE:=λσ H Q=>t σ H λxs H1=>xs.length<=sizeLine/\∀p,H1 p=none->Q (.ref p) (upd H1 p (.lst xs))
def Qo{x1}(h:PA X es t):PE X (.Tuple es x1 pos) (aq7 t):=by
 intro pins s σ H Q I Y;refine wpAny_Tuple_spliced (thn (h pos pins s σ H _ I Y) λus s1 ⟨xs,H1,Z,r,z,q⟩=>⟨by rwa[<-r.length],?_⟩);have W:=Z.hok.fresh (aB _);refine⟨.ref s1.heap.objs.size,upd H1 s1.heap.objs.size (.tup xs),Z.laid (t':=s1.toks) (λb u e=>ad _ e) (aB _) ?_,rfl,q _ W⟩;exact⟨z,us,r,⟨_,ag _ rfl,rfl,_,rfl⟩⟩
def J1(h:PA X es t):PE X (.List es pos) (aq8 t):=by
 intro pins s σ H Q I Y;refine wpAny_List_spliced (thn (h pos pins s σ H _ I Y) λus s1 ⟨xs,H1,Z,r,z,q⟩=>⟨by rwa[<-r.length],?_⟩);have W:=Z.hok.fresh (aB _);refine⟨.ref s1.heap.objs.size,upd H1 s1.heap.objs.size (.lst xs),Z.laid (t':=s1.toks) (λb u e=>ad _ e) (aB _) ?_,rfl,q _ W⟩;exact⟨z,us,0,r,ag _ rfl⟩
end
abbrev Sp:=List V->Hp->VK->XK->Prop
abbrev CXT:=List Env->Hp->eM->XK->Value->eM->Prop
structure Env0(P:eS)(w:ff)(K:PySem.W.Frag)(mg:Str->Option Value)(base:fF)(A:eW)(outer:List Env)(s:eM)(H:Hp):Prop where
 frames:A.frames=some outer
 mod:Mod K mg base
 bs:∀b o,base.get? b=some o->s.heap.get? b=some o/\H b=none
 bsz:base.objs.size<=s.heap.objs.size
 funs:s.heap.FunFrames base outer
 frf:∀b∈frs outer,H b=none
 hok:HOk P w H s.heap
 bare:h9 s.gens
def CE(outer:List Env)(P:eS)(w:ff)(H:Hp)(s:eM)(Q:VK)(u:Value)(s':eM):Prop:=
 ∃v H',s'.os=s.os/\h9 s'.gens/\Un (frs outer) [] H H' s.heap s'.heap/\HOk P w H' s'.heap/\RelV v u/\Q v H'
def CR(CX:CXT)(outer:List Env)(P:eS)(w:ff)(H:Hp)(s:eM)(Q:VK)(E:XK)(r:Result)(s':eM):Prop:=
 match r with
 | .ok (.ret u)=>CE outer P w H s Q u s'
 | .ok _=>False
 | .error e=>CX outer H s E e s'
structure FnOk(P:eS)(w:ff)(K:PySem.W.Frag)(mg:Str->Option Value)(base:fF)(CX:CXT)(k:Nat)(f:Addr)(fd:gc)(ps:List Str)(sp:Sp):Prop where
 len:∀vs H Q E,sp vs H Q E->vs.length=ps.length
 run:∀(A:eW)(outer:List Env)(s:eM)(H:Hp)(args:Args)(us:List Value)(vs:List V)(Q:VK)(E:XK),Room k A->Env0 P w K mg base A outer s H->BindsTo s fd args (ps.zip us)->Vals vs us->sp vs H Q E ->
  codeAny (model P w) A (.call (.ref f) args) (CR CX outer P w H s Q E) s
def FnOk.mono{CX:CXT}{k:Nat}{sp:Sp}(F:FnOk P w K mg base CX j f fd ps sp)(h:j<=k):
 FnOk P w K mg base CX k f fd ps sp:=⟨F.len,λA outer s H args us vs Q E Z=>F.run A outer s H args us vs Q E (Z.mono h)⟩
def FnOk.imp{CX:CXT}{k:Nat}{sp B:Sp}(F:FnOk P w K mg base CX k f fd ps sp)
 (h:∀vs H Q E,B vs H Q E->sp vs H Q E):FnOk P w K mg base CX k f fd ps B:=
 ⟨λvs H Q E q=>F.len vs H Q E (h _ _ _ _ q),λA outer s H args us vs Q E Y X W Z hs=>F.run A outer s H args us vs Q E Y X W Z (h _ _ _ _ hs)⟩
section
variable{σ:St}{H:Hp}{s s':eM}
def Inv.env0(I:Inv X pins σ H s):Env0 X.prog X.w X.K X.mg X.base X.A X.stack s H:=
 ⟨I.ok.frames,I.ok.mod,I.bs,aV I.ok.bsz I.sz,I.stack,I.stkFree,I.hok,I.bare⟩
def Inv.after (I:Inv X pins σ H s) (h:CE X.stack X.prog X.w H s c k s'):EP X pins σ c k s':=by
 obtain⟨v,H',os,bare,un,hok,r,q⟩:=h;obtain⟨Y,g,d,t,Z⟩:=s';obtain rfl:Z=s.os:=os;exact⟨v,H',I.call (h':=Y) (g':=g) (d':=d) (t':=t) (ch:=[]) un hok bare (λb z=>absurd z (by simp)),r,q⟩
end
def X5(sp:Sp)(dvs:List V)(E:XK)(t:TA):TE:=λσ H Q=>t σ H λvs H1=>sp (vs++dvs) H1 Q E
def Binds(K:PySem.W.Frag)(fd:gc)(ps:List Str)(ds:List Value):Prop:=
 ∀(s:eM)(us:List Value),K.In s.heap->(us++ds).length=ps.length->BindsTo s fd ⟨us,[]⟩ (ps.zip (us++ds))
def Binds.all(h:∀us:List Value,us.length=ps.length->bindArgs fd ⟨us,[]⟩=pure (ps.zip us)):Binds K fd ps []:=λs us _ Z=>by
 rw[cI]at Z ⊢;exact .of_eq (h us Z)
def Passes(CX:CXT)(X:Cx)(E:XK):Prop:=∀(pins:List (Addr×Obj))(σ:St)(H:Hp)(s:eM)(e:Value)(s':eM),Inv X pins σ H s->CX X.stack H s E e s'->X.xe e s'
section
variable{CX:CXT}{k:Nat}{C:Addr}{sp:Sp}{dvs:List V}{ds:List Value}{E:XK}{m:Str}{o:Expr}{ta:TE}{t:TA}
theorem Y8 (F:FnOk X.prog X.w X.K X.mg X.base CX k f fd ps sp) (D:Room k X.A) (J:Binds X.K fd ps ds) (hd:Vals dvs ds) (B:Passes CX X E)
 (I:Inv X b σ H s) (r:Vals vs us) (h:sp (vs++dvs) H c E):wpAny (model X.prog X.w) X.A (call (.ref f) us) (EP X b σ c) X.xe s:=by
 have Y:=r.append hd;have W:(us++ds).length=ps.length:=by rw[<-Y.length];exact F.len _ _ _ _ h
 refine wpAny_call (dA (F.run X.A X.stack s H ⟨us,[]⟩ (us++ds) (vs++dvs) c E D I.env0 (J s us I.kIn W) Y h) λr s' Z=>?_)
 cases r with
 |error e=>exact B b σ H s e s' I Z
 |ok fl=>
  cases fl with
  |ret u=>exact I.after Z
  |next=>exact gy Z
  |brk=>exact gy Z
  |cont=>exact gy Z
def Ve(F:FnOk X.prog X.w X.K X.mg X.base CX k f fd ps sp)(O:Room k X.A)(hg:Gl X x)(hm:X.mg x=some (.ref f))(Y:PySem.W.keepIn X.K (.ref f)=true)(hb:Binds X.K fd ps ds)(hd:Vals dvs ds)(J:Passes CX X E)
 (ha:PA X (e::es) t) (D:(x==("__debug__":Str))=false:=by decide) (he:starEach (e::es) X.env=(false,eval e X.env)::starEach es X.env:=by rfl) (B:(backTo pos (starEach es X.env)).any (·.1)=false:=by rfl) :
 PE X (.Call (.Name x p) (e::es) [] pos) (X5 sp dvs E t):=by
 intro pins s σ H Q I h;refine ay (Lf I hg hm ?_ D);refine PySem.W.callWith_K (h₀:=X.base) I.ok.mod.kin Y (thn (ha pos pins s σ H _ I h) λus s1 ⟨vs,H1,Z,r,q⟩=>⟨Z.kIn,?_⟩) he B;exact Y8 F O hb hd J Z r q
structure Mk(K:PySem.W.Frag)(C f:Addr):Prop where
 makes:PySem.W.makesIn K C=true
 init:PySem.W.findIn K (.ref C) "__init__"=some (some (.ref f))
 fn:PySem.W.isFn K (.ref f)=true
 kp:PySem.W.keepIn K (.ref C)=true
end
section
variable{CX:CXT}{k:Nat}{C:Addr}{ks:List Str}{sp:Sp}{E:XK}{m:Str}{o:Expr}{kws:List hV}{te ta:TE}{t tk:TA}{nm:Option Str}
structure KBinds(K:PySem.W.Frag)(fd:gc)(ps ks:List Str)(g:List Value->List Value->List Value)(gV:List V->List V->List V):Prop where
 to:∀(s:eM)(us ws:List Value),K.In s.heap->(g us ws).length=ps.length->BindsTo s fd ⟨us,ks.zip ws⟩ (ps.zip (g us ws))
 rel:∀{vs:List V}{us:List Value}{zs:List V}{ws:List Value},Vals vs us->Vals zs ws->Vals (gV vs zs) (g us ws)
variable{g:List Value->List Value->List Value}{gV:List V->List V->List V}
end
structure FnScope(N P:List Str)(sc:hH):Prop where
 kind:sc.kind = .function
 co:sc.isCoroutine=false
 gen:sc.isGenerator=false
 nd:N.Nodup
 pre:N.take P.length=P
 par:∀x∈P,sc.names.lookup x=some .local\/sc.names.lookup x=some .cell
 nofree:∀y∈sc.names,y.2 ≠ .free
theorem Dj{kindOf:Str->Option NameKind}:∀{binds:List (Str×Value)}{m:Str->Option Value},(∀v,(x,v)∉binds)->bindL kindOf binds m x=m x
 |[],_,_=>rfl
 | (n,v)::r,m,h=>by
  unfold bindL;rw[Dj λw hw=>h w (au _ hw)];split
  .have:x≠n:=by rintro rfl;exact h v ao
   simp[this]
  .rfl
theorem Dk{kindOf:Str->Option NameKind}:∀{binds:List (Str×Value)}{m:Str->Option Value},(∀v,(x,v)∉binds)->bindC kindOf binds m x=m x
 |[],_,_=>rfl
 | (n,v)::r,m,h=>by
  unfold bindC;rw[Dk λw hw=>h w (au _ hw)];split
  .rfl
  .have:x≠n:=by rintro rfl;exact h v ao
   simp[this]
theorem Dm{kindOf:Str->Option NameKind} : ∀{P:List Str}{vs:List Value}{i:Nat}{m:Str->Option Value},P.Nodup->P[i]? = some x->vs[i]? = some b->kindOf x=some .local ->
 bindL kindOf (P.zip vs) m x=some b
 |[],_,_,_,_,h,_,_=>by simp at h
 |_::_,[],_,_,_,_,h,_=>by simp at h
 |p::P,w::vs,0,m,nd,h1,h2,Z=>by
  simp at h1 h2;subst h1;subst h2;show bindL kindOf ((p,w)::P.zip vs) m p=_;unfold bindL;rw[Dj λv Y=>(bY.mp nd).1 (oA Y).1,if_pos Z];simp
 |p::P,w::vs,i+1,m,nd,h1,h2,Z=>by
  show bindL kindOf ((p,w)::P.zip vs) m x=_;unfold bindL;exact Dm (i:=i) (bY.mp nd).2 (by simpa using h1) (by simpa using h2) Z
theorem Dp{kindOf:Str->Option NameKind} : ∀{P:List Str}{vs:List Value}{i:Nat}{m:Str->Option Value},P.Nodup->P[i]? = some x->vs[i]? = some b->kindOf x≠some .local ->
 bindC kindOf (P.zip vs) m x=some b
 |[],_,_,_,_,h,_,_=>by simp at h
 |_::_,[],_,_,_,_,h,_=>by simp at h
 |p::P,w::vs,0,m,nd,h1,h2,Z=>by
  simp at h1 h2;subst h1;subst h2;show bindC kindOf ((p,w)::P.zip vs) m p=_;unfold bindC;rw[Dk λv Y=>(bY.mp nd).1 (oA Y).1,if_neg Z];simp
 |p::P,w::vs,i+1,m,nd,h1,h2,Z=>by
  show bindC kindOf ((p,w)::P.zip vs) m x=_;unfold bindC;exact Dp (i:=i) (bY.mp nd).2 (by simpa using h1) (by simpa using h2) Z
def start(N:List Str)(vs:List V):St:=vs.map some++aO (N.length-vs.length) none
noncomputable def G8(CX:CXT)(P:eS)(w:ff)(K:PySem.W.Frag)(mg:Str->Option Value)(base:fF)(N:List Str)(qual:Str)(scope:hH)(f:Addr)(cd:Value)(A:eW)(outer:List Env)(s:eM)(H:Hp)(E:XK):Cx where
 prog:=P
 w:=w
 K:=K
 mg:=mg
 base:=base
 A:=A.deeper (envOfC qual scope s.heap.objs.size f cd)
 N:=N
 s₀:=s
 H₀:=H
 env:=envOfC qual scope s.heap.objs.size f cd
 outer:=outer
 stack:=envOfC qual scope s.heap.objs.size f cd::outer
 ex:=[]
 calm:=true
 fn:=λ_=>true
 pn:=[]
 xe:=λe s'=>wpAny (model P w) (A.deeper (envOfC qual scope s.heap.objs.size f cd)) (leaving (envOfC qual scope s.heap.objs.size f cd) e) (λ_ Z=>CX outer H s E e Z) (λY Z=>CX outer H s E Y Z) s'
def G9{sc:hH}(h:sc.names.lookup x=some .cell):∃c,(cellsFrom n sc.names []).lookup x=some c:=by
 have q:=PySem.W.cellsFrom_some sc.names n [] (.inl h);exact Option.isSome_iff_exists.mp q
def Oe{CX:CXT}{qual:Str}{A:eW}{outer:List Env}{s s1:eM}{E:XK}{us:List Value}
 (S:FnScope N ps scope) (hd:A.handled=none) (e0:Env0 P w K mg base A outer s H) (B:vs.length=ps.length) (r:Vals vs us)
 (x:InCallC s s.heap.objs.size (bindL (envOfC qual scope s.heap.objs.size f cd).kindOf (ps.zip us) λ_=>none) (cellsFrom (s.heap.objs.size+1) scope.names []) (bindC (envOfC qual scope s.heap.objs.size f cd).kindOf (ps.zip us) λ_=>none) s1) :
 Inv (G8 CX P w K mg base N qual scope f cd A outer s H E) [] (start N vs) H s1:=by
 have T:ps.length<=N.length:=by have:=congrArg nQ S.pre;rw[cO]at this;lia
 obtain⟨h1,tk,rfl,V⟩:=x.done;have Z:∀b:Addr,b∉(G8 CX P w K mg base N qual scope f cd A outer s H E).ex:=λb z=>absurd (show b∈([]:List Addr)from z) (by simp)
 refine⟨⟨e0.mod,S.kind,rfl,rfl,aB _,λy z c h1 h2=>?_,λy Y=>?_,λy c _ h=>?_,λ_=>hd,Around.frames_deeper e0.frames,.inr ⟨rfl,rfl⟩,λb z=>absurd z (Z b),e0.bs,e0.bsz,λb _ _=>Z b,λb z=>absurd z (Z b),e0.funs,e0.frf⟩,
  rfl,e0.bare,Un.kept V,⟨_,x.toInCall.ns,λi y v h1 h2 R=>?_⟩,λy c h=>⟨_,x.cell y c h⟩,e0.hok.fresh (aB _),λy c h=>?_,λp W=>absurd (show p∈([]:List (Addr×Obj))from W) (by simp),e0.hok.kept V,?_⟩
 .exact name_of_addr x.apart (PySem.mem_of_lookup h1) (PySem.mem_of_lookup h2)
 .have Y:=Y;rcases Y with Y|Y
  .exact G9 Y
  .exact absurd rfl (S.nofree _ (PySem.mem_of_lookup Y))
 .exact cG (x.above y c (PySem.mem_of_lookup h))
 .have hi:i<vs.length:=by
   unfold start at h2;by_cases hi:i<vs.length
   .exact hi
   .rw[bV (by simpa using hi)]at h2;rw[fM]at h2;split at h2<;>cases h2
  have ha:vs[i]? = some v:=by
   unfold start at h2;rw[b_ (by simpa using hi),aW]at h2
   cases e:vs[i]? with
   |none=>rw[e]at h2;cases h2
   |some a=>rw[e]at h2;cases h2;rfl
  obtain⟨u,hu,U⟩:=r.get ha;have W:ps[i]? = some y:=by
   rwa[<-S.pre,lB (by lia)]
  have X:ps.Nodup:=by rw[<-S.pre];exact S.nd.sublist (List.take_sublist _ _)
  refine⟨u,U,?_⟩;rcases S.par y (gJ W)with k|k
  .exact .inl ⟨k,Dm X W hu k⟩
  .obtain⟨c,e⟩:=G9 (n:=s.heap.objs.size+1) k;refine .inr ⟨.inl k,c,e,?_⟩;have q:=x.cell y c e;rwa[Dp X W hu (by show scope.names.lookup y≠_;rw[k];decide)]at q
 .exact e0.hok.fresh (cG (x.above y c (PySem.mem_of_lookup h)))
 .unfold start;show _=N.length;rw[bL,aq,bD];lia
theorem X6{CX:CXT}{k:Nat}{name qual:Str}{params:im}{body:List gv}{scope:hH}{dV kV doc cdv:Value}
 {osl:Array (Option Value)} {sp:Sp} (lk:K.lookup f=some ⟨oc,od,.func (PySem.W.fnOf name qual params body scope dV kV doc pm an cdv ct),osl⟩) (D:PySem.W.codeIn K cdv qual=true) (S:FnScope N ps scope)
 (len:∀vs H Q E,sp vs H Q E->vs.length=ps.length)
 (B:∀(A:eW)(outer:List Env)(s:eM)(H:Hp)(vs:List V)(Q:VK)(E:XK),Room k (A.deeper (envOfC qual scope s.heap.objs.size f cdv))->sp vs H Q E ->
  ∃t,PSs (G8 CX P w K mg base N qual scope f cdv A outer s H E) body t/\t {nx:=λ_ H'=>Q .non H',rt:=Q} (start N vs) H) :
 FnOk P w K mg base CX (k+1) f (PySem.W.fnOf name qual params body scope dV kV doc pm an cdv ct) ps sp:=by
 refine⟨len,λA outer s H args us vs Q E T e0 C r Y=>?_⟩;have G:=len _ _ _ _ Y;have R:K.In s.heap:=e0.mod.kin.keeps λb o e=>(e0.bs b o e).1
 have U:s.heap.NoLimit:=e0.mod.nolimit.keeps λb o e=>(e0.bs b o e).1
 have Z:∀y∈ps.zip us,scope.names.lookup y.1=some .local\/(scope.names.lookup y.1=some .cell/\((cellsFrom (s.heap.objs.size+1) scope.names []).lookup y.1).isSome=true):=λ⟨n,v⟩ O=>by
  rcases S.par n (oA O).1 with q|q
  .exact .inl q
  .exact .inr ⟨q,PySem.W.cellsFrom_some _ _ _ (.inl q)⟩
 refine codeAny_call_function T.depth (R _ _ lk) rfl S.co S.gen rfl (PySem.W.codeRec_of R D) (C _ _ _ _ ?_);refine wpAny_newFunctionEnv_cells S.kind Z λenv F s1 x=>?_
 subst F;refine⟨U.keeps x.toInCall.keep,codeAny_func ?_⟩;obtain⟨t,M,L⟩:=B A outer s H vs Q E (T.deeper _) Y;have I:Inv (G8 CX P w K mg base N qual scope f cdv A outer s H E) [] (start N vs) H s1:=Oe S T.hd e0 G r x;refine a5 (M [] s1 (start N vs) H _ I L) (λfl s' hs=>?_) λe s' hs=>hs
 have fin:∀{σ':St}{H':Hp}{v:V}{u:Value},Inv (G8 CX P w K mg base N qual scope f cdv A outer s H E) [] σ' H' s'->RelV v u->Q v H'->CE outer P w H s Q u s':=
  λ{σ' H' v u} J X q=>⟨v,H',J.os,J.bare,J.base,J.hok,X,q⟩
 cases fl with
 |ret u=>
  obtain⟨v,σ',H',J,X,q⟩:=hs;exact fin J X q
 |next=>
  obtain⟨σ',H',J,q⟩:=hs;exact fin (v:=V.non) (u:=fy) J rfl q
 |brk=>
  obtain⟨_,_,_,q⟩:=hs;exact gy q
 |cont=>
  obtain⟨_,_,_,q⟩:=hs;exact gy q
end L2
namespace L2
section
variable{t:TA}{id T:String}{r:List V->Hp->VK->Prop}
def tCB(r:List V->Hp->VK->Prop)(t:TA):TE:=λσ H Q=>t σ H λvs H1=>r vs H1 Q
def n6(hc:m7 X (.builtin id) r)(O:Gl X x)(hm:X.mg x=none)(J:bootBuiltins x=some (.builtin id))(ha:PA X (e::es) t)(hn:x≠"__name__" := by decide)(D:(x==("__debug__":Str))=false:=by decide)
 (Y:starEach (e::es) X.env=(false,eval e X.env)::starEach es X.env:=by rfl) (B:(backTo pos (starEach es X.env)).any (·.1)=false:=by rfl):PE X (.Call (.Name x p) (e::es) [] pos) (tCB r t):=by
 intro pins s σ H Q I h;refine ay (nA I O hm J ?_ hn D);exact PyProof.Rows.callWith_builtin1 (thn (ha pos pins s σ H _ I h) λus s1 ⟨vs,H1,W,Z,q1⟩=>hc pins s1 σ H1 vs us Q W Z q1) Y B
def rD(hc:m7 X (.type T) r)(O:Gl X x)(hm:X.mg x=none)(J:bootBuiltins x=some (.type T))(ha:PA X (e::es) t)(hn:x≠"__name__" := by decide)(D:(x==("__debug__":Str))=false:=by decide)
 (Y:starEach (e::es) X.env=(false,eval e X.env)::starEach es X.env:=by rfl) (B:(backTo pos (starEach es X.env)).any (·.1)=false:=by rfl):PE X (.Call (.Name x p) (e::es) [] pos) (tCB r t):=by
 intro pins s σ H Q I h;refine ay (nA I O hm J ?_ hn D);exact e_ (thn (ha pos pins s σ H _ I h) λus s1 ⟨vs,H1,W,Z,q1⟩=>hc pins s1 σ H1 vs us Q W Z q1) Y B
end
end L2
namespace HT
section
open PySem.SeqAt
open PySem.AutoSeq1 (wpAny_loadPart')
open PySem.MeetsSeq PySem.MeetsSeq2 PySem.MeetsSeq3
end
section
variable{prog:eS}{A:eW}{E:Value->eM->Prop}{s:eM}
noncomputable def sIx(n d:Nat):Option Int->Nat
 |none=>d
 |some v=>if v<0 then(v+(n:Int)).toNat else min v.toNat n
theorem aq9(n d:Nat)(hd:d<=n)(o:Option Int):sIx n d o<=n:=by
 cases o with
 |none=>exact hd
 |some v=>
  show(if v<0 then(v+(n:Int)).toNat else min v.toNat n)<=n;by_cases Z:v<0
  .rw[if_pos Z];lia
  .rw[if_neg Z];exact q_ _ _
def Lj(v:Int)(n d:Nat):(if v<0 then max (v+(n:Int)) 0 else min v (n:Int))=((sIx n d (some v):Nat):Int):=by
 show(if v<0 then max (v+(n:Int)) 0 else min v (n:Int))=(((if v<0 then(v+(n:Int)).toNat else min v.toNat n):Nat):Int);by_cases Z:v<0
 .simp only[if_pos Z];lia
 .simp only[if_neg Z];lia
def J2(lo hi:Option Int)(n:Nat):hF lo hi 1 (n:Int)=(((sIx n 0 lo:Nat):Int),((sIx n n hi:Nat):Int)):=by
 have h1:¬((1:Int)<0):=by lia
 unfold hF;simp only[h1,if_false];refine Prod.ext ?_ ?_
 .cases lo with
  |none=>rfl
  |some v=>exact Lj v n 0
 .cases hi with
  |none=>rfl
  |some v=>exact Lj v n n
def vq(i j:Nat):gm (i:Int) (j:Int) 1=j-i:=by
 unfold gm;have h1:(1:Int)>0:=by lia
 simp only[h1,if_true,Int.ediv_one];split<;>lia
theorem Ad (p:IsPart b c) (h:d c s):wpAny (model prog w) A (Builtin.Slice.slicePartIndex b) d E s:=by
 cases p with
 |none=>exact slicePart_none h
 |int i t=>exact slicePart_int h
def rE{J:Addr}{D B:Value}{lo hi:Option Int}{Q:Int×Int×Nat->eM->Prop}(hs:s.heap.IsSliceOf J D B .none)(pl:IsPart D lo)(O:IsPart B hi)
 (h:Q (((sIx n 0 lo:Nat):Int),1,sIx n n hi-sIx n 0 lo) s):wpAny (model prog w) A (Builtin.Slice.sliceApplied (.ref J) (pure (n:Int))) Q E s:=by
 obtain⟨os,Z,X,Y⟩:=id hs;refine aa (aa (aT Z Y (x:=D) rfl (aa (aT Z Y (x:=B) rfl (aa (aT Z Y (x:=.none) rfl (ae ?_)))))));refine aa (slicePart_none ?_);rw[if_neg (by decide)];refine aa (Ad pl (aa (Ad O (aa (ae ?_)))));show wpAny _ _ (match hF lo hi 1 (n:Int)with|(lo,hi)=>pure (lo,(1:Int),gm lo hi 1)) _ _ s;rw[J2 lo hi n];show wpAny _ _ (pure (((sIx n 0 lo:Nat):Int),(1:Int),gm ((sIx n 0 lo:Nat):Int) ((sIx n n hi:Nat):Int) 1)) _ _ s;rw[vq];exact ae h
def Qq(xs:Array Value)(i k:Nat):((aN k).filterMap λ(m:Nat)=>xs[((i:Int)+(m:Int)*1).toNat]?).toArray=((xs.toList.drop i).take k).toArray:=by
 have e:(λ(m:Nat)=>xs[((i:Int)+(m:Int)*1).toNat]?)=λm=>xs[i+m]?:=by
  funext m
  have:((i:Int)+(m:Int)*1).toNat=i+m:=by lia
  rw[this]
 rw[e];have:=pick_run xs i k;rw[List.filterMap_map]at this;have e2:((λx=>xs[x]?)∘λx=>i+x)=λm=>xs[i+m]?:=rfl
 rw[e2]at this;rw[this]
def v7 {lo hi:Option Int} (B:gT s.heap t items) (hs:s.heap.IsSliceOf b O J .none) (pl:IsPart O lo) (pu:IsPart J hi)
 (hw:¬(sIx items.size 0 lo=0/\sIx items.size items.size hi=items.size))
 (h:c (.ref s.heap.objs.size) {s with heap:=s.heap.push {cls:=.type "tuple", data:=.seq ((items.toList.drop (sIx items.size 0 lo)).take (sIx items.size items.size hi-sIx items.size 0 lo)).toArray} })
 (hsz:items.size<=sizeLine):wpAny (model prog w) A (getItem (.ref t) (.ref b)) c E s:=by
 have Z:sizeOk (.seq ((items.toList.drop (sIx items.size 0 lo)).take (sIx items.size items.size hi-sIx items.size 0 lo)).toArray):=by
  show((items.toList.drop (sIx items.size 0 lo)).take (sIx items.size items.size hi-sIx items.size 0 lo)).toArray.size<=sizeLine;rw[aQ,cO,fO,bh];lia
 obtain⟨os,Y,W,U⟩:=id hs;have V:s.TypeIs (.ref b) "slice" := ⟨os,Y,W⟩;unfold getItem
 try with_reducible refine ap ?_
 first|refine aa (ae ?_)|skip
 refine aa (wpAny_sequenceKey B.typeIs (by decide) ?_);refine aa (av (name:=fA "__getitem__") B.typeIs f_
  (ar f_ B.typeIs entry_tuple_getitem ?_ (args_tuple_getitem _ _)))
 show wpAny _ _ (h7 (.ref t) >>= _) _ _ s;refine aa (tupleItemsOf_ B ?_);refine aa (b6 V ?_);rw[if_pos (by decide)];refine aa (rE hs pl pu ?_);have X:¬((((sIx items.size 0 lo:Nat):Int)==0&&(1:Int)==1&&(sIx items.size items.size hi-sIx items.size 0 lo)==items.size)=true):=by
  intro q;rw[aK,aK]at q;have q1:((sIx items.size 0 lo:Nat):Int)=0:=eq_of_beq q.1.1;have q2:sIx items.size items.size hi-sIx items.size 0 lo=items.size:=eq_of_beq q.2;exact hw ⟨by lia,by lia⟩
 show wpAny _ _ (if(((sIx items.size 0 lo:Nat):Int)==0&&(1:Int)==1&&(sIx items.size items.size hi-sIx items.size 0 lo)==items.size)=true then _ else _) _ _ s;rw[if_neg X,Qq]
 first
  |exact aa (m:=gu _) (ax (ae ⟨_,rfl,ae h⟩) Z)
  |exact aa (m:=gu _) (ax (aa (ae (ae ⟨_,rfl,ae h⟩))) Z)
  |exact aa (aa (m:=gu _) (ax (ae (ae ⟨_,rfl,ae h⟩)) Z))
  |exact aa (aa (m:=gu _) (ax (ae ⟨_,rfl,ae h⟩) Z))
end
end HT
namespace L2
abbrev TO:=St->Hp->(Option Int->Hp->Prop)->Prop
def PO(X:Cx)(e:Option Expr)(t:TO):Prop:=
 ∀(pins:List (Addr×Obj))(s:eM)(σ:St)(H:Hp)(Q:Option Int->Hp->Prop),Inv X pins σ H s->t σ H Q ->
  wpAny (model X.prog X.w) X.A (evalPart e X.env) (λu s'=>∃o H',Inv X pins σ H' s'/\IsPart u o/\Q o H') X.xe s
def Vf:TO:=λ_ H Q=>Q none H
def af8(t:TE):TO:=λσ H Q=>t σ H λx H1=>∃i,x = .int i/\Q (some i) H1
section
variable{te:TE}{lo hi:Option Expr}{tl th:TO}
def Vg:PO X none Vf:=by
 intro pins s σ H Q I h;rw[evalPart_none];exact ae ⟨none,H,I,.none,h⟩
def Vh(h:PE X e te):PO X (some e) (af8 te):=by
 intro pins s σ H Q I hw;rw[evalPart_some];refine thn (h pins s σ H _ I hw) λu s1 ⟨x,H1,Y,Z,q1⟩=>?_
 obtain⟨i,rfl,q⟩:=q1;obtain⟨t,rfl⟩:=Z;exact⟨some i,H1,Y,.int i t,q⟩
def SlR(X:Cx)(r:V->Option Int->Option Int->Hp->VK->Prop):Prop:=
 ∀(pins:List (Addr×Obj))(s:eM)(σ:St)(H:Hp)(x:V)(v Y Z:Value)(lo hi:Option Int)(W:Addr)(Q:VK),Inv X pins σ H s->RelV x v->s.heap.IsSliceOf W Y Z .none->IsPart Y lo->IsPart Z hi->r x lo hi H Q ->
  ∃T id,typeLookup (.type T) "__getitem__"=pure (some (.builtin id))/\s.TypeIs v T/\wpAny (model X.prog X.w) X.A (getItem v (.ref W)) (EP X pins σ Q) X.xe s
def SlR.or (h:SlR X r) (h':SlR X B):SlR X (λx lo hi H Q=>r x lo hi H Q\/B x lo hi H Q):=by
 intro pins s σ H x v Y Z lo hi W Q I U hs pl T q;rcases q with q|q
 .exact h pins s σ H x v Y Z lo hi W Q I U hs pl T q
 .exact h' pins s σ H x v Y Z lo hi W Q I U hs pl T q
noncomputable def tSl(r:V->Option Int->Option Int->Hp->VK->Prop)(te:TE)(tl th:TO):TE:=λσ H Q=>te σ H λx H1=>tl σ H1 λl H2=>th σ H2 λu Z=>r x l u Z Q
def G_ (B:SlR X r) (J:PE X e te) (D:PO X lo tl) (hu:PO X hi th):PE X (.Subscript e (.Slice lo hi none p2) pos) (tSl r te tl th):=by
 intro pins s σ H Q I h;refine dm (thn (J pins s σ H _ I h) λv s1 ⟨x,H1,G,U,q1⟩=>?_);refine wpAny_Slice (thn (D pins s1 σ H1 _ G q1) λY s2 ⟨l,H2,K,pl,q2⟩=>thn (hu pins s2 σ H2 _ K q2) λZ s3 ⟨u,W,L,R,S⟩=>?_);rw[evalPart_none];refine ae ?_;have M:Inv X pins σ W {s3 with heap:=s3.heap.push {cls:=.type "slice", data:=.fields #[Y,Z,.none]} }:=L.kept (t':=s3.toks) λb F q=>ad _ q
 obtain⟨T,id,N,P,O⟩:=B pins {s3 with heap:=s3.heap.push {cls:=.type "slice", data:=.fields #[Y,Z,.none]} } σ W x v Y Z l u s3.heap.objs.size Q M U (Heap.IsSliceOf.new ..) pl R S;exact tail_any (ops:=[.ref s3.heap.objs.size,v]) P N O (by with_unfolding_all rfl)
def Hf(xs:List V)(lo hi:Option Int):List V:=(xs.drop (HT.sIx xs.length 0 lo)).take (HT.sIx xs.length xs.length hi-HT.sIx xs.length 0 lo)
def yJ(xs:List V)(lo hi:Option Int):(Hf xs lo hi).length<=xs.length:=by
 unfold Hf;rw[cO,fO];lia
def ar0(K:PySem.W.Frag):V->Option Int->Option Int->Hp->VK->Prop:=λx lo hi H Q=>∃a xs,x = .ref a/\SqT K H a xs /\
 ¬(HT.sIx xs.length 0 lo=0/\HT.sIx xs.length xs.length hi=xs.length)/\∀p,H p=none->Q (.ref p) (upd H p (.tup (Hf xs lo hi)))
def Y9:SlR X (ar0 X.K):=by
 intro pins s σ H x v S T lo hi R Q I Y hs pl W h;obtain⟨a,xs,rfl,U,hw,q⟩:=h
 cases Y;obtain⟨its,r,Z,V⟩:=I.tuple U;have hlen:its.toArray.size=xs.length:=by rw[aQ];exact r.length.symm
 refine⟨"tuple", _,PyProof.Rows.slot_tuple_getitem.lookup,Z.typeIs,?_⟩;refine HT.v7 Z hs pl W (by rwa[hlen]) ?_ (by rwa[hlen]);rw[hlen];refine⟨.ref s.heap.objs.size,_,I.laid (t':=s.toks) (o:=.tup (Hf xs lo hi)) (λb P q=>ad _ q) (aB _) ?_,rfl,q _ (I.hok.fresh (aB _))⟩;exact⟨aV (yJ xs lo hi) V,_,(r.drop (HT.sIx xs.length 0 lo)).take (HT.sIx xs.length xs.length hi-HT.sIx xs.length 0 lo),IsTup.new _ _⟩
end
end L2
variable{xs:List L2.V}
namespace L2
noncomputable def ixN(n:Nat)(i:Int):Option Nat:=if 0<=i then(if i<n then some i.toNat else none)else if -(n:Int)<=i then some (i+n).toNat else none
def atI (xs:List α) (i:Int):Option α:=(ixN xs.length i).bind λj=>xs[j]?
def Lk (h:ixN n b=some j):seqIndex? b n=some j/\j<n/\-(n:Int)<=b/\b<n:=by
 unfold ixN at h;by_cases Z:0<=b
 .rw[if_pos Z]at h;by_cases h1:b<n
  .rw[if_pos h1]at h;have e:=cR.inj h;exact⟨by rw[ee Z h1,e],by lia,by lia,h1⟩
  .rw[if_neg h1]at h;cases h
 .rw[if_neg Z]at h;by_cases h1 : -(n:Int)<=b
  .rw[if_pos h1]at h;have e:=cR.inj h;exact⟨by rw[du (by lia) h1,e],by lia,h1,by lia⟩
  .rw[if_neg h1]at h;cases h
theorem zE (h:atI b c=some d):∃j,seqIndex? c b.length=some j/\b[j]? = some d/\j<b.length/\-(b.length:Int)<=c/\c<b.length:=by
 unfold atI at h
 cases e:ixN b.length c with
 |none=>rw[e]at h;cases h
 |some j=>
  rw[e]at h;obtain⟨h1,h2,Y,Z⟩:=Lk e;exact⟨j,h1,h,h2,Y,Z⟩
def ur(b:Expr):Prop:=∀o i,subscripted b false o i=operate [o,i] (getItem o i)
def IxR(X:Cx)(r:R2):Prop:=
 ∀(value slice:Expr)(pins:List (Addr×Obj))(s:eM)(σ:St)(H:Hp)(x y:V)(v u:Value)(Q:VK),Inv X pins σ H s->RelV x v->RelV y u->r x y H Q ->
  subscripted slice false v u=operate [v,u] (getItem v u)->wpAny (model X.prog X.w) X.A (subscriptTail value slice v u) (EP X pins σ Q) X.xe s
def MtR(X:Cx)(id:String)(r:V->List V->Hp->VK->Prop):Prop:=
 ∀(pins:List (Addr×Obj))(s:eM)(σ:St)(H:Hp)(x:V)(xs:List V)(v:Value)(us:List Value)(Q:VK),Inv X pins σ H s->RelV x v->Vals xs us->r x xs H Q ->
  wpAny (model X.prog X.w) X.A (call (.builtin id) (v::us)) (EP X pins σ Q) X.xe s
section
variable{a b:Expr}{ta tb:TE}
def IxR.or (h:IxR X r) (h':IxR X B):IxR X (λx y H Q=>r x y H Q\/B x y H Q):=by
 intro value slice pins s σ H x y v u Q I Y Z q hs;rcases q with q|q
 .exact h value slice pins s σ H x y v u Q I Y Z q hs
 .exact h' value slice pins s σ H x y v u Q I Y Z q hs
def Ln (B:IxR X r) (ha:PE X a ta) (D:PE X b tb) (hs:ur b):PE X (.Subscript a b pos) (tOp r ta tb):=by
 intro pins s σ H Q I h;exact dm (Y4 ha D I h λv u s2 x y H2 W Y Z q=>B a b pins s2 σ H2 x y v u Q W Y Z q (hs _ _))
def af9(K:PySem.W.Frag):R2:=λx y H Q=>∃p xs i v,x = .ref p/\y = .int i/\SqL K H p xs/\atI xs i=some v/\Q v H
def ag0(K:PySem.W.Frag):R2:=λx y H Q=>∃p xs i v,x = .ref p/\y = .int i/\SqT K H p xs/\atI xs i=some v/\Q v H
def ag1:R2:=λx y H Q=>∃z i c,x = .str z/\y = .int i/\z.length<=sizeLine/\atI z.cps.toList i=some c/\Q (.str ⟨#[c]⟩) H
def Vi:IxR X (af9 X.K):=by
 intro value slice pins s σ H x y v u Q I T U h hs;obtain⟨p,xs,i,z,rfl,rfl,S,P,q⟩:=h
 cases T;obtain⟨t,rfl⟩:=U;obtain⟨its,r,pl,M⟩:=I.list S;obtain⟨j,h1,h2,L,N,O⟩:=zE P;obtain⟨w,V,Z⟩:=r.get h2;have R:=r.length;have hn:=xR;have fin:EP X pins σ Q w s:=⟨z,H,I,Z,q⟩;by_cases W:0<=i
 .have Y:i.toNat=j:=by
   rw[ee W O]at h1;exact cR.inj h1
  exact item_listR pl.isList W (by lia) (by rw[Y];simpa using V) fin hs
 .have Y:(i+(its.toArray.size:Int)).toNat=j:=by
   rw[du (by lia) N]at h1;rw[aQ,<-R];exact cR.inj h1
  exact subscriptTail_builtinR (x:=w) pl.isList.typeIs slot_list_getitem.lookup
   (wpAny_getItem_list_neg (Q:=λr s'=>r=w/\EP X pins σ Q r s') pl.isList (by lia) (by rw[aQ]<;>lia) (by lia) (by rw[Y];simpa using V) ⟨rfl,fin⟩) hs
def Y_:IxR X (ag0 X.K):=by
 intro value slice pins s σ H x y v u Q I W Y h hs;obtain⟨p,xs,i,z,rfl,rfl,V,T,q⟩:=h
 cases W;obtain⟨t,rfl⟩:=Y;obtain⟨its,r,pl,R⟩:=I.tuple V;obtain⟨j,h1,h2,N,O,P⟩:=zE T;obtain⟨w,S,Z⟩:=r.get h2;have U:=r.length;have hn:=xR;have fin:EP X pins σ Q w s:=⟨z,H,I,Z,q⟩;exact subscriptTail_builtinR (x:=w) pl.typeIs slot_tuple_getitem.lookup
  (getItem_tuple (j:=j) (Q:=λr s'=>r=w/\EP X pins σ Q r s') pl (by lia) (by lia) (by rwa[aQ,<-U]) (by simpa using S) ⟨rfl,fin⟩) hs
def Za:IxR X ag1:=by
 intro value slice pins s σ H x y v u Q I Y Z h hs;obtain⟨z,i,c,rfl,rfl,S,V,q⟩:=h;obtain⟨t,rfl⟩:=Y;obtain⟨t',rfl⟩:=Z;obtain⟨j,h1,h2,R,T,U⟩:=zE V;have W:z.cps.toList.length=z.length:=by simp[Str.length]
 rw[W]at h1 T U;have hn:=xR;exact tail_any (typeIs_str s z t) slot_str_getitem.lookup (getItem_str (c:=c) (by
  have e1:decide (i < -(2^63:Int))=false:=dFa (by lia);have e2:decide (i≥2^63)=false:=dFa (by lia);rw[e1,e2,Bool.or_false]) (by rw[h1];simpa using h2) ⟨.str ⟨#[c]⟩,H,I.tok _,⟨_,rfl⟩,q⟩) hs
def rIx(K:PySem.W.Frag):R2:=λx y H Q=>af9 K x y H Q\/ag0 K x y H Q\/ag1 x y H Q
def Eu:IxR X (rIx X.K):=Vi.or (Y_.or Za)
def J3(its:List Value)(n j:Nat)(u:Value):fo (·.setIfInBounds j u) {cls:=.type "list", data:=.seq its.toArray n}={cls:=.type "list", data:=.seq (its.set j u).toArray n}:=by
 simp[fo]
def Inv.lst{σ:St}{H:Hp}{s:eM}{p:Addr}{xs:List V}(I:Inv X pins σ H s)(h:H p=some (.lst xs)):
 ∃(its:List Value)(n:Nat),Vals xs its/\s.heap.get? p=some {cls:=.type "list", data:=.seq its.toArray n}/\xs.length<=sizeLine:=by
 obtain⟨z,its,n,r,e⟩:=I.hok p _ h;exact⟨its,n,r,e,z⟩
def Inv.lstUpd {ys:List V} {its its':List Value} {B:Nat} {f:Obj->Obj} (I:Inv X c σ H s) (h:H d=some (.lst xs))
 (J:s.heap.get? d=some {cls:=.type "list", data:=.seq its.toArray n}) (D:f {cls:=.type "list", data:=.seq its.toArray n}={cls:=.type "list", data:=.seq its'.toArray B}) (r:Vals ys its') (hz:ys.length<=sizeLine) (t:Nat) :
 Inv X c σ (upd H d (.lst ys)) {s with heap:=s.heap.update d f,toks:=t}:=by
 have e:(s.heap.update d f).get? d=some {cls:=.type "list", data:=.seq its'.toArray B}:=by
  rw[az f J (by rw[D]<;>rfl),D]
 refine I.write (x:=d) (e:=d) (by rw[h];trivial) (.inl rfl) (λb u Z q=>(a4 _ _ (e9 Z)).trans q) ⟨_,e⟩ ?_;exact⟨hz,its',B,r,e⟩
def ag2:V->V->V->Hp->(Hp->Prop)->Prop:=λo i v H Q=>∃p xs k j,o = .ref p/\i = .int k/\H p=some (.lst xs)/\ixN xs.length k=some j/\Q (upd H p (.lst (xs.set j v)))
def set_list:U7 X ag2:=by
 intro pins s σ H o i v K J u Q I P O R h;obtain⟨p,xs,k,j,rfl,rfl,U,N,q⟩:=h
 cases P;obtain⟨t,rfl⟩:=O;obtain⟨its,n,r,Z,G⟩:=I.lst U;obtain⟨h1,h2,L,M⟩:=Lk N;have Y:=r.length;have hn:=xR;have S:Inv X pins σ (upd H p (.lst (xs.set j v))) {s with heap:=s.heap.update p (fo (·.setIfInBounds j u))}:=
  I.lstUpd U Z (J3 its n j u) (r.set R j) (by rwa[cJ]) s.toks
 by_cases T:0<=k
 .have V:k.toNat=j:=by
   rw[ee T M]at h1;exact cR.inj h1
  exact PySem.W.ki_setAt Z T (by lia) (by rwa[aQ,<-Y]) (by rw[V];exact⟨_,S,q⟩)
 .have V:(k+(its.toArray.size:Int)).toNat=j:=by
   rw[du (by lia) L]at h1;rw[aQ,<-Y];exact cR.inj h1
  exact PySem.W.ki_setBack Z (by lia) (by rwa[aQ,<-Y]) (by lia) (by rw[V];exact⟨_,S,q⟩)
def Ew(lo hi:Option Int)(n:Nat):(sliceBounds lo hi none n).1=((HT.sIx n 0 lo:Nat):Int)/\(sliceBounds lo hi none n).2.1=((HT.sIx n n hi:Nat):Int)/\(sliceBounds lo hi none n).2.2=1:=by
 refine⟨?_,?_,rfl⟩
 .cases lo with
  |none=>simp[sliceBounds,HT.sIx]
  |some i=>
   simp only[sliceBounds,HT.sIx,Option.getD_none,show(1:Int)>0 by decide,if_true];by_cases h:i<0
   .simp only[h,if_true]<;>lia
   .simp only[h,if_false]<;>lia
 .cases hi with
  |none=>simp[sliceBounds,HT.sIx]
  |some i=>
   simp only[sliceBounds,HT.sIx,Option.getD_none,show(1:Int)>0 by decide,if_true];by_cases h:i<0
   .simp only[h,if_true]<;>lia
   .simp only[h,if_false]<;>lia
def Cy(its:List Value)(lo hi:Option Int):slicePick its.toArray lo hi none=((its.drop (HT.sIx its.length 0 lo)).take (HT.sIx its.length its.length hi-HT.sIx its.length 0 lo)).toArray:=by
 obtain⟨h1,h2,Z⟩:=Ew lo hi its.toArray.size;unfold slicePick;rw[h1,h2,Z];simp only[sliceRange_one,pick_run,aQ]<;>rfl
def ar3(K:PySem.W.Frag):V->Option Int->Option Int->Hp->VK->Prop:=λx lo hi H Q=>∃a xs,x = .ref a/\SqL K H a xs/\∀p,H p=none->Q (.ref p) (upd H p (.lst (Hf xs lo hi)))
def Vj:SlR X (ar3 X.K):=by
 intro pins s σ H x v S T lo hi R Q I Y hs pl W h;obtain⟨a,xs,rfl,U,q⟩:=h
 cases Y;obtain⟨its,r,Z,V⟩:=I.list U;have hlen:=r.length;refine⟨"list", _,slot_list_getitem.lookup,Z.isList.typeIs,?_⟩;refine wpAny_getItem_list_slice Z.isList hs pl W .none (by simp) ?_ (by rw[aQ]<;>lia);rw[Cy,<-hlen];refine⟨.ref s.heap.objs.size,_,I.laid (t':=s.toks) (o:=.lst (Hf xs lo hi)) (λb P q=>ad _ q) (aB _) ?_,rfl,q _ (I.hok.fresh (aB _))⟩;exact⟨aV (yJ xs lo hi) V,_,0,(r.drop (HT.sIx xs.length 0 lo)).take (HT.sIx xs.length xs.length hi-HT.sIx xs.length 0 lo),ag _ rfl⟩
def bZ:m7 X (.builtin "len") (λxs H Q=>∃p ys,xs=[.ref p]/\(SqL X.K H p ys\/SqT X.K H p ys)/\Q (.int ys.length) H):=by
 intro pins s σ H xs us Q I r h;obtain⟨p,ys,rfl,Z,q⟩:=h;obtain⟨u,rfl,W⟩:=vals1 r
 cases W;have hn:=xR;rcases Z with Z|Z
 .obtain⟨its,Y,pl,V⟩:=I.list Z;have hlen:=Y.length;exact Calls.call_len_list pl.isList (by simp only[aQ]<;>lia) ⟨.int ys.length,H,I.tok _,⟨s.toks+1,by rw[aQ,hlen]⟩,q⟩
 .obtain⟨its,Y,pl,V⟩:=I.tuple Z;have hlen:=Y.length;exact len_tuple pl (by simp only[aQ]<;>lia) ⟨.int ys.length,H,I.tok _,⟨s.toks+1,by rw[aQ,hlen]⟩,q⟩
def Ey:m7 X (.type "list") (λxs H Q=>∃p ys,xs=[.ref p]/\(SqL X.K H p ys\/SqT X.K H p ys)/\∀l,H l=none->Q (.ref l) (upd H l (.lst ys))):=by
 intro pins s σ H xs us Q I r h;obtain⟨p,ys,rfl,W,q⟩:=h;obtain⟨u,rfl,T⟩:=vals1 r
 cases T;have fin:∀(its:List Value),Vals ys its->ys.length<=sizeLine->∀(h':fF)(c':Nat),(∀b o',s.heap.get? b=some o'->h'.get? b=some o') ->
  h'.get? s.heap.objs.size=some {cls:=.type "list", dict:=none,data:=.seq its.toArray c',slots:=#[]}->EP X pins σ Q (.ref s.heap.objs.size) {s with heap:=h'}:=λits Z Y h' c' kp e=>
  ⟨.ref s.heap.objs.size,_,I.laid (t':=s.toks) kp (aB _) (show gM X.prog X.w _ h' _ (.lst ys)from⟨Y,its,c',Z,e⟩),rfl,q _ (I.hok.fresh (aB _))⟩
 rcases W with W|W
 .obtain⟨its,Z,pl,Y⟩:=I.list W;have hlen:=Z.length;obtain⟨o,V,U,n,hd⟩:=pl.isList;exact call_list_seq p (.inl rfl) V U hd (λh' c' kp e=>fin its Z Y h' c' kp e) (by simp only[aQ]<;>lia)
 .obtain⟨its,Z,pl,Y⟩:=I.tuple W;have hlen:=Z.length;obtain⟨o,V,U,n,hd⟩:=pl;exact call_list_seq p (.inr rfl) V U hd (λh' c' kp e=>fin its Z Y h' c' kp e) (by simp only[aQ]<;>lia)
def uY:m7 X (.type "tuple") (λxs H Q=>∃p ys,xs=[.ref p]/\((SqL X.K H p ys/\∀l,H l=none->Q (.ref l) (upd H l (.tup ys)))\/(SqT X.K H p ys/\Q (.ref p) H))):=by
 intro pins s σ H xs us Q I r h;obtain⟨p,ys,rfl,h⟩:=h;obtain⟨u,rfl,U⟩:=vals1 r
 cases U;rcases h with⟨Y,q⟩|⟨Y,q⟩
 .obtain⟨its,Z,pl,W⟩:=I.list Y;have hlen:=Z.length;refine call_tuple_list pl.isList (λh' kp=>?_) (by simp only[aQ]<;>lia);have V:=I.kept (t':=s.toks) kp;have T:Inv X pins σ (upd H h'.objs.size (.tup ys)) {s with heap:=h'.push {cls:=.type "tuple", data:=.seq its.toArray} }:=
   V.laid (t':=s.toks) (λb o e=>ad _ e) (aB _) (show gM X.prog X.w _ _ _ (.tup ys)from⟨W,its,Z,IsTup.new _ _⟩)
  exact⟨.ref h'.objs.size,_,T,rfl,q _ (V.hok.fresh (aB _))⟩
 .obtain⟨its,Z,pl,W⟩:=I.tuple Y;exact call_tuple_same pl ⟨.ref p,H,I,rfl,q⟩
def tyV(K:PySem.W.Frag)(T:String)(x:V)(H:Hp):Prop:=match x with
 | .str _=>T="str"
 | .int _=>T="int"
 | .ref p=>(T="list" /\ ∃xs,SqL K H p xs)\/(T="tuple" /\ ∃o,K.lookup p=some o/\o.cls = .type "tuple"/\o.dict=none) \/
  (T="dict"/\((∃kvs,H p=some (.dK kvs))\/∃kvs,H p=some (.dT kvs)))\/(T="set" /\ ∃S n,H p=some (.set S n))
 |_=>False
theorem Zb (I:Inv X d σ H s) (r:RelV g k) (ty:tyV X.K T g H) :
 s.TypeIs k T/\∀a,k = .ref a->∃B,s.heap.get? a=some B/\B.dict=none:=by
 cases g with
 |str z=>
  obtain⟨t,rfl⟩:=r
  cases(show T="str"from ty);exact⟨typeIs_str s z t,λ_ e=>nomatch e⟩
 |int i=>
  obtain⟨t,rfl⟩:=r
  cases(show T="int"from ty);exact⟨typeIs_int s i t,λ_ e=>nomatch e⟩
 |ref p=>
  cases r;rcases ty with⟨rfl,xs,Y⟩|⟨rfl,o,Z,W,hd⟩|⟨rfl,Z⟩|⟨rfl,S,n,Z⟩
  .obtain⟨its,_,pl,_⟩:=I.list Y;refine⟨pl.isList.typeIs,λa e=>?_⟩
   cases e;obtain⟨o,n,e,c,hd,_⟩:=pl;exact⟨o,e,hd⟩
  .refine⟨⟨o,I.kIn p o Z,W⟩,λa e=>?_⟩
   cases e;exact⟨o,I.kIn _ o Z,hd⟩
  .have z:∃o,s.heap.get? p=some o/\o.ExactDict:=by
    rcases Z with⟨kvs,Z⟩|⟨kvs,Z⟩
    .obtain⟨_,_,_,_,o,_,_,e,ex,_⟩:=I.hok p _ Z;exact⟨o,e,ex⟩
    .obtain⟨_,_,_,_,o,_,_,e,ex,_⟩:=I.hok p _ Z;exact⟨o,e,ex⟩
   obtain⟨o,e,ex⟩:=z;refine⟨⟨o,e,ex.1⟩,λa e2=>?_⟩
   cases e2;exact⟨o,e,ex.2.1⟩
  .obtain⟨o,_,_,_,e,ex,_⟩:=I.hok p _ Z;refine⟨⟨o,e,ex.1⟩,λa e2=>?_⟩
   cases e2;exact⟨o,e,ex.2.1⟩
 |_=>exact gy ty
noncomputable def tBM(K:PySem.W.Frag)(T:String)(r:V->List V->Hp->VK->Prop)(to:TE)(t:TA):TE:=λσ H Q=>to σ H λx H1=>tyV K T x H1/\t σ H1 λxs H2=>r x xs H2 Q
variable{o:Expr}{to:TE}{t:TA}{name:Str}{T id:String}{r:V->List V->Hp->VK->Prop}
def X7(pa:PlainAttrs T)(slot:Slot T name id)(Y:typeOf (.builtin id)=pure (.type "method_descriptor"))(hm:MtR X id r)(ho:PE X o to)(ha:PA X (e::es) t)
 (J:attributeBase o name X.env (eval o X.env)=eval o X.env:=by rfl)
 (O:((backTo cpos (starEach (e::es) X.env)).all (λx=>!x.1)&&(backToKw cpos (keywordEach [] X.env)).all (λx=>x.1.isSome)
  && decide ((e::es).length+([]:List hV).length+(if([]:List hV).isEmpty then 0 else 1)<30))=true:=by rfl)
 (D:(apos.endLine==cpos.line)=true:=by rfl) (hs:starEach (e::es) X.env=(false,eval e X.env)::starEach es X.env:=by rfl) (B:(backTo cpos (starEach es X.env)).any (·.1)=false:=by rfl) :
 PE X (.Call (.Attribute o name apos) (e::es) [] cpos) (tBM X.K T r to t):=by
 intro pins s σ H Q I h;refine wpAny_Call_method_late J O D rfl (thn (ho pins s σ H _ I h) λv s1 ⟨x,H1,V,Z,ty,q1⟩=>?_);obtain⟨h1,h2⟩:=Zb V Z ty;refine⟨T,id,pa,slot,Y,h1,h2,?_⟩;have W:=ha cpos pins s1 σ H1 _ V q1;rw[hs]at W ⊢;refine dS (by show(false||(backTo cpos (starEach es X.env)).any (·.1))=false;rw[B]<;>rfl) (ew ?_);exact thn W λus s2 ⟨vs,H2,S,U,q2⟩=>hm pins s2 σ H2 x vs v us Q S Z U q2
/- xs.append(e),list.index on a module's tuple .. are MtR facts of 06m -/
end
end L2
namespace L2
def MtM(X:Cx)(id:String)(r:V->List V->Hp->VK->Prop):Prop:=
 ∀(pins:List (Addr×Obj))(s:eM)(σ:St)(H:Hp)(x:V)(xs:List V)(v:Value)(us:List Value)(Q:VK),Inv X pins σ H s->RelV x v->Vals xs us->r x xs H Q ->
  wpAny (model X.prog X.w) X.A (call (.builtin id) (v::us)) (EP X pins σ Q) X.xe s
theorem Vals.one:∀{x:V}{us:List Value},Vals [x] us->∃u,us=[u]/\RelV x u
 |_,_,.cons r .nil=>⟨_,rfl,r⟩
theorem Vals.zero:∀{us:List Value},Vals [] us->us=[]
 |_,.nil=>rfl
theorem Vals.dropLast (h:Vals xs us):Vals xs.dropLast us.dropLast:=by
 induction h with
 |nil=>exact .nil
 |cons r t Z=>
  cases t with
  |nil=>exact .nil
  |cons q t'=>exact .cons r Z
theorem Vals.eraseIdx:∀{xs:List V}{us:List Value}(i:Nat),Vals xs us->Vals (xs.eraseIdx i) (us.eraseIdx i)
 |_,_,_,.nil=>.nil
 |_,_,0,.cons _ t=>t
 |_,_,i+1,.cons r t=>.cons r (Vals.eraseIdx i t)
theorem Vals.reverse (h:Vals xs us):Vals xs.reverse us.reverse:=by
 induction h with
 |nil=>exact .nil
 |cons r t Z=>rw[jQ,jQ];exact Vals.append Z (.cons r .nil)
theorem Vals.rep (h:Vals xs us):∀k:Nat,Vals (aO k xs).flatten (aO k us).flatten
 |0=>.nil
 |k+1=>by
  rw[cD,cD,eY,eY];exact Vals.append h (Vals.rep h k)
theorem foldl_rep(its:List Value):∀(k:Nat)(acc:List Value),
 List.foldl (λx1 x2=>x1++x2) acc.toArray (aO k its.toArray)=(acc++(aO k its).flatten).toArray
 |0,acc=>by simp
 |k+1,acc=>by
  have e:acc.toArray++its.toArray=(acc++its).toArray:=by simp
  have e2:(acc++its)++(aO k its).flatten=acc++(aO (k+1) its).flatten:=by
   rw[cD,eY,aP]
  rw[<-e2,<-foldl_rep its k (acc++its),<-e,cD,g_]
section
variable{σ:St}{H:Hp}{s:eM}{l b:Addr}{xs ys zs:List V}
def Inv.lset{its its':List Value} (I:Inv X pins σ H s) (J:H l=some (.lst xs))
 (e:s.heap.get? l=some {cls:=.type "list", data:=.seq its.toArray n}) (D:c its.toArray=its'.toArray) (B:Vals ys its') (hz:ys.length<=sizeLine) :
 Inv X pins σ (upd H l (.lst ys)) {s with heap:=s.heap.update l (fo c),toks:=t'}:=by
 have q:=PySem.IsL.update e c;rw[D]at q;refine I.write (x:=l) (e:=l) (by rw[J];exact trivial) (.inl rfl) (λY u Z hu=>(a4 s.heap (fo c) (e9 Z)).trans hu) ⟨_,q⟩ ?_;exact⟨hz,its',_,B,q⟩
def Inv.lnew (I:Inv X pins σ H s) (B:Vals ys its) (hz:ys.length<=sizeLine) :
 Inv X pins σ (upd H s.heap.objs.size (.lst ys)) {s with heap:=s.heap.push {cls:=.type "list", data:=.seq its.toArray},toks:=t'}:=
 I.laid (λ_ _ q=>ad _ q) (aB _) ⟨hz,its,0,B,ag _ rfl⟩
def Inv.fresh(I:Inv X pins σ H s):H s.heap.objs.size=none:=I.hok.fresh (aB _)
def Inv.lstM(I:Inv X pins σ H s)(B:H l=some (.lst xs)):xs.length<=sizeLine/\∃(its:List Value)(n:Nat),Vals xs its/\xs.length=its.length/\s.heap.get? l=some {cls:=.type "list", data:=.seq its.toArray n}:=by
 obtain⟨z,its,n,r,e⟩:=I.hok l _ B;exact⟨z,its,n,r,r.length,e⟩
def Qs(h:n<=sizeLine):ie n=false:=by
 exact dFa (by lia)
end
section
def Vk:V->List V->Hp->VK->Prop:=λx vs H Q=>∃l xs y,x = .ref l/\vs=[y]/\H l=some (.lst xs)/\xs.length<sizeLine/\Q .non (upd H l (.lst (xs++[y])))
def xT:MtM X "list.append" Vk:=by
 intro pins s σ H x vs v us Q I Y W h;obtain⟨l,xs,y,rfl,rfl,Z,U,q⟩:=h
 cases Y;obtain⟨u,rfl,V⟩:=W.one;obtain⟨z,its,n,r,T,e⟩:=I.lstM Z;refine eJ F.slot_list_append ⟨_,e,rfl⟩ F.entry_list_append (F.args_list_append_2 _ _) (PySem.list_append l its.toArray n u (by rw[aQ];lia)) ⟨e,?_⟩;refine⟨.non,_,I.lset (its':=its++[u]) Z e (by simp) (r.append (.cons V .nil)) ?_,rfl,q⟩;rw[bL,m5];lia
def ar4:R2:=λx y H Q=>∃l k xs,x = .ref l/\y = .int k/\H l=some (.lst xs)/\-(2^63)<=k/\k<2^63/\xs.length*k.toNat<=sizeLine /\
 ∀p,H p=none->Q (.ref p) (upd H p (.lst (aO k.toNat xs).flatten))
theorem len_rep (xs:List α) (k:Nat):(aO k xs).flatten.length=k*xs.length:=by
 induction k with
 |zero=>simp
 |succ k Z=>rw[cD,eY,bL,Z,Nat.succ_mul,Nat.add_comm]
def Zc:OpR X (binaryOp .Mult) ar4:=by
 intro pins s σ H x y v u Q I R S h;obtain⟨l,k,xs,rfl,rfl,O,h1,h2,M,q⟩:=h
 cases R;obtain⟨t,rfl⟩:=S;obtain⟨z,its,n,r,P,e⟩:=I.lstM O;have hlen:its.toArray.size*k.toNat<=sizeLine:=by rwa[aQ,<-P]
 have V:¬its.toArray.size*k.toNat>(2^63-1)/8:=by
  have:(sizeLine:Nat)<=(2^63-1)/8:=by decide
  lia
 have W:¬(!Builtin.List.listFitsIndex k)=true:=by
  rw[fitsIndex_both h1 h2];exact bA
 have Z:¬ie (its.toArray.size*k.toNat)=true:=by
  rw[Qs hlen];exact bA
 have Y:List.foldl (λx1 x2=>x1++x2) #[] (aO (if its.toArray.isEmpty=true then 0 else k.toNat) its.toArray)=(aO k.toNat its).flatten.toArray:=by
  have f0:=λm=>by
   have:=foldl_rep its m [];rwa[dI]at this
  rw[f0]
  cases its with
  |nil=>simp
  |cons a N=>rw[if_neg (by simp)]
 refine wpAny_binaryOp_repeat_ref (T := "list") (U := "int") (by decide) ⟨_,e,rfl⟩ (λs'=>typeIs_int s' k t) noFill_list_mul F.fills_int_mul F.slot_int_rmul repeat_list F.slot_int_index.lookup
  (eJ F.slot_int_rmul (typeIs_int s k t) F.entry_int_rmul (F.args_int_rmul_2 _ _) (int___rmul___int_list k t l its.toArray n)
   ⟨e,rfl,⟨_,e,rfl⟩,eJ F.slot_list_mul ⟨_,e,rfl⟩ F.entry_list_mul (F.args_list_mul_2 _ _) (AutoListH.list___mul___list_int_3 l its.toArray n k t W V Z) ⟨e,?_⟩⟩)
 rw[Y];exact⟨.ref _,_,I.lnew (t':=s.toks) (r.rep k.toNat) (by rwa[len_rep,Nat.mul_comm]),rfl,q _ I.fresh⟩
end
section
variable{prog:eS}{A:eW}{E:Value->eM->Prop}{s:eM}
set_option maxRecDepth 100000 in
end
section
end
end L2
variable{YP:ff->fF->Prop}
namespace Att
open PySem.W PySem.Calls
theorem yX : ∀(ns:List Int)(vs:List Value),WellAll c h vs (ns.map WData.int)->gE vs ns:=by
 intro ns
 induction ns with
 |nil=>
  intro vs w;rw[eO]at w
  cases w;exact .nil
 |cons n ns Z=>
  intro vs w;rw[aG]at w
  cases w with
  |cons a b=>
   cases a;exact .cons _ _ (Z _ b)
theorem Og{l:OpenLaw}(hn:l.most=some n) {vals:List Value}
 (B:l.row.toRowW.claim.pre args=true) (D:WellAll b c vals args) :
 ∃a vs ns,vals=[eQ a]/\args=[WData.list (ns.map WData.int)]/\c.get? a=some {cls:=.type "list", data:=.seq vs.toArray}/\gE vs ns/\ns.length<=n:=by
 have X:=(pre_splitW B).1;have R:l.pre.holds [] {args:=args}=true:=(pre_splitW B).2;obtain⟨d,r,rfl,h1,h2⟩:=hasAllW_cons X;obtain rfl:=hasAllW_nil h2;obtain⟨xs,rfl,Q⟩:=hasW_list h1;obtain⟨ns,rfl⟩:=items_int Q;have hlen:ns.length<=n:=by
  have W:(WTm.not (.lt (.lit (.int (n:Int))) (.len (.arg 0)))).holds [] {args:=[.list (ns.map .int)]}=true:=by
   have W:=(holds_andW R).1;rwa[hn]at W
  have Y:=condW_of W (w_not (w_lt w_lit (w_len_list (w_arg rfl))));rw[aq]at Y;refine iG λq=>?_
  have T:(n:Int)<((ns.length:Nat):Int):=by lia
  first
   | (rw[dTr T]at Y;exact absurd Y (by decide))
   | (simp at Y;lia)
 cases D with
 |cons U V=>
  cases V
  cases U with
  |list S Z=>exact⟨_,_,ns,rfl,rfl,S,yX ns _ Z,hlen⟩
def Oh(l:OpenLaw)(args:List WData):l.row.toRowW.claim.post args (.bool true) args=true:=
 postW_of (r:=l.row.toRowW) (X:=(true==true))
  (show WShape.has [] (.bool true) .bool=true by first|rfl|decide|simp[WShape.has,WShape.arms,WShape.armsAll])
  (show(WTm.eq .res (.lit (.bool true))).value [] {args:=args,res:=some (.bool true),after:=args}=some (.bool (true==true))from w_eq_bool (w_res rfl) w_lit) rfl
def Hg{l:OpenLaw} {d:DefRec}
 (hn:l.most=some n) (J:d.params.defaults=[])
 (call:∀(w:ff)(s₀ B:eM)(mg D:Str->Option Value)(fa:Addr)(o:Obj)(pm cd doc:Value)(a:Addr)(vs:List Value)(ns:List Int),
  Ground b loose [] O w s₀ mg D B.heap->YP w B.heap ->
  B.heap.get? fa=some o->o.data = .func (docDef d.name d.params d.body d.scope pm cd doc)->B.heap.CodeRec cd d.name->mg d.name=some (.ref fa) ->
  B.heap.get? a=some {cls:=.type "list", data:=.seq vs.toArray}->gE vs ns->ns.length<=n->B.gens = #[] ->
  codeAny (model l.prog w) callerA (.call (.ref fa) ⟨[.ref a],[]⟩) (λr s'=>r = .ok (.ret (.bool true))/\OldK B.heap s'.heap/\s'.os=B.os/\h9 s'.gens) B) :
 WalkO b loose O YP l.row.toRowW d [] (λf vs=>PySem.call f vs):=by
 intro w s₀ B mg D G Y fa o pm cd doc dV kV P hd U S V M args vals as Z T R W N;obtain rfl:dV = .none:=Dflts.none S J;obtain rfl:kV = .none:=Dflts.noKw S;obtain⟨a,vs,ns,rfl,rfl,X,hints,hlen⟩:=Og hn Z W;refine enter_call (dA (call w s₀ B mg D fa o pm cd doc a vs ns G Y P (fd_plain hd) U V X hints hlen M) λr s' Q=>?_);obtain⟨rfl,h2,K,L⟩:=Q;exact⟨.inl ⟨.bool true,.bool true,[],rfl,λ_=>rfl,.bool true,Oh l _,λ_=>⟨List.Pairwise.nil,λ_ hm=>(nomatch hm)⟩⟩,h2,K,L⟩
section
variable{prog:eS}{A:eW}{E:Value->eM->Prop}{s:eM}{K:Frag}
def mL(h:fF):fF:={h with objs:=#[]}
theorem rW(h:fF)(b:Addr):(mL h).get? b=none:=by
 cases e:(mL h).get? b with
 |none=>rfl
 |some o=>exact absurd (af e) (Nat.not_lt_zero _)
def Qt (n:h.Ns L m):Fr (mL h) L h m:=
 ⟨n,λb o e=>(by rw[rW]at e;cases e),cg _⟩
end
end Att
variable{CX:L2.CXT}{sp:L2.Sp}
namespace L2
theorem o_:∀{vs:List Value}{ns:List Int},gE vs ns->Vals (ns.map V.int) vs
 |_,_,.nil=>.nil
 |_,_,.cons n t h=>.cons ⟨t,rfl⟩ (o_ h)
def Only(H:Hp):Prop:=∀b,H b=none\/∃o xs,H b=some (.frz o (.lst xs))
noncomputable def Hh(ts:List (Addr×Str×Pos))(H:Hp):Hp:=λb=>match ts.find? (λt=>t.1==b)with
 |some t=>some (.tbl t.2.1 t.2.2)
 |none=>H b
theorem Qu(ts:List (Addr×Str×Pos))(H:Hp)(b:Addr):(Hh ts H b=H b/\∀t∈ts,t.1≠b)\/∃t∈ts,t.1=b/\Hh ts H b=some (.tbl t.2.1 t.2.2):=by
 unfold Hh
 cases e:ts.find? (λt=>t.1==b)with
 |none=>exact .inl ⟨rfl,λt Z z=>by have:=jA.mp e t Z;simp[z]at this⟩
 |some t=>
  have h1:=iT e;have h2:=sV e;exact .inr ⟨t,h1,by simpa using h2,rfl⟩
theorem Qw {k:Nat} {fa:Addr} {B:eM} {vs:List Value} {ns:List Int}
 (KX:K.In B.heap) (hns:B.heap.Ns mainGlobals mg) (D:B.heap.Ns builtinsNs mb) (hbb:∀x:Str,x≠"__name__"->mb x=bootBuiltins x) (hlim:B.heap.NoLimit) (hbm:∃bm O,mg "__builtins__"=some (.ref bm)/\bm≠builtinsNs/\B.heap.get? bm=some O/\O.cls = .type "module"/\O.dict=some builtinsNs/\O.data = .plain) (hg:B.gens = #[])
 (ha:B.heap.get? a=some {cls:=.type "list", data:=.seq vs.toArray}) (hi:gE vs ns) (hl:ns.length<=sizeLine) (hr:Room k callerA)
 (F:∀base:fF,K.In base->base.Ns mainGlobals mg->FnOk P w K mg base CX k fa fd [x] sp) (hbind:∀(s:eM)(u:Value),BindsTo s fd ⟨[u],[]⟩ [(x,u)])
 (ts:List (Addr×Str×Pos)) (J:∀t∈ts,B.heap.get? t.1=some {cls:=.none,data:=.fields #[]}) (hCT:∀t∈ts,isCodeTable B.heap t.1) (hKt:∀t∈ts,K.lookup t.1=none) (htu:∀t∈ts,∀t'∈ts,t.1=t'.1->t=t')
 (hsp:∀H:Hp,(∀t∈ts,H t.1=some (.tbl t.2.1 t.2.2))->SqL K H a (ns.map V.int)->sp [.ref a] H (λv _=>v = .bl true) λ_ _ _=>False)
 (hCX:∀H e s',CX [] H B (λ_ _ _=>False) e s'->False) :
 codeAny (model P w) callerA (.call (.ref fa) ⟨[.ref a],[]⟩) (λr s'=>r = .ok (.ret (.bool true))/\OldK B.heap s'.heap/\s'.os=B.os/\h9 s'.gens) B:=by
 have f:=o_ hi;have N:=hi.length;have core:∀H:Hp,(∀b,H b=none\/(∃o xs,H b=some (.frz o (.lst xs)))\/∃t∈ts,t.1=b/\H b=some (.tbl t.2.1 t.2.2))->(∀t∈ts,H t.1=some (.tbl t.2.1 t.2.2))->SqL K H a (ns.map V.int)->HOk P w H B.heap->(∀b,H b≠none->b=a\/∃t∈ts,t.1=b)->(H a≠none->K.lookup a=none) ->
  codeAny (model P w) callerA (.call (.ref fa) ⟨[.ref a],[]⟩) (λr s'=>r = .ok (.ret (.bool true))/\OldK B.heap s'.heap/\s'.os=B.os/\h9 s'.gens) B:=by
  intro H M hT l hok I j;have Z:∀{b:Addr}{o:Obj},B.heap.get? b=some o->H b=none->(GP B.heap H).get? b=some o:=λe n=>Qd e n
  have E:∀{b:Addr}{o:Obj}{es:Array DictEntry}{ep:Nat},B.heap.get? b=some o->o.data = .dict es ep->H b=none:=λ{b o es ep} e d=>by
   cases q:H b with
   |none=>rfl
   |some u=>
    rcases I b (by rw[q];simp)with X|⟨t,Y,X⟩
    case inr=>
     subst X;rw[J t Y]at e;cases e;have g:Data.fields #[]=Data.dict es ep:=d
     cases g
    subst X;rw[ha]at e;cases e;have g:Data.seq vs.toArray _=Data.dict es ep:=d
    cases g
  have U:∀{b:Addr}{m:Str->Option Value},B.heap.Ns b m->(GP B.heap H).Ns b m:=λ{b m} ⟨o,es,ep,e,d,r⟩=>⟨o,es,ep,Z e (E e d),d,r⟩
  have L:=λb o e=>Z (KX b o e) (by
   cases q:H b with
   |none=>rfl
   |some u=>
    rcases I b (by rw[q];simp)with X|⟨t,Y,X⟩
    .subst X;rw[j (by rw[q];simp)]at e;cases e
    .subst X;rw[hKt t Y]at e;cases e)
  have hM:Mod K mg (GP B.heap H):=⟨L,U hns,⟨mb,U D,hbb⟩,let⟨mc,h1,h2⟩:=hlim;⟨mc,U h1,h2⟩,let⟨bm,O,g1,g2,g3,i,g5,g6⟩:=hbm;⟨bm,O,g1,g2,Z g3 (by
   cases q:H bm with
   |none=>rfl
   |some u=>
    rcases I bm (by rw[q];simp)with X|⟨t,Y,X⟩
    .rw[X,ha]at g3;cases g3;have z:=i;injection z with z
     exact absurd z (by decide)
    .rw[<-X,J t Y]at g3;cases g3
     cases i),i,g5,g6⟩⟩
  have e0:Env0 P w K mg (GP B.heap H) callerA [] B H:=⟨rfl,hM,λb o e=>U0 e,oU (N6 _ _),trivial,λb D=>absurd (show b∈([]:List Addr)from D) (by simp),hok,.of_eq hg⟩;refine dA ((F _ L (U hns)).run callerA [] B H ⟨[.ref a],[]⟩ [.ref a] [.ref a] _ _ hr e0 (hbind B (.ref a)) (.cons rfl .nil) (hsp H hT l)) λr s' h=>?_
  cases r with
  |error e=>exact(hCX H e s' h).elim
  |ok fl=>
   cases fl with
   |next=>exact gy h
   |brk=>exact gy h
   |cont=>exact gy h
   |ret u=>
    obtain⟨v,H',os,bare,un,T,r',q⟩:=h;have q':v = .bl true:=q;subst q';obtain rfl:u=gg true:=r';refine⟨rfl,⟨λb o e=>?_,λb o e=>un.there b o e (by simp)⟩,os,bare⟩
    cases q:H b with
    |none=>exact .inl <| un.keep b o e q (by intro z;exact absurd (show b∈([]:List Addr)from z) (by simp)) (by simp)
    |some u=>
     rcases M b with z|⟨O,xs,z⟩|⟨t,Y,rfl,z⟩
     case inr.inr=>
      have z2:=un.tbls _ _ _ z;obtain⟨ps,e2,_⟩:=T _ _ z2;rw[J t Y]at e;cases e;exact .inr (.inl ⟨hCT t Y,rfl,#[],ps,rfl,by rw[e2];simp⟩)
     .rw[q]at z;cases z
     .have z2:=un.frzs b O _ z;obtain⟨e1,_⟩:=hok b _ z;obtain⟨e2,_⟩:=T b _ z2;rw[e]at e1;cases e1;exact .inl e2
 have W:∀H:Hp,Only H->SqL K H a (ns.map V.int)->HOk P w H B.heap->(∀b,H b≠none->b=a)->(H a≠none->K.lookup a=none) ->
  codeAny (model P w) callerA (.call (.ref fa) ⟨[.ref a],[]⟩) (λr s'=>r = .ok (.ret (.bool true))/\OldK B.heap s'.heap/\s'.os=B.os/\h9 s'.gens) B:=by
  intro H M l hok I j;have na:∀t∈ts,t.1≠a:=λt Y z=>by
   have z2:=J t Y;rw[z,ha]at z2
   cases z2
  have G:=Qu ts H;have C:Hh ts H a=H a:=by
   rcases G a with z|⟨t,Y,z,_⟩
   .exact z.1
   .exact absurd z (na t Y)
  have R:∀b x,H b≠some (.own x):=λb x z=>by rcases M b with y|⟨_,_,y⟩<;>(rw[y]at z;cases z)
  have S:∀b x,H b≠some (.tup x):=λb x z=>by rcases M b with y|⟨_,_,y⟩<;>(rw[y]at z;cases z)
  refine core (Hh ts H) (λb=>?_) (λt Y=>?_) ?_ (λb u z=>?_) (λb z=>?_) (λz=>j (by rwa[<-C]))
  .rcases G b with z|⟨t,Y,z1,z2⟩
   .rcases M b with y|y
    .exact .inl (z.1.trans y)
    .obtain⟨o,xs,y⟩:=y;exact .inr (.inl ⟨o,xs,z.1.trans y⟩)
   .exact .inr (.inr ⟨t,Y,z1,z2⟩)
  .rcases G t.1 with z|⟨t',A,z1,z2⟩
   .exact absurd rfl (z.2 t Y)
   .have:=htu t' A t Y z1;subst this;exact z2
  .rcases l with(z|⟨o,z⟩)|z
   .exact .inl (.inl (by rwa[C]))
   .exact .inl (.inr ⟨o,by rwa[C]⟩)
   .exact .inr z
  .rcases G b with y|⟨t,Y,z1,z2⟩
   .rw[y.1]at z;exact(hok b u z).stay (λ_ _ _ q=>q) (λc q=>absurd q (R c b)) λc xs q=>absurd q (S c xs)
   .rw[z2]at z
    cases z;subst z1;exact⟨#[],J t Y,.inl rfl⟩
  .rcases G b with y|⟨t,Y,z1,z2⟩
   .exact .inl (I b (by rw[<-y.1];exact z))
   .exact .inr ⟨t,Y,z1⟩
 cases p:K.lookup a with
 |some o=>
  have e:=KX a o p;rw[ha]at e
  cases e;refine W (λ_=>none) (λ_=>.inl rfl) (.inr ⟨_,vs.toArray,_,p,rfl,rfl,rfl,by rw[aQ,N];exact hl,by simpa using f⟩) (λb u z=>by have Q:(none:Option HO)=some u:=z;cases Q) (λb z=>absurd rfl z) λz=>absurd rfl z
 |none=>
  refine W (λb=>if b=a then some (.frz {cls:=.type "list", data:=.seq vs.toArray} (.lst (ns.map V.int)))else none) (λb=>?_) (.inl (.inr ⟨{cls:=.type "list", data:=.seq vs.toArray},if_pos rfl⟩)) (λb u z=>?_) (λb z=>?_) λ_=>p
  .by_cases D:b=a
   .exact .inr ⟨_,_,if_pos D⟩
   .exact .inl (if_neg D)
  .by_cases D:b=a
   .have Q:=(if_pos D).symm.trans z
    cases Q;subst D;exact⟨ha,by rw[aq];exact hl,vs,_,f,ha⟩
   .have Q:=(if_neg D).symm.trans z
    cases Q
  .by_cases D:b=a
   .exact D
   .exact absurd (if_neg D) z
end L2
namespace L2
abbrev KOf(_:K.In h):PySem.W.Frag:=K
def Vl{l:PySem.W.OpenLaw} {q:eS} {d:DefRec} {K:Params->PySem.W.Frag} {CX:ff->CXT} {sp:ff->Sp}
 (hn:l.most=some n) (O:n<=sizeLine) (hdf:d.params.defaults=[]) (hr:Room k callerA)
 (hY:∀(w:ff)(h:fF),YP w h->(K w.params).In h)
 (F:∀(w:ff)(mg:Str->Option Value)(fa:Addr)(h:fF),(K w.params).In h->h.Ns mainGlobals mg->mg d.name=some (.ref fa) ->
  ∃fd:gc,(∀(s:eM)(u:Value),BindsTo s fd ⟨[u],[]⟩ [(x,u)]) /\
   ∀base:fF,(K w.params).In base->base.Ns mainGlobals mg->FnOk l.prog w (K w.params) mg base (CX w) k fa fd [x] (sp w))
 (ts:List (Addr×Str×Pos)) (B:∀(w:ff)(h:fF),YP w h->(∀t∈ts,h.get? t.1=some {cls:=.none,data:=.fields #[]})/\(∀t∈ts,isCodeTable h t.1)/\∀t∈ts,(K w.params).lookup t.1=none) (D:∀t∈ts,∀t'∈ts,t.1=t'.1->t=t')
 (J:∀(w:ff)(H:Hp)(a:Addr)(ns:List Int),ns.length<=n->(∀t∈ts,H t.1=some (.tbl t.2.1 t.2.2))->SqL (K w.params) H a (ns.map V.int)->sp w [.ref a] H (λv _=>v = .bl true) λ_ _ _=>False)
 (hCX:∀(w:ff)(H:Hp)(s:eM)(e:Value)(s':eM),CX w [] H s (λ_ _ _=>False) e s'->False) :
 PySem.W.WalkO q loose XP YP l.row.toRowW d [] (λf vs=>PySem.call f vs):=by
 refine Att.Hg hn hdf λw s₀ Z mg I fa o pm cd doc a vs ns G Y E hd Q U X hints hlen R=>?_
 have S:=hY w _ Y;obtain⟨fd,P,L⟩:=F w mg fa _ S G.T.g U;exact Qw S G.T.g G.T.b G.T.builtins G.T.nolimit G.T.bmain R X hints (aV hlen O) hr L P ts (B w _ Y).1 (B w _ Y).2.1 (B w _ Y).2.2 D (λH M N=>J w H a ns hlen M N) λH e s'=>hCX w H Z e s'
def Qx{l:PySem.W.OpenLaw} {d:DefRec} {K:Params->PySem.W.Frag} {sp:PySem.W.Frag->Sp}
 (hn:l.most=some n) (O:n<=sizeLine) (Y:d.params.defaults=[]) (hr:Room k callerA)
 (hY:∀(w:ff)(h:fF),YP w h->(K w.params).In h)
 (F:∀(w:ff)(mg:Str->Option Value)(fa:Addr)(h:fF),(K w.params).In h->h.Ns mainGlobals mg->mg d.name=some (.ref fa) ->
  ∃fd:gc,(∀(s:eM)(u:Value),BindsTo s fd ⟨[u],[]⟩ [(x,u)]) /\
   ∀base:fF,(K w.params).In base->base.Ns mainGlobals mg->FnOk l.prog w (K w.params) mg base CX k fa fd [x] (sp (K w.params)))
 (ts:List (Addr×Str×Pos)) (D:∀(w:ff)(h:fF),YP w h->(∀t∈ts,h.get? t.1=some {cls:=.none,data:=.fields #[]})/\(∀t∈ts,isCodeTable h t.1)/\∀t∈ts,(K w.params).lookup t.1=none) (B:∀t∈ts,∀t'∈ts,t.1=t'.1->t=t')
 (J:∀(K:PySem.W.Frag)(H:Hp)(a:Addr)(ns:List Int),ns.length<=n->(∀t∈ts,H t.1=some (.tbl t.2.1 t.2.2))->SqL K H a (ns.map V.int)->sp K [.ref a] H (λv _=>v = .bl true) λ_ _ _=>False)
 (Z:∀(H:Hp)(s:eM)(e:Value)(s':eM),CX [] H s (λ_ _ _=>False) e s'->False) :
 PySem.W.WalkO b loose XP YP l.row.toRowW d [] (λf vs=>PySem.call f vs):=
 Vl (K:=K) (CX:=λ_=>CX) (sp:=λw=>sp (K w.params)) hn O Y hr hY F ts D B (λw H a ns h1 h2 X=>J (K w.params) H a ns h1 h2 X) λ_ H s e s'=>Z H s e s'
end L2
/- THE LAST THEOREM (shape;LID,My.* are yours):
   My.Adr: a structure of the addresses that your layer names (classes,functions);My.Txt K t: a structure (Prop) of the equations over K;
   My.txt_mk:{K} {implicit addresses ..} (e1:nsIn K mainGlobals "law"=some (some (.ref f))) (e2:K.lookup f=some ⟨oc,od,.func (fnOf "law" "law" params body scope dV kV doc pm an cdv ct),sl⟩) (e3:codeIn K cdv "law"=true) .. : ∃t,My.Txt K t
set_option maxRecDepth 100000 in
set_option maxHeartbeats 0 in
(the tactic k_is has no namespace: write k_is) -/
namespace L2
noncomputable def qd(s:gv):im:=match s with
 | .FunctionDef _ a _ _ _ _ _ _ _ _=>a
 |_=>{posonlyargs:=[],args:=[],vararg:=none,kwonlyargs:=[],kw_defaults:=[],kwarg:=none,defaults:=[]}
def jm(s:gv):List gv:=match s with
 | .FunctionDef _ _ b _ _ _ _ _ _ _=>b
 |_=>[]
noncomputable def bH(s:gv):hH:=match s with
 | .FunctionDef _ _ _ _ _ _ sc _ _ _=>sc
 |_=>{kind:=.function,names:=[],isGenerator:=false,isCoroutine:=false}
abbrev CX0:CXT:=λ_ _ _ _ _ _=>False
abbrev E0:XK:=λ_ _ _=>False
def ag3 : Passes CX0 b E0:=λ_ _ _ _ _ _ _ h=>h.elim
structure Fun(K:PySem.W.Frag)(x qual:Str)(st:gv)(f:Addr)(fd:gc):Prop where
 ex:∃(oc:Value)(od:Option Addr)(kV doc pm:Value)(an:Option Addr)(cdv ct:Value)(osl:Array (Option Value)),
  fd=PySem.W.fnOf x qual (qd st) (jm st) (bH st) .none kV doc pm an cdv ct/\K.lookup f=some ⟨oc,od,.func fd,osl⟩/\PySem.W.codeIn K cdv qual=true
 kp:PySem.W.keepIn K (.ref f)=true
section
end
section
end
def Ae{A B:Prop}(h:B):if false=true then A else B:=by
 rwa[if_neg bA]
def Af{A B:Prop}(h:A):if true=true then A else B:=by
 rwa[if_pos rfl]
def Same(H H':Hp):Prop:=∀b o,H b=some o->H' b=some o
def Same.refl(H:Hp):Same H H:=λ_ _ h=>h
def Same.trans (a:Same H d) (b:Same d H2):Same H H2:=λc o h=>b c o (a c o h)
theorem Same.free(e:Same H H') (h:H' l=Option.none):H l=Option.none:=by
 cases q:H l with
 |none=>rfl
 |some o=>
  rw[e l o q]at h
  cases h
def Same.seq(e:Same H H')(h:SqL K H a xs):SqL K H' a xs:=by
 rcases h with(h|⟨o,h⟩)|h
 .exact .inl (.inl (e _ _ h))
 .exact .inl (.inr ⟨o,e _ _ h⟩)
 .exact .inr h
end L2
namespace My
open L2
abbrev St:=L2.St
def cP (h:H c=none) (o:HO):Same H (upd H c o):=λb u q=>by rwa[bG (jD q h)]
def Hi(e:Same H H')(h:SqT K H a xs):SqT K H' a xs:=by
 rcases h with(h|⟨o,h⟩)|h
 .exact .inl (.inl (e _ _ h))
 .exact .inl (.inr ⟨o,e _ _ h⟩)
 .exact .inr h
structure Df(K:PySem.W.Frag)(mg:Str->Option Value)(x:Str)(st:gv)(ps:List Str):Prop where
 ex:∃(f:Addr)(fd:gc),Fun K x x st f fd/\Binds K fd ps []/\mg x=some (.ref f)
structure Has(P:eS)(w:ff)(K:PySem.W.Frag)(mg:Str->Option Value)(base:fF)(n:Nat)(x:Str)(ps:List Str)(sp:Sp):Prop where
 ex:∃(f:Addr)(fd:gc),FnOk P w K mg base CX0 n f fd ps sp/\Binds K fd ps []/\PySem.W.keepIn K (.ref f)=true/\mg x=some (.ref f)
section
variable{sp:Sp}{st:gv}{k:Nat}
def Has.mono(h:Has P w K mg base k x ps sp)(l:k<=n):Has P w K mg base n x ps sp:=by
 obtain⟨f,fd,F,b,kp,m⟩:=h.ex;exact⟨f,fd,F.mono l,b,kp,m⟩
end
section
variable{sp:Sp}{t:TA}
def Ag(h:Has X.prog X.w X.K X.mg X.base n x ps sp)(J:Room n X.A)(ha:PA X (e::es) t)(O:Gl X x:=by rfl)(D:(x==("__debug__":Str))=false:=by decide)
 (Y:starEach (e::es) X.env=(false,eval e X.env)::starEach es X.env:=by rfl) (B:(backTo pos (starEach es X.env)).any (·.1)=false:=by rfl) :
 PE X (.Call (.Name x p) (e::es) [] pos) (X5 sp [] E0 t):=by
 obtain⟨f,fd,F,b,kp,m⟩:=h.ex;exact Ve F J O m kp b .nil ag3 ha D Y B
end
mutual
inductive RdV(K:PySem.W.Frag)(H:Hp):V->PyData->Prop
 |non:RdV K H .non .none
 |bl (b:Bool):RdV K H (.bl b) (.bool b)
 |int (i:Int):RdV K H (.int i) (.int i)
 |str (x:Str):RdV K H (.str x) (.str x)
 |lst {a:Addr} {xs:List V} {ds:List PyData}:SqL K H a xs->RdVs K H xs ds->RdV K H (.ref a) (.list ds)
 |tup {a:Addr} {xs:List V} {ds:List PyData}:SqT K H a xs->RdVs K H xs ds->RdV K H (.ref a) (.tuple ds)
inductive RdVs(K:PySem.W.Frag)(H:Hp):List V->List PyData->Prop
 |nil:RdVs K H [] []
 |cons {v:V} {d:PyData} {vs:List V} {ds:List PyData}:RdV K H v d->RdVs K H vs ds->RdVs K H (v::vs) (d::ds)
end
section
variable{σ:St}{H:Hp}{s:eM}
mutual
theorem RdV.reads(I:Inv X pins σ H s):∀{v:V}{d:PyData},RdV X.K H v d->∀{u:Value},RelV v u->∃as,Reads s.heap u d as
 |_,_,.non,_,r=>by cases r;exact⟨_,.none⟩
 |_,_,.bl b,_,r=>by cases r;exact⟨_,.bool b⟩
 |_,_,.int i,_,r=>by obtain⟨t,rfl⟩:=r;exact⟨_,.int i t⟩
 |_,_,.str x,_,r=>by obtain⟨t,rfl⟩:=r;exact⟨_,.str x t⟩
 |_,_,.lst h q,_,r=>by
  cases r;obtain⟨its,rv,⟨o,n,e,c,_,d⟩,_⟩:=I.list h;obtain⟨as,z⟩:=RdVs.reads I q rv;exact⟨_,.list e c d (by simpa using z)⟩
 |_,_,.tup h q,_,r=>by
  cases r;obtain⟨its,rv,⟨o,e,c,n,d⟩,_⟩:=I.tuple h;obtain⟨as,z⟩:=RdVs.reads I q rv;exact⟨_,.tuple e c d (by simpa using z)⟩
theorem RdVs.reads(I:Inv X pins σ H s):∀{vs:List V}{ds:List PyData},RdVs X.K H vs ds->∀{us:List Value},Vals vs us->∃as,ReadsAll s.heap us ds as
 |_,_,.nil,_,r=>by cases r;exact⟨_,.nil⟩
 |_,_,.cons h q,_,r=>by
  cases r with
  |cons r1 r2=>
   obtain⟨as,z⟩:=RdV.reads I h r1;obtain⟨bs,y⟩:=RdVs.reads I q r2;exact⟨_,.cons z y⟩
end
end
section
noncomputable def ag4(K:PySem.W.Frag):R2:=λx y H Q=>∃Y Z,RdV K H x Y/\RdV K H y Z/\fq Y=true/\fq Z=true/\Q (.bl (f7 Y Z)) H
noncomputable def ag5(K:PySem.W.Frag):R2:=λx y H Q=>∃Y Z,RdV K H x Y/\RdV K H y Z/\fq Y=true/\fq Z=true/\Q (.bl (!PyData.eqv Y Z)) H
def jN(hu:X.A.units+64<cLine):OpR X (compareOp .Eq) (ag4 X.K):=by
 intro pins s σ H x y v u Q I U V h;obtain⟨R,S,ha,T,sa,W,q⟩:=h;obtain⟨as,Y⟩:=ha.reads I U;obtain⟨bs,Z⟩:=T.reads I V;exact SeqAt.compareEq_shaped Y Z sa W hu ⟨.bl _,H,I,rfl,q⟩
def tV(hu:X.A.units+64<cLine):OpR X (compareOp .NotEq) (ag5 X.K):=by
 intro pins s σ H x y v u Q I U V h;obtain⟨R,S,ha,T,sa,W,q⟩:=h;obtain⟨as,Y⟩:=ha.reads I U;obtain⟨bs,Z⟩:=T.reads I V;exact SeqAt.compareNe_shaped Y Z sa W hu ⟨.bl _,H,I,rfl,q⟩
end
def isT(c T:String):Bool:=T==c||(T=="bool"&&c=="int")
section
def Zd(h:c="int"\/c="bool"\/c="tuple"\/c="list"\/c="str")(g:T="NoneType"\/T="bool"\/T="int"\/T="str"\/T="list"\/T="tuple"\/T="dict"):
 PySem.W.kitOne K (.type T) (.type c)=some (isT c T):=by
 rcases h with rfl|rfl|rfl|rfl|rfl<;>rcases g with rfl|rfl|rfl|rfl|rfl|rfl|rfl<;>kernel_rfl
end
section
end
def big (I:Inv b c σ H s):sysModules<s.heap.objs.size:=by
 have h:=(I.mod.glob.keeps I.bk).lt;exact j9 (by decide) h
def Qy(h:fF)(B:sysModules<h.objs.size):gM P w H (h.push {cls:=.type "dict", data:=.dict #[]}) h.objs.size (.dK []):=
 ⟨cg _,beq_eq_false_iff_ne.mpr (e9 (aR B)),[],.nil,Heap.DictOf.new h⟩
def Ze:TE:=λ_ H Q=>∀p,H p=none->Q (.ref p) (upd H p (.dK []))
def Qz : PE b (.Dict [] [] c) Ze:=λpins s σ H Q I h=>
 wpAny_Dict_empty ⟨.ref s.heap.objs.size,_,I.laid (a:=s.heap.objs.size) (o:=.dK []) (t':=s.toks) (λ_ _ q=>ad _ q) (aB _) (Qy s.heap (big I)),rfl,h _ (I.hok.fresh (aB _))⟩
end My
namespace My
open L2
section
variable{a b c d:Expr}{ta tb tc td:TE}
noncomputable def Vm(r D B:R2)(ta tb tc td:TE):TE:=λσ H Q=>ta σ H λx H1=>tb σ H1 λy H2=>r x y H2 λz W=>∃k,z = .bl k /\
 (if k=true then tc σ W λZ S=>D y Z S λV X=>∃Y,V = .bl Y/\(if Y=true then td σ X λU T=>B Z U T Q else Q (.bl false) X)else Q (.bl false) W)
theorem Oi (ho:OpR X (compareOp Y) r) (Z:OpR X (compareOp q0) r') (O:OpR X (compareOp B) J) (ha:PE X a ta) (hb:PE X b tb) (hc:PE X c tc) (hd:PE X d td)
 (hm:lastMarks [Y,q0,B] [b,c,d]=false:=by with_unfolding_all rfl):PE X (.Compare a [Y,q0,B] [b,c,d] pos) (Vm r r' J ta tb tc td):=by
 intro pins s σ H Q I h;refine Compare_chain (thn (ha pins s σ H _ I h) λv s1 ⟨x,H1,l,t,q1⟩=>chain_link (thn (hb pins s1 σ H1 _ l q1) λu s2 ⟨y,H2,m,T,q2⟩=>
  thn (ho pins s2 σ H2 x y v u _ m t T q2) λd s3 ⟨z,L,N,w,k,e,R⟩=>?_)) hm
 subst e
 cases w;refine aw ?_
 cases k with
 |false=>exact ite_ff ⟨.bl false,L,N,rfl,R⟩
 |true=>
  refine ite_tt (chain_link (thn (hc pins s3 σ L _ N R) λV C ⟨W,i,n,U,p⟩=>thn (Z pins C σ i y W u V _ n T U p) λg E ⟨z2,M,P,A,k2,e2,S⟩=>?_));subst e2
  cases A;refine aw ?_
  cases k2 with
  |false=>exact ite_ff ⟨.bl false,M,P,rfl,S⟩
  |true=>exact ite_tt (chain_last (thn (hd pins E σ M _ P S) λG F ⟨K,j,o,r6,q⟩=>O pins F σ j W K V G Q o U r6 q))
end
structure Blt(mg:Str->Option Value):Prop where
 len_:mg "len"=none
 range_:mg "range"=none
 abs_:mg "abs"=none
 isinstance_:mg "isinstance"=none
 int_:mg "int"=none
 bool_:mg "bool"=none
 tuple_:mg "tuple"=none
 max_:mg "max"=none
 min_:mg "min"=none
end My
namespace My
open L2
abbrev cx(P:eS)(w:ff)(K:PySem.W.Frag)(mg:Str->Option Value)(base:fF)(N:List Str)(x:Str)(st:gv)(f:Addr)(cdv:Value)(A:eW)(outer:List Env)(s:eM)(H:Hp)(E:XK):Cx:=
 (G8 CX0 P w K mg base N x (bH st) f cdv A outer s H E).nox
end My
namespace My
open L2
noncomputable def rY(env:Env):List (Str×NameKind)->List (Str×Addr)->List (Str×Addr)
 |[],Z=>Z
 | (n,k)::r,Z=>if(k==fw)=true then rY env r ((n,(env.cells.lookup n).getD 0)::Z)else rY env r Z
theorem vC : ∀(l:List (Str×NameKind))(B:List (Str×Addr)),(∀x∈l,x.2 = .free->∃c,env.cells.lookup x.1=some c) ->
 (forIn l B λ(x:Str×NameKind)(r:List (Str×Addr))=>(if(x.2==fw)=true then(do let c <-cellOf env x.1;pure (f6 ((x.1,c)::r)))else pure (f6 r):Sem (ForInStep (List (Str×Addr)))))=pure (rY env l B)
 |[],_,_=>rfl
 | (n,k)::r,B,h=>by
  rw[sW];by_cases Z:(k==fw)=true
  .obtain⟨c,W⟩:=h (n,k) ao (beq_iff_eq.mp Z);have X:cellOf env n=pure c:=by
    unfold cellOf;rw[show env.cells.lookup n=some c from W]
   rw[if_pos Z,X];have V:=vC r ((n,c)::B) λx Y=>h x (au _ Y)
   rwa[rY,if_pos Z,show env.cells.lookup n=some c from W]
  .rw[if_neg Z];have V:=vC r B λx Y=>h x (au _ Y)
   rwa[rY,if_neg Z]
def J4 (h:∀x∈b.names,x.2 = .free->∃c,env.cells.lookup x.1=some c):closureFor b env=pure (rY env b.names []):=by
 have z:=vC (env:=env) b.names [] h;show(forIn b.names [] λ(x:Str×NameKind)(r:List (Str×Addr))=>(if(x.2==fw)=true then(do let c <-cellOf env x.1;pure (f6 ((x.1,c)::r)))else pure (f6 r):Sem (ForInStep (List (Str×Addr))))) >>= (λZ=>pure Z)=_;rw[z];rfl
theorem Ah : ∀(l:List (Str×NameKind))(B:List (Str×Addr)),(∀x∈l,x.2 = .free->∃c,env.cells.lookup x.1=some c)->(∀x c,B.lookup x=some c->env.cells.lookup x=some c) ->
 ∀x c,(rY env l B).lookup x=some c->env.cells.lookup x=some c
 |[],_,_,Y,x,c,e=>Y x c e
 | (n,k)::r,B,h,Y,x,c,e=>by
  rw[rY]at e;by_cases V:(k==fw)=true
  .rw[if_pos V]at e;obtain⟨d,hd⟩:=h (n,k) ao (beq_iff_eq.mp V);refine Ah r _ (λx W=>h x (au _ W)) (λy c' Z=>?_) x c e;rw[dR]at Z
   cases X:y==n with
   |true=>
    rw[X]at Z;have:y=n:=beq_iff_eq.mp X;subst this;rw[show env.cells.lookup y=some d from hd]at Z ⊢;exact Z
   |false=>
    rw[X]at Z;exact Y y c' Z
  .rw[if_neg V]at e;exact Ah r B (λx W=>h x (au _ W)) Y x c e
theorem tW : ∀(l:List (Str×NameKind))(B:List (Str×Addr))(x:Str),((x,fw)∈l\/∃c,B.lookup x=some c)->∃c,(rY env l B).lookup x=some c
 |[],_,x,h=>by
  rcases h with h|h
  .exact absurd h (by simp)
  .exact h
 | (n,k)::r,B,x,h=>by
  rw[rY];by_cases Z:(k==fw)=true
  .rw[if_pos Z];refine tW r _ x ?_;by_cases e:x=n
   .subst e;exact .inr ⟨_,by rw[dR,beq_self_eq_true]⟩
   .rcases h with h|⟨c,h⟩
    .rcases aJ.mp h with h|h
     .exact absurd (congrArg Prod.fst h) e
     .exact .inl h
    .exact .inr ⟨c,by rwa[dR,beq_eq_false_iff_ne.mpr e]⟩
  .rw[if_neg Z];refine tW r B x ?_;rcases h with h|h
   .rcases aJ.mp h with h|h
    .have:k = .free:=(congrArg Prod.snd h).symm;subst this;exact absurd rfl Z
    .exact .inl h
   .exact .inr h
noncomputable abbrev blk(X:Cx)(B:List Str)(scope:hH)(cl:List (Str×Addr))(C:Addr)(s3:eM)(D:Hp)(fp:List Addr):Cx:=
 {X with N:=B,s₀:=s3,H₀:=D,env:=compEnvC scope cl C X.env,outer:=X.stack,ex:=fp,fn:=λ_=>false,xe:=λ_ _=>False}
noncomputable def yZ(N:List Str)(kinds B:List (Str×NameKind)):List Str->List Nat->Bool
 |[],[]=>true
 |x::V,j::ix=>(N[j]? == some x)&&((kinds.lookup x==some gL)&&((B.lookup x==some fw)&&yZ N kinds B V ix))
 |_,_=>false
def vD(t:Nat)(ix:List Nat)(σ:St):St:=aO t none++ix.map λj=>(σ[j]?).getD none
theorem Ai : ∀{V:List Str}{ix:List Nat},yZ N kinds B V ix=true->ix.length=V.length/\∀(k:Nat)(x:Str),V[k]? = some x->∃j,ix[k]? = some j/\N[j]? = some x/\kinds.lookup x=some .cell/\B.lookup x=some .free
 |[],[],_=>⟨rfl,λk x h=>by simp at h⟩
 |x::V,j::ix,h=>by
  rw[yZ,aK,aK,aK]at h;obtain⟨h1,h2,X,Y⟩:=h;obtain⟨l,r⟩:=Ai Y;refine⟨by simp[l],λk y Z=>?_⟩
  cases k with
  |zero=>
   simp at Z;subst Z;exact⟨j,rfl,beq_iff_eq.mp h1,beq_iff_eq.mp h2,beq_iff_eq.mp X⟩
  |succ k=>exact r k y (by simpa using Z)
 |[],_::_,h=>by simp[yZ]at h
 |_::_,[],h=>by simp[yZ]at h
theorem v8{env:Env}(B:env.scope.kind = .function):∀{names:List (Str×NameKind)}{x:Str},names.lookup x=some .free->env.kindOf x=some .cell ->
 (names.map λ(n,k)=>if(k==fw&&env.scope.kind == .function&&env.kindOf n==some .cell)then(n,gL)else(n,k)).lookup x=some .cell
 |[],_,h,_=>by simp at h
 | (n,k)::r,x,h,Y=>by
  have X:=@v8 env B r x;show yH x ((if(k==fw&&env.scope.kind == .function&&env.kindOf n==some .cell)=true then(n,gL)else(n,k))::_)=_
  cases Z:x==n with
  |true=>
   have e:=beq_iff_eq.mp Z;subst e;simp only[dR,Z]at h
   cases h;rw[if_pos (by rw[B,Y];rfl)];simp[dR]
  |false=>
   simp only[dR,Z]at h;by_cases W:(k==fw&&env.scope.kind == .function&&env.kindOf n==some .cell)=true
   .rw[if_pos W];simp only[dR,Z];exact X h Y
   .rw[if_neg W];simp only[dR,Z];exact X h Y
theorem rZ{env:Env}:∀{names:List (Str×NameKind)}{x:Str}{k:NameKind},(∀y∈names,y.2 ≠ .cell)->(k = .cell\/k = .free) ->
 (names.map λ(n,k)=>if(k==fw&&env.scope.kind == .function&&env.kindOf n==some .cell)then(n,gL)else(n,k)).lookup x=some k->(x,fw)∈names
 |[],_,_,_,_,h=>by simp at h
 | (n,X)::r,x,k,U,Y,h=>by
  have V:=@rZ env r x k (λy S=>U y (au _ S)) Y;have h':yH x ((if(X==fw&&env.scope.kind == .function&&env.kindOf n==some .cell)=true then(n,gL)else(n,X))::(r.map λ(n,k)=>if(k==fw&&env.scope.kind == .function&&env.kindOf n==some .cell)then(n,gL)else(n,k)))=some k:=h;by_cases W:(X==fw&&env.scope.kind == .function&&env.kindOf n==some .cell)=true
  .rw[if_pos W]at h';have T:X = .free:=by
    rw[aK,aK]at W;exact beq_iff_eq.mp W.1.1
   cases Z:x==n with
   |true=>
    have e:=beq_iff_eq.mp Z;subst e;subst T;exact ao
   |false=>
    simp only[dR,Z]at h';exact au _ (V h')
  .rw[if_neg W]at h'
   cases Z:x==n with
   |true=>
    have e:=beq_iff_eq.mp Z;subst e;simp only[dR,Z]at h'
    cases h';rcases Y with Y|Y
    .exact absurd Y (U _ ao)
    .subst Y;exact ao
   |false=>
    simp only[dR,Z]at h';exact au _ (V h')
section
variable{σ:St}{H:Hp}{s:eM}
def Inv.forget (I:Inv X pins σ H s) (B:σ'.length=X.N.length) (h:∀(i:Nat)(v:V),σ'[i]? = some (some v)->σ[i]? = some (some v)):Inv X pins σ' H s:=by
 obtain⟨m,hn,Z⟩:=I.loc;exact⟨I.ok,I.os,I.bare,I.base,⟨m,hn,λi x v e1 e2 e3=>Z i x v e1 (h i v e2) e3⟩,I.cell,I.free,I.freeC,I.pin,I.hok,B⟩
end
end My
variable{spos:Pos}
namespace My
open L2
theorem Hj (I:Nat->eM->Prop)
 (turn:∀n s,I n s->wpAny (model prog w) A (pyNext it) (λr J=>match r with
  |none=>b (.ok .next) J
  |some v=>wpAny (model prog w) A (letOwnedTupleGo target it v) (λ_ D=>wpAny (model prog w) A (assign target env v) (λ_ Z=>
   wpAny (model prog w) A (forIn g true λc r=>if r=true then do let ok <-isTrue c env (eval c env);pure (f6 ok)else pure (f6 r)) (λok B=>
    if ok=true then wpAny (model prog w) A (eval elt env) (λx Y=>
     wpAny (model prog w) A (call (.builtin "list.append") [acc,x]) (λ_ O=>∃m,m<n/\I m O) (λ_ _=>False) Y) (λ_ _=>False) B
    else ∃m,m<n/\I m B) (λ_ _=>False) Z) (λ_ _=>False) D) (λ_ _=>False) J) (λ_ _=>False) s)
 (n:Nat) (h:I n s) :
 codeAny (model prog w) A (.compLoop (.ListComp elt [⟨target,d,g,0⟩] k l) 0 it acc env) b s:=by
 refine codeAny_loop rfl I (λn s Q=>?_) n h;refine wpAny_noted ?_;rw[compTurn_list];refine aa (da (aa (a5 (turn n s Q) (λr J W=>?_) λ_ _ h'=>h'.elim)))
 cases r with
 |none=>exact ae W
 |some v=>
  refine aa (a5 W (λ_ D V=>?_) λ_ _ h'=>h'.elim);refine aa (a5 V (λ_ Z S=>aa (a5 S (λok B X=>?_) λ_ _ h'=>h'.elim)) λ_ _ h'=>h'.elim)
  cases ok with
  |false=>exact ae ⟨rfl,X⟩
  |true=>
   exact aa (aa (a5 X (λx Y T=>aa (a5 T (λ_ O U=>ae (ae ⟨rfl,U⟩)) λ_ _ h'=>h'.elim)) λ_ _ h'=>h'.elim))
section
variable{σ:St}{H:Hp}
def Oj{T V:List Str} {B:fF} {tk:Nat} {m:Str->Option Value}
 (I:Inv X pins σ H s3) (J:∀b∈fp,xQ X pins H b) (ho:∀b∈fp,∃o,s3.heap.get? b=some o)
 (hk:q1.kind = .function) (D:∀y∈q1.names,y.2 ≠ .cell) (hfr:∀x∈q1.names,x.2 = .free->x.1∈V) (hB:yZ X.N X.env.scope.names q1.names V q0=true)
 (hns:B.Ns s3.heap.objs.size m) (keep:∀b o,s3.heap.get? b=some o->B.get? b=some o) :
 Inv (blk X (T++V) q1 (rY X.env q1.names []) s3.heap.objs.size s3 H fp) pins (vD T.length q0 σ) H {s3 with heap:=B,toks:=tk}:=by
 obtain⟨E,R⟩:=Ai hB;have L:∀x∈q1.names,x.2 = .free->∃c,X.env.cells.lookup x.1=some c:=λx U e=>by
  obtain⟨k,h⟩:=fP (hfr x U e);obtain⟨j,_,_,P,_⟩:=R k _ h;exact I.ok.has _ (.inl P)
 have sub:=Ah (env:=X.env) q1.names [] L (λx c e=>by simp at e);have stkSub:=λb z=>aJ.mp (I.stkSub b z)
 have lt:∀b o,s3.heap.get? b=some o->b≠s3.heap.objs.size:=λb o e=>aR (af e)
 have cellK:∀c v,s3.heap.IsCell c v->B.IsCell c v:=λc v ⟨o,e,d⟩=>⟨o,keep c o e,d⟩
 refine⟨⟨I.ok.mod,hk,I.ok.glob,I.ok.blt,aB _,λx y c e1 e2=>I.ok.inj x y c (sub x c e1) (sub y c e2),λx U=>?_,λx c U=>?_,I.ok.hd,I.ok.frames,.inl rfl,λb Q=>⟨?_,λx c e=>?_⟩,I.bs,aV I.ok.bsz I.sz,λb o e Q=>?_,λb Q z=>?_,I.stack,I.stkFree⟩,
  rfl,I.bare,Un.kept keep,⟨m,hns,λi x v e1 e2 e3=>?_⟩,λx c e=>?_,I.hok.fresh (aB _),λx c e=>I.freeC x c (sub x c e),λp C=>?_,I.hok.kept keep,?_⟩
 .rcases U with U|U
  .exact tW _ _ x (.inl (rZ D (.inl rfl) U))
  .exact tW _ _ x (.inl (rZ D (.inr rfl) U))
 .exact absurd U (by simp)
 .obtain⟨o,e⟩:=ho b Q;exact lt b o e
 .exact(J b Q).2.2.2.2.1 x c (sub x c e)
 .rcases(J b Q).2.2.2.1 with z|z
  .exact I.ok.noex b o e z
  .exact absurd (bU (af e) (aV I.ok.bsz z)) (eG _)
 .rcases stkSub b z with z|z
  .exact(J b Q).2.1 z
  .exact(J b Q).2.2.1 z
 .by_cases hi:i<T.length
  .have W:(aO T.length none++q0.map λj=>(σ[j]?).getD none)[i]? = some (some v):=e2;rw[b_ (by rwa[bD]),fM,if_pos hi]at W;exact absurd W (by simp)
  .have M:(T++V)[i]? = some x:=e1;rw[bV (by lia)]at M;obtain⟨j,t,s,P,Y⟩:=R _ x M;have W:(aO T.length none++q0.map λj=>(σ[j]?).getD none)[i]? = some (some v):=e2;rw[bV (by rw[bD];lia),bD,aW,t]at W;have Z:(σ[j]?).getD none=some v:=by simpa using W
   have K:σ[j]? = some (some v):=by
    cases q:σ[j]? with
    |none=>rw[q]at Z;exact absurd Z (by simp)
    |some o=>rw[q]at Z;simp at Z;rw[Z]
   obtain⟨f,A,w⟩:=I.loc;obtain⟨u,r,l⟩:=w j x v s K (.inr (.inl P));rcases l with⟨z,_⟩|⟨_,c,g,S⟩
   .have G:X.env.scope.names.lookup x=some .local:=z;rw[P]at G;exact absurd G (by simp)
   .obtain⟨c',O⟩:=tW (env:=X.env) q1.names [] x (.inl (PySem.mem_of_lookup Y));have:c'=c:=by
     have q:=sub x c' O;rw[g]at q;exact(cR.inj q).symm
    subst this;exact⟨u,r,.inr ⟨.inl (v8 I.ok.kind Y P),c',O,cellK _ _ S⟩⟩
 .obtain⟨v,z⟩:=I.cell x c (sub x c e);exact⟨v,cellK c v z⟩
 .obtain⟨e,n,ne,F,d⟩:=I.pin p C;refine⟨keep _ _ e,n,lt _ _ e,λz=>?_,d⟩;rcases stkSub p.1 z with z|z
  .exact ne z
  .exact F z
 .show(aO T.length none++q0.map λj=>(σ[j]?).getD none).length=(T++V).length;rw[bL,bD,aq,bL,E]
def QB (O:Inv X pins σ J s3) (D:∀b∈fp,xQ X pins J b)
 (B:Inv (blk X N' c cl s3.heap.objs.size s3 J fp) pins' σ' H' s'):Inv X pins σ H' s'/\xQ X pins H' s3.heap.objs.size:=by
 have fr:=B.free;refine⟨?_,O.fpOk (aB _) fr⟩;have os:=B.os;have u:=B.base;have W:=B.hok;have U:=B.bare;obtain⟨V,g,d,t,Y⟩:=s';obtain rfl:Y=s3.os:=os;exact O.call (h':=V) (g':=g) (d':=d) (t':=t) (ch:=fp) u W U λb Z=>⟨(D b Z).2.2.2.1,(D b Z).2.1,(D b Z).2.2.2.2.1,(D b Z).2.2.2.2.2⟩
end
def PTs(X:Cx)(ifs:List Expr)(t:TT):Prop:=
 ∀(pins:List (Addr×Obj))(s:eM)(σ:St)(H:Hp)(Q:Bool->Hp->Prop),Inv X pins σ H s->t σ H Q ->
  wpAny (model X.prog X.w) X.A (forIn ifs true λc r=>if r=true then do let ok <-isTrue c X.env (eval c X.env);pure (f6 ok)else pure (f6 r)) (TP X pins σ Q) X.xe s
def lu:TT:=λ_ H Q=>Q true H
def Vo : PTs b [] lu:=λ_ _ _ H _ I h=>wpAny_tests_nil ⟨H,I,h⟩
def Vp (h:PT b c t):PTs b [c] t:=λpins s σ H Q I q=>wpAny_tests_one (h pins s σ H Q I q)
def Hl(wi:TI)(g:TG)(tt:TT)(te:TE)(t:Nat)(B:St->St):TE:=λσ H Q=>wi σ H λJ H1=>∀D,H1 D=none->∃W:Nat->Nat->List V->Hp->Prop,(∃m,W 0 m [] (upd H1 D (.lst []))) /\
 ∀i m xs H2,W i m xs H2->H2 D=some (.lst xs)/\((J.stop i H2/\Q (.ref D) H2)\/(J.go i H2/\xs.length<sizeLine/\∀x T,J.yld i H2 x T->g x (B σ) T λZ S=>Z.drop t=(B σ).drop t /\
  tt Z S λb U=>if b=true then te Z U λv X=>X D=some (.lst xs)/\∃Y,Y<m/\W (i+1) Y (xs++[v]) (upd X D (.lst (xs++[v])))else ∃Y,Y<m/\W (i+1) Y xs U))
section
variable{elt iter:Expr}{T V:List Str}{wi:TI}{g:TG}{tt:TT}{te:TE}
def Dq(hc:X.calm=true)(hi:PI X tg iter wi)
 (hg:∀cl C s3 B fp,PG (blk X (T++V) scope cl C s3 B fp) tg g) (ht:∀cl C s3 B fp,PTs (blk X (T++V) scope cl C s3 B fp) ifs tt) (he:∀cl C s3 B fp,PE (blk X (T++V) scope cl C s3 B fp) elt te)
 (hB:yZ X.N X.env.scope.names scope.names V ix=true) (hk:scope.kind = .function) (O:∀y∈scope.names,y.2 ≠ .cell) (hnames:∀x∈scope.names,x.2 = .local->scope.names.lookup x.1=some .local)
 (hfr:∀x∈scope.names,x.2 = .free->x.1∈V) (hs:∀x,foldedSetIterable iter X.env x=pure x) 
 (I:Inv X q1 σ q2 s) (h:Hl wi g tt te T.length (vD T.length ix) σ q2 Qv)
 (fin:∀(D C:Addr)(H':Hp)(s':eM)(m:Str->Option Value),Inv X q1 σ H' s'->xQ X q1 H' C->s'.heap.Ns C m->Qv (.ref D) H'->compPost (model X.prog X.w) X.A X.xe use Qp (.ref D) C (.ok .next) s') :
 wpAny (model X.prog X.w) X.A (comprehension (.ListComp elt [⟨tg,iter,ifs,0⟩] scope pos) scope X.env q0 (newList []) false (eval iter X.env) use) Qp X.xe s:=by
 obtain⟨lV,capV⟩:=Ai hB;have hcl:∀x∈scope.names,x.2 = .free->∃c,X.env.cells.lookup x.1=some c:=λx hx e=>by
  obtain⟨k,ek⟩:=fP (hfr x hx e);obtain⟨j,_,_,hc',_⟩:=capV k _ ek;exact I.ok.has _ (.inl hc')
 refine wpAny_comprehension_free rfl hs (J4 hcl) hk hnames ?_;refine thn (hi q1 s σ q2 _ I h) λv s1 h1=>thn h1 λitv s2 h2=>?_
 obtain⟨it,fp,tn,J,H2,e,I2,U,t,f2,R⟩:=h2;subst e;refine ax (hd:=by size_fits) ?_;have hD:=I2.hok.fresh (aB _);have I3:Inv X q1 σ (upd H2 s2.heap.objs.size (.lst [])) {s2 with heap:=s2.heap.push {cls:=.type "list", dict:=none,data:=.seq ([]:List Value).toArray} }:=
  I2.laid (t':=s2.toks) (λb o e=>ad _ e) (aB _) ⟨cg _,[],0,.nil,ag _ rfl⟩
 obtain⟨W,⟨m0,w0⟩,turn⟩:=R s2.heap.objs.size hD;generalize hs3:({s2 with heap:=s2.heap.push {cls:=.type "list", dict:=none,data:=.seq ([]:List Value).toArray} }:eM)=s3 at I3 ⊢;have z:tn 0 s3.heap:=by
  rw[<-hs3];exact U.keep 0 s2.heap _ t λb Z o e=>ad _ e
 have f3:∀b∈fp,xQ X q1 (upd H2 s2.heap.objs.size (.lst [])) b:=λb Z=>by
  obtain⟨z0,z1⟩:=f2 b Z;refine⟨?_,z1⟩;obtain⟨o,eo,_⟩:=U.obj 0 _ t b Z;rwa[bG (aR (af eo))]
 generalize hH3:upd H2 s2.heap.objs.size (.lst [])=B at I3 f3 w0;generalize hDn:s2.heap.objs.size=D at turn;refine wpAny_newFunctionEnv O (by intro y hy;simp at hy) (λl P Q=>?_) hk;have keep:=λb o e=>Q.extBut b o (aR (af e)) (ad _ e)
 have I4:=Oj (T:=T) (tk:=s3.toks+([]:List (Str×Value)).length) I3 f3 (λb Z=>let⟨o,eo,_⟩:=U.obj 0 _ z b Z;⟨o,eo⟩) hk O hfr hB P keep;have E:=U.keep 0 _ _ z λb Z o e=>keep b o e
 have loop:codeAny (model X.prog X.w) X.A (.compLoop (.ListComp elt [⟨tg,iter,ifs,0⟩] scope pos) 0 (.ref it) (.ref D) (compEnvC scope (rY X.env scope.names []) s3.heap.objs.size X.env))
  (compPost (model X.prog X.w) X.A X.xe use Qp (.ref D) s3.heap.objs.size) {s3 with heap:=l,toks:=s3.toks+([]:List (Str×Value)).length}:=by
  refine Hj (λn s'=>∃i xs H',Inv (blk X (T++V) scope (rY X.env scope.names []) s3.heap.objs.size s3 B fp) q1 (vD T.length ix σ) H' s'/\tn i s'.heap/\(∀b∈fp,H' b=none)/\W i n xs H') ?_ m0
   ⟨0,[],B,I4,E,λb Z=>(f3 b Z).1,w0⟩
  rintro n s5 ⟨i,xs,H5,I5,F,a,w5⟩;have Y:∀{H':Hp}{pins':List (Addr×Obj)}{σ':St}{s':eM},Inv (blk X (T++V) scope (rY X.env scope.names []) s3.heap.objs.size s3 B fp) q1 σ' H' s'->(∀b∈fp,H' b=none)->∀b∈fp,xQ (blk X (T++V) scope (rY X.env scope.names []) s3.heap.objs.size s3 B fp) q1 H' b:=λI' hn b Z=>by
   obtain⟨x1,x2⟩:=I'.ok.exf b Z;refine⟨hn b Z,x1,I'.ok.exfs b Z,.inl Z,x2,λq hq=>?_⟩;exact(f3 b Z).2.2.2.2.2 q hq
  obtain⟨hD5,r5⟩:=turn i n xs H5 w5;rcases r5 with⟨stop,q⟩|⟨go,hz,step⟩
  .refine thn (U.done (blk X (T++V) scope (rY X.env scope.names []) s3.heap.objs.size s3 B fp) rfl rfl rfl hc i q1 s5 _ H5 _ I5 (Y (pins':=q1) I5 a) F stop) λr s6 ⟨hr,I6⟩=>?_
   subst hr;obtain⟨Ib,fC⟩:=QB I3 f3 I6;obtain⟨m,hn,_⟩:=I6.loc;exact fin D _ H5 s6 m Ib fC hn q
  .refine thn (U.item (blk X (T++V) scope (rY X.env scope.names []) s3.heap.objs.size s3 B fp) rfl rfl rfl hc i q1 s5 _ H5 _ I5 (Y (pins':=q1) I5 a) F go) λr s6 ⟨u,hr,h6⟩=>?_
   subst hr;refine thn h6 λ_ s7 ⟨x,H7,I7,rx,y7,M,fr7⟩=>?_
   have I7':=I7.pinned (Y (pins':=q1) I7 fr7) (U.obj _ _ M);refine thn (hg _ _ _ _ _ _ s7 _ H7 x u _ I7' rx (step x H7 y7)) λ_ s8 ⟨S,H8,I8,k8,q8⟩=>?_
   have again:∀{L:Hp}{K:eM},Inv (blk X (T++V) scope (rY X.env scope.names []) s3.heap.objs.size s3 B fp) (q1++Ab fp s7.heap) S L K ->
    Inv (blk X (T++V) scope (rY X.env scope.names []) s3.heap.objs.size s3 B fp) q1 (vD T.length ix σ) L K/\tn (i+1) K.heap/\∀b∈fp,L b=none:=λ{L K} G=>by
    refine⟨Inv.forget G.unpinned I4.len λj v e=>?_,U.keep _ _ _ M λb Z o e=>(G.pin (b,o) (bw _ (bw _ (rT Z e)))).1,λb Z=>?_⟩
    .by_cases hj:j<T.length
     .have e':(aO T.length none++ix.map λj=>(σ[j]?).getD none)[j]? = some (some v):=e;rw[b_ (by rwa[bD]),fM,if_pos hj]at e';exact absurd e' (by simp)
     .have ej:j=T.length+(j-T.length):=by lia
      rw[ej,<-d8]at e ⊢;rwa[k8]
    .obtain⟨o,e,d⟩:=U.obj _ _ M b Z;exact(G.pin (b,o) (bw _ (bw _ (rT Z e)))).2.1
   refine thn (ht _ _ _ _ _ _ s8 S H8 _ I8 q8) λok K ⟨L,G,q9⟩=>?_
   cases ok with
   |false=>
    obtain⟨m',lm,w9⟩:=q9;obtain⟨a1,a2,a3⟩:=again G;exact⟨m',lm,i+1,xs,L,a1,a2,a3,w9⟩
   |true=>
    refine thn (he _ _ _ _ _ _ K S L _ G q9) λy s10 ⟨v,H10,I10,ry,f,m',lm,w10⟩=>?_
    refine thn (xT _ s10 S H10 (.ref D) [v] (.ref D) [y] (λ_ Hn=>Hn=upd H10 D (.lst (xs++[v]))) I10 rfl (.cons ry .nil) ⟨D,xs,v,rfl,rfl,f,hz,rfl⟩) λ_ s11 ⟨_,H11,I11,_,e11⟩=>?_
    subst e11;obtain⟨a1,a2,a3⟩:=again I11;exact⟨m',lm,i+1,_,_,a1,a2,a3,w10⟩
 exact codeAny_compStart_list loop (U.self _ 0 _ _ _ E loop)
def Lp(hc:X.calm=true)(T V:List Str)(ix:List Nat)(hi:PI X tg iter wi)
 (hg:∀cl C s3 O fp,PG (blk X (T++V) scope cl C s3 O fp) tg g) (ht:∀cl C s3 O fp,PTs (blk X (T++V) scope cl C s3 O fp) ifs tt) (he:∀cl C s3 O fp,PE (blk X (T++V) scope cl C s3 O fp) elt te)
 (hB:yZ X.N X.env.scope.names scope.names V ix=true:=by rfl) (hk:scope.kind = .function:=by rfl) (J:∀y∈scope.names,y.2 ≠ .cell:=by decide +kernel)
 (B:∀x∈scope.names,x.2 = .local->scope.names.lookup x.1=some .local:=by decide +kernel)
 (Y:∀x∈scope.names,x.2 = .free->x.1∈V:=by decide +kernel) (hs:∀x,foldedSetIterable iter X.env x=pure x:=by intro _;rfl) :
 PE X (.ListComp elt [⟨tg,iter,ifs,0⟩] scope pos) (Hl wi g tt te T.length (vD T.length ix)):=by
 intro pins s σ H Q I h;rw[eval_ListComp];refine Dq (use:=none) hc hi hg ht he hB hk J B Y hs I h λD C H' s' m L M hn q=>⟨m,hn,λh' R=>⟨.ref D,H',?_,rfl,q⟩⟩
 obtain⟨S,z1,z2,U,W,Z⟩:=M;exact L.turned (t':=s'.toks) (λb o P e=>R.extBut b o P e) S z1 U W Z
def Vq (hN:X.N.Nodup) (hi':X.N[i]? = some x) (hx:X.env.scope.names.lookup x=some .local) (hc:X.calm=true) (T V:List Str) (ix:List Nat) (hi:PI X tg iter wi)
 (hg:∀cl C s3 O fp,PG (blk X (T++V) scope cl C s3 O fp) tg g) (ht:∀cl C s3 O fp,PTs (blk X (T++V) scope cl C s3 O fp) ifs tt) (he:∀cl C s3 O fp,PE (blk X (T++V) scope cl C s3 O fp) elt te)
 (hsw:swapsWith (.ListComp elt [⟨tg,iter,ifs,0⟩] scope pos) (some (.Name x c)) spos.line X.env=pure true:=by rfl)
 (hB:yZ X.N X.env.scope.names scope.names V ix=true:=by rfl) (hk:scope.kind = .function:=by rfl) (J:∀y∈scope.names,y.2 ≠ .cell:=by decide +kernel)
 (B:∀x∈scope.names,x.2 = .local->scope.names.lookup x.1=some .local:=by decide +kernel)
 (hfr:∀x∈scope.names,x.2 = .free->x.1∈V:=by decide +kernel) (hs:∀x,foldedSetIterable iter X.env x=pure x:=by intro _;rfl) :
 PS X (.Assign [.Name x c] (.ListComp elt [⟨tg,iter,ifs,0⟩] scope pos) spos) (YZ (Hl wi g tt te T.length (vD T.length ix)) (Qh i)):=by
 intro pins s σ H D I h;rw[exec_Assign_Name_used _ _ _ _ hsw];refine aa (da (aa ?_));refine aa (a5 (Dq (use:=some (assign (.Name x c) X.env)) (Qp:=λ_ s'=>SP X pins D .next s') hc hi hg ht he hB hk J B hfr hs I h λF C H' s' m G K hn q=>?_) (λ_ s' M=>ae (ae M)) λ_ _ e=>e);obtain⟨Q,z1,z2,R,U,S⟩:=K;refine wpAny_assign_Name (Dh G hN hi' (.inl hx) (v:=.ref F) rfl (λY W ⟨a,P,ha⟩=>⟨m,hn.sameBut P ?_,λh' Z=>⟨_,H',?_,q⟩⟩) (.inr hx))
 .rcases ha with ha|ha
  .rwa[ha]
  .exact e9 (U x a ha)
 .exact W.turned (t':=Y.toks) (λb o L e=>Z.extBut b o L e) Q z1 R U S
end
section
end
end My
namespace D3
def ex2 {A B C:α->β->Prop} {G:Prop} (h:∃a b,A a b/\B a b/\C a b) (k:∀a b,A a b->B a b->C a b->G):G:=h.elim λa h=>h.elim λb z=>k a b z.1 z.2.1 z.2.2
def ex1{α:Type _}{A B:α->Prop}{G:Prop}(h:∃a,A a/\B a)(k:∀a,A a->B a->G):G:=h.elim λa z=>k a z.1 z.2
def ex4{α β J D:Type _}{A B C:α->β->J->D->Prop}{G:Prop}(h:∃a b c d,A a b c d/\B a b c d/\C a b c d)(k:∀a b c d,A a b c d->B a b c d->C a b c d->G):G:=h.elim λa h=>h.elim λb h=>h.elim λc h=>h.elim λd z=>k a b c d z.1 z.2.1 z.2.2
abbrev D:=PyData
inductive U where
 |d (x:D)
 |x (c f:Str) (v:D)
noncomputable abbrev DS:=List (Option U)
inductive Oc where
 |nx (δ:DS)
 |rt (d:D)
 |bk (δ:DS)
 |ct (δ:DS)
 |ex (c f:Str) (v:D)
abbrev FE:=DS->Option D
abbrev FA:=DS->Option (List D)
abbrev FT:=DS->Option Bool
abbrev FS:=DS->Option Oc
abbrev FG:=D->DS->Option DS
mutual
def flat:D->Bool
 | .none=>true
 | .bool _=>true
 | .int _=>true
 | .str _=>true
 | .list _=>false
 | .tuple xs=>flats xs
 | .dict _=>false
def flats:List D->Bool
 |[]=>true
 |x::r=>flat x&&flats r
end
mutual
def nl:D->Nat
 | .none=>0
 | .bool _=>0
 | .int _=>0
 | .str _=>0
 | .list xs=>nls xs+1
 | .tuple xs=>nls xs
 | .dict _=>1
def nls:List D->Nat
 |[]=>0
 |x::r=>nl x+nls r
end
def fl1:D->Bool
 | .list xs=>flats xs
 |d=>flat d
noncomputable def aj(i:Nat):FE:=λδ=>match δ[i]? with
 |some (some (.d x))=>some x
 |_=>none
def dC(d:D):FE:=λ_=>some d
def dOp(g:D->D->Option D)(fa fb:FE):FE:=λδ=>(fa δ).bind λx=>(fb δ).bind λy=>g x y
def dUn(g:D->Option D)(fa:FE):FE:=λδ=>(fa δ).bind g
def aM:FA:=λ_=>some []
def ak(fa:FE)(fr:FA):FA:=λδ=>(fa δ).bind λx=>(fr δ).bind λr=>some (x::r)
def dTup(fa:FA):FE:=λδ=>(fa δ).bind λl=>if l.length<=sizeLine then some (.tuple l)else none
def gO(fa:FA):FE:=λδ=>(fa δ).bind λl=>if l.length<=sizeLine then some (.list l)else none
def dCall(F:List D->Option D)(fa:FA):FE:=λδ=>(fa δ).bind F
def iZ(fa:FE):FE:=λδ=>(fa δ).bind λd=>if flat d=true then some d else none
def dN1(fa:FE):FE:=λδ=>(fa δ).bind λd=>if decide (nl d<=1)=true then some d else none
def Ol(fa:FE):FE:=λδ=>(fa δ).bind λd=>if fl1 d=true then some d else none
def xU(fa fb:FE):FE:=λδ=>(fa δ).bind λx=>match x with
 | .bool true=>fb δ
 | .bool false=>some (.bool false)
 |_=>none
def dOr(fa fb:FE):FE:=λδ=>(fa δ).bind λx=>match x with
 | .bool true=>some (.bool true)
 | .bool false=>fb δ
 |_=>none
def Vr(fa:FE):FE:=λδ=>(fa δ).bind λx=>match x with
 | .bool b=>some (.bool (!b))
 |_=>none
def dIf(c:FT)(fa fb:FE):FE:=λδ=>(c δ).bind λb=>if b=true then fa δ else fb δ
def bF(fa:FE):FT:=λδ=>(fa δ).bind λx=>match x with
 | .bool b=>some b
 |_=>none
def G3(a b:FT):FT:=λδ=>(a δ).bind λx=>if x=true then b δ else some false
def tOr(a b:FT):FT:=λδ=>(a δ).bind λx=>if x=true then some true else b δ
def iY(a:FT):FT:=λδ=>(a δ).map λx=>!x
def cZ:FS:=λδ=>some (.nx δ)
def bM(a b:FS):FS:=λδ=>(a δ).bind λo=>match o with
 | .nx δ'=>b δ'
 |o=>some o
noncomputable def ag6(i:Nat)(B:FE):FS:=λδ=>(B δ).bind λd=>some (.nx (δ.set i (some (.d d))))
def sIf(c:FT)(a b:FS):FS:=λδ=>(c δ).bind λt=>if t=true then a δ else b δ
def dj(B:FE):FS:=λδ=>(B δ).bind λd=>some (.rt d)
def ag7:FS:=λ_=>some (.rt .none)
def Lq(B:FE):FS:=λδ=>(B δ).bind λ_=>some (.nx δ)
def sBk:FS:=λδ=>some (.bk δ)
def sCt:FS:=λδ=>some (.ct δ)
def gN(i:Nat):FG:=λd δ=>some (δ.set i (some (.d d)))
def jH:List D->DS->Option DS:=λl δ=>match l with
 |[]=>some δ
 |_=>none
noncomputable def cM(g:FG)(r:List D->DS->Option DS):List D->DS->Option DS:=λl δ=>match l with
 |d::Z=>(g d δ).bind λδ'=>r Z δ'
 |[]=>none
def J5(B:FE)(g:FG):FS:=λδ=>(B δ).bind λd=>(g d δ).bind λδ'=>some (.nx δ')
noncomputable def iH(g:FG)(b:FS):List D->DS->Option Oc
 |[],δ=>some (.nx δ)
 |d::r,δ=>(g d δ).bind λZ=>(b Z).bind λo=>match o with
  | .nx δ'=>iH g b r δ'
  | .ct δ'=>iH g b r δ'
  | .bk δ'=>some (.nx δ')
  | .rt v=>some (.rt v)
  | .ex c f v=>some (.ex c f v)
def mC(fi:FA)(g:FG)(b:FS):FS:=λδ=>(fi δ).bind λl=>iH g b l δ
open Classical in
noncomputable def fnD(p q:Nat)(b:FS):List D->Option D:=λds=>if ds.length=p then match b (ds.map (λd=>some (.d d))++aO q none)with
 |some (.rt d)=>some d
 |some (.nx _)=>some .none
 |_=>none
 else none
def lN(t:Nat)(ix:List Nat)(δ:DS):DS:=aO t none++ix.map λj=>(δ[j]?).getD none
noncomputable def jU(g:FG)(c:FT)(e:FE)(δ:DS):List D->Option (List D)
 |[]=>some []
 |d::r=>(g d δ).bind λZ=>(c Z).bind λb=>if b=true then(e Z).bind λx=>(jU g c e δ r).bind λl=>some (x::l)else jU g c e δ r
def mO(fi:FA)(g:FG)(c:FT)(e:FE)(t:Nat)(ix:List Nat):FE:=λδ=>(fi δ).bind λl=>if l.length<=100000 then(jU g c e (lN t ix δ) l).bind λr=>some (.list r)else none
def lu:FT:=λ_=>some true
noncomputable def gI(g:Int->Int->Option D):D->D->Option D:=λx y=>match x,y with
 | .int i,.int j=>g i j
 |_,_=>none
noncomputable def pIx(n:Nat)(i:Int):Option Nat:=if 0<=i then(if i<n then some i.toNat else none)else if -(n:Int)<=i then some (i+n).toNat else none
def pAt(xs:List D)(i:Int):Option D:=(pIx xs.length i).bind λj=>xs[j]?
def isT(c T:String):Bool:=T==c||(T=="bool"&&c=="int")
def bN(i:Nat)(B:FE):FS:=λδ=>if i<δ.length then ag6 i B δ else none
def eV:D->D->Option D:=gI λi j=>some (.int (i+j))
def xP:D->D->Option D:=gI λi j=>some (.int (i-j))
def Aj(i j:Int):Bool:=decide (i.natAbs<2^64)||decide (j.natAbs<2^64)||(decide (i.natAbs<2^30000)&&decide (j.natAbs<2^30000))
def uT:D->D->Option D:=gI λi j=>if Aj i j=true then some (.int (i*j))else none
def J6(_ j:Int):Bool:=decide (j≠0)&&decide (j.natAbs<2^9000)
def Ho:D->D->Option D:=gI λi j=>if J6 i j=true then some (.int (i.fdiv j))else none
def vG:D->D->Option D:=gI λi j=>if decide (j≠0)=true then some (.int (i.fmod j))else none
def Zf(i j:Int):Bool:=decide (0<=j)&&decide (j<=1000)&&decide (i.natAbs<2^64)
def Zg:D->D->Option D:=gI λi j=>if Zf i j=true then some (.int (i^j.toNat))else none
def gLt:D->D->Option D:=gI λi j=>some (.bool (decide (i<j)))
def gLe:D->D->Option D:=gI λi j=>some (.bool (decide (i<=j)))
def gGt:D->D->Option D:=gI λi j=>some (.bool (decide (j<i)))
def gGe:D->D->Option D:=gI λi j=>some (.bool (decide (j<=i)))
def gEq:D->D->Option D:=λx y=>if(fq x&&fq y)=true then some (.bool (f7 x y))else none
def gNe:D->D->Option D:=λx y=>if(fq x&&fq y)=true then some (.bool (!PyData.eqv x y))else none
def gNl(i:Nat):FG:=λd δ=>if i<δ.length then gN i d δ else none
def gTn(n:Nat)(g:List D->DS->Option DS):FG:=λd δ=>match d with
 | .tuple l=>if l.length=n then g l δ else none
 |_=>none
def zc(i:Nat)(f:FE):FS:=λδ=>(aj i δ).bind λx=>(f δ).bind λd=>match x with
 | .list l=>if l.length<1000000 then some (.nx (δ.set i (some (.d (.list (l++[d]))))))else none
 |_=>none
def Hq(i:Nat)(fk f:FE):FS:=λδ=>(f δ).bind λd=>(aj i δ).bind λx=>(fk δ).bind λk=>match x,k with
 | .list l,.int j=>(pIx l.length j).bind λn=>some (.nx (δ.set i (some (.d (.list (l.set n d))))))
 |_,_=>none
def putAt(x:D)(n:Nat)(d:D):D:=match x with
 | .list l=>.list (l.set n d)
 | .tuple l=>.tuple (l.set n d)
 |x=>x
noncomputable def asList:D->Option (List D)
 | .list l=>some l
 |_=>none
def xV(f:FE):FA:=λδ=>(f δ).bind asList
noncomputable def iu(lo hi:Int):List D:=(aN (hi-lo).toNat).map λ(k:Nat)=>.int (lo+(k:Int))
def xW(i:Int):Bool:=decide (-(2^62)<=i)&&decide (i<2^62)
def oM(fa:FA):FA:=λδ=>(fa δ).bind λl=>match l with
 |[.int j]=>if xW j=true then some (iu 0 j)else none
 |_=>none
def Dr(fa:FA):FA:=λδ=>(fa δ).bind λl=>match l with
 |[.int i,.int j]=>if(xW i&&xW j)=true then some (iu i j)else none
 |_=>none
def gIx:D->D->Option D:=λx y=>match x,y with
 | .list l,.int i=>pAt l i
 | .tuple l,.int i=>pAt l i
 |_,_=>none
noncomputable def lO(g g':D->D->Option D)(fa fb fc:FE):FE:=λδ=>(fa δ).bind λx=>(fb δ).bind λy=>(g x y).bind λz=>match z with
 | .bool true=>(fc δ).bind λw=>g' y w
 | .bool false=>some (.bool false)
 |_=>none
noncomputable def zF(g g' B:D->D->Option D)(fa fb fc fd:FE):FE:=λδ=>(fa δ).bind λx=>(fb δ).bind λy=>(g x y).bind λz=>match z with
 | .bool true=>(fc δ).bind λw=>(g' y w).bind λZ=>match Z with
  | .bool true=>(fd δ).bind λu=>B w u
  | .bool false=>some (.bool false)
  |_=>none
 | .bool false=>some (.bool false)
 |_=>none
noncomputable def isNone:D->Bool
 | .none=>true
 |_=>false
def Ez:D->Option D:=λx=>some (.bool (isNone x))
def QC:D->Option D:=λx=>some (.bool (!isNone x))
def iQ:List D->Option D
 |[.list l]=>some (.int l.length)
 |[.tuple l]=>some (.int l.length)
 |_=>none
noncomputable def dH:List D->Option (List Int)
 |[]=>some []
 | .int i::r=>(dH r).map (i :: ·)
 |_=>none
noncomputable def mxI(i:Int)(r:List Int):Int:=r.foldl (λa b=>if a<b then b else a) i
def Ak:List D->Option D
 |[.list l]=>match dH l with
  |some (i::r)=>some (.int (mxI i r))
  |_=>none
 |_=>none
noncomputable def insI(x:Int):List Int->List Int
 |[]=>[x]
 |y::r=>if x<=y then x::y::r else y::insI x r
def EY:List Int->List Int
 |[]=>[]
 |x::r=>insI x (EY r)
def QD:List D->Option D
 |[.list l]=>(dH l).bind λns=>if ns.length<64 then some (.list ((EY ns).map .int))else none
 |_=>none
def uU:List D->Option D
 |[.int i]=>some (.int i)
 |[.bool b]=>some (.int (if b then 1 else 0))
 |_=>none
def ar5:List D->Option D
 |[.int i]=>some (.int (if i<0 then -i else i))
 |_=>none
def ag8:List D->Option D
 |[.int i,.int j]=>some (.int (if j>i then j else i))
 |_=>none
def ag9:List D->Option D
 |[.int i,.int j]=>some (.int (if j<i then j else i))
 |_=>none
noncomputable def tyD:D->String
 | .none => "NoneType"
 | .bool _ => "bool"
 | .int _ => "int"
 | .str _ => "str"
 | .list _ => "list"
 | .tuple _ => "tuple"
 | .dict _ => "dict"
def gIs(c:String):D->Option D:=λd=>some (.bool (isT c (tyD d)))
def Al:D->Option D
 | .int i=>some (.int (-i))
 |_=>none
noncomputable def tL:D->D->Option D:=λx y=>match x,y with
 | .list l,.list m=>if l.length+m.length<=1000000 then some (.list (l++m))else none
 |_,_=>none
noncomputable def oY:D->D->Option D:=λx y=>match x,y with
 | .list l,.int k=>if l.length*k.toNat<=1000000/\-(2^63)<=k/\k<2^63 then some (.list (aO k.toNat l).flatten)else none
 |_,_=>none
def yK:D->Option D
 | .list l=>some (.list l)
 | .tuple l=>some (.list l)
 |_=>none
abbrev FO:=DS->Option (Option Int)
def n8:FO:=λ_=>some none
def fD(f:FE):FO:=λδ=>(f δ).bind λx=>match x with
 | .int i=>some (some i)
 |_=>none
noncomputable def pSx(n d:Nat):Option Int->Nat
 |none=>d
 |some i=>if i<0 then(i+n).toNat else min i.toNat n
def cuD(xs:List D)(lo hi:Option Int):List D:=(xs.drop (pSx xs.length 0 lo)).take (pSx xs.length xs.length hi-pSx xs.length 0 lo)
def dSl(f:FE)(lo hi:FO):FE:=λδ=>(f δ).bind λx=>(lo δ).bind λa=>(hi δ).bind λb=>match x with
 | .list l=>some (.list (cuD l a b))
 |_=>none
noncomputable def ar6(i j:Nat)(fa:FA):FS:=λδ=>(fa δ).bind λl=>match l with
 |[x,y]=>if i<δ.length/\j<δ.length then some (.nx ((δ.set i (some (.d x))).set j (some (.d y))))else none
 |_=>none
noncomputable def tE(l:List D):List D:=l.mapIdx λi x=>.tuple [.int (i:Int),x]
def QF(f:FE):FA:=λδ=>(f δ).bind λd=>match d with
 | .list l=>some (tE l)
 |_=>none
noncomputable def jE:List D->Option (List Bool)
 |[]=>some []
 | .bool b::r=>(jE r).map (b :: ·)
 |_=>none
def Am:List D->Option D
 |[.list l]=>(jE l).map λbs=>.bool (bs.all id)
 |_=>none
noncomputable def jV:List D->List D->List D
 |x::r,y::s=>.tuple [x,y]::jV r s
 |_,_=>[]
def Vs(f g:FE):FA:=λδ=>(f δ).bind λd=>(g δ).bind λe=>match d,e with
 | .list l,.list m=>some (jV l m)
 |_,_=>none
def Vt(f:FE):FA:=λδ=>(f δ).bind λd=>match d with
 | .list l=>some l.reverse
 |_=>none
def Zh:D->Option D
 | .bool b=>some (.bool b)
 |_=>none
theorem v9:∀(r:List Int)(i:Int),mxI i r∈i::r/\∀a∈i::r,a<=mxI i r
 |[],i=>⟨ao,λa h=>by rw[aL.mp h];exact gw _⟩
 |b::r,i=>by
  have Z:=v9 r (if i<b then b else i);have e:mxI i (b::r)=mxI (if i<b then b else i) r:=rfl;rw[e]
  constructor
  .rcases aJ.mp Z.1 with z|z
   .rw[z];split<;>simp
   .exact au _ (au _ z)
  .intro a h;have X:=Z.2 _ ao;have Y:i<=(if i<b then b else i)/\b<=(if i<b then b else i):=by split<;>lia
   rcases aJ.mp h with rfl|h
   .exact j_ Y.1 X
   .rcases aJ.mp h with rfl|h
    .exact j_ Y.2 X
    .exact Z.2 a (au _ h)
theorem insI_perm(x:Int):∀l,(insI x l).Perm (x::l)
 |[]=>.refl _
 |y::r=>by
  unfold insI;split
  .exact .refl _
  .exact((insI_perm x r).cons y).trans (.swap x y r)
theorem rF:∀l,(EY l).Perm l
 |[]=>.refl _
 |x::r=>(insI_perm x _).trans ((rF r).cons x)
theorem yL(x:Int):∀l,l.Pairwise (· <= ·)->(insI x l).Pairwise (· <= ·)
 |[],_=>by simp[insI]
 |y::r,h=>by
  obtain⟨h1,h2⟩:=bI.mp h;unfold insI;split
  .next c=>
   refine bI.mpr ⟨λa ha=>?_,h⟩;rcases aJ.mp ha with rfl|z
   .exact c
   .exact j_ c (h1 a z)
  .next c=>
   refine bI.mpr ⟨λa ha=>?_,yL x r h2⟩;rcases aJ.mp ((insI_perm x r).mem_iff.mp ha)with rfl|z
   .lia
   .exact h1 a z
theorem tX:∀l,(EY l).Pairwise (· <= ·)
 |[]=>.nil
 |x::r=>yL x _ (tX r)
end D3
variable{δ:D3.DS}{fa:D3.FA}{fb fc fk:D3.FE}{ft gt:D3.FT}
variable{d y:D3.D}{b pl:Bool}{δ:D3.DS}{L:List Nat}
namespace D3
open L2 My
abbrev Ok:=Addr->Prop
abbrev St:=L2.St
class Chg (u:HO):Prop where
 ch:(∃xs,u = .lst xs)\/(∃kvs,u = .dK kvs)\/∃kvs,u = .dT kvs
instance (xs:List V):Chg (.lst xs):=⟨.inl ⟨xs,rfl⟩⟩
instance (kvs:List (Key×V)):Chg (.dK kvs):=⟨.inr (.inl ⟨kvs,rfl⟩)⟩
instance (kvs:List (List Key×V)):Chg (.dT kvs):=⟨.inr (.inr ⟨kvs,rfl⟩)⟩
def Chg.frz{u:HO}(h:Chg (.frz o u)):False:=by
 rcases h.ch with⟨_,z⟩|⟨_,z⟩|⟨_,z⟩<;>cases z
def Chg.tup{xs:List V}(h:Chg (.tup xs)):False:=by
 rcases h.ch with⟨_,z⟩|⟨_,z⟩|⟨_,z⟩<;>cases z
def Chd(o:Option HO):Prop:=∃u,o=some u/\Chg u
def Chd.ne (h:Chd c):c≠none:=by
 obtain⟨u,rfl,_⟩:=h;simp
def SqK(K:PySem.W.Frag)(H:Hp)(a:Addr)(xs:List V):Prop:=(∃o,H a=some (.frz o (.lst xs))) \/
 ∃(o:Obj)(its:Array Value)(n:Nat),K.lookup a=some o/\o.cls = .type "list"/\o.dict=none/\o.data = .seq its n/\its.size<=sizeLine/\Vals xs its.toList
def SqK.sq(h:SqK K H a xs):SqL K H a xs:=by
 rcases h with⟨o,h⟩|h
 .exact .inl (.inr ⟨o,h⟩)
 .exact .inr h
def iI(H:Hp)(a:Addr)(xs:List V):Prop:=H a=some (.tup xs)
def iI.sq(h:iI H a xs):SqT K H a xs:=.inl (.inl h)
def iI.same(e:Same H H')(h:iI H a xs):iI H' a xs:=e _ _ h
def iI.upd {o:HO}[B:Chg g] (h:H a=some g) (q:iI H c xs):iI (upd H a o) c xs:=by
 unfold iI;rwa[bG (jf q h (by intro z;subst z;exact B.tup))]
noncomputable def dk0:List (D×D)->List (Key×V)
 |[]=>[]
 | (.int i,.int j)::r=>(.inl i,.int j)::dk0 r
 | (.int i,.bool true)::r=>(.inl i,.bl true)::dk0 r
 |_::r=>(.inl 0,.non)::dk0 r
noncomputable def tkK:List D->Option (List Key)
 |[]=>some []
 | .int i::r=>(tkK r).map (.inl i :: ·)
 |_=>none
def tkD:List (D×D)->Option (List (List Key×V))
 |[]=>some []
 | (.tuple l,.bool true)::r=>(tkK l).bind λk=>(tkD r).map ((k,.bl true) :: ·)
 |_=>none
def dh0(kvs:List (D×D)):HO:=match kvs with
 |[]=>.dK []
 |q::r=>match tkD (q::r)with
  |some ts=>.dT ts
  |none=>.dK (dk0 (q::r))
theorem QG(kvs:List (D×D)):(∃ks,dh0 kvs = .dK ks)\/∃ks,dh0 kvs = .dT ks:=by
 cases kvs with
 |nil=>exact .inl ⟨_,rfl⟩
 |cons q r=>
  unfold dh0;dsimp only;split
  .exact .inr ⟨_,rfl⟩
  .exact .inl ⟨_,rfl⟩
instance (kvs:List (D×D)):Chg (dh0 kvs):=⟨by
 rcases QG kvs with⟨ks,z⟩|⟨ks,z⟩
 .exact .inr (.inl ⟨ks,z⟩)
 .exact .inr (.inr ⟨ks,z⟩)⟩
def scV:D->V
 | .int i=>.int i
 |_=>.non
def scs:List D->Bool
 |[]=>true
 | .int _::r=>scs r
 | .none::r=>scs r
 |_=>false
def TV(H:Hp)(v:V)(d:D):Prop:=(v = .non/\d = .none)\/∃b ds,v = .ref b/\d = .tuple ds/\iI H b (ds.map scV)/\scs ds=true
inductive TVs(H:Hp):List (Key×V)->List (D×D)->Prop
 |nil:TVs H [] []
 |cons {i:Int} {v:V} {d:D} {r:List (Key×V)} {r':List (D×D)}:TV H v d->TVs H r r'->TVs H ((.inl i,v)::r) ((.int i,d)::r')
def TV.imp(h:∀b xs,iI H b xs->iI H' b xs) {v:V}(q:TV H v c):TV H' v c:=by
 rcases q with q|⟨b,ds,h1,h2,Y,Z⟩
 .exact .inl q
 .exact .inr ⟨b,ds,h1,h2,h _ _ Y,Z⟩
theorem TVs.imp(h:∀b xs,iI H b xs->iI H' b xs) (q:TVs H ks kvs):TVs H' ks kvs:=by
 induction q with
 |nil=>exact .nil
 |cons t _ Z=>exact .cons (t.imp h) Z
def J7:List (D×D)->Bool
 |[]=>true
 | (_,.int _)::r=>J7 r
 | (_,.bool _)::r=>J7 r
 |_=>false
def TW(H:Hp)(v:V)(m:List Int)(z:Int):Prop:=∃b c,v = .ref b/\iI H b [.ref c,.int z]/\iI H c (m.map V.int)
inductive TTs(H:Hp):List (List Key×V)->List (D×D)->Prop
 |nil:TTs H [] []
 |cons {k m:List Int} {z:Int} {v:V} {r:List (List Key×V)} {r':List (D×D)}:TW H v m z->TTs H r r'->TTs H ((k.map fe,v)::r) ((.tuple (k.map .int),.tuple [.tuple (m.map .int),.int z])::r')
theorem TTs.imp(h:∀b xs,iI H b xs->iI H' b xs) (q:TTs H ks kvs):TTs H' ks kvs:=by
 induction q with
 |nil=>exact .nil
 |cons t _ Z=>
  obtain⟨b,c,h1,h2,Y⟩:=t;exact .cons ⟨b,c,h1,h _ _ h2,h _ _ Y⟩ Z
def DH(H:Hp)(u:HO)(kvs:List (D×D)):Prop:=(J7 kvs=true/\u=dh0 kvs)\/(∃ks,u = .dK ks/\TVs H ks kvs)\/∃q ks,u = .dT (q::ks)/\TTs H (q::ks) kvs
def DH.imp(h:∀b xs,iI H b xs->iI H' b xs) (q:DH H c kvs):DH H' c kvs:=by
 rcases q with q|⟨ks,q1,q2⟩|⟨k,ks,q1,q2⟩
 .exact .inl q
 .exact .inr (.inl ⟨ks,q1,q2.imp h⟩)
 .exact .inr (.inr ⟨k,ks,q1,q2.imp h⟩)
def DH.same{u:HO}{kvs:List (D×D)}(q:DH H u kvs)(e:Same H H'):DH H' u kvs:=q.imp λ_ _ h=>iI.same e h
def DH.upd {o:HO}[J:Chg c] (q:DH H B kvs) (h:H a=some c):DH (upd H a o) B kvs:=q.imp λ_ _ z=>iI.upd h z
def DH.or (q:DH H c kvs):(∃ks,c = .dK ks)\/∃ks,c = .dT ks:=by
 rcases q with⟨_,rfl⟩|⟨ks,rfl,_⟩|⟨k,ks,rfl,_⟩
 .exact QG kvs
 .exact .inl ⟨ks,rfl⟩
 .exact .inr ⟨_,rfl⟩
def DH.chg (q:DH H c kvs):Chg c:=⟨.inr q.or⟩
def DH.old (q:DH H c kvs) (h:J7 kvs=true):c=dh0 kvs:=by
 rcases q with q|⟨ks,rfl,q⟩|⟨k,ks,rfl,q⟩
 .exact q.2
 .cases q with
  |nil=>rfl
  |cons t _=>
   rcases t with⟨_,rfl⟩|⟨_,_,_,rfl,_,_⟩<;>cases h
 .cases q with
  |cons _ _=>cases h
mutual
inductive RA(K:PySem.W.Frag)(ok:Ok)(pl:Bool)(H:Hp):V->D->Prop
 |non:RA K ok pl H .non .none
 |bl (b:Bool):RA K ok pl H (.bl b) (.bool b)
 |int (i:Int):RA K ok pl H (.int i) (.int i)
 |str (x:Str):RA K ok pl H (.str x) (.str x)
 |lst {a:Addr} {xs:List V} {ds:List D}:H a=some (.lst xs)->ok a->RAs K ok pl H xs ds->RA K ok pl H (.ref a) (.list ds)
 |lsk {a:Addr} {xs:List V} {ds:List D}:SqK K H a xs->pl=true->RAs K ok pl H xs ds->RA K ok pl H (.ref a) (.list ds)
 |tup {a:Addr} {xs:List V} {ds:List D}:iI H a xs->RAs K ok pl H xs ds->RA K ok pl H (.ref a) (.tuple ds)
 |dic {a:Addr} {u:HO} {kvs:List (D×D)}:H a=some u->DH H u kvs->ok a->RA K ok pl H (.ref a) (.dict kvs)
 |dik {a:Addr} {u:HO} {kvs:List (D×D)} {o:Obj}:H a=some (.frz o u)->DH H u kvs->pl=true->RA K ok pl H (.ref a) (.dict kvs)
inductive RAs(K:PySem.W.Frag)(ok:Ok)(pl:Bool)(H:Hp):List V->List D->Prop
 |nil:RAs K ok pl H [] []
 |cons {v:V} {d:D} {vs:List V} {ds:List D}:RA K ok pl H v d->RAs K ok pl H vs ds->RAs K ok pl H (v::vs) (d::ds)
end
section
variable{ok ok':Ok}{pl':Bool}{H H':Hp}
def RA.ind{P:V->D->Prop}{Q:List V->List D->Prop}(c1:P .non .none)(c2:∀b,P (.bl b) (.bool b))(c3:∀i,P (.int i) (.int i))(c4:∀x,P (.str x) (.str x))
 (c5:∀{a:Addr}{xs:List V}{ds:List D},H a=some (.lst xs)->ok a->Q xs ds->P (.ref a) (.list ds)) (c6:∀{a:Addr}{xs:List V}{ds:List D},SqK K H a xs->pl=true->Q xs ds->P (.ref a) (.list ds)) (Z:∀{a:Addr}{xs:List V}{ds:List D},iI H a xs->Q xs ds->P (.ref a) (.tuple ds))
 (Y:∀{a:Addr}{u:HO}{kvs:List (D×D)},H a=some u->DH H u kvs->ok a->P (.ref a) (.dict kvs)) (O:∀{a:Addr}{u:HO}{kvs:List (D×D)}{o:Obj},H a=some (.frz o u)->DH H u kvs->pl=true->P (.ref a) (.dict kvs)) (J:Q [] []) (B:∀{v:V}{d:D}{vs:List V}{ds:List D},P v d->Q vs ds->Q (v::vs) (d::ds)) :
 (∀{v:V}{d:D},RA K ok pl H v d->P v d)/\∀{v:List V}{d:List D},RAs K ok pl H v d->Q v d:=
 ⟨λh=>RA.rec (motive_1:=λv d _=>P v d) (motive_2:=λv d _=>Q v d) c1 c2 c3 c4 (λh o _ q=>c5 h o q) (λh o _ q=>c6 h o q) (λh _ q=>Z h q) (λh g o=>Y h g o) (λh g o=>O h g o) J (λ_ _ a q=>B a q) h,
  λh=>RAs.rec (motive_1:=λv d _=>P v d) (motive_2:=λv d _=>Q v d) c1 c2 c3 c4 (λh o _ q=>c5 h o q) (λh o _ q=>c6 h o q) (λh _ q=>Z h q) (λh g o=>Y h g o) (λh g o=>O h g o) J (λ_ _ a q=>B a q) h⟩
def RA.imp2(J:∀a,ok a->ok' a)(B:pl=true->pl'=true):(∀{v:V}{d:D},RA K ok pl H v d->RA K ok' pl' H v d)/\∀{v:List V}{d:List D},RAs K ok pl H v d->RAs K ok' pl' H v d:=
 RA.ind .non .bl .int .str (λh o q=>.lst h (J _ o) q) (λh o q=>.lsk h (B o) q) (λh q=>.tup h q) (λh g o=>.dic h g (J _ o)) (λh g o=>.dik h g (B o)) .nil .cons
def RA.imp(J:∀a,ok a->ok' a)(B:pl=true->pl'=true){v:V}{d:D}(h:RA K ok pl H v d):RA K ok' pl' H v d:=(RA.imp2 J B).1 h
def RAs.imp(J:∀a,ok a->ok' a)(B:pl=true->pl'=true) {v:List V}(h:RAs K ok pl H v c):RAs K ok' pl' H v c:=(RA.imp2 J B).2 h
def SqK.same(e:Same H H')(h:SqK K H a xs):SqK K H' a xs:=by
 rcases h with⟨o,h⟩|h
 .exact .inl ⟨o,e _ _ h⟩
 .exact .inr h
def RA.same2(e:Same H H'):(∀{v:V}{d:D},RA K ok pl H v d->RA K ok pl H' v d)/\∀{v:List V}{d:List D},RAs K ok pl H v d->RAs K ok pl H' v d:=
 RA.ind .non .bl .int .str (λh o q=>.lst (e _ _ h) o q) (λh o q=>.lsk (h.same e) o q) (λh q=>.tup (iI.same e h) q) (λh g o=>.dic (e _ _ h) (g.same e) o) (λh g o=>.dik (e _ _ h) (g.same e) o) .nil .cons
def RA.same(e:Same H H') (h:RA K ok pl H c g):RA K ok pl H' c g:=(RA.same2 e).1 h
def RAs.same(e:Same H H') (h:RAs K ok pl H c g):RAs K ok pl H' c g:=(RA.same2 e).2 h
def RA.flat2:(∀{v:V}{d:D},RA K ok pl H v d->flat d=true->RA K ok' pl' H v d)/\∀{v:List V}{d:List D},RAs K ok pl H v d->flats d=true->RAs K ok' pl' H v d:=
 RA.ind (λ_=>.non) (λb _=>.bl b) (λi _=>.int i) (λx _=>.str x) (λ_ _ _ h=>by simp[D3.flat]at h) (λ_ _ _ h=>by simp[D3.flat]at h) (λt q h=>.tup t (q (by simpa[D3.flat]using h))) (λ_ _ _ h=>by simp[D3.flat]at h) (λ_ _ _ h=>by simp[D3.flat]at h) (λ_=>.nil) λa q h=>by
  rw[flats,aK]at h;exact .cons (a h.1) (q h.2)
def RA.flat(B:flat d=true)(h:RA K ok pl H v d):RA K ok' pl' H v d:=RA.flat2.1 h B
def RAs.flat (B:flats g=true) (h:RAs K ok pl H c g):RAs K ok' pl' H c g:=RA.flat2.2 h B
def SqK.upd {o:HO}[B:Chg g] (h:H a=some g) (q:SqK K H c xs):SqK K (upd H a o) c xs:=by
 rcases q with⟨o',q⟩|q
 .refine .inl ⟨o',?_⟩;rwa[bG (jf q h (by intro z;subst z;first|exact B.frz|exact B.tup))]
 .exact .inr q
def RA.upd2 [B:Chg c] (h:H a=some c) (na:¬ok a):(∀{v:V}{d:D},RA K ok pl H v d->RA K ok pl (upd H a l) v d)/\∀{v:List V}{d:List D},RAs K ok pl H v d->RAs K ok pl (upd H a l) v d:=
 RA.ind .non .bl .int .str (λe k q=>.lst (by rwa[bG (by intro z;subst z;exact na k)]) k q) (λe k q=>.lsk (e.upd h) k q) (λe q=>.tup (iI.upd h e) q) (λe g k=>.dic (by rwa[bG (by intro z;subst z;exact na k)]) (g.upd h) k) (λe g k=>.dik (by rwa[bG (jf e h (by intro z;subst z;exact B.frz))]) (g.upd h) k) .nil .cons
def RA.upd {o:HO}[B:Chg c] (h:H a=some c) (na:¬ok a) (r:RA K ok pl H g k):RA K ok pl (upd H a o) g k:=(RA.upd2 h na).1 r
def RAs.upd {o:HO}[B:Chg c] (h:H a=some c) (na:¬ok a) (r:RAs K ok pl H g k):RAs K ok pl (upd H a o) g k:=(RA.upd2 h na).2 r
def RA.track2:(∀{v:V}{d:D},RA K ok pl H v d->RA K (λb=>ok b/\H b≠none) pl H v d)/\∀{v:List V}{d:List D},RAs K ok pl H v d->RAs K (λb=>ok b/\H b≠none) pl H v d:=
 RA.ind .non .bl .int .str (λe k q=>.lst e ⟨k,by rw[e];simp⟩ q) (λe k q=>.lsk e k q) (λe q=>.tup e q) (λe g k=>.dic e g ⟨k,by rw[e];simp⟩) (λe g k=>.dik e g k) .nil .cons
def RA.track(h:RA K ok pl H v d):RA K (λb=>ok b/\H b≠none) pl H v d:=RA.track2.1 h
def RAs.track (h:RAs K ok pl H c g):RAs K (λb=>ok b/\H b≠none) pl H c g:=RA.track2.2 h
theorem RAs.length:∀{v:List V}{d:List D},RAs K ok pl H v d->v.length=d.length
 |_,_,.nil=>rfl
 |_,_,.cons _ q=>by simp[RAs.length q]
theorem RAs.get:∀{v:List V}{d:List D}{i:Nat}{x:D},RAs K ok pl H v d->d[i]? = some x->∃y,v[i]? = some y/\RA K ok pl H y x
 |_,_,_,_,.nil,h=>by simp at h
 |_,_,0,_,.cons a _,h=>by simp at h;subst h;exact⟨_,rfl,a⟩
 |_,_,i+1,_,.cons _ q,h=>by
  obtain⟨y,e,r⟩:=RAs.get (i:=i) q (by simpa using h);exact⟨y,by simpa using e,r⟩
theorem RAs.append:∀{v B:List V}{d d':List D},RAs K ok pl H v d->RAs K ok pl H B d'->RAs K ok pl H (v++B) (d++d')
 |_,_,_,_,.nil,q=>q
 |_,_,_,_,.cons a r,q=>.cons a (RAs.append r q)
theorem RAs.set (r:RA K ok pl H c y):∀{v:List V}{d:List D}(i:Nat),RAs K ok pl H v d->RAs K ok pl H (v.set i c) (d.set i y)
 |_,_,_,.nil=>.nil
 |_,_,0,.cons _ q=>.cons r q
 |_,_,i+1,.cons a q=>.cons a (RAs.set r i q)
theorem RAs.take:∀{v:List V}{d:List D}(n:Nat),RAs K ok pl H v d->RAs K ok pl H (v.take n) (d.take n)
 |_,_,0,_=>by simp;exact .nil
 |_,_,_+1,.nil=>.nil
 |_,_,n+1,.cons a q=>.cons a (RAs.take n q)
theorem RAs.drop:∀{v:List V}{d:List D}(n:Nat),RAs K ok pl H v d->RAs K ok pl H (v.drop n) (d.drop n)
 |_,_,0,q=>q
 |_,_,_+1,.nil=>.nil
 |_,_,n+1,.cons _ q=>RAs.drop n q
theorem RAs.reverse:∀{v:List V}{d:List D},RAs K ok pl H v d->RAs K ok pl H v.reverse d.reverse
 |_,_,.nil=>.nil
 |_,_,.cons a q=>by
  rw[jQ,jQ];exact(RAs.reverse q).append (.cons a .nil)
def RA.rd2:(∀{v:V}{d:D},RA K ok pl H v d->d.canLay0=true->RdV K H v d)/\∀{v:List V}{d:List D},RAs K ok pl H v d->fN d=true->RdVs K H v d:=
 RA.ind (λ_=>.non) (λb _=>.bl b) (λi _=>.int i) (λx _=>.str x) (λe _ q h=>.lst (SqL.of e) (q (by simpa[eR]using h))) (λe _ q h=>.lst e.sq (q (by simpa[eR]using h))) (λe q h=>.tup e.sq (q (by simpa[eR]using h))) (λ_ _ _ h=>by simp[eR]at h) (λ_ _ _ h=>by simp[eR]at h) (λ_=>.nil) λa q h=>by
  rw[fN,aK]at h;exact .cons (a h.1) (q h.2)
def RA.rd(B:d.canLay0=true)(h:RA K ok pl H v d):RdV K H v d:=RA.rd2.1 h B
def RA.intE (h:RA K ok pl H v (.int c)):v = .int c:=by cases h;rfl
def RA.blE(h:RA K ok pl H v (.bool b)):v = .bl b:=by cases h;rfl
theorem RA.lstE (h:RA K ok pl H v (.list ds)):∃a xs,v = .ref a/\SqL K H a xs/\RAs K ok pl H xs ds:=by
 cases h with
 |lst e k q=>exact⟨_,_,rfl,SqL.of e,q⟩
 |lsk e k q=>exact⟨_,_,rfl,e.sq,q⟩
theorem RA.dicU (h:RA K ok pl H v (.dict kvs)):∃a u,v = .ref a/\L2.Rd H a u/\DH H u kvs:=by
 cases h with
 |dic e g k=>exact⟨_,_,rfl,.inl e,g⟩
 |dik e g k=>exact⟨_,_,rfl,.inr ⟨_,e⟩,g⟩
def RA.dicE (h:RA K ok pl H v (.dict kvs)) (B:J7 kvs=true):∃a,v = .ref a/\L2.Rd H a (dh0 kvs):=by
 obtain⟨a,u,h1,h2,Z⟩:=h.dicU;rw[Z.old B]at h2;exact⟨a,h1,h2⟩
theorem RA.tupE (h:RA K ok pl H v (.tuple ds)):∃a xs,v = .ref a/\SqT K H a xs/\RAs K ok pl H xs ds:=by
 cases h with
 |tup e q=>exact⟨_,_,rfl,e.sq,q⟩
theorem RA.tupE0 (h:RA K ok pl H v (.tuple ds)):∃a xs,v = .ref a/\iI H a xs/\RAs K ok pl H xs ds:=by
 cases h with
 |tup e q=>exact⟨_,_,rfl,e,q⟩
end
inductive Fl where
 |A
 |O
 |L
 |N
 |M
 deriving DecidableEq
def isN:Option Fl->Bool
 |some .N=>true
 |some .M=>true
 |_=>false
mutual
inductive RT(K:PySem.W.Frag)(H:Hp):V->D->List Addr->Prop
 |non:RT K H .non .none []
 |bl (b:Bool):RT K H (.bl b) (.bool b) []
 |int (i:Int):RT K H (.int i) (.int i) []
 |str (x:Str):RT K H (.str x) (.str x) []
 |lst {a:Addr} {xs:List V} {ds:List D} {as:List Addr}:H a=some (.lst xs)->RTs K H xs ds as->RT K H (.ref a) (.list ds) (a::as)
 |tup {a:Addr} {xs:List V} {ds:List D} {as:List Addr}:iI H a xs->RTs K H xs ds as->RT K H (.ref a) (.tuple ds) as
 |dic {a:Addr} {u:HO} {kvs:List (D×D)}:H a=some u->DH H u kvs->RT K H (.ref a) (.dict kvs) [a]
inductive RTs(K:PySem.W.Frag)(H:Hp):List V->List D->List Addr->Prop
 |nil:RTs K H [] [] []
 |cons {v:V} {d:D} {vs:List V} {ds:List D} {as bs:List Addr}:RT K H v d as->RTs K H vs ds bs->RTs K H (v::vs) (d::ds) (as++bs)
end
section
variable{H H':Hp}
def RT.ind{P:V->D->List Addr->Prop}{Q:List V->List D->List Addr->Prop}(c1:P .non .none [])(c2:∀b,P (.bl b) (.bool b) [])(c3:∀i,P (.int i) (.int i) [])(c4:∀x,P (.str x) (.str x) [])
 (Z:∀{a:Addr}{xs:List V}{ds:List D}{as:List Addr},H a=some (.lst xs)->Q xs ds as->P (.ref a) (.list ds) (a::as)) (Y:∀{a:Addr}{xs:List V}{ds:List D}{as:List Addr},iI H a xs->Q xs ds as->P (.ref a) (.tuple ds) as)
 (O:∀{a:Addr}{u:HO}{kvs:List (D×D)},H a=some u->DH H u kvs->P (.ref a) (.dict kvs) [a]) (J:Q [] [] []) (B:∀{v:V}{d:D}{vs:List V}{ds:List D}{as bs:List Addr},P v d as->Q vs ds bs->Q (v::vs) (d::ds) (as++bs)) :
 (∀{v:V}{d:D}{as:List Addr},RT K H v d as->P v d as)/\∀{v:List V}{d:List D}{as:List Addr},RTs K H v d as->Q v d as:=
 ⟨λh=>RT.rec (motive_1:=λv d as _=>P v d as) (motive_2:=λv d as _=>Q v d as) c1 c2 c3 c4 (λh _ q=>Z h q) (λh _ q=>Y h q) (λh g=>O h g) J (λ_ _ a q=>B a q) h,
  λh=>RTs.rec (motive_1:=λv d as _=>P v d as) (motive_2:=λv d as _=>Q v d as) c1 c2 c3 c4 (λh _ q=>Z h q) (λh _ q=>Y h q) (λh g=>O h g) J (λ_ _ a q=>B a q) h⟩
def RT.ra2 : (∀{v:V}{d:D}{as:List Addr},RT K H v d as->(∀a∈as,ok a)->RA K ok pl H v d)/\∀{v:List V}{d:List D}{as:List Addr},RTs K H v d as->(∀a∈as,ok a)->RAs K ok pl H v d:=
 RT.ind (λ_=>.non) (λb _=>.bl b) (λi _=>.int i) (λx _=>.str x) (λe q h=>.lst e (h _ ao) (q λa ha=>h a (au _ ha))) (λe q h=>.tup e (q h)) (λe g h=>.dic e g (h _ ao)) (λ_=>.nil) λe q h=>.cons (e λa ha=>h a (bO _ ha)) (q λa ha=>h a (bw _ ha))
def RT.ra (r:RT K H v d as) (h:∀a∈as,ok a):RA K ok pl H v d:=RT.ra2.1 r h
def RT.same2(s:Same H H'):(∀{v:V}{d:D}{as:List Addr},RT K H v d as->RT K H' v d as)/\∀{v:List V}{d:List D}{as:List Addr},RTs K H v d as->RTs K H' v d as:=
 RT.ind .non .bl .int .str (λe q=>.lst (s _ _ e) q) (λe q=>.tup (iI.same s e) q) (λe g=>.dic (s _ _ e) (g.same s)) .nil .cons
def RT.same(s:Same H H') (h:RT K H c g as):RT K H' c g as:=(RT.same2 s).1 h
def RTs.same(s:Same H H') (h:RTs K H c g as):RTs K H' c g as:=(RT.same2 s).2 h
def RT.upd2 [B:Chg c] (h:H a=some c):(∀{v:V}{d:D}{as:List Addr},RT K H v d as->a∉as->RT K (upd H a k) v d as)/\∀{v:List V}{d:List D}{as:List Addr},RTs K H v d as->a∉as->RTs K (upd H a k) v d as:=
 RT.ind (λ_=>.non) (λb _=>.bl b) (λi _=>.int i) (λx _=>.str x) (λe q na=>.lst (by rwa[bG (λz=>na (by rw[<-z];exact ao))]) (q λz=>na (au _ z))) (λe q na=>.tup (iI.upd h e) (q na)) (λe g na=>.dic (by rwa[bG (λz=>na (by rw[<-z];exact ao))]) (g.upd h)) (λ_=>.nil) λe q na=>.cons (e λz=>na (bO _ z)) (q λz=>na (bw _ z))
def RT.upd {o:HO}[B:Chg c] (h:H a=some c) (na:a∉as) (r:RT K H g k as):RT K (upd H a o) g k as:=(RT.upd2 h).1 r na
def RTs.upd {o:HO}[B:Chg c] (h:H a=some c) (na:a∉as) (r:RTs K H g k as):RTs K (upd H a o) g k as:=(RT.upd2 h).2 r na
def RT.chd2:(∀{v:V}{d:D}{as:List Addr},RT K H v d as->∀a∈as,Chd (H a))/\∀{v:List V}{d:List D}{as:List Addr},RTs K H v d as->∀a∈as,Chd (H a):=
 RT.ind (λ_ h=>by cases h) (λ_ _ h=>by cases h) (λ_ _ h=>by cases h) (λ_ _ h=>by cases h) (λe q a h=>by
  rcases aJ.mp h with rfl|z
  .exact⟨_,e,inferInstance⟩
  .exact q a z) (λ_ q=>q) (λe g a h=>by rw[aL.mp h];exact⟨_,e,g.chg⟩) (λ_ h=>by cases h) λe q a h=>by
  rcases bW.mp h with z|z
  .exact e a z
  .exact q a z
def RT.chd (r:RT K H v d as):∀a∈as,Chd (H a):=RT.chd2.1 r
def RTs.chd (r:RTs K H c g as):∀a∈as,Chd (H a):=RT.chd2.2 r
def RT.tracked (h:RT K H v d as) (a:Addr) (ha:a∈as):H a≠none:=(h.chd a ha).ne
def RTs.tracked (h:RTs K H c g as) (a:Addr) (ha:a∈as):H a≠none:=(h.chd a ha).ne
def RA.rt2 : (∀{v:V}{d:D},RA K ok false H v d->∃as,RT K H v d as/\as.length=nl d/\∀a∈as,ok a)/\∀{v:List V}{d:List D},RAs K ok false H v d->∃as,RTs K H v d as/\as.length=nls d/\∀a∈as,ok a:=
 RA.ind ⟨[],.non,rfl,λ_ h=>by cases h⟩ (λb=>⟨[],.bl b,rfl,λ_ h=>by cases h⟩) (λi=>⟨[],.int i,rfl,λ_ h=>by cases h⟩) (λx=>⟨[],.str x,rfl,λ_ h=>by cases h⟩) (λe k q=>by
  obtain⟨as,h1,h2,Z⟩:=q;refine⟨_::as,.lst e h1,by rw[aX,h2,nl],λa ha=>?_⟩;rcases aJ.mp ha with rfl|z
  .exact k
  .exact Z a z) (λ_ k _=>by cases k) (λe q=>by
  obtain⟨as,h1,h2,Z⟩:=q;exact⟨as,.tup e h1,by rw[h2,nl],Z⟩) (λe g k=>⟨[_],.dic e g,by simp[nl],λa ha=>by rwa[aL.mp ha]⟩) (λ_ _ k=>by cases k) ⟨[],.nil,rfl,λ_ h=>by cases h⟩ λe q=>by
  obtain⟨as,h1,h2,Z⟩:=e;obtain⟨bs,g1,g2,g3⟩:=q;refine⟨as++bs,.cons h1 g1,by rw[bL,h2,g2,nls],λa ha=>?_⟩;rcases bW.mp ha with z|z
  .exact Z a z
  .exact g3 a z
def RA.rt (h:RA K ok false H v d):∃as,RT K H v d as/\as.length=nl d/\∀a∈as,ok a:=RA.rt2.1 h
end
def tabs:List (Addr×Str×Pos):=[(128, "turns.<locals>.<lambda>", ⟨41,42,41,72⟩)]
def Tb(H:Hp):Prop:=∀t∈tabs,H t.1=some (.tbl t.2.1 t.2.2)
def Tb.same(t:Tb H)(s:Same H H'):Tb H':=λx Z=>s _ _ (t x Z)
structure Gh where
 H0:Hp
 HF:Hp
 pk:Nat->Option Addr
 pn:Nat->List Addr
 tb:Tb H0
structure Ow where
 s:Nat->Option Addr
 n:Nat->List Addr:=λ_=>[]
instance:CoeFun Ow (λ_=>Nat->Option Addr):=⟨Ow.s⟩
abbrev ow0:Ow:=⟨λ_=>none,λ_=>[]⟩
noncomputable def okA(ow:Ow):Ok:=λa=>(∀i,ow i≠some a)/\∀i,a∉ow.n i
structure Rel(K:PySem.W.Frag)(fl:List Fl)(G:Gh)(ow:Ow)(σ:St)(H:Hp)(δ:DS):Prop where
 s0:Same G.H0 G.HF
 s1:Same G.HF H
 len:σ.length=δ.length
 own:∀i a,ow i=some a->G.H0 a=none/\((fl[i]? = some .O/\G.HF a=none)\/(fl[i]? = some .L/\∃xs,G.HF a=some (.lst xs))) /\
  ∃xs ds,σ[i]? = some (some (.ref a))/\H a=some (.lst xs)/\RAs K (okA ow) true H xs ds/\δ[i]? = some (some (.d (.list ds)))
 inj:∀i j a,ow i=some a->ow j=some a->i=j
 pin:∀i,fl[i]? = some .L->ow i=G.pk i
 dat:∀i d,δ[i]? = some (some (.d d))->isN fl[i]? = false->ow i=none->∃v,σ[i]? = some (some v)/\RA K (okA ow) true H v d
 oo:∀i d,δ[i]? = some (some (.d d))->isN fl[i]? = false->fl[i]? ≠ some .A->ow i=none->flat d=true
 nt:∀i a,a∈ow.n i->G.H0 a=none/\Chd (H a)/\((fl[i]? = some .N/\G.HF a=none)\/fl[i]? = some .M)
 nd:∀i j a,a∈ow.n i->a∈ow.n j->i=j
 ns:∀i j a,a∈ow.n i->ow j≠some a
 np:∀i,fl[i]? = some .M->ow.n i=G.pn i
 nr:∀i d,isN fl[i]? = true->δ[i]? = some (some (.d d))->∃v,σ[i]? = some (some v)/\RT K H v d (ow.n i)/\(ow.n i).Nodup
def Rel.tb{fl:List Fl}{G:Gh}{ow:Ow}{σ:St}(R:Rel K fl G ow σ H δ):Tb H:=G.tb.same (R.s0.trans R.s1)
def Rel.same0 (R:Rel K fl G ow σ H δ):Same G.H0 H:=R.s0.trans R.s1
def Rel.grow{fl:List Fl}{G:Gh}{ow:Ow}{σ:St}(R:Rel K fl G ow σ H δ)(e:Same H H'):Rel K fl G ow σ H' δ:=
 ⟨R.s0,R.s1.trans e,R.len,λi a h=>by
  obtain⟨V,X,xs,ds,h1,h2,Z,Y⟩:=R.own i a h;exact⟨V,X,xs,ds,h1,e _ _ h2,Z.same e,Y⟩,R.inj,R.pin,λi d h1 hn h2=>by
  obtain⟨v,Z,Y⟩:=R.dat i d h1 hn h2;exact⟨v,Z,Y.same e⟩,R.oo,λi a h=>by
  obtain⟨h1,h2,Z⟩:=R.nt i a h;exact⟨h1,(let⟨u,z,c⟩:=h2;⟨u,e _ _ z,c⟩),Z⟩,R.nd,R.ns,R.np,λi d h1 h2=>by
  obtain⟨v,Z,Y,W⟩:=R.nr i d h1 h2;exact⟨v,Z,Y.same e,W⟩⟩
inductive Kd where
 |P
 |B (L:List Nat)
 |A
 |R
 |F
 |C
 |FC
 |T
noncomputable def ok1:Ok:=λ_=>True
def ok0:Ok:=λ_=>False
def okN(H:Hp):Ok:=λa=>H a=none
def Rs(K:PySem.W.Frag)(H0:Hp)(ow:Ow)(Hb H:Hp):Kd->V->D->Prop
 | .P,v,d=>RA K ok1 true H v d
 | .B L,v,d=>RA K (okA ow) true H v d\/∃i∈L,∃a xs ds,ow i=some a/\v = .ref a/\d = .list ds/\H a=some (.lst xs)/\RAs K (okA ow) true H xs ds
 | .A,v,d=>RA K (okA ow) true H v d
 | .R,v,d=>RA K (okN H0) false H v d
 | .F,v,d=>(flat d=true/\RA K ok0 false H v d)\/∃a xs ds,v = .ref a/\d = .list ds/\Hb a=none/\H a=some (.lst xs)/\RAs K (λb=>okA ow b/\b≠a) true H xs ds
 | .C,v,d=>RA K (okN Hb) false H v d
 | .T,v,d=>∃as,RT K H v d as/\as.Nodup/\∀a∈as,Hb a=none
 | .FC,v,d=>(flat d=true/\RA K ok0 false H v d)\/∃a xs ds,v = .ref a/\d = .list ds/\Hb a=none/\H a=some (.lst xs)/\RAs K (λb=>okN Hb b/\b≠a) false H xs ds
section
variable{Hb H H':Hp}{fl:List Fl}{G:Gh}{ow:Ow}{σ:St}{δ:DS}{v:V}{d:D}
def E_(R:Rel K fl G ow σ Hb δ) (h:Hb c=none):okA ow c:=⟨λi e=>(by
 obtain⟨_,_,xs,_,_,h2,_⟩:=R.own i c e;rw[h]at h2
 cases h2),λi e=>(R.nt i c e).2.1.ne h⟩
def ah0(R:Rel K fl G ow σ Hb δ) (h:Hb c=none):okN G.H0 c:=R.same0.free h
def Rs.FC_F(R:Rel K fl G ow σ Hb δ)(h:Rs K G.H0 ow Hb H .FC v d):Rs K G.H0 ow Hb H .F v d:=by
 rcases h with h|⟨a,xs,ds,h1,h2,X,Y,Z⟩
 .exact .inl h
 .exact .inr ⟨a,xs,ds,h1,h2,X,Y,Z.imp (λb z=>⟨E_ R z.1,z.2⟩) (λ_=>rfl)⟩
def Rs.FC_C(h:Rs K G.H0 ow Hb H .FC v d):Rs K G.H0 ow Hb H .C v d:=by
 rcases h with h|⟨a,xs,ds,rfl,rfl,X,Y,Z⟩
 .exact RA.flat h.1 h.2
 .exact .lst Y X (Z.imp (λb z=>z.1) (λz=>z))
def Rs.F_A(R:Rel K fl G ow σ Hb δ)(h:Rs K G.H0 ow Hb H .F v d):Rs K G.H0 ow Hb H .A v d:=by
 rcases h with h|⟨a,xs,ds,rfl,rfl,X,Y,Z⟩
 .exact RA.flat h.1 h.2
 .exact .lst Y (E_ R X) (Z.imp (λb z=>z.1) (λz=>z))
def Rs.C_A(R:Rel K fl G ow σ Hb δ)(h:Rs K G.H0 ow Hb H .C v d):Rs K G.H0 ow Hb H .A v d:=RA.imp (λ_ z=>E_ R z) (λ_=>rfl) h
def Rs.C_R(R:Rel K fl G ow σ Hb δ)(h:Rs K G.H0 ow Hb H .C v d):Rs K G.H0 ow Hb H .R v d:=RA.imp (λ_ z=>ah0 R z) (λz=>z) h
def Rs.A_B(L:List Nat)(h:Rs K G.H0 ow Hb H .A v d):Rs K G.H0 ow Hb H (.B L) v d:=.inl h
def Rs.B_P(h:Rs K G.H0 ow Hb H (.B L) v d):Rs K G.H0 ow Hb H .P v d:=by
 rcases h with h|⟨i,_,a,xs,ds,_,rfl,rfl,Y,Z⟩
 .exact RA.imp (λ_ _=>trivial) (λz=>z) h
 .exact .lst Y trivial (Z.imp (λ_ _=>trivial) (λz=>z))
def Rs.P_flat(B:flat d=true)(h:Rs K G.H0 ow Hb H .P v d):Rs K G.H0 ow Hb H .FC v d:=.inl ⟨B,RA.flat B h⟩
def Rs.F_fl1(B:fl1 d=true)(h:Rs K G.H0 ow Hb H .F v d):Rs K G.H0 ow Hb H .FC v d:=by
 rcases h with h|⟨a,xs,ds,h1,h2,X,Y,Z⟩
 .exact .inl h
 .subst h2;exact .inr ⟨a,xs,ds,h1,rfl,X,Y,RAs.flat B Z⟩
end
noncomputable def tD(K:PySem.W.Frag)(fl:List Fl)(k:Kd)(f:FE):TE:=λσ H Q=>∃G ow δ d,Rel K fl G ow σ H δ/\f δ=some d/\∀v H',Same H H'->Rs K G.H0 ow H H' k v d->Q v H'
abbrev DE(X:Cx)(fl:List Fl)(k:Kd)(e:Expr)(f:FE):Prop:=PE X e (tD X.K fl k f)
def tDA(K:PySem.W.Frag)(fl:List Fl)(f:FA):TA:=λσ H Q=>∃G ow δ ds,Rel K fl G ow σ H δ/\f δ=some ds/\∀vs H',Same H H'->RAs K ok1 true H' vs ds->Q vs H'
abbrev DA(X:Cx)(fl:List Fl)(es:List Expr)(f:FA):Prop:=PA X es (tDA X.K fl f)
def tDT(K:PySem.W.Frag)(fl:List Fl)(f:FT):TT:=λσ H Q=>∃G ow δ b,Rel K fl G ow σ H δ/\f δ=some b/\∀H',Same H H'->Q b H'
abbrev DT(X:Cx)(fl:List Fl)(e:Expr)(f:FT):Prop:=PT X e (tDT X.K fl f)
abbrev DW(X:Cx)(fl:List Fl)(e:Expr)(f:FT):Prop:=PW X e (tDT X.K fl f)
def Fb(K:PySem.W.Frag)(fl:List Fl)(G:Gh)(Dn:Ends):Oc->Prop
 | .nx δ'=>∀Z σ' H',Rel K fl G Z σ' H' δ'->Dn.nx σ' H'
 | .rt d=>∀v H',Same G.H0 H'->RA K (okN G.H0) false H' v d->Dn.rt v H'
 | .bk δ'=>∀Z σ' H',Rel K fl G Z σ' H' δ'->Dn.bk σ' H'
 | .ct δ'=>∀Z σ' H',Rel K fl G Z σ' H' δ'->Dn.ct σ' H'
 | .ex _ _ d=>∀v H',Same G.H0 H'->RA K ok1 true H' v d->Dn.rt v H'
def tDS(K:PySem.W.Frag)(fl:List Fl)(f:FS):TS:=λDn σ H=>∃G ow δ o,Rel K fl G ow σ H δ/\f δ=some o/\Fb K fl G Dn o
abbrev DS1(X:Cx)(fl:List Fl)(s:gv)(f:FS):Prop:=PS X s (tDS X.K fl f)
abbrev DSs(X:Cx)(fl:List Fl)(s:List gv)(f:FS):Prop:=PSs X s (tDS X.K fl f)
def tDG(K:PySem.W.Frag)(fl:List Fl)(tg:List Nat)(g:FG):TG:=λv σ H Q=>∃G ow δ d δ',Rel K fl G ow σ H δ/\RA K (okA ow) true H v d/\g d δ=some δ'/\∀σ',Rel K fl G ow σ' H δ'->(∀j,j∉tg->σ'[j]? = σ[j]?)->Q σ' H
abbrev DG(X:Cx)(fl:List Fl)(tg:List Nat)(e:Expr)(g:FG):Prop:=PG X e (tDG X.K fl tg g)
section
variable{st:gv}
def PE.imp (h:PE X e t) (i:∀σ H Q,t' σ H Q->t σ H Q):PE X e t':=λpins s σ H Q I q=>h pins s σ H Q I (i σ H Q q)
def PT.imp (h:PT X e t) (i:∀σ H Q,t' σ H Q->t σ H Q):PT X e t':=λpins s σ H Q I q=>h pins s σ H Q I (i σ H Q q)
def PW.imp (h:PW X e t) (i:∀σ H Q,t' σ H Q->t σ H Q):PW X e t':=λw pins s σ H Q I q=>h w pins s σ H Q I (i σ H Q q)
def PA.imp (h:PA X es t) (i:∀σ H Q,t' σ H Q->t σ H Q):PA X es t':=λp pins s σ H Q I q=>h p pins s σ H Q I (i σ H Q q)
def PS.imp (h:PS X st t) (i:∀D σ H,t' D σ H->t D σ H):PS X st t':=λpins s σ H D I q=>h pins s σ H D I (i D σ H q)
def PSs.imp{t t':TS}(h:PSs X sts t)(i:∀D σ H,t' D σ H->t D σ H):PSs X sts t':=λpins s σ H D I q=>h pins s σ H D I (i D σ H q)
def PG.imp (h:PG X e t) (i:∀v σ H Q,t' v σ H Q->t v σ H Q):PG X e t':=λpins s σ H v u Q I r q=>h pins s σ H v u Q I r (i v σ H Q q)
end
end D3
variable{G:D3.Gh}{fl:List D3.Fl}{ow:D3.Ow}
variable{g:D3.D->D3.D->Option D3.D}
namespace D3
open L2 My
section
variable{a b c:Expr}{k:Kd}{f fa:FE}
def kW(h:aj i δ=some d):δ[i]? = some (some (.d d)):=by
 unfold aj at h;split at h
 .next x e=>rw[e];cases h;rfl
 .cases h
theorem xX(i:Nat) (O:X.N[i]? = some l:=by rfl) (J:Vis X.env.scope l:=by first|exact fE rfl|exact fg (fE rfl)|exact fg (fg rfl)) (hd:(l==("__debug__":Str))=false:=by decide)
 (D:(l==("__classdict__":Str))=false:=by decide) (hn:isN fl[i]? = false:=by rfl):DE X fl (.B [i]) (.Name l pos) (aj i):=by
 refine PE.imp (pK O J hd D) λσ H Q h=>?_
 refine D3.ex4 h λG ow δ d R W q=>?_
 have e:=kW W
 cases Z:ow i with
 |none=>
  obtain⟨v,h1,h2⟩:=R.dat i d e hn Z;exact⟨v,h1,q v H (Same.refl H) (.inl h2)⟩
 |some a=>
  obtain⟨U,_,xs,ds,h1,h2,V,Y⟩:=R.own i a Z;rw[e]at Y
  cases Y;exact⟨_,h1,q _ H (Same.refl H) (.inr ⟨i,aL.mpr rfl,a,xs,ds,Z,rfl,rfl,h2,V⟩)⟩
theorem Fd(i:Nat)(B:fl[i]? = some .A) (O:X.N[i]? = some l:=by rfl) (J:Vis X.env.scope l:=by first|exact fE rfl|exact fg (fE rfl)|exact fg (fg rfl)) (hd:(l==("__debug__":Str))=false:=by decide)
 (D:(l==("__classdict__":Str))=false:=by decide):DE X fl .A (.Name l pos) (aj i):=by
 refine PE.imp (pK O J hd D) λσ H Q h=>?_
 refine D3.ex4 h λG ow δ d R W q=>?_
 have e:=kW W
 cases Y:ow i with
 |none=>
  obtain⟨v,h1,h2⟩:=R.dat i d e (by rw[B];rfl) Y;exact⟨v,h1,q v H (Same.refl H) h2⟩
 |some a=>
  obtain⟨V,Z,_⟩:=R.own i a Y;rw[B]at Z;rcases Z with⟨z,_⟩|⟨z,_⟩<;>cases z
theorem Vu(i:Nat)(B:fl[i]? ≠ some .A) (O:X.N[i]? = some l:=by rfl) (J:Vis X.env.scope l:=by first|exact fE rfl|exact fg (fE rfl)|exact fg (fg rfl)) (hd:(l==("__debug__":Str))=false:=by decide)
 (D:(l==("__classdict__":Str))=false:=by decide) (hn:isN fl[i]? = false:=by rfl):DE X fl .R (.Name l pos) (Ol (aj i)):=by
 refine PE.imp (pK O J hd D) λσ H Q h=>?_
 refine D3.ex4 h λG ow δ d R Z q=>?_
 unfold Ol at Z
 cases Y:aj i δ with
 |none=>rw[Y]at Z;cases Z
 |some P=>
  rw[Y,aF]at Z;by_cases V:fl1 P=true
  .rw[if_pos V]at Z
   cases Z;have e:=kW Y
   cases W:ow i with
   |none=>
    obtain⟨v,h1,h2⟩:=R.dat i d e hn W;exact⟨v,h1,q v H (Same.refl H) (RA.flat (R.oo i d e hn B W) h2)⟩
   |some a=>
    obtain⟨S,_,xs,ds,h1,h2,T,U⟩:=R.own i a W;rw[e]at U
    cases U;exact⟨_,h1,q _ H (Same.refl H) (.lst h2 S (RAs.flat V T))⟩
  .rw[if_neg V]at Z
   cases Z
def oZ (h:DE X fl k e f) (J:∀(Hb H:Hp)(G:Gh)(ow:Ow)(σ:St)(δ:DS)(v:V)(d:D),Rel X.K fl G ow σ Hb δ->Rs X.K G.H0 ow Hb H k v d->Rs X.K G.H0 ow Hb H B v d):DE X fl B e f:=by
 refine PE.imp h λσ H Q h=>?_
 refine D3.ex4 h λG ow δ d R Z q=>?_
 exact⟨G,ow,δ,d,R,Z,λv H' s r=>q v H' s (J _ _ G ow σ δ v d R r)⟩
theorem wg {p:D->Bool} (h:DE X fl k e f) (J:∀(Hb H:Hp)(G:Gh)(ow:Ow)(σ:St)(δ:DS)(v:V)(d:D),p d=true->Rel X.K fl G ow σ Hb δ->Rs X.K G.H0 ow Hb H k v d->Rs X.K G.H0 ow Hb H B v d) :
 DE X fl B e (λδ=>(f δ).bind λd=>if p d=true then some d else none):=by
 refine PE.imp h λσ H Q h=>?_
 refine D3.ex4 h λG ow δ d R Z q=>?_
 dsimp only at Z
 cases Y:f δ with
 |none=>rw[Y]at Z;cases Z
 |some U=>
  rw[Y,aF]at Z;by_cases W:p U=true
  .rw[if_pos W]at Z
   cases Z;exact⟨G,ow,δ,d,R,Y,λv H' s r=>q v H' s (J _ _ G ow σ δ v d W R r)⟩
  .rw[if_neg W]at Z
   cases Z
def tY(h:DE X fl .FC e f):DE X fl .F e f:=oZ h λ_ _ _ _ _ _ _ _ R r=>r.FC_F R
def jO(h:DE X fl .FC e f):DE X fl .C e f:=oZ h λ_ _ _ _ _ _ _ _ R r=>r.FC_C
def oN(h:DE X fl .F e f):DE X fl .A e f:=oZ h λ_ _ _ _ _ _ _ _ R r=>r.F_A R
def qe(h:DE X fl .C e f):DE X fl .A e f:=oZ h λ_ _ _ _ _ _ _ _ R r=>r.C_A R
def Ao(h:DE X fl .C e f):DE X fl .R e f:=oZ h λ_ _ _ _ _ _ _ _ R r=>r.C_R R
def jJ(h:DE X fl .A e f):DE X fl (.B []) e f:=oZ h λ_ _ _ _ _ _ _ _ R r=>Rs.A_B [] r
def Hr(h:DE X fl (.B L) e f):DE X fl .P e f:=oZ h λ_ _ _ _ _ _ _ _ R r=>r.B_P
def mQ(h:DE X fl .P e f):DE X fl .FC e (iZ f):=wg h λ_ _ _ _ _ _ _ _ Z R r=>r.P_flat Z
def Zi(h:DE X fl .F e f):DE X fl .FC e (Ol f):=wg h λ_ _ _ _ _ _ _ _ Z R r=>r.F_fl1 Z
def iB(h:DE X fl .FC e f):DE X fl .A e f:=oN (tY h)
def cN(h:DE X fl .FC e f):DE X fl .R e f:=Ao (jO h)
def dN(h:DE X fl .A e f):DE X fl .P e f:=Hr (jJ h)
def iR(h:DE X fl .C e f):DE X fl .P e f:=dN (qe h)
def aU(h:DE X fl .FC e f):DE X fl .P e f:=dN (iB h)
def Aq(h:DE X fl .F e f):DE X fl .P e f:=dN (oN h)
def Ar(h:PE X e (tC v))(D:flat d=true)(B:∀H,RA X.K ok0 false H v d):DE X fl .FC e (dC d):=by
 refine PE.imp h λσ H Q h=>?_
 refine D3.ex4 h λG ow δ Z R hd q=>?_
 cases hd;exact q v H (Same.refl H) (.inl ⟨D,B H⟩)
def Fe{i j pos}:DE X fl .FC (.Constant (.int i) j pos) (dC (.int i)):=Ar YB rfl λ_=>.int _
def oO{b j pos}:DE X fl .FC (.Constant (.bool b) j pos) (dC (.bool b)):=Ar XR rfl λ_=>.bl _
def qM{j pos}:DE X fl .FC (.Constant .none j pos) (dC .none):=Ar YC rfl λ_=>.non
def qQ{x j pos}:DE X fl .FC (.Constant (.str x) j pos) (dC (.str x)):=Ar YD rfl λ_=>.str _
def zG {i:Int}(h:∃t,X.mg x=some (.int i t)) (B:Gl X x:=by rfl) (hd:(x==("__debug__":Str))=false:=by decide):DE X fl .FC (.Name x pos) (dC (.int i)):=by
 obtain⟨t,h⟩:=h;exact Ar (U3 (v:=.int i) B h ⟨t,rfl⟩ hd) rfl λ_=>.int _
def BrO(K:PySem.W.Frag)(r:R2)(g:D->D->Option D):Prop:=∀(H:Hp)(x y:V)(dx Z d:D)(Q:VK),RA K ok1 true H x dx->RA K ok1 true H y Z->g dx Z=some d->(∀v,flat d=true->RA K ok0 false H v d->Q v H)->r x y H Q
theorem Av(h:dOp g fa fb δ=some d):∃x y,fa δ=some x/\fb δ=some y/\g x y=some d:=by
 unfold dOp at h
 cases ha:fa δ with
 |none=>rw[ha]at h;cases h
 |some x=>
  rw[ha,aF]at h
  cases Z:fb δ with
  |none=>rw[Z]at h;cases h
  |some y=>
   rw[Z,aF]at h;exact⟨x,y,rfl,rfl,h⟩
theorem bind1 (h:l.bind m=some r):∃y,l=some y/\m y=some r:=by
 cases l with
 |none=>cases h
 |some y=>exact⟨y,rfl,h⟩
def xY {σ:St} (B:BrO X.K r g) (h:tD X.K fl .FC (dOp g fa fb) σ H l):tOp r (tD X.K fl .P fa) (tD X.K fl .P fb) σ H l:=by
 refine D3.ex4 h λG ow δ d R U q=>?_
 refine D3.ex2 (Av U) λx y e1 e2 e3=>?_
 refine⟨G,ow,δ,x,R,e1,λv H1 s1 W=>⟨G,ow,δ,y,R.grow s1,e2,λu H2 s2 Y=>?_⟩⟩;exact B H2 v u x y d l (RA.same s2 W) Y e3 λz V Z=>q z H2 (s1.trans s2) (.inl ⟨V,Z⟩)
def dD (D:OpR X (binaryOp B) r) (J:BrO X.K r g) (h1:DE X fl .P a fa) (h2:DE X fl .P b fb):DE X fl .FC (.BinOp a B b pos) (dOp g fa fb):=
 PE.imp (Qk D h1 h2) λ_ _ _ h=>xY J h
def oF (D:OpR X (compareOp B) r) (J:BrO X.K r g) (h1:DE X fl .P a fa) (h2:DE X fl .P b fb) (hm:behindInMarks B b=false):DE X fl .FC (.Compare a [B] [b] pos) (dOp g fa fb):=
 PE.imp (Vb D h1 h2 hm) λ_ _ _ h=>xY J h
def d_ (D:OpR X (compareOp B) r) (J:BrO X.K r g) (h1:DE X fl .P a fa) (h2:DE X fl .P b fb) (hm:behindInMarks B b=false):DT X fl (.Compare a [B] [b] pos) (bF (dOp g fa fb)):=by
 refine PT.imp (Vc D h1 h2 hm) λσ H Q h=>?_
 refine D3.ex4 h λG ow δ c R Z q=>?_
 refine D3.ex1 (bind1 Z) λd e1 e2=>?_
 cases d<;>first|(cases e2;done)|skip
 cases e2;refine xY (fl:=fl) (fa:=fa) (fb:=fb) J ⟨G,ow,δ,_,R,e1,λv H' s r=>?_⟩;obtain rfl:=(Rs.FC_C r).blE;exact⟨_,rfl,q H' s⟩
def mR(h:DE X fl .P e f)(B:∀whole,isTrue e X.env whole=(do let v <-whole;standAt e.pos;holding [v] (truthy v)):=by intro _;rfl):DT X fl e (bF f):=by
 refine PT.imp (YH h B) λσ H Q h=>?_
 refine D3.ex4 h λG ow δ c R Z q=>?_
 refine D3.ex1 (bind1 Z) λd e1 e2=>?_
 cases d<;>first|(cases e2;done)|skip
 cases e2;refine⟨G,ow,δ,_,R,e1,λv H' s r=>?_⟩;obtain rfl:=RA.blE r;exact⟨_,rfl,q H' s⟩
def Ds {g:Int->Int->D} (J:∀i j,flat (g i j)=true) (B:∀H i j,RA K ok0 false H (l i j) (g i j)):BrO K (rI0 l) (gI λi j=>some (g i j)):=by
 intro H x y dx X d Q Y Z e q;unfold gI at e;split at e
 .next i j=>
  cases e;exact⟨i,j,Y.intE,Z.intE,q _ (J i j) (B H i j)⟩
 .cases e
def Vv {g:Int->Int->D} {c:Int->Int->Bool} (O:∀i j,c i j=true->C i j) (J:∀i j,flat (g i j)=true) (B:∀H i j,RA K ok0 false H (l i j) (g i j)) :
 BrO K (rI C l) (gI λi j=>if c i j=true then some (g i j)else none):=by
 intro H x y dx X d Q Y Z e q;unfold gI at e;split at e
 .next i j=>
  dsimp only at e;by_cases z:c i j=true
  .rw[if_pos z]at e
   cases e;exact⟨i,j,Y.intE,Z.intE,O i j z,q _ (J i j) (B H i j)⟩
  .rw[if_neg z]at e
   cases e
 .cases e
end
section
def Vw (h:Aj c k=true):IntMulOk c k:=by
 unfold Aj at h;rw[oE,oE,aK]at h;rcases h with(h|h)|⟨h1,h2⟩
 .exact IntMulOk.of_left (PySem.intBits_le_iff.mpr (of_decide_eq_true h))
 .exact IntMulOk.of_right (PySem.intBits_le_iff.mpr (of_decide_eq_true h))
 .exact PySem.IntMulOk.of_le (PySem.intBits_le_iff.mpr (of_decide_eq_true h1)) (PySem.intBits_le_iff.mpr (of_decide_eq_true h2)) (by decide)
def qg:OpR X (binaryOp .Mult) (rI (λi j=>Aj i j=true) λi j=>.int (i*j)):=opI λ_ _ _ _ _ _ _ Z q=>mul_int q (Vw Z)
def Lr:OpR X (binaryOp .FloorDiv) (rI (λi j=>J6 i j=true) λi j=>.int (i.fdiv j)):=opI λi j _ _ _ _ _ Z q=>by
 unfold J6 at Z;rw[aK]at Z;have h1:=of_decide_eq_true Z.1;have h2:=of_decide_eq_true Z.2;refine floordiv_int h1 q (.inl (PyProof.noPylong_of_log2 ?_));exact(Nat.log2_lt (by lia)).mpr h2
def Vx (h:Zf c k=true):Y5 c k:=by
 unfold Zf at h;rw[aK,aK]at h;have h1:=of_decide_eq_true h.1.1;have h2:=of_decide_eq_true h.1.2;exact⟨h1,by lia,of_decide_eq_true h.2⟩
def i_:BrO K (rI0 λi j=>.int (i+j)) eV:=Ds (λ_ _=>rfl) λ_ _ _=>.int _
def Ls:BrO K (rI0 λi j=>.int (i-j)) xP:=Ds (λ_ _=>rfl) λ_ _ _=>.int _
def yM:BrO K (rI (λi j=>Aj i j=true) λi j=>.int (i*j)) uT:=Vv (λ_ _ h=>h) (λ_ _=>rfl) λ_ _ _=>.int _
def X8:BrO K (rI (λi j=>J6 i j=true) λi j=>.int (i.fdiv j)) Ho:=Vv (λ_ _ h=>h) (λ_ _=>rfl) λ_ _ _=>.int _
def wj:BrO K (rI (λ_ j=>j≠0) λi j=>.int (i.fmod j)) vG:=Vv (λ_ _ h=>of_decide_eq_true h) (λ_ _=>rfl) λ_ _ _=>.int _
def ah1:BrO K (rI Y5 λi j=>.int (i^j.toNat)) Zg:=Vv (λ_ _ h=>Vx h) (λ_ _=>rfl) λ_ _ _=>.int _
def b_lt:BrO K (rI0 λi j=>.bl (decide (i<j))) gLt:=Ds (λ_ _=>rfl) λ_ _ _=>.bl _
def pY:BrO K (rI0 λi j=>.bl (decide (i<=j))) gLe:=Ds (λ_ _=>rfl) λ_ _ _=>.bl _
def J8:BrO K (rI0 λi j=>.bl (decide (j<i))) gGt:=Ds (λ_ _=>rfl) λ_ _ _=>.bl _
def ar7:BrO K (rI0 λi j=>.bl (decide (j<=i))) gGe:=Ds (λ_ _=>rfl) λ_ _ _=>.bl _
def tM:BrO K (ag4 K) gEq:=by
 intro H x y dx Z d Q X Y e q;unfold gEq at e;by_cases z:(fq dx&&fq Z)=true
 .rw[if_pos z]at e
  cases e;rw[aK]at z;exact⟨dx,Z,X.rd (bp z.1),Y.rd (bp z.2),z.1,z.2,q _ rfl (.bl _)⟩
 .rw[if_neg z]at e
  cases e
def Hs:BrO K (ag5 K) gNe:=by
 intro H x y dx Z d Q X Y e q;unfold gNe at e;by_cases z:(fq dx&&fq Z)=true
 .rw[if_pos z]at e
  cases e;rw[aK]at z;exact⟨dx,Z,X.rd (bp z.1),Y.rd (bp z.2),z.1,z.2,q _ rfl (.bl _)⟩
 .rw[if_neg z]at e
  cases e
end
end D3
variable{G:D3.Gh}{ow:D3.Ow}{gs:List D3.D->D3.DS->Option D3.DS}
namespace D3
open L2 My
section
variable{a b c:Expr}{st:gv}{k:Kd}{f fa:FE}{fs gs:FS}
theorem Fb.nx_imp (h:Fb K fl G l r) (hn:∀δ',r ≠ .nx δ'):Fb K fl G {l with nx:=m} r:=by
 cases r with
 |nx δ'=>exact absurd rfl (hn δ')
 |rt d=>exact h
 |bk δ'=>exact h
 |ct δ'=>exact h
 |ex c f v=>exact h
def dw:DSs X fl [] cZ:=PSs.imp Lg λDn σ H h=>by
 refine D3.ex4 h λG ow δ o R Z q=>?_
 cases Z;exact q ow σ H R
theorem bf(h1:DS1 X fl st fs)(h2:DSs X fl sts gs):DSs X fl (st::sts) (bM fs gs):=PSs.imp (G4 h1 h2) λDn σ H h=>by
 refine D3.ex4 h λG ow δ o R W q=>?_
 refine D3.ex1 (bind1 W) λY e1 e2=>?_
 refine⟨G,ow,δ,Y,R,e1,?_⟩
 cases Y with
 |nx δ'=>exact λZ σ' H' R'=>⟨G,Z,δ',o,R',e2,q⟩
 |rt d=>cases e2;exact Fb.nx_imp q (λ_ z=>by cases z)
 |bk d=>cases e2;exact Fb.nx_imp q (λ_ z=>by cases z)
 |ct d=>cases e2;exact Fb.nx_imp q (λ_ z=>by cases z)
 |ex c f v=>cases e2;exact q
def bC(h1:DS1 X fl st fs):DSs X fl [st] fs:=PSs.imp (Lh h1) λ_ _ _ h=>h
def cF(h:DE X fl .R e f):DS1 X fl (.Return (some e) pos) (dj f):=PS.imp (JV h) λDn σ H h=>by
 refine D3.ex4 h λG ow δ o R Z q=>?_
 refine D3.ex1 (bind1 Z) λd e1 e2=>?_
 cases e2;exact⟨G,ow,δ,d,R,e1,λv H' s r=>q v H' (R.same0.trans s) r⟩
def Lw(h:DE X fl .P e f)(hs:swapsWith e none pos.line X.env=pure false:=by rfl):DS1 X fl (.Expr e pos) (Lq f):=PS.imp (zB h hs) λDn σ H h=>by
 refine D3.ex4 h λG ow δ o R Z q=>?_
 refine D3.ex1 (bind1 Z) λd e1 e2=>?_
 cases e2;exact⟨G,ow,δ,d,R,e1,λv H' s r=>q ow σ H' (R.grow s)⟩
theorem gP(B:DT X fl c ft)(h1:DSs X fl body fs)(h2:DSs X fl orelse gs):DS1 X fl (.If c body orelse pos) (sIf ft fs gs):=PS.imp (X3 B h1 h2) λDn σ H h=>by
 refine D3.ex4 h λG ow δ o R Z q=>?_
 refine D3.ex1 (bind1 Z) λt e1 e2=>?_
 refine⟨G,ow,δ,t,R,e1,λH' s=>?_⟩
 cases t with
 |true=>exact Af ⟨G,ow,δ,o,R.grow s,e2,q⟩
 |false=>exact Ae ⟨G,ow,δ,o,R.grow s,e2,q⟩
def gD {l:List (Option α)} {x y:α} (h:(l.set i (some x))[j]? = some (some y)):(j=i/\x=y)\/(j≠i/\l[j]? = some (some y)):=by
 rw[mF]at h;by_cases e:i=j
 .subst e;rw[if_pos rfl]at h;by_cases z:i<l.length
  .rw[if_pos z]at h
   cases h;exact .inl ⟨rfl,rfl⟩
  .rw[if_neg z]at h
   cases h
 .rw[if_neg e]at h;exact .inr ⟨λz=>e z.symm,h⟩
def Rel.rN{σ:St}(R:Rel K fl G ow σ H δ)(B:fl[i]? = some .A)(hi:i<σ.length)(r:RA K (okA ow) true H v d):
 Rel K fl G ow (σ.set i (some v)) H (δ.set i (some (.d d))):=by
 have T:∀a,ow i≠some a:=λa z=>by
  obtain⟨_,U,_⟩:=R.own i a z;rw[B]at U;rcases U with⟨z,_⟩|⟨z,_⟩<;>cases z
 refine⟨R.s0,R.s1,by rw[cJ,cJ];exact R.len,λj a h=>?_,R.inj,R.pin,λj X h1 hn h2=>?_,λj X h1 hn h2 Y=>?_,R.nt,R.nd,R.ns,R.np,λj X hn h1=>?_⟩
 .have Z:j≠i:=λz=>T a (z▸h)
  obtain⟨Q,S,xs,ds,h1,h2,Y,W⟩:=R.own j a h;exact⟨Q,S,xs,ds,by rwa[aY (e9 Z)],h2,Y,by rwa[aY (e9 Z)]⟩
 .rcases gD h1 with⟨rfl,e⟩|⟨Z,e⟩
  .cases e;exact⟨v,by rw[dg hi],r⟩
  .obtain⟨V,Y,W⟩:=R.dat j X e hn h2;exact⟨V,by rwa[aY (e9 Z)],W⟩
 .rcases gD h1 with⟨rfl,e⟩|⟨Z,e⟩
  .exact absurd B h2
  .exact R.oo j X e hn h2 Y
 .rcases gD h1 with⟨rfl,e⟩|⟨Z,e⟩
  .rw[B]at hn;cases hn
  .obtain⟨V,Y,W⟩:=R.nr j X hn e;exact⟨V,by rwa[aY (e9 Z)],W⟩
def yN(ow:Ow)(i:Nat)(a:Option Addr):Ow:=⟨λj=>if j=i then a else ow j,ow.n⟩
def jK{a:Option Addr}:yN ow i a i=a:=if_pos rfl
def gQ{a:Option Addr}(h:j≠i):yN ow i a j=ow j:=if_neg h
def Rel.setO{σ:St}(R:Rel K fl G ow σ H δ)(s:Same H H')(B:fl[i]? = some .O)(hi:i<σ.length)(r:Rs K G.H0 ow H H' .F v d):
 ∃J,Rel K fl G J (σ.set i (some v)) H' (δ.set i (some (.d d))):=by
 have R':=R.grow s;have T:∀b,okA ow b->okA (yN ow i none) b:=λb z=>⟨λj e=>by
  by_cases Z:j=i
  .subst Z;rw[jK]at e;cases e
  .rw[gQ Z]at e;exact z.1 j e,z.2⟩
 have P:∀j W,isN fl[j]? = true->(δ.set i (some (.d d)))[j]? = some (some (.d W))->∃U,(σ.set i (some v))[j]? = some (some U)/\RT K H' U W (ow.n j)/\(ow.n j).Nodup:=λj W hn h1=>by
  rcases gD h1 with⟨rfl,e⟩|⟨Z,e⟩
  .rw[B]at hn;cases hn
  .obtain⟨U,X,Q⟩:=R'.nr j W hn e;exact⟨U,by rwa[aY (e9 Z)],Q⟩
 rcases r with⟨N,r⟩|⟨a,xs,ds,rfl,rfl,ha,E,C⟩
 .refine⟨yN ow i none,R'.s0,R'.s1,by rw[cJ,cJ];exact R.len,λj a h=>?_,λj j' a h h'=>?_,λj h=>?_,λj W h1 hn h2=>?_,λj W h1 hn h2 X=>?_,R'.nt,R'.nd,λj j' a h h'=>?_,R'.np,P⟩
  .have Z:j≠i:=λz=>by subst z;rw[jK]at h;cases h
   rw[gQ Z]at h;obtain⟨L,M,xs,ds,h1,h2,X,Q⟩:=R'.own j a h;exact⟨L,M,xs,ds,by rwa[aY (e9 Z)],h2,X.imp T (λz=>z),by rwa[aY (e9 Z)]⟩
  .have Z:j≠i:=λz=>by subst z;rw[jK]at h;cases h
   have Y:j'≠i:=λz=>by subst z;rw[jK]at h';cases h'
   rw[gQ Z]at h;rw[gQ Y]at h';exact R.inj j j' a h h'
  .have Z:j≠i:=λz=>by subst z;rw[B]at h;cases h
   rw[gQ Z];exact R.pin j h
  .rcases gD h1 with⟨rfl,e⟩|⟨Z,e⟩
   .cases e;exact⟨v,by rw[dg hi],RA.flat N r⟩
   .rw[gQ Z]at h2;obtain⟨U,X,Q⟩:=R'.dat j W e hn h2;exact⟨U,by rwa[aY (e9 Z)],Q.imp T (λz=>z)⟩
  .rcases gD h1 with⟨rfl,e⟩|⟨Z,e⟩
   .cases e;exact N
   .rw[gQ Z]at X;exact R.oo j W e hn h2 X
  .by_cases Z:j'=i
   .subst Z;rw[jK]at h';cases h'
   .rw[gQ Z]at h';exact R.ns j j' a h h'
 .have sub:∀b,okA ow b/\b≠a->okA (yN ow i (some a)) b:=λb z=>⟨λj e=>by
   by_cases Z:j=i
   .subst Z;rw[jK]at e;exact z.2 (cR.inj e).symm
   .rw[gQ Z]at e;exact z.1.1 j e,z.1.2⟩
  have old:∀{v:V}{d:D},RA K (okA ow) true H v d->RA K (okA (yN ow i (some a))) true H' v d:=λr=>(r.track.imp (λb z=>sub b ⟨z.1,λe=>z.2 (e▸ha)⟩) (λz=>z)).same s
  have olds:∀{v:List V}{d:List D},RAs K (okA ow) true H v d->RAs K (okA (yN ow i (some a))) true H' v d:=λr=>(r.track.imp (λb z=>sub b ⟨z.1,λe=>z.2 (e▸ha)⟩) (λz=>z)).same s
  have S:∀j,ow j≠some a:=λj z=>by
   obtain⟨_,_,_,_,_,h2,_⟩:=R.own j a z;rw[ha]at h2
   cases h2
  have A:=R.s1.free ha;refine⟨yN ow i (some a),R'.s0,R'.s1,by rw[cJ,cJ];exact R.len,λj b h=>?_,λj j' b h h'=>?_,λj h=>?_,λj W h1 hn h2=>?_,λj W h1 hn h2 X=>?_,R'.nt,R'.nd,λj j' b h h'=>?_,R'.np,P⟩
  .by_cases Z:j=i
   .subst Z;rw[jK]at h
    cases h;exact⟨R.same0.free ha,.inl ⟨B,A⟩,xs,ds,by rw[dg hi],E,C.imp sub (λz=>z),by rw[dg (by rwa[<-R.len])]⟩
   .rw[gQ Z]at h;obtain⟨L,M,ys,I,h1,h2,X,Q⟩:=R.own j b h;exact⟨L,M,ys,I,by rw[aY (e9 Z)];exact h1,s _ _ h2,olds X,by rw[aY (e9 Z)];exact Q⟩
  .by_cases Z:j=i
   .by_cases Y:j'=i
    .rw[Z,Y]
    .subst Z;rw[jK]at h
     cases h;rw[gQ Y]at h';exact absurd h' (S j')
   .rw[gQ Z]at h;by_cases Y:j'=i
    .subst Y;rw[jK]at h'
     cases h';exact absurd h (S j)
    .rw[gQ Y]at h';exact R.inj j j' b h h'
  .have Z:j≠i:=λz=>by subst z;rw[B]at h;cases h
   rw[gQ Z];exact R.pin j h
  .rcases gD h1 with⟨rfl,e⟩|⟨Z,e⟩
   .rw[jK]at h2;cases h2
   .rw[gQ Z]at h2;obtain⟨U,X,Q⟩:=R.dat j W e hn h2;exact⟨U,by rw[aY (e9 Z)];exact X,old Q⟩
  .rcases gD h1 with⟨rfl,e⟩|⟨Z,e⟩
   .rw[jK]at X;cases X
   .rw[gQ Z]at X;exact R.oo j W e hn h2 X
  .by_cases Z:j'=i
   .subst Z;rw[jK]at h'
    cases h';exact(R.nt j a h).2.1.ne ha
   .rw[gQ Z]at h';exact R.ns j j' b h h'
def Rel.mut{σ:St}{a:Addr}{ys:List V}{ds:List D}(R:Rel K fl G ow σ H δ)(J:fl[i]? = some .O)(B:ow i=some a)(r:RAs K (okA ow) true H ys ds):
 Rel K fl G ow σ (upd H a (.lst ys)) (δ.set i (some (.d (.list ds)))):=by
 obtain⟨F,N,xs,E,e1,e2,e3,M⟩:=R.own i a B;have na:¬okA ow a:=λz=>z.1 i B
 have L:G.HF a=none:=by
  rcases N with⟨_,z⟩|⟨z,_⟩
  .exact z
  .rw[J]at z;cases z
 have hi:i<δ.length:=by
  rcases dB i δ.length with z|z
  .exact z
  .rw[bx z]at M;cases M
 refine⟨R.s0,λb o Y=>?_,by rw[cJ];exact R.len,λj b h=>?_,R.inj,R.pin,λj W h1 hn h2=>?_,λj W h1 hn h2 Z=>?_,λj b h=>?_,R.nd,R.ns,R.np,λj W hn h1=>?_⟩
 .rw[bG (λz=>by subst z;rw[L]at Y;cases Y)];exact R.s1 b o Y
 .by_cases X:j=i
  .subst X;rw[B]at h
   cases h;exact⟨F,N,ys,ds,e1,bR,r.upd e2 na,by rw[dg hi]⟩
  .obtain⟨Q,S,zs,P,h1,h2,Z,U⟩:=R.own j b h;have Y:b≠a:=λz=>X (R.inj j i a (z▸h) B)
   exact⟨Q,S,zs,P,h1,by rwa[bG Y],Z.upd e2 na,by rwa[aY (e9 X)]⟩
 .rcases gD h1 with⟨rfl,e⟩|⟨X,e⟩
  .rw[B]at h2;cases h2
  .obtain⟨T,Z,U⟩:=R.dat j W e hn h2;exact⟨T,Z,U.upd e2 na⟩
 .rcases gD h1 with⟨rfl,e⟩|⟨X,e⟩
  .rw[B]at Z;cases Z
  .exact R.oo j W e hn h2 Z
 .obtain⟨g1,g2,g3⟩:=R.nt j b h;refine⟨g1,?_,g3⟩;by_cases Y:b=a
  .rw[Y,bR];exact⟨_,rfl,inferInstance⟩
  .rwa[bG Y]
 .rcases gD h1 with⟨rfl,e⟩|⟨X,e⟩
  .rw[J]at hn;cases hn
  .obtain⟨T,Z,U,I⟩:=R.nr j W hn e;exact⟨T,Z,U.upd e2 (λz=>R.ns j i a z B),I⟩
def wu (R:Rel K fl G ow σ H δ) (h:i<δ.length):i<σ.length:=by rwa[R.len]
def Vy (D:fl[i]? = some .A) (O:X.N.Nodup) (hi:X.N[i]? = some x) (J:X.env.scope.names.lookup x=some .local\/X.env.scope.names.lookup x=some .cell) (h:DE X fl .A e f)
 (hs:swapsWith e (some (.Name x l)) pos.line X.env=pure false:=by rfl) (B:X.fn x=true\/X.env.scope.names.lookup x=some .local:=by first|exact .inl rfl|exact .inr rfl) :
 DS1 X fl (.Assign [.Name x l] e pos) (bN i f):=PS.imp (Es (i:=i) O hi J h hs B) λDn σ H h=>by
 refine D3.ex4 h λG ow δ o R Z q=>?_
 unfold bN at Z;by_cases Y:i<δ.length
 .rw[if_pos Y]at Z;refine D3.ex1 (bind1 Z) λd e1 e2=>?_
  cases e2;exact⟨G,ow,δ,d,R,e1,λv H' s r=>q ow _ H' ((R.grow s).rN D (wu R Y) r)⟩
 .rw[if_neg Y]at Z
  cases Z
def zH (D:fl[i]? = some .O) (hN:X.N.Nodup) (hi:X.N[i]? = some x) (J:X.env.scope.names.lookup x=some .local\/X.env.scope.names.lookup x=some .cell) (h:DE X fl .F e f)
 (hs:swapsWith e (some (.Name x l)) pos.line X.env=pure false:=by rfl) (B:X.fn x=true\/X.env.scope.names.lookup x=some .local:=by first|exact .inl rfl|exact .inr rfl) :
 DS1 X fl (.Assign [.Name x l] e pos) (bN i f):=PS.imp (Es (i:=i) hN hi J h hs B) λDn σ H h=>by
 refine D3.ex4 h λG ow δ o R Z q=>?_
 unfold bN at Z;by_cases W:i<δ.length
 .rw[if_pos W]at Z;refine D3.ex1 (bind1 Z) λd e1 e2=>?_
  cases e2;refine⟨G,ow,δ,d,R,e1,λv H' s r=>?_⟩;obtain⟨Y,R'⟩:=R.setO s D (wu R W) r;exact q Y _ H' R'
 .rw[if_neg W]at Z
  cases Z
def Vz(D:fl[i]? = some .A)(O:X.N.Nodup)(hi:X.N[i]? = some x)(J:X.env.scope.names.lookup x=some .local\/X.env.scope.names.lookup x=some .cell)
 (B:X.fn x=true\/X.env.scope.names.lookup x=some .local:=by first|exact .inl rfl|exact .inr rfl):DG X fl [i] (.Name x pos) (gNl i):=
 PG.imp (U8 (i:=i) O hi J B) λv σ H Q h=>by
 obtain⟨G,ow,δ,d,δ',R,r,Z,q⟩:=h;unfold gNl at Z;by_cases Y:i<δ.length
 .rw[if_pos Y]at Z
  cases Z;exact q _ (R.rN D (wu R Y) r) λj W=>aY (λz=>W (by rw[z];exact aL.mpr rfl))
 .rw[if_neg Y]at Z
  cases Z
def ar8(K:PySem.W.Frag)(fl:List Fl)(tg:List Nat)(g:List D->DS->Option DS):TGs:=λvs σ H Q=>∃G ow δ ds δ',Rel K fl G ow σ H δ/\RAs K (okA ow) true H vs ds/\g ds δ=some δ'/\∀σ',Rel K fl G ow σ' H δ'->(∀j,j∉tg->σ'[j]? = σ[j]?)->Q σ' H
def PGs.imp (h:PGs X es t) (i:∀v σ H Q,t' v σ H Q->t v σ H Q):PGs X es t':=λpins s σ H v u Q I r q=>h pins s σ H v u Q I r (i v σ H Q q)
abbrev DGs(X:Cx)(fl:List Fl)(tg:List Nat)(es:List Expr)(g:List D->DS->Option DS):Prop:=PGs X es (ar8 X.K fl tg g)
theorem su:DGs X fl [] [] jH:=PGs.imp U9 λvs σ H Q h=>by
 obtain⟨G,ow,δ,ds,δ',R,r,Z,q⟩:=h
 cases r with
 |nil=>cases Z;exact⟨rfl,q σ R λ_ _=>rfl⟩
 |cons _ _=>cases Z
theorem iw {g:FG} {gs:List D->DS->Option DS} (h1:DG X fl l e g) (h2:DGs X fl B es gs) (hs:(assignEach (e::es) X.env).map (·.2)=assign e X.env::(assignEach es X.env).map (·.2):=by rfl) :
 DGs X fl (l++B) (e::es) (cM g gs):=PGs.imp (Qi h1 h2 hs) λvs σ H Q h=>by
 obtain⟨G,ow,δ,ds,δ',R,r,U,q⟩:=h
 cases r with
 |nil=>cases U
 |cons S T=>
  refine D3.ex1 (bind1 U) λY e1 e2=>?_
  refine⟨_,_,rfl,G,ow,δ,_,Y,R,S,e1,λσ' R' k1=>⟨G,ow,Y,_,δ',R',T,e2,λZ W k2=>q Z W λj V=>?_⟩⟩;rw[k2 j λz=>V (bw _ z),k1 j λz=>V (bO _ z)]
def vH {gs:List D->DS->Option DS} {k:Nat} (J:X.calm=true) (h:DGs X fl m es gs) (hn:(assignEach es X.env).length=n:=by rfl) (B:(assignEach es X.env).findIdx? (·.1)=none:=by rfl) :
 DG X fl m (.Tuple es k pos) (gTn n gs):=PG.imp (YX (n:=n) J h hn B) λv σ H Q h=>by
 obtain⟨G,ow,δ,d,δ',R,r,Z,q⟩:=h;unfold gTn at Z;split at Z
 .next l=>
  by_cases z:l.length=n
  .rw[if_pos z]at Z;obtain⟨a,xs,rfl,W,Y⟩:=r.tupE;exact⟨a,xs,rfl,W,by rwa[Y.length],G,ow,δ,l,δ',R,Y,Z,q⟩
  .rw[if_neg z]at Z
   cases Z
 .cases Z
def QH (h:DE X fl .A e f) (B:DG X fl l t m) (hs:swapsWithSole [t] e pos.line X.env=pure false:=by rfl) (hw:swappedStores [t] e X.env=pure none:=by rfl)
 (h1:(assignEach [t] X.env).map (·.2)=[assign t X.env]:=by rfl):DS1 X fl (.Assign [t] e pos) (J5 f m):=PS.imp (JW h B hs hw h1) λDn σ H h=>by
 refine D3.ex4 h λG ow δ o R Z q=>?_
 refine D3.ex1 (bind1 Z) λd e1 e2=>?_
 refine D3.ex1 (bind1 e2) λδ' e3 Y=>?_
 cases Y;exact⟨G,ow,δ,d,R,e1,λv H' s r=>⟨G,ow,δ,d,δ',R.grow s,r,e3,λσ' R' _=>q ow σ' H' R'⟩⟩
end
end D3
variable{l:List D3.D}{vpos:Pos}{fa:D3.FA}{δ':D3.DS}
namespace D3
open L2 My
section
variable{a b c:Expr}{st:gv}{k:Kd}{f fa:FE}{fs gs:FS}
theorem QJ (R:Rel K fl G ow σ H δ) (B:fl[i]? = some .O) (h:aj i δ=some (.list l)) :
 ∃a xs,ow i=some a/\σ[i]? = some (some (.ref a))/\H a=some (.lst xs)/\RAs K (okA ow) true H xs l:=by
 have e:=kW h
 cases Z:ow i with
 |none=>
  have z:=R.oo i _ e (by rw[B];rfl) (by rw[B];simp) Z;simp[flat]at z
 |some a=>
  obtain⟨W,_,xs,ds,h1,h2,X,Y⟩:=R.own i a Z;rw[e]at Y
  cases Y;exact⟨a,xs,rfl,h1,h2,X⟩
def xZ(hfl:fl[i]? = some .O)(h:DE X fl .A e f)(hN:X.N[i]? = some x)(hv:Vis X.env.scope x:=by first|exact fE rfl|exact fg (fE rfl)|exact fg (fg rfl))(hd:(x==("__debug__":Str))=false:=by decide)
 (hcd:(x==("__classdict__":Str))=false:=by decide)
 (hs:swapsWith (.Call (.Attribute (.Name x vpos) "append" apos) [e] [] cpos) none pos.line X.env=pure false:=by rfl)
 (J:attributeBase (.Name x vpos) "append" X.env (eval (.Name x vpos) X.env)=eval (.Name x vpos) X.env:=by rfl)
 (hfew:((backTo cpos (starEach [e] X.env)).all (λx=>!x.1)&&(backToKw cpos (keywordEach [] X.env)).all (λx=>x.1.isSome)
  && decide (([e]:List Expr).length+([]:List hV).length+(if([]:List hV).isEmpty then 0 else 1)<30))=true:=by rfl)
 (D:(apos.endLine==cpos.line)=true:=by rfl) (Y:starEach [e] X.env=(false,eval e X.env)::starEach [] X.env:=by rfl) (B:(backTo cpos (starEach [] X.env)).any (·.1)=false:=by rfl) :
 DS1 X fl (.Expr (.Call (.Attribute (.Name x vpos) "append" apos) [e] [] cpos) pos) (zc i f):=
 PS.imp (zB (X7 PySem.F.plainAttrs_list PySem.F.slot_list_append PySem.F.type_list_append xT (pK hN hv hd hcd) (jk h nC Y) J hfew D Y B) hs) λDn σ H h=>by
 refine D3.ex4 h λG ow δ o R Z q=>?_
 refine D3.ex1 (bind1 Z) λx e1 U=>?_
 refine D3.ex1 (bind1 U) λd e2 V=>?_
 have Z:=V;split at Z
 case h_2=>cases Z
 next l=>
 by_cases W:l.length<1000000
 .rw[if_pos W]at Z
  cases Z;obtain⟨a,xs,S,h1,h2,T⟩:=QJ R hfl e1;refine⟨_,h1,.inl ⟨rfl,_,SqL.of h2⟩,G,ow,δ,d,R,e2,λv H' s r=>?_⟩;have R':=R.grow s;refine⟨a,xs,v,rfl,rfl,s _ _ h2,by rw[T.length];exact j9 W (by decide),?_⟩;exact q ow σ _ (R'.mut hfl S ((T.same s).append (.cons r .nil)))
 .rw[if_neg W]at Z
  cases Z
def Zj (B:fl[i]? = some .O) (h:DE X fl .A e f) (hk:DE X fl .P m t) (hN:X.N[i]? = some x) (hv:Vis X.env.scope x:=by first|exact fE rfl|exact fg (fE rfl)|exact fg (fg rfl)) (hd:(x==("__debug__":Str))=false:=by decide)
 (hcd:(x==("__classdict__":Str))=false:=by decide) (ha:∀v,assign (.Subscript (.Name x vpos) m spos) X.env v=(do
  let D <-holding [v] (eval (.Name x vpos) X.env)
  let J <-holding [v,D] (eval m X.env)
  standAt spos
  holding [v,D,J] (setItem D J v)
  release [v,D,J] []):=by intro _;rfl)
 (hs:swapsWithSole [.Subscript (.Name x vpos) m spos] e pos.line X.env=pure false:=by rfl) (hw:swappedStores [.Subscript (.Name x vpos) m spos] e X.env=pure none:=by rfl)
 (h1:(assignEach [.Subscript (.Name x vpos) m spos] X.env).map (·.2)=[assign (.Subscript (.Name x vpos) m spos) X.env]:=by rfl) :
 DS1 X fl (.Assign [.Subscript (.Name x vpos) m spos] e pos) (Hq i t f):=
 PS.imp (JW h (Qj (pK hN hv hd hcd) hk set_list ha) hs hw h1) λDn σ H h=>by
 refine D3.ex4 h λG ow δ o R Z q=>?_
 refine D3.ex1 (bind1 Z) λd e2 V=>?_
 refine D3.ex1 (bind1 V) λx e1 W=>?_
 refine D3.ex1 (bind1 W) λk e3 Y=>?_
 have Z:=Y;split at Z
 case h_2=>cases Z
 next l j=>
 refine D3.ex1 (bind1 Z) λn M Q=>?_
 cases Q;obtain⟨a,xs,S,h1,h2,U⟩:=QJ R B e1;refine⟨G,ow,δ,d,R,e2,λv H' s r=>⟨_,h1,G,ow,δ,_,R.grow s,e3,λu H2 s2 T=>?_⟩⟩;obtain rfl:=RA.intE T;have R2:=R.grow (s.trans s2);refine⟨a,xs,j,n,rfl,rfl,(s.trans s2) _ _ h2,by rwa[U.length],?_⟩;exact q ow σ _ (R2.mut B S (RAs.set (RA.same s2 r) n (U.same (s.trans s2))))
def X_(K:PySem.W.Frag)(ow:Ow)(L:List Nat)(H1:Hp)(J:It)(l:List D):Prop:=∀H2:Hp,(∀b o,H1 b=some o->(∀i,ow i=some b->i∈L)->(∀i,b∉ow.n i)->H2 b=some o)->∀i:Nat,
 (∀d,l[i]? = some d->J.go i H2/\∀x Z,J.yld i H2 x Z->Same H2 Z/\RA K (λb=>okA ow b/\H1 b≠none) true Z x d)/\(l.length<=i->J.stop i H2)
noncomputable def tDI(K:PySem.W.Frag)(fl:List Fl)(L:List Nat)(fi:FA):TI:=λσ H R'=>∃G ow δ l,Rel K fl G ow σ H δ/\fi δ=some l/\∀J H1,Same H H1->X_ K ow L H1 J l->R' J H1
abbrev DI(X:Cx)(fl:List Fl)(L:List Nat)(tg iter:Expr)(fi:FA):Prop:=PI X tg iter (tDI X.K fl L fi)
def PI.imp (h:PI X tg m t) (i:∀σ H R',t' σ H R'->t σ H R'):PI X tg m t':=λpins s σ H R' I q=>h pins s σ H R' I (i σ H R' q)
section
variable{ok:Ok}{H2:Hp}{ow:Ow}
def nm{b:Addr} (B:∀i b,ow i=some b->∃xs,H1 b=some (.lst xs)) (h:H1 b=some m) (hn:∀xs,m ≠ .lst xs):∀i,ow i=some b->i∈L:=λi e=>by
 obtain⟨xs,z⟩:=B i b e;rw[h]at z;exact absurd (cR.inj z) (hn xs)
def nm2{b:Addr} (B:∀i b,b∈ow.n i->Chd (H1 b)) (h:H1 b=some m) (hn:Chg m->False):∀i,b∉ow.n i:=λi e=>by
 obtain⟨u,z,c⟩:=B i b e;rw[h]at z
 cases z;exact hn c
mutual
theorem RA.keep(hk:∀b o,H1 b=some o->(∀i,ow i=some b->i∈L)->(∀i,b∉ow.n i)->H2 b=some o)(hl:∀i b,ow i=some b->∃xs,H1 b=some (.lst xs))(hm:∀i b,b∈ow.n i->Chd (H1 b))(ho:∀b,ok b->okA ow b):∀{v:V}{d:D},RA K ok pl H1 v d->RA K ok pl H2 v d
 |_,_,.non=>.non
 |_,_,.bl b=>.bl b
 |_,_,.int i=>.int i
 |_,_,.str x=>.str x
 |_,_,.lst e k q=>.lst (hk _ _ e (λi z=>absurd z ((ho _ k).1 i)) (ho _ k).2) k (RAs.keep hk hl hm ho q)
 |_,_,.lsk e k q=>.lsk (by
  rcases e with⟨o,e⟩|e
  .exact .inl ⟨o,hk _ _ e (nm hl e (by intro xs z;cases z)) (nm2 hm e Chg.frz)⟩
  .exact .inr e) k (RAs.keep hk hl hm ho q)
 |_,_,.tup e q=>.tup (hk _ _ e (nm hl e (by intro xs z;cases z)) (nm2 hm e Chg.tup)) (RAs.keep hk hl hm ho q)
 |_,_,.dic e g k=>.dic (hk _ _ e (λi z=>absurd z ((ho _ k).1 i)) (ho _ k).2) (g.imp λ_ _ t=>hk _ _ t (nm hl t (by intro xs z;cases z)) (nm2 hm t Chg.tup)) k
 |_,_,.dik e g k=>.dik (hk _ _ e (nm hl e (by intro xs z;cases z)) (nm2 hm e Chg.frz)) (g.imp λ_ _ t=>hk _ _ t (nm hl t (by intro xs z;cases z)) (nm2 hm t Chg.tup)) k
theorem RAs.keep(hk:∀b o,H1 b=some o->(∀i,ow i=some b->i∈L)->(∀i,b∉ow.n i)->H2 b=some o)(hl:∀i b,ow i=some b->∃xs,H1 b=some (.lst xs))(hm:∀i b,b∈ow.n i->Chd (H1 b))(ho:∀b,ok b->okA ow b):∀{v:List V}{d:List D},RAs K ok pl H1 v d->RAs K ok pl H2 v d
 |_,_,.nil=>.nil
 |_,_,.cons e q=>.cons (RA.keep hk hl hm ho e) (RAs.keep hk hl hm ho q)
end
end
def Rel.ownL (R:Rel K fl G ow σ H δ):∀i b,ow i=some b->∃xs,H b=some (.lst xs):=λi b e=>by
 obtain⟨_,_,xs,_,_,h2,_⟩:=R.own i b e;exact⟨xs,h2⟩
def Rel.ownC (R:Rel K fl G ow σ H δ):∀i b,b∈ow.n i->Chd (H b):=λi b e=>(R.nt i b e).2.1
def yc (R:Rel K fl G ow σ H δ) (r:Rs K G.H0 ow Hb H (.B L) v (.list l)):∃a xs,v = .ref a/\SqL K H a xs /\
 ∀H2:Hp,(∀b o,H b=some o->(∀i,ow i=some b->i∈L)->(∀i,b∉ow.n i)->H2 b=some o)->SqL K H2 a xs/\RAs K (λb=>okA ow b/\H b≠none) true H2 xs l:=by
 rcases r with r|⟨i,hi,a,xs,ds,X,rfl,e,Y,W⟩
 .cases r with
  |lst e k q=>exact⟨_,_,rfl,SqL.of e,λH2 Z=>⟨SqL.of (Z _ _ e (λi z=>absurd z (k.1 i)) k.2),RAs.keep Z R.ownL R.ownC (λb z=>z.1) q.track⟩⟩
  |lsk e k q=>exact⟨_,_,rfl,e.sq,λH2 Z=>⟨SqK.sq (by
   rcases e with⟨o,e⟩|e
   .exact .inl ⟨o,Z _ _ e (nm R.ownL e (by intro xs z;cases z)) (nm2 R.ownC e Chg.frz)⟩
   .exact .inr e),RAs.keep Z R.ownL R.ownC (λb z=>z.1) q.track⟩⟩
 .cases e;exact⟨a,xs,rfl,SqL.of Y,λH2 Z=>⟨SqL.of (Z _ _ Y (λj z=>by rwa[R.inj j i a z X]) (λj z=>R.ns j i a z X)),RAs.keep Z R.ownL R.ownC (λb z=>z.1) W.track⟩⟩
def qj(h:DE X fl (.B L) e f):DI X fl L tg e (xV f):=PI.imp (Li h) λσ H R' h=>by
 refine D3.ex4 h λG ow δ l R Q q=>?_
 refine D3.ex1 (bind1 Q) λd e1 e2=>?_
 cases d<;>first|(cases e2;done)|skip
 cases e2;refine⟨G,ow,δ,_,R,e1,λv H1 s r=>?_⟩;obtain⟨a,xs,rfl,S,keep⟩:=yc (R.grow s) r;refine⟨a,rfl,⟨xs,S⟩,q _ _ s λH2 k2 i=>?_⟩;obtain⟨Z,W⟩:=keep H2 k2;refine⟨λd hd=>?_,λP=>⟨xs,Z,by rwa[W.length]⟩⟩;obtain⟨y,V,U⟩:=W.get hd;refine⟨⟨xs,y,Z,V⟩,λx O Y=>?_⟩;obtain⟨e,T⟩:=Y;subst e;have:some y=some x:=V.symm.trans (T xs Z)
 cases this;exact⟨Same.refl _,U⟩
def QK(lo hi:Int):(iu lo hi).length=(hi-lo).toNat:=by simp[iu]
def Ht {H1:Hp}(lo hi:Int):X_ K ow L H1 (Itr lo (hi-lo).toNat) (iu lo hi):=by
 intro H2 _ i;refine⟨λd hd=>?_,λY=>by rw[QK]at Y;exact Y⟩;unfold iu at hd;rw[aW]at hd;by_cases Z:i<(hi-lo).toNat
 .rw[dU Z]at hd
  cases hd;refine⟨Z,λx W X=>?_⟩;obtain⟨e,e2⟩:=X;subst e e2;exact⟨Same.refl _,.int _⟩
 .rw[bx (by simpa using Z)]at hd
  cases hd
def uw (h:xW m=true) : -(2^62)<=m/\m<2^62:=by
 unfold xW at h;rw[aK]at h;exact⟨of_decide_eq_true h.1,of_decide_eq_true h.2⟩
def lZ{fa:FA}(B:Gl X "range")(hm:X.mg "range"=none)(h:DA X fl [a] fa)(hs:starEach [a] X.env=[(false,eval a X.env)]:=by rfl):DI X fl L tg (.Call (.Name "range" p) [a] [] pos) (oM fa):=
 PI.imp (N8 B hm h hs) λσ H R' h=>by
 refine D3.ex4 h λG ow δ l R W q=>?_
 refine D3.ex1 (bind1 W) λds e1 e2=>?_
 split at e2
 .next j=>
  by_cases z:xW j=true
  .rw[if_pos z]at e2
   cases e2;refine⟨G,ow,δ,_,R,e1,λvs H1 s r=>?_⟩
   cases r with
   |cons Y Z=>
    cases Z;obtain rfl:=Y.intE;refine⟨j,rfl,(uw z).1,(uw z).2,?_⟩;have w:=Ht (K:=X.K) (ow:=ow) (L:=L) (H1:=H1) 0 j;rw[rO]at w;exact q _ _ s w
  .rw[if_neg z]at e2
   cases e2
 .cases e2
def Om{fa:FA}(D:Gl X "range")(hm:X.mg "range"=none)(h:DA X fl [a,b] fa)(hs:starEach [a,b] X.env=[(false,eval a X.env),(false,eval b X.env)]:=by rfl)(B:starEach [b] X.env=[(false,eval b X.env)]:=by rfl):
 DI X fl L tg (.Call (.Name "range" p) [a,b] [] pos) (Dr fa):=PI.imp (N_ D hm h hs B) λσ H R' h=>by
 refine D3.ex4 h λG ow δ l R V q=>?_
 refine D3.ex1 (bind1 V) λds e1 e2=>?_
 split at e2
 .next i j=>
  by_cases z:(xW i&&xW j)=true
  .rw[if_pos z]at e2
   cases e2;rw[aK]at z;refine⟨G,ow,δ,_,R,e1,λvs H1 s r=>?_⟩
   cases r with
   |cons W Z=>
    cases Z with
    |cons Z Y=>
     cases Y;obtain rfl:=W.intE;obtain rfl:=Z.intE;exact⟨i,j,rfl,⟨(uw z.1).1,(uw z.1).2,(uw z.2).1,(uw z.2).2⟩,q _ _ s (Ht i j)⟩
  .rw[if_neg z]at e2
   cases e2
 .cases e2
def lock(L:List Nat)(fl:List Fl):List Fl:=fl.mapIdx λi x=>if x = .O/\i∈L then .L else x
def n_:(lock L fl)[i]? = (fl[i]?).map λx=>if x = .O/\i∈L then .L else x:=by
 unfold lock;rw[fQ]
theorem QL:(lock L fl)[i]? = some .A<->fl[i]? = some .A:=by
 rw[n_]
 cases h:fl[i]? with
 |none=>simp
 |some x=>
  cases x<;>simp
  by_cases z:i∈L<;>simp[z]
theorem J9(h:(lock L fl)[i]? = some .O):fl[i]? = some .O/\i∉L:=by
 rw[n_]at h
 cases e:fl[i]? with
 |none=>rw[e]at h;simp at h
 |some x=>
  rw[e]at h
  cases x<;>simp at h
  by_cases z:i∈L
  .simp[z]at h
  .exact⟨rfl,z⟩
def J_(h:fl[i]? = some .L):(lock L fl)[i]? = some .L:=by
 rw[n_,h];simp
def Lx(h:fl[i]? = some .O)(hi:i∈L):(lock L fl)[i]? = some .L:=by
 rw[n_,h];simp[hi]
def Ly(h:fl[i]? = some .O)(hi:i∉L):(lock L fl)[i]? = some .O:=by
 rw[n_,h];simp[hi]
theorem Fg:(lock L fl)[i]? = some .N<->fl[i]? = some .N:=by
 rw[n_]
 cases h:fl[i]? with
 |none=>simp
 |some x=>
  cases x<;>simp
  by_cases z:i∈L<;>simp[z]
theorem Kc:(lock L fl)[i]? = some .M<->fl[i]? = some .M:=by
 rw[n_]
 cases h:fl[i]? with
 |none=>simp
 |some x=>
  cases x<;>simp
  by_cases z:i∈L<;>simp[z]
theorem rG:isN (lock L fl)[i]? = isN fl[i]?:=by
 rw[n_]
 cases h:fl[i]? with
 |none=>rfl
 |some x=>
  cases x<;>simp[isN]
  by_cases z:i∈L<;>simp[z]
def Let(fl':List Fl)(ow:Ow)(b:Addr):Prop:=(∃j,ow j=some b/\fl'[j]? = some .O)\/∃j,b∈ow.n j/\fl'[j]? = some .N
open Classical in
def ghL(fl':List Fl)(G:Gh)(ow:Ow)(H:Hp):Gh:=⟨G.H0,λb=>if Let fl' ow b then none else H b,ow,ow.n,G.tb⟩
open Classical in
def sy {b:Addr} (h:¬Let fl' ow b):(ghL fl' G ow H).HF b=H b:=by
 unfold ghL;dsimp only;rw[if_neg h]
open Classical in
def Ke {b:Addr} (h:Let fl' ow b):(ghL fl' G ow H).HF b=none:=by
 unfold ghL;dsimp only;rw[if_pos h]
def Rel.lock (L:List Nat) (R:Rel K fl G ow σ H δ):Rel K (lock L fl) (ghL (lock L fl) G ow H) ow σ H δ:=by
 refine⟨λb o X=>?_,λb o X=>?_,R.len,λi a h=>?_,R.inj,λi h=>rfl,λi d h1 hn h2=>R.dat i d h1 (by rw[rG]at hn;exact hn) h2,λi d h1 hn h2 V=>R.oo i d h1 (by rw[rG]at hn;exact hn) (λz=>h2 (QL.mpr z)) V,λi a h=>?_,R.nd,R.ns,λi h=>rfl,λi d hn h1=>R.nr i d (by rw[rG]at hn;exact hn) h1⟩
 .have Y:G.H0 b=some o:=X;rw[sy]
  .exact R.same0 b o Y
  .rintro(⟨j,e,_⟩|⟨j,e,_⟩)
   .have:=(R.own j b e).1;rw[Y]at this
    cases this
   .have:=(R.nt j b e).1;rw[Y]at this
    cases this
 .by_cases z:Let (D3.lock L fl) ow b
  .rw[Ke z]at X;cases X
  .rw[sy z]at X;exact X
 .obtain⟨S,Z,xs,ds,h1,h2,V,T⟩:=R.own i a h;refine⟨S,?_,xs,ds,h1,h2,V,T⟩;have out:(D3.lock L fl)[i]? = some .L->(ghL (D3.lock L fl) G ow H).HF a=H a:=λU=>sy (by
   rintro(⟨j,e,W⟩|⟨j,e,W⟩)
   .rw[R.inj j i a e h,U]at W
    cases W
   .exact R.ns j i a e h)
  rcases Z with⟨Z,_⟩|⟨Z,_⟩
  .by_cases hi:i∈L
   .exact .inr ⟨Lx Z hi,xs,by rwa[out (Lx Z hi)]⟩
   .exact .inl ⟨Ly Z hi,Ke (.inl ⟨i,h,Ly Z hi⟩)⟩
  .exact .inr ⟨J_ Z,xs,by rwa[out (J_ Z)]⟩
 .obtain⟨g1,g2,g3⟩:=R.nt i a h;refine⟨g1,g2,?_⟩;rcases g3 with⟨z,_⟩|z
  .exact .inl ⟨Fg.mpr z,Ke (.inr ⟨i,h,Fg.mpr z⟩)⟩
  .exact .inr (Kc.mpr z)
def Rel.unlock (R:Rel K fl G ow σ H δ) (R':Rel K (D3.lock L fl) (ghL (D3.lock L fl) G ow H) B σ' H' δ'):Rel K fl G B σ' H' δ':=by
 have sub:Same G.HF (ghL (D3.lock L fl) G ow H).HF:=λb o W=>by
  rw[sy]
  .exact R.s1 b o W
  .rintro(⟨j,e,X⟩|⟨j,e,X⟩)
   .rcases(R.own j b e).2.1 with⟨_,z⟩|⟨z,_⟩
    .rw[W]at z;cases z
    .have:=(J9 X).1;rw[z]at this
     cases this
   .rcases(R.nt j b e).2.2 with⟨_,z⟩|z
    .rw[W]at z;cases z
    .have:=Fg.mp X;rw[z]at this
     cases this
 refine⟨R.s0,sub.trans R'.s1,R'.len,λi a h=>?_,R'.inj,λi h=>?_,λi d h1 hn h2=>R'.dat i d h1 (by rwa[rG]) h2,λi d h1 hn h2 V=>R'.oo i d h1 (by rwa[rG]) (λz=>h2 (QL.mp z)) V,λi a h=>?_,R'.nd,R'.ns,λi h=>?_,λi d hn h1=>R'.nr i d (by rwa[rG]) h1⟩
 .obtain⟨U,Z,rest⟩:=R'.own i a h;refine⟨U,?_,rest⟩;rcases Z with⟨Z,Y⟩|⟨Z,_⟩
  .exact .inl ⟨(J9 Z).1,sub.free Y⟩
  .have e:=R'.pin i Z;rw[e]at h;exact(R.own i a h).2.1
 .have e:=R'.pin i (J_ h);rw[e];exact R.pin i h
 .obtain⟨g1,g2,g3⟩:=R'.nt i a h;rcases g3 with⟨z,Y⟩|z
  .exact⟨g1,g2,.inl ⟨Fg.mp z,sub.free Y⟩⟩
  .exact⟨g1,g2,.inr (Kc.mp z)⟩
 .have e:=R'.np i (Kc.mpr h);rw[e];exact R.np i h
def lQ{iter:Expr}{T:List Nat} (hp:PassesOwn (model X.prog X.w) X.A X.env X.xe) (hc:X.calm=true) (hi:DI X fl L tg iter fi) (hg:DG X (lock L fl) T tg q0) (B:DSs X (lock L fl) body fs)
 (hs:∀x,foldedSetIterable iter X.env x=pure x:=by intro _;rfl):DS1 X fl (.For tg iter body [] pos) (mC fi q0 fs):=PS.imp (Y0 hp hc hi hg B hs) λDn σ H h=>by
 refine D3.ex4 h λG ow δ o M p q=>?_
 refine D3.ex1 (bind1 p) λl e1 e2=>?_
 refine⟨G,ow,δ,l,M,e1,λJ H1 s E=>?_⟩;have O:=M.grow s;have a:=O.lock L;refine⟨λi m σ' H'=>m=l.length-i/\∃Z δ',Rel X.K (lock L fl) (ghL (lock L fl) G ow H1) Z σ' H' δ'/\iH q0 fs (l.drop i) δ'=some o,⟨_,rfl,ow,δ,a,by simpa using e2⟩,?_⟩;rintro i m σ' H' ⟨rfl,Z,δ',R',hd⟩;have kept:∀b o,H1 b=some o->(∀i,ow i=some b->i∈L)->(∀i,b∉ow.n i)->H' b=some o:=λb o B t hn=>R'.s1 b o (by
  rw[sy]
  .exact B
  .rintro(⟨j,e,r⟩|⟨j,e,_⟩)
   .exact(J9 r).2 (t j e)
   .exact hn j e)
 obtain⟨C,D⟩:=E H' kept i;by_cases P:i<l.length
 .have R:=iU P;rw[R,iH]at hd;refine D3.ex1 (bind1 hd) λQ e3 hd=>?_
  refine D3.ex1 (bind1 hd) λN k hd=>?_
  obtain⟨go,F⟩:=C l[i] (aA P);refine .inr ⟨go,λσ' H'=>∃Z δ',Rel X.K (lock L fl) (ghL (lock L fl) G ow H1) Z σ' H' δ'/\iH q0 fs (l.drop (i+1)) δ'=some o,λU H2 ⟨Y,W,R2,h2⟩=>⟨l.length-(i+1),by lia,rfl,Y,W,R2,h2⟩,λx H3 u=>?_⟩;obtain⟨s3,y⟩:=F x H3 u;have sub:∀b,okA ow b/\H1 b≠none->okA Z b:=λb z=>by
   obtain⟨z1,z2⟩:=z;refine⟨λj e=>?_,λj e=>?_⟩
   .rcases(R'.own j b e).2.1 with⟨_,S⟩|⟨S,_⟩
    .have:(ghL (lock L fl) G ow H1).HF b=H1 b:=sy (by rintro(⟨j',V,_⟩|⟨j',V,_⟩);exact z1.1 j' V;exact z1.2 j' V);rw[this]at S;exact z2 S
    .have V:Z j=ow j:=R'.pin j S;rw[V]at e;exact z1.1 j e
   .rcases(R'.nt j b e).2.2 with⟨_,S⟩|w
    .have:(ghL (lock L fl) G ow H1).HF b=H1 b:=sy (by rintro(⟨j',V,_⟩|⟨j',V,_⟩);exact z1.1 j' V;exact z1.2 j' V);rw[this]at S;exact z2 S
    .have V:Z.n j=ow.n j:=R'.np j w;rw[V]at e;exact z1.2 j e
  refine⟨_,Z,δ',_,Q,R'.grow s3,y.imp sub (λz=>z),e3,λI R4 _=>⟨_,Z,Q,N,R4,k,?_⟩⟩
  .cases N with
   |nx W=>exact λY U H2 R2=>⟨Y,W,R2,hd⟩
   |ct W=>exact λY U H2 R2=>⟨Y,W,R2,hd⟩
   |bk W=>cases hd;exact λY U H2 R2=>q Y U H2 (O.unlock R2)
   |rt d=>cases hd;exact q
   |ex c f v=>cases hd;exact q
 .have e:l.drop i=[]:=fX (by lia);rw[e,iH]at hd
  cases hd;exact .inl ⟨D (by lia),q Z σ' H' (O.unlock R')⟩
end
end D3
variable{g':D3.D->D3.D->Option D3.D}
namespace D3
open L2 My
def notStar:Expr->Bool
 | .Starred _ _=>false
 |_=>true
def mU (h:notStar c=true):starEach (c::k) env=(false,eval c env)::starEach k env:=by
 cases c<;>first|rfl|cases h
theorem Lz (h:c.all notStar=true):(backTo k (starEach c env)).any (·.1)=false:=by
 induction c with
 |nil=>rfl
 |cons e c Z=>
  rw[List.all_cons,aK]at h;rw[mU h.1];have:=Z h.2;unfold backTo at this ⊢;rw[aG,nH,this];rfl
def isR:Kd->Bool
 | .P=>true
 | .A=>true
 | .R=>true
 | .C=>true
 |_=>false
def QM(H0:Hp)(ow:Ow)(Hb:Hp):Kd->Ok
 | .P=>ok1
 | .A=>okA ow
 | .R=>okN H0
 |_=>okN Hb
def Zk:Kd->Bool
 | .P=>true
 | .A=>true
 |_=>false
section
variable{H0 Hb Hc H:Hp}{ow:Ow}{v:V}{d:D}{k:Kd}
def Rs.ra(B:isR k=true)(h:Rs K H0 ow Hb H k v d):RA K (QM H0 ow Hb k) (Zk k) H v d:=by
 cases k<;>first|exact h|cases B
def Rs.of_ra(B:isR k=true)(h:RA K (QM H0 ow Hb k) (Zk k) H v d):Rs K H0 ow Hb H k v d:=by
 cases k<;>first|exact h|cases B
def Oo(s:Same Hb Hc)(B:isR k=true):∀a,QM H0 ow Hc k a->QM H0 ow Hb k a:=λa z=>by
 cases k<;>first|exact z|exact s.free z|cases B
theorem Rs.of_flat(D:flat d=true)(h:RA K ok0 false H v d):Rs K H0 ow Hb H k v d:=by
 cases k with
 |P=>exact RA.flat D h
 |B L=>exact .inl (RA.flat D h)
 |A=>exact RA.flat D h
 |R=>exact RA.flat D h
 |F=>exact .inl ⟨D,h⟩
 |C=>exact RA.flat D h
 |FC=>exact .inl ⟨D,h⟩
 |T=>
  obtain⟨as,h1,_,Z⟩:=RA.rt h
  cases as with
  |nil=>exact⟨[],h1,.nil,λ_ z=>by cases z⟩
  |cons a r=>exact(Z a ao).elim
theorem Rs.back(s:Same Hb Hc)(h:Rs K H0 ow Hc H k v d):Rs K H0 ow Hb H k v d:=by
 cases k with
 |P=>exact h
 |B L=>exact h
 |A=>exact h
 |R=>exact h
 |F=>
  rcases h with h|⟨a,xs,ds,h1,h2,Z,Y⟩
  .exact .inl h
  .exact .inr ⟨a,xs,ds,h1,h2,s.free Z,Y⟩
 |C=>exact RA.imp (λa z=>s.free z) (λz=>z) h
 |FC=>
  rcases h with h|⟨a,xs,ds,h1,h2,Z,Y,X⟩
  .exact .inl h
  .exact .inr ⟨a,xs,ds,h1,h2,s.free Z,Y,X.imp (λb z=>⟨s.free z.1,z.2⟩) (λz=>z)⟩
 |T=>
  obtain⟨as,h1,h2,Z⟩:=h;exact⟨as,h1,h2,λa z=>s.free (Z a z)⟩
end
def tDB(K:PySem.W.Frag)(fl:List Fl)(k:Kd)(f:FA):TA:=λσ H Q=>∃G ow δ ds,Rel K fl G ow σ H δ/\f δ=some ds/\∀vs H',Same H H'->RAs K (QM G.H0 ow H k) (Zk k) H' vs ds->Q vs H'
abbrev DB(X:Cx)(fl:List Fl)(k:Kd)(es:List Expr)(f:FA):Prop:=PA X es (tDB X.K fl k f)
section
variable{a b c:Expr}{rest:List Expr}{k:Kd}{f fa:FE}
def Zm:DB X fl k [] aM:=PA.imp nC λσ H Q h=>by
 refine D3.ex4 h λG ow δ ds R Z q=>?_
 cases Z;exact q [] H (Same.refl H) .nil
def VB (B:isR k=true) (h:DE X fl k e f) (D:DB X fl k es fr) (hs:starEach (e::es) X.env=(false,eval e X.env)::starEach es X.env:=by exact mU rfl):DB X fl k (e::es) (ak f fr):=PA.imp (jk h D hs) λσ H Q h=>by
 refine D3.ex4 h λG ow δ ds R Z q=>?_
 refine D3.ex1 (bind1 Z) λd e1 Z=>?_
 refine D3.ex1 (bind1 Z) λr e2 Z=>?_
 cases Z;refine⟨G,ow,δ,d,R,e1,λv H1 s1 W=>⟨G,ow,δ,r,R.grow s1,e2,λvs H2 s2 Y=>?_⟩⟩;exact q _ H2 (s1.trans s2) (.cons ((W.ra B).same s2) (Y.imp (Oo s1 B) (λz=>z)))
def wA(h:DB X fl .P es B):DA X fl es B:=PA.imp h λσ H Q h=>by
 refine D3.ex4 h λG ow δ ds R Z q=>?_
 exact⟨G,ow,δ,ds,R,Z,λvs H' s r=>q vs H' s r⟩
def pL{x1}{fa:FA}(B:isR k=true)(h:DB X fl k es fa):DE X fl k (.Tuple es x1 pos) (dTup fa):=PE.imp (Qo h) λσ H Q h=>by
 refine D3.ex4 h λG ow δ d R Y q=>?_
 refine D3.ex1 (bind1 Y) λl e1 e2=>?_
 by_cases z:l.length<=sizeLine
 .rw[if_pos z]at e2
  cases e2;refine⟨G,ow,δ,l,R,e1,λvs H' s r=>⟨by rwa[r.length],λp Z=>?_⟩⟩;have g:=cP Z (.tup vs);exact q _ _ (s.trans g) (Rs.of_ra B (.tup bR (r.same g)))
 .rw[if_neg z]at e2
  cases e2
def ux{fa:FA}(h:DB X fl .A es fa):DE X fl .F (.List es pos) (gO fa):=PE.imp (J1 h) λσ H Q h=>by
 refine D3.ex4 h λG ow δ d R Y q=>?_
 refine D3.ex1 (bind1 Y) λl e1 e2=>?_
 by_cases z:l.length<=sizeLine
 .rw[if_pos z]at e2
  cases e2;refine⟨G,ow,δ,l,R,e1,λvs H' s r=>⟨by rwa[r.length],λp Z=>?_⟩⟩;have g:=cP Z (.lst vs);exact q _ _ (s.trans g) (.inr ⟨p,vs,l,rfl,rfl,s.free Z,bR,(r.track.imp (λb w=>⟨w.1,λe=>w.2 (e▸Z)⟩) (λz=>z)).same g⟩)
 .rw[if_neg z]at e2
  cases e2
def iM{fa:FA}(h:DB X fl .C es fa):DE X fl .FC (.List es pos) (gO fa):=PE.imp (J1 h) λσ H Q h=>by
 refine D3.ex4 h λG ow δ d R Y q=>?_
 refine D3.ex1 (bind1 Y) λl e1 e2=>?_
 by_cases z:l.length<=sizeLine
 .rw[if_pos z]at e2
  cases e2;refine⟨G,ow,δ,l,R,e1,λvs H' s r=>⟨by rwa[r.length],λp Z=>?_⟩⟩;have g:=cP Z (.lst vs);exact q _ _ (s.trans g) (.inr ⟨p,vs,l,rfl,rfl,s.free Z,bR,(r.track.imp (λb w=>⟨w.1,λe=>w.2 (e▸Z)⟩) (λz=>z)).same g⟩)
 .rw[if_neg z]at e2
  cases e2
def RAs.at{ok:Ok}{i:Int}(r:RAs K ok pl H vs l)(h:pAt l i=some d):∃v,atI vs i=some v/\RA K ok pl H v d:=by
 unfold atI;refine D3.ex1 (bind1 h) λj e1 e2=>?_
 obtain⟨y,e3,Z⟩:=r.get e2;exact⟨y,by rwa[r.length,show ixN l.length i=some j from e1],Z⟩
def ah2(ha:DE X fl (.B L) a fa)(D:DE X fl .P b fb)(hs:ur b):DE X fl .A (.Subscript a b pos) (dOp gIx fa fb):=PE.imp (Ln Eu ha D hs) λσ H Q h=>by
 refine D3.ex4 h λG ow δ d R N q=>?_
 refine D3.ex2 (Av N) λx y e1 e2 e3=>?_
 refine⟨G,ow,δ,x,R,e1,λv H1 s1 Y=>⟨G,ow,δ,y,R.grow s1,e2,λu H2 s2 T=>?_⟩⟩;unfold gIx at e3;split at e3
 .next l i=>
  obtain rfl:=RA.intE T;rcases Y with Y|⟨S,_,p,xs,ds,O,rfl,Z,W,V⟩
  .obtain⟨p,xs,rfl,W,V⟩:=RA.lstE (RA.same s2 Y);obtain⟨z,Z,U⟩:=V.at e3;exact .inl ⟨p,xs,i,z,rfl,rfl,W,Z,q z H2 (s1.trans s2) U⟩
  .cases Z;obtain⟨z,Z,U⟩:=(V.same s2).at e3;exact .inl ⟨p,xs,i,z,rfl,rfl,SqL.of (s2 _ _ W),Z,q z H2 (s1.trans s2) U⟩
 .next l i=>
  obtain rfl:=RA.intE T;rcases Y with Y|⟨S,_,p,xs,ds,O,rfl,Z,W,V⟩
  .obtain⟨p,xs,rfl,W,V⟩:=RA.tupE (RA.same s2 Y);obtain⟨z,Z,U⟩:=V.at e3;exact .inr (.inl ⟨p,xs,i,z,rfl,rfl,W,Z,q z H2 (s1.trans s2) U⟩)
  .cases Z
 .cases e3
def pN (h:DE X fl k a f):DE X fl k (.BoolOp B [a] pos) f:=YM h
def pO(h1:DE X fl .P a fa)(h2:DE X fl k (.BoolOp .And (b::rest) pos) fb):DE X fl k (.BoolOp .And (a::b::rest) pos) (xU fa fb):=PE.imp (YQ h1 h2) λσ H Q h=>by
 refine D3.ex4 h λG ow δ d R W q=>?_
 refine D3.ex1 (bind1 W) λx e1 e2=>?_
 refine⟨G,ow,δ,x,R,e1,λv H1 s1 Z=>?_⟩;split at e2
 .obtain rfl:=RA.blE Z;exact⟨true,rfl,Af ⟨G,ow,δ,d,R.grow s1,e2,λu H2 s2 Y=>q u H2 (s1.trans s2) (Y.back s1)⟩⟩
 .obtain rfl:=RA.blE Z
  cases e2;exact⟨false,rfl,Ae (q _ H1 s1 (Rs.of_flat rfl (.bl _)))⟩
 .cases e2
def ah3(h1:DE X fl .P a fa)(h2:DE X fl k (.BoolOp .Or (b::rest) pos) fb):DE X fl k (.BoolOp .Or (a::b::rest) pos) (dOr fa fb):=PE.imp (ae6 h1 h2) λσ H Q h=>by
 refine D3.ex4 h λG ow δ d R W q=>?_
 refine D3.ex1 (bind1 W) λx e1 e2=>?_
 refine⟨G,ow,δ,x,R,e1,λv H1 s1 Z=>?_⟩;split at e2
 .obtain rfl:=RA.blE Z
  cases e2;exact⟨true,rfl,Af (q _ H1 s1 (Rs.of_flat rfl (.bl _)))⟩
 .obtain rfl:=RA.blE Z;exact⟨false,rfl,Ae ⟨G,ow,δ,d,R.grow s1,e2,λu H2 s2 Y=>q u H2 (s1.trans s2) (Y.back s1)⟩⟩
 .cases e2
def QS(h1:DE X fl .P a fa):DE X fl .FC (.UnaryOp .Not a pos) (Vr fa):=PE.imp (YS h1) λσ H Q h=>by
 refine D3.ex4 h λG ow δ d R Y q=>?_
 refine D3.ex1 (bind1 Y) λx e1 e2=>?_
 refine⟨G,ow,δ,x,R,e1,λv H1 s1 Z=>?_⟩;split at e2
 .next c=>
  obtain rfl:=RA.blE Z
  cases e2;exact⟨c,rfl,q _ H1 s1 (Rs.of_flat rfl (.bl _))⟩
 .cases e2
theorem ah4(B:DT X fl c ft)(h1:DE X fl k a fa)(h2:DE X fl k b fb):DE X fl k (.IfExp c a b pos) (dIf ft fa fb):=PE.imp (Qf B h1 h2) λσ H Q h=>by
 refine D3.ex4 h λG ow δ d R Y q=>?_
 refine D3.ex1 (bind1 Y) λt e1 e2=>?_
 refine⟨G,ow,δ,t,R,e1,λH1 s1=>?_⟩
 cases t with
 |true=>exact Af ⟨G,ow,δ,d,R.grow s1,e2,λu H2 s2 Z=>q u H2 (s1.trans s2) (Z.back s1)⟩
 |false=>exact Ae ⟨G,ow,δ,d,R.grow s1,e2,λu H2 s2 Z=>q u H2 (s1.trans s2) (Z.back s1)⟩
theorem jW(h:DT X fl a ft):DT X fl (.UnaryOp .Not a pos) (iY ft):=PT.imp (YL h) λσ H Q h=>by
 refine D3.ex4 h λG ow δ t R Z q=>?_
 unfold iY at Z
 cases e:ft δ with
 |none=>rw[e]at Z;cases Z
 |some x=>
  rw[e]at Z
  cases Z;exact⟨G,ow,δ,x,R,e,λH' s=>q H' s⟩
def Fi(h:DT X fl a ft):DW X fl (.BoolOp .And [a] pos) ft:=U6 h
def oG(h:DT X fl a ft):DW X fl (.BoolOp .Or [a] pos) ft:=YJ h
theorem Kf(h1:DT X fl a ft)(h2:DW X fl (.BoolOp .And (b::rest) pos) gt):DW X fl (.BoolOp .And (a::b::rest) pos) (G3 ft gt):=PW.imp (YK h1 h2) λσ H Q h=>by
 refine D3.ex4 h λG ow δ t R Z q=>?_
 refine D3.ex1 (bind1 Z) λx e1 e2=>?_
 refine⟨G,ow,δ,x,R,e1,λH1 s1=>?_⟩
 cases x with
 |true=>exact Af ⟨G,ow,δ,t,R.grow s1,e2,λH2 s2=>q H2 (s1.trans s2)⟩
 |false=>cases e2;exact Ae (q H1 s1)
theorem qm(h1:DT X fl a ft)(h2:DW X fl (.BoolOp .Or (b::rest) pos) gt):DW X fl (.BoolOp .Or (a::b::rest) pos) (tOr ft gt):=PW.imp (ae3 h1 h2) λσ H Q h=>by
 refine D3.ex4 h λG ow δ t R Z q=>?_
 refine D3.ex1 (bind1 Z) λx e1 e2=>?_
 refine⟨G,ow,δ,x,R,e1,λH1 s1=>?_⟩
 cases x with
 |true=>cases e2;exact Af (q H1 s1)
 |false=>exact Ae ⟨G,ow,δ,t,R.grow s1,e2,λH2 s2=>q H2 (s1.trans s2)⟩
def vJ(h:DW X fl a ft):DT X fl a ft:=PW.pt h
def Hu{D B:ic}{r r':R2}(ho:OpR X (compareOp D) r)(J:OpR X (compareOp B) r')(hb:BrO X.K r g)(O:BrO X.K r' g')(h1:DE X fl .P a fa)(h2:DE X fl .P b fb)(h3:DE X fl .P c fc)
 (hm:lastMarks [D,B] [b,c]=false:=by with_unfolding_all rfl):DE X fl .FC (.Compare a [D,B] [b,c] pos) (lO g g' fa fb fc):=PE.imp (Qm ho J h1 h2 h3 hm) λσ H Q h=>by
 refine D3.ex4 h λG ow δ d R Z q=>?_
 refine D3.ex1 (bind1 Z) λx e1 Z=>?_
 refine D3.ex1 (bind1 Z) λy e2 Z=>?_
 refine D3.ex1 (bind1 Z) λz e3 Z=>?_
 refine⟨G,ow,δ,x,R,e1,λv H1 s1 N=>⟨G,ow,δ,y,R.grow s1,e2,λu H2 s2 W=>?_⟩⟩;refine hb H2 v u x y z _ (RA.same s2 N) W e3 λI V Y=>?_
 split at Z
 .obtain rfl:=Y.blE;refine D3.ex1 (bind1 Z) λw L M=>?_
  refine⟨true,rfl,Af ⟨G,ow,δ,w,R.grow (s1.trans s2),L,λT U s3 S=>?_⟩⟩;exact O U u T y w d Q (RA.same s3 W) S M λz V Y=>q z U (s1.trans (s2.trans s3)) (.inl ⟨V,Y⟩)
 .obtain rfl:=Y.blE
  cases Z;exact⟨false,rfl,Ae (q _ H2 (s1.trans s2) (.inl ⟨rfl,.bl _⟩))⟩
 .cases Z
def Oq{op J B:ic}{r r' O:R2}{g'':D->D->Option D} (ho:OpR X (compareOp op) r) (ho':OpR X (compareOp J) r') (ho'':OpR X (compareOp B) O) (hb:BrO X.K r g) (hb':BrO X.K r' g') (hb'':BrO X.K O g'') (h1:DE X fl .P a fa) (h2:DE X fl .P b fb) (h3:DE X fl .P c fc) (h4:DE X fl .P q0 q1)
 (hm:lastMarks [op,J,B] [b,c,q0]=false:=by with_unfolding_all rfl):DE X fl .FC (.Compare a [op,J,B] [b,c,q0] pos) (zF g g' g'' fa fb fc q1):=PE.imp (Oi ho ho' ho'' h1 h2 h3 h4 hm) λσ H Q h=>by
 refine D3.ex4 h λG ow δ m R Z q=>?_
 refine D3.ex1 (bind1 Z) λx e1 Z=>?_
 refine D3.ex1 (bind1 Z) λy e2 Z=>?_
 refine D3.ex1 (bind1 Z) λz e3 Z=>?_
 refine⟨G,ow,δ,x,R,e1,λv H1 s1 C=>⟨G,ow,δ,y,R.grow s1,e2,λu H2 s2 S=>?_⟩⟩;refine hb H2 v u x y z _ (RA.same s2 C) S e3 λl N W=>?_
 split at Z
 .obtain rfl:=W.blE;refine D3.ex1 (bind1 Z) λw n Z=>?_
  refine D3.ex1 (bind1 Z) λF o Z=>?_
  refine⟨true,rfl,Af ⟨G,ow,δ,w,R.grow (s1.trans s2),n,λV L s3 T=>?_⟩⟩;refine hb' L u V y w F _ (RA.same s3 S) T o λI A Y=>?_
  split at Z
  .obtain rfl:=Y.blE;refine D3.ex1 (bind1 Z) λt p s=>?_
   refine⟨true,rfl,Af ⟨G,ow,δ,t,R.grow (s1.trans (s2.trans s3)),p,λtv M U E=>?_⟩⟩;exact hb'' M V tv w t m Q (RA.same U T) E s λz N W=>q z M (s1.trans (s2.trans (s3.trans U))) (.inl ⟨N,W⟩)
  .obtain rfl:=Y.blE
   cases Z;exact⟨false,rfl,Ae (q _ L (s1.trans (s2.trans s3)) (.inl ⟨rfl,.bl _⟩))⟩
  .cases Z
 .obtain rfl:=W.blE
  cases Z;exact⟨false,rfl,Ae (q _ H2 (s1.trans s2) (.inl ⟨rfl,.bl _⟩))⟩
 .cases Z
def QT (r:RA K ok pl H v d):decide (v = .non)=isNone d:=by
 cases r<;>rfl
def VD{j pos'}(h:DE X fl .P a f):DE X fl .FC (.Compare a [.IsNot] [.Constant .none j pos'] pos) (dUn QC f):=PE.imp (Qe (U5 h)) λσ H Q h=>by
 refine D3.ex4 h λG ow δ d R Y q=>?_
 refine D3.ex1 (bind1 Y) λx e1 e2=>?_
 cases e2;refine⟨G,ow,δ,x,R,e1,λv H1 s1 Z=>?_⟩;show Q (.bl (!decide (v = .non))) H1;rw[QT (RA.same (Same.refl H1) Z)];exact q _ H1 s1 (.inl ⟨rfl,.bl _⟩)
def BrC(K:PySem.W.Frag)(r:List V->Hp->VK->Prop)(g:List D->Option D):Prop:=∀(H:Hp)(xs:List V)(ds:List D)(d:D)(Q:VK),RAs K ok1 true H xs ds->g ds=some d->(∀v,flat d=true->RA K ok0 false H v d->Q v H)->r xs H Q
def eX{id:String}{r:List V->Hp->VK->Prop}{g:List D->Option D}{fa:FA}(hc:m7 X (.builtin id) r)(hb:BrC X.K r g)(hg:Gl X x)(hm:X.mg x=none)(B:bootBuiltins x=some (.builtin id))(ha:DB X fl .P (e::es) fa)(hn:x≠"__name__" := by decide)(O:(x==("__debug__":Str))=false:=by decide)
 (he:starEach (e::es) X.env=(false,eval e X.env)::starEach es X.env:=by exact mU rfl) (J:(backTo pos (starEach es X.env)).any (·.1)=false:=by exact Lz rfl):DE X fl .FC (.Call (.Name x p) (e::es) [] pos) (dCall g fa):=
 PE.imp (n6 hc hg hm B ha hn O he J) λσ H Q h=>by
 refine D3.ex4 h λG ow δ d R W q=>?_
 refine D3.ex1 (bind1 W) λds e1 e2=>?_
 exact⟨G,ow,δ,ds,R,e1,λvs H' s Y=>hb H' vs ds d Q Y e2 λv B Z=>q v H' s (.inl ⟨B,Z⟩)⟩
def jw:BrC K (λxs H Q=>∃p ys,xs=[.ref p]/\(SqL K H p ys\/SqT K H p ys)/\Q (.int ys.length) H) iQ:=by
 intro H xs ds d Q r e q;unfold iQ at e;split at e
 .next l=>
  cases e
  cases r with
  |cons Y Z=>
   cases Z;obtain⟨a,ys,rfl,X,W⟩:=Y.lstE;refine⟨a,ys,rfl,.inl X,?_⟩;rw[W.length];exact q _ rfl (.int _)
 .next l=>
  cases e
  cases r with
  |cons Y Z=>
   cases Z;obtain⟨a,ys,rfl,X,W⟩:=Y.tupE;refine⟨a,ys,rfl,.inr X,?_⟩;rw[W.length];exact q _ rfl (.int _)
 .cases e
def VF(d:D):tyD d="NoneType"\/tyD d="bool"\/tyD d="int"\/tyD d="str"\/tyD d="list"\/tyD d="tuple"\/tyD d="dict" := by
 cases d<;>simp[tyD]
def ar9(K:PySem.W.Frag):List V->Hp->VK->Prop:=λxs H Q=>∃x c d,xs=[x,.ty c]/\(c="int"\/c="bool"\/c="tuple"\/c="list"\/c="str")/\RA K ok1 true H x d/\Q (.bl (isT c (tyD d))) H
theorem QV:m7 X (.builtin "isinstance") (ar9 X.K):=by
 intro pins s σ H xs us Q I r h;obtain⟨x,c,d,rfl,R,ra,q⟩:=h;obtain⟨u,O,rfl,Z,T⟩:=vals2 r
 cases T;have kn:=Zd (K:=X.K) R (VF d);have fin:∀tk,EP X pins σ Q (.bool (isT c (tyD d))) {s with toks:=tk}:=λtk=>⟨.bl _,H,I.tok _,rfl,q⟩
 cases ra with
 |non=>cases(show u=fy from Z);exact PySem.W.kia_one PySem.W.kitx_none I.kIn fS kn (λz=>nomatch z) fin
 |bl b=>cases(show u=gg b from Z);exact PySem.W.kia_one PySem.W.kitx_bool I.kIn fS kn (λz=>nomatch z) fin
 |int i=>obtain⟨t,z⟩:=(show ∃t,u=hJ i t from Z);cases z;exact PySem.W.kia_one PySem.W.kitx_int I.kIn fS kn (λz=>nomatch z) fin
 |str y=>obtain⟨t,z⟩:=(show ∃t,u=Value.str y t from Z);cases z;exact PySem.W.kia_one PySem.W.kitx_str I.kIn fS kn (λz=>nomatch z) fin
 | @lst a xs ds e k U=>
  cases(show u=eQ a from Z);obtain⟨its,_,⟨o,n,e1,e2,_⟩,_⟩:=I.list (SqL.of e);exact PySem.W.kia_one PySem.W.kitx_list I.kIn ⟨_,e1,e2⟩ kn (λz=>nomatch z) fin
 | @lsk a xs ds e k U=>
  cases(show u=eQ a from Z);obtain⟨its,_,⟨o,n,e1,e2,_⟩,_⟩:=I.list e.sq;exact PySem.W.kia_one PySem.W.kitx_list I.kIn ⟨_,e1,e2⟩ kn (λz=>nomatch z) fin
 | @tup a xs ds e U=>
  cases(show u=eQ a from Z);obtain⟨its,_,⟨o,e1,e2,_⟩,_⟩:=I.tuple e.sq;exact PySem.W.kia_one PySem.W.kitx_tuple I.kIn ⟨_,e1,e2⟩ kn (λz=>nomatch z) fin
 | @dic a V kvs e g k=>
  rcases g.or with⟨ks,z⟩|⟨ks,z⟩
  .rw[z]at e;exact Di I Z (TyOf.dK e) kn fin
  .rw[z]at e;exact Di I Z (TyOf.dT e) kn fin
 | @dik a V kvs Y e g k=>
  cases(show u=eQ a from Z);have Y:=(show gM X.prog X.w H s.heap a V from(show L2.Rd H a V from .inr ⟨_,e⟩).ok I.hok);rcases g.or with⟨ks,z⟩|⟨ks,z⟩
  .rw[z]at Y;obtain⟨_,_,vs,_,P⟩:=Y;obtain⟨S,_,_,h1,h2,_⟩:=P;exact PySem.W.kia_one PySem.W.kitx_dict I.kIn ⟨_,h1,h2.1⟩ kn (λz=>nomatch z) fin
  .rw[z]at Y;obtain⟨_,_,xs,_,S,_,_,h1,h2,_⟩:=Y;exact PySem.W.kia_one PySem.W.kitx_dict I.kIn ⟨_,h1,h2.1⟩ kn (λz=>nomatch z) fin
def oH (hc:T="int"\/T="bool"\/T="tuple"\/T="list"\/T="str") (h:DE X fl .P a f) (hg:Gl X "isinstance") (hm:X.mg "isinstance"=none) (Y:Gl X x) (O:X.mg x=none) (B:bootBuiltins x=some (.type T))
 (J:x≠"__name__" := by decide) (hd':(x==("__debug__":Str))=false:=by decide)
 (he:starEach [a,.Name x p'] X.env=(false,eval a X.env)::starEach [.Name x p'] X.env:=by rfl) (Z:starEach [.Name x p'] X.env=(false,eval (.Name x p') X.env)::starEach [] X.env:=by rfl) (D:(backTo pos (starEach [.Name x p'] X.env)).any (·.1)=false:=by rfl) :
 DE X fl .FC (.Call (.Name "isinstance" p) [a,.Name x p'] [] pos) (dUn (gIs T) f):=
 PE.imp (n6 QV hg hm boot_isinstance (jk h (jk (U4 (v:=.ty T) Y O B rfl J hd') nC Z) he) (by decide) (by decide) he D) λσ H Q h=>by
 refine D3.ex4 h λG ow δ d R V q=>?_
 refine D3.ex1 (bind1 V) λx e1 e2=>?_
 cases e2;exact⟨G,ow,δ,x,R,e1,λv H1 s1 W=>⟨v,T,x,rfl,hc,W,q _ H1 s1 (.inl ⟨rfl,.bl _⟩)⟩⟩
def Aw(h:DE X fl .P a f):DE X fl .FC (.UnaryOp .USub a pos) (dUn Al f):=PE.imp (af4 Y7 h) λσ H Q h=>by
 refine D3.ex4 h λG ow δ d R Y q=>?_
 refine D3.ex1 (bind1 Y) λx e1 e2=>?_
 refine⟨G,ow,δ,x,R,e1,λv H1 s1 Z=>?_⟩;unfold Al at e2;split at e2
 .cases e2;obtain rfl:=RA.intE Z;exact⟨_,rfl,q _ H1 s1 (.inl ⟨rfl,.int _⟩)⟩
 .cases e2
end
def spD(K:PySem.W.Frag)(F:List D->Option D):Sp:=λvs H Q _=>∃ds d,(Tb H/\RAs K ok1 true H vs ds)/\F ds=some d/\∀v H',Same H H'->RA K (okN H) false H' v d->Q v H'
section
variable{st:gv}{k:Nat}{fs:FS}
def mq (p:Nat) (O:∀i,i<p->fl[i]? = some .A) (B:ds.length=p) (Y:p<=N.length) (J:Tb H/\RAs K ok1 true H vs ds) :
 Rel K fl ⟨H,H,λ_=>none,λ_=>[],J.1⟩ ow0 (L2.start N vs) H (ds.map (λd=>some (.d d))++aO (N.length-p) none):=by
 have r:=J.2;have Z:vs.length=p:=by rwa[r.length]
 have get:∀i d,(ds.map (λd=>some (U.d d))++aO (N.length-p) none)[i]? = some (some (.d d))->i<p/\ds[i]? = some d:=λi d h=>by
  by_cases hi:i<p
  .rw[b_ (by rwa[aq,B]),aW]at h
   cases e:ds[i]? with
   |none=>rw[e]at h;cases h
   |some z=>rw[e]at h;cases h;exact⟨hi,rfl⟩
  .rw[bV (by rw[aq,B];lia),fM]at h;split at h<;>cases h
 refine⟨Same.refl H,Same.refl H,?_,λi a h=>(by cases h),λi j a h=>(by cases h),λi h=>rfl,λi d h _ _=>?_,λi d h _ h2 _=>?_,λi a h=>(by cases h),λi j a h=>(by cases h),λi j a h=>(by cases h),λi h=>rfl,λi d hn h=>?_⟩
 .unfold L2.start;simp only[bL,aq,bD,Z,B]
 .obtain⟨hi,e⟩:=get i d h;obtain⟨v,e1,e2⟩:=r.get e;refine⟨v,?_,e2.imp (λ_ _=>⟨λi z=>(by cases z),λi z=>(by cases z)⟩) (λz=>z)⟩;unfold L2.start;rw[b_ (by rwa[aq,Z]),aW,e1];rfl
 .exact absurd (O i (get i d h).1) h2
 .rw[O i (get i d h).1]at hn
  cases hn
end
section
variable{F:List D->Option D}{fa:FA}
def cB(h:Has X.prog X.w X.K X.mg X.base n x ps (spD X.K F))(J:Room n X.A)(ha:DB X fl .P (e::es) fa)(O:Gl X x:=by rfl)(D:(x==("__debug__":Str))=false:=by decide)
 (he:starEach (e::es) X.env=(false,eval e X.env)::starEach es X.env:=by exact mU rfl) (B:(backTo pos (starEach es X.env)).any (·.1)=false:=by exact Lz rfl) :
 DE X fl .C (.Call (.Name x p) (e::es) [] pos) (dCall F fa):=PE.imp (Ag h J ha O D he B) λσ H Q h=>by
 refine D3.ex4 h λG ow δ d R Y q=>?_
 refine D3.ex1 (bind1 Y) λds e1 e2=>?_
 refine⟨G,ow,δ,ds,R,e1,λvs H' s r=>?_⟩;show spD X.K F (vs++[]) H' Q E0;rw[cI];exact⟨ds,d,⟨R.tb.same s,r⟩,e2,λv H2 s2 Z=>q v H2 (s.trans s2) (RA.imp (λa z=>s.free z) (λz=>z) Z)⟩
end
end D3
namespace D3
open L2 My
section
variable{fl':List Fl}{a b c elt iter:Expr}{k:Kd}{f fa:FE}{TT:List Nat}{fi:FA}{g:FG}
def nJ:PTs X [] (tDT X.K fl D3.lu):=λpins s σ H Q I h=>by
 refine D3.ex4 h λG ow δ b R Z q=>?_
 cases Z;exact Vo pins s σ H Q I (q H (Same.refl H))
def LC{σ:St}(t:Nat)(ix:List Nat)(B:∀i,i<t+ix.length->fl'[i]? = some .A)(R:Rel K fl G ow σ H δ)(s:Same H H1):
 Rel K fl' ⟨H,H,λ_=>none,λ_=>[],R.tb⟩ ow0 (vD t ix σ) H1 (lN t ix δ):=by
 have get:∀i d,(lN t ix δ)[i]? = some (some (.d d))->i<t+ix.length/\∃j,ix[i-t]? = some j/\t<=i/\δ[j]? = some (some (.d d)):=λi d h=>by
  unfold lN at h;by_cases hi:i<t
  .rw[b_ (by rwa[bD]),fM,if_pos hi]at h
   cases h
  .rw[bV (by rw[bD];lia),bD,aW]at h
   cases e:ix[i-t]? with
   |none=>rw[e]at h;cases h
   |some j=>
    rw[e]at h;have Q:i-t<ix.length:=by
     rcases dB (i-t) ix.length with z|z
     .exact z
     .rw[bx z]at e;cases e
    refine⟨by lia,j,rfl,by lia,?_⟩;have h':(δ[j]?).getD none=some (.d d):=by simpa using h
    cases q:δ[j]? with
    |none=>rw[q]at h';cases h'
    |some o=>rw[q]at h';simp at h';rw[h']
 refine⟨Same.refl H,s,?_,λi a h=>(by cases h),λi j a h=>(by cases h),λi h=>rfl,λi d h _ _=>?_,λi d h _ h2 _=>absurd (B i (get i d h).1) h2,λi a h=>(by cases h),λi j a h=>(by cases h),λi j a h=>(by cases h),λi h=>rfl,λi d hn h=>(by rw[B i (get i d h).1]at hn;cases hn)⟩
 .unfold vD lN;simp
 .obtain⟨hi,j,T,S,Y⟩:=get i d h;have Z:∃v,σ[j]? = some (some v)/\RA K ok1 true H v d:=by
   cases W:isN fl[j]? with
   |true=>
    obtain⟨v,h1,h2,_⟩:=R.nr j d W Y;exact⟨v,h1,h2.ra λ_ _=>trivial⟩
   |false=>
   cases X:ow j with
   |none=>
    obtain⟨v,h1,h2⟩:=R.dat j d Y W X;exact⟨v,h1,h2.imp (λ_ _=>trivial) (λz=>z)⟩
   |some a=>
    obtain⟨_,_,xs,ds,h1,h2,U,V⟩:=R.own j a X;rw[Y]at V
    cases V;exact⟨_,h1,.lst h2 trivial (U.imp (λ_ _=>trivial) (λz=>z))⟩
  obtain⟨v,h1,h2⟩:=Z;refine⟨v,?_,(h2.imp (λ_ _=>⟨λi z=>(by cases z),λi z=>(by cases z)⟩) (λz=>z)).same s⟩;unfold vD;rw[bV (by rw[bD];lia),bD,aW,T];show some ((σ[j]?).getD none)=_;rw[h1];rfl
def yO{σ:St}{H:Hp}{Q:VK}{t:Nat}(hfl:∀i,i<t+ix.length->fl'[i]? = some .A)(B:∀j∈TT,j<t)
 (h:tD X.K fl .FC (mO fi g ft f t ix) σ H Q):Hl (tDI X.K fl L fi) (tDG X.K fl' TT g) (tDT X.K fl' ft) (tD X.K fl' .C f) t (vD t ix) σ H Q:=by
 refine D3.ex4 h λG ow δ d R hf q=>?_
 refine D3.ex1 (bind1 hf) λl e1 e2=>?_
 by_cases w:l.length<=100000
 case neg=>rw[if_neg w]at e2;cases e2
 rw[if_pos w]at e2;refine D3.ex1 (bind1 e2) λr e3 e4=>?_
 cases e4;refine⟨G,ow,δ,l,R,e1,λJ H1 s1 wk Dl s=>?_⟩;have R1:=R.grow s1
 let S:Ok:=λb=>okN H b/\b≠Dl
 refine⟨λi m xs H2=>m=l.length-i/\H2 Dl=some (.lst xs)/\Same H1 H2/\xs.length<=i/\i<=l.length/\∃ds rest,RAs X.K S false H2 xs ds/\jU g ft f (lN t ix δ) (l.drop i)=some rest/\r=ds++rest,
  ⟨_,rfl,bR,cP s _,aB _,cg _,[],r,.nil,by simpa using e3,rfl⟩,?_⟩
 rintro i m xs H2 ⟨rfl,W,s2,E,u,ds,rest,D,Y,rfl⟩;refine⟨W,?_⟩;obtain⟨w1,w2⟩:=wk H2 (λb o N _ _=>s2 b o N) i;by_cases U:i<l.length
 .have O:=iU U;rw[O,jU]at Y;refine D3.ex1 (bind1 Y) λT e5 Y=>?_
  refine D3.ex1 (bind1 Y) λp e6 Y=>?_
  obtain⟨go,a⟩:=w1 l[i] (aA U);refine .inr ⟨go,lJ (aV E (aV u w)) (by decide),λx H3 hy=>?_⟩;obtain⟨s3,r3⟩:=a x H3 hy;have I:=s2.trans s3;have Rb:=(LC t ix hfl R1 (Same.refl H1)).grow I;refine⟨_,_,_,_,T,Rb,r3.imp (λ_ _=>⟨λi z=>(by cases z),λi z=>(by cases z)⟩) (λz=>z),e5,λc k P=>⟨?_,?_⟩⟩
  .apply dY;intro n;rw[d8,d8];exact P (t+n) λz=>absurd (B _ z) (by lia)
  .refine⟨_,_,T,p,k,e6,λH5 M=>?_⟩
   cases p with
   |false=>
    rw[if_neg bA]at Y ⊢;have Z:=s3.trans M;exact⟨l.length-(i+1),by lia,rfl,Z _ _ W,s2.trans Z,by lia,U,ds,rest,D.same Z,Y,rfl⟩
   |true=>
    rw[if_pos rfl]at Y ⊢;refine D3.ex1 (bind1 Y) λy e7 Y=>?_
    refine D3.ex1 (bind1 Y) λl' e8 Y=>?_
    cases Y;refine⟨_,_,T,y,k.grow M,e7,λv H6 s6 r6=>?_⟩;have Z:=s3.trans M;have V:=Z.trans s6;refine⟨V _ _ W,l.length-(i+1),by lia,rfl,bR,?_,by rw[bL,m5];lia,U,ds++[y],l',?_,e8,by simp⟩
    .intro b o N;rw[bG (λz=>by subst z;rw[s]at N;cases N)];exact(s2.trans V) b o N
    .have nd:¬S Dl:=λz=>z.2 rfl
     have F:=s1.trans (s2.trans Z);have ry:RA X.K S false H6 v y:=RA.imp (λb z=>⟨F.free z,λe=>by subst e;rw[okN,Z _ _ W]at z;cases z⟩) (λz=>z) r6;exact((D.same V).append (.cons ry .nil)).upd (V _ _ W) nd
 .have ed:l.drop i=[]:=fX (by lia);rw[ed,jU]at Y
  cases Y;refine .inl ⟨w2 (by lia),?_⟩;rw[cI]at q;exact q (.ref Dl) H2 (s1.trans s2) (.inr ⟨Dl,xs,ds,rfl,rfl,s1.free s,W,D⟩)
def o7(hc:X.calm=true)(T J:List Str)(ix:List Nat)(hi:DI X fl L tg iter fi)
 (hg:∀cl C s3 O fp,DG (blk X (T++J) scope cl C s3 O fp) fl' TT tg g) (ht:∀cl C s3 O fp,PTs (blk X (T++J) scope cl C s3 O fp) ifs (tDT X.K fl' ft)) (he:∀cl C s3 O fp,DE (blk X (T++J) scope cl C s3 O fp) fl' .C elt f)
 (hfl:∀i,i<T.length+ix.length->fl'[i]? = some .A:=by decide) (Y:∀j∈TT,j<T.length:=by decide)
 (hB:yZ X.N X.env.scope.names scope.names J ix=true:=by rfl) (hk:scope.kind = .function:=by rfl) (D:∀y∈scope.names,y.2 ≠ .cell:=by decide +kernel)
 (B:∀x∈scope.names,x.2 = .local->scope.names.lookup x.1=some .local:=by decide +kernel)
 (Z:∀x∈scope.names,x.2 = .free->x.1∈J:=by decide +kernel) (hs:∀x,foldedSetIterable iter X.env x=pure x:=by intro _;rfl) :
 DE X fl .FC (.ListComp elt [⟨tg,iter,ifs,0⟩] scope pos) (mO fi g ft f T.length ix):=
 PE.imp (Lp hc T J ix hi hg ht he hB hk D B Z hs) λ_ _ _ h=>yO hfl Y h
def QW (hfx:fl[i]? = some .A) (hN:X.N.Nodup) (hi':X.N[i]? = some x) (hx:X.env.scope.names.lookup x=some .local) (hc:X.calm=true) (T J:List Str) (ix:List Nat) (hi:DI X fl L tg iter fi)
 (hg:∀cl C s3 O fp,DG (blk X (T++J) scope cl C s3 O fp) fl' TT tg g) (ht:∀cl C s3 O fp,PTs (blk X (T++J) scope cl C s3 O fp) ifs (tDT X.K fl' ft)) (he:∀cl C s3 O fp,DE (blk X (T++J) scope cl C s3 O fp) fl' .C elt f)
 (hfl:∀i,i<T.length+ix.length->fl'[i]? = some .A:=by decide) (Y:∀j∈TT,j<T.length:=by decide)
 (hsw:swapsWith (.ListComp elt [⟨tg,iter,ifs,0⟩] scope pos) (some (.Name x m)) spos.line X.env=pure true:=by rfl)
 (hB:yZ X.N X.env.scope.names scope.names J ix=true:=by rfl) (hk:scope.kind = .function:=by rfl) (D:∀y∈scope.names,y.2 ≠ .cell:=by decide +kernel)
 (B:∀x∈scope.names,x.2 = .local->scope.names.lookup x.1=some .local:=by decide +kernel)
 (hfr:∀x∈scope.names,x.2 = .free->x.1∈J:=by decide +kernel) (hs:∀x,foldedSetIterable iter X.env x=pure x:=by intro _;rfl) :
 DS1 X fl (.Assign [.Name x m] (.ListComp elt [⟨tg,iter,ifs,0⟩] scope pos) spos) (bN i (mO fi g ft f T.length ix)):=
 PS.imp (Vq hN hi' hx hc T J ix hi hg ht he hsw hB hk D B hfr hs) λDn σ H h=>by
 refine D3.ex4 h λG ow δ o R Z q=>?_
 unfold bN at Z;by_cases W:i<δ.length
 .rw[if_pos W]at Z;refine D3.ex1 (bind1 Z) λd e1 e2=>?_
  cases e2;exact yO (fl:=fl) hfl Y ⟨G,ow,δ,d,R,e1,λv H' s r=>q ow _ H' ((R.grow s).rN hfx (wu R W) ((r.FC_F R).F_A R))⟩
 .rw[if_neg W]at Z
  cases Z
def Hv (s:Same H m) (B:m t=none) (r:RAs K (okA ow) true m vs l):Rs K G.H0 ow H (upd m t (.lst vs)) .F (.ref t) (.list l):=
 .inr ⟨t,vs,l,rfl,rfl,s.free B,bR,(r.track.imp (λb w=>⟨w.1,λe=>w.2 (e▸B)⟩) (λz=>z)).same (cP B _)⟩
def vK (r:Rs K H0 ow Hb H (.B L) v (.list l)):∃a xs,v = .ref a/\SqL K H a xs/\RAs K (okA ow) true H xs l:=by
 rcases r with r|⟨i,hi,a,xs,ds,X,rfl,e,Z,Y⟩
 .exact r.lstE
 .cases e;exact⟨a,xs,rfl,SqL.of Z,Y⟩
def ah5(K:PySem.W.Frag):R2:=λx y H Q=>∃l b xs zs,x = .ref l/\y = .ref b/\SqL K H l xs/\SqL K H b zs/\xs.length+zs.length<=sizeLine/\∀p,H p=none->Q (.ref p) (upd H p (.lst (xs++zs)))
def VG:OpR X (binaryOp .Add) (ah5 X.K):=by
 intro pins s σ H x y v u Q I M N h;obtain⟨l,b,xs,zs,rfl,rfl,L,J,E,q⟩:=h
 cases M
 cases N;obtain⟨its,r,p,_⟩:=I.list L;obtain⟨its2,T,p2,_⟩:=I.list J;obtain⟨⟨cls,G,data,O⟩,S,R,n,hd⟩:=p.isList;obtain⟨⟨P,U,data2,V⟩,Z,W,n2,Y⟩:=p2.isList;simp only at R hd W Y;subst R hd W Y;have e1:=r.length;have e2:=T.length;have e:its.toArray++its2.toArray=(its++its2).toArray:=by simp
 refine concat_meets ⟨_,S,rfl⟩ ⟨_,Z,rfl⟩ noFill_list_add seq_list_add PySem.F.slot_list_add PySem.F.entry_list_add (PySem.F.args_list_add_2 _ _) (list_addW l b its.toArray its2.toArray n n2 G U O V (by simp;lia)) ⟨S,Z,?_⟩;rw[e];exact⟨.ref _,_,I.lnew (t':=s.toks) (r.append T) (by rw[bL];lia),rfl,q _ I.fresh⟩
def Kg{D:List Nat}(h1:DE X fl (.B L) a fa)(h2:DE X fl (.B D) b fb):DE X fl .F (.BinOp a .Add b pos) (dOp tL fa fb):=PE.imp (Qk VG h1 h2) λσ H Q h=>by
 refine D3.ex4 h λG ow δ d R P q=>?_
 refine D3.ex2 (Av P) λx y e1 e2 e3=>?_
 refine⟨G,ow,δ,x,R,e1,λv H1 s1 U=>⟨G,ow,δ,y,R.grow s1,e2,λu H2 s2 V=>?_⟩⟩;unfold tL at e3;split at e3
 .next l m=>
  by_cases z:l.length+m.length<=1000000
  .rw[if_pos z]at e3
   cases e3;obtain⟨p,xs,rfl,S,Y⟩:=vK U;obtain⟨p',ys,rfl,T,Z⟩:=vK V;refine⟨p,p',xs,ys,rfl,rfl,s2.seq S,T,?_,λpn W=>q _ _ ((s1.trans s2).trans (cP W _)) (Hv (G:=G) (s1.trans s2) W ((Y.same s2).append Z))⟩;rw[Y.length,Z.length];exact aV z (by decide)
  .rw[if_neg z]at e3
   cases e3
 .cases e3
theorem RAs.rep (r:RAs K ok pl H vs l):∀n:Nat,RAs K ok pl H (aO n vs).flatten (aO n l).flatten
 |0=>.nil
 |n+1=>by
  rw[cD,cD,eY,eY];exact r.append (RAs.rep r n)
def yd(h1:DE X fl .F a fa)(h2:DE X fl .P b fb):DE X fl .F (.BinOp a .Mult b pos) (dOp oY fa fb):=PE.imp (Qk Zc h1 h2) λσ H Q h=>by
 refine D3.ex4 h λG ow δ d R T q=>?_
 refine D3.ex2 (Av T) λx y e1 e2 e3=>?_
 refine⟨G,ow,δ,x,R,e1,λv H1 s1 V=>⟨G,ow,δ,y,R.grow s1,e2,λu H2 s2 W=>?_⟩⟩;unfold oY at e3;split at e3
 .next l k=>
  by_cases z:l.length*k.toNat<=1000000/\-(2^63)<=k/\k<2^63
  .rw[if_pos z]at e3
   cases e3;obtain rfl:=RA.intE W;rcases V with⟨U,_⟩|⟨p,xs,ds,rfl,O,N,S,Y⟩
   .simp[flat]at U
   .cases O;refine⟨p,k,xs,rfl,rfl,s2 _ _ S,z.2.1,z.2.2,?_,λpn Z=>q _ _ ((s1.trans s2).trans (cP Z _)) (Hv (G:=G) (s1.trans s2) Z (((Y.imp (λb w=>w.1) (λz=>z)).same s2).rep _))⟩;rw[Y.length];exact aV z.1 (by decide)
  .rw[if_neg z]at e3
   cases e3
 .cases e3
def LK(h:DE X fl (.B L) a f)(O:Gl X "list")(hm:X.mg "list"=none)
 (J:starEach [a] X.env=(false,eval a X.env)::starEach [] X.env:=by rfl) (D:(backTo pos (starEach [] X.env)).any (·.1)=false:=by rfl):DE X fl .F (.Call (.Name "list" p) [a] [] pos) (dUn yK f):=
 PE.imp (rD Ey O hm boot_list (jk h nC J) (by decide) (by decide) J D) λσ H Q h=>by
 refine D3.ex4 h λG ow δ d R U q=>?_
 refine D3.ex1 (bind1 U) λx e1 e2=>?_
 refine⟨G,ow,δ,x,R,e1,λv H1 s1 Y=>?_⟩;unfold yK at e2;split at e2
 .cases e2;obtain⟨p,xs,rfl,W,V⟩:=vK Y;exact⟨p,xs,rfl,.inl W,λpn Z=>q _ _ (s1.trans (cP Z _)) (Hv (G:=G) s1 Z V)⟩
 .cases e2;rcases Y with Y|⟨i,hi,a,xs,ds,T,rfl,e,W,V⟩
  .obtain⟨p,xs,rfl,W,V⟩:=Y.tupE;exact⟨p,xs,rfl,.inr W,λpn Z=>q _ _ (s1.trans (cP Z _)) (Hv (G:=G) s1 Z V)⟩
  .cases e
 .cases e2
def tDO(K:PySem.W.Frag)(fl:List Fl)(f:FO):TO:=λσ H Q=>∃G ow δ o,Rel K fl G ow σ H δ/\f δ=some o/\∀H',Same H H'->Q o H'
def PO.imp (h:PO X m t) (i:∀σ H Q,t' σ H Q->t σ H Q):PO X m t':=λpins s σ H Q I q=>h pins s σ H Q I (i σ H Q q)
def uy:PO X none (tDO X.K fl n8):=PO.imp Vg λσ H Q h=>by
 refine D3.ex4 h λG ow δ o R Z q=>?_
 cases Z;exact q H (Same.refl H)
def lG(h:DE X fl .P e f):PO X (some e) (tDO X.K fl (fD f)):=PO.imp (Vh h) λσ H Q h=>by
 refine D3.ex4 h λG ow δ o R Y q=>?_
 refine D3.ex1 (bind1 Y) λd e1 e2=>?_
 split at e2
 .cases e2;refine⟨G,ow,δ,_,R,e1,λv H1 s1 Z=>?_⟩;obtain rfl:=RA.intE Z;exact⟨_,rfl,q H1 s1⟩
 .cases e2
def Fj(n d:Nat)(o:Option Int):HT.sIx n d o=pSx n d o:=by
 cases o<;>rfl
def RAs.cut (r:RAs K ok pl H vs l) (lo hi:Option Int):RAs K ok pl H (Hf vs lo hi) (cuD l lo hi):=by
 unfold Hf cuD;rw[r.length,Fj,Fj];exact(r.drop _).take _
def Ax{lo hi:Option Expr}{fl1 D:FO}(h:DE X fl (.B L) a f)(h1:PO X lo (tDO X.K fl fl1))(h2:PO X hi (tDO X.K fl D)):DE X fl .F (.Subscript a (.Slice lo hi none p2) pos) (dSl f fl1 D):=PE.imp (G_ Vj h h1 h2) λσ H Q h=>by
 refine D3.ex4 h λG ow δ d R Y q=>?_
 refine D3.ex1 (bind1 Y) λx e1 Y=>?_
 refine D3.ex1 (bind1 Y) λU e2 Y=>?_
 refine D3.ex1 (bind1 Y) λV e3 W=>?_
 refine⟨G,ow,δ,x,R,e1,λv H1 s1 S=>⟨G,ow,δ,U,R.grow s1,e2,λH2 s2=>⟨G,ow,δ,V,R.grow (s1.trans s2),e3,λN s3=>?_⟩⟩⟩;split at W
 .cases W;obtain⟨p,xs,rfl,P,O⟩:=vK S;have Z:=s2.trans s3;exact⟨p,xs,rfl,Z.seq P,λpn T=>q _ _ ((s1.trans Z).trans (cP T _)) (Hv (G:=G) (s1.trans Z) T ((O.same Z).cut U V))⟩
 .cases W
def Hw{st:gv}:DS1 X fl st (λ_=>none):=PS.imp Qg λDn σ H h=>by
 refine D3.ex4 h λG ow δ o R Z q=>?_
 cases Z
end
end D3
namespace D3
open L2 My
section
variable{σ:St}{H:Hp}{s:eM}
def Inv.turnedL {ch:List Addr} (I:Inv X pins σ H s) (k:∀b o,b∉ch->s.heap.get? b=some o->h'.get? b=some o) (B:∀b∈ch,xQ X pins H b):Inv X pins σ H {s with heap:=h',toks:=t'}:=by
 have Y:∀b u,H b=some u->b∉ch:=λb u e z=>by rw[(B b z).1]at e;cases e
 refine I.step (g':=s.gens) (d':=s.drawn) (ch:=ch) (λb V=>?_) (λb o _ _ Z e _=>k b o Z e) (λb o _ _ Z e _=>⟨o.slots,k b o Z e⟩) (λ_ _ _ _ n=>n)
  (λb o Z e=>⟨o,k b o Z e⟩) (λ_ _ e=>e) (λ_ _ _ e=>e) (λ_ _ _ e=>e) (λm hm=>?_) (λb u e=>?_) I.bare
 .obtain⟨f0,f1,f2,f3,T,U⟩:=B b V;exact⟨f3,f1,T,U⟩
 .obtain⟨o,es,ep,W,r⟩:=hm;exact⟨o,es,ep,k _ o (λz=>(B _ z).2.1 rfl) W,r⟩
 .refine(I.hok b u e).stay (λc v Z q=>k c v ?_ q) (λ_ q=>q) λ_ _ q=>q
  rcases Z with z|z
  .rw[z];exact Y b u e
  .exact Y c _ z
end
def Ite(K:PySem.W.Frag)(a:Addr):It:=
 ⟨λi H=>∃xs x,SqL K H a xs/\xs[i]? = some x,λi H x H'=>∃p y,H p=none/\H'=upd H p (.tup [.int i,y])/\x = .ref p/\∀xs,SqL K H a xs->xs[i]? = some y,λi H=>∃xs,SqL K H a xs/\xs.length<=i⟩
theorem Ot {x1} (a it:Addr) :
 Turn P w K (.Tuple elts x1 tpos) (Ite K a) [it+1,it] (it+1) (λi h=>∃old,IsEnum h (it+1) it (i:Int) old/\h.IsListIter it a i) where
 mem:=by simp
 obj:=λi h st b Z=>by
  obtain⟨old,W,o,e,c,d⟩:=st;rcases aJ.mp Z with z|z
  .subst z;exact⟨_,W,λv z=>by cases z⟩
  .have z:b=it:=by simpa using z
   subst z;exact⟨o,e,λv z=>by rw[d]at z;cases z⟩
 keep:=λi h h' st k=>by
  obtain⟨old,W,hi⟩:=st;exact⟨old,k _ (by simp) _ W,hi.at λo e=>k it (by simp) o e⟩
 item:=by
  intro X M hw L F i pins s σ H E I U st O;subst M hw L;obtain⟨xs,x,T,G⟩:=O;obtain⟨its,R,p,C⟩:=I.list T;obtain⟨u,hu,D⟩:=R.get G;obtain⟨old,W,hi⟩:=st;have V:=af W;refine wpAny_pyNext_enum_item W hi p.isList (x:=u) (by simpa using hu) (Nat.succ_ne_self it) λh1 t Q A y r=>?_
  refine⟨_,rfl,er t λh2 N Y=>?_⟩
  replace Y:gf (it+1) h1 h2:=Y
  have hn:=I.hok.fresh (aB _);have l:Inv X pins σ (upd H s.heap.objs.size (.tup [.int (i:Int),x])) {s with heap:=s.heap.push {cls:=.type "tuple", data:=.seq #[.int (i:Int) s.toks,u]} }:=
   I.laid (t':=s.toks) (λb o e=>ad _ e) (aB _) ⟨show 2<=sizeLine by decide,[.int (i:Int) s.toks,u],.cons ⟨_,rfl⟩ (.cons D .nil),⟨_,ag _ rfl,rfl,_,rfl⟩⟩
  have ne:∀b,b∈[it+1,it]->b≠s.heap.objs.size:=λb Z=>by
   rcases aJ.mp Z with S|S
   .rw[S];exact aR V
   .rw[show b=it by simpa using S];exact aR (cH V)
  have m:Inv X pins σ (upd H s.heap.objs.size (.tup [.int (i:Int),x])) {s with heap:=h2,toks:=s.toks+1}:=by
   refine Inv.turnedL (s:={s with heap:=s.heap.push {cls:=.type "tuple", data:=.seq #[.int (i:Int) s.toks,u]} }) (ch:=[it+1,it]) l (λb o Z e=>?_) λb Z=>⟨by rw[bG (ne b Z)];exact(U b Z).1,(U b Z).2⟩
   have J:b≠it+1:=λz=>Z (by simp[z])
   have n:b≠it:=λz=>Z (by simp[z])
   rcases ck e with⟨e1,e2⟩|e1
   .subst e1 e2;exact(Y.2 _ J).trans A
   .exact(Y.2 _ J).trans (r b o J n e1)
  refine⟨.ref s.heap.objs.size,_,m,rfl,⟨_,x,hn,rfl,rfl,λys B=>by rwa[I.list_inj B T]⟩,⟨_,N,Q.at λo e=>(Y.2 _ (aR (fU it))).trans e⟩,λb Z=>?_⟩;rw[bG (ne b Z)];exact(U b Z).1
 done:=by
  intro X M hw L F i pins s σ H E I U st O;subst M hw L;obtain⟨xs,T,G⟩:=O;obtain⟨its,R,p,C⟩:=I.list T;obtain⟨old,W,hi⟩:=st;have j:=R.length;refine wpAny_pyNext_enum_end (I.ok.hd F) W hi p.isList (by simp;lia) λh' q=>⟨rfl,Inv.turnedL (t':=s.toks) (ch:=[it+1,it]) I (λb o Z e=>q b o (λz=>Z (by simp[z])) e) U⟩
 self:=λ_ _ _ _ _ st h=>by
  obtain⟨old,W,_⟩:=st;exact b8 W h
section
variable{a:Expr}{f:FE}
def ah6(K:PySem.W.Frag)(tl:TE):TI:=λσ H R=>tl σ H λx H1=>∃a,x = .ref a/\(∃xs,SqL K H1 a xs)/\R (Ite K a) H1
theorem VH {x1} (O:Gl X "enumerate") (hm:X.mg "enumerate"=none) (J:PE X a tl) (D:starEach [a] X.env=(false,eval a X.env)::starEach [] X.env:=by rfl)
 (B:(backTo pos (starEach [] X.env)).any (·.1)=false:=by rfl):PI X (.Tuple elts x1 tpos) (.Call (.Name "enumerate" p) [a] [] pos) (ah6 X.K tl):=by
 intro pins s σ H R I h;refine ay (nA I O hm boot_enumerate (e_ (thn ((jk J nC D) pos pins s σ H (λvs H1=>match vs with|[x]=>∃a,x = .ref a/\(∃xs,SqL X.K H1 a xs)/\R (Ite X.K a) H1|_=>False) I h) λus s1 ⟨vs,H1,W,T,q1⟩=>?_) D B))
 cases T with
 |nil=>exact q1.elim
 |cons r U=>
  cases U with
  |cons _ _=>exact q1.elim
  |nil=>
  obtain⟨l,e,⟨xs,Q⟩,q⟩:=q1;subst e
  cases r;obtain⟨its,L,pl,G⟩:=W.list Q;refine call_enumerate_list pl.isList λh' Z V S P=>?_
  have M:=W.kept (t':=s1.toks) P;refine b8 (s:={s1 with heap:=h'}) Z ?_;refine⟨s1.heap.objs.size+1,[s1.heap.objs.size+1,s1.heap.objs.size],_,_,H1,rfl,M,Ot l s1.heap.objs.size,⟨_,Z,V⟩,λb N=>?_,q⟩;have Y:s1.heap.objs.size<=b:=by
   rcases aJ.mp N with z|z
   .rw[z];exact lU _
   .rw[show b=s1.heap.objs.size by simpa using z];exact aB _
  exact W.fpOk Y (W.hok.fresh Y)
theorem VJ {x1} (h:DE X fl (.B L) a f) (J:Gl X "enumerate") (hm:X.mg "enumerate"=none) (he:starEach [a] X.env=(false,eval a X.env)::starEach [] X.env:=by rfl)
 (D:(backTo pos (starEach [] X.env)).any (·.1)=false:=by rfl):DI X fl L (.Tuple elts x1 tpos) (.Call (.Name "enumerate" p) [a] [] pos) (QF f):=PI.imp (VH J hm h he D) λσ H R' h=>by
 refine D3.ex4 h λG ow δ l R K q=>?_
 refine D3.ex1 (bind1 K) λd e1 e2=>?_
 cases d<;>first|(cases e2;done)|skip
 next V=>
 cases e2;refine⟨G,ow,δ,_,R,e1,λv H1 s r=>?_⟩;obtain⟨a,xs,rfl,O,keep⟩:=yc (R.grow s) r;refine⟨a,rfl,⟨xs,O⟩,q _ _ s λH2 k2 i=>?_⟩;obtain⟨Y,U⟩:=keep H2 k2;refine⟨λd hd=>?_,λM=>⟨xs,Y,by rw[U.length];simpa[tE]using M⟩⟩;have Z:(V[i]?).map (λx=>eT [.int (i:Int),x])=some d:=by
  have:=hd;unfold tE at this;rwa[fQ]at this
 cases e:V[i]? with
 |none=>rw[e]at Z;cases Z
 |some x0=>
  rw[e]at Z
  cases Z;obtain⟨y,T,Q⟩:=U.get e;refine⟨⟨xs,y,Y,T⟩,λx I W=>?_⟩;obtain⟨p,S,N,rfl,rfl,P⟩:=W;have:some y=some S:=T.symm.trans (P xs Y)
  cases this;have g:=cP N (.tup [.int (i:Int),y]);exact⟨g,.tup bR (.cons (.int _) (.cons (Q.same g) .nil))⟩
end
structure Bl(mg:Str->Option Value):Prop where
 len_:mg "len"=none
 range_:mg "range"=none
 abs_:mg "abs"=none
 isinstance_:mg "isinstance"=none
 int_:mg "int"=none
 bool_:mg "bool"=none
 tuple_:mg "tuple"=none
 list_:mg "list"=none
 str_:mg "str"=none
 max_:mg "max"=none
 min_:mg "min"=none
 sorted_:mg "sorted"=none
 sum_:mg "sum"=none
 reversed_:mg "reversed"=none
 enumerate_:mg "enumerate"=none
 zip_:mg "zip"=none
 set_:mg "set"=none
 any_:mg "any"=none
 all_:mg "all"=none
 dict_:mg "dict"=none
end D3
variable{dc:Value}
namespace D3
open L2 My
structure FunD(K:PySem.W.Frag)(x:Str)(st:gv)(f:Addr)(fd:gc):Prop where
 ex:∃(oc:Value)(od:Option Addr)(dV kV doc pm:Value)(an:Option Addr)(cdv ct:Value)(osl:Array (Option Value)),
  fd=PySem.W.fnOf x x (qd st) (jm st) (bH st) dV kV doc pm an cdv ct/\K.lookup f=some ⟨oc,od,.func fd,osl⟩/\PySem.W.codeIn K cdv x=true
 kp:PySem.W.keepIn K (.ref f)=true
structure Dg(K:PySem.W.Frag)(mg:Str->Option Value)(x:Str)(st:gv)(ps:List Str):Prop where
 ex:∃(f:Addr)(fd:gc),FunD K x st f fd/\Binds K fd ps []/\mg x=some (.ref f)
def ah7{kV:Value}{B:Array (Option Value)}{st:gv}(X:K.In h)(G:h.Ns mainGlobals mg)
 (D:∀(kV doc pm:Value)(an:Option Addr)(cdv ct:Value)(us:List Value),us.length=ps.length->bindArgs (PySem.W.fnOf x x (qd st) (jm st) (bH st) .none kV doc pm an cdv ct) ⟨us,[]⟩=pure (ps.zip us))
 (a:PySem.W.nsIn K mainGlobals x=some (some (.ref f))) (l:K.lookup f=some ⟨oc,od,.func (PySem.W.fnOf x x (qd st) (jm st) (bH st) .none kV dc pm an cd ct),B⟩) (c:PySem.W.codeIn K cd x=true) (k:PySem.W.keepIn K (.ref f)=true):Dg K mg x st ps:=
 ⟨_,_,⟨⟨oc,od,.none,kV,dc,pm,an,cd,ct,B,rfl,l,c⟩,k⟩,.all (D kV dc pm an cd ct),PySem.W.mg_of X G a⟩
structure Dl(K:PySem.W.Frag)(mg:Str->Option Value)(x y:Str)(st:gv):Prop where
 ex:∃(f:Addr)(fd:gc),FunD K x st f fd/\(∀(s:eM)(u:Value),BindsTo s fd ⟨[u],[]⟩ [(y,u)])/\mg x=some (.ref f)
def ah8{kV:Value}{B:Array (Option Value)}{y:Str}{st:gv}(X:K.In h)(G:h.Ns mainGlobals mg)
 (D:∀(kV doc pm:Value)(an:Option Addr)(cdv ct:Value)(u:Value),bindArgs (PySem.W.fnOf x x (qd st) (jm st) (bH st) .none kV doc pm an cdv ct) ⟨[u],[]⟩=pure [(y,u)])
 (a:PySem.W.nsIn K mainGlobals x=some (some (.ref f))) (l:K.lookup f=some ⟨oc,od,.func (PySem.W.fnOf x x (qd st) (jm st) (bH st) .none kV dc pm an cd ct),B⟩) (c:PySem.W.codeIn K cd x=true) (k:PySem.W.keepIn K (.ref f)=true):Dl K mg x y st:=
 ⟨_,_,⟨⟨oc,od,.none,kV,dc,pm,an,cd,ct,B,rfl,l,c⟩,k⟩,λs u=>.of_eq (D kV dc pm an cd ct u),PySem.W.mg_of X G a⟩
section
variable{st:gv}{k:Nat}{fs:FS}
def FunD.ok(F:FunD K x st f fd)(S:FnScope N ps (bH st))(len:∀vs H Q E,sp vs H Q E->vs.length=ps.length)
 (B:∀(cdv:Value)(A:eW)(outer:List Env)(s:eM)(H:Hp)(vs:List V)(Q:VK)(E:XK),Room k (A.deeper (envOfC x (bH st) s.heap.objs.size f cdv))->sp vs H Q E ->
  ∃t,PSs (G8 CX0 P w K mg base N x (bH st) f cdv A outer s H E).nox (jm st) t/\t {nx:=λ_ H'=>Q .non H',rt:=Q} (L2.start N vs) H):FnOk P w K mg base CX0 (k+1) f fd ps sp:=by
 obtain⟨oc,od,dV,kV,doc,pm,an,cdv,ct,osl,rfl,lk,Y⟩:=F.ex;refine X6 lk Y S len λA outer s H vs Q E X Z=>?_
 obtain⟨t,h,q⟩:=B cdv A outer s H vs Q E X Z;exact⟨t,h.nox,q⟩
def QX(O:FunD K x st f fd)(S:FnScope N ps (bH st))(D:∀i,i<ps.length->fl[i]? = some .A)(J:ps.length<=N.length)
 (B:∀(f:Addr)(cdv:Value)(A:eW)(outer:List Env)(s:eM)(H:Hp)(E:XK),Room k (A.deeper (envOfC x (bH st) s.heap.objs.size f cdv))->DSs (cx P w K mg base N x st f cdv A outer s H E) fl (jm st) fs) :
 FnOk P w K mg base CX0 (k+1) f fd ps (spD K (fnD ps.length (N.length-ps.length) fs)):=by
 refine O.ok S (λvs H Q E h=>?_) (λcdv A outer s H vs Q E X h=>?_)
 .obtain⟨ds,d,r,Z,_⟩:=h;unfold fnD at Z;by_cases z:ds.length=ps.length
  .rwa[r.2.length]
  .rw[if_neg z]at Z;cases Z
 .obtain⟨ds,d,r,Z,q⟩:=h;refine⟨_,B f cdv A outer s H E X,?_⟩;unfold fnD at Z;by_cases z:ds.length=ps.length
  .rw[if_pos z]at Z;split at Z
   .next W e=>
    cases Z;exact⟨_,_,_,_,mq ps.length D z J r,e,λv H' s r=>q v H' s r⟩
   .next δ' e=>
    cases Z;exact⟨_,_,_,_,mq ps.length D z J r,e,λY σ' H' R'=>q .non H' R'.same0 .non⟩
   .cases Z
  .rw[if_neg z]at Z;cases Z
def jc(O:Dg K mg x st ps)(S:FnScope N ps (bH st))(D:∀i,i<ps.length->fl[i]? = some .A)(J:ps.length<=N.length)
 (B:∀(f:Addr)(cdv:Value)(A:eW)(outer:List Env)(s:eM)(H:Hp)(E:XK),Room k (A.deeper (envOfC x (bH st) s.heap.objs.size f cdv))->DSs (cx P w K mg base N x st f cdv A outer s H E) fl (jm st) fs) :
 Has P w K mg base (k+1) x ps (spD K (fnD ps.length (N.length-ps.length) fs)):=by
 obtain⟨f,fd,Z,b,m⟩:=O.ex;exact⟨f,fd,QX Z S D J B,b,Z.kp,m⟩
end
noncomputable def QZ(K:PySem.W.Frag):Sp:=λvs H Q _=>∃(a:Addr)(ns:List Int),Tb H/\vs=[.ref a]/\SqL K H a (ns.map V.int)/\ns.length<=63/\∀H',Q (.bl true) H'
theorem qt : ∀ns:List Int,RAs K ok pl H (ns.map V.int) (ns.map eP)
 |[]=>.nil
 |n::r=>.cons (.int n) (qt r)
def VL (B:∀ns:List Int,ns.length<=63->F [.list (ns.map .int)]=some (.bool true)) (vs:List V) (H:Hp) (Q:VK) (E:XK) (h:QZ K vs H Q E):spD K F vs H Q E:=by
 obtain⟨a,ns,tb,rfl,Y,Z,q⟩:=h;refine⟨_,_,⟨tb,.cons ?_ .nil⟩,B ns Z,λv H' s r=>?_⟩
 .rcases Y with(h|⟨o,h⟩)|h
  .exact .lst h trivial (qt ns)
  .exact .lsk (.inl ⟨o,h⟩) rfl (qt ns)
  .exact .lsk (.inr h) rfl (qt ns)
 .obtain rfl:=r.blE;exact q H'
end D3
namespace D3
open L2 My
section
variable{prog:eS}{A:eW}{E:Value->eM->Prop}{s:eM}
end
section
variable{a:Expr}{f:FE}
end
section
variable{a b:Expr}{fa:FA}
theorem LR {f:Nat->V}: ∀(us:List Value)(k:Nat),(∀j v,us[j]? = some v->RelV (f (k+j)) v)->Vals ((lW k us.length).map f) us
 |[],_,_=>.nil
 |u::r,k,h=>by
  rw[aX,List.range'_succ,aG];refine .cons (h 0 u rfl) (LR r (k+1) λj v Z=>?_);have:=h (j+1) v (by simpa using Z);rwa[show k+1+j=k+(j+1)by lia]
theorem Q0 (lo:Int):∀(n k:Nat),RAs K ok pl H ((lW k n).map λ(j:Nat)=>V.int (lo+(j:Int))) ((lW k n).map λ(j:Nat)=>eP (lo+(j:Int)))
 |0,_=>.nil
 |n+1,k=>by
  rw[List.range'_succ,aG,aG];exact .cons (.int _) (Q0 lo n (k+1))
end
end D3
namespace D3
open L2 My
section
theorem tZ:∀{ns:List Int}{its:List Value},Vals (ns.map V.int) its->gE its ns
 |[],_,.nil=>.nil
 |n::r,_,.cons h t=>by
  obtain⟨k,rfl⟩:=h;exact .cons _ _ (tZ t)
theorem wC : ∀{l:List D}{ns:List Int}{ys:List V},dH l=some ns->RAs K ok pl H ys l->ys=ns.map V.int
 |[],_,_,e,.nil=>by cases e;rfl
 |d::r,ns,_,e,.cons h t=>by
  cases d<;>first|(cases e;done)|skip
  obtain rfl:=h.intE
  cases e2:dH r with
  |none=>rw[dH,e2]at e;cases e
  |some m=>
   rw[dH,e2]at e
   cases e;rw[wC e2 t];rfl
def Ou(B:X.calm=true):m7 X (.builtin "max") (λxs H Q=>∃(p:Addr)(i:Int)(r:List Int),xs=[.ref p]/\SqL X.K H p ((i::r).map V.int)/\Q (.int (mxI i r)) H):=by
 intro pins s σ H xs us Q I r h;obtain⟨p,i,Y,rfl,O,q⟩:=h;obtain⟨u,rfl,S⟩:=vals1 r
 cases S;obtain⟨its,W,pl,G⟩:=I.list O;have hi:=tZ W;obtain⟨xs,e⟩:=hi.allInts.items;have Z:i::Y=xs.toList.map (·.1):=by rw[<-hi.numsOf,<-nums_intItems,<-e]
 have U:0<xs.size:=by
  have T:0<(i::Y).length:=by simp
  rw[Z,aq,bh]at T;exact T
 have M:=e▸pl.isList;refine max_intList (I.ok.hd B) M U λv h' tk N L=>?_
 obtain⟨t,rfl⟩:=intItems_at N;obtain⟨h1,h2⟩:=argBest_gt (numAt xs) (xs.size-1);have P:numAt xs (argBest (λi j=>decide (numAt xs i>numAt xs j)) (xs.size-1))∈i::Y:=by
  rw[Z,numAt_eq];exact getD_mem (by rw[aq,bh];lia)
 have R:∀a∈i::Y,a<=numAt xs (argBest (λi j=>decide (numAt xs i>numAt xs j)) (xs.size-1)):=λa ha=>by
  rw[Z]at ha;obtain⟨j,J,rfl⟩:=mem_getD ha;rw[aq,bh]at J;rw[<-numAt_eq];exact h2 j (by lia)
 have sp:=v9 Y i;have eq:=sX (sp.2 _ P) (R _ sp.1);rw[eq];exact⟨.int _,H,I.kept L,⟨_,rfl⟩,q⟩
def Zn:BrC K (λxs H Q=>∃(p:Addr)(i:Int)(r:List Int),xs=[.ref p]/\SqL K H p ((i::r).map V.int)/\Q (.int (mxI i r)) H) Ak:=by
 intro H xs ds d Q r e q;unfold Ak at e;split at e
 .next l=>
  split at e
  .next i X e2=>
   cases e
   cases r with
   |cons Y Z=>
    cases Z;obtain⟨a,ys,rfl,W,U⟩:=Y.lstE;obtain rfl:=wC e2 U;exact⟨a,i,X,rfl,W,q _ rfl (.int _)⟩
  .cases e
 .cases e
theorem yg:∀{l m:List Int},l.Perm m->l.Pairwise (· <= ·)->m.Pairwise (· <= ·)->l=m
 |[],m,p,_,_=>p.nil_eq
 |a::l,m,p,h1,h2=>by
  cases m with
  |nil=>exact absurd p.length_eq (by simp)
  |cons b m=>
   obtain⟨W,X⟩:=bI.mp h1;obtain⟨Y,Z⟩:=bI.mp h2;have e:a=b:=by
    have x1:=p.mem_iff.mp ao;have x2:=p.mem_iff.mpr ao;rcases aJ.mp x1 with z|z
    .exact z
    .rcases aJ.mp x2 with y|y
     .exact y.symm
     .exact sX (W b y) (Y a z)
   subst e;rw[yg (hZ p) X Z]
theorem o_:∀{ns:List Int}{its:List Value},gE its ns->Vals (ns.map V.int) its
 |_,_,.nil=>.nil
 |_,_,.cons n t r=>.cons ⟨t,rfl⟩ (o_ r)
def Fo:m7 X (.builtin "sorted") (λxs H Q=>∃(p:Addr)(ns:List Int),xs=[.ref p]/\SqL X.K H p (ns.map V.int)/\ns.length<64/\∀l,H l=none->Q (.ref l) (upd H l (.lst ((EY ns).map V.int)))):=by
 intro pins s σ H xs us Q I r h;obtain⟨p,ns,rfl,S,Y,q⟩:=h;obtain⟨u,rfl,W⟩:=vals1 r
 cases W;obtain⟨its,Z,pl,L⟩:=I.list S;have hi:=tZ Z;refine sorted_ints pl.isList hi (by rwa[hi.length]) λout U N O P=>?_
 obtain rfl:=yg (O.trans (rF ns).symm) P (tX ns);obtain⟨e,R⟩:=sortedAll_at s.heap its out;have hn:=I.hok.fresh (lU _);have T:=(rF ns).length_eq;have M:=I.laid (h':=sortedAll s.heap its out) (t':=s.toks) (a:=s.heap.objs.size+1) (o:=.lst ((EY ns).map V.int)) (λb u e=>sortedAll_old e) (lU _)
  ⟨by rw[aq,T];exact aV (cG Y) (by decide),out.toList,e,o_ N,by simpa[seqObj]using R⟩
 exact⟨.ref _,_,M,rfl,q _ hn⟩
def Ov (ha:DB X c .P [k] fa) (D:Gl X "sorted") (hm:X.mg "sorted"=none)
 (J:starEach [k] X.env=(false,eval k X.env)::starEach [] X.env:=by rfl) (B:(backTo m (starEach [] X.env)).any (·.1)=false:=by rfl):DE X c .FC (.Call (.Name "sorted" p) [k] [] m) (dCall QD fa):=
 PE.imp (n6 Fo D hm (show bootBuiltins "sorted"=some (.builtin "sorted")by decide +kernel) ha (by decide) (by decide) J B) λσ H Q h=>by
 refine D3.ex4 h λG ow δ d R S q=>?_
 refine D3.ex1 (bind1 S) λds e1 e2=>?_
 refine⟨G,ow,δ,ds,R,e1,λvs H' s V=>?_⟩;unfold QD at e2;split at e2
 .next l=>
  cases e3:dH l with
  |none=>rw[e3]at e2;cases e2
  |some ns=>
   rw[e3,aF]at e2;by_cases Z:ns.length<64
   .rw[if_pos Z]at e2
    cases e2
    cases V with
    |cons W Y=>
     cases Y;obtain⟨a,ys,rfl,U,T⟩:=W.lstE;obtain rfl:=wC e3 T;exact⟨a,ns,rfl,U,Z,λl hn=>q _ _ (s.trans (cP hn _)) (.inr ⟨_,_,_,rfl,rfl,s.free hn,bR,qt _⟩)⟩
   .rw[if_neg Z]at e2;cases e2
 .cases e2
end
end D3
namespace D3
open L2 My
def gK(n:Nat)(us ws:List α):List α:=if ws.length=n then us++ws else []
structure HasD(P:eS)(w:ff)(K:PySem.W.Frag)(mg:Str->Option Value)(base:fF)(n:Nat)(x:Str)(ps:List Str)(sp:Sp)(dvs:List V)(ks:List Str):Prop where
 ex:∃(f:Addr)(fd:gc)(ds:List Value),FnOk P w K mg base CX0 n f fd ps sp/\Binds K fd ps ds/\Vals dvs ds/\KBinds K fd ps ks (gK ks.length) (gK ks.length)/\PySem.W.keepIn K (.ref f)=true/\mg x=some (.ref f)
structure DgD(K:PySem.W.Frag)(mg:Str->Option Value)(x:Str)(st:gv)(ps:List Str)(dvs:List V)(ks:List Str):Prop where
 ex:∃(f:Addr)(fd:gc)(ds:List Value),FunD K x st f fd/\Binds K fd ps ds/\Vals dvs ds/\KBinds K fd ps ks (gK ks.length) (gK ks.length)/\mg x=some (.ref f)
section
variable{ks:List Str}{st:gv}{k:Nat}{fs:FS}{dvs:List V}
end
section
variable{kn:Str}{F:List D->Option D}{fa:FA}{i:Int}{dvs:List V}
def Zo:BrC K (λxs H Q=>(∃i,xs=[.int i]/\Q (.int i) H)\/∃k,xs=[.bl k]/\Q (.int (if k then 1 else 0)) H) uU:=by
 intro H xs ds d Q r e q;unfold uU at e;split at e
 .cases e
  cases r with
  |cons Y Z=>
   cases Z;obtain rfl:=Y.intE;exact .inl ⟨_,rfl,q _ rfl (.int _)⟩
 .cases e
  cases r with
  |cons Y Z=>
   cases Z;obtain rfl:=Y.blE;exact .inr ⟨_,rfl,q _ rfl (.int _)⟩
 .cases e
def Q5{j pos'} (h:DE X fl .P k m):DT X fl (.Compare k [.Is] [.Constant .none j pos'] pos) (bF (dUn Ez m)):=PT.imp (YG (YF h)) λσ H Q h=>by
 refine D3.ex4 h λG ow δ c R Y q=>?_
 refine D3.ex1 (bind1 Y) λd e1 e2=>?_
 refine D3.ex1 (bind1 e1) λx e3 W=>?_
 cases W
 cases e2;refine⟨G,ow,δ,x,R,e3,λv H1 s1 Z=>?_⟩;refine⟨decide (v = .non),rfl,?_⟩;rw[QT (RA.same (Same.refl H1) Z)];exact q H1 s1
def wD(ha:DB X fl .P [e] fa)(D:Gl X "int")(hm:X.mg "int"=none)
 (J:starEach [e] X.env=(false,eval e X.env)::starEach [] X.env:=by rfl) (B:(backTo pos (starEach [] X.env)).any (·.1)=false:=by rfl):DE X fl .FC (.Call (.Name "int" p) [e] [] pos) (dCall uU fa):=
 PE.imp (rD Ob D hm boot_int ha (by decide) (by decide) J B) λσ H Q h=>by
 refine D3.ex4 h λG ow δ d R V q=>?_
 refine D3.ex1 (bind1 V) λds e1 e2=>?_
 exact⟨G,ow,δ,ds,R,e1,λvs H' s Y=>Zo H' vs ds d Q Y e2 λv W Z=>q v H' s (.inl ⟨W,Z⟩)⟩
end
end D3
namespace D3
open L2 My
section
theorem Hy:∀{bs:List Bool}{its:List Value},Vals (bs.map V.bl) its->its=bs.map gg
 |[],_,.nil=>rfl
 |b::r,_,.cons h t=>by
  cases h;rw[Hy t];rfl
def all_range(bs:List Bool):(aN bs.length).all (λi=>bs.getD i false)=bs.all id:=by
 rw[sY,cT,cT]
 constructor
 .intro h b Z;obtain⟨i,hi,rfl⟩:=jh Z;have:=h i (aZ.mpr hi);rwa[aD,aA hi]at this
 .intro h i hi;have hi:=aZ.mp hi;rw[aD,aA hi];exact h _ (cU hi)
theorem Hz (bs:List Bool):TruthOf prog w A (λi v=>(bs.map gg).toArray[i]? = some v) (λi=>bs.getD i false):=by
 intro i v s Q E X W;have Z:(bs.map gg)[i]? = some v:=by simpa using X
 rw[aW]at Z
 cases e:bs[i]? with
 |none=>rw[e]at Z;cases Z
 |some b=>
  rw[e]at Z
  cases Z;have V:bs.getD i false=b:=by rw[aD,e];rfl
  have Y:Q (bs.getD i false) s:=W;rw[V]at Y;exact aw Y
def uz(B:X.calm=true):m7 X (.builtin "all") (λxs H Q=>∃(p:Addr)(bs:List Bool),xs=[.ref p]/\SqL X.K H p (bs.map V.bl)/\Q (.bl (bs.all id)) H):=by
 intro pins s σ H xs us Q I r h;obtain⟨p,bs,rfl,T,q⟩:=h;obtain⟨u,rfl,U⟩:=vals1 r
 cases U;obtain⟨its,Z,pl,R⟩:=I.list T;obtain rfl:=Hy Z;have W:=pl.isList;have Y:p<s.heap.objs.size:=by obtain⟨_,e,_⟩:=id W;exact af e
 refine call_all_walk (di W ?_);refine⟨_,_,_,_,_,_,_,rfl,Walks.list (A:=X.A.in1) (I.ok.hd B) _ p (aR Y) (bs.map gg).toArray,⟨⟨_,ag _ rfl,rfl,rfl⟩,W.push _⟩,Hz bs,λh' tk S=>?_⟩;have e:(bs.map gg).toArray.size=bs.length:=by simp
 rw[e,all_range];exact⟨.bl _,H,I.kept (old_kept S),rfl,q⟩
theorem Dt : ∀{l:List D}{bs:List Bool}{ys:List V},jE l=some bs->RAs K ok pl H ys l->ys=bs.map V.bl
 |[],_,_,e,.nil=>by cases e;rfl
 |d::r,bs,_,e,.cons h t=>by
  cases d<;>first|(cases e;done)|skip
  obtain rfl:=h.blE
  cases e2:jE r with
  |none=>rw[jE,e2]at e;cases e
  |some m=>
   rw[jE,e2]at e
   cases e;rw[Dt e2 t];rfl
def L_:BrC K (λxs H Q=>∃(p:Addr)(bs:List Bool),xs=[.ref p]/\SqL K H p (bs.map V.bl)/\Q (.bl (bs.all id)) H) Am:=by
 intro H xs ds d Q r e q;unfold Am at e;split at e
 .next l=>
  cases e2:jE l with
  |none=>rw[e2]at e;cases e
  |some bs=>
   rw[e2]at e
   cases e
   cases r with
   |cons Y Z=>
    cases Z;obtain⟨a,ys,rfl,X,W⟩:=Y.lstE;obtain rfl:=Dt e2 W;exact⟨a,bs,rfl,X,q _ rfl (.bl _)⟩
 .cases e
end
section
variable{a:Expr}{f:FE}{ta:TE}
def Zq{j pos'}(ha:PE X a ta):PC X .Is a (.Constant (.bool true) j pos') (λσ H Q=>ta σ H λx H1=>∃b,x = .bl b/\Q (.bl b) H1):=by
 intro pins s σ H Q I h;refine thn (ha pins s σ H _ I h) λv s1 ⟨x,H1,Z,Y,q1⟩=>?_
 obtain⟨b,rfl,q⟩:=q1
 cases Y;refine Constant_bool ?_
 cases b
 .exact ae ⟨.bl false,H1,Z,rfl,q⟩
 .exact ae ⟨.bl true,H1,Z,rfl,q⟩
def Zr{j pos'}(h:DE X fl .P a f):DE X fl .FC (.Compare a [.Is] [.Constant (.bool true) j pos'] pos) (dUn Zh f):=PE.imp (Qe (Zq h)) λσ H Q h=>by
 refine D3.ex4 h λG ow δ d R Y q=>?_
 refine D3.ex1 (bind1 Y) λx e1 e2=>?_
 cases x<;>first|(cases e2;done)|skip
 cases e2;refine⟨G,ow,δ,_,R,e1,λv H1 s1 Z=>?_⟩;obtain rfl:=RA.blE Z;exact⟨_,rfl,q _ H1 s1 (.inl ⟨rfl,.bl _⟩)⟩
end
section
variable{a b c:Expr}{f fa:FE}
def wF (ho:OpR X (compareOp k) r) (J:OpR X (compareOp B) r') (hb:BrO X.K r g) (O:BrO X.K r' g') (h1:DE X fl .P a fa) (h2:DE X fl .P b fb) (h3:DE X fl .P c fc)
 (hm:lastMarks [k,B] [b,c]=false:=by with_unfolding_all rfl):DT X fl (.Compare a [k,B] [b,c] pos) (bF (lO g g' fa fb fc)):=PT.imp (Qn ho J h1 h2 h3 hm) λσ H Q h=>by
 refine D3.ex4 h λG ow δ F R Z q=>?_
 refine D3.ex1 (bind1 Z) λd Z hd=>?_
 have W:d = .bool F:=by cases d<;>first|(cases hd;rfl)|(cases hd;done)
 subst W;refine D3.ex1 (bind1 Z) λx e1 Z=>?_
 refine D3.ex1 (bind1 Z) λy e2 Z=>?_
 refine D3.ex1 (bind1 Z) λz e3 Z=>?_
 refine⟨G,ow,δ,x,R,e1,λv H1 s1 N=>⟨G,ow,δ,y,R.grow s1,e2,λu H2 s2 V=>?_⟩⟩;refine hb H2 v u x y z _ (RA.same s2 N) V e3 λE M Y=>?_
 split at Z
 .obtain rfl:=Y.blE;refine D3.ex1 (bind1 Z) λw I L=>?_
  refine⟨true,rfl,Af ⟨G,ow,δ,w,R.grow (s1.trans s2),I,λT U s3 S=>?_⟩⟩;refine O U u T y w _ _ (RA.same s3 V) S L λz M Y=>?_
  obtain rfl:=Y.blE;exact⟨_,rfl,q U (s1.trans (s2.trans s3))⟩
 .obtain rfl:=Y.blE
  cases Z;exact⟨false,rfl,Ae ⟨_,rfl,q H2 (s1.trans s2)⟩⟩
 .cases Z
end
def Itz(K:PySem.W.Frag)(a b:Addr):It:=
 ⟨λi H=>∃xs ys x y,SqL K H a xs/\SqL K H b ys/\xs[i]? = some x/\ys[i]? = some y,
  λi H x H'=>∃p u v,H p=none/\H'=upd H p (.tup [u,v])/\x = .ref p/\(∀xs,SqL K H a xs->xs[i]? = some u)/\∀ys,SqL K H b ys->ys[i]? = some v,
  λi H=>∃xs ys,SqL K H a xs/\SqL K H b ys/\(xs.length<=i\/ys.length<=i)⟩
def yh{z TI TO i1 i2 l1 l2:Addr} {xs ys:Array Value} (hz:IsZip h z TI TO f0) (D:gS h TI m r) (B:gS h TO c k) (h1:h.IsListIter i1 l1 k1) (h2:h.IsListIter i2 l2 k2) (O:h.IsList l1 xs) (J:h.IsList l2 ys) (nT:TI≠TO) (ni:i1≠i2) :
 ik z TI TO i1 i2 l1 l2:=by
 obtain⟨V,e1,Y,R⟩:=h1;obtain⟨W,e2,Z,S⟩:=h2;obtain⟨p1,g1,k1,T⟩:=O;obtain⟨p2,g2,k2,U⟩:=J;have ne:∀{u v:Addr}{o o':Obj},h.get? u=some o->h.get? v=some o'->o.cls≠o'.cls->u≠v:=λe X n z=>by
  subst z;rw[e]at X
  cases X;exact n rfl
 exact⟨ne D hz (by simp),ne B hz (by simp),ne e1 hz (by rw[Y];simp),ne e2 hz (by rw[Z];simp),nT,ne D e1 (by rw[Y];simp),ne D e2 (by rw[Z];simp),ne B e1 (by rw[Y];simp),ne B e2 (by rw[Z];simp),ni,
  ne g1 hz (by rw[k1];simp),ne g1 B (by rw[k1];simp),ne g1 e1 (by rw[k1,Y];simp),ne g1 e2 (by rw[k1,Z];simp),ne g2 hz (by rw[k2];simp),ne g2 B (by rw[k2];simp),ne g2 e1 (by rw[k2,Y];simp),ne g2 e2 (by rw[k2,Z];simp)⟩
theorem Q6 {x1} (a b z TI TO i1 i2:Addr) (nT:TI≠TO) (ni:i1≠i2) :
 Turn P w K (.Tuple elts x1 tpos) (Itz K a b) [z,TI,TO,i1,i2] z (λi h=>IsZip h z TI TO .none/\gS h TI (.ref i1) (.ref i2)/\(∃u v,gS h TO u v)/\h.IsListIter i1 a i/\h.IsListIter i2 b i) where
 mem:=by simp
 obj:=λi h st c Z=>by
  obtain⟨V,Y,⟨u,v,W⟩,⟨o1,e1,c1,d1⟩,⟨o2,e2,c2,d2⟩⟩:=st;simp only[aJ,cV,or_false]at Z;rcases Z with rfl|rfl|rfl|rfl|rfl
  .exact⟨_,V,λv z=>by cases z⟩
  .exact⟨_,Y,λv z=>by cases z⟩
  .exact⟨_,W,λv z=>by cases z⟩
  .exact⟨o1,e1,λv z=>by rw[d1]at z;cases z⟩
  .exact⟨o2,e2,λv z=>by rw[d2]at z;cases z⟩
 keep:=λi h h' st k=>by
  obtain⟨V,Y,⟨u,v,W⟩,h1,h2⟩:=st;exact⟨k _ (by simp) _ V,k _ (by simp) _ Y,⟨u,v,k _ (by simp) _ W⟩,h1.at λo e=>k i1 (by simp) o e,h2.at λo e=>k i2 (by simp) o e⟩
 item:=by
  intro X g hw f Z i pins s σ H E I F st j;subst g hw f;obtain⟨xs,ys,x,y,T,U,J,hy⟩:=j;obtain⟨L,R,N,n⟩:=I.list T;obtain⟨M,S,O,p⟩:=I.list U;obtain⟨B,l,t⟩:=R.get J;obtain⟨C,m,A⟩:=S.get hy;obtain⟨V,Y,⟨u,v,W⟩,h1,h2⟩:=st;have D:=yh V Y W h1 h2 N.isList O.isList nT ni;have r:∀c∈[z,TI,TO,i1,i2],c<s.heap.objs.size:=λc Z=>by
   simp only[aJ,cV,or_false]at Z;rcases Z with rfl|rfl|rfl|rfl|rfl
   .exact af V
   .exact af Y
   .exact af W
   .obtain⟨o,e,_⟩:=h1;exact af e
   .obtain⟨o,e,_⟩:=h2;exact af e
  refine wpAny_pyNext_zip_item D V Y W h1 h2 N.isList O.isList (x:=B) (y:=C) (by simpa using l) (by simpa using m) λhh g1 g2 g3 g4 g5 g6 g7=>?_
  refine⟨_,rfl,wpAny_letOwnedTupleGo_zip g1 λG e1 e2=>?_⟩
  replace e2:gf z hh G:=e2
  have hn:=I.hok.fresh (aB _);have I0:Inv X pins σ (upd H s.heap.objs.size (.tup [x,y])) {s with heap:=s.heap.push {cls:=.type "tuple", data:=.seq #[B,C]} }:=
   I.laid (t':=s.toks) (λb o e=>ad _ e) (aB _) ⟨show 2<=sizeLine by decide,[B,C],.cons t (.cons A .nil),⟨_,ag _ rfl,rfl,_,rfl⟩⟩
  have ne:=λc Z=>aR (r c Z)
  have I1:Inv X pins σ (upd H s.heap.objs.size (.tup [x,y])) {s with heap:=G,toks:=s.toks}:=by
   refine Inv.turnedL (s:={s with heap:=s.heap.push {cls:=.type "tuple", data:=.seq #[B,C]} }) (ch:=[z,TI,TO,i1,i2]) I0 (λc o Z e=>?_) λc Z=>⟨by rw[bG (ne c Z)];exact(F c Z).1,(F c Z).2⟩
   have d:c≠z:=λq=>Z (by simp[q])
   have b2:c≠TO:=λq=>Z (by simp[q])
   have b3:c≠i1:=λq=>Z (by simp[q])
   have b4:c≠i2:=λq=>Z (by simp[q])
   rcases ck e with⟨e3,e4⟩|e3
   .subst e3 e4;exact(e2.2 _ d).trans g5
   .exact(e2.2 _ d).trans (g7 c o d b2 b3 b4 e3)
  refine⟨.ref s.heap.objs.size,_,I1,rfl,⟨_,x,y,hn,rfl,rfl,λzs Q=>by rwa[I.list_inj Q T],λzs Q=>by rwa[I.list_inj Q U]⟩,⟨e1,(e2.2 _ D.TIz).trans (g7 _ _ D.TIz D.TITO D.TIi1 D.TIi2 Y),⟨_,_,(e2.2 _ D.TOz).trans g2⟩,g3.at λo e=>(e2.2 _ D.i1z).trans e,g4.at λo e=>(e2.2 _ D.i2z).trans e⟩,λc Z=>?_⟩;rw[bG (ne c Z)];exact(F c Z).1
 done:=by
  intro X g hw f Z i pins s σ H E I F st j;subst g hw f;obtain⟨xs,ys,T,U,J⟩:=j;obtain⟨L,R,N,n⟩:=I.list T;obtain⟨M,S,O,p⟩:=I.list U;obtain⟨V,Y,⟨u,v,W⟩,h1,h2⟩:=st;have D:=yh V Y W h1 h2 N.isList O.isList nT ni;have la:=R.length;have lb:=S.length;refine wpAny_pyNext_zip_end (I.ok.hd Z) D V Y W h1 h2 N.isList O.isList ?_ λh' eb=>⟨rfl,Inv.turnedL (t':=s.toks) (ch:=[z,TI,TO,i1,i2]) I (λc o Z e=>eb c o (λq=>Z (by simp[q])) (λq=>Z (by simp[q])) (λq=>Z (by simp[q])) (λq=>Z (by simp[q])) e) F⟩
  rcases J with J|J
  .exact .inl (by simp;lia)
  .exact .inr (by simp;lia)
 self:=λ_ _ _ _ _ st h=>dL st.1 h
section
variable{a b:Expr}{f g:FE}
def as3(K:PySem.W.Frag)(ta tb:TE):TI:=λσ H R=>ta σ H λx H1=>tb σ H1 λy H2=>∃p q,x = .ref p/\y = .ref q/\(∃xs,SqL K H2 p xs)/\(∃ys,SqL K H2 q ys)/\R (Itz K p q) H2
def boot_zip:bootBuiltins "zip"=some (.type "zip"):=by decide +kernel
theorem Zt {x1} (hg:Gl X "zip") (hm:X.mg "zip"=none) (ha:PE X a ta) (B:PE X b tb) (O:starEach [a,b] X.env=(false,eval a X.env)::starEach [b] X.env:=by rfl) (J:starEach [b] X.env=(false,eval b X.env)::starEach [] X.env:=by rfl)
 (D:(backTo pos (starEach [b] X.env)).any (·.1)=false:=by rfl):PI X (.Tuple elts x1 tpos) (.Call (.Name "zip" p) [a,b] [] pos) (as3 X.K ta tb):=by
 intro pins s σ H R I h;refine ay (nA I hg hm boot_zip (e_ (thn ((jk ha (jk B nC J) O) pos pins s σ H (λvs H1=>match vs with|[x,y]=>∃p q,x = .ref p/\y = .ref q/\(∃xs,SqL X.K H1 p xs)/\(∃ys,SqL X.K H1 q ys)/\R (Itz X.K p q) H1|_=>False) I h) λus s1 ⟨vs,H1,Y,Q,q1⟩=>?_) O D))
 cases Q with
 |nil=>exact q1.elim
 |cons r S=>
  cases S with
  |nil=>exact q1.elim
  |cons P W=>
  cases W with
  |cons _ _=>exact q1.elim
  |nil=>
  obtain⟨l,m,e,E,⟨xs,M⟩,⟨ys,V⟩,q⟩:=q1;subst e E
  cases r
  cases P;obtain⟨its,A,pl,z⟩:=Y.list M;obtain⟨U,T,pl',N⟩:=Y.list V;refine call_zip_2 pl.isList pl'.isList λh' g1 g2 g3 F G w L=>?_
  have C:=Y.kept (t':=s1.toks) L;refine dL (s:={s1 with heap:=h'}) g1 ?_;refine⟨s1.heap.objs.size+4,[s1.heap.objs.size+4,s1.heap.objs.size+2,s1.heap.objs.size+3,s1.heap.objs.size,s1.heap.objs.size+1],_,_,H1,rfl,C,Q6 l m (s1.heap.objs.size+4) (s1.heap.objs.size+2) (s1.heap.objs.size+3) s1.heap.objs.size (s1.heap.objs.size+1) (aR (fU _)) (aR (fU _)),⟨g1,g2,⟨_,_,g3⟩,F,G⟩,λb B=>?_,q⟩;have Z:s1.heap.objs.size<=b:=by
   simp only[aJ,cV,or_false]at B;rcases B with rfl|rfl|rfl|rfl|rfl<;>lia
  exact Y.fpOk Z (Y.hok.fresh Z)
theorem Ay:∀(l m:List D)(i:Nat),(jV l m)[i]? = (l[i]?).bind λx=>(m[i]?).map λy=>eT [x,y]
 |[],_,i=>by simp[jV]
 |_::_,[],i=>by cases i<;>simp[jV]
 |x::l,y::m,0=>by simp[jV]
 |x::l,y::m,i+1=>by simp[jV,Ay l m i]
theorem t_:∀(l m:List D),(jV l m).length=min l.length m.length
 |[],_=>by simp[jV]
 |_::_,[]=>by simp[jV]
 |x::l,y::m=>by simp[jV,t_ l m]
def RsB.same{Hb:Hp}(e:Same H H')(h:Rs K G.H0 ow Hb H (.B L) v d):Rs K G.H0 ow Hb H' (.B L) v d:=by
 rcases h with h|⟨i,hi,a,xs,ds,h1,h2,X,Y,Z⟩
 .exact .inl (RA.same e h)
 .exact .inr ⟨i,hi,a,xs,ds,h1,h2,X,e _ _ Y,Z.same e⟩
def Q7{elts:List Expr}{x1}{tpos:Pos}{L1 L2:List Nat}(ha:DE X fl (.B L1) a f)(hb:DE X fl (.B L2) b g)(hg:Gl X "zip")(hm:X.mg "zip"=none)(hL:L=L1++L2:=by rfl)
 (he:starEach [a,b] X.env=(false,eval a X.env)::starEach [b] X.env:=by rfl) (J:starEach [b] X.env=(false,eval b X.env)::starEach [] X.env:=by rfl)
 (D:(backTo pos (starEach [b] X.env)).any (·.1)=false:=by rfl):DI X fl L (.Tuple elts x1 tpos) (.Call (.Name "zip" p) [a,b] [] pos) (Vs f g):=PI.imp (Zt hg hm ha hb he J D) λσ H R' h=>by
 subst hL;refine D3.ex4 h λG ow δ l R W q=>?_
 refine D3.ex1 (bind1 W) λd e1 W=>?_
 refine D3.ex1 (bind1 W) λE e2 W=>?_
 obtain⟨P,rfl⟩:∃P,d = .list P:=by cases d<;>first|exact⟨_,rfl⟩|(cases W;done)
 obtain⟨Q,rfl⟩:∃Q,E = .list Q:=by cases E<;>first|exact⟨_,rfl⟩|(cases W;done)
 cases W;refine⟨G,ow,δ,_,R,e1,λv H1 s1 m=>⟨G,ow,δ,_,R.grow s1,e2,λv' H2 s2 n=>?_⟩⟩;have S:=RsB.same s2 m;obtain⟨j,xs,rfl,hx,Y⟩:=yc ((R.grow s1).grow s2) S;obtain⟨k,ys,rfl,c,Z⟩:=yc ((R.grow s1).grow s2) n;refine⟨j,k,rfl,rfl,⟨xs,hx⟩,⟨ys,c⟩,q _ _ (s1.trans s2) λt F i=>?_⟩;obtain⟨I,A⟩:=Y t λb o e z=>F b o e λi w=>bO _ (z i w)
 obtain⟨K,C⟩:=Z t λb o e z=>F b o e λi w=>bw _ (z i w)
 refine⟨λd hd=>?_,λhl=>⟨xs,ys,I,K,?_⟩⟩
 .rw[Ay]at hd
  cases T:P[i]? with
  |none=>rw[T]at hd;cases hd
  |some x0=>
   cases M:Q[i]? with
   |none=>rw[T,M]at hd;cases hd
   |some y0=>
    rw[T,M]at hd
    cases hd;obtain⟨x,U,r⟩:=A.get T;obtain⟨y,V,s⟩:=C.get M;refine⟨⟨xs,ys,x,y,I,K,U,V⟩,λz H4 O=>?_⟩;obtain⟨p',u,v,hp,rfl,rfl,hu,hv⟩:=O;have eu:=U.symm.trans (hu xs I);have ev:=V.symm.trans (hv ys K)
    cases eu
    cases ev;have N:=cP hp (.tup [x,y]);exact⟨N,.tup bR (.cons (r.same N) (.cons (s.same N) .nil))⟩
 .rw[t_]at hl;rw[A.length,C.length];lia
end
end D3
namespace D3
open L2 My
noncomputable def as4(K:PySem.W.Frag)(fl:List Fl)(f:FA):TA:=λσ H Q=>∃G ow δ ds,Rel K fl G ow σ H δ/\f δ=some ds/\∀vs H',Same H H'->(∃as,RTs K H' vs ds as/\as.Nodup/\∀a∈as,H a=none)->Q vs H'
abbrev DBT(X:Cx)(fl:List Fl)(es:List Expr)(f:FA):Prop:=PA X es (as4 X.K fl f)
theorem RTs.length:∀{v:List V}{d:List D}{as:List Addr},RTs K H v d as->v.length=d.length
 |_,_,_,.nil=>rfl
 |_,_,_,.cons _ q=>by simp[RTs.length q]
section
variable{a b c:Expr}{rest:List Expr}{k:Kd}{f fa:FE}
def wG:DBT X fl [] aM:=PA.imp nC λσ H Q h=>by
 refine D3.ex4 h λG ow δ ds R Z q=>?_
 cases Z;exact q [] H (Same.refl H) ⟨[],.nil,.nil,λ_ z=>by cases z⟩
def wH (h:DE X fl .T e f) (B:DBT X fl es fr) (hs:starEach (e::es) X.env=(false,eval e X.env)::starEach es X.env:=by exact mU rfl):DBT X fl (e::es) (ak f fr):=PA.imp (jk h B hs) λσ H Q h=>by
 refine D3.ex4 h λG ow δ ds R Z q=>?_
 refine D3.ex1 (bind1 Z) λd e1 Z=>?_
 refine D3.ex1 (bind1 Z) λr e2 Z=>?_
 cases Z;refine⟨G,ow,δ,d,R,e1,λv H1 s1 V=>⟨G,ow,δ,r,R.grow s1,e2,λvs H2 s2 W=>?_⟩⟩;obtain⟨as,h1,h2,S⟩:=V;obtain⟨bs,g1,g2,g3⟩:=W;refine q _ H2 (s1.trans s2) ⟨as++bs,.cons (h1.same s2) g1,eZ.mpr ⟨h2,g2,λx Y y U z=>?_⟩,λx Y=>?_⟩
 .subst z;exact h1.tracked x Y (g3 x U)
 .rcases bW.mp Y with z|z
  .exact S x z
  .exact s1.free (g3 x z)
def VN{x1}{fa:FA}(h:DBT X fl es fa):DE X fl .T (.Tuple es x1 pos) (dTup fa):=PE.imp (Qo h) λσ H Q h=>by
 refine D3.ex4 h λG ow δ d R Y q=>?_
 refine D3.ex1 (bind1 Y) λl e1 e2=>?_
 by_cases z:l.length<=sizeLine
 .rw[if_pos z]at e2
  cases e2;refine⟨G,ow,δ,l,R,e1,λvs H' s r=>?_⟩;obtain⟨as,h1,h2,W⟩:=r;refine⟨by rwa[h1.length],λp Z=>?_⟩;have g:=cP Z (.tup vs);exact q _ _ (s.trans g) ⟨as,.tup bR (h1.same g),h2,W⟩
 .rw[if_neg z]at e2
  cases e2
def zJ{fa:FA}(h:DBT X fl es fa):DE X fl .T (.List es pos) (gO fa):=PE.imp (J1 h) λσ H Q h=>by
 refine D3.ex4 h λG ow δ d R W q=>?_
 refine D3.ex1 (bind1 W) λl e1 e2=>?_
 by_cases z:l.length<=sizeLine
 .rw[if_pos z]at e2
  cases e2;refine⟨G,ow,δ,l,R,e1,λvs H' s r=>?_⟩;obtain⟨as,h1,h2,V⟩:=r;refine⟨by rwa[h1.length],λp Z=>?_⟩;have g:=cP Z (.lst vs);refine q _ _ (s.trans g) ⟨p::as,.lst bR (h1.same g),bY.mpr ⟨λw=>h1.tracked p w Z,h2⟩,λx Y=>?_⟩;rcases aJ.mp Y with rfl|w
  .exact s.free Z
  .exact V x w
 .rw[if_neg z]at e2
  cases e2
def Mf:DE X fl .T (.Dict [] [] pos) (dC (.dict [])):=PE.imp Qz λσ H Q h=>by
 refine D3.ex4 h λG ow δ d R W q=>?_
 cases W;intro p Y;exact q _ _ (cP Y _) ⟨[p],.dic bR (.inl ⟨rfl,rfl⟩),bY.mpr ⟨cV,.nil⟩,λx Z=>by rwa[aL.mp Z]⟩
theorem Q8(h:DE X fl .C e f):DE X fl .T e (dN1 f):=wg h λHb H G ow σ δ v d Z R r=>by
 obtain⟨as,h1,h2,W⟩:=RA.rt r;have Y:as.length<=1:=by rw[h2];exact of_decide_eq_true Z
 refine⟨as,h1,?_,W⟩
 cases as with
 |nil=>exact .nil
 |cons x r=>
  cases r with
  |nil=>exact bY.mpr ⟨cV,.nil⟩
  |cons y r=>simp at Y
def Yb(h:DE X fl .T e f):DE X fl .C e f:=oZ h λHb H G ow σ δ v d R r=>by
 obtain⟨as,h1,h2,Z⟩:=r;exact h1.ra Z
def zK(i:Nat)(hn:isN fl[i]? = true) (J:X.N[i]? = some m:=by rfl) (D:Vis X.env.scope m:=by first|exact fE rfl|exact fg (fE rfl)|exact fg (fg rfl)) (hd:(m==("__debug__":Str))=false:=by decide)
 (B:(m==("__classdict__":Str))=false:=by decide):DE X fl .P (.Name m pos) (aj i):=by
 refine PE.imp (pK J D hd B) λσ H Q h=>?_
 refine D3.ex4 h λG ow δ d R Z q=>?_
 obtain⟨v,h1,h2,_⟩:=R.nr i d hn (kW Z);exact⟨v,h1,q v H (Same.refl H) (h2.ra λ_ _=>trivial)⟩
def wI(i:Nat)(hn:isN fl[i]? = true) (J:X.N[i]? = some m:=by rfl) (D:Vis X.env.scope m:=by first|exact fE rfl|exact fg (fE rfl)|exact fg (fg rfl)) (hd:(m==("__debug__":Str))=false:=by decide)
 (B:(m==("__classdict__":Str))=false:=by decide):DE X fl .R (.Name m pos) (aj i):=by
 refine PE.imp (pK J D hd B) λσ H Q h=>?_
 refine D3.ex4 h λG ow δ d R Z q=>?_
 obtain⟨v,h1,h2,_⟩:=R.nr i d hn (kW Z);exact⟨v,h1,q v H (Same.refl H) (h2.ra λa ha=>(R.nt i a ha).1)⟩
def Kh(B:isR k=true)(ha:DE X fl k a fa)(D:DE X fl .P b fb)(hs:ur b):DE X fl k (.Subscript a b pos) (dOp gIx fa fb):=PE.imp (Ln Eu ha D hs) λσ H Q h=>by
 refine D3.ex4 h λG ow δ d R S q=>?_
 refine D3.ex2 (Av S) λx y e1 e2 e3=>?_
 refine⟨G,ow,δ,x,R,e1,λv H1 s1 T=>⟨G,ow,δ,y,R.grow s1,e2,λu H2 s2 U=>?_⟩⟩;have q1:=(T.ra B).same s2;unfold gIx at e3;split at e3
 .next l i=>
  obtain rfl:=RA.intE U;obtain⟨p,xs,rfl,Y,W⟩:=q1.lstE;obtain⟨z,V,Z⟩:=W.at e3;exact .inl ⟨p,xs,i,z,rfl,rfl,Y,V,q z H2 (s1.trans s2) (Rs.of_ra B Z)⟩
 .next l i=>
  obtain rfl:=RA.intE U;obtain⟨p,xs,rfl,Y,W⟩:=q1.tupE;obtain⟨z,V,Z⟩:=W.at e3;exact .inr (.inl ⟨p,xs,i,z,rfl,rfl,Y,V,q z H2 (s1.trans s2) (Rs.of_ra B Z)⟩)
 .cases e3
end
section
def owN(ow:Ow)(i:Nat)(as:List Addr):Ow:=⟨ow.s,λj=>if j=i then as else ow.n j⟩
def iV : (owN ow i as).n i=as:=if_pos rfl
def gA (h:j≠i):(owN ow i as).n j=ow.n j:=if_neg h
def Rel.setN (R:Rel K fl G ow σ H δ) (s:Same H H') (B:fl[i]? = some .N) (hi:i<σ.length) (r:Rs K G.H0 ow H H' .T v d) :
 ∃J,Rel K fl G J (σ.set i (some v)) H' (δ.set i (some (.d d))):=by
 have R':=R.grow s;obtain⟨as,h1,h2,W⟩:=r;have O:∀a,ow i≠some a:=λa z=>by
  obtain⟨_,P,_⟩:=R.own i a z;rw[B]at P;rcases P with⟨z,_⟩|⟨z,_⟩<;>cases z
 have sub:∀b,okA ow b/\H b≠none->okA (owN ow i as) b:=λb z=>⟨z.1.1,λj e=>by
  by_cases Z:j=i
  .subst Z;rw[iV]at e;exact z.2 (W b e)
  .rw[gA Z]at e;exact z.1.2 j e⟩
 have old:∀{v:V}{d:D},RA K (okA ow) true H v d->RA K (okA (owN ow i as)) true H' v d:=λr=>(r.track.imp sub (λz=>z)).same s
 have olds:∀{v:List V}{d:List D},RAs K (okA ow) true H v d->RAs K (okA (owN ow i as)) true H' v d:=λr=>(r.track.imp sub (λz=>z)).same s
 refine⟨owN ow i as,R'.s0,R'.s1,by rw[cJ,cJ];exact R.len,λj a h=>?_,R.inj,R.pin,λj U g1 X g2=>?_,λj U g1 X g2 g3=>?_,λj a h=>?_,λj j' a h h'=>?_,λj j' a h=>?_,λj h=>?_,λj U X g1=>?_⟩
 .have Z:j≠i:=λz=>O a (z▸h)
  obtain⟨L,M,xs,ds,g1,g2,g3,Q⟩:=R.own j a h;exact⟨L,M,xs,ds,by rwa[aY (e9 Z)],s _ _ g2,olds g3,by rwa[aY (e9 Z)]⟩
 .rcases gD g1 with⟨rfl,e⟩|⟨Z,e⟩
  .rw[B]at X;cases X
  .obtain⟨S,g3,Q⟩:=R.dat j U e X g2;exact⟨S,by rwa[aY (e9 Z)],old Q⟩
 .rcases gD g1 with⟨rfl,e⟩|⟨Z,e⟩
  .rw[B]at X;cases X
  .exact R.oo j U e X g2 g3
 .by_cases Z:j=i
  .subst Z;rw[iV]at h;exact⟨R.same0.free (W a h),h1.chd a h,.inl ⟨B,R.s1.free (W a h)⟩⟩
  .rw[gA Z]at h;exact R'.nt j a h
 .by_cases Z:j=i
  .by_cases Y:j'=i
   .rw[Z,Y]
   .subst Z;rw[iV]at h;rw[gA Y]at h';exact absurd (W a h) (R.nt j' a h').2.1.ne
  .rw[gA Z]at h;by_cases Y:j'=i
   .subst Y;rw[iV]at h';exact absurd (W a h') (R.nt j a h).2.1.ne
   .rw[gA Y]at h';exact R.nd j j' a h h'
 .by_cases Z:j=i
  .subst Z;rw[iV]at h;exact λz=>by
    obtain⟨_,_,_,_,_,g2,_⟩:=R.own j' a z;rw[W a h]at g2
    cases g2
  .rw[gA Z]at h;exact R.ns j j' a h
 .have Z:j≠i:=λz=>by subst z;rw[B]at h;cases h
  rw[gA Z];exact R.np j h
 .rcases gD g1 with⟨rfl,e⟩|⟨Z,e⟩
  .cases e;exact⟨v,by rw[dg hi],by rwa[iV],by rwa[iV]⟩
  .obtain⟨S,g3,Q⟩:=R'.nr j U X e;exact⟨S,by rwa[aY (e9 Z)],by rwa[gA Z]⟩
def Rel.mutN [cu:Chg c] [cu':Chg J] (R:Rel K fl G ow σ H δ) (B:fl[i]? = some .N) (hi:i<δ.length) (ha:a∈ow.n i) (hx:H a=some c) (hv:σ[i]? = some (some m))
 (hr:RT K (upd H a J) m k as) (hs:∀b∈as,b∈ow.n i) (hd:as.Nodup):∃O,Rel K fl G O σ (upd H a J) (δ.set i (some (.d k))):=by
 have na:¬okA ow a:=λz=>z.2 i ha
 have M:G.HF a=none:=by
  rcases(R.nt i a ha).2.2 with⟨_,z⟩|z
  .exact z
  .rw[B]at z;cases z
 have Q:∀a,ow i≠some a:=λa z=>by
  obtain⟨_,S,_⟩:=R.own i a z;rw[B]at S;rcases S with⟨z,_⟩|⟨z,_⟩<;>cases z
 have sub:∀b,okA ow b->okA (owN ow i as) b:=λb z=>⟨z.1,λj e=>by
  by_cases Z:j=i
  .subst Z;rw[iV]at e;exact z.2 j (hs b e)
  .rw[gA Z]at e;exact z.2 j e⟩
 have tr:∀b,Chd (H b)->Chd (upd H a J b):=λb z=>by
  by_cases X:b=a
  .rw[X,bR];exact⟨_,rfl,cu'⟩
  .rwa[bG X]
 refine⟨owN ow i as,R.s0,λb o X=>?_,by rw[cJ];exact R.len,λj b h=>?_,R.inj,R.pin,λj W g1 Y g2=>?_,λj W g1 Y g2 g3=>?_,λj b h=>?_,λj j' b h h'=>?_,λj j' b h=>?_,λj h=>?_,λj W Y g1=>?_⟩
 .rw[bG (λz=>by subst z;rw[M]at X;cases X)];exact R.s1 b o X
 .have Z:j≠i:=λz=>Q b (z▸h)
  obtain⟨L,P,zs,ds,g1,g2,g3,U⟩:=R.own j b h;have X:b≠a:=λz=>R.ns i j a ha (z▸h)
  exact⟨L,P,zs,ds,g1,by rwa[bG X],(g3.upd hx na).imp sub (λz=>z),by rwa[aY (e9 Z)]⟩
 .rcases gD g1 with⟨rfl,e⟩|⟨Z,e⟩
  .rw[B]at Y;cases Y
  .obtain⟨T,g3,U⟩:=R.dat j W e Y g2;exact⟨T,g3,(U.upd hx na).imp sub (λz=>z)⟩
 .rcases gD g1 with⟨rfl,e⟩|⟨Z,e⟩
  .rw[B]at Y;cases Y
  .exact R.oo j W e Y g2 g3
 .by_cases Z:j=i
  .subst Z;rw[iV]at h;obtain⟨g1,g2,g3⟩:=R.nt j b (hs b h);exact⟨g1,tr b g2,g3⟩
  .rw[gA Z]at h;obtain⟨g1,g2,g3⟩:=R.nt j b h;exact⟨g1,tr b g2,g3⟩
 .have old:∀j b,b∈(owN ow i as).n j->b∈ow.n j:=λj b h=>by
   by_cases Z:j=i
   .subst Z;rw[iV]at h;exact hs b h
   .rw[gA Z]at h;exact h
  exact R.nd j j' b (old j b h) (old j' b h')
 .by_cases Z:j=i
  .subst Z;rw[iV]at h;exact R.ns j j' b (hs b h)
  .rw[gA Z]at h;exact R.ns j j' b h
 .have Z:j≠i:=λz=>by subst z;rw[B]at h;cases h
  rw[gA Z];exact R.np j h
 .rcases gD g1 with⟨rfl,e⟩|⟨Z,e⟩
  .cases e;exact⟨m,hv,by rwa[iV],by rw[iV];exact hd⟩
  .obtain⟨T,g3,U,I⟩:=R.nr j W Y e;exact⟨T,g3,by rw[gA Z];exact U.upd hx (λz=>Z (R.nd j i a z ha)),by rw[gA Z];exact I⟩
end
section
variable{H:Hp}
end
section
variable{f:FE}
def wJ(D:fl[i]? = some .N)(O:X.N.Nodup)(hi:X.N[i]? = some x)(J:X.env.scope.names.lookup x=some .local\/X.env.scope.names.lookup x=some .cell)(h:DE X fl .T e f)
 (hs:swapsWith e (some (.Name x pos')) pos.line X.env=pure false:=by rfl) (B:X.fn x=true\/X.env.scope.names.lookup x=some .local:=by first|exact .inl rfl|exact .inr rfl) :
 DS1 X fl (.Assign [.Name x pos'] e pos) (bN i f):=PS.imp (Es (i:=i) O hi J h hs B) λDn σ H h=>by
 refine D3.ex4 h λG ow δ o R Z q=>?_
 unfold bN at Z;by_cases W:i<δ.length
 .rw[if_pos W]at Z;refine D3.ex1 (bind1 Z) λd e1 e2=>?_
  cases e2;refine⟨G,ow,δ,d,R,e1,λv H' s r=>?_⟩;obtain⟨Y,R'⟩:=R.setN s D (wu R W) r;exact q Y _ H' R'
 .rw[if_neg W]at Z
  cases Z
def Q9 (B:pIx vs.length c=some n) (h:vs[n]? = some v):atI vs c=some v:=by
 unfold atI;rwa[show ixN vs.length c=some n from B]
end
end D3
namespace D3
def Az:List D->Option D
 |[.int hi]=>if(-(2^62)<=hi/\hi<2^62)/\(hi-0).toNat<=1000000 then some (.list (iu 0 hi))else none
 |_=>none
def VP (h:0<=hi) (h':hi<=1000000):Az [.int hi]=some (.list (iu 0 hi)):=by
 show(if(-(2^62)<=hi/\hi<2^62)/\(hi-0).toNat<=1000000 then some (f8 (iu 0 hi))else none)=_;rw[if_pos ⟨⟨by lia,by lia⟩,by lia⟩]
noncomputable def Yc:D->Option (List D)
 | .list l=>some l
 | .tuple l=>some l
 |_=>none
def qSq(x:Option D):Option (List D):=x.bind Yc
def HB(f:FE):FA:=λδ=>(f δ).bind Yc
def Zu : HB c δ=qSq (c δ):=rfl
def Zv:qSq (some (.tuple l))=some l:=rfl
def oR:D->Option D
 | .list l=>some (.tuple l)
 | .tuple l=>some (.tuple l)
 |_=>none
def A_:oR (.list l)=some (.tuple l):=rfl
def qRL(a:Option D):Option Oc:=match a with
 |some d=>some (.ex "" "" d)
 |none=>none
def uc(B:FE):FS:=λδ=>(B δ).bind λd=>some (.ex "" "" d)
def Zw : uc B δ=qRL (B δ):=by
 unfold uc qRL
 cases B δ<;>rfl
def Q_:qRL (some d)=some (.ex "" "" d):=rfl
noncomputable def VR(o:Option Oc):Option D:=match o with
 |some (.rt d)=>some d
 |some (.ex _ _ d)=>some d
 |some (.nx _)=>some .none
 |_=>none
def fnL(p q:Nat)(b:FS):List D->Option D:=λds=>if ds.length=p then VR (b (ds.map (λd=>some (.d d))++aO q none))else none
def ah9 : fnL c k m ds=if ds.length=c then VR (m (ds.map (λd=>some (.d d))++aO k none))else none:=rfl
def Ra : VR (some (.ex c k d))=some d:=rfl
end D3
namespace D3
open L2 My
section
end
section
variable{f:FE}
def RAs.erase {d:List D} (n:Nat) (r:RAs K ok pl H c d):RAs K ok pl H (c.eraseIdx n) (d.eraseIdx n):=by
 rw[mZ,mZ];exact(r.take n).append (r.drop (n+1))
end
section
variable{a:Expr}{fa:FA}
end
end D3
namespace D3
open L2 My
section
variable{σ:L2.St}{H:Hp}{s:eM}
end
section
end
section
end
section
variable{f:FE}
def ai0 (h1:PI X tg c k) (h2:PI X tg c B):PI X tg c (λσ H R=>k σ H R\/B σ H R):=λpins s σ H R I h=>by
 rcases h with h|h
 .exact h1 pins s σ H R I h
 .exact h2 pins s σ H R I h
def Rc (R:Rel K fl G ow σ H δ) (r:Rs K G.H0 ow Hb H (.B L) v (.tuple l)):∃a xs,v = .ref a/\SqT K H a xs /\
 ∀H2:Hp,(∀b o,H b=some o->(∀i,ow i=some b->i∈L)->(∀i,b∉ow.n i)->H2 b=some o)->SqT K H2 a xs/\RAs K (λb=>okA ow b/\H b≠none) true H2 xs l:=by
 rcases r with r|⟨i,hi,a,xs,ds,W,rfl,e,Y,X⟩
 .cases r with
  |tup e q=>
   refine⟨_,_,rfl,e.sq,λH2 Z=>⟨?_,RAs.keep Z R.ownL R.ownC (λb z=>z.1) q.track⟩⟩;exact .inl (.inl (Z _ _ e (nm R.ownL e (by intro xs z;cases z)) (nm2 R.ownC e Chg.tup)))
 .cases e
theorem Kl(h:DE X fl (.B L) e f):DI X fl L tg e (HB f):=PI.imp (ai0 (Li h) (J0 h)) λσ H R' h=>by
 refine D3.ex4 h λG ow δ l R O q=>?_
 refine D3.ex1 (bind1 O) λd e1 e2=>?_
 cases d with
 |list Q=>
  cases e2;refine .inl ⟨G,ow,δ,_,R,e1,λv H1 s r=>?_⟩;obtain⟨a,xs,rfl,S,keep⟩:=yc (R.grow s) r;refine⟨a,rfl,⟨xs,S⟩,q _ _ s λH2 k2 i=>?_⟩;obtain⟨Z,W⟩:=keep H2 k2;refine⟨λd hd=>?_,λP=>⟨xs,Z,by rwa[W.length]⟩⟩;obtain⟨y,V,U⟩:=W.get hd;refine⟨⟨xs,y,Z,V⟩,λx N Y=>?_⟩;obtain⟨e,T⟩:=Y;subst e;have:some y=some x:=V.symm.trans (T xs Z)
  cases this;exact⟨Same.refl _,U⟩
 |tuple Q=>
  cases e2;refine .inr ⟨G,ow,δ,_,R,e1,λv H1 s r=>?_⟩;obtain⟨a,xs,rfl,S,keep⟩:=Rc (R.grow s) r;refine⟨a,rfl,⟨xs,S⟩,q _ _ s λH2 k2 i=>?_⟩;obtain⟨Z,W⟩:=keep H2 k2;refine⟨λd hd=>?_,λP=>⟨xs,Z,by rwa[W.length]⟩⟩;obtain⟨y,V,U⟩:=W.get hd;refine⟨⟨xs,y,Z,V⟩,λx N Y=>?_⟩;obtain⟨e,T⟩:=Y;subst e;have:some y=some x:=V.symm.trans (T xs Z)
  cases this;exact⟨Same.refl _,U⟩
 |none=>cases e2
 |bool _=>cases e2
 |int _=>cases e2
 |str _=>cases e2
 |dict _=>cases e2
end
section
variable{a:Expr}{f:FE}
def zL(h:DE X fl (.B L) a f)(O:Gl X "tuple")(hm:X.mg "tuple"=none)
 (J:starEach [a] X.env=(false,eval a X.env)::starEach [] X.env:=by exact mU rfl) (D:(backTo pos (starEach [] X.env)).any (·.1)=false:=by rfl):DE X fl .A (.Call (.Name "tuple" p) [a] [] pos) (dUn oR f):=
 PE.imp (rD uY O hm boot_tuple (jk h nC J) (by decide) (by decide) J D) λσ H Q h=>by
 refine D3.ex4 h λG ow δ d R U q=>?_
 refine D3.ex1 (bind1 U) λx e1 e2=>?_
 refine⟨G,ow,δ,x,R,e1,λv H1 s1 Y=>?_⟩;unfold oR at e2;split at e2
 .cases e2;obtain⟨p,xs,rfl,Z,W⟩:=vK Y;exact⟨p,xs,rfl,.inl ⟨Z,λpn V=>q _ _ (s1.trans (cP V _)) (.tup bR (W.same (cP V _)))⟩⟩
 .cases e2;rcases Y with Y|⟨i,hi,a,xs,ds,T,rfl,e,Z,W⟩
  .obtain⟨p,xs,rfl,Z,W⟩:=Y.tupE0;exact⟨p,xs,rfl,.inr ⟨Z.sq,q _ _ s1 (.tup Z W)⟩⟩
  .cases e
 .cases e2
def V0(h:DE X fl .C a f)(J:Gl X "tuple")(hm:X.mg "tuple"=none)
 (D:starEach [a] X.env=(false,eval a X.env)::starEach [] X.env:=by exact mU rfl) (B:(backTo pos (starEach [] X.env)).any (·.1)=false:=by rfl):DE X fl .C (.Call (.Name "tuple" p) [a] [] pos) (dUn oR f):=
 PE.imp (rD uY J hm boot_tuple (jk h nC D) (by decide) (by decide) D B) λσ H Q h=>by
 refine D3.ex4 h λG ow δ d R U q=>?_
 refine D3.ex1 (bind1 U) λx e1 e2=>?_
 refine⟨G,ow,δ,x,R,e1,λv H1 s1 W=>?_⟩;unfold oR at e2;split at e2
 .cases e2;obtain⟨p,xs,rfl,Z,Y⟩:=RA.lstE W;exact⟨p,xs,rfl,.inl ⟨Z,λpn V=>q _ _ (s1.trans (cP V _)) (.tup bR (Y.same (cP V _)))⟩⟩
 .cases e2;obtain⟨p,xs,rfl,Z,Y⟩:=RA.tupE0 W;exact⟨p,xs,rfl,.inr ⟨Z.sq,q _ _ s1 (.tup Z Y)⟩⟩
 .cases e2
end
section
variable{a b:Expr}{fa:FE}
end
end D3
namespace D3
open L2 My
section
end
noncomputable def Itv(K:PySem.W.Frag)(a:Addr)(n:Nat):It:=
 ⟨λi H=>i<n/\∃xs x,SqL K H a xs/\xs.length=n/\xs[n-1-i]? = some x,λi H x H'=>H'=H/\∀xs,SqL K H a xs->xs[n-1-i]? = some x,λi _=>n<=i⟩
theorem Rf(a it:Addr)(n:Nat):Turn P w K tg (Itv K a n) [it] it (λi h=>i<=n/\h.IsRevIter it a ((n:Int)-1-(i:Int))) where
 mem:=by simp
 obj:=λi h st b Y=>by
  have e:b=it:=by simpa using Y
  subst e;obtain⟨_,o,e,c,d⟩:=st;exact⟨o,e,λv z=>by rw[d]at z;cases z⟩
 keep:=λi h h' st k=>⟨st.1,st.2.at λo e=>k it (by simp) o e⟩
 item:=by
  intro X U hw T O i pins s σ H E I V st W;subst U hw T;obtain⟨hi,xs,x,Q,hn,G⟩:=W;obtain⟨its,M,p,C⟩:=I.list Q;obtain⟨u,hu,L⟩:=M.get G;obtain⟨f0,f1,f2,f3,R,S⟩:=V it (by simp);have Z:=st.2;rw[show(n:Int)-1-(i:Int)=((n-1-i:Nat):Int)by lia]at Z;refine wpAny_pyNext_rev_item Z p.isList (x:=u) (by simpa using hu) λh' st' N=>?_
  rw[show((n-1-i:Nat):Int)-1=(n:Int)-1-((i+1:Nat):Int)by lia]at st';have D:=I.turned (t':=s.toks) (λb o Y e=>(N.2 b Y).trans e) f0 f1 f3 R S;obtain⟨o,e,c,d⟩:=id st';exact⟨u,rfl,G5 (s:={s with heap:=h'}) e c d (by decide) ⟨x,H,D,L,⟨rfl,λys J=>by rwa[I.list_inj J Q]⟩,⟨by lia,st'⟩,λb Y=>(V b Y).1⟩⟩
 done:=by
  intro X U hw T O i pins s σ H E I V st W;subst U hw T;obtain⟨f0,f1,f2,f3,R,S⟩:=V it (by simp);have W:n<=i:=W;have Z:=st.2;rw[show(n:Int)-1-(i:Int) = -1 by lia]at Z;exact wpAny_pyNext_rev_end (I.ok.hd O) Z λh' F=>⟨rfl,I.turned (t':=s.toks) (λb o Y e=>F b o Y e) f0 f1 f3 R S⟩
 self:=λ_ _ _ _ _ st h=>wpAny_pyIter_revIter st.2 h
section
variable{a:Expr}{f:FE}
def as5(K:PySem.W.Frag)(ta:TE):TI:=λσ H R=>ta σ H λx H1=>∃p xs,x = .ref p/\SqL K H1 p xs/\R (Itv K p xs.length) H1
theorem Zx (J:Gl X "reversed") (hm:X.mg "reversed"=none) (ha:PE X a ta) (D:starEach [a] X.env=(false,eval a X.env)::starEach [] X.env:=by rfl)
 (B:(backTo pos (starEach [] X.env)).any (·.1)=false:=by rfl):PI X tg (.Call (.Name "reversed" p) [a] [] pos) (as5 X.K ta):=by
 intro pins s σ H R I h;refine ay (nA I J hm boot_reversed (e_ (thn ((jk ha nC D) pos pins s σ H (λvs H1=>match vs with|[x]=>∃p xs,x = .ref p/\SqL X.K H1 p xs/\R (Itv X.K p xs.length) H1|_=>False) I h) λus s1 ⟨vs,H1,Y,T,q1⟩=>?_) D B))
 cases T with
 |nil=>exact q1.elim
 |cons r U=>
  cases U with
  |cons _ _=>exact q1.elim
  |nil=>
  obtain⟨l,xs,e,S,q⟩:=q1;subst e
  cases r;obtain⟨its,V,pl,O⟩:=Y.list S;have N:=V.length;refine call_reversed_list pl.isList ?_;have P:Inv X pins σ H1 {s1 with heap:=s1.heap.push (revObj l ((its.toArray.size:Int)-1))}:=Y.kept (t':=s1.toks) λb o e=>ad _ e
  have Z:(s1.heap.push (revObj l ((its.toArray.size:Int)-1))).IsRevIter s1.heap.objs.size l ((its.toArray.size:Int)-1):=⟨_,ag _ rfl,rfl,rfl⟩;refine wpAny_pyIter_revIter (s:={s1 with heap:=s1.heap.push (revObj l ((its.toArray.size:Int)-1))}) Z ?_;have W:=Z;rw[show(its.toArray.size:Int)-1=(xs.length:Int)-1-((0:Nat):Int)by rw[aQ];lia]at W;refine⟨s1.heap.objs.size,[s1.heap.objs.size],_,_,H1,rfl,P,Rf l s1.heap.objs.size xs.length,⟨cg _,by rwa[show(xs.length:Int)-1-((0:Nat):Int)=(its.toArray.size:Int)-1 by rw[aQ];lia]⟩,λb Q=>?_,q⟩;have e:b=s1.heap.objs.size:=by simpa using Q
  subst e;exact Y.fpOk (aB _) (Y.hok.fresh (aB _))
def Zy(h:DE X fl (.B L) a f)(J:Gl X "reversed")(hm:X.mg "reversed"=none)(he:starEach [a] X.env=(false,eval a X.env)::starEach [] X.env:=by rfl)
 (D:(backTo pos (starEach [] X.env)).any (·.1)=false:=by rfl):DI X fl L tg (.Call (.Name "reversed" p) [a] [] pos) (Vt f):=PI.imp (Zx J hm h he D) λσ H R' h=>by
 refine D3.ex4 h λG ow δ l R N q=>?_
 refine D3.ex1 (bind1 N) λd e1 e2=>?_
 obtain⟨Z,rfl⟩:∃Z,d = .list Z:=by cases d<;>first|exact⟨_,rfl⟩|(cases e2;done)
 cases e2;refine⟨G,ow,δ,_,R,e1,λv H1 s r=>?_⟩;obtain⟨a,xs,rfl,P,keep⟩:=yc (R.grow s) r;refine⟨a,xs,rfl,P,q _ _ s λH2 k2 i=>?_⟩;obtain⟨U,V⟩:=keep H2 k2;have S:=V.length;refine⟨λd hd=>?_,λO=>by rw[uR]at O;show xs.length<=i;lia⟩;have hi:i<Z.length:=by
  have:=(gB.mp hd).1;rwa[uR]at this
 rw[List.getElem?_reverse hi]at hd;obtain⟨y,W,T⟩:=V.get hd;rw[<-S]at W;refine⟨⟨by lia,xs,y,U,rfl,W⟩,λx M Y=>?_⟩;obtain⟨e,Q⟩:=Y;subst e;have:some y=some x:=W.symm.trans (Q xs U)
 cases this;exact⟨Same.refl _,T⟩
end
def spL(K:PySem.W.Frag)(F:List D->Option D):Sp:=λvs H Q _=>∃ds d,(Tb H/\RAs K ok1 true H vs ds)/\F ds=some d/\∀v H',Same H H'->RA K ok1 true H' v d->Q v H'
section
variable{f:FE}{F:List D->Option D}{fa:FA}
def Mg(h:DE X fl .P e f):DS1 X fl (.Return (some e) pos) (uc f):=PS.imp (JV h) λDn σ H h=>by
 refine D3.ex4 h λG ow δ o R Z q=>?_
 refine D3.ex1 (bind1 Z) λd e1 e2=>?_
 cases e2;exact⟨G,ow,δ,d,R,e1,λv H' s r=>q v H' (R.same0.trans s) r⟩
def as6(B:(fl.all λx=>decide (x = .A))=true)(h:DE X fl .P e f):DE X fl .A e f:=oZ h λHb H G ow σ δ v d R r=>by
 have Z:∀(i:Nat)(c:Fl),fl[i]? = some c->c=Fl.A:=λi c e=>by simpa using cT.mp B c (gJ e)
 have ok:∀a,okA ow a:=λa=>by
  constructor
  .intro i z;rcases(R.own i a z).2.1 with⟨w,_⟩|⟨w,_⟩
   .cases Z i _ w
   .cases Z i _ w
  .intro i z;rcases(R.nt i a z).2.2 with⟨w,_⟩|w
   .cases Z i _ w
   .cases Z i _ w
 exact RA.imp (λa _=>ok a) (λz=>z) r
def Rg(h:Has X.prog X.w X.K X.mg X.base n x ps (spL X.K F))(J:Room n X.A)(ha:DB X fl .P (e::es) fa)(O:Gl X x:=by rfl)(D:(x==("__debug__":Str))=false:=by decide)
 (he:starEach (e::es) X.env=(false,eval e X.env)::starEach es X.env:=by exact mU rfl) (B:(backTo pos (starEach es X.env)).any (·.1)=false:=by exact Lz rfl) :
 DE X fl .P (.Call (.Name x p) (e::es) [] pos) (dCall F fa):=PE.imp (Ag h J ha O D he B) λσ H Q h=>by
 refine D3.ex4 h λG ow δ d R Y q=>?_
 refine D3.ex1 (bind1 Y) λds e1 e2=>?_
 refine⟨G,ow,δ,ds,R,e1,λvs H' s r=>?_⟩;show spL X.K F (vs++[]) H' Q E0;rw[cI];exact⟨ds,d,⟨R.tb.same s,r⟩,e2,λv H2 s2 Z=>q v H2 (s.trans s2) Z⟩
end
section
variable{st:gv}{k:Nat}{fs:FS}
def V1(O:FunD K x st f fd)(S:FnScope N ps (bH st))(D:∀i,i<ps.length->fl[i]? = some .A)(J:ps.length<=N.length)
 (B:∀(f:Addr)(cdv:Value)(A:eW)(outer:List Env)(s:eM)(H:Hp)(E:XK),Room k (A.deeper (envOfC x (bH st) s.heap.objs.size f cdv))->DSs (cx P w K mg base N x st f cdv A outer s H E) fl (jm st) fs) :
 FnOk P w K mg base CX0 (k+1) f fd ps (spL K (fnL ps.length (N.length-ps.length) fs)):=by
 refine O.ok S (λvs H Q E h=>?_) (λcdv A outer s H vs Q E X h=>?_)
 .obtain⟨ds,d,r,Z,_⟩:=h;unfold fnL at Z;by_cases z:ds.length=ps.length
  .rwa[r.2.length]
  .rw[if_neg z]at Z;cases Z
 .obtain⟨ds,d,r,Z,q⟩:=h;refine⟨_,B f cdv A outer s H E X,?_⟩;unfold fnL VR at Z;by_cases z:ds.length=ps.length
  .rw[if_pos z]at Z;split at Z
   .next W e=>
    cases Z;exact⟨_,_,_,_,mq ps.length D z J r,e,λv H' s r=>q v H' s (RA.imp (λ_ _=>trivial) (λ_=>rfl) r)⟩
   .next c' V W e=>
    cases Z;exact⟨_,_,_,_,mq ps.length D z J r,e,λv H' s r=>q v H' s r⟩
   .next δ' e=>
    cases Z;exact⟨_,_,_,_,mq ps.length D z J r,e,λY σ' H' R'=>q .non H' R'.same0 .non⟩
   .cases Z
  .rw[if_neg z]at Z;cases Z
def Zz(O:Dg K mg x st ps)(S:FnScope N ps (bH st))(D:∀i,i<ps.length->fl[i]? = some .A)(J:ps.length<=N.length)
 (B:∀(f:Addr)(cdv:Value)(A:eW)(outer:List Env)(s:eM)(H:Hp)(E:XK),Room k (A.deeper (envOfC x (bH st) s.heap.objs.size f cdv))->DSs (cx P w K mg base N x st f cdv A outer s H E) fl (jm st) fs) :
 Has P w K mg base (k+1) x ps (spL K (fnL ps.length (N.length-ps.length) fs)):=by
 obtain⟨f,fd,Z,b,m⟩:=O.ex;exact⟨f,fd,V1 Z S D J B,b,Z.kp,m⟩
end
section
variable{st:gv}
end
end D3
namespace D3
open L2 My
section
variable{flA:List Fl}{G:Gh}{ow:Ow}{σ σ':St}{H:Hp}{δ:DS}{T:List Nat}
end
section
variable{flA:List Fl}{f:FE}{fa:FA}
end
section
end
end D3
namespace XS
open PySem.W
noncomputable def dZ (lt:Nat->Nat->Bool):KasT α->α
 | .ret a=>a
 | .ask i j k=>dZ lt (k (lt i j))
def qu (n:Nat) (R:α->Prop):KasT α->Prop
 | .ret a=>R a
 | .ask i j k=>i<n/\j<n/\∀b,qu n R (k b)
section
variable{α β:Type}{R:α->Prop}{R':β->Prop}{lt:Nat->Nat->Bool}
theorem pq(f:α->KasT β):∀t:KasT α,dZ lt (t.bind f)=dZ lt (f (dZ lt t))
 | .ret _=>rfl
 | .ask _ _ k=>pq f (k _)
theorem pC (B:∀a,R a->qu n R' (c a)):∀t:KasT α,qu n R t->qu n R' (t.bind c)
 | .ret a,h=>B a h
 | .ask _ _ k,h=>⟨h.1,h.2.1,λb=>pC B (k b) (h.2.2 b)⟩
theorem HD:∀t:KasT α,qu n R t->R (dZ lt t)
 | .ret _,h=>h
 | .ask _ _ k,h=>HD (k _) (h.2.2 _)
theorem Fp (D:∀i j C,i<n->j<n->C (lt i j) s->B i j C s) :
 ∀t:KasT α,qu n R t->c (dZ lt t) s->t.kasWp B c s
 | .ret _,_,q=>q
 | .ask _ _ k,h,q=>D _ _ _ h.1 h.2.1 (Fp D (k _) (h.2.2 _) q)
end
def good(n:Nat)(p:Array Nat):Prop:=p.Perm (aN n).toArray
section
variable{p:Array Nat}
def good.mem(g:good n p) (h:c∈p.toList):c<n:=by
 have:c∈(aN n):=by
  have:=(d9.mp g).mem_iff.mp h;simpa using this
 exact aZ.mp this
def good.get(g:good n p)(B:0<n)(i:Nat):p.getD i 0<n:=by
 unfold Array.getD;split
 .exact g.mem (by simp)
 .exact B
def good.rev(g:good n p)(i j:Nat):good n (bn p i j):=(mirror_perm _ _ _ _).trans g
def good.bub(g:good n p)(i j:Nat):good n (bubble p i j):=(bubble_perm _ _ _).trans g
theorem Ba(B:0<n)(g:good n p):∀f a,qu n (λ_=>True) (cf p f a)
 |0,a=>trivial
 |f+1,a=>⟨g.get B _,g.get B _,λb=>by
  cases b
  .exact Ba B g f (a+1)
  .trivial⟩
theorem uD(B:0<n):∀f (p:Array Nat) a q,good n p->qu n (λr=>good n r.1) (a7 f p a q)
 |0,p,a,q,g=>g
 |f+1,p,a,q,g=>by
  refine⟨g.get B _,g.get B _,λb=>?_⟩
  cases b
  .refine⟨g.get B _,g.get B _,λc=>?_⟩
   cases c
   .exact uD B f p (a+1) (q+1) g
   .exact g
  .split
   .exact uD B f _ _ _ (g.rev _ _)
   .exact uD B f _ _ _ g
def Bb(B:0<n)(g:good n p)(a m:Nat):qu n (λr=>good n r.2) (b9 a m p):=by
 refine pC (R:=λ_=>True) (λc _=>?_) _ (Ba B (g.rev _ _) _ _);exact g.rev _ _
def Dv(B:0<n)(g:good n p)(a m:Nat):qu n (λr=>good n r.2) (aE a m p):=
 pC (R:=λr=>good n r.1) (λr h=>by
  split
  .exact Bb B (good.rev h _ _) _ _
  .exact Bb B h _ _) _ (uD B _ _ _ _ g)
def Km(B:0<n)(g:good n p)(m:Nat):qu n (λr=>good n r.2) (ca m p):=
 pC (R:=λ_=>True) (λa _=>by
  split
  .exact g
  .split
   .refine⟨g.get B _,g.get B _,λb=>?_⟩
    cases b
    .exact Dv B (g.rev _ _) _ _
    .exact g
   .exact Dv B g _ _) _ (Ba B g _ _)
theorem vL(B:0<n)(g:good n p)(k:Nat):∀f l r,qu n (λ_=>True) (bg p k f l r)
 |0,l,r=>trivial
 |f+1,l,r=>by
  unfold bg;split
  .trivial
  .refine⟨g.get B _,g.get B _,λb=>?_⟩
   cases b
   .exact vL B g k f _ _
   .exact vL B g k f _ _
theorem HJ(B:0<n):∀f (p:Array Nat) k,good n p->qu n (good n) (kas_bin f p k)
 |0,p,k,g=>g
 |f+1,p,k,g=>pC (R:=λ_=>True) (λl _=>HJ B f _ _ (g.bub _ _)) _ (vL B g k _ _ _)
def yj(B:0<n):qu n (good n) (cE n):=
 pC (R:=λr=>good n r.2) (λr h=>by
  split
  .exact HJ B _ _ _ h
  .exact h) _ (Km B (hP _) n)
end
def oJ(n:Nat)(lt:Nat->Nat->Bool):List Nat:=(dZ lt (cE n)).toList
def jt(B:0<n)(lt:Nat->Nat->Bool):(oJ n lt).Perm (aN n):=by
 have:good n (dZ lt (cE n)):=HD _ (yj B);have:=d9.mp this;simpa[oJ]using this
noncomputable def Cz(a b:Int×Int):Bool:=if a.1=b.1 then decide (a.2<b.2)else decide (a.1<b.1)
def ltP(B:List (Int×Int))(i j:Nat):Bool:=Cz (B.getD i (0,0)) (B.getD j (0,0))
open D3
def Ko:List D->Option (List (Int×Int))
 |[]=>some []
 | .tuple [.int i,.int j]::r=>(Ko r).map ((i,j) :: ·)
 |_=>none
def Bc:List D->Option D
 |[.list l]=>match dH l with
  |some _=>QD [.list l]
  |none=>(Ko l).bind λZ=>if l.length<64 then(if l.length=1 then some (.list l)else some (.list ((oJ l.length (ltP Z)).map λi=>l.getD i .none)))else none
 |_=>none
end XS
namespace XS
open PySem.W L2 My D3
theorem yp (x:gM P w H h a c):∃u,h.get? a=some u:=by
 cases c with
 |lst xs=>obtain⟨_,_,_,_,e⟩:=x;exact⟨_,e⟩
 |tup xs=>obtain⟨_,_,_,u,e,_⟩:=x;exact⟨_,e⟩
 |dK kvs=>obtain⟨_,_,_,_,u,_,_,e,_⟩:=x;exact⟨_,e⟩
 |dT kvs=>obtain⟨_,_,_,_,u,_,_,e,_⟩:=x;exact⟨_,e⟩
 |set S n=>obtain⟨u,_,_,_,e,_⟩:=x;exact⟨_,e⟩
 |ins C dx fs=>obtain⟨_,_,_,e,_⟩:=x;exact⟨_,e⟩
 |own y=>exact x
 |xd fs=>obtain⟨_,⟨u,_,_,e,_⟩,_⟩:=x;exact⟨_,e⟩
 |met f y=>exact⟨_,x⟩
 |rng lo hi=>obtain⟨_,_,_,e⟩:=x;exact⟨_,e⟩
 |frz u v=>exact⟨_,x.1⟩
 |tbl q p=>obtain⟨_,e,_⟩:=x;exact⟨_,e⟩
 |ext φ=>exact x.2.1
section
variable{σ:L2.St}{H:Hp}{s:eM}
def ZC (a:h.Ns c m) (b:h.Ns c B):m=B:=by
 obtain⟨o,es,ep,e,d,_,f⟩:=a;obtain⟨o',W,V,Z,Y,_,X⟩:=b;rw[e]at Z;cases Z;rw[d]at Y;cases Y
 funext x
 rw[<-f,<-X]
def Mh {D:Addr} {o:HO} (I:Inv X pins σ H s) (hm:s.heap.Ns X.env.locals m) (B:h'.Ns X.env.locals m) (k:∀b u,b≠X.env.locals->s.heap.get? b=some u->h'.get? b=some u)
 (O:s.heap.get? D=none) (J:gM X.prog X.w (upd H D o) h' D o):Inv X pins σ (upd H D o) {s with heap:=h'}:=by
 have hn:H D=none:=by
  cases e:H D with
  |none=>rfl
  |some u=>
   obtain⟨w,hw⟩:=yp (I.hok D u e);rw[O]at hw;cases hw
 have ne:∀{b u},H b=some u->b≠D:=λe=>jD e hn
 refine I.step (g':=s.gens) (d':=s.drawn) (t':=s.toks) (ch:=[]) (λb V=>by cases V) (λb u Z _ _ e _=>k b u Z e) (λb u Z _ _ e _=>⟨u.slots,k b u Z e⟩) (λb u _ e n=>?_) (λb u _ e=>?_)
  (λb xs e=>by rwa[bG (ne e)]) (λb u v e=>by rwa[bG (ne e)]) (λb q p e=>by rwa[bG (ne e)]) (λU h2=>by rw[<-ZC hm h2];exact B) (λb u e=>?_) I.bare
 .rwa[bG (λz=>by rw[z,O]at e;cases e)]
 .by_cases z:b=X.env.locals
  .obtain⟨w,_,_,hw,_⟩:=B;exact⟨w,by rwa[z]⟩
  .exact⟨u,k b u z e⟩
 .by_cases z:b=D
  .subst z;rw[bR]at e
   cases e;exact J
  .rw[bG z]at e;refine(I.hok b u e).stay (λc w W q=>k c w (λy=>?_) q) (λc q=>by rwa[bG (ne q)]) λc xs q=>by rwa[bG (ne q)]
   rcases W with rfl|Y
   .rw[y,I.free]at e;cases e
   .rw[y,I.free]at Y;cases Y
end
section
variable{prog:eS}{A:eW}{E:Value->eM->Prop}{s:eM}
def V2 (hx:gT s.heap k #[.int r O,.int t J]) (Y:gT s.heap m #[.int c I,.int F B]) (q:C (Cz (r,t) (c,F)) s) :
 wpAny (model prog w) A (keyLt' (tuples' true) (.ref k) (.ref m)) C E s:=by
 obtain⟨T,ex,_,nx,dx⟩:=hx;obtain⟨U,X,_,S,V⟩:=Y;refine kat_lt ex dx X V ?_;refine kat_cons (ci (kat_go (λe=>?_) λe=>?_))
 .refine kat_yes (kat_cons (ci (kat_go (λe2=>?_) λe2=>?_)))
  .refine kat_yes (kat_nil ?_);have e:=beq_iff_eq.mp e;have e2:=beq_iff_eq.mp e2;subst e e2;simpa[Cz]using q
  .refine kat_no (kat_one _ _ (lt_int ?_));have e:=beq_iff_eq.mp e;subst e;simpa[Cz,PySem.W.BoolBack]using q
 .refine kat_no ?_;have e:r≠c:=by
   intro z;subst z;simp at e
  have Z:C (decide (r<c)) s:=by simpa[Cz,e]using q
  exact oneLt_int Z
end
end XS
namespace XS
open PySem.W L2 My D3
def ZD(K:PySem.W.Frag)(H:Hp)(y:V)(q:Int×Int):Prop:=∃a,y = .ref a/\SqT K H a [.int q.1,.int q.2]
abbrev Prs(K:PySem.W.Frag)(H:Hp):List V->List (Int×Int)->Prop:=Paired (ZD K H)
section
variable{σ:L2.St}{H:Hp}{s:eM}
theorem Fq(I:Inv X pins σ H s) (h:ZD X.K H c m) (r:RelV c k):∃a D B,k = .ref a/\gT s.heap a #[.int m.1 D,.int m.2 B]:=by
 obtain⟨a,rfl,U⟩:=h
 cases r;obtain⟨its,Z,p,_⟩:=I.tuple U
 cases Z with
 |cons W Z=>cases Z with
  |cons Y Z=>
   cases Z;obtain⟨D,rfl⟩:=W;obtain⟨B,rfl⟩:=Y;exact⟨a,D,B,rfl,p⟩
theorem wK(I:Inv X pins σ H s) (k:∀a items,gT s.heap a items->gT m a items):∀{ys:List V}{us:List Value}{B:List (Int×Int)},Prs X.K H ys B->Vals ys us->∃fs,KatTups m us fs/\fs.length=us.length/\∀v∈fs,∃i t,v = .int i t
 |_,_,_,.nil,.nil=>⟨[],trivial,rfl,λ_ h=>by cases h⟩
 |_,_,_,.cons p ps,.cons r W=>by
  obtain⟨fs,h1,h2,T⟩:=wK I k ps W;obtain⟨a,Y,S,rfl,U⟩:=Fq I p r;obtain⟨o,e,c,n,d⟩:=k _ _ U;refine⟨.int _ Y::fs,⟨⟨a,o,_,n,rfl,e,c,d,rfl⟩,h1⟩,by simp[h2],λv Z=>?_⟩;rcases aJ.mp Z with rfl|Z
  .exact⟨_,_,rfl⟩
  .exact T v Z
theorem uE : Prs X.K H ys B->Vals ys us->∀i,i<ys.length->ZD X.K H (ys.getD i .non) (B.getD i (0,0))/\RelV (ys.getD i .non) (us.getD i .none)
 | .nil,.nil,i,h=>by cases h
 | .cons p ps,.cons r Z,0,h=>⟨p,r⟩
 | .cons p ps,.cons r Z,i+1,h=>by
  have:=uE ps Z i (by simpa using h);simpa using this
def Ft:m7 X (.builtin "sorted") (λxs H Q=>∃(p:Addr)(ys:List V)(B:List (Int×Int)),xs=[.ref p]/\SqL X.K H p ys/\2<=ys.length/\ys.length<64/\Prs X.K H ys B/\∀l,H l=none->Q (.ref l) (upd H l (.lst ((oJ ys.length (ltP B)).map λi=>ys.getD i .non)))):=by
 intro pins s σ H xs us Q I r h;obtain⟨p,ys,B,rfl,hx,h2,M,U,q⟩:=h;obtain⟨u,rfl,f⟩:=vals1 r
 cases f;obtain⟨its,Z,pl,hz⟩:=I.list hx;obtain⟨m,hm,_⟩:=id I.loc;have len:=Z.length.symm;refine kat_sorted (h₀:=Att.mL s.heap) (L:=X.env.locals) (m:=m) (Att.Qt hm) (GQ (g:=Att.mL s.heap) (h:=s.heap) (L:=X.env.locals)) pl.isList (by rwa[len]) (by rwa[len]) λD e1 h' F' J lt=>?_
 have kept:∀{W:fF}{nw:List (Addr×Obj)},News (Att.mL s.heap) X.env.locals W nw->(∀y∈oW (Att.mL s.heap) s.heap X.env.locals,y∈nw)->∀b o,b≠X.env.locals->s.heap.get? b=some o->W.get? b=some o:=λN hs b o hb e=>(N (b,o) (hs _ (tU hb (Att.rW _ _) e))).1
 have P:∀a items,gT s.heap a items->gT h' a items:=λa items ⟨o,e,c,n,d⟩=>⟨o,kept J (λy Y=>au _ Y) a o (λz=>by
  obtain⟨o2,es,ep,e2,d2,_⟩:=hm;rw[z,e2]at e;cases e;rw[d2]at d;cases d) e,c,n,d⟩
 obtain⟨fs,f1,f2,f3⟩:=wK I P U Z;refine kat_kind (T:=.type "int") f1 (by rw[f2,len];lia) (λv O=>?_) rfl ?_
 .obtain⟨i,t,rfl⟩:=f3 v O;exact λA Q E s _ q=>ae q
 refine Fp (n:=its.length) (lt:=ltP B) (R:=good its.length) (λi j C hi F hc=>?_) _ (yj (by rw[len];lia)) ?_
 .obtain⟨p1,r1⟩:=uE U Z i (by rwa[<-len]);obtain⟨p2,r2⟩:=uE U Z j (by rwa[<-len]);obtain⟨a1,t1,t2,x1,y1⟩:=Fq I p1 r1;obtain⟨a2,t3,t4,x2,k⟩:=Fq I p2 r2;unfold kas_ask;rw[x1,x2];exact V2 (P _ _ y1) (P _ _ k) hc
 .refine KasFin.intro F' J (.head λy Y=>aR (lt y Y)) λh2 c F2 N2=>?_
  have x:s.heap.get? D=none:=by
   cases e:s.heap.get? D with
   |none=>rfl
   |some o=>
    by_cases z:D=X.env.locals
    .exact absurd z (J _ (ao ..)).2.1
    .exact absurd (lt (D,o) (tU z (Att.rW _ _) e)) (eG _)
  have hn:H D=none:=by
   cases e:H D with
   |none=>rfl
   |some u=>
    obtain⟨w,hw⟩:=yp (I.hok D u e);rw[x]at hw;cases hw
  have pm:=jt (n:=ys.length) (by lia) (ltP B);have O:∀l:List Nat,(∀i∈l,i<ys.length)->Vals (l.map λi=>ys.getD i .non) (l.map λi=>its.getD i .none):=λl G=>by
   induction l with
   |nil=>exact .nil
   |cons i l ih=>exact .cons (uE U Z i (G i ao)).2 (ih λj F=>G j (au _ F))
  have o1:((dZ (ltP B) (cE its.length)).toList)=oJ ys.length (ltP B):=by rw[len];rfl
  have S:gM X.prog X.w (upd H D (.lst ((oJ ys.length (ltP B)).map λi=>ys.getD i .non))) h2 D (.lst ((oJ ys.length (ltP B)).map λi=>ys.getD i .non)):=by
   refine⟨by rw[aq,pm.length_eq,bQ];exact aV (cG M) (by decide),_,c,O _ λi hi=>aZ.mp (pm.mem_iff.mp hi),?_⟩;have:=(N2 _ (ao ..)).1;rwa[<-o1]
  exact⟨.ref D,_,Mh (s:=s) (h':=h2) I hm F2.ns (kept N2 λy Y=>au _ Y) x S,rfl,q D hn⟩
end
end XS
namespace XS
open PySem.W L2 My D3
section
variable{prog:eS}{A:eW}{E:Value->eM->Prop}{s:eM}
def HN {v:Value}(B:s.heap.get? a=some (seqObj "list" #[v] n))
 (h:∀h' c,(∀b u,b≠a->s.heap.get? b=some u->h'.get? b=some u)->h'.get? a=some (seqObj "list" #[v] c)->k (.done (.ret .none)) {s with heap:=h'}) :
 wpAny (model prog w) A (g9.«list.sort» ⟨[.ref a],[]⟩) k E s:=by
 obtain⟨g1,e1⟩:∃g1,g1=s.heap.update a (fo λ_=>(#[]:Array Value)):=⟨_,rfl⟩;obtain⟨Y,h1⟩:∃c,g1.get? a=some (seqObj "list" #[] c):=⟨_,by rw[e1];exact en B λ_=>#[]⟩;have k1:∀b u,b≠a->s.heap.get? b=some u->g1.get? b=some u:=λb u z q=>by rw[e1];exact(bu _ _ _ _ z).trans q
 rw[list_sort_plain];refine aa (listItems_at B rfl ?_);refine aa (db B rfl ?_ (show 1<=sizeLine by decide) (cg _));rw[<-e1];refine aa (ef h1 rfl ?_);refine aa (eA ?_ (show 1<=sizeLine by decide));refine aa (bv ?_ (cg _));refine ap ?_;obtain⟨g2,e2⟩:∃g2,g2=(g1.push (seqObj "tuple" #[v] 0)).push (seqObj "list" #[] 0):=⟨_,rfl⟩;rw[<-e2];have h2:g2.get? a=some (seqObj "list" #[] Y):=by rw[e2];exact ad _ (ad _ h1)
 have k2:∀b u,b≠a->s.heap.get? b=some u->g2.get? b=some u:=λb u z q=>by rw[e2];exact ad _ (ad _ (k1 b u z q))
 have two:(#[v]:Array Value).size<2:=fU 1;have Z:(arrOf (SortSt.mk' general' ((#[v]:Array Value).zip #[v]) #[] 7 none)).map (·.2) = #[v]:=by
  show((#[v]:Array Value).zip #[v]).map (·.2) = #[v];simp
 rw[if_pos two,if_pos two];refine aa (ae ?_);refine aa (ae ?_);dsimp only;rw[Z];refine aa (ef h2 rfl ?_);refine aa (db h2 rfl ?_ (cg _) (show 1<=sizeLine+1 by decide));rw[if_neg (by simp)];refine ae (h _ _ (λb u z q=>(bu _ _ _ _ z).trans (k2 b u z q)) (en h2 _))
end
section
def Fv:m7 X (.builtin "sorted") (λxs H Q=>∃(p:Addr)(y:V),xs=[.ref p]/\SqL X.K H p [y]/\∀l,H l=none->Q (.ref l) (upd H l (.lst [y]))):=by
 intro pins s σ H xs us Q I r h;obtain⟨p,y,rfl,S,q⟩:=h;obtain⟨u,rfl,U⟩:=vals1 r
 cases U;obtain⟨its,Y,pl,P⟩:=I.list S;obtain⟨v,rfl,T⟩:∃v,its=[v]/\RelV y v:=by
  cases Y with
  |cons a b=>cases b;exact⟨_,rfl,a⟩
 refine bb eg dv dy (args_sorted1 _) ?_;unfold g9.«sorted»;refine aa (m:=checkCount "sorted" 1 1 _) (ae ?_);refine aa (collect_list (vs:=[v]) pl.isList ?_ (show 1<=sizeLine by decide));refine aa (bv ?_ (show 1<=sizeLine by decide));obtain⟨g,W⟩:∃g,g=(s.heap.push (seqObj "list" #[] 0)).update s.heap.objs.size (fo (·++[v].toArray)):=⟨_,rfl⟩;rw[<-W];have sz:g.objs.size=s.heap.objs.size+1:=by rw[W,aI,cA]
 have old:∀b o,s.heap.get? b=some o->g.get? b=some o:=λb o e=>by
  have lt:=af e;rw[W,bu _ _ _ _ (aR lt)];exact ad _ e
 have Z:(g.push (seqObj "list" [v].toArray 0)).get? g.objs.size=some (seqObj "list" #[v] 0):=ag _ rfl;refine aa (ap (ar c7 ⟨_,Z,rfl⟩ cy (HN Z λh' c k e=>⟨_,rfl,?_⟩) (eD _)));refine ae ⟨_,rfl,?_⟩;have hn:H g.objs.size=none:=I.hok.fresh (by rw[sz];exact lU _);have R:=I.laid (h':=h') (t':=s.toks) (a:=g.objs.size) (o:=.lst [y]) (λb o q=>k b o (λz=>by
  have lt:=af q;have z:=z.trans sz;rw[z]at lt;exact absurd lt (m_.mpr (lU _))) (ad _ (old b o q))) (by rw[sz];exact lU _) ⟨show 1<=sizeLine by decide,[v],c,.cons T .nil,e⟩
 exact⟨.ref _,_,R,rfl,q _ hn⟩
end
end XS
namespace XS
open PySem.W L2 My D3
section
variable{H:Hp}
theorem Kp:∀{l:List D}{B:List (Int×Int)}{ys:List V},Ko l=some B->RAs K ok1 true H ys l->Prs K H ys B/\l=B.map λq=>.tuple [.int q.1,.int q.2]
 |[],B,ys,e,r=>by
  cases e;cases r;exact⟨.nil,rfl⟩
 |d::l,B,ys,e,r=>by
  cases r with
  |cons X Y=>
   unfold Ko at e;split at e
   .next h=>cases h
   .next i j t h=>
    cases h
    cases e3:Ko l with
    |none=>rw[e3]at e;cases e
    |some q2=>
     rw[e3]at e
     cases e;obtain⟨p,W⟩:=Kp e3 Y;obtain⟨a,xs,rfl,hs,Z⟩:=X.tupE
     cases Z with
     |cons h1 Z=>cases Z with
      |cons h2 Z=>
       cases Z;obtain rfl:=h1.intE;obtain rfl:=h2.intE;exact⟨.cons ⟨a,rfl,hs⟩ p,by rw[aG,<-W]⟩
   .cases e
theorem HS(B:List (Int×Int)):flats (B.map λq=>(.tuple [.int q.1,.int q.2]:D))=true:=by
 induction B with
 |nil=>rfl
 |cons q B Z=>simp[flats,flat,Z]
theorem Bd:∀{l:List D},flats l=true->∀i,flat (l.getD i .none)=true
 |[],_,i=>by simp[flat]
 |d::l,h,0=>by rw[flats,aK]at h;exact h.1
 |d::l,h,i+1=>by
  rw[flats,aK]at h;simpa using Bd h.2 i
theorem Fw:∀{ys:List V}{l:List D}{ok:Ok}{pl:Bool},RAs K ok pl H ys l->∀i,RA K ok pl H (ys.getD i .non) (l.getD i .none)
 |_,_,_,_,.nil,i=>by simp;exact .non
 |_,_,_,_,.cons a b,0=>a
 |_,_,_,_,.cons a b,i+1=>by simpa using Fw b i
end
def Rh {fl:List Fl}(ha:DB c fl .P [k] fa) (D:Gl c "sorted") (hm:c.mg "sorted"=none)
 (J:starEach [k] c.env=(false,eval k c.env)::starEach [] c.env:=by rfl) (B:(backTo m (starEach [] c.env)).any (·.1)=false:=by rfl):DE c fl .FC (.Call (.Name "sorted" p) [k] [] m) (dCall Bc fa):=by
 have bs:bootBuiltins "sorted"=some (.builtin "sorted"):=by decide +kernel
 intro pins s σ H Q I h;refine D3.ex4 h λG ow δ d R x q=>?_
 refine D3.ex1 (bind1 x) λds e1 e2=>?_
 unfold Bc at e2;split at e2
 .next l=>
  split at e2
  .next ns e3=>exact Ov ha D hm J B pins s σ H Q I ⟨G,ow,δ,d,R,by unfold dCall;rwa[e1],q⟩
  .next e3=>
   refine D3.ex1 (bind1 e2) λW C Y=>?_
   by_cases U:l.length<64
   .rw[if_pos U]at Y;by_cases h1:l.length=1
    .rw[if_pos h1]at Y
     cases Y;refine n6 Fv D hm bs ha (by decide) (by decide) J B pins s σ H Q I ⟨G,ow,δ,_,R,e1,λvs H' sm O=>?_⟩
     cases O with
     |cons S T=>
      cases T;obtain⟨a,ys,rfl,N,Z⟩:=S.lstE;obtain⟨E,M⟩:=Kp C Z;obtain⟨y,rfl⟩:∃y,ys=[y]:=by
       have:=Z.length;rw[h1]at this;exact rP.mp this
      refine⟨a,y,rfl,N,λF hn=>q _ _ (sm.trans (cP hn _)) (.inr ⟨_,_,_,rfl,rfl,sm.free hn,bR,?_⟩)⟩;exact RAs.flat (by rw[M];exact HS W) (Z.same (cP hn _))
    .rw[if_neg h1]at Y
     cases Y;refine n6 Ft D hm bs ha (by decide) (by decide) J B pins s σ H Q I ⟨G,ow,δ,_,R,e1,λvs H' sm O=>?_⟩
     cases O with
     |cons S T=>
      cases T;obtain⟨a,ys,rfl,N,Z⟩:=S.lstE;obtain⟨E,M⟩:=Kp C Z;have w:=Z.length;have h2:2<=ys.length:=by
       rcases dB ys.length 2 with z|z
       .have:l.length=0:=by lia
        have:=bJ.mp this;subst this
        cases e3
       .exact z
      refine⟨a,ys,W,rfl,N,h2,by lia,E,λF hn=>q _ _ (sm.trans (cP hn _)) (.inr ⟨_,_,_,rfl,rfl,sm.free hn,bR,?_⟩)⟩;rw[w];have L:flats l=true:=by rw[M];exact HS W
      have V:=Z.same (cP hn (.lst ((oJ l.length (ltP W)).map λi=>ys.getD i .non)));generalize oJ l.length (ltP W)=is at V ⊢;have:∀(is:List Nat)(H2:Hp),RAs c.K ok1 true H2 ys l->RAs c.K (λb=>okN H b/\b≠F) false H2 (is.map λi=>ys.getD i .non) (is.map λi=>l.getD i .none):=λis H2 Z=>by
       induction is with
       |nil=>exact .nil
       |cons i is A=>exact .cons (RA.flat (Bd L i) (Fw Z i)) A
      exact this is _ V
   .rw[if_neg U]at Y;cases Y
 .cases e2
end XS
namespace XS
open PySem.W
section
variable{prog:eS}{A:eW}{E:Value->eM->Prop}{s:eM}
def V3:typeLookup (.type "list") "keys"=pure none:=by rw[d6,cz];kernel_rfl
def Ox (D:s.heap.get? a=some {cls:=.type "list", dict:=none,data:=.seq c k,slots:=B}) (J:A.handled=none)
 (h:∀h' tk,(∀b o,s.heap.get? b=some o->h'.get? b=some o)->m none {s with heap:=h',toks:=tk}):wpAny (model prog w) A (getAttr? (.ref a) "keys") m E s:=by
 obtain⟨W,g,d,tk,os⟩:=s;have X:∀Z,(⟨W,g,d,Z,os⟩:eM).TypeIs (.ref a) "list" := λ_=>⟨_,D,rfl⟩
 have f1:=sub_AttributeError;have f3:=F.slot_list_getattribute.lookup;have S:=F.slot_list_getattribute.bind (.ref a);have T:=am_list_getattr_none;unfold getAttr? getAttrBy? getAttrBy
 repeat(any_goals(first|assumption|exact X _|((with_reducible show wpAny _ _ (call (Value.builtin "list.__getattribute__") _ _) _ _ _);refine eJ F.slot_list_getattribute (X _) am_entry_list_getattribute (F.args_list_getattribute_2 _ _) (meets_getattribute_miss_list a c k B "keys" _ V3 (by decide) (by decide)) ⟨D,J,λh' Z e Y=>?_⟩)|wp_step))
 obtain⟨t',V,U⟩:=Y.there;unfold getattributeRaised
 repeat(any_goals(first|assumption|wp_step))
 exact h _ _ Y.keeps
def Dw:entryFor table "dict.update.loop"=some g9.«dict.update.loop»:=entryFor_of_tree (by kernel_rfl)
def uF:plainId "dict.update.loop"=true:=by decide +kernel
structure PL(h:fF)(D I l:Addr)(its:Array Value)(vs:List (L2.Key×Value))(i:Nat):Prop where
 iter:h.IsListIter I l i
 lst:h.IsList l its
 prs:∀(j:Nat)(u:Value),its[j]? = some u->∃(a:Addr)(n:Int)(t:Tok)(v:Value),u=eQ a/\gT h a #[hJ n t,v]/\vs[j]? = some (fe n,v)/\a≠D/\a≠I
 ne:l≠D/\l≠I/\D≠I
end
end XS
namespace XS
open PySem.W
section
variable{prog:eS}{A:eW}{E:Value->eM->Prop}{s:eM}
end
end XS
namespace XS
open PySem.W L2 My D3
section
variable{σ:L2.St}{H:Hp}{s:eM}
end
end XS
namespace XS
open PySem.W L2 My D3
section
variable{a:Expr}{f:FE}{ta:TE}
end
end XS
namespace D3
end D3
namespace D3
end D3
namespace D3
end D3
namespace D3
end D3
namespace D3
end D3
namespace D3
def dsT(S:List (List Int)):D:=.dict (S.map λk=>(.tuple (k.map .int),.bool true))
def tsD:List (D×D)->Option (List (List Int))
 |[]=>some []
 | (.tuple l,.bool true)::r=>(dH l).bind λk=>(tsD r).map (k :: ·)
 |_=>none
def Ri:D->Option (List (List Int))
 | .dict kvs=>tsD kvs
 |_=>none
def Bf:D->Option (List Int)
 | .tuple l=>dH l
 |_=>none
def jg(S:List (List Int))(k:List Int):List (List Int):=if k∈S then S else S++[k]
theorem Mi:∀ns:List Int,dH (ns.map eP)=some ns
 |[]=>rfl
 |n::r=>by
  rw[aG,dH,Mi r];rfl
theorem wL:∀S:List (List Int),tsD (S.map λk=>((.tuple (k.map .int),.bool true):D×D))=some S
 |[]=>rfl
 |k::S=>by
  rw[aG,tsD,wL S,Mi];rfl
def V4(S:List (List Int)):Ri (dsT S)=some S:=wL S
end D3
namespace D3
end D3
namespace D3
end D3
namespace D3
end D3
namespace D3
end D3
namespace D3
end D3
namespace D3
abbrev Tte:=List Int×List Int×Int
def zf:List (D×D)->Option (List Tte)
 |[]=>some []
 | (.tuple l,.tuple [.tuple m,.int z])::r=>(dH l).bind λk=>(dH m).bind λv=>(zf r).map ((k,v,z) :: ·)
 |_=>none
def Oz:D->Option (List Tte)
 | .dict kvs=>zf kvs
 |_=>none
noncomputable def rwD(k:List Int):D:=.tuple (k.map .int)
def ttV(q:List Int×Int):D:=.tuple [rwD q.1,.int q.2]
def ttP(S:List Tte):List (D×D):=S.map λq=>(rwD q.1,ttV q.2)
def dtt(S:List Tte):D:=.dict (ttP S)
noncomputable def qW(S:List Tte)(k:List Int):Option (List Int×Int):=(S.find? λq=>decide (q.1=k)).map (·.2)
def lR:D->D->Option D:=λx y=>(Oz x).bind λS=>(Bf y).bind λk=>(qW S k).map ttV
def OD:D->Option (List Int×Int)
 | .tuple [.tuple m,.int z]=>(dH m).map (·,z)
 |_=>none
def tO(S:List Tte)(k:List Int)(v:List Int×Int):List Tte:=if(qW S k).isSome=true then S else S++[(k,v)]
def ud(i:Nat)(fk fv:FE):FS:=λδ=>(aj i δ).bind λx=>(fk δ).bind λy=>(fv δ).bind λz=>(Oz x).bind λS=>(Bf y).bind λk=>(OD z).bind λv=>if S.length<1000000 then some (.nx (δ.set i (some (.d (dtt (tO S k v))))))else none
theorem o8:∀ns:List Int,dH (ns.map eP)=some ns
 |[]=>rfl
 |n::r=>by
  rw[aG,dH,o8 r];rfl
theorem Fx:∀S:List Tte,zf (ttP S)=some S
 |[]=>rfl
 |q::S=>by
  show(dH (q.1.map eP)).bind (λk=>(dH (q.2.1.map eP)).bind λv=>(zf (ttP S)).map ((k,v,q.2.2) :: ·))=_;rw[o8,aF,o8,aF,Fx S];rfl
theorem sE:∀{l:List D}{k:List Int},dH l=some k->l=k.map eP
 |[],k,h=>by cases h;rfl
 |d::l,k,h=>by
  cases d with
  |int i=>
   unfold dH at h
   cases e:dH l with
   |none=>rw[e]at h;cases h
   |some r=>
    rw[e]at h
    cases h;rw[sE e];rfl
  |_=>unfold dH at h;cases h
theorem Mj:∀{kvs:List (D×D)}{S:List Tte},zf kvs=some S->kvs=ttP S
 |[],S,h=>by cases h;rfl
 | (a,b)::r,S,h=>by
  unfold zf at h;split at h
  .next e=>cases e
  .next e=>
   cases e;obtain⟨k,e1,h⟩:=rm.mp h;obtain⟨v,e2,h⟩:=rm.mp h
   cases e3:zf r with
   |none=>rw[e3]at h;cases h
   |some Z=>
    rw[e3]at h
    cases h;rw[sE e1,sE e2,Mj e3];rfl
  .cases h
def HW(S:List Tte):Oz (dtt S)=some S:=Fx S
theorem Fy (h:Oz c=some S):c=dtt S:=by
 cases c with
 |dict kvs=>rw[Mj (show zf kvs=some S from h)];rfl
 |_=>cases h
def V5 (h:OD c=some r):c=ttV r:=by
 unfold OD at h;split at h
 .next m z=>
  cases e:dH m with
  |none=>rw[e]at h;cases h
  |some k=>
   rw[e]at h
   cases h;rw[sE e];rfl
 .cases h
end D3
namespace D3
noncomputable def qY:List Int->List Int->Bool
 |[],[]=>false
 |[],_::_=>true
 |_::_,[]=>false
 |x::xs,y::ys=>if x=y then qY xs ys else decide (x<y)
def pP:D->Option (List (List Int))
 | .dict kvs=>match zf kvs with
  |some S=>some (S.map (·.1))
  |none=>tsD kvs
 |_=>none
def HX:D->D->Option D:=λy x=>(pP x).bind λS=>(Bf y).map λk=>.bool (decide (k∈S))
def zj(f:FE)(fl B:FO):FE:=λδ=>(f δ).bind λx=>(fl δ).bind λlo=>(B δ).bind λhi=>match x with
 | .tuple l=>if flats l=true then some (.tuple (cuD l lo hi))else none
 |_=>none
def uZ:List D->Option D
 |[.tuple l]=>match dH l with
  |some (i::r)=>some (.int (mxI i r))
  |_=>none
 |_=>none
def Kq(f:FE):FA:=λδ=>(f δ).bind λx=>match x with
 | .tuple l=>some (tE l)
 |_=>none
def Mp(fx:FE):FA:=λδ=>(fx δ).bind λx=>(pP x).map λS=>S.map rwD
def yq:D->D->Option D:=λx y=>match x,y with
 | .list l,.list m=>if l.length<=1000 then some (.list (jV l m))else none
 |_,_=>none
def rpD:List D->Option (List (List Int))
 |[]=>some []
 | .tuple [.tuple l,.bool true]::r=>(dH l).bind λk=>(rpD r).map (k :: ·)
 |_=>none
def Bg:List D->Option D
 |[.list l]=>(rpD l).bind λks=>if l.length<=1000 then some (dsT (ks.foldl jg []))else none
 |_=>none
end D3
namespace L2
section
variable{κ:Type}[DecidableEq κ]
def pQ(kvs:List (κ×V))(k:κ):Option V:=(kvs.find? λZ=>decide (Z.1=k)).map (·.2)
noncomputable def putK(kvs:List (κ×V))(k:κ)(v:V):List (κ×V):=
 if(kvs.any λZ=>decide (Z.1=k))=true then kvs.map (λZ=>if Z.1=k then(Z.1,v)else Z)else kvs++[(k,v)]
def uf{p:κ×V}{r:List (κ×V)}{k:κ}(e:p.1=k):pQ (p::r) k=some p.2:=by simp[pQ,e]
def ug{p:κ×V}{r:List (κ×V)}{k:κ}(e:¬p.1=k):pQ (p::r) k=pQ r k:=by simp[pQ,e]
theorem HY(k:κ):∀kvs:List (κ×V),(kvs.any λB=>decide (B.1=k))=(pQ kvs k).isSome
 |[]=>rfl
 |p::r=>by
  rw[nH];by_cases e:p.1=k
  .simp only[uf e,dTr e,Bool.true_or,Option.isSome_some]
  .rw[ug e,dFa e,Bool.false_or];exact HY k r
def yP(kvs:List (κ×V))(k:κ)(v:V):(putK kvs k v).length<=kvs.length+1:=by
 unfold putK;split
 .rw[aq];lia
 .rw[bL,aX,h_];lia
theorem xO.isSome_eq (r:xO c k):c.isSome=k.isSome:=by
 cases c with
 |none=>cases k with
  |none=>rfl
  |some _=>exact(show False from r).elim
 |some _=>cases k with
  |none=>exact(show False from r).elim
  |some _=>rfl
theorem xO.getD {u:Option Value}(r:xO c u) (rd:RelV k d'):RelV (c.getD k) (u.getD d'):=by
 cases c with
 |none=>cases u with
  |none=>exact rd
  |some _=>exact(show False from r).elim
 |some _=>cases u with
  |none=>exact(show False from r).elim
  |some _=>exact r
theorem KV.val (r:KV kvs c) (k:κ):xO (pQ kvs k) (valueAt c k):=by
 induction r with
 |nil=>exact fS
 | @cons p q ps Z h t X=>
  obtain⟨h1,h2⟩:=h;by_cases e:p.1=k
  .have Y:q.1=k:=h1.symm.trans e;have b:valueAt (q::Z) k=some q.2:=by simp[valueAt,Y]
   rwa[uf e,b]
  .have Y:¬q.1=k:=λz=>e (h1.trans z)
   have b:valueAt (q::Z) k=valueAt Z k:=by simp[valueAt,Y]
   rwa[ug e,b]
theorem KV.any (r:KV kvs c) (k:κ):(kvs.any λB=>decide (B.1=k))=c.any λB=>decide (B.1=k):=by
 induction r with
 |nil=>rfl
 |cons h t Z=>rw[nH,nH,Z,h.1]
theorem KV.repl (r:KV kvs c) (k:κ) (D:RelV m s) :
 KV (kvs.map λB=>if B.1=k then(B.1,m)else B) (c.map λB=>if B.1=k then(B.1,s)else B):=by
 unfold KV at r ⊢
 induction r with
 |nil=>exact .nil
 | @cons p q ps Y h t Z=>
  rw[aG,aG];refine .cons ?_ Z;obtain⟨h1,h2⟩:=h;by_cases e:p.1=k
  .rw[if_pos e,if_pos (h1.symm.trans e)];exact⟨h1,D⟩
  .rw[if_neg e,if_neg (λz=>e (h1.trans z))];exact⟨h1,h2⟩
def KV.put (r:KV kvs c) (k:κ) (B:RelV m s):KV (putK kvs k m) (stored c k s):=by
 unfold putK stored;rw[r.any k];by_cases e:(c.any λZ=>decide (Z.1=k))=true
 .rw[if_pos e,if_pos e];exact r.repl k B
 .rw[if_neg e,if_neg e];exact Paired.snoc r ⟨rfl,B⟩
theorem KV.keys{kvs:List (κ×V)}{vs:List (κ×Value)}(r:KV kvs vs):kvs.map (·.1)=vs.map (·.1):=by
 induction r with
 |nil=>rfl
 |cons h t Z=>rw[aG,aG,Z,h.1]
def KV.length{kvs:List (κ×V)}{vs:List (κ×Value)}(r:KV kvs vs):kvs.length=vs.length:=Paired.length r
end
theorem Mq (r:RelV (kV k) c):(dh P w).is k c=true:=by
 cases k with
 |inl i=>obtain⟨t,e⟩:=(show ∃t,c=hJ i t from r);subst e;exact GJ P w i t
 |inr x=>obtain⟨t,e⟩:=(show ∃t,c=Value.str x t from r);subst e;exact GK P w x t
theorem Dy:∀{ks:List Key}{us:List Value},Vals (ks.map kV) us->ItemsAre (dh P w) ks us
 |[],_,r=>by rw[eO]at r;cases r;exact .nil
 |k::ks,_,r=>by
  rw[aG]at r
  cases r with
  |cons h t=>exact .cons (Mq h) (Dy t)
abbrev KT(H:Hp):List (List Key×V)->List (List Key×Addr×Value)->Prop:=Paired λp q=>p.1=q.1/\H q.2.1=some (.tup (p.1.map kV))/\RelV p.2 q.2.2
theorem KT.val{kvs:List (List Key×V)}{xs:List (List Key×Addr×Value)}(r:KT H kvs xs)(k:List Key):xO (pQ kvs k) ((atKey xs k).map (·.2)):=by
 induction r with
 |nil=>exact fS
 | @cons p q ps Z h t X=>
  obtain⟨h1,_,h2⟩:=h;by_cases e:p.1=k
  .have Y:q.1=k:=h1.symm.trans e;have b:atKey (q::Z) k=some q.2:=by simp[atKey,Y]
   rwa[uf e,b]
  .have Y:¬q.1=k:=λz=>e (h1.trans z)
   have b:atKey (q::Z) k=atKey Z k:=by simp[atKey,Y]
   rwa[ug e,b]
theorem KT.repl (r:KT H kvs c) (k:List Key) (D:RelV m s) :
 KT H (kvs.map λB=>if B.1=k then(B.1,m)else B) (c.map (putAt k s)):=by
 induction r with
 |nil=>exact .nil
 | @cons p q ps X h t Z=>
  rw[aG,aG];refine .cons ?_ Z;obtain⟨h1,h2,Y⟩:=h;unfold putAt;by_cases e:p.1=k
  .rw[if_pos e,if_pos (h1.symm.trans e)];exact⟨h1,h2,D⟩
  .rw[if_neg e,if_neg (λz=>e (h1.trans z))];exact⟨h1,h2,Y⟩
def KT.put (r:KT H kvs c) (k:List Key) (D:H m=some (.tup (k.map kV))) (B:RelV s t) :
 KT H (putK kvs k s) (storedH c k m t):=by
 have e:(kvs.any λZ=>decide (Z.1=k))=(atKey c k).isSome:=by
  rw[HY,(r.val k).isSome_eq,vV]
 unfold putK storedH;rw[e];by_cases q:(atKey c k).isSome=true
 .rw[if_pos q,if_pos q];exact r.repl k B
 .rw[if_neg q,if_neg q];exact Paired.snoc r ⟨rfl,D,B⟩
def KT.keeps (r:KT H kvs c) (B:∀b ys,H b=some (.tup ys)->H' b=some (.tup ys)):KT H' kvs c:=
 Paired.mapP r λ_ _ z=>⟨z.1,B _ _ z.2.1,z.2.2⟩
section
variable{H:Hp}
def Yd (ok:HOk P w H h) (e:Rd H a c):gM P w H h a c:=e.ok ok
def wM (ok:HOk P w H h) (e:Rd H a (.dK kvs)):kvs.length<=sizeLine/\(a==sysModules)=false/\∃vs,KV kvs vs/\h.DictOf (dh P w) a vs:=
 show gM P w H h a (.dK kvs)from Yd ok e
def Ye (ok:HOk P w H h) (e:H a=some (.dK kvs)):kvs.length<=sizeLine/\(a==sysModules)=false/\∃vs,KV kvs vs/\h.DictOf (dh P w) a vs:=wM ok (.inl e)
def vM (ok:HOk P w H h) (e:H a=some (.tup (ks.map kV))):(tupleKind (dh P w)).is h ks a:=by
 obtain⟨_,its,r,o,h1,h2,n,Z⟩:=(show gM P w H h a (.tup (ks.map kV))from ok a _ e);exact⟨o,its.toArray,n,h1,h2,Z,by simpa using Dy r⟩
def yQ (ok:HOk P w H h) (e:Rd H a (.dT kvs)):kvs.length<=sizeLine/\(a==sysModules)=false /\
 ∃xs,KT H kvs xs/\h.DictOfH (tupleKind (dh P w)) a xs:=by
 obtain⟨z,y,xs,r,o,es,ep,h1,h2,T,U,W⟩:=(show gM P w H h a (.dT kvs)from Yd ok e);refine⟨z,y,xs,r,o,es,ep,h1,h2,T,U,λx Z=>?_,W⟩;have all:∀{l:List (List Key×V)}{m:List (List Key×Addr×Value)},KT H l m->∀x∈m,(tupleKind (dh P w)).is h x.1 x.2.1:=by
  intro l m q
  induction q with
  |nil=>intro x Z;exact nomatch Z
  | @cons p q ps S Y t X=>
   intro x Z;rcases aJ.mp Z with e|Z
   .subst e;exact vM ok (by rw[<-Y.1];exact Y.2.1)
   .exact X x Z
 exact all r x Z
def Yg (ok:HOk P w H h) (e:H a=some (.dT kvs)):kvs.length<=sizeLine/\(a==sysModules)=false /\
 ∃xs,KT H kvs xs/\h.DictOfH (tupleKind (dh P w)) a xs:=yQ ok (.inl e)
end
def Kr(H:Hp)(a:Addr)(y:V)(r:Option V):Prop:=
 (∃kvs k,Rd H a (.dK kvs)/\y=kV k/\r=pQ kvs k)\/∃kvs k b,Rd H a (.dT kvs)/\y = .ref b/\H b=some (.tup (k.map kV))/\r=pQ kvs k
def Ks(H:Hp)(a:Addr)(y v:V)(H':Hp):Prop:=
 (∃kvs k,H a=some (.dK kvs)/\y=kV k/\kvs.length<sizeLine/\H'=upd H a (.dK (putK kvs k v))) \/
 ∃kvs k b,H a=some (.dT kvs)/\y = .ref b/\H b=some (.tup (k.map kV))/\kvs.length<sizeLine/\H'=upd H a (.dT (putK kvs k v))
def Kr.k {k:Key} (e:H a=some (.dK kvs)):Kr H a (kV k) (pQ kvs k):=.inl ⟨kvs,k,.inl e,rfl,rfl⟩
def Ks.k {k:Key} (e:H a=some (.dK kvs)) (B:kvs.length<sizeLine):Ks H a (kV k) v (upd H a (.dK (putK kvs k v))):=.inl ⟨kvs,k,e,rfl,B,rfl⟩
def Ks.t{b:Addr}{kvs:List (List Key×V)}{k:List Key}(e:H a=some (.dT kvs))(D:H b=some (.tup (k.map kV)))(B:kvs.length<sizeLine):
 Ks H a (.ref b) v (upd H a (.dT (putK kvs k v))):=.inr ⟨kvs,k,b,e,rfl,D,B,rfl⟩
section
variable{σ:St}{H:Hp}{s:eM}{y v:V}{r:Value}{o:Option V}{A:eW}{E:Value->eM->Prop}
def OJ (hu:A.units+1<cLine) (I:Inv X pins σ H s) (g:Kr H a y (some v)) (D:RelV y u) (h:∀B s',Inv X pins σ H s'->RelV v B->c B s') :
 wpAny (model X.prog X.w) A (getItem (.ref a) u) c E s:=by
 rcases g with⟨kvs,k,e,W,l⟩|⟨kvs,k,b,e,W,T,l⟩
 .subst W;obtain⟨z,hd,vs,rel,V⟩:=wM I.hok e;obtain⟨B,hw,Z⟩:=xO.some_of (v:=v) (o:=valueAt vs k) (by rw[l];exact rel.val k);exact wpAny_getItem_of (Mq D) V.mapOf hw (h B _ (I.tok _) Z)
 .subst W
  cases(show u=eQ b from D);obtain⟨z,hd,xs,rel,V⟩:=yQ I.hok e;obtain⟨B,hw,Z⟩:=xO.some_of (v:=v) (o:=(atKey xs k).map (·.2)) (by rw[l];exact rel.val k);obtain⟨p,U,Y⟩:=Option.map_eq_some_iff.mp hw;refine wpAny_getItem_heap (ba hu) (vM I.hok T) V U ?_;rw[Y];exact h B _ (I.tok _) Z
def as7 (hu:A.units+1<cLine) (I:Inv X pins σ H s) (g:Kr H a y o) (B:RelV y u) (h:∀s',Inv X pins σ H s'->c (.bool o.isSome) s') :
 wpAny (model X.prog X.w) A (compareOp .In u (.ref a)) c E s:=by
 rcases g with⟨kvs,k,e,Z,l⟩|⟨kvs,k,b,e,Z,W,l⟩
 .subst Z;obtain⟨z,hd,vs,rel,Y⟩:=wM I.hok e;refine wpAny_in_of (Mq B) hd Y.mapOf ?_;rw[<-(rel.val k).isSome_eq,<-l];exact h _ (I.tok _)
 .subst Z
  cases(show u=eQ b from B);obtain⟨z,hd,xs,rel,Y⟩:=yQ I.hok e;refine wpAny_in_heap (ba hu) (vM I.hok W) hd Y ?_;have q:=(rel.val k).isSome_eq;rw[vV]at q;rw[<-q,<-l];exact h _ (I.tok _)
def zM {h':fF}(I:Inv X pins σ H s) (J:Mut (H a)) (hs:gf a s.heap h') (O:∃q,h'.get? a=some q) (D:gM X.prog X.w (upd H a B) h' a B) :
 Inv X pins σ (upd H a B) {s with heap:=h',toks:=t'}:=
 I.write (x:=a) (e:=a) J (.inl rfl) (λb q Z z=>(hs.2 b Z).trans z) O D
def ZF (z:kvs.length<=sizeLine) (hd:(a==sysModules)=false) (rel:KV kvs k) (B:c.DictOf (dh P w) a k) :
 gM P w H' c a (.dK kvs):=⟨z,hd,k,rel,B⟩
def DK (hu:A.units+1<cLine) (I:Inv X pins σ H s) (g:Ks H a y v H') (B:RelV y u) (D:RelV v r) (h:∀s',Inv X pins σ H' s'->m () s') :
 wpAny (model X.prog X.w) A (setItem (.ref a) u r) m E s:=by
 rcases g with⟨kvs,k,e,U,l,T⟩|⟨kvs,k,b,e,U,R,l,T⟩
 .subst U T;obtain⟨z,hd,vs,rel,S⟩:=Ye I.hok e;have W:vs.length<=sizeLine:=by rwa[<-rel.length]
  have V:(putK kvs k v).length<=sizeLine:=by have:=yP kvs k v;lia
  refine wpAny_setItem_pairs (hsz:=W) (Mq B) S λh' Z hs=>h _ ?_
  have P:∃q,h'.get? a=some q:=let⟨q,_,_,Y,_⟩:=Z;⟨q,Y⟩;exact zM I (by rw[e];exact fS) hs P (ZF V hd (rel.put k D) Z)
 .subst U T
  cases(show u=eQ b from B);obtain⟨z,hd,xs,rel,S⟩:=Yg I.hok e;have W:xs.length<=sizeLine:=by rwa[<-Paired.length rel]
  have V:(putK kvs k v).length<=sizeLine:=by have:=yP kvs k v;lia
  refine wpAny_setItem_heap (hsz:=W) (ba hu) (vM I.hok R) S λh' Z hs=>h _ ?_
  obtain⟨q,es,ep,Y,h2,M,N,_,O⟩:=Z;refine zM I (by rw[e];exact fS) hs ⟨q,Y⟩ ⟨V,hd,_,(rel.put k R D).keeps λc ys L=>?_,q,es,ep,Y,h2,M,N,O⟩;rwa[bG (jf L e (λz=>nomatch z))]
end
section
variable{σ:St}{H:Hp}{s:eM}{kvs:List (Key×V)}{k:Key}{A:eW}{E:Value->eM->Prop}
def ai1 (I:Inv X pins σ H s) (e:Rd H a (.dK kvs)) (h:∀t s',Inv X pins σ H s'->c (.int kvs.length t) s'):wpAny (model X.prog X.w) A (call (.builtin "len") [.ref a]) c E s:=by
 obtain⟨z,hd,vs,rel,Z⟩:=wM I.hok e;refine call_len_dict hd Z (by rw[<-rel.length];rw[c8]at z;lia) ?_;rw[<-rel.length];exact h _ _ (I.tok _)
end
def ZG(i:Expr):Prop:=∀Z Y,subscripted i false Z Y=operate [Z,Y] (getItem Z Y)
def V6 {env:Env} {value slice:Expr} {pos:Pos} {T id:String} {Q:Value->eM->Prop}
 (J:typeLookup (.type T) "__getitem__"=pure (some (.builtin id))) (hs:ZG slice)
 (h:wpAny (model prog w) A (eval value env) (λo D=>wpAny (model prog w) A (eval slice env) (λi B=>B.TypeIs o T/\wpAny (model prog w) A (getItem o i) Q E B) E D) E s) :
 wpAny (model prog w) A (eval (.Subscript value slice pos) env) Q E s:=by
 refine dm (a5 h (λo D W=>a5 W (λi B Z=>?_) λ_ _ x=>x) λ_ _ x=>x);obtain⟨V,Z⟩:=Z;refine aa ?_;rw[getitemInPython_of_ne V.not_modules];refine aa (d0 V J ?_);have fin:wpAny (model prog w) A (subscripted slice false o i) (λr Y=>wpAny (model prog w) A (letTemporaryGo value o r >>= λ_=>pure r) Q E Y) E B:=by
  rw[hs o i];exact wpAny_operating (a5 Z (λr Y X=>aa (wpAny_letTemporaryGo (ae X))) λ_ _ x=>x)
 first
  |exact ae (aa fin)
  |exact aa (ae (aa fin))
  |exact aa fin
def H_ (I:Inv c m σ H s) (g:Kr H a r t):s.TypeIs (.ref a) "dict" := by
 rcases g with⟨kvs,k,e,_,_⟩|⟨kvs,k,b,e,_,_,_⟩
 .obtain⟨_,_,vs,_,Z⟩:=wM I.hok e;exact Z.typeIs
 .obtain⟨_,_,xs,_,Z⟩:=yQ I.hok e;exact Z.typeIs
def ai2(td ty:TE):TE:=λσ H Q=>td σ H λx H1=>ty σ H1 λy H2=>∃a v,x = .ref a/\Kr H2 a y (some v)/\Q v H2
section
variable{o i value:Expr}{tpos:Pos}{td ty tv:TE}
def V7(hu:X.A.units+1<cLine)(B:PE X o td)(hi:PE X i ty)(hs:ZG i):PE X (.Subscript o i pos) (ai2 td ty):=by
 intro pins s σ H Q I h;refine V6 PySem.F.slot_dict_getitem.lookup hs (thn (B pins s σ H _ I h) λu s1 ⟨x,H1,T,V,q1⟩=>thn (hi pins s1 σ H1 _ T q1) λR s2 ⟨y,H2,Y,W,a,v,ex,g,q2⟩=>?_);subst ex;obtain rfl:u=eQ a:=V;exact⟨H_ Y g,OJ hu Y g W λS s3 U Z=>⟨v,H2,U,Z,q2⟩⟩
end
section
end
structure M1(X:Cx)(o:Expr)(m:Str)(apos:Pos)(e:Expr)(cpos:Pos):Prop where
 base:attributeBase o m X.env (eval o X.env)=eval o X.env
 few:((backTo cpos (starEach [e] X.env)).all (λx=>!x.1)&&(backToKw cpos (keywordEach [] X.env)).all (λx=>x.1.isSome)
  && decide (([e]:List Expr).length+([]:List hV).length+(if([]:List hV).isEmpty then 0 else 1)<30))=true
 line:(apos.endLine==cpos.line)=true
 trees:backTo cpos (starEach [e] X.env)=[(false,eval e X.env)]
structure M2(X:Cx)(o:Expr)(m:Str)(apos:Pos)(e f:Expr)(cpos:Pos):Prop where
 base:attributeBase o m X.env (eval o X.env)=eval o X.env
 few:((backTo cpos (starEach [e,f] X.env)).all (λx=>!x.1)&&(backToKw cpos (keywordEach [] X.env)).all (λx=>x.1.isSome)
  && decide (([e,f]:List Expr).length+([]:List hV).length+(if([]:List hV).isEmpty then 0 else 1)<30))=true
 line:(apos.endLine==cpos.line)=true
 trees:backTo cpos (starEach [e,f] X.env)=[(false,eval e X.env),(false,eval f X.env)]
def IsD(H:Hp)(a:Addr):Prop:=(∃kvs,Rd H a (.dK kvs))\/∃kvs,Rd H a (.dT kvs)
def ZJ (I:Inv c k σ H s) (d:IsD H a) :
 s.TypeIs (.ref a) "dict"/\(∀b,eQ a = .ref b->∃B,s.heap.get? b=some B/\B.dict=none)/\(a==sysModules)=false:=by
 rcases d with⟨kvs,e⟩|⟨kvs,e⟩
 .obtain⟨_,hd,vs,_,Z⟩:=wM I.hok e;refine⟨Z.typeIs,λb q=>?_,hd⟩
  cases q;obtain⟨B,_,_,h1,h2,_⟩:=Z;exact⟨B,h1,h2.2.1⟩
 .obtain⟨_,hd,xs,_,Z⟩:=yQ I.hok e;refine⟨Z.typeIs,λb q=>?_,hd⟩
  cases q;obtain⟨B,_,_,h1,h2,_⟩:=Z;exact⟨B,h1,h2.2.1⟩
section
variable{σ:St}{H:Hp}{s:eM}{y d:V}{r:Value}{o:Option V}{A:eW}{E:Value->eM->Prop}
end
section
variable{o f:Expr}{td ty tx:TE}
end
section
variable{σ:St}{H:Hp}{s:eM}{kvs:List (Key×V)}{A:eW}{E:Value->eM->Prop}
end
section
variable{σ:St}{H:Hp}{s:eM}{y:V}{A:eW}{E:Value->eM->Prop}
end
section
variable{κ:Type}[DecidableEq κ]
end
end L2
namespace XK
open L2 My D3
section
variable{H:Hp}
def V8 (s:Same H H') (h:L2.Rd H a c):L2.Rd H' a c:=by
 rcases h with h|⟨o,h⟩
 .exact .inl (s _ _ h)
 .exact .inr ⟨o,s _ _ h⟩
end
section
variable{a b c:Expr}{f fa:FE}
def as8:R2:=λx y H Q=>∃p o,y = .ref p/\Kr H p x o/\Q (.bl o.isSome) H
def ZK(hu:X.A.units+64<cLine):OpR X (compareOp .In) as8:=by
 intro pins s σ H x y v u Q I Y Z h;obtain⟨p,o,rfl,g,q⟩:=h;obtain rfl:u=eQ p:=Z;exact as7 (by lia) I g Y λs' W=>⟨.bl o.isSome,H,W,rfl,q⟩
theorem Mr:∀(l:List Value)(ns:List Int),l.length=ns.length->(∀(j:Nat)(v:Value),l[j]? = some v->∃n t,ns[j]? = some n/\v=hJ n t)->gE l ns
 |[],[],_,_=>.nil
 |[],_::_,h,_=>by simp at h
 |_::_,[],h,_=>by simp at h
 |v::l,n::ns,h,g=>by
  obtain⟨Y,t,e1,e2⟩:=g 0 v rfl
  cases e1;subst e2;exact .cons _ _ (Mr l ns (by simpa using h) λj v Z=>by simpa using g (j+1) v (by simpa using Z))
end
end XK
namespace XK
open L2 My D3
def hu1(h:n+64<cLine):n+1<cLine:=by lia
section
end
section
variable{a b c:Expr}{f fa:FE}
end
end XK
namespace XK
open L2 My D3
def Rj(X:Cx)(a:Addr):Prop:=(∀xs,X.H₀ a≠some (.tup xs))/\(∀o u,X.H₀ a≠some (.frz o u))/\∀q p,X.H₀ a≠some (.tbl q p)
section
variable{σ:L2.St}{H H':Hp}{s:eM}{kvs:List (Key×V)}
def Rm(I:L2.Inv X pins σ H s)(hn:Rj X a)(ha:H a≠none)(B:∀b,b≠a->H' b=H b)(hok:HOk X.prog X.w H' s.heap):L2.Inv X pins σ H' s:=by
 have Z:∀b,H b=none->H' b=none:=λb z=>by
  rw[B b (λe=>ha (by rwa[<-e]))];exact z
 refine⟨I.ok,I.os,I.bare,⟨I.base.keep,I.base.slot,λb o e n Y=>Z b (I.base.free b o e n Y),I.base.there,λb xs e=>?_,λb o u e=>?_,λb q p e=>?_⟩,I.loc,I.cell,Z _ I.free,λx c e=>Z _ (I.freeC x c e),λp W=>?_,hok,I.len⟩
 .rw[B b (λz=>hn.1 xs (by rwa[<-z]))];exact I.base.tups b xs e
 .rw[B b (λz=>hn.2.1 o u (by rwa[<-z]))];exact I.base.frzs b o u e
 .rw[B b (λz=>hn.2.2 q p (by rwa[<-z]))];exact I.base.tbls b q p e
 .obtain⟨h1,h2,V⟩:=I.pin p W;exact⟨h1,Z _ h2,V⟩
end
section
variable{H:Hp}{kvs:List (Key×V)}
mutual
theorem Fz (h:H a=some (.dK kvs)):∀{v:V}{d:D},RA K ok true H v d->RA K ok true (upd H a (.frz o (.dK kvs))) v d
 |_,_,.non=>.non
 |_,_,.bl b=>.bl b
 |_,_,.int i=>.int i
 |_,_,.str x=>.str x
 |_,_,.lst e k q=>.lst (by rwa[bG (jf e h (by intro z;cases z))]) k (o9 h q)
 |_,_,.lsk e k q=>.lsk (by
  rcases e with⟨o',e⟩|e
  .exact .inl ⟨o',by rwa[bG (jf e h (by intro z;cases z))]⟩
  .exact .inr e) k (o9 h q)
 |_,_,.tup e q=>.tup (by unfold iI;rwa[bG (jf e h (by intro z;cases z))]) (o9 h q)
 |_,_,.dic (a:=b) e g k=>by
  by_cases hb:b=a
  .subst hb;have g':=g.upd (o:=.frz o (.dK kvs)) h;rw[h]at e;exact .dik (by rw[bR];injection e with e;rw[e]) g' rfl
  .exact .dic (by rwa[bG hb]) (g.upd h) k
 |_,_,.dik e g k=>.dik (by rwa[bG (jf e h (by intro z;cases z))]) (g.upd h) k
theorem o9 (h:H a=some (.dK kvs)):∀{v:List V}{d:List D},RAs K ok true H v d->RAs K ok true (upd H a (.frz o (.dK kvs))) v d
 |_,_,.nil=>.nil
 |_,_,.cons e q=>.cons (Fz h e) (o9 h q)
end
mutual
theorem FJ (h:H a=some (.frz o (.dK kvs))):∀{v:V}{d:D},RA K ok false H v d->RA K ok false (upd H a (.dK kvs)) v d
 |_,_,.non=>.non
 |_,_,.bl b=>.bl b
 |_,_,.int i=>.int i
 |_,_,.str x=>.str x
 |_,_,.lst e k q=>.lst (by rwa[bG (jf e h (by intro z;cases z))]) k (oh h q)
 |_,_,.lsk e k q=>by cases k
 |_,_,.tup e q=>.tup (by unfold iI;rwa[bG (jf e h (by intro z;cases z))]) (oh h q)
 |_,_,.dic e g k=>.dic (by rwa[bG (jf e h (by intro z;rcases g.or with⟨ks,y⟩|⟨ks,y⟩<;>(rw[y]at z;cases z)))]) (g.imp λ_ _ t=>by unfold iI;rwa[bG (jf t h (by intro z;cases z))]) k
 |_,_,.dik e _ k=>by cases k
theorem oh (h:H a=some (.frz o (.dK kvs))):∀{v:List V}{d:List D},RAs K ok false H v d->RAs K ok false (upd H a (.dK kvs)) v d
 |_,_,.nil=>.nil
 |_,_,.cons e q=>.cons (FJ h e) (oh h q)
end
end
section
variable{fl':List Fl}{b c elt iter:Expr}{k:Kd}{f fa fx:FE}{TT:List Nat}{fi:FA}{g:FG}
def Ia{σ:L2.St}{Q:VK}{t:Nat}{r:List D}{J:It}{Dl:Addr}{tb:Tb H1}(htg:∀j∈TT,j<t)(R:Rel X.K fl' ⟨H1,H1,λ_=>none,λ_=>[],tb⟩ ow0 (vD t ix σ) H1 (lN t ix δ))
 (hl:l.length<=100000) (e3:jU g ft f (lN t ix δ) l=some r) (hD:H1 Dl=none)
 (wk:∀H2,Same H1 H2->∀i:Nat,(∀d,l[i]? = some d->J.go i H2/\∀x O,J.yld i H2 x O->Same H2 O/\RA X.K ok1 true O x d)/\(l.length<=i->J.stop i H2))
 (q:∀H2 xs,Same H1 H2->H2 Dl=some (.lst xs)->RAs X.K (λb=>okN H1 b/\b≠Dl) false H2 xs r->Q (.ref Dl) H2) :
 ∃W:Nat->Nat->List V->Hp->Prop,(∃m,W 0 m [] (upd H1 Dl (.lst []))) /\
  ∀i m xs H2,W i m xs H2->H2 Dl=some (.lst xs)/\((J.stop i H2/\Q (.ref Dl) H2)\/(J.go i H2/\xs.length<sizeLine/\∀x O,J.yld i H2 x O->tDG X.K fl' TT g x (vD t ix σ) O λB H4=>B.drop t=(vD t ix σ).drop t /\
   tDT X.K fl' ft B H4 λb H5=>if b=true then tD X.K fl' .C f B H5 λv H6=>H6 Dl=some (.lst xs)/\∃m',m'<m/\W (i+1) m' (xs++[v]) (upd H6 Dl (.lst (xs++[v])))else ∃m',m'<m/\W (i+1) m' xs H5)):=by
 let N:Ok:=λb=>okN H1 b/\b≠Dl
 refine⟨λi m xs H2=>m=l.length-i/\H2 Dl=some (.lst xs)/\Same H1 H2/\xs.length<=i/\i<=l.length/\∃ds rest,RAs X.K N false H2 xs ds/\jU g ft f (lN t ix δ) (l.drop i)=some rest/\r=ds++rest,
  ⟨_,rfl,bR,cP hD _,aB _,cg _,[],r,.nil,by simpa using e3,rfl⟩,?_⟩
 rintro i m xs H2 ⟨rfl,U,s2,F,A,ds,rest,E,Y,rfl⟩;refine⟨U,?_⟩;obtain⟨h,k⟩:=wk H2 s2 i;by_cases S:i<l.length
 .have L:=iU S;rw[L,jU]at Y;refine D3.ex1 (bind1 Y) λP e5 Y=>?_
  refine D3.ex1 (bind1 Y) λu e6 Y=>?_
  obtain⟨go,p⟩:=h l[i] (aA S);refine .inr ⟨go,lJ (aV F (aV A hl)) (by decide),λx O hy=>?_⟩;obtain⟨s3,r3⟩:=p x O hy;have H:=s2.trans s3;have Rb:=R.grow H;refine⟨_,_,_,_,P,Rb,r3.imp (λ_ _=>⟨λi z=>(by cases z),λi z=>(by cases z)⟩) (λz=>z),e5,λB s M=>⟨?_,?_⟩⟩
  .apply dY;intro n;rw[d8,d8];exact M (t+n) λz=>absurd (htg _ z) (by lia)
  .refine⟨_,_,P,u,s,e6,λH5 I=>?_⟩
   cases u with
   |false=>
    rw[if_neg bA]at Y ⊢;have Z:=s3.trans I;exact⟨l.length-(i+1),by lia,rfl,Z _ _ U,s2.trans Z,by lia,S,ds,rest,E.same Z,Y,rfl⟩
   |true=>
    rw[if_pos rfl]at Y ⊢;refine D3.ex1 (bind1 Y) λy e7 Y=>?_
    refine D3.ex1 (bind1 Y) λl' e8 Y=>?_
    cases Y;refine⟨_,_,P,y,s.grow I,e7,λv H6 c r6=>?_⟩;have Z:=s3.trans I;have T:=Z.trans c;refine⟨T _ _ U,l.length-(i+1),by lia,rfl,bR,?_,by rw[bL,m5];lia,S,ds++[y],l',?_,e8,by simp⟩
    .intro b o w;rw[bG (λz=>by subst z;rw[hD]at w;cases w)];exact(s2.trans T) b o w
    .have nd:¬N Dl:=λz=>z.2 rfl
     have G:=s2.trans Z;have a:RA X.K N false H6 v y:=RA.imp (λb z=>⟨G.free z,λe=>by subst e;rw[okN,Z _ _ U]at z;cases z⟩) (λz=>z) r6;exact((E.same T).append (.cons a .nil)).upd (T _ _ U) nd
 .have ed:l.drop i=[]:=fX (by lia);rw[ed,jU]at Y
  cases Y;refine .inl ⟨k (by lia),?_⟩;rw[cI]at q;exact q H2 xs s2 U E
end
end XK
namespace XK
def Ie (h:c (s.heap.get? a) s):wpAny M A (loadIfAlive a) c E s:=λ_ _ _=>h
abbrev CG(h:fF)(z B TI TO:Addr)(b:Bool):Prop:=
 h.get? z=some {cls:=.type "zip", dict:=none,data:=.fields #[rawInt B,.bool b,.bool false,.ref TI,.ref TO],slots:=#[]}
section
variable{prog:eS}{A:eW}{E:Value->eM->Prop}{s:eM}
theorem Bh (hz:CG s.heap z B c k b) (O:s.heap.get? B=some J) (D:∀h',CG h' z B c k true->gf z s.heap h'->m false {s with heap:=h'}) :
 wpAny (model prog w) A (Builtin.SmallTypes.ownedTupleIsFree (.ref z)) m E s:=by
 refine aa (aT hz rfl (x:=rawInt B) rfl ?_);refine aa (Ie ?_);rw[fY,O];refine aa (aT hz rfl (x:=.bool b) rfl ?_)
 cases b with
 |true=>
  exact ae (D s.heap hz ⟨rfl,λ_ _=>rfl⟩)
 |false=>
  refine aa (wpAny_setField_rec hz (by simp) λX Z Y=>ae (D X Z Y))
def Rn {x:Value}{o0:Obj} {Q:Value->eM->Prop} (D:ik z k m i1 i2 l1 l2)
 (hz:CG s.heap z a0 k m b) (h0:s.heap.get? a0=some o0) (O:gS s.heap k (.ref i1) (.ref i2))
 (h1:s.heap.IsListIter i1 l1 k1) (h2:s.heap.IsListIter i2 l2 k2) (J:s.heap.IsList l1 r) (B:s.heap.IsList l2 ys) (hx:r[k1]? = some x) (hy:ys[k2]? = some t)
 (hQ:∀h',CG h' z a0 k m true->h'.IsListIter i1 l1 (k1+1)->h'.IsListIter i2 l2 (k2+1)->gS h' s.heap.objs.size x t ->
  (∀c o,c≠z->c≠i1->c≠i2->s.heap.get? c=some o->h'.get? c=some o)->Q (.ref s.heap.objs.size) {s with heap:=h'}) :
 wpAny (model prog w) A (g9.«zip.__next__» ⟨[.ref z],[]⟩) (λfin s'=>∃v,fin = .done (.ret v)/\Q v s') E s:=by
 show wpAny _ _ (field (.ref z) 2 >>= _) _ _ _;refine aa (aT hz rfl (x:=.bool false) rfl ?_);refine aa (aT hz rfl (x:=.ref k) rfl ?_);refine aa (bt O rfl ?_);refine aa (Bh hz h0 λK U Z=>?_);simp only[fL,if_false];refine aa ?_;simp only[<-u9,sW,List.forIn_nil];refine aa (aa (ap ?_));refine aa (cm (h1.extBut Z.extBut D.i1z) (J.extBut Z.extBut D.l1z) hx λL S Y=>ae (ae ?_));refine aa (aa (ap ?_));refine aa (cm ((h2.extBut Z.extBut D.i2z).extBut Y.extBut D.i12.symm) ((B.extBut Z.extBut D.l2z).extBut Y.extBut D.l2i1) hy λW T X=>ae (ae (ae ?_)));show wpAny _ _ (newTuple [x,t] >>= _) _ _ _;refine aa (eA (ae ⟨_,rfl,?_⟩));have R:W.objs.size=s.heap.objs.size:=by rw[X.1,Y.1,Z.1]
 have I:∀c o,c≠z->c≠i1->c≠i2->s.heap.get? c=some o->W.get? c=some o:=λc o M N P e=>X.extBut _ _ P (Y.extBut _ _ N (Z.extBut _ _ M e))
 have V:=X.extBut _ _ D.i2z.symm (Y.extBut _ _ D.i1z.symm U);have up:∀c o,W.get? c=some o->(W.push {cls:=.type "tuple", data:=.seq #[x,t]}).get? c=some o:=λc o e=>ad _ e
 rw[R];refine hQ _ (up _ _ V) (((S.extBut X.extBut D.i12)).at λo e=>up _ o e) (T.at λo e=>up _ o e) ?_ λc o M N P e=>up c o (I c o M N P e)
 rw[<-R];exact ag _ rfl
theorem Ro (hh:A.handled=none) (D:ik z k m i1 i2 l1 l2)
 (hz:CG s.heap z a0 k m b) (h0:s.heap.get? a0=some o0) (hTI:gS s.heap k (.ref i1) (.ref i2))
 (h1:s.heap.IsListIter i1 l1 k1) (h2:s.heap.IsListIter i2 l2 k2) (B:s.heap.IsList l1 r) (O:s.heap.IsList l2 ys) (J:r[k1]? = none\/ys[k2]? = none)
 (hE:∀h' e,(∀c o,c≠z->c≠i1->c≠i2->s.heap.get? c=some o->h'.get? c=some o)->(∃o,h'.get? e=some o/\o.cls = .type "StopIteration")->E (.ref e) {s with heap:=h'}) :
 wpAny (model prog w) A (g9.«zip.__next__» ⟨[.ref z],[]⟩) t E s:=by
 show wpAny _ _ (field (.ref z) 2 >>= _) _ _ _;refine aa (aT hz rfl (x:=.bool false) rfl ?_);refine aa (aT hz rfl (x:=.ref k) rfl ?_);refine aa (bt hTI rfl ?_);refine aa (Bh hz h0 λM U Z=>?_);simp only[fL,if_false];refine aa ?_;simp only[<-u9,sW,List.forIn_nil];refine aa (aa (ap ?_))
 cases T:r[k1]? with
 |none=>
  refine aa (wpAny_nextOf_list_end hh (h1.extBut Z.extBut D.i1z) (B.extBut Z.extBut D.l1z) T λX e Y S=>?_);exact hE X e (λc o N P _ x=>Y _ _ P (Z.extBut _ _ N x)) S
 |some x=>
  have L:ys[k2]? = none:=by rcases J with h|h;rw[T]at h;cases h;exact h
  refine aa (cm (h1.extBut Z.extBut D.i1z) (B.extBut Z.extBut D.l1z) T λX R Y=>ae (ae ?_));refine aa (aa (ap ?_));refine aa (wpAny_nextOf_list_end hh ((h2.extBut Z.extBut D.i2z).extBut Y.extBut D.i12.symm) ((O.extBut Z.extBut D.l2z).extBut Y.extBut D.l2i1) L λV e W S=>?_);exact hE V e (λc o N P K x=>W _ _ K (Y.extBut _ _ P (Z.extBut _ _ N x))) S
def O1 (D:ik z k m i1 i2 l1 l2)
 (hz:CG s.heap z Y k m b) (h0:s.heap.get? Y=some o0) (O:gS s.heap k (.ref i1) (.ref i2))
 (h1:s.heap.IsListIter i1 l1 k1) (h2:s.heap.IsListIter i2 l2 k2) (J:s.heap.IsList l1 r) (B:s.heap.IsList l2 ys) (hx:r[k1]? = some t) (hy:ys[k2]? = some C)
 (hQ:∀h',CG h' z Y k m true->h'.IsListIter i1 l1 (k1+1)->h'.IsListIter i2 l2 (k2+1)->gS h' s.heap.objs.size t C ->
  (∀c o,c≠z->c≠i1->c≠i2->s.heap.get? c=some o->h'.get? c=some o)->I (some (.ref s.heap.objs.size)) {s with heap:=h'}) :
 wpAny (model prog w) A (pyNext (.ref z)) I E s:=by
 have Z:s.TypeIs (.ref z) "zip" := ⟨_,hz,rfl⟩;exact aa (bz (av (name:=fA "__next__") Z cq
  (ar cq Z F.entry_zip_next (Rn D hz h0 O h1 h2 J B hx hy λh' T U V W X=>ae (hQ h' T U V W X)) (F.args_zip_next_1 _))))
def O2 (hh:A.handled=none) (D:ik z k m i1 i2 l1 l2)
 (hz:CG s.heap z a0 k m b) (h0:s.heap.get? a0=some o0) (Y:gS s.heap k (.ref i1) (.ref i2))
 (h1:s.heap.IsListIter i1 l1 k1) (h2:s.heap.IsListIter i2 l2 k2) (O:s.heap.IsList l1 r) (J:s.heap.IsList l2 ys) (B:r[k1]? = none\/ys[k2]? = none)
 (hQ:∀h',(∀c o,c≠z->c≠i1->c≠i2->s.heap.get? c=some o->h'.get? c=some o)->t none {s with heap:=h'}):wpAny (model prog w) A (pyNext (.ref z)) t E s:=by
 have Z:s.TypeIs (.ref z) "zip" := ⟨_,hz,rfl⟩;refine aa (bz (av (name:=fA "__next__") Z cq
  (ar cq Z F.entry_zip_next (Ro hh D hz h0 Y h1 h2 O J B λh' e W V=>?_) (F.args_zip_next_1 _))))
 obtain⟨o,X,U⟩:=V;refine aa (dP (T := "StopIteration") (b:=true) ⟨o,X,U⟩ eC ?_);exact ae (hQ _ W)
end
end XK
namespace XK
structure LZ(h:fF)(base:Nat)(z TI TO i1 i2 l1 l2 S:Addr)(xs ys:Array Value)(i:Nat)(acc:Array Value):Prop where
 ti:gS h TI (.ref i1) (.ref i2)
 j1:h.IsListIter i1 l1 i
 j2:h.IsListIter i2 l2 i
 q1:h.IsList l1 xs
 q2:h.IsList l2 ys
 zz:(i=0/\IsZip h z TI TO .none/\∃a b,gS h TO a b)\/∃a0 b o0,base<=a0/\CG h z a0 TI TO b/\h.get? a0=some o0
 sz:base<=h.objs.size
 al:acc.size=i
 ac:∀j,j<i->∃a x y,acc[j]? = some (.ref a)/\base<=a/\xs[j]? = some x/\ys[j]? = some y/\gS h a x y
 inj:∀(j j':Nat)(a:Addr),acc[j]? = some (.ref a)->acc[j']? = some (.ref a)->j=j'
 ss:∃c,h.get? S=some {cls:=.type "list", dict:=none,data:=.seq acc c,slots:=#[]}
section
variable{prog:eS}{A:eW}{R:Result->eM->Prop}{z TI TO i1 i2 l1 l2 S:Addr}{xs ys:Array Value}{base:Nat}
theorem V9(hh:A.in1.handled=none)(D:ik z TI TO i1 i2 l1 l2)(res:Value)(hb:∀c,c∈[z,TI,TO,i1,i2,l1,l2,S]->c<base)(hS:S∉[z,TI,TO,i1,i2,l1,l2])(hn:xs.size<=sizeLine):
 ∀(k i:Nat)(s:eM)(acc:Array Value),min xs.size ys.size-i=k->i<=min xs.size ys.size->LZ s.heap base z TI TO i1 i2 l1 l2 S xs ys i acc ->
 (∀h' B,(∀c o,c∉[z,TO,i1,i2,S]->s.heap.get? c=some o->h'.get? c=some o)->B.size=min xs.size ys.size ->
  (∀j,j<min xs.size ys.size->∃a x y,B[j]? = some (.ref a)/\base<=a/\xs[j]? = some x/\ys[j]? = some y/\gS h' a x y)->(∀(j j':Nat)(a:Addr),B[j]? = some (.ref a)->B[j']? = some (.ref a)->j=j') ->
  (∃c,h'.get? S=some {cls:=.type "list", dict:=none,data:=.seq B c,slots:=#[]})->R (.ok (.ret res)) {s with heap:=h'}) ->
 codeAny (model prog w) A (.builtin "list.extend.loop" ⟨[.ref S,.ref z,res],[]⟩) R s:=by
 have M:S≠z:=λe=>hS (by simp[e])
 have d:S≠TI:=λe=>hS (by simp[e])
 have E:S≠TO:=λe=>hS (by simp[e])
 have J:S≠i1:=λe=>hS (by simp[e])
 have K:S≠i2:=λe=>hS (by simp[e])
 have g:S≠l1:=λe=>hS (by simp[e])
 have h:S≠l2:=λe=>hS (by simp[e])
 have ne:∀c,c∈[z,TI,TO,i1,i2,l1,l2,S]->∀a:Addr,base<=a->a≠c:=λc Y a ha q=>m_.mpr ha (by rw[q];exact hb c Y)
 intro k
 induction k with
 |zero=>
  intro i s acc hk hi L hR;have hin:i=min xs.size ys.size:=by lia
  have Q:xs[i]? = none\/ys[i]? = none:=by
   rcases Nat.le_total xs.size ys.size with z|z
   .exact .inl (fZ (by lia))
   .exact .inr (fZ (by lia))
  refine bq F.entry_extend_loop ?_;rw[a6 cK _];have fin:∀h',(∀c o,c≠z->c≠TO->c≠i1->c≠i2->s.heap.get? c=some o->h'.get? c=some o)->R (.ok (.ret res)) {s with heap:=h'}:=λh' X=>by
   have up:=λa o ha e=>X a o (ne z (by simp) _ ha) (ne TO (by simp) _ ha) (ne i1 (by simp) _ ha) (ne i2 (by simp) _ ha) e
   obtain⟨c,Y⟩:=L.ss;have V:=X S _ M E J K Y;refine hR h' acc (λc o Y e=>X c o (λq=>Y (by simp[q])) (λq=>Y (by simp[q])) (λq=>Y (by simp[q])) (λq=>Y (by simp[q])) e) (by rwa[L.al]) (λj t=>?_) L.inj ⟨c,V⟩
   .obtain⟨a,x,y,h1,h2,h3,h4,h5⟩:=L.ac j (by lia);exact⟨a,x,y,h1,h2,h3,h4,up a _ h2 h5⟩
  rcases L.zz with⟨H,O,a,b,N⟩|⟨T,b,P,_,O,H⟩
  .exact aa (wpAny_pyNext_zip_end hh D O L.ti N L.j1 L.j2 L.q1 L.q2 Q λh' X=>ae (fin h' X))
  .exact aa (O2 hh D O H L.ti L.j1 L.j2 L.q1 L.q2 Q λh' X=>ae (fin h' λc o c1 _ c3 c4 e=>X c o c1 c3 c4 e))
 |succ k ih=>
  intro i s acc hk hi L hR;have hlt:i<min xs.size ys.size:=by lia
  obtain⟨x,m⟩:∃x,xs[i]? = some x:=⟨_,kY (by lia)⟩;obtain⟨y,n⟩:∃y,ys[i]? = some y:=⟨_,kY (by lia)⟩;refine bq F.entry_extend_loop ?_;rw[a6 cK _];show wpAny _ A.in1 (pyNext (.ref z) >>= _) _ _ s;have step:∀(h':fF),(∃T b P,base<=T/\CG h' z T TI TO b/\h'.get? T=some P)->h'.IsListIter i1 l1 (i+1)->h'.IsListIter i2 l2 (i+1)->gS h' s.heap.objs.size x y ->
   (∀c o,c≠z->c≠TO->c≠i1->c≠i2->s.heap.get? c=some o->h'.get? c=some o) ->
   wpAny (model prog w) A.in1 (updateSeq S (·.push (.ref s.heap.objs.size)) >>= λ_=>again (.builtin "list.extend.loop" ⟨[.ref S,.ref z,res],[]⟩)) (λfin s'=>match fin with | .done f=>R (.ok f) s' | .again c'=>c'.quiet=true/\codeAny (model prog w) A c' R s') (λe s'=>R (.error e) s') {s with heap:=h'}:=λh' g1 g3 C I W=>by
   obtain⟨c,Y⟩:=L.ss;have V:=W S _ M E J K Y;have up:∀a o,base<=a->s.heap.get? a=some o->h'.get? a=some o:=λa o ha e=>W a o (ne z (by simp) _ ha) (ne TO (by simp) _ ha) (ne i1 (by simp) _ ha) (ne i2 (by simp) _ ha) e
   have Z:∀b o,b≠S->h'.get? b=some o->(h'.update S (fo (·.push (.ref s.heap.objs.size)))).get? b=some o:=λb o hb e=>(a4 _ _ (e9 hb)).trans e
   refine aa ?_;refine cr V rfl (ae ⟨ce cK _,ih (i+1) _ (acc.push (.ref s.heap.objs.size)) (by lia) (by lia) ⟨?_,?_,?_,?_,?_,?_,?_,?_,?_,?_,?_⟩ λh'' B G e2 e3 e4 e5=>?_⟩)
    (by rw[L.al];lia) (by show(acc.push _).size<=sizeLine+1;rw[Array.size_push,L.al];lia)
   .exact Z _ _ (e9 d) (W _ _ D.TIz D.TITO D.TIi1 D.TIi2 L.ti)
   .exact g3.at λo e=>Z _ o (e9 J) e
   .exact C.at λo e=>Z _ o (e9 K) e
   .obtain⟨o,l,r⟩:=L.q1;exact⟨o,Z _ _ (e9 g) (W _ _ D.l1z D.l1TO D.l1i1 D.l1i2 l),r⟩
   .obtain⟨o,l,r⟩:=L.q2;exact⟨o,Z _ _ (e9 h) (W _ _ D.l2z D.l2TO D.l2i1 D.l2i2 l),r⟩
   .obtain⟨T,b,P,k1,k2,u⟩:=g1;exact .inr ⟨T,b,P,k1,Z _ _ (e9 M) k2,Z _ _ (ne S (by simp) _ k1) u⟩
   .show base<=(h'.update S _).objs.size;rw[aI];exact aV L.sz (cG (af I))
   .rw[Array.size_push,L.al]
   .intro j t;by_cases q:j=i
    .subst q;exact⟨_,x,y,by rw[<-L.al];simp,L.sz,m,n,Z _ _ (ne S (by simp) _ L.sz) I⟩
    .obtain⟨a,x',y',k1,k2,u,k4,p⟩:=L.ac j (by lia);refine⟨a,x',y',?_,k2,u,k4,Z _ _ (ne S (by simp) _ k2) (up a _ k2 p)⟩;rw[Array.getElem?_push_lt (by rw[L.al];lia)];rw[kY (by rw[L.al];lia)]at k1;exact k1
   .have lt:∀(j:Nat)(a:Addr),acc[j]? = some (.ref a)->a<s.heap.objs.size/\j<i:=λj a e=>by
     have t:j<i:=by
      rcases dB j acc.size with q|q
      .rw[L.al]at q;exact q
      .rw[fZ q]at e;cases e
     obtain⟨a',x',y',k1,k2,u,k4,p⟩:=L.ac j t;rw[e]at k1
     cases k1;exact⟨af p,t⟩
    have cs:∀(j:Nat)(a:Addr),(acc.push (.ref s.heap.objs.size))[j]? = some (.ref a)->(acc[j]? = some (.ref a))\/(j=i/\a=s.heap.objs.size):=λj a e=>by
     rw[Array.getElem?_push]at e;by_cases q:j=acc.size
     .rw[if_pos q]at e
      cases e;exact .inr ⟨by rw[q,L.al],rfl⟩
     .rw[if_neg q]at e;exact .inl e
    intro j j' a e e';rcases cs j a e with q|⟨q,r⟩<;>rcases cs j' a e' with v|⟨v,r'⟩
    .exact L.inj j j' a q v
    .exact absurd (lt j a q).1 (by rw[r'];exact eG _)
    .exact absurd (lt j' a v).1 (by rw[r];exact eG _)
    .rw[q,v]
   .exact⟨_,az _ V rfl⟩
   .exact hR h'' B (λc o Y e=>G c o Y (Z c o (λq=>Y (by simp[q])) (W c o (λq=>Y (by simp[q])) (λq=>Y (by simp[q])) (λq=>Y (by simp[q])) (λq=>Y (by simp[q])) e))) e2 e3 e4 e5
  rcases L.zz with⟨H,O,a,b,N⟩|⟨T,b,P,U,O,H⟩
  .refine aa (wpAny_pyNext_zip_item D O L.ti N L.j1 L.j2 L.q1 L.q2 m n λh' g1 g2 g3 C I g6 W=>?_);exact step h' ⟨s.heap.objs.size,false,_,L.sz,g1,I⟩ g3 C I W
  .refine aa (O1 D O H L.ti L.j1 L.j2 L.q1 L.q2 m n λh' g1 g3 C I W=>?_);exact step h' ⟨T,true,P,U,g1,W T P (ne z (by simp) _ U) (ne i1 (by simp) _ U) (ne i2 (by simp) _ U) H⟩ g3 C I λc o c1 _ c3 c4 e=>W c o c1 c3 c4 e
end
end XK
namespace XK
def Ku:typeLookup (.type "zip") "__len__"=pure none:=by rw[d6,cz];kernel_rfl
def Ig:typeLookup (.type "zip") "__length_hint__"=pure none:=by rw[d6,cz];kernel_rfl
section
variable{prog:eS}{A:eW}{E:Value->eM->Prop}{s:eM}
def Rp (B:s.TypeIs (.ref z) "zip") (h:c true s):wpAny (model prog w) A (Builtin.List.listLengthHint (.ref z)) c E s:=by
 refine aa (d0 B Ku ?_);exact aa (d0 B Ig (ae h))
def Rq {xs:Array Value}(hh:A.handled=none) (D:ik z k m i1 i2 l1 l2) (hz:IsZip s.heap z k m .none) (hTI:gS s.heap k (.ref i1) (.ref i2)) (O:gS s.heap m t q0)
 (h1:s.heap.IsListIter i1 l1 0) (h2:s.heap.IsListIter i2 l2 0) (J:s.heap.IsList l1 xs) (B:s.heap.IsList l2 ys) (hn:xs.size<=sizeLine)
 (hQ:∀h' acc c,(∀c o,c∉[z,m,i1,i2]->s.heap.get? c=some o->h'.get? c=some o)->acc.size=min xs.size ys.size ->
  (∀j,j<min xs.size ys.size->∃t x y,acc[j]? = some (.ref t)/\s.heap.objs.size<t/\xs[j]? = some x/\ys[j]? = some y/\gS h' t x y)->(∀(j j':Nat)(t:Addr),acc[j]? = some (.ref t)->acc[j']? = some (.ref t)->j=j') ->
  h'.get? s.heap.objs.size=some {cls:=.type "list", dict:=none,data:=.seq acc c,slots:=#[]}->q1 (.ref s.heap.objs.size) {s with heap:=h'}) :
 wpAny (model prog w) A (call (.type "list") [.ref z]) q1 E s:=by
 refine callType_codes (Q₁:=λobj Y=>obj = .ref s.heap.objs.size/\Y={s with heap:=s.heap.push {cls:=.type "list", data:=.seq #[]} }) PySem.F.called_list (PySem.F.typeCall_list_1 _) PySem.F.entry_list_init (code_list_new _ ⟨rfl,rfl⟩) λobj Y g=>?_
 obtain⟨rfl,rfl⟩:=g;have N:(s.heap.push {cls:=.type "list", data:=.seq #[]}).get? s.heap.objs.size=some {cls:=.type "list", data:=.seq #[]}:=ag _ rfl;refine⟨⟨_,N,rfl⟩,PySem.F.args_list_init_2 _ _,?_⟩;refine aa ?_;refine aa (bt N rfl (ae ?_));refine aa (cr N rfl ?_);have U:=az (fo (λ_=>(#[]:Array Value))) N rfl;refine aa (wpAny_letGo ?_);have old:∀c o,s.heap.get? c=some o->c≠s.heap.objs.size:=λc o e=>aR (af e)
 have k2:∀c o,s.heap.get? c=some o->((s.heap.push {cls:=.type "list", data:=.seq #[]}).update s.heap.objs.size (fo (λ_=>(#[]:Array Value)))).get? c=some o:=λc o e=>
  (a4 _ _ (e9 (old c o e))).trans (ad _ e)
 have W:((s.heap.push {cls:=.type "list", data:=.seq #[]}).update s.heap.objs.size (fo (λ_=>(#[]:Array Value)))).objs.size=s.heap.objs.size+1:=by rw[aI,cn]
 generalize (s.heap.push {cls:=.type "list", data:=.seq #[]}).update s.heap.objs.size (fo (λ_=>(#[]:Array Value)))=M at U k2 W;refine aa (b6 (T := "zip") ⟨_,k2 _ _ hz,rfl⟩ ?_);have e1:ii (.ref s.heap.objs.size) (.ref z)=false:=by simp[ii,e9 (old z _ hz)]
 have e2:(hG "zip"==hG "list")=false:=by decide
 have e3:(hG "zip"==hG "tuple")=false:=by decide
 simp only[e1,e2,e3,Bool.or_false,fL,if_false];refine aa (dL (k2 _ _ hz) ?_);refine aa (ap (Rp ⟨_,k2 _ _ hz,rfl⟩ ?_));rw[if_pos (Bool.true_or _)];refine aa (a9 ?_);refine aa ?_;refine aa (cr U rfl ?_);have R:=az (fo (·.push fy)) U rfl;refine cr (hz:=by seq_fits) R rfl ?_;have S:=az (fo (·.pop)) R rfl;have Z:∀c o,s.heap.get? c=some o->((M.update s.heap.objs.size (fo (·.push fy))).update s.heap.objs.size (fo (·.pop))).get? c=some o:=λc o e=>
  (a4 _ _ (e9 (old c o e))).trans ((a4 _ _ (e9 (old c o e))).trans (k2 c o e))
 have X:((M.update s.heap.objs.size (fo (·.push fy))).update s.heap.objs.size (fo (·.pop))).objs.size=s.heap.objs.size+1:=by rw[aI,aI,W]
 generalize (M.update s.heap.objs.size (fo (·.push fy))).update s.heap.objs.size (fo (·.pop))=C at S Z X;have lt:∀c∈[z,k,m,i1,i2,l1,l2],c<s.heap.objs.size:=λc V=>by
  simp only[aJ,cV,or_false]at V;rcases V with rfl|rfl|rfl|rfl|rfl|rfl|rfl
  .exact af hz
  .exact af hTI
  .exact af O
  .obtain⟨o,e,_⟩:=h1;exact af e
  .obtain⟨o,e,_⟩:=h2;exact af e
  .obtain⟨o,e,_⟩:=J;exact af e
  .obtain⟨o,e,_⟩:=B;exact af e
 refine ae ⟨ce PySem.F.plain_extend_loop _,V9 (base:=s.heap.objs.size+1) (A:=A.in1) (xs:=xs) (ys:=ys) hh D .none (λc V=>?_) (λV=>eG _ (lt _ V)) hn _ 0 _ #[] rfl (cg _) ⟨Z _ _ hTI,h1.at λo e=>Z _ o e,h2.at λo e=>Z _ o e,?_,?_,.inl ⟨rfl,Z _ _ hz,t,q0,Z _ _ O⟩,by rw[X];exact aB _,rfl,λj G=>absurd G (Nat.not_lt_zero _),λj j' c e=>by simp at e,⟨_,S⟩⟩ λh' P H f1 f2 f3 I=>?_⟩
 .have K:c∈[z,k,m,i1,i2,l1,l2]\/c=s.heap.objs.size:=by
   simp only[aJ,cV,or_false]at V ⊢;rcases V with h|h|h|h|h|h|h|h<;>simp[h]
  rcases K with h|h
  .exact gR (lt c h)
  .rw[h];exact fU _
 .obtain⟨o,L,r⟩:=J;exact⟨o,Z _ _ L,r⟩
 .obtain⟨o,L,r⟩:=B;exact⟨o,Z _ _ L,r⟩
 .obtain⟨c,I⟩:=I;refine⟨rfl,hQ h' P c (λd o hd e=>H d o (λq=>?_) (Z d o e)) f1 f2 f3 I⟩;simp only[aJ,cV,or_false]at q hd;rcases q with q|q|q|q|q
  .exact hd (.inl q)
  .exact hd (.inr (.inl q))
  .exact hd (.inr (.inr (.inl q)))
  .exact hd (.inr (.inr (.inr q)))
  .exact old d o e q
end
end XK
namespace XK
open L2 My D3
def Rr (I:L2.Inv c m σ H s) (k:∀b u,s.heap.get? b=some u->r.get? b=some u) (B:∀b,b<s.heap.objs.size->H' b=H b) (hok:HOk c.prog c.w H' r) :
 L2.Inv c m σ H' {s with heap:=r,toks:=t'}:=I.un {
 keep:=λb u q _ _ _=>k b u q
 slot:=λb u q _ _ _=>⟨u.slots,k b u q⟩
 free:=λb u q n _=>by rwa[B b (af q)]
 there:=λb u q _=>⟨u,k b u q⟩
 tups:=λb xs q=>by rwa[B b (I.hok.lt q)]
 frzs:=λb u xs q=>by rwa[B b (I.hok.lt q)]
 tbls:=λb q p e=>by rw[B b (I.hok.lt e)];exact e} hok
section
variable{a b:Expr}{f g:FE}
end
end XK
namespace XK
section
variable{prog:eS}{A:eW}{R:Result->eM->Prop}{I:Addr}{fp wr:List Addr}{P:Nat->Value->Prop}{St:Nat->fF->Prop}{kw:List (Str×Value)}
end
section
variable{prog:eS}{A:eW}{E:Value->eM->Prop}{s:eM}
end
end XK
namespace XK
open L2 My D3
section
variable{z:Expr}{fa:FA}{fz:FE}
variable{a:Expr}{f:FE}{ta:TE}
end
end XK
namespace XK
open L2 My D3
section
variable{H:Hp}
end
section
variable{k1 k2:Expr}{f f1 f2:FE}
end
end XK
namespace XK
open L2 My D3
section
end
end XK
variable{S:List (List Int)}
namespace XT
open L2 My D3 XK
def dtI(S:List (List Int)):List (List Key×V):=S.map λk=>(k.map .inl,.bl true)
theorem Ih:∀{l:List D}{k:List Int},dH l=some k->tkK l=some (k.map .inl)
 |[],k,h=>by cases h;rfl
 |d::l,k,h=>by
  cases d with
  |int i=>
   unfold dH at h
   cases e:dH l with
   |none=>rw[e]at h;cases h
   |some r=>
    rw[e]at h
    cases h;rw[tkK,Ih e];rfl
  |_=>unfold dH at h;cases h
theorem Rt:∀{kvs:List (D×D)}{S:List (List Int)},tsD kvs=some S->tkD kvs=some (dtI S)
 |[],S,h=>by cases h;rfl
 | (a,b)::r,S,h=>by
  unfold tsD at h;split at h
  .next e=>cases e
  .next l Z e=>
   cases e;refine D3.ex1 (bind1 h) λk e1 e2=>?_
   cases e3:tsD r with
   |none=>rw[e3]at e2;cases e2
   |some Y=>
    rw[e3]at e2
    cases e2;rw[tkD,Ih e1,Rt e3];rfl
  .cases h
def Kv (h:tsD kvs=some S) (B:S≠[]):kvs≠[]:=λz=>by
 subst z
 cases h;exact B rfl
theorem yr:∀{kvs:List (D×D)}{S:List (List Int)},tsD kvs=some S->J7 kvs=true
 |[],_,_=>rfl
 | (a,b)::r,S,h=>by
  unfold tsD at h;split at h
  .next e=>cases e
  .next e=>
   cases e
   cases e3:tsD r with
   |none=>simp[e3]at h
   |some S=>exact(show J7 r=true from yr e3)
  .cases h
theorem Bj (h:tsD kvs=some S) (B:S≠[]):dh0 kvs = .dT (dtI S):=by
 have:=Kv h B
 cases kvs with
 |nil=>exact absurd rfl this
 |cons q r=>
  unfold dh0;dsimp only;rw[Rt h]
theorem Bk : ∀{xs:List V}{l:List D}{k:List Int},RAs K ok pl H xs l->dH l=some k->xs=(k.map fe).map kV
 |_,_,k,.nil,h=>by cases h;rfl
 |_,_,k,.cons (d:=d) a q,h=>by
  cases d with
  |int i=>
   unfold dH at h
   cases e:dH _ with
   |none=>rw[e]at h;cases h
   |some r=>
    rw[e]at h
    cases h;rw[a.intE,Bk q e];rfl
  |_=>unfold dH at h;cases h
theorem uG {k:List Int} (e:Bf y=some k) (r:RA K ok pl H v y):∃b,v = .ref b/\H b=some (.tup ((k.map fe).map kV)):=by
 cases y with
 |tuple l=>
  obtain⟨b,xs,rfl,h1,h2⟩:=r.tupE0;rw[<-Bk h2 e];exact⟨b,rfl,h1⟩
 |_=>cases e
theorem V_ {x:D} (e:Ri x=some S) (B:S≠[]) (r:RA K ok pl H v x):∃a,v = .ref a/\L2.Rd H a (.dT (dtI S)):=by
 cases x with
 |dict kvs=>
  obtain⟨a,rfl,h⟩:=r.dicE (yr e);rw[Bj e B]at h;exact⟨a,rfl,h⟩
 |_=>cases e
theorem zN:∀{k B:List Int},k.map (fe:Int->Key)=B.map fe->k=B
 |[],[],_=>rfl
 |[],_::_,h=>by cases h
 |_::_,[],h=>by cases h
 |a::k,b::B,h=>by
  rw[aG,aG]at h;injection h with h1 h2
  injection h1 with h1
  rw[h1,zN h2]
def Ru(S:List (List Int))(k:List Int):putK (dtI S) (k.map fe) (.bl true)=dtI (jg S k):=by
 unfold putK jg dtI;have e:((S.map λk=>((k.map fe,V.bl true):List Key×V)).any λq=>decide (q.1=k.map fe))=decide (k∈S):=by
  induction S with
  |nil=>rfl
  |cons q S Z=>
   rw[aG,nH,Z];by_cases h:q=k
   .subst h;simp
   .have h2:¬k=q:=λz=>h z.symm
    have Y:¬q.map (fe:Int->Key)=k.map fe:=λz=>h (zN z)
    simp[h2,Y]
 rw[e];by_cases h:k∈S
 .rw[dTr h,if_pos rfl,if_pos h,cX];refine dX λq _=>?_
  show(if q.map fe=k.map fe then(q.map fe,V.bl true)else(q.map fe,V.bl true))=_;split<;>rfl
 .rw[dFa h,if_neg bA,if_neg h,dJ];rfl
section
theorem Rv (R:Rel K fl G ow σ H δ) (O:fl[i]? = some .N) (hx:aj i δ=some c) (B:Ri c=some S) (hS:S≠[]) :
 ∃a,σ[i]? = some (some (.ref a))/\H a=some (.dT (dtI S))/\∀H',Same H H'->∀J,J≠[]->∃Y,Rel K fl G Y σ (upd H' a (.dT (dtI J))) (δ.set i (some (.d (dsT J)))):=by
 have e:=kW hx;have hi:i<δ.length:=by
  rcases dB i δ.length with z|z
  .exact z
  .rw[bx z]at e;cases e
 obtain⟨v,h1,h2,U⟩:=R.nr i c (by rw[O];rfl) e;generalize W:ow.n i=as at h2 U
 cases h2 with
 |dic ha V=>
  rename_i a u kvs;rw[V.old (yr B)]at ha;have Z:=ha;rw[Bj B hS]at Z;refine⟨a,h1,Z,λH' s J X=>?_⟩;refine(R.grow s).mutN (as:=[a]) O hi (by rw[W];exact gU _) (s _ _ ha) h1 ?_ (λb T=>by rwa[W]) (bY.mpr ⟨cV,.nil⟩);refine .dic bR (.inl ⟨yr (wL J),?_⟩);rw[Bj (wL J) X]
 |non=>cases B
 |bl _=>cases B
 |int _=>cases B
 |str _=>cases B
 |lst _ _=>cases B
 |tup _ _=>cases B
end
def Yh:V->V->V->Hp->(Hp->Prop)->Prop:=λo i v H Q=>∃p kvs k b,o = .ref p/\i = .ref b/\H p=some (.dT kvs)/\H b=some (.tup (lC kV k))/\kvs.length<sizeLine/\Q (upd H p (.dT (putK kvs k v)))
section
variable{a b c:Expr}{f fa:FE}
def Rw(hu:X.A.units+1<cLine):U7 X Yh:=by
 intro pins s σ H o i v R P u Q I Y W Z h;obtain⟨p,kvs,k,b,rfl,rfl,V,T,U,q⟩:=h
 cases Y;exact DK hu I (Ks.t V T U) W Z λs' S=>⟨_,S,q⟩
end
end XT
namespace XT
open L2 My D3 XK
end XT
namespace XV
open L2 My D3
section
end
end XV
namespace XO
open L2 My D3
def nin(Z:List Addr):Ok:=λa=>a∉Z
def ay0(K:PySem.W.Frag)(fl:List Fl)(g:Nat)(G:Gh)(Dn:Ends):Oc->Prop
 | .ex _ _ d=>∀v H',Same G.HF H'->RA K (nin (G.pn g)) true H' v d->Dn.rt v H'
 | .rt _=>False
 |o=>Fb K fl G Dn o
def Go(f:FS):Prop:=∀δ o,f δ=some o->(∀d,o ≠ .rt d)/\∀c x d,o ≠ .ex c x d
section
variable{g:Nat}{st:gv}{c:Expr}{fs gs:FS}{f:FE}
def Wa : Go (bN i B):=λδ o h=>by
 unfold bN ag6 at h;split at h
 .cases e:B δ with
  |none=>rw[e]at h;cases h
  |some d=>rw[e]at h;cases h;exact⟨λ_ z=>(by cases z),λ_ _ _ z=>(by cases z)⟩
 .cases h
end
section
end
section
variable{st:gv}{k:Nat}{fs:FS}
end
section
variable{F:List D->Option D}{fa:FA}
end
end XO
namespace XH
open L2 My D3 XO
abbrev Ee:=Gh->(V->Hp->Prop)->D->Prop
def as9(K:PySem.W.Frag)(fl:List Fl)(E:Ee)(G:Gh)(Dn:Ends):Oc->Prop
 | .ex _ _ d=>E G Dn.rt d
 | .rt _=>False
 |o=>Fb K fl G Dn o
def ai3(K:PySem.W.Frag)(fl:List Fl)(E:Ee)(f:FS):TS:=λDn σ H=>∃G ow δ o,Rel K fl G ow σ H δ/\f δ=some o/\as9 K fl E G Dn o
abbrev DQ1(X:Cx)(fl:List Fl)(E:Ee)(s:gv)(f:FS):Prop:=PS X s (ai3 X.K fl E f)
abbrev DQs(X:Cx)(fl:List Fl)(E:Ee)(s:List gv)(f:FS):Prop:=PSs X s (ai3 X.K fl E f)
section
variable{E:Ee}{st:gv}{c:Expr}{fs gs:FS}{f:FE}
theorem ai4(h:DS1 X fl st fs)(B:Go fs):DQ1 X fl E st fs:=PS.imp h λDn σ H h=>by
 refine D3.ex4 h λG ow δ o R Z q=>?_
 obtain⟨n1,n2⟩:=B δ o Z;refine⟨G,ow,δ,o,R,Z,?_⟩
 cases o with
 |nx _=>exact q
 |bk _=>exact q
 |ct _=>exact q
 |rt d=>exact absurd rfl (n1 d)
 |ex c x d=>exact absurd rfl (n2 c x d)
theorem Bm(h1:DQ1 X fl E st fs)(h2:DQs X fl E sts gs):DQs X fl E (st::sts) (bM fs gs):=PSs.imp (G4 h1 h2) λDn σ H h=>by
 refine D3.ex4 h λG ow δ o R W q=>?_
 refine D3.ex1 (bind1 W) λY e1 e2=>?_
 refine⟨G,ow,δ,Y,R,e1,?_⟩
 cases Y with
 |nx δ'=>exact λZ σ' H' R'=>⟨G,Z,δ',o,R',e2,q⟩
 |rt d=>cases e2;exact q
 |bk d=>cases e2;exact q
 |ct d=>cases e2;exact q
 |ex c f v=>cases e2;exact q
def Ms(h1:DQ1 X fl E st fs):DQs X fl E [st] fs:=PSs.imp (Lh h1) λ_ _ _ h=>h
def Wb:DQs X fl E [] cZ:=PSs.imp Lg λDn σ H h=>by
 refine D3.ex4 h λG ow δ o R Z q=>?_
 cases Z;exact q ow σ H R
theorem ai5(B:DT X fl c ft)(h1:DQs X fl E body fs)(h2:DQs X fl E orelse gs):DQ1 X fl E (.If c body orelse pos) (sIf ft fs gs):=PS.imp (X3 B h1 h2) λDn σ H h=>by
 refine D3.ex4 h λG ow δ o R Z q=>?_
 refine D3.ex1 (bind1 Z) λt e1 e2=>?_
 refine⟨G,ow,δ,t,R,e1,λH' s=>?_⟩
 cases t with
 |true=>exact Af ⟨G,ow,δ,o,R.grow s,e2,q⟩
 |false=>exact Ae ⟨G,ow,δ,o,R.grow s,e2,q⟩
end
section
variable{f:FE}
end
section
end
section
variable{st:gv}{k:Nat}{fs:FS}
end
section
variable{e0 e1 e3:Expr}{f0 f1 f3:FE}{F:List D->Option D}
end
def ET(K:PySem.W.Frag):Ee:=λG rt d=>∀v H' as,Same G.H0 H'->RT K H' v d as->as.Nodup->(∀a∈as,G.H0 a=none)->rt v H'
def spT(K:PySem.W.Frag)(F:List D->Option D):Sp:=λvs H Q _=>∃ds d,(Tb H/\RAs K ok1 true H vs ds)/\F ds=some d/\∀v H' as,Same H H'->RT K H' v d as->as.Nodup->(∀a∈as,H a=none)->Q v H'
section
variable{H:Hp}
end
section
variable{e1 e3:Expr}{f1 f3:FE}
end
section
variable{st:gv}{k:Nat}{fs:FS}
end
section
variable{F:List D->Option D}{fa:FA}
def Bo(h:Has X.prog X.w X.K X.mg X.base n x ps (spT X.K F))(J:Room n X.A)(ha:DB X fl .P (e::es) fa)(O:Gl X x:=by rfl)(D:(x==("__debug__":Str))=false:=by decide)
 (he:starEach (e::es) X.env=(false,eval e X.env)::starEach es X.env:=by exact mU rfl) (B:(backTo pos (starEach es X.env)).any (·.1)=false:=by exact Lz rfl) :
 DE X fl .T (.Call (.Name x p) (e::es) [] pos) (dCall F fa):=PE.imp (Ag h J ha O D he B) λσ H Q h=>by
 refine D3.ex4 h λG ow δ d R W q=>?_
 refine D3.ex1 (bind1 W) λds e1 e2=>?_
 refine⟨G,ow,δ,ds,R,e1,λvs H' s r=>?_⟩;show spT X.K F (vs++[]) H' Q E0;rw[cI];exact⟨ds,d,⟨R.tb.same s,r⟩,e2,λv H2 as s2 Y nd Z=>q v H2 (s.trans s2) ⟨as,Y,nd,λa ha=>s.free (Z a ha)⟩⟩
end
end XH
namespace XB
open L2 My D3 XK
section
end
section
variable{a b c:Expr}{f fa:FE}
end
end XB
namespace XB
open L2 My D3 XK
section
def FN(B:X.calm=true):m7 X (.builtin "sorted") (λxs H Q=>∃(p:Addr)(ks:List (Key×V))(is:List Int),xs=[.ref p]/\L2.Rd H p (.dK ks)/\ks.map (·.1)=is.map fe/\is.length<64/\∀l,H l=none->Q (.ref l) (upd H l (.lst ((EY is).map V.int)))):=by
 intro pins s σ H xs us Q I r h;obtain⟨p,ks,is,rfl,F,d,U,q⟩:=h;obtain⟨u,rfl,K⟩:=vals1 r
 cases K;obtain⟨_,hd,vs,rel,z⟩:=wM I.hok F;obtain⟨ep,N⟩:=z.dictAt;have M:vs.map (·.1)=is.map fe:=by rwa[<-rel.keys]
 have hlen:vs.length=is.length:=by
  have:=congrArg nQ M;rwa[aq,aq]at this
 refine bb eg dv dy (args_sorted1 _) ?_;unfold g9.«sorted»;refine aa (m:=checkCount "sorted" 1 1 _) (ae ?_);refine aa (PySem.W.kdu_collect (A:=X.A.in1) (PySem.W.kdl_dict (knd:=dh X.prog X.w) (kvs:=vs) (ep:=ep) hd) (I.ok.hd B) N (by rw[hlen];exact aV (cG U) (by decide)) λh' tk acc E Z=>?_);have P:acc.toList.length=is.length:=by rw[bh,Z.1,hlen]
 have C:=Mr _ _ P λj v R=>by
  obtain⟨k,x,O,S⟩:=Z.2 j v (by rw[<-cj];exact R);have e1:(vs.map (·.1))[j]? = some k:=by rw[aW,O];rfl
  rw[M,aW]at e1
  cases e2:is[j]? with
  |none=>rw[e2]at e1;cases e1
  |some i=>
   rw[e2]at e1;have e3:k=fe i:=by
    cases e1;rfl
   subst e3;rw[JT]at S;obtain⟨t,rfl⟩:∃t,v=hJ i t:=Value.isInt_shape S;exact⟨i,t,rfl,rfl⟩
 have L:L2.Inv X pins σ H {s with heap:=h',toks:=tk}:=I.kept E;refine aa (bv ?_ (by rw[P];exact aV (cG U) (by decide)));have Y:(h'.push (seqObj "list" acc.toList.toArray 0)).get? h'.objs.size=some (seqObj "list" acc.toList.toArray 0):=ag _ rfl;refine aa (ap (ar c7 ⟨_,Y,rfl⟩ cy (list_sort_tree Y C (by rwa[P]) λout J g n y=>⟨_,rfl,?_⟩) (eD _)));refine ae ⟨_,rfl,?_⟩;obtain rfl:=yg (n.trans (rF _).symm) y (tX _);obtain⟨e,D⟩:=sortedHeap_at (out:=out) Y;have hn:=L.hok.fresh (aB _);have G:(EY is).length=is.length:=(rF _).length_eq;have f:=L.laid (h':=sortedHeap (h'.push (seqObj "list" acc.toList.toArray 0)) h'.objs.size acc.toList out) (t':=tk) (a:=h'.objs.size) (o:=.lst ((EY is).map V.int)) (λb u e=>by
  have T:=af e;rw[eB (aR T) (by rw[cA];exact gR T)];exact ad _ e) (aB _)
  ⟨by rw[aq,G];exact aV (cG U) (by decide),out.toList,e,D3.o_ g,by simpa[seqObj]using D⟩
 exact⟨.ref _,_,f,rfl,q _ hn⟩
end
end XB
namespace XD
open L2 My D3 XK
section
variable{a b c ve:Expr}{f fa fv:FE}
end
section
end
section
variable{σ:L2.St}{H:Hp}{s:eM}{kvs:List (Key×V)}{k:Key}{z:V}{r:Value}{A:eW}{E:Value->eM->Prop}
end
section
variable{o f:Expr}{td ty tx:TE}
end
section
variable{ve:Expr}{fv:FE}
def set_same(h:δ[i]? = some (some (.d y))):δ.set i (some (.d y))=δ:=by
 apply dY;intro j;rw[mF];split
 .next z=>
  subst z;split
  .exact h.symm
  .next z=>rw[bx (iG z)]at h;cases h
 .rfl
end
end XD
namespace TD
section
variable{prog:eS}{A:eW}{E:Value->eM->Prop}{s:eM}{d it:Addr}{es:Array DictEntry}{ep:Nat}
def yt(h:fF)(d:Addr)(es:Array DictEntry)(ep:Nat):Prop:=∃o,h.get? d=some o/\o.ExactDict/\o.data = .dict es ep
def yt.typ(m:yt s.heap d es ep):s.TypeIs (.ref d) "dict" := let⟨o,h1,h2,_⟩:=m;⟨o,h1,h2.1⟩
def yt.kept {h':fF}(m:yt h d es ep) (k:∀o,h.get? d=some o->h'.get? d=some o):yt h' d es ep:=let⟨o,h1,r⟩:=m;⟨o,k o h1,r⟩
def Rx (lo:(d==sysModules)=false) (m:yt s.heap d es ep) (q:c (.ref s.heap.objs.size) {s with heap:=s.heap.push {cls:=.type "dict_keyiterator", data:=.fields #[.ref d,.int 0 0,.int es.size 0,.int ep 0]} }) :
 wpAny (model prog w) A (pyIter (.ref d)) c E s:=by
 obtain⟨o,h1,h2,Z⟩:=id m;refine wpAny_pyIter_slot m.typ F.slot_dict_iter (ar F.slot_dict_iter m.typ F.entry_dict_iter ?_ (F.args_dict_iter_1 _));unfold g9.«dict.__iter__» Builtin.Dict.dictSlotNone;refine aa (aa (cv m.typ (ae (a:=eQ d) ?_)));show wpAny _ _ (Builtin.Dict.showsAll d >>= _) _ _ s;unfold Builtin.Dict.showsAll;rw[if_neg (by rw[lo];exact bA)];refine aa (ae (aa (br h1 Z (aa (d5 h1 Z (aa (ax (ae ⟨_,rfl, "dict_keyiterator", _,⟨_,ag _ rfl,rfl⟩,F.slot_dict_keyiterator_next.lookup,?_⟩))))))));simpa[rawInt]using q
def Ry {e:DictEntry}(g:s.heap.IsKeyIter it d i es.size ep) (m:yt s.heap d es ep) (B:es[i]? = some e)
 (q:∀h',h'.IsKeyIter it d (i+1) es.size ep->gf it s.heap h'->c (some e.key) {s with heap:=h'}):wpAny (model prog w) A (pyNext (.ref it)) c E s:=by
 obtain⟨o,Z,X,hd⟩:=id g;obtain⟨od,h1,h2,Y⟩:=id m;have ty:=g.typeIs;refine aa (bz (av (name:=fA "__next__") ty a_ (ar a_ ty dt ?_ (de _))));refine aa (ae (aa (aa ?_)))
 first|refine aa (a8 ty (ae (aa (c0 Z hd ?_))))|refine aa (bo ty (ae (aa (c0 Z hd ?_))))
 simp only[show hW "dict_keyiterator"=false by decide,fL,if_false];show wpAny _ _ (if(eQ d==fy)=true then _ else _) _ _ s;rw[if_neg (show ¬((eQ d==fy)=true)from bA)];refine aa (ae (aa (br h1 Y ?_)));rw[if_neg (by simp)];refine aa (ae (aa (d5 h1 Y ?_)));rw[if_neg (by simp)];refine ae ?_;simp only[show ¬((i:Int)<0)from by lia,if_false,fY,B];refine aa ?_
 first|refine aa (a8 ty (ae (aa (cw ty ?_))))|refine aa (bo ty (ae (aa (cw ty ?_))))
 show wpAny _ _ (setField (.ref it) 1 (rawInt ((i:Int)+1)) >>= _) _ _ s;refine aa (cS Z hd (by simp) ?_);have g':(s.heap.update it (Obj.mapFields (·.setIfInBounds 1 (rawInt ((i:Int)+1))))).IsKeyIter it d (i+1) es.size ep:=
  ⟨_,az _ Z (eH (bP hd _)),(Obj.cls_mapFields ..).trans X,by rw[bP hd];simp[rawInt]⟩
 refine aa (ap (aa (cw (s:={s with heap:=s.heap.update it (Obj.mapFields (·.setIfInBounds 1 (rawInt ((i:Int)+1))))}) g'.typeIs ?_)));exact ae (ae ⟨_,rfl,ae (q _ g' (gq ..))⟩)
def Rz (D:A.handled=none) (g:s.heap.IsKeyIter it d i es.size ep) (m:yt s.heap d es ep) (B:es[i]? = none)
 (q:∀h',Heap.ExtBut it s.heap h'->c none {s with heap:=h'}):wpAny (model prog w) A (pyNext (.ref it)) c E s:=by
 obtain⟨o,Z,X,hd⟩:=id g;obtain⟨od,h1,h2,Y⟩:=id m;have ty:=g.typeIs;refine aa (bz (av (name:=fA "__next__") ty a_ (ar a_ ty dt ?_ (de _))));refine aa (ae (aa (aa ?_)))
 first|refine aa (a8 ty (ae (aa (c0 Z hd ?_))))|refine aa (bo ty (ae (aa (c0 Z hd ?_))))
 simp only[show hW "dict_keyiterator"=false by decide,fL,if_false];show wpAny _ _ (if(eQ d==fy)=true then _ else _) _ _ s;rw[if_neg (show ¬((eQ d==fy)=true)from bA)];refine aa (ae (aa (br h1 Y ?_)));rw[if_neg (by simp)];refine aa (ae (aa (d5 h1 Y ?_)));rw[if_neg (by simp)];refine ae ?_;simp only[show ¬((i:Int)<0)from by lia,if_false,fY,B];refine aa ?_
 first|refine aa (a8 ty (ae ?_))|refine aa (bo ty (ae ?_))
 refine aa (m:=setField (.ref it) 0 .none) (cS Z hd (by simp) ?_);refine aa (m:=newExc (.type "StopIteration") []) ?_;simp only[newExc,newTuple];refine aa (ax (aa (m:=firstArgMember _ _) (wpAny_of_eq (a:=fy) (by first|rfl|(simp only[firstArgMember];rfl)) (ax ?_ (by size_fits)))) (by size_fits));simp only[raiseNew];refine aa (wpAny_handled ?_);rw[show A.in1.handled=none from D];refine aa (ae (wpAny_throw ?_));refine aa (dP (b:=true) ⟨_,ag _ rfl,rfl⟩ eC (ae ?_));exact q _ (((gq ..).extBut.push _).push _)
theorem ai6(D:A.handled=none)(I d:Addr)(B:d≠I)(es:Array DictEntry)(ep:Nat):Walks prog w A I [I,d] [I] es.size (λi v=>∃e,es[i]? = some e/\v=e.key) (λi h=>h.IsKeyIter I d i es.size ep/\yt h d es ep) where
 sub:=λb Z=>by simp at Z;simp[Z]
 frame:=λ_ _ _ st X=>⟨st.1.at λo e=>X I (by simp) o e,st.2.kept λo e=>X d (by simp) o e⟩
 item:=λi s Q E hi st Y=>Ry (e:=es[i]) st.1 st.2 (by simp[hi]) λh' g hs=>Y _ h' s.toks ⟨es[i],by simp[hi],rfl⟩ ⟨g,st.2.kept λo e=>hs.extBut d o B e⟩ λb o Z e=>hs.extBut b o (λh=>Z (by simp[h])) e
 done:=λs Q E st Y=>Rz D st.1 st.2 (by simp) λh' W=>Y h' s.toks λb o Z e=>W b o (λh=>Z (by simp[h])) e
 self:=λ_ _ _ _ st Y=>wpAny_pyIter_keyiter st.1 Y
theorem Wc(lo:(d==sysModules)=false):W.KdlSrc prog w "dict" d d es.size (λi v=>∃e,es[i]? = some e/\v=e.key) (λh=>yt h d es ep) where
 type:=λ_ m=>m.typ
 there:=λ_ m=>let⟨_,h1,_⟩:=m;⟨af h1,af h1⟩
 keep:=λ_ _ m Y=>m.kept λo e=>Y d (.inl rfl) o e
 notList:=by decide
 notTuple:=by decide
 hint:=λ_ _ _ _ m Z=>W.kdl_hint_dict m.typ Z
 iter:=λA s X m=>⟨_,_,(λ_ _ q=>Rx lo m q),ai6 X _ d (let⟨_,h1,_⟩:=m;aR (af h1)) es ep,⟨⟨_,ag _ rfl,rfl,rfl⟩,m.kept λo e=>ad _ e⟩⟩
def Wd (lo:(d==sysModules)=false) (m:yt s.heap d es ep) (B:(es.size:Int)<2^63) (q:∀t tk,c (.int es.size t) {s with toks:=tk}):wpAny (model prog w) A (call (.builtin "len") [.ref d]) c E s:=by
 obtain⟨o,h1,h2,Z⟩:=id m;refine bb kind_len plain_len entry_len (args_len1 _) ?_;unfold g9.«len»;refine aa (m:=oneArg "len" _) (ae (aa (m:=callSpecial? (.ref d) (fA "__len__")) (av (name:=fA "__len__") m.typ F.slot_dict_len (ar F.slot_dict_len m.typ F.entry_dict_len ?_ (F.args_dict_len_1 _)))));refine aa (m:=dictSize d) ?_;refine aa (br h1 Z (ae (aa (m:=Builtin.Dict.pendingCount d) (wpAny_pendingCount_other lo ?_))));refine aa (wpAny_mkInt (ae ⟨_,rfl,?_⟩));rw[kh];refine aa (ap (ae (aa (wpAny_letGo ?_))));rw[if_neg (by lia)];rw[if_neg (by lia)];exact aa (wpAny_mkInt (ae ⟨_,rfl,q _ _⟩))
end
section
variable{prog:eS}{K:Type}[DecidableEq K]{knd:HeapKind prog w K}{A:eW}{E:Value->eM->Prop}{s:eM}{d a:Addr}{xs:List (K×Addr×Value)}{k:K}{v:Value}
def RB (hu:knd.room A.in1) (B:knd.is s.heap k a) (lo:(d==sysModules)=false) (m:s.heap.DictOfH knd d xs) (hz:xs.length<=sizeLine)
 (h1:∀p tk,atKey xs k=some p->c p.2 {s with toks:=tk}) (h2:∀h' tk,atKey xs k=none->h'.DictOfH knd d (xs++[(k,a,v)])->gf d s.heap h'->c v {s with heap:=h',toks:=tk}) :
 wpAny (model prog w) A (call (.builtin "dict.setdefault") [.ref d,.ref a,v]) c E s:=by
 have ty:=m.typeIs;obtain⟨o,es,ep,Y,P,hd,U,V,hn⟩:=m;refine ar F.slot_dict_setdefault ty F.entry_dict_setdefault ?_ (F.args_dict_setdefault_3 _ _ _);unfold g9.«dict.setdefault» Builtin.Dict.keyAndDefault;refine aa (aa (cv ty (ae (a:=(d,eQ a,some v)) ?_)));show wpAny _ _ (if(d==sysModules)=true then _ else(dictSetDefault d (.ref a) v >>= _)) _ _ s;rw[if_neg (by rw[lo];exact bA)];refine aa ?_;unfold dictSetDefault
 try with_reducible refine ap ?_
 refine aa (knd.pyHash hu B (aa (wpAny_dictFind_heap (s:={s with toks:=s.toks+knd.draws k}) hu B Y hd U V hn (λW=>?_) λj p T=>?_)))
 .have S:=atKey_none_of_get W;have X:=not_mem_keys_of_get W;refine aa (a9 (aa (wpAny_updateDictKeys (hz:=by have e:=size_of_entries U;lia) (s:={s with toks:=s.toks+knd.draws k}) Y hd (ae (ae ⟨_,rfl,h2 _ _ S ⟨_,_,ep+1,az _ Y (Obj.isFreed_of_dict (eK hd _)),P.mapDictKeys _,eK hd _,?_,?_,?_⟩ (gq ..)⟩)))))
  .simp[U,entryOfKey]
  .intro x Z;rcases bW.mp Z with Z|Z
   .exact knd.keeps (V x Z) Y hd (.update ..)
   .rw[aL.mp Z];exact knd.keeps B Y hd (.update ..)
  .rw[dJ,eZ];exact⟨hn,by simp,λx Z y R=>by
    rw[show y=k by simpa using R];exact λe=>X (e▸Z)⟩
 .refine aa (br (s:={s with toks:=s.toks+knd.draws k}) Y hd ?_);rw[entry_at U j,T];exact aa (a9 (ae (ae ⟨_,rfl,h1 p _ (atKey_of_get hn T)⟩)))
end
end TD
namespace XJ
open L2 My D3 XK XT XD
theorem Ii:∀k:List Int,flats (k.map eP)=true
 |[]=>rfl
 |i::k=>by rw[aG,flats,Ii k];rfl
def Wf(q:List Int×Int):flat (ttV q)=true:=by
 show(flats (q.1.map eP)&&true)=true;rw[Ii];rfl
def tw_ra {q:List Int×Int} (t:TW H v q.1 q.2):RA K ok pl H v (ttV q):=by
 obtain⟨b,c,rfl,h1,h2⟩:=t;exact .tup h1 (.cons (.tup h2 (qt _)) (.cons (.int _) .nil))
def wN(k:List Int):lC kV (k.map fe)=k.map V.int:=by
 rw[cX];rfl
theorem Mt : ∀{xs:List V}{k:List Int},RAs K ok pl H xs (k.map eP)->xs=k.map V.int
 |_,[],.nil=>rfl
 |_,i::k,.cons a q=>by rw[a.intE,Mt q];rfl
theorem ai7 {q:List Int×Int} (r:RA K ok pl H v (ttV q)):TW H v q.1 q.2:=by
 obtain⟨b,xs,rfl,h1,h2⟩:=r.tupE0
 cases h2 with
 |cons W Z=>
 cases Z with
 |cons Z X=>
 cases X;obtain⟨c,ys,rfl,Y,V⟩:=W.tupE0;rw[Mt V]at Y;obtain rfl:=Z.intE;exact⟨b,c,rfl,h1,Y⟩
def Yi (g:DH H c (ttP k)):(k=[]/\c = .dK [])\/∃q ks,c = .dT (q::ks)/\TTs H (q::ks) (ttP k):=by
 rcases g with⟨g1,g2⟩|⟨ks,rfl,g⟩|g
 .cases k with
  |nil=>exact .inl ⟨rfl,g2⟩
  |cons q k=>exact absurd g1 bA
 .cases k with
  |nil=>cases g;exact .inl ⟨rfl,rfl⟩
  |cons q k=>cases g
 .exact .inr g
def Mu {x:D} {S:List Tte} (e:Oz x=some S) (r:RA K ok pl H v x):∃a,v = .ref a/\((S=[]/\L2.Rd H a (.dK []))\/∃q ks,L2.Rd H a (.dT (q::ks))/\TTs H (q::ks) (ttP S)):=by
 obtain rfl:=Fy e;obtain⟨a,u,rfl,h2,g⟩:=RA.dicU (kvs:=ttP S) r;rcases Yi g with⟨h,rfl⟩|⟨q,ks,rfl,t⟩
 .exact⟨a,rfl,.inl ⟨h,h2⟩⟩
 .exact⟨a,rfl,.inr ⟨q,ks,h2,t⟩⟩
theorem FP:∀{S:List Tte}{ks:List (List Key×V)}(k:List Int),TTs H ks (ttP S)->(qW S k=none/\pQ ks (k.map fe)=none)\/∃p v,qW S k=some p/\pQ ks (k.map fe)=some v/\TW H v p.1 p.2
 |[],_,k,h=>by cases h;exact .inl ⟨rfl,rfl⟩
 |q::S,ks,k,h=>by
  obtain⟨v,r,rfl,t,Y⟩:∃v r,ks=(q.1.map fe,v)::r/\TW H v q.2.1 q.2.2/\TTs H r (ttP S):=by
   generalize Z:ttP (q::S)=g at h
   cases h with
   |nil=>cases Z
   |cons t r=>
    rename_i W m z v X T;have Z:(rwD q.1,ttV q.2)::ttP S=_:=Z;injection Z with h1 h2
    injection h1 with h1 U
    have e1:q.1=W:=by
     have:=congrArg (λd=>Bf d) h1;simpa[rwD,Bf,o8]using this
    have e2:q.2=(m,z):=by
     have:=congrArg (λd=>OD d) U;have this:q.2.1=m/\q.2.2=z:=by simpa[ttV,rwD,OD,o8]using this
     exact Prod.ext this.1 this.2
    subst e1;rw[e2];exact⟨v,X,rfl,t,h2▸r⟩
  by_cases e:q.1=k
  .refine .inr ⟨q.2,v,?_,uf (by rw[e]),t⟩;simp[qW,e]
  .rw[ug (λz=>e (zN z))];have:qW (q::S) k=qW S k:=by simp[qW,e]
   rw[this];exact FP k Y
theorem RD (t:TW H v c.1 c.2):∀{S:List Tte}{ks:List (List Key×V)},TTs H ks (ttP S)->TTs H (ks++[(k.map fe,v)]) (ttP (S++[(k,c)])):=by
 intro S ks h;rw[show ttP (S++[(k,c)])=ttP S++[(rwD k,ttV c)]by unfold ttP;rw[dJ];rfl];generalize ttP S=g at h ⊢
 induction h with
 |nil=>exact .cons t .nil
 |cons t' _ Z=>exact .cons t' Z
def Wg (h:TTs H ks (ttP c)):ks.length=c.length:=by
 have:ks.length=(ttP c).length:=by
  generalize ttP c=g at h ⊢
  induction h with
  |nil=>rfl
  |cons _ _ Z=>rw[aX,aX,Z]
 rw[this,ttP,aq]
section
variable{a b:Expr}{fa fv:FE}
theorem Ij(hu:X.A.units+1<cLine)(ha:DE X fl .P a fa)(B:DE X fl .P b fb)(hs:ZG b):DE X fl .FC (.Subscript a b pos) (dOp lR fa fb):=PE.imp (V7 hu ha B hs) λσ H Q h=>by
 refine D3.ex4 h λG ow δ d R O q=>?_
 refine D3.ex2 (Av O) λx y e1 e2 e3=>?_
 refine⟨G,ow,δ,x,R,e1,λv H1 s1 T=>⟨G,ow,δ,y,R.grow s1,e2,λu H2 s2 U=>?_⟩⟩;refine D3.ex1 (bind1 e3) λS K L=>?_
 refine D3.ex1 (bind1 L) λk M Y=>?_
 obtain⟨J,rfl,V⟩:=uG M U;obtain⟨p,rfl,W⟩:=Mu K T
 cases Z:qW S k with
 |none=>rw[Z]at Y;cases Y
 |some z=>
  rw[Z]at Y
  cases Y;rcases W with⟨rfl,_⟩|⟨q1,ks,W,t⟩
  .cases Z
  .have t:=t.imp λ_ _ z=>iI.same s2 z
   rcases FP k t with⟨h1,_⟩|⟨I,w,h1,h2,N⟩
   .rw[h1]at Z;cases Z
   .rw[h1]at Z
    cases Z;exact⟨p,w,rfl,.inr ⟨_,_,J,V8 s2 W,rfl,V,h2.symm⟩,q _ H2 (s1.trans s2) (.inl ⟨Wf z,tw_ra N⟩)⟩
end
section
theorem ZL (R:Rel K fl G ow σ H δ) (Z:fl[i]? = some .N) (hx:aj i δ=some c) (hq:Oz c=some k) :
 ∃a,σ[i]? = some (some (.ref a))/\((k=[]/\H a=some (.dK []))\/∃q ks,H a=some (.dT (q::ks))/\TTs H (q::ks) (ttP k))/\∀H',Same H H'->∀J B Y,TTs H' (J::B) (ttP Y)->∃O,Rel K fl G O σ (upd H' a (.dT (J::B))) (δ.set i (some (.d (dtt Y)))):=by
 have e:=kW hx;have hi:i<δ.length:=by
  rcases dB i δ.length with z|z
  .exact z
  .rw[bx z]at e;cases e
 obtain⟨v,h1,h2,V⟩:=R.nr i c (by rw[Z];rfl) e;generalize W:ow.n i=as at h2 V;obtain rfl:=Fy hq;have h2:=h2
 cases h2 with
 |dic ha X=>
  rename_i a u;have fin:∀H',Same H H'->∀J B Y,TTs H' (J::B) (ttP Y)->∃O,Rel K fl G O σ (upd H' a (.dT (J::B))) (δ.set i (some (.d (dtt Y)))):=λH' s J B Y t'=>by
   have:=X.chg;refine(R.grow s).mutN (as:=[a]) Z hi (by rw[W];exact gU _) (s _ _ ha) h1 ?_ (λb U=>by rwa[W]) (bY.mpr ⟨cV,.nil⟩);exact .dic bR (.inr (.inr ⟨J,B,rfl,t'.imp λ_ _ z=>iI.upd (s _ _ ha) z⟩))
  rcases Yi X with⟨h,rfl⟩|⟨q,ks,rfl,t⟩
  .exact⟨a,h1,.inl ⟨h,ha⟩,fin⟩
  .exact⟨a,h1,.inr ⟨q,ks,ha,t⟩,fin⟩
end
section
variable{σ:L2.St}{H:Hp}{s:eM}{b:Addr}{kvs:List (List Key×V)}{k:List Key}{z:V}{r:Value}{A:eW}{E:Value->eM->Prop}
def RG(I:L2.Inv X pins σ H s)(e:H a=some (.dK [])):L2.Inv X pins σ (upd H a (.dT [])) s:=by
 obtain⟨_,hd,vs,rel,o,es,ep,h1,h2,W,U,Y,V⟩:=Ye I.hok e
 cases rel;have Z:es.toList=[]:=by
  have:=Y.length;exact bJ.mp this
 exact zM (h':=s.heap) (t':=s.toks) I (by rw[e];exact fS) (.refl a s.heap) ⟨o,h1⟩ ⟨cg _,hd,[],.nil,o,es,ep,h1,h2,W,Z,List.nodup_nil⟩
def RJ (hu:A.units+1<cLine) (I:L2.Inv X pins σ H s) (e:H a=some (.dT kvs)) (O:kvs.length<sizeLine) (D:H b=some (.tup (lC kV k))) (J:RelV z r)
 (h1:∀v B s',pQ kvs k=some v->L2.Inv X pins σ H s'->RelV v B->m B s') (h2:∀s',pQ kvs k=none->L2.Inv X pins σ (upd H a (.dT (kvs++[(k,z)]))) s'->m r s') :
 wpAny (model X.prog X.w) A (call (.builtin "dict.setdefault") [.ref a,.ref b,r]) m E s:=by
 obtain⟨P,hd,xs,rel,R⟩:=Yg I.hok e;have V:=(Paired.length rel).symm;refine TD.RB (ba hu) (vM I.hok D) hd R (by rwa[V]) (λp tk Z=>?_) λh' tk Z Y hs=>?_
 .have q:=rel.val k;rw[Z]at q
  cases e1:pQ kvs k with
  |none=>rw[e1]at q;cases q
  |some v=>
   rw[e1]at q;exact h1 v _ _ e1 (I.tok _) q
 .have q:=rel.val k;rw[Z]at q;have e1:pQ kvs k=none:=by
   cases e1:pQ kvs k with
   |none=>rfl
   |some v=>rw[e1]at q;cases q
  obtain⟨o,es,ep,W,g2,g3,T,_,U⟩:=Y;refine h2 _ e1 (zM I (by rw[e];exact fS) hs ⟨o,W⟩ ⟨by rwa[bL],hd,_,KT.keeps (Paired.snoc rel ⟨rfl,D,J⟩) λc ys S=>?_,o,es,ep,W,g2,g3,T,U⟩);rwa[bG (jf S e (λz=>nomatch z))]
end
def ai8(td ty tx:TE):TE:=λσ H Q=>td σ H λx H1=>∃a,x = .ref a/\IsD H1 a/\ty σ H1 λy H2=>tx σ H2 λz Z=>∃k b,y = .ref b/\Z b=some (.tup (lC kV k)) /\
 ((Z a=some (.dK [])/\Q z (upd Z a (.dT [(k,z)])))\/∃kvs,Z a=some (.dT kvs)/\kvs.length<sizeLine/\(∀v,pQ kvs k=some v->Q v Z)/\(pQ kvs k=none->Q z (upd Z a (.dT (kvs++[(k,z)])))))
section
variable{o f:Expr}{td ty tx:TE}
def Wh(hu:X.A.units+1<cLine)(B:PE X o td)(he:PE X e ty)(hf:PE X f tx)(m:M2 X o "setdefault" apos e f cpos):PE X (.Call (.Attribute o "setdefault" apos) [e,f] [] cpos) (ai8 td ty tx):=by
 intro pins s σ H Q I h;refine wpAny_Call_method m.base m.few m.line PySem.F.plainAttrs_dict PySem.F.slot_dict_setdefault PySem.F.type_dict_setdefault (thn (B pins s σ H _ I h) λu s1 ⟨x,H1,O,G,a,ex,d,q1⟩=>?_);subst ex;obtain rfl:u=eQ a:=G;obtain⟨K,L,_⟩:=ZJ O d;refine⟨K,L,?_⟩;rw[m.trees];refine dS rfl (ew (bi (thn (he pins s1 σ H1 _ O q1) λD s2 ⟨y,H2,r,J,q2⟩=>
  bi (thn (hf pins s2 σ H2 _ r q2) λfv s3 ⟨z,N,P,Y,k,b,t,S,T⟩=>bX ?_))))
 subst t;obtain rfl:D=eQ b:=J;rcases T with⟨W,q⟩|⟨kvs,W,C,T,E⟩
 .have Z:=RG P W;have w:upd N a (.dT []) b=some (.tup (lC kV k)):=by
   rwa[bG (jf S W (λz=>nomatch z))]
  exact RJ hu Z bR (show 0<sizeLine by decide) w Y (λv M V l _ _=>by cases l) λV _ R=>by
   rw[Le]at R;exact⟨z,_,R,Y,q⟩
 .exact RJ hu P W C S Y (λv M V l Z U=>⟨v,N,Z,U,T v l⟩) λV l Z=>⟨z,_,Z,Y,E l⟩
end
section
variable{ve:Expr}{fv:FE}
def RK(hu:X.A.units+1<cLine)(B:fl[i]? = some .N)(hk:DE X fl .P ke fk)(hw:DE X fl .P ve fv)(hN:X.N[i]? = some x)(hm:M2 X (.Name x vpos) "setdefault" apos ke ve cpos)(hv:Vis X.env.scope x:=by first|exact fE rfl|exact fg (fE rfl)|exact fg (fg rfl))(hd:(x==("__debug__":Str))=false:=by decide)
 (D:(x==("__classdict__":Str))=false:=by decide) (hs:swapsWith (.Call (.Attribute (.Name x vpos) "setdefault" apos) [ke,ve] [] cpos) none pos.line X.env=pure false:=by rfl) :
 DS1 X fl (.Expr (.Call (.Attribute (.Name x vpos) "setdefault" apos) [ke,ve] [] cpos) pos) (ud i fk fv):=PS.imp (zB (Wh hu (pK hN hv hd D) hk hw hm) hs) λDn σ H s=>by
 refine D3.ex4 s λG ow δ o R W q=>?_
 refine D3.ex1 (bind1 W) λy e1 Q=>?_
 refine D3.ex1 (bind1 Q) λl e2 W=>?_
 refine D3.ex1 (bind1 W) λzz e3 Q=>?_
 refine D3.ex1 (bind1 Q) λS F W=>?_
 refine D3.ex1 (bind1 W) λk m Q=>?_
 refine D3.ex1 (bind1 Q) λT n W=>?_
 by_cases L:S.length<1000000
 case neg=>rw[if_neg L]at W;cases W
 rw[if_pos L]at W
 cases W;obtain⟨p,h1,h2,I⟩:=ZL R B e1 F;have O:IsD H p:=by
  rcases h2 with⟨_,h⟩|⟨_,_,h,_⟩
  .exact .inl ⟨_,.inl h⟩
  .exact .inr ⟨_,.inl h⟩
 refine⟨_,h1,p,rfl,O,G,ow,δ,_,R,e2,λu H1 s1 C=>⟨G,ow,δ,_,R.grow s1,e3,λw H2 s2 J=>?_⟩⟩;obtain⟨b,rfl,r⟩:=uG m C;rw[V5 n]at J;have K:=ai7 J;have Z:=s1.trans s2;refine⟨k.map fe,b,rfl,s2 _ _ r,?_⟩;rcases h2 with⟨rfl,h⟩|⟨q1,ks,h,t⟩
 .refine .inl ⟨Z _ _ h,?_⟩;obtain⟨V,R'⟩:=I H2 Z (k.map fe,w) [] [(k,T)] (.cons K .nil);exact q V σ _ R'
 .have U:TTs H2 (q1::ks) (ttP S):=t.imp λ_ _ z=>iI.same Z z
  refine .inr ⟨q1::ks,Z _ _ h,by rw[Wg t];exact j9 L (by decide),λv Y=>?_,λY=>?_⟩
  .have M:tO S k T=S:=by
    unfold tO;rcases FP k U with⟨_,b⟩|⟨d,E,a,b,_⟩
    .rw[b]at Y;cases Y
    .rw[if_pos (by rw[a];rfl)]
   rw[M]at q;rw[<-Fy F,set_same (kW e1)]at q;exact q ow σ _ (R.grow Z)
  .have M:tO S k T=S++[(k,T)]:=by
    unfold tO;rcases FP k U with⟨a,_⟩|⟨d,E,a,b,_⟩
    .rw[if_neg (by rw[a];simp)]
    .rw[b]at Y;cases Y
   rw[M]at q;obtain⟨V,R'⟩:=I H2 Z q1 (ks++[(k.map fe,w)]) (S++[(k,T)]) (by
    have:=RD (k:=k) K U;rw[List.cons_append]at this;exact this)
   exact q V σ _ R'
end
end XJ
namespace Sq
structure Cq where
 nu:Keyed->Int
 ok:Keyed->Prop
 κ:SortKind
class LtOk (prog:eS) (w:ff) (A:eW) (s:eM) (C:Cq):Prop where
 lt:∀{x y:Keyed}{Q:Bool->eM->Prop}{E:Value->eM->Prop},C.ok x->C.ok y->Q (decide (C.nu x<C.nu y)) s->wpAny (model prog w) A (keyLt' C.κ x.1 y.1) Q E s
noncomputable def KC(C:Cq)(xs:Array Keyed)(i:Nat):Int:=match xs[i]? with
 |some p=>C.nu p
 |none=>0
def STo(C:Cq)(xs:Array Keyed)(k:Nat):Prop:=∀i j,i<=j->j<k->KC C xs i<=KC C xs j
def Oks(C:Cq)(xs:Array Keyed):Prop:=∀p,p∈xs.toList->C.ok p
section
variable{C:Cq}
def K_congr (h:c[i]? = ys[j]?):KC C c i=KC C ys j:=by unfold KC;rw[h]
def K_bubble (hs:B<c.size) (hd:m<=B) (k:Nat) :
 KC C (bubble c B m) k=if k=B-m then KC C c B else if B-m<k/\k<=B then KC C c (k-1)else KC C c k:=by
 have e:=eh hs m hd k;split at e
 .next z=>rw[if_pos z];exact K_congr e
 .next z=>
  rw[if_neg z];split at e
  .next y=>rw[if_pos y];exact K_congr e
  .next y=>rw[if_neg y];exact K_congr e
def K_mirror (B:j<=c.size) (k:Nat) :
 KC C (mirror c i j ((j-i)/2)) k=if i<=k/\k<j then KC C c (i+j-1-k)else KC C c k:=by
 have e:=c9 (i:=i) B k;split at e
 .next z=>rw[if_pos z];exact K_congr e
 .next z=>rw[if_neg z];exact K_congr e
def K_mirror_equal {xs:Array Keyed}(D:j<=xs.size) (B:∀k,i<=k->k<j->KC C xs k=KC C xs (j-1)) (k:Nat):KC C (mirror xs i j ((j-i)/2)) k=KC C xs k:=by
 rw[K_mirror D];split
 .rw[B _ (by lia) (by lia),B k (by lia) (by lia)]
 .rfl
variable{M:Model}{A:eW}{E:Value->eM->Prop}{s:eM}{α:Type}{Q:α->fh->Prop}{st:fh}{x y:StateT fh Sem α}{c:Prop}[Decidable c]
def jR(h:c)(k:wpS M A E s x Q st):wpS M A E s (if c then x else y) Q st:=by rwa[if_pos h]
def jP(h:¬c)(k:wpS M A E s y Q st):wpS M A E s (if c then x else y) Q st:=by rwa[if_neg h]
def Mv(h:wpS M A E s x Q st/\wpS M A E s y Q st):wpS M A E s (if c then x else y) Q st:=by
 split
 .exact h.1
 .exact h.2
def both{P:Nat->Prop}(h:∀g,P g)(u v:Nat):P u/\P v:=⟨h u,h v⟩
end
end Sq
variable{st:fh}
namespace Sq
section
variable{C:Cq}
def wO:Bool->Keyed->Array Keyed->Nat->Nat->Nat->StateT fh Sem (Option Nat):=sortPriv% PySem.Builtin.gallop
noncomputable def bey(left:Bool)(B:Keyed)(arr:Array Keyed)(base i:Nat):StateT fh Sem (Option Bool):=do
 let x <-elem' arr (base+i)
 if left then lt' x B else return(<-lt' B x).map (!·)
section
variable{prog:eS}{A:eW}{E:Value->eM->Prop}{s:eM}[LtOk prog w A s C]
def Bp (J:kindOf st=C.κ) (D:C.ok c) (B:C.ok k) (h:m (some (decide (C.nu c<C.nu k))) st):wpS (model prog w) A E s (lt' c k) m st:=by
 rw[lt'_eq];refine ai (cb ?_);rw[J];exact ai (c_ (bz (LtOk.lt D B ⟨rfl,am h⟩)))
def eE (B:arr[i]? = some c) (h:k c st):wpS (model prog w) A E s (elem' arr i) k st:=by
 rw[elem'_eq,B];exact am h
def Pb(C:Cq)(left:Bool)(B:Keyed)(arr:Array Keyed)(base i:Nat):Bool:=if left then decide ((KC C) arr (base+i)<C.nu B)else !decide (C.nu B<(KC C) arr (base+i))
theorem wQ {Q:Option Bool->fh->Prop} (J:kindOf st=C.κ) (D:C.ok B) (ha:∀p∈arr.toList,C.ok p) (hi:k+i<arr.size) (h:Q (some ((Pb C) c B arr k i)) st):wpS (model prog w) A E s (bey c B arr k i) Q st:=by
 have e:=getElem?_pos arr (k+i) hi;have Z:C.ok arr[k+i]:=ha _ (by simp);have Y:(KC C) arr (k+i)=C.nu arr[k+i]:=by unfold KC;rw[e]
 refine ai (eE e ?_);unfold Pb at h;rw[Y]at h
 cases c with
 |true=>exact Bp J Z D h
 |false=>exact ai (Bp J D Z (am h))
theorem nD {base:Nat}{Q:Option Nat->fh->Prop} (J:kindOf st=C.κ) (D:C.ok B) (ha:∀p∈arr.toList,C.ok p) (hb:base+n<=arr.size) (hh:hint<n)
 (mono:∀i j,i<=j->j<n->(Pb C) r B arr base j=true->(Pb C) r B arr base i=true)
 (h:∀k,k<=n->(∀i,i<k->(Pb C) r B arr base i=true)->(∀i,k<=i->i<n->(Pb C) r B arr base i=false)->Q (some k) st) :
 wpS (model prog w) A E s (wO r B arr base n hint) Q st:=by
 have V:∀i j,i<=j->j<n->(Pb C) r B arr base i=false->(Pb C) r B arr base j=false:=λi j h1 h2 T=>by
  cases e:(Pb C) r B arr base j with
  |false=>rfl
  |true=>rw[mono i j h1 h2 e]at T;cases T
 refine ai (m:=bey r B arr base hint) (wQ J D ha (by lia) ?_);dsimp only
 cases e:(Pb C) r B arr base hint with
 |true=>
  refine jR rfl ?_;refine ai (bj (aS (I:=λx c st'=>st'=st/\∃Y o,c=(none,Y,o)/\Y<o/\x+1<=o/\hint+Y<n/\(Pb C) r B arr base (hint+Y)=true)
   (Q:=λc st'=>st'=st/\∃Y o,c=(none,Y,o)/\Y<o/\hint+Y<n/\(Pb C) r B arr base (hint+Y)=true/\(o≥n-hint\/(hint+o<n/\(Pb C) r B arr base (hint+o)=false))) ?step ?fin ⟨rfl,0,1,rfl,by lia,by lia,by lia,e⟩) ?post)
  case fin=>
   rintro c st' ⟨rfl,Y,o,rfl,g1,g2,g3,W⟩;exact⟨rfl,Y,o,rfl,g1,g3,W,.inl (by lia)⟩
  case step=>
   rintro x c st' _ O ⟨rfl,Y,o,rfl,g1,g2,g3,W⟩;dsimp only;by_cases X:o≥n-hint
   .refine jR X ?_;exact am ⟨rfl,Y,o,rfl,g1,g3,W,.inl X⟩
   .refine jP X ?_;refine ai (wQ J D ha (by lia) ?_)
    cases e2:(Pb C) r B arr base (hint+o)with
    |true=>
     refine jP (by decide) ?_;exact am ⟨rfl,o,2*o+1,rfl,by lia,by lia,by lia,e2⟩
    |false=>
     refine jR (by decide) ?_;exact am ⟨rfl,Y,o,rfl,g1,g3,W,.inr ⟨by lia,e2⟩⟩
  case post=>
   rintro c st' ⟨rfl,Y,o,rfl,g1,g3,W,U⟩;have h1:hint+Y+1<=hint+min o (n-hint):=by lia
   have h2:hint+min o (n-hint)<=n:=by lia
   have T:∀i,i<hint+Y+1->(Pb C) r B arr base i=true:=λi hi=>mono i _ (by lia) g3 W
   have P:∀i,hint+min o (n-hint)<=i->i<n->(Pb C) r B arr base i=false:=λi i1 i2=>by
    rcases U with U|⟨U,M⟩
    .lia
    .exact V _ i (by lia) i2 M
   generalize hint+Y+1=S at h1 T ⊢;generalize hint+min o (n-hint)=R at h1 h2 P ⊢;refine ai (bj (aS (I:=λx c Z=>Z=st'/\∃hi lo,c=(none,lo,hi)/\lo<=hi/\hi<=n/\hi-lo<=n-x/\(∀i,i<lo->(Pb C) r B arr base i=true)/\(∀i,hi<=i->i<n->(Pb C) r B arr base i=false))
    (Q:=λc Z=>Z=st'/\∃hi lo,c=(none,lo,hi)/\hi<=n/\(∀i,i<hi->(Pb C) r B arr base i=true)/\(∀i,hi<=i->i<n->(Pb C) r B arr base i=false)) ?sT ?fT ⟨rfl,R,S,rfl,h1,h2,by lia,T,P⟩) ?pT)
   case fT=>
    rintro c Z ⟨rfl,hi,lo,rfl,g1,g2,g3,W,U⟩;have:lo=hi:=by lia
    subst this;exact⟨rfl,lo,lo,rfl,g2,W,U⟩
   case sT=>
    rintro x c Z _ O ⟨rfl,hi,lo,rfl,g1,g2,g3,W,U⟩;dsimp only;by_cases X:lo≥hi
    .refine jR X ?_;have:lo=hi:=by lia
     subst this;exact am ⟨rfl,lo,lo,rfl,g2,W,U⟩
    .refine jP X ?_;have hm:lo+(hi-lo)/2<hi:=by lia
     refine ai (wQ J D ha (by lia) ?_)
     cases e:(Pb C) r B arr base (lo+(hi-lo)/2)with
     |true=>
      refine jR rfl ?_;exact am ⟨rfl,hi,lo+(hi-lo)/2+1,rfl,by lia,g2,by lia,λi N=>mono i _ (by lia) (by lia) e,U⟩
     |false=>
      refine jP bA ?_;exact am ⟨rfl,lo+(hi-lo)/2,lo,rfl,by lia,by lia,by lia,W,λi i1 i2=>V _ i i1 i2 e⟩
   case pT=>
    rintro c Z ⟨rfl,hi,lo,rfl,g1,g2,g3⟩;exact am (h hi g1 g2 g3)
 |false=>
  refine jP bA ?_;refine ai (bj (aS (I:=λx c st'=>st'=st/\∃Y o,c=(none,Y,o)/\Y<o/\x+1<=o/\Y<=hint/\(Pb C) r B arr base (hint-Y)=false)
   (Q:=λc st'=>st'=st/\∃Y o,c=(none,Y,o)/\Y<o/\Y<=hint/\(Pb C) r B arr base (hint-Y)=false/\(o≥hint+1\/(o<=hint/\(Pb C) r B arr base (hint-o)=true))) ?step2 ?fin2 ⟨rfl,0,1,rfl,by lia,by lia,by lia,e⟩) ?post2)
  case fin2=>
   rintro c st' ⟨rfl,Y,o,rfl,g1,g2,g3,W⟩;exact⟨rfl,Y,o,rfl,g1,g3,W,.inl (by lia)⟩
  case step2=>
   rintro x c st' _ O ⟨rfl,Y,o,rfl,g1,g2,g3,W⟩;by_cases X:o≥hint+1
   .refine jR X ?_;exact am ⟨rfl,Y,o,rfl,g1,g3,W,.inl X⟩
   .refine jP X ?_;refine ai (wQ J D ha (by lia) ?_)
    cases e2:(Pb C) r B arr base (hint-o)with
    |true=>
     refine jR rfl ?_;exact am ⟨rfl,Y,o,rfl,g1,g3,W,.inr ⟨by lia,e2⟩⟩
    |false=>
     refine jP bA ?_;exact am ⟨rfl,o,2*o+1,rfl,by lia,by lia,by lia,e2⟩
  case post2=>
   rintro c st' ⟨rfl,Y,o,rfl,g1,g3,W,U⟩;have h1:hint+1-min o (hint+1)<=hint-Y:=by lia
   have h2:hint-Y<=n:=by lia
   have T:∀i,i<hint+1-min o (hint+1)->(Pb C) r B arr base i=true:=λi hi=>by
    rcases U with U|⟨U,M⟩
    .lia
    .exact mono i _ (by lia) (by lia) M
   have P:=λi i1 i2=>V _ i i1 i2 W
   generalize hint+1-min o (hint+1)=S at h1 T ⊢;generalize hint-Y=R at h1 h2 P ⊢;refine ai (bj (aS (I:=λx c Z=>Z=st'/\∃hi lo,c=(none,lo,hi)/\lo<=hi/\hi<=n/\hi-lo<=n-x/\(∀i,i<lo->(Pb C) r B arr base i=true)/\(∀i,hi<=i->i<n->(Pb C) r B arr base i=false))
    (Q:=λc Z=>Z=st'/\∃hi lo,c=(none,lo,hi)/\hi<=n/\(∀i,i<hi->(Pb C) r B arr base i=true)/\(∀i,hi<=i->i<n->(Pb C) r B arr base i=false)) ?sT ?fT ⟨rfl,R,S,rfl,h1,h2,by lia,T,P⟩) ?pT)
   case fT=>
    rintro c Z ⟨rfl,hi,lo,rfl,g1,g2,g3,W,U⟩;have:lo=hi:=by lia
    subst this;exact⟨rfl,lo,lo,rfl,g2,W,U⟩
   case sT=>
    rintro x c Z _ O ⟨rfl,hi,lo,rfl,g1,g2,g3,W,U⟩;dsimp only;by_cases X:lo≥hi
    .refine jR X ?_;have:lo=hi:=by lia
     subst this;exact am ⟨rfl,lo,lo,rfl,g2,W,U⟩
    .refine jP X ?_;refine ai (wQ J D ha (by lia) ?_)
     cases e:(Pb C) r B arr base (lo+(hi-lo)/2)with
     |true=>
      refine jR rfl ?_;exact am ⟨rfl,hi,lo+(hi-lo)/2+1,rfl,by lia,g2,by lia,λi N=>mono i _ (by lia) (by lia) e,U⟩
     |false=>
      refine jP bA ?_;exact am ⟨rfl,lo+(hi-lo)/2,lo,rfl,by lia,by lia,by lia,W,λi i1 i2=>V _ i i1 i2 e⟩
   case pT=>
    rintro c Z ⟨rfl,hi,lo,rfl,g1,g2,g3⟩;exact am (h hi g1 g2 g3)
end
end
end Sq
namespace Sq
section
variable{C:Cq}
def CJ:Nat->StateT fh Sem Unit:=sortPriv% PySem.Builtin.setMinGallop
abbrev setG(st:fh)(g:Nat):fh:=SortSt.mk' (kindOf st) (arrOf st) (pendingOf st) g (failedOf st)
def RM:Array Keyed->Array Keyed->StateT fh Sem (Array Keyed):=sortPriv% PySem.Builtin.mergeLo
def DN(a b out:Array Keyed)(ia ib:Nat):Array Keyed:=out++a.extract ia a.size++b.extract ib b.size
def Mw(a b out:Array Keyed)(ia ib:Nat):Array Keyed:=out++b.extract ib b.size++a.extract ia a.size
def R(C:Cq)(x y:Keyed):Prop:=C.nu x<=C.nu y
structure MI(C:Cq)(a b out:Array Keyed)(ia ib:Nat):Prop where
 A:(out.toList++a.toList.drop ia).Pairwise (R C)
 B:(out.toList++b.toList.drop ib).Pairwise (R C)
 P:(out.toList++a.toList.drop ia++b.toList.drop ib).Perm (a.toList++b.toList)
section
variable{a b out:Array Keyed}{ia ib:Nat}
def wR{l:List Keyed}(h:i<l.length):l.drop i=l[i]::l.drop (i+1):=iU h
def jF(h:ia<a.size):(KC C) a ia=C.nu (a[ia]):=by unfold KC;rw[getElem?_pos a ia h]
def MI.pushA(h:(MI C) a b out ia ib)(hi:ia<a.size)(B:∀y∈b.toList.drop ib,(R C) a[ia] y):(MI C) a b (out.push a[ia]) (ia+1) ib:=by
 have hd:a.toList.drop ia=a[ia]::a.toList.drop (ia+1):=wR (by simpa using hi);obtain⟨h1,h2,Y⟩:=h;rw[hd]at h1 Y;have e:(out.push a[ia]).toList=out.toList++[a[ia]]:=pZ;refine⟨by rwa[e,aP],?_,by rw[e];simpa using Y⟩;rw[e,aP];obtain⟨p1,p2,p3⟩:=aH.mp h2;obtain⟨q1,q2,X⟩:=aH.mp h1;refine aH.mpr ⟨p1,bI.mpr ⟨B,p2⟩,λx Z y W=>?_⟩;rcases aJ.mp W with rfl|z
 .exact X x Z _ ao
 .exact p3 x Z y z
def MI.pushB(h:(MI C) a b out ia ib)(hi:ib<b.size)(B:∀y∈a.toList.drop ia,(R C) b[ib] y):(MI C) a b (out.push b[ib]) ia (ib+1):=by
 have hd:b.toList.drop ib=b[ib]::b.toList.drop (ib+1):=wR (by simpa using hi);obtain⟨h1,h2,Y⟩:=h;rw[hd]at h2 Y;have e:(out.push b[ib]).toList=out.toList++[b[ib]]:=pZ;refine⟨?_,by rwa[e,aP],?_⟩
 .rw[e,aP];obtain⟨p1,p2,p3⟩:=aH.mp h1;obtain⟨q1,q2,X⟩:=aH.mp h2;refine aH.mpr ⟨p1,bI.mpr ⟨B,p2⟩,λx Z y W=>?_⟩;rcases aJ.mp W with rfl|z
  .exact X x Z _ ao
  .exact p3 x Z y z
 .rw[e];refine gk ?_ Y;rw[aP,aP,aP];exact fR _ (by simpa using(List.perm_middle (a:=b[ib]) (l₁:=a.toList.drop ia) (l₂:=b.toList.drop (ib+1))).symm)
def iy{x:Array Keyed}:(x.extract i j).toList=(x.toList.drop i).take (j-i):=by
 rw[Array.toList_extract,List.extract_eq_take_drop]
def MI.appA(h:(MI C) a b out ia ib) (B:∀x∈(a.toList.drop ia).take k,∀y∈b.toList.drop ib,(R C) x y):(MI C) a b (out++a.extract ia (ia+k)) (ia+k) ib:=by
 have e:(out++a.extract ia (ia+k)).toList=out.toList++(a.toList.drop ia).take k:=by
  rw[cL,iy,rA]
 have d:a.toList.drop ia=(a.toList.drop ia).take k++a.toList.drop (ia+k):=by rw[<-mG,fu]
 obtain⟨h1,h2,X⟩:=h;obtain⟨p1,p2,p3⟩:=aH.mp h2;have Z:=h1;rw[d]at Z X;obtain⟨q1,q2,W⟩:=aH.mp Z;refine⟨by rw[e,aP];exact Z,?_,by rw[e];simpa[aP]using X⟩;rw[e,aP];refine aH.mpr ⟨p1,aH.mpr ⟨(aH.mp q2).1,p2,B⟩,λx Y y V=>?_⟩;rcases bW.mp V with z|z
 .exact W x Y y (bO _ z)
 .exact p3 x Y y z
def MI.appB(h:(MI C) a b out ia ib) (B:∀x∈(b.toList.drop ib).take k,∀y∈a.toList.drop ia,(R C) x y):(MI C) a b (out++b.extract ib (ib+k)) ia (ib+k):=by
 have e:(out++b.extract ib (ib+k)).toList=out.toList++(b.toList.drop ib).take k:=by
  rw[cL,iy,rA]
 have d:b.toList.drop ib=(b.toList.drop ib).take k++b.toList.drop (ib+k):=by rw[<-mG,fu]
 obtain⟨h1,h2,X⟩:=h;obtain⟨p1,p2,p3⟩:=aH.mp h1;have Z:=h2;rw[d]at Z X;obtain⟨q1,q2,W⟩:=aH.mp Z;refine⟨?_,by rw[e,aP];exact Z,?_⟩
 .rw[e,aP];refine aH.mpr ⟨p1,aH.mpr ⟨(aH.mp q2).1,p2,B⟩,λx Y y V=>?_⟩;rcases bW.mp V with z|z
  .exact W x Y y (bO _ z)
  .exact p3 x Y y z
 .rw[e];refine gk ?_ X;rw[aP,aP,aP];refine fR _ ?_;rw[<-aP,<-aP];exact gi _ fB
structure Res(C:Cq)(a b r:Array Keyed):Prop where
 P:r.toList.Perm (a.toList++b.toList)
 S:r.toList.Pairwise (R C)
def MI.endB(h:(MI C) a b out ia ib)(e:b.size<=ib):(Res C) a b (DN a b out ia ib):=by
 have d:b.toList.drop ib=[]:=fX (by simpa using e);have l:(DN a b out ia ib).toList=out.toList++a.toList.drop ia:=by
  unfold DN;rw[cL,cL,iy,iy,d,List.take_nil,cI,eU (by simp)]
 obtain⟨h1,h2,Z⟩:=h;rw[d,cI]at Z;exact⟨by rwa[l],by rwa[l]⟩
def MI.endA(h:(MI C) a b out ia ib)(e:a.size<=ia):(Res C) a b (DN a b out ia ib):=by
 have d:a.toList.drop ia=[]:=fX (by simpa using e);have l:(DN a b out ia ib).toList=out.toList++b.toList.drop ib:=by
  unfold DN;rw[cL,cL,iy,iy,d,List.take_nil,cI,eU (by simp)]
 obtain⟨h1,h2,Z⟩:=h;rw[d,cI]at Z;exact⟨by rwa[l],by rwa[l]⟩
def MI.last(h:(MI C) a b out ia ib)(hi:ia<a.size)(B:∀y∈b.toList,(R C) y a[ia])(e:ia+1=a.size):(Res C) a b (Mw a b out ia ib):=by
 have hd:a.toList.drop ia=[a[ia]]:=by
  rw[wR (l:=a.toList) (by simpa using hi),fX (by simpa using oU e.symm)];rfl
 have l:(Mw a b out ia ib).toList=out.toList++b.toList.drop ib++[a[ia]]:=by
  unfold Mw;rw[cL,cL,iy,iy,hd,eU (by simp),eU (by simp;lia)]
 obtain⟨h1,h2,Z⟩:=h;rw[hd]at h1 Z;refine⟨by
  rw[l];refine gk ?_ Z;rw[aP,aP];exact fR _ fB,?_⟩
 rw[l];refine aH.mpr ⟨h2,gW _ _,λx X y Y=>?_⟩;rw[aL.mp Y];rcases bW.mp X with z|z
 .exact(aH.mp h1).2.2 x z _ (aL.mpr rfl)
 .exact B x (tQ z)
def Mx{l:List Keyed}(p:(l.drop i).Pairwise (R C))(h:i<l.length):∀y∈l.drop i,(R C) l[i] y:=λy Z=>by
 rw[wR h]at Z p;rcases aJ.mp Z with rfl|z
 .exact gw _
 .exact(bI.mp p).1 y z
end
end
end Sq
variable{st':fh}{lo hi:Nat}
namespace Sq
section
variable{C:Cq}
structure Eqv(st st':fh):Prop where
 k:kindOf st'=kindOf st
 a:arrOf st'=arrOf st
 p:pendingOf st'=pendingOf st
 f:failedOf st'=failedOf st
def Eqv.refl(st:fh):Eqv st st:=⟨rfl,rfl,rfl,rfl⟩
def Eqv.set(h:Eqv st st')(g:Nat):Eqv st (setG st' g):=⟨h.k,h.a,h.p,h.f⟩
section
variable{prog:eS}{A:eW}{E:Value->eM->Prop}{s:eM}{a b:Array Keyed}[LtOk prog w A s C]
def wU (h:k () (setG st c)):wpS (model prog w) A E s (CJ c) k st:=bE h
def K_R {x:Array Keyed}(p:x.toList.Pairwise (R C)) (B:i<=j) (D:j<x.size):(KC C) x i<=(KC C) x j:=by
 rw[jF D,jF (lJ B D)];rcases Nat.lt_or_eq_of_le B with z|z
 .have:=dF.mp p i j (by simpa using lJ B D) (by simpa using D) z;unfold R at this;simpa using this
 .subst z;exact gw _
def rH{x:Array Keyed} (h:c∈(x.toList.drop i).take k):∃j,j<k/\∃B:i+j<x.size,c=x[i+j]:=by
 obtain⟨j,B,e⟩:=jh h;rw[cO,fO,bh]at B;refine⟨j,by lia,by lia,?_⟩;rw[<-e,vW,p7];simp
def pR{x:Array Keyed} (h:c∈x.toList.drop i):∃j,∃B:i+j<x.size,c=x[i+j]:=by
 obtain⟨j,B,e⟩:=jh h;rw[fO,bh]at B;refine⟨j,by lia,?_⟩;rw[<-e,p7];simp
def nM{x:Array Keyed}(h:∀p∈x.toList,C.ok p) (hi:c<x.size):C.ok x[c]:=h _ (by simp)
def ai9 (D:kindOf st=C.κ) (ha:∀p∈a.toList,C.ok p) (J:∀p∈b.toList,C.ok p) (sa:a.toList.Pairwise (R C)) (B:b.toList.Pairwise (R C))
 (M:(MI C) a b out ia ib) (i1:ia<a.size) (i2:ib<b.size) (h:∀k,ia+k<=a.size->(MI C) a b (out++a.extract ia (ia+k)) (ia+k) ib->(ia+k<a.size->∀y∈a.toList.drop (ia+k),(R C) b[ib] y)->c (some k) st) :
 wpS (model prog w) A E s (wO false b[ib] a ia (a.size-ia) 0) c st:=by
 refine nD D (nM J i2) ha (by lia) (by lia) (λi j h1 h2 X=>?_) λk k1 k2 W=>h k (by lia) (M.appA λx V y Z=>?_) λY y Z=>?_
 .unfold Pb at X ⊢;have:=K_R sa (i:=ia+i) (j:=ia+j) (by lia) (by lia);rw[if_neg bA,f9,decide_eq_false_iff_not]at X ⊢;lia
 .obtain⟨j,j1,j2,rfl⟩:=rH V;obtain⟨l,l1,rfl⟩:=pR Z;have:=k2 j j1;unfold Pb at this;rw[if_neg bA,f9,decide_eq_false_iff_not,jF j2]at this;have q:=K_R B (i:=ib) (j:=ib+l) (by lia) l1;rw[jF i2,jF l1]at q;unfold R;lia
 .obtain⟨l,l1,rfl⟩:=pR Z;have:=W k (aB _) (by lia);unfold Pb at this;rw[if_neg bA,pF,decide_eq_true_iff,jF Y]at this;have q:=K_R sa (i:=ia+k) (j:=ia+k+l) (by lia) l1;rw[jF Y,jF l1]at q;unfold R;lia
def aj0 (D:kindOf st=C.κ) (ha:∀p∈a.toList,C.ok p) (J:∀p∈b.toList,C.ok p) (sa:a.toList.Pairwise (R C)) (B:b.toList.Pairwise (R C))
 (M:(MI C) a b out ia ib) (i1:ia<a.size) (i2:ib<b.size) (h:∀k,ib+k<=b.size->(MI C) a b (out++b.extract ib (ib+k)) ia (ib+k)->(∀y∈b.toList.drop (ib+k),(R C) a[ia] y)->c (some k) st) :
 wpS (model prog w) A E s (wO true a[ia] b ib (b.size-ib) 0) c st:=by
 refine nD D (nM ha i1) J (by lia) (by lia) (λi j h1 h2 Y=>?_) λk k1 k2 X=>h k (by lia) (M.appB λx W y Z=>?_) λy Z=>?_
 .unfold Pb at Y ⊢;have:=K_R B (i:=ib+i) (j:=ib+j) (by lia) (by lia);rw[if_pos rfl,decide_eq_true_iff]at Y ⊢;lia
 .obtain⟨j,j1,j2,rfl⟩:=rH W;obtain⟨l,l1,rfl⟩:=pR Z;have:=k2 j j1;unfold Pb at this;rw[if_pos rfl,decide_eq_true_iff,jF j2]at this;have q:=K_R sa (i:=ia) (j:=ia+l) (by lia) l1;rw[jF i1,jF l1]at q;unfold R;lia
 .obtain⟨l,l1,rfl⟩:=pR Z;have:=X (k+l) (by lia) (by lia);unfold Pb at this;rw[if_pos rfl,decide_eq_false_iff_not,<-uW,jF l1]at this;unfold R;lia
structure LoI(C:Cq)(st:fh)(a b:Array Keyed)(n:Nat)(o:Array Keyed)(i j:Nat)(t:fh):Prop where
 E:Eqv st t
 M:MI C a b o i j
 x:i+1<a.size
 y:j<b.size
 n:n<=i+j
def LQ (P:Nat->c->Y->Z->fh->Prop) (D:Array Keyed->fh->Prop) (n m:Nat):ForInStep (Option (Array Keyed)×c×Y×Z×B)->fh->Prop
 | .done (some r,_),t=>D r t
 | .done (none,o,i,j,_),t=>P m o i j t
 | .yield (none,o,i,j,_),t=>P n o i j t
 | .yield (some _,_),_=>False
def rJ {f:Nat->Option (Array Keyed)×z×Y×Z×B->StateT fh Sem (ForInStep (Option (Array Keyed)×z×Y×Z×B))} {k:Option (Array Keyed)×z×Y×Z×B->StateT fh Sem β} {Q:β->fh->Prop}
 (P:Nat->z->Y->Z->fh->Prop) (D:Array Keyed->fh->Prop) (φ:Nat->Nat) (m:Nat) {o:z} {i:Y} {j:Z} {g:B} {st:fh} (O:P (φ lo) o i j st)
 (J:∀o i j t,P (φ (max lo hi)) o i j t->P m o i j t) (hd:∀r c t,D r t->wpS M A E s (k (some r,c)) Q t) (hn:∀o i j g t,P m o i j t->wpS M A E s (k (none,o,i,j,g)) Q t)
 (hs:∀n o i j g t,P (φ n) o i j t->wpS M A E s (f n (none,o,i,j,g)) (LQ P D (φ (n+1)) m) t):wpS M A E s (forIn [lo:hi] (none,o,i,j,g) f >>= k) Q st:=by
 refine ai (bj (aS (I:=λn c t=>LQ P D (φ n) m (.yield c) t) (Q:=λc t=>LQ P D m m (.done c) t) ?_ ?_ O) ?_)
 .rintro n ⟨_|_,o,i,j,g⟩ t _ _ p
  .refine bj (hs n o i j g t p) ?_;rintro(⟨_|_,_⟩|⟨_|_,_⟩) t q<;>exact q
  .exact p.elim
 .rintro⟨_|_,o,i,j,g⟩ t p
  .exact J o i j t p
  .exact p.elim
 .rintro⟨_|r,c⟩ t p
  .exact hn _ _ _ _ t p
  .exact hd r c t p
def gF {Q:α->fh->Prop} {x y:StateT fh Sem α} {c:Prop} [Decidable c] (h:c->wpS M A E s x Q st) (k:¬c->wpS M A E s y Q st):wpS M A E s (if c then x else y) Q st:=by
 split
 .next z=>exact h z
 .next z=>exact k z
def iD {Q:α->fh->Prop} {x y:StateT fh Sem α} {m:Nat} (h:m=n->wpS M A E s x Q st) (k:m≠n->wpS M A E s y Q st):wpS M A E s (if(m==n)=true then x else y) Q st:=
 gF (λz=>h (eq_of_beq z)) λz=>k λe=>z (beq_iff_eq.mpr e)
def Ik (D:kindOf st=C.κ) (ha:∀p∈a.toList,C.ok p) (hb:∀p∈b.toList,C.ok p) (a0:0<a.size) (b0:0<b.size) (sa:a.toList.Pairwise (R C)) (sb:b.toList.Pairwise (R C))
 (hf:(KC C) b 0<(KC C) a 0) (hl:∀y∈b.toList,(R C) y (a[a.size-1]'(by lia))) (h:∀r st',(Res C) a b r->Eqv st st'->q0 r st'):wpS (model prog w) A E s (RM a b) q0 st:=by
 refine ai (m:=liftM (rule _)) (c_ (a9 ⟨rfl,?_⟩));refine ai (eE (getElem?_pos b 0 b0) ?_);have H:(MI C) a b #[b[0]] 0 1:=by
  have hd:b.toList=b[0]::b.toList.drop 1:=by
   have:=wR (l:=b.toList) (i:=0) (by simpa using b0);rw[dM]at this;simpa using this
  refine⟨?_,?_,?_⟩
  .show([b[0]]++a.toList.drop 0).Pairwise (R C);rw[dM];refine bI.mpr ⟨λy P=>?_,sa⟩;obtain⟨l,l1,rfl⟩:=pR (x:=a) (i:=0) (by rwa[dM]);have q:=K_R sa (i:=0) (j:=0+l) (by lia) l1;rw[jF a0]at q hf;rw[jF b0]at hf;rw[jF l1]at q;unfold R;lia
  .show(b[0]::b.toList.drop 1).Pairwise (R C);rwa[<-hd]
  .rw[dM];have:=(List.perm_middle (a:=b[0]) (l₁:=a.toList) (l₂:=b.toList.drop 1)).symm;rwa[<-hd]at this
 have Z:∀(out:Array Keyed)(ia ib:Nat),(MI C) a b out ia ib->ia+1=a.size->(Res C) a b (Mw a b out ia ib):=λout ia ib M e=>M.last (by lia) (by
  have:a.size-1=ia:=by lia
  subst this;exact hl) e
 refine iD (λc1=>am (h _ _ (H.endB (by lia)) (Eqv.refl st))) λc1=>?_
 refine iD (λf=>am (h _ _ (Z _ _ _ H f) (Eqv.refl st))) λf=>?_
 refine ai (cb ?_);refine rJ (LoI C st a b) (λr t=>Eqv st t/\Res C a b r) (· + 1) (a.size+b.size) ⟨Eqv.refl st,H,by lia,by lia,by lia⟩ ?oe ?od ?on ?os
 case oe=>exact λo i j t p=>{p with n:=by have:=p.n;lia}
 case od=>exact λr c t p=>am (h r t p.2 p.1)
 case on=>exact λo i j g t p=>absurd p.n (by have:=p.x;have:=p.y;lia)
 case os=>
  intro x o ia ib g t p0;refine rJ (LoI C st a b) (λr t=>Eqv st t/\Res C a b r) (λ_=>x+1) (x+1) p0 (λ_ _ _ _ p=>p) (λr c t p=>am p) ?n1 ?s1
  case s1=>
   rintro y o i j ⟨ac,d⟩ t p;refine ai (eE (getElem?_pos b j p.y) (ai (eE (getElem?_pos a i (cH p.x)) ?_)));refine ai (Bp (p.E.k.trans D) (nM hb p.y) (nM ha (cH p.x)) ?_);refine gF (λlt=>ai (eE (getElem?_pos b j p.y) ?_)) (λlt=>ai (eE (getElem?_pos a i (cH p.x)) ?_))
   .have S:=p.M.pushB p.y λy P=>by
     have:=Mx (aH.mp p.M.A).2.1 (by simpa using cH p.x) y P;unfold R at this ⊢;simp at this lt;lia
    refine iD (λ(z:j+1=b.size)=>am ⟨p.E,S.endB (by lia)⟩) λ(z:j+1≠b.size)=>?_
    have q:LoI C st a b (x+1) _ _ _ t:=⟨p.E,S,p.x,by have:=p.y;lia,vX p.n⟩;exact gF (λ_=>am q) λ_=>am q
   .have S:=p.M.pushA (cH p.x) λy P=>by
     have:=Mx (aH.mp p.M.B).2.1 (by simpa using p.y) y P;unfold R at this ⊢;simp at this lt;lia
    refine iD (λz=>am ⟨p.E,Z _ _ _ S z⟩) λ(z:i+1+1≠a.size)=>?_
    have q:LoI C st a b (x+1) _ _ _ t:=⟨p.E,S,by have:=p.x;lia,p.y,by have:=p.n;lia⟩;exact gF (λ_=>am q) λ_=>am q
  case n1=>
   rintro o i j ⟨ac,d⟩ t p;refine ai (c_ (a9 ⟨rfl,?_⟩));refine rJ (LoI C st a b) (λr t=>Eqv st t/\Res C a b r) (λy=>x+1+min y 1) (x+1+1) p ?e2 (λr c t p=>am p) ?n2 ?s2
   case e2=>exact λo i j t p=>{p with n:=by have:=p.n;lia}
   case n2=>exact λo i j g t p=>ai (wU (am ⟨p.E.set _,p.M,p.x,p.y,p.n⟩))
   case s2=>
    rintro y o V Y ⟨g,ac,d⟩ t p;dsimp only;have i2:=p.y;refine Mv ?_;generalize g-1=I;refine eL ?l ?r
    case' l=>
     revert I;refine id ?_
    case r=>exact(id ?l:_) g
    intro I;refine ai (wU (ai (eE (getElem?_pos b Y i2) ?_)));refine ai (ai9 ((p.E.set _).k.trans D) ha hb sa sb p.M (cH p.x) i2 λk k1 Mk k2=>?_);dsimp only;refine gF (λkp=>?_) λkp=>?N1
    generalize o++a.extract V (V+k)=o at Mk ⊢;generalize hi:V+k=i at k1 k2 Mk ⊢;refine iD (λq1=>am ⟨p.E.set _,Z _ _ _ Mk q1⟩) λq1=>iD (λq2=>am ⟨p.E.set _,Mk.endA (oU q2.symm)⟩) λq2=>?_
    have W:=k2 (by lia);have U:V<=i:=by lia
    have X:i+1<a.size:=by lia
    clear k1 k2 q1 q2 hi kp;revert X U W Mk o i;refine id ?K1
    case N1=>
     have k0:k=0:=by lia
     have W:=k2 (by have:=p.x;lia);rw[k0,kh]at W;exact(id ?K1:_) o V p.M W (aB _) p.x
    intro o i Mk W U X;refine ai (eE (getElem?_pos b Y i2) ?_);have O:=Mk.pushB i2 W;generalize o.push b[Y]=u at O ⊢;refine iD (λJ=>am ⟨p.E.set _,O.endB (oU J.symm)⟩) λJ=>?_
    refine ai (eE (getElem?_pos a _ (cH X)) ?_);refine ai (aj0 ((p.E.set _).k.trans D) ha hb sa sb O (cH X) (u_ i2 J) λl l1 T l2=>?_);dsimp only;refine gF (λlp=>?_) λlp=>?N2
    generalize u++b.extract (Y+1) (Y+1+l)=v at T ⊢;generalize hj:Y+1+l=j at l1 T l2 ⊢;refine iD (λK=>am ⟨p.E.set _,T.endB (oU K.symm)⟩) λK=>?_
    have N:=T.pushA (cH X) l2;have L:j<b.size:=by lia
    have G:Y<j:=by lia
    clear l1 l2 T hj K lp;revert G L N v j;refine id ?K2
    case N2=>
     have l0:l=0:=by lia
     rw[l0,kh]at l2;exact(id ?K2:_) u (Y+1) (O.pushA (cH X) l2) (by lia) (by lia)
    intro v j N L G;refine ai (eE (getElem?_pos a _ (cH X)) ?_);refine iD (λF=>am ⟨p.E.set _,Z _ _ _ N F⟩) λF=>?_
    have q:∀n,n<=1->LoI C st a b (x+1+n) _ _ _ (setG t I):=λn hn=>⟨p.E.set _,N,by lia,L,by have:=p.n;lia⟩
    exact gF (λ_=>am (q _ (aB _))) λ_=>am (q _ (q_ _ _))
end
end
end Sq
namespace Sq
section
variable{C:Cq}
def RN:Array Keyed->Array Keyed->StateT fh Sem (Array Keyed):=sortPriv% PySem.Builtin.mergeHi
def DP(a b out:Array Keyed)(na nb:Nat):Array Keyed:=a.extract 0 na++b.extract 0 nb++out.reverse
def FQ(a b out:Array Keyed)(na nb:Nat):Array Keyed:=b.extract 0 nb++a.extract 0 na++out.reverse
structure MJ(C:Cq)(a b out:Array Keyed)(na nb:Nat):Prop where
 A:(a.toList.take na++out.toList.reverse).Pairwise (R C)
 B:(b.toList.take nb++out.toList.reverse).Pairwise (R C)
 P:(a.toList.take na++(b.toList.take nb++out.toList.reverse)).Perm (a.toList++b.toList)
section
variable{a b out:Array Keyed}{na nb:Nat}
def zO{x:Array Keyed}(h:i<x.size):x.toList.take (i+1)=x.toList.take i++[x[i]]:=by
 rw[vY,aA (by simpa using h)];simp
def FW{l o:List Keyed}{m:List Keyed}(h:(l++o).Pairwise (R C))(hm:m.Pairwise (R C))(h1:∀x∈l,∀y∈m,(R C) x y)(h2:∀x∈m,∀y∈o,(R C) x y):(l++(m++o)).Pairwise (R C):=by
 obtain⟨p1,p2,p3⟩:=aH.mp h;refine aH.mpr ⟨p1,aH.mpr ⟨hm,p2,h2⟩,λx Z y Y=>?_⟩;rcases bW.mp Y with z|z
 .exact h1 x Z y z
 .exact p3 x Z y z
def MJ.pushA(h:(MJ C) a b out (na+1) nb)(hi:na<a.size)(B:∀x∈b.toList.take nb,(R C) x a[na]):(MJ C) a b (out.push a[na]) na nb:=by
 obtain⟨h1,h2,X⟩:=h;rw[zO hi]at h1 X;have e:(out.push a[na]).toList.reverse=[a[na]]++out.toList.reverse:=by simp
 rw[aP]at h1 X;obtain⟨q1,q2,W⟩:=aH.mp h1;refine⟨by rwa[e],?_,?_⟩
 .rw[e];exact FW h2 (gW _ _) (λx Y y Z=>by rw[aL.mp Z];exact B x Y) (λx Y y Z=>(aH.mp q2).2.2 x Y y Z)
 .rw[e];refine gk (fR _ ?_) X;rw[<-aP,<-aP];exact gi _ fB
def MJ.pushB(h:(MJ C) a b out na (nb+1))(hi:nb<b.size)(B:∀x∈a.toList.take na,(R C) x b[nb]):(MJ C) a b (out.push b[nb]) na nb:=by
 obtain⟨h1,h2,X⟩:=h;rw[zO hi]at h2 X;have e:(out.push b[nb]).toList.reverse=[b[nb]]++out.toList.reverse:=by simp
 rw[aP]at h2 X;obtain⟨q1,q2,W⟩:=aH.mp h2;refine⟨?_,by rwa[e],by rwa[e]⟩;rw[e];exact FW h1 (gW _ _) (λx Y y Z=>by rw[aL.mp Z];exact B x Y) (λx Y y Z=>(aH.mp q2).2.2 x Y y Z)
def Bq{l:List Keyed}(h:i<=n):l.take n=l.take i++(l.drop i).take (n-i):=by
 rw[<-List.take_add,Nat.add_sub_cancel' h]
def uH{x:Array Keyed}:(out++(x.extract i n).reverse).toList.reverse=(x.toList.drop i).take (n-i)++out.toList.reverse:=by
 rw[cL,List.reverse_append,nR,List.reverse_reverse,iy]
def MJ.appA(h:(MJ C) a b out na nb) (hi:c<=na) (B:∀x∈b.toList.take nb,∀y∈(a.toList.drop c).take (na-c),(R C) x y):(MJ C) a b (out++(a.extract c na).reverse) c nb:=by
 obtain⟨h1,h2,Z⟩:=h;rw[Bq hi,aP]at h1 Z;obtain⟨q1,q2,Y⟩:=aH.mp h1;refine⟨by rwa[uH],?_,?_⟩
 .rw[uH];exact FW h2 (aH.mp q2).1 B (aH.mp q2).2.2
 .rw[uH];refine gk (fR _ ?_) Z;rw[<-aP,<-aP];exact gi _ fB
def MJ.appB(h:(MJ C) a b out na nb) (hi:c<=nb) (B:∀x∈a.toList.take na,∀y∈(b.toList.drop c).take (nb-c),(R C) x y):(MJ C) a b (out++(b.extract c nb).reverse) na c:=by
 obtain⟨h1,h2,Z⟩:=h;rw[Bq hi,aP]at h2 Z;obtain⟨q1,q2,Y⟩:=aH.mp h2;refine⟨?_,by rwa[uH],by rwa[uH]⟩;rw[uH];exact FW h1 (aH.mp q2).1 B (aH.mp q2).2.2
def Br:(DP a b out na nb).toList=a.toList.take na++(b.toList.take nb++out.toList.reverse):=by
 unfold DP;rw[cL,cL,iy,iy,dM,dM,mH,mH,nR,aP]
def MJ.endA(h:(MJ C) a b out 0 nb):(Res C) a b (DP a b out 0 nb):=by
 have e:=Br (a:=a) (b:=b) (out:=out) (na:=0) (nb:=nb);rw[mJ,dI]at e;have p:=h.P;rw[mJ,dI]at p;exact⟨by rwa[e],by rw[e];exact h.B⟩
def MJ.endB(h:(MJ C) a b out na 0):(Res C) a b (DP a b out na 0):=by
 have e:=Br (a:=a) (b:=b) (out:=out) (na:=na) (nb:=0);rw[mJ,dI]at e;have p:=h.P;rw[mJ,dI]at p;exact⟨by rwa[e],by rw[e];exact h.A⟩
def MJ.first(h:(MJ C) a b out na 1)(J:0<b.size)(D:∀y∈a.toList,(R C) b[0] y):(Res C) a b (FQ a b out na 1):=by
 have t:b.toList.take 1=[b[0]]:=by rw[zO J,mJ];rfl
 have e:(FQ a b out na 1).toList=[b[0]]++(a.toList.take na++out.toList.reverse):=by
  unfold FQ;rw[cL,cL,iy,iy,dM,dM,mH,mH,nR,t,aP]
 have p:=h.P;have B:=h.B;rw[t]at p B;refine⟨?_,?_⟩
 .rw[e];refine gk ?_ p;rw[<-aP,<-aP];exact gi _ fB
 .rw[e];show(b[0]::(a.toList.take na++out.toList.reverse)).Pairwise (R C);have B:=B;refine bI.mpr ⟨λy Z=>?_,h.A⟩;rcases bW.mp Z with z|z
  .exact D y (nU z)
  .exact(bI.mp B).1 y z
def yu{x:Array Keyed} (h:c∈x.toList.take n):∃j,j<n/\∃B:j<x.size,c=x[j]:=by
 obtain⟨j,j1,j2,e⟩:=rH (i:=0) (by rwa[dM]);exact⟨j,j1,by lia,by rw[e];congr 1;lia⟩
variable{prog:eS}{A:eW}{E:Value->eM->Prop}{s:eM}[LtOk prog w A s C]
def ZM (O:kindOf st=C.κ) (ha:∀p∈a.toList,C.ok p) (hb:∀p∈b.toList,C.ok p) (sa:a.toList.Pairwise (R C)) (B:b.toList.Pairwise (R C))
 (M:(MJ C) a b out na nb) (i1:0<na) (J:na<=a.size) (i2:0<nb) (D:nb<=b.size) (h:∀k,k<=na->(MJ C) a b (out++(a.extract k na).reverse) k nb->(∀x∈a.toList.take k,(R C) x (b[nb-1]'(by lia)))->c (some k) st) :
 wpS (model prog w) A E s (wO false (b[nb-1]'(by lia)) a 0 na (na-1)) c st:=by
 have Z:nb-1<b.size:=by lia
 refine nD O (nM hb Z) ha (by lia) (by lia) (λi j h1 h2 X=>?_) λk k1 k2 W=>h k k1 (M.appA k1 λx Y y V=>?_) λx Y=>?_
 .unfold Pb at X ⊢;have:=K_R sa (i:=0+i) (j:=0+j) (by lia) (by lia);rw[if_neg bA,f9,decide_eq_false_iff_not]at X ⊢;lia
 .obtain⟨j,j1,j2,rfl⟩:=rH V;obtain⟨l,l1,l2,rfl⟩:=yu Y;have:=W (k+j) (by lia) (by lia);unfold Pb at this;rw[if_neg bA,pF,decide_eq_true_iff,fG,jF j2]at this;have q:=K_R B (i:=l) (j:=nb-1) (by lia) Z;rw[jF Z,jF l2]at q;unfold R;lia
 .obtain⟨l,l1,l2,rfl⟩:=yu Y;have:=k2 l l1;unfold Pb at this;rw[if_neg bA,f9,decide_eq_false_iff_not,fG,jF l2]at this;unfold R;lia
def ZP (O:kindOf st=C.κ) (ha:∀p∈a.toList,C.ok p) (hb:∀p∈b.toList,C.ok p) (sa:a.toList.Pairwise (R C)) (B:b.toList.Pairwise (R C))
 (M:(MJ C) a b out na nb) (i1:0<na) (J:na<=a.size) (i2:0<nb) (D:nb<=b.size) (h:∀k,k<=nb->(MJ C) a b (out++(b.extract k nb).reverse) na k->(∀x∈b.toList.take k,(R C) x (a[na-1]'(by lia)))->c (some k) st) :
 wpS (model prog w) A E s (wO true (a[na-1]'(by lia)) b 0 nb (nb-1)) c st:=by
 have Z:na-1<a.size:=by lia
 refine nD O (nM ha Z) hb (by lia) (by lia) (λi j h1 h2 X=>?_) λk k1 k2 W=>h k k1 (M.appB k1 λx Y y V=>?_) λx Y=>?_
 .unfold Pb at X ⊢;have:=K_R B (i:=0+i) (j:=0+j) (by lia) (by lia);rw[if_pos rfl,decide_eq_true_iff]at X ⊢;lia
 .obtain⟨j,j1,j2,rfl⟩:=rH V;obtain⟨l,l1,l2,rfl⟩:=yu Y;have:=W (k+j) (by lia) (by lia);unfold Pb at this;rw[if_pos rfl,decide_eq_false_iff_not,fG,jF j2]at this;have q:=K_R sa (i:=l) (j:=na-1) (by lia) Z;rw[jF Z,jF l2]at q;unfold R;lia
 .obtain⟨l,l1,l2,rfl⟩:=yu Y;have:=k2 l l1;unfold Pb at this;rw[if_pos rfl,decide_eq_true_iff,fG,jF l2]at this;unfold R;lia
end
end
end Sq
namespace Sq
section
variable{C:Cq}
section
variable{prog:eS}{A:eW}{E:Value->eM->Prop}{s:eM}{a b:Array Keyed}[LtOk prog w A s C]
def MJ.endA' (h:(MJ C) a b out na nb) (e:na=0):(Res C) a b (DP a b out na nb):=by subst e;exact h.endA
def MJ.endB' (h:(MJ C) a b out na nb) (e:nb=0):(Res C) a b (DP a b out na nb):=by subst e;exact h.endB
def MJ.first' (h:(MJ C) a b out na nb) (e:nb=1) (D:0<b.size) (B:∀y∈a.toList,(R C) b[0] y):(Res C) a b (FQ a b out na nb):=by subst e;exact h.first D B
theorem MJ.pushA' (h:(MJ C) a b out na nb) (D:0<na) (hi:na-1<a.size) (B:∀x∈b.toList.take nb,(R C) x a[na-1]):(MJ C) a b (out.push a[na-1]) (na-1) nb:=by
 cases na with
 |zero=>lia
 |succ n=>exact MJ.pushA (na:=n) h hi B
theorem MJ.pushB' (h:(MJ C) a b out na nb) (D:0<nb) (hi:nb-1<b.size) (B:∀x∈a.toList.take na,(R C) x b[nb-1]):(MJ C) a b (out.push b[nb-1]) na (nb-1):=by
 cases nb with
 |zero=>lia
 |succ n=>exact MJ.pushB (nb:=n) h hi B
structure HiI(C:Cq)(st:fh)(a b:Array Keyed)(n i j:Nat)(o:Array Keyed)(t:fh):Prop where
 E:Eqv st t
 M:MJ C a b o i j
 x:0<i
 x1:i<=a.size
 y:1<j
 y1:j<=b.size
 n:i+j+n<=a.size+b.size
def Il (hk:kindOf st=C.κ) (ha:∀p∈a.toList,C.ok p) (hb:∀p∈b.toList,C.ok p) (a0:0<a.size) (B:0<b.size) (sa:a.toList.Pairwise (R C)) (D:b.toList.Pairwise (R C))
 (hf:(KC C) b 0<(KC C) a 0) (hl:∀y∈b.toList,(R C) y (a[a.size-1]'(by lia))) (h:∀r st',(Res C) a b r->Eqv st st'->q0 r st'):wpS (model prog w) A E s (RN a b) q0 st:=by
 have la:a.size-1<a.size:=by lia
 have S:∀y∈a.toList,(R C) b[0] y:=λy hy=>by
  obtain⟨l,l1,rfl⟩:=pR (x:=a) (i:=0) (by rwa[dM]);have q:=K_R sa (i:=0) (j:=0+l) (by lia) l1;rw[jF a0]at q hf;rw[jF B]at hf;rw[jF l1]at q;unfold R;lia
 refine ai (m:=liftM (rule _)) (c_ (a9 ⟨rfl,?_⟩));refine ai (eE (getElem?_pos a (a.size-1) la) ?_);have F:(MJ C) a b #[a[a.size-1]] (a.size-1) b.size:=by
  have ta:a.toList.take (a.size-1)++[a[a.size-1]]=a.toList:=by
   rw[<-zO la,Nat.sub_add_cancel a0,eU (by simp)]
  have tb:b.toList.take b.size=b.toList:=eU (by simp);refine⟨?_,?_,?_⟩
  .show(a.toList.take (a.size-1)++[a[a.size-1]]).Pairwise (R C);rwa[ta]
  .rw[tb];exact aH.mpr ⟨D,gW _ _,λx P y hy=>by rw[aL.mp hy];exact hl x P⟩
  .rw[tb];have:(a.toList.take (a.size-1)++(b.toList++[a[a.size-1]])).Perm (a.toList.take (a.size-1)++([a[a.size-1]]++b.toList)):=fR _ fB;rwa[<-aP _ [a[a.size-1]],ta]at this
 refine iD (λc1=>am (h _ _ (F.endA' c1) (Eqv.refl st))) λc1=>?_
 refine iD (λc2=>am (h _ _ (F.first' c2 B S) (Eqv.refl st))) λc2=>?_
 refine ai (cb ?_);refine rJ (HiI C st a b) (λr t=>Eqv st t/\Res C a b r) (· + 1) (a.size+b.size) ⟨Eqv.refl st,F,by lia,by lia,by lia,by lia,by lia⟩ ?oe ?od ?on ?os
 case oe=>exact λo i j t p=>{p with n:=by have:=p.n;lia}
 case od=>exact λr c t p=>am (h r t p.2 p.1)
 case on=>exact λo i j g t p=>absurd p.n (by have:=p.x;lia)
 case os=>
  intro x i j o g t p0;refine rJ (HiI C st a b) (λr t=>Eqv st t/\Res C a b r) (λ_=>x+1) (x+1) p0 (λ_ _ _ _ p=>p) (λr c t p=>am p) ?n1 ?s1
  case s1=>
   rintro y i j o ⟨ac,bc⟩ t p;have X:i-1<a.size:=by have:=p.x;have:=p.x1;lia
   have Y:j-1<b.size:=by have:=p.y;have:=p.y1;lia
   refine ai (eE (getElem?_pos b (j-1) Y) (ai (eE (getElem?_pos a (i-1) X) ?_)));refine ai (Bp (p.E.k.trans hk) (nM hb Y) (nM ha X) ?_);refine gF (λlt=>ai (eE (getElem?_pos a (i-1) X) ?_)) (λlt=>ai (eE (getElem?_pos b (j-1) Y) ?_))
   .have N:=p.M.pushA' p.x X λx P=>by
     obtain⟨l,l1,l2,rfl⟩:=yu P;have q:=K_R D (i:=l) (j:=j-1) (by lia) Y;rw[jF Y,jF l2]at q;unfold R;simp at lt;lia
    refine iD (λz=>am ⟨p.E,N.endA' z⟩) λ(z:i-1≠0)=>?_
    have q:HiI C st a b (x+1) _ _ _ t:=⟨p.E,N,by lia,by lia,p.y,p.y1,by have:=p.n;lia⟩;exact gF (λ_=>am q) λ_=>am q
   .have N:=p.M.pushB' (by have:=p.y;lia) Y λx P=>by
     obtain⟨l,l1,l2,rfl⟩:=yu P;have q:=K_R sa (i:=l) (j:=i-1) (by lia) X;rw[jF X,jF l2]at q;unfold R;simp at lt;lia
    refine iD (λz=>am ⟨p.E,N.first' z B S⟩) λ(z:j-1≠1)=>?_
    have q:HiI C st a b (x+1) _ _ _ t:=⟨p.E,N,p.x,p.x1,by have:=p.y;lia,by lia,by have:=p.n;lia⟩;exact gF (λ_=>am q) λ_=>am q
  case n1=>
   rintro i j o ⟨ac,bc⟩ t p;refine ai (c_ (a9 ⟨rfl,?_⟩));refine rJ (HiI C st a b) (λr t=>Eqv st t/\Res C a b r) (λy=>x+1+min y 1) (x+1+1) p ?e2 (λr c t p=>am p) ?n2 ?s2
   case e2=>exact λo i j t p=>{p with n:=by have:=p.n;lia}
   case n2=>exact λi j o g t p=>ai (wU (am {p with E:=p.E.set _}))
   case s2=>
    rintro y U Z o ⟨g,ac,bc⟩ t p;have V:Z-1<b.size:=by have:=p.y;have:=p.y1;lia
    refine Mv ?_;generalize g-1=G;refine eL ?l ?r
    case' l=>
     revert G;refine id ?_
    case r=>exact(id ?l:_) g
    intro G;refine ai (wU (ai (eE (getElem?_pos b (Z-1) V) ?_)));refine ai (ZM ((p.E.set _).k.trans hk) ha hb sa D p.M p.x p.x1 (cH p.y) p.y1 λk k1 Mk k2=>?_);dsimp only;generalize hc:U-k=c;refine gF (λkp=>?_) λkp=>?N1
    generalize o++(a.extract k U).reverse=o at Mk ⊢;refine iD (λq1=>am ⟨p.E.set _,Mk.endA' q1⟩) λq1=>?_
    have W:=Nat.pos_of_ne_zero q1;clear q1 kp hc;revert W k1 k2 Mk o c k;refine id ?K1
    case N1=>
     have k0:k=U:=by lia
     rw[k0]at k2;exact(id ?K1:_) U (aB _) k2 c o p.M p.x
    intro k k1 k2 c o Mk W;have ka:=aV k1 p.x1;refine ai (eE (getElem?_pos b (Z-1) V) ?_);have L:=Mk.pushB' (cH p.y) V k2;generalize o.push b[Z-1]=e at L ⊢;refine iD (λu=>am ⟨p.E.set _,L.first' u B S⟩) λu=>?_
    have T:k-1<a.size:=by lia
    refine ai (eE (getElem?_pos a (k-1) T) ?_);refine ai (ZP ((p.E.set _).k.trans hk) ha hb sa D L W ka (Nat.sub_pos_of_lt p.y) (cG V) λl l1 O l2=>?_);dsimp only;generalize hd:Z-1-l=d;refine gF (λlp=>?_) λlp=>?N2
    generalize e++(b.extract l (Z-1)).reverse=f at O ⊢;refine iD (λH=>am ⟨p.E.set _,O.first' H B S⟩) λH=>iD (λI=>am ⟨p.E.set _,O.endB' I⟩) λI=>?_
    have K:=O.pushA' W T l2;have J:1<l:=by lia
    clear l2 O hd H I lp;revert J K f l1 d l;refine id ?K2
    case N2=>
     have l0:l=Z-1:=by lia
     rw[l0]at l2;exact(id ?K2:_) (Z-1) (aB _) d e (L.pushA' W T l2) (by have:=p.y;lia)
    intro l l1 d f K J;refine ai (eE (getElem?_pos a (k-1) T) ?_);refine iD (λv=>am ⟨p.E.set _,K.endA' v⟩) λv=>?_
    have q:∀n,n<=1->HiI C st a b (x+1+n) _ _ _ (setG t G):=λn hn=>⟨p.E.set _,K,by lia,by lia,J,by lia,by have:=p.n;lia⟩
    exact gF (λ_=>am (q _ (aB _))) λ_=>am (q _ (q_ _ _))
end
end
end Sq
namespace Sq
section
variable{C:Cq}
def SIn(C:Cq)(xs:Array Keyed)(lo hi:Nat):Prop:=∀i j,lo<=i->i<=j->j<hi->(KC C) xs i<=(KC C) xs j
structure Ch(st st':fh)(lo hi:Nat):Prop where
 perm:(arrOf st').Perm (arrOf st)
 kind:kindOf st'=kindOf st
 failed:failedOf st'=failedOf st
 pend:pendingOf st'=pendingOf st
 out:∀i,i<lo\/hi<=i->(arrOf st')[i]? = (arrOf st)[i]?
def Ch.refl(st:fh)(lo hi:Nat):Ch st st lo hi:=⟨hP _,rfl,rfl,rfl,λ_ _=>rfl⟩
def Ch.size(h:Ch st st' lo hi):(arrOf st').size=(arrOf st).size:=h.perm.size_eq
def Ch.ints(h:Ch st st' lo hi)(B:Oks C (arrOf st)):Oks C (arrOf st'):=λp Z=>B p ((d9.mp h.perm).mem_iff.mp Z)
def Ch.trans{B:fh}(h:Ch st st' lo hi)(g:Ch st' B lo hi):Ch st B lo hi:=⟨g.perm.trans h.perm,g.kind.trans h.kind,g.failed.trans h.failed,g.pend.trans h.pend,λi q=>(g.out i q).trans (h.out i q)⟩
def Ch.set (B:c.Perm (arrOf st)) (D:∀i,i<lo\/hi<=i->c[i]? = (arrOf st)[i]?):Ch st (setArr st c) lo hi:=⟨B,rfl,rfl,rfl,D⟩
section
variable{prog:eS}{A:eW}{E:Value->eM->Prop}{s:eM}[LtOk prog w A s C]
def uI (J:kindOf st=C.κ) (D:Oks C (arrOf st)) (hi:i<(arrOf st).size) (B:j<(arrOf st).size) (h:c (some (decide ((KC C) (arrOf st) i<(KC C) (arrOf st) j))) st) :
 wpS (model prog w) A E s (ltAt' i j) c st:=by
 rw[jF hi,jF B]at h;rw[ltAt'_eq];refine ai (cb ?_);exact ai (eE (getElem?_pos _ i hi) (ai (eE (getElem?_pos _ j B) (Bp J (D _ (by simp)) (D _ (by simp)) h))))
def Gap(C:Cq)(xs:Array Keyed)(lo k l r:Nat):Prop:=(∀i,i<l->(KC C) xs (lo+i)<=(KC C) xs (lo+k))/\∀i,r<=i->i<k->(KC C) xs (lo+k)<(KC C) xs (lo+i)
def Wj{ok:Nat}{Q:Bool->fh->Prop}(B:kindOf st=C.κ)(D:Oks C (arrOf st))(hn:lo+n<=(arrOf st).size)(hok:ok<=n)(hs:(SIn C) (arrOf st) lo (lo+ok))
 (h:∀st',Ch st st' lo (lo+n)->(SIn C) (arrOf st') lo (lo+n)->Q true st'):wpS (model prog w) A E s (binarySort' lo n ok) Q st:=by
 rw[binarySort'_eq];refine ai (bj (aS (I:=λk c st'=>c=(none,())/\Ch st st' lo (lo+n)/\(SIn C) (arrOf st') lo (lo+min k n))
  (Q:=λc st'=>c=(none,())/\Ch st st' lo (lo+n)/\(SIn C) (arrOf st') lo (lo+n)) ?s1 ?f1 ?z1) ?p1)
 case p1=>
  rintro c st' ⟨rfl,ch,X⟩;exact am (h st' ch X)
 case z1=>
  refine⟨rfl,Ch.refl _ _ _,λi j O P L=>?_⟩;by_cases h1:ok=0
  .rw[show i=j by lia];exact gw _
  .exact hs i j O P (by lia)
 case f1=>
  rintro c st' ⟨J,ch,X⟩;refine⟨J,ch,?_⟩;rwa[show min (max (max ok 1) n) n=n by lia]at X
 case s1=>
  rintro k c st' k1 k2 ⟨rfl,ch,X⟩;rw[show min k n=k by lia]at X;have sz:=ch.size;have Y:lo+k<(arrOf st').size:=by lia
  have R:=ch.ints D;refine ai (bj (aS (I:=λx c Z=>∃l r,((Z=st'/\c=(none,l,r))/\l<=r/\r<=k/\r-l<=k-x)/\(Gap C) (arrOf st') lo k l r) (Q:=λc Z=>∃l r,((Z=st'/\c=(none,l,r))/\l<=k)/\(Gap C) (arrOf st') lo k l l) ?s2 ?f2 ?z2) ?p2)
  case z2=>exact⟨0,k,⟨⟨rfl,rfl⟩,by lia,by lia,by lia⟩,λi hi=>by lia,λi h1 h2=>by lia⟩
  case f2=>
   rintro c Z ⟨l,r,⟨⟨rfl,rfl⟩,q1,q2,M⟩,V,W⟩;have:l=r:=by lia
   subst this;exact⟨l,l,⟨⟨rfl,rfl⟩,q2⟩,V,W⟩
  case s2=>
   rintro x c Z _ H ⟨l,r,⟨⟨rfl,rfl⟩,q1,q2,M⟩,V,W⟩;dsimp only;by_cases N:l≥r
   .refine jR N ?_;have:l=r:=by lia
    subst this;exact am ⟨l,l,⟨⟨rfl,rfl⟩,q2⟩,V,W⟩
   .refine jP N ?_;refine ai (uI (ch.kind.trans B) R Y (by lia) ?_);by_cases U:(KC C) (arrOf Z) (lo+k)<(KC C) (arrOf Z) (lo+(l+r)/2)
    .simp only[U,decide_true,if_true];refine am ⟨l,(l+r)/2,⟨⟨rfl,rfl⟩,by lia,by lia,by lia⟩,V,λi h1 h2=>?_⟩;exact Int.lt_of_lt_of_le U (X _ _ (by lia) (by lia) (by lia))
    .simp only[U,decide_false,fL,if_false];refine am ⟨(l+r)/2+1,r,⟨⟨rfl,rfl⟩,by lia,by lia,by lia⟩,λi h1=>?_,W⟩;exact j_ (X (lo+i) (lo+(l+r)/2) (by lia) (by lia) (by lia)) (Int.not_lt.mp U)
  case p2=>
   rintro c Z ⟨l,r,⟨⟨rfl,rfl⟩,K⟩,V,W⟩;show wpS _ _ _ _ (do moveDown' (lo+k) (lo+l);pure (f6 (none,()))) _ _;rw[moveDown'_eq];refine ai (bE (am ⟨rfl,ch.trans (Ch.set (bubble_perm _ _ _) λi hi=>?_),?_⟩))
   .rw[eh Y _ (by lia)];rw[if_neg (by lia),if_neg (by lia)]
   have mk:min (k+1) n=k+1:=by lia
   rw[mk];intro i j O P L;rw[K_bubble Y (by lia),K_bubble Y (by lia),show lo+k-(lo+k-(lo+l))=lo+l by lia];have T:∀x,lo<=x->x<lo+l->(KC C) (arrOf Z) x<=(KC C) (arrOf Z) (lo+k):=λx h1 h2=>by
    have:=V (x-lo) (by lia);rwa[show lo+(x-lo)=x by lia]at this
   have S:∀x,lo+l<=x->x<lo+k->(KC C) (arrOf Z) (lo+k)<(KC C) (arrOf Z) x:=λx h1 h2=>by
    have:=W (x-lo) (by lia) (by lia);rwa[show lo+(x-lo)=x by lia]at this
   repeat' split
   all_goals first
    | (exfalso;lia)
    |exact gw _
    |exact T _ (by lia) (by lia)
    |exact oV (S _ (by lia) (by lia))
    |exact X _ _ (by lia) (by lia) (by lia)
end
end
end Sq
namespace Sq
section
variable{C:Cq}
def putAll(x:Array Keyed)(B:Nat)(m:List Keyed):Array Keyed:=m.zipIdx.foldl (λa q=>a.setIfInBounds (B+q.2) q.1) x
theorem Mz:∀(m:List Keyed)(n B:Nat)(x:Array Keyed),B+n+m.length<=x.size ->
 ((m.zipIdx n).foldl (λa q=>a.setIfInBounds (B+q.2) q.1) x).size=x.size/\∀j,((m.zipIdx n).foldl (λa q=>a.setIfInBounds (B+q.2) q.1) x)[j]? = if B+n<=j/\j<B+n+m.length then m[j-(B+n)]? else x[j]?
 |[],n,B,x,_=>⟨rfl,λj=>by rw[if_neg (by simp only[h_];lia)];rfl⟩
 |p::m,n,B,x,h=>by
  rw[aX]at h;obtain⟨h1,h2⟩:=Mz m (n+1) B (x.setIfInBounds (B+n) p) (by rw[qy];lia);rw[List.zipIdx_cons,g_];refine⟨h1.trans qy,λj=>?_⟩;rw[h2 j,aX];by_cases Y:B+(n+1)<=j/\j<B+(n+1)+m.length
  .rw[if_pos Y,if_pos (by lia),show j-(B+n)=(j-(B+(n+1)))+1 by lia,List.getElem?_cons_succ]
  .rw[if_neg Y,Array.getElem?_setIfInBounds];by_cases Z:B+n=j
   .rw[if_pos Z,if_pos (by lia),if_pos (by lia),show j-(B+n)=0 by lia,List.getElem?_cons_zero]
   .rw[if_neg Z,if_neg (by lia)]
def Kw (h:B+m.length<=c.size) (j:Nat):(putAll c B m)[j]? = if B<=j/\j<B+m.length then m[j-B]? else c[j]?:=by
 have:=(Mz m 0 B c (by lia)).2 j;simpa[putAll]using this
def RP (h:B+m.length<=c.size):(putAll c B m).toList=c.toList.take B++(m++c.toList.drop (B+m.length)):=by
 apply dY;intro j;rw[cj,Kw h];by_cases Z:j<B
 .rw[if_neg (by lia),b_ (by simp;lia),lB Z,cj]
 .have l1:(c.toList.take B).length=B:=by simp;lia
  rw[bV (by lia),l1];by_cases Y:j<B+m.length
  .rw[if_pos (by lia),b_ (by lia)]
  .rw[if_neg (by lia),bV (by lia),d8,cj];congr 1;lia
def RQ (h:B+m.length<=c.size) (p:m.Perm ((c.toList.drop B).take m.length)):(putAll c B m).Perm c:=by
 rw[d9,RP h];have e:c.toList=c.toList.take B++((c.toList.drop B).take m.length++c.toList.drop (B+m.length)):=by
  rw[<-mG,fu,fu]
 refine gk (fR _ (gi _ p)) ?_;rw[<-e]
end
end Sq
namespace Sq
section
variable{C:Cq}
section
variable{prog:eS}{A:eW}{E:Value->eM->Prop}{s:eM}[LtOk prog w A s C]
def RV {st B:σ} {Q:PUnit->σ->Prop} (h:Q ⟨⟩ B):wpS M A E s (set B:StateT σ Sem PUnit) Q st:=bE (f:=λ_=>B) h
def zP{x:Array Keyed}(h:Oks C x):∀p∈(x.extract i j).toList,C.ok p:=λp Z=>h p (by
 rw[iy]at Z;exact tQ (nU Z))
def wV{x:Array Keyed}(B:i<=j)(D:j<=x.size):(x.extract i j).size=j-i:=by rw[Array.size_extract];lia
def uh {x:Array Keyed}(D:j<=x.size) (B:i+k<j):(KC C) (x.extract i j) k=(KC C) x (i+k):=by
 unfold KC;rw[Array.getElem?_extract,if_pos (by lia)]
def Yj (h:∀i j,i<=j->j<c.size->(KC C) c i<=(KC C) c j):c.toList.Pairwise (R C):=dF.mpr λi j hi Y Z=>by
 have:=h i j (cG Z) (by simpa using Y);rw[jF (by simpa using hi),jF (by simpa using Y)]at this;unfold R;simpa using this
def Ky {e:Nat}(sa1:sa<=k) (h1:k<B) (h2:B<=m) (h3:m<=e) (h4:e<=c.size) (s1:(SIn C) c sa B) (s2:(SIn C) c B e) (low:∀u,sa<=u->u<k->(KC C) c u<=(KC C) c B) (dn:∀v,k<=v->v<m->(KC C) c B<=(KC C) c v)
 (up:∀v,k<=v->v<m->(KC C) c v<=(KC C) c (B-1)) (J:∀v,m<=v->v<e->(KC C) c (B-1)<=(KC C) c v) (D:(Res C) (c.extract k B) (c.extract B m) r) :
 (putAll c k r.toList).Perm c/\(∀j,j<sa\/e<=j->(putAll c k r.toList)[j]? = c[j]?)/\(SIn C) (putAll c k r.toList) sa e:=by
 have H:r.toList.length=m-k:=by
  rw[D.P.length_eq,bL,bh,bh,wV (cG h1) (by lia),wV h2 (by lia)];lia
 have M:k+r.toList.length<=c.size:=by lia
 have cut:(c.toList.drop k).take r.toList.length=(c.extract k B).toList++(c.extract B m).toList:=by
  rw[iy,iy,H,show m-k=(B-k)+(m-B)by lia,List.take_add,mG,show k+(B-k)=B by lia]
 have inn:∀u,k<=u->u<m->(putAll c k r.toList)[u]? = r.toList[u-k]?:=λu Z Y=>by rw[Kw M,if_pos (by lia)]
 have out:∀u,u<k\/m<=u->(putAll c k r.toList)[u]? = c[u]?:=λu hu=>by rw[Kw M,if_neg (by lia)]
 have T:∀u,k<=u->u<m->∃v,k<=v/\v<m/\(KC C) (putAll c k r.toList) u=(KC C) c v:=λu Z Y=>by
  have hu:u-k<r.toList.length:=by lia
  have hm:r.toList[u-k]∈(c.toList.drop k).take r.toList.length:=by
   rw[cut];exact D.P.mem_iff.mp (cU hu)
  obtain⟨v,X,U,F⟩:=rH hm;refine⟨k+v,by lia,by lia,?_⟩;rw[jF U,<-F];unfold KC;rw[inn u Z Y,aA hu]
 have G:∀u v,k<=u->u<=v->v<m->(KC C) (putAll c k r.toList) u<=(KC C) (putAll c k r.toList) v:=λu v Z R X=>by
  have eq:∀u,k<=u->u<m->(KC C) (putAll c k r.toList) u=(KC C) r (u-k):=λu Z Y=>K_congr (by rw[inn u Z Y,cj])
  rw[eq u Z (by lia),eq v (by lia) X];exact K_R D.S (by lia) (by rw[<-bh];lia)
 refine⟨RQ M (by rw[cut];exact D.P),λj E=>out j (by lia),λu v Z R X=>?_⟩;by_cases Y:u<k
 .rw[K_congr (out u (.inl Y))];by_cases U:v<k
  .rw[K_congr (out v (.inl U))];exact s1 u v Z R (j9 U h1)
  .by_cases V:v<m
   .obtain⟨t,N,O,Q⟩:=T v (iG U) V;rw[Q];exact j_ (low u Z Y) (dn t N O)
   .have W:=iG V;rw[K_congr (out v (.inr W))];exact j_ (low u Z Y) (s2 B v (aB _) (aV h2 W) X)
 .have I:=iG Y;by_cases V:v<m
  .exact G u v I R V
  .have W:=iG V;rw[K_congr (out v (.inr W))];by_cases K:u<m
   .obtain⟨t,N,O,Q⟩:=T u I K;rw[Q];exact j_ (up t N O) (J v W X)
   .have L:=iG K;rw[K_congr (out u (.inr L))];exact s2 u v (aV h2 L) R X
def Im {Q:Bool->fh->Prop} (J:kindOf st=C.κ) (D:failedOf st=none) (h0:Oks C (arrOf st)) (e1:(pendingOf st)[i]? = some (sa,na,q0)) (e2:(pendingOf st)[i+1]? = some (B,nb,q1)) (hc:B=sa+na) (hn:B+nb<=(arrOf st).size) (n1:0<na) (n2:0<nb)
 (s1:(SIn C) (arrOf st) sa B) (s2:(SIn C) (arrOf st) B (B+nb))
 (h:∀st',(arrOf st').Perm (arrOf st)->kindOf st'=C.κ->failedOf st'=none->pendingOf st'=((pendingOf st).setIfInBounds i (sa,na+nb,q0)).eraseIdxIfInBounds (i+1)->(∀j,j<sa\/B+nb<=j->(arrOf st')[j]? = (arrOf st)[j]?)->(SIn C) (arrOf st') sa (B+nb)->Q true st') :
 wpS (model prog w) A E s (mergeAt' i) Q st:=by
 have H:∀q0∈(arrOf st).toList,C.ok q0:=h0;have X:B<(arrOf st).size:=by lia
 have hla:sa+na-1<(arrOf st).size:=by lia
 refine ai (m:=get) (cb ?_);rw[e1,e2];dsimp only;refine ai (RV ?_);refine ai (eE (getElem?_pos (arrOf st) B X) ?_);have Kb:(KC C) (arrOf st) B=C.nu ((arrOf st)[B]):=jF X;refine ai (nD (arr:=arrOf st) (base:=sa) (n:=na) (hint:=0) J (nM H X) H (by lia) n1 (λa b ab b1 M=>?_) λk k1 k2 k3=>?_)
 .unfold Pb at M ⊢;have:=s1 (sa+a) (sa+b) (by lia) (by lia) (by lia);rw[if_neg bA,f9,decide_eq_false_iff_not]at M ⊢;lia
 have lo1:∀u,u<k->(KC C) (arrOf st) (sa+u)<=(KC C) (arrOf st) B:=λu hu=>by
  have:=k2 u hu;unfold Pb at this;rw[if_neg bA,f9,decide_eq_false_iff_not]at this;lia
 have V:∀u,k<=u->u<na->(KC C) (arrOf st) B<(KC C) (arrOf st) (sa+u):=λu Y S=>by
  have:=k3 u Y S;unfold Pb at this;rw[if_neg bA,pF,decide_eq_true_iff]at this;lia
 dsimp only;by_cases c1:na-k=0
 .refine jR (by simpa using c1) ?_;refine am (h _ (hP _) J D rfl (λ_ _=>rfl) λu v Y I Z=>?_);show(KC C) (arrOf st) u<=(KC C) (arrOf st) v;by_cases K:v<B
  .exact s1 u v Y I K
  .by_cases S:u<B
   .have L:=lo1 (u-sa) (by lia);have G:=s2 B v (aB _) (by lia) Z;rw[show sa+(u-sa)=u by lia]at L;lia
   .exact s2 u v (by lia) I Z
 refine jP (by simpa using c1) ?_;have W:sa+k+(na-k)-1<(arrOf st).size:=by lia
 have t:sa+k+(na-k)-1=B-1:=by lia
 refine ai (eE (getElem?_pos (arrOf st) (sa+k+(na-k)-1) W) ?_);have Ka:(KC C) (arrOf st) (B-1)=C.nu ((arrOf st)[sa+k+(na-k)-1]):=by rw[<-t];exact jF W
 refine ai (nD (arr:=arrOf st) (base:=B) (n:=nb) (hint:=nb-1) J (nM H W) H (by lia) (by lia) (λa b ab b1 M=>?_) λl l1 l2 l3=>?_)
 .unfold Pb at M ⊢;have:=s2 (B+a) (B+b) (by lia) (by lia) (by lia);rw[if_pos rfl,decide_eq_true_iff]at M ⊢;lia
 have P:∀u,u<l->(KC C) (arrOf st) (B+u)<(KC C) (arrOf st) (B-1):=λu hu=>by
  have:=l2 u hu;unfold Pb at this;rw[if_pos rfl,decide_eq_true_iff]at this;lia
 have N:∀u,l<=u->u<nb->(KC C) (arrOf st) (B-1)<=(KC C) (arrOf st) (B+u):=λu Y S=>by
  have:=l3 u Y S;unfold Pb at this;rw[if_pos rfl,decide_eq_false_iff_not]at this;lia
 dsimp only;have c:0<l:=by
  rcases vd l with z|z
  .have L:=N 0 (by lia) n2;have G:=V (na-1) (by lia) (by lia);rw[show sa+(na-1)=B-1 by lia]at G;rw[kh]at L;lia
  .exact z
 refine jP (by simpa using mD c) ?_;have F:((arrOf st).extract (sa+k) B).size=B-(sa+k):=wV (by lia) (by lia);have q:((arrOf st).extract B (B+l)).size=l:=by rw[wV (by lia) (by lia)];lia
 have g:((arrOf st).extract (sa+k) B).toList.Pairwise (R C):=Yj λu v I Z=>by
  rw[F]at Z;rw[uh (by lia) (by lia),uh (by lia) (by lia)];exact s1 _ _ (by lia) (by lia) (by lia)
 have o:((arrOf st).extract B (B+l)).toList.Pairwise (R C):=Yj λu v I Z=>by
  rw[q]at Z;rw[uh (by lia) (by lia),uh (by lia) (by lia)];exact s2 _ _ (by lia) (by lia) (by lia)
 have f0:(KC C) ((arrOf st).extract B (B+l)) 0<(KC C) ((arrOf st).extract (sa+k) B) 0:=by
  rw[uh (by lia) (by lia),uh (by lia) (by lia),kh,kh];exact V k (aB _) (by lia)
 have xl:((arrOf st).extract (sa+k) B).size-1<((arrOf st).extract (sa+k) B).size:=by lia
 have fl:∀y∈((arrOf st).extract B (B+l)).toList,(R C) y (((arrOf st).extract (sa+k) B)[((arrOf st).extract (sa+k) B).size-1]'xl):=λy hy=>by
  obtain⟨u,Y,rfl⟩:=pR (x:=(arrOf st).extract B (B+l)) (i:=0) (by rw[dM];exact hy);have L:=jF (C:=C) Y;have G:=jF (C:=C) xl;unfold R;rw[<-L,<-G,uh (by lia) (by lia),uh (by lia) (by lia)];have:=P (0+u) (by lia);rw[F,show sa+k+(B-(sa+k)-1)=B-1 by lia];lia
 have fin:∀(r:Array Keyed)(st':fh),(Res C) ((arrOf st).extract (sa+k) B) ((arrOf st).extract B (B+l)) r->kindOf st'=kindOf st->arrOf st'=arrOf st->failedOf st'=failedOf st->pendingOf st'=((pendingOf st).setIfInBounds i (sa,na+nb,q0)).eraseIdxIfInBounds (i+1) ->
  Q true (setArr st' (putAll (arrOf st) (sa+k) r.toList)):=λr st' O g1 g2 g3 g4=>by
  obtain⟨p1,q1,p3⟩:=Ky (sa:=sa) (e:=B+nb) (jr ..) (by lia) (jr ..) (by lia) hn s1 s2 (λu Y S=>by
   have:=lo1 (u-sa) (by lia);rwa[show sa+(u-sa)=u by lia]at this) (λv Z K=>by
   by_cases z:v<B
   .have:=V (v-sa) (by lia) (by lia);rw[show sa+(v-sa)=v by lia]at this;exact oV this
   .exact s2 B v (aB _) (by lia) (by lia)) (λv Z K=>by
   by_cases z:v<B
   .exact s1 v (B-1) (by lia) (by lia) (by lia)
   .have:=P (v-B) (by lia);rw[show B+(v-B)=v by lia]at this;exact oV this) (λv Z K=>by
   have:=N (v-B) (by lia) (by lia);rwa[show B+(v-B)=v by lia]at this) O
  exact h _ p1 (g1.trans J) (g3.trans D) g4 q1 p3
 have T:0<((arrOf st).extract (sa+k) B).size:=by rw[F];lia
 have U:0<((arrOf st).extract B (B+l)).size:=by rw[q];exact c
 have d:(failedOf st).isNone=true:=by rw[D];rfl
 split
 .refine ai (Ik J (zP h0) (zP h0) T U g o f0 fl λr st' O E=>?_);refine ai (bE (ai (cb (am ?_))));have:=fin r st' O E.k E.a E.f E.p;rw[<-E.a]at this;have e:(failedOf st').isNone=true:=by rw[E.f];exact d
  show Q (failedOf st').isNone _;rw[e];exact this
 .refine ai (Il J (zP h0) (zP h0) T U g o f0 fl λr st' O E=>?_);refine ai (bE (ai (cb (am ?_))));have:=fin r st' O E.k E.a E.f E.p;rw[<-E.a]at this;have e:(failedOf st').isNone=true:=by rw[E.f];exact d
  show Q (failedOf st').isNone _;rw[e];exact this
end
end
end Sq
namespace Sq
section
variable{C:Cq}
def NIn(C:Cq)(xs:Array Keyed)(lo hi:Nat):Prop:=∀i j,lo<=i->i<=j->j<hi->(KC C) xs j<=(KC C) xs i
section
variable{prog:eS}{A:eW}{E:Value->eM->Prop}{s:eM}[LtOk prog w A s C]
def uJ(h1:lo<=i)(h2:j<=hi)(B:j<=(arrOf st).size):Ch st (setArr st (mirror (arrOf st) i j ((j-i)/2))) lo hi:=
 Ch.set (mirror_perm _ _ _ _) λu hu=>by rw[c9 B,if_neg (by lia)]
def SIn.one (h:hi<=lo+1):(SIn C) c lo hi:=λi j h1 h2 Z=>by
 have:i=j:=by lia
 subst this;exact gw _
def SIn.more {xs:Array Keyed}(h:(SIn C) xs lo (lo+n)) (hn:1<=n) (q:¬(KC C) xs (lo+n)<(KC C) xs (lo+n-1)):(SIn C) xs lo (lo+(n+1)):=λi j h1 h2 Y=>by
 by_cases z:j<lo+n
 .exact h i j h1 h2 z
 .have Z:j=lo+n:=by lia
  subst Z;by_cases y:i=lo+n
  .rw[y];exact gw _
  .have:=h i (lo+n-1) h1 (by lia) (by lia);lia
def NIn.more {xs:Array Keyed}(h:(NIn C) xs lo (lo+n)) (hn:1<=n) (q:(KC C) xs (lo+n)<=(KC C) xs (lo+n-1)):(NIn C) xs lo (lo+(n+1)):=λi j h1 h2 Y=>by
 by_cases z:j<lo+n
 .exact h i j h1 h2 z
 .have Z:j=lo+n:=by lia
  subst Z;by_cases y:i=lo+n
  .rw[y];exact gw _
  .have:=h i (lo+n-1) h1 (by lia) (by lia);lia
def O3{B:Nat}{Q:Option Nat->fh->Prop}(D:kindOf st=C.κ)(J:Oks C (arrOf st))(h1:1<=B)(hn:lo+B<=(arrOf st).size)
 (h:∀m st',Ch st st' lo (lo+B)->1<=m->m<=B->(SIn C) (arrOf st') lo (lo+m)->Q (some m) st'):wpS (model prog w) A E s (countRun' lo B) Q st:=by
 refine ai (bj (aS (a:=1) (b:=B) (I:=λx c st'=>st'=st/\c=(none,x)/\(SIn C) (arrOf st) lo (lo+x))
  (Q:=λc st'=>st'=st/\∃n,c=(none,n)/\1<=n/\n<=B/\(SIn C) (arrOf st) lo (lo+n)/\(n=B\/(KC C) (arrOf st) (lo+n)<(KC C) (arrOf st) (lo+n-1))) ?s1 ?f1 ⟨rfl,rfl,SIn.one (by lia)⟩) ?p1)
 case f1=>
  rintro c st' ⟨rfl,rfl,V⟩;rw[show max 1 B=B by lia]at V ⊢;exact⟨rfl,B,rfl,h1,aB _,V,.inl rfl⟩
 case s1=>
  rintro x c st' x1 x2 ⟨rfl,rfl,V⟩;refine ai (uI D J (by lia) (by lia) ?_);exact gF (λlt=>am ⟨rfl,x,rfl,x1,cG x2,V,.inr (of_decide_eq_true lt)⟩) λlt=>am ⟨rfl,rfl,V.more x1 λz=>lt (dTr z)⟩
 case p1=>
  rintro c st' ⟨rfl,n,rfl,n1,n2,V,r⟩;refine iD (λf=>am (h n st' (Ch.refl _ _ _) n1 n2 V)) λf=>?_
  have lt:=r.resolve_left f;have n3:=u_ n2 f;refine gF (λc2=>?_) λc2=>?N1
  refine ai (uI D J (by lia) (by lia) ?_);refine gF (λe=>am (h n st' (Ch.refl _ _ _) n1 (cG n3) V)) λd=>?_
  have e:¬(KC C) (arrOf st') lo<(KC C) (arrOf st') (lo+n-1):=λz=>d (dTr z)
  refine ai (dW ?_);have al:∀u,lo<=u->u<lo+n->(KC C) (arrOf st') u=(KC C) (arrOf st') (lo+n-1):=λu K F=>by
   have a1:=V lo u (aB _) K F;have a2:=V u (lo+n-1) K (by lia) (by lia);lia
  have ch:Ch st' (setArr st' (mirror (arrOf st') lo (lo+n) ((lo+n-lo)/2))) lo (lo+B):=uJ (aB _) (by lia) (by lia);have O:=K_mirror_equal (xs:=arrOf st') (i:=lo) (j:=lo+n) (by lia) al;have H:(NIn C) (arrOf (setArr st' (mirror (arrOf st') lo (lo+n) ((lo+n-lo)/2)))) lo (lo+(n+1)):=λi j i1 G j1=>by
   show(KC C) (mirror (arrOf st') lo (lo+n) ((lo+n-lo)/2)) j<=(KC C) (mirror (arrOf st') lo (lo+n) ((lo+n-lo)/2)) i;rw[O,O];clear O ch V D J hn h;by_cases z:j<lo+n
   .rw[al i i1 (by lia),al j (by lia) z];exact gw _
   .have g:j=lo+n:=by lia
    subst g;by_cases y:i=lo+n
    .rw[y];exact gw _
    .rw[al i i1 (by lia)];lia
  generalize setArr st' (mirror (arrOf st') lo (lo+n) ((lo+n-lo)/2))=v at ch H ⊢;clear al O c2 e d V lt;revert H ch v;refine id ?K1
  case N1=>
   refine(id ?K1:_) st' (Ch.refl _ _ _) λi j i1 G j1=>?_
   clear V D J hn h;by_cases y:i=j
   .rw[y];exact gw _
   .have ei:i=lo:=by lia
    have g:j=lo+n:=by lia
    rw[ei,g];rw[show lo+n-1=lo by lia]at lt;lia
  intro v ch H;refine ai (c_ (a9 ⟨rfl,?_⟩));refine ai (bj (aS (I:=λx c Z=>∃q,c=(none,x,q)/\Ch st' Z lo (lo+B)/\(NIn C) (arrOf Z) lo (lo+x)/\q+1<=x/\∀u,lo+x-(q+1)<=u->u<lo+x->(KC C) (arrOf Z) u=(KC C) (arrOf Z) (lo+x-1))
   (Q:=λc Z=>∃m q,c=(none,m,q)/\n+1<=m/\m<=B/\Ch st' Z lo (lo+B)/\(NIn C) (arrOf Z) lo (lo+m)/\q+1<=m/\∀u,lo+m-(q+1)<=u->u<lo+m->(KC C) (arrOf Z) u=(KC C) (arrOf Z) (lo+m-1)) ?s2 ?f2 ⟨0,rfl,ch,H,by lia,λu K F=>by congr 1;lia⟩) ?p2)
  case f2=>
   rintro c Z ⟨q,rfl,Y,X,q1,U⟩;rw[show max (n+1) B=B by lia]at X q1 U ⊢;exact⟨B,q,rfl,n3,aB _,Y,X,q1,U⟩
  case s2=>
   rintro x c Z x1 x2 ⟨q,rfl,Y,X,q1,U⟩;dsimp only;clear H ch;have sz:=Y.size;have z1:lo+x<(arrOf Z).size:=by lia
   have z2:lo+x-1<(arrOf Z).size:=by lia
   have l:1<=x:=by lia
   refine ai (uI (Y.kind.trans D) (Y.ints J) z1 z2 ?_);refine gF (λS=>?_) λS=>ai (uI (Y.kind.trans D) (Y.ints J) z2 z1 (gF (λL=>am ⟨x,q,rfl,x1,cG x2,Y,X,q1,U⟩) λL=>am ⟨q+1,rfl,Y,X.more l ?_,rB q1,λu K F=>?_⟩))
   .have S:=of_decide_eq_true S;refine gF (λo=>ai (dW (am ⟨0,rfl,Y.trans (uJ (by lia) (by lia) (cG z1)),λi j i1 G j1=>?_,Nat.le_add_left ..,λu K F=>by congr 1;lia⟩))) λo=>am ⟨0,rfl,Y,X.more l (oV S),Nat.le_add_left ..,λu K F=>by congr 1;lia⟩
    have O:=K_mirror_equal (xs:=arrOf Z) (i:=lo+x-(q+1)) (j:=lo+x) (cG z1) U;show(KC C) (mirror (arrOf Z) (lo+x-(q+1)) (lo+x) _) j<=(KC C) (mirror (arrOf Z) (lo+x-(q+1)) (lo+x) _) i;rw[O,O];exact X.more l (oV S) i j i1 G j1
   .exact Int.not_lt.mp λz=>L (dTr z)
   .rw[show lo+(x+1)-1=lo+x by lia];by_cases z:u=lo+x
    .rw[z]
    .rw[U u (by lia) (by lia)];have a:¬(KC C) (arrOf Z) (lo+x)<(KC C) (arrOf Z) (lo+x-1):=λz=>S (dTr z)
     have b:¬(KC C) (arrOf Z) (lo+x-1)<(KC C) (arrOf Z) (lo+x):=λz=>L (dTr z)
     lia
  case p2=>
   rintro c Z ⟨m,q,rfl,m1,m2,Y,X,q1,U⟩;dsimp only;clear H ch;have sz:=Y.size;refine gF (λo=>?_) λo=>?N2
   refine ai (dW ?_);have O:=K_mirror_equal (xs:=arrOf Z) (i:=lo+m-(q+1)) (j:=lo+m) (by lia) U;have R:Ch st' (setArr Z (mirror (arrOf Z) (lo+m-(q+1)) (lo+m) ((lo+m-(lo+m-(q+1)))/2))) lo (lo+B):=Y.trans (uJ (by lia) (by lia) (by lia));have P:(NIn C) (arrOf (setArr Z (mirror (arrOf Z) (lo+m-(q+1)) (lo+m) ((lo+m-(lo+m-(q+1)))/2)))) lo (lo+m):=λi j i1 G j1=>by
    show(KC C) (mirror (arrOf Z) (lo+m-(q+1)) (lo+m) _) j<=(KC C) (mirror (arrOf Z) (lo+m-(q+1)) (lo+m) _) i;rw[O,O];exact X i j i1 G j1
   generalize setArr Z (mirror (arrOf Z) (lo+m-(q+1)) (lo+m) ((lo+m-(lo+m-(q+1)))/2))=W at R P ⊢;clear O o sz;revert P R W;refine id ?K2
   case N2=>exact(id ?K2:_) Z Y X
   intro W R P;clear U X Y q1;have k:=R.size;refine ai (dW ?_);have N:Ch st' (setArr W (mirror (arrOf W) lo (lo+m) ((lo+m-lo)/2))) lo (lo+B):=R.trans (uJ (aB _) (by lia) (by lia));have t:(SIn C) (arrOf (setArr W (mirror (arrOf W) lo (lo+m) ((lo+m-lo)/2)))) lo (lo+m):=λi j i1 G j1=>by
    show(KC C) (mirror (arrOf W) lo (lo+m) ((lo+m-lo)/2)) i<=(KC C) (mirror (arrOf W) lo (lo+m) ((lo+m-lo)/2)) j;rw[K_mirror (by lia),K_mirror (by lia),if_pos (by lia),if_pos (by lia)];exact P _ _ (by lia) (by lia) (by lia)
   generalize setArr W (mirror (arrOf W) lo (lo+m) ((lo+m-lo)/2))=M at N t ⊢;have sz5:=N.size;clear R P k;refine ai (bj (aS (I:=λx c T=>T=M/\c=(none,x)/\(SIn C) (arrOf M) lo (lo+x)) (Q:=λc T=>T=M/\∃z,c=(none,z)/\m<=z/\z<=B/\(SIn C) (arrOf M) lo (lo+z)) ?s3 ?f3 ⟨rfl,rfl,t⟩) ?p3)
   case f3=>
    rintro c T ⟨rfl,rfl,V⟩;rw[show max m B=B by lia]at V ⊢;exact⟨rfl,B,rfl,m2,aB _,V⟩
   case s3=>
    rintro x c T x1 x2 ⟨rfl,rfl,V⟩;refine ai (uI (N.kind.trans D) (N.ints J) (by lia) (by lia) ?_);exact gF (λp=>am ⟨rfl,x,rfl,x1,cG x2,V⟩) λp=>am ⟨rfl,rfl,V.more (by lia) λz=>p (dTr z)⟩
   case p3=>
    rintro c T ⟨rfl,z,rfl,z1,z2,V⟩;exact am (h z T N (by lia) z2 V)
end
end
end Sq
variable{st0:fh}
namespace Sq
section
variable{C:Cq}
def Runs(C:Cq)(xs:Array Keyed):List (Nat×Nat×Nat)->Nat->Nat->Prop
 |[],a,b=>a=b
 | (st,len,_)::r,a,b=>st=a/\0<len/\(SIn C) xs a (a+len)/\(Runs C) xs r (a+len) b
theorem Runs.le : ∀{ps:List (Nat×Nat×Nat)}{a b:Nat},(Runs C) c ps a b->a+ps.length<=b
 |[],a,b,h=>by have:a=b:=h;simp only[h_];lia
 | (st,len,_)::r,a,b,h=>by
  have:=h.2.2.2.le;have:=h.2.1;rw[aX];lia
def SIn.same (h:(SIn C) c lo hi) (e:∀j,lo<=j->j<hi->(KC C) ys j=(KC C) c j):(SIn C) ys lo hi:=λi j h1 h2 Z=>by
 rw[e i h1 (by lia),e j (by lia) Z];exact h i j h1 h2 Z
theorem Runs.same : ∀{ps:List (Nat×Nat×Nat)}{a b:Nat},(Runs C) c ps a b->(∀j,a<=j->j<b->(KC C) ys j=(KC C) c j)->(Runs C) ys ps a b
 |[],a,b,h,_=>h
 | (st,len,p)::r,a,b,h,e=>by
  have l:=h.2.2.2.le;exact⟨h.1,h.2.1,h.2.2.1.same λj j1 j2=>e j j1 (by lia),Runs.same h.2.2.2 λj j1 j2=>e j (by lia) j2⟩
theorem Runs.app : ∀{ps:List (Nat×Nat×Nat)}{a b c p:Nat},(Runs C) k ps a b->0<c->(SIn C) k b (b+c)->(Runs C) k (ps++[(b,c,p)]) a (b+c)
 |[],a,b,c,p,h,h1,h2=>by
  have:a=b:=h;subst this;exact⟨rfl,h1,h2,rfl⟩
 | (st,len,q)::r,a,b,c,p,h,h1,h2=>⟨h.1,h.2.1,h.2.2.1,Runs.app h.2.2.2 h1 h2⟩
theorem Runs.pw (f:Nat×Nat×Nat->Nat):∀{ps:List (Nat×Nat×Nat)}{a b i:Nat},(Runs C) c ps a b->(Runs C) c (ps.modify i λq=>(q.1,q.2.1,f q)) a b
 |[],a,b,i,h=>by cases i<;>exact h
 | (st,len,q)::r,a,b,0,h=>h
 | (st,len,q)::r,a,b,i+1,h=>⟨h.1,h.2.1,h.2.2.1,Runs.pw f (i:=i) h.2.2.2⟩
theorem Runs.merge : ∀{ps:List (Nat×Nat×Nat)}{a b i sa na p B nb q:Nat},(Runs C) c ps a b->ps[i]? = some (sa,na,p)->ps[i+1]? = some (B,nb,q) ->
 (a<=sa/\B=sa+na/\0<na/\0<nb/\(SIn C) c sa B/\(SIn C) c B (B+nb)/\B+nb<=b) /\
 ∀ys,(∀j,j<sa\/B+nb<=j->(KC C) ys j=(KC C) c j)->(SIn C) ys sa (B+nb)->(Runs C) ys ((ps.set i (sa,na+nb,p)).eraseIdx (i+1)) a b
 |[],a,b,i,sa,na,p,B,nb,q,h,e1,e2=>by cases e1
 | (st,len,W)::r,a,b,0,sa,na,p,B,nb,q,h,e1,e2=>by
  cases e1
  cases r with
  |nil=>cases e2
  |cons x r=>
   cases e2;obtain⟨h1,h2,Y,Z,U,V,X⟩:=h;subst h1 Z;have l:=X.le;refine⟨⟨aB _,rfl,h2,U,Y,V,by lia⟩,λys e s=>⟨rfl,by lia,by rwa[<-uW],?_⟩⟩;have:=X.same (ys:=ys) λj j1 j2=>e j (.inr (by lia))
   rwa[<-uW]
 | (st,len,W)::r,a,b,i+1,sa,na,p,B,nb,q,h,e1,e2=>by
  obtain⟨h1,h2,Y,Z⟩:=h;subst h1;obtain⟨⟨g1,g2,g3,P,Q,R,S⟩,T⟩:=Runs.merge (i:=i) Z (by simpa using e1) (by simpa using e2);refine⟨⟨by lia,g2,g3,P,Q,R,S⟩,λys e s=>⟨rfl,h2,Y.same λj j1 j2=>e j (.inl (by lia)),?_⟩⟩;exact T ys e s
section
variable{prog:eS}{A:eW}{E:Value->eM->Prop}{s:eM}[LtOk prog w A s C]
structure W(C:Cq)(st0 st:fh)(lo:Nat):Prop where
 perm:(arrOf st).Perm (arrOf st0)
 kind:kindOf st=C.κ
 failed:failedOf st=none
 runs:(Runs C) (arrOf st) (pendingOf st).toList 0 lo
def W.ints(h:(W C) st0 st lo)(B:Oks C (arrOf st0)):Oks C (arrOf st):=λp Z=>B p ((d9.mp h.perm).mem_iff.mp Z)
def Io (J:Oks C (arrOf st0)) (B:(W C) st0 st lo) (D:lo<=(arrOf st0).size) (hi:i+1<(pendingOf st).size)
 (h:∀st',(W C) st0 st' lo->(pendingOf st').size+1=(pendingOf st).size->(∀j,lo<=j->(arrOf st')[j]? = (arrOf st)[j]?)->c true st'):wpS (model prog w) A E s (mergeAt' i) c st:=by
 obtain⟨sa,na,p,e1⟩:∃sa na p,(pendingOf st)[i]? = some (sa,na,p):=⟨_,_,_,getElem?_pos (pendingOf st) i (by lia)⟩;obtain⟨Z,nb,q,e2⟩:∃Z nb q,(pendingOf st)[i+1]? = some (Z,nb,q):=⟨_,_,_,getElem?_pos (pendingOf st) (i+1) hi⟩;obtain⟨⟨g1,g2,g3,R,S,T,L⟩,U⟩:=B.runs.merge (i:=i) (by rwa[cj]) (by rwa[cj]);have sz:=B.perm.size_eq;refine Im B.kind B.failed (B.ints J) e1 e2 g2 (by lia) g3 R S T λst' M N O V X P=>h st' ⟨M.trans B.perm,N,O,?_⟩ ?_ λj Y=>X j (.inr (by lia))
 .have:=U (arrOf st') (λj Y=>K_congr (X j Y)) P;rw[V];simpa using this
 .rw[V,<-bh,<-bh];rw[show(((pendingOf st).setIfInBounds i (sa,na+nb,p)).eraseIdxIfInBounds (i+1)).toList=((pendingOf st).toList.set i (sa,na+nb,p)).eraseIdx (i+1)by simp,List.length_eraseIdx_of_lt (by simpa using hi),cJ,bh];lia
def W.push(h:(W C) st0 st lo)(hn:0<n)(B:(SIn C) (arrOf st) lo (lo+n)):(W C) st0 (setPending st ((pendingOf st).push (lo,n,0))) (lo+n):=
 ⟨h.perm,h.kind,h.failed,by
  rw[pZ];exact h.runs.app hn B⟩
def W.pow{f:Nat×Nat×Nat->Nat}(h:(W C) st0 st lo):(W C) st0 (setPending st ((pendingOf st).modify i λq=>(q.1,q.2.1,f q))) lo:=
 ⟨h.perm,h.kind,h.failed,by
  rw[Array.toList_modify];exact h.runs.pw f⟩
def W.of (h:(W C) st0 c lo) (ch:Ch c B lo hi):(W C) st0 B lo:=
 ⟨ch.perm.trans h.perm,ch.kind.trans h.kind,ch.failed.trans h.failed,by
  rw[ch.pend];exact h.runs.same λj _ j2=>K_congr (ch.out j (.inl j2))⟩
def RW{Q:Unit->fh->Prop}(hk:kindOf st=C.κ)(hf:failedOf st=none)(hp:pendingOf st = #[])(B:Oks C (arrOf st))(h2:2<=(arrOf st).size)
 (h:∀st',(arrOf st').Perm (arrOf st)->failedOf st'=none->STo C (arrOf st') (arrOf st).size->Q () st'):wpS (model prog w) A E s sortRuns' Q st:=by
 have W0:(W C) st st 0:=⟨hP _,hk,hf,by rw[hp];rfl⟩;rw[sortRuns'_eq];refine ai (cb ?_);refine ai (bj (aS (I:=λx c st'=>∃lo,c=(none,lo)/\lo<=(arrOf st).size/\min x (arrOf st).size<=lo/\(W C) st st' lo)
  (Q:=λc st'=>c=(none,(arrOf st).size)/\(W C) st st' (arrOf st).size) ?s1 ?f1 ⟨0,rfl,cg _,by lia,W0⟩) ?p1)
 case f1=>
  rintro c st' ⟨lo,rfl,l1,l2,Ww⟩;have:lo=(arrOf st).size:=by lia
  subst this;exact⟨rfl,Ww⟩
 case s1=>
  rintro x c M _ hx ⟨lo,rfl,l1,l2,T⟩;dsimp only;have sz:=T.perm.size_eq;by_cases z:lo≥(arrOf st).size
  .refine jR z ?_;have:lo=(arrOf st).size:=by lia
   subst this;exact am ⟨rfl,T⟩
  refine jP z ?_;refine ai (O3 T.kind (T.ints B) (by lia) (by lia) λm Z ch g m2 H=>?_);by_cases D:m<minRun' (arrOf st).size (arrOf st).size 0
  case' pos=>
   refine jR D ?_;refine ai (c_ (a9 ⟨rfl,?_⟩));have t:=ch.size;have X:=T.of ch;refine ai (Wj X.kind (X.ints B) (by lia) (by lia) H λN R U=>?_);have K:∃n,n=min ((arrOf st).size-lo) (minRun' (arrOf st).size (arrOf st).size 0):=⟨_,rfl⟩;obtain⟨n,K⟩:=K;rw[<-K]at U R ⊢;have n1:1<=n:=by lia
   have n2:lo+n<=(arrOf st).size:=by lia
   have O:=X.of R;refine jP (by decide) ?_
  case' neg=>
   refine jP D ?_;have O:=T.of ch;have U:=H;have n1:=g;have n2:lo+m<=(arrOf st).size:=by lia
  all_goals
   refine ai (cb ?_);split
   .next s1 k p1 eb=>
    refine ai (bj (aS (I:=λy c Y=>c=(none,())/\(W C) st Y lo/\(SIn C) (arrOf Y) lo _) (Q:=λc Y=>c=(none,())/\(W C) st Y lo/\(SIn C) (arrOf Y) lo _) ?s2 (λ_ _ q=>q) ⟨rfl,O,U⟩) ?p2)
    case s2=>
     rintro y c Y _ e ⟨rfl,P,V⟩;refine ai (cb ?_);by_cases F:(pendingOf Y).size>1
     .rw[if_pos F];obtain⟨u,v,o,eo⟩:∃u v o,(pendingOf Y)[(pendingOf Y).size-2]? = some (u,v,o):=⟨_,_,_,getElem?_pos (pendingOf Y) _ (by lia)⟩;rw[eo];dsimp only;split
      .exact am ⟨rfl,P,V⟩
      .refine ai (Io B P l1 (by lia) λr W5 _ l=>?_);refine jP (by decide) ?_;exact am ⟨rfl,W5,V.same λj j1 _=>K_congr (l j j1)⟩
     .rw[if_neg F];exact am ⟨rfl,P,V⟩
    case p2=>
     rintro c Y ⟨rfl,P,V⟩;refine ai (bE (ai (bE (am ⟨_,rfl,n2,by lia,?_⟩))));exact(P.pow).push n1 V
   .exact ai (bE (am ⟨_,rfl,n2,by lia,O.push n1 U⟩))
 case p1=>
  rintro c M ⟨rfl,T⟩;dsimp only;have lp:=T.runs.le;rw[bh]at lp;refine ai (bj (aS (I:=λy c Z=>c=(none,())/\(W C) st Z (arrOf st).size/\((pendingOf Z).size<=1\/(pendingOf Z).size+y<=(arrOf st).size)) (Q:=λc Z=>c=(none,())/\(W C) st Z (arrOf st).size/\(pendingOf Z).size<=1) ?s3 ?f3 ⟨rfl,T,.inr (by lia)⟩) ?p3)
  case f3=>
   rintro c Z ⟨rfl,X,q⟩;exact⟨rfl,X,by lia⟩
  case s3=>
   rintro y c Z _ e ⟨rfl,X,q⟩;refine ai (cb ?_);by_cases J:(pendingOf Z).size<=1
   .refine jR J ?_;exact am ⟨rfl,X,J⟩
   refine jP J ?_;split
   all_goals
    refine ai (Io B X (aB _) (by split<;>lia) λN O q3 _=>?_);refine jP (by decide) ?_;exact am ⟨rfl,O,.inr (by lia)⟩
  case p3=>
   rintro c Z ⟨rfl,X,q⟩;refine am (h Z X.perm X.failed ?_);have S:=X.runs;have p:(pendingOf Z).toList.length<=1:=by rwa[bh]
   match hps:(pendingOf Z).toList,S,p with
   |[],S,_=>
    have:0=(arrOf st).size:=S;lia
   |[(a,b,d)],S,_=>
    obtain⟨_,_,G,L⟩:=S;have L:=L;rw[L]at G;exact λi j f j1=>G i j (cg _) f j1
end
end
end Sq
namespace XJ
open PySem.W L2 My D3
theorem zQ:∀a:List Int,qY a a=false
 |[]=>rfl
 |x::xs=>by simp[qY,zQ xs]
theorem FZ:∀{a b c:List Int},qY a b=true->qY b c=true->qY a c=true
 |[],[],_,h,_=>by cases h
 |[],_::_,[],_,h=>by cases h
 |[],_::_,_::_,_,_=>rfl
 |_::_,[],_,h,_=>by cases h
 |_::_,_::_,[],_,h=>by cases h
 |x::xs,y::ys,z::zs,h1,h2=>by
  simp only[qY]at h1 h2 ⊢;by_cases e1:x=y
  .subst e1;rw[if_pos rfl]at h1;by_cases e2:x=z
   .subst e2;rw[if_pos rfl]at h2 ⊢;exact FZ h1 h2
   .rw[if_neg e2]at h2 ⊢;exact h2
  .rw[if_neg e1]at h1;have h1:=of_decide_eq_true h1;by_cases e2:y=z
   .subst e2;rw[if_neg e1];exact dTr h1
   .rw[if_neg e2]at h2;have h2:=of_decide_eq_true h2;rw[if_neg (by lia)];exact dTr (by lia)
theorem zR:∀{a b:List Int},a≠b->qY a b=true\/qY b a=true
 |[],[],h=>absurd rfl h
 |[],_::_,_=>.inl rfl
 |_::_,[],_=>.inr rfl
 |x::xs,y::ys,h=>by
  simp only[qY];by_cases e:x=y
  .subst e;rw[if_pos rfl,if_pos rfl];exact zR λz=>h (by rw[z])
  .rw[if_neg e,if_neg (e9 e)];by_cases l:x<y
   .exact .inl (dTr l)
   .exact .inr (dTr (by lia))
def O4(k:List Int):List (List Int)->List (List Int)
 |[]=>[k]
 |q::r=>if qY k q=true then k::q::r else q::O4 k r
def dO(ks:List (List Int)):List (List Int):=ks.foldr O4 []
theorem Bt(k:List Int):∀l:List (List Int),(O4 k l).Perm (k::l)
 |[]=>.refl _
 |q::r=>by
  unfold O4;split
  .exact .refl _
  .exact((Bt k r).cons q).trans (.swap k q r)
theorem cW:∀ks:List (List Int),(dO ks).Perm ks
 |[]=>.refl _
 |k::r=>(Bt k _).trans ((cW r).cons k)
abbrev LL(a b:List Int):Prop:=qY a b=true
theorem RX(k:List Int):∀l:List (List Int),l.Pairwise LL->¬k∈l->(O4 k l).Pairwise LL
 |[],_,_=>gW _ _
 |q::r,h,Y=>by
  have h':=bI.mp h;unfold O4;split
  .next z=>
   refine bI.mpr ⟨λy Z=>?_,h⟩;rcases aJ.mp Z with rfl|Z
   .exact z
   .exact FZ z (h'.1 y Z)
  .next z=>
   have ne:q≠k:=λe=>Y (by rw[e];exact ao)
   have X:qY q k=true:=(zR ne).resolve_right z;refine bI.mpr ⟨λy Z=>?_,RX k r h'.2 λe=>Y (au _ e)⟩;rcases aJ.mp ((Bt k r).mem_iff.mp Z)with rfl|Z
   .exact X
   .exact h'.1 y Z
theorem wW:∀{ks:List (List Int)},ks.Nodup->(dO ks).Pairwise LL
 |[],_=>.nil
 |k::r,h=>RX k _ (wW (bY.mp h).2) λz=>(bY.mp h).1 ((cW r).mem_iff.mp z)
theorem yw:∀{l m:List (List Int)},l.Perm m->l.Pairwise LL->m.Pairwise LL->l=m
 |[],m,h,_,_=>(List.nil_perm.mp h).symm
 |a::l,[],h,_,_=>absurd (uX.mp h) (by simp)
 |a::l,b::m,h,h1,h2=>by
  have p1:=bI.mp h1;have p2:=bI.mp h2;have e:a=b:=by
   rcases aJ.mp (h.mem_iff.mp (ao (a:=a) (l:=l)))with z|z
   .exact z
   rcases aJ.mp (h.symm.mem_iff.mp (ao (a:=b) (l:=m)))with y|y
   .exact y.symm
   have:=FZ (p1.1 b y) (p2.1 a z);rw[zQ]at this
   cases this
  subst e;rw[yw (List.perm_cons a |>.mp h) p1.2 p2.2]
def rk(ks:List (List Int))(k:List Int):Nat:=ks.countP λq=>qY q k
theorem Ir (h:∀x,c x=true->k x=true):∀{l:List (List Int)}{a:List Int},a∈l->k a=true->c a=false->l.countP c<l.countP k
 |[],_,ha,_,_=>by cases ha
 |x::r,a,ha,h1,h2=>by
  rw[nj,nj];have m:r.countP c<=r.countP k:=tG λy _=>h y
  rcases aJ.mp ha with rfl|ha
  .rw[h1,h2,if_pos rfl,if_neg bA];lia
  .have:=Ir h ha h1 h2;by_cases z:c x=true
   .rw[if_pos z,if_pos (h x z)];lia
   .rw[if_neg z];split<;>lia
def RZ (ha:c∈ks) (h:qY c k=true):rk ks c<rk ks k:=Ir (λ_ z=>FZ z h) ha h (zQ c)
def ZQ (ha:c∈ks) (B:k∈ks):decide ((rk ks c:Int)<(rk ks k:Int))=qY c k:=by
 by_cases e:c=k
 .subst e;rw[zQ];exact dFa (by lia)
 .cases q:qY c k with
  |true=>have:=RZ ha q;exact dTr (by lia)
  |false=>
   have:=RZ B ((zR e).resolve_left (by rw[q];exact bA));exact dFa (by lia)
end XJ
namespace XJ
open PySem.W L2 My D3 XK XT XD XS
section
variable{prog:eS}{A:eW}{E:Value->eM->Prop}{s:eM}
theorem MF : ∀(a b:List Int)(u v:List Value)(i:Nat),gE u a->gE v b->(fin=decide (a.length<b.length))->C (qY a b) s->KatLex prog w A true fin C (u.zip v) i s
 |[],[],_,_,_,.nil,.nil,Z,q=>by
  refine kat_nil ?_;rwa[Z]
 |[],y::ys,_,_,_,.nil,.cons _ _ _,Z,q=>by
  refine kat_nil ?_;rwa[Z,dTr (by simp)]
 |x::xs,[],_,_,_,.cons _ _ _,.nil,Z,q=>by
  refine kat_nil ?_;rwa[Z,dFa (by simp)]
 |x::xs,y::ys,_,_,i,.cons _ V h1,.cons _ X h2,Z,q=>by
  refine kat_cons (ci (kat_go (λe=>?_) λe=>?_))
  .have e:=beq_iff_eq.mp e;subst e;refine kat_yes (MF xs ys _ _ (i+1) h1 h2 (by rw[Z];simp) ?_);simpa[qY]using q
  .have e:x≠y:=by
    intro z;subst z;simp at e
   have Y:C (decide (x<y)) s:=by simpa[qY,e]using q
   refine kat_no ?_
   cases i with
   |zero=>exact oneLt_int Y
   |succ i=>exact kat_one _ _ (lt_int (by simpa[PySem.W.BoolBack]using Y))
def ZR (J:gT s.heap c t.toArray) (D:gT s.heap k z.toArray) (hu:gE t m) (B:gE z r) (q:C (qY m r) s):wpAny (model prog w) A (keyLt' (tuples' true) (.ref c) (.ref k)) C E s:=by
 obtain⟨W,ex,_,nx,dx⟩:=J;obtain⟨X,Z,_,V,Y⟩:=D;refine kat_lt ex dx Z Y ?_;have:=MF (prog:=prog) (w:=w) (A:=A) (s:=s) (fin:=decide (t.toArray.size<z.toArray.size)) (C:=C) m r t z 0 hu B (by rw[aQ,aQ,hu.length,B.length]) q;simpa using this
end
section
variable{prog:eS}{A:eW}{E:Value->eM->Prop}{s:eM}
def Iu(bs:List Addr)(ky:Addr->List Int):Sq.Cq:=⟨λx=>match x.1 with
    | .ref b=>(rk (bs.map ky) (ky b):Int)
    |_=>0,λx=>∃b∈bs,x.1 = .ref b,tuples' true⟩
def ZS (B:∀b∈bs,∃u:List Value,gT s.heap b u.toArray/\gE u (ky b)):Sq.LtOk prog w A s (Iu bs ky):=⟨λ{x y Q E} U V h=>by
 obtain⟨b,Y,e1⟩:=U;obtain⟨c,Z,e2⟩:=V;obtain⟨u,W,i1⟩:=B b Y;obtain⟨v,X,i2⟩:=B c Z;have n1:(Iu bs ky).nu x=(rk (bs.map ky) (ky b):Int):=by unfold Iu;dsimp only;rw[e1]
 have n2:(Iu bs ky).nu y=(rk (bs.map ky) (ky c):Int):=by unfold Iu;dsimp only;rw[e2]
 rw[n1,n2]at h;rw[ZQ (ji Y) (ji Z)]at h;rw[e1,e2];exact ZR W X i1 i2 h⟩
theorem wK {ky:Addr->List Int}:∀bs:List Addr,(∀b∈bs,ky b≠[]/\∃u:List Value,gT B b u.toArray/\gE u (ky b))->∃fs,KatTups B (bs.map eQ) fs/\fs.length=bs.length/\∀v∈fs,∃i t,v = .int i t
 |[],_=>⟨[],trivial,rfl,λ_ h=>by cases h⟩
 |b::bs,h=>by
  obtain⟨fs,f1,f2,f3⟩:=wK bs λc X=>h c (au _ X)
  obtain⟨Y,u,⟨o,g1,g2,n,g3⟩,hu⟩:=h b ao;generalize ky b=W at hu Y
  cases hu with
  |nil=>exact absurd rfl Y
  |cons x t hu=>
   refine⟨.int x t::fs,⟨⟨_,o,_,n,rfl,g1,g2,g3,rfl⟩,f1⟩,by simp[f2],λv Z=>?_⟩;rcases aJ.mp Z with rfl|Z
   .exact⟨_,_,rfl⟩
   .exact f3 v Z
theorem Iv:∀bs:List Addr,(bs.map eQ).zip (bs.map eQ)=bs.map λc=>(eQ c,eQ c)
 |[]=>rfl
 |b::r=>by rw[aG,pG,Iv r,aG]
def O5 (D:s.heap.get? a=some (seqObj "list" (bs.map eQ).toArray n)) (h2:2<=bs.length) (hz:bs.length<=1000)
 (ht:∀b∈bs,ky b≠[]/\∃u:List Value,gT s.heap b u.toArray/\gE u (ky b)) (nd:(bs.map ky).Nodup)
 (h:∀B:List Addr,B.Perm bs->B.map ky=dO (bs.map ky)->q0 (.done (.ret .none)) {s with heap:=sortedHeap s.heap a (bs.map eQ) (B.map eQ).toArray}):wpAny (model prog w) A (g9.«list.sort» ⟨[.ref a],[]⟩) q0 E s:=by
 have L:=af D;have S:(bs.map eQ).length=bs.length:=aq _;have k:(bs.map eQ).length<=sizeLine:=by rw[S,c8];lia
 rw[list_sort_plain];refine aa (listItems_at D rfl (aa (db D rfl ?_)));obtain⟨e,h1⟩:∃e,(s.heap.update a (fo λ_=>#[])).get? a=some (seqObj "list" #[] e):=⟨_,en D λ_=>#[]⟩;refine aa (ef h1 rfl (aa (eA (aa (bv (ap ?_))))));have old:∀b o,b≠a->s.heap.get? b=some o->(((s.heap.update a (fo λ_=>#[])).push (seqObj "tuple" (bs.map eQ).toArray 0)).push (seqObj "list" #[] 0)).get? b=some o:=λb o Z e=>by
  have W:=af e;rw[b5 _ _ _ (by rw[cA,aI];exact aR (gR W)),b5 _ _ _ (by rw[aI];exact aR W),bu _ _ _ _ Z,e]
 have I:(((s.heap.update a (fo λ_=>#[])).push (seqObj "tuple" (bs.map eQ).toArray 0)).push (seqObj "list" #[] 0)).get? a=some (seqObj "list" #[] e):=by
  rw[b5 _ _ _ (by rw[cA,aI];exact aR (gR L)),b5 _ _ _ (by rw[aI];exact aR L),h1]
 have X:∀b∈bs,ky b≠[]/\∃u:List Value,gT (((s.heap.update a (fo λ_=>#[])).push (seqObj "tuple" (bs.map eQ).toArray 0)).push (seqObj "list" #[] 0)) b u.toArray/\gE u (ky b):=λb Z=>by
  obtain⟨q,u,⟨o,g1,g2,g3⟩,hu⟩:=ht b Z;refine⟨q,u,⟨o,old b o (λz=>?_) g1,g2,g3⟩,hu⟩;rw[z,D]at g1
  cases g1;exact absurd g2 (by simp[seqObj])
 have G:¬(bs.map eQ).toArray.size<2:=by rw[aQ,S];lia
 rw[if_neg G,if_neg G];obtain⟨fs,f1,f2,f3⟩:=wK bs X;refine aa (kat_kind (T:=.type "int") f1 (by lia) (λv x=>?_) rfl ?_)
 .obtain⟨i,t,rfl⟩:=f3 v x;exact λA Q E s _ q=>ae q
 haveI:=ZS (prog:=prog) (w:=w) (A:=A) (s:={s with heap:=((s.heap.update a (fo λ_=>#[])).push (seqObj "tuple" (bs.map eQ).toArray 0)).push (seqObj "list" #[] 0)}) (ky:=ky) λb Z=>(X b Z).2
 have ps:(pairsOf (bs.map eQ)).size=bs.length:=by rw[pairsOf_size,S]
 refine aa (a5 (Sq.RW (C:=Iu bs ky) (st:=SortSt.mk' (tuples' true) (pairsOf (bs.map eQ)) #[] 7 none)
  (Q:=λ_ st'=>(arrOf st').Perm (pairsOf (bs.map eQ))/\failedOf st'=none/\Sq.STo (Iu bs ky) (arrOf st') (pairsOf (bs.map eQ)).size) rfl rfl rfl (λp R=>?ok) (by show 2<=(pairsOf _).size;rwa[ps]) λst' l m r=>⟨l,m,r⟩) ?_ λ_ _ q=>q)
 case ok=>
  have R:p∈(bs.map eQ).zip (bs.map eQ):=by rwa[<-pairsOf_toList]
  obtain⟨b,Z,e⟩:=bT.mp (oA R).1;exact⟨b,Z,e.symm⟩
 rintro⟨⟨⟩,st'⟩ s' ⟨rfl,q1,q2,F⟩;have N:(arrOf st').toList.Perm ((bs.map eQ).zip (bs.map eQ)):=by rw[<-pairsOf_toList];exact d9.mp q1
 obtain⟨B,H,Y⟩:∃B:List Addr,(arrOf st').toList=B.map (λc=>(eQ c,eQ c))/\B.Perm bs:=by
  have zz:=Iv bs;rw[zz]at N;refine⟨(arrOf st').toList.map (λp=>match p.1 with
   | .ref c=>c
   |_=>0),?_,?_⟩
  .rw[cX]
   conv=>lhs;rw[<-yI (arrOf st').toList]
   refine dX λp R=>?_
   obtain⟨c,_,rfl⟩:=bT.mp (N.mem_iff.mp R);rfl
  .have:=N.map (λp:Value×Value=>match p.1 with
    | .ref c=>c
    |_=>0)
   refine this.trans (.of_eq ?_);rw[cX]
   conv=>rhs;rw[<-yI bs]
   rfl
 have outs:(arrOf st').map (·.2)=(B.map eQ).toArray:=by
  apply rC.mp;rw[Array.toList_map,H,cX];rfl
 have cl:=Y.length_eq;have sz:((arrOf st').map (·.2)).size<=sizeLine:=by rwa[outs,aQ,aq,cl,<-S]
 refine aa (ef I rfl (aa (db I rfl ?_ (hsz2:=vX sz))));rw[q2];simp only[bne_self_eq_false,fL,if_false];rw[outs];refine ae (h B Y (yw ((Y.map ky).trans (cW _).symm) ?_ (wW nd)));have O:(B.map ky).Nodup:=(Y.map ky).nodup_iff.mpr nd;rw[dF];intro i j hi J U;have M:i<B.length:=by simpa using hi
 have V:j<B.length:=by simpa using J
 have K:∀i,(h:i<B.length)->Sq.KC (Iu bs ky) (arrOf st') i=(rk (bs.map ky) (ky B[i]):Int):=λi h=>by
  have e:(arrOf st')[i]? = some (eQ B[i],eQ B[i]):=by
   rw[<-cj,H,aW,aA h];rfl
  unfold Sq.KC;rw[e];rfl
 have le:=F i j (cG U) (by rw[ps];lia);rw[K i M,K j V]at le;rw[gC,gC];have y:ky B[j]∈bs.map ky:=ji (Y.mem_iff.mp (cU V));have ne:=λz=>by
  have:=(dF.mp O) i j hi J U;rw[gC,gC]at this;exact this z
 refine(zR ne).resolve_right λz=>?_
 have:=RZ y z;lia
end
end XJ
namespace XJ
open D3
def ju:List D->Option D
 |[x]=>(pP x).bind λks=>if ks.length<=1000/\(ks.all λk=>!k.isEmpty)=true then some (.list ((dO ks).map rwD))else none
 |_=>none
def m8:List D->Option D
 |[x]=>(pP x).map λks=>.int (ks.length:Int)
 |_=>none
end XJ
namespace XJ
open PySem.W L2 My D3 XK XT XD XS
section
theorem MK{K:Type}:∀{kvs:List (List L2.Key×V)}{xs:List (List L2.Key×Addr×Value)}{ks:List (List Int)},KT H kvs xs->kvs.map (·.1)=ks.map (λk=>k.map fe)->∀(j:Nat)(b:Addr)(k:List Int),(xs.map (·.2.1))[j]? = some b->ks[j]? = some k->H b=some (.tup (k.map V.int))
 |_,_,[],.nil,_,j,b,k,h,_=>by simp at h
 |_,_,_::_,.nil,Z,_,_,_,_,_=>by simp at Z
 |_,_,[],.cons _ _,Z,_,_,_,_,_=>by simp at Z
 |_,_,Y::ks,.cons (a:=p) (b:=q) h t,Z,0,b,k,h1,h2=>by
  simp at Z h1 h2;obtain⟨X,_⟩:=Z;subst h1 h2;have:=h.2.1;rw[X]at this;rw[this,wN]
 |_,_,Y::ks,.cons (a:=p) (b:=q) h t,Z,j+1,b,k,h1,h2=>by
  simp at Z;exact MK (K:=K) t (by simpa using Z.2) j b k (by simpa using h1) (by simpa using h2)
theorem DQ:∀{kvs:List (List L2.Key×V)}{xs:List (List L2.Key×Addr×Value)},KT H kvs xs->xs.map (·.1)=kvs.map (·.1)
 |_,_,.nil=>rfl
 |_,_,.cons h t=>by rw[aG,aG,DQ t,h.1]
def vI:V->Int
 | .int i=>i
 |_=>0
def kyH(H:Hp)(b:Addr):List Int:=match H b with
 |some (.tup xs)=>xs.map vI
 |_=>[]
def R3 (h:H c=some (.tup (k.map V.int))):kyH H c=k:=by
 unfold kyH;rw[h];dsimp only;rw[cX]
 conv=>rhs;rw[<-yI k]
 rfl
def Ga(D:X.calm=true):m7 X (.builtin "sorted") (λxs H Q=>∃(p:Addr)(kvs:List (List L2.Key×V))(ks:List (List Int)),xs=[.ref p]/\L2.Rd H p (.dT kvs)/\kvs.map (·.1)=ks.map (λk=>k.map fe)/\ks.length<=1000/\(∀k∈ks,k≠[]) /\
 ∀(l:Addr)(B:List Addr),H l=none->(∀c∈B,H c=some (.tup ((kyH H c).map V.int)))->B.map (kyH H)=dO ks->Q (.ref l) (upd H l (.lst (B.map V.ref)))):=by
 intro pins s σ H xs us Q I r h;obtain⟨p,kvs,ks,rfl,hx,J,R,L,q⟩:=h;obtain⟨u,rfl,rx⟩:=vals1 r
 cases rx;obtain⟨_,hd,ents,rel,dd⟩:=yQ I.hok hx;obtain⟨o,es,ep,h1,h2,G,h4,h5,h6⟩:=dd;have M:TD.yt s.heap p es ep:=⟨o,h1,h2,G⟩;have le:ents.length=ks.length:=by
  have a:=Paired.length rel;have b:=congrArg nQ J;rw[aq,aq]at b;lia
 have ez:es.size=ks.length:=by rw[<-bh,h4,aq,le]
 have bl:(ents.map (·.2.1)).length=ks.length:=by rw[aq,le]
 have d:=MK (K:=Unit) rel J;refine bb eg dv dy (args_sorted1 _) ?_;unfold g9.«sorted»;refine aa (m:=checkCount "sorted" 1 1 _) (ae ?_);refine aa (PySem.W.kdu_collect (A:=X.A.in1) (TD.Wc (es:=es) (ep:=ep) hd) (I.ok.hd D) M (by rw[ez];exact aV R (by decide)) λh' tk acc hk T=>?_);have ea:acc.toList=(ents.map (·.2.1)).map eQ:=by
  apply dY;intro j
  cases ej:acc.toList[j]? with
  |none=>
   have:acc.toList.length<=j:=List.getElem?_eq_none_iff.mp ej;rw[bh,T.1,ez,<-bl]at this;rw[bx (by rwa[aq])]
  |some v=>
   obtain⟨e,U,rfl⟩:=T.2 j v (by rwa[<-cj]);rw[<-cj,h4,aW]at U;rw[cX,aW]
   cases ex:ents[j]? with
   |none=>rw[ex]at U;cases U
   |some x=>rw[ex]at U;cases U;rfl
 have N:L2.Inv X pins σ H {s with heap:=h',toks:=tk}:=I.kept hk;generalize hB:ents.map (·.2.1)=bs at *;rw[ea];have vl:(bs.map eQ).length=ks.length:=by rw[aq,bl]
 have hn:=N.hok.fresh (aB _);have bk:∀b∈bs,H b=some (.tup ((kyH H b).map V.int))/\kyH H b∈ks:=λb hm=>by
  obtain⟨j,g⟩:=fP hm;have t:j<ks.length:=by rw[<-bl];exact(gB.mp g).1
  have z:=d j b ks[j] g (aA t);rw[R3 z];exact⟨z,cU t⟩
 have bm:bs.map (kyH H)=ks:=by
  apply nq
  .rw[aq,bl]
  .intro j g1 g2;rw[gC];have l1:j<bs.length:=by rwa[bl]
   exact R3 (d j _ _ (aA l1) (aA g2))
 have nd:(bs.map (kyH H)).Nodup:=by
  rw[bm];rw[DQ rel,J]at h6;exact(gY.mp h6).imp λz y=>z (by rw[y])
 refine aa (bv ?_ (by rw[vl];exact aV R (by decide)));have Z:(h'.push (seqObj "list" (bs.map eQ).toArray 0)).get? h'.objs.size=some (seqObj "list" (bs.map eQ).toArray 0):=ag _ rfl;have S:∀(B:List Addr)(h2:fF)(c:Nat),B.length<=1000->h2.get? h'.objs.size=some (seqObj "list" (B.map eQ).toArray c)->gM X.prog X.w (upd H h'.objs.size (.lst (B.map V.ref))) h2 h'.objs.size (.lst (B.map V.ref)):=λB h2 c n f=>by
  refine⟨by rw[aq];exact aV n (by decide),_,c,?_,f⟩;clear f n
  induction B with
  |nil=>exact .nil
  |cons i l ih=>exact .cons rfl ih
 refine aa (ap (ar c7 ⟨_,Z,rfl⟩ cy ?body (eD _)))
 case body=>
  by_cases h2:2<=bs.length
  .refine O5 (ky:=kyH H) Z h2 (by rwa[bl]) (λb hm=>⟨L _ (bk b hm).2,?_⟩) nd λB C ec=>⟨_,rfl,ae ⟨_,rfl,?_⟩⟩
   .obtain⟨its,rr,⟨o,g1,g2,g3⟩,_⟩:=N.tuple (.inl (.inl (bk b hm).1));exact⟨its,⟨o,ad _ g1,g2,g3⟩,tZ rr⟩
   .obtain⟨c,U⟩:=sortedHeap_at (out:=(B.map eQ).toArray) Z;have O:=N.laid (h':=sortedHeap (h'.push (seqObj "list" (bs.map eQ).toArray 0)) h'.objs.size (bs.map eQ) (B.map eQ).toArray) (t':=tk) (a:=h'.objs.size) (o:=.lst (B.map V.ref)) (λb u e=>by
     have Y:=af e;rw[eB (aR Y) (by rw[cA];exact gR Y)];exact ad _ e) (aB _) (S B _ c (by rwa[C.length_eq,bl]) U)
    exact⟨.ref _,_,O,rfl,q _ B hn (λc D=>(bk c (C.mem_iff.mp D)).1) (by rw[ec,bm])⟩
  .have E:=q _ bs hn (λc D=>(bk c D).1);have F:bs.length=0\/bs.length=1:=by lia
   rcases F with h0|h1
   .have P:=bJ.mp (by lia);subst P;refine list_sort_tree (ns:=[]) Z .nil (by decide) λout ns' a1 a2 a3=>⟨_,rfl,ae ⟨_,rfl,?_⟩⟩
    obtain rfl:=uX.mp a2;have oe:=bJ.mp a1.length;obtain⟨c,U⟩:=sortedHeap_at (out:=out) Z;have O:=N.laid (h':=sortedHeap (h'.push (seqObj "list" (([]:List Addr).map eQ).toArray 0)) h'.objs.size (([]:List Addr).map eQ) out) (t':=tk) (a:=h'.objs.size) (o:=.lst (([]:List Addr).map V.ref)) (λb u e=>by
     have Y:=af e;rw[eB (aR Y) (by rw[cA];exact gR Y)];exact ad _ e) (aB _) (S [] _ c (by decide) (by
      have:out = #[]:=rC.mp oe;rw[this]at U ⊢;exact U))
    exact⟨.ref _,_,O,rfl,E (by rw[<-bm];rfl)⟩
   .obtain⟨P,rfl⟩:=rP.mp h1;refine HN (v:=.ref P) Z λG c k e=>⟨_,rfl,ae ⟨_,rfl,?_⟩⟩
    have O:=N.laid (h':=G) (t':=tk) (a:=h'.objs.size) (o:=.lst ([P].map V.ref)) (λb u e=>k b u (aR (af e)) (ad _ e)) (aB _) (S [P] _ c (show 1<=1000 by decide) e);exact⟨.ref _,_,O,rfl,E (by rw[<-bm];rfl)⟩
end
end XJ
namespace XJ
open PySem.W L2 My D3 XK XT XD XS
theorem MN (h:TTs H ks (ttP c)):ks.map (·.1)=(c.map (·.1)).map λk=>k.map fe:=by
 induction c generalizing ks with
 |nil=>cases h;rfl
 |cons q c X=>
  generalize Z:ttP (q::c)=g at h
  cases h with
  |nil=>cases Z
  |cons t r=>
   rename_i Y m z v U W;have Z:(rwD q.1,ttV q.2)::ttP c=_:=Z;injection Z with h1 h2
   injection h1 with h1 T
   have e1:q.1=Y:=by
    have:=congrArg (λd=>Bf d) h1;simpa[rwD,Bf,o8]using this
   subst e1;rw[aG,aG,aG,X (h2▸r)]
theorem wX{ok:Ok}{x:D}(e:pP x=some S)(r:RA K ok pl H v x):∃a,v = .ref a/\((S=[]/\L2.Rd H a (.dK []))\/(S≠[]/\∃kvs,L2.Rd H a (.dT kvs)/\kvs.map (·.1)=S.map λk=>k.map fe)):=by
 cases x with
 |dict kvs=>
  unfold pP at e;dsimp only at e
  cases e1:zf kvs with
  |some T=>
   rw[e1]at e
   cases e;obtain⟨a,rfl,h⟩:=Mu (x:=.dict kvs) e1 r;refine⟨a,rfl,?_⟩;rcases h with⟨rfl,h⟩|⟨q,ks,h,t⟩
   .exact .inl ⟨rfl,h⟩
   .exact .inr ⟨(λz=>by
     have:=MN t;rw[z]at this
     cases this),_,h,MN t⟩
  |none=>
   rw[e1]at e;have e:tsD kvs=some S:=e;by_cases Z:S=[]
   .subst Z
    cases kvs with
    |nil=>cases e1
    |cons q Y=>
     exfalso
     unfold tsD at e;split at e
     .next z=>cases z
     .refine D3.ex1 (bind1 e) λk _ e2=>?_
      cases e3:tsD Y with
      |none=>simp_all
      |some X=>simp_all
     .cases e
   .obtain⟨a,rfl,h⟩:=V_ (x:=.dict kvs) e Z r;refine⟨a,rfl,.inr ⟨Z,_,h,?_⟩⟩;unfold dtI;rw[cX];rfl
 |_=>cases e
section
def wY(D:X.calm=true) (ha:DB X fl .P [e] m) (J:Gl X "sorted") (hm:X.mg "sorted"=none)
 (he:starEach [e] X.env=(false,eval e X.env)::starEach [] X.env:=by rfl) (B:(backTo pos (starEach [] X.env)).any (·.1)=false:=by rfl):DE X fl .FC (.Call (.Name "sorted" r) [e] [] pos) (dCall ju m):=by
 have bs:bootBuiltins "sorted"=some (.builtin "sorted"):=by decide +kernel
 intro pins s σ H Q I h;refine D3.ex4 h λG ow δ d R A q=>?_
 refine D3.ex1 (bind1 A) λds e1 e2=>?_
 unfold ju at e2;split at e2
 case h_2=>cases e2
 next x=>
 refine D3.ex1 (bind1 e2) λks e3 U=>?_
 by_cases W:ks.length<=1000/\(ks.all λk=>!k.isEmpty)=true
 case neg=>rw[if_neg W]at U;cases U
 rw[if_pos W]at U
 cases U;by_cases K:ks=[]
 .subst K;refine n6 (XB.FN D) J hm bs ha (by decide) (by decide) he B pins s σ H Q I ⟨G,ow,δ,_,R,e1,λvs H' sm N=>?_⟩
  cases N with
  |cons O S=>
   cases S;obtain⟨a,rfl,Y⟩:=wX e3 O;have Y:L2.Rd H' a (.dK []):=by
    rcases Y with⟨_,h⟩|⟨z,_⟩
    .exact h
    .exact absurd rfl z
   exact⟨a,[],[],rfl,Y,rfl,by decide,λl hn=>q _ _ (sm.trans (cP hn _)) (.inr ⟨_,_,_,rfl,rfl,sm.free hn,bR,.nil⟩)⟩
 .refine n6 (Ga D) J hm bs ha (by decide) (by decide) he B pins s σ H Q I ⟨G,ow,δ,_,R,e1,λvs H' sm N=>?_⟩
  cases N with
  |cons O S=>
   cases S;obtain⟨a,rfl,Y⟩:=wX e3 O;rcases Y with⟨z,_⟩|⟨_,kvs,h,y⟩
   .exact absurd z K
   refine⟨a,kvs,ks,rfl,h,y,W.1,λk M=>?_,λl T hn L F=>q _ _ (sm.trans (cP hn _)) (.inr ⟨_,_,_,rfl,rfl,sm.free hn,bR,?_⟩)⟩
   .have:=cT.mp W.2 k M;intro z;subst z
    cases this
   .rw[<-F,cX];have Z:∀c∈T,upd H' l (.lst (T.map V.ref)) c=some (.tup ((kyH H' c).map V.int)):=λc D=>cP hn _ _ _ (L c D)
    generalize upd H' l (.lst (T.map V.ref))=w at Z;clear F L
    induction T with
    |nil=>exact .nil
    |cons i is E=>exact .cons (.tup (Z i ao) (qt _)) (E λj C=>Z j (au _ C))
def O6:m7 X (.builtin "len") (λxs H Q=>∃(p:Addr),xs=[.ref p]/\((∃kvs,L2.Rd H p (.dK kvs)/\Q (.int kvs.length) H)\/∃kvs,L2.Rd H p (.dT kvs)/\Q (.int kvs.length) H)):=by
 intro pins s σ H xs us Q I r h;obtain⟨p,rfl,h⟩:=h;obtain⟨u,rfl,W⟩:=vals1 r
 cases W;rcases h with⟨kvs,Z,q⟩|⟨kvs,Z,q⟩
 .exact ai1 I Z λt s' S=>⟨.int _,H,S,⟨t,rfl⟩,q⟩
 .obtain⟨z,hd,ents,rel,T⟩:=yQ I.hok Z;obtain⟨o,es,ep,h1,h2,U,V,_,_⟩:=T;have Y:es.size=kvs.length:=by rw[<-bh,V,aq,(Paired.length rel).symm]
  refine TD.Wd hd ⟨o,h1,h2,U⟩ (by rw[Y];rw[c8]at z;lia) λt tk=>?_
  rw[Y];exact⟨.int _,H,I.tok tk,⟨t,rfl⟩,q⟩
theorem Gb(ha:DB X fl .P [e] fa)(D:Gl X "len")(hm:X.mg "len"=none)
 (J:starEach [e] X.env=(false,eval e X.env)::starEach [] X.env:=by rfl) (B:(backTo pos (starEach [] X.env)).any (·.1)=false:=by rfl):DE X fl .FC (.Call (.Name "len" p) [e] [] pos) (dCall m8 fa):=
 PE.imp (n6 O6 D hm (show bootBuiltins "len"=some (.builtin "len")by decide +kernel) ha (by decide) (by decide) J B) λσ H Q h=>by
 refine D3.ex4 h λG ow δ d R U q=>?_
 refine D3.ex1 (bind1 U) λds e1 e2=>?_
 refine⟨G,ow,δ,ds,R,e1,λvs H' s W=>?_⟩;unfold m8 at e2;split at e2
 case h_2=>cases e2
 next x=>
 cases e3:pP x with
 |none=>rw[e3]at e2;cases e2
 |some ks=>
  rw[e3]at e2
  cases e2
  cases W with
  |cons Y Z=>
   cases Z;obtain⟨a,rfl,V⟩:=wX e3 Y;rcases V with⟨rfl,h⟩|⟨_,kvs,h,T⟩
   .exact⟨a,rfl,.inl ⟨_,h,q _ _ s (.inl ⟨rfl,.int _⟩)⟩⟩
   .refine⟨a,rfl,.inr ⟨_,h,?_⟩⟩;have:kvs.length=ks.length:=by
     have:=congrArg nQ T;rwa[aq,aq]at this
    rw[this];exact q _ _ s (.inl ⟨rfl,.int _⟩)
end
def aj1(n:Bool):R2:=λx y H Q=>∃p b k,y = .ref p/\x = .ref b/\H b=some (.tup (lC kV k))/\((L2.Rd H p (.dK [])/\Q (.bl n) H)\/∃kvs,L2.Rd H p (.dT kvs)/\Q (.bl (n ^^ (pQ kvs k).isSome)) H)
def Wk(ok:HOk P w H h)(e:L2.Rd H a (.dK [])):(a==sysModules)=false/\h.DictOfH (tupleKind (dh P w)) a []:=by
 obtain⟨_,hd,vs,rel,o,es,ep,h1,h2,W,U,X,V⟩:=wM ok e
 cases rel;have Y:es.toList=[]:=by
  have:=X.length;exact bJ.mp this
 exact⟨hd,o,es,ep,h1,h2,W,Y,(λx Z=>by cases Z),List.nodup_nil⟩
def ZV (hu:c.A.units+64<cLine):OpR c (compareOp .In) (aj1 false):=by
 intro pins s σ H x y v u Q I Y Z h;obtain⟨p,b,k,rfl,rfl,W,h⟩:=h;rcases h with⟨h,q⟩|⟨kvs,h,q⟩
 .obtain rfl:u=eQ p:=Z;obtain rfl:v=eQ b:=Y;obtain⟨hd,V⟩:=Wk I.hok h;exact wpAny_in_heap (ba (by lia)) (vM I.hok W) hd V ⟨.bl false,H,I.tok _,rfl,q⟩
 .exact ZK hu pins s σ H _ _ v u Q I Y Z ⟨p,pQ kvs k,rfl,.inr ⟨_,_,b,h,rfl,W,rfl⟩,by simpa using q⟩
theorem Iw:∀{kvs:List (List L2.Key×V)}{S:List (List Int)}(k:List Int),kvs.map (·.1)=S.map (λk=>k.map fe)->(pQ kvs (k.map fe)).isSome=decide (k∈S)
 |[],[],k,_=>rfl
 |[],_::_,_,h=>by cases h
 |_::_,[],_,h=>by cases h
 |q::kvs,Z::S,k,h=>by
  rw[aG,aG]at h;injection h with h1 h2
  by_cases e:Z=k
  .subst e;rw[uf h1];simp
  .rw[ug (λz=>e (zN (h1.symm.trans z))),Iw k h2];have e2:¬k=Z:=λz=>e z.symm
   simp[e2]
theorem aj2:BrO K (aj1 false) HX:=by
 intro H x y dx P d Q W X e q;refine D3.ex1 (bind1 e) λS R Z=>?_
 cases Y:Bf dx with
 |none=>rw[Y]at Z;cases Z
 |some k=>
  rw[Y]at Z
  cases Z;obtain⟨b,rfl,U⟩:=uG Y W;obtain⟨a,rfl,V⟩:=wX R X;refine⟨a,b,_,rfl,rfl,U,?_⟩;rcases V with⟨rfl,h⟩|⟨_,kvs,h,T⟩
  .exact .inl ⟨h,q _ rfl (.bl _)⟩
  .refine .inr ⟨kvs,h,?_⟩;rw[Iw k T,Bool.false_xor];exact q _ rfl (.bl _)
end XJ
namespace XJ
open L2 My D3 XK XT XD
inductive Du:HO->List (List L2.Key×V)->Prop
 |t (kvs:List (List L2.Key×V)):Du (.dT kvs) kvs
 |k:Du (.dK []) []
def Du.chg (hu:Du c kvs):Chg c:=by cases hu<;>infer_instance
section
variable{σ:L2.St}{H H':Hp}{s:eM}{kvs:List (List L2.Key×V)}{u:HO}(hu:Du u kvs)
include hu
def MP(I:L2.Inv X pins σ H s)(h:H a=some u):Rj X a:=
 ⟨λxs z=>(by rw[I.base.tups a xs z]at h;cases h;cases hu),λo u z=>(by rw[I.base.frzs a o u z]at h;cases h;cases hu),λq p z=>(by
  rw[I.base.tbls a q p z]at h;cases h;cases hu)⟩
def Wl(I:L2.Inv X pins σ H s)(h:H a=some u)(B:s.heap.get? a=some o):L2.Inv X pins σ (upd H a (.frz o u)) s:=by
 have Z:Mut (H a):=by rw[h];cases hu<;>exact fS
 refine Rm I (MP hu I h) (by rw[h];simp) (λb Y=>bG Y) (I.hok.write Z (.inl rfl) (λ_ _ _ q=>q) ⟨o,B⟩ ⟨B,?_⟩);exact(I.hok a _ h).stay (λ_ _ _ q=>q) (λb q=>by rwa[bG (jf q h (by rintro rfl;cases hu))]) (λb xs q=>by rwa[bG (jf q h (by rintro rfl;cases hu))])
end
def R5 (I:L2.Inv k m σ H s) (hn:Rj k a) (h:H a=some (.frz r t)):L2.Inv k m σ (upd H a t) s:=by
 have st:∀b v,gM k.prog k.w H s.heap b v->gM k.prog k.w (upd H a t) s.heap b v:=λb v z=>
  z.stay (λ_ _ _ q=>q) (λc q=>by rwa[bG (jf q h (by intro z;cases z))]) (λc xs q=>by rwa[bG (jf q h (by intro z;cases z))])
 refine Rm I hn (by rw[h];simp) (λb Z=>bG Z) λb v e=>?_
 by_cases Z:b=a
 .subst Z;rw[bR]at e
  cases e;exact st _ _ (I.hok b _ h).2
 .rw[bG Z]at e;exact st b v (I.hok b v e)
def Itt(o:Obj)(a:Addr)(u:HO)(kvs:List (List L2.Key×V)):It:=
 ⟨λi H=>H a=some (.frz o u)/\i<kvs.length,λi H x H'=>H'=H/\∃k v b,kvs[i]? = some (k,v)/\x = .ref b/\H b=some (.tup (lC kV k)),λi H=>H a=some (.frz o u)/\kvs.length<=i⟩
def DR{es:Array DictEntry}(h:Pairs (dh P w) es.toList []):es.toList=[]:=bJ.mp h.length
def R6 (hu:Du r kvs) (I:L2.Inv c k σ H s) (h:H a=some (.frz m r)) (hd:m.data = .dict t ep) :
 ∃xs,KT H kvs xs/\TD.yt s.heap a t ep/\t.toList=xs.map (entryOfKey (tupleKind (dh c.prog c.w))):=by
 cases hu
 .obtain⟨Z,_,_,xs,rel,o',U,T,Y,R,W,S,_⟩:=I.hok a _ h;rw[Z]at Y
  cases Y;rw[hd]at W
  cases W;exact⟨xs,rel,⟨m,Z,R,hd⟩,S⟩
 .obtain⟨Z,_,_,xs,rel,o',U,T,Y,R,W,_,S,_⟩:=I.hok a _ h;rw[Z]at Y
  cases Y;rw[hd]at W
  cases W
  cases rel;exact⟨[],.nil,⟨m,Z,R,hd⟩,DR S⟩
def aj3 (ok:HOk P w H h) (hu:Du c kvs) (e:L2.Rd H a c):(a==sysModules)=false/\∃B es ep,h.get? a=some B/\B.ExactDict/\B.data = .dict es ep/\es.size=kvs.length:=by
 cases hu
 .obtain⟨_,lo,vs,rel,B,es,ep,Z,X,hd,Y,_⟩:=yQ ok e;exact⟨lo,B,es,ep,Z,X,hd,by rw[<-bh,Y,aq,(Paired.length rel).symm]⟩
 .obtain⟨_,lo,vs,rel,B,es,ep,Z,X,hd,_,Y,_⟩:=wM ok e
  cases rel;exact⟨lo,B,es,ep,Z,X,hd,by rw[<-bh,DR Y];rfl⟩
theorem R7:∀{kvs:List (List L2.Key×V)}{xs:List (List L2.Key×Addr×Value)},KT H kvs xs->∀{i:Nat}{x:List L2.Key×Addr×Value},xs[i]? = some x->∃k v,kvs[i]? = some (k,v)/\H x.2.1=some (.tup (lC kV k))
 |_,_,.nil,i,x,h=>by simp at h
 |_,_,.cons (a:=p) (b:=q) h t,0,x,Z=>by
  simp at Z;subst Z;exact⟨p.1,p.2,rfl,h.2.1⟩
 |_,_,.cons h t,i+1,x,Z=>R7 t (i:=i) (by simpa using Z)
theorem Iz(o:Obj)(a it:Addr)(kvs:List (List L2.Key×V)) (hu:Du m kvs) {es:Array DictEntry} {ep:Nat} (hd:o.data = .dict es ep):Turn P w K tg (Itt o a m kvs) [it] it (λi h=>h.IsKeyIter it a i kvs.length ep) where
 mem:=by simp
 obj:=λi h st b Z=>by
  have e:b=it:=by simpa using Z
  subst e;obtain⟨o,e,c,d⟩:=st;exact⟨o,e,λv z=>by rw[d]at z;cases z⟩
 keep:=λi h h' st k=>by
  obtain⟨o,e,r⟩:=st;exact⟨o,k it (by simp) o e,r⟩
 item:=by
  intro X N hw M F i pins s σ H E I U st Q;subst N hw M;obtain⟨R,hi⟩:=Q;obtain⟨xs,rel,dat,T⟩:=R6 hu I R hd;have W:=Paired.length rel;have le:es.size=xs.length:=by rw[<-bh,T,aq]
  obtain⟨f0,f1,f2,f3,J,L⟩:=U it (by simp);obtain⟨x,G⟩:∃p,xs[i]? = some p:=⟨xs[i],by simp[W▸hi]⟩;obtain⟨k,v,D,Z⟩:=R7 rel G;have O:es[i]? = some (entryOfKey (tupleKind (dh X.prog X.w)) x):=by rw[<-cj,T,aW,G];rfl
  rw[W,<-le]at st;refine TD.Ry st dat O λh' Y S=>?_
  have B:=I.turned (t':=s.toks) (λb o Z e=>(S.2 b Z).trans e) f0 f1 f3 J L;obtain⟨A,e,c,d⟩:=id Y;exact⟨_,rfl,G5 (s:={s with heap:=h'}) e c d (by decide) ⟨.ref x.2.1,H,B,rfl,⟨rfl,k,v,_,D,rfl,Z⟩,by rw[W,<-le];exact Y,λb Z=>(U b Z).1⟩⟩
 done:=by
  intro X N hw M F i pins s σ H E I U st Q;subst N hw M;obtain⟨R,hi⟩:=Q;obtain⟨xs,rel,dat,T⟩:=R6 hu I R hd;have W:=Paired.length rel;have le:es.size=xs.length:=by rw[<-bh,T,aq]
  rw[W,<-le]at st hi;obtain⟨f0,f1,f2,f3,J,L⟩:=U it (by simp);exact TD.Rz (I.ok.hd F) st dat (fZ hi) λh' C=>⟨rfl,I.turned (t':=s.toks) (λb o Z e=>C b o Z e) f0 f1 f3 J L⟩
 self:=λ_ _ _ _ _ st h=>wpAny_pyIter_keyiter st h
def U_(X:Cx)(tl:TE):TI:=λσ H R=>tl σ H λx H1=>∃a u kvs,Du u kvs/\x = .ref a/\((H1 a=some u/\∀o,Rj X a->R (Itt o a u kvs) (upd H1 a (.frz o u)))\/∃o,H1 a=some (.frz o u)/\R (Itt o a u kvs) H1)
def J0 (B:PE c k tl):PI c tg k (U_ c tl):=by
 intro pins s σ H R I h;refine thn (B pins s σ H _ I h) λv s1 ⟨x,H1,Z,S,q1⟩=>?_
 obtain⟨a,u,kvs,hu,e,q⟩:=q1;subst e
 cases S;have rd:L2.Rd H1 a u:=q.elim (λz=>.inl z.1) (λ⟨o,z,_⟩=>.inr ⟨o,z⟩);obtain⟨lo,Y,es,ep,U,Q,hd,le⟩:=aj3 Z.hok hu rd;refine TD.Rx lo ⟨Y,U,Q,hd⟩ ?_;have T:L2.Inv c pins σ H1 {s1 with heap:=s1.heap.push {cls:=.type "dict_keyiterator", data:=.fields #[.ref a,.int 0 0,.int es.size 0,.int ep 0]} }:=Z.kept (t':=s1.toks) λb o e=>ad _ e
 have st:(s1.heap.push {cls:=.type "dict_keyiterator", data:=.fields #[.ref a,.int 0 0,.int es.size 0,.int ep 0]}).IsKeyIter s1.heap.objs.size a 0 kvs.length ep:=⟨_,ag _ rfl,rfl,by rw[<-le];rfl⟩;have fr:=Z.hok.fresh (aB _);rcases q with⟨W,q⟩|⟨o,W,q⟩
 .refine⟨s1.heap.objs.size,[s1.heap.objs.size],_,_,_,rfl,Wl hu T W (ad _ U),Iz Y a _ kvs hu hd,st,λb V=>?_,q Y (MP hu Z W)⟩;have e:b=s1.heap.objs.size:=by simpa using V
  subst e;refine Z.fpOk (aB _) ?_;rw[bG (λz=>by rw[z,W]at fr;cases fr)];exact fr
 .have eq:Y=o:=by
   have:=(Z.hok a _ W).1;rw[U]at this;exact cR.inj this
  subst eq;refine⟨s1.heap.objs.size,[s1.heap.objs.size],_,_,_,rfl,T,Iz Y a _ kvs hu hd,st,λb V=>?_,q⟩;have e:b=s1.heap.objs.size:=by simpa using V
  subst e;exact Z.fpOk (aB _) fr
section
variable{H:Hp}{kvs:List (List L2.Key×V)}{u:HO}
mutual
theorem Fz (hu:Du u kvs) (h:H a=some u):∀{v:V}{d:D},RA K ok true H v d->RA K ok true (upd H a (.frz o u)) v d
 |_,_,.non=>.non
 |_,_,.bl b=>.bl b
 |_,_,.int i=>.int i
 |_,_,.str x=>.str x
 |_,_,.lst e k q=>.lst (by rwa[bG (jf e h (by rintro rfl;cases hu))]) k (o9 hu h q)
 |_,_,.lsk e k q=>.lsk (by
  rcases e with⟨o',e⟩|e
  .exact .inl ⟨o',by rwa[bG (jf e h (by rintro rfl;cases hu))]⟩
  .exact .inr e) k (o9 hu h q)
 |_,_,.tup e q=>.tup (by unfold iI;rwa[bG (jf e h (by rintro rfl;cases hu))]) (o9 hu h q)
 |_,_,.dic (a:=b) e g k=>by
  have:=hu.chg;by_cases hb:b=a
  .subst hb;have g':=g.upd (o:=.frz o u) h;rw[h]at e;exact .dik (by rw[bR];injection e with e;rw[e]) g' rfl
  .exact .dic (by rwa[bG hb]) (g.upd h) k
 |_,_,.dik e g k=>have:=hu.chg;.dik (by rwa[bG (jf e h (by rintro rfl;cases hu))]) (g.upd h) k
theorem o9 (hu:Du u kvs) (h:H a=some u):∀{v:List V}{d:List D},RAs K ok true H v d->RAs K ok true (upd H a (.frz o u)) v d
 |_,_,.nil=>.nil
 |_,_,.cons e q=>.cons (Fz hu h e) (o9 hu h q)
end
mutual
theorem FJ{ok:Ok}(h:H a=some (.frz o u)):∀{v:V}{d:D},RA K ok false H v d->RA K ok false (upd H a u) v d
 |_,_,.non=>.non
 |_,_,.bl b=>.bl b
 |_,_,.int i=>.int i
 |_,_,.str x=>.str x
 |_,_,.lst e k q=>.lst (by rwa[bG (jf e h (by intro z;cases z))]) k (oh h q)
 |_,_,.lsk e k q=>by cases k
 |_,_,.tup e q=>.tup (by unfold iI;rwa[bG (jf e h (by intro z;cases z))]) (oh h q)
 |_,_,.dic e g k=>.dic (by rwa[bG (jf e h (by intro z;rcases g.or with⟨ks,y⟩|⟨ks,y⟩<;>(rw[y]at z;cases z)))]) (g.imp λ_ _ t=>by unfold iI;rwa[bG (jf t h (by intro z;cases z))]) k
 |_,_,.dik e _ k=>by cases k
theorem oh (h:H a=some (.frz o u)):∀{v:List V}{d:List D},RAs K ok false H v d->RAs K ok false (upd H a u) v d
 |_,_,.nil=>.nil
 |_,_,.cons e q=>.cons (FJ h e) (oh h q)
end
end
section
variable{fl':List Fl}{b c elt iter:Expr}{k:Kd}{f fa fx:FE}{TT:List Nat}{fi:FA}{g:FG}
theorem R8 {kvs:List (List L2.Key×V)} (D:kvs.map (·.1)=S.map λk=>k.map fe) (h:m a=some (.frz r s)):∀H2,Same m H2->∀i:Nat,(∀d,(S.map rwD)[i]? = some d->(Itt r a s kvs).go i H2/\∀x B,(Itt r a s kvs).yld i H2 x B->Same H2 B/\RA K ok1 true B x d)/\((S.map rwD).length<=i->(Itt r a s kvs).stop i H2):=by
 intro H2 s2 i;have Y:kvs.length=S.length:=by
  have:=congrArg nQ D;rwa[aq,aq]at this
 refine⟨λd hd=>?_,λhi=>⟨s2 _ _ h,by rw[Y];simpa using hi⟩⟩;rw[aW]at hd
 cases e:S[i]? with
 |none=>rw[e]at hd;cases hd
 |some X=>
  rw[e]at hd
  cases hd;have hi:i<S.length:=by
   rcases dB i S.length with z|z
   .exact z
   .rw[bx z]at e;cases e
  refine⟨⟨s2 _ _ h,by lia⟩,λx B W=>?_⟩;obtain⟨rfl,k,v,b,U,rfl,Z⟩:=W;have T:k=X.map fe:=by
   have:=congrArg (λl=>l[i]?) D;simp only[aW,U,e,jG,cR.injEq]at this;exact this
  subst T;rw[wN]at Z;exact⟨Same.refl _,.tup Z (qt _)⟩
def M4(X:Cx)(Q:VK):VK:=λv H2=>Q v H2\/∃a o u kvs,Du u kvs/\Rj X a/\H2 a=some (.frz o u)/\Q v (upd H2 a u)
theorem Wm{σ:L2.St}{H:Hp}{Q:VK}{T:List Str}(D:∀i,i<T.length+ix.length->fl'[i]? = some .A)(B:∀j∈TT,j<T.length)(h:tD X.K fl .FC (mO (Mp fx) g ft f T.length ix) σ H Q):
 Hl (U_ X (tD X.K fl .P fx)) (tDG X.K fl' TT g) (tDT X.K fl' ft) (tD X.K fl' .C f) T.length (vD T.length ix) σ H (M4 X Q):=by
 refine D3.ex4 h λG ow δ d R p q=>?_
 refine D3.ex1 (bind1 p) λl e1 e2=>?_
 by_cases S:l.length<=100000
 case neg=>rw[if_neg S]at e2;cases e2
 rw[if_pos S]at e2;refine D3.ex1 (bind1 e2) λr e3 c=>?_
 cases c;refine D3.ex1 (bind1 e1) λx e M=>?_
 cases I:pP x with
 |none=>rw[I]at M;cases M
 |some s=>
 rw[I]at M
 cases M;refine⟨G,ow,δ,x,R,e,λv H1 s1 y=>?_⟩;have R1:=R.grow s1;have W:=LC (fl':=fl') T.length ix D R1 (Same.refl H1);obtain⟨a,rfl,Z⟩:=wX I y;obtain⟨u,kvs,hu,Z,N⟩:∃u kvs,Du u kvs/\L2.Rd H1 a u/\kvs.map (·.1)=s.map λk=>k.map fe:=by
  rcases Z with⟨rfl,Z⟩|⟨_,kvs,Z,N⟩
  .exact⟨_,_,.k,Z,rfl⟩
  .exact⟨_,_,.t kvs,Z,N⟩
 refine⟨a,u,kvs,hu,rfl,?_⟩;rcases Z with Z|⟨o,Z⟩
 .refine .inl ⟨Z,λo lo Dl Y=>?_⟩;have U:Dl≠a:=λz=>by rw[z,bR]at Y;cases Y
  have L:Tb (upd H1 a (.frz o u)):=λt E=>by rw[bG (jf (W.tb t E) Z (by rintro rfl;cases hu))];exact W.tb t E
  have F:Rel X.K fl' ⟨upd H1 a (.frz o u),upd H1 a (.frz o u),λ_=>none,λ_=>[],L⟩ ow0 (vD T.length ix σ) (upd H1 a (.frz o u)) (lN T.length ix δ):=by
   refine⟨Same.refl _,Same.refl _,W.len,λi b h=>(by cases h),λi j b h=>(by cases h),λi h=>rfl,λi d h1 hn h2=>?_,W.oo,λi b h=>(by cases h),λi j b h=>(by cases h),λi j b h=>(by cases h),λi h=>rfl,λi d hn h1=>?_⟩
   .obtain⟨v,m,n⟩:=W.dat i d h1 hn h2;exact⟨v,m,Fz hu Z n⟩
   .have hi:i<T.length+ix.length:=by
     have h2:i<(lN T.length ix δ).length:=by
      rcases dB i (lN T.length ix δ).length with z|z
      .exact z
      .rw[bx z]at h1;cases h1
     unfold lN at h2;simpa using h2
    rw[D i hi]at hn
    cases hn
  refine Ia (Q:=M4 X Q) B F S e3 Y (R8 N bR) λH2 xs s2 V J=>fg ⟨a,o,u,kvs,hu,lo,s2 _ _ bR,?_⟩
  have sm:Same H (upd H2 a u):=λb v O=>by
   by_cases z:b=a
   .subst z;have:=s1 _ _ O;rw[Z]at this;rwa[bR]
   .rw[bG z];exact s2 b v (by rw[bG z];exact s1 b v O)
  refine q _ _ sm (.inr ⟨Dl,xs,r,rfl,rfl,s1.free (by rw[bG U]at Y;exact Y),by rwa[bG U],?_⟩);refine(oh (s2 _ _ bR) J).imp (λb z=>⟨?_,z.2⟩) (λz=>z);have z1:=z.1;unfold okN at z1 ⊢;have O:b≠a:=λw=>by rw[w,bR]at z1;cases z1
  rw[bG O]at z1;exact s1.free z1
 .refine .inr ⟨o,Z,λDl Y=>?_⟩;have F:=W;refine Ia (Q:=M4 X Q) B F S e3 Y (R8 N Z) λH2 xs s2 V J=>fE (q _ _ (s1.trans s2) (.inr ⟨Dl,xs,r,rfl,rfl,s1.free Y,V,J.imp (λb z=>⟨s1.free z.1,z.2⟩) (λz=>z)⟩))
def R9(hc:X.calm=true)(T J:List Str)(ix:List Nat)(hi:DE X fl .P iter fx)
 (hg:∀cl C s3 O fp,DG (blk X (T++J) scope cl C s3 O fp) fl' TT tg g) (ht:∀cl C s3 O fp,PTs (blk X (T++J) scope cl C s3 O fp) ifs (tDT X.K fl' ft)) (he:∀cl C s3 O fp,DE (blk X (T++J) scope cl C s3 O fp) fl' .C elt f)
 (hfl:∀i,i<T.length+ix.length->fl'[i]? = some .A:=by decide) (Y:∀j∈TT,j<T.length:=by decide)
 (hB:yZ X.N X.env.scope.names scope.names J ix=true:=by rfl) (hk:scope.kind = .function:=by rfl) (D:∀y∈scope.names,y.2 ≠ .cell:=by decide +kernel)
 (B:∀x∈scope.names,x.2 = .local->scope.names.lookup x.1=some .local:=by decide +kernel)
 (hfr:∀x∈scope.names,x.2 = .free->x.1∈J:=by decide +kernel) (hs:∀x,foldedSetIterable iter X.env x=pure x:=by intro _;rfl) :
 DE X fl .FC (.ListComp elt [⟨tg,iter,ifs,0⟩] scope pos) (mO (Mp fx) g ft f T.length ix):=by
 intro pins s σ H Q I h;have run:=Lp (g:=tDG X.K fl' TT g) (tt:=tDT X.K fl' ft) (te:=tD X.K fl' .C f) (pos:=pos) hc T J ix (J0 hi) hg ht he hB hk D B hfr hs pins s σ H (M4 X Q) I (Wm hfl Y h);refine thn run λv s' ⟨x,H2,V,W,Z⟩=>?_
 rcases Z with Z|⟨a,o,u,kvs,hu,lo,ha,Z⟩
 .exact⟨x,H2,V,W,Z⟩
 .exact⟨x,_,R5 V lo ha,W,Z⟩
end
end XJ
namespace HT
open L2
section
variable{prog:eS}{A:eW}{E:Value->eM->Prop}{s:eM}
def Wn {lo hi:Option Int} (B:gT s.heap t items) (hs:s.heap.IsSliceOf c O J .none) (pl:IsPart O lo) (pu:IsPart J hi)
 (hw:sIx items.size 0 lo=0/\sIx items.size items.size hi=items.size) (h:k (.ref t) s):wpAny (model prog w) A (getItem (.ref t) (.ref c)) k E s:=by
 obtain⟨os,Y,X,W⟩:=id hs;have ty:s.TypeIs (.ref c) "slice" := ⟨os,Y,X⟩;unfold getItem
 try with_reducible refine ap ?_
 first|refine aa (ae ?_)|skip
 refine aa (wpAny_sequenceKey B.typeIs (by decide) (aa (av (name:=fA "__getitem__") B.typeIs f_ (ar f_ B.typeIs entry_tuple_getitem ?_ (args_tuple_getitem _ _)))));refine aa (m:=h7 (.ref t)) (tupleItemsOf_ B (aa (b6 ty ?_)));rw[if_pos (by decide)];refine aa (rE hs pl pu ?_);have Z:(((sIx items.size 0 lo:Nat):Int)==0&&(1:Int)==1&&(sIx items.size items.size hi-sIx items.size 0 lo)==items.size)=true:=by
  rw[hw.1,hw.2];simp
 show wpAny _ _ (if(((sIx items.size 0 lo:Nat):Int)==0&&(1:Int)==1&&(sIx items.size items.size hi-sIx items.size 0 lo)==items.size)=true then _ else _) _ _ s;rw[if_pos Z];refine aa (aa (b6 B.typeIs (ae ?_)));rw[if_pos (by decide)];exact aa (a9 (ae ⟨_,rfl,ae h⟩))
end
end HT
namespace D3
open L2 My
def at3(K:PySem.W.Frag):V->Option Int->Option Int->Hp->VK->Prop:=λx lo hi H Q=>∃a xs,x = .ref a/\SqT K H a xs/\HT.sIx xs.length 0 lo=0/\HT.sIx xs.length xs.length hi=xs.length/\Q (.ref a) H
def R_ : SlR c (at3 c.K):=by
 intro pins s σ H x v T U lo hi S Q I Y hs pl W h;obtain⟨a,xs,rfl,V,h1,h2,q⟩:=h
 cases Y;obtain⟨its,r,Z,R⟩:=I.tuple V;have hlen:its.toArray.size=xs.length:=by rw[aQ];exact r.length.symm
 exact⟨"tuple", _,PyProof.Rows.slot_tuple_getitem.lookup,Z.typeIs,HT.Wn Z hs pl W (by rw[hlen];exact⟨h1,h2⟩) ⟨.ref a,H,I,rfl,q⟩⟩
section
variable{a:Expr}{f:FE}
def yx(h:flats l=true)(lo hi:Option Int):flats (cuD l lo hi)=true:=by
 have Y:∀(n:Nat)(l:List D),flats l=true->flats (l.drop n)=true:=λn=>by
  induction n with
  |zero=>exact λl h=>h
  |succ n Z=>
   intro l h
   cases l with
   |nil=>rfl
   |cons d l=>rw[flats,aK]at h;exact Z l h.2
 have tk:∀(n:Nat)(l:List D),flats l=true->flats (l.take n)=true:=λn=>by
  induction n with
  |zero=>exact λl h=>by simp[flats]
  |succ n Z=>
   intro l h
   cases l with
   |nil=>rfl
   |cons d l=>
    rw[flats,aK]at h;rw[List.take_succ_cons,flats,aK];exact⟨h.1,Z l h.2⟩
 exact tk _ _ (Y _ _ h)
def Sg{lo hi:Option Expr}{fl1 B:FO}(h:DE X fl .P a f)(h1:PO X lo (tDO X.K fl fl1))(h2:PO X hi (tDO X.K fl B)):DE X fl .FC (.Subscript a (.Slice lo hi none p2) pos) (zj f fl1 B):=PE.imp (G_ (R_.or Y9) h h1 h2) λσ H Q h=>by
 refine D3.ex4 h λG ow δ d R O q=>?_
 refine D3.ex1 (bind1 O) λx e1 O=>?_
 refine D3.ex1 (bind1 O) λV e2 O=>?_
 refine D3.ex1 (bind1 O) λW e3 T=>?_
 refine⟨G,ow,δ,x,R,e1,λv H1 s1 J=>⟨G,ow,δ,V,R.grow s1,e2,λH2 s2=>⟨G,ow,δ,W,R.grow (s1.trans s2),e3,λF s3=>?_⟩⟩⟩;obtain⟨l,rfl⟩:∃l,x = .tuple l:=by
  cases x<;>first|exact⟨_,rfl⟩|cases T
 dsimp only at T;by_cases Z:flats l=true
 case neg=>rw[if_neg Z]at T;cases T
 rw[if_pos Z]at T
 cases T;obtain⟨p,xs,rfl,I,M⟩:=J.tupE0;have Y:=s2.trans s3;have N:=M.length;have U:=iI.same Y I;have S:=M.same Y;by_cases hw:HT.sIx xs.length 0 V=0/\HT.sIx xs.length xs.length W=xs.length
 .refine .inl ⟨p,xs,rfl,.inl (.inl U),hw.1,hw.2,q _ _ (s1.trans Y) (.inl ⟨yx Z V W,?_⟩)⟩;have:cuD l V W=l:=by
   unfold cuD;rw[<-N,<-Fj,<-Fj,hw.1,hw.2,N];simp
  rw[this];exact .tup U (RAs.flat Z S)
 .refine .inr ⟨p,xs,rfl,.inl (.inl U),hw,λpn L=>q _ _ ((s1.trans Y).trans (cP L _)) (.inl ⟨yx Z V W,?_⟩)⟩;exact .tup (show iI _ _ _ from bR) (RAs.flat (yx Z V W) ((S.same (cP L _)).cut V W))
def DX(B:X.calm=true):m7 X (.builtin "max") (λxs H Q=>∃(p:Addr)(i:Int)(r:List Int),xs=[.ref p]/\SqT X.K H p ((i::r).map V.int)/\Q (.int (mxI i r)) H):=by
 intro pins s σ H xs us Q I r h;obtain⟨p,i,Y,rfl,J,q⟩:=h;obtain⟨u,rfl,N⟩:=vals1 r
 cases N;obtain⟨its,U,pl,C⟩:=I.tuple J;have hi:=tZ U;obtain⟨xs,e⟩:=hi.allInts.items;have Z:i::Y=xs.toList.map (·.1):=by rw[<-hi.numsOf,<-nums_intItems,<-e]
 have T:0<xs.size:=by
  have O:0<(i::Y).length:=by simp
  rw[Z,aq,bh]at O;exact O
 have S:s.heap.IsTuple p (intItems xs):=by
  rw[<-e];obtain⟨o,g1,g2,n,g3⟩:=pl;exact⟨o,g1,g2,n,g3⟩
 have W:p<s.heap.objs.size:=by obtain⟨o,g1,_⟩:=S;exact af g1
 refine call_max_walk (b7 S ?_);refine⟨_,_,_,_,_,_,_,rfl,Walks.tuple (A:=X.A.in1) (I.ok.hd B) _ p (aR W) (intItems xs),⟨⟨_,ag _ rfl,rfl,rfl⟩,S.push _⟩,λb P=>?_,by simpa[intItems]using T,CmpOf.ints_gt (numAt xs) (λ_ _=>intItems_at),λv h' tk D F=>?_⟩
 .rw[cn];simp at P;rcases P with rfl|rfl
  .exact fU _
  .exact gR W
 have G:(intItems xs)[argBest (λi j=>decide (numAt xs i>numAt xs j)) (xs.size-1)]? = some v:=by simpa[intItems]using D
 obtain⟨t,rfl⟩:=intItems_at G;obtain⟨h1,h2⟩:=argBest_gt (numAt xs) (xs.size-1);have L:numAt xs (argBest (λi j=>decide (numAt xs i>numAt xs j)) (xs.size-1))∈i::Y:=by
  rw[Z,numAt_eq];exact getD_mem (by rw[aq,bh];lia)
 have M:∀a∈i::Y,a<=numAt xs (argBest (λi j=>decide (numAt xs i>numAt xs j)) (xs.size-1)):=λa ha=>by
  rw[Z]at ha;obtain⟨j,E,rfl⟩:=mem_getD ha;rw[aq,bh]at E;rw[<-numAt_eq];exact h2 j (by lia)
 have sp:=v9 Y i;have eq:=sX (sp.2 _ L) (M _ sp.1);rw[eq];exact⟨.int _,H,I.kept λb o R=>F b o (λz=>by
  rw[aL.mp z]at R;exact absurd (af R) (eG _)) (ad _ R),⟨_,rfl⟩,q⟩
def Sh:BrC K (λxs H Q=>∃(p:Addr)(i:Int)(r:List Int),xs=[.ref p]/\SqT K H p ((i::r).map V.int)/\Q (.int (mxI i r)) H) uZ:=by
 intro H xs ds d Q r e q;unfold uZ at e;split at e
 .next l=>
  split at e
  .next i X e2=>
   cases e
   cases r with
   |cons Y Z=>
    cases Z;obtain⟨a,ys,rfl,W,U⟩:=Y.tupE;obtain rfl:=wC e2 U;exact⟨a,i,X,rfl,W,q _ rfl (.int _)⟩
  .cases e
 .cases e
end
end D3
namespace TE2
section
variable{prog:eS}{A:eW}{E:Value->eM->Prop}{s:eM}{it t:Addr}{items:Array Value}
def Wo {x:Value}(g:s.heap.IsTupleIter it t i) (D:s.heap.IsTuple t items) (B:items[i]? = some x) (q:∀h',h'.IsTupleIter it t (i+1)->gf it s.heap h'->c x {s with heap:=h'}):wpAny (model prog w) A (hX (.ref it)) c E s:=by
 obtain⟨o,Z,Y,hd⟩:=id g;obtain⟨X,h1,_,nl,h2⟩:=D;refine aa (av (name:=fA "__next__") g.typeIs be (ar be g.typeIs dQ ?_ (dE _)));refine aa (m:=field (.ref it) 0) (aT Z hd (x:=.ref t) rfl ?_);rw[if_neg (show ¬((eQ t==fy)=true)from bA)];refine aa (m:=field (.ref it) 1) (aT Z hd (x:=.int i 0) rfl (aa (m:=seqItems? (.ref t)) (bt h1 h2 ?_)));simp only[fY,B];refine aa (cS Z hd (by simp) (ae ⟨x,rfl,ae (q _ ⟨_,az _ Z (eH (bP hd _)),(Obj.cls_mapFields ..).trans Y,?_⟩ (gq ..))⟩));rw[bP hd];simp[rawInt]
def Ss (J:A.handled=none) (g:s.heap.IsTupleIter it t i) (D:s.heap.IsTuple t items) (B:items[i]? = none)
 (q:∀h' e,Heap.ExtBut it s.heap h'->(∃o,h'.get? e=some o/\o.cls = .type "StopIteration")->E (.ref e) {s with heap:=h'}):wpAny (model prog w) A (hX (.ref it)) c E s:=by
 obtain⟨o,Z,X,hd⟩:=id g;obtain⟨Y,h1,_,nl,h2⟩:=D;refine aa (av (name:=fA "__next__") g.typeIs be (ar be g.typeIs dQ ?_ (dE _)));refine aa (m:=field (.ref it) 0) (aT Z hd (x:=.ref t) rfl ?_);rw[if_neg (show ¬((eQ t==fy)=true)from bA)];refine aa (m:=field (.ref it) 1) (aT Z hd (x:=.int i 0) rfl (aa (m:=seqItems? (.ref t)) (bt h1 h2 ?_)));simp only[fY,B];refine aa (a9 (aa (cS Z hd (by simp) ?_)));refine aa (m:=newExc (.type "StopIteration") []) ?_;simp only[newExc,newTuple];refine aa (ax (aa (m:=firstArgMember _ _) (wpAny_of_eq (a:=fy) (by first|rfl|(simp only[firstArgMember];rfl)) (ax ?_ (by size_fits)))) (by size_fits));simp only[raiseNew];refine aa (wpAny_handled ?_);rw[show A.in1.handled=none from J];refine aa (ae (wpAny_throw ?_));exact q _ _ (((gq ..).extBut.push _).push _) ⟨_,ag _ rfl,rfl⟩
theorem draws(D:A.handled=none)(it t:Addr)(B:t≠it)(items:Array Value):Draws prog w A it [it,t] items.size (λi v=>items[i]? = some v) (λi h=>h.IsTupleIter it t i/\h.IsTuple t items) where
 live:=λ_ _ st=>let⟨o,Y,_⟩:=st.1;⟨o,Y⟩
 frame:=λ_ _ _ st Z=>⟨st.1.at λo e=>Z it (by simp) o e,st.2.at λo e=>Z t (by simp) o e⟩
 item:=λi s Q E hi st X=>Wo st.1 st.2 (x:=items[i]) (by simp[hi]) λh' g hs=>X _ h' s.toks (by simp[hi]) ⟨g,st.2.extBut hs.extBut B⟩ hs
 done:=λs Q E st W=>Ss D st.1 st.2 (by simp) W
end
open AutoSeq1 (wpAny_loadPart')
def Sv(l:Addr)(items:Array Value)(n:Nat)(B:Option Addr)(D:Array (Option Value)):
 Meets (g9.«enumerate.__new__» ⟨[.type "enumerate", .ref l],[]⟩) (λ_ R s=>s.heap.get? l=some {cls:=.type "tuple", dict:=B,data:=.seq items n,slots:=D} /\
  R (.ok (.ret (.ref (s.heap.push {cls:=.type "tuple_iterator", data:=.fields #[.ref l,.int 0 0]}).objs.size)))
   {s with heap:=(s.heap.push {cls:=.type "tuple_iterator", data:=.fields #[.ref l,.int 0 0]}).push {cls:=.type "enumerate", data:=.fields #[.none,.bool false,.ref s.heap.objs.size,rawInt 0,.none,.none]} }):=
 .of_wp λprog w A R s h=>by
  obtain⟨W,g,d,tk,os⟩:=s;obtain⟨Z,h⟩:=h;have Y:=sub_enumerate;have X:Heap.IsTuple (Shared.heap ⟨W,g,d,tk,os⟩) l items:=⟨_,Z,rfl,n,rfl⟩
  wp_walk using wpAny_loadPart' Z
  refine wpAny_stack_any λst=>ae ?_
  split
  .rename_i c _ _ _ _ _
   cases(c==hG "enumerate")<;>(wp_walk using wpAny_loadPart' Z,b7 X;exact⟨_,rfl,h⟩)
  .wp_walk using wpAny_loadPart' Z,b7 X
   exact⟨_,rfl,h⟩
section
variable{prog:eS}{A:eW}{E:Value->eM->Prop}{s:eM}
def O7 (B:s.heap.IsTuple k items)
 (h:∀h',IsEnum h' (s.heap.objs.size+1) s.heap.objs.size 0 .none->h'.IsTupleIter s.heap.objs.size k 0->h'.objs.size=s.heap.objs.size+2->(∀b o,s.heap.get? b=some o->h'.get? b=some o)->m (.ref (s.heap.objs.size+1)) {s with heap:=h'}) :
 wpAny (model prog w) A (call (.type "enumerate") [.ref k]) m E s:=by
 obtain⟨⟨c,X,T,V⟩,U,Y,n,hd⟩:=B
 replace Y:c = .type "tuple" := Y
 replace hd:T = .seq items n:=hd
 subst Y hd;refine callType_new F.called_enumerate (by decide) (F.typeCall_enumerate_1 _) (F.newCall_enumerate_1 _) (λobj=>F.args_object_init_2 obj _) F.entry_enumerate_new (Sv k items n X V) ⟨U,?_⟩;have Z:(s.heap.push {cls:=.type "tuple_iterator", data:=.fields #[.ref k,.int 0 0]}).objs.size=s.heap.objs.size+1:=cn ..;rw[Z];have W:IsEnum ((s.heap.push {cls:=.type "tuple_iterator", data:=.fields #[.ref k,.int 0 0]}).push {cls:=.type "enumerate", data:=.fields #[.none,.bool false,.ref s.heap.objs.size,rawInt 0,.none,.none]}) (s.heap.objs.size+1) s.heap.objs.size 0 .none:=by
  have:=ag (s.heap.push {cls:=.type "tuple_iterator", data:=.fields #[.ref k,.int 0 0]}) (o:={cls:=.type "enumerate", data:=.fields #[.none,.bool false,.ref s.heap.objs.size,rawInt 0,.none,.none]}) rfl;rw[Z]at this;exact this
 exact⟨⟨_,W,rfl⟩,h _ W ⟨_,ad _ (ag _ rfl),rfl,rfl⟩ (by rw[cn,Z]) λb o x=>ad _ (ad _ x)⟩
def Wq (hh:A.handled=none) (O:t≠it) (B:IsEnum s.heap c it (i:Int) old) (hi:s.heap.IsTupleIter it t i) (J:s.heap.IsTuple t items) (D:items[i]? = none)
 (q:∀h',Heap.ExtBut it s.heap h'->k none {s with heap:=h'}):wpAny (model prog w) A (pyNext (.ref c)) k E s:=by
 have ty:s.TypeIs (.ref c) "enumerate" := ⟨_,B,rfl⟩;refine aa (bz (av (name:=fA "__next__") ty F.slot_enumerate_next (ar F.slot_enumerate_next ty F.entry_enumerate_next ?_ (F.args_enumerate_next_1 _))));refine aa (m:=field (.ref c) 2) (aT B rfl (x:=.ref it) rfl (aa (Ss (A:=A.in1) hh hi J D λh' x Y Z=>?_)));obtain⟨o,X,W⟩:=Z;exact aa (dP (T := "StopIteration") (b:=true) ⟨o,X,W⟩ eC (ae (q _ Y)))
end
end TE2
namespace D3
open L2 My
def ItT(K:PySem.W.Frag)(a:Addr):It:=
 ⟨λi H=>∃xs x,SqT K H a xs/\xs[i]? = some x,λi H x H'=>∃p y,H p=none/\H'=upd H p (.tup [.int i,y])/\x = .ref p/\∀xs,SqT K H a xs->xs[i]? = some y,λi H=>∃xs,SqT K H a xs/\xs.length<=i⟩
theorem Kz {x1} (a it:Addr) :
 Turn P w K (.Tuple elts x1 tpos) (ItT K a) [it+1,it] (it+1) (λi h=>∃old,IsEnum h (it+1) it (i:Int) old/\h.IsTupleIter it a i) where
 mem:=by simp
 obj:=λi h st b Z=>by
  obtain⟨old,W,o,e,c,d⟩:=st;rcases aJ.mp Z with z|z
  .subst z;exact⟨_,W,λv z=>by cases z⟩
  .have z:b=it:=by simpa using z
   subst z;exact⟨o,e,λv z=>by rw[d]at z;cases z⟩
 keep:=λi h h' st k=>by
  obtain⟨old,W,hi⟩:=st;exact⟨old,k _ (by simp) _ W,hi.at λo e=>k it (by simp) o e⟩
 item:=by
  intro X B hw y C i pins s σ H E I R st F;subst B hw y;obtain⟨xs,x,O,q⟩:=F;obtain⟨its,L,p,g⟩:=I.tuple O;obtain⟨u,hu,m⟩:=L.get q;obtain⟨old,W,hi⟩:=st;have S:=af W;have j:i<its.toArray.size:=by
   rw[aQ];rcases dB i its.length with z|z
   .exact z
   .rw[bx z]at hu;cases hu
  have pt:s.heap.IsTuple a its.toArray:=by
   obtain⟨o,g1,g2,n,g3⟩:=p;exact⟨o,g1,g2,n,g3⟩
  have V:a≠it:=λz=>by
   obtain⟨o,g1,g2,_⟩:=p;obtain⟨l,g3,t,_⟩:=id hi;rw[z,g3]at g1
   cases g1;rw[t]at g2;exact absurd g2 (by decide)
  have T:a≠it+1:=λz=>by
   obtain⟨o,g1,g2,_⟩:=p;rw[z,W]at g1
   cases g1;exact absurd (show hG "enumerate"=hG "tuple"from g2) (by decide)
  refine wpAny_pyNext_enum_itemD (TE2.draws (A:=X.A.in1) (I.ok.hd C) it a V its.toArray) W ⟨hi,pt⟩ j (Nat.succ_ne_self it) (by simp[e9 T]) λQ h1 tk U ho M ht hsz J=>?_
  have G:=M.1;obtain rfl:Q=u:=by
   have:its.toArray[i]? = some u:=by simpa using hu
   rw[this]at U;exact(cR.inj U).symm
  have J:=J;refine⟨_,rfl,er ho λh2 D Y=>?_⟩
  replace Y:gf (it+1) h1 h2:=Y
  have hn:=I.hok.fresh (aB _);have I0:Inv X pins σ (upd H s.heap.objs.size (.tup [.int (i:Int),x])) {s with heap:=s.heap.push {cls:=.type "tuple", data:=.seq #[.int (i:Int) tk,Q]} }:=
   I.laid (t':=s.toks) (λb o e=>ad _ e) (aB _) ⟨show 2<=sizeLine by decide,[.int (i:Int) tk,Q],.cons ⟨_,rfl⟩ (.cons m .nil),⟨_,ag _ rfl,rfl,_,rfl⟩⟩
  have ne:∀b,b∈[it+1,it]->b≠s.heap.objs.size:=λb Z=>by
   rcases aJ.mp Z with N|N
   .rw[N];exact aR S
   .rw[show b=it by simpa using N];exact aR (cH S)
  have I1:Inv X pins σ (upd H s.heap.objs.size (.tup [.int (i:Int),x])) {s with heap:=h2,toks:=tk+1}:=by
   refine Inv.turnedL (s:={s with heap:=s.heap.push {cls:=.type "tuple", data:=.seq #[.int (i:Int) tk,Q]} }) (ch:=[it+1,it]) I0 (λb o Z e=>?_) λb Z=>⟨by rw[bG (ne b Z)];exact(R b Z).1,(R b Z).2⟩
   have r:b≠it+1:=λz=>Z (by simp[z])
   have b2:b≠it:=λz=>Z (by simp[z])
   rcases ck e with⟨e1,e2⟩|e1
   .subst e1 e2;exact(Y.2 _ r).trans ht
   .exact(Y.2 _ r).trans (J b o r b2 e1)
  refine⟨.ref s.heap.objs.size,_,I1,rfl,⟨_,x,hn,rfl,rfl,λys f=>by rwa[I.tuple_inj f O]⟩,⟨_,D,G.at λo e=>(Y.2 _ (aR (fU it))).trans e⟩,λb Z=>?_⟩;rw[bG (ne b Z)];exact(R b Z).1
 done:=by
  intro X B hw y C i pins s σ H E I R st F;subst B hw y;obtain⟨xs,O,q⟩:=F;obtain⟨its,L,p,g⟩:=I.tuple O;obtain⟨old,W,hi⟩:=st;have hl:=L.length;have pt:s.heap.IsTuple a its.toArray:=by
   obtain⟨o,g1,g2,n,g3⟩:=p;exact⟨o,g1,g2,n,g3⟩
  have V:a≠it:=λz=>by
   obtain⟨o,g1,g2,_⟩:=p;obtain⟨l,g3,t,_⟩:=id hi;rw[z,g3]at g1
   cases g1;rw[t]at g2;exact absurd g2 (by decide)
  refine TE2.Wq (I.ok.hd C) V W hi pt (by simp;lia) λh' eb=>⟨rfl,Inv.turnedL (t':=s.toks) (ch:=[it+1,it]) I (λb o Z e=>eb b o (λz=>Z (by simp[z])) e) R⟩
 self:=λ_ _ _ _ _ st h=>by
  obtain⟨old,W,_⟩:=st;exact b8 W h
section
variable{a:Expr}{f:FE}
def ZW(K:PySem.W.Frag)(tl:TE):TI:=λσ H R=>tl σ H λx H1=>∃a,x = .ref a/\(∃xs,SqT K H1 a xs)/\R (ItT K a) H1
theorem Sw {x1} (O:Gl X "enumerate") (hm:X.mg "enumerate"=none) (J:PE X a tl) (D:starEach [a] X.env=(false,eval a X.env)::starEach [] X.env:=by rfl)
 (B:(backTo pos (starEach [] X.env)).any (·.1)=false:=by rfl):PI X (.Tuple elts x1 tpos) (.Call (.Name "enumerate" p) [a] [] pos) (ZW X.K tl):=by
 intro pins s σ H R I h;refine ay (nA I O hm boot_enumerate (e_ (thn ((jk J nC D) pos pins s σ H (λvs H1=>match vs with|[x]=>∃a,x = .ref a/\(∃xs,SqT X.K H1 a xs)/\R (ItT X.K a) H1|_=>False) I h) λus s1 ⟨vs,H1,W,T,q1⟩=>?_) D B))
 cases T with
 |nil=>exact q1.elim
 |cons r U=>
  cases U with
  |cons _ _=>exact q1.elim
  |nil=>
  obtain⟨l,e,⟨xs,Q⟩,q⟩:=q1;subst e
  cases r;obtain⟨its,L,pl,G⟩:=W.tuple Q;have pt:s1.heap.IsTuple l its.toArray:=by
   obtain⟨o,g1,g2,n,g3⟩:=pl;exact⟨o,g1,g2,n,g3⟩
  refine TE2.O7 pt λh' Z V S P=>?_
  have M:=W.kept (t':=s1.toks) P;refine b8 (s:={s1 with heap:=h'}) Z ?_;refine⟨s1.heap.objs.size+1,[s1.heap.objs.size+1,s1.heap.objs.size],_,_,H1,rfl,M,Kz l s1.heap.objs.size,⟨_,Z,V⟩,λb N=>?_,q⟩;have Y:s1.heap.objs.size<=b:=by
   rcases aJ.mp N with z|z
   .rw[z];exact lU _
   .rw[show b=s1.heap.objs.size by simpa using z];exact aB _
  exact W.fpOk Y (W.hok.fresh Y)
theorem Sx {x1} (h:DE X fl (.B L) a f) (J:Gl X "enumerate") (hm:X.mg "enumerate"=none) (he:starEach [a] X.env=(false,eval a X.env)::starEach [] X.env:=by rfl)
 (D:(backTo pos (starEach [] X.env)).any (·.1)=false:=by rfl):DI X fl L (.Tuple elts x1 tpos) (.Call (.Name "enumerate" p) [a] [] pos) (Kq f):=PI.imp (Sw J hm h he D) λσ H R' h=>by
 refine D3.ex4 h λG ow δ l R K q=>?_
 refine D3.ex1 (bind1 K) λd e1 e2=>?_
 cases d<;>first|(cases e2;done)|skip
 next V=>
 cases e2;refine⟨G,ow,δ,_,R,e1,λv H1 s r=>?_⟩;obtain⟨a,xs,rfl,O,keep⟩:=Rc (R.grow s) r;refine⟨a,rfl,⟨xs,O⟩,q _ _ s λH2 k2 i=>?_⟩;obtain⟨Y,U⟩:=keep H2 k2;refine⟨λd hd=>?_,λM=>⟨xs,Y,by rw[U.length];simpa[tE]using M⟩⟩;have Z:(V[i]?).map (λx=>eT [.int (i:Int),x])=some d:=by
  have:=hd;unfold tE at this;rwa[fQ]at this
 cases e:V[i]? with
 |none=>rw[e]at Z;cases Z
 |some x0=>
  rw[e]at Z
  cases Z;obtain⟨y,T,Q⟩:=U.get e;refine⟨⟨xs,y,Y,T⟩,λx I W=>?_⟩;obtain⟨p,S,N,rfl,rfl,P⟩:=W;have:some y=some S:=T.symm.trans (P xs Y)
  cases this;have g:=cP N (.tup [.int (i:Int),y]);exact⟨g,.tup bR (.cons (.int _) (.cons (Q.same g) .nil))⟩
end
end D3
namespace XK
open L2 My D3
theorem Yk{P:Nat->Addr->V->V->Prop}:∀n,(∀j,j<n->∃a i k,P j a i k)->∃ts:List (Addr×V×V),ts.length=n/\∀j t,ts[j]? = some t->P j t.1 t.2.1 t.2.2
 |0,_=>⟨[],rfl,λj t h=>by simp at h⟩
 |n+1,h=>by
  obtain⟨ts,h1,h2⟩:=Yk n λj Y=>h j (by lia)
  obtain⟨a,i,k,X⟩:=h n (by lia);refine⟨ts++[(a,i,k)],by simp[h1],λj t e=>?_⟩;by_cases Y:j<ts.length
  .rw[b_ Y]at e;exact h2 j t e
  .rw[bV (by lia)]at e;have Z:j-ts.length=0:=by
    rcases vd (j-ts.length)with z|z
    .exact z
    .rw[bx (by simp;lia)]at e;cases e
   rw[Z]at e
   cases e;rwa[show j=n by lia]
noncomputable def Bu(H:Hp)(S:Addr)(vs:List V)(ts:List (Addr×V×V)):Hp:=λb=>if b=S then some (.lst vs)else match ts.find? (λt=>decide (t.1=b))with
 |some t=>some (.tup [t.2.1,t.2.2])
 |none=>H b
def Sy : Bu H c vs k c=some (.lst vs):=by unfold Bu;rw[if_pos rfl]
theorem SJ (hi:∀(j j':Nat)(t t':Addr×V×V),k[j]? = some t->k[j']? = some t'->t.1=t'.1->j=j') (B:t∈k) (D:t.1≠c):Bu H c vs k t.1=some (.tup [t.2.1,t.2.2]):=by
 unfold Bu;rw[if_neg D]
 cases e:k.find? (λu=>decide (u.1=t.1))with
 |none=>
  have:=jA.mp e t B;simp at this
 |some t'=>
  have h1:=iT e;have h2:=of_decide_eq_true (sV (p:=λu:Addr×V×V=>decide (u.1=t.1)) e);obtain⟨j,Y⟩:=fP B;obtain⟨j',Z⟩:=fP h1;have:=hi j j' t t' Y Z h2.symm;subst this;rw[Y]at Z
  cases Z;rfl
def SM (h1:m≠c) (h2:∀t∈k,t.1≠m):Bu H c vs k m=H m:=by
 unfold Bu;rw[if_neg h1,jA.mpr λt Z=>by simp[h2 t Z]]
theorem SN : ∀{vs:List V}{ds:List D},vs.length=ds.length->(∀(j:Nat)(v:V)(d:D),vs[j]? = some v->ds[j]? = some d->RA K ok pl H v d)->RAs K ok pl H vs ds
 |[],[],_,_=>.nil
 |[],_::_,h,_=>by cases h
 |_::_,[],h,_=>by cases h
 |v::vs,d::ds,h,g=>.cons (g 0 v d rfl rfl) (SN (vZ.inj h) λj u e h1 h2=>g (j+1) u e h1 h2)
theorem t_:∀l m:List D,(jV l m).length=min l.length m.length
 |[],m=>by simp[jV]
 |_::_,[]=>by simp[jV]
 |a::l,b::m=>by
  show(jV l m).length+1=_;rw[t_ l m,aX,aX];lia
section
variable{a b:Expr}{f g:FE}
theorem SQ (ha:DE X fl (.B L1) a f) (hb:DE X fl (.B L2) b g) (hc:X.calm=true) (hg:Gl X "list") (hm:X.mg "list"=none) (hg2:Gl X "zip") (hm2:X.mg "zip"=none)
 (he:starEach [a,b] X.env=(false,eval a X.env)::starEach [b] X.env:=by rfl) (heb:starEach [b] X.env=(false,eval b X.env)::starEach [] X.env:=by rfl) (hpl:(backTo pos2 (starEach [b] X.env)).any (·.1)=false:=by rfl)
 (he2:starEach [.Call (.Name "zip" p2) [a,b] [] pos2] X.env=(false,eval (.Call (.Name "zip" p2) [a,b] [] pos2) X.env)::starEach [] X.env:=by rfl) (hpl2:(backTo pos (starEach [] X.env)).any (·.1)=false:=by rfl) :
 DE X fl .F (.Call (.Name "list" p) [.Call (.Name "zip" p2) [a,b] [] pos2] [] pos) (dOp yq f g):=by
 intro pins s σ H Q I hq;refine D3.ex4 hq λG ow δ d R hf q=>?_
 refine D3.ex2 (Av hf) λx y e1 e2 e3=>?_
 unfold yq at e3;split at e3
 case h_2=>cases e3
 next l m=>
 by_cases hl:l.length<=1000
 case neg=>rw[if_neg hl]at e3;cases e3
 rw[if_pos hl]at e3
 cases e3;refine ay (nA I hg hm boot_list (e_ ?_ he2 hpl2));rw[he2];refine bi ?_;refine ay (nA I hg2 hm2 D3.boot_zip (e_ (thn ((jk ha (jk hb nC heb) he) pos2 pins s σ H (λvs H1=>∃v u,vs=[v,u]/\Same H H1/\(∃l1 xs,v = .ref l1/\SqL X.K H1 l1 xs/\RAs X.K (okA ow) true H1 xs l)/\∃l2 ys,u = .ref l2/\SqL X.K H1 l2 ys/\RAs X.K (okA ow) true H1 ys m) I
  ⟨G,ow,δ,_,R,e1,λv H1 s1 M=>⟨G,ow,δ,_,R.grow s1,e2,λu H2 s2 C=>⟨v,u,rfl,s1.trans s2,(let⟨l1,xs,e,hx,hr⟩:=vK M;⟨l1,xs,e,s2.seq hx,hr.same s2⟩),vK C⟩⟩⟩) λus s1 ⟨vs,H1,S,M,v,u,ev,E,rv,ru⟩=>?_) he hpl))
 subst ev;obtain⟨l1,xs,rfl,hx,hr⟩:=rv;obtain⟨l2,ys,rfl,hy,hr'⟩:=ru
 cases M with
 |cons ra rb=>
 cases rb with
 |cons rb rc=>
 cases rc
 cases ra
 cases rb;obtain⟨its,D,pl,hz⟩:=S.list hx;obtain⟨Z,O,pl',hz'⟩:=S.list hy;have il:=D.length.symm;have il':Z.length=ys.length:=O.length.symm;have xl:=hr.length;have yl:=hr'.length;refine call_zip_2 pl.isList pl'.isList λh' g1 g2 g3 g4 g5 g6 hk=>?_
 refine bX ?_;have q1:h'.IsList l1 its.toArray:=by
  obtain⟨o,ho,r⟩:=pl.isList;exact⟨o,hk _ _ ho,r⟩
 have q2:h'.IsList l2 Z.toArray:=by
  obtain⟨o,ho,r⟩:=pl'.isList;exact⟨o,hk _ _ ho,r⟩
 have Dz:=yh g1 g2 g3 g4 g5 q1 q2 (aR (fU _)) (aR (fU _));refine Rq (s:={s1 with heap:=h'}) (S.ok.hd hc) Dz g1 g2 g3 g4 g5 q1 q2 (by rw[aQ,il,xl];exact aV hl (by decide)) λY acc c kk f1 f2 f3 f4=>?_
 replace kk:∀c o,c∉[s1.heap.objs.size+4,s1.heap.objs.size+3,s1.heap.objs.size,s1.heap.objs.size+1]->h'.get? c=some o->Y.get? c=some o:=kk
 replace f4:Y.get? h'.objs.size=some {cls:=.type "list", dict:=none,data:=.seq acc c,slots:=#[]}:=f4
 replace f2:∀j,j<min its.toArray.size Z.toArray.size->∃a x y,acc[j]? = some (.ref a)/\h'.objs.size<a/\its.toArray[j]? = some x/\Z.toArray[j]? = some y/\gS Y a x y:=f2
 have fr:∀c,s1.heap.objs.size<=c->H1 c=none:=λc hc=>S.hok.fresh hc
 have kept:=λb u e=>kk b u (λz=>by
  have U:=af e;simp only[aJ,cV,or_false]at z;rcases z with z|z|z|z<;>rw[z]at U
  .exact m_.mpr (jr _ _) U
  .exact m_.mpr (jr _ _) U
  .exact eG _ U
  .exact m_.mpr (jr _ _) U) (hk b u e)
 have sS:s1.heap.objs.size<=h'.objs.size:=by rw[g6];lia
 simp only[aQ,il,il']at f1 f2;obtain⟨ts,tl,L⟩:=Yk (P:=λj a i k=>acc[j]? = some (.ref a)/\h'.objs.size<a/\xs[j]? = some i/\ys[j]? = some k/\∃u v,gS Y a u v/\RelV i u/\RelV k v) (min xs.length ys.length) (λj J=>by
  obtain⟨a,x,y,k1,k2,h,n,A⟩:=f2 j J;have hn1:j<xs.length:=by lia
  have hn2:j<ys.length:=by lia
  obtain⟨u1,w1,M⟩:=D.get (aA hn1);obtain⟨u2,w2,C⟩:=O.get (aA hn2);have ex:x=u1:=by
   have:its[j]? = some x:=by simpa using h
   rw[w1]at this;exact(cR.inj this).symm
  have ey:y=u2:=by
   have:Z[j]? = some y:=by simpa using n
   rw[w2]at this;exact(cR.inj this).symm
  subst ex ey;exact⟨a,xs[j],ys[j],k1,k2,aA hn1,aA hn2,x,y,A,M,C⟩)
 have inj:∀(j j':Nat)(t t':Addr×V×V),ts[j]? = some t->ts[j']? = some t'->t.1=t'.1->j=j':=λj j' t t' h1 h2 h3=>by
  have a1:=(L j t h1).1;have a2:=(L j' t' h2).1;rw[<-h3]at a2;exact f3 j j' t.1 a1 a2
 have T:∀t∈ts,h'.objs.size<t.1/\∃u v,gS Y t.1 u v/\RelV t.2.1 u/\RelV t.2.2 v:=λt W=>by
  obtain⟨j,J⟩:=fP W;obtain⟨_,k2,_,_,A⟩:=L j t J;exact⟨k2,A⟩
 have N:acc.toList=ts.map λt=>eQ t.1:=by
  apply dY;intro j;rw[cj,aW];by_cases J:j<ts.length
  .rw[aA J];exact(L j _ (aA J)).1
  .rw[bx (by lia),fZ (by lia)];rfl
 have tn:=λt W=>mD (T t W).1
 have low:∀b,b<s1.heap.objs.size->Bu H1 h'.objs.size (ts.map λt=>V.ref t.1) ts b=H1 b:=λb hb=>SM (λz=>by rw[z]at hb;exact m_.mpr sS hb) λt W z=>by
  have:=(T t W).1;rw[z]at this;exact m_.mpr sS (j9 this hb)
 have hok:HOk X.prog X.w (Bu H1 h'.objs.size (ts.map λt=>V.ref t.1) ts) Y:=λb u e=>by
  by_cases hbS:b=h'.objs.size
  .subst hbS;rw[Sy]at e
   cases e;refine⟨by rw[aq,tl];exact aV (aV (Nat.min_le_left _ _) (by rwa[xl])) (by decide),acc.toList,c,?_,by simpa using f4⟩;rw[N];clear L tl inj T N tn low
   induction ts with
   |nil=>exact .nil
   |cons t ts ih=>exact .cons rfl ih
  .by_cases hbt:∃t∈ts,t.1=b
   .obtain⟨t,W,rfl⟩:=hbt;rw[SJ inj W (tn t W)]at e
    cases e;obtain⟨_,v1,v2,A,k6,k7⟩:=T t W;exact⟨show 2<=sizeLine by decide,[v1,v2],.cons k6 (.cons k7 .nil),⟨_,A,rfl,_,rfl⟩⟩
   .rw[SM hbS λt W z=>hbt ⟨t,W,z⟩]at e;exact(S.hok b u e).stay (λc v _ r=>kept c v r) (λc r=>by rw[low c (S.hok.lt r)];exact r) λc xs r=>by rwa[low c (S.hok.lt r)]
 have sm:Same H1 (Bu H1 h'.objs.size (ts.map λt=>V.ref t.1) ts):=λb u e=>by rw[low b (S.hok.lt e)];exact e
 have I2:=Rr (t':=s1.toks) S kept low hok;have sz:Same H1 (Bu H1 h'.objs.size (ts.map λt=>V.ref t.1) ts):=sm;have hrz:RAs X.K (λb=>okA ow b/\b≠h'.objs.size) true (Bu H1 h'.objs.size (ts.map λt=>V.ref t.1) ts) (ts.map λt=>V.ref t.1) (jV l m):=by
  have hp:=fr _ sS;have M:=(hr.track.imp (ok':=λb=>okA ow b/\b≠h'.objs.size) (λb w=>⟨w.1,λe=>w.2 (e▸hp)⟩) (λz=>z)).same sm;have C:=(hr'.track.imp (ok':=λb=>okA ow b/\b≠h'.objs.size) (λb w=>⟨w.1,λe=>w.2 (e▸hp)⟩) (λz=>z)).same sm;have zln:(jV l m).length=ts.length:=by rw[tl,xl,yl,t_]
  refine SN (by rw[aq,zln]) λj v d hv hd=>?_
  rw[aW]at hv
  cases et:ts[j]? with
  |none=>rw[et]at hv;cases hv
  |some t=>
   rw[et]at hv
   cases hv;obtain⟨_,_,h,n,_⟩:=L j t et;have lj:j<l.length:=by
    rw[<-xl];rcases dB j xs.length with z|z
    .exact z
    .rw[bx z]at h;cases h
   have mj:j<m.length:=by
    rw[<-yl];rcases dB j ys.length with z|z
    .exact z
    .rw[bx z]at n;cases n
   rw[Ay,aA lj,aA mj]at hd
   cases hd;obtain⟨y1,g1,g2⟩:=M.get (aA lj);obtain⟨y2,g3,g4⟩:=C.get (aA mj);rw[h]at g1;rw[n]at g3
   cases g1
   cases g3;exact .tup (SJ inj (gJ et) (tn t (gJ et))) (.cons g2 (.cons g4 .nil))
 refine⟨.ref h'.objs.size,_,I2,rfl,q _ _ (E.trans sm) (.inr ⟨h'.objs.size,_,_,rfl,rfl,E.free (fr _ sS),Sy,hrz⟩)⟩
end
end XK
namespace XJ
open PySem.W XS
def pU(vs:List (List L2.Key×Addr×Value)):List (List L2.Key×Addr×Value):=vs.foldl (λxs e=>storedH xs e.1 e.2.1 e.2.2) []
def KD(vs:List (List L2.Key×Addr×Value))(e:List L2.Key×Addr×Value):pU (vs++[e])=storedH (pU vs) e.1 e.2.1 e.2.2:=by
 unfold pU;rw[v5];rfl
theorem IK(xs:List (List L2.Key×Addr×Value))(k:List L2.Key)(a:Addr)(v:Value):(storedH xs k a v).length<=xs.length+1:=by
 cases h:atKey xs k with
 |none=>rw[storedH_new h];simp
 |some p=>rw[storedH_old h];simp
def O8:∀vs:List (List L2.Key×Addr×Value),(pU vs).length<=vs.length:=λvs=>by
 have:∀(vs acc:List (List L2.Key×Addr×Value)),(vs.foldl (λxs e=>storedH xs e.1 e.2.1 e.2.2) acc).length<=acc.length+vs.length:=λvs=>by
  induction vs with
  |nil=>exact λacc=>aB _
  |cons e vs Z=>
   intro acc;have h1:=Z (storedH acc e.1 e.2.1 e.2.2);have h2:=IK acc e.1 e.2.1 e.2.2;rw[g_,aX];lia
 simpa[pU]using this vs []
def O9:∀(vs:List (List L2.Key×Addr×Value))(x:List L2.Key×Addr×Value),x∈pU vs->∃e∈vs,e.2.1=x.2.1:=λvs x=>by
 have:∀(vs acc:List (List L2.Key×Addr×Value)),x∈vs.foldl (λxs e=>storedH xs e.1 e.2.1 e.2.2) acc->(∃e∈vs,e.2.1=x.2.1)\/∃e∈acc,e.2.1=x.2.1:=λvs=>by
  induction vs with
  |nil=>exact λacc h=>.inr ⟨x,h,rfl⟩
  |cons e vs X=>
   intro acc h;rcases X _ h with⟨Z,h1,h2⟩|⟨Z,h1,h2⟩
   .exact .inl ⟨Z,au _ h1,h2⟩
   .have h1:Z∈storedH acc e.1 e.2.1 e.2.2:=h1
    cases Y:atKey acc e.1 with
    |none=>
     rw[storedH_new Y]at h1;rcases bW.mp h1 with h1|h1
     .exact .inr ⟨Z,h1,h2⟩
     .rw[aL.mp h1]at h2;exact .inl ⟨e,ao,h2⟩
    |some p=>
     rw[storedH_old Y]at h1;obtain⟨e0,W,rfl⟩:=bT.mp h1;refine .inr ⟨e0,W,?_⟩;unfold putAt at h2;split at h2<;>exact h2
 intro h;rcases this vs [] h with h|⟨_,h,_⟩
 .exact h
 .cases h
section
variable{prog:eS}{A:eW}{E:Value->eM->Prop}{s:eM}
def wZ (z:(tupleKind (L2.dh prog w)).is h k m) (kp:∀o,h.get? m=some o->c.get? m=some o):(tupleKind (L2.dh prog w)).is c k m:=by
 obtain⟨o,its,n,h1,r⟩:=z;exact⟨o,its,n,kp o h1,r⟩
def Bv (d:h.DictOfH (tupleKind (L2.dh prog w)) c k) (kp:∀b o,b≠I->h.get? b=some o->h'.get? b=some o) (J:c≠I) (B:∀x∈k,x.2.1≠I):h'.DictOfH (tupleKind (L2.dh prog w)) c k:=by
 obtain⟨o,es,ep,h1,h2,V,W,X,Y⟩:=d;exact⟨o,es,ep,kp c o J h1,h2,V,W,λx Z=>wZ (X x Z) λo q=>kp _ o (B x Z) q,Y⟩
structure PR(prog:eS)(w:ff)(h:fF)(D I l:Addr)(its:Array Value)(vs:List (List L2.Key×Addr×Value))(i:Nat):Prop where
 iter:h.IsListIter I l i
 lst:h.IsList l its
 prs:∀(j:Nat)(u:Value),its[j]? = some u->∃(a b:Addr)(k:List L2.Key)(v:Value),u=eQ a/\gT h a #[eQ b,v]/\vs[j]? = some (k,b,v)/\a≠D/\a≠I/\(tupleKind (L2.dh prog w)).is h k b/\b≠D/\b≠I
 ne:l≠D/\l≠I/\D≠I
def IV (P:PR prog w h c I m its r i) (hz:r.length=its.size):∀x∈pU (r.take i),x.2.1≠I:=λx W=>by
 obtain⟨e,V,U⟩:=O9 _ x W;obtain⟨j,Z⟩:=fP (nU V);have X:j<its.size:=by
  rw[<-hz];rcases dB j r.length with z|z
  .exact z
  .rw[bx z]at Z;cases Z
 obtain⟨a,b,k,v,_,_,Y,_,_,_,_,T⟩:=P.prs j its[j] (by simp[X]);rw[Z]at Y
 cases Y;rwa[<-U]
theorem SX (hA:A.handled=none) (B:(tupleKind (L2.dh prog w)).room A.in1) (hz:q4.length=its.size) (hs:its.size<=1000) :
 ∀(m i:Nat)(tk:Tok)(s:eM),its.size-i=m->i<=its.size->PR prog w s.heap q0 I q3 its q4 i->s.heap.DictOfH (tupleKind (L2.dh prog w)) q0 (pU (q4.take i)) ->
  (∀h' tk,(∀b o,b≠q0->b≠I->s.heap.get? b=some o->h'.get? b=some o)->h'.DictOfH (tupleKind (L2.dh prog w)) q0 (pU q4)->q5 (.ok (.ret .none)) {s with heap:=h',toks:=tk}) ->
  codeAny (model prog w) A (.builtin "dict.update.loop" ⟨[.ref q0,.ref I,.int i tk,.none],[]⟩) q5 s:=by
 intro m
 induction m with
 |zero=>
  intro i tk s hm hi P hd G;have e:i=its.size:=by lia
  subst e;refine bq Dw ?_;rw[a6 uF _];have:its[its.size]? = none:=by simp
  refine aa (wpAny_pyNext_list_end (by simpa using hA) P.iter P.lst this λh' r=>?_);refine aa (ae (ae ?_));have N:h'.DictOfH (tupleKind (L2.dh prog w)) q0 (pU q4):=by
   have:=Bv hd (λb o z q=>r b o z q) P.ne.2.2 (IV P hz);rwa[<-hz,List.take_length]at this
  exact G h' s.toks (λb o _ z q=>r b o z q) N
 |succ m ih=>
  intro i tk s hm hi P hd G;have W:i<its.size:=by lia
  obtain⟨u,hu⟩:∃u,its[i]? = some u:=⟨its[i],by simp[W]⟩;obtain⟨a,V,t,v,rfl,hp,hv,na,d,J,nb,S⟩:=P.prs i u hu;refine bq Dw ?_;rw[a6 uF _];refine aa (wpAny_pyNext_list_item P.iter P.lst hu λh1 O T=>?_);have k1:=λb z=>T.2 b z
  have L:gT h1 a #[.ref V,v]:=by
   obtain⟨o,e,c⟩:=hp;exact⟨o,(k1 a d).trans e,c⟩
  have H:=Bv hd (λb o z q=>(k1 b z).trans q) P.ne.2.2 (IV P hz);have K:=wZ J λo q=>(k1 V S).trans q
  refine aa (ap ?_);have M:(pU (q4.take i)).length<=sizeLine:=by
   refine aV (O8 _) ?_;rw[cO];exact aV (Nat.min_le_left _ _) (aV (cG W) (aV hs (by decide)))
  have X:storedH (pU (q4.take i)) t V v=pU (q4.take (i+1)):=by
   rw[vY,hv];exact(KD (q4.take i) (t,V,v)).symm
  obtain⟨f,e2,c2,n2,d2⟩:=id L;have hT:Shared.TypeIs {s with heap:=h1} (.ref a) "tuple" := ⟨f,e2,c2⟩;refine aa (wpAny_tryCatch ?_);refine aa (b6 hT ?_);rw[if_pos (by decide)];refine aa (bt e2 d2 (ae ?_));refine ap (wpAny_dictSet_heap (hsz:=M) B K H λh2 p Y=>?_);rw[X]at p;refine ae ⟨ce uF _,?_⟩;have k2:∀b o,b≠q0->b≠I->s.heap.get? b=some o->h2.get? b=some o:=λb o z1 z2 q=>(Y.2 b z1).trans ((k1 b z2).trans q)
  have Z:∀b x,b≠q0->b≠I->gT s.heap b x->gT h2 b x:=λb x z1 z2 ⟨o,e,c⟩=>⟨o,k2 b o z1 z2 e,c⟩
  refine ih (i+1) 0 _ (by lia) (by lia) ⟨?_,?_,λj u hj=>?_,P.ne⟩ p λh3 U k3 d3=>?_
  .obtain⟨o,e,c⟩:=O;exact⟨o,(Y.2 I (e9 P.ne.2.2)).trans e,c⟩
  .obtain⟨o,e,c⟩:=P.lst;exact⟨o,k2 q3 o P.ne.1 P.ne.2.1 e,c⟩
  .obtain⟨k,n,Q,h,rfl,q1,q2,y,C,g,E,F⟩:=P.prs j u hj;exact⟨k,n,Q,h,rfl,Z k _ y C q1,q2,y,C,wZ g λo q=>k2 n o E F q,E,F⟩
  .exact G h3 U (λb o z1 z2 q=>k3 b o z1 z2 (k2 b o z1 z2 q)) d3
def Gd {vs:List (List L2.Key×Addr×Value)}(D:A.handled=none) (B:s.heap.get? q0=some {cls:=.type "list", dict:=none,data:=.seq its n,slots:=sl})
 (hp:∀(j:Nat)(u:Value),its[j]? = some u->∃(a b:Addr)(k:List L2.Key)(v:Value),u=eQ a/\gT s.heap a #[eQ b,v]/\vs[j]? = some (k,b,v)/\(tupleKind (L2.dh prog w)).is s.heap k b) (hu:(tupleKind (L2.dh prog w)).room A.in1.in1) (hz:vs.length=its.size) (hs:its.size<=1000)
 (h:∀h' tk,h'.DictOfH (tupleKind (L2.dh prog w)) s.heap.objs.size (pU vs)->(∀b o,s.heap.get? b=some o->h'.get? b=some o)->q1 (.ref s.heap.objs.size) {s with heap:=h',toks:=tk}) :
 wpAny (model prog w) A (PySem.call (.type "dict") [.ref q0]) q1 E s:=by
 refine callType_codes (Q₁:=λobj Y=>obj = .ref s.heap.objs.size/\Y={s with heap:=s.heap.push {cls:=.type "dict", data:=.dict #[]} }) F.kt_called_dict (F.kt_typeCall_dict_1 _) F.entry_dict_init (kt_code_dict_new _ ⟨rfl,rfl⟩) ?_;rintro obj Y ⟨rfl,rfl⟩;obtain⟨g,W⟩:∃g,g=s.heap.push {cls:=.type "dict", data:=.dict #[]}:=⟨_,rfl⟩;rw[<-W];have N:g.DictOf (L2.dh prog w) s.heap.objs.size []:=by rw[W];exact Heap.DictOf.new s.heap
 have S:∀b o,s.heap.get? b=some o->g.get? b=some o:=λb o q=>by rw[W];exact ad _ q
 have T:=S _ _ B;have p:Shared.TypeIs {s with heap:=g} (.ref q0) "list" := ⟨_,T,rfl⟩;refine⟨N.typeIs,F.args_dict_init_2 _ _,?_⟩;unfold g9.«dict.__init__»;refine aa ?_;refine aa (cv N.typeIs ?_);refine ae ?_;refine aa (b6 p ?_);rw[if_pos (by decide)];have R:A.in1.in1.handled=none:=by simpa using D
 refine aa (Ox (s:={s with heap:=g}) T R λh1 X k1=>?_);rw[if_pos (by rfl)];refine aa (a9 ?_);have l1:=k1 _ _ T;have y:h1.IsList q0 its:=⟨_,l1,rfl,n,rfl⟩;refine aa (di (s:={s with heap:=h1,toks:=X}) y ?_);refine ae ⟨ce uF _,?_⟩;obtain⟨g2,Z⟩:∃g2,g2=h1.push {cls:=.type "list_iterator", data:=.fields #[.ref q0,.int 0 0]}:=⟨_,rfl⟩;have k2:∀b o,s.heap.get? b=some o->g2.get? b=some o:=λb o q=>by rw[Z];exact ad _ (k1 _ _ (S _ _ q))
 have old:∀b o,s.heap.get? b=some o->b≠s.heap.objs.size/\b≠h1.objs.size:=λb o q=>by
  have lt:=af q;have U:=af (k1 _ _ (S _ _ q));exact⟨aR lt,aR U⟩
 have P:s.heap.objs.size≠h1.objs.size:=by
  obtain⟨o,_,_,e,_⟩:=N;exact aR (af (k1 _ _ e))
 have f:g2.DictOfH (tupleKind (L2.dh prog w)) s.heap.objs.size (pU (vs.take 0)):=by
  have O:g.DictOfH (tupleKind (L2.dh prog w)) s.heap.objs.size []:=by rw[W];exact Heap.DictOfH.new s.heap
  obtain⟨o,es,ep,e,C,G,H,r4,I⟩:=O;exact⟨o,es,ep,by rw[Z];exact ad _ (k1 _ _ e),C,G,H,(λx t=>by cases t),I⟩
 have K:=old _ _ B;rw[<-Z];refine SX (s:={s with heap:=g2,toks:=X}) (A:=A.in1) (by simpa using D) hu hz hs its.size 0 0 rfl (cg _) ⟨⟨_,by rw[Z];exact ag _ rfl,rfl,rfl⟩,⟨_,k2 _ _ B,rfl,n,rfl⟩,λj u r=>?_,⟨K.1,K.2,P⟩⟩ f λm V z d=>?_
 .obtain⟨a,b,k,v,rfl,⟨o,e,c⟩,q,J⟩:=hp j u r;have L:=old _ _ e;have M:b≠s.heap.objs.size/\b≠h1.objs.size:=by
   obtain⟨ob,_,_,i,_⟩:=id J;exact old _ _ i
  exact⟨a,b,k,v,rfl,⟨o,k2 _ _ e,c⟩,q,L.1,L.2,wZ J λo q=>k2 b o q,M.1,M.2⟩
 .exact⟨rfl,h m V d λb o q=>z b o (old b o q).1 (old b o q).2 (k2 b o q)⟩
end
end XJ
namespace XJ
open PySem.W L2 My D3 XK XT XD XS
def ZX(K:PySem.W.Frag)(H:Hp)(y:V)(k:List Int):Prop:=∃a b,y = .ref a/\iI H a [.ref b,.bl true]/\H b=some (.tup (k.map V.int))
theorem Yl{ok:Ok}:∀{l:List D}{ks:List (List Int)}{ys:List V},rpD l=some ks->RAs K ok pl H ys l->Paired (ZX K H) ys ks
 |[],ks,_,e,.nil=>by cases e;exact .nil
 |d::l,ks,_,e,.cons a q=>by
  unfold rpD at e;split at e
  .next z=>cases z
  .next m r z=>
   cases z;refine D3.ex1 (bind1 e) λk e1 e2=>?_
   cases e3:rpD l with
   |none=>rw[e3]at e2;cases e2
   |some U=>
    rw[e3]at e2
    cases e2;obtain⟨p,xs,rfl,h1,h2⟩:=a.tupE0
    cases h2 with
    |cons W Z=>
    cases Z with
    |cons Z X=>
    cases X;obtain rfl:=Z.blE;obtain⟨b,rfl,Y⟩:=uG (y:=.tuple m) (k:=k) e1 W;rw[wN]at Y;exact .cons ⟨p,b,rfl,h1,Y⟩ (Yl e3 q)
  .cases e
theorem M5:∀(es:List (List Int×Addr))(S:List (List Int))(xs:List (List L2.Key×Addr×Value)),(∀e∈es,H e.2=some (.tup (e.1.map V.int)))->KT H (dtI S) xs ->
 KT H (dtI ((es.map (·.1)).foldl jg S)) ((es.map λe=>((e.1.map fe,e.2,gg true):List L2.Key×Addr×Value)).foldl (λxs e=>storedH xs e.1 e.2.1 e.2.2) xs)
 |[],S,xs,_,h=>h
 |e::es,S,xs,Z,h=>by
  refine M5 es (jg S e.1) (storedH xs (e.1.map fe) e.2 (.bool true)) (λX Y=>Z X (au _ Y)) ?_;rw[<-Ru];exact KT.put h _ (by rw[wN];exact Z e ao) rfl
def Wr(S:List (List Int))(k:List Int):jg S k≠[]:=by
 unfold jg;split
 .intro z;subst z;rename_i h
  cases h
 .simp
theorem IW:∀(ks:List (List Int))(S:List (List Int)),(ks≠[]\/S≠[])->ks.foldl jg S≠[]
 |[],S,h=>by
  rcases h with h|h
  .exact absurd rfl h
  .exact h
 |k::ks,S,_=>IW ks (jg S k) (.inr (Wr S k))
theorem rK:∀(ks:List (List Int))(S:List (List Int)),(ks.foldl jg S).length<=S.length+ks.length
 |[],S=>aB _
 |k::ks,S=>by
  have h1:=rK ks (jg S k);have h2:(jg S k).length<=S.length+1:=by
   unfold jg;split<;>simp
  rw[g_,aX];lia
section
theorem M6 (I:L2.Inv X c σ H s):∀{ys:List V}{us:List Value}{ks:List (List Int)},Paired (ZX X.K H) ys ks->Vals ys us->∃es:List (List Int×Addr),es.length=us.length/\es.map (·.1)=ks/\(∀e∈es,H e.2=some (.tup (e.1.map V.int))) /\
 ∀(j:Nat)(u:Value),us[j]? = some u->∃(a:Addr)(e:List Int×Addr),u=eQ a/\es[j]? = some e/\gT s.heap a #[eQ e.2,gg true]
 |_,_,_,.nil,.nil=>⟨[],rfl,rfl,(λe h=>by cases h),(λj u h=>by simp at h)⟩
 |_,_,_,.cons (b:=k) p ps,.cons r U=>by
  obtain⟨es,h1,h2,O,P⟩:=M6 I ps U;obtain⟨a,b,rfl,R,Q⟩:=p
  cases r;obtain⟨its,Z,pt,_⟩:=I.tuple (.inl (.inl R));refine⟨(k,b)::es,by simp[h1],by simp[h2],λe W=>?_,λj u Y=>?_⟩
  .rcases aJ.mp W with rfl|W
   .exact Q
   .exact O e W
  .cases j with
   |zero=>
    simp at Y;subst Y
    cases Z with
    |cons S Z=>
    cases Z with
    |cons T Z=>
    cases Z
    cases S
    cases T;exact⟨a,(k,b),rfl,rfl,pt⟩
   |succ j=>exact P j u (by simpa using Y)
def rm2{A:eW}(hu:A.units+64<cLine):(tupleKind (L2.dh P w)).room A.in1.in1:=ba (A:=A.in1) (by
 have:A.in1.units<=A.units+1:=by
  first|exact aB _|(unfold Around.in1;simp)
 lia)
def KH(hu:X.A.units+64<cLine)(hA:X.A.handled=none):m7 X (.type "dict") (λxs H Q=>∃(p:Addr)(ys:List V)(ks:List (List Int)),xs=[.ref p]/\SqL X.K H p ys/\ys.length<=1000/\Paired (ZX X.K H) ys ks/\∀l,H l=none->Q (.ref l) (upd H l (if ks=[]then .dK []else .dT (dtI (ks.foldl jg []))))):=by
 intro pins s σ H xs us Q I r h;obtain⟨p,ys,ks,rfl,W,C,O,q⟩:=h;obtain⟨u,rfl,E⟩:=vals1 r
 cases E;obtain⟨its,Z,pl,m⟩:=I.list W;obtain⟨⟨c,d,g,t⟩,n,e,rfl,rfl,rfl⟩:=pl;obtain⟨es,F,S,T,G⟩:=M6 I O Z;have len:its.length=ys.length:=Z.length.symm;have U:=I.hok.fresh (aB _);refine Gd (vs:=es.map λe=>(e.1.map fe,e.2,gg true)) hA e (λj u B=>?_) (rm2 hu) (by simpa using F) (by simp;lia) λh' tk v k=>?_
 .obtain⟨a,e,rfl,h1,h2⟩:=G j u (by simpa using B);refine⟨a,e.2,e.1.map fe,.bool true,rfl,h2,by rw[aW,h1];rfl,vM I.hok ?_⟩;rw[wN];exact T e (gJ h1)
 .have P:=M5 (H:=H) es [] [] T .nil;rw[S]at P;obtain⟨o,Y,ep,g1,g2,g3,M,i,y⟩:=v;have R:=beq_eq_false_iff_ne.mpr (e9 (aR (big I)));by_cases N:ks=[]
  .subst N;obtain rfl:es=[]:=List.map_eq_nil_iff.mp S;have L:=M;exact⟨.ref _,_,I.laid (h':=h') (t':=tk) (a:=s.heap.objs.size) (o:=.dK []) k (aB _) ⟨cg _,R,[],.nil,o,Y,ep,g1,g2,g3,λx W=>(by rw[Array.mem_def,L]at W;cases W),by rw[L];exact .nil,.nil⟩,rfl,q _ U⟩
  .have q:=q _ U;rw[if_neg N]at q;exact⟨.ref _,_,I.laid (h':=h') (t':=tk) (a:=s.heap.objs.size) (o:=.dT (dtI (ks.foldl jg []))) k (aB _) ⟨by
    have z:=rK ks [];have D:=O.length.symm;unfold dtI;rw[aq];refine aV z ?_;rw[h_,fG,D];exact aV C (by decide),R,_,KT.keeps P λc J w=>by rwa[bG (jD w U)],o,Y,ep,g1,g2,g3,M,y⟩,rfl,q⟩
theorem S5 {fl:List Fl}(hu:X.A.units+64<cLine) (hA:X.A.handled=none) (ha:DB X fl .P [c] fa) (D:Gl X "dict") (hm:X.mg "dict"=none)
 (J:starEach [c] X.env=(false,eval c X.env)::starEach [] X.env:=by rfl) (B:(backTo k (starEach [] X.env)).any (·.1)=false:=by rfl):DE X fl .C (.Call (.Name "dict" p) [c] [] k) (dCall Bg fa):=by
 intro pins s σ H Q I h;refine D3.ex4 h λG ow δ d R N q=>?_
 refine D3.ex1 (bind1 N) λds e1 e2=>?_
 unfold Bg at e2;split at e2
 case h_2=>cases e2
 next l=>
 refine D3.ex1 (bind1 e2) λks M Z=>?_
 by_cases V:l.length<=1000
 case neg=>rw[if_neg V]at Z;cases Z
 rw[if_pos V]at Z
 cases Z;refine rD (KH hu hA) D hm (show bootBuiltins "dict"=some (.type "dict")by decide +kernel) ha (by decide) (by decide) J B pins s σ H Q I ⟨G,ow,δ,_,R,e1,λvs H' sm S=>?_⟩
 cases S with
 |cons T U=>
  cases U;obtain⟨a,ys,rfl,O,W⟩:=T.lstE;refine⟨a,ys,ks,rfl,O,by rwa[W.length],Yl M W,λL hn=>q _ _ (sm.trans (cP hn _)) (.dic bR (.inl ⟨yr (wL _),?_⟩) (sm.free hn))⟩;by_cases Y:ks=[]
  .subst Y;rfl
  .rw[if_neg Y,Bj (wL _) (IW ks [] (.inl Y))]
end
end XJ
namespace XV
open L2 My D3
end XV
namespace D3
def um(i:Nat)(fk:FE):FS:=λδ=>(aj i δ).bind λx=>(fk δ).bind λy=>(Ri x).bind λS=>(Bf y).bind λk=>if S.length<1000000 then some (.nx (δ.set i (some (.d (dsT (jg S k))))))else none
end D3
namespace XJ
open L2 My D3 XK XT
section
theorem Kv (h:tsD kvs=some []):kvs=[]:=by
 cases kvs with
 |nil=>rfl
 |cons q r=>
  obtain⟨a,b⟩:=q;unfold tsD at h;split at h
  .next e=>cases e
  .next e=>
   cases e;refine D3.ex1 (bind1 h) λk e1 e2=>?_
   cases e3:tsD r with
   |none=>rw[e3]at e2;cases e2
   |some z=>rw[e3]at e2;cases e2
  .cases h
theorem O_ (R:Rel K fl G ow σ H δ) (O:fl[i]? = some .N) (hx:aj i δ=some c) (B:Ri c=some []) :
 ∃a,σ[i]? = some (some (.ref a))/\H a=some (.dK [])/\∀H',Same H H'->∀J,J≠[]->∃Y,Rel K fl G Y σ (upd H' a (.dT (dtI J))) (δ.set i (some (.d (dsT J)))):=by
 have e:=kW hx;have hi:i<δ.length:=by
  rcases dB i δ.length with z|z
  .exact z
  .rw[bx z]at e;cases e
 obtain⟨v,h1,h2,U⟩:=R.nr i c (by rw[O];rfl) e;generalize X:ow.n i=as at h2 U
 cases h2 with
 |dic ha V=>
  rename_i a u kvs;have W:=Kv B;subst W;rw[V.old rfl]at ha;refine⟨a,h1,ha,λH' s J Z=>?_⟩;refine(R.grow s).mutN (as:=[a]) O hi (by rw[X];exact gU _) (s _ _ ha) h1 ?_ (λb T=>by rwa[X]) (bY.mpr ⟨cV,.nil⟩);refine .dic bR (.inl ⟨yr (wL J),?_⟩);rw[Bj (wL J) Z]
 |non=>cases B
 |bl _=>cases B
 |int _=>cases B
 |str _=>cases B
 |lst _ _=>cases B
 |tup _ _=>cases B
end
def Z0:V->V->V->Hp->(Hp->Prop)->Prop:=λo i v H Q=>Yh o i v H Q\/∃p k b,o = .ref p/\i = .ref b/\H p=some (.dK [])/\H b=some (.tup (lC kV k))/\Q (upd H p (.dT [(k,v)]))
section
def Pa(hu:X.A.units+1<cLine):U7 X Z0:=by
 intro pins s σ H o i v S R u Q I W V Y h;rcases h with h|⟨p,k,b,rfl,rfl,U,P,q⟩
 .exact Rw hu pins s σ H o i v S R u Q I W V Y h
 .cases W;have Z:upd H p (.dT []) b=some (.tup (lC kV k)):=by
   rwa[bG (jf P U (λz=>nomatch z))]
  exact DK hu (RG I U) (Ks.t bR Z (show 0<sizeLine by decide)) V Y λs' T=>⟨_,by rw[Le]at T;exact T,q⟩
def S6(hu:X.A.units+1<cLine){i:Nat}{x:Str}{vpos spos:Pos}(B:fl[i]? = some .N)(he:PE X e (tC (.bl true)))(hk:DE X fl .P ke fk)(hN:X.N[i]? = some x)(hv:Vis X.env.scope x:=by first|exact fE rfl|exact fg (fE rfl)|exact fg (fg rfl))(hd:(x==("__debug__":Str))=false:=by decide)
 (O:(x==("__classdict__":Str))=false:=by decide) (ha:∀v,assign (.Subscript (.Name x vpos) ke spos) X.env v=(do
  let D <-holding [v] (eval (.Name x vpos) X.env)
  let J <-holding [v,D] (eval ke X.env)
  standAt spos
  holding [v,D,J] (setItem D J v)
  release [v,D,J] []):=by intro _;rfl)
 (hs:swapsWithSole [.Subscript (.Name x vpos) ke spos] e pos.line X.env=pure false:=by rfl) (hw:swappedStores [.Subscript (.Name x vpos) ke spos] e X.env=pure none:=by rfl)
 (h1:(assignEach [.Subscript (.Name x vpos) ke spos] X.env).map (·.2)=[assign (.Subscript (.Name x vpos) ke spos) X.env]:=by rfl) :
 DS1 X fl (.Assign [.Subscript (.Name x vpos) ke spos] e pos) (um i fk):=
 PS.imp (JW he (Qj (pK hN hv hd O) hk (Pa hu) ha) hs hw h1) λDn σ H h=>by
 refine D3.ex4 h λG ow δ o R Z q=>?_
 refine D3.ex1 (bind1 Z) λy e1 Z=>?_
 refine D3.ex1 (bind1 Z) λz e2 Z=>?_
 refine D3.ex1 (bind1 Z) λS e3 Z=>?_
 refine D3.ex1 (bind1 Z) λk L Z=>?_
 by_cases V:S.length<1000000
 case neg=>rw[if_neg V]at Z;cases Z
 rw[if_pos V]at Z
 cases Z;by_cases Q:S=[]
 .subst Q;obtain⟨p,h1,h2,M⟩:=O_ R B e1 e3;refine⟨_,h1,G,ow,δ,_,R,e2,λu H2 s2 W=>?_⟩;obtain⟨b,rfl,U⟩:=uG L W;obtain⟨Y,R'⟩:=M H2 s2 [k] (by simp);exact .inr ⟨p,k.map fe,b,rfl,rfl,s2 _ _ h2,U,q Y σ _ R'⟩
 .obtain⟨p,h1,h2,M⟩:=Rv R B e1 e3 Q;refine⟨_,h1,G,ow,δ,_,R,e2,λu H2 s2 W=>?_⟩;obtain⟨b,rfl,U⟩:=uG L W;have T:jg S k≠[]:=by
   unfold jg;split
   .exact Q
   .simp
  obtain⟨Y,R'⟩:=M H2 s2 (jg S k) T;refine .inl ⟨p,dtI S,k.map fe,b,rfl,rfl,s2 _ _ h2,U,by unfold dtI;rw[aq];exact j9 V (by decide),?_⟩;rw[Ru];exact q Y σ _ R'
end
end XJ
namespace D3
mutual
def nod:D->Bool
 | .list l=>sG l
 | .tuple l=>sG l
 | .dict _=>false
 |_=>true
def sG:List D->Bool
 |[]=>true
 |d::l=>nod d&&sG l
end
mutual
def zm:D->List D
 | .list l=>.list l::m9 l
 | .tuple l=>m9 l
 |_=>[]
def m9:List D->List D
 |[]=>[]
 |d::l=>zm d++m9 l
end
def ndW(d:D):Bool:=nod d && @decide (zm d).Nodup (gd _)
def sGd(f:FS):FS:=λδ=>(f δ).bind λo=>match o with
 | .rt d=>if ndW d=true then some (.ex "" "" d)else none
 | .ex _ _ _=>none
 |o=>some o
noncomputable def Ws:Option Oc->Option D
 |some (.ex _ _ d)=>some d
 |_=>none
def fnE(p q:Nat)(b:FS):List D->Option D:=λds=>if ds.length=p then Ws (b (ds.map (λd=>some (.d d))++aO q none))else none
def Ym : fnE c k m ds=if ds.length=c then Ws (m (ds.map (λd=>some (.d d))++aO k none))else none:=rfl
def I_ : Ws (some (.ex c k d))=some d:=rfl
def Yn(f:FE):FS:=λδ=>(f δ).bind λd=>some (.ex "" "" d)
def xg(i j:Nat)(fk:FE):FS:=λδ=>(aj j δ).bind λx=>(fk δ).bind λk=>match x,k with
 | .tuple l,.int m=>(pIx l.length m).bind λn=>(l[n]?).bind λd=>if i<δ.length then some (.nx ((δ.set j none).set i (some (.d d))))else none
 |_,_=>none
def uo(i:Nat)(fk f:FE):FS:=λδ=>(aj i δ).bind λx=>(fk δ).bind λk=>(f δ).bind λd=>match x,k with
 | .tuple l,.int j=>(pIx l.length j).bind λn=>match l[n]? with
  |some (.list m)=>if m.length<1000000 then some (.nx (δ.set i (some (.d (.tuple (l.set n (.list (m++[d]))))))))else none
  |_=>none
 |_,_=>none
def dNw(fa:FE):FE:=λδ=>(fa δ).bind λd=>if ndW d=true then some d else none
end D3
namespace XW6
open L2 My D3 XK XH XO
section
variable{H:Hp}
def at4:(∀{v:V}{d:D}{as:List Addr},RT K H v d as->nod d=true->∀d' B,RT K H v d' B->d=d')/\∀{v:List V}{d:List D}{as:List Addr},RTs K H v d as->sG d=true->∀d' B,RTs K H v d' B->d=d':=
 RT.ind (λ_ _ _ r=>by cases r;rfl) (λ_ _ _ _ r=>by cases r;rfl) (λ_ _ _ _ r=>by cases r;rfl) (λ_ _ _ _ r=>by cases r;rfl) (λ{a xs ds as} t q h d' B r=>by
  cases r with
  |lst e r=>
   rw[t]at e
   cases e;rw[q (by simpa[nod]using h) _ _ r]
  |tup e r=>
   unfold iI at e;rw[t]at e
   cases e
  |dic e g=>
   rw[t]at e
   cases e;rcases g.or with⟨_,z⟩|⟨_,z⟩<;>cases z) (λ{a xs ds as} t q h d' B r=>by
  cases r with
  |lst e _=>rw[t]at e;cases e
  |tup e r=>
   unfold iI at e;rw[t]at e
   cases e;rw[q (by simpa[nod]using h) _ _ r]
  |dic e g=>
   rw[t]at e
   cases e;exact(g.chg).tup.elim) (λ_ _ h=>by simp[nod]at h) (λ_ _ _ r=>by cases r;rfl) λe q h d' B r=>by
  cases r with
  |cons Y Z=>
   rw[sG,aK]at h;rw[e h.1 _ _ Y,q h.2 _ _ Z]
inductive Pd(K:PySem.W.Frag)(H:Hp):List Addr->List D->Prop
 |nil:Pd K H [] []
 |cons {a:Addr} {x:D} {bs as:List Addr} {xs:List D}:RT K H (.ref a) x bs->nod x=true->Pd K H as xs->Pd K H (a::as) (x::xs)
theorem Pd.app:∀{as:List Addr}{xs:List D},Pd K H as xs->∀{bs:List Addr}{ys:List D},Pd K H bs ys->Pd K H (as++bs) (xs++ys)
 |_,_,.nil,_,_,q=>q
 |_,_,.cons r n p,_,_,q=>.cons r n (p.app q)
theorem Pd.mem:∀{as:List Addr}{xs:List D},Pd K H as xs->∀a∈as,∃x bs,x∈xs/\RT K H (.ref a) x bs
 |_,_,.nil,_,h=>by cases h
 |_,_,.cons r n p,a,h=>by
  rcases aJ.mp h with rfl|h
  .exact⟨_,_,ao,r⟩
  .obtain⟨x,bs,h1,h2⟩:=p.mem a h;exact⟨x,bs,au _ h1,h2⟩
theorem Pd.nd:∀{as:List Addr}{xs:List D},Pd K H as xs->xs.Nodup->as.Nodup
 |_,_,.nil,_=>.nil
 |_,_,.cons r n p,h=>by
  obtain⟨h1,h2⟩:=bY.mp h;refine bY.mpr ⟨λz=>?_,p.nd h2⟩;obtain⟨x,bs,g1,g2⟩:=p.mem _ z;rw[at4.1 r n _ _ g2]at h1;exact h1 g1
def aj4:(∀{v:V}{d:D}{as:List Addr},RT K H v d as->RT K H v d as/\(nod d=true->Pd K H as (zm d)))/\∀{v:List V}{d:List D}{as:List Addr},RTs K H v d as->RTs K H v d as/\(sG d=true->Pd K H as (m9 d)):=
 RT.ind ⟨.non,λ_=>.nil⟩ (λb=>⟨.bl b,λ_=>.nil⟩) (λi=>⟨.int i,λ_=>.nil⟩) (λx=>⟨.str x,λ_=>.nil⟩) (λt q=>⟨.lst t q.1,λh=>by
  rw[zm];exact .cons (.lst t q.1) h (q.2 (by simpa[nod]using h))⟩) (λt q=>⟨.tup t q.1,λh=>by
  rw[zm];exact q.2 (by simpa[nod]using h)⟩) (λt g=>⟨.dic t g,λh=>by simp[nod]at h⟩) ⟨.nil,λ_=>by rw[m9];exact .nil⟩ λe q=>⟨.cons e.1 q.1,λh=>by
  rw[sG,aK]at h;rw[m9];exact(e.2 h.1).app (q.2 h.2)⟩
def Ja (h:ndW d=true) (r:RA K ok false H v d):∃as,RT K H v d as/\as.Nodup/\∀a∈as,ok a:=by
 unfold ndW at h;rw[aK,@decide_eq_true_iff _ (gd _)]at h;obtain⟨as,h1,_,Z⟩:=r.rt;exact⟨as,h1,((aj4.1 h1).2 h.1).nd h.2,Z⟩
theorem zT:∀{vs:List V}{ds:List D}{as:List Addr}{k:Nat},RTs K H vs ds as->ds[k]? = some d->as.Nodup->∃v bs,vs[k]? = some v/\RT K H v d bs/\(∀b∈bs,b∈as)/\bs.Nodup /\
 ∀c u o d' B,c∈bs->H c=some u->Chg u->RT K (L2.upd H c o) v d' B->(∀b∈B,b∈bs\/b∉as)->B.Nodup->∃J,RTs K (L2.upd H c o) vs (ds.set k d') J/\J.Nodup/\∀b∈J,b∈as\/b∈B
 |_,_,_,_,.nil,h,_=>by simp at h
 |_,_,_,0,.cons (as:=Y) (bs:=U) e q,h,nd=>by
  simp at h;subst h;obtain⟨n1,n2,X⟩:=eZ.mp nd;refine⟨_,Y,rfl,e,λb Z=>bO _ Z,n1,λc u o d' B S hu P r hs hn=>⟨B++U,.cons r (RTs.upd hu (λz=>X c S c z rfl) q),eZ.mpr ⟨hn,n2,λx W y T e=>?_⟩,λb Z=>?_⟩⟩
  .subst e;rcases hs x W with z|z
   .exact X x z x T rfl
   .exact z (bw _ T)
  .rcases bW.mp Z with z|z
   .exact .inr z
   .exact .inl (bw _ z)
 |_,_,_,k+1,.cons (as:=Y) (bs:=U) e q,h,nd=>by
  obtain⟨n1,n2,X⟩:=eZ.mp nd;obtain⟨v,bs,h1,h2,R,L,M⟩:=zT (k:=k) q (by simpa using h) n2;refine⟨v,bs,by simpa using h1,h2,λb Z=>bw _ (R b Z),L,λc u o d' B S hu P r hs hn=>?_⟩;obtain⟨J,N,O,Q⟩:=M c u o d' B S hu P r (λb Z=>(hs b Z).imp id λz y=>z (bw _ y)) hn;refine⟨Y++J,.cons (RT.upd hu (λz=>X c z c (R c S) rfl) e) N,eZ.mpr ⟨n1,O,λx W y T e=>?_⟩,λb Z=>?_⟩
  .subst e;rcases Q x T with z|z
   .exact X x W x z rfl
   .rcases hs x z with w|w
    .exact X x W x (R x w) rfl
    .exact w (bO _ W)
  .rcases bW.mp Z with z|z
   .exact .inl (bO _ z)
   .exact(Q b z).imp (bw _) id
theorem Jb : ∀{vs:List V}{ds:List D}{as:List Addr},RTs K H vs ds as->RT K H c d bs->RTs K H (vs++[c]) (ds++[d]) (as++bs)
 |_,_,_,.nil,r=>by simpa using RTs.cons r .nil
 |_,_,_,.cons e q,r=>by
  have:=RTs.cons e (Jb q r);rwa[<-aP]at this
section
variable{G:Gh}{ow:Ow}{σ:L2.St}{H':Hp}{δ:DS}{v:V}{d:D}{as:List Addr}
def Z1(R:Rel K fl G ow σ H δ)(B:fl[i]? = some .N):∀a,ow i≠some a:=λa z=>by
 obtain⟨_,Z,_⟩:=R.own i a z;rw[B]at Z;rcases Z with⟨z,_⟩|⟨z,_⟩<;>cases z
def at5 [cu:Chg c] [cu':Chg k] (R:Rel K fl G ow σ H δ) (s:Same H H') (B:fl[i]? = some .N) (hi:i<δ.length) (ha:a∈ow.n i) (O:H' a=some c) (hv:σ[i]? = some (some v))
 (hr:RT K (L2.upd H' a k) v d as) (hs:∀b∈as,b∈ow.n i\/H b=none) (hd:as.Nodup):∃J,Rel K fl G J σ (L2.upd H' a k) (δ.set i (some (.d d))):=by
 have R':=R.grow s;have na:¬okA ow a:=λz=>z.2 i ha
 have S:G.HF a=none:=by
  rcases(R.nt i a ha).2.2 with⟨_,z⟩|z
  .exact z
  .rw[B]at z;cases z
 have sub:∀b,okA ow b/\H b≠none->okA (owN ow i as) b:=λb z=>⟨z.1.1,λj e=>by
  by_cases Z:j=i
  .subst Z;rw[iV]at e;exact(hs b e).elim (z.1.2 j) z.2
  .rw[gA Z]at e;exact z.1.2 j e⟩
 have tr:∀b,Chd (H' b)->Chd (L2.upd H' a k b):=λb z=>by
  by_cases X:b=a
  .rw[X,bR];exact⟨_,rfl,cu'⟩
  .rwa[bG X]
 have old:∀{j b},b∈(owN ow i as).n j->(b∈ow.n j\/(j=i/\H b=none)):=λ{j b} h=>by
  by_cases Z:j=i
  .subst Z;rw[iV]at h;exact(hs b h).imp id λz=>⟨rfl,z⟩
  .rw[gA Z]at h;exact .inl h
 refine⟨owN ow i as,R.s0,λb o X=>?_,by rw[cJ];exact R.len,λj b h=>?_,R.inj,R.pin,λj W g1 Y g2=>?_,λj W g1 Y g2 g3=>?_,λj b h=>?_,λj j' b h h'=>?_,λj j' b h z=>?_,λj h=>?_,λj W Y g1=>?_⟩
 .rw[bG (λz=>by subst z;rw[S]at X;cases X)];exact R'.s1 b o X
 .have Z:j≠i:=λz=>Z1 R B b (z▸h)
  obtain⟨Q,T,zs,ds,g1,g2,g3,V⟩:=R.own j b h;have X:b≠a:=λz=>R.ns i j a ha (z▸h)
  exact⟨Q,T,zs,ds,g1,by rw[bG X];exact s _ _ g2,((g3.track.same s).upd O (λz=>na z.1)).imp sub (λz=>z),by rwa[aY (e9 Z)]⟩
 .rcases gD g1 with⟨rfl,e⟩|⟨Z,e⟩
  .rw[B]at Y;cases Y
  .obtain⟨U,g3,V⟩:=R.dat j W e Y g2;exact⟨U,g3,((V.track.same s).upd O (λz=>na z.1)).imp sub (λz=>z)⟩
 .rcases gD g1 with⟨rfl,e⟩|⟨Z,e⟩
  .rw[B]at Y;cases Y
  .exact R.oo j W e Y g2 g3
 .rcases old h with z|⟨rfl,z⟩
  .obtain⟨g1,g2,g3⟩:=R'.nt j b z;exact⟨g1,tr b g2,g3⟩
  .rw[iV]at h;exact⟨R.same0.free z,hr.chd b h,.inl ⟨B,R.s1.free z⟩⟩
 .rcases old h with z|⟨rfl,z⟩<;>rcases old h' with y|⟨rfl,y⟩
  .exact R.nd j j' b z y
  .exact absurd y (R.nt j b z).2.1.ne
  .exact absurd z (R.nt j' b y).2.1.ne
  .rfl
 .rcases old h with y|⟨rfl,y⟩
  .exact R.ns j j' b y z
  .obtain⟨_,_,_,_,_,g2,_⟩:=R.own j' b z;rw[y]at g2
   cases g2
 .have Z:j≠i:=λz=>by subst z;rw[B]at h;cases h
  rw[gA Z];exact R.np j h
 .rcases gD g1 with⟨rfl,e⟩|⟨Z,e⟩
  .cases e;exact⟨v,hv,by rw[iV];exact hr,by rw[iV];exact hd⟩
  .obtain⟨U,g3,V,P⟩:=R.nr j W Y e;exact⟨U,g3,by rw[gA Z];exact(V.same s).upd O (λz=>Z (R.nd j i a z ha)),by rwa[gA Z]⟩
def at6(R:Rel K fl G ow σ H δ)(fi:fl[i]? = some .N)(B:fl[j]? = some .N)(hi:i<σ.length)(ij:i≠j)(J:RT K H v d as)(hs:∀b∈as,b∈ow.n j)(hd:as.Nodup):
 Rel K fl G (owN (owN ow j []) i as) (σ.set i (some v)) H ((δ.set j none).set i (some (.d d))):=by
 have old:∀{k b},b∈(owN (owN ow j []) i as).n k->(k=i/\b∈ow.n j)\/(k≠i/\k≠j/\b∈ow.n k):=λ{k b} h=>by
  by_cases V:k=i
  .subst V;rw[iV]at h;exact .inl ⟨rfl,hs b h⟩
  .rw[gA V]at h;by_cases X:k=j
   .subst X;rw[iV]at h
    cases h
   .rw[gA X]at h;exact .inr ⟨V,X,h⟩
 have sub:∀b,okA ow b->okA (owN (owN ow j []) i as) b:=λb z=>⟨z.1,λk e=>by
  rcases old e with⟨_,y⟩|⟨_,_,y⟩
  .exact z.2 j y
  .exact z.2 k y⟩
 have slot:∀{k:Nat}{Z:D},((δ.set j none).set i (some (.d d)))[k]? = some (some (.d Z))->(k=i/\Z=d)\/(k≠i/\k≠j/\δ[k]? = some (some (.d Z))):=λ{k Z} h=>by
  rcases gD h with⟨rfl,e⟩|⟨V,e⟩
  .cases e;exact .inl ⟨rfl,rfl⟩
  .by_cases X:k=j
   .subst X;rw[mF]at e;rw[if_pos rfl]at e;split at e<;>cases e
   .rw[aY (e9 X)]at e;exact .inr ⟨V,X,e⟩
 refine⟨R.s0,R.s1,by rw[cJ,cJ,cJ];exact R.len,λk b h=>?_,R.inj,R.pin,λk Z g1 Y g2=>?_,λk Z g1 Y g2 g3=>?_,λk b h=>?_,λk W b h h'=>?_,λk W b h=>?_,λk h=>?_,λk Z Y g1=>?_⟩
 .have h1:k≠i:=λz=>Z1 R fi b (z▸h)
  have h2:k≠j:=λz=>Z1 R B b (z▸h)
  obtain⟨P,S,zs,ds,g1,g2,g3,U⟩:=R.own k b h;exact⟨P,S,zs,ds,by rw[aY (e9 h1)];exact g1,g2,g3.imp sub (λz=>z),by rw[aY (e9 h1),aY (e9 h2)];exact U⟩
 .rcases slot g1 with⟨rfl,_⟩|⟨h1,_,e⟩
  .rw[fi]at Y;cases Y
  .obtain⟨T,g3,U⟩:=R.dat k Z e Y g2;exact⟨T,by rw[aY (e9 h1)];exact g3,U.imp sub (λz=>z)⟩
 .rcases slot g1 with⟨rfl,_⟩|⟨h1,_,e⟩
  .rw[fi]at Y;cases Y
  .exact R.oo k Z e Y g2 g3
 .rcases old h with⟨rfl,y⟩|⟨_,_,y⟩
  .obtain⟨g1,g2,g3⟩:=R.nt j b y;refine⟨g1,g2,.inl ⟨fi,?_⟩⟩;rcases g3 with⟨_,z⟩|z
   .exact z
   .rw[B]at z;cases z
  .exact R.nt k b y
 .rcases old h with⟨rfl,y⟩|⟨h1,h2,y⟩<;>rcases old h' with⟨rfl,z⟩|⟨M,Q,z⟩
  .rfl
  .exact absurd (R.nd j W b y z) (e9 Q)
  .exact absurd (R.nd k j b y z) h2
  .exact R.nd k W b y z
 .rcases old h with⟨rfl,y⟩|⟨_,_,y⟩
  .exact R.ns j W b y
  .exact R.ns k W b y
 .have h1:k≠i:=λz=>by rw[z,fi]at h;cases h
  have h2:k≠j:=λz=>by rw[z,B]at h;cases h
  rw[gA h1,gA h2];exact R.np k h
 .rcases slot g1 with⟨rfl,rfl⟩|⟨h1,h2,e⟩
  .exact⟨v,dg hi,by rw[iV];exact J,by rw[iV];exact hd⟩
  .obtain⟨T,g3,U,O⟩:=R.nr k Z Y e;exact⟨T,by rw[aY (e9 h1)];exact g3,by rw[gA h1,gA h2];exact U,by rw[gA h1,gA h2];exact O⟩
end
end
section
variable{f:FE}{fs:FS}{st:gv}
def Z2(h:DE X fl .C e f):DE X fl .T e (dNw f):=wg h λHb H G ow σ δ v d Z R r=>Ja Z r
theorem Jc(h:DS1 X fl st fs):DQ1 X fl (ET X.K) st (sGd fs):=PS.imp h λDn σ H h=>by
 refine D3.ex4 h λG ow δ o R Y q=>?_
 refine D3.ex1 (bind1 Y) λZ e1 e2=>?_
 refine⟨G,ow,δ,Z,R,e1,?_⟩
 cases Z with
 |nx _=>cases e2;exact q
 |bk _=>cases e2;exact q
 |ct _=>cases e2;exact q
 |ex _ _ _=>cases e2
 |rt d=>
  dsimp only at e2;by_cases c:ndW d=true
  case neg=>rw[if_neg c]at e2;cases e2
  rw[if_pos c]at e2
  cases e2;intro v H' s r;obtain⟨as,h1,h2,W⟩:=Ja c r;exact q v H' as s h1 h2 W
def Wt(h:DE X fl .T e f):DQ1 X fl (ET X.K) (.Return (some e) pos) (Yn f):=PS.imp (JV h) λDn σ H h=>by
 refine D3.ex4 h λG ow δ o R Z q=>?_
 refine D3.ex1 (bind1 Z) λd e1 e2=>?_
 cases e2;refine⟨G,ow,δ,d,R,e1,λv H' s r=>?_⟩;obtain⟨as,h1,h2,Y⟩:=r;exact q v H' as (R.same0.trans s) h1 h2 λa ha=>R.same0.free (Y a ha)
theorem Wu{y:Str}{pos':Pos}(fi:fl[i]? = some .N)(fj:fl[j]? = some .N)(ij:i≠j)(hN:X.N.Nodup)(hi:X.N[i]? = some x)(hv:X.env.scope.names.lookup x=some .local\/X.env.scope.names.lookup x=some .cell)(hk:DE X fl .P ke fk)(hj:X.N[j]? = some y)(D:ur ke)
 (B:Vis X.env.scope y:=by first|exact fE rfl|exact fg (fE rfl)|exact fg (fg rfl)) (hd:(y==("__debug__":Str))=false:=by decide) (O:(y==("__classdict__":Str))=false:=by decide)
 (hs:swapsWith (.Subscript (.Name y vpos) ke spos) (some (.Name x pos')) pos.line X.env=pure false:=by rfl) (J:X.fn x=true\/X.env.scope.names.lookup x=some .local:=by first|exact .inl rfl|exact .inr rfl) :
 DS1 X fl (.Assign [.Name x pos'] (.Subscript (.Name y vpos) ke spos) pos) (xg i j fk):=
 PS.imp (Es (i:=i) hN hi hv (Ln Eu (pK hj B hd O) hk D) hs J) λDn σ H h=>by
 refine D3.ex4 h λG ow δ o R Z q=>?_
 refine D3.ex1 (bind1 Z) λw e1 Y=>?_
 refine D3.ex1 (bind1 Y) λk e2 Z=>?_
 split at Z
 case h_2=>cases Z
 next l m=>
 refine D3.ex1 (bind1 Z) λn e3 Y=>?_
 refine D3.ex1 (bind1 Y) λd Q Z=>?_
 by_cases c:i<δ.length
 case neg=>rw[if_neg c]at Z;cases Z
 rw[if_pos c]at Z
 cases Z;obtain⟨v,h1,h2,W⟩:=R.nr j _ (by rw[fj];rfl) (kW e1);generalize hN:ow.n j=as at h2 W
 cases h2 with
 |tup U r=>
  rename_i p vs;refine⟨_,h1,G,ow,δ,_,R,e2,λu H1 s1 V=>?_⟩;obtain rfl:=RA.intE V;obtain⟨v,bs,g1,g2,g3,S,_⟩:=zT (r.same s1) Q W;exact .inr (.inl ⟨p,vs,m,v,rfl,rfl,Hi s1 U.sq,Q9 (by rwa[r.length]) g1,q _ _ _ (at6 (R.grow s1) fi fj (by rwa[R.len]) ij g2 (λb T=>by rw[hN];exact g3 b T) S)⟩)
theorem Jd(hfl:fl[i]? = some .N)(hk:DE X fl .P ke fk)(h:DE X fl .T e f)(hN:X.N[i]? = some x)(hsx:ur ke)(hv:Vis X.env.scope x:=by first|exact fE rfl|exact fg (fE rfl)|exact fg (fg rfl))(hd:(x==("__debug__":Str))=false:=by decide)
 (hcd:(x==("__classdict__":Str))=false:=by decide)
 (hs:swapsWith (.Call (.Attribute (.Subscript (.Name x vpos) ke spos) "append" apos) [e] [] cpos) none pos.line X.env=pure false:=by rfl)
 (J:attributeBase (.Subscript (.Name x vpos) ke spos) "append" X.env (eval (.Subscript (.Name x vpos) ke spos) X.env)=eval (.Subscript (.Name x vpos) ke spos) X.env:=by rfl)
 (hfew:((backTo cpos (starEach [e] X.env)).all (λx=>!x.1)&&(backToKw cpos (keywordEach [] X.env)).all (λx=>x.1.isSome)
  && decide (([e]:List Expr).length+([]:List hV).length+(if([]:List hV).isEmpty then 0 else 1)<30))=true:=by rfl)
 (D:(apos.endLine==cpos.line)=true:=by rfl) (O:starEach [e] X.env=(false,eval e X.env)::starEach [] X.env:=by rfl) (B:(backTo cpos (starEach [] X.env)).any (·.1)=false:=by rfl) :
 DS1 X fl (.Expr (.Call (.Attribute (.Subscript (.Name x vpos) ke spos) "append" apos) [e] [] cpos) pos) (uo i fk f):=
 PS.imp (zB (X7 PySem.F.plainAttrs_list PySem.F.slot_list_append PySem.F.type_list_append xT (Ln Eu (pK hN hv hd hcd) hk hsx) (jk h nC O) J hfew D O B) hs) λDn σ H hh=>by
 refine D3.ex4 hh λG ow δ o R Y q=>?_
 refine D3.ex1 (bind1 Y) λy e1 W=>?_
 refine D3.ex1 (bind1 W) λk e2 Y=>?_
 clear W;refine D3.ex1 (bind1 Y) λz e3 W=>?_
 split at W
 case h_2=>cases W
 next l j=>
 refine D3.ex1 (bind1 W) λn e5 Y=>?_
 split at Y
 case h_2=>cases Y
 next m em=>
 by_cases Z:m.length<1000000
 case neg=>rw[if_neg Z]at Y;cases Y
 rw[if_pos Z]at Y
 cases Y;have hi:i<δ.length:=by
  rcases dB i δ.length with z|z
  .exact z
  .have:=kW e1;rw[bx z]at this;cases this
 obtain⟨v,h1,h2,M⟩:=R.nr i _ (by rw[hfl];rfl) (kW e1);generalize hN:ow.n i=as at h2 M
 cases h2 with
 |tup K r=>
  rename_i p vs;refine⟨_,h1,G,ow,δ,_,R,e2,λu H1 s1 g=>?_⟩;obtain rfl:=RA.intE g;obtain⟨v1,bs1,g1,g2,g3,g4,g5⟩:=zT (r.same s1) em M
  cases g2 with
  |lst ha q1=>
   rename_i a xs bs;refine .inr (.inl ⟨p,vs,j,.ref a,rfl,rfl,Hi s1 K.sq,Q9 (by rwa[r.length]) g1,.inl ⟨rfl,_,SqL.of ha⟩,G,ow,δ,_,R.grow s1,e3,λw H2 s2 s=>?_⟩);obtain⟨ds,rd,nd,U⟩:=s;have V:=s1.trans s2;refine⟨a,xs,_,rfl,rfl,s2 _ _ ha,by rw[q1.length];exact j9 Z (by decide),?_⟩;have nb:=λb hb z=>((R.grow s1).nt i b (by rwa[hN])).2.1.ne (U b hb)
   obtain⟨v2,bs2,f1,f2,f3,f4,f5⟩:=zT (r.same V) em M;rw[g1]at f1
   cases f1
   cases f2 with
   |lst S q2=>
    rename_i E L;rw[s2 _ _ ha]at S
    cases S;obtain⟨n1,n2⟩:=bY.mp f4;have sp:∀{c},c∈a::(L++ds)->c∈a::L\/c∈ds:=λ{c} Z=>by
     rcases aJ.mp Z with rfl|Z
     .exact .inl ao
     .exact(bW.mp Z).imp (au _) id
    have I:a∉ds:=λz=>nb a z (f3 a ao)
    obtain⟨as2,t,A,C⟩:=f5 a _ (.lst (xs++[w])) (.list (m++[z])) (a::(L++ds)) ao (s2 _ _ ha) inferInstance (.lst bR (Jb (RTs.upd (s2 _ _ ha) n1 q2) (RT.upd (s2 _ _ ha) I rd))) (λc Z=>(sp Z).imp id (nb c)) (bY.mpr ⟨λz=>(bW.mp z).elim n1 I,eZ.mpr ⟨n2,nd,λx hx y d e=>nb y d (e▸f3 x (au _ hx))⟩⟩);obtain⟨Q,R'⟩:=at5 (R.grow s1) s2 hfl hi (by rw[hN];exact f3 a ao) (s2 _ _ ha) h1 (.tup (iI.upd (s2 _ _ ha) (iI.same V K)) t) (λc Z=>by
     rw[hN];exact(C c Z).elim .inl λz=>(sp z).imp (f3 c) (U c)) A
    exact q Q σ _ R'
end
section
variable{st:gv}{k:Nat}{fs:FS}
def Z4(O:Dg K mg x st ps)(S:FnScope N ps (bH st))(D:∀i,i<ps.length->fl[i]? = some .A)(J:ps.length<=N.length)
 (B:∀(f:Addr)(cdv:Value)(A:eW)(outer:List Env)(s:eM)(H:Hp)(E:XK),Room k (A.deeper (envOfC x (bH st) s.heap.objs.size f cdv))->DQs (cx P w K mg base N x st f cdv A outer s H E) fl (ET K) (jm st) fs) :
 Has P w K mg base (k+1) x ps (spT K (fnE ps.length (N.length-ps.length) fs)):=by
 obtain⟨f,fd,Y,b,m⟩:=O.ex;have le:∀{ds d},fnE ps.length (N.length-ps.length) fs ds=some d->ds.length=ps.length/\∃c e,fs (ds.map (λd=>some (.d d))++aO (N.length-ps.length) none)=some (.ex c e d):=λ{ds d} Z=>by
  unfold fnE at Z;by_cases z:ds.length=ps.length
  .rw[if_pos z]at Z;unfold Ws at Z;split at Z
   .next e=>cases Z;exact⟨z,_,_,e⟩
   .cases Z
  .rw[if_neg z]at Z;cases Z
 refine⟨f,fd,Y.ok S (λvs H Q E ⟨ds,d,r,Z,_⟩=>by rw[r.2.length];exact(le Z).1) (λcdv A outer s H vs Q E X ⟨ds,d,r,Z,q⟩=>⟨_,B f cdv A outer s H E X,?_⟩),b,Y.kp,m⟩;obtain⟨z,c,e,h⟩:=le Z;exact⟨_,_,_,_,mq ps.length D z J r,h,λv H' as s e1 e2 e3=>q v H' as s e1 e2 e3⟩
end
end XW6
namespace XL
open PySem.W L2 My D3
abbrev S7(x y:Str)(p1 p2 p3 p4 p5:Pos)(kd:Nat):Expr:=.Subscript (.Subscript (.Name x p1) (.Name y p2) p3) (.Constant (.int 0) kd p4) p5
section
variable{prog:eS}{A:eW}{R:Result->eM->Prop}{s:eM}{c' b cell:Addr}{nm q y:Str}{ctv:Value}{p1 p3 p4 p5:Pos}{kd:Nat}{i k:Int}{t t':Tok}{its its2:Array Value}
def S8{x:Value} (O:s.heap.IsList a its) (D : -(its.size:Int)<=i) (J:i<its.size) (hsz:its.size<=sizeLine) (B:seqIndex? i its.size=some j) (hi:its[j]? = some x) (h:c x s) :
 wpAny (model prog w) A (getItem (.ref a) (.int i t)) c E s:=by
 have hn:=xR;by_cases Y:0<=i
 .have Z:i.toNat=j:=by
   rw[ee Y J]at B;exact cR.inj B
  exact wpAny_getItem_list O Y (by lia) (by rwa[Z]) h
 .have Z:(i+(its.size:Int)).toNat=j:=by
   rw[du (by lia) D]at B;exact cR.inj B
  exact wpAny_getItem_list_neg O (by lia) D (by lia) (by rwa[Z]) h
def Wv(ho:s.heap.get? f=some (kla_obj nm q params (S7 x y p1 p2 p3 p4 p5 kd) scope [(x,cell)] pm c' ctv))(hcd:s.heap.CodeRec (.ref c') q)(B:A.depth<recursionLimit)(hlim:s.heap.NoLimit)
 (O:∀u,bindArgs (kla_fn nm q params (S7 x y p1 p2 p3 p4 p5 kd) scope [(x,cell)] pm (.ref c') ctv) ⟨[u],[]⟩=pure [(y,u)])
 (hco:scope.isCoroutine=false) (hgen:scope.isGenerator=false) (hk:scope.kind = .function) (J:∀z∈scope.names,z.2 ≠ .cell) (hy:scope.names.lookup y=some .local) (hx:scope.names.lookup x=some .free)
 (hxd:(x==("__debug__":Str))=false) (hyd:(y==("__debug__":Str))=false) (hxc:(x==("__classdict__":Str))=false)
 (hc:s.heap.IsCell cell (some (.ref a))) (hl:s.heap.IsList a its) (hlo : -(its.size:Int)<=i) (hhi:i<its.size) (hsz:its.size<=sizeLine) (hsx:seqIndex? i its.size=some j) (hi:its[j]? = some (.ref b)) (ht:gT s.heap b its2) (D:its2[0]? = some (.int k t'))
 (h:∀h' tk,(∀b o,s.heap.get? b=some o->h'.get? b=some o)->R (.ok (.ret (.int k t'))) {s with heap:=h',toks:=tk}) :
 codeAny (model prog w) A (.call (.ref f) ⟨[.int i t],[]⟩) R s:=by
 refine kla_callFunE B ho rfl hco hgen rfl hcd ?_;rw[O];refine ae (wpAny_newFunctionEnv J (λz S=>?_) (λY U W=>⟨hlim.fresh _ W,?_⟩) hk)
 .rwa[aL.mp S]
 have Z:=λb o e=>W.extBut b o (aR (af e)) (ad _ e)
 refine kla_codeExpr ?_;have V:Y.IsList a its:=by
  obtain⟨o,e1,e2⟩:=hl;exact⟨o,Z _ _ e1,e2⟩
 have X:gT Y b its2:=by
  obtain⟨o,e1,e2⟩:=ht;exact⟨o,Z _ _ e1,e2⟩
 refine dm ?_;refine dm ?_;refine dk ?_ hxd;refine wpAny_loadName_free (c:=cell) (v:=.ref a) hk hx ?_ ?_ ?_ hxc
 .show yH x [(x,cell)]=some cell;simp
 .obtain⟨o,e1,e2⟩:=hc;exact⟨o,Z _ _ e1,e2⟩
 refine dk ?_ hyd;refine wpAny_loadName_local (v:=.int i t) hk hy U ?_ ?_
 .simp
 refine subscriptTail_builtin (T := "list") (id := "list.__getitem__") ?_ PySem.F.slot_list_getitem.lookup ?_
 .obtain⟨o,e1,e2,_⟩:=V;exact⟨o,e1,e2⟩
 refine S8 V hlo hhi hsz hsx hi ?_;refine wpAny_Constant_int ?_;refine kba_turn (value':=PySem.Expr.Name (PySem.Str.ofString "_") ⟨0,0,0,0⟩) (λ_=>rfl) ?_;refine subscriptTail_builtin (T := "tuple") (id := "tuple.__getitem__") ?_ PySem.F.slot_tuple_getitem.lookup ?_
 .obtain⟨o,e1,e2,_⟩:=X;exact⟨o,e1,e2⟩
 refine PyProof.Rows.getItem_tuple (j:=0) (x:=.int k t') X (by decide) (by decide) ?_ D ?_
 .have:0<its2.size:=by
   rcases dB 0 its2.size with z|z
   .exact z
   .rw[fZ z]at D;cases D
  unfold seqIndex?;have h2:(0:Int)<(its2.size:Int):=by lia
  show(if(decide ((0:Int)<=0)&&decide ((0:Int)<(its2.size:Int)))=true then some (0:Int).toNat else none)=some 0;rw[dTr (gw 0),dTr h2];rfl
 .exact h Y _ Z
end
section
variable{M:Model}{A:eW}{E:Value->eM->Prop}{s:eM}{body:Expr}{env:Env}{c P:Addr}{clos:List (Str×Addr)}{q:Str}
abbrev ent(pos:Pos)(c':Addr):Array Value:=#[rawInt pos.line,rawInt pos.col,.ref c']
def S9(hq:env.qual++"<lambda>"=q)(J:defaultsOf params env=([],[]))(O:closureFor scope env=pure clos)(D:env.globals=mainGlobals)(hg:s.heap.Ns mainGlobals mg)(B:env.code = .ref c)(C:CodeHd s.heap c P)(hgP:mainGlobals≠P)(hb:s.heap.BuiltinsAt mg P)
 (hT:∃ps,s.heap.get? P=some (tabObj ps)/\(ps = #[]\/∃c',ps=ent pos c'/\s.heap.CodeRec (.ref c') q))
 (h:∀f c' ctv h' tk,(∀b o,b≠P->s.heap.get? b=some o->h'.get? b=some o)->h'.get? P=some (tabObj (ent pos c'))->(s.heap.get? P=some (tabObj (ent pos c'))\/(s.heap.get? P=some (tabObj #[])/\s.heap.objs.size<=c'/\c'≠f))->s.heap.objs.size<=f ->
  h'.get? f=some (kla_obj "<lambda>" q params body scope clos ((mg "__name__").getD .none) c' ctv)->h'.CodeRec (.ref c') q->Q (.ref f) {s with heap:=h',toks:=tk}) :
 wpAny M A (eval (.Lambda params body scope pos) env) Q E s:=by
 refine kla_eval J ?_;rw[hq];obtain⟨ps,W,z|⟨c',z,N⟩⟩:=hT
 .subst z;refine kla_makeFunction (mg:=mg) O D hg B C W trivial rfl hgP hb λc' ctv h' tk R X Y Z U=>?_
  have up:∀b o,h'.get? b=some o->(h'.push (kla_obj "<lambda>" q params body scope clos ((mg "__name__").getD .none) c' ctv)).get? b=some o:=λb o e=>ad _ e
  obtain⟨S,oc,vs,V,e1,e2,e3⟩:=Z;refine h h'.objs.size c' ctv _ tk (λb o hb e=>up b o (R b o hb e)) (up _ _ (by rw[U];rfl)) (.inr ⟨W,X,aR Y⟩) (aV X (cG Y)) (ag _ rfl) ⟨S,oc,vs,V,e1,up _ _ e2,e3⟩
 .subst z;have ha:codeAmong pos (ent pos c').toList=some (.ref c'):=by simp[codeAmong,rawInt]
  refine kla_makeFunctionHit (mg:=mg) O D hg B C W trivial ha hb λctv h' tk L T=>?_
  have up:∀b o,s.heap.get? b=some o->(h'.push (kla_obj "<lambda>" q params body scope clos ((mg "__name__").getD .none) c' ctv)).get? b=some o:=λb o e=>ad _ (L b o e)
  obtain⟨S,oc,vs,V,e1,e2,e3⟩:=N;exact h h'.objs.size c' ctv _ tk (λb o _ e=>up b o e) (up _ _ W) (.inl W) T (ag _ rfl) ⟨S,oc,vs,V,e1,up _ _ e2,e3⟩
end
end XL
namespace XL
open PySem.W L2 My D3 XS
section
variable{prog:eS}{A:eW}{h₀:fF}{L kS:Addr}{m:Str->Option Value}{f:Value}{nw:List (Addr×Obj)}
def M7(prog:eS)(w:ff)(A:eW)(nw:List (Addr×Obj))(f v:Value)(k:Int):Prop:=
 ∃t,∀(s:eM)(R:Result->eM->Prop),(∀p∈nw,s.heap.get? p.1=some p.2)->s.heap.NoLimit->(∀h' tk,(∀b o,s.heap.get? b=some o->h'.get? b=some o)->R (.ok (.ret (.int k t))) {s with heap:=h',toks:=tk}) ->
  codeAny (model prog w) A (.call f ⟨[v],[]⟩) R s
theorem Je{Fin:List Value->Nat->eM->Prop}(J:∀y∈nw,y.1≠kS)(D:∀s:eM,(∀p∈nw,s.heap.get? p.1=some p.2)->s.heap.NoLimit):∀(vs:List Value)(ns:List Int)(ks:List Value)(e:Nat)(s:eM),Paired (λv k=>M7 prog w A nw f v k) vs ns ->
 Fr h₀ L s.heap m->News h₀ L s.heap ((kS,seqObj "list" (jB ks) e)::nw) ->
 (∀B O s',Fr h₀ L s'.heap m->News h₀ L s'.heap ((kS,seqObj "list" (jB (ks++B)) O)::nw)->s'.gens=s.gens->s'.drawn=s.drawn->s'.os=s.os->Paired (λ(v:Value)(k:Int)=>∃t,v = .int k t) B ns->Fin (ks++B) O s') ->
 KatKeys prog w A h₀ L m kS f Fin vs ks e s
 |[],_,ks,e,s,p,F,N,h=>by
  cases p;have:=h [] e s F (by rwa[cI]) rfl rfl rfl .nil;rwa[cI]at this
 |v::vs,_,ks,e,s,p,F,N,h=>by
  cases p with
  |cons p1 p2=>
  rename_i k ns;obtain⟨t,c⟩:=p1;have Z:=λp Y=>(N p (au _ Y)).1
  refine KatKeys.cons (wpAny_call (c s _ Z (D s Z) λh' tk X=>?_));have T:Fr h₀ L h' m:=⟨F.ns.keeps X,λb o z=>X b o (F.keep b o z),F.above⟩;have W:News h₀ L h' ((kS,seqObj "list" (jB ks) e)::nw):=λp Y=>⟨X _ _ (N p Y).1,(N p Y).2⟩
  refine KatBack.intro (s:={s with heap:=h',toks:=tk}) T W (.head J) λh2 e2 U N2=>?_
  refine Je J D vs ns (ks++[.int k t]) e2 {s with heap:=h2,toks:=tk} p2 U N2 λB O s' V S g1 g2 g3 q=>?_
  have z:=h (.int k t::B) O s' V (by rwa[show ks++.int k t::B=ks++[.int k t]++B by simp]) g1 g2 g3 (.cons ⟨t,rfl⟩ q);rwa[show ks++.int k t::B=ks++[.int k t]++B by simp]at z
end
section
variable{prog:eS}{A:eW}{E:Value->eM->Prop}{s:eM}{h₀:fF}{L l fa:Addr}{m:Str->Option Value}{vs:List Value}{ns:List Int}{news:List (Addr×Obj)}
def ltK(ns:List Int)(i j:Nat):Bool:=decide (ns.getD i 0<ns.getD j 0)
def KJ(a b:Value):argsOk "sorted" ⟨[a],[(fA "key", b)]⟩:=by unfold argsOk;kernel_rfl
def Jf(a b:Value):argsOk "list.sort" ⟨[a],[(fA "key", b)]⟩:=by unfold argsOk;kernel_rfl
theorem ints_of:∀{ks:List Value}{ns:List Int},Paired (λ(v:Value)(k:Int)=>∃t,v = .int k t) ks ns->gE ks ns
 |_,_,.nil=>.nil
 |_,_,.cons p q=>by
  obtain⟨t,rfl⟩:=p;exact .cons _ _ (ints_of q)
theorem Ge:∀{ks:List Value}{ns:List Int},Paired (λ(v:Value)(k:Int)=>∃t,v = .int k t) ks ns->∀i,i<ks.length->∃t,ks.getD i .none = .int (ns.getD i 0) t
 |_,_,.nil,i,h=>by cases h
 |_,_,.cons p q,0,h=>by obtain⟨t,rfl⟩:=p;exact⟨t,rfl⟩
 |_,_,.cons p q,i+1,h=>by
  obtain⟨t,e⟩:=Ge q i (by simpa using h);exact⟨t,by simpa using e⟩
theorem DY : ∀{l:List α}{r:List β},Paired c l r->∀{i:Nat}{a:α}{b:β},l[i]? = some a->r[i]? = some b->c a b
 |_,_,.nil,i,a,b,h,_=>by simp at h
 |_,_,.cons p q,0,a,b,h1,h2=>by
  simp at h1 h2;subst h1 h2;exact p
 |_,_,.cons p q,i+1,a,b,h1,h2=>DY q (i:=i) (by simpa using h1) (by simpa using h2)
end
end XL
namespace XS
open D3
def u6(l:List D)(ns:List Int):List D:=if l.length<=1 then l else(oJ l.length λi j=>decide (ns.getD i 0<ns.getD j 0)).map λi=>l.getD i .none
def Gf(fa B:FE)(ix:List Nat):FE:=λδ=>(fa δ).bind λx=>match x with
 | .list l=>if l.length<64/\flats l=true then(jU (gNl 0) D3.lu B (lN 1 ix δ) l).bind λks=>(dH ks).map λns=>.list (u6 l ns)else none
 |_=>none
def dK0:FE:=λδ=>match δ with
 |[some (.d (.int z)),some (.d (.list ds))]=>(pAt ds z).bind λt=>match t with
  | .tuple (.int n::_)=>some (.int n)
  |_=>none
 |_=>none
def qSK(x:Option D)(k:List D->Option (List D)):Option D:=match x with
 |some (.list l)=>if l.length<64/\flats l=true then(k l).bind λks=>(dH ks).map λns=>.list (u6 l ns)else none
 |_=>none
theorem Wx : Gf c B k δ=qSK (c δ) (jU (gNl 0) D3.lu B (lN 1 k δ)):=by
 unfold Gf qSK
 cases c δ with
 |none=>rfl
 |some d=>cases d<;>rfl
def Pg (h1:l.length<64) (h2:flats l=true) (J:k l=some ks) (B:dH ks=some ns):qSK (some (.list l)) k=some (.list (u6 l ns)):=by
 unfold qSK;dsimp only;rw[if_pos ⟨h1,h2⟩,J,aF,B];rfl
end XS
namespace XL
open PySem.W L2 My D3 XS
section
variable{σ:L2.St}{H:Hp}{s:eM}{P c':Addr}{q:Str}{lp:Pos}{tk:Nat}
def Wy(I:Inv X pins σ H s)(J:H P=some (.tbl q lp))(kp:∀b o,b≠P->s.heap.get? b=some o->h'.get? b=some o)(O:h'.get? P=some (tabObj (ent lp c')))
 (D:s.heap.get? P=some (tabObj (ent lp c'))\/(s.heap.get? P=some (tabObj #[])/\s.heap.objs.size<=c')) (B:h'.CodeRec (.ref c') q) :
 ∃H2,Inv X pins σ H2 {s with heap:=h',toks:=tk}/\Same H H2:=by
 rcases D with z|⟨z,Y⟩
 .refine⟨H,I.kept λb o e=>?_,λ_ _ e=>e⟩;by_cases Z:b=P
  .subst Z;rw[z]at e;cases e;exact O
  .exact kp b o Z e
 .have hn:=I.hok.fresh Y;have ne:∀{b u},H b=some u->b≠c':=λe=>jD e hn
  have V:∀{b},H b=none->b≠P:=λe y=>by rw[y,J]at e;cases e
  refine⟨upd H c' (.own P),?_,cP hn _⟩;refine I.step (g':=s.gens) (d':=s.drawn) (ch:=[]) (λb Z=>by cases Z) (λb u _ _ _ e n=>kp b u (V n) e) (λb u _ _ _ e n=>⟨u.slots,kp b u (V n) e⟩) (λb u _ e n=>?_) (λb u _ e=>?_)
   (λb xs e=>by rwa[bG (ne e)]) (λb u v e=>by rwa[bG (ne e)]) (λb q p e=>by rwa[bG (ne e)]) (λm ⟨o,es,ep,e,r⟩=>⟨o,es,ep,kp _ o (V I.free) e,r⟩) (λb u e=>?_) I.bare
  .rwa[bG (aR (bU (af e) Y))]
  .by_cases Z:b=P
   .exact⟨_,by rwa[Z]⟩
   .exact⟨u,kp b u Z e⟩
  .by_cases Z:b=c'
   .subst Z;rw[bR]at e
    cases e;obtain⟨Q,oc,vs,R,e1,e2,_⟩:=B
    cases e1;exact⟨_,e2⟩
   .rw[bG Z]at e;by_cases W:b=P
    .subst W;rw[J]at e;cases e;exact⟨_,O,.inr ⟨c',rfl,bR,B⟩⟩
    .refine(I.hok b u e).stay (λc w S y=>kp c w (λT=>?_) y) (λc y=>by rwa[bG (ne y)]) λc xs y=>by rwa[bG (ne y)]
     rcases S with rfl|U
     .exact W T
     .rw[T,J]at U;cases U
end
theorem D_:∀{ys:List V}{vs:List Value},Vals ys vs->∀i,RelV (ys.getD i .non) (vs.getD i .none)
 |_,_,.nil,i=>by simp;rfl
 |_,_,.cons r Z,0=>r
 |_,_,.cons r Z,i+1=>by simpa using D_ Z i
theorem Ea : ∀{l ks:List D}{ns:List Int},jU (gNl 0) D3.lu O J l=some ks->dH ks=some ns->Paired (λd n=>∃B,gNl 0 d J=some B/\O B=some (.int n)) l ns
 |[],ks,ns,h1,h2=>by
  cases h1
  cases h2;exact .nil
 |d::l,ks,ns,h1,h2=>by
  unfold jU at h1;refine D3.ex1 (bind1 h1) λB e1 h1=>?_
  refine D3.ex1 (bind1 h1) λb e2 h1=>?_
  cases e2;rw[if_pos rfl]at h1;refine D3.ex1 (bind1 h1) λx e3 h1=>?_
  refine D3.ex1 (bind1 h1) λr W h1=>?_
  cases h1
  cases x with
  |int n=>
   have Y:(dH r).bind (λm=>some (n::m))=some ns:=by
    cases Z:dH r with
    |none=>unfold dH at h2;rw[Z]at h2;cases h2
    |some m=>unfold dH at h2;rw[Z]at h2;cases h2;rfl
   refine D3.ex1 (bind1 Y) λm Z X=>?_
   cases X;exact .cons ⟨B,e1,e3⟩ (Ea W Z)
  |_=>unfold dH at h2;cases h2
theorem M8 {S:D->Int->Prop}{R:Value->Int->Prop} (f:∀y d v n,RA K ok pl H y d->RelV y v->S d n->R v n):∀{ys:List V}{l:List D}{vs:List Value}{ns:List Int},RAs K ok pl H ys l->Vals ys vs->Paired S l ns->Paired R vs ns
 |_,_,_,_,.nil,.nil,.nil=>.nil
 |_,_,_,_,.cons a b,.cons c d,.cons e g=>.cons (f _ _ _ _ a c e) (M8 f b d g)
structure LamAt(X:Cx)(P:Addr)(q:Str)(lp:Pos):Prop where
 cd:∃c,X.env.code = .ref c/\codeHdIn X.K c P=true
 qn:X.env.qual++"<lambda>"=q
 tb:(P,q,lp)∈tabs
section
variable{fa:FE}{lp p1 p3 p4 p5:Pos}{y q:Str}{P:Addr}{kd k:Nat}
def Z5 {u:Option U}(J:c=[none,u]) (h1:gNl 0 d c=some B) (h2:dK0 B=some (.int s)):∃z ds r,d = .int z/\u=some (.d (.list ds))/\pAt ds z=some (.tuple (.int s::r)):=by
 subst J
 cases h1;unfold dK0 at h2;split at h2
 .next z ds e=>
  cases e;refine D3.ex1 (bind1 h2) λt e1 e2=>?_
  split at e2
  .next m r=>cases e2;exact⟨z,ds,r,rfl,rfl,e1⟩
  .cases e2
 .cases h2
end
def Wz{K:Frag} (J:K.In h) (D:h.get? k=some (tabObj #[])) (B:codeHdIn K c k=true) (hn:K.lookup k=none) :
 (∀t∈[(k,m,lp)],h.get? t.1=some {cls:=.none,data:=.fields #[]})/\(∀t∈[(k,m,lp)],isCodeTable h t.1)/\∀t∈[(k,m,lp)],K.lookup t.1=none:=
 ⟨λt Z=>by rwa[aL.mp Z],λt Z=>by rw[aL.mp Z];exact((codeHd_of_K J B).tab D).isCodeTable,λt Z=>by rwa[aL.mp Z]⟩
def S_ : ∀t∈[(c,k,lp)],∀t'∈[(c,k,lp)],t.1=t'.1->t=t':=λt Y t' Z _=>(aL.mp Y).trans (aL.mp Z).symm
def Tc (hn:k.names=[(m,.local),(x,.free)]) (h:env.cells.lookup x=some c):closureFor k env=pure [(x,c)]:=by
 unfold closureFor;rw[hn];simp[cellOf,h]
section
variable{st:gv}{k:Nat}{fs:FS}{Pt:Addr}{q:Str}{lp:Pos}
structure DgT(K:PySem.W.Frag)(mg:Str->Option Value)(x:Str)(st:gv)(ps:List Str)(Pt:Addr)(q:Str)(lp:Pos):Prop where
 ex:∃(f:Addr)(fd:gc)(c:Addr),FunD K x st f fd/\Binds K fd ps []/\mg x=some (.ref f)/\fd.code = .ref c/\codeHdIn K c Pt=true
 tb:(Pt,q,lp)∈tabs
def Z6 {kV:Value} (X:K.In h) (G:h.Ns mainGlobals mg)
 (D:∀(kV doc pm:Value)(an:Option Addr)(cdv ct:Value)(us:List Value),us.length=ps.length->bindArgs (PySem.W.fnOf x x (qd st) (jm st) (bH st) .none kV doc pm an cdv ct) ⟨us,[]⟩=pure (ps.zip us))
 (a:PySem.W.nsIn K mainGlobals x=some (some (.ref f))) (l:K.lookup f=some ⟨oc,od,.func (PySem.W.fnOf x x (qd st) (jm st) (bH st) .none kV dc pm an (.ref c) ct),B⟩) (J:PySem.W.codeIn K (.ref c) x=true) (k:PySem.W.keepIn K (.ref f)=true)
 (hd:codeHdIn K c Pt=true) (tb:(Pt,q,lp)∈tabs):DgT K mg x st ps Pt q lp:=
 ⟨⟨_,_,c,⟨⟨oc,od,.none,kV,dc,pm,an,.ref c,ct,B,rfl,l,J⟩,k⟩,.all (D kV dc pm an (.ref c) ct),PySem.W.mg_of X G a,rfl,hd⟩,tb⟩
def okT (F:FunD K x st f fd) (D:fd.code = .ref c) (S:FnScope N ps (bH st)) (len:∀vs H Q E,sp vs H Q E->vs.length=ps.length)
 (B:∀(A:eW)(outer:List Env)(s:eM)(H:Hp)(vs:List V)(Q:VK)(E:XK),Room k (A.deeper (envOfC x (bH st) s.heap.objs.size f (.ref c)))->sp vs H Q E ->
  ∃t,PSs (G8 CX0 P w K mg base N x (bH st) f (.ref c) A outer s H E).nox (jm st) t/\t {nx:=λ_ H'=>Q .non H',rt:=Q} (L2.start N vs) H):FnOk P w K mg base CX0 (k+1) f fd ps sp:=by
 obtain⟨oc,od,dV,kV,doc,pm,an,cdv,ct,osl,rfl,lk,Z⟩:=F.ex;have e:cdv = .ref c:=D;subst e;refine X6 lk Z S len λA outer s H vs Q E X Y=>?_
 obtain⟨t,h,q⟩:=B A outer s H vs Q E X Y;exact⟨t,h.nox,q⟩
def Z7(O:DgT K mg x st ps Pt q lp)(S:FnScope N ps (bH st))(D:∀i,i<ps.length->fl[i]? = some .A)(J:ps.length<=N.length)
 (B:∀(f c:Addr)(A:eW)(outer:List Env)(s:eM)(H:Hp)(E:XK),codeHdIn K c Pt=true->Room k (A.deeper (envOfC x (bH st) s.heap.objs.size f (.ref c)))->DSs (cx P w K mg base N x st f (.ref c) A outer s H E) fl (jm st) fs) :
 Has P w K mg base (k+1) x ps (spD K (fnD ps.length (N.length-ps.length) fs)):=by
 obtain⟨f,fd,c,W,b,m,X,Y⟩:=O.ex;refine⟨f,fd,?_,b,W.kp,m⟩;refine okT W X S (λvs H Q E h=>?_) (λA outer s H vs Q E U h=>?_)
 .obtain⟨ds,d,r,Z,_⟩:=h;unfold fnD at Z;by_cases z:ds.length=ps.length
  .rwa[r.2.length]
  .rw[if_neg z]at Z;cases Z
 .obtain⟨ds,d,r,Z,q⟩:=h;refine⟨_,B f c A outer s H E Y U,?_⟩;unfold fnD at Z;by_cases z:ds.length=ps.length
  .rw[if_pos z]at Z;split at Z
   .next T e=>
    cases Z;exact⟨_,_,_,_,mq ps.length D z J r,e,λv H' s r=>q v H' s r⟩
   .next δ' e=>
    cases Z;exact⟨_,_,_,_,mq ps.length D z J r,e,λV σ' H' R'=>q .non H' R'.same0 .non⟩
   .cases Z
  .rw[if_neg z]at Z;cases Z
end
end XL
namespace XL
open PySem.W L2 My D3 XS
section
variable{prog:eS}{A:eW}{E:Value->eM->Prop}{s:eM}{r fa L:Addr}{t u v:Tok}{hi:Int}{h₀:fF}{m:Str->Option Value}{ns:List Int}{news:List (Addr×Obj)}
def Eb(vs:List Value):Prop:=∀(j:Nat)(x:Value),vs[j]? = some x->∃t,x = .int (j:Int) t
theorem Td {R:List Value->eM->Prop}(D:A.handled=none) (B:IsRange s.heap r 0 hi 1 t u v) (sm:hU 0 hi 1=true) (hn:gx 0 hi 1=n) (J:n<64)
 (h:∀h' tk vs,(∀b o,s.heap.get? b=some o->h'.get? b=some o)->vs.length=n->Eb vs->R vs {s with heap:=h',toks:=tk}):wpAny (model prog w) A (collect (.ref r)) R E s:=by
 refine aa (wpAny_runValue (bq F.entry_proto_collect ?_));rw[a6 F.plain_proto_collect _];refine aa (m:=newList []) (ax (ae ⟨ce F.plain_list_iadd _,bq F.entry_list_iadd ?_⟩));rw[a6 F.plain_list_iadd _];refine a5 (wpAny_extend_range (A:=A) (s:={s with heap:=s.heap.push (seqObj "list" #[] 0)}) (R:=λq s'=>q = .ok (.ret (.ref s.heap.objs.size))/\∃h' tk acc c,s'={s with heap:=h',toks:=tk}/\(∀b o,s.heap.get? b=some o->h'.get? b=some o)/\h'.get? s.heap.objs.size=some (seqObj "list" acc c)/\acc.toList.length=n/\Eb acc.toList)
  D (ad _ B) sm hn (by lia) s.heap.objs.size (.ref s.heap.objs.size) 0 (ag _ rfl) λh' tk acc c k1 k2 Z=>⟨rfl,h',tk,acc,c,rfl,λb o e=>k1 b o (aR (af e)) (ad _ e),k2,by rw[bh];exact Z.1,λj x X=>by
   obtain⟨t,rfl⟩:=Z.2 j x (by rwa[<-cj]);exact⟨t,by rw[kj,Int.mul_one]⟩⟩) (λfin s' x=>?_) λe s' x=>by cases x.1
 cases fin with
 |done f=>
  obtain⟨e,h',tk,acc,c,rfl,k1,k2,Z,Y⟩:=x
  cases e;exact aa (m:=load s.heap.objs.size) (wpAny_load k2 (ae (h h' tk _ k1 Z Y)))
 |again W=>
  refine⟨x.1,dA x.2 λq s2 y=>?_⟩;obtain⟨rfl,h',tk,acc,c,rfl,k1,k2,Z,Y⟩:=y;exact aa (m:=load s.heap.objs.size) (wpAny_load k2 (ae (h h' tk _ k1 Z Y)))
def WD(hh:A.handled=none)(F:Fr h₀ L s.heap m)(N:News h₀ L s.heap news)(hr:IsRange s.heap r 0 hi 1 t u v)(sm:hU 0 hi 1=true)(hn:gx 0 hi 1=n)(h64:n<64)
 (hc:∀vs,vs.length=n->Eb vs->Paired (λv k=>M7 prog w A.in1.in1 news (.ref fa) v k) vs ns) (B:∀s:eM,(∀p∈news,s.heap.get? p.1=some p.2)->s.heap.NoLimit)
 (h:∀D h' e tk vs,vs.length=n->Eb vs->Fr h₀ L h' m->News h₀ L h' ((D,seqObj "list" (jB (if n<=1 then vs else(oJ n (ltK ns)).map λi=>vs.getD i fy)) e)::news)->(∀q∈news,q.1<D)->Q (.ref D) {s with heap:=h',toks:=tk}) :
 wpAny (model prog w) A (call (.builtin "sorted") [.ref r] [(fA "key", .ref fa)]) Q E s:=by
 refine call_function_entry_kw eg dv dy (KJ _ _) ?_;unfold g9.«sorted»;refine aa (m:=checkCount "sorted" 1 1 _) (ae ?_);refine aa (Td (A:=A.in1) hh hr sm hn h64 λh1 tk vs k1 lv J=>?_);refine aa (bv ?_ (by rw[lv,c8];lia));have V:(h1.push (seqObj "list" vs.toArray 0)).get? h1.objs.size=some (seqObj "list" vs.toArray 0):=ag _ rfl;have kp:∀b o,s.heap.get? b=some o->(h1.push (seqObj "list" vs.toArray 0)).get? b=some o:=λb o e=>ad _ (k1 b o e)
 have Y:=λq hq=>af (k1 _ _ (N q hq).1)
 have x:=(F.kept k1).ns.lt;have d:=F.kept kp;have N1:=N.grown kp;have X:=hc vs lv J;have g:=eI (aV F.above (cG x));refine aa (ap (wpAny_call_entry_kw c7 ⟨_,V,rfl⟩ cy ?body (Jf _ _)))
 case body=>
  rw[ksk_t1];by_cases h2:n<=1
  .refine ksk_sort (kz:=ns) (b:=false) (s:={s with heap:=h1.push (seqObj "list" vs.toArray 0),toks:=tk}) d N1 V (mD x) g (λp Z=>aR (Y p Z)) X.length.symm (by lia) (λi v k hv hk Z tk own T W=>?_) λh' tk out c T W ko=>⟨_,rfl,ae ⟨_,rfl,?_⟩⟩
   .obtain⟨t,z⟩:=DY X hv hk;have P:=λp q=>(W p (bO _ q)).1
    refine wpAny_call (z {s with heap:=Z,toks:=tk} _ P (B {s with heap:=Z,toks:=tk} P) λh2 M U=>?_);exact⟨h2,M,t,rfl,rfl,⟨T.ns.keeps U,λb o z=>U b o (T.keep b o z),T.above⟩,λp q=>⟨U _ _ (W p q).1,(W p q).2⟩⟩
   .obtain⟨ps,Z,l,_⟩:=ko;have e:out.toList=vs:=by
     cases X with
     |nil=>
      have Z:=Z;rwa[uX.mp Z]at l
     |cons p q=>
      cases q with
      |nil=>
       have Z:=Z;rwa[List.perm_singleton.mp Z]at l
      |cons _ _=>simp at lv;lia
    have e2:out=vs.toArray:=rC.mp (e.trans (by simp));rw[e2]at W;exact h _ h' c tk vs lv J T (by rw[if_pos h2];exact W) Y
  .refine kat_keyed (b:=false) (s:={s with heap:=h1.push (seqObj "list" vs.toArray 0),toks:=tk}) d N1 V (mD x) g (λp Z=>aR (Y p Z)) (by lia) (by lia) λkS e1 h' T W S I=>?_
   have O:∀y∈(h1.objs.size,seqObj "list" #[] e1)::news,y.1≠kS:=λy H=>by
    rcases aJ.mp H with rfl|z
    .exact aR S
    .exact aR (I y z)
   have G:Paired (λv k=>M7 prog w A.in1.in1 ((h1.objs.size,seqObj "list" #[] e1)::news) (.ref fa) v k) vs ns:=Paired.mapP X λv k ⟨t,z⟩=>⟨t,λs R q1 q2 a=>z s R (λp Z=>q1 p (au _ Z)) q2 a⟩
   refine Je (kS:=kS) O (λs q=>B s λp Z=>q p (au _ Z)) vs ns [] 0 _ G T W λks e s' f N2 g1 g2 g3 pk=>?_
   have lk:=pk.length.trans X.length.symm;rw[dI]at N2 ⊢;rw[ksk_kind (ints_of pk) (by rw[aQ,lk];lia)];refine ae ?_;refine Fp (n:=vs.length) (lt:=ltK ns) (R:=good vs.length) (λi j C hi hj hC=>?_) _ (yj (by lia)) ?_
   .obtain⟨t1,q1⟩:=Ge pk i (by rwa[lk]);obtain⟨t2,q2⟩:=Ge pk j (by rwa[lk]);show wpAny _ _ (keyLt' oneType' (ks.getD i fy) (ks.getD j fy)) _ _ _;rw[q1,q2];exact kat_lt_int hC
   .obtain⟨Z,gn,dr,K,os⟩:=s';simp only at g1 g2 g3 f N2;subst g1 g2 g3;refine KatFin.intro f N2 (.head O) λh3 c3 F3 N3=>?_
    refine KasFin.intro F3 N3 (.tail (mD S) (.head λy H=>aR (Y y H))) λh4 c4 F4 N4=>⟨_,rfl,ae ⟨_,rfl,?_⟩⟩
    exact h _ h4 c4 K vs lv J F4 (λp Z=>by
     rw[if_neg h2,<-lv]at Z;exact N4 p (au _ Z)) Y
end
section
variable{fb:FA}{lp p1 p3 p4 p5 pr posr:Pos}{y q:Str}{P:Addr}{kd k:Nat}
theorem KN(hl:LamAt X P q lp)(hr:Room k X.A)(hcm:X.calm=true)(ha:DB X fl .P [e] fb)(hg:Gl X "sorted")(hm:X.mg "sorted"=none)(hg2:Gl X "range")(hm2:X.mg "range"=none)
 (hix:X.N[i]? = some x) (hfl:fl[i]? = some .A) (B:X.env.kindOf x=some .cell)
 (hdef:defaultsOf params X.env=([],[])) (hcl:∀c,X.env.cells.lookup x=some c->closureFor scope X.env=pure [(x,c)])
 (hbind:∀(cl:List (Str×Addr))(pm:Value)(c':Addr)(ctv u:Value),bindArgs (kla_fn "<lambda>" q params (S7 x y p1 p2 p3 p4 p5 kd) scope cl pm (.ref c') ctv) ⟨[u],[]⟩=pure [(y,u)])
 (hco:scope.isCoroutine=false) (hgen:scope.isGenerator=false) (hk:scope.kind = .function) (hcells:∀z∈scope.names,z.2 ≠ .cell) (hy:scope.names.lookup y=some .local) (hxf:scope.names.lookup x=some .free)
 (hxd:(x==("__debug__":Str))=false) (hyd:(y==("__debug__":Str))=false) (hxc:(x==("__classdict__":Str))=false)
 (he:backTo pos (starEach [Expr.Call (.Name "range" pr) [e] [] posr] X.env)=(false,eval (Expr.Call (.Name "range" pr) [e] [] posr) X.env)::backTo pos (starEach [] X.env)) (hpl:(backTo pos (starEach [Expr.Call (.Name "range" pr) [e] [] posr] X.env)).any (·.1)=false)
 (hs:starEach [e] X.env=(false,eval e X.env)::starEach [] X.env:=by exact mU rfl)
 : DE X fl .FC (.Call (.Name "sorted" p) [.Call (.Name "range" pr) [e] [] posr] [⟨some (fA "key"),.Lambda params (S7 x y p1 p2 p3 p4 p5 kd) scope lp,kpos⟩] pos) (Gf (dCall Az fb) dK0 [i]):=by
 have bs:bootBuiltins "sorted"=some (.builtin "sorted"):=by decide +kernel
 intro pins s σ H Q I hq;refine D3.ex4 hq λG ow δ d R hf q0=>?_
 refine D3.ex1 (bind1 hf) λxd e1 T=>?_
 refine D3.ex1 (bind1 e1) λds0 e0 Y=>?_
 unfold Az at Y;split at Y
 case h_2=>cases Y
 next hi=>
 by_cases z:(-(2^62)<=hi/\hi<2^62)/\(hi-0).toNat<=1000000
 case neg=>rw[if_neg z]at Y;cases Y
 rw[if_pos z]at Y
 cases Y;obtain⟨⟨z3,z4⟩,z5⟩:=z;have el:iu 0 hi=(lW 0 (hi-0).toNat).map λ(j:Nat)=>eP (0+(j:Int)):=by
  unfold iu;rw[List.range_eq_range']
 have ll:(iu 0 hi).length=(hi-0).toNat:=by rw[el,aq,vf]
 have ra0:∀h:Hp,RAs X.K ok1 true h ((lW 0 (hi-0).toNat).map λ(j:Nat)=>V.int (0+(j:Int))) (iu 0 hi):=λh=>by rw[el];exact Q0 0 _ 0
 generalize iu 0 hi=l at *;dsimp only at T;by_cases hc:l.length<64/\flats l=true
 case neg=>rw[if_neg hc]at T;cases T
 rw[if_pos hc]at T;refine D3.ex1 (bind1 T) λks e2 M=>?_
 cases e3:dH ks with
 |none=>rw[e3]at M;cases M
 |some ns=>
 rw[e3]at M
 cases M;refine ay (nA I hg hm bs ?_);refine PyProof.Rows.callWith_kw ?_ he hpl rfl rfl;rw[he];refine bi ?_;refine Call_ (nA I hg2 hm2 boot_range (e_ (thn (ha posr pins s σ H (λvs H1=>Same H H1/\RAs X.K ok1 true H1 vs [.int hi]) I ⟨G,ow,δ,_,R,e0,λvs H' s' r'=>⟨s',r'⟩⟩) λus s0 ⟨vs,H1,I0,r1,sm1,ra⟩=>?_) hs rfl))
 cases ra with
 |cons ra1 ra2=>
 cases ra2;obtain rfl:=ra1.intE
 cases r1 with
 |cons c1 c2=>
 cases c2;obtain⟨t0,rfl⟩:=c1;refine call_range_1 ?_;refine bX ?_;have hsz:gx 0 hi 1=(((hi-0).toNat:Nat):Int):=by rw[rangeSize_one];split<;>lia
 have smr:hU 0 hi 1=true:=small_one (by decide) (by decide) z3 z4;obtain⟨ta,tb,tc,hrg⟩:∃ta tb tc,IsRange (s0.heap.push {cls:=.type "range", data:=.fields #[.int 0 s0.toks,.int hi t0,.int 1 (s0.toks+1)]}) s0.heap.objs.size 0 hi 1 ta tb tc:=⟨_,_,_,IsRange.new ..⟩;generalize hra:s0.heap.objs.size=ra at *;have U:L2.Inv X pins σ H1 {s0 with heap:=s0.heap.push {cls:=.type "range", data:=.fields #[.int 0 s0.toks,.int hi t0,.int 1 (s0.toks+1)]},toks:=s0.toks+2}:=I0.kept λb o e=>ad _ e
 generalize es1:({s0 with heap:=s0.heap.push {cls:=.type "range", data:=.fields #[.int 0 s0.toks,.int hi t0,.int 1 (s0.toks+1)]},toks:=s0.toks+2}:eM)=s1 at *;have hrg:IsRange s1.heap ra 0 hi 1 ta tb tc:=by rwa[<-es1]
 have R1:=R.grow sm1;have hT:=R1.tb _ hl.tb;obtain⟨c,hcx⟩:=U.ok.has x (.inl B);obtain⟨cc,hcode,hhd⟩:=hl.cd;have KX:=U.kIn;have hgl:=U.mod.glob.keeps U.bk;have hgP:mainGlobals≠P:=λz=>by
  obtain⟨o,_,_,g1,_⟩:=U.mod.glob;have:=(U.bs _ _ g1).2;rw[z,hT]at this;cases this
 have hbm:s1.heap.BuiltinsAt X.mg P:=by
  obtain⟨bm,ob,g1,g2,g3,g4,g5,g6⟩:=U.mod.bm;refine⟨bm,ob,g1,g2,λz=>?_,λz=>?_,U.bk _ _ g3,g4,g5,g6⟩
  .obtain⟨o,_,_,k1,k2,_⟩:=U.mod.glob;rw[z,k1]at g3;cases g3;rw[k2]at g6;cases g6
  .have:=(U.bs _ _ g3).2;rw[z,hT]at this;cases this
 have hTT:∃ps,s1.heap.get? P=some (tabObj ps)/\(ps = #[]\/∃c',ps=ent lp c'/\s1.heap.CodeRec (.ref c') q):=by
  obtain⟨ps,g1,g2⟩:=U.hok P _ hT;refine⟨ps,g1,?_⟩;rcases g2 with g|⟨c',g,_,g3⟩
  .exact .inl g
  .exact .inr ⟨c',g,g3⟩
 refine wpAny_evalAll_cons (aa ?_);refine S9 (mg:=X.mg) hl.qn hdef (hcl c hcx) U.ok.glob hgl hcode (codeHd_of_K KX hhd) hgP hbm hTT λf c' ctv h' tk kp hP' hor hfs hfo C=>aa (da (ae ?_))
 refine wpAny_evalAll_nil ?_;show wpAny _ _ (PySem.call (.builtin "sorted") [.ref ra] [(fA "key", .ref f)]) _ _ _;obtain⟨H2,L,sm2⟩:=Wy (tk:=tk) U hT kp hP' (hor.imp (λz=>z) λz=>⟨z.1,z.2.1⟩) C;have R2:=R1.grow sm2;have hrg2:IsRange h' ra 0 hi 1 ta tb tc:=by
  refine kp ra _ (λy=>?_) hrg;obtain⟨ps,g1,_⟩:=hTT;have Z:=hrg;rw[y]at Z;have Z:s1.heap.get? P=_:=Z;rw[g1]at Z
  cases Z
 have rva:∀vs:List Value,vs.length=(hi-0).toNat->Eb vs->Vals ((lW 0 (hi-0).toNat).map λ(j:Nat)=>V.int (0+(j:Int))) vs:=λvs lv rv=>by
  have:=LR (f:=λj:Nat=>V.int (0+(j:Int))) vs 0 λj v hj=>by
   obtain⟨tt,e⟩:=rv j v hj;rw[fG];exact⟨tt,by rw[e,kj]⟩
  rw[lv]at this;exact this
 obtain⟨m,hmm,hlk⟩:=id L.loc;have notL:∀{b:Addr}{o:Obj},h'.get? b=some o->(∀es ep,o.data ≠ .dict es ep)->b≠X.env.locals:=λ{b o} g1 g2 z=>by
  obtain⟨o2,es,ep,k1,k2,_⟩:=hmm;rw[<-z]at k1;rw[show h'.get? b=some o2 from k1]at g1;cases g1;exact g2 _ _ k2
 have mem:∀{b:Addr}{o:Obj},h'.get? b=some o->b≠X.env.locals->(b,o)∈oW (Att.mL h') h' X.env.locals:=λg1 g2=>tU g2 (Att.rW _ _) g1
 have hlim:∀s':eM,(∀p∈oW (Att.mL h') h' X.env.locals,s'.heap.get? p.1=some p.2)->s'.heap.NoLimit:=λs' hk'=>L.ok.mod.nolimit.keeps λb o g=>hk' (b,o) (mem (L.bk b o g) (aR (bU (af (L.ok.bs b o g).1) L.ok.above)))
 have calls:∀vs:List Value,vs.length=(hi-0).toNat->Eb vs->Paired (λv n=>M7 X.prog X.w X.A.in1.in1 (oW (Att.mL h') h' X.env.locals) (.ref f) v n) vs ns:=λvs lv rv=>by
  refine M8 (S:=λd n=>∃a,gNl 0 d (lN 1 [i] δ)=some a/\dK0 a=some (.int n)) (λy0 d v n r1 r2 ⟨a,g1,g2⟩=>?_) (ra0 H2) (rva vs lv rv) (Ea e2 e3);obtain⟨z,ds,r,rfl,g4,g5⟩:=Z5 (u:=(δ[i]?).getD none) rfl g1 g2;obtain rfl:=r1.intE;obtain⟨t0,rfl⟩:=r2;have g6:δ[i]? = some (some (.d (.list ds))):=by
   cases g7:δ[i]? with
   |none=>rw[g7]at g4;cases g4
   |some u=>rw[g7]at g4;exact congrArg some g4
  have own0:ow i=none:=by
   cases g7:ow i with
   |none=>rfl
   |some b=>
    obtain⟨_,g8,_⟩:=R2.own i b g7;rw[hfl]at g8;rcases g8 with⟨g8,_⟩|⟨g8,_⟩<;>cases g8
  obtain⟨v0,k1,k2⟩:=R2.dat i _ g6 (by rw[hfl];rfl) own0;obtain⟨b,xs,rfl,k3,k4⟩:=k2.lstE;obtain⟨v1,k5,k6⟩:=k4.at g5;obtain⟨b2,ws,rfl,k7,k8⟩:=k6.tupE
  cases k8 with
  |cons k9 k10=>
  obtain rfl:=k9.intE;obtain⟨it2,rv2,pl2,hz2⟩:=L.list k3;obtain⟨it3,rv3,pl3,_⟩:=L.tuple k7;obtain⟨j,j1,j2,j3,j4,j5⟩:=zE k5;obtain⟨E,j6,j7⟩:=rv2.get j2
  cases j7
  cases rv3 with
  |cons r3 rv3=>
  obtain⟨t3,rfl⟩:=r3;have l2:=rv2.length;obtain⟨u,u1,u2⟩:=hlk i x _ hix k1 (.inr (.inl B))
  cases u1;rcases u2 with⟨u3,_⟩|⟨_,cl,u4,u5⟩
  .have:some gL=some NameKind.local:=B.symm.trans u3
   cases this
  have:cl=c:=by rw[hcx]at u4;exact(cR.inj u4).symm
  subst this;refine⟨t3,λs' R' hk' hlim' hR=>?_⟩;have kk:∀{b:Addr}{o:Obj},h'.get? b=some o->(∀es ep,o.data ≠ .dict es ep)->s'.heap.get? b=some o:=λg1 g2=>hk' _ (mem g1 (notL g1 g2))
  have f1:s'.heap.get? f=some (kla_obj "<lambda>" q params (S7 x y p1 p2 p3 p4 p5 kd) scope [(x,cl)] ((X.mg "__name__").getD .none) c' ctv):=kk hfo (λ_ _ z=>by cases z);have f2:s'.heap.CodeRec (.ref c') q:=by
   obtain⟨c2,oc,vs2,tq,E,F,w3,w4⟩:=C;exact⟨c2,oc,vs2,tq,E,kk F (λ_ _ z=>by rw[w3]at z;cases z),w3,w4⟩
  have f3:s'.heap.IsCell cl (some (.ref b)):=by
   obtain⟨o,E,F⟩:=u5;exact⟨o,kk E (λ_ _ z=>by rw[F]at z;cases z),F⟩
  have f4:s'.heap.IsList b it2.toArray:=by
   obtain⟨o,E,F,w3,w4⟩:=pl2.isList;exact⟨o,kk E (λ_ _ z=>by rw[w4]at z;cases z),F,w3,w4⟩
  have f5:∀{it5:Array Value},gT h' b2 it5->gT s'.heap b2 it5:=λ⟨o,E,F,w3,w4⟩=>⟨o,kk E (λ_ _ z=>by rw[w4]at z;cases z),F,w3,w4⟩
  exact Wv (i:=z) (j:=j) (its:=it2.toArray) f1 f2 (by have:=hr.dp;show X.A.depth<_;lia) hlim' (λu=>hbind _ _ _ _ u) hco hgen hk hcells hy hxf hxd hyd hxc f3 f4 (by rw[aQ,<-l2];exact j4) (by rw[aQ,<-l2];exact j5)
   (by rw[aQ,<-l2];exact hz2) (by rw[aQ,<-l2];exact j1) (by simpa using j6) (f5 pl3) (by simp) hR
 have fin:∀(D:Addr)(O:fF)(ec W:Nat)(is:List V)(ds:List D3.D)(vo:List Value),Vals is vo->is.length<=sizeLine->(∀(h:Hp),RAs X.K ok0 false h is ds) ->
  u6 l ns=ds->Fr (Att.mL h') X.env.locals O m->News (Att.mL h') X.env.locals O ((D,seqObj "list" (jB vo) ec)::oW (Att.mL h') h' X.env.locals)->(∀z∈oW (Att.mL h') h' X.env.locals,z.1<D) ->
  EP X pins σ Q (.ref D) {s1 with heap:=O,toks:=W}:=λD O ec W is ds vo v1 v2 v3 v4 F3 t lt=>by
  have kept3:∀b o,b≠X.env.locals->h'.get? b=some o->O.get? b=some o:=λb o hb g=>(t (b,o) (au _ (mem g hb))).1
  have hD:h'.get? D=none:=by
   cases g:h'.get? D with
   |none=>rfl
   |some o=>
    by_cases z:D=X.env.locals
    .exact absurd z (t _ (ao ..)).2.1
    .exact absurd (lt (D,o) (mem g z)) (eG _)
  have hn:H2 D=none:=by
   cases g:H2 D with
   |none=>rfl
   |some u=>
    obtain⟨w,hw⟩:=yp (L.hok D u g);rw[show h'.get? D=some w from hw]at hD;cases hD
  have new:gM X.prog X.w (upd H2 D (.lst is)) O D (.lst is):=⟨v2,vo,ec,v1,(t _ (ao ..)).1⟩;have J:=Mh (s:={s1 with heap:=h',toks:=tk}) (h':=O) L hmm F3.ns kept3 hD new;refine⟨.ref D,_,J.tok W,rfl,q0 _ _ ((sm1.trans sm2).trans (cP hn _)) (.inr ⟨D,is,ds,rfl,(by show f8 (u6 l ns)=_;rw[v4]),(sm1.trans sm2).free hn,bR,?_⟩)⟩;exact(v3 _).imp (λ_ z=>z.elim) (λz=>z)
 refine WD (I.ok.hd hcm) (Att.Qt hmm) GQ hrg2 smr hsz (by lia) calls hlim λD O ec W vs lv rv F3 t lt=>?_
 by_cases h1:(hi-0).toNat<=1
 .rw[if_pos h1]at t;exact fin D O ec W _ l vs (rva vs lv rv) (by rw[aq,vf];exact aV h1 (by decide)) (λh=>RAs.flat hc.2 (ra0 h)) (by unfold u6;rw[if_pos (by lia)]) F3 t lt
 .rw[if_neg h1]at t;have eo:u6 l ns=(oJ (hi-0).toNat (ltK ns)).map λi=>l.getD i .none:=by unfold u6;rw[if_neg (by lia),ll];rfl
  have pm:=jt (n:=(hi-0).toNat) (by lia) (ltK ns);refine fin D O ec W ((oJ (hi-0).toNat (ltK ns)).map λi=>((lW 0 (hi-0).toNat).map λ(j:Nat)=>V.int (0+(j:Int))).getD i .non) _ _ ?_ ?_ ?_ eo F3 t lt
  .have rvs:=rva vs lv rv;generalize oJ (hi-0).toNat (ltK ns)=is
   induction is with
   |nil=>exact .nil
   |cons i is ih=>exact .cons (D_ rvs i) ih
  .rw[aq,pm.length_eq,bQ];exact aV (cG (ll▸hc.1)) (by decide)
  .intro h;have r:=ra0 h;generalize oJ (hi-0).toNat (ltK ns)=is
   induction is with
   |nil=>exact .nil
   |cons i is ih=>exact .cons (RA.flat (Bd hc.2 i) (Fw r i)) ih
end
end XL
namespace D3
open L2 My
section
variable{a b:Expr}{f fa:FE}{fr:FA}{k:Kd}
def vA(i:Nat) (B:fl[i]? = some .A:=by rfl) (O:X.N[i]? = some c:=by rfl) (J:Vis X.env.scope c:=by first|exact fE rfl|exact fg (fE rfl)|exact fg (fg rfl)) (hd:(c==("__debug__":Str))=false:=by decide)
 (D:(c==("__classdict__":Str))=false:=by decide):DE X fl .A (.Name c pos) (aj i):=Fd i B O J hd D
def vP(i:Nat) (B:fl[i]? = some .A:=by rfl) (O:X.N[i]? = some c:=by rfl) (J:Vis X.env.scope c:=by first|exact fE rfl|exact fg (fE rfl)|exact fg (fg rfl)) (hd:(c==("__debug__":Str))=false:=by decide)
 (D:(c==("__classdict__":Str))=false:=by decide):DE X fl .P (.Name c pos) (aj i):=dN (Fd i B O J hd D)
def vB(i:Nat) (D:fl[i]? = some .A:=by rfl) (Y:X.N[i]? = some c:=by rfl) (O:Vis X.env.scope c:=by first|exact fE rfl|exact fg (fE rfl)|exact fg (fg rfl)) (hd:(c==("__debug__":Str))=false:=by decide)
 (J:(c==("__classdict__":Str))=false:=by decide):DE X fl (.B []) (.Name c pos) (aj i):=jJ (Fd i D Y O hd J)
def iP{i j pos}:DE X fl .P (.Constant (.int i) j pos) (dC (.int i)):=aU Fe
def iC{i j pos}:DE X fl .C (.Constant (.int i) j pos) (dC (.int i)):=jO Fe
def dz:DB X fl k [] aM:=Zm
def dq(h:DE X fl k e f)(B:DB X fl k es fr)(D:isR k=true:=by rfl)(hs:starEach (e::es) X.env=(false,eval e X.env)::starEach es X.env:=by exact mU rfl):DB X fl k (e::es) (ak f fr):=VB D h B hs
def dx(ha:DE X fl (.B L) a fa)(D:DE X fl .P b fb)(hs:ur b:=by exact λ_ _=>rfl):DE X fl .A (.Subscript a b pos) (dOp gIx fa fb):=ah2 ha D hs
def sA (O:X.N.Nodup) (h:DE X fl .A e f) (D:fl[i]? = some .A:=by rfl) (hi:X.N[i]? = some x:=by rfl) (J:X.env.scope.names.lookup x=some .local\/X.env.scope.names.lookup x=some .cell:=by first|exact fE rfl|exact fg rfl)
 (hs:swapsWith e (some (.Name x c)) pos.line X.env=pure false:=by rfl) (B:X.fn x=true\/X.env.scope.names.lookup x=some .local:=by first|exact .inl rfl|exact .inr rfl) :
 DS1 X fl (.Assign [.Name x c] e pos) (bN i f):=Vy D O hi J h hs B
def gN'(O:X.N.Nodup)(D:fl[i]? = some .A:=by rfl)(hi:X.N[i]? = some x:=by rfl)(J:X.env.scope.names.lookup x=some .local\/X.env.scope.names.lookup x=some .cell:=by first|exact fE rfl|exact fg rfl)
 (B:X.fn x=true\/X.env.scope.names.lookup x=some .local:=by first|exact .inl rfl|exact .inr rfl):DG X fl [i] (.Name x pos) (gNl i):=Vz D O hi J B
end
def fsc (a:sc.kind = .function:=by rfl) (b:sc.isCoroutine=false:=by rfl) (c:sc.isGenerator=false:=by rfl) (d:N.Nodup:=by decide +kernel) (e:N.take k.length=k:=by rfl) (f:∀x∈k,sc.names.lookup x=some .local\/sc.names.lookup x=some .cell:=by decide +kernel) (g:∀y∈sc.names,y.2 ≠ .free:=by decide +kernel):FnScope N k sc:=⟨a,b,c,d,e,f,g⟩
end D3
variable{r:D3.DS}{x0 x1 x2 x3 x4 x5 x6 x7 x8 x9 x10:Option D3.U}
namespace D3
def qS(o:Option Oc)(b:FS):Option Oc:=o.bind λo=>match o with
 | .nx δ'=>b δ'
 |o=>some o
def qI(o:Option Bool)(a b:FS)(δ:DS):Option Oc:=o.bind λt=>if t=true then a δ else b δ
noncomputable def qO(g:D->D->Option D)(a b:Option D):Option D:=a.bind λx=>b.bind λy=>g x y
def qU(g:D->Option D)(a:Option D):Option D:=a.bind g
def qC(a:Option D)(r:Option (List D)):Option (List D):=a.bind λx=>r.bind λr=>some (x::r)
def qF(F:List D->Option D)(l:Option (List D)):Option D:=l.bind F
def qR(a:Option D):Option Oc:=a.bind λd=>some (.rt d)
def xq(i:Nat)(a:Option D)(δ:DS):Option Oc:=if i<δ.length then a.bind λd=>some (.nx (δ.set i (some (.d d))))else none
noncomputable def Te(a:Option D)(fb:FE)(δ:DS):Option D:=a.bind λx=>match x with
 | .bool true=>fb δ
 | .bool false=>some (.bool false)
 |_=>none
def qOr(a:Option D)(fb:FE)(δ:DS):Option D:=a.bind λx=>match x with
 | .bool true=>some (.bool true)
 | .bool false=>fb δ
 |_=>none
def qN(a:Option D):Option D:=a.bind λx=>match x with
 | .bool b=>some (.bool (!b))
 |_=>none
def qB(a:Option D):Option Bool:=a.bind λx=>match x with
 | .bool b=>some b
 |_=>none
def qTA(a:Option Bool)(b:FT)(δ:DS):Option Bool:=a.bind λx=>if x=true then b δ else some false
def qTO(a:Option Bool)(b:FT)(δ:DS):Option Bool:=a.bind λx=>if x=true then some true else b δ
def qTN(a:Option Bool):Option Bool:=a.map λx=>!x
def qE(a:Option Bool)(fa fb:FE)(δ:DS):Option D:=a.bind λb=>if b=true then fa δ else fb δ
def qL(a:Option D):Option (List D):=a.bind asList
def aj5(a:Option (List D))(g:FG)(b:FS)(δ:DS):Option Oc:=a.bind λl=>iH g b l δ
def qD(a:Option DS):Option Oc:=a.bind λδ'=>some (.nx δ')
def qG(a:Option D)(g:FG)(δ:DS):Option Oc:=a.bind λd=>(g d δ).bind λδ'=>some (.nx δ')
def qGs(a:Option DS)(r:List D->DS->Option DS)(l:List D):Option DS:=a.bind λδ'=>r l δ'
def qT(a:Option (List D)):Option D:=a.bind λl=>if l.length<=sizeLine then some (.tuple l)else none
def qK(a:Option (List D)):Option D:=a.bind λl=>if l.length<=sizeLine then some (.list l)else none
def qFl(p:D->Bool)(a:Option D):Option D:=a.bind λd=>if p d=true then some d else none
noncomputable def qA(i:Nat)(x a:Option D)(δ:DS):Option Oc:=x.bind λx=>a.bind λd=>match x with
 | .list l=>if l.length<1000000 then some (.nx (δ.set i (some (.d (.list (l++[d]))))))else none
 |_=>none
def qP(i:Nat)(a x k:Option D)(δ:DS):Option Oc:=a.bind λd=>x.bind λx=>k.bind λk=>match x,k with
 | .list l,.int j=>(pIx l.length j).bind λn=>some (.nx (δ.set i (some (.d (.list (l.set n d))))))
 |_,_=>none
def qCh(g':D->D->Option D)(z:Option D)(y:Option D)(fc:FE)(δ:DS):Option D:=z.bind λz=>match z with
 | .bool true=>qO g' y (fc δ)
 | .bool false=>some (.bool false)
 |_=>none
noncomputable def qC0(g g':D->D->Option D)(a b:Option D)(fc:FE)(δ:DS):Option D:=a.bind λx=>b.bind λy=>(g x y).bind λz=>match z with
 | .bool true=>(fc δ).bind λw=>g' y w
 | .bool false=>some (.bool false)
 |_=>none
def qFn(o:Option Oc):Option D:=match o with
 |some (.rt d)=>some d
 |some (.nx _)=>some .none
 |_=>none
def qLs(a:Option (List D)):Option D:=a.bind λr=>some (.list r)
def qCo(a:Option (List D))(g:FG)(c:FT)(e:FE)(t:Nat)(ix:List Nat)(δ:DS):Option D:=a.bind λl=>if l.length<=100000 then(jU g c e (lN t ix δ) l).bind λr=>some (.list r)else none
section
variable{a b:FS}{c c':FT}{fa:FE}{fr:FA}{δ:DS}{g:D->D->Option D}{h:D->Option D}{F:List D->Option D}{G:FG}{d:D}
theorem aj6:bM a b δ=qS (a δ) b:=rfl
theorem Tf:qS (some (.nx δ')) b=b δ':=(rfl)
theorem Tg:qS (some (.rt d)) b=some (.rt d):=rfl
theorem Ti:qS (some (.bk δ')) b=some (.bk δ'):=rfl
theorem Tj:qS (some (.ct δ')) b=some (.ct δ'):=rfl
theorem aj7:cZ δ=some (.nx δ):=rfl
theorem at7:sBk δ=some (.bk δ):=rfl
theorem at8:sCt δ=some (.ct δ):=rfl
theorem at9:sIf c a b δ=qI (c δ) a b δ:=rfl
theorem Z8:qI (some true) a b δ=a δ:=(rfl)
theorem Z9:qI (some false) a b δ=b δ:=(rfl)
theorem v_op:dOp g fa fb δ=qO g (fa δ) (fb δ):=rfl
theorem Z_{x:D}:qO g (some x) (some y)=g x y:=(rfl)
theorem au0:dUn h fa δ=qU h (fa δ):=rfl
theorem aa0{x:D}:qU h (some x)=h x:=(rfl)
theorem aa1:aM δ=some []:=rfl
theorem WK:ak fa fr δ=qC (fa δ) (fr δ):=rfl
theorem Ph{x:D}:qC (some x) (some l)=some (x::l):=rfl
theorem aa2:dCall F fr δ=qF F (fr δ):=rfl
theorem Tp:qF F (some l)=F l:=(rfl)
theorem aj8:dj fa δ=qR (fa δ):=rfl
theorem WL:qR (some d)=some (.rt d):=rfl
theorem aa3:ag7 δ=some (.rt .none):=rfl
theorem aj9:bN i fa δ=xq i (fa δ) δ:=rfl
theorem au1:xq (i+12) (some d) δ=if i+12<δ.length then some (.nx (δ.set (i+12) (some (.d d))))else none:=(rfl)
theorem v_c:dC d δ=some d:=rfl
theorem v_and:xU fa fb δ=Te (fa δ) fb δ:=rfl
theorem WM:Te (some (.bool true)) fb δ=fb δ:=(rfl)
theorem WQ:Te (some (.bool false)) fb δ=some (.bool false):=rfl
theorem v_or:dOr fa fb δ=qOr (fa δ) fb δ:=rfl
theorem aa4:qOr (some (.bool true)) fb δ=some (.bool true):=rfl
theorem aa5:qOr (some (.bool false)) fb δ=fb δ:=(rfl)
theorem v_not:Vr fa δ=qN (fa δ):=rfl
theorem WR{b:Bool}:qN (some (.bool b))=some (.bool (!b)):=rfl
theorem au2:bF fa δ=qB (fa δ):=rfl
theorem aa6{b:Bool}:qB (some (.bool b))=some b:=rfl
theorem aa7:D3.G3 c c' δ=qTA (c δ) c' δ:=rfl
theorem Tq:qTA (some true) c δ=c δ:=(rfl)
theorem Tr:qTA (some false) c δ=some false:=rfl
theorem ak0:D3.tOr c c' δ=qTO (c δ) c' δ:=rfl
theorem WT:qTO (some true) c δ=some true:=rfl
theorem WW:qTO (some false) c δ=c δ:=(rfl)
theorem aa8:D3.iY c δ=qTN (c δ):=rfl
theorem Tt{b:Bool}:qTN (some b)=some (!b):=rfl
theorem v_ite:dIf c fa fb δ=qE (c δ) fa fb δ:=rfl
theorem WX:qE (some true) fa fb δ=fa δ:=(rfl)
theorem WY:qE (some false) fa fb δ=fb δ:=(rfl)
theorem ak1:xV fa δ=qL (fa δ):=rfl
theorem W6:qL (some (.list l))=some l:=rfl
theorem ak2:mC fr G b δ=aj5 (fr δ) G b δ:=rfl
theorem W7:aj5 (some l) G b δ=iH G b l δ:=(rfl)
theorem Pj:iH G b [] δ=some (.nx δ):=rfl
theorem ak3:J5 fa G δ=qG (fa δ) G δ:=rfl
theorem W8:qG (some d) G δ=qD (G d δ):=(rfl)
theorem W9:qD (some δ')=some (.nx δ'):=rfl
theorem au3:gNl (i+12) d δ=if i+12<δ.length then some (δ.set (i+12) (some (.d d)))else none:=(rfl)
theorem au4:gTn n gs (.tuple l) δ=if l.length=n then gs l δ else none:=(rfl)
theorem ak4:jH [] δ=some δ:=rfl
theorem ak5:cM G gs (d::l) δ=qGs (G d δ) gs l:=rfl
theorem W_:qGs (some δ') gs l=gs l δ':=(rfl)
theorem ak6:dTup fr δ=qT (fr δ):=rfl
theorem Xa:qT (some l)=if l.length<=sizeLine then some (.tuple l)else none:=(rfl)
theorem au5:gO fr δ=qK (fr δ):=rfl
theorem aa9:qK (some l)=if l.length<=sizeLine then some (.list l)else none:=(rfl)
theorem ab0:iZ fa δ=qFl flat (fa δ):=rfl
theorem ak7:Ol fa δ=qFl fl1 (fa δ):=rfl
theorem ab1{p:D->Bool}:qFl p (some d)=if p d=true then some d else none:=(rfl)
theorem ak8:zc i fa δ=qA i (aj i δ) (fa δ) δ:=rfl
theorem Xb:qA i (some (.list l)) (some d) δ=if l.length<1000000 then some (.nx (δ.set i (some (.d (.list (l++[d]))))))else none:=(rfl)
theorem ak9:Hq i fk fa δ=qP i (fa δ) (aj i δ) (fk δ) δ:=rfl
theorem Xc{j:Int}:qP i (some d) (some (.list l)) (some (.int j)) δ=(pIx l.length j).bind λn=>some (.nx (δ.set i (some (.d (.list (l.set n d)))))):=(rfl)
theorem Xd:lO g g' fa fb fc δ=qC0 g g' (fa δ) (fb δ) fc δ:=rfl
theorem Pk{x:D}:qC0 g g' (some x) (some y) fc δ=qCh g' (g x y) (some y) fc δ:=(rfl)
theorem Pn{y:Option D}:qCh g' (some (.bool true)) y fc δ=qO g' y (fc δ):=(rfl)
theorem Pq{y:Option D}:qCh g' (some (.bool false)) y fc δ=some (.bool false):=rfl
theorem al0{p q:Nat}{ds:List D}:fnD p q b ds=if ds.length=p then qFn (b (ds.map (λd=>some (.d d))++aO q none))else none:=(rfl)
theorem Xe:qFn (some (.rt d))=some d:=rfl
theorem Xf:qFn (some (.nx δ'))=some .none:=rfl
theorem ab2{t:Nat}:mO fr G c fa t ix δ=qCo (fr δ) G c fa t ix δ:=rfl
theorem Tv{t:Nat}:qCo (some l) G c fa t ix δ=if l.length<=100000 then qLs (jU G c fa (lN t ix δ) l)else none:=(rfl)
theorem au6:qLs (some l)=some (.list l):=rfl
theorem al1:D3.lu δ=some true:=rfl
theorem ab3{x:D}:aj 0 (some (.d x)::r)=some x:=rfl
theorem ab4{y:Option U}:aj (i+1) (y::r)=aj i r:=rfl
theorem au7:xq 0 (some d) (x0::r)=some (.nx (some (.d d)::r)):=rfl
theorem au8:gNl 0 d (x0::r)=some (some (.d d)::r):=rfl
theorem au9:xq 1 (some d) (x0::x1::r)=some (.nx (x0::some (.d d)::r)):=rfl
theorem av0:gNl 1 d (x0::x1::r)=some (x0::some (.d d)::r):=rfl
theorem av1:xq 2 (some d) (x0::x1::x2::r)=some (.nx (x0::x1::some (.d d)::r)):=rfl
theorem av2:gNl 2 d (x0::x1::x2::r)=some (x0::x1::some (.d d)::r):=rfl
theorem av3:xq 3 (some d) (x0::x1::x2::x3::r)=some (.nx (x0::x1::x2::some (.d d)::r)):=rfl
theorem av4:gNl 3 d (x0::x1::x2::x3::r)=some (x0::x1::x2::some (.d d)::r):=rfl
theorem av5:xq 4 (some d) (x0::x1::x2::x3::x4::r)=some (.nx (x0::x1::x2::x3::some (.d d)::r)):=rfl
theorem av6:gNl 4 d (x0::x1::x2::x3::x4::r)=some (x0::x1::x2::x3::some (.d d)::r):=rfl
theorem av7:xq 5 (some d) (x0::x1::x2::x3::x4::x5::r)=some (.nx (x0::x1::x2::x3::x4::some (.d d)::r)):=rfl
theorem av8:gNl 5 d (x0::x1::x2::x3::x4::x5::r)=some (x0::x1::x2::x3::x4::some (.d d)::r):=rfl
theorem av9:xq 6 (some d) (x0::x1::x2::x3::x4::x5::x6::r)=some (.nx (x0::x1::x2::x3::x4::x5::some (.d d)::r)):=rfl
theorem aw0:gNl 6 d (x0::x1::x2::x3::x4::x5::x6::r)=some (x0::x1::x2::x3::x4::x5::some (.d d)::r):=rfl
theorem aw1:xq 7 (some d) (x0::x1::x2::x3::x4::x5::x6::x7::r)=some (.nx (x0::x1::x2::x3::x4::x5::x6::some (.d d)::r)):=rfl
theorem aw2:gNl 7 d (x0::x1::x2::x3::x4::x5::x6::x7::r)=some (x0::x1::x2::x3::x4::x5::x6::some (.d d)::r):=rfl
theorem aw3:xq 8 (some d) (x0::x1::x2::x3::x4::x5::x6::x7::x8::r)=some (.nx (x0::x1::x2::x3::x4::x5::x6::x7::some (.d d)::r)):=rfl
theorem aw4:gNl 8 d (x0::x1::x2::x3::x4::x5::x6::x7::x8::r)=some (x0::x1::x2::x3::x4::x5::x6::x7::some (.d d)::r):=rfl
theorem aw5:xq 9 (some d) (x0::x1::x2::x3::x4::x5::x6::x7::x8::x9::r)=some (.nx (x0::x1::x2::x3::x4::x5::x6::x7::x8::some (.d d)::r)):=rfl
theorem aw6:gNl 9 d (x0::x1::x2::x3::x4::x5::x6::x7::x8::x9::r)=some (x0::x1::x2::x3::x4::x5::x6::x7::x8::some (.d d)::r):=rfl
theorem al2:xq 10 (some d) (x0::x1::x2::x3::x4::x5::x6::x7::x8::x9::x10::r)=some (.nx (x0::x1::x2::x3::x4::x5::x6::x7::x8::x9::some (.d d)::r)):=rfl
theorem al4:gNl 10 d (x0::x1::x2::x3::x4::x5::x6::x7::x8::x9::x10::r)=some (x0::x1::x2::x3::x4::x5::x6::x7::x8::x9::some (.d d)::r):=rfl
theorem al5{B:Option U}:xq 11 (some d) (x0::x1::x2::x3::x4::x5::x6::x7::x8::x9::x10::B::r)=some (.nx (x0::x1::x2::x3::x4::x5::x6::x7::x8::x9::x10::some (.d d)::r)):=rfl
theorem al6{B:Option U}:gNl 11 d (x0::x1::x2::x3::x4::x5::x6::x7::x8::x9::x10::B::r)=some (x0::x1::x2::x3::x4::x5::x6::x7::x8::x9::x10::some (.d d)::r):=rfl
end
section
variable{i j:Int}{l m:List D}{d:D}
theorem al7:eV (.int i) (.int j)=some (.int (i+j)):=rfl
theorem al8:xP (.int i) (.int j)=some (.int (i-j)):=rfl
theorem aw7:gLt (.int i) (.int j)=some (.bool (decide (i<j))):=rfl
theorem aw8:gLe (.int i) (.int j)=some (.bool (decide (i<=j))):=rfl
theorem aw9:gGt (.int i) (.int j)=some (.bool (decide (j<i))):=rfl
theorem ax0:gGe (.int i) (.int j)=some (.bool (decide (j<=i))):=rfl
theorem al9:gEq (.int i) (.int j)=some (.bool (decide (i=j))):=rfl
theorem am0:gNe (.int i) (.int j)=some (.bool (!decide (i=j))):=rfl
theorem am1:iQ [.list l]=some (.int l.length):=rfl
theorem ab5:iQ [.tuple l]=some (.int l.length):=rfl
theorem uK:∀ns:List Int,dH (ns.map .int)=some ns
 |[]=>rfl
 |n::r=>by rw[aG,dH,uK r];rfl
theorem am2:ar5 [.int i]=some (.int (if i<0 then -i else i)):=rfl
theorem am3:ag8 [.int i,.int j]=some (.int (if j>i then j else i)):=rfl
theorem am4:ag9 [.int i,.int j]=some (.int (if j<i then j else i)):=rfl
theorem am5:Al (.int i)=some (.int (-i)):=rfl
theorem ax1:gIx (.list l) (.int i)=pAt l i:=(rfl)
theorem am6:gIx (.tuple l) (.int i)=pAt l i:=(rfl)
theorem Yo:tL (.list l) (.list m)=if l.length+m.length<=1000000 then some (.list (l++m))else none:=(rfl)
theorem ab6:yK (.list l)=some (.list l):=rfl
theorem Xg:yK (.tuple l)=some (.list l):=rfl
theorem am7:pAt (d::l) 0=some d:=by
 unfold pAt pIx;rw[if_pos (by decide),if_pos (by simp)];rfl
end
noncomputable def am8(i j:Nat)(a:Option (List D))(δ:DS):Option Oc:=a.bind λl=>match l with
 |[x,y]=>if i<δ.length/\j<δ.length then some (.nx ((δ.set i (some (.d x))).set j (some (.d y))))else none
 |_=>none
def yR(a:Option (List D)):Option (List D):=a.bind λl=>match l with
 |[.int j]=>if xW j=true then some (iu 0 j)else none
 |_=>none
def Yp(a:Option (List D)):Option (List D):=a.bind λl=>match l with
 |[.int i,.int j]=>if(xW i&&xW j)=true then some (iu i j)else none
 |_=>none
def qSl(x:Option D)(a b:Option (Option Int)):Option D:=x.bind λx=>a.bind λa=>b.bind λb=>match x with
 | .list l=>some (.list (cuD l a b))
 |_=>none
def qOP(x:Option D):Option (Option Int):=x.bind λx=>match x with
 | .int i=>some (some i)
 |_=>none
def qEn(x:Option D):Option (List D):=x.bind λd=>match d with
 | .list l=>some (tE l)
 |_=>none
section
variable{a b:FS}{fa:FE}{fr:FA}{δ:DS}{g:FG}
theorem am9:ar6 i j fr δ=am8 i j (fr δ) δ:=rfl
theorem Xh{x:D}:am8 i j (some [x,y]) δ=if i<δ.length/\j<δ.length then some (.nx ((δ.set i (some (.d x))).set j (some (.d y))))else none:=(rfl)
theorem ab7:oM fr δ=yR (fr δ):=rfl
def KQ (h : -(2^62)<=k) (h2:k<2^62):yR (some [.int k])=some (iu 0 k):=by
 show(if xW k=true then some (iu 0 k)else none)=_;rw[if_pos];unfold xW;rw[dTr h,dTr h2];rfl
theorem ab8:Dr fr δ=Yp (fr δ):=rfl
theorem ax2{lo hi:FO}:dSl fa lo hi δ=qSl (fa δ) (lo δ) (hi δ):=rfl
theorem ab9{p r:Option Int}:qSl (some (.list l)) (some p) (some r)=some (.list (cuD l p r)):=rfl
theorem ax3:n8 δ=some none:=rfl
theorem ax4:fD fa δ=qOP (fa δ):=rfl
theorem ac0{k:Int}:qOP (some (.int k))=some (some k):=rfl
theorem ac1:QF fa δ=qEn (fa δ):=rfl
theorem Tw:qEn (some (.list l))=some (tE l):=rfl
def xr(Inv:Nat->DS->Prop):∀(l:List D)(δ:DS),Inv 0 δ->(∀i d δ,l[i]? = some d->Inv i δ->∃B δ',g d δ=some B/\(b B=some (.nx δ')\/b B=some (.ct δ'))/\Inv (i+1) δ')->∃δ',iH g b l δ=some (.nx δ')/\Inv l.length δ':=by
 have X:∀(l:List D)(k:Nat)(δ:DS),Inv k δ->(∀i d δ,l[i]? = some d->Inv (k+i) δ->∃B δ',g d δ=some B/\(b B=some (.nx δ')\/b B=some (.ct δ'))/\Inv (k+i+1) δ')->∃δ',iH g b l δ=some (.nx δ')/\Inv (k+l.length) δ':=by
  intro l
  induction l with
  |nil=>exact λk δ h _=>⟨δ,rfl,h⟩
  |cons d r W=>
   intro k δ h hs;obtain⟨B,δ',e1,e2,e3⟩:=hs 0 d δ rfl h;obtain⟨Y,T,U⟩:=W (k+1) δ' e3 λi V Z hd hi=>by
    have:=hs (i+1) V Z (by simpa using hd) (by rwa[show k+(i+1)=k+1+i by lia]);rwa[show k+(i+1)+1=k+1+i+1 by lia]at this
   refine⟨Y,?_,by rwa[aX,show k+(r.length+1)=k+1+r.length by lia]⟩;rw[iH,e1,aF];rcases e2 with e2|e2
   .rwa[e2]
   .rwa[e2]
 intro l δ h hs;have:=X l 0 δ h λi d δ hd hi=>by
  have:=hs i d δ hd (by rw[fG]at hi;exact hi);rwa[fG]
 rwa[fG]at this
end
def qX(a:Option D)(δ:DS):Option Oc:=a.bind λ_=>some (.nx δ)
theorem ac2{fa:FE}:Lq fa δ=qX (fa δ) δ:=rfl
theorem Tz:qX (some d) δ=some (.nx δ):=rfl
theorem TF{B:D->D->Option D}{fa fb fc fd:FE}:zF g g' B fa fb fc fd δ=Te (qO g (fa δ) (fb δ)) (lO g' B fb fc fd) δ:=by
 unfold zF Te lO qO
 cases fa δ with
 |none=>rfl
 |some x=>cases fb δ<;>rfl
def qZ(a b:Option D):Option (List D):=a.bind λd=>b.bind λe=>match d,e with
 | .list l,.list m=>some (jV l m)
 |_,_=>none
theorem an0{f g:FE}:Vs f g δ=qZ (f δ) (g δ):=rfl
theorem Xi{m:List D}:qZ (some (.list l)) (some (.list m))=some (jV l m):=rfl
theorem ax5{fa:FE}:dN1 fa δ=qFl (λd=>decide (nl d<=1)) (fa δ):=rfl
theorem an1:flat .none=true:=rfl
theorem ax6:flat (.bool b)=true:=rfl
theorem f_int{i:Int}:flat (.int i)=true:=rfl
theorem an2:flat (.str x)=true:=rfl
theorem an3:flat (.list l)=false:=rfl
theorem f_tup:flat (.tuple l)=flats l:=rfl
theorem an4:flats []=true:=rfl
theorem ac3:flats (d::l)=(flat d&&flats l):=rfl
theorem ac4:fl1 .none=true:=rfl
theorem an5:fl1 (.bool b)=true:=rfl
theorem ac5{i:Int}:fl1 (.int i)=true:=rfl
theorem ac6:fl1 (.str x)=true:=rfl
theorem ac7:fl1 (.list l)=flats l:=rfl
theorem ac8:fl1 (.tuple l)=flats l:=rfl
theorem ax7{c:String}:gIs c d=some (.bool (isT c (tyD d))):=rfl
theorem an6:Ez d=some (.bool (isNone d)):=rfl
theorem ac9:QC d=some (.bool (!isNone d)):=rfl
theorem an7:isNone .none=true:=rfl
theorem ax8:isNone (.bool b)=false:=rfl
theorem an8{i:Int}:isNone (.int i)=false:=rfl
theorem an9:isNone (.str x)=false:=rfl
theorem ao0:isNone (.list l)=false:=rfl
theorem ao1:isNone (.tuple l)=false:=rfl
theorem ao2{l:List (D×D)}:isNone (.dict l)=false:=rfl
end D3
local macro_rules|`(tactic|simp![$xs,*]$[$l:location]?)=>do let a←("D3.an1 D3.ax6 D3.f_int D3.an2 D3.an3 D3.f_tup D3.an4 D3.ac3 D3.ac4 D3.an5 D3.ac5 D3.ac6 D3.ac7 D3.ac8 D3.ax7 D3.an6 D3.ac9 D3.an7 D3.ax8 D3.an8 D3.an9 D3.ao0 D3.ao1 D3.ao2 List.length_cons List.length_nil List.map_cons List.map_nil List.replicate_succ List.replicate_zero List.cons_append List.nil_append List.append_nil List.set_cons_zero List.set_cons_succ Nat.zero_add if_true decide_true decide_false Int.cast_ofNat_Int Bool.not_true Bool.not_false Bool.and_self D3.au7 D3.au8 D3.au9 D3.av0 D3.av1 D3.av2 D3.av3 D3.av4 D3.av5 D3.av6 D3.av7 D3.av8 D3.av9 D3.aw0 D3.aw1 D3.aw2 D3.aw3 D3.aw4 D3.aw5 D3.aw6 D3.al2 D3.al4 D3.al5 D3.al6 D3.ax5 D3.an0 D3.Xi D3.ac2 D3.Tz D3.TF D3.aj6 D3.Tf D3.Tg D3.Ti D3.Tj D3.aj7 D3.at7 D3.at8 D3.at9 D3.Z8 D3.Z9 D3.v_op D3.Z_ D3.au0 D3.aa0 D3.aa1 D3.WK D3.Ph D3.aa2 D3.Tp D3.aj8 D3.WL D3.aa3 D3.aj9 D3.au1 D3.v_c D3.v_and D3.WM D3.WQ D3.v_or D3.aa4 D3.aa5 D3.v_not D3.WR D3.au2 D3.aa6 D3.aa7 D3.Tq D3.Tr D3.ak0 D3.WT D3.WW D3.aa8 D3.Tt D3.v_ite D3.WX D3.WY D3.ak1 D3.W6 D3.ak2 D3.W7 D3.Pj D3.ak3 D3.W8 D3.W9 D3.au3 D3.au4 D3.ak4 D3.ak5 D3.W_ D3.ak6 D3.Xa D3.au5 D3.aa9 D3.ab0 D3.ak7 D3.ab1 D3.ak8 D3.Xb D3.ak9 D3.Xc D3.Xd D3.Pn D3.Pq D3.al0 D3.Xe D3.Xf D3.ab2 D3.Tv D3.au6 D3.Pk D3.al1 D3.ab3 D3.ab4 D3.al7 D3.al8 D3.aw7 D3.aw8 D3.aw9 D3.ax0 D3.al9 D3.am0 D3.am1 D3.ab5 D3.am2 D3.am3 D3.am4 D3.am5 D3.ax1 D3.am6 D3.Yo D3.ab6 D3.Xg D3.am7 D3.am9 D3.Xh D3.ab7 D3.ab8 D3.ax2 D3.ab9 D3.ax3 D3.ax4 D3.ac0 D3.ac1 D3.Tw Int.reduceEq Int.reduceLE Int.reduceLT Nat.reduceAdd Nat.reduceEqDiff Nat.reduceLT Nat.reduceLeDiff reduceIte".splitOn " ").toArray.mapM λs=>`(Lean.Parser.Tactic.simpLemma|$(Lean.mkIdent s.toName):ident);`(tactic|simp only[$a,*,$xs,*]$[$l]?)
namespace My
noncomputable def yS(ns:List Int)(i:Int):Int:=
 if i<(ns.length:Int)then ns.getD i.toNat 0%1000000007
 else if ns=[]then 7919*i+5000011
 else ns.getD (i*7%(ns.length:Int)).toNat 0%1000000007+7919*i
def divs(n:Int):Nat->Int
 |0=>n
 |k+1=>divs n k/1000003
noncomputable def M9(c i k m:Int):Int:=
 (((c+65537*i+3)*(1299709+15485863*k)%2147483629*((c+65537*i+3)*(1299709+15485863*k)%2147483629)%1500450271+104729) *
  ((c+65537*i+3)*(1299709+15485863*k)%2147483629*((c+65537*i+3)*(1299709+15485863*k)%2147483629)%1500450271+104729))%715827883/64%m
def lE(ns:List Int)(i k m:Int):Int:=
 if i<(ns.length:Int)/\10^40<=ns.getD i.toNat 0/\0<divs (ns.getD i.toNat 0) k.toNat then divs (ns.getD i.toNat 0) k.toNat%1000003%m
 else M9 (yS ns i) i k m
def jx(ns:List Int)(i k:Int) (h:0<m):0<=lE ns i k m/\lE ns i k m<m:=by
 unfold lE M9;split
 .exact⟨sZ _ (by lia),pI _ h⟩
 .exact⟨sZ _ (by lia),pI _ h⟩
def Pr (h1:c<(ns.length:Int)) (h2:10^40<=ns.getD c.toNat 0) (B:0<divs (ns.getD c.toNat 0) k.toNat) :
 lE ns c k m=divs (ns.getD c.toNat 0) k.toNat%1000003%m:=by
 unfold lE;rw[if_pos ⟨h1,h2,B⟩]
def vN (h:¬(c<(ns.length:Int)/\10^40<=ns.getD c.toNat 0/\0<divs (ns.getD c.toNat 0) k.toNat)) :
 lE ns c k m=M9 (yS ns c) c k m:=by
 unfold lE;rw[if_neg h]
end My
namespace Com
open D3
def ig:List D->Option D:=fnD 1 0 (dj (xU (dUn (gIs "int") (aj 0)) (Vr (dUn (gIs "bool") (aj 0)))))
def jy:List D->Option D:=fnD 2 0 (bM (sIf (bF (dOp gLt (aj 1) (dCall iQ (ak (aj 0) (aM))))) (dj (dOp vG (dOp gIx (aj 0) (aj 1)) (dC (.int 1000000007)))) (cZ))
    (bM (sIf (bF (dOp gEq (aj 0) (gO (aM)))) (dj (dOp eV (dOp uT (dC (.int 7919)) (aj 1)) (dC (.int 5000011)))) (cZ))
    (dj (dOp eV (dOp vG (dOp gIx (aj 0) (dOp vG (dOp uT (aj 1) (dC (.int 7))) (dCall iQ (ak (aj 0) (aM))))) (dC (.int 1000000007))) (dOp uT (dC (.int 7919)) (aj 1))))))
def cC:List D->Option D:=fnD 4 2 (bM (sIf (D3.G3 (bF (dOp gLt (aj 1) (dCall iQ (ak (aj 0) (aM))))) (bF (dOp gGe (dOp gIx (aj 0) (aj 1)) (dOp Zg (dC (.int 10)) (dC (.int 40)))))) (bM (bN 4 (dOp gIx (aj 0) (aj 1)))
    (bM (mC (oM (ak (aj 2) (aM))) (gNl 5) (bN 4 (dOp Ho (aj 4) (dC (.int 1000003)))))
    (sIf (bF (dOp gGt (aj 4) (dC (.int 0)))) (dj (dOp vG (dOp vG (aj 4) (dC (.int 1000003))) (aj 3))) (cZ)))) (cZ))
    (bM (bN 4 (dOp vG (dOp uT (dOp eV (dOp eV (dCall jy (ak (aj 0) (ak (aj 1) (aM)))) (dOp uT (dC (.int 65537)) (aj 1))) (dC (.int 3))) (dOp eV (dC (.int 1299709)) (dOp uT (dC (.int 15485863)) (aj 2)))) (dC (.int 2147483629))))
    (bM (bN 4 (dOp eV (dOp vG (dOp uT (aj 4) (aj 4)) (dC (.int 1500450271))) (dC (.int 104729))))
    (dj (dOp vG (dOp Ho (dOp vG (dOp uT (aj 4) (aj 4)) (dC (.int 715827883))) (dC (.int 64))) (aj 3))))))
def d7:List D->Option D:=fnD 1 0 (dj (xU (dUn (gIs "int") (aj 0)) (Vr (dUn (gIs "bool") (aj 0)))))
def jX:List D->Option D:=fnD 1 0 (dj (dTup (ak (iZ (dOp gIx (aj 0) (dC (.int 0)))) (ak (iZ (dOp gIx (aj 0) (dC (.int 1)))) (aM)))))
def gh:List D->Option D:=fnD 3 0 (dj (xU (dCall ig (ak (aj 0) (aM))) (lO gLe gLe (aj 1) (aj 0) (aj 2))))
def gj:List D->Option D:=fnD 3 0 (bM (sIf (bF (aj 2)) (dj (iZ (dOp gIx (aj 1) (dC (.int 1))))) (cZ))
    (dj (iZ (dIf (bF (dOp gLe (aj 0) (dOp gIx (aj 1) (dC (.int 0))))) (dC (.int 0)) (aj 0)))))
def dG:List D->Option D:=fnD 4 0 (bM (sIf (D3.tOr (bF (dOp gLe (dOp gIx (aj 0) (dC (.int 1))) (dOp gIx (aj 2) (dC (.int 0))))) (bF (dOp gLe (dOp gIx (aj 2) (dC (.int 1))) (dOp gIx (aj 0) (dC (.int 0)))))) (dj (dC (.bool true))) (cZ))
    (dj (dOr (dOp gLe (dOp eV (aj 1) (dOp gIx (aj 0) (dC (.int 2)))) (aj 3)) (dOp gLe (dOp eV (aj 3) (dOp gIx (aj 2) (dC (.int 2)))) (aj 1)))))
def jY:List D->Option D:=fnD 3 6 (bM (sIf (D3.tOr (D3.iY (bF (dUn (gIs "list") (aj 2)))) (bF (dOp gNe (dCall iQ (ak (aj 2) (aM))) (dCall iQ (ak (aj 1) (aM)))))) (dj (dC (.bool false))) (cZ))
    (bM (mC (oM (ak (dCall iQ (ak (aj 1) (aM))) (aM))) (gNl 3) (bM (bN 4 (dOp gIx (aj 2) (aj 3)))
    (bM (J5 (dOp gIx (aj 1) (aj 3)) (gTn 3 (cM (gNl 5) (cM (gNl 6) (cM (gNl 7) (jH))))))
    (bM (sIf (D3.tOr (D3.iY (bF (dCall d7 (ak (aj 4) (aM))))) (D3.iY (bF (lO gLe gLe (dC (.int 0)) (aj 4) (dOp xP (dCall iQ (ak (aj 0) (aM))) (aj 7)))))) (dj (dC (.bool false))) (cZ))
    (sIf (bF (dOp gGt (dCall Ak (ak (dSl (aj 0) (fD (aj 4)) (fD (dOp eV (aj 4) (aj 7)))) (aM))) (aj 5))) (dj (dC (.bool false))) (cZ))))))
    (bM (mC (oM (ak (dCall iQ (ak (aj 1) (aM))) (aM))) (gNl 3) (mC (oM (ak (aj 3) (aM))) (gNl 8) (sIf (D3.iY (bF (dCall dG (ak (dOp gIx (aj 1) (aj 8)) (ak (dOp gIx (aj 2) (aj 8)) (ak (dOp gIx (aj 1) (aj 3)) (ak (dOp gIx (aj 2) (aj 3)) (aM)))))))) (dj (dC (.bool false))) (cZ))))
    (dj (dC (.bool true))))))
end Com
namespace Com
open D3 My
def xu{ns:List Int}{i:Int}(B:0<=i)(h1:i<ns.length):pAt (ns.map eP) i=some (.int (ns.getD i.toNat 0)):=by
 unfold pAt pIx;rw[aq,if_pos B,if_pos h1,aF,aW];have h:i.toNat<ns.length:=by lia
 rw[aA h];simp[List.getD,h]
def Gg{k:Nat}:pAt l (k:Int)=l[k]?:=by
 unfold pAt pIx;rw[if_pos (by lia)];by_cases h:k<l.length
 .rw[if_pos (by lia),aF];simp
 .rw[if_neg (by lia),bx (by lia)];rfl
def at0 : pAt (c::l) 0=some c:=Gg (k:=0)
def at1 : pAt (c::m::l) 1=some m:=Gg (k:=1)
def Gi {i:Int}(h:0<c):vG (.int i) (.int c)=some (.int (i%c)):=by
 show(if decide (c≠0)=true then some (eP (i.fmod c))else none)=_;rw[if_pos (dTr (by lia)),Int.fmod_eq_emod_of_nonneg i (by lia)]
def TJ{j:Int}(h:j.natAbs<2^64):j.natAbs<2^9000:=bU h (Nat.pow_le_pow_right (by decide) (by decide))
def ax9 (h:0<k) (h2:k.natAbs<2^9000):Ho (.int c) (.int k)=some (.int (c/k)):=by
 show(if J6 c k=true then some (eP (c.fdiv k))else none)=_;have e:J6 c k=true:=by
  unfold J6;rw[aK];exact⟨dTr (by lia),dTr h2⟩
 rw[if_pos e,Int.fdiv_eq_ediv_of_nonneg c (by lia)]
def ao3 (h:0<k) (h2:k<18446744073709551616):Ho (.int c) (.int k)=some (.int (c/k)):=ax9 h (TJ (by lia))
def mulL (h1 : -18446744073709551616<c) (h2:c<18446744073709551616):uT (.int c) (.int k)=some (.int (c*k)):=by
 show(if Aj c k=true then some (eP (c*k))else none)=_;have e:Aj c k=true:=by
  unfold Aj;rw[dTr (show c.natAbs<2^64 by lia)];rfl
 rw[if_pos e]
def mulR {i:Int}(h1 : -18446744073709551616<c) (h2:c<18446744073709551616):uT (.int i) (.int c)=some (.int (i*c)):=by
 show(if Aj i c=true then some (eP (i*c))else none)=_;have e:Aj i c=true:=by
  unfold Aj;rw[dTr (show c.natAbs<2^64 by lia),Bool.or_true];rfl
 rw[if_pos e]
def Yq:Zg (.int 10) (.int 40)=some (.int (10^40)):=rfl
def sz(h:n<=1000000):n<=sizeLine:=aV h (by decide)
def shaped_ints(ns:List Int):fq (.list (ns.map eP))=true:=by
 have h1:∀ns:List Int,fN (ns.map eP)=true:=λns=>by
  induction ns with
  |nil=>rfl
  |cons a r Z=>simp[fN,eR,Z]
 have h2:∀ns:List Int,gX (ns.map eP)<=1:=λns=>by
  induction ns with
  |nil=>simp[gX]
  |cons a r Z=>simp[gX,gz];lia
 unfold fq;rw[aK];refine⟨by simp[eR,h1],dTr ?_⟩;have:=h2 ns;simp only[gz];lia
theorem eq_empty(ns:List Int):gEq (.list (ns.map eP)) (.list [])=some (.bool (decide (ns=[]))):=by
 unfold gEq;rw[shaped_ints ns]
 cases ns with
 |nil=>rfl
 |cons a r=>rfl
def Pu (B:0<=c):jy [.list (ns.map .int),.int c]=some (.int (yS ns c)):=by
 unfold jy yS;by_cases h:c<(ns.length:Int)
 .rw[if_pos h];simp![lMp,dTr h,xu B h,Gi (show(0:Int)<1000000007 by decide)]
 .rw[if_neg h];by_cases hn:ns=[]
  .rw[if_pos hn];simp![lMp,dFa h,eq_empty,dTr hn,cg,mulL (show(-18446744073709551616:Int)<7919 by decide) (show(7919:Int)<18446744073709551616 by decide)]
  .rw[if_neg hn];have X:0<ns.length:=by
    cases ns with
    |nil=>exact absurd rfl hn
    |cons _ _=>simp
   have Y:0<=c*7%(ns.length:Int):=sZ _ (by lia);have Z:c*7%(ns.length:Int)<(ns.length:Int):=pI _ (by lia);simp![lMp,dFa h,eq_empty,dFa hn,cg,mulL (show(-18446744073709551616:Int)<7919 by decide) (show(7919:Int)<18446744073709551616 by decide),mulR (show(-18446744073709551616:Int)<7 by decide) (show(7:Int)<18446744073709551616 by decide),Gi (show(0:Int)<1000000007 by decide),Gi (show(0:Int)<ns.length by lia),xu Y Z]
theorem Ec {l:D}{i:D}(n:Int):∀(B:List D)(c:Nat)(y:Option U),(∀j∈B,∃x,j = .int x)->∃J,iH (gNl 5) (bN 4 (dOp Ho (aj 4) (dC (.int 1000003)))) B [some (.d l),some (.d i),some (.d k),some (.d m),some (.d (.int (divs n c))),y] =
 some (.nx [some (.d l),some (.d i),some (.d k),some (.d m),some (.d (.int (divs n (c+B.length)))),J])
 |[],c,y,_=>⟨y,rfl⟩
 |j::B,c,y,h=>by
  obtain⟨J,e⟩:=Ec (l:=l) (i:=i) (k:=k) (m:=m) n B (c+1) (some (.d j)) λj' Z=>h j' (au _ Z)
  refine⟨J,?_⟩;rw[iH];simp![ao3 (show(0:Int)<1000003 by decide) (show(1000003:Int)<18446744073709551616 by decide),aF];rw[show c+(B.length+1)=c+1+B.length by lia,<-e];rfl
def Px(lo hi:Int):∀j∈iu lo hi,∃x,j = .int x:=by
 intro j Z;obtain⟨k,_,rfl⟩:=bT.mp Z;exact⟨_,rfl⟩
def uL {i:Int}(B:0<=i) (D:0<=k) (J:k<=1000) (hm:0<m):cC [.list (ns.map .int),.int i,.int k,.int m]=some (.int (lE ns i k m)):=by
 have rest:∀x y:Option U,qFn ((bM (bN 4 (dOp vG (dOp uT (dOp eV (dOp eV (dCall jy (ak (aj 0) (ak (aj 1) (aM)))) (dOp uT (dC (.int 65537)) (aj 1))) (dC (.int 3))) (dOp eV (dC (.int 1299709)) (dOp uT (dC (.int 15485863)) (aj 2)))) (dC (.int 2147483629))))
  (bM (bN 4 (dOp eV (dOp vG (dOp uT (aj 4) (aj 4)) (dC (.int 1500450271))) (dC (.int 104729))))
  (dj (dOp vG (dOp Ho (dOp vG (dOp uT (aj 4) (aj 4)) (dC (.int 715827883))) (dC (.int 64))) (aj 3))))) [some (.d (.list (ns.map .int))),some (.d (.int i)),some (.d (.int k)),some (.d (.int m)),x,y])=some (.int (M9 (yS ns i) i k m)):=by
  intro x y;simp![Pu B,mulL (show(-18446744073709551616:Int)<65537 by decide) (show(65537:Int)<18446744073709551616 by decide),mulL (show(-18446744073709551616:Int)<15485863 by decide) (show(15485863:Int)<18446744073709551616 by decide),mulR (i:=yS ns i+65537*i+3) (show(-18446744073709551616:Int)<1299709+15485863*k by lia) (show 1299709+15485863*k<(18446744073709551616:Int)by lia),Gi (show(0:Int)<2147483629 by decide)]
  simp only[mulL (show(-18446744073709551616:Int)<(yS ns i+65537*i+3)*(1299709+15485863*k)%2147483629 by lia) (show(yS ns i+65537*i+3)*(1299709+15485863*k)%2147483629<(18446744073709551616:Int)by lia)];simp![Gi (show(0:Int)<1500450271 by decide)];rw[mulL (by lia) (by lia)];simp![Gi (show(0:Int)<715827883 by decide),ao3 (show(0:Int)<64 by decide) (show(64:Int)<18446744073709551616 by decide),Gi hm];rfl
 unfold cC;rw[al0];simp![];by_cases h:i<(ns.length:Int)
 .by_cases h2:10^40<=ns.getD i.toNat 0
  .simp![lMp,dTr h,xu B h,Yq,dTr h2];obtain⟨Y,e⟩:=Ec (l:=.list (ns.map .int)) (i:=.int i) (k:=.int k) (m:=.int m) (ns.getD i.toNat 0) (iu 0 k) 0 none (Px 0 k);have X:0+(iu 0 k).length=k.toNat:=by simp[iu]
   rw[X]at e;have W:iH (gNl 5) (bN 4 (dOp Ho (aj 4) (dC (.int 1000003)))) (iu 0 k) [some (.d (.list (ns.map .int))),some (.d (.int i)),some (.d (.int k)),some (.d (.int m)),some (.d (.int (ns.getD i.toNat 0))),none] =
    some (.nx [some (.d (.list (ns.map .int))),some (.d (.int i)),some (.d (.int k)),some (.d (.int m)),some (.d (.int (divs (ns.getD i.toNat 0) k.toNat))),Y]):=e
   rw[KQ (by lia) (by lia)];simp![W];by_cases Z:0<divs (ns.getD i.toNat 0) k.toNat
   .simp![dTr Z,Gi (show(0:Int)<1000003 by decide),Gi hm];rw[Pr h h2 Z]
   .simp![dFa Z];rw[vN (λz=>Z z.2.2)];have:=rest (some (.d (.int (divs (ns.getD i.toNat 0) k.toNat)))) Y;simp![]at this;exact this
  .simp![lMp,dTr h,xu B h,Yq,dFa h2];rw[vN (λz=>h2 z.2.1)];have:=rest none none;simp![]at this;exact this
 .simp![lMp,dFa h];rw[vN (λz=>h z.1)];have:=rest none none;simp![]at this;exact this
end Com
namespace Com
open D3 My
theorem ao4 {g:FG}{e:FE}(f:α->D) (p:α->Bool) (h:α->D):∀l:List α,(∀s∈l,∃B,g (f s) δ=some B/\c B=some (p s)/\(p s=true->e B=some (h s)))->jU g c e δ (l.map f)=some ((l.filter p).map h)
 |[],_=>rfl
 |s::r,hs=>by
  obtain⟨B,e1,e2,e3⟩:=hs s ao;have Z:=ao4 f p h r λx Y=>hs x (au _ Y)
  rw[aG,jU,e1,aF,e2,aF];by_cases c:p s=true
  .rw[if_pos c,e3 c,aF,Z,kE,if_pos c];rfl
  .rw[if_neg c,Z,kE,if_neg c]
theorem yC {g:FG}{e:FE}(f:α->D) (h:α->D):∀l:List α,(∀s∈l,∃B,g (f s) δ=some B/\c B=some true/\e B=some (h s))->jU g c e δ (l.map f)=some (l.map h)
 |[],_=>rfl
 |s::r,hs=>by
  obtain⟨B,e1,e2,e3⟩:=hs s ao;rw[aG,jU,e1,aF,e2,aF,if_pos rfl,e3,aF,yC f h r λx Z=>hs x (au _ Z)];rfl
theorem yD (f:α->D) (h:∀a,flat (f a)=true):∀l:List α,flats (l.map f)=true
 |[]=>rfl
 |a::r=>by rw[aG,flats,h,yD f h r];rfl
def sH(l:List Int):flats (l.map eP)=true:=yD _ (λ_=>rfl) l
def Xj : (iu 0 m).length=m.toNat:=by unfold iu;rw[aq,bQ,rO]
theorem TQ (h:k<=1000000) (h' : -(2^63)<=k):oY (.list [.int c]) (.int k)=some (.list ((aO k.toNat c).map eP)):=by
 show(if [eP c].length*k.toNat<=1000000/\-(2^63)<=k/\k<2^63 then some (f8 (aO k.toNat [eP c]).flatten)else none)=_;rw[if_pos ⟨by simp only[aX,h_];lia,h',by lia⟩];congr 2;generalize k.toNat=n
 induction n with
 |zero=>rfl
 |succ n Z=>rw[cD,eY,Z,cD,aG];rfl
def Yr (h:0<=k):cuD l (some k) none=l.drop k.toNat:=by
 unfold cuD;have e:pSx l.length 0 (some k)=min k.toNat l.length:=by
  show(if k<0 then _ else _)=_;rw[if_neg (by lia)]
 rw[e,show pSx l.length l.length none=l.length from rfl];by_cases c:k.toNat<=l.length
 .rw[show min k.toNat l.length=k.toNat by lia,eU (by rw[fO];lia)]
 .rw[show min k.toNat l.length=l.length by lia,rQ (by lia),rQ (by lia)];simp
def Ys (h:0<=k):cuD l none (some k)=l.take k.toNat:=by
 unfold cuD;have e:pSx l.length l.length (some k)=min k.toNat l.length:=by
  show(if k<0 then _ else _)=_;rw[if_neg (by lia)]
 rw[e,show pSx l.length 0 none=0 from rfl,dM,mH,List.take_eq_take_iff];lia
def isList:D3.isT "list" "list"=true:=rfl
mutual
theorem eqv_refl:∀d:D,d.canLay0=true->f7 d d=true
 | .none,_=>by simp[f7]
 | .bool b,_=>by simp[f7]
 | .int i,_=>by simp[f7]
 | .str x,_=>by simp[f7]
 | .list l,h=>by
  have:=eqvAll_refl l (by simpa[eR]using h);simpa[f7]using this
 | .tuple l,h=>by
  have:=eqvAll_refl l (by simpa[eR]using h);simpa[f7]using this
 | .dict l,h=>by simp[eR]at h
theorem eqvAll_refl:∀l:List D,fN l=true->hO l l=true
 |[],_=>by simp[hO]
 |d::r,h=>by
  rw[fN,aK]at h;rw[hO,eqv_refl d h.1,eqvAll_refl r h.2];rfl
end
def ly(n:Nat)(d:D):Prop:=d.canLay0=true/\d.depth<=n
def lys(n:Nat)(l:List D):Prop:=fN l=true/\gX l<=n
def qw (h:ly n d) (l:n<=m):ly m d:=⟨h.1,aV h.2 l⟩
def uM:lys n []:=⟨by simp[fN],by simp[gX]⟩
def jZ(h:ly n d)(q:lys n l):lys n (d::l):=
 ⟨by rw[fN,h.1,q.1];rfl,by have:=h.2;have:=q.2;simp only[gX];lia⟩
theorem sI (f:α->D) (h:∀a,ly n (f a)):∀l:List α,lys n (l.map f)
 |[]=>uM
 |a::r=>jZ (h a) (sI f h r)
def uN(h:lys n l):ly (n+1) (.list l):=⟨by simp[eR,h.1],by have:=h.2;simp only[gz];lia⟩
def Bw(h:lys n l):ly (n+1) (.tuple l):=⟨by simp[eR,h.1],by have:=h.2;simp only[gz];lia⟩
def sJ : ly (n+1) (.int c):=⟨rfl,by simp[gz]⟩
def uO(h:ly 60 d):fq d=true:=by
 unfold fq;rw[aK];exact⟨h.1,dTr (by have:=h.2;lia)⟩
def eq_self(h:ly 60 d):gEq d d=some (.bool true):=by
 unfold gEq;rw[uO h,eqv_refl d h.1];rfl
def ne_nil(h:ly 60 (.list l)):gNe (.list l) (.list [])=some (.bool (!l.isEmpty)):=by
 unfold gNe;rw[uO h,show fq (.list [])=true from rfl]
 cases l<;>simp[f7,hO]
end Com
namespace Com
open D3 My
noncomputable def q(t b:Int):Rat:=mkRat t b.toNat
end Com
namespace Com
open D3 My
def sm(k:Nat)(x:Int):Prop:=x.natAbs<2^k
end Com
namespace Com
open D3 My
def M_ (h:k<n):pIx n (k:Int)=some k:=by
 unfold pIx;rw[if_pos (by lia),if_pos (by lia)];rfl
structure Tb where
 N:Nat
 w:Nat->Int
 B:Int
def sumTo(f:Nat->Int):Nat->Int
 |0=>0
 |n+1=>sumTo f n+f n
structure TbOk(t:Tb)(k:Nat):Prop where
 B0:0<t.B
 Bs:sm (7*k+1) t.B
 w0:∀j,0<=t.w j
 wB:∀j,t.w j<=t.B
 wz:∀j,t.N<=j->t.w j=0
 N1:1<=t.N
 N4:t.N<=1+4*k
 sum:sumTo t.w t.N=t.B
end Com
namespace Com
open D3 My
end Com
namespace Com
open D3 My
def sm1(k:Nat) (h:c.natAbs<=1):sm (k+1) c:=by
 unfold sm;rw[Nat.pow_succ];have:=Nat.one_le_two_pow (n:=k);lia
structure bd(k:Nat)(a:Rat):Prop where
 n:sm k a.num
 d:sm k (a.den:Int)
end Com
namespace Com
open D3 My
def Bx {g:FG}{b:FS}(Inv:Nat->DS->Prop) {v:D}(n:Nat):∀(l:List D)(δ:DS),Inv 0 δ->n<l.length->(∀i d δ,i<n->l[i]? = some d->Inv i δ->∃B δ',g d δ=some B/\b B=some (.nx δ')/\Inv (i+1) δ') ->
 (∀d δ,l[n]? = some d->Inv n δ->∃B,g d δ=some B/\b B=some (.rt v))->iH g b l δ=some (.rt v):=by
 have V:∀(n:Nat)(l:List D)(k:Nat)(δ:DS),Inv k δ->n<l.length->(∀i d δ,i<n->l[i]? = some d->Inv (k+i) δ->∃B δ',g d δ=some B/\b B=some (.nx δ')/\Inv (k+i+1) δ') ->
  (∀d δ,l[n]? = some d->Inv (k+n) δ->∃B,g d δ=some B/\b B=some (.rt v))->iH g b l δ=some (.rt v):=by
  intro n
  induction n with
  |zero=>
   intro l k δ W hn _ X
   cases l with
   |nil=>simp at hn
   |cons d r=>
    obtain⟨B,e1,e2⟩:=X d δ rfl W;rw[iH,e1,aF,e2];rfl
  |succ n T=>
   intro l k δ W hn hs X
   cases l with
   |nil=>simp at hn
   |cons d r=>
    obtain⟨B,δ',e1,e2,e3⟩:=hs 0 d δ (by lia) rfl W;rw[iH,e1,aF,e2];refine T r (k+1) δ' e3 (by simpa using hn) (λi U Z hi hd Y=>?_) (λU Z hd Y=>X U Z (by simpa using hd) (by rwa[show k+(n+1)=k+1+n by lia]));have:=hs (i+1) U Z (by lia) (by simpa using hd) (by rwa[show k+(i+1)=k+1+i by lia]);rwa[show k+(i+1)+1=k+1+i+1 by lia]at this
 intro l δ W hn hs X;refine V n l 0 δ W hn (λi d δ hi hd Y=>?_) (λd δ hd Y=>X d δ hd (by rw[fG]at Y;exact Y));have:=hs i d δ hi hd (by rw[fG]at Y;exact Y);rwa[fG]
def nO (h:(iu 0 c)[i]? = some d):(i:Int)<c/\d = .int (i:Int):=by
 unfold iu at h;rw[aW]at h;by_cases Z:i<(c-0).toNat
 .rw[dU Z]at h
  cases h;refine⟨by lia,?_⟩;show eP (0+(i:Int))=_;rw[kj]
 .rw[bx (by simpa using Z)]at h
  cases h
end Com
namespace XS
open PySem.W
structure Weak(lt:Nat->Nat->Bool):Prop where
 irr:∀a,lt a a=false
 tr:∀a b c,lt a b=true->lt b c=true->lt a c=true
 nt:∀a b c,lt a c=true->lt a b=true\/lt b c=true
def Rk(lt:Nat->Nat->Bool)(a b:Nat):Prop:=lt a b=true\/(lt b a=false/\a<b)
section
variable{lt:Nat->Nat->Bool}{p:Array Nat}
theorem Weak.not(W:Weak lt) (h1:lt k m=false) (h2:lt m c=false):lt k c=false:=by
 cases q:lt k c with
 |false=>rfl
 |true=>
  rcases W.nt k m c q with z|z
  .rw[z]at h1;cases h1
  .rw[z]at h2;cases h2
def Rk.trans(W:Weak lt) {a:Nat}(h1:Rk lt a k) (h2:Rk lt k c):Rk lt a c:=by
 rcases h1 with h1|⟨h1,l1⟩
 .rcases h2 with h2|⟨h2,l2⟩
  .exact .inl (W.tr _ _ _ h1 h2)
  .rcases W.nt a c k h1 with z|z
   .exact .inl z
   .rw[z]at h2;cases h2
 .rcases h2 with h2|⟨h2,l2⟩
  .rcases W.nt k a c h2 with z|z
   .rw[z]at h1;cases h1
   .exact .inl z
  .exact .inr ⟨W.not h2 h1,by lia⟩
abbrev ga(p:Array Nat)(i:Nat):Nat:=p.getD i 0
def Asc(lt:Nat->Nat->Bool)(p:Array Nat)(m:Nat):Prop:=∀i j,i<j->j<m->Rk lt (ga p i) (ga p j)
structure Run(lt:Nat->Nat->Bool)(n:Nat)(p:Array Nat)(m:Nat):Prop where
 asc:Asc lt p m
 rest:∀k,m<=k->k<n->ga p k=k
 low:∀k,k<m->ga p k<m
def Run.snoc(W:Weak lt) (R:Run lt n p c) (h1:1<=c) (ha:c<n) (h:lt (ga p c) (ga p (c-1))=false):Run lt n p (c+1):=by
 have U:=R.rest c (aB _) ha;have X:=R.low (c-1) (by lia);have st:Rk lt (ga p (c-1)) (ga p c):=.inr ⟨h,by lia⟩;refine⟨λi j Z V=>?_,λk Y hn=>R.rest k (by lia) hn,λk Y=>?_⟩
 .by_cases z:j<c
  .exact R.asc i j Z z
  .have:j=c:=by lia
   subst this;by_cases y:i=j-1
   .rwa[y]
   .exact(R.asc i (j-1) (by lia) (by lia)).trans W st
 .by_cases z:k<c
  .have:=R.low k z;lia
  .have:k=c:=by lia
   subst this;lia
theorem KR(W:Weak lt):∀(f a:Nat),Run lt n p a->1<=a->a+f<=n->Run lt n p (dZ lt (cf p f a))/\a<=dZ lt (cf p f a)/\dZ lt (cf p f a)<=a+f/\(dZ lt (cf p f a)<a+f->lt (ga p (dZ lt (cf p f a))) (ga p (dZ lt (cf p f a)-1))=true)
 |0,a,R,h1,Y=>⟨R,aB _,aB _,λz=>by
  have z:a<a+0:=z;lia⟩
 |f+1,a,R,h1,Y=>by
  have e:dZ lt (cf p (f+1) a)=dZ lt (if lt (ga p a) (ga p (a-1))=true then .ret a else cf p f (a+1)):=rfl;rw[e];by_cases c:lt (ga p a) (ga p (a-1))=true
  .rw[if_pos c];exact⟨R,aB _,by show a<=a+(f+1);lia,λ_=>c⟩
  .rw[if_neg c];obtain⟨q1,q2,X,Z⟩:=KR W f (a+1) (R.snoc W h1 (by lia) (by simpa using c)) (by lia) (by lia);exact⟨q1,by lia,by lia,λz=>Z (by lia)⟩
theorem BJ(W:Weak lt) (R:Run lt n p k):∀(f l r:Nat),l<=r->r<=k->r-l<=f->(∀i,i<l->lt (ga p k) (ga p i)=false)->(∀i,r<=i->i<k->lt (ga p k) (ga p i)=true) ->
 dZ lt (bg p k f l r)<=k/\(∀i,i<dZ lt (bg p k f l r)->lt (ga p k) (ga p i)=false)/\(∀i,dZ lt (bg p k f l r)<=i->i<k->lt (ga p k) (ga p i)=true)
 |0,l,r,h1,h2,T,Y,Z=>by
  have:l=r:=by lia
  subst this;exact⟨h2,Y,Z⟩
 |f+1,l,r,h1,h2,T,Y,Z=>by
  by_cases z:l≥r
  .have:l=r:=by lia
   subst this;have e:bg p k (f+1) l l = .ret l:=by unfold bg;rw[if_pos z]
   rw[e];exact⟨h2,Y,Z⟩
  .have e:dZ lt (bg p k (f+1) l r)=dZ lt (if lt (ga p k) (ga p ((l+r)/2))=true then bg p k f l ((l+r)/2)else bg p k f ((l+r)/2+1) r):=by
    conv=>lhs;unfold bg
    rw[if_neg z];rfl
   rw[e];have V:l<=(l+r)/2:=by lia
   by_cases c:lt (ga p k) (ga p ((l+r)/2))=true
   .rw[if_pos c];refine BJ W R f l ((l+r)/2) V (by lia) (by lia) Y λi hi U=>?_
    by_cases y:i=(l+r)/2
    .rwa[y]
    .rcases R.asc ((l+r)/2) i (by lia) U with q|⟨q,_⟩
     .exact W.tr _ _ _ c q
     .rcases W.nt _ (ga p i) _ c with w|w
      .exact w
      .rw[w]at q;cases q
   .rw[if_neg c];have c:lt (ga p k) (ga p ((l+r)/2))=false:=by simpa using c
    refine BJ W R f ((l+r)/2+1) r (by lia) h2 (by lia) (λi hi=>?_) Z;by_cases y:i=(l+r)/2
    .rwa[y]
    .cases q:lt (ga p k) (ga p i)with
     |false=>rfl
     |true=>
      rcases R.asc i ((l+r)/2) (by lia) (by lia)with w|⟨w,_⟩
      .rw[W.tr _ _ _ q w]at c;cases c
      .rcases W.nt _ (ga p ((l+r)/2)) _ q with X|X
       .rw[X]at c;cases c
       .rw[X]at w;cases w
def ad0 (B:k<p.size) (D:c<=k) (i:Nat):ga (bubble p k (k-c)) i=if i=c then ga p k else if c<i/\i<=k then ga p (i-1)else ga p i:=by
 have e:=eh B (k-c) (by lia) i;rw[show k-(k-c)=c by lia]at e;have g:∀(q:Array Nat)(i:Nat),ga q i=(q[i]?).getD 0:=λq i=>by simp[ga,iz]
 rw[g,e,g p k,g p (i-1),g p i];by_cases Y:i=c
 .rw[if_pos Y,if_pos Y]
 .rw[if_neg Y,if_neg Y];by_cases Z:c<i/\i<=k
  .rw[if_pos Z,if_pos Z]
  .rw[if_neg Z,if_neg Z]
def TX(W:Weak lt)(hs:p.size=n) (R:Run lt n p k) (J:k<n) (D:c<=k) (h1:∀i,i<c->lt (ga p k) (ga p i)=false) (h2:∀i,c<=i->i<k->lt (ga p k) (ga p i)=true):Run lt n (bubble p k (k-c)) (k+1):=by
 have T:=R.rest k (aB _) J;have B:=ad0 (p:=p) (k:=k) (by lia) D;refine⟨λi j Z S=>?_,λm hm hn=>?_,λm hm=>?_⟩
 .rw[B,B];by_cases U:i=c
  .rw[if_pos U,if_neg (by lia),if_pos (by lia)];exact .inl (h2 (j-1) (by lia) (by lia))
  .rw[if_neg U];by_cases V:j=c
   .rw[if_pos V,if_neg (by lia)];exact .inr ⟨h1 i (by lia),by rw[T];exact R.low i (by lia)⟩
   .rw[if_neg V];by_cases X:c<i/\i<=k
    .rw[if_pos X,if_pos (by lia)];exact R.asc _ _ (by lia) (by lia)
    .rw[if_neg X];by_cases Y:c<j/\j<=k
     .rw[if_pos Y];exact R.asc _ _ (by lia) (by lia)
     .rw[if_neg Y];exact R.asc _ _ Z (by lia)
 .rw[B,if_neg (by lia),if_neg (by lia)];exact R.rest m (by lia) hn
 .rw[B];split
  .lia
  .split
   .have:=R.low (m-1) (by lia);lia
   .have:=R.low m (by lia);lia
theorem TY(W:Weak lt):∀(f:Nat)(p:Array Nat)(k:Nat),p.size=n->Run lt n p k->k+f=n->Run lt n (dZ lt (kas_bin f p k)) n
 |0,p,k,hs,R,h=>by
  have:k=n:=by lia
  subst this;exact R
 |f+1,p,k,hs,R,h=>by
  have e:dZ lt (kas_bin (f+1) p k)=dZ lt (kas_bin f (bubble p k (k-dZ lt (bg p k k 0 k))) (k+1)):=pq _ _;rw[e];obtain⟨q1,q2,Z⟩:=BJ W R k 0 k (cg _) (aB _) (by lia) (λi hi=>by lia) (λi h1 h2=>by lia);exact TY W f _ (k+1) (by rwa[bubble_size]) (TX W hs R (by lia) q1 q2 Z) (by lia)
end
end XS
namespace XS
open PySem.W
section
variable{lt:Nat->Nat->Bool}{p p':Array Nat}{a q:Nat}
def Rk.nr(W:Weak lt) (h:Rk lt c k):lt k c=false:=by
 rcases h with h|⟨h,_⟩
 .cases z:lt k c with
  |false=>rfl
  |true=>have:=W.tr _ _ _ h z;rw[W.irr]at this;cases this
 .exact h
def KY(B:j<=p.size)(k:Nat):ga (bn p i j) k=if i<=k/\k<j then ga p (i+j-1-k)else ga p k:=by
 have e:=c9 (i:=i) B k;have g:∀(q:Array Nat)(i:Nat),ga q i=(q[i]?).getD 0:=λq i=>by simp[ga,iz]
 rw[g,g p (i+j-1-k),g p k];unfold bn;rw[e];by_cases c:i<=k/\k<j
 .rw[if_pos c,if_pos c]
 .rw[if_neg c,if_neg c]
def BK(i j:Nat):(bn p i j).size=p.size:=mirror_size _ _ _ _
structure Dn(lt:Nat->Nat->Bool)(n:Nat)(p:Array Nat)(a q:Nat):Prop where
 le:q+1<=a
 desc:∀i j,i<j->j<a-(q+1)->Rk lt (ga p j) (ga p i)
 strict:∀i j,i<a-(q+1)->a-(q+1)<=j->j<a->lt (ga p j) (ga p i)=true
 run:∀i j,a-(q+1)<=i->i<j->j<a->lt (ga p i) (ga p j)=false/\lt (ga p j) (ga p i)=false/\ga p i<ga p j
 rest:∀k,a<=k->k<n->ga p k=k
 low:∀k,k<a->ga p k<a
structure Desc(lt:Nat->Nat->Bool)(n:Nat)(p:Array Nat)(a:Nat):Prop where
 desc:∀i j,i<j->j<a->Rk lt (ga p j) (ga p i)
 rest:∀k,a<=k->k<n->ga p k=k
 low:∀k,k<a->ga p k<a
def Dn.turn(D:Dn lt n p a q)(h:∀k,ga p' k=if a-(q+1)<=k/\k<a then ga p (a-(q+1)+a-1-k)else ga p k):Desc lt n p' a:=by
 refine⟨λi j Y X=>?_,λk Z hn=>?_,λk Z=>?_⟩
 .by_cases c:j<a-(q+1)
  .rw[h,h,if_neg (by lia),if_neg (by lia)];exact D.desc i j Y c
  .rw[h j,if_pos (by lia),h i];by_cases e:i<a-(q+1)
   .rw[if_neg (by lia)];exact .inl (D.strict _ _ e (by lia) (by lia))
   .rw[if_pos (by lia)];obtain⟨x,y,z⟩:=D.run (a-(q+1)+a-1-j) (a-(q+1)+a-1-i) (by lia) (by lia) (by lia);exact .inr ⟨y,z⟩
 .rw[h,if_neg (by lia)];exact D.rest k Z hn
 .rw[h];split
  .exact D.low _ (by lia)
  .exact D.low _ Z
def Desc.up(D:Desc lt n p a)(ha:a<n)(h:∀i,i<a->lt (ga p a) (ga p i)=true):Dn lt n p (a+1) 0:=by
 refine⟨by lia,λi j Z X=>D.desc i j Z (by lia),λi j hi h1 h2=>?_,λi j h1 h2 W=>by lia,λk Y hn=>D.rest k (by lia) hn,λk Y=>?_⟩
 .have:j=a:=by lia
  subst this;exact h i (by lia)
 .by_cases z:k<a
  .have:=D.low k z;lia
  .have:k=a:=by lia
   subst this;rw[D.rest k (aB _) ha];lia
def turned(p:Array Nat)(a q:Nat):Array Nat:=if q>0 then bn p (a-(q+1)) a else p
def uP(hs:p.size=n)(ha:a<=n)(l:q+1<=a)(k:Nat):ga (turned p a q) k=if a-(q+1)<=k/\k<a then ga p (a-(q+1)+a-1-k)else ga p k:=by
 unfold turned;by_cases c:q>0
 .rw[if_pos c];exact KY (by lia) k
 .rw[if_neg c];by_cases e:a-(q+1)<=k/\k<a
  .rw[if_pos e,show a-(q+1)+a-1-k=k by lia]
  .rw[if_neg e]
def yU:(turned p a q).size=p.size:=by
 unfold turned;split
 .exact BK _ _
 .rfl
def Dn.below(W:Weak lt)(D:Dn lt n p a q)(hs:p.size=n)(ha:a<n)(h:lt (ga p a) (ga p (a-1))=true)(i:Nat)(hi:i<a):lt (ga (turned p a q) a) (ga (turned p a q) i)=true:=by
 have l:=D.le;have all:∀i,i<a->lt (ga p a) (ga p i)=true:=λi hi=>by
  by_cases c:i<a-(q+1)
  .exact W.tr _ _ _ h (D.strict i (a-1) c (by lia) (by lia))
  .by_cases e:i=a-1
   .rwa[e]
   .rcases W.nt _ (ga p i) _ h with w|w
    .exact w
    .rw[(D.run i (a-1) (by lia) (by lia) (by lia)).1]at w;cases w
 rw[uP hs (by lia) l,if_neg (by lia),uP hs (by lia) l];split
 .exact all _ (by lia)
 .exact all _ hi
def Dn.same(W:Weak lt)(D:Dn lt n p a q)(ha:a<n)(h1:lt (ga p a) (ga p (a-1))=false)(h2:lt (ga p (a-1)) (ga p a)=false):Dn lt n p (a+1) (q+1):=by
 have l:=D.le;have U:=D.rest a (aB _) ha;refine⟨by lia,λi j Z V=>D.desc i j Z (by lia),λi j hi q1 q2=>?_,λi j q1 q2 X=>?_,λk Y hn=>D.rest k (by lia) hn,λk Y=>?_⟩
 .by_cases z:j<a
  .exact D.strict i j (by lia) (by lia) z
  .have:j=a:=by lia
   subst this;rcases W.nt _ (ga p j) _ (D.strict i (j-1) (by lia) (by lia) (by lia))with w|w
   .rw[w]at h2;cases h2
   .exact w
 .by_cases z:j<a
  .exact D.run i j (by lia) q2 z
  .have:j=a:=by lia
   subst this;have lo:=D.low i (by lia);by_cases e:i=j-1
   .subst e;exact⟨h2,h1,by lia⟩
   .obtain⟨x,y,_⟩:=D.run i (j-1) (by lia) (by lia) (by lia);exact⟨W.not x h2,W.not h1 y,by lia⟩
 .by_cases z:k<a
  .have:=D.low k z;lia
  .have:k=a:=by lia
   subst this;lia
theorem Gj(W:Weak lt):∀(f:Nat)(p:Array Nat)(a q:Nat),p.size=n->Dn lt n p a q->a+f<=n ->
 (dZ lt (a7 f p a q)).1.size=n/\Dn lt n (dZ lt (a7 f p a q)).1 (dZ lt (a7 f p a q)).2.1 (dZ lt (a7 f p a q)).2.2/\(dZ lt (a7 f p a q)).2.1<=n
 |0,p,a,q,hs,D,h=>⟨hs,D,h⟩
 |f+1,p,a,q,hs,D,h=>by
  have e:dZ lt (a7 (f+1) p a q)=dZ lt (if lt (ga p a) (ga p (a-1))=true then(if q>0 then a7 f (bn p (a-(q+1)) a) (a+1) 0 else a7 f p (a+1) 0)else .ask (ga p (a-1)) (ga p a) λd=>if d=true then .ret (p,a,q)else a7 f p (a+1) (q+1)):=rfl;rw[e];by_cases c:lt (ga p a) (ga p (a-1))=true
  .rw[if_pos c];have e2:(if q>0 then a7 f (bn p (a-(q+1)) a) (a+1) 0 else a7 f p (a+1) 0)=a7 f (turned p a q) (a+1) 0:=by
    unfold turned;split<;>rfl
   rw[e2];exact Gj W f (turned p a q) (a+1) 0 (by rwa[yU]) ((D.turn (uP hs (by lia) D.le)).up (by lia) (D.below W hs (by lia) c)) (by lia)
  .rw[if_neg c];have e3:dZ lt (.ask (ga p (a-1)) (ga p a) λd=>if d=true then .ret (p,a,q)else a7 f p (a+1) (q+1))=dZ lt (if lt (ga p (a-1)) (ga p a)=true then .ret (p,a,q)else a7 f p (a+1) (q+1)):=rfl;rw[e3];by_cases d:lt (ga p (a-1)) (ga p a)=true
   .rw[if_pos d];exact⟨hs,D,by show a<=n;lia⟩
   .rw[if_neg d];exact Gj W f p (a+1) (q+1) hs (D.same W (by lia) (by simpa using c) (by simpa using d)) (by lia)
def Xk(W:Weak lt)(hs:p.size=n)(D:Desc lt n p a)(h1:1<=a)(ha:a<=n):
 (dZ lt (b9 a n p)).2.size=n/\Run lt n (dZ lt (b9 a n p)).2 (dZ lt (b9 a n p)).1/\1<=(dZ lt (b9 a n p)).1/\(dZ lt (b9 a n p)).1<=n:=by
 have e:dZ lt (b9 a n p)=(dZ lt (cf (bn p 0 a) (n-a) a),bn p 0 a):=pq _ _;rw[e];have B:=KY (p:=p) (i:=0) (j:=a) (by lia);have R:Run lt n (bn p 0 a) a:=by
  refine⟨λi j Y V=>?_,λk Z hn=>?_,λk Z=>?_⟩
  .rw[B,B,if_pos (by lia),if_pos (by lia)];exact D.desc _ _ (by lia) (by lia)
  .rw[B,if_neg (by lia)];exact D.rest k Z hn
  .rw[B,if_pos (by lia)];exact D.low _ (by lia)
 obtain⟨q1,q2,X,_⟩:=KR W (n-a) a R h1 (by lia);exact⟨by rwa[BK],q1,by show 1<=dZ lt _;lia,by show dZ lt _<=n;lia⟩
def Nb(W:Weak lt)(hs:p.size=n)(D:Dn lt n p (a+1) 0)(ha:a<n):
 (dZ lt (aE a n p)).2.size=n/\Run lt n (dZ lt (aE a n p)).2 (dZ lt (aE a n p)).1/\1<=(dZ lt (aE a n p)).1/\(dZ lt (aE a n p)).1<=n:=by
 obtain⟨q1,q2,Z⟩:=Gj W (n-(a+1)) p (a+1) 0 hs D (by lia);have e:dZ lt (aE a n p)=dZ lt (b9 (dZ lt (a7 (n-(a+1)) p (a+1) 0)).2.1 n (turned (dZ lt (a7 (n-(a+1)) p (a+1) 0)).1 (dZ lt (a7 (n-(a+1)) p (a+1) 0)).2.1 (dZ lt (a7 (n-(a+1)) p (a+1) 0)).2.2)):=by
  refine(pq _ _).trans ?_;unfold turned;split<;>rfl
 rw[e];have l:=q2.le;exact Xk W (by rwa[yU]) (q2.turn (uP q1 Z l)) (by lia) Z
def T3(W:Weak lt)(hs:p.size=n)(hn:1<=n)(R:Run lt n p 1):
 (dZ lt (ca n p)).2.size=n/\Run lt n (dZ lt (ca n p)).2 (dZ lt (ca n p)).1/\1<=(dZ lt (ca n p)).1/\(dZ lt (ca n p)).1<=n:=by
 obtain⟨q1,q2,X,Z⟩:=KR W (n-1) 1 R (aB _) (by lia);have e:dZ lt (ca n p)=_:=pq _ _;rw[e];generalize dZ lt (cf p (n-1) 1)=m at q1 q2 X Z ⊢;by_cases c:(m==n)=true
 .rw[if_pos c];exact⟨hs,q1,q2,by show m<=n;lia⟩
 .rw[if_neg c];have c:m<n:=by
   have:¬m=n:=by simpa using c
   lia
  have U:=Z (by lia);have st:∀p',(∀k,ga p' k=if 0<=k/\k<m then ga p (0+m-1-k)else ga p k)->lt (ga p 0) (ga p (m-1))=false->Dn lt n p' (m+1) 0:=λp' B z=>by
   have D:Desc lt n p' m:=by
    refine⟨λi j V T=>?_,λk Y hn=>?_,λk Y=>?_⟩
    .rw[B,B,if_pos (by lia),if_pos (by lia)];exact q1.asc _ _ (by lia) (by lia)
    .rw[B,if_neg (by lia)];exact q1.rest k Y hn
    .rw[B,if_pos (by lia)];exact q1.low _ (by lia)
   have all:∀i,i<m->lt (ga p m) (ga p i)=true:=λi hi=>by
    rcases W.nt _ (ga p i) _ U with w|w
    .exact w
    .by_cases y:i=0
     .subst y;rw[z]at w;cases w
     .rcases W.nt _ (ga p 0) _ w with v|v
      .rw[(q1.asc 0 i (by lia) hi).nr W]at v;cases v
      .rw[z]at v;cases v
   refine D.up c λi hi=>?_
   rw[B,if_neg (by lia),B,if_pos (by lia)];exact all _ (by lia)
  by_cases g:m>1
  .rw[if_pos g];show _/\Run lt n (dZ lt (if lt (ga p 0) (ga p (m-1))=true then .ret (m,p)else aE m n (bn p 0 m))).2 (dZ lt (if lt (ga p 0) (ga p (m-1))=true then .ret (m,p)else aE m n (bn p 0 m))).1/\_;by_cases z:lt (ga p 0) (ga p (m-1))=true
   .have e:dZ lt (.ask (ga p 0) (ga p (m-1)) λc=>if c=true then .ret (m,p)else aE m n (bn p 0 m))=(m,p):=by
     show dZ lt (if lt (ga p 0) (ga p (m-1))=true then .ret (m,p)else aE m n (bn p 0 m))=_;rw[if_pos z];rfl
    rw[e,if_pos z];exact⟨hs,q1,q2,by show m<=n;lia⟩
   .have e:dZ lt (.ask (ga p 0) (ga p (m-1)) λc=>if c=true then .ret (m,p)else aE m n (bn p 0 m))=dZ lt (aE m n (bn p 0 m)):=by
     show dZ lt (if lt (ga p 0) (ga p (m-1))=true then .ret (m,p)else aE m n (bn p 0 m))=_;rw[if_neg z]
    rw[e,if_neg z];exact Nb W (by rwa[BK]) (st _ (KY (by lia)) (by simpa using z)) c
  .rw[if_neg g];have:m=1:=by lia
   subst this;refine Nb W hs (st p (λk=>?_) (W.irr _)) c;split
   .rw[show 0+1-1-k=k by lia]
   .rfl
def Xl(W:Weak lt)(hn:1<=n):Run lt n (dZ lt (cE n)) n:=by
 have Y:∀k,k<n->ga (jB (aN n)) k=k:=λk Z=>by
  simp[ga,iz,Z]
 obtain⟨q1,q2,V,X⟩:=T3 (p:=jB (aN n)) W (by simp) hn ⟨λi j h1 h2=>by lia,λk Z h=>Y k h,λk Z=>by rwa[Y k (by lia)]⟩;have e:dZ lt (cE n)=_:=pq _ _;rw[e];generalize dZ lt (ca n (jB (aN n)))=r at q1 q2 V X ⊢;by_cases c:r.1<n
 .rw[if_pos c,show max r.1 1=r.1 by lia];exact TY W _ _ _ q1 q2 (by lia)
 .rw[if_neg c];have:r.1=n:=by lia
  rw[<-this];rwa[<-this]at q2
def sO(W:Weak lt)(hn:1<=n):(oJ n lt).Pairwise (Rk lt):=by
 have R:=Xl W hn;have z:(oJ n lt).length=n:=by
  have:=(jt (n:=n) (by lia) lt).length_eq;simpa using this
 rw[dF];intro i j hi Y Z;have:=R.asc i j Z (by lia);have g:∀k (h:k<(oJ n lt).length),ga (dZ lt (cE n)) k=(oJ n lt)[k]:=λk h=>by
  unfold oJ at h ⊢;have h':k<(dZ lt (cE n)).size:=by simpa using h
  simp[ga,iz,h']
 rwa[g i hi,g j Y]at this
end
end XS
namespace XS
def T4{k:Nat->Int×Int}:Weak λi j=>Cz (k i) (k j):=by
 refine⟨λa=>?_,λa b c h1 h2=>?_,λa b c h=>?_⟩
 .simp[Cz]
 .revert h1 h2;simp only[Cz];generalize (k a).1=U;generalize (k a).2=V;generalize (k b).1=W;generalize (k b).2=X;generalize (k c).1=Y;generalize (k c).2=Z;split<;>split<;>split<;>simp only[decide_eq_true_eq]<;>lia
 .revert h;simp only[Cz];generalize (k a).1=U;generalize (k a).2=V;generalize (k b).1=W;generalize (k b).2=X;generalize (k c).1=Y;generalize (k c).2=Z;split<;>split<;>split<;>simp only[decide_eq_true_eq]<;>lia
def T5(B:List (Int×Int)):Weak (ltP B):=T4 (k:=λi=>B.getD i (0,0))
def xG{k:Nat->Int}:Weak λi j=>decide (k i<k j):=by
 refine⟨λa=>?_,λa b c h1 h2=>?_,λa b c h=>?_⟩
 .simp
 .simp only[decide_eq_true_eq]at *;lia
 .simp only[decide_eq_true_eq]at *;lia
def Py (W:Weak c):∀{l m:List Nat},l.Perm m->l.Pairwise (Rk c)->m.Pairwise (Rk c)->l=m:=by
 intro l m h h1 h2;refine List.Perm.eq_of_pairwise (le:=Rk c) (λa b _ _ x y=>?_) h1 h2 h;have n1:=x.nr W;have n2:=y.nr W;rcases x with x|⟨_,x⟩
 .rw[x]at n2;cases n2
 .rcases y with y|⟨_,y⟩
  .rw[y]at n1;cases n1
  .lia
def BL (W:Weak c) (hn:1<=n) (h:m.Perm (aN n)) (h2:m.Pairwise (Rk c)):oJ n c=m:=
 Py W ((jt (by lia) c).trans h.symm) (sO W hn) h2
end XS
namespace Com
open D3 My XS
def ao5{k:Nat->Int}(h:Rk (λi j=>decide (k i<k j)) i j):k i<=k j:=by
 rcases h with z|⟨z,_⟩
 .have z:=of_decide_eq_true z;lia
 .have z:=of_decide_eq_false z;lia
end Com
namespace Com
open D3 My
def r6(x:Int):Prop:=0<=x/\x<1000000
abbrev Wi:=Int×Int×Int
def wiD(w:Wi):D:=.tuple [.int w.1,.int w.2.1,.int w.2.2]
end Com
variable{gs:List Com.Wi}
namespace Com
open D3 My
def ou (f:α->D) {l:List α} (x:α) {i:Int} (B:0<=i) (h1:i<l.length):pAt (l.map f) i=some (f (l.getD i.toNat x)):=by
 have Z:i.toNat<l.length:=by lia
 obtain⟨k,rfl⟩:∃k:Nat,i=(k:Int):=⟨i.toNat,by lia⟩;rw[Gg,aW,aD];simp only[fY]at Z ⊢;rw[aA Z];rfl
end Com
namespace Com
open D3 My
def Pz(fs:List Int):tE (fs.map .int)=(aN fs.length).map λk:Nat=>eT [.int (k:Int),.int (fs.getD k 0)]:=by
 unfold tE;apply dY;intro i;rw[fQ,aW,aW];by_cases h:i<fs.length
 .have e:fs.getD i 0=fs[i]:=by rw[aD,aA h];rfl
  rw[dU h,aA h,jG,jG,jG,e]
 .rw[bx (by simpa using h),bx (by simpa using h)];rfl
end Com
namespace Com
open D3 My
theorem xH(P:Nat->Bool):∀n,(∃m,m<n/\P m=true/\∀i,i<m->P i=false)\/∀i,i<n->P i=false
 |0=>.inr λi h=>by lia
 |n+1=>by
  rcases xH P n with⟨m,h1,h2,Z⟩|h
  .exact .inl ⟨m,by lia,h2,Z⟩
  .cases c:P n with
   |true=>exact .inl ⟨n,by lia,c,h⟩
   |false=>
    refine .inr λi hi=>?_
    by_cases e:i=n
    .rwa[e]
    .exact h i (by lia)
end Com
namespace Sd
abbrev Gp:=Int×Int×Nat
abbrev Pl:=Gp×Nat
def gok(g:Gp):Prop:=0<=g.1/\g.1<g.2.1/\1<=g.2.2
def inn(p:Pl)(r:Nat):Prop:=p.2<=r/\r<p.2+p.1.2.2
def fits(row:List Int)(g:Gp)(s:Nat):Prop:=s+g.2.2<=row.length/\∀r,s<=r->r<s+g.2.2->row.getD r 0<=g.1
noncomputable def cell(g:Gp)(s r:Nat)(e:Int):Int:=if s<=r/\r<s+g.2.2 then g.2.1 else if e<=g.1 then 0 else e
def put(row:List Int)(g:Gp)(s:Nat):List Int:=row.mapIdx (cell g s)
def zU(row:List Int)(g:Gp)(s:Nat):(put row g s).length=row.length:=by unfold put;rw[List.length_mapIdx]
def Xm (h:k<row.length):(put row c s).getD k 0=cell c s k (row.getD k 0):=by
 unfold put;rw[aD,fQ,aD,aA h];rfl
def Run:List Int->List Pl->List Int->Prop
 |row,[],out=>out=row
 |row,p::ps,out=>fits row p.1 p.2/\Run (put row p.1 p.2) ps out
def Jv(held:List Int)(done:List Pl)(row:List Int):Prop:=row.length=held.length/\∀r,r<held.length->∀x:Int,0<=x->(∀p∈done,p.1.1<=x) ->
 (row.getD r 0<=x<->held.getD r 0<=x/\∀p∈done,inn p r->p.1.2.1<=x)
def Jv.nil(held:List Int):Jv held [] held:=⟨rfl,λr _ x _ _=>⟨λh=>⟨h,λp Z=>by cases Z⟩,λh=>h.1⟩⟩
def Jv.step {done:List Pl}(h:Jv held done row) (ok:gok m.1) (asc:∀q∈done,q.1.1<=m.1.1) (ft:fits row m.1 m.2):Jv held (done++[m]) (put row m.1 m.2):=by
 obtain⟨U,W⟩:=h;obtain⟨V,S,_⟩:=ok;refine⟨(zU _ _ _).trans U,λr X x x0 Y=>?_⟩;have T:m.1.1<=x:=Y m (bw _ (aL.mpr rfl));have xd:=λq Z=>Y q (bO _ Z)
 have j1:=W r X x x0 xd;rw[Xm (by lia)];have all:(∀q∈done++[m],inn q r->q.1.2.1<=x)<->(∀q∈done,inn q r->q.1.2.1<=x)/\(inn m r->m.1.2.1<=x):=by
  constructor
  .exact λz=>⟨λq Z=>z q (bO _ Z),z m (bw _ (aL.mpr rfl))⟩
  .rintro⟨z1,z2⟩ q Z;rcases bW.mp Z with k|k
   .exact z1 q k
   .rwa[aL.mp k]
 rw[all];unfold cell;by_cases c:m.2<=r/\r<m.2+m.1.2.2
 .rw[if_pos c];have f1:=ft.2 r c.1 c.2;have j2:=(W r X m.1.1 V asc).mp f1
  constructor
  .exact λz=>⟨by have:=j2.1;lia,λq Z hi=>by have:=j2.2 q Z hi;lia,λ_=>z⟩
  .exact λz=>z.2.2 c
 .rw[if_neg c];have e:((if row.getD r 0<=m.1.1 then 0 else row.getD r 0)<=x)<->row.getD r 0<=x:=by split<;>lia
  rw[e,j1];exact⟨λz=>⟨z.1,z.2,λy=>absurd y c⟩,λz=>⟨z.1,z.2.1⟩⟩
def apart(p q:Pl):Prop:=p.1.2.1<=q.1.1\/q.1.2.1<=p.1.1\/p.2+p.1.2.2<=q.2\/q.2+q.1.2.2<=p.2
def home(held:List Int)(p:Pl):Prop:=fits held p.1 p.2
def T6 (h:Jv held c row) (ok:gok m.1) (B:∀q∈c,gok q.1/\q.1.1<=m.1.1) (hd:∀q∈c,q.2+q.1.2.2<=held.length) :
 fits row m.1 m.2<->home held m/\∀q∈c,apart q m:=by
 obtain⟨U,T⟩:=h;have j:=λr W=>T r W m.1.1 ok.1 λq Z=>(B q Z).2
 unfold home fits;rw[U]
 constructor
 .rintro⟨f1,f2⟩;refine⟨⟨f1,λr X Y=>((j r (by lia)).mp (f2 r X Y)).1⟩,λq Z=>?_⟩;unfold apart;apply ip;intro Q;have s1:=ok.2.2;have s2:=(B q Z).1.2.2;by_cases k:q.2<=m.2
  .have:=((j m.2 (by lia)).mp (f2 m.2 (aB _) (by lia))).2 q Z ⟨k,by lia⟩;lia
  .have V:=hd q Z;have:=((j q.2 (by lia)).mp (f2 q.2 (by lia) (by lia))).2 q Z ⟨aB _,by lia⟩;lia
 .rintro⟨⟨f1,f2⟩,S⟩;refine⟨f1,λr X Y=>(j r (by lia)).mpr ⟨f2 r X Y,λq Z hi=>?_⟩⟩;have a:=S q Z;have o:=B q Z;have R:=ok.2.1;unfold apart at a;unfold inn at hi;lia
def Sit(held:List Int)(ps:List Pl):Prop:=(∀p∈ps,home held p)/\ps.Pairwise apart
theorem vO : ∀{ps done:List Pl}{row:List Int},Jv held done row->(∀p∈done,home held p)->(∀p∈done++ps,gok p.1)->(done++ps).Pairwise (λp q=>p.1.1<=q.1.1) ->
 ((∃out,Run row ps out/\Jv held (done++ps) out)<->(∀p∈ps,home held p)/\(∀q∈done,∀p∈ps,apart q p)/\ps.Pairwise apart)
 |[],done,row,j,_,_,_=>by
  constructor
  .exact λ_=>⟨λp U=>(by cases U),λq _ p U=>(by cases U),.nil⟩
  .exact λ_=>⟨row,rfl,by rwa[cI]⟩
 |p::ps,done,row,j,hd,ok,asc=>by
  have Y:=ok p (bw _ ao);have T:=λq Z=>(aH.mp asc).2.2 q Z p ao
  have fi:=T6 j Y (λq Z=>⟨ok q (bO _ Z),T q Z⟩) (λq Z=>(hd q Z).1);have e:done++p::ps=(done++[p])++ps:=by rw[aP];rfl
  constructor
  .rintro⟨out,⟨f,r⟩,V⟩;obtain⟨f1,f2⟩:=fi.mp f;have W:=(vO (ps:=ps) (done:=done++[p]) (j.step Y T f) (λq Z=>by
    rcases bW.mp Z with k|k
    .exact hd q k
    .rwa[aL.mp k]) (e▸ok) (e▸asc)).mp ⟨out,r,e▸V⟩
   refine⟨λq Z=>?_,λq Z x X=>?_,bI.mpr ⟨λx X=>W.2.1 p (bw _ (aL.mpr rfl)) x X,W.2.2⟩⟩
   .rcases aJ.mp Z with rfl|k
    .exact f1
    .exact W.1 q k
   .rcases aJ.mp X with rfl|k
    .exact f2 q Z
    .exact W.2.1 q (bO _ Z) x k
  .rintro⟨h1,h2,Q⟩;obtain⟨R,S⟩:=bI.mp Q;have f:=fi.mpr ⟨h1 p ao,λq Z=>h2 q Z p ao⟩;obtain⟨out,r,V⟩:=(vO (ps:=ps) (done:=done++[p]) (j.step Y T f) (λq Z=>by
    rcases bW.mp Z with k|k
    .exact hd q k
    .rw[aL.mp k];exact h1 p ao) (e▸ok) (e▸asc)).mpr ⟨λq Z=>h1 q (au _ Z),λq Z x X=>by
     rcases bW.mp Z with k|k
     .exact h2 q k x (au _ X)
     .rw[aL.mp k];exact R x X,S⟩
   exact⟨out,⟨f,r⟩,e▸V⟩
def Nf {ps:List Pl}(ok:∀p∈ps,gok p.1) (asc:ps.Pairwise λp q=>p.1.1<=q.1.1):(∃out,Run held ps out)<->Sit held ps:=by
 have h:=vO (ps:=ps) (done:=[]) (Jv.nil held) (λp V=>by cases V) (by rwa[dI]) (by rwa[dI])
 constructor
 .rintro⟨out,r⟩;have X:Jv held ([]++ps) out:=by
   have go:∀{ps done:List Pl}{row out:List Int},Jv held done row->(∀p∈done++ps,gok p.1)->(done++ps).Pairwise (λp q=>p.1.1<=q.1.1)->Run row ps out->Jv held (done++ps) out:=by
    intro ps
    induction ps with
    |nil=>
     intro done row out j _ _ r;have:out=row:=r;rwa[cI,this]
    |cons p ps W=>
     intro done row out j ok asc r;have e:done++p::ps=(done++[p])++ps:=by rw[aP];rfl
     have U:=λq Z=>(aH.mp asc).2.2 q Z p ao
     rw[e];exact W (j.step (ok p (bw _ ao)) U r.1) (e▸ok) (e▸asc) r.2
   exact go (Jv.nil held) (by rwa[dI]) (by rwa[dI]) r
  obtain⟨h1,_,Y⟩:=h.mp ⟨out,r,X⟩;exact⟨h1,Y⟩
 .rintro⟨h1,Y⟩;obtain⟨out,r,_⟩:=h.mpr ⟨h1,(λq Z=>by cases Z),Y⟩;exact⟨out,r⟩
end Sd
namespace K76
open D3
abbrev ig:List D->Option D:=Com.ig
abbrev gh:List D->Option D:=Com.gh
def j8:List D->Option D:=fnD 1 0 (dj (dCall Am (ak (mO (HB (aj 0)) (gNl 0) (lu) (dCall ig (ak (aj 0) (aM))) 1 []) (aM))))
def fV:List D->Option D:=fnD 2 0 (dj (xU (dUn (gIs "tuple") (aj 0)) (xU (dOp gEq (dCall iQ (ak (aj 0) (aM))) (aj 1)) (dCall j8 (ak (aj 0) (aM))))))
def rM:List D->Option D:=fnD 1 0 (dj (dCall fV (ak (aj 0) (ak (dC (.int 2)) (aM)))))
def mV:List D->Option D:=fnD 1 0 (dj (xU (dCall rM (ak (aj 0) (aM))) (zF gLe gLt gLe (dC (.int 0)) (dOp gIx (aj 0) (dC (.int 0))) (dOp gIx (aj 0) (dC (.int 1))) (dC (.int 400)))))
abbrev jX:List D->Option D:=Com.jX
def nF:List D->Option D:=fnD 1 0 (bM (sIf (D3.tOr (D3.iY (bF (dUn (gIs "tuple") (aj 0)))) (bF (dOp gNe (dCall iQ (ak (aj 0) (aM))) (dC (.int 3))))) (dj (dC (.bool false))) (cZ))
    (dj (xU (dCall mV (ak (dCall jX (ak (aj 0) (aM))) (aM))) (dCall gh (ak (dOp gIx (aj 0) (dC (.int 2))) (ak (dC (.int 1)) (ak (dC (.int 6)) (aM))))))))
def iJ:List D->Option D:=fnD 1 2 (mC (QF (aj 0)) (gTn 2 (cM (gNl 1) (cM (gNl 2) (jH)))) (sIf (D3.iY (bF (dCall nF (ak (aj 2) (aM))))) ((λ_=>none)) (cZ)))
def jq:List D->Option D:=fnD 1 0 (dj (XS.Gf (dCall Az (ak (dCall iQ (ak (aj 0) (aM))) (aM))) XS.dK0 [0]))
def jz:List D->Option D:=fnD 2 1 (bM (bN 2 (dOp xP (dCall iQ (ak (aj 0) (aM))) (dOp gIx (aj 1) (dC (.int 2)))))
    (dj (mO (oM (ak (dOp eV (aj 2) (dC (.int 1))) (aM))) (gNl 0) (bF (dOp gLe (dCall uZ (ak (zj (aj 2) (fD (aj 0)) (fD (dOp eV (aj 0) (dOp gIx (aj 1) (dC (.int 2)))))) (aM))) (dOp gIx (aj 1) (dC (.int 0))))) (iZ (aj 0)) 1 [1,0])))
abbrev gj:List D->Option D:=Com.gj
def gG:List D->Option D:=fnD 3 1 (bM (bN 3 (dOp eV (aj 2) (dOp gIx (aj 1) (dC (.int 2)))))
    (dj (dUn oR (mO (Kq (aj 0)) (gTn 2 (cM (gNl 0) (cM (gNl 1) (jH)))) (lu) (dCall gj (ak (aj 1) (ak (aj 2) (ak (lO gLe gLt (aj 3) (aj 0) (aj 4)) (aM))))) 2 [1,2,3]))))
def cQ:List D->Option D:=fnD 2 3 (bM (bN 2 (dC (.dict [])))
    (bM (mC (xV (aj 0)) (gNl 3) (mC (xV (dCall jz (ak (aj 3) (ak (aj 1) (aM))))) (gNl 4) (ud 2 (dCall gG (ak (aj 3) (ak (aj 1) (ak (aj 4) (aM))))) (dTup (ak (aj 3) (ak (aj 4) (aM)))))))
    (dj (aj 2))))
def mW:List D->Option D:=fnL 2 4 (bM (bN 2 (gO (aM)))
    (bM (bN 3 (gO (ak (dUn oR (aj 0)) (aM))))
    (bM (mC (xV (dCall jq (ak (aj 1) (aM)))) (gNl 4) (bM (bN 5 (dCall cQ (ak (aj 3) (ak (dOp gIx (aj 1) (aj 4)) (aM)))))
    (bM (zc 2 (aj 5))
    (bM (sIf (bF (dOp gGt (dCall XJ.m8 (ak (aj 5) (aM))) (dC (.int 400)))) ((λ_=>none)) (cZ))
    (bM (sIf (bF (dOp gEq (dCall XJ.m8 (ak (aj 5) (aM))) (dC (.int 0)))) (uc (aj 2)) (cZ))
    (bN 3 (dCall XJ.ju (ak (aj 5) (aM)))))))))
    (uc (aj 2)))))
def mz:List D->Option D:=fnD 2 4 (bM (bN 2 (dOp oY (gO (ak (dC (.none)) (aM))) (dCall iQ (ak (aj 1) (aM)))))
    (bM (bN 3 (dC (.none)))
    (bM (mC (Vt (dOp yq (dCall jq (ak (aj 1) (aM))) (aj 0))) (gTn 2 (cM (gNl 4) (cM (gNl 5) (jH)))) (bM (sIf (bF (dUn Ez (aj 3))) (bN 3 (dOp gIx (dCall XJ.ju (ak (aj 5) (aM))) (dC (.int 0)))) (cZ))
    (bM (Hq 2 (aj 4) (dOp gIx (dOp lR (aj 5) (aj 3)) (dC (.int 1))))
    (bN 3 (dOp gIx (dOp lR (aj 5) (aj 3)) (dC (.int 0)))))))
    (dj (Ol (aj 2))))))
def eF:List D->Option D:=fnD 2 1 (bM (bN 2 (dCall mW (ak (aj 0) (ak (aj 1) (aM)))))
    (bM (sIf (D3.G3 (bF (dOp gGt (dCall iQ (ak (aj 2) (aM))) (dC (.int 0)))) (bF (dOp gEq (dCall XJ.m8 (ak (dOp gIx (aj 2) (dUn Al (dC (.int 1)))) (aM))) (dC (.int 0))))) (dj (dTup (ak (dC (.str "none")) (ak (mO (xV (aj 2)) (gNl 0) (lu) (dCall XJ.ju (ak (aj 0) (aM))) 1 []) (aM))))) (cZ))
    (dj (dTup (ak (dC (.str "laid")) (ak (dCall mz (ak (aj 2) (ak (aj 1) (aM)))) (aM)))))))
def lA:List D->Option D:=fnD 2 0 (bM (Lq (dCall iJ (ak (aj 1) (aM))))
    (dj (dCall eF (ak (aj 0) (ak (aj 1) (aM))))))
def je:List D->Option D:=fnD 2 0 (dj (xU (dUn (gIs "list") (aj 0)) (dCall Am (ak (mO (xV (aj 0)) (gNl 0) (lu) (dCall fV (ak (aj 0) (ak (aj 1) (aM)))) 1 [1]) (aM)))))
def jM:List D->Option D:=fnD 2 1 (bM (bN 2 (dCall Bg (ak (mO (xV (aj 0)) (gNl 0) (lu) (iZ (dTup (ak (aj 0) (ak (dC (.bool true)) (aM))))) 1 []) (aM))))
    (dj (dCall Am (ak (mO (Mp (aj 1)) (gNl 0) (lu) (dOp HX (aj 0) (aj 1)) 1 [2]) (aM)))))
def pD:List D->Option D:=fnD 3 3 (bM (Lq (dCall iJ (ak (aj 1) (aM))))
    (bM (sIf (D3.tOr (D3.iY (bF (dUn (gIs "list") (aj 2)))) (D3.iY (bF (lO gLe gLe (dC (.int 1)) (dCall iQ (ak (aj 2) (aM))) (dCall iQ (ak (aj 1) (aM))))))) (dj (dC (.bool false))) (cZ))
    (bM (sIf (D3.tOr (D3.iY (bF (dCall Am (ak (mO (xV (aj 2)) (gNl 0) (lu) (dCall je (ak (aj 0) (ak (dCall iQ (ak (aj 1) (aM))) (aM)))) 1 [0]) (aM))))) (bF (dOp gGt (dCall iQ (ak (dOp gIx (aj 2) (dUn Al (dC (.int 1)))) (aM))) (dC (.int 0))))) (dj (dC (.bool false))) (cZ))
    (bM (bN 3 (gO (ak (dUn oR (aj 0)) (aM))))
    (bM (mC (Vs (dCall jq (ak (aj 1) (aM))) (aj 2)) (gTn 2 (cM (gNl 4) (cM (gNl 5) (jH)))) (bM (sIf (D3.iY (bF (dCall jM (ak (aj 5) (ak (dCall cQ (ak (aj 3) (ak (dOp gIx (aj 1) (aj 4)) (aM)))) (aM)))))) (dj (dC (.bool false))) (cZ))
    (bN 3 (aj 5))))
    (dj (dC (.bool true))))))))
def gH:List D->Option D:=fnE 1 3 (bM (sIf (bF (dOp gEq (dCall iQ (ak (aj 0) (aM))) (dC (.int 0)))) (Yn (dTup (ak (dN1 (dC (.str "wide"))) (ak (dN1 (dC (.int 0))) (ak (gO (aM)) (ak (gO (aM)) (aM))))))) (cZ))
    (bM (bN 1 (gO (aM)))
    (bM (sGd (mC (Dr (ak (dC (.int 1)) (ak (dOp eV (dC (.int 6)) (dC (.int 1))) (aM)))) (gNl 2) (bM (bN 3 (dNw (dCall lA (ak (dOp oY (gO (ak (dC (.int 0)) (aM))) (aj 2)) (ak (aj 0) (aM))))))
    (bM (sIf (bF (dOp gEq (dOp gIx (aj 3) (dC (.int 0))) (dC (.str "laid")))) (dj (dTup (ak (dC (.str "wide")) (ak (iZ (aj 2)) (ak (dOp gIx (aj 3) (dC (.int 1))) (ak (aj 1) (aM))))))) (cZ))
    (xg 1 3 (dC (.int 1)))))))
    (sGd (dj (dTup (ak (dC (.str "none")) (ak (aj 1) (aM)))))))))
abbrev jy:List D->Option D:=Com.jy
abbrev cC:List D->Option D:=Com.cC
abbrev d7:List D->Option D:=Com.d7
abbrev dG:List D->Option D:=Com.dG
abbrev jY:List D->Option D:=Com.jY
def mX:List D->Option D:=fnD 1 0 (dj (mO (xV (dCall XS.Bc (ak (mO (oM (ak (dCall iQ (ak (aj 0) (aM))) (aM))) (gNl 0) (lu) (iZ (dTup (ak (dOp gIx (dOp gIx (aj 1) (aj 0)) (dC (.int 0))) (ak (aj 0) (aM))))) 1 [0]) (aM)))) (gNl 0) (lu) (iZ (dOp gIx (aj 1) (dOp gIx (aj 0) (dC (.int 1))))) 1 [0]))
def jd:List D->Option D:=fnD 2 8 (bM (J5 (aj 1) (gTn 3 (cM (gNl 2) (cM (gNl 3) (cM (gNl 4) (jH))))))
    (bM (bN 5 (dC (.dict [])))
    (bM (mC (HB (aj 0)) (gNl 6) (bM (bN 7 (mO (HB (aj 6)) (gNl 0) (lu) (iZ (dOp gIx (gO (ak (aj 0) (ak (dC (.int 0)) (aM)))) (dCall uU (ak (dOp gLe (aj 0) (aj 1)) (aM))))) 1 [2]))
    (mC (oM (ak (dOp eV (dOp xP (dCall iQ (ak (aj 6) (aM))) (aj 4)) (dC (.int 1))) (aM))) (gNl 8) (sIf (bF (dOp gLe (dCall uZ (ak (zj (aj 6) (fD (aj 8)) (fD (dOp eV (aj 8) (aj 4)))) (aM))) (aj 2))) (bM (bN 9 (dOp tL (dSl (aj 7) n8 (fD (aj 8))) (dOp oY (gO (ak (aj 3) (aM))) (aj 4))))
    (um 5 (dUn oR (dOp tL (aj 9) (dSl (aj 7) (fD (dOp eV (aj 8) (aj 4))) n8))))) (cZ)))))
    (dj (dCall XJ.ju (ak (aj 5) (aM)))))))
def lF:List D->Option D:=fnD 2 6 (bM (bN 2 (dCall cC (ak (aj 0) (ak (dC (.int 1)) (ak (dC (.int 0)) (ak (dC (.int 380)) (aM)))))))
    (bM (bN 3 (gO (aM)))
    (bM (mC (oM (ak (aj 1) (aM))) (gNl 4) (bM (bN 5 (dOp eV (aj 2) (dCall cC (ak (aj 0) (ak (dOp eV (dC (.int 3)) (aj 4)) (ak (dC (.int 0)) (ak (dC (.int 7)) (aM))))))))
    (bM (bN 6 (dOp eV (dC (.int 1)) (dCall cC (ak (aj 0) (ak (dOp eV (dC (.int 3)) (aj 4)) (ak (dC (.int 2)) (ak (dC (.int 3)) (aM))))))))
    (bM (sIf (bF (dOp gGt (aj 4) (dC (.int 3)))) (bN 6 (dOp eV (dC (.int 2)) (dCall cC (ak (aj 0) (ak (dOp eV (dC (.int 3)) (aj 4)) (ak (dC (.int 2)) (ak (dC (.int 2)) (aM)))))))) (cZ))
    (bM (sIf (D3.G3 (bF (dOp gGt (aj 4) (dC (.int 3)))) (bF (dOp gEq (dCall cC (ak (aj 0) (ak (dOp eV (dC (.int 3)) (aj 4)) (ak (dC (.int 3)) (ak (dC (.int 12)) (aM)))))) (dC (.int 0))))) (bN 6 (dOp eV (dC (.int 2)) (dCall cC (ak (aj 0) (ak (dOp eV (dC (.int 3)) (aj 4)) (ak (dC (.int 4)) (ak (dC (.int 5)) (aM)))))))) (cZ))
    (zc 3 (dTup (ak (aj 5) (ak (dOp eV (dOp eV (aj 5) (dC (.int 1))) (dCall cC (ak (aj 0) (ak (dOp eV (dC (.int 3)) (aj 4)) (ak (dC (.int 1)) (ak (dC (.int 6)) (aM))))))) (ak (aj 6) (aM)))))))))))
    (bM (bN 7 (dCall cC (ak (aj 0) (ak (dC (.int 2)) (ak (dC (.int 6)) (ak (dOp eV (aj 1) (dC (.int 1))) (aM)))))))
    (dj (Ol (dOp tL (dSl (aj 3) (fD (aj 7)) n8) (dSl (aj 3) n8 (fD (aj 7))))))))))
def fW:List D->Option D:=fnD 3 3 (bM (sIf (D3.tOr (D3.iY (bF (dUn (gIs "list") (aj 2)))) (D3.iY (bF (lO gLe gLe (dC (.int 1)) (dCall iQ (ak (aj 2) (aM))) (dCall iQ (ak (aj 1) (aM))))))) (dj (dC (.bool false))) (cZ))
    (bM (bN 3 (gO (ak (dUn oR (dOp oY (gO (ak (dC (.int 0)) (aM))) (aj 0))) (aM))))
    (bM (mC (Vs (aj 2) (dCall mX (ak (aj 1) (aM)))) (gTn 2 (cM (gNl 4) (cM (gNl 5) (jH)))) (bM (sIf (D3.tOr (bF (dOp gEq (aj 3) (gO (aM)))) (D3.tOr (D3.iY (bF (dUn (gIs "list") (aj 4)))) (bF (dOp gNe (aj 4) (dCall jd (ak (aj 3) (ak (aj 5) (aM)))))))) (dj (dC (.bool false))) (cZ))
    (bN 3 (aj 4))))
    (dj (xU (dOp gEq (aj 3) (gO (aM))) (dUn Zh (dCall pD (ak (dOp oY (gO (ak (dC (.int 0)) (aM))) (aj 0)) (ak (aj 1) (ak (aj 2) (aM)))))))))))
def fJ:List D->Option D:=fnD 2 1 (bM (sIf (D3.tOr (D3.iY (bF (dUn (gIs "tuple") (aj 1)))) (bF (dOp gLt (dCall iQ (ak (aj 1) (aM))) (dC (.int 2))))) (dj (dC (.none))) (cZ))
    (bM (sIf (bF (dOp gEq (dOp gIx (aj 1) (dC (.int 0))) (dC (.str "none")))) (dj (iZ (dOp gIx (gO (ak (dC (.none)) (ak (dC (.int 7)) (aM)))) (dCall uU (ak (xU (dOp gEq (dCall iQ (ak (aj 1) (aM))) (dC (.int 2))) (dCall fW (ak (dC (.int 6)) (ak (aj 0) (ak (dOp gIx (aj 1) (dC (.int 1))) (aM)))))) (aM)))))) (cZ))
    (bM (sIf (D3.tOr (bF (dOp gNe (dOp gIx (aj 1) (dC (.int 0))) (dC (.str "wide")))) (D3.tOr (bF (dOp gNe (dCall iQ (ak (aj 1) (aM))) (dC (.int 4)))) (D3.iY (bF (dCall d7 (ak (dOp gIx (aj 1) (dC (.int 1))) (aM))))))) (dj (dC (.none))) (cZ))
    (bM (bN 2 (dOp gIx (aj 1) (dC (.int 1))))
    (bM (sIf (D3.tOr (D3.iY (bF (lO gLe gLe (dC (.int 0)) (aj 2) (dC (.int 6))))) (bF (dOp gNe (dOp gEq (aj 2) (dC (.int 0))) (dOp gEq (aj 0) (gO (aM)))))) (dj (dC (.none))) (cZ))
    (bM (sIf (bF (dOp gEq (aj 0) (gO (aM)))) (dj (iZ (dOp gIx (gO (ak (dC (.none)) (ak (dC (.int 0)) (aM)))) (dCall uU (ak (dOp gEq (aj 1) (dTup (ak (dC (.str "wide")) (ak (dC (.int 0)) (ak (gO (aM)) (ak (gO (aM)) (aM))))))) (aM)))))) (cZ))
    (bM (sIf (D3.iY (bF (dCall jY (ak (dOp oY (gO (ak (dC (.int 0)) (aM))) (aj 2)) (ak (aj 0) (ak (dOp gIx (aj 1) (dC (.int 2))) (aM))))))) (dj (dC (.none))) (cZ))
    (bM (sIf (bF (dOp gEq (aj 2) (dC (.int 1)))) (dj (iZ (dOp gIx (gO (ak (dC (.none)) (ak (dC (.int 1)) (aM)))) (dCall uU (ak (dOp gEq (dOp gIx (aj 1) (dC (.int 3))) (gO (aM))) (aM)))))) (cZ))
    (dj (iZ (dOp gIx (gO (ak (dC (.none)) (ak (aj 2) (aM)))) (dCall uU (ak (dCall fW (ak (dOp xP (aj 2) (dC (.int 1))) (ak (aj 0) (ak (dOp gIx (aj 1) (dC (.int 3))) (aM))))) (aM))))))))))))))
def Jg:List D->Option D:=fnD 1 5 (bM (bN 1 (dCall lF (ak (aj 0) (ak (dCall cC (ak (aj 0) (ak (dC (.int 0)) (ak (dC (.int 1)) (ak (dC (.int 10)) (aM)))))) (aM)))))
    (bM (bN 2 (dUn yK (aj 1)))
    (bM (bN 3 (dCall gH (ak (aj 2) (aM))))
    (bM (bN 4 (dCall fJ (ak (aj 1) (ak (aj 3) (aM)))))
    (bM (sIf (D3.tOr (bF (dUn Ez (aj 4))) (bF (dOp gNe (aj 2) (aj 1)))) (dj (dC (.bool false))) (cZ))
    (bM (uo 3 (dUn Al (dC (.int 1))) (gO (aM)))
    (bM (sIf (bF (dOp gEq (dOp gIx (aj 3) (dC (.int 0))) (dC (.str "wide")))) (uo 3 (dC (.int 2)) (dN1 (dC (.int 9)))) (cZ))
    (bM (zc 2 (dTup (ak (dC (.int 0)) (ak (dC (.int 1)) (ak (dC (.int 1)) (aM))))))
    (bM (sIf (bF (dOp gNe (dCall fJ (ak (aj 1) (ak (dCall gH (ak (dUn yK (aj 1)) (aM))) (aM)))) (aj 4))) (dj (dC (.bool false))) (cZ))
    (bM (bN 5 (dCall fJ (ak (dSl (aj 1) n8 (fD (dUn Al (dC (.int 1))))) (ak (dCall gH (ak (dSl (aj 1) n8 (fD (dUn Al (dC (.int 1))))) (aM))) (aM)))))
    (dj (xU (dUn QC (aj 5)) (dOp gLe (aj 5) (aj 4))))))))))))))
end K76
namespace K76
open D3 My Com
def isI:D->Bool
 | .int _=>true
 |_=>false
def wh(d:D):Com.ig [d]=some (.bool (isI d)):=by
 cases d<;>rfl
def lwh(d:D):Com.d7 [d]=some (.bool (isI d)):=by
 cases d<;>rfl
def two:D->Bool
 | .tuple [x,y]=>isI x&&isI y
 |_=>false
def all2(x y:D):j8 [.tuple [x,y]]=some (.bool (isI x&&isI y)):=by
 have C:=yC (g:=(gNl 0)) (c:=(D3.lu)) (e:=(dCall ig (ak (aj 0) (aM)))) (δ:=[none]) (λd:D=>d) (λd=>.bool (isI d)) [x,y] (λd _=>⟨[some (.d d)],rfl,rfl,by simp![wh]⟩);have C:jU (gNl 0) (D3.lu) (dCall ig (ak (aj 0) (aM))) [none] [x,y]=some [.bool (isI x),.bool (isI y)]:=C;have Z:∀a:Option U,lN 1 [] [a]=[none]:=λ_=>rfl
 have ga:Am [.list [.bool (isI x),.bool (isI y)]]=some (.bool (isI x&&isI y)):=by cases isI x<;>cases isI y<;>rfl
 unfold j8;simp![Zu,Zv,show 2<=100000 by decide,Z,C,ga]
theorem len2(h:l.length=2):∃x y,l=[x,y]:=by
 match l,h with
 |[x,y],_=>exact⟨x,y,rfl⟩
theorem two_no(h:¬l.length=2):two (.tuple l)=false:=by
 match l,h with
 |[],_=>rfl
 |[_],_=>rfl
 |[_,_],h=>exact absurd rfl h
 |_::_::_::_,_=>rfl
def isTup:D3.isT "tuple" "tuple"=true:=by decide
def BP(d:D):rM [d]=some (.bool (two d)):=by
 have T:fV [d,.int 2]=some (.bool (two d)):=by
  unfold fV
  cases d with
  |tuple l=>
   by_cases h:l.length=2
   .obtain⟨x,y,rfl⟩:=len2 h;simp![tyD,isTup,show iQ [eT [x,y]]=some (.int 2)from rfl,show gEq (.int 2) (.int 2)=some (.bool true)from rfl,all2];rfl
   .have Z:iQ [eT l]=some (.int (l.length:Int)):=rfl;rw[two_no h];simp![tyD,isTup,Z,dFa (show ¬(l.length:Int)=2 by lia)]
  |_=>rfl
 unfold rM;simp![T]
def tw(a b:Int):two (.tuple [.int a,.int b])=true:=rfl
def stB(a b:Int):Bool:=decide (0<=a)&&(decide (a<b)&&decide (b<=400))
def Jh(a b:Int):mV [.tuple [.int a,.int b]]=some (.bool (stB a b)):=by
 unfold mV stB;by_cases c:0<=a
 .by_cases Z:a<b
  .simp![BP,tw,at1,dTr c,dTr Z];rfl
  .simp![BP,tw,at1,dTr c,dFa Z];rfl
 .simp![BP,tw,dFa c];rfl
structure grOk(g:Wi):Prop where
 f:0<=g.1
 b:g.1<g.2.1
 n:g.2.1<=400
 s:1<=g.2.2
 t:g.2.2<=6
def KZ(g:Wi):Com.jX [wiD g]=some (.tuple [.int g.1,.int g.2.1]):=by
 unfold Com.jX wiD;simp![at1,sz (show 2<=1000000 by decide)]
def PB (h:grOk c):nF [wiD c]=some (.bool true):=by
 have S:=Jh c.1 c.2.1;rw[show stB c.1 c.2.1=true by unfold stB;rw[dTr h.f,dTr h.b,dTr h.n];rfl]at S;have W:Com.gh [.int c.2.2,.int 1,.int 6]=some (.bool true):=by
  unfold Com.gh;simp![wh,isI,dTr h.s,dTr h.t]
 have N:=KZ c;have i2:gIx (wiD c) (.int 2)=some (.int c.2.2):=rfl;unfold nF;simp![show D3.isT "tuple" (tyD (wiD c))=true from rfl,show iQ [wiD c]=some (.int 3)from rfl,show gNe (.int 3) (.int 3)=some (.bool false)from rfl,N,S,i2,W]
def Ed{gs:List Wi}(h:∀g∈gs,grOk g):iJ [.list (gs.map wiD)]=some .none:=by
 unfold iJ;simp![];obtain⟨δ',e,Y,y1,rfl⟩:=xr (g:=(gTn 2 (cM (gNl 1) (cM (gNl 2) (jH))))) (b:=(sIf (D3.iY (bF (dCall nF (ak (aj 2) (aM))))) ((λ_=>none)) (cZ))) (λ_ δ=>∃y1 Z:Option U,δ=[some (.d (.list (gs.map wiD))),y1,Z]) (tE (gs.map wiD)) [some (.d (.list (gs.map wiD))),none,none] ⟨none,none,rfl⟩
  (by
   rintro i d δ hd ⟨y1,Z,rfl⟩;unfold tE at hd;rw[fQ,aW]at hd
   cases hw:gs[i]? with
   |none=>rw[hw]at hd;cases hd
   |some w=>
    rw[hw]at hd
    cases hd;refine⟨_,_,rfl,.inl ?_,some (.d (.int (i:Int))),some (.d (wiD w)),rfl⟩;simp![PB (h w (gJ hw))])
 rw[e];simp![]
def meB(g k:Wi):Bool:=decide ((if k.1>g.1 then k.1 else g.1)<(if k.2.1<g.2.1 then k.2.1 else g.2.1))
def coB(g:Wi)(p:Int)(k:Wi)(q:Int):Bool:=decide ((if q>p then q else p)<(if q+k.2.2<p+g.2.2 then q+k.2.2 else p+g.2.2))
def apB(g:Wi)(p:Int)(k:Wi)(q:Int):Bool:=(decide (g.2.1<=k.1)||decide (k.2.1<=g.1))||(decide (p+g.2.2<=q)||decide (q+k.2.2<=p))
def PJ(g k:Wi)(p q:Int):Com.dG [wiD g,.int p,wiD k,.int q]=some (.bool (apB g p k q)):=by
 have U:gIx (wiD g) (.int 0)=some (.int g.1):=rfl;have i1:gIx (wiD g) (.int 1)=some (.int g.2.1):=rfl;have i2:gIx (wiD g) (.int 2)=some (.int g.2.2):=rfl;have W:gIx (wiD k) (.int 0)=some (.int k.1):=rfl;have j1:gIx (wiD k) (.int 1)=some (.int k.2.1):=rfl;have j2:gIx (wiD k) (.int 2)=some (.int k.2.2):=rfl;unfold Com.dG;by_cases Y:g.2.1<=k.1
 .have Z:apB g p k q=true:=by unfold apB;rw[dTr Y];rfl
  rw[Z];simp![i1,W,dTr Y]
 .by_cases X:k.2.1<=g.1
  .have Z:apB g p k q=true:=by unfold apB;rw[dTr X];simp
   rw[Z];simp![U,i1,W,j1,dFa Y,dTr X]
  .by_cases V:p+g.2.2<=q
   .have Z:apB g p k q=true:=by unfold apB;rw[dTr V];simp
    rw[Z];simp![U,i1,i2,W,j1,dFa Y,dFa X,dTr V]
   .have Z:apB g p k q=decide (q+k.2.2<=p):=by unfold apB;rw[dFa Y,dFa X,dFa V];rfl
    rw[Z];simp![U,i1,i2,W,j1,j2,dFa Y,dFa X,dFa V]
def yE {p q:Int} (D:grOk c) (B:grOk k):apB k q c p = !(meB c k&&coB c p k q):=by
 have W:=D.b;have X:=B.b;have Y:=D.s;have Z:=B.s;unfold apB meB coB;rw[sY];simp only[oE,f9,Bool.and_eq_false_iff,decide_eq_true_eq,decide_eq_false_iff_not]
 constructor
 .intro h;by_cases z:(if k.1>c.1 then k.1 else c.1)<(if k.2.1<c.2.1 then k.2.1 else c.2.1)
  .right
   intro y;split at z<;>split at z<;>split at y<;>split at y<;>lia
  .left;exact z
 .intro h;rcases h with h|h
  .left
   split at h<;>split at h<;>lia
  .right
   split at h<;>split at h<;>lia
section
variable{gs:List Wi}{ps:List Int}
noncomputable def gat(gs:List Wi)(i:Nat):Wi:=gs.getD i (0,0,0)
def beB(gs:List Wi)(ps:List Int)(i:Nat):Bool:=(aN i).all λj=>!(meB (gat gs i) (gat gs j)&&coB (gat gs i) (ps.getD i 0) (gat gs j) (ps.getD j 0))
end
def ad1{a b:Int}(B:0<=a)(h1:a<=b)(h2:b<=l.length):cuD l (some a) (some b)=(l.drop a.toNat).take (b-a).toNat:=by
 unfold cuD;have e1:pSx l.length 0 (some a)=a.toNat:=by
  show(if a<0 then _ else _)=_;rw[if_neg (by lia)];lia
 have e2:pSx l.length l.length (some b)=b.toNat:=by
  show(if b<0 then _ else _)=_;rw[if_neg (by lia)];lia
 rw[e1,e2,show b.toNat-a.toNat=(b-a).toNat by lia]
def mx:List Int->Int
 |[]=>0
 |x::r=>mxI x r
theorem Ng (h:c≠[]):Ak [.list (c.map .int)]=some (.int (mx c)):=by
 cases c with
 |nil=>exact absurd rfl h
 |cons x r=>
  show(match dH ((x::r).map .int)with|some (i::r)=>some (eP (mxI i r))|_=>none)=_;rw[uK];rfl
def sli(hs:List Int)(p s:Int):List Int:=(hs.drop p.toNat).take s.toNat
def roB(hs:List Int)(g:Wi)(p:Int):Bool:=(decide (0<=p)&&decide (p<=(hs.length:Int)-g.2.2))&&decide (mx (sli hs p g.2.2)<=g.1)
def BR (B:0<=k) (h1:k<=(c.length:Int)-s) (h2:1<=s):sli c k s≠[]:=by
 intro z;have:=congrArg nQ z;unfold sli at this;rw[cO,fO]at this;simp at this;lia
def zV (B:0<=k) (h1:k<=(c.length:Int)-s) (h2:1<=s):cuD (c.map eP) (some k) (some (k+s))=(sli c k s).map .int:=by
 rw[ad1 B (by lia) (by rw[aq];lia),show k+s-k=s by lia];unfold sli;rw[qz,qH]
section
variable{gs:List Wi}{ps:List Int}
def ao6(hs:List Int)(gs:List Wi)(ps:List Int)(i:Nat):Bool:=roB hs (gat gs i) (ps.getD i 0)&&beB gs ps i
def laB(hs:List Int)(gs:List Wi)(ps:List Int):Bool:=decide (ps.length=gs.length)&&(aN gs.length).all (ao6 hs gs ps)
def Gk(h:∀g∈gs,grOk g)(hi:i<gs.length):grOk (gat gs i):=by
 unfold gat;rw[aD,aA hi];exact h _ (cU hi)
def BW(h:∀g∈gs,grOk g)(pl:ps.length=gs.length) {i:Nat}(hi:i<gs.length) (y4 y5 y6 y7 B:Option U):∃z4 O J D,((bM (bN 4 (dOp gIx (aj 2) (aj 3))) (bM (J5 (dOp gIx (aj 1) (aj 3)) (gTn 3 (cM (gNl 5) (cM (gNl 6) (cM (gNl 7) (jH)))))) (bM (sIf (D3.tOr (D3.iY (bF (dCall d7 (ak (aj 4) (aM))))) (D3.iY (bF (lO gLe gLe (dC (.int 0)) (aj 4) (dOp xP (dCall iQ (ak (aj 0) (aM))) (aj 7)))))) (dj (dC (.bool false))) (cZ)) (sIf (bF (dOp gGt (dCall Ak (ak (dSl (aj 0) (fD (aj 4)) (fD (dOp eV (aj 4) (aj 7)))) (aM))) (aj 5))) (dj (dC (.bool false))) (cZ)))))) [some (.d (.list (hs.map .int))),some (.d (.list (gs.map wiD))),some (.d (.list (ps.map .int))),some (.d (.int (i:Int))),y4,y5,y6,y7,B] =
 if roB hs (gat gs i) (ps.getD i 0)=true then some (.nx [some (.d (.list (hs.map .int))),some (.d (.list (gs.map wiD))),some (.d (.list (ps.map .int))),some (.d (.int (i:Int))),z4,O,J,D,B])else some (.rt (.bool false)):=by
 have e1:=ou wiD (l:=gs) (0,0,0) (i:=(i:Int)) (by lia) (by lia);have e3:=ou eP (l:=ps) 0 (i:=(i:Int)) (by lia) (by lia);rw[fY]at e1 e3;have e1:pAt (gs.map wiD) (i:Int)=some (.tuple [.int (gat gs i).1,.int (gat gs i).2.1,.int (gat gs i).2.2]):=e1;have W:=Gk h hi;have X:Com.d7 [.int (ps.getD i 0)]=some (.bool true):=rfl;refine⟨some (.d (.int (ps.getD i 0))),some (.d (.int (gat gs i).1)),some (.d (.int (gat gs i).2.1)),some (.d (.int (gat gs i).2.2)),?_⟩;by_cases Z:0<=ps.getD i 0
 .by_cases Y:ps.getD i 0<=(hs.length:Int)-(gat gs i).2.2
  .have r:roB hs (gat gs i) (ps.getD i 0)=decide (mx (sli hs (ps.getD i 0) (gat gs i).2.2)<=(gat gs i).1):=by unfold roB;rw[dTr Z,dTr Y];rfl
   rw[r];by_cases V:mx (sli hs (ps.getD i 0) (gat gs i).2.2)<=(gat gs i).1
   .rw[dTr V,if_pos rfl];simp![e1,e3,X,lMp,dTr Z,dTr Y,zV Z Y W.s,Ng (BR Z Y W.s),dFa (show ¬mx (sli hs (ps.getD i 0) (gat gs i).2.2)>(gat gs i).1 by lia)]
   .rw[dFa V,if_neg (by decide)];simp![e1,e3,X,lMp,dTr Z,dTr Y,zV Z Y W.s,Ng (BR Z Y W.s),dTr (show mx (sli hs (ps.getD i 0) (gat gs i).2.2)>(gat gs i).1 by lia)]
  .have r:roB hs (gat gs i) (ps.getD i 0)=false:=by unfold roB;rw[dTr Z,dFa Y];rfl
   rw[r,if_neg (by decide)];simp![e1,e3,X,lMp,dTr Z,dFa Y]
 .have r:roB hs (gat gs i) (ps.getD i 0)=false:=by unfold roB;rw[dFa Z];rfl
  rw[r,if_neg (by decide)];simp![e1,e3,X,dFa Z]
theorem Gm(h:∀g∈gs,grOk g)(pl:ps.length=gs.length) {i:Nat}(hi:i<gs.length) (Y:c<i) (O J D B:Option U):(sIf (D3.iY (bF (dCall dG (ak (dOp gIx (aj 1) (aj 8)) (ak (dOp gIx (aj 2) (aj 8)) (ak (dOp gIx (aj 1) (aj 3)) (ak (dOp gIx (aj 2) (aj 3)) (aM)))))))) (dj (dC (.bool false))) (cZ)) [some (.d (.list (hs.map .int))),some (.d (.list (gs.map wiD))),some (.d (.list (ps.map .int))),some (.d (.int (i:Int))),O,J,D,B,some (.d (.int (c:Int)))] =
 if(meB (gat gs i) (gat gs c)&&coB (gat gs i) (ps.getD i 0) (gat gs c) (ps.getD c 0))=false then some (.nx [some (.d (.list (hs.map .int))),some (.d (.list (gs.map wiD))),some (.d (.list (ps.map .int))),some (.d (.int (i:Int))),O,J,D,B,some (.d (.int (c:Int)))])else some (.rt (.bool false)):=by
 have e1:=ou wiD (l:=gs) (0,0,0) (i:=(i:Int)) (by lia) (by lia);have e2:=ou wiD (l:=gs) (0,0,0) (i:=(c:Int)) (by lia) (by lia);have e3:=ou eP (l:=ps) 0 (i:=(i:Int)) (by lia) (by lia);have Z:=ou eP (l:=ps) 0 (i:=(c:Int)) (by lia) (by lia);rw[fY]at e1 e2 e3 Z;have e1:pAt (gs.map wiD) (i:Int)=some (wiD (gat gs i)):=e1;have e2:pAt (gs.map wiD) (c:Int)=some (wiD (gat gs c)):=e2;have A:=PJ (gat gs c) (gat gs i) (ps.getD c 0) (ps.getD i 0);rw[yE (Gk h hi) (Gk h (show c<gs.length by lia))]at A
 cases m:meB (gat gs i) (gat gs c)&&coB (gat gs i) (ps.getD i 0) (gat gs c) (ps.getD c 0)with
 |false=>
  rw[m]at A;rw[if_pos rfl];simp![e1,e2,e3,Z,A]
 |true=>
  rw[m]at A;rw[if_neg (by decide)];simp![e1,e2,e3,Z,A]
def ad2(h:∀g∈gs,grOk g)(pl:ps.length=gs.length) (hi:c<gs.length) (Y O J D B:Option U):(∃Z,beB gs ps c=true/\iH (gNl 8) (sIf (D3.iY (bF (dCall dG (ak (dOp gIx (aj 1) (aj 8)) (ak (dOp gIx (aj 2) (aj 8)) (ak (dOp gIx (aj 1) (aj 3)) (ak (dOp gIx (aj 2) (aj 3)) (aM)))))))) (dj (dC (.bool false))) (cZ)) (iu 0 (c:Int)) [some (.d (.list (hs.map .int))),some (.d (.list (gs.map wiD))),some (.d (.list (ps.map .int))),some (.d (.int (c:Int))),Y,O,J,D,B]=some (.nx [some (.d (.list (hs.map .int))),some (.d (.list (gs.map wiD))),some (.d (.list (ps.map .int))),some (.d (.int (c:Int))),Y,O,J,D,Z]))\/(beB gs ps c=false/\iH (gNl 8) (sIf (D3.iY (bF (dCall dG (ak (dOp gIx (aj 1) (aj 8)) (ak (dOp gIx (aj 2) (aj 8)) (ak (dOp gIx (aj 1) (aj 3)) (ak (dOp gIx (aj 2) (aj 3)) (aM)))))))) (dj (dC (.bool false))) (cZ)) (iu 0 (c:Int)) [some (.d (.list (hs.map .int))),some (.d (.list (gs.map wiD))),some (.d (.list (ps.map .int))),some (.d (.int (c:Int))),Y,O,J,D,B]=some (.rt (.bool false))):=by
 have T:(iu 0 (c:Int)).length=c:=by unfold iu;rw[aq,bQ];lia
 rcases xH (λj=>meB (gat gs c) (gat gs j)&&coB (gat gs c) (ps.getD c 0) (gat gs j) (ps.getD j 0)) c with⟨m,hm,W,hn⟩|hn
 .right
  constructor
  .cases q:beB gs ps c with
   |false=>rfl
   |true=>
    have:=cT.mp q m (aZ.mpr hm);rw[W]at this
    cases this
  .exact Bx (λ_ δ=>∃B:Option U,δ=[some (.d (.list (hs.map .int))),some (.d (.list (gs.map wiD))),some (.d (.list (ps.map .int))),some (.d (.int (c:Int))),Y,O,J,D,B]) m (iu 0 (c:Int)) _ ⟨B,rfl⟩ (by rwa[T])
    (by
     rintro j d δ X hd ⟨B,rfl⟩;obtain⟨V,rfl⟩:=nO hd;refine⟨_,_,rfl,?_,some (.d (.int (j:Int))),rfl⟩;refine(Gm h pl hi (by lia) Y O J D).trans ?_;rw[if_pos (hn j X)])
    (by
     rintro d δ hd ⟨B,rfl⟩;obtain⟨V,rfl⟩:=nO hd;refine⟨_,rfl,?_⟩;refine(Gm h pl hi hm Y O J D).trans ?_;rw[if_neg (by simpa using W)])
 .left
  obtain⟨δ',e,Z,rfl⟩:=xr (g:=gNl 8) (b:=(sIf (D3.iY (bF (dCall dG (ak (dOp gIx (aj 1) (aj 8)) (ak (dOp gIx (aj 2) (aj 8)) (ak (dOp gIx (aj 1) (aj 3)) (ak (dOp gIx (aj 2) (aj 3)) (aM)))))))) (dj (dC (.bool false))) (cZ))) (λ_ δ=>∃B:Option U,δ=[some (.d (.list (hs.map .int))),some (.d (.list (gs.map wiD))),some (.d (.list (ps.map .int))),some (.d (.int (c:Int))),Y,O,J,D,B]) (iu 0 (c:Int)) _ ⟨B,rfl⟩
   (by
    rintro j d δ hd ⟨B,rfl⟩;obtain⟨V,rfl⟩:=nO hd;refine⟨_,_,rfl,.inl ?_,some (.d (.int (j:Int))),rfl⟩;refine(Gm h pl hi (by lia) Y O J D).trans ?_;rw[if_pos (hn j (by lia))])
  refine⟨Z,?_,e⟩;unfold beB;rw[cT];intro j X;have:=hn j (aZ.mp X);rw[this];rfl
def vQ:laB hs gs ps=true<->ps.length=gs.length/\(∀i,i<gs.length->roB hs (gat gs i) (ps.getD i 0)=true)/\∀i,i<gs.length->beB gs ps i=true:=by
 unfold laB ao6;rw[aK,decide_eq_true_eq,cT]
 constructor
 .rintro⟨h1,h2⟩;refine⟨h1,λi hi=>?_,λi hi=>?_⟩
  .exact(nW.mp (h2 i (aZ.mpr hi))).1
  .exact(nW.mp (h2 i (aZ.mpr hi))).2
 .rintro⟨h1,h2,Z⟩;exact⟨h1,λi hi=>nW.mpr ⟨h2 i (aZ.mp hi),Z i (aZ.mp hi)⟩⟩
theorem BX(h:¬(ps.length=gs.length/\(∀i,i<gs.length->roB hs (gat gs i) (ps.getD i 0)=true)/\∀i,i<gs.length->beB gs ps i=true)):laB hs gs ps=false:=by
 cases q:laB hs gs ps with
 |false=>rfl
 |true=>exact absurd (vQ.mp q) h
def T7(h:∀g∈gs,grOk g)(B:gs.length<=1000):Com.jY [.list (hs.map .int),.list (gs.map wiD),.list (ps.map .int)]=some (.bool (laB hs gs ps)):=by
 have I:D3.isT "list" (tyD (.list (ps.map .int)))=true:=rfl;have H:yR (some [.int (gs.length:Int)])=some (iu 0 (gs.length:Int)):=KQ (by lia) (by lia);have F:(iu 0 (gs.length:Int)).length=gs.length:=by unfold iu;rw[aq,bQ];lia
 unfold Com.jY;by_cases pl:ps.length=gs.length
 case neg=>
  rw[BX (λz=>pl z.1)];have ne:gNe (.int (ps.length:Int)) (.int (gs.length:Int))=some (.bool true):=by
   show some (fI (!PyData.eqv (.int (ps.length:Int)) (.int (gs.length:Int))))=_;simp[f7];lia
  simp![I,lMp,ne]
 have ne:gNe (.int (ps.length:Int)) (.int (gs.length:Int))=some (.bool false):=by
  rw[pl];show some (fI (!PyData.eqv (.int (gs.length:Int)) (.int (gs.length:Int))))=_;simp[f7]
 rcases xH (λi=>!roB hs (gat gs i) (ps.getD i 0)) gs.length with⟨m,hm,P,hn⟩|hn
 .rw[BX (λz=>by have:=z.2.1 m hm;rw[this]at P;cases P)];have e:=Bx (g:=(gNl 3)) (b:=(bM (bN 4 (dOp gIx (aj 2) (aj 3))) (bM (J5 (dOp gIx (aj 1) (aj 3)) (gTn 3 (cM (gNl 5) (cM (gNl 6) (cM (gNl 7) (jH)))))) (bM (sIf (D3.tOr (D3.iY (bF (dCall d7 (ak (aj 4) (aM))))) (D3.iY (bF (lO gLe gLe (dC (.int 0)) (aj 4) (dOp xP (dCall iQ (ak (aj 0) (aM))) (aj 7)))))) (dj (dC (.bool false))) (cZ)) (sIf (bF (dOp gGt (dCall Ak (ak (dSl (aj 0) (fD (aj 4)) (fD (dOp eV (aj 4) (aj 7)))) (aM))) (aj 5))) (dj (dC (.bool false))) (cZ)))))) (λ_ δ=>∃T V W X Y,δ=[some (.d (.list (hs.map .int))),some (.d (.list (gs.map wiD))),some (.d (.list (ps.map .int))),T,V,W,X,Y,none]) (v:=.bool false) m (iu 0 (gs.length:Int)) [some (.d (.list (hs.map .int))),some (.d (.list (gs.map wiD))),some (.d (.list (ps.map .int))),none,none,none,none,none,none] ⟨none,none,none,none,none,rfl⟩ (by rwa[F])
   (by
    rintro j d δ N hd ⟨T,V,W,X,Y,rfl⟩;obtain⟨O,rfl⟩:=nO hd;obtain⟨J,K,L,M,Z⟩:=BW (hs:=hs) h pl (show j<gs.length by lia) V W X Y none;rw[if_pos (by simpa using hn j N)]at Z;exact⟨_,_,rfl,Z,some (.d (.int (j:Int))),J,K,L,M,rfl⟩)
   (by
    rintro d δ hd ⟨T,V,W,X,Y,rfl⟩;obtain⟨O,rfl⟩:=nO hd;obtain⟨J,K,L,M,Z⟩:=BW (hs:=hs) h pl hm V W X Y none;rw[if_neg (by simpa using P)]at Z;exact⟨_,rfl,Z⟩)
  simp![I,lMp,ne,H,e]
 .obtain⟨δ',e,T,V,W,X,Y,rfl⟩:=xr (g:=(gNl 3)) (b:=(bM (bN 4 (dOp gIx (aj 2) (aj 3))) (bM (J5 (dOp gIx (aj 1) (aj 3)) (gTn 3 (cM (gNl 5) (cM (gNl 6) (cM (gNl 7) (jH)))))) (bM (sIf (D3.tOr (D3.iY (bF (dCall d7 (ak (aj 4) (aM))))) (D3.iY (bF (lO gLe gLe (dC (.int 0)) (aj 4) (dOp xP (dCall iQ (ak (aj 0) (aM))) (aj 7)))))) (dj (dC (.bool false))) (cZ)) (sIf (bF (dOp gGt (dCall Ak (ak (dSl (aj 0) (fD (aj 4)) (fD (dOp eV (aj 4) (aj 7)))) (aM))) (aj 5))) (dj (dC (.bool false))) (cZ)))))) (λ_ δ=>∃T V W X Y,δ=[some (.d (.list (hs.map .int))),some (.d (.list (gs.map wiD))),some (.d (.list (ps.map .int))),T,V,W,X,Y,none]) (iu 0 (gs.length:Int)) [some (.d (.list (hs.map .int))),some (.d (.list (gs.map wiD))),some (.d (.list (ps.map .int))),none,none,none,none,none,none] ⟨none,none,none,none,none,rfl⟩
   (by
    rintro j d δ hd ⟨T,V,W,X,Y,rfl⟩;obtain⟨O,rfl⟩:=nO hd;obtain⟨J,K,L,M,Z⟩:=BW (hs:=hs) h pl (show j<gs.length by lia) V W X Y none;rw[if_pos (by simpa using hn j (by lia))]at Z;exact⟨_,_,rfl,.inl Z,some (.d (.int (j:Int))),J,K,L,M,rfl⟩)
  have G:∀(j:Nat)(S:Option U),j<gs.length->(∃R,beB gs ps j=true/\((mC (oM (ak (aj 3) (aM))) (gNl 8) (sIf (D3.iY (bF (dCall dG (ak (dOp gIx (aj 1) (aj 8)) (ak (dOp gIx (aj 2) (aj 8)) (ak (dOp gIx (aj 1) (aj 3)) (ak (dOp gIx (aj 2) (aj 3)) (aM)))))))) (dj (dC (.bool false))) (cZ)))) [some (.d (.list (hs.map .int))),some (.d (.list (gs.map wiD))),some (.d (.list (ps.map .int))),some (.d (.int (j:Int))),V,W,X,Y,S]=some (.nx [some (.d (.list (hs.map .int))),some (.d (.list (gs.map wiD))),some (.d (.list (ps.map .int))),some (.d (.int (j:Int))),V,W,X,Y,R]))\/(beB gs ps j=false/\((mC (oM (ak (aj 3) (aM))) (gNl 8) (sIf (D3.iY (bF (dCall dG (ak (dOp gIx (aj 1) (aj 8)) (ak (dOp gIx (aj 2) (aj 8)) (ak (dOp gIx (aj 1) (aj 3)) (ak (dOp gIx (aj 2) (aj 3)) (aM)))))))) (dj (dC (.bool false))) (cZ)))) [some (.d (.list (hs.map .int))),some (.d (.list (gs.map wiD))),some (.d (.list (ps.map .int))),some (.d (.int (j:Int))),V,W,X,Y,S]=some (.rt (.bool false))):=λj S N=>by
   have E:yR (some [.int (j:Int)])=some (iu 0 (j:Int)):=KQ (by lia) (by lia);rcases ad2 (hs:=hs) h pl N V W X Y S with⟨R,b,Z⟩|⟨b,Z⟩
   .refine .inl ⟨R,b,?_⟩;simp![E,Z]
   .refine .inr ⟨b,?_⟩;simp![E,Z]
  rcases xH (λi=>!beB gs ps i) gs.length with⟨m,hm,P,Q⟩|Q
  .rw[BX (λz=>by have:=z.2.2 m hm;rw[this]at P;cases P)];have e2:=Bx (g:=(gNl 3)) (b:=(mC (oM (ak (aj 3) (aM))) (gNl 8) (sIf (D3.iY (bF (dCall dG (ak (dOp gIx (aj 1) (aj 8)) (ak (dOp gIx (aj 2) (aj 8)) (ak (dOp gIx (aj 1) (aj 3)) (ak (dOp gIx (aj 2) (aj 3)) (aM)))))))) (dj (dC (.bool false))) (cZ)))) (λ_ δ=>∃T S,δ=[some (.d (.list (hs.map .int))),some (.d (.list (gs.map wiD))),some (.d (.list (ps.map .int))),T,V,W,X,Y,S]) (v:=.bool false) m (iu 0 (gs.length:Int)) [some (.d (.list (hs.map .int))),some (.d (.list (gs.map wiD))),some (.d (.list (ps.map .int))),T,V,W,X,Y,none] ⟨T,none,rfl⟩ (by rwa[F])
    (by
     rintro j d δ N hd ⟨T,S,rfl⟩;obtain⟨O,rfl⟩:=nO hd;rcases G j S (by lia)with⟨R,b,Z⟩|⟨b,Z⟩
     .exact⟨_,_,rfl,Z,some (.d (.int (j:Int))),R,rfl⟩
     .have:=Q j N;rw[b]at this;cases this)
    (by
     rintro d δ hd ⟨T,S,rfl⟩;obtain⟨O,rfl⟩:=nO hd;rcases G m S hm with⟨R,b,Z⟩|⟨b,Z⟩
     .rw[b]at P;cases P
     .exact⟨_,rfl,Z⟩)
   simp![I,lMp,ne,H,e,e2]
  .rw[vQ.mpr ⟨pl,λi hi=>by simpa using hn i hi,λi hi=>by simpa using Q i hi⟩];obtain⟨D,e2,C,R,rfl⟩:=xr (g:=(gNl 3)) (b:=(mC (oM (ak (aj 3) (aM))) (gNl 8) (sIf (D3.iY (bF (dCall dG (ak (dOp gIx (aj 1) (aj 8)) (ak (dOp gIx (aj 2) (aj 8)) (ak (dOp gIx (aj 1) (aj 3)) (ak (dOp gIx (aj 2) (aj 3)) (aM)))))))) (dj (dC (.bool false))) (cZ)))) (λ_ δ=>∃T S,δ=[some (.d (.list (hs.map .int))),some (.d (.list (gs.map wiD))),some (.d (.list (ps.map .int))),T,V,W,X,Y,S]) (iu 0 (gs.length:Int)) [some (.d (.list (hs.map .int))),some (.d (.list (gs.map wiD))),some (.d (.list (ps.map .int))),T,V,W,X,Y,none] ⟨T,none,rfl⟩
    (by
     rintro j d δ hd ⟨T,S,rfl⟩;obtain⟨O,rfl⟩:=nO hd;rcases G j S (by lia)with⟨R,b,Z⟩|⟨b,Z⟩
     .exact⟨_,_,rfl,.inl Z,some (.d (.int (j:Int))),R,rfl⟩
     .have:=Q j (by lia);rw[b]at this;cases this)
   simp![I,lMp,ne,H,e,e2]
end
def gp(g:Wi):Sd.Gp:=(g.1,g.2.1,g.2.2.toNat)
theorem Ji (h:c≠[]):uZ [.tuple (c.map .int)]=some (.int (mx c)):=by
 cases c with
 |nil=>exact absurd rfl h
 |cons x r=>
  show(match dH ((x::r).map .int)with|some (i::r)=>some (eP (mxI i r))|_=>none)=_;rw[uK];rfl
def stN(row:List Int)(g:Wi):List Nat:=(aN ((row.length:Int)-g.2.2+1).toNat).filter λs=>decide (mx (sli row (s:Int) g.2.2)<=g.1)
def Nh {lo hi:Option Int}(h:c δ=some (.tuple l)) (h1:k δ=some lo) (h2:B δ=some hi) (D:flats l=true):zj c k B δ=some (.tuple (cuD l lo hi)):=by
 unfold zj;rw[h,aF,h1,aF,h2,aF];dsimp only;rw[if_pos D]
def K3 {g:Wi}(B:1<=g.2.2) (D:g.2.2<=6) (J:row.length<=1000):jz [rwD row,wiD g]=some (.list ((stN row g).map λs:Nat=>eP (s:Int))):=by
 have T:gIx (wiD g) (.int 0)=some (.int g.1):=rfl;have i2:gIx (wiD g) (.int 2)=some (.int g.2.2):=rfl;have C:=ao4 (g:=(gNl 0)) (c:=(bF (dOp gLe (dCall uZ (ak (zj (aj 2) (fD (aj 0)) (fD (dOp eV (aj 0) (dOp gIx (aj 1) (dC (.int 2)))))) (aM))) (dOp gIx (aj 1) (dC (.int 0)))))) (e:=(iZ (aj 0))) (δ:=[none,some (.d (wiD g)),some (.d (rwD row))]) (λs:Nat=>eP (s:Int)) (λs=>decide (mx (sli row (s:Int) g.2.2)<=g.1)) (λs:Nat=>eP (s:Int)) (aN ((row.length:Int)-g.2.2+1).toNat) (λs hs=>by
  have hs:=aZ.mp hs;have Y:(s:Int)<=(row.length:Int)-g.2.2:=by lia
  refine⟨[some (.d (.int (s:Int))),some (.d (wiD g)),some (.d (rwD row))],rfl,?_,λ_=>rfl⟩;have X:zj (aj 2) (fD (aj 0)) (fD (dOp eV (aj 0) (dOp gIx (aj 1) (dC (.int 2))))) [some (.d (.int (s:Int))),some (.d (wiD g)),some (.d (rwD row))]=some (.tuple ((sli row (s:Int) g.2.2).map .int)):=by
   rw[Nh (l:=row.map .int) (lo:=some (s:Int)) (hi:=some ((s:Int)+g.2.2)) rfl rfl rfl (sH _),zV (by lia) Y B]
  simp![X,Ji (BR (by lia) Y B),T])
 have S:∀a b c:Option U,lN 1 [1,0] [a,b,c]=[none,b,a]:=λ_ _ _=>rfl
 have Z:∀k:Int,-(2^62)<=k->k<2^62->yR (some [.int k])=some ((aN k.toNat).map λs:Nat=>eP (s:Int)):=λk h1 h2=>by
  rw[KQ h1 h2];unfold iu;rw[rO];congr 1;exact dX λs _=>by rw[kj]
 have W:iQ [rwD row]=some (.int (row.length:Int)):=by
  show some (eP ((row.map eP).length:Int))=_;rw[aq]
 have Z:=Z ((row.length:Int)-g.2.2+1) (by lia) (by lia);have V:((aN ((row.length:Int)-g.2.2+1).toNat).map λs:Nat=>eP (s:Int)).length<=100000:=by
  rw[aq,bQ];lia
 unfold jz;simp![W,i2,S,Z,C,V];rfl
def nbI(g:Wi)(e:Int)(b:Bool):Int:=if b=true then g.2.1 else if e<=g.1 then 0 else e
theorem Ef(g:Wi)(e:Int)(b:Bool):gj [.int e,wiD g,.bool b]=some (.int (nbI g e b)):=by
 have Z:gIx (wiD g) (.int 0)=some (.int g.1):=rfl;have i1:gIx (wiD g) (.int 1)=some (.int g.2.1):=rfl;show Com.gj _=_;unfold Com.gj nbI
 cases b with
 |true=>
  simp![i1]
 |false=>
  by_cases c:e<=g.1
  .simp![Z,dTr c];rw[if_neg (by decide),if_pos c]
  .simp![Z,dFa c];rw[if_neg (by decide),if_neg c]
def K4 {g:Wi}{s:Nat} (J:1<=g.2.2) (B:g.2.2<=6) (D:row.length<=1000):gG [rwD row,wiD g,.int (s:Int)]=some (rwD (Sd.put row (gp g) s)):=by
 have i2:gIx (wiD g) (.int 2)=some (.int g.2.2):=rfl;have T:=Pz row;have V:Kq (aj 0) [some (.d (rwD row)),some (.d (wiD g)),some (.d (.int (s:Int))),some (.d (.int ((s:Int)+g.2.2)))]=some ((aN row.length).map λk:Nat=>eT [.int (k:Int),.int (row.getD k 0)]):=by
  rw[<-T];rfl
 have C:=yC (g:=(gTn 2 (cM (gNl 0) (cM (gNl 1) (jH))))) (c:=(D3.lu)) (e:=(dCall gj (ak (aj 1) (ak (aj 2) (ak (lO gLe gLt (aj 3) (aj 0) (aj 4)) (aM)))))) (δ:=[none,none,some (.d (wiD g)),some (.d (.int (s:Int))),some (.d (.int ((s:Int)+g.2.2)))]) (λk:Nat=>eT [.int (k:Int),.int (row.getD k 0)]) (λk:Nat=>eP (Sd.cell (gp g) s k (row.getD k 0))) (aN row.length) (λk R=>by
  refine⟨[some (.d (.int (k:Int))),some (.d (.int (row.getD k 0))),some (.d (wiD g)),some (.d (.int (s:Int))),some (.d (.int ((s:Int)+g.2.2)))],rfl,rfl,?_⟩;have cl:∀b:Bool,(b=true<->s<=k/\k<s+g.2.2.toNat)->nbI g (row.getD k 0) b=Sd.cell (gp g) s k (row.getD k 0):=λb Z=>by
   unfold nbI Sd.cell gp;by_cases c:s<=k/\k<s+g.2.2.toNat
   .rw[if_pos (Z.mpr c),if_pos c]
   .rw[if_neg (λz=>c (Z.mp z)),if_neg c]
  by_cases Y:(s:Int)<=(k:Int)
  .rw[<-cl (decide ((k:Int)<(s:Int)+g.2.2)) (by rw[decide_eq_true_iff];lia)];simp![dTr Y,Ef]
  .rw[<-cl false (by constructor<;>intro z;cases z;lia)];simp![dFa Y,Ef])
 have S:∀a b c d:Option U,lN 2 [1,2,3] [a,b,c,d]=[none,none,b,c,d]:=λ_ _ _ _=>rfl
 have X:Sd.put row (gp g) s=(aN row.length).map λk=>Sd.cell (gp g) s k (row.getD k 0):=by
  unfold Sd.put;apply nq
  .simp
  .intro k h1 h2;have h1:k<row.length:=by simpa using h1
   rw[List.getElem_mapIdx,gC,lK,aD,aA h1];rfl
 have W:((aN row.length).map λk:Nat=>eT [.int (k:Int),.int (row.getD k 0)]).length<=100000:=by
  rw[aq,bQ];lia
 unfold gG;simp![i2,V,S,C,W,A_];rw[X];unfold rwD;rw[cX];rfl
def CK(g:Wi)(row:List Int)(S:List Tte)(ss:List Nat):List Tte:=ss.foldl (λS s=>tO S (Sd.put row (gp g) s) (row,(s:Int))) S
def fK(g:Wi)(rows:List (List Int))(S:List Tte):List Tte:=rows.foldl (λS row=>CK g row S (stN row g)) S
def Jj(S:List Tte)(k:List Int)(v:List Int×Int):(tO S k v).length<=S.length+1:=by
 unfold tO;split<;>simp
theorem Jk(g:Wi)(row:List Int):∀(ss:List Nat)(S:List Tte),(CK g row S ss).length<=S.length+ss.length
 |[],S=>aB _
 |s::ss,S=>by
  have h1:=Jk g row ss (tO S (Sd.put row (gp g) s) (row,(s:Int)));have h2:=Jj S (Sd.put row (gp g) s) (row,(s:Int));show(CK g row (tO S (Sd.put row (gp g) s) (row,(s:Int))) ss).length<=_;rw[aX];lia
def Ni(row:List Int)(g:Wi)(B:1<=g.2.2):(stN row g).length<=row.length:=by
 refine aV (tH _ _) ?_;rw[bQ];lia
def mY {g:FG}(h1:g d δ=some B) (h2:c B=some (.nx δ')):iH g c (d::k) δ=iH g c k δ':=by
 rw[iH,h1,aF,h2];rfl
def zW(k:List Int):Bf (rwD k)=some k:=o8 k
def Xn(v:List Int×Int):OD (ttV v)=some v:=by
 show(dH (v.1.map eP)).map (·,v.2)=_;rw[o8];rfl
def Xo {S:List Tte}(D:aj i δ=some (dtt S)) (h1:c δ=some (rwD k)) (h2:fv δ=some (ttV m)) (B:S.length<1000000):ud i c fv δ=some (.nx (δ.set i (some (.d (dtt (tO S k m)))))):=by
 unfold ud;rw[D,aF,h1,aF,h2,aF,HW,aF,zW,aF,Xn,aF,if_pos B]
theorem BZ {g:Wi}(O:1<=g.2.2) (B:g.2.2<=6) (J:row.length<=1000) (a:Option U):∀(ss:List Nat)(S:List Tte)(u:Option U),S.length+ss.length<1000000 ->
 ∃D,iH (gNl 4) (ud 2 (dCall gG (ak (aj 3) (ak (aj 1) (ak (aj 4) (aM))))) (dTup (ak (aj 3) (ak (aj 4) (aM))))) (ss.map λs:Nat=>eP (s:Int)) [a,some (.d (wiD g)),some (.d (dtt S)),some (.d (rwD row)),u]=some (.nx [a,some (.d (wiD g)),some (.d (dtt (CK g row S ss))),some (.d (rwD row)),D])
 |[],S,u,_=>⟨u,rfl⟩
 |s::ss,S,u,Z=>by
  rw[aX]at Z;have b:=K4 (row:=row) (g:=g) (s:=s) O B J;have h1:(dCall gG (ak (aj 3) (ak (aj 1) (ak (aj 4) (aM))))) [a,some (.d (wiD g)),some (.d (dtt S)),some (.d (rwD row)),some (.d (.int (s:Int)))]=some (rwD (Sd.put row (gp g) s)):=by
   simp![b]
  have h2:(dTup (ak (aj 3) (ak (aj 4) (aM)))) [a,some (.d (wiD g)),some (.d (dtt S)),some (.d (rwD row)),some (.d (.int (s:Int)))]=some (ttV (row,(s:Int))):=by
   simp![Com.sz (show 2<=1000000 by decide)];rfl
  have st:=Xo (i:=2) (S:=S) rfl h1 h2 (by lia);have dl:=Jj S (Sd.put row (gp g) s) (row,(s:Int));obtain⟨D,e⟩:=BZ O B J a ss (tO S (Sd.put row (gp g) s) (row,(s:Int))) (some (.d (.int (s:Int)))) (by lia);exact⟨D,(mY rfl st).trans e⟩
theorem B_ {g:Wi}(J:1<=g.2.2) (B:g.2.2<=6) (a:Option U):∀(rows:List (List Int))(S:List Tte)(u v:Option U),(∀r∈rows,r.length<=100)->S.length+100*rows.length<1000000 ->
 ∃D O,iH (gNl 3) (mC (xV (dCall jz (ak (aj 3) (ak (aj 1) (aM))))) (gNl 4) (ud 2 (dCall gG (ak (aj 3) (ak (aj 1) (ak (aj 4) (aM))))) (dTup (ak (aj 3) (ak (aj 4) (aM)))))) (rows.map rwD) [a,some (.d (wiD g)),some (.d (dtt S)),u,v]=some (.nx [a,some (.d (wiD g)),some (.d (dtt (fK g rows S))),D,O])
 |[],S,u,v,_,_=>⟨u,v,rfl⟩
 |row::rows,S,u,v,Z,W=>by
  rw[aX]at W;have R:=Z row ao;have st:=K3 (row:=row) (g:=g) J B (by lia);have T:=Ni row g J;obtain⟨D,e⟩:=BZ (g:=g) (row:=row) J B (by lia) a (stN row g) S v (by lia);have Q:=Jk g row (stN row g) S;have V:(mC (xV (dCall jz (ak (aj 3) (ak (aj 1) (aM))))) (gNl 4) (ud 2 (dCall gG (ak (aj 3) (ak (aj 1) (ak (aj 4) (aM))))) (dTup (ak (aj 3) (ak (aj 4) (aM)))))) [a,some (.d (wiD g)),some (.d (dtt S)),some (.d (rwD row)),v]=some (.nx [a,some (.d (wiD g)),some (.d (dtt (CK g row S (stN row g)))),some (.d (rwD row)),D]):=by
   simp![st];exact e
  obtain⟨X,Y,e2⟩:=B_ J B a rows (CK g row S (stN row g)) (some (.d (rwD row))) D (λr h=>Z r (au _ h)) (by lia);exact⟨X,Y,(mY rfl V).trans e2⟩
def Jl {g:Wi}(J:1<=g.2.2) (B:g.2.2<=6) (D:∀r∈rows,r.length<=100) (O:rows.length<=1000):cQ [.list (rows.map rwD),wiD g]=some (dtt (fK g rows [])):=by
 obtain⟨u,v,e⟩:=B_ (g:=g) J B (some (.d (.list (rows.map rwD)))) rows [] none none D (by simp;lia);have e:iH (gNl 3) (mC (xV (dCall jz (ak (aj 3) (ak (aj 1) (aM))))) (gNl 4) (ud 2 (dCall gG (ak (aj 3) (ak (aj 1) (ak (aj 4) (aM))))) (dTup (ak (aj 3) (ak (aj 4) (aM)))))) (rows.map rwD) [some (.d (.list (rows.map rwD))),some (.d (wiD g)),some (.d (.dict [])),none,none]=some (.nx [some (.d (.list (rows.map rwD))),some (.d (wiD g)),some (.d (dtt (fK g rows []))),u,v]):=e;unfold cQ;simp![];rw[e];simp![]
noncomputable def bK(S:List Tte):List (List Int):=S.map (·.1)
def lv:List (List Int)->List Wi->List (List Tte)
 |_,[]=>[]
 |rows,g::gs=>fK g rows []::if fK g rows []=[]then []else lv (XJ.dO (bK (fK g rows []))) gs
def nG(rows:List (List Int)):lv rows []=[]:=by unfold lv;rfl
def jT(rows:List (List Int))(g:Wi)(gs:List Wi):lv rows (g::gs)=fK g rows []::if fK g rows []=[]then []else lv (XJ.dO (bK (fK g rows []))) gs:=by conv=>lhs;unfold lv
def Few(L:List (List Tte)):Prop:=∀S∈L,S.length<=400/\∀k∈bK S,k≠[]/\k.length<=100
def Ca(S:List Tte):pP (dtt S)=some (bK S):=by
 show(match zf (ttP S)with|some Z=>some (lC (λq:Tte=>q.1) Z)|none=>tsD (ttP S))=_;rw[Fx];rfl
def Gn(S:List Tte):XJ.m8 [dtt S]=some (.int (S.length:Int)):=by
 show(pP (dtt S)).map (λks=>eP (ks.length:Int))=_;rw[Ca];show some (eP ((bK S).length:Int))=_;unfold bK;rw[aq]
theorem Cd (h:c.length<=400) (B:∀k∈bK c,k≠[]):XJ.ju [dtt c]=some (.list ((XJ.dO (bK c)).map rwD)):=by
 show(pP (dtt c)).bind _=_;rw[Ca,aF,if_pos];refine⟨by unfold bK;rw[aq];lia,cT.mpr λk Z=>?_⟩;have:=B k Z
 cases k with
 |nil=>exact absurd rfl this
 |cons _ _=>rfl
def cW(ks:List (List Int)):(XJ.dO ks).Perm ks:=XJ.cW ks
def Ce{gs:List Wi}(h:i<gs.length):pAt (gs.map wiD) (i:Int)=some (wiD (gat gs i)):=by
 rw[ou wiD (0,0,0) (by lia) (by lia)];rfl
def gOk(g:Wi):Prop:=1<=g.2.2/\g.2.2<=6
theorem Jm (O:∀g∈m,gOk g) (a:Option U):∀(ts:List Nat)(rows:List (List Int))(acc:List (List Tte))(u v:Option U),(∀t∈ts,t<m.length)->rows.length<=1000->(∀r∈rows,r.length<=100)->acc.length+ts.length<=1000->Few (lv rows (ts.map (gat m))) ->
 (∃J D B,iH (gNl 4) (bM (bN 5 (dCall cQ (ak (aj 3) (ak (dOp gIx (aj 1) (aj 4)) (aM))))) (bM (zc 2 (aj 5)) (bM (sIf (bF (dOp gGt (dCall XJ.m8 (ak (aj 5) (aM))) (dC (.int 400)))) ((λ_=>none)) (cZ)) (bM (sIf (bF (dOp gEq (dCall XJ.m8 (ak (aj 5) (aM))) (dC (.int 0)))) (uc (aj 2)) (cZ)) (bN 3 (dCall XJ.ju (ak (aj 5) (aM)))))))) (ts.map λt:Nat=>eP (t:Int)) [a,some (.d (.list (m.map wiD))),some (.d (.list (acc.map dtt))),some (.d (.list (rows.map rwD))),u,v]=some (.nx [a,some (.d (.list (m.map wiD))),some (.d (.list ((acc++lv rows (ts.map (gat m))).map dtt))),J,D,B])) \/
 iH (gNl 4) (bM (bN 5 (dCall cQ (ak (aj 3) (ak (dOp gIx (aj 1) (aj 4)) (aM))))) (bM (zc 2 (aj 5)) (bM (sIf (bF (dOp gGt (dCall XJ.m8 (ak (aj 5) (aM))) (dC (.int 400)))) ((λ_=>none)) (cZ)) (bM (sIf (bF (dOp gEq (dCall XJ.m8 (ak (aj 5) (aM))) (dC (.int 0)))) (uc (aj 2)) (cZ)) (bN 3 (dCall XJ.ju (ak (aj 5) (aM)))))))) (ts.map λt:Nat=>eP (t:Int)) [a,some (.d (.list (m.map wiD))),some (.d (.list (acc.map dtt))),some (.d (.list (rows.map rwD))),u,v]=some (.ex "" "" (.list ((acc++lv rows (ts.map (gat m))).map dtt)))
 |[],rows,acc,u,v,_,_,_,_,_=>.inl ⟨_,_,_,by simp only[eO,nG,cI];exact rfl⟩
 |t::ts,rows,acc,u,v,Q,L,T,ha,Y=>by
  rw[aX]at ha;have tl:=Q t ao;have P:gOk (gat m t):=by
   unfold gat;rw[aD,aA tl];exact O _ (cU tl)
  have V:=Jl (g:=gat m t) (rows:=rows) P.1 P.2 T L;rw[show(t::ts).map (gat m)=gat m t::ts.map (gat m)from rfl,jT]at Y ⊢;generalize H:fK (gat m t) rows []=S at V Y ⊢;obtain⟨f1,f2⟩:=Y S ao;have W:=Cd f1 λk K=>(f2 k K).1
  have tn:=Gn S;have al:(acc.map dtt).length<1000000:=by rw[aq];lia
  have N:decide ((S.length:Int)>400)=false:=dFa (by lia);have ga:=Ce tl;by_cases c:S=[]
  .subst c;refine .inr ?_;rw[if_pos rfl,aG];have R:decide ((([]:List Tte).length:Int)=0)=true:=rfl;have X:(bM (bN 5 (dCall cQ (ak (aj 3) (ak (dOp gIx (aj 1) (aj 4)) (aM))))) (bM (zc 2 (aj 5)) (bM (sIf (bF (dOp gGt (dCall XJ.m8 (ak (aj 5) (aM))) (dC (.int 400)))) ((λ_=>none)) (cZ)) (bM (sIf (bF (dOp gEq (dCall XJ.m8 (ak (aj 5) (aM))) (dC (.int 0)))) (uc (aj 2)) (cZ)) (bN 3 (dCall XJ.ju (ak (aj 5) (aM)))))))) [a,some (.d (.list (m.map wiD))),some (.d (.list (acc.map dtt))),some (.d (.list (rows.map rwD))),some (.d (.int (t:Int))),v]=some (.ex "" "" (.list ((acc++[[]]).map dtt))):=by
    simp![ga,V,al,tn];rw[dJ];rfl
   rw[iH,show(gNl 4) (.int (t:Int)) [a,some (.d (.list (m.map wiD))),some (.d (.list (acc.map dtt))),some (.d (.list (rows.map rwD))),u,v]=some [a,some (.d (.list (m.map wiD))),some (.d (.list (acc.map dtt))),some (.d (.list (rows.map rwD))),some (.d (.int (t:Int))),v]from rfl,aF,X];rfl
  .rw[if_neg c]at Y ⊢;have R:decide ((S.length:Int)=0)=false:=dFa (by
    have:S.length≠0:=λz=>c (bJ.mp z)
    lia)
   have pm:=cW (bK S);have X:(bM (bN 5 (dCall cQ (ak (aj 3) (ak (dOp gIx (aj 1) (aj 4)) (aM))))) (bM (zc 2 (aj 5)) (bM (sIf (bF (dOp gGt (dCall XJ.m8 (ak (aj 5) (aM))) (dC (.int 400)))) ((λ_=>none)) (cZ)) (bM (sIf (bF (dOp gEq (dCall XJ.m8 (ak (aj 5) (aM))) (dC (.int 0)))) (uc (aj 2)) (cZ)) (bN 3 (dCall XJ.ju (ak (aj 5) (aM)))))))) [a,some (.d (.list (m.map wiD))),some (.d (.list (acc.map dtt))),some (.d (.list (rows.map rwD))),some (.d (.int (t:Int))),v]=some (.nx [a,some (.d (.list (m.map wiD))),some (.d (.list ((acc++[S]).map dtt))),some (.d (.list ((XJ.dO (bK S)).map rwD))),some (.d (.int (t:Int))),some (.d (dtt S))]):=by
    simp![ga,V,al,tn,N,R,W];rw[dJ];rfl
   have Z:=Jm O a ts (XJ.dO (bK S)) (acc++[S]) (some (.d (.int (t:Int)))) (some (.d (dtt S))) (λq M=>Q q (au _ M)) (by rw[pm.length_eq];unfold bK;rw[aq];lia) (λr T=>(f2 r (pm.mem_iff.mp T)).2) (by rw[bL];simp;lia) (λI h'=>Y I (au _ h'));rw[show acc++[S]++lv (XJ.dO (bK S)) (ts.map (gat m))=acc++S::lv (XJ.dO (bK S)) (ts.map (gat m))by simp]at Z;rw[aG];rcases Z with⟨J,D,B,Z⟩|Z
   .exact .inl ⟨J,D,B,(mY rfl X).trans Z⟩
   .exact .inr ((mY rfl X).trans Z)
def inT(gs:List Wi)(ts:List Nat):List Wi:=ts.map (gat gs)
def all_gen (D:∀g∈c,gOk g) (hl:c.length<64) (O:k.length<=100) (B:jq [.list (c.map wiD)]=some (.list (m.map λt:Nat=>eP (t:Int)))) (pm:m.Perm (aN c.length)) (J:Few (lv [k] (inT c m))) :
 mW [.list (k.map .int),.list (c.map wiD)]=some (.list ((lv [k] (inT c m)).map dtt)):=by
 have tl:m.length=c.length:=by rw[pm.length_eq,bQ]
 have L:=Jm D (some (.d (.list (k.map .int)))) m [k] [] none none (λt h=>aZ.mp (pm.mem_iff.mp h)) (by simp) (λr W=>by rwa[aL.mp W]) (by simp;lia) J;have L:(∃X Y Z,iH (gNl 4) (bM (bN 5 (dCall cQ (ak (aj 3) (ak (dOp gIx (aj 1) (aj 4)) (aM))))) (bM (zc 2 (aj 5)) (bM (sIf (bF (dOp gGt (dCall XJ.m8 (ak (aj 5) (aM))) (dC (.int 400)))) ((λ_=>none)) (cZ)) (bM (sIf (bF (dOp gEq (dCall XJ.m8 (ak (aj 5) (aM))) (dC (.int 0)))) (uc (aj 2)) (cZ)) (bN 3 (dCall XJ.ju (ak (aj 5) (aM)))))))) (m.map λt:Nat=>eP (t:Int)) [some (.d (.list (k.map .int))),some (.d (.list (c.map wiD))),some (.d (.list [])),some (.d (.list [.tuple (k.map .int)])),none,none]=some (.nx [some (.d (.list (k.map .int))),some (.d (.list (c.map wiD))),some (.d (.list ((lv [k] (inT c m)).map dtt))),X,Y,Z])) \/
  iH (gNl 4) (bM (bN 5 (dCall cQ (ak (aj 3) (ak (dOp gIx (aj 1) (aj 4)) (aM))))) (bM (zc 2 (aj 5)) (bM (sIf (bF (dOp gGt (dCall XJ.m8 (ak (aj 5) (aM))) (dC (.int 400)))) ((λ_=>none)) (cZ)) (bM (sIf (bF (dOp gEq (dCall XJ.m8 (ak (aj 5) (aM))) (dC (.int 0)))) (uc (aj 2)) (cZ)) (bN 3 (dCall XJ.ju (ak (aj 5) (aM)))))))) (m.map λt:Nat=>eP (t:Int)) [some (.d (.list (k.map .int))),some (.d (.list (c.map wiD))),some (.d (.list [])),some (.d (.list [.tuple (k.map .int)])),none,none]=some (.ex "" "" (.list ((lv [k] (inT c m)).map dtt))):=L
 unfold mW;simp![ah9,A_,cg,Com.sz (show 1<=1000000 by decide),B];rcases L with⟨X,Y,Z,L⟩|L
 .rw[L];simp![Ra,Zw,Q_]
 .rw[L];rfl
def Eh : qW c k=none<->k∉bK c:=by
 unfold qW bK;rw[Option.map_eq_none_iff,jA]
 constructor
 .intro h z;obtain⟨q,Z,e⟩:=bT.mp z;exact h q Z (by simp[e])
 .intro h q Z z;exact h (bT.mpr ⟨q,Z,of_decide_eq_true z⟩)
def zX {S:List Tte}{v:List Int×Int}: (k∈bK S/\tO S k v=S)\/(k∉bK S/\tO S k v=S++[(k,v)]):=by
 by_cases h:k∈bK S
 .refine .inl ⟨h,if_pos ?_⟩
  cases e:qW S k with
  |none=>exact absurd h (Eh.mp e)
  |some _=>rfl
 .refine .inr ⟨h,if_neg ?_⟩;rw[Eh.mpr h];decide
def T8 {S:List Tte}{v:List Int×Int}{q:Tte} (h:q∈S):q∈tO S k v:=by
 rcases zX (S:=S) (k:=k) (v:=v)with⟨_,e⟩|⟨_,e⟩<;>rw[e]
 .exact h
 .exact bO _ h
def T9 {S:List Tte}{v:List Int×Int}{q:Tte} (h:q∈tO S k v):q∈S\/q=(k,v):=by
 rcases zX (S:=S) (k:=k) (v:=v)with⟨_,e⟩|⟨_,e⟩<;>rw[e]at h
 .exact .inl h
 .rcases bW.mp h with h|h
  .exact .inl h
  .exact .inr (aL.mp h)
def T_(S:List Tte)(k:List Int)(v:List Int×Int):k∈bK (tO S k v):=by
 rcases zX (S:=S) (k:=k) (v:=v)with⟨h,e⟩|⟨_,e⟩<;>rw[e]
 .exact h
 .exact bT.mpr ⟨_,bw _ (gU _),rfl⟩
def Xp {S:List Tte}{v:List Int×Int}(h:(bK S).Nodup):(bK (tO S k v)).Nodup:=by
 rcases zX (S:=S) (k:=k) (v:=v)with⟨_,e⟩|⟨Z,e⟩<;>rw[e]
 .exact h
 .unfold bK at h Z ⊢;rw[dJ,eZ];refine⟨h,by simp,λa ha b Y=>?_⟩;rw[show b=k by simpa using Y];intro z;exact Z (z▸ha)
section
variable{g:Wi}
theorem Cg {q:Tte}:∀(ss:List Nat)(S:List Tte),q∈S->q∈CK g row S ss
 |[],_,h=>h
 |_::ss,_,h=>Cg ss _ (T8 h)
theorem Jo {q:Tte}:∀(ss:List Nat)(S:List Tte),q∈CK g row S ss->q∈S\/∃s∈ss,q=(Sd.put row (gp g) s,(row,(s:Int)))
 |[],_,h=>.inl h
 |s::ss,S,h=>by
  rcases Jo ss _ h with h|⟨t,Z,e⟩
  .rcases T9 h with h|h
   .exact .inl h
   .exact .inr ⟨s,ao,h⟩
  .exact .inr ⟨t,au _ Z,e⟩
theorem Jp : ∀(ss:List Nat)(S:List Tte),∀s∈ss,Sd.put row (gp g) s∈bK (CK g row S ss)
 |[],_,s,h=>by cases h
 |t::ss,S,s,h=>by
  rcases aJ.mp h with rfl|h
  .obtain⟨q,Z,e⟩:=bT.mp (T_ S (Sd.put row (gp g) s) (row,(s:Int)));exact bT.mpr ⟨q,Cg ss _ Z,e⟩
  .exact Jp ss _ s h
theorem Nj : ∀(ss:List Nat)(S:List Tte),(bK S).Nodup->(bK (CK g row S ss)).Nodup
 |[],_,h=>h
 |_::ss,_,h=>Nj ss _ (Xp h)
theorem Jq{q:Tte}:∀(rows:List (List Int))(S:List Tte),q∈S->q∈fK g rows S
 |[],_,h=>h
 |_::rows,_,h=>Jq rows _ (Cg _ _ h)
theorem pW{q:Tte}:∀(rows:List (List Int))(S:List Tte),q∈fK g rows S->q∈S\/∃row∈rows,∃s∈stN row g,q=(Sd.put row (gp g) s,(row,(s:Int)))
 |[],_,h=>.inl h
 |row::rows,S,h=>by
  rcases pW rows _ h with h|⟨r,Z,z⟩
  .rcases Jo _ _ h with h|z
   .exact .inl h
   .exact .inr ⟨row,ao,z⟩
  .exact .inr ⟨r,au _ Z,z⟩
theorem Ci:∀(rows:List (List Int))(S:List Tte),∀row∈rows,∀s∈stN row g,Sd.put row (gp g) s∈bK (fK g rows S)
 |[],_,_,h,_,_=>by cases h
 |r::rows,S,row,h,s,hs=>by
  rcases aJ.mp h with rfl|h
  .obtain⟨q,Z,e⟩:=bT.mp (Jp (stN row g) S s hs);exact bT.mpr ⟨q,Jq rows _ Z,e⟩
  .exact Ci rows _ row h s hs
theorem zY:∀(rows:List (List Int))(S:List Tte),(bK S).Nodup->(bK (fK g rows S)).Nodup
 |[],_,h=>h
 |_::rows,_,h=>zY rows _ (Nj _ _ h)
theorem ao7 (h:c≠[]) : mx c<=z<->∀x∈c,x<=z:=by
 cases c with
 |nil=>exact absurd rfl h
 |cons a r=>
  have sp:=v9 r a
  constructor
  .intro Z x Y;have:=sp.2 x Y;have Z:mxI a r<=z:=Z;lia
  .exact λZ=>Z _ sp.1
def zZ (B:gOk g):s∈stN row g<->Sd.fits row (gp g) s:=by
 have g1:=B.1;unfold stN Sd.fits gp;dsimp only;rw[eN,aZ,decide_eq_true_iff];have Y:∀(c:(s:Int)<=(row.length:Int)-g.2.2),(mx (sli row (s:Int) g.2.2)<=g.1<->∀r,s<=r->r<s+g.2.2.toNat->row.getD r 0<=g.1):=λc=>by
  rw[ao7 (BR (by lia) c g1)];unfold sli;rw[show((s:Int)).toNat=s by lia]
  constructor
  .intro h r h1 h2;refine h _ ?_;rw[tK];refine⟨r-s,?_⟩;rw[vg,if_pos (by lia),d8,show s+(r-s)=r by lia,aD,aA (by lia)];rfl
  .intro h x W;obtain⟨j,Z⟩:=tK.mp W;rw[vg]at Z;by_cases X:j<g.2.2.toNat
   .rw[if_pos X,d8]at Z;have:=h (s+j) (by lia) (by lia);rwa[aD,Z]at this
   .rw[if_neg X]at Z;cases Z
 constructor
 .rintro⟨h1,h2⟩;have c:(s:Int)<=(row.length:Int)-g.2.2:=by lia
  exact⟨by lia,(Y c).mp h2⟩
 .rintro⟨h1,h2⟩;have c:(s:Int)<=(row.length:Int)-g.2.2:=by lia
  exact⟨by lia,(Y c).mpr h2⟩
end
theorem Nk:∀(gs:List Wi)(rows:List (List Int)),(∀g∈gs,gOk g)->[]∈lv rows gs->∀row∈rows,¬ ∃(ss:List Nat)(out:List Int),ss.length=gs.length/\Sd.Run row ((gs.map gp).zip ss) out
 |[],rows,_,h,_,_=>by rw[nG]at h;cases h
 |g::gs,rows,X,h,row,W=>by
  rintro⟨ss,out,Y,run⟩
  cases ss with
  |nil=>cases Y
  |cons s ss=>
   have run:=run;have Z:=Ci (g:=g) rows [] row W s ((zZ (X g ao)).mpr run.1);rw[jT]at h;by_cases c:fK g rows []=[]
   .rw[c]at Z
    cases Z
   .rw[if_neg c]at h;rcases aJ.mp h with h|h
    .exact c h.symm
    .exact Nk gs _ (λg' h'=>X g' (au _ h')) h _ ((cW _).mem_iff.mpr Z) ⟨ss,out,vZ.inj Y,run.2⟩
def bk:List (List Tte)->List Int->Option (List Int×List Nat)
 |[],row=>some (row,[])
 |S::L,row=>match bk L row with
  |some (r,ss)=>match qW S r with
   |some (p,z)=>some (p,z.toNat::ss)
   |none=>none
  |none=>none
theorem PK (h:k∈bK c):∃v,qW c k=some v/\(k,v)∈c:=by
 unfold qW
 cases e:c.find? λq=>decide (q.1=k)with
 |none=>
  obtain⟨q,Z,z⟩:=bT.mp h;exact absurd (jA.mp e q Z) (by simp[z])
 |some q=>
  refine⟨q.2,rfl,?_⟩;have h1:=iT e;have h2:=of_decide_eq_true (sV (p:=λq:Tte=>decide (q.1=k)) e);rwa[<-h2]
def yV:List (List Tte)->List (List Int)->List (List Int)
 |[],rows=>rows
 |[S],_=>bK S
 |_::S::L,rows=>yV (S::L) rows
theorem vR(S:List Tte)(L:List (List Tte))(rows:List (List Int)):yV (S::L) rows=yV L (bK S):=by
 induction L generalizing S rows with
 |nil=>rfl
 |cons T L Z=>
  show yV (T::L) rows=yV (T::L) (bK S);rw[Z,Z]
theorem Ua:∀(gs:List Wi)(rows:List (List Int)),(∀g∈gs,gOk g)->[]∉lv rows gs->∀row∈yV (lv rows gs) rows,∃(B:List Int)(ss:List Nat),bk (lv rows gs) row=some (B,ss)/\B∈rows/\ss.length=gs.length/\Sd.Run B ((gs.map gp).zip ss) row
 |[],rows,_,_,row,h=>⟨row,[],by rw[nG];rfl,by rw[nG]at h;exact h,rfl,rfl⟩
 |g::gs,rows,X,hn,row,h=>by
  rw[jT]at hn h ⊢;have c:fK g rows []≠[]:=λz=>hn (by rw[z];exact ao)
  rw[if_neg c]at hn h ⊢;rw[vR]at h;have pm:=cW (bK (fK g rows []));have h':row∈yV (lv (XJ.dO (bK (fK g rows []))) gs) (XJ.dO (bK (fK g rows []))):=by
   cases W:lv (XJ.dO (bK (fK g rows []))) gs with
   |nil=>
    rw[W]at h;exact pm.mem_iff.mpr h
   |cons T L=>
    rw[W,vR]at h;rwa[vR]
  obtain⟨S,ss,e,Z,U,run⟩:=Ua gs _ (λg' h'=>X g' (au _ h')) (λz=>hn (au _ z)) row h';obtain⟨v,e2,V⟩:=PK (pm.mem_iff.mp Z);rcases pW rows [] V with z|⟨B,Y,s,hs,eq⟩
  .cases z
  .injection eq with q1 q2
   subst q2;refine⟨B,s::ss,?_,Y,by rw[aX,aX,U],?_⟩
   .unfold bk;rw[e];dsimp only;rw[e2];rfl
   .show Sd.fits B (gp g) s/\Sd.Run (Sd.put B (gp g) s) ((gs.map gp).zip ss) row;rw[<-q1];exact⟨(zZ (X g ao)).mp hs,run⟩
def rN:List D->List Nat->List Nat->List D
 |P,t::ts,s::ss=>(rN P ts ss).set t (.int (s:Int))
 |P,_,_=>P
theorem xJ:∀(P:List D)(ts ss:List Nat),(rN P ts ss).length=P.length
 |P,t::ts,s::ss=>by rw[rN,cJ,xJ]
 |P,[],_=>by unfold rN;rfl
 |P,_::_,[]=>by unfold rN;rfl
def zpr(ts:List Nat)(L:List (List Tte)):List D:=(ts.zip L).map λq=>eT [.int (q.1:Int),dtt q.2]
def Ub (h:qW c k=some m):lR (dtt c) (rwD k)=some (ttV m):=by
 unfold lR;rw[HW,aF,zW,aF,h];rfl
def yF(S:List Tte):List Int:=(XJ.dO (bK S)).getD 0 []
def Jr:List (List Tte)->List Int
 |[]=>[]
 |[S]=>yF S
 |_::S::L=>Jr (S::L)
def PN(S T:List Tte)(L:List (List Tte)):Jr (S::T::L)=Jr (T::L):=rfl
theorem Ei {a b:Option U}{n:Nat}:∀(ts:List Nat)(L:List (List Tte))(P:List D)(B:List Int)(ss:List Nat)(u v:Option U)(m:List D),L≠[]->ts.length=L.length->(∀t∈ts,t<P.length)->Few L->(∀S∈L,S≠[]/\∀q∈S,0<=q.2.2)->bk L (Jr L)=some (B,ss) ->
 ∃u' v',iH (gTn 2 (cM (gNl 4) (cM (gNl 5) (jH)))) (bM (sIf (bF (dUn Ez (aj 3))) (bN 3 (dOp gIx (dCall XJ.ju (ak (aj 5) (aM))) (dC (.int 0)))) (cZ)) (bM (Hq 2 (aj 4) (dOp gIx (dOp lR (aj 5) (aj 3)) (dC (.int 1)))) (bN 3 (dOp gIx (dOp lR (aj 5) (aj 3)) (dC (.int 0)))))) ((zpr ts L).reverse++m) [a,b,some (.d (.list P)),some (.d .none),u,v]=iH (gTn 2 (cM (gNl 4) (cM (gNl 5) (jH)))) (bM (sIf (bF (dUn Ez (aj 3))) (bN 3 (dOp gIx (dCall XJ.ju (ak (aj 5) (aM))) (dC (.int 0)))) (cZ)) (bM (Hq 2 (aj 4) (dOp gIx (dOp lR (aj 5) (aj 3)) (dC (.int 1)))) (bN 3 (dOp gIx (dOp lR (aj 5) (aj 3)) (dC (.int 0)))))) m [a,b,some (.d (.list (rN P ts ss))),some (.d (rwD B)),u',v']
 |[],L,P,B,ss,u,v,m,N,V,_,_,_,_=>by
  cases L with
  |nil=>exact absurd rfl N
  |cons _ _=>cases V
 |t::ts,[],P,B,ss,u,v,m,N,_,_,_,_,_=>absurd rfl N
 |t::ts,S::L,P,B,ss,u,v,m,_,V,F,E,G,Z=>by
  have V:=vZ.inj V;have tl:=F t ao;obtain⟨f1,f2⟩:=E S ao;obtain⟨z1,z2⟩:=G S ao;have zr:(zpr (t::ts) (S::L)).reverse++m=(zpr ts L).reverse++(eT [.int (t:Int),dtt S]::m):=by
   unfold zpr;rw[pG,aG,jQ,aP];rfl
  rw[zr];have I:∀{r:List Int}{v:List Int×Int},qW S r=some v->0<=v.2:=λ{r v} h=>by
   unfold qW at h
   cases e:S.find? λq=>decide (q.1=r)with
   |none=>rw[e]at h;cases h
   |some q=>
    rw[e]at h
    cases h;exact z2 q (iT e)
  have i1:∀v:List Int×Int,gIx (ttV v) (.int 1)=some (.int v.2):=λ_=>rfl
  have H:∀v:List Int×Int,gIx (ttV v) (.int 0)=some (rwD v.1):=λ_=>rfl
  have A:isNone .none=true:=rfl;have nr:∀r:List Int,isNone (rwD r)=false:=λ_=>rfl
  have g1:∀(x:Option U)(Q:List D)(u v:Option U),(gTn 2 (cM (gNl 4) (cM (gNl 5) (jH)))) (eT [.int (t:Int),dtt S]) [a,b,some (.d (.list Q)),x,u,v]=some [a,b,some (.d (.list Q)),x,some (.d (.int (t:Int))),some (.d (dtt S))]:=λ_ _ _ _=>rfl
  by_cases c:L=[]
  .subst c;obtain rfl:ts=[]:=bJ.mp V;have Z:(match qW S (yF S)with|some (p,z)=>some (p,z.toNat::[])|none=>none)=some (B,ss):=Z
   cases Y:qW S (yF S)with
   |none=>rw[Y]at Z;cases Z
   |some w=>
    rw[Y]at Z
    cases Z;have w0:=I Y;have gt:=Ub Y;have C:=Cd f1 λk Y=>(f2 k Y).1
    have l:0<(XJ.dO (bK S)).length:=by
     rw[(cW _).length_eq];unfold bK;rw[aq];exact k_.mpr z1
    have fa:pAt ((XJ.dO (bK S)).map rwD) 0=some (rwD (yF S)):=by
     rw[ou rwD [] (by lia) (by lia)];rfl
    have O:=M_ tl;have M:(bM (sIf (bF (dUn Ez (aj 3))) (bN 3 (dOp gIx (dCall XJ.ju (ak (aj 5) (aM))) (dC (.int 0)))) (cZ)) (bM (Hq 2 (aj 4) (dOp gIx (dOp lR (aj 5) (aj 3)) (dC (.int 1)))) (bN 3 (dOp gIx (dOp lR (aj 5) (aj 3)) (dC (.int 0)))))) [a,b,some (.d (.list P)),some (.d .none),some (.d (.int (t:Int))),some (.d (dtt S))]=some (.nx [a,b,some (.d (.list (P.set t (.int w.2)))),some (.d (rwD w.1)),some (.d (.int (t:Int))),some (.d (dtt S))]):=by
     simp![A,C,fa,gt,i1,H,O,aF]
    refine⟨some (.d (.int (t:Int))),some (.d (dtt S)),(mY (g1 _ _ _ _) M).trans ?_⟩;rw[rN,show rN P [] []=P by unfold rN;rfl,show((w.2.toNat:Nat):Int)=w.2 by lia]
  .obtain⟨T,J,rfl⟩:=List.exists_cons_of_ne_nil c;rw[PN]at Z;unfold bk at Z
   cases W:bk (T::J) (Jr (T::J))with
   |none=>rw[W]at Z;cases Z
   |some q=>
    obtain⟨R,X⟩:=q;rw[W]at Z;dsimp only at Z
    cases Y:qW S R with
    |none=>rw[Y]at Z;cases Z
    |some w=>
     rw[Y]at Z
     cases Z;have w0:=I Y;have gt:=Ub Y;obtain⟨o,s,e⟩:=Ei (a:=a) (b:=b) (n:=n) ts (T::J) P R X u v (eT [.int (t:Int),dtt S]::m) (by simp) V (λq y=>F q (au _ y)) (λK h'=>E K (au _ h')) (λK h'=>G K (au _ h')) W;have O:pIx (rN P ts X).length (t:Int)=some t:=M_ (by rw[xJ];exact tl);have M:(bM (sIf (bF (dUn Ez (aj 3))) (bN 3 (dOp gIx (dCall XJ.ju (ak (aj 5) (aM))) (dC (.int 0)))) (cZ)) (bM (Hq 2 (aj 4) (dOp gIx (dOp lR (aj 5) (aj 3)) (dC (.int 1)))) (bN 3 (dOp gIx (dOp lR (aj 5) (aj 3)) (dC (.int 0)))))) [a,b,some (.d (.list (rN P ts X))),some (.d (rwD R)),some (.d (.int (t:Int))),some (.d (dtt S))]=some (.nx [a,b,some (.d (.list ((rN P ts X).set t (.int w.2)))),some (.d (rwD w.1)),some (.d (.int (t:Int))),some (.d (dtt S))]):=by
      simp![nr,gt,i1,H,O,aF]
     refine⟨some (.d (.int (t:Int))),some (.d (dtt S)),e.trans ((mY (g1 _ _ _ _) M).trans ?_)⟩;rw[rN,show((w.2.toNat:Nat):Int)=w.2 by lia]
theorem Js : ∀(ts ss:List Nat),ts.length=ss.length->∀i,i∈ts->i<k.length->(rN k ts ss)[i]? = some (.int ((ss.getD (ts.idxOf i) 0:Nat):Int))
 |[],_,_,i,h,_=>by cases h
 |_::_,[],h,_,_,_=>by cases h
 |t::ts,s::ss,Y,i,hi,Z=>by
  rw[rN,mF];by_cases c:t=i
  .subst c;rw[if_pos rfl,if_pos (by rwa[xJ])];simp
  .rw[if_neg c];rcases aJ.mp hi with z|hi
   .exact absurd z.symm c
   .rw[Js ts ss (vZ.inj Y) i hi Z];have X:(t==i)=false:=by simpa using c
    rw[List.idxOf_cons,X];rfl
def Jt(n:Nat)(ts ss:List Nat):List Int:=(aN n).map λi=>((ss.getD (ts.idxOf i) 0:Nat):Int)
def Xq (pm:k.Perm (aN n)) (B:k.length=ss.length):rN (aO n .none) k ss=(Jt n k ss).map .int:=by
 apply dY;intro i;unfold Jt;rw[cX,aW];by_cases c:i<n
 .rw[Js k ss B i (pm.mem_iff.mpr (aZ.mpr c)) (by simpa using c),dU c];rfl
 .rw[bx (by rw[xJ,bD];lia),bx (by rw[bQ];lia)];rfl
theorem Nm:∀(ts:List Nat)(L:List (List Tte)),jV (ts.map λt:Nat=>eP (t:Int)) (L.map dtt)=zpr ts L
 |[],_=>by simp[jV,zpr]
 |_::_,[]=>by simp[jV,zpr]
 |t::ts,S::L=>by
  show eT [.int (t:Int),dtt S]::jV (ts.map λt:Nat=>eP (t:Int)) (L.map dtt)=_;rw[Nm ts L];rfl
theorem ao8{k:Nat}(h:k<=1000):oY (.list [.none]) (.int (k:Int))=some (.list (aO k .none)):=by
 show(if [PyData.none].length*((k:Int)).toNat<=1000000/\-(2^63)<=(k:Int)/\(k:Int)<2^63 then some (f8 (aO ((k:Int)).toNat [PyData.none]).flatten)else none)=_;rw[if_pos ⟨by simp;lia,by lia,by lia⟩,show((k:Int)).toNat=k by lia];congr 2
 induction k with
 |zero=>rfl
 |succ k Z=>rw[cD,eY,Z (by lia),cD];rfl
section
variable{gs:List Wi}{L:List (List Tte)}
def vq (hl:gs.length<64) (O:jq [.list (gs.map wiD)]=some (.list (ts.map λt:Nat=>eP (t:Int)))) (pm:ts.Perm (aN gs.length)) (D:ts.length=L.length) (J:ts.length=ss.length) (hf:Few L) (hz:∀S∈L,S≠[]/\∀q∈S,0<=q.2.2) (hb:L≠[]->bk L (Jr L)=some (B,ss)) :
 mz [.list (L.map dtt),.list (gs.map wiD)]=some (.list ((Jt gs.length ts ss).map .int)):=by
 have tl:ts.length=gs.length:=by rw[pm.length_eq,bQ]
 have U:=ao8 (k:=gs.length) (by lia);have V:yq (.list (ts.map λt:Nat=>eP (t:Int))) (.list (L.map dtt))=some (.list (zpr ts L)):=by
  show(if(ts.map λt:Nat=>eP (t:Int)).length<=1000 then some (f8 (jV _ _))else none)=_;rw[if_pos (by rw[aq];lia),Nm]
 have T:Vt (dOp yq (dCall jq (ak (aj 1) (aM))) (aj 0)) [some (.d (.list (L.map dtt))),some (.d (.list (gs.map wiD))),some (.d (.list (aO gs.length .none))),some (.d .none),none,none]=some (zpr ts L).reverse:=by
  unfold Vt;have:(dOp yq (dCall jq (ak (aj 1) (aM))) (aj 0)) [some (.d (.list (L.map dtt))),some (.d (.list (gs.map wiD))),some (.d (.list (aO gs.length .none))),some (.d .none),none,none]=some (.list (zpr ts L)):=by
   simp![O,V]
  rw[this];rfl
 have fl:flats ((Jt gs.length ts ss).map eP)=true:=sH _;have lo:∃W Y Z,iH (gTn 2 (cM (gNl 4) (cM (gNl 5) (jH)))) (bM (sIf (bF (dUn Ez (aj 3))) (bN 3 (dOp gIx (dCall XJ.ju (ak (aj 5) (aM))) (dC (.int 0)))) (cZ)) (bM (Hq 2 (aj 4) (dOp gIx (dOp lR (aj 5) (aj 3)) (dC (.int 1)))) (bN 3 (dOp gIx (dOp lR (aj 5) (aj 3)) (dC (.int 0)))))) (zpr ts L).reverse [some (.d (.list (L.map dtt))),some (.d (.list (gs.map wiD))),some (.d (.list (aO gs.length .none))),some (.d .none),none,none]=some (.nx [some (.d (.list (L.map dtt))),some (.d (.list (gs.map wiD))),some (.d (.list ((Jt gs.length ts ss).map .int))),W,Y,Z]):=by
  by_cases c:L=[]
  .subst c;have X:=bJ.mp D;have R:=bJ.mp (by rw[<-tl,X];rfl);subst X R;exact⟨_,_,_,rfl⟩
  .obtain⟨Y,Z,e⟩:=Ei (a:=some (.d (.list (L.map dtt)))) (b:=some (.d (.list (gs.map wiD)))) (n:=0) ts L (aO gs.length .none) B ss none none [] c D (λt h=>by rw[bD];exact aZ.mp (pm.mem_iff.mp h)) hf hz (hb c);rw[cI,Xq pm J]at e;exact⟨_,_,_,e⟩
 obtain⟨W,Y,Z,lo⟩:=lo;unfold mz;simp![lMp,Com.sz (show 1<=1000000 by decide),U,T];rw[lo];simp![fl]
end
theorem Uc:∀(gs:List Wi)(rows:List (List Int)),[]∉lv rows gs->(lv rows gs).length=gs.length
 |[],rows,_=>by rw[nG];rfl
 |g::gs,rows,h=>by
  rw[jT]at h ⊢;have c:fK g rows []≠[]:=λz=>h (by rw[z];exact ao)
  rw[if_neg c]at h ⊢;rw[aX,aX,Uc gs _ λz=>h (au _ z)]
theorem K5:∀(gs:List Wi)(rows:List (List Int)),[]∈lv rows gs->∃B,lv rows gs=B++[[]]/\[]∉B
 |[],rows,h=>by rw[nG]at h;cases h
 |g::gs,rows,h=>by
  rw[jT]at h ⊢;by_cases c:fK g rows []=[]
  .rw[if_pos c,c];exact⟨[],rfl,by simp⟩
  .rw[if_neg c]at h ⊢;rcases aJ.mp h with h|h
   .exact absurd h.symm c
   .obtain⟨B,e,hn⟩:=K5 gs _ h;rw[e];refine⟨fK g rows []::B,rfl,λz=>?_⟩;rcases aJ.mp z with z|z
    .exact c z.symm
    .exact hn z
theorem Ud:∀(gs:List Wi)(rows:List (List Int))(S:List Tte),S∈lv rows gs->∀q∈S,0<=q.2.2
 |[],rows,S,h,_,_=>by rw[nG]at h;cases h
 |g::gs,rows,S,h,q,Z=>by
  rw[jT]at h;rcases aJ.mp h with rfl|h
  .rcases pW rows [] Z with z|⟨r,_,s,_,e⟩
   .cases z
   .rw[e];show(0:Int)<=(s:Int);lia
  .by_cases c:fK g rows []=[]
   .rw[if_pos c]at h;cases h
   .rw[if_neg c]at h;exact Ud gs _ S h q Z
def PX (h:c≠[]):yF c∈bK c:=by
 have Z:0<(XJ.dO (bK c)).length:=by
  rw[(cW _).length_eq];unfold bK;rw[aq];exact k_.mpr h
 refine(cW _).mem_iff.mp ?_;unfold yF;rw[aD,aA Z];exact cU Z
theorem Ju:∀(L:List (List Tte))(rows:List (List Int)),L≠[]->[]∉L->Jr L∈yV L rows
 |[],_,h,_=>absurd rfl h
 |[S],rows,_,hn=>PX λz=>hn (by rw[z];exact ao)
 |_::S::L,rows,_,hn=>Ju (S::L) rows (by simp) λz=>hn (au _ z)
def Gq:pAt (l++[d]) (-1)=some d:=by
 unfold pAt pIx;simp;rw[if_pos (by lia),aF,show(-1+((l.length:Int)+1)).toNat=l.length by lia,bV (aB _)];simp
section
variable{gs:List Wi}
def Xr(hg:∀g∈gs,gOk g)(O:gs.length<64)(D:hs.length<=100)(J:jq [.list (gs.map wiD)]=some (.list (ts.map λt:Nat=>eP (t:Int))))(pm:ts.Perm (aN gs.length))(B:Few (lv [hs] (inT gs ts)))(hn:[]∈lv [hs] (inT gs ts)):
 eF [.list (hs.map .int),.list (gs.map wiD)]=some (.tuple [.str "none", .list ((lv [hs] (inT gs ts)).map λS=>f8 ((XJ.dO (bK S)).map rwD))]):=by
 have al:=all_gen hg O D J pm B;obtain⟨M,e,_⟩:=K5 _ _ hn;generalize Q:lv [hs] (inT gs ts)=L at al B e ⊢;have tn:=Gn [];have X:pAt (L.map dtt) (-1)=some (dtt []):=by
  rw[e,dJ];exact Gq
 have W:decide (((L.map dtt).length:Int)>0)=true:=dTr (by rw[e];simp);have C:=yC (g:=(gNl 0)) (c:=(D3.lu)) (e:=(dCall XJ.ju (ak (aj 0) (aM)))) (δ:=[none]) dtt (λS=>f8 ((XJ.dO (bK S)).map rwD)) L (λS Z=>by
  refine⟨[some (.d (dtt S))],rfl,rfl,?_⟩;have Y:=Cd (B S Z).1 λk R=>((B S Z).2 k R).1
  simp![Y])
 have P:∀a b c:Option U,lN 1 [] [a,b,c]=[none]:=λ_ _ _=>rfl
 have N:decide (((([]:List Tte).length:Nat):Int)=0)=true:=rfl;have V:(L.map dtt).length<=100000:=by
  have:L.length<=gs.length:=by
   rw[<-Q];have:∀(gs:List Wi)(rows:List (List Int)),(lv rows gs).length<=gs.length:=λgs=>by
    induction gs with
    |nil=>exact λrows=>by rw[nG];exact aB _
    |cons g gs T=>
     intro rows;rw[jT,aX,aX];split
     .simp
     .exact rB (T _)
   refine aV (this _ _) ?_;unfold inT;rw[aq,pm.length_eq,bQ];exact aB _
  rw[aq];lia
 unfold eF;simp![al,W,X,tn,V,P,C,Com.sz (show 2<=1000000 by decide)]
def Ue(hg:∀g∈gs,gOk g)(O:gs.length<64)(wl:hs.length<=100)(J:jq [.list (gs.map wiD)]=some (.list (ts.map λt:Nat=>eP (t:Int))))(pm:ts.Perm (aN gs.length))(B:Few (lv [hs] (inT gs ts)))(hn:[]∉lv [hs] (inT gs ts)):
 ∃(ss:List Nat)(out:List Int),ss.length=ts.length/\Sd.Run hs (((inT gs ts).map gp).zip ss) out/\eF [.list (hs.map .int),.list (gs.map wiD)]=some (.tuple [.str "laid", .list ((Jt gs.length ts ss).map .int)]):=by
 have al:=all_gen hg O wl J pm B;have W:=Uc _ _ hn;have it:(inT gs ts).length=ts.length:=by unfold inT;rw[aq]
 have M:∀g∈inT gs ts,gOk g:=λg h=>by
  obtain⟨t,h1,rfl⟩:=bT.mp h;have:=aZ.mp (pm.mem_iff.mp h1);unfold gat;rw[aD,aA this];exact hg _ (cU this)
 have Y:∃(ss:List Nat)(out:List Int),ss.length=ts.length/\Sd.Run hs (((inT gs ts).map gp).zip ss) out/\(lv [hs] (inT gs ts)≠[]->bk (lv [hs] (inT gs ts)) (Jr (lv [hs] (inT gs ts)))=some (hs,ss)):=by
  by_cases c:lv [hs] (inT gs ts)=[]
  .have R:=bJ.mp (by rw[<-it,<-W,c];rfl);subst R;exact⟨[],hs,rfl,rfl,λz=>absurd c z⟩
  .obtain⟨K,ss,e,P,X,run⟩:=Ua _ _ M hn _ (Ju _ [hs] c hn);rw[aL.mp P]at e run;exact⟨ss,_,X.trans it,run,λ_=>e⟩
 obtain⟨ss,out,V,run,N⟩:=Y;have pl:=vq O J pm (by rw[W,it]) V.symm B (λS h=>⟨λz=>hn (z▸h),Ud _ _ S h⟩) N;refine⟨ss,out,V,run,?_⟩;generalize I:lv [hs] (inT gs ts)=L at al B hn pl W;unfold eF;by_cases c:L=[]
 .subst c;have al:=al;have pl:mz [.list [],.list (gs.map wiD)]=some (.list ((Jt gs.length ts ss).map .int)):=pl;have U:decide (((([]:List D).length:Nat):Int)>0)=false:=rfl;simp![al,pl,Com.sz (show 2<=1000000 by decide)]
 .obtain⟨Z,S,rfl⟩:∃Z S,L=Z++[S]:=⟨L.dropLast,L.getLast c,(List.dropLast_concat_getLast c).symm⟩;have U:decide ((((Z++[S]).map dtt).length:Int)>0)=true:=dTr (by simp);have Q:pAt ((Z++[S]).map dtt) (-1)=some (dtt S):=by
   rw[dJ];exact Gq
  have tn:=Gn S;have T:decide ((S.length:Int)=0)=false:=dFa λz=>hn (by
   have:S=[]:=bJ.mp (by lia);rw[this];simp)
  simp![al,U,Q,tn,T,pl,Com.sz (show 2<=1000000 by decide)]
end
def pr(gs:List Wi)(ts ss:List Nat)(t:Nat):Sd.Pl:=(gp (gat gs t),ss.getD (ts.idxOf t) 0)
theorem Ug : ∀(ts ss:List Nat),ts.Nodup->ts.length=ss.length->((inT c ts).map gp).zip ss=ts.map (pr c ts ss)
 |ts,ss,nd,Z=>by
  unfold inT;rw[cX];apply dY;intro i;rw[aW];by_cases hi:i<ts.length
  .have hs:i<ss.length:=by lia
   rw[List.getElem?_zip_eq_some.mpr ⟨(by rw[aW,aA hi];rfl:(ts.map (gp∘gat c))[i]? = some (gp (gat c ts[i]),ss[i]).1),(aA hs:ss[i]? = some (gp (gat c ts[i]),ss[i]).2)⟩,aA hi];have ix:=List.Nodup.idxOf_getElem nd i hi;show _=some (gp (gat c ts[i]),ss.getD (ts.idxOf ts[i]) 0);rw[ix,aD,aA hs];rfl
  .rw[bx (by simp;lia),bx (by lia)];rfl
def K6{p q:Sd.Pl}(h:Sd.apart p q):Sd.apart q p:=by
 unfold Sd.apart at h ⊢;rcases h with h|h|h|h
 .exact .inr (.inl h)
 .exact .inl h
 .exact .inr (.inr (.inr h))
 .exact .inr (.inr (.inl h))
def Jw (p:k.Perm m) (h:Sd.Sit c k):Sd.Sit c m:=
 ⟨λx Z=>h.1 x (p.mem_iff.mpr Z),p.pairwise h.2 λ{x y} z=>K6 z⟩
def std(gs:List Wi)(f:Nat->Nat):List Sd.Pl:=(aN gs.length).map λi=>(gp (gat gs i),f i)
def Jx {g:Wi}{s:Nat} (B:gOk g):roB c g (s:Int)=true<->Sd.home c (gp g,s):=by
 have:=zZ (g:=g) (row:=c) (s:=s) B;unfold Sd.home;rw[<-this];unfold roB stN;rw[eN,aZ,aK,aK,decide_eq_true_iff,decide_eq_true_iff];have:=B.1
 constructor
 .rintro⟨⟨h1,h2⟩,Z⟩;exact⟨by lia,Z⟩
 .rintro⟨h1,Z⟩;exact⟨⟨by lia,by lia⟩,Z⟩
def Np {p q:Nat} (D:gOk c) (B:gOk k):apB c (p:Int) k (q:Int)=true<->Sd.apart (gp c,p) (gp k,q):=by
 have:=D.1;have:=B.1;unfold apB Sd.apart gp;simp only[oE,decide_eq_true_iff]
 constructor
 .rintro((h|h)|(h|h))
  .exact .inl h
  .exact .inr (.inl h)
  .exact .inr (.inr (.inl (by lia)))
  .exact .inr (.inr (.inr (by lia)))
 .rintro(h|h|h|h)
  .exact .inl (.inl h)
  .exact .inl (.inr h)
  .exact .inr (.inl (by lia))
  .exact .inr (.inr (by lia))
def Uh (B:∀g∈k,grOk g/\gOk g) (f:Nat->Nat):laB c k ((aN k.length).map λi=>((f i:Nat):Int))=true<->Sd.Sit c (std k f):=by
 have Y:∀i,i<k.length->grOk (gat k i)/\gOk (gat k i):=λi hi=>by
  unfold gat;rw[aD,aA hi];exact B _ (cU hi)
 have W:∀i,i<k.length->((aN k.length).map λi=>((f i:Nat):Int)).getD i 0=((f i:Nat):Int):=λi hi=>by
  rw[aD,aW,dU hi];rfl
 rw[vQ];unfold Sd.Sit std
 constructor
 .rintro⟨_,h1,h2⟩;refine⟨λp V=>?_,?_⟩
  .obtain⟨i,hi,rfl⟩:=bT.mp V;have hi:=aZ.mp hi;have:=h1 i hi;rw[W i hi]at this;exact(Jx (Y i hi).2).mp this
  .rw[gY,dF];intro i j hi Z X;simp only[lK];have hi:i<k.length:=by simpa using hi
   have Z:j<k.length:=by simpa using Z
   have:=h2 j Z;have:=cT.mp this i (aZ.mpr X);rw[W j Z,W i hi,<-yE (Y j Z).1 (Y i hi).1]at this;exact(Np (Y i hi).2 (Y j Z).2).mp this
 .rintro⟨h1,h2⟩;refine⟨by simp,λi hi=>?_,λj Z=>?_⟩
  .rw[W i hi];exact(Jx (Y i hi).2).mpr (h1 _ (bT.mpr ⟨i,aZ.mpr hi,rfl⟩))
  .refine cT.mpr λi hi=>?_
   have X:=aZ.mp hi;have hi:i<k.length:=by lia
   rw[W j Z,W i hi,<-yE (Y j Z).1 (Y i hi).1];refine(Np (Y i hi).2 (Y j Z).2).mpr ?_;rw[gY,dF]at h2;have:=h2 i j (by simpa using hi) (by simpa using Z) X;simpa using this
section
variable{gs:List Wi}
def ad3 {g:Wi}(h:grOk g):Sd.gok (gp g):=by
 have a:=h.f;have b:=h.b;have c:=h.s;unfold Sd.gok gp;exact⟨a,b,by dsimp only;lia⟩
def Nq(B:∀g∈gs,grOk g/\gOk g)(pm:ts.Perm (aN gs.length)){f:Nat->Nat}:∀p∈ts.map (λt=>((gp (gat gs t),f t):Sd.Pl)),Sd.gok p.1:=λp Z=>by
 obtain⟨t,h,rfl⟩:=bT.mp Z;have:=aZ.mp (pm.mem_iff.mp h);refine ad3 (g:=gat gs t) ?_;unfold gat;rw[aD,aA this];exact(B _ (cU this)).1
def Jy(pw:ts.Pairwise λa b=>(gat gs a).1<=(gat gs b).1){f:Nat->Nat}:(ts.map (λt=>((gp (gat gs t),f t):Sd.Pl))).Pairwise λp q=>p.1.1<=q.1.1:=by
 rwa[gY]
def Jz(pm:ts.Perm (aN gs.length))(f:Nat->Nat):(ts.map (λt=>((gp (gat gs t),f t):Sd.Pl))).Perm (std gs f):=pm.map _
theorem Yt:∀(ts:List Nat)(f:Nat->Nat),((inT gs ts).map gp).zip (ts.map f)=ts.map (λt=>((gp (gat gs t),f t):Sd.Pl))
 |[],_=>rfl
 |t::ts,f=>by
  show(gp (gat gs t),f t)::((inT gs ts).map gp).zip (ts.map f)=_;rw[Yt ts f];rfl
theorem P0(B:∀g∈gs,grOk g/\gOk g)(pm:ts.Perm (aN gs.length))(pw:ts.Pairwise λa b=>(gat gs a).1<=(gat gs b).1)(hn:[]∈lv [hs] (inT gs ts))(f:Nat->Nat):laB hs gs ((aN gs.length).map λi=>((f i:Nat):Int))=false:=by
 cases e:laB hs gs ((aN gs.length).map λi=>((f i:Nat):Int))with
 |false=>rfl
 |true=>
  exfalso
  have st:=Jw (Jz pm f).symm ((Uh B f).mp e);obtain⟨out,run⟩:=(Sd.Nf (Nq B pm) (Jy pw)).mpr st;rw[<-Yt]at run;have Z:∀g∈inT gs ts,gOk g:=λg h=>by
   obtain⟨t,h1,rfl⟩:=bT.mp h;have:=aZ.mp (pm.mem_iff.mp h1);unfold gat;rw[aD,aA this];exact(B _ (cU this)).2
  refine Nk _ _ Z hn hs (gU _) ⟨ts.map f,out,?_,run⟩;unfold inT;rw[aq,aq]
def P_(B:∀g∈gs,grOk g/\gOk g)(pm:ts.Perm (aN gs.length))(pw:ts.Pairwise λa b=>(gat gs a).1<=(gat gs b).1) (D:ss.length=ts.length) (run:Sd.Run hs (((inT gs ts).map gp).zip ss) out):laB hs gs (Jt gs.length ts ss)=true:=by
 have nd:=pm.nodup_iff.mpr List.nodup_range;rw[Ug ts ss nd D.symm]at run;have st:=(Sd.Nf (Nq B pm (f:=λt=>ss.getD (ts.idxOf t) 0)) (Jy pw)).mp ⟨out,run⟩;exact(Uh B λi=>ss.getD (ts.idxOf i) 0).mpr (Jw (Jz pm _) st)
end
def Ui : c∈jg S k<->c∈S\/c=k:=by
 unfold jg;split
 .rename_i h;exact⟨.inl,λz=>z.elim id λe=>e▸h⟩
 .simp
theorem yG:∀(ks S:List (List Int))(x:List Int),x∈ks.foldl jg S<->x∈S\/x∈ks
 |[],S,x=>by simp
 |k::ks,S,x=>by
  rw[g_,yG ks,Ui,aJ]
  constructor
  .rintro((h|h)|h)
   .exact .inl h
   .exact .inr (.inl h)
   .exact .inr (.inr h)
  .rintro(h|h|h)
   .exact .inl (.inl h)
   .exact .inl (.inr h)
   .exact .inr h
theorem JB(T:List (List Int)):pP (dsT T)=some T:=by
 unfold dsT pP;dsimp only
 cases T with
 |nil=>rfl
 |cons k T=>
  have:zf ((k::T).map λk=>((.tuple (k.map .int),.bool true):D×D))=none:=rfl;rw[this];exact wL (k::T)
theorem Nr:∀rows:List (List Int),rpD (rows.map λr=>eT [rwD r,.bool true])=some rows
 |[]=>rfl
 |r::rows=>by
  show(dH (r.map eP)).bind (λk=>(rpD (rows.map λr=>eT [rwD r,.bool true])).map (k :: ·))=_;rw[o8,aF,Nr rows];rfl
def Xu{rows:List (List Int)} {S:List Tte}(D:rows.length<=1000) (B:S.length<=1000):jM [.list (rows.map rwD),dtt S]=some (.bool ((bK S).all λk=>decide (k∈rows))):=by
 have Q:=yC (g:=(gNl 0)) (c:=(D3.lu)) (e:=(iZ (dTup (ak (aj 0) (ak (dC (.bool true)) (aM)))))) (δ:=[none]) rwD (λr=>eT [rwD r,.bool true]) rows (λr _=>by
  refine⟨[some (.d (rwD r))],rfl,rfl,?_⟩;have fl:flat (eT [rwD r,.bool true])=true:=by
   show(flats (r.map eP)&&true)=true;rw[sH];rfl
  simp![Com.sz (show 2<=1000000 by decide),fl])
 have V:∀a b c:Option U,lN 1 [] [a,b,c]=[none]:=λ_ _ _=>rfl
 have X:Bg [.list (rows.map λr=>eT [rwD r,.bool true])]=some (dsT (rows.foldl jg [])):=by
  unfold Bg;dsimp only;rw[Nr,aF,if_pos (by rwa[aq])]
 have R:=yC (g:=(gNl 0)) (c:=(D3.lu)) (e:=(dOp HX (aj 0) (aj 1))) (δ:=[none,some (.d (dsT (rows.foldl jg [])))]) rwD (λk=>fI (decide (k∈rows))) (bK S) (λk _=>by
  refine⟨[some (.d (rwD k)),some (.d (dsT (rows.foldl jg [])))],rfl,rfl,?_⟩;have Y:HX (rwD k) (dsT (rows.foldl jg []))=some (.bool (decide (k∈rows))):=by
   unfold HX;rw[JB,aF,zW];show some (fI (decide (k∈rows.foldl jg [])))=_;congr 2;rw[decide_eq_decide,yG];simp
  simp![Y])
 have W:∀a b c:Option U,lN 1 [2] [a,b,c]=[none,c]:=λ_ _ _=>rfl
 have fr:Mp (aj 1) [some (.d (.list (rows.map rwD))),some (.d (dtt S)),some (.d (dsT (rows.foldl jg [])))]=some ((bK S).map rwD):=by
  show(pP (dtt S)).map _=_;rw[Ca];rfl
 have l1:(rows.map rwD).length<=100000:=by rw[aq];lia
 have l2:((bK S).map rwD).length<=100000:=by unfold bK;rw[aq,aq];lia
 have T:Am [.list ((bK S).map λk=>fI (decide (k∈rows)))]=some (.bool ((bK S).all λk=>decide (k∈rows))):=by
  have:∀l:List (List Int),jE (l.map λk=>fI (decide (k∈rows)))=some (l.map λk=>decide (k∈rows)):=λl=>by
   induction l with
   |nil=>rfl
   |cons a r Z=>rw[aG,jE,Z];rfl
  show(jE _).map _=_;rw[this];simp[List.all_map]
 unfold jM;simp![l1,V,Q,X,fr,l2,W,R,T]
def Uj (B:k.length<=1000):j8 [rwD k]=some (.bool true):=by
 have C:=yC (g:=(gNl 0)) (c:=(D3.lu)) (e:=(dCall ig (ak (aj 0) (aM)))) (δ:=[none]) eP (λ_=>.bool true) k (λx _=>by
  refine⟨[some (.d (.int x))],rfl,rfl,?_⟩;have w:=wh (.int x);have w:ig [.int x]=some (.bool true):=w;simp![w])
 have X:∀a:Option U,lN 1 [] [a]=[none]:=λ_=>rfl
 have fs:HB (aj 0) [some (.d (rwD k))]=some (k.map .int):=rfl;have Z:(k.map eP).length<=100000:=by rw[aq];lia
 have W:Am [.list (k.map λ_=>fI true)]=some (.bool true):=by
  have:∀l:List Int,jE (l.map λ_=>fI true)=some (l.map λ_=>true):=λl=>by
   induction l with
   |nil=>rfl
   |cons a k Y=>rw[aG,jE,Y];rfl
  show(jE _).map _=_;rw[this];simp
 unfold j8;simp![fs,Z,X,C,W]
def ad4 {r:List Int}(B:r.length<=1000):fV [rwD r,.int (r.length:Int)]=some (.bool true):=by
 have ty:D3.isT "tuple" (tyD (rwD r))=true:=isTup;have Z:iQ [rwD r]=some (.int (r.length:Int)):=by
  show some (eP ((r.map eP).length:Int))=_;rw[aq]
 have d:decide ((r.length:Int)=(r.length:Int))=true:=by simp
 unfold fV;simp![ty,Z,Uj B]
def Uk{rows:List (List Int)} (hw:∀r∈rows,r.length=k) (B:k<=1000) (D:rows.length<=1000):je [.list (rows.map rwD),.int (k:Int)]=some (.bool true):=by
 have C:=yC (g:=(gNl 0)) (c:=(D3.lu)) (e:=(dCall fV (ak (aj 0) (ak (aj 1) (aM))))) (δ:=[none,some (.d (.int (k:Int)))]) rwD (λ_=>.bool true) rows (λr Z=>by
  refine⟨[some (.d (rwD r)),some (.d (.int (k:Int)))],rfl,rfl,?_⟩;have t:=ad4 (r:=r) (by rwa[hw r Z]);rw[hw r Z]at t;simp![t])
 have W:∀a b:Option U,lN 1 [1] [a,b]=[none,b]:=λ_ _=>rfl
 have ty:D3.isT "list" (tyD (.list (rows.map rwD)))=true:=(by decide:D3.isT "list" "list"=true);have Y:(rows.map rwD).length<=100000:=by rw[aq];lia
 have V:Am [.list (rows.map λ_=>fI true)]=some (.bool true):=by
  have:∀l:List (List Int),jE (l.map λ_=>fI true)=some (l.map λ_=>true):=λl=>by
   induction l with
   |nil=>rfl
   |cons a r X=>rw[aG,jE,X];rfl
  show(jE _).map _=_;rw[this];simp
 unfold je;simp![ty,Y,W,C,V]
def zq(gs:List Wi):List (List Int)->List Nat->List (List (List Int))->Bool
 |ah,t::ts,R::Rs=>((bK (fK (gat gs t) ah [])).all λk=>decide (k∈R))&&zq gs R ts Rs
 |_,_,_=>true
def rlD(R:List (List Int)):D:=.list (R.map rwD)
theorem Ej (D:∀g∈m,gOk g) (a b:Option U):∀(ts:List Nat)(Rs:List (List (List Int)))(ah:List (List Int))(u v:Option U),(∀t∈ts,t<m.length)->ah.length<=1000->(∀r∈ah,r.length<=100)->(∀R∈Rs,R.length<=1000/\∀r∈R,r.length<=100)->(∀t∈ts,∀B,(B=ah\/B∈Rs)->(fK (gat m t) B []).length<=1000) ->
 (zq m ah ts Rs=true/\∃δ',iH (gTn 2 (cM (gNl 4) (cM (gNl 5) (jH)))) (bM (sIf (D3.iY (bF (dCall jM (ak (aj 5) (ak (dCall cQ (ak (aj 3) (ak (dOp gIx (aj 1) (aj 4)) (aM)))) (aM)))))) (dj (dC (.bool false))) (cZ)) (bN 3 (aj 5))) ((ts.zip Rs).map λq=>eT [.int (q.1:Int),rlD q.2]) [a,some (.d (.list (m.map wiD))),b,some (.d (rlD ah)),u,v]=some (.nx δ')) \/
 (zq m ah ts Rs=false/\iH (gTn 2 (cM (gNl 4) (cM (gNl 5) (jH)))) (bM (sIf (D3.iY (bF (dCall jM (ak (aj 5) (ak (dCall cQ (ak (aj 3) (ak (dOp gIx (aj 1) (aj 4)) (aM)))) (aM)))))) (dj (dC (.bool false))) (cZ)) (bN 3 (aj 5))) ((ts.zip Rs).map λq=>eT [.int (q.1:Int),rlD q.2]) [a,some (.d (.list (m.map wiD))),b,some (.d (rlD ah)),u,v]=some (.rt (.bool false)))
 |[],Rs,ah,u,v,_,_,_,_,_=>.inl ⟨by unfold zq;rfl,_,by simp only[List.zip_nil_left,eO];exact rfl⟩
 |_::_,[],ah,u,v,_,_,_,_,_=>.inl ⟨by unfold zq;rfl,_,by simp only[List.zip_nil_right,eO];exact rfl⟩
 |t::ts,R::Rs,ah,u,v,V,N,O,Z,T=>by
  have tl:=V t ao;have Q:gOk (gat m t):=by
   unfold gat;rw[aD,aA tl];exact D _ (cU tl)
  have W:cQ [rlD ah,wiD (gat m t)]=_:=Jl (g:=gat m t) (rows:=ah) Q.1 Q.2 O N;have ha:jM [rlD R,dtt (fK (gat m t) ah [])]=_:=Xu (rows:=R) (S:=fK (gat m t) ah []) (Z R ao).1 (T t ao ah (.inl rfl));have ga:=Ce tl;rw[pG,aG,zq]
  cases c:(bK (fK (gat m t) ah [])).all λk=>decide (k∈R)with
  |false=>
   rw[c]at ha;refine .inr ⟨rfl,?_⟩;have Y:(bM (sIf (D3.iY (bF (dCall jM (ak (aj 5) (ak (dCall cQ (ak (aj 3) (ak (dOp gIx (aj 1) (aj 4)) (aM)))) (aM)))))) (dj (dC (.bool false))) (cZ)) (bN 3 (aj 5))) [a,some (.d (.list (m.map wiD))),b,some (.d (rlD ah)),some (.d (.int (t:Int))),some (.d (rlD R))]=some (.rt (.bool false)):=by
    simp![ga,W,ha]
   rw[iH,show(gTn 2 (cM (gNl 4) (cM (gNl 5) (jH)))) (eT [.int (t:Int),rlD R]) [a,some (.d (.list (m.map wiD))),b,some (.d (rlD ah)),u,v]=some [a,some (.d (.list (m.map wiD))),b,some (.d (rlD ah)),some (.d (.int (t:Int))),some (.d (rlD R))]from rfl,aF,Y];rfl
  |true=>
   rw[c]at ha;have Y:(bM (sIf (D3.iY (bF (dCall jM (ak (aj 5) (ak (dCall cQ (ak (aj 3) (ak (dOp gIx (aj 1) (aj 4)) (aM)))) (aM)))))) (dj (dC (.bool false))) (cZ)) (bN 3 (aj 5))) [a,some (.d (.list (m.map wiD))),b,some (.d (rlD ah)),some (.d (.int (t:Int))),some (.d (rlD R))]=some (.nx [a,some (.d (.list (m.map wiD))),b,some (.d (rlD R)),some (.d (.int (t:Int))),some (.d (rlD R))]):=by
    simp![ga,W,ha]
   have P:=Ej D a b ts Rs R (some (.d (.int (t:Int)))) (some (.d (rlD R))) (λq X=>V q (au _ X)) (Z R ao).1 (Z R ao).2 (λR' h'=>Z R' (au _ h')) (λq X B h'=>T q (au _ X) B (.inr (h'.elim (λe=>e▸ao) (au _))));rw[Bool.true_and];rcases P with⟨e1,δ',e2⟩|⟨e1,e2⟩
   .exact .inl ⟨e1,δ',(mY rfl Y).trans e2⟩
   .exact .inr ⟨e1,(mY rfl Y).trans e2⟩
section
variable{gs:List Wi}{Rs:List (List (List Int))}
theorem K7:∀(ts:List Nat)(Rs:List (List (List Int))),jV (ts.map λt:Nat=>eP (t:Int)) (Rs.map rlD)=(ts.zip Rs).map λq=>eT [.int (q.1:Int),rlD q.2]
 |[],_=>by simp[jV]
 |_::_,[]=>by simp[jV]
 |t::ts,R::Rs=>by
  show eT [.int (t:Int),rlD R]::jV (ts.map λt:Nat=>eP (t:Int)) (Rs.map rlD)=_;rw[K7 ts Rs];rfl
def Ul(J:∀g∈gs,grOk g/\gOk g)(hl:gs.length<64)(wl:hs.length<=100)(D:jq [.list (gs.map wiD)]=some (.list (ts.map λt:Nat=>eP (t:Int))))(pm:ts.Perm (aN gs.length))
 (h1:Rs.length<gs.length) (hw:∀R∈Rs++[[]],R.length<=1000/\∀r∈R,r.length=hs.length) (hS:∀t∈ts,∀B,(B=[hs]\/B∈Rs++[[]])->(fK (gat gs t) B []).length<=1000) :
 pD [.list (hs.map .int),.list (gs.map wiD),.list ((Rs++[[]]).map rlD)]=some (.bool (zq gs [hs] ts (Rs++[[]]))):=by
 have T:=Ed λg h=>(J g h).1
 have ty:D3.isT "list" (tyD (.list ((Rs++[[]]).map rlD)))=true:=(by decide:D3.isT "list" "list"=true);have L:=Ej (λg h=>(J g h).2) (some (.d (.list (hs.map .int)))) (some (.d (.list ((Rs++[[]]).map rlD)))) ts (Rs++[[]]) [hs] none none (λt h=>aZ.mp (pm.mem_iff.mp h)) (by simp) (λr Z=>by rwa[aL.mp Z]) (λR h=>⟨(hw R h).1,λr Z=>by rwa[(hw R h).2 r Z]⟩) hS;have P:decide ((1:Int)<=(((Rs++[[]]).map rlD).length:Int))=true:=dTr (by simp;lia);have Q:decide ((((Rs++[[]]).map rlD).length:Int)<=((gs.map wiD).length:Int))=true:=dTr (by simp;lia);have C:=yC (g:=(gNl 0)) (c:=(D3.lu)) (e:=(dCall je (ak (aj 0) (ak (dCall iQ (ak (aj 1) (aM))) (aM))))) (δ:=[none,some (.d (.list (hs.map .int)))]) rlD (λ_=>fI true) (Rs++[[]]) (λR V=>by
  refine⟨[some (.d (rlD R)),some (.d (.list (hs.map .int)))],rfl,rfl,?_⟩;have r:je [rlD R,.int (hs.length:Int)]=some (.bool true):=Uk (hw R V).2 (by lia) (hw R V).1;simp![lMp,r])
 have S:∀a b c d e f:Option U,lN 1 [0] [a,b,c,d,e,f]=[none,a]:=λ_ _ _ _ _ _=>rfl
 have O:Am [.list ((Rs++[[]]).map λ_=>fI true)]=some (.bool true):=by
  have:∀l:List (List (List Int)),jE (l.map λ_=>fI true)=some (l.map λ_=>true):=λl=>by
   induction l with
   |nil=>rfl
   |cons a r M=>rw[aG,jE,M];rfl
  show(jE _).map _=_;rw[this];simp
 have W:((Rs++[[]]).map rlD).length<=100000:=by simp;lia
 have Y:pAt ((Rs++[[]]).map rlD) (-1)=some (rlD []):=by
  rw[dJ];exact Gq
 have X:iQ [rlD []]=some (.int 0):=rfl;have K:decide ((0:Int)>0)=false:=rfl;have N:rlD [hs] = .list [.tuple (hs.map .int)]:=rfl;rw[N]at L;unfold pD;rcases L with⟨e1,δ',e2⟩|⟨e1,e2⟩
 .simp![T,ty,P,Q,W,S,C,O,Y,X,A_,Com.sz (show 1<=1000000 by decide),D,K7,e2];rw[e1]
 .simp![T,ty,P,Q,W,S,C,O,Y,X,A_,Com.sz (show 1<=1000000 by decide),D,K7,e2];rw[e1]
end
theorem JC(gs:List Wi):∀(ts:List Nat)(rows:List (List Int)),zq gs rows ts ((lv rows (inT gs ts)).map λS=>XJ.dO (bK S))=true
 |[],rows=>by unfold zq;rfl
 |t::ts,rows=>by
  rw[show inT gs (t::ts)=gat gs t::inT gs ts from rfl,jT,aG,zq,aK];refine⟨cT.mpr λk Z=>dTr ((cW _).mem_iff.mpr Z),?_⟩;split
  .cases ts<;>(unfold zq;rfl)
  .exact JC gs ts _
def ad5 (f:α->D) {l m:List α} (h:l.length+m.length<=1000000):tL (.list (l.map f)) (.list (m.map f))=some (.list ((l++m).map f)):=by
 rw[Yo,if_pos (by rwa[aq,aq]),dJ]
open XS in
theorem Yu(f g:Nat->Int):∀l:List Nat,Ko (l.map λk=>eT [.int (f k),.int (g k)])=some (l.map λk=>(f k,g k))
 |[]=>rfl
 |a::l=>by
  rw[aG,Ko,Yu f g l];rfl
def Xv(R:List (List Int)):gEq (rlD R) (.list [])=some (.bool R.isEmpty):=by
 have l1:∀P:List Int,ly 5 (rwD P):=λP=>qw (Bw (sI (n:=1) eP (λ_=>sJ) P)) (by decide)
 have l2:ly 60 (.list (R.map rwD)):=qw (uN (sI rwD l1 R)) (by decide);unfold gEq rlD;rw[uO l2,show fq (.list [])=true from rfl]
 cases R<;>simp[f7,hO]
def tn(n:Nat)(f:Nat->Int):List Nat:=if n<=1 then aN n else XS.oJ n λi j=>decide (f i<f j)
def sU(n:Nat)(f:Nat->Int):(tn n f).Perm (aN n):=by
 unfold tn;split
 .exact .refl _
 .exact XS.jt (by lia) _
def ao9(n:Nat)(f:Nat->Int):(tn n f).Pairwise λa b=>f a<=f b:=by
 unfold tn;split
 .next h=>
  have:n=0\/n=1:=by lia
  rcases this with rfl|rfl<;>simp
 .exact(XS.sO XS.xG (by lia)).imp λh=>ao5 h
def JD{gs:List Wi}(B:gs.length<64):jq [.list (gs.map wiD)]=some (.list ((tn gs.length λt=>(gat gs t).1).map λt:Nat=>eP (t:Int))):=by
 have W:iu 0 (gs.length:Int)=(aN gs.length).map λp:Nat=>eP (p:Int):=by
  unfold iu;rw[show((gs.length:Int)-0).toNat=gs.length by lia];exact dX λk _=>by rw[kj]
 have U:Az [.int (gs.length:Int)]=some (.list ((aN gs.length).map λp:Nat=>eP (p:Int))):=by
  rw[<-W];exact VP (by lia) (by lia)
 have P:jU (gNl 0) D3.lu XS.dK0 (lN 1 [0] [some (.d (.list (gs.map wiD)))]) ((aN gs.length).map λp:Nat=>eP (p:Int))=some (((aN gs.length).map λt=>(gat gs t).1).map eP):=by
  rw[cX];exact yC (λp:Nat=>eP (p:Int)) (λp:Nat=>eP (gat gs p).1) _ λp S=>⟨[some (.d (.int (p:Int))),some (.d (.list (gs.map wiD)))],rfl,rfl,by
   show(pAt (gs.map wiD) (p:Int)).bind _=_;rw[Ce (aZ.mp S)];rfl⟩
 have V:=XS.Pg (l:=(aN gs.length).map λp:Nat=>eP (p:Int)) (k:=jU (gNl 0) D3.lu XS.dK0 (lN 1 [0] [some (.d (.list (gs.map wiD)))])) (by rwa[aq,bQ]) (by
  have:∀l:List Nat,flats (l.map λp:Nat=>eP (p:Int))=true:=λl=>by
   induction l with
   |nil=>rfl
   |cons _ _ T=>rw[aG,flats,T];rfl
  exact this _) P (uK _)
 have e:XS.u6 ((aN gs.length).map λp:Nat=>eP (p:Int)) ((aN gs.length).map λt=>(gat gs t).1)=(tn gs.length λt=>(gat gs t).1).map λt:Nat=>eP (t:Int):=by
  unfold XS.u6 tn;rw[aq,bQ];by_cases h1:gs.length<=1
  .rw[if_pos h1,if_pos h1]
  .rw[if_neg h1,if_neg h1];have e1:XS.oJ gs.length (λi j=>decide (((aN gs.length).map λt=>(gat gs t).1).getD i 0<((aN gs.length).map λt=>(gat gs t).1).getD j 0))=XS.oJ gs.length λi j=>decide ((gat gs i).1<(gat gs j).1):=by
    refine XS.BL XS.xG (by lia) (XS.jt (by lia) _) ?_;refine gr ?_ (XS.sO XS.xG (by lia));intro i j hi Q O;have Z:=aZ.mp ((XS.jt (n:=gs.length) (by lia) _).mem_iff.mp hi);have Y:=aZ.mp ((XS.jt (n:=gs.length) (by lia) _).mem_iff.mp Q);have X:∀k,k<gs.length->((aN gs.length).map λt=>(gat gs t).1).getD k 0=(gat gs k).1:=λk R=>by
     rw[aD,aW,dU R];rfl
    show decide (((aN gs.length).map λt=>(gat gs t).1).getD i 0<((aN gs.length).map λt=>(gat gs t).1).getD j 0)=true\/(decide (((aN gs.length).map λt=>(gat gs t).1).getD j 0<((aN gs.length).map λt=>(gat gs t).1).getD i 0)=false/\i<j);rwa[X i Z,X j Y]
   rw[e1];apply dX;intro i hi;have Z:=aZ.mp ((XS.jt (n:=gs.length) (by lia) _).mem_iff.mp hi);rw[aD,aW,dU Z];rfl
 unfold jq;simp![lMp,U,XS.Wx,V];rw[e]
open XS in
def Um(f:Nat->Int)(hn:n<64):XS.Bc [.list ((aN n).map λk:Nat=>eT [.int (f k),.int (k:Int)])]=some (.list ((tn n f).map λk:Nat=>eT [.int (f k),.int (k:Int)])):=by
 by_cases R:n=0
 .subst R;rfl
 have P:dH ((aN n).map λk:Nat=>eT [.int (f k),.int (k:Int)])=none:=by
  obtain⟨m,rfl⟩:∃m,n=m+1:=⟨n-1,by lia⟩;rw[rR,aG];rfl
 have ep:=Yu f (λk:Nat=>(k:Int)) (aN n);have len:((aN n).map λk:Nat=>eT [.int (f k),.int (k:Int)]).length=n:=by rw[aq,bQ]
 unfold XS.Bc;dsimp only;rw[P];dsimp only;rw[ep,aF,len,if_pos hn];by_cases h1:n=1
 .subst h1;rfl
 .rw[if_neg h1];have W:∀i,i<n->((aN n).map λk:Nat=>(f k,(k:Int))).getD i (0,0)=(f i,(i:Int)):=λi hi=>by
   rw[aD,aW,dU hi];rfl
  have Q:tn n f=XS.oJ n (XS.ltP ((aN n).map λk:Nat=>(f k,(k:Int)))):=by
   unfold tn;rw[if_neg (by lia)];refine XS.BL XS.xG (by lia) (XS.jt (by lia) _) ?_;refine gr ?_ (XS.sO (XS.T5 _) (by lia));intro i j hi T V;have Z:=aZ.mp ((XS.jt (n:=n) (by lia) _).mem_iff.mp hi);have X:=aZ.mp ((XS.jt (n:=n) (by lia) _).mem_iff.mp T);have Y:∀a b,a<n->b<n->XS.ltP ((aN n).map λk:Nat=>(f k,(k:Int))) a b=if f a=f b then decide ((a:Int)<b)else decide (f a<f b):=λa b ha S=>by
    unfold XS.ltP XS.Cz;rw[W a ha,W b S]
   rcases V with z|⟨z,U⟩
   .rw[Y i j Z X]at z;split at z
    .have:=of_decide_eq_true z;exact .inr ⟨dFa (by lia),by lia⟩
    .exact .inl z
   .rw[Y j i X Z]at z;split at z
    .exact .inr ⟨dFa (by lia),U⟩
    .have:=of_decide_eq_false z;exact .inl (dTr (by lia))
  rw[Q];congr 2;apply dX;intro i hi;have Z:=aZ.mp ((XS.jt (n:=n) (by lia) _).mem_iff.mp hi);rw[aD,aW,dU Z];rfl
def jL(gs:List Wi):List Wi:=(tn gs.length λt=>(gat gs t).1).map (gat gs)
def K8 {gs:List Wi}(B:gs.length<64):mX [.list (gs.map wiD)]=some (.list ((jL gs).map wiD)):=by
 have X:yR (some [.int (gs.length:Int)])=some (iu 0 (gs.length:Int)):=KQ (by lia) (by lia);have W:iu 0 (gs.length:Int)=(aN gs.length).map λp:Nat=>eP (p:Int):=by
  unfold iu;rw[show((gs.length:Int)-0).toNat=gs.length by lia];exact dX λk _=>by rw[kj]
 have Q:=yC (g:=(gNl 0)) (c:=(D3.lu)) (e:=(iZ (dTup (ak (dOp gIx (dOp gIx (aj 1) (aj 0)) (dC (.int 0))) (ak (aj 0) (aM)))))) (δ:=[none,some (.d (.list (gs.map wiD)))]) (λp:Nat=>eP (p:Int)) (λp:Nat=>eT [.int (gat gs p).1,.int (p:Int)]) (aN gs.length) (λp Z=>by
  refine⟨[some (.d (.int (p:Int))),some (.d (.list (gs.map wiD)))],rfl,rfl,?_⟩;have ga:=Ce (gs:=gs) (aZ.mp Z);have V:gIx (wiD (gat gs p)) (.int 0)=some (.int (gat gs p).1):=rfl;simp![ga,V,Com.sz (show 2<=1000000 by decide)])
 have R:=yC (g:=(gNl 0)) (c:=(D3.lu)) (e:=(iZ (dOp gIx (aj 1) (dOp gIx (aj 0) (dC (.int 1)))))) (δ:=[none,some (.d (.list (gs.map wiD)))]) (λp:Nat=>eT [.int (gat gs p).1,.int (p:Int)]) (λp:Nat=>wiD (gat gs p)) (tn gs.length λt=>(gat gs t).1) (λp Z=>by
  refine⟨[some (.d (.tuple [.int (gat gs p).1,.int (p:Int)])),some (.d (.list (gs.map wiD)))],rfl,rfl,?_⟩;have ga:=Ce (gs:=gs) (aZ.mp ((sU _ _).mem_iff.mp Z));have i1:∀a b:D,gIx (.tuple [a,b]) (.int 1)=some b:=λ_ _=>rfl
  have T:flat (wiD (gat gs p))=true:=rfl;simp![i1,ga,T])
 have Y:=Um (n:=gs.length) (λt=>(gat gs t).1) B;have S:∀a:Option U,lN 1 [0] [a]=[none,a]:=λ_=>rfl
 have l1:(aN gs.length).length<=100000:=by rw[bQ];lia
 have l2:(tn gs.length λt=>(gat gs t).1).length<=100000:=by rw[(sU _ _).length_eq,bQ];lia
 unfold mX;simp![lMp,X,W,S,l1,Q,Y,l2,R];unfold jL;rw[cX];rfl
def Cj(gs:List Wi):(jL gs).length=gs.length:=by unfold jL;rw[aq,(sU _ _).length_eq,bQ]
def JF : k∈jL c<->k∈c:=by
 unfold jL;rw[bT]
 constructor
 .rintro⟨t,h1,rfl⟩;have:=aZ.mp ((sU _ _).mem_iff.mp h1);unfold gat;rw[aD,aA this];exact cU this
 .intro h;obtain⟨i,hi,rfl⟩:=jh h;refine⟨i,(sU _ _).mem_iff.mpr (aZ.mpr hi),?_⟩;unfold gat;rw[aD,aA hi];rfl
def rest(g:Wi)(row:List Int):List Int:=row.map λe=>if e<=g.1 then 0 else e
def Nt (B:1<=c.2.2) (h:s+c.2.2.toNat<=row.length):(rest c row).take s++aO c.2.2.toNat c.2.1++(rest c row).drop (s+c.2.2.toNat)=Sd.put row (gp c) s:=by
 have Z:(rest c row).length=row.length:=by unfold rest;rw[aq]
 apply dY;intro i;unfold Sd.put;rw[fQ];have X:∀i,(rest c row)[i]? = row[i]?.map λe=>if e<=c.1 then 0 else e:=λi=>by unfold rest;rw[aW]
 by_cases h1:i<s
 .rw[aP,b_ (by rw[cO,Z];lia),lB h1,X];congr 1
  funext e
  show _=if s<=i/\i<s+c.2.2.toNat then c.2.1 else if e<=c.1 then 0 else e
  rw[if_neg (show ¬(s<=i/\i<s+c.2.2.toNat)by lia)]
 .by_cases h2:i<s+c.2.2.toNat
  .rw[aP,bV (by rw[cO,Z];lia),b_ (by rw[cO,Z,bD];lia),fM,cO,Z,if_pos (by lia),aA (by lia)];unfold Sd.cell gp;rw[jG,if_pos (by dsimp only;lia)]
  .have Y:((rest c row).take s++aO c.2.2.toNat c.2.1).length=s+c.2.2.toNat:=by rw[bL,cO,Z,bD];lia
   rw[bV (by rw[Y];lia),d8,Y,show s+c.2.2.toNat+(i-(s+c.2.2.toNat))=i by lia,X];congr 1
   funext e
   show _=if s<=i/\i<s+c.2.2.toNat then c.2.1 else if e<=c.1 then 0 else e
   rw[if_neg (show ¬(s<=i/\i<s+c.2.2.toNat)by lia)]
def Qa(g:Wi)(rows:List (List Int)):List (List Int):=rows.flatMap λrow=>(stN row g).map λs=>Sd.put row (gp g) s
def nxT(g:Wi)(rows:List (List Int)):List (List Int):=(Qa g rows).foldl jg []
def Uo {fk:FE}(D:aj i δ=some (dsT S)) (h1:fk δ=some (rwD k)) (B:S.length<1000000):um i fk δ=some (.nx (δ.set i (some (.d (dsT (jg S k)))))):=by
 unfold um;rw[D,aF,h1,aF,V4,aF,zW,aF,if_pos B]
def JG(S:List (List Int))(k:List Int):(jg S k).length<=S.length+1:=by
 unfold jg;split<;>simp
theorem rK:∀(ks S:List (List Int)),(ks.foldl jg S).length<=S.length+ks.length
 |[],S=>aB _
 |k::ks,S=>by
  have h1:=rK ks (jg S k);have h2:=JG S k;rw[g_,aX];lia
def Xw (h:S.Nodup):(jg S k).Nodup:=by
 unfold jg;split
 .exact h
 .rename_i q;rw[eZ];exact⟨h,by simp,λa ha b Z e=>q (by rw[aL.mp Z]at e;rwa[<-e])⟩
theorem JH:∀(ks S:List (List Int)),S.Nodup->(ks.foldl jg S).Nodup
 |[],S,h=>h
 |k::ks,S,h=>by
  rw[g_];exact JH ks _ (Xw h)
def ad6(g:Wi)(rows:List (List Int)):(nxT g rows).Nodup:=JH _ _ .nil
def Nu : k∈nxT c rows<->∃row∈rows,∃s∈stN row c,k=Sd.put row (gp c) s:=by
 unfold nxT;rw[yG];unfold Qa;rw[List.mem_flatMap]
 constructor
 .rintro(h|⟨row,Z,h⟩)
  .cases h
  .obtain⟨s,hs,rfl⟩:=bT.mp h;exact⟨row,Z,s,hs,rfl⟩
 .rintro⟨row,Z,s,hs,rfl⟩;exact .inr ⟨row,Z,bT.mpr ⟨s,hs,rfl⟩⟩
theorem uq {g:Wi}(O:1<=g.2.2) (J:g.2.2<=6) (hl:row.length<=100) (a:Option U):∀(ss:List Nat)(S:List (List Int))(u v:Option U),(∀s∈ss,(s:Int)<=(row.length:Int)-g.2.2)->S.length+ss.length<1000000 ->
 ∃D B,iH (gNl 8) (sIf (bF (dOp gLe (dCall uZ (ak (zj (aj 6) (fD (aj 8)) (fD (dOp eV (aj 8) (aj 4)))) (aM))) (aj 2))) (bM (bN 9 (dOp tL (dSl (aj 7) n8 (fD (aj 8))) (dOp oY (gO (ak (aj 3) (aM))) (aj 4)))) (um 5 (dUn oR (dOp tL (aj 9) (dSl (aj 7) (fD (dOp eV (aj 8) (aj 4))) n8))))) (cZ)) (ss.map λs:Nat=>eP (s:Int)) [a,some (.d (wiD g)),some (.d (.int g.1)),some (.d (.int g.2.1)),some (.d (.int g.2.2)),some (.d (dsT S)),some (.d (rwD row)),some (.d (.list ((rest g row).map .int))),u,v] =
  some (.nx [a,some (.d (wiD g)),some (.d (.int g.1)),some (.d (.int g.2.1)),some (.d (.int g.2.2)),some (.d (dsT (((ss.filter λs:Nat=>decide (mx (sli row (s:Int) g.2.2)<=g.1)).map λs=>Sd.put row (gp g) s).foldl jg S))),some (.d (rwD row)),some (.d (.list ((rest g row).map .int))),D,B])
 |[],S,u,v,_,_=>⟨u,v,rfl⟩
 |s::ss,S,u,v,hs,R=>by
  rw[aX]at R;have X:=hs s ao;have Y:∀t∈ss,(t:Int)<=(row.length:Int)-g.2.2:=λt T=>hs t (au _ T)
  have Q:(rest g row).length=row.length:=by unfold rest;rw[aq]
  have Z:∀(a b c d e f h:Option U),zj (aj 6) (fD (aj 8)) (fD (dOp eV (aj 8) (aj 4))) [a,b,c,d,some (.d (.int g.2.2)),f,some (.d (rwD row)),h,some (.d (.int (s:Int))),e]=some (.tuple ((sli row (s:Int) g.2.2).map .int)):=λa b c d e f h=>by
   rw[Nh (l:=row.map .int) (lo:=some (s:Int)) (hi:=some ((s:Int)+g.2.2)) rfl rfl rfl (sH _),zV (by lia) X O]
  have mt:=Ji (BR (show(0:Int)<=(s:Int)by lia) X O);rw[kE];by_cases q:mx (sli row (s:Int) g.2.2)<=g.1
  .rw[if_pos (dTr q),aG (f:=λs:Nat=>Sd.put row (gp g) s),g_];have k1:cuD ((rest g row).map eP) none (some (s:Int))=((rest g row).take s).map .int:=by rw[Ys (by lia),qz];rfl
   have k2:cuD ((rest g row).map eP) (some ((s:Int)+g.2.2)) none=((rest g row).drop (s+g.2.2.toNat)).map .int:=by rw[Yr (by lia),qH,show((s:Int)+g.2.2).toNat=s+g.2.2.toNat by lia]
   have V:oY (.list [.int g.2.1]) (.int g.2.2)=some (.list ((aO g.2.2.toNat g.2.1).map eP)):=TQ (by lia) (by lia);have g1:tL (.list (((rest g row).take s).map .int)) (.list ((aO g.2.2.toNat g.2.1).map eP))=some (.list (((rest g row).take s++aO g.2.2.toNat g.2.1).map eP)):=ad5 eP (by rw[cO,bD];lia);have g2:tL (.list (((rest g row).take s++aO g.2.2.toNat g.2.1).map eP)) (.list (((rest g row).drop (s+g.2.2.toNat)).map .int))=some (.list ((Sd.put row (gp g) s).map .int)):=by
    rw[ad5 eP (by rw[bL,cO,bD,fO];lia),Nt O (by lia)]
   have pl:=JG S (Sd.put row (gp g) s);obtain⟨D,B,e⟩:=uq O J hl a ss (jg S (Sd.put row (gp g) s)) (some (.d (.int (s:Int)))) (some (.d (.list (((rest g row).take s++aO g.2.2.toNat g.2.1).map .int)))) Y (by lia);refine⟨D,B,(mY rfl ?_).trans e⟩;have W:=Uo (i:=5) (S:=S) (k:=Sd.put row (gp g) s) (fk:=(dUn oR (dOp tL (aj 9) (dSl (aj 7) (fD (dOp eV (aj 8) (aj 4))) n8)))) (δ:=[a,some (.d (wiD g)),some (.d (.int g.1)),some (.d (.int g.2.1)),some (.d (.int g.2.2)),some (.d (dsT S)),some (.d (rwD row)),some (.d (.list ((rest g row).map .int))),some (.d (.int (s:Int))),some (.d (.list (((rest g row).take s++aO g.2.2.toNat g.2.1).map .int)))]) rfl (by
    simp![k2,g2,A_];rfl) (by lia)
   simp![Z,mt,dTr q,k1,V,g1,W,Com.sz (show 1<=1000000 by decide)]
  .rw[if_neg (by rw[dFa q];decide)];obtain⟨D,B,e⟩:=uq O J hl a ss S (some (.d (.int (s:Int)))) v Y (by lia);refine⟨D,B,(mY rfl ?_).trans e⟩;simp![Z,mt,dFa q]
def Qc(g:Wi)(row:List Int)(rows:List (List Int)):Qa g (row::rows)=((stN row g).map λs=>Sd.put row (gp g) s)++Qa g rows:=by unfold Qa;rw[List.flatMap_cons]
theorem yW {g:Wi}(Z:1<=g.2.2) (B:g.2.2<=6) (a:Option U):∀(rows:List (List Int))(S:List (List Int))(u v w x:Option U),(∀r∈rows,r.length<=100)->S.length+101*rows.length<1000000 ->
 ∃Y O J D,iH (gNl 6) (bM (bN 7 (mO (HB (aj 6)) (gNl 0) (D3.lu) (iZ (dOp gIx (gO (ak (aj 0) (ak (dC (.int 0)) (aM)))) (dCall uU (ak (dOp gLe (aj 0) (aj 1)) (aM))))) 1 [2])) (mC (oM (ak (dOp eV (dOp xP (dCall iQ (ak (aj 6) (aM))) (aj 4)) (dC (.int 1))) (aM))) (gNl 8) (sIf (bF (dOp gLe (dCall uZ (ak (zj (aj 6) (fD (aj 8)) (fD (dOp eV (aj 8) (aj 4)))) (aM))) (aj 2))) (bM (bN 9 (dOp tL (dSl (aj 7) n8 (fD (aj 8))) (dOp oY (gO (ak (aj 3) (aM))) (aj 4)))) (um 5 (dUn oR (dOp tL (aj 9) (dSl (aj 7) (fD (dOp eV (aj 8) (aj 4))) n8))))) (cZ)))) (rows.map rwD) [a,some (.d (wiD g)),some (.d (.int g.1)),some (.d (.int g.2.1)),some (.d (.int g.2.2)),some (.d (dsT S)),u,v,w,x] =
  some (.nx [a,some (.d (wiD g)),some (.d (.int g.1)),some (.d (.int g.2.1)),some (.d (.int g.2.2)),some (.d (dsT ((Qa g rows).foldl jg S))),Y,O,J,D])
 |[],S,u,v,w,x,_,_=>⟨u,v,w,x,rfl⟩
 |row::rows,S,u,v,w,x,V,M=>by
  rw[aX]at M;have T:=V row ao;have sq:qSq (some (rwD row))=some (row.map .int):=rfl;have C:=yC (g:=(gNl 0)) (c:=(D3.lu)) (e:=(iZ (dOp gIx (gO (ak (aj 0) (ak (dC (.int 0)) (aM)))) (dCall uU (ak (dOp gLe (aj 0) (aj 1)) (aM)))))) (δ:=[none,some (.d (.int g.1))]) (λe:Int=>eP e) (λe:Int=>eP (if e<=g.1 then 0 else e)) row (λe _=>by
   refine⟨[some (.d (.int e)),some (.d (.int g.1))],rfl,rfl,?_⟩;by_cases c:e<=g.1
   .rw[if_pos c];simp![dTr c,show uU [.bool true]=some (.int 1)from rfl,at1,Com.sz (show 2<=1000000 by decide)]
   .rw[if_neg c];simp![dFa c,show uU [.bool false]=some (.int 0)from rfl,Com.sz (show 2<=1000000 by decide)])
  have Q:(row.map λe:Int=>eP (if e<=g.1 then 0 else e))=(rest g row).map .int:=by unfold rest;rw[cX];rfl
  rw[Q]at C;have L:∀a b c d e f g h i j:Option U,lN 1 [2] [a,b,c,d,e,f,g,h,i,j]=[none,c]:=λ_ _ _ _ _ _ _ _ _ _=>rfl
  have N:row.length<=100000:=by lia
  have P:iQ [rwD row]=some (.int (row.length:Int)):=by
   show some (eP ((row.map eP).length:Int))=_;rw[aq]
  have R:yR (some [.int ((row.length:Int)-g.2.2+1)])=some ((aN ((row.length:Int)-g.2.2+1).toNat).map λs:Nat=>eP (s:Int)):=by
   rw[KQ (by lia) (by lia)];unfold iu;rw[rO];congr 1;exact dX λs _=>by rw[kj]
  obtain⟨W,X,e1⟩:=uq (g:=g) (row:=row) Z B T a (aN ((row.length:Int)-g.2.2+1).toNat) S w x (λs hs=>by have:=aZ.mp hs;lia) (by rw[bQ];lia);have fl:=rK ((stN row g).map λs=>Sd.put row (gp g) s) S;have K:=Ni row g Z;rw[aq]at fl;obtain⟨Y,O,J,D,e2⟩:=yW Z B a rows (((stN row g).map λs=>Sd.put row (gp g) s).foldl jg S) (some (.d (rwD row))) (some (.d (.list ((rest g row).map .int)))) W X (λr h=>V r (au _ h)) (by lia);refine⟨Y,O,J,D,?_⟩;rw[Qc,v5];have e1:iH (gNl 8) (sIf (bF (dOp gLe (dCall uZ (ak (zj (aj 6) (fD (aj 8)) (fD (dOp eV (aj 8) (aj 4)))) (aM))) (aj 2))) (bM (bN 9 (dOp tL (dSl (aj 7) n8 (fD (aj 8))) (dOp oY (gO (ak (aj 3) (aM))) (aj 4)))) (um 5 (dUn oR (dOp tL (aj 9) (dSl (aj 7) (fD (dOp eV (aj 8) (aj 4))) n8))))) (cZ)) ((aN ((row.length:Int)-g.2.2+1).toNat).map λs:Nat=>eP (s:Int)) [a,some (.d (wiD g)),some (.d (.int g.1)),some (.d (.int g.2.1)),some (.d (.int g.2.2)),some (.d (dsT S)),some (.d (rwD row)),some (.d (.list ((rest g row).map .int))),w,x]=some (.nx [a,some (.d (wiD g)),some (.d (.int g.1)),some (.d (.int g.2.1)),some (.d (.int g.2.2)),some (.d (dsT (((stN row g).map λs=>Sd.put row (gp g) s).foldl jg S))),some (.d (rwD row)),some (.d (.list ((rest g row).map .int))),W,X]):=e1;refine(mY rfl ?_).trans e2;simp![Zu,sq,L,lMp,N,C,P,R,e1]
def Uq {g:Wi}(J:1<=g.2.2) (B:g.2.2<=6) (D:∀r∈rows,1<=r.length/\r.length<=100) (hl:rows.length<=1000) (O:(nxT g rows).length<=1000):jd [.list (rows.map rwD),wiD g]=some (.list ((XJ.dO (nxT g rows)).map rwD)):=by
 obtain⟨W,X,Y,Z,e⟩:=yW J B (some (.d (.list (rows.map rwD)))) rows [] none none none none (λr h=>(D r h).2) (by simp;lia);have e:iH (gNl 6) (bM (bN 7 (mO (HB (aj 6)) (gNl 0) (D3.lu) (iZ (dOp gIx (gO (ak (aj 0) (ak (dC (.int 0)) (aM)))) (dCall uU (ak (dOp gLe (aj 0) (aj 1)) (aM))))) 1 [2])) (mC (oM (ak (dOp eV (dOp xP (dCall iQ (ak (aj 6) (aM))) (aj 4)) (dC (.int 1))) (aM))) (gNl 8) (sIf (bF (dOp gLe (dCall uZ (ak (zj (aj 6) (fD (aj 8)) (fD (dOp eV (aj 8) (aj 4)))) (aM))) (aj 2))) (bM (bN 9 (dOp tL (dSl (aj 7) n8 (fD (aj 8))) (dOp oY (gO (ak (aj 3) (aM))) (aj 4)))) (um 5 (dUn oR (dOp tL (aj 9) (dSl (aj 7) (fD (dOp eV (aj 8) (aj 4))) n8))))) (cZ)))) (rows.map rwD) [some (.d (.list (rows.map rwD))),some (.d (wiD g)),some (.d (.int g.1)),some (.d (.int g.2.1)),some (.d (.int g.2.2)),some (.d (.dict [])),none,none,none,none]=some (.nx [some (.d (.list (rows.map rwD))),some (.d (wiD g)),some (.d (.int g.1)),some (.d (.int g.2.1)),some (.d (.int g.2.2)),some (.d (dsT (nxT g rows))),W,X,Y,Z]):=e;have ts:XJ.ju [dsT (nxT g rows)]=some (.list ((XJ.dO (nxT g rows)).map rwD)):=by
  show(pP (dsT (nxT g rows))).bind _=_;rw[JB,aF,if_pos];refine⟨O,cT.mpr λk T=>?_⟩;obtain⟨row,h1,s,_,rfl⟩:=Nu.mp T;have l1:=Sd.zU row (gp g) s;have l2:=(D row h1).1
  cases V:Sd.put row (gp g) s with
  |nil=>rw[V,h_]at l1;lia
  |cons _ _=>rfl
 have sq:qSq (some (.list (rows.map rwD)))=some (rows.map rwD):=rfl;have as:∀(a b c d e f h i j k:Option U),gTn 3 (cM (gNl 2) (cM (gNl 3) (cM (gNl 4) (jH)))) (wiD g) [a,b,c,d,e,f,h,i,j,k]=some [a,b,some (.d (.int g.1)),some (.d (.int g.2.1)),some (.d (.int g.2.2)),f,h,i,j,k]:=λ_ _ _ _ _ _ _ _ _ _=>rfl
 unfold jd;simp![as,Zu,sq,e,ts]
def fac:Nat->Nat
 |0=>1
 |n+1=>(n+1)*fac n
theorem Ck [DecidableEq β] (f:α->β):∀(ks:List β)(L:List α),(∀x∈L,f x∈ks)->L.length<=(ks.map λk=>(L.filter λx=>decide (f x=k)).length).sum
 |[],L,h=>by
  cases L with
  |nil=>simp
  |cons x r=>exact absurd (h x ao) cV
 |k::ks,L,h=>by
  have split:∀L:List α,L.length=(L.filter λx=>decide (f x=k)).length+(L.filter λx=>!decide (f x=k)).length:=λL=>by
   induction L with
   |nil=>rfl
   |cons x r Y=>
    rw[kE,kE]
    cases decide (f x=k)<;>simp<;>lia
  have Y:=Ck f ks (L.filter λx=>!decide (f x=k)) (λx X=>by
   rw[eN]at X;have hn:f x≠k:=by simpa using X.2
   rcases aJ.mp (h x X.1)with z|z
   .exact absurd z hn
   .exact z)
  have sub:∀Z,((L.filter λx=>!decide (f x=k)).filter λx=>decide (f x=Z)).length<=(L.filter λx=>decide (f x=Z)).length:=λZ=>by
   have e:((L.filter λx=>!decide (f x=k)).filter λx=>decide (f x=Z))=(L.filter λx=>decide (f x=Z)).filter λx=>!decide (f x=k):=by
    rw[vh,vh];congr 1
    funext x
    exact Bool.and_comm _ _
   rw[e];exact tH _ _
  have mono:∀ks:List β,(ks.map λZ=>((L.filter λx=>!decide (f x=k)).filter λx=>decide (f x=Z)).length).sum<=(ks.map λZ=>(L.filter λx=>decide (f x=Z)).length).sum:=λks=>by
   induction ks with
   |nil=>exact aB _
   |cons Z ks Y=>rw[aG,aG,lD,lD];exact Nat.add_le_add (sub Z) Y
  rw[aG,lD,split L];exact Nat.add_le_add_left (aV Y (mono ks)) _
theorem Ur (f:β->Nat) (c:Nat):∀ks:List β,(∀k∈ks,f k<=c)->(ks.map f).sum<=ks.length*c
 |[],_=>by simp
 |k::ks,h=>by
  rw[aG,lD,aX,Nat.succ_mul,Nat.add_comm];exact Nat.add_le_add (Ur f c ks λx Z=>h x (au _ Z)) (h k ao)
theorem xK:∀(n:Nat)(m:List Int),m.length=n->∀L:List (List Int),L.Nodup->(∀x∈L,x.Perm m)->L.length<=fac n
 |0,m,hm,L,nd,h=>by
  have hm:=bJ.mp hm;subst hm
  match L,nd,h with
  |[],_,_=>exact cg _
  |[_],_,_=>exact aB _
  |x::y::r,nd,h=>
   have Z:=(h x ao).eq_nil;have Y:=(h y (au _ ao)).eq_nil;rw[Z,Y]at nd;exact absurd ao (bY.mp nd).1
 |n+1,m,hm,L,nd,h=>by
  have ne:∀x∈L,∃a t,x=a::t/\a∈m:=λx Z=>by
   cases x with
   |nil=>have:=(h [] Z).length_eq;rw[hm]at this;cases this
   |cons a t=>exact⟨a,t,rfl,(h _ Z).mem_iff.mp ao⟩
  have c:=Ck (λx:List Int=>x.headD 0) m L (λx Z=>by
   obtain⟨a,t,rfl,ha⟩:=ne x Z;exact ha)
  refine aV c (aV (Ur _ (fac n) m λa ha=>?_) (by rw[hm];exact aB _));have X:=xK n (m.erase a) (by rw[qJ ha,hm];rfl) ((L.filter λx=>decide (x.headD 0=a)).map List.tail) (by
   show List.Pairwise _ _;rw[gY];refine gr (λ{x y} Z Y W e=>W ?_) (nd.filter λx=>decide (x.headD 0=a));rw[eN]at Z Y;obtain⟨b,t,rfl,_⟩:=ne x Z.1;obtain⟨S,t',rfl,_⟩:=ne y Y.1;have U:b=a:=by simpa using Z.2
   have V:S=a:=by simpa using Y.2
   subst U V;have e:t=t':=e;rw[e]) (λt T=>by
   obtain⟨x,Z,rfl⟩:=bT.mp T;rw[eN]at Z;obtain⟨b,t,rfl,_⟩:=ne x Z.1;have U:b=a:=by simpa using Z.2
   subst U;exact hZ ((h _ Z.1).trans (tR ha)))
  rwa[aq]at X
noncomputable def can(g:Wi)(m:List Int):List Int:=m.filter (λe=>decide (g.1<e))++aO g.2.2.toNat g.2.1++aO ((m.filter λe=>decide (e<=g.1)).length-g.2.2.toNat) 0
theorem Cm(g:Wi)(x:Int):∀X:List Int,(rest g X).count x=(X.filter λe=>decide (g.1<e)).count x+if x=0 then(X.filter λe=>decide (e<=g.1)).length else 0
 |[]=>by simp[rest]
 |e::X=>by
  have Z:=Cm g x X;have e1:rest g (e::X)=(if e<=g.1 then 0 else e)::rest g X:=rfl;rw[e1,List.count_cons,Z];by_cases c:e<=g.1
  .rw[if_pos c,lX (by simp;lia),lY (by simp;lia)];by_cases z:x=0
   .subst z;simp;lia
   .simp[z,e9 z]
  .rw[if_neg c,lY (by simp;lia),lX (by simp;lia),List.count_cons];lia
def Gs (D:gOk c) (B:row.Perm m) (hs:s∈stN row c):(Sd.put row (gp c) s).Perm (can c m):=by
 have ft:=(zZ D).mp hs;have f1:s+c.2.2.toNat<=row.length:=ft.1;have f2:∀r,s<=r->r<s+c.2.2.toNat->row.getD r 0<=c.1:=ft.2;rw[<-Nt D.1 f1];have ra:(rest c row).take s=rest c (row.take s):=by unfold rest;rw[qz]
 have rd:(rest c row).drop (s+c.2.2.toNat)=rest c (row.drop (s+c.2.2.toNat)):=by unfold rest;rw[qH]
 have W:row=row.take s++((row.drop s).take c.2.2.toNat++row.drop (s+c.2.2.toNat)):=by
  have:=(fu c.2.2.toNat (row.drop s));rw[mG]at this;rw[this,fu]
 have U:((row.drop s).take c.2.2.toNat).length=c.2.2.toNat:=by rw[cO,fO];lia
 have V:∀e∈(row.drop s).take c.2.2.toNat,e<=c.1:=λe Z=>by
  obtain⟨i,hi,rfl⟩:=jh Z;rw[U]at hi;have:=f2 (s+i) (by lia) (by lia);rw[vW,p7];rwa[aD,aA (by lia)]at this
 have X:((row.drop s).take c.2.2.toNat).filter (λe=>decide (c.1<e))=[]:=List.filter_eq_nil_iff.mpr λe Z=>by have:=V e Z;simp;lia
 have Y:=List.filter_eq_self.mpr λe Z=>dTr (V e Z)
 have h1:(m.filter λe=>decide (c.1<e)).Perm ((row.take s).filter (λe=>decide (c.1<e))++(row.drop (s+c.2.2.toNat)).filter λe=>decide (c.1<e)):=by
  have:=(B.filter λe=>decide (c.1<e)).symm;rwa[W,lM,lM,X,dI]at this
 have h2:(m.filter λe=>decide (e<=c.1)).length=((row.take s).filter λe=>decide (e<=c.1)).length+c.2.2.toNat+((row.drop (s+c.2.2.toNat)).filter λe=>decide (e<=c.1)).length:=by
  have:=(B.filter λe=>decide (e<=c.1)).length_eq.symm;rw[W,lM,lM,Y,bL,bL,U]at this;lia
 rw[List.perm_iff_count];intro x;unfold can;rw[ra,rd,gZ,gZ,gZ,gZ,Cm,Cm,h1.count_eq,gZ,h2,nY (n:=_-_)];generalize ((row.take s).filter λe=>decide (e<=c.1)).length=p;generalize ((row.drop (s+c.2.2.toNat)).filter λe=>decide (e<=c.1)).length=q;by_cases z:x=0
 .subst z;simp;lia
 .simp[z,e9 z];lia
def ap0(r:List Int):ly 5 (rwD r):=qw (Bw (sI (n:=1) eP (λ_=>sJ) r)) (by decide)
def ap1(R:List (List Int)):ly 7 (rlD R):=qw (uN (sI rwD ap0 R)) (by decide)
def Xx : k∈bK (fK c ah [])<->k∈nxT c ah:=by
 rw[Nu]
 constructor
 .intro h;obtain⟨q,Y,rfl⟩:=bT.mp h;rcases pW ah [] Y with z|⟨row,Z,s,hs,rfl⟩
  .cases z
  .exact⟨row,Z,s,hs,rfl⟩
 .rintro⟨row,Z,s,hs,rfl⟩;exact Ci ah [] row Z s hs
theorem Nv(x:Int):∀m:List Int,m.length=m.count x+(m.filter λa=>decide (a≠x)).length
 |[]=>rfl
 |a::r=>by
  have Z:=Nv x r;by_cases z:a=x
  .subst z;rw[List.count_cons_self,lX (by simp),aX,Z];lia
  .rw[List.count_cons_of_ne z,lY (by simpa using z),aX,aX,Z];lia
theorem Ek:∀(n:Nat)(m:List Int)(x:Int),m.length=n->2<=m.count x->∀L:List (List Int),L.Nodup->(∀y∈L,y.Perm m)->2*L.length<=fac n
 |0,m,x,hm,T,L,nd,h=>by
  have hm:=bJ.mp hm;subst hm;simp at T
 |n+1,m,x,hm,T,L,nd,h=>by
  have ne:∀y∈L,∃a t,y=a::t/\a∈m:=λy Z=>by
   cases y with
   |nil=>have:=(h [] Z).length_eq;rw[hm]at this;cases this
   |cons a t=>exact⟨a,t,rfl,(h _ Z).mem_iff.mp ao⟩
  have X:x∈m:=pJ.mp (by lia);have tl:∀a∈m,((L.filter λy=>decide (y.headD 0=a)).map List.tail).Nodup/\∀t∈(L.filter λy=>decide (y.headD 0=a)).map List.tail,t.Perm (m.erase a):=λa ha=>by
   refine⟨?_,λt Q=>?_⟩
   .show List.Pairwise _ _;rw[gY];refine gr (λ{y z} Z W V e=>V ?_) (nd.filter λy=>decide (y.headD 0=a));rw[eN]at Z W;obtain⟨b,t,rfl,_⟩:=ne y Z.1;obtain⟨P,t',rfl,_⟩:=ne z W.1;have Y:b=a:=by simpa using Z.2
    have U:P=a:=by simpa using W.2
    subst Y U;have e:t=t':=e;rw[e]
   .obtain⟨y,Z,rfl⟩:=bT.mp Q;rw[eN]at Z;obtain⟨b,t,rfl,_⟩:=ne y Z.1;have Y:b=a:=by simpa using Z.2
    subst Y;exact hZ ((h _ Z.1).trans (tR ha))
  have S:∀a∈m,(m.erase a).length=n:=λa ha=>by rw[qJ ha,hm];rfl
  have c:=Ck (λy:List Int=>y.headD 0) (x::m.filter λa=>decide (a≠x)) L (λy Z=>by
   obtain⟨a,t,rfl,ha⟩:=ne y Z;by_cases z:a=x
   .rw[z];exact ao
   .exact au _ (eN.mpr ⟨ha,dTr z⟩))
  have k1:(L.filter λy=>decide (y.headD 0=x)).length<=fac n:=by
   have:=xK n (m.erase x) (S x X) _ (tl x X).1 (tl x X).2;rwa[aq]at this
  have k2:∀a∈m.filter (λa=>decide (a≠x)),2*(L.filter λy=>decide (y.headD 0=a)).length<=fac n:=λa ha=>by
   rw[eN]at ha;have z:=of_decide_eq_true ha.2;have:=Ek n (m.erase a) x (S a ha.1) (by rwa[List.count_erase_of_ne (e9 z)]) _ (tl a ha.1).1 (tl a ha.1).2;rwa[aq]at this
  have s2:∀ks:List Int,(∀a∈ks,2*(L.filter λy=>decide (y.headD 0=a)).length<=fac n)->2*(ks.map λa=>(L.filter λy=>decide (y.headD 0=a)).length).sum<=ks.length*fac n:=λks=>by
   induction ks with
   |nil=>intro _;exact cg _
   |cons a r R=>
    intro h;have:=R λb Y=>h b (au _ Y)
    have:=h a ao;rw[aG,lD,aX,Nat.add_mul r.length 1,Nat.one_mul];lia
  have s2:=s2 _ k2;have fl:(m.filter λa=>decide (a≠x)).length+2<=n+1:=by
   have:=Nv x m;lia
  rw[aG,lD]at c;show 2*L.length<=(n+1)*fac n;have g:(m.filter λa=>decide (a≠x)).length*fac n+2*fac n<=(n+1)*fac n:=by
   rw[<-Nat.add_mul];exact Nat.mul_le_mul_right _ fl
  lia
def CN(w:Nat)(R:List (List Int)):Prop:=∃m:List Int,m.length=w/\∀r∈R,r.Perm m
def CN.len {R:List (List Int)}(h:CN c R):∀r∈R,r.length=c:=λr Z=>by
 obtain⟨m,h1,Y⟩:=h;rw[(Y r Z).length_eq,h1]
def Us(hs:List Int):CN hs.length [hs]:=⟨hs,rfl,λr Z=>by rw[aL.mp Z]⟩
def ap2:∀w,w<=5->fac w<=120:=by decide
def JK {g:Wi}(B:c<=6) (D:gOk g) (h:CN c t):(fK g t []).length<=1000:=by
 obtain⟨m,hm,X⟩:=h;have kp:∀k∈bK (fK g t []),k.Perm (can g m)/\k.length=c:=λk Z=>by
  obtain⟨q,Y,rfl⟩:=bT.mp Z;rcases pW t [] Y with z|⟨row,h1,s,h2,rfl⟩
  .cases z
  .exact⟨Gs D (X row h1) h2,by rw[Sd.zU,(X row h1).length_eq,hm]⟩
 by_cases e:fK g t []=[]
 .rw[e];exact cg _
 obtain⟨q,Y⟩:=pX _ e;have Z:q.1∈bK (fK g t []):=ji Y;have cl:(can g m).length=c:=by rw[<-(kp _ Z).1.length_eq,(kp _ Z).2]
 have U:(fK g t []).length=(bK (fK g t [])).length:=by unfold bK;rw[aq]
 have:=xK c (can g m) cl _ (zY (g:=g) t [] .nil) λy W=>(kp y W).1
 have V:∀c,c<=6->fac c<=720:=by decide
 have:=V c B;lia
theorem Nx:∀(gs:List Wi)(rows:List (List Int)),(lv rows gs).length<=gs.length
 |[],rows=>by rw[nG];exact aB _
 |g::gs,rows=>by
  rw[jT,aX,aX];split
  .simp
  .exact rB (Nx gs _)
def w_eq(s:Str)(h:eR (.str s)=true)(t:Str)(h2:eR (.str t)=true):gEq (.str s) (.str t)=some (.bool (decide (s=t))):=by
 have Z:∀u:Str,eR (.str u)=true->fq (.str u)=true:=λu hu=>uO ⟨hu,by simp[gz]⟩
 unfold gEq;rw[Z s h,Z t h2];show some (fI (s==t))=_;by_cases e:s=t
 .rw[e];simp
 .rw[dFa e];simp[e]
def sng(m:List Int):Nat:=m.countP λx=>decide (x≠0)&&decide (m.count x=1)
def ones(gs:List Wi):Nat:=gs.countP λg=>decide (g.2.2=1)
def Xy (f0:0<=k.1) (fb:k.1<k.2.1) (B:gOk k):sng (can k m)<=sng m+(if k.2.2=1 then 1 else 0):=by
 have hs:=B.1;have V:∀x,k.1<x->(m.filter λe=>decide (k.1<e)).count x=m.count x:=λx Z=>by
  exact List.count_filter (p:=λe=>decide (k.1<e)) (dTr Z)
 have X:∀x,x≠0->(can k m).count x=(m.filter λe=>decide (k.1<e)).count x+(if k.2.1=x then k.2.2.toNat else 0):=λx Z=>by
  unfold can;rw[gZ,gZ,nY,nY];have:((0:Int)==x)=false:=beq_eq_false_iff_ne.mpr (e9 Z);rw[this];by_cases c:k.2.1=x
  .rw[if_pos c,if_pos (beq_iff_eq.mpr c)];simp
  .rw[if_neg c,if_neg (λz=>c (beq_iff_eq.mp z))];simp
 unfold sng;generalize Y:(λx=>decide (x≠0)&&decide ((can k m).count x=1))=P;have W:P 0=false:=by rw[<-Y];rfl
 unfold can;rw[jC,jC,m6,m6,W];have T:(m.filter λe=>decide (k.1<e)).countP P<=m.countP λx=>decide (x≠0)&&decide (m.count x=1):=by
  rw[vm];refine tG λx Z h=>?_
  rw[aK,decide_eq_true_iff]at h;obtain⟨h1,h2⟩:=h;rw[<-Y]at h1;simp only[aK,decide_eq_true_eq]at h1 ⊢;refine⟨h1.1,?_⟩;have:=X x h1.1;rw[h1.2,V x h2]at this;have mx:=pJ.mpr Z;lia
 have U:(if P k.2.1=true then k.2.2.toNat else 0)<=(if k.2.2=1 then 1 else 0):=by
  split
  .next z=>
   rw[<-Y]at z;simp only[aK,decide_eq_true_eq]at z;have:=X k.2.1 z.1;rw[z.2,if_pos rfl]at this;rw[if_pos (by lia)];lia
  .exact cg _
 simp only[fL,if_false,kh];lia
def Xz (B:m.length=6) (h:sng m<=4):∃x,2<=m.count x:=by
 refine ip λhn=>?_
 have Z:∀x,m.count x<=1:=λx=>by
  rcases dB (m.count x) 2 with z|z
  .lia
  .exact absurd ⟨x,z⟩ hn
 have e:sng m=m.countP λx=>decide (x≠0):=p8 λx Y=>by
  have:=pJ.mpr Y;have:=Z x;simp only[aK,decide_eq_true_eq];lia
 have l:=List.length_eq_countP_add_countP (λx:Int=>decide (x≠0)) (l:=m);have z:(m.countP λa=>decide (¬(decide (a≠0))=true))=m.count 0:=p8 λx _=>by simp
 have:=Z 0;lia
theorem Ny {w:Nat}(D:1<=w) (B:w<=6):∀(gs:List Wi)(rows:List (List Int))(m:List Int),(∀g∈gs,grOk g/\gOk g)->sng m+ones gs<=4->m.length=w->(∀r∈rows,r.Perm m)->Few (lv rows gs)/\∀S∈lv rows gs,CN w (bK S)
 |[],rows,m,_,_,_,_=>by
  rw[nG];exact⟨λ_ z=>(nomatch z),λ_ z=>(nomatch z)⟩
 |g::gs,rows,m,R,L,hm,T=>by
  obtain⟨go,Q⟩:=R g ao;have kp:∀k∈bK (fK g rows []),k.Perm (can g m)/\k.length=w:=λk X=>by
   obtain⟨q,V,rfl⟩:=bT.mp X;rcases pW rows [] V with z|⟨row,h1,s,h2,rfl⟩
   .cases z
   .exact⟨Gs Q (T row h1) h2,by rw[Sd.zU,(T row h1).length_eq,hm]⟩
  have nd:=zY (g:=g) rows [] .nil;have M:ones (g::gs)=ones gs+(if g.2.2=1 then 1 else 0):=by
   unfold ones;rw[nj];simp
  have P:sng (can g m)+ones gs<=4:=by
   have:=Xy (m:=m) go.f go.b Q;lia
  by_cases e:fK g rows []=[]
  .have hd:(fK g rows []).length<=400/\∀k∈bK (fK g rows []),k≠[]/\k.length<=100:=by
    rw[e];exact⟨cg _,λk z=>(nomatch (show k∈([]:List (List Int))from z))⟩
   have nr:CN w (bK (fK g rows [])):=by
    rw[e];exact⟨m,hm,λr z=>(nomatch (show r∈([]:List (List Int))from z))⟩
   rw[jT,if_pos e];exact⟨λS Z=>by rwa[aL.mp Z],λS Z=>by rwa[aL.mp Z]⟩
  obtain⟨q,V⟩:=pX _ e;have X:q.1∈bK (fK g rows []):=ji V;have cl:(can g m).length=w:=by rw[<-(kp _ X).1.length_eq,(kp _ X).2]
  have O:(fK g rows []).length=(bK (fK g rows [])).length:=by unfold bK;rw[aq]
  have hd:(fK g rows []).length<=400/\∀k∈bK (fK g rows []),k≠[]/\k.length<=100:=⟨by
   rw[O];by_cases c:w=6
   .obtain⟨x,N⟩:=Xz (cl.trans c) (by lia);have:=Ek w (can g m) x cl N _ nd λy W=>(kp y W).1
    rw[c]at this;have:fac 6=720:=rfl;lia
   .have:=xK w (can g m) cl _ nd λy W=>(kp y W).1
    have:=ap2 w (by lia);lia,λk X=>by
   have:=(kp k X).2;exact⟨λz=>by rw[z]at this;simp at this;lia,by lia⟩⟩
  have nr:CN w (bK (fK g rows [])):=⟨can g m,cl,λr Y=>(kp r Y).1⟩;have U:=Ny D B gs (XJ.dO (bK (fK g rows []))) (can g m) (λg' h'=>R g' (au _ h')) P cl λr Y=>(kp r ((cW _).mem_iff.mp Y)).1
  rw[jT,if_neg e];refine⟨λS Z=>?_,λS Z=>?_⟩<;>rcases aJ.mp Z with rfl|Z
  .exact hd
  .exact U.1 S Z
  .exact nr
  .exact U.2 S Z
def cof(f:Int)(r:List Int):Nat:=r.countP λe=>decide (f<e)
def Ut (h:k.Perm m):cof c k=cof c m:=h.countP_eq _
def XC (B:gOk c) (hs:s∈stN row c) (D:c.1<=k):cof k row+(if k<c.2.1 then 1 else 0)<=cof k (Sd.put row (gp c) s):=by
 rw[Ut (Gs B (List.Perm.refl row) hs)];unfold can cof;rw[jC,jC,vm,m6];have e:row.countP (λa=>decide (k<a)&&decide (c.1<a))=row.countP λa=>decide (k<a):=p8 λa _=>by
  simp only[aK,decide_eq_true_eq];lia
 rw[e];have:=B.1;split
 .next z=>rw[if_pos (dTr z)];lia
 .lia
theorem Nz:∀(gs:List Wi)(rows:List (List Int))(S:List Tte),(∀g∈gs,gOk g/\g.1<g.2.1)->gs.Pairwise (λa b=>a.1<=b.1)->S∈lv rows gs->∃g∈gs,∀c,(∀r∈rows,c<=cof g.1 r)->∀k∈bK S,c+1<=cof g.1 k
 |[],rows,S,_,_,h=>by rw[nG]at h;cases h
 |g::gs,rows,S,W,pw,h=>by
  have V:=W g ao;have st:∀{f:Int}{c:Nat},g.1<=f->(∀r∈rows,c<=cof f r)->∀k∈bK (fK g rows []),c+(if f<g.2.1 then 1 else 0)<=cof f k:=λT Z k X=>by
   obtain⟨q,U,rfl⟩:=bT.mp X;rcases pW rows [] U with z|⟨row,Y,s,hs,rfl⟩
   .cases z
   .exact aV (Nat.add_le_add_right (Z row Y) _) (XC V.1 hs T)
  rw[jT]at h;rcases aJ.mp h with rfl|h
  .refine⟨g,ao,λc Z k X=>?_⟩;have:=st (gw g.1) Z k X;rwa[if_pos V.2]at this
  .by_cases c:fK g rows []=[]
   .rw[if_pos c]at h;cases h
   .rw[if_neg c]at h;obtain⟨g',m,q⟩:=Nz gs _ S (λg' h'=>W g' (au _ h')) (bI.mp pw).2 h;refine⟨g',au _ m,λc Z=>q c λr Y=>?_⟩;have:=st ((bI.mp pw).1 g' m) Z r ((cW _).mem_iff.mp Y);exact aV (jr ..) this
theorem JL:∀(gs:List Wi)(rows:List (List Int)),(∀g∈gs,gOk g/\g.1<g.2.1)->gs.Pairwise (λa b=>a.1<=b.1)->((lv rows gs).map λS=>XJ.dO (bK S)).Nodup
 |[],rows,_,_=>by rw[nG];exact .nil
 |g::gs,rows,V,pw=>by
  rw[jT,aG];have Z:=(bI.mp pw).2;have Y:=λg' h'=>V g' (au _ h')
  by_cases c:fK g rows []=[]
  .rw[if_pos c];exact bY.mpr ⟨cV,.nil⟩
  .rw[if_neg c];refine bY.mpr ⟨λz=>?_,JL gs _ Y Z⟩;obtain⟨S,U,e⟩:=bT.mp z;obtain⟨g',_,q⟩:=Nz gs _ S Y Z U;have up:∀n:Nat,∀r∈XJ.dO (bK (fK g rows [])),n<=cof g'.1 r:=λn=>by
    induction n with
    |zero=>exact λ_ _=>cg _
    |succ n W=>exact λr R=>q n W r ((cW _).mem_iff.mp (by rwa[e]))
   cases X:fK g rows []with
   |nil=>exact c X
   |cons t T=>
    have:=up (t.1.length+1) t.1 ((cW _).mem_iff.mpr (by rw[X];exact ao));have l:cof g'.1 t.1<=t.1.length:=List.countP_le_length;lia
def ad7 (h:rwD c=rwD k):c=k:=by
 have:c.map eP=k.map eP:=PyData.tuple.inj h;exact vp (λ_ _ z=>PyData.int.inj z) |>.mp this
def ad8 (h:rlD c=rlD k):c=k:=vp (λ_ _ z=>ad7 z) |>.mp (h8 h)
def ne_self(h:ly 50 d):gNe d d=some (.bool false):=by
 have e:=Com.eq_self (qw h (show 50<=60 by decide));unfold gEq at e;unfold gNe;split at e
 .next q=>
  rw[if_pos q];have:f7 d d=true:=by simpa using e
  rw[this];rfl
 .cases e
def NK(g:Wi)(R:List (List Int)):XJ.dO (bK (fK g R []))=XJ.dO (nxT g R):=by
 have n1:(bK (fK g R [])).Nodup:=zY R [] .nil;have n2:=ad6 g R;have p:=(List.perm_ext_iff_of_nodup n1 n2).mpr λx=>Xx
 exact XJ.yw ((cW _).trans (p.trans (cW _).symm)) (XJ.wW n1) (XJ.wW n2)
theorem NP(a b c:Option U):∀(gs:List Wi)(R:List (List Int))(u v:Option U),(∀g∈gs,gOk g)->R≠[]->(∀r∈R,1<=r.length/\r.length<=100)->R.length<=1000->Few (lv R gs)->[]∈lv R gs ->
 ∃D B,iH (gTn 2 (cM (gNl 4) (cM (gNl 5) (jH)))) (bM (sIf (D3.tOr (bF (dOp gEq (aj 3) (gO (aM)))) (D3.tOr (D3.iY (bF (dUn (gIs "list") (aj 4)))) (bF (dOp gNe (aj 4) (dCall jd (ak (aj 3) (ak (aj 5) (aM)))))))) (dj (dC (.bool false))) (cZ)) (bN 3 (aj 4))) (jV ((lv R gs).map λS=>rlD (XJ.dO (bK S))) (gs.map wiD)) [a,b,c,some (.d (rlD R)),u,v]=some (.nx [a,b,c,some (.d (.list [])),D,B])
 |[],R,u,v,_,_,_,_,_,h=>by rw[nG]at h;cases h
 |g::gs,R,u,v,V,J,M,L,Y,h=>by
  have Q:=V g ao;rw[jT]at Y h ⊢;obtain⟨f1,f2⟩:=Y _ ao;have pl:=(cW (bK (fK g R []))).length_eq;have pn:=(cW (nxT g R)).length_eq;have nx:=Uq (g:=g) (rows:=R) Q.1 Q.2 M L (by
   rw[<-pn,<-NK,pl];unfold bK;rw[aq];lia)
  rw[<-NK]at nx;have nx:jd [rlD R,wiD g]=some (rlD (XJ.dO (bK (fK g R [])))):=nx;have N:∀r∈XJ.dO (bK (fK g R [])),1<=r.length/\r.length<=100:=λr m=>by
   obtain⟨k1,k2⟩:=f2 r ((cW _).mem_iff.mp m);have:=k_.mpr k1;lia
  have tl:(XJ.dO (bK (fK g R []))).length<=1000:=by
   rw[pl];unfold bK;rw[aq];lia
  have ne:gNe (rlD (XJ.dO (bK (fK g R [])))) (rlD (XJ.dO (bK (fK g R []))))=some (.bool false):=ne_self (qw (ap1 _) (by decide));have e0:=Xv R;have e0:gEq (rlD R) (.list [])=some (.bool false):=by
   rw[e0]
   cases R with
   |nil=>exact absurd rfl J
   |cons _ _=>rfl
  generalize W:XJ.dO (bK (fK g R []))=T at *;have ty:D3.isT "list" (tyD (rlD T))=true:=(by decide:D3.isT "list" "list"=true);have P:(gTn 2 (cM (gNl 4) (cM (gNl 5) (jH)))) (.tuple [rlD T,wiD g]) [a,b,c,some (.d (rlD R)),u,v]=some [a,b,c,some (.d (rlD R)),some (.d (rlD T)),some (.d (wiD g))]:=rfl;have O:(bM (sIf (D3.tOr (bF (dOp gEq (aj 3) (gO (aM)))) (D3.tOr (D3.iY (bF (dUn (gIs "list") (aj 4)))) (bF (dOp gNe (aj 4) (dCall jd (ak (aj 3) (ak (aj 5) (aM)))))))) (dj (dC (.bool false))) (cZ)) (bN 3 (aj 4))) [a,b,c,some (.d (rlD R)),some (.d (rlD T)),some (.d (wiD g))]=some (.nx [a,b,c,some (.d (rlD T)),some (.d (rlD T)),some (.d (wiD g))]):=by
   simp![e0,ty,nx,ne,Com.sz (show 0<=1000000 by decide)]
  by_cases Z:fK g R []=[]
  .rw[if_pos Z];have:T=[]:=by rw[<-W,Z];rfl
   rw[aG,W,eO,show jV [rlD T] ((g::gs).map wiD)=[.tuple [rlD T,wiD g]]from by simp[jV],mY P O,this];exact⟨_,_,rfl⟩
  .rw[if_neg Z]at Y h ⊢;have X:T≠[]:=λz=>by
    rw[z]at pl;unfold bK at pl;rw[aq]at pl;exact Z (bJ.mp pl.symm)
   rw[aG,W];have z:jV (rlD T::(lv T gs).map λS=>rlD (XJ.dO (bK S))) ((g::gs).map wiD) = .tuple [rlD T,wiD g]::jV ((lv T gs).map λS=>rlD (XJ.dO (bK S))) (gs.map wiD):=rfl;rw[z,mY P O];refine NP a b c gs T _ _ (λg' h'=>V g' (au _ h')) X N tl (λS K=>Y S (au _ K)) ?_;rcases aJ.mp h with z|z
   .exact absurd z.symm Z
   .exact z
section
variable{gs:List Wi}
abbrev lsD(hs:List Int)(gs:List Wi):D:=.list ((lv [hs] (jL gs)).map λS=>rlD (XJ.dO (bK S)))
def XF(D:∀g∈gs,grOk g/\gOk g)(J:gs.length<64)(B:hs.length<=6)(O:Few (lv [hs] (jL gs)))(nr:∀S∈lv [hs] (jL gs),CN hs.length (bK S))(hn:[]∈lv [hs] (jL gs)):
 pD [.list (hs.map .int),.list (gs.map wiD),lsD hs gs]=some (.bool true):=by
 have pm:=sU gs.length λt=>(gat gs t).1
 have Z:∀R∈(lv [hs] (jL gs)).map (λS=>XJ.dO (bK S)),R.length<=1000/\CN hs.length R:=λR Y=>by
  obtain⟨S,W,rfl⟩:=bT.mp Y;obtain⟨m,hm,q⟩:=nr S W;refine⟨?_,m,hm,λr Q=>q r ((cW _).mem_iff.mp Q)⟩;have:=(O S W).1;rw[(cW _).length_eq];unfold bK;rw[aq];lia
 have tc:=JC gs (tn gs.length λt=>(gat gs t).1) [hs];have tc:zq gs [hs] (tn gs.length λt=>(gat gs t).1) ((lv [hs] (jL gs)).map λS=>XJ.dO (bK S))=true:=tc;have X:=Nx (jL gs) [hs];rw[Cj]at X;have le:lsD hs gs = .list (((lv [hs] (jL gs)).map λS=>XJ.dO (bK S)).map rlD):=by rw[cX];rfl
 obtain⟨V,e,_⟩:=K5 _ _ hn;rw[le];have em:(lv [hs] (jL gs)).map (λS=>XJ.dO (bK S))=V.map (λS=>XJ.dO (bK S))++[[]]:=by rw[e,dJ];rfl
 rw[em]at Z tc ⊢;rw[e,bL]at X;have U:=Ul (hs:=hs) (Rs:=V.map λS=>XJ.dO (bK S)) D J (by lia) (JD J) pm (by rwa[aq]) (λR Y=>⟨(Z R Y).1,(Z R Y).2.len⟩) (λt T ah ha=>by
  have gt:gOk (gat gs t):=by
   have:=aZ.mp (pm.mem_iff.mp T);unfold gat;rw[aD,aA this];exact(D _ (cU this)).2
  rcases ha with rfl|ha
  .exact JK B gt (Us hs)
  .exact JK B gt (Z ah ha).2)
 rw[U,tc]
abbrev zr(w:Nat):List Int:=aO w 0
theorem rep0{w:Nat}(h:w<=1000):oY (.list [.int 0]) (.int (w:Int))=some (.list ((zr w).map .int)):=by
 show(if [eP 0].length*((w:Int)).toNat<=1000000/\-(2^63)<=(w:Int)/\(w:Int)<2^63 then some (f8 (aO ((w:Int)).toNat [eP 0]).flatten)else none)=_;rw[if_pos ⟨by simp;lia,by lia,by lia⟩,show((w:Int)).toNat=w by lia,List.map_replicate];congr 2;clear h
 induction w with
 |zero=>rfl
 |succ n Z=>rw[cD,eY,Z,cD];rfl
def K9 {w:Nat}(B:∀g∈gs,grOk g/\gOk g) (D:gs.length<64) (w1:1<=w) (O:w<=6) (J:Few (lv [zr w] (jL gs))) (nr:∀S∈lv [zr w] (jL gs),CN w (bK S)) (hn:[]∈lv [zr w] (jL gs)) :
 fW [.int (w:Int),.list (gs.map wiD),lsD (zr w) gs]=some (.bool true):=by
 have Z:(zr w).length=w:=bD;obtain⟨u,v,e⟩:=NP (some (.d (.int (w:Int)))) (some (.d (.list (gs.map wiD)))) (some (.d (lsD (zr w) gs))) (jL gs) [zr w] none none (λg h=>(B g (JF.mp h)).2) (by simp) (λr V=>by rw[aL.mp V,Z];lia) (by simp) J hn;have W:=XF (hs:=zr w) B D (by rwa[Z]) J (by rwa[Z]) hn;have lt:=K8 D;have X:=rep0 (w:=w) (by lia);have ty:D3.isT "list" (tyD (lsD (zr w) gs))=true:=(by decide:D3.isT "list" "list"=true);have l1:1<=(lv [zr w] (jL gs)).length:=List.length_pos_of_mem hn;have l2:=Nx (jL gs) [zr w];rw[Cj]at l2;have Y:oR (.list ((zr w).map eP))=some (rwD (zr w)):=rfl;have e1:gEq (.list []) (.list [])=some (.bool true):=rfl;have it:Zh (.bool true)=some (.bool true):=rfl;have T:decide ((1:Int)<=((lv [zr w] (jL gs)).length:Int))=true:=dTr (by lia);have U:decide (((lv [zr w] (jL gs)).length:Int)<=(gs.length:Int))=true:=dTr (by lia);have e:iH (gTn 2 (cM (gNl 4) (cM (gNl 5) (jH)))) (bM (sIf (D3.tOr (bF (dOp gEq (aj 3) (gO (aM)))) (D3.tOr (D3.iY (bF (dUn (gIs "list") (aj 4)))) (bF (dOp gNe (aj 4) (dCall jd (ak (aj 3) (ak (aj 5) (aM)))))))) (dj (dC (.bool false))) (cZ)) (bN 3 (aj 4))) (jV ((lv [zr w] (jL gs)).map λS=>rlD (XJ.dO (bK S))) ((jL gs).map wiD)) [some (.d (.int (w:Int))),some (.d (.list (gs.map wiD))),some (.d (lsD (zr w) gs)),some (.d (.list [rwD (zr w)])),none,none]=_:=e;unfold fW;simp![ty,lt,X,Y,e,e1,W,it,T,U,lMp,Com.sz (show 0<=1000000 by decide),Com.sz (show 1<=1000000 by decide)]
end
def Gu(hs:List Int)(gs:List Wi):Prop:=∃ps,laB hs gs ps=true
def El {l:List α} {d:α} (h:i<l.length-1):l.dropLast.getD i d=l.getD i d:=by
 rw[aD,aD,List.getElem?_dropLast,if_pos h]
def Gu.init (h:Gu c k):Gu c k.dropLast:=by
 obtain⟨ps,h⟩:=h;obtain⟨pl,h1,h2⟩:=vQ.mp h;have Z:∀i,i<k.length-1->gat k.dropLast i=gat k i:=λi hi=>El hi
 have ep:∀i,i<k.length-1->ps.dropLast.getD i 0=ps.getD i 0:=λi hi=>El (by rw[pl];exact hi)
 have Y:k.dropLast.length=k.length-1:=nZ;refine⟨ps.dropLast,vQ.mpr ⟨by rw[nZ,Y,pl],λi hi=>?_,λi hi=>?_⟩⟩<;>rw[Y]at hi
 .rw[Z i hi,ep i hi];exact h1 i (by lia)
 .rw[<-h2 i (by lia)];unfold beB;rw[Z i hi,ep i hi,sY,cT,cT];refine forall_congr' λj=>forall_congr' λX=>?_
  have:=aZ.mp X;rw[Z j (by lia),ep j (by lia)]
theorem uQ(r:List Int):sG (r.map eP)=true/\m9 (r.map eP)=[]:=by
 induction r with
 |nil=>exact⟨by rw[eO,sG],by rw[eO,m9]⟩
 |cons x r Z=>exact⟨by rw[aG,sG,Z.1];rfl,by rw[aG,m9,Z.2];rfl⟩
theorem NQ(R:List (List Int)):sG (R.map rwD)=true/\m9 (R.map rwD)=[]:=by
 induction R with
 |nil=>exact⟨by rw[eO,sG],by rw[eO,m9]⟩
 |cons x r Z=>exact⟨by rw[aG,sG,Z.1,rwD,nod,(uQ x).1];rfl,by rw[aG,m9,Z.2,rwD,zm,(uQ x).2];rfl⟩
theorem z9(Rs:List (List (List Int))):sG (Rs.map rlD)=true/\m9 (Rs.map rlD)=Rs.map rlD:=by
 induction Rs with
 |nil=>exact⟨by rw[eO,sG],by rw[eO,m9]⟩
 |cons x r Z=>exact⟨by rw[aG,sG,Z.1,rlD,nod,(NQ x).1];rfl,by rw[aG,m9,Z.2,rlD,zm,(NQ x).2];rfl⟩
def Yv{Rs:List (List (List Int))}(h:Rs.Nodup):(f8 (Rs.map rlD)::Rs.map rlD).Nodup:=by
 refine bY.mpr ⟨λz=>?_,List.Pairwise.map _ (λa b z e=>z (ad8 e)) h⟩;have:=List.sizeOf_lt_of_mem z;simp at this;lia
def JM{Rs:List (List (List Int))}(h:Rs.Nodup):ndW (.tuple [.str "none", .list (Rs.map rlD)])=true:=by
 unfold ndW;rw[aK,@decide_eq_true_iff _ (gd _)];refine⟨by simp[nod,sG,(z9 Rs).1],?_⟩;have:zm (.tuple [.str "none", .list (Rs.map rlD)])=f8 (Rs.map rlD)::Rs.map rlD:=by simp[zm,m9,(z9 Rs).2]
 rw[this];exact Yv h
theorem Uu{Rs:List (List (List Int))} (h:Rs.Nodup) (B:c≠[]):ndW (.tuple [.str "wide", .int k,.list (c.map .int),.list (Rs.map rlD)])=true:=by
 unfold ndW;rw[aK,@decide_eq_true_iff _ (gd _)];refine⟨by simp[nod,sG,(z9 Rs).1,(uQ c).1],?_⟩;have:zm (.tuple [.str "wide", .int k,.list (c.map .int),.list (Rs.map rlD)])=f8 (c.map .int)::f8 (Rs.map rlD)::Rs.map rlD:=by simp[zm,m9,(z9 Rs).2,(uQ c).2]
 rw[this];refine bY.mpr ⟨λz=>?_,Yv h⟩
 cases c with
 |nil=>exact B rfl
 |cons p c=>
  rcases aJ.mp z with z|z
  .cases Rs with
   |nil=>cases z
   |cons R Rs=>
    have:=(List.cons.inj (h8 z)).1
    cases this
  .obtain⟨R,_,e⟩:=bT.mp z;have e:=h8 e
   cases R with
   |nil=>cases e
   |cons r R=>
    have:=(List.cons.inj e).1
    cases this
def Uv(ps:List Int):ndW (.tuple [.str "laid", .list (ps.map .int)])=true:=by
 unfold ndW;rw[aK,@decide_eq_true_iff _ (gd _)];refine⟨by simp[nod,sG,(uQ ps).1],?_⟩;simp[zm,m9,(uQ ps).2]
def Uw {w:Nat}(B:∀g∈c,grOk g/\gOk g) (h4:ones c<=4) (D:c.length<64) (O:1<=w) (J:w<=6) :
 (∃ps:List Int,laB (zr w) c ps=true/\ps.length=c.length/\lA [.list ((zr w).map .int),.list (c.map wiD)]=some (.tuple [.str "laid", .list (ps.map .int)])) \/
 (¬Gu (zr w) c/\lA [.list ((zr w).map .int),.list (c.map wiD)]=some (.tuple [.str "none", lsD (zr w) c])/\ndW (.tuple [.str "none", lsD (zr w) c])=true/\((lv [zr w] (jL c)).map λS=>XJ.dO (bK S)).Nodup/\fW [.int (w:Int),.list (c.map wiD),lsD (zr w) c]=some (.bool true)):=by
 have M:(zr w).length=w:=bD;have go:=λg h=>(B g h).1
 have Y:=λg h=>(B g h).2
 have R:=JD D;have pm:=sU c.length λt=>(gat c t).1
 have pw:=ao9 c.length λt=>(gat c t).1
 have it:inT c (tn c.length λt=>(gat c t).1)=jL c:=rfl;have V:∀g∈jL c,grOk g/\gOk g:=λg h=>B g (JF.mp h)
 have s0:sng (zr w)=0:=List.countP_eq_zero.mpr λx H=>by
  rw[List.eq_of_mem_replicate H];simp
 have C:ones (jL c)=ones c:=by
  have:(jL c).Perm c:=by
   refine(pm.map (gat c)).trans (List.Perm.of_eq ?_);apply nq
   .simp
   .intro i h1 h2;rw[gC,lK];unfold gat;rw[aD,aA h2];rfl
  exact this.countP_eq _
 have X:=Ny (w:=w) O J (jL c) [zr w] (zr w) V (by lia) M λr G=>by rw[aL.mp G]
 have P:=Ed go;by_cases hn:[]∈lv [zr w] (jL c)
 .have L:=Xr (hs:=zr w) Y D (by lia) R pm (by rw[it];exact X.1) (by rw[it];exact hn);have L:eF [.list ((zr w).map .int),.list (c.map wiD)]=some (.tuple [.str "none", lsD (zr w) c]):=L;have N:=JL (jL c) [zr w] (λg h=>⟨(V g h).2,(V g h).1.b⟩) (by
   unfold jL;rw[gY];exact pw)
  refine .inr ⟨λ⟨Z,Q⟩=>?_,?_,?_,N,K9 B D O J X.1 X.2 hn⟩
  .obtain⟨U,I,E⟩:=vQ.mp Q;have z:=P0 B pm pw hn λi=>(Z.getD i 0).toNat
   have e:((aN c.length).map λi=>(((Z.getD i 0).toNat:Nat):Int))=Z:=by
    apply nq
    .rw[aq,bQ,U]
    .intro i g1 g2;have F:i<c.length:=by rw[<-U];exact g2
     rw[gC,lK];have:=I i F;unfold roB at this;rw[aK,aK]at this;have W:=of_decide_eq_true this.1.1;rw[aD,aA g2]at W ⊢;show((Z[i].toNat:Nat):Int)=Z[i];have W:0<=Z[i]:=W;lia
   rw[e,Q]at z
   cases z
  .unfold lA;simp![P,L]
  .have:=JM N;rw[cX]at this;exact this
 .obtain⟨ss,out,K,run,L⟩:=Ue (hs:=zr w) Y D (by lia) R pm (by rw[it];exact X.1) (by rw[it];exact hn);have T:=P_ B pm pw K run;refine .inl ⟨_,T,(vQ.mp T).1,?_⟩;unfold lA;simp![P,L]
def lsW(gs:List Wi)(w:Nat):D:=if w=0 then .list []else lsD (zr w) gs
def LW(gs:List Wi)(d:D)(k:Nat):Prop:=
 (∃w ps,k=w+1/\w<6/\laB (zr (w+1)) gs ps=true/\ps.length=gs.length/\(∀v,1<=v->v<=w->¬Gu (zr v) gs)/\(1<=w->fW [.int (w:Int),.list (gs.map wiD),lsW gs w]=some (.bool true))/\d = .tuple [.str "wide", .int ((w+1:Nat):Int),.list (ps.map .int),lsW gs w]) \/
 (k=7/\(∀v,1<=v->v<=6->¬Gu (zr v) gs)/\fW [.int 6,.list (gs.map wiD),lsW gs 6]=some (.bool true)/\d = .tuple [.str "none", lsW gs 6])
def xM(gs:List Wi)(w:Nat):∃Rs:List (List (List Int)),lsW gs w = .list (Rs.map rlD)/\Rs.length<=gs.length/\Rs=if w=0 then []else(lv [zr w] (jL gs)).map λS=>XJ.dO (bK S):=by
 by_cases c:w=0
 .exact⟨[],by unfold lsW;rw[if_pos c];rfl,cg _,by rw[if_pos c]⟩
 .refine⟨(lv [zr w] (jL gs)).map λS=>XJ.dO (bK S),by unfold lsW;rw[if_neg c,cX];rfl,?_,by rw[if_neg c]⟩;rw[aq];have:=Nx (jL gs) [zr w];rwa[Cj]at this
section
variable{gs:List Wi}
def XM {W:Nat}{a:Option U}(B:W<=1000) (h1:lA [.list ((zr W).map .int),.list (gs.map wiD)]=some t) (h2:ndW t=true):dNw (dCall lA (ak (dOp oY (gO (ak (dC (.int 0)) (aM))) (aj 2)) (ak (aj 0) (aM)))) [some (.d (.list (gs.map wiD))),a,some (.d (.int (W:Int))),none]=some t:=by
 have Z:=rep0 (w:=W) B;unfold dNw;have:dCall lA (ak (dOp oY (gO (ak (dC (.int 0)) (aM))) (aj 2)) (ak (aj 0) (aM))) [some (.d (.list (gs.map wiD))),a,some (.d (.int (W:Int))),none]=some t:=by
  simp![Z,h1,Com.sz (show 1<=1000000 by decide)]
 rw[this,aF,if_pos h2]
theorem NT(B:∀g∈gs,grOk g/\gOk g)(J:ones gs<=4)(O:gs.length<64)(g0:gs≠[]):∀(n w:Nat)(u:Option U),w+n=6->(∀v,1<=v->v<=w->¬Gu (zr v) gs)->(1<=w->fW [.int (w:Int),.list (gs.map wiD),lsW gs w]=some (.bool true)) ->
 (∀Rs:List (List (List Int)),Rs=(if w=0 then []else(lv [zr w] (jL gs)).map λS=>XJ.dO (bK S))->Rs.Nodup) ->
 (∃d k,LW gs d k/\ndW d=true/\iH (gNl 2) (bM (bN 3 (dNw (dCall lA (ak (dOp oY (gO (ak (dC (.int 0)) (aM))) (aj 2)) (ak (aj 0) (aM)))))) (bM (sIf (bF (dOp gEq (dOp gIx (aj 3) (dC (.int 0))) (dC (.str "laid")))) (dj (dTup (ak (dC (.str "wide")) (ak (iZ (aj 2)) (ak (dOp gIx (aj 3) (dC (.int 1))) (ak (aj 1) (aM))))))) (cZ)) (xg 1 3 (dC (.int 1))))) ((aN n).map λi:Nat=>eP ((w+1+i:Nat):Int)) [some (.d (.list (gs.map wiD))),some (.d (lsW gs w)),u,none]=some (.rt d)) \/
 (LW gs (.tuple [.str "none", lsW gs 6]) 7/\ndW (.tuple [.str "none", lsW gs 6])=true/\∃u',iH (gNl 2) (bM (bN 3 (dNw (dCall lA (ak (dOp oY (gO (ak (dC (.int 0)) (aM))) (aj 2)) (ak (aj 0) (aM)))))) (bM (sIf (bF (dOp gEq (dOp gIx (aj 3) (dC (.int 0))) (dC (.str "laid")))) (dj (dTup (ak (dC (.str "wide")) (ak (iZ (aj 2)) (ak (dOp gIx (aj 3) (dC (.int 1))) (ak (aj 1) (aM))))))) (cZ)) (xg 1 3 (dC (.int 1))))) ((aN n).map λi:Nat=>eP ((w+1+i:Nat):Int)) [some (.d (.list (gs.map wiD))),some (.d (lsW gs w)),u,none]=some (.nx [some (.d (.list (gs.map wiD))),some (.d (lsW gs 6)),u',none]))
 |0,w,u,hw,Y,X,V=>by
  obtain rfl:w=6:=by lia
  obtain⟨Rs,e,_,Z⟩:=xM gs 6;refine .inr ⟨.inr ⟨rfl,Y,X (by decide),rfl⟩,?_,u,rfl⟩;rw[e];exact JM (V Rs Z)
 |n+1,w,u,hw,Y,X,V=>by
  have R:∀a b:D,gIx (.tuple [a,b]) (.int 0)=some a:=λ_ _=>rfl
  have i1:∀a b:D,gIx (.tuple [a,b]) (.int 1)=some b:=λ_ _=>rfl
  have q1:gEq (.str "laid") (.str "laid")=some (.bool true):=w_eq _ (by rw[eR];decide +kernel) _ (by rw[eR];decide +kernel);have q2:gEq (.str "none") (.str "laid")=some (.bool false):=w_eq _ (by rw[eR];decide +kernel) _ (by rw[eR];decide +kernel);have nd:=λ(t:D)(a:Option U)=>XM (gs:=gs) (W:=w+1) (t:=t) (a:=a) (by lia)
  have K:(aN (n+1)).map (λi:Nat=>eP ((w+1+i:Nat):Int)) = .int ((w+1:Nat):Int)::(aN n).map λi:Nat=>eP ((w+1+1+i:Nat):Int):=by
   rw[rR,aG,cX];congr 1;refine dX λi _=>?_
   show eP ((w+1+(i+1):Nat):Int)=_;rw[show w+1+(i+1)=w+1+1+i by lia]
  rw[K];have Q:(gNl 2) (.int ((w+1:Nat):Int)) [some (.d (.list (gs.map wiD))),some (.d (lsW gs w)),u,none]=some [some (.d (.list (gs.map wiD))),some (.d (lsW gs w)),some (.d (.int ((w+1:Nat):Int))),none]:=rfl;rcases Uw (w:=w+1) B J O (by lia) (by lia)with⟨ps,lp,pl,L⟩|⟨ns,L,n1,H,L2⟩
  .have N:=λa=>nd _ a L (Uv ps)
   obtain⟨Rs,e,_,Z⟩:=xM gs w;refine .inl ⟨_,w+1,.inl ⟨w,ps,rfl,by lia,lp,pl,Y,X,rfl⟩,?_,?_⟩
   .rw[e];exact Uu (V Rs Z) λz=>g0 (bJ.mp (by rw[<-pl,z];rfl))
   .have T:(bM (bN 3 (dNw (dCall lA (ak (dOp oY (gO (ak (dC (.int 0)) (aM))) (aj 2)) (ak (aj 0) (aM)))))) (bM (sIf (bF (dOp gEq (dOp gIx (aj 3) (dC (.int 0))) (dC (.str "laid")))) (dj (dTup (ak (dC (.str "wide")) (ak (iZ (aj 2)) (ak (dOp gIx (aj 3) (dC (.int 1))) (ak (aj 1) (aM))))))) (cZ)) (xg 1 3 (dC (.int 1))))) [some (.d (.list (gs.map wiD))),some (.d (lsW gs w)),some (.d (.int ((w+1:Nat):Int))),none]=some (.rt (.tuple [.str "wide", .int ((w+1:Nat):Int),.list (ps.map .int),lsW gs w])):=by
     simp![N,R,i1,q1,Com.sz (show 4<=1000000 by decide)]
    rw[iH,Q,aF,T];rfl
  .have N:=λa=>nd _ a L n1
   have I:∀(a b c:Option U)(x y:D),xg 1 3 (dC (.int 1)) [a,b,c,some (.d (.tuple [x,y]))]=some (.nx [a,some (.d y),c,none]):=λ_ _ _ _ _=>rfl
   have P:lsW gs (w+1)=lsD (zr (w+1)) gs:=by unfold lsW;rw[if_neg (by lia)]
   have T:(bM (bN 3 (dNw (dCall lA (ak (dOp oY (gO (ak (dC (.int 0)) (aM))) (aj 2)) (ak (aj 0) (aM)))))) (bM (sIf (bF (dOp gEq (dOp gIx (aj 3) (dC (.int 0))) (dC (.str "laid")))) (dj (dTup (ak (dC (.str "wide")) (ak (iZ (aj 2)) (ak (dOp gIx (aj 3) (dC (.int 1))) (ak (aj 1) (aM))))))) (cZ)) (xg 1 3 (dC (.int 1))))) [some (.d (.list (gs.map wiD))),some (.d (lsW gs w)),some (.d (.int ((w+1:Nat):Int))),none]=some (.nx [some (.d (.list (gs.map wiD))),some (.d (lsW gs (w+1))),some (.d (.int ((w+1:Nat):Int))),none]):=by
    rw[P];simp![N,R,q2,I]
   rw[mY Q T];refine NT B J O g0 n (w+1) _ (by lia) (λv M G=>?_) (λ_=>by rw[P];exact L2) λRs Z=>?_
   .by_cases c:v=w+1
    .rw[c];exact ns
    .exact Y v M (by lia)
   .rw[Z,if_neg (by lia)];exact H
def Em(J:∀g∈gs,grOk g/\gOk g)(O:ones gs<=4)(gl:gs.length<64)(B:gs≠[]):∃d k,LW gs d k/\gH [.list (gs.map wiD)]=some d:=by
 have lp:0<gs.length:=k_.mpr B;have X:decide ((gs.length:Int)=0)=false:=dFa (by lia);have Q:Yp (some [.int 1,.int 7])=some ((aN 6).map λi:Nat=>eP ((0+1+i:Nat):Int)):=rfl;have fi:∀a b c d:Option U,(Dr (ak (dC (.int 1)) (ak (dOp eV (dC (.int 6)) (dC (.int 1))) (aM)))) [a,b,c,d]=some ((aN 6).map λi:Nat=>eP ((0+1+i:Nat):Int)):=λ_ _ _ _=>rfl
 have W:lsW gs 0 = .list []:=rfl;rcases NT J O gl B 6 0 none rfl (λv R S=>by lia) (λz=>by lia) (λRs e=>by rw[e];exact .nil)with⟨d,k,h1,h2,Z⟩|⟨h1,h2,u,Z⟩
 .refine⟨d,k,h1,?_⟩;rw[W]at Z;have Y:sGd (mC (Dr (ak (dC (.int 1)) (ak (dOp eV (dC (.int 6)) (dC (.int 1))) (aM)))) (gNl 2) (bM (bN 3 (dNw (dCall lA (ak (dOp oY (gO (ak (dC (.int 0)) (aM))) (aj 2)) (ak (aj 0) (aM)))))) (bM (sIf (bF (dOp gEq (dOp gIx (aj 3) (dC (.int 0))) (dC (.str "laid")))) (dj (dTup (ak (dC (.str "wide")) (ak (iZ (aj 2)) (ak (dOp gIx (aj 3) (dC (.int 1))) (ak (aj 1) (aM))))))) (cZ)) (xg 1 3 (dC (.int 1)))))) [some (.d (.list (gs.map wiD))),some (.d (.list [])),none,none]=some (.ex "" "" d):=by
   unfold sGd mC;rw[fi,aF,Z,aF];dsimp only;rw[if_pos h2]
  have V:∀(d:D)(f:FS),qS (some (.ex "" "" d)) f=some (.ex "" "" d):=λ_ _=>rfl
  unfold gH;simp![X,Y,V,lMp,Ym,I_,Com.sz (show 0<=1000000 by decide)]
 .refine⟨_,7,h1,?_⟩;rw[W]at Z;have Y:sGd (mC (Dr (ak (dC (.int 1)) (ak (dOp eV (dC (.int 6)) (dC (.int 1))) (aM)))) (gNl 2) (bM (bN 3 (dNw (dCall lA (ak (dOp oY (gO (ak (dC (.int 0)) (aM))) (aj 2)) (ak (aj 0) (aM)))))) (bM (sIf (bF (dOp gEq (dOp gIx (aj 3) (dC (.int 0))) (dC (.str "laid")))) (dj (dTup (ak (dC (.str "wide")) (ak (iZ (aj 2)) (ak (dOp gIx (aj 3) (dC (.int 1))) (ak (aj 1) (aM))))))) (cZ)) (xg 1 3 (dC (.int 1)))))) [some (.d (.list (gs.map wiD))),some (.d (.list [])),none,none]=some (.nx [some (.d (.list (gs.map wiD))),some (.d (lsW gs 6)),u,none]):=by
   unfold sGd mC;rw[fi,aF,Z,aF]
  have T:∀a c e:Option U,sGd (dj (dTup (ak (dC (.str "none")) (ak (aj 1) (aM))))) [a,some (.d (lsW gs 6)),c,e]=some (.ex "" "" (.tuple [.str "none", lsW gs 6])):=λa c e=>by
   unfold sGd;rw[show dj (dTup (ak (dC (.str "none")) (ak (aj 1) (aM)))) [a,some (.d (lsW gs 6)),c,e]=some (.rt (.tuple [.str "none", lsW gs 6]))from rfl,aF];dsimp only;rw[if_pos h2]
  unfold gH;simp![X,Y,T,lMp,Ym,I_,Com.sz (show 0<=1000000 by decide)]
def En:gH [.list []]=some (.tuple [.str "wide", .int 0,.list [],.list []]):=by rfl
end
section
variable{gs:List Wi}
def Ux(s t:Str)(h:eR (.str s)=true)(h2:eR (.str t)=true):gEq (.str s) (.str t)=some (.bool (decide (s=t)))/\gNe (.str s) (.str s)=some (.bool false):=
 ⟨w_eq s h t h2,ne_self (qw ⟨h,by simp[gz]⟩ (show 1<=50 by decide))⟩
def ap3(B:gs≠[]):gEq (.list (gs.map wiD)) (.list [])=some (.bool false):=by
 have h:=ne_nil (qw (uN (sI (n:=3) wiD (λg=>qw (Bw (n:=1) (jZ sJ (jZ sJ (jZ sJ uM)))) (by decide)) gs)) (show 4<=60 by decide));have e:(gs.map wiD).isEmpty=false:=by
  cases gs with
  |nil=>exact absurd rfl B
  |cons _ _=>rfl
 rw[e]at h;unfold gNe at h;unfold gEq;split at h
 .next q=>
  rw[if_pos q];have h:(!PyData.eqv (.list (gs.map wiD)) (.list []))=true:=by simpa using h
  rw[f9]at h;rw[h]
 .cases h
def Eo(B:∀g∈gs,grOk g/\gOk g)(gl:gs.length<64)(g0:gs≠[]) (h:LW gs m k):fJ [.list (gs.map wiD),m]=some (.int (k:Int)):=by
 have O:eR (.str "none")=true:=by rw[eR];decide +kernel
 have P:eR (.str "wide")=true:=by rw[eR];decide +kernel
 have q1:=w_eq _ O _ O;have q2:gEq (.str "wide") (.str "none")=some (.bool false):=w_eq _ P _ O;have M:=(Ux _ _ P P).2;rcases h with⟨w,ps,rfl,H,lp,pl,_,Y,rfl⟩|⟨rfl,_,Y,rfl⟩
 .have ty:∀a b c e:D,D3.isT "tuple" (tyD (.tuple [a,b,c,e]))=true:=λ_ _ _ _=>isTup
  have V:∀a b c e:D,iQ [.tuple [a,b,c,e]]=some (.int 4):=λ_ _ _ _=>rfl
  have U:∀a b c e:D,gIx (.tuple [a,b,c,e]) (.int 0)=some a:=λ_ _ _ _=>rfl
  have i1:∀a b c e:D,gIx (.tuple [a,b,c,e]) (.int 1)=some b:=λ_ _ _ _=>rfl
  have i2:∀a b c e:D,gIx (.tuple [a,b,c,e]) (.int 2)=some c:=λ_ _ _ _=>rfl
  have L:∀a b c e:D,gIx (.tuple [a,b,c,e]) (.int 3)=some e:=λ_ _ _ _=>rfl
  have st:=T7 (hs:=zr (w+1)) (ps:=ps) (λg h=>(B g h).1) (by lia);rw[lp]at st;have N:=rep0 (w:=w+1) (by lia);have Z:gNe (.int 4) (.int 4)=some (.bool false):=rfl;have K:=ap3 g0;have nb:gNe (.bool false) (.bool false)=some (.bool false):=rfl;have hw:d7 [.int ((w+1:Nat):Int)]=some (.bool true):=lwh (.int _);have X:∀x:D,gIx (.list [.none,x]) (.int 1)=some x:=λ_=>rfl
  have T:uU [.bool true]=some (.int 1):=rfl;generalize F:((w+1:Nat):Int)=W at *;have I:decide ((0:Int)<=W)=true:=dTr (by lia);have S:decide (W<=6)=true:=dTr (by lia);have Q:decide (W=0)=false:=dFa (by lia);generalize G:(zr (w+1)).map eP=zs at *;by_cases c:w=0
  .subst c;obtain rfl:W=1:=by lia
   have e3:gEq (lsW gs 0) (.list [])=some (.bool true):=rfl;unfold fJ;simp![ty,V,U,i1,i2,L,q2,M,Z,hw,nb,K,N,st,e3,X,T,Com.sz (show 0<=1000000 by decide),Com.sz (show 1<=1000000 by decide),Com.sz (show 2<=1000000 by decide)]
  .have R:decide (W=1)=false:=dFa (by lia);have Y:=Y (by lia);have J:W-1=(w:Int):=by lia
   unfold fJ;simp![ty,V,U,i1,i2,L,q2,M,Z,hw,I,S,Q,R,nb,K,N,st,X,T,J,Y,Com.sz (show 0<=1000000 by decide),Com.sz (show 1<=1000000 by decide),Com.sz (show 2<=1000000 by decide)]
 .have ty:∀a b:D,D3.isT "tuple" (tyD (.tuple [a,b]))=true:=λ_ _=>isTup
  have V:∀a b:D,iQ [.tuple [a,b]]=some (.int 2):=λ_ _=>rfl
  have U:∀a b:D,gIx (.tuple [a,b]) (.int 0)=some a:=λ_ _=>rfl
  have i1:∀a b:D,gIx (.tuple [a,b]) (.int 1)=some b:=λ_ _=>rfl
  have X:∀x:D,gIx (.list [.none,x]) (.int 1)=some x:=λ_=>rfl
  have T:uU [.bool true]=some (.int 1):=rfl;unfold fJ;simp![ty,V,U,i1,q1,Y,X,T,Com.sz (show 2<=1000000 by decide)]
def Ep:fJ [.list [],.tuple [.str "wide", .int 0,.list [],.list []]]=some (.int 0):=by
 have S:eR (.str "none")=true:=by rw[eR];decide +kernel
 have Z:eR (.str "wide")=true:=by rw[eR];decide +kernel
 have q2:gEq (.str "wide") (.str "none")=some (.bool false):=w_eq _ Z _ S;have X:=(Ux _ _ Z Z).2;have hw:d7 [.int 0]=some (.bool true):=lwh (.int _);have e:gEq (.tuple [.str "wide", .int 0,.list [],.list []]) (.tuple [.str "wide", .int 0,.list [],.list []])=some (.bool true):=Com.eq_self (qw (Bw (jZ (show ly 5 (.str "wide")from⟨Z,by simp[gz]⟩) (jZ (sJ (n:=4)) (jZ (qw (uN (n:=4) uM) (by decide)) (jZ (qw (uN (n:=4) uM) (by decide)) uM))))) (by decide));have ty:∀a b c e:D,D3.isT "tuple" (tyD (.tuple [a,b,c,e]))=true:=λ_ _ _ _=>isTup
 have V:∀a b c e:D,iQ [.tuple [a,b,c,e]]=some (.int 4):=λ_ _ _ _=>rfl
 have U:∀a b c e:D,gIx (.tuple [a,b,c,e]) (.int 0)=some a:=λ_ _ _ _=>rfl
 have i1:∀a b c e:D,gIx (.tuple [a,b,c,e]) (.int 1)=some b:=λ_ _ _ _=>rfl
 have Y:gNe (.int 4) (.int 4)=some (.bool false):=rfl;have T:gEq (.list []) (.list [])=some (.bool true):=rfl;have nb:gNe (.bool true) (.bool true)=some (.bool false):=rfl;have W:∀x:D,gIx (.list [.none,x]) (.int 1)=some x:=λ_=>rfl
 have R:uU [.bool true]=some (.int 1):=rfl;unfold fJ;simp![ty,V,U,i1,q2,X,Y,hw,nb,T,e,W,R,Com.sz (show 0<=1000000 by decide),Com.sz (show 2<=1000000 by decide),Com.sz (show 4<=1000000 by decide)]
def ad9 (h:LW gs d k) (h':LW gs.dropLast d' B):B<=k:=by
 rcases h with⟨w,ps,rfl,W,lp,_⟩|⟨rfl,_⟩
 .have S:Gu (zr (w+1)) gs.dropLast:=Gu.init ⟨ps,lp⟩;rcases h' with⟨X,_,rfl,Z,_,_,Y,_⟩|⟨rfl,Y,_⟩
  .rcases dB w X with c|c
   .exact absurd S (Y (w+1) (by lia) (by lia))
   .lia
  .exact absurd S (Y (w+1) (by lia) (by lia))
 .rcases h' with⟨X,_,rfl,Z,_⟩|⟨rfl,_⟩<;>lia
end
def Uy(a b:List Wi):ones (a++b)=ones a+ones b:=jC
def Uz(g:Wi):ones [g]=if g.2.2=1 then 1 else 0:=by
 unfold ones;rw[nj];simp
def K_(ns:List Int) (m0:0<=m) (m1:m<=9):∃gs:List Wi,(gs.length:Int)=m/\(∀g∈gs,grOk g/\gOk g)/\ones gs<=4/\lF [.list (ns.map .int),.int m]=some (.list (gs.map wiD)):=by
 have H:yR (some [.int m])=some (iu 0 m):=KQ (by lia) (by lia);have J:Com.cC [.list (ns.map .int),.int 1,.int 0,.int 380]=some (.int (lE ns 1 0 380)):=uL (by decide) (by decide) (by decide) (by decide);have B:=jx ns 1 0 (m:=380) (by decide);generalize lE ns 1 0 380=b at J B;obtain⟨δ',e,gs,o,p,q,u,S,r,rfl⟩:=xr (g:=(gNl 4)) (b:=(bM (bN 5 (dOp eV (aj 2) (dCall cC (ak (aj 0) (ak (dOp eV (dC (.int 3)) (aj 4)) (ak (dC (.int 0)) (ak (dC (.int 7)) (aM)))))))) (bM (bN 6 (dOp eV (dC (.int 1)) (dCall cC (ak (aj 0) (ak (dOp eV (dC (.int 3)) (aj 4)) (ak (dC (.int 2)) (ak (dC (.int 3)) (aM)))))))) (bM (sIf (bF (dOp gGt (aj 4) (dC (.int 3)))) (bN 6 (dOp eV (dC (.int 2)) (dCall cC (ak (aj 0) (ak (dOp eV (dC (.int 3)) (aj 4)) (ak (dC (.int 2)) (ak (dC (.int 2)) (aM)))))))) (cZ)) (bM (sIf (D3.G3 (bF (dOp gGt (aj 4) (dC (.int 3)))) (bF (dOp gEq (dCall cC (ak (aj 0) (ak (dOp eV (dC (.int 3)) (aj 4)) (ak (dC (.int 3)) (ak (dC (.int 12)) (aM)))))) (dC (.int 0))))) (bN 6 (dOp eV (dC (.int 2)) (dCall cC (ak (aj 0) (ak (dOp eV (dC (.int 3)) (aj 4)) (ak (dC (.int 4)) (ak (dC (.int 5)) (aM)))))))) (cZ)) (zc 3 (dTup (ak (aj 5) (ak (dOp eV (dOp eV (aj 5) (dC (.int 1))) (dCall cC (ak (aj 0) (ak (dOp eV (dC (.int 3)) (aj 4)) (ak (dC (.int 1)) (ak (dC (.int 6)) (aM))))))) (ak (aj 6) (aM))))))))))) (λi δ=>∃(gs:List Wi)(M N O:Option U),gs.length=i/\(∀g∈gs,grOk g/\gOk g)/\ones gs<=min i 4/\δ=[some (.d (.list (ns.map .int))),some (.d (.int m)),some (.d (.int b)),some (.d (.list (gs.map wiD))),M,N,O,none]) (iu 0 m) [some (.d (.list (ns.map .int))),some (.d (.int m)),some (.d (.int b)),some (.d (.list [])),none,none,none,none] ⟨[],none,none,none,rfl,by simp,cg _,rfl⟩
  (by
   rintro i d δ hd ⟨gs,M,N,O,w,S,r,rfl⟩;obtain⟨j,rfl⟩:=nO hd;have P:∀k m:Int,0<=k->k<=1000->0<m->Com.cC [.list (ns.map .int),.int (3+(i:Int)),.int k,.int m]=some (.int (lE ns (3+(i:Int)) k m)):=λk m a b c=>uL (by lia) a b c
   have X:=P 0 7 (by decide) (by decide) (by decide);have C:=jx ns (3+(i:Int)) 0 (m:=7) (by decide);generalize lE ns (3+(i:Int)) 0 7=x at X C;have Z:=P 2 3 (by decide) (by decide) (by decide);have E:=jx ns (3+(i:Int)) 2 (m:=3) (by decide);generalize lE ns (3+(i:Int)) 2 3=s at Z E;have Q:=P 2 2 (by decide) (by decide) (by decide);have F:=jx ns (3+(i:Int)) 2 (m:=2) (by decide);generalize lE ns (3+(i:Int)) 2 2=s2 at Q F;have R:=P 3 12 (by decide) (by decide) (by decide);generalize lE ns (3+(i:Int)) 3 12=t at R;have I:=P 4 5 (by decide) (by decide) (by decide);have G:=jx ns (3+(i:Int)) 4 (m:=5) (by decide);generalize lE ns (3+(i:Int)) 4 5=L at I G;have Y:=P 1 6 (by decide) (by decide) (by decide);have D:=jx ns (3+(i:Int)) 1 (m:=6) (by decide);generalize lE ns (3+(i:Int)) 1 6=y at Y D;have ok:∀z:Int,1<=z->z<=6->∀g∈gs++[(b+x,b+x+1+y,z)],grOk g/\gOk g:=λz z1 z2 g hm=>by
    rcases bW.mp hm with hm|hm
    .exact S g hm
    .rw[aL.mp hm];exact⟨⟨by show 0<=b+x;lia,by show b+x<b+x+1+y;lia,by show b+x+1+y<=400;lia,z1,z2⟩,z1,z2⟩
   have on:∀z:Int,(3<i->2<=z)->ones (gs++[(b+x,b+x+1+y,z)])<=min (i+1) 4:=λz n=>by
    rw[Uy,Uz];dsimp only;split<;>lia
   have W:∀z:Int,(gs++[(b+x,b+x+1+y,z)]).map wiD=gs.map wiD++[.tuple [.int (b+x),.int (b+x+1+y),.int z]]:=λv=>by rw[dJ];rfl
   have V:∀z:Int,(gs++[(b+x,b+x+1+y,z)]).length=i+1:=λz=>by rw[bL,w];rfl
   by_cases c:(i:Int)>3
   .by_cases K:t=0
    .refine⟨_,_,rfl,.inl ?_,gs++[(b+x,b+x+1+y,2+L)],some (.d (.int (i:Int))),some (.d (.int (b+x))),some (.d (.int (2+L))),V _,ok _ (by lia) (by lia),on _ (λ_=>by lia),rfl⟩;rw[W];simp![X,Y,Z,Q,R,I,dTr c,dTr K,Com.sz (show 3<=1000000 by decide),lMp,show gs.length<1000000 by lia]
    .refine⟨_,_,rfl,.inl ?_,gs++[(b+x,b+x+1+y,2+s2)],some (.d (.int (i:Int))),some (.d (.int (b+x))),some (.d (.int (2+s2))),V _,ok _ (by lia) (by lia),on _ (λ_=>by lia),rfl⟩;rw[W];simp![X,Y,Z,Q,R,dTr c,dFa K,Com.sz (show 3<=1000000 by decide),lMp,show gs.length<1000000 by lia]
   .refine⟨_,_,rfl,.inl ?_,gs++[(b+x,b+x+1+y,1+s)],some (.d (.int (i:Int))),some (.d (.int (b+x))),some (.d (.int (1+s))),V _,ok _ (by lia) (by lia),on _ (λ_=>by lia),rfl⟩;rw[W];simp![X,Y,Z,dFa c,Com.sz (show 3<=1000000 by decide),lMp,show gs.length<1000000 by lia])
 have A:(gs.length:Int)=m:=by rw[u,Xj];lia
 have T:Com.cC [.list (ns.map .int),.int 2,.int 6,.int (m+1)]=some (.int (lE ns 2 6 (m+1))):=uL (by decide) (by decide) (by decide) (by lia);have rt:=jx ns 2 6 (m:=m+1) (by lia);generalize lE ns 2 6 (m+1)=t at T rt;have pt:gs.Perm (gs.drop t.toNat++gs.take t.toNat):=by
  have:=fB (l₁:=gs.drop t.toNat) (l₂:=gs.take t.toNat);rw[fu]at this;exact this.symm
 have k1:cuD (gs.map wiD) none (some t)=(gs.take t.toNat).map wiD:=by rw[Ys (by lia),qz]
 have k2:cuD (gs.map wiD) (some t) none=(gs.drop t.toNat).map wiD:=by rw[Yr (by lia),qH]
 have x1:=ad5 wiD (l:=gs.drop t.toNat) (m:=gs.take t.toNat) (by rw[cO,fO];lia);have fl:fl1 (.list ((gs.drop t.toNat++gs.take t.toNat).map wiD))=true:=yD wiD (λ_=>rfl) _;refine⟨gs.drop t.toNat++gs.take t.toNat,by rw[<-pt.length_eq];exact A,λg h=>S g (pt.mem_iff.mpr h),?_,?_⟩
 .have:ones (gs.drop t.toNat++gs.take t.toNat)=ones gs:=pt.symm.countP_eq _;lia
 .unfold lF;simp![J,H,e,T,k1,k2,x1,fl,Com.sz (show 0<=1000000 by decide)]
def UG:cuD l none (some (-1))=l.dropLast:=by
 unfold cuD pSx;rw[List.dropLast_eq_take];simp only[dM,mH];congr 1;simp;lia
def UJ (hm:m.length<1000000) (s:D) (a b c e f:Option U) :
 uo 3 (dUn Al (dC (.int 1))) (gO (aM)) [a,b,c,some (.d (.tuple [s,.list m])),e,f]=some (.nx [a,b,c,some (.d (.tuple [s,.list (m++[.list []])])),e,f]):=by
 refine(show _=(if m.length<1000000 then _ else none)from rfl).trans ?_;rw[if_pos hm];rfl
def Er (hm:m.length<1000000) (s t r:D) (a b c e f:Option U) :
 uo 3 (dUn Al (dC (.int 1))) (gO (aM)) [a,b,c,some (.d (.tuple [s,t,r,.list m])),e,f]=some (.nx [a,b,c,some (.d (.tuple [s,t,r,.list (m++[.list []])])),e,f]):=by
 refine(show _=(if m.length<1000000 then _ else none)from rfl).trans ?_;rw[if_pos hm];rfl
def JN (hm:m.length<1000000) (s t r:D) (a b c e f:Option U) :
 uo 3 (dC (.int 2)) (dN1 (dC (.int 9))) [a,b,c,some (.d (.tuple [s,t,.list m,r])),e,f]=some (.nx [a,b,c,some (.d (.tuple [s,t,.list (m++[.int 9]),r])),e,f]):=by
 refine(show _=(if m.length<1000000 then _ else none)from rfl).trans ?_;rw[if_pos hm];rfl
def UL(ns:List Int)(hn:ns.length<=63):Jg [.list (ns.map .int)]=some (.bool true):=by
 have N:Com.cC [.list (ns.map .int),.int 0,.int 1,.int 10]=some (.int (lE ns 0 1 10)):=uL (by decide) (by decide) (by decide) (by decide);have B:=jx ns 0 1 (m:=10) (by decide);generalize lE ns 0 1 10=m at N B;obtain⟨gs,z,M,G,H⟩:=K_ ns (m:=m) (by lia) (by lia);have A:eR (.str "none")=true:=by rw[eR];decide +kernel
 have I:eR (.str "wide")=true:=by rw[eR];decide +kernel
 have q1:gEq (.str "none") (.str "wide")=some (.bool false):=w_eq _ A _ I;have q2:gEq (.str "wide") (.str "wide")=some (.bool true):=w_eq _ I _ I;have O:yK (.list (gs.map wiD))=some (.list (gs.map wiD)):=rfl;have P:gNe (.list (gs.map wiD)) (.list (gs.map wiD))=some (.bool false):=ne_self (qw (uN (sI (n:=3) wiD (λg=>qw (Bw (n:=1) (jZ sJ (jZ sJ (jZ sJ uM)))) (by decide)) gs)) (by decide));have cl:cuD (gs.map wiD) none (some (-1))=gs.dropLast.map wiD:=by rw[UG,List.map_dropLast]
 have sub:gs.dropLast.Sublist gs:=List.dropLast_sublist gs;have Z:∀i:Int,isNone (.int i)=false:=λ_=>rfl
 have ne:∀i:Int,gNe (.int i) (.int i)=some (.bool false):=λi=>by
  show some (fI (!decide (i=i)))=_;rw[dTr rfl];rfl
 have few:∀{d:D}{k:Nat},LW gs d k->∃(S:D)(Y:Nat),gH [.list (gs.dropLast.map wiD)]=some S/\fJ [.list (gs.dropLast.map wiD),S]=some (.int (Y:Int))/\Y<=k:=λ{d k} h=>by
  by_cases c:gs.dropLast=[]
  .rw[c];exact⟨_,0,En,Ep,cg _⟩
  .have V:∀g∈gs.dropLast,grOk g/\gOk g:=λg h=>M g (sub.subset h)
   have T:gs.dropLast.length<64:=by rw[nZ];lia
   obtain⟨S,Y,h1,h2⟩:=Em V (aV sub.countP_le G) T c;exact⟨S,Y,h2,Eo V T c h1,ad9 h h1⟩
 by_cases K:gs=[]
 .subst K;have L:=En;have R:=Ep;have Q:∀a b c e f:Option U,uo 3 (dUn Al (dC (.int 1))) (gO (aM)) [a,b,c,some (.d (.tuple [.str "wide", .int 0,.list [],.list []])),e,f]=some (.nx [a,b,c,some (.d (.tuple [.str "wide", .int 0,.list [],.list [.list []]])),e,f]):=Er (m:=[]) (by decide) (.str "wide") (.int 0) (.list []);have an:∀a b c e f:Option U,uo 3 (dC (.int 2)) (dN1 (dC (.int 9))) [a,b,c,some (.d (.tuple [.str "wide", .int 0,.list [],.list [.list []]])),e,f]=some (.nx [a,b,c,some (.d (.tuple [.str "wide", .int 0,.list [.int 9],.list [.list []]])),e,f]):=JN (m:=[]) (by decide) (.str "wide") (.int 0) (.list [.list []]);have X:∀a b c e:D,gIx (.tuple [a,b,c,e]) (.int 0)=some a:=λ_ _ _ _=>rfl
  have cl:cuD [] none (some (-1))=[]:=rfl;have O:yK (.list [])=some (.list []):=rfl;have P:gNe (.list []) (.list [])=some (.bool false):=rfl;unfold Jg;simp![N,H,eO,O,L,R,Z,P,Q,X,q2,an,ne,cl,h_,pH,show(0:Nat)<1000000 by decide,Com.sz (show 3<=1000000 by decide)]
 .obtain⟨d,k,h1,L⟩:=Em M G (by lia) K;have R:=Eo M (by lia) K h1;obtain⟨S,Y,E,R',y⟩:=few h1;have F:decide ((Y:Int)<=(k:Int))=true:=dTr (by lia);rcases h1 with⟨w,ps,_,_,_,pl,_,_,rfl⟩|⟨_,_,_,rfl⟩
  .obtain⟨Rs,J,C,_⟩:=xM gs w;rw[J]at L R;have Q:=Er (m:=Rs.map rlD) (by rw[aq];lia) (.str "wide") (.int ((w+1:Nat):Int)) (.list (ps.map .int));have an:=JN (m:=ps.map .int) (by rw[aq];lia) (.str "wide") (.int ((w+1:Nat):Int)) (.list (Rs.map rlD++[.list []]));have X:∀a b c e:D,gIx (.tuple [a,b,c,e]) (.int 0)=some a:=λ_ _ _ _=>rfl
   generalize ((w+1:Nat):Int)=W at *;unfold Jg;simp![N,H,O,L,R,Z,P,Q,X,q2,an,ne,cl,E,R',F,pH,lMp,show gs.length<1000000 by lia,Com.sz (show 3<=1000000 by decide)]
  .obtain⟨Rs,J,C,_⟩:=xM gs 6;rw[J]at L R;have Q:=UJ (m:=Rs.map rlD) (by rw[aq];lia) (.str "none");have X:∀a b:D,gIx (.tuple [a,b]) (.int 0)=some a:=λ_ _=>rfl
   unfold Jg;simp![N,H,O,L,R,Z,P,Q,X,q1,ne,cl,E,R',F,pH,lMp,show gs.length<1000000 by lia,Com.sz (show 3<=1000000 by decide)]
end K76
namespace K76
open L2 My D3 XS XK
def top(i:Nat):gv:=PySem.Challenge.pw_nightbook_k76_least_wide.main.body.getD i (.Pass ⟨0,0,0,0⟩)
section
seal PE PT PW PA PS PSs PG PGs PI PO PTs
def JQ(D:Dg K mg "is_whole" (top 5) ["thing"])(B:Bl mg):Has P w K mg base (n+1) "is_whole" ["thing"] (spD K ig):=by
 have sc:FnScope ["thing"] ["thing"] (bH (top 5)):=fsc;exact jc (fl:=[.A]) D sc (by decide) (by decide) λf cdv A outer s H E Z=>bC (cF (cN (pO (aU (oH (T := "int") (by decide) (vP 0) (by rfl) B.isinstance_ (by rfl) B.int_ PyProof.Rows.boot_int)) (pN (QS (aU (oH (T := "bool") (by decide) (vP 0) (by rfl) B.isinstance_ (by rfl) B.bool_ io)))))))
def vU(D:Dg K mg "is_whole_within" (top 6) ["thing", "least", "most"])(B:Bl mg)(J:Has P w K mg base n "is_whole" ["thing"] (spD K ig)):Has P w K mg base (n+1) "is_whole_within" ["thing", "least", "most"] (spD K gh):=by
 have sc:FnScope ["thing", "least", "most"] ["thing", "least", "most"] (bH (top 6)):=fsc;exact jc (fl:=[.A,.A,.A]) D sc (by decide) (by decide) λf cdv A outer s H E Z=>bC (cF (cN (pO (iR (cB J Z (dq (vP 0) dz))) (pN (Hu kZ kZ pY pY (vP 1) (vP 0) (vP 2))))))
def Gv(D:Dg K mg "all_whole" (top 7) ["things"])(B:Bl mg)(J:Has P w K mg base n "is_whole" ["thing"] (spD K ig)):Has P w K mg base (n+1) "all_whole" ["things"] (spD K j8):=by
 have sc:FnScope ["things"] ["things"] (bH (top 7)):=fsc;exact jc (fl:=[.A]) D sc (by decide) (by decide) λf cdv A outer s H E Z=>bC (cF (cN (eX (uz rfl) L_ (by rfl) B.all_ (show bootBuiltins "all"=some (.builtin "all")by decide +kernel) (dq (aU (o7 (L:=[]) (fl':=[.A]) rfl ["thing"] [] [] (Kl (vB 0)) (λ_ _ _ _ _=>gN' (i:=0) (show(["thing"]:List Str).Nodup by decide +kernel)) (λ_ _ _ _ _=>nJ) (λ_ _ _ _ _=>cB J Z (dq (vP 0) dz)))) dz))))
def Cp(D:Dg K mg "is_tuple_of" (top 8) ["thing", "many"])(B:Bl mg)(J:Has P w K mg base n "all_whole" ["things"] (spD K j8)):Has P w K mg base (n+1) "is_tuple_of" ["thing", "many"] (spD K fV):=by
 have sc:FnScope ["thing", "many"] ["thing", "many"] (bH (top 8)):=fsc;exact jc (fl:=[.A,.A]) D sc (by decide) (by decide) λf cdv A outer s H E Z=>bC (cF (Ao (pO (aU (oH (T := "tuple") (by decide) (vP 0) (by rfl) B.isinstance_ (by rfl) B.tuple_ hI)) (pO (aU (oF (jN Z.units) tM (aU (eX bZ jw (by rfl) B.len_ PySem.boot_len (dq (vP 0) dz))) (vP 1) (cY _))) (pN (cB J Z (dq (vP 0) dz)))))))
def La(D:Dg K mg "is_pair" (top 9) ["thing"])(B:Bl mg)(J:Has P w K mg base n "is_tuple_of" ["thing", "many"] (spD K fV)):Has P w K mg base (n+1) "is_pair" ["thing"] (spD K rM):=by
 have sc:FnScope ["thing"] ["thing"] (bH (top 9)):=fsc;exact jc (fl:=[.A]) D sc (by decide) (by decide) λf cdv A outer s H E Z=>bC (cF (Ao (cB J Z (dq (vP 0) (dq iP dz)))))
def CP(D:Dg K mg "is_stretch" (top 12) ["thing"])(B:Bl mg)(J:Has P w K mg base n "is_pair" ["thing"] (spD K rM))(O:∃t,mg "NIGHTS"=some (.int 400 t)):Has P w K mg base (n+1) "is_stretch" ["thing"] (spD K mV):=by
 have sc:FnScope ["thing"] ["thing"] (bH (top 12)):=fsc;exact jc (fl:=[.A]) D sc (by decide) (by decide) λf cdv A outer s H E Z=>bC (cF (cN (pO (iR (cB J Z (dq (vP 0) dz))) (pN (Oq kZ G7 kZ pY b_lt pY iP (dN (dx (vB 0) iP)) (dN (dx (vB 0) iP)) (aU (zG O)))))))
def Gw(D:Dg K mg "nights_of" (top 13) ["stay"])(B:Bl mg):Has P w K mg base (n+1) "nights_of" ["stay"] (spD K jX):=by
 have sc:FnScope ["stay"] ["stay"] (bH (top 13)):=fsc;exact jc (fl:=[.A]) D sc (by decide) (by decide) λf cdv A outer s H E Z=>bC (cF (pL rfl (dq (cN (mQ (dN (dx (vB 0) iP)))) (dq (cN (mQ (dN (dx (vB 0) iP)))) dz))))
def JR(D:Dg K mg "is_group" (top 17) ["thing"])(B:Bl mg)(J:Has P w K mg base n "is_whole_within" ["thing", "least", "most"] (spD K gh))(Y:Has P w K mg base n "is_stretch" ["thing"] (spD K mV))(Z:Has P w K mg base n "nights_of" ["stay"] (spD K jX))(O:∃t,mg "MOST_OF_A_GROUP"=some (.int 6 t)):Has P w K mg base (n+1) "is_group" ["thing"] (spD K nF):=by
 have sc:FnScope ["thing"] ["thing"] (bH (top 17)):=fsc;exact jc (fl:=[.A]) D sc (by decide) (by decide) λf cdv A outer s H E X=>bf (gP (vJ (qm (jW (mR (aU (oH (T := "tuple") (by decide) (vP 0) (by rfl) B.isinstance_ (by rfl) B.tuple_ hI)))) (oG (d_ (tV X.units) Hs (aU (eX bZ jw (by rfl) B.len_ PySem.boot_len (dq (vP 0) dz))) iP (cY _))))) (bC (cF (cN (oO)))) (dw))
  (bC (cF (Ao (pO (iR (cB Y X (dq (iR (cB Z X (dq (vP 0) dz))) dz))) (pN (cB J X (dq (dN (dx (vB 0) iP)) (dq iP (dq (aU (zG O)) dz)))))))))
def zu(D:Dg K mg "check_groups" (top 18) ["groups"])(B:Bl mg)(J:Has P w K mg base n "is_group" ["thing"] (spD K nF)):Has P w K mg base (n+1) "check_groups" ["groups"] (spD K iJ):=by
 have sc:FnScope ["groups", "at", "group"] ["groups"] (bH (top 18)):=fsc;exact jc (fl:=[.A,.A,.A]) D sc (by decide) (by decide) λf cdv A outer s H E Z=>bC (lQ (L:=[]) fm rfl (VJ (vB 0) (by rfl) B.enumerate_) (vH rfl (iw (gN' (i:=1) sc.nd) (iw (gN' (i:=2) sc.nd) (su)))) (bC (gP (jW (mR (iR (cB J Z (dq (vP 2) dz))))) (bC (Hw)) (dw))))
def UW{Pt:Addr}(D:XL.DgT K mg "turns" (top 19) ["groups"] Pt "turns.<locals>.<lambda>" ⟨41,42,41,72⟩)(B:Bl mg):Has P w K mg base (n+1) "turns" ["groups"] (spD K jq):=by
 have sc:FnScope ["groups"] ["groups"] (bH (top 19)):=fsc;exact XL.Z7 (fl:=[.A]) D sc (by decide) (by decide) λf c A outer s H E Z Y=>bC (cF (cN (XL.KN (i:=0) ⟨⟨_,rfl,Z⟩,rfl,D.tb⟩ Y rfl (dq (aU (eX bZ jw (by rfl) B.len_ PySem.boot_len (dq (vP 0) dz))) dz) (by rfl) B.sorted_ (by rfl) B.range_ rfl rfl rfl rfl (λ_ h=>XL.Tc rfl h) (λ_ _ _ _ _=>rfl) rfl rfl rfl (by decide +kernel) rfl rfl (by decide) (by decide) (by decide) rfl rfl)))
def Gx(D:Dg K mg "starts_in" (top 20) ["row", "group"])(B:Bl mg):Has P w K mg base (n+1) "starts_in" ["row", "group"] (spD K jz):=by
 have sc:FnScope ["row", "group", "last"] ["row", "group"] (bH (top 20)):=fsc;exact jc (fl:=[.A,.A,.A]) D sc (by decide) (by decide) λf cdv A outer s H E Z=>bf (sA (i:=2) sc.nd (iB (dD Et Ls (aU (eX bZ jw (by rfl) B.len_ PySem.boot_len (dq (vP 0) dz))) (dN (dx (vB 1) iP)))))
  (bC (cF (cN (o7 (L:=[]) (fl':=[.A,.A,.A]) rfl ["start"] ["group", "row"] [1,0] (lZ (by rfl) B.range_ (wA (dq (aU (dD gb i_ (vP 2) iP)) dz))) (λ_ _ _ _ _=>gN' (i:=0) (show(["start", "group", "row"]:List Str).Nodup by decide +kernel)) (λ_ _ _ _ _=>Vp (d_ kZ pY (aU (eX (DX rfl) Sh (by rfl) B.max_ hK (dq (aU (Sg (vP 2) (lG (vP 0)) (lG (aU (dD gb i_ (vP 0) (dN (dx (vB 1) iP))))))) dz))) (dN (dx (vB 1) iP)) (cY _))) (λ_ _ _ _ _=>jO (mQ (vP 0)))))))
def zA(D:Dg K mg "night_behind" (top 21) ["since", "group", "is_own"])(B:Bl mg):Has P w K mg base (n+1) "night_behind" ["since", "group", "is_own"] (spD K gj):=by
 have sc:FnScope ["since", "group", "is_own"] ["since", "group", "is_own"] (bH (top 21)):=fsc;exact jc (fl:=[.A,.A,.A]) D sc (by decide) (by decide) λf cdv A outer s H E Z=>bf (gP (mR (vP 2)) (bC (cF (cN (mQ (dN (dx (vB 1) iP)))))) (dw))
  (bC (cF (cN (mQ (dN (ah4 (d_ kZ pY (vP 0) (dN (dx (vB 1) iP)) (cY _)) (iB (Fe)) (vA 0)))))))
def CQ(D:Dg K mg "row_behind" (top 22) ["row", "group", "start"])(B:Bl mg)(J:Has P w K mg base n "night_behind" ["since", "group", "is_own"] (spD K gj)):Has P w K mg base (n+1) "row_behind" ["row", "group", "start"] (spD K gG):=by
 have sc:FnScope ["row", "group", "start", "behind"] ["row", "group", "start"] (bH (top 22)):=fsc;exact jc (fl:=[.A,.A,.A,.A]) D sc (by decide) (by decide) λf cdv A outer s H E Z=>bf (sA (i:=3) sc.nd (iB (dD gb i_ (vP 2) (dN (dx (vB 1) iP)))))
  (bC (cF (Ao (V0 (jO (o7 (L:=[]) (fl':=[.A,.A,.A,.A,.A]) rfl ["room", "since"] ["group", "start", "behind"] [1,2,3] (Sx (vB 0) (by rfl) B.enumerate_) (λ_ _ _ _ _=>vH rfl (iw (gN' (i:=0) (show(["room", "since", "group", "start", "behind"]:List Str).Nodup by decide +kernel)) (iw (gN' (i:=1) (show(["room", "since", "group", "start", "behind"]:List Str).Nodup by decide +kernel)) (su)))) (λ_ _ _ _ _=>nJ) (λ_ _ _ _ _=>cB J Z (dq (vP 1) (dq (vP 2) (dq (aU (Hu kZ G7 pY b_lt (vP 3) (vP 0) (vP 4))) dz)))))) (by rfl) B.tuple_))))
def Cr(D:Dg K mg "rows_behind" (top 23) ["rows", "group"])(B:Bl mg)(O:Has P w K mg base n "starts_in" ["row", "group"] (spD K jz))(J:Has P w K mg base n "row_behind" ["row", "group", "start"] (spD K gG)):Has P w K mg base (n+1) "rows_behind" ["rows", "group"] (spD K cQ):=by
 have sc:FnScope ["rows", "group", "found", "row", "start"] ["rows", "group"] (bH (top 23)):=fsc;exact jc (fl:=[.A,.A,.N,.A,.A]) D sc (by decide) (by decide) λf cdv A outer s H E Z=>bf (wJ (i:=2) rfl sc.nd rfl (by first|exact fE rfl|exact fg rfl) (Mf))
  (bf (lQ (L:=[]) fm rfl (qj (vB 0)) (gN' (i:=3) sc.nd) (bC (lQ (L:=[]) fm rfl (qj (jJ (qe (cB O Z (dq (vP 3) (dq (vP 1) dz)))))) (gN' (i:=4) sc.nd) (bC (XJ.RK (i:=2) (XK.hu1 Z.units) rfl (iR (cB J Z (dq (vP 3) (dq (vP 1) (dq (vP 4) dz))))) (dN (pL rfl (dq (vA 3) (dq (vA 4) dz)))) rfl ⟨rfl,rfl,rfl,rfl⟩)))))
  (bC (cF (wI 2 rfl))))
def CT(D:Dg K mg "all_behind" (top 24) ["held", "groups"])(B:Bl mg)(Z:Has P w K mg base n "turns" ["groups"] (spD K jq))(J:Has P w K mg base n "rows_behind" ["rows", "group"] (spD K cQ))(Y:∃t,mg "MOST_ROWS"=some (.int 400 t)):Has P w K mg base (n+1) "all_behind" ["held", "groups"] (spL K mW):=by
 have sc:FnScope ["held", "groups", "found", "rows", "place", "behind"] ["held", "groups"] (bH (top 24)):=fsc;exact Zz (fl:=[.A,.A,.O,.A,.A,.A]) D sc (by decide) (by decide) λf cdv A outer s H E X=>bf (zH (i:=2) rfl sc.nd rfl (by first|exact fE rfl|exact fg rfl) (tY (iM dz)))
  (bf (sA (i:=3) sc.nd (oN (ux (dq (zL (vB 0) (by rfl) B.tuple_) dz))))
  (bf (lQ (L:=[]) fm rfl (qj (jJ (qe (cB Z X (dq (vP 1) dz))))) (gN' (i:=4) sc.nd) (bf (sA (i:=5) sc.nd (qe (cB J X (dq (vP 3) (dq (dN (dx (vB 1) (vP 4))) dz)))))
  (bf (xZ (i:=2) rfl (vA 5) rfl)
  (bf (gP (d_ Ac J8 (aU (XJ.Gb (dq (vP 5) dz) (by rfl) B.len_)) (aU (zG Y)) (cY _)) (bC (Hw)) (dw))
  (bf (gP (d_ (jN X.units) tM (aU (XJ.Gb (dq (vP 5) dz) (by rfl) B.len_)) iP (cY _)) (bC (Mg (Hr (xX 2)))) (dw))
  (bC (sA (i:=3) sc.nd (iB (XJ.wY rfl (dq (vP 5) dz) (by rfl) B.sorted_)))))))))
  (bC (Mg (Hr (xX 2))))))
def Gy(D:Dg K mg "places_by" (top 25) ["found", "groups"])(B:Bl mg)(J:Has P w K mg base n "turns" ["groups"] (spD K jq)):Has P w K mg base (n+1) "places_by" ["found", "groups"] (spD K mz):=by
 have sc:FnScope ["found", "groups", "places", "row", "place", "behind"] ["found", "groups"] (bH (top 25)):=fsc;exact jc (fl:=[.A,.A,.O,.A,.A,.A]) D sc (by decide) (by decide) λf cdv A outer s H E Z=>bf (zH (i:=2) rfl sc.nd rfl (by first|exact fE rfl|exact fg rfl) (yd (tY (iM (dq (jO (qM)) dz))) (aU (eX bZ jw (by rfl) B.len_ PySem.boot_len (dq (vP 1) dz)))))
  (bf (sA (i:=3) sc.nd (iB (qM)))
  (bf (lQ (L:=[]) fm rfl (Zy (jJ (oN (XK.SQ (jJ (qe (cB J Z (dq (vP 1) dz)))) (vB 0) rfl (by rfl) B.list_ (by rfl) B.zip_))) (by rfl) B.reversed_) (vH rfl (iw (gN' (i:=4) sc.nd) (iw (gN' (i:=5) sc.nd) (su)))) (bf (gP (Q5 (vP 3)) (bC (sA (i:=3) sc.nd (dx (jJ (iB (XJ.wY rfl (dq (vP 5) dz) (by rfl) B.sorted_))) iP))) (dw))
  (bf (Zj (i:=2) rfl (dx (jJ (iB (XJ.Ij (XK.hu1 Z.units) (vP 5) (vP 3) (λ_ _=>rfl)))) iP) (vP 4) rfl)
  (bC (sA (i:=3) sc.nd (dx (jJ (iB (XJ.Ij (XK.hu1 Z.units) (vP 5) (vP 3) (λ_ _=>rfl)))) iP))))))
  (bC (cF (Vu 2 (by decide))))))
def uV(D:Dg K mg "laid_as_they_are" (top 26) ["held", "groups"])(B:Bl mg)(J:Has P w K mg base n "all_behind" ["held", "groups"] (spL K mW))(O:Has P w K mg base n "places_by" ["found", "groups"] (spD K mz)):Has P w K mg base (n+1) "laid_as_they_are" ["held", "groups"] (spD K eF):=by
 have sc:FnScope ["held", "groups", "found"] ["held", "groups"] (bH (top 26)):=fsc;exact jc (fl:=[.A,.A,.A]) D sc (by decide) (by decide) λf cdv A outer s H E Z=>bf (sA (i:=2) sc.nd (as6 rfl (Rg J Z (dq (vP 0) (dq (vP 1) dz)))))
  (bf (gP (vJ (Kf (d_ Ac J8 (aU (eX bZ jw (by rfl) B.len_ PySem.boot_len (dq (vP 2) dz))) iP (cY _)) (Fi (d_ (jN Z.units) tM (aU (XJ.Gb (dq (dN (dx (vB 2) (aU (Aw iP)))) dz) (by rfl) B.len_)) iP (cY _))))) (bC (cF (pL rfl (dq (cN (qQ)) (dq (cN (o7 (L:=[]) (fl':=[.A]) rfl ["behind"] [] [] (qj (vB 2)) (λ_ _ _ _ _=>gN' (i:=0) (show(["behind"]:List Str).Nodup by decide +kernel)) (λ_ _ _ _ _=>nJ) (λ_ _ _ _ _=>jO (XJ.wY rfl (dq (vP 0) dz) (by rfl) B.sorted_)))) dz))))) (dw))
  (bC (cF (pL rfl (dq (cN (qQ)) (dq (Ao (cB O Z (dq (vP 2) (dq (vP 1) dz)))) dz))))))
def XQ(D:Dg K mg "laid" (top 27) ["held", "groups"])(B:Bl mg)(O:Has P w K mg base n "check_groups" ["groups"] (spD K iJ))(J:Has P w K mg base n "laid_as_they_are" ["held", "groups"] (spD K eF)):Has P w K mg base (n+1) "laid" ["held", "groups"] (spD K lA):=by
 have sc:FnScope ["held", "groups"] ["held", "groups"] (bH (top 27)):=fsc;exact jc (fl:=[.A,.A]) D sc (by decide) (by decide) λf cdv A outer s H E Z=>bf (Lw (iR (cB O Z (dq (vP 1) dz))))
  (bC (cF (Ao (cB J Z (dq (vP 0) (dq (vP 1) dz))))))
def Cu(D:Dg K mg "is_row_list" (top 28) ["thing", "many"])(B:Bl mg)(J:Has P w K mg base n "is_tuple_of" ["thing", "many"] (spD K fV)):Has P w K mg base (n+1) "is_row_list" ["thing", "many"] (spD K je):=by
 have sc:FnScope ["thing", "many"] ["thing", "many"] (bH (top 28)):=fsc;exact jc (fl:=[.A,.A]) D sc (by decide) (by decide) λf cdv A outer s H E Z=>bC (cF (cN (pO (aU (oH (T := "list") (by decide) (vP 0) (by rfl) B.isinstance_ (by rfl) B.list_ ge)) (pN (eX (uz rfl) L_ (by rfl) B.all_ (show bootBuiltins "all"=some (.builtin "all")by decide +kernel) (dq (aU (o7 (L:=[]) (fl':=[.A,.A]) rfl ["row"] ["many"] [1] (qj (vB 0)) (λ_ _ _ _ _=>gN' (i:=0) (show(["row", "many"]:List Str).Nodup by decide +kernel)) (λ_ _ _ _ _=>nJ) (λ_ _ _ _ _=>cB J Z (dq (vP 0) (dq (vP 1) dz))))) dz))))))
def Lb(D:Dg K mg "has_all" (top 29) ["rows", "needed"])(B:Bl mg):Has P w K mg base (n+1) "has_all" ["rows", "needed"] (spD K jM):=by
 have sc:FnScope ["rows", "needed", "known"] ["rows", "needed"] (bH (top 29)):=fsc;exact jc (fl:=[.A,.A,.A]) D sc (by decide) (by decide) λf cdv A outer s H E Z=>bf (sA (i:=2) sc.nd (qe (XJ.S5 Z.units Z.hd (dq (aU (o7 (L:=[]) (fl':=[.A]) rfl ["row"] [] [] (qj (vB 0)) (λ_ _ _ _ _=>gN' (i:=0) (show(["row"]:List Str).Nodup by decide +kernel)) (λ_ _ _ _ _=>nJ) (λ_ _ _ _ _=>jO (mQ (dN (pL rfl (dq (vA 0) (dq (iB (oO)) dz)))))))) dz) (by rfl) B.dict_)))
  (bC (cF (cN (eX (uz rfl) L_ (by rfl) B.all_ (show bootBuiltins "all"=some (.builtin "all")by decide +kernel) (dq (aU (XJ.R9 (fl':=[.A,.A]) rfl ["row"] ["known"] [2] (vP 1) (λ_ _ _ _ _=>gN' (i:=0) (show(["row", "known"]:List Str).Nodup by decide +kernel)) (λ_ _ _ _ _=>nJ) (λ_ _ _ _ _=>jO (oF (XJ.ZV Z.units) XJ.aj2 (vP 0) (vP 1) (by with_unfolding_all rfl))))) dz)))))
def Ld(D:Dg K mg "is_none" (top 30) ["held", "groups", "thing"])(B:Bl mg)(J:Has P w K mg base n "check_groups" ["groups"] (spD K iJ))(hturns:Has P w K mg base n "turns" ["groups"] (spD K jq))(O:Has P w K mg base n "rows_behind" ["rows", "group"] (spD K cQ))(Y:Has P w K mg base n "is_row_list" ["thing", "many"] (spD K je))(Z:Has P w K mg base n "has_all" ["rows", "needed"] (spD K jM)):Has P w K mg base (n+1) "is_none" ["held", "groups", "thing"] (spD K pD):=by
 have sc:FnScope ["held", "groups", "thing", "ahead", "place", "rows"] ["held", "groups", "thing"] (bH (top 30)):=fsc;exact jc (fl:=[.A,.A,.A,.A,.A,.A]) D sc (by decide) (by decide) λf cdv A outer s H E X=>bf (Lw (iR (cB J X (dq (vP 1) dz))))
  (bf (gP (vJ (qm (jW (mR (aU (oH (T := "list") (by decide) (vP 2) (by rfl) B.isinstance_ (by rfl) B.list_ ge)))) (oG (jW (wF kZ kZ pY pY iP (aU (eX bZ jw (by rfl) B.len_ PySem.boot_len (dq (vP 2) dz))) (aU (eX bZ jw (by rfl) B.len_ PySem.boot_len (dq (vP 1) dz)))))))) (bC (cF (cN (oO)))) (dw))
  (bf (gP (vJ (qm (jW (mR (aU (eX (uz rfl) L_ (by rfl) B.all_ (show bootBuiltins "all"=some (.builtin "all")by decide +kernel) (dq (aU (o7 (L:=[]) (fl':=[.A,.A]) rfl ["rows"] ["held"] [0] (qj (vB 2)) (λ_ _ _ _ _=>gN' (i:=0) (show(["rows", "held"]:List Str).Nodup by decide +kernel)) (λ_ _ _ _ _=>nJ) (λ_ _ _ _ _=>cB Y X (dq (vP 0) (dq (aU (eX bZ jw (by rfl) B.len_ PySem.boot_len (dq (vP 1) dz))) dz))))) dz))))) (oG (d_ Ac J8 (aU (eX bZ jw (by rfl) B.len_ PySem.boot_len (dq (dN (dx (vB 2) (aU (Aw iP)))) dz))) iP (cY _))))) (bC (cF (cN (oO)))) (dw))
  (bf (sA (i:=3) sc.nd (oN (ux (dq (zL (vB 0) (by rfl) B.tuple_) dz))))
  (bf (lQ (L:=[]) fm rfl (Q7 (L1:=[]) (L2:=[]) (jJ (qe (cB hturns X (dq (vP 1) dz)))) (vB 2) (by rfl) B.zip_) (vH rfl (iw (gN' (i:=4) sc.nd) (iw (gN' (i:=5) sc.nd) (su)))) (bf (gP (jW (mR (iR (cB Z X (dq (vP 5) (dq (iR (cB O X (dq (vP 3) (dq (dN (dx (vB 1) (vP 4))) dz)))) dz)))))) (bC (cF (cN (oO)))) (dw))
  (bC (sA (i:=3) sc.nd (vA 5)))))
  (bC (cF (cN (oO))))))))
def CV(D:Dg K mg "least_wide" (top 33) ["groups"])(B:Bl mg)(O:Has P w K mg base n "laid" ["held", "groups"] (spD K lA))(J:∃t,mg "MOST_WIDE"=some (.int 6 t)):Has P w K mg base (n+1) "least_wide" ["groups"] (XH.spT K gH):=by
 have sc:FnScope ["groups", "lists", "wide", "told"] ["groups"] (bH (top 33)):=fsc;exact XW6.Z4 (fl:=[.A,.N,.A,.N]) D sc (by decide) (by decide) λf cdv A outer s H E Z=>XH.Bm (XH.ai5 (d_ (jN Z.units) tM (aU (eX bZ jw (by rfl) B.len_ PySem.boot_len (dq (vP 0) dz))) iP (cY _)) (XH.Ms (XW6.Wt (VN (wH (Q8 (jO (qQ))) (wH (Q8 iC) (wH (zJ (wG)) (wH (zJ (wG)) (wG)))))))) (XH.Wb))
  (XH.Bm (XH.ai4 (wJ (i:=1) rfl sc.nd rfl (by first|exact fE rfl|exact fg rfl) (zJ (wG))) (XO.Wa))
  (XH.Bm (XW6.Jc (lQ (L:=[]) fm rfl (Om (by rfl) B.range_ (wA (dq iP (dq (aU (dD gb i_ (aU (zG J)) iP)) dz)))) (gN' (i:=2) sc.nd) (bf (wJ (i:=3) rfl sc.nd rfl (by first|exact fE rfl|exact fg rfl) (XW6.Z2 (cB O Z (dq (Aq (yd (tY (iM (dq iC dz))) (vP 2))) (dq (vP 0) dz)))))
  (bf (gP (d_ (jN Z.units) tM (Kh rfl (zK 3 rfl) iP (λ_ _=>rfl)) (aU (qQ)) (cY _)) (bC (cF (pL rfl (dq (cN (qQ)) (dq (cN (mQ (vP 2))) (dq (Kh rfl (wI 3 rfl) iP (λ_ _=>rfl)) (dq (wI 1 rfl) dz))))))) (dw))
  (bC (XW6.Wu (i:=1) (j:=3) rfl rfl (by decide) sc.nd rfl (by first|exact fE rfl|exact fg rfl) iP rfl (λ_ _=>rfl)))))))
  (XH.Ms (XW6.Jc (cF (pL rfl (dq (cN (qQ)) (dq (wI 1 rfl) dz))))))))
def Gz(D:Dg K mg "_law_cell" (top 35) ["_law_script", "_law_at"])(B:Bl mg):Has P w K mg base (n+1) "_law_cell" ["_law_script", "_law_at"] (spD K jy):=by
 have sc:FnScope ["_law_script", "_law_at"] ["_law_script", "_law_at"] (bH (top 35)):=fsc;exact jc (fl:=[.A,.A]) D sc (by decide) (by decide) λf cdv A outer s H E Z=>bf (gP (d_ G7 b_lt (vP 1) (aU (eX bZ jw (by rfl) B.len_ PySem.boot_len (dq (vP 0) dz))) (cY _)) (bC (cF (cN (dD oX wj (dN (dx (vB 0) (vP 1))) iP)))) (dw))
  (bf (gP (d_ (jN Z.units) tM (vP 0) (aU (iM dz)) (cY _)) (bC (cF (cN (dD gb i_ (aU (dD qg yM iP (vP 1))) iP)))) (dw))
  (bC (cF (cN (dD gb i_ (aU (dD oX wj (dN (dx (vB 0) (aU (dD oX wj (aU (dD qg yM (vP 1) iP)) (aU (eX bZ jw (by rfl) B.len_ PySem.boot_len (dq (vP 0) dz))))))) iP)) (aU (dD qg yM iP (vP 1))))))))
def GC(D:Dg K mg "_law_part" (top 36) ["_law_script", "_law_at", "_law_k", "_law_many"])(B:Bl mg)(J:Has P w K mg base n "_law_cell" ["_law_script", "_law_at"] (spD K jy)):Has P w K mg base (n+1) "_law_part" ["_law_script", "_law_at", "_law_k", "_law_many"] (spD K cC):=by
 have sc:FnScope ["_law_script", "_law_at", "_law_k", "_law_many", "_law_number", "_law_j"] ["_law_script", "_law_at", "_law_k", "_law_many"] (bH (top 36)):=fsc;exact jc (fl:=[.A,.A,.A,.A,.A,.A]) D sc (by decide) (by decide) λf cdv A outer s H E Z=>bf (gP (vJ (Kf (d_ G7 b_lt (vP 1) (aU (eX bZ jw (by rfl) B.len_ PySem.boot_len (dq (vP 0) dz))) (cY _)) (Fi (d_ af6 ar7 (dN (dx (vB 0) (vP 1))) (aU (dD Y6 ah1 iP iP)) (cY _))))) (bf (sA (i:=4) sc.nd (dx (vB 0) (vP 1)))
  (bf (lQ (L:=[]) fm rfl (lZ (by rfl) B.range_ (wA (dq (vP 2) dz))) (gN' (i:=5) sc.nd) (bC (sA (i:=4) sc.nd (iB (dD Lr X8 (vP 4) iP)))))
  (bC (gP (d_ Ac J8 (vP 4) iP (cY _)) (bC (cF (cN (dD oX wj (aU (dD oX wj (vP 4) iP)) (vP 3))))) (dw))))) (dw))
  (bf (sA (i:=4) sc.nd (iB (dD oX wj (aU (dD qg yM (aU (dD gb i_ (aU (dD gb i_ (iR (cB J Z (dq (vP 0) (dq (vP 1) dz)))) (aU (dD qg yM iP (vP 1))))) iP)) (aU (dD gb i_ iP (aU (dD qg yM iP (vP 2))))))) iP)))
  (bf (sA (i:=4) sc.nd (iB (dD gb i_ (aU (dD oX wj (aU (dD qg yM (vP 4) (vP 4))) iP)) iP)))
  (bC (cF (cN (dD oX wj (aU (dD Lr X8 (aU (dD oX wj (aU (dD qg yM (vP 4) (vP 4))) iP)) iP)) (vP 3)))))))
def CW(D:Dg K mg "_law_whole" (top 37) ["_law_found"])(B:Bl mg):Has P w K mg base (n+1) "_law_whole" ["_law_found"] (spD K d7):=by
 have sc:FnScope ["_law_found"] ["_law_found"] (bH (top 37)):=fsc;exact jc (fl:=[.A]) D sc (by decide) (by decide) λf cdv A outer s H E Z=>bC (cF (cN (pO (aU (oH (T := "int") (by decide) (vP 0) (by rfl) B.isinstance_ (by rfl) B.int_ PyProof.Rows.boot_int)) (pN (QS (aU (oH (T := "bool") (by decide) (vP 0) (by rfl) B.isinstance_ (by rfl) B.bool_ io)))))))
def CZ(D:Dg K mg "_law_apart" (top 38) ["_law_one", "_law_place", "_law_other", "_law_there"])(B:Bl mg):Has P w K mg base (n+1) "_law_apart" ["_law_one", "_law_place", "_law_other", "_law_there"] (spD K dG):=by
 have sc:FnScope ["_law_one", "_law_place", "_law_other", "_law_there"] ["_law_one", "_law_place", "_law_other", "_law_there"] (bH (top 38)):=fsc;exact jc (fl:=[.A,.A,.A,.A]) D sc (by decide) (by decide) λf cdv A outer s H E Z=>bf (gP (vJ (qm (d_ kZ pY (dN (dx (vB 0) iP)) (dN (dx (vB 2) iP)) (cY _)) (oG (d_ kZ pY (dN (dx (vB 2) iP)) (dN (dx (vB 0) iP)) (cY _))))) (bC (cF (cN (oO)))) (dw))
  (bC (cF (cN (ah3 (aU (oF kZ pY (aU (dD gb i_ (vP 1) (dN (dx (vB 0) iP)))) (vP 3) (cY _))) (pN (oF kZ pY (aU (dD gb i_ (vP 3) (dN (dx (vB 2) iP)))) (vP 1) (cY _)))))))
def GD(D:Dg K mg "_law_sits" (top 39) ["_law_held", "_law_groups_here", "_law_places"])(B:Bl mg)(J:Has P w K mg base n "_law_whole" ["_law_found"] (spD K d7))(O:Has P w K mg base n "_law_apart" ["_law_one", "_law_place", "_law_other", "_law_there"] (spD K dG)):Has P w K mg base (n+1) "_law_sits" ["_law_held", "_law_groups_here", "_law_places"] (spD K jY):=by
 have sc:FnScope ["_law_held", "_law_groups_here", "_law_places", "_law_at", "_law_place", "_law_first", "_law_behind", "_law_size", "_law_k"] ["_law_held", "_law_groups_here", "_law_places"] (bH (top 39)):=fsc;exact jc (fl:=[.A,.A,.A,.A,.A,.A,.A,.A,.A]) D sc (by decide) (by decide) λf cdv A outer s H E Z=>bf (gP (vJ (qm (jW (mR (aU (oH (T := "list") (by decide) (vP 2) (by rfl) B.isinstance_ (by rfl) B.list_ ge)))) (oG (d_ (tV Z.units) Hs (aU (eX bZ jw (by rfl) B.len_ PySem.boot_len (dq (vP 2) dz))) (aU (eX bZ jw (by rfl) B.len_ PySem.boot_len (dq (vP 1) dz))) (cY _))))) (bC (cF (cN (oO)))) (dw))
  (bf (lQ (L:=[]) fm rfl (lZ (by rfl) B.range_ (wA (dq (aU (eX bZ jw (by rfl) B.len_ PySem.boot_len (dq (vP 1) dz))) dz))) (gN' (i:=3) sc.nd) (bf (sA (i:=4) sc.nd (dx (vB 2) (vP 3)))
  (bf (QH (dx (vB 1) (vP 3)) (vH rfl (iw (gN' (i:=5) sc.nd) (iw (gN' (i:=6) sc.nd) (iw (gN' (i:=7) sc.nd) (su))))))
  (bf (gP (vJ (qm (jW (mR (iR (cB J Z (dq (vP 4) dz))))) (oG (jW (wF kZ kZ pY pY iP (vP 4) (aU (dD Et Ls (aU (eX bZ jw (by rfl) B.len_ PySem.boot_len (dq (vP 0) dz))) (vP 7)))))))) (bC (cF (cN (oO)))) (dw))
  (bC (gP (d_ Ac J8 (aU (eX (Ou rfl) Zn (by rfl) B.max_ hK (dq (Aq (Ax (vB 0) (lG (vP 4)) (lG (aU (dD gb i_ (vP 4) (vP 7)))))) dz))) (vP 5) (cY _)) (bC (cF (cN (oO)))) (dw)))))))
  (bf (lQ (L:=[]) fm rfl (lZ (by rfl) B.range_ (wA (dq (aU (eX bZ jw (by rfl) B.len_ PySem.boot_len (dq (vP 1) dz))) dz))) (gN' (i:=3) sc.nd) (bC (lQ (L:=[]) fm rfl (lZ (by rfl) B.range_ (wA (dq (vP 3) dz))) (gN' (i:=8) sc.nd) (bC (gP (jW (mR (iR (cB O Z (dq (dN (dx (vB 1) (vP 8))) (dq (dN (dx (vB 2) (vP 8))) (dq (dN (dx (vB 1) (vP 3))) (dq (dN (dx (vB 2) (vP 3))) dz)))))))) (bC (cF (cN (oO)))) (dw))))))
  (bC (cF (cN (oO))))))
def C_(D:Dg K mg "_law_turns" (top 40) ["_law_groups_here"])(B:Bl mg):Has P w K mg base (n+1) "_law_turns" ["_law_groups_here"] (spD K mX):=by
 have sc:FnScope ["_law_groups_here"] ["_law_groups_here"] (bH (top 40)):=fsc;exact jc (fl:=[.A]) D sc (by decide) (by decide) λf cdv A outer s H E Z=>bC (cF (cN (o7 (L:=[]) (fl':=[.A,.A]) rfl ["_law_pair"] ["_law_groups_here"] [0] (qj (jJ (iB (Rh (dq (aU (o7 (L:=[]) (fl':=[.A,.A]) rfl ["_law_at"] ["_law_groups_here"] [0] (lZ (by rfl) B.range_ (wA (dq (aU (eX bZ jw (by rfl) B.len_ PySem.boot_len (dq (vP 0) dz))) dz))) (λ_ _ _ _ _=>gN' (i:=0) (show(["_law_at", "_law_groups_here"]:List Str).Nodup by decide +kernel)) (λ_ _ _ _ _=>nJ) (λ_ _ _ _ _=>jO (mQ (dN (pL rfl (dq (dx (jJ (dx (vB 1) (vP 0))) iP) (dq (vA 0) dz)))))))) dz) (by rfl) B.sorted_)))) (λ_ _ _ _ _=>gN' (i:=0) (show(["_law_pair", "_law_groups_here"]:List Str).Nodup by decide +kernel)) (λ_ _ _ _ _=>nJ) (λ_ _ _ _ _=>jO (mQ (dN (dx (vB 1) (dN (dx (vB 0) iP)))))))))
def GF(D:Dg K mg "_law_next" (top 41) ["_law_rows", "_law_group"])(B:Bl mg):Has P w K mg base (n+1) "_law_next" ["_law_rows", "_law_group"] (spD K jd):=by
 have sc:FnScope ["_law_rows", "_law_group", "_law_first", "_law_behind", "_law_size", "_law_found", "_law_row", "_law_rest", "_law_place", "_law_other"] ["_law_rows", "_law_group"] (bH (top 41)):=fsc;exact jc (fl:=[.A,.A,.A,.A,.A,.N,.A,.A,.A,.A]) D sc (by decide) (by decide) λf cdv A outer s H E Z=>bf (QH (vA 1) (vH rfl (iw (gN' (i:=2) sc.nd) (iw (gN' (i:=3) sc.nd) (iw (gN' (i:=4) sc.nd) (su))))))
  (bf (wJ (i:=5) rfl sc.nd rfl (by first|exact fE rfl|exact fg rfl) (Mf))
  (bf (lQ (L:=[]) fm rfl (Kl (vB 0)) (gN' (i:=6) sc.nd) (bf (QW (i:=7) (L:=[]) (fl':=[.A,.A]) rfl sc.nd rfl rfl rfl ["_law_end"] ["_law_first"] [2] (Kl (vB 6)) (λ_ _ _ _ _=>gN' (i:=0) (show(["_law_end", "_law_first"]:List Str).Nodup by decide +kernel)) (λ_ _ _ _ _=>nJ) (λ_ _ _ _ _=>jO (mQ (dN (dx (jJ (oN (ux (dq (vA 0) (dq (iB (Fe)) dz))))) (aU (wD (dq (aU (oF kZ pY (vP 0) (vP 1) (cY _))) dz) (by rfl) B.int_)))))))
  (bC (lQ (L:=[]) fm rfl (lZ (by rfl) B.range_ (wA (dq (aU (dD gb i_ (aU (dD Et Ls (aU (eX bZ jw (by rfl) B.len_ PySem.boot_len (dq (vP 6) dz))) (vP 4))) iP)) dz))) (gN' (i:=8) sc.nd) (bC (gP (d_ kZ pY (aU (eX (DX rfl) Sh (by rfl) B.max_ hK (dq (aU (Sg (vP 6) (lG (vP 8)) (lG (aU (dD gb i_ (vP 8) (vP 4)))))) dz))) (vP 2) (cY _)) (bf (sA (i:=9) sc.nd (oN (Kg (jJ (oN (Ax (vB 7) uy (lG (vP 8))))) (jJ (oN (yd (ux (dq (vA 3) dz)) (vP 4)))))))
  (bC (XJ.S6 (XK.hu1 Z.units) (i:=5) rfl XR (dN (zL (jJ (oN (Kg (vB 9) (jJ (oN (Ax (vB 7) (lG (aU (dD gb i_ (vP 8) (vP 4)))) uy)))))) (by rfl) B.tuple_)) rfl))) (dw)))))))
  (bC (cF (cN (XJ.wY rfl (dq (zK 5 rfl) dz) (by rfl) B.sorted_))))))
def Cv(D:Dg K mg "_law_groups" (top 42) ["_law_script", "_law_many"])(B:Bl mg)(J:Has P w K mg base n "_law_part" ["_law_script", "_law_at", "_law_k", "_law_many"] (spD K cC)):Has P w K mg base (n+1) "_law_groups" ["_law_script", "_law_many"] (spD K lF):=by
 have sc:FnScope ["_law_script", "_law_many", "_law_base", "_law_groups_here", "_law_k", "_law_first", "_law_size", "_law_turn"] ["_law_script", "_law_many"] (bH (top 42)):=fsc;exact jc (fl:=[.A,.A,.A,.O,.A,.A,.A,.A]) D sc (by decide) (by decide) λf cdv A outer s H E Z=>bf (sA (i:=2) sc.nd (qe (cB J Z (dq (vP 0) (dq iP (dq iP (dq iP dz)))))))
  (bf (zH (i:=3) rfl sc.nd rfl (by first|exact fE rfl|exact fg rfl) (tY (iM dz)))
  (bf (lQ (L:=[]) fm rfl (lZ (by rfl) B.range_ (wA (dq (vP 1) dz))) (gN' (i:=4) sc.nd) (bf (sA (i:=5) sc.nd (iB (dD gb i_ (vP 2) (iR (cB J Z (dq (vP 0) (dq (aU (dD gb i_ iP (vP 4))) (dq iP (dq iP dz)))))))))
  (bf (sA (i:=6) sc.nd (iB (dD gb i_ iP (iR (cB J Z (dq (vP 0) (dq (aU (dD gb i_ iP (vP 4))) (dq iP (dq iP dz)))))))))
  (bf (gP (d_ Ac J8 (vP 4) iP (cY _)) (bC (sA (i:=6) sc.nd (iB (dD gb i_ iP (iR (cB J Z (dq (vP 0) (dq (aU (dD gb i_ iP (vP 4))) (dq iP (dq iP dz)))))))))) (dw))
  (bf (gP (vJ (Kf (d_ Ac J8 (vP 4) iP (cY _)) (Fi (d_ (jN Z.units) tM (iR (cB J Z (dq (vP 0) (dq (aU (dD gb i_ iP (vP 4))) (dq iP (dq iP dz)))))) iP (cY _))))) (bC (sA (i:=6) sc.nd (iB (dD gb i_ iP (iR (cB J Z (dq (vP 0) (dq (aU (dD gb i_ iP (vP 4))) (dq iP (dq iP dz)))))))))) (dw))
  (bC (xZ (i:=3) rfl (pL rfl (dq (vA 5) (dq (iB (dD gb i_ (aU (dD gb i_ (vP 5) iP)) (iR (cB J Z (dq (vP 0) (dq (aU (dD gb i_ iP (vP 4))) (dq iP (dq iP dz)))))))) (dq (vA 6) dz)))) rfl)))))))
  (bf (sA (i:=7) sc.nd (qe (cB J Z (dq (vP 0) (dq iP (dq iP (dq (aU (dD gb i_ (vP 1) iP)) dz)))))))
  (bC (cF (cN (Zi (Kg (jJ (oN (Ax (xX 3) (lG (vP 7)) uy))) (jJ (oN (Ax (xX 3) uy (lG (vP 7)))))))))))))
def Cw(D:Dg K mg "_law_listed" (top 43) ["_law_wide", "_law_groups_here", "_law_lists"])(B:Bl mg)(Y:Has P w K mg base n "is_none" ["held", "groups", "thing"] (spD K pD))(J:Has P w K mg base n "_law_turns" ["_law_groups_here"] (spD K mX))(O:Has P w K mg base n "_law_next" ["_law_rows", "_law_group"] (spD K jd)):Has P w K mg base (n+1) "_law_listed" ["_law_wide", "_law_groups_here", "_law_lists"] (spD K fW):=by
 have sc:FnScope ["_law_wide", "_law_groups_here", "_law_lists", "_law_rows", "_law_rows_told", "_law_group"] ["_law_wide", "_law_groups_here", "_law_lists"] (bH (top 43)):=fsc;exact jc (fl:=[.A,.A,.A,.A,.A,.A]) D sc (by decide) (by decide) λf cdv A outer s H E Z=>bf (gP (vJ (qm (jW (mR (aU (oH (T := "list") (by decide) (vP 2) (by rfl) B.isinstance_ (by rfl) B.list_ ge)))) (oG (jW (wF kZ kZ pY pY iP (aU (eX bZ jw (by rfl) B.len_ PySem.boot_len (dq (vP 2) dz))) (aU (eX bZ jw (by rfl) B.len_ PySem.boot_len (dq (vP 1) dz)))))))) (bC (cF (cN (oO)))) (dw))
  (bf (sA (i:=3) sc.nd (oN (ux (dq (zL (jJ (oN (yd (tY (iM (dq iC dz))) (vP 0)))) (by rfl) B.tuple_) dz))))
  (bf (lQ (L:=[]) fm rfl (Q7 (L1:=[]) (L2:=[]) (vB 2) (jJ (qe (cB J Z (dq (vP 1) dz)))) (by rfl) B.zip_) (vH rfl (iw (gN' (i:=4) sc.nd) (iw (gN' (i:=5) sc.nd) (su)))) (bf (gP (vJ (qm (d_ (jN Z.units) tM (vP 3) (aU (iM dz)) (cY _)) (qm (jW (mR (aU (oH (T := "list") (by decide) (vP 4) (by rfl) B.isinstance_ (by rfl) B.list_ ge)))) (oG (d_ (tV Z.units) Hs (vP 4) (iR (cB O Z (dq (vP 3) (dq (vP 5) dz)))) (cY _)))))) (bC (cF (cN (oO)))) (dw))
  (bC (sA (i:=3) sc.nd (vA 4)))))
  (bC (cF (cN (pO (aU (oF (jN Z.units) tM (vP 3) (aU (iM dz)) (cY _))) (pN (Zr (iR (cB Y Z (dq (Aq (yd (tY (iM (dq iC dz))) (vP 0))) (dq (vP 1) (dq (vP 2) dz)))))))))))))
def Dc(D:Dg K mg "_law_right" (top 44) ["_law_groups_here", "_law_found"])(B:Bl mg)(O:Has P w K mg base n "_law_whole" ["_law_found"] (spD K d7))(Y:Has P w K mg base n "_law_sits" ["_law_held", "_law_groups_here", "_law_places"] (spD K jY))(J:Has P w K mg base n "_law_listed" ["_law_wide", "_law_groups_here", "_law_lists"] (spD K fW)):Has P w K mg base (n+1) "_law_right" ["_law_groups_here", "_law_found"] (spD K fJ):=by
 have sc:FnScope ["_law_groups_here", "_law_found", "_law_wide"] ["_law_groups_here", "_law_found"] (bH (top 44)):=fsc;exact jc (fl:=[.A,.A,.A]) D sc (by decide) (by decide) λf cdv A outer s H E Z=>bf (gP (vJ (qm (jW (mR (aU (oH (T := "tuple") (by decide) (vP 1) (by rfl) B.isinstance_ (by rfl) B.tuple_ hI)))) (oG (d_ G7 b_lt (aU (eX bZ jw (by rfl) B.len_ PySem.boot_len (dq (vP 1) dz))) iP (cY _))))) (bC (cF (cN (qM)))) (dw))
  (bf (gP (d_ (jN Z.units) tM (dN (dx (vB 1) iP)) (aU (qQ)) (cY _)) (bC (cF (cN (mQ (dN (dx (jJ (iB (iM (dq (jO (qM)) (dq iC dz))))) (aU (wD (dq (iR (pO (aU (oF (jN Z.units) tM (aU (eX bZ jw (by rfl) B.len_ PySem.boot_len (dq (vP 1) dz))) iP (cY _))) (pN (cB J Z (dq iP (dq (vP 0) (dq (dN (dx (vB 1) iP)) dz))))))) dz) (by rfl) B.int_)))))))) (dw))
  (bf (gP (vJ (qm (d_ (tV Z.units) Hs (dN (dx (vB 1) iP)) (aU (qQ)) (cY _)) (qm (d_ (tV Z.units) Hs (aU (eX bZ jw (by rfl) B.len_ PySem.boot_len (dq (vP 1) dz))) iP (cY _)) (oG (jW (mR (iR (cB O Z (dq (dN (dx (vB 1) iP)) dz))))))))) (bC (cF (cN (qM)))) (dw))
  (bf (sA (i:=2) sc.nd (dx (vB 1) iP))
  (bf (gP (vJ (qm (jW (wF kZ kZ pY pY iP (vP 2) iP)) (oG (d_ (tV Z.units) Hs (aU (oF (jN Z.units) tM (vP 2) iP (cY _))) (aU (oF (jN Z.units) tM (vP 0) (aU (iM dz)) (cY _))) (cY _))))) (bC (cF (cN (qM)))) (dw))
  (bf (gP (d_ (jN Z.units) tM (vP 0) (aU (iM dz)) (cY _)) (bC (cF (cN (mQ (dN (dx (jJ (iB (iM (dq (jO (qM)) (dq iC dz))))) (aU (wD (dq (aU (oF (jN Z.units) tM (vP 1) (iR (pL rfl (dq (jO (qQ)) (dq iC (dq (jO (iM dz)) (dq (jO (iM dz)) dz)))))) (cY _))) dz) (by rfl) B.int_)))))))) (dw))
  (bf (gP (jW (mR (iR (cB Y Z (dq (Aq (yd (tY (iM (dq iC dz))) (vP 2))) (dq (vP 0) (dq (dN (dx (vB 1) iP)) dz))))))) (bC (cF (cN (qM)))) (dw))
  (bf (gP (d_ (jN Z.units) tM (vP 2) iP (cY _)) (bC (cF (cN (mQ (dN (dx (jJ (iB (iM (dq (jO (qM)) (dq iC dz))))) (aU (wD (dq (aU (oF (jN Z.units) tM (dN (dx (vB 1) iP)) (aU (iM dz)) (cY _))) dz) (by rfl) B.int_)))))))) (dw))
  (bC (cF (cN (mQ (dN (dx (jJ (oN (ux (dq (iB (qM)) (dq (vA 2) dz))))) (aU (wD (dq (iR (cB J Z (dq (aU (dD Et Ls (vP 2) iP)) (dq (vP 0) (dq (dN (dx (vB 1) iP)) dz))))) dz) (by rfl) B.int_)))))))))))))))
def ae0(Fn:FunD K "law" (top 45) f fd)(B:Bl mg)(D:Has P w K mg base n "least_wide" ["groups"] (XH.spT K gH))(Z:Has P w K mg base n "_law_part" ["_law_script", "_law_at", "_law_k", "_law_many"] (spD K cC))(Y:Has P w K mg base n "_law_groups" ["_law_script", "_law_many"] (spD K lF))(J:Has P w K mg base n "_law_right" ["_law_groups_here", "_law_found"] (spD K fJ)):FnOk P w K mg base CX0 (n+1) f fd ["_law_script"] (spD K Jg):=by
 have sc:FnScope ["_law_script", "_law_groups_here", "_law_handed", "_law_found", "_law_due", "_law_fewer"] ["_law_script"] (bH (top 45)):=fsc;exact QX (fl:=[.A,.A,.O,.N,.A,.A]) Fn sc (by decide) (by decide) λf cdv A outer s H E X=>bf (sA (i:=1) sc.nd (qe (cB Y X (dq (vP 0) (dq (iR (cB Z X (dq (vP 0) (dq iP (dq iP (dq iP dz)))))) dz)))))
  (bf (zH (i:=2) rfl sc.nd rfl (by first|exact fE rfl|exact fg rfl) (LK (vB 1) (by rfl) B.list_))
  (bf (wJ (i:=3) rfl sc.nd rfl (by first|exact fE rfl|exact fg rfl) (XH.Bo D X (dq (Hr (xX 2)) dz)))
  (bf (sA (i:=4) sc.nd (qe (cB J X (dq (vP 1) (dq (zK 3 rfl) dz)))))
  (bf (gP (vJ (qm (Q5 (vP 4)) (oG (d_ (tV X.units) Hs (Hr (xX 2)) (vP 1) (cY _))))) (bC (cF (cN (oO)))) (dw))
  (bf (XW6.Jd (i:=3) rfl (aU (Aw iP)) (zJ (wG)) rfl (λ_ _=>rfl))
  (bf (gP (d_ (jN X.units) tM (Kh rfl (zK 3 rfl) iP (λ_ _=>rfl)) (aU (qQ)) (cY _)) (bC (XW6.Jd (i:=3) rfl iP (Q8 iC) rfl (λ_ _=>rfl))) (dw))
  (bf (xZ (i:=2) rfl (qe (pL rfl (dq iC (dq iC (dq iC dz))))) rfl)
  (bf (gP (d_ (tV X.units) Hs (iR (cB J X (dq (vP 1) (dq (iR (Yb (XH.Bo D X (dq (Aq (LK (vB 1) (by rfl) B.list_)) dz)))) dz)))) (vP 4) (cY _)) (bC (cF (cN (oO)))) (dw))
  (bf (sA (i:=5) sc.nd (qe (cB J X (dq (Aq (Ax (vB 1) uy (lG (aU (Aw iP))))) (dq (iR (Yb (XH.Bo D X (dq (Aq (Ax (vB 1) uy (lG (aU (Aw iP))))) dz)))) dz)))))
  (bC (cF (cN (pO (aU (VD (vP 5))) (pN (oF kZ pY (vP 5) (vP 4) (cY _))))))))))))))))
end
end K76
namespace D3
theorem len0{p:List PySem.Value->Prop}(h:p []):∀us,us.length=0->p us:=λus Z=>by
 cases us with
 |nil=>exact h
 |cons _ _=>cases Z
theorem ap4{p:List PySem.Value->Prop}(h:∀a us,us.length=n->p (a::us)):∀us,us.length=n+1->p us:=λus Z=>by
 cases us with
 |nil=>cases Z
 |cons a r=>exact h a r (vZ.inj Z)
end D3
namespace K76
open L2 My D3
structure Txt(K:PySem.W.Frag)(mg:Str->Option Value):Prop where
 d_is_whole:Dg K mg "is_whole" (top 5) ["thing"]
 d_is_whole_within:Dg K mg "is_whole_within" (top 6) ["thing", "least", "most"]
 d_all_whole:Dg K mg "all_whole" (top 7) ["things"]
 d_is_tuple_of:Dg K mg "is_tuple_of" (top 8) ["thing", "many"]
 d_is_pair:Dg K mg "is_pair" (top 9) ["thing"]
 d_is_stretch:Dg K mg "is_stretch" (top 12) ["thing"]
 d_nights_of:Dg K mg "nights_of" (top 13) ["stay"]
 d_is_group:Dg K mg "is_group" (top 17) ["thing"]
 d_check_groups:Dg K mg "check_groups" (top 18) ["groups"]
 d_turns:XL.DgT K mg "turns" (top 19) ["groups"] 128 "turns.<locals>.<lambda>" ⟨41,42,41,72⟩
 d_starts_in:Dg K mg "starts_in" (top 20) ["row", "group"]
 d_night_behind:Dg K mg "night_behind" (top 21) ["since", "group", "is_own"]
 d_row_behind:Dg K mg "row_behind" (top 22) ["row", "group", "start"]
 d_rows_behind:Dg K mg "rows_behind" (top 23) ["rows", "group"]
 d_all_behind:Dg K mg "all_behind" (top 24) ["held", "groups"]
 d_places_by:Dg K mg "places_by" (top 25) ["found", "groups"]
 d_laid_as_they_are:Dg K mg "laid_as_they_are" (top 26) ["held", "groups"]
 d_laid:Dg K mg "laid" (top 27) ["held", "groups"]
 d_is_row_list:Dg K mg "is_row_list" (top 28) ["thing", "many"]
 d_has_all:Dg K mg "has_all" (top 29) ["rows", "needed"]
 d_is_none:Dg K mg "is_none" (top 30) ["held", "groups", "thing"]
 d_least_wide:Dg K mg "least_wide" (top 33) ["groups"]
 d__law_cell:Dg K mg "_law_cell" (top 35) ["_law_script", "_law_at"]
 d__law_part:Dg K mg "_law_part" (top 36) ["_law_script", "_law_at", "_law_k", "_law_many"]
 d__law_whole:Dg K mg "_law_whole" (top 37) ["_law_found"]
 d__law_apart:Dg K mg "_law_apart" (top 38) ["_law_one", "_law_place", "_law_other", "_law_there"]
 d__law_sits:Dg K mg "_law_sits" (top 39) ["_law_held", "_law_groups_here", "_law_places"]
 d__law_turns:Dg K mg "_law_turns" (top 40) ["_law_groups_here"]
 d__law_next:Dg K mg "_law_next" (top 41) ["_law_rows", "_law_group"]
 d__law_groups:Dg K mg "_law_groups" (top 42) ["_law_script", "_law_many"]
 d__law_listed:Dg K mg "_law_listed" (top 43) ["_law_wide", "_law_groups_here", "_law_lists"]
 d__law_right:Dg K mg "_law_right" (top 44) ["_law_groups_here", "_law_found"]
 d_law:Dl K mg "law" "_law_script" (top 45)
 blt:Bl mg
 c_NIGHTS:∃t,mg "NIGHTS"=some (.int 400 t)
 c_MOST_OF_A_GROUP:∃t,mg "MOST_OF_A_GROUP"=some (.int 6 t)
 c_MOST_ROWS:∃t,mg "MOST_ROWS"=some (.int 400 t)
 c_MOST_WIDE:∃t,mg "MOST_WIDE"=some (.int 6 t)
def ae1(T:Txt K mg){f:Addr}{fd:gc}(F:FunD K "law" (top 45) f fd):FnOk P w K mg base CX0 65 f fd ["_law_script"] (QZ K):=by
 have R:=JQ (P:=P) (w:=w) (base:=base) (n:=0) T.d_is_whole T.blt;have z:=Gw (P:=P) (w:=w) (base:=base) (n:=0) T.d_nights_of T.blt;have O:=UW (P:=P) (w:=w) (base:=base) (n:=0) T.d_turns T.blt;have B:=Gx (P:=P) (w:=w) (base:=base) (n:=0) T.d_starts_in T.blt;have Q:=zA (P:=P) (w:=w) (base:=base) (n:=0) T.d_night_behind T.blt;have q:=Lb (P:=P) (w:=w) (base:=base) (n:=0) T.d_has_all T.blt;have u:=Gz (P:=P) (w:=w) (base:=base) (n:=0) T.d__law_cell T.blt;have V:=CW (P:=P) (w:=w) (base:=base) (n:=0) T.d__law_whole T.blt;have C:=CZ (P:=P) (w:=w) (base:=base) (n:=0) T.d__law_apart T.blt;have E:=C_ (P:=P) (w:=w) (base:=base) (n:=0) T.d__law_turns T.blt;have v:=GF (P:=P) (w:=w) (base:=base) (n:=0) T.d__law_next T.blt;have U:=vU (P:=P) (w:=w) (base:=base) (n:=1) T.d_is_whole_within T.blt (R.mono (by decide));have y:=Gv (P:=P) (w:=w) (base:=base) (n:=1) T.d_all_whole T.blt (R.mono (by decide));have J:=CQ (P:=P) (w:=w) (base:=base) (n:=1) T.d_row_behind T.blt (Q.mono (by decide));have A:=Gy (P:=P) (w:=w) (base:=base) (n:=1) T.d_places_by T.blt (O.mono (by decide));have S:=GC (P:=P) (w:=w) (base:=base) (n:=1) T.d__law_part T.blt (u.mono (by decide));have x:=GD (P:=P) (w:=w) (base:=base) (n:=1) T.d__law_sits T.blt (V.mono (by decide)) (C.mono (by decide));have X:=Cp (P:=P) (w:=w) (base:=base) (n:=2) T.d_is_tuple_of T.blt (y.mono (by decide));have Y:=Cr (P:=P) (w:=w) (base:=base) (n:=2) T.d_rows_behind T.blt (B.mono (by decide)) (J.mono (by decide));have L:=Cv (P:=P) (w:=w) (base:=base) (n:=2) T.d__law_groups T.blt (S.mono (by decide));have s:=La (P:=P) (w:=w) (base:=base) (n:=3) T.d_is_pair T.blt (X.mono (by decide));have G:=CT (P:=P) (w:=w) (base:=base) (n:=3) T.d_all_behind T.blt (O.mono (by decide)) (Y.mono (by decide)) T.c_MOST_ROWS;have N:=Cu (P:=P) (w:=w) (base:=base) (n:=3) T.d_is_row_list T.blt (X.mono (by decide));have H:=CP (P:=P) (w:=w) (base:=base) (n:=4) T.d_is_stretch T.blt (s.mono (by decide)) T.c_NIGHTS;have W:=uV (P:=P) (w:=w) (base:=base) (n:=4) T.d_laid_as_they_are T.blt (G.mono (by decide)) (A.mono (by decide));have t:=JR (P:=P) (w:=w) (base:=base) (n:=5) T.d_is_group T.blt (U.mono (by decide)) (H.mono (by decide)) (z.mono (by decide)) T.c_MOST_OF_A_GROUP;have Z:=zu (P:=P) (w:=w) (base:=base) (n:=6) T.d_check_groups T.blt (t.mono (by decide));have p:=XQ (P:=P) (w:=w) (base:=base) (n:=7) T.d_laid T.blt (Z.mono (by decide)) (W.mono (by decide));have r:=Ld (P:=P) (w:=w) (base:=base) (n:=7) T.d_is_none T.blt (Z.mono (by decide)) (O.mono (by decide)) (Y.mono (by decide)) (N.mono (by decide)) (q.mono (by decide));have I:=CV (P:=P) (w:=w) (base:=base) (n:=8) T.d_least_wide T.blt (p.mono (by decide)) T.c_MOST_WIDE;have M:=Cw (P:=P) (w:=w) (base:=base) (n:=8) T.d__law_listed T.blt (r.mono (by decide)) (E.mono (by decide)) (v.mono (by decide));have D:=Dc (P:=P) (w:=w) (base:=base) (n:=9) T.d__law_right T.blt (V.mono (by decide)) (x.mono (by decide)) (M.mono (by decide));exact((ae0 (P:=P) (w:=w) (base:=base) (n:=10) F T.blt (I.mono (by decide)) (S.mono (by decide)) (L.mono (by decide)) (D.mono (by decide))).mono (by decide)).imp (VL K76.UL)
end K76
namespace PySem.W.Fast
def tw9297346257845244178:=0
def tw7493888677690121623:=0
def tw9791782526674812992:=0
def tw14967162135355649193:=0
def tw12047015881914860215:=0
def tw10317773670506258918:=0
def tw5038508798858927629:=0
def tw2625065768643751715:=0
def tw9865795805114358193:=0
def tw445429114498635011:=0
def tw8825788118631626450:=0
def tw16449798924407801629:=0
def tw11267012945004725578:=0
def tw17452726938576844893:=0
def tw13821145463697817388:=0
def tw11724654447519683368:=0
def tw10355231225730297116:=0
def tw17289480298131230657:=0
def tw11558501409768963754:=0
def tw2248199084259188863:=0
def tw8314090301412135434:=0
def tw3244165584926246543:=0
def tw5918614706769809351:=0
def tw399852687538266480:=0
def tw16887744044692890098:=0
def tw4212268608910438415:=0
def tw12730040234122856567:=0
def tw16076391094836135266:=0
def tw13518451814220175740:=0
def tw9786889788239065710:=0
def tw2056283564751780471:=0
def tw10817691430979415276:=0
def tw17507971249656610332:=0
def tw17667913615306617174:=0
def tw4549455823279164590:=0
def tw14282734478798711652:=0
def tw6897337049141464070:=0
def tw10902864492074861308:=0
def tw1916960212223316827:=0
def tw5505042088096769772:=0
def tw1681355472997749106:=0
def tw6896300960426498849:=0
def tw1868294252191220074:=0
def tw4475210359560296327:=0
def tw17340430545042040840:=0
def tw2899725761038744161:=0
def tw8188227007247413139:=0
def tw16439028555517536697:=0
def tw16423232905797417985:=0
def tw11153427996381842153:=0
def tw1049240590845984988:=0
def tw16232158691660640318:=0
def tw15913756130777432638:=0
def tw14272809929977740221:=0
def tw17716029953174225728:=0
def tw3229297644966582419:=0
def tw5772299099018614684:=0
def tw17042577621337281381:=0
def tw2121959333527395985:=0
def tw10487443213505712874:=0
def tw2627411914521046947:=0
def tw17711157224212801867:=0
def tw2742860754596538236:=0
def tw15766144818371286705:=0
def tw16749101274124892950:=0
def tw1690866955873448035:=0
def tw13714274894865536463:=0
def tw3423556800189491615:=0
def tw13888530223709880851:=0
def tw14318045155865281084:=0
def tw5755532649782637230:=0
def tw1080120121419575064:=0
def tw17584004952159121771:=0
def tw8867712658418907467:=0
def tw15594302797413812040:=0
def tw4224997675357161381:=0
def tw452565159342624064:=0
def tw9225688485425018519:=0
def tw2040029063268466419:=0
def tw1754293941251367492:=0
def tw10653558044872157030:=0
def tw16247954378203751840:=0
def tw18020092344266793144:=0
def tw7368522578345204000:=0
def tw12391284880560976015:=0
def tw13652527888178791640:=0
def tw1829100474299210571:=0
def tw13378740493312212961:=0
def tw12386263481832100359:=0
def tw8688235241369645713:=0
def tw521321389569029120:=0
def tw4749522973241675236:=0
def tw3794274559152154423:=0
def tw2496063096648931787:=0
def tw10898240062001474542:=0
def tw6794427593254718888:=0
def tw684476456176834572:=0
def tw17846241922571329184:=0
def tw11991818257328310644:=0
def tw1605927381265844522:=0
def tw13584480544175328486:=0
def tw11032794612549799886:=0
def tw13025966132275549044:=0
def tw10108073084401011851:=0
def tw12168864649033167176:=0
def tw14385749023062590225:=0
def tw4967793805718314810:=0
def tw16132912667774441952:=0
def tw4187502756843499172:=0
def tw14249116938711380467:=0
def tw2758719305805743582:=0
def tw13423086392325109998:=0
def tw4203274692050110205:=0
def tw7637897089582859216:=0
def tw11064084984479047366:=0
def tw9606478371876549511:=0
def tw18030275398101101593:=0
def tw15456967314681482186:=0
def tw16507073272433737354:=0
def tw9142790693943305061:=0
def tw11790694971880749492:=0
def tw10474010510242885753:=0
def tw11092558025628128910:=0
def tw10643709769419272973:=0
def tw9666320915239938057:=0
def tw10701176513717107913:=0
def tw6716418489301498346:=0
def tw10895339333097698276:=0
def tw14754031360487829787:=0
def tw16356726500787714624:=0
def tw17999995716948876912:=0
def tw10445123552533102331:=0
def tw10354406636273085928:=0
def tw604694660600955376:=0
def tw2642471425178745660:=0
def tw1060857960319942897:=0
def tw12519383587303026685:=0
def tw15066460189115751618:=0
def tw17629084798726090906:=0
def tw18433831183361752831:=0
def tw7516158768562134176:=0
def tw8481157699663997272:=0
def tw2684355029498604151:=0
def tw14080828064012740370:=0
def tw295954122439730124:=0
def tw8401061198363492657:=0
def tw1500739489241570146:=0
def tw5399577020563445271:=0
def tw3485702520891433511:=0
def tw18401136509880738320:=0
def tw10734522914027569459:=0
def tw5072974012105316611:=0
def tw14773941925271985229:=0
def tw11696204048252575606:=0
def tw2656450485990991791:=0
def tw10028070782046505969:=0
def tw16384013600021291773:=0
def tw17673027322757033085:=0
def tw2935109863710398359:=0
def tw10085783977857344797:=0
def tw7802261041251304246:=0
def tw7291221427182215110:=0
def tw10607691628033394936:=0
def tw9067603821720286722:=0
def tw4674617859215943209:=0
def tw6602596547994320675:=0
def tw12722868286173976665:=0
def tw15127934571157638929:=0
def tw8566612587036082481:=0
def tw11528929540805362615:=0
def tw16141641612693484147:=0
def tw2699202569179684706:=0
def tw4993869970823974857:=0
def tw896884887558864631:=0
def tw4982819100353004280:=0
def tw6984865409290736825:=0
def tw14484083713071912215:=0
def tw5687979129623540049:=0
def tw13096156029898847781:=0
def tw7444717781896906912:=0
def tw14893071665233721006:=0
def tw18442773858616013124:=0
def tw15506387910853813302:=0
end PySem.W.Fast
open PySem PySem.W PyProof.Rows
set_option maxRecDepth 100000 in
set_option maxHeartbeats 0 in
theorem PySem.Challenge.cw_nightbook_k76_least_wide_holds : PySem.Challenge.rw_nightbook_k76_least_wide.Holds := by
 w_on;o_law;k_head;(case hw=>w_witness2)
 k_fill
 refine L2.Qx (l:=PySem.Challenge.rw_nightbook_k76_least_wide) (n:=63) (k:=65) (x := "_law_script") (CX:=L2.CX0) (sp:=D3.QZ) rfl (by decide) rfl ⟨rfl,by decide,by decide⟩ (λw h Y=>PySem.W.km_in_of Y) ?F D3.tabs (λw h Y=>XL.Wz (c:=132) (PySem.W.km_in_of Y) (PySem.W.km_tabs_of Y _ (ao)) (by kernel_rfl) (by kernel_rfl)) XL.S_ ?S ?C
 case F=>
  intro w mg fa h Z G X;have T:K76.Txt (L2.KOf Z) mg:=by
   constructor
   (case blt=>constructor<;>(refine' PySem.W.mg_none_of Z G ?z;(case z=>k_is)))
   all_goals try dsimp only[L2.KOf]
   all_goals first
    | (refine' D3.ah7 Z G ?b ?a ?l ?c ?k;(case a=>k_is);(case l=>k_is);(case c=>k_is);(case k=>k_is);(case b=>intro _ _ _ _ _ _;repeat(first|exact D3.len0 rfl|exact D3.len0 ⟨_,rfl,rfl⟩|refine D3.ap4 λ_=>?_)))
    | (refine' D3.ah8 Z G ?b ?a ?l ?c ?k;(case a=>k_is);(case l=>k_is);(case c=>k_is);(case k=>k_is);(case b=>exact λ_ _ _ _ _ _ u=>rfl))
    | (refine' XL.Z6 Z G ?b ?a ?l ?c ?k ?h ?t;(case a=>k_is);(case l=>k_is);(case c=>k_is);(case k=>k_is);(case h=>kernel_rfl);(case t=>exact ao);(case b=>intro _ _ _ _ _ _;repeat(first|exact D3.len0 rfl|exact D3.len0 ⟨_,rfl,rfl⟩|refine D3.ap4 λ_=>?_)))
    | (exact⟨_,PySem.W.mg_of Z G rfl⟩)
  obtain⟨f,fd,F,b,m⟩:=T.d_law.ex;have e0:=X.symm.trans m
  cases e0;exact⟨fd,b,λbase Q nb=>K76.ae1 T F⟩
 case S=>exact λK H a ns V R U=>⟨a,ns,R,rfl,U,V,λ_=>rfl⟩
 case C=>exact λ_ _ _ _ z=>z
