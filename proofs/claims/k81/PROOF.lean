import PyProof.Rows.All
import Wide.All
import OpenK.AllK
import Wide.FinOn
import Lean
import PyProof.EqAt
import PyProof.EqKinds
import PyProof.TupleCall
import PyProof.EqLayable
import KE.KDictList
import KE.KDictOf
import KE.KDictSum
import KE.KEqDict
import KE.KIntText
import KE.KIsAll
import KE.KMinBuiltin
import KE.KPairComp
import KE.KRevIter
import KE.KSortTup
import KE.KxText
import PyProof.AttrMissHeap
import PyProof.CallStr
import PyProof.DictTable
import PyProof.DictWalks
import PyProof.ExcAttrAll.ValueError
import PyProof.ExcBaseAll.ValueError
import PyProof.ExcClass2
import PyProof.ExcInit
import PyProof.FString5
import PyProof.InstStore
import PyProof.InstStoreFacts
import PyProof.NeKinds
import PyProof.NsDelKeeps
import PyProof.P3In
import PyProof.RaisesMany
import PyProof.Rows.CountFlat
import PyProof.Rows.SortRev
import PyProof.Rows.SortWalk
import PyProof.RulesAs
import PyProof.RulesTry
import PyProof.TupleOps
import PyProof.WalksMore
import PySem.Sem
import PySem.Challenge.RW_nightbook_k81_wishes_taken
set_option Elab.async false
set_option linter.all false
set_option maxRecDepth 100000
set_option maxHeartbeats 4000000
set_option exponentiation.threshold 40000
set_option genSizeOf false
set_option genSizeOfSpec false
set_option genInjectivity false
set_option bootstrap.genMatcherCode false
noncomputable section
open PySem renaming wpAny_bind->aa,wpAny_pure->af,wpAny_truthy_bool->ah,wpAny_mono->ai,wpAny_holding->ak,wpAny_callSpecial?_slot->am,wpAny_newObj_type->ar,wpAny_field->av,wpAny_passesOwn->aw,wpAny_Call_Name_kw->ay,wpAny_call_entry->az,tupleKind_room_in1->aE,wpAny_execs_nil->aT,wpAny_standAt->a_,wpAny_loadPart_at->bb,typeIs_str->bc,wpAny_typeOf->be,concat_meets->bg,codeAny_mono->bi,noFill_tuple_add->bn,wpAny_setField->bu,wpAny_rule->bv,call_meets->bx
open PySem.Heap renaming get?_push_of_some->ad,lt_size->ae,get?_push_size->ag,get?_none_of_le->aS,size_push->bj,get?_update_other->br,get?_update_self->bt
open PySem.SeqAt renaming canLay_of_shaped->ax
open PySem.BindsTo renaming of_defaults->aI
open PySem.Calls renaming Name_function_global->ba,callWith_builtin->bq
open PySem.F renaming slot_range_iterator_next->bp
open List renaming length_map->aG,getElem?_set_ne->aJ,mem_cons_of_mem->aL,mem_cons_self->aN,getElem?_eq_getElem->aO,getElem?_map->aR,replicate->aX,mem_append_right->bw,map_cons->bB,length_cons->bC,size_toArray->bF,map_append->bG,length_append->bH,mem_cons->bI,length_replicate->bK,getElem?_eq_none->bL,getElem?_eq_some_iff->bN,length_set->bT,getElem?_set_self->bV,mem_singleton->cg,getD_eq_getElem?_getD->cj,mem_of_getElem?->cA,range->cB,getElem?_append_left->cC,lookup_cons->cH,mem_append->cJ,getElem?_append_right->cL,nodup_cons->cU,mem_append_left->cV,replicate_succ->cY,mem_map->cZ,mem_filter->dw,length_filter_le->dG,getElem?_replicate->dI,append_nil->dN,mem_range->eF,set_cons_zero->eU,all_eq_true->eZ,nodup_append->fJ,map_map->fK,length_take->fU,getElem?_mapIdx->fX,flatten_cons->gB,getElem?_range->gM,pairwise_cons->gZ,set_cons_succ->g8,filter_append->h_,map_nil->iI,take_add_one->iK,take_length->jd,lookup->jg,take_of_length_le->jk,drop_of_length_le->jl,append_assoc->jF,getElem_mem->jZ,any_cons->kj,idxOf_lt_length_iff->kI,length_range->lH,length_drop->mH,filter_cons->mJ,getElem?_of_mem->mY,mem_of_mem_take->mZ,length_nil->nu,filterMap_cons->nG,map_congr_left->nH,getElem?_drop->oG,getElem?_eq_none_iff->oV,drop_eq_getElem_cons->oW,mem_take_iff_getElem->oX,map_drop->pC,not_mem_nil->pJ,cons_append->pK,getElem?_cons_succ->pL,drop_eq_nil_of_le->qj,of_mem_zip->qY,range_succ->rA,length_singleton->rH,mem_iff_getElem?->rJ,sum_cons->um,mem_filterMap->uG,length_mapIdx->uI,getElem_idxOf->uL,take_sublist->vf,getElem?_set->vg,ext_getElem?->vm,length->xM
open Nat renaming reduceLeDiff->ao,reduceEqDiff->aq,reduceAdd->aA,reduceLT->aB,le_refl->aQ,lt_of_lt_of_le->aZ,le_trans->bM,ne_of_lt->b_,pow_le_pow_right->dg,lt_irrefl->gQ,zero_add->iJ,zero_le->jh,lt_succ_self->jY,lt_or_ge->lG,le_succ->mX,le_of_lt->nM,lt_trans->nO,lt_of_le_of_lt->oF,gcd_comm->qm,succ->rQ,not_lt->uJ,gcd->Cj
open Int renaming reduceEq->aC,reduceLT->aD,reduceLE->aF,mul_le_mul_of_nonneg_right->cI,le_of_lt->dO,emod_lt_of_pos->eV,emod_nonneg->gF,mul_nonneg->g_,toNat_natCast->iH,mul_lt_mul_of_pos_right->jG,lt_of_mul_lt_mul_right->jN,mul_assoc->kE,le_refl->k_,zero_add->nP,zero_mul->nQ,le_trans->qg,sub_zero->vh,mul_comm->vo,add_zero->vp
open Option renaming bind_some->aH,some->dB,map_eq_some_iff->gO,isSome_map->o7,map_some->q_,isSome_none->uF,isSome_some->uK
open Bool renaming and_eq_true->aM,false_ne_true->cX,not_true->iY,false_eq_true->oA,false_and->oE,true_and->uh
open Array renaming length_toList->dU,getElem?_toList->rK,mem_toList_iff->rP,find?_toList->uH
open And renaming intro->bz
open PySem renaming Shared->bE,Program->bP,Around->bX,World->b8,FuncData->ca,Heap->cc,Stmt->cm,Scope->db,Keyword->dQ,IsPart->d1,GenState->ee,CmpOp->eg
open PySem.PyData renaming int->bS,canLay0->cf,canLayAll0->cr,eqv->cK,depth->da,depthAll->dc,str->de,tuple->di,bool->dt,strOk->du,dict->d7,eqvAll->eh,list->ev
open PySem.PassesOwn renaming never->b9
open PySem.Value renaming ref->cb,bool->c_,none->df,str->dy,int->dS
open Ne renaming symm->ce
open PySem.NameKind renaming free->ci,cell->dm
open False renaming elim->ck
open PySem.SeqAt renaming shaped->cq
open True renaming intro->cv
open PyProof.Rows renaming slot_tuple_getitem->cw,boot_sum->cz,callWith_type1->cE,boot_abs->dE,AllBare->d8,boot_list->ey,boot_bool->ez
open ForInStep renaming yield->cy
open PySem.Builtin.Slice renaming slicePlaces->cS,sliceAdjust->dr
open PySem.Builtin.Tuple renaming tupleExact->c0,tupleItemsOf->ei
open PySem.Heap renaming SameBut->dv,ExtBut->ec
open PySem.Str renaming ofString->dA
open Classical renaming choose_spec->dL
open PySem.Heap.SameBut renaming update->dP
open Sum renaming inl->eb
open PySem.Builtin.List renaming listTooLong->et
open PySem.Obj renaming mapSeq->eu
open PySem PySem.Spec PyProof.Rows
theorem dTr{p:Prop}[Decidable p](h:p):decide p=true:=decide_eq_true h
theorem dFa{p:Prop}[Decidable p](h:¬p):decide p=false:=decide_eq_false h
theorem lMp{α β:Type}{f:α->β}{l:List α}:(l.map f).length=l.length:=aG f

namespace L2
def Hq(A:bX)(O:cc):Prop:=A.handled=none\/∃h o C vs,A.handled=some (.ref h)/\O.get? h=some o/\o.cls = .ref C/\o.data = .fields vs/\vs[2]? = some .none
theorem Hq.keep{A:bX}{Y O:cc}(q:Hq A Y)(k:∀h o C,o.cls = .ref C->Y.get? h=some o->O.get? h=some o):Hq A O:=by
 rcases q with q|⟨h,o,C,vs,W,X,Z,e4⟩
 ·exact .inl q
 ·exact .inr ⟨h,o,C,vs,W,k h o C Z X,Z,e4⟩
theorem NK{Y:cc}{it h:Addr}{O o:Obj}{C:Addr}{T:String}(e1:Y.get? it=some O)(c1:O.cls = .type T)(Z:Y.get? h=some o)(c2:o.cls = .ref C):h≠it:=λz=>by
 rw[z,e1]at Z
 cases Z;rw[c1]at c2
 cases c2
theorem Af:entryFor table "proto.unchain"=some Builtin.«proto.unchain»:=by first|exact entryFor_of_fast (by kernel_rfl)|exact entryFor_of_tree (by kernel_rfl)
section
variable{prog:bP}{w:b8}{A:bX}{E:Value->bE->Prop}{s:bE}
theorem G9{α:Type}{Q:α->bE->Prop}{a:Addr}{oe:Obj}{vs:Array Value}(Y:Hq A s.heap)(O:s.heap.get? a=some oe)(hd:oe.data = .fields vs)(hz:2<vs.size)(hT:∀C,oe.cls ≠ .ref C)
 (h:∀h' o',dv a s.heap h'->h'.get? a=some o'->o'.cls=oe.cls->E (.ref a) {s with heap:=h'}):wpAny (model prog w) A (raiseNew (.ref a):Sem α) Q E s:=by
 simp only[raiseNew];refine aa (wpAny_handled ?_);rcases Y with Y|⟨b,o,C,ws,W,Z,X,e4,e5⟩
 ·rw[Y];exact aa (af (wpAny_throw (h _ _ ⟨rfl,λ_ _=>rfl⟩ O rfl)))
 ·rw[W];dsimp only;rw[if_pos (by
   rw[bne_iff_ne];intro z;injection z with z
   rw[z,O]at Z
   cases Z;exact hT C X)]
  refine aa (ak (runValue_entry Af ?_));unfold Builtin.«proto.unchain»;refine aa (av Z e4 e5 ?_);refine af ⟨_,rfl,?_⟩;exact aa (bu O hd hz (wpAny_throw (h _ _ (dP ..) (bt _ O (Obj.isFreed_of_fields (Obj.data_mapFields hd _))) (Obj.cls_mapFields ..))))
theorem G_{α:Type}{Q:α->bE->Prop}(O:Hq A s.heap)(h:∀a h',s.heap.objs.size<=a->(∀b o,s.heap.get? b=some o->h'.get? b=some o)->(∃o,h'.get? a=some o/\o.cls = .type "StopIteration")->E (.ref a) {s with heap:=h'}):
 wpAny (model prog w) A (newExc (.type "StopIteration") [] >>= λe=>(raiseNew e:Sem α)) Q E s:=by
 refine aa ?_;simp only[newExc,newTuple];refine aa (ar ?_ (by size_fits));refine aa (m:=firstArgMember _ _) (wpAny_of_eq (a:=df) (by first|rfl|(simp only[firstArgMember];rfl)) ?_);refine ar ?_ (by size_fits);refine G9 (O.keep λ_ _ _ _ e=>ad _ (ad _ e)) (ag _ rfl) rfl (by simp;omega) (λC z=>by cases z) λh' o' Z X Y=>h _ _ (by simp[Heap.push]) (λb o e=>(Z.2 b ?_).trans (ad _ (ad _ e))) ⟨o',X,Y⟩
 exact b_ (aZ (ae e) (by simp[Heap.push]))
theorem wH{α:Type}{Q:Option Value->bE->Prop}{Q0:α->bE->Prop}{O:bX}(Y:Hq O s.heap)(Z:∀h',(∀b o,s.heap.get? b=some o->h'.get? b=some o)->Q none {s with heap:=h'}):
 wpAny (model prog w) O (newExc (.type "StopIteration") [] >>= λe=>(raiseNew e:Sem α)) Q0 (λe s'=>wpAny (model prog w) A (do if <-isInstance e (.type "StopIteration")then pure none else throw e) Q E s') s:=
 G_ Y λa h' _ k ⟨o,W,X⟩=>aa (wpAny_isInstance (T := "StopIteration") (b:=true) ⟨o,W,X⟩ isSubtype_stop (af (Z h' k)))
theorem NP{it:Addr}{o:Obj}{T:String}{f:Obj->Obj}(Y:Hq A s.heap)(O:s.heap.get? it=some o)(hc:o.cls = .type T):Hq A (s.heap.update it f):=
 Y.keep λh o' C c e=>((dP ..).2 h (NK O hc e c)).trans e
theorem JB{it:Addr}{f:Obj->Obj}{h h':cc}(k:∀b o,(h.update it f).get? b=some o->h'.get? b=some o):ec it h h':=λb o hb e=>k b o (((dP ..).2 b hb).trans e)
theorem Bd{it l:Addr}{i:Nat}{items}{Q:Option Value->bE->Prop}(hh:Hq A s.heap)(O:s.heap.IsListIter it l i)(hl:s.heap.IsList l items)(hx:items[i]? = none)
 (hQ:∀h',ec it s.heap h'->Q none {s with heap:=h'}):wpAny (model prog w) A (pyNext (.ref it)) Q E s:=by
 obtain⟨o,Z,hc,hd⟩:=id O;obtain⟨W,Y,_,nl,X⟩:=hl;refine aa (wpAny_attempt (am (name:=dA "__next__") O.typeIs slot_listiter_next (az slot_listiter_next O.typeIs entry_listiter_next ?_ (args_listiter_next _))));refine aa (m:=field (.ref it) 0) (av Z hd (x:=.ref l) rfl ?_);refine aa (m:=field (.ref it) 1) (av Z hd (x:=.int i 0) rfl ?_);refine aa (m:=seqItems? (.ref l)) (wpAny_seqItems Y X ?_);simp only[iH,hx];exact aa (bv (aa (bu Z hd (by simp) (wH (NP hh Z hc) λh' k=>hQ h' (JB k)))))
theorem Er{it t:Addr}{i:Nat}{items}{Q:Option Value->bE->Prop}(hh:Hq A s.heap)(O:IsTupIter s.heap it t i)(ht:IsTup s.heap t items)(hx:items[i]? = none)
 (hQ:∀h',ec it s.heap h'->Q none {s with heap:=h'}):wpAny (model prog w) A (pyNext (.ref it)) Q E s:=by
 obtain⟨o,Z,hc,hd⟩:=id O;obtain⟨W,Y,_,nl,X⟩:=ht;refine aa (wpAny_attempt (am (name:=dA "__next__") O.typeIs slot_tupleiter_next (az slot_tupleiter_next O.typeIs entry_tupleiter_next ?_ (args_tupleiter_next _))));refine aa (m:=field (.ref it) 0) (av Z hd (x:=.ref t) rfl ?_);refine aa (m:=field (.ref it) 1) (av Z hd (x:=.int i 0) rfl ?_);refine aa (m:=seqItems? (.ref t)) (wpAny_seqItems Y X ?_);simp only[iH,hx];exact aa (bv (aa (bu Z hd (by simp) (wH (NP hh Z hc) λh' k=>hQ h' (JB k)))))
theorem Hf{it:Addr}{x left step:Int}{Q:Option Value->bE->Prop}(Z:Hq A s.heap)(O:IsRangeIter s.heap it x left step)(Y:left<=0)
 (hQ:∀h',ec it s.heap h'->Q none {s with heap:=h'}):wpAny (model prog w) A (pyNext (.ref it)) Q E s:=by
 have hT:s.TypeIs (.ref it) "range_iterator" := ⟨_,O,rfl⟩;refine aa (wpAny_attempt (am (name:=dA "__next__") hT bp (az bp hT F.entry_range_iterator_next ?_ (F.args_range_iterator_next_1 _))));refine aa (m:=field (.ref it) 0) (av O rfl (x:=rawInt x) rfl ?_);refine aa (m:=field (.ref it) 1) (av O rfl (x:=rawInt left) rfl ?_);refine aa (m:=field (.ref it) 2) (av O rfl (x:=rawInt step) rfl ?_);show wpAny _ _ (if left<=0 then _ else _) _ _ s;rw[if_pos Y];exact aa (bv (aa (wH Z λh' k=>hQ h' λb o _ e=>k b o e)))
theorem Sd{env:Env}{elts:List Expr}{x1}{pos:Pos}{t:Addr}{items:Array Value}{Q:Unit->bE->Prop}(hh:Hq A s.heap)(ht:IsTup s.heap t items)
 (hn:(assignEach elts env).length=items.size) (O:(assignEach elts env).findIdx? (·.1)=none)
 (hQ:∀h',ec s.heap.objs.size s.heap h'->wpAny (model prog w) A (assignInOrder ((assignEach elts env).map (·.2)) items.toList) Q E {s with heap:=h'}) :
 wpAny (model prog w) A (assign (.Tuple elts x1 pos) env (.ref t)) Q E s:=by
 rw[assign_Tuple];refine aa (a_ ?_);unfold unpack;rw[hn,O];refine aa (ak ?_);have V:t≠s.heap.objs.size:=by obtain⟨o,T,_⟩:=ht;exact b_ (ae T)
 refine aa (aa (wpAny_specialOf ht.typeIs slot_tuple_iter.lookup (af ?_)));simp only[oA,if_false];refine aa (ak (iter_tuple ht ?_));refine aa (ak (draw_tuple V items.size 0 _ _ ⟨_,ag _ rfl,rfl,rfl⟩ (ht.push _) (by omega) λU Y Z=>?_));rw[List.drop_zero,jk (by simp),if_neg (by simp)];refine aa (ak (Er (hh.keep λh o C c e=>Z.extBut h o (b_ (ae e)) (ad _ e)) Y ((ht.push _).extBut Z.extBut V) (by simp) λW X=>?_));simp only[uF,oA,if_false];exact af (hQ W λb o hb e=>X b o hb (Z.extBut b o hb (ad _ e)))
end
end L2
namespace L2
abbrev Key:=Sum Int Str
noncomputable def yN:Key->Value->Bool
 | .inl k,v=>Value.isInt k v
 | .inr x,v=>Value.isStrOf x v
def ah6(w:b8):Key->Int
 | .inl k=>hashInt k
 | .inr x=>hashStr w x
theorem gR:∀{k:Key}{v:Value},yN k v=true->(∃i t,k=eb i/\v=dS i t)\/(∃x t,k=Sum.inr x/\v=dy x t)
 | .inl i,v,h=>by
  obtain⟨t,e⟩:=Value.isInt_shape (k:=i) (v:=v) h;exact .inl ⟨i,t,rfl,e⟩
 | .inr x,v,h=>by
  obtain⟨t,e⟩:=Value.isStrOf_shape (x:=x) (v:=v) h;exact .inr ⟨x,t,rfl,e⟩
theorem Lf(i:Int)(t:Tok):yN (.inl i) (.int i t)=true:=by simp[yN,Value.isInt]
theorem Lg(x:Str)(t:Tok):yN (.inr x) (.str x t)=true:=by simp[yN,Value.isStrOf]
theorem Ws(a b:Int):decide ((eb a:Key)=eb b)=(a==b):=by
 by_cases e:a=b
 ·subst e;simp
 ·have h:¬(eb a:Key)=eb b:=λq=>e (Sum.inl.inj q)
  rw[dFa h];exact(beq_eq_false_iff_ne.mpr e).symm
theorem Wu(a b:Str):decide ((Sum.inr a:Key)=Sum.inr b)=decide (a=b):=by
 by_cases e:a=b
 ·subst e;simp
 ·have h:¬(Sum.inr a:Key)=Sum.inr b:=λq=>e (Sum.inr.inj q)
  rw[dFa h,dFa e]
theorem Wv(a:Int)(b:Str):decide ((eb a:Key)=Sum.inr b)=false:=dFa (λq=>nomatch q)
theorem Ww(a:Str)(b:Int):decide ((Sum.inr a:Key)=eb b)=false:=dFa (λq=>nomatch q)
def iz(prog:bP)(w:b8):PySem.KeyKind prog w Key where
 is:=yN
 hash:=ah6 w
 inj:=λv a b ha hb=>by
  rcases gR ha with⟨i,t,rfl,rfl⟩|⟨x,t,rfl,rfl⟩
  ·rcases gR hb with⟨j,u,rfl,e⟩|⟨y,u,rfl,e⟩
   ·injection e with Z _;rw[Z]
   ·exact nomatch e
  ·rcases gR hb with⟨j,u,rfl,e⟩|⟨y,u,rfl,e⟩
   ·exact nomatch e
   ·injection e with Z _;rw[Z]
 byValue:=λk v h=>by
  rcases gR h with⟨i,t,rfl,rfl⟩|⟨x,t,rfl,rfl⟩<;>rfl
 pyHash:=λY h=>by
  rcases gR Y with⟨i,t,rfl,rfl⟩|⟨x,t,rfl,rfl⟩
  ·exact wpAny_pyHash_int h
  ·exact wpAny_pyHash_str h
 eqBool:=λX Y h=>by
  rcases gR X with⟨i,t,rfl,rfl⟩|⟨x,t,rfl,rfl⟩
  ·rcases gR Y with⟨j,u,rfl,rfl⟩|⟨y,u,rfl,rfl⟩
   ·rw[Ws]at h;exact wpAny_eqBool_int h
   ·rw[Wv]at h;exact SeqAt.EqAt.int_str i t y u _ _ _ _ h
  ·rcases gR Y with⟨j,u,rfl,rfl⟩|⟨y,u,rfl,rfl⟩
   ·rw[Ww]at h;exact SeqAt.EqAt.str_int x t j u _ _ _ _ h
   ·rw[Wu]at h;exact wpAny_eqBool_str h
 «strs»:=λk x t v h=>by
  rcases gR h with⟨i,u,rfl,e⟩|⟨y,u,rfl,e⟩
  ·exact nomatch e
  ·injection e with Z _
   subst Z
   cases v<;>rfl
theorem Hg(prog:bP)(w:b8)(k:Key)(v:Value):(iz prog w).is k v=yN k v:=rfl
theorem Es(prog:bP)(w:b8)(i:Int)(t:Tok):(iz prog w).is (.inl i) (.int i t)=true:=Lf i t
theorem Et(prog:bP)(w:b8)(x:Str)(t:Tok):(iz prog w).is (.inr x) (.str x t)=true:=Lg x t
end L2
namespace L2
inductive V where
 |non|bl (b:Bool)|int (i:Int)|str (x:Str)|byt (b:Array UInt8)|flt (b:UInt64)|ref (a:Addr)|ty (n:String)
 deriving DecidableEq
def RelV:V->Value->Prop
 | .non,u=>u=df
 | .bl b,u=>u=c_ b
 | .int i,u=>∃t,u=dS i t
 | .str x,u=>∃t,u=dy x t
 | .byt b,u=>∃t,u=Value.bytes b t
 | .flt b,u=>∃t,u=Value.float b t
 | .ref a,u=>u=cb a
 | .ty n,u=>u=Value.type n
abbrev Vals:List V->List Value->Prop:=Paired RelV
theorem Vals.length{xs:List V}{us:List Value}(r:Vals xs us):xs.length=us.length:=Paired.length r
theorem Vals.get:∀{xs:List V}{us:List Value}{i:Nat}{x:V},Vals xs us->xs[i]? = some x->∃u,us[i]? = some u/\RelV x u
 |_,_,_,_,.nil,e=>by simp at e
 |_,_,0,_,.cons r _,e=>by simp at e;subst e;exact⟨_,rfl,r⟩
 |_,_,i+1,x,.cons _ t,e=>by
  obtain⟨u,h1,h2⟩:=Vals.get (i:=i) (x:=x) t (by simpa using e);exact⟨u,by simpa using h1,h2⟩
theorem Vals.set{x:V}{u:Value}(r:RelV x u):∀{xs:List V}{us:List Value}(i:Nat),Vals xs us->Vals (xs.set i x) (us.set i u)
 |_,_,_,.nil=>.nil
 |_,_,0,.cons _ t=>.cons r t
 |_,_,i+1,.cons q t=>.cons q (Vals.set r i t)
theorem Vals.append:∀{xs ys:List V}{us ws:List Value},Vals xs us->Vals ys ws->Vals (xs++ys) (us++ws)
 |_,_,_,_,.nil,s=>s
 |_,_,_,_,.cons r t,s=>.cons r (Vals.append t s)
theorem Vals.take:∀{xs:List V}{us:List Value}(n:Nat),Vals xs us->Vals (xs.take n) (us.take n)
 |_,_,0,_=>.nil
 |_,_,_+1,.nil=>.nil
 |_,_,n+1,.cons r t=>.cons r (Vals.take n t)
theorem Vals.drop:∀{xs:List V}{us:List Value}(n:Nat),Vals xs us->Vals (xs.drop n) (us.drop n)
 |_,_,0,r=>r
 |_,_,_+1,.nil=>.nil
 |_,_,n+1,.cons _ t=>Vals.drop n t
theorem Vals.none_of:∀{xs:List V}{us:List Value}{i:Nat},Vals xs us->xs[i]? = none->us[i]? = none:=λ{xs us i} r e=>by
 have h1:=r.length;have h2:xs.length<=i:=oV.mp e;exact oV.mpr (by omega)
def rR:Option V->Option Value->Prop
 |some v,some u=>RelV v u
 |none,none=>True
 |_,_=>False
def KV{κ:Type}:List (κ×V)->List (κ×Value)->Prop:=Paired λ(p:κ×V)(q:κ×Value)=>p.1=q.1/\RelV p.2 q.2
def kV:Key->V
 | .inl i=>.int i
 | .inr x=>.str x
inductive HO where
 |lst (xs:List V)
 |tup (xs:List V)
 |dK (kvs:List (Key×V))|dT (kvs:List (List Key×V))
 |set (S:Int->Bool) (n:Nat)
 |ins (C dx:Addr) (fs:List (Str×V))
 |own (x:Addr)
 |xd (fs:List (Str×V))
 |met (f x:Addr)
 |rng (lo hi:Int)
 |frz (o:Obj) (u:HO)
 |tbl (q:Str) (p:Pos)
 |ext (φ:cc->Prop)
noncomputable abbrev Hp:=Addr->Option HO
noncomputable def upd(H:Hp)(a:Addr)(o:HO):Hp:=λb=>if b=a then some o else H b
theorem cM{H:Hp}{a:Addr}{o:HO}:upd H a o a=some o:=by unfold upd;rw[if_pos rfl]
theorem bW{H:Hp}{a b:Addr}{o:HO}(h:b≠a):upd H a o b=H b:=by unfold upd;rw[if_neg h]
theorem jH{H:Hp}{a b:Addr}{o u:HO}(h:H a=some o)(h':H b=some u)(d:o≠u):a≠b:=by
 intro e;subst e;rw[h]at h';exact d (dB.inj h')
theorem mK{H:Hp}{a b:Addr}{o:HO}(h:H a=some o)(h':H b=none):a≠b:=by
 intro e;subst e;rw[h]at h';cases h'
section
variable(P:bP)(w:b8)
def iM(H:Hp)(h:cc)(a:Addr):HO->Prop
 | .lst xs=>xs.length<=sizeLine/\∃(its:List Value)(n:Nat),Vals xs its/\h.get? a=some {cls:=.type "list", data:=.seq its.toArray n}
 | .tup xs=>xs.length<=sizeLine/\∃its:List Value,Vals xs its/\IsTup h a its.toArray
 | .dK kvs=>kvs.length<=sizeLine/\(a==sysModules)=false/\∃vs,KV kvs vs/\h.DictOf (iz P w) a vs
 | .dT kvs=>kvs.length<=sizeLine/\(a==sysModules)=false/\∃xs:List (List Key×Addr×Value),
  Paired (λ(p:List Key×V)(q:List Key×Addr×Value)=>p.1=q.1/\H q.2.1=some (.tup (p.1.map kV))/\RelV p.2 q.2.2) kvs xs /\
  ∃o es Z,h.get? a=some o/\o.ExactDict/\o.data = .dict es Z/\es.toList=xs.map (entryOfKey (tupleKind (iz P w)))/\(xs.map (·.1)).Nodup
 | .set S n=>h.SetOf (intKind P w) a S n
 | .ins C dx fs=>H dx=some (.own a)/\fs.length<=1000/\dx≠a/\h.get? a=some (PySem.W.instObj C dx) /\
  ∃mA,h.Ns1 dx mA/\(∀f,rR (fs.lookup f) (mA f))/\PySem.Within mA (fs.map (·.1))
 | .own _=>∃o,h.get? a=some o
 | .xd fs=>∃mA,h.Ns1 a mA/\∀f,rR (fs.lookup f) (mA f)
 | .rng lo hi=>∃t u v,h.get? a=some {cls:=.type "range", data:=.fields #[.int lo t,.int hi u,.int 1 v]}
 | .frz o u=>h.get? a=some o/\iM H h a u
 | .tbl q p=>∃ps,h.get? a=some {cls:=.none,data:=.fields ps}/\(ps = #[]\/∃c',ps = #[rawInt p.line,rawInt p.col,.ref c']/\H c'=some (.own a)/\h.CodeRec (.ref c') q)
 | .met f x=>h.get? a=some (PySem.W.methodObj (.ref f) (.ref x))
 | .ext φ=>φ h/\(∃o,h.get? a=some o)/\∀h1 h2:cc,φ h1->(∀o,h1.get? a=some o->h2.get? a=some o)->φ h2
def HOk(H:Hp)(h:cc):Prop:=∀a o,H a=some o->iM P w H h a o
end
section
variable{P:bP}{w:b8}{H H':Hp}{h h':cc}{a:Addr}{o:HO}
theorem iM.lt(x:iM P w H h a o):a<h.objs.size:=by
 cases o with
 |lst xs=>obtain⟨_,_,_,_,e⟩:=x;exact ae e
 |tup xs=>obtain⟨_,_,_,p⟩:=x;exact p.lt
 |dK kvs=>obtain⟨_,_,_,_,o,_,_,e,_⟩:=x;exact ae e
 |dT kvs=>obtain⟨_,_,_,_,o,_,_,e,_⟩:=x;exact ae e
 |set S n=>obtain⟨o,_,_,_,e,_⟩:=x;exact ae e
 |ins C dx fs=>obtain⟨_,_,_,e,_⟩:=x;exact ae e
 |own y=>obtain⟨_,e⟩:=x;exact ae e
 |xd fs=>obtain⟨_,⟨_,_,_,e,_⟩,_⟩:=x;exact ae e
 |rng lo hi=>obtain⟨_,_,_,e⟩:=x;exact ae e
 |frz Z u=>obtain⟨e,_⟩:=x;exact ae e
 |tbl q p=>obtain⟨_,e,_⟩:=x;exact ae e
 |met f y=>exact ae (show h.get? a=some _ from x)
 |ext φ=>obtain⟨_,⟨_,e⟩,_⟩:=x;exact ae e
theorem Paired.mapP{α β:Type}{F G:α->β->Prop}:∀{Y:List α}{O:List β},Paired F Y O->(∀a b,F a b->G a b)->Paired G Y O
 |_,_,.nil,_=>.nil
 |_,_,.cons r t,f=>.cons (f _ _ r) (Paired.mapP t f)
theorem iM.stay(x:iM P w H h a o)(k:∀b u,(b=a\/H b=some (.own a))->h.get? b=some u->h'.get? b=some u)
 (O:∀b,H b=some (.own a)->H' b=some (.own a)) (ht:∀b xs,H b=some (.tup xs)->H' b=some (.tup xs)):iM P w H' h' a o:=by
 induction o with
 |lst xs=>obtain⟨z,its,n,r,e⟩:=x;exact⟨z,its,n,r,k _ _ (.inl rfl) e⟩
 |tup xs=>obtain⟨z,its,r,Z,e,c⟩:=x;exact⟨z,its,r,Z,k _ _ (.inl rfl) e,c⟩
 |dK kvs=>obtain⟨z,y,vs,r,Z,es,Y,e,c⟩:=x;exact⟨z,y,vs,r,Z,es,Y,k _ _ (.inl rfl) e,c⟩
 |dT kvs=>
  obtain⟨z,y,xs,r,Z,es,Y,e,c⟩:=x;exact⟨z,y,xs,Paired.mapP r λp q z=>⟨z.1,ht _ _ z.2.1,z.2.2⟩,Z,es,Y,k _ _ (.inl rfl) e,c⟩
 |set S n=>obtain⟨Z,es,Y,t,e,c⟩:=x;exact⟨Z,es,Y,t,k _ _ (.inl rfl) e,c⟩
 |ins C dx fs=>
  obtain⟨d,z,ne,e,mA,⟨od,es,Y,M,c⟩,r⟩:=x;exact⟨O _ d,z,ne,k _ _ (.inl rfl) e,mA,⟨od,es,Y,k _ _ (.inr d) M,c⟩,r⟩
 |own y=>obtain⟨Z,e⟩:=x;exact⟨Z,k _ _ (.inl rfl) e⟩
 |xd fs=>obtain⟨mA,⟨od,es,Y,e,c⟩,r⟩:=x;exact⟨mA,⟨od,es,Y,k _ _ (.inl rfl) e,c⟩,r⟩
 |rng lo hi=>obtain⟨t,u,v,e⟩:=x;exact⟨t,u,v,k _ _ (.inl rfl) e⟩
 |frz Z u N=>obtain⟨e,q⟩:=x;exact⟨k _ _ (.inl rfl) e,N q⟩
 |tbl q p=>
  obtain⟨ps,e,z⟩:=x;refine⟨ps,k a _ (.inl rfl) e,?_⟩;rcases z with z|⟨c',R,U,T⟩
  ·exact .inl z
  ·obtain⟨c,oc,vs,Q,hc,X,W,hq⟩:=T;have V:c'=c:=by injection hc
   exact .inr ⟨c',R,O _ U,c,oc,vs,Q,hc,k _ _ (.inr (V▸U)) X,W,hq⟩
 |met f y=>
  have e:=x;exact k a _ (.inl rfl) e
 |ext φ=>obtain⟨p,⟨o,e⟩,st⟩:=x;exact⟨st _ _ p λo q=>k _ _ (.inl rfl) q,⟨o,k _ _ (.inl rfl) e⟩,st⟩
theorem HOk.lt(x:HOk P w H h)(e:H a=some o):a<h.objs.size:=(x a o e).lt
theorem HOk.fresh(x:HOk P w H h)(e:h.objs.size<=a):H a=none:=by
 cases q:H a with
 |none=>rfl
 |some u=>exact absurd (aZ (x.lt q) e) (gQ _)
theorem HOk.kept(x:HOk P w H h)(k:∀b u,h.get? b=some u->h'.get? b=some u):HOk P w H h':=λa o e=>
 (x a o e).stay (λb u _ q=>k b u q) (λ_ q=>q) λ_ _ q=>q
theorem HOk.laid(x:HOk P w H h)(k:∀b u,h.get? b=some u->h'.get? b=some u)(O:h.objs.size<=a)(new:iM P w (upd H a o) h' a o):HOk P w (upd H a o) h':=λb u e=>by
 have hn:=x.fresh O;by_cases hb:b=a
 ·subst hb;rw[cM]at e;cases e;exact new
 ·rw[bW hb]at e;exact(x b u e).stay (λc v _ q=>k c v q) (λc q=>by rwa[bW (mK q hn)]) λc xs q=>by rwa[bW (mK q hn)]
end
def Rd(H:Hp)(a:Addr)(u:HO):Prop:=H a=some u\/∃o,H a=some (.frz o u)
theorem Rd.of{H:Hp}{a:Addr}{u:HO}(h:H a=some u):Rd H a u:=.inl h
theorem Rd.ok{P:bP}{w:b8}{H:Hp}{h:cc}{a:Addr}{u:HO}(r:Rd H a u)(x:HOk P w H h):iM P w H h a u:=by
 rcases r with r|⟨o,r⟩
 ·exact x a u r
 ·obtain⟨_,q⟩:=x a _ r;exact q
def Mut:Option HO->Prop
 |some (.lst _)=>True
 |some (.dK _)=>True
 |some (.dT _)=>True
 |some (.set _ _)=>True
 |some (.ins _ _ _)=>True
 |some (.ext _)=>True
 |_=>False
section
variable{P:bP}{w:b8}{H:Hp}{h h':cc}{x e:Addr}{o':HO}
theorem HOk.write(ok:HOk P w H h)(O:Mut (H x))(he:e=x\/H e=some (.own x))(k:∀b u,b≠e->h.get? b=some u->h'.get? b=some u)(heo:∃u,h'.get? e=some u)
 (new:iM P w (upd H x o') h' x o'):HOk P w (upd H x o') h':=λb u q=>by
 have Y:∀c y,H c=some (.own y)->c≠x:=λc y r z=>by subst z;rw[r]at O;exact O
 have X:∀c xs,H c=some (.tup xs)->c≠x:=λc xs r z=>by subst z;rw[r]at O;exact O
 by_cases hb:b=x
 ·subst hb;rw[cM]at q;cases q;exact new
 ·rw[bW hb]at q;by_cases Z:b=e
  ·have W:H b=some (.own x):=by
    rcases he with z|z
    ·exact absurd (Z.trans z) hb
    ·rwa[Z]
   rw[q]at W;cases W;obtain⟨v,V⟩:=heo;exact⟨v,by rwa[Z]⟩
  ·refine(ok b u q).stay (λc v hc r=>k c v ?_ r) (λc r=>by rwa[bW (Y c b r)]) λc xs r=>by rwa[bW (X c xs r)]
   rcases hc with rfl|hc
   ·exact Z
   ·rintro rfl;rcases he with z|z
    ·exact Y c b hc z
    ·rw[hc]at z;cases z;exact hb rfl
end
structure Un(fs ex:List Addr)(H H':Hp)(h h':cc):Prop where
 keep:∀b o,h.get? b=some o->H b=none->b∉fs->b∉ex->h'.get? b=some o
 slot:∀b o,h.get? b=some o->H b=none->b∈fs->b∉ex->∃sl,h'.get? b=some {o with slots:=sl}
 free:∀b o,h.get? b=some o->H b=none->b∉ex->H' b=none
 there:∀b o,h.get? b=some o->b∉ex->∃o',h'.get? b=some o'
 tups:∀b xs,H b=some (.tup xs)->H' b=some (.tup xs)
 frzs:∀b o u,H b=some (.frz o u)->H' b=some (.frz o u)
 tbls:∀b q p,H b=some (.tbl q p)->H' b=some (.tbl q p)
section
variable{fs fs' ex ex':List Addr}{H H1 H2:Hp}{h h1 h2 h':cc}{a x e:Addr}{o:HO}
theorem Un.any(u:Un fs ex H H1 h h1){b:Addr}{O:Obj}(q:h.get? b=some O)(n:H b=none)(hx:b∉ex):∃sl,h1.get? b=some {O with slots:=sl}:=by
 by_cases hb:b∈fs
 ·exact u.slot b O q n hb hx
 ·exact⟨O.slots,u.keep b O q n hb hx⟩
theorem Un.trans(a:Un fs ex H H1 h h1)(b:Un fs ex H1 H2 h1 h2):Un fs ex H H2 h h2 where
 keep:=λc Z q n hc hx=>b.keep c Z (a.keep c Z q n hc hx) (a.free c Z q n hx) hc hx
 slot:=λc Z q n hc hx=>by
  obtain⟨sl,Y⟩:=a.slot c Z q n hc hx;obtain⟨X,W⟩:=b.slot c _ Y (a.free c Z q n hx) hc hx;exact⟨X,W⟩
 free:=λc Z q n hx=>by
  obtain⟨o',Y⟩:=a.there c Z q hx;exact b.free c o' Y (a.free c Z q n hx) hx
 there:=λc Z q hx=>by
  obtain⟨o',Y⟩:=a.there c Z q hx;exact b.there c o' Y hx
 tups:=λc xs q=>b.tups c xs (a.tups c xs q)
 frzs:=λc Z xs q=>b.frzs c Z xs (a.frzs c Z xs q)
 tbls:=λc q p e=>b.tbls c q p (a.tbls c q p e)
theorem Un.kept(k:∀b u,h.get? b=some u->h'.get? b=some u):Un fs ex H H h h':=
 ⟨λb Z q _ _ _=>k b Z q,λb Z q _ _ _=>⟨Z.slots,k b Z q⟩,λ_ _ _ n _=>n,λb Z q _=>⟨Z,k b Z q⟩,λ_ _ q=>q,λ_ _ _ q=>q,λ_ _ _ q=>q⟩
theorem Un.refl:Un fs ex H H h h:=Un.kept λ_ _ q=>q
theorem Un.laid(k:∀b u,h.get? b=some u->h'.get? b=some u)(O:h.objs.size<=a)(hn:H a=none):Un fs ex H (upd H a o) h h' where
 keep:=λb u q _ _ _=>k b u q
 slot:=λb u q _ _ _=>⟨u.slots,k b u q⟩
 free:=λb u q n _=>by rwa[bW (b_ (aZ (ae q) O))]
 there:=λb u q _=>⟨u,k b u q⟩
 tups:=λb xs q=>by rwa[bW (mK q hn)]
 frzs:=λb u xs q=>by rwa[bW (mK q hn)]
 tbls:=λb q p e=>by rwa[bW (mK e hn)]
theorem Un.write(O:Mut (H x))(he:e=x\/H e=some (.own x))(k:∀b u,b≠e->h.get? b=some u->h'.get? b=some u)(Y:∃u,h'.get? e=some u):Un fs ex H (upd H x o) h h':=by
 have hx:∀b,H b=none->b≠x:=λb n z=>by subst z;rw[n]at O;exact O
 have hb:∀b,H b=none->b≠e:=λb n z=>by
  subst z;rcases he with r|r
  ·exact hx b n r
  ·rw[n]at r;cases r
 have hm:∀b u,H b=some u->¬Mut (some u)->b≠x:=λb u q nm z=>by subst z;rw[q]at O;exact nm O
 refine⟨λb u q n _ _=>k b u (hb b n) q,λb u q n _ _=>⟨u.slots,k b u (hb b n) q⟩,λb u q n _=>by rwa[bW (hx b n)],λb u q _=>?_,
  λb xs q=>by rwa[bW (hm b _ q λz=>z)],λb u xs q=>by rwa[bW (hm b _ q λz=>z)],λb q p e=>by rwa[bW (hm b _ e λz=>z)]⟩
 by_cases Z:b=e
 ·subst Z;exact Y
 ·exact⟨u,k b u Z q⟩
theorem Un.mono(u:Un fs ex H H1 h h1)(hs:∀b∈fs,b∈fs')(hx:∀b∈ex,b∈ex'):Un fs' ex' H H1 h h1:=
 ⟨λb Y q n hb Z=>u.keep b Y q n (λz=>hb (hs b z)) λz=>Z (hx b z),λ_ _ q n _ Z=>u.any q n λz=>Z (hx _ z),λb Y q n Z=>u.free b Y q n λz=>Z (hx b z),λb Y q Z=>u.there b Y q λz=>Z (hx b z),u.tups,u.frzs,u.tbls⟩
end
noncomputable def trk(h:cc)(H:Hp):List Addr:=(cB h.objs.size).filter λa=>(H a).isSome
def Eu(h:cc)(H:Hp):cc:=PySem.W.hideAll h (trk h H)
theorem Lh(h:cc)(H:Hp):(Eu h H).objs.size=h.objs.size:=PySem.W.hideAll_size _ _
theorem NQ{h:cc}{H:Hp}{b:Addr}{o:Obj}(e:h.get? b=some o)(n:H b=none):(Eu h H).get? b=some o:=
 PySem.W.hideAll_get _ e λhm=>by
  have q:=(dw.mp hm).2;rw[n]at q;simp at q
theorem Sg{h:cc}{H:Hp}{b:Addr}{o:Obj}(e:(Eu h H).get? b=some o):h.get? b=some o/\H b=none:=by
 have Z:h.get? b=some o:=PySem.W.of_hideAll (trk h H) e;refine⟨Z,?_⟩
 cases q:H b with
 |none=>rfl
 |some x=>
  have hm:b∈trk h H:=dw.mpr ⟨eF.mpr (ae Z),by simp[q]⟩;have z:(Eu h H).get? b=none:=PySem.W.hideAll_none (trk h H) hm;rw[z]at e;cases e
noncomputable def Sh(g h:cc)(L:Addr):List (Addr×Obj):=(cB h.objs.size).filterMap λa=>if a=L\/(g.get? a).isSome=true then none else(h.get? a).map λo=>(a,o)
def rest(g h:cc)(L d:Addr):List (Addr×Obj):=(Sh g h L).filter λp=>decide (p.1≠d)
end L2
namespace L2
structure Mod(K:PySem.W.Frag)(mg:Str->Option Value)(base:cc):Prop where
 kin:K.In base
 glob:base.Ns mainGlobals mg
 blt:∃mb,base.Ns builtinsNs mb/\∀x:Str,x≠"__name__"->mb x=bootBuiltins x
 nolimit:base.NoLimit
 bm:∃bm ob,mg "__builtins__"=some (.ref bm)/\bm≠builtinsNs/\base.get? bm=some ob/\ob.cls = .type "module"/\ob.dict=some builtinsNs/\ob.data = .plain
structure Cx where
 prog:bP
 w:b8
 K:PySem.W.Frag
 mg:Str->Option Value
 base:cc
 A:bX
 N:List Str
 s₀:bE
 H₀:Hp
 env:Env
 outer:List Env
 stack:List Env
 ex:List Addr
 fn:Str->Bool
 calm:Bool
 still:Bool
 pn:List (Addr×Obj)
 xe:Value->bE->Prop
noncomputable def frs(l:List Env):List Addr:=l.filterMap (·.frame)
abbrev Cx.fs(X:Cx):List Addr:=frs X.outer
def Vis(sc:db)(x:Str):Prop:=sc.names.lookup x=some .local\/sc.names.lookup x=some .cell\/sc.names.lookup x=some .free
def Loc(sc:db)(x:Str):Prop:=sc.names.lookup x=some .local\/sc.names.lookup x=some .cell
def Look(env:Env)(h:cc)(m:Str->Option Value)(x:Str)(u:Value):Prop:=
 (env.kindOf x=some .local/\m x=some u)\/((env.kindOf x=some .cell\/env.kindOf x=some .free)/\∃c,env.cells.lookup x=some c/\h.IsCell c (some u))
def HqC(A:bX)(O:cc)(H:Hp)(fs ex:List Addr):Prop:=A.handled=none\/∃h o C vs,A.handled=some (.ref h)/\O.get? h=some o/\H h=none/\h∉fs/\h∉ex/\o.cls = .ref C/\o.data = .fields vs/\vs[2]? = some .none
structure Cx.Ok(X:Cx):Prop where
 mod:Mod X.K X.mg X.base
 kind:X.env.scope.kind = .function
 glob:X.env.globals=mainGlobals
 blt:X.env.builtins=builtinsNs
 above:X.s₀.heap.objs.size<=X.env.locals
 inj:∀x y c,X.env.cells.lookup x=some c->X.env.cells.lookup y=some c->x=y
 has:∀x,(X.env.kindOf x=some .cell\/X.env.kindOf x=some .free)->∃c,X.env.cells.lookup x=some c
 cab:∀x c,X.fn x=true->X.env.cells.lookup x=some c->X.s₀.heap.objs.size<=c
 hd:X.calm=true->HqC X.A X.s₀.heap X.H₀ X.fs X.ex
 hs:X.still=true->X.A.handled=none
 frames:X.A.frames=some X.stack
 stk:X.stack=X.outer\/(X.stack=X.env::X.outer/\X.env.frame=some X.env.locals)
 exf:∀b∈X.ex,b≠X.env.locals/\∀x c,X.env.cells.lookup x=some c->c≠b
 bs:∀b o,X.base.get? b=some o->X.s₀.heap.get? b=some o/\X.H₀ b=none
 bsz:X.base.objs.size<=X.s₀.heap.objs.size
 noex:∀b o,X.base.get? b=some o->b∉X.ex
 exfs:∀b∈X.ex,b∉X.fs
 funs:X.s₀.heap.FunFrames X.base X.outer
 frf:∀b∈X.fs,X.H₀ b=none
structure Inv(X:Cx)(pins:List (Addr×Obj))(σ:List (Option V))(H:Hp)(s:bE):Prop where
 ok:X.Ok
 os:s.os=X.s₀.os
 bare:d8 s.gens
 base:Un X.fs X.ex X.H₀ H X.s₀.heap s.heap
 loc:∃m,s.heap.Ns X.env.locals m/\∀(i:Nat)(x:Str)(v:V),X.N[i]? = some x->σ[i]? = some (some v)->Vis X.env.scope x->∃u,RelV v u/\Look X.env s.heap m x u
 cell:∀x c,X.env.cells.lookup x=some c->∃v,s.heap.IsCell c v
 free:H X.env.locals=none
 freeC:∀x c,X.env.cells.lookup x=some c->H c=none
 pin:∀p∈X.pn++pins,s.heap.get? p.1=some p.2/\H p.1=none/\p.1≠X.env.locals/\p.1∉X.fs/\∀v,p.2.data ≠ .cell v
 hok:HOk X.prog X.w H s.heap
 len:σ.length=X.N.length
section
variable{X:Cx}{pins:List (Addr×Obj)}{σ:List (Option V)}{H H':Hp}{s:bE}{h':cc}
theorem Cx.Ok.nofr(ok:X.Ok){b:Addr}{o:Obj}(e:X.base.get? b=some o):b∉X.fs:=λhb=>by
 have:=(ok.funs.mem hb).1;rw[e]at this;cases this
theorem Inv.bs(I:Inv X pins σ H s):∀b o,X.base.get? b=some o->s.heap.get? b=some o/\H b=none:=λb o e=>
 ⟨I.base.keep b o (I.ok.bs b o e).1 (I.ok.bs b o e).2 (I.ok.nofr e) (I.ok.noex b o e),I.base.free b o (I.ok.bs b o e).1 (I.ok.bs b o e).2 (I.ok.noex b o e)⟩
theorem Inv.hqc(I:Inv X pins σ H s)(hc:X.calm=true){fs ex:List Addr}(O:∀b∈fs,b=X.env.locals\/b∈X.fs)(he:∀b∈ex,b∈X.ex\/X.s₀.heap.objs.size<=b):HqC X.A s.heap H fs ex:=by
 rcases I.ok.hd hc with z|⟨h,o,C,vs,W,Z,Y,e4,e5,e6⟩
 ·exact .inl z
 ·refine .inr ⟨h,o,C,vs,W,I.base.keep h o Z Y e4 e5,I.base.free h o Z Y e5,λz=>?_,λz=>?_,e6⟩
  ·rcases O h z with y|y
   ·exact absurd (aZ (ae Z) I.ok.above) (by rw[y];exact gQ _)
   ·exact e4 y
  ·rcases he h z with y|y
   ·exact e5 y
   ·exact absurd (aZ (ae Z) y) (gQ _)
theorem HqC.q{A:bX}{O:cc}{H:Hp}{fs ex:List Addr}(q:HqC A O H fs ex):Hq A O:=q.imp id λ⟨h,o,C,vs,X,Y,_,_,_,Z⟩=>⟨h,o,C,vs,X,Y,Z⟩
theorem Inv.hq(I:Inv X pins σ H s)(hc:X.calm=true):Hq X.A s.heap:=(I.hqc hc (fs:=[]) (ex:=[]) (λb z=>(by cases z)) λb z=>(by cases z)).q
theorem Inv.bk(I:Inv X pins σ H s):∀b o,X.base.get? b=some o->s.heap.get? b=some o:=λb o e=>(I.bs b o e).1
theorem Inv.mod(I:Inv X pins σ H s):Mod X.K X.mg X.base:=I.ok.mod
theorem Inv.kIn(I:Inv X pins σ H s):X.K.In s.heap:=I.ok.mod.kin.keeps I.bk
theorem Inv.nolimit(I:Inv X pins σ H s):s.heap.NoLimit:=I.ok.mod.nolimit.keeps I.bk
theorem Inv.fr(I:Inv X pins σ H s):∃m,Fr X.base X.env.locals s.heap m:=
 let⟨m,hn,_⟩:=I.loc
 ⟨m,hn,I.bk,bM I.ok.bsz I.ok.above⟩
theorem Inv.lt(I:Inv X pins σ H s):X.env.locals<s.heap.objs.size:=let⟨_,hn,_⟩:=I.loc;hn.lt
theorem Inv.sz(I:Inv X pins σ H s):X.s₀.heap.objs.size<=s.heap.objs.size:=bM I.ok.above (nM I.lt)
theorem Inv.nofs(I:Inv X pins σ H s){a:Addr}(h:s.heap.objs.size<=a):a∉X.fs:=λhb=>by
 obtain⟨_,o,Z,_⟩:=I.ok.funs.mem hb;exact absurd (aZ (ae Z) (bM I.sz h)) (gQ _)
theorem Inv.cne(I:Inv X pins σ H s):∀x c,X.env.cells.lookup x=some c->c≠X.env.locals:=λx c e z=>by
 obtain⟨v,o,W,hd⟩:=I.cell x c e;obtain⟨m,⟨o',es,V,Z,Y,_⟩,_⟩:=I.loc;rw[z,Z]at W;cases W;rw[Y]at hd;cases hd
theorem Inv.funs(I:Inv X pins σ H s):s.heap.FunFrames X.base X.outer:=by
 have all:∀(l:List Env),(∀b∈frs l,b∈X.fs)->X.s₀.heap.FunFrames X.base l->s.heap.FunFrames X.base l:=by
  intro l
  induction l with
  |nil=>intro _ _;trivial
  |cons env r W=>
   intro hs hl;obtain⟨T,⟨L,o,Z,hn,U,hd⟩,V⟩:=hl;have Y:=hs L (by unfold frs;rw[nG,Z];exact aN);obtain⟨sl,e⟩:=I.base.slot L o U (I.ok.frf L Y) Y λz=>I.ok.exfs L z Y
   exact⟨T,⟨L,_,Z,hn,e,hd⟩,W (λb hb=>hs b (by unfold frs;rw[nG,Z];exact aL _ hb)) V⟩
 exact all X.outer (λ_ hb=>hb) I.ok.funs
theorem Inv.stack(I:Inv X pins σ H s):s.heap.FunFrames X.base X.stack:=by
 rcases I.ok.stk with e|⟨e,Z⟩
 ·rw[e];exact I.funs
 ·rw[e];obtain⟨m,hn,_⟩:=I.loc;refine .cons (by rw[I.ok.kind];decide) Z hn ?_ I.funs;exact aS (bM I.ok.bsz I.ok.above)
theorem Inv.stkSub(I:Inv X pins σ H s):∀b∈frs X.stack,b∈X.env.locals::X.fs:=λb hb=>by
 rcases I.ok.stk with e|⟨e,Z⟩
 ·rw[e]at hb;exact aL _ hb
 ·rw[e]at hb;unfold frs at hb;rwa[nG,Z]at hb
theorem Inv.stkFree(I:Inv X pins σ H s):∀b∈frs X.stack,H b=none:=λb hb=>by
 rcases bI.mp (I.stkSub b hb)with e|hb
 ·rw[e];exact I.free
 ·obtain⟨_,o,Z,_⟩:=I.ok.funs.mem hb;exact I.base.free b o Z (I.ok.frf b hb) λz=>I.ok.exfs b z hb
theorem Inv.step{g':Array ee}{t':Nat}{d':Drawn}{ch:List Addr}(I:Inv X pins σ H s)
 (O:∀b∈ch,(b∈X.ex\/X.s₀.heap.objs.size<=b)/\b≠X.env.locals/\(∀x c,X.env.cells.lookup x=some c->c≠b)/\∀p∈X.pn++pins,p.1≠b)
 (keep:∀b o,b≠X.env.locals->b∉X.fs->b∉ch->s.heap.get? b=some o->H b=none->h'.get? b=some o)
 (slot:∀b o,b≠X.env.locals->b∈X.fs->b∉ch->s.heap.get? b=some o->H b=none->∃sl,h'.get? b=some {o with slots:=sl}) (free:∀b o,b∉ch->s.heap.get? b=some o->H b=none->H' b=none)
 (there:∀b o,b∉ch->s.heap.get? b=some o->∃o',h'.get? b=some o')
 (tups:∀b xs,H b=some (.tup xs)->H' b=some (.tup xs)) (frzs:∀b o u,H b=some (.frz o u)->H' b=some (.frz o u)) (tbls:∀b q p,H b=some (.tbl q p)->H' b=some (.tbl q p))
 (ns:∀m,s.heap.Ns X.env.locals m->h'.Ns X.env.locals m) (hok:HOk X.prog X.w H' h') (hg:d8 g') :
 Inv X pins σ H' {s with heap:=h',gens:=g',drawn:=d',toks:=t'}:=by
 have U:∀b o,X.s₀.heap.get? b=some o->b≠X.env.locals:=λb o e=>b_ (aZ (ae e) I.ok.above)
 have Y:∀b o,X.s₀.heap.get? b=some o->b∉X.ex->b∉ch:=λb o e hx hb=>by
  rcases(O b hb).1 with z|z
  ·exact hx z
  ·exact absurd (aZ (ae e) z) (gQ _)
 have cellK:∀x c,X.env.cells.lookup x=some c->∀v,s.heap.IsCell c v->h'.IsCell c v:=λx c e v ⟨o,V,hd⟩=>by
  have Z:=λz=>(O c z).2.2.1 x c e rfl
  by_cases hc:c∈X.fs
  ·obtain⟨sl,q⟩:=slot c o (I.cne x c e) hc Z V (I.freeC x c e);exact⟨_,q,hd⟩
  ·exact⟨o,keep c o (I.cne x c e) hc Z V (I.freeC x c e),hd⟩
 refine⟨I.ok,I.os,hg,⟨λb o e n hb hx=>?_,λb o e n hb hx=>?_,λb o e n hx=>?_,λb o e hx=>?_,λb xs e=>tups b xs (I.base.tups b xs e),λb o xs e=>frzs b o xs (I.base.frzs b o xs e),λb q p e=>tbls b q p (I.base.tbls b q p e)⟩,?_,λx c e=>?_,?_,λx c e=>?_,λp R=>?_,hok,I.len⟩
 ·exact keep b o (U b o e) hb (Y b o e hx) (I.base.keep b o e n hb hx) (I.base.free b o e n hx)
 ·obtain⟨sl,W⟩:=I.base.slot b o e n hb hx;obtain⟨T,S⟩:=slot b _ (U b o e) hb (Y b o e hx) W (I.base.free b o e n hx);exact⟨T,S⟩
 ·obtain⟨o',W⟩:=I.base.there b o e hx;exact free b o' (Y b o e hx) W (I.base.free b o e n hx)
 ·obtain⟨o',W⟩:=I.base.there b o e hx;exact there b o' (Y b o e hx) W
 ·obtain⟨m,hn,hl⟩:=I.loc;refine⟨m,ns m hn,λi x v W S Q=>?_⟩;obtain⟨u,r,l⟩:=hl i x v W S Q;refine⟨u,r,?_⟩;rcases l with l|⟨k,c,e,z⟩
  ·exact .inl l
  ·exact .inr ⟨k,c,e,cellK x c e _ z⟩
 ·obtain⟨v,z⟩:=I.cell x c e;exact⟨v,cellK x c e v z⟩
 ·obtain⟨m,⟨o,_,_,V,_⟩,_⟩:=I.loc;exact free _ o (λz=>(O _ z).2.1 rfl) V I.free
 ·obtain⟨v,o,V,hd⟩:=I.cell x c e;exact free c o (λz=>(O c z).2.2.1 x c e rfl) V (I.freeC x c e)
 ·obtain⟨e,n,ne,nf,d⟩:=I.pin p R;have Z:=λz=>(O p.1 z).2.2.2 p R rfl
  exact⟨keep p.1 p.2 ne nf Z e n,free p.1 p.2 Z e n,ne,nf,d⟩
theorem Inv.un{t':Nat}(I:Inv X pins σ H s)(u:Un X.fs [] H H' s.heap h')(hok:HOk X.prog X.w H' h'):Inv X pins σ H' {s with heap:=h',toks:=t'}:=by
 obtain⟨m,⟨o,es,R,V,r⟩,_⟩:=id I.loc;obtain⟨sl,T⟩:=u.any V I.free (by simp);exact I.step (g':=s.gens) (d':=s.drawn) (ch:=[]) (λ_ z=>nomatch z) (λb o _ hb _ e n=>u.keep b o e n hb (by simp)) (λb o _ hb _ e n=>u.slot b o e n hb (by simp)) (λb o _ e n=>u.free b o e n (by simp)) (λb o _ e=>u.there b o e (by simp)) u.tups u.frzs u.tbls (λS hm=>by
  obtain⟨o',Y,W,Z,U⟩:=hm;rw[V]at Z;cases Z;exact⟨_,Y,W,T,U⟩) hok I.bare
theorem Inv.call{g':Array ee}{t':Nat}{d':Drawn}{ch:List Addr}(I:Inv X pins σ H s)(u:Un (frs X.stack) ch H H' s.heap h')(hok:HOk X.prog X.w H' h')(hg:d8 g')
 (O:∀b∈ch,(b∈X.ex\/X.s₀.heap.objs.size<=b)/\b≠X.env.locals/\(∀x c,X.env.cells.lookup x=some c->c≠b)/\∀p∈X.pn++pins,p.1≠b) :
 Inv X pins σ H' {s with heap:=h',gens:=g',drawn:=d',toks:=t'}:=by
 obtain⟨m,⟨o,es,R,U,r⟩,_⟩:=id I.loc;obtain⟨sl,Y⟩:=u.any U I.free λz=>(O _ z).2.1 rfl
 exact I.step (ch:=ch) O (λb o Y hb hc e n=>u.keep b o e n (λz=>(bI.mp (I.stkSub b z)).elim Y hb) hc) (λb o _ _ hc e n=>u.any e n hc) (λb o hc e n=>u.free b o e n hc) (λb o hc e=>u.there b o e hc) u.tups u.frzs u.tbls (λS hm=>by
  obtain⟨o',W,V,Z,T⟩:=hm;rw[U]at Z;cases Z;exact⟨_,W,V,Y,T⟩) hok hg
theorem Inv.turned{t':Nat}{it:Addr}(I:Inv X pins σ H s)(k:∀b o,b≠it->s.heap.get? b=some o->h'.get? b=some o)(hn:H it=none)(O:it≠X.env.locals)
 (h1:it∈X.ex\/X.s₀.heap.objs.size<=it) (h2:∀x c,X.env.cells.lookup x=some c->c≠it) (h3:∀p∈X.pn++pins,p.1≠it):Inv X pins σ H {s with heap:=h',toks:=t'}:=by
 have Z:∀b u,H b=some u->b≠it:=λb u e z=>by rw[z,hn]at e;cases e
 refine I.step (g':=s.gens) (d':=s.drawn) (ch:=[it]) (λb hb=>?_) (λb o _ _ hc e _=>k b o (λz=>hc (by simp[z])) e) (λb o _ _ hc e _=>⟨o.slots,k b o (λz=>hc (by simp[z])) e⟩) (λ_ _ _ _ n=>n)
  (λb o hc e=>⟨o,k b o (λz=>hc (by simp[z])) e⟩) (λ_ _ e=>e) (λ_ _ _ e=>e) (λ_ _ _ e=>e) (λm hm=>?_) (λb u e=>?_) I.bare
 ·have e:b=it:=by simpa using hb
  subst e;exact⟨h1,O,h2,h3⟩
 ·obtain⟨o,es,W,Y,r⟩:=hm;exact⟨o,es,W,k _ o (ce O) Y,r⟩
 ·refine(I.hok b u e).stay (λc v hc q=>k c v ?_ q) (λ_ q=>q) λ_ _ q=>q
  rcases hc with z|z
  ·rw[z];exact Z b u e
  ·exact Z c _ z
theorem Inv.tok(I:Inv X pins σ H s)(t:Nat):Inv X pins σ H {s with toks:=t}:=I.un (h':=s.heap) (t':=t) Un.refl I.hok
theorem Inv.kept{t':Nat}(I:Inv X pins σ H s)(k:∀b u,s.heap.get? b=some u->h'.get? b=some u):Inv X pins σ H {s with heap:=h',toks:=t'}:=I.un (Un.kept k) (I.hok.kept k)
theorem Inv.laid{a:Addr}{o:HO}{t':Nat}(I:Inv X pins σ H s)(k:∀b u,s.heap.get? b=some u->h'.get? b=some u)(O:s.heap.objs.size<=a)(new:iM X.prog X.w (upd H a o) h' a o):
 Inv X pins σ (upd H a o) {s with heap:=h',toks:=t'}:=I.un (Un.laid k O (I.hok.fresh O)) (I.hok.laid k O new)
theorem Inv.write{x e:Addr}{o:HO}{t':Nat}(I:Inv X pins σ H s)(Y:Mut (H x))(Z:e=x\/H e=some (.own x))(k:∀b u,b≠e->s.heap.get? b=some u->h'.get? b=some u)(O:∃u,h'.get? e=some u)
 (new:iM X.prog X.w (upd H x o) h' x o):Inv X pins σ (upd H x o) {s with heap:=h',toks:=t'}:=I.un (Un.write Y Z k O) (I.hok.write Y Z k O new)
theorem Inv.pins_of{pins':List (Addr×Obj)}(I:Inv X pins σ H s)(h:∀p∈pins',s.heap.get? p.1=some p.2/\H p.1=none/\p.1≠X.env.locals/\p.1∉X.fs/\∀v,p.2.data ≠ .cell v):Inv X pins' σ H s:=
 ⟨I.ok,I.os,I.bare,I.base,I.loc,I.cell,I.free,I.freeC,λp Z=>(cJ.mp Z).elim (λz=>I.pin p (cV _ z)) (h p),I.hok,I.len⟩
theorem Ew{N:List Str}(O:N.Nodup){i j:Nat}{x:Str}(a:N[i]? = some x)(b:N[j]? = some x):i=j:=by
 obtain⟨h1,Y⟩:=bN.mp a;obtain⟨h2,Z⟩:=bN.mp b;exact(List.getElem_inj O).mp (Y.trans Z.symm)
theorem Bf{M:Model}{A:bX}{E:Value->bE->Prop}{i:Nat}{x:Str}{v:V}{u:Value}{Q:Unit->bE->Prop}(I:Inv X pins σ H s)(hN:X.N.Nodup)(hi:X.N[i]? = some x)(hx:Loc X.env.scope x)(r:RelV v u)
 (h:∀s',Inv X pins (σ.set i (some v)) H s'->(∃a,dv a s.heap s'.heap/\(a=X.env.locals\/X.env.cells.lookup x=some a))->Q () s') (hf:X.fn x=true\/X.env.scope.names.lookup x=some .local:=by first|exact .inl rfl|exact .inr rfl|assumption):wpAny M A (storeName X.env x u) Q E s:=by
 obtain⟨m,hn,hl⟩:=id I.loc;have O:(X.env.scope.kind == .class||(X.env.scope.kind == .module&&X.env.locals != X.env.globals))=false:=by rw[I.ok.kind];rfl
 have T:i<σ.length:=by rw[I.len];exact(bN.mp hi).1
 have cne:=I.cne;have tracked:∀{a:Addr}{h':cc},(∃o,s.heap.get? a=some o/\H a=none)->dv a s.heap h'->HOk X.prog X.w H h':=λ{a h'} ha hs b ob e=>by
  obtain⟨_,_,Y⟩:=ha;refine(I.hok b ob e).stay (λc J hc q=>(hs.2 c ?_).trans q) (λ_ q=>q) λ_ _ q=>q
  rintro rfl;rcases hc with rfl|hc
  ·rw[Y]at e;cases e
  ·rw[Y]at hc;cases hc
 rcases hx with U|U
 ·refine wpAny_storeName_local U hn (λh' t hs=>?_) O;obtain⟨oL,_,_,B,_⟩:=id hn;refine h _ ⟨I.ok,I.os,I.bare,⟨λb o e n hb hx=>?_,λb o e n hb hx=>?_,I.base.free,λb o e hx=>?_,I.base.tups,I.base.frzs,I.base.tbls⟩,⟨_,t,λj y G Z W l=>?_⟩,λy c e=>?_,I.free,I.freeC,λp C=>?_,tracked ⟨oL,B,I.free⟩ hs,by simpa using I.len⟩ ⟨_,hs,.inl rfl⟩
  ·exact(hs.2 b (b_ (aZ (ae e) I.ok.above))).trans (I.base.keep b o e n hb hx)
  ·obtain⟨sl,Z⟩:=I.base.slot b o e n hb hx;exact⟨sl,(hs.2 b (b_ (aZ (ae e) I.ok.above))).trans Z⟩
  ·obtain⟨o',Z⟩:=I.base.there b o e hx;exact⟨o',(hs.2 b (b_ (aZ (ae e) I.ok.above))).trans Z⟩
  ·by_cases S:j=i
   ·subst S;rw[hi]at Z;cases Z;rw[bV T]at W
    cases W;exact⟨u,r,.inl ⟨U,by simp⟩⟩
   ·rw[aJ (ce S)]at W;obtain⟨F,D,q⟩:=hl j y G Z W l;refine⟨F,D,?_⟩;rcases q with⟨k,e⟩|⟨k,c,e,z⟩
    ·refine .inl ⟨k,?_⟩;have:y≠x:=λe=>S (Ew hN Z (e▸hi))
     simp[this,e]
    ·exact .inr ⟨k,c,e,z.sameBut hs (cne y c e)⟩
  ·obtain⟨J,z⟩:=I.cell y c e;exact⟨J,z.sameBut hs (cne y c e)⟩
  ·obtain⟨e,n,ne,nf,d⟩:=I.pin p C;exact⟨(hs.2 p.1 ne).trans e,n,ne,nf,d⟩
 ·have R:X.fn x=true:=by
   rcases hf with z|z
   ·exact z
   ·rw[z]at U;cases U
  obtain⟨c,hc⟩:=I.ok.has x (.inl U);obtain⟨J,z⟩:=I.cell x c hc;refine wpAny_storeName_cell I.ok.kind U hc z (λh' K hs=>?_);obtain⟨oc,P,g⟩:=id z;refine h {s with heap:=h'} ⟨I.ok,I.os,I.bare,⟨λb o e n hb hx=>?_,λb o e n hb hx=>?_,I.base.free,λb o e hx=>?_,I.base.tups,I.base.frzs,I.base.tbls⟩,⟨m,hn.sameBut hs (ce (cne x c hc)),λj y G Z W l=>?_⟩,λy c' e=>?_,I.free,I.freeC,λp C=>?_,tracked ⟨oc,P,I.freeC x c hc⟩ hs,by simpa using I.len⟩ ⟨c,hs,.inr hc⟩
  ·exact(hs.2 b (b_ (aZ (ae e) (I.ok.cab x c R hc)))).trans (I.base.keep b o e n hb hx)
  ·obtain⟨sl,Z⟩:=I.base.slot b o e n hb hx;exact⟨sl,(hs.2 b (b_ (aZ (ae e) (I.ok.cab x c R hc)))).trans Z⟩
  ·obtain⟨o',Z⟩:=I.base.there b o e hx;exact⟨o',(hs.2 b (b_ (aZ (ae e) (I.ok.cab x c R hc)))).trans Z⟩
  ·by_cases S:j=i
   ·subst S;rw[hi]at Z;cases Z;rw[bV T]at W
    cases W;exact⟨u,r,.inr ⟨.inl U,c,hc,K⟩⟩
   ·rw[aJ (ce S)]at W;obtain⟨F,D,q⟩:=hl j y G Z W l;refine⟨F,D,?_⟩;rcases q with q|⟨k,c',e,z'⟩
    ·exact .inl q
    ·refine .inr ⟨k,c',e,z'.sameBut hs ?_⟩;rintro rfl;exact S (Ew hN Z (I.ok.inj _ _ _ e hc▸hi))
  ·by_cases L:c'=c
   ·subst L;exact⟨_,K⟩
   ·obtain⟨w2,f⟩:=I.cell y c' e;exact⟨w2,f.sameBut hs L⟩
  ·obtain⟨e,n,ne,nf,d⟩:=I.pin p C;refine⟨(hs.2 p.1 ?_).trans e,n,ne,nf,d⟩;intro q;rw[q,P]at e;have q':oc=p.2:=dB.inj e;exact d J (by rwa[<-q'])
theorem Ey{M:Model}{A:bX}{E:Value->bE->Prop}{i:Nat}{x:Str}{v:V}{u:Value}{Q:Unit->bE->Prop}(I:Inv X pins σ H s)(Y:X.N.Nodup)(hi:X.N[i]? = some x)(hx:Loc X.env.scope x)(r:RelV v u)
 (h:∀s',Inv X pins (σ.set i (some v)) H s'->Q () s') (O:X.fn x=true\/X.env.scope.names.lookup x=some .local:=by first|exact .inl rfl|exact .inr rfl|assumption):wpAny M A (storeName X.env x u) Q E s:=
 Bf I Y hi hx r (λs' Z _=>h s' Z) O
end
abbrev XK:=Value->Option Addr->Hp->Prop
abbrev St:=List (Option V)
abbrev VK:=V->Hp->Prop
abbrev TE:=St->Hp->VK->Prop
abbrev TT:=St->Hp->(Bool->Hp->Prop)->Prop
abbrev TA:=St->Hp->(List V->Hp->Prop)->Prop
structure Ends where
 nx:St->Hp->Prop
 rt:VK
 bk:St->Hp->Prop:=λ_ _=>False
 ct:St->Hp->Prop:=λ_ _=>False
abbrev TS:=Ends->St->Hp->Prop
def EP(X:Cx)(pins:List (Addr×Obj))(σ:St)(Q:VK)(u:Value)(s':bE):Prop:=∃v H',Inv X pins σ H' s'/\RelV v u/\Q v H'
def TP(X:Cx)(pins:List (Addr×Obj))(σ:St)(Q:Bool->Hp->Prop)(b:Bool)(s':bE):Prop:=∃H',Inv X pins σ H' s'/\Q b H'
def AP(X:Cx)(pins:List (Addr×Obj))(σ:St)(Q:List V->Hp->Prop)(us:List Value)(s':bE):Prop:=∃vs H',Inv X pins σ H' s'/\Vals vs us/\Q vs H'
def SP(X:Cx)(pins:List (Addr×Obj))(D:Ends)(f:Flow)(s':bE):Prop:=
 match f with
 | .next=>∃σ' H',Inv X pins σ' H' s'/\D.nx σ' H'
 | .brk=>∃σ' H',Inv X pins σ' H' s'/\D.bk σ' H'
 | .cont=>∃σ' H',Inv X pins σ' H' s'/\D.ct σ' H'
 | .ret u=>∃v σ' H',Inv X pins σ' H' s'/\RelV v u/\D.rt v H'
def PE(X:Cx)(e:Expr)(t:TE):Prop:=
 ∀(pins:List (Addr×Obj))(s:bE)(σ:St)(H:Hp)(Q:VK),Inv X pins σ H s->t σ H Q->wpAny (model X.prog X.w) X.A (eval e X.env) (EP X pins σ Q) X.xe s
def PT(X:Cx)(e:Expr)(t:TT):Prop:=
 ∀(pins:List (Addr×Obj))(s:bE)(σ:St)(H:Hp)(Q:Bool->Hp->Prop),Inv X pins σ H s->t σ H Q->wpAny (model X.prog X.w) X.A (isTrue e X.env (eval e X.env)) (TP X pins σ Q) X.xe s
def PW(X:Cx)(e:Expr)(t:TT):Prop:=
 ∀(whole:Sem Value)(pins:List (Addr×Obj))(s:bE)(σ:St)(H:Hp)(Q:Bool->Hp->Prop),Inv X pins σ H s->t σ H Q->wpAny (model X.prog X.w) X.A (isTrue e X.env whole) (TP X pins σ Q) X.xe s
theorem PW.pt{X:Cx}{e:Expr}{t:TT}(h:PW X e t):PT X e t:=h _
def PA(X:Cx)(es:List Expr)(t:TA):Prop:=
 ∀(pos:Pos)(pins:List (Addr×Obj))(s:bE)(σ:St)(H:Hp)(Q:List V->Hp->Prop),Inv X pins σ H s->t σ H Q->wpAny (model X.prog X.w) X.A (spliced (backTo pos (starEach es X.env))) (AP X pins σ Q) X.xe s
def PS(X:Cx)(st:cm)(t:TS):Prop:=
 ∀(pins:List (Addr×Obj))(s:bE)(σ:St)(H:Hp)(D:Ends),Inv X pins σ H s->t D σ H->wpAny (model X.prog X.w) X.A (exec st X.env) (SP X pins D) X.xe s
def PSs(X:Cx)(st:List cm)(t:TS):Prop:=
 ∀(pins:List (Addr×Obj))(s:bE)(σ:St)(H:Hp)(D:Ends),Inv X pins σ H s->t D σ H->wpAny (model X.prog X.w) X.A (execs st X.env) (SP X pins D) X.xe s
theorem thn{α:Type}{t:Sem α}{Q O:α->bE->Prop}{M:Model}{A:bX}{E:Value->bE->Prop}{s:bE}(h:wpAny M A t Q E s)(Y:∀a s,Q a s->O a s):wpAny M A t O E s:=ai h Y λ_ _ x=>x
end L2
namespace L2
section
variable{X:Cx}
def Zt(i:Nat):TE:=λσ H Q=>∃v,σ[i]? = some (some v)/\Q v H
def tC(v:V):TE:=λ_ H Q=>Q v H
theorem nA{i:Nat}{x:Str}{pos:Pos}(hN:X.N[i]? = some x)(O:Vis X.env.scope x)(hd:(x==("__debug__":Str))=false:=by decide)(hcd:(x==("__classdict__":Str))=false:=by decide):PE X (.Name x pos) (Zt i):=by
 intro pins s σ H Q I h;obtain⟨v,e,h⟩:=h;obtain⟨m,hn,hl⟩:=I.loc;obtain⟨u,r,l⟩:=hl i x v hN e O;have W:EP X pins σ Q u s:=⟨v,H,I,r,h⟩;rcases l with⟨Y,hm⟩|⟨Y,c,hc,Z⟩
 ·exact wpAny_Name (wpAny_loadName_local I.ok.kind Y hn hm W) hd
 ·rcases Y with Y|Y
  ·exact wpAny_Name (wpAny_loadName_cell I.ok.kind Y hc Z W) hd
  ·exact wpAny_Name (wpAny_loadName_free I.ok.kind Y hc Z W hcd) hd
theorem Wx{i j pos}:PE X (.Constant (.int i) j pos) (tC (.int i)):=λ_ _ _ H _ I h=>wpAny_Constant_int ⟨.int i,H,I.tok _,⟨_,rfl⟩,h⟩
theorem Zu{b j pos}:PE X (.Constant (.bool b) j pos) (tC (.bl b)):=λ_ _ _ H _ I h=>Constant_bool ⟨.bl b,H,I,rfl,h⟩
theorem Wy{j pos}:PE X (.Constant .none j pos) (tC .non):=λ_ _ _ H _ I h=>Constant_none ⟨.non,H,I,rfl,h⟩
theorem NT{x j pos}:PE X (.Constant (.str x) j pos) (tC (.str x)):=λ_ _ _ H _ I h=>Calls.Constant_str ⟨.str x,H,I.tok _,⟨_,rfl⟩,h⟩
def Gl(X:Cx)(x:Str):Prop:=X.env.kindOf x=some .globalImplicit
theorem Ck{E:Value->bE->Prop}{pins:List (Addr×Obj)}{s:bE}{σ:St}{H:Hp}{x:Str}{u:Value}{pos:Pos}{Q:Value->bE->Prop}(I:Inv X pins σ H s)(O:Gl X x)(hm:X.mg x=some u)(h:Q u s)
 (hd:(x==("__debug__":Str))=false:=by decide):wpAny (model X.prog X.w) X.A (eval (.Name x pos) X.env) Q E s:=
 ba I.ok.kind O (Calls.loadGlobal_global (by rw[I.ok.glob];exact I.mod.glob.keeps I.bk) hm h) hd
theorem wI{E:Value->bE->Prop}{pins:List (Addr×Obj)}{s:bE}{σ:St}{H:Hp}{x:Str}{u:Value}{pos:Pos}{Q:Value->bE->Prop}(I:Inv X pins σ H s)(Y:Gl X x)(hm:X.mg x=none)(O:bootBuiltins x=some u)(h:Q u s)
 (hn:x≠"__name__" := by decide) (hd:(x==("__debug__":Str))=false:=by decide):wpAny (model X.prog X.w) X.A (eval (.Name x pos) X.env) Q E s:=by
 obtain⟨Z,h1,h2⟩:=I.mod.blt;exact ba I.ok.kind Y (Calls.loadGlobal_builtin (by rw[I.ok.glob];exact I.mod.glob.keeps I.bk) hm (by rw[I.ok.blt];exact h1.keeps I.bk) ((h2 x hn).trans O) h) hd
theorem JC{x:Str}{v:V}{u:Value}{pos:Pos}(O:Gl X x)(hm:X.mg x=some u)(r:RelV v u)(hd:(x==("__debug__":Str))=false:=by decide):PE X (.Name x pos) (tC v):=
 λ_ _ _ H _ I h=>Ck I O hm ⟨v,H,I,r,h⟩ hd
theorem Sq{x:Str}{v:V}{u:Value}{pos:Pos}(Y:Gl X x)(hm:X.mg x=none)(O:bootBuiltins x=some u)(r:RelV v u)(hn:x≠"__name__" := by decide)(hd:(x==("__debug__":Str))=false:=by decide):PE X (.Name x pos) (tC v):=
 λ_ _ _ H _ I h=>wI I Y hm O ⟨v,H,I,r,h⟩ hn hd
variable{a b:Expr}{ta tb:TE}{pos:Pos}
def PC(X:Cx)(op:eg)(a b:Expr)(t:TE):Prop:=
 ∀(pins:List (Addr×Obj))(s:bE)(σ:St)(H:Hp)(Q:VK),Inv X pins σ H s->t σ H Q ->
  wpAny (model X.prog X.w) X.A (eval a X.env) (λv Y=>wpAny (model X.prog X.w) X.A (eval b X.env) (λu Z=>wpAny (model X.prog X.w) X.A (compareOp op v u) (EP X pins σ Q) X.xe Z) X.xe Y) X.xe s
theorem Ez(b:Expr){op:eg}(h:op ≠ .In)(h2:op ≠ .NotIn):behindInMarks op b=false:=by
 have Y:(op==CmpOp.In)=false:=by cases op<;>first|rfl|exact absurd rfl h
 have Z:(op==CmpOp.NotIn)=false:=by cases op<;>first|rfl|exact absurd rfl h2
 cases b<;>simp[behindInMarks,Y,Z]
def ah7(ta:TE):TE:=λσ H Q=>ta σ H λx H1=>Q (.bl (decide (x = .non))) H1
theorem RelV.none_iff{x:V}{v:Value}(r:RelV x v):(v==df)=decide (x = .non):=by
 cases x with
 |non=>cases r;rfl
 |bl _=>cases r;rfl
 |int _=>obtain⟨t,rfl⟩:=r;rfl
 |str _=>obtain⟨t,rfl⟩:=r;rfl
 |byt _=>obtain⟨t,rfl⟩:=r;rfl
 |flt _=>obtain⟨t,rfl⟩:=r;rfl
 |ref _=>cases r;rfl
 |ty _=>cases r;rfl
theorem NZ{j pos'}(ha:PE X a ta):PC X .Is a (.Constant .none j pos') (ah7 ta):=by
 intro pins s σ H Q I h;refine thn (ha pins s σ H _ I h) λv s1 ⟨x,H1,Y,Z,q1⟩=>?_
 exact Constant_none (is_none_gen ⟨.bl _,H1,Y,by rw[Z.none_iff];rfl,q1⟩)
def tB(t:TE):TT:=λσ H Q=>t σ H λx H1=>∃c,x = .bl c/\Q c H1
theorem Wz{op:eg}{t:TE}(h:PC X op a b t)(h1:behindInMarks op b=false:=by first|exact Ez _ (by decide) (by decide)|rfl):PE X (.Compare a [op] [b] pos) t:=λpins s σ H Q I hw=>wpAny_Compare1 (h pins s σ H Q I hw) h1
theorem WD{op:eg}{t:TE}(h:PC X op a b t)(h1:behindInMarks op b=false:=by first|exact Ez _ (by decide) (by decide)|rfl):PT X (.Compare a [op] [b] pos) (tB t):=by
 intro pins s σ H Q I hw;refine wpAny_isTrue_Compare1 (thn (h pins s σ H _ I hw) λv s1 h1=>thn h1 λu s2 h2=>thn h2 λc W ⟨x,H1,Y,Z,q1⟩=>?_) h1;obtain⟨d,rfl,q⟩:=q1
 cases Z;exact ah ⟨H1,Y,q⟩
theorem WK{e:Expr}{t:TE}(h:PE X e t)(O:∀whole,isTrue e X.env whole=(do let v <-whole;standAt e.pos;holding [v] (truthy v)):=by intro _;rfl):PT X e (tB t):=by
 intro pins s σ H Q I hw;refine isTrue_plain (thn (h pins s σ H _ I hw) λv s1 ⟨x,H1,Y,Z,q1⟩=>?_) (O _);obtain⟨d,rfl,q⟩:=q1
 cases Z;exact ah ⟨H1,Y,q⟩
variable{tA tB':TT}{rest:List Expr}
def lA(t u:TT):TT:=λσ H Q=>t σ H λc H1=>if c=true then u σ H1 Q else Q false H1
def tOr(t u:TT):TT:=λσ H Q=>t σ H λc H1=>if c=true then Q true H1 else u σ H1 Q
def jO(t:TT):TT:=λσ H Q=>t σ H λc H1=>Q (!c) H1
theorem Ss(ha:PT X a tA):PW X (.BoolOp .And [a] pos) tA:=by
 intro Z pins s σ H Q I h;refine isTrue_and (thn (ha pins s σ H Q I h) λc s1 e=>?_)
 cases c with
 |true=>exact isTrue_and_nil e
 |false=>exact e
theorem WL(ha:PT X a tA):PW X (.BoolOp .Or [a] pos) tA:=by
 intro Z pins s σ H Q I h;refine isTrue_or (thn (ha pins s σ H Q I h) λc s1 e=>?_)
 cases c with
 |false=>exact isTrue_or_nil e
 |true=>exact e
theorem WM(ha:PT X a tA)(hb:PW X (.BoolOp .And (b::rest) pos) tB'):PW X (.BoolOp .And (a::b::rest) pos) (lA tA tB'):=by
 intro Y pins s σ H Q I h;refine isTrue_and (thn (ha pins s σ H _ I h) λc s1 ⟨H1,Z,q1⟩=>?_)
 cases c with
 |true=>exact hb Y pins s1 σ H1 Q Z q1
 |false=>exact⟨H1,Z,q1⟩
theorem Zv(ha:PT X a tA)(hb:PW X (.BoolOp .Or (b::rest) pos) tB'):PW X (.BoolOp .Or (a::b::rest) pos) (tOr tA tB'):=by
 intro Y pins s σ H Q I h;refine isTrue_or (thn (ha pins s σ H _ I h) λc s1 ⟨H1,Z,q1⟩=>?_)
 cases c with
 |true=>exact⟨H1,Z,q1⟩
 |false=>exact hb Y pins s1 σ H1 Q Z q1
theorem WQ(ha:PT X a tA):PT X (.UnaryOp .Not a pos) (jO tA):=by
 intro pins s σ H Q I h;exact isTrue_not (ha pins s σ H (λc H1=>Q (!c) H1) I h)
def Zw(ta tb:TE):TE:=λσ H Q=>ta σ H λx H1=>∃c,x = .bl c/\if c=true then tb σ H1 Q else Q (.bl false) H1
def Zx(ta:TE):TE:=λσ H Q=>ta σ H λx H1=>∃c,x = .bl c/\Q (.bl (!c)) H1
theorem WR{op}{t:TE}(h:PE X a t):PE X (.BoolOp op [a] pos) t:=λpins s σ H Q I hw=>BoolOp_one (h pins s σ H Q I hw)
theorem WT(ha:PE X a ta)(hb:PE X (.BoolOp .And (b::rest) pos) tb):PE X (.BoolOp .And (a::b::rest) pos) (Zw ta tb):=by
 intro pins s σ H Q I h;refine BoolOp_and (thn (ha pins s σ H _ I h) λv s1 ⟨x,H1,Z,Y,q1⟩=>?_);obtain⟨c,rfl,q1⟩:=q1
 cases Y;refine ah ?_
 cases c with
 |true=>exact hb pins s1 σ H1 Q Z q1
 |false=>exact⟨.bl false,H1,Z,rfl,q1⟩
theorem WW(ha:PE X a ta):PE X (.UnaryOp .Not a pos) (Zx ta):=by
 intro pins s σ H Q I h;refine UnaryOp_ (thn (ha pins s σ H _ I h) λv s1 ⟨x,H1,Y,Z,q1⟩=>?_);obtain⟨c,rfl,q1⟩:=q1
 cases Z;exact not_of (ah ⟨.bl (!c),H1,Y,rfl,q1⟩)
def tIf(t:TT)(ta tb:TE):TE:=λσ H Q=>t σ H λc H1=>if c=true then ta σ H1 Q else tb σ H1 Q
theorem N5{c:Expr}(hc:PT X c tA)(ha:PE X a ta)(hb:PE X b tb):PE X (.IfExp c a b pos) (tIf tA ta tb):=by
 intro pins s σ H Q I h;refine wpAny_IfExp (thn (hc pins s σ H _ I h) λd s1 ⟨H1,Z,q1⟩=>?_)
 cases d with
 |true=>exact ha pins s1 σ H1 Q Z q1
 |false=>exact hb pins s1 σ H1 Q Z q1
end
end L2
namespace L2
def SqL(K:PySem.W.Frag)(H:Hp)(a:Addr)(xs:List V):Prop:=
 Rd H a (.lst xs) \/
  ∃(o:Obj)(its:Array Value)(n:Nat),K.lookup a=some o/\o.cls = .type "list"/\o.dict=none/\o.data = .seq its n/\its.size<=sizeLine/\Vals xs its.toList
def SqT(K:PySem.W.Frag)(H:Hp)(a:Addr)(xs:List V):Prop:=
 Rd H a (.tup xs) \/
  ∃(o:Obj)(its:Array Value)(n:Nat),K.lookup a=some o/\o.cls = .type "tuple"/\o.data = .seq its n/\its.size<=sizeLine/\Vals xs its.toList
noncomputable def ah8:Value->Option V
 | .none=>some .non
 | .bool b=>some (.bl b)
 | .int i _=>some (.int i)
 | .str x _=>some (.str x)
 | .bytes b _=>some (.byt b)
 | .float b _=>some (.flt b)
 | .ref a=>some (.ref a)
 | .type n=>some (.ty n)
 |_=>none
theorem RelV.abs{x:V}{u:Value}(r:RelV x u):ah8 u=some x:=by
 cases x with
 |non=>cases r;rfl
 |bl _=>cases r;rfl
 |int _=>obtain⟨t,rfl⟩:=r;rfl
 |str _=>obtain⟨t,rfl⟩:=r;rfl
 |byt _=>obtain⟨t,rfl⟩:=r;rfl
 |flt _=>obtain⟨t,rfl⟩:=r;rfl
 |ref _=>cases r;rfl
 |ty _=>cases r;rfl
theorem RelV.inj{x y:V}{u:Value}(r:RelV x u)(q:RelV y u):x=y:=dB.inj (r.abs.symm.trans q.abs)
theorem Vals.inj:∀{xs ys:List V}{us:List Value},Vals xs us->Vals ys us->xs=ys
 |_,_,_,.nil,.nil=>rfl
 |_,_,_,.cons r t,.cons Y Z=>by rw[r.inj Y,Vals.inj t Z]
section
variable{X:Cx}{pins:List (Addr×Obj)}{σ:St}{H:Hp}{s:bE}{a:Addr}{xs ys:List V}
theorem SqL.of{K:PySem.W.Frag}(h:H a=some (.lst xs)):SqL K H a xs:=.inl (.inl h)
theorem SqT.of{K:PySem.W.Frag}(h:H a=some (.tup xs)):SqT K H a xs:=.inl (.inl h)
theorem Inv.list(I:Inv X pins σ H s)(h:SqL X.K H a xs):∃its:List Value,Vals xs its/\PlainL s.heap a its.toArray/\xs.length<=sizeLine:=by
 rcases h with h|⟨o,its,n,Z,hc,hd,hs,Y,r⟩
 ·obtain⟨z,its,n,r,e⟩:=h.ok I.hok;exact⟨its,r,⟨_,n,e,rfl,rfl,rfl⟩,z⟩
 ·refine⟨its.toList,r,⟨o,n,I.kIn a o Z,hc,hd,by simpa using hs⟩,?_⟩;have e:=r.length;simp only[dU]at e;omega
theorem Inv.tuple(I:Inv X pins σ H s)(h:SqT X.K H a xs):∃its:List Value,Vals xs its/\IsTup s.heap a its.toArray/\xs.length<=sizeLine:=by
 rcases h with h|⟨o,its,n,Z,hc,hs,Y,r⟩
 ·obtain⟨z,its,r,p⟩:=h.ok I.hok;exact⟨its,r,p,z⟩
 ·refine⟨its.toList,r,⟨o,I.kIn a o Z,hc,n,by simpa using hs⟩,?_⟩;have e:=r.length;simp only[dU]at e;omega
theorem Inv.list_inj(I:Inv X pins σ H s)(h:SqL X.K H a xs)(h':SqL X.K H a ys):xs=ys:=by
 obtain⟨its,r,⟨o,n,e,_,_,d⟩,_⟩:=I.list h;obtain⟨Z,V,⟨o',T,Y,_,_,W⟩,_⟩:=I.list h';rw[e]at Y;cases Y;rw[d]at W;injection W with U _
 have:its=Z:=by simpa using congrArg Array.toList U
 subst this;exact r.inj V
theorem Inv.tuple_inj(I:Inv X pins σ H s)(h:SqT X.K H a xs)(h':SqT X.K H a ys):xs=ys:=by
 obtain⟨its,r,⟨o,e,_,n,d⟩,_⟩:=I.tuple h;obtain⟨Z,V,⟨o',Y,_,T,W⟩,_⟩:=I.tuple h';rw[e]at Y;cases Y;rw[d]at W;injection W with U _
 have:its=Z:=by simpa using congrArg Array.toList U
 subst this;exact r.inj V
end
abbrev Cx.wish(X:Cx)(E:Value->bE->Prop):Cx:={X with xe:=E}
abbrev Cx.nox(X:Cx):Cx:=X.wish λ_ _=>False
theorem Cx.Ok.wish{X:Cx}(ok:X.Ok)(E:Value->bE->Prop):(X.wish E).Ok:=
 ⟨ok.mod,ok.kind,ok.glob,ok.blt,ok.above,ok.inj,ok.has,ok.cab,ok.hd,ok.hs,ok.frames,ok.stk,ok.exf,ok.bs,ok.bsz,ok.noex,ok.exfs,ok.funs,ok.frf⟩
theorem Cx.Ok.unwish{X:Cx}{E:Value->bE->Prop}(ok:(X.wish E).Ok):X.Ok:=
 ⟨ok.mod,ok.kind,ok.glob,ok.blt,ok.above,ok.inj,ok.has,ok.cab,ok.hd,ok.hs,ok.frames,ok.stk,ok.exf,ok.bs,ok.bsz,ok.noex,ok.exfs,ok.funs,ok.frf⟩
section
variable{X:Cx}{pins:List (Addr×Obj)}{σ:St}{H:Hp}{s:bE}{E:Value->bE->Prop}
theorem Inv.wish(I:Inv X pins σ H s)(E:Value->bE->Prop):Inv (X.wish E) pins σ H s:=⟨I.ok.wish E,I.os,I.bare,I.base,I.loc,I.cell,I.free,I.freeC,I.pin,I.hok,I.len⟩
theorem Inv.unwish(I:Inv (X.wish E) pins σ H s):Inv X pins σ H s:=⟨I.ok.unwish,I.os,I.bare,I.base,I.loc,I.cell,I.free,I.freeC,I.pin,I.hok,I.len⟩
theorem SP.unwish{D:Ends}{f:Flow}{s':bE}(h:SP (X.wish E) pins D f s'):SP X pins D f s':=by
 cases f with
 |next=>obtain⟨σ',H',I,q⟩:=h;exact⟨σ',H',I.unwish,q⟩
 |brk=>obtain⟨σ',H',I,q⟩:=h;exact⟨σ',H',I.unwish,q⟩
 |cont=>obtain⟨σ',H',I,q⟩:=h;exact⟨σ',H',I.unwish,q⟩
 |ret u=>obtain⟨v,σ',H',I,r,q⟩:=h;exact⟨v,σ',H',I.unwish,r,q⟩
theorem PE.nox{e:Expr}{t:TE}(h:PE X.nox e t):PE X e t:=λpins s σ H Q I hw=>
 ai (h pins s σ H Q (I.wish _) hw) (λ_ _ ⟨v,H',Z,r,q⟩=>⟨v,H',Z.unwish,r,q⟩) λ_ _ z=>ck z
theorem PT.nox{e:Expr}{t:TT}(h:PT X.nox e t):PT X e t:=λpins s σ H Q I hw=>
 ai (h pins s σ H Q (I.wish _) hw) (λ_ _ ⟨H',Z,q⟩=>⟨H',Z.unwish,q⟩) λ_ _ z=>ck z
theorem PSs.nox{st:List cm}{t:TS}(h:PSs X.nox st t):PSs X st t:=λpins s σ H D I hw=>
 ai (h pins s σ H D (I.wish _) hw) (λ_ _ q=>q.unwish) λ_ _ z=>ck z
end
section
variable{X:Cx}{st:cm}{rest:List cm}{t u:TS}{e:Expr}{te:TE}{pos:Pos}
def VJ:TS:=λD σ H=>D.nx σ H
def ah9(t u:TS):TS:=λD σ H=>t {D with nx:=u D} σ H
theorem yx:PSs X [] VJ:=λ_ _ σ H _ I h=>aT ⟨σ,H,I,h⟩
theorem pN(h1:PS X st t)(h2:PSs X rest u):PSs X (st::rest) (ah9 t u):=by
 intro pins s σ H D I h;refine wpAny_execs_cons (thn (h1 pins s σ H {D with nx:=u D} I h) λf s1 q=>?_)
 cases f with
 |next=>
  obtain⟨σ',H',Z,q⟩:=q;exact h2 pins s1 σ' H' D Z q
 |ret v=>exact q
 |brk=>exact q
 |cont=>exact q
theorem Cm(h1:PS X st t):PSs X [st] t:=by
 intro pins s σ H D I h;refine wpAny_execs_cons (thn (h1 pins s σ H D I h) λf s1 q=>?_)
 cases f with
 |next=>exact aT q
 |ret v=>exact q
 |brk=>exact q
 |cont=>exact q
theorem Inv.quiet{pins:List (Addr×Obj)}{σ:St}{H:Hp}{s:bE}(I:Inv X pins σ H s):interactive X.env=false:=by simp[interactive,I.ok.kind]
def Zy(te:TE):TS:=λD σ H=>te σ H λ_ H1=>D.nx σ H1
theorem yC(O:PE X e te)(hs:swapsWith e none pos.line X.env=pure false:=by rfl):PS X (.Expr e pos) (Zy te):=by
 intro pins s σ H D I h;exact wpAny_Expr_any (thn (O pins s σ H _ I h) λv s1 ⟨x,H1,Z,Y,q1⟩=>⟨σ,H1,Z,q1⟩) I.quiet hs
def ai0(te:TE):TS:=λD σ H=>te σ H D.rt
theorem N6(O:PE X e te):PS X (.Return (some e) pos) (ai0 te):=by
 intro pins s σ H D I h;exact wpAny_Return_some (thn (O pins s σ H _ I h) λv s1 ⟨x,H1,Y,Z,q1⟩=>⟨x,σ,H1,Y,Z,q1⟩)
def ai1(c:TT)(t u:TS):TS:=λD σ H=>c σ H λb H1=>if b=true then t D σ H1 else u D σ H1
theorem N7{c:Expr}{a b:List cm}{tc:TT}(hc:PT X c tc)(ha:PSs X a t)(hb:PSs X b u):PS X (.If c a b pos) (ai1 tc t u):=by
 intro pins s σ H D I h;refine wpAny_If (thn (hc pins s σ H _ I h) λd s1 ⟨H1,Z,q1⟩=>?_)
 cases d with
 |true=>exact ha pins s1 σ H1 D Z q1
 |false=>exact hb pins s1 σ H1 D Z q1
def N8:TS:=λ_ _ _=>False
theorem N_:PS X st N8:=λ_ _ _ _ _ _ h=>h.elim
end
abbrev TG:=V->St->Hp->(St->Hp->Prop)->Prop
abbrev TGs:=List V->St->Hp->(St->Hp->Prop)->Prop
def PG(X:Cx)(target:Expr)(t:TG):Prop:=
 ∀(pins:List (Addr×Obj))(s:bE)(σ:St)(H:Hp)(v:V)(u:Value)(Q:St->Hp->Prop),Inv X pins σ H s->RelV v u->t v σ H Q ->
  wpAny (model X.prog X.w) X.A (assign target X.env u) (λ_ s'=>∃σ' H',Inv X pins σ' H' s'/\Q σ' H') X.xe s
def PGs(X:Cx)(ts:List Expr)(t:TGs):Prop:=
 ∀(pins:List (Addr×Obj))(s:bE)(σ:St)(H:Hp)(vs:List V)(us:List Value)(Q:St->Hp->Prop),Inv X pins σ H s->Vals vs us->t vs σ H Q ->
  wpAny (model X.prog X.w) X.A (assignInOrder ((assignEach ts X.env).map (·.2)) us) (λ_ s'=>∃σ' H',Inv X pins σ' H' s'/\Q σ' H') X.xe s
abbrev WX:=V->V->V->Hp->(Hp->Prop)->Prop
def Zz(X:Cx)(t:WX):Prop:=
 ∀(pins:List (Addr×Obj))(s:bE)(σ:St)(H:Hp)(o i v:V)(Z Y u:Value)(Q:Hp->Prop),Inv X pins σ H s->RelV o Z->RelV i Y->RelV v u->t o i v H Q ->
  wpAny (model X.prog X.w) X.A (setItem Z Y u) (λ_ s'=>∃H',Inv X pins σ H' s'/\Q H') X.xe s
section
variable{X:Cx}{pos:Pos}
def Oa(i:Nat):TG:=λv σ H Q=>Q (σ.set i (some v)) H
theorem Sv{i:Nat}{x:Str}(Y:X.N.Nodup)(hi:X.N[i]? = some x)(hx:Loc X.env.scope x)(O:X.fn x=true\/X.env.scope.names.lookup x=some .local:=by first|exact .inl rfl|exact .inr rfl|assumption):PG X (.Name x pos) (Oa i):=by
 intro pins s σ H v u Q I r h;exact wpAny_assign_Name (Ey I Y hi hx r (λs' Z=>⟨_,H,Z,h⟩) O)
def ai2:TGs:=λvs σ H Q=>vs=[]/\Q σ H
def ZC(t:TG)(u:TGs):TGs:=λvs σ H Q=>∃v r,vs=v::r/\t v σ H λσ' H'=>u r σ' H' Q
theorem Sw:PGs X [] ai2:=by
 intro pins s σ H vs us Q I r h;obtain⟨e,h⟩:=h;subst e
 cases r;exact assignInOrder_nil ⟨σ,H,I,h⟩
theorem Ob{e:Expr}{es:List Expr}{t:TG}{u:TGs}(h1:PG X e t)(h2:PGs X es u)
 (hs:(assignEach (e::es) X.env).map (·.2)=assign e X.env::(assignEach es X.env).map (·.2):=by rfl):PGs X (e::es) (ZC t u):=by
 intro pins s σ H vs us Q I r h;obtain⟨v,U,W,h⟩:=h;subst W
 cases r with
 |cons r Y=>
  rw[hs];refine assignInOrder_cons (thn (h1 pins s σ H _ _ _ I r h) λ_ s1 ⟨Z,H1,V,q1⟩=>?_);exact h2 pins s1 Z H1 _ _ Q V Y q1
def ai3(K:PySem.W.Frag)(n:Nat)(t:TGs):TG:=λv σ H Q=>∃a xs,v = .ref a/\SqT K H a xs/\xs.length=n/\t xs σ H Q
theorem WY{es:List Expr}{k:Nat}{t:TGs}{n:Nat}(hc:X.calm=true)(h:PGs X es t)
 (hn:(assignEach es X.env).length=n:=by rfl) (O:(assignEach es X.env).findIdx? (·.1)=none:=by rfl):PG X (.Tuple es k pos) (ai3 X.K n t):=by
 intro pins s σ H v u Q I r hw;obtain⟨a,xs,W,hq,hl,hw⟩:=hw;subst W
 cases r;obtain⟨its,Z,Y,U⟩:=I.tuple hq;refine Sd (I.hq hc) Y (by simp[hn,<-hl,Z.length]) O λh' hx=>?_
 have V:=I.kept (t':=s.toks) λb o e=>hx b o (b_ (ae e)) e
 exact h pins _ σ H xs _ Q V (by simpa using Z) hw
def pO(to ti:TE)(t:WX):TG:=λv σ H Q=>to σ H λo H1=>ti σ H1 λi H2=>t o i v H2 λZ=>Q σ Z
theorem W0{o i:Expr}{to ti:TE}{t:WX}(ho:PE X o to)(hi:PE X i ti)(hs:Zz X t)
 (ha:∀v,assign (.Subscript o i pos) X.env v=(do
  let O <-holding [v] (eval o X.env)
  let Y <-holding [v,O] (eval i X.env)
  standAt pos
  holding [v,O,Y] (setItem O Y v)
  release [v,O,Y] []):=by intro _;rfl):PG X (.Subscript o i pos) (pO to ti t):=by
 intro pins s σ H v u Q I r h;rw[ha];refine aa (ak (thn (ho pins s σ H _ I h) λO s1 ⟨x,H1,T,W,q1⟩=>?_));refine aa (ak (thn (hi pins s1 σ H1 _ T q1) λY s2 ⟨y,H2,U,Z,q2⟩=>?_));refine aa (a_ (aa (ak (thn (hs pins s2 σ H2 x y v O Y u _ U W Z r q2) λ_ R ⟨S,V,q3⟩=>?_))));exact wpAny_release ⟨σ,S,V,q3⟩
def W2(te:TE)(g:TG):TS:=λD σ H=>te σ H λx H1=>g x σ H1 D.nx
theorem Od{tg e:Expr}{te:TE}{g:TG}(Y:PE X e te)(O:PG X tg g)(hs:swapsWithSole [tg] e pos.line X.env=pure false:=by rfl)(hw:swappedStores [tg] e X.env=pure none:=by rfl)
 (h1:(assignEach [tg] X.env).map (·.2)=[assign tg X.env]:=by rfl):PS X (.Assign [tg] e pos) (W2 te g):=by
 intro pins s σ H D I h;refine wpAny_Assign_stores (thn (Y pins s σ H _ I h) λv s1 ⟨x,H1,W,Z,q1⟩=>?_) hs hw;rw[h1];exact thn (O pins s1 σ H1 x v _ W Z q1) λ_ s2 q=>q
theorem yO{i:Nat}{x:Str}{e:Expr}{te:TE}{pos':Pos}(hN:X.N.Nodup)(hi:X.N[i]? = some x)(hx:Loc X.env.scope x)(Y:PE X e te)(hs:swapsWith e (some (.Name x pos')) pos.line X.env=pure false:=by rfl)(O:X.fn x=true\/X.env.scope.names.lookup x=some .local:=by first|exact .inl rfl|exact .inr rfl|assumption):
 PS X (.Assign [.Name x pos'] e pos) (W2 te (Oa i)):=by
 intro pins s σ H D I h;refine wpAny_Assign_Name (thn (Y pins s σ H _ I h) λv s1 ⟨y,H1,V,Z,q1⟩=>?_) hs;exact Ey V hN hi hx Z (λs2 W=>⟨_,H1,W,q1⟩) O
end
section
variable{X:Cx}{pos:Pos}
def W3(c:TT)(tb:TS):TS:=λD σ H=>∃W:Nat->St->Hp->Prop,(∃m,W m σ H)/\∀m σ H,W m σ H ->
 c σ H λb H1=>if b=true then ∃N:St->Hp->Prop,(∀σ' H',N σ' H'->∃Z,Z<m/\W Z σ' H')/\tb {D with nx:=N,ct:=N,bk:=D.nx} σ H1 else D.nx σ H1
theorem Oe{c:Expr}{body:List cm}{tc:TT}{tb:TS}(O:PassesOwn (model X.prog X.w) X.A X.env X.xe)(hc:PT X c tc)(hb:PSs X body tb):PS X (.While c body [] pos) (W3 tc tb):=by
 intro pins s σ H D I h;obtain⟨W,⟨M,w0⟩,turn⟩:=h;refine wpAny_While (codeAny_whileLoop (λn s'=>∃σ' H',Inv X pins σ' H' s'/\W n σ' H') ?_ M ⟨σ,H,I,w0⟩);rintro n s1 ⟨Y,H1,L,P⟩;refine aw O (thn (hc pins s1 Y H1 _ L (turn n Y H1 P)) λb s2 ⟨H2,Q,q2⟩=>?_)
 cases b with
 |true=>
  obtain⟨N,R,q2⟩:=q2;rw[if_pos rfl];refine aw O (thn (hb pins s2 Y H2 _ Q q2) λf K q3=>?_)
  cases f with
  |next=>
   obtain⟨Z,V,S,n3⟩:=q3;obtain⟨T,hm,U⟩:=R Z V n3;exact⟨T,hm,Z,V,S,U⟩
  |cont=>
   obtain⟨Z,V,S,n3⟩:=q3;obtain⟨T,hm,U⟩:=R Z V n3;exact⟨T,hm,Z,V,S,U⟩
  |brk=>exact q3
  |ret v=>exact q3
 |false=>
  rw[if_neg cX];exact aT ⟨Y,H2,Q,q2⟩
end
structure It where
 go:Nat->Hp->Prop
 yld:Nat->Hp->V->Hp->Prop
 stop:Nat->Hp->Prop
def wJ(X:Cx)(pins:List (Addr×Obj))(H:Hp)(b:Addr):Prop:=
 H b=none/\b≠X.env.locals/\b∉X.fs/\(b∈X.ex\/X.s₀.heap.objs.size<=b)/\(∀x c,X.env.cells.lookup x=some c->c≠b)/\∀p∈X.pn++pins,p.1≠b
theorem Inv.fpOk{X:Cx}{pins:List (Addr×Obj)}{σ:St}{H H':Hp}{s:bE}{b:Addr}(I:Inv X pins σ H s)(hb:s.heap.objs.size<=b)(hn:H' b=none):wJ X pins H' b:=by
 refine⟨hn,Nat.ne_of_gt (aZ I.lt hb),I.nofs hb,.inr (bM I.sz hb),λx c e z=>?_,λp Z z=>?_⟩
 ·obtain⟨v,q⟩:=I.cell x c e;exact absurd (aZ q.lt (by rwa[z])) (gQ _)
 ·exact absurd (aZ (ae (I.pin p Z).1) (by rwa[z])) (gQ _)
structure Turn(P:bP)(w:b8)(K:PySem.W.Frag)(tg:Expr)(J:It)(fp:List Addr)(it:Addr)(tn:Nat->cc->Prop)(q:Bool):Prop where
 mem:it∈fp
 obj:∀i h,tn i h->∀b∈fp,∃o,h.get? b=some o/\∀v,o.data ≠ .cell v
 keep:∀i h h',tn i h->(∀b∈fp,∀o,h.get? b=some o->h'.get? b=some o)->tn i h'
 item:∀(X:Cx),X.prog=P->X.w=w->X.K=K->X.calm=true->(q=true->X.still=true)->∀(i:Nat)(pins:List (Addr×Obj))(s:bE)(σ:St)(H:Hp)(E:Value->bE->Prop),Inv X pins σ H s->(∀b∈fp,wJ X pins H b)->tn i s.heap->J.go i H ->
  wpAny (model P w) X.A (pyNext (.ref it)) (λr s1=>∃u,r=some u /\
   wpAny (model P w) X.A (letOwnedTupleGo tg (.ref it) u) (λ_ s2=>∃x H',Inv X pins σ H' s2/\RelV x u/\J.yld i H x H'/\tn (i+1) s2.heap/\∀b∈fp,H' b=none) E s1) E s
 done:∀(X:Cx),X.prog=P->X.w=w->X.K=K->X.calm=true->(q=true->X.still=true)->∀(i:Nat)(pins:List (Addr×Obj))(s:bE)(σ:St)(H:Hp)(E:Value->bE->Prop),Inv X pins σ H s->(∀b∈fp,wJ X pins H b)->tn i s.heap->J.stop i H ->
  wpAny (model P w) X.A (pyNext (.ref it)) (λr s1=>r=none/\Inv X pins σ H s1) E s
 self:∀(A:bX)(i:Nat)(s:bE)(Q:Value->bE->Prop)(E:Value->bE->Prop),tn i s.heap->Q (.ref it) s->wpAny (model P w) A (pyIter (.ref it)) Q E s
abbrev TI:=St->Hp->(It->Hp->Prop)->Prop
def PIE(X:Cx)(pins:List (Addr×Obj))(σ:St)(tg:Expr)(R:It->Hp->Prop)(O:Value)(s2:bE):Prop:=
 ∃(it:Addr)(fp:List Addr)(tn:Nat->cc->Prop)(J:It)(H':Hp),O = .ref it/\Inv X pins σ H' s2/\Turn X.prog X.w X.K tg J fp it tn X.still/\tn 0 s2.heap/\(∀b∈fp,wJ X pins H' b)/\R J H'
def PI(X:Cx)(tg iter:Expr)(wi:TI):Prop:=
 ∀(pins:List (Addr×Obj))(s:bE)(σ:St)(H:Hp)(R:It->Hp->Prop),Inv X pins σ H s->wi σ H R ->
  wpAny (model X.prog X.w) X.A (eval iter X.env) (λv s1=>wpAny (model X.prog X.w) X.A (pyIter v) (PIE X pins σ tg R) X.xe s1) X.xe s
theorem JD{M:Model}{A:bX}{E:Value->bE->Prop}{s:bE}{tg:Expr}{it:Addr}{u:Value}{o:Obj}{n:String}{vs:Array Value}{Q:Unit->bE->Prop}(Y:s.heap.get? it=some o)(hc:o.cls = .type n)(hd:o.data = .fields vs)
 (hn:["enumerate", "zip", "dict_itemiterator", "dict_reverseitemiterator", "odict_iterator", "itertools.zip_longest", "itertools.pairwise"].contains n=false) (O:Q () s):wpAny M A (letOwnedTupleGo tg (.ref it) u) Q E s:=by
 cases tg<;>first
  |exact af O
  | (cases u<;>first
   |exact af O
   | (refine aa (wpAny_load Y ?_)
      rw[hc,hd];show wpAny M A (if(["enumerate", "zip", "dict_itemiterator", "dict_reverseitemiterator", "odict_iterator", "itertools.zip_longest", "itertools.pairwise"].contains n&&vs[0]? == some (rawInt _))=true then _ else _) Q E s;rw[if_neg (by intro h;rw[hn,oE]at h;cases h)];exact af O))
noncomputable def Itl(K:PySem.W.Frag)(a:Addr):It:=
 ⟨λi H=>∃xs x,SqL K H a xs/\xs[i]? = some x,λi H x H'=>H'=H/\∀xs,SqL K H a xs->xs[i]? = some x,λi H=>∃xs,SqL K H a xs/\xs.length<=i⟩
noncomputable def Itt(K:PySem.W.Frag)(a:Addr):It:=
 ⟨λi H=>∃xs x,SqT K H a xs/\xs[i]? = some x,λi H x H'=>H'=H/\∀xs,SqT K H a xs->xs[i]? = some x,λi H=>∃xs,SqT K H a xs/\xs.length<=i⟩
noncomputable def Itr(lo:Int)(n:Nat):It:=⟨λi _=>i<n,λi H x H'=>H'=H/\x = .int (lo+i),λi _=>n<=i⟩
theorem Li{P:bP}{w:b8}{K:PySem.W.Frag}{tg:Expr}{q:Bool}(a it:Addr):Turn P w K tg (Itl K a) [it] it (λi h=>h.IsListIter it a i) q where
 mem:=by simp
 obj:=λi h st b hb=>by
  have e:b=it:=by simpa using hb
  subst e;obtain⟨o,e,c,d⟩:=st;exact⟨o,e,λv z=>by rw[d]at z;cases z⟩
 keep:=λi h h' st k=>st.at λo e=>k it (by simp) o e
 item:=by
  intro X T hw hK hc _ i pins s σ H E I Y st U;subst T hw hK;obtain⟨xs,x,hq,hx⟩:=U;obtain⟨its,V,p,L⟩:=I.list hq;obtain⟨u,J,M⟩:=V.get hx;obtain⟨O,f1,f2,Q,R,S⟩:=Y it (by simp);refine wpAny_pyNext_list_item st p.isList (x:=u) (by simpa using J) λh' Z N=>?_
  have F:=I.turned (t':=s.toks) (λb o hb e=>(N.2 b hb).trans e) O f1 Q R S;obtain⟨o,e,c,d⟩:=id Z;exact⟨u,rfl,JD (s:={s with heap:=h'}) e c d (by decide) ⟨x,H,F,M,⟨rfl,λys hy=>by rwa[I.list_inj hy hq]⟩,Z,λb hb=>(Y b hb).1⟩⟩
 done:=by
  intro X T hw hK hc _ i pins s σ H E I Y st U;subst T hw hK;obtain⟨xs,hq,hx⟩:=U;obtain⟨its,V,p,L⟩:=I.list hq;obtain⟨O,f1,f2,Q,R,S⟩:=Y it (by simp);have hl:=V.length;exact Bd (I.hq hc) st p.isList (by simp;omega) λh' G=>⟨rfl,I.turned (t':=s.toks) (λb o hb e=>G b o hb e) O f1 Q R S⟩
 self:=λ_ _ _ _ _ st h=>wpAny_pyIter_listiter st h
theorem Hh{P:bP}{w:b8}{K:PySem.W.Frag}{tg:Expr}{q:Bool}(a it:Addr):Turn P w K tg (Itt K a) [it] it (λi h=>h.IsTupleIter it a i) q where
 mem:=by simp
 obj:=λi h st b hb=>by
  have e:b=it:=by simpa using hb
  subst e;obtain⟨o,e,c,d⟩:=st;exact⟨o,e,λv z=>by rw[d]at z;cases z⟩
 keep:=λi h h' st k=>st.at λo e=>k it (by simp) o e
 item:=by
  intro X T hw hK hc _ i pins s σ H E I Y st U;subst T hw hK;obtain⟨xs,x,hq,hx⟩:=U;obtain⟨its,V,p,L⟩:=I.tuple hq;obtain⟨u,J,M⟩:=V.get hx;obtain⟨O,f1,f2,Q,R,S⟩:=Y it (by simp);refine wpAny_pyNext_tuple_item st (show s.heap.IsTuple a its.toArray from p) (x:=u) (by simpa using J) λh' Z N=>?_
  have F:Inv X pins σ H {s with heap:=h'}:=I.turned (t':=s.toks) (λb o hb e=>(N.2 b hb).trans e) O f1 Q R S;obtain⟨o,e,c,d⟩:=id Z;exact⟨u,rfl,JD (s:={s with heap:=h'}) e c d (by decide) ⟨x,H,F,M,⟨rfl,λys hy=>by rw[I.tuple_inj hy hq];exact hx⟩,Z,λb hb=>(Y b hb).1⟩⟩
 done:=by
  intro X T hw hK hc _ i pins s σ H E I Y st U;subst T hw hK;obtain⟨xs,hq,hx⟩:=U;obtain⟨its,V,p,L⟩:=I.tuple hq;obtain⟨O,f1,f2,Q,R,S⟩:=Y it (by simp);have hl:=V.length;exact Er (I.hq hc) st (show IsTup s.heap a its.toArray from p) (by simp;omega) λh' G=>⟨rfl,I.turned (t':=s.toks) (λb o hb e=>G b o hb e) O f1 Q R S⟩
 self:=λ_ _ _ _ _ st h=>wpAny_pyIter_tupleiter st h
theorem Hi{P:bP}{w:b8}{K:PySem.W.Frag}{tg:Expr}{q:Bool}(it:Addr)(lo:Int)(n:Nat):Turn P w K tg (Itr lo n) [it] it (λi h=>IsRangeIter h it (lo+(i:Nat)*1) ((n:Int)-(i:Nat)) 1) q where
 mem:=by simp
 obj:=λi h st b hb=>by
  have e:b=it:=by simpa using hb
  subst e;exact⟨_,st,λv z=>by
   have O:Data.fields _=Data.cell v:=z
   cases O⟩
 keep:=λi h h' st k=>k it (by simp) _ st
 item:=by
  intro X U hw hK hc _ i pins s σ H E I Y st V;subst U hw hK;obtain⟨Q,f1,f2,R,S,T⟩:=Y it (by simp);refine wpAny_pyNext_range_item st (by have:i<n:=V;omega) λh' Z N=>?_
  have L:Inv X pins σ H {s with heap:=h',toks:=s.toks+1}:=I.turned (λb o hb e=>N.extBut b o hb e) Q f1 R S T;rw[show lo+(i:Int)*1+1=lo+((i+1:Nat):Int)*1 by omega,show(n:Int)-(i:Int)-1=(n:Int)-((i+1:Nat):Int)by omega]at Z;refine⟨_,rfl,JD (s:={s with heap:=h',toks:=s.toks+1}) (n := "range_iterator") Z rfl rfl (by decide) ⟨.int (lo+i),H,L,⟨s.toks,?_⟩,⟨rfl,rfl⟩,Z,λb hb=>(Y b hb).1⟩⟩;rw[Int.mul_one]
 done:=by
  intro X U hw hK hc _ i pins s σ H E I Y st V;subst U hw hK;obtain⟨Q,f1,f2,R,S,T⟩:=Y it (by simp);exact Hf (I.hq hc) st (by have:n<=i:=V;omega) λh' M=>⟨rfl,I.turned (t':=s.toks) (λb o hb e=>M b o hb e) Q f1 R S T⟩
 self:=λ_ _ _ _ _ st h=>wpAny_pyIter_rangeiter st h
end L2
namespace L2
section
variable{X:Cx}{tg:Expr}
def ZD(K:PySem.W.Frag)(tl:TE):TI:=λσ H R=>tl σ H λx H1=>∃a,x = .ref a/\(∃xs,SqL K H1 a xs)/\R (Itl K a) H1
def ai4(K:PySem.W.Frag)(tl:TE):TI:=λσ H R=>tl σ H λx H1=>∃a,x = .ref a/\(∃xs,SqT K H1 a xs)/\R (Itt K a) H1
theorem JF{l:Expr}{tl:TE}(hl:PE X l tl):PI X tg l (ZD X.K tl):=by
 intro pins s σ H R I h;refine thn (hl pins s σ H _ I h) λv s1 ⟨x,H1,Z,Y,q1⟩=>?_
 obtain⟨a,e,⟨xs,hq⟩,q⟩:=q1;subst e
 cases Y;obtain⟨its,W,p,V⟩:=Z.list hq;refine wpAny_pyIter_list p.isList ?_;refine⟨s1.heap.objs.size,[s1.heap.objs.size],_,_,H1,rfl,Z.kept (t':=s1.toks) λb o e=>ad _ e,Li a _,⟨_,ag _ rfl,rfl,rfl⟩,λb hb=>?_,q⟩;have e:b=s1.heap.objs.size:=by simpa using hb
 subst e;exact Z.fpOk (aQ _) (Z.hok.fresh (aQ _))
theorem W4{l:Expr}{tl:TE}(hl:PE X l tl):PI X tg l (ai4 X.K tl):=by
 intro pins s σ H R I h;refine thn (hl pins s σ H _ I h) λv s1 ⟨x,H1,Z,Y,q1⟩=>?_
 obtain⟨a,e,⟨xs,hq⟩,q⟩:=q1;subst e
 cases Y;obtain⟨its,W,p,V⟩:=Z.tuple hq;refine wpAny_pyIter_tuple (show s1.heap.IsTuple a its.toArray from p) ?_;refine⟨s1.heap.objs.size,[s1.heap.objs.size],_,_,H1,rfl,Z.kept (t':=s1.toks) λb o e=>ad _ e,Hh a _,⟨_,ag _ rfl,rfl,rfl⟩,λb hb=>?_,q⟩;have e:b=s1.heap.objs.size:=by simpa using hb
 subst e;exact Z.fpOk (aQ _) (Z.hok.fresh (aQ _))
theorem EY{pins:List (Addr×Obj)}{σ:St}{H:Hp}{s:bE}{R:It->Hp->Prop}{E:Value->bE->Prop}{lo hi:Int}{t u v:Tok}{tk:Nat}(I:Inv X pins σ H s)(h1 : -(2^62)<=lo)(h2:lo<2^62)(h3 : -(2^62)<=hi)(h4:hi<2^62)
 (q:R (Itr lo (hi-lo).toNat) H):wpAny (model X.prog X.w) X.A (pyIter (.ref s.heap.objs.size)) (PIE X pins σ tg R) E {s with heap:=s.heap.push {cls:=.type "range", data:=.fields #[.int lo t,.int hi u,.int 1 v]},toks:=tk}:=by
 refine wpAny_pyIter_range (IsRange.new ..) (small_one h1 h2 h3 h4) ?_;have Z:Inv X pins σ H {s with heap:=s.heap.push {cls:=.type "range", data:=.fields #[.int lo t,.int hi u,.int 1 v]},toks:=tk}:=I.kept λb o e=>ad _ e
 refine⟨(s.heap.push {cls:=.type "range", data:=.fields #[.int lo t,.int hi u,.int 1 v]}).objs.size,[(s.heap.push {cls:=.type "range", data:=.fields #[.int lo t,.int hi u,.int 1 v]}).objs.size],_,_,H,rfl,
  Z.kept (t':=tk) λb o e=>ad _ e,Hi _ lo (hi-lo).toNat,?_,λb hb=>?_,q⟩
 ·have W:lo+((0:Nat):Int)*1=lo:=by simp
  have Y:(((hi-lo).toNat:Nat):Int)-((0:Nat):Int)=Builtin.Range.rangeSize lo hi 1:=by rw[rangeSize_one];split<;>omega
  rw[W,Y];exact ag _ rfl
 ·have e:b=(s.heap.push {cls:=.type "range", data:=.fields #[.int lo t,.int hi u,.int 1 v]}).objs.size:=by simpa using hb
  subst e;exact Z.fpOk (aQ _) (Z.hok.fresh (aQ _))
def ZF(ta:TA):TI:=λσ H R=>ta σ H λvs H1=>∃j:Int,vs=[.int j]/\-(2^62)<=j/\j<2^62/\R (Itr 0 j.toNat) H1
def ZG(ta:TA):TI:=λσ H R=>ta σ H λvs H1=>∃i j:Int,vs=[.int i,.int j]/\(-(2^62)<=i/\i<2^62/\-(2^62)<=j/\j<2^62)/\R (Itr i (j-i).toNat) H1
theorem Lj{a:Expr}{ta:TA}{p pos:Pos}(O:Gl X "range")(hm:X.mg "range"=none)(ha:PA X [a] ta)(hs:starEach [a] X.env=[(false,eval a X.env)]:=by rfl):PI X tg (.Call (.Name "range" p) [a] [] pos) (ZF ta):=by
 intro pins s σ H R I h;refine Call_ (wI I O hm boot_range (cE (thn (ha pos pins s σ H _ I h) λus s1 ⟨vs,H1,W,Y,q1⟩=>?_) hs rfl));obtain⟨j,e,q1,q2,q⟩:=q1;subst e
 cases Y with
 |cons r Z=>
  cases Z;obtain⟨t,rfl⟩:=r;exact call_range_1 (EY W (by omega) (by omega) q1 q2 (by simpa using q))
theorem Lk{a b:Expr}{ta:TA}{p pos:Pos}(hg:Gl X "range")(hm:X.mg "range"=none)(ha:PA X [a,b] ta)(hs:starEach [a,b] X.env=[(false,eval a X.env),(false,eval b X.env)]:=by rfl)(O:starEach [b] X.env=[(false,eval b X.env)]:=by rfl):
 PI X tg (.Call (.Name "range" p) [a,b] [] pos) (ZG ta):=by
 intro pins s σ H R I h;refine Call_ (wI I hg hm boot_range (cE (thn (ha pos pins s σ H _ I h) λus s1 ⟨vs,H1,V,Y,q1⟩=>?_) (by rw[hs,O]) (by rw[O];rfl)));obtain⟨i,j,e,⟨q1,q2,q3,q4⟩,q⟩:=q1;subst e
 cases Y with
 |cons r Z=>
  cases Z with
  |cons W Z=>
   cases Z;obtain⟨t,rfl⟩:=r;obtain⟨U,rfl⟩:=W;exact call_range_2 (EY V q1 q2 q3 q4 q)
def ZJ(wi:TI)(g:TG)(tb:TS):TS:=λD σ H=>wi σ H λJ H1=>∃W:Nat->Nat->St->Hp->Prop,(∃m,W 0 m σ H1)/\∀i m σ H,W i m σ H ->
 (J.stop i H/\D.nx σ H)\/(J.go i H/\∃N:St->Hp->Prop,(∀σ' H',N σ' H'->∃Y,Y<m/\W (i+1) Y σ' H')/\∀x H',J.yld i H x H'->g x σ H' λZ H2=>tb {D with nx:=N,ct:=N,bk:=D.nx} Z H2)
def yP(fp:List Addr)(h:cc):List (Addr×Obj):=fp.filterMap λb=>(h.get? b).map λo=>(b,o)
theorem qp{fp:List Addr}{h:cc}{b:Addr}{o:Obj}(hb:b∈fp)(e:h.get? b=some o):(b,o)∈yP fp h:=uG.mpr ⟨b,hb,by rw[e];rfl⟩
theorem Ln{fp:List Addr}{h:cc}{p:Addr×Obj}(O:p∈yP fp h):p.1∈fp/\h.get? p.1=some p.2:=by
 obtain⟨b,hb,e⟩:=uG.mp O
 cases q:h.get? b with
 |none=>rw[q]at e;cases e
 |some o=>
  rw[q]at e;have Z:(b,o)=p:=dB.inj e;subst Z;exact⟨hb,q⟩
theorem Inv.pinned{pins:List (Addr×Obj)}{σ:St}{H:Hp}{s:bE}{fp:List Addr}(I:Inv X pins σ H s)(hf:∀b∈fp,wJ X pins H b)(O:∀b∈fp,∃o,s.heap.get? b=some o/\∀v,o.data ≠ .cell v):Inv X (pins++yP fp s.heap) σ H s:=
 I.pins_of λp Y=>(cJ.mp Y).elim (λz=>I.pin p (bw _ z)) λz=>by
  obtain⟨hb,e⟩:=Ln z;obtain⟨W,f1,f2,_⟩:=hf p.1 hb;obtain⟨o,Z,d⟩:=O p.1 hb;rw[e]at Z;cases Z;exact⟨e,W,f1,f2,d⟩
theorem Inv.unpinned{pins pl:List (Addr×Obj)}{σ:St}{H:Hp}{s:bE}(I:Inv X (pins++pl) σ H s):Inv X pins σ H s:=I.pins_of λp Z=>I.pin p (bw _ (cV _ Z))
theorem W5{iter:Expr}{body:List cm}{wi:TI}{g:TG}{tb:TS}{pos:Pos}(O:PassesOwn (model X.prog X.w) X.A X.env X.xe)(hc:X.calm=true)(hi:PI X tg iter wi)(hg:PG X tg g)(hb:PSs X body tb)
 (hs:∀x,foldedSetIterable iter X.env x=pure x:=by intro _;rfl):PS X (.For tg iter body [] pos) (ZJ wi g tb):=by
 intro pins s σ H D I h;refine wpAny_For (thn (hi pins s σ H _ I h) λv s1 h1=>thn h1 λitv s2 h2=>?_) hs;obtain⟨it,fp,tn,J,H2,e,I2,T,G,f2,W,⟨m0,w0⟩,turn⟩:=h2;subst e;have V:∀{H':Hp},(∀b∈fp,H' b=none)->∀b∈fp,wJ X pins H' b:=λhn b hb=>⟨hn b hb,(f2 b hb).2⟩
 refine codeAny_forLoop_any (λn s'=>∃i σ' H',Inv X pins σ' H' s'/\tn i s'.heap/\(∀b∈fp,H' b=none)/\W i n σ' H') ?_ m0 ⟨0,σ,H2,I2,G,λb hb=>(f2 b hb).1,w0⟩;rintro n t ⟨i,Y,L,q,Q,M,c⟩;rcases turn i n Y L c with⟨stop,qn⟩|⟨go,N,hN,step⟩
 ·refine aw O (thn (T.done X rfl rfl rfl hc (λz=>z) i pins t Y L X.xe q (V M) Q stop) λr s4 ⟨E,I4⟩=>?_);subst E;exact aT ⟨Y,L,I4,qn⟩
 ·refine aw O (thn (T.item X rfl rfl rfl hc (λz=>z) i pins t Y L X.xe q (V M) Q go) λr s4 ⟨u,E,h4⟩=>?_);subst E;refine aw O (thn h4 λ_ y ⟨x,p,I5,r5,l,R,C⟩=>?_);have B:=I5.pinned (V C) (T.obj _ _ R);refine aw O (thn (hg _ y Y p x u _ B r5 (step x p l)) λ_ a ⟨K,H6,I6,q6⟩=>?_);refine aw O (thn (hb _ a K H6 _ I6 q6) λf F q7=>?_);have again:∀{Z:St}{S:Hp},Inv X (pins++yP fp y.heap) Z S F->N Z S->∃m,m<n/\∃i σ' H',Inv X pins σ' H' F/\tn i F.heap/\(∀b∈fp,H' b=none)/\W i m σ' H':=λ{Z S} U P=>by
   obtain⟨m',hm,j⟩:=hN Z S P;refine⟨m',hm,i+1,Z,S,U.unpinned,T.keep _ _ _ R λb hb o e=>(U.pin (b,o) (bw _ (bw _ (qp hb e)))).1,λb hb=>?_,j⟩;obtain⟨o,e,d⟩:=T.obj _ _ R b hb;exact(U.pin (b,o) (bw _ (bw _ (qp hb e)))).2.1
  cases f with
  |next=>obtain⟨Z,S,U,P⟩:=q7;exact again U P
  |cont=>obtain⟨Z,S,U,P⟩:=q7;exact again U P
  |brk=>obtain⟨Z,S,U,q7⟩:=q7;exact⟨Z,S,U.unpinned,q7⟩
  |ret v=>obtain⟨k,Z,S,U,r7,q7⟩:=q7;exact⟨k,Z,S,U.unpinned,r7,q7⟩
end
end L2
namespace L2
abbrev R2:=V->V->Hp->VK->Prop
def OpR(X:Cx)(f:Value->Value->Sem Value)(r:R2):Prop:=
 ∀(pins:List (Addr×Obj))(s:bE)(σ:St)(H:Hp)(x y:V)(v u:Value)(Q:VK),Inv X pins σ H s->RelV x v->RelV y u->r x y H Q ->
  wpAny (model X.prog X.w) X.A (f v u) (EP X pins σ Q) X.xe s
def UnR(X:Cx)(f:Value->Sem Value)(r:V->Hp->VK->Prop):Prop:=
 ∀(pins:List (Addr×Obj))(s:bE)(σ:St)(H:Hp)(x:V)(v:Value)(Q:VK),Inv X pins σ H s->RelV x v->r x H Q ->
  wpAny (model X.prog X.w) X.A (f v) (EP X pins σ Q) X.xe s
def jP(X:Cx)(f:Value)(r:List V->Hp->VK->Prop):Prop:=
 ∀(pins:List (Addr×Obj))(s:bE)(σ:St)(H:Hp)(xs:List V)(us:List Value)(Q:VK),Inv X pins σ H s->Vals xs us->r xs H Q ->
  wpAny (model X.prog X.w) X.A (call f us) (EP X pins σ Q) X.xe s
def tOp(r:R2)(ta tb:TE):TE:=λσ H Q=>ta σ H λx H1=>tb σ H1 λy H2=>r x y H2 Q
def tUn(r:V->Hp->VK->Prop)(ta:TE):TE:=λσ H Q=>ta σ H λx H1=>r x H1 Q
def rI(C:Int->Int->Prop)(g:Int->Int->V):R2:=λx y H Q=>∃i j,x = .int i/\y = .int j/\C i j/\Q (g i j) H
def rI0(g:Int->Int->V):R2:=λx y H Q=>∃i j,x = .int i/\y = .int j/\Q (g i j) H
def rU(g:Int->V):V->Hp->VK->Prop:=λx H Q=>∃i,x = .int i/\Q (g i) H
section
variable{X:Cx}{a b c:Expr}{ta tb tc:TE}{pos:Pos}
theorem W6(ha:PE X a ta)(hb:PE X b tb){pins:List (Addr×Obj)}{s:bE}{σ:St}{H:Hp}{R:V->V->Hp->Prop}(I:Inv X pins σ H s)
 (h:ta σ H λx H1=>tb σ H1 λy H2=>R x y H2) {Q:Value->bE->Prop} {f:Value->Value->Sem Value}
 (hf:∀v u s2 x y H2,Inv X pins σ H2 s2->RelV x v->RelV y u->R x y H2->wpAny (model X.prog X.w) X.A (f v u) Q X.xe s2) :
 wpAny (model X.prog X.w) X.A (eval a X.env) (λv Y=>wpAny (model X.prog X.w) X.A (eval b X.env) (λu O=>wpAny (model X.prog X.w) X.A (f v u) Q X.xe O) X.xe Y) X.xe s:=by
 refine thn (ha pins s σ H _ I h) λv s1 ⟨x,H1,T,W,q1⟩=>?_
 refine thn (hb pins s1 σ H1 _ T q1) λu s2 ⟨y,H2,U,Z,q2⟩=>?_
 exact hf v u s2 x y H2 U W Z q2
theorem JG{op:Operator}{r:R2}(O:OpR X (binaryOp op) r)(ha:PE X a ta)(hb:PE X b tb):PE X (.BinOp a op b pos) (tOp r ta tb):=by
 intro pins s σ H Q I h;exact wpAny_BinOp (W6 ha hb I h λv u s2 x y H2 W Y Z q=>O pins s2 σ H2 x y v u Q W Y Z q)
theorem ZK{op:UnaryOp}{r:V->Hp->VK->Prop}(O:UnR X (unaryOp op) r)(ha:PE X a ta):PE X (.UnaryOp op a pos) (tUn r ta):=by
 intro pins s σ H Q I h;exact UnaryOp_ (thn (ha pins s σ H _ I h) λv s1 ⟨x,H1,Y,Z,q1⟩=>O pins s1 σ H1 x v Q Y Z q1)
theorem opI{f:Value->Value->Sem Value}{C:Int->Int->Prop}{g:Int->Int->Int}
 (rule:∀(i j:Int)(t u:Tok)(s:bE)(Q:Value->bE->Prop)(E:Value->bE->Prop),C i j->Q (.int (g i j) s.toks) {s with toks:=s.toks+1}->wpAny (model X.prog X.w) X.A (f (.int i t) (.int j u)) Q E s) :
 OpR X f (rI C λi j=>.int (g i j)):=by
 intro pins s σ H x y v u Q I W Y h;obtain⟨i,j,rfl,rfl,hc,q⟩:=h;obtain⟨t,rfl⟩:=W;obtain⟨Z,rfl⟩:=Y;exact rule i j t Z s _ _ hc ⟨.int (g i j),H,I.tok _,⟨_,rfl⟩,q⟩
theorem ZL{f:Value->Value->Sem Value}{g:Int->Int->Int}
 (rule:∀(i j:Int)(t u:Tok)(s:bE)(Q:Value->bE->Prop)(E:Value->bE->Prop),Q (.int (g i j) s.toks) {s with toks:=s.toks+1}->wpAny (model X.prog X.w) X.A (f (.int i t) (.int j u)) Q E s) :
 OpR X f (rI0 λi j=>.int (g i j)):=by
 intro pins s σ H x y v u Q I W Y h;obtain⟨i,j,rfl,rfl,q⟩:=h;obtain⟨t,rfl⟩:=W;obtain⟨Z,rfl⟩:=Y;exact rule i j t Z s _ _ ⟨.int (g i j),H,I.tok _,⟨_,rfl⟩,q⟩
theorem Sx{f:Value->Value->Sem Value}{g:Int->Int->Bool}
 (rule:∀(i j:Int)(t u:Tok)(s:bE)(Q:Value->bE->Prop)(E:Value->bE->Prop),Q (.bool (g i j)) s->wpAny (model X.prog X.w) X.A (f (.int i t) (.int j u)) Q E s) :
 OpR X f (rI0 λi j=>.bl (g i j)):=by
 intro pins s σ H x y v u Q I W Y h;obtain⟨i,j,rfl,rfl,q⟩:=h;obtain⟨t,rfl⟩:=W;obtain⟨Z,rfl⟩:=Y;exact rule i j t Z s _ _ ⟨.bl (g i j),H,I,rfl,q⟩
def Og(i j:Int):Prop:=0<=j/\j<=1000000/\i.natAbs<2^64
def ZM(i j:Int):Prop:=(-(2^64)<i/\i<2^64)\/(-(2^64)<j/\j<2^64)
theorem ZM.ok{i j:Int}(h:ZM i j):IntMulOk i j:=by
 rcases h with⟨h1,h2⟩|⟨h1,h2⟩
 ·exact .of_left (intBits_le_64 h1 h2)
 ·exact .of_right (intBits_le_64 h1 h2)
theorem fY:OpR X (binaryOp .Add) (rI0 λi j=>.int (i+j)):=ZL λ_ _ _ _ _ _ _ q=>add_int q
theorem yQ:OpR X (binaryOp .Sub) (rI0 λi j=>.int (i-j)):=ZL λ_ _ _ _ _ _ _ q=>sub_int q
theorem fu:OpR X (binaryOp .Mod) (rI (λ_ j=>j≠0) λi j=>.int (i.fmod j)):=opI λ_ _ _ _ _ _ _ hc q=>mod_int' hc q
theorem Hj:OpR X (binaryOp .Pow) (rI Og λi j=>.int (i^j.toNat)):=opI λ_ _ _ _ _ _ _ hc q=>pow_int_small hc.1 hc.2.1 hc.2.2 q
theorem Oh:OpR X (binaryOp .LShift) (rI Og λi j=>.int (i*2^j.toNat)):=opI λ_ _ _ _ _ _ _ hc q=>lshift_int_small hc.1 hc.2.1 hc.2.2 q
theorem unI{f:Value->Sem Value}{g:Int->Int}
 (rule:∀(i:Int)(t:Tok)(s:bE)(Q:Value->bE->Prop)(E:Value->bE->Prop),Q (.int (g i) s.toks) {s with toks:=s.toks+1}->wpAny (model X.prog X.w) X.A (f (.int i t)) Q E s) :
 UnR X f (rU λi=>.int (g i)):=by
 intro pins s σ H x v Q I Z h;obtain⟨i,rfl,q⟩:=h;obtain⟨t,rfl⟩:=Z;exact rule i t s _ _ ⟨.int (g i),H,I.tok _,⟨_,rfl⟩,q⟩
theorem W7:UnR X (unaryOp .USub) (rU λi=>.int (-i)):=unI λ_ _ _ _ _ q=>neg_int q
end
section
variable{X:Cx}{a b c:Expr}{ta tb tc:TE}{pos:Pos}
theorem W8{pins:List (Addr×Obj)}{σ:St}{H:Hp}{s:bE}{Q:VK}{k O:Bool}(I:Inv X pins σ H s)(q:Q (.bl k) H)(e:k=O):EP X pins σ Q (.bool O) s:=by
 subst e;exact⟨.bl k,H,I,rfl,q⟩
theorem uq:OpR X (compareOp .Lt) (rI0 λi j=>.bl (decide (i<j))):=Sx λ_ _ _ _ _ _ _ q=>lt_int q
theorem o8:OpR X (compareOp .LtE) (rI0 λi j=>.bl (decide (i<=j))):=Sx λ_ _ _ _ _ _ _ q=>le_int q
theorem JH:OpR X (compareOp .Gt) (rI0 λi j=>.bl (decide (j<i))):=Sx λ_ _ _ _ _ _ _ q=>gt_int q
theorem Bg:OpR X (compareOp .GtE) (rI0 λi j=>.bl (decide (j<=i))):=Sx λ_ _ _ _ _ _ _ q=>ge_int q
theorem OpR.or{f:Value->Value->Sem Value}{r O:R2}(h:OpR X f r)(h':OpR X f O):OpR X f (λx y H Q=>r x y H Q\/O x y H Q):=by
 intro pins s σ H x y v u Q I Y Z q;rcases q with q|q
 ·exact h pins s σ H x y v u Q I Y Z q
 ·exact h' pins s σ H x y v u Q I Y Z q
theorem dh(b:Expr){op:eg}(h:op ≠ .In:=by decide)(h2:op ≠ .NotIn:=by decide):behindInMarks op b=false:=by
 have Y:(op==CmpOp.In)=false:=by cases op<;>first|rfl|exact absurd rfl h
 have Z:(op==CmpOp.NotIn)=false:=by cases op<;>first|rfl|exact absurd rfl h2
 cases b<;>simp[behindInMarks,Y,Z]
theorem SJ{op:eg}{r:R2}(O:OpR X (compareOp op) r)(ha:PE X a ta)(hb:PE X b tb)(hm:behindInMarks op b=false):PE X (.Compare a [op] [b] pos) (tOp r ta tb):=by
 intro pins s σ H Q I h;exact wpAny_Compare1 (W6 ha hb I h λv u s2 x y H2 W Y Z q=>O pins s2 σ H2 x y v u Q W Y Z q) hm
def VL(t:TE):TT:=λσ H Q=>t σ H λx H'=>∃k,x = .bl k/\Q k H'
theorem SM{op:eg}{r:R2}(O:OpR X (compareOp op) r)(ha:PE X a ta)(hb:PE X b tb)(hm:behindInMarks op b=false):PT X (.Compare a [op] [b] pos) (VL (tOp r ta tb)):=by
 intro pins s σ H Q I h;refine wpAny_isTrue_Compare1 (thn (ha pins s σ H _ I h) λv s1 ⟨x,H1,T,W,q1⟩=>thn (hb pins s1 σ H1 _ T q1) λu s2 ⟨y,H2,U,Y,q2⟩=>
  thn (O pins s2 σ H2 x y v u _ U W Y q2) λc R ⟨z,S,V,Z,k,e,q3⟩=>?_) hm
 subst e
 cases Z;exact ah ⟨S,V,q3⟩
noncomputable def Oi(r O:R2)(ta tb tc:TE):TE:=λσ H Q=>ta σ H λx H1=>tb σ H1 λy H2=>r x y H2 λz Z=>∃k,z = .bl k /\
 (if k=true then tc σ Z λY X=>O y Y X Q else Q (.bl false) Z)
theorem Oj{op O:eg}{r r':R2}(ho:OpR X (compareOp op) r)(Y:OpR X (compareOp O) r')(ha:PE X a ta)(hb:PE X b tb)(hc:PE X c tc)
 (hm:lastMarks [op,O] [b,c]=false:=by with_unfolding_all rfl):PE X (.Compare a [op,O] [b,c] pos) (Oi r r' ta tb tc):=by
 intro pins s σ H Q I h;refine Compare_chain (thn (ha pins s σ H _ I h) λv s1 ⟨x,H1,J,M,q1⟩=>chain_link (thn (hb pins s1 σ H1 _ J q1) λu s2 ⟨y,H2,K,Z,q2⟩=>
  thn (ho pins s2 σ H2 x y v u _ K M Z q2) λd R ⟨z,V,W,N,k,e,q3⟩=>?_)) hm
 subst e
 cases N;refine ah ?_
 cases k with
 |false=>exact ite_ff ⟨.bl false,V,W,rfl,q3⟩
 |true=>exact ite_tt (chain_last (thn (hc pins R σ V _ W q3) λT S ⟨U,G,L,P,q4⟩=>Y pins S σ G y U u T Q L Z P q4))
theorem Ol{op O:eg}{r r':R2}(ho:OpR X (compareOp op) r)(Y:OpR X (compareOp O) r')(ha:PE X a ta)(hb:PE X b tb)(hc:PE X c tc)
 (hm:lastMarks [op,O] [b,c]=false:=by with_unfolding_all rfl):PT X (.Compare a [op,O] [b,c] pos) (VL (Oi r r' ta tb tc)):=by
 intro pins s σ H Q I h;refine isTrue_chain (thn (ha pins s σ H _ I h) λv s1 ⟨x,H1,C,L,q1⟩=>test_link (thn (hb pins s1 σ H1 _ C q1) λu s2 ⟨y,H2,D,Z,q2⟩=>
  thn (ho pins s2 σ H2 x y v u _ D L Z q2) λd R ⟨z,V,W,M,k,e,q3⟩=>?_)) hm
 subst e
 cases M;refine ah ?_
 cases k with
 |false=>
  obtain⟨q,G,K⟩:=q3
  cases G;exact ite_ff ⟨V,W,K⟩
 |true=>
  refine ite_tt (test_last (thn (hc pins R σ V _ W q3) λT S ⟨U,A,E,N,q4⟩=>thn (Y pins S σ A y U u T _ E Z N q4) λp t ⟨w,B,F,P,k2,J,q5⟩=>?_));subst J
  cases P;exact ah ⟨B,F,q5⟩
theorem uM:(sizeLine:Nat)<2^63:=by rw[sizeLine_eq];decide
theorem yR:OpR X (binaryOp .Add) (λx y H Q=>∃i j,x = .str i/\y = .str j/\i.length+j.length<=sizeLine/\Q (.str (i++j)) H):=by
 intro pins s σ H x y v u Q I W Y h;obtain⟨i,j,rfl,rfl,V,q⟩:=h;obtain⟨t,rfl⟩:=W;obtain⟨Z,rfl⟩:=Y;exact add_str (λZ tk=>⟨.str (i++j),H,I.tok _,⟨_,rfl⟩,q⟩) V
theorem vals1{x:V}{us:List Value}(r:Vals [x] us):∃u,us=[u]/\RelV x u:=by
 cases r with
 |cons Y Z=>cases Z;exact⟨_,rfl,Y⟩
theorem vals2{x y:V}{us:List Value}(r:Vals [x,y] us):∃u O,us=[u,O]/\RelV x u/\RelV y O:=by
 cases r with
 |cons W X=>
  cases X with
  |cons Y Z=>cases Z;exact⟨_,_,rfl,W,Y⟩
theorem yS:jP X (.builtin "abs") (λxs H Q=>∃i,xs=[.int i]/\Q (.int (if i<0 then -i else i)) H):=by
 intro pins s σ H xs us Q I r h;obtain⟨i,rfl,q⟩:=h;obtain⟨u,rfl,t,rfl⟩:=vals1 r;exact call_abs_int λu tk=>⟨.int (if i<0 then -i else i),H,I.tok _,⟨_,rfl⟩,q⟩
theorem Lp(hc:X.still=true):jP X (.builtin "max") (λxs H Q=>∃i j,xs=[.int i,.int j]/\Q (.int (if j>i then j else i)) H):=by
 intro pins s σ H xs us Q I r h;obtain⟨i,j,rfl,q⟩:=h;obtain⟨u,Y,rfl,⟨t,rfl⟩,⟨W,rfl⟩⟩:=vals2 r;refine max_two_ints (I.ok.hs hc) λh' tk k=>⟨_,H,I.kept k,?_,q⟩
 by_cases Z:j>i
 ·rw[if_pos Z,if_pos Z];exact⟨_,rfl⟩
 ·rw[if_neg Z,if_neg Z];exact⟨_,rfl⟩
theorem Lq(hc:X.still=true):jP X (.builtin "min") (λxs H Q=>∃i j,xs=[.int i,.int j]/\Q (.int (if j<i then j else i)) H):=by
 intro pins s σ H xs us Q I r h;obtain⟨i,j,rfl,q⟩:=h;obtain⟨u,Y,rfl,⟨t,rfl⟩,⟨W,rfl⟩⟩:=vals2 r;refine min_two_ints (I.ok.hs hc) λh' tk k=>⟨_,H,I.kept k,?_,q⟩
 by_cases Z:j<i
 ·rw[if_pos Z,if_pos Z];exact⟨_,rfl⟩
 ·rw[if_neg Z,if_neg Z];exact⟨_,rfl⟩
end
end L2
namespace L2
structure ObjM(h:cc)(x dx C:Addr)(mA:Str->Option Value):Prop where
 obj:h.get? x=some (PySem.W.instObj C dx)
 ns:h.Ns1 dx mA
 ne:dx≠x
theorem Lr{h:cc}{dx:Addr}{mA:Str->Option Value}(n:h.Ns1 dx mA):∃od,h.get? dx=some od/\∀name,PySem.W.lookIn name od=some (mA name):=by
 obtain⟨o,es,U,Y,hd,X,_,hm⟩:=n;refine⟨o,Y,λname=>?_⟩;have e:=hm name;unfold nsFind findBy at e;rw[<-uH]at e;unfold PySem.W.lookIn;rw[hd];dsimp only;split
 ·rename_i y q;rw[q]at e;exact congrArg some e
 ·rename_i q;rw[q]at e;have a:es.toList.any (·.refKey)=false:=by
   rw[List.any_eq_false];intro y hy;obtain⟨z,t,Z⟩:=X y (rP.mp hy);simp[DictEntry.refKey,Z]
  have V:¬es.toList.any (·.refKey)=true:=by rw[a];exact cX
  rw[if_neg V];exact congrArg some e
theorem ObjM.look{h:cc}{x dx C:Addr}{mA:Str->Option Value}(I:ObjM h x dx C mA):∃od,PySem.W.InstAt h x (PySem.W.instObj C dx) C (some od)/\∀name,PySem.W.lookIn name od=some (mA name):=
 let⟨od,Z,hl⟩:=Lr I.ns
 ⟨od,⟨I.obj,rfl,rfl,Z⟩,hl⟩
section
variable{prog:bP}{w:b8}{A:bX}{E:Value->bE->Prop}{s:bE}{K:PySem.W.Frag}{x dx C f:Addr}{mA:Str->Option Value}{name:Str}{v:Value}
theorem get_map{expr:Bool}{Q:Value->bE->Prop}(X:K.In s.heap)(I:ObjM s.heap x dx C mA)(hg:PySem.W.plainGet K C name=true)(Z:PySem.W.hasDictIn K C=true)
 (ha:PySem.W.findIn K (.ref C) name=some none) (Y:mA name=some v) (O:PySem.W.handedIn v=true) (h:Q v {s with toks:=s.toks+1}) :
 wpAny (model prog w) A (getAttr (.ref x) name expr) Q E s:=by
 obtain⟨od,J,hl⟩:=I.look;exact PySem.W.get_value X J (PySem.W.plainGet_of hg).1 (PySem.W.findObj_own Z ha rfl (by rw[hl,Y])) O h
theorem Om{pl:Sem Bool}{Q:Value×List Value->bE->Prop}(X:K.In s.heap)(I:ObjM s.heap x dx C mA)(O:PySem.W.plainGet K C name=true)
 (hf:PySem.W.findIn K (.ref C) name=some (some (.ref f))) (Z:PySem.W.isFn K (.ref f)=true) (Y:mA name=none) (h:Q (.ref f,[.ref x]) s) :
 wpAny (model prog w) A (getMethod (.ref x) name pl) Q E s:=by
 obtain⟨od,J,hl⟩:=I.look;exact PySem.W.method_fn X J (PySem.W.plainGet_of O).1 (PySem.W.plainGet_of O).2 hf (beq_iff_eq.mp Z) (by show(PySem.W.lookIn name od).map (·.isSome)=some false;rw[hl,Y];rfl) h
theorem SN{ns:List Str}{Q:Unit->bE->Prop}(X:K.In s.heap)(I:ObjM s.heap x dx C mA)
 (hs:PySem.W.findIn K (.ref C) "__setattr__"=some (some (.builtin "object.__setattr__"))) (hp:PySem.W.plainOver K C=true) (O:PySem.W.takerIn K C name=some none) (hh:PySem.W.hasDictIn K C=true)
 (hw:PySem.Within mA ns) (hsz:ns.length<=sizeLine)
 (h:∀h',ObjM h' x dx C (λy=>if y=name then some v else mA y)->dv dx s.heap h'->Q () {s with heap:=h',toks:=s.toks+2}) :
 wpAny (model prog w) A (setAttr (.ref x) name v) Q E s:=by
 obtain⟨od,J,hl⟩:=I.look;refine PySem.W.set_plain X J hs (PySem.W.osa_open (s:={s with toks:=s.toks+1}) (r:=none) X J hp O λb=>?_);obtain⟨P,hc,U⟩:=PySem.W.any_some hh;have hx:=I.obj;refine aa (af (aa (aa (wpAny_loadPart hx (aa (PySem.W.Looks.here (s:={s with toks:=s.toks+1}) (PySem.W.looks_clsIn X hc) ?_))))));rw[U];refine af (a:=some dx) (aa (af (aa ?_)));refine wpAny_nsSet1 (s:={s with toks:=s.toks+1}) I.ns λh' Y Z=>?_
 obtain⟨oD,S,R,hoD,V,T⟩:=Y.count (PySem.Within.cons name v hw);refine aa (wpAny_lookBehind hoD (by rw[V];exact pastItsLine_dict (bM T (by rw[bC];omega))) ?_);exact af (h _ ⟨(Z.2 _ (ce I.ne)).trans I.obj,Y,I.ne⟩ Z)
theorem Oo{R:Result->bE->Prop}{vs:List Value}{kw:List (Str×Value)}(X:K.In s.heap)(hm:PySem.W.makesIn K C=true)
 (hi:PySem.W.findIn K (.ref C) "__init__"=some (some (.ref f))) (O:PySem.W.typeIn K (.ref f)=some (.type "function"))
 (h:codeAny (model prog w) (A.under (.builtin "type.__call__" ⟨.ref C::vs,kw⟩)) (.call (.ref f) ⟨.ref (s.heap.objs.size+1)::vs,kw⟩) (PySem.W.InitBack (s.heap.objs.size+1) R)
  {s with heap:=(s.heap.push PySem.W.emptyDict).push (PySem.W.instObj C s.heap.objs.size)}) :
 codeAny (model prog w) A (.call (.ref C) ⟨vs,kw⟩) R s:=by
 obtain⟨Z,g,d,t,os⟩:=s;exact PySem.W.make_core (PySem.W.makes_of X hm) (PySem.W.looks_findIn X hi) (λself=>PySem.W.bind_fn X self O) (.inl rfl) h
end
def nR(f:Str)(v:V):List (Str×V)->List (Str×V)
 |[]=>[(f,v)]
 | (g,x)::r=>if g=f then(g,v)::r else(g,x)::nR f v r
theorem xO(f g:Str)(v:V):∀fs:List (Str×V),(nR f v fs).lookup g=if g=f then some v else fs.lookup g
 |[]=>by
  show jg g [(f,v)]=_;by_cases h:g=f
  ·have hb:=beq_iff_eq.mpr h;simp only[jg,hb,if_pos h]
  ·have hb:=beq_eq_false_iff_ne.mpr h;simp only[jg,hb,if_neg h]
 | (k,x)::r=>by
  have Y:=xO f g v r;rw[show nR f v ((k,x)::r)=(if k=f then(k,v)::r else(k,x)::nR f v r)from rfl];by_cases Z:k=f
  ·rw[if_pos Z];by_cases h:g=k
   ·have hb:=beq_iff_eq.mpr h;simp only[jg,hb,if_pos (h.trans Z)]
   ·have hb:=beq_eq_false_iff_ne.mpr h;simp only[jg,hb,if_neg (λe:g=f=>h (e.trans Z.symm))]
  ·rw[if_neg Z];by_cases h:g=k
   ·have hb:=beq_iff_eq.mpr h;simp only[jg,hb,if_neg (λe:g=f=>Z (h.symm.trans e))]
   ·have hb:=beq_eq_false_iff_ne.mpr h;simp only[jg,hb];exact Y
theorem wK(f:Str)(v:V):∀fs:List (Str×V),f∈(nR f v fs).map (·.1)/\∀g,g∈fs.map (·.1)->g∈(nR f v fs).map (·.1)
 |[]=>⟨by simp[nR],λg h=>by simp at h⟩
 | (k,x)::r=>by
  obtain⟨i1,i2⟩:=wK f v r;rw[show nR f v ((k,x)::r)=(if k=f then(k,v)::r else(k,x)::nR f v r)from rfl];by_cases Z:k=f
  ·rw[if_pos Z];subst Z;exact⟨by simp,λg h=>by simpa using h⟩
  ·rw[if_neg Z];refine⟨?_,λg h=>?_⟩
   ·rw[bB];exact aL _ i1
   ·rw[bB]at h ⊢;rcases bI.mp h with e|e
    ·exact bI.mpr (.inl e)
    ·exact aL _ (i2 g e)
theorem xP(f:Str)(v:V):∀fs:List (Str×V),(nR f v fs).length<=fs.length+1
 |[]=>by simp[nR]
 | (k,x)::r=>by
  have Y:=xP f v r;rw[show nR f v ((k,x)::r)=(if k=f then(k,v)::r else(k,x)::nR f v r)from rfl];by_cases Z:k=f
  ·rw[if_pos Z,bC,bC];omega
  ·rw[if_neg Z,bC,bC];omega
theorem rR.some_of{v:V}{o:Option Value}(r:rR (some v) o):∃u,o=some u/\RelV v u:=by
 cases o with
 |none=>exact(show False from r).elim
 |some u=>exact⟨u,rfl,r⟩
theorem rR.none_of{o:Option Value}(r:rR none o):o=none:=by
 cases o with
 |none=>rfl
 |some u=>exact(show False from r).elim
theorem Ls{v:V}{u:Value}(r:RelV v u):PySem.W.handedIn u=true:=by
 cases v with
 |non=>cases(show u=df from r);rfl
 |bl b=>cases(show u=c_ b from r);rfl
 |int i=>obtain⟨t,e⟩:=(show ∃t,u=dS i t from r);cases e;rfl
 |str x=>obtain⟨t,e⟩:=(show ∃t,u=dy x t from r);cases e;rfl
 |byt b=>obtain⟨t,e⟩:=(show ∃t,u=Value.bytes b t from r);cases e;rfl
 |flt b=>obtain⟨t,e⟩:=(show ∃t,u=Value.float b t from r);cases e;rfl
 |ref a=>cases(show u=cb a from r);rfl
 |ty n=>cases(show u=Value.type n from r);rfl
section
variable{P:bP}{w:b8}{H H':Hp}{h h':cc}{a C dx:Addr}{fs fs':List (Str×V)}
theorem yD(hok:HOk P w H h)(e:H a=some (.ins C dx fs)):∃mA,ObjM h a dx C mA/\(∀f,rR (fs.lookup f) (mA f))/\PySem.Within mA (fs.map (·.1))/\fs.length<=1000/\H dx=some (.own a):=by
 obtain⟨d,z,ne,Z,mA,n,r,q⟩:=(show iM P w H h a (.ins C dx fs)from hok a _ e);exact⟨mA,⟨Z,n,ne⟩,r,q,z,d⟩
end
structure Cls(K:PySem.W.Frag)(C:Addr):Prop where
 pg:PySem.W.plainGet K C Str.empty=true
 hd:PySem.W.hasDictIn K C=true
 po:PySem.W.plainOver K C=true
 sa:PySem.W.findIn K (.ref C) "__setattr__"=some (some (.builtin "object.__setattr__"))
theorem Cls.get{K:PySem.W.Frag}{C:Addr}(c:Cls K C)(f:Str):PySem.W.plainGet K C f=true:=c.pg
def fL(K:PySem.W.Frag)(C:Addr)(f:Str):Prop:=PySem.W.findIn K (.ref C) f=some none
theorem fL.taker{K:PySem.W.Frag}{C:Addr}{f:Str}(n:fL K C f):PySem.W.takerIn K C f=some none:=by
 unfold PySem.W.takerIn;rw[show PySem.W.findIn K (.ref C) f=some none from n];rfl
structure Con(K:PySem.W.Frag)(C:Addr)(f:Str)(v:V)(u:Value):Prop where
 at_:PySem.W.findIn K (.ref C) f=some (some u)
 rel:RelV v u
 get:PySem.W.specialIn K u "__get__"=some none
 cp:PySem.W.copiedNames.contains f=false
structure Meth(K:PySem.W.Frag)(C:Addr)(m:Str)(f:Addr):Prop where
 at_:PySem.W.findIn K (.ref C) m=some (some (.ref f))
 fn:PySem.W.isFn K (.ref f)=true
 kp:PySem.W.keepIn K (.ref f)=true
section
variable{X:Cx}{pins:List (Addr×Obj)}{σ:St}{H:Hp}{s:bE}{a C dx:Addr}{fs:List (Str×V)}{f:Str}{v:V}{A:bX}{E:Value->bE->Prop}
theorem Hl{b:Bool}{Q:Value->bE->Prop}(I:Inv X pins σ H s)(e:H a=some (.ins C dx fs))(c:Cls X.K C)(n:fL X.K C f)(l:fs.lookup f=some v)
 (h:∀u s',Inv X pins σ H s'->RelV v u->Q u s'):wpAny (model X.prog X.w) A (getAttr (.ref a) f b) Q E s:=by
 obtain⟨mA,O,r,_,_,_⟩:=yD I.hok e;obtain⟨u,Y,Z⟩:=rR.some_of (v:=v) (o:=mA f) (by rw[<-l];exact r f);exact get_map I.kIn O (c.get f) c.hd n Y (Ls Z) (h u _ (I.tok _) Z)
theorem yU{m:Str}{g:Addr}{pl:Sem Bool}{Q:Value×List Value->bE->Prop}(I:Inv X pins σ H s)(e:H a=some (.ins C dx fs))(c:Cls X.K C)(k:Meth X.K C m g)(l:fs.lookup m=none)
 (h:Q (.ref g,[.ref a]) s):wpAny (model X.prog X.w) A (getMethod (.ref a) m pl) Q E s:=by
 obtain⟨mA,O,r,_,_,_⟩:=yD I.hok e;have hn:=rR.none_of (by rw[<-l];exact r m);exact Om I.kIn O (c.get m) k.at_ k.fn hn h
theorem Ho{y:V}{u:Value}{Q:Unit->bE->Prop}(I:Inv X pins σ H s)(e:H a=some (.ins C dx fs))(c:Cls X.K C)(n:fL X.K C f)(hl:fs.length<1000)(ry:RelV y u)
 (h:∀s',Inv X pins σ (upd H a (.ins C dx (nR f y fs))) s'->Q () s'):wpAny (model X.prog X.w) A (setAttr (.ref a) f u) Q E s:=by
 obtain⟨mA,O,r,wi,_,U⟩:=yD I.hok e;have W:(fs.map (·.1)).length<=sizeLine:=by rw[aG,sizeLine_eq];omega
 refine SN I.kIn O c.sa c.po n.taker c.hd wi W λh' Z Y=>h _ ?_
 have hd:∃o,h'.get? dx=some o:=let⟨o,_,_,S,_⟩:=Z.ns;⟨o,S⟩;refine I.write (x:=a) (e:=dx) (by rw[e];exact cv) (.inr U) (λb q hb z=>(Y.2 b hb).trans z) hd ?_;refine⟨by rwa[bW O.ne],?_,O.ne,Z.obj,_,Z.ns,λg=>?_,λg T=>?_⟩
 ·have:=xP f y fs;omega
 ·rw[xO];by_cases q:g=f
  ·rwa[if_pos q,if_pos q]
  ·rw[if_neg q,if_neg q];exact r g
 ·by_cases q:g=f
  ·rw[q];exact(wK f y fs).1
  ·refine(wK f y fs).2 g (wi g λz=>T ?_);show(if g=f then some u else mA g)=none;rwa[if_neg q]
theorem Inv.made(I:Inv X pins σ H s):Inv X pins σ (upd (upd H s.heap.objs.size (.own (s.heap.objs.size+1))) (s.heap.objs.size+1) (.ins C s.heap.objs.size []))
 {s with heap:=(s.heap.push PySem.W.emptyDict).push (PySem.W.instObj C s.heap.objs.size)}:=by
 have Z:(s.heap.push PySem.W.emptyDict).get? s.heap.objs.size=some PySem.W.emptyDict:=ag s.heap rfl;have U:((s.heap.push PySem.W.emptyDict).push (PySem.W.instObj C s.heap.objs.size)).get? (s.heap.objs.size+1)=some (PySem.W.instObj C s.heap.objs.size):=by
  have:=ag (s.heap.push PySem.W.emptyDict) (o:=PySem.W.instObj C s.heap.objs.size) rfl;rwa[bj]at this
 have V:(s.heap.push PySem.W.emptyDict).Ns s.heap.objs.size (λ_=>none):=⟨PySem.W.emptyDict,#[],_,Z,rfl,(λe Y=>absurd Y (by simp)),λ_=>rfl⟩;have T:=I.laid (a:=s.heap.objs.size) (o:=.own (s.heap.objs.size+1)) (h':=s.heap.push PySem.W.emptyDict) (t':=s.toks) (λb u q=>ad _ q) (aQ _) ⟨_,Z⟩;refine T.laid (a:=s.heap.objs.size+1) (o:=.ins C s.heap.objs.size []) (t':=s.toks) (λb u q=>ad _ q) (Nat.le_of_eq (bj _ _)) ?_;have ne:s.heap.objs.size≠s.heap.objs.size+1:=b_ (jY _);refine⟨by rw[bW ne,cM],jh _,ne,U,λ_=>none,(Heap.Ns1.of_empty V).at λo q=>ad _ q,λ_=>cv,λy hy=>absurd rfl hy⟩
theorem SQ{prog:bP}{w:b8}{env:Env}{e:Expr}{f:Str}{pos:Pos}{s:bE}{Q:Value->bE->Prop}(hb:attributeBase e f env (eval e env)=eval e env)
 (h:wpAny (model prog w) A (eval e env) (λo O=>wpAny (model prog w) A (getAttr o f true) Q E O) E s):wpAny (model prog w) A (eval (.Attribute e f pos) env) Q E s:=
 Attribute_any_ h (by rw[arm_eval_Attribute,hb])
end
def ai5(K:PySem.W.Frag)(ta:TE)(f:Str):TE:=λσ H Q=>ta σ H λx H1=>∃a C dx fs v,x = .ref a/\H1 a=some (.ins C dx fs)/\Cls K C/\fL K C f/\fs.lookup f=some v/\Q v H1
def ZP(K:PySem.W.Frag)(ta tv:TE)(f:Str):TS:=λD σ H=>tv σ H λy H1=>ta σ H1 λx H2=>∃a C dx fs,x = .ref a/\H2 a=some (.ins C dx fs)/\Cls K C/\fL K C f/\fs.length<1000 /\
 D.nx σ (upd H2 a (.ins C dx (nR f y fs)))
section
variable{X:Cx}{o e value:Expr}{f:Str}{pos pos' tpos:Pos}{ta tv:TE}
theorem Hr(O:PE X e ta)(hb:attributeBase e f X.env (eval e X.env)=eval e X.env):PE X (.Attribute e f pos) (ai5 X.K ta f):=by
 intro pins s σ H Q I h;refine SQ hb (thn (O pins s σ H _ I h) λu s1 ⟨x,H1,V,Z,a,C,dx,fs,v,ex,ea,c,n,l,q⟩=>?_);subst ex;obtain rfl:u=cb a:=Z;exact Hl V ea c n l λU s2 W Y=>⟨v,H1,W,Y,q⟩
theorem Oq(ha:PE X o ta)(O:PE X value tv)(hs:swapsWith value (some (.Attribute o f pos')) pos.line X.env=pure false):PS X (.Assign [.Attribute o f pos'] value pos) (ZP X.K ta tv f):=by
 intro pins s σ H D I h;refine plainObj_wpAny_Assign_Attribute (thn (O pins s σ H _ I h) λu s1 ⟨y,H1,T,Z,q⟩=>thn (ha pins s1 σ H1 _ T q) λW s2 ⟨x,H2,U,Y,a,C,dx,fs,ex,ea,c,n,l,q2⟩=>?_) hs;subst ex;obtain rfl:W=cb a:=Y;exact Ho U ea c n l Z λS V=>⟨σ,_,V,q2⟩
end
section
variable{X:Cx}{pins:List (Addr×Obj)}{σ:St}{H:Hp}{s:bE}{A:bX}{E:Value->bE->Prop}{Q:Value->bE->Prop}{c:Value}{b:Bool}
inductive TyOf(K:PySem.W.Frag)(H:Hp):V->Value->Prop where
 |non:TyOf K H .non (.type "NoneType")
 |bl (x:Bool):TyOf K H (.bl x) (.type "bool")
 |int (i:Int):TyOf K H (.int i) (.type "int")
 |str (x:Str):TyOf K H (.str x) (.type "str")
 |flt (x:UInt64):TyOf K H (.flt x) (.type "float")
 |lst {a:Addr} {xs:List V} (e:H a=some (.lst xs)):TyOf K H (.ref a) (.type "list")
 |frz {a:Addr} {o:Obj} {xs:List V} (e:H a=some (.frz o (.lst xs))):TyOf K H (.ref a) (.type "list")
 |tup {a:Addr} {xs:List V} (e:H a=some (.tup xs)):TyOf K H (.ref a) (.type "tuple")
 |dK {a:Addr} {kvs:List (Key×V)} (e:H a=some (.dK kvs)):TyOf K H (.ref a) (.type "dict")
 |dT {a:Addr} {kvs:List (List Key×V)} (e:H a=some (.dT kvs)):TyOf K H (.ref a) (.type "dict")
 |ins {a C dx:Addr} {fs:List (Str×V)} (e:H a=some (.ins C dx fs)) (cl:Cls K C) (ha:PySem.W.findIn K (.ref C) "__class__"=some (some (.builtin "object.__class__")))
  (hn:PySem.W.specialIn K (.builtin "object.__class__") "__get__"=some (some (.builtin "getset_descriptor.__get__"))) (htk:PySem.W.takesIn K (.builtin "object.__class__")=some true)
  (hm:PySem.W.mroIn K C (.type "object")=some true):TyOf K H (.ref a) (.ref C)
theorem Bh{x:V}{u t:Value}(I:Inv X pins σ H s)(Y:RelV x u)(ty:TyOf X.K H x t)(e:PySem.W.kitOne X.K t c=some b)(h:∀tk,Q (.bool b) {s with toks:=tk}):
 wpAny (model X.prog X.w) A (call (.builtin "isinstance") [u,c]) Q E s:=by
 cases ty with
 |non=>cases(show u=df from Y);exact PySem.W.kia_one PySem.W.kitx_none I.kIn cv e (λz=>nomatch z) h
 |bl y=>cases(show u=c_ y from Y);exact PySem.W.kia_one PySem.W.kitx_bool I.kIn cv e (λz=>nomatch z) h
 |int i=>obtain⟨t,q⟩:=(show ∃t,u=dS i t from Y);cases q;exact PySem.W.kia_one PySem.W.kitx_int I.kIn cv e (λz=>nomatch z) h
 |str y=>obtain⟨t,q⟩:=(show ∃t,u=dy y t from Y);cases q;exact PySem.W.kia_one PySem.W.kitx_str I.kIn cv e (λz=>nomatch z) h
 |flt y=>obtain⟨t,q⟩:=(show ∃t,u=Value.float y t from Y);cases q;exact PySem.W.kia_one PySem.W.kitx_float I.kIn cv e (λz=>nomatch z) h
 | @lst a xs ea=>
  cases(show u=cb a from Y);obtain⟨_,_,n,_,h1⟩:=(show iM X.prog X.w H s.heap a (.lst xs)from I.hok a _ ea);exact PySem.W.kia_one PySem.W.kitx_list I.kIn ⟨_,h1,rfl⟩ e (λz=>nomatch z) h
 | @frz a Z xs ea=>
  cases(show u=cb a from Y);obtain⟨_,_,_,n,_,h1⟩:=(show iM X.prog X.w H s.heap a (.frz Z (.lst xs))from I.hok a _ ea);exact PySem.W.kia_one PySem.W.kitx_list I.kIn ⟨_,h1,rfl⟩ e (λz=>nomatch z) h
 | @tup a xs ea=>
  cases(show u=cb a from Y);obtain⟨_,_,_,p⟩:=(show iM X.prog X.w H s.heap a (.tup xs)from I.hok a _ ea);obtain⟨o,h1,h2,_⟩:=p;exact PySem.W.kia_one PySem.W.kitx_tuple I.kIn ⟨o,h1,h2⟩ e (λz=>nomatch z) h
 | @dK a kvs ea=>
  cases(show u=cb a from Y);obtain⟨_,_,vs,_,p⟩:=(show iM X.prog X.w H s.heap a (.dK kvs)from I.hok a _ ea);obtain⟨o,es,U,h1,h2,_⟩:=p;exact PySem.W.kia_one PySem.W.kitx_dict I.kIn ⟨o,h1,h2.1⟩ e (λz=>nomatch z) h
 | @dT a kvs ea=>
  cases(show u=cb a from Y);obtain⟨_,_,xs,_,o,es,U,h1,h2,_⟩:=(show iM X.prog X.w H s.heap a (.dT kvs)from I.hok a _ ea);exact PySem.W.kia_one PySem.W.kitx_dict I.kIn ⟨o,h1,h2.1⟩ e (λz=>nomatch z) h
 | @ins a C dx fs ea cl ha hn htk hm=>
  cases(show u=cb a from Y);obtain⟨mA,O,_⟩:=yD I.hok ea;obtain⟨od,J,_⟩:=O.look;exact PySem.W.kia_one (PySem.W.kitx_own (cl.get _) cl.hd ha hn htk hm) I.kIn J e (λz=>nomatch z) h
end
end L2
namespace L2
structure Room(k:Nat)(A:bX):Prop where
 hd:A.handled=none
 dp:A.depth+3*k+5<recursionLimit
 un:A.units+16*k+200<cLine
theorem Room.mono{j k:Nat}{A:bX}(r:Room k A)(h:j<=k):Room j A:=⟨r.hd,by have:=r.dp;omega,by have:=r.un;omega⟩
theorem Room.deeper{k:Nat}{A:bX}(r:Room (k+1) A)(env:Env):Room k (A.deeper env):=
 ⟨r.hd,by have:=r.dp;show A.depth+1+3*k+5<_;omega,by have:=r.un;show A.units+3+16*k+200<_;omega⟩
theorem Room.in1{k:Nat}{A:bX}(r:Room (k+1) A):Room k A.in1:=
 ⟨r.hd,by have:=r.dp;show A.depth+3*k+5<_;omega,by have:=r.un;show A.units+1+16*k+200<_;omega⟩
theorem Hs{A:bX}{C:Addr}{us:List Value}{kw:List (Str×Value)}:(A.under (.builtin "type.__call__" ⟨.ref C::us,kw⟩)).depth=A.depth+1:=by
 first|rfl|simp[Around.under,Code.weight,Code.isCreation,Code.isGuard,Code.isCaller,Code.frames,Code.isFrame,guardIds]
theorem Ht{A:bX}{C:Addr}{us:List Value}{kw:List (Str×Value)}:(A.under (.builtin "type.__call__" ⟨.ref C::us,kw⟩)).units=A.units+1:=by
 first|rfl|simp[Around.under,Code.cUnits,Code.frames,Code.isFrame]
theorem Room.make{k:Nat}{A:bX}(r:Room (k+1) A)(C:Addr)(us:List Value)(kw:List (Str×Value)):Room k (A.under (.builtin "type.__call__" ⟨.ref C::us,kw⟩)):=
 ⟨r.hd,by have:=r.dp;rw[Hs];omega,by have:=r.un;rw[Ht];omega⟩
theorem Room.depth{k:Nat}{A:bX}(r:Room k A):A.depth<recursionLimit:=by have:=r.dp;omega
theorem Room.units{k:Nat}{A:bX}(r:Room k A):A.units+64<cLine:=by have:=r.un;omega
def ZQ:TA:=λ_ H Q=>Q [] H
def ZR(ta:TE)(O:TA):TA:=λσ H Q=>ta σ H λx H1=>O σ H1 λxs H2=>Q (x::xs) H2
section
variable{X:Cx}{e:Expr}{es:List Expr}{te:TE}{t:TA}{pos:Pos}
theorem nC:PA X [] ZQ:=λ_ _ _ _ H Q I h=>Calls.spliced_nil ⟨[],H,I,.nil,h⟩
theorem kO(ha:PE X e te)(O:PA X es t)(hs:starEach (e::es) X.env=(false,eval e X.env)::starEach es X.env:=by rfl):PA X (e::es) (ZR te t):=by
 intro pos pins s σ H Q I h;rw[hs];refine Calls.spliced_cons (thn (ha pins s σ H _ I h) λu s1 ⟨x,H1,V,Y,q1⟩=>?_);exact thn (O pos pins s1 σ H1 _ V q1) λus s2 ⟨xs,H2,W,Z,q2⟩=>⟨x::xs,H2,W,.cons Y Z,q2⟩
def ai6(t:TA):TE:=λσ H Q=>t σ H λxs H1=>xs.length<=sizeLine/\∀p,H1 p=none->Q (.ref p) (upd H1 p (.tup xs))
def ai7(t:TA):TE:=λσ H Q=>t σ H λxs H1=>xs.length<=sizeLine/\∀p,H1 p=none->Q (.ref p) (upd H1 p (.lst xs))
theorem W9{x1}(h:PA X es t):PE X (.Tuple es x1 pos) (ai6 t):=by
 intro pins s σ H Q I hq;refine wpAny_Tuple_spliced (thn (h pos pins s σ H _ I hq) λus s1 ⟨xs,H1,Z,r,z,q⟩=>⟨by rwa[<-r.length],?_⟩);have Y:=Z.hok.fresh (aQ _);refine⟨.ref s1.heap.objs.size,upd H1 s1.heap.objs.size (.tup xs),Z.laid (t':=s1.toks) (λb u e=>ad _ e) (aQ _) ?_,rfl,q _ Y⟩;exact⟨z,us,r,⟨_,ag _ rfl,rfl,_,rfl⟩⟩
theorem Hu(h:PA X es t):PE X (.List es pos) (ai7 t):=by
 intro pins s σ H Q I hq;refine wpAny_List_spliced (thn (h pos pins s σ H _ I hq) λus s1 ⟨xs,H1,Z,r,z,q⟩=>⟨by rwa[<-r.length],?_⟩);have Y:=Z.hok.fresh (aQ _);refine⟨.ref s1.heap.objs.size,upd H1 s1.heap.objs.size (.lst xs),Z.laid (t':=s1.toks) (λb u e=>ad _ e) (aQ _) ?_,rfl,q _ Y⟩;exact⟨z,us,0,r,ag _ rfl⟩
end
abbrev Sp:=List V->Hp->VK->XK->Prop
abbrev CXT:=List Env->Hp->bE->XK->Value->bE->Prop
structure Env0(P:bP)(w:b8)(K:PySem.W.Frag)(mg:Str->Option Value)(base:cc)(A:bX)(outer:List Env)(s:bE)(H:Hp):Prop where
 frames:A.frames=some outer
 mod:Mod K mg base
 bs:∀b o,base.get? b=some o->s.heap.get? b=some o/\H b=none
 bsz:base.objs.size<=s.heap.objs.size
 funs:s.heap.FunFrames base outer
 frf:∀b∈frs outer,H b=none
 hok:HOk P w H s.heap
 bare:d8 s.gens
def CE(outer:List Env)(P:bP)(w:b8)(H:Hp)(s:bE)(Q:VK)(u:Value)(s':bE):Prop:=
 ∃v H',s'.os=s.os/\d8 s'.gens/\Un (frs outer) [] H H' s.heap s'.heap/\HOk P w H' s'.heap/\RelV v u/\Q v H'
def CR(CX:CXT)(outer:List Env)(P:bP)(w:b8)(H:Hp)(s:bE)(Q:VK)(E:XK)(r:Result)(s':bE):Prop:=
 match r with
 | .ok (.ret u)=>CE outer P w H s Q u s'
 | .ok _=>False
 | .error e=>CX outer H s E e s'
structure FnOk(P:bP)(w:b8)(K:PySem.W.Frag)(mg:Str->Option Value)(base:cc)(CX:CXT)(k:Nat)(f:Addr)(fd:ca)(ps:List Str)(sp:Sp):Prop where
 len:∀vs H Q E,sp vs H Q E->vs.length=ps.length
 run:∀(A:bX)(outer:List Env)(s:bE)(H:Hp)(args:Args)(us:List Value)(vs:List V)(Q:VK)(E:XK),Room k A->Env0 P w K mg base A outer s H->BindsTo s fd args (ps.zip us)->Vals vs us->sp vs H Q E ->
  codeAny (model P w) A (.call (.ref f) args) (CR CX outer P w H s Q E) s
theorem FnOk.mono{P:bP}{w:b8}{K:PySem.W.Frag}{mg:Str->Option Value}{base:cc}{CX:CXT}{j k:Nat}{f:Addr}{fd:ca}{ps:List Str}{sp:Sp}(F:FnOk P w K mg base CX j f fd ps sp)(h:j<=k):
 FnOk P w K mg base CX k f fd ps sp:=⟨F.len,λA outer s H args us vs Q E Z=>F.run A outer s H args us vs Q E (Z.mono h)⟩
theorem FnOk.imp{P:bP}{w:b8}{K:PySem.W.Frag}{mg:Str->Option Value}{base:cc}{CX:CXT}{k:Nat}{f:Addr}{fd:ca}{ps:List Str}{sp O:Sp}(F:FnOk P w K mg base CX k f fd ps sp)
 (h:∀vs H Q E,O vs H Q E->sp vs H Q E):FnOk P w K mg base CX k f fd ps O:=
 ⟨λvs H Q E q=>F.len vs H Q E (h _ _ _ _ q),λA outer s H args us vs Q E Y X hb Z hs=>F.run A outer s H args us vs Q E Y X hb Z (h _ _ _ _ hs)⟩
theorem Env0.make{P:bP}{w:b8}{K:PySem.W.Frag}{mg:Str->Option Value}{base:cc}{A:bX}{outer:List Env}{s:bE}{H:Hp}(e:Env0 P w K mg base A outer s H)(C:Addr)(us:List Value)(kw:List (Str×Value)):
 Env0 P w K mg base (A.under (.builtin "type.__call__" ⟨.ref C::us,kw⟩)) outer s H:=⟨by first|exact e.frames|(simpa[Around.under,Code.envs,Code.isFrame,pushEnvs]using e.frames),e.mod,e.bs,e.bsz,e.funs,e.frf,e.hok,e.bare⟩
theorem Env0.in1{P:bP}{w:b8}{K:PySem.W.Frag}{mg:Str->Option Value}{base:cc}{A:bX}{outer:List Env}{s:bE}{H:Hp}(e:Env0 P w K mg base A outer s H):
 Env0 P w K mg base A.in1 outer s H:=⟨e.frames,e.mod,e.bs,e.bsz,e.funs,e.frf,e.hok,e.bare⟩
section
variable{X:Cx}{pins:List (Addr×Obj)}{σ:St}{H:Hp}{s s':bE}
theorem Inv.env0(I:Inv X pins σ H s):Env0 X.prog X.w X.K X.mg X.base X.A X.stack s H:=
 ⟨I.ok.frames,I.ok.mod,I.bs,bM I.ok.bsz I.sz,I.stack,I.stkFree,I.hok,I.bare⟩
theorem Inv.after{Q:VK}{u:Value}(I:Inv X pins σ H s)(h:CE X.stack X.prog X.w H s Q u s'):EP X pins σ Q u s':=by
 obtain⟨v,H',os,bare,un,hok,r,q⟩:=h;obtain⟨Y,g,d,t,Z⟩:=s';obtain rfl:Z=s.os:=os;exact⟨v,H',I.call (h':=Y) (g':=g) (d':=d) (t':=t) (ch:=[]) un hok bare (λb z=>absurd z (by simp)),r,q⟩
end
def VN(sp:Sp)(dvs:List V)(E:XK)(t:TA):TE:=λσ H Q=>t σ H λvs H1=>sp (vs++dvs) H1 Q E
def VP(C:Addr)(m:Str)(sp:Sp)(dvs:List V)(E:XK)(ta:TE)(t:TA):TE:=λσ H Q=>ta σ H λx H1=>∃a dx fs,x = .ref a/\H1 a=some (.ins C dx fs)/\fs.lookup m=none /\
 t σ H1 λvs H2=>sp (x::(vs++dvs)) H2 Q E
def ZS(C:Addr)(sp:Sp)(dvs:List V)(E:XK)(t:TA):TE:=λσ H Q=>t σ H λvs H1=>∀x dx,H1 x=none->H1 dx=none->dx≠x ->
 sp (.ref x::(vs++dvs)) (upd (upd H1 dx (.own x)) x (.ins C dx [])) (λv H2=>v = .non/\Q (.ref x) H2) E
def Binds(K:PySem.W.Frag)(fd:ca)(ps:List Str)(ds:List Value):Prop:=
 ∀(s:bE)(us:List Value),K.In s.heap->(us++ds).length=ps.length->BindsTo s fd ⟨us,[]⟩ (ps.zip (us++ds))
theorem Binds.all{K:PySem.W.Frag}{fd:ca}{ps:List Str}(h:∀us:List Value,us.length=ps.length->bindArgs fd ⟨us,[]⟩=pure (ps.zip us)):Binds K fd ps []:=λs us _ hl=>by
 rw[dN]at hl ⊢;exact .of_eq (h us hl)
def Passes(CX:CXT)(X:Cx)(E:XK):Prop:=∀(pins:List (Addr×Obj))(σ:St)(H:Hp)(s:bE)(e:Value)(s':bE),Inv X pins σ H s->CX X.stack H s E e s'->X.xe e s'
section
variable{X:Cx}{CX:CXT}{k:Nat}{f C:Addr}{fd:ca}{ps:List Str}{sp:Sp}{dvs:List V}{ds:List Value}{E:XK}{x m:Str}{p pos apos:Pos}{e o:Expr}{es:List Expr}{ta:TE}{t:TA}
theorem Hv{pins:List (Addr×Obj)}{σ:St}{H:Hp}{s:bE}{Q:VK}{us:List Value}{vs:List V}(F:FnOk X.prog X.w X.K X.mg X.base CX k f fd ps sp)(O:Room k X.A)(hb:Binds X.K fd ps ds)(hd:Vals dvs ds)(hx:Passes CX X E)
 (I:Inv X pins σ H s) (r:Vals vs us) (h:sp (vs++dvs) H Q E):wpAny (model X.prog X.w) X.A (call (.ref f) us) (EP X pins σ Q) X.xe s:=by
 have Z:=r.append hd;have hl:(us++ds).length=ps.length:=by rw[<-Z.length];exact F.len _ _ _ _ h
 refine wpAny_call (bi (F.run X.A X.stack s H ⟨us,[]⟩ (us++ds) (vs++dvs) Q E O I.env0 (hb s us I.kIn hl) Z h) λr s' hq=>?_)
 cases r with
 |error e=>exact hx pins σ H s e s' I hq
 |ok fl=>
  cases fl with
  |ret u=>exact I.after hq
  |next=>exact ck hq
  |brk=>exact ck hq
  |cont=>exact ck hq
theorem SX(F:FnOk X.prog X.w X.K X.mg X.base CX k f fd ps sp)(hr:Room k X.A)(hg:Gl X x)(hm:X.mg x=some (.ref f))(hk:PySem.W.keepIn X.K (.ref f)=true)(hb:Binds X.K fd ps ds)(hd:Vals dvs ds)(hx:Passes CX X E)
 (ha:PA X (e::es) t) (Y:(x==("__debug__":Str))=false:=by decide) (he:starEach (e::es) X.env=(false,eval e X.env)::starEach es X.env:=by rfl) (O:(backTo pos (starEach es X.env)).any (·.1)=false:=by rfl) :
 PE X (.Call (.Name x p) (e::es) [] pos) (VN sp dvs E t):=by
 intro pins s σ H Q I h;refine ay (Ck I hg hm ?_ Y);refine PySem.W.callWith_K (h₀:=X.base) I.ok.mod.kin hk (thn (ha pos pins s σ H _ I h) λus s1 ⟨vs,H1,Z,r,q⟩=>⟨Z.kIn,?_⟩) he O;exact Hv F hr hb hd hx Z r q
theorem Cp{pl:Sem Bool}(he:PE X o ta)(c:Cls X.K C)(hm:Meth X.K C m f)(F:FnOk X.prog X.w X.K X.mg X.base CX k f fd ps sp)(hr:Room k X.A)(hb:Binds X.K fd ps ds)(hd:Vals dvs ds)(hx:Passes CX X E)(ha:PA X (e::es) t)
 (O:starEach (e::es) X.env=(false,eval e X.env)::starEach es X.env:=by rfl) (Y:(backTo pos (starEach es X.env)).any (·.1)=false:=by rfl)
 (ht:eval (.Call (.Attribute o m apos) (e::es) [] pos) X.env=(do
  let Z <-eval o X.env
  standAt apos.atName
  let(f,fi) <-holding [Z] (getMethod Z m pl)
  callWith pos f fi (backTo pos (starEach (e::es) X.env)) (backToKw pos (keywordEach [] X.env))):=by rfl) :
 PE X (.Call (.Attribute o m apos) (e::es) [] pos) (VP C m sp dvs E ta t):=by
 intro pins s σ H Q I h;refine PySem.W.methodCall_KW (pl:=pl) (thn (he pins s σ H _ I h) λu s1 ⟨x,H1,U,T,a,dx,fs,ex,ea,l,q⟩=>?_) ht;subst ex;obtain rfl:u=cb a:=T;refine yU U ea c hm l ?_;refine PySem.W.callWith_K (first:=[.ref a]) (h₀:=X.base) I.ok.mod.kin hm.kp (thn (ha pos pins s1 σ H1 _ U q) λus s2 ⟨vs,H2,V,r,q2⟩=>⟨V.kIn,?_⟩) O Y;exact Hv (us:=.ref a::us) (vs:=.ref a::vs) F hr hb hd hx V (.cons rfl r) q2
theorem Ot{pl:Sem Bool}(he:PE X o ta)(c:Cls X.K C)(hm:Meth X.K C m f)(F:FnOk X.prog X.w X.K X.mg X.base CX k f fd ps sp)(hr:Room k X.A)(hb:Binds X.K fd ps ds)(hd:Vals dvs ds)(hx:Passes CX X E)
 (ht:eval (.Call (.Attribute o m apos) [] [] pos) X.env=(do
  let O <-eval o X.env
  standAt apos.atName
  let(f,fi) <-holding [O] (getMethod O m pl)
  callWith pos f fi (backTo pos (starEach [] X.env)) (backToKw pos (keywordEach [] X.env))):=by rfl) :
 PE X (.Call (.Attribute o m apos) [] [] pos) (VP C m sp dvs E ta ZQ):=by
 intro pins s σ H Q I h;refine PySem.W.methodCall_KW (pl:=pl) (thn (he pins s σ H _ I h) λu s1 ⟨x,H1,Z,Y,a,dx,fs,ex,ea,l,q⟩=>?_) ht;subst ex;obtain rfl:u=cb a:=Y;refine yU Z ea c hm l ?_;exact PySem.W.callWith_K0 (first:=[.ref a]) Z.kIn hm.kp (Hv (us:=[.ref a]) (vs:=[.ref a]) F hr hb hd hx Z (.cons rfl .nil) q)
structure Mk(K:PySem.W.Frag)(C f:Addr):Prop where
 makes:PySem.W.makesIn K C=true
 init:PySem.W.findIn K (.ref C) "__init__"=some (some (.ref f))
 fn:PySem.W.isFn K (.ref f)=true
 kp:PySem.W.keepIn K (.ref C)=true
theorem Ou{pins:List (Addr×Obj)}{σ:St}{H:Hp}{s:bE}{Q:VK}{us:List Value}{vs:List V}(M:Mk X.K C f)(F:FnOk X.prog X.w X.K X.mg X.base CX k f fd ps sp)(O:Room (k+1) X.A)(hb:Binds X.K fd ps ds)(hd:Vals dvs ds)
 (hx:Passes CX X E) (I:Inv X pins σ H s) (r:Vals vs us)
 (h:∀x dx,H x=none->H dx=none->dx≠x->sp (.ref x::(vs++dvs)) (upd (upd H dx (.own x)) x (.ins C dx [])) (λv H2=>v = .non/\Q (.ref x) H2) E) :
 wpAny (model X.prog X.w) X.A (call (.ref C) us) (EP X pins σ Q) X.xe s:=by
 have hq:=h (s.heap.objs.size+1) s.heap.objs.size (I.hok.fresh (mX _)) (I.hok.fresh (aQ _)) (b_ (jY _));have Y:=Inv.made (C:=C) I;have W:Vals (V.ref (s.heap.objs.size+1)::(vs++dvs)) (cb (s.heap.objs.size+1)::(us++ds)):=.cons rfl (r.append hd);have hl:(cb (s.heap.objs.size+1)::us++ds).length=ps.length:=by
  have e:=W.length;rw[F.len _ _ _ _ hq]at e;exact e.symm
 refine wpAny_call (Oo (f:=f) I.kIn M.makes M.init (beq_iff_eq.mp M.fn) (bi (F.run _ X.stack _ _ ⟨cb (s.heap.objs.size+1)::us,[]⟩ (cb (s.heap.objs.size+1)::(us++ds)) _ _ E (O.make C us [])
  (Y.env0.make C us []) (hb _ (cb (s.heap.objs.size+1)::us) Y.kIn hl) W hq) λr s' Z=>?_))
 cases r with
 |error e=>exact hx pins σ _ _ e s' Y Z
 |ok fl=>
  cases fl with
  |ret u=>
   obtain⟨v,H',S,U,T,q3⟩:=Y.after Z;subst T;exact⟨U,⟨V.ref (s.heap.objs.size+1),H',S,rfl,q3⟩⟩
  |next=>exact ck Z
  |brk=>exact ck Z
  |cont=>exact ck Z
theorem JK(M:Mk X.K C f)(F:FnOk X.prog X.w X.K X.mg X.base CX k f fd ps sp)(hr:Room (k+1) X.A)(hg:Gl X x)(hm:X.mg x=some (.ref C))(hb:Binds X.K fd ps ds)(hd:Vals dvs ds)(hx:Passes CX X E)
 (ha:PA X (e::es) t) (Y:(x==("__debug__":Str))=false:=by decide) (he:starEach (e::es) X.env=(false,eval e X.env)::starEach es X.env:=by rfl) (O:(backTo pos (starEach es X.env)).any (·.1)=false:=by rfl) :
 PE X (.Call (.Name x p) (e::es) [] pos) (ZS C sp dvs E t):=by
 intro pins s σ H Q I h;refine ay (Ck I hg hm ?_ Y);refine PySem.W.callWith_K (h₀:=X.base) I.ok.mod.kin M.kp (thn (ha pos pins s σ H _ I h) λus s1 ⟨vs,H1,Z,r,q⟩=>⟨Z.kIn,?_⟩) he O;exact Ou M F hr hb hd hx Z r q
end
section
variable{X:Cx}{CX:CXT}{k:Nat}{f C:Addr}{fd:ca}{ps ks:List Str}{sp:Sp}{E:XK}{x m:Str}{p pos apos kpos:Pos}{e o:Expr}{es:List Expr}{kws:List dQ}{te ta:TE}{t tk:TA}{nm:Option Str}
structure KBinds(K:PySem.W.Frag)(fd:ca)(ps ks:List Str)(g:List Value->List Value->List Value)(gV:List V->List V->List V):Prop where
 to:∀(s:bE)(us ws:List Value),K.In s.heap->(g us ws).length=ps.length->BindsTo s fd ⟨us,ks.zip ws⟩ (ps.zip (g us ws))
 rel:∀{vs:List V}{us:List Value}{zs:List V}{ws:List Value},Vals vs us->Vals zs ws->Vals (gV vs zs) (g us ws)
variable{g:List Value->List Value->List Value}{gV:List V->List V->List V}
end
structure FnScope(N P:List Str)(sc:db):Prop where
 kind:sc.kind = .function
 co:sc.isCoroutine=false
 gen:sc.isGenerator=false
 nd:N.Nodup
 pre:N.take P.length=P
 par:∀x∈P,sc.names.lookup x=some .local\/sc.names.lookup x=some .cell
 nofree:∀y∈sc.names,y.2 ≠ .free
theorem Bj{kindOf:Str->Option NameKind}{x:Str}:∀{binds:List (Str×Value)}{m:Str->Option Value},(∀v,(x,v)∉binds)->bindL kindOf binds m x=m x
 |[],_,_=>rfl
 | (n,v)::r,m,h=>by
  unfold bindL;rw[Bj λw hw=>h w (aL _ hw)];split
  ·have:x≠n:=by rintro rfl;exact h v aN
   simp[this]
  ·rfl
theorem Bk{kindOf:Str->Option NameKind}{x:Str}:∀{binds:List (Str×Value)}{m:Str->Option Value},(∀v,(x,v)∉binds)->bindC kindOf binds m x=m x
 |[],_,_=>rfl
 | (n,v)::r,m,h=>by
  unfold bindC;rw[Bk λw hw=>h w (aL _ hw)];split
  ·rfl
  ·have:x≠n:=by rintro rfl;exact h v aN
   simp[this]
theorem Bm{kindOf:Str->Option NameKind}{x:Str}{v:Value}:∀{P:List Str}{vs:List Value}{i:Nat}{m:Str->Option Value},P.Nodup->P[i]? = some x->vs[i]? = some v->kindOf x=some .local ->
 bindL kindOf (P.zip vs) m x=some v
 |[],_,_,_,_,h,_,_=>by simp at h
 |_::_,[],_,_,_,_,h,_=>by simp at h
 |p::P,w::vs,0,m,nd,h1,h2,Z=>by
  simp at h1 h2;subst h1;subst h2;show bindL kindOf ((p,w)::P.zip vs) m p=_;unfold bindL;rw[Bj λv Y=>(cU.mp nd).1 (qY Y).1,if_pos Z];simp
 |p::P,w::vs,i+1,m,nd,h1,h2,Z=>by
  show bindL kindOf ((p,w)::P.zip vs) m x=_;unfold bindL;exact Bm (i:=i) (cU.mp nd).2 (by simpa using h1) (by simpa using h2) Z
theorem Bo{kindOf:Str->Option NameKind}{x:Str}{v:Value}:∀{P:List Str}{vs:List Value}{i:Nat}{m:Str->Option Value},P.Nodup->P[i]? = some x->vs[i]? = some v->kindOf x≠some .local ->
 bindC kindOf (P.zip vs) m x=some v
 |[],_,_,_,_,h,_,_=>by simp at h
 |_::_,[],_,_,_,_,h,_=>by simp at h
 |p::P,w::vs,0,m,nd,h1,h2,Z=>by
  simp at h1 h2;subst h1;subst h2;show bindC kindOf ((p,w)::P.zip vs) m p=_;unfold bindC;rw[Bk λv Y=>(cU.mp nd).1 (qY Y).1,if_neg Z];simp
 |p::P,w::vs,i+1,m,nd,h1,h2,Z=>by
  show bindC kindOf ((p,w)::P.zip vs) m x=_;unfold bindC;exact Bo (i:=i) (cU.mp nd).2 (by simpa using h1) (by simpa using h2) Z
def start(N:List Str)(vs:List V):St:=vs.map some++aX (N.length-vs.length) none
noncomputable def Ag(CX:CXT)(P:bP)(w:b8)(K:PySem.W.Frag)(mg:Str->Option Value)(base:cc)(N:List Str)(qual:Str)(scope:db)(f:Addr)(O:Value)(A:bX)(outer:List Env)(s:bE)(H:Hp)(E:XK):Cx where
 prog:=P
 w:=w
 K:=K
 mg:=mg
 base:=base
 A:=A.deeper (envOfC qual scope s.heap.objs.size f O)
 N:=N
 s₀:=s
 H₀:=H
 env:=envOfC qual scope s.heap.objs.size f O
 outer:=outer
 stack:=envOfC qual scope s.heap.objs.size f O::outer
 ex:=[]
 calm:=true
 still:=true
 fn:=λ_=>true
 pn:=[]
 xe:=λe s'=>wpAny (model P w) (A.deeper (envOfC qual scope s.heap.objs.size f O)) (leaving (envOfC qual scope s.heap.objs.size f O) e) (λ_ Z=>CX outer H s E e Z) (λY Z=>CX outer H s E Y Z) s'
theorem E_{sc:db}{n:Nat}{x:Str}(h:sc.names.lookup x=some .cell):∃c,(cellsFrom n sc.names []).lookup x=some c:=by
 have q:=PySem.W.cellsFrom_some sc.names n [] (.inl h);exact Option.isSome_iff_exists.mp q
theorem Lw{CX:CXT}{P:bP}{w:b8}{K:PySem.W.Frag}{mg:Str->Option Value}{base:cc}{N ps:List Str}{qual:Str}{scope:db}{f:Addr}{cd:Value}{A:bX}{outer:List Env}{s s1:bE}{H:Hp}{E:XK}{us:List Value}{vs:List V}
 (S:FnScope N ps scope) (hd:A.handled=none) (O:Env0 P w K mg base A outer s H) (hl:vs.length=ps.length) (r:Vals vs us)
 (x:InCallC s s.heap.objs.size (bindL (envOfC qual scope s.heap.objs.size f cd).kindOf (ps.zip us) λ_=>none) (cellsFrom (s.heap.objs.size+1) scope.names []) (bindC (envOfC qual scope s.heap.objs.size f cd).kindOf (ps.zip us) λ_=>none) s1) :
 Inv (Ag CX P w K mg base N qual scope f cd A outer s H E) [] (start N vs) H s1:=by
 have Q:ps.length<=N.length:=by have:=congrArg xM S.pre;rw[fU]at this;omega
 obtain⟨h1,tk,rfl,T⟩:=x.done;have Z:∀b:Addr,b∉(Ag CX P w K mg base N qual scope f cd A outer s H E).ex:=λb z=>absurd (show b∈([]:List Addr)from z) (by simp)
 refine⟨⟨O.mod,S.kind,rfl,rfl,aQ _,λy z c h1 h2=>?_,λy hy=>?_,λy c _ h=>?_,λ_=>.inl hd,λ_=>hd,Around.frames_deeper O.frames,.inr ⟨rfl,rfl⟩,λb z=>absurd z (Z b),O.bs,O.bsz,λb _ _=>Z b,λb z=>absurd z (Z b),O.funs,O.frf⟩,
  rfl,O.bare,Un.kept T,⟨_,x.toInCall.ns,λi y v h1 h2 h3=>?_⟩,λy c h=>⟨_,x.cell y c h⟩,O.hok.fresh (aQ _),λy c h=>?_,λp X=>absurd (show p∈([]:List (Addr×Obj))from X) (by simp),O.hok.kept T,?_⟩
 ·exact name_of_addr x.apart (PySem.mem_of_lookup h1) (PySem.mem_of_lookup h2)
 ·have hy:=hy;rcases hy with hy|hy
  ·exact E_ hy
  ·exact absurd rfl (S.nofree _ (PySem.mem_of_lookup hy))
 ·exact nM (x.above y c (PySem.mem_of_lookup h))
 ·have hi:i<vs.length:=by
   unfold start at h2;by_cases hi:i<vs.length
   ·exact hi
   ·rw[cL (by simpa using hi)]at h2;rw[dI]at h2;split at h2<;>cases h2
  have ha:vs[i]? = some v:=by
   unfold start at h2;rw[cC (by simpa using hi),aR]at h2
   cases e:vs[i]? with
   |none=>rw[e]at h2;cases h2
   |some a=>rw[e]at h2;cases h2;rfl
  obtain⟨u,U,R⟩:=r.get ha;have X:ps[i]? = some y:=by
   rwa[<-S.pre,List.getElem?_take_of_lt (by omega)]
  have Y:ps.Nodup:=by rw[<-S.pre];exact S.nd.sublist (vf _ _)
  refine⟨u,R,?_⟩;rcases S.par y (cA X)with k|k
  ·exact .inl ⟨k,Bm Y X U k⟩
  ·obtain⟨c,e⟩:=E_ (n:=s.heap.objs.size+1) k;refine .inr ⟨.inl k,c,e,?_⟩;have q:=x.cell y c e;rwa[Bo Y X U (by show scope.names.lookup y≠_;rw[k];decide)]at q
 ·exact O.hok.fresh (nM (x.above y c (PySem.mem_of_lookup h)))
 ·unfold start;show _=N.length;rw[bH,aG,bK];omega
theorem Ov{CX:CXT}{P:bP}{w:b8}{K:PySem.W.Frag}{mg:Str->Option Value}{base:cc}{k:Nat}{f:Addr}{name qual:Str}{params:Arguments}{body:List cm}{scope:db}{dV kV doc pm cdv ct oc:Value}{an od:Option Addr}
 {osl:Array (Option Value)} {N ps:List Str} {sp:Sp} (lk:K.lookup f=some ⟨oc,od,.func (PySem.W.fnOf name qual params body scope dV kV doc pm an cdv ct),osl⟩) (hcd:PySem.W.codeIn K cdv qual=true) (S:FnScope N ps scope)
 (len:∀vs H Q E,sp vs H Q E->vs.length=ps.length)
 (O:∀(A:bX)(outer:List Env)(s:bE)(H:Hp)(vs:List V)(Q:VK)(E:XK),Room k (A.deeper (envOfC qual scope s.heap.objs.size f cdv))->sp vs H Q E ->
  ∃t,PSs (Ag CX P w K mg base N qual scope f cdv A outer s H E) body t/\t {nx:=λ_ H'=>Q .non H',rt:=Q} (start N vs) H) :
 FnOk P w K mg base CX (k+1) f (PySem.W.fnOf name qual params body scope dV kV doc pm an cdv ct) ps sp:=by
 refine⟨len,λA outer s H args us vs Q E M U hb r Y=>?_⟩;have hl:=len _ _ _ _ Y;have L:K.In s.heap:=U.mod.kin.keeps λb o e=>(U.bs b o e).1
 have R:s.heap.NoLimit:=U.mod.nolimit.keeps λb o e=>(U.bs b o e).1
 have Z:∀y∈ps.zip us,scope.names.lookup y.1=some .local\/(scope.names.lookup y.1=some .cell/\((cellsFrom (s.heap.objs.size+1) scope.names []).lookup y.1).isSome=true):=λ⟨n,v⟩ hy=>by
  rcases S.par n (qY hy).1 with q|q
  ·exact .inl q
  ·exact .inr ⟨q,PySem.W.cellsFrom_some _ _ _ (.inl q)⟩
 refine codeAny_call_function M.depth (L _ _ lk) rfl S.co S.gen rfl (PySem.W.codeRec_of L hcd) (hb _ _ _ _ ?_);refine wpAny_newFunctionEnv_cells S.kind Z λenv F s1 x=>?_
 subst F;refine⟨R.keeps x.toInCall.keep,codeAny_func ?_⟩;obtain⟨t,G,hq⟩:=O A outer s H vs Q E (M.deeper _) Y;have I:Inv (Ag CX P w K mg base N qual scope f cdv A outer s H E) [] (start N vs) H s1:=Lw S M.hd U hl r x;refine ai (G [] s1 (start N vs) H _ I hq) (λfl s' hs=>?_) λe s' hs=>hs
 have X:∀{σ':St}{H':Hp}{v:V}{u:Value},Inv (Ag CX P w K mg base N qual scope f cdv A outer s H E) [] σ' H' s'->RelV v u->Q v H'->CE outer P w H s Q u s':=
  λ{σ' H' v u} J T q=>⟨v,H',J.os,J.bare,J.base,J.hok,T,q⟩
 cases fl with
 |ret u=>
  obtain⟨v,σ',H',J,T,q⟩:=hs;exact X J T q
 |next=>
  obtain⟨σ',H',J,q⟩:=hs;exact X (v:=V.non) (u:=df) J rfl q
 |brk=>
  obtain⟨_,_,_,q⟩:=hs;exact ck q
 |cont=>
  obtain⟨_,_,_,q⟩:=hs;exact ck q
end L2
namespace L2
section
variable{X:Cx}{x:Str}{p pos:Pos}{e:Expr}{es:List Expr}{t:TA}{id T:String}{r:List V->Hp->VK->Prop}
def tCB(r:List V->Hp->VK->Prop)(t:TA):TE:=λσ H Q=>t σ H λvs H1=>r vs H1 Q
theorem yV(hc:jP X (.builtin id) r)(hg:Gl X x)(hm:X.mg x=none)(hv:bootBuiltins x=some (.builtin id))(ha:PA X (e::es) t)(hn:x≠"__name__" := by decide)(Y:(x==("__debug__":Str))=false:=by decide)
 (he:starEach (e::es) X.env=(false,eval e X.env)::starEach es X.env:=by rfl) (O:(backTo pos (starEach es X.env)).any (·.1)=false:=by rfl):PE X (.Call (.Name x p) (e::es) [] pos) (tCB r t):=by
 intro pins s σ H Q I h;refine ay (wI I hg hm hv ?_ hn Y);exact PyProof.Rows.callWith_builtin1 (thn (ha pos pins s σ H _ I h) λus s1 ⟨vs,H1,W,Z,q1⟩=>hc pins s1 σ H1 vs us Q W Z q1) he O
theorem pP(hc:jP X (.type T) r)(hg:Gl X x)(hm:X.mg x=none)(hv:bootBuiltins x=some (.type T))(ha:PA X (e::es) t)(hn:x≠"__name__" := by decide)(Y:(x==("__debug__":Str))=false:=by decide)
 (he:starEach (e::es) X.env=(false,eval e X.env)::starEach es X.env:=by rfl) (O:(backTo pos (starEach es X.env)).any (·.1)=false:=by rfl):PE X (.Call (.Name x p) (e::es) [] pos) (tCB r t):=by
 intro pins s σ H Q I h;refine ay (wI I hg hm hv ?_ hn Y);exact cE (thn (ha pos pins s σ H _ I h) λus s1 ⟨vs,H1,W,Z,q1⟩=>hc pins s1 σ H1 vs us Q W Z q1) he O
end
end L2
namespace HT
section
open PySem.SeqAt
open PySem.AutoSeq1 (wpAny_loadPart')
open PySem.MeetsSeq PySem.MeetsSeq2 PySem.MeetsSeq3
end
section
variable{prog:bP}{w:b8}{A:bX}{E:Value->bE->Prop}{s:bE}
theorem S5{t b:Addr}{vs ws:List Value}{Q:Value->bE->Prop}(ht:IsTup s.heap t vs.toArray)(hb:IsTup s.heap b ws.toArray)(O:vs≠[])
 (h1:ws=[]->Q (.ref t) s) (h2:ws≠[]->Q (.ref s.heap.objs.size) {s with heap:=s.heap.push {cls:=.type "tuple", data:=.seq (vs++ws).toArray} })
 (hsz:vs.length+ws.length<=sizeLine):wpAny (model prog w) A (binaryOp .Add (.ref t) (.ref b)) Q E s:=by
 obtain⟨⟨cls,dd,data,sl⟩,U,hc,n,hd⟩:=id ht;obtain⟨⟨T,V,data2,Y⟩,Z,W,n2,X⟩:=id hb;simp only at hc hd W X;subst hc hd W X;have e:vs.toArray++ws.toArray=(vs++ws).toArray:=by simp
 by_cases hw:ws=[]
 ·exact bg ⟨_,U,rfl⟩ ⟨_,Z,rfl⟩ bn seq_tuple_add PySem.F.slot_tuple_add PySem.F.entry_tuple_add (PySem.F.args_tuple_add_2 _ _)
   (tuple_addW1 t b vs.toArray ws.toArray n n2 dd V sl Y (by simpa using O) (by simp[hw])) ⟨U,Z,h1 hw⟩
 ·refine bg ⟨_,U,rfl⟩ ⟨_,Z,rfl⟩ bn seq_tuple_add PySem.F.slot_tuple_add PySem.F.entry_tuple_add (PySem.F.args_tuple_add_2 _ _)
   (tuple_addW2 t b vs.toArray ws.toArray n n2 dd V sl Y (by simpa using O) (by simpa using hw) (by rw[bF,bF];exact hsz)) ⟨U,Z,?_⟩
  rw[e];exact h2 hw
noncomputable def sIx(n d:Nat):Option Int->Nat
 |none=>d
 |some v=>if v<0 then(v+(n:Int)).toNat else min v.toNat n
theorem ai8(n d:Nat)(hd:d<=n)(o:Option Int):sIx n d o<=n:=by
 cases o with
 |none=>exact hd
 |some v=>
  show(if v<0 then(v+(n:Int)).toNat else min v.toNat n)<=n;by_cases Z:v<0
  ·rw[if_pos Z];omega
  ·rw[if_neg Z];exact Nat.min_le_right _ _
theorem JL(v:Int)(n d:Nat):(if v<0 then max (v+(n:Int)) 0 else min v (n:Int))=((sIx n d (some v):Nat):Int):=by
 show(if v<0 then max (v+(n:Int)) 0 else min v (n:Int))=(((if v<0 then(v+(n:Int)).toNat else min v.toNat n):Nat):Int);by_cases Z:v<0
 ·simp only[if_pos Z];omega
 ·simp only[if_neg Z];omega
theorem Hw(lo hi:Option Int)(n:Nat):dr lo hi 1 (n:Int)=(((sIx n 0 lo:Nat):Int),((sIx n n hi:Nat):Int)):=by
 have h1:¬((1:Int)<0):=by omega
 unfold dr;simp only[h1,if_false];refine Prod.ext ?_ ?_
 ·cases lo with
  |none=>rfl
  |some v=>exact JL v n 0
 ·cases hi with
  |none=>rfl
  |some v=>exact JL v n n
theorem Hx(i j:Nat):cS (i:Int) (j:Int) 1=j-i:=by
 unfold cS;have h1:(1:Int)>0:=by omega
 simp only[h1,if_true,Int.ediv_one];split<;>omega
theorem yW{v:Value}{o:Option Int}{Q:Option Int->bE->Prop}(p:d1 v o)(h:Q o s):wpAny (model prog w) A (Builtin.Slice.slicePartIndex v) Q E s:=by
 cases p with
 |none=>exact slicePart_none h
 |int i t=>exact slicePart_int h
theorem pQ{sl:Addr}{vl O:Value}{lo hi:Option Int}{n:Nat}{Q:Int×Int×Nat->bE->Prop}(hs:s.heap.IsSliceOf sl vl O .none)(pl:d1 vl lo)(pu:d1 O hi)
 (h:Q (((sIx n 0 lo:Nat):Int),1,sIx n n hi-sIx n 0 lo) s):wpAny (model prog w) A (Builtin.Slice.sliceApplied (.ref sl) (pure (n:Int))) Q E s:=by
 obtain⟨os,Z,X,Y⟩:=id hs;refine aa (aa (av Z Y (x:=vl) rfl (aa (av Z Y (x:=O) rfl (aa (av Z Y (x:=.none) rfl (af ?_)))))));refine aa (slicePart_none ?_);rw[if_neg (by decide)];refine aa (yW pl (aa (yW pu (aa (af ?_)))));show wpAny _ _ (match dr lo hi 1 (n:Int)with|(lo,hi)=>pure (lo,(1:Int),cS lo hi 1)) _ _ s;rw[Hw lo hi n];show wpAny _ _ (pure (((sIx n 0 lo:Nat):Int),(1:Int),cS ((sIx n 0 lo:Nat):Int) ((sIx n n hi:Nat):Int) 1)) _ _ s;rw[Hx];exact af h
theorem Ox(xs:Array Value)(i k:Nat):((cB k).filterMap λ(m:Nat)=>xs[((i:Int)+(m:Int)*1).toNat]?).toArray=((xs.toList.drop i).take k).toArray:=by
 have e:(λ(m:Nat)=>xs[((i:Int)+(m:Int)*1).toNat]?)=λm=>xs[i+m]?:=by
  funext m
  have:((i:Int)+(m:Int)*1).toNat=i+m:=by omega
  rw[this]
 rw[e];have:=pick_run xs i k;rw[List.filterMap_map]at this;have Z:((λx=>xs[x]?)∘λx=>i+x)=λm=>xs[i+m]?:=rfl
 rw[Z]at this;rw[this]
theorem vq{t sl:Addr}{items:Array Value}{vl vu:Value}{lo hi:Option Int}{Q:Value->bE->Prop}(O:IsTup s.heap t items)(hs:s.heap.IsSliceOf sl vl vu .none)(pl:d1 vl lo)(pu:d1 vu hi)
 (hw:¬(sIx items.size 0 lo=0/\sIx items.size items.size hi=items.size))
 (h:Q (.ref s.heap.objs.size) {s with heap:=s.heap.push {cls:=.type "tuple", data:=.seq ((items.toList.drop (sIx items.size 0 lo)).take (sIx items.size items.size hi-sIx items.size 0 lo)).toArray} })
 (hsz:items.size<=sizeLine):wpAny (model prog w) A (getItem (.ref t) (.ref sl)) Q E s:=by
 have Z:sizeOk (.seq ((items.toList.drop (sIx items.size 0 lo)).take (sIx items.size items.size hi-sIx items.size 0 lo)).toArray):=by
  show((items.toList.drop (sIx items.size 0 lo)).take (sIx items.size items.size hi-sIx items.size 0 lo)).toArray.size<=sizeLine;rw[bF,fU,mH,dU];omega
 obtain⟨os,Y,W,U⟩:=id hs;have V:s.TypeIs (.ref sl) "slice" := ⟨os,Y,W⟩;unfold getItem
 try with_reducible refine ak ?_
 first|refine aa (af ?_)|skip
 refine aa (wpAny_sequenceKey O.typeIs (by decide) ?_);refine aa (am (name:=dA "__getitem__") O.typeIs cw
  (az cw O.typeIs entry_tuple_getitem ?_ (args_tuple_getitem _ _)))
 show wpAny _ _ (ei (.ref t) >>= _) _ _ s;refine aa (tupleItemsOf_ O ?_);refine aa (be V ?_);rw[if_pos (by decide)];refine aa (pQ hs pl pu ?_);have X:¬((((sIx items.size 0 lo:Nat):Int)==0&&(1:Int)==1&&(sIx items.size items.size hi-sIx items.size 0 lo)==items.size)=true):=by
  intro q;rw[aM,aM]at q;have q1:((sIx items.size 0 lo:Nat):Int)=0:=eq_of_beq q.1.1;have q2:sIx items.size items.size hi-sIx items.size 0 lo=items.size:=eq_of_beq q.2;exact hw ⟨by omega,by omega⟩
 show wpAny _ _ (if(((sIx items.size 0 lo:Nat):Int)==0&&(1:Int)==1&&(sIx items.size items.size hi-sIx items.size 0 lo)==items.size)=true then _ else _) _ _ s;rw[if_neg X,Ox]
 first
  |exact aa (m:=c0 _) (ar (af ⟨_,rfl,af h⟩) Z)
  |exact aa (m:=c0 _) (ar (aa (af (af ⟨_,rfl,af h⟩))) Z)
  |exact aa (aa (m:=c0 _) (ar (af (af ⟨_,rfl,af h⟩)) Z))
  |exact aa (aa (m:=c0 _) (ar (af ⟨_,rfl,af h⟩) Z))
end
end HT
namespace L2
abbrev TO:=St->Hp->(Option Int->Hp->Prop)->Prop
def PO(X:Cx)(e:Option Expr)(t:TO):Prop:=
 ∀(pins:List (Addr×Obj))(s:bE)(σ:St)(H:Hp)(Q:Option Int->Hp->Prop),Inv X pins σ H s->t σ H Q ->
  wpAny (model X.prog X.w) X.A (evalPart e X.env) (λu s'=>∃o H',Inv X pins σ H' s'/\d1 u o/\Q o H') X.xe s
def S6:TO:=λ_ H Q=>Q none H
def ZV(t:TE):TO:=λσ H Q=>t σ H λx H1=>∃i,x = .int i/\Q (some i) H1
section
variable{X:Cx}{e:Expr}{te:TE}{lo hi:Option Expr}{tl th:TO}{pos p2:Pos}
theorem S7:PO X none S6:=by
 intro pins s σ H Q I h;rw[evalPart_none];exact af ⟨none,H,I,.none,h⟩
theorem S8(h:PE X e te):PO X (some e) (ZV te):=by
 intro pins s σ H Q I hw;rw[evalPart_some];refine thn (h pins s σ H _ I hw) λu s1 ⟨x,H1,Y,Z,q1⟩=>?_
 obtain⟨i,rfl,q⟩:=q1;obtain⟨t,rfl⟩:=Z;exact⟨some i,H1,Y,.int i t,q⟩
def SlR(X:Cx)(r:V->Option Int->Option Int->Hp->VK->Prop):Prop:=
 ∀(pins:List (Addr×Obj))(s:bE)(σ:St)(H:Hp)(x:V)(v Y Z:Value)(lo hi:Option Int)(sl:Addr)(Q:VK),Inv X pins σ H s->RelV x v->s.heap.IsSliceOf sl Y Z .none->d1 Y lo->d1 Z hi->r x lo hi H Q ->
  ∃T id,typeLookup (.type T) "__getitem__"=pure (some (.builtin id))/\s.TypeIs v T/\wpAny (model X.prog X.w) X.A (getItem v (.ref sl)) (EP X pins σ Q) X.xe s
theorem SlR.or{r O:V->Option Int->Option Int->Hp->VK->Prop}(h:SlR X r)(h':SlR X O):SlR X (λx lo hi H Q=>r x lo hi H Q\/O x lo hi H Q):=by
 intro pins s σ H x v Y Z lo hi sl Q I W hs pl U q;rcases q with q|q
 ·exact h pins s σ H x v Y Z lo hi sl Q I W hs pl U q
 ·exact h' pins s σ H x v Y Z lo hi sl Q I W hs pl U q
noncomputable def tSl(r:V->Option Int->Option Int->Hp->VK->Prop)(te:TE)(tl th:TO):TE:=λσ H Q=>te σ H λx H1=>tl σ H1 λl H2=>th σ H2 λu Z=>r x l u Z Q
theorem yX{r:V->Option Int->Option Int->Hp->VK->Prop}(hr:SlR X r)(he:PE X e te)(hl:PO X lo tl)(O:PO X hi th):PE X (.Subscript e (.Slice lo hi none p2) pos) (tSl r te tl th):=by
 intro pins s σ H Q I h;refine Subscript_ (thn (he pins s σ H _ I h) λv s1 ⟨x,H1,J,S,q1⟩=>?_);refine wpAny_Slice (thn (hl pins s1 σ H1 _ J q1) λW s2 ⟨l,H2,K,pl,q2⟩=>thn (O pins s2 σ H2 _ K q2) λY Z ⟨u,U,L,R,q3⟩=>?_);rw[evalPart_none];refine af ?_;have M:Inv X pins σ U {Z with heap:=Z.heap.push {cls:=.type "slice", data:=.fields #[W,Y,.none]} }:=L.kept (t':=Z.toks) λb G q=>ad _ q
 obtain⟨T,id,hT,P,N⟩:=hr pins {Z with heap:=Z.heap.push {cls:=.type "slice", data:=.fields #[W,Y,.none]} } σ U x v W Y l u Z.heap.objs.size Q M S (Heap.IsSliceOf.new ..) pl R q3;exact tail_any (ops:=[.ref Z.heap.objs.size,v]) P hT N (by with_unfolding_all rfl)
def Fb(xs:List V)(lo hi:Option Int):List V:=(xs.drop (HT.sIx xs.length 0 lo)).take (HT.sIx xs.length xs.length hi-HT.sIx xs.length 0 lo)
theorem xQ(xs:List V)(lo hi:Option Int):(Fb xs lo hi).length<=xs.length:=by
 unfold Fb;rw[fU,mH];omega
def ai9(K:PySem.W.Frag):V->Option Int->Option Int->Hp->VK->Prop:=λx lo hi H Q=>∃a xs,x = .ref a/\SqT K H a xs /\
 ¬(HT.sIx xs.length 0 lo=0/\HT.sIx xs.length xs.length hi=xs.length)/\∀p,H p=none->Q (.ref p) (upd H p (.tup (Fb xs lo hi)))
theorem W_:SlR X (ai9 X.K):=by
 intro pins s σ H x v T U lo hi sl Q I Y hs pl W h;obtain⟨a,xs,rfl,hx,hw,q⟩:=h
 cases Y;obtain⟨its,r,Z,V⟩:=I.tuple hx;have hlen:its.toArray.size=xs.length:=by rw[bF];exact r.length.symm
 refine⟨"tuple", _,PyProof.Rows.slot_tuple_getitem.lookup,Z.typeIs,?_⟩;refine HT.vq Z hs pl W (by rwa[hlen]) ?_ (by rwa[hlen]);rw[hlen];refine⟨.ref s.heap.objs.size,_,I.laid (t':=s.toks) (o:=.tup (Fb xs lo hi)) (λb S q=>ad _ q) (aQ _) ?_,rfl,q _ (I.hok.fresh (aQ _))⟩;exact⟨bM (xQ xs lo hi) V,_,(r.drop (HT.sIx xs.length 0 lo)).take (HT.sIx xs.length xs.length hi-HT.sIx xs.length 0 lo),IsTup.new _ _⟩
def Oz(K:PySem.W.Frag):R2:=λx y H Q=>∃a b xs ys,x = .ref a/\y = .ref b/\SqT K H a xs/\SqT K H b ys/\xs≠[]/\xs.length+ys.length<=sizeLine /\
 (ys=[]->Q (.ref a) H)/\(ys≠[]->∀p,H p=none->Q (.ref p) (upd H p (.tup (xs++ys))))
theorem Vals.nil_iff{xs:List V}{us:List Value}(r:Vals xs us):us=[]<->xs=[]:=by
 cases r with
 |nil=>simp
 |cons _ _=>simp
theorem JM:OpR X (binaryOp .Add) (Oz X.K):=by
 intro pins s σ H x y v u Q I T U h;obtain⟨a,b,xs,ys,rfl,rfl,ha,hb,hx,V,q1,q2⟩:=h
 cases T
 cases U;obtain⟨its,Y,p1,_⟩:=I.tuple ha;obtain⟨W,Z,p2,_⟩:=I.tuple hb;refine HT.S5 p1 p2 (λz=>hx (Y.nil_iff.mp z)) (λz=>⟨.ref a,H,I,rfl,q1 (Z.nil_iff.mp z)⟩) (λz=>?_) (by rw[<-Y.length,<-Z.length];exact V);refine⟨.ref s.heap.objs.size,_,I.laid (t':=s.toks) (o:=.tup (xs++ys)) (λb S q=>ad _ q) (aQ _) ?_,rfl,q2 (λw=>z (Z.nil_iff.mpr w)) _ (I.hok.fresh (aQ _))⟩;exact⟨by rw[bH];exact V,_,Y.append Z,IsTup.new _ _⟩
end
end L2
namespace L2
noncomputable def ixN(n:Nat)(i:Int):Option Nat:=if 0<=i then(if i<n then some i.toNat else none)else if -(n:Int)<=i then some (i+n).toNat else none
def atI{α:Type}(xs:List α)(i:Int):Option α:=(ixN xs.length i).bind λj=>xs[j]?
theorem JN{n:Nat}{i:Int}{j:Nat}(h:ixN n i=some j):seqIndex? i n=some j/\j<n/\-(n:Int)<=i/\i<n:=by
 unfold ixN at h;by_cases h0:0<=i
 ·rw[if_pos h0]at h;by_cases h1:i<n
  ·rw[if_pos h1]at h;have e:=dB.inj h;exact⟨by rw[seqIndex_of h0 h1,e],by omega,by omega,h1⟩
  ·rw[if_neg h1]at h;cases h
 ·rw[if_neg h0]at h;by_cases h1 : -(n:Int)<=i
  ·rw[if_pos h1]at h;have e:=dB.inj h;exact⟨by rw[seqIndex_neg (by omega) h1,e],by omega,h1,by omega⟩
  ·rw[if_neg h1]at h;cases h
theorem Cq{α:Type}{xs:List α}{i:Int}{v:α}(h:atI xs i=some v):∃j,seqIndex? i xs.length=some j/\xs[j]? = some v/\j<xs.length/\-(xs.length:Int)<=i/\i<xs.length:=by
 unfold atI at h
 cases e:ixN xs.length i with
 |none=>rw[e]at h;cases h
 |some j=>
  rw[e]at h;obtain⟨h1,h2,h3,h4⟩:=JN e;exact⟨j,h1,h,h2,h3,h4⟩
def yE(b:Expr):Prop:=∀o i,subscripted b false o i=operate [o,i] (getItem o i)
def IxR(X:Cx)(r:R2):Prop:=
 ∀(value slice:Expr)(pins:List (Addr×Obj))(s:bE)(σ:St)(H:Hp)(x y:V)(v u:Value)(Q:VK),Inv X pins σ H s->RelV x v->RelV y u->r x y H Q ->
  subscripted slice false v u=operate [v,u] (getItem v u)->wpAny (model X.prog X.w) X.A (subscriptTail value slice v u) (EP X pins σ Q) X.xe s
def MtR(X:Cx)(id:String)(r:V->List V->Hp->VK->Prop):Prop:=
 ∀(pins:List (Addr×Obj))(s:bE)(σ:St)(H:Hp)(x:V)(xs:List V)(v:Value)(us:List Value)(Q:VK),Inv X pins σ H s->RelV x v->Vals xs us->r x xs H Q ->
  wpAny (model X.prog X.w) X.A (call (.builtin id) (v::us)) (EP X pins σ Q) X.xe s
section
variable{X:Cx}{a b:Expr}{ta tb:TE}{pos:Pos}
theorem IxR.or{r O:R2}(h:IxR X r)(h':IxR X O):IxR X (λx y H Q=>r x y H Q\/O x y H Q):=by
 intro value slice pins s σ H x y v u Q I Y Z q hs;rcases q with q|q
 ·exact h value slice pins s σ H x y v u Q I Y Z q hs
 ·exact h' value slice pins s σ H x y v u Q I Y Z q hs
theorem MtR.or{id:String}{r O:V->List V->Hp->VK->Prop}(h:MtR X id r)(h':MtR X id O):MtR X id (λx xs H Q=>r x xs H Q\/O x xs H Q):=by
 intro pins s σ H x xs v us Q I Z rs q;rcases q with q|q
 ·exact h pins s σ H x xs v us Q I Z rs q
 ·exact h' pins s σ H x xs v us Q I Z rs q
theorem VR{r:R2}(O:IxR X r)(ha:PE X a ta)(hb:PE X b tb)(hs:yE b):PE X (.Subscript a b pos) (tOp r ta tb):=by
 intro pins s σ H Q I h;exact Subscript_ (W6 ha hb I h λv u s2 x y H2 W Y Z q=>O a b pins s2 σ H2 x y v u Q W Y Z q (hs _ _))
def ZW(K:PySem.W.Frag):R2:=λx y H Q=>∃p xs i v,x = .ref p/\y = .int i/\SqL K H p xs/\atI xs i=some v/\Q v H
def ZX(K:PySem.W.Frag):R2:=λx y H Q=>∃p xs i v,x = .ref p/\y = .int i/\SqT K H p xs/\atI xs i=some v/\Q v H
def Z0:R2:=λx y H Q=>∃z i c,x = .str z/\y = .int i/\z.length<=sizeLine/\atI z.cps.toList i=some c/\Q (.str ⟨#[c]⟩) H
theorem S9:IxR X (ZW X.K):=by
 intro value slice pins s σ H x y v u Q I T U h hs;obtain⟨p,xs,i,z,rfl,rfl,hq,S,q⟩:=h
 cases T;obtain⟨t,rfl⟩:=U;obtain⟨its,r,pl,R⟩:=I.list hq;obtain⟨j,h1,h2,h3,h4,h5⟩:=Cq S;obtain⟨w,V,Y⟩:=r.get h2;have hl:=r.length;have hn:=uM;have Z:EP X pins σ Q w s:=⟨z,H,I,Y,q⟩;by_cases h0:0<=i
 ·have W:i.toNat=j:=by
   rw[seqIndex_of h0 h5]at h1;exact dB.inj h1
  exact item_listR pl.isList h0 (by omega) (by rw[W];simpa using V) Z hs
 ·have W:(i+(its.toArray.size:Int)).toNat=j:=by
   rw[seqIndex_neg (by omega) h4]at h1;rw[bF,<-hl];exact dB.inj h1
  exact subscriptTail_builtinR (x:=w) pl.isList.typeIs slot_list_getitem.lookup
   (wpAny_getItem_list_neg (Q:=λr s'=>r=w/\EP X pins σ Q r s') pl.isList (by omega) (by rw[bF]<;>omega) (by omega) (by rw[W];simpa using V) ⟨rfl,Z⟩) hs
theorem Xa:IxR X (ZX X.K):=by
 intro value slice pins s σ H x y v u Q I V W h hs;obtain⟨p,xs,i,z,rfl,rfl,hq,U,q⟩:=h
 cases V;obtain⟨t,rfl⟩:=W;obtain⟨its,r,pl,S⟩:=I.tuple hq;obtain⟨j,h1,h2,h3,h4,h5⟩:=Cq U;obtain⟨w,T,Z⟩:=r.get h2;have hl:=r.length;have hn:=uM;have Y:EP X pins σ Q w s:=⟨z,H,I,Z,q⟩;exact subscriptTail_builtinR (x:=w) pl.typeIs slot_tuple_getitem.lookup
  (getItem_tuple (j:=j) (Q:=λr s'=>r=w/\EP X pins σ Q r s') pl (by omega) (by omega) (by rwa[bF,<-hl]) (by simpa using T) ⟨rfl,Y⟩) hs
theorem OD:IxR X Z0:=by
 intro value slice pins s σ H x y v u Q I Y Z h hs;obtain⟨z,i,c,rfl,rfl,S,W,q⟩:=h;obtain⟨t,rfl⟩:=Y;obtain⟨T,rfl⟩:=Z;obtain⟨j,h1,h2,h3,h4,h5⟩:=Cq W;have hl:z.cps.toList.length=z.length:=by simp[Str.length]
 rw[hl]at h1 h4 h5;have hn:=uM;exact tail_any (bc s z t) slot_str_getitem.lookup (getItem_str (c:=c) (by
  have U:decide (i < -(2^63:Int))=false:=dFa (by omega);have V:decide (i≥2^63)=false:=dFa (by omega);rw[U,V,Bool.or_false]) (by rw[h1];simpa using h2) ⟨.str ⟨#[c]⟩,H,I.tok _,⟨_,rfl⟩,q⟩) hs
def rIx(K:PySem.W.Frag):R2:=λx y H Q=>ZW K x y H Q\/ZX K x y H Q\/Z0 x y H Q
theorem Xb:IxR X (rIx X.K):=S9.or (Xa.or OD)
theorem Hy(its:List Value)(n j:Nat)(u:Value):eu (·.setIfInBounds j u) {cls:=.type "list", data:=.seq its.toArray n}={cls:=.type "list", data:=.seq (its.set j u).toArray n}:=by
 simp[eu]
theorem Inv.lst{pins:List (Addr×Obj)}{σ:St}{H:Hp}{s:bE}{p:Addr}{xs:List V}(I:Inv X pins σ H s)(h:H p=some (.lst xs)):
 ∃(its:List Value)(n:Nat),Vals xs its/\s.heap.get? p=some {cls:=.type "list", data:=.seq its.toArray n}/\xs.length<=sizeLine:=by
 obtain⟨z,its,n,r,e⟩:=I.hok p _ h;exact⟨its,n,r,e,z⟩
theorem Inv.lstUpd{pins:List (Addr×Obj)}{σ:St}{H:Hp}{s:bE}{p:Addr}{xs ys:List V}{its its':List Value}{n O:Nat}{f:Obj->Obj}(I:Inv X pins σ H s)(h:H p=some (.lst xs))
 (ho:s.heap.get? p=some {cls:=.type "list", data:=.seq its.toArray n}) (Y:f {cls:=.type "list", data:=.seq its.toArray n}={cls:=.type "list", data:=.seq its'.toArray O}) (r:Vals ys its') (Z:ys.length<=sizeLine) (t:Nat) :
 Inv X pins σ (upd H p (.lst ys)) {s with heap:=s.heap.update p f,toks:=t}:=by
 have e:(s.heap.update p f).get? p=some {cls:=.type "list", data:=.seq its'.toArray O}:=by
  rw[bt f ho (by rw[Y]<;>rfl),Y]
 refine I.write (x:=p) (e:=p) (by rw[h];trivial) (.inl rfl) (λb u hb q=>(br _ _ (ce hb)).trans q) ⟨_,e⟩ ?_;exact⟨Z,its',O,r,e⟩
def Z1:V->V->V->Hp->(Hp->Prop)->Prop:=λo i v H Q=>∃p xs k j,o = .ref p/\i = .int k/\H p=some (.lst xs)/\ixN xs.length k=some j/\Q (upd H p (.lst (xs.set j v)))
theorem set_list:Zz X Z1:=by
 intro pins s σ H o i v O N u Q I S R T h;obtain⟨p,xs,k,j,rfl,rfl,V,P,q⟩:=h
 cases S;obtain⟨t,rfl⟩:=R;obtain⟨its,n,r,Z,M⟩:=I.lst V;obtain⟨h1,h2,h3,h4⟩:=JN P;have hl:=r.length;have hn:=uM;have U:Inv X pins σ (upd H p (.lst (xs.set j v))) {s with heap:=s.heap.update p (eu (·.setIfInBounds j u))}:=
  I.lstUpd V Z (Hy its n j u) (r.set T j) (by rwa[bT]) s.toks
 by_cases h0:0<=k
 ·have Y:k.toNat=j:=by
   rw[seqIndex_of h0 h4]at h1;exact dB.inj h1
  exact PySem.W.ki_setAt Z h0 (by omega) (by rwa[bF,<-hl]) (by rw[Y];exact⟨_,U,q⟩)
 ·have Y:(k+(its.toArray.size:Int)).toNat=j:=by
   rw[seqIndex_neg (by omega) h3]at h1;rw[bF,<-hl];exact dB.inj h1
  exact PySem.W.ki_setBack Z (by omega) (by rwa[bF,<-hl]) (by omega) (by rw[Y];exact⟨_,U,q⟩)
theorem Cr(lo hi:Option Int)(n:Nat):(sliceBounds lo hi none n).1=((HT.sIx n 0 lo:Nat):Int)/\(sliceBounds lo hi none n).2.1=((HT.sIx n n hi:Nat):Int)/\(sliceBounds lo hi none n).2.2=1:=by
 refine⟨?_,?_,rfl⟩
 ·cases lo with
  |none=>simp[sliceBounds,HT.sIx]
  |some i=>
   simp only[sliceBounds,HT.sIx,Option.getD_none,show(1:Int)>0 by decide,if_true];by_cases h:i<0
   ·simp only[h,if_true]<;>omega
   ·simp only[h,if_false]<;>omega
 ·cases hi with
  |none=>simp[sliceBounds,HT.sIx]
  |some i=>
   simp only[sliceBounds,HT.sIx,Option.getD_none,show(1:Int)>0 by decide,if_true];by_cases h:i<0
   ·simp only[h,if_true]<;>omega
   ·simp only[h,if_false]<;>omega
theorem Ah(its:List Value)(lo hi:Option Int):slicePick its.toArray lo hi none=((its.drop (HT.sIx its.length 0 lo)).take (HT.sIx its.length its.length hi-HT.sIx its.length 0 lo)).toArray:=by
 obtain⟨h1,h2,h3⟩:=Cr lo hi its.toArray.size;unfold slicePick;rw[h1,h2,h3];simp only[sliceRange_one,pick_run,bF]<;>rfl
def aj0(K:PySem.W.Frag):V->Option Int->Option Int->Hp->VK->Prop:=λx lo hi H Q=>∃a xs,x = .ref a/\SqL K H a xs/\∀p,H p=none->Q (.ref p) (upd H p (.lst (Fb xs lo hi)))
theorem S_:SlR X (aj0 X.K):=by
 intro pins s σ H x v T U lo hi sl Q I Y hs pl W h;obtain⟨a,xs,rfl,hx,q⟩:=h
 cases Y;obtain⟨its,r,Z,V⟩:=I.list hx;have hlen:=r.length;refine⟨"list", _,slot_list_getitem.lookup,Z.isList.typeIs,?_⟩;refine wpAny_getItem_list_slice Z.isList hs pl W .none (by simp) ?_ (by rw[bF]<;>omega);rw[Ah,<-hlen];refine⟨.ref s.heap.objs.size,_,I.laid (t':=s.toks) (o:=.lst (Fb xs lo hi)) (λb S q=>ad _ q) (aQ _) ?_,rfl,q _ (I.hok.fresh (aQ _))⟩;exact⟨bM (xQ xs lo hi) V,_,0,(r.drop (HT.sIx xs.length 0 lo)).take (HT.sIx xs.length xs.length hi-HT.sIx xs.length 0 lo),ag _ rfl⟩
theorem eO:jP X (.builtin "len") (λxs H Q=>∃p ys,xs=[.ref p]/\(SqL X.K H p ys\/SqT X.K H p ys)/\Q (.int ys.length) H):=by
 intro pins s σ H xs us Q I r h;obtain⟨p,ys,rfl,hq,q⟩:=h;obtain⟨u,rfl,Y⟩:=vals1 r
 cases Y;have hn:=uM;rcases hq with hq|hq
 ·obtain⟨its,Z,pl,W⟩:=I.list hq;have hlen:=Z.length;exact Calls.call_len_list pl.isList (by simp only[bF]<;>omega) ⟨.int ys.length,H,I.tok _,⟨s.toks+1,by rw[bF,hlen]⟩,q⟩
 ·obtain⟨its,Z,pl,W⟩:=I.tuple hq;have hlen:=Z.length;exact len_tuple pl (by simp only[bF]<;>omega) ⟨.int ys.length,H,I.tok _,⟨s.toks+1,by rw[bF,hlen]⟩,q⟩
theorem Cu:jP X (.builtin "len") (λxs H Q=>∃z,xs=[.str z]/\z.length<=sizeLine/\Q (.int z.length) H):=by
 intro pins s σ H xs us Q I r h;obtain⟨z,rfl,Z,q⟩:=h;obtain⟨u,rfl,t,rfl⟩:=vals1 r;have hn:=uM;exact len_str (by omega) ⟨.int z.length,H,I.tok _,⟨_,rfl⟩,q⟩
theorem jP.or{f:Value}{r O:List V->Hp->VK->Prop}(h:jP X f r)(h':jP X f O):jP X f (λxs H Q=>r xs H Q\/O xs H Q):=by
 intro pins s σ H xs us Q I rs q;rcases q with q|q
 ·exact h pins s σ H xs us Q I rs q
 ·exact h' pins s σ H xs us Q I rs q
theorem Cv:jP X (.type "list") (λxs H Q=>∃p ys,xs=[.ref p]/\(SqL X.K H p ys\/SqT X.K H p ys)/\∀l,H l=none->Q (.ref l) (upd H l (.lst ys))):=by
 intro pins s σ H xs us Q I r h;obtain⟨p,ys,rfl,hq,q⟩:=h;obtain⟨u,rfl,U⟩:=vals1 r
 cases U;have W:∀(its:List Value),Vals ys its->ys.length<=sizeLine->∀(h':cc)(c':Nat),(∀b o',s.heap.get? b=some o'->h'.get? b=some o') ->
  h'.get? s.heap.objs.size=some {cls:=.type "list", dict:=none,data:=.seq its.toArray c',slots:=#[]}->EP X pins σ Q (.ref s.heap.objs.size) {s with heap:=h'}:=λits Z Y h' c' kp e=>
  ⟨.ref s.heap.objs.size,_,I.laid (t':=s.toks) kp (aQ _) (show iM X.prog X.w _ h' _ (.lst ys)from⟨Y,its,c',Z,e⟩),rfl,q _ (I.hok.fresh (aQ _))⟩
 rcases hq with hq|hq
 ·obtain⟨its,Z,pl,Y⟩:=I.list hq;have hlen:=Z.length;obtain⟨o,V,hc,n,hd⟩:=pl.isList;exact call_list_seq p (.inl rfl) V hc hd (λh' c' kp e=>W its Z Y h' c' kp e) (by simp only[bF]<;>omega)
 ·obtain⟨its,Z,pl,Y⟩:=I.tuple hq;have hlen:=Z.length;obtain⟨o,V,hc,n,hd⟩:=pl;exact call_list_seq p (.inr rfl) V hc hd (λh' c' kp e=>W its Z Y h' c' kp e) (by simp only[bF]<;>omega)
theorem Ai:jP X (.type "tuple") (λxs H Q=>∃p ys,xs=[.ref p]/\((SqL X.K H p ys/\∀l,H l=none->Q (.ref l) (upd H l (.tup ys)))\/(SqT X.K H p ys/\Q (.ref p) H))):=by
 intro pins s σ H xs us Q I r h;obtain⟨p,ys,rfl,h⟩:=h;obtain⟨u,rfl,V⟩:=vals1 r
 cases V;rcases h with⟨hq,q⟩|⟨hq,q⟩
 ·obtain⟨its,Z,pl,Y⟩:=I.list hq;have hlen:=Z.length;refine call_tuple_list pl.isList (λh' kp=>?_) (by simp only[bF]<;>omega);have W:=I.kept (t':=s.toks) kp;have U:Inv X pins σ (upd H h'.objs.size (.tup ys)) {s with heap:=h'.push {cls:=.type "tuple", data:=.seq its.toArray} }:=
   W.laid (t':=s.toks) (λb o e=>ad _ e) (aQ _) (show iM X.prog X.w _ _ _ (.tup ys)from⟨Y,its,Z,IsTup.new _ _⟩)
  exact⟨.ref h'.objs.size,_,U,rfl,q _ (W.hok.fresh (aQ _))⟩
 ·obtain⟨its,Z,pl,Y⟩:=I.tuple hq;exact call_tuple_same pl ⟨.ref p,H,I,rfl,q⟩
def tyV(K:PySem.W.Frag)(T:String)(x:V)(H:Hp):Prop:=match x with
 | .str _=>T="str"
 | .int _=>T="int"
 | .ref p=>(T="list" /\ ∃xs,SqL K H p xs)\/(T="tuple" /\ ∃o,K.lookup p=some o/\o.cls = .type "tuple"/\o.dict=none) \/
  (T="dict"/\((∃kvs,H p=some (.dK kvs))\/∃kvs,H p=some (.dT kvs)))\/(T="set" /\ ∃S n,H p=some (.set S n))
 |_=>False
theorem Xc{pins:List (Addr×Obj)}{σ:St}{H:Hp}{s:bE}{T:String}{x:V}{v:Value}(I:Inv X pins σ H s)(r:RelV x v)(ty:tyV X.K T x H):
 s.TypeIs v T/\∀a,v = .ref a->∃O,s.heap.get? a=some O/\O.dict=none:=by
 cases x with
 |str z=>
  obtain⟨t,rfl⟩:=r
  cases(show T="str"from ty);exact⟨bc s z t,λ_ e=>nomatch e⟩
 |int i=>
  obtain⟨t,rfl⟩:=r
  cases(show T="int"from ty);exact⟨typeIs_int s i t,λ_ e=>nomatch e⟩
 |ref p=>
  cases r;rcases ty with⟨rfl,xs,hq⟩|⟨rfl,o,Z,hc,hd⟩|⟨rfl,Z⟩|⟨rfl,S,n,Z⟩
  ·obtain⟨its,_,pl,_⟩:=I.list hq;refine⟨pl.isList.typeIs,λa e=>?_⟩
   cases e;obtain⟨o,n,e,c,hd,_⟩:=pl;exact⟨o,e,hd⟩
  ·refine⟨⟨o,I.kIn p o Z,hc⟩,λa e=>?_⟩
   cases e;exact⟨o,I.kIn _ o Z,hd⟩
  ·have z:∃o,s.heap.get? p=some o/\o.ExactDict:=by
    rcases Z with⟨kvs,Z⟩|⟨kvs,Z⟩
    ·obtain⟨_,_,_,_,o,_,_,e,ex,_⟩:=I.hok p _ Z;exact⟨o,e,ex⟩
    ·obtain⟨_,_,_,_,o,_,_,e,ex,_⟩:=I.hok p _ Z;exact⟨o,e,ex⟩
   obtain⟨o,e,ex⟩:=z;refine⟨⟨o,e,ex.1⟩,λa Y=>?_⟩
   cases Y;exact⟨o,e,ex.2.1⟩
  ·obtain⟨o,_,_,_,e,ex,_⟩:=I.hok p _ Z;refine⟨⟨o,e,ex.1⟩,λa Y=>?_⟩
   cases Y;exact⟨o,e,ex.2.1⟩
 |_=>exact ck ty
noncomputable def tBM(K:PySem.W.Frag)(T:String)(r:V->List V->Hp->VK->Prop)(to:TE)(t:TA):TE:=λσ H Q=>to σ H λx H1=>tyV K T x H1/\t σ H1 λxs H2=>r x xs H2 Q
variable{o e:Expr}{es:List Expr}{to:TE}{t:TA}{name:Str}{apos cpos:Pos}{T id:String}{r:V->List V->Hp->VK->Prop}
theorem V0(pa:PlainAttrs T)(slot:Slot T name id)(hty:typeOf (.builtin id)=pure (.type "method_descriptor"))(hm:MtR X id r)(ho:PE X o to)(ha:PA X (e::es) t)
 (Z:attributeBase o name X.env (eval o X.env)=eval o X.env:=by rfl)
 (hfew:((backTo cpos (starEach (e::es) X.env)).all (λx=>!x.1)&&(backToKw cpos (keywordEach [] X.env)).all (λx=>x.1.isSome)
  && decide ((e::es).length+([]:List dQ).length+(if([]:List dQ).isEmpty then 0 else 1)<30))=true:=by rfl)
 (Y:(apos.endLine==cpos.line)=true:=by rfl) (hs:starEach (e::es) X.env=(false,eval e X.env)::starEach es X.env:=by rfl) (O:(backTo cpos (starEach es X.env)).any (·.1)=false:=by rfl) :
 PE X (.Call (.Attribute o name apos) (e::es) [] cpos) (tBM X.K T r to t):=by
 intro pins s σ H Q I h;refine wpAny_Call_method_late Z hfew Y rfl (thn (ho pins s σ H _ I h) λv s1 ⟨x,H1,U,W,ty,q1⟩=>?_);obtain⟨h1,h2⟩:=Xc U W ty;refine⟨T,id,pa,slot,hty,h1,h2,?_⟩;have V:=ha cpos pins s1 σ H1 _ U q1;rw[hs]at V ⊢;refine bq (by show(false||(backTo cpos (starEach es X.env)).any (·.1))=false;rw[O]<;>rfl) (Calls.evalArgs_plain ?_);exact thn V λus s2 ⟨vs,H2,R,S,q2⟩=>hm pins s2 σ H2 x vs v us Q R W S q2
/- xs.append(e),list.index on a module's tuple .. are MtR facts of 06m -/
end
end L2
namespace L2
def MtM(X:Cx)(id:String)(r:V->List V->Hp->VK->Prop):Prop:=
 ∀(pins:List (Addr×Obj))(s:bE)(σ:St)(H:Hp)(x:V)(xs:List V)(v:Value)(us:List Value)(Q:VK),Inv X pins σ H s->RelV x v->Vals xs us->r x xs H Q ->
  wpAny (model X.prog X.w) X.A (call (.builtin id) (v::us)) (EP X pins σ Q) X.xe s
theorem Vals.one:∀{x:V}{us:List Value},Vals [x] us->∃u,us=[u]/\RelV x u
 |_,_,.cons r .nil=>⟨_,rfl,r⟩
theorem Vals.zero:∀{us:List Value},Vals [] us->us=[]
 |_,.nil=>rfl
theorem Vals.rep{xs:List V}{us:List Value}(h:Vals xs us):∀k:Nat,Vals (aX k xs).flatten (aX k us).flatten
 |0=>.nil
 |k+1=>by
  rw[cY,cY,gB,gB];exact Vals.append h (Vals.rep h k)
theorem foldl_rep(its:List Value):∀(k:Nat)(acc:List Value),
 List.foldl (λx1 x2=>x1++x2) acc.toArray (aX k its.toArray)=(acc++(aX k its).flatten).toArray
 |0,acc=>by simp
 |k+1,acc=>by
  have e:acc.toArray++its.toArray=(acc++its).toArray:=by simp
  have Z:(acc++its)++(aX k its).flatten=acc++(aX (k+1) its).flatten:=by
   rw[cY,gB,jF]
  rw[<-Z,<-foldl_rep its k (acc++its),<-e,cY,List.foldl_cons]
section
variable{X:Cx}{pins:List (Addr×Obj)}{σ:St}{H:Hp}{s:bE}{l b:Addr}{xs ys zs:List V}
theorem Inv.lset{its its':List Value}{n:Nat}{f:Array Value->Array Value}{t':Nat}(I:Inv X pins σ H s)(hH:H l=some (.lst xs))
 (e:s.heap.get? l=some {cls:=.type "list", data:=.seq its.toArray n}) (hf:f its.toArray=its'.toArray) (Y:Vals ys its') (O:ys.length<=sizeLine) :
 Inv X pins σ (upd H l (.lst ys)) {s with heap:=s.heap.update l (eu f),toks:=t'}:=by
 have q:=PySem.IsL.update e f;rw[hf]at q;refine I.write (x:=l) (e:=l) (by rw[hH];exact trivial) (.inl rfl) (λW u hb Z=>(br s.heap (eu f) (ce hb)).trans Z) ⟨_,q⟩ ?_;exact⟨O,its',_,Y,q⟩
theorem Inv.lnew{its:List Value}{t':Nat}(I:Inv X pins σ H s)(Y:Vals ys its)(O:ys.length<=sizeLine):
 Inv X pins σ (upd H s.heap.objs.size (.lst ys)) {s with heap:=s.heap.push {cls:=.type "list", data:=.seq its.toArray},toks:=t'}:=
 I.laid (λ_ _ q=>ad _ q) (aQ _) ⟨O,its,0,Y,ag _ rfl⟩
theorem Inv.fresh(I:Inv X pins σ H s):H s.heap.objs.size=none:=I.hok.fresh (aQ _)
theorem Inv.lstM(I:Inv X pins σ H s)(O:H l=some (.lst xs)):xs.length<=sizeLine/\∃(its:List Value)(n:Nat),Vals xs its/\xs.length=its.length/\s.heap.get? l=some {cls:=.type "list", data:=.seq its.toArray n}:=by
 obtain⟨z,its,n,r,e⟩:=I.hok l _ O;exact⟨z,its,n,r,r.length,e⟩
theorem OJ{n:Nat}(h:n<=sizeLine):et n=false:=by
 exact dFa (by omega)
end
section
variable{X:Cx}
def Tc:V->List V->Hp->VK->Prop:=λx vs H Q=>∃l xs y,x = .ref l/\vs=[y]/\H l=some (.lst xs)/\xs.length<sizeLine/\Q .non (upd H l (.lst (xs++[y])))
theorem wL:MtM X "list.append" Tc:=by
 intro pins s σ H x vs v us Q I Y W h;obtain⟨l,xs,y,rfl,rfl,Z,U,q⟩:=h
 cases Y;obtain⟨u,rfl,V⟩:=W.one;obtain⟨z,its,n,r,hl,e⟩:=I.lstM Z;refine bx F.slot_list_append ⟨_,e,rfl⟩ F.entry_list_append (F.args_list_append_2 _ _) (PySem.list_append l its.toArray n u (by rw[bF];omega)) ⟨e,?_⟩;refine⟨.non,_,I.lset (its':=its++[u]) Z e (by simp) (r.append (.cons V .nil)) ?_,rfl,q⟩;rw[bH,rH];omega
def aj1:R2:=λx y H Q=>∃l k xs,x = .ref l/\y = .int k/\H l=some (.lst xs)/\-(2^63)<=k/\k<2^63/\xs.length*k.toNat<=sizeLine /\
 ∀p,H p=none->Q (.ref p) (upd H p (.lst (aX k.toNat xs).flatten))
theorem len_rep{α:Type}(xs:List α)(k:Nat):(aX k xs).flatten.length=k*xs.length:=by
 induction k with
 |zero=>simp
 |succ k Z=>rw[cY,gB,bH,Z,Nat.succ_mul,Nat.add_comm]
theorem Xd:OpR X (binaryOp .Mult) aj1:=by
 intro pins s σ H x y v u Q I R S h;obtain⟨l,k,xs,rfl,rfl,P,h1,h2,M,q⟩:=h
 cases R;obtain⟨t,rfl⟩:=S;obtain⟨z,its,n,r,hl,e⟩:=I.lstM P;have hlen:its.toArray.size*k.toNat<=sizeLine:=by rwa[bF,<-hl]
 have V:¬its.toArray.size*k.toNat>(2^63-1)/8:=by
  have:(sizeLine:Nat)<=(2^63-1)/8:=by decide
  omega
 have W:¬(!Builtin.List.listFitsIndex k)=true:=by
  rw[fitsIndex_both h1 h2];exact cX
 have Z:¬et (its.toArray.size*k.toNat)=true:=by
  rw[OJ hlen];exact cX
 have Y:List.foldl (λx1 x2=>x1++x2) #[] (aX (if its.toArray.isEmpty=true then 0 else k.toNat) its.toArray)=(aX k.toNat its).flatten.toArray:=by
  have O:=λm=>by
   have:=foldl_rep its m [];rwa[List.nil_append]at this
  rw[O]
  cases its with
  |nil=>simp
  |cons a N=>rw[if_neg (by simp)]
 refine wpAny_binaryOp_repeat_ref (T := "list") (U := "int") (by decide) ⟨_,e,rfl⟩ (λs'=>typeIs_int s' k t) noFill_list_mul F.fills_int_mul F.slot_int_rmul repeat_list F.slot_int_index.lookup
  (bx F.slot_int_rmul (typeIs_int s k t) F.entry_int_rmul (F.args_int_rmul_2 _ _) (int___rmul___int_list k t l its.toArray n)
   ⟨e,rfl,⟨_,e,rfl⟩,bx F.slot_list_mul ⟨_,e,rfl⟩ F.entry_list_mul (F.args_list_mul_2 _ _) (AutoListH.list___mul___list_int_3 l its.toArray n k t W V Z) ⟨e,?_⟩⟩)
 rw[Y];exact⟨.ref _,_,I.lnew (t':=s.toks) (r.rep k.toNat) (by rwa[len_rep,Nat.mul_comm]),rfl,q _ I.fresh⟩
end
section
variable{prog:bP}{w:b8}{A:bX}{E:Value->bE->Prop}{s:bE}
set_option maxRecDepth 100000 in
end
section
variable{X:Cx}
end
end L2
namespace Att
open PySem.W PySem.Calls
theorem yh{P:Params}{h:cc}:∀(ns:List Int)(vs:List Value),WellAll P h vs (ns.map WData.int)->IntsAre vs ns:=by
 intro ns
 induction ns with
 |nil=>
  intro vs w;rw[iI]at w
  cases w;exact .nil
 |cons n ns Z=>
  intro vs w;rw[bB]at w
  cases w with
  |cons a b=>
   cases a;exact .cons _ _ (Z _ b)
theorem Lx{l:OpenLaw}{n:Nat}(hn:l.most=some n){P:Params}{h:cc}{args:List WData}{vals:List Value}
 (O:l.row.toRowW.claim.pre args=true) (Y:WellAll P h vals args) :
 ∃a vs ns,vals=[cb a]/\args=[WData.list (ns.map WData.int)]/\h.get? a=some {cls:=.type "list", data:=.seq vs.toArray}/\IntsAre vs ns/\ns.length<=n:=by
 have X:=(pre_splitW O).1;have hc:=(pre_splitW O).2;obtain⟨d,r,rfl,h1,h2⟩:=hasAllW_cons X;obtain rfl:=hasAllW_nil h2;obtain⟨xs,rfl,h3⟩:=hasW_list h1;obtain⟨ns,rfl⟩:=items_int h3;have hlen:ns.length<=n:=by
  have h4:(WTm.not (.lt (.lit (.int (n:Int))) (.len (.arg 0)))).holds [] {args:=[.list (ns.map .int)]}=true:=by
   have h4:=(holds_andW hc).1;rwa[hn]at h4
  have h5:=condW_of h4 (w_not (w_lt w_lit (w_len_list (w_arg rfl))));rw[aG]at h5;refine Nat.le_of_not_lt λq=>?_
  have U:(n:Int)<((ns.length:Nat):Int):=by omega
  first
   | (rw[dTr U]at h5;exact absurd h5 (by decide))
   | (simp at h5;omega)
 cases Y with
 |cons V W=>
  cases W
  cases V with
  |list T Z=>exact⟨_,_,ns,rfl,rfl,T,yh ns _ Z,hlen⟩
theorem Ly(l:OpenLaw)(args:List WData):l.row.toRowW.claim.post args (.bool true) args=true:=
 postW_of (r:=l.row.toRowW) (X:=(true==true))
  (show WShape.has [] (.bool true) .bool=true by first|rfl|decide|simp[WShape.has,WShape.arms,WShape.armsAll])
  (show(WTm.eq .res (.lit (.bool true))).value [] {args:=args,res:=some (.bool true),after:=args}=some (.bool (true==true))from w_eq_bool (w_res rfl) w_lit) rfl
theorem Fd{l:OpenLaw}{n:Nat}{q:bP}{loose:List Str}{XP:(Str->Option Value)->cc->Prop}{YP:b8->cc->Prop}{d:DefRec}
 (hn:l.most=some n) (hdf:d.params.defaults=[])
 (call:∀(w:b8)(s₀ O:bE)(mg mb:Str->Option Value)(fa:Addr)(o:Obj)(pm cd doc:Value)(a:Addr)(vs:List Value)(ns:List Int),
  Ground q loose [] XP w s₀ mg mb O.heap->YP w O.heap ->
  O.heap.get? fa=some o->o.data = .func (docDef d.name d.params d.body d.scope pm cd doc)->O.heap.CodeRec cd d.name->mg d.name=some (.ref fa) ->
  O.heap.get? a=some {cls:=.type "list", data:=.seq vs.toArray}->IntsAre vs ns->ns.length<=n->O.gens = #[] ->
  codeAny (model l.prog w) callerA (.call (.ref fa) ⟨[.ref a],[]⟩) (λr s'=>r = .ok (.ret (.bool true))/\OldK O.heap s'.heap/\s'.os=O.os/\d8 s'.gens) O) :
 WalkO q loose XP YP l.row.toRowW d [] (λf vs=>PySem.call f vs):=by
 intro w s₀ O mg mb G Y fa o pm cd doc dV kV R hd hcd T V P args vals as Z U S W Q;obtain rfl:dV = .none:=Dflts.none T hdf;obtain rfl:kV = .none:=Dflts.noKw T;obtain⟨a,vs,ns,rfl,rfl,X,hints,hlen⟩:=Lx hn Z W;refine enter_call (bi (call w s₀ O mg mb fa o pm cd doc a vs ns G Y R (fd_plain hd) hcd V X hints hlen P) λr s' hq=>?_);obtain⟨rfl,h2,h3,h4⟩:=hq;exact⟨.inl ⟨.bool true,.bool true,[],rfl,λ_=>rfl,.bool true,Ly l _,λ_=>⟨List.Pairwise.nil,λ_ hm=>(nomatch hm)⟩⟩,h2,h3,h4⟩
section
variable{prog:bP}{w:b8}{A:bX}{E:Value->bE->Prop}{s:bE}{K:Frag}
end
end Att
namespace L2
theorem pR:∀{vs:List Value}{ns:List Int},IntsAre vs ns->Vals (ns.map V.int) vs
 |_,_,.nil=>.nil
 |_,_,.cons n t h=>.cons ⟨t,rfl⟩ (pR h)
def Only(H:Hp):Prop:=∀b,H b=none\/∃o xs,H b=some (.frz o (.lst xs))
noncomputable def Fe(ts:List (Addr×Str×Pos))(H:Hp):Hp:=λb=>match ts.find? (λt=>t.1==b)with
 |some t=>some (.tbl t.2.1 t.2.2)
 |none=>H b
theorem O1(ts:List (Addr×Str×Pos))(H:Hp)(b:Addr):(Fe ts H b=H b/\∀t∈ts,t.1≠b)\/∃t∈ts,t.1=b/\Fe ts H b=some (.tbl t.2.1 t.2.2):=by
 unfold Fe
 cases e:ts.find? (λt=>t.1==b)with
 |none=>exact .inl ⟨rfl,λt Z z=>by have:=List.find?_eq_none.mp e t Z;simp[z]at this⟩
 |some t=>
  have h1:=List.mem_of_find?_eq_some e;have h2:=List.find?_some e;exact .inr ⟨t,h1,by simpa using h2,rfl⟩
theorem O2{P:bP}{w:b8}{K:PySem.W.Frag}{mg mb:Str->Option Value}{CX:CXT}{k:Nat}{fa a:Addr}{fd:ca}{x:Str}{sp:Sp}{O:bE}{vs:List Value}{ns:List Int}
 (KX:K.In O.heap) (hns:O.heap.Ns mainGlobals mg) (hb:O.heap.Ns builtinsNs mb) (hbb:∀x:Str,x≠"__name__"->mb x=bootBuiltins x) (hlim:O.heap.NoLimit) (hbm:∃bm ob,mg "__builtins__"=some (.ref bm)/\bm≠builtinsNs/\O.heap.get? bm=some ob/\ob.cls = .type "module"/\ob.dict=some builtinsNs/\ob.data = .plain) (hg:O.gens = #[])
 (ha:O.heap.get? a=some {cls:=.type "list", data:=.seq vs.toArray}) (hi:IntsAre vs ns) (hl:ns.length<=sizeLine) (hr:Room k callerA)
 (F:∀base:cc,K.In base->base.Ns mainGlobals mg->FnOk P w K mg base CX k fa fd [x] sp) (hbind:∀(s:bE)(u:Value),BindsTo s fd ⟨[u],[]⟩ [(x,u)])
 (ts:List (Addr×Str×Pos)) (hts:∀t∈ts,O.heap.get? t.1=some {cls:=.none,data:=.fields #[]}) (hCT:∀t∈ts,isCodeTable O.heap t.1) (hKt:∀t∈ts,K.lookup t.1=none) (htu:∀t∈ts,∀t'∈ts,t.1=t'.1->t=t')
 (hsp:∀H:Hp,(∀t∈ts,H t.1=some (.tbl t.2.1 t.2.2))->SqL K H a (ns.map V.int)->sp [.ref a] H (λv _=>v = .bl true) λ_ _ _=>False)
 (hCX:∀H e s',CX [] H O (λ_ _ _=>False) e s'->False) :
 codeAny (model P w) callerA (.call (.ref fa) ⟨[.ref a],[]⟩) (λr s'=>r = .ok (.ret (.bool true))/\OldK O.heap s'.heap/\s'.os=O.os/\d8 s'.gens) O:=by
 have f:=pR hi;have I:=hi.length;have core:∀H:Hp,(∀b,H b=none\/(∃o xs,H b=some (.frz o (.lst xs)))\/∃t∈ts,t.1=b/\H b=some (.tbl t.2.1 t.2.2))->(∀t∈ts,H t.1=some (.tbl t.2.1 t.2.2))->SqL K H a (ns.map V.int)->HOk P w H O.heap->(∀b,H b≠none->b=a\/∃t∈ts,t.1=b)->(H a≠none->K.lookup a=none) ->
  codeAny (model P w) callerA (.call (.ref fa) ⟨[.ref a],[]⟩) (λr s'=>r = .ok (.ret (.bool true))/\OldK O.heap s'.heap/\s'.os=O.os/\d8 s'.gens) O:=by
  intro H G hT l hok D hK;have Z:∀{b:Addr}{o:Obj},O.heap.get? b=some o->H b=none->(Eu O.heap H).get? b=some o:=λe n=>NQ e n
  have C:∀{b:Addr}{o:Obj}{es:Array DictEntry}{L:Nat},O.heap.get? b=some o->o.data = .dict es L->H b=none:=λ{b o es L} e d=>by
   cases q:H b with
   |none=>rfl
   |some u=>
    rcases D b (by rw[q];simp)with U|⟨t,Y,U⟩
    case inr=>
     subst U;rw[hts t Y]at e;cases e;have g:Data.fields #[]=Data.dict es L:=d
     cases g
    subst U;rw[ha]at e;cases e;have g:Data.seq vs.toArray _=Data.dict es L:=d
    cases g
  have S:∀{b:Addr}{m:Str->Option Value},O.heap.Ns b m->(Eu O.heap H).Ns b m:=λ{b m} ⟨o,es,L,e,d,r⟩=>⟨o,es,L,Z e (C e d),d,r⟩
  have E:=λb o e=>Z (KX b o e) (by
   cases q:H b with
   |none=>rfl
   |some u=>
    rcases D b (by rw[q];simp)with U|⟨t,Y,U⟩
    ·subst U;rw[hK (by rw[q];simp)]at e;cases e
    ·subst U;rw[hKt t Y]at e;cases e)
  have hM:Mod K mg (Eu O.heap H):=⟨E,S hns,⟨mb,S hb,hbb⟩,let⟨mc,h1,h2⟩:=hlim;⟨mc,S h1,h2⟩,let⟨bm,ob,g1,g2,g3,j,g5,g6⟩:=hbm;⟨bm,ob,g1,g2,Z g3 (by
   cases q:H bm with
   |none=>rfl
   |some u=>
    rcases D bm (by rw[q];simp)with U|⟨t,Y,U⟩
    ·rw[U,ha]at g3;cases g3;have z:=j;injection z with z
     exact absurd z (by decide)
    ·rw[<-U,hts t Y]at g3;cases g3
     cases j),j,g5,g6⟩⟩
  have e0:Env0 P w K mg (Eu O.heap H) callerA [] O H:=⟨rfl,hM,λb o e=>Sg e,Nat.le_of_eq (Lh _ _),trivial,λb hb=>absurd (show b∈([]:List Addr)from hb) (by simp),hok,.of_eq hg⟩;refine bi ((F _ E (S hns)).run callerA [] O H ⟨[.ref a],[]⟩ [.ref a] [.ref a] _ _ hr e0 (hbind O (.ref a)) (.cons rfl .nil) (hsp H hT l)) λr s' h=>?_
  cases r with
  |error e=>exact(hCX H e s' h).elim
  |ok fl=>
   cases fl with
   |next=>exact ck h
   |brk=>exact ck h
   |cont=>exact ck h
   |ret u=>
    obtain⟨v,H',os,bare,un,R,r',q⟩:=h;have q':v = .bl true:=q;subst q';obtain rfl:u=c_ true:=r';refine⟨rfl,⟨λb o e=>?_,λb o e=>un.there b o e (by simp)⟩,os,bare⟩
    cases q:H b with
    |none=>exact .inl <| un.keep b o e q (by intro z;exact absurd (show b∈([]:List Addr)from z) (by simp)) (by simp)
    |some u=>
     rcases G b with z|⟨ob,xs,z⟩|⟨t,Y,rfl,z⟩
     case inr.inr=>
      have X:=un.tbls _ _ _ z;obtain⟨ps,i,_⟩:=R _ _ X;rw[hts t Y]at e;cases e;exact .inr (.inl ⟨hCT t Y,rfl,#[],ps,rfl,by rw[i];simp⟩)
     ·rw[q]at z;cases z
     ·have X:=un.frzs b ob _ z;obtain⟨e1,_⟩:=hok b _ z;obtain⟨i,_⟩:=R b _ X;rw[e]at e1;cases e1;exact .inl i
 have T:∀H:Hp,Only H->SqL K H a (ns.map V.int)->HOk P w H O.heap->(∀b,H b≠none->b=a)->(H a≠none->K.lookup a=none) ->
  codeAny (model P w) callerA (.call (.ref fa) ⟨[.ref a],[]⟩) (λr s'=>r = .ok (.ret (.bool true))/\OldK O.heap s'.heap/\s'.os=O.os/\d8 s'.gens) O:=by
  intro H G l hok D hK;have na:∀t∈ts,t.1≠a:=λt Y z=>by
   have X:=hts t Y;rw[z,ha]at X
   cases X
  have cs:=O1 ts H;have B:Fe ts H a=H a:=by
   rcases cs a with z|⟨t,Y,z,_⟩
   ·exact z.1
   ·exact absurd z (na t Y)
  have M:∀b x,H b≠some (.own x):=λb x z=>by rcases G b with y|⟨_,_,y⟩<;>(rw[y]at z;cases z)
  have N:∀b x,H b≠some (.tup x):=λb x z=>by rcases G b with y|⟨_,_,y⟩<;>(rw[y]at z;cases z)
  refine core (Fe ts H) (λb=>?_) (λt Y=>?_) ?_ (λb u z=>?_) (λb z=>?_) (λz=>hK (by rwa[<-B]))
  ·rcases cs b with z|⟨t,Y,Q,X⟩
   ·rcases G b with y|y
    ·exact .inl (z.1.trans y)
    ·obtain⟨o,xs,y⟩:=y;exact .inr (.inl ⟨o,xs,z.1.trans y⟩)
   ·exact .inr (.inr ⟨t,Y,Q,X⟩)
  ·rcases cs t.1 with z|⟨t',A,Q,X⟩
   ·exact absurd rfl (z.2 t Y)
   ·have:=htu t' A t Y Q;subst this;exact X
  ·rcases l with(z|⟨o,z⟩)|z
   ·exact .inl (.inl (by rwa[B]))
   ·exact .inl (.inr ⟨o,by rwa[B]⟩)
   ·exact .inr z
  ·rcases cs b with y|⟨t,Y,Q,X⟩
   ·rw[y.1]at z;exact(hok b u z).stay (λ_ _ _ q=>q) (λc q=>absurd q (M c b)) λc xs q=>absurd q (N c xs)
   ·rw[X]at z
    cases z;subst Q;exact⟨#[],hts t Y,.inl rfl⟩
  ·rcases cs b with y|⟨t,Y,Q,X⟩
   ·exact .inl (D b (by rwa[<-y.1]))
   ·exact .inr ⟨t,Y,Q⟩
 cases p:K.lookup a with
 |some o=>
  have e:=KX a o p;rw[ha]at e
  cases e;refine T (λ_=>none) (λ_=>.inl rfl) (.inr ⟨_,vs.toArray,_,p,rfl,rfl,rfl,by rwa[bF,I],by simpa using f⟩) (λb u z=>by have J:(none:Option HO)=some u:=z;cases J) (λb z=>absurd rfl z) λz=>absurd rfl z
 |none=>
  refine T (λb=>if b=a then some (.frz {cls:=.type "list", data:=.seq vs.toArray} (.lst (ns.map V.int)))else none) (λb=>?_) (.inl (.inr ⟨{cls:=.type "list", data:=.seq vs.toArray},if_pos rfl⟩)) (λb u z=>?_) (λb z=>?_) λ_=>p
  ·by_cases hb:b=a
   ·exact .inr ⟨_,_,if_pos hb⟩
   ·exact .inl (if_neg hb)
  ·by_cases hb:b=a
   ·have J:=(if_pos hb).symm.trans z
    cases J;subst hb;exact⟨ha,by rwa[aG],vs,_,f,ha⟩
   ·have J:=(if_neg hb).symm.trans z
    cases J
  ·by_cases hb:b=a
   ·exact hb
   ·exact absurd (if_neg hb) z
end L2
namespace L2
abbrev KOf{K:PySem.W.Frag}{h:cc}(_:K.In h):PySem.W.Frag:=K
theorem Td{l:PySem.W.OpenLaw}{n k:Nat}{q:bP}{loose:List Str}{XP:(Str->Option Value)->cc->Prop}{YP:b8->cc->Prop}{d:DefRec}{K:Params->PySem.W.Frag}{CX:b8->CXT}{sp:b8->Sp}{x:Str}
 (hn:l.most=some n) (hn2:n<=sizeLine) (hdf:d.params.defaults=[]) (hr:Room k callerA)
 (hY:∀(w:b8)(h:cc),YP w h->(K w.params).In h)
 (F:∀(w:b8)(mg:Str->Option Value)(fa:Addr)(h:cc),(K w.params).In h->h.Ns mainGlobals mg->mg d.name=some (.ref fa) ->
  ∃fd:ca,(∀(s:bE)(u:Value),BindsTo s fd ⟨[u],[]⟩ [(x,u)]) /\
   ∀base:cc,(K w.params).In base->base.Ns mainGlobals mg->FnOk l.prog w (K w.params) mg base (CX w) k fa fd [x] (sp w))
 (ts:List (Addr×Str×Pos)) (O:∀(w:b8)(h:cc),YP w h->(∀t∈ts,h.get? t.1=some {cls:=.none,data:=.fields #[]})/\(∀t∈ts,isCodeTable h t.1)/\∀t∈ts,(K w.params).lookup t.1=none) (htu:∀t∈ts,∀t'∈ts,t.1=t'.1->t=t')
 (hsp:∀(w:b8)(H:Hp)(a:Addr)(ns:List Int),ns.length<=n->(∀t∈ts,H t.1=some (.tbl t.2.1 t.2.2))->SqL (K w.params) H a (ns.map V.int)->sp w [.ref a] H (λv _=>v = .bl true) λ_ _ _=>False)
 (hCX:∀(w:b8)(H:Hp)(s:bE)(e:Value)(s':bE),CX w [] H s (λ_ _ _=>False) e s'->False) :
 PySem.W.WalkO q loose XP YP l.row.toRowW d [] (λf vs=>PySem.call f vs):=by
 refine Att.Fd hn hdf λw s₀ Z mg M fa o pm J doc a vs ns G Y L hd hcd U X hints hlen R=>?_
 have S:=hY w _ Y;obtain⟨fd,hb,N⟩:=F w mg fa _ S G.T.g U;exact O2 S G.T.g G.T.b G.T.builtins G.T.nolimit G.T.bmain R X hints (bM hlen hn2) hr N hb ts (O w _ Y).1 (O w _ Y).2.1 (O w _ Y).2.2 htu (λH P Q=>hsp w H a ns hlen P Q) λH e s'=>hCX w H Z e s'
theorem O3{l:PySem.W.OpenLaw}{n k:Nat}{q:bP}{loose:List Str}{XP:(Str->Option Value)->cc->Prop}{YP:b8->cc->Prop}{d:DefRec}{K:Params->PySem.W.Frag}{CX:CXT}{sp:PySem.W.Frag->Sp}{x:Str}
 (hn:l.most=some n) (hn2:n<=sizeLine) (hdf:d.params.defaults=[]) (hr:Room k callerA)
 (hY:∀(w:b8)(h:cc),YP w h->(K w.params).In h)
 (F:∀(w:b8)(mg:Str->Option Value)(fa:Addr)(h:cc),(K w.params).In h->h.Ns mainGlobals mg->mg d.name=some (.ref fa) ->
  ∃fd:ca,(∀(s:bE)(u:Value),BindsTo s fd ⟨[u],[]⟩ [(x,u)]) /\
   ∀base:cc,(K w.params).In base->base.Ns mainGlobals mg->FnOk l.prog w (K w.params) mg base CX k fa fd [x] (sp (K w.params)))
 (ts:List (Addr×Str×Pos)) (Y:∀(w:b8)(h:cc),YP w h->(∀t∈ts,h.get? t.1=some {cls:=.none,data:=.fields #[]})/\(∀t∈ts,isCodeTable h t.1)/\∀t∈ts,(K w.params).lookup t.1=none) (O:∀t∈ts,∀t'∈ts,t.1=t'.1->t=t')
 (Z:∀(K:PySem.W.Frag)(H:Hp)(a:Addr)(ns:List Int),ns.length<=n->(∀t∈ts,H t.1=some (.tbl t.2.1 t.2.2))->SqL K H a (ns.map V.int)->sp K [.ref a] H (λv _=>v = .bl true) λ_ _ _=>False)
 (hCX:∀(H:Hp)(s:bE)(e:Value)(s':bE),CX [] H s (λ_ _ _=>False) e s'->False) :
 PySem.W.WalkO q loose XP YP l.row.toRowW d [] (λf vs=>PySem.call f vs):=
 Td (K:=K) (CX:=λ_=>CX) (sp:=λw=>sp (K w.params)) hn hn2 hdf hr hY F ts Y O (λw H a ns h1 h2 h3=>Z (K w.params) H a ns h1 h2 h3) λ_ H s e s'=>hCX H s e s'
end L2
/- THE LAST THEOREM (shape;LID,My.* are yours):
   My.Adr: a structure of the addresses that your layer names (classes,functions);My.Txt K t: a structure (Prop) of the equations over K;
   My.txt_mk:{K} {implicit addresses ..} (e1:nsIn K mainGlobals "law"=some (some (.ref f))) (e2:K.lookup f=some ⟨oc,od,.func (fnOf "law" "law" params body scope dV kV doc pm an cdv ct),sl⟩) (e3:codeIn K cdv "law"=true) .. : ∃t,My.Txt K t
set_option maxRecDepth 100000 in
set_option maxHeartbeats 0 in
(the tactic k_is has no namespace: write k_is) -/
namespace L2
noncomputable def iQ(s:cm):Arguments:=match s with
 | .FunctionDef _ a _ _ _ _ _ _ _ _=>a
 |_=>{posonlyargs:=[],args:=[],vararg:=none,kwonlyargs:=[],kw_defaults:=[],kwarg:=none,defaults:=[]}
def dJ(s:cm):List cm:=match s with
 | .FunctionDef _ _ b _ _ _ _ _ _ _=>b
 |_=>[]
noncomputable def aP(s:cm):db:=match s with
 | .FunctionDef _ _ _ _ _ _ sc _ _ _=>sc
 |_=>{kind:=.function,names:=[],isGenerator:=false,isCoroutine:=false}
abbrev CX0:CXT:=λ_ _ _ _ _ _=>False
abbrev E0:XK:=λ_ _ _=>False
theorem yZ{X:Cx}:Passes CX0 X E0:=λ_ _ _ _ _ _ _ h=>h.elim
structure Fun(K:PySem.W.Frag)(x qual:Str)(st:cm)(f:Addr)(fd:ca):Prop where
 ex:∃(oc:Value)(od:Option Addr)(kV doc pm:Value)(an:Option Addr)(cdv ct:Value)(osl:Array (Option Value)),
  fd=PySem.W.fnOf x qual (iQ st) (dJ st) (aP st) .none kV doc pm an cdv ct/\K.lookup f=some ⟨oc,od,.func fd,osl⟩/\PySem.W.codeIn K cdv qual=true
 kp:PySem.W.keepIn K (.ref f)=true
section
variable{P:bP}{w:b8}{K:PySem.W.Frag}{mg:Str->Option Value}{base:cc}
theorem Fun.ok{x qual:Str}{st:cm}{f:Addr}{fd:ca}{N ps:List Str}{k:Nat}{sp:Sp}(F:Fun K x qual st f fd)(S:FnScope N ps (aP st))(len:∀vs H Q E,sp vs H Q E->vs.length=ps.length)
 (O:∀(cdv:Value)(A:bX)(outer:List Env)(s:bE)(H:Hp)(vs:List V)(Q:VK)(E:XK),Room k (A.deeper (envOfC qual (aP st) s.heap.objs.size f cdv))->sp vs H Q E ->
  ∃t,PSs (Ag CX0 P w K mg base N qual (aP st) f cdv A outer s H E).nox (dJ st) t/\t {nx:=λ_ H'=>Q .non H',rt:=Q} (start N vs) H):FnOk P w K mg base CX0 (k+1) f fd ps sp:=by
 obtain⟨oc,od,kV,doc,pm,an,cdv,ct,osl,rfl,lk,hcd⟩:=F.ex;refine Ov lk hcd S len λA outer s H vs Q E Y Z=>?_
 obtain⟨t,h,q⟩:=O cdv A outer s H vs Q E Y Z;exact⟨t,h.nox,q⟩
theorem Fun.binds{x qual:Str}{st:cm}{f:Addr}{fd:ca}{ps:List Str}(F:Fun K x qual st f fd)
 (h:∀(kV doc pm:Value)(an:Option Addr)(cdv ct:Value)(us:List Value),us.length=ps.length->bindArgs (PySem.W.fnOf x qual (iQ st) (dJ st) (aP st) .none kV doc pm an cdv ct) ⟨us,[]⟩=pure (ps.zip us)):Binds K fd ps []:=by
 obtain⟨oc,od,kV,doc,pm,an,cdv,ct,osl,rfl,lk,hcd⟩:=F.ex;exact .all (h kV doc pm an cdv ct)
end
theorem Lz{n:Nat}(h:n<=1000):n<sizeLine:=oF h (by decide)
section
variable{X:Cx}
end
theorem Cw{A B:Prop}(h:B):if false=true then A else B:=by
 rwa[if_neg cX]
theorem Cy{A B:Prop}(h:A):if true=true then A else B:=by
 rwa[if_pos rfl]
def Same(H H':Hp):Prop:=∀b o,H b=some o->H' b=some o
theorem Same.refl(H:Hp):Same H H:=λ_ _ h=>h
theorem Same.trans{H H1 H2:Hp}(a:Same H H1)(b:Same H1 H2):Same H H2:=λc o h=>b c o (a c o h)
theorem Same.free{H H':Hp}(e:Same H H'){l:Addr}(h:H' l=Option.none):H l=Option.none:=by
 cases q:H l with
 |none=>rfl
 |some o=>
  rw[e l o q]at h
  cases h
theorem Same.seq{K:PySem.W.Frag}{H H':Hp}{a:Addr}{xs:List V}(e:Same H H')(h:SqL K H a xs):SqL K H' a xs:=by
 rcases h with(h|⟨o,h⟩)|h
 ·exact .inl (.inl (e _ _ h))
 ·exact .inl (.inr ⟨o,e _ _ h⟩)
 ·exact .inr h
end L2
namespace My
open L2
abbrev St:=L2.St
theorem cN{H:Hp}{p:Addr}(h:H p=none)(o:HO):Same H (upd H p o):=λb u q=>by rwa[bW (mK q h)]
theorem O4{K:PySem.W.Frag}{H H':Hp}{a:Addr}{xs:List V}(e:Same H H')(h:SqT K H a xs):SqT K H' a xs:=by
 rcases h with(h|⟨o,h⟩)|h
 ·exact .inl (.inl (e _ _ h))
 ·exact .inl (.inr ⟨o,e _ _ h⟩)
 ·exact .inr h
structure Df(K:PySem.W.Frag)(mg:Str->Option Value)(x:Str)(st:cm)(ps:List Str):Prop where
 ex:∃(f:Addr)(fd:ca),Fun K x x st f fd/\Binds K fd ps []/\mg x=some (.ref f)
structure Has(P:bP)(w:b8)(K:PySem.W.Frag)(mg:Str->Option Value)(base:cc)(n:Nat)(x:Str)(ps:List Str)(sp:Sp):Prop where
 ex:∃(f:Addr)(fd:ca),FnOk P w K mg base CX0 n f fd ps sp/\Binds K fd ps []/\PySem.W.keepIn K (.ref f)=true/\mg x=some (.ref f)
section
variable{P:bP}{w:b8}{K:PySem.W.Frag}{mg:Str->Option Value}{base:cc}{x:Str}{ps N:List Str}{sp:Sp}{st:cm}{k n:Nat}
theorem Has.mono(h:Has P w K mg base k x ps sp)(l:k<=n):Has P w K mg base n x ps sp:=by
 obtain⟨f,fd,F,b,kp,m⟩:=h.ex;exact⟨f,fd,F.mono l,b,kp,m⟩
theorem Df.has(D:Df K mg x st ps)(S:FnScope N ps (aP st))(len:∀vs H Q E,sp vs H Q E->vs.length=ps.length)
 (O:∀(f:Addr)(cdv:Value)(A:bX)(outer:List Env)(s:bE)(H:Hp)(vs:List V)(Q:VK)(E:XK),Room k (A.deeper (envOfC x (aP st) s.heap.objs.size f cdv))->sp vs H Q E ->
  ∃t,PSs (Ag CX0 P w K mg base N x (aP st) f cdv A outer s H E).nox (dJ st) t/\t {nx:=λ_ H'=>Q .non H',rt:=Q} (start N vs) H):Has P w K mg base (k+1) x ps sp:=by
 obtain⟨f,fd,F,b,m⟩:=D.ex;exact⟨f,fd,F.ok S len (O f),b,F.kp,m⟩
end
section
variable{X:Cx}{x:Str}{ps:List Str}{sp:Sp}{n:Nat}{p pos:Pos}{e:Expr}{es:List Expr}{t:TA}
theorem O5(h:Has X.prog X.w X.K X.mg X.base n x ps sp)(Z:Room n X.A)(ha:PA X (e::es) t)(hg:Gl X x:=by rfl)(Y:(x==("__debug__":Str))=false:=by decide)
 (he:starEach (e::es) X.env=(false,eval e X.env)::starEach es X.env:=by rfl) (O:(backTo pos (starEach es X.env)).any (·.1)=false:=by rfl) :
 PE X (.Call (.Name x p) (e::es) [] pos) (VN sp [] E0 t):=by
 obtain⟨f,fd,F,b,kp,m⟩:=h.ex;exact SX F Z hg m kp b .nil yZ ha Y he O
end
mutual
inductive RdV(K:PySem.W.Frag)(H:Hp):V->PyData->Prop
 |non:RdV K H .non .none
 |bl (b:Bool):RdV K H (.bl b) (.bool b)
 |int (i:Int):RdV K H (.int i) (.int i)
 |str (x:Str):RdV K H (.str x) (.str x)
 |lst {a:Addr} {xs:List V} {ds:List PyData}:SqL K H a xs->RdVs K H xs ds->RdV K H (.ref a) (.list ds)
 |tup {a:Addr} {xs:List V} {ds:List PyData}:SqT K H a xs->RdVs K H xs ds->RdV K H (.ref a) (.tuple ds)
inductive RdVs(K:PySem.W.Frag)(H:Hp):List V->List PyData->Prop
 |nil:RdVs K H [] []
 |cons {v:V} {d:PyData} {vs:List V} {ds:List PyData}:RdV K H v d->RdVs K H vs ds->RdVs K H (v::vs) (d::ds)
end
section
variable{X:Cx}{pins:List (Addr×Obj)}{σ:St}{H:Hp}{s:bE}
mutual
theorem RdV.reads(I:Inv X pins σ H s):∀{v:V}{d:PyData},RdV X.K H v d->∀{u:Value},RelV v u->∃as,Reads s.heap u d as
 |_,_,.non,_,r=>by cases r;exact⟨_,.none⟩
 |_,_,.bl b,_,r=>by cases r;exact⟨_,.bool b⟩
 |_,_,.int i,_,r=>by obtain⟨t,rfl⟩:=r;exact⟨_,.int i t⟩
 |_,_,.str x,_,r=>by obtain⟨t,rfl⟩:=r;exact⟨_,.str x t⟩
 |_,_,.lst h q,_,r=>by
  cases r;obtain⟨its,rv,⟨o,n,e,c,_,d⟩,_⟩:=I.list h;obtain⟨as,z⟩:=RdVs.reads I q rv;exact⟨_,.list e c d (by simpa using z)⟩
 |_,_,.tup h q,_,r=>by
  cases r;obtain⟨its,rv,⟨o,e,c,n,d⟩,_⟩:=I.tuple h;obtain⟨as,z⟩:=RdVs.reads I q rv;exact⟨_,.tuple e c d (by simpa using z)⟩
theorem RdVs.reads(I:Inv X pins σ H s):∀{vs:List V}{ds:List PyData},RdVs X.K H vs ds->∀{us:List Value},Vals vs us->∃as,ReadsAll s.heap us ds as
 |_,_,.nil,_,r=>by cases r;exact⟨_,.nil⟩
 |_,_,.cons h q,_,r=>by
  cases r with
  |cons r1 r2=>
   obtain⟨as,z⟩:=RdV.reads I h r1;obtain⟨bs,y⟩:=RdVs.reads I q r2;exact⟨_,.cons z y⟩
end
end
section
variable{X:Cx}
noncomputable def Z2(K:PySem.W.Frag):R2:=λx y H Q=>∃Y Z,RdV K H x Y/\RdV K H y Z/\cq Y=true/\cq Z=true/\Q (.bl (cK Y Z)) H
noncomputable def Z4(K:PySem.W.Frag):R2:=λx y H Q=>∃Y Z,RdV K H x Y/\RdV K H y Z/\cq Y=true/\cq Z=true/\Q (.bl (!PyData.eqv Y Z)) H
theorem lJ(O:X.A.units+64<cLine):OpR X (compareOp .Eq) (Z2 X.K):=by
 intro pins s σ H x y v u Q I U V h;obtain⟨S,T,ha,hb,sa,W,q⟩:=h;obtain⟨as,Y⟩:=ha.reads I U;obtain⟨bs,Z⟩:=hb.reads I V;exact SeqAt.compareEq_shaped Y Z sa W O ⟨.bl _,H,I,rfl,q⟩
theorem wM(O:X.A.units+64<cLine):OpR X (compareOp .NotEq) (Z4 X.K):=by
 intro pins s σ H x y v u Q I U V h;obtain⟨S,T,ha,hb,sa,W,q⟩:=h;obtain⟨as,Y⟩:=ha.reads I U;obtain⟨bs,Z⟩:=hb.reads I V;exact SeqAt.compareNe_shaped Y Z sa W O ⟨.bl _,H,I,rfl,q⟩
end
def TyN(H:Hp)(x:V)(T:String):Prop:=match x with
 | .non=>T="NoneType"
 | .bl _=>T="bool"
 | .int _=>T="int"
 | .str _=>T="str"
 | .ref a=>(T="list" /\ ∃xs,H a=some (.lst xs))\/(T="tuple" /\ ∃xs,H a=some (.tup xs))\/(T="dict" /\ ∃kvs,H a=some (.dK kvs))
 |_=>False
def isT(c T:String):Bool:=T==c||(T=="bool"&&c=="int")
section
variable{K:PySem.W.Frag}
theorem Xe(h:c="int"\/c="bool"\/c="tuple"\/c="list"\/c="str")(g:T="NoneType"\/T="bool"\/T="int"\/T="str"\/T="list"\/T="tuple"\/T="dict"):
 PySem.W.kitOne K (.type T) (.type c)=some (isT c T):=by
 rcases h with rfl|rfl|rfl|rfl|rfl<;>rcases g with rfl|rfl|rfl|rfl|rfl|rfl|rfl<;>kernel_rfl
theorem TyN.cases{H:Hp}{x:V}{T:String}(h:TyN H x T):T="NoneType"\/T="bool"\/T="int"\/T="str"\/T="list"\/T="tuple"\/T="dict" := by
 cases x with
 |non=>exact .inl h
 |bl _=>exact .inr (.inl h)
 |int _=>exact .inr (.inr (.inl h))
 |str _=>exact .inr (.inr (.inr (.inl h)))
 |ref a=>
  rcases h with⟨h,_⟩|⟨h,_⟩|⟨h,_⟩
  ·exact .inr (.inr (.inr (.inr (.inl h))))
  ·exact .inr (.inr (.inr (.inr (.inr (.inl h)))))
  ·exact .inr (.inr (.inr (.inr (.inr (.inr h)))))
 |byt _=>exact ck h
 |flt _=>exact ck h
 |ty _=>exact ck h
theorem TyN.of{H:Hp}{x:V}{T:String}(h:TyN H x T):TyOf K H x (.type T):=by
 cases x with
 |non=>cases h;exact .non
 |bl b=>cases h;exact .bl b
 |int i=>cases h;exact .int i
 |str i=>cases h;exact .str i
 |ref a=>
  rcases h with⟨rfl,xs,h⟩|⟨rfl,xs,h⟩|⟨rfl,xs,h⟩
  ·exact .lst h
  ·exact .tup h
  ·exact .dK h
 |byt _=>exact ck h
 |flt _=>exact ck h
 |ty _=>exact ck h
end
section
variable{X:Cx}
end
theorem big{X:Cx}{pins:List (Addr×Obj)}{σ:St}{H:Hp}{s:bE}(I:Inv X pins σ H s):sysModules<s.heap.objs.size:=by
 have h:=(I.mod.glob.keeps I.bk).lt;exact nO (by decide) h
theorem zc{P:bP}{w:b8}{H:Hp}(h:cc)(hb:sysModules<h.objs.size):iM P w H (h.push {cls:=.type "dict", data:=.dict #[]}) h.objs.size (.dK []):=
 ⟨jh _,beq_eq_false_iff_ne.mpr (ce (b_ hb)),[],.nil,Heap.DictOf.new h⟩
def Hz:TE:=λ_ H Q=>∀p,H p=none->Q (.ref p) (upd H p (.dK []))
theorem Fg{X:Cx}{pos:Pos}:PE X (.Dict [] [] pos) Hz:=λpins s σ H Q I h=>
 wpAny_Dict_empty ⟨.ref s.heap.objs.size,_,I.laid (a:=s.heap.objs.size) (o:=.dK []) (t':=s.toks) (λ_ _ q=>ad _ q) (aQ _) (zc s.heap (big I)),rfl,h _ (I.hok.fresh (aQ _))⟩
theorem sz{n:Nat}(h:n<=1000:=by decide):n<=sizeLine:=nM (Lz h)
end My
namespace My
open L2
section
variable{X:Cx}{a b c d:Expr}{ta tb tc td:TE}{pos:Pos}
noncomputable def Te(r r' O:R2)(ta tb tc td:TE):TE:=λσ H Q=>ta σ H λx H1=>tb σ H1 λy H2=>r x y H2 λz W=>∃k,z = .bl k /\
 (if k=true then tc σ W λZ S=>r' y Z S λV X=>∃Y,V = .bl Y/\(if Y=true then td σ X λU T=>O Z U T Q else Q (.bl false) X)else Q (.bl false) W)
theorem LC{op Y O:eg}{r r' Z:R2}(ho:OpR X (compareOp op) r)(ho':OpR X (compareOp Y) r')(ho'':OpR X (compareOp O) Z)(ha:PE X a ta)(hb:PE X b tb)(hc:PE X c tc)(hd:PE X d td)
 (hm:lastMarks [op,Y,O] [b,c,d]=false:=by with_unfolding_all rfl):PE X (.Compare a [op,Y,O] [b,c,d] pos) (Te r r' Z ta tb tc td):=by
 intro pins s σ H Q I h;refine Compare_chain (thn (ha pins s σ H _ I h) λv s1 ⟨x,H1,q,C,q1⟩=>chain_link (thn (hb pins s1 σ H1 _ q q1) λu s2 ⟨y,H2,t,T,q2⟩=>
  thn (ho pins s2 σ H2 x y v u _ t C T q2) λd F ⟨z,N,R,D,k,e,q3⟩=>?_)) hm
 subst e
 cases D;refine ah ?_
 cases k with
 |false=>exact ite_ff ⟨.bl false,N,R,rfl,q3⟩
 |true=>
  refine ite_tt (chain_link (thn (hc pins F σ N _ R q3) λV G ⟨W,o,w,U,q4⟩=>thn (ho' pins G σ o y W u V _ w T U q4) λm J ⟨n,P,S,E,k2,B,q5⟩=>?_));subst B
  cases E;refine ah ?_
  cases k2 with
  |false=>exact ite_ff ⟨.bl false,P,S,rfl,q5⟩
  |true=>exact ite_tt (chain_last (thn (hd pins J σ P _ S q5) λL K ⟨M,p,A,r6,q6⟩=>ho'' pins K σ p W M V L Q A U r6 q6))
end
structure Blt(mg:Str->Option Value):Prop where
 len_:mg "len"=none
 range_:mg "range"=none
 abs_:mg "abs"=none
 isinstance_:mg "isinstance"=none
 int_:mg "int"=none
 bool_:mg "bool"=none
 tuple_:mg "tuple"=none
 max_:mg "max"=none
 min_:mg "min"=none
end My
namespace My
open L2
abbrev cx(P:bP)(w:b8)(K:PySem.W.Frag)(mg:Str->Option Value)(base:cc)(N:List Str)(x:Str)(st:cm)(f:Addr)(cdv:Value)(A:bX)(outer:List Env)(s:bE)(H:Hp)(E:XK):Cx:=
 (Ag CX0 P w K mg base N x (aP st) f cdv A outer s H E).nox
end My
namespace My
open L2
noncomputable def qt(env:Env):List (Str×NameKind)->List (Str×Addr)->List (Str×Addr)
 |[],cs=>cs
 | (n,k)::r,cs=>if(k==ci)=true then qt env r ((n,(env.cells.lookup n).getD 0)::cs)else qt env r cs
theorem uN{env:Env}:∀(l:List (Str×NameKind))(cs:List (Str×Addr)),(∀x∈l,x.2 = .free->∃c,env.cells.lookup x.1=some c) ->
 (forIn l cs λ(x:Str×NameKind)(r:List (Str×Addr))=>(if(x.2==ci)=true then(do let c <-cellOf env x.1;pure (cy ((x.1,c)::r)))else pure (cy r):Sem (ForInStep (List (Str×Addr)))))=pure (qt env l cs)
 |[],_,_=>rfl
 | (n,k)::r,cs,h=>by
  rw[List.forIn_cons];by_cases Z:(k==ci)=true
  ·obtain⟨c,hc⟩:=h (n,k) aN (beq_iff_eq.mp Z);have Y:cellOf env n=pure c:=by
    unfold cellOf;rw[show env.cells.lookup n=some c from hc]
   rw[if_pos Z,Y];have X:=uN r ((n,c)::cs) λx hx=>h x (aL _ hx)
   rwa[qt,if_pos Z,show env.cells.lookup n=some c from hc]
  ·rw[if_neg Z];have X:=uN r cs λx hx=>h x (aL _ hx)
   rwa[qt,if_neg Z]
theorem HB{env:Env}{scope:db}(h:∀x∈scope.names,x.2 = .free->∃c,env.cells.lookup x.1=some c):closureFor scope env=pure (qt env scope.names []):=by
 have z:=uN (env:=env) scope.names [] h;show(forIn scope.names [] λ(x:Str×NameKind)(r:List (Str×Addr))=>(if(x.2==ci)=true then(do let c <-cellOf env x.1;pure (cy ((x.1,c)::r)))else pure (cy r):Sem (ForInStep (List (Str×Addr))))) >>= (λcs=>pure cs)=_;rw[z];rfl
theorem zf{env:Env}:∀(l:List (Str×NameKind))(cs:List (Str×Addr)),(∀x∈l,x.2 = .free->∃c,env.cells.lookup x.1=some c)->(∀x c,cs.lookup x=some c->env.cells.lookup x=some c) ->
 ∀x c,(qt env l cs).lookup x=some c->env.cells.lookup x=some c
 |[],_,_,hc,x,c,e=>hc x c e
 | (n,k)::r,cs,h,hc,x,c,e=>by
  rw[qt]at e;by_cases Y:(k==ci)=true
  ·rw[if_pos Y]at e;obtain⟨d,hd⟩:=h (n,k) aN (beq_iff_eq.mp Y);refine zf r _ (λx hx=>h x (aL _ hx)) (λy c' Z=>?_) x c e;rw[cH]at Z
   cases hy:y==n with
   |true=>
    rw[hy]at Z;have:y=n:=beq_iff_eq.mp hy;subst this;rw[show env.cells.lookup y=some d from hd]at Z ⊢;exact Z
   |false=>
    rw[hy]at Z;exact hc y c' Z
  ·rw[if_neg Y]at e;exact zf r cs (λx hx=>h x (aL _ hx)) hc x c e
theorem rT{env:Env}:∀(l:List (Str×NameKind))(cs:List (Str×Addr))(x:Str),((x,ci)∈l\/∃c,cs.lookup x=some c)->∃c,(qt env l cs).lookup x=some c
 |[],_,x,h=>by
  rcases h with h|h
  ·exact absurd h (by simp)
  ·exact h
 | (n,k)::r,cs,x,h=>by
  rw[qt];by_cases Z:(k==ci)=true
  ·rw[if_pos Z];refine rT r _ x ?_;by_cases e:x=n
   ·subst e;exact .inr ⟨_,by rw[cH,beq_self_eq_true]⟩
   ·rcases h with h|⟨c,h⟩
    ·rcases bI.mp h with h|h
     ·exact absurd (congrArg Prod.fst h) e
     ·exact .inl h
    ·exact .inr ⟨c,by rwa[cH,beq_eq_false_iff_ne.mpr e]⟩
  ·rw[if_neg Z];refine rT r cs x ?_;rcases h with h|h
   ·rcases bI.mp h with h|h
    ·have:k = .free:=(congrArg Prod.snd h).symm;subst this;exact absurd rfl Z
    ·exact .inl h
   ·exact .inr h
noncomputable abbrev blk(X:Cx)(Y:List Str)(scope:db)(cl:List (Str×Addr))(C:Addr)(O:bE)(Z:Hp)(fp:List Addr):Cx:=
 {X with N:=Y,s₀:=O,H₀:=Z,env:=compEnvC scope cl C X.env,outer:=X.stack,ex:=fp,fn:=λ_=>false,xe:=λ_ _=>False}
noncomputable def zj(N:List Str)(kinds sn:List (Str×NameKind)):List Str->List Nat->Bool
 |[],[]=>true
 |x::V,j::ix=>(N[j]? == some x)&&((kinds.lookup x==some dm)&&((sn.lookup x==some ci)&&zj N kinds sn V ix))
 |_,_=>false
def Aj(t:Nat)(ix:List Nat)(σ:St):St:=aX t none++ix.map λj=>(σ[j]?).getD none
theorem zm{N:List Str}{kinds sn:List (Str×NameKind)}:∀{V:List Str}{ix:List Nat},zj N kinds sn V ix=true->ix.length=V.length/\∀(k:Nat)(x:Str),V[k]? = some x->∃j,ix[k]? = some j/\N[j]? = some x/\kinds.lookup x=some .cell/\sn.lookup x=some .free
 |[],[],_=>⟨rfl,λk x h=>by simp at h⟩
 |x::V,j::ix,h=>by
  rw[zj,aM,aM,aM]at h;obtain⟨h1,h2,h3,h4⟩:=h;obtain⟨l,r⟩:=zm h4;refine⟨by simp[l],λk y hy=>?_⟩
  cases k with
  |zero=>
   simp at hy;subst hy;exact⟨j,rfl,beq_iff_eq.mp h1,beq_iff_eq.mp h2,beq_iff_eq.mp h3⟩
  |succ k=>exact r k y (by simpa using hy)
 |[],_::_,h=>by simp[zj]at h
 |_::_,[],h=>by simp[zj]at h
theorem vC{env:Env}(O:env.scope.kind = .function):∀{names:List (Str×NameKind)}{x:Str},names.lookup x=some .free->env.kindOf x=some .cell ->
 (names.map λ(n,k)=>if(k==ci&&env.scope.kind == .function&&env.kindOf n==some .cell)then(n,dm)else(n,k)).lookup x=some .cell
 |[],_,h,_=>by simp at h
 | (n,k)::r,x,h,hc=>by
  have Z:=@vC env O r x;show jg x ((if(k==ci&&env.scope.kind == .function&&env.kindOf n==some .cell)=true then(n,dm)else(n,k))::_)=_
  cases hx:x==n with
  |true=>
   have e:=beq_iff_eq.mp hx;subst e;simp only[cH,hx]at h
   cases h;rw[if_pos (by rw[O,hc];rfl)];simp[cH]
  |false=>
   simp only[cH,hx]at h;by_cases hq:(k==ci&&env.scope.kind == .function&&env.kindOf n==some .cell)=true
   ·rw[if_pos hq];simp only[cH,hx];exact Z h hc
   ·rw[if_neg hq];simp only[cH,hx];exact Z h hc
theorem qu{env:Env}:∀{names:List (Str×NameKind)}{x:Str}{k:NameKind},(∀y∈names,y.2 ≠ .cell)->(k = .cell\/k = .free) ->
 (names.map λ(n,k)=>if(k==ci&&env.scope.kind == .function&&env.kindOf n==some .cell)then(n,dm)else(n,k)).lookup x=some k->(x,ci)∈names
 |[],_,_,_,_,h=>by simp at h
 | (n,Y)::r,x,k,hc,Z,h=>by
  have X:=@qu env r x k (λy hy=>hc y (aL _ hy)) Z;have h':jg x ((if(Y==ci&&env.scope.kind == .function&&env.kindOf n==some .cell)=true then(n,dm)else(n,Y))::(r.map λ(n,k)=>if(k==ci&&env.scope.kind == .function&&env.kindOf n==some .cell)then(n,dm)else(n,k)))=some k:=h;by_cases hq:(Y==ci&&env.scope.kind == .function&&env.kindOf n==some .cell)=true
  ·rw[if_pos hq]at h';have W:Y = .free:=by
    rw[aM,aM]at hq;exact beq_iff_eq.mp hq.1.1
   cases hx:x==n with
   |true=>
    have e:=beq_iff_eq.mp hx;subst e;subst W;exact aN
   |false=>
    simp only[cH,hx]at h';exact aL _ (X h')
  ·rw[if_neg hq]at h'
   cases hx:x==n with
   |true=>
    have e:=beq_iff_eq.mp hx;subst e;simp only[cH,hx]at h'
    cases h';rcases Z with Z|Z
    ·exact absurd Z (hc _ aN)
    ·subst Z;exact aN
   |false=>
    simp only[cH,hx]at h';exact aL _ (X h')
section
variable{X:Cx}{pins:List (Addr×Obj)}{σ:St}{H:Hp}{s:bE}
theorem Inv.forget{σ':St}(I:Inv X pins σ H s)(hl:σ'.length=X.N.length)(h:∀(i:Nat) (v:V),σ'[i]? = some (some v)->σ[i]? = some (some v)):Inv X pins σ' H s:=by
 obtain⟨m,hn,hx⟩:=I.loc;exact⟨I.ok,I.os,I.bare,I.base,⟨m,hn,λi x v W Y Z=>hx i x v W (h i v Y) Z⟩,I.cell,I.free,I.freeC,I.pin,I.hok,hl⟩
end
end My
namespace My
open L2
theorem Fi{prog:bP}{w:b8}{A:bX}{R:Result->bE->Prop}{elt target iter:Expr}{ifs:List Expr}{scope:db}{pos:Pos}{it acc:Value}{env:Env}{s:bE}(I:Nat->bE->Prop)
 (turn:∀n s,I n s->wpAny (model prog w) A (pyNext it) (λr Z=>match r with
  |none=>R (.ok .next) Z
  |some v=>wpAny (model prog w) A (letOwnedTupleGo target it v) (λ_ Y=>wpAny (model prog w) A (assign target env v) (λ_ s₂=>
   wpAny (model prog w) A (forIn ifs true λc r=>if r=true then do let ok <-isTrue c env (eval c env);pure (cy ok)else pure (cy r)) (λok O=>
    if ok=true then wpAny (model prog w) A (eval elt env) (λx s₄=>
     wpAny (model prog w) A (call (.builtin "list.append") [acc,x]) (λ_ s₅=>∃m,m<n/\I m s₅) (λ_ _=>False) s₄) (λ_ _=>False) O
    else ∃m,m<n/\I m O) (λ_ _=>False) s₂) (λ_ _=>False) Y) (λ_ _=>False) Z) (λ_ _=>False) s)
 (n:Nat) (h:I n s) :
 codeAny (model prog w) A (.compLoop (.ListComp elt [⟨target,iter,ifs,0⟩] scope pos) 0 it acc env) R s:=by
 refine codeAny_loop rfl I (λn s Q=>?_) n h;refine wpAny_noted ?_;rw[compTurn_list];refine aa (a_ (aa (ai (turn n s Q) (λr Z W=>?_) λ_ _ h'=>h'.elim)))
 cases r with
 |none=>exact af W
 |some v=>
  refine aa (ai W (λ_ Y V=>?_) λ_ _ h'=>h'.elim);refine aa (ai V (λ_ s₂ S=>aa (ai S (λok O X=>?_) λ_ _ h'=>h'.elim)) λ_ _ h'=>h'.elim)
  cases ok with
  |false=>exact af ⟨rfl,X⟩
  |true=>
   exact aa (aa (ai X (λx s₄ T=>aa (ai T (λ_ s₅ U=>af (af ⟨rfl,U⟩)) λ_ _ h'=>h'.elim)) λ_ _ h'=>h'.elim))
section
variable{X:Cx}{pins:List (Addr×Obj)}{σ:St}{H:Hp}
theorem LK{T V:List Str}{ix:List Nat}{scope:db}{s3:bE}{fp:List Addr}{O:cc}{tk:Nat}{m:Str->Option Value}
 (I:Inv X pins σ H s3) (hf:∀b∈fp,wJ X pins H b) (ho:∀b∈fp,∃o,s3.heap.get? b=some o)
 (hk:scope.kind = .function) (hcell:∀y∈scope.names,y.2 ≠ .cell) (hfr:∀x∈scope.names,x.2 = .free->x.1∈V) (hB:zj X.N X.env.scope.names scope.names V ix=true)
 (hns:O.Ns s3.heap.objs.size m) (keep:∀b o,s3.heap.get? b=some o->O.get? b=some o) :
 Inv (blk X (T++V) scope (qt X.env scope.names []) s3.heap.objs.size s3 H fp) pins (Aj T.length ix σ) H {s3 with heap:=O,toks:=tk}:=by
 obtain⟨G,S⟩:=zm hB;have M:∀x∈scope.names,x.2 = .free->∃c,X.env.cells.lookup x.1=some c:=λx hx e=>by
  obtain⟨k,B⟩:=mY (hfr x hx e);obtain⟨j,_,_,hc,_⟩:=S k _ B;exact I.ok.has _ (.inl hc)
 have sub:=zf (env:=X.env) scope.names [] M (λx c e=>by simp at e);have stkSub:=λb z=>bI.mp (I.stkSub b z)
 have lt:∀b o,s3.heap.get? b=some o->b≠s3.heap.objs.size:=λb o e=>b_ (ae e)
 have cellK:∀c v,s3.heap.IsCell c v->O.IsCell c v:=λc v ⟨o,e,d⟩=>⟨o,keep c o e,d⟩
 refine⟨⟨I.ok.mod,hk,I.ok.glob,I.ok.blt,aQ _,λx y c K P=>I.ok.inj x y c (sub x c K) (sub y c P),λx hx=>?_,λx c hx=>?_,λhc=>I.hqc hc stkSub (λb hb=>(hf b hb).2.2.2.1),I.ok.hs,I.ok.frames,.inl rfl,λb hb=>⟨?_,λx c e=>?_⟩,I.bs,bM I.ok.bsz I.sz,λb o e hb=>?_,λb hb z=>?_,I.stack,I.stkFree⟩,
  rfl,I.bare,Un.kept keep,⟨m,hns,λi x v K P t=>?_⟩,λx c e=>?_,I.hok.fresh (aQ _),λx c e=>I.freeC x c (sub x c e),λp F=>?_,I.hok.kept keep,?_⟩
 ·rcases hx with hx|hx
  ·exact rT _ _ x (.inl (qu hcell (.inl rfl) hx))
  ·exact rT _ _ x (.inl (qu hcell (.inr rfl) hx))
 ·exact absurd hx (by simp)
 ·obtain⟨o,e⟩:=ho b hb;exact lt b o e
 ·exact(hf b hb).2.2.2.2.1 x c (sub x c e)
 ·rcases(hf b hb).2.2.2.1 with z|z
  ·exact I.ok.noex b o e z
  ·exact absurd (aZ (ae e) (bM I.ok.bsz z)) (gQ _)
 ·rcases stkSub b z with z|z
  ·exact(hf b hb).2.1 z
  ·exact(hf b hb).2.2.1 z
 ·by_cases hi:i<T.length
  ·have W:(aX T.length none++ix.map λj=>(σ[j]?).getD none)[i]? = some (some v):=P;rw[cC (by rwa[bK]),dI,if_pos hi]at W;exact absurd W (by simp)
  ·have Q:(T++V)[i]? = some x:=K;rw[cL (by omega)]at Q;obtain⟨j,D,C,hc,Y⟩:=S _ x Q;have W:(aX T.length none++ix.map λj=>(σ[j]?).getD none)[i]? = some (some v):=P;rw[cL (by rw[bK];omega),bK,aR,D]at W;have Z:(σ[j]?).getD none=some v:=by simpa using W
   have L:σ[j]? = some (some v):=by
    cases q:σ[j]? with
    |none=>rw[q]at Z;exact absurd Z (by simp)
    |some o=>rw[q]at Z;simp at Z;rw[Z]
   obtain⟨w,E,hl⟩:=I.loc;obtain⟨u,r,l⟩:=hl j x v C L (.inr (.inl hc));rcases l with⟨z,_⟩|⟨_,c,A,U⟩
   ·have J:X.env.scope.names.lookup x=some .local:=z;rw[hc]at J;exact absurd J (by simp)
   ·obtain⟨c',R⟩:=rT (env:=X.env) scope.names [] x (.inl (PySem.mem_of_lookup Y));have:c'=c:=by
     have q:=sub x c' R;rw[A]at q;exact(dB.inj q).symm
    subst this;exact⟨u,r,.inr ⟨.inl (vC I.ok.kind Y hc),c',R,cellK _ _ U⟩⟩
 ·obtain⟨v,z⟩:=I.cell x c (sub x c e);exact⟨v,cellK c v z⟩
 ·obtain⟨e,n,ne,nf,d⟩:=I.pin p F;refine⟨keep _ _ e,n,lt _ _ e,λz=>?_,d⟩;rcases stkSub p.1 z with z|z
  ·exact ne z
  ·exact nf z
 ·show(aX T.length none++ix.map λj=>(σ[j]?).getD none).length=(T++V).length;rw[bH,bK,aG,bH,G]
theorem Fj{N':List Str}{scope:db}{cl:List (Str×Addr)}{pins':List (Addr×Obj)}{σ':St}{H3 H':Hp}{O s':bE}{fp:List Addr}(I3:Inv X pins σ H3 O)(hf:∀b∈fp,wJ X pins H3 b)
 (Y:Inv (blk X N' scope cl O.heap.objs.size O H3 fp) pins' σ' H' s'):Inv X pins σ H' s'/\wJ X pins H' O.heap.objs.size:=by
 have fr:=Y.free;refine⟨?_,I3.fpOk (aQ _) fr⟩;have os:=Y.os;have u:=Y.base;have V:=Y.hok;have hb:=Y.bare;obtain⟨U,g,d,t,W⟩:=s';obtain rfl:W=O.os:=os;exact I3.call (h':=U) (g':=g) (d':=d) (t':=t) (ch:=fp) u V hb λb Z=>⟨(hf b Z).2.2.2.1,(hf b Z).2.1,(hf b Z).2.2.2.2.1,(hf b Z).2.2.2.2.2⟩
end
def PTs(X:Cx)(ifs:List Expr)(t:TT):Prop:=
 ∀(pins:List (Addr×Obj))(s:bE)(σ:St)(H:Hp)(Q:Bool->Hp->Prop),Inv X pins σ H s->t σ H Q ->
  wpAny (model X.prog X.w) X.A (forIn ifs true λc r=>if r=true then do let ok <-isTrue c X.env (eval c X.env);pure (cy ok)else pure (cy r)) (TP X pins σ Q) X.xe s
def mD:TT:=λ_ H Q=>Q true H
theorem Tf{X:Cx}:PTs X [] mD:=λ_ _ _ H _ I h=>wpAny_tests_nil ⟨H,I,h⟩
theorem yF{X:Cx}{c:Expr}{t:TT}(h:PT X c t):PTs X [c] t:=λpins s σ H Q I q=>wpAny_tests_one (h pins s σ H Q I q)
def JQ(wi:TI)(g:TG)(tt:TT)(te:TE)(t:Nat)(O:St->St):TE:=λσ H Q=>wi σ H λJ H1=>∀D,H1 D=none->∃W:Nat->Nat->List V->Hp->Prop,(∃m,W 0 m [] (upd H1 D (.lst []))) /\
 ∀i m xs H2,W i m xs H2->H2 D=some (.lst xs)/\((J.stop i H2/\Q (.ref D) H2)\/(J.go i H2/\xs.length<sizeLine/\∀x T,J.yld i H2 x T->g x (O σ) T λZ S=>Z.drop t=(O σ).drop t /\
  tt Z S λb U=>if b=true then te Z U λv X=>X D=some (.lst xs)/\∃Y,Y<m/\W (i+1) Y (xs++[v]) (upd X D (.lst (xs++[v])))else ∃Y,Y<m/\W (i+1) Y xs U))
section
variable{X:Cx}{elt tg iter:Expr}{ifs:List Expr}{scope:db}{pos:Pos}{T V:List Str}{ix:List Nat}{wi:TI}{g:TG}{tt:TT}{te:TE}
theorem Bp(hc:X.calm=true)(hi:PI X tg iter wi)
 (hg:∀cl C O Y fp,PG (blk X (T++V) scope cl C O Y fp) tg g) (ht:∀cl C O Y fp,PTs (blk X (T++V) scope cl C O Y fp) ifs tt) (he:∀cl C O Y fp,PE (blk X (T++V) scope cl C O Y fp) elt te)
 (hB:zj X.N X.env.scope.names scope.names V ix=true) (hk:scope.kind = .function) (hcell:∀y∈scope.names,y.2 ≠ .cell) (hnames:∀x∈scope.names,x.2 = .local->scope.names.lookup x.1=some .local)
 (hfr:∀x∈scope.names,x.2 = .free->x.1∈V) (hs:∀x,foldedSetIterable iter X.env x=pure x) {p:Pos}
 {pins:List (Addr×Obj)} {s:bE} {σ:St} {H:Hp} (I:Inv X pins σ H s) {use:Option (Value->Sem Unit)} {Qp:Value->bE->Prop} {Qv:VK} (h:JQ wi g tt te T.length (Aj T.length ix) σ H Qv)
 (fin:∀(D C:Addr)(H':Hp)(s':bE)(m:Str->Option Value),Inv X pins σ H' s'->wJ X pins H' C->s'.heap.Ns C m->Qv (.ref D) H'->compPost (model X.prog X.w) X.A X.xe use Qp (.ref D) C (.ok .next) s') :
 wpAny (model X.prog X.w) X.A (comprehension (.ListComp elt [⟨tg,iter,ifs,0⟩] scope pos) scope X.env p (newList []) false (eval iter X.env) use) Qp X.xe s:=by
 obtain⟨lV,capV⟩:=zm hB;have hcl:∀x∈scope.names,x.2 = .free->∃c,X.env.cells.lookup x.1=some c:=λx hx e=>by
  obtain⟨k,ek⟩:=mY (hfr x hx e);obtain⟨j,_,_,hc',_⟩:=capV k _ ek;exact I.ok.has _ (.inl hc')
 refine wpAny_comprehension_free rfl hs (HB hcl) hk hnames ?_;refine thn (hi pins s σ H _ I h) λv s1 h1=>thn h1 λitv s2 h2=>?_
 obtain⟨it,fp,tn,J,H2,e,I2,U,t,f2,R⟩:=h2;subst e;refine ar (hd:=by size_fits) ?_;have hD:=I2.hok.fresh (aQ _);have I3:Inv X pins σ (upd H2 s2.heap.objs.size (.lst [])) {s2 with heap:=s2.heap.push {cls:=.type "list", dict:=none,data:=.seq ([]:List Value).toArray} }:=
  I2.laid (t':=s2.toks) (λb o e=>ad _ e) (aQ _) ⟨jh _,[],0,.nil,ag _ rfl⟩
 obtain⟨W,⟨m0,w0⟩,turn⟩:=R s2.heap.objs.size hD;generalize hs3:({s2 with heap:=s2.heap.push {cls:=.type "list", dict:=none,data:=.seq ([]:List Value).toArray} }:bE)=O at I3 ⊢;have B:tn 0 O.heap:=by
  rw[<-hs3];exact U.keep 0 s2.heap _ t λb hb o e=>ad _ e
 have f3:∀b∈fp,wJ X pins (upd H2 s2.heap.objs.size (.lst [])) b:=λb hb=>by
  obtain⟨z0,z1⟩:=f2 b hb;refine⟨?_,z1⟩;obtain⟨o,eo,_⟩:=U.obj 0 _ t b hb;rwa[bW (b_ (ae eo))]
 generalize hH3:upd H2 s2.heap.objs.size (.lst [])=Y at I3 f3 w0;generalize hDn:s2.heap.objs.size=D at turn;refine wpAny_newFunctionEnv hcell (by intro y hy;simp at hy) (λl P Q=>?_) hk;have keep:=λb o e=>Q.extBut b o (b_ (ae e)) (ad _ e)
 have I4:=LK (T:=T) (tk:=O.toks+([]:List (Str×Value)).length) I3 f3 (λb hb=>let⟨o,eo,_⟩:=U.obj 0 _ B b hb;⟨o,eo⟩) hk hcell hfr hB P keep;have E:=U.keep 0 _ _ B λb hb o e=>keep b o e
 have loop:codeAny (model X.prog X.w) X.A (.compLoop (.ListComp elt [⟨tg,iter,ifs,0⟩] scope pos) 0 (.ref it) (.ref D) (compEnvC scope (qt X.env scope.names []) O.heap.objs.size X.env))
  (compPost (model X.prog X.w) X.A X.xe use Qp (.ref D) O.heap.objs.size) {O with heap:=l,toks:=O.toks+([]:List (Str×Value)).length}:=by
  refine Fi (λn s'=>∃i xs H',Inv (blk X (T++V) scope (qt X.env scope.names []) O.heap.objs.size O Y fp) pins (Aj T.length ix σ) H' s'/\tn i s'.heap/\(∀b∈fp,H' b=none)/\W i n xs H') ?_ m0
   ⟨0,[],Y,I4,E,λb hb=>(f3 b hb).1,w0⟩
  rintro n s5 ⟨i,xs,H5,I5,F,a,w5⟩;have Z:∀{H':Hp}{pins':List (Addr×Obj)}{σ':St}{s':bE},Inv (blk X (T++V) scope (qt X.env scope.names []) O.heap.objs.size O Y fp) pins σ' H' s'->(∀b∈fp,H' b=none)->∀b∈fp,wJ (blk X (T++V) scope (qt X.env scope.names []) O.heap.objs.size O Y fp) pins H' b:=λI' hn b hb=>by
   obtain⟨x1,x2⟩:=I'.ok.exf b hb;refine⟨hn b hb,x1,I'.ok.exfs b hb,.inl hb,x2,λq hq=>?_⟩;exact(f3 b hb).2.2.2.2.2 q hq
  obtain⟨hD5,r5⟩:=turn i n xs H5 w5;rcases r5 with⟨stop,q⟩|⟨go,hz,step⟩
  ·refine thn (U.done (blk X (T++V) scope (qt X.env scope.names []) O.heap.objs.size O Y fp) rfl rfl rfl hc (λz=>z) i pins s5 _ H5 _ I5 (Z (pins':=pins) I5 a) F stop) λr s6 ⟨hr,I6⟩=>?_
   subst hr;obtain⟨Ib,fC⟩:=Fj I3 f3 I6;obtain⟨m,hn,_⟩:=I6.loc;exact fin D _ H5 s6 m Ib fC hn q
  ·refine thn (U.item (blk X (T++V) scope (qt X.env scope.names []) O.heap.objs.size O Y fp) rfl rfl rfl hc (λz=>z) i pins s5 _ H5 _ I5 (Z (pins':=pins) I5 a) F go) λr s6 ⟨u,hr,h6⟩=>?_
   subst hr;refine thn h6 λ_ s7 ⟨x,H7,I7,rx,y7,M,fr7⟩=>?_
   have I7':=I7.pinned (Z (pins':=pins) I7 fr7) (U.obj _ _ M);refine thn (hg _ _ _ _ _ _ s7 _ H7 x u _ I7' rx (step x H7 y7)) λ_ s8 ⟨S,H8,I8,k8,q8⟩=>?_
   have again:∀{L:Hp}{K:bE},Inv (blk X (T++V) scope (qt X.env scope.names []) O.heap.objs.size O Y fp) (pins++yP fp s7.heap) S L K ->
    Inv (blk X (T++V) scope (qt X.env scope.names []) O.heap.objs.size O Y fp) pins (Aj T.length ix σ) L K/\tn (i+1) K.heap/\∀b∈fp,L b=none:=λ{L K} G=>by
    refine⟨Inv.forget G.unpinned I4.len λj v e=>?_,U.keep _ _ _ M λb hb o e=>(G.pin (b,o) (bw _ (bw _ (qp hb e)))).1,λb hb=>?_⟩
    ·by_cases hj:j<T.length
     ·have e':(aX T.length none++ix.map λj=>(σ[j]?).getD none)[j]? = some (some v):=e;rw[cC (by rw[bK];exact hj),dI,if_pos hj]at e';exact absurd e' (by simp)
     ·have ej:j=T.length+(j-T.length):=by omega
      rw[ej,<-oG]at e ⊢;rwa[k8]
    ·obtain⟨o,e,d⟩:=U.obj _ _ M b hb;exact(G.pin (b,o) (bw _ (bw _ (qp hb e)))).2.1
   refine thn (ht _ _ _ _ _ _ s8 S H8 _ I8 q8) λok K ⟨L,G,q9⟩=>?_
   cases ok with
   |false=>
    obtain⟨m',lm,w9⟩:=q9;obtain⟨a1,a2,a3⟩:=again G;exact⟨m',lm,i+1,xs,L,a1,a2,a3,w9⟩
   |true=>
    refine thn (he _ _ _ _ _ _ K S L _ G q9) λy s10 ⟨v,H10,I10,ry,f,m',lm,w10⟩=>?_
    refine thn (wL _ s10 S H10 (.ref D) [v] (.ref D) [y] (λ_ Hn=>Hn=upd H10 D (.lst (xs++[v]))) I10 rfl (.cons ry .nil) ⟨D,xs,v,rfl,rfl,f,hz,rfl⟩) λ_ s11 ⟨_,H11,I11,_,e11⟩=>?_
    subst e11;obtain⟨a1,a2,a3⟩:=again I11;exact⟨m',lm,i+1,_,_,a1,a2,a3,w10⟩
 exact codeAny_compStart_list loop (U.self _ 0 _ _ _ E loop)
theorem Tg(hc:X.calm=true)(T V:List Str)(ix:List Nat)(hi:PI X tg iter wi)
 (hg:∀cl C Z H3 fp,PG (blk X (T++V) scope cl C Z H3 fp) tg g) (ht:∀cl C Z H3 fp,PTs (blk X (T++V) scope cl C Z H3 fp) ifs tt) (he:∀cl C Z H3 fp,PE (blk X (T++V) scope cl C Z H3 fp) elt te)
 (hB:zj X.N X.env.scope.names scope.names V ix=true:=by rfl) (hk:scope.kind = .function:=by rfl) (Y:∀y∈scope.names,y.2 ≠ .cell:=by decide +kernel)
 (O:∀x∈scope.names,x.2 = .local->scope.names.lookup x.1=some .local:=by decide +kernel)
 (hfr:∀x∈scope.names,x.2 = .free->x.1∈V:=by decide +kernel) (hs:∀x,foldedSetIterable iter X.env x=pure x:=by intro _;rfl) :
 PE X (.ListComp elt [⟨tg,iter,ifs,0⟩] scope pos) (JQ wi g tt te T.length (Aj T.length ix)):=by
 intro pins s σ H Q I h;rw[eval_ListComp];refine Bp (use:=none) hc hi hg ht he hB hk Y O hfr hs I h λD C H' s' m K L hn q=>⟨m,hn,λh' M=>⟨.ref D,H',?_,rfl,q⟩⟩
 obtain⟨P,R,J,S,U,W⟩:=L;exact K.turned (t':=s'.toks) (λb o hb e=>M.extBut b o hb e) P R S U W
theorem Ti{i:Nat}{x:Str}{pos' spos:Pos}(hN:X.N.Nodup)(hi':X.N[i]? = some x)(hx:X.env.scope.names.lookup x=some .local)(hc:X.calm=true)(T V:List Str)(ix:List Nat)(hi:PI X tg iter wi)
 (hg:∀cl C Z H3 fp,PG (blk X (T++V) scope cl C Z H3 fp) tg g) (ht:∀cl C Z H3 fp,PTs (blk X (T++V) scope cl C Z H3 fp) ifs tt) (he:∀cl C Z H3 fp,PE (blk X (T++V) scope cl C Z H3 fp) elt te)
 (hsw:swapsWith (.ListComp elt [⟨tg,iter,ifs,0⟩] scope pos) (some (.Name x pos')) spos.line X.env=pure true:=by rfl)
 (hB:zj X.N X.env.scope.names scope.names V ix=true:=by rfl) (hk:scope.kind = .function:=by rfl) (Y:∀y∈scope.names,y.2 ≠ .cell:=by decide +kernel)
 (O:∀x∈scope.names,x.2 = .local->scope.names.lookup x.1=some .local:=by decide +kernel)
 (hfr:∀x∈scope.names,x.2 = .free->x.1∈V:=by decide +kernel) (hs:∀x,foldedSetIterable iter X.env x=pure x:=by intro _;rfl) :
 PS X (.Assign [.Name x pos'] (.ListComp elt [⟨tg,iter,ifs,0⟩] scope pos) spos) (W2 (JQ wi g tt te T.length (Aj T.length ix)) (Oa i)):=by
 intro pins s σ H D I h;rw[exec_Assign_Name_used _ _ _ _ hsw];refine aa (a_ (aa ?_));refine aa (ai (Bp (use:=some (assign (.Name x pos') X.env)) (Qp:=λ_ s'=>SP X pins D .next s') hc hi hg ht he hB hk Y O hfr hs I h λF C H' s' m G J hn q=>?_) (λ_ s' hq=>af (af hq)) λ_ _ e=>e);obtain⟨L,M,E,P,R,Q⟩:=J;refine wpAny_assign_Name (Bf G hN hi' (.inl hx) (v:=.ref F) rfl (λU S ⟨a,K,ha⟩=>⟨m,hn.sameBut K ?_,λh' W=>⟨_,H',?_,q⟩⟩) (.inr hx))
 ·rcases ha with ha|ha
  ·rwa[ha]
  ·exact ce (R x a ha)
 ·exact S.turned (t':=U.toks) (λb o hb e=>W.extBut b o hb e) L M P R Q
end
section
variable{X:Cx}{K:PySem.W.Frag}
end
end My
namespace D3
theorem ex2{α β:Type _}{A B C:α->β->Prop}{G:Prop}(h:∃a b,A a b/\B a b/\C a b)(k:∀a b,A a b->B a b->C a b->G):G:=h.elim λa h=>h.elim λb z=>k a b z.1 z.2.1 z.2.2
theorem ex1{α:Type _}{A B:α->Prop}{G:Prop}(h:∃a,A a/\B a)(k:∀a,A a->B a->G):G:=h.elim λa z=>k a z.1 z.2
theorem cW{α β Y O:Type _}{A B C:α->β->Y->O->Prop}{G:Prop}(h:∃a b c d,A a b c d/\B a b c d/\C a b c d)(k:∀a b c d,A a b c d->B a b c d->C a b c d->G):G:=h.elim λa h=>h.elim λb h=>h.elim λc h=>h.elim λd z=>k a b c d z.1 z.2.1 z.2.2
noncomputable abbrev D:=PyData
inductive U where
 |d (x:D)
 |x (c f:Str) (v:D)
noncomputable abbrev DS:=List (Option U)
inductive Oc where
 |nx (δ:DS)
 |rt (d:D)
 |bk (δ:DS)
 |ct (δ:DS)
 |ex (c f:Str) (v:D)
abbrev FE:=DS->Option D
abbrev FA:=DS->Option (List D)
abbrev FT:=DS->Option Bool
abbrev FS:=DS->Option Oc
abbrev FG:=D->DS->Option DS
def isI:List (D×D)->Bool
 | (.none,.tuple _)::_=>true
 |_=>false
noncomputable def rW:List Str->List D->List (D×D)
 |n::ns,d::ds=>(.str n,d)::rW ns ds
 |_,_=>[]
def oY(C:Addr)(ns:List Str)(ds:List D):List (D×D):=(.none,.tuple [.int (C:Int)])::rW ns ds
mutual
def flat:D->Bool
 | .none=>true
 | .bool _=>true
 | .int _=>true
 | .str _=>true
 | .list _=>false
 | .tuple xs=>flats xs
 | .dict kvs=>isI kvs&&Fp kvs
def flats:List D->Bool
 |[]=>true
 |x::r=>flat x&&flats r
def Fp:List (D×D)->Bool
 |[]=>true
 | (_,x)::r=>flat x&&Fp r
end
theorem Bq:∀{ns:List Str}{ds:List D},ns.length=ds.length->Fp (rW ns ds)=flats ds
 |[],[],_=>rfl
 |n::ns,d::ds,h=>by rw[rW,Fp,flats,Bq (rQ.inj h)]
theorem zq{C:Addr}{ns:List Str}{ds:List D}(h:ns.length=ds.length):flat (.dict (oY C ns ds))=flats ds:=by
 show(true&&(true&&Fp (rW ns ds)))=_;rw[Bq h]
 cases flats ds<;>rfl
mutual
def noC(C:Addr):D->Bool
 | .list xs=>ju C xs
 | .tuple xs=>ju C xs
 | .dict kvs=>noH C kvs&&Ak C kvs
 |_=>true
def ju(C:Addr):List D->Bool
 |[]=>true
 |x::r=>noC C x&&ju C r
def Ak(C:Addr):List (D×D)->Bool
 |[]=>true
 | (_,x)::r=>noC C x&&Ak C r
def noH(C:Addr):List (D×D)->Bool
 | (.none,.tuple [.int c])::_=>decide (c≠(C:Int))
 |_=>true
end
mutual
def nl:D->Nat
 | .none=>0
 | .bool _=>0
 | .int _=>0
 | .str _=>0
 | .list xs=>nls xs+1
 | .tuple xs=>nls xs
 | .dict kvs=>cond (isI kvs) (nlk kvs) 1
def nls:List D->Nat
 |[]=>0
 |x::r=>nl x+nls r
def nlk:List (D×D)->Nat
 |[]=>0
 | (_,x)::r=>nl x+nlk r
end
def fl1:D->Bool
 | .list xs=>flats xs
 |d=>flat d
noncomputable def aj(i:Nat):FE:=λδ=>match δ[i]? with
 |some (some (.d x))=>some x
 |_=>none
def dC(d:D):FE:=λ_=>some d
def dOp(g:D->D->Option D)(fa fb:FE):FE:=λδ=>(fa δ).bind λx=>(fb δ).bind λy=>g x y
def dUn(g:D->Option D)(fa:FE):FE:=λδ=>(fa δ).bind g
def aK:FA:=λ_=>some []
def au(fa:FE)(fr:FA):FA:=λδ=>(fa δ).bind λx=>(fr δ).bind λr=>some (x::r)
def dTup(fa:FA):FE:=λδ=>(fa δ).bind λl=>if l.length<=sizeLine then some (.tuple l)else none
def jC(fa:FA):FE:=λδ=>(fa δ).bind λl=>if l.length<=sizeLine then some (.list l)else none
def dCall(F:List D->Option D)(fa:FA):FE:=λδ=>(fa δ).bind F
def bQ(fa:FE):FE:=λδ=>(fa δ).bind λd=>if flat d=true then some d else none
def dN1(fa:FE):FE:=λδ=>(fa δ).bind λd=>if decide (nl d<=1)=true then some d else none
def rM(fa:FE):FE:=λδ=>(fa δ).bind λd=>if fl1 d=true then some d else none
def oH(fa fb:FE):FE:=λδ=>(fa δ).bind λx=>match x with
 | .bool true=>fb δ
 | .bool false=>some (.bool false)
 |_=>none
def dOr(fa fb:FE):FE:=λδ=>(fa δ).bind λx=>match x with
 | .bool true=>some (.bool true)
 | .bool false=>fb δ
 |_=>none
def Xf(fa:FE):FE:=λδ=>(fa δ).bind λx=>match x with
 | .bool b=>some (.bool (!b))
 |_=>none
def dIf(c:FT)(fa fb:FE):FE:=λδ=>(c δ).bind λb=>if b=true then fa δ else fb δ
def aY(fa:FE):FT:=λδ=>(fa δ).bind λx=>match x with
 | .bool b=>some b
 |_=>none
def lA(a b:FT):FT:=λδ=>(a δ).bind λx=>if x=true then b δ else some false
def tOr(a b:FT):FT:=λδ=>(a δ).bind λx=>if x=true then some true else b δ
def jO(a:FT):FT:=λδ=>(a δ).map λx=>!x
def fP:FS:=λδ=>some (.nx δ)
def bJ(a b:FS):FS:=λδ=>(a δ).bind λo=>match o with
 | .nx Z=>b Z
 |o=>some o
noncomputable def aj2(i:Nat)(fe:FE):FS:=λδ=>(fe δ).bind λd=>some (.nx (δ.set i (some (.d d))))
def sIf(c:FT)(a b:FS):FS:=λδ=>(c δ).bind λt=>if t=true then a δ else b δ
def cF(fe:FE):FS:=λδ=>(fe δ).bind λd=>some (.rt d)
def Z5:FS:=λ_=>some (.rt .none)
def Fq(fe:FE):FS:=λδ=>(fe δ).bind λ_=>some (.nx δ)
def sBk:FS:=λδ=>some (.bk δ)
def sCt:FS:=λδ=>some (.ct δ)
def gN(i:Nat):FG:=λd δ=>some (δ.set i (some (.d d)))
def jJ:List D->DS->Option DS:=λl δ=>match l with
 |[]=>some δ
 |_=>none
noncomputable def cQ(g:FG)(r:List D->DS->Option DS):List D->DS->Option DS:=λl δ=>match l with
 |d::Y=>(g d δ).bind λZ=>r Y Z
 |[]=>none
def zu(fe:FE)(g:FG):FS:=λδ=>(fe δ).bind λd=>(g d δ).bind λZ=>some (.nx Z)
noncomputable def lB(g:FG)(b:FS):List D->DS->Option Oc
 |[],δ=>some (.nx δ)
 |d::r,δ=>(g d δ).bind λY=>(b Y).bind λo=>match o with
  | .nx Z=>lB g b r Z
  | .ct Z=>lB g b r Z
  | .bk Z=>some (.nx Z)
  | .rt v=>some (.rt v)
  | .ex c f v=>some (.ex c f v)
def kY(fi:FA)(g:FG)(b:FS):FS:=λδ=>(fi δ).bind λl=>lB g b l δ
noncomputable def fM(c:FT)(b:FS):Nat->DS->Option Oc
 |0,_=>none
 |n+1,δ=>(c δ).bind λt=>if t=true then(b δ).bind λo=>match o with
     | .nx Z=>fM c b n Z
     | .ct Z=>fM c b n Z
     | .bk Z=>some (.nx Z)
     | .rt v=>some (.rt v)
     | .ex c f v=>some (.ex c f v)
  else some (.nx δ)
theorem o9{c:FT}{b:FS}:∀{n:Nat}{δ:DS}{o:Oc},fM c b n δ=some o->∀{m:Nat},n<=m->fM c b m δ=some o
 |0,_,_,h,_,_=>by simp[fM]at h
 |n+1,δ,o,h,0,l=>by omega
 |n+1,δ,o,h,m+1,l=>by
  rw[fM]at h ⊢
  cases hc:c δ with
  |none=>rw[hc]at h;simp at h
  |some t=>
   rw[hc]at h;simp only[aH]at h ⊢
   cases t with
   |false=>exact h
   |true=>
    simp only[if_pos]at h ⊢
    cases hb:b δ with
    |none=>rw[hb]at h;simp at h
    |some q=>
     rw[hb]at h;simp only[aH]at h ⊢
     cases q with
     |nx Z=>exact o9 h (by omega)
     |ct Z=>exact o9 h (by omega)
     |bk Z=>exact h
     |rt v=>exact h
     |ex c f v=>exact h
theorem HD{c:FT}{b:FS}{n m:Nat}{δ:DS}{o o':Oc}(h:fM c b n δ=some o)(h':fM c b m δ=some o'):o=o':=by
 have a:=o9 h (Nat.le_max_left n m);have Z:=o9 h' (Nat.le_max_right n m);rw[a]at Z;exact dB.inj Z
open Classical in
def rY(c:FT)(b:FS):FS:=λδ=>if h:∃o n,fM c b n δ=some o then some (Classical.choose h)else none
theorem wO{c:FT}{b:FS}{n:Nat}{δ:DS}{o:Oc}(h:fM c b n δ=some o):rY c b δ=some o:=by
 have e:∃o n,fM c b n δ=some o:=⟨o,n,h⟩;unfold rY;rw[dif_pos e];obtain⟨m,hm⟩:=dL e;rw[HD hm h]
theorem HJ{c:FT}{b:FS}{δ:DS}{o:Oc}(h:rY c b δ=some o):∃n,fM c b n δ=some o:=by
 unfold rY at h;by_cases e:∃o n,fM c b n δ=some o
 ·rw[dif_pos e]at h;have:=dL e;rwa[dB.inj h]at this
 ·rw[dif_neg e]at h
  cases h
noncomputable def fnD(p q:Nat)(b:FS):List D->Option D:=λds=>if ds.length=p then match b (ds.map (λd=>some (.d d))++aX q none)with
 |some (.rt d)=>some d
 |some (.nx _)=>some .none
 |_=>none
 else none
def oZ(t:Nat)(ix:List Nat)(δ:DS):DS:=aX t none++ix.map λj=>(δ[j]?).getD none
noncomputable def jQ(g:FG)(c:FT)(e:FE)(δ:DS):List D->Option (List D)
 |[]=>some []
 |d::r=>(g d δ).bind λZ=>(c Z).bind λb=>if b=true then(e Z).bind λx=>(jQ g c e δ r).bind λl=>some (x::l)else jQ g c e δ r
def iB(fi:FA)(g:FG)(c:FT)(e:FE)(t:Nat)(ix:List Nat):FE:=λδ=>(fi δ).bind λl=>if l.length<=100000 then(jQ g c e (oZ t ix δ) l).bind λr=>some (.list r)else none
def mD:FT:=λ_=>some true
noncomputable def gI(g:Int->Int->Option D):D->D->Option D:=λx y=>match x,y with
 | .int i,.int j=>g i j
 |_,_=>none
noncomputable def pIx(n:Nat)(i:Int):Option Nat:=if 0<=i then(if i<n then some i.toNat else none)else if -(n:Int)<=i then some (i+n).toNat else none
def pAt(xs:List D)(i:Int):Option D:=(pIx xs.length i).bind λj=>xs[j]?
def isT(c T:String):Bool:=T==c||(T=="bool"&&c=="int")
def bD(i:Nat)(fe:FE):FS:=λδ=>if i<δ.length then aj2 i fe δ else none
def dW:D->D->Option D:=gI λi j=>some (.int (i+j))
def pO:D->D->Option D:=gI λi j=>some (.int (i-j))
def vD(i j:Int):Bool:=decide (i.natAbs<2^64)||decide (j.natAbs<2^64)||(decide (i.natAbs<2^30000)&&decide (j.natAbs<2^30000))
def ig:D->D->Option D:=gI λi j=>if vD i j=true then some (.int (i*j))else none
def HN(_ j:Int):Bool:=decide (j≠0)&&decide (j.natAbs<2^9000)
def qw:D->D->Option D:=gI λi j=>if HN i j=true then some (.int (i.fdiv j))else none
def gA:D->D->Option D:=gI λi j=>if decide (j≠0)=true then some (.int (i.fmod j))else none
def Tj(i j:Int):Bool:=decide (0<=j)&&decide (j<=1000)&&decide (i.natAbs<2^64)
def Ft:D->D->Option D:=gI λi j=>if Tj i j=true then some (.int (i^j.toNat))else none
def LQ:D->D->Option D:=gI λi j=>if Tj i j=true then some (.int (i*2^j.toNat))else none
def gLt:D->D->Option D:=gI λi j=>some (.bool (decide (i<j)))
def gLe:D->D->Option D:=gI λi j=>some (.bool (decide (i<=j)))
def gGt:D->D->Option D:=gI λi j=>some (.bool (decide (j<i)))
def gGe:D->D->Option D:=gI λi j=>some (.bool (decide (j<=i)))
def gEq:D->D->Option D:=λx y=>if(cq x&&cq y)=true then some (.bool (cK x y))else none
def gNe:D->D->Option D:=λx y=>if(cq x&&cq y)=true then some (.bool (!PyData.eqv x y))else none
def gNl(i:Nat):FG:=λd δ=>if i<δ.length then gN i d δ else none
def gTn(n:Nat)(g:List D->DS->Option DS):FG:=λd δ=>match d with
 | .tuple l=>if l.length=n then g l δ else none
 |_=>none
def uO(i:Nat)(f:FE):FS:=λδ=>(aj i δ).bind λx=>(f δ).bind λd=>match x with
 | .list l=>if l.length<1000000 then some (.nx (δ.set i (some (.d (.list (l++[d]))))))else none
 |_=>none
def LR(i:Nat)(fk f:FE):FS:=λδ=>(f δ).bind λd=>(aj i δ).bind λx=>(fk δ).bind λk=>match x,k with
 | .list l,.int j=>(pIx l.length j).bind λn=>some (.nx (δ.set i (some (.d (.list (l.set n d))))))
 |_,_=>none
def Xg:D->Option (List D)
 | .list l=>some l
 | .tuple l=>some l
 |_=>none
def putAt(x:D)(n:Nat)(d:D):D:=match x with
 | .list l=>.list (l.set n d)
 | .tuple l=>.tuple (l.set n d)
 |x=>x
noncomputable def asList:D->Option (List D)
 | .list l=>some l
 |_=>none
def lD(f:FE):FA:=λδ=>(f δ).bind asList
noncomputable def d_(lo hi:Int):List D:=(cB (hi-lo).toNat).map λ(k:Nat)=>.int (lo+(k:Int))
def uc(i:Int):Bool:=decide (-(2^62)<=i)&&decide (i<2^62)
def oJ(fa:FA):FA:=λδ=>(fa δ).bind λl=>match l with
 |[.int j]=>if uc j=true then some (d_ 0 j)else none
 |_=>none
def rB(fa:FA):FA:=λδ=>(fa δ).bind λl=>match l with
 |[.int i,.int j]=>if(uc i&&uc j)=true then some (d_ i j)else none
 |_=>none
def gIx:D->D->Option D:=λx y=>match x,y with
 | .list l,.int i=>pAt l i
 | .tuple l,.int i=>pAt l i
 |_,_=>none
noncomputable def jD(g g':D->D->Option D)(fa fb fc:FE):FE:=λδ=>(fa δ).bind λx=>(fb δ).bind λy=>(g x y).bind λz=>match z with
 | .bool true=>(fc δ).bind λw=>g' y w
 | .bool false=>some (.bool false)
 |_=>none
noncomputable def vG(g g' O:D->D->Option D)(fa fb fc fd:FE):FE:=λδ=>(fa δ).bind λx=>(fb δ).bind λy=>(g x y).bind λz=>match z with
 | .bool true=>(fc δ).bind λw=>(g' y w).bind λZ=>match Z with
  | .bool true=>(fd δ).bind λu=>O w u
  | .bool false=>some (.bool false)
  |_=>none
 | .bool false=>some (.bool false)
 |_=>none
noncomputable def isNone:D->Bool
 | .none=>true
 |_=>false
def Al:D->Option D:=λx=>some (.bool (isNone x))
def Z6:D->Option D:=λx=>some (.bool (!isNone x))
def nD:List D->Option D
 |[.list l]=>some (.int l.length)
 |[.tuple l]=>some (.int l.length)
 |_=>none
noncomputable def m6:List D->Option (List Int)
 |[]=>some []
 | .int i::r=>(m6 r).map (i :: ·)
 |_=>none
def pU:List D->Option D
 |[.list l]=>(m6 l).map λns=>.int ns.sum
 |_=>none
noncomputable def insI(x:Int):List Int->List Int
 |[]=>[x]
 |y::r=>if x<=y then x::y::r else y::insI x r
def Cz:List Int->List Int
 |[]=>[]
 |x::r=>insI x (Cz r)
def JR:List D->Option D
 |[.list l]=>(m6 l).bind λns=>if ns.length<64 then some (.list ((Cz ns).map .int))else none
 |_=>none
def Fv:List D->Option D
 |[.int i]=>some (.int (if i<0 then -i else i))
 |_=>none
def JT:List D->Option D
 |[.int i,.int j]=>some (.int (if j>i then j else i))
 |_=>none
def JV:List D->Option D
 |[.int i,.int j]=>some (.int (if j<i then j else i))
 |_=>none
noncomputable def tyD:D->String
 | .none => "NoneType"
 | .bool _ => "bool"
 | .int _ => "int"
 | .str _ => "str"
 | .list _ => "list"
 | .tuple _ => "tuple"
 | .dict _ => "dict"
def noI:D->Bool
 | .dict kvs=>!isI kvs
 |_=>true
def gIs(c:String):D->Option D:=λd=>if noI d=true then some (.bool (isT c (tyD d)))else none
def Tp:D->Option D
 | .int i=>some (.int (-i))
 |_=>none
noncomputable def ud:D->D->Option D:=λx y=>match x,y with
 | .list l,.list m=>if l.length+m.length<=1000000 then some (.list (l++m))else none
 |_,_=>none
noncomputable def HS:D->D->Option D:=λx y=>match x,y with
 | .list l,.int k=>if l.length*k.toNat<=1000000/\-(2^63)<=k/\k<2^63 then some (.list (aX k.toNat l).flatten)else none
 |_,_=>none
def vH:D->Option D
 | .list l=>some (.list l)
 | .tuple l=>some (.list l)
 |_=>none
abbrev FO:=DS->Option (Option Int)
def fZ:FO:=λ_=>some none
def f9(f:FE):FO:=λδ=>(f δ).bind λx=>match x with
 | .int i=>some (some i)
 |_=>none
noncomputable def pSx(n d:Nat):Option Int->Nat
 |none=>d
 |some i=>if i<0 then(i+n).toNat else min i.toNat n
def cuD(xs:List D)(lo hi:Option Int):List D:=(xs.drop (pSx xs.length 0 lo)).take (pSx xs.length xs.length hi-pSx xs.length 0 lo)
def dSl(f:FE)(lo hi:FO):FE:=λδ=>(f δ).bind λx=>(lo δ).bind λa=>(hi δ).bind λb=>match x with
 | .list l=>some (.list (cuD l a b))
 |_=>none
noncomputable def Xh(i j:Nat)(fa:FA):FS:=λδ=>(fa δ).bind λl=>match l with
 |[x,y]=>if i<δ.length/\j<δ.length then some (.nx ((δ.set i (some (.d x))).set j (some (.d y))))else none
 |_=>none
noncomputable def o_(l:List D):List D:=l.mapIdx λi x=>.tuple [.int (i:Int),x]
def JW(f:FE):FA:=λδ=>(f δ).bind λd=>match d with
 | .list l=>some (o_ l)
 |_=>none
def mnI(i:Int)(r:List Int):Int:=r.foldl (λa b=>if b<a then b else a) i
def Fw:List D->Option D
 |[.list l]=>match m6 l with
  |some (i::r)=>some (.int (mnI i r))
  |_=>none
 |_=>none
noncomputable def pD:List D->Option (List Bool)
 |[]=>some []
 | .bool b::r=>(pD r).map (b :: ·)
 |_=>none
def CG:List D->Option D
 |[.list l]=>(pD l).map λbs=>.bool (bs.all id)
 |_=>none
noncomputable def Tq:List D->List D->List D
 |x::r,y::s=>.tuple [x,y]::Tq r s
 |_,_=>[]
def aj3(f g:FE):FA:=λδ=>(f δ).bind λd=>(g δ).bind λe=>match d,e with
 | .list l,.list m=>some (Tq l m)
 |_,_=>none
theorem zx:∀(r:List Int)(i:Int),mnI i r∈i::r/\∀a∈i::r,mnI i r<=a
 |[],i=>⟨aN,λa h=>by rw[cg.mp h];exact k_ _⟩
 |b::r,i=>by
  have Z:=zx r (if b<i then b else i);have e:mnI i (b::r)=mnI (if b<i then b else i) r:=rfl;rw[e]
  constructor
  ·rcases bI.mp Z.1 with z|z
   ·rw[z];split<;>simp
   ·exact aL _ (aL _ z)
  ·intro a h;have h0:=Z.2 _ aN;have hb:(if b<i then b else i)<=i/\(if b<i then b else i)<=b:=by split<;>omega
   rcases bI.mp h with rfl|h
   ·exact qg h0 hb.1
   ·rcases bI.mp h with rfl|h
    ·exact qg h0 hb.2
    ·exact Z.2 a (aL _ h)
theorem insI_perm(x:Int):∀l,(insI x l).Perm (x::l)
 |[]=>.refl _
 |y::r=>by
  unfold insI;split
  ·exact .refl _
  ·exact((insI_perm x r).cons y).trans (.swap x y r)
theorem n8:∀l,(Cz l).Perm l
 |[]=>.refl _
 |x::r=>(insI_perm x _).trans ((n8 r).cons x)
theorem xR(x:Int):∀l,l.Pairwise (· <= ·)->(insI x l).Pairwise (· <= ·)
 |[],_=>by simp[insI]
 |y::r,h=>by
  obtain⟨h1,h2⟩:=gZ.mp h;unfold insI;split
  ·next c=>
   refine gZ.mpr ⟨λa ha=>?_,h⟩;rcases bI.mp ha with rfl|z
   ·exact c
   ·exact qg c (h1 a z)
  ·next c=>
   refine gZ.mpr ⟨λa ha=>?_,xR x r h2⟩;rcases bI.mp ((insI_perm x r).mem_iff.mp ha)with rfl|z
   ·omega
   ·exact h1 a z
theorem rZ:∀l,(Cz l).Pairwise (· <= ·)
 |[]=>.nil
 |x::r=>xR x _ (rZ r)
end D3
namespace D3
open L2 My
abbrev Ok:=Addr->Prop
abbrev St:=L2.St
class Chg (u:HO):Prop where
 ch:(∃xs,u = .lst xs)\/(∃kvs,u = .dK kvs)\/∃kvs,u = .dT kvs
instance (xs:List V):Chg (.lst xs):=⟨.inl ⟨xs,rfl⟩⟩
instance (kvs:List (Key×V)):Chg (.dK kvs):=⟨.inr (.inl ⟨kvs,rfl⟩)⟩
instance (kvs:List (List Key×V)):Chg (.dT kvs):=⟨.inr (.inr ⟨kvs,rfl⟩)⟩
theorem Chg.frz{o:Obj}{u:HO}(h:Chg (.frz o u)):False:=by
 rcases h.ch with⟨_,z⟩|⟨_,z⟩|⟨_,z⟩<;>cases z
theorem Chg.tup{xs:List V}(h:Chg (.tup xs)):False:=by
 rcases h.ch with⟨_,z⟩|⟨_,z⟩|⟨_,z⟩<;>cases z
theorem Chg.ins{C dx:Addr}{fs:List (Str×V)}(h:Chg (.ins C dx fs)):False:=by
 rcases h.ch with⟨_,z⟩|⟨_,z⟩|⟨_,z⟩<;>cases z
theorem Chg.own{x:Addr}(h:Chg (.own x)):False:=by
 rcases h.ch with⟨_,z⟩|⟨_,z⟩|⟨_,z⟩<;>cases z
def Chd(o:Option HO):Prop:=∃u,o=some u/\Chg u
theorem Chd.ne{o:Option HO}(h:Chd o):o≠none:=by
 obtain⟨u,rfl,_⟩:=h;simp
def SqK(K:PySem.W.Frag)(H:Hp)(a:Addr)(xs:List V):Prop:=(∃o,H a=some (.frz o (.lst xs))) \/
 ∃(o:Obj)(its:Array Value)(n:Nat),K.lookup a=some o/\o.cls = .type "list"/\o.dict=none/\o.data = .seq its n/\its.size<=sizeLine/\Vals xs its.toList
theorem SqK.sq{K:PySem.W.Frag}{H:Hp}{a:Addr}{xs:List V}(h:SqK K H a xs):SqL K H a xs:=by
 rcases h with⟨o,h⟩|h
 ·exact .inl (.inr ⟨o,h⟩)
 ·exact .inr h
def SqH(H:Hp)(a:Addr)(xs:List V):Prop:=H a=some (.tup xs)
def KT(K:PySem.W.Frag)(a:Addr)(xs:List V):Prop:=∃(o:Obj)(its:Array Value)(n:Nat),K.lookup a=some o/\o.cls = .type "tuple"/\o.data = .seq its n/\its.size<=sizeLine/\Vals xs its.toList
def lF(K:PySem.W.Frag)(H:Hp)(a:Addr)(xs:List V):Prop:=H a=some (.tup xs)\/KT K a xs
theorem lF.sq{K:PySem.W.Frag}{H:Hp}{a:Addr}{xs:List V}(h:lF K H a xs):SqT K H a xs:=h.imp .inl id
theorem lF.imp{K:PySem.W.Frag}{H H':Hp}{a:Addr}{xs:List V}(h:lF K H a xs)(e:H a=some (.tup xs)->H' a=some (.tup xs)):lF K H' a xs:=Or.imp e id h
theorem lF.same{K:PySem.W.Frag}{H H':Hp}{a:Addr}{xs:List V}(e:Same H H')(h:lF K H a xs):lF K H' a xs:=h.imp (e _ _)
theorem lF.upd{K:PySem.W.Frag}{H:Hp}{a b:Addr}{xs:List V}{u o:HO}[O:Chg u](h:H a=some u)(q:lF K H b xs):lF K (upd H a o) b xs:=q.imp λq=>by
 rw[bW (jH q h (by intro z;subst z;exact O.tup))];exact q
noncomputable def dk0:List (D×D)->List (Key×V)
 |[]=>[]
 | (.int i,.int j)::r=>(.inl i,.int j)::dk0 r
 | (.int i,.bool true)::r=>(.inl i,.bl true)::dk0 r
 | (.str x,.int j)::r=>(.inr x,.int j)::dk0 r
 |_::r=>(.inl 0,.non)::dk0 r
noncomputable def tkK:List D->Option (List Key)
 |[]=>some []
 | .int i::r=>(tkK r).map (.inl i :: ·)
 |_=>none
def tkD:List (D×D)->Option (List (List Key×V))
 |[]=>some []
 | (.tuple l,.bool true)::r=>(tkK l).bind λk=>(tkD r).map ((k,.bl true) :: ·)
 |_=>none
def dh0(kvs:List (D×D)):HO:=match kvs with
 |[]=>.dK []
 |q::r=>match tkD (q::r)with
  |some ts=>.dT ts
  |none=>.dK (dk0 (q::r))
theorem O6(kvs:List (D×D)):(∃ks,dh0 kvs = .dK ks)\/∃ks,dh0 kvs = .dT ks:=by
 cases kvs with
 |nil=>exact .inl ⟨_,rfl⟩
 |cons q r=>
  unfold dh0;dsimp only;split
  ·exact .inr ⟨_,rfl⟩
  ·exact .inl ⟨_,rfl⟩
instance (kvs:List (D×D)):Chg (dh0 kvs):=⟨by
 rcases O6 kvs with⟨ks,z⟩|⟨ks,z⟩
 ·exact .inr (.inl ⟨ks,z⟩)
 ·exact .inr (.inr ⟨ks,z⟩)⟩
def Imm(u:HO):Prop:=(∃xs,u = .tup xs)\/(∃C dx fs,u = .ins C dx fs)\/∃x,u = .own x
theorem Imm.tup{xs:List V}:Imm (.tup xs):=.inl ⟨xs,rfl⟩
theorem Imm.ins{C dx:Addr}{fs:List (Str×V)}:Imm (.ins C dx fs):=.inr (.inl ⟨C,dx,fs,rfl⟩)
theorem Imm.own{x:Addr}:Imm (.own x):=.inr (.inr ⟨x,rfl⟩)
theorem Imm.nc{u:HO}(h:Imm u)(c:Chg u):False:=by
 rcases h with⟨_,rfl⟩|⟨_,_,_,rfl⟩|⟨_,rfl⟩
 ·exact c.tup
 ·exact c.ins
 ·exact c.own
theorem Imm.nf{u:HO}{o:Obj}(h:Imm (.frz o u)):False:=by rcases h with⟨_,z⟩|⟨_,_,_,z⟩|⟨_,z⟩<;>cases z
mutual
inductive FV(K:PySem.W.Frag)(H:Hp):V->D->Prop
 |non:FV K H .non .none
 |bl (b:Bool):FV K H (.bl b) (.bool b)
 |int (i:Int):FV K H (.int i) (.int i)
 |str (x:Str):FV K H (.str x) (.str x)
 |tup {a:Addr} {xs:List V} {ds:List D}:lF K H a xs->FVs K H xs ds->FV K H (.ref a) (.tuple ds)
 |ins {a C dx:Addr} {fs:List (Str×V)} {ds:List D} {kvs:List (D×D)}:H a=some (.ins C dx fs)->H dx=some (.own a)->FVs K H (fs.map (·.2)) ds->kvs=oY C (fs.map (·.1)) ds->FV K H (.ref a) (.dict kvs)
inductive FVs(K:PySem.W.Frag)(H:Hp):List V->List D->Prop
 |nil:FVs K H [] []
 |cons {v:V} {d:D} {vs:List V} {ds:List D}:FV K H v d->FVs K H vs ds->FVs K H (v::vs) (d::ds)
end
theorem FV.ind{K:PySem.W.Frag}{H:Hp}{P:V->D->Prop}{Q:List V->List D->Prop}(c1:P .non .none)(c2:∀b,P (.bl b) (.bool b))(c3:∀i,P (.int i) (.int i))(c4:∀x,P (.str x) (.str x))(c5:∀{a:Addr} {xs:List V} {ds:List D},lF K H a xs->Q xs ds->P (.ref a) (.tuple ds))
 (Z:∀{a C dx:Addr}{fs:List (Str×V)}{ds:List D}{kvs:List (D×D)},H a=some (.ins C dx fs)->H dx=some (.own a)->FVs K H (fs.map (·.2)) ds->Q (fs.map (·.2)) ds->kvs=oY C (fs.map (·.1)) ds->P (.ref a) (.dict kvs)) (Y:Q [] []) (O:∀{v:V}{d:D}{vs:List V}{ds:List D},P v d->Q vs ds->Q (v::vs) (d::ds)) :
 (∀{v:V}{d:D},FV K H v d->P v d)/\∀{v:List V}{d:List D},FVs K H v d->Q v d:=
 ⟨λh=>FV.rec (motive_1:=λv d _=>P v d) (motive_2:=λv d _=>Q v d) c1 c2 c3 c4 (λh _ q=>c5 h q) (λh g r e q=>Z h g r q e) Y (λ_ _ a q=>O a q) h,
  λh=>FVs.rec (motive_1:=λv d _=>P v d) (motive_2:=λv d _=>Q v d) c1 c2 c3 c4 (λh _ q=>c5 h q) (λh g r e q=>Z h g r q e) Y (λ_ _ a q=>O a q) h⟩
theorem FVs.len{K:PySem.W.Frag}{H:Hp}:∀{v:List V}{d:List D},FVs K H v d->v.length=d.length
 |_,_,.nil=>rfl
 |_,_,.cons _ q=>by rw[bC,bC,FVs.len q]
theorem FV.imp2{K:PySem.W.Frag}{H H':Hp}(h:∀b u,Imm u->H b=some u->H' b=some u):(∀{v:V}{d:D},FV K H v d->FV K H' v d)/\∀{v:List V}{d:List D},FVs K H v d->FVs K H' v d:=
 FV.ind .non .bl .int .str (λe q=>.tup (e.imp (h _ _ Imm.tup)) q) (λe g _ q z=>.ins (h _ _ Imm.ins e) (h _ _ Imm.own g) q z) .nil .cons
theorem CJ{C O:Addr}{ns:List Str}{ds:List D}(hl:ns.length=ds.length)(h:noC C (.dict (oY O ns ds))=true):O≠C/\ju C ds=true:=by
 have e:∀{ns:List Str}{ds:List D},ns.length=ds.length->Ak C (rW ns ds)=ju C ds:=by
  intro ns
  induction ns with
  |nil=>intro ds h;cases ds with|nil=>rfl|cons _ _=>cases h
  |cons n ns Z=>intro ds h;cases ds with|nil=>cases h|cons d ds=>rw[rW,Ak,ju,Z (rQ.inj h)]
 rw[noC,aM]at h;obtain⟨h1,h2⟩:=h;have h2:(noC C (.tuple [.int (O:Int)])&&Ak C (rW ns ds))=true:=h2;rw[aM,e hl]at h2;refine⟨λz=>?_,h2.2⟩;have h1:decide ((O:Int)≠(C:Int))=true:=h1;exact of_decide_eq_true h1 (by rw[z])
theorem FV.impC{K:PySem.W.Frag}{H H':Hp}{C:Addr}(h:∀b u,Imm u->(∀dx fs,u ≠ .ins C dx fs)->H b=some u->H' b=some u):(∀{v:V}{d:D},FV K H v d->noC C d=true->FV K H' v d)/\∀{v:List V}{d:List D},FVs K H v d->ju C d=true->FVs K H' v d:=
 FV.ind (λ_=>.non) (λb _=>.bl b) (λi _=>.int i) (λx _=>.str x) (λe q n=>.tup (e.imp (h _ _ Imm.tup (λ_ _ z=>by cases z))) (q (by rw[noC]at n;exact n)))
  (λe g r q z n=>by
   subst z;obtain⟨n1,n2⟩:=CJ (by rw[<-r.len,aG,aG]) n;exact .ins (h _ _ Imm.ins (λ_ _ z=>by cases z;exact n1 rfl) e) (h _ _ Imm.own (λ_ _ z=>by cases z) g) (q n2) rfl) (λ_=>.nil)
  λe q n=>by
   rw[ju,aM]at n;exact .cons (e n.1) (q n.2)
def scV:D->V
 | .int i=>.int i
 |_=>.non
def scs:List D->Bool
 |[]=>true
 | .int _::r=>scs r
 | .none::r=>scs r
 |_=>false
def TV(K:PySem.W.Frag)(H:Hp)(v:V)(d:D):Prop:=(v = .non/\d = .none)\/(∃b ds,v = .ref b/\d = .tuple ds/\SqH H b (ds.map scV)/\scs ds=true)\/∃kvs,d = .dict kvs/\FV K H v d
inductive TVs(K:PySem.W.Frag)(H:Hp):List (Key×V)->List (D×D)->Prop
 |nil:TVs K H [] []
 |cons {i:Int} {v:V} {d:D} {r:List (Key×V)} {r':List (D×D)}:TV K H v d->TVs K H r r'->TVs K H ((.inl i,v)::r) ((.int i,d)::r')
 |cons2 {x:Str} {v:V} {d:D} {r:List (Key×V)} {r':List (D×D)}:TV K H v d->TVs K H r r'->TVs K H ((.inr x,v)::r) ((.str x,d)::r')
theorem TV.imp{K:PySem.W.Frag}{H H':Hp}(h:∀b u,Imm u->H b=some u->H' b=some u){v:V}{d:D}(q:TV K H v d):TV K H' v d:=by
 rcases q with q|⟨b,ds,h1,h2,h3,h4⟩|⟨kvs,h1,h2⟩
 ·exact .inl q
 ·exact .inr (.inl ⟨b,ds,h1,h2,h _ _ Imm.tup h3,h4⟩)
 ·exact .inr (.inr ⟨kvs,h1,(FV.imp2 h).1 h2⟩)
theorem TV.impC{K:PySem.W.Frag}{H H':Hp}{C:Addr}(h:∀b u,Imm u->(∀dx fs,u ≠ .ins C dx fs)->H b=some u->H' b=some u){v:V}{d:D}(n:noC C d=true)(q:TV K H v d):TV K H' v d:=by
 rcases q with q|⟨b,ds,h1,h2,h3,h4⟩|⟨kvs,h1,h2⟩
 ·exact .inl q
 ·exact .inr (.inl ⟨b,ds,h1,h2,h _ _ Imm.tup (λ_ _ z=>by cases z) h3,h4⟩)
 ·exact .inr (.inr ⟨kvs,h1,(FV.impC h).1 h2 n⟩)
theorem TVs.impC{K:PySem.W.Frag}{H H':Hp}{C:Addr}(h:∀b u,Imm u->(∀dx fs,u ≠ .ins C dx fs)->H b=some u->H' b=some u){ks:List (Key×V)}{kvs:List (D×D)}(q:TVs K H ks kvs):Ak C kvs=true->TVs K H' ks kvs:=by
 induction q with
 |nil=>exact λ_=>.nil
 |cons t _ Z=>intro n;rw[Ak,aM]at n;exact .cons (t.impC h n.1) (Z n.2)
 |cons2 t _ Z=>intro n;rw[Ak,aM]at n;exact .cons2 (t.impC h n.1) (Z n.2)
theorem TVs.imp{K:PySem.W.Frag}{H H':Hp}(h:∀b u,Imm u->H b=some u->H' b=some u){ks:List (Key×V)}{kvs:List (D×D)}(q:TVs K H ks kvs):TVs K H' ks kvs:=by
 induction q with
 |nil=>exact .nil
 |cons t _ Z=>exact .cons (t.imp h) Z
 |cons2 t _ Z=>exact .cons2 (t.imp h) Z
def HW:List (D×D)->Bool
 |[]=>true
 | (_,.int _)::r=>HW r
 | (_,.bool _)::r=>HW r
 |_=>false
def TW(H:Hp)(v:V)(m:List Int)(z:Int):Prop:=∃b c,v = .ref b/\SqH H b [.ref c,.int z]/\SqH H c (m.map V.int)
inductive TTs(H:Hp):List (List Key×V)->List (D×D)->Prop
 |nil:TTs H [] []
 |cons {k m:List Int} {z:Int} {v:V} {r:List (List Key×V)} {r':List (D×D)}:TW H v m z->TTs H r r'->TTs H ((k.map eb,v)::r) ((.tuple (k.map .int),.tuple [.tuple (m.map .int),.int z])::r')
theorem TTs.imp{H H':Hp}(h:∀b u,(∃xs,u = .tup xs)->H b=some u->H' b=some u){ks:List (List Key×V)}{kvs:List (D×D)}(q:TTs H ks kvs):TTs H' ks kvs:=by
 induction q with
 |nil=>exact .nil
 |cons t _ Z=>
  obtain⟨b,c,h1,h2,h3⟩:=t;exact .cons ⟨b,c,h1,h _ _ ⟨_,rfl⟩ h2,h _ _ ⟨_,rfl⟩ h3⟩ Z
def DH(K:PySem.W.Frag)(H:Hp)(u:HO)(kvs:List (D×D)):Prop:=(HW kvs=true/\u=dh0 kvs)\/(∃ks,u = .dK ks/\TVs K H ks kvs)\/∃q ks,u = .dT (q::ks)/\TTs H (q::ks) kvs
theorem DH.imp{K:PySem.W.Frag}{H H':Hp}(h:∀b u,Imm u->H b=some u->H' b=some u){u:HO}{kvs:List (D×D)}(q:DH K H u kvs):DH K H' u kvs:=by
 rcases q with q|⟨ks,q1,q2⟩|⟨k,ks,q1,q2⟩
 ·exact .inl q
 ·exact .inr (.inl ⟨ks,q1,q2.imp h⟩)
 ·exact .inr (.inr ⟨k,ks,q1,q2.imp λb u z=>h b u (.inl z)⟩)
theorem DH.impC{K:PySem.W.Frag}{H H':Hp}{C:Addr}(h:∀b u,Imm u->(∀dx fs,u ≠ .ins C dx fs)->H b=some u->H' b=some u){u:HO}{kvs:List (D×D)}(n:Ak C kvs=true)(q:DH K H u kvs):DH K H' u kvs:=by
 rcases q with q|⟨ks,q1,q2⟩|⟨k,ks,q1,q2⟩
 ·exact .inl q
 ·exact .inr (.inl ⟨ks,q1,q2.impC h n⟩)
 ·exact .inr (.inr ⟨k,ks,q1,q2.imp λb u ⟨xs,z⟩=>h b u (.inl ⟨xs,z⟩) (λ_ _ y=>by rw[z]at y;cases y)⟩)
theorem DH.same{K:PySem.W.Frag}{H H':Hp}{u:HO}{kvs:List (D×D)}(q:DH K H u kvs)(e:Same H H'):DH K H' u kvs:=q.imp λ_ _ _ h=>e _ _ h
theorem DH.upd{K:PySem.W.Frag}{H:Hp}{a:Addr}{u o O:HO}[Y:Chg u]{kvs:List (D×D)}(q:DH K H O kvs)(h:H a=some u):DH K (upd H a o) O kvs:=q.imp λb v Z z=>by rw[bW (jH z h (by intro y;subst y;exact Z.nc Y))];exact z
theorem DH.or{K:PySem.W.Frag}{H:Hp}{u:HO}{kvs:List (D×D)}(q:DH K H u kvs):(∃ks,u = .dK ks)\/∃ks,u = .dT ks:=by
 rcases q with⟨_,rfl⟩|⟨ks,rfl,_⟩|⟨k,ks,rfl,_⟩
 ·exact O6 kvs
 ·exact .inl ⟨ks,rfl⟩
 ·exact .inr ⟨_,rfl⟩
theorem DH.chg{K:PySem.W.Frag}{H:Hp}{u:HO}{kvs:List (D×D)}(q:DH K H u kvs):Chg u:=⟨.inr q.or⟩
theorem DH.old{K:PySem.W.Frag}{H:Hp}{u:HO}{kvs:List (D×D)}(q:DH K H u kvs)(h:HW kvs=true):u=dh0 kvs:=by
 rcases q with q|⟨ks,rfl,q⟩|⟨k,ks,rfl,q⟩
 ·exact q.2
 ·cases q with
  |nil=>rfl
  |cons t _=>
   rcases t with⟨_,rfl⟩|⟨_,_,_,rfl,_,_⟩|⟨_,rfl,_⟩<;>cases h
  |cons2 t _=>
   rcases t with⟨_,rfl⟩|⟨_,_,_,rfl,_,_⟩|⟨_,rfl,_⟩<;>cases h
 ·cases q with
  |cons _ _=>cases h
theorem O7{kvs:List (D×D)}(h:isI kvs=true):∃x r,kvs=(.none,.tuple x)::r:=by
 unfold isI at h;split at h
 ·exact⟨_,_,rfl⟩
 ·cases h
theorem Tr{kvs:List (D×D)}(h:HW kvs=true):isI kvs=false:=by
 cases q:isI kvs with
 |false=>rfl
 |true=>
  obtain⟨x,r,rfl⟩:=O7 q
  cases h
theorem DH.isI{K:PySem.W.Frag}{H:Hp}{u:HO}{kvs:List (D×D)}(q:DH K H u kvs):D3.isI kvs=false:=by
 cases h:D3.isI kvs with
 |false=>rfl
 |true=>
  obtain⟨x,r,rfl⟩:=O7 h;rcases q with⟨z,_⟩|⟨ks,_,z⟩|⟨k,ks,_,z⟩
  ·cases z
  ·cases z
  ·generalize k::ks=l at z;generalize Z:((PyData.none,di x)::r:List (D×D))=m at z
   cases z with
   |nil=>cases Z
   |cons _ _=>cases Z
theorem O8:∀{ns:List Str}{ds:List D},ns.length=ds.length->nlk (rW ns ds)=nls ds
 |[],[],_=>rfl
 |n::ns,d::ds,h=>by
  rw[rW,nlk,nls,O8 (rQ.inj h)]
mutual
inductive RA(K:PySem.W.Frag)(ok:Ok)(pl:Bool)(H:Hp):V->D->Prop
 |non:RA K ok pl H .non .none
 |bl (b:Bool):RA K ok pl H (.bl b) (.bool b)
 |int (i:Int):RA K ok pl H (.int i) (.int i)
 |str (x:Str):RA K ok pl H (.str x) (.str x)
 |lst {a:Addr} {xs:List V} {ds:List D}:H a=some (.lst xs)->ok a->RAs K ok pl H xs ds->RA K ok pl H (.ref a) (.list ds)
 |lsk {a:Addr} {xs:List V} {ds:List D}:SqK K H a xs->pl=true->RAs K ok pl H xs ds->RA K ok pl H (.ref a) (.list ds)
 |tup {a:Addr} {xs:List V} {ds:List D}:lF K H a xs->RAs K ok pl H xs ds->RA K ok pl H (.ref a) (.tuple ds)
 |dic {a:Addr} {u:HO} {kvs:List (D×D)}:H a=some u->DH K H u kvs->ok a->RA K ok pl H (.ref a) (.dict kvs)
 |dik {a:Addr} {u:HO} {kvs:List (D×D)} {o:Obj}:H a=some (.frz o u)->DH K H u kvs->pl=true->RA K ok pl H (.ref a) (.dict kvs)
 |ins {a C dx:Addr} {fs:List (Str×V)} {ds:List D} {kvs:List (D×D)}:H a=some (.ins C dx fs)->H dx=some (.own a)->RAs K ok pl H (fs.map (·.2)) ds->kvs=oY C (fs.map (·.1)) ds->RA K ok pl H (.ref a) (.dict kvs)
inductive RAs(K:PySem.W.Frag)(ok:Ok)(pl:Bool)(H:Hp):List V->List D->Prop
 |nil:RAs K ok pl H [] []
 |cons {v:V} {d:D} {vs:List V} {ds:List D}:RA K ok pl H v d->RAs K ok pl H vs ds->RAs K ok pl H (v::vs) (d::ds)
end
section
variable{K:PySem.W.Frag}{ok ok':Ok}{pl pl':Bool}{H H':Hp}
theorem RA.ind{P:V->D->Prop}{Q:List V->List D->Prop}(c1:P .non .none)(c2:∀b,P (.bl b) (.bool b))(c3:∀i,P (.int i) (.int i))(c4:∀x,P (.str x) (.str x))
 (c5:∀{a:Addr}{xs:List V}{ds:List D},H a=some (.lst xs)->ok a->Q xs ds->P (.ref a) (.list ds)) (c6:∀{a:Addr}{xs:List V}{ds:List D},SqK K H a xs->pl=true->Q xs ds->P (.ref a) (.list ds)) (c7:∀{a:Addr}{xs:List V}{ds:List D},lF K H a xs->Q xs ds->P (.ref a) (.tuple ds))
 (c8:∀{a:Addr}{u:HO}{kvs:List (D×D)},H a=some u->DH K H u kvs->ok a->P (.ref a) (.dict kvs)) (c9:∀{a:Addr}{u:HO}{kvs:List (D×D)}{o:Obj},H a=some (.frz o u)->DH K H u kvs->pl=true->P (.ref a) (.dict kvs)) (O:∀{a C dx:Addr}{fs:List (Str×V)}{ds:List D}{kvs:List (D×D)},H a=some (.ins C dx fs)->H dx=some (.own a)->Q (fs.map (·.2)) ds->kvs=oY C (fs.map (·.1)) ds->P (.ref a) (.dict kvs)) (Z:Q [] []) (Y:∀{v:V}{d:D}{vs:List V}{ds:List D},P v d->Q vs ds->Q (v::vs) (d::ds)) :
 (∀{v:V}{d:D},RA K ok pl H v d->P v d)/\∀{v:List V}{d:List D},RAs K ok pl H v d->Q v d:=
 ⟨λh=>RA.rec (motive_1:=λv d _=>P v d) (motive_2:=λv d _=>Q v d) c1 c2 c3 c4 (λh o _ q=>c5 h o q) (λh o _ q=>c6 h o q) (λh _ q=>c7 h q) (λh g o=>c8 h g o) (λh g o=>c9 h g o) (λh g _ e q=>O h g q e) Z (λ_ _ a q=>Y a q) h,
  λh=>RAs.rec (motive_1:=λv d _=>P v d) (motive_2:=λv d _=>Q v d) c1 c2 c3 c4 (λh o _ q=>c5 h o q) (λh o _ q=>c6 h o q) (λh _ q=>c7 h q) (λh g o=>c8 h g o) (λh g o=>c9 h g o) (λh g _ e q=>O h g q e) Z (λ_ _ a q=>Y a q) h⟩
theorem RA.imp2(Y:∀a,ok a->ok' a)(O:pl=true->pl'=true):(∀{v:V}{d:D},RA K ok pl H v d->RA K ok' pl' H v d)/\∀{v:List V}{d:List D},RAs K ok pl H v d->RAs K ok' pl' H v d:=
 RA.ind .non .bl .int .str (λh o q=>.lst h (Y _ o) q) (λh o q=>.lsk h (O o) q) (λh q=>.tup h q) (λh g o=>.dic h g (Y _ o)) (λh g o=>.dik h g (O o)) (λh g q e=>.ins h g q e) .nil .cons
theorem RA.imp(Y:∀a,ok a->ok' a)(O:pl=true->pl'=true){v:V}{d:D}(h:RA K ok pl H v d):RA K ok' pl' H v d:=(RA.imp2 Y O).1 h
theorem RAs.imp(Y:∀a,ok a->ok' a)(O:pl=true->pl'=true){v:List V}{d:List D}(h:RAs K ok pl H v d):RAs K ok' pl' H v d:=(RA.imp2 Y O).2 h
theorem SqK.same{a:Addr}{xs:List V}(e:Same H H')(h:SqK K H a xs):SqK K H' a xs:=by
 rcases h with⟨o,h⟩|h
 ·exact .inl ⟨o,e _ _ h⟩
 ·exact .inr h
theorem RA.same2(e:Same H H'):(∀{v:V}{d:D},RA K ok pl H v d->RA K ok pl H' v d)/\∀{v:List V}{d:List D},RAs K ok pl H v d->RAs K ok pl H' v d:=
 RA.ind .non .bl .int .str (λh o q=>.lst (e _ _ h) o q) (λh o q=>.lsk (h.same e) o q) (λh q=>.tup (lF.same e h) q) (λh g o=>.dic (e _ _ h) (g.same e) o) (λh g o=>.dik (e _ _ h) (g.same e) o) (λh g q Z=>.ins (e _ _ h) (e _ _ g) q Z) .nil .cons
theorem RA.same(e:Same H H'){v:V}{d:D}(h:RA K ok pl H v d):RA K ok pl H' v d:=(RA.same2 e).1 h
theorem RAs.same(e:Same H H'){v:List V}{d:List D}(h:RAs K ok pl H v d):RAs K ok pl H' v d:=(RA.same2 e).2 h
theorem FV.ra2:(∀{v:V}{d:D},FV K H v d->RA K ok pl H v d)/\∀{v:List V}{d:List D},FVs K H v d->RAs K ok pl H v d:=
 FV.ind .non .bl .int .str (λe q=>.tup e q) (λe g _ q z=>.ins e g q z) .nil .cons
theorem RA.fv2:(∀{v:V}{d:D},RA K ok pl H v d->flat d=true->FV K H v d)/\∀{v:List V}{d:List D},RAs K ok pl H v d->v.length=d.length/\(flats d=true->FVs K H v d):=
 RA.ind (λ_=>.non) (λb _=>.bl b) (λi _=>.int i) (λx _=>.str x) (λ_ _ _ h=>by simp[D3.flat]at h) (λ_ _ _ h=>by simp[D3.flat]at h) (λt q h=>.tup t (q.2 (by simpa[D3.flat]using h))) (λ_ g _ h=>by rw[D3.flat,g.isI]at h;cases h) (λ_ g _ h=>by rw[D3.flat,g.isI]at h;cases h)
  (λe g q z h=>by
   subst z;rw[zq (by rw[<-q.1,aG,aG])]at h;exact .ins e g (q.2 h) rfl) ⟨rfl,λ_=>.nil⟩ λa q=>⟨by rw[bC,bC,q.1],λh=>by
  rw[flats,aM]at h;exact .cons (a h.1) (q.2 h.2)⟩
theorem RA.flat2:(∀{v:V}{d:D},RA K ok pl H v d->flat d=true->RA K ok' pl' H v d)/\∀{v:List V}{d:List D},RAs K ok pl H v d->flats d=true->RAs K ok' pl' H v d:=
 ⟨λr h=>FV.ra2.1 (RA.fv2.1 r h),λr h=>FV.ra2.2 ((RA.fv2.2 r).2 h)⟩
theorem RA.flat{v:V}{d:D}(O:flat d=true)(h:RA K ok pl H v d):RA K ok' pl' H v d:=RA.flat2.1 h O
theorem RAs.flat{v:List V}{d:List D}(O:flats d=true)(h:RAs K ok pl H v d):RAs K ok' pl' H v d:=RA.flat2.2 h O
theorem SqK.upd{a b:Addr}{xs:List V}{u o:HO}[O:Chg u](h:H a=some u)(q:SqK K H b xs):SqK K (upd H a o) b xs:=by
 rcases q with⟨o',q⟩|q
 ·refine .inl ⟨o',?_⟩;rwa[bW (jH q h (by intro z;subst z;first|exact O.frz|exact O.tup))]
 ·exact .inr q
theorem SqT.upd{a b:Addr}{xs:List V}{u o:HO}[O:Chg u](h:H a=some u)(q:SqT K H b xs):SqT K (upd H a o) b xs:=by
 rcases q with(q|⟨o',q⟩)|q
 ·refine .inl (.inl ?_);rw[bW (jH q h (by intro z;subst z;first|exact O.frz|exact O.tup))];exact q
 ·refine .inl (.inr ⟨o',?_⟩);rw[bW (jH q h (by intro z;subst z;first|exact O.frz|exact O.tup))];exact q
 ·exact .inr q
theorem RA.upd2{a:Addr}{u o:HO}[O:Chg u](h:H a=some u)(Y:¬ok a):(∀{v:V}{d:D},RA K ok pl H v d->RA K ok pl (upd H a o) v d)/\∀{v:List V}{d:List D},RAs K ok pl H v d->RAs K ok pl (upd H a o) v d:=
 RA.ind .non .bl .int .str (λe k q=>.lst (by rwa[bW (by intro z;subst z;exact Y k)]) k q) (λe k q=>.lsk (e.upd h) k q) (λe q=>.tup (lF.upd h e) q) (λe g k=>.dic (by rwa[bW (by intro z;subst z;exact Y k)]) (g.upd h) k) (λe g k=>.dik (by rwa[bW (jH e h (by intro z;subst z;exact O.frz))]) (g.upd h) k) (λe g q Z=>.ins (by rwa[bW (jH e h (by intro z;subst z;exact O.ins))]) (by rwa[bW (jH g h (by intro z;subst z;exact O.own))]) q Z) .nil .cons
theorem RA.upd{a:Addr}{u o:HO}[Y:Chg u](h:H a=some u)(O:¬ok a){v:V}{d:D}(r:RA K ok pl H v d):RA K ok pl (upd H a o) v d:=(RA.upd2 h O).1 r
theorem RAs.upd{a:Addr}{u o:HO}[Y:Chg u](h:H a=some u)(O:¬ok a){v:List V}{d:List D}(r:RAs K ok pl H v d):RAs K ok pl (upd H a o) v d:=(RA.upd2 h O).2 r
theorem RA.track2:(∀{v:V}{d:D},RA K ok pl H v d->RA K (λb=>ok b/\H b≠none) pl H v d)/\∀{v:List V}{d:List D},RAs K ok pl H v d->RAs K (λb=>ok b/\H b≠none) pl H v d:=
 RA.ind .non .bl .int .str (λe k q=>.lst e ⟨k,by rw[e];simp⟩ q) (λe k q=>.lsk e k q) (λe q=>.tup e q) (λe g k=>.dic e g ⟨k,by rw[e];simp⟩) (λe g k=>.dik e g k) (λh g q e=>.ins h g q e) .nil .cons
theorem RA.track{v:V}{d:D}(h:RA K ok pl H v d):RA K (λb=>ok b/\H b≠none) pl H v d:=RA.track2.1 h
theorem RAs.track{v:List V}{d:List D}(h:RAs K ok pl H v d):RAs K (λb=>ok b/\H b≠none) pl H v d:=RA.track2.2 h
theorem RAs.length:∀{v:List V}{d:List D},RAs K ok pl H v d->v.length=d.length
 |_,_,.nil=>rfl
 |_,_,.cons _ q=>by simp[RAs.length q]
theorem RAs.get:∀{v:List V}{d:List D}{i:Nat}{x:D},RAs K ok pl H v d->d[i]? = some x->∃y,v[i]? = some y/\RA K ok pl H y x
 |_,_,_,_,.nil,h=>by simp at h
 |_,_,0,_,.cons a _,h=>by simp at h;subst h;exact⟨_,rfl,a⟩
 |_,_,i+1,_,.cons _ q,h=>by
  obtain⟨y,e,r⟩:=RAs.get (i:=i) q (by simpa using h);exact⟨y,by simpa using e,r⟩
theorem RAs.append:∀{v O:List V}{d d':List D},RAs K ok pl H v d->RAs K ok pl H O d'->RAs K ok pl H (v++O) (d++d')
 |_,_,_,_,.nil,q=>q
 |_,_,_,_,.cons a r,q=>.cons a (RAs.append r q)
theorem RAs.set{x:V}{y:D}(r:RA K ok pl H x y):∀{v:List V}{d:List D}(i:Nat),RAs K ok pl H v d->RAs K ok pl H (v.set i x) (d.set i y)
 |_,_,_,.nil=>.nil
 |_,_,0,.cons _ q=>.cons r q
 |_,_,i+1,.cons a q=>.cons a (RAs.set r i q)
theorem RAs.take:∀{v:List V}{d:List D}(n:Nat),RAs K ok pl H v d->RAs K ok pl H (v.take n) (d.take n)
 |_,_,0,_=>by simp;exact .nil
 |_,_,_+1,.nil=>.nil
 |_,_,n+1,.cons a q=>.cons a (RAs.take n q)
theorem RAs.drop:∀{v:List V}{d:List D}(n:Nat),RAs K ok pl H v d->RAs K ok pl H (v.drop n) (d.drop n)
 |_,_,0,q=>q
 |_,_,_+1,.nil=>.nil
 |_,_,n+1,.cons _ q=>RAs.drop n q
theorem RA.rd2:(∀{v:V}{d:D},RA K ok pl H v d->d.canLay0=true->RdV K H v d)/\∀{v:List V}{d:List D},RAs K ok pl H v d->cr d=true->RdVs K H v d:=
 RA.ind (λ_=>.non) (λb _=>.bl b) (λi _=>.int i) (λx _=>.str x) (λe _ q h=>.lst (SqL.of e) (q (by simpa[cf]using h))) (λe _ q h=>.lst e.sq (q (by simpa[cf]using h))) (λe q h=>.tup e.sq (q (by simpa[cf]using h))) (λ_ _ _ h=>by simp[cf]at h) (λ_ _ _ h=>by simp[cf]at h) (λ_ _ _ _ h=>by simp[cf]at h) (λ_=>.nil) λa q h=>by
  rw[cr,aM]at h;exact .cons (a h.1) (q h.2)
theorem RA.rd{v:V}{d:D}(O:d.canLay0=true)(h:RA K ok pl H v d):RdV K H v d:=RA.rd2.1 h O
theorem RAs.rd{v:List V}{d:List D}(O:cr d=true)(h:RAs K ok pl H v d):RdVs K H v d:=RA.rd2.2 h O
theorem RA.intE{v:V}{i:Int}(h:RA K ok pl H v (.int i)):v = .int i:=by cases h;rfl
theorem RA.blE{v:V}{b:Bool}(h:RA K ok pl H v (.bool b)):v = .bl b:=by cases h;rfl
theorem RA.strE{v:V}{x:Str}(h:RA K ok pl H v (.str x)):v = .str x:=by cases h;rfl
theorem RA.lstE{v:V}{ds:List D}(h:RA K ok pl H v (.list ds)):∃a xs,v = .ref a/\SqL K H a xs/\RAs K ok pl H xs ds:=by
 cases h with
 |lst e k q=>exact⟨_,_,rfl,SqL.of e,q⟩
 |lsk e k q=>exact⟨_,_,rfl,e.sq,q⟩
theorem RA.dicU{v:V}{kvs:List (D×D)}(h:RA K ok pl H v (.dict kvs))(hx:isI kvs=false):∃a u,v = .ref a/\L2.Rd H a u/\DH K H u kvs:=by
 cases h with
 |dic e g k=>exact⟨_,_,rfl,.inl e,g⟩
 |dik e g k=>exact⟨_,_,rfl,.inr ⟨_,e⟩,g⟩
 |ins _ _ _ e=>rw[e]at hx;cases hx
theorem RA.dicE{v:V}{kvs:List (D×D)}(h:RA K ok pl H v (.dict kvs))(O:HW kvs=true):∃a,v = .ref a/\L2.Rd H a (dh0 kvs):=by
 obtain⟨a,u,h1,h2,h3⟩:=h.dicU (Tr O);rw[h3.old O]at h2;exact⟨a,h1,h2⟩
theorem RA.tupE{v:V}{ds:List D}(h:RA K ok pl H v (.tuple ds)):∃a xs,v = .ref a/\SqT K H a xs/\RAs K ok pl H xs ds:=by
 cases h with
 |tup e q=>exact⟨_,_,rfl,e.sq,q⟩
theorem RA.tupE0{v:V}{ds:List D}(h:RA K ok pl H v (.tuple ds)):∃a xs,v = .ref a/\lF K H a xs/\RAs K ok pl H xs ds:=by
 cases h with
 |tup e q=>exact⟨_,_,rfl,e,q⟩
end
inductive Fl where
 |A
 |O
 |L
 |N
 |M
 |W
 deriving DecidableEq
def isN:Option Fl->Bool
 |some .N=>true
 |some .M=>true
 |some .W=>true
 |_=>false
mutual
inductive RT(K:PySem.W.Frag)(H:Hp):V->D->List Addr->Prop
 |non:RT K H .non .none []
 |bl (b:Bool):RT K H (.bl b) (.bool b) []
 |int (i:Int):RT K H (.int i) (.int i) []
 |str (x:Str):RT K H (.str x) (.str x) []
 |lst {a:Addr} {xs:List V} {ds:List D} {as:List Addr}:H a=some (.lst xs)->RTs K H xs ds as->RT K H (.ref a) (.list ds) (a::as)
 |tup {a:Addr} {xs:List V} {ds:List D} {as:List Addr}:lF K H a xs->RTs K H xs ds as->RT K H (.ref a) (.tuple ds) as
 |dic {a:Addr} {u:HO} {kvs:List (D×D)}:H a=some u->DH K H u kvs->RT K H (.ref a) (.dict kvs) [a]
 |ins {a C dx:Addr} {fs:List (Str×V)} {ds:List D} {kvs:List (D×D)} {as:List Addr}:H a=some (.ins C dx fs)->H dx=some (.own a)->RTs K H (fs.map (·.2)) ds as->kvs=oY C (fs.map (·.1)) ds->RT K H (.ref a) (.dict kvs) as
inductive RTs(K:PySem.W.Frag)(H:Hp):List V->List D->List Addr->Prop
 |nil:RTs K H [] [] []
 |cons {v:V} {d:D} {vs:List V} {ds:List D} {as bs:List Addr}:RT K H v d as->RTs K H vs ds bs->RTs K H (v::vs) (d::ds) (as++bs)
end
section
variable{K:PySem.W.Frag}{H H':Hp}
theorem RT.ind{P:V->D->List Addr->Prop}{Q:List V->List D->List Addr->Prop}(c1:P .non .none [])(c2:∀b,P (.bl b) (.bool b) [])(c3:∀i,P (.int i) (.int i) [])(c4:∀x,P (.str x) (.str x) [])
 (c5:∀{a:Addr}{xs:List V}{ds:List D}{as:List Addr},H a=some (.lst xs)->Q xs ds as->P (.ref a) (.list ds) (a::as)) (c7:∀{a:Addr}{xs:List V}{ds:List D}{as:List Addr},lF K H a xs->Q xs ds as->P (.ref a) (.tuple ds) as)
 (c8:∀{a:Addr}{u:HO}{kvs:List (D×D)},H a=some u->DH K H u kvs->P (.ref a) (.dict kvs) [a]) (O:∀{a C dx:Addr}{fs:List (Str×V)}{ds:List D}{kvs:List (D×D)}{as:List Addr},H a=some (.ins C dx fs)->H dx=some (.own a)->RTs K H (fs.map (·.2)) ds as->Q (fs.map (·.2)) ds as->kvs=oY C (fs.map (·.1)) ds->P (.ref a) (.dict kvs) as) (Z:Q [] [] []) (Y:∀{v:V}{d:D}{vs:List V}{ds:List D}{as bs:List Addr},P v d as->Q vs ds bs->Q (v::vs) (d::ds) (as++bs)) :
 (∀{v:V}{d:D}{as:List Addr},RT K H v d as->P v d as)/\∀{v:List V}{d:List D}{as:List Addr},RTs K H v d as->Q v d as:=
 ⟨λh=>RT.rec (motive_1:=λv d as _=>P v d as) (motive_2:=λv d as _=>Q v d as) c1 c2 c3 c4 (λh _ q=>c5 h q) (λh _ q=>c7 h q) (λh g=>c8 h g) (λh g r e q=>O h g r q e) Z (λ_ _ a q=>Y a q) h,
  λh=>RTs.rec (motive_1:=λv d as _=>P v d as) (motive_2:=λv d as _=>Q v d as) c1 c2 c3 c4 (λh _ q=>c5 h q) (λh _ q=>c7 h q) (λh g=>c8 h g) (λh g r e q=>O h g r q e) Z (λ_ _ a q=>Y a q) h⟩
theorem RTs.len:∀{v:List V}{d:List D}{as:List Addr},RTs K H v d as->v.length=d.length
 |_,_,_,.nil=>rfl
 |_,_,_,.cons _ q=>by rw[bC,bC,RTs.len q]
theorem RT.ra2{ok:Ok}{pl:Bool}:(∀{v:V}{d:D}{as:List Addr},RT K H v d as->(∀a∈as,ok a)->RA K ok pl H v d)/\∀{v:List V}{d:List D}{as:List Addr},RTs K H v d as->(∀a∈as,ok a)->RAs K ok pl H v d:=
 RT.ind (λ_=>.non) (λb _=>.bl b) (λi _=>.int i) (λx _=>.str x) (λe q h=>.lst e (h _ aN) (q λa ha=>h a (aL _ ha))) (λe q h=>.tup e (q h)) (λe g h=>.dic e g (h _ aN)) (λe g _ q Z h=>.ins e g (q h) Z) (λ_=>.nil) λe q h=>.cons (e λa ha=>h a (cV _ ha)) (q λa ha=>h a (bw _ ha))
theorem RT.ra{ok:Ok}{pl:Bool}{v:V}{d:D}{as:List Addr}(r:RT K H v d as)(h:∀a∈as,ok a):RA K ok pl H v d:=RT.ra2.1 r h
theorem RTs.ra{ok:Ok}{pl:Bool}{v:List V}{d:List D}{as:List Addr}(r:RTs K H v d as)(h:∀a∈as,ok a):RAs K ok pl H v d:=RT.ra2.2 r h
theorem RT.same2(s:Same H H'):(∀{v:V}{d:D}{as:List Addr},RT K H v d as->RT K H' v d as)/\∀{v:List V}{d:List D}{as:List Addr},RTs K H v d as->RTs K H' v d as:=
 RT.ind .non .bl .int .str (λe q=>.lst (s _ _ e) q) (λe q=>.tup (lF.same s e) q) (λe g=>.dic (s _ _ e) (g.same s)) (λe g _ q Z=>.ins (s _ _ e) (s _ _ g) q Z) .nil .cons
theorem RT.same(s:Same H H'){v:V}{d:D}{as:List Addr}(h:RT K H v d as):RT K H' v d as:=(RT.same2 s).1 h
theorem RTs.same(s:Same H H'){v:List V}{d:List D}{as:List Addr}(h:RTs K H v d as):RTs K H' v d as:=(RT.same2 s).2 h
theorem RT.upd2{a:Addr}{u o:HO}[O:Chg u](h:H a=some u):(∀{v:V}{d:D}{as:List Addr},RT K H v d as->a∉as->RT K (upd H a o) v d as)/\∀{v:List V}{d:List D}{as:List Addr},RTs K H v d as->a∉as->RTs K (upd H a o) v d as:=
 RT.ind (λ_=>.non) (λb _=>.bl b) (λi _=>.int i) (λx _=>.str x) (λe q Z=>.lst (by rwa[bW (λz=>Z (by rw[<-z];exact aN))]) (q λz=>Z (aL _ z))) (λe q Z=>.tup (lF.upd h e) (q Z)) (λe g Z=>.dic (by rwa[bW (λz=>Z (by rw[<-z];exact aN))]) (g.upd h)) (λe g _ q Y Z=>.ins (by rwa[bW (jH e h (by intro z;subst z;exact O.ins))]) (by rwa[bW (jH g h (by intro z;subst z;exact O.own))]) (q Z) Y) (λ_=>.nil) λe q Z=>.cons (e λz=>Z (cV _ z)) (q λz=>Z (bw _ z))
theorem RT.upd{a:Addr}{u o:HO}[Y:Chg u](h:H a=some u){v:V}{d:D}{as:List Addr}(O:a∉as)(r:RT K H v d as):RT K (upd H a o) v d as:=(RT.upd2 h).1 r O
theorem RTs.upd{a:Addr}{u o:HO}[Y:Chg u](h:H a=some u){v:List V}{d:List D}{as:List Addr}(O:a∉as)(r:RTs K H v d as):RTs K (upd H a o) v d as:=(RT.upd2 h).2 r O
theorem RT.chd2:(∀{v:V}{d:D}{as:List Addr},RT K H v d as->∀a∈as,Chd (H a))/\∀{v:List V}{d:List D}{as:List Addr},RTs K H v d as->∀a∈as,Chd (H a):=
 RT.ind (λ_ h=>by cases h) (λ_ _ h=>by cases h) (λ_ _ h=>by cases h) (λ_ _ h=>by cases h) (λe q a h=>by
  rcases bI.mp h with rfl|z
  ·exact⟨_,e,inferInstance⟩
  ·exact q a z) (λ_ q=>q) (λe g a h=>by rw[cg.mp h];exact⟨_,e,g.chg⟩) (λ_ _ _ q _=>q) (λ_ h=>by cases h) λe q a h=>by
  rcases cJ.mp h with z|z
  ·exact e a z
  ·exact q a z
theorem RT.chd{v:V}{d:D}{as:List Addr}(r:RT K H v d as):∀a∈as,Chd (H a):=RT.chd2.1 r
theorem RTs.chd{v:List V}{d:List D}{as:List Addr}(r:RTs K H v d as):∀a∈as,Chd (H a):=RT.chd2.2 r
theorem RT.tracked{v:V}{d:D}{as:List Addr}(h:RT K H v d as)(a:Addr)(ha:a∈as):H a≠none:=(h.chd a ha).ne
theorem RTs.tracked{v:List V}{d:List D}{as:List Addr}(h:RTs K H v d as)(a:Addr)(ha:a∈as):H a≠none:=(h.chd a ha).ne
theorem RA.rt2{ok:Ok}:(∀{v:V}{d:D},RA K ok false H v d->∃as,RT K H v d as/\as.length=nl d/\∀a∈as,ok a)/\∀{v:List V}{d:List D},RAs K ok false H v d->∃as,RTs K H v d as/\as.length=nls d/\∀a∈as,ok a:=
 RA.ind ⟨[],.non,rfl,λ_ h=>by cases h⟩ (λb=>⟨[],.bl b,rfl,λ_ h=>by cases h⟩) (λi=>⟨[],.int i,rfl,λ_ h=>by cases h⟩) (λx=>⟨[],.str x,rfl,λ_ h=>by cases h⟩) (λe k q=>by
  obtain⟨as,h1,h2,h3⟩:=q;refine⟨_::as,.lst e h1,by rw[bC,h2,nl],λa ha=>?_⟩;rcases bI.mp ha with rfl|z
  ·exact k
  ·exact h3 a z) (λ_ k _=>by cases k) (λe q=>by
  obtain⟨as,h1,h2,h3⟩:=q;exact⟨as,.tup e h1,by rw[h2,nl],h3⟩) (λe g k=>⟨[_],.dic e g,by rw[nl,g.isI];rfl,λa ha=>by rwa[cg.mp ha]⟩) (λ_ _ k=>by cases k) (λ{a C dx fs ds kvs} e g q Z=>by
  obtain⟨as,h1,h2,h3⟩:=q;have hl:(fs.map (·.1)).length=ds.length:=by rw[<-RTs.len h1,aG,aG]
  exact⟨as,.ins e g h1 Z,by rw[h2,Z,nl];show _=nl (.tuple [.int (C:Int)])+nlk (rW _ _);rw[O8 hl];simp[nl,nls],h3⟩) ⟨[],.nil,rfl,λ_ h=>by cases h⟩ λe q=>by
  obtain⟨as,h1,h2,h3⟩:=e;obtain⟨bs,g1,g2,g3⟩:=q;refine⟨as++bs,.cons h1 g1,by rw[bH,h2,g2,nls],λa ha=>?_⟩;rcases cJ.mp ha with z|z
  ·exact h3 a z
  ·exact g3 a z
theorem RA.rt{ok:Ok}{v:V}{d:D}(h:RA K ok false H v d):∃as,RT K H v d as/\as.length=nl d/\∀a∈as,ok a:=RA.rt2.1 h
end
def tabs:List (Addr×Str×Pos):=[]
def Tb(H:Hp):Prop:=∀t∈tabs,H t.1=some (.tbl t.2.1 t.2.2)
theorem Tb.same{H H':Hp}(t:Tb H)(s:Same H H'):Tb H':=λx hx=>s _ _ (t x hx)
structure Gh where
 H0:Hp
 HF:Hp
 pk:Nat->Option Addr
 pn:Nat->List Addr
 tb:Tb H0
 fv:Nat->Option V
structure Ow where
 s:Nat->Option Addr
 n:Nat->List Addr:=λ_=>[]
instance:CoeFun Ow (λ_=>Nat->Option Addr):=⟨Ow.s⟩
abbrev ow0:Ow:=⟨λ_=>none,λ_=>[]⟩
noncomputable def okA(ow:Ow):Ok:=λa=>(∀i,ow i≠some a)/\∀i,a∉ow.n i
structure Rel(K:PySem.W.Frag)(fl:List Fl)(G:Gh)(ow:Ow)(σ:St)(H:Hp)(δ:DS):Prop where
 s0:Same G.H0 G.HF
 s1:Same G.HF H
 len:σ.length=δ.length
 own:∀i a,ow i=some a->G.H0 a=none/\((fl[i]? = some .O/\G.HF a=none)\/(fl[i]? = some .L/\∃xs,G.HF a=some (.lst xs))) /\
  ∃xs ds,σ[i]? = some (some (.ref a))/\H a=some (.lst xs)/\RAs K (okA ow) true H xs ds/\δ[i]? = some (some (.d (.list ds)))
 inj:∀i j a,ow i=some a->ow j=some a->i=j
 pin:∀i,fl[i]? = some .L->ow i=G.pk i
 dat:∀i d,δ[i]? = some (some (.d d))->isN fl[i]? = false->ow i=none->∃v,σ[i]? = some (some v)/\RA K (okA ow) true H v d
 oo:∀i d,δ[i]? = some (some (.d d))->isN fl[i]? = false->fl[i]? ≠ some .A->ow i=none->flat d=true
 nt:∀i a,a∈ow.n i->G.H0 a=none/\Chd (H a)/\(((fl[i]? = some .N\/fl[i]? = some .W)/\G.HF a=none)\/fl[i]? = some .M)
 nd:∀i j a,a∈ow.n i->a∈ow.n j->i=j
 ns:∀i j a,a∈ow.n i->ow j≠some a
 np:∀i,fl[i]? = some .M->ow.n i=G.pn i
 nr:∀i d,isN fl[i]? = true->δ[i]? = some (some (.d d))->∃v,σ[i]? = some (some v)/\RT K H v d (ow.n i)/\(ow.n i).Nodup
 fx:∀i v,fl[i]? = some .W->G.fv i=some v->σ[i]? = some (some v)
theorem Rel.tb{K:PySem.W.Frag}{fl:List Fl}{G:Gh}{ow:Ow}{σ:St}{H:Hp}{δ:DS}(R:Rel K fl G ow σ H δ):Tb H:=G.tb.same (R.s0.trans R.s1)
theorem Rel.same0{K:PySem.W.Frag}{fl:List Fl}{G:Gh}{ow:Ow}{σ:St}{H:Hp}{δ:DS}(R:Rel K fl G ow σ H δ):Same G.H0 H:=R.s0.trans R.s1
theorem Rel.grow{K:PySem.W.Frag}{fl:List Fl}{G:Gh}{ow:Ow}{σ:St}{H H':Hp}{δ:DS}(R:Rel K fl G ow σ H δ)(e:Same H H'):Rel K fl G ow σ H' δ:=
 ⟨R.s0,R.s1.trans e,R.len,λi a h=>by
  obtain⟨h0,Z,xs,ds,h1,h2,h3,h4⟩:=R.own i a h;exact⟨h0,Z,xs,ds,h1,e _ _ h2,h3.same e,h4⟩,R.inj,R.pin,λi d h1 hn h2=>by
  obtain⟨v,h3,h4⟩:=R.dat i d h1 hn h2;exact⟨v,h3,h4.same e⟩,R.oo,λi a h=>by
  obtain⟨h1,h2,h3⟩:=R.nt i a h;exact⟨h1,(let⟨u,z,c⟩:=h2;⟨u,e _ _ z,c⟩),h3⟩,R.nd,R.ns,R.np,λi d h1 h2=>by
  obtain⟨v,h3,h4,h5⟩:=R.nr i d h1 h2;exact⟨v,h3,h4.same e,h5⟩,R.fx⟩
inductive Kd where
 |P
 |B (L:List Nat)
 |A
 |R
 |F
 |C
 |FC
 |T
noncomputable def ok1:Ok:=λ_=>True
noncomputable def ok0:Ok:=λ_=>False
def okN(H:Hp):Ok:=λa=>H a=none
def Rs(K:PySem.W.Frag)(H0:Hp)(ow:Ow)(Hb H:Hp):Kd->V->D->Prop
 | .P,v,d=>RA K ok1 true H v d
 | .B L,v,d=>RA K (okA ow) true H v d\/∃i∈L,∃a xs ds,ow i=some a/\v = .ref a/\d = .list ds/\H a=some (.lst xs)/\RAs K (okA ow) true H xs ds
 | .A,v,d=>RA K (okA ow) true H v d
 | .R,v,d=>RA K (okN H0) false H v d
 | .F,v,d=>(flat d=true/\RA K ok0 false H v d)\/∃a xs ds,v = .ref a/\d = .list ds/\Hb a=none/\H a=some (.lst xs)/\RAs K (λb=>okA ow b/\b≠a) true H xs ds
 | .C,v,d=>RA K (okN Hb) false H v d
 | .T,v,d=>∃as,RT K H v d as/\as.Nodup/\∀a∈as,Hb a=none
 | .FC,v,d=>(flat d=true/\RA K ok0 false H v d)\/∃a xs ds,v = .ref a/\d = .list ds/\Hb a=none/\H a=some (.lst xs)/\RAs K (λb=>okN Hb b/\b≠a) false H xs ds
section
variable{K:PySem.W.Frag}{Hb H H':Hp}{fl:List Fl}{G:Gh}{ow:Ow}{σ:St}{δ:DS}{v:V}{d:D}
theorem CK(R:Rel K fl G ow σ Hb δ){a:Addr}(h:Hb a=none):okA ow a:=⟨λi e=>(by
 obtain⟨_,_,xs,_,_,h2,_⟩:=R.own i a e;rw[h]at h2
 cases h2),λi e=>(R.nt i a e).2.1.ne h⟩
theorem Z7(R:Rel K fl G ow σ Hb δ){a:Addr}(h:Hb a=none):okN G.H0 a:=R.same0.free h
theorem Rs.FC_F(R:Rel K fl G ow σ Hb δ)(h:Rs K G.H0 ow Hb H .FC v d):Rs K G.H0 ow Hb H .F v d:=by
 rcases h with h|⟨a,xs,ds,h1,h2,h3,h4,h5⟩
 ·exact .inl h
 ·exact .inr ⟨a,xs,ds,h1,h2,h3,h4,h5.imp (λb z=>⟨CK R z.1,z.2⟩) (λ_=>rfl)⟩
theorem Rs.FC_C(h:Rs K G.H0 ow Hb H .FC v d):Rs K G.H0 ow Hb H .C v d:=by
 rcases h with h|⟨a,xs,ds,rfl,rfl,h3,h4,h5⟩
 ·exact RA.flat h.1 h.2
 ·exact .lst h4 h3 (h5.imp (λb z=>z.1) (λz=>z))
theorem Rs.F_A(R:Rel K fl G ow σ Hb δ)(h:Rs K G.H0 ow Hb H .F v d):Rs K G.H0 ow Hb H .A v d:=by
 rcases h with h|⟨a,xs,ds,rfl,rfl,h3,h4,h5⟩
 ·exact RA.flat h.1 h.2
 ·exact .lst h4 (CK R h3) (h5.imp (λb z=>z.1) (λz=>z))
theorem Rs.C_A(R:Rel K fl G ow σ Hb δ)(h:Rs K G.H0 ow Hb H .C v d):Rs K G.H0 ow Hb H .A v d:=RA.imp (λ_ z=>CK R z) (λ_=>rfl) h
theorem Rs.C_R(R:Rel K fl G ow σ Hb δ)(h:Rs K G.H0 ow Hb H .C v d):Rs K G.H0 ow Hb H .R v d:=RA.imp (λ_ z=>Z7 R z) (λz=>z) h
theorem Rs.A_B(L:List Nat)(h:Rs K G.H0 ow Hb H .A v d):Rs K G.H0 ow Hb H (.B L) v d:=.inl h
theorem Rs.B_P{L:List Nat}(h:Rs K G.H0 ow Hb H (.B L) v d):Rs K G.H0 ow Hb H .P v d:=by
 rcases h with h|⟨i,_,a,xs,ds,_,rfl,rfl,h4,h5⟩
 ·exact RA.imp (λ_ _=>trivial) (λz=>z) h
 ·exact .lst h4 trivial (h5.imp (λ_ _=>trivial) (λz=>z))
theorem Rs.P_flat(O:flat d=true)(h:Rs K G.H0 ow Hb H .P v d):Rs K G.H0 ow Hb H .FC v d:=.inl ⟨O,RA.flat O h⟩
theorem Rs.C_fl1(O:fl1 d=true)(h:Rs K G.H0 ow Hb H .C v d):Rs K G.H0 ow Hb H .FC v d:=by
 by_cases e:∃ds,d = .list ds
 ·obtain⟨ds,rfl⟩:=e
  cases h with
  |lst e k q=>exact .inr ⟨_,_,_,rfl,rfl,k,e,RAs.flat O q⟩
  |lsk e k q=>cases k
 ·have Z:flat d=true:=by
   cases d<;>first|exact O|exact absurd ⟨_,rfl⟩ e
  exact .inl ⟨Z,RA.flat Z h⟩
theorem Rs.F_fl1(O:fl1 d=true)(h:Rs K G.H0 ow Hb H .F v d):Rs K G.H0 ow Hb H .FC v d:=by
 rcases h with h|⟨a,xs,ds,h1,h2,h3,h4,h5⟩
 ·exact .inl h
 ·subst h2;exact .inr ⟨a,xs,ds,h1,rfl,h3,h4,RAs.flat O h5⟩
end
noncomputable def tD(K:PySem.W.Frag)(fl:List Fl)(k:Kd)(f:FE):TE:=λσ H Q=>∃G ow δ d,Rel K fl G ow σ H δ/\f δ=some d/\∀v H',Same H H'->Rs K G.H0 ow H H' k v d->Q v H'
abbrev DE(X:Cx)(fl:List Fl)(k:Kd)(e:Expr)(f:FE):Prop:=PE X e (tD X.K fl k f)
def tDA(K:PySem.W.Frag)(fl:List Fl)(f:FA):TA:=λσ H Q=>∃G ow δ ds,Rel K fl G ow σ H δ/\f δ=some ds/\∀vs H',Same H H'->RAs K ok1 true H' vs ds->Q vs H'
abbrev DA(X:Cx)(fl:List Fl)(es:List Expr)(f:FA):Prop:=PA X es (tDA X.K fl f)
def tDT(K:PySem.W.Frag)(fl:List Fl)(f:FT):TT:=λσ H Q=>∃G ow δ b,Rel K fl G ow σ H δ/\f δ=some b/\∀H',Same H H'->Q b H'
abbrev DT(X:Cx)(fl:List Fl)(e:Expr)(f:FT):Prop:=PT X e (tDT X.K fl f)
abbrev DW(X:Cx)(fl:List Fl)(e:Expr)(f:FT):Prop:=PW X e (tDT X.K fl f)
def zy(K:PySem.W.Frag)(fl:List Fl)(G:Gh)(O:Ends):Oc->Prop
 | .nx Z=>∀Y σ' H',Rel K fl G Y σ' H' Z->O.nx σ' H'
 | .rt d=>∀v H',Same G.H0 H'->RA K (okN G.H0) false H' v d->O.rt v H'
 | .bk Z=>∀Y σ' H',Rel K fl G Y σ' H' Z->O.bk σ' H'
 | .ct Z=>∀Y σ' H',Rel K fl G Y σ' H' Z->O.ct σ' H'
 | .ex _ _ d=>∀v H',Same G.H0 H'->RA K ok1 true H' v d->O.rt v H'
def tDS(K:PySem.W.Frag)(fl:List Fl)(f:FS):TS:=λZ σ H=>∃G ow δ o,Rel K fl G ow σ H δ/\f δ=some o/\zy K fl G Z o
abbrev DS1(X:Cx)(fl:List Fl)(s:cm)(f:FS):Prop:=PS X s (tDS X.K fl f)
abbrev DSs(X:Cx)(fl:List Fl)(s:List cm)(f:FS):Prop:=PSs X s (tDS X.K fl f)
def tDG(K:PySem.W.Frag)(fl:List Fl)(tg:List Nat)(g:FG):TG:=λv σ H Q=>∃G ow δ d Z,Rel K fl G ow σ H δ/\RA K (okA ow) true H v d/\g d δ=some Z/\∀σ',Rel K fl G ow σ' H Z->(∀j,j∉tg->σ'[j]? = σ[j]?)->Q σ' H
abbrev DG(X:Cx)(fl:List Fl)(tg:List Nat)(e:Expr)(g:FG):Prop:=PG X e (tDG X.K fl tg g)
section
variable{X:Cx}{e:Expr}{es:List Expr}{st:cm}{sts:List cm}
theorem PE.imp{t t':TE}(h:PE X e t)(i:∀σ H Q,t' σ H Q->t σ H Q):PE X e t':=λpins s σ H Q I q=>h pins s σ H Q I (i σ H Q q)
theorem PT.imp{t t':TT}(h:PT X e t)(i:∀σ H Q,t' σ H Q->t σ H Q):PT X e t':=λpins s σ H Q I q=>h pins s σ H Q I (i σ H Q q)
theorem PW.imp{t t':TT}(h:PW X e t)(i:∀σ H Q,t' σ H Q->t σ H Q):PW X e t':=λw pins s σ H Q I q=>h w pins s σ H Q I (i σ H Q q)
theorem PA.imp{t t':TA}(h:PA X es t)(i:∀σ H Q,t' σ H Q->t σ H Q):PA X es t':=λp pins s σ H Q I q=>h p pins s σ H Q I (i σ H Q q)
theorem PS.imp{t t':TS}(h:PS X st t)(i:∀D σ H,t' D σ H->t D σ H):PS X st t':=λpins s σ H D I q=>h pins s σ H D I (i D σ H q)
theorem PSs.imp{t t':TS}(h:PSs X sts t)(i:∀D σ H,t' D σ H->t D σ H):PSs X sts t':=λpins s σ H D I q=>h pins s σ H D I (i D σ H q)
theorem PG.imp{t t':TG}(h:PG X e t)(i:∀v σ H Q,t' v σ H Q->t v σ H Q):PG X e t':=λpins s σ H v u Q I r q=>h pins s σ H v u Q I r (i v σ H Q q)
end
end D3
namespace D3
open L2 My
section
variable{X:Cx}{fl:List Fl}{e a b c:Expr}{es:List Expr}{k:Kd}{f fa fb fc:FE}{pos:Pos}
theorem lK{i:Nat}{δ:DS}{d:D}(h:aj i δ=some d):δ[i]? = some (some (.d d)):=by
 unfold aj at h;split at h
 ·next x e=>rw[e];cases h;rfl
 ·cases h
theorem su(i:Nat){x:Str}(hN:X.N[i]? = some x:=by rfl)(O:Vis X.env.scope x:=by first|exact Or.inl rfl|exact Or.inr (Or.inl rfl)|exact Or.inr (Or.inr rfl))(hd:(x==("__debug__":Str))=false:=by decide)
 (hcd:(x==("__classdict__":Str))=false:=by decide) (hn:isN fl[i]? = false:=by rfl):DE X fl (.B [i]) (.Name x pos) (aj i):=by
 refine PE.imp (nA hN O hd hcd) λσ H Q h=>?_
 refine cW h λG ow δ d R Y q=>?_
 have e:=lK Y
 cases Z:ow i with
 |none=>
  obtain⟨v,h1,h2⟩:=R.dat i d e hn Z;exact⟨v,h1,q v H (Same.refl H) (.inl h2)⟩
 |some a=>
  obtain⟨h0,_,xs,ds,h1,h2,h3,h4⟩:=R.own i a Z;rw[e]at h4
  cases h4;exact⟨_,h1,q _ H (Same.refl H) (.inr ⟨i,cg.mpr rfl,a,xs,ds,Z,rfl,rfl,h2,h3⟩)⟩
theorem CN(i:Nat)(O:fl[i]? = some .A){x:Str}(hN:X.N[i]? = some x:=by rfl)(hv:Vis X.env.scope x:=by first|exact Or.inl rfl|exact Or.inr (Or.inl rfl)|exact Or.inr (Or.inr rfl))(hd:(x==("__debug__":Str))=false:=by decide)
 (hcd:(x==("__classdict__":Str))=false:=by decide):DE X fl .A (.Name x pos) (aj i):=by
 refine PE.imp (nA hN hv hd hcd) λσ H Q h=>?_
 refine cW h λG ow δ d R W q=>?_
 have e:=lK W
 cases Y:ow i with
 |none=>
  obtain⟨v,h1,h2⟩:=R.dat i d e (by rw[O];rfl) Y;exact⟨v,h1,q v H (Same.refl H) h2⟩
 |some a=>
  obtain⟨h0,Z,_⟩:=R.own i a Y;rw[O]at Z;rcases Z with⟨z,_⟩|⟨z,_⟩<;>cases z
theorem vI(i:Nat)(O:fl[i]? ≠ some .A){x:Str}(hN:X.N[i]? = some x:=by rfl)(hv:Vis X.env.scope x:=by first|exact Or.inl rfl|exact Or.inr (Or.inl rfl)|exact Or.inr (Or.inr rfl))(hd:(x==("__debug__":Str))=false:=by decide)
 (hcd:(x==("__classdict__":Str))=false:=by decide) (hn:isN fl[i]? = false:=by rfl):DE X fl .R (.Name x pos) (rM (aj i)):=by
 refine PE.imp (nA hN hv hd hcd) λσ H Q h=>?_
 refine cW h λG ow δ d R Z q=>?_
 unfold rM at Z
 cases Y:aj i δ with
 |none=>rw[Y]at Z;cases Z
 |some V=>
  rw[Y,aH]at Z;by_cases hc:fl1 V=true
  ·rw[if_pos hc]at Z
   cases Z;have e:=lK Y
   cases W:ow i with
   |none=>
    obtain⟨v,h1,h2⟩:=R.dat i d e hn W;exact⟨v,h1,q v H (Same.refl H) (RA.flat (R.oo i d e hn O W) h2)⟩
   |some a=>
    obtain⟨h0,_,xs,ds,h1,h2,h3,h4⟩:=R.own i a W;rw[e]at h4
    cases h4;exact⟨_,h1,q _ H (Same.refl H) (.lst h2 h0 (RAs.flat hc h3))⟩
  ·rw[if_neg hc]at Z
   cases Z
theorem qx{k O:Kd}(h:DE X fl k e f)(hc:∀(Hb H:Hp) (G:Gh) (ow:Ow) (σ:St) (δ:DS) (v:V) (d:D),Rel X.K fl G ow σ Hb δ->Rs X.K G.H0 ow Hb H k v d->Rs X.K G.H0 ow Hb H O v d):DE X fl O e f:=by
 refine PE.imp h λσ H Q h=>?_
 refine cW h λG ow δ d R Z q=>?_
 exact⟨G,ow,δ,d,R,Z,λv H' s r=>q v H' s (hc _ _ G ow σ δ v d R r)⟩
theorem vJ{k O:Kd}{p:D->Bool}(h:DE X fl k e f)(hc:∀(Hb H:Hp) (G:Gh) (ow:Ow) (σ:St) (δ:DS) (v:V) (d:D),p d=true->Rel X.K fl G ow σ Hb δ->Rs X.K G.H0 ow Hb H k v d->Rs X.K G.H0 ow Hb H O v d):
 DE X fl O e (λδ=>(f δ).bind λd=>if p d=true then some d else none):=by
 refine PE.imp h λσ H Q h=>?_
 refine cW h λG ow δ d R Z q=>?_
 dsimp only at Z
 cases Y:f δ with
 |none=>rw[Y]at Z;cases Z
 |some U=>
  rw[Y,aH]at Z;by_cases W:p U=true
  ·rw[if_pos W]at Z
   cases Z;exact⟨G,ow,δ,d,R,Y,λv H' s r=>q v H' s (hc _ _ G ow σ δ v d W R r)⟩
  ·rw[if_neg W]at Z
   cases Z
theorem pF(h:DE X fl .FC e f):DE X fl .F e f:=qx h λ_ _ _ _ _ _ _ _ R r=>r.FC_F R
theorem gP(h:DE X fl .FC e f):DE X fl .C e f:=qx h λ_ _ _ _ _ _ _ _ R r=>r.FC_C
theorem ur(h:DE X fl .F e f):DE X fl .A e f:=qx h λ_ _ _ _ _ _ _ _ R r=>r.F_A R
theorem mF(h:DE X fl .C e f):DE X fl .A e f:=qx h λ_ _ _ _ _ _ _ _ R r=>r.C_A R
theorem uw(h:DE X fl .C e f):DE X fl .R e f:=qx h λ_ _ _ _ _ _ _ _ R r=>r.C_R R
theorem mG(h:DE X fl .A e f):DE X fl (.B []) e f:=qx h λ_ _ _ _ _ _ _ _ R r=>Rs.A_B [] r
theorem Br{L:List Nat}(h:DE X fl (.B L) e f):DE X fl .P e f:=qx h λ_ _ _ _ _ _ _ _ R r=>r.B_P
theorem dH(h:DE X fl .P e f):DE X fl .FC e (bQ f):=vJ h λ_ _ _ _ _ _ _ _ Z R r=>r.P_flat Z
theorem Xi(h:DE X fl .C e f):DE X fl .FC e (rM f):=vJ h λ_ _ _ _ _ _ _ _ Z R r=>r.C_fl1 Z
theorem HX(h:DE X fl .F e f):DE X fl .FC e (rM f):=vJ h λ_ _ _ _ _ _ _ _ Z R r=>r.F_fl1 Z
theorem dR(h:DE X fl .FC e f):DE X fl .A e f:=ur (pF h)
theorem bY(h:DE X fl .FC e f):DE X fl .R e f:=uw (gP h)
theorem cG(h:DE X fl .A e f):DE X fl .P e f:=Br (mG h)
theorem fQ(h:DE X fl .C e f):DE X fl .P e f:=cG (mF h)
theorem aW(h:DE X fl .FC e f):DE X fl .P e f:=cG (dR h)
theorem JX(h:DE X fl .F e f):DE X fl .P e f:=cG (ur h)
theorem wQ{v:V}{d:D}(h:PE X e (tC v))(Y:flat d=true)(O:∀H,RA X.K ok0 false H v d):DE X fl .FC e (dC d):=by
 refine PE.imp h λσ H Q h=>?_
 refine cW h λG ow δ Z R hd q=>?_
 cases hd;exact q v H (Same.refl H) (.inl ⟨Y,O H⟩)
theorem sy{i j pos}:DE X fl .FC (.Constant (.int i) j pos) (dC (.int i)):=wQ Wx rfl λ_=>.int _
theorem zA{b j pos}:DE X fl .FC (.Constant (.bool b) j pos) (dC (.bool b)):=wQ Zu rfl λ_=>.bl _
theorem O9{j pos}:DE X fl .FC (.Constant .none j pos) (dC .none):=wQ Wy rfl λ_=>.non
theorem mL{x j pos}:DE X fl .FC (.Constant (.str x) j pos) (dC (.str x)):=wQ NT rfl λ_=>.str _
theorem qy{x:Str}{i:Int}{pos:Pos}(h:∃t,X.mg x=some (.int i t))(O:Gl X x:=by rfl)(hd:(x==("__debug__":Str))=false:=by decide):DE X fl .FC (.Name x pos) (dC (.int i)):=by
 obtain⟨t,h⟩:=h;exact wQ (JC (v:=.int i) O h ⟨t,rfl⟩ hd) rfl λ_=>.int _
def BrO(K:PySem.W.Frag)(r:R2)(g:D->D->Option D):Prop:=∀(H:Hp)(x y:V)(dx Z d:D)(Q:VK),RA K ok1 true H x dx->RA K ok1 true H y Z->g dx Z=some d->(∀v,flat d=true->RA K ok0 false H v d->Q v H)->r x y H Q
theorem zB{fa fb:FE}{g:D->D->Option D}{δ:DS}{d:D}(h:dOp g fa fb δ=some d):∃x y,fa δ=some x/\fb δ=some y/\g x y=some d:=by
 unfold dOp at h
 cases ha:fa δ with
 |none=>rw[ha]at h;cases h
 |some x=>
  rw[ha,aH]at h
  cases hb:fb δ with
  |none=>rw[hb]at h;cases h
  |some y=>
   rw[hb,aH]at h;exact⟨x,y,rfl,rfl,h⟩
theorem bind1{α β:Type}{x:Option α}{g:α->Option β}{d:β}(h:x.bind g=some d):∃y,x=some y/\g y=some d:=by
 cases x with
 |none=>cases h
 |some y=>exact⟨y,rfl,h⟩
theorem bO{α β:Type}{x:Option α}{g:α->Option β}{d:β}{G:Prop}(h:x.bind g=some d)(k:∀y,x=some y->g y=some d->G):G:=ex1 (bind1 h) k
theorem wR{r:R2}{g:D->D->Option D}{σ:St}{H:Hp}{Q:VK}(hb:BrO X.K r g)(h:tD X.K fl .FC (dOp g fa fb) σ H Q):tOp r (tD X.K fl .P fa) (tD X.K fl .P fb) σ H Q:=by
 refine cW h λG ow δ d R U q=>?_
 refine D3.ex2 (zB U) λx y O S T=>?_
 refine⟨G,ow,δ,x,R,O,λv H1 s1 W=>⟨G,ow,δ,y,R.grow s1,S,λu H2 s2 Y=>?_⟩⟩;exact hb H2 v u x y d Q (RA.same s2 W) Y T λz V Z=>q z H2 (s1.trans s2) (.inl ⟨V,Z⟩)
theorem bU{op:Operator}{r:R2}{g:D->D->Option D}(O:OpR X (binaryOp op) r)(hb:BrO X.K r g)(h1:DE X fl .P a fa)(h2:DE X fl .P b fb):DE X fl .FC (.BinOp a op b pos) (dOp g fa fb):=
 PE.imp (JG O h1 h2) λ_ _ _ h=>wR hb h
theorem oK{op:eg}{r:R2}{g:D->D->Option D}(O:OpR X (compareOp op) r)(hb:BrO X.K r g)(h1:DE X fl .P a fa)(h2:DE X fl .P b fb)(hm:behindInMarks op b=false):DE X fl .FC (.Compare a [op] [b] pos) (dOp g fa fb):=
 PE.imp (SJ O h1 h2 hm) λ_ _ _ h=>wR hb h
theorem fB{op:eg}{r:R2}{g:D->D->Option D}(O:OpR X (compareOp op) r)(hb:BrO X.K r g)(h1:DE X fl .P a fa)(h2:DE X fl .P b fb)(hm:behindInMarks op b=false):DT X fl (.Compare a [op] [b] pos) (aY (dOp g fa fb)):=by
 refine PT.imp (SM O h1 h2 hm) λσ H Q h=>?_
 refine cW h λG ow δ c R Y q=>?_
 refine bO Y λd W Z=>?_
 cases d<;>first|(cases Z;done)|skip
 cases Z;refine wR (fl:=fl) (fa:=fa) (fb:=fb) hb ⟨G,ow,δ,_,R,W,λv H' s r=>?_⟩;obtain rfl:=(Rs.FC_C r).blE;exact⟨_,rfl,q H' s⟩
theorem jR(h:DE X fl .P e f)(O:∀whole,isTrue e X.env whole=(do let v <-whole;standAt e.pos;holding [v] (truthy v)):=by intro _;rfl):DT X fl e (aY f):=by
 refine PT.imp (WK h O) λσ H Q h=>?_
 refine cW h λG ow δ c R Y q=>?_
 refine bO Y λd W Z=>?_
 cases d<;>first|(cases Z;done)|skip
 cases Z;refine⟨G,ow,δ,_,R,W,λv H' s r=>?_⟩;obtain rfl:=RA.blE r;exact⟨_,rfl,q H' s⟩
theorem Bt{K:PySem.W.Frag}{h:Int->Int->V}{g:Int->Int->D}(hf:∀i j,flat (g i j)=true)(O:∀H i j,RA K ok0 false H (h i j) (g i j)):BrO K (rI0 h) (gI λi j=>some (g i j)):=by
 intro H x y dx X d Q Y Z e q;unfold gI at e;split at e
 ·next i j=>
  cases e;exact⟨i,j,Y.intE,Z.intE,q _ (hf i j) (O H i j)⟩
 ·cases e
theorem O_{K:PySem.W.Frag}{C:Int->Int->Prop}{h:Int->Int->V}{g:Int->Int->D}{c:Int->Int->Bool}(hc:∀i j,c i j=true->C i j)(hf:∀i j,flat (g i j)=true)(O:∀H i j,RA K ok0 false H (h i j) (g i j)):
 BrO K (rI C h) (gI λi j=>if c i j=true then some (g i j)else none):=by
 intro H x y dx X d Q Y Z e q;unfold gI at e;split at e
 ·next i j=>
  dsimp only at e;by_cases z:c i j=true
  ·rw[if_pos z]at e
   cases e;exact⟨i,j,Y.intE,Z.intE,hc i j z,q _ (hf i j) (O H i j)⟩
  ·rw[if_neg z]at e
   cases e
 ·cases e
end
section
variable{X:Cx}{K:PySem.W.Frag}
theorem Tt{i j:Int}(h:vD i j=true):IntMulOk i j:=by
 unfold vD at h;rw[Bool.or_eq_true,Bool.or_eq_true,aM]at h;rcases h with(h|h)|⟨h1,h2⟩
 ·exact IntMulOk.of_left (PySem.intBits_le_iff.mpr (of_decide_eq_true h))
 ·exact IntMulOk.of_right (PySem.intBits_le_iff.mpr (of_decide_eq_true h))
 ·exact PySem.IntMulOk.of_le (PySem.intBits_le_iff.mpr (of_decide_eq_true h1)) (PySem.intBits_le_iff.mpr (of_decide_eq_true h2)) (by decide)
theorem iR:OpR X (binaryOp .Mult) (rI (λi j=>vD i j=true) λi j=>.int (i*j)):=opI λ_ _ _ _ _ _ _ hc q=>mul_int q (Tt hc)
theorem qz:OpR X (binaryOp .FloorDiv) (rI (λi j=>HN i j=true) λi j=>.int (i.fdiv j)):=opI λi j _ _ _ _ _ hc q=>by
 unfold HN at hc;rw[aM]at hc;have h1:=of_decide_eq_true hc.1;have h2:=of_decide_eq_true hc.2;refine floordiv_int h1 q (.inl (PyProof.noPylong_of_log2 ?_));exact(Nat.log2_lt (by omega)).mpr h2
theorem JZ{i j:Int}(h:Tj i j=true):Og i j:=by
 unfold Tj at h;rw[aM,aM]at h;have h1:=of_decide_eq_true h.1.1;have h2:=of_decide_eq_true h.1.2;exact⟨h1,by omega,of_decide_eq_true h.2⟩
theorem ji:BrO K (rI0 λi j=>.int (i+j)) dW:=Bt (λ_ _=>rfl) λ_ _ _=>.int _
theorem Fx:BrO K (rI0 λi j=>.int (i-j)) pO:=Bt (λ_ _=>rfl) λ_ _ _=>.int _
theorem m7:BrO K (rI (λi j=>vD i j=true) λi j=>.int (i*j)) ig:=O_ (λ_ _ h=>h) (λ_ _=>rfl) λ_ _ _=>.int _
theorem zE:BrO K (rI (λi j=>HN i j=true) λi j=>.int (i.fdiv j)) qw:=O_ (λ_ _ h=>h) (λ_ _=>rfl) λ_ _ _=>.int _
theorem jK:BrO K (rI (λ_ j=>j≠0) λi j=>.int (i.fmod j)) gA:=O_ (λ_ _ h=>of_decide_eq_true h) (λ_ _=>rfl) λ_ _ _=>.int _
theorem Pa:BrO K (rI Og λi j=>.int (i^j.toNat)) Ft:=O_ (λ_ _ h=>JZ h) (λ_ _=>rfl) λ_ _ _=>.int _
theorem V1:BrO K (rI Og λi j=>.int (i*2^j.toNat)) LQ:=O_ (λ_ _ h=>JZ h) (λ_ _=>rfl) λ_ _ _=>.int _
theorem b_lt:BrO K (rI0 λi j=>.bl (decide (i<j))) gLt:=Bt (λ_ _=>rfl) λ_ _ _=>.bl _
theorem vK:BrO K (rI0 λi j=>.bl (decide (i<=j))) gLe:=Bt (λ_ _=>rfl) λ_ _ _=>.bl _
theorem Tv:BrO K (rI0 λi j=>.bl (decide (j<i))) gGt:=Bt (λ_ _=>rfl) λ_ _ _=>.bl _
theorem L_:BrO K (rI0 λi j=>.bl (decide (j<=i))) gGe:=Bt (λ_ _=>rfl) λ_ _ _=>.bl _
theorem vL:BrO K (Z2 K) gEq:=by
 intro H x y dx Z d Q X Y e q;unfold gEq at e;by_cases z:(cq dx&&cq Z)=true
 ·rw[if_pos z]at e
  cases e;rw[aM]at z;exact⟨dx,Z,X.rd (ax z.1),Y.rd (ax z.2),z.1,z.2,q _ rfl (.bl _)⟩
 ·rw[if_neg z]at e
  cases e
theorem Ma:BrO K (Z4 K) gNe:=by
 intro H x y dx Z d Q X Y e q;unfold gNe at e;by_cases z:(cq dx&&cq Z)=true
 ·rw[if_pos z]at e
  cases e;rw[aM]at z;exact⟨dx,Z,X.rd (ax z.1),Y.rd (ax z.2),z.1,z.2,q _ rfl (.bl _)⟩
 ·rw[if_neg z]at e
  cases e
end
end D3
namespace D3
open L2 My
section
variable{X:Cx}{fl:List Fl}{e a b c:Expr}{es:List Expr}{st:cm}{sts body orelse:List cm}{k:Kd}{f fa fb fc:FE}{fs gs:FS}{ft gt:FT}{pos:Pos}
theorem zy.nx_imp{K:PySem.W.Frag}{G:Gh}{Y:Ends}{N:St->Hp->Prop}{o:Oc}(h:zy K fl G Y o)(hn:∀O,o ≠ .nx O):zy K fl G {Y with nx:=N} o:=by
 cases o with
 |nx O=>exact absurd rfl (hn O)
 |rt d=>exact h
 |bk O=>exact h
 |ct O=>exact h
 |ex c f v=>exact h
theorem dY:DSs X fl [] fP:=PSs.imp yx λY σ H h=>by
 refine cW h λG ow δ o R Z q=>?_
 cases Z;exact q ow σ H R
theorem aV(h1:DS1 X fl st fs)(h2:DSs X fl sts gs):DSs X fl (st::sts) (bJ fs gs):=PSs.imp (pN h1 h2) λS σ H h=>by
 refine cW h λG ow δ o R U q=>?_
 refine bO U λV T Z=>?_
 refine⟨G,ow,δ,V,R,T,?_⟩
 cases V with
 |nx Y=>exact λW σ' H' R'=>⟨G,W,Y,o,R',Z,q⟩
 |rt d=>cases Z;exact zy.nx_imp q (λ_ z=>by cases z)
 |bk d=>cases Z;exact zy.nx_imp q (λ_ z=>by cases z)
 |ct d=>cases Z;exact zy.nx_imp q (λ_ z=>by cases z)
 |ex c f v=>cases Z;exact q
theorem aU(h1:DS1 X fl st fs):DSs X fl [st] fs:=PSs.imp (Cm h1) λ_ _ _ h=>h
theorem bZ(h:DE X fl .R e f):DS1 X fl (.Return (some e) pos) (cF f):=PS.imp (N6 h) λV σ H h=>by
 refine cW h λG ow δ o R Z q=>?_
 refine bO Z λd W Y=>?_
 cases Y;exact⟨G,ow,δ,d,R,W,λv H' s r=>q v H' (R.same0.trans s) r⟩
theorem Tw(h:DE X fl .P e f)(hs:swapsWith e none pos.line X.env=pure false:=by rfl):DS1 X fl (.Expr e pos) (Fq f):=PS.imp (yC h hs) λV σ H h=>by
 refine cW h λG ow δ o R Z q=>?_
 refine bO Z λd W Y=>?_
 cases Y;exact⟨G,ow,δ,d,R,W,λv H' s r=>q ow σ H' (R.grow s)⟩
theorem jc(hc:DT X fl c ft)(h1:DSs X fl body fs)(h2:DSs X fl orelse gs):DS1 X fl (.If c body orelse pos) (sIf ft fs gs):=PS.imp (N7 hc h1 h2) λV σ H h=>by
 refine cW h λG ow δ o R Y q=>?_
 refine bO Y λt W Z=>?_
 refine⟨G,ow,δ,t,R,W,λH' s=>?_⟩
 cases t with
 |true=>exact Cy ⟨G,ow,δ,o,R.grow s,Z,q⟩
 |false=>exact Cw ⟨G,ow,δ,o,R.grow s,Z,q⟩
theorem gC{α:Type}{l:List (Option α)}{i j:Nat}{x y:α}(h:(l.set i (some x))[j]? = some (some y)):(j=i/\x=y)\/(j≠i/\l[j]? = some (some y)):=by
 rw[vg]at h;by_cases e:i=j
 ·subst e;rw[if_pos rfl]at h;by_cases z:i<l.length
  ·rw[if_pos z]at h
   cases h;exact .inl ⟨rfl,rfl⟩
  ·rw[if_neg z]at h
   cases h
 ·rw[if_neg e]at h;exact .inr ⟨λz=>e z.symm,h⟩
theorem Rel.setA{K:PySem.W.Frag}{G:Gh}{ow:Ow}{σ:St}{H:Hp}{δ:DS}{i:Nat}{v:V}{d:D}(R:Rel K fl G ow σ H δ)(O:fl[i]? = some .A)(hi:i<σ.length)(r:RA K (okA ow) true H v d):
 Rel K fl G ow (σ.set i (some v)) H (δ.set i (some (.d d))):=by
 have no:∀a,ow i≠some a:=λa z=>by
  obtain⟨_,U,_⟩:=R.own i a z;rw[O]at U;rcases U with⟨z,_⟩|⟨z,_⟩<;>cases z
 refine⟨R.s0,R.s1,by rw[bT,bT];exact R.len,λj a h=>?_,R.inj,R.pin,λj Y h1 hn h2=>?_,λj Y h1 hn h2 h3=>?_,R.nt,R.nd,R.ns,R.np,λj Y hn h1=>?_,λj u h e=>by rw[aJ (λz=>by subst z;rw[O]at h;cases h)];exact R.fx j u h e⟩
 ·have Z:j≠i:=λz=>no a (z▸h)
  obtain⟨h0,T,xs,ds,h1,h2,h3,h4⟩:=R.own j a h;exact⟨h0,T,xs,ds,by rwa[aJ (ce Z)],h2,h3,by rwa[aJ (ce Z)]⟩
 ·rcases gC h1 with⟨rfl,e⟩|⟨Z,e⟩
  ·cases e;exact⟨v,by rw[bV hi],r⟩
  ·obtain⟨X,h3,h4⟩:=R.dat j Y e hn h2;exact⟨X,by rwa[aJ (ce Z)],h4⟩
 ·rcases gC h1 with⟨rfl,e⟩|⟨Z,e⟩
  ·exact absurd O h2
  ·exact R.oo j Y e hn h2 h3
 ·rcases gC h1 with⟨rfl,e⟩|⟨Z,e⟩
  ·rw[O]at hn;cases hn
  ·obtain⟨X,h3,h4⟩:=R.nr j Y hn e;exact⟨X,by rwa[aJ (ce Z)],h4⟩
def xT(ow:Ow)(i:Nat)(a:Option Addr):Ow:=⟨λj=>if j=i then a else ow j,ow.n⟩
theorem jw{ow:Ow}{i:Nat}{a:Option Addr}:xT ow i a i=a:=if_pos rfl
theorem gb{ow:Ow}{i j:Nat}{a:Option Addr}(h:j≠i):xT ow i a j=ow j:=if_neg h
theorem Rel.setO{K:PySem.W.Frag}{G:Gh}{ow:Ow}{σ:St}{H H':Hp}{δ:DS}{i:Nat}{v:V}{d:D}(R:Rel K fl G ow σ H δ)(s:Same H H')(hfl:fl[i]? = some .O)(hi:i<σ.length)(r:Rs K G.H0 ow H H' .F v d):
 ∃ow',Rel K fl G ow' (σ.set i (some v)) H' (δ.set i (some (.d d))):=by
 have R':=R.grow s;have T:∀b,okA ow b->okA (xT ow i none) b:=λb z=>⟨λj e=>by
  by_cases Z:j=i
  ·subst Z;rw[jw]at e;cases e
  ·rw[gb Z]at e;exact z.1 j e,z.2⟩
 have Q:∀j X,isN fl[j]? = true->(δ.set i (some (.d d)))[j]? = some (some (.d X))->∃U,(σ.set i (some v))[j]? = some (some U)/\RT K H' U X (ow.n j)/\(ow.n j).Nodup:=λj X hn h1=>by
  rcases gC h1 with⟨rfl,e⟩|⟨Z,e⟩
  ·rw[hfl]at hn;cases hn
  ·obtain⟨U,h3,h4⟩:=R'.nr j X hn e;exact⟨U,by rwa[aJ (ce Z)],h4⟩
 rcases r with⟨P,r⟩|⟨a,xs,ds,rfl,rfl,ha,hx,L⟩
 ·refine⟨xT ow i none,R'.s0,R'.s1,by rw[bT,bT];exact R.len,λj a h=>?_,λj j' a h h'=>?_,λj h=>?_,λj X h1 hn h2=>?_,λj X h1 hn h2 h3=>?_,R'.nt,R'.nd,λj j' a h h'=>?_,R'.np,Q,λj u h e=>by rw[aJ (λz=>by subst z;rw[hfl]at h;cases h)];exact R.fx j u h e⟩
  ·have Z:j≠i:=λz=>by subst z;rw[jw]at h;cases h
   rw[gb Z]at h;obtain⟨h0,N,xs,ds,h1,h2,h3,h4⟩:=R'.own j a h;exact⟨h0,N,xs,ds,by rwa[aJ (ce Z)],h2,h3.imp T (λz=>z),by rw[aJ (ce Z)];exact h4⟩
  ·have Z:j≠i:=λz=>by subst z;rw[jw]at h;cases h
   have Y:j'≠i:=λz=>by subst z;rw[jw]at h';cases h'
   rw[gb Z]at h;rw[gb Y]at h';exact R.inj j j' a h h'
  ·have Z:j≠i:=λz=>by subst z;rw[hfl]at h;cases h
   rw[gb Z];exact R.pin j h
  ·rcases gC h1 with⟨rfl,e⟩|⟨Z,e⟩
   ·cases e;exact⟨v,by rw[bV hi],RA.flat P r⟩
   ·rw[gb Z]at h2;obtain⟨U,h3,h4⟩:=R'.dat j X e hn h2;exact⟨U,by rw[aJ (ce Z)];exact h3,h4.imp T (λz=>z)⟩
  ·rcases gC h1 with⟨rfl,e⟩|⟨Z,e⟩
   ·cases e;exact P
   ·rw[gb Z]at h3;exact R.oo j X e hn h2 h3
  ·by_cases Z:j'=i
   ·subst Z;rw[jw]at h';cases h'
   ·rw[gb Z]at h';exact R.ns j j' a h h'
 ·have sub:∀b,okA ow b/\b≠a->okA (xT ow i (some a)) b:=λb z=>⟨λj e=>by
   by_cases Z:j=i
   ·subst Z;rw[jw]at e;exact z.2 (dB.inj e).symm
   ·rw[gb Z]at e;exact z.1.1 j e,z.1.2⟩
  have old:∀{v:V}{d:D},RA K (okA ow) true H v d->RA K (okA (xT ow i (some a))) true H' v d:=λr=>(r.track.imp (λb z=>sub b ⟨z.1,λe=>z.2 (e▸ha)⟩) (λz=>z)).same s
  have olds:∀{v:List V}{d:List D},RAs K (okA ow) true H v d->RAs K (okA (xT ow i (some a))) true H' v d:=λr=>(r.track.imp (λb z=>sub b ⟨z.1,λe=>z.2 (e▸ha)⟩) (λz=>z)).same s
  have S:∀j,ow j≠some a:=λj z=>by
   obtain⟨_,_,_,_,_,h2,_⟩:=R.own j a z;rw[ha]at h2
   cases h2
  have J:G.HF a=none:=R.s1.free ha;refine⟨xT ow i (some a),R'.s0,R'.s1,by rw[bT,bT];exact R.len,λj b h=>?_,λj j' b h h'=>?_,λj h=>?_,λj X h1 hn h2=>?_,λj X h1 hn h2 h3=>?_,R'.nt,R'.nd,λj j' b h h'=>?_,R'.np,Q,λj u h e=>by rw[aJ (λz=>by subst z;rw[hfl]at h;cases h)];exact R.fx j u h e⟩
  ·by_cases Z:j=i
   ·subst Z;rw[jw]at h
    cases h;exact⟨R.same0.free ha,.inl ⟨hfl,J⟩,xs,ds,by rw[bV hi],hx,L.imp sub (λz=>z),by rw[bV (by rw[<-R.len];exact hi)]⟩
   ·rw[gb Z]at h;obtain⟨h0,N,ys,M,h1,h2,h3,h4⟩:=R.own j b h;exact⟨h0,N,ys,M,by rw[aJ (ce Z)];exact h1,s _ _ h2,olds h3,by rw[aJ (ce Z)];exact h4⟩
  ·by_cases Z:j=i
   ·by_cases Y:j'=i
    ·rw[Z,Y]
    ·subst Z;rw[jw]at h
     cases h;rw[gb Y]at h';exact absurd h' (S j')
   ·rw[gb Z]at h;by_cases Y:j'=i
    ·subst Y;rw[jw]at h'
     cases h';exact absurd h (S j)
    ·rw[gb Y]at h';exact R.inj j j' b h h'
  ·have Z:j≠i:=λz=>by subst z;rw[hfl]at h;cases h
   rw[gb Z];exact R.pin j h
  ·rcases gC h1 with⟨rfl,e⟩|⟨Z,e⟩
   ·rw[jw]at h2;cases h2
   ·rw[gb Z]at h2;obtain⟨U,h3,h4⟩:=R.dat j X e hn h2;exact⟨U,by rw[aJ (ce Z)];exact h3,old h4⟩
  ·rcases gC h1 with⟨rfl,e⟩|⟨Z,e⟩
   ·rw[jw]at h3;cases h3
   ·rw[gb Z]at h3;exact R.oo j X e hn h2 h3
  ·by_cases Z:j'=i
   ·subst Z;rw[jw]at h'
    cases h';exact(R.nt j a h).2.1.ne ha
   ·rw[gb Z]at h';exact R.ns j j' b h h'
theorem Rel.mut{K:PySem.W.Frag}{G:Gh}{ow:Ow}{σ:St}{H:Hp}{δ:DS}{i:Nat}{a:Addr}{ys:List V}{ds:List D}(R:Rel K fl G ow σ H δ)(hfl:fl[i]? = some .O)(Y:ow i=some a)(r:RAs K (okA ow) true H ys ds):
 Rel K fl G ow σ (upd H a (.lst ys)) (δ.set i (some (.d (.list ds)))):=by
 obtain⟨h0,M,xs,I,J,U,F,e4⟩:=R.own i a Y;have S:¬okA ow a:=λz=>z.1 i Y
 have L:G.HF a=none:=by
  rcases M with⟨_,z⟩|⟨z,_⟩
  ·exact z
  ·rw[hfl]at z;cases z
 have hi:i<δ.length:=by
  rcases lG i δ.length with z|z
  ·exact z
  ·rw[bL z]at e4;cases e4
 refine⟨R.s0,λb o hb=>?_,by rw[bT];exact R.len,λj b h=>?_,R.inj,R.pin,λj X h1 hn h2=>?_,λj X h1 hn h2 h3=>?_,λj b h=>?_,R.nd,R.ns,R.np,λj X hn h1=>?_,R.fx⟩
 ·rw[bW (λz=>by subst z;rw[L]at hb;cases hb)];exact R.s1 b o hb
 ·by_cases Z:j=i
  ·subst Z;rw[Y]at h
   cases h;exact⟨h0,M,ys,ds,J,cM,r.upd U S,by rw[bV hi]⟩
  ·obtain⟨P,Q,zs,N,h1,h2,h3,h4⟩:=R.own j b h;have hb:b≠a:=λz=>Z (R.inj j i a (z▸h) Y)
   exact⟨P,Q,zs,N,h1,by rwa[bW hb],h3.upd U S,by rwa[aJ (ce Z)]⟩
 ·rcases gC h1 with⟨rfl,e⟩|⟨Z,e⟩
  ·rw[Y]at h2;cases h2
  ·obtain⟨T,h3,h4⟩:=R.dat j X e hn h2;exact⟨T,h3,h4.upd U S⟩
 ·rcases gC h1 with⟨rfl,e⟩|⟨Z,e⟩
  ·rw[Y]at h3;cases h3
  ·exact R.oo j X e hn h2 h3
 ·obtain⟨g1,g2,g3⟩:=R.nt j b h;refine⟨g1,?_,g3⟩;by_cases hb:b=a
  ·rw[hb,cM];exact⟨_,rfl,inferInstance⟩
  ·rwa[bW hb]
 ·rcases gC h1 with⟨rfl,e⟩|⟨Z,e⟩
  ·rw[hfl]at hn;cases hn
  ·obtain⟨T,h3,h4,h5⟩:=R.nr j X hn e;exact⟨T,h3,h4.upd U (λz=>R.ns j i a z Y),h5⟩
theorem mR{K:PySem.W.Frag}{G:Gh}{ow:Ow}{σ:St}{H:Hp}{δ:DS}{i:Nat}(R:Rel K fl G ow σ H δ)(h:i<δ.length):i<σ.length:=by rwa[R.len]
theorem Tz{i:Nat}{x:Str}{pos':Pos}(Y:fl[i]? = some .A)(hN:X.N.Nodup)(hi:X.N[i]? = some x)(hv:X.env.scope.names.lookup x=some .local\/X.env.scope.names.lookup x=some .cell)(h:DE X fl .A e f)
 (hs:swapsWith e (some (.Name x pos')) pos.line X.env=pure false:=by rfl) (O:X.fn x=true\/X.env.scope.names.lookup x=some .local:=by first|exact .inl rfl|exact .inr rfl) :
 DS1 X fl (.Assign [.Name x pos'] e pos) (bD i f):=PS.imp (yO (i:=i) hN hi hv h hs O) λU σ H h=>by
 refine cW h λG ow δ o R Z q=>?_
 unfold bD at Z;by_cases hl:i<δ.length
 ·rw[if_pos hl]at Z;refine bO Z λd V W=>?_
  cases W;exact⟨G,ow,δ,d,R,V,λv H' s r=>q ow _ H' ((R.grow s).setA Y (mR R hl) r)⟩
 ·rw[if_neg hl]at Z
  cases Z
theorem mU{i:Nat}{x:Str}{pos':Pos}(hfl:fl[i]? = some .O)(hN:X.N.Nodup)(hi:X.N[i]? = some x)(hv:X.env.scope.names.lookup x=some .local\/X.env.scope.names.lookup x=some .cell)(h:DE X fl .F e f)
 (hs:swapsWith e (some (.Name x pos')) pos.line X.env=pure false:=by rfl) (hfn:X.fn x=true\/X.env.scope.names.lookup x=some .local:=by first|exact .inl rfl|exact .inr rfl) :
 DS1 X fl (.Assign [.Name x pos'] e pos) (bD i f):=PS.imp (yO (i:=i) hN hi hv h hs hfn) λU σ H h=>by
 refine cW h λG ow δ o R Z q=>?_
 unfold bD at Z;by_cases hl:i<δ.length
 ·rw[if_pos hl]at Z;refine bO Z λd V W=>?_
  cases W;refine⟨G,ow,δ,d,R,V,λv H' s r=>?_⟩;obtain⟨Y,R'⟩:=R.setO s hfl (mR R hl) r;exact q Y _ H' R'
 ·rw[if_neg hl]at Z
  cases Z
theorem TF{i:Nat}{x:Str}{pos:Pos}(Y:fl[i]? = some .A)(hN:X.N.Nodup)(hi:X.N[i]? = some x)(hv:X.env.scope.names.lookup x=some .local\/X.env.scope.names.lookup x=some .cell)
 (O:X.fn x=true\/X.env.scope.names.lookup x=some .local:=by first|exact .inl rfl|exact .inr rfl):DG X fl [i] (.Name x pos) (gNl i):=
 PG.imp (Sv (i:=i) hN hi hv O) λv σ H Q h=>by
 obtain⟨G,ow,δ,d,W,R,r,Z,q⟩:=h;unfold gNl at Z;by_cases hl:i<δ.length
 ·rw[if_pos hl]at Z
  cases Z;exact q _ (R.setA Y (mR R hl) r) λj V=>aJ (λz=>V (by rw[z];exact cg.mpr rfl))
 ·rw[if_neg hl]at Z
  cases Z
def aj4(K:PySem.W.Frag)(fl:List Fl)(tg:List Nat)(g:List D->DS->Option DS):TGs:=λvs σ H Q=>∃G ow δ ds Z,Rel K fl G ow σ H δ/\RAs K (okA ow) true H vs ds/\g ds δ=some Z/\∀σ',Rel K fl G ow σ' H Z->(∀j,j∉tg->σ'[j]? = σ[j]?)->Q σ' H
theorem PGs.imp{t t':TGs}(h:PGs X es t)(i:∀v σ H Q,t' v σ H Q->t v σ H Q):PGs X es t':=λpins s σ H v u Q I r q=>h pins s σ H v u Q I r (i v σ H Q q)
abbrev DGs(X:Cx)(fl:List Fl)(tg:List Nat)(es:List Expr)(g:List D->DS->Option DS):Prop:=PGs X es (aj4 X.K fl tg g)
theorem tE:DGs X fl [] [] jJ:=PGs.imp Sw λvs σ H Q h=>by
 obtain⟨G,ow,δ,ds,Y,R,r,Z,q⟩:=h
 cases r with
 |nil=>cases Z;exact⟨rfl,q σ R λ_ _=>rfl⟩
 |cons _ _=>cases Z
theorem jx{tg O:List Nat}{g:FG}{gs:List D->DS->Option DS}(h1:DG X fl tg e g)(h2:DGs X fl O es gs)(hs:(assignEach (e::es) X.env).map (·.2)=assign e X.env::(assignEach es X.env).map (·.2):=by rfl):
 DGs X fl (tg++O) (e::es) (cQ g gs):=PGs.imp (Ob h1 h2 hs) λvs σ H Q h=>by
 obtain⟨G,ow,δ,ds,W,R,r,T,q⟩:=h
 cases r with
 |nil=>cases T
 |cons P S=>
  refine bO T λY M N=>?_
  refine⟨_,_,rfl,G,ow,δ,_,Y,R,P,M,λσ' R' k1=>⟨G,ow,Y,_,W,R',S,N,λZ V k2=>q Z V λj U=>?_⟩⟩;rw[k2 j λz=>U (bw _ z),k1 j λz=>U (cV _ z)]
theorem wU{tg:List Nat}{gs:List D->DS->Option DS}{k n:Nat}(hc:X.calm=true)(h:DGs X fl tg es gs)(hn:(assignEach es X.env).length=n:=by rfl)(O:(assignEach es X.env).findIdx? (·.1)=none:=by rfl):
 DG X fl tg (.Tuple es k pos) (gTn n gs):=PG.imp (WY (n:=n) hc h hn O) λv σ H Q h=>by
 obtain⟨G,ow,δ,d,Y,R,r,Z,q⟩:=h;unfold gTn at Z;split at Z
 ·next l=>
  by_cases z:l.length=n
  ·rw[if_pos z]at Z;obtain⟨a,xs,rfl,hx,W⟩:=r.tupE;exact⟨a,xs,rfl,hx,by rwa[W.length],G,ow,δ,l,Y,R,W,Z,q⟩
  ·rw[if_neg z]at Z
   cases Z
 ·cases Z
theorem Xj{tg:List Nat}{g:FG}{t:Expr}(h:DE X fl .A e f)(O:DG X fl tg t g)(hs:swapsWithSole [t] e pos.line X.env=pure false:=by rfl)(hw:swappedStores [t] e X.env=pure none:=by rfl)
 (h1:(assignEach [t] X.env).map (·.2)=[assign t X.env]:=by rfl):DS1 X fl (.Assign [t] e pos) (zu f g):=PS.imp (Od h O hs hw h1) λT σ H h=>by
 refine cW h λG ow δ o R Y q=>?_
 refine bO Y λd U V=>?_
 refine bO V λZ W e4=>?_
 cases e4;exact⟨G,ow,δ,d,R,U,λv H' s r=>⟨G,ow,δ,d,Z,R.grow s,r,W,λσ' R' _=>q ow σ' H' R'⟩⟩
end
end D3
namespace D3
open L2 My
section
variable{X:Cx}{fl:List Fl}{e a b c:Expr}{es:List Expr}{st:cm}{sts body orelse:List cm}{k:Kd}{f fa fb fc:FE}{fs gs:FS}{ft gt:FT}{pos:Pos}
theorem Pb{K:PySem.W.Frag}{G:Gh}{ow:Ow}{σ:St}{H:Hp}{δ:DS}{i:Nat}{l:List D}(R:Rel K fl G ow σ H δ)(Y:fl[i]? = some .O)(h:aj i δ=some (.list l)):
 ∃a xs,ow i=some a/\σ[i]? = some (some (.ref a))/\H a=some (.lst xs)/\RAs K (okA ow) true H xs l:=by
 have e:=lK h
 cases Z:ow i with
 |none=>
  have z:=R.oo i _ e (by rw[Y];rfl) (by rw[Y];simp) Z;simp[flat]at z
 |some a=>
  obtain⟨h0,_,xs,ds,h1,h2,h3,h4⟩:=R.own i a Z;rw[e]at h4
  cases h4;exact⟨a,xs,rfl,h1,h2,h3⟩
theorem n_{i:Nat}{x:Str}{vpos apos cpos:Pos}(hfl:fl[i]? = some .O)(h:DE X fl .A e f)(hN:X.N[i]? = some x)(hv:Vis X.env.scope x:=by first|exact Or.inl rfl|exact Or.inr (Or.inl rfl)|exact Or.inr (Or.inr rfl))(hd:(x==("__debug__":Str))=false:=by decide)
 (hcd:(x==("__classdict__":Str))=false:=by decide)
 (hs:swapsWith (.Call (.Attribute (.Name x vpos) "append" apos) [e] [] cpos) none pos.line X.env=pure false:=by rfl)
 (hbase:attributeBase (.Name x vpos) "append" X.env (eval (.Name x vpos) X.env)=eval (.Name x vpos) X.env:=by rfl)
 (hfew:((backTo cpos (starEach [e] X.env)).all (λx=>!x.1)&&(backToKw cpos (keywordEach [] X.env)).all (λx=>x.1.isSome)
  && decide (([e]:List Expr).length+([]:List dQ).length+(if([]:List dQ).isEmpty then 0 else 1)<30))=true:=by rfl)
 (hline:(apos.endLine==cpos.line)=true:=by rfl) (hst:starEach [e] X.env=(false,eval e X.env)::starEach [] X.env:=by rfl) (Y:(backTo cpos (starEach [] X.env)).any (·.1)=false:=by rfl) :
 DS1 X fl (.Expr (.Call (.Attribute (.Name x vpos) "append" apos) [e] [] cpos) pos) (uO i f):=
 PS.imp (yC (V0 PySem.F.plainAttrs_list PySem.F.slot_list_append PySem.F.type_list_append wL (nA hN hv hd hcd) (kO h nC hst) hbase hfew hline hst Y) hs) λQ σ H h=>by
 refine cW h λG ow δ o R Z q=>?_
 refine bO Z λx S V=>?_
 refine bO V λd T W=>?_
 have Z:=W;split at Z
 case h_2=>cases Z
 next l=>
 by_cases hl:l.length<1000000
 ·rw[if_pos hl]at Z
  cases Z;obtain⟨a,xs,U,h1,h2,h3⟩:=Pb R hfl S;refine⟨_,h1,.inl ⟨rfl,_,SqL.of h2⟩,G,ow,δ,d,R,T,λv H' s r=>?_⟩;have R':=R.grow s;refine⟨a,xs,v,rfl,rfl,s _ _ h2,by rw[h3.length];exact nO hl (by decide),?_⟩;exact q ow σ _ (R'.mut hfl U ((h3.same s).append (.cons r .nil)))
 ·rw[if_neg hl]at Z
  cases Z
theorem Pg{i:Nat}{x:Str}{vpos spos:Pos}{ke:Expr}{fk:FE}(Y:fl[i]? = some .O)(h:DE X fl .A e f)(hk:DE X fl .P ke fk)(hN:X.N[i]? = some x)(hv:Vis X.env.scope x:=by first|exact Or.inl rfl|exact Or.inr (Or.inl rfl)|exact Or.inr (Or.inr rfl))(hd:(x==("__debug__":Str))=false:=by decide)
 (hcd:(x==("__classdict__":Str))=false:=by decide) (ha:∀v,assign (.Subscript (.Name x vpos) ke spos) X.env v=(do
  let ov <-holding [v] (eval (.Name x vpos) X.env)
  let iv <-holding [v,ov] (eval ke X.env)
  standAt spos
  holding [v,ov,iv] (setItem ov iv v)
  release [v,ov,iv] []):=by intro _;rfl)
 (hs:swapsWithSole [.Subscript (.Name x vpos) ke spos] e pos.line X.env=pure false:=by rfl) (hw:swappedStores [.Subscript (.Name x vpos) ke spos] e X.env=pure none:=by rfl)
 (h1:(assignEach [.Subscript (.Name x vpos) ke spos] X.env).map (·.2)=[assign (.Subscript (.Name x vpos) ke spos) X.env]:=by rfl) :
 DS1 X fl (.Assign [.Subscript (.Name x vpos) ke spos] e pos) (LR i fk f):=
 PS.imp (Od h (W0 (nA hN hv hd hcd) hk set_list ha) hs hw h1) λK σ H h=>by
 refine cW h λG ow δ o R Z q=>?_
 refine bO Z λd M U=>?_
 refine bO U λx L V=>?_
 refine bO V λk Q W=>?_
 have Z:=W;split at Z
 case h_2=>cases Z
 next l j=>
 refine bO Z λn e4 e5=>?_
 cases e5;obtain⟨a,xs,S,h1,h2,h3⟩:=Pb R Y L;refine⟨G,ow,δ,d,R,M,λv H' s r=>⟨_,h1,G,ow,δ,_,R.grow s,Q,λu H2 s2 T=>?_⟩⟩;obtain rfl:=RA.intE T;have R2:=R.grow (s.trans s2);refine⟨a,xs,j,n,rfl,rfl,(s.trans s2) _ _ h2,by rwa[h3.length],?_⟩;exact q ow σ _ (R2.mut Y S (RAs.set (RA.same s2 r) n (h3.same (s.trans s2))))
def J0(K:PySem.W.Frag)(ow:Ow)(L:List Nat)(H1:Hp)(J:It)(l:List D):Prop:=∀H2:Hp,(∀b o,H1 b=some o->(∀i,ow i=some b->i∈L)->(∀i,b∉ow.n i)->H2 b=some o)->∀i:Nat,
 (∀d,l[i]? = some d->J.go i H2/\∀x Z,J.yld i H2 x Z->Same H2 Z/\RA K (λb=>okA ow b/\H1 b≠none) true Z x d)/\(l.length<=i->J.stop i H2)
noncomputable def tDI(K:PySem.W.Frag)(fl:List Fl)(L:List Nat)(fi:FA):TI:=λσ H R'=>∃G ow δ l,Rel K fl G ow σ H δ/\fi δ=some l/\∀J H1,Same H H1->J0 K ow L H1 J l->R' J H1
abbrev DI(X:Cx)(fl:List Fl)(L:List Nat)(tg iter:Expr)(fi:FA):Prop:=PI X tg iter (tDI X.K fl L fi)
theorem PI.imp{tg iter:Expr}{t t':TI}(h:PI X tg iter t)(i:∀σ H R',t' σ H R'->t σ H R'):PI X tg iter t':=λpins s σ H R' I q=>h pins s σ H R' I (i σ H R' q)
section
variable{K:PySem.W.Frag}{ok:Ok}{pl:Bool}{H1 H2:Hp}{ow:Ow}{L:List Nat}
theorem nm{b:Addr}{o:HO}(hl:∀i b,ow i=some b->∃xs,H1 b=some (.lst xs))(h:H1 b=some o)(hn:∀xs,o ≠ .lst xs):∀i,ow i=some b->i∈L:=λi e=>by
 obtain⟨xs,z⟩:=hl i b e;rw[h]at z;exact absurd (dB.inj z) (hn xs)
theorem nm2{b:Addr}{o:HO}(hl:∀i b,b∈ow.n i->Chd (H1 b))(h:H1 b=some o)(hn:Chg o->False):∀i,b∉ow.n i:=λi e=>by
 obtain⟨u,z,c⟩:=hl i b e;rw[h]at z
 cases z;exact hn c
mutual
theorem RA.keep(hk:∀b o,H1 b=some o->(∀i,ow i=some b->i∈L)->(∀i,b∉ow.n i)->H2 b=some o)(hl:∀i b,ow i=some b->∃xs,H1 b=some (.lst xs))(hm:∀i b,b∈ow.n i->Chd (H1 b))(ho:∀b,ok b->okA ow b):∀{v:V}{d:D},RA K ok pl H1 v d->RA K ok pl H2 v d
 |_,_,.non=>.non
 |_,_,.bl b=>.bl b
 |_,_,.int i=>.int i
 |_,_,.str x=>.str x
 |_,_,.lst e k q=>.lst (hk _ _ e (λi z=>absurd z ((ho _ k).1 i)) (ho _ k).2) k (RAs.keep hk hl hm ho q)
 |_,_,.lsk e k q=>.lsk (by
  rcases e with⟨o,e⟩|e
  ·exact .inl ⟨o,hk _ _ e (nm hl e (by intro xs z;cases z)) (nm2 hm e Chg.frz)⟩
  ·exact .inr e) k (RAs.keep hk hl hm ho q)
 |_,_,.tup e q=>.tup (e.imp λe=>hk _ _ e (nm hl e (by intro xs z;cases z)) (nm2 hm e Chg.tup)) (RAs.keep hk hl hm ho q)
 |_,_,.dic e g k=>.dic (hk _ _ e (λi z=>absurd z ((ho _ k).1 i)) (ho _ k).2) (g.imp λ_ _ iv t=>hk _ _ t (nm hl t (by intro xs z;subst z;exact iv.nc inferInstance)) (nm2 hm t iv.nc)) k
 |_,_,.dik e g k=>.dik (hk _ _ e (nm hl e (by intro xs z;cases z)) (nm2 hm e Chg.frz)) (g.imp λ_ _ iv t=>hk _ _ t (nm hl t (by intro xs z;subst z;exact iv.nc inferInstance)) (nm2 hm t iv.nc)) k
 |_,_,.ins e g q z=>.ins (hk _ _ e (nm hl e (by intro xs z;cases z)) (nm2 hm e Chg.ins)) (hk _ _ g (nm hl g (by intro xs z;cases z)) (nm2 hm g Chg.own)) (RAs.keep hk hl hm ho q) z
theorem RAs.keep(hk:∀b o,H1 b=some o->(∀i,ow i=some b->i∈L)->(∀i,b∉ow.n i)->H2 b=some o)(hl:∀i b,ow i=some b->∃xs,H1 b=some (.lst xs))(hm:∀i b,b∈ow.n i->Chd (H1 b))(ho:∀b,ok b->okA ow b):∀{v:List V}{d:List D},RAs K ok pl H1 v d->RAs K ok pl H2 v d
 |_,_,.nil=>.nil
 |_,_,.cons e q=>.cons (RA.keep hk hl hm ho e) (RAs.keep hk hl hm ho q)
end
end
theorem Rel.ownL{K:PySem.W.Frag}{G:Gh}{ow:Ow}{σ:St}{H:Hp}{δ:DS}(R:Rel K fl G ow σ H δ):∀i b,ow i=some b->∃xs,H b=some (.lst xs):=λi b e=>by
 obtain⟨_,_,xs,_,_,h2,_⟩:=R.own i b e;exact⟨xs,h2⟩
theorem Rel.ownC{K:PySem.W.Frag}{G:Gh}{ow:Ow}{σ:St}{H:Hp}{δ:DS}(R:Rel K fl G ow σ H δ):∀i b,b∈ow.n i->Chd (H b):=λi b e=>(R.nt i b e).2.1
theorem HY{K:PySem.W.Frag}{G:Gh}{ow:Ow}{σ:St}{H Hb:Hp}{δ:DS}{L:List Nat}{v:V}{l:List D}(R:Rel K fl G ow σ H δ)(r:Rs K G.H0 ow Hb H (.B L) v (.list l)):∃a xs,v = .ref a/\SqL K H a xs /\
 ∀H2:Hp,(∀b o,H b=some o->(∀i,ow i=some b->i∈L)->(∀i,b∉ow.n i)->H2 b=some o)->SqL K H2 a xs/\RAs K (λb=>okA ow b/\H b≠none) true H2 xs l:=by
 rcases r with r|⟨i,hi,a,xs,ds,Y,rfl,e,hx,X⟩
 ·cases r with
  |lst e k q=>exact⟨_,_,rfl,SqL.of e,λH2 Z=>⟨SqL.of (Z _ _ e (λi z=>absurd z (k.1 i)) k.2),RAs.keep Z R.ownL R.ownC (λb z=>z.1) q.track⟩⟩
  |lsk e k q=>exact⟨_,_,rfl,e.sq,λH2 Z=>⟨SqK.sq (by
   rcases e with⟨o,e⟩|e
   ·exact .inl ⟨o,Z _ _ e (nm R.ownL e (by intro xs z;cases z)) (nm2 R.ownC e Chg.frz)⟩
   ·exact .inr e),RAs.keep Z R.ownL R.ownC (λb z=>z.1) q.track⟩⟩
 ·cases e;exact⟨a,xs,rfl,SqL.of hx,λH2 Z=>⟨SqL.of (Z _ _ hx (λj z=>by rwa[R.inj j i a z Y]) (λj z=>R.ns j i a z Y)),RAs.keep Z R.ownL R.ownC (λb z=>z.1) X.track⟩⟩
theorem jL{tg:Expr}{L:List Nat}(h:DE X fl (.B L) e f):DI X fl L tg e (lD f):=PI.imp (JF h) λσ H R' h=>by
 refine cW h λG ow δ l R T q=>?_
 refine bO T λd S W=>?_
 cases d<;>first|(cases W;done)|skip
 cases W;refine⟨G,ow,δ,_,R,S,λv H1 s r=>?_⟩;obtain⟨a,xs,rfl,hx,keep⟩:=HY (R.grow s) r;refine⟨a,rfl,⟨xs,hx⟩,q _ _ s λH2 k2 i=>?_⟩;obtain⟨k3,Y⟩:=keep H2 k2;refine⟨λd hd=>?_,λhl=>⟨xs,k3,by rwa[Y.length]⟩⟩;obtain⟨y,hy,V⟩:=Y.get hd;refine⟨⟨xs,y,k3,hy⟩,λx Q Z=>?_⟩;obtain⟨e,U⟩:=Z;subst e;have:some y=some x:=hy.symm.trans (U xs k3)
 cases this;exact⟨Same.refl _,V⟩
theorem Ph(lo hi:Int):(d_ lo hi).length=(hi-lo).toNat:=by simp[d_]
theorem Fy{K:PySem.W.Frag}{ow:Ow}{L:List Nat}{H1:Hp}(lo hi:Int):J0 K ow L H1 (Itr lo (hi-lo).toNat) (d_ lo hi):=by
 intro H2 _ i;refine⟨λd hd=>?_,λhl=>by rw[Ph]at hl;exact hl⟩;unfold d_ at hd;rw[aR]at hd;by_cases Z:i<(hi-lo).toNat
 ·rw[gM Z]at hd
  cases hd;refine⟨Z,λx X hy=>?_⟩;obtain⟨e,Y⟩:=hy;subst e Y;exact⟨Same.refl _,.int _⟩
 ·rw[bL (by simpa using Z)]at hd
  cases hd
theorem tH{i:Int}(h:uc i=true): -(2^62)<=i/\i<2^62:=by
 unfold uc at h;rw[aM]at h;exact⟨of_decide_eq_true h.1,of_decide_eq_true h.2⟩
theorem j4{tg:Expr}{L:List Nat}{p:Pos}{fa:FA}(O:Gl X "range")(hm:X.mg "range"=none)(h:DA X fl [a] fa)(hs:starEach [a] X.env=[(false,eval a X.env)]:=by rfl):DI X fl L tg (.Call (.Name "range" p) [a] [] pos) (oJ fa):=
 PI.imp (Lj O hm h hs) λσ H R' h=>by
 refine cW h λG ow δ l R V q=>?_
 refine bO V λds U Z=>?_
 split at Z
 ·next j=>
  by_cases z:uc j=true
  ·rw[if_pos z]at Z
   cases Z;refine⟨G,ow,δ,_,R,U,λvs H1 s r=>?_⟩
   cases r with
   |cons W Y=>
    cases Y;obtain rfl:=W.intE;refine⟨j,rfl,(tH z).1,(tH z).2,?_⟩;have w:=Fy (K:=X.K) (ow:=ow) (L:=L) (H1:=H1) 0 j;rw[vh]at w;exact q _ _ s w
  ·rw[if_neg z]at Z
   cases Z
 ·cases Z
theorem wV{tg:Expr}{L:List Nat}{p:Pos}{fa:FA}(hg:Gl X "range")(hm:X.mg "range"=none)(h:DA X fl [a,b] fa)(hs:starEach [a,b] X.env=[(false,eval a X.env),(false,eval b X.env)]:=by rfl)(O:starEach [b] X.env=[(false,eval b X.env)]:=by rfl):
 DI X fl L tg (.Call (.Name "range" p) [a,b] [] pos) (rB fa):=PI.imp (Lk hg hm h hs O) λσ H R' h=>by
 refine cW h λG ow δ l R U q=>?_
 refine bO U λds T Z=>?_
 split at Z
 ·next i j=>
  by_cases z:(uc i&&uc j)=true
  ·rw[if_pos z]at Z
   cases Z;rw[aM]at z;refine⟨G,ow,δ,_,R,T,λvs H1 s r=>?_⟩
   cases r with
   |cons V Y=>
    cases Y with
    |cons Y W=>
     cases W;obtain rfl:=V.intE;obtain rfl:=Y.intE;exact⟨i,j,rfl,⟨(tH z.1).1,(tH z.1).2,(tH z.2).1,(tH z.2).2⟩,q _ _ s (Fy i j)⟩
  ·rw[if_neg z]at Z
   cases Z
 ·cases Z
def lock(L:List Nat)(fl:List Fl):List Fl:=fl.mapIdx λi x=>if x = .O/\i∈L then .L else x
theorem lM{L:List Nat}{i:Nat}:(lock L fl)[i]? = (fl[i]?).map λx=>if x = .O/\i∈L then .L else x:=by
 unfold lock;rw[fX]
theorem Pj{L:List Nat}{i:Nat}:(lock L fl)[i]? = some .A<->fl[i]? = some .A:=by
 rw[lM]
 cases h:fl[i]? with
 |none=>simp
 |some x=>
  cases x<;>simp
  by_cases z:i∈L<;>simp[z]
theorem H_{L:List Nat}{i:Nat}(h:(lock L fl)[i]? = some .O):fl[i]? = some .O/\i∉L:=by
 rw[lM]at h
 cases e:fl[i]? with
 |none=>rw[e]at h;simp at h
 |some x=>
  rw[e]at h
  cases x<;>simp at h
  by_cases z:i∈L
  ·simp[z]at h
  ·exact⟨rfl,z⟩
theorem Ia{L:List Nat}{i:Nat}(h:fl[i]? = some .L):(lock L fl)[i]? = some .L:=by
 rw[lM,h];simp
theorem J1{L:List Nat}{i:Nat}(h:fl[i]? = some .O)(hi:i∈L):(lock L fl)[i]? = some .L:=by
 rw[lM,h];simp[hi]
theorem J2{L:List Nat}{i:Nat}(h:fl[i]? = some .O)(hi:i∉L):(lock L fl)[i]? = some .O:=by
 rw[lM,h];simp[hi]
theorem CP{L:List Nat}{i:Nat}:(lock L fl)[i]? = some .N<->fl[i]? = some .N:=by
 rw[lM]
 cases h:fl[i]? with
 |none=>simp
 |some x=>
  cases x<;>simp
  by_cases z:i∈L<;>simp[z]
theorem Ie{L:List Nat}{i:Nat}:(lock L fl)[i]? = some .M<->fl[i]? = some .M:=by
 rw[lM]
 cases h:fl[i]? with
 |none=>simp
 |some x=>
  cases x<;>simp
  by_cases z:i∈L<;>simp[z]
theorem wW{L:List Nat}{i:Nat}:(lock L fl)[i]? = some .W<->fl[i]? = some .W:=by
 rw[lM]
 cases h:fl[i]? with
 |none=>simp
 |some x=>
  cases x<;>simp
  by_cases z:i∈L<;>simp[z]
theorem pW{L:List Nat}{i:Nat}:isN (lock L fl)[i]? = isN fl[i]?:=by
 rw[lM]
 cases h:fl[i]? with
 |none=>rfl
 |some x=>
  cases x<;>simp[isN]
  by_cases z:i∈L<;>simp[z]
def Let(fl':List Fl)(ow:Ow)(b:Addr):Prop:=(∃j,ow j=some b/\fl'[j]? = some .O)\/∃j,b∈ow.n j/\(fl'[j]? = some .N\/fl'[j]? = some .W)
open Classical in
def ghL(fl':List Fl)(G:Gh)(ow:Ow)(H:Hp):Gh:=⟨G.H0,λb=>if Let fl' ow b then none else H b,ow,ow.n,G.tb,G.fv⟩
open Classical in
theorem qH{fl':List Fl}{G:Gh}{ow:Ow}{H:Hp}{b:Addr}(h:¬Let fl' ow b):(ghL fl' G ow H).HF b=H b:=by
 unfold ghL;dsimp only;rw[if_neg h]
open Classical in
theorem Ig{fl':List Fl}{G:Gh}{ow:Ow}{H:Hp}{b:Addr}(h:Let fl' ow b):(ghL fl' G ow H).HF b=none:=by
 unfold ghL;dsimp only;rw[if_pos h]
theorem Rel.lock{K:PySem.W.Frag}{G:Gh}{ow:Ow}{σ:St}{H:Hp}{δ:DS}(L:List Nat)(R:Rel K fl G ow σ H δ):Rel K (lock L fl) (ghL (lock L fl) G ow H) ow σ H δ:=by
 refine⟨λb o hb=>?_,λb o hb=>?_,R.len,λi a h=>?_,R.inj,λi h=>rfl,λi d h1 hn h2=>R.dat i d h1 (by rw[pW]at hn;exact hn) h2,λi d h1 hn h2 h3=>R.oo i d h1 (by rw[pW]at hn;exact hn) (λz=>h2 (Pj.mpr z)) h3,λi a h=>?_,R.nd,R.ns,λi h=>rfl,λi d hn h1=>R.nr i d (by rw[pW]at hn;exact hn) h1,λi u h e=>R.fx i u (wW.mp h) e⟩
 ·have Y:G.H0 b=some o:=hb;rw[qH]
  ·exact R.same0 b o Y
  ·rintro(⟨j,e,_⟩|⟨j,e,_⟩)
   ·have:=(R.own j b e).1;rw[Y]at this
    cases this
   ·have:=(R.nt j b e).1;rw[Y]at this
    cases this
 ·by_cases z:Let (D3.lock L fl) ow b
  ·rw[Ig z]at hb;cases hb
  ·rw[qH z]at hb;exact hb
 ·obtain⟨h0,Z,xs,ds,h1,h2,h3,h4⟩:=R.own i a h;refine⟨h0,?_,xs,ds,h1,h2,h3,h4⟩;have out:(D3.lock L fl)[i]? = some .L->(ghL (D3.lock L fl) G ow H).HF a=H a:=λhl=>qH (by
   rintro(⟨j,e,X⟩|⟨j,e,X⟩)
   ·rw[R.inj j i a e h,hl]at X
    cases X
   ·exact R.ns j i a e h)
  rcases Z with⟨Z,_⟩|⟨Z,_⟩
  ·by_cases hi:i∈L
   ·exact .inr ⟨J1 Z hi,xs,by rwa[out (J1 Z hi)]⟩
   ·exact .inl ⟨J2 Z hi,Ig (.inl ⟨i,h,J2 Z hi⟩)⟩
  ·exact .inr ⟨Ia Z,xs,by rwa[out (Ia Z)]⟩
 ·obtain⟨g1,g2,g3⟩:=R.nt i a h;refine⟨g1,g2,?_⟩;rcases g3 with⟨z,_⟩|z
  ·have z:=z.imp (CP (L:=L)).mpr (wW (L:=L)).mpr;exact .inl ⟨z,Ig (.inr ⟨i,h,z⟩)⟩
  ·exact .inr (Ie.mpr z)
theorem Rel.unlock{K:PySem.W.Frag}{G:Gh}{ow Y:Ow}{σ σ':St}{H H':Hp}{δ O:DS}{L:List Nat}(R:Rel K fl G ow σ H δ)(R':Rel K (D3.lock L fl) (ghL (D3.lock L fl) G ow H) Y σ' H' O):Rel K fl G Y σ' H' O:=by
 have sub:Same G.HF (ghL (D3.lock L fl) G ow H).HF:=λb o hb=>by
  rw[qH]
  ·exact R.s1 b o hb
  ·rintro(⟨j,e,Z⟩|⟨j,e,Z⟩)
   ·rcases(R.own j b e).2.1 with⟨_,z⟩|⟨z,_⟩
    ·rw[hb]at z;cases z
    ·have:=(H_ Z).1;rw[z]at this
     cases this
   ·rcases(R.nt j b e).2.2 with⟨_,z⟩|z
    ·rw[hb]at z;cases z
    ·rcases Z with Z|Z
     ·have:=CP.mp Z;rw[z]at this
      cases this
     ·have:=wW.mp Z;rw[z]at this
      cases this
 refine⟨R.s0,sub.trans R'.s1,R'.len,λi a h=>?_,R'.inj,λi h=>?_,λi d h1 hn h2=>R'.dat i d h1 (by rwa[pW]) h2,λi d h1 hn h2 h3=>R'.oo i d h1 (by rwa[pW]) (λz=>h2 (Pj.mp z)) h3,λi a h=>?_,R'.nd,R'.ns,λi h=>?_,λi d hn h1=>R'.nr i d (by rwa[pW]) h1,λi u h e=>R'.fx i u (wW.mpr h) e⟩
 ·obtain⟨h0,X,rest⟩:=R'.own i a h;refine⟨h0,?_,rest⟩;rcases X with⟨X,V⟩|⟨X,_⟩
  ·exact .inl ⟨(H_ X).1,sub.free V⟩
  ·have e:=R'.pin i X;rw[e]at h;exact(R.own i a h).2.1
 ·have e:=R'.pin i (Ia h);rw[e];exact R.pin i h
 ·obtain⟨g1,g2,g3⟩:=R'.nt i a h;rcases g3 with⟨z,V⟩|z
  ·exact⟨g1,g2,.inl ⟨z.imp CP.mp wW.mp,sub.free V⟩⟩
  ·exact⟨g1,g2,.inr (Ie.mp z)⟩
 ·have e:=R'.np i (Ie.mpr h);rw[e];exact R.np i h
def V2(K:PySem.W.Frag)(fl:List Fl)(ow:Ow)(L:List Nat)(H1:Hp)(J:It)(l:List D):Prop:=∀H2:Hp,(∀b o,H1 b=some o->(∀i,ow i=some b->i∈L)->(∀i,b∈ow.n i->fl[i]? = some .M)->H2 b=some o)->∀i:Nat,
 (∀d,l[i]? = some d->J.go i H2/\∀x Z,J.yld i H2 x Z->Same H2 Z/\RA K (λb=>okA ow b/\H1 b≠none) true Z x d)/\(l.length<=i->J.stop i H2)
theorem J0.m{K:PySem.W.Frag}{ow:Ow}{L:List Nat}{H1:Hp}{J:It}{l:List D}(w:J0 K ow L H1 J l):V2 K fl ow L H1 J l:=λH2 Z=>w H2 λb o h1 h2 h3=>Z b o h1 h2 λi z=>absurd z (h3 i)
theorem TJ{G:Gh}{ow:Ow}{σ:St}{H1:Hp}{δ:DS}{J:It}{l:List D}{o:Oc}{Dn:Ends}{L:List Nat}{T:List Nat}{g:FG}(R1:Rel X.K fl G ow σ H1 δ)(wk:V2 X.K fl ow L H1 J l)(e2:lB g fs l δ=some o)(q:zy X.K fl G Dn o):
 ZJ (λ_ H R=>R J H) (tDG X.K (lock L fl) T g) (tDS X.K (lock L fl) fs) Dn σ H1:=by
 have k:=R1.lock L;refine⟨λi m σ' H'=>m=l.length-i/\∃Z Y,Rel X.K (lock L fl) (ghL (lock L fl) G ow H1) Z σ' H' Y/\lB g fs (l.drop i) Y=some o,⟨_,rfl,ow,δ,k,by simpa using e2⟩,?_⟩;rintro i m σ' H' ⟨rfl,Z,Y,R',hd⟩;have kept:∀b o,H1 b=some o->(∀i,ow i=some b->i∈L)->(∀i,b∈ow.n i->fl[i]? = some .M)->H' b=some o:=λb o hb hl hn=>R'.s1 b o (by
  rw[qH]
  ·exact hb
  ·rintro(⟨j,e,F⟩|⟨j,e,F⟩)
   ·exact(H_ F).2 (hl j e)
   ·have z:=hn j e;rcases F with y|y
    ·rw[CP.mp y]at z;cases z
    ·rw[wW.mp y]at z;cases z)
 obtain⟨t,u⟩:=wk H' kept i;by_cases I:i<l.length
 ·have P:=oW I;rw[P,lB]at hd;refine bO hd λN p hd=>?_
  refine bO hd λC e4 hd=>?_
  obtain⟨go,A⟩:=t l[i] (aO I);refine .inr ⟨go,λσ' H'=>∃Z Y,Rel X.K (lock L fl) (ghL (lock L fl) G ow H1) Z σ' H' Y/\lB g fs (l.drop (i+1)) Y=some o,λS H2 ⟨W,V,R2,h2⟩=>⟨l.length-(i+1),by omega,rfl,W,V,R2,h2⟩,λx a hy=>?_⟩;obtain⟨s,r⟩:=A x a hy;have sub:∀b,okA ow b/\H1 b≠none->okA Z b:=λb z=>by
   obtain⟨O,E⟩:=z;refine⟨λj e=>?_,λj e=>?_⟩
   ·rcases(R'.own j b e).2.1 with⟨_,Q⟩|⟨Q,_⟩
    ·have:(ghL (lock L fl) G ow H1).HF b=H1 b:=qH (by rintro(⟨j',U,_⟩|⟨j',U,_⟩);exact O.1 j' U;exact O.2 j' U);rw[this]at Q;exact E Q
    ·have U:Z j=ow j:=R'.pin j Q;rw[U]at e;exact O.1 j e
   ·rcases(R'.nt j b e).2.2 with⟨_,Q⟩|w
    ·have:(ghL (lock L fl) G ow H1).HF b=H1 b:=qH (by rintro(⟨j',U,_⟩|⟨j',U,_⟩);exact O.1 j' U;exact O.2 j' U);rw[this]at Q;exact E Q
    ·have U:Z.n j=ow.n j:=R'.np j w;rw[U]at e;exact O.2 j e
  refine⟨_,Z,Y,_,N,R'.grow s,r.imp sub (λz=>z),p,λB h _=>⟨_,Z,N,C,h,e4,?_⟩⟩
  ·cases C with
   |nx V=>exact λW S H2 R2=>⟨W,V,R2,hd⟩
   |ct V=>exact λW S H2 R2=>⟨W,V,R2,hd⟩
   |bk V=>cases hd;exact λW S H2 R2=>q W S H2 (R1.unlock R2)
   |rt d=>cases hd;exact q
   |ex c f v=>cases hd;exact q
 ·have e:l.drop i=[]:=qj (by omega);rw[e,lB]at hd
  cases hd;exact .inl ⟨u (by omega),q Z σ' H' (R1.unlock R')⟩
theorem jT{tg iter:Expr}{L:List Nat}{T:List Nat}{fi:FA}{g:FG}(O:PassesOwn (model X.prog X.w) X.A X.env X.xe)(hc:X.calm=true)(hi:DI X fl L tg iter fi)(hg:DG X (lock L fl) T tg g)(hb:DSs X (lock L fl) body fs)
 (hs:∀x,foldedSetIterable iter X.env x=pure x:=by intro _;rfl):DS1 X fl (.For tg iter body [] pos) (kY fi g fs):=PS.imp (W5 O hc hi hg hb hs) λS σ H h=>by
 refine cW h λG ow δ o Z W q=>?_
 refine bO W λl U V=>?_
 exact⟨G,ow,δ,l,Z,U,λJ H1 s Y=>TJ (Z.grow s) Y.m V q⟩
theorem Fz(O:PassesOwn (model X.prog X.w) X.A X.env X.xe)(hc:DT X fl c ft)(hb:DSs X fl body fs):DS1 X fl (.While c body [] pos) (rY ft fs):=PS.imp (Oe O hc hb) λN σ H h=>by
 refine cW h λG ow δ o P S q=>?_
 obtain⟨n,hn⟩:=HJ S;refine⟨λm σ' H'=>∃V W,Rel X.K fl G V σ' H' W/\fM ft fs m W=some o,⟨n,ow,δ,P,hn⟩,?_⟩;rintro m σ' H' ⟨V,W,R',hw⟩
 cases m with
 |zero=>simp[fM]at hw
 |succ m=>
  rw[fM]at hw;refine bO hw λt Q hw=>?_
  refine⟨G,V,W,t,R',Q,λH1 s=>?_⟩
  cases t with
  |false=>
   rw[if_neg cX]at hw ⊢
   cases hw;exact q V σ' H1 (R'.grow s)
  |true=>
   rw[if_pos rfl]at hw ⊢;refine bO hw λT R hw=>?_
   refine⟨λU H2=>∃Y Z,Rel X.K fl G Y U H2 Z/\fM ft fs m Z=some o,λU H2 ⟨Y,Z,R2,h2⟩=>⟨m,jY m,Y,Z,R2,h2⟩,G,V,W,T,R'.grow s,R,?_⟩
   cases T with
   |nx Z=>exact λY U H2 R2=>⟨Y,Z,R2,hw⟩
   |ct Z=>exact λY U H2 R2=>⟨Y,Z,R2,hw⟩
   |bk Z=>cases hw;exact q
   |rt d=>cases hw;exact q
   |ex c f v=>cases hw;exact q
end
end D3
namespace D3
open L2 My
def notStar:Expr->Bool
 | .Starred _ _=>false
 |_=>true
theorem j6{e:Expr}{es:List Expr}{env:Env}(h:notStar e=true):starEach (e::es) env=(false,eval e env)::starEach es env:=by
 cases e<;>first|rfl|cases h
theorem zF{es:List Expr}{env:Env}{pos:Pos}(h:es.all notStar=true):(backTo pos (starEach es env)).any (·.1)=false:=by
 induction es with
 |nil=>rfl
 |cons e es Z=>
  rw[List.all_cons,aM]at h;rw[j6 h.1];have:=Z h.2;unfold backTo at this ⊢;rw[bB,kj,this];rfl
def isR:Kd->Bool
 | .P=>true
 | .A=>true
 | .R=>true
 | .C=>true
 |_=>false
def Pk(H0:Hp)(ow:Ow)(Hb:Hp):Kd->Ok
 | .P=>ok1
 | .A=>okA ow
 | .R=>okN H0
 |_=>okN Hb
def Xk:Kd->Bool
 | .P=>true
 | .A=>true
 |_=>false
section
variable{K:PySem.W.Frag}{H0 Hb Hc H:Hp}{ow:Ow}{v:V}{d:D}{k:Kd}
theorem Rs.ra(O:isR k=true)(h:Rs K H0 ow Hb H k v d):RA K (Pk H0 ow Hb k) (Xk k) H v d:=by
 cases k<;>first|exact h|cases O
theorem Rs.of_ra(O:isR k=true)(h:RA K (Pk H0 ow Hb k) (Xk k) H v d):Rs K H0 ow Hb H k v d:=by
 cases k<;>first|exact h|cases O
theorem Mf(s:Same Hb Hc)(O:isR k=true):∀a,Pk H0 ow Hc k a->Pk H0 ow Hb k a:=λa z=>by
 cases k<;>first|exact z|exact s.free z|cases O
theorem Rs.of_flat(O:flat d=true)(h:RA K ok0 false H v d):Rs K H0 ow Hb H k v d:=by
 cases k with
 |P=>exact RA.flat O h
 |B L=>exact .inl (RA.flat O h)
 |A=>exact RA.flat O h
 |R=>exact RA.flat O h
 |F=>exact .inl ⟨O,h⟩
 |C=>exact RA.flat O h
 |FC=>exact .inl ⟨O,h⟩
 |T=>
  obtain⟨as,h1,_,h3⟩:=RA.rt h
  cases as with
  |nil=>exact⟨[],h1,.nil,λ_ z=>by cases z⟩
  |cons a r=>exact(h3 a aN).elim
theorem Rs.back(s:Same Hb Hc)(h:Rs K H0 ow Hc H k v d):Rs K H0 ow Hb H k v d:=by
 cases k with
 |P=>exact h
 |B L=>exact h
 |A=>exact h
 |R=>exact h
 |F=>
  rcases h with h|⟨a,xs,ds,h1,h2,h3,h4⟩
  ·exact .inl h
  ·exact .inr ⟨a,xs,ds,h1,h2,s.free h3,h4⟩
 |C=>exact RA.imp (λa z=>s.free z) (λz=>z) h
 |FC=>
  rcases h with h|⟨a,xs,ds,h1,h2,h3,h4,h5⟩
  ·exact .inl h
  ·exact .inr ⟨a,xs,ds,h1,h2,s.free h3,h4,h5.imp (λb z=>⟨s.free z.1,z.2⟩) (λz=>z)⟩
 |T=>
  obtain⟨as,h1,h2,h3⟩:=h;exact⟨as,h1,h2,λa z=>s.free (h3 a z)⟩
end
def tDB(K:PySem.W.Frag)(fl:List Fl)(k:Kd)(f:FA):TA:=λσ H Q=>∃G ow δ ds,Rel K fl G ow σ H δ/\f δ=some ds/\∀vs H',Same H H'->RAs K (Pk G.H0 ow H k) (Xk k) H' vs ds->Q vs H'
abbrev DB(X:Cx)(fl:List Fl)(k:Kd)(es:List Expr)(f:FA):Prop:=PA X es (tDB X.K fl k f)
section
variable{X:Cx}{fl:List Fl}{e a b c:Expr}{es rest:List Expr}{k:Kd}{f fa fb fc:FE}{ft gt:FT}{pos:Pos}
theorem Xl:DB X fl k [] aK:=PA.imp nC λσ H Q h=>by
 refine cW h λG ow δ ds R Z q=>?_
 cases Z;exact q [] H (Same.refl H) .nil
theorem TQ{fr:FA}(O:isR k=true)(h:DE X fl k e f)(hr:DB X fl k es fr)(hs:starEach (e::es) X.env=(false,eval e X.env)::starEach es X.env:=by exact j6 rfl):DB X fl k (e::es) (au f fr):=PA.imp (kO h hr hs) λσ H Q h=>by
 refine cW h λG ow δ ds R Z q=>?_
 refine bO Z λd U Z=>?_
 refine bO Z λr V Z=>?_
 cases Z;refine⟨G,ow,δ,d,R,U,λv H1 s1 W=>⟨G,ow,δ,r,R.grow s1,V,λvs H2 s2 Y=>?_⟩⟩;exact q _ H2 (s1.trans s2) (.cons ((W.ra O).same s2) (Y.imp (Mf s1 O) (λz=>z)))
theorem rC(h:DB X fl .P es O):DA X fl es O:=PA.imp h λσ H Q h=>by
 refine cW h λG ow δ ds R Z q=>?_
 exact⟨G,ow,δ,ds,R,Z,λvs H' s r=>q vs H' s r⟩
theorem fD{x1}{fa:FA}(O:isR k=true)(h:DB X fl k es fa):DE X fl k (.Tuple es x1 pos) (dTup fa):=PE.imp (W9 h) λσ H Q h=>by
 refine cW h λG ow δ d R W q=>?_
 refine bO W λl V Z=>?_
 by_cases z:l.length<=sizeLine
 ·rw[if_pos z]at Z
  cases Z;refine⟨G,ow,δ,l,R,V,λvs H' s r=>⟨by rw[r.length];exact z,λp Y=>?_⟩⟩;have g:=cN Y (.tup vs);exact q _ _ (s.trans g) (Rs.of_ra O (.tup (.inl cM) (r.same g)))
 ·rw[if_neg z]at Z
  cases Z
theorem vM{fa:FA}(h:DB X fl .A es fa):DE X fl .F (.List es pos) (jC fa):=PE.imp (Hu h) λσ H Q h=>by
 refine cW h λG ow δ d R W q=>?_
 refine bO W λl V Z=>?_
 by_cases z:l.length<=sizeLine
 ·rw[if_pos z]at Z
  cases Z;refine⟨G,ow,δ,l,R,V,λvs H' s r=>⟨by rwa[r.length],λp Y=>?_⟩⟩;have g:=cN Y (.lst vs);exact q _ _ (s.trans g) (.inr ⟨p,vs,l,rfl,rfl,s.free Y,cM,(r.track.imp (λb w=>⟨w.1,λe=>w.2 (e▸Y)⟩) (λz=>z)).same g⟩)
 ·rw[if_neg z]at Z
  cases Z
theorem kW{fa:FA}(h:DB X fl .C es fa):DE X fl .FC (.List es pos) (jC fa):=PE.imp (Hu h) λσ H Q h=>by
 refine cW h λG ow δ d R W q=>?_
 refine bO W λl V Z=>?_
 by_cases z:l.length<=sizeLine
 ·rw[if_pos z]at Z
  cases Z;refine⟨G,ow,δ,l,R,V,λvs H' s r=>⟨by rwa[r.length],λp Y=>?_⟩⟩;have g:=cN Y (.lst vs);exact q _ _ (s.trans g) (.inr ⟨p,vs,l,rfl,rfl,s.free Y,cM,(r.track.imp (λb w=>⟨w.1,λe=>w.2 (e▸Y)⟩) (λz=>z)).same g⟩)
 ·rw[if_neg z]at Z
  cases Z
theorem RAs.at{K:PySem.W.Frag}{ok:Ok}{pl:Bool}{H:Hp}{vs:List V}{l:List D}{i:Int}{d:D}(r:RAs K ok pl H vs l)(h:pAt l i=some d):∃v,atI vs i=some v/\RA K ok pl H v d:=by
 unfold atI;refine bO h λj X Y=>?_
 obtain⟨y,U,Z⟩:=r.get Y;exact⟨y,by rwa[r.length,show ixN l.length i=some j from X],Z⟩
theorem Z8{L:List Nat}(ha:DE X fl (.B L) a fa)(hb:DE X fl .P b fb)(hs:yE b):DE X fl .A (.Subscript a b pos) (dOp gIx fa fb):=PE.imp (VR Xb ha hb hs) λσ H Q h=>by
 refine cW h λG ow δ d R N q=>?_
 refine D3.ex2 (zB N) λx y K M V=>?_
 refine⟨G,ow,δ,x,R,K,λv H1 s1 Y=>⟨G,ow,δ,y,R.grow s1,M,λu H2 s2 T=>?_⟩⟩;unfold gIx at V;split at V
 ·next l i=>
  obtain rfl:=RA.intE T;rcases Y with Y|⟨S,_,p,xs,ds,O,rfl,Z,hx,W⟩
  ·obtain⟨p,xs,rfl,hx,W⟩:=RA.lstE (RA.same s2 Y);obtain⟨z,Z,U⟩:=W.at V;exact .inl ⟨p,xs,i,z,rfl,rfl,hx,Z,q z H2 (s1.trans s2) U⟩
  ·cases Z;obtain⟨z,Z,U⟩:=(W.same s2).at V;exact .inl ⟨p,xs,i,z,rfl,rfl,SqL.of (s2 _ _ hx),Z,q z H2 (s1.trans s2) U⟩
 ·next l i=>
  obtain rfl:=RA.intE T;rcases Y with Y|⟨S,_,p,xs,ds,O,rfl,Z,hx,W⟩
  ·obtain⟨p,xs,rfl,hx,W⟩:=RA.tupE (RA.same s2 Y);obtain⟨z,Z,U⟩:=W.at V;exact .inr (.inl ⟨p,xs,i,z,rfl,rfl,hx,Z,q z H2 (s1.trans s2) U⟩)
  ·cases Z
 ·cases V
theorem pG{op:BoolOp}(h:DE X fl k a f):DE X fl k (.BoolOp op [a] pos) f:=WR h
theorem mO(h1:DE X fl .P a fa)(h2:DE X fl k (.BoolOp .And (b::rest) pos) fb):DE X fl k (.BoolOp .And (a::b::rest) pos) (oH fa fb):=PE.imp (WT h1 h2) λσ H Q h=>by
 refine cW h λG ow δ d R V q=>?_
 refine bO V λx U Z=>?_
 refine⟨G,ow,δ,x,R,U,λv H1 s1 Y=>?_⟩;split at Z
 ·obtain rfl:=RA.blE Y;exact⟨true,rfl,Cy ⟨G,ow,δ,d,R.grow s1,Z,λu H2 s2 W=>q u H2 (s1.trans s2) (W.back s1)⟩⟩
 ·obtain rfl:=RA.blE Y
  cases Z;exact⟨false,rfl,Cw (q _ H1 s1 (Rs.of_flat rfl (.bl _)))⟩
 ·cases Z
theorem Xm(h1:DE X fl .P a fa):DE X fl .FC (.UnaryOp .Not a pos) (Xf fa):=PE.imp (WW h1) λσ H Q h=>by
 refine cW h λG ow δ d R W q=>?_
 refine bO W λx V Z=>?_
 refine⟨G,ow,δ,x,R,V,λv H1 s1 Y=>?_⟩;split at Z
 ·next c=>
  obtain rfl:=RA.blE Y
  cases Z;exact⟨c,rfl,q _ H1 s1 (Rs.of_flat rfl (.bl _))⟩
 ·cases Z
theorem Z9(hc:DT X fl c ft)(h1:DE X fl k a fa)(h2:DE X fl k b fb):DE X fl k (.IfExp c a b pos) (dIf ft fa fb):=PE.imp (N5 hc h1 h2) λσ H Q h=>by
 refine cW h λG ow δ d R W q=>?_
 refine bO W λt V Y=>?_
 refine⟨G,ow,δ,t,R,V,λH1 s1=>?_⟩
 cases t with
 |true=>exact Cy ⟨G,ow,δ,d,R.grow s1,Y,λu H2 s2 Z=>q u H2 (s1.trans s2) (Z.back s1)⟩
 |false=>exact Cw ⟨G,ow,δ,d,R.grow s1,Y,λu H2 s2 Z=>q u H2 (s1.trans s2) (Z.back s1)⟩
theorem j_(h:DT X fl a ft):DT X fl (.UnaryOp .Not a pos) (jO ft):=PT.imp (WQ h) λσ H Q h=>by
 refine cW h λG ow δ t R Z q=>?_
 unfold jO at Z
 cases e:ft δ with
 |none=>rw[e]at Z;cases Z
 |some x=>
  rw[e]at Z
  cases Z;exact⟨G,ow,δ,x,R,e,λH' s=>q H' s⟩
theorem yG(h:DT X fl a ft):DW X fl (.BoolOp .And [a] pos) ft:=Ss h
theorem sE(h:DT X fl a ft):DW X fl (.BoolOp .Or [a] pos) ft:=WL h
theorem zG(h1:DT X fl a ft)(h2:DW X fl (.BoolOp .And (b::rest) pos) gt):DW X fl (.BoolOp .And (a::b::rest) pos) (lA ft gt):=PW.imp (WM h1 h2) λσ H Q h=>by
 refine cW h λG ow δ t R Y q=>?_
 refine bO Y λx W Z=>?_
 refine⟨G,ow,δ,x,R,W,λH1 s1=>?_⟩
 cases x with
 |true=>exact Cy ⟨G,ow,δ,t,R.grow s1,Z,λH2 s2=>q H2 (s1.trans s2)⟩
 |false=>cases Z;exact Cw (q H1 s1)
theorem ux(h1:DT X fl a ft)(h2:DW X fl (.BoolOp .Or (b::rest) pos) gt):DW X fl (.BoolOp .Or (a::b::rest) pos) (tOr ft gt):=PW.imp (Zv h1 h2) λσ H Q h=>by
 refine cW h λG ow δ t R Y q=>?_
 refine bO Y λx W Z=>?_
 refine⟨G,ow,δ,x,R,W,λH1 s1=>?_⟩
 cases x with
 |true=>cases Z;exact Cy (q H1 s1)
 |false=>exact Cw ⟨G,ow,δ,t,R.grow s1,Z,λH2 s2=>q H2 (s1.trans s2)⟩
theorem yj(h:DW X fl a ft):DT X fl a ft:=PW.pt h
theorem vN{op O:eg}{r r':R2}{g g':D->D->Option D}(ho:OpR X (compareOp op) r)(ho':OpR X (compareOp O) r')(hb:BrO X.K r g)(hb':BrO X.K r' g')(h1:DE X fl .P a fa)(h2:DE X fl .P b fb)(h3:DE X fl .P c fc)
 (hm:lastMarks [op,O] [b,c]=false:=by with_unfolding_all rfl):DE X fl .FC (.Compare a [op,O] [b,c] pos) (jD g g' fa fb fc):=PE.imp (Oj ho ho' h1 h2 h3 hm) λσ H Q h=>by
 refine cW h λG ow δ d R Z q=>?_
 refine bO Z λx I Z=>?_
 refine bO Z λy J Z=>?_
 refine bO Z λz L Z=>?_
 refine⟨G,ow,δ,x,R,I,λv H1 s1 M=>⟨G,ow,δ,y,R.grow s1,J,λu H2 s2 V=>?_⟩⟩;refine hb H2 v u x y z _ (RA.same s2 M) V L λF U Y=>?_
 split at Z
 ·obtain rfl:=Y.blE;refine bO Z λw e4 e5=>?_
  refine⟨true,rfl,Cy ⟨G,ow,δ,w,R.grow (s1.trans s2),e4,λS T W N=>?_⟩⟩;exact hb' T u S y w d Q (RA.same W V) N e5 λz U Y=>q z T (s1.trans (s2.trans W)) (.inl ⟨U,Y⟩)
 ·obtain rfl:=Y.blE
  cases Z;exact⟨false,rfl,Cw (q _ H2 (s1.trans s2) (.inl ⟨rfl,.bl _⟩))⟩
 ·cases Z
theorem Mg{op Y O:eg}{r r' r'':R2}{g g' g'':D->D->Option D}{d:Expr}{fd:FE}(ho:OpR X (compareOp op) r)(ho':OpR X (compareOp Y) r')(ho'':OpR X (compareOp O) r'')(hb:BrO X.K r g)(hb':BrO X.K r' g')(hb'':BrO X.K r'' g'')(h1:DE X fl .P a fa)(h2:DE X fl .P b fb)(h3:DE X fl .P c fc)(h4:DE X fl .P d fd)
 (hm:lastMarks [op,Y,O] [b,c,d]=false:=by with_unfolding_all rfl):DE X fl .FC (.Compare a [op,Y,O] [b,c,d] pos) (vG g g' g'' fa fb fc fd):=PE.imp (LC ho ho' ho'' h1 h2 h3 h4 hm) λσ H Q h=>by
 refine cW h λG ow δ dd R Z q=>?_
 refine bO Z λx n Z=>?_
 refine bO Z λy o Z=>?_
 refine bO Z λz p Z=>?_
 refine⟨G,ow,δ,x,R,n,λv H1 s1 B=>⟨G,ow,δ,y,R.grow s1,o,λu H2 s2 M=>?_⟩⟩;refine hb H2 v u x y z _ (RA.same s2 B) M p λm L U=>?_
 split at Z
 ·obtain rfl:=U.blE;refine bO Z λw e4 Z=>?_
  refine bO Z λE e5 Z=>?_
  refine⟨true,rfl,Cy ⟨G,ow,δ,w,R.grow (s1.trans s2),e4,λT I V N=>?_⟩⟩;refine hb' I u T y w E _ (RA.same V M) N e5 λF A W=>?_
  split at Z
  ·obtain rfl:=W.blE;refine bO Z λt e6 s=>?_
   refine⟨true,rfl,Cy ⟨G,ow,δ,t,R.grow (s1.trans (s2.trans V)),e6,λtv J S C=>?_⟩⟩;exact hb'' J T tv w t dd Q (RA.same S N) C s λz L U=>q z J (s1.trans (s2.trans (V.trans S))) (.inl ⟨L,U⟩)
  ·obtain rfl:=W.blE
   cases Z;exact⟨false,rfl,Cw (q _ I (s1.trans (s2.trans V)) (.inl ⟨rfl,.bl _⟩))⟩
  ·cases Z
 ·obtain rfl:=U.blE
  cases Z;exact⟨false,rfl,Cw (q _ H2 (s1.trans s2) (.inl ⟨rfl,.bl _⟩))⟩
 ·cases Z
theorem Pn{K:PySem.W.Frag}{ok:Ok}{pl:Bool}{H:Hp}{v:V}{d:D}(r:RA K ok pl H v d):decide (v = .non)=isNone d:=by
 cases r<;>rfl
theorem Xn{j pos'}(h:DE X fl .P a f):DE X fl .FC (.Compare a [.Is] [.Constant .none j pos'] pos) (dUn Al f):=PE.imp (Wz (NZ h)) λσ H Q h=>by
 refine cW h λG ow δ d R Y q=>?_
 refine bO Y λx V W=>?_
 cases W;refine⟨G,ow,δ,x,R,V,λv H1 s1 Z=>?_⟩;show Q (.bl (decide (v = .non))) H1;rw[Pn (RA.same (Same.refl H1) Z)];exact q _ H1 s1 (.inl ⟨rfl,.bl _⟩)
def BrC(K:PySem.W.Frag)(r:List V->Hp->VK->Prop)(g:List D->Option D):Prop:=∀(H:Hp)(xs:List V)(ds:List D)(d:D)(Q:VK),RAs K ok1 true H xs ds->g ds=some d->(∀v,flat d=true->RA K ok0 false H v d->Q v H)->r xs H Q
theorem fV{id:String}{r:List V->Hp->VK->Prop}{g:List D->Option D}{x:Str}{p:Pos}{fa:FA}(hc:jP X (.builtin id) r)(hb:BrC X.K r g)(hg:Gl X x)(hm:X.mg x=none)(O:bootBuiltins x=some (.builtin id))(ha:DB X fl .P (e::es) fa)(hn:x≠"__name__" := by decide)(Z:(x==("__debug__":Str))=false:=by decide)
 (he:starEach (e::es) X.env=(false,eval e X.env)::starEach es X.env:=by exact j6 rfl) (Y:(backTo pos (starEach es X.env)).any (·.1)=false:=by exact zF rfl):DE X fl .FC (.Call (.Name x p) (e::es) [] pos) (dCall g fa):=
 PE.imp (yV hc hg hm O ha hn Z he Y) λσ H Q h=>by
 refine cW h λG ow δ d R T q=>?_
 refine bO T λds N S=>?_
 exact⟨G,ow,δ,ds,R,N,λvs H' s U=>hb H' vs ds d Q U S λv O W=>q v H' s (.inl ⟨O,W⟩)⟩
theorem rE{K:PySem.W.Frag}:BrC K (λxs H Q=>∃p ys,xs=[.ref p]/\(SqL K H p ys\/SqT K H p ys)/\Q (.int ys.length) H) nD:=by
 intro H xs ds d Q r e q;unfold nD at e;split at e
 ·next l=>
  cases e
  cases r with
  |cons Y Z=>
   cases Z;obtain⟨a,ys,rfl,hx,X⟩:=Y.lstE;refine⟨a,ys,rfl,.inl hx,?_⟩;rw[X.length];exact q _ rfl (.int _)
 ·next l=>
  cases e
  cases r with
  |cons Y Z=>
   cases Z;obtain⟨a,ys,rfl,hx,X⟩:=Y.tupE;refine⟨a,ys,rfl,.inr hx,?_⟩;rw[X.length];exact q _ rfl (.int _)
 ·cases e
theorem Pq{K:PySem.W.Frag}:BrC K (λxs H Q=>∃i,xs=[.int i]/\Q (.int (if i<0 then -i else i)) H) Fv:=by
 intro H xs ds d Q r e q;unfold Fv at e;split at e
 ·cases e
  cases r with
  |cons Y Z=>
   cases Z;obtain rfl:=Y.intE;exact⟨_,rfl,q _ rfl (.int _)⟩
 ·cases e
theorem Xo{K:PySem.W.Frag}:BrC K (λxs H Q=>∃i j,xs=[.int i,.int j]/\Q (.int (if j>i then j else i)) H) JT:=by
 intro H xs ds d Q r e q;unfold JT at e;split at e
 ·cases e
  cases r with
  |cons X Z=>
   cases Z with
   |cons Z Y=>
    cases Y;obtain rfl:=X.intE;obtain rfl:=Z.intE;exact⟨_,_,rfl,q _ rfl (.int _)⟩
 ·cases e
theorem Xp{K:PySem.W.Frag}:BrC K (λxs H Q=>∃i j,xs=[.int i,.int j]/\Q (.int (if j<i then j else i)) H) JV:=by
 intro H xs ds d Q r e q;unfold JV at e;split at e
 ·cases e
  cases r with
  |cons X Z=>
   cases Z with
   |cons Z Y=>
    cases Y;obtain rfl:=X.intE;obtain rfl:=Z.intE;exact⟨_,_,rfl,q _ rfl (.int _)⟩
 ·cases e
theorem TX(d:D):tyD d="NoneType"\/tyD d="bool"\/tyD d="int"\/tyD d="str"\/tyD d="list"\/tyD d="tuple"\/tyD d="dict" := by
 cases d<;>simp[tyD]
def aj5(K:PySem.W.Frag):List V->Hp->VK->Prop:=λxs H Q=>∃x c d,xs=[x,.ty c]/\(c="int"\/c="bool"\/c="tuple"\/c="list"\/c="str")/\RA K ok1 true H x d/\noI d=true/\Q (.bl (isT c (tyD d))) H
theorem Pr:jP X (.builtin "isinstance") (aj5 X.K):=by
 intro pins s σ H xs us Q I r h;obtain⟨x,c,d,rfl,hc,ra,hx,q⟩:=h;obtain⟨u,N,rfl,Y,P⟩:=vals2 r
 cases P;have kn:=Xe (K:=X.K) hc (TX d);have Z:∀tk,EP X pins σ Q (.bool (isT c (tyD d))) {s with toks:=tk}:=λtk=>⟨.bl _,H,I.tok _,rfl,q⟩
 cases ra with
 |non=>cases(show u=df from Y);exact PySem.W.kia_one PySem.W.kitx_none I.kIn cv kn (λz=>nomatch z) Z
 |bl b=>cases(show u=c_ b from Y);exact PySem.W.kia_one PySem.W.kitx_bool I.kIn cv kn (λz=>nomatch z) Z
 |int i=>obtain⟨t,z⟩:=(show ∃t,u=dS i t from Y);cases z;exact PySem.W.kia_one PySem.W.kitx_int I.kIn cv kn (λz=>nomatch z) Z
 |str y=>obtain⟨t,z⟩:=(show ∃t,u=dy y t from Y);cases z;exact PySem.W.kia_one PySem.W.kitx_str I.kIn cv kn (λz=>nomatch z) Z
 | @lst a xs ds e k R=>
  cases(show u=cb a from Y);obtain⟨its,_,⟨o,n,T,U,_⟩,_⟩:=I.list (SqL.of e);exact PySem.W.kia_one PySem.W.kitx_list I.kIn ⟨_,T,U⟩ kn (λz=>nomatch z) Z
 | @lsk a xs ds e k R=>
  cases(show u=cb a from Y);obtain⟨its,_,⟨o,n,T,U,_⟩,_⟩:=I.list e.sq;exact PySem.W.kia_one PySem.W.kitx_list I.kIn ⟨_,T,U⟩ kn (λz=>nomatch z) Z
 | @tup a xs ds e R=>
  cases(show u=cb a from Y);obtain⟨its,_,⟨o,T,U,_⟩,_⟩:=I.tuple e.sq;exact PySem.W.kia_one PySem.W.kitx_tuple I.kIn ⟨_,T,U⟩ kn (λz=>nomatch z) Z
 | @dic a S kvs e g k=>
  rcases g.or with⟨ks,z⟩|⟨ks,z⟩
  ·rw[z]at e;exact Bh I Y (TyOf.dK e) kn Z
  ·rw[z]at e;exact Bh I Y (TyOf.dT e) kn Z
 | @dik a S kvs V e g k=>
  cases(show u=cb a from Y);have V:=(show iM X.prog X.w H s.heap a S from(show L2.Rd H a S from .inr ⟨_,e⟩).ok I.hok);rcases g.or with⟨ks,z⟩|⟨ks,z⟩
  ·rw[z]at V;obtain⟨_,_,vs,_,dd⟩:=V;obtain⟨O,_,_,h1,h2,_⟩:=dd;exact PySem.W.kia_one PySem.W.kitx_dict I.kIn ⟨_,h1,h2.1⟩ kn (λz=>nomatch z) Z
  ·rw[z]at V;obtain⟨_,_,xs,_,O,_,_,h1,h2,_⟩:=V;exact PySem.W.kia_one PySem.W.kitx_dict I.kIn ⟨_,h1,h2.1⟩ kn (λz=>nomatch z) Z
 |ins _ _ _ z=>rw[z]at hx;cases hx
theorem uP{T:String}{x:Str}{p O:Pos}(hc:T="int"\/T="bool"\/T="tuple"\/T="list"\/T="str")(h:DE X fl .P a f)(hg:Gl X "isinstance")(hm:X.mg "isinstance"=none)(hg':Gl X x)(hm':X.mg x=none)(Y:bootBuiltins x=some (.type T))
 (hn':x≠"__name__" := by decide) (hd':(x==("__debug__":Str))=false:=by decide)
 (he:starEach [a,.Name x O] X.env=(false,eval a X.env)::starEach [.Name x O] X.env:=by rfl) (he2:starEach [.Name x O] X.env=(false,eval (.Name x O) X.env)::starEach [] X.env:=by rfl) (hpl:(backTo pos (starEach [.Name x O] X.env)).any (·.1)=false:=by rfl) :
 DE X fl .FC (.Call (.Name "isinstance" p) [a,.Name x O] [] pos) (dUn (gIs T) f):=
 PE.imp (yV Pr hg hm boot_isinstance (kO h (kO (Sq (v:=.ty T) hg' hm' Y rfl hn' hd') nC he2) he) (by decide) (by decide) he hpl) λσ H Q h=>by
 refine cW h λG ow δ d R V q=>?_
 refine bO V λx U Z=>?_
 unfold gIs at Z;split at Z
 ·rename_i hx
  cases Z;exact⟨G,ow,δ,x,R,U,λv H1 s1 W=>⟨v,T,x,rfl,hc,W,hx,q _ H1 s1 (.inl ⟨rfl,.bl _⟩)⟩⟩
 ·cases Z
theorem Xq(h:DE X fl .P a f):DE X fl .FC (.UnaryOp .USub a pos) (dUn Tp f):=PE.imp (ZK W7 h) λσ H Q h=>by
 refine cW h λG ow δ d R W q=>?_
 refine bO W λx V Z=>?_
 refine⟨G,ow,δ,x,R,V,λv H1 s1 Y=>?_⟩;unfold Tp at Z;split at Z
 ·cases Z;obtain rfl:=RA.intE Y;exact⟨_,rfl,q _ H1 s1 (.inl ⟨rfl,.int _⟩)⟩
 ·cases Z
end
def spD(K:PySem.W.Frag)(F:List D->Option D):Sp:=λvs H Q _=>∃ds d,(Tb H/\RAs K ok1 true H vs ds)/\F ds=some d/\∀v H',Same H H'->RA K (okN H) false H' v d->Q v H'
section
variable{P:bP}{w:b8}{K:PySem.W.Frag}{mg:Str->Option Value}{base:cc}{x:Str}{ps N:List Str}{st:cm}{k n:Nat}{fs:FS}{fl:List Fl}
theorem tK{vs:List V}{ds:List D}{H:Hp}(p:Nat)(Y:∀i,i<p->fl[i]? = some .A)(hl:ds.length=p)(hN:p<=N.length)(O:Tb H/\RAs K ok1 true H vs ds):
 Rel K fl ⟨H,H,λ_=>none,λ_=>[],O.1,λ_=>none⟩ ow0 (L2.start N vs) H (ds.map (λd=>some (.d d))++aX (N.length-p) none):=by
 have r:=O.2;have Z:vs.length=p:=by rwa[r.length]
 have get:∀i d,(ds.map (λd=>some (U.d d))++aX (N.length-p) none)[i]? = some (some (.d d))->i<p/\ds[i]? = some d:=λi d h=>by
  by_cases hi:i<p
  ·rw[cC (by rwa[aG,hl]),aR]at h
   cases e:ds[i]? with
   |none=>rw[e]at h;cases h
   |some z=>rw[e]at h;cases h;exact⟨hi,rfl⟩
  ·rw[cL (by rw[aG,hl];omega),dI]at h;split at h<;>cases h
 refine⟨Same.refl H,Same.refl H,?_,λi a h=>(by cases h),λi j a h=>(by cases h),λi h=>rfl,λi d h _ _=>?_,λi d h _ h2 _=>?_,λi a h=>(by cases h),λi j a h=>(by cases h),λi j a h=>(by cases h),λi h=>rfl,λi d hn h=>?_,λi u h e=>(by cases e)⟩
 ·unfold L2.start;simp only[bH,aG,bK,Z,hl]
 ·obtain⟨hi,e⟩:=get i d h;obtain⟨v,W,X⟩:=r.get e;refine⟨v,?_,X.imp (λ_ _=>⟨λi z=>(by cases z),λi z=>(by cases z)⟩) (λz=>z)⟩;unfold L2.start;rw[cC (by rwa[aG,Z]),aR,W];rfl
 ·exact absurd (Y i (get i d h).1) h2
 ·rw[Y i (get i d h).1]at hn
  cases hn
end
section
variable{X:Cx}{fl:List Fl}{e:Expr}{es:List Expr}{pos p:Pos}{x:Str}{ps:List Str}{n:Nat}{F:List D->Option D}{fa:FA}
theorem bR(h:Has X.prog X.w X.K X.mg X.base n x ps (spD X.K F))(hr:Room n X.A)(ha:DB X fl .P (e::es) fa)(hg:Gl X x:=by rfl)(Y:(x==("__debug__":Str))=false:=by decide)
 (he:starEach (e::es) X.env=(false,eval e X.env)::starEach es X.env:=by exact j6 rfl) (O:(backTo pos (starEach es X.env)).any (·.1)=false:=by exact zF rfl) :
 DE X fl .C (.Call (.Name x p) (e::es) [] pos) (dCall F fa):=PE.imp (O5 h hr ha hg Y he O) λσ H Q h=>by
 refine cW h λG ow δ d R W q=>?_
 refine bO W λds U V=>?_
 refine⟨G,ow,δ,ds,R,U,λvs H' s r=>?_⟩;show spD X.K F (vs++[]) H' Q E0;rw[dN];exact⟨ds,d,⟨R.tb.same s,r⟩,V,λv H2 s2 Z=>q v H2 (s.trans s2) (RA.imp (λa z=>s.free z) (λz=>z) Z)⟩
end
end D3
namespace D3
open L2 My
section
variable{X:Cx}{fl fl':List Fl}{e a b c elt tg iter:Expr}{es ifs:List Expr}{k:Kd}{f fa fb fc:FE}{ft gt:FT}{pos:Pos}{scope:db}{ix L TT:List Nat}{fi:FA}{g:FG}
theorem nT:PTs X [] (tDT X.K fl D3.mD):=λpins s σ H Q I h=>by
 refine cW h λG ow δ b R Z q=>?_
 cases Z;exact Tf pins s σ H Q I (q H (Same.refl H))
theorem TY{K:PySem.W.Frag}{G:Gh}{ow:Ow}{σ:St}{H H1:Hp}{δ:DS}(t:Nat)(ix:List Nat)(O:∀i,i<t+ix.length->fl'[i]? = some .A)(R:Rel K fl G ow σ H δ)(s:Same H H1):
 Rel K fl' ⟨H,H,λ_=>none,λ_=>[],R.tb,λ_=>none⟩ ow0 (Aj t ix σ) H1 (oZ t ix δ):=by
 have get:∀i d,(oZ t ix δ)[i]? = some (some (.d d))->i<t+ix.length/\∃j,ix[i-t]? = some j/\t<=i/\δ[j]? = some (some (.d d)):=λi d h=>by
  unfold oZ at h;by_cases hi:i<t
  ·rw[cC (by rwa[bK]),dI,if_pos hi]at h
   cases h
  ·rw[cL (by rw[bK];omega),bK,aR]at h
   cases e:ix[i-t]? with
   |none=>rw[e]at h;cases h
   |some j=>
    rw[e]at h;have hl:i-t<ix.length:=by
     rcases lG (i-t) ix.length with z|z
     ·exact z
     ·rw[bL z]at e;cases e
    refine⟨by omega,j,rfl,by omega,?_⟩;have h':(δ[j]?).getD none=some (.d d):=by simpa using h
    cases q:δ[j]? with
    |none=>rw[q]at h';cases h'
    |some o=>rw[q]at h';simp at h';rw[h']
 refine⟨Same.refl H,s,?_,λi a h=>(by cases h),λi j a h=>(by cases h),λi h=>rfl,λi d h _ _=>?_,λi d h _ h2 _=>absurd (O i (get i d h).1) h2,λi a h=>(by cases h),λi j a h=>(by cases h),λi j a h=>(by cases h),λi h=>rfl,λi d hn h=>(by rw[O i (get i d h).1]at hn;cases hn),λi u h e=>(by cases e)⟩
 ·unfold Aj oZ;simp
 ·obtain⟨hi,j,U,T,Y⟩:=get i d h;have Z:∃v,σ[j]? = some (some v)/\RA K ok1 true H v d:=by
   cases V:isN fl[j]? with
   |true=>
    obtain⟨v,h1,h2,_⟩:=R.nr j d V Y;exact⟨v,h1,h2.ra λ_ _=>trivial⟩
   |false=>
   cases X:ow j with
   |none=>
    obtain⟨v,h1,h2⟩:=R.dat j d Y V X;exact⟨v,h1,h2.imp (λ_ _=>trivial) (λz=>z)⟩
   |some a=>
    obtain⟨_,_,xs,ds,h1,h2,h3,h4⟩:=R.own j a X;rw[Y]at h4
    cases h4;exact⟨_,h1,.lst h2 trivial (h3.imp (λ_ _=>trivial) (λz=>z))⟩
  obtain⟨v,h1,h2⟩:=Z;refine⟨v,?_,(h2.imp (λ_ _=>⟨λi z=>(by cases z),λi z=>(by cases z)⟩) (λz=>z)).same s⟩;unfold Aj;rw[cL (by rw[bK];omega),bK,aR,U];show some ((σ[j]?).getD none)=_;rw[h1];rfl
theorem xU{σ:St}{H:Hp}{Q:VK}{t:Nat}(hfl:∀i,i<t+ix.length->fl'[i]? = some .A)(htg:∀j∈TT,j<t)
 (h:tD X.K fl .FC (iB fi g ft f t ix) σ H Q):JQ (tDI X.K fl L fi) (tDG X.K fl' TT g) (tDT X.K fl' ft) (tD X.K fl' .C f) t (Aj t ix) σ H Q:=by
 refine cW h λG ow δ d R hf q=>?_
 refine bO hf λl e1 O=>?_
 by_cases hl:l.length<=100000
 case neg=>rw[if_neg hl]at O;cases O
 rw[if_pos hl]at O;refine bO O λr e3 e4=>?_
 cases e4;refine⟨G,ow,δ,l,R,e1,λJ H1 s1 c Dl w=>?_⟩;have R1:=R.grow s1
 let T:Ok:=λb=>okN H b/\b≠Dl
 refine⟨λi m xs H2=>m=l.length-i/\H2 Dl=some (.lst xs)/\Same H1 H2/\xs.length<=i/\i<=l.length/\∃ds rest,RAs X.K T false H2 xs ds/\jQ g ft f (oZ t ix δ) (l.drop i)=some rest/\r=ds++rest,
  ⟨_,rfl,cM,cN w _,aQ _,jh _,[],r,.nil,by simpa using e3,rfl⟩,?_⟩
 rintro i m xs H2 ⟨rfl,Y,s2,E,B,ds,rest,D,hc,rfl⟩;refine⟨Y,?_⟩;obtain⟨w1,a⟩:=c H2 (λb o hb _ _=>s2 b o hb) i;by_cases V:i<l.length
 ·have P:=oW V;rw[P,jQ]at hc;refine bO hc λU e5 hc=>?_
  refine bO hc λu e6 hc=>?_
  obtain⟨go,k⟩:=w1 l[i] (aO V);refine .inr ⟨go,oF (bM E (bM B hl)) (by decide),λx H3 hy=>?_⟩;obtain⟨M,r3⟩:=k x H3 hy;have I:=s2.trans M;have Rb:=(TY t ix hfl R1 (Same.refl H1)).grow I;refine⟨_,_,_,_,U,Rb,r3.imp (λ_ _=>⟨λi z=>(by cases z),λi z=>(by cases z)⟩) (λz=>z),e5,λp s S=>⟨?_,?_⟩⟩
  ·apply vm;intro n;rw[oG,oG];exact S (t+n) λz=>absurd (htg _ z) (by omega)
  ·refine⟨_,_,U,u,s,e6,λH5 N=>?_⟩
   cases u with
   |false=>
    rw[if_neg cX]at hc ⊢;have Z:=M.trans N;exact⟨l.length-(i+1),by omega,rfl,Z _ _ Y,s2.trans Z,by omega,V,ds,rest,D.same Z,hc,rfl⟩
   |true=>
    rw[if_pos rfl]at hc ⊢;refine bO hc λy e7 hc=>?_
    refine bO hc λl' e8 hc=>?_
    cases hc;refine⟨_,_,U,y,s.grow N,e7,λv H6 s6 r6=>?_⟩;have Z:=M.trans N;have W:=Z.trans s6;refine⟨W _ _ Y,l.length-(i+1),by omega,rfl,cM,?_,by rw[bH,rH];omega,V,ds++[y],l',?_,e8,by simp⟩
    ·intro b o hb;rw[bW (λz=>by subst z;rw[w]at hb;cases hb)];exact(s2.trans W) b o hb
    ·have nd:¬T Dl:=λz=>z.2 rfl
     have F:=s1.trans (s2.trans Z);have ry:RA X.K T false H6 v y:=RA.imp (λb z=>⟨F.free z,λe=>by subst e;rw[okN,Z _ _ Y]at z;cases z⟩) (λz=>z) r6;exact((D.same W).append (.cons ry .nil)).upd (W _ _ Y) nd
 ·have ed:l.drop i=[]:=qj (by omega);rw[ed,jQ]at hc
  cases hc;refine .inl ⟨a (by omega),?_⟩;rw[dN]at q;exact q (.ref Dl) H2 (s1.trans s2) (.inr ⟨Dl,xs,ds,rfl,rfl,s1.free w,Y,D⟩)
theorem qJ(hc:X.calm=true)(T Z:List Str)(ix:List Nat)(hi:DI X fl L tg iter fi)
 (hg:∀cl C s3 H3 fp,DG (blk X (T++Z) scope cl C s3 H3 fp) fl' TT tg g) (ht:∀cl C s3 H3 fp,PTs (blk X (T++Z) scope cl C s3 H3 fp) ifs (tDT X.K fl' ft)) (he:∀cl C s3 H3 fp,DE (blk X (T++Z) scope cl C s3 H3 fp) fl' .C elt f)
 (hfl:∀i,i<T.length+ix.length->fl'[i]? = some .A:=by decide) (htg:∀j∈TT,j<T.length:=by decide)
 (hB:zj X.N X.env.scope.names scope.names Z ix=true:=by rfl) (hk:scope.kind = .function:=by rfl) (Y:∀y∈scope.names,y.2 ≠ .cell:=by decide +kernel)
 (O:∀x∈scope.names,x.2 = .local->scope.names.lookup x.1=some .local:=by decide +kernel)
 (hfr:∀x∈scope.names,x.2 = .free->x.1∈Z:=by decide +kernel) (hs:∀x,foldedSetIterable iter X.env x=pure x:=by intro _;rfl) :
 DE X fl .FC (.ListComp elt [⟨tg,iter,ifs,0⟩] scope pos) (iB fi g ft f T.length ix):=
 PE.imp (Tg hc T Z ix hi hg ht he hB hk Y O hfr hs) λ_ _ _ h=>xU hfl htg h
theorem pX{i:Nat}{x:Str}{pos' spos:Pos}(hfx:fl[i]? = some .A)(hN:X.N.Nodup)(hi':X.N[i]? = some x)(hx:X.env.scope.names.lookup x=some .local)(hc:X.calm=true)(T Z:List Str)(ix:List Nat)(hi:DI X fl L tg iter fi)
 (hg:∀cl C s3 H3 fp,DG (blk X (T++Z) scope cl C s3 H3 fp) fl' TT tg g) (ht:∀cl C s3 H3 fp,PTs (blk X (T++Z) scope cl C s3 H3 fp) ifs (tDT X.K fl' ft)) (he:∀cl C s3 H3 fp,DE (blk X (T++Z) scope cl C s3 H3 fp) fl' .C elt f)
 (hfl:∀i,i<T.length+ix.length->fl'[i]? = some .A:=by decide) (htg:∀j∈TT,j<T.length:=by decide)
 (hsw:swapsWith (.ListComp elt [⟨tg,iter,ifs,0⟩] scope pos) (some (.Name x pos')) spos.line X.env=pure true:=by rfl)
 (hB:zj X.N X.env.scope.names scope.names Z ix=true:=by rfl) (hk:scope.kind = .function:=by rfl) (Y:∀y∈scope.names,y.2 ≠ .cell:=by decide +kernel)
 (O:∀x∈scope.names,x.2 = .local->scope.names.lookup x.1=some .local:=by decide +kernel)
 (hfr:∀x∈scope.names,x.2 = .free->x.1∈Z:=by decide +kernel) (hs:∀x,foldedSetIterable iter X.env x=pure x:=by intro _;rfl) :
 DS1 X fl (.Assign [.Name x pos'] (.ListComp elt [⟨tg,iter,ifs,0⟩] scope pos) spos) (bD i (iB fi g ft f T.length ix)):=
 PS.imp (Ti hN hi' hx hc T Z ix hi hg ht he hsw hB hk Y O hfr hs) λS σ H h=>by
 refine cW h λG ow δ o R W q=>?_
 unfold bD at W;by_cases hl:i<δ.length
 ·rw[if_pos hl]at W;refine bO W λd U V=>?_
  cases V;exact xU (fl:=fl) hfl htg ⟨G,ow,δ,d,R,U,λv H' s r=>q ow _ H' ((R.grow s).setA hfx (mR R hl) ((r.FC_F R).F_A R))⟩
 ·rw[if_neg hl]at W
  cases W
theorem FJ{K:PySem.W.Frag}{G:Gh}{ow:Ow}{H H1:Hp}{p:Addr}{vs:List V}{l:List D}(s:Same H H1)(O:H1 p=none)(r:RAs K (okA ow) true H1 vs l):Rs K G.H0 ow H (upd H1 p (.lst vs)) .F (.ref p) (.list l):=
 .inr ⟨p,vs,l,rfl,rfl,s.free O,cM,(r.track.imp (λb w=>⟨w.1,λe=>w.2 (e▸O)⟩) (λz=>z)).same (cN O _)⟩
theorem zH{K:PySem.W.Frag}{H0:Hp}{ow:Ow}{Hb H:Hp}{L:List Nat}{v:V}{l:List D}(r:Rs K H0 ow Hb H (.B L) v (.list l)):∃a xs,v = .ref a/\SqL K H a xs/\RAs K (okA ow) true H xs l:=by
 rcases r with r|⟨i,hi,a,xs,ds,Y,rfl,e,hx,Z⟩
 ·exact r.lstE
 ·cases e;exact⟨a,xs,rfl,SqL.of hx,Z⟩
def Z_(K:PySem.W.Frag):R2:=λx y H Q=>∃l b xs zs,x = .ref l/\y = .ref b/\SqL K H l xs/\SqL K H b zs/\xs.length+zs.length<=sizeLine/\∀p,H p=none->Q (.ref p) (upd H p (.lst (xs++zs)))
theorem T4:OpR X (binaryOp .Add) (Z_ X.K):=by
 intro pins s σ H x y v u Q I N O h;obtain⟨l,b,xs,zs,rfl,rfl,M,hB,L,q⟩:=h
 cases N
 cases O;obtain⟨its,r,p,_⟩:=I.list M;obtain⟨Z,S,p2,_⟩:=I.list hB;obtain⟨⟨cls,dd,data,sl⟩,R,hc,n,hd⟩:=p.isList;obtain⟨⟨P,T,data2,U⟩,Y,V,n2,W⟩:=p2.isList;simp only at hc hd V W;subst hc hd V W;have G:=r.length;have J:=S.length;have e:its.toArray++Z.toArray=(its++Z).toArray:=by simp
 refine bg ⟨_,R,rfl⟩ ⟨_,Y,rfl⟩ noFill_list_add seq_list_add PySem.F.slot_list_add PySem.F.entry_list_add (PySem.F.args_list_add_2 _ _) (list_addW l b its.toArray Z.toArray n n2 dd T sl U (by simp;omega)) ⟨R,Y,?_⟩;rw[e];exact⟨.ref _,_,I.lnew (t':=s.toks) (r.append S) (by rw[bH];omega),rfl,q _ I.fresh⟩
theorem CQ{L L':List Nat}(h1:DE X fl (.B L) a fa)(h2:DE X fl (.B L') b fb):DE X fl .F (.BinOp a .Add b pos) (dOp ud fa fb):=PE.imp (JG T4 h1 h2) λσ H Q h=>by
 refine cW h λG ow δ d R P q=>?_
 refine D3.ex2 (zB P) λx y N O Z=>?_
 refine⟨G,ow,δ,x,R,N,λv H1 s1 T=>⟨G,ow,δ,y,R.grow s1,O,λu H2 s2 U=>?_⟩⟩;unfold ud at Z;split at Z
 ·next l m=>
  by_cases z:l.length+m.length<=1000000
  ·rw[if_pos z]at Z
   cases Z;obtain⟨p,xs,rfl,hx,W⟩:=zH T;obtain⟨S,ys,rfl,hy,Y⟩:=zH U;refine⟨p,S,xs,ys,rfl,rfl,s2.seq hx,hy,?_,λpn V=>q _ _ ((s1.trans s2).trans (cN V _)) (FJ (G:=G) (s1.trans s2) V ((W.same s2).append Y))⟩;rw[W.length,Y.length];exact bM z (by decide)
  ·rw[if_neg z]at Z
   cases Z
 ·cases Z
theorem RAs.rep{K:PySem.W.Frag}{ok:Ok}{pl:Bool}{H:Hp}{vs:List V}{l:List D}(r:RAs K ok pl H vs l):∀n:Nat,RAs K ok pl H (aX n vs).flatten (aX n l).flatten
 |0=>.nil
 |n+1=>by
  rw[cY,cY,gB,gB];exact r.append (RAs.rep r n)
theorem Pu(h1:DE X fl .F a fa)(h2:DE X fl .P b fb):DE X fl .F (.BinOp a .Mult b pos) (dOp HS fa fb):=PE.imp (JG Xd h1 h2) λσ H Q h=>by
 refine cW h λG ow δ d R T q=>?_
 refine D3.ex2 (zB T) λx y N O Z=>?_
 refine⟨G,ow,δ,x,R,N,λv H1 s1 V=>⟨G,ow,δ,y,R.grow s1,O,λu H2 s2 W=>?_⟩⟩;unfold HS at Z;split at Z
 ·next l k=>
  by_cases z:l.length*k.toNat<=1000000/\-(2^63)<=k/\k<2^63
  ·rw[if_pos z]at Z
   cases Z;obtain rfl:=RA.intE W;rcases V with⟨U,_⟩|⟨p,xs,ds,rfl,S,h3,h4,h5⟩
   ·simp[flat]at U
   ·cases S;refine⟨p,k,xs,rfl,rfl,s2 _ _ h4,z.2.1,z.2.2,?_,λpn Y=>q _ _ ((s1.trans s2).trans (cN Y _)) (FJ (G:=G) (s1.trans s2) Y (((h5.imp (λb w=>w.1) (λz=>z)).same s2).rep _))⟩;rw[h5.length];exact bM z.1 (by decide)
  ·rw[if_neg z]at Z
   cases Z
 ·cases Z
theorem CT{L:List Nat}{p:Pos}(h:DE X fl (.B L) a f)(hg:Gl X "list")(hm:X.mg "list"=none)
 (he:starEach [a] X.env=(false,eval a X.env)::starEach [] X.env:=by rfl) (O:(backTo pos (starEach [] X.env)).any (·.1)=false:=by rfl):DE X fl .F (.Call (.Name "list" p) [a] [] pos) (dUn vH f):=
 PE.imp (pP Cv hg hm boot_list (kO h nC he) (by decide) (by decide) he O) λσ H Q h=>by
 refine cW h λG ow δ d R U q=>?_
 refine bO U λx T Y=>?_
 refine⟨G,ow,δ,x,R,T,λv H1 s1 W=>?_⟩;unfold vH at Y;split at Y
 ·cases Y;obtain⟨p,xs,rfl,hx,V⟩:=zH W;exact⟨p,xs,rfl,.inl hx,λpn Z=>q _ _ (s1.trans (cN Z _)) (FJ (G:=G) s1 Z V)⟩
 ·cases Y;rcases W with W|⟨i,hi,a,xs,ds,S,rfl,e,hx,V⟩
  ·obtain⟨p,xs,rfl,hx,V⟩:=W.tupE;exact⟨p,xs,rfl,.inr hx,λpn Z=>q _ _ (s1.trans (cN Z _)) (FJ (G:=G) s1 Z V)⟩
  ·cases e
 ·cases Y
def tDO(K:PySem.W.Frag)(fl:List Fl)(f:FO):TO:=λσ H Q=>∃G ow δ o,Rel K fl G ow σ H δ/\f δ=some o/\∀H',Same H H'->Q o H'
theorem PO.imp{o:Option Expr}{t t':TO}(h:PO X o t)(i:∀σ H Q,t' σ H Q->t σ H Q):PO X o t':=λpins s σ H Q I q=>h pins s σ H Q I (i σ H Q q)
theorem nU:PO X none (tDO X.K fl fZ):=PO.imp S7 λσ H Q h=>by
 refine cW h λG ow δ o R Z q=>?_
 cases Z;exact q H (Same.refl H)
theorem nW(h:DE X fl .P e f):PO X (some e) (tDO X.K fl (f9 f)):=PO.imp (S8 h) λσ H Q h=>by
 refine cW h λG ow δ o R W q=>?_
 refine bO W λd V Z=>?_
 split at Z
 ·cases Z;refine⟨G,ow,δ,_,R,V,λv H1 s1 Y=>?_⟩;obtain rfl:=RA.intE Y;exact⟨_,rfl,q H1 s1⟩
 ·cases Z
theorem CV(n d:Nat)(o:Option Int):HT.sIx n d o=pSx n d o:=by
 cases o<;>rfl
theorem RAs.cut{K:PySem.W.Frag}{ok:Ok}{pl:Bool}{H:Hp}{vs:List V}{l:List D}(r:RAs K ok pl H vs l)(lo hi:Option Int):RAs K ok pl H (Fb vs lo hi) (cuD l lo hi):=by
 unfold Fb cuD;rw[r.length,CV,CV];exact(r.drop _).take _
theorem J3{L:List Nat}{lo hi:Option Expr}{p2:Pos}{fl1 O:FO}(h:DE X fl (.B L) a f)(h1:PO X lo (tDO X.K fl fl1))(h2:PO X hi (tDO X.K fl O)):DE X fl .F (.Subscript a (.Slice lo hi none p2) pos) (dSl f fl1 O):=PE.imp (yX S_ h h1 h2) λσ H Q h=>by
 refine cW h λG ow δ d R Y q=>?_
 refine bO Y λx J Y=>?_
 refine bO Y λV M Y=>?_
 refine bO Y λW N e4=>?_
 refine⟨G,ow,δ,x,R,J,λv H1 s1 S=>⟨G,ow,δ,V,R.grow s1,M,λH2 s2=>⟨G,ow,δ,W,R.grow (s1.trans s2),N,λI T=>?_⟩⟩⟩;split at e4
 ·cases e4;obtain⟨p,xs,rfl,hx,P⟩:=zH S;have Z:=s2.trans T;exact⟨p,xs,rfl,Z.seq hx,λpn U=>q _ _ ((s1.trans Z).trans (cN U _)) (FJ (G:=G) (s1.trans Z) U ((P.same Z).cut V W))⟩
 ·cases e4
theorem lO{st:cm}:DS1 X fl st (λ_=>none):=PS.imp N_ λY σ H h=>by
 refine cW h λG ow δ o R Z q=>?_
 cases Z
end
end D3
namespace D3
open L2 My
section
variable{X:Cx}{pins:List (Addr×Obj)}{σ:St}{H:Hp}{s:bE}{h':cc}
theorem Inv.turnedL{t':Nat}{ch:List Addr}(I:Inv X pins σ H s)(k:∀b o,b∉ch->s.heap.get? b=some o->h'.get? b=some o)(O:∀b∈ch,wJ X pins H b):Inv X pins σ H {s with heap:=h',toks:=t'}:=by
 have Z:∀b u,H b=some u->b∉ch:=λb u e z=>by rw[(O b z).1]at e;cases e
 refine I.step (g':=s.gens) (d':=s.drawn) (ch:=ch) (λb hb=>?_) (λb o _ _ hc e _=>k b o hc e) (λb o _ _ hc e _=>⟨o.slots,k b o hc e⟩) (λ_ _ _ _ n=>n)
  (λb o hc e=>⟨o,k b o hc e⟩) (λ_ _ e=>e) (λ_ _ _ e=>e) (λ_ _ _ e=>e) (λm hm=>?_) (λb u e=>?_) I.bare
 ·obtain⟨S,f1,f2,U,V,W⟩:=O b hb;exact⟨U,f1,V,W⟩
 ·obtain⟨o,es,T,Y,r⟩:=hm;exact⟨o,es,T,k _ o (λz=>(O _ z).2.1 rfl) Y,r⟩
 ·refine(I.hok b u e).stay (λc v hc q=>k c v ?_ q) (λ_ q=>q) λ_ _ q=>q
  rcases hc with z|z
  ·rw[z];exact Z b u e
  ·exact Z c _ z
end
def Ite(K:PySem.W.Frag)(a:Addr):It:=
 ⟨λi H=>∃xs x,SqL K H a xs/\xs[i]? = some x,λi H x H'=>∃p y,H p=none/\H'=upd H p (.tup [.int i,y])/\x = .ref p/\∀xs,SqL K H a xs->xs[i]? = some y,λi H=>∃xs,SqL K H a xs/\xs.length<=i⟩
theorem J4{X:Cx}{P:bP}{w:b8}{K:PySem.W.Frag}{tg:Expr}{J:It}{fp:List Addr}{it:Addr}{tn:Nat->cc->Prop}(h:X.still=true)(T:Turn P w K tg J fp it tn true):Turn P w K tg J fp it tn X.still:=by rwa[h]
theorem Mh{P:bP}{w:b8}{K:PySem.W.Frag}{elts:List Expr}{x1}{tpos:Pos}(a it:Addr):
 Turn P w K (.Tuple elts x1 tpos) (Ite K a) [it+1,it] (it+1) (λi h=>∃old,IsEnum h (it+1) it (i:Int) old/\h.IsListIter it a i) true where
 mem:=by simp
 obj:=λi h st b hb=>by
  obtain⟨old,Y,o,e,c,d⟩:=st;rcases bI.mp hb with z|z
  ·subst z;exact⟨_,Y,λv z=>by cases z⟩
  ·have z:b=it:=by simpa using z
   subst z;exact⟨o,e,λv z=>by rw[d]at z;cases z⟩
 keep:=λi h h' st k=>by
  obtain⟨old,Y,hi⟩:=st;exact⟨old,k _ (by simp) _ Y,hi.at λo e=>k it (by simp) o e⟩
 item:=by
  intro X M hw hK hc V i pins s σ H E I T st O;subst M hw hK;obtain⟨xs,x,hq,hx⟩:=O;obtain⟨its,R,p,G⟩:=I.list hq;obtain⟨u,F,J⟩:=R.get hx;obtain⟨old,Y,hi⟩:=st;have U:=ae Y;refine wpAny_pyNext_enum_item Y hi p.isList (x:=u) (by simpa using F) (Nat.succ_ne_self it) λh1 B Q D C A=>?_
  refine⟨_,rfl,wpAny_letOwnedTupleGo_enum B λh2 N Z=>?_⟩
  replace Z:dv (it+1) h1 h2:=Z
  have hn:=I.hok.fresh (aQ _);have I0:Inv X pins σ (upd H s.heap.objs.size (.tup [.int (i:Int),x])) {s with heap:=s.heap.push {cls:=.type "tuple", data:=.seq #[.int (i:Int) s.toks,u]} }:=
   I.laid (t':=s.toks) (λb o e=>ad _ e) (aQ _) ⟨show 2<=sizeLine by decide,[.int (i:Int) s.toks,u],.cons ⟨_,rfl⟩ (.cons J .nil),⟨_,ag _ rfl,rfl,_,rfl⟩⟩
  have ne:∀b,b∈[it+1,it]->b≠s.heap.objs.size:=λb hb=>by
   rcases bI.mp hb with S|S
   ·rw[S];exact b_ U
   ·rw[show b=it by simpa using S];exact b_ (Nat.lt_of_succ_lt U)
  have r:Inv X pins σ (upd H s.heap.objs.size (.tup [.int (i:Int),x])) {s with heap:=h2,toks:=s.toks+1}:=by
   refine Inv.turnedL (s:={s with heap:=s.heap.push {cls:=.type "tuple", data:=.seq #[.int (i:Int) s.toks,u]} }) (ch:=[it+1,it]) I0 (λb o hb e=>?_) λb hb=>⟨by rw[bW (ne b hb)];exact(T b hb).1,(T b hb).2⟩
   have b1:b≠it+1:=λz=>hb (by simp[z])
   have b2:b≠it:=λz=>hb (by simp[z])
   rcases Heap.get?_push_cases e with⟨L,t⟩|L
   ·subst L t;exact(Z.2 _ b1).trans D
   ·exact(Z.2 _ b1).trans (A b o b1 b2 L)
  refine⟨.ref s.heap.objs.size,_,r,rfl,⟨_,x,hn,rfl,rfl,λys hy=>by rwa[I.list_inj hy hq]⟩,⟨_,N,Q.at λo e=>(Z.2 _ (b_ (jY it))).trans e⟩,λb hb=>?_⟩;rw[bW (ne b hb)];exact(T b hb).1
 done:=by
  intro X M hw hK hc V i pins s σ H E I T st O;subst M hw hK;obtain⟨xs,hq,hx⟩:=O;obtain⟨its,R,p,G⟩:=I.list hq;obtain⟨old,Y,hi⟩:=st;have hl:=R.length;refine wpAny_pyNext_enum_end (I.ok.hs (V rfl)) Y hi p.isList (by simp;omega) λh' y=>⟨rfl,Inv.turnedL (t':=s.toks) (ch:=[it+1,it]) I (λb o hb e=>y b o (λz=>hb (by simp[z])) e) T⟩
 self:=λ_ _ _ _ _ st h=>by
  obtain⟨old,Y,_⟩:=st;exact wpAny_pyIter_enum Y h
section
variable{X:Cx}{fl:List Fl}{a:Expr}{f:FE}{pos:Pos}
def aa0(K:PySem.W.Frag)(tl:TE):TI:=λσ H R=>tl σ H λx H1=>∃a,x = .ref a/\(∃xs,SqL K H1 a xs)/\R (Ite K a) H1
theorem T5{elts:List Expr}{x1}{tpos p:Pos}{tl:TE}(hg:Gl X "enumerate")(hm:X.mg "enumerate"=none)(hl:PE X a tl)(he:starEach [a] X.env=(false,eval a X.env)::starEach [] X.env:=by rfl)
 (hpl:(backTo pos (starEach [] X.env)).any (·.1)=false:=by rfl) (O:X.still=true:=by rfl):PI X (.Tuple elts x1 tpos) (.Call (.Name "enumerate" p) [a] [] pos) (aa0 X.K tl):=by
 intro pins s σ H R I h;refine ay (wI I hg hm boot_enumerate (cE (thn ((kO hl nC he) pos pins s σ H (λvs H1=>match vs with|[x]=>∃a,x = .ref a/\(∃xs,SqL X.K H1 a xs)/\R (Ite X.K a) H1|_=>False) I h) λus s1 ⟨vs,H1,W,T,q1⟩=>?_) he hpl))
 cases T with
 |nil=>exact q1.elim
 |cons r U=>
  cases U with
  |cons _ _=>exact q1.elim
  |nil=>
  obtain⟨l,e,⟨xs,hq⟩,q⟩:=q1;subst e
  cases r;obtain⟨its,N,pl,M⟩:=W.list hq;refine call_enumerate_list pl.isList λh' Z V S Q=>?_
  have P:=W.kept (t':=s1.toks) Q;refine wpAny_pyIter_enum (s:={s1 with heap:=h'}) Z ?_;refine⟨s1.heap.objs.size+1,[s1.heap.objs.size+1,s1.heap.objs.size],_,_,H1,rfl,P,(J4 O <| Mh l s1.heap.objs.size),⟨_,Z,V⟩,λb hb=>?_,q⟩;have Y:s1.heap.objs.size<=b:=by
   rcases bI.mp hb with z|z
   ·rw[z];exact mX _
   ·rw[show b=s1.heap.objs.size by simpa using z];exact aQ _
  exact W.fpOk Y (W.hok.fresh Y)
theorem J5{elts:List Expr}{x1}{tpos p:Pos}{L:List Nat}(h:DE X fl (.B L) a f)(hg:Gl X "enumerate")(hm:X.mg "enumerate"=none)(he:starEach [a] X.env=(false,eval a X.env)::starEach [] X.env:=by rfl)
 (hpl:(backTo pos (starEach [] X.env)).any (·.1)=false:=by rfl) (O:X.still=true:=by rfl):DI X fl L (.Tuple elts x1 tpos) (.Call (.Name "enumerate" p) [a] [] pos) (JW f):=PI.imp (T5 hg hm h he hpl O) λσ H R' h=>by
 refine cW h λG ow δ l R N q=>?_
 refine bO N λd M U=>?_
 cases d<;>first|(cases U;done)|skip
 next W=>
 cases U;refine⟨G,ow,δ,_,R,M,λv H1 s r=>?_⟩;obtain⟨a,xs,rfl,hx,keep⟩:=HY (R.grow s) r;refine⟨a,rfl,⟨xs,hx⟩,q _ _ s λH2 k2 i=>?_⟩;obtain⟨k3,V⟩:=keep H2 k2;refine⟨λd hd=>?_,λhl=>⟨xs,k3,by rw[V.length];simpa[o_]using hl⟩⟩;have Z:(W[i]?).map (λx=>di [.int (i:Int),x])=some d:=by
  have:=hd;unfold o_ at this;rw[fX]at this;exact this
 cases e:W[i]? with
 |none=>rw[e]at Z;cases Z
 |some K=>
  rw[e]at Z
  cases Z;obtain⟨y,hy,S⟩:=V.get e;refine⟨⟨xs,y,k3,hy⟩,λx J Y=>?_⟩;obtain⟨p,T,P,rfl,rfl,Q⟩:=Y;have:some y=some T:=hy.symm.trans (Q xs k3)
  cases this;have g:=cN P (.tup [.int (i:Int),y]);exact⟨g,.tup (.inl cM) (.cons (.int _) (.cons (S.same g) .nil))⟩
end
structure Bl(mg:Str->Option Value):Prop where
 len_:mg "len"=none
 range_:mg "range"=none
 abs_:mg "abs"=none
 isinstance_:mg "isinstance"=none
 int_:mg "int"=none
 bool_:mg "bool"=none
 tuple_:mg "tuple"=none
 list_:mg "list"=none
 str_:mg "str"=none
 max_:mg "max"=none
 min_:mg "min"=none
 sorted_:mg "sorted"=none
 sum_:mg "sum"=none
 reversed_:mg "reversed"=none
 enumerate_:mg "enumerate"=none
 zip_:mg "zip"=none
 set_:mg "set"=none
 any_:mg "any"=none
 all_:mg "all"=none
 dict_:mg "dict"=none
end D3
namespace D3
open L2 My
structure FunD(K:PySem.W.Frag)(x:Str)(st:cm)(f:Addr)(fd:ca):Prop where
 ex:∃(oc:Value)(od:Option Addr)(dV kV doc pm:Value)(an:Option Addr)(cdv ct:Value)(osl:Array (Option Value)),
  fd=PySem.W.fnOf x x (iQ st) (dJ st) (aP st) dV kV doc pm an cdv ct/\K.lookup f=some ⟨oc,od,.func fd,osl⟩/\PySem.W.codeIn K cdv x=true
 kp:PySem.W.keepIn K (.ref f)=true
structure Dg(K:PySem.W.Frag)(mg:Str->Option Value)(x:Str)(st:cm)(ps:List Str):Prop where
 ex:∃(f:Addr)(fd:ca),FunD K x st f fd/\Binds K fd ps []/\mg x=some (.ref f)
theorem Xr{K:PySem.W.Frag}{h:cc}{mg:Str->Option Value}{f T:Addr}{oc kV Y pm O ct:Value}{od an:Option Addr}{sl:Array (Option Value)}{x:Str}{st:cm}{ps:List Str}{o:Obj}{items:Array Value}{n:Nat}(X:K.In h)(G:h.Ns mainGlobals mg)
 (hb:∀(kV doc pm:Value)(an:Option Addr)(cdv ct:Value)(us:List Value),us.length=ps.length->∃k,bindArgs (PySem.W.fnOf x x (iQ st) (dJ st) (aP st) (.ref T) kV doc pm an cdv ct) ⟨us,[]⟩=(seqItems? (.ref T) >>= k)/\k (some items)=pure (ps.zip us))
 (a:PySem.W.nsIn K mainGlobals x=some (some (.ref f))) (l:K.lookup f=some ⟨oc,od,.func (PySem.W.fnOf x x (iQ st) (dJ st) (aP st) (.ref T) kV Y pm an O ct),sl⟩) (c:PySem.W.codeIn K O x=true) (k:PySem.W.keepIn K (.ref f)=true)
 (hT:K.lookup T=some o) (hs:o.data = .seq items n):Dg K mg x st ps:=
 ⟨_,_,⟨⟨oc,od,.ref T,kV,Y,pm,an,O,ct,sl,rfl,l,c⟩,k⟩,λs us Z hl=>by
  rw[dN]at hl ⊢;obtain⟨k,h1,h2⟩:=hb kV Y pm an O ct us hl;exact aI (T:=T) rfl (Z T o hT) hs h1 h2,PySem.W.mg_of X G a⟩
theorem aa1{K:PySem.W.Frag}{h:cc}{mg:Str->Option Value}{f:Addr}{oc kV Y pm O ct:Value}{od an:Option Addr}{sl:Array (Option Value)}{x:Str}{st:cm}{ps:List Str}(X:K.In h)(G:h.Ns mainGlobals mg)
 (hb:∀(kV doc pm:Value)(an:Option Addr)(cdv ct:Value)(us:List Value),us.length=ps.length->bindArgs (PySem.W.fnOf x x (iQ st) (dJ st) (aP st) .none kV doc pm an cdv ct) ⟨us,[]⟩=pure (ps.zip us))
 (a:PySem.W.nsIn K mainGlobals x=some (some (.ref f))) (l:K.lookup f=some ⟨oc,od,.func (PySem.W.fnOf x x (iQ st) (dJ st) (aP st) .none kV Y pm an O ct),sl⟩) (c:PySem.W.codeIn K O x=true) (k:PySem.W.keepIn K (.ref f)=true):Dg K mg x st ps:=
 ⟨_,_,⟨⟨oc,od,.none,kV,Y,pm,an,O,ct,sl,rfl,l,c⟩,k⟩,.all (hb kV Y pm an O ct),PySem.W.mg_of X G a⟩
structure Dl(K:PySem.W.Frag)(mg:Str->Option Value)(x y:Str)(st:cm):Prop where
 ex:∃(f:Addr)(fd:ca),FunD K x st f fd/\(∀(s:bE)(u:Value),BindsTo s fd ⟨[u],[]⟩ [(y,u)])/\mg x=some (.ref f)
theorem aa2{K:PySem.W.Frag}{h:cc}{mg:Str->Option Value}{f:Addr}{oc kV Y pm O ct:Value}{od an:Option Addr}{sl:Array (Option Value)}{x y:Str}{st:cm}(X:K.In h)(G:h.Ns mainGlobals mg)
 (hb:∀(kV doc pm:Value)(an:Option Addr)(cdv ct:Value)(u:Value),bindArgs (PySem.W.fnOf x x (iQ st) (dJ st) (aP st) .none kV doc pm an cdv ct) ⟨[u],[]⟩=pure [(y,u)])
 (a:PySem.W.nsIn K mainGlobals x=some (some (.ref f))) (l:K.lookup f=some ⟨oc,od,.func (PySem.W.fnOf x x (iQ st) (dJ st) (aP st) .none kV Y pm an O ct),sl⟩) (c:PySem.W.codeIn K O x=true) (k:PySem.W.keepIn K (.ref f)=true):Dl K mg x y st:=
 ⟨_,_,⟨⟨oc,od,.none,kV,Y,pm,an,O,ct,sl,rfl,l,c⟩,k⟩,λs u=>.of_eq (hb kV Y pm an O ct u),PySem.W.mg_of X G a⟩
section
variable{P:bP}{w:b8}{K:PySem.W.Frag}{mg:Str->Option Value}{base:cc}{x:Str}{ps N:List Str}{st:cm}{k n:Nat}{fs:FS}{fl:List Fl}
theorem FunD.ok{f:Addr}{fd:ca}{sp:Sp}(F:FunD K x st f fd)(S:FnScope N ps (aP st))(len:∀vs H Q E,sp vs H Q E->vs.length=ps.length)
 (O:∀(cdv:Value)(A:bX)(outer:List Env)(s:bE)(H:Hp)(vs:List V)(Q:VK)(E:XK),Room k (A.deeper (envOfC x (aP st) s.heap.objs.size f cdv))->sp vs H Q E ->
  ∃t,PSs (Ag CX0 P w K mg base N x (aP st) f cdv A outer s H E).nox (dJ st) t/\t {nx:=λ_ H'=>Q .non H',rt:=Q} (L2.start N vs) H):FnOk P w K mg base CX0 (k+1) f fd ps sp:=by
 obtain⟨oc,od,dV,kV,doc,pm,an,cdv,ct,osl,rfl,lk,hcd⟩:=F.ex;refine Ov lk hcd S len λA outer s H vs Q E Y Z=>?_
 obtain⟨t,h,q⟩:=O cdv A outer s H vs Q E Y Z;exact⟨t,h.nox,q⟩
theorem Px{f:Addr}{fd:ca}(Fn:FunD K x st f fd)(S:FnScope N ps (aP st))(Y:∀i,i<ps.length->fl[i]? = some .A)(hN:ps.length<=N.length)
 (O:∀(f:Addr)(cdv:Value)(A:bX)(outer:List Env)(s:bE)(H:Hp)(E:XK),Room k (A.deeper (envOfC x (aP st) s.heap.objs.size f cdv))->DSs (cx P w K mg base N x st f cdv A outer s H E) fl (dJ st) fs) :
 FnOk P w K mg base CX0 (k+1) f fd ps (spD K (fnD ps.length (N.length-ps.length) fs)):=by
 refine Fn.ok S (λvs H Q E h=>?_) (λcdv A outer s H vs Q E V h=>?_)
 ·obtain⟨ds,d,r,Z,_⟩:=h;unfold fnD at Z;by_cases z:ds.length=ps.length
  ·rwa[r.2.length]
  ·rw[if_neg z]at Z;cases Z
 ·obtain⟨ds,d,r,Z,q⟩:=h;refine⟨_,O f cdv A outer s H E V,?_⟩;unfold fnD at Z;by_cases z:ds.length=ps.length
  ·rw[if_pos z]at Z;split at Z
   ·next U e=>
    cases Z;exact⟨_,_,_,_,tK ps.length Y z hN r,e,λv H' s r=>q v H' s r⟩
   ·next X e=>
    cases Z;exact⟨_,_,_,_,tK ps.length Y z hN r,e,λW σ' H' R'=>q .non H' R'.same0 .non⟩
   ·cases Z
  ·rw[if_neg z]at Z;cases Z
theorem fH(Dd:Dg K mg x st ps)(S:FnScope N ps (aP st))(Y:∀i,i<ps.length->fl[i]? = some .A)(hN:ps.length<=N.length)
 (O:∀(f:Addr)(cdv:Value)(A:bX)(outer:List Env)(s:bE)(H:Hp)(E:XK),Room k (A.deeper (envOfC x (aP st) s.heap.objs.size f cdv))->DSs (cx P w K mg base N x st f cdv A outer s H E) fl (dJ st) fs) :
 Has P w K mg base (k+1) x ps (spD K (fnD ps.length (N.length-ps.length) fs)):=by
 obtain⟨f,fd,Z,b,m⟩:=Dd.ex;exact⟨f,fd,Px Z S Y hN O,b,Z.kp,m⟩
end
noncomputable def Py(K:PySem.W.Frag):Sp:=λvs H Q _=>∃(a:Addr)(ns:List Int),Tb H/\vs=[.ref a]/\SqL K H a (ns.map V.int)/\ns.length<=63/\∀H',Q (.bl true) H'
theorem vO{K:PySem.W.Frag}{ok:Ok}{pl:Bool}{H:Hp}:∀ns:List Int,RAs K ok pl H (ns.map V.int) (ns.map bS)
 |[]=>.nil
 |n::r=>.cons (.int n) (vO r)
theorem T6{K:PySem.W.Frag}{F:List D->Option D}(O:∀ns:List Int,ns.length<=63->F [.list (ns.map .int)]=some (.bool true))(vs:List V)(H:Hp)(Q:VK)(E:XK)(h:Py K vs H Q E):spD K F vs H Q E:=by
 obtain⟨a,ns,tb,rfl,Z,hl,q⟩:=h;refine⟨_,_,⟨tb,.cons ?_ .nil⟩,O ns hl,λv H' s r=>?_⟩
 ·rcases Z with(h|⟨o,h⟩)|h
  ·exact .lst h trivial (vO ns)
  ·exact .lsk (.inl ⟨o,h⟩) rfl (vO ns)
  ·exact .lsk (.inr h) rfl (vO ns)
 ·obtain rfl:=r.blE;exact q H'
end D3
namespace D3
open L2 My
section
variable{prog:bP}{w:b8}{A:bX}{E:Value->bE->Prop}{s:bE}
end
section
variable{X:Cx}{fl:List Fl}{a:Expr}{f:FE}{pos p p2 pos2:Pos}
end
section
variable{X:Cx}{fl:List Fl}{a b:Expr}{pos p p2 pos2:Pos}{fa:FA}
end
end D3
namespace D3
open L2 My
section
variable{X:Cx}
theorem sG:∀{ns:List Int}{its:List Value},Vals (ns.map V.int) its->IntsAre its ns
 |[],_,.nil=>.nil
 |n::r,_,.cons h t=>by
  obtain⟨k,rfl⟩:=h;exact .cons _ _ (sG t)
theorem tL(hc:X.still=true):jP X (.builtin "sum") (λxs H Q=>∃(p:Addr)(ns:List Int),xs=[.ref p]/\SqL X.K H p (ns.map V.int)/\Q (.int ns.sum) H):=by
 intro pins s σ H xs us Q I r h;obtain⟨p,ns,rfl,hx,q⟩:=h;obtain⟨u,rfl,W⟩:=vals1 r
 cases W;obtain⟨its,Y,pl,P⟩:=I.list hx;have hi:=sG Y;obtain⟨xs,Z⟩:=hi.allInts.items;have hl:s.heap.IsList p (intItems xs):=Z▸pl.isList;refine sum_intListG (I.ok.hs hc) hl λh' tk R U=>?_
 have S:ns=xs.toList.map (·.1):=by
  rw[<-nums_intItems,<-Z];exact(show numsOf its.toArray.toList=ns from hi.numsOf).symm
 have T:preSum (numAt xs) xs.size=ns.sum:=by
  rw[preSum_eq,jk (by simp),S]
 rw[T];exact⟨.int _,H,I.kept U,⟨_,rfl⟩,q⟩
theorem sI{K:PySem.W.Frag}{ok:Ok}{pl:Bool}{H:Hp}:∀{l:List D}{ns:List Int}{ys:List V},m6 l=some ns->RAs K ok pl H ys l->ys=ns.map V.int
 |[],_,_,e,.nil=>by cases e;rfl
 |d::r,ns,_,e,.cons h t=>by
  cases d<;>first|(cases e;done)|skip
  obtain rfl:=h.intE
  cases Z:m6 r with
  |none=>rw[m6,Z]at e;cases e
  |some m=>
   rw[m6,Z]at e
   cases e;rw[sI Z t];rfl
theorem J6{K:PySem.W.Frag}:BrC K (λxs H Q=>∃(p:Addr)(ns:List Int),xs=[.ref p]/\SqL K H p (ns.map V.int)/\Q (.int ns.sum) H) pU:=by
 intro H xs ds d Q r e q;unfold pU at e;split at e
 ·next l=>
  cases Z:m6 l with
  |none=>rw[Z]at e;cases e
  |some ns=>
   rw[Z]at e
   cases e
   cases r with
   |cons X Y=>
    cases Y;obtain⟨a,ys,rfl,hx,U⟩:=X.lstE;obtain rfl:=sI Z U;exact⟨a,ns,rfl,hx,q _ rfl (.int _)⟩
 ·cases e
theorem Bu:∀{l m:List Int},l.Perm m->l.Pairwise (· <= ·)->m.Pairwise (· <= ·)->l=m
 |[],m,p,_,_=>p.nil_eq
 |a::l,m,p,h1,h2=>by
  cases m with
  |nil=>exact absurd p.length_eq (by simp)
  |cons b m=>
   obtain⟨a1,a2⟩:=gZ.mp h1;obtain⟨b1,b2⟩:=gZ.mp h2;have e:a=b:=by
    have x1:=p.mem_iff.mp aN;have x2:=p.mem_iff.mpr aN;rcases bI.mp x1 with z|z
    ·exact z
    ·rcases bI.mp x2 with y|y
     ·exact y.symm
     ·exact Int.le_antisymm (a1 b y) (b1 a z)
   subst e;rw[Bu (List.Perm.cons_inv p) a2 b2]
theorem pR:∀{ns:List Int}{its:List Value},IntsAre its ns->Vals (ns.map V.int) its
 |_,_,.nil=>.nil
 |_,_,.cons n t r=>.cons ⟨t,rfl⟩ (pR r)
theorem CW:jP X (.builtin "sorted") (λxs H Q=>∃(p:Addr)(ns:List Int),xs=[.ref p]/\SqL X.K H p (ns.map V.int)/\ns.length<64/\∀l,H l=none->Q (.ref l) (upd H l (.lst ((Cz ns).map V.int)))):=by
 intro pins s σ H xs us Q I r h;obtain⟨p,ns,rfl,hx,Y,q⟩:=h;obtain⟨u,rfl,W⟩:=vals1 r
 cases W;obtain⟨its,Z,pl,P⟩:=I.list hx;have hi:=sG Z;refine sorted_ints pl.isList hi (by rwa[hi.length]) λout U a1 a2 a3=>?_
 obtain rfl:=Bu (a2.trans (n8 ns).symm) a3 (rZ ns);obtain⟨e,S⟩:=sortedAll_at s.heap its out;have hn:=I.hok.fresh (mX _);have T:=(n8 ns).length_eq;have R:=I.laid (h':=sortedAll s.heap its out) (t':=s.toks) (a:=s.heap.objs.size+1) (o:=.lst ((Cz ns).map V.int)) (λb u e=>sortedAll_old e) (mX _)
  ⟨by rw[aG,T];exact bM (nM Y) (by decide),out.toList,e,pR a1,by simpa[seqObj]using S⟩
 exact⟨.ref _,_,R,rfl,q _ hn⟩
theorem Mi{fl:List Fl}{e:Expr}{fa:FA}{p pos:Pos}(ha:DB X fl .P [e] fa)(hg:Gl X "sorted")(hm:X.mg "sorted"=none)
 (he:starEach [e] X.env=(false,eval e X.env)::starEach [] X.env:=by rfl) (O:(backTo pos (starEach [] X.env)).any (·.1)=false:=by rfl):DE X fl .FC (.Call (.Name "sorted" p) [e] [] pos) (dCall JR fa):=
 PE.imp (yV CW hg hm (show bootBuiltins "sorted"=some (.builtin "sorted")by decide +kernel) ha (by decide) (by decide) he O) λσ H Q h=>by
 refine cW h λG ow δ d R N q=>?_
 refine bO N λds M Z=>?_
 refine⟨G,ow,δ,ds,R,M,λvs H' s T=>?_⟩;unfold JR at Z;split at Z
 ·next l=>
  cases W:m6 l with
  |none=>rw[W]at Z;cases Z
  |some ns=>
   rw[W,aH]at Z;by_cases Y:ns.length<64
   ·rw[if_pos Y]at Z
    cases Z
    cases T with
    |cons U V=>
     cases V;obtain⟨a,ys,rfl,hx,S⟩:=U.lstE;obtain rfl:=sI W S;exact⟨a,ns,rfl,hx,Y,λl hn=>q _ _ (s.trans (cN hn _)) (.inr ⟨_,_,_,rfl,rfl,s.free hn,cM,vO _⟩)⟩
   ·rw[if_neg Y]at Z;cases Z
 ·cases Z
end
end D3
namespace D3
open L2 My
def gK(n:Nat)(us ws:List α):List α:=if ws.length=n then us++ws else []
structure HasD(P:bP)(w:b8)(K:PySem.W.Frag)(mg:Str->Option Value)(base:cc)(n:Nat)(x:Str)(ps:List Str)(sp:Sp)(dvs:List V)(ks:List Str):Prop where
 ex:∃(f:Addr)(fd:ca)(ds:List Value),FnOk P w K mg base CX0 n f fd ps sp/\Binds K fd ps ds/\Vals dvs ds/\KBinds K fd ps ks (gK ks.length) (gK ks.length)/\PySem.W.keepIn K (.ref f)=true/\mg x=some (.ref f)
structure DgD(K:PySem.W.Frag)(mg:Str->Option Value)(x:Str)(st:cm)(ps:List Str)(dvs:List V)(ks:List Str):Prop where
 ex:∃(f:Addr)(fd:ca)(ds:List Value),FunD K x st f fd/\Binds K fd ps ds/\Vals dvs ds/\KBinds K fd ps ks (gK ks.length) (gK ks.length)/\mg x=some (.ref f)
section
variable{P:bP}{w:b8}{K:PySem.W.Frag}{mg:Str->Option Value}{base:cc}{x:Str}{ps N ks:List Str}{st:cm}{k n:Nat}{fs:FS}{fl:List Fl}{dvs:List V}
theorem HasD.mono{sp:Sp}(h:HasD P w K mg base k x ps sp dvs ks)(l:k<=n):HasD P w K mg base n x ps sp dvs ks:=by
 obtain⟨f,fd,ds,F,b,v,Z,kp,m⟩:=h.ex;exact⟨f,fd,ds,F.mono l,b,v,Z,kp,m⟩
end
section
variable{X:Cx}{fl:List Fl}{e ke:Expr}{es:List Expr}{pos p kpos:Pos}{x kn:Str}{ps:List Str}{n:Nat}{F:List D->Option D}{fa:FA}{fk:FE}{i:Int}{dvs:List V}
theorem Pz{j pos'}{a:Expr}{f:FE}(h:DE X fl .P a f):DT X fl (.Compare a [.Is] [.Constant .none j pos'] pos) (aY (dUn Al f)):=PT.imp (WD (NZ h)) λσ H Q h=>by
 refine cW h λG ow δ c R Y q=>?_
 refine bO Y λd U V=>?_
 refine bO U λx W e4=>?_
 cases e4
 cases V;refine⟨G,ow,δ,x,R,W,λv H1 s1 Z=>?_⟩;refine⟨decide (v = .non),rfl,?_⟩;rw[Pn (RA.same (Same.refl H1) Z)];exact q H1 s1
end
end D3
namespace D3
open L2 My
section
variable{X:Cx}
theorem Mj(hc:X.still=true):jP X (.builtin "min") (λxs H Q=>∃(p:Addr)(i:Int)(r:List Int),xs=[.ref p]/\SqL X.K H p ((i::r).map V.int)/\Q (.int (mnI i r)) H):=by
 intro pins s σ H xs us Q I r h;obtain⟨p,i,Y,rfl,hx,q⟩:=h;obtain⟨u,rfl,T⟩:=vals1 r
 cases T;obtain⟨its,W,pl,M⟩:=I.list hx;have hi:=sG W;obtain⟨xs,e⟩:=hi.allInts.items;have Z:i::Y=xs.toList.map (·.1):=by rw[<-hi.numsOf,<-nums_intItems,<-e]
 have U:0<xs.size:=by
  have h3:0<(i::Y).length:=by simp
  rw[Z,aG,dU]at h3;exact h3
 have hl:=e▸pl.isList;refine min_intList (I.ok.hs hc) hl U λv h' tk P O=>?_
 obtain⟨t,rfl⟩:=intItems_at P;obtain⟨h1,h2⟩:=argBest_lt (numAt xs) (xs.size-1);have R:numAt xs (argBest (λi j=>decide (numAt xs i<numAt xs j)) (xs.size-1))∈i::Y:=by
  rw[Z,numAt_eq];exact getD_mem (by rw[aG,dU];omega)
 have S:∀a∈i::Y,numAt xs (argBest (λi j=>decide (numAt xs i<numAt xs j)) (xs.size-1))<=a:=λa ha=>by
  rw[Z]at ha;obtain⟨j,N,rfl⟩:=mem_getD ha;rw[aG,dU]at N;rw[<-numAt_eq];exact h2 j (by omega)
 have sp:=zx Y i;have eq:=Int.le_antisymm (S _ sp.1) (sp.2 _ R);rw[eq];exact⟨.int _,H,I.kept O,⟨_,rfl⟩,q⟩
theorem Xu{K:PySem.W.Frag}:BrC K (λxs H Q=>∃(p:Addr)(i:Int)(r:List Int),xs=[.ref p]/\SqL K H p ((i::r).map V.int)/\Q (.int (mnI i r)) H) Fw:=by
 intro H xs ds d Q r e q;unfold Fw at e;split at e
 ·next l=>
  split at e
  ·next i X T=>
   cases e
   cases r with
   |cons Y Z=>
    cases Z;obtain⟨a,ys,rfl,hx,U⟩:=Y.lstE;obtain rfl:=sI T U;exact⟨a,i,X,rfl,hx,q _ rfl (.int _)⟩
  ·cases e
 ·cases e
theorem FP:∀{bs:List Bool}{its:List Value},Vals (bs.map V.bl) its->its=bs.map c_
 |[],_,.nil=>rfl
 |b::r,_,.cons h t=>by
  cases h;rw[FP t];rfl
theorem all_range(bs:List Bool):(cB bs.length).all (λi=>bs.getD i false)=bs.all id:=by
 rw[Bool.eq_iff_iff,eZ,eZ]
 constructor
 ·intro h b hb;obtain⟨i,hi,rfl⟩:=List.getElem_of_mem hb;have:=h i (eF.mpr hi);rwa[cj,aO hi]at this
 ·intro h i hi;have hi:=eF.mp hi;rw[cj,aO hi];exact h _ (jZ hi)
theorem FQ{prog:bP}{w:b8}{A:bX}(bs:List Bool):TruthOf prog w A (λi v=>(bs.map c_).toArray[i]? = some v) (λi=>bs.getD i false):=by
 intro i v s Q E X W;have Z:(bs.map c_)[i]? = some v:=by simpa using X
 rw[aR]at Z
 cases e:bs[i]? with
 |none=>rw[e]at Z;cases Z
 |some b=>
  rw[e]at Z
  cases Z;have V:bs.getD i false=b:=by rw[cj,e];rfl
  have Y:Q (bs.getD i false) s:=W;rw[V]at Y;exact ah Y
def hAd(A:bX):List Addr:=match A.handled with
 |some (.ref h)=>[h]
 |_=>[]
theorem Ih{prog:bP}{w:b8}{A:bX}(I O:Addr)(hne:O≠I)(items:Array Value):
 Walks prog w A I ([I,O]++hAd A) [I] items.size (λi v=>items[i]? = some v) (λi h=>h.IsListIter I O i/\h.IsList O items/\Hq A h) where
 sub:=λb hb=>by simp at hb;simp[hb]
 frame:=λ_ _ _ st W=>⟨st.1.at λo e=>W I (by simp) o e,st.2.1.at λo e=>W O (by simp) o e,by
  rcases st.2.2 with z|⟨h,o,C,vs,U,R,S⟩
  ·exact .inl z
  ·exact .inr ⟨h,o,C,vs,U,W h (by simp[hAd,U]) o R,S⟩⟩
 item:=λi s Q E hi st X=>by
  obtain⟨N,T,P,_⟩:=id st.1;refine wpAny_pyNext_list_item st.1 st.2.1 (x:=items[i]) (by simp[hi]) λh' Y Z=>?_
  exact X _ h' s.toks (by simp[hi]) ⟨Y,st.2.1.extBut Z.extBut hne,st.2.2.keep λh o C c e=>Z.extBut h o (NK T P e c) e⟩ λb o hb e=>Z.extBut b o (λh=>hb (by simp[h])) e
 done:=λs Q E st X=>Bd st.2.2 st.1 st.2.1 (by simp) λh' V=>X h' s.toks λb o hb e=>V b o (λh=>hb (by simp[h])) e
 self:=λ_ _ _ _ st X=>wpAny_pyIter_listiter st.1 X
theorem Bv(hc:X.calm=true):jP X (.builtin "all") (λxs H Q=>∃(p:Addr)(bs:List Bool),xs=[.ref p]/\SqL X.K H p (bs.map V.bl)/\Q (.bl (bs.all id)) H):=by
 intro pins s σ H xs us Q I r h;obtain⟨p,bs,rfl,hx,q⟩:=h;obtain⟨u,rfl,W⟩:=vals1 r
 cases W;obtain⟨its,Z,pl,T⟩:=I.list hx;obtain rfl:=FP Z;have hl:=pl.isList;have Y:p<s.heap.objs.size:=by obtain⟨_,e,_⟩:=id hl;exact ae e
 refine call_all_walk (wpAny_pyIter_list hl ?_);refine⟨_,_,_,_,_,_,_,rfl,Ih (A:=X.A.in1) _ p (b_ Y) (bs.map c_).toArray,⟨⟨_,ag _ rfl,rfl,rfl⟩,hl.push _,(I.hq hc).keep λ_ _ _ _ e=>ad _ e⟩,FQ bs,λh' tk U=>?_⟩;have e:(bs.map c_).toArray.size=bs.length:=by simp
 rw[e,all_range];exact⟨.bl _,H,I.kept (old_kept U),rfl,q⟩
theorem Bw{K:PySem.W.Frag}{ok:Ok}{pl:Bool}{H:Hp}:∀{l:List D}{bs:List Bool}{ys:List V},pD l=some bs->RAs K ok pl H ys l->ys=bs.map V.bl
 |[],_,_,e,.nil=>by cases e;rfl
 |d::r,bs,_,e,.cons h t=>by
  cases d<;>first|(cases e;done)|skip
  obtain rfl:=h.blE
  cases Z:pD r with
  |none=>rw[pD,Z]at e;cases e
  |some m=>
   rw[pD,Z]at e
   cases e;rw[Bw Z t];rfl
theorem V3{K:PySem.W.Frag}:BrC K (λxs H Q=>∃(p:Addr)(bs:List Bool),xs=[.ref p]/\SqL K H p (bs.map V.bl)/\Q (.bl (bs.all id)) H) CG:=by
 intro H xs ds d Q r e q;unfold CG at e;split at e
 ·next l=>
  cases Z:pD l with
  |none=>rw[Z]at e;cases e
  |some bs=>
   rw[Z]at e
   cases e
   cases r with
   |cons X Y=>
    cases Y;obtain⟨a,ys,rfl,hx,U⟩:=X.lstE;obtain rfl:=Bw Z U;exact⟨a,bs,rfl,hx,q _ rfl (.bl _)⟩
 ·cases e
end
section
variable{X:Cx}{fl:List Fl}{a:Expr}{f:FE}{pos:Pos}{ta:TE}
end
section
variable{X:Cx}{fl:List Fl}{a b c:Expr}{f fa fb fc:FE}{pos:Pos}
theorem zJ{op O:eg}{r r':R2}{g g':D->D->Option D}(ho:OpR X (compareOp op) r)(ho':OpR X (compareOp O) r')(hb:BrO X.K r g)(hb':BrO X.K r' g')(h1:DE X fl .P a fa)(h2:DE X fl .P b fb)(h3:DE X fl .P c fc)
 (hm:lastMarks [op,O] [b,c]=false:=by with_unfolding_all rfl):DT X fl (.Compare a [op,O] [b,c] pos) (aY (jD g g' fa fb fc)):=PT.imp (Ol ho ho' h1 h2 h3 hm) λσ H Q h=>by
 refine cW h λG ow δ E R Z q=>?_
 refine bO Z λd Z hd=>?_
 have W:d = .bool E:=by cases d<;>first|(cases hd;rfl)|(cases hd;done)
 subst W;refine bO Z λx F Z=>?_
 refine bO Z λy I Z=>?_
 refine bO Z λz J Z=>?_
 refine⟨G,ow,δ,x,R,F,λv H1 s1 M=>⟨G,ow,δ,y,R.grow s1,I,λu H2 s2 U=>?_⟩⟩;refine hb H2 v u x y z _ (RA.same s2 M) U J λC L Y=>?_
 split at Z
 ·obtain rfl:=Y.blE;refine bO Z λw e4 e5=>?_
  refine⟨true,rfl,Cy ⟨G,ow,δ,w,R.grow (s1.trans s2),e4,λS T V N=>?_⟩⟩;refine hb' T u S y w _ _ (RA.same V U) N e5 λz L Y=>?_
  obtain rfl:=Y.blE;exact⟨_,rfl,q T (s1.trans (s2.trans V))⟩
 ·obtain rfl:=Y.blE
  cases Z;exact⟨false,rfl,Cw ⟨_,rfl,q H2 (s1.trans s2)⟩⟩
 ·cases Z
end
section
variable{X:Cx}{fl:List Fl}{a b:Expr}{f g:FE}{pos:Pos}
theorem RsB.same{K:PySem.W.Frag}{G:Gh}{ow:Ow}{Hb H H':Hp}{L:List Nat}{v:V}{d:D}(e:Same H H')(h:Rs K G.H0 ow Hb H (.B L) v d):Rs K G.H0 ow Hb H' (.B L) v d:=by
 rcases h with h|⟨i,hi,a,xs,ds,h1,h2,h3,h4,h5⟩
 ·exact .inl (RA.same e h)
 ·exact .inr ⟨i,hi,a,xs,ds,h1,h2,h3,e _ _ h4,h5.same e⟩
end
end D3
namespace D3
open L2 My
noncomputable def aj6(K:PySem.W.Frag)(fl:List Fl)(f:FA):TA:=λσ H Q=>∃G ow δ ds,Rel K fl G ow σ H δ/\f δ=some ds/\∀vs H',Same H H'->(∃as,RTs K H' vs ds as/\as.Nodup/\∀a∈as,H a=none)->Q vs H'
abbrev DBT(X:Cx)(fl:List Fl)(es:List Expr)(f:FA):Prop:=PA X es (aj6 X.K fl f)
theorem RTs.length{K:PySem.W.Frag}{H:Hp}:∀{v:List V}{d:List D}{as:List Addr},RTs K H v d as->v.length=d.length
 |_,_,_,.nil=>rfl
 |_,_,_,.cons _ q=>by simp[RTs.length q]
section
variable{X:Cx}{fl:List Fl}{e a b c:Expr}{es rest:List Expr}{k:Kd}{f fa fb fc:FE}{ft gt:FT}{pos:Pos}
theorem J7:DBT X fl [] aK:=PA.imp nC λσ H Q h=>by
 refine cW h λG ow δ ds R Z q=>?_
 cases Z;exact q [] H (Same.refl H) ⟨[],.nil,.nil,λ_ z=>by cases z⟩
theorem J8{fa:FA}(h:DBT X fl es fa):DE X fl .T (.List es pos) (jC fa):=PE.imp (Hu h) λσ H Q h=>by
 refine cW h λG ow δ d R W q=>?_
 refine bO W λl V Z=>?_
 by_cases z:l.length<=sizeLine
 ·rw[if_pos z]at Z
  cases Z;refine⟨G,ow,δ,l,R,V,λvs H' s r=>?_⟩;obtain⟨as,h1,h2,h3⟩:=r;refine⟨by rwa[h1.length],λp Y=>?_⟩;have g:=cN Y (.lst vs);refine q _ _ (s.trans g) ⟨p::as,.lst cM (h1.same g),cU.mpr ⟨λw=>h1.tracked p w Y,h2⟩,λx hx=>?_⟩;rcases bI.mp hx with rfl|w
  ·exact s.free Y
  ·exact h3 x w
 ·rw[if_neg z]at Z
  cases Z
theorem CZ:DE X fl .T (.Dict [] [] pos) (dC (.dict [])):=PE.imp Fg λσ H Q h=>by
 refine cW h λG ow δ d R Y q=>?_
 cases Y;intro p Z;exact q _ _ (cN Z _) ⟨[p],.dic cM (.inl ⟨rfl,rfl⟩),cU.mpr ⟨pJ,.nil⟩,λx hx=>by rwa[cg.mp hx]⟩
theorem sJ(h:DE X fl .C e f):DE X fl .T e (dN1 f):=vJ h λHb H G ow σ δ v d Z R r=>by
 obtain⟨as,h1,h2,h3⟩:=RA.rt r;have hl:as.length<=1:=by rw[h2];exact of_decide_eq_true Z
 refine⟨as,h1,?_,h3⟩
 cases as with
 |nil=>exact .nil
 |cons x r=>
  cases r with
  |nil=>exact cU.mpr ⟨pJ,.nil⟩
  |cons y r=>simp at hl
theorem yH(i:Nat)(hn:isN fl[i]? = true){x:Str}(Y:X.N[i]? = some x:=by rfl)(O:Vis X.env.scope x:=by first|exact Or.inl rfl|exact Or.inr (Or.inl rfl)|exact Or.inr (Or.inr rfl))(hd:(x==("__debug__":Str))=false:=by decide)
 (hcd:(x==("__classdict__":Str))=false:=by decide):DE X fl .P (.Name x pos) (aj i):=by
 refine PE.imp (nA Y O hd hcd) λσ H Q h=>?_
 refine cW h λG ow δ d R Z q=>?_
 obtain⟨v,h1,h2,_⟩:=R.nr i d hn (lK Z);exact⟨v,h1,q v H (Same.refl H) (h2.ra λ_ _=>trivial)⟩
end
section
variable{K:PySem.W.Frag}{fl:List Fl}
def owN(ow:Ow)(i:Nat)(as:List Addr):Ow:=⟨ow.s,λj=>if j=i then as else ow.n j⟩
theorem iu{ow:Ow}{i:Nat}{as:List Addr}:(owN ow i as).n i=as:=if_pos rfl
theorem fG{ow:Ow}{i j:Nat}{as:List Addr}(h:j≠i):(owN ow i as).n j=ow.n j:=if_neg h
theorem Rel.setN{G:Gh}{ow:Ow}{σ:St}{H H':Hp}{δ:DS}{i:Nat}{v:V}{d:D}(R:Rel K fl G ow σ H δ)(s:Same H H')(O:fl[i]? = some .N)(hi:i<σ.length)(r:Rs K G.H0 ow H H' .T v d):
 ∃ow',Rel K fl G ow' (σ.set i (some v)) H' (δ.set i (some (.d d))):=by
 have R':=R.grow s;obtain⟨as,h1,h2,h3⟩:=r;have no:∀a,ow i≠some a:=λa z=>by
  obtain⟨_,Q,_⟩:=R.own i a z;rw[O]at Q;rcases Q with⟨z,_⟩|⟨z,_⟩<;>cases z
 have sub:∀b,okA ow b/\H b≠none->okA (owN ow i as) b:=λb z=>⟨z.1.1,λj e=>by
  by_cases Z:j=i
  ·subst Z;rw[iu]at e;exact z.2 (h3 b e)
  ·rw[fG Z]at e;exact z.1.2 j e⟩
 have old:∀{v:V}{d:D},RA K (okA ow) true H v d->RA K (okA (owN ow i as)) true H' v d:=λr=>(r.track.imp sub (λz=>z)).same s
 have olds:∀{v:List V}{d:List D},RAs K (okA ow) true H v d->RAs K (okA (owN ow i as)) true H' v d:=λr=>(r.track.imp sub (λz=>z)).same s
 refine⟨owN ow i as,R'.s0,R'.s1,by rw[bT,bT];exact R.len,λj a h=>?_,R.inj,R.pin,λj U g1 X g2=>?_,λj U g1 X g2 g3=>?_,λj a h=>?_,λj j' a h h'=>?_,λj j' a h=>?_,λj h=>?_,λj U X g1=>?_,λj u h e=>by rw[aJ (λz=>by subst z;rw[O]at h;cases h)];exact R.fx j u h e⟩
 ·have Z:j≠i:=λz=>no a (z▸h)
  obtain⟨h0,P,xs,ds,g1,g2,g3,W⟩:=R.own j a h;exact⟨h0,P,xs,ds,by rw[aJ (ce Z)];exact g1,s _ _ g2,olds g3,by rw[aJ (ce Z)];exact W⟩
 ·rcases gC g1 with⟨rfl,e⟩|⟨Z,e⟩
  ·rw[O]at X;cases X
  ·obtain⟨S,g3,W⟩:=R.dat j U e X g2;exact⟨S,by rw[aJ (ce Z)];exact g3,old W⟩
 ·rcases gC g1 with⟨rfl,e⟩|⟨Z,e⟩
  ·rw[O]at X;cases X
  ·exact R.oo j U e X g2 g3
 ·by_cases Z:j=i
  ·subst Z;rw[iu]at h;exact⟨R.same0.free (h3 a h),h1.chd a h,.inl ⟨.inl O,R.s1.free (h3 a h)⟩⟩
  ·rw[fG Z]at h;exact R'.nt j a h
 ·by_cases Z:j=i
  ·by_cases Y:j'=i
   ·rw[Z,Y]
   ·subst Z;rw[iu]at h;rw[fG Y]at h';exact absurd (h3 a h) (R.nt j' a h').2.1.ne
  ·rw[fG Z]at h;by_cases Y:j'=i
   ·subst Y;rw[iu]at h';exact absurd (h3 a h') (R.nt j a h).2.1.ne
   ·rw[fG Y]at h';exact R.nd j j' a h h'
 ·by_cases Z:j=i
  ·subst Z;rw[iu]at h;exact λz=>by
    obtain⟨_,_,_,_,_,g2,_⟩:=R.own j' a z;rw[h3 a h]at g2
    cases g2
  ·rw[fG Z]at h;exact R.ns j j' a h
 ·have Z:j≠i:=λz=>by subst z;rw[O]at h;cases h
  rw[fG Z];exact R.np j h
 ·rcases gC g1 with⟨rfl,e⟩|⟨Z,e⟩
  ·cases e;exact⟨v,by rw[bV hi],by rw[iu];exact h1,by rw[iu];exact h2⟩
  ·obtain⟨S,g3,W⟩:=R'.nr j U X e;exact⟨S,by rw[aJ (ce Z)];exact g3,by rw[fG Z];exact W⟩
theorem Rel.mutN{G:Gh}{ow:Ow}{σ:St}{H:Hp}{δ:DS}{i:Nat}{a:Addr}{u u':HO}[cu:Chg u][cu':Chg u']{d:D}{v:V}{as:List Addr}(R:Rel K fl G ow σ H δ)(O:fl[i]? = some .N)(hi:i<δ.length)(ha:a∈ow.n i)(hx:H a=some u)(hv:σ[i]? = some (some v))
 (hr:RT K (upd H a u') v d as) (hs:∀b∈as,b∈ow.n i) (hd:as.Nodup):∃ow',Rel K fl G ow' σ (upd H a u') (δ.set i (some (.d d))):=by
 have S:¬okA ow a:=λz=>z.2 i ha
 have M:G.HF a=none:=by
  rcases(R.nt i a ha).2.2 with⟨_,z⟩|z
  ·exact z
  ·rw[O]at z;cases z
 have no:∀a,ow i≠some a:=λa z=>by
  obtain⟨_,Q,_⟩:=R.own i a z;rw[O]at Q;rcases Q with⟨z,_⟩|⟨z,_⟩<;>cases z
 have sub:∀b,okA ow b->okA (owN ow i as) b:=λb z=>⟨z.1,λj e=>by
  by_cases Z:j=i
  ·subst Z;rw[iu]at e;exact z.2 j (hs b e)
  ·rw[fG Z]at e;exact z.2 j e⟩
 have T:∀b,Chd (H b)->Chd (upd H a u' b):=λb z=>by
  by_cases hb:b=a
  ·rw[hb,cM];exact⟨_,rfl,cu'⟩
  ·rwa[bW hb]
 refine⟨owN ow i as,R.s0,λb o hb=>?_,by rw[bT];exact R.len,λj b h=>?_,R.inj,R.pin,λj W g1 Y g2=>?_,λj W g1 Y g2 g3=>?_,λj b h=>?_,λj j' b h h'=>?_,λj j' b h=>?_,λj h=>?_,λj W Y g1=>?_,R.fx⟩
 ·rw[bW (λz=>by subst z;rw[M]at hb;cases hb)];exact R.s1 b o hb
 ·have Z:j≠i:=λz=>no b (z▸h)
  obtain⟨h0,P,zs,ds,g1,g2,g3,X⟩:=R.own j b h;have hb:b≠a:=λz=>R.ns i j a ha (z▸h)
  exact⟨h0,P,zs,ds,g1,by rw[bW hb];exact g2,(g3.upd hx S).imp sub (λz=>z),by rw[aJ (ce Z)];exact X⟩
 ·rcases gC g1 with⟨rfl,e⟩|⟨Z,e⟩
  ·rw[O]at Y;cases Y
  ·obtain⟨U,g3,X⟩:=R.dat j W e Y g2;exact⟨U,g3,(X.upd hx S).imp sub (λz=>z)⟩
 ·rcases gC g1 with⟨rfl,e⟩|⟨Z,e⟩
  ·rw[O]at Y;cases Y
  ·exact R.oo j W e Y g2 g3
 ·by_cases Z:j=i
  ·subst Z;rw[iu]at h;obtain⟨g1,g2,g3⟩:=R.nt j b (hs b h);exact⟨g1,T b g2,g3⟩
  ·rw[fG Z]at h;obtain⟨g1,g2,g3⟩:=R.nt j b h;exact⟨g1,T b g2,g3⟩
 ·have old:∀j b,b∈(owN ow i as).n j->b∈ow.n j:=λj b h=>by
   by_cases Z:j=i
   ·subst Z;rw[iu]at h;exact hs b h
   ·rw[fG Z]at h;exact h
  exact R.nd j j' b (old j b h) (old j' b h')
 ·by_cases Z:j=i
  ·subst Z;rw[iu]at h;exact R.ns j j' b (hs b h)
  ·rw[fG Z]at h;exact R.ns j j' b h
 ·have Z:j≠i:=λz=>by subst z;rw[O]at h;cases h
  rw[fG Z];exact R.np j h
 ·rcases gC g1 with⟨rfl,e⟩|⟨Z,e⟩
  ·cases e;exact⟨v,hv,by rw[iu];exact hr,by rw[iu];exact hd⟩
  ·obtain⟨U,g3,X,L⟩:=R.nr j W Y e;exact⟨U,g3,by rw[fG Z];exact X.upd hx (λz=>Z (R.nd j i a z ha)),by rw[fG Z];exact L⟩
end
section
variable{K:PySem.W.Frag}{H:Hp}
theorem RTs.snoc{w:V}{d:D}(r:RT K H w d []):∀{vs:List V}{ds:List D}{as:List Addr},RTs K H vs ds as->RTs K H (vs++[w]) (ds++[d]) as
 |_,_,_,.nil=>by
  have:=RTs.cons r (.nil (K:=K) (H:=H));simpa using this
 |_,_,_,.cons e q=>.cons e (RTs.snoc r q)
theorem RTs.part{m:List D}:∀{vs:List V}{ds:List D}{as:List Addr}{k:Nat},RTs K H vs ds as->ds[k]? = some (.list m)->∃a xs bs,vs[k]? = some (.ref a)/\H a=some (.lst xs)/\RTs K H xs m bs/\a∈as/\(∀b∈bs,b∈as) /\
 (as.Nodup->a∉bs/\bs.Nodup/\∀ys Z O,RTs K (L2.upd H a (.lst ys)) ys Z O->(∀b∈O,b∈bs)->O.Nodup->∃Y,RTs K (L2.upd H a (.lst ys)) vs (ds.set k (.list Z)) Y/\Y.Nodup/\∀b∈Y,b∈as)
 |_,_,_,_,.nil,h=>by simp at h
 |_,_,_,0,.cons e q,h=>by
  simp at h;subst h
  cases e with
  |lst hx r=>
   rename_i X a xs as;refine⟨a,xs,as,rfl,hx,r,by simp,λb hb=>by simp[hb],λnd=>?_⟩;obtain⟨n1,n2,n3⟩:=fJ.mp nd;obtain⟨T,Q⟩:=cU.mp n1;refine⟨T,Q,λys Z O h1 h2 h3=>⟨(a::O)++X,?_,?_,?_⟩⟩
   ·exact .cons (.lst cM h1) (RTs.upd hx (λz=>n3 a aN a z rfl) q)
   ·refine fJ.mpr ⟨cU.mpr ⟨λz=>T (h2 a z),h3⟩,n2,λx hx y hy=>?_⟩;rcases bI.mp hx with rfl|z
    ·exact n3 x aN y hy
    ·exact n3 x (aL _ (h2 x z)) y hy
   ·intro b hb;rcases cJ.mp hb with z|z
    ·rcases bI.mp z with rfl|z
     ·simp
     ·simp[h2 b z]
    ·simp[z]
 |_,_,_,k+1,.cons (as:=W) (bs:=X) e q,h=>by
  obtain⟨a,xs,bs,h1,h2,h3,h4,h5,h6⟩:=RTs.part (k:=k) q (by simpa using h);refine⟨a,xs,bs,by simpa using h1,h2,h3,bw _ h4,λb hb=>bw _ (h5 b hb),λnd=>?_⟩;obtain⟨n1,n2,n3⟩:=fJ.mp nd;obtain⟨g1,g2,g3⟩:=h6 n2;refine⟨g1,g2,λys Z O k1 k2 k3=>?_⟩;obtain⟨Y,R,S,U⟩:=g3 ys Z O k1 k2 k3;refine⟨W++Y,.cons (RT.upd h2 (λz=>n3 a z a h4 rfl) e) R,fJ.mpr ⟨n1,S,λx hx y hy=>n3 x hx y (U y hy)⟩,λb hb=>?_⟩;rcases cJ.mp hb with z|z
  ·exact cV _ z
  ·exact bw _ (U b z)
theorem RT.flat0{ok:Ok}{pl:Bool}{v:V}{d:D}(O:flat d=true)(h:RA K ok pl H v d):RT K H v d []:=by
 obtain⟨as,h1,_,h3⟩:=RA.rt (RA.flat (ok':=ok0) (pl':=false) O h)
 cases as with
 |nil=>exact h1
 |cons a r=>exact(h3 a aN).elim
end
section
variable{X:Cx}{fl:List Fl}{e ke:Expr}{f fk:FE}{pos:Pos}
theorem T7{i:Nat}{x:Str}{pos':Pos}(hfl:fl[i]? = some .N)(hN:X.N.Nodup)(hi:X.N[i]? = some x)(hv:X.env.scope.names.lookup x=some .local\/X.env.scope.names.lookup x=some .cell)(h:DE X fl .T e f)
 (hs:swapsWith e (some (.Name x pos')) pos.line X.env=pure false:=by rfl) (O:X.fn x=true\/X.env.scope.names.lookup x=some .local:=by first|exact .inl rfl|exact .inr rfl) :
 DS1 X fl (.Assign [.Name x pos'] e pos) (bD i f):=PS.imp (yO (i:=i) hN hi hv h hs O) λU σ H h=>by
 refine cW h λG ow δ o R Z q=>?_
 unfold bD at Z;by_cases hl:i<δ.length
 ·rw[if_pos hl]at Z;refine bO Z λd V W=>?_
  cases W;refine⟨G,ow,δ,d,R,V,λv H' s r=>?_⟩;obtain⟨Y,R'⟩:=R.setN s hfl (mR R hl) r;exact q Y _ H' R'
 ·rw[if_neg hl]at Z
  cases Z
theorem Rel.part{K:PySem.W.Frag}{G:Gh}{ow:Ow}{σ:St}{H:Hp}{δ:DS}{i:Nat}{x:D}{l m:List D}{n:Nat}(R:Rel K fl G ow σ H δ)(Y:fl[i]? = some .N)(hx:aj i δ=some x)(hl:Xg x=some l)(hm:l[n]? = some (.list m)):
 ∃p vs a xs,σ[i]? = some (some (.ref p))/\vs.length=l.length/\(∀H',Same H H'->SqL K H' p vs\/SqT K H' p vs)/\vs[n]? = some (.ref a)/\(∀H',Same H H'->H' a=some (.lst xs))/\xs.length=m.length /\
  ∀H',Same H H'->∃bs,RTs K H' xs m bs/\a∉bs/\bs.Nodup/\∀ys m' O,RTs K (L2.upd H' a (.lst ys)) ys m' O->(∀b∈O,b∈bs)->O.Nodup->∃ow',Rel K fl G ow' σ (L2.upd H' a (.lst ys)) (δ.set i (some (.d (putAt x n (.list m'))))):=by
 have e:=lK hx;have hi:i<δ.length:=by
  rcases lG i δ.length with z|z
  ·exact z
  ·rw[bL z]at e;cases e
 obtain⟨v,h1,h2,h3⟩:=R.nr i x (by rw[Y];rfl) e;generalize U:ow.n i=as at h2 h3
 cases h2 with
 |lst X r=>
  rename_i p vs ds A
  cases hl;obtain⟨n1,n2⟩:=cU.mp h3;obtain⟨a,xs,bs,g1,g2,g3,P,E,F⟩:=r.part hm;have I:p≠a:=λz=>n1 (z▸P)
  refine⟨p,vs,a,xs,h1,r.length,λH' s=>.inl (SqL.of (s _ _ X)),g1,λH' s=>s _ _ g2,g3.length,λH' s=>?_⟩;obtain⟨y,T,O,f1,f2,L,B,C,M⟩:=(r.same s).part hm;rw[g1]at f1
  cases f1;rw[s _ _ g2]at f2
  cases f2;obtain⟨k1,k2,k3⟩:=M n2;refine⟨O,L,k1,k2,λys m' Z q1 q2 q3=>?_⟩;obtain⟨J,Q,S,V⟩:=k3 ys m' Z q1 q2 q3;refine(R.grow s).mutN Y hi (by rw[U];exact aL _ P) (s _ _ g2) h1 (.lst (by rw[bW I];exact s _ _ X) Q) (λb hb=>?_) (cU.mpr ⟨λz=>n1 (V p z),S⟩);rw[U];rcases bI.mp hb with rfl|z
  ·exact aN
  ·exact aL _ (V b z)
 |tup X r=>
  rename_i p vs ds
  cases hl;obtain⟨a,xs,bs,g1,g2,g3,P,E,F⟩:=r.part hm;refine⟨p,vs,a,xs,h1,r.length,λH' s=>.inr (O4 s X.sq),g1,λH' s=>s _ _ g2,g3.length,λH' s=>?_⟩;obtain⟨y,T,O,f1,f2,L,B,C,M⟩:=(r.same s).part hm;rw[g1]at f1
  cases f1;rw[s _ _ g2]at f2
  cases f2;obtain⟨k1,k2,k3⟩:=M h3;refine⟨O,L,k1,k2,λys m' Z q1 q2 q3=>?_⟩;obtain⟨J,Q,S,V⟩:=k3 ys m' Z q1 q2 q3;exact(R.grow s).mutN Y hi (by rwa[U]) (s _ _ g2) h1 (.tup (lF.upd (s _ _ g2) (lF.same s X)) Q) (λb hb=>by rw[U];exact V b hb) S
 |non=>cases hl
 |bl _=>cases hl
 |int _=>cases hl
 |str _=>cases hl
 |dic _ _=>cases hl
 |ins _ _ _ _=>cases hl
end
end D3
namespace D3
noncomputable def V4:D->Option (List D)
 | .list l=>some l
 | .tuple l=>some l
 |_=>none
def qSq(x:Option D):Option (List D):=x.bind V4
def Xv(f:FE):FA:=λδ=>(f δ).bind V4
theorem aa3{f:FE}{δ:DS}:Xv f δ=qSq (f δ):=rfl
theorem Xw{l:List D}:qSq (some (.list l))=some l:=rfl
theorem Xx{l:List D}:qSq (some (.tuple l))=some l:=rfl
def FZ:D->Option D
 | .list l=>some (.tuple l)
 | .tuple l=>some (.tuple l)
 |_=>none
theorem Xy{l:List D}:FZ (.list l)=some (.tuple l):=rfl
def clr(T:List Nat)(δ:DS):DS:=δ.mapIdx λi x=>if i∈T then none else x
end D3
namespace D3
open L2 My
section
variable{X:Cx}
end
section
variable{X:Cx}{fl:List Fl}{e ke:Expr}{f fk:FE}{pos:Pos}
end
section
variable{X:Cx}{fl:List Fl}{a:Expr}{pos p p2 pos2:Pos}{fa:FA}
end
end D3
namespace D3
open L2 My
section
variable{X:Cx}{pins:List (Addr×Obj)}{σ:L2.St}{H:Hp}{s:bE}
end
section
variable{X:Cx}{K:PySem.W.Frag}
end
section
variable{X:Cx}{fl:List Fl}{es:List Expr}{pos:Pos}
end
section
variable{X:Cx}{fl:List Fl}{e:Expr}{f:FE}
theorem aa4{tg l:Expr}{Y O:TI}(h1:PI X tg l Y)(h2:PI X tg l O):PI X tg l (λσ H R=>Y σ H R\/O σ H R):=λpins s σ H R I h=>by
 rcases h with h|h
 ·exact h1 pins s σ H R I h
 ·exact h2 pins s σ H R I h
theorem Xz{K:PySem.W.Frag}{G:Gh}{ow:Ow}{σ:St}{H Hb:Hp}{δ:DS}{L:List Nat}{v:V}{l:List D}(R:Rel K fl G ow σ H δ)(r:Rs K G.H0 ow Hb H (.B L) v (.tuple l)):∃a xs,v = .ref a/\SqT K H a xs /\
 ∀H2:Hp,(∀b o,H b=some o->(∀i,ow i=some b->i∈L)->(∀i,b∉ow.n i)->H2 b=some o)->SqT K H2 a xs/\RAs K (λb=>okA ow b/\H b≠none) true H2 xs l:=by
 rcases r with r|⟨i,hi,a,xs,ds,X,rfl,e,hx,Y⟩
 ·cases r with
  |tup e q=>
   refine⟨_,_,rfl,e.sq,λH2 Z=>⟨?_,RAs.keep Z R.ownL R.ownC (λb z=>z.1) q.track⟩⟩;exact(e.imp λe=>Z _ _ e (nm R.ownL e (by intro xs z;cases z)) (nm2 R.ownC e Chg.tup)).sq
 ·cases e
theorem XD{tg:Expr}{L:List Nat}(h:DE X fl (.B L) e f):DI X fl L tg e (Xv f):=PI.imp (aa4 (JF h) (W4 h)) λσ H R' h=>by
 refine cW h λG ow δ l R Q q=>?_
 refine bO Q λd T Y=>?_
 cases d with
 |list S=>
  cases Y;refine .inl ⟨G,ow,δ,_,R,T,λv H1 s r=>?_⟩;obtain⟨a,xs,rfl,hx,keep⟩:=HY (R.grow s) r;refine⟨a,rfl,⟨xs,hx⟩,q _ _ s λH2 k2 i=>?_⟩;obtain⟨k3,W⟩:=keep H2 k2;refine⟨λd hd=>?_,λhl=>⟨xs,k3,by rwa[W.length]⟩⟩;obtain⟨y,hy,V⟩:=W.get hd;refine⟨⟨xs,y,k3,hy⟩,λx P Z=>?_⟩;obtain⟨e,U⟩:=Z;subst e;have:some y=some x:=hy.symm.trans (U xs k3)
  cases this;exact⟨Same.refl _,V⟩
 |tuple S=>
  cases Y;refine .inr ⟨G,ow,δ,_,R,T,λv H1 s r=>?_⟩;obtain⟨a,xs,rfl,hx,keep⟩:=Xz (R.grow s) r;refine⟨a,rfl,⟨xs,hx⟩,q _ _ s λH2 k2 i=>?_⟩;obtain⟨k3,W⟩:=keep H2 k2;refine⟨λd hd=>?_,λhl=>⟨xs,k3,by rwa[W.length]⟩⟩;obtain⟨y,hy,V⟩:=W.get hd;refine⟨⟨xs,y,k3,hy⟩,λx P Z=>?_⟩;obtain⟨e,U⟩:=Z;subst e;have:some y=some x:=hy.symm.trans (U xs k3)
  cases this;exact⟨Same.refl _,V⟩
 |none=>cases Y
 |bool _=>cases Y
 |int _=>cases Y
 |str _=>cases Y
 |dict _=>cases Y
end
section
variable{X:Cx}{fl:List Fl}{a:Expr}{f:FE}{pos p:Pos}
theorem T8{L:List Nat}(h:DE X fl (.B L) a f)(hg:Gl X "tuple")(hm:X.mg "tuple"=none)
 (he:starEach [a] X.env=(false,eval a X.env)::starEach [] X.env:=by exact j6 rfl) (O:(backTo pos (starEach [] X.env)).any (·.1)=false:=by rfl):DE X fl .A (.Call (.Name "tuple" p) [a] [] pos) (dUn FZ f):=
 PE.imp (pP Ai hg hm boot_tuple (kO h nC he) (by decide) (by decide) he O) λσ H Q h=>by
 refine cW h λG ow δ d R U q=>?_
 refine bO U λx T Z=>?_
 refine⟨G,ow,δ,x,R,T,λv H1 s1 Y=>?_⟩;unfold FZ at Z;split at Z
 ·cases Z;obtain⟨p,xs,rfl,hx,W⟩:=zH Y;exact⟨p,xs,rfl,.inl ⟨hx,λpn V=>q _ _ (s1.trans (cN V _)) (.tup (.inl cM) (W.same (cN V _)))⟩⟩
 ·cases Z;rcases Y with Y|⟨i,hi,a,xs,ds,S,rfl,e,hx,W⟩
  ·obtain⟨p,xs,rfl,hx,W⟩:=Y.tupE0;exact⟨p,xs,rfl,.inr ⟨hx.sq,q _ _ s1 (.tup hx W)⟩⟩
  ·cases e
 ·cases Z
end
section
variable{X:Cx}{fl:List Fl}{a b:Expr}{fa fb:FE}{pos:Pos}
end
end D3
namespace D3
open L2 My
section
variable{X:Cx}{K:PySem.W.Frag}
end
section
variable{X:Cx}{fl:List Fl}{a:Expr}{f:FE}{pos:Pos}
end
section
variable{X:Cx}{fl:List Fl}{e:Expr}{es:List Expr}{f:FE}{pos p:Pos}{x:Str}{n:Nat}{F:List D->Option D}{fa:FA}
end
section
variable{P:bP}{w:b8}{K:PySem.W.Frag}{mg:Str->Option Value}{base:cc}{x:Str}{ps N:List Str}{st:cm}{k n:Nat}{fs:FS}{fl:List Fl}
end
section
variable{P:bP}{w:b8}{K:PySem.W.Frag}{mg:Str->Option Value}{base:cc}{x:Str}{ps:List Str}{st:cm}{n:Nat}
end
end D3
namespace D3
open L2 My
section
variable{K:PySem.W.Frag}{fl flA:List Fl}{G:Gh}{ow:Ow}{σ σ':St}{H H1:Hp}{δ:DS}{T:List Nat}
theorem C_{i:Nat}{x:U}(h:(clr T δ)[i]? = some (some x)):i∉T/\δ[i]? = some (some x):=by
 unfold clr at h;rw[fX]at h
 cases e:δ[i]? with
 |none=>rw[e]at h;cases h
 |some y=>
  rw[e,q_]at h;by_cases z:i∈T
  ·rw[if_pos z]at h;cases h
  ·rw[if_neg z]at h;exact⟨z,h⟩
theorem XF{i:Nat}(h:i∉T):(clr T δ)[i]? = δ[i]?:=by
 unfold clr;rw[fX]
 cases δ[i]? with
 |none=>rfl
 |some y=>rw[q_,if_neg h]
theorem T9:(clr T δ).length=δ.length:=by unfold clr;rw[uI]
theorem Rel.forget(R:Rel K fl G ow σ H δ)(hT:∀i∈T,fl[i]? = some .A)(hl:σ'.length=σ.length)(O:∀j,j∉T->σ'[j]? = σ[j]?):Rel K fl G ow σ' H (clr T δ):=by
 refine⟨R.s0,R.s1,by rw[T9,hl];exact R.len,λi a h=>?_,R.inj,R.pin,λi d h hn Y=>?_,λi d h hn h2 Y=>R.oo i d (C_ h).2 hn h2 Y,R.nt,R.nd,R.ns,R.np,λi d hn h=>?_,λj u h e=>by rw[O j (λz=>by rw[hT j z]at h;cases h)];exact R.fx j u h e⟩
 ·obtain⟨h0,X,xs,ds,h1,h2,h3,h4⟩:=R.own i a h;have Z:i∉T:=λz=>by
   rw[hT i z]at X;rcases X with⟨w,_⟩|⟨w,_⟩<;>cases w
  exact⟨h0,X,xs,ds,by rw[O i Z];exact h1,h2,h3,by rw[XF Z];exact h4⟩
 ·obtain⟨Z,e⟩:=C_ h;obtain⟨v,h1,h2⟩:=R.dat i d e hn Y;exact⟨v,by rw[O i Z];exact h1,h2⟩
 ·obtain⟨Z,e⟩:=C_ h;obtain⟨v,h1,h2⟩:=R.nr i d hn e;exact⟨v,by rw[O i Z];exact h1,h2⟩
end
section
variable{X:Cx}{fl flA:List Fl}{e:Expr}{es:List Expr}{f:FE}{fa:FA}{pos:Pos}
end
section
variable{X:Cx}{fl:List Fl}{pos:Pos}
end
end D3
namespace XC
open Sem (wp)
structure Two(h:cc)(C N I:Addr)(bmB:List Value)(mN mI:Str->Option Value)(B newId:String):Prop where
 ex:∃(nm q:Str)(bs:List Value)(sn:List Str)(sub:List Value)(ab:Bool)(col:Option Bool)(dd:Option Addr)(k0 k1 k2 k3 k5:Option Value),
  h.get? C=some (excClassObj nm q C N bs (.ref I::bmB) true sn sub ab col dd k0 k1 k2 k3 k5 newId)
 nsC:h.Ns N mN
 up:∃(nm q:Str)(NI:Addr)(bs:List Value)(sn:List Str)(sub:List Value)(ab:Bool)(col:Option Bool)(dd:Option Addr)(k0 k1 k2 k3 k5:Option Value)(nid:String),
  h.get? I=some (excClassObj nm q I NI bs bmB true sn sub ab col dd k0 k1 k2 k3 k5 nid)/\h.Ns NI mI
 mro:mroOf (.type B)=pure bmB
section
variable{M:Model}{A:bX}{E:Value->bE->Prop}{h:cc}{g:Array ee}{d:Drawn}{t:Nat}{os:OsState}
variable{C N I:Addr}{bmB:List Value}{mN mI:Str->Option Value}{B newId initId:String}
theorem Two.keeps{h':cc}(T:Two h C N I bmB mN mI B newId)(k:∀b o,h.get? b=some o->h'.get? b=some o):Two h' C N I bmB mN mI B newId:=by
 obtain⟨⟨nm,q,bs,sn,sub,ab,col,dd,k0,k1,k2,k3,k5,M⟩,hn,⟨W,R,NI,U,X,Z,S,Y,V,j0,j1,j2,P,Q,nid,O,hm⟩,hb⟩:=T;exact⟨⟨nm,q,bs,sn,sub,ab,col,dd,k0,k1,k2,k3,k5,k _ _ M⟩,hn.keeps k,⟨W,R,NI,U,X,Z,S,Y,V,j0,j1,j2,P,Q,nid,k _ _ O,hm.keeps k⟩,hb⟩
theorem Two.tail(T:Two h C N I bmB mN mI B newId)(hi:mI "__init__"=none):OwnTail h bmB (.ref I::bmB):=by
 obtain⟨W,Q,NI,U,X,Z,S,Y,V,j0,j1,j2,O,P,nid,R,hm⟩:=T.up;exact .own R hm hi .base
theorem Two.look{name:Str}{y:Option Value}{Q:Option Value->bE->Prop}(T:Two h C N I bmB mN mI B newId)(hB:typeLookup (.type B) name=pure y)
 (hq:Q (match mN name with
  |some v=>some v
  |none=>match mI name with
   |some v=>some v
   |none=>y) ⟨h,g,d,t,os⟩):wpAny M A (typeLookup (.ref C) name) Q E ⟨h,g,d,t,os⟩:=by
 obtain⟨⟨nm,q,bs,sn,sub,ab,col,dd,k0,k1,k2,k3,k5,X⟩,hn,⟨S,K,NI,P,U,Z,O,Y,R,j0,j1,j2,H,J,nid,L,hm⟩,hb⟩:=T;have rest:lookupAlong bmB name=pure y:=by
  rwa[typeLookup_eq,hb]at hB
 rw[typeLookup_eq];refine aa (wpAny_mroOf_exc X ?_);rw[lookupAlong_cons];refine aa (wpAny_classOwn_exc X hn ?_)
 cases V:mN name with
 |some v=>
  rw[V]at hq;exact af hq
 |none=>
  rw[V]at hq;rw[lookupAlong_cons];refine aa (wpAny_classOwn_cls L hm ?_)
  cases W:mI name with
  |some v=>
   rw[W]at hq;exact af hq
  |none=>
   rw[W]at hq;rw[rest];exact af hq
end
section
variable{prog:bP}{w:b8}{A:bX}{E:Value->bE->Prop}{h:cc}{g:Array ee}{d:Drawn}{t:Nat}{os:OsState}
variable{C N I:Addr}{bmB:List Value}{mN mI:Str->Option Value}{B newId initId:String}
theorem Two.make{rest:List Value}{fI:Addr}{oI:Obj}{Q:Fin->bE->Prop}(T:Two h C N I bmB mN mI B newId)(F:ExcBaseFacts B newId initId bmB)(hi:mI "__init__"=none)(hN:mN "__init__"=some (.ref fI))
 (hf:h.get? fI=some oI) (hfc:oI.cls = .type "function") (O:rest.length<=sizeLine)
 (hq:∀h' e,h.objs.size<=e->Heap.MadeExcOf h h' e (.ref C) rest->wpAny (model prog w) A (call (.ref fI) (.ref e::rest)) (λr s'=>r = .none/\Q (.done (.ret (.ref e))) s') E ⟨h',g,d,t,os⟩) :
 wpAny (model prog w) A (Builtin.«type.__call__» ⟨.ref C::rest,[]⟩) Q E ⟨h,g,d,t,os⟩:=by
 have TT:=T.tail hi;have T0:=T;obtain⟨⟨nm,q,bs,sn,sub,ab,col,dd,k0,k1,k2,k3,k5,Z⟩,hn,⟨S,G,NI,P,U,W,M,V,R,j0,j1,j2,y,D,nid,x,hm⟩,hb⟩:=T
 repeat(first
  |with_reducible refine bb Z ?_
  |with_reducible refine wpAny_madeBy_exc Z ?_
  |wp_step)
 refine codeAny_call_builtin_code (Code.quiet_builtin _ F.quiet) (wpAny_check_new_subT F TT Z ?_);refine codeAny_exc_new_subT F TT Z ?_ O;obtain⟨h2,Y⟩:∃h2,h2=(h.push {cls:=.type "tuple", data:=.seq rest.toArray}).push {cls:=.ref C,data:=.fields #[.ref h.objs.size,.none,.none,.none,.bool false,.none]}:=⟨_,rfl⟩;rw[<-Y];have kp:∀b o,h.get? b=some o->h2.get? b=some o:=λb o z=>by
  rw[Y];exact ad _ (ad _ z)
 have hx:h2.get? (h.objs.size+1)=some {cls:=.ref C,data:=.fields #[.ref h.objs.size,.none,.none,.none,.bool false,.none]}:=by
  rw[Y];heap_get
 have L:h2.get? h.objs.size=some {cls:=.type "tuple", data:=.seq rest.toArray}:=by
  rw[Y];exact ad _ (Heap.get?_push_at rfl rfl)
 have X:=kp _ _ Z;have H:(cb C :: .ref I::bmB).contains (.ref C)=true:=by simp
 repeat(first
  |with_reducible refine bb hx ?_
  | (with_reducible refine wpAny_isSubtype_exc X ?_;rw[H])
  |wp_step)
 refine(T0.keeps kp).look F.init.lookup ?_;rw[hN];refine ak (aa ?_);refine aa (be (T := "function") ⟨_,kp _ _ hf,hfc⟩ ?_);rw[if_pos (by decide)];refine af (aa (ai (hq h2 (h.objs.size+1) (mX _) ⟨kp,aS (mX _),h.objs.size,hx,aS (aQ _),L⟩) (λr s' K=>?_) λ_ _ z=>z));obtain⟨rfl,J⟩:=K
 wp_walk
 exact J
end
end XC
namespace XC
open Builtin Builtin.ObjectAttr
open Sem (wp)
section
variable{prog:bP}{w:b8}{A:bX}{E:Value->bE->Prop}{h:cc}{g:Array ee}{d:Drawn}{t:Nat}{os:OsState}
variable{C N I x:Addr}{bmB:List Value}{mN mI:Str->Option Value}{B newId initId sa owner:String}{name:Str}{v:Value}
end
end XC
namespace XC
open L2 My
section
variable{P:bP}{w:b8}{K:PySem.W.Frag}{mg:Str->Option Value}{base:cc}
variable{C N I x:Addr}{bmB:List Value}{mN mI:Str->Option Value}{B newId initId sa owner:String}
end
end XC
namespace XC
open L2 My
structure Fly(h:cc)(a C dx:Addr)(f:Str)(u:Value)(tb:Option Addr):Prop where
 obj:∃vs sl,h.get? a=some ⟨.ref C,some dx,.fields vs,sl⟩/\vs[1]? = some (tb.elim .none .ref)/\vs[2]? = some .none
 dic:h.Ns1 dx (λy=>if y=f then some u else none)
 ne:dx≠a
 hd:∀T,tb=some T->T≠a/\T≠dx/\∃oT ts,h.get? T=some oT/\oT.data = .fields ts/\ts[3]? = some .none
section
variable{M:Model}{A:bX}{E:Value->bE->Prop}{s:bE}
end
end XC
namespace XC
open L2 My
section
variable{M:Model}{A:bX}{E:Value->bE->Prop}{s:bE}
end
end XC
namespace XC
open L2 My
structure Loose(X:Cx)(pins:List (Addr×Obj))(H:Hp)(b:Addr):Prop where
 new:X.s₀.heap.objs.size<=b
 loc:b≠X.env.locals
 cel:∀x c,X.env.cells.lookup x=some c->c≠b
 pin:∀p∈X.pn++pins,p.1≠b
 out:H b=none
section
variable{X:Cx}{pins:List (Addr×Obj)}{σ:L2.St}{H H':Hp}{s:bE}
theorem Loose.of(I:Inv X pins σ H s){b:Addr}(hb:s.heap.objs.size<=b)(O:H' b=none):Loose X pins H' b:=by
 refine⟨bM I.sz hb,λz=>?_,λx c e z=>?_,λp Y z=>?_,O⟩
 ·rw[z]at hb;exact absurd I.lt (uJ.mpr hb)
 ·obtain⟨v,o,Z,_⟩:=I.cell x c e;rw[z]at Z;exact absurd (ae Z) (uJ.mpr hb)
 ·have:=(I.pin p Y).1;rw[z]at this;exact absurd (ae this) (uJ.mpr hb)
theorem Loose.nofs(I:Inv X pins σ H s){b:Addr}(L:Loose X pins H' b):b∉X.env.locals::X.fs:=λz=>by
 rcases bI.mp z with e|e
 ·exact L.loc e
 ·obtain⟨_,o,Z,_⟩:=I.ok.funs.mem e;exact absurd (ae Z) (uJ.mpr L.new)
end
end XC
namespace XC
open L2 My
section
variable{prog:bP}{w:b8}{A:bX}{E:Value->bE->Prop}{h:cc}{g:Array ee}{d:Drawn}{t:Nat}{os:OsState}
variable{C N I:Addr}{bmB:List Value}{mN mI:Str->Option Value}{B newId initId:String}
theorem Two.call{rest:List Value}{fI:Addr}{Z:Obj}{Q:Value->bE->Prop}(T:Two h C N I bmB mN mI B newId)(F:ExcBaseFacts B newId initId bmB)(hi:mI "__init__"=none)(hN:mN "__init__"=some (.ref fI))
 (hf:h.get? fI=some Z) (Y:Z.cls = .type "function") (O:rest.length<=sizeLine)
 (hq:∀h' e,h.objs.size<=e->Heap.MadeExcOf h h' e (.ref C) rest->wpAny (model prog w) (A.under (.builtin "type.__call__" ⟨.ref C::rest,[]⟩)) (call (.ref fI) (.ref e::rest)) (λr s'=>r = .none/\Q (.ref e) s') E ⟨h',g,d,t,os⟩) :
 wpAny (model prog w) A (call (.ref C) rest) Q E ⟨h,g,d,t,os⟩:=by
 have T0:=T;obtain⟨⟨nm,q,bs,sn,sub,ab,col,dd,k0,k1,k2,k3,k5,V⟩,hn,⟨S,K,NI,P,U,X,M,W,R,j0,j1,j2,H,J,nid,G,hm⟩,hb⟩:=T;have g1:=tc_lookup;have g2:=tc_bind (.ref C);refine wpAny_call (codeAny_of_tree ?_)
 repeat(any_goals(first
  |assumption
  |with_reducible refine bb V ?_
  |wp_step))
 refine⟨rfl,?_⟩;refine codeAny_call_builtin_at (Code.quiet_builtin _ (by decide +kernel)) entry_typeCall (wpAny_check_type_call_sub V (T0.make F hi hN hf Y O λh' e L hm=>?_));exact hq h' e L hm
end
end XC
namespace XC
open L2 My
abbrev bmV:List Value:=[.type "ValueError", .type "Exception", .type "BaseException", .type "object"]
structure Init(K:PySem.W.Frag)(f:Str)(fI:Addr):Prop where
 ex:∃(name qual:Str)(params:Arguments)(scope:db)(dV kV doc pm cdv ct:Value)(an od:Option Addr)(osl:Array (Option Value))(p1 p2 p3 p4:Pos),
  K.lookup fI=some ⟨.type "function", od,.func (PySem.W.fnOf name qual params [.Assign [.Attribute (.Name "self" p1) f p2] (.Name f p3) p4] scope dV kV doc pm an cdv ct),osl⟩/\PySem.W.codeIn K cdv qual=true /\
  FnScope ["self", f] ["self", f] scope/\scope.names.lookup ("self":Str)=some NameKind.local/\scope.names.lookup f=some NameKind.local /\
  Binds K (PySem.W.fnOf name qual params [.Assign [.Attribute (.Name "self" p1) f p2] (.Name f p3) p4] scope dV kV doc pm an cdv ct) ["self", f] []
 ne:("self":Str)≠f
 nd:(f==("__debug__":Str))=false
 nc:(f==("__classdict__":Str))=false
structure Exc(K:PySem.W.Frag)(mg:Str->Option Value)(cn f:Str)(C I:Addr):Prop where
 mgC:mg cn=some (.ref C)
 kp:PySem.W.keepIn K (.ref C)=true
 hB:typeLookup (.type "ValueError") f=pure none
 ex:∃(N fI:Addr)(mN mI:Str->Option Value),(∀h,K.In h->Two h C N I bmV mN mI "ValueError" "ValueError.__new__")/\mN "__init__"=some (.ref fI)/\mI "__init__"=none/\mN "__setattr__"=none/\mI "__setattr__"=none/\mN f=none/\mI f=none/\Init K f fI
section
variable{X:Cx}{pins:List (Addr×Obj)}{σ:L2.St}{H:Hp}{s:bE}{cn f:Str}{C I:Addr}{arg:Expr}{ta:TE}{p pos:Pos}{k:Nat}
end
end XC
namespace XC
open L2 My
def CXE(P:bP)(w:b8)(fld:Addr->Str):CXT:=λouter H s E e s'=>∃(a C dx T:Addr)(u:Value)(H':Hp),e = .ref a/\s'.os=s.os/\d8 s'.gens/\Un (frs outer) [] H H' s.heap s'.heap/\HOk P w H' s'.heap/\Fly s'.heap a C dx (fld C) u (some T) /\
 s.heap.objs.size<=a/\s.heap.objs.size<=dx/\s.heap.objs.size<=T/\H' a=none/\H' dx=none/\H' T=none/\E u (some C) H'
theorem CXE.no{P:bP}{w:b8}{fld:Addr->Str}{outer:List Env}{H:Hp}{s s':bE}{e:Value}(h:CXE P w fld outer H s E0 e s'):False:=by
 obtain⟨_,_,_,_,_,_,_,_,_,_,_,_,_,_,_,_,_,_,z⟩:=h;exact z
section
variable{P:bP}{w:b8}{K:PySem.W.Frag}{mg:Str->Option Value}{base:cc}{N:List Str}{qual:Str}{scope:db}{fa:Addr}{cdv:Value}{A:bX}{outer:List Env}{s₀:bE}{H₀:Hp}{E:XK}{fld:Addr->Str}
variable{pins:List (Addr×Obj)}{σ:L2.St}{H:Hp}{s:bE}
end
section
variable{X:Cx}{pins:List (Addr×Obj)}{σ:L2.St}{H:Hp}{s:bE}{cn f:Str}{C I:Addr}{arg:Expr}{ta:TE}{p pos rpos:Pos}{k:Nat}
end
end XC
namespace XC
open L2 My
section
variable{M:Model}{A:bX}{E:Value->bE->Prop}{h:cc}{g:Array ee}{d:Drawn}{t:Nat}{os:OsState}
variable{C N I a:Addr}{bmB:List Value}{mN mI:Str->Option Value}{B newId:String}{oe:Obj}
end
end XC
namespace XC
open L2 My
section
variable{prog:bP}{w:b8}{A:bX}{E:Value->bE->Prop}{h:cc}{g:Array ee}{d:Drawn}{t:Nat}{os:OsState}
variable{C N I a D:Addr}{bmB:List Value}{mN mI:Str->Option Value}{B newId:String}{oe oD:Obj}
end
end XC
namespace XC
open L2 My
noncomputable def yI(X:Cx)(a:Addr)(oa:Obj)(dx:Addr)(od:Obj):Cx:={X with A:=X.A.mark (some (.ref a)),calm:=false,still:=false,pn:=X.pn++[(a,oa),(dx,od)],xe:=λ_ _=>False}
section
variable{X:Cx}{pins:List (Addr×Obj)}{σ:L2.St}{H:Hp}{s:bE}{a C dx:Addr}{f:Str}{u:Value}{tb:Option Addr}
theorem Fj{σ':L2.St}{H':Hp}{s':bE}{oa od:Obj}(ok:X.Ok)(I:Inv (yI X a oa dx od) pins σ' H' s'):Inv X pins σ' H' s':=by
 refine⟨ok,I.os,I.bare,I.base,I.loc,I.cell,I.free,I.freeC,λp Z=>?_,I.hok,I.len⟩;rcases cJ.mp Z with Z|Z
 ·exact I.pin p (cV _ (cV _ Z))
 ·exact I.pin p (bw _ Z)
end
end XC
namespace XC
open L2 My
section
variable{X:Cx}{pins:List (Addr×Obj)}{σ:L2.St}{H:Hp}{s:bE}{a C dx T:Addr}{f:Str}{u:Value}
end
end XC
namespace XC
open L2 My
section
variable{X:Cx}{pins:List (Addr×Obj)}{σ:L2.St}{H:Hp}{s:bE}{a C I0 dx T D:Addr}{cn f ic n:Str}{u:Value}{i:Nat}{b0:cm}{suite:List cm}{np hpos:Pos}
end
end XC
namespace XC
open L2 My
def XP(fld:Addr->Str)(X:Cx)(pins:List (Addr×Obj))(σ:L2.St)(EX:XK)(e:Value)(s':bE):Prop:=∃(a C dx T:Addr)(u:Value)(H':Hp),e = .ref a/\Inv X pins σ H' s'/\Fly s'.heap a C dx (fld C) u (some T)/\Loose X pins H' a/\Loose X pins H' dx/\Loose X pins H' T/\EX u (some C) H'
section
variable{X:Cx}{pins:List (Addr×Obj)}{σ:L2.St}{H:Hp}{s:bE}{fld:Addr->Str}{k:Nat}{f:Addr}{fd:ca}{ps:List Str}{sp:Sp}{dvs:List V}{ds:List Value}{EX:XK}
section
variable{x:Str}{p pos pos2:Pos}{e:Expr}{es:List Expr}{ta:TA}
end
end
end XC
namespace D3
inductive Or where
 |o (x:Oc)
 |ex (c:Str) (v:D)
abbrev FX:=DS->Option Or
end D3
namespace XC
open L2 My D3
section
variable{X:Cx}{E:XK}{fl:List Fl}{c:Expr}{st:cm}{sts body orelse:List cm}{fs:FS}{f g:FX}{ft:FT}{pos:Pos}
theorem PS.nox{t:TS}(h:PS X.nox st t):PS X st t:=λpins s σ H D I hw=>by
 refine ai (h pins s σ H D (I.wish _) hw) (λfl s' q=>?_) λ_ _ z=>z.elim
 cases fl with
 |next=>obtain⟨σ',H',J,q⟩:=q;exact⟨σ',H',J.wish _,q⟩
 |ret u=>obtain⟨v,σ',H',J,r,q⟩:=q;exact⟨v,σ',H',J.wish _,r,q⟩
 |brk=>obtain⟨σ',H',J,q⟩:=q;exact⟨σ',H',J.wish _,q⟩
 |cont=>obtain⟨σ',H',J,q⟩:=q;exact⟨σ',H',J.wish _,q⟩
end
structure ExcF(K:PySem.W.Frag)(mg:Str->Option Value)(fld:Addr->Str)(cn f:Str):Prop where
 ex:∃C I,Exc K mg cn f C I/\fld C=f
section
variable{P:bP}{w:b8}{K:PySem.W.Frag}{mg:Str->Option Value}{base:cc}{N:List Str}{qual:Str}{scope:db}{fa:Addr}{cdv:Value}{A:bX}{outer:List Env}{s₀:bE}{H₀:Hp}{E:XK}{fld:Addr->Str}
variable{fl:List Fl}{cn f:Str}{arg:Expr}{fe:FE}{p pos rpos:Pos}{k:Nat}
end
structure HasX(P:bP)(w:b8)(K:PySem.W.Frag)(mg:Str->Option Value)(base:cc)(fld:Addr->Str)(n:Nat)(x:Str)(ps:List Str)(sp:Sp)(dvs:List V):Prop where
 ex:∃(f:Addr)(fd:ca)(ds:List Value),FnOk P w K mg base (CXE P w fld) n f fd ps sp/\Binds K fd ps ds/\Vals dvs ds/\PySem.W.keepIn K (.ref f)=true/\mg x=some (.ref f)
section
variable{P:bP}{w:b8}{K:PySem.W.Frag}{mg:Str->Option Value}{base:cc}{fld:Addr->Str}{x:Str}{ps N ks:List Str}{st:cm}{k n:Nat}{f:FX}{fl:List Fl}{dvs:List V}{sp:Sp}
theorem HasX.mono(h:HasX P w K mg base fld k x ps sp dvs)(l:k<=n):HasX P w K mg base fld n x ps sp dvs:=by
 obtain⟨f,fd,ds,F,b,v,kp,m⟩:=h.ex;exact⟨f,fd,ds,F.mono l,b,v,kp,m⟩
end
end XC
namespace XC
open L2 My D3
section
variable{X:Cx}{a C I0 dx D:Addr}{cn f ic n:Str}{oa od:Obj}{i:Nat}{cond a1 b1:Expr}{rest:List Expr}{p p1 p2 pos np hpos rpos:Pos}
end
end XC
namespace XC
open L2 My D3
section
variable{X:Cx}{fl:List Fl}{fld:Addr->Str}{n i:Nat}{x ic en:Str}{ps cs:List Str}{F:List D->Option Or}{dvs:List V}{dd:List D}{e cond:Expr}{es:List Expr}{fa:FA}{p pos pos2 np rpos hpos tpos:Pos}
end
end XC
namespace XC
open L2 My D3
def T_(es:Array DictEntry):Bool:=es.toList.all λe=>match e.key with | .str _ _=>true|_=>false
theorem Ua{es:Array DictEntry}(h:T_ es=true):StrKeys es:=λe Z=>by
 have:=eZ.mp h e (rP.mpr Z)
 cases q:e.key with
 |str n t=>exact⟨n,t,rfl⟩
 |_=>rw[q]at this;cases this
theorem V5{K:PySem.W.Frag}{N:Addr}{c:Value}{d:Option Addr}{es:Array DictEntry}{n:Nat}{sl:Array (Option Value)}(l:K.lookup N=some ⟨c,d,.dict es n,sl⟩)(ok:T_ es=true)(h:cc)(X:K.In h):h.Ns N (nsFind es):=
 ⟨_,es,n,X _ _ l,rfl,Ua ok,λ_=>rfl⟩
theorem tM{K:PySem.W.Frag}{N:Addr}{c:Value}{d:Option Addr}{es:Array DictEntry}{n:Nat}{sl:Array (Option Value)}{x:Str}{r:Option Value}(l:K.lookup N=some ⟨c,d,.dict es n,sl⟩)(e:PySem.W.nsIn K N x=some r):nsFind es x=r:=by
 unfold PySem.W.nsIn at e;rw[l]at e;dsimp only at e;unfold nsFind findBy;rw[<-uH];split at e
 ·next en Z=>
  cases e;rw[Z];rfl
 ·next Z=>
  rw[Z];split at e
  ·cases e
  ·cases e;rfl
theorem XH{K:PySem.W.Frag}{h:cc}{mg:Str->Option Value}{cn f:Str}{C I N NI fI:Addr}(X:K.In h)(G:h.Ns mainGlobals mg)
 {nm q:Str} {bs:List Value} {sn:List Str} {sub:List Value} {ab:Bool} {col:Option Bool} {dd:Option Addr} {k0 k1 k2 k3 k5:Option Value}
 {nm' q':Str} {bs':List Value} {sn':List Str} {Y:List Value} {ab':Bool} {Z:Option Bool} {dd':Option Addr} {j0 j1 j2 j3 j5:Option Value} {nid:String}
 {c c':Value} {d d':Option Addr} {es O:Array DictEntry} {n n':Nat} {sl sl':Array (Option Value)}
 {name qual:Str} {params:Arguments} {scope:db} {dV kV doc pm cdv ct:Value} {an od:Option Addr} {osl:Array (Option Value)} {p1 p2 p3 p4:Pos}
 (a:PySem.W.nsIn K mainGlobals cn=some (some (.ref C))) (kp:PySem.W.keepIn K (.ref C)=true)
 (lC:K.lookup C=some (excClassObj nm q C N bs (.ref I::bmV) true sn sub ab col dd k0 k1 k2 k3 k5 "ValueError.__new__"))
 (lI:K.lookup I=some (excClassObj nm' q' I NI bs' bmV true sn' Y ab' Z dd' j0 j1 j2 j3 j5 nid))
 (lN:K.lookup N=some ⟨c,d,.dict es n,sl⟩) (oN:T_ es=true) (lNI:K.lookup NI=some ⟨c',d',.dict O n',sl'⟩) (oNI:T_ O=true)
 (i1:PySem.W.nsIn K N "__init__"=some (some (.ref fI))) (i2:PySem.W.nsIn K NI "__init__"=some none) (s1:PySem.W.nsIn K N "__setattr__"=some none) (s2:PySem.W.nsIn K NI "__setattr__"=some none)
 (n1:PySem.W.nsIn K N f=some none) (n2:PySem.W.nsIn K NI f=some none) (hB:typeLookup (.type "ValueError") f=pure none)
 (lk:K.lookup fI=some ⟨.type "function", od,.func (PySem.W.fnOf name qual params [.Assign [.Attribute (.Name "self" p1) f p2] (.Name f p3) p4] scope dV kV doc pm an cdv ct),osl⟩) (hcd:PySem.W.codeIn K cdv qual=true)
 (S:FnScope ["self", f] ["self", f] scope) (l1:scope.names.lookup ("self":Str)=some NameKind.local) (l2:scope.names.lookup f=some NameKind.local)
 (hb:∀u v,bindArgs (PySem.W.fnOf name qual params [.Assign [.Attribute (.Name "self" p1) f p2] (.Name f p3) p4] scope dV kV doc pm an cdv ct) ⟨[u,v],[]⟩=pure [(("self":Str),u),(f,v)])
 (ne:("self":Str)≠f) (nd:(f==("__debug__":Str))=false) (nc:(f==("__classdict__":Str))=false):Exc K mg cn f C I:=
 ⟨PySem.W.mg_of X G a,kp,hB,N,fI,nsFind es,nsFind O,λh X=>⟨⟨_,_,_,_,_,_,_,_,_,_,_,_,_,X _ _ lC⟩,V5 lN oN h X,⟨_,_,_,_,_,_,_,_,_,_,_,_,_,_,_,X _ _ lI,V5 lNI oNI h X⟩,by rfl⟩,tM lN i1,tM lNI i2,tM lN s1,tM lNI s2,tM lN n1,tM lNI n2,
  ⟨⟨name,qual,params,scope,dV,kV,doc,pm,cdv,ct,an,od,osl,p1,p2,p3,p4,lk,hcd,S,l1,l2,.all λus hl=>match us,hl with|[u,v],_=>hb u v⟩,ne,nd,nc⟩⟩
end XC
namespace XC
open L2 My D3
structure ExcG(K:PySem.W.Frag)(mg:Str->Option Value)(fld:Addr->Str)(cn f ic:Str):Prop where
 ex:∃C I,Exc K mg cn f C I/\fld C=f/\mg ic=some (.ref I)
section
variable{X:Cx}{fld:Addr->Str}{c f ic:Str}{i:Nat}{cond:Expr}
end
end XC
namespace XC
open L2 My
structure FlyN(h:cc)(a C dx:Addr)(f:Str)(u:Value)(T L:Addr):Prop where
 obj:∃vs sl,h.get? a=some ⟨.ref C,some dx,.fields vs,sl⟩/\vs[1]? = some (.ref T)/\vs[2]? = some .none
 dic:h.Ns1 dx (λy=>if y=f then some u else none)
 ne:dx≠a
 hd:T≠a/\T≠dx/\∃oT ts,h.get? T=some oT/\oT.data = .fields ts/\ts[3]? = some (rawInt L)
section
variable{M:Model}{A:bX}{E:Value->bE->Prop}{s:bE}
end
end XC
namespace XC
open L2 My
section
variable{X:Cx}{pins:List (Addr×Obj)}{σ:L2.St}{H H':Hp}{s:bE}
end
section
variable{P:bP}{w:b8}{K:PySem.W.Frag}{mg:Str->Option Value}{base:cc}{N:List Str}{qual:Str}{scope:db}{fa:Addr}{cdv:Value}{A:bX}{outer:List Env}{s₀:bE}{H₀:Hp}{E:XK}{fld:Addr->Str}
end
end XC
namespace XC
open L2 My D3
section
variable{X:Cx}{E:XK}{fl:List Fl}{body:List cm}{fx:FX}{pos:Pos}
theorem PI.nox{tg iter:Expr}{t:TI}(h:PI X.nox tg iter t):PI X tg iter t:=λpins s σ H R I hw=>
 ai (h pins s σ H R (I.wish _) hw) (λv s1 q=>ai q (λY s2 q=>by
  obtain⟨it,fp,tn,J,H',e,V,T,Z,W,r⟩:=q;exact⟨it,fp,tn,J,H',e,V.wish _,T,Z,λb hb=>W b hb,r⟩) λ_ _ z=>z.elim) λ_ _ z=>z.elim
theorem PG.nox{tg:Expr}{t:TG}(h:PG X.nox tg t):PG X tg t:=λpins s σ H v u Q I r hw=>
 ai (h pins s σ H v u Q (I.wish _) r hw) (λ_ s' q=>by
  obtain⟨σ',H',Z,q⟩:=q;exact⟨σ',H',Z.wish _,q⟩) λ_ _ z=>z.elim
end
section
variable{P:bP}{w:b8}{K:PySem.W.Frag}{mg:Str->Option Value}{base:cc}{N:List Str}{qual:Str}{scope:db}{fa:Addr}{cdv:Value}{A:bX}{outer:List Env}{s₀:bE}{H₀:Hp}{E:XK}{fld:Addr->Str}
variable{fl:List Fl}{cn f:Str}{arg:Expr}{fe:FE}{p pos rpos:Pos}{k:Nat}
end
section
variable{P:bP}{w:b8}{K:PySem.W.Frag}{mg:Str->Option Value}{base:cc}{fld:Addr->Str}{x:Str}{ps N ks:List Str}{st:cm}{k n:Nat}{f:FX}{fl:List Fl}{dvs:List V}{sp:Sp}
end
end XC
namespace XC
open L2 My D3
section
variable{P:bP}{w:b8}{K:PySem.W.Frag}{mg:Str->Option Value}{base:cc}{N:List Str}{qual:Str}{scope:db}{fa:Addr}{cdv:Value}{A:bX}{outer:List Env}{s₀:bE}{H₀:Hp}{E:XK}{fld:Addr->Str}
variable{fl:List Fl}{n:Nat}{x:Str}{ps:List Str}{F:List D->Option Or}{dvs:List V}{dd:List D}{e:Expr}{es:List Expr}{fs:FA}{p pos pos2:Pos}
end
end XC
namespace XC
open L2 My D3
section
variable{X:Cx}{pins:List (Addr×Obj)}{σ:L2.St}{H:Hp}{s:bE}{fld:Addr->Str}{k:Nat}{f:Addr}{fd:ca}{ps:List Str}{sp:Sp}{dvs:List V}{ds:List Value}{EX:XK}
variable{x y:Str}{p np pos pos2:Pos}{e:Expr}{es:List Expr}{ta:TA}{i:Nat}
end
end XC
namespace XC
open L2 My D3
section
variable{X:Cx}{fl:List Fl}{fld:Addr->Str}{n i j:Nat}{x y ic en:Str}{ps cs:List Str}{F:List D->Option Or}{dvs:List V}{dd:List D}{e:Expr}{es:List Expr}{fa:FA}{p yp pos pos2 np hpos tpos:Pos}{b0:cm}{suite:List cm}{fS:Str->D->DS->Option D}
end
end XC
namespace XC
open L2 My D3
structure RoomQ(k:Nat)(A:bX):Prop where
 dp:A.depth+3*k+5<recursionLimit
 un:A.units+16*k+200<cLine
theorem RoomQ.mono{j k:Nat}{A:bX}(r:RoomQ k A)(h:j<=k):RoomQ j A:=⟨by have:=r.dp;omega,by have:=r.un;omega⟩
theorem RoomQ.deeper{k:Nat}{A:bX}(r:RoomQ (k+1) A)(env:Env):RoomQ k (A.deeper env):=
 ⟨by have:=r.dp;show A.depth+1+3*k+5<_;omega,by have:=r.un;show A.units+3+16*k+200<_;omega⟩
theorem RoomQ.depth{k:Nat}{A:bX}(r:RoomQ k A):A.depth<recursionLimit:=by have:=r.dp;omega
theorem RoomQ.units{k:Nat}{A:bX}(r:RoomQ k A):A.units+64<cLine:=by have:=r.un;omega
structure FnOkP(P:bP)(w:b8)(K:PySem.W.Frag)(mg:Str->Option Value)(base:cc)(Pre:bX->List Env->bE->Hp->Prop)(k:Nat)(f:Addr)(fd:ca)(ps:List Str)(sp:Sp):Prop where
 len:∀vs H Q E,sp vs H Q E->vs.length=ps.length
 run:∀(A:bX)(outer:List Env)(s:bE)(H:Hp)(args:Args)(us:List Value)(vs:List V)(Q:VK)(E:XK),RoomQ k A->Env0 P w K mg base A outer s H->BindsTo s fd args (ps.zip us)->Vals vs us->Pre A outer s H->sp vs H Q E ->
  codeAny (model P w) A (.call (.ref f) args) (CR CX0 outer P w H s Q E) s
abbrev aa5(P:bP)(w:b8)(K:PySem.W.Frag)(mg:Str->Option Value)(base:cc)(k:Nat)(f:Addr)(fd:ca)(ps:List Str)(sp:Sp):Prop:=FnOkP P w K mg base (λ_ _ _ _=>True) k f fd ps sp
section
variable{X:Cx}{pins:List (Addr×Obj)}{σ:L2.St}{H:Hp}{s:bE}{k:Nat}{f:Addr}{fd:ca}{ps:List Str}{sp:Sp}
end
end XC
namespace XC
open L2 My D3
structure HasQ(P:bP)(w:b8)(K:PySem.W.Frag)(mg:Str->Option Value)(base:cc)(n:Nat)(x:Str)(ps:List Str)(sp:Sp):Prop where
 ex:∃(f:Addr)(fd:ca),aa5 P w K mg base n f fd ps sp/\Binds K fd ps []/\PySem.W.keepIn K (.ref f)=true/\mg x=some (.ref f)
section
variable{P:bP}{w:b8}{K:PySem.W.Frag}{mg:Str->Option Value}{base:cc}{x:Str}{ps N:List Str}{st:cm}{k n:Nat}{fs:FS}{fl:List Fl}
end
section
variable{X:Cx}{fl:List Fl}{e:Expr}{es:List Expr}{t:TA}{fa:FA}{pos p:Pos}{x:Str}{n:Nat}{ps:List Str}{sp:Sp}{F:List D->Option D}
end
end XC
namespace XC
open L2 My D3
structure ExA(K:PySem.W.Frag)(C:Addr):Prop where
 ga:PySem.W.findIn K (.ref C) "__getattribute__"=some (some (.builtin "BaseException.__getattribute__"))
 gh:PySem.W.findIn K (.ref C) "__getattr__"=some none
 hb:PySem.W.mroIn K C (.type "BaseException")=some true
section
variable{prog:bP}{w:b8}{A:bX}{E:Value->bE->Prop}{s:bE}{K:PySem.W.Frag}{x C:Addr}{ox:Obj}{od:Option Obj}{name:Str}{v:Value}
end
end XC
namespace XC
open L2 My D3
structure AttE(K:PySem.W.Frag)(C:Addr)(f:Str):Prop where
 ea:ExA K C
 hd:PySem.W.hasDictIn K C=true
 no:PySem.W.findIn K (.ref C) f=some none
section
variable{X:Cx}{a C D dx:Addr}{oa od:Obj}{u:Value}{v:V}{f n:Str}{i:Nat}{p1 pos:Pos}
end
end XC
namespace XC
open L2 My D3
structure KitE(K:PySem.W.Frag)(C:Addr):Prop where
 ea:ExA K C
 hd:PySem.W.hasDictIn K C=true
 fd:PySem.W.findIn K (.ref C) "__class__"=some (some (.builtin "object.__class__"))
 sp:PySem.W.specialIn K (.builtin "object.__class__") "__get__"=some (some (.builtin "getset_descriptor.__get__"))
 tk:PySem.W.takesIn K (.builtin "object.__class__")=some true
 mr:PySem.W.mroIn K C (.type "object")=some true
section
variable{X:Cx}{a C D dx:Addr}{oa od:Obj}{b:Bool}
end
end XC
namespace XC
open L2 My D3
theorem Dc{δ:DS}{i j:Nat}{x:U}(h:(δ.set i none)[j]? = some (some x)):j≠i/\δ[j]? = some (some x):=by
 by_cases e:j=i
 ·subst e;by_cases l:j<δ.length
  ·rw[bV l]at h;cases h
  ·rw[bL (by rw[bT];omega)]at h;cases h
 ·rw[aJ (ce e)]at h;exact⟨e,h⟩
theorem Rel.forget{K:PySem.W.Frag}{fl:List Fl}{G:Gh}{ow:Ow}{σ:L2.St}{H:Hp}{δ:DS}{i:Nat}{x:Option V}(R:Rel K fl G ow σ H δ)(O:fl[i]? = some .A):Rel K fl G ow (σ.set i x) H (δ.set i none):=by
 have no:∀a,ow i≠some a:=λa z=>by
  obtain⟨_,U,_⟩:=R.own i a z;rw[O]at U;rcases U with⟨z,_⟩|⟨z,_⟩<;>cases z
 refine⟨R.s0,R.s1,by rw[bT,bT];exact R.len,λj a h=>?_,R.inj,R.pin,λj X h1 hn h2=>?_,λj X h1 hn h2 h3=>?_,R.nt,R.nd,R.ns,R.np,λj X hn h1=>?_,λj Y h1 h2=>by rw[aJ (λz=>by rw[<-z,O]at h1;cases h1)];exact R.fx j Y h1 h2⟩
 ·have Z:j≠i:=λz=>no a (z▸h)
  obtain⟨h0,T,xs,ds,h1,h2,h3,h4⟩:=R.own j a h;exact⟨h0,T,xs,ds,by rwa[aJ (ce Z)],h2,h3,by rwa[aJ (ce Z)]⟩
 ·obtain⟨Z,e⟩:=Dc h1;obtain⟨Y,h3,h4⟩:=R.dat j X e hn h2;exact⟨Y,by rwa[aJ (ce Z)],h4⟩
 ·obtain⟨Z,e⟩:=Dc h1;exact R.oo j X e hn h2 h3
 ·obtain⟨Z,e⟩:=Dc h1;obtain⟨Y,h3,h4⟩:=R.nr j X hn e;exact⟨Y,by rwa[aJ (ce Z)],h4⟩
def tEt(i:Nat)(a:Addr)(b:Bool):TE:=λσ H Q=>σ[i]? = some (some (.ref a))/\∀H',Same H H'->Q (.bl b) H'
section
variable{X S:Cx}{a C I0 D dx:Addr}{oa od:Obj}{u:Value}{v:V}{f n cn:Str}{i j:Nat}{p p1 p2 pos:Pos}{cond a1 b1:Expr}{rest es:List Expr}{b:Bool}{k:Nat}
end
end XC
namespace XC
open L2 My D3
structure SuiG(K:PySem.W.Frag)(mg:Str->Option Value)(fld:Addr->Str)(cn f ic n1 n2 n3:Str):Prop where
 ex:∃C I D1 D2 D3,Exc K mg cn f C I/\fld C=f/\mg ic=some (.ref I)/\KitE K C/\AttE K C f/\mg n1=some (.ref D1)/\mg n2=some (.ref D2)/\mg n3=some (.ref D3)/\PySem.W.kitAny K (.ref C) [.ref D1,.ref D2,.ref D3]=some false
theorem SuiG.up{K:PySem.W.Frag}{mg:Str->Option Value}{fld:Addr->Str}{cn f ic n1 n2 n3:Str}(h:SuiG K mg fld cn f ic n1 n2 n3):ExcG K mg fld cn f ic:=by
 obtain⟨C,I,_,_,_,E,Z,m,_⟩:=h.ex;exact⟨C,I,E,Z,m⟩
theorem Room.q{k:Nat}{A:bX}{o:Option Value}(r:Room k A):RoomQ k (A.mark o):=⟨r.dp,r.un⟩
section
variable{X:Cx}{fl:List Fl}{fld:Addr->Str}{c f ic n1 n2 n3 n y g s0 s1:Str}{gp:List Str}{i j k:Nat}{W:List D->Option D}{rowE:Expr}{fr:FE}
variable{yp ap spos a1 a2 a3 a4 a5 a6 a7 a8 a9 b1 b2 b3 b4 b5 b6 b7 q0 q1 q2 q3 q4 q5 q6 q7 q8 q9 q10 q11 q12 q13 q14 rpos:Pos}{x1 j0 j1:Nat}
end
end XC
namespace XC
open L2 My D3
section
variable{X:Cx}{fl:List Fl}{fld:Addr->Str}{n i j:Nat}{x y ic en:Str}{ps cs:List Str}{F:List D->Option Or}{dvs:List V}{dd:List D}{e c:Expr}{es:List Expr}{fa:FA}{ft:FT}{f f1 f2:FX}{p yp pos pos2 np hpos tpos:Pos}{b0 st s1 s2:cm}{suite:List cm}{fS:Str->D->DS->Option D}
end
section
variable{P:bP}{w:b8}{K:PySem.W.Frag}{mg:Str->Option Value}{base:cc}{fld:Addr->Str}{x:Str}{ps N ks:List Str}{st:cm}{k n:Nat}{f:FX}{fl:List Fl}{dvs:List V}
end
end XC
namespace XC
open L2 My D3
structure SuiH(K:PySem.W.Frag)(mg:Str->Option Value)(fld:Addr->Str)(cn f ic n1 n2:Str):Prop where
 ex:∃C I D1 D2,Exc K mg cn f C I/\fld C=f/\mg ic=some (.ref I)/\KitE K C/\AttE K C f/\mg n1=some (.ref D1)/\mg n2=some (.ref D2)/\PySem.W.kitAny K (.ref C) [.ref D1,.ref D2]=some false/\PySem.W.kitOne K (.ref C) (.ref I)=some true
theorem SuiH.up{K:PySem.W.Frag}{mg:Str->Option Value}{fld:Addr->Str}{cn f ic n1 n2:Str}(h:SuiH K mg fld cn f ic n1 n2):ExcG K mg fld cn f ic:=by
 obtain⟨C,I,_,_,E,Z,m,_⟩:=h.ex;exact⟨C,I,E,Z,m⟩
structure SuiA(K:PySem.W.Frag)(mg:Str->Option Value)(fld:Addr->Str)(cn f ic:Str):Prop where
 ex:∃C I,Exc K mg cn f C I/\fld C=f/\mg ic=some (.ref I)/\AttE K C f
theorem Ub{K:PySem.W.Frag}{mg:Str->Option Value}{fld:Addr->Str}{cn f ic:Str}{C I:Addr}(E:Exc K mg cn f C I)(O:fld C=f)(m:mg ic=some (.ref I))(a:AttE K C f):SuiA K mg fld cn f ic:=⟨C,I,E,O,m,a⟩
theorem SuiA.up{K:PySem.W.Frag}{mg:Str->Option Value}{fld:Addr->Str}{cn f ic:Str}(h:SuiA K mg fld cn f ic):ExcG K mg fld cn f ic:=by
 obtain⟨C,I,E,Z,m,_⟩:=h.ex;exact⟨C,I,E,Z,m⟩
section
variable{X:Cx}{a C D dx:Addr}{oa od:Obj}{ic n:Str}{i:Nat}{p p1 p2 pos:Pos}{b:Bool}
end
section
variable{X:Cx}{fl:List Fl}{fld:Addr->Str}{c f ic n1 n2 n g s0 s1:Str}{gp:List Str}{i k:Nat}{W:List D->Option D}
variable{ap spos a1 a2 a3 a4 a5 b1 b2 b3 b4 b6 b7 q0 q1 q2 q3 q4 q5 q6 q7 q8 q9 q10 q11 rpos rp2:Pos}{x1 x2 x3 j0 j1 j2:Nat}
end
end XC
namespace XC
open L2 My D3
section
variable{P:bP}{w:b8}{K:PySem.W.Frag}{mg:Str->Option Value}{base:cc}{N:List Str}{qual:Str}{scope:db}{fa:Addr}{cdv:Value}{A:bX}{outer:List Env}{s₀:bE}{H₀:Hp}{E:XK}{fld:Addr->Str}
variable{fl:List Fl}{n:Nat}{x:Str}{ps:List Str}{F:List D->Option Or}{dvs:List V}{dd:List D}{e:Expr}{es:List Expr}{fs:FA}{p pos pos2:Pos}
end
end XC
namespace XC
open L2 My D3
structure At(K:PySem.W.Frag)(i:Nat)(a:Addr)(v:V)(d:D)(σ:L2.St)(H:Hp):Prop where
 sl:σ[i]? = some (some (.ref a))
 ra:RA K ok0 false H v d
 fl:flat d=true
section
variable{K:PySem.W.Frag}{fl:List Fl}{i:Nat}{a:Addr}{v:V}{d:D}{σ:L2.St}{H H':Hp}
theorem At.grow(h:At K i a v d σ H)(s:Same H H'):At K i a v d σ H':=⟨h.sl,h.ra.same s,h.fl⟩
theorem At.set{j:Nat}{x:Option V}(h:At K i a v d σ H)(n:i≠j):At K i a v d (σ.set j x) H:=⟨by rw[aJ (ce n)];exact h.sl,h.ra,h.fl⟩
end
structure Sc where
 i:Nat
 a:Addr
 v:V
 d:D
section
variable{X:Cx}{fl:List Fl}{z:Sc}{e a b c:Expr}{es rest:List Expr}{st:cm}{sts body orelse:List cm}{k:Kd}{f fa fb:FE}{fs gs:FS}{ft gt:FT}{fr:FA}{pos:Pos}
end
end XC
namespace D3
end D3
namespace XC
open L2 My D3
section
variable{X:Cx}{pins:List (Addr×Obj)}{σ:L2.St}{H:Hp}{s:bE}{a C I0 dx T D:Addr}{cn f ic n:Str}{u:Value}{i:Nat}{b0:cm}{suite:List cm}{np hpos:Pos}
end
section
variable{X:Cx}{fl:List Fl}{fld:Addr->Str}{i:Nat}{ic en:Str}{cs:List Str}{f:FX}{np hpos tpos:Pos}{b0 st:cm}{suite:List cm}{fS:Str->D->FS}
end
structure SuiU(K:PySem.W.Frag)(mg:Str->Option Value)(fld:Addr->Str)(cn f ic:Str)(ts:List (Str×Bool)):Prop where
 ex:∃C I,Exc K mg cn f C I/\fld C=f/\mg ic=some (.ref I)/\KitE K C/\AttE K C f/\∀t∈ts,∃D,mg t.1=some (.ref D)/\PySem.W.kitOne K (.ref C) (.ref D)=some t.2
theorem SuiU.up{K:PySem.W.Frag}{mg:Str->Option Value}{fld:Addr->Str}{cn f ic:Str}{ts:List (Str×Bool)}(h:SuiU K mg fld cn f ic ts):ExcG K mg fld cn f ic:=by
 obtain⟨C,I,E,Z,m,_⟩:=h.ex;exact⟨C,I,E,Z,m⟩
structure SuK(X:Cx)(f:Str)(ts:List (Str×Bool))(i:Nat)(n:Str)(a:Addr)(oa:Obj)(dx:Addr)(od:Obj)(v:V):Prop where
 is:∀(t:Str×Bool),t∈ts->Gl X t.1->(t.1==("__debug__":Str))=false->∀p p1 p2 pos,PE (yI X a oa dx od) (.Call (.Name "isinstance" p) [.Name n p1,.Name t.1 p2] [] pos) (tEt i a t.2)
 isv:X.mg "ValueError"=none->Gl X "ValueError" -> ∀p p1 p2 pos,PE (yI X a oa dx od) (.Call (.Name "isinstance" p) [.Name n p1,.Name "ValueError" p2] [] pos) (tEt i a true)
 att:∀p1 pos,PE (yI X a oa dx od) (.Attribute (.Name n p1) f pos) (λσ H Q=>σ[i]? = some (some (.ref a))/\Q v H)
section
variable{X:Cx}{fl:List Fl}{fld:Addr->Str}{c f ic n g:Str}{ts:List (Str×Bool)}{i k:Nat}{a dx:Addr}{oa od:Obj}{v:V}{d:D}{b0:cm}{suite:List cm}{fS:Str->D->FS}{gp:List Str}{W:List D->Option D}
end
end XC
namespace XS
open PySem.W
section
variable{α β:Type}{n:Nat}{R:α->Prop}{R':β->Prop}{lt:Nat->Nat->Bool}
end
def good(n:Nat)(p:Array Nat):Prop:=p.Perm (cB n).toArray
section
variable{n:Nat}{p:Array Nat}
theorem good.mem(g:good n p){x:Nat}(h:x∈p.toList):x<n:=by
 have:x∈(cB n):=by
  have:=(Array.perm_iff_toList_perm.mp g).mem_iff.mp h;simpa using this
 exact eF.mp this
theorem good.get(g:good n p)(h0:0<n)(i:Nat):p.getD i 0<n:=by
 unfold Array.getD;split
 ·exact g.mem (by simp)
 ·exact h0
end
open D3
end XS
namespace XS
open PySem.W L2 My D3
section
variable{X:Cx}{pins:List (Addr×Obj)}{σ:L2.St}{H:Hp}{s:bE}
end
section
variable{prog:bP}{w:b8}{A:bX}{E:Value->bE->Prop}{s:bE}
end
end XS
namespace XS
open PySem.W L2 My D3
section
variable{X:Cx}{pins:List (Addr×Obj)}{σ:L2.St}{H:Hp}{s:bE}
end
end XS
namespace XS
open PySem.W L2 My D3
section
variable{prog:bP}{w:b8}{A:bX}{E:Value->bE->Prop}{s:bE}
end
section
variable{X:Cx}
end
end XS
namespace XS
open PySem.W L2 My D3
section
variable{K:PySem.W.Frag}{H:Hp}
end
end XS
namespace XS
open PySem.W
section
variable{prog:bP}{w:b8}{A:bX}{E:Value->bE->Prop}{s:bE}
structure PL(h:cc)(D I l:Addr)(its:Array Value)(vs:List (L2.Key×Value))(i:Nat):Prop where
 iter:h.IsListIter I l i
 lst:h.IsList l its
 prs:∀(j:Nat)(u:Value),its[j]? = some u->∃(a:Addr)(n:Int)(t:Tok)(v:Value),u=cb a/\IsTup h a #[dS n t,v]/\vs[j]? = some (eb n,v)/\a≠D/\a≠I
 ne:l≠D/\l≠I/\D≠I
end
end XS
namespace XS
open PySem.W
section
variable{prog:bP}{w:b8}{A:bX}{E:Value->bE->Prop}{s:bE}
end
end XS
namespace XS
open PySem.W L2 My D3
section
variable{X:Cx}{pins:List (Addr×Obj)}{σ:L2.St}{H:Hp}{s:bE}
end
end XS
namespace D3
end D3
namespace D3
end D3
namespace D3
end D3
namespace D3
end D3
namespace L2
section
variable{κ:Type}[DecidableEq κ]
def vQ(kvs:List (κ×V))(k:κ):Option V:=(kvs.find? λZ=>decide (Z.1=k)).map (·.2)
noncomputable def putK(kvs:List (κ×V))(k:κ)(v:V):List (κ×V):=
 if(kvs.any λZ=>decide (Z.1=k))=true then kvs.map (λZ=>if Z.1=k then(Z.1,v)else Z)else kvs++[(k,v)]
def V6(kvs:List (κ×V))(k:κ):List (κ×V):=kvs.filter λZ=>decide (Z.1≠k)
theorem vR{p:κ×V}{r:List (κ×V)}{k:κ}(e:p.1=k):vQ (p::r) k=some p.2:=by simp[vQ,e]
theorem vU{p:κ×V}{r:List (κ×V)}{k:κ}(e:¬p.1=k):vQ (p::r) k=vQ r k:=by simp[vQ,e]
theorem Ga(k:κ):∀kvs:List (κ×V),(kvs.any λO=>decide (O.1=k))=(vQ kvs k).isSome
 |[]=>rfl
 |p::r=>by
  rw[kj];by_cases e:p.1=k
  ·simp only[vR e,dTr e,Bool.true_or,uK]
  ·rw[vU e,dFa e,Bool.false_or];exact Ga k r
theorem xV(kvs:List (κ×V))(k:κ)(v:V):(putK kvs k v).length<=kvs.length+1:=by
 unfold putK;split
 ·rw[aG];omega
 ·rw[bH,bC,nu];omega
theorem rR.isSome_eq{o:Option V}{u:Option Value}(r:rR o u):o.isSome=u.isSome:=by
 cases o with
 |none=>cases u with
  |none=>rfl
  |some _=>exact(show False from r).elim
 |some _=>cases u with
  |none=>exact(show False from r).elim
  |some _=>rfl
theorem rR.getD{o:Option V}{u:Option Value}{d:V}{d':Value}(r:rR o u)(rd:RelV d d'):RelV (o.getD d) (u.getD d'):=by
 cases o with
 |none=>cases u with
  |none=>exact rd
  |some _=>exact(show False from r).elim
 |some _=>cases u with
  |none=>exact(show False from r).elim
  |some _=>exact r
theorem KV.val{kvs:List (κ×V)}{vs:List (κ×Value)}(r:KV kvs vs)(k:κ):rR (vQ kvs k) (valueAt vs k):=by
 induction r with
 |nil=>exact cv
 | @cons p q ps Z h t X=>
  obtain⟨h1,h2⟩:=h;by_cases e:p.1=k
  ·have Y:q.1=k:=h1.symm.trans e;have b:valueAt (q::Z) k=some q.2:=by simp[valueAt,Y]
   rwa[vR e,b]
  ·have Y:¬q.1=k:=λz=>e (h1.trans z)
   have b:valueAt (q::Z) k=valueAt Z k:=by simp[valueAt,Y]
   rwa[vU e,b]
theorem KV.any{kvs:List (κ×V)}{vs:List (κ×Value)}(r:KV kvs vs)(k:κ):(kvs.any λO=>decide (O.1=k))=vs.any λO=>decide (O.1=k):=by
 induction r with
 |nil=>rfl
 |cons h t Z=>rw[kj,kj,Z,h.1]
theorem KV.repl{kvs:List (κ×V)}{vs:List (κ×Value)}(r:KV kvs vs)(k:κ){y:V}{u:Value}(Y:RelV y u):
 KV (kvs.map λO=>if O.1=k then(O.1,y)else O) (vs.map λO=>if O.1=k then(O.1,u)else O):=by
 unfold KV at r ⊢
 induction r with
 |nil=>exact .nil
 | @cons p q ps X h t Z=>
  rw[bB,bB];refine .cons ?_ Z;obtain⟨h1,h2⟩:=h;by_cases e:p.1=k
  ·rw[if_pos e,if_pos (h1.symm.trans e)];exact⟨h1,Y⟩
  ·rw[if_neg e,if_neg (λz=>e (h1.trans z))];exact⟨h1,h2⟩
theorem KV.put{kvs:List (κ×V)}{vs:List (κ×Value)}(r:KV kvs vs)(k:κ){y:V}{u:Value}(O:RelV y u):KV (putK kvs k y) (stored vs k u):=by
 unfold putK stored;rw[r.any k];by_cases e:(vs.any λZ=>decide (Z.1=k))=true
 ·rw[if_pos e,if_pos e];exact r.repl k O
 ·rw[if_neg e,if_neg e];exact Paired.snoc r ⟨rfl,O⟩
theorem KV.drop{kvs:List (κ×V)}{vs:List (κ×Value)}(r:KV kvs vs)(k:κ):KV (V6 kvs k) (without vs k):=by
 unfold KV at r ⊢;unfold V6 without
 induction r with
 |nil=>exact .nil
 | @cons p q ps X h t Z=>
  obtain⟨h1,h2⟩:=h;rw[mJ,mJ];by_cases e:p.1=k
  ·have a:¬decide (p.1≠k)=true:=by simp[e]
   have b:¬decide (q.1≠k)=true:=by simp[h1.symm.trans e]
   rwa[if_neg a,if_neg b]
  ·have Y:¬q.1=k:=λz=>e (h1.trans z)
   have a:decide (p.1≠k)=true:=by simp[e]
   have b:decide (q.1≠k)=true:=by simp[Y]
   rw[if_pos a,if_pos b];exact .cons ⟨h1,h2⟩ Z
theorem KV.keys{kvs:List (κ×V)}{vs:List (κ×Value)}(r:KV kvs vs):kvs.map (·.1)=vs.map (·.1):=by
 induction r with
 |nil=>rfl
 |cons h t Z=>rw[bB,bB,Z,h.1]
theorem KV.length{kvs:List (κ×V)}{vs:List (κ×Value)}(r:KV kvs vs):kvs.length=vs.length:=Paired.length r
end
theorem Gb{P:bP}{w:b8}{k:Key}{u:Value}(r:RelV (kV k) u):(iz P w).is k u=true:=by
 cases k with
 |inl i=>obtain⟨t,e⟩:=(show ∃t,u=dS i t from r);subst e;exact Es P w i t
 |inr x=>obtain⟨t,e⟩:=(show ∃t,u=dy x t from r);subst e;exact Et P w x t
theorem Bx{P:bP}{w:b8}:∀{ks:List Key}{us:List Value},Vals (ks.map kV) us->ItemsAre (iz P w) ks us
 |[],_,r=>by rw[iI]at r;cases r;exact .nil
 |k::ks,_,r=>by
  rw[bB]at r
  cases r with
  |cons h t=>exact .cons (Gb h) (Bx t)
abbrev KT(H:Hp):List (List Key×V)->List (List Key×Addr×Value)->Prop:=Paired λp q=>p.1=q.1/\H q.2.1=some (.tup (p.1.map kV))/\RelV p.2 q.2.2
theorem KT.val{H:Hp}{kvs:List (List Key×V)}{xs:List (List Key×Addr×Value)}(r:KT H kvs xs)(k:List Key):rR (vQ kvs k) ((atKey xs k).map (·.2)):=by
 induction r with
 |nil=>exact cv
 | @cons p q ps Z h t X=>
  obtain⟨h1,_,h2⟩:=h;by_cases e:p.1=k
  ·have Y:q.1=k:=h1.symm.trans e;have b:atKey (q::Z) k=some q.2:=by simp[atKey,Y]
   rwa[vR e,b]
  ·have Y:¬q.1=k:=λz=>e (h1.trans z)
   have b:atKey (q::Z) k=atKey Z k:=by simp[atKey,Y]
   rwa[vU e,b]
theorem KT.repl{H:Hp}{kvs:List (List Key×V)}{xs:List (List Key×Addr×Value)}(r:KT H kvs xs)(k:List Key){y:V}{u:Value}(Y:RelV y u):
 KT H (kvs.map λO=>if O.1=k then(O.1,y)else O) (xs.map (putAt k u)):=by
 induction r with
 |nil=>exact .nil
 | @cons p q ps X h t Z=>
  rw[bB,bB];refine .cons ?_ Z;obtain⟨h1,h2,h3⟩:=h;unfold putAt;by_cases e:p.1=k
  ·rw[if_pos e,if_pos (h1.symm.trans e)];exact⟨h1,h2,Y⟩
  ·rw[if_neg e,if_neg (λz=>e (h1.trans z))];exact⟨h1,h2,h3⟩
theorem KT.put{H:Hp}{kvs:List (List Key×V)}{xs:List (List Key×Addr×Value)}(r:KT H kvs xs)(k:List Key){b:Addr}{y:V}{u:Value}(hb:H b=some (.tup (k.map kV)))(O:RelV y u):
 KT H (putK kvs k y) (storedH xs k b u):=by
 have e:(kvs.any λZ=>decide (Z.1=k))=(atKey xs k).isSome:=by
  rw[Ga,(r.val k).isSome_eq,o7]
 unfold putK storedH;rw[e];by_cases q:(atKey xs k).isSome=true
 ·rw[if_pos q,if_pos q];exact r.repl k O
 ·rw[if_neg q,if_neg q];exact Paired.snoc r ⟨rfl,hb,O⟩
theorem KT.keeps{H H':Hp}{kvs:List (List Key×V)}{xs:List (List Key×Addr×Value)}(r:KT H kvs xs)(O:∀b ys,H b=some (.tup ys)->H' b=some (.tup ys)):KT H' kvs xs:=
 Paired.mapP r λ_ _ z=>⟨z.1,O _ _ z.2.1,z.2.2⟩
section
variable{P:bP}{w:b8}{H:Hp}{h:cc}{a:Addr}
theorem V7{u:HO}(ok:HOk P w H h)(e:Rd H a u):iM P w H h a u:=e.ok ok
theorem uy{kvs:List (Key×V)}(ok:HOk P w H h)(e:Rd H a (.dK kvs)):kvs.length<=sizeLine/\(a==sysModules)=false/\∃vs,KV kvs vs/\h.DictOf (iz P w) a vs:=
 show iM P w H h a (.dK kvs)from V7 ok e
theorem aa6{kvs:List (Key×V)}(ok:HOk P w H h)(e:H a=some (.dK kvs)):kvs.length<=sizeLine/\(a==sysModules)=false/\∃vs,KV kvs vs/\h.DictOf (iz P w) a vs:=uy ok (.inl e)
theorem zK{ks:List Key}(ok:HOk P w H h)(e:H a=some (.tup (ks.map kV))):(tupleKind (iz P w)).is h ks a:=by
 obtain⟨_,its,r,o,h1,h2,n,h3⟩:=(show iM P w H h a (.tup (ks.map kV))from ok a _ e);exact⟨o,its.toArray,n,h1,h2,h3,by simpa using Bx r⟩
theorem BJ{kvs:List (List Key×V)}(ok:HOk P w H h)(e:Rd H a (.dT kvs)):kvs.length<=sizeLine/\(a==sysModules)=false /\
 ∃xs,KT H kvs xs/\h.DictOfH (tupleKind (iz P w)) a xs:=by
 obtain⟨z,y,xs,r,o,es,Y,h1,h2,h3,h4,h5⟩:=(show iM P w H h a (.dT kvs)from V7 ok e);refine⟨z,y,xs,r,o,es,Y,h1,h2,h3,h4,λx hx=>?_,h5⟩;have all:∀{l:List (List Key×V)}{m:List (List Key×Addr×Value)},KT H l m->∀x∈m,(tupleKind (iz P w)).is h x.1 x.2.1:=by
  intro l m q
  induction q with
  |nil=>intro x hx;exact nomatch hx
  | @cons p q ps X hq t Z=>
   intro x hx;rcases bI.mp hx with e|hx
   ·subst e;exact zK ok (by rw[<-hq.1];exact hq.2.1)
   ·exact Z x hx
 exact all r x hx
theorem aa7{kvs:List (List Key×V)}(ok:HOk P w H h)(e:H a=some (.dT kvs)):kvs.length<=sizeLine/\(a==sysModules)=false /\
 ∃xs,KT H kvs xs/\h.DictOfH (tupleKind (iz P w)) a xs:=BJ ok (.inl e)
end
def zL(H:Hp)(a:Addr)(y:V)(r:Option V):Prop:=
 (∃kvs k,Rd H a (.dK kvs)/\y=kV k/\r=vQ kvs k)\/∃kvs k b,Rd H a (.dT kvs)/\y = .ref b/\H b=some (.tup (k.map kV))/\r=vQ kvs k
def Ii(H:Hp)(a:Addr)(y v:V)(H':Hp):Prop:=
 (∃kvs k,H a=some (.dK kvs)/\y=kV k/\kvs.length<sizeLine/\H'=upd H a (.dK (putK kvs k v))) \/
 ∃kvs k b,H a=some (.dT kvs)/\y = .ref b/\H b=some (.tup (k.map kV))/\kvs.length<sizeLine/\H'=upd H a (.dT (putK kvs k v))
theorem zL.k{H:Hp}{a:Addr}{kvs:List (Key×V)}{k:Key}(e:H a=some (.dK kvs)):zL H a (kV k) (vQ kvs k):=.inl ⟨kvs,k,.inl e,rfl,rfl⟩
theorem zL.t{H:Hp}{a b:Addr}{kvs:List (List Key×V)}{k:List Key}(e:H a=some (.dT kvs))(O:H b=some (.tup (k.map kV))):zL H a (.ref b) (vQ kvs k):=.inr ⟨kvs,k,b,.inl e,rfl,O,rfl⟩
theorem Ii.k{H:Hp}{a:Addr}{kvs:List (Key×V)}{k:Key}{v:V}(e:H a=some (.dK kvs))(hl:kvs.length<sizeLine):Ii H a (kV k) v (upd H a (.dK (putK kvs k v))):=.inl ⟨kvs,k,e,rfl,hl,rfl⟩
theorem Ii.t{H:Hp}{a b:Addr}{kvs:List (List Key×V)}{k:List Key}{v:V}(e:H a=some (.dT kvs))(O:H b=some (.tup (k.map kV)))(hl:kvs.length<sizeLine):
 Ii H a (.ref b) v (upd H a (.dT (putK kvs k v))):=.inr ⟨kvs,k,b,e,rfl,O,hl,rfl⟩
section
variable{X:Cx}{pins:List (Addr×Obj)}{σ:St}{H:Hp}{s:bE}{a:Addr}{y v:V}{u r:Value}{o:Option V}{A:bX}{E:Value->bE->Prop}
theorem Inv.big(I:Inv X pins σ H s):sysModules<s.heap.objs.size:=by
 have h:=(I.mod.glob.keeps I.bk).lt;exact nO (by decide) h
theorem Ml{Q:Value->bE->Prop}(hu:A.units+1<cLine)(I:Inv X pins σ H s)(g:zL H a y (some v))(ry:RelV y u)(h:∀O s',Inv X pins σ H s'->RelV v O->Q O s'):
 wpAny (model X.prog X.w) A (getItem (.ref a) u) Q E s:=by
 rcases g with⟨kvs,k,e,W,l⟩|⟨kvs,k,b,e,W,U,l⟩
 ·subst W;obtain⟨z,hd,vs,rel,dd⟩:=uy I.hok e;obtain⟨O,hw,Z⟩:=rR.some_of (v:=v) (o:=valueAt vs k) (by rw[l];exact rel.val k);exact wpAny_getItem_of (Gb ry) dd.mapOf hw (h O _ (I.tok _) Z)
 ·subst W
  cases(show u=cb b from ry);obtain⟨z,hd,xs,rel,dd⟩:=BJ I.hok e;obtain⟨O,hw,Z⟩:=rR.some_of (v:=v) (o:=(atKey xs k).map (·.2)) (by rw[l];exact rel.val k);obtain⟨p,V,Y⟩:=gO.mp hw;refine wpAny_getItem_heap (aE hu) (zK I.hok U) dd V ?_;rw[Y];exact h O _ (I.tok _) Z
theorem aj7{Q:Value->bE->Prop}(Y:A.units+1<cLine)(I:Inv X pins σ H s)(g:zL H a y o)(O:RelV y u)(h:∀s',Inv X pins σ H s'->Q (.bool o.isSome) s'):
 wpAny (model X.prog X.w) A (compareOp .In u (.ref a)) Q E s:=by
 rcases g with⟨kvs,k,e,Z,l⟩|⟨kvs,k,b,e,Z,W,l⟩
 ·subst Z;obtain⟨z,hd,vs,rel,dd⟩:=uy I.hok e;refine wpAny_in_of (Gb O) hd dd.mapOf ?_;rw[<-(rel.val k).isSome_eq,<-l];exact h _ (I.tok _)
 ·subst Z
  cases(show u=cb b from O);obtain⟨z,hd,xs,rel,dd⟩:=BJ I.hok e;refine wpAny_in_heap (aE Y) (zK I.hok W) hd dd ?_;have q:=(rel.val k).isSome_eq;rw[o7]at q;rw[<-q,<-l];exact h _ (I.tok _)
theorem Uc{Q:Value->bE->Prop}(Y:A.units+1<cLine)(I:Inv X pins σ H s)(g:zL H a y o)(O:RelV y u)(h:∀s',Inv X pins σ H s'->Q (.bool (!o.isSome)) s'):
 wpAny (model X.prog X.w) A (compareOp .NotIn u (.ref a)) Q E s:=by
 rcases g with⟨kvs,k,e,Z,l⟩|⟨kvs,k,b,e,Z,W,l⟩
 ·subst Z;obtain⟨z,hd,vs,rel,dd⟩:=uy I.hok e;refine wpAny_notIn_of (Gb O) hd dd.mapOf ?_;rw[<-(rel.val k).isSome_eq,<-l];exact h _ (I.tok _)
 ·subst Z
  cases(show u=cb b from O);obtain⟨z,hd,xs,rel,dd⟩:=BJ I.hok e;refine wpAny_notIn_heap (aE Y) (zK I.hok W) hd dd ?_;have q:=(rel.val k).isSome_eq;rw[o7]at q;rw[<-q,<-l];exact h _ (I.tok _)
theorem J9{h':cc}{t':Nat}{O:HO}(I:Inv X pins σ H s)(Y:Mut (H a))(hs:dv a s.heap h')(Z:∃q,h'.get? a=some q)(new:iM X.prog X.w (upd H a O) h' a O):
 Inv X pins σ (upd H a O) {s with heap:=h',toks:=t'}:=
 I.write (x:=a) (e:=a) Y (.inl rfl) (λb q hb z=>(hs.2 b hb).trans z) Z new
theorem XJ{P:bP}{w:b8}{H':Hp}{h':cc}{kvs:List (Key×V)}{vs:List (Key×Value)}(z:kvs.length<=sizeLine)(hd:(a==sysModules)=false)(rel:KV kvs vs)(dd:h'.DictOf (iz P w) a vs):
 iM P w H' h' a (.dK kvs):=⟨z,hd,vs,rel,dd⟩
theorem Mp{H':Hp}{Q:Unit->bE->Prop}(hu:A.units+1<cLine)(I:Inv X pins σ H s)(g:Ii H a y v H')(O:RelV y u)(rv:RelV v r)(h:∀s',Inv X pins σ H' s'->Q () s'):
 wpAny (model X.prog X.w) A (setItem (.ref a) u r) Q E s:=by
 rcases g with⟨kvs,k,e,W,l,V⟩|⟨kvs,k,b,e,W,U,l,V⟩
 ·subst W V;obtain⟨z,hd,vs,rel,dd⟩:=aa6 I.hok e;have Y:vs.length<=sizeLine:=by rwa[<-rel.length]
  have hl:(putK kvs k v).length<=sizeLine:=by have:=xV kvs k v;omega
  refine wpAny_setItem_pairs (hsz:=Y) (Gb O) dd λh' Z hs=>h _ ?_
  have T:∃q,h'.get? a=some q:=let⟨q,_,_,hq,_⟩:=Z;⟨q,hq⟩;exact J9 I (by rw[e];exact cv) hs T (XJ hl hd (rel.put k rv) Z)
 ·subst W V
  cases(show u=cb b from O);obtain⟨z,hd,xs,rel,dd⟩:=aa7 I.hok e;have Y:xs.length<=sizeLine:=by rwa[<-Paired.length rel]
  have hl:(putK kvs k v).length<=sizeLine:=by have:=xV kvs k v;omega
  refine wpAny_setItem_heap (hsz:=Y) (aE hu) (zK I.hok U) dd λh' Z hs=>h _ ?_
  obtain⟨q,es,S,hq,h2,h3,h4,_,h5⟩:=Z;refine J9 I (by rw[e];exact cv) hs ⟨q,hq⟩ ⟨hl,hd,_,(rel.put k U rv).keeps λc ys R=>?_,q,es,S,hq,h2,h3,h4,h5⟩;rwa[bW (jH R e (λz=>nomatch z))]
end
section
variable{X:Cx}{pins:List (Addr×Obj)}{σ:St}{H:Hp}{s:bE}{a:Addr}{kvs:List (Key×V)}{k:Key}{u:Value}{A:bX}{E:Value->bE->Prop}
end
def XM(i:Expr):Prop:=∀Z Y,subscripted i false Z Y=operate [Z,Y] (getItem Z Y)
theorem Ud{prog:bP}{w:b8}{A:bX}{E:Value->bE->Prop}{s:bE}{env:Env}{value slice:Expr}{pos:Pos}{T id:String}{Q:Value->bE->Prop}
 (hl:typeLookup (.type T) "__getitem__"=pure (some (.builtin id))) (hs:XM slice)
 (h:wpAny (model prog w) A (eval value env) (λo s₁=>wpAny (model prog w) A (eval slice env) (λi O=>O.TypeIs o T/\wpAny (model prog w) A (getItem o i) Q E O) E s₁) E s) :
 wpAny (model prog w) A (eval (.Subscript value slice pos) env) Q E s:=by
 refine Subscript_ (ai h (λo s₁ V=>ai V (λi O Z=>?_) λ_ _ x=>x) λ_ _ x=>x);obtain⟨hT,Z⟩:=Z;refine aa ?_;rw[getitemInPython_of_ne hT.not_modules];refine aa (wpAny_specialOf hT hl ?_);have X:wpAny (model prog w) A (subscripted slice false o i) (λr Y=>wpAny (model prog w) A (letTemporaryGo value o r >>= λ_=>pure r) Q E Y) E O:=by
  rw[hs o i];exact wpAny_operating (ai Z (λr Y W=>aa (wpAny_letTemporaryGo (af W))) λ_ _ x=>x)
 first
  |exact af (aa X)
  |exact aa (af (aa X))
  |exact aa X
theorem Gd{X:Cx}{pins:List (Addr×Obj)}{σ:St}{H:Hp}{s:bE}{a:Addr}{y:V}{o:Option V}(I:Inv X pins σ H s)(g:zL H a y o):s.TypeIs (.ref a) "dict" := by
 rcases g with⟨kvs,k,e,_,_⟩|⟨kvs,k,b,e,_,_,_⟩
 ·obtain⟨_,_,vs,_,dd⟩:=uy I.hok e;exact dd.typeIs
 ·obtain⟨_,_,xs,_,dd⟩:=BJ I.hok e;exact dd.typeIs
def aa8(td ty:TE):TE:=λσ H Q=>td σ H λx H1=>ty σ H1 λy H2=>∃a v,x = .ref a/\zL H2 a y (some v)/\Q v H2
def aa9(td ty tv:TE):TS:=λD σ H=>tv σ H λv H1=>td σ H1 λx H2=>ty σ H2 λy Y=>∃a Z,x = .ref a/\Ii Y a y v Z/\D.nx σ Z
section
variable{X:Cx}{o i e value:Expr}{pos pos' tpos:Pos}{td ty tv:TE}
theorem Ue(O:X.A.units+1<cLine)(ho:PE X o td)(hi:PE X i ty)(hs:XM i):PE X (.Subscript o i pos) (aa8 td ty):=by
 intro pins s σ H Q I h;refine Ud PySem.F.slot_dict_getitem.lookup hs (thn (ho pins s σ H _ I h) λu s1 ⟨x,H1,T,V,q1⟩=>thn (hi pins s1 σ H1 _ T q1) λP s2 ⟨y,H2,Y,W,a,v,ex,g,q2⟩=>?_);subst ex;obtain rfl:u=cb a:=V;exact⟨Gd Y g,Ml O Y g W λS R U Z=>⟨v,H2,U,Z,q2⟩⟩
theorem Ug(hu:X.A.units+1<cLine)(ho:PE X o td)(hi:PE X i ty)(O:PE X value tv)(hs:swapsWith value (some (.Subscript o i pos')) pos.line X.env=pure false):
 PS X (.Assign [.Subscript o i pos'] value pos) (aa9 td ty tv):=by
 intro pins s σ H D I h;refine wpAny_Assign_Subscript (thn (O pins s σ H _ I h) λr s1 ⟨v,H1,S,W,q1⟩=>thn (ho pins s1 σ H1 _ S q1) λu s2 ⟨x,H2,T,Y,q2⟩=>thn (hi pins s2 σ H2 _ T q2) λN P ⟨y,M,U,Z,a,R,ex,g,q3⟩=>?_) hs;subst ex;obtain rfl:u=cb a:=Y;exact Mp hu U g Z W λQ V=>⟨σ,R,V,q3⟩
end
theorem zc{P:bP}{w:b8}{H:Hp}(h:cc)(hb:sysModules<h.objs.size):iM P w H (h.push {cls:=.type "dict", data:=.dict #[]}) h.objs.size (.dK []):=
 ⟨jh _,beq_eq_false_iff_ne.mpr (ce (b_ hb)),[],.nil,Heap.DictOf.new h⟩
def Hz:TE:=λ_ H Q=>∀p,H p=none->Q (.ref p) (upd H p (.dK []))
section
variable{X:Cx}{pos:Pos}
theorem Fg:PE X (.Dict [] [] pos) Hz:=λpins s σ H Q I h=>
 wpAny_Dict_empty ⟨.ref s.heap.objs.size,_,I.laid (a:=s.heap.objs.size) (o:=.dK []) (t':=s.toks) (λ_ _ q=>ad _ q) (aQ _) (zc s.heap I.big),rfl,h _ (I.hok.fresh (aQ _))⟩
end
structure M1(X:Cx)(o:Expr)(m:Str)(apos:Pos)(e:Expr)(cpos:Pos):Prop where
 base:attributeBase o m X.env (eval o X.env)=eval o X.env
 few:((backTo cpos (starEach [e] X.env)).all (λx=>!x.1)&&(backToKw cpos (keywordEach [] X.env)).all (λx=>x.1.isSome)
  && decide (([e]:List Expr).length+([]:List dQ).length+(if([]:List dQ).isEmpty then 0 else 1)<30))=true
 line:(apos.endLine==cpos.line)=true
 trees:backTo cpos (starEach [e] X.env)=[(false,eval e X.env)]
structure M2(X:Cx)(o:Expr)(m:Str)(apos:Pos)(e f:Expr)(cpos:Pos):Prop where
 base:attributeBase o m X.env (eval o X.env)=eval o X.env
 few:((backTo cpos (starEach [e,f] X.env)).all (λx=>!x.1)&&(backToKw cpos (keywordEach [] X.env)).all (λx=>x.1.isSome)
  && decide (([e,f]:List Expr).length+([]:List dQ).length+(if([]:List dQ).isEmpty then 0 else 1)<30))=true
 line:(apos.endLine==cpos.line)=true
 trees:backTo cpos (starEach [e,f] X.env)=[(false,eval e X.env),(false,eval f X.env)]
def IsD(H:Hp)(a:Addr):Prop:=(∃kvs,Rd H a (.dK kvs))\/∃kvs,Rd H a (.dT kvs)
theorem XQ{X:Cx}{pins:List (Addr×Obj)}{σ:St}{H:Hp}{s:bE}{a:Addr}(I:Inv X pins σ H s)(d:IsD H a):
 s.TypeIs (.ref a) "dict"/\(∀b,cb a = .ref b->∃O,s.heap.get? b=some O/\O.dict=none)/\(a==sysModules)=false:=by
 rcases d with⟨kvs,e⟩|⟨kvs,e⟩
 ·obtain⟨_,hd,vs,_,dd⟩:=uy I.hok e;refine⟨dd.typeIs,λb q=>?_,hd⟩
  cases q;obtain⟨O,_,_,h1,h2,_⟩:=dd;exact⟨O,h1,h2.2.1⟩
 ·obtain⟨_,hd,xs,_,dd⟩:=BJ I.hok e;refine⟨dd.typeIs,λb q=>?_,hd⟩
  cases q;obtain⟨O,_,_,h1,h2,_⟩:=dd;exact⟨O,h1,h2.2.1⟩
section
variable{X:Cx}{pins:List (Addr×Obj)}{σ:St}{H:Hp}{s:bE}{a:Addr}{y d:V}{u r:Value}{o:Option V}{A:bX}{E:Value->bE->Prop}
end
section
variable{X:Cx}{o e f:Expr}{apos cpos:Pos}{td ty tx:TE}
end
section
variable{X:Cx}{pins:List (Addr×Obj)}{σ:St}{H:Hp}{s:bE}{a:Addr}{kvs:List (Key×V)}{A:bX}{E:Value->bE->Prop}
end
section
variable{X:Cx}{pins:List (Addr×Obj)}{σ:St}{H:Hp}{s:bE}{a:Addr}{y:V}{u:Value}{A:bX}{E:Value->bE->Prop}
end
section
variable{κ:Type}[DecidableEq κ]
end
end L2
namespace XK
open L2 My D3
section
variable{K:PySem.W.Frag}{H:Hp}
theorem J_{H H':Hp}{a:Addr}{u:HO}(s:Same H H')(h:L2.Rd H a u):L2.Rd H' a u:=by
 rcases h with h|⟨o,h⟩
 ·exact .inl (s _ _ h)
 ·exact .inr ⟨o,s _ _ h⟩
end
section
variable{X:Cx}{fl:List Fl}{e a b c ke:Expr}{f fa fb fc fk:FE}{pos:Pos}
def ab0:R2:=λx y H Q=>∃p o,y = .ref p/\zL H p x o/\Q (.bl o.isSome) H
def Ka:R2:=λx y H Q=>∃p o,y = .ref p/\zL H p x o/\Q (.bl (!o.isSome)) H
theorem XR(O:X.A.units+64<cLine):OpR X (compareOp .In) ab0:=by
 intro pins s σ H x y v u Q I Y Z h;obtain⟨p,o,rfl,g,q⟩:=h;obtain rfl:u=cb p:=Z;exact aj7 (by omega) I g Y λs' W=>⟨.bl o.isSome,H,W,rfl,q⟩
theorem Mq(O:X.A.units+64<cLine):OpR X (compareOp .NotIn) Ka:=by
 intro pins s σ H x y v u Q I Y Z h;obtain⟨p,o,rfl,g,q⟩:=h;obtain rfl:u=cb p:=Z;exact Uc (by omega) I g Y λs' W=>⟨.bl (!o.isSome),H,W,rfl,q⟩
end
end XK
namespace XK
open L2 My D3
theorem hu1{n:Nat}(h:n+64<cLine):n+1<cLine:=by omega
section
variable{X:Cx}{fl:List Fl}{e a b c ke:Expr}{f fa fb fc fk:FE}{pos:Pos}
end
end XK
namespace XK
open L2 My D3
section
variable{X:Cx}{pins:List (Addr×Obj)}{σ:L2.St}{H H':Hp}{s:bE}{a:Addr}{kvs:List (Key×V)}{o:Obj}
end
theorem X3{P:bP}{w:b8}{k:Key}{v:Value}(h:(iz P w).is k v=true):RelV (kV k) v:=by
 rw[Hg]at h;rcases gR h with⟨i,t,rfl,rfl⟩|⟨x,t,rfl,rfl⟩
 ·exact⟨t,rfl⟩
 ·exact⟨t,rfl⟩
section
variable{K:PySem.W.Frag}{H:Hp}{a:Addr}{kvs:List (Key×V)}{o:Obj}
end
section
variable{X:Cx}{fl fl':List Fl}{e b c elt tg iter:Expr}{es ifs:List Expr}{k:Kd}{f fa fb fc fx:FE}{ft gt:FT}{pos:Pos}{scope:db}{ix L TT:List Nat}{fi:FA}{g:FG}
end
end XK
namespace XK
abbrev aj8(h:cc)(z a0 TI TO:Addr)(b:Bool):Prop:=
 h.get? z=some {cls:=.type "zip", dict:=none,data:=.fields #[rawInt a0,.bool b,.bool false,.ref TI,.ref TO],slots:=#[]}
section
variable{prog:bP}{w:b8}{A:bX}{E:Value->bE->Prop}{s:bE}
end
end XK
namespace XK
structure LZ(h:cc)(base:Nat)(z TI TO i1 i2 l1 l2 S:Addr)(xs ys:Array Value)(i:Nat)(acc:Array Value):Prop where
 ti:IsPair h TI (.ref i1) (.ref i2)
 j1:h.IsListIter i1 l1 i
 j2:h.IsListIter i2 l2 i
 q1:h.IsList l1 xs
 q2:h.IsList l2 ys
 zz:(i=0/\IsZip h z TI TO .none/\∃a b,IsPair h TO a b)\/∃a0 b o0,base<=a0/\aj8 h z a0 TI TO b/\h.get? a0=some o0
 sz:base<=h.objs.size
 al:acc.size=i
 ac:∀j,j<i->∃a x y,acc[j]? = some (.ref a)/\base<=a/\xs[j]? = some x/\ys[j]? = some y/\IsPair h a x y
 inj:∀(j j':Nat)(a:Addr),acc[j]? = some (.ref a)->acc[j']? = some (.ref a)->j=j'
 ss:∃c,h.get? S=some {cls:=.type "list", dict:=none,data:=.seq acc c,slots:=#[]}
section
variable{prog:bP}{w:b8}{A:bX}{R:Result->bE->Prop}{z TI TO i1 i2 l1 l2 S:Addr}{xs ys:Array Value}{base:Nat}
end
end XK
namespace XK
section
variable{prog:bP}{w:b8}{A:bX}{E:Value->bE->Prop}{s:bE}
end
end XK
namespace XK
open L2 My D3
section
variable{X:Cx}{fl:List Fl}{a b:Expr}{f g:FE}{p p2 pos pos2:Pos}
end
end XK
namespace XK
section
variable{prog:bP}{w:b8}{A:bX}{R:Result->bE->Prop}{I:Addr}{fp wr:List Addr}{n:Nat}{P:Nat->Value->Prop}{St:Nat->cc->Prop}{kw:List (Str×Value)}
end
section
variable{prog:bP}{w:b8}{A:bX}{E:Value->bE->Prop}{s:bE}
end
end XK
namespace XK
open L2 My D3
section
variable{X:Cx}{fl:List Fl}{e z:Expr}{fa:FA}{fz:FE}{p pos kpos:Pos}
variable{a:Expr}{f:FE}{ta:TE}
end
end XK
namespace D3
noncomputable def BK:D->D->Option D:=λx y=>match x,y with
 | .str i,.str j=>if i.length+j.length<=1000000 then some (.str (i++j))else none
 |_,_=>none
def Uh:D->D->Option D:=λx y=>match x,y with
 | .str z,.int i=>if z.length<=1000000 then(L2.atI z.cps.toList i).map λc=>.str ⟨#[c]⟩else none
 |_,_=>none
def Kc:List D->Option D
 |[.str z]=>if z.length<=1000000 then some (.int z.length)else none
 |_=>none
end D3
namespace XW
open L2 My D3
section
variable{X:Cx}{fl:List Fl}{a b e:Expr}{fa fb fe f:FE}{pos apos cpos:Pos}
theorem PB{K:PySem.W.Frag}:BrO K (λx y H Q=>∃i j,x = .str i/\y = .str j/\i.length+j.length<=sizeLine/\Q (.str (i++j)) H) BK:=by
 intro H x y dx V d Q Y Z e q;unfold BK at e;split at e
 ·split at e
  ·next X=>
   cases e;obtain rfl:=RA.strE Y;obtain rfl:=RA.strE Z;exact⟨_,_,rfl,rfl,bM X (by decide),q _ rfl (.str _)⟩
  ·cases e
 ·cases e
theorem X4{K:PySem.W.Frag}:BrC K (λxs H Q=>∃z,xs=[.str z]/\z.length<=sizeLine/\Q (.int z.length) H) Kc:=by
 intro H xs ds d Q r e q;unfold Kc at e;split at e
 ·split at e
  ·next X=>
   cases e
   cases r with
   |cons Y Z=>
    cases Z;obtain rfl:=RA.strE Y;exact⟨_,rfl,bM X (by decide),q _ rfl (.int _)⟩
  ·cases e
 ·cases e
theorem X5(ha:DE X fl .P a fa)(hb:DE X fl .P b fb)(hs:yE b):DE X fl .FC (.Subscript a b pos) (dOp Uh fa fb):=PE.imp (VR OD ha hb hs) λσ H Q h=>by
 refine cW h λG ow δ d R U q=>?_
 refine D3.ex2 (zB U) λx y S T Z=>?_
 refine⟨G,ow,δ,x,R,S,λv H1 s1 W=>⟨G,ow,δ,y,R.grow s1,T,λu H2 s2 Y=>?_⟩⟩;unfold Uh at Z;split at Z
 ·next z i=>
  split at Z
  ·next V=>
   obtain rfl:=RA.intE Y;obtain rfl:=RA.strE W
   cases hc:atI z.cps.toList i with
   |none=>rw[hc]at Z;cases Z
   |some c=>
    rw[hc]at Z
    cases Z;exact⟨z,i,c,rfl,rfl,bM V (by decide),hc,q _ H2 (s1.trans s2) (.inl ⟨rfl,.str _⟩)⟩
  ·cases Z
 ·cases Z
end
end XW
namespace D3
end D3
namespace XW
open L2 My D3
section
variable{X:Cx}{fl:List Fl}{a b e:Expr}{fa fb fe f:FE}{pos apos cpos:Pos}
end
end XW
namespace D3
noncomputable def vV:D->Option (List D)
 | .str z=>if(z.cps.all λx=>decide (x<128))=true then some (z.cps.toList.map λc=>.str ⟨#[c]⟩)else none
 |_=>none
def X6(f:FE):FA:=λδ=>(f δ).bind vV
end D3
namespace XW
open L2 My D3
noncomputable def Its(z:Str):It where
 go:=λi _=>∃c,z.cps[i]? = some c
 yld:=λi H x H'=>H=H'/\∃c,z.cps[i]? = some c/\x = .str ⟨#[c]⟩
 stop:=λi _=>z.cps.size<=i
theorem PJ{P:bP}{w:b8}{K:PySem.W.Frag}{tg:Expr}(z:Str)(t:Tok)(it:Addr):Turn P w K tg (Its z) [it] it (λi h=>h.IsStrIter it "str_ascii_iterator" z t i) true where
 mem:=by simp
 obj:=λi h st b hb=>by
  have e:b=it:=by simpa using hb
  subst e;obtain⟨o,e,c,d⟩:=st;exact⟨o,e,λv z=>by rw[d]at z;cases z⟩
 keep:=λi h h' st k=>by
  obtain⟨o,e,c,d⟩:=st;exact⟨o,k it (by simp) o e,c,d⟩
 item:=by
  intro X T hw hK hc Y i pins s σ H E I V st U;subst T hw hK;obtain⟨c,hx⟩:=U;obtain⟨O,f1,f2,Q,R,S⟩:=V it (by simp);refine wpAny_pyNext_ascii_item st hx λh' Z N=>?_
  have L:=I.turned (t':=s.toks+1) (λb o hb e=>(N.2 b hb).trans e) O f1 Q R S;obtain⟨o,e,c',d⟩:=id Z;exact⟨_,rfl,JD (s:={s with heap:=h',toks:=s.toks+1}) e c' d (by decide) ⟨.str ⟨#[c]⟩,H,L,⟨_,rfl⟩,⟨rfl,c,hx,rfl⟩,Z,λb hb=>(V b hb).1⟩⟩
 done:=by
  intro X T hw hK hc Y i pins s σ H E I V st U;subst T hw hK;obtain⟨O,f1,f2,Q,R,S⟩:=V it (by simp);exact wpAny_pyNext_ascii_end (I.ok.hs (Y rfl)) st (Array.getElem?_eq_none U) λh' M=>⟨rfl,I.turned (t':=s.toks) (λb o hb e=>M b o hb e) O f1 Q R S⟩
 self:=λ_ _ _ _ _ st h=>wpAny_pyIter_striter_ascii st h
def aj9(tl:TE):TI:=λσ H R=>tl σ H λx H1=>∃z:Str,x = .str z/\(z.cps.all λx=>decide (x<128))=true/\R (Its z) H1
section
variable{X:Cx}{fl:List Fl}{a b e tg:Expr}{f:FE}
theorem X7{l:Expr}{tl:TE}(hl:PE X l tl)(O:X.still=true:=by rfl):PI X tg l (aj9 tl):=by
 intro pins s σ H R I h;refine thn (hl pins s σ H _ I h) λv s1 ⟨x,H1,Z,Y,q1⟩=>?_
 obtain⟨z,e,ha,q⟩:=q1;subst e;obtain⟨t,rfl⟩:=(show ∃t,v=dy z t from Y);have ty:strIterType z="str_ascii_iterator" := by
  unfold strIterType;rw[if_pos ha]
 refine wpAny_pyIter_strU ?_;rw[ty];refine⟨s1.heap.objs.size,[s1.heap.objs.size],_,_,H1,rfl,Z.kept (t':=s1.toks) λb o e=>ad _ e,(J4 O <| PJ z t _),⟨_,ag _ rfl,rfl,rfl⟩,λb hb=>?_,q⟩;have e:b=s1.heap.objs.size:=by simpa using hb
 subst e;exact Z.fpOk (aQ _) (Z.hok.fresh (aQ _))
theorem X8{L:List Nat}(h:DE X fl .P e f)(O:X.still=true:=by rfl):DI X fl L tg e (X6 f):=PI.imp (X7 h O) λσ H R' h=>by
 refine cW h λG ow δ l R W q=>?_
 refine bO W λd V Z=>?_
 unfold vV at Z;split at Z
 ·next z=>
  split at Z
  ·next ha=>
   cases Z;refine⟨G,ow,δ,_,R,V,λv H1 s r=>?_⟩;obtain rfl:=RA.strE r;refine⟨z,rfl,ha,q _ _ s λH2 k2 i=>?_⟩;refine⟨λd hd=>?_,λhl=>?_⟩
   ·rw[aR]at hd
    cases hc:z.cps.toList[i]? with
    |none=>rw[hc]at hd;cases hd
    |some c=>
     rw[hc]at hd
     cases hd;have Y:z.cps[i]? = some c:=by rw[<-hc];simp
     refine⟨⟨c,Y⟩,λx U hy=>?_⟩;obtain⟨e,c',h1,rfl⟩:=hy;subst e;rw[Y]at h1
     cases h1;exact⟨Same.refl _,.str _⟩
   ·show z.cps.size<=i;rw[aG]at hl;simpa using hl
  ·cases Z
 ·cases Z
end
end XW
namespace XI
open L2 My D3
def less(H:Hp)(as:List Addr):Hp:=λb=>if b∈as then none else H b
theorem Ui{H:Hp}{as:List Addr}{a:Addr}(h:a∈as):less H as a=none:=if_pos h
theorem oM{H:Hp}{as:List Addr}{a:Addr}(h:a∉as):less H as a=H a:=if_neg h
theorem jz{H:Hp}{as:List Addr}{a:Addr}{o:HO}(hc:∀b∈as,Chd (H b))(h:H a=some o)(hn:Chg o->False):less H as a=some o:=by
 rw[oM λz=>?_]
 ·exact h
 ·obtain⟨u,e,c⟩:=hc a z;rw[h]at e
  cases e;exact hn c
theorem Ge{K:PySem.W.Frag}{H:Hp}{as:List Addr}{a:Addr}{xs:List V}(hc:∀b∈as,Chd (H b))(h:lF K H a xs):lF K (less H as) a xs:=h.imp λh=>jz hc h Chg.tup
section
variable{K:PySem.W.Frag}{H:Hp}{ok:Ok}{pl:Bool}{as:List Addr}
theorem Gf(hc:∀b∈as,Chd (H b))(O:∀b,ok b->b∉as):(∀{v:V}{d:D},RA K ok pl H v d->RA K ok pl (less H as) v d)/\∀{v:List V}{d:List D},RAs K ok pl H v d->RAs K ok pl (less H as) v d:=
 RA.ind .non .bl .int .str (λe k q=>.lst (by rw[oM (O _ k)];exact e) k q) (λe k q=>.lsk (by
  rcases e with⟨o,e⟩|e
  ·exact .inl ⟨o,jz hc e Chg.frz⟩
  ·exact .inr e) k q) (λe q=>.tup (Ge hc e) q) (λe g k=>.dic (by rw[oM (O _ k)];exact e) (g.imp λ_ _ Z t=>jz hc t Z.nc) k) (λe g k=>.dik (jz hc e Chg.frz) (g.imp λ_ _ Z t=>jz hc t Z.nc) k)
  (λe g q z=>.ins (jz hc e Chg.ins) (jz hc g Chg.own) q z) .nil .cons
theorem PK(hc:∀b∈as,Chd (H b)):(∀{v:V}{d:D}{bs:List Addr},RT K H v d bs->(∀b∈bs,b∉as)->RT K (less H as) v d bs)/\∀{v:List V}{d:List D}{bs:List Addr},RTs K H v d bs->(∀b∈bs,b∉as)->RTs K (less H as) v d bs:=
 RT.ind (λ_=>.non) (λb _=>.bl b) (λi _=>.int i) (λx _=>.str x) (λe q Z=>.lst (by rw[oM (Z _ aN)];exact e) (q λb hb=>Z b (aL _ hb))) (λe q Z=>.tup (Ge hc e) (q Z))
  (λe g Z=>.dic (by rw[oM (Z _ aN)];exact e) (g.imp λ_ _ Y t=>jz hc t Y.nc)) (λe g _ q z Z=>.ins (jz hc e Chg.ins) (jz hc g Chg.own) (q Z) z) (λ_=>.nil)
  λe q Z=>.cons (e λb hb=>Z b (cV _ hb)) (q λb hb=>Z b (bw _ hb))
end
variable{K:PySem.W.Frag}{fl:List Fl}
theorem V8{G:Gh}{ow:Ow}{σ:D3.St}{H H':Hp}{δ:DS}{i:Nat}{d:D}{v:V}{as:List Addr}(R:Rel K fl G ow σ H δ)(O:fl[i]? = some .N\/fl[i]? = some .W)(hi:i<δ.length)(hv:σ[i]? = some (some v))(s:Same (less H (ow.n i)) H')
 (hr:RT K H' v d as) (hs:∀b∈as,b∈ow.n i\/H b=none) (hd:as.Nodup):Rel K fl G (owN ow i as) σ H' (δ.set i (some (.d d))):=by
 have hc:=λb hb=>(R.nt i b hb).2.1
 have J:∀b∈ow.n i,G.HF b=none:=λb hb=>by
  rcases(R.nt i b hb).2.2 with⟨_,z⟩|z
  ·exact z
  ·rcases O with y|y<;>(rw[y]at z;cases z)
 have no:∀a,ow i≠some a:=λa z=>by
  obtain⟨_,M,_⟩:=R.own i a z;rcases O with y|y<;>(rw[y]at M;rcases M with⟨z,_⟩|⟨z,_⟩<;>cases z)
 have out:=λb o hb e=>s b o (by rwa[oM hb])
 have sub:∀b,okA ow b/\H b≠none->okA (owN ow i as) b:=λb z=>⟨z.1.1,λj e=>by
  by_cases Z:j=i
  ·subst Z;rw[iu]at e;rcases hs b e with y|y
   ·exact z.1.2 j y
   ·exact z.2 y
  ·rw[fG Z]at e;exact z.1.2 j e⟩
 have Q:∀{v:V}{d:D},RA K (okA ow) true H v d->RA K (okA (owN ow i as)) true H' v d:=λr=>
  (((Gf (as:=ow.n i) hc (λb z=>z.1.2 i)).1 r.track).same s).imp sub (λz=>z)
 have U:∀{v:List V}{d:List D},RAs K (okA ow) true H v d->RAs K (okA (owN ow i as)) true H' v d:=λr=>
  (((Gf (as:=ow.n i) hc (λb z=>z.1.2 i)).2 r.track).same s).imp sub (λz=>z)
 have fresh:∀b,H b=none->∀j,b∉ow.n j/\ow j≠some b:=λb e j=>⟨λz=>(R.nt j b z).2.1.ne e,λz=>by
  obtain⟨_,_,xs,ds,_,g2,_⟩:=R.own j b z;rw[e]at g2
  cases g2⟩
 refine⟨R.s0,λb o hb=>?_,by rw[bT];exact R.len,λj b h=>?_,R.inj,R.pin,λj T g1 X g2=>?_,λj T g1 X g2 g3=>?_,λj b h=>?_,λj j' b h h'=>?_,λj j' b h=>?_,λj h=>?_,λj T X g1=>?_,R.fx⟩
 ·exact out b o (λz=>by rw[J b z]at hb;cases hb) (R.s1 b o hb)
 ·have Z:j≠i:=λz=>no b (z▸h)
  obtain⟨h0,L,zs,ds,g1,g2,g3,P⟩:=R.own j b h;exact⟨h0,L,zs,ds,g1,out b _ (λz=>R.ns i j b z h) g2,U g3,by rw[aJ (ce Z)];exact P⟩
 ·rcases gC g1 with⟨rfl,e⟩|⟨Z,e⟩
  ·rcases O with y|y<;>(rw[y]at X;cases X)
  ·obtain⟨S,g3,P⟩:=R.dat j T e X g2;exact⟨S,g3,Q P⟩
 ·rcases gC g1 with⟨rfl,e⟩|⟨Z,e⟩
  ·rcases O with y|y<;>(rw[y]at X;cases X)
  ·exact R.oo j T e X g2 g3
 ·by_cases Z:j=i
  ·subst Z;rw[iu]at h;rcases hs b h with y|y
   ·obtain⟨g1,_,g3⟩:=R.nt j b y;exact⟨g1,hr.chd b h,g3⟩
   ·refine⟨?_,hr.chd b h,.inl ⟨O,?_⟩⟩
    ·cases z:G.H0 b with
     |none=>rfl
     |some o=>rw[R.same0 b o z]at y;cases y
    ·cases z:G.HF b with
     |none=>rfl
     |some o=>rw[R.s1 b o z]at y;cases y
  ·rw[fG Z]at h;obtain⟨g1,g2,g3⟩:=R.nt j b h;obtain⟨u,e,c⟩:=g2;exact⟨g1,⟨u,out b u (λz=>Z (R.nd j i b h z)) e,c⟩,g3⟩
 ·by_cases Z:j=i
  ·by_cases Y:j'=i
   ·rw[Z,Y]
   ·rw[Z,iu]at h;rw[fG Y]at h';rcases hs b h with y|y
    ·rw[Z];exact R.nd i j' b y h'
    ·exact absurd h' (fresh b y j').1
  ·rw[fG Z]at h;by_cases Y:j'=i
   ·rw[Y,iu]at h';rcases hs b h' with y|y
    ·rw[Y];exact R.nd j i b h y
    ·exact absurd h (fresh b y j).1
   ·rw[fG Y]at h';exact R.nd j j' b h h'
 ·by_cases Z:j=i
  ·rw[Z,iu]at h;rcases hs b h with y|y
   ·exact R.ns i j' b y
   ·exact(fresh b y j').2
  ·rw[fG Z]at h;exact R.ns j j' b h
 ·have Z:j≠i:=λz=>by rcases O with y|y<;>(rw[z,y]at h;cases h)
  rw[fG Z];exact R.np j h
 ·rcases gC g1 with⟨rfl,e⟩|⟨Z,e⟩
  ·cases e;exact⟨v,hv,by rw[iu];exact hr,by rw[iu];exact hd⟩
  ·obtain⟨S,h1,h2,h3⟩:=R.nr j T X e;rw[fG Z];exact⟨S,h1,((PK hc).1 h2 λb hb z=>Z (R.nd j i b hb z)).same s,h3⟩
end XI
namespace XI
open L2 My D3
open Classical in
def lQ(H:Hp)(p:Addr->Prop):Hp:=λb=>if p b then none else H b
section
variable{H:Hp}{p:Addr->Prop}
theorem vW{a:Addr}(h:p a):lQ H p a=none:=by unfold lQ;rw[if_pos h]
theorem iG{a:Addr}(h:¬p a):lQ H p a=H a:=by unfold lQ;rw[if_neg h]
theorem Ij:Same (lQ H p) H:=λb o h=>by
 by_cases z:p b
 ·rw[vW z]at h;cases h
 ·rw[iG z]at h;exact h
theorem iw{a:Addr}{o:HO}(hc:∀b,p b->Chd (H b))(h:H a=some o)(hn:Chg o->False):lQ H p a=some o:=by
 rw[iG λz=>?_]
 ·exact h
 ·obtain⟨u,e,c⟩:=hc a z;rw[h]at e
  cases e;exact hn c
theorem BL{K:PySem.W.Frag}{a:Addr}{xs:List V}(hc:∀b,p b->Chd (H b))(h:lF K H a xs):lF K (lQ H p) a xs:=h.imp λh=>iw hc h Chg.tup
theorem PN(hc:∀b,p b->Chd (H b))(t:Tb H):Tb (lQ H p):=λx hx=>iw hc (t x hx) λc=>by
 rcases c.ch with⟨_,z⟩|⟨_,z⟩|⟨_,z⟩<;>cases z
variable{K:PySem.W.Frag}{ok:Ok}{pl:Bool}
theorem BP(hc:∀b,p b->Chd (H b))(O:∀b,ok b->¬p b):(∀{v:V}{d:D},RA K ok pl H v d->RA K ok pl (lQ H p) v d)/\∀{v:List V}{d:List D},RAs K ok pl H v d->RAs K ok pl (lQ H p) v d:=
 RA.ind .non .bl .int .str (λe k q=>.lst (by rw[iG (O _ k)];exact e) k q) (λe k q=>.lsk (by
  rcases e with⟨o,e⟩|e
  ·exact .inl ⟨o,iw hc e Chg.frz⟩
  ·exact .inr e) k q) (λe q=>.tup (BL hc e) q) (λe g k=>.dic (by rw[iG (O _ k)];exact e) (g.imp λ_ _ Z t=>iw hc t Z.nc) k) (λe g k=>.dik (iw hc e Chg.frz) (g.imp λ_ _ Z t=>iw hc t Z.nc) k)
  (λe g q z=>.ins (iw hc e Chg.ins) (iw hc g Chg.own) q z) .nil .cons
theorem Mr(hc:∀b,p b->Chd (H b)):(∀{v:V}{d:D}{bs:List Addr},RT K H v d bs->(∀b∈bs,¬p b)->RT K (lQ H p) v d bs)/\∀{v:List V}{d:List D}{bs:List Addr},RTs K H v d bs->(∀b∈bs,¬p b)->RTs K (lQ H p) v d bs:=
 RT.ind (λ_=>.non) (λb _=>.bl b) (λi _=>.int i) (λx _=>.str x) (λe q Z=>.lst (by rw[iG (Z _ aN)];exact e) (q λb hb=>Z b (aL _ hb))) (λe q Z=>.tup (BL hc e) (q Z))
  (λe g Z=>.dic (by rw[iG (Z _ aN)];exact e) (g.imp λ_ _ Y t=>iw hc t Y.nc)) (λe g _ q z Z=>.ins (iw hc e Chg.ins) (iw hc g Chg.own) (q Z) z) (λ_=>.nil)
  λe q Z=>.cons (e λb hb=>Z b (cV _ hb)) (q λb hb=>Z b (bw _ hb))
end
def ofJ(J:Nat->Bool)(n:Nat->List Addr)(b:Addr):Prop:=∃j,J j=true/\b∈n j
def Ik(ow:Ow)(J:Nat->Bool)(as:Nat->List Addr):Ow:=⟨ow.s,λj=>if J j=true then as j else ow.n j⟩
theorem uQ{ow:Ow}{J:Nat->Bool}{as:Nat->List Addr}{j:Nat}(h:J j=true):(Ik ow J as).n j=as j:=if_pos h
theorem sO{ow:Ow}{J:Nat->Bool}{as:Nat->List Addr}{j:Nat}(h:J j=false):(Ik ow J as).n j=ow.n j:=if_neg (by rw[h];decide)
variable{K:PySem.W.Frag}{fl:List Fl}
theorem V9{G:Gh}{ow:Ow}{σ:D3.St}{H H':Hp}{δ δ':DS}{J:Nat->Bool}{as:Nat->List Addr}(R:Rel K fl G ow σ H δ)(O:∀j,J j=true->fl[j]? = some .N\/fl[j]? = some .W)(hl:δ'.length=δ.length)(he:∀j,J j=false->δ'[j]? = δ[j]?)
 (s:Same (lQ H (ofJ J ow.n)) H') (hr:∀j,J j=true->∃v d,σ[j]? = some (some v)/\δ'[j]? = some (some (.d d))/\RT K H' v d (as j)/\(as j).Nodup) (hs:∀j,J j=true->∀b∈as j,ofJ J ow.n b\/H b=none)
 (hd:∀i j,J i=true->J j=true->∀b,b∈as i->b∈as j->i=j):Rel K fl G (Ik ow J as) σ H' δ':=by
 have hc:∀b,ofJ J ow.n b->Chd (H b):=λb ⟨j,_,hb⟩=>(R.nt j b hb).2.1
 have M:∀b,ofJ J ow.n b->G.HF b=none/\G.H0 b=none:=λb ⟨j,Z,hb⟩=>by
  refine⟨?_,(R.nt j b hb).1⟩;rcases(R.nt j b hb).2.2 with⟨_,z⟩|z
  ·exact z
  ·rcases O j Z with y|y<;>(rw[y]at z;cases z)
 have no:∀j,J j=true->∀a,ow j≠some a:=λj Z a z=>by
  obtain⟨_,F,_⟩:=R.own j a z;rcases O j Z with y|y<;>(rw[y]at F;rcases F with⟨z,_⟩|⟨z,_⟩<;>cases z)
 have isT:∀j,J j=true->isN fl[j]? = true:=λj Z=>by rcases O j Z with y|y<;>(rw[y];rfl)
 have out:=λb o hb e=>s b o (by rw[iG hb];exact e)
 have sub:∀b,okA ow b/\H b≠none->okA (Ik ow J as) b:=λb z=>⟨z.1.1,λj e=>by
  cases Z:J j with
  |true=>
   rw[uQ Z]at e;rcases hs j Z b e with⟨i,_,y⟩|y
   ·exact z.1.2 i y
   ·exact z.2 y
  |false=>
   rw[sO Z]at e;exact z.1.2 j e⟩
 have I:∀b,okA ow b/\H b≠none->¬ofJ J ow.n b:=λb z ⟨j,_,y⟩=>z.1.2 j y
 have P:∀{v:V}{d:D},RA K (okA ow) true H v d->RA K (okA (Ik ow J as)) true H' v d:=λr=>(((BP hc I).1 r.track).same s).imp sub (λz=>z)
 have U:∀{v:List V}{d:List D},RAs K (okA ow) true H v d->RAs K (okA (Ik ow J as)) true H' v d:=λr=>(((BP hc I).2 r.track).same s).imp sub (λz=>z)
 have fresh:∀b,H b=none->∀j,b∉ow.n j/\ow j≠some b:=λb e j=>⟨λz=>(R.nt j b z).2.1.ne e,λz=>by
  obtain⟨_,_,xs,ds,_,g2,_⟩:=R.own j b z;rw[e]at g2
  cases g2⟩
 have T:∀i j b,J i=true->J j=false->b∈as i->b∉ow.n j:=λi j b hi Z hb z=>by
  rcases hs i hi b hb with⟨k,E,y⟩|y
  ·have:=R.nd k j b y z;rw[this,Z]at E
   cases E
  ·exact(fresh b y j).1 z
 refine⟨R.s0,λb o hb=>?_,by rw[hl];exact R.len,λj b h=>?_,R.inj,R.pin,λj S g1 X g2=>?_,λj S g1 X g2 g3=>?_,λj b h=>?_,λj j' b h h'=>?_,λj j' b h=>?_,λj h=>?_,λj S X g1=>?_,R.fx⟩
 ·exact out b o (λz=>by rw[(M b z).1]at hb;cases hb) (R.s1 b o hb)
 ·have Z:J j=false:=by
   cases z:J j with
   |false=>rfl
   |true=>exact absurd h (no j z b)
  obtain⟨h0,C,zs,ds,g1,g2,g3,L⟩:=R.own j b h;exact⟨h0,C,zs,ds,g1,out b _ (λ⟨i,_,z⟩=>R.ns i j b z h) g2,U g3,by rw[he j Z];exact L⟩
 ·have Z:J j=false:=by
   cases z:J j with
   |false=>rfl
   |true=>rw[isT j z]at X;cases X
  rw[he j Z]at g1;obtain⟨Q,g3,L⟩:=R.dat j S g1 X g2;exact⟨Q,g3,P L⟩
 ·have Z:J j=false:=by
   cases z:J j with
   |false=>rfl
   |true=>rw[isT j z]at X;cases X
  rw[he j Z]at g1;exact R.oo j S g1 X g2 g3
 ·cases Z:J j with
  |true=>
   rw[uQ Z]at h;obtain⟨_,_,_,_,r,_⟩:=hr j Z;have c:=r.chd b h;rcases hs j Z b h with y|y
   ·exact⟨(M b y).2,c,.inl ⟨O j Z,(M b y).1⟩⟩
   ·refine⟨?_,c,.inl ⟨O j Z,?_⟩⟩
    ·cases z:G.H0 b with
     |none=>rfl
     |some o=>rw[R.same0 b o z]at y;cases y
    ·cases z:G.HF b with
     |none=>rfl
     |some o=>rw[R.s1 b o z]at y;cases y
  |false=>
   rw[sO Z]at h;obtain⟨g1,⟨u,e,c⟩,g3⟩:=R.nt j b h;exact⟨g1,⟨u,out b u (λ⟨i,hi,z⟩=>by
    have:=R.nd j i b h z;rw[this,hi]at Z
    cases Z) e,c⟩,g3⟩
 ·cases Z:J j with
  |true=>
   rw[uQ Z]at h
   cases Y:J j' with
   |true=>rw[uQ Y]at h';exact hd j j' Z Y b h h'
   |false=>rw[sO Y]at h';exact absurd h' (T j j' b Z Y h)
  |false=>
   rw[sO Z]at h
   cases Y:J j' with
   |true=>rw[uQ Y]at h';exact absurd h (T j' j b Y Z h')
   |false=>rw[sO Y]at h';exact R.nd j j' b h h'
 ·cases Z:J j with
  |true=>
   rw[uQ Z]at h;rcases hs j Z b h with⟨k,_,y⟩|y
   ·exact R.ns k j' b y
   ·exact(fresh b y j').2
  |false=>rw[sO Z]at h;exact R.ns j j' b h
 ·have Z:J j=false:=by
   cases z:J j with
   |false=>rfl
   |true=>rcases O j z with y|y<;>(rw[y]at h;cases h)
  rw[sO Z];exact R.np j h
 ·cases Z:J j with
  |true=>
   obtain⟨v,d,h1,h2,h3,h4⟩:=hr j Z;rw[h2]at g1
   cases g1;rw[uQ Z];exact⟨v,h1,h3,h4⟩
  |false=>
   rw[he j Z]at g1;obtain⟨Q,h1,h2,h3⟩:=R.nr j S X g1;rw[sO Z];exact⟨Q,h1,((Mr hc).1 h2 λb hb ⟨i,hi,z⟩=>by
    have:=R.nd j i b hb z;rw[this,hi]at Z
    cases Z).same s,h3⟩
end XI
namespace XI
open L2 My D3
def uz:List Nat->DS->Option (List D)
 |[],_=>some []
 |i::l,δ=>(aj i δ).bind λd=>(uz l δ).bind λr=>some (d::r)
def PX(l:List Nat)(f:FE):FS:=λδ=>(f δ).bind λd=>if flat d=true then(uz l δ).bind λr=>some (.ex "" "" (.tuple (d::r)))else none
def P0(l:List Nat)(o:Option Oc):Option D:=match o with
 |some (.ex _ _ d)=>some d
 |some (.nx δ)=>(uz l δ).bind λr=>some (.tuple (.none::r))
 |_=>none
def fnW(p q:Nat)(l:List Nat)(b:FS):List D->Option D:=λds=>if ds.length=p then P0 l (b (ds.map (λd=>some (.d d))++aX q none))else none
theorem Gg:∀{l:List Nat}{δ:DS}{r:List D},uz l δ=some r->∀{k i:Nat},l[k]? = some i->∃d,r[k]? = some d/\δ[i]? = some (some (.d d))
 |[],_,_,_,k,i,h=>by simp at h
 |j::l,δ,r,e,k,i,h=>by
  refine bO e λd Y e=>?_
  refine bO e λX Z e=>?_
  cases e
  cases k with
  |zero=>cases h;exact⟨d,rfl,lK Y⟩
  |succ k=>exact Gg Z (by simpa using h)
structure EndP(K:PySem.W.Frag)(l:List Nat)(G:Gh)(H':Hp)(T':Nat->List Addr)(ps:List D):Prop where
 sm:Same G.H0 H'
 rt:∀(k i:Nat)(u:V),l[k]? = some i->G.fv i=some u->∃d',ps[k]? = some d'/\RT K H' u d' (T' i)/\(T' i).Nodup
 fr:∀i∈l,∀b∈T' i,G.H0 b=none
 dj:∀i∈l,∀j∈l,∀b,b∈T' i->b∈T' j->i=j
theorem Uj{K:PySem.W.Frag}{fl:List Fl}{G:Gh}{ow:Ow}{σ:D3.St}{H:Hp}{δ:DS}{l:List Nat}{ps:List D}(R:Rel K fl G ow σ H δ)(hl:∀i∈l,fl[i]? = some .W)(O:uz l δ=some ps):EndP K l G H ow.n ps:=by
 refine⟨R.same0,λk i u Z Y=>?_,λi _ b hb=>(R.nt i b hb).1,λi _ j _ b h1 h2=>R.nd i j b h1 h2⟩;have hi:=hl i (cA Z);obtain⟨d,V,X⟩:=Gg O Z;obtain⟨U,g1,g2,g3⟩:=R.nr i d (by rw[hi];rfl) X;have:=R.fx i u hi Y;rw[this]at g1
 cases g1;exact⟨d,V,g2,g3⟩
def ab1(K:PySem.W.Frag)(l:List Nat)(G:Gh)(d:D)(Q:V->Hp->Prop):Prop:=∀r ps v H' (T':Nat->List Addr),d = .tuple (r::ps)->flat r=true->RA K ok0 false H' v r->EndP K l G H' T' ps->Q v H'
theorem Gi{K:PySem.W.Frag}{fl:List Fl}{G:Gh}{ow:Ow}{σ:D3.St}{H:Hp}{δ:DS}{l:List Nat}{ps:List D}{r:D}{v:V}{Q:V->Hp->Prop}(R:Rel K fl G ow σ H δ)(hl:∀i∈l,fl[i]? = some .W)(Z:uz l δ=some ps)(q:ab1 K l G (.tuple (r::ps)) Q)(Y:flat r=true)(O:RA K ok0 false H v r):Q v H:=
 q r ps v H ow.n rfl Y O (Uj R hl Z)
def ak0(K:PySem.W.Frag)(fl:List Fl)(l:List Nat)(G:Gh)(O:Ends):Oc->Prop
 | .ex _ _ d=>ab1 K l G d O.rt
 | .rt _=>False
 |o=>zy K fl G O o
def tDW(K:PySem.W.Frag)(fl:List Fl)(l:List Nat)(f:FS):TS:=λZ σ H=>∃G ow δ o,Rel K fl G ow σ H δ/\f δ=some o/\ak0 K fl l G Z o
abbrev DW1(X:Cx)(fl:List Fl)(l:List Nat)(s:cm)(f:FS):Prop:=PS X s (tDW X.K fl l f)
abbrev DWs(X:Cx)(fl:List Fl)(l:List Nat)(s:List cm)(f:FS):Prop:=PSs X s (tDW X.K fl l f)
def GoW(f:FS):Prop:=∀δ o,f δ=some o->(∀d,o ≠ .rt d)/\∀c x d,o ≠ .ex c x d
section
variable{X:Cx}{fl:List Fl}{l:List Nat}{st:cm}{sts body orelse:List cm}{c e:Expr}{pos:Pos}{fs gs:FS}{ft:FT}{f:FE}
theorem Ke(h:DS1 X fl st fs)(O:GoW fs):DW1 X fl l st fs:=PS.imp h λY σ H h=>by
 refine cW h λG ow δ o R Z q=>?_
 obtain⟨n1,n2⟩:=O δ o Z;refine⟨G,ow,δ,o,R,Z,?_⟩
 cases o with
 |nx _=>exact q
 |bk _=>exact q
 |ct _=>exact q
 |rt d=>exact absurd rfl (n1 d)
 |ex c x d=>exact absurd rfl (n2 c x d)
theorem vX(h1:DW1 X fl l st fs)(h2:DWs X fl l sts gs):DWs X fl l (st::sts) (bJ fs gs):=PSs.imp (pN h1 h2) λS σ H h=>by
 refine cW h λG ow δ o R U q=>?_
 refine bO U λV T Z=>?_
 refine⟨G,ow,δ,V,R,T,?_⟩
 cases V with
 |nx Y=>exact λW σ' H' R'=>⟨G,W,Y,o,R',Z,q⟩
 |rt d=>cases Z;exact q
 |bk d=>cases Z;exact q
 |ct d=>cases Z;exact q
 |ex c f v=>cases Z;exact q
theorem Kf(h1:DW1 X fl l st fs):DWs X fl l [st] fs:=PSs.imp (Cm h1) λ_ _ _ h=>h
theorem X_(hl:∀i∈l,fl[i]? = some .W)(h:DE X fl .P e f):DW1 X fl l (.Return (some e) pos) (PX l f):=PS.imp (N6 h) λS σ H h=>by
 refine cW h λG ow δ o R V q=>?_
 refine bO V λd T Z=>?_
 split at Z
 case isFalse=>cases Z
 next hd=>
 refine bO Z λr U Z=>?_
 cases Z;exact⟨G,ow,δ,d,R,T,λv H' s Y=>Gi (R.grow s) hl U q hd (RA.flat hd Y)⟩
end
structure PreW(K:PySem.W.Frag)(l:List Nat)(H:Hp)(vs:List V)(ds:List D)(T:Nat->List Addr):Prop where
 tb:Tb H
 ln:vs.length=ds.length
 il:∀i∈l,i<ds.length
 ra:∀i v x,i∉l->vs[i]? = some v->ds[i]? = some x->RA K (λb=>∀j∈l,b∉T j) true H v x
 rt:∀i v x,i∈l->vs[i]? = some v->ds[i]? = some x->RT K H v x (T i)/\(T i).Nodup
 dj:∀i∈l,∀j∈l,∀b,b∈T i->b∈T j->i=j
structure PostW(K:PySem.W.Frag)(l:List Nat)(H:Hp)(T:Nat->List Addr)(vs:List V)(H':Hp)(T':Nat->List Addr)(ps:List D):Prop where
 sm:Same (lQ H λb=>∃j∈l,b∈T j) H'
 rt:∀(k i:Nat)(u:V),l[k]? = some i->vs[i]? = some u->∃d',ps[k]? = some d'/\RT K H' u d' (T' i)/\(T' i).Nodup
 fr:∀i∈l,∀b∈T' i,(∃j∈l,b∈T j)\/H b=none
 dj:∀i∈l,∀j∈l,∀b,b∈T' i->b∈T' j->i=j
def spW(K:PySem.W.Frag)(l:List Nat)(F:List D->Option D):Sp:=λvs H Q _=>∃(ds:List D)(T:Nat->List Addr)(d:D),PreW K l H vs ds T/\F ds=some d /\
 ∀r ps v H' (T':Nat->List Addr),d = .tuple (r::ps)->flat r=true->RA K ok0 false H' v r->PostW K l H T vs H' T' ps->Q v H'
def owT(l:List Nat)(T:Nat->List Addr):Ow:=⟨λ_=>none,λi=>if i∈l then T i else []⟩
theorem uR{l:List Nat}{T:Nat->List Addr}{i:Nat}{b:Addr}:b∈(owT l T).n i<->i∈l/\b∈T i:=by
 show b∈(if i∈l then T i else [])<->_;by_cases c:i∈l
 ·rw[if_pos c];exact⟨λh=>⟨c,h⟩,λh=>h.2⟩
 ·rw[if_neg c];exact⟨λh=>(by cases h),λh=>absurd h.1 c⟩
theorem Kg{K:PySem.W.Frag}{l:List Nat}{H:Hp}{vs:List V}{ds:List D}{T:Nat->List Addr}(r:PreW K l H vs ds T):∀b,(∃j∈l,b∈T j)->Chd (H b):=λb ⟨j,Z,hb⟩=>by
 have h1:=r.il j Z;have h2:=r.ln;exact(r.rt j _ _ Z (aO (by omega)) (aO h1)).1.chd b hb
def gW{K:PySem.W.Frag}{l:List Nat}{H:Hp}{vs:List V}{ds:List D}{T:Nat->List Addr}(r:PreW K l H vs ds T):Gh:=⟨lQ H λb=>∃j∈l,b∈T j,lQ H λb=>∃j∈l,b∈T j,λ_=>none,λ_=>[],PN (Kg r) r.tb,λi=>vs[i]?⟩
theorem post_of{K:PySem.W.Frag}{l:List Nat}{H H':Hp}{vs:List V}{ds ps:List D}{T T':Nat->List Addr}(r:PreW K l H vs ds T)(e:EndP K l (gW r) H' T' ps):PostW K l H T vs H' T' ps:=
 ⟨e.sm,e.rt,λi hi b hb=>by
  have z:lQ H (λb=>∃j∈l,b∈T j) b=none:=e.fr i hi b hb;by_cases y:∃j∈l,b∈T j
  ·exact .inl y
  ·rw[iG y]at z;exact .inr z,e.dj⟩
theorem Il{K:PySem.W.Frag}{fl:List Fl}{N:List Str}{l:List Nat}{vs:List V}{ds:List D}{H:Hp}{T:Nat->List Addr}(p:Nat)(O:∀i,i<p->i∉l->fl[i]? = some .A)(hw:∀i∈l,fl[i]? = some .W)(hl:ds.length=p)(hN:p<=N.length)
 (r:PreW K l H vs ds T):Rel K fl (gW r) (owT l T) (L2.start N vs) H (ds.map (λd=>some (.d d))++aX (N.length-p) none):=by
 have hc:=Kg r;obtain⟨tb,P,il,ra,rt,dj⟩:=r;have S:vs.length=p:=by omega
 have get:∀i d,(ds.map (λd=>some (U.d d))++aX (N.length-p) none)[i]? = some (some (.d d))->i<p/\ds[i]? = some d:=λi d h=>by
  by_cases hi:i<p
  ·rw[cC (by rwa[aG,hl]),aR]at h
   cases e:ds[i]? with
   |none=>rw[e]at h;cases h
   |some z=>rw[e]at h;cases h;exact⟨hi,rfl⟩
  ·rw[cL (by rw[aG,hl];omega),dI]at h;split at h<;>cases h
 have st:∀i v,vs[i]? = some v->(L2.start N vs)[i]? = some (some v):=λi v e=>by
  have hi:=(bN.mp e).1;unfold L2.start;rw[cC (by rwa[aG]),aR,e];rfl
 refine⟨Same.refl _,Ij,?_,λi b h=>(by cases h),λi X b h=>(by cases h),λi h=>rfl,λi d h hn _=>?_,λi d h hn h2 _=>?_,λi b h=>?_,λi X b h h'=>?_,λi X b _ h=>(by cases h),λi h=>?_,λi d hn h=>?_,λi v _ h=>st i v h⟩
 ·unfold L2.start;simp only[bH,aG,bK,S,hl]
 ·obtain⟨hi,e⟩:=get i d h;have nl:i∉l:=λz=>by rw[hw i z]at hn;cases hn
  have Y:vs[i]? = some (vs[i]'(by omega)):=aO (by omega);exact⟨_,st i _ Y,(ra i _ d nl Y e).imp (λb hb=>⟨λm z=>(by cases z),λm z=>hb m (uR.mp z).1 (uR.mp z).2⟩) (λz=>z)⟩
 ·obtain⟨hi,e⟩:=get i d h;have nl:i∉l:=λz=>by rw[hw i z]at hn;cases hn
  exact absurd (O i hi nl) h2
 ·obtain⟨h1,h2⟩:=uR.mp h;have e:lQ H (λb=>∃j∈l,b∈T j) b=none:=vW ⟨i,h1,h2⟩;exact⟨e,hc b ⟨i,h1,h2⟩,.inl ⟨.inr (hw i h1),e⟩⟩
 ·exact dj i (uR.mp h).1 X (uR.mp h').1 b (uR.mp h).2 (uR.mp h').2
 ·show(if i∈l then T i else [])=[];rw[if_neg λz=>by rw[hw i z]at h;cases h]
 ·obtain⟨hi,e⟩:=get i d h;have Z:i∈l:=by
   by_cases z:i∈l
   ·exact z
   ·rw[O i hi z]at hn;cases hn
  have Y:vs[i]? = some (vs[i]'(by omega)):=aO (by omega);obtain⟨Q,R⟩:=rt i _ d Z Y e;have en:(owT l T).n i=T i:=if_pos Z;rw[en];exact⟨_,st i _ Y,Q,R⟩
section
variable{P:bP}{w:b8}{K:PySem.W.Frag}{mg:Str->Option Value}{base:cc}{x:Str}{ps N:List Str}{st:cm}{k n:Nat}{fs:FS}{fl:List Fl}{l:List Nat}
structure FunX(K:PySem.W.Frag)(m x:Str)(st:cm)(f:Addr)(fd:ca):Prop where
 ex:∃(oc:Value)(od:Option Addr)(dV kV doc pm:Value)(an:Option Addr)(cdv ct:Value)(osl:Array (Option Value)),
  fd=PySem.W.fnOf m x (iQ st) (dJ st) (aP st) dV kV doc pm an cdv ct/\K.lookup f=some ⟨oc,od,.func fd,osl⟩/\PySem.W.codeIn K cdv x=true
theorem FunX.ok{m:Str}{f:Addr}{fd:ca}{sp:Sp}(F:FunX K m x st f fd)(S:FnScope N ps (aP st))(len:∀vs H Q E,sp vs H Q E->vs.length=ps.length)
 (O:∀(cdv:Value)(A:bX)(outer:List Env)(s:bE)(H:Hp)(vs:List V)(Q:VK)(E:XK),Room k (A.deeper (envOfC x (aP st) s.heap.objs.size f cdv))->sp vs H Q E ->
  ∃t,PSs (Ag CX0 P w K mg base N x (aP st) f cdv A outer s H E).nox (dJ st) t/\t {nx:=λ_ H'=>Q .non H',rt:=Q} (L2.start N vs) H):FnOk P w K mg base CX0 (k+1) f fd ps sp:=by
 obtain⟨oc,od,dV,kV,doc,pm,an,cdv,ct,osl,rfl,lk,hcd⟩:=F.ex;refine Ov lk hcd S len λA outer s H vs Q E Y Z=>?_
 obtain⟨t,h,q⟩:=O cdv A outer s H vs Q E Y Z;exact⟨t,h.nox,q⟩
theorem P_{m:Str}{f:Addr}{fd:ca}(Fn:FunX K m x st f fd)(S:FnScope N ps (aP st))(hp:∀i,i<ps.length->i∉l->fl[i]? = some .A)(hw:∀i∈l,fl[i]? = some .W)(hN:ps.length<=N.length)
 (O:∀(f:Addr)(cdv:Value)(A:bX)(outer:List Env)(s:bE)(H:Hp)(E:XK),Room k (A.deeper (envOfC x (aP st) s.heap.objs.size f cdv))->DWs (cx P w K mg base N x st f cdv A outer s H E) fl l (dJ st) fs) :
 FnOk P w K mg base CX0 (k+1) f fd ps (spW K l (fnW ps.length (N.length-ps.length) l fs)):=by
 refine Fn.ok S (λvs H Q E h=>?_) (λcdv A outer s H vs Q E I h=>?_)
 ·obtain⟨ds,T,d,r,Z,_⟩:=h;unfold fnW at Z;by_cases z:ds.length=ps.length
  ·rwa[r.ln]
  ·rw[if_neg z]at Z;cases Z
 ·obtain⟨ds,T,d,r,Z,q⟩:=h;refine⟨_,O f cdv A outer s H E I,?_⟩;unfold fnW at Z;by_cases z:ds.length=ps.length
  ·rw[if_pos z]at Z;have R:=Il (K:=K) (N:=N) ps.length hp hw z hN r;have U:=λM Y v H' T' V X G e4=>q M Y v H' T' V X G (post_of r e4)
   unfold P0 at Z;split at Z
   ·next c' F D e=>
    cases Z;exact⟨_,_,_,_,R,e,U⟩
   ·next L e=>
    refine bO Z λM V X=>?_
    cases X;exact⟨_,_,_,_,R,e,λJ σ' H' R'=>Gi R' hw V U rfl .non⟩
   ·cases Z
  ·rw[if_neg z]at Z;cases Z
end
end XI
namespace XI
open L2 My D3
def okS(ow:Ow)(S:List (Option Nat)):Ok:=λb=>∀s,some s∈S->b∉ow.n s
inductive AOk(K:PySem.W.Frag)(ow:Ow)(σ:D3.St)(δ:DS)(H:Hp)(S:List (Option Nat)):List (Option Nat)->List V->List D->Prop
 |nil:AOk K ow σ δ H S [] [] []
 |nm {i:Nat} {v:V} {d:D} {sl:List (Option Nat)} {vs:List V} {ds:List D}:σ[i]? = some (some v)->δ[i]? = some (some (.d d))->AOk K ow σ δ H S sl vs ds->AOk K ow σ δ H S (some i::sl) (v::vs) (d::ds)
 |ex {v:V} {d:D} {sl:List (Option Nat)} {vs:List V} {ds:List D}:RA K (okS ow S) true H v d->AOk K ow σ δ H S sl vs ds->AOk K ow σ δ H S (none::sl) (v::vs) (d::ds)
section
variable{K:PySem.W.Frag}{ow:Ow}{σ:D3.St}{δ:DS}{H:Hp}{S:List (Option Nat)}
theorem AOk.len:∀{sl:List (Option Nat)}{vs:List V}{ds:List D},AOk K ow σ δ H S sl vs ds->vs.length=ds.length/\sl.length=ds.length
 |_,_,_,.nil=>⟨rfl,rfl⟩
 |_,_,_,.nm _ _ q=>by simp[q.len.1,q.len.2]
 |_,_,_,.ex _ q=>by simp[q.len.1,q.len.2]
theorem AOk.name:∀{sl:List (Option Nat)}{vs:List V}{ds:List D}{i s:Nat},AOk K ow σ δ H S sl vs ds->sl[i]? = some (some s)->∃v d,vs[i]? = some v/\ds[i]? = some d/\σ[s]? = some (some v)/\δ[s]? = some (some (.d d))
 |_,_,_,_,_,.nil,h=>by simp at h
 |_,_,_,0,_,.nm a b _,h=>by cases h;exact⟨_,_,rfl,rfl,a,b⟩
 |_,_,_,0,_,.ex _ _,h=>by cases h
 |_,_,_,i+1,_,.nm _ _ q,h=>by
  obtain⟨v,d,h1,h2,h3⟩:=q.name (i:=i) (by simpa using h);exact⟨v,d,by simpa using h1,by simpa using h2,h3⟩
 |_,_,_,i+1,_,.ex _ q,h=>by
  obtain⟨v,d,h1,h2,h3⟩:=q.name (i:=i) (by simpa using h);exact⟨v,d,by simpa using h1,by simpa using h2,h3⟩
theorem AOk.dat:∀{sl:List (Option Nat)}{vs:List V}{ds:List D}{i:Nat}{v:V}{d:D},AOk K ow σ δ H S sl vs ds->(∀s,sl[i]? ≠ some (some s))->vs[i]? = some v->ds[i]? = some d->RA K (okS ow S) true H v d
 |_,_,_,_,_,_,.nil,_,h,_=>by simp at h
 |_,_,_,0,_,_,.nm _ _ _,n,_,_=>absurd rfl (n _)
 |_,_,_,0,_,_,.ex r _,_,h1,h2=>by cases h1;cases h2;exact r
 |_,_,_,i+1,_,_,.nm _ _ q,n,h1,h2=>q.dat (i:=i) (λs z=>n s (by simpa using z)) (by simpa using h1) (by simpa using h2)
 |_,_,_,i+1,_,_,.ex _ q,n,h1,h2=>q.dat (i:=i) (λs z=>n s (by simpa using z)) (by simpa using h1) (by simpa using h2)
theorem AOk.same{H':Hp}(s:Same H H'):∀{sl:List (Option Nat)}{vs:List V}{ds:List D},AOk K ow σ δ H S sl vs ds->AOk K ow σ δ H' S sl vs ds
 |_,_,_,.nil=>.nil
 |_,_,_,.nm a b q=>.nm a b (q.same s)
 |_,_,_,.ex r q=>.ex (r.same s) (q.same s)
end
noncomputable def tWA(K:PySem.W.Frag)(fl:List Fl)(S sl:List (Option Nat))(f:FA):TA:=λσ H Q=>∃G ow δ ds,Rel K fl G ow σ H δ/\f δ=some ds/\∀vs H',Same H H'->AOk K ow σ δ H' S sl vs ds->Q vs H'
abbrev DWA(X:Cx)(fl:List Fl)(S sl:List (Option Nat))(es:List Expr)(f:FA):Prop:=PA X es (tWA X.K fl S sl f)
noncomputable def wX:List Nat->List D->DS->DS
 |s::l,d::r,δ=>wX l r (δ.set s (some (.d d)))
 |_,_,δ=>δ
theorem vY:∀(l:List Nat)(r:List D)(δ:DS),(wX l r δ).length=δ.length
 |[],_,_=>rfl
 |_::_,[],_=>rfl
 |s::l,d::r,δ=>by rw[wX,vY l r,bT]
theorem yJ:∀{l:List Nat}{r:List D}{δ:DS}{j:Nat},j∉l->(wX l r δ)[j]? = δ[j]?
 |[],_,_,_,_=>rfl
 |_::_,[],_,_,_=>rfl
 |s::l,d::r,δ,j,h=>by
  rw[wX,yJ λz=>h (aL _ z),aJ λz=>h (by rw[z];exact aN)]
theorem Kh:∀{l:List Nat}{r:List D}{δ:DS}{k s:Nat}{d:D},l.Nodup->(∀i∈l,i<δ.length)->l[k]? = some s->r[k]? = some d->(wX l r δ)[s]? = some (some (.d d))
 |[],_,_,_,_,_,_,_,h,_=>by simp at h
 |_::_,[],_,_,_,_,_,_,_,h=>by simp at h
 |t::l,e::r,δ,0,s,d,nd,lt,h1,h2=>by
  cases h1
  cases h2;rw[wX,yJ (cU.mp nd).1,bV (lt _ aN)]
 |t::l,e::r,δ,k+1,s,d,nd,lt,h1,h2=>by
  rw[wX];exact Kh (cU.mp nd).2 (λi hi=>by rw[bT];exact lt i (aL _ hi)) (by simpa using h1) (by simpa using h2)
def tEW(K:PySem.W.Frag)(fl:List Fl)(f:DS->Option (D×DS)):TE:=λσ H Q=>∃G ow δ d Z,Rel K fl G ow σ H δ/\f δ=some (d,Z)/\∀v H' Y,Rel K fl G Y σ H' Z->flat d=true->RA K ok0 false H' v d->Q v H'
abbrev DEW(X:Cx)(fl:List Fl)(e:Expr)(f:DS->Option (D×DS)):Prop:=PE X e (tEW X.K fl f)
section
variable{X:Cx}{fl:List Fl}{e:Expr}{es:List Expr}{pos p:Pos}{x:Str}{f:FE}{fr:FA}{S sl:List (Option Nat)}{i:Nat}
theorem Dh:DWA X fl S [] [] aK:=PA.imp nC λσ H Q h=>by
 refine cW h λG ow δ ds R Z q=>?_
 cases Z;exact q [] H (Same.refl H) .nil
theorem lR(h:DE X fl .A e f)(O:DWA X fl S sl es fr)(hs:starEach (e::es) X.env=(false,eval e X.env)::starEach es X.env:=by exact j6 rfl):DWA X fl S (none::sl) (e::es) (au f fr):=PA.imp (kO h O hs) λσ H Q h=>by
 refine cW h λG ow δ ds R Z q=>?_
 refine bO Z λd U Z=>?_
 refine bO Z λr V Z=>?_
 cases Z;exact⟨G,ow,δ,d,R,U,λv H1 s1 W=>⟨G,ow,δ,r,R.grow s1,V,λvs H2 s2 Y=>q _ H2 (s1.trans s2) (.ex (RA.imp (λb z s _=>z.2 s) (λz=>z) (RA.same s2 W)) Y)⟩⟩
end
def Ms(d:D)(sw:List Nat)(δ:DS):Option (D×DS):=match d with
 | .tuple (r::ps)=>if flat r=true/\ps.length=sw.length then some (r,wX sw ps δ)else none
 |_=>none
structure SlW(fl:List Fl)(sl:List (Option Nat))(l sw:List Nat):Prop where
 h1:∀(i s:Nat),sl[i]? = some (some s)->i∈l
 h2:∀(i j s:Nat),sl[i]? = some (some s)->sl[j]? = some (some s)->i=j
 h3:sw.length=l.length
 h4:∀(k i s:Nat),l[k]? = some i->sw[k]? = some s->sl[i]? = some (some s)
 h5:sw.Nodup
 h6:∀s∈sw,fl[s]? = some .N\/fl[s]? = some .W
def V_(K:PySem.W.Frag)(l:List Nat)(fr:Addr->Prop)(H':Hp)(T':Nat->List Addr)(v:V)(r:D):Prop:=∃as,RT K H' v r as/\as.Nodup/\∀a∈as,fr a/\∀i∈l,a∉T' i
theorem ab2{K:PySem.W.Frag}{fl:List Fl}{G:Gh}{ow:Ow}{σ:D3.St}{H:Hp}{δ:DS}{k:Nat}(R:Rel K fl G ow σ H δ)(O:fl[k]? = some .N)(x:Option V):Rel K fl G (owN ow k []) (σ.set k x) H (δ.set k none):=by
 have sub:∀b,okA ow b->okA (owN ow k []) b:=λb z=>⟨z.1,λj e=>by
  by_cases y:j=k
  ·subst y;rw[iu]at e;cases e
  ·rw[fG y]at e;exact z.2 j e⟩
 have Z:∀j b,b∈(owN ow k []).n j->j≠k/\b∈ow.n j:=λj b e=>by
  by_cases y:j=k
  ·subst y;rw[iu]at e;cases e
  ·rw[fG y]at e;exact⟨y,e⟩
 have dd:∀j d,(δ.set k none)[j]? = some (some (.d d))->j≠k/\δ[j]? = some (some (.d d)):=λj d e=>by
  by_cases y:k=j
  ·subst y;rw[List.getElem?_set_self']at e
   cases z:δ[k]? <;> (rw[z]at e;cases e)
  ·rw[aJ y]at e;exact⟨ce y,e⟩
 have ss:∀j,j≠k->(σ.set k x)[j]? = σ[j]?:=λj y=>aJ (ce y)
 refine⟨R.s0,R.s1,by rw[bT,bT];exact R.len,λj a h=>?_,R.inj,R.pin,λj d h1 hn h2=>?_,λj d h1 hn h2 h3=>R.oo j d (dd j d h1).2 hn h2 h3,λj a h=>R.nt j a (Z j a h).2,λi j a h1 h2=>R.nd i j a (Z i a h1).2 (Z j a h2).2,λi j a h1=>R.ns i j a (Z i a h1).2,λj h=>?_,λj d hn h1=>?_,λj u h e=>?_⟩
 ·obtain⟨h0,Y,xs,ds,g1,g2,g3,X⟩:=R.own j a h;have y:j≠k:=λz=>by rw[z,O]at Y;rcases Y with⟨w,_⟩|⟨w,_⟩<;>cases w
  exact⟨h0,Y,xs,ds,by rw[ss j y];exact g1,g2,g3.imp sub (λz=>z),by rw[aJ (ce y)];exact X⟩
 ·obtain⟨y,e⟩:=dd j d h1;obtain⟨v,g1,g2⟩:=R.dat j d e hn h2;exact⟨v,by rw[ss j y];exact g1,g2.imp sub (λz=>z)⟩
 ·have y:j≠k:=λz=>by rw[z,O]at h;cases h
  rw[fG y];exact R.np j h
 ·obtain⟨y,e⟩:=dd j d h1;obtain⟨v,g1,g2,g3⟩:=R.nr j d hn e;exact⟨v,by rw[ss j y];exact g1,by rw[fG y];exact g2,by rw[fG y];exact g3⟩
 ·have y:j≠k:=λz=>by rw[z,O]at h;cases h
  rw[ss j y];exact R.fx j u h e
open Classical in
theorem Mt{K:PySem.W.Frag}{fl:List Fl}{G:Gh}{ow:Ow}{σ:D3.St}{H H1:Hp}{δ:DS}{sl:List (Option Nat)}{l sw:List Nat}{vs:List V}{ds:List D}(W:SlW fl sl l sw)(R:Rel K fl G ow σ H δ)(s:Same H H1)(a:AOk K ow σ δ H1 sl sl vs ds):
 ∃T:Nat->List Addr,PreW K l H1 vs ds T/\∀H' T' qs,PostW K l H1 T vs H' T' qs->qs.length=sw.length->(∃ow',Rel K fl G ow' σ H' (wX sw qs δ))/\∀k v r,fl[k]? = some .N->k∉sw->k<δ.length->V_ K l (λa=>(∃j∈l,a∈T j)\/H1 a=none) H' T' v r->∃ow',Rel K fl G ow' (σ.set k (some v)) H' ((wX sw qs δ).set k (some (.d r))):=by
 obtain⟨h1,h2,h3,h4,h5,h6⟩:=W;have I:=R.grow s;have L:∀i∈l,∃s,sl[i]? = some (some s)/\s∈sw:=λi hi=>by
  obtain⟨k,S⟩:=rJ.mp hi;have Q:k<sw.length:=by rw[h3];exact(bN.mp S).1
  exact⟨_,h4 k i _ S (aO Q),jZ Q⟩
 have C:∀s∈sw,∃k i,sw[k]? = some s/\l[k]? = some i/\sl[i]? = some (some s):=λs hs=>by
  obtain⟨k,S⟩:=rJ.mp hs;have Q:k<l.length:=by rw[<-h3];exact(bN.mp S).1
  exact⟨k,_,S,aO Q,h4 k _ s (aO Q) S⟩
 have isT:∀s∈sw,isN fl[s]? = true:=λs hs=>by rcases h6 s hs with y|y<;>(rw[y];rfl)
 obtain⟨T,hT⟩:∃T:Nat->List Addr,∀(i s:Nat),sl[i]? = some (some s)->T i=ow.n s:=⟨λi=>match sl[i]? with|some (some s)=>ow.n s|_=>[],λi s e=>by dsimp only;rw[e]⟩;have F:(λb=>∃j∈l,b∈T j)=ofJ (λs=>decide (s∈sw)) ow.n:=funext λb=>propext ⟨λ⟨j,X,hb⟩=>by
  obtain⟨s,hs,hw⟩:=L j X;exact⟨s,dTr hw,by rwa[<-hT j s hs]⟩,λ⟨s,hs,hb⟩=>by
  obtain⟨k,i,_,hl,hi⟩:=C s (of_decide_eq_true hs);exact⟨i,cA hl,by rw[hT i s hi];exact hb⟩⟩
 refine⟨T,⟨I.tb,a.len.1,λi hi=>?_,λi v y c u hd=>?_,λi v y hi u hd=>?_,λi hi j X b hb Z=>?_⟩,λH' T' qs ⟨g3,g5,g6,g7⟩ ql=>?_⟩
 ·obtain⟨s,hs,_⟩:=L i hi;rw[<-a.len.2];exact(bN.mp hs).1
 ·refine(a.dat (λs z=>c (h1 i s z)) u hd).imp (λb hb j X z=>?_) (λz=>z);obtain⟨s,hs,_⟩:=L j X;rw[hT j s hs]at z;exact hb s (cA hs) z
 ·obtain⟨s,hs,hw⟩:=L i hi;obtain⟨U,d',k1,k2,k3,P⟩:=a.name hs;rw[u]at k1;rw[hd]at k2
  cases k1
  cases k2;obtain⟨U,E,A,B⟩:=I.nr s y (isT s hw) P;rw[k3]at E
  cases E;rw[hT i s hs];exact⟨A,B⟩
 ·obtain⟨s,hs,_⟩:=L i hi;obtain⟨s',Y,_⟩:=L j X;rw[hT i s hs]at hb;rw[hT j s' Y]at Z;have:=I.nd s s' b hb Z;rw[<-this]at Y;exact h2 i j s hs Y
 ·obtain⟨as,p⟩:∃as:Nat->List Addr,∀(i s:Nat),sl[i]? = some (some s)->as s=T' i:=⟨λs=>if z:∃i,sl[i]? = some (some s)then T' (Classical.choose z)else [],λi s e=>by
   have z:∃i,sl[i]? = some (some s):=⟨i,e⟩;dsimp only;rw[dif_pos z,h2 _ i s (dL z) e]⟩
  have lt:∀s∈sw,s<δ.length:=λs hs=>by
   obtain⟨k,i,_,_,hi⟩:=C s hs;obtain⟨_,_,_,_,_,P⟩:=a.name hi;exact(bN.mp P).1
  have fr:∀i,i∈l->∀b,b∈T' i->ofJ (λs=>decide (s∈sw)) ow.n b\/H1 b=none:=λi hi b hb=>by
   have:=g6 i hi b hb;have e:(∃j∈l,b∈T j)=ofJ (λs=>decide (s∈sw)) ow.n b:=congrFun F b;rw[e]at this;exact this
  have at_:∀s,s∈sw->∃i U y,i∈l/\as s=T' i/\sl[i]? = some (some s)/\σ[s]? = some (some U)/\(wX sw qs δ)[s]? = some (some (.d y))/\RT K H' U y (as s)/\(as s).Nodup:=λs hs=>by
   obtain⟨k,i,S,hl,hi⟩:=C s hs;obtain⟨U,d',k1,k2,k3,P⟩:=a.name hi;obtain⟨y,E,A,B⟩:=g5 k i U hl k1;exact⟨i,U,y,cA hl,p i s hi,hi,k3,Kh h5 lt S E,by rw[p i s hi];exact A,by rw[p i s hi];exact B⟩
  have dj:∀s s',s∈sw->s'∈sw->∀b,b∈as s->b∈as s'->s=s':=λs s' hs Y b hb Z=>by
   obtain⟨i,_,_,hl,M,hi,_⟩:=at_ s hs;obtain⟨i',_,_,t,e2,q,_⟩:=at_ s' Y;rw[M]at hb;rw[e2]at Z;have:=g7 i hl i' t b hb Z;rw[this,q]at hi
   cases hi;rfl
  refine⟨⟨Ik ow (λs=>decide (s∈sw)) as,V9 I (λs hs=>h6 s (of_decide_eq_true hs)) (vY _ _ _) (λs hs=>yJ (of_decide_eq_false hs)) (by rw[<-F];exact g3) (λs hs=>?_) (λs hs b hb=>?_) λs s' hs Y=>dj s s' (of_decide_eq_true hs) (of_decide_eq_true Y)⟩,λk v r S f Q ⟨bs,g,h,o⟩=>?_⟩
  ·obtain⟨_,U,y,_,_,_,k3,P,k5,x⟩:=at_ s (of_decide_eq_true hs);exact⟨U,y,k3,P,k5,x⟩
  ·obtain⟨i,_,_,hl,M,_⟩:=at_ s (of_decide_eq_true hs);rw[M]at hb;exact fr i hl b hb
  ·have pk:ofJ (λs=>decide (s∈sw)||decide (s=k)) (owN ow k []).n=ofJ (λs=>decide (s∈sw)) ow.n:=funext λb=>propext ⟨λ⟨j,X,hb⟩=>by
    by_cases y:j=k
    ·subst y;rw[iu]at hb;cases hb
    ·rw[fG y]at hb;exact⟨j,by simpa[y]using X,hb⟩,λ⟨j,X,hb⟩=>by
    have y:j≠k:=λz=>f (z▸of_decide_eq_true X)
    have X:=of_decide_eq_true X;exact⟨j,by simp[X],by rw[fG y];exact hb⟩⟩
   have cs:∀s,(decide (s∈sw)||decide (s=k))=true->s=k\/(s≠k/\s∈sw):=λs hs=>by
    by_cases y:s=k
    ·exact .inl y
    ·exact .inr ⟨y,by simpa[y]using hs⟩
   have kq:k<(wX sw qs δ).length:=by rw[vY];exact Q
   have ks:k<σ.length:=by rw[R.len];exact Q
   refine⟨_,V9 (J:=λs=>decide (s∈sw)||decide (s=k)) (as:=λs=>if s=k then bs else as s) (ab2 I S (some v)) (λs hs=>?_) (by rw[bT,bT,vY]) (λs hs=>?_) (by rw[pk,<-F];exact g3) (λs hs=>?_) (λs hs b hb=>?_) λs s' hs Y b hb Z=>?_⟩
   ·rcases cs s hs with y|y
    ·rw[y];exact .inl S
    ·exact h6 s y.2
   ·have y:s≠k:=λz=>by simp[z]at hs
    have m:s∉sw:=λz=>by simp[z]at hs
    rw[aJ (ce y),aJ (ce y),yJ m]
   ·rcases cs s hs with y|y
    ·subst y;exact⟨v,r,bV ks,bV kq,by rw[if_pos rfl];exact g,by rw[if_pos rfl];exact h⟩
    ·obtain⟨_,U,w,_,_,_,k3,P,k5,x⟩:=at_ s y.2;exact⟨U,w,by rw[aJ (ce y.1)];exact k3,by rw[aJ (ce y.1)];exact P,by rw[if_neg y.1];exact k5,by rw[if_neg y.1];exact x⟩
   ·rw[pk];rcases cs s hs with y|y
    ·rw[if_pos y]at hb;have:(∃j∈l,b∈T j)\/H1 b=none:=(o b hb).1;have e:(∃j∈l,b∈T j)=ofJ (λs=>decide (s∈sw)) ow.n b:=congrFun F b;rw[e]at this;exact this
    ·rw[if_neg y.1]at hb;obtain⟨i,_,_,hl,M,_⟩:=at_ s y.2;rw[M]at hb;exact fr i hl b hb
   ·have no:∀s,s∈sw->b∈as s->b∉bs:=λs hs h1 h2=>by
     obtain⟨i,_,_,hl,M,_⟩:=at_ s hs;rw[M]at h1;exact(o b h2).2 i hl h1
    rcases cs s hs with y|y<;>rcases cs s' Y with O|O
    ·rw[y,O]
    ·rw[if_pos y]at hb;rw[if_neg O.1]at Z;exact absurd hb (no s' O.2 Z)
    ·rw[if_neg y.1]at hb;rw[if_pos O]at Z;exact absurd Z (no s y.2 hb)
    ·rw[if_neg y.1]at hb;rw[if_neg O.1]at Z;exact dj s s' y.2 O.2 b hb Z
theorem zM{K:PySem.W.Frag}{fl:List Fl}{G:Gh}{ow:Ow}{σ:D3.St}{H H1:Hp}{δ Z:DS}{sl:List (Option Nat)}{l sw:List Nat}{vs:List V}{ds:List D}{d d0:D}{F:List D->Option D}{Q:V->Hp->Prop}{E:XK}(W:SlW fl sl l sw)(R:Rel K fl G ow σ H δ)(s:Same H H1)(a:AOk K ow σ δ H1 sl sl vs ds)(e2:F ds=some d)(Y:Ms d sw δ=some (d0,Z))
 (q:∀v H' O,Rel K fl G O σ H' Z->flat d0=true->RA K ok0 false H' v d0->Q v H'):spW K l F vs H1 Q E:=by
 obtain⟨T,p,g⟩:=Mt W R s a;refine⟨ds,T,d,p,e2,λr X v H' T' g1 g2 S U=>?_⟩;subst g1;unfold Ms at Y;dsimp only at Y;by_cases c:flat r=true/\X.length=sw.length
 case neg=>rw[if_neg c]at Y;cases Y
 rw[if_pos c]at Y
 cases Y;obtain⟨O,R'⟩:=(g H' T' X U c.2).1;exact q v H' O R' c.1 S
end XI
namespace XI
open L2 My D3
noncomputable def nmS:List (D×D)->Option (List Str)
 |[]=>some []
 | (.str x,_)::r=>(nmS r).map (x :: ·)
 |_=>none
def isC(C:Addr)(ns:List Str):D->Option (List D)
 | .dict ((.none,.tuple [.int i])::r)=>if i=(C:Int)/\nmS r=some ns then some (r.map (·.2))else none
 |_=>none
theorem vZ:∀{ns:List Str}{ds:List D},ns.length=ds.length->nmS (rW ns ds)=some ns/\(rW ns ds).map (·.2)=ds
 |[],[],_=>⟨rfl,rfl⟩
 |n::ns,d::ds,h=>by
  obtain⟨h1,h2⟩:=vZ (rQ.inj h);exact⟨by rw[rW,nmS,h1];rfl,by rw[rW,bB,h2]⟩
theorem Qa{C Y:Addr}{ns O:List Str}{ds xs:List D}(hl:O.length=ds.length)(h:isC C ns (.dict (oY Y O ds))=some xs):Y=C/\O=ns/\xs=ds:=by
 obtain⟨h1,h2⟩:=vZ hl;unfold isC oY at h;dsimp only at h;split at h
 ·next c=>
  cases h;rw[h1]at c;exact⟨Int.ofNat.inj c.1,dB.inj c.2,h2⟩
 ·cases h
section
variable{K:PySem.W.Frag}{H:Hp}{v:V}{d:D}{as:List Addr}{C:Addr}{ns:List Str}{ds:List D}{ok:Ok}{pl:Bool}
theorem Di(r:RT K H v d as)(h:isC C ns d=some ds):∃a dx fs,v = .ref a/\H a=some (.ins C dx fs)/\H dx=some (.own a)/\fs.map (·.1)=ns/\RTs K H (fs.map (·.2)) ds as:=by
 cases r with
 |ins e g q z=>
  subst z;have hl:=q.len;obtain⟨rfl,h2,rfl⟩:=Qa (by rw[<-hl,aG,aG]) h;exact⟨_,_,_,rfl,e,g,h2,q⟩
 |dic e g=>
  have:=g.isI;unfold isC at h;split at h
  ·next z=>cases z;cases this
  ·cases h
 |_=>cases h
theorem Im(r:RA K ok pl H v d)(h:isC C ns d=some ds):∃a dx fs,v = .ref a/\H a=some (.ins C dx fs)/\H dx=some (.own a)/\fs.map (·.1)=ns/\RAs K ok pl H (fs.map (·.2)) ds:=by
 cases r with
 |ins e g q z=>
  subst z;have hl:=q.length;obtain⟨rfl,h2,rfl⟩:=Qa (by rw[<-hl,aG,aG]) h;exact⟨_,_,_,rfl,e,g,h2,q⟩
 |dic e g=>
  have:=g.isI;unfold isC at h;split at h
  ·next z=>cases z;cases this
  ·cases h
 |dik e g=>
  have:=g.isI;unfold isC at h;split at h
  ·next z=>cases z;cases this
  ·cases h
 |_=>cases h
end
theorem pY:∀{fs:List (Str×V)}{m:Str},m∉fs.map (·.1)->fs.lookup m=none
 |[],_,_=>rfl
 | (x,v)::fs,m,h=>by
  have h1:m≠x:=λz=>h (by rw[z];exact aN)
  rw[cH,show(m==x)=false from by simpa using h1];exact pY λz=>h (aL _ z)
theorem tO:∀{fs:List (Str×V)}{m:Str}{k:Nat},(fs.map (·.1))[k]? = some m->(∀j,j<k->(fs.map (·.1))[j]? ≠ some m)->∃v,fs.lookup m=some v/\(fs.map (·.2))[k]? = some v
 |[],_,_,h,_=>by simp at h
 | (x,v)::fs,m,0,h,_=>by
  have:x=m:=by simpa using h
  subst this;exact⟨v,by rw[cH];simp,rfl⟩
 | (x,v)::fs,m,k+1,h,n=>by
  have h1:m≠x:=λz=>n 0 (Nat.succ_pos _) (by rw[z];rfl)
  obtain⟨w,X,Z⟩:=tO (fs:=fs) (m:=m) (k:=k) (by simpa using h) λj Y z=>n (j+1) (by omega) (by simpa using z)
  exact⟨w,by rwa[cH,show(m==x)=false from by simpa using h1],by simpa using Z⟩
structure HasM(P:bP)(w:b8)(K:PySem.W.Frag)(mg:Str->Option Value)(base:cc)(n:Nat)(C:Addr)(m:Str)(ps:List Str)(sp:Sp):Prop where
 ex:∃(f:Addr)(fd:ca),FnOk P w K mg base CX0 n f fd ps sp/\Binds K fd ps []/\Meth K C m f
 cl:Cls K C
section
variable{X:Cx}{fl:List Fl}{e:Expr}{es:List Expr}{pos apos p:Pos}{x m:Str}{ps:List Str}{n i:Nat}{F:List D->Option D}{fa:FA}{C:Addr}{ns:List Str}{f:FE}
def jU(F:List D->Option D)(C:Addr)(ns:List Str)(f:FE)(fa:FA):FE:=λδ=>(f δ).bind λd=>(isC C ns d).bind λ_=>(fa δ).bind λds=>F (d::ds)
def uT(F:List D->Option D)(C:Addr)(ns:List Str)(i:Nat)(fa:FA)(sw:List Nat):DS->Option (D×DS):=λδ=>(aj i δ).bind λd=>(isC C ns d).bind λ_=>(fa δ).bind λds=>(F (d::ds)).bind λr=>Ms r sw δ
theorem v5{pl:Sem Bool}{o:Expr}(h:HasM X.prog X.w X.K X.mg X.base n C m ps (spD X.K F))(hr:Room n X.A)(hm:m∉ns)(ho:DE X fl .P o f)(ha:DB X fl .P (e::es) fa)
 (he:starEach (e::es) X.env=(false,eval e X.env)::starEach es X.env:=by exact j6 rfl) (O:(backTo pos (starEach es X.env)).any (·.1)=false:=by exact zF rfl)
 (ht:eval (.Call (.Attribute o m apos) (e::es) [] pos) X.env=(do
  let Y <-eval o X.env
  standAt apos.atName
  let(f,fi) <-holding [Y] (getMethod Y m pl)
  callWith pos f fi (backTo pos (starEach (e::es) X.env)) (backToKw pos (keywordEach [] X.env))):=by rfl) :
 DE X fl .C (.Call (.Attribute o m apos) (e::es) [] pos) (jU F C ns f fa):=by
 obtain⟨g,fd,J,b,M⟩:=h.ex;refine PE.imp (Cp (E:=E0) ho h.cl M J hr b .nil yZ ha he O ht) λσ H Q hq=>?_
 refine cW hq λG ow δ r R Z q=>?_
 refine bO Z λd L Z=>?_
 refine bO Z λxs N Z=>?_
 refine bO Z λds S Z=>?_
 refine⟨G,ow,δ,d,R,L,λv H0 s0 k2=>?_⟩;have k2:=k2;obtain⟨a,dx,fs,rfl,T,I,U,_⟩:=Im k2 N;refine⟨a,dx,fs,rfl,T,pY (by rwa[U]),G,ow,δ,ds,R.grow s0,S,λvs H' s V=>?_⟩;show spD X.K F (.ref a::(vs++[])) H' Q E0;rw[dN];exact⟨d::ds,r,⟨(R.grow s0).tb.same s,.cons (k2.same s) V⟩,Z,λv H2 s2 W=>q v H2 ((s0.trans s).trans s2) (RA.imp (λa z=>(s0.trans s).free z) (λz=>z) W)⟩
theorem Gj{pl:Sem Bool}{sl:List (Option Nat)}{l sw:List Nat}(h:HasM X.prog X.w X.K X.mg X.base n C m ps (spW X.K l F))(hr:Room n X.A)(hi:isN fl[i]? = true)(hN:X.N[i]? = some x)(hm:m∉ns)(ha:DWA X fl (some i::sl) sl (e::es) fa)(W:SlW fl (some i::sl) l sw)(hv:Vis X.env.scope x:=by first|exact Or.inl rfl|exact Or.inr (Or.inl rfl)|exact Or.inr (Or.inr rfl))(hd:(x==("__debug__":Str))=false:=by decide)(hcd:(x==("__classdict__":Str))=false:=by decide)
 (he:starEach (e::es) X.env=(false,eval e X.env)::starEach es X.env:=by exact j6 rfl) (O:(backTo pos (starEach es X.env)).any (·.1)=false:=by exact zF rfl)
 (ht:eval (.Call (.Attribute (.Name x p) m apos) (e::es) [] pos) X.env=(do
  let Y <-eval (.Name x p) X.env
  standAt apos.atName
  let(f,fi) <-holding [Y] (getMethod Y m pl)
  callWith pos f fi (backTo pos (starEach (e::es) X.env)) (backToKw pos (keywordEach [] X.env))):=by rfl) :
 DEW X fl (.Call (.Attribute (.Name x p) m apos) (e::es) [] pos) (uT F C ns i fa sw):=by
 obtain⟨g,fd,D,b,M⟩:=h.ex;refine PE.imp (Cp (E:=E0) (nA hN hv hd hcd) h.cl M D hr b .nil yZ ha he O ht) λσ H Q hq=>?_
 obtain⟨G,ow,δ,z,U,R,Z,q⟩:=hq;refine bO Z λd I Z=>?_
 refine bO Z λxs J Z=>?_
 refine bO Z λds L Z=>?_
 refine bO Z λr e4 Z=>?_
 have V:=lK I;obtain⟨v,k1,k2,k3⟩:=R.nr i d hi V;obtain⟨a,dx,fs,rfl,P,B,S,_⟩:=Di k2 J;refine⟨_,k1,a,dx,fs,rfl,P,pY (by rwa[S]),G,ow,δ,ds,R,L,λvs H' s T=>?_⟩;show spW X.K l F (.ref a::(vs++[])) H' Q E0;rw[dN];exact zM W R s (.nm k1 V T) e4 Z q
def jf(C:Addr)(ns:List Str)(k:Nat)(f:FE):FE:=λδ=>(f δ).bind λd=>(isC C ns d).bind λds=>ds[k]?
theorem eG{k:Nat}(he:DE X fl .P e f)(c:Cls X.K C)(O:fL X.K C m)(hk:ns[k]? = some m)(hn:∀j,j<k->ns[j]? ≠ some m)(hb:attributeBase e m X.env (eval e X.env)=eval e X.env):DE X fl .P (.Attribute e m pos) (jf C ns k f):=PE.imp (Hr he hb) λσ H Q hq=>by
 refine cW hq λG ow δ r R Z q=>?_
 refine bO Z λd M Z=>?_
 refine bO Z λds N Z=>?_
 refine⟨G,ow,δ,d,R,M,λv H' s Y=>?_⟩;have Y:=Y;obtain⟨a,dx,fs,rfl,U,L,W,V⟩:=Im Y N;obtain⟨w,g1,g2⟩:=tO (fs:=fs) (m:=m) (k:=k) (by rwa[W]) λj T=>by rw[W];exact hn j T
 obtain⟨y,g3,S⟩:=V.get Z;rw[g2]at g3
 cases g3;exact⟨a,C,dx,fs,w,rfl,U,c,O,g1,q w H' s S⟩
end
end XI
namespace XI
open L2 My D3
abbrev FW:=DS->Option (D×DS)
abbrev FTW:=DS->Option (Bool×DS)
def Dj(f:FW):FS:=λδ=>(f δ).bind λp=>some (.nx p.2)
def uD(i:Nat)(f:FW):FS:=λδ=>(f δ).bind λp=>if i<p.2.length then some (.nx (p.2.set i (some (.d p.1))))else none
section
variable{X:Cx}{fl:List Fl}{e a b c:Expr}{rest:List Expr}{body orelse:List cm}{pos pos':Pos}{x:Str}{i:Nat}{f:FW}{ft:FT}{fw gw:FTW}{fs gs:FS}{l:List Nat}
theorem Qc(h:DEW X fl e f)(hs:swapsWith e none pos.line X.env=pure false:=by rfl):DS1 X fl (.Expr e pos) (Dj f):=PS.imp (yC h hs) λT σ H h=>by
 refine cW h λG ow δ o R W q=>?_
 obtain⟨⟨d,Z⟩,U,V⟩:=bind1 W
 cases V;exact⟨G,ow,δ,d,Z,R,U,λv H' Y R' _ _=>q Y σ H' R'⟩
theorem Kl(hfl:fl[i]? = some .A)(hN:X.N.Nodup)(hi:X.N[i]? = some x)(hv:X.env.scope.names.lookup x=some .local\/X.env.scope.names.lookup x=some .cell)(h:DEW X fl e f)
 (hs:swapsWith e (some (.Name x pos')) pos.line X.env=pure false:=by rfl) (O:X.fn x=true\/X.env.scope.names.lookup x=some .local:=by first|exact .inl rfl|exact .inr rfl) :
 DS1 X fl (.Assign [.Name x pos'] e pos) (uD i f):=PS.imp (yO (i:=i) hN hi hv h hs O) λT σ H h=>by
 refine cW h λG ow δ o R V q=>?_
 obtain⟨⟨d,Z⟩,U,Y⟩:=bind1 V;dsimp only at Y;by_cases hl:i<Z.length
 ·rw[if_pos hl]at Y
  cases Y;exact⟨G,ow,δ,d,Z,R,U,λv H' W R' hd r=>q W _ H' (R'.setA hfl (mR R' hl) (RA.flat hd r))⟩
 ·rw[if_neg hl]at Y
  cases Y
end
end XI
namespace XI
open L2 My D3
def BR(C:Addr)(ns:List Str)(k i:Nat)(f:FE):FS:=λδ=>(aj i δ).bind λy=>(isC C ns y).bind λds=>(f δ).bind λd=>match ds[k]? with
 |some (.list m)=>if flat d=true/\m.length<1000000 then some (.nx (δ.set i (some (.d (.dict (oY C ns (ds.set k (.list (m++[d])))))))))else none
 |_=>none
theorem Gk{H:Hp}{as:List Addr}{a:Addr}{u:HO}(h:a∈as):Same (less H as) (L2.upd H a u):=λb o e=>by
 by_cases z:b∈as
 ·rw[Ui z]at e;cases e
 ·rw[oM z]at e;rw[bW λy=>z (by rwa[y])];exact e
section
variable{X:Cx}{fl:List Fl}{e:Expr}{pos:Pos}{x m:Str}{i k:Nat}{f:FE}{C:Addr}{ns:List Str}
theorem Uk{vpos O apos cpos:Pos}(hfl:fl[i]? = some .N\/fl[i]? = some .W)(h:DE X fl .P e f)(hN:X.N[i]? = some x)(c:Cls X.K C)(na:fL X.K C m)(hk:ns[k]? = some m)(hn:∀j,j<k->ns[j]? ≠ some m)
 (hv:Vis X.env.scope x:=by first|exact Or.inl rfl|exact Or.inr (Or.inl rfl)|exact Or.inr (Or.inr rfl)) (hd:(x==("__debug__":Str))=false:=by decide) (hcd:(x==("__classdict__":Str))=false:=by decide)
 (hb:attributeBase (.Name x vpos) m X.env (eval (.Name x vpos) X.env)=eval (.Name x vpos) X.env:=by rfl)
 (hs:swapsWith (.Call (.Attribute (.Attribute (.Name x vpos) m O) "append" apos) [e] [] cpos) none pos.line X.env=pure false:=by rfl)
 (hbase:attributeBase (.Attribute (.Name x vpos) m O) "append" X.env (eval (.Attribute (.Name x vpos) m O) X.env)=eval (.Attribute (.Name x vpos) m O) X.env:=by rfl)
 (hfew:((backTo cpos (starEach [e] X.env)).all (λx=>!x.1)&&(backToKw cpos (keywordEach [] X.env)).all (λx=>x.1.isSome)
  && decide (([e]:List Expr).length+([]:List dQ).length+(if([]:List dQ).isEmpty then 0 else 1)<30))=true:=by rfl)
 (hline:(apos.endLine==cpos.line)=true:=by rfl) (hst:starEach [e] X.env=(false,eval e X.env)::starEach [] X.env:=by rfl) (Y:(backTo cpos (starEach [] X.env)).any (·.1)=false:=by rfl) :
 DS1 X fl (.Expr (.Call (.Attribute (.Attribute (.Name x vpos) m O) "append" apos) [e] [] cpos) pos) (BR C ns k i f):=
 PS.imp (yC (V0 PySem.F.plainAttrs_list PySem.F.slot_list_append PySem.F.type_list_append wL (Hr (nA hN hv hd hcd) hb) (kO h nC hst) hbase hfew hline hst Y) hs) λDn σ H s=>by
 refine cW s λG ow δ o R Z q=>?_
 refine bO Z λy e1 Z=>?_
 refine bO Z λds e2 Z=>?_
 refine bO Z λd e3 Z=>?_
 split at Z
 case h_2=>cases Z
 next l em=>
 by_cases hc:flat d=true/\l.length<1000000
 case neg=>rw[if_neg hc]at Z;cases Z
 rw[if_pos hc]at Z
 cases Z;have isT:isN fl[i]? = true:=by rcases hfl with y|y<;>(rw[y];rfl)
 have J:=lK e1;have hi:=(bN.mp J).1;obtain⟨v,I,c2,c3⟩:=R.nr i y isT J;obtain⟨p,dx,fs,rfl,T,L,U,M⟩:=Di c2 e2;obtain⟨a,xs,bs,g1,g2,g3,g4,g5,_⟩:=M.part em;obtain⟨w,l1,l2⟩:=tO (fs:=fs) (m:=m) (k:=k) (by rwa[U]) λj t=>by rw[U];exact hn j t
 rw[g1]at l2
 cases l2;refine⟨_,I,p,C,dx,fs,.ref a,rfl,T,c,na,l1,.inl ⟨rfl,_,SqL.of g2⟩,G,ow,δ,d,R,e3,λu H2 s2 B=>?_⟩;have h2:=s2 _ _ g2;obtain⟨a',E,S,f1,f2,g,n,f5,r⟩:=(M.same s2).part em;rw[g1]at f1
 cases f1;rw[h2]at f2
 cases f2;obtain⟨n1,n2,n3⟩:=r c3;refine⟨a,xs,u,rfl,rfl,h2,by rw[g3.length];exact nO hc.2 (by decide),?_⟩;obtain⟨Q,A,V,D⟩:=n3 (xs++[u]) (l++[d]) S ((RTs.upd h2 n1 g).snoc (RT.upd h2 pJ (RT.flat0 hc.1 B))) (λb hb=>hb) n2;refine q (owN ow i Q) σ _ (V8 (R.grow s2) hfl hi I (Gk n) (.ins (by rw[bW (jH (s2 _ _ T) h2 (by intro z;cases z))];exact s2 _ _ T) (by rw[bW (jH (s2 _ _ L) h2 (by intro z;cases z))];exact s2 _ _ L) A (by rw[U])) (λb hb=>.inl (D b hb)) V)
end
end XI
namespace XI
open L2 My D3
def ssP(S:List (Str×Int)):List (D×D):=S.map λq=>(.str q.1,.int q.2)
noncomputable def ssD:List (D×D)->Option (List (Str×Int))
 |[]=>some []
 | (.str x,.int i)::r=>(ssD r).map ((x,i) :: ·)
 |_=>none
theorem Qd:∀{kvs:List (D×D)}{S:List (Str×Int)},ssD kvs=some S->kvs=ssP S
 |[],S,h=>by cases h;rfl
 | (k,v)::r,S,h=>by
  unfold ssD at h;split at h
  ·next e=>cases e
  ·next x i Z e=>
   cases e
   cases q:ssD r with
   |none=>rw[q]at h;cases h
   |some Y=>
    rw[q]at h
    cases h;rw[Qd q];rfl
  ·cases h
def Qe(S:List (Str×Int)):List (Key×V):=S.map λq=>(.inr q.1,.int q.2)
theorem Qf:∀S:List (Str×Int),HW (ssP S)=true
 |[]=>rfl
 |_::S=>Qf S
theorem Qg:∀S:List (Str×Int),dk0 (ssP S)=Qe S
 |[]=>rfl
 | (x,i)::S=>by
  show(.inr x,.int i)::dk0 (ssP S)=_;rw[Qg S];rfl
theorem Yb(S:List (Str×Int)):dh0 (ssP S) = .dK (Qe S):=by
 cases S with
 |nil=>rfl
 |cons q S=>
  show(match tkD ((.str q.1,.int q.2)::ssP S)with|some ts=>HO.dT ts|none=>.dK (dk0 (ssP (q::S))))=_;rw[Qg];rfl
section
variable{K:PySem.W.Frag}{H:Hp}
theorem Qh{kvs:List (D×D)}(Z:isI kvs=false):∀{vs:List V}{ds:List D}{as:List Addr}{k:Nat},RTs K H vs ds as->ds[k]? = some (.dict kvs)->∃a u,vs[k]? = some (.ref a)/\H a=some u/\DH K H u kvs/\a∈as /\
 (as.Nodup->∀Y O,DH K (L2.upd H a Y) Y O->RTs K (L2.upd H a Y) vs (ds.set k (.dict O)) as)
 |_,_,_,_,.nil,h=>by simp at h
 |_,_,_,0,.cons e q,h=>by
  simp at h;subst h
  cases e with
  |dic hx g=>
   rename_i S a u;have T:=g.chg;refine⟨a,u,rfl,hx,g,by simp,λnd Y O X=>?_⟩;obtain⟨_,_,n3⟩:=fJ.mp nd;exact .cons (.dic cM X) (RTs.upd hx (λz=>n3 a aN a z rfl) q)
  |ins _ _ _ z=>rw[z]at Z;cases Z
 |_,_,_,k+1,.cons e q,h=>by
  rename_i v d vs ds as bs;obtain⟨a,u,g1,g2,g3,W,U⟩:=Qh Z (k:=k) q (by simpa using h);have T:=g3.chg;refine⟨a,u,by simpa using g1,g2,g3,bw _ W,λnd Y O X=>?_⟩;obtain⟨n1,n2,n3⟩:=fJ.mp nd;exact .cons (RT.upd g2 (λz=>n3 a z a W rfl) e) (U n2 Y O X)
end
section
variable{X:Cx}{fl:List Fl}{e ke:Expr}{pos:Pos}{x m:Str}{i k:Nat}{f fk:FE}{C:Addr}{ns:List Str}
end
end XI
namespace XI
open L2 My D3
section
variable{X:Cx}{fl:List Fl}{e ke:Expr}{pos:Pos}{x m:Str}{i k:Nat}{f fk:FE}{fw:FW}{C:Addr}{ns:List Str}{l:List Nat}
end
theorem Yc{K:PySem.W.Frag}{H:Hp}{ok:Ok}{pl:Bool}{v:V}{kvs:List (D×D)}{S:List (Str×Int)}(e:ssD kvs=some S)(r:RA K ok pl H v (.dict kvs)):∃a,v = .ref a/\L2.Rd H a (.dK (Qe S)):=by
 obtain rfl:=Qd e;obtain⟨a,rfl,h⟩:=r.dicE (Qf S);rw[Yb]at h;exact⟨a,rfl,h⟩
end XI
namespace XI
open L2 My D3 XK
section
variable{X:Cx}{fl:List Fl}{pos apos p:Pos}{x m:Str}{ps:List Str}{n i:Nat}{F:List D->Option D}{C:Addr}{ns:List Str}
theorem oO{pl:Sem Bool}{o:Expr}{f:FE}(h:HasM X.prog X.w X.K X.mg X.base n C m ps (spD X.K F))(hr:Room n X.A)(hm:m∉ns)(ho:DE X fl .P o f)
 (ht:eval (.Call (.Attribute o m apos) [] [] pos) X.env=(do
  let O <-eval o X.env
  standAt apos.atName
  let(f,fi) <-holding [O] (getMethod O m pl)
  callWith pos f fi (backTo pos (starEach [] X.env)) (backToKw pos (keywordEach [] X.env))):=by rfl) :
 DE X fl .C (.Call (.Attribute o m apos) [] [] pos) (jU F C ns f aK):=by
 obtain⟨g,fd,N,b,M⟩:=h.ex;refine PE.imp (Ot (E:=E0) ho h.cl M N hr b .nil yZ ht) λσ H Q hq=>?_
 refine cW hq λG ow δ r R Z q=>?_
 refine bO Z λd S Z=>?_
 refine bO Z λxs T Z=>?_
 refine bO Z λds U Z=>?_
 cases U;refine⟨G,ow,δ,d,R,S,λv H0 s0 k2=>?_⟩;have k2:=k2;obtain⟨a,dx,fs,rfl,V,L,W,_⟩:=Im k2 T;refine⟨a,dx,fs,rfl,V,pY (by rwa[W]),?_⟩;exact⟨[d],r,⟨(R.grow s0).tb,.cons k2 .nil⟩,Z,λv H2 s2 Y=>q v H2 (s0.trans s2) (RA.imp (λa z=>s0.free z) (λz=>z) Y)⟩
end
section
variable{X:Cx}{fl:List Fl}{a b:Expr}{fa fb:FE}{pos:Pos}
end
end XI
namespace XI
open L2 My D3 XK
section
variable{X:Cx}{fl:List Fl}{e ke:Expr}{pos:Pos}{x:Str}{i:Nat}{f fk:FE}
end
end XI
namespace XI
open L2 My D3 XK
theorem ab3{K:PySem.W.Frag}{fl:List Fl}{σ:D3.St}{H:Hp}{δ:DS}(tb:Tb H)(hl:σ.length=δ.length)(O:∀(i:Nat) (d:D),δ[i]? = some (some (U.d d))->fl[i]? = some Fl.A)(Y:∀(i:Nat) (d:D),δ[i]? = some (some (U.d d))->∃v,σ[i]? = some (some v)/\RA K ok1 true H v d):
 Rel K fl ⟨H,H,λ_=>none,λ_=>[],tb,λ_=>none⟩ ow0 σ H δ:=by
 refine⟨Same.refl _,Same.refl _,hl,λi a h=>(by cases h),λi j a h=>(by cases h),λi h=>rfl,λi d h _ _=>?_,λi d h _ h2 _=>absurd (O i d h) h2,λi a h=>(by cases h),λi j a h=>(by cases h),λi j a h=>(by cases h),λi h=>rfl,λi d hn h=>(by rw[O i d h]at hn;cases hn),λi u h e=>(by cases e)⟩;obtain⟨v,h1,h2⟩:=Y i d h;exact⟨v,h1,h2.imp (λ_ _=>⟨λi z=>(by cases z),λi z=>(by cases z)⟩) (λz=>z)⟩
structure Ini(K:PySem.W.Frag)(H0:Hp)(x dx C:Addr)(H:Hp)(fs:List (Str×V))(ds:List D)(as:List Addr):Prop where
 hx:H x=some (.ins C dx fs)
 hd:H dx=some (.own x)
 rt:RTs K H (fs.map (·.2)) ds as
 nd:as.Nodup
 fr:∀a∈as,H0 a=none
 sm:Same (lQ H0 (· = x)) H
 hn:H0 x≠none
theorem Gm:∀{fs:List (Str×V)}{f:Str}{y:V},f∉fs.map (·.1)->nR f y fs=fs++[(f,y)]
 |[],_,_,_=>rfl
 | (g,x)::r,f,y,h=>by
  have h1:g≠f:=λz=>h (by rw[z];exact aN)
  rw[nR,if_neg h1,Gm λz=>h (aL _ z)];rfl
theorem mV{H:Hp}{x dx C:Addr}{fs:List (Str×V)}{u:HO}(hx:H x=some (.ins C dx fs)):∀b w,Imm w->(∀dx fs,w ≠ .ins C dx fs)->H b=some w->L2.upd H x u b=some w:=λb w _ n e=>by
 rw[bW (jH e hx (n _ _))];exact e
theorem noD{C:Addr}{kvs:List (D×D)}(h:noC C (.dict kvs)=true):Ak C kvs=true:=by
 rw[noC,aM]at h;exact h.2
theorem Gn{K:PySem.W.Frag}{H:Hp}{x dx C:Addr}{fs:List (Str×V)}{u:HO}(hx:H x=some (.ins C dx fs)):(∀{v:V}{d:D}{bs:List Addr},RT K H v d bs->noC C d=true->RT K (L2.upd H x u) v d bs)/\∀{v:List V}{d:List D}{bs:List Addr},RTs K H v d bs->ju C d=true->RTs K (L2.upd H x u) v d bs:=
 RT.ind (λ_=>.non) (λb _=>.bl b) (λi _=>.int i) (λx _=>.str x) (λe q h=>.lst (by rw[bW (jH e hx (by intro z;cases z))];exact e) (q (by rw[noC]at h;exact h))) (λe q h=>.tup (e.imp (mV hx _ _ Imm.tup λ_ _ z=>by cases z)) (q (by rw[noC]at h;exact h)))
  (λe g h=>.dic (by rw[bW (jH e hx (by intro z;subst z;exact g.chg.ins))];exact e) (g.impC (mV hx) (noD h))) (λe g r q z h=>by
   subst z;obtain⟨n1,n2⟩:=CJ (by rw[<-r.len,aG,aG]) h;exact .ins (mV hx _ _ Imm.ins (λ_ _ z=>by cases z;exact n1 rfl) e) (mV hx _ _ Imm.own (λ_ _ z=>by cases z) g) (q n2) rfl) (λ_=>.nil)
  λe q h=>by
   rw[ju,aM]at h;exact .cons (e h.1) (q h.2)
end XI
namespace XI
open L2 My D3 XK
theorem Qi{K:PySem.W.Frag}{ok:Ok}{pl:Bool}{H:Hp}{x dx C:Addr}{fs:List (Str×V)}{u:HO}(hx:H x=some (.ins C dx fs)):(∀{v:V}{d:D},RA K ok pl H v d->noC C d=true->RA K ok pl (L2.upd H x u) v d)/\∀{v:List V}{d:List D},RAs K ok pl H v d->v.length=d.length/\(ju C d=true->RAs K ok pl (L2.upd H x u) v d):=
 RA.ind (λ_=>.non) (λb _=>.bl b) (λi _=>.int i) (λx _=>.str x) (λe k q h=>.lst (by rw[bW (jH e hx (by intro z;cases z))];exact e) k (q.2 (by rw[noC]at h;exact h))) (λe k q h=>.lsk (by
  rcases e with⟨o,e⟩|e
  ·exact .inl ⟨o,by rw[bW (jH e hx (by intro z;cases z))];exact e⟩
  ·exact .inr e) k (q.2 (by rw[noC]at h;exact h))) (λe q h=>.tup (e.imp (mV hx _ _ Imm.tup λ_ _ z=>by cases z)) (q.2 (by rw[noC]at h;exact h)))
  (λe g k h=>.dic (by rw[bW (jH e hx (by intro z;subst z;exact g.chg.ins))];exact e) (g.impC (mV hx) (noD h)) k) (λe g k h=>.dik (by rw[bW (jH e hx (by intro z;cases z))];exact e) (g.impC (mV hx) (noD h)) k)
  (λe g q z h=>by
   subst z;obtain⟨n1,n2⟩:=CJ (by rw[<-q.1,aG,aG]) h;exact .ins (mV hx _ _ Imm.ins (λ_ _ z=>by cases z;exact n1 rfl) e) (mV hx _ _ Imm.own (λ_ _ z=>by cases z) g) (q.2 n2) rfl) ⟨rfl,λ_=>.nil⟩
  λe q=>⟨by rw[bC,bC,q.1],λh=>by
   rw[ju,aM]at h;exact .cons (e h.1) (q.2 h.2)⟩
theorem Km{K:PySem.W.Frag}{H:Hp}{v:V}{d:D}{bs:List Addr}(r:RT K H v d bs):∀{vs:List V}{ds:List D}{as:List Addr},RTs K H vs ds as->RTs K H (vs++[v]) (ds++[d]) (as++bs)
 |_,_,_,.nil=>by
  have:=RTs.cons r (.nil (K:=K) (H:=H));simpa using this
 |_,_,_,.cons e q=>by
  rw[jF];exact .cons e (Km r q)
def tIS(K:PySem.W.Frag)(fl:List Fl)(C:Addr)(f:Str)(fe:FE):TS:=λY σ H=>∃(H0:Hp)(x dx:Addr)(fs:List (Str×V))(ds:List D)(as:List Addr)(δ:DS)(d:D),Ini K H0 x dx C H fs ds as/\σ[0]? = some (some (.ref x))/\Tb H/\σ.length=δ.length /\
 (∀(i:Nat)(d:D),δ[i]? = some (some (U.d d))->fl[i]? = some Fl.A/\∃v,σ[i]? = some (some v)/\RA K ok1 true H v d)/\f∉fs.map (·.1)/\fs.length<1000/\ju C ds=true/\noC C d=true/\fe δ=some d /\
 ∀H' fs' Z,Ini K H0 x dx C H' fs' (ds++[d]) Z->fs'.map (·.1)=fs.map (·.1)++[f]->(∀v d,RA K ok1 true H v d->noC C d=true->RA K ok1 true H' v d)->Tb H'->Y.nx σ H'
theorem Ul{X:Cx}{fl:List Fl}{C:Addr}{f s0:Str}{fe:FE}{e:Expr}{vpos p2 pos:Pos}(h:DE X fl .T e fe)(hN:X.N[0]? = some s0)(c:Cls X.K C)(O:fL X.K C f)
 (hv:Vis X.env.scope s0:=by first|exact Or.inl rfl|exact Or.inr (Or.inl rfl)|exact Or.inr (Or.inr rfl)) (hd:(s0==("__debug__":Str))=false:=by decide) (hcd:(s0==("__classdict__":Str))=false:=by decide)
 (hs:swapsWith e (some (.Attribute (.Name s0 vpos) f p2)) pos.line X.env=pure false:=by rfl):PS X (.Assign [.Attribute (.Name s0 vpos) f p2] e pos) (tIS X.K fl C f fe):=
 PS.imp (Oq (nA hN hv hd hcd) h hs) λE σ H P=>by
 obtain⟨H0,x,dx,fs,ds,as,δ,d,I,F,tb,L,ga,J,M,nd,Z,G,q⟩:=P;refine⟨_,_,δ,d,ab3 tb L (λi d h=>(ga i d h).1) (λi d h=>(ga i d h).2),G,λv H1 s r=>?_⟩;obtain⟨bs,R,S,W⟩:=r;have hx:=s _ _ I.hx;have Y:=jH I.hd I.hx (by intro z;cases z);refine⟨_,F,x,C,dx,fs,rfl,hx,c,O,M,?_⟩;rw[Gm J];refine q _ (fs++[(f,v)]) (as++bs) ⟨cM,by rw[bW Y];exact s _ _ I.hd,?_,?_,?_,?_,I.hn⟩ (by rw[bG];rfl) (λv d r hd=>(Qi hx).1 (r.same s) hd) ?_
 ·rw[bG];exact Km ((Gn hx).1 R Z) ((Gn hx).2 (I.rt.same s) nd)
 ·refine fJ.mpr ⟨I.nd,S,λa ha b hb z=>?_⟩;rw[z]at ha;exact I.rt.tracked b ha (W b hb)
 ·intro a ha;rcases cJ.mp ha with y|y
  ·exact I.fr a y
  ·cases z:H0 a with
   |none=>rfl
   |some o=>
    have e:=W a y;by_cases U:a=x
    ·rw[U,I.hx]at e;cases e
    ·rw[I.sm a o (by rwa[iG (p:=(· = x)) U])]at e;cases e
 ·intro b o hb;by_cases V:b=x
  ·rw[vW (p:=(· = x)) V]at hb;cases hb
  ·rw[bW V];exact s _ _ (I.sm b o hb)
 ·intro t Q;have e:=tb t Q;rw[bW (jH (s _ _ e) hx (by intro z;cases z))];exact s _ _ e
end XI
namespace XI
open L2 My D3 XK
section
variable{X:Cx}{o:Expr}{to:TE}{apos cpos pos p:Pos}
theorem Ko:∀{kvs:List (Key×V)}{vs:List (Key×Value)},KV kvs vs->Vals (kvs.map (·.2)) (vs.map (·.2))
 |_,_,.nil=>.nil
 |_,_,.cons h t=>.cons h.2 (Ko t)
theorem Kp:∀(kvs:List (Key×V))(us:List Value),us.length=kvs.length->(∀(j:Nat)(u:Value),us[j]? = some u->∃k v,kvs[j]? = some (k,v)/\RelV (kV k) u)->Vals (kvs.map λq=>kV q.1) us
 |[],[],_,_=>.nil
 |[],_::_,h,_=>by simp at h
 |_::_,[],h,_=>by simp at h
 | (k,v)::r,u::us,h,g=>by
  obtain⟨W,X,Y,Z⟩:=g 0 u rfl
  cases Y;exact .cons Z (Kp r us (by simpa using h) λj w hw=>by simpa using g (j+1) w (by simpa using hw))
theorem zN(hc:X.still=true):jP X (.type "list") (λxs H Q=>∃(a:Addr)(kvs:List (Key×V)),xs=[.ref a]/\L2.Rd H a (.dK kvs)/\∀l,H l=none->Q (.ref l) (upd H l (.lst (kvs.map λq=>kV q.1)))):=by
 intro pins s σ H xs us Q I r h;obtain⟨a,kvs,rfl,hx,q⟩:=h;obtain⟨u,rfl,P⟩:=vals1 r
 cases P;obtain⟨K,hd,vs,rel,dd⟩:=uy I.hok hx;obtain⟨M,S⟩:=dd.dictAt;have hlen:=rel.length;refine PySem.W.kdl_call (PySem.W.kdl_dict (knd:=iz X.prog X.w) (kvs:=vs) (ep:=M) hd) (I.ok.hs hc) S (by rwa[<-hlen]) λh' tk acc c' O N Z=>?_
 have hn:=I.hok.fresh (aQ _);have L:=I.laid (h':=h') (t':=tk) (a:=s.heap.objs.size) (o:=.lst (kvs.map λq=>kV q.1)) O (aQ _) ⟨by rwa[aG],acc.toList,c',Kp kvs acc.toList (by rw[dU,Z.1,hlen]) λj u J=>?_,by simpa using N⟩
 ·exact⟨.ref _,_,L,rfl,q _ hn⟩
 ·obtain⟨k,x,U,T⟩:=Z.2 j u (by rwa[<-rK]);have Y:(vs.map (·.1))[j]? = some k:=by rw[aR,U];rfl
  rw[<-rel.keys,aR]at Y
  cases R:kvs[j]? with
  |none=>rw[R]at Y;cases Y
  |some q0=>
   rw[R]at Y
   cases Y;exact⟨q0.1,q0.2,rfl,X3 T⟩
def Kq(r a:Addr):HO:=.ext λh=>h.IsValuesView r a
theorem Um(ho:PE X o to)(Y:attributeBase o "values" X.env (eval o X.env)=eval o X.env:=by rfl)(O:(apos.endLine==cpos.line)=true:=by rfl):
 PE X (.Call (.Attribute o "values" apos) [] [] cpos) (λσ H Q=>to σ H λx H1=>∃a kvs,x = .ref a/\L2.Rd H1 a (.dK kvs)/\∀r,H1 r=none->Q (.ref r) (upd H1 r (Kq r a))):=by
 intro pins s σ H Q I h;refine wpAny_Call_method0_late Y O (thn (ho pins s σ H _ I h) λv s1 ⟨x,H1,Z,S,a,kvs,ex,hx,q⟩=>?_);subst ex;obtain rfl:v=cb a:=S;obtain⟨W,T,U⟩:=XQ Z (.inl ⟨kvs,hx⟩);obtain⟨R,hd,vs,rel,dd⟩:=uy Z.hok hx;have hn:=Z.hok.fresh (aQ _);refine⟨"dict", "dict.values", PySem.F.plainAttrs_dict,PySem.F.slot_dict_values,PySem.F.type_dict_values,W,T,bq rfl (PySem.evalArgs_none ?_)⟩;refine call_meetsIn PySem.F.slot_dict_values W PySem.F.entry_dict_values (PySem.F.args_dict_values_1 _) (meets_dict_values (iz X.prog X.w) a U) ⟨⟨vs,dd⟩,?_⟩;have V:(s1.heap.push {cls:=.type "dict_values", data:=.fields #[.ref a]}).get? s1.heap.objs.size=some {cls:=.type "dict_values", data:=.fields #[.ref a]}:=ag _ rfl;refine⟨.ref _,_,Z.laid (t':=s1.toks) (a:=s1.heap.objs.size) (o:=Kq s1.heap.objs.size a) (λb u e=>ad _ e) (aQ _) ⟨⟨_,V,rfl,rfl⟩,⟨_,V⟩,λh1 h2 ⟨o,g1,g2⟩ k=>⟨o,k o g1,g2⟩⟩,rfl,q _ hn⟩
theorem Io(hc:X.still=true):jP X (.type "list") (λxs H Q=>∃(r a:Addr)(kvs:List (Key×V)),xs=[.ref r]/\H r=some (Kq r a)/\L2.Rd H a (.dK kvs)/\∀l,H l=none->Q (.ref l) (upd H l (.lst (kvs.map (·.2))))):=by
 intro pins s σ H xs us Q I T h;obtain⟨r,a,kvs,rfl,R,hx,q⟩:=h;obtain⟨u,rfl,U⟩:=vals1 T
 cases U;obtain⟨L,hd,vs,rel,dd⟩:=uy I.hok hx;obtain⟨N,Y⟩:=dd.dictAt;have hlen:=rel.length;have S:=(I.hok r _ R).1;refine PySem.W.kdl_call (PySem.W.kdl_values (knd:=iz X.prog X.w) (kvs:=vs) (ep:=N)) (I.ok.hs hc) ⟨S,Y⟩ (by rwa[<-hlen]) λh' tk acc c' P O Z=>?_
 have hn:=I.hok.fresh (aQ _);have ea:=PySem.W.kdl_vals_eq _ (by rw[dU];exact Z.1) λj v e=>Z.2 j v (by rwa[<-rK])
 have M:=I.laid (h':=h') (t':=tk) (a:=s.heap.objs.size) (o:=.lst (kvs.map (·.2))) P (aQ _) ⟨by rwa[aG],acc.toList,c',by rw[ea];exact Ko rel,by simpa using O⟩;exact⟨.ref _,_,M,rfl,q _ hn⟩
end
def Ip:D->Option D
 | .dict kvs=>(ssD kvs).bind λS=>some (.list (S.map λq=>.str q.1))
 |_=>none
theorem Kr{K:PySem.W.Frag}{ok:Ok}{pl:Bool}{H:Hp}:∀S:List (Str×Int),RAs K ok pl H ((Qe S).map λq=>kV q.1) (S.map λq=>.str q.1)
 |[]=>.nil
 |q::S=>.cons (.str q.1) (Kr S)
section
variable{X:Cx}{fl:List Fl}{e:Expr}{f:FE}{apos cpos pos p:Pos}
theorem Qj(hc:X.still=true)(h:DE X fl .P e f)(hg:Gl X "list")(hm:X.mg "list"=none)
 (Y:starEach [e] X.env=(false,eval e X.env)::starEach [] X.env:=by rfl) (O:(backTo pos (starEach [] X.env)).any (·.1)=false:=by rfl):DE X fl .FC (.Call (.Name "list" p) [e] [] pos) (dUn Ip f):=
 PE.imp (pP (zN hc) hg hm boot_list (kO h nC Y) (by decide) (by decide) Y O) λσ H Q h=>by
 refine cW h λG ow δ d R V q=>?_
 refine bO V λx T Z=>?_
 refine⟨G,ow,δ,x,R,T,λv H1 s1 W=>?_⟩;unfold Ip at Z;split at Z
 ·next kvs=>
  refine bO Z λS eS U=>?_
  cases U;obtain⟨a,rfl,hx⟩:=Yc eS W;exact⟨a,Qe S,rfl,hx,λl hn=>q _ _ (s1.trans (cN hn _)) (.inr ⟨l,_,_,rfl,rfl,s1.free hn,cM,Kr S⟩)⟩
 ·cases Z
end
end XI
namespace XI
open L2 My D3 XK
section
variable{X:Cx}{fl fl':List Fl}{elt:Expr}{elts ifs:List Expr}{f fx:FE}{ft:FT}{pos tpos apos cpos:Pos}{scope:db}{ix TT:List Nat}{g:FG}{x1:Nat}{iter:Expr}
end
end XI
namespace XI
open L2 My D3 XK
structure DgM(K:PySem.W.Frag)(C:Addr)(m x:Str)(st:cm)(ps:List Str):Prop where
 ex:∃(f:Addr)(fd:ca),FunX K m x st f fd/\Binds K fd ps []/\Meth K C m f
theorem Yd{K:PySem.W.Frag}{C f:Addr}{oc kV Y pm O ct:Value}{od an:Option Addr}{sl:Array (Option Value)}{m x:Str}{st:cm}{ps:List Str}
 (hb:∀(kV doc pm:Value)(an:Option Addr)(cdv ct:Value)(us:List Value),us.length=ps.length->bindArgs (PySem.W.fnOf m x (iQ st) (dJ st) (aP st) .none kV doc pm an cdv ct) ⟨us,[]⟩=pure (ps.zip us))
 (a:PySem.W.findIn K (.ref C) m=some (some (.ref f))) (l:K.lookup f=some ⟨oc,od,.func (PySem.W.fnOf m x (iQ st) (dJ st) (aP st) .none kV Y pm an O ct),sl⟩) (c:PySem.W.codeIn K O x=true) (fn:PySem.W.isFn K (.ref f)=true) (k:PySem.W.keepIn K (.ref f)=true):DgM K C m x st ps:=
 ⟨f,_,⟨⟨oc,od,.none,kV,Y,pm,an,O,ct,sl,rfl,l,c⟩⟩,.all (hb kV Y pm an O ct),⟨a,fn,k⟩⟩
section
variable{P:bP}{w:b8}{K:PySem.W.Frag}{mg:Str->Option Value}{base:cc}{m x:Str}{ps N:List Str}{st:cm}{k n:Nat}{fs:FS}{fl:List Fl}{l:List Nat}{C:Addr}
theorem uE(Dd:DgM K C m x st ps)(cl:Cls K C)(S:FnScope N ps (aP st))(Y:∀i,i<ps.length->fl[i]? = some .A)(hN:ps.length<=N.length)
 (O:∀(f:Addr)(cdv:Value)(A:bX)(outer:List Env)(s:bE)(H:Hp)(E:XK),Room k (A.deeper (envOfC x (aP st) s.heap.objs.size f cdv))->DSs (cx P w K mg base N x st f cdv A outer s H E) fl (dJ st) fs) :
 HasM P w K mg base (k+1) C m ps (spD K (fnD ps.length (N.length-ps.length) fs)):=by
 obtain⟨f,fd,U,b,M⟩:=Dd.ex;refine⟨⟨f,fd,?_,b,M⟩,cl⟩;refine U.ok S (λvs H Q E h=>?_) (λcdv A outer s H vs Q E V h=>?_)
 ·obtain⟨ds,d,r,Z,_⟩:=h;unfold fnD at Z;by_cases z:ds.length=ps.length
  ·rwa[r.2.length]
  ·rw[if_neg z]at Z;cases Z
 ·obtain⟨ds,d,r,Z,q⟩:=h;refine⟨_,O f cdv A outer s H E V,?_⟩;unfold fnD at Z;by_cases z:ds.length=ps.length
  ·rw[if_pos z]at Z;split at Z
   ·next T e=>
    cases Z;exact⟨_,_,_,_,tK ps.length Y z hN r,e,λv H' s r=>q v H' s r⟩
   ·next X e=>
    cases Z;exact⟨_,_,_,_,tK ps.length Y z hN r,e,λW σ' H' R'=>q .non H' R'.same0 .non⟩
   ·cases Z
  ·rw[if_neg z]at Z;cases Z
theorem Ye(Dd:DgM K C m x st ps)(cl:Cls K C)(S:FnScope N ps (aP st))(Y:∀i,i<ps.length->i∉l->fl[i]? = some .A)(hw:∀i∈l,fl[i]? = some .W)(Z:ps.length<=N.length)
 (O:∀(f:Addr)(cdv:Value)(A:bX)(outer:List Env)(s:bE)(H:Hp)(E:XK),Room k (A.deeper (envOfC x (aP st) s.heap.objs.size f cdv))->DWs (cx P w K mg base N x st f cdv A outer s H E) fl l (dJ st) fs) :
 HasM P w K mg base (k+1) C m ps (spW K l (fnW ps.length (N.length-ps.length) l fs)):=by
 obtain⟨f,fd,X,b,M⟩:=Dd.ex;exact⟨⟨f,fd,P_ X S Y hw Z O,b,M⟩,cl⟩
end
noncomputable def v7(C:Addr):List (Str×FE)->DS->Option (List D)
 |[],_=>some []
 | (_,f)::r,δ=>(f δ).bind λd=>if noC C d=true then(v7 C r δ).bind λds=>some (d::ds)else none
def tI(K:PySem.W.Frag)(fl:List Fl)(C:Addr)(nf:List (Str×FE)):TS:=λY σ H=>∃(H0:Hp)(x dx:Addr)(fs:List (Str×V))(ds:List D)(as:List Addr)(δ:DS)(rs:List D),Ini K H0 x dx C H fs ds as/\σ[0]? = some (some (.ref x))/\Tb H/\σ.length=δ.length /\
 (∀(i:Nat)(d:D),δ[i]? = some (some (U.d d))->fl[i]? = some Fl.A/\noC C d=true/\∃v,σ[i]? = some (some v)/\RA K ok1 true H v d)/\(fs.map (·.1)++nf.map (·.1)).Nodup/\fs.length+nf.length<1000/\ju C ds=true/\v7 C nf δ=some rs /\
 ∀H' fs' Z,Ini K H0 x dx C H' fs' (ds++rs) Z->fs'.map (·.1)=fs.map (·.1)++nf.map (·.1)->Y.nx σ H'
theorem BW{C:Addr}:∀{a b:List D},ju C a=true->ju C b=true->ju C (a++b)=true
 |[],_,_,h=>h
 |x::a,b,h,h'=>by
  rw[ju,aM]at h;rw[pK,ju,h.1,BW h.2 h'];rfl
section
variable{X:Cx}{fl:List Fl}{C:Addr}{f s0:Str}{fe:FE}{e:Expr}{sts:List cm}{nf:List (Str×FE)}{vpos p2 pos:Pos}
theorem Ir:PSs X [] (tI X.K fl C []):=PSs.imp yx λT σ H h=>by
 obtain⟨H0,x,dx,fs,ds,as,δ,rs,I,U,tb,W,ga,Y,V,nd,Z,q⟩:=h
 cases Z;rw[dN]at q;exact q H fs as I (by simp)
theorem iT(h:DE X fl .T e fe)(hr:PSs X sts (tI X.K fl C nf))(hN:X.N[0]? = some s0)(c:Cls X.K C)(na:fL X.K C f)
 (hv:Vis X.env.scope s0:=by first|exact Or.inl rfl|exact Or.inr (Or.inl rfl)|exact Or.inr (Or.inr rfl)) (hd:(s0==("__debug__":Str))=false:=by decide) (hcd:(s0==("__classdict__":Str))=false:=by decide)
 (hs:swapsWith e (some (.Attribute (.Name s0 vpos) f p2)) pos.line X.env=pure false:=by rfl):PSs X (.Assign [.Attribute (.Name s0 vpos) f p2] e pos::sts) (tI X.K fl C ((f,fe)::nf)):=
 PSs.imp (pN (Ul h hN c na hv hd hcd hs) hr) λD σ H h=>by
 obtain⟨H0,x,dx,fs,ds,as,δ,rs,I,O,tb,P,ga,V,L,nd,J,q⟩:=h;refine bO J λd F Z=>?_
 by_cases z:noC C d=true
 case neg=>rw[if_neg z]at Z;cases Z
 rw[if_pos z]at Z;refine bO Z λW G e4=>?_
 cases e4;rw[bB]at V;have fn:f∉fs.map (·.1):=λy=>(fJ.mp V).2.2 f y f aN rfl
 rw[bC]at L;refine⟨H0,x,dx,fs,ds,as,δ,d,I,O,tb,P,λi d h=>⟨(ga i d h).1,(ga i d h).2.2⟩,fn,by omega,nd,z,F,λH' fs' Q E en k Y=>?_⟩;have fl':fs'.length=fs.length+1:=by
  have:=congrArg xM en;simpa using this
 refine⟨H0,x,dx,fs',ds++[d],Q,δ,W,E,O,Y,P,λi d h=>?_,by rw[en,jF];exact V,by omega,BW nd (by rw[ju,z];rfl),G,λH2 U R M S=>?_⟩
 ·obtain⟨h1,h2,v,h3,h4⟩:=ga i d h;exact⟨h1,h2,v,h3,k v d h4 h2⟩
 ·refine q H2 U R ?_ ?_
  ·rw[jF]at M;exact M
  ·rw[S,en,jF];rfl
end
def spI(K:PySem.W.Frag)(C:Addr)(ns:List Str)(F:List D->Option (List D)):Sp:=λvs H Q _=>∃(x dx:Addr)(us:List V)(ds rs:List D),vs = .ref x::us/\H x=some (.ins C dx [])/\H dx=some (.own x)/\Tb H/\RAs K ok1 true H us ds/\ju C ds=true/\F ds=some rs /\
 ∀H' fs as,Ini K H x dx C H' fs rs as->fs.map (·.1)=ns->Q .non H'
structure HasI(P:bP)(w:b8)(K:PySem.W.Frag)(mg:Str->Option Value)(base:cc)(n:Nat)(c:Str)(C:Addr)(ps:List Str)(sp:Sp):Prop where
 ex:∃(f:Addr)(fd:ca),FnOk P w K mg base CX0 n f fd ps sp/\Binds K fd ps []/\Mk K C f
 mg:mg c=some (.ref C)
structure DgI(K:PySem.W.Frag)(mg:Str->Option Value)(c:Str)(C:Addr)(x:Str)(st:cm)(ps:List Str):Prop where
 ex:∃(f:Addr)(fd:ca),FunX K "__init__" x st f fd/\Binds K fd ps []/\Mk K C f
 mg:mg c=some (.ref C)
theorem Qk{C:Addr}:∀{ds:List D}{i:Nat}{d:D},ju C ds=true->ds[i]? = some d->noC C d=true
 |[],_,_,_,h=>by simp at h
 |x::r,0,d,h,e=>by
  cases e;rw[ju,aM]at h;exact h.1
 |x::r,i+1,d,h,e=>by
  rw[ju,aM]at h;exact Qk h.2 (by simpa using e)
def xW(C:Addr)(ns:List Str)(F:List D->Option (List D))(fa:FA):FE:=λδ=>(fa δ).bind λds=>if ju C ds=true then(F ds).bind λrs=>some (.dict (oY C ns rs))else none
theorem Ks{X:Cx}{fl:List Fl}{c:Str}{C:Addr}{ns ps:List Str}{e:Expr}{es:List Expr}{n:Nat}{F:List D->Option (List D)}{fa:FA}{p pos:Pos}(h:HasI X.prog X.w X.K X.mg X.base n c C ps (spI X.K C ns F))(hr:Room (n+1) X.A)(ha:DB X fl .P (e::es) fa)(hg:Gl X c:=by rfl)(hdb:(c==("__debug__":Str))=false:=by decide)
 (he:starEach (e::es) X.env=(false,eval e X.env)::starEach es X.env:=by exact j6 rfl) (O:(backTo pos (starEach es X.env)).any (·.1)=false:=by exact zF rfl) :
 DE X fl .T (.Call (.Name c p) (e::es) [] pos) (xW C ns F fa):=by
 obtain⟨⟨f,fd,S,b,M⟩,hm⟩:=h;refine PE.imp (JK (E:=E0) M S hr hg hm b .nil yZ ha hdb he O) λσ H Q hq=>?_
 refine cW hq λG ow δ d R Z q=>?_
 refine bO Z λds V Z=>?_
 by_cases z:ju C ds=true
 case neg=>rw[if_neg z]at Z;cases Z
 rw[if_pos z]at Z;refine bO Z λrs W Z=>?_
 cases Z;refine⟨G,ow,δ,ds,R,V,λvs H1 s1 r x dx hx Y ne=>?_⟩;have s2:Same H1 (upd (upd H1 dx (.own x)) x (.ins C dx [])):=(cN Y _).trans (cN (by rw[bW (ce ne)];exact hx) _);have s:=s1.trans s2;refine⟨x,dx,vs++[],ds,rs,rfl,cM,by rw[bW ne,cM],(R.grow s).tb,?_,z,W,λH' fs as I en=>⟨rfl,?_⟩⟩
 ·rw[dN];exact(show RAs X.K ok1 true H1 vs ds from r).same s2
 ·have fr:∀b,upd (upd H1 dx (.own x)) x (.ins C dx []) b=none->H b=none:=λb hb=>s.free hb
  have sm:Same H H':=λb o hb=>by
   have U:b≠x:=λe=>by rw[e]at hb;have:=s1 _ _ hb;rw[hx]at this;cases this
   exact I.sm b o (by rw[iG (p:=(· = x)) U];exact s b o hb)
  refine q _ H' sm ⟨as,.ins I.hx I.hd I.rt (by rw[en]),I.nd,λa ha=>fr a (I.fr a ha)⟩
end XI
namespace XI
open L2 My D3 XK XC
def Ql(K:PySem.W.Frag)(mg:Str->Option Value)(fl:List Fl)(l:List Nat)(G:Gh)(O:Ends)(E:XK):Or->Prop
 | .o (.ex c _ (.tuple (r::ps)))=>∀v H' T',EndP K l G H' T' ps->(c="T"->V_ K l (λa=>G.H0 a=none) H' T' v r)->O.rt v H'
 | .o (.nx Z)=>zy K fl G O (.nx Z)
 | .ex c (.tuple (d::ps))=>∀(C:Addr)(v:V)(u:Value)(H':Hp) T',mg c=some (.ref C)->EndP K l G H' T' ps->RA K ok1 true H' v d->RelV v u->E u (some C) H'
 |_=>False
theorem Ql.nx{K:PySem.W.Frag}{mg:Str->Option Value}{fl:List Fl}{l:List Nat}{G:Gh}{O:Ends}{E:XK}{t:D3.St->Hp->Prop}{o:Or}(q:Ql K mg fl l G O E o)(hn:∀δ,o ≠ .o (.nx δ)):Ql K mg fl l G {O with nx:=t} E o:=by
 cases o with
 |ex c d=>
  cases d with
  |tuple xs=>cases xs<;>exact q
  |_=>exact q
 |o x=>
  cases x with
  |nx δ=>exact absurd rfl (hn δ)
  |ex c f d=>
   cases d with
   |tuple xs=>cases xs<;>exact q
   |_=>exact q
  |_=>exact q
def GoN(f:FS):Prop:=∀δ o,f δ=some o->∃Z,o = .nx Z
section
variable{X:Cx}{E:XK}{fl:List Fl}{l:List Nat}{c e:Expr}{st:cm}{sts body orelse:List cm}{fs:FS}{f g:FX}{fe:FE}{ft:FT}{pos:Pos}
end
section
variable{P:bP}{w:b8}{K:PySem.W.Frag}{mg:Str->Option Value}{base:cc}{N:List Str}{qual:Str}{scope:db}{fa:Addr}{cdv:Value}{A:bX}{outer:List Env}{s₀:bE}{H₀:Hp}{E:XK}{fld:Addr->Str}
variable{fl:List Fl}{l:List Nat}{cn f:Str}{arg:Expr}{fe:FE}{p pos rpos:Pos}{k:Nat}
end
structure HasMX(P:bP)(w:b8)(K:PySem.W.Frag)(mg:Str->Option Value)(base:cc)(fld:Addr->Str)(n:Nat)(C:Addr)(m:Str)(ps:List Str)(sp:Sp):Prop where
 ex:∃(f:Addr)(fd:ca),FnOk P w K mg base (CXE P w fld) n f fd ps sp/\Binds K fd ps []/\Meth K C m f
 cl:Cls K C
inductive OrW where
 |nx (δ:DS)
 |ex (c:Str) (d:D) (δ:DS)
abbrev FXW:=DS->Option OrW
section
variable{X:Cx}{pins:List (Addr×Obj)}{σ:L2.St}{H:Hp}{s:bE}{fld:Addr->Str}{k:Nat}{f C:Addr}{fd:ca}{ps:List Str}{sp:Sp}{EX:XK}
variable{m:Str}{apos pos pos2:Pos}{o e:Expr}{es:List Expr}{to:TE}{ta:TA}
end
section
variable{X:Cx}{fl:List Fl}{fld:Addr->Str}{n i j:Nat}{x m ic en:Str}{ps cs ns:List Str}{F:List D->Option Or}{C:Addr}{e:Expr}{es:List Expr}{fa:FA}{f:FXW}{p apos pos pos2 np hpos tpos:Pos}{b0 st:cm}{suite:List cm}{fS:Str->D->FS}{sl:List (Option Nat)}{l sw:List Nat}
end
end XI
namespace XI
open L2 My D3 XK
def Am:D->D->Option D:=λx y=>match x,y with
 | .str i,.str j=>some (.bool (!decide (j.cps.toList<i.cps.toList)))
 |_,_=>none
def ab4:R2:=λx y H Q=>∃i j,x = .str i/\y = .str j/\Q (.bl (!decide (j.cps.toList<i.cps.toList))) H
theorem Qm{X:Cx}:OpR X (compareOp .LtE) ab4:=by
 intro pins s σ H x y v u Q I Y Z h;obtain⟨i,j,rfl,rfl,q⟩:=h;obtain⟨t,rfl⟩:=Y;obtain⟨W,rfl⟩:=Z;exact PySem.P.le_str (W8 I q rfl)
theorem Wa{K:PySem.W.Frag}:BrO K ab4 Am:=by
 intro H x y dx X d Q Y Z e q;unfold Am at e;split at e
 ·cases e;obtain rfl:=RA.strE Y;obtain rfl:=RA.strE Z;exact⟨_,_,rfl,rfl,q _ rfl (.bl _)⟩
 ·cases e
end XI
namespace XI
open L2 My D3 XK
noncomputable def slB(fl:List Fl)(sl:List (Option Nat))(l sw:List Nat):Bool:=
 ((cB sl.length).all λi=>match sl[i]? with|some (some _)=>decide (i∈l)|_=>true) &&
 ((cB sl.length).all λi=>(cB sl.length).all λj=>match sl[i]?,sl[j]? with|some (some s),some (some t)=>decide (s≠t)||decide (i=j)|_,_=>true) &&
 decide (sw.length=l.length)&&((cB l.length).all λk=>match l[k]?,sw[k]? with|some i,some s=>decide (sl[i]? = some (some s))|_,_=>true)&&decide sw.Nodup&&(sw.all λs=>decide (fl[s]? = some .N)||decide (fl[s]? = some .W))
theorem Iu{fl:List Fl}{sl:List (Option Nat)}{l sw:List Nat}(h:slB fl sl l sw=true):SlW fl sl l sw:=by
 unfold slB at h;simp only[aM,eZ,eF,decide_eq_true_eq]at h;obtain⟨⟨⟨⟨⟨h1,h2⟩,h3⟩,h4⟩,h5⟩,h6⟩:=h;have lt:∀{α:Type}{l:List α}{i:Nat}{x:α},l[i]? = some x->i<l.length:=λe=>(bN.mp e).1
 refine⟨λi s e=>?_,λi j s e Z=>?_,h3,λk i s e Z=>?_,h5,λs hs=>?_⟩
 ·have:=h1 i (lt e);rw[e]at this;exact of_decide_eq_true this
 ·have:=h2 i (lt e) j (lt Z);rw[e,Z]at this;simpa using this
 ·have:=h4 k (lt e);rw[e,Z]at this;exact of_decide_eq_true this
 ·have:=h6 s hs;simpa using this
theorem gow{f:FS}(h:GoN f):GoW f:=λδ o e=>by
 obtain⟨Z,rfl⟩:=h δ o e;exact⟨λd z=>(by cases z),λc x d z=>(by cases z)⟩
section
variable{i k:Nat}{f g fk:FE}{fw:FW}{fs gs:FS}{ft:FT}{C:Addr}{ns:List Str}
theorem Uo:GoN (bD i f):=λδ o e=>by
 unfold bD at e;split at e
 ·refine bO e λd _ e=>?_
  cases e;exact⟨_,rfl⟩
 ·cases e
theorem Uq:GoN (Fq f):=λδ o e=>by
 refine bO e λd _ e=>?_
 cases e;exact⟨_,rfl⟩
theorem Qn:GoN (Dj fw):=λδ o e=>by
 refine bO e λd _ e=>?_
 cases e;exact⟨_,rfl⟩
theorem Ur:GoN (BR C ns k i f):=λδ o e=>by
 refine bO e λ_ _ e=>?_
 refine bO e λ_ _ e=>?_
 refine bO e λ_ _ e=>?_
 split at e
 ·split at e
  ·cases e;exact⟨_,rfl⟩
  ·cases e
 ·cases e
end
end XI
namespace XI
open L2 My D3 XK XC
section
variable{P:bP}{w:b8}{K:PySem.W.Frag}{mg:Str->Option Value}{base:cc}{N:List Str}{qual:Str}{scope:db}{fa:Addr}{cdv:Value}{A:bX}{outer:List Env}{s₀:bE}{H₀:Hp}{E:XK}{fld:Addr->Str}
variable{fl:List Fl}{l:List Nat}{st:cm}{f:FXW}
end
section
variable{X:Cx}{E:XK}{fl:List Fl}{fld:Addr->Str}{n i j:Nat}{x m:Str}{ps ns:List Str}{F:List D->Option Or}{C:Addr}{c e:Expr}{es:List Expr}{fa:FA}{f:FW}{f1 f2:FXW}{ft:FT}{p apos pos pos2:Pos}{s1 s2:cm}{sl:List (Option Nat)}{l sw:List Nat}
end
def Qo(K:PySem.W.Frag)(fl:List Fl)(l:List Nat)(G:Gh)(O:Ends):Oc->Prop
 | .ex _ _ (.tuple (r::ps))=>∀v H' T',RA K ok1 true H' v r->EndP K l G H' T' ps->O.rt v H'
 | .nx Z=>zy K fl G O (.nx Z)
 |_=>False
theorem Qo.nx{K:PySem.W.Frag}{fl:List Fl}{l:List Nat}{G:Gh}{O:Ends}{t:D3.St->Hp->Prop}{o:Oc}(q:Qo K fl l G O o)(hn:∀δ,o ≠ .nx δ):Qo K fl l G {O with nx:=t} o:=by
 cases o with
 |nx δ=>exact absurd rfl (hn δ)
 |ex c f d=>
  cases d with
  |tuple xs=>cases xs<;>exact q
  |_=>exact q
 |_=>exact q
section
variable{X:Cx}{fl:List Fl}{l:List Nat}{st:cm}{sts:List cm}{e:Expr}{pos:Pos}{fs gs:FS}{f:FE}
end
section
variable{X:Cx}{fl:List Fl}{a b e:Expr}{es:List Expr}{pos p:Pos}{x:Str}{ps:List Str}{n:Nat}{F:List D->Option D}{fa:FA}{sl:List (Option Nat)}{l sw:List Nat}{f:FW}{fb:FE}{op:eg}{r:R2}{g:D->D->Option D}
end
end XI
namespace XI
open L2 My D3 XK XC
structure At2(K:PySem.W.Frag)(i:Nat)(a:Addr)(v:V)(d:D)(σ:L2.St)(H:Hp):Prop where
 sl:σ[i]? = some (some (.ref a))
 ra:RA K ok1 true H v d
section
variable{K:PySem.W.Frag}{fl:List Fl}{i:Nat}{a:Addr}{v:V}{d:D}{σ:L2.St}{H H':Hp}
theorem At2.grow(h:At2 K i a v d σ H)(s:Same H H'):At2 K i a v d σ H':=⟨h.sl,h.ra.same s⟩
theorem At2.set{j:Nat}{x:Option V}(h:At2 K i a v d σ H)(n:i≠j):At2 K i a v d (σ.set j x) H:=⟨by rw[aJ (ce n)];exact h.sl,h.ra⟩
end
def Yg(K:PySem.W.Frag)(fl:List Fl)(z:Sc)(l:List Nat)(G:Gh)(O:Ends):Oc->Prop
 | .nx Z=>∀Y σ' H',Rel K fl G Y σ' H' Z->At2 K z.i z.a z.v z.d σ' H'->O.nx σ' H'
 | .ex _ _ (.tuple (r::ps))=>∀y H' T',RA K ok1 true H' y r->EndP K l G H' T' ps->O.rt y H'
 |_=>False
theorem Yg.nx{K:PySem.W.Frag}{fl:List Fl}{z:Sc}{l:List Nat}{G:Gh}{O:Ends}{t:D3.St->Hp->Prop}{o:Oc}(q:Yg K fl z l G O o)(hn:∀δ,o ≠ .nx δ):Yg K fl z l G {O with nx:=t} o:=by
 cases o with
 |nx δ=>exact absurd rfl (hn δ)
 |ex c f d=>
  cases d with
  |tuple xs=>cases xs<;>exact q
  |_=>exact q
 |_=>exact q
section
variable{X:Cx}{fl:List Fl}{z:Sc}{l:List Nat}{e a b c:Expr}{es rest:List Expr}{st:cm}{sts body orelse:List cm}{k:Kd}{f fa fb:FE}{fs gs:FS}{ft gt:FT}{fr:FA}{pos:Pos}
end
section
variable{X:Cx}{fl:List Fl}{fld:Addr->Str}{i:Nat}{ic en:Str}{cs:List Str}{f:FXW}{np hpos tpos:Pos}{b0 st:cm}{suite:List cm}{fS:Str->D->FS}{l:List Nat}
end
section
variable{X:Cx}{fl:List Fl}{fld:Addr->Str}{c f ic n:Str}{ts:List (Str×Bool)}{i:Nat}{a dx:Addr}{oa od:Obj}{v:V}{d:D}{b0:cm}{suite:List cm}{fS:Str->D->FS}{l:List Nat}
end
end XI
namespace D3
end D3
namespace XN
open L2 My D3
section
variable{X:Cx}
end
end XN
namespace D3
noncomputable def Iv(f:FE)(lo hi:FO):FE:=λδ=>(f δ).bind λx=>(lo δ).bind λa=>(hi δ).bind λb=>match x with
 | .str z=>if(Txt.slice z a b).length<=1000000 then some (.str (Txt.slice z a b))else none
 |_=>none
end D3
namespace XW
open L2 My D3
section
variable{prog:bP}{w:b8}{A:bX}{E:Value->bE->Prop}{s:bE}
theorem Gp{v:Value}{o:Option Int}(h:d1 v o):∃p:Option (Int×Tok),v=partValue p/\o=p.map (·.1):=by
 cases h with
 |none=>exact⟨none,rfl,rfl⟩
 |int i t=>exact⟨some (i,t),rfl,rfl⟩
theorem Dk{z:Str}{t:Tok}{sl:Addr}{Y O:Value}{lo hi:Option Int}{Q:Value->bE->Prop}(hs:s.heap.IsSliceOf sl Y O .none)(pl:d1 Y lo)(pu:d1 O hi)(hz:(Txt.slice z lo hi).length<=sizeLine)
 (h:∀t' k,Q (.str (Txt.slice z lo hi) t') {s with toks:=k}):wpAny (model prog w) A (getItem (.str z t) (.ref sl)) Q E s:=by
 obtain⟨p1,rfl,rfl⟩:=Gp pl;obtain⟨p2,rfl,rfl⟩:=Gp pu;have ps:s.heap.IsSlice sl p1 p2 none:=hs;unfold getItem
 try with_reducible refine ak ?_
 first|refine aa (af ?_)|skip
 refine aa (am (name:=dA "__getitem__") (bc s z t) slot_str_getitem (bx slot_str_getitem (bc s z t) F.entry_str_getitem (F.args_str_getitem_2 _ _) (meets_str_getitem_slice z t sl p1 p2 none rfl) ⟨ps,?_⟩));have e:((none:Option (Int×Tok)).map (·.1)).getD 1=1:=rfl;unfold sliceMade;split
 ·next hc=>
  rw[Made.post.eq_1];refine af ?_;have Z:Txt.slice z (p1.map (·.1)) (p2.map (·.1))=z:=if_pos hc;have:=h t s.toks;rw[Z]at this;exact this
 ·next hc=>
  have Z:Txt.slice z (p1.map (·.1)) (p2.map (·.1))=⟨(List.filterMap (λi=>z.cps[i]?) (slicePicked z p1 p2 none)).toArray⟩:=if_neg hc;rw[Made.post.eq_3];rw[Z]at hz;refine⟨hz,af ?_⟩;have:=h s.toks (s.toks+1);rw[Z]at this;exact this
end
section
variable{X:Cx}{fl:List Fl}{a b e:Expr}{fa fb fe f:FE}{pos apos cpos:Pos}
def ak1:V->Option Int->Option Int->Hp->VK->Prop:=λx lo hi H Q=>∃z:Str,x = .str z/\(Txt.slice z lo hi).length<=sizeLine/\Q (.str (Txt.slice z lo hi)) H
theorem Yh:SlR X ak1:=by
 intro pins s σ H x v T U lo hi sl Q I Y hs pl W h;obtain⟨z,rfl,V,q⟩:=h;obtain⟨t,rfl⟩:=(show ∃t,v=dy z t from Y);exact⟨"str", _,slot_str_getitem.lookup,bc s z t,Dk hs pl W V λZ k=>⟨.str _,H,I.tok _,⟨Z,rfl⟩,q⟩⟩
theorem Iw{lo hi:Option Expr}{p2:Pos}{fl1 O:FO}(h:DE X fl .P a f)(h1:PO X lo (tDO X.K fl fl1))(h2:PO X hi (tDO X.K fl O)):DE X fl .FC (.Subscript a (.Slice lo hi none p2) pos) (Iv f fl1 O):=PE.imp (yX Yh h h1 h2) λσ H Q h=>by
 refine cW h λG ow δ d R Z q=>?_
 refine bO Z λx M Z=>?_
 refine bO Z λU N Z=>?_
 refine bO Z λV S e4=>?_
 refine⟨G,ow,δ,x,R,M,λv H1 s1 W=>⟨G,ow,δ,U,R.grow s1,N,λH2 s2=>⟨G,ow,δ,V,R.grow (s1.trans s2),S,λL Y=>?_⟩⟩⟩;split at e4
 ·split at e4
  ·next T=>
   cases e4;obtain rfl:=RA.strE W;exact⟨_,rfl,bM T (by decide),q _ _ ((s1.trans s2).trans Y) (.inl ⟨rfl,.str _⟩)⟩
  ·cases e4
 ·cases e4
end
end XW
namespace XI
open L2 My D3
section
variable{X:Cx}
end
end XI
namespace XI
open L2 My D3
section
variable{X:Cx}{fl:List Fl}{l:List Nat}{a b c:Expr}{rest:List Expr}{body orelse:List cm}{pos:Pos}{fw gw:FTW}{fs gs:FS}
end
end XI
namespace XI
open D3
end XI
namespace XI
open L2 My D3 XK
theorem Qq{X:Cx}{fl:List Fl}{k:Kd}{e:Expr}:DE X fl k e (λ_=>none):=λ_ _ _ _ _ _ h=>by
 obtain⟨_,_,_,_,_,h,_⟩:=h
 cases h
theorem FV.flat2{K:PySem.W.Frag}{H:Hp}:(∀{v:V}{d:D},FV K H v d->flat d=true)/\∀{v:List V}{d:List D},FVs K H v d->flats d=true:=
 FV.ind rfl (λ_=>rfl) (λ_=>rfl) (λ_=>rfl) (λ_ q=>q) (λ_ _ r q z=>by rw[z,zq (by rw[<-r.len,aG,aG])];exact q) rfl λa q=>by rw[flats,a,q];rfl
abbrev EnS:=List (Str×List (D×D))
def etP(S:EnS):List (D×D):=S.map λq=>(.str q.1,.dict q.2)
noncomputable def etD:List (D×D)->Option EnS
 |[]=>some []
 | (.str x,.dict y)::r=>(etD r).map ((x,y) :: ·)
 |_=>none
theorem Iz:∀{kvs:List (D×D)}{S:EnS},etD kvs=some S->kvs=etP S
 |[],S,h=>by cases h;rfl
 | (k,v)::r,S,h=>by
  unfold etD at h;split at h
  ·next e=>cases e
  ·next x y Z e=>
   cases e
   cases q:etD r with
   |none=>rw[q]at h;cases h
   |some Y=>
    rw[q]at h
    cases h;rw[Iz q];rfl
  ·cases h
theorem xX:∀S:EnS,etD (etP S)=some S
 |[]=>rfl
 |q::S=>by
  show(etD (etP S)).map _=_;rw[xX S];rfl
theorem IK(S:EnS):isI (etP S)=false:=by cases S<;>rfl
section
variable{K:PySem.W.Frag}{H:Hp}
theorem uU{S:EnS}{q:Str×List (D×D)}{ks:List (Key×V)}(h:TVs K H ks (etP (q::S))):∃v r,ks=(.inr q.1,v)::r/\FV K H v (.dict q.2)/\TVs K H r (etP S):=by
 have h:TVs K H ks ((.str q.1,.dict q.2)::etP S):=h
 cases h with
 |cons2 t r=>
  rcases t with⟨_,e⟩|⟨b,ds,rfl,e,h3,h4⟩|⟨_,_,h⟩
  ·cases e
  ·cases e
  ·exact⟨_,_,rfl,h,r⟩
theorem Ku{S:EnS}{q:Str×List (D×D)}{v:V}{r:List (Key×V)}(h:FV K H v (.dict q.2))(g:TVs K H r (etP S)):TVs K H ((.inr q.1,v)::r) (etP (q::S)):=
 TVs.cons2 (.inr (.inr ⟨_,rfl,h⟩)) g
theorem Wb{u:HO}{S:EnS}(g:DH K H u (etP S)):∃ks,u = .dK ks/\TVs K H ks (etP S):=by
 rcases g with⟨h,rfl⟩|⟨ks,rfl,q⟩|⟨k,ks,rfl,q⟩
 ·cases S with
  |nil=>exact⟨[],rfl,.nil⟩
  |cons q S=>cases h
 ·exact⟨ks,rfl,q⟩
 ·cases S with
  |nil=>cases q
  |cons p S=>
   have q:TTs H (k::ks) ((.str p.1,.dict p.2)::etP S):=q
   cases q
def rN(S:EnS)(k:Str):Option (List (D×D)):=(S.find? λq=>decide (q.1=k)).map (·.2)
noncomputable def IV(S:EnS)(k:Str)(v:List (D×D)):EnS:=if(S.any λq=>decide (q.1=k))=true then S.map (λq=>if q.1=k then(q.1,v)else q)else S++[(k,v)]
theorem pZ{S:EnS}{q:Str×List (D×D)}{k:Str}:rN (q::S) k=if q.1=k then some q.2 else rN S k:=by
 unfold rN;rw[List.find?_cons];by_cases c:q.1=k<;>simp[c]
theorem Dm(k:Str):∀{S:EnS}{ks:List (Key×V)},TVs K H ks (etP S)->(vQ ks (.inr k)).isSome=(rN S k).isSome/\∀p,rN S k=some p->∃v,vQ ks (.inr k)=some v/\FV K H v (.dict p)
 |[],ks,h=>by
  have h:TVs K H ks []:=h
  cases h;exact⟨rfl,λp e=>by cases e⟩
 |q::S,ks,h=>by
  obtain⟨v,r,rfl,hb,g⟩:=uU h;by_cases c:q.1=k
  ·rw[vR (by rw[c]),pZ,if_pos c];exact⟨rfl,λp e=>by cases e;exact⟨v,rfl,hb⟩⟩
  ·rw[vU (λz=>c (by injection z)),pZ,if_neg c];exact Dm k g
theorem Qs{k:Str}:∀{S:EnS}{ks:List (Key×V)},TVs K H ks (etP S)->(ks.any λO=>decide (O.1=(.inr k:Key)))=S.any λq=>decide (q.1=k)
 |[],ks,h=>by
  have h:TVs K H ks []:=h
  cases h;rfl
 |q::S,ks,h=>by
  obtain⟨v,r,rfl,hb,g⟩:=uU h;rw[kj,kj,Qs g];congr 1;simp
theorem IW{k:Str}{y:List (D×D)}{w:V}(hb:FV K H w (.dict y)):∀{S:EnS}{ks:List (Key×V)},TVs K H ks (etP S)->TVs K H (ks.map λO=>if O.1=(.inr k:Key)then(O.1,w)else O) (etP (S.map λq=>if q.1=k then(q.1,y)else q))
 |[],ks,h=>by
  have h:TVs K H ks []:=h
  cases h;exact .nil
 |q::S,ks,h=>by
  obtain⟨v,r,rfl,Z,g⟩:=uU h;rw[bB,bB];by_cases c:q.1=k
  ·rw[if_pos (by rw[c]),if_pos c];exact Ku (q:=(q.1,y)) hb (IW hb g)
  ·rw[if_neg (λz=>c (by injection z)),if_neg c];exact Ku Z (IW hb g)
theorem Qt{k:Str}{y:List (D×D)}{w:V}(hb:FV K H w (.dict y)):∀{S:EnS}{ks:List (Key×V)},TVs K H ks (etP S)->TVs K H (ks++[(.inr k,w)]) (etP (S++[(k,y)]))
 |[],ks,h=>by
  have h:TVs K H ks []:=h
  cases h;exact Ku (q:=(k,y)) hb .nil
 |q::S,ks,h=>by
  obtain⟨v,r,rfl,Z,g⟩:=uU h;exact Ku Z (Qt hb g)
theorem Yi{k:Str}{y:List (D×D)}{w:V}(hb:FV K H w (.dict y)){S:EnS}{ks:List (Key×V)}(h:TVs K H ks (etP S)):TVs K H (putK ks (.inr k) w) (etP (IV S k y)):=by
 unfold putK IV;rw[Qs h];split
 ·exact IW hb h
 ·exact Qt hb h
theorem I_:∀{S:EnS}{ks:List (Key×V)},TVs K H ks (etP S)->ks.length=S.length
 |[],ks,h=>by
  have h:TVs K H ks []:=h
  cases h;rfl
 |q::S,ks,h=>by
  obtain⟨v,r,rfl,Z,g⟩:=uU h;rw[bC,bC,I_ g]
theorem wY{ok:Ok}{pl:Bool}{v:V}{kvs:List (D×D)}{S:EnS}(e:etD kvs=some S)(r:RA K ok pl H v (.dict kvs)):∃a ks,v = .ref a/\L2.Rd H a (.dK ks)/\TVs K H ks (etP S):=by
 obtain rfl:=Iz e;obtain⟨a,u,rfl,h1,h2⟩:=r.dicU (IK S);obtain⟨ks,rfl,q⟩:=Wb h2;exact⟨a,ks,rfl,h1,q⟩
theorem Us{H':Hp}{ks:List (Key×V)}{kvs:List (D×D)}(q:TVs K H ks kvs)(e:Same H H'):TVs K H' ks kvs:=q.imp λ_ _ _ h=>e _ _ h
theorem Dp{H':Hp}{v:V}{d:D}(q:FV K H v d)(e:Same H H'):FV K H' v d:=(FV.imp2 λ_ _ _ h=>e _ _ h).1 q
theorem Qu{ok:Ok}{pl:Bool}{H':Hp}:∀{S:EnS}{ks:List (Key×V)},TVs K H ks (etP S)->RAs K ok pl H' (ks.map λq=>kV q.1) (S.map λq=>.str q.1)
 |[],ks,h=>by
  have h:TVs K H ks []:=h
  cases h;exact .nil
 |q::S,ks,h=>by
  obtain⟨v,r,rfl,hb,g⟩:=uU h;exact .cons (.str q.1) (Qu g)
theorem Qw{ok:Ok}{pl:Bool}{H':Hp}(s:Same H H'):∀{S:EnS}{ks:List (Key×V)},TVs K H ks (etP S)->RAs K ok pl H' (ks.map (·.2)) (S.map λq=>.dict q.2)
 |[],ks,h=>by
  have h:TVs K H ks []:=h
  cases h;exact .nil
 |q::S,ks,h=>by
  obtain⟨v,r,rfl,hb,g⟩:=uU h;exact .cons (FV.ra2.1 (Dp hb s)) (Qw s g)
end
def Ut:D->D->Option D:=λx y=>match x,y with
 | .str k,.dict kvs=>(etD kvs).bind λS=>some (.bool (rN S k).isSome)
 |_,_=>none
def yK:D->D->Option D:=λx y=>match x,y with
 | .str k,.dict kvs=>(etD kvs).bind λS=>some (.bool (!(rN S k).isSome))
 |_,_=>none
def Kv:D->D->Option D:=λy x=>match x,y with
 | .str k,.dict kvs=>(etD kvs).bind λS=>(rN S k).bind λv=>some (.dict v)
 |_,_=>none
def Dq:D->Option D
 | .dict kvs=>(etD kvs).bind λS=>some (.list (S.map λq=>.str q.1))
 |_=>none
def Dr:D->Option D
 | .dict kvs=>(etD kvs).bind λS=>some (.list (S.map λq=>.dict q.2))
 |_=>none
theorem ab5{K:PySem.W.Frag}:BrO K ab0 Ut:=by
 intro H x y dx U d Q Y Z e q;unfold Ut at e;split at e
 ·next k kvs=>
  refine bO e λS V X=>?_
  cases X;obtain rfl:=RA.strE Y;obtain⟨a,ks,rfl,h,g⟩:=wY V Z;refine⟨a,_,rfl,.inl ⟨_,.inr k,h,rfl,rfl⟩,?_⟩;rw[(Dm k g).1];exact q _ rfl (.bl _)
 ·cases e
theorem Qx{K:PySem.W.Frag}:BrO K Ka yK:=by
 intro H x y dx U d Q Y Z e q;unfold yK at e;split at e
 ·next k kvs=>
  refine bO e λS V X=>?_
  cases X;obtain rfl:=RA.strE Y;obtain⟨a,ks,rfl,h,g⟩:=wY V Z;refine⟨a,_,rfl,.inl ⟨_,.inr k,h,rfl,rfl⟩,?_⟩;rw[(Dm k g).1];exact q _ rfl (.bl _)
 ·cases e
section
variable{X:Cx}{fl:List Fl}{a b e ke:Expr}{fa fb f fk:FE}{pos p apos cpos:Pos}{x m:Str}{i k:Nat}{C:Addr}{ns:List Str}
theorem Uu(O:X.A.units+1<cLine)(ha:DE X fl .P a fa)(hb:DE X fl .P b fb)(hs:XM b):DE X fl .FC (.Subscript a b pos) (dOp Kv fa fb):=PE.imp (Ue O ha hb hs) λσ H Q h=>by
 refine cW h λG ow δ d R U q=>?_
 refine D3.ex2 (zB U) λx y M N Z=>?_
 refine⟨G,ow,δ,x,R,M,λv H1 s1 W=>⟨G,ow,δ,y,R.grow s1,N,λu H2 s2 Y=>?_⟩⟩;unfold Kv at Z;split at Z
 ·next k kvs=>
  refine bO Z λS e4 e5=>?_
  refine bO e5 λn e6 T=>?_
  cases T;obtain rfl:=RA.strE Y;obtain⟨p,ks,rfl,V,g⟩:=wY e4 W;obtain⟨c,hc,hb⟩:=(Dm k g).2 n e6;exact⟨p,c,rfl,.inl ⟨_,.inr k,J_ s2 V,rfl,hc.symm⟩,q _ H2 (s1.trans s2) (.inl ⟨FV.flat2.1 hb,FV.ra2.1 (Dp hb s2)⟩)⟩
 ·cases Z
theorem Qy(hc:X.still=true)(h:DE X fl .P e f)(hg:Gl X "list")(hm:X.mg "list"=none)
 (Y:starEach [e] X.env=(false,eval e X.env)::starEach [] X.env:=by rfl) (O:(backTo pos (starEach [] X.env)).any (·.1)=false:=by rfl):DE X fl .FC (.Call (.Name "list" p) [e] [] pos) (dUn Dq f):=
 PE.imp (pP (zN hc) hg hm boot_list (kO h nC Y) (by decide) (by decide) Y O) λσ H Q h=>by
 refine cW h λG ow δ d R V q=>?_
 refine bO V λx T Z=>?_
 refine⟨G,ow,δ,x,R,T,λv H1 s1 W=>?_⟩;unfold Dq at Z;split at Z
 ·next kvs=>
  refine bO Z λS eS U=>?_
  cases U;obtain⟨a,ks,rfl,hx,g⟩:=wY eS W;exact⟨a,ks,rfl,hx,λl hn=>q _ _ (s1.trans (cN hn _)) (.inr ⟨l,_,_,rfl,rfl,s1.free hn,cM,Qu g⟩)⟩
 ·cases Z
theorem Qz(hc:X.still=true)(h:DE X fl .P e f)(hg:Gl X "list")(hm:X.mg "list"=none)
 (Y:attributeBase e "values" X.env (eval e X.env)=eval e X.env:=by rfl) (O:(apos.endLine==cpos.line)=true:=by rfl)
 (he:starEach [.Call (.Attribute e "values" apos) [] [] cpos] X.env=(false,eval (.Call (.Attribute e "values" apos) [] [] cpos) X.env)::starEach [] X.env:=by exact j6 rfl) (hpl:(backTo pos (starEach [] X.env)).any (·.1)=false:=by rfl):DE X fl .FC (.Call (.Name "list" p) [.Call (.Attribute e "values" apos) [] [] cpos] [] pos) (dUn Dr f):=
 PE.imp (pP (Io hc) hg hm boot_list (kO (Um h Y O) nC he) (by decide) (by decide) he hpl) λσ H Q h=>by
 refine cW h λG ow δ d R T q=>?_
 refine bO T λx M Z=>?_
 refine⟨G,ow,δ,x,R,M,λv H1 s1 V=>?_⟩;unfold Dr at Z;split at Z
 ·next kvs=>
  refine bO Z λS eS N=>?_
  cases N;obtain⟨a,ks,rfl,hx,g⟩:=wY eS V;refine⟨a,ks,rfl,hx,λr W=>⟨r,a,ks,rfl,cM,J_ (cN W _) hx,λU hn=>?_⟩⟩;have sm:=(cN W (Kq r a)).trans (cN hn (.lst (ks.map (·.2))));exact q _ _ (s1.trans sm) (.inr ⟨U,_,_,rfl,rfl,(s1.trans (cN W _)).free hn,cM,Qw sm g⟩)
 ·cases Z
def zO(C:Addr)(ns:List Str)(k i:Nat)(fk f:FE):FS:=λδ=>(f δ).bind λd=>(aj i δ).bind λy=>(isC C ns y).bind λds=>(fk δ).bind λkd=>match ds[k]?,kd,d with
 |some (.dict kvs),.str x,.dict v=>if flat (.dict v)=true then(etD kvs).bind λS=>if S.length<1000 then some (.nx (δ.set i (some (.d (.dict (oY C ns (ds.set k (.dict (etP (IV S x v))))))))))else none else none
 |_,_,_=>none
theorem QB{vpos O spos:Pos}(hu:X.A.units+1<cLine)(hfl:fl[i]? = some .N\/fl[i]? = some .W)(h:DE X fl .P e f)(hke:DE X fl .P ke fk)(hN:X.N[i]? = some x)(c:Cls X.K C)(na:fL X.K C m)(hk:ns[k]? = some m)(hn:∀j,j<k->ns[j]? ≠ some m)
 (hv:Vis X.env.scope x:=by first|exact Or.inl rfl|exact Or.inr (Or.inl rfl)|exact Or.inr (Or.inr rfl)) (hd:(x==("__debug__":Str))=false:=by decide) (hcd:(x==("__classdict__":Str))=false:=by decide)
 (hb:attributeBase (.Name x vpos) m X.env (eval (.Name x vpos) X.env)=eval (.Name x vpos) X.env:=by rfl)
 (hs:swapsWith e (some (.Subscript (.Attribute (.Name x vpos) m O) ke spos)) pos.line X.env=pure false:=by rfl) :
 DS1 X fl (.Assign [.Subscript (.Attribute (.Name x vpos) m O) ke spos] e pos) (zO C ns k i fk f):=
 PS.imp (Ug hu (Hr (nA hN hv hd hcd) hb) hke h hs) λDn σ H hh=>by
 refine cW hh λG ow δ o R Y q=>?_
 refine bO Y λd e3 F=>?_
 refine bO F λy e1 I=>?_
 refine bO I λds e2 J=>?_
 refine bO J λkd e4 V=>?_
 clear Y F I J;split at V
 case h_2=>cases V
 next kvs U n em=>
 by_cases Z:flat (.dict n)=true
 case neg=>rw[if_neg Z]at V;cases V
 rw[if_pos Z]at V;refine bO V λS eS Y=>?_
 by_cases hc:S.length<1000
 case neg=>rw[if_neg hc]at Y;cases Y
 rw[if_pos hc]at Y
 cases Y;obtain rfl:=Iz eS;have isT:isN fl[i]? = true:=by rcases hfl with y|y<;>(rw[y];rfl)
 have r:=lK e1;have hi:i<δ.length:=(bN.mp r).1;obtain⟨v,g,c2,l⟩:=R.nr i y isT r;obtain⟨p,dx,fs,rfl,M,B,Q,D⟩:=Di c2 e2;obtain⟨a,u,g1,g2,g3,g4,g5⟩:=Qh (IK S) D em;obtain⟨ks,rfl,t⟩:=Wb g3;obtain⟨w,l1,l2⟩:=tO (fs:=fs) (m:=m) (k:=k) (by rw[Q];exact hk) λj hj=>by rw[Q];exact hn j hj
 rw[g1]at l2
 cases l2;refine⟨G,ow,δ,_,R,e3,λT H1 s1 r1=>?_⟩;have fv:=RA.fv2.1 r1 Z;refine⟨_,g,p,C,dx,fs,.ref a,rfl,s1 _ _ M,c,na,l1,G,ow,δ,_,R.grow s1,e4,λu2 L E r3=>?_⟩;obtain rfl:=RA.strE r3;have s:=s1.trans E;have h3:L a=some (.dK ks):=s _ _ g2;obtain⟨a',u',f1,f2,f3,f4,f5⟩:=Qh (IK S) (D.same s) em;rw[g1]at f1
 cases f1;refine⟨a,_,rfl,Ii.k (k:=.inr U) h3 (by rw[I_ t];exact nO hc (by decide)),?_⟩;have g0:TVs X.K L (putK ks (.inr U) T) (etP (IV S U n)):=Yi (Dp fv E) (Us t s);have g':DH X.K (L2.upd L a (.dK (putK ks (.inr U) T))) (.dK (putK ks (.inr U) T)) (etP (IV S U n)):=DH.upd (.inr (.inl ⟨_,rfl,g0⟩)) h3;exact q (owN ow i (ow.n i)) σ _ (V8 (R.grow s) hfl hi g (Gk f4) (.ins (by rw[bW (jH (s _ _ M) h3 (by intro z;cases z))];exact s _ _ M) (by rw[bW (jH (s _ _ B) h3 (by intro z;cases z))];exact s _ _ B) (f5 l _ _ g') (by rw[Q])) (λb hb=>.inl hb) l)
end
end XI
namespace D3
end D3
namespace D3
end D3
namespace D3
end D3
namespace D3
end D3
namespace D3
def Ds(f:FE)(fl O:FO):FE:=λδ=>(f δ).bind λx=>(fl δ).bind λlo=>(O δ).bind λhi=>match x with
 | .tuple l=>if flats l=true then some (.tuple (cuD l lo hi))else none
 |_=>none
end D3
namespace HT
open L2
section
variable{prog:bP}{w:b8}{A:bX}{E:Value->bE->Prop}{s:bE}
theorem Uv{t sl:Addr}{items:Array Value}{vl vu:Value}{lo hi:Option Int}{Q:Value->bE->Prop}(O:IsTup s.heap t items)(hs:s.heap.IsSliceOf sl vl vu .none)(pl:d1 vl lo)(pu:d1 vu hi)
 (hw:sIx items.size 0 lo=0/\sIx items.size items.size hi=items.size) (h:Q (.ref t) s):wpAny (model prog w) A (getItem (.ref t) (.ref sl)) Q E s:=by
 obtain⟨os,Y,X,W⟩:=id hs;have ty:s.TypeIs (.ref sl) "slice" := ⟨os,Y,X⟩;unfold getItem
 try with_reducible refine ak ?_
 first|refine aa (af ?_)|skip
 refine aa (wpAny_sequenceKey O.typeIs (by decide) (aa (am (name:=dA "__getitem__") O.typeIs cw (az cw O.typeIs entry_tuple_getitem ?_ (args_tuple_getitem _ _)))));refine aa (m:=ei (.ref t)) (tupleItemsOf_ O (aa (be ty ?_)));rw[if_pos (by decide)];refine aa (pQ hs pl pu ?_);have Z:(((sIx items.size 0 lo:Nat):Int)==0&&(1:Int)==1&&(sIx items.size items.size hi-sIx items.size 0 lo)==items.size)=true:=by
  rw[hw.1,hw.2];simp
 show wpAny _ _ (if(((sIx items.size 0 lo:Nat):Int)==0&&(1:Int)==1&&(sIx items.size items.size hi-sIx items.size 0 lo)==items.size)=true then _ else _) _ _ s;rw[if_pos Z];refine aa (aa (be O.typeIs (af ?_)));rw[if_pos (by decide)];exact aa (bv (af ⟨_,rfl,af h⟩))
end
end HT
namespace D3
open L2 My
def ak2(K:PySem.W.Frag):V->Option Int->Option Int->Hp->VK->Prop:=λx lo hi H Q=>∃a xs,x = .ref a/\SqT K H a xs/\HT.sIx xs.length 0 lo=0/\HT.sIx xs.length xs.length hi=xs.length/\Q (.ref a) H
theorem QC{X:Cx}:SlR X (ak2 X.K):=by
 intro pins s σ H x v U V lo hi sl Q I Y hs pl W h;obtain⟨a,xs,rfl,hx,h1,h2,q⟩:=h
 cases Y;obtain⟨its,r,Z,T⟩:=I.tuple hx;have hlen:its.toArray.size=xs.length:=by rw[bF];exact r.length.symm
 exact⟨"tuple", _,PyProof.Rows.slot_tuple_getitem.lookup,Z.typeIs,HT.Uv Z hs pl W (by rw[hlen];exact⟨h1,h2⟩) ⟨.ref a,H,I,rfl,q⟩⟩
section
variable{X:Cx}{fl:List Fl}{a e:Expr}{f:FE}{pos:Pos}
theorem wZ{l:List D}(h:flats l=true)(lo hi:Option Int):flats (cuD l lo hi)=true:=by
 have Y:∀(n:Nat)(l:List D),flats l=true->flats (l.drop n)=true:=λn=>by
  induction n with
  |zero=>exact λl h=>h
  |succ n Z=>
   intro l h
   cases l with
   |nil=>rfl
   |cons d l=>rw[flats,aM]at h;exact Z l h.2
 have tk:∀(n:Nat)(l:List D),flats l=true->flats (l.take n)=true:=λn=>by
  induction n with
  |zero=>exact λl h=>by simp[flats]
  |succ n Z=>
   intro l h
   cases l with
   |nil=>rfl
   |cons d l=>
    rw[flats,aM]at h;rw[List.take_succ_cons,flats,aM];exact⟨h.1,Z l h.2⟩
 exact tk _ _ (Y _ _ h)
theorem QD{lo hi:Option Expr}{p2:Pos}{fl1 fh:FO}(h:DE X fl .P a f)(h1:PO X lo (tDO X.K fl fl1))(h2:PO X hi (tDO X.K fl fh)):DE X fl .FC (.Subscript a (.Slice lo hi none p2) pos) (Ds f fl1 fh):=PE.imp (yX (QC.or W_) h h1 h2) λσ H Q h=>by
 refine cW h λG ow δ d R S q=>?_
 refine bO S λx F S=>?_
 refine bO S λV I S=>?_
 refine bO S λW J e4=>?_
 refine⟨G,ow,δ,x,R,F,λv H1 s1 L=>⟨G,ow,δ,V,R.grow s1,I,λH2 s2=>⟨G,ow,δ,W,R.grow (s1.trans s2),J,λE M=>?_⟩⟩⟩;obtain⟨l,rfl⟩:∃l,x = .tuple l:=by
  cases x<;>first|exact⟨_,rfl⟩|cases e4
 dsimp only at e4;by_cases Z:flats l=true
 case neg=>rw[if_neg Z]at e4;cases e4
 rw[if_pos Z]at e4
 cases e4;obtain⟨p,xs,rfl,hx,O⟩:=L.tupE0;have Y:=s2.trans M;have ln:xs.length=l.length:=O.length;have U:lF X.K E p xs:=lF.same Y hx;have T:=O.same Y;by_cases hw:HT.sIx xs.length 0 V=0/\HT.sIx xs.length xs.length W=xs.length
 ·refine .inl ⟨p,xs,rfl,U.sq,hw.1,hw.2,q _ _ (s1.trans Y) (.inl ⟨wZ Z V W,?_⟩)⟩;have:cuD l V W=l:=by
   unfold cuD;rw[<-ln,<-CV,<-CV,hw.1,hw.2,ln];simp
  rw[this];exact .tup U (RAs.flat Z T)
 ·refine .inr ⟨p,xs,rfl,U.sq,hw,λpn N=>q _ _ ((s1.trans Y).trans (cN N _)) (.inl ⟨wZ Z V W,?_⟩)⟩;exact .tup (.inl cM) (RAs.flat (wZ Z V W) ((T.same (cN N _)).cut V W))
end
end D3
namespace XI
open L2 My D3 XK
def Kw:List D->Option D
 |[.dict kvs]=>(etD kvs).bind λS=>some (.int (S.length:Int))
 |_=>none
section
variable{X:Cx}{fl:List Fl}{a b e:Expr}{fa fb f:FE}{pos p:Pos}
theorem Mu:jP X (.builtin "len") (λxs H Q=>∃(p:Addr)(ks:List (Key×V)),xs=[.ref p]/\L2.Rd H p (.dK ks)/\Q (.int ks.length) H):=by
 intro pins s σ H xs us Q I r h;obtain⟨p,ks,rfl,hq,q⟩:=h;obtain⟨u,rfl,Z⟩:=vals1 r
 cases Z;obtain⟨h1,h2,vs,h3,h4⟩:=uy I.hok hq;have hn:=uM;have hl:=h3.length;have hs:sizeLine=16777216:=sizeLine_eq;exact call_len_dict h2 h4 (by rw[<-hl];omega) ⟨.int ks.length,H,I.tok _,⟨_,by rw[hl]⟩,q⟩
theorem Yj{K:PySem.W.Frag}:BrC K (λxs H Q=>∃(p:Addr)(ks:List (Key×V)),xs=[.ref p]/\L2.Rd H p (.dK ks)/\Q (.int ks.length) H) Kw:=by
 intro H xs ds d Q r e q;unfold Kw at e;split at e
 ·next kvs=>
  refine bO e λS U X=>?_
  cases X
  cases r with
  |cons Y Z=>
   cases Z;obtain⟨a,ks,rfl,h,g⟩:=wY U Y;exact⟨a,ks,rfl,h,by rw[I_ g];exact q _ rfl (.int _)⟩
 ·cases e
theorem Gq{x:Str}{ns:List Int}(h:∃a,X.mg x=some (.ref a)/\KT X.K a (ns.map V.int))(O:Gl X x:=by rfl)(hd:(x==("__debug__":Str))=false:=by decide):DE X fl .FC (.Name x pos) (dC (.tuple (ns.map .int))):=by
 obtain⟨a,h,k⟩:=h;have fi:∀ns:List Int,flats (ns.map .int)=true:=λns=>by
  induction ns with
  |nil=>rfl
  |cons n ns Z=>rw[bB,flats,Z];rfl
 have Y:∀(H:Hp)(ns:List Int),RAs X.K ok0 false H (ns.map V.int) (ns.map .int):=λH ns=>by
  induction ns with
  |nil=>exact .nil
  |cons n ns Z=>exact .cons (.int n) Z
 exact wQ (JC (v:=.ref a) O h rfl hd) (fi ns) λH=>.tup (.inr k) (Y H ns)
def Ky:List D->Option D
 |[.tuple l]=>(m6 l).bind λns=>some (.int ns.sum)
 |_=>none
theorem Mv(hc:X.still=true):jP X (.builtin "sum") (λxs H Q=>∃(p:Addr)(ns:List Int),xs=[.ref p]/\SqT X.K H p (ns.map V.int)/\Q (.int ns.sum) H):=by
 intro pins s σ H xs us Q I r h;obtain⟨p,ns,rfl,hx,q⟩:=h;obtain⟨u,rfl,T⟩:=vals1 r
 cases T;obtain⟨its,W,pl,N⟩:=I.tuple hx;have hi:=sG W;obtain⟨xs,Z⟩:=hi.allInts.items;have hl:s.heap.IsTuple p (intItems xs):=by
  rw[<-Z];obtain⟨o,g1,g2,n,g3⟩:=pl;exact⟨o,g1,g2,n,g3⟩
 have Y:p<s.heap.objs.size:=by obtain⟨o,g1,_⟩:=hl;exact ae g1
 refine call_sum_walkG (wpAny_pyIter_tuple hl ?_);refine⟨_,_,_,_,_,_,numAt xs,rfl,Walks.tuple (A:=X.A.in1) (I.ok.hs hc) _ p (b_ Y) (intItems xs),⟨⟨_,ag _ rfl,rfl,rfl⟩,hl.push _⟩,λb hb=>?_,(λ_ _=>intItems_at),λh' tk O S=>?_⟩
 ·show b<(s.heap.push _).objs.size;rw[bj];simp at hb;rcases hb with rfl|rfl
  ·exact jY _
  ·exact Nat.lt_succ_of_lt Y
 have P:ns=xs.toList.map (·.1):=by
  rw[<-nums_intItems,<-Z];exact(show numsOf its.toArray.toList=ns from hi.numsOf).symm
 have R:preSum (numAt xs) (intItems xs).size=ns.sum:=by
  rw[show(intItems xs).size=xs.size by simp[intItems],preSum_eq,jk (by simp),P]
 rw[R];exact⟨.int _,H,I.kept λb o U=>S b o (λz=>by
  rw[cg.mp z]at U;exact absurd (ae U) (gQ _)) (ad _ U),⟨_,rfl⟩,q⟩
theorem Yk{K:PySem.W.Frag}:BrC K (λxs H Q=>∃(p:Addr)(ns:List Int),xs=[.ref p]/\SqT K H p (ns.map V.int)/\Q (.int ns.sum) H) Ky:=by
 intro H xs ds d Q r e q;unfold Ky at e;split at e
 ·next l=>
  refine bO e λns T U=>?_
  cases U
  cases r with
  |cons Y Z=>
   cases Z;obtain⟨a,ys,rfl,hx,X⟩:=Y.tupE;obtain rfl:=sI T X;exact⟨a,ns,rfl,hx,q _ rfl (.int _)⟩
 ·cases e
noncomputable def oR:D->D->Option D:=λx y=>match x,y with
 | .tuple l,.tuple m=>if(flats l=true/\flats m=true)/\l≠[]/\m≠[]/\l.length+m.length<=1000 then some (.tuple (l++m))else none
 |_,_=>none
def Oz(K:PySem.W.Frag):R2:=λx y H Q=>∃l b xs zs,x = .ref l/\y = .ref b/\SqT K H l xs/\SqT K H b zs/\xs≠[]/\zs≠[]/\xs.length+zs.length<=sizeLine/\∀p,H p=none->Q (.ref p) (upd H p (.tup (xs++zs)))
theorem JM:OpR X (binaryOp .Add) (Oz X.K):=by
 intro pins s σ H x y v u Q I M N h;obtain⟨l,b,xs,zs,rfl,rfl,L,hB,n1,n2,J,q⟩:=h
 cases M
 cases N;obtain⟨its,r,p,_⟩:=I.tuple L;obtain⟨Z,S,p2,_⟩:=I.tuple hB;obtain⟨⟨cls,dd,data,sl⟩,P,hc,n,hd⟩:=p;obtain⟨⟨O,R,data2,T⟩,Y,U,m,W⟩:=p2;simp only at hc hd U W;subst hc hd U W;have E:=r.length;have G:=S.length;have ne:∀{xs:List V}{its:List Value},Vals xs its->xs≠[]->¬its.toArray.isEmpty=true:=λ{xs its} r h z=>by
  cases r with
  |nil=>exact h rfl
  |cons _ _=>simp at z
 have e:its.toArray++Z.toArray=(its++Z).toArray:=by simp
 refine bg ⟨_,P,rfl⟩ ⟨_,Y,rfl⟩ bn seq_tuple_add PySem.F.slot_tuple_add PySem.F.entry_tuple_add (PySem.F.args_tuple_add_2 _ _) (tuple_addW2 l b its.toArray Z.toArray n m dd R sl T (ne r n1) (ne S n2) (by simp;omega)) ⟨P,Y,?_⟩;rw[e];refine⟨.ref _,upd H s.heap.objs.size (.tup (xs++zs)),I.laid (t':=s.toks) (λ_ _ q=>ad _ q) (aQ _) ?_,rfl,q _ I.fresh⟩;exact⟨by rw[bH];omega,its++Z,r.append S,⟨_,ag _ rfl,rfl,_,rfl⟩⟩
theorem BX:∀{l m:List D},flats l=true->flats m=true->flats (l++m)=true
 |[],_,_,h=>h
 |d::l,m,h,h'=>by
  rw[flats,aM]at h;rw[pK,flats,h.1,BX h.2 h'];rfl
theorem Kz(h1:DE X fl .P a fa)(h2:DE X fl .P b fb):DE X fl .FC (.BinOp a .Add b pos) (dOp oR fa fb):=PE.imp (JG JM h1 h2) λσ H Q h=>by
 refine cW h λG ow δ d R O q=>?_
 refine D3.ex2 (zB O) λx y M N Z=>?_
 refine⟨G,ow,δ,x,R,M,λv H1 s1 S=>⟨G,ow,δ,y,R.grow s1,N,λu H2 s2 T=>?_⟩⟩;unfold oR at Z;split at Z
 ·next l m=>
  by_cases z:(flats l=true/\flats m=true)/\l≠[]/\m≠[]/\l.length+m.length<=1000
  ·rw[if_pos z]at Z
   cases Z;obtain⟨⟨f1,f2⟩,n1,n2,hl⟩:=z;obtain⟨p,xs,rfl,hx,U⟩:=(S.same s2).tupE;obtain⟨p2,ys,rfl,hy,Y⟩:=T.tupE;have l1:=U.length;have l2:=Y.length;have ne:∀{xs:List V}{l:List D},xs.length=l.length->l≠[]->xs≠[]:=λe h z=>by
    subst z;exact h (List.length_eq_zero_iff.mp e.symm)
   refine⟨p,p2,xs,ys,rfl,rfl,hx,hy,ne l1 n1,ne l2 n2,by rw[l1,l2];exact bM hl (by decide),λpn W=>q _ _ ((s1.trans s2).trans (cN W _)) (.inl ⟨BX f1 f2,?_⟩)⟩;exact .tup (.inl cM) (((RAs.flat f1 U).same (cN W _)).append ((RAs.flat f2 Y).same (cN W _)))
  ·rw[if_neg z]at Z;cases Z
 ·cases Z
end
end XI
namespace XI
open L2 My D3 XK
def tG(K:PySem.W.Frag)(fl:List Fl)(C:Addr)(ft:FT)(nf:List (Str×FE)):TS:=λY σ H=>∃(H0:Hp)(x dx:Addr)(fs:List (Str×V))(ds:List D)(as:List Addr)(δ:DS)(rs:List D),Ini K H0 x dx C H fs ds as/\σ[0]? = some (some (.ref x))/\Tb H/\σ.length=δ.length /\
 (∀(i:Nat)(d:D),δ[i]? = some (some (U.d d))->fl[i]? = some Fl.A/\noC C d=true/\∃v,σ[i]? = some (some v)/\RA K ok1 true H v d)/\(fs.map (·.1)++nf.map (·.1)).Nodup/\fs.length+nf.length<1000/\ju C ds=true/\ft δ=some false/\v7 C nf δ=some rs /\
 ∀H' fs' Z,Ini K H0 x dx C H' fs' (ds++rs) Z->fs'.map (·.1)=fs.map (·.1)++nf.map (·.1)->Y.nx σ H'
theorem Ini.grow{K:PySem.W.Frag}{H0:Hp}{x dx C:Addr}{H H':Hp}{fs:List (Str×V)}{ds:List D}{as:List Addr}(I:Ini K H0 x dx C H fs ds as)(s:Same H H'):Ini K H0 x dx C H' fs ds as:=
 ⟨s _ _ I.hx,s _ _ I.hd,I.rt.same s,I.nd,I.fr,I.sm.trans s,I.hn⟩
section
variable{X:Cx}{fl:List Fl}{C:Addr}{sts body:List cm}{nf:List (Str×FE)}{pos:Pos}{t:Expr}{ft:FT}
theorem KC(h:PSs X sts (tI X.K fl C nf)):PSs X sts (tG X.K fl C (λ_=>some false) nf):=PSs.imp h λT σ H h=>by
 obtain⟨H0,x,dx,fs,ds,as,δ,rs,I,U,tb,Y,ga,Z,W,nd,_,V,q⟩:=h;exact⟨H0,x,dx,fs,ds,as,δ,rs,I,U,tb,Y,ga,Z,W,nd,V,q⟩
theorem QF(O:DT X fl t ft)(h:PSs X sts (tI X.K fl C nf)):PSs X (.If t body [] pos::sts) (tG X.K fl C ft nf):=
 PSs.imp (pN (N7 O (u:=VJ) (t:=N8) (λ_ _ _ _ _ _ z=>z.elim) yx) h) λT σ H h=>by
 obtain⟨H0,x,dx,fs,ds,as,δ,rs,I,U,tb,Z,ga,Y,W,nd,gt,V,q⟩:=h;refine⟨_,_,δ,false,ab3 tb Z (λi d h=>(ga i d h).1) (λi d h=>(ga i d h).2.2),gt,λH' s=>?_⟩;show tI X.K fl C nf T σ H';refine⟨H0,x,dx,fs,ds,as,δ,rs,I.grow s,U,tb.same s,Z,λi d h=>?_,Y,W,nd,V,q⟩;obtain⟨h1,h2,v,h3,h4⟩:=ga i d h;exact⟨h1,h2,v,h3,h4.same s⟩
end
def fnG(C:Addr)(p q:Nat)(ft:FT)(nf:List (Str×FE)):List D->Option (List D):=λds=>if ds.length=p then(ft (none::(ds.map (λd=>some (.d d))++aX q none))).bind λb=>match b with
 |false=>v7 C nf (none::(ds.map (λd=>some (.d d))++aX q none))
 |true=>none else none
theorem Ja{P:bP}{w:b8}{K:PySem.W.Frag}{mg:Str->Option Value}{base:cc}{c x Y:Str}{ps N:List Str}{st:cm}{k:Nat}{fl:List Fl}{C:Addr}{nf:List (Str×FE)}{ft:FT}(Dd:DgI K mg c C x st (Y::ps))(S:FnScope N (Y::ps) (aP st))(hp:∀i,i<ps.length->fl[i+1]? = some .A)(hN:ps.length+1<=N.length)(hn:(nf.map (·.1)).Nodup)(hl:nf.length<1000)
 (O:∀(f:Addr)(cdv:Value)(A:bX)(outer:List Env)(s:bE)(H:Hp)(E:XK),Room k (A.deeper (envOfC x (aP st) s.heap.objs.size f cdv))->PSs (cx P w K mg base N x st f cdv A outer s H E) (dJ st) (tG K fl C ft nf)) :
 HasI P w K mg base (k+1) c C (Y::ps) (spI K C (nf.map (·.1)) (fnG C ps.length (N.length-(ps.length+1)) ft nf)):=by
 obtain⟨⟨f,fd,J,b,M⟩,hm⟩:=Dd;refine⟨⟨f,fd,?_,b,M⟩,hm⟩;refine J.ok S (λvs H Q E h=>?_) (λcdv A outer s H vs Q E U h=>?_)
 ·obtain⟨y,dx,us,ds,rs,rfl,_,_,_,r,_,Z,_⟩:=h;unfold fnG at Z;by_cases z:ds.length=ps.length
  ·rw[bC,bC,r.length,z]
  ·rw[if_neg z]at Z;cases Z
 ·obtain⟨y,dx,us,ds,rs,rfl,h1,h2,tb,r,V,Z,q⟩:=h;refine⟨_,O f cdv A outer s H E U,?_⟩;unfold fnG at Z;by_cases z:ds.length=ps.length
  case neg=>rw[if_neg z]at Z;cases Z
  rw[if_pos z]at Z;refine bO Z λb T Z=>?_
  cases b with
  |true=>cases Z
  |false=>
  have X:us.length=ps.length:=by rw[r.length];exact z
  refine⟨H,y,dx,[],[],[],_,rs,⟨h1,h2,.nil,.nil,λa ha=>(by cases ha),λb o hb=>?_,by rw[h1];simp⟩,?_,tb,?_,λi d h=>?_,by simpa using hn,by simpa using hl,rfl,T,Z,λH' fs as I en=>q H' fs as I (by simpa using en)⟩
  ·by_cases e:b=y
   ·rw[vW (p:=(· = y)) e]at hb;cases hb
   ·rw[iG (p:=(· = y)) e]at hb;exact hb
  ·unfold L2.start;rfl
  ·unfold L2.start;simp only[bH,aG,bK,bC,X,z];omega
  ·cases i with
   |zero=>simp at h
   |succ i=>
    rw[pL]at h;by_cases hi:i<ps.length
    ·rw[cC (by rw[aG,z];exact hi),aR]at h
     cases e:ds[i]? with
     |none=>rw[e]at h;cases h
     |some G=>
      rw[e]at h
      cases h;obtain⟨v,L,R⟩:=r.get e;refine⟨hp i hi,Qk V e,v,?_,R⟩;unfold L2.start;rw[cC (by rw[aG,bC,X];omega),aR,pL,L];rfl
    ·rw[cL (by rw[aG,z];omega),dI]at h;split at h<;>cases h
def Gr(C:Addr)(ns:List Str)(F:List D->Option (List D))(fa:FA)(i:Nat)(ft:FT)(k:Nat)(z:Str):FS:=λδ=>(fa δ).bind λds=>if ju C ds=true then(F ds).bind λrs=>if flats rs=true/\i<δ.length/\rs.length=ns.length/\ns.length<1000/\ju C rs=true then
 (ft (δ.set i (some (.d (.dict (oY C ns rs)))))).bind λb=>some (.nx (δ.set i (some (.d (.dict (oY C ns (if b=true then rs.set k (.str z)else rs)))))))else none else none
theorem KD:∀{fs:List (Str×V)}{f:Str}{y:V}{k:Nat},(fs.map (·.1))[k]? = some f->(∀j,j<k->(fs.map (·.1))[j]? ≠ some f)->(nR f y fs).map (·.1)=fs.map (·.1)/\(nR f y fs).map (·.2)=(fs.map (·.2)).set k y
 |[],_,_,_,h,_=>by simp at h
 | (g,x)::r,f,y,0,h,_=>by
  have:g=f:=by simpa using h
  rw[nR,if_pos this];exact⟨rfl,rfl⟩
 | (g,x)::r,f,y,k+1,h,hn=>by
  have:g≠f:=λz=>hn 0 (Nat.succ_pos _) (by rw[<-z];rfl)
  obtain⟨h1,h2⟩:=KD (fs:=r) (f:=f) (y:=y) (k:=k) (by simpa using h) λj Z z=>hn (j+1) (Nat.succ_lt_succ Z) (by simpa using z)
  rw[nR,if_neg this];exact⟨by rw[bB,h1];rfl,by rw[bB,h2];rfl⟩
theorem KH{K:PySem.W.Frag}{H:Hp}{v:V}{d:D}(r:FV K H v d):∀{vs:List V}{ds:List D}(k:Nat),FVs K H vs ds->FVs K H (vs.set k v) (ds.set k d)
 |_,_,_,.nil=>.nil
 |_,_,0,.cons _ q=>.cons r q
 |_,_,k+1,.cons e q=>.cons e (KH r k q)
theorem QG{K:PySem.W.Frag}{H:Hp}{x dx C:Addr}{fs:List (Str×V)}{u:HO}(hx:H x=some (.ins C dx fs)){vs:List V}{ds:List D}(r:FVs K H vs ds)(n:ju C ds=true):FVs K (L2.upd H x u) vs ds:=(FV.impC (mV hx)).2 r n
section
variable{X:Cx}{fl:List Fl}{l:List Nat}{n i k:Nat}{c nm w z:Str}{C:Addr}{ns ps:List Str}{e t:Expr}{es:List Expr}{rest:List cm}{F:List D->Option (List D)}{fa:FA}{ft:FT}{fr:FS}{p pos np sp p1 p2 p3 ip zp:Pos}{kd:Nat}
theorem Uw(h:HasI X.prog X.w X.K X.mg X.base n c C ps (spI X.K C ns F))(hr:Room (n+1) X.A)(ha:DB X fl .P (e::es) fa)(ht:DT X fl t ft)(hrest:DWs X fl l rest fr)(hfi:fl[i]? = some .A)(hN:X.N.Nodup)(hi:X.N[i]? = some nm)(hv:X.env.scope.names.lookup nm=some .local\/X.env.scope.names.lookup nm=some .cell)
 (cl:Cls X.K C) (na:fL X.K C w) (hk:ns[k]? = some w) (hkn:∀j,j<k->ns[j]? ≠ some w)
 (hg:Gl X c:=by rfl) (hdb:(c==("__debug__":Str))=false:=by decide)
 (he:starEach (e::es) X.env=(false,eval e X.env)::starEach es X.env:=by exact j6 rfl) (hpl:(backTo pos (starEach es X.env)).any (·.1)=false:=by exact zF rfl)
 (hs:swapsWith (.Call (.Name c p) (e::es) [] pos) (some (.Name nm np)) sp.line X.env=pure false:=by rfl) (hfn:X.fn nm=true\/X.env.scope.names.lookup nm=some .local:=by first|exact .inl rfl|exact .inr rfl)
 (hvv:Vis X.env.scope nm:=by first|exact Or.inl rfl|exact Or.inr (Or.inl rfl)|exact Or.inr (Or.inr rfl)) (O:(nm==("__debug__":Str))=false:=by decide) (hcd:(nm==("__classdict__":Str))=false:=by decide)
 (hs2:swapsWith (.Constant (.str z) kd zp) (some (.Attribute (.Name nm p1) w p2)) p3.line X.env=pure false:=by rfl) :
 DWs X fl l (.Assign [.Name nm np] (.Call (.Name c p) (e::es) [] pos) sp :: .If t [.Assign [.Attribute (.Name nm p1) w p2] (.Constant (.str z) kd zp) p3] [] ip::rest) (bJ (Gr C ns F fa i ft k z) fr):=by
 obtain⟨⟨f,fd,Fo,b,M⟩,hm⟩:=h;have s1:=yO (pos:=sp) (pos':=np) hN hi hv (JK (E:=E0) M Fo hr hg hm b .nil yZ ha hdb he hpl) hs hfn;have s2:=N7 (pos:=ip) ht (Cm (Oq (pos:=p3) (nA (i:=i) hi hvv O hcd) (NT (x:=z) (j:=kd) (pos:=zp)) hs2)) yx;refine PSs.imp (pN s1 (pN s2 hrest)) λS σ H hh=>?_
 refine cW hh λG ow δ o R hf q=>?_
 refine bO hf λo1 Z Q=>?_
 unfold Gr at Z;refine bO Z λds a1 Z=>?_
 by_cases J:ju C ds=true
 case neg=>rw[if_neg J]at Z;cases Z
 rw[if_pos J]at Z;refine bO Z λrs a2 Z=>?_
 by_cases L:flats rs=true/\i<δ.length/\rs.length=ns.length/\ns.length<1000/\ju C rs=true
 case neg=>rw[if_neg L]at Z;cases Z
 rw[if_pos L]at Z;refine bO Z λa a3 Z=>?_
 cases Z;obtain⟨f1,f2,f3,f4,B⟩:=L;refine⟨G,ow,δ,ds,R,a1,λvs H1 sm1 r x dx hx u ne=>?_⟩;have U:Same H1 (upd (upd H1 dx (.own x)) x (.ins C dx [])):=(cN u _).trans (cN (by rw[bW (ce ne)];exact hx) _);have sm:=sm1.trans U;refine⟨x,dx,vs++[],ds,rs,rfl,cM,by rw[bW ne,cM],(R.grow sm).tb,?_,J,a2,λH' fs as I en=>⟨rfl,?_⟩⟩
 ·rw[dN];exact(show RAs X.K ok1 true H1 vs ds from r).same U
 have T:H x=none:=sm1.free hx;have D:Same H H':=λb o hb=>by
  have g:b≠x:=λe=>by rw[e,T]at hb;cases hb
  exact I.sm b o (by rw[iG (p:=(· = x)) g];exact sm b o hb)
 have fv:FVs X.K H' (fs.map (·.2)) rs:=(RA.fv2.2 (I.rt.ra (ok:=ok1) (pl:=true) λ_ _=>trivial)).2 f1;have R1:=(R.grow D).setA hfi (mR R f2) (v:=.ref x) (d:=.dict (oY C ns rs)) (FV.ra2.1 (.ins I.hx I.hd fv (by rw[en])));refine⟨G,ow,_,a,R1,a3,λH2 Y=>?_⟩;have W:=Y _ _ I.hx;have O:=Y _ _ I.hd;have fv2:FVs X.K H2 (fs.map (·.2)) rs:=(FV.imp2 λ_ _ _ h=>Y _ _ h).2 fv;have sx:(σ.set i (some (V.ref x)))[i]? = some (some (.ref x)):=bV (mR R f2)
 cases a with
 |false=>
  show tDW X.K fl l fr S (σ.set i (some (.ref x))) H2;refine⟨G,ow,_,o,(R.grow (D.trans Y)).setA hfi (mR R f2) (v:=.ref x) (d:=.dict (oY C ns rs)) (FV.ra2.1 (.ins W O fv2 (by rw[en]))),?_,q⟩;rw[if_neg cX]at Q;exact Q
 |true=>
  show ZP X.K (Zt i) (tC (V.str z)) w {nx:=tDW X.K fl l fr S,rt:=S.rt,bk:=S.bk,ct:=S.ct} (σ.set i (some (.ref x))) H2;have fl':fs.length=rs.length:=by
   have:=congrArg xM en;rw[aG]at this;omega
  refine⟨_,sx,x,C,dx,fs,rfl,W,cl,na,by omega,?_⟩;obtain⟨p1,p2⟩:=KD (fs:=fs) (f:=w) (y:=.str z) (k:=k) (by rw[en];exact hk) λj hj=>by rw[en];exact hkn j hj
  have m:dx≠x:=ne;have sX:Same H (upd H2 x (.ins C dx (nR w (.str z) fs))):=λb o hb=>by
   have g:b≠x:=λe=>by rw[e,T]at hb;cases hb
   rw[bW g];exact Y _ _ (D b o hb)
  have s:FVs X.K (upd H2 x (.ins C dx (nR w (.str z) fs))) ((nR w (.str z) fs).map (·.2)) (rs.set k (.str z)):=by
   rw[p2];exact KH (.str z) k (QG W fv2 B)
  refine⟨G,ow,_,o,(R.grow sX).setA hfi (mR R f2) (v:=.ref x) (d:=.dict (oY C ns (rs.set k (.str z)))) (FV.ra2.1 (.ins cM (by rw[bW m];exact O) s (by rw[p1,en]))),?_,q⟩;rw[if_pos rfl]at Q;exact Q
end
end XI
namespace XI
open L2 My D3 XK
def goN(fs:FS):FS:=λδ=>(fs δ).bind λo=>match o with
 | .nx Z=>some (.nx Z)
 |_=>none
theorem Yl{X:Cx}{fl:List Fl}{l:List Nat}{st:cm}{fs:FS}(h:DS1 X fl st fs):DW1 X fl l st (goN fs):=PS.imp h λU σ H h=>by
 refine cW h λG ow δ o R Y q=>?_
 refine bO Y λV W Z=>?_
 split at Z
 ·cases Z;exact⟨G,ow,δ,_,R,W,q⟩
 ·cases Z
structure HasMD(P:bP)(w:b8)(K:PySem.W.Frag)(mg:Str->Option Value)(base:cc)(n:Nat)(C:Addr)(m:Str)(ps:List Str)(sp:Sp):Prop where
 ex:∃(f:Addr)(fd:ca),FnOk P w K mg base CX0 n f fd ps sp/\Binds K fd ps []/\Binds K fd ps [.none]/\Meth K C m f
 cl:Cls K C
structure DgMD(K:PySem.W.Frag)(C:Addr)(m x:Str)(st:cm)(ps:List Str):Prop where
 ex:∃(f:Addr)(fd:ca),FunX K m x st f fd/\Binds K fd ps []/\Binds K fd ps [.none]/\Meth K C m f
theorem HasMD.has{P:bP}{w:b8}{K:PySem.W.Frag}{mg:Str->Option Value}{base:cc}{n:Nat}{C:Addr}{m:Str}{ps:List Str}{sp:Sp}(h:HasMD P w K mg base n C m ps sp):HasM P w K mg base n C m ps sp:=by
 obtain⟨⟨f,fd,F,b,_,M⟩,c⟩:=h;exact⟨⟨f,fd,F,b,M⟩,c⟩
theorem HasMD.mono{P:bP}{w:b8}{K:PySem.W.Frag}{mg:Str->Option Value}{base:cc}{n k:Nat}{C:Addr}{m:Str}{ps:List Str}{sp:Sp}(h:HasMD P w K mg base k C m ps sp)(l:k<=n):HasMD P w K mg base n C m ps sp:=by
 obtain⟨⟨f,fd,F,b⟩,c⟩:=h;exact⟨⟨f,fd,F.mono l,b⟩,c⟩
theorem Ux{K:PySem.W.Frag}{C f T:Addr}{oc kV Y pm O ct:Value}{od an:Option Addr}{sl:Array (Option Value)}{m x:Str}{st:cm}{ps:List Str}{o:Obj}{n:Nat}
 (hb:∀(kV doc pm:Value)(an:Option Addr)(cdv ct:Value)(us:List Value),us.length=ps.length->∃k,bindArgs (PySem.W.fnOf m x (iQ st) (dJ st) (aP st) (.ref T) kV doc pm an cdv ct) ⟨us,[]⟩=(seqItems? (.ref T) >>= k)/\k (some #[.none])=pure (ps.zip us))
 (Z:∀(kV doc pm:Value)(an:Option Addr)(cdv ct:Value)(us:List Value),(us++[df]).length=ps.length->∃k,bindArgs (PySem.W.fnOf m x (iQ st) (dJ st) (aP st) (.ref T) kV doc pm an cdv ct) ⟨us,[]⟩=(seqItems? (.ref T) >>= k)/\k (some #[.none])=pure (ps.zip (us++[df])))
 (a:PySem.W.findIn K (.ref C) m=some (some (.ref f))) (l:K.lookup f=some ⟨oc,od,.func (PySem.W.fnOf m x (iQ st) (dJ st) (aP st) (.ref T) kV Y pm an O ct),sl⟩) (c:PySem.W.codeIn K O x=true) (fn:PySem.W.isFn K (.ref f)=true) (k:PySem.W.keepIn K (.ref f)=true)
 (hT:K.lookup T=some o) (hs:o.data = .seq #[.none] n):DgMD K C m x st ps:=
 ⟨f,_,⟨⟨oc,od,.ref T,kV,Y,pm,an,O,ct,sl,rfl,l,c⟩⟩,λs us X hl=>by
  rw[dN]at hl ⊢;obtain⟨k,h1,h2⟩:=hb kV Y pm an O ct us hl;exact aI (T:=T) rfl (X T o hT) hs h1 h2,λs us X hl=>by
  obtain⟨k,h1,h2⟩:=Z kV Y pm an O ct us hl;exact aI (T:=T) rfl (X T o hT) hs h1 h2,⟨a,fn,k⟩⟩
theorem Uy{P:bP}{w:b8}{K:PySem.W.Frag}{mg:Str->Option Value}{base:cc}{m x:Str}{ps N:List Str}{st:cm}{k:Nat}{fs:FS}{fl:List Fl}{l:List Nat}{C:Addr}(Dd:DgMD K C m x st ps)(cl:Cls K C)(S:FnScope N ps (aP st))(Y:∀i,i<ps.length->i∉l->fl[i]? = some .A)(hw:∀i∈l,fl[i]? = some .W)(Z:ps.length<=N.length)
 (O:∀(f:Addr)(cdv:Value)(A:bX)(outer:List Env)(s:bE)(H:Hp)(E:XK),Room k (A.deeper (envOfC x (aP st) s.heap.objs.size f cdv))->DWs (cx P w K mg base N x st f cdv A outer s H E) fl l (dJ st) fs) :
 HasMD P w K mg base (k+1) C m ps (spW K l (fnW ps.length (N.length-ps.length) l fs)):=by
 obtain⟨f,fd,X,b,b1,M⟩:=Dd.ex;exact⟨⟨f,fd,P_ X S Y hw Z O,b,b1,M⟩,cl⟩
theorem Dt{K:PySem.W.Frag}{ow:Ow}{σ:D3.St}{δ:DS}{H:Hp}{S:List (Option Nat)}:∀{sl:List (Option Nat)}{vs:List V}{ds:List D},AOk K ow σ δ H S sl vs ds->AOk K ow σ δ H S (sl++[none]) (vs++[.non]) (ds++[.none])
 |_,_,_,.nil=>.ex .non .nil
 |_,_,_,.ex r q=>.ex r (Dt q)
 |_,_,_,.nm a b q=>.nm a b (Dt q)
theorem QH{K:PySem.W.Frag}{ow:Ow}{σ:D3.St}{δ:DS}{H:Hp}{S O:List (Option Nat)}(h:∀s,some s∈O->some s∈S):∀{sl:List (Option Nat)}{vs:List V}{ds:List D},AOk K ow σ δ H S sl vs ds->AOk K ow σ δ H O sl vs ds
 |_,_,_,.nil=>.nil
 |_,_,_,.ex r q=>.ex (r.imp (λb z s hs=>z s (h s hs)) (λz=>z)) (QH h q)
 |_,_,_,.nm a b q=>.nm a b (QH h q)
def tQ(F:List D->Option D)(C:Addr)(ns:List Str)(i:Nat)(fa:FA)(sw:List Nat):DS->Option (D×DS):=λδ=>(aj i δ).bind λd=>(isC C ns d).bind λ_=>(fa δ).bind λds=>(F (d::(ds++[.none]))).bind λr=>Ms r sw δ
section
variable{X:Cx}{fl:List Fl}{n i:Nat}{x m:Str}{ps ns:List Str}{F:List D->Option D}{C:Addr}{e:Expr}{es:List Expr}{fa:FA}{p apos pos:Pos}
theorem Mw{pl:Sem Bool}{sl:List (Option Nat)}{l sw:List Nat}(h:HasMD X.prog X.w X.K X.mg X.base n C m ps (spW X.K l F))(hr:Room n X.A)(hi:isN fl[i]? = true)(hN:X.N[i]? = some x)(hm:m∉ns)(ha:DWA X fl (some i::sl) sl (e::es) fa)(W:SlW fl (some i::(sl++[none])) l sw)(hv:Vis X.env.scope x:=by first|exact Or.inl rfl|exact Or.inr (Or.inl rfl)|exact Or.inr (Or.inr rfl))(hd:(x==("__debug__":Str))=false:=by decide)(hcd:(x==("__classdict__":Str))=false:=by decide)
 (he:starEach (e::es) X.env=(false,eval e X.env)::starEach es X.env:=by exact j6 rfl) (O:(backTo pos (starEach es X.env)).any (·.1)=false:=by exact zF rfl)
 (ht:eval (.Call (.Attribute (.Name x p) m apos) (e::es) [] pos) X.env=(do
  let Y <-eval (.Name x p) X.env
  standAt apos.atName
  let(f,fi) <-holding [Y] (getMethod Y m pl)
  callWith pos f fi (backTo pos (starEach (e::es) X.env)) (backToKw pos (keywordEach [] X.env))):=by rfl) :
 DEW X fl (.Call (.Attribute (.Name x p) m apos) (e::es) [] pos) (tQ F C ns i fa sw):=by
 obtain⟨g,fd,D,_,b,M⟩:=h.ex;refine PE.imp (Cp (E:=E0) (dvs:=[.non]) (nA hN hv hd hcd) h.cl M D hr b (.cons rfl .nil) yZ ha he O ht) λσ H Q hq=>?_
 obtain⟨G,ow,δ,z,U,R,Z,q⟩:=hq;refine bO Z λd I Z=>?_
 refine bO Z λxs J Z=>?_
 refine bO Z λds L Z=>?_
 refine bO Z λr e4 Z=>?_
 have V:=lK I;obtain⟨v,k1,k2,k3⟩:=R.nr i d hi V;obtain⟨a,dx,fs,rfl,P,B,S,_⟩:=Di k2 J;refine⟨_,k1,a,dx,fs,rfl,P,pY (by rw[S];exact hm),G,ow,δ,ds,R,L,λvs H' s T=>?_⟩;show spW X.K l F (.ref a::(vs++[.non])) H' Q E0;exact zM W R s (QH (λs hs=>by simpa using hs) (.nm k1 V (Dt T))) e4 Z q
end
end XI
namespace D3
open L2 My
section
variable{X:Cx}{fl:List Fl}{e a b:Expr}{es:List Expr}{f fa fb:FE}{fr:FA}{k:Kd}{pos:Pos}
theorem vA(i:Nat){x:Str}(O:fl[i]? = some .A:=by rfl)(Z:X.N[i]? = some x:=by rfl)(Y:Vis X.env.scope x:=by first|exact Or.inl rfl|exact Or.inr (Or.inl rfl)|exact Or.inr (Or.inr rfl))(hd:(x==("__debug__":Str))=false:=by decide)
 (hcd:(x==("__classdict__":Str))=false:=by decide):DE X fl .A (.Name x pos) (aj i):=CN i O Z Y hd hcd
theorem vP(i:Nat){x:Str}(O:fl[i]? = some .A:=by rfl)(Z:X.N[i]? = some x:=by rfl)(Y:Vis X.env.scope x:=by first|exact Or.inl rfl|exact Or.inr (Or.inl rfl)|exact Or.inr (Or.inr rfl))(hd:(x==("__debug__":Str))=false:=by decide)
 (hcd:(x==("__classdict__":Str))=false:=by decide):DE X fl .P (.Name x pos) (aj i):=cG (CN i O Z Y hd hcd)
theorem vB(i:Nat){x:Str}(O:fl[i]? = some .A:=by rfl)(Z:X.N[i]? = some x:=by rfl)(Y:Vis X.env.scope x:=by first|exact Or.inl rfl|exact Or.inr (Or.inl rfl)|exact Or.inr (Or.inr rfl))(hd:(x==("__debug__":Str))=false:=by decide)
 (hcd:(x==("__classdict__":Str))=false:=by decide):DE X fl (.B []) (.Name x pos) (aj i):=mG (CN i O Z Y hd hcd)
theorem iP{i j pos}:DE X fl .P (.Constant (.int i) j pos) (dC (.int i)):=aW sy
theorem iC{i j pos}:DE X fl .C (.Constant (.int i) j pos) (dC (.int i)):=gP sy
theorem dz:DB X fl k [] aK:=Xl
theorem dq(h:DE X fl k e f)(O:DB X fl k es fr)(Y:isR k=true:=by rfl)(hs:starEach (e::es) X.env=(false,eval e X.env)::starEach es X.env:=by exact j6 rfl):DB X fl k (e::es) (au f fr):=TQ Y h O hs
theorem dx{L:List Nat}(ha:DE X fl (.B L) a fa)(hb:DE X fl .P b fb)(hs:yE b:=by exact λ_ _=>rfl):DE X fl .A (.Subscript a b pos) (dOp gIx fa fb):=Z8 ha hb hs
theorem sA{i:Nat}{x:Str}{pos':Pos}(hN:X.N.Nodup)(h:DE X fl .A e f)(Y:fl[i]? = some .A:=by rfl)(hi:X.N[i]? = some x:=by rfl)(Z:X.env.scope.names.lookup x=some .local\/X.env.scope.names.lookup x=some .cell:=by first|exact Or.inl rfl|exact Or.inr rfl)
 (hs:swapsWith e (some (.Name x pos')) pos.line X.env=pure false:=by rfl) (O:X.fn x=true\/X.env.scope.names.lookup x=some .local:=by first|exact .inl rfl|exact .inr rfl) :
 DS1 X fl (.Assign [.Name x pos'] e pos) (bD i f):=Tz Y hN hi Z h hs O
theorem gN'{i:Nat}{x:Str}{pos:Pos}(hN:X.N.Nodup)(Y:fl[i]? = some .A:=by rfl)(hi:X.N[i]? = some x:=by rfl)(Z:X.env.scope.names.lookup x=some .local\/X.env.scope.names.lookup x=some .cell:=by first|exact Or.inl rfl|exact Or.inr rfl)
 (O:X.fn x=true\/X.env.scope.names.lookup x=some .local:=by first|exact .inl rfl|exact .inr rfl):DG X fl [i] (.Name x pos) (gNl i):=TF Y hN hi Z O
end
theorem fsc{N P:List Str}{sc:db}(a:sc.kind = .function:=by rfl)(b:sc.isCoroutine=false:=by rfl)(c:sc.isGenerator=false:=by rfl)(d:N.Nodup:=by decide +kernel)(e:N.take P.length=P:=by rfl)(f:∀x∈P,sc.names.lookup x=some .local\/sc.names.lookup x=some .cell:=by decide +kernel)(g:∀y∈sc.names,y.2 ≠ .free:=by decide +kernel):FnScope N P sc:=⟨a,b,c,d,e,f,g⟩
end D3
namespace D3
def qS(o:Option Oc)(b:FS):Option Oc:=o.bind λo=>match o with
 | .nx Z=>b Z
 |o=>some o
def qI(o:Option Bool)(a b:FS)(δ:DS):Option Oc:=o.bind λt=>if t=true then a δ else b δ
noncomputable def qO(g:D->D->Option D)(a b:Option D):Option D:=a.bind λx=>b.bind λy=>g x y
def qU(g:D->Option D)(a:Option D):Option D:=a.bind g
def qC(a:Option D)(r:Option (List D)):Option (List D):=a.bind λx=>r.bind λr=>some (x::r)
def qF(F:List D->Option D)(l:Option (List D)):Option D:=l.bind F
def qR(a:Option D):Option Oc:=a.bind λd=>some (.rt d)
def v8(i:Nat)(a:Option D)(δ:DS):Option Oc:=if i<δ.length then a.bind λd=>some (.nx (δ.set i (some (.d d))))else none
noncomputable def QJ(a:Option D)(fb:FE)(δ:DS):Option D:=a.bind λx=>match x with
 | .bool true=>fb δ
 | .bool false=>some (.bool false)
 |_=>none
def qOr(a:Option D)(fb:FE)(δ:DS):Option D:=a.bind λx=>match x with
 | .bool true=>some (.bool true)
 | .bool false=>fb δ
 |_=>none
def qN(a:Option D):Option D:=a.bind λx=>match x with
 | .bool b=>some (.bool (!b))
 |_=>none
def qB(a:Option D):Option Bool:=a.bind λx=>match x with
 | .bool b=>some b
 |_=>none
def qTA(a:Option Bool)(b:FT)(δ:DS):Option Bool:=a.bind λx=>if x=true then b δ else some false
def qTO(a:Option Bool)(b:FT)(δ:DS):Option Bool:=a.bind λx=>if x=true then some true else b δ
def qTN(a:Option Bool):Option Bool:=a.map λx=>!x
def qE(a:Option Bool)(fa fb:FE)(δ:DS):Option D:=a.bind λb=>if b=true then fa δ else fb δ
def qL(a:Option D):Option (List D):=a.bind asList
def ab6(a:Option (List D))(g:FG)(b:FS)(δ:DS):Option Oc:=a.bind λl=>lB g b l δ
def qD(a:Option DS):Option Oc:=a.bind λZ=>some (.nx Z)
def qG(a:Option D)(g:FG)(δ:DS):Option Oc:=a.bind λd=>(g d δ).bind λZ=>some (.nx Z)
def qGs(a:Option DS)(r:List D->DS->Option DS)(l:List D):Option DS:=a.bind λZ=>r l Z
def qT(a:Option (List D)):Option D:=a.bind λl=>if l.length<=sizeLine then some (.tuple l)else none
def qK(a:Option (List D)):Option D:=a.bind λl=>if l.length<=sizeLine then some (.list l)else none
def qFl(p:D->Bool)(a:Option D):Option D:=a.bind λd=>if p d=true then some d else none
noncomputable def qA(i:Nat)(x a:Option D)(δ:DS):Option Oc:=x.bind λx=>a.bind λd=>match x with
 | .list l=>if l.length<1000000 then some (.nx (δ.set i (some (.d (.list (l++[d]))))))else none
 |_=>none
def qP(i:Nat)(a x k:Option D)(δ:DS):Option Oc:=a.bind λd=>x.bind λx=>k.bind λk=>match x,k with
 | .list l,.int j=>(pIx l.length j).bind λn=>some (.nx (δ.set i (some (.d (.list (l.set n d))))))
 |_,_=>none
def qCh(g':D->D->Option D)(z:Option D)(y:Option D)(fc:FE)(δ:DS):Option D:=z.bind λz=>match z with
 | .bool true=>qO g' y (fc δ)
 | .bool false=>some (.bool false)
 |_=>none
noncomputable def qC0(g g':D->D->Option D)(a b:Option D)(fc:FE)(δ:DS):Option D:=a.bind λx=>b.bind λy=>(g x y).bind λz=>match z with
 | .bool true=>(fc δ).bind λw=>g' y w
 | .bool false=>some (.bool false)
 |_=>none
def qFn(o:Option Oc):Option D:=match o with
 |some (.rt d)=>some d
 |some (.nx _)=>some .none
 |_=>none
def qLs(a:Option (List D)):Option D:=a.bind λr=>some (.list r)
def qCo(a:Option (List D))(g:FG)(c:FT)(e:FE)(t:Nat)(ix:List Nat)(δ:DS):Option D:=a.bind λl=>if l.length<=100000 then(jQ g c e (oZ t ix δ) l).bind λr=>some (.list r)else none
section
variable{a b:FS}{c c':FT}{fa fb fc:FE}{fr:FA}{δ:DS}{g:D->D->Option D}{h:D->Option D}{F:List D->Option D}{i:Nat}{G:FG}{d:D}
theorem ab7:bJ a b δ=qS (a δ) b:=rfl
theorem QK{O:DS}:qS (some (.nx O)) b=b O:=(rfl)
theorem QL:qS (some (.rt d)) b=some (.rt d):=rfl
theorem QM{O:DS}:qS (some (.bk O)) b=some (.bk O):=rfl
theorem QS{O:DS}:qS (some (.ct O)) b=some (.ct O):=rfl
theorem ab8:fP δ=some (.nx δ):=rfl
theorem ak3:sBk δ=some (.bk δ):=rfl
theorem ak4:sCt δ=some (.ct δ):=rfl
theorem ak5:sIf c a b δ=qI (c δ) a b δ:=rfl
theorem Ym:qI (some true) a b δ=a δ:=(rfl)
theorem Yn:qI (some false) a b δ=b δ:=(rfl)
theorem v_op:dOp g fa fb δ=qO g (fa δ) (fb δ):=rfl
theorem Yo{x y:D}:qO g (some x) (some y)=g x y:=(rfl)
theorem ak6:dUn h fa δ=qU h (fa δ):=rfl
theorem Yp{x:D}:qU h (some x)=h x:=(rfl)
theorem Yq:aK δ=some []:=rfl
theorem Uz:au fa fr δ=qC (fa δ) (fr δ):=rfl
theorem Mx{x:D}{l:List D}:qC (some x) (some l)=some (x::l):=rfl
theorem Yr:dCall F fr δ=qF F (fr δ):=rfl
theorem QT{l:List D}:qF F (some l)=F l:=(rfl)
theorem ab9:cF fa δ=qR (fa δ):=rfl
theorem UG:qR (some d)=some (.rt d):=rfl
theorem Ys:Z5 δ=some (.rt .none):=rfl
theorem ac0:bD i fa δ=v8 i (fa δ) δ:=rfl
theorem ak7:v8 (i+12) (some d) δ=if i+12<δ.length then some (.nx (δ.set (i+12) (some (.d d))))else none:=(rfl)
theorem v_c:dC d δ=some d:=rfl
theorem v_and:oH fa fb δ=QJ (fa δ) fb δ:=rfl
theorem UJ:QJ (some (.bool true)) fb δ=fb δ:=(rfl)
theorem UL:QJ (some (.bool false)) fb δ=some (.bool false):=rfl
theorem v_or:dOr fa fb δ=qOr (fa δ) fb δ:=rfl
theorem Yt:qOr (some (.bool true)) fb δ=some (.bool true):=rfl
theorem Yu:qOr (some (.bool false)) fb δ=fb δ:=(rfl)
theorem v_not:Xf fa δ=qN (fa δ):=rfl
theorem UW{b:Bool}:qN (some (.bool b))=some (.bool (!b)):=rfl
theorem ak8:aY fa δ=qB (fa δ):=rfl
theorem Yv{b:Bool}:qB (some (.bool b))=some b:=rfl
theorem Yw:D3.lA c c' δ=qTA (c δ) c' δ:=rfl
theorem QV:qTA (some true) c δ=c δ:=(rfl)
theorem QW:qTA (some false) c δ=some false:=rfl
theorem ac1:D3.tOr c c' δ=qTO (c δ) c' δ:=rfl
theorem U0:qTO (some true) c δ=some true:=rfl
theorem U3:qTO (some false) c δ=c δ:=(rfl)
theorem Yx:D3.jO c δ=qTN (c δ):=rfl
theorem QX{b:Bool}:qTN (some b)=some (!b):=rfl
theorem v_ite:dIf c fa fb δ=qE (c δ) fa fb δ:=rfl
theorem U4:qE (some true) fa fb δ=fa δ:=(rfl)
theorem U5:qE (some false) fa fb δ=fb δ:=(rfl)
theorem ac2:lD fa δ=qL (fa δ):=rfl
theorem U6{l:List D}:qL (some (.list l))=some l:=rfl
theorem ac3:kY fr G b δ=ab6 (fr δ) G b δ:=rfl
theorem U7{l:List D}:ab6 (some l) G b δ=lB G b l δ:=(rfl)
theorem Mz:lB G b [] δ=some (.nx δ):=rfl
theorem ac4:zu fa G δ=qG (fa δ) G δ:=rfl
theorem U8:qG (some d) G δ=qD (G d δ):=(rfl)
theorem U9{O:DS}:qD (some O)=some (.nx O):=rfl
theorem ak9:gNl (i+12) d δ=if i+12<δ.length then some (δ.set (i+12) (some (.d d)))else none:=(rfl)
theorem al0{n:Nat}{gs:List D->DS->Option DS}{l:List D}:gTn n gs (.tuple l) δ=if l.length=n then gs l δ else none:=(rfl)
theorem ac5:jJ [] δ=some δ:=rfl
theorem ac6{gs:List D->DS->Option DS}{l:List D}:cQ G gs (d::l) δ=qGs (G d δ) gs l:=rfl
theorem U_{gs:List D->DS->Option DS}{l:List D}{O:DS}:qGs (some O) gs l=gs l O:=(rfl)
theorem ac7:dTup fr δ=qT (fr δ):=rfl
theorem Va{l:List D}:qT (some l)=if l.length<=sizeLine then some (.tuple l)else none:=(rfl)
theorem al4:jC fr δ=qK (fr δ):=rfl
theorem Yy{l:List D}:qK (some l)=if l.length<=sizeLine then some (.list l)else none:=(rfl)
theorem Yz:bQ fa δ=qFl flat (fa δ):=rfl
theorem ac8:rM fa δ=qFl fl1 (fa δ):=rfl
theorem YB{p:D->Bool}:qFl p (some d)=if p d=true then some d else none:=(rfl)
theorem ac9:uO i fa δ=qA i (aj i δ) (fa δ) δ:=rfl
theorem Vb{l:List D}:qA i (some (.list l)) (some d) δ=if l.length<1000000 then some (.nx (δ.set i (some (.d (.list (l++[d]))))))else none:=(rfl)
theorem ad0{fk:FE}:LR i fk fa δ=qP i (fa δ) (aj i δ) (fk δ) δ:=rfl
theorem Vc{l:List D}{j:Int}:qP i (some d) (some (.list l)) (some (.int j)) δ=(pIx l.length j).bind λn=>some (.nx (δ.set i (some (.d (.list (l.set n d)))))):=(rfl)
theorem Vd{g':D->D->Option D}:jD g g' fa fb fc δ=qC0 g g' (fa δ) (fb δ) fc δ:=rfl
theorem MF{g':D->D->Option D}{x y:D}:qC0 g g' (some x) (some y) fc δ=qCh g' (g x y) (some y) fc δ:=(rfl)
theorem MJ{g':D->D->Option D}{y:Option D}:qCh g' (some (.bool true)) y fc δ=qO g' y (fc δ):=(rfl)
theorem MK{g':D->D->Option D}{y:Option D}:qCh g' (some (.bool false)) y fc δ=some (.bool false):=rfl
theorem ad1{p q:Nat}{ds:List D}:fnD p q b ds=if ds.length=p then qFn (b (ds.map (λd=>some (.d d))++aX q none))else none:=(rfl)
theorem Ve:qFn (some (.rt d))=some d:=rfl
theorem Vf{O:DS}:qFn (some (.nx O))=some .none:=rfl
theorem YC{t:Nat}{ix:List Nat}:iB fr G c fa t ix δ=qCo (fr δ) G c fa t ix δ:=rfl
theorem QZ{t:Nat}{ix:List Nat}{l:List D}:qCo (some l) G c fa t ix δ=if l.length<=100000 then qLs (jQ G c fa (oZ t ix δ) l)else none:=(rfl)
theorem al5{l:List D}:qLs (some l)=some (.list l):=rfl
theorem ad2:D3.mD δ=some true:=rfl
theorem YD{r:DS}{x:D}:aj 0 (some (.d x)::r)=some x:=rfl
theorem YF{r:DS}{y:Option U}:aj (i+1) (y::r)=aj i r:=rfl
theorem al6{O:Option U}{r:DS}:v8 0 (some d) (O::r)=some (.nx (some (.d d)::r)):=rfl
theorem al7{O:Option U}{r:DS}:gNl 0 d (O::r)=some (some (.d d)::r):=rfl
theorem al8{O x1:Option U}{r:DS}:v8 1 (some d) (O::x1::r)=some (.nx (O::some (.d d)::r)):=rfl
theorem al9{O x1:Option U}{r:DS}:gNl 1 d (O::x1::r)=some (O::some (.d d)::r):=rfl
theorem am0{O x1 x2:Option U}{r:DS}:v8 2 (some d) (O::x1::x2::r)=some (.nx (O::x1::some (.d d)::r)):=rfl
theorem am1{O x1 x2:Option U}{r:DS}:gNl 2 d (O::x1::x2::r)=some (O::x1::some (.d d)::r):=rfl
theorem am2{O x1 x2 x3:Option U}{r:DS}:v8 3 (some d) (O::x1::x2::x3::r)=some (.nx (O::x1::x2::some (.d d)::r)):=rfl
theorem am3{O x1 x2 x3:Option U}{r:DS}:gNl 3 d (O::x1::x2::x3::r)=some (O::x1::x2::some (.d d)::r):=rfl
theorem am4{O x1 x2 x3 Y:Option U}{r:DS}:v8 4 (some d) (O::x1::x2::x3::Y::r)=some (.nx (O::x1::x2::x3::some (.d d)::r)):=rfl
theorem am5{O x1 x2 x3 Y:Option U}{r:DS}:gNl 4 d (O::x1::x2::x3::Y::r)=some (O::x1::x2::x3::some (.d d)::r):=rfl
theorem am6{Y x1 x2 x3 O Z:Option U}{r:DS}:v8 5 (some d) (Y::x1::x2::x3::O::Z::r)=some (.nx (Y::x1::x2::x3::O::some (.d d)::r)):=rfl
theorem am7{Y x1 x2 x3 O Z:Option U}{r:DS}:gNl 5 d (Y::x1::x2::x3::O::Z::r)=some (Y::x1::x2::x3::O::some (.d d)::r):=rfl
theorem am8{Z x1 x2 x3 Y O x6:Option U}{r:DS}:v8 6 (some d) (Z::x1::x2::x3::Y::O::x6::r)=some (.nx (Z::x1::x2::x3::Y::O::some (.d d)::r)):=rfl
theorem am9{Z x1 x2 x3 Y O x6:Option U}{r:DS}:gNl 6 d (Z::x1::x2::x3::Y::O::x6::r)=some (Z::x1::x2::x3::Y::O::some (.d d)::r):=rfl
theorem an0{x0 x1 x2 x3 Z Y O x7:Option U}{r:DS}:v8 7 (some d) (x0::x1::x2::x3::Z::Y::O::x7::r)=some (.nx (x0::x1::x2::x3::Z::Y::O::some (.d d)::r)):=rfl
theorem an1{x0 x1 x2 x3 Z Y O x7:Option U}{r:DS}:gNl 7 d (x0::x1::x2::x3::Z::Y::O::x7::r)=some (x0::x1::x2::x3::Z::Y::O::some (.d d)::r):=rfl
theorem an2{x0 x1 x2 x3 x4 Z Y O x8:Option U}{r:DS}:v8 8 (some d) (x0::x1::x2::x3::x4::Z::Y::O::x8::r)=some (.nx (x0::x1::x2::x3::x4::Z::Y::O::some (.d d)::r)):=rfl
theorem an3{x0 x1 x2 x3 x4 Z Y O x8:Option U}{r:DS}:gNl 8 d (x0::x1::x2::x3::x4::Z::Y::O::x8::r)=some (x0::x1::x2::x3::x4::Z::Y::O::some (.d d)::r):=rfl
theorem an4{x0 x1 x2 x3 x4 x5 Z Y O x9:Option U}{r:DS}:v8 9 (some d) (x0::x1::x2::x3::x4::x5::Z::Y::O::x9::r)=some (.nx (x0::x1::x2::x3::x4::x5::Z::Y::O::some (.d d)::r)):=rfl
theorem an5{x0 x1 x2 x3 x4 x5 Z Y O x9:Option U}{r:DS}:gNl 9 d (x0::x1::x2::x3::x4::x5::Z::Y::O::x9::r)=some (x0::x1::x2::x3::x4::x5::Z::Y::O::some (.d d)::r):=rfl
theorem ad3{x0 x1 x2 x3 x4 x5 x6 x7 Z Y O:Option U}{r:DS}:v8 10 (some d) (x0::x1::x2::x3::x4::x5::x6::x7::Z::Y::O::r)=some (.nx (x0::x1::x2::x3::x4::x5::x6::x7::Z::Y::some (.d d)::r)):=rfl
theorem ad4{x0 x1 x2 x3 x4 x5 x6 x7 Z Y O:Option U}{r:DS}:gNl 10 d (x0::x1::x2::x3::x4::x5::x6::x7::Z::Y::O::r)=some (x0::x1::x2::x3::x4::x5::x6::x7::Z::Y::some (.d d)::r):=rfl
theorem ad5{x0 x1 x2 x3 x4 x5 x6 x7 x8 Z O Y:Option U}{r:DS}:v8 11 (some d) (x0::x1::x2::x3::x4::x5::x6::x7::x8::Z::O::Y::r)=some (.nx (x0::x1::x2::x3::x4::x5::x6::x7::x8::Z::O::some (.d d)::r)):=rfl
theorem ad6{x0 x1 x2 x3 x4 x5 x6 x7 x8 Z O Y:Option U}{r:DS}:gNl 11 d (x0::x1::x2::x3::x4::x5::x6::x7::x8::Z::O::Y::r)=some (x0::x1::x2::x3::x4::x5::x6::x7::x8::Z::O::some (.d d)::r):=rfl
end
section
variable{i j:Int}{l m:List D}{d:D}
theorem ad7:dW (.int i) (.int j)=some (.int (i+j)):=rfl
theorem ad8:pO (.int i) (.int j)=some (.int (i-j)):=rfl
theorem an6:gLt (.int i) (.int j)=some (.bool (decide (i<j))):=rfl
theorem an7:gLe (.int i) (.int j)=some (.bool (decide (i<=j))):=rfl
theorem an8:gGt (.int i) (.int j)=some (.bool (decide (j<i))):=rfl
theorem an9:gGe (.int i) (.int j)=some (.bool (decide (j<=i))):=rfl
theorem ad9:gEq (.int i) (.int j)=some (.bool (decide (i=j))):=rfl
theorem ae0:gNe (.int i) (.int j)=some (.bool (!decide (i=j))):=rfl
theorem ae1:nD [.list l]=some (.int l.length):=rfl
theorem Jb:nD [.tuple l]=some (.int l.length):=rfl
theorem p7:∀ns:List Int,m6 (ns.map .int)=some ns
 |[]=>rfl
 |n::r=>by rw[bB,m6,p7 r];rfl
theorem KJ{ns:List Int}:pU [.list (ns.map .int)]=some (.int ns.sum):=by
 show(m6 (ns.map .int)).map _=_;rw[p7];rfl
theorem Wc:Fv [.int i]=some (.int (if i<0 then -i else i)):=rfl
theorem Wd:JT [.int i,.int j]=some (.int (if j>i then j else i)):=rfl
theorem Wf:JV [.int i,.int j]=some (.int (if j<i then j else i)):=rfl
theorem ae2:Tp (.int i)=some (.int (-i)):=rfl
theorem ao0:gIx (.list l) (.int i)=pAt l i:=(rfl)
theorem ae3:gIx (.tuple l) (.int i)=pAt l i:=(rfl)
theorem ae4:ud (.list l) (.list m)=if l.length+m.length<=1000000 then some (.list (l++m))else none:=(rfl)
theorem YG:vH (.list l)=some (.list l):=rfl
theorem Vg:vH (.tuple l)=some (.list l):=rfl
theorem ae5:pAt (d::l) 0=some d:=by
 unfold pAt pIx;rw[if_pos (by decide),if_pos (by simp)];rfl
end
noncomputable def ae6(i j:Nat)(a:Option (List D))(δ:DS):Option Oc:=a.bind λl=>match l with
 |[x,y]=>if i<δ.length/\j<δ.length then some (.nx ((δ.set i (some (.d x))).set j (some (.d y))))else none
 |_=>none
def xY(a:Option (List D)):Option (List D):=a.bind λl=>match l with
 |[.int j]=>if uc j=true then some (d_ 0 j)else none
 |_=>none
def xZ(a:Option (List D)):Option (List D):=a.bind λl=>match l with
 |[.int i,.int j]=>if(uc i&&uc j)=true then some (d_ i j)else none
 |_=>none
def qSl(x:Option D)(a b:Option (Option Int)):Option D:=x.bind λx=>a.bind λa=>b.bind λb=>match x with
 | .list l=>some (.list (cuD l a b))
 |_=>none
def qOP(x:Option D):Option (Option Int):=x.bind λx=>match x with
 | .int i=>some (some i)
 |_=>none
def qEn(x:Option D):Option (List D):=x.bind λd=>match d with
 | .list l=>some (o_ l)
 |_=>none
section
variable{a b:FS}{fa:FE}{fr:FA}{δ:DS}{i j:Nat}{g:FG}
theorem ae7:Xh i j fr δ=ae6 i j (fr δ) δ:=rfl
theorem Vh{x y:D}:ae6 i j (some [x,y]) δ=if i<δ.length/\j<δ.length then some (.nx ((δ.set i (some (.d x))).set j (some (.d y))))else none:=(rfl)
theorem YH:oJ fr δ=xY (fr δ):=rfl
theorem Jc{k:Int}(h : -(2^62)<=k)(h2:k<2^62):xY (some [.int k])=some (d_ 0 k):=by
 show(if uc k=true then some (d_ 0 k)else none)=_;rw[if_pos];unfold uc;rw[dTr h,dTr h2];rfl
theorem YJ:rB fr δ=xZ (fr δ):=rfl
theorem MN{i k:Int}(h : -(2^62)<=k)(h2:k<2^62)(h3 : -(2^62)<=i)(h4:i<2^62):xZ (some [.int i,.int k])=some (d_ i k):=by
 show(if(uc i&&uc k)=true then some (d_ i k)else none)=_;rw[if_pos];unfold uc;rw[dTr h,dTr h2,dTr h3,dTr h4];rfl
theorem ao1{lo hi:FO}:dSl fa lo hi δ=qSl (fa δ) (lo δ) (hi δ):=rfl
theorem YK{l:List D}{p r:Option Int}:qSl (some (.list l)) (some p) (some r)=some (.list (cuD l p r)):=rfl
theorem ao2:fZ δ=some none:=rfl
theorem ao3:f9 fa δ=qOP (fa δ):=rfl
theorem YL{k:Int}:qOP (some (.int k))=some (some k):=rfl
theorem YM:JW fa δ=qEn (fa δ):=rfl
theorem Q5{l:List D}:qEn (some (.list l))=some (o_ l):=rfl
theorem jm(Inv:Nat->DS->Prop):∀(l:List D)(δ:DS),Inv 0 δ->(∀i d δ,l[i]? = some d->Inv i δ->∃Y O,g d δ=some Y/\(b Y=some (.nx O)\/b Y=some (.ct O))/\Inv (i+1) O)->∃O,lB g b l δ=some (.nx O)/\Inv l.length O:=by
 have V:∀(l:List D)(k:Nat)(δ:DS),Inv k δ->(∀i d δ,l[i]? = some d->Inv (k+i) δ->∃Y O,g d δ=some Y/\(b Y=some (.nx O)\/b Y=some (.ct O))/\Inv (k+i+1) O)->∃O,lB g b l δ=some (.nx O)/\Inv (k+l.length) O:=by
  intro l
  induction l with
  |nil=>exact λk δ h _=>⟨δ,rfl,h⟩
  |cons d r U=>
   intro k δ h hs;obtain⟨Y,O,S,X,T⟩:=hs 0 d δ rfl h;obtain⟨W,e4,e5⟩:=U (k+1) O T λi R Z hd hi=>by
    have:=hs (i+1) R Z (by simpa using hd) (by rwa[show k+(i+1)=k+1+i by omega]);rwa[show k+(i+1)+1=k+1+i+1 by omega]at this
   refine⟨W,?_,by rwa[bC,show k+(r.length+1)=k+1+r.length by omega]⟩;rw[lB,S,aH];rcases X with X|X
   ·rwa[X]
   ·rwa[X]
 intro l δ h hs;have:=V l 0 δ h λi d δ hd hi=>by
  have:=hs i d δ hd (by rw[iJ]at hi;exact hi);rwa[iJ]
 rwa[iJ]at this
end
def qX(a:Option D)(δ:DS):Option Oc:=a.bind λ_=>some (.nx δ)
theorem YQ{fa:FE}{δ:DS}:Fq fa δ=qX (fa δ) δ:=rfl
theorem Q6{d:D}{δ:DS}:qX (some d) δ=some (.nx δ):=rfl
theorem Q7{g g' O:D->D->Option D}{fa fb fc fd:FE}{δ:DS}:vG g g' O fa fb fc fd δ=QJ (qO g (fa δ) (fb δ)) (jD g' O fb fc fd) δ:=by
 unfold vG QJ jD qO
 cases fa δ with
 |none=>rfl
 |some x=>cases fb δ<;>rfl
def qZ(a b:Option D):Option (List D):=a.bind λd=>b.bind λe=>match d,e with
 | .list l,.list m=>some (Tq l m)
 |_,_=>none
theorem ae8{f g:FE}{δ:DS}:aj3 f g δ=qZ (f δ) (g δ):=rfl
theorem Vi{l m:List D}:qZ (some (.list l)) (some (.list m))=some (Tq l m):=rfl
theorem MP{fa:FE}{δ:DS}:dN1 fa δ=qFl (λd=>decide (nl d<=1)) (fa δ):=rfl
theorem ae9:flat .none=true:=rfl
theorem ao4{b:Bool}:flat (.bool b)=true:=rfl
theorem f_int{i:Int}:flat (.int i)=true:=rfl
theorem af0{x:Str}:flat (.str x)=true:=rfl
theorem af2{l:List D}:flat (.list l)=false:=rfl
theorem f_tup{l:List D}:flat (.tuple l)=flats l:=rfl
theorem af3:flats []=true:=rfl
theorem YS{d:D}{l:List D}:flats (d::l)=(flat d&&flats l):=rfl
theorem YT:fl1 .none=true:=rfl
theorem af4{b:Bool}:fl1 (.bool b)=true:=rfl
theorem YW{i:Int}:fl1 (.int i)=true:=rfl
theorem YX{x:Str}:fl1 (.str x)=true:=rfl
theorem YZ{l:List D}:fl1 (.list l)=flats l:=rfl
theorem Y0{l:List D}:fl1 (.tuple l)=flats l:=rfl
theorem ao5{c:String}{i:Int}:gIs c (.int i)=some (.bool (isT c (tyD (.int i)))):=rfl
theorem af5{c:String}{x:Str}:gIs c (.str x)=some (.bool (isT c (tyD (.str x)))):=rfl
theorem af6{d:D}:Al d=some (.bool (isNone d)):=rfl
theorem Y4{d:D}:Z6 d=some (.bool (!isNone d)):=rfl
theorem af7:isNone .none=true:=rfl
theorem ao6{b:Bool}:isNone (.bool b)=false:=rfl
theorem af8{i:Int}:isNone (.int i)=false:=rfl
theorem af9{x:Str}:isNone (.str x)=false:=rfl
theorem ag0{l:List D}:isNone (.list l)=false:=rfl
theorem ag1{l:List D}:isNone (.tuple l)=false:=rfl
theorem ag2{l:List (D×D)}:isNone (.dict l)=false:=rfl
end D3
local macro_rules|`(tactic|simp![$xs,*]$[$l:location]?)=>do let a←("D3.af5 D3.ae9 D3.ao4 D3.f_int D3.af0 D3.af2 D3.f_tup D3.af3 D3.YS D3.YT D3.af4 D3.YW D3.YX D3.YZ D3.Y0 D3.ao5 D3.af6 D3.Y4 D3.af7 D3.ao6 D3.af8 D3.af9 D3.ag0 D3.ag1 D3.ag2 List.length_cons List.length_nil List.map_cons List.map_nil List.replicate_succ List.replicate_zero List.cons_append List.nil_append List.append_nil List.set_cons_zero List.set_cons_succ Nat.zero_add if_true decide_true decide_false Int.cast_ofNat_Int Bool.not_true Bool.not_false Bool.and_self D3.al6 D3.al7 D3.al8 D3.al9 D3.am0 D3.am1 D3.am2 D3.am3 D3.am4 D3.am5 D3.am6 D3.am7 D3.am8 D3.am9 D3.an0 D3.an1 D3.an2 D3.an3 D3.an4 D3.an5 D3.ad3 D3.ad4 D3.ad5 D3.ad6 D3.MP D3.ae8 D3.Vi D3.YQ D3.Q6 D3.Q7 D3.ab7 D3.QK D3.QL D3.QM D3.QS D3.ab8 D3.ak3 D3.ak4 D3.ak5 D3.Ym D3.Yn D3.v_op D3.Yo D3.ak6 D3.Yp D3.Yq D3.Uz D3.Mx D3.Yr D3.QT D3.ab9 D3.UG D3.Ys D3.ac0 D3.ak7 D3.v_c D3.v_and D3.UJ D3.UL D3.v_or D3.Yt D3.Yu D3.v_not D3.UW D3.ak8 D3.Yv D3.Yw D3.QV D3.QW D3.ac1 D3.U0 D3.U3 D3.Yx D3.QX D3.v_ite D3.U4 D3.U5 D3.ac2 D3.U6 D3.ac3 D3.U7 D3.Mz D3.ac4 D3.U8 D3.U9 D3.ak9 D3.al0 D3.ac5 D3.ac6 D3.U_ D3.ac7 D3.Va D3.al4 D3.Yy D3.Yz D3.ac8 D3.YB D3.ac9 D3.Vb D3.ad0 D3.Vc D3.Vd D3.MJ D3.MK D3.ad1 D3.Ve D3.Vf D3.YC D3.QZ D3.al5 D3.MF D3.ad2 D3.YD D3.YF D3.ad7 D3.ad8 D3.an6 D3.an7 D3.an8 D3.an9 D3.ad9 D3.ae0 D3.ae1 D3.Jb D3.Wc D3.Wd D3.Wf D3.ae2 D3.ao0 D3.ae3 D3.ae4 D3.YG D3.Vg D3.ae5 D3.ae7 D3.Vh D3.YH D3.YJ D3.ao1 D3.YK D3.ao2 D3.ao3 D3.YL D3.YM D3.Q5 Int.reduceEq Int.reduceLE Int.reduceLT Nat.reduceAdd Nat.reduceEqDiff Nat.reduceLT Nat.reduceLeDiff reduceIte".splitOn " ").toArray.mapM λs=>`(Lean.Parser.Tactic.simpLemma|$(Lean.mkIdent s.toName):ident);`(tactic|simp only[$a,*,$xs,*]$[$l]?)
namespace My
noncomputable def yc(ns:List Int)(i:Int):Int:=
 if i<(ns.length:Int)then ns.getD i.toNat 0%1000000007
 else if ns=[]then 7919*i+5000011
 else ns.getD (i*7%(ns.length:Int)).toNat 0%1000000007+7919*i
def divs(n:Int):Nat->Int
 |0=>n
 |k+1=>divs n k/1000003
noncomputable def KN(c i k m:Int):Int:=
 (((c+65537*i+3)*(1299709+15485863*k)%2147483629*((c+65537*i+3)*(1299709+15485863*k)%2147483629)%1500450271+104729) *
  ((c+65537*i+3)*(1299709+15485863*k)%2147483629*((c+65537*i+3)*(1299709+15485863*k)%2147483629)%1500450271+104729))%715827883/64%m
def rF(ns:List Int)(i k m:Int):Int:=
 if i<(ns.length:Int)/\10^40<=ns.getD i.toNat 0/\0<divs (ns.getD i.toNat 0) k.toNat then divs (ns.getD i.toNat 0) k.toNat%1000003%m
 else KN (yc ns i) i k m
theorem pq(ns:List Int)(i k:Int){m:Int}(h:0<m):0<=rF ns i k m/\rF ns i k m<m:=by
 unfold rF KN;split
 ·exact⟨gF _ (by omega),eV _ h⟩
 ·exact⟨gF _ (by omega),eV _ h⟩
theorem M4{ns:List Int}{i k m:Int}(h1:i<(ns.length:Int))(h2:10^40<=ns.getD i.toNat 0)(h3:0<divs (ns.getD i.toNat 0) k.toNat):
 rF ns i k m=divs (ns.getD i.toNat 0) k.toNat%1000003%m:=by
 unfold rF;rw[if_pos ⟨h1,h2,h3⟩]
theorem uV{ns:List Int}{i k m:Int}(h:¬(i<(ns.length:Int)/\10^40<=ns.getD i.toNat 0/\0<divs (ns.getD i.toNat 0) k.toNat)):
 rF ns i k m=KN (yc ns i) i k m:=by
 unfold rF;rw[if_neg h]
def nF(a b:Int):Int:=((Cj a.natAbs b.natAbs:Nat):Int)
theorem oh{a:Int}(h:0<=a):nF a 0=a:=by
 unfold nF;simp;omega
theorem w6{a b:Int}(ha:0<=a)(hb:0<b):nF b (a%b)=nF a b:=by
 unfold nF;have e:(a%b).natAbs=a.natAbs%b.natAbs:=by
  rw[Int.natAbs_emod_of_nonneg ha]
 rw[e,qm b.natAbs,<-Nat.gcd_rec b.natAbs a.natAbs,qm]
theorem Q8(a b:Int):nF (if a<0 then -a else a) (if b<0 then -b else b)=nF a b:=by
 unfold nF;have e:∀c:Int,(if c<0 then -c else c).natAbs=c.natAbs:=λc=>by split<;>omega
 rw[e,e]
end My
namespace Com
open D3
def dX:List D->Option D:=fnD 1 0 (cF (oH (dUn (gIs "int") (aj 0)) (Xf (dUn (gIs "bool") (aj 0)))))
def cO:List D->Option D:=fnD 2 1 (bJ (rY (aY (dOp gNe (aj 1) (dC (.int 0)))) (bJ (bD 2 (dOp gA (aj 0) (aj 1)))
    (bJ (bD 0 (aj 1))
    (bD 1 (aj 2)))))
    (cF (bQ (aj 0))))
def oU:List D->Option D:=fnD 2 1 (bJ (bD 2 (dCall cO (au (dCall Fv (au (aj 0) (aK))) (au (dCall Fv (au (aj 1) (aK))) (aK)))))
    (bJ (sIf (aY (dOp gLt (aj 1) (dC (.int 0)))) (bD 2 (dUn Tp (aj 2))) (fP))
    (cF (dTup (au (dOp qw (aj 0) (aj 2)) (au (dOp qw (aj 1) (aj 2)) (aK)))))))
def qM:List D->Option D:=fnD 2 0 (bJ (sIf (D3.tOr (D3.jO (aY (dCall dX (au (aj 0) (aK))))) (D3.jO (aY (dCall dX (au (aj 1) (aK)))))) ((λ_=>none)) (fP))
    (bJ (sIf (aY (dOp gEq (aj 1) (dC (.int 0)))) ((λ_=>none)) (fP))
    (cF (dCall oU (au (aj 0) (au (aj 1) (aK)))))))
def jj:List D->Option D:=fnD 2 0 (bJ (sIf (aY (dOp gLt (aj 1) (dCall nD (au (aj 0) (aK))))) (cF (dOp gA (dOp gIx (aj 0) (aj 1)) (dC (.int 1000000007)))) (fP))
    (bJ (sIf (aY (dOp gEq (aj 0) (jC (aK)))) (cF (dOp dW (dOp ig (dC (.int 7919)) (aj 1)) (dC (.int 5000011)))) (fP))
    (cF (dOp dW (dOp gA (dOp gIx (aj 0) (dOp gA (dOp ig (aj 1) (dC (.int 7))) (dCall nD (au (aj 0) (aK))))) (dC (.int 1000000007))) (dOp ig (dC (.int 7919)) (aj 1))))))
def gj:List D->Option D:=fnD 4 2 (bJ (sIf (D3.lA (aY (dOp gLt (aj 1) (dCall nD (au (aj 0) (aK))))) (aY (dOp gGe (dOp gIx (aj 0) (aj 1)) (dOp Ft (dC (.int 10)) (dC (.int 40)))))) (bJ (bD 4 (dOp gIx (aj 0) (aj 1)))
    (bJ (kY (oJ (au (aj 2) (aK))) (gNl 5) (bD 4 (dOp qw (aj 4) (dC (.int 1000003)))))
    (sIf (aY (dOp gGt (aj 4) (dC (.int 0)))) (cF (dOp gA (dOp gA (aj 4) (dC (.int 1000003))) (aj 3))) (fP)))) (fP))
    (bJ (bD 4 (dOp gA (dOp ig (dOp dW (dOp dW (dCall jj (au (aj 0) (au (aj 1) (aK)))) (dOp ig (dC (.int 65537)) (aj 1))) (dC (.int 3))) (dOp dW (dC (.int 1299709)) (dOp ig (dC (.int 15485863)) (aj 2)))) (dC (.int 2147483629))))
    (bJ (bD 4 (dOp dW (dOp gA (dOp ig (aj 4) (aj 4)) (dC (.int 1500450271))) (dC (.int 104729))))
    (cF (dOp gA (dOp qw (dOp gA (dOp ig (aj 4) (aj 4)) (dC (.int 715827883))) (dC (.int 64))) (aj 3))))))
def lU:List D->Option D:=fnD 2 0 (bJ (rY (aY (dOp gGt (aj 1) (dC (.int 0)))) (Xh 0 1 (au (aj 1) (au (dOp gA (aj 0) (aj 1)) (aK)))))
    (cF (bQ (aj 0))))
def jM:List D->Option D:=fnD 2 0 (cF (dOp gLt (dOp ig (dOp gIx (aj 0) (dC (.int 0))) (dOp gIx (aj 1) (dC (.int 1)))) (dOp ig (dOp gIx (aj 1) (dC (.int 0))) (dOp gIx (aj 0) (dC (.int 1))))))
def cR:List D->Option D:=fnD 2 1 (bJ (bD 2 (dCall lU (au (aj 0) (au (aj 1) (aK)))))
    (cF (dTup (au (dOp qw (aj 0) (aj 2)) (au (dOp qw (aj 1) (aj 2)) (aK))))))
def fj:List D->Option D:=fnD 1 0 (cF (dCall CG (au (iB (lD (aj 0)) (gNl 0) (mD) (dCall dX (au (aj 0) (aK))) 1 []) (aK))))
def jA:List D->Option D:=fnD 2 0 (cF (oH (dUn (gIs "tuple") (aj 0)) (oH (dOp gEq (dCall nD (au (aj 0) (aK))) (aj 1)) (dCall fj (au (aj 0) (aK))))))
def je:List D->Option D:=fnD 1 0 (cF (dCall jA (au (aj 0) (au (dC (.int 2)) (aK)))))
def kZ:List D->Option D:=fnD 1 0 (cF (oH (dCall je (au (aj 0) (aK))) (oH (dOp gGe (dOp gIx (aj 0) (dC (.int 1))) (dC (.int 1))) (dOp gEq (dCall cO (au (dCall Fv (au (dOp gIx (aj 0) (dC (.int 0))) (aK))) (au (dOp gIx (aj 0) (dC (.int 1))) (aK)))) (dC (.int 1))))))
def lg:List D->Option D:=fnD 1 0 (cF (oH (dCall kZ (au (aj 0) (aK))) (jD gLe gLe (dC (.int 0)) (dOp gIx (aj 0) (dC (.int 0))) (dOp gIx (aj 0) (dC (.int 1))))))
def j7:List D->Option D:=fnD 1 0 (cF (oH (dCall je (au (aj 0) (aK))) (vG gLe gLt gLe (dC (.int 0)) (dOp gIx (aj 0) (dC (.int 0))) (dOp gIx (aj 0) (dC (.int 1))) (dC (.int 400)))))
def nY:List D->Option D:=fnD 2 0 (cF (jD gLe gLt (dOp gIx (aj 0) (dC (.int 0))) (aj 1) (dOp gIx (aj 0) (dC (.int 1)))))
def eX:List D->Option D:=fnD 3 0 (cF (iB (oJ (au (aj 2) (aK))) (gNl 0) (mD) (dCall gj (au (aj 1) (au (aj 2) (au (aj 0) (au (dOp Ft (dC (.int 10)) (dC (.int 6))) (aK)))))) 1 [0,1]))
def jV:List D->Option D:=fnD 3 3 (bJ (bD 3 (dOp HS (jC (au (dC (.int 0)) (aK))) (dOp dW (dCall nD (au (aj 0) (aK))) (aj 1))))
    (bJ (kY (JW (aj 0)) (gTn 2 (cQ (gNl 4) (cQ (gNl 5) (jJ)))) (bJ (LR 3 (aj 4) (dOp dW (dOp gIx (aj 3) (aj 4)) (dOp ig (aj 5) (dOp pO (dOp gIx (aj 2) (dC (.int 1))) (dOp gIx (aj 2) (dC (.int 0)))))))
    (LR 3 (dOp dW (aj 4) (aj 1)) (dOp dW (dOp gIx (aj 3) (dOp dW (aj 4) (aj 1))) (dOp ig (aj 5) (dOp gIx (aj 2) (dC (.int 0))))))))
    (cF (rM (aj 3)))))
def iZ:List D->Option D:=fnD 1 3 (bJ (bD 1 (jC (au (dC (.int 1)) (aK))))
    (bJ (kY (lD (aj 0)) (gTn 2 (cQ (gNl 2) (cQ (gNl 3) (jJ)))) (bD 1 (rM (dCall jV (au (aj 1) (au (aj 2) (au (aj 3) (aK))))))))
    (cF (rM (aj 1)))))
def gG:List D->Option D:=fnD 1 3 (bJ (bD 1 (dC (.int 1)))
    (bJ (kY (lD (aj 0)) (gTn 2 (cQ (gNl 2) (cQ (gNl 3) (jJ)))) (bD 1 (dOp ig (aj 1) (dOp gIx (aj 3) (dC (.int 1))))))
    (cF (bQ (aj 1)))))
def uW:List D->Option D:=fnD 2 1 (bJ (bD 2 (dCall lU (au (aj 0) (au (aj 1) (aK)))))
    (cF (dTup (au (dOp qw (aj 0) (aj 2)) (au (dOp qw (aj 1) (aj 2)) (aK))))))
def eN:List D->Option D:=fnD 2 2 (bJ (bD 2 (dCall gj (au (aj 0) (au (aj 1) (au (dC (.int 2)) (au (dC (.int 8)) (aK)))))))
    (bJ (sIf (aY (dOp gLt (aj 2) (dC (.int 2)))) (cF (dTup (au (bQ (aj 2)) (au (dC (.int 1)) (aK))))) (fP))
    (bJ (bD 3 (dOp dW (dC (.int 1)) (dCall gj (au (aj 0) (au (aj 1) (au (dC (.int 3)) (au (dOp gIx (jC (au (dC (.int 100)) (au (dC (.int 100)) (au (dC (.int 6)) (aK))))) (dOp gA (aj 2) (dC (.int 3)))) (aK))))))))
    (cF (dCall uW (au (dCall gj (au (aj 0) (au (aj 1) (au (dC (.int 4)) (au (dOp dW (aj 3) (dC (.int 1))) (aK)))))) (au (aj 3) (aK))))))))
def gH:List D->Option D:=fnD 1 0 (cF (oH (dUn (gIs "list") (aj 0)) (dCall fj (au (aj 0) (aK)))))
def iU:List D->Option D:=fnD 1 0 (cF (dTup (au (bQ (dOp gIx (aj 0) (dC (.int 0)))) (au (bQ (dOp gIx (aj 0) (dC (.int 1)))) (aK)))))
def gq:List D->Option D:=fnD 2 0 (cF (dCall qM (au (dCall pU (au (dSl (dCall iZ (au (aj 0) (aK))) (f9 (dOp dW (aj 1) (dC (.int 1)))) fZ) (aK))) (au (dCall gG (au (aj 0) (aK))) (aK)))))
def iV:List D->Option D:=fnD 1 0 (bJ (sIf (D3.tOr (D3.jO (aY (dCall gH (au (aj 0) (aK))))) (D3.jO (aY (jD gLe gLe (dC (.int 1)) (dCall nD (au (aj 0) (aK))) (dC (.int 4)))))) (cF (dC (.bool false))) (fP))
    (cF (oH (dOp gGe (dCall Fw (au (aj 0) (aK))) (dC (.int 0))) (dOp gLe (dCall pU (au (aj 0) (aK))) (dC (.int 12))))))
def jo:List D->Option D:=fnD 2 0 (cF (dCall pU (au (dSl (aj 0) (f9 (dOp pO (aj 1) (dC (.int 1)))) fZ) (aK))))
def fO:List D->Option D:=fnD 4 1 (bJ (bD 4 (iB (lD (aj 0)) (gNl 0) (D3.lA (aY (dOp gGe (dOp gIx (aj 0) (dC (.int 2))) (aj 1))) (aY (dCall nY (au (dCall iU (au (aj 0) (aK))) (au (aj 2) (aK)))))) (bQ (dTup (au (dC (.int 1)) (au (dOp gIx (aj 0) (dC (.int 3))) (aK))))) 1 [2,1]))
    (cF (dCall gq (au (aj 4) (au (dCall jo (au (aj 3) (au (aj 2) (aK)))) (aK))))))
def dD:List D->Option D:=fnD 2 1 (bJ (bD 2 (iB (lD (aj 0)) (gNl 0) (aY (jD gLt gLt (dOp gIx (aj 1) (dC (.int 0))) (dOp gIx (aj 0) (dC (.int 0))) (dOp gIx (aj 1) (dC (.int 1))))) (bQ (dOp gIx (aj 0) (dC (.int 0)))) 1 [1]))
    (cF (rM (dOp ud (jC (au (dOp gIx (aj 1) (dC (.int 0))) (aK))) (dCall JR (au (aj 2) (aK)))))))
def gD:List D->Option D:=fnD 4 4 (bJ (bD 4 (dOp ud (aj 0) (jC (au (aj 1) (aK)))))
    (bJ (kY (lD (dCall dD (au (aj 0) (au (aj 1) (aK))))) (gNl 5) (kY (rB (au (dC (.int 1)) (au (dOp dW (dOp gIx (aj 1) (dC (.int 2))) (dC (.int 1))) (aK)))) (gNl 6) (bJ (bD 7 (dCall fO (au (aj 4) (au (aj 5) (au (aj 6) (au (aj 2) (aK)))))))
    (sIf (aY (dCall jM (au (aj 3) (au (aj 7) (aK))))) (cF (dTup (au (bQ (aj 5)) (au (bQ (aj 6)) (au (bQ (aj 7)) (aK)))))) (fP)))))
    (cF (dC (.none)))))
def lq:List D->Option D:=fnD 1 0 (bJ (sIf (D3.tOr (D3.jO (aY (dUn (gIs "str") (aj 0)))) (D3.jO (aY (jD gLe gLe (dC (.int 1)) (dCall nD (au (aj 0) (aK))) (dC (.int 8)))))) (cF (dC (.bool false))) (fP))
    (cF (dCall CG (au (iB (lD (aj 0)) (gNl 0) (mD) (jD gLe gLe (dC (.str "a")) (aj 0) (dC (.str "z"))) 1 []) (aK)))))
def jr:List D->Option D:=fnD 2 1 (bJ (bD 2 (dCall eX (au (aj 0) (au (aj 1) (au (dC (.int 2)) (aK))))))
    (bJ (sIf (aY (dOp gEq (dOp gA (dOp gIx (aj 2) (dC (.int 0))) (dC (.int 2))) (dC (.int 0)))) (cF (iB (oJ (au (dC (.int 8)) (aK))) (gNl 0) (mD) (rM (dSl (dC (.str "abcdefgh")) fZ (f9 (dOp dW (aj 0) (dC (.int 1)))))) 1 [])) (fP))
    (bJ (bD 1 (dOp gA (dOp gIx (aj 2) (dC (.int 1))) (dC (.int 5))))
    (cF (iB (oJ (au (dC (.int 8)) (aK))) (gNl 0) (mD) (dOp dW (dOp dW (dSl (dC (.str "night")) fZ (f9 (aj 1))) (dOp gIx (dC (.str "abcdefgh")) (aj 0))) (dSl (dC (.str "night")) (f9 (dOp dW (aj 1) (dC (.int 1)))) fZ)) 1 [1])))))
def dZ:List D->Option D:=fnD 3 0 (cF (oH (dCall dX (au (aj 0) (aK))) (jD gLe gLe (aj 1) (aj 0) (aj 2))))
def dF:List D->Option D:=fnD 2 7 (bJ (bD 2 (dC (.int 0)))
    (bJ (bD 3 (dC (.int 1)))
    (bJ (kY (lD (aj 0)) (gNl 4) (bD 3 (dOp ig (aj 3) (dOp gIx (aj 4) (dC (.int 1))))))
    (bJ (kY (oJ (au (dOp LQ (dC (.int 1)) (dCall nD (au (aj 0) (aK)))) (aK))) (gNl 5) (bJ (bD 6 (iB (oJ (au (dCall nD (au (aj 0) (aK))) (aK))) (gNl 0) (mD) (dOp gA (dOp qw (aj 1) (dOp LQ (dC (.int 1)) (aj 0))) (dC (.int 2))) 1 [5]))
    (sIf (aY (dOp gGt (dCall pU (au (aj 6) (aK))) (aj 1))) (bJ (bD 7 (dC (.int 1)))
    (bJ (kY (oJ (au (dCall nD (au (aj 0) (aK))) (aK))) (gNl 8) (bD 7 (dOp ig (aj 7) (dOp gIx (jC (au (dOp pO (dOp gIx (dOp gIx (aj 0) (aj 8)) (dC (.int 1))) (dOp gIx (dOp gIx (aj 0) (aj 8)) (dC (.int 0)))) (au (dOp gIx (dOp gIx (aj 0) (aj 8)) (dC (.int 0))) (aK)))) (dOp gIx (aj 6) (aj 8))))))
    (bD 2 (dOp dW (aj 2) (aj 7))))) (fP))))
    (cF (dTup (au (bQ (aj 2)) (au (bQ (aj 3)) (aK)))))))))
def cD:List D->Option D:=fnD 4 5 (bJ (kY (rB (au (dOp gIx (aj 1) (dC (.int 2))) (au (dOp gIx (aj 1) (dC (.int 3))) (aK)))) (gNl 4) (kY (rB (au (dC (.int 1)) (au (dOp dW (dOp gIx (aj 1) (dC (.int 1))) (dC (.int 1))) (aK)))) (gNl 5) (bJ (bD 6 (iB (lD (dOp ud (aj 0) (jC (au (aj 1) (aK))))) (gNl 0) (D3.lA (aY (dOp gLe (dOp gIx (aj 0) (dC (.int 2))) (aj 1))) (D3.lA (aY (dOp gLt (aj 1) (dOp gIx (aj 0) (dC (.int 3))))) (aY (dOp gGe (dOp gIx (aj 0) (dC (.int 1))) (aj 2))))) (bQ (dOp gIx (aj 0) (dC (.int 4)))) 1 [4,5]))
    (bJ (zu (dCall dF (au (aj 6) (au (dCall pU (au (dSl (aj 2) (f9 (dOp pO (aj 5) (dC (.int 1)))) fZ) (aK))) (aK)))) (gTn 2 (cQ (gNl 7) (cQ (gNl 8) (jJ)))))
    (sIf (aY (dOp gGt (dOp ig (aj 7) (dOp gIx (aj 3) (dC (.int 1)))) (dOp ig (dOp gIx (aj 3) (dC (.int 0))) (aj 8)))) (cF (dTup (au (bQ (aj 4)) (au (bQ (aj 5)) (au (dCall cR (au (aj 7) (au (aj 8) (aK)))) (aK)))))) (fP))))))
    (cF (dC (.none))))
end Com
namespace Com
open D3 My
theorem v9{ns:List Int}{i:Int}(h0:0<=i)(h1:i<ns.length):pAt (ns.map bS) i=some (.int (ns.getD i.toNat 0)):=by
 unfold pAt pIx;rw[aG,if_pos h0,if_pos h1,aH,aR];have h:i.toNat<ns.length:=by omega
 rw[aO h];simp[List.getD,h]
theorem mW{l:List D}{k:Nat}:pAt l (k:Int)=l[k]?:=by
 unfold pAt pIx;rw[if_pos (by omega)];by_cases h:k<l.length
 ·rw[if_pos (by omega),aH];simp
 ·rw[if_neg (by omega),bL (by omega)];rfl
theorem at0{a:D}{l:List D}:pAt (a::l) 0=some a:=mW (k:=0)
theorem at1{a b:D}{l:List D}:pAt (a::b::l) 1=some b:=mW (k:=1)
theorem lX{i j:Int}(h:0<j):gA (.int i) (.int j)=some (.int (i%j)):=by
 show(if decide (j≠0)=true then some (bS (i.fmod j))else none)=_;rw[if_pos (dTr (by omega)),Int.fmod_eq_emod_of_nonneg i (by omega)]
theorem Q9{j:Int}(h:j.natAbs<2^64):j.natAbs<2^9000:=aZ h (dg (by decide) (by decide))
theorem Vj{i j:Int}(h:0<j)(h2:j.natAbs<2^9000):qw (.int i) (.int j)=some (.int (i/j)):=by
 show(if HN i j=true then some (bS (i.fdiv j))else none)=_;have e:HN i j=true:=by
  unfold HN;rw[aM];exact⟨dTr (by omega),dTr h2⟩
 rw[if_pos e,Int.fdiv_eq_ediv_of_nonneg i (by omega)]
theorem Y5{i j:Int}(h:0<j)(h2:j<18446744073709551616):qw (.int i) (.int j)=some (.int (i/j)):=Vj h (Q9 (by omega))
theorem mulL{i j:Int}(h1 : -18446744073709551616<i)(h2:i<18446744073709551616):ig (.int i) (.int j)=some (.int (i*j)):=by
 show(if vD i j=true then some (bS (i*j))else none)=_;have e:vD i j=true:=by
  unfold vD;rw[dTr (show i.natAbs<2^64 by omega)];rfl
 rw[if_pos e]
theorem mulR{i j:Int}(h1 : -18446744073709551616<j)(h2:j<18446744073709551616):ig (.int i) (.int j)=some (.int (i*j)):=by
 show(if vD i j=true then some (bS (i*j))else none)=_;have e:vD i j=true:=by
  unfold vD;rw[dTr (show j.natAbs<2^64 by omega),Bool.or_true];rfl
 rw[if_pos e]
theorem ao7{i j:Int}(h1:i.natAbs<2^9000)(h2:j.natAbs<2^9000):ig (.int i) (.int j)=some (.int (i*j)):=by
 show(if vD i j=true then some (bS (i*j))else none)=_;have p:(2:Nat)^9000<=2^30000:=dg (by decide) (by decide);have e:vD i j=true:=by
  unfold vD;rw[dTr (aZ h1 p),dTr (aZ h2 p)];simp
 rw[if_pos e]
theorem Wg:Ft (.int 10) (.int 40)=some (.int (10^40)):=rfl
theorem ao8:Ft (.int 10) (.int 6)=some (.int (10^6)):=rfl
theorem sz{n:Nat}(h:n<=1000000):n<=sizeLine:=bM h (by decide)
theorem shaped_ints(ns:List Int):cq (.list (ns.map bS))=true:=by
 have h1:∀ns:List Int,cr (ns.map bS)=true:=λns=>by
  induction ns with
  |nil=>rfl
  |cons a r Z=>simp[cr,cf,Z]
 have h2:∀ns:List Int,dc (ns.map bS)<=1:=λns=>by
  induction ns with
  |nil=>simp[dc]
  |cons a r Z=>simp[dc,da];omega
 unfold cq;rw[aM];refine⟨by simp[cf,h1],dTr ?_⟩;have:=h2 ns;simp only[da];omega
theorem eq_empty(ns:List Int):gEq (.list (ns.map bS)) (.list [])=some (.bool (decide (ns=[]))):=by
 unfold gEq;rw[shaped_ints ns]
 cases ns with
 |nil=>rfl
 |cons a r=>rfl
theorem M5{ns:List Int}{i:Int}(h0:0<=i):jj [.list (ns.map .int),.int i]=some (.int (yc ns i)):=by
 unfold jj yc;by_cases h:i<(ns.length:Int)
 ·rw[if_pos h];simp![lMp,dTr h,v9 h0 h,lX (show(0:Int)<1000000007 by decide)]
 ·rw[if_neg h];by_cases hn:ns=[]
  ·rw[if_pos hn];simp![lMp,dFa h,eq_empty,dTr hn,jh,mulL (show(-18446744073709551616:Int)<7919 by decide) (show(7919:Int)<18446744073709551616 by decide)]
  ·rw[if_neg hn];have hl:0<ns.length:=by
    cases ns with
    |nil=>exact absurd rfl hn
    |cons _ _=>simp
   have Y:0<=i*7%(ns.length:Int):=gF _ (by omega);have Z:i*7%(ns.length:Int)<(ns.length:Int):=eV _ (by omega);simp![lMp,dFa h,eq_empty,dFa hn,jh,mulL (show(-18446744073709551616:Int)<7919 by decide) (show(7919:Int)<18446744073709551616 by decide),mulR (show(-18446744073709551616:Int)<7 by decide) (show(7:Int)<18446744073709551616 by decide),lX (show(0:Int)<1000000007 by decide),lX (show(0:Int)<ns.length by omega),v9 Y Z]
theorem BZ{l:D}{i k m:D}(n:Int):∀(O:List D)(c:Nat)(y:Option U),(∀j∈O,∃x,j = .int x)->∃Y,lB (gNl 5) (bD 4 (dOp qw (aj 4) (dC (.int 1000003)))) O [some (.d l),some (.d i),some (.d k),some (.d m),some (.d (.int (divs n c))),y] =
 some (.nx [some (.d l),some (.d i),some (.d k),some (.d m),some (.d (.int (divs n (c+O.length)))),Y])
 |[],c,y,_=>⟨y,rfl⟩
 |j::O,c,y,h=>by
  obtain⟨Y,e⟩:=BZ (l:=l) (i:=i) (k:=k) (m:=m) n O (c+1) (some (.d j)) λj' Z=>h j' (aL _ Z)
  refine⟨Y,?_⟩;rw[lB];simp![Y5 (show(0:Int)<1000003 by decide) (show(1000003:Int)<18446744073709551616 by decide),aH];rw[show c+(O.length+1)=c+1+O.length by omega,<-e];rfl
theorem M6(lo hi:Int):∀j∈d_ lo hi,∃x,j = .int x:=by
 intro j Z;obtain⟨k,_,rfl⟩:=cZ.mp Z;exact⟨_,rfl⟩
theorem tR{ns:List Int}{i k m:Int}(h0:0<=i)(O:0<=k)(hk:k<=1000)(hm:0<m):gj [.list (ns.map .int),.int i,.int k,.int m]=some (.int (rF ns i k m)):=by
 have rest:∀x y:Option U,qFn ((bJ (bD 4 (dOp gA (dOp ig (dOp dW (dOp dW (dCall jj (au (aj 0) (au (aj 1) (aK)))) (dOp ig (dC (.int 65537)) (aj 1))) (dC (.int 3))) (dOp dW (dC (.int 1299709)) (dOp ig (dC (.int 15485863)) (aj 2)))) (dC (.int 2147483629))))
  (bJ (bD 4 (dOp dW (dOp gA (dOp ig (aj 4) (aj 4)) (dC (.int 1500450271))) (dC (.int 104729))))
  (cF (dOp gA (dOp qw (dOp gA (dOp ig (aj 4) (aj 4)) (dC (.int 715827883))) (dC (.int 64))) (aj 3))))) [some (.d (.list (ns.map .int))),some (.d (.int i)),some (.d (.int k)),some (.d (.int m)),x,y])=some (.int (KN (yc ns i) i k m)):=by
  intro x y;simp![M5 h0,mulL (show(-18446744073709551616:Int)<65537 by decide) (show(65537:Int)<18446744073709551616 by decide),mulL (show(-18446744073709551616:Int)<15485863 by decide) (show(15485863:Int)<18446744073709551616 by decide),mulR (i:=yc ns i+65537*i+3) (show(-18446744073709551616:Int)<1299709+15485863*k by omega) (show 1299709+15485863*k<(18446744073709551616:Int)by omega),lX (show(0:Int)<2147483629 by decide)]
  simp only[mulL (show(-18446744073709551616:Int)<(yc ns i+65537*i+3)*(1299709+15485863*k)%2147483629 by omega) (show(yc ns i+65537*i+3)*(1299709+15485863*k)%2147483629<(18446744073709551616:Int)by omega)];simp![lX (show(0:Int)<1500450271 by decide)];rw[mulL (by omega) (by omega)];simp![lX (show(0:Int)<715827883 by decide),Y5 (show(0:Int)<64 by decide) (show(64:Int)<18446744073709551616 by decide),lX hm];rfl
 unfold gj;rw[ad1];simp![];by_cases h:i<(ns.length:Int)
 ·by_cases h2:10^40<=ns.getD i.toNat 0
  ·simp![lMp,dTr h,v9 h0 h,Wg,dTr h2];obtain⟨Z,e⟩:=BZ (l:=.list (ns.map .int)) (i:=.int i) (k:=.int k) (m:=.int m) (ns.getD i.toNat 0) (d_ 0 k) 0 none (M6 0 k);have Y:0+(d_ 0 k).length=k.toNat:=by simp[d_]
   rw[Y]at e;have X:lB (gNl 5) (bD 4 (dOp qw (aj 4) (dC (.int 1000003)))) (d_ 0 k) [some (.d (.list (ns.map .int))),some (.d (.int i)),some (.d (.int k)),some (.d (.int m)),some (.d (.int (ns.getD i.toNat 0))),none] =
    some (.nx [some (.d (.list (ns.map .int))),some (.d (.int i)),some (.d (.int k)),some (.d (.int m)),some (.d (.int (divs (ns.getD i.toNat 0) k.toNat))),Z]):=e
   rw[Jc (by omega) (by omega)];simp![X];by_cases h3:0<divs (ns.getD i.toNat 0) k.toNat
   ·simp![dTr h3,lX (show(0:Int)<1000003 by decide),lX hm];rw[M4 h h2 h3]
   ·simp![dFa h3];rw[uV (λz=>h3 z.2.2)];have:=rest (some (.d (.int (divs (ns.getD i.toNat 0) k.toNat)))) Z;simp![]at this;exact this
  ·simp![lMp,dTr h,v9 h0 h,Wg,dFa h2];rw[uV (λz=>h2 z.2.1)];have:=rest none none;simp![]at this;exact this
 ·simp![lMp,dFa h];rw[uV (λz=>h z.1)];have:=rest none none;simp![]at this;exact this
end Com
namespace Com
open D3 My
theorem cEx{α:Type}{g:FG}{c:FT}{e:FE}{δ:DS}(f:α->D)(P:α->Prop):∀l:List D,(∀d∈l,∃O x,g d δ=some O/\c O=some true/\P x/\e O=some (f x))->∃xs:List α,xs.length=l.length/\(∀x∈xs,P x)/\jQ g c e δ l=some (xs.map f)
 |[],_=>⟨[],rfl,(λ_ h=>by cases h),rfl⟩
 |d::r,hs=>by
  obtain⟨O,x,W,X,Z,Y⟩:=hs d aN;obtain⟨xs,l1,h1,e4⟩:=cEx f P r λx hx=>hs x (aL _ hx)
  refine⟨x::xs,by simp[l1],λy hy=>?_,?_⟩
  ·rcases bI.mp hy with rfl|z
   ·exact Z
   ·exact h1 y z
  ·rw[jQ,W,aH,X,aH,if_pos rfl,Y,aH,e4];rfl
theorem Q_{α:Type}{g:FG}{c:FT}{e:FE}{δ:DS}(f:α->D)(p:α->Bool)(h:α->D):∀l:List α,(∀s∈l,∃O,g (f s) δ=some O/\c O=some (p s)/\(p s=true->e O=some (h s)))->jQ g c e δ (l.map f)=some ((l.filter p).map h)
 |[],_=>rfl
 |s::r,hs=>by
  obtain⟨O,W,X,Y⟩:=hs s aN;have Z:=Q_ f p h r λx hx=>hs x (aL _ hx)
  rw[bB,jQ,W,aH,X,aH];by_cases c:p s=true
  ·rw[if_pos c,Y c,aH,Z,mJ,if_pos c];rfl
  ·rw[if_neg c,Z,mJ,if_neg c]
theorem M7{α:Type}{g:FG}{c:FT}{e:FE}{δ:DS}(f:α->D)(h:α->D):∀l:List α,(∀s∈l,∃O,g (f s) δ=some O/\c O=some true/\e O=some (h s))->jQ g c e δ (l.map f)=some (l.map h)
 |[],_=>rfl
 |s::r,hs=>by
  obtain⟨O,X,Y,Z⟩:=hs s aN;rw[bB,jQ,X,aH,Y,aH,if_pos rfl,Z,aH,M7 f h r λx hx=>hs x (aL _ hx)];rfl
theorem p8{α:Type}(f:α->D)(h:∀a,flat (f a)=true):∀l:List α,flats (l.map f)=true
 |[]=>rfl
 |a::r=>by rw[bB,flats,h,p8 f h r];rfl
theorem Jd(l:List Int):flats (l.map bS)=true:=p8 _ (λ_=>rfl) l
theorem at2{a b c:D}{l:List D}:pAt (a::b::c::l) 2=some c:=mW (k:=2)
theorem at3{a b c d:D}{l:List D}:pAt (a::b::c::d::l) 3=some d:=mW (k:=3)
theorem tU{m:Int}:(d_ 0 m).length=m.toNat:=by unfold d_;rw[aG,lH,vh]
theorem Vk{m:Int}{d:D}(h:d∈d_ 0 m):∃k:Nat,(k:Int)<m/\d = .int (k:Int):=by
 obtain⟨k,Z,rfl⟩:=cZ.mp h;have:=eF.mp Z;exact⟨k,by omega,by rw[nP]⟩
theorem KQ(m:Int):d_ 0 m=(cB m.toNat).map λk:Nat=>bS (k:Int):=by
 unfold d_;rw[vh];apply nH;intro k _;rw[nP]
theorem Ra{v k:Int}(h:k<=1000000)(h' : -(2^63)<=k):HS (.list [.int v]) (.int k)=some (.list ((aX k.toNat v).map bS)):=by
 show(if [bS v].length*k.toNat<=1000000/\-(2^63)<=k/\k<2^63 then some (ev (aX k.toNat [bS v]).flatten)else none)=_;rw[if_pos ⟨by simp only[bC,nu];omega,h',by omega⟩];congr 2;generalize k.toNat=n
 induction n with
 |zero=>rfl
 |succ n Z=>rw[cY,gB,Z,cY,bB];rfl
theorem Ao{i j:Int}(h:0<j):0<=i%j/\i%j<j:=⟨gF _ (by omega),eV _ h⟩
theorem ao9:Ft (.int 10) (.int 9)=some (.int 1000000000):=rfl
theorem KR{l:List D}{k:Int}(h:0<=k):cuD l (some k) none=l.drop k.toNat:=by
 unfold cuD;have e:pSx l.length 0 (some k)=min k.toNat l.length:=by
  show(if k<0 then _ else _)=_;rw[if_neg (by omega)]
 rw[e,show pSx l.length l.length none=l.length from rfl];by_cases c:k.toNat<=l.length
 ·rw[show min k.toNat l.length=k.toNat by omega,jk (by rw[mH];omega)]
 ·rw[show min k.toNat l.length=l.length by omega,jl (by omega),jl (by omega)];simp
theorem ag3{l:List D}{k:Int}(h:0<=k):cuD l none (some k)=l.take k.toNat:=by
 unfold cuD;have e:pSx l.length l.length (some k)=min k.toNat l.length:=by
  show(if k<0 then _ else _)=_;rw[if_neg (by omega)]
 rw[e,show pSx l.length 0 none=0 from rfl,List.drop_zero,Nat.sub_zero,List.take_eq_take_iff];omega
theorem isList:D3.isT "list" "list"=true:=rfl
mutual
theorem eqv_refl:∀d:D,d.canLay0=true->cK d d=true
 | .none,_=>by simp[cK]
 | .bool b,_=>by simp[cK]
 | .int i,_=>by simp[cK]
 | .str x,_=>by simp[cK]
 | .list l,h=>by
  have:=eqvAll_refl l (by simpa[cf]using h);simpa[cK]using this
 | .tuple l,h=>by
  have:=eqvAll_refl l (by simpa[cf]using h);simpa[cK]using this
 | .dict l,h=>by simp[cf]at h
theorem eqvAll_refl:∀l:List D,cr l=true->eh l l=true
 |[],_=>by simp[eh]
 |d::r,h=>by
  rw[cr,aM]at h;rw[eh,eqv_refl d h.1,eqvAll_refl r h.2];rfl
end
def ly(n:Nat)(d:D):Prop:=d.canLay0=true/\d.depth<=n
def lys(n:Nat)(l:List D):Prop:=cr l=true/\dc l<=n
theorem sS{n m:Nat}{d:D}(h:ly n d)(l:n<=m):ly m d:=⟨h.1,bM h.2 l⟩
theorem tV{n:Nat}:lys n []:=⟨by simp[cr],by simp[dc]⟩
theorem iy{n:Nat}{d:D}{l:List D}(h:ly n d)(q:lys n l):lys n (d::l):=
 ⟨by rw[cr,h.1,q.1];rfl,by have:=h.2;have:=q.2;simp only[dc];omega⟩
theorem KY{α:Type}{n:Nat}(f:α->D)(h:∀a,ly n (f a)):∀l:List α,lys n (l.map f)
 |[]=>tV
 |a::r=>iy (h a) (KY f h r)
theorem Du{n:Nat}{l:List D}(h:lys n l):ly (n+1) (.list l):=⟨by simp[cf,h.1],by have:=h.2;simp only[da];omega⟩
theorem Dv{n:Nat}{l:List D}(h:lys n l):ly (n+1) (.tuple l):=⟨by simp[cf,h.1],by have:=h.2;simp only[da];omega⟩
theorem pH{n:Nat}{i:Int}:ly (n+1) (.int i):=⟨rfl,by simp[da]⟩
theorem ou{d:D}(h:ly 60 d):cq d=true:=by
 unfold cq;rw[aM];exact⟨h.1,dTr (by have:=h.2;omega)⟩
theorem eq_self{d:D}(h:ly 60 d):gEq d d=some (.bool true):=by
 unfold gEq;rw[ou h,eqv_refl d h.1];rfl
theorem ne_self{d:D}(h:ly 60 d):gNe d d=some (.bool false):=by
 unfold gNe;rw[ou h,eqv_refl d h.1];rfl
end Com
namespace Com
open D3 My
theorem Rc:∀(m:Nat)(a b:Int)(x:Option U),0<=a->0<=b->b.toNat<=m->∃O n,fM (aY (dOp gNe (aj 1) (dC (.int 0)))) (bJ (bD 2 (dOp gA (aj 0) (aj 1))) (bJ (bD 0 (aj 1)) (bD 1 (aj 2)))) n [some (.d (.int a)),some (.d (.int b)),x] =
 some (.nx [some (.d (.int (nF a b))),some (.d (.int 0)),O]):=by
 intro m
 induction m with
 |zero=>
  intro a b x ha hb hm;obtain rfl:b=0:=by omega
  refine⟨x,1,?_⟩;rw[fM];simp![];rw[oh ha];rfl
 |succ m Y=>
  intro a b x ha hb hm;by_cases h:b=0
  ·subst h;refine⟨x,1,?_⟩;rw[fM];simp![];rw[oh ha];rfl
  ·have Z:0<b:=by omega
   have h1:0<=a%b:=gF _ (by omega);have h2:a%b<b:=eV _ Z;obtain⟨O,n,e⟩:=Y b (a%b) (some (.d (.int (a%b)))) hb h1 (by omega);refine⟨O,n+1,?_⟩;rw[fM];simp![dFa h,aH,lX Z];rw[<-w6 ha Z,<-e]
theorem Gs{a b:Int}(ha:0<=a)(hb:0<=b):cO [.int a,.int b]=some (.int (nF a b)):=by
 unfold cO;simp![];obtain⟨Z,n,e⟩:=Rc b.toNat a b none ha hb (aQ _);rw[wO e];simp![]
noncomputable def rD(r:Rat):D:=.tuple [.int r.num,.int r.den]
def q(t b:Int):Rat:=mkRat t b.toNat
theorem tW{t b:Int}(h:0<b):0<nF t b:=by
 unfold nF;have:0<Cj t.natAbs b.natAbs:=Nat.gcd_pos_of_pos_right _ (by omega);omega
theorem Dw{t b:Int}(h:0<b):nF t b<=b:=by
 unfold nF;have:Cj t.natAbs b.natAbs<=b.natAbs:=Nat.gcd_le_right _ (by omega);omega
theorem zP{t b:Int}(h:0<b):(q t b).num=t/nF t b:=by
 unfold q nF;rw[Rat.num_mkRat,if_neg (by omega),qm];have e:b.natAbs=b.toNat:=by omega
 rw[e]
theorem B_{t b:Int}(h:0<b):((q t b).den:Int)=b/nF t b:=by
 unfold q nF;rw[Rat.den_mkRat,if_neg (by omega),qm];have e:b.natAbs=b.toNat:=by omega
 rw[e];rw[Int.natCast_ediv];congr 1;omega
theorem xg{b c:Int}(h0:0<=c)(h:c<=b){n:Nat}(hb:b.natAbs<n):c.natAbs<n:=by omega
theorem Gu{t b:Int}(h:0<b)(hb:b.natAbs<2^9000):oU [.int t,.int b]=some (rD (q t b)):=by
 have Z:=tW (t:=t) h;have g1:=Dw (t:=t) h;have X:0<=(if t<0 then -t else t):=by split<;>omega
 have Y:0<=(if b<0 then -b else b):=by split<;>omega
 unfold oU;simp![Gs X Y,Q8,dFa (show ¬b<0 by omega),Vj Z (xg (by omega) g1 hb),sz (show 2<=1000000 by decide)];unfold rD;rw[zP h,B_ h]
theorem M8(i:Int):dX [.int i]=some (.bool true):=by
 unfold dX;simp![tyD,D3.isT];rfl
theorem Je{t b:Int}(h:0<b)(hb:b.natAbs<2^9000):qM [.int t,.int b]=some (rD (q t b)):=by
 unfold qM;simp![M8,dFa (show ¬b=0 by omega),Gu h hb]
end Com
namespace Com
open D3 My
def sm(k:Nat)(x:Int):Prop:=x.natAbs<2^k
theorem j9{k l:Nat}{x:Int}(h:sm k x)(hl:k<=l):sm l x:=aZ h (dg (by decide) hl)
theorem Rf{k l:Nat}{x y:Int}(h:sm k x)(h':sm l y):sm (k+l) (x*y):=by
 unfold sm at *;rw[Int.natAbs_mul,Nat.pow_add];exact Nat.mul_lt_mul'' h h'
theorem Rg{k:Nat}{x y:Int}(h:sm k y)(h0:0<=x)(h1:x<=y):sm k x:=by
 unfold sm at *;omega
theorem yq{i j:Int}(h1:sm 4000 i)(h2:sm 4000 j):ig (.int i) (.int j)=some (.int (i*j)):=ao7 (j9 h1 (by decide)) (j9 h2 (by decide))
theorem M9:∀(m:Nat)(a b:Int),0<=a->0<=b->b.toNat<=m->∃n,fM (aY (dOp gGt (aj 1) (dC (.int 0)))) (Xh 0 1 (au (aj 1) (au (dOp gA (aj 0) (aj 1)) (aK)))) n [some (.d (.int a)),some (.d (.int b))] =
 some (.nx [some (.d (.int (nF a b))),some (.d (.int 0))]):=by
 intro m
 induction m with
 |zero=>
  intro a b ha hb hm;obtain rfl:b=0:=by omega
  refine⟨1,?_⟩;rw[fM];simp![];rw[oh ha];rfl
 |succ m Y=>
  intro a b ha hb hm;by_cases h:b=0
  ·subst h;refine⟨1,?_⟩;rw[fM];simp![];rw[oh ha];rfl
  ·have Z:0<b:=by omega
   have h1:0<=a%b:=gF _ (by omega);have h2:a%b<b:=eV _ Z;obtain⟨n,e⟩:=Y b (a%b) hb h1 (by omega);refine⟨n+1,?_⟩;rw[fM];simp![dTr Z,aH,lX Z,and_self];rw[<-w6 ha Z,<-e]
theorem M_{a b:Int}(ha:0<=a)(hb:0<=b):lU [.int a,.int b]=some (.int (nF a b)):=by
 unfold lU;simp![];obtain⟨n,e⟩:=M9 b.toNat a b ha hb (aQ _);rw[wO e];simp![]
theorem sU{t b:Int}(O:0<=t)(h:0<b)(hb:sm 4000 b):uW [.int t,.int b]=some (rD (q t b)):=by
 have Z:=tW (t:=t) h;have g1:=Dw (t:=t) h;unfold uW;simp![M_ O (dO h),Vj Z (xg (by omega) g1 (j9 hb (show 4000<=9000 by decide))),sz (show 2<=1000000 by decide)];unfold rD;rw[zP h,B_ h]
def wg(p:Rat):Prop:=0<=p.num/\p.num<=p.den/\p.den<=100
theorem Gv{t b:Int}(h0:0<=t)(h1:t<=b)(hb:0<b)(h2:b<=100):wg (q t b):=by
 have Z:=tW (t:=t) hb;have en:=zP (t:=t) hb;have Y:=B_ (t:=t) hb;refine⟨by rw[en];exact Int.ediv_nonneg h0 (by omega),by rw[en,Y];exact Int.ediv_le_ediv Z h1,?_⟩;have:b/nF t b<=b:=Int.ediv_le_self _ (by omega);omega
theorem ag4(n:Int):rD (q n 1) = .tuple [.int n,.int 1]:=by
 have en:=zP (t:=n) (b:=1) (by decide);have Z:=B_ (t:=n) (b:=1) (by decide);have g1:=Dw (t:=n) (b:=1) (by decide);have Y:=tW (t:=n) (b:=1) (by decide);have g:nF n 1=1:=by omega
 unfold rD;rw[en,Z,g];simp
theorem pA(ns:List Int){i:Int}(h0:0<=i):∃p,wg p/\eN [.list (ns.map .int),.int i]=some (rD p):=by
 have r:=pq ns i 2 (m:=8) (by decide);unfold eN;simp![tR (ns:=ns) h0 (show(0:Int)<=2 by decide) (show(2:Int)<=1000 by decide) (show(0:Int)<8 by decide)];generalize rF ns i 2 8=x at *;by_cases h:x<2
 ·refine⟨q x 1,Gv r.1 (by omega) (by decide) (by decide),?_⟩;simp![dTr h,sz (show 2<=1000000 by decide)];rw[ag4]
 ·have h3:0<=x%3:=gF _ (by decide);have h4:x%3<3:=eV _ (by decide);have X:∃v,0<v/\v<=100/\pAt [bS 100,bS 100,bS 6] (x%3)=some (.int v):=by
   have:x%3=0\/x%3=1\/x%3=2:=by omega
   rcases this with e|e|e
   ·exact⟨100,by decide,by decide,by rw[e];rfl⟩
   ·exact⟨100,by decide,by decide,by rw[e];rfl⟩
   ·exact⟨6,by decide,by decide,by rw[e];rfl⟩
  obtain⟨v,Z,V,W⟩:=X;have U:=pq ns i 3 (m:=v) Z;simp![dFa h,sz (show 3<=1000000 by decide),lX (show(0:Int)<3 by decide),W,tR (ns:=ns) h0 (show(0:Int)<=3 by decide) (show(3:Int)<=1000 by decide) Z];generalize rF ns i 3 v=y at *;have Y:=pq ns i 4 (m:=1+y+1) (by omega);simp![tR (ns:=ns) (m:=1+y+1) h0 (show(0:Int)<=4 by decide) (show(4:Int)<=1000 by decide) (by omega)];generalize rF ns i 4 (1+y+1)=z at *;have s1:sm 4000 (1+y):=by
   unfold sm;exact aZ (show(1+y).natAbs<2^8 by omega) (dg (by decide) (by decide))
  refine⟨q z (1+y),Gv Y.1 (by omega) (by omega) (by omega),?_⟩;rw[sU Y.1 (by omega) s1];simp![]
abbrev RwQ:=Int×Rat
def yr(r:RwQ):D:=.tuple [.int r.1,rD r.2]
def rG(r:RwQ):Prop:=1<=r.1/\r.1<=4/\wg r.2
end Com
namespace Com
open D3 My
def tabI(N:Nat)(f:Nat->Int):List D:=(cB N).map λj=>.int (f j)
theorem m8(N:Nat)(f:Nat->Int):(tabI N f).length=N:=by simp[tabI]
theorem qb{N k:Nat}(f:Nat->Int)(h:k<N):(tabI N f)[k]? = some (.int (f k)):=by
 unfold tabI;rw[aR,gM h];rfl
theorem Gw(N k:Nat)(f:Nat->Int)(v:Int):(tabI N f).set k (.int v)=tabI N (λj=>if j=k then v else f j):=by
 apply vm;intro n;rw[vg];by_cases Z:k=n
 ·subst Z;rw[if_pos rfl,m8];by_cases h:k<N
  ·rw[if_pos h,qb _ h,if_pos rfl]
  ·rw[if_neg h,bL (by rw[m8];omega)]
 ·rw[if_neg Z];by_cases h:n<N
  ·rw[qb _ h,qb _ h,if_neg (λz=>Z z.symm)]
  ·rw[bL (by rw[m8];omega),bL (by rw[m8];omega)]
theorem uX{N:Nat}{f g:Nat->Int}(h:∀j,j<N->f j=g j):tabI N f=tabI N g:=by
 unfold tabI;apply nH;intro j Z;rw[h j (eF.mp Z)]
theorem Nb(n:Nat):(aX n [bS 0]).flatten=tabI n (λ_=>0):=by
 induction n with
 |zero=>rfl
 |succ n Z=>
  rw[List.replicate_succ',List.flatten_append,Z];unfold tabI;rw[rA,bG];rfl
theorem xq(N:Nat)(f:Nat->Int):flats (tabI N f)=true:=by
 unfold tabI;generalize cB N=l
 induction l with
 |nil=>rfl
 |cons a r Z=>simp[flats,flat,Z]
theorem KZ{n k:Nat}(h:k<n):pIx n (k:Int)=some k:=by
 unfold pIx;rw[if_pos (by omega),if_pos (by omega)];rfl
noncomputable def m9(w:Nat->Int)(m:Int)(p:Rat):Nat->Int:=λj=>w j*(p.den-p.num)+(if m.toNat<=j then w (j-m.toNat)*p.num else 0)
noncomputable def sV(w:Nat->Int)(m:Int)(p:Rat)(i:Nat):Nat->Int:=λj=>(if j<i then w j*(p.den-p.num)else 0)+(if m.toNat<=j/\j-m.toNat<i then w (j-m.toNat)*p.num else 0)
theorem Jf{w:Nat->Int}{m:Int}{p:Rat}{i:Nat}(hm:1<=m)(j:Nat):
 (if j=i+m.toNat then(if i+m.toNat=i then sV w m p i i+w i*(p.den-p.num)else sV w m p i (i+m.toNat))+w i*p.num else if j=i then sV w m p i i+w i*(p.den-p.num)else sV w m p i j)=sV w m p (i+1) j:=by
 have X:0<m.toNat:=by omega
 unfold sV;by_cases h1:j=i+m.toNat
 ·subst h1;rw[if_pos rfl,if_neg (show ¬i+m.toNat=i by omega),if_neg (show ¬i+m.toNat<i by omega),if_neg (show ¬(m.toNat<=i+m.toNat/\i+m.toNat-m.toNat<i)by omega),if_neg (show ¬i+m.toNat<i+1 by omega),if_pos (show m.toNat<=i+m.toNat/\i+m.toNat-m.toNat<i+1 by omega),show i+m.toNat-m.toNat=i by omega];omega
 ·rw[if_neg h1];by_cases h2:j=i
  ·subst h2;rw[if_pos rfl,if_neg (show ¬j<j by omega),if_pos (show j<j+1 by omega)];by_cases h3:m.toNat<=j
   ·rw[if_pos (show m.toNat<=j/\j-m.toNat<j by omega),if_pos (show m.toNat<=j/\j-m.toNat<j+1 by omega)];omega
   ·rw[if_neg (show ¬(m.toNat<=j/\j-m.toNat<j)by omega),if_neg (show ¬(m.toNat<=j/\j-m.toNat<j+1)by omega)];omega
  ·rw[if_neg h2];have Y:(j<i)<->(j<i+1):=by omega
   have Z:(m.toNat<=j/\j-m.toNat<i)<->(m.toNat<=j/\j-m.toNat<i+1):=by omega
   simp only[Y,Z]
theorem Aq{N:Nat}{w:Nat->Int}{m:Int}{p:Rat}(hN:N<=1000)(hm:1<=m)(hm4:m<=4)(hw:∀j,sm 3000 (w j))(O:∀j,N<=j->w j=0)(hp:wg p):
 jV [.list (tabI N w),.int m,rD p]=some (.list (tabI (N+m.toNat) (m9 w m p))):=by
 obtain⟨T,p1,p2⟩:=hp;have sp:sm 4000 p.num:=by unfold sm;exact aZ (show p.num.natAbs<2^8 by omega) (dg (by decide) (by decide))
 have X:sm 4000 (p.den-p.num):=by unfold sm;exact aZ (show((p.den:Int)-p.num).natAbs<2^8 by omega) (dg (by decide) (by decide))
 unfold jV rD;simp![m8,sz (show 1<=1000000 by decide)];have V:HS (.list [.int 0]) (.int (N+m))=some (.list (tabI (N+m.toNat) (λ_=>0))):=by
  show(if [bS 0].length*((N:Int)+m).toNat<=1000000/\-(2^63)<=(N:Int)+m/\(N:Int)+m<2^63 then some (ev (aX ((N:Int)+m).toNat [bS 0]).flatten)else none)=_;rw[if_pos (by simp only[bC,nu];omega),Nb,show((N:Int)+m).toNat=N+m.toNat by omega]
 simp![V];obtain⟨W,e,x,y,rfl⟩:=jm (g:=gTn 2 (cQ (gNl 4) (cQ (gNl 5) (jJ)))) (b:=(bJ (LR 3 (aj 4) (dOp dW (dOp gIx (aj 3) (aj 4)) (dOp ig (aj 5) (dOp pO (dOp gIx (aj 2) (dC (.int 1))) (dOp gIx (aj 2) (dC (.int 0)))))))
  (LR 3 (dOp dW (aj 4) (aj 1)) (dOp dW (dOp gIx (aj 3) (dOp dW (aj 4) (aj 1))) (dOp ig (aj 5) (dOp gIx (aj 2) (dC (.int 0))))))))
  (λi δ=>∃x y,δ=[some (.d (.list (tabI N w))),some (.d (.int m)),some (.d (.tuple [.int p.num,.int p.den])),some (.d (.list (tabI (N+m.toNat) (sV w m p i)))),x,y]) (o_ (tabI N w))
  [some (.d (.list (tabI N w))),some (.d (.int m)),some (.d (.tuple [.int p.num,.int p.den])),some (.d (.list (tabI (N+m.toNat) (λ_=>0)))),none,none]
  ⟨none,none,by
   have:tabI (N+m.toNat) (λ_=>0)=tabI (N+m.toNat) (sV w m p 0):=uX λj _=>by
    unfold sV;rw[if_neg (by omega),if_neg (by omega)];rfl
   rw[this]⟩ (by
   rintro i d δ hd ⟨x,y,rfl⟩;unfold o_ at hd;rw[fX]at hd;by_cases hi:i<N
   ·rw[qb _ hi]at hd
    cases hd;have Y:i<N+m.toNat:=by omega
    have Z:i+m.toNat<N+m.toNat:=by omega
    have g1:∀f:Nat->Int,pAt (tabI (N+m.toNat) f) (i:Int)=some (.int (f i)):=λf=>by rw[mW,qb _ Y]
    have em:(i:Int)+m=((i+m.toNat:Nat):Int):=by omega
    have g2:∀f:Nat->Int,pAt (tabI (N+m.toNat) f) ((i:Int)+m)=some (.int (f (i+m.toNat))):=λf=>by rw[em,mW,qb _ Z]
    have x1:pIx (N+m.toNat) (i:Int)=some i:=KZ Y;have x2:pIx (N+m.toNat) ((i:Int)+m)=some (i+m.toNat):=by rw[em];exact KZ Z
    refine⟨_,_,rfl,.inl ?_,some (.d (.int (i:Int))),some (.d (.int (w i))),rfl⟩;simp![g1,at0,at1,yq (j9 (hw i) (show 3000<=4000 by decide)) X,m8,x1,aH,Gw];simp![g2,yq (j9 (hw i) (show 3000<=4000 by decide)) sp,x2,m8,aH,Gw];rw[uX (N:=N+m.toNat) λj _=>Jf (w:=w) (p:=p) (i:=i) hm j]
   ·rw[bL (by rw[m8];omega)]at hd
    cases hd)
 rw[e];have U:(o_ (tabI N w)).length=N:=by simp[o_,tabI]
 have ef:tabI (N+m.toNat) (sV w m p (o_ (tabI N w)).length)=tabI (N+m.toNat) (m9 w m p):=uX λj S=>by
  rw[U];unfold sV m9;congr 1
  ·by_cases h:j<N
   ·rw[if_pos h]
   ·rw[if_neg h,O j (by omega),nQ]
  ·by_cases h:m.toNat<=j
   ·rw[if_pos h,if_pos ⟨h,by omega⟩]
   ·rw[if_neg h,if_neg (λz=>h z.1)]
 simp![ef,xq]
structure Tb where
 N:Nat
 w:Nat->Int
 B:Int
def tb0:Tb:=⟨1,λj=>if j=0 then 1 else 0,1⟩
def tbS(t:Tb)(r:RwQ):Tb:=⟨t.N+r.1.toNat,m9 t.w r.1 r.2,t.B*r.2.den⟩
def jE(rs:List RwQ):Tb:=rs.foldl tbS tb0
theorem xr(rs:List RwQ)(r:RwQ):jE (rs++[r])=tbS (jE rs) r:=by
 unfold jE;rw[List.foldl_append];rfl
noncomputable def sumTo(f:Nat->Int):Nat->Int
 |0=>0
 |n+1=>sumTo f n+f n
theorem tX(f g:Nat->Int):∀n,sumTo (λj=>f j+g j) n=sumTo f n+sumTo g n
 |0=>rfl
 |n+1=>by simp only[sumTo,tX f g n];omega
theorem mQ(f:Nat->Int)(c:Int):∀n,sumTo (λj=>f j*c) n=sumTo f n*c
 |0=>by simp[sumTo]
 |n+1=>by simp only[sumTo,mQ f c n,Int.add_mul]
theorem gU{f g:Nat->Int}:∀n,(∀j,j<n->f j=g j)->sumTo f n=sumTo g n
 |0,_=>rfl
 |n+1,h=>by simp only[sumTo,gU n λj Z=>h j (by omega),h n (by omega)]
theorem uY{f:Nat->Int}{N:Nat}(h:∀j,N<=j->f j=0):∀k,sumTo f (N+k)=sumTo f N
 |0=>rfl
 |k+1=>by
  rw[show N+(k+1)=N+k+1 by omega,sumTo,uY h k,h (N+k) (by omega)];omega
theorem sW(f:Nat->Int)(M:Nat):∀n,sumTo (λj=>if M<=j then f (j-M)else 0) (n+M)=sumTo f n
 |0=>by
  have:∀k,k<=M->sumTo (λj=>if M<=j then f (j-M)else 0) k=0:=λk=>by
   induction k with
   |zero=>exact λ_=>rfl
   |succ k Z=>intro h;rw[sumTo,Z (by omega),if_neg (by omega)];rfl
  rw[iJ,this M (aQ _)];rfl
 |n+1=>by
  rw[show n+1+M=n+M+1 by omega,sumTo,sW f M n,if_pos (by omega),show n+M-M=n by omega];rfl
structure TbOk(t:Tb)(k:Nat):Prop where
 B0:0<t.B
 Bs:sm (7*k+1) t.B
 w0:∀j,0<=t.w j
 wB:∀j,t.w j<=t.B
 wz:∀j,t.N<=j->t.w j=0
 N1:1<=t.N
 N4:t.N<=1+4*k
 sum:sumTo t.w t.N=t.B
theorem Jg:TbOk tb0 0:=⟨by decide,by unfold sm;decide,λj=>by show 0<=if j=0 then(1:Int)else 0;split<;>decide,λj=>by show(if j=0 then(1:Int)else 0)<=1;split<;>decide,
 λj (Z:1<=j)=>by show(if j=0 then(1:Int)else 0)=0;rw[if_neg (by omega)],aQ _,aQ _,rfl⟩
theorem zQ{t:Tb}{k:Nat}{r:RwQ}(h:TbOk t k)(O:rG r):TbOk (tbS t r) (k+1):=by
 obtain⟨m,p⟩:=r;obtain⟨h1,h2,Z,p1,p2⟩:=O;dsimp only at h1 h2 Z p1 p2;have X:(0:Int)<p.den:=by have:=p.den_nz;omega
 have W:∀j,0<=t.w j*(p.den-p.num):=λj=>g_ (h.w0 j) (by omega)
 have nm:∀j,0<=t.w j*p.num:=λj=>g_ (h.w0 j) Z
 refine⟨Int.mul_pos h.B0 X,?_,λj=>?_,λj=>?_,λj Y=>?_,?_,?_,?_⟩
 ·have e:sm 7 (p.den:Int):=by unfold sm;have:(2:Nat)^7=128:=rfl;omega
  have:=Rf h.Bs e;rw[show 7*(k+1)+1=7*k+1+7 by omega];exact this
 ·show 0<=m9 t.w m p j;unfold m9;have:=W j;split
  ·have:=nm (j-m.toNat);omega
  ·omega
 ·show m9 t.w m p j<=t.B*p.den;unfold m9;have a1:t.w j*(p.den-p.num)<=t.B*(p.den-p.num):=cI (h.wB j) (by omega);have a3:t.B*(p.den-p.num)+t.B*p.num=t.B*p.den:=by rw[<-Int.mul_add];congr 1;omega
  have a4:0<=t.B*p.num:=g_ (dO h.B0) Z;split
  ·have a2:t.w (j-m.toNat)*p.num<=t.B*p.num:=cI (h.wB _) Z;omega
  ·omega
 ·have V:t.N+m.toNat<=j:=Y;show m9 t.w m p j=0;unfold m9;rw[h.wz j (by omega),if_pos (by omega),h.wz (j-m.toNat) (by omega)];omega
 ·show 1<=t.N+m.toNat;have:=h.N1;omega
 ·show t.N+m.toNat<=1+4*(k+1);have:=h.N4;omega
 ·show sumTo (m9 t.w m p) (t.N+m.toNat)=t.B*p.den;have U:sumTo (m9 t.w m p) (t.N+m.toNat)=sumTo (λj=>t.w j*(p.den-p.num)) (t.N+m.toNat)+sumTo (λj=>if m.toNat<=j then(λi=>t.w i*p.num) (j-m.toNat)else 0) (t.N+m.toNat):=tX _ _ _;rw[U,sW (λi=>t.w i*p.num) m.toNat t.N,uY (λj Y=>by rw[h.wz j Y,nQ]) m.toNat,mQ,mQ,h.sum,<-Int.mul_add];congr 1;omega
theorem K1:∀(rs:List RwQ)(t:Tb)(k:Nat),TbOk t k->(∀r∈rs,rG r)->TbOk (rs.foldl tbS t) (k+rs.length)
 |[],_,_,h,_=>h
 |r::rs,t,k,h,Z=>by
  have:=K1 rs (tbS t r) (k+1) (zQ h (Z r aN)) λx hx=>Z x (aL _ hx)
  rw[bC,show k+(rs.length+1)=k+1+rs.length by omega];exact this
theorem tY{rs:List RwQ}(h:∀r∈rs,rG r):TbOk (jE rs) rs.length:=by
 have:=K1 rs tb0 0 Jg h;rw[iJ]at this;exact this
theorem xu{rs:List RwQ}(h:∀r∈rs,rG r)(hl:rs.length<=64):iZ [.list (rs.map yr)]=some (.list (tabI (jE rs).N (jE rs).w)):=by
 unfold iZ;simp![sz (show 1<=1000000 by decide)];have V:[bS 1]=tabI tb0.N tb0.w:=rfl;obtain⟨Y,e,x,y,rfl⟩:=jm (g:=gTn 2 (cQ (gNl 2) (cQ (gNl 3) (jJ)))) (b:=(bD 1 (rM (dCall jV (au (aj 1) (au (aj 2) (au (aj 3) (aK))))))))
  (λi δ=>∃x y,δ=[some (.d (.list (rs.map yr))),some (.d (.list (tabI (jE (rs.take i)).N (jE (rs.take i)).w))),x,y]) (rs.map yr)
  [some (.d (.list (rs.map yr))),some (.d (.list [.int 1])),none,none] ⟨none,none,by rw[V];rfl⟩ (by
   rintro i d δ hd ⟨x,y,rfl⟩;rw[aR]at hd
   cases Z:rs[i]? with
   |none=>rw[Z]at hd;cases hd
   |some r=>
    rw[Z]at hd
    cases hd;have hi:i<rs.length:=by
     rcases lG i rs.length with z|z
     ·exact z
     ·rw[bL z]at Z;cases Z
    have hok:=h r (cA Z);have T:=tY (rs:=rs.take i) λx hx=>h x (mZ hx)
    have W:(rs.take i).length=i:=by rw[fU];omega
    rw[W]at T;have es:rs.take (i+1)=rs.take i++[r]:=by rw[iK,Z];rfl
    have X:sm 3000 (jE (rs.take i)).B:=j9 T.Bs (by omega);have U:=Aq (N:=(jE (rs.take i)).N) (w:=(jE (rs.take i)).w) (m:=r.1) (p:=r.2) (by have:=T.N4;omega) hok.1 hok.2.1 (λj=>Rg X (T.w0 j) (T.wB j)) T.wz hok.2.2;refine⟨_,_,rfl,.inl ?_,some (.d (.int r.1)),some (.d (rD r.2)),rfl⟩;simp![U,xq];rw[es,xr];rfl)
 rw[e,aG,jd];simp![xq]
theorem uZ{rs:List RwQ}(h:∀r∈rs,rG r)(hl:rs.length<=64):gG [.list (rs.map yr)]=some (.int (jE rs).B):=by
 unfold gG;simp![];obtain⟨Y,e,x,y,rfl⟩:=jm (g:=gTn 2 (cQ (gNl 2) (cQ (gNl 3) (jJ)))) (b:=(bD 1 (dOp ig (aj 1) (dOp gIx (aj 3) (dC (.int 1))))))
  (λi δ=>∃x y,δ=[some (.d (.list (rs.map yr))),some (.d (.int (jE (rs.take i)).B)),x,y]) (rs.map yr)
  [some (.d (.list (rs.map yr))),some (.d (.int 1)),none,none] ⟨none,none,rfl⟩ (by
   rintro i d δ hd ⟨x,y,rfl⟩;rw[aR]at hd
   cases Z:rs[i]? with
   |none=>rw[Z]at hd;cases hd
   |some r=>
    rw[Z]at hd
    cases hd;have hi:i<rs.length:=by
     rcases lG i rs.length with z|z
     ·exact z
     ·rw[bL z]at Z;cases Z
    have hok:=h r (cA Z);have T:=tY (rs:=rs.take i) λx hx=>h x (mZ hx)
    have V:(rs.take i).length=i:=by rw[fU];omega
    rw[V]at T;have es:rs.take (i+1)=rs.take i++[r]:=by rw[iK,Z];rfl
    have W:sm 3000 (jE (rs.take i)).B:=j9 T.Bs (by omega);have X:sm 4000 (r.2.den:Int):=by
     unfold sm;have:=hok.2.2.2.2;exact aZ (show((r.2.den:Nat):Int).natAbs<2^8 by omega) (dg (by decide) (by decide))
    refine⟨_,_,rfl,.inl ?_,some (.d (.int r.1)),some (.d (rD r.2)),rfl⟩;unfold rD;simp![at1,yq (j9 W (show 3000<=4000 by decide)) X];rw[es,xr];rfl)
 rw[e,aG,jd];simp![]
end Com
namespace Com
open D3 My
theorem Vl{x y:Int}(h:0<y):(q x y).num*y=x*(q x y).den:=by
 have e:=Rat.mkRat_eq_iff (d₁:=(q x y).den) (d₂:=y.toNat) (n₁:=(q x y).num) (n₂:=x) (q x y).den_nz (by omega);have:=e.mp (by rw[Rat.mkRat_self];rfl);rw[show((y.toNat:Nat):Int)=y by omega]at this;exact this
theorem Rh{x y:Int}:(0:Int)<(q x y).den:=by have:=(q x y).den_nz;omega
theorem Ri{x y:Int}(h:0<y):((q x y).den:Int)<=y:=by
 rw[B_ h];exact Int.ediv_le_self _ (by omega)
theorem Y6{x y:Int}(h:0<y)(hx:0<=x):0<=(q x y).num:=by
 rw[zP h];exact Int.ediv_nonneg hx (dO (tW h))
theorem pB(r:Rat):flat (rD r)=true:=rfl
end Com
namespace Com
open D3 My
theorem sm1(k:Nat){x:Int}(h:x.natAbs<=1):sm (k+1) x:=by
 unfold sm;rw[Nat.pow_succ];have:=Nat.one_le_two_pow (n:=k);omega
structure bd(k:Nat)(a:Rat):Prop where
 n:sm k a.num
 d:sm k (a.den:Int)
theorem bd.le{k l:Nat}{a:Rat}(h:bd k a)(hl:k<=l):bd l a:=⟨j9 h.n hl,j9 h.d hl⟩
theorem Vm(a:Rat):(0:Int)<a.den:=by have:=a.den_nz;omega
theorem ap0{k:Nat}{x y:Int}(hy:0<y)(h1:sm k x)(h2:sm k y):bd k (q x y):=by
 refine⟨?_,Rg h2 (dO Rh) (Ri hy)⟩;unfold sm at *;rw[zP hy];exact oF (Int.natAbs_ediv_le_natAbs _ _) h1
theorem Jh{a b:Rat}(ha:bd 4000 a)(hb:bd 4000 b):jM [rD a,rD b]=some (.bool (decide (a.num*b.den<b.num*a.den))):=by
 unfold jM rD;simp![at0,at1,yq ha.n hb.d,yq hb.n ha.d]
noncomputable def ag5(l:List Rat):Rat:=l.foldl (· + ·) 0
end Com
namespace Com
open D3 My
theorem wj{g:FG}{b:FS}(Inv:Nat->DS->Prop){v:D}(n:Nat):∀(l:List D)(δ:DS),Inv 0 δ->n<l.length->(∀i d δ,i<n->l[i]? = some d->Inv i δ->∃O Y,g d δ=some O/\b O=some (.nx Y)/\Inv (i+1) Y) ->
 (∀d δ,l[n]? = some d->Inv n δ->∃O,g d δ=some O/\b O=some (.rt v))->lB g b l δ=some (.rt v):=by
 have V:∀(n:Nat)(l:List D)(k:Nat)(δ:DS),Inv k δ->n<l.length->(∀i d δ,i<n->l[i]? = some d->Inv (k+i) δ->∃O Y,g d δ=some O/\b O=some (.nx Y)/\Inv (k+i+1) Y) ->
  (∀d δ,l[n]? = some d->Inv (k+n) δ->∃O,g d δ=some O/\b O=some (.rt v))->lB g b l δ=some (.rt v):=by
  intro n
  induction n with
  |zero=>
   intro l k δ h0 hn _ W
   cases l with
   |nil=>simp at hn
   |cons d r=>
    obtain⟨O,T,U⟩:=W d δ rfl h0;rw[lB,T,aH,U];rfl
  |succ n R=>
   intro l k δ h0 hn hs W
   cases l with
   |nil=>simp at hn
   |cons d r=>
    obtain⟨O,Y,T,U,Q⟩:=hs 0 d δ (by omega) rfl h0;rw[lB,T,aH,U];refine R r (k+1) Y Q (by simpa using hn) (λi S Z hi hd X=>?_) (λS Z hd X=>W S Z (by simpa using hd) (by rwa[show k+(n+1)=k+1+n by omega]));have:=hs (i+1) S Z (by omega) (by simpa using hd) (by rwa[show k+(i+1)=k+1+i by omega]);rwa[show k+(i+1)+1=k+1+i+1 by omega]at this
 intro l δ h0 hn hs W;refine V n l 0 δ h0 hn (λi d δ hi hd X=>?_) (λd δ hd X=>W d δ hd (by rw[iJ]at X;exact X));have:=hs i d δ hi hd (by rw[iJ]at X;exact X);rwa[iJ]
theorem Dy{hi:Int}{i:Nat}{d:D}(h:(d_ 0 hi)[i]? = some d):(i:Int)<hi/\d = .int (i:Int):=by
 unfold d_ at h;rw[aR]at h;by_cases Z:i<(hi-0).toNat
 ·rw[gM Z]at h
  cases h;refine⟨by omega,?_⟩;show bS (0+(i:Int))=_;rw[nP]
 ·rw[bL (by simpa using Z)]at h
  cases h
def over(ts:List Rat)(ρ:Rat)(n:Nat):Bool:=decide (ρ.num*(ag5 (ts.drop (n+1))).den<(ag5 (ts.drop (n+1))).num*ρ.den)
end Com
namespace Com
open D3 My
theorem zR{f g:Nat->Int}:∀n,(∀j,j<n->f j<=g j)->sumTo f n<=sumTo g n
 |0,_=>k_ _
 |n+1,h=>by
  have:=zR n λj Z=>h j (by omega)
  have:=h n (by omega);simp only[sumTo];omega
theorem Gx{f:Nat->Int}:∀n,(∀j,j<n->0<=f j)->0<=sumTo f n
 |0,_=>k_ _
 |n+1,h=>by
  have:=Gx n λj Z=>h j (by omega)
  have:=h n (by omega);simp only[sumTo];omega
theorem zT(w:Nat->Int)(k:Nat):∀N,(((cB N).map w).drop k).sum=sumTo (λj=>if k<=j then w j else 0) N
 |0=>by simp[sumTo]
 |N+1=>by
  rw[rA,bG,sumTo];by_cases c:k<=N
  ·rw[List.drop_append_of_le_length (by rw[aG,lH];exact c),List.sum_append,zT w k N,if_pos c];simp
  ·rw[if_neg c,jl (by simp;omega),<-zT w k N,jl (by simp;omega)];rfl
theorem Nf(N:Nat)(f:Nat->Int):tabI N f=((cB N).map f).map .int:=by
 unfold tabI;rw[fK];rfl
def tl(u:Nat->Int)(M a:Nat):Int:=sumTo (λj=>if a<=j then u j else 0) M
def tlI(t:Tb)(x:Int):Int:=tl t.w t.N (x+1).toNat
theorem zU{t:Tb}{k:Nat}(T:TbOk t k){m:Int}{p:Rat}(hm:1<=m)(x:Int):tlI (tbS t (m,p)) x=tlI t x*(p.den-p.num)+tlI t (x-m)*p.num:=by
 have Y:0<m.toNat:=by omega
 unfold tlI;show tl (m9 t.w m p) (t.N+m.toNat) (x+1).toNat=_;unfold tl;have e:sumTo (λj=>if(x+1).toNat<=j then m9 t.w m p j else 0) (t.N+m.toNat)=sumTo (λj=>(λj=>if(x+1).toNat<=j then t.w j else 0) j*(p.den-p.num)+(if m.toNat<=j then(λi=>if(x-m+1).toNat<=i then t.w i*p.num else 0) (j-m.toNat)else 0)) (t.N+m.toNat):=by
  apply Com.gU;intro j _;unfold m9;dsimp only;by_cases c:(x+1).toNat<=j
  ·rw[if_pos c,if_pos c];by_cases d:m.toNat<=j
   ·rw[if_pos d,if_pos d,if_pos (by omega)]
   ·rw[if_neg d,if_neg d]
  ·rw[if_neg c,if_neg c,nQ,nP];by_cases d:m.toNat<=j
   ·rw[if_pos d,if_neg (by omega)]
   ·rw[if_neg d]
 rw[e,Com.tX,Com.mQ,sW (λi=>if(x-m+1).toNat<=i then t.w i*p.num else 0) m.toNat t.N,uY (N:=t.N) (λj Z=>by rw[T.wz j Z];simp) m.toNat,<-Com.mQ _ p.num];congr 1;apply Com.gU;intro j _;split<;>simp
theorem Gy{t:Tb}{k:Nat}(T:TbOk t k){x y:Int}(h:x<=y):tlI t y<=tlI t x:=by
 unfold tlI tl;refine zR _ λj _=>?_
 have:=T.w0 j;split
 ·rw[if_pos (by omega)];exact k_ _
 ·split<;>omega
theorem Wh{t:Tb}{k:Nat}(T:TbOk t k)(x:Int):0<=tlI t x/\tlI t x<=t.B:=by
 unfold tlI tl
 constructor
 ·refine Gx _ λj _=>?_
  have:=T.w0 j;show 0<=if(x+1).toNat<=j then t.w j else 0
  split<;>omega
 ·rw[<-T.sum];refine zR _ λj _=>?_
  have:=T.w0 j;show(if(x+1).toNat<=j then t.w j else 0)<=_;split<;>omega
def dom(Y O:Tb):Prop:=∀x,tlI O x*Y.B<=tlI Y x*O.B
theorem Gz(t:Tb):dom t t:=λ_=>k_ _
theorem Vo{A1 O A2 A2' B1 Z n1 Y n2 d2:Int}(h:A2*B1<=A1*Z)(h':A2'*B1<=O*Z)(hc:n2*Y<=n1*d2)(ha:A1<=O)(b2:0<=Z)(e1:0<=Y)(e2:n2<=d2)(e3:0<=n2):
 (A2*(d2-n2)+A2'*n2)*(B1*Y)<=(A1*(Y-n1)+O*n1)*(Z*d2):=by
 have s1:(A2*B1)*((d2-n2)*Y)<=(A1*Z)*((d2-n2)*Y):=cI h (g_ (by omega) e1);have s2:(A2'*B1)*(n2*Y)<=(O*Z)*(n2*Y):=cI h' (g_ e3 e1);have X:((O-A1)*Z)*(n2*Y)<=((O-A1)*Z)*(n1*d2):=Int.mul_le_mul_of_nonneg_left hc (g_ (by omega) b2);have i1:(A2*(d2-n2)+A2'*n2)*(B1*Y)=(A2*B1)*((d2-n2)*Y)+(A2'*B1)*(n2*Y):=by grind
 have i2:(A1*(Y-n1)+O*n1)*(Z*d2)=(A1*Z)*((d2-n2)*Y)+(O*Z)*(n2*Y)-((O-A1)*Z)*(n2*Y)+((O-A1)*Z)*(n1*d2):=by grind
 rw[i1,i2];omega
theorem Rj{Y O:Tb}{k1 k2:Nat}(T1:TbOk Y k1)(T2:TbOk O k2)(h:dom Y O){m:Int}(hm:1<=m){p1 p2:Rat}(Z:wg p2)(hc:p2.num*p1.den<=p1.num*p2.den):dom (tbS Y (m,p1)) (tbS O (m,p2)):=by
 intro x;rw[zU T1 hm,zU T2 hm];show(_:Int)*(Y.B*p1.den)<=(_:Int)*(O.B*p2.den);exact Vo (h x) (h (x-m)) hc (Gy T1 (by omega)) (dO T2.B0) (dO (Vm p1)) Z.2.1 Z.1
theorem Rk{t:Tb}{k:Nat}(T:TbOk t k){m:Int}(hm:1<=m){p:Rat}(c:wg p):dom (tbS t (m,p)) t:=by
 intro x;rw[zU T hm];show tlI t x*(t.B*p.den)<=_;have a:=Gy T (x:=x-m) (y:=x) (by omega);have s:0<=(tlI t (x-m)-tlI t x)*(p.num*t.B):=g_ (by omega) (g_ c.1 (dO T.B0));generalize tlI t (x-m)=u at *;generalize tlI t x=v at *;have i:(v*((p.den:Int)-p.num)+u*p.num)*t.B=v*(t.B*p.den)+(u-v)*(p.num*t.B):=by grind
 rw[i];omega
theorem ap1{S B:Int}(b:0<B)(ρ:Rat):(ρ.num*(q S B).den<(q S B).num*ρ.den)<->ρ.num*B<S*ρ.den:=by
 have c:=Vl (x:=S) b;have d:=Rh (x:=S) (y:=B);generalize (q S B).num=x at *;generalize ((q S B).den:Int)=y at *
 constructor
 ·intro h;have:=jG h b;refine jN (a:=y) ?_ (dO d)
  grind
 ·intro h;have:=jG h d;refine jN (a:=B) ?_ (dO b)
  grind
theorem zV(P:Nat->Bool):∀n,(∃m,m<n/\P m=true/\∀i,i<m->P i=false)\/∀i,i<n->P i=false
 |0=>.inr λi h=>by omega
 |n+1=>by
  rcases zV P n with⟨m,h1,h2,h3⟩|h
  ·exact .inl ⟨m,by omega,h2,h3⟩
  ·cases c:P n with
   |true=>exact .inl ⟨n,by omega,c,h⟩
   |false=>
    refine .inr λi hi=>?_
    by_cases e:i=n
    ·rwa[e]
    ·exact h i (by omega)
theorem GC{Y O:Tb}{k1 k2:Nat}(T1:TbOk Y k1)(T2:TbOk O k2)(h:dom Y O){ρ:Rat}{x:Int}(o:ρ.num*O.B<tlI O x*ρ.den):ρ.num*Y.B<tlI Y x*ρ.den:=by
 have hx:=h x;have Z:=Vm ρ;have b1:=T1.B0;have b2:=T2.B0;have a1:=jG o b1;have a2:=cI hx (dO Z);refine jN (a:=O.B) ?_ (dO b2);generalize tlI Y x=u at *;generalize tlI O x=v at *;generalize (ρ.den:Int)=c at *
 grind
theorem Rm{k:Int}:∀(l:List Int)(m:Nat),m<l.idxOf k->l[m]? ≠ some k
 |[],m,h=>by simp
 |a::r,m,h=>by
  by_cases e:a=k
  ·subst e;rw[List.idxOf_cons_self]at h;omega
  ·have q:(a::r).idxOf k=r.idxOf k+1:=by
    have b:(a==k)=false:=by simpa using e
    unfold List.idxOf;rw[List.findIdx_cons,b];rfl
   rw[q]at h
   cases m with
   |zero=>simp[e]
   |succ m=>simpa using Rm r m (by omega)
theorem Y7{l:List Int}(h:l.Pairwise (· <= ·)){i:Nat}{x:Int}(hx:l[i]? = some x):∀y∈l.take i,y<=x:=by
 intro y hy;obtain⟨k,Z⟩:=mY hy;rw[List.getElem?_take]at Z;split at Z
 ·next c=>
  have hi:i<l.length:=by
   rcases lG i l.length with z|z
   ·exact z
   ·rw[bL z]at hx;cases hx
  have a1:=List.pairwise_iff_getElem.mp h k i (by omega) hi c;rw[aO (by omega)]at Z;rw[aO hi]at hx
  cases Z
  cases hx;exact a1
 ·cases Z
theorem Ng{Z Y O:Tb}{k1 k2 k3:Nat}(T1:TbOk Z k1)(T2:TbOk Y k2)(T3:TbOk O k3)(h:dom Z Y)(h':dom Y O):dom Z O:=λx=>by
 have a:=h x;have b:=h' x;have b1:=T1.B0;have b2:=T2.B0;have b3:=T3.B0;refine Int.le_of_mul_le_mul_right (a:=Y.B) ?_ b2;have c:=cI a (dO b3);have d:=cI b (dO b1);have i1:tlI O x*Z.B*Y.B=tlI O x*Y.B*Z.B:=by rw[kE,vo Z.B,<-kE]
 have i2:tlI Z x*O.B*Y.B=tlI Z x*Y.B*O.B:=by rw[kE,vo O.B,<-kE]
 have X:tlI Y x*O.B*Z.B=tlI Y x*Z.B*O.B:=by rw[kE,vo O.B,<-kE]
 omega
theorem yL:∀{l' l:List RwQ},l'.Sublist l->(∀r∈l,rG r)->∀{Y O:Tb}{k1 k2:Nat},TbOk Y k1->TbOk O k2->dom Y O->dom (l.foldl tbS Y) (l'.foldl tbS O)
 |_,_,.slnil,_,_,_,_,_,_,_,h=>h
 |_,_,.cons r s,ok,Y,O,_,_,Z,X,h=>by
  have o:=ok r aN;exact yL s (λx hx=>ok x (aL _ hx)) (zQ Z o) X (Ng (zQ Z o) Z X (Rk Z o.1 o.2.2) h)
 |_,_,.cons₂ r s,ok,Y,O,_,_,Z,X,h=>by
  have o:=ok r aN;exact yL s (λx hx=>ok x (aL _ hx)) (zQ Z o) (zQ X o) (Rj Z X h o.1 o.2.2 (k_ _))
abbrev Sy:=Int×Int×Int×Rat
def syD(s:Sy):D:=.tuple [.int s.1,.int s.2.1,.int s.2.2.1,rD s.2.2.2]
def sY(s:Sy):Prop:=wg s.2.2.2
noncomputable def hy(n k:Int)(s:Sy):Bool:=decide (k<=s.2.2.1)&&(decide (s.1<=n)&&decide (n<s.2.1))
def kh(ss:List Sy)(n k:Int):List RwQ:=(ss.filter (hy n k)).map λs=>(1,s.2.2.2)
def rmF(lad:List Int)(k:Int):Int:=(lad.drop (k-1).toNat).sum
def rO(ss:List Sy)(n k:Int):Tb:=jE (kh ss n k)
def tpI(ss:List Sy)(lad:List Int)(n k:Int):Int:=tlI (rO ss n k) (rmF lad k)
def chR(ss:List Sy)(lad:List Int)(n k:Int):Rat:=q (tpI ss lad n k) (rO ss n k).B
theorem tZ{ss:List Sy}(h:∀s∈ss,sY s)(n k:Int):∀r∈kh ss n k,rG r:=λr Z=>by
 obtain⟨s,hs,rfl⟩:=cZ.mp Z;exact⟨(by decide:(1:Int)<=1),(by decide:(1:Int)<=4),h s (dw.mp hs).1⟩
theorem u5(ss:List Sy)(n k:Int):(kh ss n k).length<=ss.length:=by
 unfold kh;rw[aG];exact dG _ _
theorem qQ{ss:List Sy}(h:∀s∈ss,sY s)(n k:Int):TbOk (rO ss n k) (kh ss n k).length:=tY (tZ h n k)
theorem Rn(s:Sy):iU [syD s]=some (.tuple [.int s.1,.int s.2.1]):=by
 unfold iU syD;simp![at0,at1,sz (show 2<=1000000 by decide)]
theorem Nh(a b n:Int):nY [.tuple [.int a,.int b],.int n]=some (.bool (decide (a<=n)&&decide (n<b))):=by
 unfold nY;by_cases c:a<=n
 ·simp![at0,at1,dTr c,uh]
 ·simp![at0,at1,dFa c,oE]
theorem wu{rs:List RwQ}(h:∀r∈rs,rG r)(hl:rs.length<=64){x:Int}(hx:0<=x):gq [.list (rs.map yr),.int x]=some (rD (q (tlI (jE rs) x) (jE rs).B)):=by
 have T:=tY h;have ds:pU [.list ((tabI (jE rs).N (jE rs).w).drop (x+1).toNat)]=some (.int (tlI (jE rs) x)):=by
  rw[Nf,<-pC,KJ,zT];rfl
 unfold gq;simp![xu h hl,uZ h hl,KR (l:=tabI (jE rs).N (jE rs).w) (k:=x+1) (by omega),ds];rw[Je T.B0 (j9 T.Bs (by omega))];simp![]
theorem Ro{lad:List Int}(h:∀r∈lad,0<=r)(k:Int):0<=rmF lad k:=by
 unfold rmF;have:∀l:List Int,(∀r∈l,0<=r)->0<=l.sum:=λl=>by
  induction l with
  |nil=>intro _;exact k_ _
  |cons a r Z=>
   intro h;have:=Z λx hx=>h x (aL _ hx)
   have:=h a aN;rw[um];omega
 exact this _ λr Y=>h r (List.mem_of_mem_drop Y)
def jW(ss:List Sy)(lad:List Int)(ρ:Rat)(n k:Int):Bool:=decide (ρ.num*(rO ss n k).B<tpI ss lad n k*ρ.den)
theorem Y8{ss:List Sy}(h:∀s∈ss,sY s)(hl:ss.length<=64)(lad:List Int)(n k:Int):bd 1000 (chR ss lad n k)/\0<=(chR ss lad n k).num:=by
 have T:=qQ h n k;have b:=Wh T (rmF lad k);have Z:sm 1000 (rO ss n k).B:=j9 T.Bs (by have:=u5 ss n k;omega);exact⟨ap0 T.B0 (Rg Z b.1 b.2) Z,Y6 T.B0 b.1⟩
theorem u6{ss:List Sy}(h:∀s∈ss,sY s)(hl:ss.length<=64)(lad:List Int){ρ:Rat}(hρ:bd 4000 ρ)(n k:Int):jM [rD ρ,rD (chR ss lad n k)]=some (.bool (jW ss lad ρ n k)):=by
 rw[Jh hρ ((Y8 h hl lad n k).1.le (by decide))];unfold jW chR;rw[decide_eq_decide.mpr (ap1 (qQ h n k).B0 ρ)]
theorem GD{α:Type}{p r:α->Bool}(l:List α)(h:∀a∈l,p a=true->r a=true):(l.filter p).Sublist (l.filter r):=by
 have e:l.filter p=(l.filter r).filter p:=by
  rw[List.filter_filter];apply List.filter_congr;intro a ha
  cases Z:p a with
  |false=>simp
  |true=>rw[h a ha Z];rfl
 rw[e];exact List.filter_sublist
theorem Ni{ss:List Sy}(h:∀s∈ss,sY s){lad:List Int}{ρ:Rat}{n k:Int}(hn:∀s∈ss,s.1≠n)(o:jW ss lad ρ n k=true):jW ss lad ρ (n-1) k=true:=by
 have sub:(kh ss n k).Sublist (kh ss (n-1) k):=by
  unfold kh;refine(GD ss λs hs c=>?_).map _;unfold hy at c ⊢;rw[aM,aM]at c ⊢;obtain⟨X,Y,Z⟩:=c;have Y:=of_decide_eq_true Y;have Z:=of_decide_eq_true Z;have:=hn s hs;exact⟨X,dTr (by omega),dTr (by omega)⟩
 have D:dom (rO ss (n-1) k) (rO ss n k):=yL sub (tZ h (n-1) k) Jg Jg (Gz _);exact dTr (GC (qQ h (n-1) k) (qQ h n k) D (of_decide_eq_true o))
def isP(ss:List Sy)(lad:List Int)(ρ:Rat)(K:Nat)(n:Int):Bool:=(cB K).any λj:Nat=>jW ss lad ρ n (1+(j:Int))
theorem wA{ss:List Sy}{lad:List Int}{ρ:Rat}{K:Nat}{n:Int}:isP ss lad ρ K n=true<->∃j,j<K/\jW ss lad ρ n (1+(j:Int))=true:=by
 unfold isP;rw[List.any_eq_true]
 constructor
 ·rintro⟨j,Z,o⟩;exact⟨j,eF.mp Z,o⟩
 ·rintro⟨j,Z,o⟩;exact⟨j,eF.mpr Z,o⟩
def qW(ss:List Sy)(new:Sy):List Int:=new.1::Cz ((ss.filter λs=>decide (new.1<s.1)&&decide (s.1<new.2.1)).map (·.1))
theorem yd{ss:List Sy}(hl:ss.length<64)(new:Sy):dD [.list (ss.map syD),syD new]=some (.list ((qW ss new).map .int)):=by
 have j0:∀s:Sy,gIx (syD s) (.int 0)=some (.int s.1):=λ_=>rfl
 have j1:gIx (syD new) (.int 1)=some (.int new.2.1):=rfl;have C:=Q_ (g:=(gNl 0)) (c:=(aY (jD gLt gLt (dOp gIx (aj 1) (dC (.int 0))) (dOp gIx (aj 0) (dC (.int 0))) (dOp gIx (aj 1) (dC (.int 1)))))) (e:=(bQ (dOp gIx (aj 0) (dC (.int 0))))) (δ:=[none,some (.d (syD new))]) syD (λs=>decide (new.1<s.1)&&decide (s.1<new.2.1)) (λs=>.int s.1) ss (λs _=>by
  refine⟨[some (.d (syD s)),some (.d (syD new))],rfl,?_,λ_=>by simp![j0]⟩;by_cases c:new.1<s.1
  ·simp![j0,j1,dTr c,uh]
  ·simp![j0,j1,dFa c,oE])
 have X:∀a b c:Option U,oZ 1 [1] [a,b,c]=[none,b]:=λ_ _ _=>rfl
 obtain⟨l,Z⟩:∃l,l=(ss.filter λs=>decide (new.1<s.1)&&decide (s.1<new.2.1)).map (·.1):=⟨_,rfl⟩;have e:((ss.filter λs=>decide (new.1<s.1)&&decide (s.1<new.2.1)).map λs=>bS s.1)=l.map .int:=by rw[Z,fK];rfl
 rw[e]at C;have Y:l.length<64:=by
  rw[Z,aG];have:=dG (λs:Sy=>decide (new.1<s.1)&&decide (s.1<new.2.1)) ss;omega
 have gs:JR [.list (l.map .int)]=some (.list ((Cz l).map .int)):=by
  show(m6 (l.map .int)).bind _=_;rw[p7,aH,if_pos Y]
 have sl:(Cz l).length=l.length:=(n8 l).length_eq;unfold dD;simp![lMp,show ss.length<=100000 by omega,X,C,j0,sz (show 1<=1000000 by decide),gs];rw[if_pos (by omega)];unfold qW;rw[<-Z];simp![Jd]
theorem Dz{ss:List Sy}{new:Sy}{n:Int}:n∈qW ss new<->n=new.1\/∃s∈ss,s.1=n/\new.1<n/\n<new.2.1:=by
 unfold qW;rw[bI,(n8 _).mem_iff,cZ]
 constructor
 ·rintro(h|⟨s,hs,rfl⟩)
  ·exact .inl h
  ·obtain⟨h1,h2⟩:=dw.mp hs;rw[aM]at h2;exact .inr ⟨s,h1,rfl,of_decide_eq_true h2.1,of_decide_eq_true h2.2⟩
 ·rintro(h|⟨s,hs,rfl,h1,h2⟩)
  ·exact .inl h
  ·exact .inr ⟨s,dw.mpr ⟨hs,by rw[dTr h1,dTr h2];rfl⟩,rfl⟩
theorem Ji{ss:List Sy}{new:Sy}:(qW ss new).Pairwise (· <= ·):=by
 unfold qW;refine gZ.mpr ⟨λx hx=>?_,rZ _⟩;rw[(n8 _).mem_iff,cZ]at hx;obtain⟨s,hs,rfl⟩:=hx;have:=(dw.mp hs).2;rw[aM]at this;have:=of_decide_eq_true this.1;omega
end Com
namespace K81
open D3 XK
abbrev bA:Addr:=751
abbrev bh:List Str:=["ladder", "risk", "steps", "inside", "night", "entries", "happened"]
abbrev cP:Addr:=520
abbrev nsEntry:List Str:=["name", "kind", "first", "behind", "chance", "word"]
abbrev gJ:Addr:=498
abbrev j8:List Str:=["rooms", "places", "wished", "moves_done"]
abbrev dX:List D->Option D:=Com.dX
abbrev dZ:List D->Option D:=Com.dZ
def fj:List D->Option D:=fnD 1 0 (cF (dCall CG (au (iB (Xv (aj 0)) (gNl 0) (mD) (dCall dX (au (aj 0) (aK))) 1 []) (aK))))
def jA:List D->Option D:=fnD 2 0 (cF (oH (dUn (gIs "tuple") (aj 0)) (oH (dOp gEq (dCall nD (au (aj 0) (aK))) (aj 1)) (dCall fj (au (aj 0) (aK))))))
def je:List D->Option D:=fnD 1 0 (cF (dCall jA (au (aj 0) (au (dC (.int 2)) (aK)))))
def gH:List D->Option D:=fnD 1 0 (cF (oH (dUn (gIs "list") (aj 0)) (dCall fj (au (aj 0) (aK)))))
abbrev cO:List D->Option D:=Com.cO
abbrev oU:List D->Option D:=Com.oU
abbrev qM:List D->Option D:=Com.qM
def kZ:List D->Option D:=fnD 1 0 (cF (oH (dCall je (au (aj 0) (aK))) (oH (dOp gGe (dOp gIx (aj 0) (dC (.int 1))) (dC (.int 1))) (dOp gEq (dCall cO (au (dCall Fv (au (dOp gIx (aj 0) (dC (.int 0))) (aK))) (au (dOp gIx (aj 0) (dC (.int 1))) (aK)))) (dC (.int 1))))))
def lg:List D->Option D:=fnD 1 0 (cF (oH (dCall kZ (au (aj 0) (aK))) (jD gLe gLe (dC (.int 0)) (dOp gIx (aj 0) (dC (.int 0))) (dOp gIx (aj 0) (dC (.int 1))))))
abbrev jM:List D->Option D:=Com.jM
def j7:List D->Option D:=fnD 1 0 (cF (oH (dCall je (au (aj 0) (aK))) (vG gLe gLt gLe (dC (.int 0)) (dOp gIx (aj 0) (dC (.int 0))) (dOp gIx (aj 0) (dC (.int 1))) (dC (.int 400)))))
abbrev iU:List D->Option D:=Com.iU
abbrev nY:List D->Option D:=Com.nY
abbrev jV:List D->Option D:=Com.jV
abbrev iZ:List D->Option D:=Com.iZ
abbrev gG:List D->Option D:=Com.gG
abbrev gq:List D->Option D:=Com.gq
def iV:List D->Option D:=fnD 1 0 (bJ (sIf (D3.tOr (D3.jO (aY (dCall gH (au (aj 0) (aK))))) (D3.jO (aY (jD gLe gLe (dC (.int 1)) (dCall nD (au (aj 0) (aK))) (dC (.int 4)))))) (cF (dC (.bool false))) (fP))
    (cF (oH (dOp gGe (dCall Fw (au (aj 0) (aK))) (dC (.int 0))) (dOp gLe (dCall pU (au (aj 0) (aK))) (dC (.int 12))))))
def jo:List D->Option D:=fnD 2 0 (cF (dCall XI.Ky (au (Ds (aj 0) (f9 (dOp pO (aj 1) (dC (.int 1)))) fZ) (aK))))
def fO:List D->Option D:=fnD 4 1 (bJ (bD 4 (iB (lD (aj 0)) (gNl 0) (D3.lA (aY (dOp gGe (dOp gIx (aj 0) (dC (.int 2))) (aj 1))) (aY (dCall nY (au (dCall iU (au (aj 0) (aK))) (au (aj 2) (aK)))))) (bQ (dTup (au (dC (.int 1)) (au (dOp gIx (aj 0) (dC (.int 3))) (aK))))) 1 [2,1]))
    (cF (dCall gq (au (aj 4) (au (dCall jo (au (aj 3) (au (aj 2) (aK)))) (aK))))))
abbrev dD:List D->Option D:=Com.dD
def gD:List D->Option D:=fnD 4 4 (bJ (bD 4 (dOp ud (aj 0) (jC (au (aj 1) (aK)))))
    (bJ (kY (lD (dCall dD (au (aj 0) (au (aj 1) (aK))))) (gNl 5) (kY (rB (au (dC (.int 1)) (au (dOp dW (dOp gIx (aj 1) (dC (.int 2))) (dC (.int 1))) (aK)))) (gNl 6) (bJ (bD 7 (dCall fO (au (aj 4) (au (aj 5) (au (aj 6) (au (aj 2) (aK)))))))
    (sIf (aY (dCall jM (au (aj 3) (au (aj 7) (aK))))) (cF (dTup (au (bQ (aj 5)) (au (bQ (aj 6)) (au (bQ (aj 7)) (aK)))))) (fP)))))
    (cF (dC (.none)))))
def lq:List D->Option D:=fnD 1 0 (bJ (sIf (D3.tOr (D3.jO (aY (dUn (gIs "str") (aj 0)))) (D3.jO (aY (jD gLe gLe (dC (.int 1)) (dCall Kc (au (aj 0) (aK))) (dC (.int 8)))))) (cF (dC (.bool false))) (fP))
    (cF (dCall CG (au (iB (X6 (aj 0)) (gNl 0) (mD) (jD XI.Am XI.Am (dC (.str "a")) (aj 0) (dC (.str "z"))) 1 []) (aK)))))
def dM:List D->Option D:=fnD 2 0 (cF (oH (dCall lg (au (aj 0) (aK))) (dOp gLe (dOp gIx (aj 0) (dC (.int 1))) (aj 1))))
def gY:List D->Option D:=fnD 1 3 (bJ (bD 1 (jC (aK)))
    (bJ (kY (JW (aj 0)) (gTn 2 (cQ (gNl 2) (cQ (gNl 3) (jJ)))) (bD 1 (dOp ud (aj 1) (dOp HS (jC (au (dOp dW (aj 2) (dC (.int 1))) (aK))) (aj 3)))))
    (cF (rM (aj 1)))))
abbrev jj:List D->Option D:=Com.jj
abbrev gj:List D->Option D:=Com.gj
abbrev eX:List D->Option D:=Com.eX
def cR:List D->Option D:=fnD 2 3 (bJ (bD 2 (aj 0))
    (bJ (bD 3 (aj 1))
    (bJ (rY (aY (dOp gGt (aj 3) (dC (.int 0)))) (bJ (bD 4 (dOp gA (aj 2) (aj 3)))
    (bJ (bD 2 (aj 3))
    (bD 3 (aj 4)))))
    (cF (dTup (au (dOp qw (aj 0) (aj 2)) (au (dOp qw (aj 1) (aj 2)) (aK))))))))
def jr:List D->Option D:=fnD 2 1 (bJ (bD 2 (dCall eX (au (aj 0) (au (aj 1) (au (dC (.int 2)) (aK))))))
    (bJ (sIf (aY (dOp gEq (dOp gA (dOp gIx (aj 2) (dC (.int 0))) (dC (.int 2))) (dC (.int 0)))) (cF (iB (oJ (au (dC (.int 8)) (aK))) (gNl 0) (mD) (Iv (dC (.str "abcdefgh")) fZ (f9 (dOp dW (aj 0) (dC (.int 1))))) 1 [])) (fP))
    (bJ (bD 1 (dOp gA (dOp gIx (aj 2) (dC (.int 1))) (dC (.int 5))))
    (cF (iB (oJ (au (dC (.int 8)) (aK))) (gNl 0) (mD) (dOp BK (dOp BK (Iv (dC (.str "night")) fZ (f9 (aj 1))) (dOp Uh (dC (.str "abcdefgh")) (aj 0))) (Iv (dC (.str "night")) (f9 (dOp dW (aj 1) (dC (.int 1)))) fZ)) 1 [1])))))
def eN:List D->Option D:=fnD 1 1 (bJ (bD 1 (jC (au (dTup (au (dC (.int 1)) (au (dC (.int 1)) (aK)))) (au (dTup (au (dC (.int 0)) (au (dC (.int 1)) (aK)))) (au (dTup (au (dC (.int 1)) (au (dC (.int 2)) (aK)))) (au (dTup (au (dC (.int 9)) (au (dC (.int 10)) (aK)))) (au (dCall cR (au (dOp dW (dC (.int 1)) (dOp gA (dOp gIx (aj 0) (dC (.int 1))) (dC (.int 20)))) (au (dC (.int 20)) (aK)))) (au (dCall cR (au (dOp gA (dOp gIx (aj 0) (dC (.int 1))) (dC (.int 101))) (au (dC (.int 100)) (aK)))) (aK)))))))))
    (cF (bQ (dOp gIx (aj 1) (dOp gA (dOp gIx (aj 0) (dC (.int 0))) (dC (.int 6)))))))
abbrev dF:List D->Option D:=Com.dF
def cD:List D->Option D:=fnD 4 5 (bJ (kY (rB (au (dOp gIx (aj 1) (dC (.int 2))) (au (dOp gIx (aj 1) (dC (.int 3))) (aK)))) (gNl 4) (kY (rB (au (dC (.int 1)) (au (dOp dW (dOp gIx (aj 1) (dC (.int 1))) (dC (.int 1))) (aK)))) (gNl 5) (bJ (bD 6 (iB (lD (dOp ud (aj 0) (jC (au (aj 1) (aK))))) (gNl 0) (D3.lA (aY (dOp gLe (dOp gIx (aj 0) (dC (.int 2))) (aj 1))) (D3.lA (aY (dOp gLt (aj 1) (dOp gIx (aj 0) (dC (.int 3))))) (aY (dOp gGe (dOp gIx (aj 0) (dC (.int 1))) (aj 2))))) (bQ (dOp gIx (aj 0) (dC (.int 4)))) 1 [4,5]))
    (bJ (zu (dCall dF (au (aj 6) (au (dCall pU (au (dSl (aj 2) (f9 (dOp pO (aj 5) (dC (.int 1)))) fZ) (aK))) (aK)))) (gTn 2 (cQ (gNl 7) (cQ (gNl 8) (jJ)))))
    (sIf (aY (dOp gGt (dOp ig (aj 7) (dOp gIx (aj 3) (dC (.int 1)))) (dOp ig (dOp gIx (aj 3) (dC (.int 0))) (aj 8)))) (cF (dTup (au (bQ (aj 4)) (au (bQ (aj 5)) (au (dCall cR (au (aj 7) (au (aj 8) (aK)))) (aK)))))) (fP))))))
    (cF (dC (.none))))
def jt:List D->Option (List D):=XI.fnG gJ 1 0 (λ_=>some false) [("rooms", dN1 (rM (dUn vH (aj 1)))),("places", dC (.dict [])),("wished", dC (.dict [])),("moves_done", jC (aK))]
def kJ:List D->Option D:=fnD 1 0 (cF (dUn XI.Ip (XI.jf gJ j8 1 (aj 0))))
def lY:List D->Option (List D):=XI.fnG cP 5 0 (λ_=>some false) [("name", dN1 (bQ (aj 1))),("kind", dN1 (bQ (aj 2))),("first", dN1 (bQ (aj 3))),("behind", dN1 (bQ (aj 4))),("chance", dN1 (bQ (aj 5))),("word", dN1 (dC (.str "waits")))]
def lu:List D->Option (List D):=XI.fnG bA 2 0 (D3.tOr (D3.jO (aY (dCall iV (au (aj 1) (aK))))) (D3.jO (aY (dCall dM (au (aj 2) (au (dC (.int 1000000000)) (aK))))))) [("ladder", dN1 (rM (dUn vH (aj 1)))),("risk", dN1 (bQ (aj 2))),("steps", dN1 (bQ (dUn FZ (aj 1)))),("inside", XI.xW gJ j8 jt (au (dCall gY (au (aj 1) (aK))) (aK))),("night", dN1 (dC (.int 0))),("entries", dC (.dict [])),("happened", jC (aK))]
def jB:List D->Option D:=fnD 2 0 (cF (dTup (au (bQ (XI.jf cP nsEntry 2 (aj 0))) (au (bQ (XI.jf cP nsEntry 3 (aj 0))) (au (bQ (XI.jf cP nsEntry 1 (aj 0))) (au (bQ (aj 1)) (aK)))))))
def lZ:List D->Option D:=fnD 1 2 (bJ (bD 1 (jC (aK)))
    (bJ (kY (lD (aj 0)) (gNl 2) (bJ (sIf (aY (dOp gEq (XI.jf cP nsEntry 5 (aj 2)) (dC (.str "taken")))) (uO 1 (dCall jB (au (aj 2) (au (XI.jf cP nsEntry 4 (aj 2)) (aK))))) (fP))
    (sIf (aY (dOp gEq (XI.jf cP nsEntry 5 (aj 2)) (dC (.str "house")))) (uO 1 (dCall jB (au (aj 2) (au (dC (.tuple [.int 1,.int 1])) (aK))))) (fP))))
    (cF (rM (aj 1)))))
def m_:List D->Option D:=fnD 4 0 (cF (dCall gD (au (dCall lZ (au (aj 1) (aK))) (au (dCall jB (au (aj 0) (au (XI.jf cP nsEntry 4 (aj 0)) (aK)))) (au (aj 2) (au (aj 3) (aK)))))))
def qd:List D->Option D:=fnD 1 0 (cF (iB (lD (aj 0)) (gNl 0) (aY (dOp gEq (XI.jf cP nsEntry 5 (aj 0)) (dC (.str "waits")))) (bQ (aj 0)) 1 []))
def eY:List D->Option D:=fnD 1 0 (cF (dUn XI.Dr (XI.jf bA bh 5 (aj 0))))
def cT:List D->Option D:=fnD 2 0 (cF (dCall m_ (au (aj 1) (au (XI.jU eY bA bh (aj 0) (aK)) (au (XI.jf bA bh 2 (aj 0)) (au (XI.jf bA bh 1 (aj 0)) (aK)))))))
def nj:List D->Option D:=XI.fnW 3 0 [0] (XI.BR bA bh 6 0 (dTup (au (bQ (XI.jf bA bh 4 (aj 0))) (au (aj 1) (au (aj 2) (aK))))))
def iW:List D->Option D:=fnD 6 0 (bJ (sIf (D3.jO (aY (dCall lq (au (aj 1) (aK))))) ((λ_=>none)) (fP))
    (bJ (sIf (aY (dOp XI.Ut (aj 1) (XI.jf bA bh 5 (aj 0)))) ((λ_=>none)) (fP))
    (bJ (sIf (D3.jO (aY (dCall dZ (au (aj 2) (au (dC (.int 1)) (au (dCall nD (au (XI.jf bA bh 2 (aj 0)) (aK))) (aK))))))) ((λ_=>none)) (fP))
    (bJ (sIf (D3.tOr (D3.jO (aY (dCall j7 (au (dTup (au (aj 3) (au (aj 4) (aK)))) (aK))))) (aY (dOp gLt (aj 3) (XI.jf bA bh 4 (aj 0))))) ((λ_=>none)) (fP))
    (bJ (sIf (D3.jO (aY (dCall dM (au (aj 5) (au (dC (.int 100)) (aK)))))) ((λ_=>none)) (fP))
    (sIf (aY (dOp gGe (dCall XI.Kw (au (XI.jf bA bh 5 (aj 0)) (aK))) (dC (.int 16)))) ((λ_=>none)) (fP)))))))
def d9:List D->Option D:=XI.fnW 6 2 [0] (bJ (bD 6 (dIf (aY (dUn Al (aj 5))) (dC (.tuple [.int 1,.int 1])) (aj 5)))
    (bJ (Fq (XI.jU iW bA bh (aj 0) (au (aj 1) (au (aj 2) (au (aj 3) (au (aj 4) (au (aj 6) (aK))))))))
    (bJ (XI.Gr cP nsEntry lY (au (aj 1) (au (aj 2) (au (aj 3) (au (aj 4) (au (aj 6) (aK)))))) 7 (aY (dUn Al (XI.jU cT bA bh (aj 0) (au (aj 7) (aK))))) 5 "taken")
    (bJ (XI.goN (XI.zO bA bh 5 0 (aj 1) (aj 7)))
    (bJ (XI.Dj (XI.uT nj bA bh 0 (au (bQ (XI.jf cP nsEntry 5 (aj 7))) (au (aj 1) (aK))) [0]))
    (XI.PX [0] (dOp gEq (XI.jf cP nsEntry 5 (aj 7)) (dC (.str "taken")))))))))
def jX:List D->Option D:=fnD 1 0 (cF (bQ (XI.jf bA bh 4 (aj 0))))
def mj:List D->Option D:=fnD 1 0 (cF (dUn XI.Dq (XI.jf bA bh 5 (aj 0))))
def jy:List D->Option D:=fnD 2 0 (bJ (sIf (D3.tOr (D3.jO (aY (dCall lq (au (aj 1) (aK))))) (aY (dOp XI.yK (aj 1) (XI.jf bA bh 5 (aj 0))))) ((λ_=>none)) (fP))
    (cF (dOp XI.Kv (XI.jf bA bh 5 (aj 0)) (aj 1))))
def fW:List D->Option D:=fnD 2 1 (bJ (bD 2 (XI.jU jy bA bh (aj 0) (au (aj 1) (aK))))
    (cF (dTup (au (bQ (XI.jf cP nsEntry 5 (aj 2))) (au (bQ (XI.jf cP nsEntry 1 (aj 2))) (au (bQ (XI.jf cP nsEntry 2 (aj 2))) (au (bQ (XI.jf cP nsEntry 3 (aj 2))) (au (bQ (XI.jf cP nsEntry 4 (aj 2))) (aK)))))))))
def mq:List D->Option D:=fnD 1 0 (cF (iB (lD (XI.jU kJ gJ j8 (XI.jf bA bh 3 (aj 0)) (aK))) (gNl 0) (mD) (λ_=>none) 1 [0]))
def nq:List D->Option D:=fnD 1 3 (bJ (bD 1 (jC (aK)))
    (bJ (kY (lD (dCall qd (au (XI.jU eY bA bh (aj 0) (aK)) (aK)))) (gNl 2) (bJ (bD 3 (XI.jU cT bA bh (aj 0) (au (aj 2) (aK))))
    (uO 1 (dTup (au (bQ (XI.jf cP nsEntry 0 (aj 2))) (au (dOp gIx (aj 3) (dC (.int 0))) (au (dOp gIx (aj 3) (dC (.int 1))) (au (dOp gIx (aj 3) (dC (.int 2))) (aK)))))))))
    (cF (rM (aj 1)))))
def i_:List D->Option D:=fnD 6 5 (bJ (kY (lD (jC (au (dTup (au (dC (.str "taken")) (au (aj 1) (aK)))) (au (dTup (au (dC (.str "waits")) (au (aj 2) (aK)))) (aK))))) (gTn 2 (cQ (gNl 6) (cQ (gNl 7) (jJ)))) (kY (lD (aj 7)) (gNl 8) (sIf (aY (dOp gNe (XI.jU fW bA bh (aj 0) (au (dOp gIx (aj 8) (dC (.int 0))) (aK))) (dOp XI.oR (dTup (au (aj 6) (aK))) (Ds (aj 8) (f9 (dC (.int 1))) fZ)))) (cF (dC (.bool false))) (fP))))
    (bJ (bD 9 (iB (lD (aj 2)) (gNl 0) (mD) (dOp XI.oR (dTup (au (dOp gIx (aj 0) (dC (.int 0))) (aK))) (dCall cD (au (aj 1) (au (aj 0) (au (aj 2) (au (aj 3) (aK))))))) 1 [1,4,5]))
    (bJ (bD 10 (XI.jU nq bA bh (aj 0) (aK)))
    (bJ (sIf (D3.tOr (D3.jO (aY (dUn (gIs "list") (aj 10)))) (D3.tOr (aY (dOp gNe (aj 10) (aj 9))) (D3.tOr (aY (dOp gNe (XI.jU mj bA bh (aj 0) (aK)) (aj 3))) (aY (dOp gNe (XI.jU mq bA bh (aj 0) (aK)) (jC (aK))))))) (cF (dC (.bool false))) (fP))
    (cF (oH (dOp gEq (XI.jf bA bh 0 (aj 0)) (aj 4)) (oH (dOp gEq (XI.jf bA bh 1 (aj 0)) (aj 5)) (dOp gEq (XI.jU jX bA bh (aj 0) (aK)) (dC (.int 0))))))))))
def Rp:List D->Option D:=fnD 1 14 (bJ (bD 1 (dCall eX (au (aj 0) (au (dC (.int 0)) (au (dC (.int 8)) (aK))))))
    (bJ (bD 2 (iB (oJ (au (dOp dW (dC (.int 1)) (dOp gA (dOp gIx (aj 1) (dC (.int 0))) (dC (.int 3)))) (aK))) (gNl 0) (mD) (dOp gA (dOp gIx (aj 1) (dOp dW (dC (.int 2)) (aj 0))) (dC (.int 4))) 1 [1]))
    (bJ (bD 3 (dOp gIx (jC (au (dTup (au (dC (.int 0)) (au (dC (.int 1)) (aK)))) (au (dTup (au (dC (.int 1)) (au (dC (.int 1)) (aK)))) (au (dTup (au (dC (.int 1)) (au (dC (.int 10)) (aK)))) (au (dTup (au (dC (.int 1)) (au (dC (.int 20)) (aK)))) (au (dTup (au (dC (.int 3)) (au (dC (.int 4)) (aK)))) (au (dTup (au (dC (.int 1)) (au (dOp Ft (dC (.int 10)) (dC (.int 9))) (aK)))) (au (dTup (au (dC (.int 1)) (au (dC (.int 2)) (aK)))) (au (dTup (au (dC (.int 99)) (au (dC (.int 100)) (aK)))) (aK)))))))))) (dOp gA (dOp gIx (aj 1) (dC (.int 1))) (dC (.int 8)))))
    (bJ (bD 4 (dCall jr (au (aj 0) (au (dC (.int 1)) (aK)))))
    (bJ (bD 5 (dUn vH (aj 2)))
    (bJ (bD 6 (XI.xW bA bh lu (au (aj 5) (au (aj 3) (aK)))))
    (bJ (uO 5 (dC (.int 12)))
    (bJ (bD 7 (jC (aK)))
    (bJ (bD 8 (jC (aK)))
    (bJ (kY (oJ (au (dCall JT (au (dC (.int 4)) (au (dCall JV (au (dC (.int 6)) (au (dOp pO (dCall nD (au (aj 0) (aK))) (dC (.int 2))) (aK)))) (aK)))) (aK))) (gNl 9) (bJ (bD 10 (dCall eX (au (aj 0) (au (dOp dW (dC (.int 2)) (aj 9)) (au (dC (.int 8)) (aK))))))
    (bJ (bD 11 (dOp gA (dOp gIx (aj 10) (dC (.int 1))) (dC (.int 3))))
    (bJ (bD 12 (dTup (au (dOp gIx (aj 4) (aj 9)) (au (dOp dW (dC (.int 1)) (dOp gA (dOp gIx (aj 10) (dC (.int 0))) (dCall nD (au (aj 2) (aK))))) (au (aj 11) (au (dOp dW (dOp dW (aj 11) (dC (.int 1))) (dOp gA (dOp gIx (aj 10) (dC (.int 2))) (dC (.int 3)))) (au (dCall eN (au (dSl (aj 10) (f9 (dC (.int 3))) fZ) (aK))) (aK))))))))
    (bJ (sIf (D3.lA (aY (dOp gEq (dOp gIx (aj 12) (dC (.int 4))) (dTup (au (dC (.int 1)) (au (dC (.int 1)) (aK)))))) (aY (dOp gEq (dOp gA (dOp gIx (aj 10) (dC (.int 5))) (dC (.int 2))) (dC (.int 0))))) (XI.uD 13 (XI.tQ d9 bA bh 6 (au (dOp gIx (aj 4) (aj 9)) (au (dOp gIx (aj 12) (dC (.int 1))) (au (aj 11) (au (dOp gIx (aj 12) (dC (.int 3))) (aK))))) [6])) (XI.uD 13 (XI.uT d9 bA bh 6 (au (dOp gIx (aj 4) (aj 9)) (au (dOp gIx (aj 12) (dC (.int 1))) (au (aj 11) (au (dOp gIx (aj 12) (dC (.int 3))) (au (dOp gIx (aj 12) (dC (.int 4))) (aK)))))) [6])))
    (bJ (bD 14 (dUn Al (dCall cD (au (aj 7) (au (aj 12) (au (aj 2) (au (aj 3) (aK))))))))
    (bJ (sIf (D3.tOr (D3.jO (aY (dUn (gIs "bool") (aj 13)))) (aY (dOp gNe (aj 13) (aj 14)))) (cF (dC (.bool false))) (fP))
    (bJ (sIf (aY (aj 14)) (uO 7 (aj 12)) (uO 8 (aj 12)))
    (sIf (D3.jO (aY (dCall i_ (au (aj 6) (au (aj 7) (au (aj 8) (au (dSl (aj 4) fZ (f9 (dOp dW (aj 9) (dC (.int 1))))) (au (aj 2) (au (aj 3) (aK)))))))))) (cF (dC (.bool false))) (fP))))))))))
    (cF (dC (.bool true)))))))))))))
end K81
namespace K81
open D3 My Com XI
def Y9(x:Option D)(a b:Option (Option Int)):Option D:=x.bind λx=>a.bind λlo=>b.bind λhi=>match x with
 | .tuple l=>if flats l=true then some (.tuple (cuD l lo hi))else none
 |_=>none
theorem Wj{f:FE}{lo hi:FO}{δ:DS}:Ds f lo hi δ=Y9 (f δ) (lo δ) (hi δ):=rfl
theorem ag6{l:List D}{lo hi:Option Int}(h:flats l=true):Y9 (some (.tuple l)) (some lo) (some hi)=some (.tuple (cuD l lo hi)):=if_pos h
theorem Y_{l:List Int}:Ky [.tuple (l.map .int)]=some (.int l.sum):=by
 show(m6 (l.map .int)).bind _=_;rw[p7];rfl
theorem wC:∀l:List Int,flats (l.map .int)=true
 |[]=>rfl
 |x::l=>by rw[bB,flats,wC l];rfl
theorem Jj{lad:List Int}{k:Int}(h:1<=k):K81.jo [.tuple (lad.map .int),.int k]=some (.int (rmF lad k)):=by
 unfold K81.jo;simp![Wj,ag6 (wC lad),KR (l:=lad.map .int) (k:=k-1) (by omega)];rw[<-pC,Y_];simp![];rfl
theorem pA{ss:List Sy}{lad:List Int}(h:∀s∈ss,sY s)(hl:ss.length<=64)(lp:∀r∈lad,0<=r){n k:Int}(O:1<=k):K81.fO [.list (ss.map syD),.int n,.int k,.tuple (lad.map .int)]=some (rD (chR ss lad n k)):=by
 have C:=Q_ (g:=(gNl 0)) (c:=(D3.lA (aY (dOp gGe (dOp gIx (aj 0) (dC (.int 2))) (aj 1))) (aY (dCall nY (au (dCall iU (au (aj 0) (aK))) (au (aj 2) (aK))))))) (e:=(bQ (dTup (au (dC (.int 1)) (au (dOp gIx (aj 0) (dC (.int 3))) (aK)))))) (δ:=[none,some (.d (.int k)),some (.d (.int n))]) syD (hy n k) (λs=>yr (1,s.2.2.2)) ss (λs _=>by
  refine⟨[some (.d (syD s)),some (.d (.int k)),some (.d (.int n))],rfl,?_,λ_=>?_⟩
  ·have i2:gIx (syD s) (.int 2)=some (.int s.2.2.1):=by unfold syD;exact at2
   unfold hy;by_cases c:k<=s.2.2.1
   ·simp![i2,dTr c,Rn,Nh,uh]
   ·simp![i2,dFa c,oE]
  ·have Z:gIx (syD s) (.int 3)=some (rD s.2.2.2):=by unfold syD;exact at3
   simp![Z,sz (show 2<=1000000 by decide),pB];rfl)
 have X:∀a b c d e:Option U,oZ 1 [2,1] [a,b,c,d,e]=[none,c,b]:=λ_ _ _ _ _=>rfl
 have Y:((ss.filter (hy n k)).map λs=>yr (1,s.2.2.2))=(kh ss n k).map yr:=by unfold kh;rw[fK];rfl
 rw[Y]at C;have cs:=wu (tZ h n k) (bM (u5 ss n k) hl) (Ro lp k);unfold K81.fO;simp![lMp,show ss.length<=100000 by omega,X,C,Jj O,cs];rfl
theorem GF{K:Nat}:(d_ 1 ((K:Int)+1)).length=K:=by unfold d_;rw[aG,lH];omega
theorem t_{K i:Nat}{d:D}(h:(d_ 1 ((K:Int)+1))[i]? = some d):i<K/\d = .int (1+(i:Int)):=by
 unfold d_ at h;rw[aR]at h;by_cases hi:i<((K:Int)+1-1).toNat
 ·rw[gM hi]at h
  cases h;exact⟨by omega,rfl⟩
 ·rw[bL (by simpa using hi)]at h
  cases h
section
variable{ss:List Sy}{lad:List Int}{ρ:Rat}{new:Sy}{K:Nat}
theorem Jk(h:∀s∈ss++[new],sY s)(hl:(ss++[new]).length<=64)(lp:∀r∈lad,0<=r)(hρ:bd 4000 ρ){n:Int}{j:Nat}(Z:j<K)(o:jW (ss++[new]) lad ρ n (1+(j:Int))=true)(no:∀i,i<j->jW (ss++[new]) lad ρ n (1+(i:Int))=false)(a b:D)(Y O:Option U):
 lB (gNl 6) (bJ (bD 7 (dCall fO (au (aj 4) (au (aj 5) (au (aj 6) (au (aj 2) (aK))))))) (sIf (aY (dCall jM (au (aj 3) (au (aj 7) (aK))))) (cF (dTup (au (bQ (aj 5)) (au (bQ (aj 6)) (au (bQ (aj 7)) (aK)))))) (fP))) (d_ 1 ((K:Int)+1)) [some (.d a),some (.d b),some (.d (.tuple (lad.map .int))),some (.d (rD ρ)),some (.d (.list ((ss++[new]).map syD))),some (.d (.int n)),Y,O]=some (.rt (.tuple [.int n,.int (1+(j:Int)),rD (chR (ss++[new]) lad n (1+(j:Int)))])):=
 wj (λ_ δ=>∃Y O,δ=[some (.d a),some (.d b),some (.d (.tuple (lad.map .int))),some (.d (rD ρ)),some (.d (.list ((ss++[new]).map syD))),some (.d (.int n)),Y,O]) j _ _ ⟨Y,O,rfl⟩ (by rw[GF];exact Z)
  (by
   rintro i d δ hi hd ⟨Y,O,rfl⟩;obtain⟨_,rfl⟩:=t_ hd;refine⟨_,_,rfl,?_,some (.d (.int (1+(i:Int)))),some (.d (rD (chR (ss++[new]) lad n (1+(i:Int))))),rfl⟩;simp![pA h hl lp (n:=n) (k:=1+(i:Int)) (by omega),u6 h hl lad hρ n (1+(i:Int)),no i hi])
  (by
   rintro d δ hd ⟨Y,O,rfl⟩;obtain⟨_,rfl⟩:=t_ hd;refine⟨_,rfl,?_⟩;simp![pA h hl lp (n:=n) (k:=1+(j:Int)) (by omega),u6 h hl lad hρ n (1+(j:Int)),o,pB,sz (show 3<=1000000 by decide)])
theorem Ca(h:∀s∈ss++[new],sY s)(hl:(ss++[new]).length<=64)(lp:∀r∈lad,0<=r)(hρ:bd 4000 ρ){n:Int}(no:∀i,i<K->jW (ss++[new]) lad ρ n (1+(i:Int))=false)(a b:D)(Y O:Option U):
 ∃z6 Z,lB (gNl 6) (bJ (bD 7 (dCall fO (au (aj 4) (au (aj 5) (au (aj 6) (au (aj 2) (aK))))))) (sIf (aY (dCall jM (au (aj 3) (au (aj 7) (aK))))) (cF (dTup (au (bQ (aj 5)) (au (bQ (aj 6)) (au (bQ (aj 7)) (aK)))))) (fP))) (d_ 1 ((K:Int)+1)) [some (.d a),some (.d b),some (.d (.tuple (lad.map .int))),some (.d (rD ρ)),some (.d (.list ((ss++[new]).map syD))),some (.d (.int n)),Y,O]=some (.nx [some (.d a),some (.d b),some (.d (.tuple (lad.map .int))),some (.d (rD ρ)),some (.d (.list ((ss++[new]).map syD))),some (.d (.int n)),z6,Z]):=by
 obtain⟨X,e,z6,Z,rfl⟩:=jm (g:=(gNl 6)) (b:=(bJ (bD 7 (dCall fO (au (aj 4) (au (aj 5) (au (aj 6) (au (aj 2) (aK))))))) (sIf (aY (dCall jM (au (aj 3) (au (aj 7) (aK))))) (cF (dTup (au (bQ (aj 5)) (au (bQ (aj 6)) (au (bQ (aj 7)) (aK)))))) (fP)))) (λ_ δ=>∃Y O,δ=[some (.d a),some (.d b),some (.d (.tuple (lad.map .int))),some (.d (rD ρ)),some (.d (.list ((ss++[new]).map syD))),some (.d (.int n)),Y,O]) (d_ 1 ((K:Int)+1)) _ ⟨Y,O,rfl⟩ (by
  rintro i d δ hd ⟨Y,O,rfl⟩;obtain⟨hi,rfl⟩:=t_ hd;refine⟨_,_,rfl,.inl ?_,some (.d (.int (1+(i:Int)))),some (.d (rD (chR (ss++[new]) lad n (1+(i:Int))))),rfl⟩;simp![pA h hl lp (n:=n) (k:=1+(i:Int)) (by omega),u6 h hl lad hρ n (1+(i:Int)),no i hi])
 exact⟨z6,Z,e⟩
def found(n:Int)(j:Nat)(r:Rat):D:=.tuple [.int n,.int (1+(j:Int)),rD r]
theorem DK{ss:List Sy}{lad:List Int}{ρ:Rat}{K:Nat}{n:Int}(h:isP ss lad ρ K n=false):∀i,i<K->jW ss lad ρ n (1+(i:Int))=false:=λi hi=>by
 cases c:jW ss lad ρ n (1+(i:Int))with
 |false=>rfl
 |true=>rw[wA.mpr ⟨i,hi,c⟩]at h;cases h
theorem GJ(h:∀s∈ss++[new],sY s)(hl:(ss++[new]).length<=63)(lp:∀r∈lad,0<=r)(hρ:bd 4000 ρ)(hK:new.2.2.1=(K:Int))(hK1:K<=1000){n:Int}{j:Nat}(hn:n∈qW ss new)(hm:∀m,new.1<=m->m<n->isP (ss++[new]) lad ρ K m=false)(hj:j<K)(o:jW (ss++[new]) lad ρ n (1+(j:Int))=true)(no:∀i,i<j->jW (ss++[new]) lad ρ n (1+(i:Int))=false):
 K81.gD [.list (ss.map syD),syD new,.tuple (lad.map .int),rD ρ]=some (found n j (chR (ss++[new]) lad n (1+(j:Int)))):=by
 have sl:ss.length<63:=by rw[bH]at hl;simp at hl;omega
 have i2:gIx (syD new) (.int 2)=some (.int (K:Int)):=by rw[<-hK];rfl
 have em:ss.map syD++[syD new]=(ss++[new]).map syD:=by rw[bG];rfl
 have R:xZ (some [.int 1,.int ((K:Int)+1)])=some (d_ 1 ((K:Int)+1)):=MN (by omega) (by omega) (by decide) (by decide);unfold K81.gD;simp![sz (show 1<=1000000 by decide),lMp,show ss.length+1<=1000000 by omega,em,yd (ss:=ss) (by omega) new];have W:(qW ss new).idxOf n<((qW ss new).map bS).length:=by rw[aG];exact kI.mpr hn
 have e:=wj (g:=(gNl 5)) (b:=(kY (rB (au (dC (.int 1)) (au (dOp dW (dOp gIx (aj 1) (dC (.int 2))) (dC (.int 1))) (aK)))) (gNl 6) (bJ (bD 7 (dCall fO (au (aj 4) (au (aj 5) (au (aj 6) (au (aj 2) (aK))))))) (sIf (aY (dCall jM (au (aj 3) (au (aj 7) (aK))))) (cF (dTup (au (bQ (aj 5)) (au (bQ (aj 6)) (au (bQ (aj 7)) (aK)))))) (fP))))) (λ_ δ=>∃V X Y,δ=[some (.d (.list (ss.map syD))),some (.d (syD new)),some (.d (.tuple (lad.map .int))),some (.d (rD ρ)),some (.d (.list ((ss++[new]).map syD))),V,X,Y]) (v:=found n j (chR (ss++[new]) lad n (1+(j:Int)))) ((qW ss new).idxOf n) ((qW ss new).map .int)
  [some (.d (.list (ss.map syD))),some (.d (syD new)),some (.d (.tuple (lad.map .int))),some (.d (rD ρ)),some (.d (.list ((ss++[new]).map syD))),none,none,none] ⟨none,none,none,rfl⟩ W
  (by
   rintro i d δ hi hd ⟨V,X,Y,rfl⟩;rw[aR]at hd
   cases Z:(qW ss new)[i]? with
   |none=>rw[Z]at hd;cases hd
   |some m=>
    rw[Z]at hd
    cases hd;have O:=cA Z;have ne:m≠n:=λz=>Rm _ _ hi (by rw[Z,z])
    have le:m<=n:=by
     have U:(qW ss new)[(qW ss new).idxOf n]? = some n:=by
      rw[aO (kI.mpr hn),uL]
     refine Y7 Ji U m ?_;rw[oX];have T:i<(qW ss new).length:=by rw[aG]at W;omega
     exact⟨i,by omega,by rw[aO T]at Z;exact dB.inj Z⟩
    have N:new.1<=m:=by
     rcases Dz.mp O with z|⟨_,_,_,z,_⟩<;>omega
    obtain⟨P,Q,S⟩:=Ca (K:=K) h (by omega) lp hρ (DK (hm m N (by omega))) (.list (ss.map syD)) (syD new) X Y;refine⟨_,_,rfl,?_,some (.d (.int m)),P,Q,rfl⟩;simp![i2,R,S])
  (by
   rintro d δ hd ⟨V,X,Y,rfl⟩;rw[aR,aO (kI.mpr hn),uL]at hd
   cases hd;refine⟨_,rfl,?_⟩;have S:=Jk (K:=K) h (by omega) lp hρ hj o no (.list (ss.map syD)) (syD new) X Y;simp![i2,R,S];rfl)
 rw[e];simp![]
theorem Jl(h:∀s∈ss++[new],sY s)(hl:(ss++[new]).length<=63)(lp:∀r∈lad,0<=r)(hρ:bd 4000 ρ)(hK:new.2.2.1=(K:Int))(hK1:K<=1000)(hm:∀m∈qW ss new,isP (ss++[new]) lad ρ K m=false):
 K81.gD [.list (ss.map syD),syD new,.tuple (lad.map .int),rD ρ]=some .none:=by
 have sl:ss.length<63:=by rw[bH]at hl;simp at hl;omega
 have i2:gIx (syD new) (.int 2)=some (.int (K:Int)):=by rw[<-hK];rfl
 have em:ss.map syD++[syD new]=(ss++[new]).map syD:=by rw[bG];rfl
 have S:xZ (some [.int 1,.int ((K:Int)+1)])=some (d_ 1 ((K:Int)+1)):=MN (by omega) (by omega) (by decide) (by decide);unfold K81.gD;simp![sz (show 1<=1000000 by decide),lMp,show ss.length+1<=1000000 by omega,em,yd (ss:=ss) (by omega) new];obtain⟨V,e,X,Y,Z,rfl⟩:=jm (g:=(gNl 5)) (b:=(kY (rB (au (dC (.int 1)) (au (dOp dW (dOp gIx (aj 1) (dC (.int 2))) (dC (.int 1))) (aK)))) (gNl 6) (bJ (bD 7 (dCall fO (au (aj 4) (au (aj 5) (au (aj 6) (au (aj 2) (aK))))))) (sIf (aY (dCall jM (au (aj 3) (au (aj 7) (aK))))) (cF (dTup (au (bQ (aj 5)) (au (bQ (aj 6)) (au (bQ (aj 7)) (aK)))))) (fP))))) (λ_ δ=>∃X Y Z,δ=[some (.d (.list (ss.map syD))),some (.d (syD new)),some (.d (.tuple (lad.map .int))),some (.d (rD ρ)),some (.d (.list ((ss++[new]).map syD))),X,Y,Z]) ((qW ss new).map .int)
  [some (.d (.list (ss.map syD))),some (.d (syD new)),some (.d (.tuple (lad.map .int))),some (.d (rD ρ)),some (.d (.list ((ss++[new]).map syD))),none,none,none] ⟨none,none,none,rfl⟩
  (by
   rintro i d δ hd ⟨X,Y,Z,rfl⟩;rw[aR]at hd
   cases W:(qW ss new)[i]? with
   |none=>rw[W]at hd;cases hd
   |some m=>
    rw[W]at hd
    cases hd;obtain⟨T,U,R⟩:=Ca (K:=K) h (by omega) lp hρ (DK (hm m (cA W))) (.list (ss.map syD)) (syD new) Y Z;refine⟨_,_,rfl,.inl ?_,some (.d (.int m)),T,U,rfl⟩;simp![i2,S,R])
 rw[e];simp![]
end
theorem Nj{a b:Int}:(d_ a b).length=(b-a).toNat:=by unfold d_;rw[aG,lH]
theorem zW{a b:Int}{i:Nat}{d:D}(h:(d_ a b)[i]? = some d):a+(i:Int)<b/\d = .int (a+(i:Int)):=by
 unfold d_ at h;rw[aR]at h;by_cases hi:i<(b-a).toNat
 ·rw[gM hi]at h
  cases h;exact⟨by omega,rfl⟩
 ·rw[bL (by simpa using hi)]at h
  cases h
noncomputable def qe(rs:List RwQ)(k:Nat):RwQ:=rs.getD k (0,0)
def bit(c k:Nat):Bool:=decide (c/2^k%2=1)
def plc(rs:List RwQ)(c:Nat):Nat->Nat
 |0=>0
 |k+1=>plc rs c k+if bit c k then(qe rs k).1.toNat else 0
def wgt(rs:List RwQ)(c:Nat):Nat->Int
 |0=>1
 |k+1=>wgt rs c k*if bit c k then(qe rs k).2.num else(qe rs k).2.den-(qe rs k).2.num
theorem yg(f:Nat->Int)(a:Nat):∀b,Com.sumTo f (a+b)=Com.sumTo f a+Com.sumTo (λj=>f (a+j)) b
 |0=>by show _=_+(0:Int);rw[vp];rfl
 |b+1=>by
  rw[show a+(b+1)=a+b+1 by omega,Com.sumTo,yg f a b,Com.sumTo];omega
theorem xG:∀n,Com.sumTo (λ_=>0) n=0
 |0=>rfl
 |n+1=>by rw[Com.sumTo,xG n];rfl
theorem Za{c n:Nat}(h:c<2^n):bit c n=false:=by
 unfold bit;rw[Nat.div_eq_of_lt h];rfl
theorem Rq{c n:Nat}(h:c<2^n):bit (2^n+c) n=true:=by
 unfold bit;rw[Nat.add_div_left _ (Nat.two_pow_pos n),Nat.div_eq_of_lt h];rfl
theorem GK{c n k:Nat}(h:k<n):bit (2^n+c) k=bit c k:=by
 unfold bit;have e:2^n=2^k*(2*2^(n-k-1)):=by
  rw[<-Nat.pow_succ',<-Nat.pow_add];congr 1;omega
 rw[e,Nat.mul_add_div (Nat.two_pow_pos k),Nat.mul_add_mod]
theorem GP(rs:List RwQ){c n:Nat}:∀k,k<=n->plc rs (2^n+c) k=plc rs c k
 |0,_=>rfl
 |k+1,h=>by rw[plc,plc,GP rs k (by omega),GK (by omega)]
theorem GQ(rs:List RwQ){c n:Nat}:∀k,k<=n->wgt rs (2^n+c) k=wgt rs c k
 |0,_=>rfl
 |k+1,h=>by rw[wgt,wgt,GQ rs k (by omega),GK (by omega)]
theorem K3{rs:List RwQ}{k:Nat}(h:k<rs.length):rs[k]? = some (qe rs k):=by
 unfold qe;rw[cj,aO h];rfl
theorem zX{rs:List RwQ}{k:Nat}(h:k<rs.length):jE (rs.take (k+1))=tbS (jE (rs.take k)) (qe rs k):=by
 rw[iK,K3 h];exact xr _ _
theorem K4{rs:List RwQ}:∀n,n<=rs.length->∀k,Com.sumTo (λc=>if plc rs c n=k then wgt rs c n else 0) (2^n)=(jE (rs.take n)).w k
 |0,_,k=>by
  rw[List.take_zero];show(0:Int)+(if 0=k then 1 else 0)=if k=0 then(1:Int)else 0
  by_cases h:k=0
  ·rw[if_pos h,if_pos h.symm];rfl
  ·rw[if_neg h,if_neg (λz=>h z.symm)];rfl
 |n+1,h,k=>by
  have Z:=K4 (rs:=rs) n (by omega);rw[zX (by omega),show 2^(n+1)=2^n+2^n by rw[Nat.pow_succ];omega,yg];show _=m9 (jE (rs.take n)).w (qe rs n).1 (qe rs n).2 k;unfold m9;congr 1
  ·rw[gU (2^n) (g:=λc=>(if plc rs c n=k then wgt rs c n else 0)*((qe rs n).2.den-(qe rs n).2.num)) λc hc=>?_,mQ,Z k];show(if plc rs c n+(if bit c n then _ else 0)=k then wgt rs c n*(if bit c n then _ else _)else 0)=_;rw[Za hc];simp only[oA,if_false,Nat.add_zero];by_cases e:plc rs c n=k
   ·rw[if_pos e,if_pos e]
   ·rw[if_neg e,if_neg e,nQ]
  ·by_cases m:(qe rs n).1.toNat<=k
   ·rw[if_pos m,gU (2^n) (g:=λc=>(if plc rs c n=k-(qe rs n).1.toNat then wgt rs c n else 0)*(qe rs n).2.num) λc hc=>?_,mQ,Z];show(if plc rs (2^n+c) n+(if bit (2^n+c) n then _ else 0)=k then wgt rs (2^n+c) n*(if bit (2^n+c) n then _ else _)else 0)=_;rw[Rq hc,GP rs n (aQ _),GQ rs n (aQ _)];simp only[if_true];by_cases e:plc rs c n=k-(qe rs n).1.toNat
    ·rw[if_pos e,if_pos (by omega)]
    ·rw[if_neg e,if_neg (by omega),nQ]
   ·rw[if_neg m,gU (2^n) (g:=λ_=>0) λc hc=>?_,xG];show(if plc rs (2^n+c) n+(if bit (2^n+c) n then _ else 0)=k then wgt rs (2^n+c) n*(if bit (2^n+c) n then _ else _)else 0)=0;rw[Rq hc];simp only[if_true];rw[if_neg (by omega)]
theorem Rr{rs:List RwQ}(c:Nat):∀k,k<=rs.length->plc rs c k<(jE (rs.take k)).N
 |0,_=>by rw[List.take_zero];exact Nat.one_pos
 |k+1,h=>by
  have:=Rr (rs:=rs) c k (by omega);rw[zX (by omega)];show plc rs c k+(if bit c k then(qe rs k).1.toNat else 0)<(jE (rs.take k)).N+(qe rs k).1.toNat;split<;>omega
theorem Zb{rs:List RwQ}(h:∀r∈rs,rG r){k:Nat}(O:k<rs.length):rG (qe rs k):=h _ (cA (K3 O))
theorem Rt{p:Rat}(h:wg p):sm 7 p.num/\sm 7 ((p.den:Int)-p.num)/\sm 7 (p.den:Int):=by
 obtain⟨a,b,c⟩:=h;unfold sm;omega
theorem Ru{rs:List RwQ}(h:∀r∈rs,rG r)(c:Nat):∀k,k<=rs.length->sm (1+k*7) (wgt rs c k)
 |0,_=>sm1 0 (by show(1:Int).natAbs<=1;decide)
 |k+1,Z=>by
  have i1:=Ru h c k (by omega);have o:=Rt (Zb h (show k<rs.length by omega)).2.2;rw[wgt,show 1+(k+1)*7=1+k*7+7 by omega];refine Rf i1 ?_;split
  ·exact o.1
  ·exact o.2.1
theorem shl{n:Nat}(h:n<=8):LQ (.int 1) (.int (n:Int))=some (.int ((2^n:Nat):Int)):=by
 have:n=0\/n=1\/n=2\/n=3\/n=4\/n=5\/n=6\/n=7\/n=8:=by omega
 rcases this with rfl|rfl|rfl|rfl|rfl|rfl|rfl|rfl|rfl<;>rfl
theorem Rv{t bo:Option U}:∀(m:Nat)(a b:Int)(x:Option U),0<=a->0<=b->b.toNat<=m->∃O n,fM (aY (dOp gGt (aj 3) (dC (.int 0)))) (bJ (bD 4 (dOp gA (aj 2) (aj 3))) (bJ (bD 2 (aj 3)) (bD 3 (aj 4)))) n [t,bo,some (.d (.int a)),some (.d (.int b)),x] =
 some (.nx [t,bo,some (.d (.int (nF a b))),some (.d (.int 0)),O]):=by
 intro m
 induction m with
 |zero=>
  intro a b x ha hb hm;obtain rfl:b=0:=by omega
  refine⟨x,1,?_⟩;rw[fM];simp![];rw[oh ha];rfl
 |succ m Y=>
  intro a b x ha hb hm;by_cases h:b=0
  ·subst h;refine⟨x,1,?_⟩;rw[fM];simp![];rw[oh ha];rfl
  ·have Z:0<b:=by omega
   have h1:0<=a%b:=gF _ (by omega);have h2:a%b<b:=eV _ Z;obtain⟨O,n,e⟩:=Y b (a%b) (some (.d (.int (a%b)))) hb h1 (by omega);refine⟨O,n+1,?_⟩;rw[fM];simp![dTr Z,aH,lX Z];rw[<-w6 ha Z,<-e]
theorem sU{t b:Int}(h0:0<=t)(h:0<b)(hb:b.natAbs<2^9000):cR [.int t,.int b]=some (rD (q t b)):=by
 have Z:=tW (t:=t) h;have g1:=Dw (t:=t) h;obtain⟨Y,n,e⟩:=Rv (t:=some (.d (.int t))) (bo:=some (.d (.int b))) b.toNat t b none h0 (by omega) (aQ _);unfold cR;simp![];rw[wO e];simp![Vj Z (xg (by omega) g1 hb),sz (show 2<=1000000 by decide)];unfold rD;rw[zP h,B_ h]
theorem GR(g:Int)(k:Nat):∀N,sumTo (λj=>if k=j then g else 0) N=if k<N then g else 0
 |0=>rfl
 |N+1=>by
  show sumTo _ N+(if k=N then g else 0)=_;rw[GR g k N];by_cases h:k=N
  ·rw[if_neg (by omega),if_pos h,if_pos (by omega),nP]
  ·rw[if_neg h,vp];by_cases c:k<N
   ·rw[if_pos c,if_pos (by omega)]
   ·rw[if_neg c,if_neg (by omega)]
theorem GX{f:Nat->Nat}{g:Nat->Int}{a N:Nat}:∀M,(∀c,c<M->f c<N)->sumTo (λj=>if a<=j then sumTo (λc=>if f c=j then g c else 0) M else 0) N=sumTo (λc=>if a<=f c then g c else 0) M
 |0,_=>by
  rw[gU N (g:=λ_=>0) λj _=>by show(if a<=j then 0 else 0)=(0:Int);split<;>rfl,xG];rfl
 |M+1,h=>by
  have Z:=GX (f:=f) (g:=g) (a:=a) (N:=N) M λc hc=>h c (by omega)
  have e:sumTo (λj=>if a<=j then sumTo (λc=>if f c=j then g c else 0) (M+1)else 0) N=sumTo (λj=>(if a<=j then sumTo (λc=>if f c=j then g c else 0) M else 0)+(if f M=j then(if a<=f M then g M else 0)else 0)) N:=gU N λj _=>by
   show(if a<=j then sumTo _ M+(if f M=j then g M else 0)else 0)=_;by_cases c:a<=j
   ·rw[if_pos c,if_pos c];by_cases z:f M=j
    ·rw[if_pos z,if_pos z,if_pos (by omega)]
    ·rw[if_neg z,if_neg z]
   ·rw[if_neg c,if_neg c];by_cases z:f M=j
    ·rw[if_pos z,if_neg (by omega)];rfl
    ·rw[if_neg z];rfl
  rw[e,tX,Z,GR,if_pos (h M (by omega))];rfl
abbrev rw1(ps:List Rat):List RwQ:=ps.map λp=>((1:Int),p)
theorem Zc{ps:List Rat}(h:∀p∈ps,wg p):∀r∈rw1 ps,rG r:=λr Z=>by
 obtain⟨p,Y,rfl⟩:=cZ.mp Z;exact⟨show(1:Int)<=1 by decide,show(1:Int)<=4 by decide,h p Y⟩
def u9(c k:Nat):Int:=((c/2^k%2:Nat):Int)
theorem DN(c k:Nat):u9 c k=if bit c k then 1 else 0:=by
 unfold u9 bit;by_cases h:c/2^k%2=1
 ·rw[dTr h,h];rfl
 ·rw[dFa h,show c/2^k%2=0 by omega];rfl
theorem Vp{ps:List Rat}{k:Nat}(h:k<ps.length):qe (rw1 ps) k=(1,ps.getD k 0):=by
 unfold qe rw1;rw[cj,aR,aO h,cj,aO h];rfl
theorem GZ{ps:List Rat}(c:Nat):∀n,n<=ps.length->((cB n).map (u9 c)).sum=(plc (rw1 ps) c n:Int)
 |0,_=>rfl
 |n+1,h=>by
  rw[rA,bG,List.sum_append,GZ (ps:=ps) c n (by omega),plc,Vp (by omega)];simp only[bB,iI,um,List.sum_nil];rw[DN]
  cases bit c n<;>simp
theorem Nk{ps:List Rat}(x:Int)(hx:0<=x):sumTo (λc=>if x<(plc (rw1 ps) c ps.length:Int)then wgt (rw1 ps) c ps.length else 0) (2^ps.length)=tlI (jE (rw1 ps)) x:=by
 have Z:(rw1 ps).length=ps.length:=aG _;have tk:(rw1 ps).take ps.length=rw1 ps:=by rw[<-Z];exact jd
 have e:=GX (f:=λc=>plc (rw1 ps) c ps.length) (g:=λc=>wgt (rw1 ps) c ps.length) (a:=(x+1).toNat) (N:=(jE (rw1 ps)).N) (2^ps.length) λc _=>by
  have:=Rr (rs:=rw1 ps) c ps.length (by rw[Z];exact aQ _);rw[tk]at this;exact this
 unfold tlI tl;rw[gU (jE (rw1 ps)).N (g:=λj=>if(x+1).toNat<=j then sumTo (λc=>if plc (rw1 ps) c ps.length=j then wgt (rw1 ps) c ps.length else 0) (2^ps.length)else 0) λj _=>by
  have:=K4 (rs:=rw1 ps) ps.length (by rw[Z];exact aQ _) j;rw[tk]at this;rw[this],e]
 refine gU _ λc _=>?_
 by_cases z:x<(plc (rw1 ps) c ps.length:Int)
 ·rw[if_pos z,if_pos (by omega)]
 ·rw[if_neg z,if_neg (by omega)]
theorem Nm{ps:List Rat}(h:∀p∈ps,wg p)(hl:ps.length<=8){x:Int}(hx:0<=x):dF [.list (ps.map rD),.int x]=some (.tuple [.int (tlI (jE (rw1 ps)) x),.int (jE (rw1 ps)).B]):=by
 have ok:=Zc h;have I:(rw1 ps).length=ps.length:=aG _;have at_:∀k,k<ps.length->pAt (ps.map rD) (k:Int)=some (.tuple [.int (ps.getD k 0).num,.int (ps.getD k 0).den]):=λk W=>by
  rw[mW,aR,aO W,cj,aO W];rfl
 have pk:∀k,k<ps.length->wg (ps.getD k 0):=λk W=>by
  rw[cj,aO W];exact h _ (jZ W)
 obtain⟨D,K,Y,rfl⟩:=jm (g:=(gNl 4)) (b:=(bD 3 (dOp ig (aj 3) (dOp gIx (aj 4) (dC (.int 1)))))) (λi δ=>∃Y:Option U,δ=[some (.d (.list (ps.map rD))),some (.d (.int x)),some (.d (.int 0)),some (.d (.int (jE ((rw1 ps).take i)).B)),Y,none,none,none,none])
  (ps.map rD) [some (.d (.list (ps.map rD))),some (.d (.int x)),some (.d (.int 0)),some (.d (.int 1)),none,none,none,none,none] ⟨none,rfl⟩ (by
  rintro i d δ hd ⟨Y,rfl⟩;rw[aR]at hd;obtain⟨p,M,rfl⟩:=gO.mp hd;have il:=(bN.mp M).1;have T:=tY (rs:=(rw1 ps).take i) λr y=>ok r (mZ y)
  have ss:=j9 T.Bs (show 7*((rw1 ps).take i).length+1<=4000 by rw[fU];omega);have cp:=Rt (h p (cA M));have w:(jE ((rw1 ps).take (i+1))).B=(jE ((rw1 ps).take i)).B*p.den:=by
   rw[zX (by rw[I];exact il),Vp il,show ps.getD i 0=p by rw[cj,M];rfl];rfl
  refine⟨_,_,rfl,.inl ?_,some (.d (rD p)),rfl⟩;have i1:gIx (rD p) (.int 1)=some (.int p.den):=rfl;simp![i1,yq ss (j9 cp.2.2 (show 7<=4000 by decide)),w])
 rw[aG,show(rw1 ps).take ps.length=rw1 ps by rw[<-I];exact jd]at K;generalize (jE (rw1 ps)).B=Q at K ⊢;have J:xY (some [.int (ps.length:Int)])=some (d_ 0 (ps.length:Int)):=Jc (by omega) (by omega);have C:xY (some [.int ((2^ps.length:Nat):Int)])=some (d_ 0 ((2^ps.length:Nat):Int)):=Jc (qg (by decide) (Int.natCast_nonneg _)) (Int.lt_of_le_of_lt (Int.ofNat_le.mpr (dg (by decide) hl)) (by decide));have bits:∀(c:Nat)(δ:DS),δ[5]? = some (some (.d (.int (c:Int))))->jQ (gNl 0) (D3.mD) (dOp gA (dOp qw (aj 1) (dOp LQ (dC (.int 1)) (aj 0))) (dC (.int 2))) (oZ 1 [5] δ) (d_ 0 (ps.length:Int))=some ((cB ps.length).map λk=>bS (u9 c k)):=λc δ hc=>by
  rw[KQ,iH];refine M7 (λk:Nat=>bS (k:Int)) (λk:Nat=>bS (u9 c k)) (cB ps.length) λk W=>?_
  have v:=eF.mp W;have p2:(0:Int)<((2^k:Nat):Int):=by have:=Nat.pow_pos (n:=k) (show 0<2 by decide);omega
  have p3:((2^k:Nat):Int)<18446744073709551616:=by
   have:2^k<=2^8:=dg (by decide) (by omega);omega
  refine⟨[some (.d (.int (k:Int))),some (.d (.int (c:Int)))],?_,rfl,?_⟩
  ·show some [some (.d (.int (k:Int))),(δ[5]?).getD none]=_;rw[hc];rfl
  ·simp![shl (n:=k) (by omega),Y5 p2 p3,lX (show(0:Int)<2 by decide)];rfl
 have X:(d_ 0 (ps.length:Int)).length<=100000:=by rw[tU];omega
 obtain⟨E,S,N,O,R,V,rfl⟩:=jm (g:=(gNl 5)) (b:=(bJ (bD 6 (iB (oJ (au (dCall nD (au (aj 0) (aK))) (aK))) (gNl 0) (D3.mD) (dOp gA (dOp qw (aj 1) (dOp LQ (dC (.int 1)) (aj 0))) (dC (.int 2))) 1 [5])) (sIf (aY (dOp gGt (dCall pU (au (aj 6) (aK))) (aj 1))) (bJ (bD 7 (dC (.int 1))) (bJ (kY (oJ (au (dCall nD (au (aj 0) (aK))) (aK))) (gNl 8) (bD 7 (dOp ig (aj 7) (dOp gIx (jC (au (dOp pO (dOp gIx (dOp gIx (aj 0) (aj 8)) (dC (.int 1))) (dOp gIx (dOp gIx (aj 0) (aj 8)) (dC (.int 0)))) (au (dOp gIx (dOp gIx (aj 0) (aj 8)) (dC (.int 0))) (aK)))) (dOp gIx (aj 6) (aj 8)))))) (bD 2 (dOp dW (aj 2) (aj 7))))) (fP)))) (λi δ=>∃N O R V:Option U,δ=[some (.d (.list (ps.map rD))),some (.d (.int x)),some (.d (.int (sumTo (λc=>if x<(plc (rw1 ps) c ps.length:Int)then wgt (rw1 ps) c ps.length else 0) i))),some (.d (.int Q)),Y,N,O,R,V])
  (d_ 0 ((2^ps.length:Nat):Int)) [some (.d (.list (ps.map rD))),some (.d (.int x)),some (.d (.int 0)),some (.d (.int Q)),Y,none,none,none,none] ⟨none,none,none,none,rfl⟩ (by
  rintro c d δ hd ⟨N,O,R,V,rfl⟩;obtain⟨hc,rfl⟩:=Dy hd;have hs:pU [.list ((cB ps.length).map λk=>bS (u9 c k))]=some (.int (plc (rw1 ps) c ps.length:Int)):=by
   have:=KJ (ns:=(cB ps.length).map (u9 c));rw[fK,GZ c ps.length (aQ _)]at this;exact this
  have G:=bits c [some (.d (.list (ps.map rD))),some (.d (.int x)),some (.d (.int (sumTo (λc=>if x<(plc (rw1 ps) c ps.length:Int)then wgt (rw1 ps) c ps.length else 0) c))),some (.d (.int Q)),Y,some (.d (.int (c:Int))),O,R,V] rfl;by_cases z:x<(plc (rw1 ps) c ps.length:Int)
  ·obtain⟨F,H,P,rfl⟩:=jm (g:=(gNl 8)) (b:=(bD 7 (dOp ig (aj 7) (dOp gIx (jC (au (dOp pO (dOp gIx (dOp gIx (aj 0) (aj 8)) (dC (.int 1))) (dOp gIx (dOp gIx (aj 0) (aj 8)) (dC (.int 0)))) (au (dOp gIx (dOp gIx (aj 0) (aj 8)) (dC (.int 0))) (aK)))) (dOp gIx (aj 6) (aj 8)))))) (λk δ=>∃P:Option U,δ=[some (.d (.list (ps.map rD))),some (.d (.int x)),some (.d (.int (sumTo (λc=>if x<(plc (rw1 ps) c ps.length:Int)then wgt (rw1 ps) c ps.length else 0) c))),some (.d (.int Q)),Y,some (.d (.int (c:Int))),some (.d (.list ((cB ps.length).map λk=>bS (u9 c k)))),some (.d (.int (wgt (rw1 ps) c k))),P])
    (d_ 0 (ps.length:Int)) [some (.d (.list (ps.map rD))),some (.d (.int x)),some (.d (.int (sumTo (λc=>if x<(plc (rw1 ps) c ps.length:Int)then wgt (rw1 ps) c ps.length else 0) c))),some (.d (.int Q)),Y,some (.d (.int (c:Int))),some (.d (.list ((cB ps.length).map λk=>bS (u9 c k)))),some (.d (.int 1)),V] ⟨V,rfl⟩ (by
    rintro k d δ hd ⟨P,rfl⟩;obtain⟨W,rfl⟩:=Dy hd;have Z:k<ps.length:=by omega
    have a1:=at_ k Z;have os:=Rt (pk k Z);have ws:=j9 (Ru ok c k (by omega)) (show 1+k*7<=4000 by omega);have a2:pAt ((cB ps.length).map λk=>bS (u9 c k)) (k:Int)=some (.int (u9 c k)):=by
     rw[mW,aR,gM Z];rfl
    refine⟨_,_,rfl,.inl ?_,some (.d (.int (k:Int))),rfl⟩
    cases hb:bit c k with
    |true=>
     have L:u9 c k=1:=by rw[DN,hb];rfl
     have S:wgt (rw1 ps) c (k+1)=wgt (rw1 ps) c k*(ps.getD k 0).num:=by rw[wgt,hb,if_pos rfl,Vp Z]
     simp![a1,a2,L,at0,at1,sz (show 2<=1000000 by decide),yq ws (j9 os.1 (show 7<=4000 by decide)),S]
    |false=>
     have L:u9 c k=0:=by rw[DN,hb];rfl
     have S:wgt (rw1 ps) c (k+1)=wgt (rw1 ps) c k*((ps.getD k 0).den-(ps.getD k 0).num):=by
      rw[wgt,hb,Vp Z];rfl
     simp![a1,a2,L,at0,at1,sz (show 2<=1000000 by decide),yq ws (j9 os.2.1 (show 7<=4000 by decide)),S])
   have A:(d_ 0 (ps.length:Int)).length=ps.length:=by simp[d_]
   rw[A]at H;refine⟨_,_,rfl,.inl ?_,some (.d (.int (c:Int))),some (.d (.list ((cB ps.length).map λk=>bS (u9 c k)))),some (.d (.int (wgt (rw1 ps) c ps.length))),P,rfl⟩;have es:sumTo (λc=>if x<(plc (rw1 ps) c ps.length:Int)then wgt (rw1 ps) c ps.length else 0) (c+1)=sumTo (λc=>if x<(plc (rw1 ps) c ps.length:Int)then wgt (rw1 ps) c ps.length else 0) c+wgt (rw1 ps) c ps.length:=by
    show sumTo _ c+(if x<_ then _ else 0)=_;rw[if_pos z]
   simp![lMp,J,X,G,hs,dTr z,H,es]
  ·refine⟨_,_,rfl,.inl ?_,some (.d (.int (c:Int))),some (.d (.list ((cB ps.length).map λk=>bS (u9 c k)))),R,V,rfl⟩;have es:sumTo (λc=>if x<(plc (rw1 ps) c ps.length:Int)then wgt (rw1 ps) c ps.length else 0) (c+1)=sumTo (λc=>if x<(plc (rw1 ps) c ps.length:Int)then wgt (rw1 ps) c ps.length else 0) c:=by
    show sumTo _ c+(if x<_ then _ else 0)=_;rw[if_neg z,vp]
   simp![lMp,J,X,G,hs,dFa z,es])
 have l2:(d_ 0 ((2^ps.length:Nat):Int)).length=2^ps.length:=by rw[tU];exact iH _
 rw[l2,Nk x hx]at S;show Com.dF _=_;unfold Com.dF;simp![K,lMp,shl (n:=ps.length) hl,C,S,sz (show 2<=1000000 by decide)]
abbrev Wi:=Str×Sy
def wD(w:Wi):D:=.tuple [.str w.1,.int w.2.2.2.1,.int w.2.1,.int w.2.2.1,rD w.2.2.2.2]
def DP(ss:List Sy)(n k:Int):List Rat:=(ss.filter (hy n k)).map (·.2.2.2)
theorem Vq(ss:List Sy)(n k:Int):rw1 (DP ss n k)=kh ss n k:=by unfold DP rw1 kh;rw[fK];rfl
theorem Vr{ss:List Sy}(h:∀s∈ss,sY s)(n k:Int):∀p∈DP ss n k,wg p:=λp Z=>by
 obtain⟨s,hs,rfl⟩:=cZ.mp Z;exact h s (dw.mp hs).1
theorem Rw(ss:List Sy)(n k:Int):(DP ss n k).length<=ss.length:=by unfold DP;rw[aG];exact dG _ _
section
variable{ws:List Wi}{ss:List Sy}{lad:List Int}{ρ:Rat}{new:Wi}{K:Nat}
theorem some_spec(ws:List Wi)(n k:Int)(δ:DS)(h4:δ[4]? = some (some (.d (.int n))))(h5:δ[5]? = some (some (.d (.int k)))):jQ (gNl 0) (D3.lA (aY (dOp gLe (dOp gIx (aj 0) (dC (.int 2))) (aj 1))) (D3.lA (aY (dOp gLt (aj 1) (dOp gIx (aj 0) (dC (.int 3))))) (aY (dOp gGe (dOp gIx (aj 0) (dC (.int 1))) (aj 2))))) (bQ (dOp gIx (aj 0) (dC (.int 4)))) (oZ 1 [4,5] δ) (ws.map wD)=some ((DP (ws.map (·.2)) n k).map rD):=by
 have V:oZ 1 [4,5] δ=[none,some (.d (.int n)),some (.d (.int k))]:=by
  show [none,(δ[4]?).getD none,(δ[5]?).getD none]=_;rw[h4,h5];rfl
 rw[V,Q_ (λw:Wi=>wD w) (λw=>hy n k w.2) (λw=>rD w.2.2.2.2) ws λw _=>?_]
 ·unfold DP;rw[List.filter_map,fK,fK];rfl
 ·refine⟨[some (.d (wD w)),some (.d (.int n)),some (.d (.int k))],rfl,?_,λ_=>?_⟩
  ·have i1:gIx (wD w) (.int 1)=some (.int w.2.2.2.1):=at1;have i2:gIx (wD w) (.int 2)=some (.int w.2.1):=at2;have Z:gIx (wD w) (.int 3)=some (.int w.2.2.1):=at3;unfold hy;by_cases Y:w.2.1<=n
   ·by_cases X:n<w.2.2.1
    ·simp![i1,i2,Z,dTr Y,dTr X];simp
    ·simp![i1,i2,Z,dTr Y,dFa X];simp
   ·simp![i1,i2,Z,dFa Y];simp
  ·have W:gIx (wD w) (.int 4)=some (rD w.2.2.2.2):=rfl;simp![W,pB]
variable(h:∀s∈ws.map (·.2)++[new.2],sY s)(hl:ws.length+1<=8)(lp:∀r∈lad,0<=r)(hρ:bd 4000 ρ)
include h hl lp hρ
theorem zY(n k:Int)(hk:1<=k)(y6 y7 y8:Option U):(bJ (bD 6 (iB (lD (dOp ud (aj 0) (jC (au (aj 1) (aK))))) (gNl 0) (D3.lA (aY (dOp gLe (dOp gIx (aj 0) (dC (.int 2))) (aj 1))) (D3.lA (aY (dOp gLt (aj 1) (dOp gIx (aj 0) (dC (.int 3))))) (aY (dOp gGe (dOp gIx (aj 0) (dC (.int 1))) (aj 2))))) (bQ (dOp gIx (aj 0) (dC (.int 4)))) 1 [4,5])) (bJ (zu (dCall dF (au (aj 6) (au (dCall pU (au (dSl (aj 2) (f9 (dOp pO (aj 5) (dC (.int 1)))) fZ) (aK))) (aK)))) (gTn 2 (cQ (gNl 7) (cQ (gNl 8) (jJ))))) (sIf (aY (dOp gGt (dOp ig (aj 7) (dOp gIx (aj 3) (dC (.int 1)))) (dOp ig (dOp gIx (aj 3) (dC (.int 0))) (aj 8)))) (cF (dTup (au (bQ (aj 4)) (au (bQ (aj 5)) (au (dCall cR (au (aj 7) (au (aj 8) (aK)))) (aK)))))) (fP)))) [some (.d (.list (ws.map wD))),some (.d (wD new)),some (.d (.list (lad.map .int))),some (.d (rD ρ)),some (.d (.int n)),some (.d (.int k)),y6,y7,y8] =
 if jW (ws.map (·.2)++[new.2]) lad ρ n k=true then some (.rt (.tuple [.int n,.int k,rD (chR (ws.map (·.2)++[new.2]) lad n k)]))else some (.nx [some (.d (.list (ws.map wD))),some (.d (wD new)),some (.d (.list (lad.map .int))),some (.d (rD ρ)),some (.d (.int n)),some (.d (.int k)),some (.d (.list ((DP (ws.map (·.2)++[new.2]) n k).map rD))),some (.d (.int (tpI (ws.map (·.2)++[new.2]) lad n k))),some (.d (.int (rO (ws.map (·.2)++[new.2]) n k).B))]):=by
 have em:ws.map wD++[wD new]=(ws++[new]).map wD:=by rw[bG];rfl
 have es:(ws++[new]).map (·.2)=ws.map (·.2)++[new.2]:=by rw[bG];rfl
 have sp:=some_spec (ws++[new]) n k [some (.d (.list (ws.map wD))),some (.d (wD new)),some (.d (.list (lad.map .int))),some (.d (rD ρ)),some (.d (.int n)),some (.d (.int k)),y6,y7,y8] rfl rfl;rw[es]at sp;generalize E:ws.map (·.2)++[new.2]=Z at h sp ⊢;have sl:Z.length<=8:=by rw[<-E,bH,aG];exact hl
 have O:=Nm (Vr h n k) (bM (Rw Z n k) sl) (Ro lp k);rw[Vq]at O;have T:=qQ h n k;have C:=bM (u5 Z n k) sl;have O:dF [.list ((DP Z n k).map rD),.int (rmF lad k)]=some (.tuple [.int (tpI Z lad n k),.int (rO Z n k).B]):=O;have b:=Wh T (rmF lad k);have b:0<=tpI Z lad n k/\tpI Z lad n k<=(rO Z n k).B:=b;have Bs:=j9 T.Bs (show 7*(kh Z n k).length+1<=4000 by omega);have G:sm 4000 (tpI Z lad n k):=by
  have D:=Bs;unfold sm at D ⊢;omega
 have L:=sU b.1 T.B0 (j9 (k:=4000) Bs (by decide));have J:gIx (rD ρ) (.int 0)=some (.int ρ.num):=rfl;have K:gIx (rD ρ) (.int 1)=some (.int ρ.den):=rfl;have gs:pU [.list (List.drop (k-1).toNat (lad.map .int))]=some (.int (rmF lad k)):=by
  rw[<-pC,KJ];rfl
 have H:=KR (l:=lad.map bS) (k:=k-1) (by omega);have l1:((ws++[new]).map wD).length<=100000:=by rw[aG,bH];simp;omega
 have l2:(ws.map wD).length+(0+1)<=1000000:=by rw[aG];omega
 have F:∀(P Q R S V W X M N:Option U),gTn 2 (cQ (gNl 7) (cQ (gNl 8) jJ)) (.tuple [.int (tpI Z lad n k),.int (rO Z n k).B]) [P,Q,R,S,V,W,X,M,N]=some [P,Q,R,S,V,W,X,some (.d (.int (tpI Z lad n k))),some (.d (.int (rO Z n k).B))]:=λ_ _ _ _ _ _ _ _ _=>rfl
 have as:∀(f:FE)(P Q R S V W X M N:Option U),f [P,Q,R,S,V,W,X,M,N]=some (.tuple [.int (tpI Z lad n k),.int (rO Z n k).B])->zu f (gTn 2 (cQ (gNl 7) (cQ (gNl 8) jJ))) [P,Q,R,S,V,W,X,M,N]=some (.nx [P,Q,R,S,V,W,X,some (.d (.int (tpI Z lad n k))),some (.d (.int (rO Z n k).B))]):=λf P Q R S V W X M N e=>by
  show((f _).bind _)=_;rw[e,aH,F];rfl
 cases I:jW Z lad ρ n k with
 |true=>
  have Y:ρ.num*(rO Z n k).B<tpI Z lad n k*ρ.den:=of_decide_eq_true I;rw[if_pos rfl];simp![sz (show 0+1<=1000000 by decide),em,l1,l2,sp,H,gs,O,J,K,yq G hρ.d,yq hρ.n Bs,dTr Y,L,pB,sz (show 3<=1000000 by decide)];rfl
 |false=>
  have Y:¬ρ.num*(rO Z n k).B<tpI Z lad n k*ρ.den:=of_decide_eq_false I;rw[if_neg cX];simp![sz (show 0+1<=1000000 by decide),em,l1,l2,sp,H,gs,O,J,K,yq G hρ.d,yq hρ.n Bs,dFa Y]
end
section
variable{ws:List Wi}{lad:List Int}{ρ:Rat}{new:Wi}{K:Nat}(h:∀s∈ws.map (·.2)++[new.2],sY s)(hl:ws.length+1<=8)(lp:∀r∈lad,0<=r)(hρ:bd 4000 ρ)
include h hl lp hρ
theorem Rx{n:Int}{j:Nat}(hj:j<K)(o:jW (ws.map (·.2)++[new.2]) lad ρ n (1+(j:Int))=true)(no:∀i,i<j->jW (ws.map (·.2)++[new.2]) lad ρ n (1+(i:Int))=false)(y5 Z Y O:Option U):
 lB (gNl 5) (bJ (bD 6 (iB (lD (dOp ud (aj 0) (jC (au (aj 1) (aK))))) (gNl 0) (D3.lA (aY (dOp gLe (dOp gIx (aj 0) (dC (.int 2))) (aj 1))) (D3.lA (aY (dOp gLt (aj 1) (dOp gIx (aj 0) (dC (.int 3))))) (aY (dOp gGe (dOp gIx (aj 0) (dC (.int 1))) (aj 2))))) (bQ (dOp gIx (aj 0) (dC (.int 4)))) 1 [4,5])) (bJ (zu (dCall dF (au (aj 6) (au (dCall pU (au (dSl (aj 2) (f9 (dOp pO (aj 5) (dC (.int 1)))) fZ) (aK))) (aK)))) (gTn 2 (cQ (gNl 7) (cQ (gNl 8) (jJ))))) (sIf (aY (dOp gGt (dOp ig (aj 7) (dOp gIx (aj 3) (dC (.int 1)))) (dOp ig (dOp gIx (aj 3) (dC (.int 0))) (aj 8)))) (cF (dTup (au (bQ (aj 4)) (au (bQ (aj 5)) (au (dCall cR (au (aj 7) (au (aj 8) (aK)))) (aK)))))) (fP)))) (d_ 1 ((K:Int)+1)) [some (.d (.list (ws.map wD))),some (.d (wD new)),some (.d (.list (lad.map .int))),some (.d (rD ρ)),some (.d (.int n)),y5,Z,Y,O]=some (.rt (found n j (chR (ws.map (·.2)++[new.2]) lad n (1+(j:Int))))):=
 wj (λ_ δ=>∃y5 Z Y O,δ=[some (.d (.list (ws.map wD))),some (.d (wD new)),some (.d (.list (lad.map .int))),some (.d (rD ρ)),some (.d (.int n)),y5,Z,Y,O]) j _ _ ⟨y5,Z,Y,O,rfl⟩ (by rw[GF];exact hj)
  (by
   rintro i d δ hi hd ⟨y5,Z,Y,O,rfl⟩;obtain⟨_,rfl⟩:=t_ hd;have pt:=zY h hl lp hρ n (1+(i:Int)) (by omega) Z Y O;rw[no i hi,if_neg cX]at pt;exact⟨_,_,rfl,pt,_,_,_,_,rfl⟩)
  (by
   rintro d δ hd ⟨y5,Z,Y,O,rfl⟩;obtain⟨_,rfl⟩:=t_ hd;have pt:=zY h hl lp hρ n (1+(j:Int)) (by omega) Z Y O;rw[o,if_pos rfl]at pt;exact⟨_,rfl,pt⟩)
theorem K5{n:Int}(no:∀i,i<K->jW (ws.map (·.2)++[new.2]) lad ρ n (1+(i:Int))=false)(y5 Z Y O:Option U):
 ∃z5 z6 z7 z8,lB (gNl 5) (bJ (bD 6 (iB (lD (dOp ud (aj 0) (jC (au (aj 1) (aK))))) (gNl 0) (D3.lA (aY (dOp gLe (dOp gIx (aj 0) (dC (.int 2))) (aj 1))) (D3.lA (aY (dOp gLt (aj 1) (dOp gIx (aj 0) (dC (.int 3))))) (aY (dOp gGe (dOp gIx (aj 0) (dC (.int 1))) (aj 2))))) (bQ (dOp gIx (aj 0) (dC (.int 4)))) 1 [4,5])) (bJ (zu (dCall dF (au (aj 6) (au (dCall pU (au (dSl (aj 2) (f9 (dOp pO (aj 5) (dC (.int 1)))) fZ) (aK))) (aK)))) (gTn 2 (cQ (gNl 7) (cQ (gNl 8) (jJ))))) (sIf (aY (dOp gGt (dOp ig (aj 7) (dOp gIx (aj 3) (dC (.int 1)))) (dOp ig (dOp gIx (aj 3) (dC (.int 0))) (aj 8)))) (cF (dTup (au (bQ (aj 4)) (au (bQ (aj 5)) (au (dCall cR (au (aj 7) (au (aj 8) (aK)))) (aK)))))) (fP)))) (d_ 1 ((K:Int)+1)) [some (.d (.list (ws.map wD))),some (.d (wD new)),some (.d (.list (lad.map .int))),some (.d (rD ρ)),some (.d (.int n)),y5,Z,Y,O]=some (.nx [some (.d (.list (ws.map wD))),some (.d (wD new)),some (.d (.list (lad.map .int))),some (.d (rD ρ)),some (.d (.int n)),z5,z6,z7,z8]):=by
 obtain⟨X,e,z5,z6,z7,z8,rfl⟩:=jm (g:=(gNl 5)) (b:=(bJ (bD 6 (iB (lD (dOp ud (aj 0) (jC (au (aj 1) (aK))))) (gNl 0) (D3.lA (aY (dOp gLe (dOp gIx (aj 0) (dC (.int 2))) (aj 1))) (D3.lA (aY (dOp gLt (aj 1) (dOp gIx (aj 0) (dC (.int 3))))) (aY (dOp gGe (dOp gIx (aj 0) (dC (.int 1))) (aj 2))))) (bQ (dOp gIx (aj 0) (dC (.int 4)))) 1 [4,5])) (bJ (zu (dCall dF (au (aj 6) (au (dCall pU (au (dSl (aj 2) (f9 (dOp pO (aj 5) (dC (.int 1)))) fZ) (aK))) (aK)))) (gTn 2 (cQ (gNl 7) (cQ (gNl 8) (jJ))))) (sIf (aY (dOp gGt (dOp ig (aj 7) (dOp gIx (aj 3) (dC (.int 1)))) (dOp ig (dOp gIx (aj 3) (dC (.int 0))) (aj 8)))) (cF (dTup (au (bQ (aj 4)) (au (bQ (aj 5)) (au (dCall cR (au (aj 7) (au (aj 8) (aK)))) (aK)))))) (fP))))) (λ_ δ=>∃y5 Z Y O,δ=[some (.d (.list (ws.map wD))),some (.d (wD new)),some (.d (.list (lad.map .int))),some (.d (rD ρ)),some (.d (.int n)),y5,Z,Y,O]) (d_ 1 ((K:Int)+1)) _ ⟨y5,Z,Y,O,rfl⟩ (by
  rintro i d δ hd ⟨y5,Z,Y,O,rfl⟩;obtain⟨hi,rfl⟩:=t_ hd;have pt:=zY h hl lp hρ n (1+(i:Int)) (by omega) Z Y O;rw[no i hi,if_neg cX]at pt;exact⟨_,_,rfl,.inl pt,_,_,_,_,rfl⟩)
 exact⟨z5,z6,z7,z8,e⟩
variable(hK:new.2.2.2.1=(K:Int))(hK1:K<=1000)(h0:0<=new.2.1)(h1:new.2.2.1<=100000)
include hK hK1 h0 h1
theorem Np{n:Int}{j:Nat}(ha:new.2.1<=n)(hb:n<new.2.2.1)(hm:∀m,new.2.1<=m->m<n->isP (ws.map (·.2)++[new.2]) lad ρ K m=false)(hj:j<K)(o:jW (ws.map (·.2)++[new.2]) lad ρ n (1+(j:Int))=true)(no:∀i,i<j->jW (ws.map (·.2)++[new.2]) lad ρ n (1+(i:Int))=false):
 cD [.list (ws.map wD),wD new,.list (lad.map .int),rD ρ]=some (found n j (chR (ws.map (·.2)++[new.2]) lad n (1+(j:Int)))):=by
 have i2:gIx (wD new) (.int 2)=some (.int new.2.1):=rfl;have O:gIx (wD new) (.int 3)=some (.int new.2.2.1):=rfl;have i1:gIx (wD new) (.int 1)=some (.int (K:Int)):=by rw[<-hK];rfl
 have T:xZ (some [.int 1,.int ((K:Int)+1)])=some (d_ 1 ((K:Int)+1)):=MN (by omega) (by omega) (by decide) (by decide);have ra:xZ (some [.int new.2.1,.int new.2.2.1])=some (d_ new.2.1 new.2.2.1):=MN (by omega) (by omega) (by omega) (by omega);unfold cD;simp![i2,O,ra];have e:=wj (g:=(gNl 4)) (b:=(kY (rB (au (dC (.int 1)) (au (dOp dW (dOp gIx (aj 1) (dC (.int 1))) (dC (.int 1))) (aK)))) (gNl 5) (bJ (bD 6 (iB (lD (dOp ud (aj 0) (jC (au (aj 1) (aK))))) (gNl 0) (D3.lA (aY (dOp gLe (dOp gIx (aj 0) (dC (.int 2))) (aj 1))) (D3.lA (aY (dOp gLt (aj 1) (dOp gIx (aj 0) (dC (.int 3))))) (aY (dOp gGe (dOp gIx (aj 0) (dC (.int 1))) (aj 2))))) (bQ (dOp gIx (aj 0) (dC (.int 4)))) 1 [4,5])) (bJ (zu (dCall dF (au (aj 6) (au (dCall pU (au (dSl (aj 2) (f9 (dOp pO (aj 5) (dC (.int 1)))) fZ) (aK))) (aK)))) (gTn 2 (cQ (gNl 7) (cQ (gNl 8) (jJ))))) (sIf (aY (dOp gGt (dOp ig (aj 7) (dOp gIx (aj 3) (dC (.int 1)))) (dOp ig (dOp gIx (aj 3) (dC (.int 0))) (aj 8)))) (cF (dTup (au (bQ (aj 4)) (au (bQ (aj 5)) (au (dCall cR (au (aj 7) (au (aj 8) (aK)))) (aK)))))) (fP)))))) (λ_ δ=>∃V W X Y Z,δ=[some (.d (.list (ws.map wD))),some (.d (wD new)),some (.d (.list (lad.map .int))),some (.d (rD ρ)),V,W,X,Y,Z]) (v:=found n j (chR (ws.map (·.2)++[new.2]) lad n (1+(j:Int)))) (n-new.2.1).toNat (d_ new.2.1 new.2.2.1)
  [some (.d (.list (ws.map wD))),some (.d (wD new)),some (.d (.list (lad.map .int))),some (.d (rD ρ)),none,none,none,none,none] ⟨none,none,none,none,none,rfl⟩ (by rw[Nj];omega)
  (by
   rintro i d δ hi hd ⟨V,W,X,Y,Z,rfl⟩;obtain⟨_,rfl⟩:=zW hd;obtain⟨P,Q,R,S,U⟩:=K5 (K:=K) h hl lp hρ (DK (hm (new.2.1+(i:Int)) (by omega) (by omega))) W X Y Z;refine⟨_,_,rfl,?_,some (.d (.int (new.2.1+(i:Int)))),P,Q,R,S,rfl⟩;simp![i1,T,U])
  (by
   rintro d δ hd ⟨V,W,X,Y,Z,rfl⟩;obtain⟨_,rfl⟩:=zW hd;refine⟨_,rfl,?_⟩;have en:new.2.1+(((n-new.2.1).toNat:Nat):Int)=n:=by omega
   have U:=Rx (K:=K) h hl lp hρ hj o no W X Y Z;rw[en];simp![i1,T,U])
 rw[e];simp![]
theorem Ry(h01:new.2.1<new.2.2.1)(hm:∀m,new.2.1<=m->m<new.2.2.1->isP (ws.map (·.2)++[new.2]) lad ρ K m=false):
 cD [.list (ws.map wD),wD new,.list (lad.map .int),rD ρ]=some .none:=by
 have i2:gIx (wD new) (.int 2)=some (.int new.2.1):=rfl;have O:gIx (wD new) (.int 3)=some (.int new.2.2.1):=rfl;have i1:gIx (wD new) (.int 1)=some (.int (K:Int)):=by rw[<-hK];rfl
 have P:xZ (some [.int 1,.int ((K:Int)+1)])=some (d_ 1 ((K:Int)+1)):=MN (by omega) (by omega) (by decide) (by decide);have ra:xZ (some [.int new.2.1,.int new.2.2.1])=some (d_ new.2.1 new.2.2.1):=MN (by omega) (by omega) (by omega) (by omega);unfold cD;simp![i2,O,ra];obtain⟨U,e,V,W,X,Y,Z,rfl⟩:=jm (g:=(gNl 4)) (b:=(kY (rB (au (dC (.int 1)) (au (dOp dW (dOp gIx (aj 1) (dC (.int 1))) (dC (.int 1))) (aK)))) (gNl 5) (bJ (bD 6 (iB (lD (dOp ud (aj 0) (jC (au (aj 1) (aK))))) (gNl 0) (D3.lA (aY (dOp gLe (dOp gIx (aj 0) (dC (.int 2))) (aj 1))) (D3.lA (aY (dOp gLt (aj 1) (dOp gIx (aj 0) (dC (.int 3))))) (aY (dOp gGe (dOp gIx (aj 0) (dC (.int 1))) (aj 2))))) (bQ (dOp gIx (aj 0) (dC (.int 4)))) 1 [4,5])) (bJ (zu (dCall dF (au (aj 6) (au (dCall pU (au (dSl (aj 2) (f9 (dOp pO (aj 5) (dC (.int 1)))) fZ) (aK))) (aK)))) (gTn 2 (cQ (gNl 7) (cQ (gNl 8) (jJ))))) (sIf (aY (dOp gGt (dOp ig (aj 7) (dOp gIx (aj 3) (dC (.int 1)))) (dOp ig (dOp gIx (aj 3) (dC (.int 0))) (aj 8)))) (cF (dTup (au (bQ (aj 4)) (au (bQ (aj 5)) (au (dCall cR (au (aj 7) (au (aj 8) (aK)))) (aK)))))) (fP)))))) (λ_ δ=>∃V W X Y Z,δ=[some (.d (.list (ws.map wD))),some (.d (wD new)),some (.d (.list (lad.map .int))),some (.d (rD ρ)),V,W,X,Y,Z]) (d_ new.2.1 new.2.2.1)
  [some (.d (.list (ws.map wD))),some (.d (wD new)),some (.d (.list (lad.map .int))),some (.d (rD ρ)),none,none,none,none,none] ⟨none,none,none,none,none,rfl⟩
  (by
   rintro i d δ hd ⟨V,W,X,Y,Z,rfl⟩;obtain⟨N,rfl⟩:=zW hd;obtain⟨Q,R,S,T,M⟩:=K5 (K:=K) h hl lp hρ (DK (hm (new.2.1+(i:Int)) (by omega) (by omega))) W X Y Z;refine⟨_,_,rfl,.inl ?_,some (.d (.int (new.2.1+(i:Int)))),Q,R,S,T,rfl⟩;simp![i1,P,M])
 rw[e];simp![]
theorem both(O:new.2.1<new.2.2.1):
 (K81.gD [.list ((ws.map (·.2)).map syD),syD new.2,.tuple (lad.map .int),rD ρ]=some .none/\cD [.list (ws.map wD),wD new,.list (lad.map .int),rD ρ]=some .none/\∀y,new.2.1<=y->y<new.2.2.1->isP (ws.map (·.2)++[new.2]) lad ρ K y=false) \/
 ∃(n:Int)(j:Nat)(r:Rat),K81.gD [.list ((ws.map (·.2)).map syD),syD new.2,.tuple (lad.map .int),rD ρ]=some (found n j r)/\cD [.list (ws.map wD),wD new,.list (lad.map .int),rD ρ]=some (found n j r)/\new.2.1<=n/\n<new.2.2.1/\isP (ws.map (·.2)++[new.2]) lad ρ K n=true:=by
 have sl:(ws.map (·.2)++[new.2]).length<=63:=by rw[bH,aG];simp;omega
 rcases zV (λi=>isP (ws.map (·.2)++[new.2]) lad ρ K (new.2.1+(i:Int))) (new.2.2.1-new.2.1).toNat with⟨m,hm,P,hn⟩|hn
 ·refine .inr ?_;have X:isP (ws.map (·.2)++[new.2]) lad ρ K (new.2.1+(m:Int))=true:=P;have Z:∀y,new.2.1<=y->y<new.2.1+(m:Int)->isP (ws.map (·.2)++[new.2]) lad ρ K y=false:=λy a b=>by
   have:=hn (y-new.2.1).toNat (by omega);have e:new.2.1+(((y-new.2.1).toNat:Nat):Int)=y:=by omega
   rw[e]at this;exact this
  obtain⟨j0,T,Q⟩:=wA.mp X;rcases zV (λi=>jW (ws.map (·.2)++[new.2]) lad ρ (new.2.1+(m:Int)) (1+(i:Int))) K with⟨j,S,o,no⟩|z
  ·have W:new.2.1+(m:Int)∈qW (ws.map (·.2)) new.2:=by
    by_cases c:∀s∈ws.map (·.2)++[new.2],s.1≠new.2.1+(m:Int)
    ·exfalso
     have od:=Ni h c o;by_cases U:m=0
     ·refine c new.2 (bw _ (cg.mpr rfl)) ?_;rw[U];simp
     ·have:=Z (new.2.1+(m:Int)-1) (by omega) (by omega);rw[wA.mpr ⟨j,S,od⟩]at this
      cases this
    ·rw[Dz];by_cases U:m=0
     ·left;rw[U];simp
     ·right
      simp only[Classical.not_forall]at c;obtain⟨s,hs,es⟩:=c;have V:s.1=new.2.1+(m:Int):=Classical.byContradiction es;rcases cJ.mp hs with q|q
      ·exact⟨s,q,V,by omega,by omega⟩
      ·rw[cg.mp q]at V;omega
   exact⟨_,j,_,GJ h sl lp hρ hK hK1 W Z S o no,Np h hl lp hρ hK hK1 h0 h1 (by omega) (by omega) Z S o no,by omega,by omega,X⟩
  ·have:=z j0 T;rw[Q]at this
   cases this
 ·have Y:∀y,new.2.1<=y->y<new.2.2.1->isP (ws.map (·.2)++[new.2]) lad ρ K y=false:=λy a b=>by
   have:=hn (y-new.2.1).toNat (by omega);have e:new.2.1+(((y-new.2.1).toNat:Nat):Int)=y:=by omega
   rw[e]at this;exact this
  refine .inl ⟨Jl h sl lp hρ hK hK1 λy hy=>?_,Ry h hl lp hρ hK hK1 h0 h1 O Y,Y⟩;rcases Dz.mp hy with z|⟨_,_,_,N,R⟩
  ·rw[z];exact Y _ (by omega) (by omega)
  ·exact Y _ (by omega) R
end
theorem Rz{ss O:List Sy}(s:ss.Sublist O)(h:∀s∈O,sY s){lad:List Int}{ρ:Rat}{n k:Int}(o:jW ss lad ρ n k=true):jW O lad ρ n k=true:=by
 have hs:∀x∈ss,sY x:=λx hx=>h x (s.subset hx)
 have Y:=qQ h n k;have Z:=qQ hs n k;have sub:(kh ss n k).Sublist (kh O n k):=by unfold kh;exact(s.filter _).map _
 have T0:TbOk tb0 0:=tY (rs:=[]) λ_ z=>(by cases z)
 have d:=yL sub (tZ h n k) T0 T0 (Gz tb0);have o':ρ.num*(rO ss n k).B<tlI (rO ss n k) (rmF lad k)*ρ.den:=of_decide_eq_true o;exact dTr (GC Y Z d o')
theorem Vs{ss O:List Sy}(s:ss.Sublist O)(h:∀s∈O,sY s){lad:List Int}{ρ:Rat}{K:Nat}{n:Int}(o:isP ss lad ρ K n=true):isP O lad ρ K n=true:=by
 obtain⟨j,Z,o⟩:=wA.mp o;exact wA.mpr ⟨j,Z,Rz s h o⟩
theorem RB{α:Type}(f:α->Bool)(l:List α):CG [.list (l.map λa=>dt (f a))]=some (.bool (l.all f)):=by
 have:pD (l.map λa=>dt (f a))=some (l.map f):=by
  induction l with
  |nil=>rfl
  |cons a r Z=>rw[bB,pD,Z];rfl
 show(pD (l.map λa=>dt (f a))).map _=_;rw[this,q_,List.all_map];rfl
theorem Zd{s:Str}(h:du s=true):ly 1 (.str s):=⟨by rwa[cf],by simp[da]⟩
def DQ(x:Str):Prop:=(∀c∈x.cps.toList,97<=c/\c<=122)/\1<=x.length/\x.length<=8
theorem RD{a b:Nat}:([a]:List Nat) < [b]<->a<b:=by simp[List.cons_lt_cons_iff]
theorem ap2{c:Nat}(h:97<=c):Am (.str "a") (.str ⟨#[c]⟩)=some (.bool true):=by
 unfold Am;dsimp only;have:¬((⟨#[c]⟩:Str).cps.toList<("a":Str).cps.toList):=λz=>by
  have z:([c]:List Nat) < [97]:=z;have:=RD.mp z;omega
 rw[dFa this];rfl
theorem ap3{c:Nat}(h:c<=122):Am (.str ⟨#[c]⟩) (.str "z")=some (.bool true):=by
 unfold Am;dsimp only;have:¬(("z":Str).cps.toList<(⟨#[c]⟩:Str).cps.toList):=λz=>by
  have z:([122]:List Nat) < [c]:=z;have:=RD.mp z;omega
 rw[dFa this];rfl
def qSg(x:Option D):Option (List D):=x.bind vV
theorem Ze{f:FE}{δ:DS}:X6 f δ=qSg (f δ):=rfl
theorem ap4{x:Str}(h:∀c∈x.cps.toList,97<=c/\c<=122):qSg (some (.str x))=some (x.cps.toList.map λc=>.str ⟨#[c]⟩):=by
 show vV (.str x)=_;unfold vV;dsimp only;rw[if_pos];rw[<-Array.all_toList,eZ];intro c hc;have:=h c hc;exact dTr (by omega)
theorem wF{x:Str}(h:DQ x):lq [.str x]=some (.bool true):=by
 obtain⟨h1,h2,h3⟩:=h;have Z:D3.isT "str" "str"=true:=rfl;have Y:Kc [.str x]=some (.int x.length):=if_pos (by omega);have V:(1:Int)<=x.length:=by omega
 have W:(x.length:Int)<=8:=by omega
 have X:jQ (gNl 0) (D3.mD) (jD XI.Am XI.Am (dC (.str "a")) (aj 0) (dC (.str "z"))) (oZ 1 [] [some (.d (.str x))]) (x.cps.toList.map λc=>de ⟨#[c]⟩)=some (x.cps.toList.map λ_=>dt true):=by
  refine M7 (λc:Nat=>de ⟨#[c]⟩) (λ_=>dt true) x.cps.toList λc hc=>?_
  obtain⟨a,b⟩:=h1 c hc;refine⟨[some (.d (.str ⟨#[c]⟩))],rfl,rfl,?_⟩;simp![ap2 a,ap3 b]
 have ln:(x.cps.toList.map λc=>de ⟨#[c]⟩).length<=100000:=by
  rw[aG];have:x.cps.toList.length=x.length:=rfl;omega
 have ea:CG [.list (x.cps.toList.map λ_=>dt true)]=some (.bool true):=by
  rw[RB (λ_=>true)];simp
 unfold lq;simp![tyD,Z,Y,dTr V,dTr W,Ze,ap4 h1,ln,X,ea]
theorem Wk{x:Str}(h:DQ x):du x=true:=by
 unfold du;rw[<-Array.all_toList,eZ];intro c hc;have:=h.1 c hc;exact dTr (by omega)
theorem nZ{C:Addr}{ns:List Str}{ds:List D}(h:ns.length=ds.length):isC C ns (.dict (oY C ns ds))=some ds:=by
 show(if(C:Int)=(C:Int)/\nmS (rW ns ds)=some ns then some ((rW ns ds).map (·.2))else none)=_;rw[if_pos ⟨rfl,(vZ h).1⟩,(vZ h).2]
def qFd(C:Addr)(ns:List Str)(k:Nat)(x:Option D):Option D:=x.bind λd=>(isC C ns d).bind λds=>ds[k]?
theorem mz{C:Addr}{ns:List Str}{k:Nat}{f:FE}{δ:DS}:jf C ns k f δ=qFd C ns k (f δ):=rfl
def qMe(F:List D->Option D)(C:Addr)(ns:List Str)(x:Option D)(a:Option (List D)):Option D:=x.bind λd=>(isC C ns d).bind λ_=>a.bind λds=>F (d::ds)
theorem pI{F:List D->Option D}{C:Addr}{ns:List Str}{f:FE}{fa:FA}{δ:DS}:jU F C ns f fa δ=qMe F C ns (f δ) (fa δ):=rfl
def wdS(b:Bool):Str:=if b then "taken"else "waits"
def enL(w:Wi)(b:Bool):List D:=[.str w.1,.int w.2.2.2.1,.int w.2.1,.int w.2.2.1,rD w.2.2.2.2,.str (wdS b)]
def enD(w:Wi)(b:Bool):List (D×D):=oY cP nsEntry (enL w b)
abbrev EnL:=List (Wi×Bool)
def eS(E:EnL):EnS:=E.map λe=>(e.1.1,enD e.1 e.2)
def hoD(rs:List Int):D:=.dict (oY gJ j8 [.list (rs.map .int),.dict [],.dict [],.list []])
def bkL(lad:List Int)(ρ:Rat)(rs:List Int)(E:EnL)(M:List D):List D:=[.list (lad.map .int),rD ρ,.tuple (lad.map .int),hoD rs,.int 0,.dict (etP (eS E)),.list M]
def bkD(lad:List Int)(ρ:Rat)(rs:List Int)(E:EnL)(M:List D):D:=.dict (oY bA bh (bkL lad ρ rs E M))
section
variable{lad rs:List Int}{ρ:Rat}{E:EnL}{M:List D}{w:Wi}{b:Bool}{F:List D->Option D}{ds:List D}
theorem ef(k:Nat):qFd cP nsEntry k (some (.dict (enD w b)))=(enL w b)[k]?:=by unfold qFd enD;rw[aH,nZ rfl,aH]
theorem ef0:qFd cP nsEntry 0 (some (.dict (enD w b)))=some (.str w.1):=ef 0
theorem ef1:qFd cP nsEntry 1 (some (.dict (enD w b)))=some (.int w.2.2.2.1):=ef 1
theorem ef2:qFd cP nsEntry 2 (some (.dict (enD w b)))=some (.int w.2.1):=ef 2
theorem ef3:qFd cP nsEntry 3 (some (.dict (enD w b)))=some (.int w.2.2.1):=ef 3
theorem ef4:qFd cP nsEntry 4 (some (.dict (enD w b)))=some (rD w.2.2.2.2):=ef 4
theorem ef5:qFd cP nsEntry 5 (some (.dict (enD w b)))=some (.str (wdS b)):=ef 5
theorem bf(k:Nat):qFd bA bh k (some (bkD lad ρ rs E M))=(bkL lad ρ rs E M)[k]?:=by unfold qFd bkD;rw[aH,nZ rfl,aH]
theorem bf0:qFd bA bh 0 (some (bkD lad ρ rs E M))=some (.list (lad.map .int)):=bf 0
theorem bf1:qFd bA bh 1 (some (bkD lad ρ rs E M))=some (rD ρ):=bf 1
theorem bf2:qFd bA bh 2 (some (bkD lad ρ rs E M))=some (.tuple (lad.map .int)):=bf 2
theorem bf3:qFd bA bh 3 (some (bkD lad ρ rs E M))=some (hoD rs):=bf 3
theorem bf4:qFd bA bh 4 (some (bkD lad ρ rs E M))=some (.int 0):=bf 4
theorem bf5:qFd bA bh 5 (some (bkD lad ρ rs E M))=some (.dict (etP (eS E))):=bf 5
theorem bm:qMe F bA bh (some (bkD lad ρ rs E M)) (some ds)=F (bkD lad ρ rs E M::ds):=by unfold qMe bkD;rw[aH,nZ rfl];rfl
theorem hm_:qMe F gJ j8 (some (hoD rs)) (some ds)=F (hoD rs::ds):=by unfold qMe hoD;rw[aH,nZ rfl];rfl
theorem DR:flat (.dict (enD w b))=true:=by unfold enD;rw[zq rfl];rfl
theorem Vt:Dr (.dict (etP (eS E)))=some (.list (E.map λe=>.dict (enD e.1 e.2))):=by
 show(etD (etP (eS E))).bind _=_;rw[xX,aH];unfold eS;rw[fK];rfl
theorem Vu:Dq (.dict (etP (eS E)))=some (.list (E.map λe=>.str e.1.1)):=by
 show(etD (etP (eS E))).bind _=_;rw[xX,aH];unfold eS;rw[fK];rfl
theorem Zf:Kw [.dict (etP (eS E))]=some (.int (E.length:Int)):=by
 show(etD (etP (eS E))).bind _=_;rw[xX,aH];unfold eS;rw[aG]
theorem G3:eY [bkD lad ρ rs E M]=some (.list (E.map λe=>.dict (enD e.1 e.2))):=by
 unfold eY;have fl:∀l:EnL,flats (l.map λe=>.dict (enD e.1 e.2))=true:=λl=>by
  induction l with
  |nil=>rfl
  |cons e l Z=>rw[bB,flats,DR,Z];rfl
 simp![mz,bf5,Vt]
theorem Cd(p:Rat):jB [.dict (enD w b),rD p]=some (syD (w.2.1,w.2.2.1,w.2.2.2.1,p)):=by
 unfold jB;simp![mz,ef1,ef2,ef3,pB,sz (show 4<=1000000 by decide)];rfl
theorem Zg{x y:Str}(hx:du x=true)(hy:du y=true):gEq (.str x) (.str y)=some (.bool (decide (x=y))):=by
 have l1:ly 1 (.str x):=⟨by rw[cf];exact hx,by simp[da]⟩;have l2:ly 1 (.str y):=⟨by rw[cf];exact hy,by simp[da]⟩;unfold gEq;rw[ou (sS l1 (by decide)),ou (sS l2 (by decide)),if_pos (by rfl),cK];by_cases c:x=y
 ·subst c;simp
 ·simp[c]
theorem K6:du (wdS b)=true:=by cases b<;>decide +kernel
theorem Vv:gEq (.str (wdS b)) (.str "taken")=some (.bool b):=by
 rw[Zg K6 (by decide +kernel)]
 cases b<;>rfl
theorem ap5:gEq (.str (wdS b)) (.str "waits")=some (.bool (!b)):=by
 rw[Zg K6 (by decide +kernel)]
 cases b<;>rfl
theorem ag7:gEq (.str (wdS b)) (.str "house")=some (.bool false):=by
 rw[Zg K6 (by decide +kernel)]
 cases b<;>rfl
def tkn(E:EnL):List Wi:=(E.filter (·.2)).map (·.1)
def wtg(E:EnL):List Wi:=(E.filter (!·.2)).map (·.1)
theorem Nq(hl:E.length<=100):lZ [.list (E.map λe=>.dict (enD e.1 e.2))]=some (.list (((tkn E).map (·.2)).map syD)):=by
 obtain⟨X,e,Z,rfl⟩:=jm (g:=(gNl 2)) (b:=(bJ (sIf (aY (dOp gEq (XI.jf cP nsEntry 5 (aj 2)) (dC (.str "taken")))) (uO 1 (dCall jB (au (aj 2) (au (XI.jf cP nsEntry 4 (aj 2)) (aK))))) (fP)) (sIf (aY (dOp gEq (XI.jf cP nsEntry 5 (aj 2)) (dC (.str "house")))) (uO 1 (dCall jB (au (aj 2) (au (dC (.tuple [.int 1,.int 1])) (aK))))) (fP)))) (λi δ=>∃Z:Option U,δ=[some (.d (.list (E.map λe=>.dict (enD e.1 e.2)))),some (.d (.list (((tkn (E.take i)).map (·.2)).map syD))),Z])
  (E.map λe=>.dict (enD e.1 e.2)) [some (.d (.list (E.map λe=>.dict (enD e.1 e.2)))),some (.d (.list [])),none] ⟨none,rfl⟩ (by
  rintro i d δ hd ⟨Z,rfl⟩;rw[aR]at hd;obtain⟨⟨w,b⟩,W,rfl⟩:=gO.mp hd;have tk:E.take (i+1)=E.take i++[(w,b)]:=by rw[iK,W];rfl
  have ln:(((tkn (E.take i)).map (·.2)).map syD).length<1000000:=by
   unfold tkn;rw[aG,aG,aG];have:=dG (λe:Wi×Bool=>e.2) (E.take i);rw[fU]at this;omega
  have fs:flat (syD (w.2.1,w.2.2.1,w.2.2.2.1,w.2.2.2.2))=true:=rfl;refine⟨_,_,rfl,.inl ?_,some (.d (.dict (enD w b))),rfl⟩
  cases b with
  |true=>
   have ex:((tkn (E.take (i+1))).map (·.2)).map syD=((tkn (E.take i)).map (·.2)).map syD++[syD (w.2.1,w.2.2.1,w.2.2.2.1,w.2.2.2.2)]:=by
    rw[tk];unfold tkn;rw[h_,bG,bG,bG];rfl
   generalize ((tkn (E.take i)).map (·.2)).map syD=L at ex ln ⊢;rw[ex];simp![mz,ef5,Vv,ag7,ef4,Cd,fs,ln]
  |false=>
   have ex:((tkn (E.take (i+1))).map (·.2)).map syD=((tkn (E.take i)).map (·.2)).map syD:=by
    rw[tk];unfold tkn;rw[h_];simp
   rw[ex];simp![mz,ef5,Vv,ag7])
 rw[aG,jd]at e;have Y:fl1 (.list (((tkn E).map (·.2)).map syD))=true:=p8 _ (λ_=>rfl) _;unfold lZ;generalize ((tkn E).map (·.2)).map syD=L at e Y ⊢;simp![sz (show 0<=1000000 by decide),e,Y]
theorem Ce{d:D}(hl:E.length<=100)(O:K81.gD [.list (((tkn E).map (·.2)).map syD),syD w.2,.tuple (lad.map .int),rD ρ]=some d):cT [bkD lad ρ rs E M,.dict (enD w b)]=some d:=by
 have Z:=Cd (w:=w) (b:=b) w.2.2.2.2;have Y:syD (w.2.1,w.2.2.1,w.2.2.2.1,w.2.2.2.2)=syD w.2:=rfl;rw[Y]at Z;have hi:m_ [.dict (enD w b),.list (E.map λe=>.dict (enD e.1 e.2)),.tuple (lad.map .int),rD ρ]=some d:=by
  unfold m_;simp![Nq hl,mz,ef4,Z,O]
 unfold cT;simp![mz,pI,bm,bf1,bf2,G3,hi]
theorem Nr(hl:E.length<=100):qd [.list (E.map λe=>.dict (enD e.1 e.2))]=some (.list ((wtg E).map λw=>.dict (enD w false))):=by
 have ln:(E.map λe=>(d7 (enD e.1 e.2))).length<=100000:=by rw[aG];omega
 have Y:jQ (gNl 0) (aY (dOp gEq (XI.jf cP nsEntry 5 (aj 0)) (dC (.str "waits")))) (bQ (aj 0)) (oZ 1 [] [some (.d (.list (E.map λe=>.dict (enD e.1 e.2))))]) (E.map λe=>.dict (enD e.1 e.2))=some ((wtg E).map λw=>.dict (enD w false)):=by
  rw[Q_ (λe:Wi×Bool=>d7 (enD e.1 e.2)) (λe=>!e.2) (λe=>d7 (enD e.1 e.2)) E λe _=>?_]
  ·unfold wtg;rw[fK];congr 1;refine nH λe Z=>?_
   have:=(dw.mp Z).2;show d7 (enD e.1 e.2)=d7 (enD e.1 false);rw[show e.2=false by simpa using this]
  ·refine⟨[some (.d (.dict (enD e.1 e.2)))],rfl,?_,λ_=>?_⟩
   ·simp![mz,ef5,ap5]
   ·simp![DR]
 unfold qd;simp![ln,Y]
theorem Nt{word nm:Str}(O:M.length<100000):nj [bkD lad ρ rs E M,.str word,.str nm]=some (.tuple [.none,bkD lad ρ rs E (M++[.tuple [.int 0,.str word,.str nm]])]):=by
 have sa:∀(f:FE)(d:D)(Y Z:Option U),f [some (.d (bkD lad ρ rs E M)),Y,Z]=some d->flat d=true->BR bA bh 6 0 f [some (.d (bkD lad ρ rs E M)),Y,Z]=some (.nx [some (.d (bkD lad ρ rs E (M++[d]))),Y,Z]):=λf d Y Z e hd=>by
  unfold BR;rw[show aj 0 [some (.d (bkD lad ρ rs E M)),Y,Z]=some (bkD lad ρ rs E M)from rfl,aH];unfold bkD;rw[nZ rfl,aH];unfold bkD at e;rw[e,aH];show(if flat d=true/\M.length<1000000 then _ else none)=_;rw[if_pos ⟨hd,by omega⟩];rfl
 have X:(dTup (au (bQ (jf bA bh 4 (aj 0))) (au (aj 1) (au (aj 2) (aK))))) [some (.d (bkD lad ρ rs E M)),some (.d (.str word)),some (.d (.str nm))]=some (.tuple [.int 0,.str word,.str nm]):=by
  simp![mz,bf4,sz (show 3<=1000000 by decide)]
 have:=sa _ _ (some (.d (.str word))) (some (.d (.str nm))) X rfl;unfold nj fnW;rw[if_pos (show [bkD lad ρ rs E M,de word,de nm].length=3 from rfl)];show P0 [0] (BR bA bh 6 0 _ [some (.d (bkD lad ρ rs E M)),some (.d (.str word)),some (.d (.str nm))])=_;rw[this];rfl
theorem DX:jX [bkD lad ρ rs E M]=some (.int 0):=by
 unfold jX;simp![mz,bf4]
theorem Jm:mj [bkD lad ρ rs E M]=some (.list (E.map λe=>.str e.1.1)):=by
 unfold mj;simp![mz,bf5,Vu]
theorem Jo:mq [bkD lad ρ rs E M]=some (.list []):=by
 have hn:kJ [hoD rs]=some (.list []):=by
  unfold kJ;have:qFd gJ j8 1 (some (hoD rs))=some (.dict []):=by unfold qFd hoD;rw[aH,nZ rfl];rfl
  simp![mz,this];rfl
 unfold mq;simp![mz,pI,bf3,hm_,hn];rfl
theorem RG:∀{E:EnL}{w:Wi}{b:Bool},(E.map (·.1.1)).Nodup->(w,b)∈E->rN (eS E) w.1=some (enD w b)
 |[],_,_,_,h=>by cases h
 |e::E,w,b,hn,h=>by
  obtain⟨n1,n2⟩:=cU.mp hn;show rN ((e.1.1,enD e.1 e.2)::eS E) w.1=_;rw[pZ];rcases bI.mp h with z|z
  ·rw[<-z,if_pos rfl]
  ·rw[if_neg λc=>n1 (cZ.mpr ⟨(w,b),z,c.symm⟩)];exact RG n2 z
theorem DY:∀{E:EnL}{x:Str},x∉E.map (·.1.1)->rN (eS E) x=none
 |[],_,_=>rfl
 |e::E,x,h=>by
  rw[bB,bI]at h;show rN ((e.1.1,enD e.1 e.2)::eS E) x=_;rw[pZ,if_neg λc=>h (.inl c.symm)];exact DY λz=>h (.inr z)
theorem ag8{x:Str}:Ut (.str x) (.dict (etP (eS E)))=some (.bool (rN (eS E) x).isSome):=by
 show(etD (etP (eS E))).bind _=_;rw[xX];rfl
theorem RJ{x:Str}:yK (.str x) (.dict (etP (eS E)))=some (.bool (!(rN (eS E) x).isSome)):=by
 show(etD (etP (eS E))).bind _=_;rw[xX];rfl
theorem Zh{x:Str}{v:List (D×D)}(h:rN (eS E) x=some v):Kv (.dict (etP (eS E))) (.str x)=some (.dict v):=by
 show(etD (etP (eS E))).bind _=_;rw[xX,aH];show(rN (eS E) x).bind _=_;rw[h];rfl
theorem Jp(hn:(E.map (·.1.1)).Nodup)(hx:DQ w.1)(O:(w,b)∈E):fW [bkD lad ρ rs E M,.str w.1]=some (.tuple [.str (wdS b),.int w.2.2.2.1,.int w.2.1,.int w.2.2.1,rD w.2.2.2.2]):=by
 have Z:=RG hn O;have Y:jy [bkD lad ρ rs E M,.str w.1]=some (.dict (enD w b)):=by
  unfold jy;simp![wF hx,iY,mz,bf5,RJ,Z,uK,Zh Z]
 unfold fW;simp![pI,bm,Y,mz,ef1,ef2,ef3,ef4,ef5,pB,sz (show 5<=1000000 by decide)]
end
theorem whI(i:Int):dX [.int i]=some (.bool true):=rfl
theorem ag9:∀n,CG [.list (aX n (.bool true))]=some (.bool true):=λn=>by
 have:=RB (λb=>b) (aX n true);rw[List.map_replicate]at this;rw[this];simp
theorem Cg(is:List Int)(δ:DS)(O:δ.length≥0):jQ (gNl 0) (D3.mD) (dCall dX (au (aj 0) (aK))) (oZ 1 [] δ) (is.map .int)=some (aX is.length (.bool true)):=by
 have:=M7 (g:=(gNl 0)) (c:=(D3.mD)) (e:=(dCall dX (au (aj 0) (aK)))) (δ:=oZ 1 [] δ) bS (λ_=>dt true) is λd _=>⟨[some (.d (.int d))],rfl,rfl,by simp![whI]⟩
 rw[this,List.map_const']
theorem Vw{is:List Int}(h:is.length<=1000):fj [.tuple (is.map .int)]=some (.bool true):=by
 have l2:(is.map bS).length<=100000:=by rw[aG];omega
 unfold fj;simp![aa3,Xx,l2,Cg,ge_iff_le,jh,ag9]
theorem Vx{is:List Int}(h:is.length<=1000):fj [.list (is.map .int)]=some (.bool true):=by
 have l2:(is.map bS).length<=100000:=by rw[aG];omega
 unfold fj;simp![aa3,Xw,l2,Cg,ge_iff_le,jh,ag9]
theorem K7(a b:Int):je [.tuple [.int a,.int b]]=some (.bool true):=by
 have e:fj [.tuple [.int a,.int b]]=some (.bool true):=Vw (is:=[a,b]) (show 2<=1000 by decide);have it:gIs "tuple" (.tuple [.int a,.int b])=some (.bool true):=rfl;have Z:gEq (.int ((0+1+1:Nat):Int)) (.int 2)=some (.bool true):=rfl;unfold je jA;simp![it,Z,e]
theorem Jq{a b:Int}(h:0<=a/\a<b/\b<=400):j7 [.tuple [.int a,.int b]]=some (.bool true):=by
 unfold j7;simp![K7,at1,dTr h.1,dTr h.2.1,dTr h.2.2]
theorem gcd_one(p:Rat):nF p.num p.den=1:=by
 have:Cj p.num.natAbs p.den=1:=p.reduced;unfold nF;rw[Int.natAbs_natCast,this];rfl
theorem Wl{p:Rat}{m:Int}(h0:0<=p.num)(h1:p.num<=p.den)(hm:(p.den:Int)<=m):dM [rD p,.int m]=some (.bool true):=by
 have X:=Vm p;have g:=Gs h0 (dO X);have g:K81.cO [.int p.num,.int p.den]=some (.int 1):=by rw[<-gcd_one p];exact g
 have Y:je [rD p]=some (.bool true):=K7 _ _;have Z:gIx (rD p) (.int 0)=some (.int p.num):=rfl;have i1:gIx (rD p) (.int 1)=some (.int p.den):=rfl;have ab:Fv [.int p.num]=some (.int p.num):=by rw[Wc,if_neg (by omega)]
 have r:kZ [rD p]=some (.bool true):=by
  unfold kZ;simp![Y,Z,i1,ab,g,dTr (show(p.den:Int)≥1 by omega)]
 have c:lg [rD p]=some (.bool true):=by
  unfold lg;simp![r,Z,i1,dTr h0,dTr h1]
 unfold dM;simp![c,i1,dTr hm]
section
variable{lad rs:List Int}{ρ:Rat}{E:EnL}{M:List D}{w:Wi}{b:Bool}{F:List D->Option D}{ds:List D}{f:FE}{fa:FA}{δ:DS}{i:Nat}{l sw:List Nat}{d:D}
structure Ok(lad:List Int)(w:Wi):Prop where
 nm:DQ w.1
 k1:1<=w.2.2.2.1
 k2:w.2.2.2.1<=(lad.length:Int)
 a0:0<=w.2.1
 ab:w.2.1<w.2.2.1
 b4:w.2.2.1<=400
 ch:sY w.2
theorem Nu{x a b:Int}(h1:a<=x)(h2:x<=b):dZ [.int x,.int a,.int b]=some (.bool true):=by
 show Com.dZ _=_;unfold Com.dZ;have:=whI x;simp![this,dTr h1,dTr h2]
theorem Jb{l:List D}:nD [.tuple l]=some (.int (l.length:Int)):=rfl
theorem Jr(o:Ok lad w)(hx:w.1∉E.map (·.1.1))(hl:E.length<16):iW [bkD lad ρ rs E M,.str w.1,.int w.2.2.2.1,.int w.2.1,.int w.2.2.1,rD w.2.2.2.2]=some .none:=by
 have Z:=DY hx;have st:=Jq ⟨o.a0,o.ab,o.b4⟩;have c:dM [rD w.2.2.2.2,.int 100]=some (.bool true):=Wl o.ch.1 o.ch.2.1 (by have:=o.ch.2.2;omega);have wi:=Nu o.k1 o.k2;have a0:=o.a0;unfold iW;simp![wF o.nm,iY,mz,bf5,bf2,bf4,ag8,Z,uF,Jb,lMp,wi,st,c,Zf,dFa (show ¬w.2.1<0 by omega),dFa (show ¬(E.length:Int)≥16 by omega),sz (show 2<=1000000 by decide)]
end
section
variable{lad rs:List Int}{ρ:Rat}{E:EnL}{M:List D}{w:Wi}{b:Bool}{F:List D->Option D}{ds:List D}{f:FE}{fa:FA}{δ:DS}{i:Nat}{l sw:List Nat}{d:D}
def qEW(a:Option (D×DS)):Option Oc:=a.bind λp=>some (.nx p.2)
theorem K8{fw:FW}:Dj fw δ=qEW (fw δ):=rfl
theorem ah0{p:D×DS}:qEW (some p)=some (.nx p.2):=rfl
def qMW(F:List D->Option D)(x:Option D)(a:Option (List D))(sw:List Nat)(δ:DS):Option (D×DS):=x.bind λd=>(isC bA bh d).bind λ_=>a.bind λds=>(F (d::ds)).bind λr=>Ms r sw δ
theorem yM:uT F bA bh i fa sw δ=qMW F (aj i δ) (fa δ) sw δ:=rfl
theorem Vy{ds:List D}{r y:D}(h:F (bkD lad ρ rs E M::ds)=some (.tuple [r,y]))(O:flat r=true):qMW F (some (bkD lad ρ rs E M)) (some ds) [i] δ=some (r,δ.set i (some (.d y))):=by
 unfold qMW;have e:isC bA bh (bkD lad ρ rs E M)=some (bkL lad ρ rs E M):=nZ rfl;rw[aH,e,aH,aH,h,aH];show(if flat r=true/\_ then _ else _)=_;rw[if_pos ⟨O,rfl⟩];rfl
def Zi(F:List D->Option D)(x:Option D)(a:Option (List D))(sw:List Nat)(δ:DS):Option (D×DS):=x.bind λd=>(isC bA bh d).bind λ_=>a.bind λds=>(F (d::(ds++[.none]))).bind λr=>Ms r sw δ
theorem RK:tQ F bA bh i fa sw δ=Zi F (aj i δ) (fa δ) sw δ:=rfl
theorem ah1{ds:List D}{r y:D}(h:F (bkD lad ρ rs E M::(ds++[.none]))=some (.tuple [r,y]))(O:flat r=true):Zi F (some (bkD lad ρ rs E M)) (some ds) [i] δ=some (r,δ.set i (some (.d y))):=by
 unfold Zi;have e:isC bA bh (bkD lad ρ rs E M)=some (bkL lad ρ rs E M):=nZ rfl;rw[aH,e,aH,aH,h,aH];show(if flat r=true/\_ then _ else _)=_;rw[if_pos ⟨O,rfl⟩];rfl
def qPk(x:Option D)(r:Option (List D)):Option (List D):=x.bind λd=>r.bind λr=>some (d::r)
theorem RM:uz [] δ=some []:=rfl
theorem K9:uz (i::l) δ=qPk (aj i δ) (uz l δ):=rfl
theorem ah2{ds:List D}:qPk (some d) (some ds)=some (d::ds):=rfl
def qRW(d:Option D)(r:Option (List D)):Option Oc:=d.bind λd=>if flat d=true then r.bind λr=>some (.ex "" "" (.tuple (d::r)))else none
theorem RN:PX l f δ=qRW (f δ) (uz l δ):=rfl
theorem ah3{r:List D}:qRW (some d) (some r)=if flat d=true then some (.ex "" "" (.tuple (d::r)))else none:=rfl
theorem Wm{p q:Nat}{b:FS}{ds:List D}:fnW p q l b ds=if ds.length=p then P0 l (b (ds.map (λd=>some (.d d))++aX q none))else none:=rfl
theorem Wn{c y:Str}:P0 l (some (.ex c y d))=some d:=rfl
theorem K_:Fq f δ=(f δ).bind λ_=>some (.nx δ):=rfl
theorem Vz{x:Str}{v:List (D×D)}:∀{S:EnS},rN S x=none->IV S x v=S++[(x,v)]:=λ{S} h=>by
 unfold IV;rw[if_neg];intro c;obtain⟨q,hq,e⟩:=List.any_eq_true.mp c;have e:q.1=x:=of_decide_eq_true e;have:∀{S:EnS},q∈S->rN S x≠none:=λ{S} Z=>by
  induction S with
  |nil=>cases Z
  |cons r S Y=>
   rw[pZ];split
   ·exact λz=>by cases z
   ·rcases bI.mp Z with z|z
    ·rename_i n;exact absurd (z▸e) n
    ·exact Y z
 exact this hq h
theorem Zj:eS E++[(w.1,enD w b)]=eS (E++[(w,b)]):=by unfold eS;rw[bG];rfl
theorem RP{d2 d3 d4 d5 d6:Option U}(hx:w.1∉E.map (·.1.1))(hl:E.length<16):goN (zO bA bh 5 0 (aj 1) (aj 7)) [some (.d (bkD lad ρ rs E M)),some (.d (.str w.1)),d2,d3,d4,d5,d6,some (.d (.dict (enD w b)))]=some (.nx [some (.d (bkD lad ρ rs (E++[(w,b)]) M)),some (.d (.str w.1)),d2,d3,d4,d5,d6,some (.d (.dict (enD w b)))]):=by
 have e:isC bA bh (bkD lad ρ rs E M)=some (bkL lad ρ rs E M):=nZ rfl;have:zO bA bh 5 0 (aj 1) (aj 7) [some (.d (bkD lad ρ rs E M)),some (.d (.str w.1)),d2,d3,d4,d5,d6,some (.d (.dict (enD w b)))]=some (.nx [some (.d (bkD lad ρ rs (E++[(w,b)]) M)),some (.d (.str w.1)),d2,d3,d4,d5,d6,some (.d (.dict (enD w b)))]):=by
  have a7:aj 7 [some (.d (bkD lad ρ rs E M)),some (.d (.str w.1)),d2,d3,d4,d5,d6,some (.d (.dict (enD w b)))]=some (.dict (enD w b)):=rfl;have a0:aj 0 [some (.d (bkD lad ρ rs E M)),some (.d (.str w.1)),d2,d3,d4,d5,d6,some (.d (.dict (enD w b)))]=some (bkD lad ρ rs E M):=rfl;have a1:aj 1 [some (.d (bkD lad ρ rs E M)),some (.d (.str w.1)),d2,d3,d4,d5,d6,some (.d (.dict (enD w b)))]=some (.str w.1):=rfl;unfold zO;rw[a7,aH,a0,aH,e,aH,a1,aH];show(if flat (.dict (enD w b))=true then(etD (etP (eS E))).bind _ else none)=_;rw[if_pos DR,xX,aH,if_pos (by unfold eS;rw[aG];omega),Vz (DY hx),Zj];rfl
 unfold goN;rw[this];rfl
theorem Js:lY [.str w.1,.int w.2.2.2.1,.int w.2.1,.int w.2.2.1,rD w.2.2.2.2]=some (enL w false):=rfl
theorem RQ{d5:Option U}{t:D}(hl:E.length<=100)(O:K81.gD [.list (((tkn E).map (·.2)).map syD),syD w.2,.tuple (lad.map .int),rD ρ]=some t)(hb:isNone t=b):
 XI.Gr cP nsEntry lY (au (aj 1) (au (aj 2) (au (aj 3) (au (aj 4) (au (aj 6) (aK)))))) 7 (aY (dUn Al (XI.jU cT bA bh (aj 0) (au (aj 7) (aK))))) 5 "taken" [some (.d (bkD lad ρ rs E M)),some (.d (.str w.1)),some (.d (.int w.2.2.2.1)),some (.d (.int w.2.1)),some (.d (.int w.2.2.1)),d5,some (.d (rD w.2.2.2.2)),none]
 = some (.nx [some (.d (bkD lad ρ rs E M)),some (.d (.str w.1)),some (.d (.int w.2.2.2.1)),some (.d (.int w.2.1)),some (.d (.int w.2.2.1)),d5,some (.d (rD w.2.2.2.2)),some (.d (.dict (enD w b)))]):=by
 have hi:=Ce (w:=w) (b:=false) (rs:=rs) (M:=M) hl O;have tt:aY (dUn Al (XI.jU cT bA bh (aj 0) (au (aj 7) (aK)))) [some (.d (bkD lad ρ rs E M)),some (.d (.str w.1)),some (.d (.int w.2.2.2.1)),some (.d (.int w.2.1)),some (.d (.int w.2.2.1)),d5,some (.d (rD w.2.2.2.2)),some (.d (.dict (enD w false)))]=some b:=by
  simp![pI,bm,hi,hb]
 have fa:(au (aj 1) (au (aj 2) (au (aj 3) (au (aj 4) (au (aj 6) (aK)))))) [some (.d (bkD lad ρ rs E M)),some (.d (.str w.1)),some (.d (.int w.2.2.2.1)),some (.d (.int w.2.1)),some (.d (.int w.2.2.1)),d5,some (.d (rD w.2.2.2.2)),none]=some [.str w.1,.int w.2.2.2.1,.int w.2.1,.int w.2.2.1,rD w.2.2.2.2]:=rfl;have n1:ju cP [de w.1,.int w.2.2.2.1,.int w.2.1,.int w.2.2.1,rD w.2.2.2.2]=true:=rfl;have n2:flats (enL w false)=true/\7 < [some (U.d (bkD lad ρ rs E M)),some (.d (.str w.1)),some (.d (.int w.2.2.2.1)),some (.d (.int w.2.1)),some (.d (.int w.2.2.1)),d5,some (.d (rD w.2.2.2.2)),none].length/\(enL w false).length=nsEntry.length/\nsEntry.length<1000/\ju cP (enL w false)=true:=⟨rfl,show 7<8 by decide,rfl,by decide,rfl⟩;unfold Gr;rw[fa,aH,if_pos n1,Js,aH,if_pos n2];show(aY _ [some (.d (bkD lad ρ rs E M)),some (.d (.str w.1)),some (.d (.int w.2.2.2.1)),some (.d (.int w.2.1)),some (.d (.int w.2.2.1)),d5,some (.d (rD w.2.2.2.2)),some (.d (.dict (enD w false)))]).bind _=_;rw[tt]
 cases b<;>rfl
theorem Ci{c t:D}(o:Ok lad w)(hx:w.1∉E.map (·.1.1))(hl:E.length<16)(hM:M.length<100000)(hc:(c = .none/\w.2.2.2.2=1)\/c=rD w.2.2.2.2)(O:K81.gD [.list (((tkn E).map (·.2)).map syD),syD w.2,.tuple (lad.map .int),rD ρ]=some t)(hb:isNone t=b):
 d9 [bkD lad ρ rs E M,.str w.1,.int w.2.2.2.1,.int w.2.1,.int w.2.2.1,c]=some (.tuple [.bool b,bkD lad ρ rs (E++[(w,b)]) (M++[.tuple [.int 0,.str (wdS b),.str w.1]])]):=by
 have W:=Jr (ρ:=ρ) (rs:=rs) (M:=M) o hx hl;have X:=RQ (rs:=rs) (M:=M) (d5:=some (.d c)) (by omega) O hb;have Y:=RP (lad:=lad) (ρ:=ρ) (rs:=rs) (M:=M) (b:=b) (d2:=some (.d (.int w.2.2.2.1))) (d3:=some (.d (.int w.2.1))) (d4:=some (.d (.int w.2.2.1))) (d5:=some (.d c)) (d6:=some (.d (rD w.2.2.2.2))) hx hl;have en:=Nt (lad:=lad) (ρ:=ρ) (rs:=rs) (E:=E++[(w,b)]) (word:=wdS b) (nm:=w.1) hM;unfold d9;generalize bkD lad ρ rs (E++[(w,b)]) (M++[.tuple [.int 0,.str (wdS b),.str w.1]])=R at en ⊢;rcases hc with⟨rfl,h1⟩|rfl
 ·have Z:isNone .none=true:=rfl;have h2:rD w.2.2.2.2 = .tuple [.int 1,.int 1]:=by rw[h1];rfl
  rw[h2]at W X Y;simp![Wm,Z,K_,pI,bm,W,aH,X,Y,K8,yM,mz,ef5,Vy en rfl,ah0,eU,RN,Vv,K9,RM,ah2,ah3,Wn]
 ·have Z:isNone (rD w.2.2.2.2)=false:=rfl;simp![Wm,Z,K_,pI,bm,W,aH,X,Y,K8,yM,mz,ef5,Vy en rfl,ah0,eU,RN,Vv,K9,RM,ah2,ah3,Wn]
end
section
variable{lad rs:List Int}{ρ:Rat}{E:EnL}{M:List D}{w:Wi}{b:Bool}{T:Wi->Int×Nat×Rat}
def lnD(T:Wi->Int×Nat×Rat)(w:Wi):D:=.tuple [.str w.1,.int (T w).1,.int (1+((T w).2.1:Int)),rD (T w).2.2]
def fdD(T:Wi->Int×Nat×Rat)(w:Wi):D:=found (T w).1 (T w).2.1 (T w).2.2
theorem Nv(hl:E.length<=100)(O:∀w∈wtg E,K81.gD [.list (((tkn E).map (·.2)).map syD),syD w.2,.tuple (lad.map .int),rD ρ]=some (fdD T w)):nq [bkD lad ρ rs E M]=some (.list ((wtg E).map (lnD T))):=by
 have S:(wtg E).length<=100:=by unfold wtg;rw[aG];exact bM (dG _ _) hl
 obtain⟨W,e,Y,Z,rfl⟩:=jm (g:=(gNl 2)) (b:=(bJ (bD 3 (XI.jU cT bA bh (aj 0) (au (aj 2) (aK)))) (uO 1 (dTup (au (bQ (XI.jf cP nsEntry 0 (aj 2))) (au (dOp gIx (aj 3) (dC (.int 0))) (au (dOp gIx (aj 3) (dC (.int 1))) (au (dOp gIx (aj 3) (dC (.int 2))) (aK))))))))) (λi δ=>∃Y Z:Option U,δ=[some (.d (bkD lad ρ rs E M)),some (.d (.list (((wtg E).take i).map (lnD T)))),Y,Z])
  ((wtg E).map λw=>.dict (enD w false)) [some (.d (bkD lad ρ rs E M)),some (.d (.list [])),none,none] ⟨none,none,rfl⟩ (by
  rintro i d δ hd ⟨Y,Z,rfl⟩;rw[aR]at hd;obtain⟨w,hw,rfl⟩:=gO.mp hd;have hi:=Ce (w:=w) (b:=false) (rs:=rs) (M:=M) hl (O w (cA hw));have tk:(wtg E).take (i+1)=(wtg E).take i++[w]:=by rw[iK,hw];rfl
  have ln:(((wtg E).take i).map (lnD T)).length<1000000:=by rw[aG,fU];omega
  have V:gIx (fdD T w) (.int 0)=some (.int (T w).1):=rfl;have x1:gIx (fdD T w) (.int 1)=some (.int (1+((T w).2.1:Int))):=rfl;have x2:gIx (fdD T w) (.int 2)=some (rD (T w).2.2):=rfl;have fl:flat (.tuple [.str w.1,.int (T w).1,.int (1+((T w).2.1:Int)),rD (T w).2.2])=true:=rfl;refine⟨_,_,rfl,.inl ?_,some (.d (.dict (enD w false))),some (.d (fdD T w)),rfl⟩;rw[tk,bG];generalize ((wtg E).take i).map (lnD T)=L at ln ⊢;simp![pI,bm,hi,mz,ef0,V,x1,x2,fl,sz (show 4<=1000000 by decide),ln];rfl)
 rw[aG,jd]at e;have X:fl1 (.list ((wtg E).map (lnD T)))=true:=p8 _ (λ_=>rfl) _;unfold nq;generalize (wtg E).map (lnD T)=L at e X ⊢;simp![sz (show 0<=1000000 by decide),pI,bm,G3,Nr hl,e,X]
end
section
variable{lad rs:List Int}{ρ:Rat}{E:EnL}{M:List D}{w:Wi}{b:Bool}{T:Wi->Int×Nat×Rat}
theorem D_{n:Nat}:∀{l:List D},(∀d∈l,ly n d)->lys n l
 |[],_=>tV
 |x::l,h=>iy (h x aN) (D_ λy hy=>h y (aL _ hy))
theorem La(r:Rat):ly 2 (rD r):=Dv (iy pH (iy pH tV))
theorem RV(hn:(E.map (·.1.1)).Nodup)(hok:∀e∈E,DQ e.1.1)(ws:List Wi)(hs:∀w∈ws,(w,b)∈E)(s1 s2 s3 s4 s5 y8 Z O:Option U):
 ∃Y,lB (gNl 8) (sIf (aY (dOp gNe (XI.jU fW bA bh (aj 0) (au (dOp gIx (aj 8) (dC (.int 0))) (aK))) (dOp XI.oR (dTup (au (aj 6) (aK))) (Ds (aj 8) (f9 (dC (.int 1))) fZ)))) (cF (dC (.bool false))) (fP)) (ws.map wD) [some (.d (bkD lad ρ rs E M)),s1,s2,s3,s4,s5,some (.d (.str (wdS b))),some (.d (.list (ws.map wD))),y8,Z,O]=some (.nx [some (.d (bkD lad ρ rs E M)),s1,s2,s3,s4,s5,some (.d (.str (wdS b))),some (.d (.list (ws.map wD))),Y,Z,O]):=by
 obtain⟨X,e,Y,rfl⟩:=jm (g:=(gNl 8)) (b:=(sIf (aY (dOp gNe (XI.jU fW bA bh (aj 0) (au (dOp gIx (aj 8) (dC (.int 0))) (aK))) (dOp XI.oR (dTup (au (aj 6) (aK))) (Ds (aj 8) (f9 (dC (.int 1))) fZ)))) (cF (dC (.bool false))) (fP))) (λi δ=>∃Y:Option U,δ=[some (.d (bkD lad ρ rs E M)),s1,s2,s3,s4,s5,some (.d (.str (wdS b))),some (.d (.list (ws.map wD))),Y,Z,O])
  (ws.map wD) [some (.d (bkD lad ρ rs E M)),s1,s2,s3,s4,s5,some (.d (.str (wdS b))),some (.d (.list (ws.map wD))),y8,Z,O] ⟨y8,rfl⟩ (by
  rintro i d δ hd ⟨Y,rfl⟩;rw[aR]at hd;obtain⟨w,hw,rfl⟩:=gO.mp hd;have hm:=hs w (cA hw);have st:=Jp (lad:=lad) (ρ:=ρ) (rs:=rs) (M:=M) hn (hok _ hm) hm;have W:gIx (wD w) (.int 0)=some (.str w.1):=rfl;have sl:Y9 (some (wD w)) (some (some 1)) (some none)=some (.tuple [.int w.2.2.2.1,.int w.2.1,.int w.2.2.1,rD w.2.2.2.2]):=rfl;have ct:oR (.tuple [.str (wdS b)]) (.tuple [.int w.2.2.2.1,.int w.2.1,.int w.2.2.1,rD w.2.2.2.2])=some (.tuple [.str (wdS b),.int w.2.2.2.1,.int w.2.1,.int w.2.2.1,rD w.2.2.2.2]):=by
   unfold oR;dsimp only;rw[if_pos ⟨⟨rfl,rfl⟩,by simp,by simp,by simp⟩];rfl
  have ne:=ne_self (d:=.tuple [.str (wdS b),.int w.2.2.2.1,.int w.2.1,.int w.2.2.1,rD w.2.2.2.2]) (sS (Dv (iy (sS (Zd K6) (by decide)) (iy pH (iy pH (iy pH (iy (La _) tV)))))) (by decide));refine⟨_,_,rfl,.inl ?_,some (.d (wD w)),rfl⟩;simp![pI,bm,W,st,Wj,sl,ct,ne,sz (show 1<=1000000 by decide)])
 exact⟨Y,e⟩
theorem G4(hl:E.length<=100)(hn:(E.map (·.1.1)).Nodup)(hok:∀e∈E,DQ e.1.1)(ht:∀w∈wtg E,K81.gD [.list (((tkn E).map (·.2)).map syD),syD w.2,.tuple (lad.map .int),rD ρ]=some (fdD T w))
 (hp:∀w∈wtg E,cD [.list ((tkn E).map wD),wD w,.list (lad.map .int),rD ρ]=some (fdD T w)) :
 i_ [bkD lad ρ rs E M,.list ((tkn E).map wD),.list ((wtg E).map wD),.list (E.map λe=>.str e.1.1),.list (lad.map .int),rD ρ]=some (.bool true):=by
 have I:∀w∈tkn E,(w,true)∈E:=λw hw=>by
  obtain⟨⟨J,b⟩,X,rfl⟩:=cZ.mp hw;obtain⟨h1,h2⟩:=dw.mp X
  cases b with
  |true=>exact h1
  |false=>cases h2
 have O:∀w∈wtg E,(w,false)∈E:=λw hw=>by
  obtain⟨⟨J,b⟩,X,rfl⟩:=cZ.mp hw;obtain⟨h1,h2⟩:=dw.mp X
  cases b with
  |true=>cases h2
  |false=>exact h1
 have F:(wtg E).length<=100:=by unfold wtg;rw[aG];exact bM (dG _ _) hl
 obtain⟨Z,L⟩:=RV (lad:=lad) (ρ:=ρ) (rs:=rs) (M:=M) (b:=true) hn hok (tkn E) I (some (.d (.list ((tkn E).map wD)))) (some (.d (.list ((wtg E).map wD)))) (some (.d (.list (E.map λe=>.str e.1.1)))) (some (.d (.list (lad.map .int)))) (some (.d (rD ρ))) none none none;obtain⟨W,N⟩:=RV (lad:=lad) (ρ:=ρ) (rs:=rs) (M:=M) (b:=false) hn hok (wtg E) O (some (.d (.list ((tkn E).map wD)))) (some (.d (.list ((wtg E).map wD)))) (some (.d (.list (E.map λe=>.str e.1.1)))) (some (.d (.list (lad.map .int)))) (some (.d (rD ρ))) Z none none;have G:∀(s2 P Q R S V Y:Option U),jQ (gNl 0) (D3.mD) (dOp XI.oR (dTup (au (dOp gIx (aj 0) (dC (.int 0))) (aK))) (dCall cD (au (aj 1) (au (aj 0) (au (aj 2) (au (aj 3) (aK))))))) (oZ 1 [1,4,5] [some (.d (bkD lad ρ rs E M)),some (.d (.list ((tkn E).map wD))),s2,P,some (.d (.list (lad.map .int))),some (.d (rD ρ)),Q,R,S,V,Y]) ((wtg E).map wD)=some ((wtg E).map (lnD T)):=λs2 P Q R S V Y=>
  M7 (g:=(gNl 0)) (c:=(D3.mD)) (e:=(dOp XI.oR (dTup (au (dOp gIx (aj 0) (dC (.int 0))) (aK))) (dCall cD (au (aj 1) (au (aj 0) (au (aj 2) (au (aj 3) (aK)))))))) wD (lnD T) (wtg E) λw hw=>⟨[some (.d (wD w)),some (.d (.list ((tkn E).map wD))),some (.d (.list (lad.map .int))),some (.d (rD ρ))],rfl,rfl,by
   have K:gIx (wD w) (.int 0)=some (.str w.1):=rfl;have ct:oR (.tuple [.str w.1]) (fdD T w)=some (lnD T w):=by
    unfold oR fdD found lnD;dsimp only;rw[if_pos ⟨⟨rfl,rfl⟩,by simp,by simp,by simp⟩];rfl
   simp![K,hp w hw,ct,sz (show 1<=1000000 by decide)]⟩
 rw[show wdS true="taken"from rfl]at L;rw[show wdS false="waits"from rfl]at N;have b1:(kY (lD (aj 7)) (gNl 8) (sIf (aY (dOp gNe (XI.jU fW bA bh (aj 0) (au (dOp gIx (aj 8) (dC (.int 0))) (aK))) (dOp XI.oR (dTup (au (aj 6) (aK))) (Ds (aj 8) (f9 (dC (.int 1))) fZ)))) (cF (dC (.bool false))) (fP))) [some (.d (bkD lad ρ rs E M)),some (.d (.list ((tkn E).map wD))),some (.d (.list ((wtg E).map wD))),some (.d (.list (E.map λe=>.str e.1.1))),some (.d (.list (lad.map .int))),some (.d (rD ρ)),some (.d (.str "taken")),some (.d (.list ((tkn E).map wD))),none,none,none]=some (.nx [some (.d (bkD lad ρ rs E M)),some (.d (.list ((tkn E).map wD))),some (.d (.list ((wtg E).map wD))),some (.d (.list (E.map λe=>.str e.1.1))),some (.d (.list (lad.map .int))),some (.d (rD ρ)),some (.d (.str "taken")),some (.d (.list ((tkn E).map wD))),Z,none,none]):=by
  simp![L]
 have b2:(kY (lD (aj 7)) (gNl 8) (sIf (aY (dOp gNe (XI.jU fW bA bh (aj 0) (au (dOp gIx (aj 8) (dC (.int 0))) (aK))) (dOp XI.oR (dTup (au (aj 6) (aK))) (Ds (aj 8) (f9 (dC (.int 1))) fZ)))) (cF (dC (.bool false))) (fP))) [some (.d (bkD lad ρ rs E M)),some (.d (.list ((tkn E).map wD))),some (.d (.list ((wtg E).map wD))),some (.d (.list (E.map λe=>.str e.1.1))),some (.d (.list (lad.map .int))),some (.d (rD ρ)),some (.d (.str "waits")),some (.d (.list ((wtg E).map wD))),Z,none,none]=some (.nx [some (.d (bkD lad ρ rs E M)),some (.d (.list ((tkn E).map wD))),some (.d (.list ((wtg E).map wD))),some (.d (.list (E.map λe=>.str e.1.1))),some (.d (.list (lad.map .int))),some (.d (rD ρ)),some (.d (.str "waits")),some (.d (.list ((wtg E).map wD))),W,none,none]):=by
  simp![N]
 have fr:lB (gTn 2 (cQ (gNl 6) (cQ (gNl 7) (jJ)))) (kY (lD (aj 7)) (gNl 8) (sIf (aY (dOp gNe (XI.jU fW bA bh (aj 0) (au (dOp gIx (aj 8) (dC (.int 0))) (aK))) (dOp XI.oR (dTup (au (aj 6) (aK))) (Ds (aj 8) (f9 (dC (.int 1))) fZ)))) (cF (dC (.bool false))) (fP))) [.tuple [.str "taken", .list ((tkn E).map wD)],.tuple [.str "waits", .list ((wtg E).map wD)]] [some (.d (bkD lad ρ rs E M)),some (.d (.list ((tkn E).map wD))),some (.d (.list ((wtg E).map wD))),some (.d (.list (E.map λe=>.str e.1.1))),some (.d (.list (lad.map .int))),some (.d (rD ρ)),none,none,none,none,none]=some (.nx [some (.d (bkD lad ρ rs E M)),some (.d (.list ((tkn E).map wD))),some (.d (.list ((wtg E).map wD))),some (.d (.list (E.map λe=>.str e.1.1))),some (.d (.list (lad.map .int))),some (.d (rD ρ)),some (.d (.str "waits")),some (.d (.list ((wtg E).map wD))),W,none,none]):=by
  rw[lB,show(gTn 2 (cQ (gNl 6) (cQ (gNl 7) (jJ)))) (.tuple [.str "taken", .list ((tkn E).map wD)]) [some (.d (bkD lad ρ rs E M)),some (.d (.list ((tkn E).map wD))),some (.d (.list ((wtg E).map wD))),some (.d (.list (E.map λe=>.str e.1.1))),some (.d (.list (lad.map .int))),some (.d (rD ρ)),none,none,none,none,none]=some [some (.d (bkD lad ρ rs E M)),some (.d (.list ((tkn E).map wD))),some (.d (.list ((wtg E).map wD))),some (.d (.list (E.map λe=>.str e.1.1))),some (.d (.list (lad.map .int))),some (.d (rD ρ)),some (.d (.str "taken")),some (.d (.list ((tkn E).map wD))),none,none,none]from rfl,aH,b1,aH];show lB _ _ _ _=_;rw[lB,show(gTn 2 (cQ (gNl 6) (cQ (gNl 7) (jJ)))) (.tuple [.str "waits", .list ((wtg E).map wD)]) [some (.d (bkD lad ρ rs E M)),some (.d (.list ((tkn E).map wD))),some (.d (.list ((wtg E).map wD))),some (.d (.list (E.map λe=>.str e.1.1))),some (.d (.list (lad.map .int))),some (.d (rD ρ)),some (.d (.str "taken")),some (.d (.list ((tkn E).map wD))),Z,none,none]=some [some (.d (bkD lad ρ rs E M)),some (.d (.list ((tkn E).map wD))),some (.d (.list ((wtg E).map wD))),some (.d (.list (E.map λe=>.str e.1.1))),some (.d (.list (lad.map .int))),some (.d (rD ρ)),some (.d (.str "waits")),some (.d (.list ((wtg E).map wD))),Z,none,none]from rfl,aH,b2,aH];rfl
 have H:=Nv (T:=T) (lad:=lad) (ρ:=ρ) (rs:=rs) (M:=M) hl ht;have il:∀l,gIs "list" (.list l)=some (.bool true):=λ_=>rfl
 have n1:gNe (.list ((wtg E).map (lnD T))) (.list ((wtg E).map (lnD T)))=some (.bool false):=ne_self (sS (n:=4) (Du (D_ λd hd=>by
  obtain⟨w,hw,rfl⟩:=cZ.mp hd;exact Dv (iy (sS (Zd (Wk (hok _ (O w hw)))) (by decide)) (iy pH (iy pH (iy (La _) tV)))))) (by decide))
 have n2:gNe (.list (E.map λe=>.str e.1.1)) (.list (E.map λe=>.str e.1.1))=some (.bool false):=ne_self (sS (n:=2) (Du (D_ λd hd=>by
  obtain⟨e,X,rfl⟩:=cZ.mp hd;exact Zd (Wk (hok _ X)))) (by decide))
 have n3:gNe (.list []) (.list [])=some (.bool false):=rfl;have q1:gEq (.list (lad.map .int)) (.list (lad.map .int))=some (.bool true):=eq_self (sS (n:=2) (Du (KY _ (λ_=>pH) _)) (by decide));have q2:gEq (rD ρ) (rD ρ)=some (.bool true):=eq_self (sS (La ρ) (by decide));have q3:gEq (.int 0) (.int 0)=some (.bool true):=rfl;have cl:((wtg E).map wD).length<=100000:=by rw[aG];omega
 unfold i_;simp![sz (show 2<=1000000 by decide),fr,G,cl,pI,bm,H,il,n1,Jm,n2,Jo,n3,sz (show 0<=1000000 by decide),iY,mz,bf0,bf1,q1,q2,DX,q3]
end
theorem Zk{l:List Int}(hl:l≠[])(h:∀x∈l,0<=x):∃m,Fw [.list (l.map .int)]=some (.int m)/\0<=m:=by
 cases l with
 |nil=>exact absurd rfl hl
 |cons i r=>
  have sp:=zx r i;refine⟨mnI i r,?_,h _ sp.1⟩;show(match m6 ((i::r).map .int)with|some (i::r)=>some (bS (mnI i r))|_=>none)=_;rw[p7]
theorem Nx{lad:List Int}(h1:1<=lad.length)(h2:lad.length<=4)(h0:∀x∈lad,0<=x)(hs:lad.sum<=12):iV [.list (lad.map .int)]=some (.bool true):=by
 obtain⟨m,em,Y⟩:=Zk (l:=lad) (λz=>by rw[z]at h1;simp at h1) h0;have Z:gH [.list (lad.map .int)]=some (.bool true):=by
  have il:gIs "list" (.list (lad.map .int))=some (.bool true):=rfl;unfold gH;simp![il,Vx (is:=lad) (by omega)]
 unfold iV;simp![Z,lMp,dTr (show(1:Int)<=(lad.length:Int)by omega),dTr (show(lad.length:Int)<=4 by omega),iY,em,dTr (show m≥0 by omega),KJ,dTr hs]
theorem kinds_ok{lad:List Int}(h2:lad.length<=4)(h0:∀x∈lad,0<=x/\x<=12):∃rs:List Int,gY [.list (lad.map .int)]=some (.list (rs.map .int)):=by
 have V:(o_ (lad.map .int)).length=lad.length:=by unfold o_;rw[uI,aG]
 obtain⟨X,e,rs,Y,Z,rfl,hl⟩:=jm (g:=(gTn 2 (cQ (gNl 2) (cQ (gNl 3) (jJ))))) (b:=(bD 1 (dOp ud (aj 1) (dOp HS (jC (au (dOp dW (aj 2) (dC (.int 1))) (aK))) (aj 3))))) (λi δ=>∃(rs:List Int)(Y Z:Option U),δ=[some (.d (.list (lad.map .int))),some (.d (.list (rs.map .int))),Y,Z]/\rs.length<=12*i)
  (o_ (lad.map .int)) [some (.d (.list (lad.map .int))),some (.d (.list [])),none,none] ⟨[],none,none,rfl,by simp⟩ (by
  rintro i d δ hd ⟨rs,Y,Z,rfl,hl⟩;have hi:i<lad.length:=by have:=(bN.mp hd).1;rw[V]at this;exact this
  unfold o_ at hd;rw[fX,aR,aO hi]at hd;have hd:di [.int (i:Int),.int lad[i]]=d:=by simpa using hd
  subst hd;have hb:=h0 _ (jZ hi);generalize lad[i]=v at hb;refine⟨_,_,rfl,.inl ?_,rs++aX v.toNat ((i:Int)+1),some (.d (.int (i:Int))),some (.d (.int v)),rfl,?_⟩
  ·have l2:(rs.map bS).length+((aX v.toNat ((i:Int)+1)).map bS).length<=1000000:=by rw[aG,aG,bK];omega
   simp![sz (show 0+1<=1000000 by decide),sz (show 1<=1000000 by decide),Ra (v:=(i:Int)+1) (k:=v) (by omega) (by omega),l2,bG]
  ·rw[bH,bK];omega)
 have W:fl1 (.list (rs.map .int))=true:=p8 _ (λ_=>rfl) rs;refine⟨rs,?_⟩;unfold gY;simp![sz (show 0<=1000000 by decide),e,W]
theorem VB:∀l:List Int,nls (l.map .int)=0
 |[]=>rfl
 |x::l=>by rw[bB,nls,VB l];rfl
theorem Jt{C:Addr}:∀l:List Int,ju C (l.map .int)=true
 |[]=>rfl
 |x::l=>by rw[bB,ju,Jt l];rfl
theorem MP{f:FE}{δ:DS}{d:D}(e:f δ=some d)(h:nl d<=1):dN1 f δ=some d:=by
 unfold dN1;rw[e,aH,if_pos (dTr h)]
theorem mC{C:Addr}{x:Str}{f:FE}{r:List (Str×FE)}{δ:DS}{d:D}{ds:List D}(e:f δ=some d)(n:noC C d=true)(q:v7 C r δ=some ds):v7 C ((x,f)::r) δ=some (d::ds):=by
 rw[v7,e,aH,if_pos n,q];rfl
theorem RW{lad:List Int}{ρ:Rat}(h1:1<=lad.length)(h2:lad.length<=4)(h0:∀x∈lad,0<=x/\x<=12)(hs:lad.sum<=12)(Y:0<=ρ.num)(r1:ρ.num<=ρ.den)(O:(ρ.den:Int)<=1000000000):∃rs,∀{f:FA}{δ:DS},f δ=some [.list (lad.map .int),rD ρ]->XI.xW bA bh lu f δ=some (bkD lad ρ rs [] []):=by
 obtain⟨rs,W⟩:=kinds_ok h2 h0;refine⟨rs,λ{f δ} e=>?_⟩;have Z:=Nx h1 h2 (λx hx=>(h0 x hx).1) hs;have c:=Wl Y r1 O;have X:fl1 (.list (lad.map .int))=true:=wC lad;have f1:fl1 (.list (rs.map .int))=true:=wC rs;have ft:flat (.tuple (lad.map .int))=true:=wC lad;have tt:(D3.tOr (D3.jO (aY (dCall iV (au (aj 1) (aK))))) (D3.jO (aY (dCall dM (au (aj 2) (au (dC (.int 1000000000)) (aK))))))) [none,some (.d (.list (lad.map .int))),some (.d (rD ρ))]=some false:=by
  simp![Z,c,iY]
 have hi:jt [.list (rs.map .int)]=some [.list (rs.map .int),.dict [],.dict [],.list []]:=by
  unfold jt fnG;rw[if_pos (show [ev (rs.map .int)].length=1 from rfl)];show v7 gJ _ [none,some (.d (.list (rs.map .int)))]=_;refine mC (MP ?_ (by rw[nl,VB];decide)) (by rw[noC,Jt]) (mC rfl rfl (mC rfl rfl (mC rfl rfl rfl)));simp![f1]
 have hm:∀{g:FA}{δ:DS},g δ=some [.list (rs.map .int)]->XI.xW gJ j8 jt g δ=some (hoD rs):=λ{g δ} e=>by
  unfold xW;rw[e,aH,if_pos (by rw[ju,noC,Jt];rfl),hi];rfl
 have V:lu [.list (lad.map .int),rD ρ]=some (bkL lad ρ rs [] []):=by
  unfold lu fnG;rw[if_pos (show [ev (lad.map .int),rD ρ].length=2 from rfl)];show((D3.tOr (D3.jO (aY (dCall iV (au (aj 1) (aK))))) (D3.jO (aY (dCall dM (au (aj 2) (au (dC (.int 1000000000)) (aK))))))) [none,some (.d (.list (lad.map .int))),some (.d (rD ρ))]).bind _=_;rw[tt];show v7 bA _ [none,some (.d (.list (lad.map .int))),some (.d (rD ρ))]=_;refine mC (MP ?_ (by rw[nl,VB];decide)) (by rw[noC,Jt]) (mC (MP ?_ (show 0<=1 by decide)) rfl (mC (MP ?_ (by rw[nl,VB];decide)) (by rw[noC,Jt]) (mC (hm ?_) ?_ (mC rfl rfl (mC rfl rfl (mC rfl rfl rfl))))))
  ·simp![X]
  ·simp![pB]
  ·simp![Xy,ft]
  ·simp![W]
  ·have e:noC bA (.list (rs.map .int))=true:=by rw[noC,Jt]
   show(noC bA (.list (rs.map .int))&&true)=true;rw[e];rfl
 unfold xW;rw[e,aH,if_pos (by rw[ju,noC,Jt];rfl),V];rfl
def r6(x:Int):Prop:=0<=x/\x<1000000
theorem zZ(ns:List Int){a m:Int}(h0:0<=a)(m0:0<=m)(O:m<=1000):∃xs:List Int,xs.length=m.toNat/\(∀x∈xs,r6 x)/\eX [.list (ns.map .int),.int a,.int m]=some (.list (xs.map .int)):=by
 have Z:xY (some [.int m])=some (d_ 0 m):=Jc (by omega) (by omega);obtain⟨xs,l1,h1,e⟩:=cEx (g:=(gNl 0)) (c:=(D3.mD)) (e:=(dCall gj (au (aj 1) (au (aj 2) (au (aj 0) (au (dOp Ft (dC (.int 10)) (dC (.int 6))) (aK))))))) (δ:=[none,some (.d (.list (ns.map .int))),some (.d (.int a))]) bS r6 (d_ 0 m) λd hd=>by
  obtain⟨k,X,rfl⟩:=Vk hd;refine⟨[some (.d (.int (k:Int))),some (.d (.list (ns.map .int))),some (.d (.int a))],rF ns a (k:Int) (10^6),rfl,rfl,by have:=pq ns a (k:Int) (m:=10^6) (by decide);unfold r6;omega,?_⟩;simp![ao8,tR (ns:=ns) (i:=a) (k:=(k:Int)) (m:=10^6) h0 (by omega) (by omega) (by decide)]
 have Y:∀a b c:U,oZ 1 [0,1] [some a,some b,some c]=[none,some a,some b]:=λ_ _ _=>rfl
 unfold eX Com.eX;refine⟨xs,by rw[l1,tU],h1,?_⟩;simp![Z,Y,e,tU,show m.toNat<=100000 by omega]
theorem z9{xs:List Int}{i:Int}(h0:0<=i)(h:i<(xs.length:Int)):pAt (xs.map .int) i=some (.int (xs.getD i.toNat 0)):=by
 have e:i=((i.toNat:Nat):Int):=by omega
 have hl:i.toNat<xs.length:=by omega
 rw[e,mW,aR,aO hl,iH,cj,aO hl];rfl
theorem Ju{xs:List Int}(h:2<=xs.length):∃p,wg p/\eN [.list (xs.map .int)]=some (rD p):=by
 have a0:=z9 (xs:=xs) (i:=0) (by omega) (by omega);have a1:=z9 (xs:=xs) (i:=1) (by omega) (by omega);generalize xs.getD (0:Int).toNat 0=x at a0;generalize xs.getD (1:Int).toNat 0=y at a1;have V:=Ao (i:=y) (j:=20) (by decide);have W:=Ao (i:=y) (j:=101) (by decide);have X:=Ao (i:=x) (j:=6) (by decide);have l1:=sU (t:=1+y%20) (b:=20) (by omega) (by decide) (j9 (k:=10) (show sm 10 20 from show(20:Int).natAbs<2^10 by decide) (show 10<=9000 by decide));have l2:=sU (t:=y%101) (b:=100) (by omega) (by decide) (j9 (k:=10) (show sm 10 100 from show(100:Int).natAbs<2^10 by decide) (show 10<=9000 by decide));have Z:∃p,wg p/\pAt [di [.int 1,.int 1],.tuple [.int 0,.int 1],.tuple [.int 1,.int 2],.tuple [.int 9,.int 10],rD (q (1+y%20) 20),rD (q (y%101) 100)] (x%6)=some (rD p):=by
  have:x%6=0\/x%6=1\/x%6=2\/x%6=3\/x%6=4\/x%6=5:=by omega
  rcases this with e|e|e|e|e|e<;>rw[e]
  ·exact⟨q 1 1,Gv (by decide) (by decide) (by decide) (by decide),rfl⟩
  ·exact⟨q 0 1,Gv (by decide) (by decide) (by decide) (by decide),rfl⟩
  ·exact⟨q 1 2,Gv (by decide) (by decide) (by decide) (by decide),rfl⟩
  ·exact⟨q 9 10,Gv (by decide) (by decide) (by decide) (by decide),rfl⟩
  ·exact⟨q (1+y%20) 20,Gv (by omega) (by omega) (by decide) (by decide),rfl⟩
  ·exact⟨q (y%101) 100,Gv (by omega) (by omega) (by decide) (by decide),rfl⟩
 obtain⟨p,Y,e⟩:=Z;refine⟨p,Y,?_⟩;unfold eN;simp![a0,a1,lX (show(0:Int)<20 by decide),lX (show(0:Int)<101 by decide),lX (show(0:Int)<6 by decide),l1,l2,sz (show 2<=1000000 by decide),sz (show 6<=1000000 by decide),e,pB]
def nmB(x:Str):Bool:=x.cps.toList.all (λc=>decide (97<=c/\c<=122))&&(decide (1<=x.length)&&decide (x.length<=8))
theorem RX{x:Str}(h:nmB x=true):DQ x:=by
 unfold nmB at h;rw[aM,aM]at h;exact⟨λc hc=>of_decide_eq_true (eZ.mp h.1 c hc),of_decide_eq_true h.2.1,of_decide_eq_true h.2.2⟩
def ns0:List Str:=["a", "ab", "abc", "abcd", "abcde", "abcdef", "abcdefg", "abcdefgh"]
noncomputable def ns1:Nat->List Str
 |0=>["aight", "bight", "cight", "dight", "eight", "fight", "gight", "hight"]
 |1=>["naght", "nbght", "ncght", "ndght", "neght", "nfght", "ngght", "nhght"]
 |2=>["niaht", "nibht", "nicht", "nidht", "nieht", "nifht", "night", "nihht"]
 |3=>["nigat", "nigbt", "nigct", "nigdt", "niget", "nigft", "niggt", "night"]
 |_=>["nigha", "nighb", "nighc", "nighd", "nighe", "nighf", "nighg", "nighh"]
theorem RZ(ns:List Int):∃xs:List Str,jr [.list (ns.map .int),.int 1]=some (.list (xs.map .str))/\xs.length=8/\xs.Nodup/\∀x∈xs,DQ x:=by
 obtain⟨Z,P,_,S⟩:=zZ ns (a:=1) (m:=2) (by decide) (by decide) (by decide);have a0:=z9 (xs:=Z) (i:=0) (by omega) (by omega);have a1:=z9 (xs:=Z) (i:=1) (by omega) (by omega);generalize Z.getD (0:Int).toNat 0=x at a0;generalize Z.getD (1:Int).toNat 0=y at a1;have T:xY (some [.int 8])=some (d_ 0 8):=Jc (by decide) (by decide);have Y:(d_ 0 8).length<=100000:=by rw[tU];decide
 by_cases c:x%2=0
 ·refine⟨ns0,?_,rfl,by decide +kernel,λx hx=>RX (by
   have:ns0.all nmB=true:=by decide +kernel
   exact eZ.mp this x hx)⟩
  have e:∀δ:DS,jQ (gNl 0) (D3.mD) (Iv (dC (.str "abcdefgh")) fZ (f9 (dOp dW (aj 0) (dC (.int 1))))) (oZ 1 [] δ) (d_ 0 8)=some (ns0.map .str):=λδ=>by
   rfl
  unfold jr;simp![S,a0,lX (show(0:Int)<2 by decide),dTr c,T,Y,e]
 ·have O:=Ao (i:=y) (j:=5) (by decide);have R:∃k:Nat,k<5/\y%5=(k:Int):=⟨(y%5).toNat,by omega,by omega⟩;obtain⟨k,k5,Q⟩:=R;have al:∀k,k<5->(ns1 k).length=8/\(ns1 k).Nodup/\(ns1 k).all nmB=true:=by decide +kernel
  obtain⟨V,W,X⟩:=al k k5;refine⟨ns1 k,?_,V,W,λx hx=>RX (eZ.mp X x hx)⟩;have e:∀(s0 s2:Option U),jQ (gNl 0) (D3.mD) (dOp BK (dOp BK (Iv (dC (.str "night")) fZ (f9 (aj 1))) (dOp Uh (dC (.str "abcdefgh")) (aj 0))) (Iv (dC (.str "night")) (f9 (dOp dW (aj 1) (dC (.int 1)))) fZ)) (oZ 1 [1] [s0,some (.d (.int (k:Int))),s2]) (d_ 0 8)=some ((ns1 k).map .str):=λs0 s2=>by
   have:k=0\/k=1\/k=2\/k=3\/k=4:=by omega
   rcases this with rfl|rfl|rfl|rfl|rfl<;>rfl
  unfold jr;simp![S,a0,a1,lX (show(0:Int)<2 by decide),lX (show(0:Int)<5 by decide),dFa c,Q,T,Y,e]
section
variable{lad rs:List Int}{ρ:Rat}{E:EnL}{M:List D}{w:Wi}{b:Bool}
def Wt(lad:List Int)(ρ:Rat)(E:EnL):Prop:=∀e∈E,e.2=false->∃n,e.1.2.1<=n/\n<e.1.2.2.1/\isP ((tkn E).map (·.2)++[e.1.2]) lad ρ e.1.2.2.2.1.toNat n=true
theorem Lb(h:w∈tkn E):(w,true)∈E:=by
 obtain⟨⟨Y,b⟩,Z,rfl⟩:=cZ.mp h;obtain⟨h1,h2⟩:=dw.mp Z
 cases b with
 |true=>exact h1
 |false=>cases h2
theorem VD(h:w∈wtg E):(w,false)∈E:=by
 obtain⟨⟨Y,b⟩,Z,rfl⟩:=cZ.mp h;obtain⟨h1,h2⟩:=dw.mp Z
 cases b with
 |true=>cases h2
 |false=>exact h1
theorem Ld:(tkn E).length<=E.length:=by unfold tkn;rw[aG];exact dG _ _
theorem Le:tkn (E++[(w,true)])=tkn E++[w]:=by unfold tkn;rw[h_,bG];rfl
theorem R3:tkn (E++[(w,false)])=tkn E:=by unfold tkn;rw[h_,bG];simp
theorem Wo:wtg (E++[(w,false)])=wtg E++[w]:=by unfold wtg;rw[h_,bG];rfl
theorem Wq:wtg (E++[(w,true)])=wtg E:=by unfold wtg;rw[h_,bG];simp
theorem Wr(hl:E.length<=7)(ok:∀e∈E,Ok lad e.1)(o:Ok lad w)(O:lad.length<=4)(lp:∀r∈lad,0<=r)(hρ:bd 4000 ρ):
 (K81.gD [.list (((tkn E).map (·.2)).map syD),syD w.2,.tuple (lad.map .int),rD ρ]=some .none/\cD [.list ((tkn E).map wD),wD w,.list (lad.map .int),rD ρ]=some .none/\∀y,w.2.1<=y->y<w.2.2.1->isP ((tkn E).map (·.2)++[w.2]) lad ρ w.2.2.2.1.toNat y=false) \/
 ∃(n:Int)(j:Nat)(r:Rat),K81.gD [.list (((tkn E).map (·.2)).map syD),syD w.2,.tuple (lad.map .int),rD ρ]=some (found n j r)/\cD [.list ((tkn E).map wD),wD w,.list (lad.map .int),rD ρ]=some (found n j r)/\w.2.1<=n/\n<w.2.2.1/\isP ((tkn E).map (·.2)++[w.2]) lad ρ w.2.2.2.1.toNat n=true:=by
 have tl:=Ld (E:=E);have k1:=o.k1;have k2:=o.k2;have b4:=o.b4;exact both (λs hs=>by
  rcases cJ.mp hs with h|h
  ·obtain⟨Z,hw,rfl⟩:=cZ.mp h;exact(ok _ (Lb hw)).ch
  ·rw[cg.mp h];exact o.ch) (by omega) lp hρ (K:=w.2.2.2.1.toNat) (by omega) (by omega) o.a0 (by omega) o.ab
theorem finds(hl:E.length<=7)(ok:∀e∈E,Ok lad e.1)(Y:lad.length<=4)(lp:∀r∈lad,0<=r)(hρ:bd 4000 ρ)(O:Wt lad ρ E):∃T:Wi->Int×Nat×Rat,(∀w∈wtg E,K81.gD [.list (((tkn E).map (·.2)).map syD),syD w.2,.tuple (lad.map .int),rD ρ]=some (fdD T w)) /\
 (∀w∈wtg E,cD [.list ((tkn E).map wD),wD w,.list (lad.map .int),rD ρ]=some (fdD T w)):=by
 have:∀w:Wi,∃t:Int×Nat×Rat,w∈wtg E->K81.gD [.list (((tkn E).map (·.2)).map syD),syD w.2,.tuple (lad.map .int),rD ρ]=some (found t.1 t.2.1 t.2.2)/\cD [.list ((tkn E).map wD),wD w,.list (lad.map .int),rD ρ]=some (found t.1 t.2.1 t.2.2):=λw=>by
  by_cases c:w∈wtg E
  ·have hm:=VD c;obtain⟨n,n1,n2,n3⟩:=O _ hm rfl;rcases Wr hl ok (ok _ hm) Y lp hρ with⟨_,_,z⟩|⟨n,j,r,h1,h2,_⟩
   ·rw[z n n1 n2]at n3;cases n3
   ·exact⟨(n,j,r),λ_=>⟨h1,h2⟩⟩
  ·exact⟨(0,0,0),λz=>absurd z c⟩
 obtain⟨T,hT⟩:=Classical.axiomOfChoice this;exact⟨T,λw hw=>(hT w hw).1,λw hw=>(hT w hw).2⟩
theorem R5(hl:E.length<=6)(ok:∀e∈E,Ok lad e.1)(o:Ok lad w)(ll:lad.length<=4)(lp:∀r∈lad,0<=r)(hρ:bd 4000 ρ)(O:Wt lad ρ E):
 ∃(b:Bool)(t:D),K81.gD [.list (((tkn E).map (·.2)).map syD),syD w.2,.tuple (lad.map .int),rD ρ]=some t/\cD [.list ((tkn E).map wD),wD w,.list (lad.map .int),rD ρ]=some t/\isNone t=b/\Wt lad ρ (E++[(w,b)]):=by
 rcases Wr (by omega) ok o ll lp hρ with⟨h1,h2,_⟩|⟨n,j,r,h1,h2,h3,h4,h5⟩
 ·refine⟨true,_,h1,h2,rfl,λe Y Z=>?_⟩;rcases cJ.mp Y with h|h
  ·obtain⟨n,n1,n2,n3⟩:=O e h Z;refine⟨n,n1,n2,Vs ?_ (λs hs=>?_) n3⟩
   ·rw[Le,bG];exact(List.sublist_append_left _ _).append (List.Sublist.refl _)
   ·rw[Le]at hs;rcases cJ.mp hs with h'|h'
    ·obtain⟨X,hw,rfl⟩:=cZ.mp h';rcases cJ.mp hw with z|z
     ·exact(ok _ (Lb z)).ch
     ·rw[cg.mp z];exact o.ch
    ·rw[cg.mp h'];exact(ok e h).ch
  ·rw[cg.mp h]at Z;cases Z
 ·refine⟨false,_,h1,h2,rfl,λe Y Z=>?_⟩;rw[R3];rcases cJ.mp Y with h|h
  ·exact O e h Z
  ·rw[cg.mp h];exact⟨n,h3,h4,h5⟩
end
section
variable{lad rs:List Int}{ρ:Rat}{E:EnL}{M:List D}{w:Wi}{b:Bool}
def qSW(i:Nat)(a:Option (D×DS)):Option Oc:=a.bind λp=>if i<p.2.length then some (.nx (p.2.set i (some (.d p.1))))else none
theorem Jv{i:Nat}{f:FW}{δ:DS}:uD i f δ=qSW i (f δ):=rfl
theorem Zm{d:D}{s0 s1 s2 s3 s4 s5 s6 s7 s8 s9 s10 Z Y s13 O:Option U}:qSW 13 (some (d,[s0,s1,s2,s3,s4,s5,s6,s7,s8,s9,s10,Z,Y,s13,O]))=some (.nx [s0,s1,s2,s3,s4,s5,s6,s7,s8,s9,s10,Z,Y,some (.d d),O]):=rfl
theorem Ea{a c:FS}{δ O:DS}(h:a δ=some (.nx O)):bJ a c δ=c O:=by
 show(a δ).bind _=_;rw[h];rfl
theorem Zn(p:Rat):∃b,gEq (rD p) (.tuple [.int 1,.int 1])=some (.bool b)/\(b=true->p=1):=by
 have l1:=La p;have l2:ly 2 (.tuple [.int 1,.int 1]):=Dv (iy pH (iy pH tV));unfold gEq;rw[ou (sS l1 (by decide)),ou (sS l2 (by decide)),if_pos (by rfl)];refine⟨_,rfl,λh=>?_⟩;have h:(decide (p.num=1)&&(decide ((p.den:Int)=1)&&true))=true:=by
  unfold rD at h;simpa[cK,eh]using h
 rw[aM,aM]at h;refine Rat.ext (of_decide_eq_true h.1) ?_;have:=of_decide_eq_true h.2.1;show p.den=1;omega
theorem VF{ns r1 r5:List Int}{ds:List Str}(y10 y11 Z Y O:Option U){i:Nat}(hi:i<6)(h1:1<=lad.length)(ll:lad.length<=4)(lp:∀r∈lad,0<=r)(hρ:bd 4000 ρ)(hd:ds.length=8)(dn:ds.Nodup)(dk:∀x∈ds,DQ x)
 (hE:E.length=i) (hM:M.length=i) (eE:E.map (·.1.1)=ds.take i) (ok:∀e∈E,Ok lad e.1) (wt:Wt lad ρ E) :
 ∃(E':EnL)(M':List D)(z10 z11 z12 z13 z14:Option U),(bJ (bD 10 (dCall eX (au (aj 0) (au (dOp dW (dC (.int 2)) (aj 9)) (au (dC (.int 8)) (aK)))))) (bJ (bD 11 (dOp gA (dOp gIx (aj 10) (dC (.int 1))) (dC (.int 3)))) (bJ (bD 12 (dTup (au (dOp gIx (aj 4) (aj 9)) (au (dOp dW (dC (.int 1)) (dOp gA (dOp gIx (aj 10) (dC (.int 0))) (dCall nD (au (aj 2) (aK))))) (au (aj 11) (au (dOp dW (dOp dW (aj 11) (dC (.int 1))) (dOp gA (dOp gIx (aj 10) (dC (.int 2))) (dC (.int 3)))) (au (dCall eN (au (dSl (aj 10) (f9 (dC (.int 3))) fZ) (aK))) (aK)))))))) (bJ (sIf (D3.lA (aY (dOp gEq (dOp gIx (aj 12) (dC (.int 4))) (dTup (au (dC (.int 1)) (au (dC (.int 1)) (aK)))))) (aY (dOp gEq (dOp gA (dOp gIx (aj 10) (dC (.int 5))) (dC (.int 2))) (dC (.int 0))))) (XI.uD 13 (XI.tQ d9 bA bh 6 (au (dOp gIx (aj 4) (aj 9)) (au (dOp gIx (aj 12) (dC (.int 1))) (au (aj 11) (au (dOp gIx (aj 12) (dC (.int 3))) (aK))))) [6])) (XI.uD 13 (XI.uT d9 bA bh 6 (au (dOp gIx (aj 4) (aj 9)) (au (dOp gIx (aj 12) (dC (.int 1))) (au (aj 11) (au (dOp gIx (aj 12) (dC (.int 3))) (au (dOp gIx (aj 12) (dC (.int 4))) (aK)))))) [6]))) (bJ (bD 14 (dUn Al (dCall cD (au (aj 7) (au (aj 12) (au (aj 2) (au (aj 3) (aK)))))))) (bJ (sIf (D3.tOr (D3.jO (aY (dUn (gIs "bool") (aj 13)))) (aY (dOp gNe (aj 13) (aj 14)))) (cF (dC (.bool false))) (fP)) (bJ (sIf (aY (aj 14)) (uO 7 (aj 12)) (uO 8 (aj 12))) (sIf (D3.jO (aY (dCall i_ (au (aj 6) (au (aj 7) (au (aj 8) (au (dSl (aj 4) fZ (f9 (dOp dW (aj 9) (dC (.int 1))))) (au (aj 2) (au (aj 3) (aK)))))))))) (cF (dC (.bool false))) (fP))))))))) [some (.d (.list (ns.map .int))),some (.d (.list (r1.map .int))),some (.d (.list (lad.map .int))),some (.d (rD ρ)),some (.d (.list (ds.map .str))),some (.d (.list (r5.map .int))),some (.d (bkD lad ρ rs E M)),some (.d (.list ((tkn E).map wD))),some (.d (.list ((wtg E).map wD))),some (.d (.int (i:Int))),y10,y11,Z,Y,O] =
  some (.nx [some (.d (.list (ns.map .int))),some (.d (.list (r1.map .int))),some (.d (.list (lad.map .int))),some (.d (rD ρ)),some (.d (.list (ds.map .str))),some (.d (.list (r5.map .int))),some (.d (bkD lad ρ rs E' M')),some (.d (.list ((tkn E').map wD))),some (.d (.list ((wtg E').map wD))),some (.d (.int (i:Int))),z10,z11,z12,z13,z14]) /\
  E'.length=i+1/\M'.length=i+1/\E'.map (·.1.1)=ds.take (i+1)/\(∀e∈E',Ok lad e.1)/\Wt lad ρ E':=by
 obtain⟨xs,v,_,er⟩:=zZ ns (a:=2+(i:Int)) (m:=8) (by omega) (by decide) (by decide);have v:xs.length=8:=v;have a0:=z9 (xs:=xs) (i:=0) (by omega) (by omega);have a1:=z9 (xs:=xs) (i:=1) (by omega) (by omega);have a2:=z9 (xs:=xs) (i:=2) (by omega) (by omega);have a5:=z9 (xs:=xs) (i:=5) (by omega) (by omega);generalize xs.getD (0:Int).toNat 0=W at a0;generalize xs.getD (1:Int).toNat 0=x1 at a1;generalize xs.getD (2:Int).toNat 0=x2 at a2;generalize xs.getD (5:Int).toNat 0=x5 at a5;obtain⟨p,hp,ep⟩:=Ju (xs:=xs.drop 3) (by rw[mH];omega);rw[pC]at ep;have cd:=KR (l:=xs.map bS) (k:=3) (by decide);rw[show(3:Int).toNat=3 from rfl]at cd;have m0:=Ao (i:=W) (j:=(lad.length:Int)) (by omega);have m1:=Ao (i:=x1) (j:=3) (by decide);have m2:=Ao (i:=x2) (j:=3) (by decide);have il:i<ds.length:=by omega
 have an:pAt (ds.map de) (i:Int)=some (.str ds[i]):=by
  rw[mW,aR,aO il];rfl
 let w:Wi:=(ds[i],(x1%3,x1%3+1+x2%3,1+W%(lad.length:Int),p))
 have o:Ok lad w:=⟨dk _ (jZ il),show 1<=1+W%(lad.length:Int)by omega,show 1+W%(lad.length:Int)<=_ by omega,show 0<=x1%3 by omega,show x1%3<x1%3+1+x2%3 by omega,show x1%3+1+x2%3<=400 by omega,hp⟩;have hx:w.1∉E.map (·.1.1):=by
  rw[eE];intro z;obtain⟨k,hk,e⟩:=oX.mp z;have:=(List.getElem_inj dn).mp e;omega
 obtain⟨b,t,C,V,hb,Q⟩:=R5 (by omega) ok o ll lp hρ wt;have R:=Ci (rs:=rs) (M:=M) (c:=rD p) o hx (by omega) (by omega) (.inr rfl) C hb;have P:p=1->_:=λh=>Ci (rs:=rs) (M:=M) (c:=.none) o hx (by omega) (by omega) (.inl ⟨rfl,h⟩) C hb
 obtain⟨M',N⟩:∃M',M'=M++[di [.int 0,.str (wdS b),.str w.1]]:=⟨_,rfl⟩;rw[<-N]at R P;have R:d9 [bkD lad ρ rs E M,.str ds[i],.int (1+W%(lad.length:Int)),.int (x1%3),.int (x1%3+1+x2%3),rD p]=some (.tuple [.bool b,bkD lad ρ rs (E++[(w,b)]) M']):=R;have P:p=1->d9 (bkD lad ρ rs E M::([.str ds[i],.int (1+W%(lad.length:Int)),.int (x1%3),.int (x1%3+1+x2%3)]++[.none]))=some (.tuple [.bool b,bkD lad ρ rs (E++[(w,b)]) M']):=P;have ew:di [.str ds[i],.int (1+W%(lad.length:Int)),.int (x1%3),.int (x1%3+1+x2%3),rD p]=wD w:=rfl;have i1:gIx (wD w) (.int 1)=some (.int (1+W%(lad.length:Int))):=rfl;have F:gIx (wD w) (.int 3)=some (.int (x1%3+1+x2%3)):=rfl;have G:gIx (wD w) (.int 4)=some (rD p):=rfl;have fw:flat (wD w)=true:=rfl;have en:E.map (·.1.1)++[w.1]=ds.take (i+1):=by
  rw[eE,iK,aO il];rfl
 clear_value w
 obtain⟨b1,y,A⟩:=Zn p;have I:(bD 10 (dCall eX (au (aj 0) (au (dOp dW (dC (.int 2)) (aj 9)) (au (dC (.int 8)) (aK)))))) [some (.d (.list (ns.map .int))),some (.d (.list (r1.map .int))),some (.d (.list (lad.map .int))),some (.d (rD ρ)),some (.d (.list (ds.map .str))),some (.d (.list (r5.map .int))),some (.d (bkD lad ρ rs E M)),some (.d (.list ((tkn E).map wD))),some (.d (.list ((wtg E).map wD))),some (.d (.int (i:Int))),y10,y11,Z,Y,O]=some (.nx [some (.d (.list (ns.map .int))),some (.d (.list (r1.map .int))),some (.d (.list (lad.map .int))),some (.d (rD ρ)),some (.d (.list (ds.map .str))),some (.d (.list (r5.map .int))),some (.d (bkD lad ρ rs E M)),some (.d (.list ((tkn E).map wD))),some (.d (.list ((wtg E).map wD))),some (.d (.int (i:Int))),some (.d (.list (xs.map .int))),y11,Z,Y,O]):=by
  simp![er]
 have J:(bD 11 (dOp gA (dOp gIx (aj 10) (dC (.int 1))) (dC (.int 3)))) [some (.d (.list (ns.map .int))),some (.d (.list (r1.map .int))),some (.d (.list (lad.map .int))),some (.d (rD ρ)),some (.d (.list (ds.map .str))),some (.d (.list (r5.map .int))),some (.d (bkD lad ρ rs E M)),some (.d (.list ((tkn E).map wD))),some (.d (.list ((wtg E).map wD))),some (.d (.int (i:Int))),some (.d (.list (xs.map .int))),y11,Z,Y,O]=some (.nx [some (.d (.list (ns.map .int))),some (.d (.list (r1.map .int))),some (.d (.list (lad.map .int))),some (.d (rD ρ)),some (.d (.list (ds.map .str))),some (.d (.list (r5.map .int))),some (.d (bkD lad ρ rs E M)),some (.d (.list ((tkn E).map wD))),some (.d (.list ((wtg E).map wD))),some (.d (.int (i:Int))),some (.d (.list (xs.map .int))),some (.d (.int (x1%3))),Z,Y,O]):=by
  simp![a1,lX (show(0:Int)<3 by decide)]
 have K:(bD 12 (dTup (au (dOp gIx (aj 4) (aj 9)) (au (dOp dW (dC (.int 1)) (dOp gA (dOp gIx (aj 10) (dC (.int 0))) (dCall nD (au (aj 2) (aK))))) (au (aj 11) (au (dOp dW (dOp dW (aj 11) (dC (.int 1))) (dOp gA (dOp gIx (aj 10) (dC (.int 2))) (dC (.int 3)))) (au (dCall eN (au (dSl (aj 10) (f9 (dC (.int 3))) fZ) (aK))) (aK)))))))) [some (.d (.list (ns.map .int))),some (.d (.list (r1.map .int))),some (.d (.list (lad.map .int))),some (.d (rD ρ)),some (.d (.list (ds.map .str))),some (.d (.list (r5.map .int))),some (.d (bkD lad ρ rs E M)),some (.d (.list ((tkn E).map wD))),some (.d (.list ((wtg E).map wD))),some (.d (.int (i:Int))),some (.d (.list (xs.map .int))),some (.d (.int (x1%3))),Z,Y,O]=some (.nx [some (.d (.list (ns.map .int))),some (.d (.list (r1.map .int))),some (.d (.list (lad.map .int))),some (.d (rD ρ)),some (.d (.list (ds.map .str))),some (.d (.list (r5.map .int))),some (.d (bkD lad ρ rs E M)),some (.d (.list ((tkn E).map wD))),some (.d (.list ((wtg E).map wD))),some (.d (.int (i:Int))),some (.d (.list (xs.map .int))),some (.d (.int (x1%3))),some (.d (wD w)),Y,O]):=by
  have l0:(0:Int)<(lad.length:Int):=by omega
  simp![an,a0,a2,lMp,lX l0,lX (show(0:Int)<3 by decide),cd,ep,sz (show 5<=1000000 by decide),ew]
 have L:(sIf (D3.lA (aY (dOp gEq (dOp gIx (aj 12) (dC (.int 4))) (dTup (au (dC (.int 1)) (au (dC (.int 1)) (aK)))))) (aY (dOp gEq (dOp gA (dOp gIx (aj 10) (dC (.int 5))) (dC (.int 2))) (dC (.int 0))))) (XI.uD 13 (XI.tQ d9 bA bh 6 (au (dOp gIx (aj 4) (aj 9)) (au (dOp gIx (aj 12) (dC (.int 1))) (au (aj 11) (au (dOp gIx (aj 12) (dC (.int 3))) (aK))))) [6])) (XI.uD 13 (XI.uT d9 bA bh 6 (au (dOp gIx (aj 4) (aj 9)) (au (dOp gIx (aj 12) (dC (.int 1))) (au (aj 11) (au (dOp gIx (aj 12) (dC (.int 3))) (au (dOp gIx (aj 12) (dC (.int 4))) (aK)))))) [6]))) [some (.d (.list (ns.map .int))),some (.d (.list (r1.map .int))),some (.d (.list (lad.map .int))),some (.d (rD ρ)),some (.d (.list (ds.map .str))),some (.d (.list (r5.map .int))),some (.d (bkD lad ρ rs E M)),some (.d (.list ((tkn E).map wD))),some (.d (.list ((wtg E).map wD))),some (.d (.int (i:Int))),some (.d (.list (xs.map .int))),some (.d (.int (x1%3))),some (.d (wD w)),Y,O]=some (.nx [some (.d (.list (ns.map .int))),some (.d (.list (r1.map .int))),some (.d (.list (lad.map .int))),some (.d (rD ρ)),some (.d (.list (ds.map .str))),some (.d (.list (r5.map .int))),some (.d (bkD lad ρ rs (E++[(w,b)]) M')),some (.d (.list ((tkn E).map wD))),some (.d (.list ((wtg E).map wD))),some (.d (.int (i:Int))),some (.d (.list (xs.map .int))),some (.d (.int (x1%3))),some (.d (wD w)),some (.d (.bool b)),O]):=by
  cases b1 with
  |false=>
   simp![G,i1,F,a5,an,y,lX (show(0:Int)<2 by decide),Jv,yM,Vy R rfl,g8,eU,Zm,sz (show 2<=1000000 by decide)]
  |true=>
   by_cases c:x5%2=0
   ·simp![G,i1,F,a5,an,y,lX (show(0:Int)<2 by decide),dTr c,Jv,RK,ah1 (P (A rfl)) rfl,g8,eU,Zm,sz (show 2<=1000000 by decide)]
   ·simp![G,i1,F,a5,an,y,lX (show(0:Int)<2 by decide),dFa c,Jv,yM,Vy R rfl,g8,eU,Zm,sz (show 2<=1000000 by decide)]
 have ok':∀e∈E++[(w,b)],Ok lad e.1:=λe B=>by
  rcases cJ.mp B with h|h
  ·exact ok e h
  ·rw[cg.mp h];exact o
 have lE:(E++[(w,b)]).length=i+1:=by simp[hE]
 have S:(E++[(w,b)]).map (·.1.1)=ds.take (i+1):=by rw[bG,<-en];rfl
 refine⟨E++[(w,b)],M',some (.d (.list (xs.map .int))),some (.d (.int (x1%3))),some (.d (wD w)),some (.d (.bool b)),some (.d (.bool b)),?_,lE,by rw[N];simp[hM],S,ok',Q⟩;obtain⟨T,s,u⟩:=finds (by omega) ok' ll lp hρ Q;have H:=G4 (rs:=rs) (M:=M') (by omega) (by rw[S];exact dn.sublist (vf _ _)) (λe B=>(ok' e B).nm) s u;have ct:cuD (ds.map de) none (some ((i:Int)+1))=(E++[(w,b)]).map λe=>de e.1.1:=by
  rw[ag3 (by omega),<-List.map_take,show((i:Int)+1).toNat=i+1 by omega,<-S,fK];rfl
 have f:gIs "bool" (.bool b)=some (.bool true):=rfl;have q:gNe (.bool b) (.bool b)=some (.bool false):=by cases b<;>rfl
 have g:((tkn E).map wD).length<1000000:=by rw[aG];have:=Ld (E:=E);omega
 have n:((wtg E).map wD).length<1000000:=by
  rw[aG];have:(wtg E).length<=E.length:=by unfold wtg;rw[aG];exact dG _ _
  omega
 rw[Ea I,Ea J,Ea K,Ea L];clear I J K L R P s u C
 cases b with
 |true=>
  rw[Le,Wq,bG,bB,iI]at H;rw[Le,Wq,bG,bB,iI];simp![V,hb,f,q,ct,H,g,n,fw,iY,g8,eU]
 |false=>
  rw[R3,Wo,bG,bB,iI]at H;rw[R3,Wo,bG,bB,iI];simp![V,hb,f,q,ct,H,g,n,fw,iY,g8,eU]
end
theorem VG(x:Int):∃ρ:Rat,pAt [di [.int 0,.int 1],.tuple [.int 1,.int 1],.tuple [.int 1,.int 10],.tuple [.int 1,.int 20],.tuple [.int 3,.int 4],.tuple [.int 1,.int 1000000000],.tuple [.int 1,.int 2],.tuple [.int 99,.int 100]] (x%8)=some (rD ρ)/\0<=ρ.num/\ρ.num<=ρ.den/\(ρ.den:Int)<=1000000000:=by
 have m:=Ao (i:=x) (j:=8) (by decide);have:x%8=0\/x%8=1\/x%8=2\/x%8=3\/x%8=4\/x%8=5\/x%8=6\/x%8=7:=by omega
 rcases this with e|e|e|e|e|e|e|e<;>rw[e]
 ·exact⟨q 0 1,rfl,by decide,by decide,by decide⟩
 ·exact⟨q 1 1,rfl,by decide,by decide,by decide⟩
 ·exact⟨q 1 10,rfl,by decide,by decide,by decide⟩
 ·exact⟨q 1 20,rfl,by decide,by decide,by decide⟩
 ·exact⟨q 3 4,rfl,by decide,by decide,by decide⟩
 ·exact⟨q 1 1000000000,rfl,by decide,by decide,by decide⟩
 ·exact⟨q 1 2,rfl,by decide,by decide,by decide⟩
 ·exact⟨q 99 100,rfl,by decide,by decide,by decide⟩
theorem R6(ns:List Int)(h:ns.length<=63):Rp [.list (ns.map .int)]=some (.bool true):=by
 obtain⟨xs,w,_,er⟩:=zZ ns (a:=0) (m:=8) (by decide) (by decide) (by decide);have w:xs.length=8:=w;have a0:=z9 (xs:=xs) (i:=0) (by omega) (by omega);have a1:=z9 (xs:=xs) (i:=1) (by omega) (by omega);generalize xs.getD (0:Int).toNat 0=K at a0;generalize xs.getD (1:Int).toNat 0=x1 at a1;have m0:=Ao (i:=K) (j:=3) (by decide);obtain⟨m,em,m1,m3⟩:∃m:Nat,1+K%3=(m:Int)/\1<=m/\m<=3:=⟨(1+K%3).toNat,by omega,by omega,by omega⟩;obtain⟨ρ,A,u,r1,v⟩:=VG x1;obtain⟨ds,ed,dl,dn,dk⟩:=RZ ns;have d0:=Vm ρ;have S:∀z:Int,0<=z->z<=1000000000->sm 4000 z:=λz h0 h1=>j9 (k:=30) (show z.natAbs<2^30 by omega) (by decide)
 have hρ:bd 4000 ρ:=⟨S _ u (by omega),S _ (by omega) v⟩
 let lad:List Int:=(cB m).map λk=>xs.getD (2+k) 0%4
 have ll:lad.length=m:=by simp[lad]
 have B:∀x∈lad,0<=x/\x<=3:=λx hx=>by
  obtain⟨k,_,rfl⟩:=cZ.mp hx;have:=Ao (i:=xs.getD (2+k) 0) (j:=4) (by decide);omega
 have ls:∀l:List Int,(∀x∈l,0<=x/\x<=3)->l.sum<=3*(l.length:Int):=λl=>by
  induction l with
  |nil=>intro _;simp
  |cons x l ih=>
   intro h;have h1:=h x aN;have h2:=ih λy hy=>h y (aL _ hy)
   rw[um,bC];omega
 have lss:=ls lad B;have rm:xY (some [.int (m:Int)])=some (d_ 0 (m:Int)):=Jc (by omega) (by omega);have C:(d_ 0 (m:Int)).length<=100000:=by rw[tU];omega
 have el:∀s0 s2 s3 s4 c f o p q F G H I J:Option U,jQ (gNl 0) (D3.mD) (dOp gA (dOp gIx (aj 1) (dOp dW (dC (.int 2)) (aj 0))) (dC (.int 4))) (oZ 1 [1] [s0,some (.d (.list (xs.map .int))),s2,s3,s4,c,f,o,p,q,F,G,H,I,J]) (d_ 0 (m:Int))=some (lad.map .int):=λ_ _ _ _ _ _ _ _ _ _ _ _ _ _=>by
  rw[KQ,iH,fK];refine M7 (λk:Nat=>bS (k:Int)) (λk:Nat=>bS (xs.getD (2+k) 0%4)) (cB m) λk hk=>?_
  have kl:=eF.mp hk;have t:=z9 (xs:=xs) (i:=2+(k:Int)) (by omega) (by omega);rw[show(2+(k:Int)).toNat=2+k by omega]at t;refine⟨[some (.d (.int (k:Int))),some (.d (.list (xs.map .int)))],rfl,rfl,?_⟩;simp![t,lX (show(0:Int)<4 by decide)]
 obtain⟨rs,nb⟩:=RW (lad:=lad) (ρ:=ρ) (by omega) (by omega) (λx hx=>by have:=B x hx;omega) (by omega) u r1 v
 clear_value lad
 obtain⟨n,en,n6⟩:∃n:Nat,(if(if(ns.length:Int)-2<6 then(ns.length:Int)-2 else 6)>4 then(if(ns.length:Int)-2<6 then(ns.length:Int)-2 else 6)else 4)=(n:Int)/\n<=6:=by
  refine⟨(if(if(ns.length:Int)-2<6 then(ns.length:Int)-2 else 6)>4 then(if(ns.length:Int)-2<6 then(ns.length:Int)-2 else 6)else 4).toNat,?_,?_⟩<;>split<;>split<;>omega
 have rn:xY (some [.int (n:Int)])=some (d_ 0 (n:Int)):=Jc (by omega) (by omega);obtain⟨s,e,E,M,L,V,W,X,Y,Z,rfl,_⟩:=jm (g:=(gNl 9)) (b:=(bJ (bD 10 (dCall eX (au (aj 0) (au (dOp dW (dC (.int 2)) (aj 9)) (au (dC (.int 8)) (aK)))))) (bJ (bD 11 (dOp gA (dOp gIx (aj 10) (dC (.int 1))) (dC (.int 3)))) (bJ (bD 12 (dTup (au (dOp gIx (aj 4) (aj 9)) (au (dOp dW (dC (.int 1)) (dOp gA (dOp gIx (aj 10) (dC (.int 0))) (dCall nD (au (aj 2) (aK))))) (au (aj 11) (au (dOp dW (dOp dW (aj 11) (dC (.int 1))) (dOp gA (dOp gIx (aj 10) (dC (.int 2))) (dC (.int 3)))) (au (dCall eN (au (dSl (aj 10) (f9 (dC (.int 3))) fZ) (aK))) (aK)))))))) (bJ (sIf (D3.lA (aY (dOp gEq (dOp gIx (aj 12) (dC (.int 4))) (dTup (au (dC (.int 1)) (au (dC (.int 1)) (aK)))))) (aY (dOp gEq (dOp gA (dOp gIx (aj 10) (dC (.int 5))) (dC (.int 2))) (dC (.int 0))))) (XI.uD 13 (XI.tQ d9 bA bh 6 (au (dOp gIx (aj 4) (aj 9)) (au (dOp gIx (aj 12) (dC (.int 1))) (au (aj 11) (au (dOp gIx (aj 12) (dC (.int 3))) (aK))))) [6])) (XI.uD 13 (XI.uT d9 bA bh 6 (au (dOp gIx (aj 4) (aj 9)) (au (dOp gIx (aj 12) (dC (.int 1))) (au (aj 11) (au (dOp gIx (aj 12) (dC (.int 3))) (au (dOp gIx (aj 12) (dC (.int 4))) (aK)))))) [6]))) (bJ (bD 14 (dUn Al (dCall cD (au (aj 7) (au (aj 12) (au (aj 2) (au (aj 3) (aK)))))))) (bJ (sIf (D3.tOr (D3.jO (aY (dUn (gIs "bool") (aj 13)))) (aY (dOp gNe (aj 13) (aj 14)))) (cF (dC (.bool false))) (fP)) (bJ (sIf (aY (aj 14)) (uO 7 (aj 12)) (uO 8 (aj 12))) (sIf (D3.jO (aY (dCall i_ (au (aj 6) (au (aj 7) (au (aj 8) (au (dSl (aj 4) fZ (f9 (dOp dW (aj 9) (dC (.int 1))))) (au (aj 2) (au (aj 3) (aK)))))))))) (cF (dC (.bool false))) (fP)))))))))) (λi δ=>∃(E:EnL)(M:List D)(L V W X Y Z:Option U),δ=[some (.d (.list (ns.map .int))),some (.d (.list (xs.map .int))),some (.d (.list (lad.map .int))),some (.d (rD ρ)),some (.d (.list (ds.map .str))),some (.d (.list ((lad++[12]).map .int))),some (.d (bkD lad ρ rs E M)),some (.d (.list ((tkn E).map wD))),some (.d (.list ((wtg E).map wD))),L,V,W,X,Y,Z] /\
  E.length=i/\M.length=i/\E.map (·.1.1)=ds.take i/\(∀e∈E,Ok lad e.1)/\Wt lad ρ E)
  (d_ 0 (n:Int)) [some (.d (.list (ns.map .int))),some (.d (.list (xs.map .int))),some (.d (.list (lad.map .int))),some (.d (rD ρ)),some (.d (.list (ds.map .str))),some (.d (.list ((lad++[12]).map .int))),some (.d (bkD lad ρ rs [] [])),some (.d (.list [])),some (.d (.list [])),none,none,none,none,none,none]
  ⟨[],[],none,none,none,none,none,none,rfl,rfl,rfl,rfl,by simp,λe he=>(by cases he)⟩ (by
  rintro i d δ hd ⟨E,M,L,V,W,X,Y,Z,rfl,hE,hM,eE,ok,r⟩;obtain⟨hi,rfl⟩:=Dy hd;obtain⟨E',M',N,O,P,Q,R,e,h1,h2,h3,h4,h5⟩:=VF (rs:=rs) (ns:=ns) (r1:=xs) (r5:=lad++[12]) V W X Y Z (i:=i) (by omega) (by omega) (by omega) (λx hx=>(B x hx).1) hρ dl dn dk hE hM eE ok r;exact⟨_,_,rfl,.inl e,E',M',some (.d (.int (i:Int))),N,O,P,Q,R,rfl,h1,h2,h3,h4,h5⟩)
 have nb2:∀s0 s1 s2 s4 s6 s7 s8 s9 t0 t1 t2 t3 t4:Option U,xW bA bh lu (au (aj 5) (au (aj 3) aK)) [s0,s1,s2,some (.d (rD ρ)),s4,some (.d (.list (lad.map .int))),s6,s7,s8,s9,t0,t1,t2,t3,t4]=some (bkD lad ρ rs [] []):=λ_ _ _ _ _ _ _ _ _ _ _ _ _=>nb rfl
 have la:lad.length<1000000:=by omega
 rw[bG,bB,iI]at e;unfold Rp;simp![er,a0,a1,lX (show(0:Int)<3 by decide),lX (show(0:Int)<8 by decide),em,rm,C,el,sz (show 2<=1000000 by decide),sz (show 8<=1000000 by decide),sz (show 0<=1000000 by decide),ao9,A,ed,nb2,la,Wd,Wf,lMp,en,rn,e]
end K81
namespace K81
open L2 My D3 XC XS XK
noncomputable def top(i:Nat):cm:=PySem.Challenge.pw_nightbook_k81_wishes_taken.main.body.getD i (.Pass ⟨0,0,0,0⟩)
def iD(i j:Nat):cm:=match top i with
 | .ClassDef _ _ _ b _ _ _ _ _ _ _=>b.getD j (.Pass ⟨0,0,0,0⟩)
 |s=>s
section
seal PE PT PW PA PS PSs PG PGs PI PO PTs
variable{P:bP}{w:b8}{K:PySem.W.Frag}{mg:Str->Option Value}{base:cc}{n:Nat}{fld:Addr->Str}
structure HC_Book(K:PySem.W.Frag):Prop where
 cl:Cls K bA
 n_ladder:fL K bA "ladder"
 n_risk:fL K bA "risk"
 n_steps:fL K bA "steps"
 n_inside:fL K bA "inside"
 n_night:fL K bA "night"
 n_entries:fL K bA "entries"
 n_happened:fL K bA "happened"
structure HC_Entry(K:PySem.W.Frag):Prop where
 cl:Cls K cP
 n_name:fL K cP "name"
 n_kind:fL K cP "kind"
 n_first:fL K cP "first"
 n_behind:fL K cP "behind"
 n_chance:fL K cP "chance"
 n_word:fL K cP "word"
structure HC_House(K:PySem.W.Frag):Prop where
 cl:Cls K gJ
 n_rooms:fL K gJ "rooms"
 n_places:fL K gJ "places"
 n_wished:fL K gJ "wished"
 n_moves_done:fL K gJ "moves_done"
theorem G5(D:Dg K mg "is_whole" (top 15) ["thing"])(B:Bl mg):Has P w K mg base (n+1) "is_whole" ["thing"] (spD K dX):=by
 have sc:FnScope ["thing"] ["thing"] (aP (top 15)):=fsc;exact fH (fl:=[.A]) D sc (by decide) (by decide) λf cdv A outer s H E Z=>aU (bZ (bY (mO (aW (uP (T := "int") (by decide) (vP 0) (by rfl) B.isinstance_ (by rfl) B.int_ PyProof.Rows.boot_int)) (pG (Xm (aW (uP (T := "bool") (by decide) (vP 0) (by rfl) B.isinstance_ (by rfl) B.bool_ ez)))))))
theorem u_(D:Dg K mg "is_whole_within" (top 16) ["thing", "least", "most"])(B:Bl mg)(O:Has P w K mg base n "is_whole" ["thing"] (spD K dX)):Has P w K mg base (n+1) "is_whole_within" ["thing", "least", "most"] (spD K dZ):=by
 have sc:FnScope ["thing", "least", "most"] ["thing", "least", "most"] (aP (top 16)):=fsc;exact fH (fl:=[.A,.A,.A]) D sc (by decide) (by decide) λf cdv A outer s H E Z=>aU (bZ (bY (mO (fQ (bR O Z (dq (vP 0) dz))) (pG (vN o8 o8 vK vK (vP 1) (vP 0) (vP 2))))))
theorem Eb(D:Dg K mg "all_whole" (top 17) ["things"])(B:Bl mg)(O:Has P w K mg base n "is_whole" ["thing"] (spD K dX)):Has P w K mg base (n+1) "all_whole" ["things"] (spD K fj):=by
 have sc:FnScope ["things"] ["things"] (aP (top 17)):=fsc;exact fH (fl:=[.A]) D sc (by decide) (by decide) λf cdv A outer s H E Z=>aU (bZ (bY (fV (Bv rfl) V3 (by rfl) B.all_ (show bootBuiltins "all"=some (.builtin "all")by decide +kernel) (dq (aW (qJ (L:=[]) (fl':=[.A]) rfl ["thing"] [] [] (XD (vB 0)) (λ_ _ _ _ _=>gN' (i:=0) (show(["thing"]:List Str).Nodup by decide +kernel)) (λ_ _ _ _ _=>nT) (λ_ _ _ _ _=>bR O Z (dq (vP 0) dz)))) dz))))
theorem z_(D:Dg K mg "is_tuple_of" (top 18) ["thing", "many"])(B:Bl mg)(O:Has P w K mg base n "all_whole" ["things"] (spD K fj)):Has P w K mg base (n+1) "is_tuple_of" ["thing", "many"] (spD K jA):=by
 have sc:FnScope ["thing", "many"] ["thing", "many"] (aP (top 18)):=fsc;exact fH (fl:=[.A,.A]) D sc (by decide) (by decide) λf cdv A outer s H E Z=>aU (bZ (uw (mO (aW (uP (T := "tuple") (by decide) (vP 0) (by rfl) B.isinstance_ (by rfl) B.tuple_ PyProof.Rows.boot_tuple)) (mO (aW (oK (lJ Z.units) vL (aW (fV eO rE (by rfl) B.len_ PySem.boot_len (dq (vP 0) dz))) (vP 1) (dh _))) (pG (bR O Z (dq (vP 0) dz)))))))
theorem Jw(D:Dg K mg "is_pair" (top 19) ["thing"])(B:Bl mg)(O:Has P w K mg base n "is_tuple_of" ["thing", "many"] (spD K jA)):Has P w K mg base (n+1) "is_pair" ["thing"] (spD K je):=by
 have sc:FnScope ["thing"] ["thing"] (aP (top 19)):=fsc;exact fH (fl:=[.A]) D sc (by decide) (by decide) λf cdv A outer s H E Z=>aU (bZ (uw (bR O Z (dq (vP 0) (dq iP dz)))))
theorem xH(D:Dg K mg "is_whole_list" (top 20) ["thing"])(B:Bl mg)(O:Has P w K mg base n "all_whole" ["things"] (spD K fj)):Has P w K mg base (n+1) "is_whole_list" ["thing"] (spD K gH):=by
 have sc:FnScope ["thing"] ["thing"] (aP (top 20)):=fsc;exact fH (fl:=[.A]) D sc (by decide) (by decide) λf cdv A outer s H E Z=>aU (bZ (uw (mO (aW (uP (T := "list") (by decide) (vP 0) (by rfl) B.isinstance_ (by rfl) B.list_ ey)) (pG (bR O Z (dq (vP 0) dz))))))
theorem uf(D:Dg K mg "greatest_divisor" (top 22) ["one", "other"])(B:Bl mg):Has P w K mg base (n+1) "greatest_divisor" ["one", "other"] (spD K cO):=by
 have sc:FnScope ["one", "other", "rest"] ["one", "other"] (aP (top 22)):=fsc;exact fH (fl:=[.A,.A,.A]) D sc (by decide) (by decide) λf cdv A outer s H E Z=>aV (Fz b9 (fB (wM Z.units) Ma (vP 1) iP (dh _)) (aV (sA (i:=2) sc.nd (dR (bU fu jK (vP 0) (vP 1))))
  (aV (sA (i:=0) sc.nd (vA 1))
  (aU (sA (i:=1) sc.nd (vA 2))))))
  (aU (bZ (bY (dH (vP 0)))))
theorem Ny(D:Dg K mg "lowest" (top 23) ["top", "bottom"])(B:Bl mg)(O:Has P w K mg base n "greatest_divisor" ["one", "other"] (spD K cO)):Has P w K mg base (n+1) "lowest" ["top", "bottom"] (spD K oU):=by
 have sc:FnScope ["top", "bottom", "divisor"] ["top", "bottom"] (aP (top 23)):=fsc;exact fH (fl:=[.A,.A,.A]) D sc (by decide) (by decide) λf cdv A outer s H E Z=>aV (sA (i:=2) sc.nd (mF (bR O Z (dq (aW (fV yS Pq (by rfl) B.abs_ dE (dq (vP 0) dz))) (dq (aW (fV yS Pq (by rfl) B.abs_ dE (dq (vP 1) dz))) dz)))))
  (aV (jc (fB uq b_lt (vP 1) iP (dh _)) (aU (sA (i:=2) sc.nd (dR (Xq (vP 2))))) (dY))
  (aU (bZ (fD rfl (dq (bY (bU qz zE (vP 0) (vP 2))) (dq (bY (bU qz zE (vP 1) (vP 2))) dz))))))
theorem R7(D:Dg K mg "ratio" (top 24) ["top", "bottom"])(B:Bl mg)(O:Has P w K mg base n "is_whole" ["thing"] (spD K dX))(Y:Has P w K mg base n "lowest" ["top", "bottom"] (spD K oU)):Has P w K mg base (n+1) "ratio" ["top", "bottom"] (spD K qM):=by
 have sc:FnScope ["top", "bottom"] ["top", "bottom"] (aP (top 24)):=fsc;exact fH (fl:=[.A,.A]) D sc (by decide) (by decide) λf cdv A outer s H E Z=>aV (jc (yj (ux (j_ (jR (fQ (bR O Z (dq (vP 0) dz))))) (sE (j_ (jR (fQ (bR O Z (dq (vP 1) dz)))))))) (aU (lO)) (dY))
  (aV (jc (fB (lJ Z.units) vL (vP 1) iP (dh _)) (aU (lO)) (dY))
  (aU (bZ (uw (bR Y Z (dq (vP 0) (dq (vP 1) dz)))))))
theorem G6(D:Dg K mg "is_ratio" (top 25) ["thing"])(B:Bl mg)(Y:Has P w K mg base n "is_pair" ["thing"] (spD K je))(O:Has P w K mg base n "greatest_divisor" ["one", "other"] (spD K cO)):Has P w K mg base (n+1) "is_ratio" ["thing"] (spD K kZ):=by
 have sc:FnScope ["thing"] ["thing"] (aP (top 25)):=fsc;exact fH (fl:=[.A]) D sc (by decide) (by decide) λf cdv A outer s H E Z=>aU (bZ (bY (mO (fQ (bR Y Z (dq (vP 0) dz))) (mO (aW (oK Bg L_ (cG (dx (vB 0) iP)) iP (dh _))) (pG (oK (lJ Z.units) vL (fQ (bR O Z (dq (aW (fV yS Pq (by rfl) B.abs_ dE (dq (cG (dx (vB 0) iP)) dz))) (dq (cG (dx (vB 0) iP)) dz)))) iP (dh _)))))))
theorem Ec(D:Dg K mg "is_chance" (top 26) ["thing"])(B:Bl mg)(O:Has P w K mg base n "is_ratio" ["thing"] (spD K kZ)):Has P w K mg base (n+1) "is_chance" ["thing"] (spD K lg):=by
 have sc:FnScope ["thing"] ["thing"] (aP (top 26)):=fsc;exact fH (fl:=[.A]) D sc (by decide) (by decide) λf cdv A outer s H E Z=>aU (bZ (bY (mO (fQ (bR O Z (dq (vP 0) dz))) (pG (vN o8 o8 vK vK iP (cG (dx (vB 0) iP)) (cG (dx (vB 0) iP)))))))
theorem R8(D:Dg K mg "under" (top 27) ["one", "other"])(B:Bl mg):Has P w K mg base (n+1) "under" ["one", "other"] (spD K jM):=by
 have sc:FnScope ["one", "other"] ["one", "other"] (aP (top 27)):=fsc;exact fH (fl:=[.A,.A]) D sc (by decide) (by decide) λf cdv A outer s H E Z=>aU (bZ (bY (oK uq b_lt (aW (bU iR m7 (cG (dx (vB 0) iP)) (cG (dx (vB 1) iP)))) (aW (bU iR m7 (cG (dx (vB 1) iP)) (cG (dx (vB 0) iP)))) (dh _))))
theorem Ar(D:Dg K mg "is_stretch" (top 30) ["thing"])(B:Bl mg)(O:Has P w K mg base n "is_pair" ["thing"] (spD K je))(Y:∃t,mg "NIGHTS"=some (.int 400 t)):Has P w K mg base (n+1) "is_stretch" ["thing"] (spD K j7):=by
 have sc:FnScope ["thing"] ["thing"] (aP (top 30)):=fsc;exact fH (fl:=[.A]) D sc (by decide) (by decide) λf cdv A outer s H E Z=>aU (bZ (bY (mO (fQ (bR O Z (dq (vP 0) dz))) (pG (Mg o8 uq o8 vK b_lt vK iP (cG (dx (vB 0) iP)) (cG (dx (vB 0) iP)) (aW (qy Y)))))))
theorem Ed(D:Dg K mg "nights_of" (top 31) ["stay"])(B:Bl mg):Has P w K mg base (n+1) "nights_of" ["stay"] (spD K iU):=by
 have sc:FnScope ["stay"] ["stay"] (aP (top 31)):=fsc;exact fH (fl:=[.A]) D sc (by decide) (by decide) λf cdv A outer s H E Z=>aU (bZ (fD rfl (dq (bY (dH (cG (dx (vB 0) iP)))) (dq (bY (dH (cG (dx (vB 0) iP)))) dz))))
theorem R9(D:Dg K mg "holds" (top 32) ["stretch", "night"])(B:Bl mg):Has P w K mg base (n+1) "holds" ["stretch", "night"] (spD K nY):=by
 have sc:FnScope ["stretch", "night"] ["stretch", "night"] (aP (top 32)):=fsc;exact fH (fl:=[.A,.A]) D sc (by decide) (by decide) λf cdv A outer s H E Z=>aU (bZ (bY (vN o8 uq vK b_lt (cG (dx (vB 0) iP)) (vP 1) (cG (dx (vB 0) iP)))))
theorem G7(D:Dg K mg "with_row" (top 34) ["weights", "many", "chance"])(B:Bl mg):Has P w K mg base (n+1) "with_row" ["weights", "many", "chance"] (spD K jV):=by
 have sc:FnScope ["weights", "many", "chance", "longer", "place", "weight"] ["weights", "many", "chance"] (aP (top 34)):=fsc;exact fH (fl:=[.A,.A,.A,.O,.A,.A]) D sc (by decide) (by decide) λf cdv A outer s H E Z=>aV (mU (i:=3) rfl sc.nd rfl (by first|exact Or.inl rfl|exact Or.inr rfl) (Pu (pF (kW (dq iC dz))) (aW (bU fY ji (aW (fV eO rE (by rfl) B.len_ PySem.boot_len (dq (vP 0) dz))) (vP 1)))))
  (aV (jT (L:=[]) b9 rfl (J5 (vB 0) (by rfl) B.enumerate_) (wU rfl (jx (gN' (i:=4) sc.nd) (jx (gN' (i:=5) sc.nd) (tE)))) (aV (Pg (i:=3) rfl (dR (bU fY ji (cG (dx (su 3) (vP 4))) (aW (bU iR m7 (vP 5) (aW (bU yQ Fx (cG (dx (vB 2) iP)) (cG (dx (vB 2) iP)))))))) (vP 4) rfl)
  (aU (Pg (i:=3) rfl (dR (bU fY ji (cG (dx (su 3) (aW (bU fY ji (vP 4) (vP 1))))) (aW (bU iR m7 (vP 5) (cG (dx (vB 2) iP)))))) (aW (bU fY ji (vP 4) (vP 1))) rfl))))
  (aU (bZ (vI 3 (by decide)))))
theorem Aa(D:Dg K mg "all_weights" (top 35) ["rows"])(B:Bl mg)(Y:Has P w K mg base n "with_row" ["weights", "many", "chance"] (spD K jV)):Has P w K mg base (n+1) "all_weights" ["rows"] (spD K iZ):=by
 have sc:FnScope ["rows", "weights", "many", "chance"] ["rows"] (aP (top 35)):=fsc;exact fH (fl:=[.A,.O,.A,.A]) D sc (by decide) (by decide) λf cdv A outer s H E Z=>aV (mU (i:=1) rfl sc.nd rfl (by first|exact Or.inl rfl|exact Or.inr rfl) (pF (kW (dq iC dz))))
  (aV (jT (L:=[]) b9 rfl (jL (vB 0)) (wU rfl (jx (gN' (i:=2) sc.nd) (jx (gN' (i:=3) sc.nd) (tE)))) (aU (mU (i:=1) rfl sc.nd rfl (by first|exact Or.inl rfl|exact Or.inr rfl) (pF (Xi (bR Y Z (dq (Br (su 1)) (dq (vP 2) (dq (vP 3) dz)))))))))
  (aU (bZ (vI 1 (by decide)))))
theorem xJ(D:Dg K mg "common_bottom" (top 36) ["rows"])(B:Bl mg):Has P w K mg base (n+1) "common_bottom" ["rows"] (spD K gG):=by
 have sc:FnScope ["rows", "bottom", "many", "chance"] ["rows"] (aP (top 36)):=fsc;exact fH (fl:=[.A,.A,.A,.A]) D sc (by decide) (by decide) λf cdv A outer s H E Z=>aV (sA (i:=1) sc.nd (dR (sy)))
  (aV (jT (L:=[]) b9 rfl (jL (vB 0)) (wU rfl (jx (gN' (i:=2) sc.nd) (jx (gN' (i:=3) sc.nd) (tE)))) (aU (sA (i:=1) sc.nd (dR (bU iR m7 (vP 1) (cG (dx (vB 3) iP)))))))
  (aU (bZ (bY (dH (vP 1))))))
theorem yt(D:Dg K mg "comers_above" (top 37) ["rows", "rooms"])(B:Bl mg)(Z:Has P w K mg base n "ratio" ["top", "bottom"] (spD K qM))(Y:Has P w K mg base n "all_weights" ["rows"] (spD K iZ))(O:Has P w K mg base n "common_bottom" ["rows"] (spD K gG)):Has P w K mg base (n+1) "comers_above" ["rows", "rooms"] (spD K gq):=by
 have sc:FnScope ["rows", "rooms"] ["rows", "rooms"] (aP (top 37)):=fsc;exact fH (fl:=[.A,.A]) D sc (by decide) (by decide) λf cdv A outer s H E X=>aU (bZ (uw (bR Z X (dq (aW (fV (tL rfl) J6 (by rfl) B.sum_ cz (dq (JX (J3 (mG (mF (bR Y X (dq (vP 0) dz)))) (nW (aW (bU fY ji (vP 1) iP))) nU)) dz))) (dq (fQ (bR O X (dq (vP 0) dz))) dz)))))
theorem Ef(D:Dg K mg "is_ladder" (top 41) ["thing"])(B:Bl mg)(O:Has P w K mg base n "is_whole_list" ["thing"] (spD K gH))(Z:∃t,mg "MOST_KINDS"=some (.int 4 t))(Y:∃t,mg "MOST_ROOMS"=some (.int 12 t)):Has P w K mg base (n+1) "is_ladder" ["thing"] (spD K iV):=by
 have sc:FnScope ["thing"] ["thing"] (aP (top 41)):=fsc;exact fH (fl:=[.A]) D sc (by decide) (by decide) λf cdv A outer s H E X=>aV (jc (yj (ux (j_ (jR (fQ (bR O X (dq (vP 0) dz))))) (sE (j_ (zJ o8 o8 vK vK iP (aW (fV eO rE (by rfl) B.len_ PySem.boot_len (dq (vP 0) dz))) (aW (qy Z))))))) (aU (bZ (bY (zA)))) (dY))
  (aU (bZ (bY (mO (aW (oK Bg L_ (aW (fV (Mj rfl) Xu (by rfl) B.min_ PyProof.Rows.boot_min (dq (vP 0) dz))) iP (dh _))) (pG (oK o8 vK (aW (fV (tL rfl) J6 (by rfl) B.sum_ cz (dq (vP 0) dz))) (aW (qy Y)) (dh _)))))))
theorem Av(D:Dg K mg "rooms_from" (top 42) ["ladder", "kind"])(B:Bl mg):Has P w K mg base (n+1) "rooms_from" ["ladder", "kind"] (spD K jo):=by
 have sc:FnScope ["ladder", "kind"] ["ladder", "kind"] (aP (top 42)):=fsc;exact fH (fl:=[.A,.A]) D sc (by decide) (by decide) λf cdv A outer s H E Z=>aU (bZ (bY (fV (XI.Mv rfl) XI.Yk (by rfl) B.sum_ cz (dq (aW (QD (vP 0) (nW (aW (bU yQ Fx (vP 1) iP))) nU)) dz))))
theorem Eh(D:Dg K mg "chance_at" (top 43) ["stays", "night", "kind", "ladder"])(B:Bl mg)(Z:Has P w K mg base n "nights_of" ["stay"] (spD K iU))(hholds:Has P w K mg base n "holds" ["stretch", "night"] (spD K nY))(O:Has P w K mg base n "comers_above" ["rows", "rooms"] (spD K gq))(Y:Has P w K mg base n "rooms_from" ["ladder", "kind"] (spD K jo)):Has P w K mg base (n+1) "chance_at" ["stays", "night", "kind", "ladder"] (spD K fO):=by
 have sc:FnScope ["stays", "night", "kind", "ladder", "rows"] ["stays", "night", "kind", "ladder"] (aP (top 43)):=fsc;exact fH (fl:=[.A,.A,.A,.A,.A]) D sc (by decide) (by decide) λf cdv A outer s H E X=>aV (pX (i:=4) (L:=[]) (fl':=[.A,.A,.A]) rfl sc.nd rfl rfl rfl ["stay"] ["kind", "night"] [2,1] (jL (vB 0)) (λ_ _ _ _ _=>gN' (i:=0) (show(["stay", "kind", "night"]:List Str).Nodup by decide +kernel)) (λ_ _ _ _ _=>yF (yj (zG (fB Bg L_ (cG (dx (vB 0) iP)) (vP 1) (dh _)) (yG (jR (fQ (bR hholds X (dq (fQ (bR Z X (dq (vP 0) dz))) (dq (vP 2) dz))))))))) (λ_ _ _ _ _=>gP (dH (cG (fD rfl (dq (dR (sy)) (dq (dx (vB 0) iP) dz)))))))
  (aU (bZ (uw (bR O X (dq (vP 4) (dq (fQ (bR Y X (dq (vP 3) (dq (vP 2) dz)))) dz))))))
theorem sZ(D:Dg K mg "nights_to_look_at" (top 44) ["stays", "new"])(B:Bl mg):Has P w K mg base (n+1) "nights_to_look_at" ["stays", "new"] (spD K dD):=by
 have sc:FnScope ["stays", "new", "later"] ["stays", "new"] (aP (top 44)):=fsc;exact fH (fl:=[.A,.A,.A]) D sc (by decide) (by decide) λf cdv A outer s H E Z=>aV (pX (i:=2) (L:=[]) (fl':=[.A,.A]) rfl sc.nd rfl rfl rfl ["stay"] ["new"] [1] (jL (vB 0)) (λ_ _ _ _ _=>gN' (i:=0) (show(["stay", "new"]:List Str).Nodup by decide +kernel)) (λ_ _ _ _ _=>yF (zJ uq uq b_lt b_lt (cG (dx (vB 1) iP)) (cG (dx (vB 0) iP)) (cG (dx (vB 1) iP)))) (λ_ _ _ _ _=>gP (dH (cG (dx (vB 0) iP)))))
  (aU (bZ (bY (HX (CQ (mG (ur (vM (dq (dx (vB 1) iP) dz)))) (mG (dR (Mi (dq (vP 2) dz) (by rfl) B.sorted_))))))))
theorem R_(D:Dg K mg "tight" (top 45) ["stays", "new", "ladder", "risk"])(B:Bl mg)(Z:Has P w K mg base n "under" ["one", "other"] (spD K jM))(Y:Has P w K mg base n "chance_at" ["stays", "night", "kind", "ladder"] (spD K fO))(O:Has P w K mg base n "nights_to_look_at" ["stays", "new"] (spD K dD)):Has P w K mg base (n+1) "tight" ["stays", "new", "ladder", "risk"] (spD K gD):=by
 have sc:FnScope ["stays", "new", "ladder", "risk", "everybody", "night", "kind", "chance"] ["stays", "new", "ladder", "risk"] (aP (top 45)):=fsc;exact fH (fl:=[.A,.A,.A,.A,.A,.A,.A,.A]) D sc (by decide) (by decide) λf cdv A outer s H E X=>aV (sA (i:=4) sc.nd (ur (CQ (vB 0) (mG (ur (vM (dq (vA 1) dz)))))))
  (aV (jT (L:=[]) b9 rfl (jL (mG (mF (bR O X (dq (vP 0) (dq (vP 1) dz)))))) (gN' (i:=5) sc.nd) (aU (jT (L:=[]) b9 rfl (wV (by rfl) B.range_ (rC (dq iP (dq (aW (bU fY ji (cG (dx (vB 1) iP)) iP)) dz)))) (gN' (i:=6) sc.nd) (aV (sA (i:=7) sc.nd (mF (bR Y X (dq (vP 4) (dq (vP 5) (dq (vP 6) (dq (vP 2) dz)))))))
  (aU (jc (jR (fQ (bR Z X (dq (vP 3) (dq (vP 7) dz))))) (aU (bZ (fD rfl (dq (bY (dH (vP 5))) (dq (bY (dH (vP 6))) (dq (bY (dH (vP 7))) dz)))))) (dY)))))))
  (aU (bZ (bY (O9)))))
theorem Jx(D:Dg K mg "is_name" (top 48) ["thing"])(B:Bl mg)(O:∃t,mg "MOST_SIGNS"=some (.int 8 t)):Has P w K mg base (n+1) "is_name" ["thing"] (spD K lq):=by
 have sc:FnScope ["thing"] ["thing"] (aP (top 48)):=fsc;exact fH (fl:=[.A]) D sc (by decide) (by decide) λf cdv A outer s H E Z=>aV (jc (yj (ux (j_ (jR (aW (uP (T := "str") (by decide) (vP 0) (by rfl) B.isinstance_ (by rfl) B.str_ PyProof.Rows.boot_str)))) (sE (j_ (zJ o8 o8 vK vK iP (aW (fV Cu XW.X4 (by rfl) B.len_ PySem.boot_len (dq (vP 0) dz))) (aW (qy O))))))) (aU (bZ (bY (zA)))) (dY))
  (aU (bZ (bY (fV (Bv rfl) V3 (by rfl) B.all_ (show bootBuiltins "all"=some (.builtin "all")by decide +kernel) (dq (aW (qJ (L:=[]) (fl':=[.A]) rfl ["sign"] [] [] (XW.X8 (vP 0)) (λ_ _ _ _ _=>gN' (i:=0) (show(["sign"]:List Str).Nodup by decide +kernel)) (λ_ _ _ _ _=>nT) (λ_ _ _ _ _=>gP (vN XI.Qm XI.Qm XI.Wa XI.Wa (aW (mL)) (vP 0) (aW (mL)))))) dz)))))
theorem yu(D:Dg K mg "is_chance_to" (top 62) ["thing", "most"])(B:Bl mg)(O:Has P w K mg base n "is_chance" ["thing"] (spD K lg)):Has P w K mg base (n+1) "is_chance_to" ["thing", "most"] (spD K dM):=by
 have sc:FnScope ["thing", "most"] ["thing", "most"] (aP (top 62)):=fsc;exact fH (fl:=[.A,.A]) D sc (by decide) (by decide) λf cdv A outer s H E Z=>aU (bZ (bY (mO (fQ (bR O Z (dq (vP 0) dz))) (pG (oK o8 vK (cG (dx (vB 0) iP)) (vP 1) (dh _))))))
theorem wG(D:Dg K mg "kinds_of_rooms" (top 63) ["ladder"])(B:Bl mg):Has P w K mg base (n+1) "kinds_of_rooms" ["ladder"] (spD K gY):=by
 have sc:FnScope ["ladder", "kinds", "place", "many"] ["ladder"] (aP (top 63)):=fsc;exact fH (fl:=[.A,.O,.A,.A]) D sc (by decide) (by decide) λf cdv A outer s H E Z=>aV (mU (i:=1) rfl sc.nd rfl (by first|exact Or.inl rfl|exact Or.inr rfl) (pF (kW dz)))
  (aV (jT (L:=[]) b9 rfl (J5 (vB 0) (by rfl) B.enumerate_) (wU rfl (jx (gN' (i:=2) sc.nd) (jx (gN' (i:=3) sc.nd) (tE)))) (aU (mU (i:=1) rfl sc.nd rfl (by first|exact Or.inl rfl|exact Or.inr rfl) (CQ (su 1) (mG (ur (Pu (pF (kW (dq (gP (bU fY ji (vP 2) iP)) dz))) (vP 3))))))))
  (aU (bZ (vI 1 (by decide)))))
theorem Ei(D:Dg K mg "_law_cell" (top 66) ["_law_script", "_law_at"])(B:Bl mg):Has P w K mg base (n+1) "_law_cell" ["_law_script", "_law_at"] (spD K jj):=by
 have sc:FnScope ["_law_script", "_law_at"] ["_law_script", "_law_at"] (aP (top 66)):=fsc;exact fH (fl:=[.A,.A]) D sc (by decide) (by decide) λf cdv A outer s H E Z=>aV (jc (fB uq b_lt (vP 1) (aW (fV eO rE (by rfl) B.len_ PySem.boot_len (dq (vP 0) dz))) (dh _)) (aU (bZ (bY (bU fu jK (cG (dx (vB 0) (vP 1))) iP)))) (dY))
  (aV (jc (fB (lJ Z.units) vL (vP 0) (aW (kW dz)) (dh _)) (aU (bZ (bY (bU fY ji (aW (bU iR m7 iP (vP 1))) iP)))) (dY))
  (aU (bZ (bY (bU fY ji (aW (bU fu jK (cG (dx (vB 0) (aW (bU fu jK (aW (bU iR m7 (vP 1) iP)) (aW (fV eO rE (by rfl) B.len_ PySem.boot_len (dq (vP 0) dz))))))) iP)) (aW (bU iR m7 iP (vP 1))))))))
theorem Ej(D:Dg K mg "_law_part" (top 67) ["_law_script", "_law_at", "_law_k", "_law_many"])(B:Bl mg)(O:Has P w K mg base n "_law_cell" ["_law_script", "_law_at"] (spD K jj)):Has P w K mg base (n+1) "_law_part" ["_law_script", "_law_at", "_law_k", "_law_many"] (spD K gj):=by
 have sc:FnScope ["_law_script", "_law_at", "_law_k", "_law_many", "_law_number", "_law_j"] ["_law_script", "_law_at", "_law_k", "_law_many"] (aP (top 67)):=fsc;exact fH (fl:=[.A,.A,.A,.A,.A,.A]) D sc (by decide) (by decide) λf cdv A outer s H E Z=>aV (jc (yj (zG (fB uq b_lt (vP 1) (aW (fV eO rE (by rfl) B.len_ PySem.boot_len (dq (vP 0) dz))) (dh _)) (yG (fB Bg L_ (cG (dx (vB 0) (vP 1))) (aW (bU Hj Pa iP iP)) (dh _))))) (aV (sA (i:=4) sc.nd (dx (vB 0) (vP 1)))
  (aV (jT (L:=[]) b9 rfl (j4 (by rfl) B.range_ (rC (dq (vP 2) dz))) (gN' (i:=5) sc.nd) (aU (sA (i:=4) sc.nd (dR (bU qz zE (vP 4) iP)))))
  (aU (jc (fB JH Tv (vP 4) iP (dh _)) (aU (bZ (bY (bU fu jK (aW (bU fu jK (vP 4) iP)) (vP 3))))) (dY))))) (dY))
  (aV (sA (i:=4) sc.nd (dR (bU fu jK (aW (bU iR m7 (aW (bU fY ji (aW (bU fY ji (fQ (bR O Z (dq (vP 0) (dq (vP 1) dz)))) (aW (bU iR m7 iP (vP 1))))) iP)) (aW (bU fY ji iP (aW (bU iR m7 iP (vP 2))))))) iP)))
  (aV (sA (i:=4) sc.nd (dR (bU fY ji (aW (bU fu jK (aW (bU iR m7 (vP 4) (vP 4))) iP)) iP)))
  (aU (bZ (bY (bU fu jK (aW (bU qz zE (aW (bU fu jK (aW (bU iR m7 (vP 4) (vP 4))) iP)) iP)) (vP 3)))))))
theorem G8(D:Dg K mg "_law_row" (top 68) ["_law_script", "_law_at", "_law_many"])(B:Bl mg)(O:Has P w K mg base n "_law_part" ["_law_script", "_law_at", "_law_k", "_law_many"] (spD K gj)):Has P w K mg base (n+1) "_law_row" ["_law_script", "_law_at", "_law_many"] (spD K eX):=by
 have sc:FnScope ["_law_script", "_law_at", "_law_many"] ["_law_script", "_law_at", "_law_many"] (aP (top 68)):=fsc;exact fH (fl:=[.A,.A,.A]) D sc (by decide) (by decide) λf cdv A outer s H E Z=>aU (bZ (bY (qJ (L:=[]) (fl':=[.A,.A,.A]) rfl ["_law_k"] ["_law_script", "_law_at"] [0,1] (j4 (by rfl) B.range_ (rC (dq (vP 2) dz))) (λ_ _ _ _ _=>gN' (i:=0) (show(["_law_k", "_law_script", "_law_at"]:List Str).Nodup by decide +kernel)) (λ_ _ _ _ _=>nT) (λ_ _ _ _ _=>bR O Z (dq (vP 1) (dq (vP 2) (dq (vP 0) (dq (aW (bU Hj Pa iP iP)) dz))))))))
theorem Ab(D:Dg K mg "_law_lowest" (top 70) ["_law_top", "_law_bottom"])(B:Bl mg):Has P w K mg base (n+1) "_law_lowest" ["_law_top", "_law_bottom"] (spD K cR):=by
 have sc:FnScope ["_law_top", "_law_bottom", "_law_one", "_law_other", "_law_rest"] ["_law_top", "_law_bottom"] (aP (top 70)):=fsc;exact fH (fl:=[.A,.A,.A,.A,.A]) D sc (by decide) (by decide) λf cdv A outer s H E Z=>aV (sA (i:=2) sc.nd (vA 0))
  (aV (sA (i:=3) sc.nd (vA 1))
  (aV (Fz b9 (fB JH Tv (vP 3) iP (dh _)) (aV (sA (i:=4) sc.nd (dR (bU fu jK (vP 2) (vP 3))))
  (aV (sA (i:=2) sc.nd (vA 3))
  (aU (sA (i:=3) sc.nd (vA 4))))))
  (aU (bZ (fD rfl (dq (bY (bU qz zE (vP 0) (vP 2))) (dq (bY (bU qz zE (vP 1) (vP 2))) dz)))))))
theorem Aw(D:Dg K mg "_law_names" (top 71) ["_law_script", "_law_at"])(B:Bl mg)(O:Has P w K mg base n "_law_row" ["_law_script", "_law_at", "_law_many"] (spD K eX)):Has P w K mg base (n+1) "_law_names" ["_law_script", "_law_at"] (spD K jr):=by
 have sc:FnScope ["_law_script", "_law_at", "_law_xs"] ["_law_script", "_law_at"] (aP (top 71)):=fsc;exact fH (fl:=[.A,.A,.A]) D sc (by decide) (by decide) λf cdv A outer s H E Z=>aV (sA (i:=2) sc.nd (mF (bR O Z (dq (vP 0) (dq (vP 1) (dq iP dz))))))
  (aV (jc (fB (lJ Z.units) vL (aW (bU fu jK (cG (dx (vB 2) iP)) iP)) iP (dh _)) (aU (bZ (bY (qJ (L:=[]) (fl':=[.A]) rfl ["_law_k"] [] [] (j4 (by rfl) B.range_ (rC (dq iP dz))) (λ_ _ _ _ _=>gN' (i:=0) (show(["_law_k"]:List Str).Nodup by decide +kernel)) (λ_ _ _ _ _=>nT) (λ_ _ _ _ _=>gP (XW.Iw (aW (mL)) nU (nW (aW (bU fY ji (vP 0) iP))))))))) (dY))
  (aV (sA (i:=1) sc.nd (dR (bU fu jK (cG (dx (vB 2) iP)) iP)))
  (aU (bZ (bY (qJ (L:=[]) (fl':=[.A,.A]) rfl ["_law_k"] ["_law_at"] [1] (j4 (by rfl) B.range_ (rC (dq iP dz))) (λ_ _ _ _ _=>gN' (i:=0) (show(["_law_k", "_law_at"]:List Str).Nodup by decide +kernel)) (λ_ _ _ _ _=>nT) (λ_ _ _ _ _=>gP (bU yR XW.PB (aW (bU yR XW.PB (aW (XW.Iw (aW (mL)) nU (nW (vP 1)))) (aW (XW.X5 (aW (mL)) (vP 0) (λ_ _=>rfl))))) (aW (XW.Iw (aW (mL)) (nW (aW (bU fY ji (vP 1) iP))) nU))))))))))
theorem Ac(D:Dg K mg "_law_chance" (top 72) ["_law_xs"])(B:Bl mg)(O:Has P w K mg base n "_law_lowest" ["_law_top", "_law_bottom"] (spD K cR)):Has P w K mg base (n+1) "_law_chance" ["_law_xs"] (spD K eN):=by
 have sc:FnScope ["_law_xs", "_law_some"] ["_law_xs"] (aP (top 72)):=fsc;exact fH (fl:=[.A,.A]) D sc (by decide) (by decide) λf cdv A outer s H E Z=>aV (sA (i:=1) sc.nd (dR (kW (dq (fD rfl (dq iC (dq iC dz))) (dq (fD rfl (dq iC (dq iC dz))) (dq (fD rfl (dq iC (dq iC dz))) (dq (fD rfl (dq iC (dq iC dz))) (dq (bR O Z (dq (aW (bU fY ji iP (aW (bU fu jK (cG (dx (vB 0) iP)) iP)))) (dq iP dz))) (dq (bR O Z (dq (aW (bU fu jK (cG (dx (vB 0) iP)) iP)) (dq iP dz))) dz)))))))))
  (aU (bZ (bY (dH (cG (dx (vB 1) (aW (bU fu jK (cG (dx (vB 0) iP)) iP))))))))
theorem Ek(D:Dg K mg "_law_over" (top 73) ["_law_chances", "_law_rooms"])(B:Bl mg):Has P w K mg base (n+1) "_law_over" ["_law_chances", "_law_rooms"] (spD K dF):=by
 have sc:FnScope ["_law_chances", "_law_rooms", "_law_top", "_law_bottom", "_law_chance_here", "_law_number", "_law_came", "_law_part_here", "_law_k"] ["_law_chances", "_law_rooms"] (aP (top 73)):=fsc;exact fH (fl:=[.A,.A,.A,.A,.A,.A,.A,.A,.A]) D sc (by decide) (by decide) λf cdv A outer s H E Z=>aV (sA (i:=2) sc.nd (dR (sy)))
  (aV (sA (i:=3) sc.nd (dR (sy)))
  (aV (jT (L:=[]) b9 rfl (jL (vB 0)) (gN' (i:=4) sc.nd) (aU (sA (i:=3) sc.nd (dR (bU iR m7 (vP 3) (cG (dx (vB 4) iP)))))))
  (aV (jT (L:=[]) b9 rfl (j4 (by rfl) B.range_ (rC (dq (aW (bU Oh V1 iP (aW (fV eO rE (by rfl) B.len_ PySem.boot_len (dq (vP 0) dz))))) dz))) (gN' (i:=5) sc.nd) (aV (pX (i:=6) (L:=[]) (fl':=[.A,.A]) rfl sc.nd rfl rfl rfl ["_law_k"] ["_law_number"] [5] (j4 (by rfl) B.range_ (rC (dq (aW (fV eO rE (by rfl) B.len_ PySem.boot_len (dq (vP 0) dz))) dz))) (λ_ _ _ _ _=>gN' (i:=0) (show(["_law_k", "_law_number"]:List Str).Nodup by decide +kernel)) (λ_ _ _ _ _=>nT) (λ_ _ _ _ _=>gP (bU fu jK (aW (bU qz zE (vP 1) (aW (bU Oh V1 iP (vP 0))))) iP)))
  (aU (jc (fB JH Tv (aW (fV (tL rfl) J6 (by rfl) B.sum_ cz (dq (vP 6) dz))) (vP 1) (dh _)) (aV (sA (i:=7) sc.nd (dR (sy)))
  (aV (jT (L:=[]) b9 rfl (j4 (by rfl) B.range_ (rC (dq (aW (fV eO rE (by rfl) B.len_ PySem.boot_len (dq (vP 0) dz))) dz))) (gN' (i:=8) sc.nd) (aU (sA (i:=7) sc.nd (dR (bU iR m7 (vP 7) (cG (dx (mG (ur (vM (dq (dR (bU yQ Fx (cG (dx (mG (dx (vB 0) (vP 8))) iP)) (cG (dx (mG (dx (vB 0) (vP 8))) iP)))) (dq (dx (mG (dx (vB 0) (vP 8))) iP) dz))))) (cG (dx (vB 6) (vP 8))))))))))
  (aU (sA (i:=2) sc.nd (dR (bU fY ji (vP 2) (vP 7))))))) (dY)))))
  (aU (bZ (fD rfl (dq (bY (dH (vP 2))) (dq (bY (dH (vP 3))) dz))))))))
theorem Ax(D:Dg K mg "_law_paper" (top 74) ["_law_taken", "_law_new", "_law_ladder", "_law_risk"])(B:Bl mg)(O:Has P w K mg base n "_law_lowest" ["_law_top", "_law_bottom"] (spD K cR))(Y:Has P w K mg base n "_law_over" ["_law_chances", "_law_rooms"] (spD K dF)):Has P w K mg base (n+1) "_law_paper" ["_law_taken", "_law_new", "_law_ladder", "_law_risk"] (spD K cD):=by
 have sc:FnScope ["_law_taken", "_law_new", "_law_ladder", "_law_risk", "_law_night", "_law_kind", "_law_some", "_law_top", "_law_bottom"] ["_law_taken", "_law_new", "_law_ladder", "_law_risk"] (aP (top 74)):=fsc;exact fH (fl:=[.A,.A,.A,.A,.A,.A,.A,.A,.A]) D sc (by decide) (by decide) λf cdv A outer s H E Z=>aV (jT (L:=[]) b9 rfl (wV (by rfl) B.range_ (rC (dq (cG (dx (vB 1) iP)) (dq (cG (dx (vB 1) iP)) dz)))) (gN' (i:=4) sc.nd) (aU (jT (L:=[]) b9 rfl (wV (by rfl) B.range_ (rC (dq iP (dq (aW (bU fY ji (cG (dx (vB 1) iP)) iP)) dz)))) (gN' (i:=5) sc.nd) (aV (pX (i:=6) (L:=[]) (fl':=[.A,.A,.A]) rfl sc.nd rfl rfl rfl ["_law_one"] ["_law_night", "_law_kind"] [4,5] (jL (mG (ur (CQ (vB 0) (mG (ur (vM (dq (vA 1) dz)))))))) (λ_ _ _ _ _=>gN' (i:=0) (show(["_law_one", "_law_night", "_law_kind"]:List Str).Nodup by decide +kernel)) (λ_ _ _ _ _=>yF (yj (zG (fB o8 vK (cG (dx (vB 0) iP)) (vP 1) (dh _)) (zG (fB uq b_lt (vP 1) (cG (dx (vB 0) iP)) (dh _)) (yG (fB Bg L_ (cG (dx (vB 0) iP)) (vP 2) (dh _))))))) (λ_ _ _ _ _=>gP (dH (cG (dx (vB 0) iP)))))
  (aV (Xj (mF (bR Y Z (dq (vP 6) (dq (aW (fV (tL rfl) J6 (by rfl) B.sum_ cz (dq (JX (J3 (vB 2) (nW (aW (bU yQ Fx (vP 5) iP))) nU)) dz))) dz)))) (wU rfl (jx (gN' (i:=7) sc.nd) (jx (gN' (i:=8) sc.nd) (tE)))))
  (aU (jc (fB JH Tv (aW (bU iR m7 (vP 7) (cG (dx (vB 3) iP)))) (aW (bU iR m7 (cG (dx (vB 3) iP)) (vP 8))) (dh _)) (aU (bZ (fD rfl (dq (bY (dH (vP 4))) (dq (bY (dH (vP 5))) (dq (uw (bR O Z (dq (vP 7) (dq (vP 8) dz)))) dz)))))) (dY))))))))
  (aU (bZ (bY (O9))))
theorem Ay(D:XI.DgI K mg "House" gJ "House.__init__" (iD 49 0) ["self", "rooms"])(B:Bl mg)(O:HC_House K)(Y:HC_Entry K)(Z:HC_Book K):XI.HasI P w K mg base (n+1) "House" gJ ["self", "rooms"] (XI.spI K gJ j8 jt):=by
 have sc:FnScope ["self", "rooms"] ["self", "rooms"] (aP (iD 49 0)):=fsc;exact XI.Ja (N:=["self", "rooms"]) (fl:=[.A,.A]) (nf:=[("rooms", dN1 (rM (dUn vH (aj 1)))),("places", dC (.dict [])),("wished", dC (.dict [])),("moves_done", jC (aK))]) (ft:=λ_=>some false) D sc (by decide) (by decide) (by decide) (by decide) λf cdv A outer s H E X=>XI.KC (XI.iT (sJ (gP (HX (CT (vB 1) (by rfl) B.list_)))) (XI.iT (CZ) (XI.iT (CZ) (XI.iT (J8 (J7)) (XI.Ir) rfl O.cl O.n_moves_done) rfl O.cl O.n_wished) rfl O.cl O.n_places) rfl O.cl O.n_rooms)
theorem Ad(D:XI.DgM K gJ "names" "House.names" (iD 49 7) ["self"])(B:Bl mg)(O:HC_House K):XI.HasM P w K mg base (n+1) gJ "names" ["self"] (spD K kJ):=by
 have sc:FnScope ["self"] ["self"] (aP (iD 49 7)):=fsc;exact XI.uE (fl:=[.A]) D O.cl sc (by decide) (by decide) λf cdv A outer s H E Z=>aU (bZ (bY (XI.Qj rfl (XI.eG (ns:=j8) (k:=1) (vP 0) O.cl O.n_places rfl (by decide) rfl) (by rfl) B.list_)))
theorem Az(D:XI.DgI K mg "Entry" cP "Entry.__init__" (iD 52 0) ["self", "name", "kind", "first", "behind", "chance"])(B:Bl mg)(Y:HC_House K)(O:HC_Entry K)(Z:HC_Book K):XI.HasI P w K mg base (n+1) "Entry" cP ["self", "name", "kind", "first", "behind", "chance"] (XI.spI K cP nsEntry lY):=by
 have sc:FnScope ["self", "name", "kind", "first", "behind", "chance"] ["self", "name", "kind", "first", "behind", "chance"] (aP (iD 52 0)):=fsc;exact XI.Ja (N:=["self", "name", "kind", "first", "behind", "chance"]) (fl:=[.A,.A,.A,.A,.A,.A]) (nf:=[("name", dN1 (bQ (aj 1))),("kind", dN1 (bQ (aj 2))),("first", dN1 (bQ (aj 3))),("behind", dN1 (bQ (aj 4))),("chance", dN1 (bQ (aj 5))),("word", dN1 (dC (.str "waits")))]) (ft:=λ_=>some false) D sc (by decide) (by decide) (by decide) (by decide) λf cdv A outer s H E X=>XI.KC (XI.iT (sJ (gP (dH (vP 1)))) (XI.iT (sJ (gP (dH (vP 2)))) (XI.iT (sJ (gP (dH (vP 3)))) (XI.iT (sJ (gP (dH (vP 4)))) (XI.iT (sJ (gP (dH (vP 5)))) (XI.iT (sJ (gP (mL))) (XI.Ir) rfl O.cl O.n_word) rfl O.cl O.n_chance) rfl O.cl O.n_behind) rfl O.cl O.n_first) rfl O.cl O.n_kind) rfl O.cl O.n_name)
theorem El(D:XI.DgI K mg "Book" bA "Book.__init__" (iD 64 0) ["self", "ladder", "risk"])(B:Bl mg)(hHouse:HC_House K)(hEntry:HC_Entry K)(O:HC_Book K)(his_ladder:Has P w K mg base n "is_ladder" ["thing"] (spD K iV))(his_chance_to:Has P w K mg base n "is_chance_to" ["thing", "most"] (spD K dM))(Z:Has P w K mg base n "kinds_of_rooms" ["ladder"] (spD K gY))(Y:∃t,mg "MOST_BOTTOM_OF_A_RISK"=some (.int 1000000000 t)){m0:Nat}(iHouse:XI.HasI P w K mg base m0 "House" gJ ["self", "rooms"] (XI.spI K gJ j8 jt))(hmn:m0+1<=n):XI.HasI P w K mg base (n+1) "Book" bA ["self", "ladder", "risk"] (XI.spI K bA bh lu):=by
 have sc:FnScope ["self", "ladder", "risk"] ["self", "ladder", "risk"] (aP (iD 64 0)):=fsc;exact XI.Ja (N:=["self", "ladder", "risk"]) (fl:=[.A,.A,.A]) (nf:=[("ladder", dN1 (rM (dUn vH (aj 1)))),("risk", dN1 (bQ (aj 2))),("steps", dN1 (bQ (dUn FZ (aj 1)))),("inside", XI.xW gJ j8 jt (au (dCall gY (au (aj 1) (aK))) (aK))),("night", dN1 (dC (.int 0))),("entries", dC (.dict [])),("happened", jC (aK))]) (ft:=D3.tOr (D3.jO (aY (dCall iV (au (aj 1) (aK))))) (D3.jO (aY (dCall dM (au (aj 2) (au (dC (.int 1000000000)) (aK))))))) D sc (by decide) (by decide) (by decide) (by decide) λf cdv A outer s H E X=>XI.QF (yj (ux (j_ (jR (fQ (bR his_ladder X (dq (vP 1) dz))))) (sE (j_ (jR (fQ (bR his_chance_to X (dq (vP 2) (dq (aW (qy Y)) dz))))))))) (XI.iT (sJ (gP (HX (CT (vB 1) (by rfl) B.list_)))) (XI.iT (sJ (gP (dH (vP 2)))) (XI.iT (sJ (gP (dH (cG (T8 (vB 1) (by rfl) B.tuple_))))) (XI.iT (XI.Ks (ns:=j8) iHouse (X.mono hmn) (dq (fQ (bR Z X (dq (vP 1) dz))) dz)) (XI.iT (sJ iC) (XI.iT (CZ) (XI.iT (J8 (J7)) (XI.Ir) rfl O.cl O.n_happened) rfl O.cl O.n_entries) rfl O.cl O.n_night) rfl O.cl O.n_inside) rfl O.cl O.n_steps) rfl O.cl O.n_risk) rfl O.cl O.n_ladder)
theorem Jy(D:Dg K mg "stay_by" (top 53) ["entry", "chance"])(B:Bl mg)(O:HC_Entry K):Has P w K mg base (n+1) "stay_by" ["entry", "chance"] (spD K jB):=by
 have sc:FnScope ["entry", "chance"] ["entry", "chance"] (aP (top 53)):=fsc;exact fH (fl:=[.A,.A]) D sc (by decide) (by decide) λf cdv A outer s H E Z=>aU (bZ (fD rfl (dq (bY (dH (XI.eG (ns:=nsEntry) (k:=2) (vP 0) O.cl O.n_first rfl (by decide) rfl))) (dq (bY (dH (XI.eG (ns:=nsEntry) (k:=3) (vP 0) O.cl O.n_behind rfl (by decide) rfl))) (dq (bY (dH (XI.eG (ns:=nsEntry) (k:=1) (vP 0) O.cl O.n_kind rfl (by decide) rfl))) (dq (bY (dH (vP 1))) dz))))))
theorem A_(D:Dg K mg "stays_held" (top 54) ["entries"])(B:Bl mg)(Y:HC_Entry K)(gSURE:∃a,mg "SURE"=some (.ref a)/\KT K a ([1,1].map V.int))(Z:Has P w K mg base n "stay_by" ["entry", "chance"] (spD K jB)):Has P w K mg base (n+1) "stays_held" ["entries"] (spD K lZ):=by
 have sc:FnScope ["entries", "stays", "entry"] ["entries"] (aP (top 54)):=fsc;exact fH (fl:=[.A,.O,.A]) D sc (by decide) (by decide) λf cdv A outer s H E X=>aV (mU (i:=1) rfl sc.nd rfl (by first|exact Or.inl rfl|exact Or.inr rfl) (pF (kW dz)))
  (aV (jT (L:=[]) b9 rfl (jL (vB 0)) (gN' (i:=2) sc.nd) (aV (jc (fB (lJ X.units) vL (XI.eG (ns:=nsEntry) (k:=5) (vP 2) Y.cl Y.n_word rfl (by decide) rfl) (aW (mL)) (dh _)) (aU (n_ (i:=1) rfl (mF (bR Z X (dq (vP 2) (dq (XI.eG (ns:=nsEntry) (k:=4) (vP 2) Y.cl Y.n_chance rfl (by decide) rfl) dz)))) rfl)) (dY))
  (aU (jc (fB (lJ X.units) vL (XI.eG (ns:=nsEntry) (k:=5) (vP 2) Y.cl Y.n_word rfl (by decide) rfl) (aW (mL)) (dh _)) (aU (n_ (i:=1) rfl (mF (bR Z X (dq (vP 2) (dq (aW (XI.Gq (ns:=[1,1]) gSURE)) dz)))) rfl)) (dY)))))
  (aU (bZ (vI 1 (by decide)))))
theorem Em(D:Dg K mg "hindrance" (top 55) ["entry", "entries", "ladder", "risk"])(B:Bl mg)(Y:HC_Entry K)(htight:Has P w K mg base n "tight" ["stays", "new", "ladder", "risk"] (spD K gD))(Z:Has P w K mg base n "stay_by" ["entry", "chance"] (spD K jB))(O:Has P w K mg base n "stays_held" ["entries"] (spD K lZ)):Has P w K mg base (n+1) "hindrance" ["entry", "entries", "ladder", "risk"] (spD K m_):=by
 have sc:FnScope ["entry", "entries", "ladder", "risk"] ["entry", "entries", "ladder", "risk"] (aP (top 55)):=fsc;exact fH (fl:=[.A,.A,.A,.A]) D sc (by decide) (by decide) λf cdv A outer s H E X=>aU (bZ (uw (bR htight X (dq (fQ (bR O X (dq (vP 1) dz))) (dq (fQ (bR Z X (dq (vP 0) (dq (XI.eG (ns:=nsEntry) (k:=4) (vP 0) Y.cl Y.n_chance rfl (by decide) rfl) dz)))) (dq (vP 2) (dq (vP 3) dz)))))))
theorem Jz(D:Dg K mg "waiting" (top 56) ["entries"])(B:Bl mg)(O:HC_Entry K):Has P w K mg base (n+1) "waiting" ["entries"] (spD K qd):=by
 have sc:FnScope ["entries"] ["entries"] (aP (top 56)):=fsc;exact fH (fl:=[.A]) D sc (by decide) (by decide) λf cdv A outer s H E Z=>aU (bZ (bY (qJ (L:=[]) (fl':=[.A]) rfl ["entry"] [] [] (jL (vB 0)) (λ_ _ _ _ _=>gN' (i:=0) (show(["entry"]:List Str).Nodup by decide +kernel)) (λ_ _ _ _ _=>yF (fB (lJ Z.units) vL (XI.eG (ns:=nsEntry) (k:=5) (vP 0) O.cl O.n_word rfl (by decide) rfl) (aW (mL)) (dh _))) (λ_ _ _ _ _=>gP (dH (vP 0))))))
theorem ug(D:XI.DgM K bA "all_entries" "Book.all_entries" (iD 64 18) ["self"])(B:Bl mg)(O:HC_Book K):XI.HasM P w K mg base (n+1) bA "all_entries" ["self"] (spD K eY):=by
 have sc:FnScope ["self"] ["self"] (aP (iD 64 18)):=fsc;exact XI.uE (fl:=[.A]) D O.cl sc (by decide) (by decide) λf cdv A outer s H E Z=>aU (bZ (bY (XI.Qz rfl (XI.eG (ns:=bh) (k:=5) (vP 0) O.cl O.n_entries rfl (by decide) rfl) (by rfl) B.list_)))
theorem tu(D:XI.DgM K bA "hindrance_of" "Book.hindrance_of" (iD 64 23) ["self", "entry"])(B:Bl mg)(Y:HC_Book K)(Z:Has P w K mg base n "hindrance" ["entry", "entries", "ladder", "risk"] (spD K m_))(O:XI.HasM P w K mg base n bA "all_entries" ["self"] (spD K eY)):XI.HasM P w K mg base (n+1) bA "hindrance_of" ["self", "entry"] (spD K cT):=by
 have sc:FnScope ["self", "entry"] ["self", "entry"] (aP (iD 64 23)):=fsc;exact XI.uE (fl:=[.A,.A]) D Y.cl sc (by decide) (by decide) λf cdv A outer s H E X=>aU (bZ (uw (bR Z X (dq (vP 1) (dq (fQ (XI.oO (ns:=bh) O X (by decide) (vP 0))) (dq (XI.eG (ns:=bh) (k:=2) (vP 0) Y.cl Y.n_steps rfl (by decide) rfl) (dq (XI.eG (ns:=bh) (k:=1) (vP 0) Y.cl Y.n_risk rfl (by decide) rfl) dz)))))))
theorem En(D:XI.DgM K bA "note" "Book.note" (iD 64 17) ["self", "word", "name"])(B:Bl mg)(O:HC_Book K):XI.HasM P w K mg base (n+1) bA "note" ["self", "word", "name"] (XI.spW K [0] nj):=by
 have sc:FnScope ["self", "word", "name"] ["self", "word", "name"] (aP (iD 64 17)):=fsc;exact XI.Ye (fl:=[.W,.A,.A]) D O.cl sc (by decide) (by decide) (by decide) λf cdv A outer s H E Z=>XI.Kf (XI.Ke (XI.Uk (i:=0) (ns:=bh) (k:=6) (Or.inr rfl) (cG (fD rfl (dq (dR (dH (XI.eG (ns:=bh) (k:=4) (yH 0 rfl) O.cl O.n_night rfl (by decide) rfl))) (dq (vA 1) (dq (vA 2) dz))))) rfl O.cl O.n_happened rfl (by decide)) (XI.gow XI.Ur))
theorem vd(D:XI.DgM K bA "check_wish" "Book.check_wish" (iD 64 2) ["self", "name", "kind", "first", "behind", "chance"])(B:Bl mg)(Y:HC_Book K)(his_whole_within:Has P w K mg base n "is_whole_within" ["thing", "least", "most"] (spD K dZ))(his_stretch:Has P w K mg base n "is_stretch" ["thing"] (spD K j7))(his_name:Has P w K mg base n "is_name" ["thing"] (spD K lq))(his_chance_to:Has P w K mg base n "is_chance_to" ["thing", "most"] (spD K dM))(Z:∃t,mg "MOST_IN_THE_BOOK"=some (.int 16 t))(O:∃t,mg "MOST_BOTTOM_OF_A_CHANCE"=some (.int 100 t)):XI.HasM P w K mg base (n+1) bA "check_wish" ["self", "name", "kind", "first", "behind", "chance"] (spD K iW):=by
 have sc:FnScope ["self", "name", "kind", "first", "behind", "chance"] ["self", "name", "kind", "first", "behind", "chance"] (aP (iD 64 2)):=fsc;exact XI.uE (fl:=[.A,.A,.A,.A,.A,.A]) D Y.cl sc (by decide) (by decide) λf cdv A outer s H E X=>aV (jc (j_ (jR (fQ (bR his_name X (dq (vP 1) dz))))) (aU (lO)) (dY))
  (aV (jc (fB (XK.XR X.units) XI.ab5 (vP 1) (XI.eG (ns:=bh) (k:=5) (vP 0) Y.cl Y.n_entries rfl (by decide) rfl) (by with_unfolding_all rfl)) (aU (lO)) (dY))
  (aV (jc (j_ (jR (fQ (bR his_whole_within X (dq (vP 2) (dq iP (dq (aW (fV eO rE (by rfl) B.len_ PySem.boot_len (dq (XI.eG (ns:=bh) (k:=2) (vP 0) Y.cl Y.n_steps rfl (by decide) rfl) dz))) dz))))))) (aU (lO)) (dY))
  (aV (jc (yj (ux (j_ (jR (fQ (bR his_stretch X (dq (cG (fD rfl (dq (vA 3) (dq (vA 4) dz)))) dz))))) (sE (fB uq b_lt (vP 3) (XI.eG (ns:=bh) (k:=4) (vP 0) Y.cl Y.n_night rfl (by decide) rfl) (dh _))))) (aU (lO)) (dY))
  (aV (jc (j_ (jR (fQ (bR his_chance_to X (dq (vP 5) (dq (aW (qy O)) dz)))))) (aU (lO)) (dY))
  (aU (jc (fB Bg L_ (aW (fV XI.Mu XI.Yj (by rfl) B.len_ PySem.boot_len (dq (XI.eG (ns:=bh) (k:=5) (vP 0) Y.cl Y.n_entries rfl (by decide) rfl) dz))) (aW (qy Z)) (dh _)) (aU (lO)) (dY)))))))
theorem Eo(D:XI.DgMD K bA "wish" "Book.wish" (iD 64 1) ["self", "name", "kind", "first", "behind", "chance"])(B:Bl mg)(O:HC_Entry K)(hBook:HC_Book K)(gSURE:∃a,mg "SURE"=some (.ref a)/\KT K a ([1,1].map V.int)){m0:Nat}(iEntry:XI.HasI P w K mg base m0 "Entry" cP ["self", "name", "kind", "first", "behind", "chance"] (XI.spI K cP nsEntry lY))(hmn:m0+1<=n)(Y:XI.HasM P w K mg base n bA "hindrance_of" ["self", "entry"] (spD K cT))(mBook_note:XI.HasM P w K mg base n bA "note" ["self", "word", "name"] (XI.spW K [0] nj))(Z:XI.HasM P w K mg base n bA "check_wish" ["self", "name", "kind", "first", "behind", "chance"] (spD K iW)):XI.HasMD P w K mg base (n+1) bA "wish" ["self", "name", "kind", "first", "behind", "chance"] (XI.spW K [0] d9):=by
 have sc:FnScope ["self", "name", "kind", "first", "behind", "chance", "held", "entry"] ["self", "name", "kind", "first", "behind", "chance"] (aP (iD 64 1)):=fsc;exact XI.Uy (fl:=[.W,.A,.A,.A,.A,.A,.A,.A]) D hBook.cl sc (by decide) (by decide) (by decide) λf cdv A outer s H E X=>XI.vX (XI.Ke (sA (i:=6) sc.nd (Z9 (Pz (vP 5)) (dR (XI.Gq (ns:=[1,1]) gSURE)) (vA 5))) (XI.gow XI.Uo))
  (XI.vX (XI.Ke (Tw (fQ (XI.v5 (ns:=bh) Z X (by decide) (yH 0 rfl) (dq (vP 1) (dq (vP 2) (dq (vP 3) (dq (vP 4) (dq (vP 6) dz)))))))) (XI.gow XI.Uq))
  (XI.Uw (i:=7) (k:=5) iEntry (X.mono hmn) (dq (vP 1) (dq (vP 2) (dq (vP 3) (dq (vP 4) (dq (vP 6) dz))))) (Pz (fQ (XI.v5 (ns:=bh) Y X (by decide) (yH 0 rfl) (dq (vP 7) dz))))
  (XI.vX (XI.Yl (XI.QB (XK.hu1 X.units) (i:=0) (ns:=bh) (k:=5) (Or.inr rfl) (vP 7) (vP 1) rfl hBook.cl hBook.n_entries rfl (by decide)))
  (XI.vX (XI.Ke (XI.Qc (XI.Gj (ns:=bh) (sw:=[0]) mBook_note X rfl rfl (by decide) (XI.lR (dR (dH (XI.eG (ns:=nsEntry) (k:=5) (vP 7) O.cl O.n_word rfl (by decide) rfl))) (XI.lR (vA 1) (XI.Dh))) (XI.Iu rfl))) (XI.gow XI.Qn))
  (XI.Kf (XI.X_ (by decide) (aW (oK (lJ X.units) vL (XI.eG (ns:=nsEntry) (k:=5) (vP 7) O.cl O.n_word rfl (by decide) rfl) (aW (mL)) (dh _))))))) rfl sc.nd rfl (by first|exact Or.inl rfl|exact Or.inr rfl) O.cl O.n_word rfl (by decide)))
theorem yw(D:XI.DgM K bA "tonight" "Book.tonight" (iD 64 10) ["self"])(B:Bl mg)(O:HC_Book K):XI.HasM P w K mg base (n+1) bA "tonight" ["self"] (spD K jX):=by
 have sc:FnScope ["self"] ["self"] (aP (iD 64 10)):=fsc;exact XI.uE (fl:=[.A]) D O.cl sc (by decide) (by decide) λf cdv A outer s H E Z=>aU (bZ (bY (dH (XI.eG (ns:=bh) (k:=4) (vP 0) O.cl O.n_night rfl (by decide) rfl))))
theorem Ba(D:XI.DgM K bA "names" "Book.names" (iD 64 11) ["self"])(B:Bl mg)(O:HC_Book K):XI.HasM P w K mg base (n+1) bA "names" ["self"] (spD K mj):=by
 have sc:FnScope ["self"] ["self"] (aP (iD 64 11)):=fsc;exact XI.uE (fl:=[.A]) D O.cl sc (by decide) (by decide) λf cdv A outer s H E Z=>aU (bZ (bY (XI.Qy rfl (XI.eG (ns:=bh) (k:=5) (vP 0) O.cl O.n_entries rfl (by decide) rfl) (by rfl) B.list_)))
theorem xK(D:XI.DgM K bA "entry_of" "Book.entry_of" (iD 64 20) ["self", "name"])(B:Bl mg)(O:HC_Book K)(Y:Has P w K mg base n "is_name" ["thing"] (spD K lq)):XI.HasM P w K mg base (n+1) bA "entry_of" ["self", "name"] (spD K jy):=by
 have sc:FnScope ["self", "name"] ["self", "name"] (aP (iD 64 20)):=fsc;exact XI.uE (fl:=[.A,.A]) D O.cl sc (by decide) (by decide) λf cdv A outer s H E Z=>aV (jc (yj (ux (j_ (jR (fQ (bR Y Z (dq (vP 1) dz))))) (sE (fB (XK.Mq Z.units) XI.Qx (vP 1) (XI.eG (ns:=bh) (k:=5) (vP 0) O.cl O.n_entries rfl (by decide) rfl) (by with_unfolding_all rfl))))) (aU (lO)) (dY))
  (aU (bZ (bY (XI.Uu (XK.hu1 Z.units) (XI.eG (ns:=bh) (k:=5) (vP 0) O.cl O.n_entries rfl (by decide) rfl) (vP 1) (λ_ _=>rfl)))))
theorem Bb(D:XI.DgM K bA "state" "Book.state" (iD 64 12) ["self", "name"])(B:Bl mg)(O:HC_Entry K)(Z:HC_Book K)(Y:XI.HasM P w K mg base n bA "entry_of" ["self", "name"] (spD K jy)):XI.HasM P w K mg base (n+1) bA "state" ["self", "name"] (spD K fW):=by
 have sc:FnScope ["self", "name", "entry"] ["self", "name"] (aP (iD 64 12)):=fsc;exact XI.uE (fl:=[.A,.A,.A]) D Z.cl sc (by decide) (by decide) λf cdv A outer s H E X=>aV (sA (i:=2) sc.nd (mF (XI.v5 (ns:=bh) Y X (by decide) (vP 0) (dq (vP 1) dz))))
  (aU (bZ (fD rfl (dq (bY (dH (XI.eG (ns:=nsEntry) (k:=5) (vP 2) O.cl O.n_word rfl (by decide) rfl))) (dq (bY (dH (XI.eG (ns:=nsEntry) (k:=1) (vP 2) O.cl O.n_kind rfl (by decide) rfl))) (dq (bY (dH (XI.eG (ns:=nsEntry) (k:=2) (vP 2) O.cl O.n_first rfl (by decide) rfl))) (dq (bY (dH (XI.eG (ns:=nsEntry) (k:=3) (vP 2) O.cl O.n_behind rfl (by decide) rfl))) (dq (bY (dH (XI.eG (ns:=nsEntry) (k:=4) (vP 2) O.cl O.n_chance rfl (by decide) rfl))) dz))))))))
theorem Bc(D:XI.DgM K bA "house" "Book.house" (iD 64 14) ["self"])(B:Bl mg)(Z:HC_House K)(Y:HC_Book K)(O:XI.HasM P w K mg base n gJ "names" ["self"] (spD K kJ)):XI.HasM P w K mg base (n+1) bA "house" ["self"] (spD K mq):=by
 have sc:FnScope ["self"] ["self"] (aP (iD 64 14)):=fsc;exact XI.uE (fl:=[.A]) D Y.cl sc (by decide) (by decide) λf cdv A outer s H E X=>aU (bZ (bY (qJ (L:=[]) (fl':=[.A,.A]) rfl ["name"] ["self"] [0] (jL (mG (mF (XI.oO (ns:=j8) O X (by decide) (XI.eG (ns:=bh) (k:=3) (vP 0) Y.cl Y.n_inside rfl (by decide) rfl))))) (λ_ _ _ _ _=>gN' (i:=0) (show(["name", "self"]:List Str).Nodup by decide +kernel)) (λ_ _ _ _ _=>nT) (λ_ _ _ _ _=>XI.Qq))))
theorem Ep(D:XI.DgM K bA "line" "Book.line" (iD 64 15) ["self"])(B:Bl mg)(hEntry:HC_Entry K)(hBook:HC_Book K)(hwaiting:Has P w K mg base n "waiting" ["entries"] (spD K qd))(Z:XI.HasM P w K mg base n bA "all_entries" ["self"] (spD K eY))(Y:XI.HasM P w K mg base n bA "hindrance_of" ["self", "entry"] (spD K cT)):XI.HasM P w K mg base (n+1) bA "line" ["self"] (spD K nq):=by
 have sc:FnScope ["self", "rows", "entry", "told"] ["self"] (aP (iD 64 15)):=fsc;exact XI.uE (fl:=[.A,.O,.A,.A]) D hBook.cl sc (by decide) (by decide) λf cdv A outer s H E X=>aV (mU (i:=1) rfl sc.nd rfl (by first|exact Or.inl rfl|exact Or.inr rfl) (pF (kW dz)))
  (aV (jT (L:=[]) b9 rfl (jL (mG (mF (bR hwaiting X (dq (fQ (XI.oO (ns:=bh) Z X (by decide) (vP 0))) dz))))) (gN' (i:=2) sc.nd) (aV (sA (i:=3) sc.nd (mF (XI.v5 (ns:=bh) Y X (by decide) (vP 0) (dq (vP 2) dz))))
  (aU (n_ (i:=1) rfl (fD rfl (dq (dR (dH (XI.eG (ns:=nsEntry) (k:=0) (vP 2) hEntry.cl hEntry.n_name rfl (by decide) rfl))) (dq (dx (vB 3) iP) (dq (dx (vB 3) iP) (dq (dx (vB 3) iP) dz))))) rfl))))
  (aU (bZ (vI 1 (by decide)))))
theorem Ae(D:Dg K mg "_law_stands" (top 75) ["_law_book", "_law_taken", "_law_line", "_law_order", "_law_ladder", "_law_risk"])(B:Bl mg)(hBook:HC_Book K)(h_law_paper:Has P w K mg base n "_law_paper" ["_law_taken", "_law_new", "_law_ladder", "_law_risk"] (spD K cD))(O:XI.HasM P w K mg base n bA "tonight" ["self"] (spD K jX))(Z:XI.HasM P w K mg base n bA "names" ["self"] (spD K mj))(Y:XI.HasM P w K mg base n bA "state" ["self", "name"] (spD K fW))(mBook_house:XI.HasM P w K mg base n bA "house" ["self"] (spD K mq))(mBook_line:XI.HasM P w K mg base n bA "line" ["self"] (spD K nq)):Has P w K mg base (n+1) "_law_stands" ["_law_book", "_law_taken", "_law_line", "_law_order", "_law_ladder", "_law_risk"] (spD K i_):=by
 have sc:FnScope ["_law_book", "_law_taken", "_law_line", "_law_order", "_law_ladder", "_law_risk", "_law_word", "_law_some", "_law_one", "_law_due", "_law_found"] ["_law_book", "_law_taken", "_law_line", "_law_order", "_law_ladder", "_law_risk"] (aP (top 75)):=fsc;exact fH (fl:=[.A,.A,.A,.A,.A,.A,.A,.A,.A,.A,.A]) D sc (by decide) (by decide) λf cdv A outer s H E X=>aV (jT (L:=[]) b9 rfl (jL (mG (ur (vM (dq (fD rfl (dq (dR (mL)) (dq (vA 1) dz))) (dq (fD rfl (dq (dR (mL)) (dq (vA 2) dz))) dz)))))) (wU rfl (jx (gN' (i:=6) sc.nd) (jx (gN' (i:=7) sc.nd) (tE)))) (aU (jT (L:=[]) b9 rfl (jL (vB 7)) (gN' (i:=8) sc.nd) (aU (jc (fB (wM X.units) Ma (fQ (XI.v5 (ns:=bh) Y X (by decide) (vP 0) (dq (cG (dx (vB 8) iP)) dz))) (aW (XI.Kz (cG (fD rfl (dq (vA 6) dz))) (aW (QD (vP 8) (nW iP) nU)))) (dh _)) (aU (bZ (bY (zA)))) (dY))))))
  (aV (pX (i:=9) (L:=[]) (fl':=[.A,.A,.A,.A]) rfl sc.nd rfl rfl rfl ["_law_one"] ["_law_taken", "_law_ladder", "_law_risk"] [1,4,5] (jL (vB 2)) (λ_ _ _ _ _=>gN' (i:=0) (show(["_law_one", "_law_taken", "_law_ladder", "_law_risk"]:List Str).Nodup by decide +kernel)) (λ_ _ _ _ _=>nT) (λ_ _ _ _ _=>gP (XI.Kz (cG (fD rfl (dq (dx (vB 0) iP) dz))) (fQ (bR h_law_paper X (dq (vP 1) (dq (vP 0) (dq (vP 2) (dq (vP 3) dz)))))))))
  (aV (sA (i:=10) sc.nd (mF (XI.oO (ns:=bh) mBook_line X (by decide) (vP 0))))
  (aV (jc (yj (ux (j_ (jR (aW (uP (T := "list") (by decide) (vP 10) (by rfl) B.isinstance_ (by rfl) B.list_ ey)))) (ux (fB (wM X.units) Ma (vP 10) (vP 9) (dh _)) (ux (fB (wM X.units) Ma (fQ (XI.oO (ns:=bh) Z X (by decide) (vP 0))) (vP 3) (dh _)) (sE (fB (wM X.units) Ma (fQ (XI.oO (ns:=bh) mBook_house X (by decide) (vP 0))) (aW (kW dz)) (dh _))))))) (aU (bZ (bY (zA)))) (dY))
  (aU (bZ (bY (mO (aW (oK (lJ X.units) vL (XI.eG (ns:=bh) (k:=0) (vP 0) hBook.cl hBook.n_ladder rfl (by decide) rfl) (vP 4) (dh _))) (mO (aW (oK (lJ X.units) vL (XI.eG (ns:=bh) (k:=1) (vP 0) hBook.cl hBook.n_risk rfl (by decide) rfl) (vP 5) (dh _))) (pG (oK (lJ X.units) vL (fQ (XI.oO (ns:=bh) O X (by decide) (vP 0))) iP (dh _)))))))))))
theorem Zo{f:Addr}{fd:ca}(Fn:FunD K "law" (top 76) f fd)(B:Bl mg)(hBook:HC_Book K)(Z:Has P w K mg base n "_law_row" ["_law_script", "_law_at", "_law_many"] (spD K eX))(h_law_names:Has P w K mg base n "_law_names" ["_law_script", "_law_at"] (spD K jr))(h_law_chance:Has P w K mg base n "_law_chance" ["_law_xs"] (spD K eN))(h_law_paper:Has P w K mg base n "_law_paper" ["_law_taken", "_law_new", "_law_ladder", "_law_risk"] (spD K cD)){m0:Nat}(iBook:XI.HasI P w K mg base m0 "Book" bA ["self", "ladder", "risk"] (XI.spI K bA bh lu))(hmn:m0+1<=n)(Y:XI.HasMD P w K mg base n bA "wish" ["self", "name", "kind", "first", "behind", "chance"] (XI.spW K [0] d9))(h_law_stands:Has P w K mg base n "_law_stands" ["_law_book", "_law_taken", "_law_line", "_law_order", "_law_ladder", "_law_risk"] (spD K i_)):FnOk P w K mg base CX0 (n+1) f fd ["_law_script"] (spD K Rp):=by
 have sc:FnScope ["_law_script", "_law_xs", "_law_ladder", "_law_risk", "_law_names_here", "_law_handed", "_law_book", "_law_taken", "_law_line", "_law_k", "_law_ys", "_law_first", "_law_new", "_law_told", "_law_due"] ["_law_script"] (aP (top 76)):=fsc;exact Px (fl:=[.A,.A,.A,.A,.A,.O,.N,.O,.O,.A,.A,.A,.A,.A,.A]) Fn sc (by decide) (by decide) λf cdv A outer s H E X=>aV (sA (i:=1) sc.nd (mF (bR Z X (dq (vP 0) (dq iP (dq iP dz))))))
  (aV (pX (i:=2) (L:=[]) (fl':=[.A,.A]) rfl sc.nd rfl rfl rfl ["_law_k"] ["_law_xs"] [1] (j4 (by rfl) B.range_ (rC (dq (aW (bU fY ji iP (aW (bU fu jK (cG (dx (vB 1) iP)) iP)))) dz))) (λ_ _ _ _ _=>gN' (i:=0) (show(["_law_k", "_law_xs"]:List Str).Nodup by decide +kernel)) (λ_ _ _ _ _=>nT) (λ_ _ _ _ _=>gP (bU fu jK (cG (dx (vB 1) (aW (bU fY ji iP (vP 0))))) iP)))
  (aV (sA (i:=3) sc.nd (dx (mG (dR (kW (dq (fD rfl (dq iC (dq iC dz))) (dq (fD rfl (dq iC (dq iC dz))) (dq (fD rfl (dq iC (dq iC dz))) (dq (fD rfl (dq iC (dq iC dz))) (dq (fD rfl (dq iC (dq iC dz))) (dq (fD rfl (dq iC (dq (gP (bU Hj Pa iP iP)) dz))) (dq (fD rfl (dq iC (dq iC dz))) (dq (fD rfl (dq iC (dq iC dz))) dz))))))))))) (aW (bU fu jK (cG (dx (vB 1) iP)) iP))))
  (aV (sA (i:=4) sc.nd (mF (bR h_law_names X (dq (vP 0) (dq iP dz)))))
  (aV (mU (i:=5) rfl sc.nd rfl (by first|exact Or.inl rfl|exact Or.inr rfl) (CT (vB 2) (by rfl) B.list_))
  (aV (T7 (i:=6) rfl sc.nd rfl (by first|exact Or.inl rfl|exact Or.inr rfl) (XI.Ks (ns:=bh) iBook (X.mono hmn) (dq (Br (su 5)) (dq (vP 3) dz))))
  (aV (n_ (i:=5) rfl (dR (sy)) rfl)
  (aV (mU (i:=7) rfl sc.nd rfl (by first|exact Or.inl rfl|exact Or.inr rfl) (pF (kW dz)))
  (aV (mU (i:=8) rfl sc.nd rfl (by first|exact Or.inl rfl|exact Or.inr rfl) (pF (kW dz)))
  (aV (jT (L:=[]) b9 rfl (j4 (by rfl) B.range_ (rC (dq (aW (fV (Lp rfl) Xo (by rfl) B.max_ PyProof.Rows.boot_max (dq iP (dq (aW (fV (Lq rfl) Xp (by rfl) B.min_ PyProof.Rows.boot_min (dq iP (dq (aW (bU yQ Fx (aW (fV eO rE (by rfl) B.len_ PySem.boot_len (dq (vP 0) dz))) iP)) dz)))) dz)))) dz))) (gN' (i:=9) sc.nd) (aV (sA (i:=10) sc.nd (mF (bR Z X (dq (vP 0) (dq (aW (bU fY ji iP (vP 9))) (dq iP dz))))))
  (aV (sA (i:=11) sc.nd (dR (bU fu jK (cG (dx (vB 10) iP)) iP)))
  (aV (sA (i:=12) sc.nd (fD rfl (dq (dx (vB 4) (vP 9)) (dq (dR (bU fY ji iP (aW (bU fu jK (cG (dx (vB 10) iP)) (aW (fV eO rE (by rfl) B.len_ PySem.boot_len (dq (vP 2) dz))))))) (dq (vA 11) (dq (dR (bU fY ji (aW (bU fY ji (vP 11) iP)) (aW (bU fu jK (cG (dx (vB 10) iP)) iP)))) (dq (mF (bR h_law_chance X (dq (JX (J3 (vB 10) (nW iP) nU)) dz))) dz)))))))
  (aV (jc (yj (zG (fB (lJ X.units) vL (cG (dx (vB 12) iP)) (fQ (fD rfl (dq iC (dq iC dz)))) (dh _)) (yG (fB (lJ X.units) vL (aW (bU fu jK (cG (dx (vB 10) iP)) iP)) iP (dh _))))) (aU (XI.Kl (i:=13) rfl sc.nd rfl (by first|exact Or.inl rfl|exact Or.inr rfl) (XI.Mw (ns:=bh) (sw:=[6]) Y X rfl rfl (by decide) (XI.lR (dx (vB 4) (vP 9)) (XI.lR (dx (vB 12) iP) (XI.lR (vA 11) (XI.lR (dx (vB 12) iP) (XI.Dh))))) (XI.Iu rfl)))) (aU (XI.Kl (i:=13) rfl sc.nd rfl (by first|exact Or.inl rfl|exact Or.inr rfl) (XI.Gj (ns:=bh) (sw:=[6]) Y.has X rfl rfl (by decide) (XI.lR (dx (vB 4) (vP 9)) (XI.lR (dx (vB 12) iP) (XI.lR (vA 11) (XI.lR (dx (vB 12) iP) (XI.lR (dx (vB 12) iP) (XI.Dh)))))) (XI.Iu rfl)))))
  (aV (sA (i:=14) sc.nd (dR (Xn (fQ (bR h_law_paper X (dq (Br (su 7)) (dq (vP 12) (dq (vP 2) (dq (vP 3) dz)))))))))
  (aV (jc (yj (ux (j_ (jR (aW (uP (T := "bool") (by decide) (vP 13) (by rfl) B.isinstance_ (by rfl) B.bool_ ez)))) (sE (fB (wM X.units) Ma (vP 13) (vP 14) (dh _))))) (aU (bZ (bY (zA)))) (dY))
  (aV (jc (jR (vP 14)) (aU (n_ (i:=7) rfl (vA 12) rfl)) (aU (n_ (i:=8) rfl (vA 12) rfl)))
  (aU (jc (j_ (jR (fQ (bR h_law_stands X (dq (yH 6 rfl) (dq (Br (su 7)) (dq (Br (su 8)) (dq (JX (J3 (vB 4) nU (nW (aW (bU fY ji (vP 9) iP))))) (dq (vP 2) (dq (vP 3) dz)))))))))) (aU (bZ (bY (zA)))) (dY)))))))))))
  (aU (bZ (bY (zA)))))))))))))
end
end K81
namespace D3
theorem len0{p:List PySem.Value->Prop}(h:p []):∀us,us.length=0->p us:=λus hl=>by
 cases us with
 |nil=>exact h
 |cons _ _=>cases hl
theorem Nz{n:Nat}{p:List PySem.Value->Prop}(h:∀a us,us.length=n->p (a::us)):∀us,us.length=n+1->p us:=λus hl=>by
 cases us with
 |nil=>cases hl
 |cons a r=>exact h a r (rQ.inj hl)
theorem ah4{n:Nat}{p:List PySem.Value->Prop}(h:∀us,us.length=n->p us):∀us,(us++[PySem.Value.none]).length=n+1->p us:=λus hl=>h us (by rw[bH]at hl;exact rQ.inj hl)
theorem ah5{K:PySem.W.Frag}{a:PySem.Addr}{o:PySem.Obj}{i j:Int}{t u:PySem.Tok}{n:Nat}(l:K.lookup a=some o)(hc:o.cls = .type "tuple")(hd:o.data = .seq #[.int i t,.int j u] n):KT K a ([i,j].map L2.V.int):=⟨o,_,n,l,hc,hd,(show 2<=PySem.sizeLine by decide),.cons (show ∃t,_=_ from⟨t,rfl⟩) (.cons (show ∃t,_=_ from⟨u,rfl⟩) .nil)⟩
theorem VH{K:PySem.W.Frag}{h:PySem.Heap}{mg:PySem.Str->Option PySem.Value}{x:PySem.Str}{a:PySem.Addr}{o:PySem.Obj}{i j:Int}{t u:PySem.Tok}{n:Nat}(X:K.In h)(G:h.Ns PySem.mainGlobals mg)(z:PySem.W.nsIn K PySem.mainGlobals x=some (some (.ref a)))(l:K.lookup a=some o)(hc:o.cls = .type "tuple")(hd:o.data = .seq #[.int i t,.int j u] n):∃a,mg x=some (.ref a)/\KT K a ([i,j].map L2.V.int):=⟨a,PySem.W.mg_of X G z,ah5 l hc hd⟩
end D3
namespace XI
open L2 My D3
variable{P:bP}{w:b8}{K:PySem.W.Frag}{mg:Str->Option Value}{base:cc}{n k:Nat}{C:Addr}{m:Str}{ps:List Str}{sp:Sp}{fld:Addr->Str}
theorem HasM.mono(h:HasM P w K mg base k C m ps sp)(l:k<=n):HasM P w K mg base n C m ps sp:=by
 obtain⟨⟨f,fd,F,b,M⟩,c⟩:=h;exact⟨⟨f,fd,F.mono l,b,M⟩,c⟩
theorem HasMX.mono(h:HasMX P w K mg base fld k C m ps sp)(l:k<=n):HasMX P w K mg base fld n C m ps sp:=by
 obtain⟨⟨f,fd,F,b,M⟩,c⟩:=h;exact⟨⟨f,fd,F.mono l,b,M⟩,c⟩
theorem Zq{h:cc}{f:Addr}{oc kV Y pm O ct:Value}{od an:Option Addr}{sl:Array (Option Value)}{c x:Str}{st:cm}(X:K.In h)(G:h.Ns mainGlobals mg)
 (hb:∀(kV doc pm:Value)(an:Option Addr)(cdv ct:Value)(us:List Value),us.length=ps.length->bindArgs (PySem.W.fnOf "__init__" x (iQ st) (dJ st) (aP st) .none kV doc pm an cdv ct) ⟨us,[]⟩=pure (ps.zip us))
 (mk:PySem.W.makesIn K C=true) (a:PySem.W.findIn K (.ref C) "__init__"=some (some (.ref f))) (l:K.lookup f=some ⟨oc,od,.func (PySem.W.fnOf "__init__" x (iQ st) (dJ st) (aP st) .none kV Y pm an O ct),sl⟩) (Z:PySem.W.codeIn K O x=true) (fn:PySem.W.isFn K (.ref f)=true) (k:PySem.W.keepIn K (.ref C)=true)
 (g:PySem.W.nsIn K mainGlobals c=some (some (.ref C))):DgI K mg c C x st ps:=
 ⟨⟨f,_,⟨⟨oc,od,.none,kV,Y,pm,an,O,ct,sl,rfl,l,Z⟩⟩,.all (hb kV Y pm an O ct),⟨mk,a,fn,k⟩⟩,PySem.W.mg_of X G g⟩
end XI
namespace K81
open L2 My D3
structure Txt(K:PySem.W.Frag)(mg:Str->Option Value):Prop where
 d_is_whole:Dg K mg "is_whole" (top 15) ["thing"]
 d_is_whole_within:Dg K mg "is_whole_within" (top 16) ["thing", "least", "most"]
 d_all_whole:Dg K mg "all_whole" (top 17) ["things"]
 d_is_tuple_of:Dg K mg "is_tuple_of" (top 18) ["thing", "many"]
 d_is_pair:Dg K mg "is_pair" (top 19) ["thing"]
 d_is_whole_list:Dg K mg "is_whole_list" (top 20) ["thing"]
 d_greatest_divisor:Dg K mg "greatest_divisor" (top 22) ["one", "other"]
 d_lowest:Dg K mg "lowest" (top 23) ["top", "bottom"]
 d_ratio:Dg K mg "ratio" (top 24) ["top", "bottom"]
 d_is_ratio:Dg K mg "is_ratio" (top 25) ["thing"]
 d_is_chance:Dg K mg "is_chance" (top 26) ["thing"]
 d_under:Dg K mg "under" (top 27) ["one", "other"]
 d_is_stretch:Dg K mg "is_stretch" (top 30) ["thing"]
 d_nights_of:Dg K mg "nights_of" (top 31) ["stay"]
 d_holds:Dg K mg "holds" (top 32) ["stretch", "night"]
 d_with_row:Dg K mg "with_row" (top 34) ["weights", "many", "chance"]
 d_all_weights:Dg K mg "all_weights" (top 35) ["rows"]
 d_common_bottom:Dg K mg "common_bottom" (top 36) ["rows"]
 d_comers_above:Dg K mg "comers_above" (top 37) ["rows", "rooms"]
 d_is_ladder:Dg K mg "is_ladder" (top 41) ["thing"]
 d_rooms_from:Dg K mg "rooms_from" (top 42) ["ladder", "kind"]
 d_chance_at:Dg K mg "chance_at" (top 43) ["stays", "night", "kind", "ladder"]
 d_nights_to_look_at:Dg K mg "nights_to_look_at" (top 44) ["stays", "new"]
 d_tight:Dg K mg "tight" (top 45) ["stays", "new", "ladder", "risk"]
 d_is_name:Dg K mg "is_name" (top 48) ["thing"]
 d_is_chance_to:Dg K mg "is_chance_to" (top 62) ["thing", "most"]
 d_kinds_of_rooms:Dg K mg "kinds_of_rooms" (top 63) ["ladder"]
 d__law_cell:Dg K mg "_law_cell" (top 66) ["_law_script", "_law_at"]
 d__law_part:Dg K mg "_law_part" (top 67) ["_law_script", "_law_at", "_law_k", "_law_many"]
 d__law_row:Dg K mg "_law_row" (top 68) ["_law_script", "_law_at", "_law_many"]
 d__law_lowest:Dg K mg "_law_lowest" (top 70) ["_law_top", "_law_bottom"]
 d__law_names:Dg K mg "_law_names" (top 71) ["_law_script", "_law_at"]
 d__law_chance:Dg K mg "_law_chance" (top 72) ["_law_xs"]
 d__law_over:Dg K mg "_law_over" (top 73) ["_law_chances", "_law_rooms"]
 d__law_paper:Dg K mg "_law_paper" (top 74) ["_law_taken", "_law_new", "_law_ladder", "_law_risk"]
 d_House_init:XI.DgI K mg "House" gJ "House.__init__" (iD 49 0) ["self", "rooms"]
 d_House_names:XI.DgM K gJ "names" "House.names" (iD 49 7) ["self"]
 d_Entry_init:XI.DgI K mg "Entry" cP "Entry.__init__" (iD 52 0) ["self", "name", "kind", "first", "behind", "chance"]
 d_Book_init:XI.DgI K mg "Book" bA "Book.__init__" (iD 64 0) ["self", "ladder", "risk"]
 d_stay_by:Dg K mg "stay_by" (top 53) ["entry", "chance"]
 d_stays_held:Dg K mg "stays_held" (top 54) ["entries"]
 d_hindrance:Dg K mg "hindrance" (top 55) ["entry", "entries", "ladder", "risk"]
 d_waiting:Dg K mg "waiting" (top 56) ["entries"]
 d_Book_all_entries:XI.DgM K bA "all_entries" "Book.all_entries" (iD 64 18) ["self"]
 d_Book_hindrance_of:XI.DgM K bA "hindrance_of" "Book.hindrance_of" (iD 64 23) ["self", "entry"]
 d_Book_note:XI.DgM K bA "note" "Book.note" (iD 64 17) ["self", "word", "name"]
 d_Book_check_wish:XI.DgM K bA "check_wish" "Book.check_wish" (iD 64 2) ["self", "name", "kind", "first", "behind", "chance"]
 d_Book_wish:XI.DgMD K bA "wish" "Book.wish" (iD 64 1) ["self", "name", "kind", "first", "behind", "chance"]
 d_Book_tonight:XI.DgM K bA "tonight" "Book.tonight" (iD 64 10) ["self"]
 d_Book_names:XI.DgM K bA "names" "Book.names" (iD 64 11) ["self"]
 d_Book_entry_of:XI.DgM K bA "entry_of" "Book.entry_of" (iD 64 20) ["self", "name"]
 d_Book_state:XI.DgM K bA "state" "Book.state" (iD 64 12) ["self", "name"]
 d_Book_house:XI.DgM K bA "house" "Book.house" (iD 64 14) ["self"]
 d_Book_line:XI.DgM K bA "line" "Book.line" (iD 64 15) ["self"]
 d__law_stands:Dg K mg "_law_stands" (top 75) ["_law_book", "_law_taken", "_law_line", "_law_order", "_law_ladder", "_law_risk"]
 d_law:Dl K mg "law" "_law_script" (top 76)
 c_Book:HC_Book K
 c_Entry:HC_Entry K
 c_House:HC_House K
 g_NIGHTS:∃t,mg "NIGHTS"=some (.int 400 t)
 g_MOST_KINDS:∃t,mg "MOST_KINDS"=some (.int 4 t)
 g_MOST_ROOMS:∃t,mg "MOST_ROOMS"=some (.int 12 t)
 g_MOST_SIGNS:∃t,mg "MOST_SIGNS"=some (.int 8 t)
 g_MOST_BOTTOM_OF_A_RISK:∃t,mg "MOST_BOTTOM_OF_A_RISK"=some (.int 1000000000 t)
 g_SURE:∃a,mg "SURE"=some (.ref a)/\KT K a ([1,1].map V.int)
 g_MOST_IN_THE_BOOK:∃t,mg "MOST_IN_THE_BOOK"=some (.int 16 t)
 g_MOST_BOTTOM_OF_A_CHANCE:∃t,mg "MOST_BOTTOM_OF_A_CHANCE"=some (.int 100 t)
 blt:Bl mg
theorem Zr{P:bP}{w:b8}{K:PySem.W.Frag}{mg:Str->Option Value}{base:cc}(T:Txt K mg){f:Addr}{fd:ca}(F:FunD K "law" (top 76) f fd):FnOk P w K mg base CX0 65 f fd ["_law_script"] (Py K):=by
 have S:=G5 (P:=P) (w:=w) (base:=base) (n:=0) T.d_is_whole T.blt;have O:=u_ (P:=P) (w:=w) (base:=base) (n:=1) T.d_is_whole_within T.blt (S.mono (by decide));have L:=Eb (P:=P) (w:=w) (base:=base) (n:=1) T.d_all_whole T.blt (S.mono (by decide));have B:=z_ (P:=P) (w:=w) (base:=base) (n:=2) T.d_is_tuple_of T.blt (L.mono (by decide));have A:=Jw (P:=P) (w:=w) (base:=base) (n:=3) T.d_is_pair T.blt (B.mono (by decide));have J:=xH (P:=P) (w:=w) (base:=base) (n:=2) T.d_is_whole_list T.blt (L.mono (by decide));have Y:=uf (P:=P) (w:=w) (base:=base) (n:=0) T.d_greatest_divisor T.blt;have h_lowest:=Ny (P:=P) (w:=w) (base:=base) (n:=1) T.d_lowest T.blt (Y.mono (by decide));have h_ratio:=R7 (P:=P) (w:=w) (base:=base) (n:=2) T.d_ratio T.blt (S.mono (by decide)) (h_lowest.mono (by decide));have h_is_ratio:=G6 (P:=P) (w:=w) (base:=base) (n:=4) T.d_is_ratio T.blt (A.mono (by decide)) (Y.mono (by decide));have h:=Ec (P:=P) (w:=w) (base:=base) (n:=5) T.d_is_chance T.blt (h_is_ratio.mono (by decide));have h_under:=R8 (P:=P) (w:=w) (base:=base) (n:=0) T.d_under T.blt;have r:=Ar (P:=P) (w:=w) (base:=base) (n:=4) T.d_is_stretch T.blt (A.mono (by decide)) T.g_NIGHTS;have j:=Ed (P:=P) (w:=w) (base:=base) (n:=0) T.d_nights_of T.blt;have h_holds:=R9 (P:=P) (w:=w) (base:=base) (n:=0) T.d_holds T.blt;have h_with_row:=G7 (P:=P) (w:=w) (base:=base) (n:=0) T.d_with_row T.blt;have y:=Aa (P:=P) (w:=w) (base:=base) (n:=1) T.d_all_weights T.blt (h_with_row.mono (by decide));have I:=xJ (P:=P) (w:=w) (base:=base) (n:=0) T.d_common_bottom T.blt;have E:=yt (P:=P) (w:=w) (base:=base) (n:=3) T.d_comers_above T.blt (h_ratio.mono (by decide)) (y.mono (by decide)) (I.mono (by decide));have i:=Ef (P:=P) (w:=w) (base:=base) (n:=3) T.d_is_ladder T.blt (J.mono (by decide)) T.g_MOST_KINDS T.g_MOST_ROOMS;have s:=Av (P:=P) (w:=w) (base:=base) (n:=0) T.d_rooms_from T.blt;have e:=Eh (P:=P) (w:=w) (base:=base) (n:=4) T.d_chance_at T.blt (j.mono (by decide)) (h_holds.mono (by decide)) (E.mono (by decide)) (s.mono (by decide));have U:=sZ (P:=P) (w:=w) (base:=base) (n:=0) T.d_nights_to_look_at T.blt;have h_tight:=R_ (P:=P) (w:=w) (base:=base) (n:=5) T.d_tight T.blt (h_under.mono (by decide)) (e.mono (by decide)) (U.mono (by decide));have z:=Jx (P:=P) (w:=w) (base:=base) (n:=0) T.d_is_name T.blt T.g_MOST_SIGNS;have V:=yu (P:=P) (w:=w) (base:=base) (n:=6) T.d_is_chance_to T.blt (h.mono (by decide));have M:=wG (P:=P) (w:=w) (base:=base) (n:=0) T.d_kinds_of_rooms T.blt;have b:=Ei (P:=P) (w:=w) (base:=base) (n:=0) T.d__law_cell T.blt;have d:=Ej (P:=P) (w:=w) (base:=base) (n:=1) T.d__law_part T.blt (b.mono (by decide));have G:=G8 (P:=P) (w:=w) (base:=base) (n:=2) T.d__law_row T.blt (d.mono (by decide));have R:=Ab (P:=P) (w:=w) (base:=base) (n:=0) T.d__law_lowest T.blt;have q:=Aw (P:=P) (w:=w) (base:=base) (n:=3) T.d__law_names T.blt (G.mono (by decide));have v:=Ac (P:=P) (w:=w) (base:=base) (n:=1) T.d__law_chance T.blt (R.mono (by decide));have c:=Ek (P:=P) (w:=w) (base:=base) (n:=0) T.d__law_over T.blt;have Q:=Ax (P:=P) (w:=w) (base:=base) (n:=1) T.d__law_paper T.blt (R.mono (by decide)) (c.mono (by decide));have p:=Ay (P:=P) (w:=w) (base:=base) (n:=0) T.d_House_init T.blt T.c_House T.c_Entry T.c_Book;have u:=Ad (P:=P) (w:=w) (base:=base) (n:=0) T.d_House_names T.blt T.c_House;have o:=Az (P:=P) (w:=w) (base:=base) (n:=0) T.d_Entry_init T.blt T.c_House T.c_Entry T.c_Book;have h_Book_init:=El (P:=P) (w:=w) (base:=base) (n:=7) T.d_Book_init T.blt T.c_House T.c_Entry T.c_Book (i.mono (by decide)) (V.mono (by decide)) (M.mono (by decide)) T.g_MOST_BOTTOM_OF_A_RISK p (by decide);have C:=Jy (P:=P) (w:=w) (base:=base) (n:=0) T.d_stay_by T.blt T.c_Entry;have t:=A_ (P:=P) (w:=w) (base:=base) (n:=1) T.d_stays_held T.blt T.c_Entry T.g_SURE (C.mono (by decide));have g:=Em (P:=P) (w:=w) (base:=base) (n:=6) T.d_hindrance T.blt T.c_Entry (h_tight.mono (by decide)) (C.mono (by decide)) (t.mono (by decide));have h_waiting:=Jz (P:=P) (w:=w) (base:=base) (n:=0) T.d_waiting T.blt T.c_Entry;have X:=ug (P:=P) (w:=w) (base:=base) (n:=0) T.d_Book_all_entries T.blt T.c_Book;have Z:=tu (P:=P) (w:=w) (base:=base) (n:=7) T.d_Book_hindrance_of T.blt T.c_Book (g.mono (by decide)) (X.mono (by decide));have h_Book_note:=En (P:=P) (w:=w) (base:=base) (n:=0) T.d_Book_note T.blt T.c_Book;have N:=vd (P:=P) (w:=w) (base:=base) (n:=7) T.d_Book_check_wish T.blt T.c_Book (O.mono (by decide)) (r.mono (by decide)) (z.mono (by decide)) (V.mono (by decide)) T.g_MOST_IN_THE_BOOK T.g_MOST_BOTTOM_OF_A_CHANCE;have a:=Eo (P:=P) (w:=w) (base:=base) (n:=8) T.d_Book_wish T.blt T.c_Entry T.c_Book T.g_SURE o (by decide) (Z.mono (by decide)) (h_Book_note.mono (by decide)) (N.mono (by decide));have D:=yw (P:=P) (w:=w) (base:=base) (n:=0) T.d_Book_tonight T.blt T.c_Book;have l:=Ba (P:=P) (w:=w) (base:=base) (n:=0) T.d_Book_names T.blt T.c_Book;have H:=xK (P:=P) (w:=w) (base:=base) (n:=1) T.d_Book_entry_of T.blt T.c_Book (z.mono (by decide));have m:=Bb (P:=P) (w:=w) (base:=base) (n:=2) T.d_Book_state T.blt T.c_Entry T.c_Book (H.mono (by decide));have k:=Bc (P:=P) (w:=w) (base:=base) (n:=1) T.d_Book_house T.blt T.c_House T.c_Book (u.mono (by decide));have h_Book_line:=Ep (P:=P) (w:=w) (base:=base) (n:=8) T.d_Book_line T.blt T.c_Entry T.c_Book (h_waiting.mono (by decide)) (X.mono (by decide)) (Z.mono (by decide));have x:=Ae (P:=P) (w:=w) (base:=base) (n:=9) T.d__law_stands T.blt T.c_Book (Q.mono (by decide)) (D.mono (by decide)) (l.mono (by decide)) (m.mono (by decide)) (k.mono (by decide)) (h_Book_line.mono (by decide));exact((Zo (P:=P) (w:=w) (base:=base) (n:=10) F T.blt T.c_Book (G.mono (by decide)) (q.mono (by decide)) (v.mono (by decide)) (Q.mono (by decide)) h_Book_init (by decide) (a.mono (by decide)) (x.mono (by decide))).mono (by decide)).imp (T6 K81.R6)
end K81
namespace PySem.W.Fast
def tw14562785340097940297:=0
def tw11979441076607823075:=0
def tw4470723965336489094:=0
def tw15146490012904560718:=0
def tw12327573533476645656:=0
def tw11853937624299473813:=0
def tw3541488559696620979:=0
def tw13679875664717466828:=0
def tw5079970793468131621:=0
def tw17054596039022943233:=0
def tw16266749903681230197:=0
def tw10115216204415931888:=0
def tw6371885035700711422:=0
def tw14980742347049873645:=0
def tw9027081760405450936:=0
def tw5411430997319366891:=0
def tw16933198054187694179:=0
def tw15199840500705757783:=0
def tw2872177902137784735:=0
def tw1533388766952170076:=0
def tw11214938527528395348:=0
def tw15632522408761834470:=0
def tw14811151355012303960:=0
def tw4300549739722121590:=0
def tw15872259394612491734:=0
def tw3351222077975870847:=0
def tw13901057560952963442:=0
def tw10217154457921719527:=0
def tw14933233543464366062:=0
def tw15849456996237485461:=0
def tw13879677386073075373:=0
def tw1873671713464232786:=0
def tw9006378568012055419:=0
def tw17778249906346286456:=0
def tw16793116541469260469:=0
def tw5369452498100077790:=0
def tw10986808295191905575:=0
def tw2286244469384002582:=0
def tw9864676210710596815:=0
def tw13633308221803086598:=0
def tw6295098994691353824:=0
def tw5520754823937428568:=0
def tw9197971167181920053:=0
def tw8440191453158463561:=0
def tw12398211833861751756:=0
def tw6622776085171115694:=0
def tw10106077890778418784:=0
def tw5479882107725605224:=0
def tw14657256871109257274:=0
def tw14195023884136778142:=0
def tw10933092847297702972:=0
def tw12310238144777610633:=0
def tw15861812158095616150:=0
def tw232428657384463020:=0
def tw4160282395221778859:=0
def tw16449498910497466111:=0
def tw7295337210280173227:=0
def tw10379570033037119151:=0
def tw4255417255601522611:=0
def tw10061509971828579700:=0
def tw21565005514707751:=0
def tw8959617654575293031:=0
def tw6196139885266610139:=0
def tw5778655961856771018:=0
def tw9261357816085528248:=0
def tw8537448782772434604:=0
def tw17604111133606640623:=0
def tw8696580302232623802:=0
def tw8067699410027472296:=0
def tw12993413840422936211:=0
def tw16750739580244898789:=0
def tw893857358494081230:=0
def tw11190163886397766570:=0
def tw5423765309009265499:=0
def tw9061795843590304429:=0
def tw617344515603010036:=0
def tw11385654815011416741:=0
def tw5211286016521551070:=0
def tw14240307173522194407:=0
def tw14950925003463459029:=0
def tw8762788364654373790:=0
def tw12335089326723950841:=0
def tw13014412858009602797:=0
def tw10664986208749606543:=0
def tw18114052168229063661:=0
def tw9045041811828591342:=0
def tw17477326459505941904:=0
def tw3544354285537085358:=0
def tw2724329964322882740:=0
def tw6800591994673273608:=0
def tw10845043699158250731:=0
def tw12511578925923150197:=0
def tw16285487054641863175:=0
def tw15619147008968534279:=0
def tw7067394670821330614:=0
def tw11719472727196918255:=0
def tw8982377976274083882:=0
def tw5886427930335831188:=0
def tw2214281035846418444:=0
def tw16373504159324383735:=0
def tw2060524669276331106:=0
def tw18093747474602078795:=0
def tw13324923409790744971:=0
def tw15064215262108963967:=0
def tw3861802371096861786:=0
def tw8661821380179883779:=0
def tw5426339371022802457:=0
def tw12283413456584879562:=0
def tw623337927100962391:=0
def tw4823699762257082078:=0
def tw8219659184785771717:=0
def tw3329813704527905428:=0
def tw12290790298121277303:=0
def tw3142187777181425935:=0
def tw9097421870844850410:=0
def tw15668216880093207659:=0
def tw549702730019585154:=0
def tw5075475335779014720:=0
def tw13211573451906186753:=0
def tw12711849194136582407:=0
def tw3648605933541081567:=0
def tw15569661362200643794:=0
def tw10061520891080803493:=0
def tw9769854669857271459:=0
def tw2327172930556684381:=0
def tw6776072037216787723:=0
def tw11718882709945935125:=0
def tw6010390527399489689:=0
def tw7012213360920962839:=0
def tw3132275543079905768:=0
def tw2418755248188606395:=0
def tw666337200079851461:=0
def tw10205343338889531833:=0
def tw4372271300437494679:=0
def tw15554150300250817065:=0
def tw10268948722110080102:=0
def tw2371325141774294363:=0
def tw7914523488189290860:=0
def tw17076613165448391675:=0
def tw16589935482356421285:=0
def tw9270668755326554862:=0
def tw3150883522271205481:=0
def tw15336444700476568085:=0
def tw13074058087205812739:=0
def tw8149033312958354610:=0
def tw3609226566152686867:=0
def tw15002045310605619431:=0
def tw7470911879574469124:=0
def tw10228897675770160231:=0
def tw4801165850823381923:=0
def tw16128250848716192673:=0
def tw9427703007316120799:=0
def tw15062813408419746606:=0
def tw347028857097928704:=0
def tw14191967845261857224:=0
def tw17535967599583573800:=0
def tw16125398289611869659:=0
def tw11754561910680662115:=0
def tw14191019243181204294:=0
def tw5768044772169677578:=0
def tw8934208407147389067:=0
def tw5774855966177797081:=0
def tw10026198664855510809:=0
def tw14196141517181926192:=0
def tw10746584264662444925:=0
def tw6861926296893219849:=0
def tw17588766871802996920:=0
def tw18076375069484007824:=0
def tw14666845999197890469:=0
def tw7086311891065313535:=0
def tw12446351534822305875:=0
def tw9728579371068793182:=0
def tw3798472288746121441:=0
def tw2073791375842500665:=0
def tw16956029044156104154:=0
def tw11288143473298559494:=0
def tw17825538203365696839:=0
def tw11211879108788822283:=0
def tw18301883013886830656:=0
def tw11342326748666415093:=0
def tw5555190860446219434:=0
def tw6485846889686497591:=0
def tw16530120795900201336:=0
def tw4882242066505056338:=0
def tw4960840369315526121:=0
def tw3016695395300857575:=0
def tw16048369411583816455:=0
def tw18276623311329970251:=0
def tw14584816527984601969:=0
def tw10973125677784031817:=0
def tw16726658371643884138:=0
def tw14562637904470381448:=0
def tw14226729970771669670:=0
def tw16601616936520765113:=0
def tw10674048933802554229:=0
def tw750186316017805300:=0
def tw13129216869011028683:=0
def tw9444412714745918984:=0
def tw6018597716174831816:=0
def tw5681679685941974357:=0
def tw8702946172433529807:=0
def tw16202362856545997110:=0
def tw7896022179066046960:=0
def tw8677821984558670693:=0
def tw10532583360341449953:=0
def tw13763123800349724949:=0
def tw5935925042037171010:=0
def tw14488281019181588794:=0
def tw4001451399773873660:=0
def tw6459085418449069128:=0
def tw11951235227745173479:=0
def tw16035079069416449349:=0
def tw9410475136903915153:=0
def tw16319856962123417045:=0
def tw15119603715927289338:=0
def tw4567993286357346337:=0
def tw2807171363362344111:=0
def tw8661460766444512512:=0
def tw9142265101794261375:=0
def tw18263825291100475913:=0
def tw12984668511673696992:=0
def tw6708155247407463776:=0
def tw15485219323999357494:=0
def tw17043682645112159586:=0
def tw18146086533922493400:=0
def tw4919493492516794659:=0
def tw11159953752296889194:=0
def tw2720410109356558360:=0
def tw4161038714782014048:=0
def tw15978914923844852707:=0
def tw16738159212165472861:=0
def tw2128466285630344166:=0
def tw17954309901970651389:=0
def tw11312724469203807260:=0
def tw10405819589844812353:=0
def tw17921854430137777289:=0
def tw17498887508899674101:=0
def tw11198494088623239183:=0
end PySem.W.Fast
open PySem PySem.W PyProof.Rows
set_option maxRecDepth 100000 in
set_option maxHeartbeats 0 in
theorem PySem.Challenge.cw_nightbook_k81_wishes_taken_holds : PySem.Challenge.rw_nightbook_k81_wishes_taken.Holds := by
 w_on;o_law;k_head;(case hw=>w_witness2)
 k_fill
 refine L2.O3 (l:=PySem.Challenge.rw_nightbook_k81_wishes_taken) (n:=63) (k:=65) (x := "_law_script") (CX:=L2.CX0) (sp:=D3.Py) rfl (by decide) rfl ⟨rfl,by decide,by decide⟩ (λw h Y=>PySem.W.kIn_of Y) ?F D3.tabs (λ_ _ _=>⟨(λ_ h=>nomatch (show _∈([]:List (Addr×Str×Pos))from h)),(λ_ h=>nomatch (show _∈([]:List (Addr×Str×Pos))from h)),(λ_ h=>nomatch (show _∈([]:List (Addr×Str×Pos))from h))⟩) (λ_ h=>nomatch (show _∈([]:List (Addr×Str×Pos))from h)) ?S ?C
 case F=>
  intro w mg fa h Z G X;have T:K81.Txt (L2.KOf Z) mg:=by
   constructor
   (case blt=>constructor<;>(refine' PySem.W.mg_none_of Z G ?z;(case z=>k_is)))
   all_goals try dsimp only[L2.KOf]
   case c_Book=>(refine'⟨⟨?q0_0,?q1_0,?q2_0,?q3_0⟩,?r0_0,?r1_0,?r2_0,?r3_0,?r4_0,?r5_0,?r6_0⟩<;>(first|kernel_rfl|(show PySem.W.findIn _ _ _=_;kernel_rfl)))
   case c_Entry=>(refine'⟨⟨?q0_1,?q1_1,?q2_1,?q3_1⟩,?r0_1,?r1_1,?r2_1,?r3_1,?r4_1,?r5_1⟩<;>(first|kernel_rfl|(show PySem.W.findIn _ _ _=_;kernel_rfl)))
   case c_House=>(refine'⟨⟨?q0_2,?q1_2,?q2_2,?q3_2⟩,?r0_2,?r1_2,?r2_2,?r3_2⟩<;>(first|kernel_rfl|(show PySem.W.findIn _ _ _=_;kernel_rfl)))
   all_goals first
    | (refine' D3.aa1 Z G ?b ?a ?l ?c ?k;(case a=>k_is);(case l=>k_is);(case c=>k_is);(case k=>k_is);(case b=>intro _ _ _ _ _ _;repeat(first|exact D3.len0 rfl|exact D3.len0 ⟨_,rfl,rfl⟩|refine D3.Nz λ_=>?_)))
    | (refine' D3.Xr Z G ?b ?a ?l ?c ?k ?t ?s;(case a=>k_is);(case l=>k_is);(case c=>k_is);(case k=>k_is);(case t=>k_is);(case s=>rfl);(case b=>intro _ _ _ _ _ _;repeat(first|exact D3.len0 rfl|exact D3.len0 ⟨_,rfl,rfl⟩|refine D3.Nz λ_=>?_)))
    | (refine' D3.aa2 Z G ?b ?a ?l ?c ?k;(case a=>k_is);(case l=>k_is);(case c=>k_is);(case k=>k_is);(case b=>exact λ_ _ _ _ _ _ u=>rfl))
    | (refine' XI.Yd ?b ?a ?l ?c ?f ?k;(case a=>k_is);(case l=>k_is);(case c=>k_is);(case k=>k_is);(case f=>k_is);(case b=>intro _ _ _ _ _ _;repeat(first|exact D3.len0 rfl|exact D3.len0 ⟨_,rfl,rfl⟩|refine D3.Nz λ_=>?_)))
    | (refine' XI.Zq Z G ?b ?mk ?a ?l ?c ?f ?k ?g;(case a=>k_is);(case l=>k_is);(case c=>k_is);(case k=>k_is);(case mk=>k_is);(case f=>k_is);(case g=>k_is);(case b=>intro _ _ _ _ _ _;repeat(first|exact D3.len0 rfl|exact D3.len0 ⟨_,rfl,rfl⟩|refine D3.Nz λ_=>?_)))
    | (refine' XC.Ub (XC.XH Z G ?a ?kp ?lC ?lI ?lN ?oN ?lNI ?oNI ?i1 ?i2 ?s1 ?s2 ?n1 ?n2 ?hB ?lk ?hcd ?sc ?l1 ?l2 ?hb ?ne ?nd ?nc) rfl (PySem.W.mg_of Z G ?m) ⟨⟨?e4,?e5,?e6⟩,?a2,?a3⟩;(case a=>k_is);(case kp=>k_is);(case lC=>k_is);(case lI=>k_is);(case lN=>k_is);(case lNI=>k_is);(case oN=>rfl);(case oNI=>rfl);(case i1=>k_is);(case i2=>k_is);(case s1=>k_is);(case s2=>k_is);(case n1=>k_is);(case n2=>k_is);(case hB=>rw[typeLookup_type,builtinLookup_eq_fast];kernel_rfl);(case lk=>k_is);(case hcd=>k_is);(case sc=>exact⟨rfl,rfl,rfl,by decide +kernel,rfl,by decide +kernel,by decide +kernel⟩);(case l1=>rfl);(case l2=>rfl);(case hb=>exact λ_ _=>rfl);(case ne=>decide);(case nd=>decide);(case nc=>decide);(case m=>k_is);(case e4=>kernel_rfl);(case e5=>kernel_rfl);(case e6=>kernel_rfl);(case a2=>kernel_rfl);(case a3=>kernel_rfl))
    | (exact⟨_,PySem.W.mg_of Z G rfl⟩)
    | (refine' D3.VH Z G ?yz ?yl ?yc ?yd;(case yz=>k_is);(case yl=>k_is);(case yc=>rfl);(case yd=>rfl))
    | (refine' XI.Ux ?b ?b1 ?a ?l ?c ?f ?k ?hT ?hs;(case a=>k_is);(case l=>k_is);(case c=>k_is);(case k=>k_is);(case f=>k_is);(case hT=>k_is);(case hs=>rfl);(case b=>intro _ _ _ _ _ _;repeat(first|exact D3.len0 rfl|exact D3.len0 ⟨_,rfl,rfl⟩|refine D3.Nz λ_=>?_));(case b1=>intro _ _ _ _ _ _;refine D3.ah4 ?_;repeat(first|exact D3.len0 rfl|exact D3.len0 ⟨_,rfl,rfl⟩|refine D3.Nz λ_=>?_)))
  obtain⟨f,fd,F,b,m⟩:=T.d_law.ex;have R:=X.symm.trans m
  cases R;exact⟨fd,b,λbase P Q=>K81.Zr T F⟩
 case S=>exact λK H a ns hl U V=>⟨a,ns,U,rfl,V,hl,λ_=>rfl⟩
 case C=>exact λ_ _ _ _ z=>z
